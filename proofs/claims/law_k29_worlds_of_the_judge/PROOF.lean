import PyProof.Rows.All
import Wide.All
import OpenK.AllK
import Wide.FinOn
import PySem.Challenge.RW_clashbook_k29_worlds_of_the_judge
set_option maxHeartbeats 4000000
set_option compiler.extract_closed false
set_option bootstrap.genMatcherCode false
noncomputable section
namespace PySem.W.Fast
variable(x:Prop)
def tw17397761161232982151:=x
def tw11917341882464078286:=x
def tw8442954970757953411:=x
def tw11997001156507206634:=x
def tw4927055050442792738:=x
def tw9335245151859720627:=x
def tw10716890464291971429:=x
def tw2726289648261309258:=x
def tw18375434547874645944:=x
def tw5644558875475132936:=x
def tw4141425550403466007:=x
def tw8247357585555944533:=x
def tw6510532657636078402:=x
def tw1813888773947455584:=x
def tw633429703265697343:=x
def tw9686456171088854526:=x
def tw6380615903000254372:=x
def tw5074201869469395240:=x
def tw18218948008292438445:=x
def tw14847966684990629326:=x
def tw3432559074264713184:=x
def tw13755000030562305109:=x
def tw14405484541488361336:=x
def tw13611572674348666748:=x
def tw14636202048467773480:=x
def tw7191958733686532753:=x
def tw1558521281320933637:=x
def tw8600422378850987343:=x
def tw15093073609579701901:=x
def tw8328951852199824705:=x
def tw5447061382169848847:=x
def tw9554939893022083582:=x
def tw10799960819096376458:=x
def tw7963565478556307809:=x
def tw9035943108120752944:=x
def tw807516669166666452:=x
def tw176630155603396584:=x
def tw13136690744477965018:=x
def tw9154003554288115123:=x
def tw1980235508550940562:=x
def tw14948387263535174516:=x
def tw12931608055530848092:=x
def tw6876793173739631451:=x
def tw3487184923796890944:=x
def tw11765122629334220554:=x
def tw2235220105363907303:=x
def tw2959549897103983449:=x
def tw2451340521837070000:=x
def tw7371997287805140656:=x
def tw18028197458827639124:=x
def tw11498195983777449568:=x
def tw5202022406412323685:=x
def tw5712676653471690475:=x
def tw2935399876793503981:=x
def tw3916753857103085837:=x
def tw5692317947566972556:=x
def tw1408955291722500195:=x
def tw1580787635546287256:=x
def tw14175263891387596409:=x
def tw13489778477392904364:=x
def tw8530023059313233788:=x
def tw810998763379266034:=x
def tw18032587155113289067:=x
def tw3047499173425884926:=x
def tw14796300674661115253:=x
def tw11473993612318717039:=x
def tw2332966510954773249:=x
def tw16634327938634256328:=x
def tw2773849321514722816:=x
def tw12464627148042420664:=x
def tw907929746708390190:=x
def tw1380545643416048609:=x
def tw14626180992756290925:=x
def tw4029761330056189153:=x
def tw8341074351217822577:=x
def tw12061390810000672613:=x
def tw5154040579093488977:=x
def tw3117258888618948202:=x
def tw6712121545330833731:=x
def tw9980704944141639488:=x
def tw11408997487163724973:=x
def tw15266407614310327779:=x
def tw7576156759101157263:=x
def tw10714015381809190730:=x
def tw9395197667863411542:=x
def tw9477603773575390682:=x
def tw10540383786761552635:=x
def tw10214911126836652621:=x
def tw4668926712054123424:=x
def tw13015169856727516634:=x
def tw9915509388884517903:=x
def tw11376557234892994042:=x
def tw17568997761408114721:=x
def tw8650099117380026725:=x
def tw1672458280853856541:=x
def tw16752730382226166604:=x
def tw3829115330234056125:=x
def tw18181499259854996134:=x
def tw17704309007877767729:=x
def tw536044014107850525:=x
def tw15938648452207351758:=x
def tw7428999259250186923:=x
def tw12999317399393875391:=x
def tw9945385036400786350:=x
def tw10310144979022035877:=x
def tw3210638193754854700:=x
def tw9802267657646915001:=x
def tw9009989556555996707:=x
def tw10784509306613346522:=x
def tw848327343273381614:=x
def tw17914010228417436245:=x
def tw16608952115844333856:=x
def tw15919591179339167786:=x
def tw7979631732942004159:=x
def tw12044776118690071466:=x
def tw9560466478114337726:=x
def tw14827350794685971040:=x
def tw12332090272768479778:=x
def tw13481841668199113916:=x
def tw8545891177904975810:=x
def tw18183185753774399978:=x
def tw14564034133424486975:=x
def tw17264645518724879774:=x
def tw4547097677604906621:=x
def tw17460189660000112300:=x
def tw13904127010031513701:=x
def tw15257711856647952242:=x
def tw7550213918962039937:=x
def tw5809435426253415252:=x
def tw898347600736438246:=x
def tw9170556755435997137:=x
def tw16885996166447609019:=x
def tw3411405476237518865:=x
def tw10743961991876694278:=x
def tw8623814524441985502:=x
def tw17597015384279867332:=x
def tw14360998377977192518:=x
def tw2251046465816785507:=x
def tw10393054585319245919:=x
def tw309991332876124270:=x
def tw5082738781760672518:=x
def tw17193202787109475607:=x
def tw7668378790375438312:=x
def tw6397172315111381378:=x
def tw18064921648338353206:=x
def tw15256480061809448788:=x
def tw3956931403274560995:=x
def tw8472865352950464180:=x
def tw10730214590536033139:=x
def tw2103016880500554284:=x
def tw3473419373017504934:=x
def tw17109533660250396826:=x
def tw14830067344767197827:=x
def tw1615099040291005483:=x
def tw12356374888968315839:=x
def tw4665625631317907058:=x
def tw9183488434792292115:=x
def tw9905749498113286613:=x
def tw3534923660457106974:=x
def tw3777548903385954257:=x
def tw16848084336591928326:=x
def tw4603056847984800146:=x
def tw2442264124086685206:=x
def tw470704792747219856:=x
def tw12849255912665624603:=x
def tw1192132054447494067:=x
def tw15759992594881512251:=x
def tw15487476368007756304:=x
def tw11915346439256633861:=x
def tw11872337735519947660:=x
def tw16300746053856157922:=x
def tw6314755518477056504:=x
def tw15323227455100587101:=x
def tw11783929499499722575:=x
def tw10933616074268337831:=x
def tw10967461263262566492:=x
def tw5613079387519679570:=x
def tw1379302860566000267:=x
def tw17845690255953529417:=x
def tw15133228080005144931:=x
def tw1605374828550197759:=x
def tw13868461931151643754:=x
def tw7323838944249351744:=x
def tw6047774168739672050:=x
def tw14765538935343911876:=x
def tw4133872367112965303:=x
def tw7772407151314462444:=x
def tw17276845602774984839:=x
def tw6862187535073567859:=x
def tw16772714874338868829:=x
def tw6535187968750797653:=x
def tw9500659746383528467:=x
def tw9916752223736621943:=x
def tw799648401062725653:=x
def tw13238831907596806571:=x
def tw3582595533265655216:=x
def tw16090636839984312848:=x
def tw5632513729383652140:=x
def tw502866091678181743:=x
def tw14699777928538457400:=x
def tw8830678504141259174:=x
def tw1719220509259040218:=x
def tw14532221076865348091:=x
def tw15012173657867398989:=x
def tw5610961657196615542:=x
def tw17931957623320448724:=x
def tw15543840642580495884:=x
def tw9404048359610467490:=x
def tw10447292869630442499:=x
def tw7938178208987883968:=x
def tw4857021972528872988:=x
def tw16688369333358663805:=x
def tw13535115711834886891:=x
def tw8379489521631175067:=x
def tw12789029476054235566:=x
def tw17071056304729638969:=x
def tw11064924302788750658:=x
def tw7050430496375446747:=x
def tw17658789465202533276:=x
def tw1353367812767415650:=x
def tw16287235198251092475:=x
def tw6157923958229921847:=x
def tw5057632551742263403:=x
def tw1385951085415107440:=x
def tw992174762539428302:=x
def tw5982329389684280783:=x
def tw5694905538640971528:=x
def tw513738042412126622:=x
def tw2092623875308968922:=x
def tw16975835397926436611:=x
def tw14592105974956282004:=x
def tw13268110880273871911:=x
def tw2085191811703386667:=x
def tw3951117114787311258:=x
def tw12627297994202255866:=x
def tw13585516375891246765:=x
def tw5293501014600077426:=x
def tw18400909739623810500:=x
def tw13338565930803328708:=x
def tw938868045421313947:=x
def tw17840860954724703203:=x
def tw13205142385562963675:=x
def tw16618818704476029146:=x
def tw2591132692896759252:=x
def tw15690238837017663083:=x
def tw10363494726300820449:=x
def tw9782177733924843666:=x
def tw8725073305966647323:=x
def tw6971396806012657558:=x
def tw6143774404443549423:=x
def tw1929266989917085307:=x
def tw1567427846548540334:=x
def tw11886664215043579315:=x
def tw11492014568692380844:=x
def tw6040212860131304550:=x
def tw2959704619844026359:=x
def tw16709295483173096659:=x
def tw6651269311191666597:=x
def tw16307608446699283995:=x
def tw15895561715515854506:=x
def tw15067876839907778227:=x
def tw9527259195438507088:=x
def tw10245723441422162463:=x
def tw17797524008855467751:=x
def tw16465534624215018185:=x
def tw8168015631915451666:=x
def tw7493387251321105320:=x
def tw4792541207109103993:=x
def tw17075307975000128125:=x
def tw13631120727475289186:=x
def tw9265152178740825392:=x
def tw8241781390271866251:=x
def tw13374248997494499645:=x
def tw1237150375298502833:=x
def tw13301317213261949274:=x
def tw226015154231426716:=x
def tw14576296262428574965:=x
def tw15961285226692000945:=x
def tw6594356533819493801:=x
def tw5183033036945617957:=x
def tw406190880471813897:=x
def tw3304555513079896788:=x
def tw2544099614810549732:=x
def tw18203909401775927220:=x
def tw17832539140954725034:=x
def tw16669205011819130305:=x
def tw1663247543449672330:=x
def tw13803752249639616372:=x
def tw11739279176619017147:=x
def tw10308492586420281014:=x
end PySem.W.Fast
set_option genSizeOfSpec false
set_option Elab.async false
set_option linter.all false
set_option maxRecDepth 100000
abbrev aH:=@if_neg
abbrev aT:=@if_pos
abbrev bZ:=@decide_eq_true_eq
abbrev cG:=@beq_eq_false_iff_ne
abbrev cJ:=@decide_eq_false
abbrev cM:=@congrArg
abbrev cN:=@decide_eq_true
abbrev cP:=@beq_iff_eq
abbrev dI:=@beq_self_eq_true
open Array renaming length_toList->cI,getElem?_toList->gH,getElem?_eq_getElem->lP,toArray_toList->pE,getElem?_eq_none->rX,toList_inj->OD,getElem?_eq_none_iff->jr
open Bool renaming false_ne_true->aY,and_eq_true->cC,eq_iff_iff->cF,eq_false_iff->dM,false_and->eX,false_eq_true->fH,or_eq_true->iL,and_false->lE,true_and->oP,or_false->rM,false_or->tU,and_true->tV,true_or->HB,not_eq_true->OC,not_false->jq
open Classical renaming byContradiction->rC
open Int renaming toNat_natCast->bE,emod_nonneg->dO,eq_ofNat_of_zero_le->eC,emod_lt_of_pos->gD,ediv_nonneg->bw
open List renaming getElem?_eq_getElem->aA,length_map->aC,getElem?_eq_some_iff->aD,getElem?_map->aF,take_succ_eq_append_getElem->aI,length_append->aK,mem_singleton->aP,map_append->aQ,size_toArray->aR,mem_of_getElem?->aS,take_of_length_le->aU,mem_cons_self->aV,mem_cons_of_mem->aW,mem_append_right->aZ,getD_eq_getElem?_getD->bC,length_take->bD,length_cons->bG,mem_map->bH,mem_cons->bI,mem_append->bJ,mem_range->bL,getElem?_append_left->bM,lookup_cons->bO,length_singleton->bP,getElem?_append_right->bS,getElem_mem->bT,length_range->bU,mem_append_left->bW,map_cons->bY,all_eq_true->cA,pairwise_iff_getElem->cH,mem_filter->cK,append_nil->cL,getElem_of_mem->cQ,not_mem_nil->dA,mem_flatMap->dB,map_map->dC,append_assoc->dD,getElem_toArray->dF,getElem_map->dJ,pairwise_lt_range->dL,filter_append->dN,range_succ->dR,length_filter_le->dX,mem_of_mem_take->eF,find?_cons->eG,take_append_drop->eN,length_eq_zero_iff->eS,findIdx?_eq_some_iff_getElem->eU,length_drop->fF,any_eq_true->fG,getElem?_set_ne->fM,nodup_cons->fS,replicate_succ->fU,getElem?_set_self->fW,getElem_range->gC,length_replicate->gG,all_map->iJ,any_cons->iN,getElem?_of_mem->lD,getElem_inj->lJ,filter_cons->lK,drop_eq_getElem_cons->lN,map_congr_left->lU,getElem?_range->lV,flatMap_append->lW,getElem?_take_of_lt->mD,length_set->mH,length_nil->mI,mem_filterMap->mQ,pairwise_map->nM,nodup_append->nN,flatten_cons->nO,replicate_succ'->pA,mem_of_mem_drop->pC,map_nil->pU,drop_zero->pZ,getElem_take->rE,length_pos_of_mem->rV,getElem?_toArray->sM,filterMap_cons->tM,filterMap_map->DQ,of_mem_zip->bu,nodup_nil->jo,length_eraseIdx_of_lt->jp,rel_of_pairwise_cons->mq,mem_of_find?_eq_some->mr,getElem?_zip_eq_some->mv,getElem?_eq_none_iff->mw
open List.Pairwise renaming filter->fN
open List.Perm renaming refl->nQ
open List.cons renaming inj->tT,injEq->bv
open Nat renaming le_refl->aG,ne_of_lt->bK,lt_of_lt_of_le->bQ,le_trans->bX,zero_le->cS,lt_irrefl->dP,lt_of_le_of_lt->eE,lt_of_succ_le->eW,lt_succ_of_lt->gP,testBit_div_two->hV,sub_self->iG,ne_of_gt->iH,lt_or_eq_of_le->iI,le_succ->lC,testBit_zero->lI,testBit_two_pow->lT,testBit_and->mG,le_of_lt_succ->nK,lt_succ_self->oH,eq_of_testBit_eq->oZ,testBit_two_pow_sub_one->pT,le_of_lt->rT,testBit_or->sS,lt_or_gt_of_ne->DP,zero_add->HA,two_pow_pos->bt,not_lt->jm,mul_le_mul->jn,ge_two_pow_of_testBit->mn
open Nat.succ renaming inj->nJ
open Ne renaming symm->cE
open Option renaming map_eq_some_iff->aL,bind_eq_some_iff->cU,isSome_map->nI,map_eq_none_iff->rS
open Option.some renaming inj->cD,injEq->GZ
open PyProof.Rows renaming callWith_type1->dZ,slot_tuple_getitem->eD
open PyProof.Rows.F renaming plain_set_update_loop->lS,entry_set_update_loop->tL
open PySem renaming wpAny_bind->aE,wpAny_pure->aJ,wpAny_newObj_type->cT,mem_of_lookup->dE,wpAny_holding->dG,sizeLine_eq->dH,wpAny_call_entry->eA,tupleKind_room_in1->eI,wpAny_truthy_bool->fC,wpAny_setState_of->fD,codeAny_builtin->fJ,wpAny_Call_Name_kw->fQ,wpAny_callSpecial?_slot->fZ,wpAny_setField_rec->gL,wpAny_typeOf->hW,plainId_quiet->iE,wpAny_typeNameOfWhole_keyiter->iS,wpAny_mono->iU,wpAny_passesOwn->lA,wpAny_askSetting->mP,wpAny_typeNameOf_keyiter->nH,wpAny_pyIter_list->oW,wpAny_dictEntries->oX,codeAny_mono->oY,wpAny_notOrdered_dict->pL,wpAny_rule->pQ,wpAny_isInstance->pR,atKey_none_of_get->sC,wpAny_comprehension_free->sK,wpAny_attempt->sL,wpAny_pyNext_list_item->tG,call_meetsIn->tH,call_meets->tI,wpAny_execs_nil->tQ,typeLookup_type->tR,wpAny_pyNext_list_end->DN,wpAny_seqItems->GU,wpAny_fieldsOf->GV,storedH_new->GW,isSubtype_type->GY,wpAny_standAt->OM,wpAny_newList->ON,wpAny_load->bp,builtinLookup_eq_fast->ck,wpAny_setEpoch_of->jf,wpAny_pyIter_slot->jg,wpAny_assign_Name->jh,wpAny_Call_method->ji,fits_of_scanBound->jj
open PySem.Around renaming under_plainId->eJ
open PySem.AutoSeq1 renaming wpAny_loadPart'->OB
open PySem.Calls renaming spliced_cons->fR,callWith_builtin->iV,spliced_nil->lO,evalArgs_plain->rA,call_function_entry->rW
open PySem.F renaming plainAttrs_list->cR,type_list_append->dU,slot_list_append->dW,slot_dict_keyiterator_next->eR,called_set->fE,slot_list_extend->gS,slot_list_getattribute->hZ,slot_dict_get->iQ,type_list_extend->mC,plainAttrs_dict->rO,entry_dict_get->rR,args_dict_keyiterator_next_1->tK,entry_dict_keyiterator_next->tS,slot_dict_setdefault->bq,kt_typeCall_dict_1->jk,slot_dict_getitem->mj,plain_extend_loop->ml
open PySem.Heap renaming get?_push_of_some->aO,lt_size->bA,get?_push_size->bF,get?_update_self->fO,size_push->fV,get?_update_other->gI,get?_push_ne->sD
open PySem.Heap.SameBut renaming update->gE
open PySem.Obj renaming data_mapFields->br
open PySem.Paired renaming length->fA
open PySem.PassesOwn renaming never->bR
open PySem.W renaming mg_none_of->cX,mg_of->dS,kia_one->eP,callWith_K->pY,plainGet_of->tJ
open Sum.inr renaming inj->rD
local macro_rules | `(#[$xs,*]) => `(⟨$xs,*⟩)
local macro_rules | `(tactic| calc $e:term) => `(tactic| refine $e)
local macro_rules | `(tactic| let $d:letDecl) => `(tactic| have $d:letDecl)
namespace L2
open PySem PySem.Spec PyProof.Rows
variable {a b f it:Addr} {A:Around} {CX:mh} {op:CmpOp} {X:Cx} {D:DJ} {e iter o tg:Expr} {fd:FuncData} {base h h':Heap} {H H':Hp} {aM:List (Addr×Obj)} {kw:List (Str×Value)} {ch fp:List Addr} {outer:List Env} {N ns ps:List Str} {vs xs:List V} {its us:List Value} {M:Model} {i j n t':Nat} {lM pos':Pos} {P prog:Program} {K:W.Frag} {R:Result->Shared->Prop} {s:Shared} {sp:Sp} {σ:St} {qual:Str} {mA mg:Str->Option Value} {T:String} {ta te:TE} {wi:TI} {tb:TS} {α:Type} {v y:V} {u:Value} {E Q:Value->Shared->Prop} {w:World}
local macro_rules | `(()) => `(by lia)
abbrev eV:=Sum Int Str
noncomputable def XQ:eV->Value->Bool
 | .inl k,v=>Value.isInt k v
 | .inr x,v=>Value.isStrOf x v
noncomputable def keyH(w:World):eV->Int
 | .inl k=>hashInt k
 | .inr x=>hashStr w x
theorem yL:∀{k:eV}{v:Value},XQ k v=true->(∃i t,k=Sum.inl i/\v=Value.int i t)\/(∃x t,k=Sum.inr x/\v=Value.str x t)
 | .inl i,v,h=>by
   obtain⟨t,e⟩:=Value.isInt_shape (k:=i) (v:=v) h;exact .inl #[i,t,rfl,e]
 | .inr x,v,h=>by
   obtain⟨t,e⟩:=Value.isStrOf_shape (x:=x) (v:=v) h;exact .inr #[x,t,rfl,e]
theorem ND(i:Int)(t:Tok):XQ (.inl i) (.int i t)=true:=by simp[XQ,Value.isInt]
theorem NC(x:Str)(t:Tok):XQ (.inr x) (.str x t)=true:=by simp[XQ,Value.isStrOf]
theorem se(a b:Int):decide ((Sum.inl a:eV)=Sum.inl b)=(a==b):=by
 by_cases e:a=b
 ·subst e;simp
 ·let h:¬(Sum.inl a:eV)=Sum.inl b:=λq=>e<|Sum.inl.inj q
  rw[cJ h];exact(cG.mpr e).symm
theorem rp(a b:Str):decide ((Sum.inr a:eV)=Sum.inr b)=decide (a=b):=by
 by_cases e:a=b
 ·subst e;simp
 ·let h:¬(Sum.inr a:eV)=Sum.inr b:=λq=>e<|rD q
  rw[cJ h,cJ e]
theorem r9(a:Int)(b:Str):decide ((Sum.inl a:eV)=Sum.inr b)=false:=cJ λq=>nomatch q
theorem rq(a:Str)(b:Int):decide ((Sum.inr a:eV)=Sum.inl b)=false:=cJ λq=>nomatch q
noncomputable def zX(prog:Program)(w:World):PySem.KeyKind prog w eV where
 is:=XQ
 hash:=keyH w
 inj:=λv a b ha hb=>by
  rcases yL ha with⟨i,t,rfl,rfl⟩ |⟨x,t,rfl,rfl⟩
  ·rcases yL hb with⟨j,u,rfl,e⟩ |⟨y,u,rfl,e⟩
   ·injection e with e1 _;rw[e1]
   ·exact nomatch e
  ·rcases yL hb with⟨j,u,rfl,e⟩ |⟨y,u,rfl,e⟩
   ·exact nomatch e
   ·injection e with e1 _;rw[e1]
 byValue:=λk v h=>by
  rcases yL h with⟨i,t,rfl,rfl⟩ |⟨x,t,rfl,rfl⟩<;>rfl
 pyHash:=λhv h=>by
  rcases yL hv with⟨i,t,rfl,rfl⟩ |⟨x,t,rfl,rfl⟩
  ·exact wpAny_pyHash_int h
  ·exact wpAny_pyHash_str h
 eqBool:=λhu hv h=>by
  rcases yL hu with⟨i,t,rfl,rfl⟩ |⟨x,t,rfl,rfl⟩
  ·rcases yL hv with⟨j,u,rfl,rfl⟩ |⟨y,u,rfl,rfl⟩
   ·rw[se]at h;exact wpAny_eqBool_int h
   ·rw[r9]at h;exact SeqAt.EqAt.int_str i t y u _ _ _ _ h
  ·rcases yL hv with⟨j,u,rfl,rfl⟩ |⟨y,u,rfl,rfl⟩
   ·rw[rq]at h;exact SeqAt.EqAt.str_int x t j u _ _ _ _ h
   ·rw[rp]at h;exact wpAny_eqBool_str h
 «strs»:=λk x t v h=>by
  rcases yL h with⟨i,u,rfl,e⟩ |⟨y,u,rfl,e⟩
  ·exact nomatch e
  ·injection e with e1 _
   subst e1;cases v<;>rfl
theorem CD(prog:Program)(w:World)(i:Int)(t:Tok):(zX prog w).is (.inl i) (.int i t)=true:=ND i t
theorem CC(prog:Program)(w:World)(x:Str)(t:Tok):(zX prog w).is (.inr x) (.str x t)=true:=NC x t
inductive V where
 |non |bl (b:Bool) |int (i:Int) |str (x:Str) |byt (b:Array UInt8) |flt (b:UInt64) |ref (a:Addr) |ty (n:String)
 deriving DecidableEq
def RelV:V->Value->Prop
 | .non,u=>u=Value.none
 | .bl b,u=>u=Value.bool b
 | .int i,u=>∃t,u=Value.int i t
 | .str x,u=>∃t,u=Value.str x t
 | .byt b,u=>∃t,u=Value.bytes b t
 | .flt b,u=>∃t,u=Value.float b t
 | .ref a,u=>u=Value.ref a
 | .ty n,u=>u=Value.type n
abbrev cY:List V->List Value->Prop:=Paired RelV
theorem cY.length(r:cY xs us):xs.length=us.length:=fA r
theorem cY.get:∀{xs:List V}{us:List Value}{i:Nat}{x:V},cY xs us->xs[i]?=some x->∃u,us[i]?=some u/\RelV x u
 |_,_,_,_,.nil,e=>by simp at e
 |_,_,0,_,.cons r _,e=>by simp at e;subst e;exact#[_,rfl,r]
 |_,_,i+1,x,.cons _ t,e=>by
  obtain⟨u,h1,h2⟩:=cY.get (i:=i) (x:=x) t (by simpa using e);exact#[u,by simpa using h1,h2]
theorem cY.set{x:V}{u:Value}(r:RelV x u):∀{xs:List V}{us:List Value}(i:Nat),cY xs us->cY (xs.set i x) (us.set i u)
 |_,_,_,.nil=>.nil
 |_,_,0,.cons _ t=>.cons r t
 |_,_,i+1,.cons q t=>.cons q<|cY.set r i t
theorem cY.append:∀{xs ys:List V}{us ws:List Value},cY xs us->cY ys ws->cY (xs++ys) (us++ws)
 |_,_,_,_,.nil,s=>s
 |_,_,_,_,.cons r t,s=>.cons r<|cY.append t s
theorem cY.take:∀{xs:List V}{us:List Value}(n:Nat),cY xs us->cY (xs.take n) (us.take n)
 |_,_,0,_=>.nil
 |_,_,_+1,.nil=>.nil
 |_,_,n+1,.cons r t=>.cons r<|cY.take n t
theorem cY.drop:∀{xs:List V}{us:List Value}(n:Nat),cY xs us->cY (xs.drop n) (us.drop n)
 |_,_,0,r=>r
 |_,_,_+1,.nil=>.nil
 |_,_,n+1,.cons _ t=>cY.drop n t
def nZ:Option V->Option Value->Prop
 |some v,some u=>RelV v u
 |none,none=>True
 |_,_=>False
def KV{κ:Type}:List (κ×V)->List (κ×Value)->Prop:=Paired λ(p:κ×V)(q:κ×Value)=>p.1=q.1/\RelV p.2 q.2
noncomputable def kV:eV->V
 | .inl i=>.int i
 | .inr x=>.str x
inductive HO where
 |lst (xs:List V)
 |tup (xs:List V)
 |dK (kvs:List (eV×V)) |dT (kvs:List (List eV×V))
 |set (S:Int->Bool) (n:Nat)
 |ins (C dx:Addr) (fs:List (Str×V))
 |own (x:Addr)
 |xd (fs:List (Str×V))
 |met (f x:Addr)
 |rng (lo hi:Int)
 |frz (o:Obj) (u:HO)
 |tbl (ps:Array Value)
 |ext (φ:Heap->Prop)
abbrev Hp:=Addr->Option HO
noncomputable def upd(H:Hp)(a:Addr)(o:HO):Hp:=λb=>if b=a then some o else H b
theorem zA{o:HO}:upd H a o a=some o:=by unfold upd;rw[aT rfl]
theorem zG{o:HO}(h:b≠a):upd H a o b=H b:=by unfold upd;rw[aH h]
theorem HF{o u:HO}:upd (upd H a o) a u=upd H a u:=by
 funext b;unfold upd;split<;>rfl
theorem jU{o u:HO}(h:H a=some o)(h':H b=some u)(d:o≠u):a≠b:=by
 intro e;subst e;rw[h]at h';exact d<|cD h'
theorem yR{o:HO}(h:H a=some o)(h':H b=none):a≠b:=by
 intro e;subst e;rw[h]at h';cases h'
section
variable (P:Program) (w:World)
def eZ(H:Hp)(h:Heap)(a:Addr):HO->Prop
 | .lst xs=>xs.length<=sizeLine/\∃(its:List Value)(n:Nat),cY xs its/\h.get? a=some {cls:=.type "list",data:=.seq its.toArray n}
 | .tup xs=>xs.length<=sizeLine/\∃its:List Value,cY xs its/\IsTup h a its.toArray
 | .dK kvs=>kvs.length<=sizeLine/\(a==sysModules)=false/\∃vs,KV kvs vs/\h.DictOf (zX P w) a vs
 | .dT kvs=>kvs.length<=sizeLine/\(a==sysModules)=false/\∃xs:List (List eV×Addr×Value),
  Paired (λ(p:List eV×V) (q:List eV×Addr×Value)=>p.1=q.1/\H q.2.1=some (.tup<|p.1.map kV)/\RelV p.2 q.2.2) kvs xs/\
  ∃o es ep,h.get? a=some o/\o.ExactDict/\o.data=.dict es ep/\es.toList=xs.map (entryOfKey<|tupleKind<|zX P w)/\(xs.map (·.1)).Nodup
 | .set S n=>h.SetOf (intKind P w) a S n
 | .ins C dx fs=>H dx=some (.own a)/\fs.length<=1000/\dx≠a/\h.get? a=some (W.instObj C dx)/\
  ∃mA,h.Ns1 dx mA/\(∀f,nZ (fs.lookup f)<|mA f)/\PySem.Within mA (fs.map (·.1))
 | .own _=>∃o,h.get? a=some o
 | .xd fs=>∃mA,h.Ns1 a mA/\∀f,nZ (fs.lookup f)<|mA f
 | .rng lo hi=>∃t u v,h.get? a=some {cls:=.type "range",data:=.fields (List.toArray [.int lo t,.int hi u,.int 1 v])}
 | .frz o u=>h.get? a=some o/\eZ H h a u
 | .tbl ps=>h.get? a=some {cls:=.none,data:=.fields ps}
 | .met f x=>h.get? a=some (W.methodObj (.ref f)<|.ref x)
 | .ext φ=>φ h/\(∃o,h.get? a=some o)/\∀h1 h2:Heap,φ h1->(∀o,h1.get? a=some o->h2.get? a=some o)->φ h2
def mV(H:Hp)(h:Heap):Prop:=∀a o,H a=some o->eZ P w H h a o
end
section
variable {o:HO}
theorem eZ.lt(x:eZ P w H h a o):a<h.objs.size:=by
 cases o with
 |lst xs=>obtain⟨_,_,_,_,e⟩:=x;exact bA e
 |tup xs=>obtain⟨_,_,_,p⟩:=x;exact p.lt
 |dK kvs=>obtain⟨_,_,_,_,o,_,_,e,_⟩:=x;exact bA e
 |dT kvs=>obtain⟨_,_,_,_,o,_,_,e,_⟩:=x;exact bA e
 |set S n=>obtain⟨o,_,_,_,e,_⟩:=x;exact bA e
 |ins C dx fs=>obtain⟨_,_,_,e,_⟩:=x;exact bA e
 |own y=>obtain⟨_,e⟩:=x;exact bA e
 |xd fs=>obtain⟨_,⟨_,_,_,e,_⟩,_⟩:=x;exact bA e
 |rng lo hi=>obtain⟨_,_,_,e⟩:=x;exact bA e
 |frz b u=>obtain⟨e,_⟩:=x;exact bA e
 |tbl ps=>exact bA (show h.get? a=some _ from x)
 |met f y=>exact bA (show h.get? a=some _ from x)
 |ext φ=>obtain⟨_,⟨_,e⟩,_⟩:=x;exact bA e
theorem Paired.mapP{α β:Type}{F G:α->β->Prop}:∀{l₁:List α}{l₂:List β},Paired F l₁ l₂->(∀a b,F a b->G a b)->Paired G l₁ l₂
 |_,_,.nil,_=>.nil
 |_,_,.cons r t,f=>.cons (f _ _ r)<|Paired.mapP t f
theorem eZ.stay(x:eZ P w H h a o)(k:∀b u,(b=a\/H b=some (.own a))->h.get? b=some u->h'.get? b=some u)
 (ho:∀b,H b=some (.own a)->H' b=some (.own a)) (ht:∀b xs,H b=some (.tup xs)->H' b=some (.tup xs)):eZ P w H' h' a o:=by
 induction o with
 |lst xs=>obtain⟨z,its,n,r,e⟩:=x;exact#[z,its,n,r,k _ _ (.inl rfl) e]
 |tup xs=>obtain⟨z,its,r,g,e,c⟩:=x;exact#[z,its,r,g,k _ _ (.inl rfl) e,c]
 |dK kvs=>obtain⟨z,y,vs,r,g,es,ep,e,c⟩:=x;exact#[z,y,vs,r,g,es,ep,k _ _ (.inl rfl) e,c]
 |dT kvs=>
  obtain⟨z,y,xs,r,g,es,ep,e,c⟩:=x;exact#[z,y,xs,Paired.mapP r λp q z=>#[z.1,ht _ _ z.2.1,z.2.2],g,es,ep,k _ _ (.inl rfl) e,c]
 |set S n=>obtain⟨g,es,ep,t,e,c⟩:=x;exact#[g,es,ep,t,k _ _ (.inl rfl) e,c]
 |ins C dx fs=>
  obtain⟨d,z,ne,e,mA,⟨od,es,ep,i,c⟩,r⟩:=x;exact#[ho _ d,z,ne,k _ _ (.inl rfl) e,mA,#[od,es,ep,k _ _ (.inr d) i,c],r]
 |own y=>obtain⟨g,e⟩:=x;exact#[g,k _ _ (.inl rfl) e]
 |xd fs=>obtain⟨mA,⟨od,es,ep,e,c⟩,r⟩:=x;exact#[mA,#[od,es,ep,k _ _ (.inl rfl) e,c],r]
 |rng lo hi=>obtain⟨t,u,v,e⟩:=x;exact#[t,u,v,k _ _ (.inl rfl) e]
 |frz g u j=>obtain⟨e,q⟩:=x;exact#[k _ _ (.inl rfl) e,j q]
 |tbl ps=>
  let e:h.get? a=some {cls:=.none,data:=.fields ps}:=x;show h'.get? a=some {cls:=.none,data:=.fields ps};exact k a _ (.inl rfl) e
 |met f y=>
  let e:h.get? a=some (W.methodObj (.ref f)<|.ref y):=x;show h'.get? a=some (W.methodObj (.ref f)<|.ref y);exact k a _ (.inl rfl) e
 |ext φ=>obtain⟨p,⟨o,e⟩,st⟩:=x;exact#[st _ _ p λo q=>k _ _ (.inl rfl) q,#[o,k _ _ (.inl rfl) e],st]
theorem mV.lt(x:mV P w H h)(e:H a=some o):a<h.objs.size:=(x a o e).lt
theorem mV.fresh(x:mV P w H h)(e:h.objs.size<=a):H a=none:=by
 cases q:H a with
 |none=>rfl
 |some u=>exact absurd (bQ (x.lt q) e)<|dP _
theorem mV.kept(x:mV P w H h)(k:∀b u,h.get? b=some u->h'.get? b=some u):mV P w H h':=λa o e=>
 (x a o e).stay (λb u _ q=>k b u q) (λ_ q=>q) λ_ _ q=>q
theorem mV.laid(x:mV P w H h)(k:∀b u,h.get? b=some u->h'.get? b=some u)(hp:h.objs.size<=a)(new:eZ P w (upd H a o) h' a o):mV P w (upd H a o) h':=λb u e=>by
 let hn:=x.fresh hp;by_cases hb:b=a
 ·subst hb;rw[zA]at e;cases e;exact new
 ·rw[zG hb]at e;exact(x b u e).stay (λc v _ q=>k c v q) (λc q=>by rw[zG<|yR q hn];calc q) λc xs q=>by rw[zG<|yR q hn];exact q
end
def Rd(H:Hp)(a:Addr)(u:HO):Prop:=H a=some u\/∃o,H a=some (.frz o u)
theorem Rd.ok{u:HO}(r:Rd H a u)(x:mV P w H h):eZ P w H h a u:=by
 rcases r with r |⟨o,r⟩
 ·exact x a u r
 ·obtain⟨_,q⟩:=x a _ r;exact q
def Mut:Option HO->Prop
 |some (.lst _)=>True
 |some (.dK _)=>True
 |some (.dT _)=>True
 |some (.set _ _)=>True
 |some (.ins _ _ _)=>True
 |some (.ext _)=>True
 |_=>False
section
variable {x e:Addr} {o':HO}
theorem mV.write(ok:mV P w H h)(mu:Mut (H x))(he:e=x\/H e=some (.own x))(k:∀b u,b≠e->h.get? b=some u->h'.get? b=some u)(heo:∃u,h'.get? e=some u)
 (new:eZ P w (upd H x o') h' x o'):mV P w (upd H x o') h':=λb u q=>by
 let nown:∀c y,H c=some (.own y)->c≠x:=λc y r z=>by subst z;rw[r]at mu;exact mu
 let ntup:∀c xs,H c=some (.tup xs)->c≠x:=λc xs r z=>by subst z;rw[r]at mu;exact mu
 by_cases hb:b=x
 ·subst hb;rw[zA]at q;cases q;exact new
 ·rw[zG hb]at q;by_cases a:b=e
  ·let d:H b=some (.own x):=by
    rcases he with z |z
    ·exact absurd (a.trans z) hb
    ·rw[a];exact z
   rw[q]at d;cases d;obtain⟨v,f⟩:=heo;exact#[v,by rw[a];calc f]
  ·refine(ok b u q).stay (λc v hc r=>k c v ?_ r) (λc r=>by rw[zG<|nown c b r];calc r) λc xs r=>by rw[zG<|ntup c xs r];exact r
   rcases hc with rfl |hc
   ·exact a
   ·rintro rfl;rcases he with z |z
    ·exact nown c b hc z
    ·rw[hc]at z;cases z;exact hb rfl
end
structure Un(fs ex:List Addr)(H H':Hp)(h h':Heap):Prop where
 keep:∀b o,h.get? b=some o->H b=none->b∉fs->b∉ex->h'.get? b=some o
 slot:∀b o,h.get? b=some o->H b=none->b∈fs->b∉ex->∃sl,h'.get? b=some {o with slots:=sl}
 free:∀b o,h.get? b=some o->H b=none->b∉ex->H' b=none
 there:∀b o,h.get? b=some o->b∉ex->∃o',h'.get? b=some o'
 tups:∀b xs,H b=some (.tup xs)->H' b=some (.tup xs)
 frzs:∀b o u,H b=some (.frz o u)->H' b=some (.frz o u)
 tbls:∀b ps,H b=some (.tbl ps)->∃more,H' b=some (.tbl<|ps++more)
section
variable {fs fs' ex ex':List Addr} {H1 H2:Hp} {h1 h2:Heap} {x e:Addr} {o:HO}
theorem Un.any(u:Un fs ex H H1 h h1){ob:Obj}(q:h.get? b=some ob)(n:H b=none)(hx:b∉ex):∃sl,h1.get? b=some {ob with slots:=sl}:=by
 by_cases hb:b∈fs
 ·exact u.slot b ob q n hb hx
 ·exact#[ob.slots,u.keep b ob q n hb hx]
theorem Un.kept(k:∀b u,h.get? b=some u->h'.get? b=some u):Un fs ex H H h h':=
 #[λb a q _ _ _=>k b a q,λb a q _ _ _=>#[a.slots,k b a q],λ_ _ _ n _=>n,λb a q _=>#[a,k b a q],λ_ _ q=>q,λ_ _ _ q=>q,λ_ ps q=>#[(List.toArray []),by rw[q];simp]]
theorem Un.refl:Un fs ex H H h h:=Un.kept λ_ _ q=>q
theorem Un.laid(k:∀b u,h.get? b=some u->h'.get? b=some u)(hp:h.objs.size<=a)(hn:H a=none):Un fs ex H (upd H a o) h h' where
 keep:=λb u q _ _ _=>k b u q
 slot:=λb u q _ _ _=>#[u.slots,k b u q]
 free:=λb u q n _=>by rw[zG<|bK<|bQ (bA q) hp];exact n
 there:=λb u q _=>#[u,k b u q]
 tups:=λb xs q=>by rw[zG<|yR q hn];exact q
 frzs:=λb u xs q=>by rw[zG<|yR q hn];exact q
 tbls:=λb ps q=>#[(List.toArray []),by rw[zG<|yR q hn,q];simp]
theorem Un.write(mu:Mut (H x))(he:e=x\/H e=some (.own x))(k:∀b u,b≠e->h.get? b=some u->h'.get? b=some u)(heo:∃u,h'.get? e=some u):Un fs ex H (upd H x o) h h':=by
 let hx:∀b,H b=none->b≠x:=λb n z=>by subst z;rw[n]at mu;exact mu
 let hb:∀b,H b=none->b≠e:=λb n z=>by
  subst z;rcases he with r |r
  ·exact hx b n r
  ·rw[n]at r;cases r
 let hm:∀b u,H b=some u->¬Mut (some u)->b≠x:=λb u q nm z=>by subst z;rw[q]at mu;exact nm mu
 refine#[λb u q n _ _=>k b u (hb b n) q,λb u q n _ _=>#[u.slots,k b u (hb b n) q],λb u q n _=>by rw[zG<|hx b n];exact n,λb u q _=>?_,
  λb xs q=>by rw[zG<|hm b _ q λz=>z];exact q,λb u xs q=>by rw[zG<|hm b _ q λz=>z];exact q,λb ps q=>#[(List.toArray []),by rw[zG (hm b _ q λz=>z),q];simp]]
 by_cases a:b=e
 ·subst a;exact heo
 ·exact#[u,k b u a q]
end
noncomputable def trk(h:Heap)(H:Hp):List Addr:=(List.range h.objs.size).filter λa=>(H a).isSome
noncomputable def VO(h:Heap)(H:Hp):Heap:=W.hideAll h<|trk h H
theorem NG(h:Heap)(H:Hp):(VO h H).objs.size=h.objs.size:=W.hideAll_size _ _
theorem WT{o:Obj}(e:h.get? b=some o)(n:H b=none):(VO h H).get? b=some o:=
 W.hideAll_get _ e λhm=>by
  let q:(H b).isSome=true:=(cK.mp hm).2;rw[n]at q;simp at q
theorem gh{o:Obj}(e:(VO h H).get? b=some o):h.get? b=some o/\H b=none:=by
 let a:h.get? b=some o:=W.of_hideAll (trk h H) e;calc#[a,?_];cases q:H b with
 |none=>rfl
 |some x=>
  let hm:b∈trk h H:=cK.mpr #[bL.mpr<|bA a,by simp[q]];let z:(VO h H).get? b=none:=W.hideAll_none (trk h H) hm;rw[z]at e;cases e
structure Mod(K:W.Frag)(mg:Str->Option Value)(base:Heap):Prop where
 kin:K.In base
 glob:base.Ns mainGlobals mg
 blt:∃mb,base.Ns builtinsNs mb/\∀x:Str,x≠"__name__"->mb x=bootBuiltins x
 nolimit:base.NoLimit
structure Cx where
 prog:Program
 w:World
 K:W.Frag
 mg:Str->Option Value
 base:Heap
 A:Around
 N:List Str
 s₀:Shared
 H₀:Hp
 env:Env
 outer:List Env
 stack:List Env
 ex:List Addr
 fn:Str->Bool
 calm:Bool
 pn:List (Addr×Obj)
 xe:Value->Shared->Prop
noncomputable def sZ(l:List Env):List Addr:=l.filterMap (·.frame)
abbrev Cx.fs(X:Cx):List Addr:=sZ X.outer
def Vis(sc:Scope)(x:Str):Prop:=sc.names.lookup x=some .local\/sc.names.lookup x=some .cell\/sc.names.lookup x=some .free
def Loc(sc:Scope)(x:Str):Prop:=sc.names.lookup x=some .local\/sc.names.lookup x=some .cell
def Look(env:Env)(h:Heap)(m:Str->Option Value)(x:Str)(u:Value):Prop:=
 (env.kindOf x=some .local/\m x=some u)\/((env.kindOf x=some .cell\/env.kindOf x=some .free)/\∃c,env.cells.lookup x=some c/\h.IsCell c (some u))
structure Cx.Ok(X:Cx):Prop where
 mod:Mod X.K X.mg X.base
 kind:X.env.scope.kind=.function
 glob:X.env.globals=mainGlobals
 blt:X.env.builtins=builtinsNs
 above:X.s₀.heap.objs.size<=X.env.locals
 inj:∀x y c,X.env.cells.lookup x=some c->X.env.cells.lookup y=some c->x=y
 has:∀x,(X.env.kindOf x=some .cell\/X.env.kindOf x=some .free)->∃c,X.env.cells.lookup x=some c
 cab:∀x c,X.fn x=true->X.env.cells.lookup x=some c->X.s₀.heap.objs.size<=c
 hd:X.calm=true->X.A.handled=none
 frames:X.A.frames=some X.stack
 stk:X.stack=X.outer\/(X.stack=X.env::X.outer/\X.env.frame=some X.env.locals)
 exf:∀b∈X.ex,b≠X.env.locals/\∀x c,X.env.cells.lookup x=some c->c≠b
 bs:∀b o,X.base.get? b=some o->X.s₀.heap.get? b=some o/\X.H₀ b=none
 bsz:X.base.objs.size<=X.s₀.heap.objs.size
 noex:∀b o,X.base.get? b=some o->b∉X.ex
 exfs:∀b∈X.ex,b∉X.fs
 funs:X.s₀.heap.FunFrames X.base X.outer
 frf:∀b∈X.fs,X.H₀ b=none
structure Inv(X:Cx)(aM:List (Addr×Obj))(σ:List (Option V))(H:Hp)(s:Shared):Prop where
 ok:X.Ok
 os:s.os=X.s₀.os
 bare:AllBare s.gens
 base:Un X.fs X.ex X.H₀ H X.s₀.heap s.heap
 loc:∃m,s.heap.Ns X.env.locals m/\∀(i:Nat)(x:Str)(v:V),X.N[i]?=some x->σ[i]?=some (some v)->Vis X.env.scope x->∃u,RelV v u/\Look X.env s.heap m x u
 cell:∀x c,X.env.cells.lookup x=some c->∃v,s.heap.IsCell c v
 free:H X.env.locals=none
 freeC:∀x c,X.env.cells.lookup x=some c->H c=none
 pin:∀p∈X.pn++aM,s.heap.get? p.1=some p.2/\H p.1=none/\p.1≠X.env.locals/\p.1∉X.fs/\∀v,p.2.data≠.cell v
 hok:mV X.prog X.w H s.heap
 len:σ.length=X.N.length
section
variable {σ:List (Option V)}
theorem Cx.Ok.nofr(ok:X.Ok){o:Obj}(e:X.base.get? b=some o):b∉X.fs:=λhb=>by
 have :=(ok.funs.mem hb).1;rw[e]at this;cases this
theorem Inv.bs(I:Inv X aM σ H s):∀b o,X.base.get? b=some o->s.heap.get? b=some o/\H b=none:=λb o e=>
 #[I.base.keep b o (I.ok.bs b o e).1 (I.ok.bs b o e).2 (I.ok.nofr e) (I.ok.noex b o e),I.base.free b o (I.ok.bs b o e).1 (I.ok.bs b o e).2 (I.ok.noex b o e)]
theorem Inv.bk(I:Inv X aM σ H s):∀b o,X.base.get? b=some o->s.heap.get? b=some o:=λb o e=>(I.bs b o e).1
theorem Inv.mod(I:Inv X aM σ H s):Mod X.K X.mg X.base:=I.ok.mod
theorem Inv.kIn(I:Inv X aM σ H s):X.K.In s.heap:=I.ok.mod.kin.keeps I.bk
theorem Inv.lt(I:Inv X aM σ H s):X.env.locals<s.heap.objs.size:=let ⟨_,hn,_⟩:=I.loc;hn.lt
theorem Inv.sz(I:Inv X aM σ H s):X.s₀.heap.objs.size<=s.heap.objs.size:=bX I.ok.above<|rT I.lt
theorem Inv.nofs(I:Inv X aM σ H s)(h:s.heap.objs.size<=a):a∉X.fs:=λhb=>by
 obtain⟨_,o,b,_⟩:=I.ok.funs.mem hb;exact absurd (bQ (bA b)<|bX I.sz h)<|dP _
theorem Inv.cne(I:Inv X aM σ H s):∀x c,X.env.cells.lookup x=some c->c≠X.env.locals:=λx c e z=>by
 obtain⟨v,o,d,hd⟩:=I.cell x c e;obtain⟨m,⟨o',es,ep,a,b,_⟩,_⟩:=I.loc;rw[z,a]at d;cases d;rw[b]at hd;cases hd
theorem Inv.funs(I:Inv X aM σ H s):s.heap.FunFrames X.base X.outer:=by
 let all:∀(l:List Env),(∀b∈sZ l,b∈X.fs)->X.s₀.heap.FunFrames X.base l->s.heap.FunFrames X.base l:=by
  intro l
  induction l with
  |nil=>intro _ _;trivial
  |cons env r c=>
   intro hs hl;obtain⟨hk,⟨L,o,hf,hn,d,hd⟩,hr⟩:=hl;let a:L∈X.fs:=hs L (by unfold sZ;rw[tM,hf];calc aV);obtain⟨sl,e⟩:=I.base.slot L o d (I.ok.frf L a) a λz=>I.ok.exfs L z a
   exact#[hk,#[L,_,hf,hn,e,hd],c (λb hb=>hs b (by unfold sZ;rw[tM,hf];calc aW _ hb)) hr]
 exact all X.outer (λ_ hb=>hb) I.ok.funs
theorem Inv.stack(I:Inv X aM σ H s):s.heap.FunFrames X.base X.stack:=by
 rcases I.ok.stk with e |⟨e,hf⟩
 ·rw[e];exact I.funs
 ·rw[e];obtain⟨m,hn,_⟩:=I.loc;calc .cons (by rw[I.ok.kind];decide) hf hn ?_ I.funs;exact Heap.get?_none_of_le<|bX I.ok.bsz I.ok.above
theorem Inv.stkSub(I:Inv X aM σ H s):∀b∈sZ X.stack,b∈X.env.locals::X.fs:=λb hb=>by
 rcases I.ok.stk with e |⟨e,hf⟩
 ·rw[e]at hb;exact aW _ hb
 ·rw[e]at hb;unfold sZ at hb;rw[tM,hf]at hb;exact hb
theorem Inv.stkFree(I:Inv X aM σ H s):∀b∈sZ X.stack,H b=none:=λb hb=>by
 rcases bI.mp (I.stkSub b hb)with e |hb
 ·rw[e];exact I.free
 ·obtain⟨_,o,a,_⟩:=I.ok.funs.mem hb;exact I.base.free b o a (I.ok.frf b hb) λz=>I.ok.exfs b z hb
theorem Inv.step{g':Array GenState}{d':Drawn}(I:Inv X aM σ H s)
 (hch:∀b∈ch,(b∈X.ex\/X.s₀.heap.objs.size<=b)/\b≠X.env.locals/\(∀x c,X.env.cells.lookup x=some c->c≠b)/\∀p∈X.pn++aM,p.1≠b)
 (keep:∀b o,b≠X.env.locals->b∉X.fs->b∉ch->s.heap.get? b=some o->H b=none->h'.get? b=some o)
 (slot:∀b o,b≠X.env.locals->b∈X.fs->b∉ch->s.heap.get? b=some o->H b=none->∃sl,h'.get? b=some {o with slots:=sl}) (free:∀b o,b∉ch->s.heap.get? b=some o->H b=none->H' b=none)
 (there:∀b o,b∉ch->s.heap.get? b=some o->∃o',h'.get? b=some o')
 (tups:∀b xs,H b=some (.tup xs)->H' b=some (.tup xs)) (frzs:∀b o u,H b=some (.frz o u)->H' b=some (.frz o u)) (tbls:∀b ps,H b=some (.tbl ps)->∃more,H' b=some (.tbl<|ps++more))
 (ns:∀m,s.heap.Ns X.env.locals m->h'.Ns X.env.locals m) (hok:mV X.prog X.w H' h') (hg:AllBare g'):
 Inv X aM σ H' {s with heap:=h',gens:=g',drawn:=d',toks:=t'}:=by
 let neL:∀b o,X.s₀.heap.get? b=some o->b≠X.env.locals:=λb o e=>bK<|bQ (bA e) I.ok.above
 let neC:∀b o,X.s₀.heap.get? b=some o->b∉X.ex->b∉ch:=λb o e hx hb=>by
  rcases(hch b hb).1 with z |z
  ·exact hx z
  ·exact absurd (bQ (bA e) z)<|dP _
 let cellK:∀x c,X.env.cells.lookup x=some c->∀v,s.heap.IsCell c v->h'.IsCell c v:=λx c e v ⟨o,f,hd⟩=>by
  let nch:c∉ch:=λz=>(hch c z).2.2.1 x c e rfl
  by_cases hc:c∈X.fs
  ·obtain⟨sl,q⟩:=slot c o (I.cne x c e) hc nch f<|I.freeC x c e;exact#[_,q,hd]
  ·exact#[o,keep c o (I.cne x c e) hc nch f<|I.freeC x c e,hd]
 refine#[I.ok,I.os,hg,#[λb o e n hb hx=>?_,λb o e n hb hx=>?_,λb o e n hx=>?_,λb o e hx=>?_,λb xs e=>tups b xs<|I.base.tups b xs e,λb o xs e=>frzs b o xs<|I.base.frzs b o xs e,λb ps e=>?_],?_,λx c e=>?_,?_,λx c e=>?_,λp hp=>?_,hok,I.len]
 ·exact keep b o (neL b o e) hb (neC b o e hx) (I.base.keep b o e n hb hx)<|I.base.free b o e n hx
 ·obtain⟨sl,a⟩:=I.base.slot b o e n hb hx;obtain⟨h,g⟩:=slot b _ (neL b o e) hb (neC b o e hx) a<|I.base.free b o e n hx;exact#[h,g]
 ·obtain⟨o',a⟩:=I.base.there b o e hx;exact free b o' (neC b o e hx) a<|I.base.free b o e n hx
 ·obtain⟨o',a⟩:=I.base.there b o e hx;exact there b o' (neC b o e hx) a
 ·obtain⟨m1,a⟩:=I.base.tbls b ps e;obtain⟨t,g⟩:=tbls b _ a;exact#[m1++t,by rw[g,Array.append_assoc]]
 ·obtain⟨m,hn,hl⟩:=I.loc;calc#[m,ns m hn,λi x v a g y=>?_];obtain⟨u,r,l⟩:=hl i x v a g y;calc#[u,r,?_];rcases l with l |⟨k,c,e,z⟩
  ·exact .inl l
  ·exact .inr #[k,c,e,cellK x c e _ z]
 ·obtain⟨v,z⟩:=I.cell x c e;exact#[v,cellK x c e v z]
 ·obtain⟨m,⟨o,_,_,f,_⟩,_⟩:=I.loc;exact free _ o (λz=>(hch _ z).2.1 rfl) f I.free
 ·obtain⟨v,o,f,hd⟩:=I.cell x c e;exact free c o (λz=>(hch c z).2.2.1 x c e rfl) f<|I.freeC x c e
 ·obtain⟨e,n,ne,j,d⟩:=I.pin p hp;let nch:p.1∉ch:=λz=>(hch p.1 z).2.2.2 p hp rfl
  exact#[keep p.1 p.2 ne j nch e n,free p.1 p.2 nch e n,ne,j,d]
theorem Inv.un(I:Inv X aM σ H s)(u:Un X.fs [] H H' s.heap h')(hok:mV X.prog X.w H' h'):Inv X aM σ H' {s with heap:=h',toks:=t'}:=by
 obtain⟨m,⟨o,es,ep,f,r⟩,_⟩:=id I.loc;obtain⟨sl,g⟩:=u.any f I.free (by simp);exact I.step (g':=s.gens) (d':=s.drawn) (ch:=[]) (λ_ z=>nomatch z) (λb o _ hb _ e n=>u.keep b o e n hb (by simp)) (λb o _ hb _ e n=>u.slot b o e n hb (by simp)) (λb o _ e n=>u.free b o e n (by simp)) (λb o _ e=>u.there b o e (by simp)) u.tups u.frzs u.tbls (λi hm=>by
  obtain⟨o',c,d,a,h⟩:=hm;rw[f]at a;cases a;calc#[_,c,d,g,h]) hok I.bare
theorem Inv.call{g':Array GenState}{d':Drawn}(I:Inv X aM σ H s)(u:Un (sZ X.stack) ch H H' s.heap h')(hok:mV X.prog X.w H' h')(hg:AllBare g')
 (hch:∀b∈ch,(b∈X.ex\/X.s₀.heap.objs.size<=b)/\b≠X.env.locals/\(∀x c,X.env.cells.lookup x=some c->c≠b)/\∀p∈X.pn++aM,p.1≠b):
 Inv X aM σ H' {s with heap:=h',gens:=g',drawn:=d',toks:=t'}:=by
 obtain⟨m,⟨o,es,ep,h,r⟩,_⟩:=id I.loc;obtain⟨sl,d⟩:=u.any h I.free λz=>(hch _ z).2.1 rfl
 exact I.step (ch:=ch) hch (λb o d hb hc e n=>u.keep b o e n (λz=>(bI.mp<|I.stkSub b z).elim d hb) hc) (λb o _ _ hc e n=>u.any e n hc) (λb o hc e n=>u.free b o e n hc) (λb o hc e=>u.there b o e hc) u.tups u.frzs u.tbls (λj hm=>by
  obtain⟨o',f,g,a,i⟩:=hm;rw[h]at a;cases a;calc#[_,f,g,d,i]) hok hg
theorem Inv.turned(I:Inv X aM σ H s)(k:∀b o,b≠it->s.heap.get? b=some o->h'.get? b=some o)(hn:H it=none)(hL:it≠X.env.locals)
 (h1:it∈X.ex\/X.s₀.heap.objs.size<=it) (h2:∀x c,X.env.cells.lookup x=some c->c≠it) (h3:∀p∈X.pn++aM,p.1≠it):Inv X aM σ H {s with heap:=h',toks:=t'}:=by
 let nit:∀b u,H b=some u->b≠it:=λb u e z=>by rw[z,hn]at e;cases e
 refine I.step (g':=s.gens) (d':=s.drawn) (ch:=[it]) (λb hb=>?_) (λb o _ _ hc e _=>k b o (λz=>hc (by simp[z])) e) (λb o _ _ hc e _=>#[o.slots,k b o (λz=>hc (by simp[z])) e]) (λ_ _ _ _ n=>n)
  (λb o hc e=>#[o,k b o (λz=>hc (by simp[z])) e]) (λ_ _ e=>e) (λ_ _ _ e=>e) (λb ps e=>#[(List.toArray []),by rw[e];simp]) (λm hm=>?_) (λb u e=>?_) I.bare
 ·let e:b=it:=by simpa using hb
  subst e;exact#[h1,hL,h2,h3]
 ·obtain⟨o,es,ep,a,r⟩:=hm;exact#[o,es,ep,k _ o (cE hL) a,r]
 ·refine(I.hok b u e).stay (λc v hc q=>k c v ?_ q) (λ_ q=>q) λ_ _ q=>q
  rcases hc with z |z
  ·rw[z];exact nit b u e
  ·exact nit c _ z
theorem Inv.tok(I:Inv X aM σ H s)(t:Nat):Inv X aM σ H {s with toks:=t}:=I.un (h':=s.heap) (t':=t) Un.refl I.hok
theorem Inv.kept(I:Inv X aM σ H s)(k:∀b u,s.heap.get? b=some u->h'.get? b=some u):Inv X aM σ H {s with heap:=h',toks:=t'}:=I.un (Un.kept k)<|I.hok.kept k
theorem Inv.laid{o:HO}(I:Inv X aM σ H s)(k:∀b u,s.heap.get? b=some u->h'.get? b=some u)(hp:s.heap.objs.size<=a)(new:eZ X.prog X.w (upd H a o) h' a o):
 Inv X aM σ (upd H a o) {s with heap:=h',toks:=t'}:=I.un (Un.laid k hp<|I.hok.fresh hp)<|I.hok.laid k hp new
theorem Inv.write{x e:Addr}{o:HO}(I:Inv X aM σ H s)(mu:Mut (H x))(he:e=x\/H e=some (.own x))(k:∀b u,b≠e->s.heap.get? b=some u->h'.get? b=some u)(heo:∃u,h'.get? e=some u)
 (new:eZ X.prog X.w (upd H x o) h' x o):Inv X aM σ (upd H x o) {s with heap:=h',toks:=t'}:=I.un (Un.write mu he k heo)<|I.hok.write mu he k heo new
theorem Inv.pins_of{pins':List (Addr×Obj)}(I:Inv X aM σ H s)(h:∀p∈pins',s.heap.get? p.1=some p.2/\H p.1=none/\p.1≠X.env.locals/\p.1∉X.fs/\∀v,p.2.data≠.cell v):Inv X pins' σ H s:=
 #[I.ok,I.os,I.bare,I.base,I.loc,I.cell,I.free,I.freeC,λp hp=>(bJ.mp hp).elim (λz=>I.pin p<|bW _ z) (h p),I.hok,I.len]
theorem BY(hN:N.Nodup){x:Str}(a:N[i]?=some x)(b:N[j]?=some x):i=j:=by
 obtain⟨h1,c⟩:=aD.mp a;obtain⟨h2,d⟩:=aD.mp b;exact(lJ hN).mp (c.trans d.symm)
theorem kM{x:Str}{Q:Unit->Shared->Prop}(I:Inv X aM σ H s)(hN:X.N.Nodup)(hi:X.N[i]?=some x)(hx:Loc X.env.scope x)(r:RelV v u)
 (h:∀s',Inv X aM (σ.set i<|some v) H s'->(∃a,Heap.SameBut a s.heap s'.heap/\(a=X.env.locals\/X.env.cells.lookup x=some a))->Q Unit.unit s') (hf:X.fn x=true\/X.env.scope.names.lookup x=some .local:=by first |exact .inl rfl |exact .inr rfl |assumption):wpAny M A (storeName X.env x u) Q E s:=by
 obtain⟨m,hn,hl⟩:=id I.loc;let C:(X.env.scope.kind==.class ||(X.env.scope.kind==.module&&X.env.locals !=X.env.globals))=false:=by rw[I.ok.kind];rfl
 let hiσ:i<σ.length:=by rw[I.len];exact(aD.mp hi).1
 let cne:=I.cne;let tracked:∀{a:Addr}{h':Heap},(∃o,s.heap.get? a=some o/\H a=none)->Heap.SameBut a s.heap h'->mV X.prog X.w H h':=λ{a h'} ha hs b W e=>by
  obtain⟨_,_,g⟩:=ha;refine(I.hok b W e).stay (λc K hc q=>(hs.2 c ?_).trans q) (λ_ q=>q) λ_ _ q=>q
  rintro rfl;rcases hc with rfl |hc
  ·rw[g]at e;cases e
  ·rw[g]at hc;cases hc
 rcases hx with hk |hk
 ·calc wpAny_storeName_local hk hn (λh' O hs=>?_) C;obtain⟨oL,_,_,P,_⟩:=id hn;refine h _ #[I.ok,I.os,I.bare,#[λb o e n hb hx=>?_,λb o e n hb hx=>?_,I.base.free,λb o e hx=>?_,I.base.tups,I.base.frzs,I.base.tbls],#[_,O,λj y v' f l R=>?_],λy c e=>?_,I.free,I.freeC,λp hp=>?_,tracked #[oL,P,I.free] hs,by simpa using I.len] #[_,hs,.inl rfl]
  ·exact(hs.2 b<|bK<|bQ (bA e) I.ok.above).trans (I.base.keep b o e n hb hx)
  ·obtain⟨sl,f⟩:=I.base.slot b o e n hb hx;exact#[sl,(hs.2 b<|bK<|bQ (bA e) I.ok.above).trans f]
  ·obtain⟨o',f⟩:=I.base.there b o e hx;exact#[o',(hs.2 b<|bK<|bQ (bA e) I.ok.above).trans f]
  ·by_cases t:j=i
   ·subst t;rw[hi]at f;cases f;rw[fW hiσ]at l;cases l;exact#[u,r,.inl #[hk,by simp]]
   ·rw[fM<|cE t]at l;obtain⟨S,T,q⟩:=hl j y v' f l R;calc#[S,T,?_];rcases q with⟨k,e⟩ |⟨k,c,e,z⟩
    ·calc .inl #[k,?_];have :y≠x:=λe=>t<|BY hN f<|e▸hi
     simp[this,e]
    ·exact .inr #[k,c,e,z.sameBut hs<|cne y c e]
  ·obtain⟨K,z⟩:=I.cell y c e;exact#[K,z.sameBut hs<|cne y c e]
  ·obtain⟨e,n,ne,U,d⟩:=I.pin p hp;exact#[(hs.2 p.1 ne).trans e,n,ne,U,d]
 ·let B:X.fn x=true:=by
   rcases hf with z |z
   ·exact z
   ·rw[z]at hk;cases hk
  obtain⟨c,hc⟩:=I.ok.has x<|.inl hk;obtain⟨K,z⟩:=I.cell x c hc;calc wpAny_storeName_cell I.ok.kind hk hc z λh' D hs=>?_;obtain⟨oc,F,G⟩:=id z;refine h {s with heap:=h'} #[I.ok,I.os,I.bare,#[λb o e n hb hx=>?_,λb o e n hb hx=>?_,I.base.free,λb o e hx=>?_,I.base.tups,I.base.frzs,I.base.tbls],#[m,hn.sameBut hs<|cE<|cne x c hc,λj y v' f l R=>?_],λy L e=>?_,I.free,I.freeC,λp hp=>?_,tracked #[oc,F,I.freeC x c hc] hs,by simpa using I.len] #[c,hs,.inr hc]
  ·exact(hs.2 b<|bK<|bQ (bA e)<|I.ok.cab x c B hc).trans (I.base.keep b o e n hb hx)
  ·obtain⟨sl,f⟩:=I.base.slot b o e n hb hx;exact#[sl,(hs.2 b<|bK<|bQ (bA e)<|I.ok.cab x c B hc).trans f]
  ·obtain⟨o',f⟩:=I.base.there b o e hx;exact#[o',(hs.2 b<|bK<|bQ (bA e)<|I.ok.cab x c B hc).trans f]
  ·by_cases t:j=i
   ·subst t;rw[hi]at f;cases f;rw[fW hiσ]at l;cases l;exact#[u,r,.inr #[.inl hk,c,hc,D]]
   ·rw[fM<|cE t]at l;obtain⟨S,T,q⟩:=hl j y v' f l R;calc#[S,T,?_];rcases q with q |⟨k,L,e,z'⟩
    ·exact .inl q
    ·calc .inr #[k,L,e,z'.sameBut hs ?_];rintro rfl;exact t<|BY hN f<|I.ok.inj _ _ _ e hc▸hi
  ·by_cases J:L=c
   ·subst J;exact#[_,D]
   ·obtain⟨Y,Z⟩:=I.cell y L e;exact#[Y,Z.sameBut hs J]
  ·obtain⟨e,n,ne,U,d⟩:=I.pin p hp;calc#[(hs.2 p.1 ?_).trans e,n,ne,U,d];intro q;rw[q,F]at e;let q':oc=p.2:=cD e;exact d K (by rw[←q'];calc G)
theorem YR{x:Str}{Q:Unit->Shared->Prop}(I:Inv X aM σ H s)(hN:X.N.Nodup)(hi:X.N[i]?=some x)(hx:Loc X.env.scope x)(r:RelV v u)
 (h:∀s',Inv X aM (σ.set i<|some v) H s'->Q Unit.unit s') (hf:X.fn x=true\/X.env.scope.names.lookup x=some .local:=by first |exact .inl rfl |exact .inr rfl |assumption):wpAny M A (storeName X.env x u) Q E s:=
 kM I hN hi hx r (λs' a _=>h s' a) hf
theorem Inv.call'{s':Shared}(I:Inv X aM σ H s)(ho:s'.os=s.os)(u:Un (sZ X.stack) ch H H' s.heap s'.heap)(hok:mV X.prog X.w H' s'.heap)(hg:AllBare s'.gens)
 (hch:∀b∈ch,(b∈X.ex\/X.s₀.heap.objs.size<=b)/\b≠X.env.locals/\(∀x c,X.env.cells.lookup x=some c->c≠b)/\∀p∈X.pn++aM,p.1≠b):Inv X aM σ H' s':=by
 obtain⟨h',g',d',t',o'⟩:=s';let e:o'=s.os:=ho;subst e;exact I.call (g':=g') (t':=t') (d':=d') u hok hg hch
end
abbrev XK:=Value->Option Addr->Hp->Prop
abbrev St:=List<|Option V
abbrev VK:=V->Hp->Prop
abbrev TE:=St->Hp->VK->Prop
abbrev TT:=St->Hp->(Bool->Hp->Prop)->Prop
abbrev TA:=St->Hp->(List V->Hp->Prop)->Prop
structure DJ where
 nx:St->Hp->Prop
 rt:VK
 bk:St->Hp->Prop:=λ_ _=>False
 ct:St->Hp->Prop:=λ_ _=>False
abbrev TS:=DJ->St->Hp->Prop
def EP(X:Cx)(aM:List (Addr×Obj))(σ:St)(Q:VK)(u:Value)(s':Shared):Prop:=∃v H',Inv X aM σ H' s'/\RelV v u/\Q v H'
def TP(X:Cx)(aM:List (Addr×Obj))(σ:St)(Q:Bool->Hp->Prop)(b:Bool)(s':Shared):Prop:=∃H',Inv X aM σ H' s'/\Q b H'
def AP(X:Cx)(aM:List (Addr×Obj))(σ:St)(Q:List V->Hp->Prop)(us:List Value)(s':Shared):Prop:=∃vs H',Inv X aM σ H' s'/\cY vs us/\Q vs H'
def SP(X:Cx)(aM:List (Addr×Obj))(D:DJ)(f:Flow)(s':Shared):Prop:=
 match f with
 | .next=>∃σ' H',Inv X aM σ' H' s'/\D.nx σ' H'
 | .brk=>∃σ' H',Inv X aM σ' H' s'/\D.bk σ' H'
 | .cont=>∃σ' H',Inv X aM σ' H' s'/\D.ct σ' H'
 | .ret u=>∃v σ' H',Inv X aM σ' H' s'/\RelV v u/\D.rt v H'
def PE(X:Cx)(e:Expr)(t:TE):Prop:=
 ∀(aM:List (Addr×Obj))(s:Shared)(σ:St)(H:Hp)(Q:VK),Inv X aM σ H s->t σ H Q->wpAny (model X.prog X.w) X.A (eval e X.env) (EP X aM σ Q) X.xe s
def PT(X:Cx)(e:Expr)(t:TT):Prop:=
 ∀(aM:List (Addr×Obj))(s:Shared)(σ:St)(H:Hp)(Q:Bool->Hp->Prop),Inv X aM σ H s->t σ H Q->wpAny (model X.prog X.w) X.A (isTrue e X.env<|eval e X.env) (TP X aM σ Q) X.xe s
def PW(X:Cx)(e:Expr)(t:TT):Prop:=
 ∀(whole:Sem Value)(aM:List (Addr×Obj))(s:Shared)(σ:St)(H:Hp)(Q:Bool->Hp->Prop),Inv X aM σ H s->t σ H Q->wpAny (model X.prog X.w) X.A (isTrue e X.env whole) (TP X aM σ Q) X.xe s
theorem PW.pt{t:TT}(h:PW X e t):PT X e t:=h _
def PA(X:Cx)(es:List Expr)(t:TA):Prop:=
 ∀(pos:Pos)(aM:List (Addr×Obj))(s:Shared)(σ:St)(H:Hp)(Q:List V->Hp->Prop),Inv X aM σ H s->t σ H Q->wpAny (model X.prog X.w) X.A (spliced<|backTo pos<|starEach es X.env) (AP X aM σ Q) X.xe s
def PS(X:Cx)(st:Stmt)(t:TS):Prop:=
 ∀(aM:List (Addr×Obj))(s:Shared)(σ:St)(H:Hp)(D:DJ),Inv X aM σ H s->t D σ H->wpAny (model X.prog X.w) X.A (exec st X.env) (SP X aM D) X.xe s
def DS(X:Cx)(st:List Stmt)(t:TS):Prop:=
 ∀(aM:List (Addr×Obj))(s:Shared)(σ:St)(H:Hp)(D:DJ),Inv X aM σ H s->t D σ H->wpAny (model X.prog X.w) X.A (execs st X.env) (SP X aM D) X.xe s
theorem eK{t:Sem α}{Q Q':α->Shared->Prop}(h:wpAny M A t Q E s)(hQ:∀a s,Q a s->Q' a s):wpAny M A t Q' E s:=iU h hQ λ_ _ x=>x
def sV(x:V)(k:Int->Prop):Prop:=match x with | .int i=>k i |_=>False
def oI(x:V)(k:Addr->Prop):Prop:=match x with | .ref i=>k i |_=>False
def i7(x:V)(k:Bool->Prop):Prop:=match x with | .bl i=>k i |_=>False
def asS(x:V)(k:Str->Prop):Prop:=match x with | .str i=>k i |_=>False
def asV(x:Option (Option V))(k:V->Prop):Prop:=match x with |some (some i)=>k i |_=>False
def asC(x:List V)(k:V->List V->Prop):Prop:=match x with |v::r=>k v r |_=>False
def rJ(x:List V)(k:V->Prop):Prop:=match x with |[v]=>k v |_=>False
def b7(x:List V)(k:V->V->Prop):Prop:=match x with |[v,u]=>k v u |_=>False
def as0(x:List V)(k:Prop):Prop:=match x with |[]=>k |_=>False
def i6(x:Bool)(k:Prop):Prop:=match x with |true=>k |false=>False
theorem jX{x:V}{k:Int->Prop}(h:sV x k):∃i,x=.int i/\k i:=by cases x<;>first |exact#[_,rfl,h] |exact h.elim
theorem xK{x:V}{k:Addr->Prop}(h:oI x k):∃i,x=.ref i/\k i:=by cases x<;>first |exact#[_,rfl,h] |exact h.elim
theorem DD{x:V}{k:Bool->Prop}(h:i7 x k):∃i,x=.bl i/\k i:=by cases x<;>first |exact#[_,rfl,h] |exact h.elim
theorem asS_{x:V}{k:Str->Prop}(h:asS x k):∃i,x=.str i/\k i:=by cases x<;>first |exact#[_,rfl,h] |exact h.elim
theorem uk{x:Option (Option V)}{k:V->Prop}(h:asV x k):∃i,x=some (some i)/\k i:=by
 rcases x with _ |_ |i
 ·exact h.elim
 ·exact h.elim
 ·exact#[i,rfl,h]
theorem asC_{x:List V}{k:V->List V->Prop}(h:asC x k):∃v r,x=v::r/\k v r:=by
 cases x
 ·exact h.elim
 ·exact#[_,_,rfl,h]
theorem wJ{x:List V}{k:V->Prop}(h:rJ x k):∃v,x=[v]/\k v:=by
 rcases x with _ |⟨v,_ |_⟩
 ·exact h.elim
 ·exact#[_,rfl,h]
 ·exact h.elim
theorem as2_{x:List V}{k:V->V->Prop}(h:b7 x k):∃v u,x=[v,u]/\k v u:=by
 rcases x with _ |⟨v,_ |⟨u,_ |_⟩⟩
 ·exact h.elim
 ·exact h.elim
 ·exact#[_,_,rfl,h]
 ·exact h.elim
theorem as0_{x:List V}{k:Prop}(h:as0 x k):x=[]/\k:=by
 cases x
 ·exact#[rfl,h]
 ·exact h.elim
theorem GL{x:Bool}{k:Prop}(h:i6 x k):x=true/\k:=by
 cases x
 ·exact h.elim
 ·exact#[rfl,h]
theorem asT_e{x:Bool}{k:Prop}:i6 x k=(x=true/\k):=propext #[GL,by rintro⟨rfl,h⟩;calc h]
theorem asT_i{k:Prop}:i6 true k=k:=rfl
theorem mapC{β:Type}{f:α->β}{a:α}{l:List α}:List.map f (a::l)=f a::List.map f l:=rfl
theorem mapN{β:Type}{f:α->β}:List.map f []=[]:=rfl
theorem asI_e{x:V}{k:Int->Prop}:sV x k=∃i,x=.int i/\k i:=propext #[jX,by rintro⟨i,rfl,h⟩;calc h]
theorem asR_e{x:V}{k:Addr->Prop}:oI x k=∃i,x=.ref i/\k i:=propext #[xK,by rintro⟨i,rfl,h⟩;calc h]
theorem asB_e{x:V}{k:Bool->Prop}:i7 x k=∃i,x=.bl i/\k i:=propext #[DD,by rintro⟨i,rfl,h⟩;calc h]
theorem asS_e{x:V}{k:Str->Prop}:asS x k=∃i,x=.str i/\k i:=propext #[asS_,by rintro⟨i,rfl,h⟩;calc h]
theorem asV_e{x:Option (Option V)}{k:V->Prop}:asV x k=∃i,x=some (some i)/\k i:=propext #[uk,by rintro⟨i,rfl,h⟩;calc h]
theorem asC_e{x:List V}{k:V->List V->Prop}:asC x k=∃v r,x=v::r/\k v r:=propext #[asC_,by rintro⟨v,r,rfl,h⟩;calc h]
theorem as1_e{x:List V}{k:V->Prop}:rJ x k=∃v,x=[v]/\k v:=propext #[wJ,by rintro⟨v,rfl,h⟩;calc h]
theorem as2_e{x:List V}{k:V->V->Prop}:b7 x k=∃v u,x=[v,u]/\k v u:=propext #[as2_,by rintro⟨v,u,rfl,h⟩;calc h]
theorem as0_e{x:List V}{k:Prop}:as0 x k=(x=[]/\k):=propext #[as0_,by rintro⟨rfl,h⟩;calc h]
theorem asI_i{i:Int}{k:Int->Prop}:sV (.int i) k=k i:=rfl
theorem asR_i{i:Addr}{k:Addr->Prop}:oI (.ref i) k=k i:=rfl
theorem asB_i{i:Bool}{k:Bool->Prop}:i7 (.bl i) k=k i:=rfl
theorem asS_i{i:Str}{k:Str->Prop}:asS (.str i) k=k i:=rfl
theorem asV_i{i:V}{k:V->Prop}:asV (some<|some i) k=k i:=rfl
theorem asC_i{r:List V}{k:V->List V->Prop}:asC (v::r) k=k v r:=rfl
theorem as1_i{k:V->Prop}:rJ [v] k=k v:=rfl
theorem as2_i{u:V}{k:V->V->Prop}:b7 [v,u] k=k v u:=rfl
theorem as0_i{k:Prop}:as0 [] k=k:=rfl
section
def tVar(i:Nat):TE:=λσ H Q=>asV σ[i]? λv=>Q v H
def tC(v:V):TE:=λ_ H Q=>Q v H
theorem RT{x:Str}{pos:Pos}(hN:X.N[i]?=some x)(hv:Vis X.env.scope x)(hd:(x==("__debug__":Str))=false:=by decide)(hcd:(x==("__classdict__":Str))=false:=by decide):PE X (.Name x pos) (tVar i):=by
 intro aM s σ H Q I h;replace h:=uk h;obtain⟨v,e,h⟩:=h;obtain⟨m,hn,hl⟩:=I.loc;obtain⟨u,r,l⟩:=hl i x v hN e hv;let fin:EP X aM σ Q u s:=#[v,H,I,r,h]
 rcases l with⟨hk,hm⟩ |⟨hk,c,hc,a⟩
 ·exact wpAny_Name (wpAny_loadName_local I.ok.kind hk hn hm fin) hd
 ·rcases hk with hk |hk
  ·exact wpAny_Name (wpAny_loadName_cell I.ok.kind hk hc a fin) hd
  ·exact wpAny_Name (wpAny_loadName_free I.ok.kind hk hc a fin hcd) hd
theorem zS{i j pos}:PE X (.Constant (.int i) j pos) (tC<|.int i):=λ_ _ _ H _ I h=>wpAny_Constant_int #[.int i,H,I.tok _,#[_,rfl],h]
theorem II{b j pos}:PE X (.Constant (.bool b) j pos) (tC<|.bl b):=λ_ _ _ H _ I h=>Constant_bool #[.bl b,H,I,rfl,h]
theorem vZ{j pos}:PE X (.Constant .none j pos) (tC .non):=λ_ _ _ H _ I h=>Constant_none #[.non,H,I,rfl,h]
theorem yS{x j pos}:PE X (.Constant (.str x) j pos) (tC<|.str x):=λ_ _ _ H _ I h=>Calls.Constant_str #[.str x,H,I.tok _,#[_,rfl],h]
def Gl(X:Cx)(x:Str):Prop:=X.env.kindOf x=some .globalImplicit
theorem VL{x:Str}{pos:Pos}(I:Inv X aM σ H s)(hg:Gl X x)(hm:X.mg x=some u)(h:Q u s)
 (hd:(x==("__debug__":Str))=false:=by decide):wpAny (model X.prog X.w) X.A (eval (.Name x pos) X.env) Q E s:=
 Calls.Name_function_global I.ok.kind hg (Calls.loadGlobal_global (by rw[I.ok.glob];calc I.mod.glob.keeps I.bk) hm h) hd
theorem uJ{x:Str}{pos:Pos}(I:Inv X aM σ H s)(hg:Gl X x)(hm:X.mg x=none)(hv:bootBuiltins x=some u)(h:Q u s)
 (hn:x≠"__name__":=by decide) (hd:(x==("__debug__":Str))=false:=by decide):wpAny (model X.prog X.w) X.A (eval (.Name x pos) X.env) Q E s:=by
 obtain⟨mb,h1,h2⟩:=I.mod.blt;exact Calls.Name_function_global I.ok.kind hg (Calls.loadGlobal_builtin (by rw[I.ok.glob];calc I.mod.glob.keeps I.bk) hm (by rw[I.ok.blt];calc h1.keeps I.bk) ((h2 x hn).trans hv) h) hd
theorem IG{x:Str}{pos:Pos}(hg:Gl X x)(hm:X.mg x=some u)(r:RelV v u)(hd:(x==("__debug__":Str))=false:=by decide):PE X (.Name x pos) (tC v):=
 λ_ _ _ H _ I h=>VL I hg hm #[v,H,I,r,h] hd
theorem eh{x:Str}{pos:Pos}(hg:Gl X x)(hm:X.mg x=none)(hv:bootBuiltins x=some u)(r:RelV v u)(hn:x≠"__name__":=by decide)(hd:(x==("__debug__":Str))=false:=by decide):PE X (.Name x pos) (tC v):=
 λ_ _ _ H _ I h=>uJ I hg hm hv #[v,H,I,r,h] hn hd
variable {a b:Expr} {tb:TE} {pos:Pos}
def PC(X:Cx)(op:CmpOp)(a b:Expr)(t:TE):Prop:=
 ∀(aM:List (Addr×Obj)) (s:Shared) (σ:St) (H:Hp) (Q:VK),Inv X aM σ H s->t σ H Q->
  wpAny (model X.prog X.w) X.A (eval a X.env) (λv s₁=>wpAny (model X.prog X.w) X.A (eval b X.env) (λu s₂=>wpAny (model X.prog X.w) X.A (compareOp op v u) (EP X aM σ Q) X.xe s₂) X.xe s₁) X.xe s
theorem BZ(b:Expr)(h:op≠.In)(h2:op≠.NotIn):behindInMarks op b=false:=by
 let a:(op==CmpOp.In)=false:=by cases op<;>first |rfl |exact absurd rfl h
 let c:(op==CmpOp.NotIn)=false:=by cases op<;>first |rfl |exact absurd rfl h2
 cases b<;>simp[behindInMarks,a,c]
def tB(t:TE):TT:=λσ H Q=>t σ H λx H1=>i7 x λc=>Q c H1
theorem SA{t:TE}(h:PC X op a b t)(h1:behindInMarks op b=false:=by first |exact BZ _ (by decide) (by decide) |rfl):PE X (.Compare a [op] [b] pos) t:=λaM s σ H Q I c=>wpAny_Compare1 (h aM s σ H Q I c) h1
theorem YY{t:TE}(h:PC X op a b t)(h1:behindInMarks op b=false:=by first |exact BZ _ (by decide) (by decide) |rfl):PT X (.Compare a [op] [b] pos) (tB t):=by
 intro aM s σ H Q I f;calc wpAny_isTrue_Compare1 (eK (h aM s σ H _ I f) λv s1 h1=>eK h1 λu s2 h2=>eK h2 λc j ⟨x,H1,g,i,e⟩=>?_) h1;replace e:=DD e;obtain⟨d,rfl,q⟩:=e;cases i;exact fC #[H1,g,q]
theorem xH{t:TE}(h:PE X e t)(he:∀whole,isTrue e X.env whole=(do let v ←whole;standAt e.pos;holding [v]<|truthy v):=by intro _;rfl):PT X e (tB t):=by
 intro aM s σ H Q I b;calc isTrue_plain (eK (h aM s σ H _ I b) λv s1 ⟨x,H1,c,f,a⟩=>?_)<|he _;replace a:=DD a;obtain⟨d,rfl,q⟩:=a;cases f;exact fC #[H1,c,q]
variable {tA tB':TT} {nU:List Expr}
def tAnd(t u:TT):TT:=λσ H Q=>t σ H λc H1=>if c=true then u σ H1 Q else Q false H1
def tOr(t u:TT):TT:=λσ H Q=>t σ H λc H1=>if c=true then Q true H1 else u σ H1 Q
def tNot(t:TT):TT:=λσ H Q=>t σ H λc H1=>Q (!c) H1
theorem UW(ha:PT X a tA):PW X (.BoolOp .And [a] pos) tA:=by
 intro b aM s σ H Q I h;calc isTrue_and (eK (ha aM s σ H Q I h) λc s1 e=>?_);cases c with
 |true=>exact isTrue_and_nil e
 |false=>exact e
theorem YX(ha:PT X a tA):PW X (.BoolOp .Or [a] pos) tA:=by
 intro b aM s σ H Q I h;calc isTrue_or (eK (ha aM s σ H Q I h) λc s1 e=>?_);cases c with
 |false=>exact isTrue_or_nil e
 |true=>exact e
theorem UX(ha:PT X a tA)(hb:PW X (.BoolOp .And (b::nU) pos) tB'):PW X (.BoolOp .And (a::b::nU) pos) (tAnd tA tB'):=by
 intro f aM s σ H Q I h;calc isTrue_and (eK (ha aM s σ H _ I h) λc s1 ⟨H1,d,e⟩=>?_);cases c with
 |true=>exact hb f aM s1 σ H1 Q d e
 |false=>exact#[H1,d,e]
theorem qI(ha:PT X a tA)(hb:PW X (.BoolOp .Or (b::nU) pos) tB'):PW X (.BoolOp .Or (a::b::nU) pos) (tOr tA tB'):=by
 intro f aM s σ H Q I h;calc isTrue_or (eK (ha aM s σ H _ I h) λc s1 ⟨H1,d,e⟩=>?_);cases c with
 |true=>exact#[H1,d,e]
 |false=>exact hb f aM s1 σ H1 Q d e
theorem jJ(ha:PT X a tA):PT X (.UnaryOp .Not a pos) (tNot tA):=by
 intro aM s σ H Q I h;exact isTrue_not (ha aM s σ H (λc H1=>Q (!c) H1) I h)
def tAndV(ta tb:TE):TE:=λσ H Q=>ta σ H λx H1=>i7 x λc=>if c=true then tb σ H1 Q else Q (.bl false) H1
def tOrV(ta tb:TE):TE:=λσ H Q=>ta σ H λx H1=>i7 x λc=>if c=true then Q (.bl true) H1 else tb σ H1 Q
def tNotV(ta:TE):TE:=λσ H Q=>ta σ H λx H1=>i7 x λc=>Q (.bl<|!c) H1
theorem vY{op}{t:TE}(h:PE X a t):PE X (.BoolOp op [a] pos) t:=λaM s σ H Q I b=>BoolOp_one<|h aM s σ H Q I b
theorem wA(ha:PE X a ta)(hb:PE X (.BoolOp .And (b::nU) pos) tb):PE X (.BoolOp .And (a::b::nU) pos) (tAndV ta tb):=by
 intro aM s σ H Q I h;calc BoolOp_and (eK (ha aM s σ H _ I h) λv s1 ⟨x,H1,e,f,d⟩=>?_);replace d:=DD d;obtain⟨c,rfl,d⟩:=d;cases f;calc fC ?_;cases c with
 |true=>exact hb aM s1 σ H1 Q e d
 |false=>exact#[.bl false,H1,e,rfl,d]
theorem pe_or(ha:PE X a ta)(hb:PE X (.BoolOp .Or (b::nU) pos) tb):PE X (.BoolOp .Or (a::b::nU) pos) (tOrV ta tb):=by
 intro aM s σ H Q I h;calc BoolOp_or (eK (ha aM s σ H _ I h) λv s1 ⟨x,H1,e,f,d⟩=>?_);replace d:=DD d;obtain⟨c,rfl,d⟩:=d;cases f;calc fC ?_;cases c with
 |false=>exact hb aM s1 σ H1 Q e d
 |true=>exact#[.bl true,H1,e,rfl,d]
theorem EX(ha:PE X a ta):PE X (.UnaryOp .Not a pos) (tNotV ta):=by
 intro aM s σ H Q I h;calc UnaryOp_ (eK (ha aM s σ H _ I h) λv s1 ⟨x,H1,d,e,b⟩=>?_);replace b:=DD b;obtain⟨c,rfl,b⟩:=b;cases e;exact not_of<|fC #[.bl<|!c,H1,d,rfl,b]
def tIf(t:TT)(ta tb:TE):TE:=λσ H Q=>t σ H λc H1=>if c=true then ta σ H1 Q else tb σ H1 Q
theorem wU{c:Expr}(hc:PT X c tA)(ha:PE X a ta)(hb:PE X b tb):PE X (.IfExp c a b pos) (tIf tA ta tb):=by
 intro aM s σ H Q I h;calc wpAny_IfExp (eK (hc aM s σ H _ I h) λd s1 ⟨H1,e,f⟩=>?_);cases d with
 |true=>exact ha aM s1 σ H1 Q e f
 |false=>exact hb aM s1 σ H1 Q e f
end
def cO(K:W.Frag)(H:Hp)(a:Addr)(xs:List V):Prop:=
 Rd H a (.lst xs)\/
  ∃(o:Obj)(its:Array Value)(n:Nat),K.lookup a=some o/\o.cls=.type "list"/\o.dict=none/\o.data=.seq its n/\its.size<=sizeLine/\cY xs its.toList
def cW(K:W.Frag)(H:Hp)(a:Addr)(xs:List V):Prop:=
 Rd H a (.tup xs)\/
  ∃(o:Obj)(its:Array Value)(n:Nat),K.lookup a=some o/\o.cls=.type "tuple"/\o.data=.seq its n/\its.size<=sizeLine/\cY xs its.toList
noncomputable def absV:Value->Option V
 | .none=>some .non
 | .bool b=>some<|.bl b
 | .int i _=>some<|.int i
 | .str x _=>some<|.str x
 | .bytes b _=>some<|.byt b
 | .float b _=>some<|.flt b
 | .ref a=>some<|.ref a
 | .type n=>some<|.ty n
 |_=>none
theorem RelV.abs{x:V}(r:RelV x u):absV u=some x:=by
 cases x with
 |non=>cases r;rfl
 |bl _=>cases r;rfl
 |int _=>obtain⟨t,rfl⟩:=r;rfl
 |str _=>obtain⟨t,rfl⟩:=r;rfl
 |byt _=>obtain⟨t,rfl⟩:=r;rfl
 |flt _=>obtain⟨t,rfl⟩:=r;rfl
 |ref _=>cases r;rfl
 |ty _=>cases r;rfl
theorem RelV.inj{x:V}(r:RelV x u)(q:RelV y u):x=y:=cD<|r.abs.symm.trans q.abs
theorem cY.inj:∀{xs ys:List V}{us:List Value},cY xs us->cY ys us->xs=ys
 |_,_,_,.nil,.nil=>rfl
 |_,_,_,.cons r t,.cons a t'=>by rw[r.inj a,cY.inj t t']
section
variable {ys:List V}
theorem cO.of(h:H a=some (.lst xs)):cO K H a xs:=.inl<|.inl h
theorem cW.of(h:H a=some (.tup xs)):cW K H a xs:=.inl<|.inl h
theorem Inv.list(I:Inv X aM σ H s)(h:cO X.K H a xs):∃its:List Value,cY xs its/\PlainL s.heap a its.toArray/\xs.length<=sizeLine:=by
 rcases h with h |⟨o,its,n,hk,hc,hd,hs,hz,r⟩
 ·obtain⟨z,its,n,r,e⟩:=h.ok I.hok;exact#[its,r,#[_,n,e,rfl,rfl,rfl],z]
 ·calc#[its.toList,r,#[o,n,I.kIn a o hk,hc,hd,by simpa using hs],?_];let e:=r.length;simp only[cI]at e;lia
theorem Inv.tuple(I:Inv X aM σ H s)(h:cW X.K H a xs):∃its:List Value,cY xs its/\IsTup s.heap a its.toArray/\xs.length<=sizeLine:=by
 rcases h with h |⟨o,its,n,hk,hc,hs,hz,r⟩
 ·obtain⟨z,its,r,p⟩:=h.ok I.hok;exact#[its,r,p,z]
 ·calc#[its.toList,r,#[o,I.kIn a o hk,hc,n,by simpa using hs],?_];let e:=r.length;simp only[cI]at e;lia
theorem Inv.list_inj(I:Inv X aM σ H s)(h:cO X.K H a xs)(h':cO X.K H a ys):xs=ys:=by
 obtain⟨its,r,⟨o,n,e,_,_,d⟩,_⟩:=I.list h;obtain⟨its',f,⟨o',i,b,_,_,c⟩,_⟩:=I.list h';rw[e]at b;cases b;rw[d]at c;injection c with g _
 have :its=its':=by simpa using cM Array.toList g
 subst this;exact r.inj f
theorem Inv.tuple_inj(I:Inv X aM σ H s)(h:cW X.K H a xs)(h':cW X.K H a ys):xs=ys:=by
 obtain⟨its,r,⟨o,e,_,n,d⟩,_⟩:=I.tuple h;obtain⟨its',f,⟨o',b,_,i,c⟩,_⟩:=I.tuple h';rw[e]at b;cases b;rw[d]at c;injection c with g _
 have :its=its':=by simpa using cM Array.toList g
 subst this;exact r.inj f
end
abbrev Cx.wish(X:Cx)(E:Value->Shared->Prop):Cx:={X with xe:=E}
abbrev Cx.nox(X:Cx):Cx:=X.wish λ_ _=>False
theorem Cx.Ok.wish(ok:X.Ok)(E:Value->Shared->Prop):(X.wish E).Ok:=
 #[ok.mod,ok.kind,ok.glob,ok.blt,ok.above,ok.inj,ok.has,ok.cab,ok.hd,ok.frames,ok.stk,ok.exf,ok.bs,ok.bsz,ok.noex,ok.exfs,ok.funs,ok.frf]
theorem Cx.Ok.unwish(ok:(X.wish E).Ok):X.Ok:=
 #[ok.mod,ok.kind,ok.glob,ok.blt,ok.above,ok.inj,ok.has,ok.cab,ok.hd,ok.frames,ok.stk,ok.exf,ok.bs,ok.bsz,ok.noex,ok.exfs,ok.funs,ok.frf]
theorem Inv.wish(I:Inv X aM σ H s)(E:Value->Shared->Prop):Inv (X.wish E) aM σ H s:=#[I.ok.wish E,I.os,I.bare,I.base,I.loc,I.cell,I.free,I.freeC,I.pin,I.hok,I.len]
theorem Inv.unwish(I:Inv (X.wish E) aM σ H s):Inv X aM σ H s:=#[I.ok.unwish,I.os,I.bare,I.base,I.loc,I.cell,I.free,I.freeC,I.pin,I.hok,I.len]
theorem SP.unwish{f:Flow}{s':Shared}(h:SP (X.wish E) aM D f s'):SP X aM D f s':=by
 cases f with
 |next=>obtain⟨σ',H',I,q⟩:=h;exact#[σ',H',I.unwish,q]
 |brk=>obtain⟨σ',H',I,q⟩:=h;exact#[σ',H',I.unwish,q]
 |cont=>obtain⟨σ',H',I,q⟩:=h;exact#[σ',H',I.unwish,q]
 |ret u=>obtain⟨v,σ',H',I,r,q⟩:=h;exact#[v,σ',H',I.unwish,r,q]
theorem DS.nox{st:List Stmt}{t:TS}(h:DS X.nox st t):DS X st t:=λaM s σ H D I a=>
 iU (h aM s σ H D (I.wish _) a) (λ_ _ q=>q.unwish) λ_ _ z=>False.elim z
section
variable {st:Stmt} {nU:List Stmt} {t u:TS} {pos:Pos}
def tNext:TS:=λD σ H=>D.nx σ H
def LQ(t u:TS):TS:=λD σ H=>t {D with nx:=u D} σ H
theorem zL:DS X [] tNext:=λ_ _ σ H _ I h=>tQ #[σ,H,I,h]
theorem zC(h1:PS X st t)(h2:DS X nU u):DS X (st::nU) (LQ t u):=by
 intro aM s σ H D I h;calc wpAny_execs_cons (eK (h1 aM s σ H {D with nx:=u D} I h) λf s1 q=>?_);cases f with
 |next=>
  obtain⟨σ',H',a,q⟩:=q;exact h2 aM s1 σ' H' D a q
 |ret v=>exact q
 |brk=>exact q
 |cont=>exact q
theorem zI(h1:PS X st t):DS X [st] t:=by
 intro aM s σ H D I h;calc wpAny_execs_cons (eK (h1 aM s σ H D I h) λf s1 q=>?_);cases f with
 |next=>exact tQ q
 |ret v=>exact q
 |brk=>exact q
 |cont=>exact q
theorem Inv.quiet(I:Inv X aM σ H s):interactive X.env=false:=by simp[interactive,I.ok.kind]
def tDrop(te:TE):TS:=λD σ H=>te σ H λ_ H1=>D.nx σ H1
theorem xJ(he:PE X e te)(hs:swapsWith e none pos.line X.env=pure false:=by rfl):PS X (.Expr e pos) (tDrop te):=by
 intro aM s σ H D I h;exact wpAny_Expr_any (eK (he aM s σ H _ I h) λv s1 ⟨x,H1,a,c,b⟩=>#[σ,H1,a,b]) I.quiet hs
def tRet(te:TE):TS:=λD σ H=>te σ H D.rt
theorem zR(he:PE X e te):PS X (.Return (some e) pos) (tRet te):=by
 intro aM s σ H D I h;exact wpAny_Return_some (eK (he aM s σ H _ I h) λv s1 ⟨x,H1,a,b,c⟩=>#[x,σ,H1,a,b,c])
def tRetN:TS:=λD _ H=>D.rt .non H
theorem dw:PS X (.Return none pos) tRetN:=λ_ _ σ H _ I h=>wpAny_Return_none #[.non,σ,H,I,rfl,h]
def tIfS(c:TT)(t u:TS):TS:=λD σ H=>c σ H λb H1=>if b=true then t D σ H1 else u D σ H1
theorem yA{c:Expr}{a b:List Stmt}{tc:TT}(hc:PT X c tc)(ha:DS X a t)(hb:DS X b u):PS X (.If c a b pos) (tIfS tc t u):=by
 intro aM s σ H D I h;calc wpAny_If (eK (hc aM s σ H _ I h) λd s1 ⟨H1,e,f⟩=>?_);cases d with
 |true=>exact ha aM s1 σ H1 D e f
 |false=>exact hb aM s1 σ H1 D e f
def m9:TS:=λ_ _ _=>False
theorem AO:PS X st m9:=λ_ _ _ _ _ _ h=>h.elim
end
abbrev TG:=V->St->Hp->(St->Hp->Prop)->Prop
abbrev l8:=List V->St->Hp->(St->Hp->Prop)->Prop
def PG(X:Cx)(target:Expr)(t:TG):Prop:=
 ∀(aM:List (Addr×Obj)) (s:Shared) (σ:St) (H:Hp) (v:V) (u:Value) (Q:St->Hp->Prop),Inv X aM σ H s->RelV v u->t v σ H Q->
  wpAny (model X.prog X.w) X.A (assign target X.env u) (λ_ s'=>∃σ' H',Inv X aM σ' H' s'/\Q σ' H') X.xe s
def um(X:Cx)(ts:List Expr)(t:l8):Prop:=
 ∀(aM:List (Addr×Obj)) (s:Shared) (σ:St) (H:Hp) (vs:List V) (us:List Value) (Q:St->Hp->Prop),Inv X aM σ H s->cY vs us->t vs σ H Q->
  wpAny (model X.prog X.w) X.A (assignInOrder ((assignEach ts X.env).map (·.2)) us) (λ_ s'=>∃σ' H',Inv X aM σ' H' s'/\Q σ' H') X.xe s
abbrev a9:=V->V->V->Hp->(Hp->Prop)->Prop
def i9(X:Cx)(t:a9):Prop:=
 ∀(aM:List (Addr×Obj)) (s:Shared) (σ:St) (H:Hp) (o i v:V) (ov iv u:Value) (Q:Hp->Prop),Inv X aM σ H s->RelV o ov->RelV i iv->RelV v u->t o i v H Q->
  wpAny (model X.prog X.w) X.A (setItem ov iv u) (λ_ s'=>∃H',Inv X aM σ H' s'/\Q H') X.xe s
abbrev TIp:=V->V->Hp->VK->Prop
def PIp(X:Cx)(op:Operator)(t:TIp):Prop:=
 ∀(aM:List (Addr×Obj)) (s:Shared) (σ:St) (H:Hp) (x y:V) (v u:Value) (Q:VK),Inv X aM σ H s->RelV x v->RelV y u->t x y H Q->
  wpAny (model X.prog X.w) X.A (inplaceOp op v u) (EP X aM σ Q) X.xe s
section
variable {pos:Pos}
def uP(i:Nat):TG:=λv σ H Q=>Q (σ.set i<|some v) H
theorem vP{x:Str}(hN:X.N.Nodup)(hi:X.N[i]?=some x)(hx:Loc X.env.scope x)(hf:X.fn x=true\/X.env.scope.names.lookup x=some .local:=by first |exact .inl rfl |exact .inr rfl |assumption):PG X (.Name x pos) (uP i):=by
 intro aM s σ H v u Q I r h;exact jh (YR I hN hi hx r (λs' a=>#[_,H,a,h]) hf)
def uK:l8:=λvs σ H Q=>vs=[]/\Q σ H
def jN(t:TG)(u:l8):l8:=λvs σ H Q=>asC vs λv r=>t v σ H λσ' H'=>u r σ' H' Q
theorem jS:um X [] uK:=by
 intro aM s σ H vs us Q I r h;obtain⟨e,h⟩:=h;subst e;cases r;exact assignInOrder_nil #[σ,H,I,h]
theorem yE{es:List Expr}{t:TG}{u:l8}(h1:PG X e t)(h2:um X es u)
 (hs:(assignEach (e::es) X.env).map (·.2)=assign e X.env::(assignEach es X.env).map (·.2):=by rfl):um X (e::es) (jN t u):=by
 intro aM s σ H vs us Q I r h;replace h:=asC_ h;obtain⟨v,f,a,h⟩:=h;subst a;cases r with
 |cons r b=>
  rw[hs];calc assignInOrder_cons (eK (h1 aM s σ H _ _ _ I r h) λ_ s1 ⟨σ1,H1,c,d⟩=>?_);exact h2 aM s1 σ1 H1 _ _ Q c b d
def uA(K:W.Frag)(n:Nat)(t:l8):TG:=λv σ H Q=>oI v λa=>∃xs,cW K H a xs/\xs.length=n/\t xs σ H Q
theorem EV{es:List Expr}{k:Nat}{t:l8}(hc:X.calm=true)(h:um X es t)
 (hn:(assignEach es X.env).length=n:=by rfl) (hst:(assignEach es X.env).findIdx? (·.1)=none:=by rfl):PG X (.Tuple es k pos) (uA X.K n t):=by
 intro aM s σ H v u Q I r c;replace c:=xK c;obtain⟨a,d,xs,hq,hl,c⟩:=c;subst d;cases r;obtain⟨its,rv,ht,hz⟩:=I.tuple hq;refine assign_Tuple_tuple (I.ok.hd hc) ht (by simp[hn,←hl,rv.length]) hst λh' hx=>?_
 let f:Inv X aM σ H {s with heap:=h'}:=I.kept (t':=s.toks) λb o e=>hx b o (bK<|bA e) e
 exact h aM _ σ H xs _ Q f (by simpa using rv) c
def sy(to ti:TE)(t:a9):TG:=λv σ H Q=>to σ H λo H1=>ti σ H1 λi H2=>t o i v H2 λH3=>Q σ H3
theorem EW{i:Expr}{to ti:TE}{t:a9}(ho:PE X o to)(hi:PE X i ti)(hs:i9 X t)
 (ha:∀v,assign (.Subscript o i pos) X.env v=(do
  let ov ←holding [v] (eval o X.env)
  let iv ←holding [v,ov] (eval i X.env)
  standAt pos
  holding [v,ov,iv] (setItem ov iv v)
  release [v,ov,iv] []):=by intro _;rfl):PG X (.Subscript o i pos) (sy to ti t):=by
 intro aM s σ H v u Q I r h;rw[ha];calc aE (dG<|eK (ho aM s σ H _ I h) λov s1 ⟨x,H1,a,b,c⟩=>?_);calc aE (dG<|eK (hi aM s1 σ H1 _ a c) λiv s2 ⟨y,H2,d,e,f⟩=>?_);calc aE (OM<|aE<|dG<|eK (hs aM s2 σ H2 x y v ov iv u _ d b e r f) λ_ l ⟨g,j,k⟩=>?_);exact wpAny_release #[σ,g,j,k]
def UK(te:TE)(g:TG):TS:=λD σ H=>te σ H λx H1=>g x σ H1 D.nx
theorem ET{g:TG}(he:PE X e te)(hg:PG X tg g)(hs:swapsWithSole [tg] e pos.line X.env=pure false:=by rfl)(hw:swappedStores [tg] e X.env=pure none:=by rfl)
 (h1:(assignEach [tg] X.env).map (·.2)=[assign tg X.env]:=by rfl):PS X (.Assign [tg] e pos) (UK te g):=by
 intro aM s σ H D I h;calc wpAny_Assign_stores (eK (he aM s σ H _ I h) λv s1 ⟨x,H1,a,b,c⟩=>?_) hs hw;rw[h1];exact eK (hg aM s1 σ H1 x v _ a b c) λ_ s2 q=>q
theorem xR{x:Str}(hN:X.N.Nodup)(hi:X.N[i]?=some x)(hx:Loc X.env.scope x)(he:PE X e te)(hs:swapsWith e (some<|.Name x pos') pos.line X.env=pure false:=by rfl)(hf:X.fn x=true\/X.env.scope.names.lookup x=some .local:=by first |exact .inl rfl |exact .inr rfl |assumption):
 PS X (.Assign [.Name x pos'] e pos) (UK te<|uP i):=by
 intro aM s σ H D I h;calc wpAny_Assign_Name (eK (he aM s σ H _ I h) λv s1 ⟨y,H1,a,b,c⟩=>?_) hs;exact YR a hN hi hx b (λs2 d=>#[_,H1,d,c]) hf
def PH(i:Nat)(te:TE)(ti:TIp):TS:=λD σ H=>asV σ[i]? λx=>te σ H λy H1=>ti x y H1 λz H2=>D.nx (σ.set i<|some z) H2
theorem UY{x:Str}{op:Operator}{ti:TIp}(hN:X.N.Nodup)(hi:X.N[i]?=some x)(hx:Loc X.env.scope x)(he:PE X e te)(ho:PIp X op ti)(hf:X.fn x=true\/X.env.scope.names.lookup x=some .local:=by first |exact .inl rfl |exact .inr rfl |assumption):
 PS X (.AugAssign (.Name x pos') op e pos) (PH i te ti):=by
 intro aM s σ H D I h;replace h:=uk h;obtain⟨v,d,h⟩:=h;obtain⟨m,hn,hl⟩:=I.loc;let b:Vis X.env.scope x:=by rcases hx with k |k;calc .inl k;exact .inr<|.inl k
 obtain⟨u,r,l⟩:=hl i x v hi d b;calc wpAny_AugAssign_Name ?_;let go:wpAny (model X.prog X.w) X.A (eval e X.env) (λw s₂=>wpAny (model X.prog X.w) X.A (inplaceOp op u w) (λr s₃=>wpAny (model X.prog X.w) X.A (storeName X.env x r) (λ_=>SP X aM D .next) X.xe s₃) X.xe s₂) X.xe s:=by
  refine eK (he aM s σ H _ I h) λw s1 ⟨y,H1,f,g,j⟩=>?_
  refine eK (ho aM s1 σ H1 v y u w _ f r g j) λz s2 ⟨t,H2,n,o,p⟩=>?_
  exact YR n hN hi hx o (λB q=>#[_,H2,q,p]) hf
 rcases l with⟨hk,hm⟩ |⟨hk,c,hc,a⟩
 ·exact wpAny_loadName_local I.ok.kind hk hn hm go
 ·rcases hk with hk |hk
  ·exact wpAny_loadName_cell I.ok.kind hk hc a go
  ·rcases hx with k |k
   ·have :X.env.scope.names.lookup x=some .free:=hk;rw[k]at this;cases this
   ·have :X.env.scope.names.lookup x=some .free:=hk;rw[k]at this;cases this
def HJ(to ti te:TE)(tget:V->V->Hp->VK->Prop)(tip:TIp)(tset:a9):TS:=λD σ H=>to σ H λo H1=>ti σ H1 λi H2=>tget o i H2 λx H3=>te σ H3 λy H4=>tip x y H4 λz H5=>tset o i z H5 λH6=>D.nx σ H6
def PGet(X:Cx)(t:V->V->Hp->VK->Prop):Prop:=
 ∀(aM:List (Addr×Obj)) (s:Shared) (σ:St) (H:Hp) (o i:V) (ov iv:Value) (Q:VK),Inv X aM σ H s->RelV o ov->RelV i iv->t o i H Q->
  wpAny (model X.prog X.w) X.A (getItem ov iv) (EP X aM σ Q) X.xe s
theorem YA{i:Expr}{to ti:TE}{tget:V->V->Hp->VK->Prop}{tip:TIp}{tset:a9}{op:Operator}{tpos:Pos}(ho:PE X o to)(hi:PE X i ti)(hg:PGet X tget)(he:PE X e te)(hp:PIp X op tip)(hs:i9 X tset)
 (ha:∀ov iv new,augStore i ov iv new=(do holding [new,ov,iv] (setItem ov iv new);release [new,ov,iv] [];pure .next):=by intros;rfl):PS X (.AugAssign (.Subscript o i tpos) op e pos) (HJ to ti te tget tip tset):=by
 intro aM s σ H D I h;calc wpAny_AugAssign_SubscriptAny (eK (ho aM s σ H _ I h) λov s1 ⟨a,H1,f,b,g⟩=>?_) ha;refine eK (hi aM s1 σ H1 _ f g) λiv s2 ⟨c,H2,j,d,k⟩=>?_
 refine eK (hg aM s2 σ H2 a c ov iv _ j b d k) λold l ⟨m,n,p,q,r⟩=>?_
 refine eK (he aM l σ n _ p r) λv t ⟨u,w,x,y,z⟩=>?_
 refine eK (hp aM t σ w m u old v _ x q y z) λnew A ⟨B,C,E,F,G⟩=>?_
 exact eK (hs aM A σ C a c B ov iv new _ E b d F G) λ_ M ⟨J,K,L⟩=>#[σ,J,K,L]
def WR(f:Int->Int->Int):TIp:=λx y H Q=>sV x λi=>sV y λj=>Q (.int<|f i j) H
theorem sk:PIp X .Add (WR λi j=>i+j):=by
 intro aM s σ H x y v u Q I a b h;replace h:=jX h;obtain⟨i,c,h⟩:=h;replace h:=jX h;obtain⟨j,d,q⟩:=h;subst c;subst d;obtain⟨t,rfl⟩:=a;obtain⟨t',rfl⟩:=b;exact iadd_int #[.int _,H,I.tok _,#[_,rfl],q]
end
section
variable {pos:Pos}
def UG(c:TT)(tb:TS):TS:=λD σ H=>∃W:Nat->St->Hp->Prop,(∃m,W m σ H)/\∀m σ H,W m σ H->
 c σ H λb H1=>if b=true then∃N:St->Hp->Prop,(∀σ' H',N σ' H'->∃m',m'<m/\W m' σ' H')/\tb {D with nx:=N,ct:=N,bk:=D.nx} σ H1 else D.nx σ H1
theorem YZ{c:Expr}{body:List Stmt}{tc:TT}(hp:PassesOwn (model X.prog X.w) X.A X.env X.xe)(hc:PT X c tc)(hb:DS X body tb):PS X (.While c body [] pos) (UG tc tb):=by
 intro aM s σ H D I h;obtain⟨W,⟨o,p⟩,turn⟩:=h;calc wpAny_While (codeAny_whileLoop (λn s'=>∃σ' H',Inv X aM σ' H' s'/\W n σ' H') ?_ o #[σ,H,I,p]);rintro n s1 ⟨σ1,H1,q,r⟩;calc lA hp (eK (hc aM s1 σ1 H1 _ q<|turn n σ1 H1 r) λb s2 ⟨H2,l,d⟩=>?_);cases b with
 |true=>
  obtain⟨N,m,d⟩:=d;rw[aT rfl];calc lA hp (eK (hb aM s2 σ1 H2 _ l d) λf t e=>?_);cases f with
  |next=>
   obtain⟨σ3,a,g,i⟩:=e;obtain⟨j,hm,k⟩:=m σ3 a i;exact#[j,hm,σ3,a,g,k]
  |cont=>
   obtain⟨σ3,a,g,i⟩:=e;obtain⟨j,hm,k⟩:=m σ3 a i;exact#[j,hm,σ3,a,g,k]
  |brk=>exact e
  |ret v=>exact e
 |false=>
  rw[aH aY];exact tQ #[σ1,H2,l,d]
end
structure It where
 go:Nat->Hp->Prop
 yld:Nat->Hp->V->Hp->Prop
 stop:Nat->Hp->Prop
def ZC(X:Cx)(aM:List (Addr×Obj))(H:Hp)(b:Addr):Prop:=
 H b=none/\b≠X.env.locals/\b∉X.fs/\(b∈X.ex\/X.s₀.heap.objs.size<=b)/\(∀x c,X.env.cells.lookup x=some c->c≠b)/\∀p∈X.pn++aM,p.1≠b
theorem Inv.fpOk(I:Inv X aM σ H s)(hb:s.heap.objs.size<=b)(hn:H' b=none):ZC X aM H' b:=by
 refine#[hn,iH<|bQ I.lt hb,I.nofs hb,.inr<|bX I.sz hb,λx c e z=>?_,λp hp z=>?_]
 ·obtain⟨v,q⟩:=I.cell x c e;exact absurd (bQ q.lt (by rw[z];calc hb))<|dP _
 ·exact absurd (bQ (bA (I.pin p hp).1) (by rw[z];calc hb))<|dP _
structure NR(P:Program)(w:World)(K:W.Frag)(tg:Expr)(J:It)(fp:List Addr)(it:Addr)(tn:Nat->Heap->Prop):Prop where
 mem:it∈fp
 obj:∀i h,tn i h->∀b∈fp,∃o,h.get? b=some o/\∀v,o.data≠.cell v
 keep:∀i h h',tn i h->(∀b∈fp,∀o,h.get? b=some o->h'.get? b=some o)->tn i h'
 item:∀(X:Cx),X.prog=P->X.w=w->X.K=K->X.calm=true->∀(i:Nat)(aM:List (Addr×Obj))(s:Shared)(σ:St)(H:Hp)(E:Value->Shared->Prop),Inv X aM σ H s->(∀b∈fp,ZC X aM H b)->tn i s.heap->J.go i H->
  wpAny (model P w) X.A (pyNext<|.ref it) (λr s1=>∃u,r=some u/\
   wpAny (model P w) X.A (letOwnedTupleGo tg (.ref it) u) (λ_ s2=>∃x H',Inv X aM σ H' s2/\RelV x u/\J.yld i H x H'/\tn (i+1) s2.heap/\∀b∈fp,H' b=none) E s1) E s
 done:∀(X:Cx),X.prog=P->X.w=w->X.K=K->X.calm=true->∀(i:Nat)(aM:List (Addr×Obj))(s:Shared)(σ:St)(H:Hp)(E:Value->Shared->Prop),Inv X aM σ H s->(∀b∈fp,ZC X aM H b)->tn i s.heap->J.stop i H->
  wpAny (model P w) X.A (pyNext<|.ref it) (λr s1=>r=none/\Inv X aM σ H s1) E s
 self:∀(A:Around)(i:Nat)(s:Shared)(Q:Value->Shared->Prop)(E:Value->Shared->Prop),tn i s.heap->Q (.ref it) s->wpAny (model P w) A (pyIter<|.ref it) Q E s
abbrev TI:=St->Hp->(It->Hp->Prop)->Prop
def PIE(X:Cx)(aM:List (Addr×Obj))(σ:St)(tg:Expr)(R:It->Hp->Prop)(itv:Value)(s2:Shared):Prop:=
 ∃(it:Addr)(fp:List Addr)(tn:Nat->Heap->Prop)(J:It)(H':Hp),itv=.ref it/\Inv X aM σ H' s2/\NR X.prog X.w X.K tg J fp it tn/\tn 0 s2.heap/\(∀b∈fp,ZC X aM H' b)/\R J H'
def PI(X:Cx)(tg iter:Expr)(wi:TI):Prop:=
 ∀(aM:List (Addr×Obj)) (s:Shared) (σ:St) (H:Hp) (R:It->Hp->Prop),Inv X aM σ H s->wi σ H R->
  wpAny (model X.prog X.w) X.A (eval iter X.env) (λv s1=>wpAny (model X.prog X.w) X.A (pyIter v) (PIE X aM σ tg R) X.xe s1) X.xe s
theorem WW{o:Obj}{n:String}{vs:Array Value}{Q:Unit->Shared->Prop}(ho:s.heap.get? it=some o)(hc:o.cls=.type n)(hd:o.data=.fields vs)
 (hn:["enumerate","zip","dict_itemiterator","dict_reverseitemiterator","odict_iterator","itertools.zip_longest","itertools.pairwise"].contains n=false) (hQ:Q Unit.unit s):wpAny M A (letOwnedTupleGo tg (.ref it) u) Q E s:=by
 unfold letOwnedTupleGo;cases tg<;>first
  |exact aJ hQ
  |(cases u<;>first
   |exact aJ hQ
   |(refine aE<|bp ho ?_
     rw[hc,hd];show wpAny M A (if(["enumerate","zip","dict_itemiterator","dict_reverseitemiterator","odict_iterator","itertools.zip_longest","itertools.pairwise"].contains n&&vs[0]?==some (rawInt _))=true then _ else _) Q E s;rw[aH (by intro h;rw[hn,eX]at h;cases h)];calc aJ hQ))
def jb(K:W.Frag)(a:Addr):It:=
 #[λi H=>∃xs x,cO K H a xs/\xs[i]?=some x,λi H x H'=>H'=H/\∀xs,cO K H a xs->xs[i]?=some x,λi H=>∃xs,cO K H a xs/\xs.length<=i]
def mf(K:W.Frag)(a:Addr):It:=
 #[λi H=>∃xs x,cW K H a xs/\xs[i]?=some x,λi H x H'=>H'=H/\∀xs,cW K H a xs->xs[i]?=some x,λi H=>∃xs,cW K H a xs/\xs.length<=i]
def bh(lo:Int)(n:Nat):It:=#[λi _=>i<n,λi H x H'=>H'=H/\x=.int (lo+i),λi _=>n<=i]
theorem LK(a it:Addr):NR P w K tg (jb K a) [it] it (λi h=>h.IsListIter it a i) where
 mem:=by simp
 obj:=λi h st b hb=>by
  let e:b=it:=by simpa using hb
  subst e;obtain⟨o,e,c,d⟩:=st;exact#[o,e,λv z=>by rw[d]at z;cases z]
 keep:=λi h h' st k=>st.at λo e=>k it (by simp) o e
 item:=by
  intro X g j l hc i aM s σ H E I hf st m;subst g j l;obtain⟨xs,x,hq,hx⟩:=m;obtain⟨its,rv,p,hz⟩:=I.list hq;obtain⟨u,hu,A⟩:=rv.get hx;obtain⟨n,q,B,r,t,y⟩:=hf it (by simp);refine tG st p.isList (x:=u) (by simpa using hu) λh' f C=>?_
  let D:Inv X aM σ H {s with heap:=h'}:=I.turned (t':=s.toks) (λb o hb e=>(C.2 b hb).trans e) n q r t y;obtain⟨o,e,c,d⟩:=id f;exact#[u,rfl,WW (s:={s with heap:=h'}) e c d (by decide) #[x,H,D,A,#[rfl,λys hy=>by rw[I.list_inj hy hq];calc hx],f,λb hb=>(hf b hb).1]]
 done:=by
  intro X g j l hc i aM s σ H E I hf st m;subst g j l;obtain⟨xs,hq,hx⟩:=m;obtain⟨its,rv,p,hz⟩:=I.list hq;obtain⟨n,q,B,r,t,y⟩:=hf it (by simp);let hl:=rv.length;exact DN (I.ok.hd hc) st p.isList (by simp;lia) λh' F=>#[rfl,I.turned (t':=s.toks) (λb o hb e=>F b o hb e) n q r t y]
 self:=λ_ _ _ _ _ st h=>wpAny_pyIter_listiter st h
theorem EB(a it:Addr):NR P w K tg (mf K a) [it] it (λi h=>h.IsTupleIter it a i) where
 mem:=by simp
 obj:=λi h st b hb=>by
  let e:b=it:=by simpa using hb
  subst e;obtain⟨o,e,c,d⟩:=st;exact#[o,e,λv z=>by rw[d]at z;cases z]
 keep:=λi h h' st k=>st.at λo e=>k it (by simp) o e
 item:=by
  intro X g j l hc i aM s σ H E I hf st m;subst g j l;obtain⟨xs,x,hq,hx⟩:=m;obtain⟨its,rv,p,hz⟩:=I.tuple hq;obtain⟨u,hu,A⟩:=rv.get hx;obtain⟨n,q,B,r,t,y⟩:=hf it (by simp);refine wpAny_pyNext_tuple_item st (show s.heap.IsTuple a its.toArray from p) (x:=u) (by simpa using hu) λh' f C=>?_
  let D:Inv X aM σ H {s with heap:=h'}:=I.turned (t':=s.toks) (λb o hb e=>(C.2 b hb).trans e) n q r t y;obtain⟨o,e,c,d⟩:=id f;exact#[u,rfl,WW (s:={s with heap:=h'}) e c d (by decide) #[x,H,D,A,#[rfl,λys hy=>by rw[I.tuple_inj hy hq];calc hx],f,λb hb=>(hf b hb).1]]
 done:=by
  intro X g j l hc i aM s σ H E I hf st m;subst g j l;obtain⟨xs,hq,hx⟩:=m;obtain⟨its,rv,p,hz⟩:=I.tuple hq;obtain⟨n,q,B,r,t,y⟩:=hf it (by simp);let hl:=rv.length;exact wpAny_pyNext_tuple_end (I.ok.hd hc) st (show s.heap.IsTuple a its.toArray from p) (by simp;lia) λh' F=>#[rfl,I.turned (t':=s.toks) (λb o hb e=>F b o hb e) n q r t y]
 self:=λ_ _ _ _ _ st h=>wpAny_pyIter_tupleiter st h
theorem EC(it:Addr)(lo:Int)(n:Nat):NR P w K tg (bh lo n) [it] it (λi h=>IsRangeIter h it (lo+(i:Nat)*1) ((n:Int)-(i:Nat)) 1) where
 mem:=by simp
 obj:=λi h st b hb=>by
  let e:b=it:=by simpa using hb
  subst e;exact#[_,st,λv z=>by
   let z':Data.fields _=Data.cell v:=z;cases z']
 keep:=λi h h' st k=>k it (by simp) _ st
 item:=by
  intro X c d f hc i aM s σ H E I hf st g;subst c d f;obtain⟨j,l,r,m,p,q⟩:=hf it (by simp);let W:=Walks.range (prog:=X.prog) (w:=X.w) (I.ok.hd hc) it lo 1 n;refine W.item i s _ _ g st λv h' tk u a x=>?_
  obtain⟨t,rfl⟩:=u;let y:Inv X aM σ H {s with heap:=h',toks:=tk}:=I.turned (λb o hb e=>x b o (by simpa using hb) e) j l m p q;calc#[_,rfl,WW (s:={s with heap:=h',toks:=tk}) (n:="range_iterator") a rfl rfl (by decide) #[.int<|lo+i,H,y,#[t,?_],#[rfl,rfl],a,λb hb=>(hf b hb).1]];rw[Int.mul_one]
 done:=by
  intro X c d f hc i aM s σ H E I hf st g;subst c d f;obtain⟨j,l,r,m,p,q⟩:=hf it (by simp);exact wpAny_pyNext_range_end (I.ok.hd hc) st (by have :n<=i:=g;lia) λh' A=>#[rfl,I.turned (t':=s.toks) (λb o hb e=>A b o hb e) j l m p q]
 self:=λ_ _ _ _ _ st h=>wpAny_pyIter_rangeiter st h
def lv(K:W.Frag)(tl:TE):TI:=λσ H R=>tl σ H λx H1=>oI x λa=>(∃xs,cO K H1 a xs)/\R (jb K a) H1
def iTup(K:W.Frag)(tl:TE):TI:=λσ H R=>tl σ H λx H1=>oI x λa=>(∃xs,cW K H1 a xs)/\R (mf K a) H1
theorem uH{l:Expr}{tl:TE}(hl:PE X l tl):PI X tg l (lv X.K tl):=by
 intro aM s σ H R I h;refine eK (hl aM s σ H _ I h) λv s1 ⟨x,H1,c,f,d⟩=>?_
 replace d:=xK d;obtain⟨a,e,⟨xs,hq⟩,q⟩:=d;subst e;cases f;obtain⟨its,rv,p,hz⟩:=c.list hq;calc oW p.isList ?_;calc#[s1.heap.objs.size,[s1.heap.objs.size],_,_,H1,rfl,c.kept (t':=s1.toks) λb o e=>aO _ e,LK a _,#[_,bF _ rfl,rfl,rfl],λb hb=>?_,q];let e:b=s1.heap.objs.size:=by simpa using hb
 subst e;exact c.fpOk (aG _)<|c.hok.fresh<|aG _
theorem kO{l:Expr}{tl:TE}(hl:PE X l tl):PI X tg l (iTup X.K tl):=by
 intro aM s σ H R I h;refine eK (hl aM s σ H _ I h) λv s1 ⟨x,H1,c,f,d⟩=>?_
 replace d:=xK d;obtain⟨a,e,⟨xs,hq⟩,q⟩:=d;subst e;cases f;obtain⟨its,rv,p,hz⟩:=c.tuple hq;calc wpAny_pyIter_tuple (show s1.heap.IsTuple a its.toArray from p) ?_;calc#[s1.heap.objs.size,[s1.heap.objs.size],_,_,H1,rfl,c.kept (t':=s1.toks) λb o e=>aO _ e,EB a _,#[_,bF _ rfl,rfl,rfl],λb hb=>?_,q];let e:b=s1.heap.objs.size:=by simpa using hb
 subst e;exact c.fpOk (aG _)<|c.hok.fresh<|aG _
theorem AN{R:It->Hp->Prop}{lo hi:Int}{t u v:Tok}{tk:Nat}(I:Inv X aM σ H s)(h1: -(2^62)<=lo)(h2:lo<2^62)(h3: -(2^62)<=hi)(h4:hi<2^62)
 (q:R (bh lo (hi-lo).toNat) H):wpAny (model X.prog X.w) X.A (pyIter<|.ref s.heap.objs.size) (PIE X aM σ tg R) E {s with heap:=s.heap.push {cls:=.type "range",data:=.fields (List.toArray [.int lo t,.int hi u,.int 1 v])},toks:=tk}:=by
 calc wpAny_pyIter_range (IsRange.new ..) (small_one h1 h2 h3 h4) ?_;let a:Inv X aM σ H {s with heap:=s.heap.push {cls:=.type "range",data:=.fields (List.toArray [.int lo t,.int hi u,.int 1 v])},toks:=tk}:=I.kept λb o e=>aO _ e
 refine#[(s.heap.push {cls:=.type "range",data:=.fields (List.toArray [.int lo t,.int hi u,.int 1 v])}).objs.size,[(s.heap.push {cls:=.type "range",data:=.fields (List.toArray [.int lo t,.int hi u,.int 1 v])}).objs.size],_,_,H,rfl,
  a.kept (t':=tk) λb o e=>aO _ e,EC _ lo (hi-lo).toNat,?_,λb hb=>?_,q]
 ·let c:lo+((0:Nat):Int)*1=lo:=by simp
  let d:(((hi-lo).toNat:Nat):Int)-((0:Nat):Int)=Builtin.Range.rangeSize lo hi 1:=by rw[rangeSize_one];split<;>lia
  show IsRangeIter _ _ (lo+((0:Nat):Int)*1) ((((hi-lo).toNat:Nat):Int)-((0:Nat):Int)) 1;rw[c,d];exact bF _ rfl
 ·let e:b=(s.heap.push {cls:=.type "range",data:=.fields (List.toArray [.int lo t,.int hi u,.int 1 v])}).objs.size:=by simpa using hb
  subst e;exact a.fpOk (aG _)<|a.hok.fresh<|aG _
def iRng1(ta:TA):TI:=λσ H R=>ta σ H λvs H1=>rJ vs λx=>sV x λj=> -(2^62)<=j/\j<2^62/\R (bh 0 j.toNat) H1
def iRng2(ta:TA):TI:=λσ H R=>ta σ H λvs H1=>b7 vs λx y=>sV x λi=>sV y λj=>(-(2^62)<=i/\i<2^62/\ -(2^62)<=j/\j<2^62)/\R (bh i (j-i).toNat) H1
theorem MI{a:Expr}{ta:TA}{p pos:Pos}(hg:Gl X "range")(hm:X.mg "range"=none)(ha:PA X [a] ta)(hs:starEach [a] X.env=[(false,eval a X.env)]:=by rfl):PI X tg (.Call (.Name "range" p) [a] [] pos) (iRng1 ta):=by
 intro aM s σ H R I h;calc Call_ (uJ I hg hm boot_range<|dZ (eK (ha pos aM s σ H _ I h) λus s1 ⟨vs,H1,c,d,b⟩=>?_) hs rfl);replace b:=wJ b;obtain⟨x,e,b⟩:=b;replace b:=jX b;obtain⟨j,rfl,b,f,q⟩:=b;subst e;cases d with
 |cons r g=>
  cases g;obtain⟨t,rfl⟩:=r;exact call_range_1 (AN c () () b f (by simpa using q))
theorem MH{a b:Expr}{ta:TA}{p pos:Pos}(hg:Gl X "range")(hm:X.mg "range"=none)(ha:PA X [a,b] ta)(hs:starEach [a,b] X.env=[(false,eval a X.env),(false,eval b X.env)]:=by rfl)(hs2:starEach [b] X.env=[(false,eval b X.env)]:=by rfl):
 PI X tg (.Call (.Name "range" p) [a,b] [] pos) (iRng2 ta):=by
 intro aM s σ H R I h;calc Call_ (uJ I hg hm boot_range<|dZ (eK (ha pos aM s σ H _ I h) λus s1 ⟨vs,H1,f,g,c⟩=>?_) (by rw[hs,hs2]) (by rw[hs2];rfl));replace c:=as2_ c;obtain⟨x,y,e,c⟩:=c;replace c:=jX c;obtain⟨i,rfl,c⟩:=c;replace c:=jX c;obtain⟨j,rfl,⟨c,k,l,m⟩,q⟩:=c;subst e;cases g with
 |cons r d=>
  cases d with
  |cons n d=>
   cases d;obtain⟨t,rfl⟩:=r;obtain⟨t',rfl⟩:=n;exact call_range_2<|AN f c k l m q
def tFor(wi:TI)(g:TG)(tb:TS):TS:=λD σ H=>wi σ H λJ H1=>∃W:Nat->Nat->St->Hp->Prop,(∃m,W 0 m σ H1)/\∀i m σ H,W i m σ H->
 (J.stop i H/\D.nx σ H)\/(J.go i H/\∃N:St->Hp->Prop,(∀σ' H',N σ' H'->∃m',m'<m/\W (i+1) m' σ' H')/\∀x H',J.yld i H x H'->g x σ H' λσ2 H2=>tb {D with nx:=N,ct:=N,bk:=D.nx} σ2 H2)
noncomputable def qV(fp:List Addr)(h:Heap):List (Addr×Obj):=fp.filterMap λb=>(h.get? b).map λo=>(b,o)
theorem jQ{o:Obj}(hb:b∈fp)(e:h.get? b=some o):(b,o)∈qV fp h:=mQ.mpr #[b,hb,by rw[e];rfl]
theorem QL{p:Addr×Obj}(hp:p∈qV fp h):p.1∈fp/\h.get? p.1=some p.2:=by
 obtain⟨b,hb,e⟩:=mQ.mp hp;cases q:h.get? b with
 |none=>rw[q]at e;cases e
 |some o=>
  rw[q]at e;let a:(b,o)=p:=cD e;subst a;exact#[hb,q]
theorem Inv.pinned(I:Inv X aM σ H s)(hf:∀b∈fp,ZC X aM H b)(ho:∀b∈fp,∃o,s.heap.get? b=some o/\∀v,o.data≠.cell v):Inv X (aM++qV fp s.heap) σ H s:=
 I.pins_of λp hp=>(bJ.mp hp).elim (λz=>I.pin p<|aZ _ z) λz=>by
  obtain⟨hb,e⟩:=QL z;obtain⟨c,f,g,_⟩:=hf p.1 hb;obtain⟨o,a,d⟩:=ho p.1 hb;rw[e]at a;cases a;exact#[e,c,f,g,d]
theorem Inv.unpinned{pl:List (Addr×Obj)}(I:Inv X (aM++pl) σ H s):Inv X aM σ H s:=I.pins_of λp hp=>I.pin p<|aZ _<|bW _ hp
theorem yD{body:List Stmt}{g:TG}{pos:Pos}(hp:PassesOwn (model X.prog X.w) X.A X.env X.xe)(hc:X.calm=true)(hi:PI X tg iter wi)(hg:PG X tg g)(hb:DS X body tb)
 (hs:∀x,foldedSetIterable iter X.env x=pure x:=by intro _;rfl):PS X (.For tg iter body [] pos) (tFor wi g tb):=by
 intro aM s σ H D I h;calc wpAny_For (eK (hi aM s σ H _ I h) λv s1 h1=>eK h1 λitv s2 h2=>?_) hs;obtain⟨it,fp,tn,J,H2,e,M,T,y,E,W,⟨O,P⟩,turn⟩:=h2;subst e;let stat:∀{H':Hp},(∀b∈fp,H' b=none)->∀b∈fp,ZC X aM H' b:=λhn b hb=>#[hn b hb,(E b hb).2]
 calc codeAny_forLoop_any (λn s'=>∃i σ' H',Inv X aM σ' H' s'/\tn i s'.heap/\(∀b∈fp,H' b=none)/\W i n σ' H') ?_ O #[0,σ,H2,M,y,λb hb=>(E b hb).1,P];rintro n F ⟨i,σ3,t,G,l,p,Q⟩;rcases turn i n σ3 t Q with⟨stop,R⟩ |⟨go,N,S,step⟩
 ·calc lA hp (eK (T.done X rfl rfl rfl hc i aM F σ3 t X.xe G (stat p) l stop) λr U ⟨hr,Y⟩=>?_);subst hr;exact tQ #[σ3,t,Y,R]
 ·calc lA hp (eK (T.item X rfl rfl rfl hc i aM F σ3 t X.xe G (stat p) l go) λr U ⟨u,hr,Z⟩=>?_);subst hr;calc lA hp (eK Z λ_ K ⟨x,L,I5,r5,y5,k,z⟩=>?_);let B:=I5.pinned (stat z)<|T.obj _ _ k;calc lA hp (eK (hg _ K σ3 L x u _ B r5<|step x L y5) λ_ s6 ⟨σ6,H6,I6,q6⟩=>?_);calc lA hp (eK (hb _ s6 σ6 H6 _ I6 q6) λf C j=>?_);let again:∀{σ7:St}{a:Hp},Inv X (aM++qV fp K.heap) σ7 a C->N σ7 a->∃m,m<n/\∃i σ' H',Inv X aM σ' H' C/\tn i C.heap/\(∀b∈fp,H' b=none)/\W i m σ' H':=λ{σ7 a} c q=>by
   obtain⟨m',hm,w7⟩:=S σ7 a q;calc#[m',hm,i+1,σ7,a,c.unpinned,T.keep _ _ _ k λb hb o e=>(c.pin (b,o)<|aZ _<|aZ _<|jQ hb e).1,λb hb=>?_,w7];obtain⟨o,e,d⟩:=T.obj _ _ k b hb;exact(c.pin (b,o)<|aZ _<|aZ _<|jQ hb e).2.1
  cases f with
  |next=>obtain⟨σ7,a,c,q⟩:=j;exact again c q
  |cont=>obtain⟨σ7,a,c,q⟩:=j;exact again c q
  |brk=>obtain⟨σ7,a,c,j⟩:=j;exact#[σ7,a,c.unpinned,j]
  |ret v=>obtain⟨x7,σ7,a,c,r7,j⟩:=j;exact#[x7,σ7,a,c.unpinned,r7,j]
theorem CJ{g:TG}(Pv:Nat->St->Hp->Prop)(h0:Pv 0 σ H)(hl:∀i σ H,i<=xs.length->Pv i σ H->cO K H a xs)
 (hs:∀i x σ H,xs[i]?=some x->Pv i σ H->g x σ H λσ2 H2=>tb {D with nx:=Pv (i+1),ct:=Pv (i+1),bk:=D.nx} σ2 H2) (hd:∀σ H,Pv xs.length σ H->D.nx σ H):
 ∃W:Nat->Nat->St->Hp->Prop,(∃m,W 0 m σ H)/\∀i m σ H,W i m σ H->
  ((jb K a).stop i H/\D.nx σ H)\/((jb K a).go i H/\∃N:St->Hp->Prop,(∀σ' H',N σ' H'->∃m',m'<m/\W (i+1) m' σ' H')/\∀x H',(jb K a).yld i H x H'->g x σ H' λσ2 H2=>tb {D with nx:=N,ct:=N,bk:=D.nx} σ2 H2):=by
 calc#[λi m σ H=>m=xs.length-i/\i<=xs.length/\Pv i σ H,#[xs.length,by simp,cS _,h0],?_];rintro i m σ H ⟨rfl,hi,p⟩;let q:=hl i σ H hi p;by_cases lR:i<xs.length
 ·calc .inr #[#[xs,xs[i],q,by simp[lR]],Pv<|i+1,λσ' H' b=>#[xs.length-(i+1),(),rfl,lR,b],λx H' y=>?_];obtain⟨e,y⟩:=y;subst e;exact hs i x σ _ (y xs q) p
 ·let e:i=xs.length:=by lia
  subst e;exact .inl #[#[xs,q,aG _],hd σ H p]
theorem KL{g:TG}(Pv:Nat->St->Hp->Prop)(h0:Pv 0 σ H)(hl:∀i σ H,i<=xs.length->Pv i σ H->cW K H a xs)
 (hs:∀i x σ H,xs[i]?=some x->Pv i σ H->g x σ H λσ2 H2=>tb {D with nx:=Pv (i+1),ct:=Pv (i+1),bk:=D.nx} σ2 H2) (hd:∀σ H,Pv xs.length σ H->D.nx σ H):
 ∃W:Nat->Nat->St->Hp->Prop,(∃m,W 0 m σ H)/\∀i m σ H,W i m σ H->
  ((mf K a).stop i H/\D.nx σ H)\/((mf K a).go i H/\∃N:St->Hp->Prop,(∀σ' H',N σ' H'->∃m',m'<m/\W (i+1) m' σ' H')/\∀x H',(mf K a).yld i H x H'->g x σ H' λσ2 H2=>tb {D with nx:=N,ct:=N,bk:=D.nx} σ2 H2):=by
 calc#[λi m σ H=>m=xs.length-i/\i<=xs.length/\Pv i σ H,#[xs.length,by simp,cS _,h0],?_];rintro i m σ H ⟨rfl,hi,p⟩;let q:=hl i σ H hi p;by_cases lR:i<xs.length
 ·calc .inr #[#[xs,xs[i],q,by simp[lR]],Pv<|i+1,λσ' H' b=>#[xs.length-(i+1),(),rfl,lR,b],λx H' y=>?_];obtain⟨e,y⟩:=y;subst e;exact hs i x σ _ (y xs q) p
 ·let e:i=xs.length:=by lia
  subst e;exact .inl #[#[xs,q,aG _],hd σ H p]
theorem QR{lo:Int}{g:TG}(Pv:Nat->St->Hp->Prop)(h0:Pv 0 σ H)
 (hs:∀i σ H,i<n->Pv i σ H->g (.int<|lo+i) σ H λσ2 H2=>tb {D with nx:=Pv (i+1),ct:=Pv (i+1),bk:=D.nx} σ2 H2) (hd:∀σ H,Pv n σ H->D.nx σ H):
 ∃W:Nat->Nat->St->Hp->Prop,(∃m,W 0 m σ H)/\∀i m σ H,W i m σ H->
  ((bh lo n).stop i H/\D.nx σ H)\/((bh lo n).go i H/\∃N:St->Hp->Prop,(∀σ' H',N σ' H'->∃m',m'<m/\W (i+1) m' σ' H')/\∀x H',(bh lo n).yld i H x H'->g x σ H' λσ2 H2=>tb {D with nx:=N,ct:=N,bk:=D.nx} σ2 H2):=by
 calc#[λi m σ H=>m=n-i/\i<=n/\Pv i σ H,#[n,by simp,cS _,h0],?_];rintro i m σ H ⟨rfl,hi,p⟩;by_cases lR:i<n
 ·calc .inr #[lR,Pv<|i+1,λσ' H' a=>#[n-(i+1),(),rfl,lR,a],λx H' y=>?_];obtain⟨e,y⟩:=y;subst e y;exact hs i σ _ lR p
 ·let e:i=n:=by lia
  subst e;exact .inl #[aG _,hd σ H p]
abbrev R2:=V->V->Hp->VK->Prop
def pG(X:Cx)(f:Value->Value->Sem Value)(r:R2):Prop:=
 ∀(aM:List (Addr×Obj)) (s:Shared) (σ:St) (H:Hp) (x y:V) (v u:Value) (Q:VK),Inv X aM σ H s->RelV x v->RelV y u->r x y H Q->
  wpAny (model X.prog X.w) X.A (f v u) (EP X aM σ Q) X.xe s
def UnR(X:Cx)(f:Value->Sem Value)(r:V->Hp->VK->Prop):Prop:=
 ∀(aM:List (Addr×Obj)) (s:Shared) (σ:St) (H:Hp) (x:V) (v:Value) (Q:VK),Inv X aM σ H s->RelV x v->r x H Q->
  wpAny (model X.prog X.w) X.A (f v) (EP X aM σ Q) X.xe s
def xX(X:Cx)(f:Value)(r:List V->Hp->VK->Prop):Prop:=
 ∀(aM:List (Addr×Obj)) (s:Shared) (σ:St) (H:Hp) (xs:List V) (us:List Value) (Q:VK),Inv X aM σ H s->cY xs us->r xs H Q->
  wpAny (model X.prog X.w) X.A (call f us) (EP X aM σ Q) X.xe s
def TruR(X:Cx)(r:V->Hp->(Bool->Hp->Prop)->Prop):Prop:=
 ∀(aM:List (Addr×Obj)) (s:Shared) (σ:St) (H:Hp) (x:V) (v:Value) (Q:Bool->Hp->Prop),Inv X aM σ H s->RelV x v->r x H Q->
  wpAny (model X.prog X.w) X.A (truthy v) (TP X aM σ Q) X.xe s
def tOp(r:R2)(ta tb:TE):TE:=λσ H Q=>ta σ H λx H1=>tb σ H1 λy H2=>r x y H2 Q
def tUn(r:V->Hp->VK->Prop)(ta:TE):TE:=λσ H Q=>ta σ H λx H1=>r x H1 Q
def rI(C:Int->Int->Prop)(g:Int->Int->V):R2:=λx y H Q=>sV x λi=>sV y λj=>C i j/\Q (g i j) H
def bx(g:Int->Int->V):R2:=λx y H Q=>sV x λi=>sV y λj=>Q (g i j) H
def rU(g:Int->V):V->Hp->VK->Prop:=λx H Q=>sV x λi=>Q (g i) H
section
variable {a b c:Expr} {tb tc:TE} {pos:Pos}
theorem uj(ha:PE X a ta)(hb:PE X b tb){R:V->V->Hp->Prop}(I:Inv X aM σ H s)
 (h:ta σ H λx H1=>tb σ H1 λy H2=>R x y H2) {f:Value->Value->Sem Value}
 (hf:∀v u s2 x y H2,Inv X aM σ H2 s2->RelV x v->RelV y u->R x y H2->wpAny (model X.prog X.w) X.A (f v u) Q X.xe s2):
 wpAny (model X.prog X.w) X.A (eval a X.env) (λv s₁=>wpAny (model X.prog X.w) X.A (eval b X.env) (λu s₂=>wpAny (model X.prog X.w) X.A (f v u) Q X.xe s₂) X.xe s₁) X.xe s:=by
 refine eK (ha aM s σ H _ I h) λv s1 ⟨x,H1,c,d,e⟩=>?_
 refine eK (hb aM s1 σ H1 _ c e) λu s2 ⟨y,H2,g,i,j⟩=>?_
 exact hf v u s2 x y H2 g d i j
theorem yZ{op:Operator}{r:R2}(ho:pG X (binaryOp op) r)(ha:PE X a ta)(hb:PE X b tb):PE X (.BinOp a op b pos) (tOp r ta tb):=by
 intro aM s σ H Q I h;exact wpAny_BinOp (uj ha hb I h λv u s2 x y H2 c d e q=>ho aM s2 σ H2 x y v u Q c d e q)
theorem RU{op:UnaryOp}{r:V->Hp->VK->Prop}(ho:UnR X (unaryOp op) r)(ha:PE X a ta):PE X (.UnaryOp op a pos) (tUn r ta):=by
 intro aM s σ H Q I h;exact UnaryOp_ (eK (ha aM s σ H _ I h) λv s1 ⟨x,H1,b,c,d⟩=>ho aM s1 σ H1 x v Q b c d)
theorem opI{f:Value->Value->Sem Value}{C:Int->Int->Prop}{g:Int->Int->Int}
 (rule:∀(i j:Int)(t u:Tok)(s:Shared)(Q:Value->Shared->Prop)(E:Value->Shared->Prop),C i j->Q (.int (g i j) s.toks) {s with toks:=s.toks+1}->wpAny (model X.prog X.w) X.A (f (.int i t)<|.int j u) Q E s):
 pG X f (rI C λi j=>.int<|g i j):=by
 intro aM s σ H x y v u Q I a b h;replace h:=jX h;obtain⟨i,rfl,h⟩:=h;replace h:=jX h;obtain⟨j,rfl,hc,q⟩:=h;obtain⟨t,rfl⟩:=a;obtain⟨t',rfl⟩:=b;exact rule i j t t' s _ _ hc #[.int<|g i j,H,I.tok _,#[_,rfl],q]
theorem fc{f:Value->Value->Sem Value}{g:Int->Int->Int}
 (rule:∀(i j:Int)(t u:Tok)(s:Shared)(Q:Value->Shared->Prop)(E:Value->Shared->Prop),Q (.int (g i j) s.toks) {s with toks:=s.toks+1}->wpAny (model X.prog X.w) X.A (f (.int i t)<|.int j u) Q E s):
 pG X f (bx λi j=>.int<|g i j):=by
 intro aM s σ H x y v u Q I a b h;replace h:=jX h;obtain⟨i,rfl,h⟩:=h;replace h:=jX h;obtain⟨j,rfl,q⟩:=h;obtain⟨t,rfl⟩:=a;obtain⟨t',rfl⟩:=b;exact rule i j t t' s _ _ #[.int<|g i j,H,I.tok _,#[_,rfl],q]
theorem fe{f:Value->Value->Sem Value}{g:Int->Int->Bool}
 (rule:∀(i j:Int)(t u:Tok)(s:Shared)(Q:Value->Shared->Prop)(E:Value->Shared->Prop),Q (.bool<|g i j) s->wpAny (model X.prog X.w) X.A (f (.int i t)<|.int j u) Q E s):
 pG X f (bx λi j=>.bl<|g i j):=by
 intro aM s σ H x y v u Q I a b h;replace h:=jX h;obtain⟨i,rfl,h⟩:=h;replace h:=jX h;obtain⟨j,rfl,q⟩:=h;obtain⟨t,rfl⟩:=a;obtain⟨t',rfl⟩:=b;exact rule i j t t' s _ _ #[.bl<|g i j,H,I,rfl,q]
def CDiv(i j:Int):Prop:=0<j/\j<1073741824
def CPow(i j:Int):Prop:=0<=j/\j<=1000000/\i.natAbs<2^64
def uw(i j:Int):Prop:=(-(2^64)<i/\i<2^64)\/(-(2^64)<j/\j<2^64)
theorem uw.ok{i j:Int}(h:uw i j):IntMulOk i j:=by
 rcases h with⟨h1,h2⟩ |⟨h1,h2⟩
 ·exact .of_left<|intBits_le_64 h1 h2
 ·exact .of_right<|intBits_le_64 h1 h2
theorem FG:pG X (binaryOp .Add) (bx λi j=>.int<|i+j):=fc λ_ _ _ _ _ _ _ q=>add_int q
theorem SI:pG X (binaryOp .Sub) (bx λi j=>.int<|i-j):=fc λ_ _ _ _ _ _ _ q=>sub_int q
theorem VD:pG X (binaryOp .Mult) (rI uw λi j=>.int<|i*j):=opI λ_ _ _ _ _ _ _ hc q=>mul_int q hc.ok
theorem et:pG X (binaryOp .FloorDiv) (rI CDiv λi j=>.int<|i/j):=opI λi j _ _ _ _ _ hc q=>by
 let h1:(0:Int)<j:=hc.1;let h2:j<1073741824:=hc.2;exact floordiv_int () (by rw[Int.fdiv_eq_ediv_of_nonneg i ()];calc q)<|.inl<|PyProof.noPylong_small ()
theorem VE:pG X (binaryOp .Mod) (rI (λ_ j=>0<j) λi j=>.int<|i % j):=opI λi j _ _ _ _ _ hc q=>by
 let h1:(0:Int)<j:=hc;exact mod_int' () (by rw[Int.fmod_eq_emod_of_nonneg i ()];calc q)
theorem qu:pG X (binaryOp .Pow) (rI CPow λi j=>.int<|i^j.toNat):=opI λ_ _ _ _ _ _ _ hc q=>pow_int_small hc.1 hc.2.1 hc.2.2 q
theorem qr:pG X (binaryOp .LShift) (rI CPow λi j=>.int<|i*2^j.toNat):=opI λ_ _ _ _ _ _ _ hc q=>lshift_int_small hc.1 hc.2.1 hc.2.2 q
theorem FE:pG X (binaryOp .BitAnd) (bx λi j=>.int<|Builtin.bitAnd i j):=fc λ_ _ _ _ _ _ _ q=>and_int q
theorem qq:pG X (binaryOp .BitXor) (bx λi j=>.int<|Builtin.bitXor i j):=fc λ_ _ _ _ _ _ _ q=>xor_int q
theorem unI{f:Value->Sem Value}{g:Int->Int}
 (rule:∀(i:Int)(t:Tok)(s:Shared)(Q:Value->Shared->Prop)(E:Value->Shared->Prop),Q (.int (g i) s.toks) {s with toks:=s.toks+1}->wpAny (model X.prog X.w) X.A (f<|.int i t) Q E s):
 UnR X f (rU λi=>.int<|g i):=by
 intro aM s σ H x v Q I a h;replace h:=jX h;obtain⟨i,rfl,q⟩:=h;obtain⟨t,rfl⟩:=a;exact rule i t s _ _ #[.int<|g i,H,I.tok _,#[_,rfl],q]
theorem m6:UnR X (unaryOp .USub) (rU λi=>.int (-i)):=unI λ_ _ _ _ _ q=>neg_int q
theorem EA:UnR X (unaryOp .Invert) (rU λi=>.int<|Builtin.bitNot i):=unI λ_ _ _ _ _ q=>invert_int q
end
noncomputable def scal:V->V->Bool
 | .non,.non=>true | .non,.int _=>true | .int _,.non=>true | .non,.bl _=>true | .bl _,.non=>true | .non,.str _=>true | .str _,.non=>true
 | .int _,.int _=>true | .bl _,.bl _=>true | .str _,.str _=>true | .byt _,.byt _=>true
 | .int _,.str _=>true | .str _,.int _=>true | .bl _,.str _=>true | .str _,.bl _=>true
 |_,_=>false
def rEq:R2:=λx y H Q=>scal x y=true/\Q (.bl<|decide<|x=y) H
def rNe:R2:=λx y H Q=>scal x y=true/\Q (.bl<|!decide (x=y)) H
theorem KP{i j:Int}:decide (V.int i=V.int j)=(i==j):=by
 rw[cF];simp
theorem am{i j:Bool}:decide (V.bl i=V.bl j)=(i==j):=by
 rw[cF];simp
theorem KO{i j:Str}:decide (V.str i=V.str j)=(i==j):=by
 rw[cF];simp
theorem KQ{i j:Array UInt8}:decide (V.byt i=V.byt j)=(i.toList==j.toList):=by
 rw[cF];cases i;cases j;simp
section
variable {a b c:Expr} {tb tc:TE} {pos:Pos}
theorem zT{Q:VK}{k k':Bool}(I:Inv X aM σ H s)(q:Q (.bl k) H)(e:k=k'):EP X aM σ Q (.bool k') s:=by
 subst e;exact#[.bl k,H,I,rfl,q]
theorem QK:pG X (compareOp .Eq) rEq:=by
 intro aM s σ H x y v u Q I b a h;obtain⟨hs,q⟩:=h;cases x with
 |non=>
  cases b;cases y with
  |non=>cases a;exact PySem.EqNone.eq_none_none (zT I q (by simp))
  |bl j=>cases a;exact PySem.EqNone.eq_none_bool (zT I q (by simp))
  |int j=>obtain⟨t',rfl⟩:=a;exact PySem.EqNone.eq_none_int (zT I q (by simp))
  |str j=>obtain⟨t',rfl⟩:=a;exact PySem.EqNone.eq_none_str (zT I q (by simp))
  |_=>exact absurd (show false=true from hs) aY
 |bl i=>
  cases b;cases y with
  |non=>cases a;exact PySem.EqNone.eq_bool_none (zT I q (by simp))
  |bl j=>cases a;exact eq_bool<|zT I q am
  |str j=>obtain⟨t',rfl⟩:=a;exact PySem.EqMixed.eq_bool_str (zT I q (by simp))
  |_=>exact absurd (show false=true from hs) aY
 |int i=>
  obtain⟨t,rfl⟩:=b;cases y with
  |non=>cases a;exact PySem.EqNone.eq_int_none (zT I q (by simp))
  |int j=>obtain⟨t',rfl⟩:=a;exact eq_int<|zT I q KP
  |str j=>obtain⟨t',rfl⟩:=a;exact PySem.EqMixed.eq_int_str (zT I q (by simp))
  |_=>exact absurd (show false=true from hs) aY
 |str i=>
  obtain⟨t,rfl⟩:=b;cases y with
  |non=>cases a;exact PySem.EqNone.eq_str_none (zT I q (by simp))
  |bl j=>cases a;exact PySem.EqMixed.eq_str_bool (zT I q (by simp))
  |int j=>obtain⟨t',rfl⟩:=a;exact PySem.EqMixed.eq_str_int (zT I q (by simp))
  |str j=>obtain⟨t',rfl⟩:=a;exact eq_str<|zT I q KO
  |_=>exact absurd (show false=true from hs) aY
 |byt i=>
  obtain⟨t,rfl⟩:=b;cases y with
  |byt j=>obtain⟨t',rfl⟩:=a;exact W.eq_bytes<|zT I q KQ
  |_=>exact absurd (show false=true from hs) aY
 |_=>cases y<;>exact absurd (show false=true from hs) aY
theorem BB:pG X (compareOp .NotEq) rNe:=by
 intro aM s σ H x y v u Q I b a h;obtain⟨hs,q⟩:=h;cases x with
 |non=>
  cases b;cases y with
  |non=>cases a;exact PySem.EqNone.ne_none_none (zT I q (by simp))
  |bl j=>cases a;exact PySem.EqNone.ne_none_bool (zT I q (by simp))
  |int j=>obtain⟨t',rfl⟩:=a;exact PySem.EqNone.ne_none_int (zT I q (by simp))
  |str j=>obtain⟨t',rfl⟩:=a;exact PySem.EqNone.ne_none_str (zT I q (by simp))
  |_=>exact absurd (show false=true from hs) aY
 |bl i=>
  cases b;cases y with
  |non=>cases a;exact PySem.EqNone.ne_bool_none (zT I q (by simp))
  |bl j=>cases a;exact ne_bool<|zT I q<|cM not am
  |str j=>obtain⟨t',rfl⟩:=a;exact PySem.EqMixed.ne_bool_str (zT I q (by simp))
  |_=>exact absurd (show false=true from hs) aY
 |int i=>
  obtain⟨t,rfl⟩:=b;cases y with
  |non=>cases a;exact PySem.EqNone.ne_int_none (zT I q (by simp))
  |int j=>obtain⟨t',rfl⟩:=a;exact ne_int<|zT I q<|cM not KP
  |str j=>obtain⟨t',rfl⟩:=a;exact PySem.EqMixed.ne_int_str (zT I q (by simp))
  |_=>exact absurd (show false=true from hs) aY
 |str i=>
  obtain⟨t,rfl⟩:=b;cases y with
  |non=>cases a;exact PySem.EqNone.ne_str_none (zT I q (by simp))
  |bl j=>cases a;exact PySem.EqMixed.ne_str_bool (zT I q (by simp))
  |int j=>obtain⟨t',rfl⟩:=a;exact PySem.EqMixed.ne_str_int (zT I q (by simp))
  |str j=>obtain⟨t',rfl⟩:=a;exact ne_str<|zT I q<|cM not KO
  |_=>exact absurd (show false=true from hs) aY
 |byt i=>
  obtain⟨t,rfl⟩:=b;cases y with
  |byt j=>obtain⟨t',rfl⟩:=a;exact W.ne_bytes<|zT I q<|cM not KQ
  |_=>exact absurd (show false=true from hs) aY
 |_=>cases y<;>exact absurd (show false=true from hs) aY
theorem IK:pG X (compareOp .Lt) (bx λi j=>.bl<|decide<|i<j):=fe λ_ _ _ _ _ _ _ q=>lt_int q
theorem IL:pG X (compareOp .LtE) (bx λi j=>.bl<|decide<|i<=j):=fe λ_ _ _ _ _ _ _ q=>le_int q
theorem ln:pG X (compareOp .Gt) (bx λi j=>.bl<|decide<|j<i):=fe λ_ _ _ _ _ _ _ q=>gt_int q
theorem lq:pG X (compareOp .GtE) (bx λi j=>.bl<|decide<|j<=i):=fe λ_ _ _ _ _ _ _ q=>ge_int q
theorem FC:pG X (compareOp .Is) (λx y H Q=>y=.non/\Q (.bl<|decide<|x=.non) H):=by
 intro aM s σ H x y v u Q I a b h;obtain⟨rfl,q⟩:=h;cases b;calc is_none_gen<|zT I q ?_;cases x<;>first
  |(cases a;rfl)
  |(obtain⟨t,rfl⟩:=a;rfl)
theorem er:pG X (compareOp .IsNot) (λx y H Q=>y=.non/\Q (.bl<|!decide (x=.non)) H):=by
 intro aM s σ H x y v u Q I a b h;obtain⟨rfl,q⟩:=h;cases b;calc isnot_none_gen<|zT I q ?_;cases x<;>first
  |(cases a;rfl)
  |(obtain⟨t,rfl⟩:=a;rfl)
theorem yI(b:Expr)(h:op≠.In:=by decide)(h2:op≠.NotIn:=by decide):behindInMarks op b=false:=by
 let a:(op==CmpOp.In)=false:=by cases op<;>first |rfl |exact absurd rfl h
 let c:(op==CmpOp.NotIn)=false:=by cases op<;>first |rfl |exact absurd rfl h2
 cases b<;>simp[behindInMarks,a,c]
theorem qR{r:R2}(ho:pG X (compareOp op) r)(ha:PE X a ta)(hb:PE X b tb)(hm:behindInMarks op b=false):PE X (.Compare a [op] [b] pos) (tOp r ta tb):=by
 intro aM s σ H Q I h;exact wpAny_Compare1 (uj ha hb I h λv u s2 x y H2 c d e q=>ho aM s2 σ H2 x y v u Q c d e q) hm
def tTest(t:TE):TT:=λσ H Q=>t σ H λx H'=>i7 x λk=>Q k H'
theorem yC{r:R2}(ho:pG X (compareOp op) r)(ha:PE X a ta)(hb:PE X b tb)(hm:behindInMarks op b=false):PT X (.Compare a [op] [b] pos) (tTest<|tOp r ta tb):=by
 intro aM s σ H Q I h;refine wpAny_isTrue_Compare1 (eK (ha aM s σ H _ I h) λv s1 ⟨x,H1,e,f,g⟩=>eK (hb aM s1 σ H1 _ e g) λu s2 ⟨y,H2,i,j,l⟩=>
  eK (ho aM s2 σ H2 x y v u _ i f j l) λc p ⟨z,m,n,o,d⟩=>?_) hm
 replace d:=DD d;obtain⟨k,rfl,d⟩:=d;cases o;exact fC #[m,n,d]
def ng(r r':R2)(ta tb tc:TE):TE:=λσ H Q=>ta σ H λx H1=>tb σ H1 λy H2=>r x y H2 λz H3=>i7 z λk=>(if k=true then tc σ H3 λw' H4=>r' y w' H4 Q else Q (.bl false) H3)
theorem SD{op':CmpOp}{r r':R2}(ho:pG X (compareOp op) r)(ho':pG X (compareOp op') r')(ha:PE X a ta)(hb:PE X b tb)(hc:PE X c tc)
 (hm:lastMarks [op,op'] [b,c]=false:=by with_unfolding_all rfl):PE X (.Compare a [op,op'] [b,c] pos) (ng r r' ta tb tc):=by
 intro aM s σ H Q I h;refine Compare_chain (eK (ha aM s σ H _ I h) λv s1 ⟨x,H1,j,l,m⟩=>chain_link (eK (hb aM s1 σ H1 _ j m) λu s2 ⟨y,H2,n,f,o⟩=>
  eK (ho aM s2 σ H2 x y v u _ n l f o) λd p ⟨z,g,i,q,e⟩=>?_)) hm
 replace e:=DD e;obtain⟨k,rfl,e⟩:=e;cases q;calc fC ?_;cases k with
 |false=>exact ite_ff #[.bl false,g,i,rfl,e]
 |true=>exact ite_tt (chain_last<|eK (hc aM p σ g _ i e) λt w ⟨z',A,B,C,D⟩=>ho' aM w σ A y z' u t Q B f C D)
def TruV(K:W.Frag)(x:V)(H:Hp)(k:Bool):Prop:=
 match x with
 | .non=>k=false
 | .bl b=>k=b
 | .int i=>k=(i !=0)
 | .str y=>y.length<=sizeLine/\k=((y.length:Int) !=0)
 | .byt y=>y.size<=sizeLine/\k=((y.size:Int) !=0)
 | .ref p=>(∃xs,cO K H p xs/\k=!xs.isEmpty)\/(∃xs,cW K H p xs/\k=!xs.isEmpty)\/∃kvs,H p=some (.dK kvs)/\k=!kvs.isEmpty
 |_=>False
theorem FX{κ:Type}{kvs:List (κ×V)}{vs:List (κ×Value)}(r:KV kvs vs):(!vs.isEmpty)=!kvs.isEmpty:=by
 cases r<;>rfl
theorem XS(r:cY xs its):(!its.toArray.isEmpty)=!xs.isEmpty:=by
 cases r<;>simp
theorem kR:(sizeLine:Nat)<2^63:=by rw[dH];decide
theorem m8:TruR X (λx H Q=>∃k,TruV X.K x H k/\Q k H):=by
 intro aM s σ H x v Q I c h;obtain⟨k,e,q⟩:=h;let hl:=kR;let hs:sizeLine=16777216:=dH;cases x with
 |non=>
  cases c;let a:k=false:=e;subst a;exact truthy_none #[H,I,q]
 |bl b=>
  cases c;let a:k=b:=e;subst a;exact fC #[H,I,q]
 |int i=>
  obtain⟨t,rfl⟩:=c;let a:k=(i !=0):=e;subst a;exact PySem.P.truthy_int #[H,I,q]
 |str y=>
  obtain⟨t,rfl⟩:=c;obtain⟨hy,a⟩:y.length<=sizeLine/\k=((y.length:Int) !=0):=e;subst a;exact PySem.P.truthy_str () #[H,I.tok _,q]
 |byt y=>
  obtain⟨t,rfl⟩:=c;obtain⟨hy,a⟩:y.size<=sizeLine/\k=((y.size:Int) !=0):=e;subst a;exact W.truthy_bytes () #[H,I.tok _,q]
 |ref p=>
  cases c;let a:(∃xs,cO X.K H p xs/\k=!xs.isEmpty)\/(∃xs,cW X.K H p xs/\k=!xs.isEmpty)\/∃kvs,H p=some (.dK kvs)/\k=!kvs.isEmpty:=e;rcases a with⟨xs,hx,a⟩ |⟨xs,hx,a⟩ |⟨kvs,hx,a⟩
  ·subst a;obtain⟨its,r,pl,hz⟩:=I.list hx;let eQ:=r.length;exact wpAny_truthy_list pl.isList (by simp only[aR];lia) #[H,I.tok _,by rw[XS r];calc q]
  ·subst a;obtain⟨its,r,pl,hz⟩:=I.tuple hx;let eQ:=r.length;exact truthy_tuple pl (by simp only[aR];lia) #[H,I.tok _,by rw[XS r];calc q]
  ·subst a;obtain⟨hz,d,vs,r,m⟩:kvs.length<=sizeLine/\(p==sysModules)=false/\∃vs,KV kvs vs/\s.heap.DictOf (zX X.prog X.w) p vs:=I.hok p _ hx;let eQ:kvs.length=vs.length:=fA r;exact wpAny_truthy_dict d m () #[H,I.tok _,by rw[FX r];calc q]
 |_=>exact(show False from e).elim
theorem RM(ha:PE X a ta)(he:∀whole,isTrue a X.env whole=(do let v ←whole;standAt a.pos;holding [v]<|truthy v)):
 PT X a (λσ H Q=>ta σ H λx H'=>∃k,TruV X.K x H' k/\Q k H'):=by
 intro aM s σ H Q I h;exact isTrue_plain (eK (ha aM s σ H _ I h) λv s1 ⟨x,H1,b,c,d⟩=>m8 aM s1 σ H1 x v Q b c d)<|he _
theorem FF:pG X (binaryOp .Add) (λx y H Q=>∃i j,x=.str i/\y=.str j/\i.length+j.length<=sizeLine/\Q (.str<|i++j) H):=by
 intro aM s σ H x y v u Q I a b h;obtain⟨i,j,rfl,rfl,hz,q⟩:=h;obtain⟨t,rfl⟩:=a;obtain⟨t',rfl⟩:=b;exact add_str (λt' tk=>#[.str<|i++j,H,I.tok _,#[_,rfl],q]) hz
theorem jY{x:V}(r:cY [x] us):∃u,us=[u]/\RelV x u:=by
 cases r with
 |cons a b=>cases b;exact#[_,rfl,a]
theorem vals2{x:V}(r:cY [x,y] us):∃u w',us=[u,w']/\RelV x u/\RelV y w':=by
 cases r with
 |cons a b=>
  cases b with
  |cons c d=>cases d;exact#[_,_,rfl,a,c]
def NU(K:W.Frag)(x:V)(H:Hp)(n:Nat):Prop:=
 match x with
 | .str y=>y.length<=sizeLine/\n=y.length
 | .byt y=>y.size<=sizeLine/\n=y.size
 | .ref p=>(∃xs,cO K H p xs/\n=xs.length)\/∃xs,cW K H p xs/\n=xs.length
 |_=>False
theorem kI:xX X (.builtin "len") (λxs H Q=>rJ xs λx=>∃n,NU X.K x H n/\Q (.int n) H):=by
 intro aM s σ H xs us Q I r h;replace h:=wJ h;obtain⟨x,rfl,n,e,q⟩:=h;obtain⟨u,rfl,b⟩:=jY r;let hl:=kR;let hs:sizeLine=16777216:=dH;cases x with
 |str y=>
  obtain⟨t,rfl⟩:=b;obtain⟨hy,a⟩:y.length<=sizeLine/\n=y.length:=e;subst a;exact len_str () #[.int _,H,I.tok _,#[_,rfl],q]
 |byt y=>
  obtain⟨t,rfl⟩:=b;obtain⟨hy,a⟩:y.size<=sizeLine/\n=y.size:=e;subst a;exact W.len_bytes () #[.int _,H,I.tok _,#[_,rfl],q]
 |ref p=>
  cases b;let a:(∃xs,cO X.K H p xs/\n=xs.length)\/∃xs,cW X.K H p xs/\n=xs.length:=e;rcases a with⟨xs,hx,a⟩ |⟨xs,hx,a⟩
  ·subst a;obtain⟨its,c,pl,hz⟩:=I.list hx;let eQ:=c.length;exact Calls.call_len_list pl.isList (by simp only[aR];lia) #[.int xs.length,H,I.tok _,#[_,by simp only[aR];rw[eQ]],q]
  ·subst a;obtain⟨its,c,pl,hz⟩:=I.tuple hx;let eQ:=c.length;exact len_tuple pl (by simp only[aR];lia) #[.int xs.length,H,I.tok _,#[_,by simp only[aR];rw[eQ]],q]
 |_=>exact(show False from e).elim
end
structure GQ(h:Heap)(x dx C:Addr)(mA:Str->Option Value):Prop where
 obj:h.get? x=some (W.instObj C dx)
 ns:h.Ns1 dx mA
 ne:dx≠x
theorem NB{dx:Addr}(n:h.Ns1 dx mA):∃od,h.get? dx=some od/\∀name,W.lookIn name od=some (mA name):=by
 obtain⟨o,es,ep,c,hd,hk,_,hm⟩:=n;calc#[o,c,λname=>?_];let e:=hm name;unfold nsFind findBy at e;rw[←Array.find?_toList]at e;unfold W.lookIn;rw[hd];dsimp only;split
 ·rename_i y q
  rw[q]at e;exact cM some e
 ·rename_i q
  rw[q]at e;let a:es.toList.any (·.refKey)=false:=by
   rw[List.any_eq_false];intro y hy;obtain⟨z,t,b⟩:=hk y<|Array.mem_toList_iff.mp hy;simp[DictEntry.refKey,b]
  let d:¬es.toList.any (·.refKey)=true:=by rw[a];exact aY
  rw[aH d];exact cM some e
theorem GQ.look{x dx C:Addr}(I:GQ h x dx C mA):∃od,W.InstAt h x (W.instObj C dx) C (some od)/\∀name,W.lookIn name od=some (mA name):=
 let ⟨od,a,hl⟩:=NB I.ns
 #[od,#[I.obj,rfl,rfl,a],hl]
section
variable {x dx C:Addr} {name:Str} {v:Value}
theorem ir{expr:Bool}(X:K.In s.heap)(I:GQ s.heap x dx C mA)(hg:W.plainGet K C name=true)(hh:W.hasDictIn K C=true)
 (ha:W.findIn K (.ref C) name=some none) (hv:mA name=some v) (hv':W.handedIn v=true) (h:Q v {s with toks:=s.toks+1}):
 wpAny (model prog w) A (getAttr (.ref x) name expr) Q E s:=by
 obtain⟨od,J,hl⟩:=I.look;exact W.get_value X J (tJ hg).1 (W.findObj_own hh ha rfl (by rw[hl,hv])) hv' h
theorem WX{pl:Sem Bool}{Q:Value×List Value->Shared->Prop}(X:K.In s.heap)(I:GQ s.heap x dx C mA)(hg:W.plainGet K C name=true)
 (hf:W.findIn K (.ref C) name=some (some<|.ref f)) (ht:W.isFn K (.ref f)=true) (hv:mA name=none) (h:Q (.ref f,[.ref x]) s):
 wpAny (model prog w) A (getMethod (.ref x) name pl) Q E s:=by
 obtain⟨od,J,hl⟩:=I.look;exact W.method_fn X J (tJ hg).1 (tJ hg).2 hf (cP.mp ht) (by show(W.lookIn name od).map (·.isSome)=some false;rw[hl,hv];rfl) h
theorem dn{Q:Unit->Shared->Prop}(X:K.In s.heap)(I:GQ s.heap x dx C mA)
 (hs:W.findIn K (.ref C) "__setattr__"=some (some<|.builtin "object.__setattr__")) (hp:W.plainOver K C=true) (ht:W.takerIn K C name=some none) (hh:W.hasDictIn K C=true)
 (hw:PySem.Within mA ns) (hsz:ns.length<=sizeLine)
 (h:∀h',GQ h' x dx C (λy=>if y=name then some v else mA y)->Heap.SameBut dx s.heap h'->Q Unit.unit {s with heap:=h',toks:=s.toks+2}):
 wpAny (model prog w) A (setAttr (.ref x) name v) Q E s:=by
 obtain⟨od,J,hl⟩:=I.look;calc W.set_plain X J hs (W.osa_open (s:={s with toks:=s.toks+1}) (r:=none) X J hp ht λb=>?_);obtain⟨j,hc,e⟩:=W.any_some hh;let hx:s.heap.get? x=some #[.ref C,some dx,.plain,(List.toArray [])]:=I.obj;calc aE<|aJ<|aE<|aE<|wpAny_loadPart hx<|aE<|W.Looks.here (s:={s with toks:=s.toks+1}) (W.looks_clsIn X hc) ?_;rw[e];calc aJ (a:=some dx)<|aE<|aJ<|aE ?_;refine wpAny_nsSet1 (s:={s with toks:=s.toks+1}) I.ns λh' c d=>?_
 obtain⟨oD,esD,epD,f,g,i⟩:=c.count<|PySem.Within.cons name v hw;calc aE (wpAny_lookBehind f (by rw[g];calc pastItsLine_dict<|bX i (by rw[bG];lia)) ?_);exact aJ<|h _ #[(d.2 _<|cE I.ne).trans I.obj,c,I.ne] d
theorem TU{vs:List Value}(X:K.In s.heap)(hm:W.makesIn K C=true)
 (hi:W.findIn K (.ref C) "__init__"=some (some<|.ref f)) (hf:W.typeIn K (.ref f)=some (.type "function"))
 (h:codeAny (model prog w) (A.under<|.builtin "type.__call__" #[.ref C::vs,kw]) (.call (.ref f) #[.ref (s.heap.objs.size+1)::vs,kw]) (W.InitBack (s.heap.objs.size+1) R)
  {s with heap:=(s.heap.push W.emptyDict).push (W.instObj C s.heap.objs.size)}):
 codeAny (model prog w) A (.call (.ref C) #[vs,kw]) R s:=by
 obtain⟨a,g,d,t,os⟩:=s;exact W.make_core (W.makes_of X hm) (W.looks_findIn X hi) (λself=>W.bind_fn X self hf) (.inl rfl) h
end
noncomputable def yP(f:Str)(v:V):List (Str×V)->List (Str×V)
 |[]=>[(f,v)]
 |(g,x)::r=>if g=f then(g,v)::r else(g,x)::yP f v r
theorem ZG(f g:Str)(v:V):∀fs:List (Str×V),(yP f v fs).lookup g=if g=f then some v else fs.lookup g
 |[]=>by
  show List.lookup g [(f,v)]=_;by_cases h:g=f
  ·let hb:(g==f)=true:=cP.mpr h;simp only[List.lookup,hb,aT h]
  ·let hb:(g==f)=false:=cG.mpr h;simp only[List.lookup,hb,aH h]
 |(k,x)::r=>by
  let a:=ZG f g v r;rw[show yP f v ((k,x)::r)=(if k=f then(k,v)::r else(k,x)::yP f v r)from rfl];by_cases hk:k=f
  ·rw[aT hk];by_cases h:g=k
   ·let hb:(g==k)=true:=cP.mpr h;simp only[List.lookup,hb,aT<|h.trans hk]
   ·let hb:(g==k)=false:=cG.mpr h;simp only[List.lookup,hb,aH λe:g=f=>h<|e.trans hk.symm]
  ·rw[aH hk];by_cases h:g=k
   ·let hb:(g==k)=true:=cP.mpr h;simp only[List.lookup,hb,aH λe:g=f=>hk<|h.symm.trans e]
   ·let hb:(g==k)=false:=cG.mpr h;simp only[List.lookup,hb];exact a
theorem kU(f:Str)(v:V):∀fs:List (Str×V),f∈(yP f v fs).map (·.1)/\∀g,g∈fs.map (·.1)->g∈(yP f v fs).map (·.1)
 |[]=>#[by simp[yP],λg h=>by simp at h]
 |(k,x)::r=>by
  obtain⟨a,b⟩:=kU f v r;rw[show yP f v ((k,x)::r)=(if k=f then(k,v)::r else(k,x)::yP f v r)from rfl];by_cases hk:k=f
  ·rw[aT hk];subst hk;exact#[by simp,λg h=>by simpa using h]
  ·rw[aH hk];refine#[?_,λg h=>?_]
   ·rw[bY];exact aW _ a
   ·rw[bY]at h⊢;rcases bI.mp h with e |e
    ·exact bI.mpr<|.inl e
    ·exact aW _<|b g e
theorem ZH(f:Str)(v:V):∀fs:List (Str×V),(yP f v fs).length<=fs.length+1
 |[]=>by simp[yP]
 |(k,x)::r=>by
  let a:=ZH f v r;rw[show yP f v ((k,x)::r)=(if k=f then(k,v)::r else(k,x)::yP f v r)from rfl];by_cases hk:k=f
  ·rw[aT hk,bG,bG];lia
  ·rw[aH hk,bG,bG];lia
theorem nZ.some_of{o:Option Value}(r:nZ (some v) o):∃u,o=some u/\RelV v u:=by
 cases o with
 |none=>exact(show False from r).elim
 |some u=>exact#[u,rfl,r]
theorem nZ.none_of{o:Option Value}(r:nZ none o):o=none:=by
 cases o with
 |none=>rfl
 |some u=>exact(show False from r).elim
theorem NH(r:RelV v u):W.handedIn u=true:=by
 cases v with
 |non=>cases (show u=Value.none from r);rfl
 |bl b=>cases (show u=Value.bool b from r);rfl
 |int i=>obtain⟨t,e⟩:=(show∃t,u=Value.int i t from r);cases e;rfl
 |str x=>obtain⟨t,e⟩:=(show∃t,u=Value.str x t from r);cases e;rfl
 |byt b=>obtain⟨t,e⟩:=(show∃t,u=Value.bytes b t from r);cases e;rfl
 |flt b=>obtain⟨t,e⟩:=(show∃t,u=Value.float b t from r);cases e;rfl
 |ref a=>cases (show u=Value.ref a from r);rfl
 |ty n=>cases (show u=Value.type n from r);rfl
section
variable {C dx:Addr} {fs fs':List (Str×V)}
theorem YE(hok:mV P w H h)(e:H a=some (.ins C dx fs)):∃mA,GQ h a dx C mA/\(∀f,nZ (fs.lookup f)<|mA f)/\PySem.Within mA (fs.map (·.1))/\fs.length<=1000/\H dx=some (.own a):=by
 obtain⟨d,z,ne,b,mA,n,r,q⟩:=(show eZ P w H h a (.ins C dx fs)from hok a _ e)
 exact#[mA,#[b,n,ne],r,q,z,d]
end
structure LG(K:W.Frag)(C:Addr):Prop where
 pg:W.plainGet K C Str.empty=true
 hd:W.hasDictIn K C=true
 po:W.plainOver K C=true
 sa:W.findIn K (.ref C) "__setattr__"=some (some<|.builtin "object.__setattr__")
theorem LG.get{C:Addr}(c:LG K C)(f:Str):W.plainGet K C f=true:=c.pg
def lY(K:W.Frag)(C:Addr)(f:Str):Prop:=W.findIn K (.ref C) f=some none
theorem lY.taker{C:Addr}{f:Str}(n:lY K C f):W.takerIn K C f=some none:=by
 unfold W.takerIn;rw[show W.findIn K (.ref C) f=some none from n];rfl
structure NT(K:W.Frag)(C:Addr)(m:Str)(f:Addr):Prop where
 at_:W.findIn K (.ref C) m=some (some<|.ref f)
 fn:W.isFn K (.ref f)=true
 kp:W.keepIn K (.ref f)=true
section
variable {C dx:Addr} {fs:List (Str×V)} {f:Str}
theorem GD{b:Bool}(I:Inv X aM σ H s)(e:H a=some (.ins C dx fs))(c:LG X.K C)(n:lY X.K C f)(l:fs.lookup f=some v)
 (h:∀u s',Inv X aM σ H s'->RelV v u->Q u s'):wpAny (model X.prog X.w) A (getAttr (.ref a) f b) Q E s:=by
 obtain⟨mA,O,r,_,_,_⟩:=YE I.hok e;obtain⟨u,hu,d⟩:=nZ.some_of (v:=v) (o:=mA f) (by rw[←l];calc r f);exact ir I.kIn O (c.get f) c.hd n hu (NH d)<|h u _ (I.tok _) d
theorem GC{m:Str}{g:Addr}{pl:Sem Bool}{Q:Value×List Value->Shared->Prop}(I:Inv X aM σ H s)(e:H a=some (.ins C dx fs))(c:LG X.K C)(k:NT X.K C m g)(l:fs.lookup m=none)
 (h:Q (.ref g,[.ref a]) s):wpAny (model X.prog X.w) A (getMethod (.ref a) m pl) Q E s:=by
 obtain⟨mA,O,r,_,_,_⟩:=YE I.hok e;let hn:mA m=none:=nZ.none_of (by rw[←l];calc r m);exact WX I.kIn O (c.get m) k.at_ k.fn hn h
theorem EM{Q:Unit->Shared->Prop}(I:Inv X aM σ H s)(e:H a=some (.ins C dx fs))(c:LG X.K C)(n:lY X.K C f)(hl:fs.length<1000)(ry:RelV y u)
 (h:∀s',Inv X aM σ (upd H a<|.ins C dx<|yP f y fs) s'->Q Unit.unit s'):wpAny (model X.prog X.w) A (setAttr (.ref a) f u) Q E s:=by
 obtain⟨mA,O,r,wi,_,i⟩:=YE I.hok e;let hz:(fs.map (·.1)).length<=sizeLine:=by rw[aC,dH];lia
 refine dn I.kIn O c.sa c.po n.taker c.hd wi hz λh' d j=>h _ ?_
 let hd:∃o,h'.get? dx=some o:=let ⟨o,_,_,k,_⟩:=d.ns;#[o,k];calc I.write (x:=a) (e:=dx) (by rw[e];calc True.intro) (.inr i) (λb q hb z=>(j.2 b hb).trans z) hd ?_;refine#[by rw[zG O.ne];exact i,?_,O.ne,d.obj,_,d.ns,λg=>?_,λg l=>?_]
 ·have :=ZH f y fs;lia
 ·show nZ ((yP f y fs).lookup g) (if g=f then some u else mA g);rw[ZG];by_cases q:g=f
  ·rw[aT q,aT q];exact ry
  ·rw[aH q,aH q];exact r g
 ·by_cases q:g=f
  ·rw[q];exact(kU f y fs).1
  ·calc(kU f y fs).2 g (wi g λz=>l ?_);show(if g=f then some u else mA g)=none;rw[aH q];exact z
theorem Inv.made(I:Inv X aM σ H s):Inv X aM σ (upd (upd H s.heap.objs.size<|.own<|s.heap.objs.size+1) (s.heap.objs.size+1)<|.ins C s.heap.objs.size [])
 {s with heap:=(s.heap.push W.emptyDict).push (W.instObj C s.heap.objs.size)}:=by
 let c:(s.heap.push W.emptyDict).get? s.heap.objs.size=some W.emptyDict:=bF s.heap rfl;let d:((s.heap.push W.emptyDict).push (W.instObj C s.heap.objs.size)).get? (s.heap.objs.size+1)=some (W.instObj C s.heap.objs.size):=by
  have :=bF (s.heap.push W.emptyDict) (o:=W.instObj C s.heap.objs.size) rfl;rwa[fV]at this
 let f:(s.heap.push W.emptyDict).Ns s.heap.objs.size (λ_=>none):=#[W.emptyDict,(List.toArray []),_,c,rfl,(λe he=>absurd he (by simp)),λ_=>rfl]
 let g:=I.laid (a:=s.heap.objs.size) (o:=.own<|s.heap.objs.size+1) (h':=s.heap.push W.emptyDict) (t':=s.toks) (λb u q=>aO _ q) (aG _) #[_,c];calc g.laid (a:=s.heap.objs.size+1) (o:=.ins C s.heap.objs.size []) (t':=s.toks) (λb u q=>aO _ q) (Nat.le_of_eq<|fV _ _) ?_;let ne:s.heap.objs.size≠s.heap.objs.size+1:=bK<|oH _;refine#[by rw[zG ne,zA],cS _,ne,d,λ_=>none,(Heap.Ns1.of_empty f).at λo q=>aO _ q,λ_=>True.intro,λy hy=>absurd rfl hy]
theorem i4{env:Env}{f:Str}{pos:Pos}(hb:attributeBase e f env (eval e env)=eval e env)
 (h:wpAny (model prog w) A (eval e env) (λo s₁=>wpAny (model prog w) A (getAttr o f true) Q E s₁) E s):wpAny (model prog w) A (eval (.Attribute e f pos) env) Q E s:=
 Attribute_any_ h (by rw[arm_eval_Attribute,hb])
end
def jF(K:W.Frag)(ta:TE)(f:Str):TE:=λσ H Q=>ta σ H λx H1=>oI x λa=>∃C dx fs,H1 a=some (.ins C dx fs)/\LG K C/\lY K C f/\∃v,fs.lookup f=some v/\Q v H1
def EO(K:W.Frag)(ta tv:TE)(f:Str):TS:=λD σ H=>tv σ H λy H1=>ta σ H1 λx H2=>oI x λa=>∃C dx fs,H2 a=some (.ins C dx fs)/\LG K C/\lY K C f/\fs.length<1000/\
 D.nx σ (upd H2 a<|.ins C dx<|yP f y fs)
section
variable {value:Expr} {f:Str} {pos tpos:Pos} {tv:TE}
theorem RW(he:PE X e ta)(hb:attributeBase e f X.env (eval e X.env)=eval e X.env):PE X (.Attribute e f pos) (jF X.K ta f):=by
 intro aM s σ H Q I h;calc i4 hb (eK (he aM s σ H _ I h) λu s1 ⟨x,H1,b,d,q⟩=>?_);replace q:=xK q;obtain⟨a,rfl,C,dx,fs,g,c,n,v,l,q⟩:=q;obtain rfl:u=Value.ref a:=d;exact GD b g c n l λk s2 i j=>#[v,H1,i,j,q]
theorem kN(ha:PE X o ta)(hv:PE X value tv)(hs:swapsWith value (some<|.Attribute o f pos') pos.line X.env=pure false):PS X (.Assign [.Attribute o f pos'] value pos) (EO X.K ta tv f):=by
 intro aM s σ H D I h;calc plainObj_wpAny_Assign_Attribute (eK (hv aM s σ H _ I h) λu s1 ⟨y,H1,d,e,q⟩=>eK (ha aM s1 σ H1 _ d q) λg s2 ⟨x,H2,i,j,b⟩=>?_) hs;replace b:=xK b;obtain⟨a,rfl,C,dx,fs,k,c,n,l,b⟩:=b;obtain rfl:g=Value.ref a:=j;exact EM i k c n l e λp m=>#[σ,_,m,b]
end
section
variable {c:Value} {b:Bool}
inductive rN (K:W.Frag) (H:Hp):V->Value->Prop where
 |non:rN K H .non (.type "NoneType")
 |bl (x:Bool):rN K H (.bl x) (.type "bool")
 |int (i:Int):rN K H (.int i) (.type "int")
 |str (x:Str):rN K H (.str x) (.type "str")
 |flt (x:UInt64):rN K H (.flt x) (.type "float")
 |lst {a:Addr} {xs:List V} (e:H a=some (.lst xs)):rN K H (.ref a) (.type "list")
 |frz {a:Addr} {o:Obj} {xs:List V} (e:H a=some (.frz o<|.lst xs)):rN K H (.ref a) (.type "list")
 |tup {a:Addr} {xs:List V} (e:H a=some (.tup xs)):rN K H (.ref a) (.type "tuple")
 |dK {a:Addr} {kvs:List (eV×V)} (e:H a=some (.dK kvs)):rN K H (.ref a) (.type "dict")
 |dT {a:Addr} {kvs:List (List eV×V)} (e:H a=some (.dT kvs)):rN K H (.ref a) (.type "dict")
 |ins {a C dx:Addr} {fs:List (Str×V)} (e:H a=some (.ins C dx fs)) (cl:LG K C) (ha:W.findIn K (.ref C) "__class__"=some (some<|.builtin "object.__class__"))
  (hn:W.specialIn K (.builtin "object.__class__") "__get__"=some (some<|.builtin "getset_descriptor.__get__")) (htk:W.takesIn K (.builtin "object.__class__")=some true)
  (hm:W.mroIn K C (.type "object")=some true):rN K H (.ref a) (.ref C)
theorem NE{x:V}{t:Value}(I:Inv X aM σ H s)(rx:RelV x u)(ty:rN X.K H x t)(e:W.kitOne X.K t c=some b)(h:∀tk,Q (.bool b) {s with toks:=tk}):
 wpAny (model X.prog X.w) A (call (.builtin "isinstance") [u,c]) Q E s:=by
 cases ty with
 |non=>cases (show u=Value.none from rx);exact eP W.kitx_none I.kIn True.intro e (λz=>nomatch z) h
 |bl y=>cases (show u=Value.bool y from rx);exact eP W.kitx_bool I.kIn True.intro e (λz=>nomatch z) h
 |int i=>obtain⟨t,q⟩:=(show∃t,u=Value.int i t from rx);cases q;exact eP W.kitx_int I.kIn True.intro e (λz=>nomatch z) h
 |str y=>obtain⟨t,q⟩:=(show∃t,u=Value.str y t from rx);cases q;exact eP W.kitx_str I.kIn True.intro e (λz=>nomatch z) h
 |flt y=>obtain⟨t,q⟩:=(show∃t,u=Value.float y t from rx);cases q;exact eP W.kitx_float I.kIn True.intro e (λz=>nomatch z) h
 |@lst a xs d=>
  cases (show u=Value.ref a from rx);obtain⟨_,_,n,_,h1⟩:=(show eZ X.prog X.w H s.heap a (.lst xs)from I.hok a _ d)
  exact eP W.kitx_list I.kIn #[_,h1,rfl] e (λz=>nomatch z) h
 |@frz a f xs d=>
  cases (show u=Value.ref a from rx);obtain⟨_,_,_,n,_,h1⟩:=(show eZ X.prog X.w H s.heap a (.frz f<|.lst xs)from I.hok a _ d)
  exact eP W.kitx_list I.kIn #[_,h1,rfl] e (λz=>nomatch z) h
 |@tup a xs d=>
  cases (show u=Value.ref a from rx);obtain⟨_,_,_,p⟩:=(show eZ X.prog X.w H s.heap a (.tup xs)from I.hok a _ d)
  obtain⟨o,h1,h2,_⟩:=p;exact eP W.kitx_tuple I.kIn #[o,h1,h2] e (λz=>nomatch z) h
 |@dK a kvs d=>
  cases (show u=Value.ref a from rx);obtain⟨_,_,vs,_,p⟩:=(show eZ X.prog X.w H s.heap a (.dK kvs)from I.hok a _ d)
  obtain⟨o,es,ep,h1,h2,_⟩:=p;exact eP W.kitx_dict I.kIn #[o,h1,h2.1] e (λz=>nomatch z) h
 |@dT a kvs d=>
  cases (show u=Value.ref a from rx);obtain⟨_,_,xs,_,o,es,ep,h1,h2,_⟩:=(show eZ X.prog X.w H s.heap a (.dT kvs)from I.hok a _ d)
  exact eP W.kitx_dict I.kIn #[o,h1,h2.1] e (λz=>nomatch z) h
 |@ins a C dx fs d cl ha hn htk hm=>
  cases (show u=Value.ref a from rx);obtain⟨mA,O,_⟩:=YE I.hok d;obtain⟨od,J,_⟩:=O.look;exact eP (W.kitx_own (cl.get _) cl.hd ha hn htk hm) I.kIn J e (λz=>nomatch z) h
end
structure gK(k:Nat)(A:Around):Prop where
 hd:A.handled=none
 dp:A.depth+3*k+5<recursionLimit
 un:A.units+16*k+200<cLine
theorem gK.mono{k:Nat}(r:gK k A)(h:j<=k):gK j A:=#[r.hd,by have :=r.dp;lia,by have :=r.un;lia]
theorem gK.deeper{k:Nat}(r:gK (k+1) A)(env:Env):gK k (A.deeper env):=
 #[r.hd,by have :=r.dp;show A.depth+1+3*k+5<_;lia,by have :=r.un;show A.units+3+16*k+200<_;lia]
theorem FV{C:Addr}:(A.under<|.builtin "type.__call__" #[.ref C::us,kw]).depth=A.depth+1:=by
 first |rfl |simp[Around.under,Code.weight,Code.isCreation,Code.isGuard,Code.isCaller,Code.frames,Code.isFrame,guardIds]
theorem FU{C:Addr}:(A.under<|.builtin "type.__call__" #[.ref C::us,kw]).units=A.units+1:=by
 first |rfl |simp[Around.under,Code.cUnits,Code.frames,Code.isFrame]
theorem gK.make{k:Nat}(r:gK (k+1) A)(C:Addr)(us:List Value)(kw:List (Str×Value)):gK k (A.under<|.builtin "type.__call__" #[.ref C::us,kw]):=
 #[r.hd,by have :=r.dp;rw[FV];lia,by have :=r.un;rw[FU];lia]
theorem gK.depth{k:Nat}(r:gK k A):A.depth<recursionLimit:=by have :=r.dp;lia
theorem gK.units{k:Nat}(r:gK k A):A.units+64<cLine:=by have :=r.un;lia
theorem gK.units0{k:Nat}(r:gK k A):A.units<cLine:=by have :=r.un;lia
def tNil:TA:=λ_ H Q=>Q [] H
def tCons(ta:TE)(tr:TA):TA:=λσ H Q=>ta σ H λx H1=>tr σ H1 λxs H2=>Q (x::xs) H2
section
variable {es:List Expr} {t:TA} {pos:Pos}
theorem zJ:PA X [] tNil:=λ_ _ _ _ H Q I h=>lO #[[],H,I,.nil,h]
theorem zE(ha:PE X e te)(hr:PA X es t)(hs:starEach (e::es) X.env=(false,eval e X.env)::starEach es X.env:=by rfl):PA X (e::es) (tCons te t):=by
 intro pos aM s σ H Q I h;rw[hs];show wpAny _ _ (spliced ((false,eval e X.env)::backTo pos (starEach es X.env))) _ _ s;calc fR (eK (ha aM s σ H _ I h) λu s1 ⟨x,H1,a,b,c⟩=>?_);exact eK (hr pos aM s1 σ H1 _ a c) λus s2 ⟨xs,H2,d,f,g⟩=>#[x::xs,H2,d,.cons b f,g]
def tTup(t:TA):TE:=λσ H Q=>t σ H λxs H1=>xs.length<=sizeLine/\∀p,H1 p=none->Q (.ref p) (upd H1 p<|.tup xs)
def tLst(t:TA):TE:=λσ H Q=>t σ H λxs H1=>xs.length<=sizeLine/\∀p,H1 p=none->Q (.ref p) (upd H1 p<|.lst xs)
theorem yW{x1}(h:PA X es t):PE X (.Tuple es x1 pos) (tTup t):=by
 intro aM s σ H Q I hq;calc wpAny_Tuple_spliced (eK (h pos aM s σ H _ I hq) λus s1 ⟨xs,H1,a,r,z,q⟩=>#[by rw[←r.length];exact z,?_]);let hf:H1 s1.heap.objs.size=none:=a.hok.fresh<|aG _;calc#[.ref s1.heap.objs.size,upd H1 s1.heap.objs.size<|.tup xs,a.laid (t':=s1.toks) (λb u e=>aO _ e) (aG _) ?_,rfl,q _ hf];exact#[z,us,r,#[_,bF _ rfl,rfl,_,rfl]]
theorem uX(h:PA X es t):PE X (.List es pos) (tLst t):=by
 intro aM s σ H Q I hq;calc wpAny_List_spliced (eK (h pos aM s σ H _ I hq) λus s1 ⟨xs,H1,a,r,z,q⟩=>#[by rw[←r.length];exact z,?_]);let hf:H1 s1.heap.objs.size=none:=a.hok.fresh<|aG _;calc#[.ref s1.heap.objs.size,upd H1 s1.heap.objs.size<|.lst xs,a.laid (t':=s1.toks) (λb u e=>aO _ e) (aG _) ?_,rfl,q _ hf];exact#[z,us,0,r,bF _ rfl]
end
abbrev Sp:=List V->Hp->VK->XK->Prop
abbrev mh:=List Env->Hp->Shared->XK->Value->Shared->Prop
structure GS(P:Program)(w:World)(K:W.Frag)(mg:Str->Option Value)(base:Heap)(A:Around)(outer:List Env)(s:Shared)(H:Hp):Prop where
 frames:A.frames=some outer
 mod:Mod K mg base
 bs:∀b o,base.get? b=some o->s.heap.get? b=some o/\H b=none
 bsz:base.objs.size<=s.heap.objs.size
 funs:s.heap.FunFrames base outer
 frf:∀b∈sZ outer,H b=none
 hok:mV P w H s.heap
 bare:AllBare s.gens
def CE(outer:List Env)(P:Program)(w:World)(H:Hp)(s:Shared)(Q:VK)(u:Value)(s':Shared):Prop:=
 ∃v H',s'.os=s.os/\AllBare s'.gens/\Un (sZ outer) [] H H' s.heap s'.heap/\mV P w H' s'.heap/\RelV v u/\Q v H'
def CR(CX:mh)(outer:List Env)(P:Program)(w:World)(H:Hp)(s:Shared)(Q:VK)(E:XK)(r:Result)(s':Shared):Prop:=
 match r with
 | .ok (.ret u)=>CE outer P w H s Q u s'
 | .ok _=>False
 | .error e=>CX outer H s E e s'
structure cZ(P:Program)(w:World)(K:W.Frag)(mg:Str->Option Value)(base:Heap)(CX:mh)(k:Nat)(f:Addr)(fd:FuncData)(ps:List Str)(sp:Sp):Prop where
 len:∀vs H Q E,sp vs H Q E->vs.length=ps.length
 run:∀(A:Around)(outer:List Env)(s:Shared)(H:Hp)(args:Args)(us:List Value)(vs:List V)(Q:VK)(E:XK),gK k A->GS P w K mg base A outer s H->BindsTo s fd args (ps.zip us)->cY vs us->sp vs H Q E->
  codeAny (model P w) A (.call (.ref f) args) (CR CX outer P w H s Q E) s
theorem cZ.mono{k:Nat}(F:cZ P w K mg base CX j f fd ps sp)(h:j<=k):
 cZ P w K mg base CX k f fd ps sp:=#[F.len,λA outer s H args us vs Q E hr=>F.run A outer s H args us vs Q E<|hr.mono h]
theorem GS.make(e:GS P w K mg base A outer s H)(C:Addr)(us:List Value)(kw:List (Str×Value)):
 GS P w K mg base (A.under<|.builtin "type.__call__" #[.ref C::us,kw]) outer s H:=#[by first |exact e.frames |(simpa[Around.under,Code.envs,Code.isFrame,pushEnvs]using e.frames),e.mod,e.bs,e.bsz,e.funs,e.frf,e.hok,e.bare]
section
variable {s':Shared}
theorem Inv.env0(I:Inv X aM σ H s):GS X.prog X.w X.K X.mg X.base X.A X.stack s H:=
 #[I.ok.frames,I.ok.mod,I.bs,bX I.ok.bsz I.sz,I.stack,I.stkFree,I.hok,I.bare]
theorem Inv.after{Q:VK}(I:Inv X aM σ H s)(h:CE X.stack X.prog X.w H s Q u s'):EP X aM σ Q u s':=by
 obtain⟨v,H',os,bare,un,hok,r,q⟩:=h;obtain⟨c,g,d,t,a⟩:=s';obtain rfl:a=s.os:=os;exact#[v,H',I.call (h':=c) (g':=g) (d':=d) (t':=t) (ch:=[]) un hok bare (λb z=>absurd z (by simp)),r,q]
end
def PF(sp:Sp)(dvs:List V)(E:XK)(t:TA):TE:=λσ H Q=>t σ H λvs H1=>sp (vs++dvs) H1 Q E
def yK(C:Addr)(m:Str)(sp:Sp)(dvs:List V)(E:XK)(ta:TE)(t:TA):TE:=λσ H Q=>ta σ H λx H1=>oI x λa=>∃dx fs,H1 a=some (.ins C dx fs)/\fs.lookup m=none/\
 t σ H1 λvs H2=>sp (x::(vs++dvs)) H2 Q E
def HI(C:Addr)(sp:Sp)(dvs:List V)(E:XK)(t:TA):TE:=λσ H Q=>t σ H λvs H1=>∀x dx,H1 x=none->H1 dx=none->dx≠x->
 sp (.ref x::(vs++dvs)) (upd (upd H1 dx<|.own x) x<|.ins C dx []) (λv H2=>v=.non/\Q (.ref x) H2) E
def Binds(K:W.Frag)(fd:FuncData)(ps:List Str)(ds:List Value):Prop:=
 ∀(s:Shared)(us:List Value),K.In s.heap->(us++ds).length=ps.length->BindsTo s fd #[us,[]] (ps.zip<|us++ds)
theorem Binds.all(h:∀us:List Value,us.length=ps.length->bindArgs fd #[us,[]]=pure (ps.zip us)):Binds K fd ps []:=λs us _ hl=>by
 rw[cL]at hl⊢;exact .of_eq<|h us hl
def ZB(CX:mh)(X:Cx)(E:XK):Prop:=∀(aM:List (Addr×Obj))(σ:St)(H:Hp)(s:Shared)(e:Value)(s':Shared),Inv X aM σ H s->CX X.stack H s E e s'->X.xe e s'
section
variable {k:Nat} {C:Addr} {dvs:List V} {ds:List Value} {E:XK} {x m:Str} {p pos:Pos} {es:List Expr} {t:TA}
theorem EQ{Q:VK}(F:cZ X.prog X.w X.K X.mg X.base CX k f fd ps sp)(hr:gK k X.A)(hb:Binds X.K fd ps ds)(hd:cY dvs ds)(hx:ZB CX X E)
 (I:Inv X aM σ H s) (r:cY vs us) (h:sp (vs++dvs) H Q E):wpAny (model X.prog X.w) X.A (call (.ref f) us) (EP X aM σ Q) X.xe s:=by
 let a:cY (vs++dvs) (us++ds):=r.append hd;let hl:(us++ds).length=ps.length:=by rw[←a.length];exact F.len _ _ _ _ h
 calc wpAny_call (oY (F.run X.A X.stack s H #[us,[]] (us++ds) (vs++dvs) Q E hr I.env0 (hb s us I.kIn hl) a h) λr s' hq=>?_);cases r with
 |error e=>exact hx aM σ H s e s' I hq
 |ok b=>
  cases b with
  |ret u=>exact I.after hq
  |next=>exact False.elim hq
  |brk=>exact False.elim hq
  |cont=>exact False.elim hq
theorem ef(F:cZ X.prog X.w X.K X.mg X.base CX k f fd ps sp)(hr:gK k X.A)(hg:Gl X x)(hm:X.mg x=some (.ref f))(hk:W.keepIn X.K (.ref f)=true)(hb:Binds X.K fd ps ds)(hd:cY dvs ds)(hx:ZB CX X E)
 (ha:PA X (e::es) t) (hdb:(x==("__debug__":Str))=false:=by decide) (he:starEach (e::es) X.env=(false,eval e X.env)::starEach es X.env:=by rfl) (iT:(backTo pos<|starEach es X.env).any (·.1)=false:=by rfl):
 PE X (.Call (.Name x p) (e::es) [] pos) (PF sp dvs E t):=by
 intro aM s σ H Q I h;calc fQ<|VL I hg hm ?_ hdb;calc pY (h₀:=X.base) I.ok.mod.kin hk (eK (ha pos aM s σ H _ I h) λus s1 ⟨vs,H1,a,r,q⟩=>#[a.kIn,?_]) he iT;exact EQ F hr hb hd hx a r q
theorem d7{pl:Sem Bool}(he:PE X o ta)(c:LG X.K C)(hm:NT X.K C m f)(F:cZ X.prog X.w X.K X.mg X.base CX k f fd ps sp)(hr:gK k X.A)(hb:Binds X.K fd ps ds)(hd:cY dvs ds)(hx:ZB CX X E)(ha:PA X (e::es) t)
 (hst:starEach (e::es) X.env=(false,eval e X.env)::starEach es X.env:=by rfl) (iT:(backTo pos<|starEach es X.env).any (·.1)=false:=by rfl)
 (ht:eval (.Call (.Attribute o m lM) (e::es) [] pos) X.env=(do
  let ov ←eval o X.env
  standAt lM.atName
  let (f,first) ←holding [ov] (getMethod ov m pl)
  callWith pos f first (backTo pos<|starEach (e::es) X.env) (backToKw pos<|keywordEach [] X.env)):=by rfl):
 PE X (.Call (.Attribute o m lM) (e::es) [] pos) (yK C m sp dvs E ta t):=by
 intro aM s σ H Q I h;calc W.methodCall_KW (pl:=pl) (eK (he aM s σ H _ I h) λu s1 ⟨x,H1,b,g,q⟩=>?_) ht;replace q:=xK q;obtain⟨a,rfl,dx,fs,i,l,q⟩:=q;obtain rfl:u=Value.ref a:=g;calc GC b i c hm l ?_;calc pY (first:=[.ref a]) (h₀:=X.base) I.ok.mod.kin hm.kp (eK (ha pos aM s1 σ H1 _ b q) λus s2 ⟨vs,H2,d,r,j⟩=>#[d.kIn,?_]) hst iT;exact EQ (us:=.ref a::us) (vs:=.ref a::vs) F hr hb hd hx d (.cons rfl r) j
structure Mk(K:W.Frag)(C f:Addr):Prop where
 makes:W.makesIn K C=true
 init:W.findIn K (.ref C) "__init__"=some (some<|.ref f)
 fn:W.isFn K (.ref f)=true
 kp:W.keepIn K (.ref C)=true
theorem RA{Q:VK}(M:Mk X.K C f)(F:cZ X.prog X.w X.K X.mg X.base CX k f fd ps sp)(hr:gK (k+1) X.A)(hb:Binds X.K fd ps ds)(hd:cY dvs ds)
 (hx:ZB CX X E) (I:Inv X aM σ H s) (r:cY vs us)
 (h:∀x dx,H x=none->H dx=none->dx≠x->sp (.ref x::(vs++dvs)) (upd (upd H dx<|.own x) x<|.ins C dx []) (λv H2=>v=.non/\Q (.ref x) H2) E):
 wpAny (model X.prog X.w) X.A (call (.ref C) us) (EP X aM σ Q) X.xe s:=by
 let hq:=h (s.heap.objs.size+1) s.heap.objs.size (I.hok.fresh<|lC _) (I.hok.fresh<|aG _)<|bK<|oH _;let b:=Inv.made (C:=C) I;let c:cY (V.ref (s.heap.objs.size+1)::(vs++dvs)) (Value.ref (s.heap.objs.size+1)::(us++ds)):=.cons rfl<|r.append hd;let hl:(Value.ref (s.heap.objs.size+1)::us++ds).length=ps.length:=by
  let e:=c.length;rw[F.len _ _ _ _ hq]at e;exact e.symm
 refine wpAny_call (TU (f:=f) I.kIn M.makes M.init (cP.mp M.fn) (oY (F.run _ X.stack _ _ #[Value.ref (s.heap.objs.size+1)::us,[]] (Value.ref (s.heap.objs.size+1)::(us++ds)) _ _ E (hr.make C us [])
  (b.env0.make C us []) (hb _ (Value.ref (s.heap.objs.size+1)::us) b.kIn hl) c hq) λr s' a=>?_))
 cases r with
 |error e=>exact hx aM σ _ _ e s' b a
 |ok d=>
  cases d with
  |ret u=>
   obtain⟨v,H',g,rv,ev,i⟩:=b.after a;subst ev;exact#[rv,#[V.ref<|s.heap.objs.size+1,H',g,rfl,i]]
  |next=>exact False.elim a
  |brk=>exact False.elim a
  |cont=>exact False.elim a
theorem d8(M:Mk X.K C f)(F:cZ X.prog X.w X.K X.mg X.base CX k f fd ps sp)(hr:gK (k+1) X.A)(hg:Gl X x)(hm:X.mg x=some (.ref C))(hb:Binds X.K fd ps ds)(hd:cY dvs ds)(hx:ZB CX X E)
 (ha:PA X (e::es) t) (hdb:(x==("__debug__":Str))=false:=by decide) (he:starEach (e::es) X.env=(false,eval e X.env)::starEach es X.env:=by rfl) (iT:(backTo pos<|starEach es X.env).any (·.1)=false:=by rfl):
 PE X (.Call (.Name x p) (e::es) [] pos) (HI C sp dvs E t):=by
 intro aM s σ H Q I h;calc fQ<|VL I hg hm ?_ hdb;calc pY (h₀:=X.base) I.ok.mod.kin M.kp (eK (ha pos aM s σ H _ I h) λus s1 ⟨vs,H1,a,r,q⟩=>#[a.kIn,?_]) he iT;exact RA M F hr hb hd hx a r q
end
section
variable {k:Nat} {C:Addr} {ks:List Str} {E:XK} {x m:Str} {p pos kpos:Pos} {es:List Expr} {kws:List Keyword} {t tk:TA} {nm:Option Str}
variable {g:List Value->List Value->List Value} {gV:List V->List V->List V}
end
structure bV(N P:List Str)(sc:Scope):Prop where
 kind:sc.kind=.function
 co:sc.isCoroutine=false
 gen:sc.isGenerator=false
 nd:N.Nodup
 pre:N.take P.length=P
 par:∀x∈P,sc.names.lookup x=some .local\/sc.names.lookup x=some .cell
 nofree:∀y∈sc.names,y.2≠.free
theorem QY{kindOf:Str->Option NameKind}{x:Str}:∀{binds:List (Str×Value)}{m:Str->Option Value},(∀v,(x,v)∉binds)->bindL kindOf binds m x=m x
 |[],_,_=>rfl
 |(n,v)::r,m,h=>by
  unfold bindL;rw[QY λw a=>h w<|aW _ a];split
  ·have :x≠n:=by rintro rfl;exact h v aV
   simp[this]
  ·rfl
theorem UA{kindOf:Str->Option NameKind}{x:Str}:∀{binds:List (Str×Value)}{m:Str->Option Value},(∀v,(x,v)∉binds)->bindC kindOf binds m x=m x
 |[],_,_=>rfl
 |(n,v)::r,m,h=>by
  unfold bindC;rw[UA λw a=>h w<|aW _ a];split
  ·rfl
  ·have :x≠n:=by rintro rfl;exact h v aV
   simp[this]
theorem QZ{kindOf:Str->Option NameKind}{x:Str}{v:Value}:∀{P:List Str}{vs:List Value}{i:Nat}{m:Str->Option Value},P.Nodup->P[i]?=some x->vs[i]?=some v->kindOf x=some .local->
 bindL kindOf (P.zip vs) m x=some v
 |[],_,_,_,_,h,_,_=>by simp at h
 |_::_,[],_,_,_,_,h,_=>by simp at h
 |p::P,w::vs,0,m,nd,h1,h2,hk=>by
  simp at h1 h2;subst h1;subst h2;show bindL kindOf ((p,w)::P.zip vs) m p=_;unfold bindL;rw[QY λv a=>(fS.mp nd).1 (bu a).1,aT hk];simp
 |p::P,w::vs,i+1,m,nd,h1,h2,hk=>by
  show bindL kindOf ((p,w)::P.zip vs) m x=_;unfold bindL;exact QZ (i:=i) (fS.mp nd).2 (by simpa using h1) (by simpa using h2) hk
theorem UB{kindOf:Str->Option NameKind}{x:Str}{v:Value}:∀{P:List Str}{vs:List Value}{i:Nat}{m:Str->Option Value},P.Nodup->P[i]?=some x->vs[i]?=some v->kindOf x≠some .local->
 bindC kindOf (P.zip vs) m x=some v
 |[],_,_,_,_,h,_,_=>by simp at h
 |_::_,[],_,_,_,_,h,_=>by simp at h
 |p::P,w::vs,0,m,nd,h1,h2,hk=>by
  simp at h1 h2;subst h1;subst h2;show bindC kindOf ((p,w)::P.zip vs) m p=_;unfold bindC;rw[UA λv a=>(fS.mp nd).1 (bu a).1,aH hk];simp
 |p::P,w::vs,i+1,m,nd,h1,h2,hk=>by
  show bindC kindOf ((p,w)::P.zip vs) m x=_;unfold bindC;exact UB (i:=i) (fS.mp nd).2 (by simpa using h1) (by simpa using h2) hk
noncomputable def uT(N:List Str)(vs:List V):St:=vs.map some++List.replicate (N.length-vs.length) none
noncomputable def JC(CX:mh)(P:Program)(w:World)(K:W.Frag)(mg:Str->Option Value)(base:Heap)(N:List Str)(qual:Str)(scope:Scope)(f:Addr)(cd:Value)(A:Around)(outer:List Env)(s:Shared)(H:Hp)(E:XK):Cx where
 prog:=P
 w:=w
 K:=K
 mg:=mg
 base:=base
 A:=A.deeper (envOfC qual scope s.heap.objs.size f cd)
 N:=N
 s₀:=s
 H₀:=H
 env:=envOfC qual scope s.heap.objs.size f cd
 outer:=outer
 stack:=envOfC qual scope s.heap.objs.size f cd::outer
 ex:=[]
 calm:=true
 fn:=λ_=>true
 pn:=[]
 xe:=λe s'=>wpAny (model P w) (A.deeper<|envOfC qual scope s.heap.objs.size f cd) (leaving (envOfC qual scope s.heap.objs.size f cd) e) (λ_ s''=>CX outer H s E e s'') (λe' s''=>CX outer H s E e' s'') s'
theorem CQ{sc:Scope}{x:Str}(h:sc.names.lookup x=some .cell):∃c,(cellsFrom n sc.names []).lookup x=some c:=by
 let q:=W.cellsFrom_some sc.names n []<|.inl h;exact Option.isSome_iff_exists.mp q
theorem NF{scope:Scope}{cd:Value}{s1:Shared}{E:XK}
 (S:bV N ps scope) (hd:A.handled=none) (e0:GS P w K mg base A outer s H) (hl:vs.length=ps.length) (r:cY vs us)
 (x:InCallC s s.heap.objs.size (bindL (envOfC qual scope s.heap.objs.size f cd).kindOf (ps.zip us) λ_=>none) (cellsFrom (s.heap.objs.size+1) scope.names []) (bindC (envOfC qual scope s.heap.objs.size f cd).kindOf (ps.zip us) λ_=>none) s1):
 Inv (JC CX P w K mg base N qual scope f cd A outer s H E) [] (uT N vs) H s1:=by
 let iT:ps.length<=N.length:=by have :=cM List.length S.pre;rw[bD]at this;lia
 obtain⟨h1,tk,rfl,hk⟩:=x.done;let noA:∀b:Addr,b∉(JC CX P w K mg base N qual scope f cd A outer s H E).ex:=λb z=>absurd (show b∈([]:List Addr)from z) (by simp)
 refine#[#[e0.mod,S.kind,rfl,rfl,aG _,λy z c h1 h2=>?_,λy hy=>?_,λy c _ h=>?_,λ_=>hd,Around.frames_deeper e0.frames,.inr #[rfl,rfl],λb z=>absurd z<|noA b,e0.bs,e0.bsz,λb _ _=>noA b,λb z=>absurd z<|noA b,e0.funs,e0.frf],
  rfl,e0.bare,Un.kept hk,#[_,x.toInCall.ns,λi y v h1 h2 d=>?_],λy c h=>#[_,x.cell y c h],e0.hok.fresh<|aG _,λy c h=>?_,λp hp=>absurd (show p∈([]:List (Addr×Obj))from hp) (by simp),e0.hok.kept hk,?_]
 ·exact name_of_addr x.apart (dE h1)<|dE h2
 ·let hy:scope.names.lookup y=some .cell\/scope.names.lookup y=some .free:=hy;rcases hy with hy |hy
  ·exact CQ hy
  ·exact absurd rfl<|S.nofree _<|dE hy
 ·exact rT<|x.above y c<|dE h
 ·let hi:i<vs.length:=by
   unfold uT at h2;by_cases hi:i<vs.length
   ·exact hi
   ·rw[bS (by simpa using hi)]at h2;rw[List.getElem?_replicate]at h2;split at h2<;>cases h2
  let ha:vs[i]?=some v:=by
   unfold uT at h2;rw[bM (by simpa using hi),aF]at h2;cases e:vs[i]? with
   |none=>rw[e]at h2;cases h2
   |some a=>rw[e]at h2;cases h2;rfl
  obtain⟨u,hu,rv⟩:=r.get ha;let hp:ps[i]?=some y:=by
   rw[←S.pre,mD ()];exact h1
  let ndP:ps.Nodup:=by rw[←S.pre];exact S.nd.sublist<|List.take_sublist _ _
  calc#[u,rv,?_];rcases S.par y (aS hp)with k |k
  ·exact .inl #[k,QZ ndP hp hu k]
  ·obtain⟨c,e⟩:=CQ (n:=s.heap.objs.size+1) k;calc .inr #[.inl k,c,e,?_];let q:=x.cell y c e;rw[UB ndP hp hu (by show scope.names.lookup y≠_;rw[k];decide)]at q;exact q
 ·exact e0.hok.fresh<|rT<|x.above y c<|dE h
 ·unfold uT;show _=N.length;rw[aK,aC,gG];lia
theorem fn_of{k:Nat}{name:Str}{params:Arguments}{body:List Stmt}{scope:Scope}{dV kV doc pm eO ct oc:Value}{an od:Option Addr}
 {osl:Array (Option Value)} (lk:K.lookup f=some #[oc,od,.func<|W.fnOf name qual params body scope dV kV doc pm an eO ct,osl]) (hcd:W.codeIn K eO qual=true) (S:bV N ps scope)
 (len:∀vs H Q E,sp vs H Q E->vs.length=ps.length)
 (hbody:∀(A:Around)(outer:List Env)(s:Shared)(H:Hp)(vs:List V)(Q:VK)(E:XK),gK k (A.deeper<|envOfC qual scope s.heap.objs.size f eO)->sp vs H Q E->
  ∃t,DS (JC CX P w K mg base N qual scope f eO A outer s H E) body t/\t {nx:=λ_ H'=>Q .non H',rt:=Q} (uT N vs) H):
 cZ P w K mg base CX (k+1) f (W.fnOf name qual params body scope dV kV doc pm an eO ct) ps sp:=by
 calc#[len,λA outer s H args us vs Q E hr c hb r d=>?_];let hl:=len _ _ _ _ d;let KX:K.In s.heap:=c.mod.kin.keeps λb o e=>(c.bs b o e).1
 let lim:s.heap.NoLimit:=c.mod.nolimit.keeps λb o e=>(c.bs b o e).1
 let a:∀y∈ps.zip us,scope.names.lookup y.1=some .local\/(scope.names.lookup y.1=some .cell/\((cellsFrom (s.heap.objs.size+1) scope.names []).lookup y.1).isSome=true):=λ⟨n,v⟩ hy=>by
  rcases S.par n (bu hy).1 with q |q
  ·exact .inl q
  ·exact .inr #[q,W.cellsFrom_some _ _ _<|.inl q]
 calc codeAny_call_function hr.depth (KX _ _ lk) rfl S.co S.gen rfl (W.codeRec_of KX hcd)<|hb _ _ _ _ ?_;refine wpAny_newFunctionEnv_cells S.kind a λenv he s1 x=>?_
 subst he;calc#[lim.keeps x.toInCall.keep,codeAny_func ?_];obtain⟨t,ht,hq⟩:=hbody A outer s H vs Q E (hr.deeper _) d;let I:Inv (JC CX P w K mg base N qual scope f eO A outer s H E) [] (uT N vs) H s1:=NF S hr.hd c hl r x;refine iU (ht [] s1 (uT N vs) H _ I hq) (λg s' hs=>?_) λe s' hs=>hs
 let fin:∀{σ':St}{H':Hp}{v:V}{u:Value},Inv (JC CX P w K mg base N qual scope f eO A outer s H E) [] σ' H' s'->RelV v u->Q v H'->CE outer P w H s Q u s':=
  λ{σ' H' v u} J rv q=>#[v,H',J.os,J.bare,J.base,J.hok,rv,q]
 cases g with
 |ret u=>
  obtain⟨v,σ',H',J,rv,q⟩:=hs;exact fin J rv q
 |next=>
  obtain⟨σ',H',J,q⟩:=hs;exact fin (v:=V.non) (u:=Value.none) J rfl q
 |brk=>
  obtain⟨_,_,_,q⟩:=hs;exact False.elim q
 |cont=>
  obtain⟨_,_,_,q⟩:=hs;exact False.elim q
section
variable {x:Str} {p pos:Pos} {es:List Expr} {t:TA} {id:String} {r:List V->Hp->VK->Prop}
def tCB(r:List V->Hp->VK->Prop)(t:TA):TE:=λσ H Q=>t σ H λvs H1=>r vs H1 Q
theorem zO(hc:xX X (.builtin id) r)(hg:Gl X x)(hm:X.mg x=none)(hv:bootBuiltins x=some (.builtin id))(ha:PA X (e::es) t)(hn:x≠"__name__":=by decide)(hdb:(x==("__debug__":Str))=false:=by decide)
 (he:starEach (e::es) X.env=(false,eval e X.env)::starEach es X.env:=by rfl) (iT:(backTo pos<|starEach es X.env).any (·.1)=false:=by rfl):PE X (.Call (.Name x p) (e::es) [] pos) (tCB r t):=by
 intro aM s σ H Q I h;calc fQ<|uJ I hg hm hv ?_ hn hdb;exact PyProof.Rows.callWith_builtin1 (eK (ha pos aM s σ H _ I h) λus s1 ⟨vs,H1,a,b,c⟩=>hc aM s1 σ H1 vs us Q a b c) he iT
theorem xF(hc:xX X (.type T) r)(hg:Gl X x)(hm:X.mg x=none)(hv:bootBuiltins x=some (.type T))(ha:PA X (e::es) t)(hn:x≠"__name__":=by decide)(hdb:(x==("__debug__":Str))=false:=by decide)
 (he:starEach (e::es) X.env=(false,eval e X.env)::starEach es X.env:=by rfl) (iT:(backTo pos<|starEach es X.env).any (·.1)=false:=by rfl):PE X (.Call (.Name x p) (e::es) [] pos) (tCB r t):=by
 intro aM s σ H Q I h;calc fQ<|uJ I hg hm hv ?_ hn hdb;exact dZ (eK (ha pos aM s σ H _ I h) λus s1 ⟨vs,H1,a,b,c⟩=>hc aM s1 σ H1 vs us Q a b c) he iT
end
end L2
namespace HT
open PySem PyProof.Rows
noncomputable def lexLt:List Int->List Int->Bool
 |[],[]=>false
 |[],_::_=>true
 |_::_,[]=>false
 |x::xs,y::ys=>if x=y then lexLt xs ys else decide (x<y)
theorem lexLt_cons(x y:Int)(xs ys:List Int):lexLt (x::xs) (y::ys)=if x=y then lexLt xs ys else decide (x<y):=rfl
theorem ah(A:Around)(s:Shared)(a:Int)(t:Tok)(c:Int)(u:Tok):∃e,SeqAt.EqAt A s (.int a t) (.int c u) e/\(e=true↔a=c):=
 #[(a==c),SeqAt.EqAt.int_int a t c u,by simp]
section
open PySem.SeqAt
open PySem.AutoSeq1 (wpAny_loadPart')
open PySem.MeetsSeq PySem.MeetsSeq2 PySem.MeetsSeq3
end
section
variable {prog:Program} {w:World} {A:Around} {E:Value->Shared->Prop} {s:Shared}
noncomputable def sIx(n d:Nat):Option Int->Nat
 |none=>d
 |some v=>if v<0 then(v+(n:Int)).toNat else min v.toNat n
theorem sIx_none(n d:Nat):sIx n d none=d:=rfl
theorem sIx_nat(n d k:Nat):sIx n d (some (k:Int))=min k n:=by
 show(if(k:Int)<0 then((k:Int)+(n:Int)).toNat else min (k:Int).toNat n)=min k n;rw[aH (by lia),bE]
theorem qh(n d:Nat)(hd:d<=n)(o:Option Int):sIx n d o<=n:=by
 cases o with
 |none=>exact hd
 |some v=>
  show(if v<0 then(v+(n:Int)).toNat else min v.toNat n)<=n;by_cases a:v<0
  ·rw[aT a];lia
  ·rw[aH a];exact Nat.min_le_right _ _
theorem KU(v:Int)(n d:Nat):(if v<0 then max (v+(n:Int)) 0 else min v (n:Int))=((sIx n d (some v):Nat):Int):=by
 show(if v<0 then max (v+(n:Int)) 0 else min v (n:Int))=(((if v<0 then(v+(n:Int)).toNat else min v.toNat n):Nat):Int)
 by_cases a:v<0
 ·simp only[aT a];lia
 ·simp only[aH a];lia
theorem GN(lo hi:Option Int)(n:Nat):Builtin.Slice.sliceAdjust lo hi 1 (n:Int)=(((sIx n 0 lo:Nat):Int),((sIx n n hi:Nat):Int)):=by
 let h1:¬((1:Int)<0):=by lia
 unfold Builtin.Slice.sliceAdjust;simp only[h1,if_false];refine Prod.ext ?_ ?_
 ·cases lo with
  |none=>rfl
  |some v=>exact KU v n 0
 ·cases hi with
  |none=>rfl
  |some v=>exact KU v n n
theorem EU(i j:Nat):Builtin.Slice.slicePlaces (i:Int) (j:Int) 1=j-i:=by
 unfold Builtin.Slice.slicePlaces;let h1:(1:Int)>0:=by lia
 simp only[h1,if_true,Int.ediv_one];split<;>lia
theorem YS{v:Value}{o:Option Int}{Q:Option Int->Shared->Prop}(p:IsPart v o)(h:Q o s):wpAny (model prog w) A (Builtin.Slice.slicePartIndex v) Q E s:=by
 cases p with
 |none=>exact slicePart_none h
 |int i t=>exact slicePart_int h
theorem sliceApplied_gen{sl:Addr}{vl vu:Value}{lo hi:Option Int}{n:Nat}{Q:Int×Int×Nat->Shared->Prop}(hs:s.heap.IsSliceOf sl vl vu .none)(pl:IsPart vl lo)(pu:IsPart vu hi)
 (h:Q (((sIx n 0 lo:Nat):Int),1,sIx n n hi-sIx n 0 lo) s):wpAny (model prog w) A (Builtin.Slice.sliceApplied (.ref sl)<|pure (n:Int)) Q E s:=by
 obtain⟨os,a,nY,b⟩:=id hs;unfold Builtin.Slice.sliceApplied Builtin.Slice.sliceFields;calc aE<|aE<|wpAny_field a b (x:=vl) rfl<|aE<|wpAny_field a b (x:=vu) rfl<|aE<|wpAny_field a b (x:=.none) rfl<|aJ ?_;calc aE<|slicePart_none ?_;show wpAny _ _ (if((1:Int)==0)=true then _ else _) _ _ s;rw[aH (by decide)];calc aE<|YS pl<|aE<|YS pu<|aE<|aJ ?_;show wpAny _ _ (match Builtin.Slice.sliceAdjust lo hi 1 (n:Int)with |(lo,hi)=>pure (lo,(1:Int),Builtin.Slice.slicePlaces lo hi 1)) _ _ s;rw[GN lo hi n];show wpAny _ _ (pure (((sIx n 0 lo:Nat):Int),(1:Int),Builtin.Slice.slicePlaces ((sIx n 0 lo:Nat):Int) ((sIx n n hi:Nat):Int) 1)) _ _ s;rw[EU];exact aJ h
theorem RQ(xs:Array Value)(i k:Nat):((List.range k).filterMap λ(m:Nat)=>xs[((i:Int)+(m:Int)*1).toNat]?).toArray=((xs.toList.drop i).take k).toArray:=by
 let e:(λ(m:Nat)=>xs[((i:Int)+(m:Int)*1).toNat]?)=λm=>xs[i+m]?:=by
  funext m
  have :((i:Int)+(m:Int)*1).toNat=i+m:=by lia
  rw[this]
 rw[e];have :=pick_run xs i k;rw[DQ]at this;let a:((λx=>xs[x]?) ∘ λx=>i+x)=λm=>xs[i+m]?:=rfl
 rw[a]at this;rw[this]
theorem getItem_tuple_cut{t sl:Addr}{items:Array Value}{vl vu:Value}{lo hi:Option Int}{Q:Value->Shared->Prop}(ht:IsTup s.heap t items)(hs:s.heap.IsSliceOf sl vl vu .none)(pl:IsPart vl lo)(pu:IsPart vu hi)
 (hw:¬(sIx items.size 0 lo=0/\sIx items.size items.size hi=items.size))
 (h:Q (.ref s.heap.objs.size) {s with heap:=s.heap.push {cls:=.type "tuple",data:=.seq ((items.toList.drop<|sIx items.size 0 lo).take (sIx items.size items.size hi-sIx items.size 0 lo)).toArray}})
 (hsz:items.size<=sizeLine):wpAny (model prog w) A (getItem (.ref t)<|.ref sl) Q E s:=by
 let a:sizeOk (.seq ((items.toList.drop<|sIx items.size 0 lo).take (sIx items.size items.size hi-sIx items.size 0 lo)).toArray):=by
  show((items.toList.drop<|sIx items.size 0 lo).take (sIx items.size items.size hi-sIx items.size 0 lo)).toArray.size<=sizeLine;rw[aR,bD,fF,cI];lia
 let f:sIx items.size items.size hi<=items.size:=qh _ _ (aG _) hi;obtain⟨os,b,nY,e⟩:=id hs;let c:s.TypeIs (.ref sl) "slice":=#[os,b,nY]
 unfold getItem
 try with_reducible refine dG ?_
 first |refine aE (aJ ?_) |skip
 calc aE (wpAny_sequenceKey ht.typeIs (by decide) ?_);refine aE (fZ (name:=Str.ofString "__getitem__") ht.typeIs eD
  (eA eD ht.typeIs entry_tuple_getitem ?_<|args_tuple_getitem _ _))
 show wpAny _ _ (Builtin.Tuple.tupleItemsOf (.ref t) >>= _) _ _ s;calc aE<|tupleItemsOf_ ht ?_;calc aE<|hW c ?_;rw[aT (by decide)];calc aE<|sliceApplied_gen hs pl pu ?_;let d:¬((((sIx items.size 0 lo:Nat):Int)==0&&(1:Int)==1&&(sIx items.size items.size hi-sIx items.size 0 lo)==items.size)=true):=by
  intro q;rw[cC,cC]at q;let g:((sIx items.size 0 lo:Nat):Int)=0:=eq_of_beq q.1.1;let i:sIx items.size items.size hi-sIx items.size 0 lo=items.size:=eq_of_beq q.2;exact hw #[by lia,by lia]
 show wpAny _ _ (if(((sIx items.size 0 lo:Nat):Int)==0&&(1:Int)==1&&(sIx items.size items.size hi-sIx items.size 0 lo)==items.size)=true then _ else _) _ _ s;rw[aH d,RQ]
 first
  |exact aE (m:=Builtin.Tuple.tupleExact _)<|cT (aJ #[_,rfl,aJ h]) a
  |exact aE (m:=Builtin.Tuple.tupleExact _)<|cT (aE<|aJ<|aJ #[_,rfl,aJ h]) a
  |exact aE<|aE (m:=Builtin.Tuple.tupleExact _)<|cT (aJ<|aJ #[_,rfl,aJ h]) a
  |exact aE<|aE (m:=Builtin.Tuple.tupleExact _)<|cT (aJ #[_,rfl,aJ h]) a
end
end HT
namespace L2
open PySem PySem.Spec PyProof.Rows
variable {a b l:Addr} {A:Around} {X:Cx} {e o:Expr} {h h':Heap} {H H':Hp} {aM:List (Addr×Obj)} {kvs:List (List eV×V)} {xs:List V} {its its' us:List Value} {j n t':Nat} {lM pos':Pos} {P prog:Program} {s:Shared} {σ:St} {T:String} {ta te:TE} {α:Type} {v y:V} {u:Value} {E Q:Value->Shared->Prop} {w:World}
local macro_rules | `(()) => `(by lia)
abbrev TO:=St->Hp->(Option Int->Hp->Prop)->Prop
def PO(X:Cx)(e:Option Expr)(t:TO):Prop:=
 ∀(aM:List (Addr×Obj)) (s:Shared) (σ:St) (H:Hp) (Q:Option Int->Hp->Prop),Inv X aM σ H s->t σ H Q->
  wpAny (model X.prog X.w) X.A (evalPart e X.env) (λu s'=>∃o H',Inv X aM σ H' s'/\IsPart u o/\Q o H') X.xe s
def UH:TO:=λ_ H Q=>Q none H
def tPart(t:TE):TO:=λσ H Q=>t σ H λx H1=>sV x λi=>Q (some i) H1
theorem XU{ns:List Int}:∀{us:List Value},cY (ns.map V.int) us->IntsAre us ns:=by
 induction ns with
 |nil=>intro us r;rw[pU]at r;cases r;exact .nil
 |cons n ns a=>
  intro us r;rw[bY]at r;cases r with
  |cons b c=>
   obtain⟨t,e⟩:=b;subst e;exact .cons n t<|a c
section
variable {lo hi:Option Expr} {tl th:TO} {pos p2:Pos}
theorem jL:PO X none UH:=by
 intro aM s σ H Q I h;rw[evalPart_none];exact aJ #[none,H,I,.none,h]
theorem jK(h:PE X e te):PO X (some e) (tPart te):=by
 intro aM s σ H Q I b;rw[evalPart_some];refine eK (h aM s σ H _ I b) λu s1 ⟨x,H1,c,d,a⟩=>?_
 replace a:=jX a;obtain⟨i,rfl,q⟩:=a;obtain⟨t,rfl⟩:=d;exact#[some i,H1,c,.int i t,q]
def SlR(X:Cx)(r:V->Option Int->Option Int->Hp->VK->Prop):Prop:=
 ∀(aM:List (Addr×Obj)) (s:Shared) (σ:St) (H:Hp) (x:V) (v vl vu:Value) (lo hi:Option Int) (sl:Addr) (Q:VK),Inv X aM σ H s->RelV x v->s.heap.IsSliceOf sl vl vu .none->IsPart vl lo->IsPart vu hi->r x lo hi H Q->
  ∃T id,typeLookup (.type T) "__getitem__"=pure (some<|.builtin id)/\s.TypeIs v T/\wpAny (model X.prog X.w) X.A (getItem v<|.ref sl) (EP X aM σ Q) X.xe s
def tSl(r:V->Option Int->Option Int->Hp->VK->Prop)(te:TE)(tl th:TO):TE:=λσ H Q=>te σ H λx H1=>tl σ H1 λl H2=>th σ H2 λu H3=>r x l u H3 Q
theorem xM{r:V->Option Int->Option Int->Hp->VK->Prop}(hr:SlR X r)(he:PE X e te)(hl:PO X lo tl)(hu:PO X hi th):PE X (.Subscript e (.Slice lo hi none p2) pos) (tSl r te tl th):=by
 intro aM s σ H Q I h;calc Subscript_ (eK (he aM s σ H _ I h) λv s1 ⟨x,H1,g,i,j⟩=>?_);calc wpAny_Slice (eK (hl aM s1 σ H1 _ g j) λc s2 ⟨l,H2,k,pl,m⟩=>eK (hu aM s2 σ H2 _ k m) λd a ⟨u,f,n,o,p⟩=>?_);rw[evalPart_none];calc aJ ?_;let t:Inv X aM σ f {a with heap:=a.heap.push {cls:=.type "slice",data:=.fields (List.toArray [c,d,.none])}}:=n.kept (t':=a.toks) λb B q=>aO _ q
 obtain⟨T,id,y,ht,z⟩:=hr aM {a with heap:=a.heap.push {cls:=.type "slice",data:=.fields (List.toArray [c,d,.none])}} σ f x v c d l u a.heap.objs.size Q t i (Heap.IsSliceOf.new ..) pl o p;show wpAny (model X.prog X.w) X.A (subscriptTail e (.Slice lo hi none p2) v<|.ref a.heap.objs.size) (EP X aM σ Q) X.xe {a with heap:=a.heap.push {cls:=.type "slice",data:=.fields (List.toArray [c,d,.none])}};exact tail_any (ops:=[.ref a.heap.objs.size,v]) ht y z (by with_unfolding_all rfl)
noncomputable def qN(xs:List V)(lo hi:Option Int):List V:=(xs.drop<|HT.sIx xs.length 0 lo).take (HT.sIx xs.length xs.length hi-HT.sIx xs.length 0 lo)
theorem vG(xs:List V)(lo hi:Option Int):(qN xs lo hi).length<=xs.length:=by
 unfold qN;rw[bD,fF];lia
def rSlT(K:W.Frag):V->Option Int->Option Int->Hp->VK->Prop:=λx lo hi H Q=>oI x λa=>∃xs,cW K H a xs/\
 ¬(HT.sIx xs.length 0 lo=0/\HT.sIx xs.length xs.length hi=xs.length)/\∀p,H p=none->Q (.ref p) (upd H p<|.tup<|qN xs lo hi)
theorem YT:SlR X (rSlT X.K):=by
 intro aM s σ H x v f g lo hi sl Q I c hs pl d h;replace h:=xK h;obtain⟨a,rfl,xs,hx,e,q⟩:=h;cases c;obtain⟨its,r,ht,hz⟩:=I.tuple hx;let eQ:its.toArray.size=xs.length:=by rw[aR];exact r.length.symm
 calc#["tuple",_,eD.lookup,ht.typeIs,?_];calc HT.getItem_tuple_cut ht hs pl d (by rw[eQ];calc e) ?_ (by rw[eQ];calc hz);rw[eQ];calc#[.ref s.heap.objs.size,_,I.laid (t':=s.toks) (o:=.tup<|qN xs lo hi) (λb i q=>aO _ q) (aG _) ?_,rfl,q _<|I.hok.fresh<|aG _];exact#[bX (vG xs lo hi) hz,_,(r.drop<|HT.sIx xs.length 0 lo).take (HT.sIx xs.length xs.length hi-HT.sIx xs.length 0 lo),IsTup.new _ _]
end
noncomputable def OF(n:Nat)(i:Int):Option Nat:=if 0<=i then(if i<n then some i.toNat else none)else if -(n:Int)<=i then some (i+n).toNat else none
noncomputable def pI{α:Type}(xs:List α)(i:Int):Option α:=(OF xs.length i).bind λj=>xs[j]?
theorem KF{i:Int}(h:OF n i=some j):seqIndex? i n=some j/\j<n/\ -(n:Int)<=i/\i<n:=by
 unfold OF at h;by_cases a:0<=i
 ·rw[aT a]at h;by_cases h1:i<n
  ·rw[aT h1]at h;let e:i.toNat=j:=cD h;exact#[by rw[seqIndex_of a h1,e],(),(),h1]
  ·rw[aH h1]at h;cases h
 ·rw[aH a]at h;by_cases h1: -(n:Int)<=i
  ·rw[aT h1]at h;let e:(i+n).toNat=j:=cD h;exact#[by rw[seqIndex_neg () h1,e],(),h1,()]
  ·rw[aH h1]at h;cases h
theorem WG{xs:List α}{i:Int}{v:α}(h:pI xs i=some v):∃j,seqIndex? i xs.length=some j/\xs[j]?=some v/\j<xs.length/\ -(xs.length:Int)<=i/\i<xs.length:=by
 unfold pI at h;cases e:OF xs.length i with
 |none=>rw[e]at h;cases h
 |some j=>
  rw[e]at h;obtain⟨h1,h2,a,b⟩:=KF e;exact#[j,h1,h,h2,a,b]
theorem zU{xs:List α}{v:α}(h:xs[j]?=some v):pI xs (j:Int)=some v:=by
 let a:j<xs.length:=(aD.mp h).1;let e:OF xs.length (j:Int)=some j:=by
  unfold OF;rw[aT (),aT ()];simp
 unfold pI;rw[e];exact h
def LD(b:Expr):Prop:=∀o i,subscripted b false o i=operate [o,i] (getItem o i)
def ur(X:Cx)(r:R2):Prop:=
 ∀(value slice:Expr) (aM:List (Addr×Obj)) (s:Shared) (σ:St) (H:Hp) (x y:V) (v u:Value) (Q:VK),Inv X aM σ H s->RelV x v->RelV y u->r x y H Q->
  subscripted slice false v u=operate [v,u] (getItem v u)->wpAny (model X.prog X.w) X.A (subscriptTail value slice v u) (EP X aM σ Q) X.xe s
def MtR(X:Cx)(id:String)(r:V->List V->Hp->VK->Prop):Prop:=
 ∀(aM:List (Addr×Obj)) (s:Shared) (σ:St) (H:Hp) (x:V) (xs:List V) (v:Value) (us:List Value) (Q:VK),Inv X aM σ H s->RelV x v->cY xs us->r x xs H Q->
  wpAny (model X.prog X.w) X.A (call (.builtin id) (v::us)) (EP X aM σ Q) X.xe s
section
variable {a b:Expr} {tb:TE} {pos:Pos}
theorem pe_ix{r:R2}(hr:ur X r)(ha:PE X a ta)(hb:PE X b tb)(hs:LD b):PE X (.Subscript a b pos) (tOp r ta tb):=by
 intro aM s σ H Q I h;exact Subscript_ (uj ha hb I h λv u s2 x y H2 c d e q=>hr a b aM s2 σ H2 x y v u Q c d e q<|hs _ _)
def rIxL(K:W.Frag):R2:=λx y H Q=>oI x λp=>sV y λi=>∃xs,cO K H p xs/\∃v,pI xs i=some v/\Q v H
def rIxT(K:W.Frag):R2:=λx y H Q=>oI x λp=>sV y λi=>∃xs,cW K H p xs/\∃v,pI xs i=some v/\Q v H
def rIxS:R2:=λx y H Q=>asS x λz=>sV y λi=>z.length<=sizeLine/\∃c,pI z.cps.toList i=some c/\Q (.str #[(List.toArray [c])]) H
theorem zQ:ur X (rIxL X.K):=by
 intro value slice aM s σ H x y v u Q I e f h hs;replace h:=xK h;obtain⟨p,rfl,h⟩:=h;replace h:=jX h;obtain⟨i,rfl,xs,hq,z,he,q⟩:=h;cases e;obtain⟨t,rfl⟩:=f;obtain⟨its,r,pl,hz⟩:=I.list hq;obtain⟨j,h1,h2,l,g,k⟩:=WG he;obtain⟨w,c,a⟩:=r.get h2;let hl:=r.length;let hn:=kR;let fin:EP X aM σ Q w s:=#[z,H,I,a,q]
 by_cases d:0<=i
 ·let b:i.toNat=j:=by
   rw[seqIndex_of d k]at h1;exact cD h1
  exact item_listR pl.isList d () (by rw[b];simpa using c) fin hs
 ·let b:(i+(its.toArray.size:Int)).toNat=j:=by
   rw[seqIndex_neg () g]at h1;rw[aR,←hl];exact cD h1
  exact subscriptTail_builtinR (x:=w) pl.isList.typeIs slot_list_getitem.lookup
   (wpAny_getItem_list_neg (Q:=λr s'=>r=w/\EP X aM σ Q r s') pl.isList () (by rw[aR]<;>lia) () (by rw[b];simpa using c) #[rfl,fin]) hs
theorem wF:ur X (rIxT X.K):=by
 intro value slice aM s σ H x y v u Q I b c h hs;replace h:=xK h;obtain⟨p,rfl,h⟩:=h;replace h:=jX h;obtain⟨i,rfl,xs,hq,z,he,q⟩:=h;cases b;obtain⟨t,rfl⟩:=c;obtain⟨its,r,pl,hz⟩:=I.tuple hq;obtain⟨j,h1,h2,e,f,g⟩:=WG he;obtain⟨w,d,a⟩:=r.get h2;let hl:=r.length;let hn:=kR;let fin:EP X aM σ Q w s:=#[z,H,I,a,q]
 exact subscriptTail_builtinR (x:=w) pl.typeIs slot_tuple_getitem.lookup
  (getItem_tuple (j:=j) (Q:=λr s'=>r=w/\EP X aM σ Q r s') pl () () (by rw[aR,←hl];calc h1) (by simpa using d) #[rfl,fin]) hs
theorem WP:ur X rIxS:=by
 intro value slice aM s σ H x y v u Q I a b h hs;replace h:=asS_ h;obtain⟨z,rfl,h⟩:=h;replace h:=jX h;obtain⟨i,rfl,hz,c,he,q⟩:=h;obtain⟨t,rfl⟩:=a;obtain⟨t',rfl⟩:=b;obtain⟨j,h1,h2,k,d,e⟩:=WG he;let hl:z.cps.toList.length=z.length:=by simp[Str.length]
 rw[hl]at h1 d e;let hn:=kR;exact tail_any (typeIs_str s z t) slot_str_getitem.lookup (getItem_str (c:=c) (by
  let f:decide (i< -(2^63:Int))=false:=cJ ();let g:decide (i≥2^63)=false:=cJ ();rw[f,g,rM]) (by rw[h1];simpa using h2) #[.str #[(List.toArray [c])],H,I.tok _,#[_,rfl],q]) hs
theorem FT(its:List Value)(n j:Nat)(u:Value):Obj.mapSeq (·.setIfInBounds j u) {cls:=.type "list",data:=.seq its.toArray n}={cls:=.type "list",data:=.seq (its.set j u).toArray n}:=by
 simp[Obj.mapSeq]
theorem Inv.lst{aM:List (Addr×Obj)}{σ:St}{H:Hp}{s:Shared}{p:Addr}{xs:List V}(I:Inv X aM σ H s)(h:H p=some (.lst xs)):
 ∃(its:List Value)(n:Nat),cY xs its/\s.heap.get? p=some {cls:=.type "list",data:=.seq its.toArray n}/\xs.length<=sizeLine:=by
 obtain⟨z,its,n,r,e⟩:=I.hok p _ h;exact#[its,n,r,e,z]
theorem Inv.lstUpd{p:Addr}{ys:List V}{n':Nat}{f:Obj->Obj}(I:Inv X aM σ H s)(h:H p=some (.lst xs))
 (ho:s.heap.get? p=some {cls:=.type "list",data:=.seq its.toArray n}) (hf:f {cls:=.type "list",data:=.seq its.toArray n}={cls:=.type "list",data:=.seq its'.toArray n'}) (r:cY ys its') (hz:ys.length<=sizeLine) (t:Nat):
 Inv X aM σ (upd H p<|.lst ys) {s with heap:=s.heap.update p f,toks:=t}:=by
 let e:(s.heap.update p f).get? p=some {cls:=.type "list",data:=.seq its'.toArray n'}:=by
  rw[fO f ho (by rw[hf]<;>rfl),hf]
 calc I.write (x:=p) (e:=p) (by rw[h];trivial) (.inl rfl) (λb u hb q=>(gI _ _<|cE hb).trans q) #[_,e] ?_;exact#[hz,its',n',r,e]
def QF:V->V->V->Hp->(Hp->Prop)->Prop:=λo i v H Q=>oI o λp=>sV i λk=>∃xs,H p=some (.lst xs)/\∃j,OF xs.length k=some j/\Q (upd H p<|.lst<|xs.set j v)
theorem qG:i9 X QF:=by
 intro aM s σ H o i v m w u Q I f g rv h;replace h:=xK h;obtain⟨p,rfl,h⟩:=h;replace h:=jX h;obtain⟨k,rfl,xs,hp,j,l,q⟩:=h;cases f;obtain⟨t,rfl⟩:=g;obtain⟨its,n,r,a,hz⟩:=I.lst hp;obtain⟨h1,h2,b,c⟩:=KF l;let hl:=r.length;let hn:=kR;let d:Inv X aM σ (upd H p<|.lst<|xs.set j v) {s with heap:=s.heap.update p (Obj.mapSeq (·.setIfInBounds j u))}:=
  I.lstUpd hp a (FT its n j u) (r.set rv j) (by rw[mH];calc hz) s.toks
 by_cases e:0<=k
 ·let hk:k.toNat=j:=by
   rw[seqIndex_of e c]at h1;exact cD h1
  exact W.ki_setAt a e () (by rw[aR,←hl];calc c) (by rw[hk];calc#[_,d,q])
 ·let hk:(k+(its.toArray.size:Int)).toNat=j:=by
   rw[seqIndex_neg () b]at h1;rw[aR,←hl];exact cD h1
  exact W.ki_setBack a () (by rw[aR,←hl];calc b) () (by rw[hk];calc#[_,d,q])
theorem UP(lo hi:Option Int)(n:Nat):(sliceBounds lo hi none n).1=((HT.sIx n 0 lo:Nat):Int)/\(sliceBounds lo hi none n).2.1=((HT.sIx n n hi:Nat):Int)/\(sliceBounds lo hi none n).2.2=1:=by
 refine#[?_,?_,rfl]
 ·cases lo with
  |none=>simp[sliceBounds,HT.sIx]
  |some i=>
   simp only[sliceBounds,HT.sIx,Option.getD_none,show(1:Int)>0 by decide,if_true];by_cases h:i<0
   ·simp only[h,if_true]<;>lia
   ·simp only[h,if_false]<;>lia
 ·cases hi with
  |none=>simp[sliceBounds,HT.sIx]
  |some i=>
   simp only[sliceBounds,HT.sIx,Option.getD_none,show(1:Int)>0 by decide,if_true];by_cases h:i<0
   ·simp only[h,if_true]<;>lia
   ·simp only[h,if_false]<;>lia
theorem JO(its:List Value)(lo hi:Option Int):slicePick its.toArray lo hi none=((its.drop<|HT.sIx its.length 0 lo).take (HT.sIx its.length its.length hi-HT.sIx its.length 0 lo)).toArray:=by
 obtain⟨h1,h2,a⟩:=UP lo hi its.toArray.size;unfold slicePick;rw[h1,h2,a];simp only[sliceRange_one,pick_run,aR]<;>rfl
def rSlL(K:W.Frag):V->Option Int->Option Int->Hp->VK->Prop:=λx lo hi H Q=>oI x λa=>∃xs,cO K H a xs/\∀p,H p=none->Q (.ref p) (upd H p<|.lst<|qN xs lo hi)
theorem vM:SlR X (rSlL X.K):=by
 intro aM s σ H x v e f lo hi sl Q I c hs pl d h;replace h:=xK h;obtain⟨a,rfl,xs,hx,q⟩:=h;cases c;obtain⟨its,r,ht,hz⟩:=I.list hx;let eQ:=r.length;calc#["list",_,slot_list_getitem.lookup,ht.isList.typeIs,?_];calc wpAny_getItem_list_slice ht.isList hs pl d .none (by simp) ?_ (by rw[aR]<;>lia);rw[JO,←eQ];calc#[.ref s.heap.objs.size,_,I.laid (t':=s.toks) (o:=.lst<|qN xs lo hi) (λb g q=>aO _ q) (aG _) ?_,rfl,q _<|I.hok.fresh<|aG _];exact#[bX (vG xs lo hi) hz,_,0,(r.drop<|HT.sIx xs.length 0 lo).take (HT.sIx xs.length xs.length hi-HT.sIx xs.length 0 lo),bF _ rfl]
noncomputable def kD:V->Bool
 | .non=>true
 | .bl _=>true
 | .int _=>true
 | .str _=>true
 |_=>false
noncomputable def lw:V->V->Bool
 | .non,.non=>true
 | .bl a,.bl b=>a==b
 | .bl a,.int b=>(if a then 1 else 0)==b
 | .int a,.bl b=>a==(if b then 1 else 0)
 | .int a,.int b=>a==b
 | .str a,.str b=>a==b
 |_,_=>false
theorem ua{x:V}{v:Value}(ry:RelV y u)(rx:RelV x v)(fy:kD y=true)(fx:kD x=true):SeqAt.EqAt A s u v (lw y x):=by
 cases y with
 |non=>
  cases ry;cases x with
  |non=>cases rx;exact SeqAt.EqAt.same _
  |bl b=>cases rx;exact SeqAt.EqAt.none_bool b
  |int b=>obtain⟨t,rfl⟩:=rx;exact SeqAt.EqAt.none_int b t
  |str b=>obtain⟨t,rfl⟩:=rx;exact SeqAt.EqAt.none_str b t
  |_=>exact absurd (show false=true from fx) aY
 |bl a=>
  cases ry;cases x with
  |non=>cases rx;exact SeqAt.EqAt.bool_none a
  |bl b=>cases rx;exact SeqAt.EqAt.bool_bool a b
  |int b=>obtain⟨t,rfl⟩:=rx;exact SeqAt.EqAt.bool_int a b t
  |str b=>obtain⟨t,rfl⟩:=rx;exact SeqAt.EqAt.bool_str a b t
  |_=>exact absurd (show false=true from fx) aY
 |int a=>
  obtain⟨t',rfl⟩:=ry;cases x with
  |non=>cases rx;exact SeqAt.EqAt.int_none a t'
  |bl b=>cases rx;exact SeqAt.EqAt.int_bool a t' b
  |int b=>obtain⟨t,rfl⟩:=rx;exact SeqAt.EqAt.int_int a t' b t
  |str b=>obtain⟨t,rfl⟩:=rx;exact SeqAt.EqAt.int_str a t' b t
  |_=>exact absurd (show false=true from fx) aY
 |str a=>
  obtain⟨t',rfl⟩:=ry;cases x with
  |non=>cases rx;exact SeqAt.EqAt.str_none a t'
  |bl b=>cases rx;exact SeqAt.EqAt.str_bool a t' b
  |int b=>obtain⟨t,rfl⟩:=rx;exact SeqAt.EqAt.str_int a t' b t
  |str b=>obtain⟨t,rfl⟩:=rx;exact SeqAt.EqAt.str_str a t' b t
  |_=>exact absurd (show false=true from fx) aY
 |_=>exact absurd (show false=true from fy) aY
noncomputable def iw(x:V)(u:Value):Bool:=match u with
 | .none=>lw .non x
 | .bool b=>lw (.bl b) x
 | .int i _=>lw (.int i) x
 | .str z _=>lw (.str z) x
 |_=>false
theorem ag{x:V}(r:RelV y u)(f:kD y=true):iw x u=lw y x:=by
 cases y with
 |non=>cases r;rfl
 |bl b=>cases r;rfl
 |int i=>obtain⟨t,rfl⟩:=r;rfl
 |str z=>obtain⟨t,rfl⟩:=r;rfl
 |_=>exact absurd (show false=true from f) aY
theorem WH{x:V}:∀{xs:List V}{us:List Value},cY xs us->xs.all kD=true->us.any (iw x)=xs.any λy=>lw y x
 |_,_,.nil,_=>rfl
 |y::xs,u::us,.cons r t,f=>by
  rw[List.all_cons,cC]at f;rw[iN,iN,ag r f.1,WH t f.2]
theorem XI{A:Around}{s:Shared}{x:V}{v:Value}(rx:RelV x v)(fx:kD x=true):∀{xs:List V}{us:List Value},cY xs us->xs.all kD=true->∀u∈us,SeqAt.EqAt A s u v<|iw x u
 |_,_,.nil,_=>λu hu=>by cases hu
 |y::xs,u::us,.cons r t,f=>λa hu=>by
  rw[List.all_cons,cC]at f;rcases bI.mp hu with rfl |hu
  ·rw[ag r f.1];exact ua r rx f.1 fx
  ·exact XI rx fx t f.2 a hu
noncomputable def inV(x:V)(xs:List V):Bool:=xs.any λy=>lw y x
def rIn(K:W.Frag)(neg:Bool):R2:=λx y H Q=>∃p xs,y=.ref p/\(cO K H p xs\/cW K H p xs)/\kD x=true/\xs.all kD=true/\Q (.bl<|if neg then !inV x xs else inV x xs) H
theorem MM:pG X (compareOp .In) (rIn X.K false):=by
 intro aM s σ H x y v u Q I b d h;obtain⟨p,xs,rfl,hq,c,fs,q⟩:=h;cases d;rcases hq with hq |hq
 ·obtain⟨its,r,pl,hz⟩:=I.list hq;calc SeqAt.in_listAt (iw x) pl.isList (λw a=>XI b c r fs w (by simpa using a)) #[.bl _,H,I,rfl,?_];rw[show its.toArray.any (iw x)=its.any (iw x) by simp,WH r fs];exact q
 ·obtain⟨its,r,pl,hz⟩:=I.tuple hq;calc SeqAt.in_tupleAt (iw x) pl (λw a=>XI b c r fs w (by simpa using a)) #[.bl _,H,I,rfl,?_];rw[show its.toArray.any (iw x)=its.any (iw x) by simp,WH r fs];exact q
theorem kH:xX X (.type "list") (λxs H Q=>rJ xs λx=>oI x λp=>∃ys,(cO X.K H p ys\/cW X.K H p ys)/\∀l,H l=none->Q (.ref l) (upd H l<|.lst ys)):=by
 intro aM s σ H xs us Q I r h;replace h:=wJ h;obtain⟨x,rfl,h⟩:=h;replace h:=xK h;obtain⟨p,rfl,ys,hq,q⟩:=h;obtain⟨u,rfl,f⟩:=jY r;cases f;let fin:∀(its:List Value),cY ys its->ys.length<=sizeLine->∀(h':Heap)(a:Nat),(∀b o',s.heap.get? b=some o'->h'.get? b=some o')->
  h'.get? s.heap.objs.size=some {cls:=.type "list",dict:=none,data:=.seq its.toArray a,slots:= (List.toArray [])}->EP X aM σ Q (.ref s.heap.objs.size) {s with heap:=h'}:=λits c hz h' a kp e=>
  #[.ref s.heap.objs.size,_,I.laid (t':=s.toks) kp (aG _) (show eZ X.prog X.w _ h' _ (.lst ys)from#[hz,its,a,c,e]),rfl,q _<|I.hok.fresh<|aG _]
 rcases hq with hq |hq
 ·obtain⟨its,c,pl,hz⟩:=I.list hq;let eQ:=c.length;obtain⟨o,d,hc,n,hd⟩:=pl.isList;exact call_list_seq p (.inl rfl) d hc hd (λh' a kp e=>fin its c hz h' a kp e) (by simp only[aR]<;>lia)
 ·obtain⟨its,c,pl,hz⟩:=I.tuple hq;let eQ:=c.length;obtain⟨o,d,hc,n,hd⟩:=pl;exact call_list_seq p (.inr rfl) d hc hd (λh' a kp e=>fin its c hz h' a kp e) (by simp only[aR]<;>lia)
theorem JW:xX X (.type "tuple") (λxs H Q=>∃p ys,xs=[.ref p]/\((cO X.K H p ys/\∀l,H l=none->Q (.ref l) (upd H l<|.tup ys))\/(cW X.K H p ys/\Q (.ref p) H))):=by
 intro aM s σ H xs us Q I r h;obtain⟨p,ys,rfl,h⟩:=h;obtain⟨u,rfl,d⟩:=jY r;cases d;rcases h with⟨hq,q⟩ |⟨hq,q⟩
 ·obtain⟨its,a,pl,hz⟩:=I.list hq;let eQ:=a.length;calc call_tuple_list pl.isList (λh' kp=>?_) (by simp only[aR]<;>lia);let c:Inv X aM σ H {s with heap:=h'}:=I.kept (t':=s.toks) kp;let f:Inv X aM σ (upd H h'.objs.size<|.tup ys) {s with heap:=h'.push {cls:=.type "tuple",data:=.seq its.toArray}}:=
   c.laid (t':=s.toks) (λb o e=>aO _ e) (aG _) (show eZ X.prog X.w _ _ _ (.tup ys)from#[hz,its,a,IsTup.new _ _])
  exact#[.ref h'.objs.size,_,f,rfl,q _<|c.hok.fresh<|aG _]
 ·obtain⟨its,a,pl,hz⟩:=I.tuple hq;exact call_tuple_same pl #[.ref p,H,I,rfl,q]
def tyV(K:W.Frag)(T:String)(x:V)(H:Hp):Prop:=match x with
 | .str _=>T="str"
 | .int _=>T="int"
 | .ref p=>(T="list"/\∃xs,cO K H p xs)\/(T="tuple"/\∃o,K.lookup p=some o/\o.cls=.type "tuple"/\o.dict=none)\/
  (T="dict"/\((∃kvs,H p=some (.dK kvs))\/∃kvs,H p=some (.dT kvs)))\/(T="set"/\∃S n,H p=some (.set S n))
 |_=>False
theorem OX{x:V}{v:Value}(I:Inv X aM σ H s)(r:RelV x v)(ty:tyV X.K T x H):
 s.TypeIs v T/\∀a,v=.ref a->∃ob,s.heap.get? a=some ob/\ob.dict=none:=by
 cases x with
 |str z=>
  obtain⟨t,rfl⟩:=r;cases (show T="str" from ty);exact#[typeIs_str s z t,λ_ e=>nomatch e]
 |int i=>
  obtain⟨t,rfl⟩:=r;cases (show T="int" from ty);exact#[typeIs_int s i t,λ_ e=>nomatch e]
 |ref p=>
  cases r;rcases ty with⟨rfl,xs,hq⟩ |⟨rfl,o,hk,hc,hd⟩ |⟨rfl,hk⟩ |⟨rfl,S,n,hk⟩
  ·obtain⟨its,_,pl,_⟩:=I.list hq;calc#[pl.isList.typeIs,λa e=>?_];cases e;obtain⟨o,n,e,c,hd,_⟩:=pl;exact#[o,e,hd]
  ·calc#[#[o,I.kIn p o hk,hc],λa e=>?_];cases e;exact#[o,I.kIn _ o hk,hd]
  ·let z:∃o,s.heap.get? p=some o/\o.ExactDict:=by
    rcases hk with⟨kvs,hk⟩ |⟨kvs,hk⟩
    ·obtain⟨_,_,_,_,o,_,_,e,ex,_⟩:=I.hok p _ hk;exact#[o,e,ex]
    ·obtain⟨_,_,_,_,o,_,_,e,ex,_⟩:=I.hok p _ hk;exact#[o,e,ex]
   obtain⟨o,e,ex⟩:=z;calc#[#[o,e,ex.1],λa b=>?_];cases b;exact#[o,e,ex.2.1]
  ·obtain⟨o,_,_,_,e,ex,_⟩:=I.hok p _ hk;calc#[#[o,e,ex.1],λa b=>?_];cases b;exact#[o,e,ex.2.1]
 |_=>exact False.elim ty
def tBM0(K:W.Frag)(T:String)(r:V->List V->Hp->VK->Prop)(to:TE):TE:=λσ H Q=>to σ H λx H1=>tyV K T x H1/\r x [] H1 Q
def tBM(K:W.Frag)(T:String)(r:V->List V->Hp->VK->Prop)(to:TE)(t:TA):TE:=λσ H Q=>to σ H λx H1=>tyV K T x H1/\t σ H1 λxs H2=>r x xs H2 Q
variable {es:List Expr} {to:TE} {t:TA} {name:Str} {hG:Pos} {id:String} {r:V->List V->Hp->VK->Prop}
theorem qp(pa:PlainAttrs T)(slot:Slot T name id)(hty:typeOf (.builtin id)=pure (.type "method_descriptor"))(hm:MtR X id r)(ho:PE X o to)
 (hbase:attributeBase o name X.env (eval o X.env)=eval o X.env:=by rfl) (hline:(lM.endLine==hG.line)=true:=by rfl):PE X (.Call (.Attribute o name lM) [] [] hG) (tBM0 X.K T r to):=by
 intro aM s σ H Q I h;calc wpAny_Call_method0_late hbase hline (eK (ho aM s σ H _ I h) λv s1 ⟨x,H1,a,b,ty,c⟩=>?_);obtain⟨h1,h2⟩:=OX a b ty;exact#[T,id,pa,slot,hty,h1,h2,iV rfl<|PySem.evalArgs_none<|hm aM s1 σ H1 x [] v [] Q a b .nil c]
theorem qK(pa:PlainAttrs T)(slot:Slot T name id)(hty:typeOf (.builtin id)=pure (.type "method_descriptor"))(hm:MtR X id r)(ho:PE X o to)(ha:PA X (e::es) t)
 (hbase:attributeBase o name X.env (eval o X.env)=eval o X.env:=by rfl)
 (hfew:((backTo hG<|starEach (e::es) X.env).all (λx=>!x.1)&&(backToKw hG<|keywordEach [] X.env).all (λx=>x.1.isSome)
  &&decide ((e::es).length+([]:List Keyword).length+(if([]:List Keyword).isEmpty then 0 else 1)<30))=true:=by rfl)
 (hline:(lM.endLine==hG.line)=true:=by rfl) (hs:starEach (e::es) X.env=(false,eval e X.env)::starEach es X.env:=by rfl) (hplain:(backTo hG<|starEach es X.env).any (·.1)=false:=by rfl):
 PE X (.Call (.Attribute o name lM) (e::es) [] hG) (tBM X.K T r to t):=by
 intro aM s σ H Q I h;calc wpAny_Call_method_late hbase hfew hline rfl (eK (ho aM s σ H _ I h) λv s1 ⟨x,H1,a,b,ty,d⟩=>?_);obtain⟨h1,h2⟩:=OX a b ty;calc#[T,id,pa,slot,hty,h1,h2,?_];let c:=ha hG aM s1 σ H1 _ a d;rw[hs]at c⊢;calc iV (by show(false ||(backTo hG<|starEach es X.env).any (·.1))=false;rw[hplain]<;>rfl)<|rA ?_;exact eK c λus s2 ⟨vs,H2,f,g,i⟩=>hm aM s2 σ H2 x vs v us Q f b g i
end
def MtM(X:Cx)(id:String)(r:V->List V->Hp->VK->Prop):Prop:=
 ∀(aM:List (Addr×Obj)) (s:Shared) (σ:St) (H:Hp) (x:V) (xs:List V) (v:Value) (us:List Value) (Q:VK),Inv X aM σ H s->RelV x v->cY xs us->r x xs H Q->
  wpAny (model X.prog X.w) X.A (call (.builtin id) (v::us)) (EP X aM σ Q) X.xe s
theorem cY.one{x:V}(h:cY [x] us):∃u,us=[u]/\RelV x u:=jY h
theorem cY.two{x:V}(h:cY [x,y] us):∃u v,us=[u,v]/\RelV x u/\RelV y v:=vals2 h
theorem cY.rep{xs:List V}{us:List Value}(h:cY xs us):∀k:Nat,cY (List.replicate k xs).flatten (List.replicate k us).flatten
 |0=>.nil
 |k+1=>by
  rw[fU,fU,nO,nO];exact cY.append h<|cY.rep h k
theorem QS(its:List Value):∀(k:Nat)(mO:List Value),
 List.foldl (λx1 x2=>x1++x2) mO.toArray (List.replicate k its.toArray)=(mO++(List.replicate k its).flatten).toArray
 |0,mO=>by simp
 |k+1,mO=>by
  let e:mO.toArray++its.toArray=(mO++its).toArray:=by simp
  let a:(mO++its)++(List.replicate k its).flatten=mO++(List.replicate (k+1) its).flatten:=by
   rw[fU,nO,dD]
  rw[←a,←QS its k (mO++its),←e,fU,List.foldl_cons]
section
variable {ys zs:List V}
theorem Inv.lset{f:Array Value->Array Value}(I:Inv X aM σ H s)(hH:H l=some (.lst xs))
 (e:s.heap.get? l=some {cls:=.type "list",data:=.seq its.toArray n}) (hf:f its.toArray=its'.toArray) (hv:cY ys its') (hz:ys.length<=sizeLine):
 Inv X aM σ (upd H l<|.lst ys) {s with heap:=s.heap.update l (Obj.mapSeq f),toks:=t'}:=by
 let q:=PySem.IsL.update e f;rw[hf]at q;calc I.write (x:=l) (e:=l) (by rw[hH];calc trivial) (.inl rfl) (λa u hb hu=>(gI s.heap (Obj.mapSeq f)<|cE hb).trans hu) #[_,q] ?_;exact#[hz,its',_,hv,q]
theorem Inv.lnew(I:Inv X aM σ H s)(hv:cY ys its)(hz:ys.length<=sizeLine):
 Inv X aM σ (upd H s.heap.objs.size<|.lst ys) {s with heap:=s.heap.push {cls:=.type "list",data:=.seq its.toArray},toks:=t'}:=
 I.laid (λ_ _ q=>aO _ q) (aG _) #[hz,its,0,hv,bF _ rfl]
theorem Inv.fresh(I:Inv X aM σ H s):H s.heap.objs.size=none:=I.hok.fresh<|aG _
theorem Inv.lstM(I:Inv X aM σ H s)(hH:H l=some (.lst xs)):xs.length<=sizeLine/\∃(its:List Value)(n:Nat),cY xs its/\xs.length=its.length/\s.heap.get? l=some {cls:=.type "list",data:=.seq its.toArray n}:=by
 obtain⟨z,its,n,r,e⟩:=I.hok l _ hH;exact#[z,its,n,r,r.length,e]
theorem XG(h:n<=sizeLine):Builtin.List.listTooLong n=false:=by
 unfold Builtin.List.listTooLong;exact cJ ()
end
def UV:V->List V->Hp->VK->Prop:=λx vs H Q=>oI x λl=>rJ vs λy=>∃xs,H l=some (.lst xs)/\xs.length<sizeLine/\Q .non (upd H l<|.lst<|xs++[y])
theorem jE:MtM X "list.append" UV:=by
 intro aM s σ H x vs v us Q I b rv h;replace h:=xK h;obtain⟨l,rfl,h⟩:=h;replace h:=wJ h;obtain⟨y,rfl,xs,a,hz,q⟩:=h;cases b;obtain⟨u,rfl,c⟩:=rv.one;obtain⟨z,its,n,r,hl,e⟩:=I.lstM a;calc tI F.slot_list_append #[_,e,rfl] F.entry_list_append (F.args_list_append_2 _ _) (PySem.list_append l its.toArray n u (by rw[aR];lia)) #[e,?_];calc#[.non,_,I.lset (its':=its++[u]) a e (by simp) (r.append<|.cons c .nil) ?_,rfl,q];rw[aK,bP];lia
def IB:V->List V->Hp->VK->Prop:=λx vs H Q=>oI x λl=>rJ vs λz=>oI z λb=>∃xs,H l=some (.lst xs)/\∃zs,H b=some (.lst zs)/\xs.length+zs.length<=sizeLine/\Q .non (upd H l<|.lst<|xs++zs)
theorem MY:MtM X "list.extend" IB:=by
 intro aM s σ H x vs v us Q I g rv h;replace h:=xK h;obtain⟨l,rfl,h⟩:=h;replace h:=wJ h;obtain⟨x,rfl,h⟩:=h;replace h:=xK h;obtain⟨b,rfl,xs,f,zs,i,hz,q⟩:=h;cases g;obtain⟨u,rfl,j⟩:=rv.one;cases j;obtain⟨z,its,n,r,hl,e⟩:=I.lstM f;obtain⟨t,a,k,m,o,p⟩:=I.lstM i;let d:its.toArray.size+a.toArray.size<=sizeLine:=by rw[aR,aR];lia
 let c:¬(!its.toArray.isEmpty&&Builtin.List.listTooLong (its.toArray.size+a.toArray.size))=true:=by
  rw[XG d,lE];exact aY
 refine tI F.slot_list_extend #[_,e,rfl] F.entry_list_extend (F.args_list_extend_2 _ _)
  (AutoSeq1.list_extend_list_list_0 l its.toArray n b a.toArray k c (by rw[aR];lia) ()) #[e,p,?_]
 calc#[.non,_,I.lset (its':=its++a) f e (by simp) (r.append m) ?_,rfl,q];rw[aK];lia
def rCat:R2:=λx y H Q=>oI x λl=>oI y λb=>∃xs,H l=some (.lst xs)/\∃zs,H b=some (.lst zs)/\xs.length+zs.length<=sizeLine/\∀p,H p=none->Q (.ref p) (upd H p<|.lst<|xs++zs)
theorem uY:pG X (binaryOp .Add) rCat:=by
 intro aM s σ H x y v u Q I c d h;replace h:=xK h;obtain⟨l,rfl,h⟩:=h;replace h:=xK h;obtain⟨b,rfl,xs,f,zs,g,hz,q⟩:=h;cases c;cases d;obtain⟨z,its,n,r,hl,e⟩:=I.lstM f;obtain⟨o,a,p,i,j,k⟩:=I.lstM g;calc PySem.P.add_list e k ?_ (by rw[aR,aR];lia);let m:its.toArray++a.toArray=(its++a).toArray:=by simp
 rw[m];exact#[.ref _,_,I.lnew (t':=s.toks) (r.append i) (by rw[aK];lia),rfl,q _ I.fresh]
def RI:R2:=λx y H Q=>oI x λl=>sV y λk=>∃xs,H l=some (.lst xs)/\ -(2^63)<=k/\k<2^63/\xs.length*k.toNat<=sizeLine/\
 ∀p,H p=none->Q (.ref p) (upd H p<|.lst (List.replicate k.toNat xs).flatten)
theorem ij(xs:List α)(k:Nat):(List.replicate k xs).flatten.length=k*xs.length:=by
 induction k with
 |zero=>simp
 |succ k a=>rw[fU,nO,aK,a,Nat.succ_mul,Nat.add_comm]
theorem VC:pG X (binaryOp .Mult) RI:=by
 intro aM s σ H x y v u Q I j o h;replace h:=xK h;obtain⟨l,rfl,h⟩:=h;replace h:=jX h;obtain⟨k,rfl,xs,p,h1,h2,hz,q⟩:=h;cases j;obtain⟨t,rfl⟩:=o;obtain⟨z,its,n,r,hl,e⟩:=I.lstM p;let eQ:its.toArray.size*k.toNat<=sizeLine:=by rw[aR,←hl];exact hz
 let c:¬its.toArray.size*k.toNat>(2^63-1)/8:=by
  have :(sizeLine:Nat)<=(2^63-1)/8:=by decide
  lia
 let d:¬(!Builtin.List.listFitsIndex k)=true:=by
  rw[fitsIndex_both h1 h2];exact aY
 let b:¬Builtin.List.listTooLong (its.toArray.size*k.toNat)=true:=by
  rw[XG eQ];exact aY
 let f:List.foldl (λg i=>g++i) (List.toArray []) (List.replicate (if its.toArray.isEmpty=true then 0 else k.toNat) its.toArray)=(List.replicate k.toNat its).flatten.toArray:=by
  let w:∀m:Nat,List.foldl (λg i=>g++i) (List.toArray []) (List.replicate m its.toArray)=(List.replicate m its).flatten.toArray:=λm=>by
   have :=QS its m [];rw[List.nil_append]at this;exact this
  rw[w];cases its with
  |nil=>simp
  |cons a A=>rw[aH (by simp)]
 refine wpAny_binaryOp_repeat_ref (T:="list") (U:="int") (by decide) #[_,e,rfl] (λs'=>typeIs_int s' k t) noFill_list_mul F.fills_int_mul F.slot_int_rmul repeat_list F.slot_int_index.lookup
  (tI F.slot_int_rmul (typeIs_int s k t) F.entry_int_rmul (F.args_int_rmul_2 _ _) (int___rmul___int_list k t l its.toArray n)
   #[e,rfl,#[_,e,rfl],tI F.slot_list_mul #[_,e,rfl] F.entry_list_mul (F.args_list_mul_2 _ _) (AutoListH.list___mul___list_int_3 l its.toArray n k t d c b) #[e,?_]])
 rw[f];exact#[.ref _,_,I.lnew (t':=s.toks) (r.rep k.toNat) (by rw[ij,Nat.mul_comm];calc hz),rfl,q _ I.fresh]
section
variable {κ:Type} [DecidableEq κ]
noncomputable def yB(kvs:List (κ×V))(k:κ):Option V:=(kvs.find? λkv=>decide<|kv.1=k).map (·.2)
noncomputable def qJ(kvs:List (κ×V))(k:κ)(v:V):List (κ×V):=
 if(kvs.any λkv=>decide<|kv.1=k)=true then kvs.map (λkv=>if kv.1=k then(kv.1,v)else kv)else kvs++[(k,v)]
theorem qD{p:κ×V}{r:List (κ×V)}{k:κ}(e:p.1=k):yB (p::r) k=some p.2:=by simp[yB,eG,e]
theorem jT{p:κ×V}{r:List (κ×V)}{k:κ}(e:¬p.1=k):yB (p::r) k=yB r k:=by simp[yB,eG,e]
theorem YK(k:κ):∀kvs:List (κ×V),(kvs.any λkv=>decide<|kv.1=k)=(yB kvs k).isSome
 |[]=>rfl
 |p::r=>by
  rw[iN];by_cases e:p.1=k
  ·simp only[qD e,cN e,HB,Option.isSome_some]
  ·rw[jT e,cJ e,tU];exact YK k r
theorem vA(kvs:List (κ×V))(k:κ)(v:V):(qJ kvs k v).length<=kvs.length+1:=by
 unfold qJ;split
 ·rw[aC];lia
 ·rw[aK,bG,mI];lia
theorem RK{kvs:List (κ×V)}{k:κ}(v:V)(h:yB kvs k=none):qJ kvs k v=kvs++[(k,v)]:=by
 unfold qJ;rw[YK,h];exact aH (by decide)
theorem nZ.isSome_eq{o:Option V}{u:Option Value}(r:nZ o u):o.isSome=u.isSome:=by
 cases o with
 |none=>cases u with
  |none=>rfl
  |some _=>exact(show False from r).elim
 |some _=>cases u with
  |none=>exact(show False from r).elim
  |some _=>rfl
theorem nZ.getD{o:Option V}{u:Option Value}{d:V}{d':Value}(r:nZ o u)(rd:RelV d d'):RelV (o.getD d) (u.getD d'):=by
 cases o with
 |none=>cases u with
  |none=>exact rd
  |some _=>exact(show False from r).elim
 |some _=>cases u with
  |none=>exact(show False from r).elim
  |some _=>exact r
theorem KV.val{kvs:List (κ×V)}{vs:List (κ×Value)}(r:KV kvs vs)(k:κ):nZ (yB kvs k) (valueAt vs k):=by
 unfold KV at r
 induction r with
 |nil=>exact True.intro
 |@cons p q ps qs h t c=>
  obtain⟨h1,h2⟩:=h;by_cases e:p.1=k
  ·let a:q.1=k:=h1.symm.trans e;let b:valueAt (q::qs) k=some q.2:=by simp[valueAt,eG,a]
   rw[qD e,b];exact h2
  ·let a:¬q.1=k:=λz=>e<|h1.trans z
   let b:valueAt (q::qs) k=valueAt qs k:=by simp[valueAt,eG,a]
   rw[jT e,b];exact c
theorem KV.any{kvs:List (κ×V)}{vs:List (κ×Value)}(r:KV kvs vs)(k:κ):(kvs.any λkv=>decide<|kv.1=k)=vs.any λkv=>decide (kv.1=k):=by
 unfold KV at r
 induction r with
 |nil=>rfl
 |cons h t a=>rw[iN,iN,a,h.1]
theorem KV.repl{kvs:List (κ×V)}{vs:List (κ×Value)}(r:KV kvs vs)(k:κ)(ry:RelV y u):
 KV (kvs.map λkv=>if kv.1=k then(kv.1,y)else kv) (vs.map λkv=>if kv.1=k then(kv.1,u)else kv):=by
 unfold KV at r⊢
 induction r with
 |nil=>exact .nil
 |@cons p q ps qs h t a=>
  rw[bY,bY];calc .cons ?_ a;obtain⟨h1,h2⟩:=h;by_cases e:p.1=k
  ·rw[aT e,aT<|h1.symm.trans e];exact#[h1,ry]
  ·rw[aH e,aH λz=>e<|h1.trans z];exact#[h1,h2]
theorem KV.put{kvs:List (κ×V)}{vs:List (κ×Value)}(r:KV kvs vs)(k:κ)(ry:RelV y u):KV (qJ kvs k y) (stored vs k u):=by
 unfold qJ stored;rw[r.any k];by_cases e:(vs.any λa=>decide<|a.1=k)=true
 ·rw[aT e,aT e];exact r.repl k ry
 ·rw[aH e,aH e];exact Paired.snoc r #[rfl,ry]
theorem KV.length{kvs:List (κ×V)}{vs:List (κ×Value)}(r:KV kvs vs):kvs.length=vs.length:=fA r
end
theorem XR{k:eV}(r:RelV (kV k) u):(zX P w).is k u=true:=by
 cases k with
 |inl i=>obtain⟨t,e⟩:=(show∃t,u=Value.int i t from r);subst e;exact CD P w i t
 |inr x=>obtain⟨t,e⟩:=(show∃t,u=Value.str x t from r);subst e;exact CC P w x t
theorem kW{P:Program}{w:World}:∀{ks:List eV}{us:List Value},cY (ks.map kV) us->ItemsAre (zX P w) ks us
 |[],_,r=>by rw[pU]at r;cases r;exact .nil
 |k::ks,_,r=>by
  rw[bY]at r;cases r with
  |cons h t=>exact .cons (XR h)<|kW t
abbrev KT(H:Hp):List (List eV×V)->List (List eV×Addr×Value)->Prop:=Paired λp q=>p.1=q.1/\H q.2.1=some (.tup<|p.1.map kV)/\RelV p.2 q.2.2
theorem KT.val{xs:List (List eV×Addr×Value)}(r:KT H kvs xs)(k:List eV):nZ (yB kvs k) ((atKey xs k).map (·.2)):=by
 induction r with
 |nil=>exact True.intro
 |@cons p q ps qs h t c=>
  obtain⟨h1,_,h2⟩:=h;by_cases e:p.1=k
  ·let a:q.1=k:=h1.symm.trans e;let b:atKey (q::qs) k=some q.2:=by simp[atKey,eG,a]
   rw[qD e,b];exact h2
  ·let a:¬q.1=k:=λz=>e<|h1.trans z
   let b:atKey (q::qs) k=atKey qs k:=by simp[atKey,eG,a]
   rw[jT e,b];exact c
theorem KT.repl{xs:List (List eV×Addr×Value)}(r:KT H kvs xs)(k:List eV)(ry:RelV y u):
 KT H (kvs.map λkv=>if kv.1=k then(kv.1,y)else kv) (xs.map<|putAt k u):=by
 induction r with
 |nil=>exact .nil
 |@cons p q ps qs h t a=>
  rw[bY,bY];calc .cons ?_ a;obtain⟨h1,h2,b⟩:=h;unfold putAt;by_cases e:p.1=k
  ·rw[aT e,aT<|h1.symm.trans e];exact#[h1,h2,ry]
  ·rw[aH e,aH λz=>e<|h1.trans z];exact#[h1,h2,b]
theorem KT.put{xs:List (List eV×Addr×Value)}(r:KT H kvs xs)(k:List eV)(hb:H b=some (.tup<|k.map kV))(ry:RelV y u):
 KT H (qJ kvs k y) (storedH xs k b u):=by
 let e:(kvs.any λa=>decide<|a.1=k)=(atKey xs k).isSome:=by
  rw[YK,(r.val k).isSome_eq,nI]
 unfold qJ storedH;rw[e];by_cases q:(atKey xs k).isSome=true
 ·rw[aT q,aT q];exact r.repl k ry
 ·rw[aH q,aH q];exact Paired.snoc r #[rfl,hb,ry]
theorem KT.keeps{xs:List (List eV×Addr×Value)}(r:KT H kvs xs)(ht:∀b ys,H b=some (.tup ys)->H' b=some (.tup ys)):KT H' kvs xs:=
 Paired.mapP r λ_ _ z=>#[z.1,ht _ _ z.2.1,z.2.2]
theorem lh{u:HO}(ok:mV P w H h)(e:Rd H a u):eZ P w H h a u:=e.ok ok
theorem ZL{kvs:List (eV×V)}(ok:mV P w H h)(e:Rd H a (.dK kvs)):kvs.length<=sizeLine/\(a==sysModules)=false/\∃vs,KV kvs vs/\h.DictOf (zX P w) a vs:=
 show eZ P w H h a (.dK kvs)from lh ok e
theorem dk_of{kvs:List (eV×V)}(ok:mV P w H h)(e:H a=some (.dK kvs)):kvs.length<=sizeLine/\(a==sysModules)=false/\∃vs,KV kvs vs/\h.DictOf (zX P w) a vs:=ZL ok<|.inl e
theorem vC{ks:List eV}(ok:mV P w H h)(e:H a=some (.tup<|ks.map kV)):(tupleKind<|zX P w).is h ks a:=by
 obtain⟨_,its,r,o,h1,h2,n,b⟩:=(show eZ P w H h a (.tup<|ks.map kV)from ok a _ e)
 exact#[o,its.toArray,n,h1,h2,b,by simpa using kW r]
theorem JA(ok:mV P w H h)(e:Rd H a (.dT kvs)):kvs.length<=sizeLine/\(a==sysModules)=false/\
 ∃xs,KT H kvs xs/\h.DictOfH (tupleKind<|zX P w) a xs:=by
 obtain⟨z,y,xs,r,o,es,ep,h1,h2,b,c,d⟩:=(show eZ P w H h a (.dT kvs)from lh ok e)
 calc#[z,y,xs,r,o,es,ep,h1,h2,b,c,λx hx=>?_,d];let all:∀{l:List (List eV×V)}{m:List (List eV×Addr×Value)},KT H l m->∀x∈m,(tupleKind<|zX P w).is h x.1 x.2.1:=by
  intro l m q
  induction q with
  |nil=>intro x hx;exact nomatch hx
  |@cons p q ps qs hq t f=>
   intro x hx;rcases bI.mp hx with e |hx
   ·subst e;exact vC ok (by rw[←hq.1];calc hq.2.1)
   ·exact f x hx
 exact all r x hx
theorem ly(ok:mV P w H h)(e:H a=some (.dT kvs)):kvs.length<=sizeLine/\(a==sysModules)=false/\
 ∃xs,KT H kvs xs/\h.DictOfH (tupleKind<|zX P w) a xs:=JA ok<|.inl e
def oV(H:Hp)(a:Addr)(y:V)(r:Option V):Prop:=
 (∃kvs k,Rd H a (.dK kvs)/\y=kV k/\r=yB kvs k)\/∃kvs k b,Rd H a (.dT kvs)/\y=.ref b/\H b=some (.tup<|k.map kV)/\r=yB kvs k
def tF(H:Hp)(a:Addr)(y v:V)(H':Hp):Prop:=
 (∃kvs k,H a=some (.dK kvs)/\y=kV k/\kvs.length<sizeLine/\H'=upd H a (.dK<|qJ kvs k v))\/
 ∃kvs k b,H a=some (.dT kvs)/\y=.ref b/\H b=some (.tup<|k.map kV)/\kvs.length<sizeLine/\H'=upd H a (.dT<|qJ kvs k v)
theorem oV.k{kvs:List (eV×V)}{k:eV}(e:H a=some (.dK kvs)):oV H a (kV k) (yB kvs k):=.inl #[kvs,k,.inl e,rfl,rfl]
theorem oV.t{k:List eV}(e:H a=some (.dT kvs))(eb:H b=some (.tup<|k.map kV)):oV H a (.ref b) (yB kvs k):=.inr #[kvs,k,b,.inl e,rfl,eb,rfl]
theorem tF.k{kvs:List (eV×V)}{k:eV}(e:H a=some (.dK kvs))(hl:kvs.length<sizeLine):tF H a (kV k) v (upd H a<|.dK<|qJ kvs k v):=.inl #[kvs,k,e,rfl,hl,rfl]
theorem tF.t{k:List eV}(e:H a=some (.dT kvs))(eb:H b=some (.tup<|k.map kV))(hl:kvs.length<sizeLine):
 tF H a (.ref b) v (upd H a<|.dT<|qJ kvs k v):=.inr #[kvs,k,b,e,rfl,eb,hl,rfl]
section
variable {r:Value} {o:Option V}
theorem Inv.big(I:Inv X aM σ H s):sysModules<s.heap.objs.size:=by
 let h:mainGlobals<s.heap.objs.size:=(I.mod.glob.keeps I.bk).lt;exact Nat.lt_trans (by decide) h
theorem NL(hu:A.units+1<cLine)(I:Inv X aM σ H s)(g:oV H a y (some v))(ry:RelV y u)(h:∀w' s',Inv X aM σ H s'->RelV v w'->Q w' s'):
 wpAny (model X.prog X.w) A (getItem (.ref a) u) Q E s:=by
 rcases g with⟨kvs,k,e,d,l⟩ |⟨kvs,k,b,e,d,j,l⟩
 ·subst d;obtain⟨z,hd,vs,rel,f⟩:=ZL I.hok e;obtain⟨w',i,c⟩:=nZ.some_of (v:=v) (o:=valueAt vs k) (by rw[l];calc rel.val k);exact wpAny_getItem_of (XR ry) f.mapOf i<|h w' _ (I.tok _) c
 ·subst d;cases (show u=Value.ref b from ry);obtain⟨z,hd,xs,rel,f⟩:=JA I.hok e;obtain⟨w',i,c⟩:=nZ.some_of (v:=v) (o:=(atKey xs k).map (·.2)) (by rw[l];calc rel.val k);obtain⟨p,hp,iP⟩:=aL.mp i;calc wpAny_getItem_heap (eI hu) (vC I.hok j) f hp ?_;rw[iP];exact h w' _ (I.tok _) c
theorem d_in(hu:A.units+1<cLine)(I:Inv X aM σ H s)(g:oV H a y o)(ry:RelV y u)(h:∀s',Inv X aM σ H s'->Q (.bool o.isSome) s'):
 wpAny (model X.prog X.w) A (compareOp .In u<|.ref a) Q E s:=by
 rcases g with⟨kvs,k,e,c,l⟩ |⟨kvs,k,b,e,c,f,l⟩
 ·subst c;obtain⟨z,hd,vs,rel,d⟩:=ZL I.hok e;calc wpAny_in_of (XR ry) hd d.mapOf ?_;rw[←(rel.val k).isSome_eq,←l];exact h _<|I.tok _
 ·subst c;cases (show u=Value.ref b from ry);obtain⟨z,hd,xs,rel,d⟩:=JA I.hok e;calc wpAny_in_heap (eI hu) (vC I.hok f) hd d ?_;let q:=(rel.val k).isSome_eq;rw[nI]at q;rw[←q,←l];exact h _<|I.tok _
theorem iy(hu:A.units+1<cLine)(I:Inv X aM σ H s)(g:oV H a y o)(ry:RelV y u)(h:∀s',Inv X aM σ H s'->Q (.bool<|!o.isSome) s'):
 wpAny (model X.prog X.w) A (compareOp .NotIn u<|.ref a) Q E s:=by
 rcases g with⟨kvs,k,e,c,l⟩ |⟨kvs,k,b,e,c,f,l⟩
 ·subst c;obtain⟨z,hd,vs,rel,d⟩:=ZL I.hok e;calc wpAny_notIn_of (XR ry) hd d.mapOf ?_;rw[←(rel.val k).isSome_eq,←l];exact h _<|I.tok _
 ·subst c;cases (show u=Value.ref b from ry);obtain⟨z,hd,xs,rel,d⟩:=JA I.hok e;calc wpAny_notIn_heap (eI hu) (vC I.hok f) hd d ?_;let q:=(rel.val k).isSome_eq;rw[nI]at q;rw[←q,←l];exact h _<|I.tok _
theorem kE{ob:HO}(I:Inv X aM σ H s)(mu:Mut (H a))(hs:Heap.SameBut a s.heap h')(he:∃q,h'.get? a=some q)(new:eZ X.prog X.w (upd H a ob) h' a ob):
 Inv X aM σ (upd H a ob) {s with heap:=h',toks:=t'}:=
 I.write (x:=a) (e:=a) mu (.inl rfl) (λb q hb z=>(hs.2 b hb).trans z) he new
theorem aj{kvs:List (eV×V)}{vs:List (eV×Value)}(z:kvs.length<=sizeLine)(hd:(a==sysModules)=false)(rel:KV kvs vs)(dd:h'.DictOf (zX P w) a vs):
 eZ P w H' h' a (.dK kvs):=#[z,hd,vs,rel,dd]
theorem NK{Q:Unit->Shared->Prop}(hu:A.units+1<cLine)(I:Inv X aM σ H s)(g:tF H a y v H')(ry:RelV y u)(rv:RelV v r)(h:∀s',Inv X aM σ H' s'->Q Unit.unit s'):
 wpAny (model X.prog X.w) A (setItem (.ref a) u r) Q E s:=by
 rcases g with⟨kvs,k,e,f,l,eH⟩ |⟨kvs,k,b,e,f,j,l,eH⟩
 ·subst f eH;obtain⟨z,hd,vs,rel,i⟩:=dk_of I.hok e;let hz:vs.length<=sizeLine:=by rw[←rel.length];exact z
  let hl:(qJ kvs k v).length<=sizeLine:=by have :=vA kvs k v;lia
  refine wpAny_setItem_pairs (hsz:=hz) (XR ry) i λh' d hs=>h _ ?_
  let he:∃q,h'.get? a=some q:=let ⟨q,_,_,hq,_⟩:=d;#[q,hq];exact kE I (by rw[e];calc True.intro) hs he<|aj hl hd (rel.put k rv) d
 ·subst f eH;cases (show u=Value.ref b from ry);obtain⟨z,hd,xs,rel,i⟩:=ly I.hok e;let hz:xs.length<=sizeLine:=by rw[←fA rel];exact z
  let hl:(qJ kvs k v).length<=sizeLine:=by have :=vA kvs k v;lia
  refine wpAny_setItem_heap (hsz:=hz) (eI hu) (vC I.hok j) i λh' d hs=>h _ ?_
  obtain⟨q,es,ep,hq,h2,n,o,_,p⟩:=d;calc kE I (by rw[e];calc True.intro) hs #[q,hq] #[hl,hd,_,(rel.put k j rv).keeps λc ys m=>?_,q,es,ep,hq,h2,n,o,p];rw[zG<|jU m e λz=>nomatch z];exact m
end
section
variable {kvs:List (eV×V)} {k:eV}
end
def uq(i:Expr):Prop:=∀ov iv,subscripted i false ov iv=operate [ov,iv] (getItem ov iv)
theorem HK{env:Env}{value slice:Expr}{pos:Pos}{id:String}
 (hl:typeLookup (.type T) "__getitem__"=pure (some<|.builtin id)) (hs:uq slice)
 (h:wpAny (model prog w) A (eval value env) (λo s₁=>wpAny (model prog w) A (eval slice env) (λi s₂=>s₂.TypeIs o T/\wpAny (model prog w) A (getItem o i) Q E s₂) E s₁) E s):
 wpAny (model prog w) A (eval (.Subscript value slice pos) env) Q E s:=by
 calc Subscript_ (iU h (λo s₁ h₁=>iU h₁ (λi s₂ h₂=>?_) λ_ _ x=>x) λ_ _ x=>x);obtain⟨a,h₂⟩:=h₂;unfold subscriptTail;calc aE ?_;rw[getitemInPython_of_ne a.not_modules];calc aE<|wpAny_specialOf a hl ?_;let fin:wpAny (model prog w) A (subscripted slice false o i) (λr s₃=>wpAny (model prog w) A (letTemporaryGo value o r >>= λ_=>pure r) Q E s₃) E s₂:=by
  rw[hs o i];exact wpAny_operating (iU h₂ (λr s₃ h₃=>aE<|wpAny_letTemporaryGo<|aJ h₃) λ_ _ x=>x)
 first
  |exact aJ<|aE fin
  |exact aE<|aJ<|aE fin
  |exact aE fin
theorem CL{o:Option V}(I:Inv X aM σ H s)(g:oV H a y o):s.TypeIs (.ref a) "dict":=by
 rcases g with⟨kvs,k,e,_,_⟩ |⟨kvs,k,b,e,_,_,_⟩
 ·obtain⟨_,_,vs,_,c⟩:=ZL I.hok e;exact c.typeIs
 ·obtain⟨_,_,xs,_,c⟩:=JA I.hok e;exact c.typeIs
def tDGet(td ty:TE):TE:=λσ H Q=>td σ H λx H1=>ty σ H1 λy H2=>oI x λa=>∃v,oV H2 a y (some v)/\Q v H2
def EG(ty td:TE):TE:=λσ H Q=>ty σ H λy H1=>td σ H1 λx H2=>oI x λa=>∃o,oV H2 a y o/\Q (.bl o.isSome) H2
def UI(ty td:TE):TE:=λσ H Q=>ty σ H λy H1=>td σ H1 λx H2=>oI x λa=>∃o,oV H2 a y o/\Q (.bl<|!o.isSome) H2
def AI(td ty tv:TE):TS:=λD σ H=>tv σ H λv H1=>td σ H1 λx H2=>ty σ H2 λy H3=>oI x λa=>∃H4,tF H3 a y v H4/\D.nx σ H4
section
variable {i value:Expr} {pos tpos:Pos} {td ty tv:TE}
theorem VB(hu:X.A.units+1<cLine)(ho:PE X o td)(hi:PE X i ty)(hs:uq i):PE X (.Subscript o i pos) (tDGet td ty):=by
 intro aM s σ H Q I h;calc HK mj.lookup hs (eK (ho aM s σ H _ I h) λu s1 ⟨x,H1,e,f,j⟩=>eK (hi aM s1 σ H1 _ e j) λm s2 ⟨y,H2,d,k,b⟩=>?_);replace b:=xK b;obtain⟨a,rfl,v,g,b⟩:=b;obtain rfl:u=Value.ref a:=f;exact#[CL d g,NL hu d g k λn p l c=>#[v,H2,l,c,b]]
theorem XC(hu:X.A.units+1<cLine)(hi:PE X i ty)(ho:PE X o td):PC X .In i o (EG ty td):=by
 intro aM s σ H Q I h;refine eK (hi aM s σ H _ I h) λm s1 ⟨y,H1,c,d,e⟩=>eK (ho aM s1 σ H1 _ c e) λu s2 ⟨x,H2,f,j,b⟩=>?_
 replace b:=xK b;obtain⟨a,rfl,k,g,b⟩:=b;obtain rfl:u=Value.ref a:=j;exact d_in hu f g d λn l=>#[.bl k.isSome,H2,l,rfl,b]
theorem QH(hu:X.A.units+1<cLine)(hi:PE X i ty)(ho:PE X o td):PC X .NotIn i o (UI ty td):=by
 intro aM s σ H Q I h;refine eK (hi aM s σ H _ I h) λm s1 ⟨y,H1,c,d,e⟩=>eK (ho aM s1 σ H1 _ c e) λu s2 ⟨x,H2,f,j,b⟩=>?_
 replace b:=xK b;obtain⟨a,rfl,k,g,b⟩:=b;obtain rfl:u=Value.ref a:=j;exact iy hu f g d λn l=>#[.bl<|!k.isSome,H2,l,rfl,b]
theorem ZY(hu:X.A.units+1<cLine)(ho:PE X o td)(hi:PE X i ty)(hv:PE X value tv)(hs:swapsWith value (some<|.Subscript o i pos') pos.line X.env=pure false):
 PS X (.Assign [.Subscript o i pos'] value pos) (AI td ty tv):=by
 intro aM s σ H D I h;calc wpAny_Assign_Subscript (eK (hv aM s σ H _ I h) λr s1 ⟨v,H1,c,rv,d⟩=>eK (ho aM s1 σ H1 _ c d) λu s2 ⟨x,H2,e,f,j⟩=>eK (hi aM s2 σ H2 _ e j) λp q ⟨y,t,k,l,b⟩=>?_) hs;replace b:=xK b;obtain⟨a,rfl,m,g,b⟩:=b;obtain rfl:u=Value.ref a:=f;exact NK hu k g l rv λw n=>#[σ,m,n,b]
end
theorem ak(h:Heap)(hb:sysModules<h.objs.size):eZ P w H (h.push {cls:=.type "dict",data:=.dict (List.toArray [])}) h.objs.size (.dK []):=
 #[cS _,cG.mpr<|cE<|bK hb,[],.nil,Heap.DictOf.new h]
theorem ai(h:Heap)(hb:sysModules<h.objs.size):eZ P w H (h.push {cls:=.type "dict",data:=.dict (List.toArray [])}) h.objs.size (.dT []):=
 #[cS _,cG.mpr<|cE<|bK hb,[],.nil,_,(List.toArray []),0,bF _ rfl,#[rfl,rfl,rfl],rfl,rfl,jo]
def nc:TE:=λ_ H Q=>∀p,H p=none->Q (.ref p) (upd H p<|.dK [])
def EF:TE:=λ_ H Q=>∀p,H p=none->Q (.ref p) (upd H p<|.dT [])
section
variable {pos:Pos}
theorem XB:PE X (.Dict [] [] pos) nc:=λaM s σ H Q I h=>
 wpAny_Dict_empty #[.ref s.heap.objs.size,_,I.laid (a:=s.heap.objs.size) (o:=.dK []) (t':=s.toks) (λ_ _ q=>aO _ q) (aG _)<|ak s.heap I.big,rfl,h _<|I.hok.fresh<|aG _]
theorem AW:PE X (.Dict [] [] pos) EF:=λaM s σ H Q I h=>
 wpAny_Dict_empty #[.ref s.heap.objs.size,_,I.laid (a:=s.heap.objs.size) (o:=.dT []) (t':=s.toks) (λ_ _ q=>aO _ q) (aG _)<|ai s.heap I.big,rfl,h _<|I.hok.fresh<|aG _]
end
structure M1(X:Cx)(o:Expr)(m:Str)(lM:Pos)(e:Expr)(hG:Pos):Prop where
 base:attributeBase o m X.env (eval o X.env)=eval o X.env
 few:((backTo hG<|starEach [e] X.env).all (λx=>!x.1)&&(backToKw hG<|keywordEach [] X.env).all (λx=>x.1.isSome)
  &&decide (([e]:List Expr).length+([]:List Keyword).length+(if([]:List Keyword).isEmpty then 0 else 1)<30))=true
 line:(lM.endLine==hG.line)=true
 trees:backTo hG (starEach [e] X.env)=[(false,eval e X.env)]
structure M2(X:Cx)(o:Expr)(m:Str)(lM:Pos)(e f:Expr)(hG:Pos):Prop where
 base:attributeBase o m X.env (eval o X.env)=eval o X.env
 few:((backTo hG<|starEach [e,f] X.env).all (λx=>!x.1)&&(backToKw hG<|keywordEach [] X.env).all (λx=>x.1.isSome)
  &&decide (([e,f]:List Expr).length+([]:List Keyword).length+(if([]:List Keyword).isEmpty then 0 else 1)<30))=true
 line:(lM.endLine==hG.line)=true
 trees:backTo hG (starEach [e,f] X.env)=[(false,eval e X.env),(false,eval f X.env)]
def IsD(H:Hp)(a:Addr):Prop:=(∃kvs,Rd H a<|.dK kvs)\/∃kvs,Rd H a<|.dT kvs
theorem WQ(I:Inv X aM σ H s)(d:IsD H a):
 s.TypeIs (.ref a) "dict"/\(∀b,Value.ref a=.ref b->∃ob,s.heap.get? b=some ob/\ob.dict=none)/\(a==sysModules)=false:=by
 rcases d with⟨kvs,e⟩ |⟨kvs,e⟩
 ·obtain⟨_,hd,vs,_,c⟩:=ZL I.hok e;calc#[c.typeIs,λb q=>?_,hd];cases q;obtain⟨ob,_,_,h1,h2,_⟩:=c;exact#[ob,h1,h2.2.1]
 ·obtain⟨_,hd,xs,_,c⟩:=JA I.hok e;calc#[c.typeIs,λb q=>?_,hd];cases q;obtain⟨ob,_,_,h1,h2,_⟩:=c;exact#[ob,h1,h2.2.1]
section
variable {d:V} {r:Value} {o:Option V}
theorem ue(hu:A.units+1<cLine)(I:Inv X aM σ H s)(g:oV H a y o)(ry:RelV y u)(rd:RelV d r)(h:∀w' s',Inv X aM σ H s'->RelV (o.getD d) w'->Q w' s'):
 wpAny (model X.prog X.w) A (call (.builtin "dict.get") [.ref a,u,r]) Q E s:=by
 rcases g with⟨kvs,k,e,f,l⟩ |⟨kvs,k,b,e,f,i,l⟩
 ·subst f;obtain⟨z,hd,vs,rel,c⟩:=ZL I.hok e;calc tH iQ c.typeIs rR (F.args_dict_get_3 _ _ _) (meets_dict_get_default (zX X.prog X.w) a (XR ry) hd r) #[_,c.mapOf,h _ _ (I.tok _) ?_];rw[l];exact(rel.val k).getD rd
 ·subst f;cases (show u=Value.ref b from ry);obtain⟨z,hd,xs,rel,c⟩:=JA I.hok e;calc tH iQ c.typeIs rR (F.args_dict_get_3 _ _ _) (meetsH_dict_get_default (tupleKind<|zX X.prog X.w) a b hd r) #[eI hu,k,xs,vC I.hok i,c,h _ _ (I.tok _) ?_];rw[l];exact(rel.val k).getD rd
end
def PD(td ty tx:TE):TE:=λσ H Q=>td σ H λx H1=>oI x λa=>IsD H1 a/\ty σ H1 λy H2=>tx σ H2 λz H3=>∃o,oV H3 a y o/\Q (o.getD z) H3
section
variable {f:Expr} {hG:Pos} {td ty tx:TE}
theorem RZ(hu:X.A.units+1<cLine)(ho:PE X o td)(he:PE X e ty)(hf:PE X f tx)(m:M2 X o "get" lM e f hG):PE X (.Call (.Attribute o "get" lM) [e,f] [] hG) (PD td ty tx):=by
 intro aM s σ H Q I h;calc ji m.base m.few m.line rO iQ F.type_dict_get (eK (ho aM s σ H _ I h) λu s1 ⟨x,H1,i,j,b⟩=>?_);replace b:=xK b;obtain⟨a,rfl,d,b⟩:=b;obtain rfl:u=Value.ref a:=j;obtain⟨k,l,_⟩:=WQ i d;calc#[k,l,?_];rw[m.trees];refine iV rfl (rA (fR (eK (he aM s1 σ H1 _ i b) λC s2 ⟨y,H2,n,p,q⟩=>
  fR (eK (hf aM s2 σ H2 _ n q) λD E ⟨z,r,t,v,G,g,w⟩=>lO ?_))))
 exact ue hu t g p v λJ K B c=>#[_,r,B,c,w]
end
section
variable {kvs:List (eV×V)}
end
end L2
namespace Att
open PySem PySem.W PySem.Calls PyProof.Rows
theorem ZS{P:Params}{h:Heap}:∀(ns:List Int)(vs:List Value),WellAll P h vs (ns.map WData.int)->IntsAre vs ns:=by
 intro ns
 induction ns with
 |nil=>
  intro vs w;rw[pU]at w;cases w;exact .nil
 |cons n ns c=>
  intro vs w;rw[bY]at w;cases w with
  |cons a b=>
   cases a;exact .cons _ _<|c _ b
theorem LW{l:OpenLaw}{n:Nat}(hn:l.most=some n){P:Params}{h:Heap}{args:List WData}{vals:List Value}
 (hpre:l.row.toRowW.claim.pre args=true) (hwl:WellAll P h vals args):
 ∃a vs ns,vals=[Value.ref a]/\args=[WData.list<|ns.map WData.int]/\h.get? a=some {cls:=.type "list",data:=.seq vs.toArray}/\IntsAre vs ns/\ns.length<=n:=by
 let f:WShape.hasAll [] args [.list .int]=true:=(pre_splitW hpre).1;let hc:l.pre.holds [] {args:=args}=true:=(pre_splitW hpre).2;obtain⟨d,r,rfl,h1,h2⟩:=hasAllW_cons f;obtain rfl:=hasAllW_nil h2;obtain⟨xs,rfl,g⟩:=hasW_list h1;obtain⟨ns,rfl⟩:=items_int g;let eQ:ns.length<=n:=by
  unfold OpenLaw.pre at hc;let c:(WTm.not<|.lt (.lit<|.int (n:Int))<|.len<|.arg 0).holds [] {args:=[.list<|ns.map .int]}=true:=by
   let c:=(holds_andW hc).1;rw[hn]at c;exact c
  let e:=condW_of c<|w_not<|w_lt w_lit<|w_len_list<|w_arg rfl;rw[aC]at e;refine Nat.le_of_not_lt λq=>?_
  let i:(n:Int)<((ns.length:Nat):Int):=by lia
  first
   |(rw[cN i]at e;calc absurd e (by decide))
   |(simp at e;lia)
 cases hwl with
 |cons j k=>
  cases k;cases j with
  |list m b=>exact#[_,_,ns,rfl,rfl,m,ZS ns _ b,eQ]
theorem MG(l:OpenLaw)(args:List WData):l.row.toRowW.claim.post args (.bool true) args=true:=
 postW_of (r:=l.row.toRowW) (X:=(true==true))
  (show WShape.has [] (.bool true) .bool=true by first |rfl |decide |simp[WShape.has,WShape.arms,WShape.armsAll])
  (show(WTm.eq .res<|.lit<|.bool true).value [] {args:=args,res:=some (.bool true),after:=args}=some (.bool<|true==true)from w_eq_bool (w_res rfl) w_lit) rfl
theorem attach_call{l:OpenLaw}{n:Nat}{q:Program}{loose:List Str}{XP:(Str->Option Value)->Heap->Prop}{YP:World->Heap->Prop}{d:DefRec}
 (hn:l.most=some n) (hdf:d.params.defaults=[])
 (call:∀(w:World)(s₀ s₁:Shared)(mg mb:Str->Option Value)(fa:Addr)(o:Obj)(pm cd doc:Value)(a:Addr)(vs:List Value)(ns:List Int),
  Ground q loose [] XP w s₀ mg mb s₁.heap->YP w s₁.heap->
  s₁.heap.get? fa=some o->o.data=.func (docDef d.name d.params d.body d.scope pm cd doc)->s₁.heap.CodeRec cd d.name->mg d.name=some (.ref fa)->
  s₁.heap.get? a=some {cls:=.type "list",data:=.seq vs.toArray}->IntsAre vs ns->ns.length<=n->s₁.gens= (List.toArray [])->
  codeAny (model l.prog w) callerA (.call (.ref fa) #[[.ref a],[]]) (λr s'=>r=.ok (.ret<|.bool true)/\OldK s₁.heap s'.heap/\s'.os=s₁.os/\AllBare s'.gens) s₁):
 WalkO q loose XP YP l.row.toRowW d [] (λf vs=>PySem.call f vs):=by
 intro w s₀ s₁ mg mb G Y fa o pm cd doc dV kV m hd g j h p args vals as c k s i t;obtain rfl:dV=.none:=Dflts.none j hdf;obtain rfl:kV=.none:=Dflts.noKw j;obtain⟨a,vs,ns,rfl,rfl,e,b,eQ⟩:=LW hn c i;calc enter_call (oY (call w s₀ s₁ mg mb fa o pm cd doc a vs ns G Y m (fd_plain hd) g h e b eQ p) λr s' hq=>?_);obtain⟨rfl,h2,u,v⟩:=hq;exact#[.inl #[.bool true,.bool true,[],rfl,λ_=>rfl,.bool true,MG l _,λ_=>#[List.Pairwise.nil,λ_ hm=>(nomatch hm)]],h2,u,v]
section
variable {prog:Program} {w:World} {A:Around} {E:Value->Shared->Prop} {s:Shared} {K:Frag}
end
end Att
namespace L2
open PySem PySem.Spec PyProof.Rows
variable {a d f it l r:Addr} {A:Around} {es:Array (Int×Value)} {G:Array GenState->Array GenState->Prop} {CX:mh} {X:Cx} {D:DJ} {e iter o tg:Expr} {fd:FuncData} {base h h':Heap} {H H':Hp} {aM:List (Addr×Obj)} {fp wr:List Addr} {ds:List Dt} {outer:List Env} {ifs:List Expr} {js:List Nat} {N ns ps ys:List Str} {ts:List Tm} {vs xs:List V} {its its':List Value} {M:Model} {ep i j n:Nat} {tc:Option TT} {lM pos':Pos} {P prog:Program} {K:W.Frag} {R:Result->Shared->Prop} {s:Shared} {sp:Sp} {σ:St} {qual:Str} {mg:Str->Option Value} {T:String} {ta te:TE} {wi:TI} {tb:TS} {α:Type} {v:V} {u:Value} {RR:Value->Addr->Result->Shared->Prop} {E Q:Value->Shared->Prop} {w:World}
local macro_rules | `(()) => `(by lia)
theorem QC:∀{vs:List Value}{ns:List Int},IntsAre vs ns->cY (ns.map V.int) vs
 |_,_,.nil=>.nil
 |_,_,.cons n t h=>.cons #[t,rfl]<|QC h
def uo(H:Hp):Prop:=∀b,H b=none\/∃o xs,H b=some (.frz o<|.lst xs)
theorem WL{mb:Str->Option Value}{k:Nat}{fa:Addr}{x:Str}{s₁:Shared}{vs:List Value}{ns:List Int}
 (KX:K.In s₁.heap) (hns:s₁.heap.Ns mainGlobals mg) (hb:s₁.heap.Ns builtinsNs mb) (hbb:∀x:Str,x≠"__name__"->mb x=bootBuiltins x) (hlim:s₁.heap.NoLimit) (hg:s₁.gens= (List.toArray []))
 (ha:s₁.heap.get? a=some {cls:=.type "list",data:=.seq vs.toArray}) (hi:IntsAre vs ns) (hl:ns.length<=sizeLine) (hr:gK k callerA)
 (F:∀base:Heap,K.In base->base.Ns mainGlobals mg->cZ P w K mg base CX k fa fd [x] sp) (hbind:∀(s:Shared)(u:Value),BindsTo s fd #[[u],[]] [(x,u)])
 (hsp:∀H:Hp,uo H->cO K H a (ns.map V.int)->sp [.ref a] H (λv _=>v=.bl true) λ_ _ _=>False)
 (hCX:∀H e s',CX [] H s₁ (λ_ _ _=>False) e s'->False):
 codeAny (model P w) callerA (.call (.ref fa) #[[.ref a],[]]) (λr s'=>r=.ok (.ret<|.bool true)/\OldK s₁.heap s'.heap/\s'.os=s₁.os/\AllBare s'.gens) s₁:=by
 let rv:=QC hi;let lenV:=hi.length;let core:∀H:Hp,uo H->cO K H a (ns.map V.int)->mV P w H s₁.heap->(∀b,H b≠none->b=a)->(H a≠none->K.lookup a=none)->
  codeAny (model P w) callerA (.call (.ref fa) #[[.ref a],[]]) (λr s'=>r=.ok (.ret<|.bool true)/\OldK s₁.heap s'.heap/\s'.os=s₁.os/\AllBare s'.gens) s₁:=by
  intro H i p hok j t;let base_of:∀{b:Addr}{o:Obj},s₁.heap.get? b=some o->H b=none->(VO s₁.heap H).get? b=some o:=λe n=>WT e n
  let noA:∀{b:Addr}{o:Obj}{es:Array DictEntry}{ep:Nat},s₁.heap.get? b=some o->o.data=.dict es ep->H b=none:=λ{b o es ep} e d=>by
   cases q:H b with
   |none=>rfl
   |some u=>
    let g:b=a:=j b (by rw[q];simp);subst g;rw[ha]at e;cases e;let y:Data.seq vs.toArray _=Data.dict es ep:=d;cases y
  let nsK:∀{b:Addr}{m:Str->Option Value},s₁.heap.Ns b m->(VO s₁.heap H).Ns b m:=λ{b m} ⟨o,es,ep,e,d,r⟩=>#[o,es,ep,base_of e<|noA e d,d,r]
  let c:K.In (VO s₁.heap H):=λb o e=>base_of (KX b o e) (by
   cases q:H b with
   |none=>rfl
   |some u=>
    let g:b=a:=j b (by rw[q];simp);subst g;rw[t (by rw[q];simp)]at e;cases e)
  let A:Mod K mg (VO s₁.heap H):=#[c,nsK hns,#[mb,nsK hb,hbb],let ⟨B,h1,h2⟩:=hlim;#[B,nsK h1,h2]]
  let C:GS P w K mg (VO s₁.heap H) callerA [] s₁ H:=#[rfl,A,λb o e=>gh e,Nat.le_of_eq<|NG _ _,trivial,λb hb=>absurd (show b∈([]:List Addr)from hb) (by simp),hok,.of_eq hg]
  refine oY ((F _ c<|nsK hns).run callerA [] s₁ H #[[.ref a],[]] [.ref a] [.ref a] _ _ hr C (hbind s₁<|.ref a) (.cons rfl .nil) (hsp H i p)) λr s' h=>?_
  cases r with
  |error e=>exact(hCX H e s' h).elim
  |ok D=>
   cases D with
   |next=>exact False.elim h
   |brk=>exact False.elim h
   |cont=>exact False.elim h
   |ret u=>
    obtain⟨v,H',os,bare,un,f,E,q⟩:=h;let G:v=.bl true:=q;subst G;obtain rfl:u=Value.bool true:=E;calc#[rfl,OldK.of_keep λb o e=>?_,os,bare];cases q:H b with
    |none=>exact un.keep b o e q (by intro z;calc absurd (show b∈([]:List Addr)from z) (by simp)) (by simp)
    |some u=>
     rcases i b with z |⟨I,xs,z⟩
     ·rw[q]at z;cases z
     ·let J:=un.frzs b I _ z;obtain⟨l,_⟩:=hok b _ z;obtain⟨L,_⟩:=f b _ J;rw[e]at l;cases l;exact L
 cases hk:K.lookup a with
 |some o=>
  let e:=KX a o hk;rw[ha]at e;cases e;refine core (λ_=>none) (λ_=>.inl rfl) (.inr #[_,vs.toArray,_,hk,rfl,rfl,rfl,by rw[aR,lenV];exact hl,by simpa using rv]) (λb u z=>by let z':(none:Option HO)=some u:=z;cases z') (λb z=>absurd rfl z) λz=>absurd rfl z
 |none=>
  refine core (λb=>if b=a then some (.frz {cls:=.type "list",data:=.seq vs.toArray} (.lst<|ns.map V.int))else none) (λb=>?_) (.inl<|.inr #[{cls:=.type "list",data:=.seq vs.toArray},aT rfl]) (λb u z=>?_) (λb z=>?_) λ_=>hk
  ·by_cases hb:b=a
   ·exact .inr #[_,_,aT hb]
   ·exact .inl<|aH hb
  ·by_cases hb:b=a
   ·let z':=(aT hb).symm.trans z;cases z';subst hb;exact#[ha,by rw[aC];exact hl,vs,_,rv,ha]
   ·let z':=(aH hb).symm.trans z;cases z'
  ·by_cases hb:b=a
   ·exact hb
   ·exact absurd (aH hb) z
theorem walk_of{l:W.OpenLaw}{k:Nat}{q:Program}{loose:List Str}{XP:(Str->Option Value)->Heap->Prop}{YP:World->Heap->Prop}{d:DefRec}{K:Params->W.Frag}{CX:World->mh}{sp:World->Sp}{x:Str}
 (hn:l.most=some n) (hn2:n<=sizeLine) (hdf:d.params.defaults=[]) (hr:gK k callerA)
 (hY:∀(w:World)(h:Heap),YP w h->(K w.params).In h)
 (F:∀(w:World)(mg:Str->Option Value)(fa:Addr)(h:Heap),(K w.params).In h->h.Ns mainGlobals mg->mg d.name=some (.ref fa)->
  ∃fd:FuncData,(∀(s:Shared) (u:Value),BindsTo s fd #[[u],[]] [(x,u)])/\
   ∀base:Heap,(K w.params).In base->base.Ns mainGlobals mg->cZ l.prog w (K w.params) mg base (CX w) k fa fd [x] (sp w))
 (hsp:∀(w:World)(H:Hp)(a:Addr)(ns:List Int),ns.length<=n->uo H->cO (K w.params) H a (ns.map V.int)->sp w [.ref a] H (λv _=>v=.bl true) λ_ _ _=>False)
 (hCX:∀(w:World)(H:Hp)(s:Shared)(e:Value)(s':Shared),CX w [] H s (λ_ _ _=>False) e s'->False):
 W.WalkO q loose XP YP l.row.toRowW d [] (λf vs=>PySem.call f vs):=by
 refine Att.attach_call hn hdf λw s₀ s₁ mg mb fa o pm z doc a vs ns G Y A hd m j i c eQ p=>?_
 let KX:=hY w _ Y;obtain⟨fd,hb,r⟩:=F w mg fa _ KX G.T.g j;exact WL KX G.T.g G.T.b G.T.builtins G.T.nolimit p i c (bX eQ hn2) hr r hb (λH t y=>hsp w H a ns eQ t y) λH e s'=>hCX w H s₁ e s'
noncomputable def qS(s:Stmt)(j:Nat):Stmt:=match s with
 | .ClassDef _ _ _ body _ _ _ _ _ _ _=>body.getD j<|.Pass #[0,0,0,0]
 |_=>.Pass #[0,0,0,0]
noncomputable def xQ(s:Stmt):Arguments:=match s with
 | .FunctionDef _ a _ _ _ _ _ _ _ _=>a
 |_=>{posonlyargs:=[],args:=[],vararg:=none,kwonlyargs:=[],kw_defaults:=[],kwarg:=none,defaults:=[]}
noncomputable def yX(s:Stmt):List Stmt:=match s with
 | .FunctionDef _ _ b _ _ _ _ _ _ _=>b
 |_=>[]
noncomputable def zF(s:Stmt):Scope:=match s with
 | .FunctionDef _ _ _ _ _ _ sc _ _ _=>sc
 |_=>{kind:=.function,names:=[],isGenerator:=false,isCoroutine:=false}
abbrev fL:mh:=λ_ _ _ _ _ _=>False
abbrev E0:XK:=λ_ _ _=>False
theorem IJ:ZB fL X E0:=λ_ _ _ _ _ _ _ h=>h.elim
structure fT(K:W.Frag)(x qual:Str)(st:Stmt)(f:Addr)(fd:FuncData):Prop where
 ex:∃(oc:Value)(od:Option Addr)(kV doc pm:Value)(an:Option Addr)(eO ct:Value)(osl:Array (Option Value)),
  fd=W.fnOf x qual (xQ st) (yX st) (zF st) .none kV doc pm an eO ct/\K.lookup f=some #[oc,od,.func fd,osl]/\W.codeIn K eO qual=true
 kp:W.keepIn K (.ref f)=true
theorem fT.ok{x:Str}{st:Stmt}{k:Nat}(F:fT K x qual st f fd)(S:bV N ps (zF st))(len:∀vs H Q E,sp vs H Q E->vs.length=ps.length)
 (hbody:∀(eO:Value)(A:Around)(outer:List Env)(s:Shared)(H:Hp)(vs:List V)(Q:VK)(E:XK),gK k (A.deeper<|envOfC qual (zF st) s.heap.objs.size f eO)->sp vs H Q E->
  ∃t,DS (JC fL P w K mg base N qual (zF st) f eO A outer s H E).nox (yX st) t/\t {nx:=λ_ H'=>Q .non H',rt:=Q} (uT N vs) H):cZ P w K mg base fL (k+1) f fd ps sp:=by
 obtain⟨oc,od,kV,doc,pm,an,eO,ct,osl,rfl,c,a⟩:=F.ex;refine fn_of c a S len λA outer s H vs Q E hr b=>?_
 obtain⟨t,h,q⟩:=hbody eO A outer s H vs Q E hr b;exact#[t,h.nox,q]
theorem fT.binds{x:Str}{st:Stmt}(F:fT K x qual st f fd)
 (h:∀(kV doc pm:Value)(an:Option Addr)(eO ct:Value)(us:List Value),us.length=ps.length->bindArgs (W.fnOf x qual (xQ st) (yX st) (zF st) .none kV doc pm an eO ct) #[us,[]]=pure (ps.zip us)):Binds K fd ps []:=by
 obtain⟨oc,od,kV,doc,pm,an,eO,ct,osl,rfl,b,a⟩:=F.ex;exact .all<|h kV doc pm an eO ct
theorem GF{x:Str}{st:Stmt}{oc:Value}{od an:Option Addr}{osl:Array (Option Value)}{kV doc pm eO ct:Value}(l:K.lookup f=some #[oc,od,.func<|W.fnOf x qual (xQ st) (yX st) (zF st) .none kV doc pm an eO ct,osl])
 (c:W.codeIn K eO qual=true) (k:W.keepIn K (.ref f)=true):fT K x qual st f (W.fnOf x qual (xQ st) (yX st) (zF st) .none kV doc pm an eO ct):=#[#[oc,od,kV,doc,pm,an,eO,ct,osl,rfl,l,c],k]
theorem xW{k:Nat}(hr:gK k A):A.units+1<cLine:=eE (Nat.add_le_add_left (by decide:1<=64) _) hr.units
theorem jD(h:n<=1000):n<sizeLine:=eE h (by decide)
theorem pv(i:Nat){x:Str}{pos:Pos}(hN:X.N[i]?=some x:=by rfl)(hv:Vis X.env.scope x:=by first |exact Or.inl rfl |exact Or.inr (Or.inl rfl) |exact Or.inr<|Or.inr rfl)(hd:(x==("__debug__":Str))=false:=by decide)
 (hcd:(x==("__classdict__":Str))=false:=by decide):PE X (.Name x pos) (tVar i):=RT hN hv hd hcd
theorem iteF{A B:Prop}(h:B):if false=true then A else B:=by
 rw[aH aY];exact h
theorem sf{A B:Prop}(h:A):if true=true then A else B:=by
 rw[aT rfl];exact h
def aX(H H':Hp):Prop:=∀b o,H b=some o->H' b=some o
theorem aX.refl(H:Hp):aX H H:=λ_ _ h=>h
theorem aX.trans{H1 H2:Hp}(a:aX H H1)(b:aX H1 H2):aX H H2:=λc o h=>b c o<|a c o h
theorem aX.free(e:aX H H')(h:H' l=Option.none):H l=Option.none:=by
 cases q:H l with
 |none=>rfl
 |some o=>
  rw[e l o q]at h;cases h
theorem aX.seq(e:aX H H')(h:cO K H a xs):cO K H' a xs:=by
 rcases h with(h |⟨o,h⟩) |h
 ·exact .inl<|.inl<|e _ _ h
 ·exact .inl<|.inr #[o,e _ _ h]
 ·exact .inr h
section
variable {κ:Type} [DecidableEq κ]
end
noncomputable def xC(env:Env):List (Str×NameKind)->List (Str×Addr)->List (Str×Addr)
 |[],cs=>cs
 |(n,k)::r,cs=>if(k==NameKind.free)=true then xC env r ((n,(env.cells.lookup n).getD 0)::cs)else xC env r cs
theorem qX{scope:Scope}{env:Env}(h:∀x∈scope.names,x.2=.free->∃c,env.cells.lookup x.1=some c):closureFor scope env=pure (xC env scope.names []):=by
 unfold closureFor;let go:∀(l:List (Str×NameKind))(cs:List (Str×Addr)),(∀x∈l,x.2=.free->∃c,env.cells.lookup x.1=some c)->
  (forIn l cs λ(x:Str×NameKind) (r:List (Str×Addr))=>(match x with
   |(name,kind)=>if(kind==NameKind.free)=true then do let a ←cellOf env name;pure (ForInStep.yield ((name,a)::r))else pure (ForInStep.yield r):Sem (ForInStep<|List<|Str×Addr)))=(pure (xC env l cs):Sem (List<|Str×Addr)):=by
  intro l
  induction l with
  |nil=>intro cs _;rfl
  |cons x r b=>
   intro cs hl;obtain⟨n,k⟩:=x;rw[List.forIn_cons];by_cases hk:(k==NameKind.free)=true
   ·obtain⟨c,hc⟩:=hl (n,k) aV (by simpa using hk);let e:cellOf env n=pure c:=by unfold cellOf;rw[hc]
    simp only[hk,if_true,e,pure_bind];rw[b _ λy hy=>hl y<|aW _ hy];rw[xC,aT hk,hc];rfl
   ·simp only[hk,if_false,fH,pure_bind];rw[b _ λy hy=>hl y<|aW _ hy];rw[xC,aH hk]
 let q:=go scope.names [] h;simp only[pure_bind,bind_pure]at q⊢;exact q
theorem jZ{env:Env}{y:Str}{c:Addr}:∀(l:List (Str×NameKind))(cs:List (Str×Addr)),(∀x∈l,x.2=.free->∃c,env.cells.lookup x.1=some c)->
 (∀z d,cs.lookup z=some d->env.cells.lookup z=some d)->(xC env l cs).lookup y=some c->env.cells.lookup y=some c
 |[],cs,_,hc,e=>hc _ _ e
 |(n,k)::r,cs,h,hc,e=>by
  let hr:∀x∈r,x.2=.free->∃c,env.cells.lookup x.1=some c:=λx hx=>h x<|aW _ hx
  by_cases hk:(k==NameKind.free)=true
  ·rw[xC,aT hk]at e;calc jZ r _ hr (λz d a=>?_) e;obtain⟨j,f⟩:=h (n,k) aV (by simpa using hk);rw[bO]at a;cases hz:z==n with
   |true=>
    rw[hz]at a;let g:z=n:=eq_of_beq hz;subst g;let i:(env.cells.lookup z).getD 0=d:=cD a;let b:env.cells.lookup z=some j:=f;rw[b]at i⊢;exact cM some i
   |false=>rw[hz]at a;exact hc z d a
  ·rw[xC,aH hk]at e;exact jZ r cs hr hc e
theorem qB{env:Env}{y:Str}:∀(l:List (Str×NameKind))(cs:List (Str×Addr)),((y,NameKind.free)∈l\/∃c,cs.lookup y=some c)->∃c,(xC env l cs).lookup y=some c
 |[],cs,h=>h.elim (λz=>nomatch z) λz=>z
 |(n,k)::r,cs,h=>by
  by_cases hk:(k==NameKind.free)=true
  ·rw[xC,aT hk];calc qB r _ ?_;rcases h with h |⟨c,h⟩
   ·rcases bI.mp h with h |h
    ·cases h;exact .inr #[_,by rw[bO,dI]]
    ·exact .inl h
   ·cases hz:y==n with
    |true=>exact .inr #[_,by rw[bO,hz]]
    |false=>exact .inr #[c,by rw[bO,hz];calc h]
  ·rw[xC,aH hk];calc qB r _ ?_;rcases h with h |h
   ·rcases bI.mp h with h |h
    ·cases h;exact absurd rfl hk
    ·exact .inl h
   ·exact .inr h
theorem xN{env:Env}:∀{names:List (Str×NameKind)}{x:Str}{k':NameKind},
 (names.map λ(n,k)=>if(k==NameKind.free&&env.scope.kind==.function&&env.kindOf n==some .cell)then(n,NameKind.cell)else(n,k)).lookup x=some k'->
 names.lookup x=some k'\/(names.lookup x=some .free/\k'=.cell)
 |[],_,_,h=>by simp at h
 |(n,k)::r,x,k',h=>by
  let a:=@xN env r x k';let h:List.lookup x ((if(k==NameKind.free&&env.scope.kind==.function&&env.kindOf n==some .cell)=true then(n,NameKind.cell)else(n,k))::_)=some k':=h;rw[bO];by_cases hc:(k==NameKind.free&&env.scope.kind==.function&&env.kindOf n==some .cell)=true
  ·rw[aT hc,bO]at h;cases hx:x==n with
   |true=>
    rw[hx]at h;let b:NameKind.cell=k':=cD h;simp only[cC]at hc;exact .inr #[cM some<|eq_of_beq hc.1.1,b.symm]
   |false=>rw[hx]at h;exact a h
  ·rw[aH hc,bO]at h;cases hx:x==n with
   |true=>rw[hx]at h;exact .inl h
   |false=>rw[hx]at h;exact a h
theorem uF{env:Env}:∀{names:List (Str×NameKind)}{x:Str},names.lookup x=some .free->
 (names.map λ(n,k)=>if(k==NameKind.free&&env.scope.kind==.function&&env.kindOf n==some .cell)then(n,NameKind.cell)else(n,k)).lookup x=some .cell\/
 (names.map λ(n,k)=>if(k==NameKind.free&&env.scope.kind==.function&&env.kindOf n==some .cell)then(n,NameKind.cell)else(n,k)).lookup x=some .free
 |[],_,h=>by simp at h
 |(n,k)::r,x,h=>by
  let a:=@uF env r x;show List.lookup x ((if(k==NameKind.free&&env.scope.kind==.function&&env.kindOf n==some .cell)=true then(n,NameKind.cell)else(n,k))::_)=_\/List.lookup x ((if(k==NameKind.free&&env.scope.kind==.function&&env.kindOf n==some .cell)=true then(n,NameKind.cell)else(n,k))::_)=_;rw[bO]at h;by_cases hc:(k==NameKind.free&&env.scope.kind==.function&&env.kindOf n==some .cell)=true
  ·rw[aT hc,bO];cases hx:x==n with
   |true=>exact .inl rfl
   |false=>rw[hx]at h;exact a h
  ·rw[aH hc,bO];cases hx:x==n with
   |true=>rw[hx]at h;exact .inr h
   |false=>rw[hx]at h;exact a h
structure oU(xs ys:List Str)(scope fP:Scope):Prop where
 kind:scope.kind=.function
 nd:(xs++ys).Nodup
 own:∀x∈xs,scope.names.lookup x=some .local
 cap:∀y∈ys,scope.names.lookup y=some .free/\(fP.names.lookup y=some .cell\/fP.names.lookup y=some .free)
 nocell:∀y∈scope.names,y.2≠.cell
 names:∀y∈scope.names,y.2=.local->scope.names.lookup y.1=some .local
 free:∀y∈scope.names,y.2=.free->y.1∈ys
noncomputable def yH(X:Cx)(xs ys:List Str)(scope:Scope)(C:Addr)(s₀:Shared)(H₀:Hp)(fp:List Addr):Cx where
 prog:=X.prog
 w:=X.w
 K:=X.K
 mg:=X.mg
 base:=X.base
 A:=X.A
 N:=xs++ys
 s₀:=s₀
 H₀:=H₀
 env:=compEnvC scope (xC X.env scope.names []) C X.env
 outer:=X.stack
 stack:=X.stack
 ex:=fp
 fn:=λ_=>false
 calm:=X.calm
 pn:=[]
 xe:=λ_ _=>False
noncomputable def kT(xs:List Str)(js:List Nat)(σ:St):St:=xs.map (λ_=>none)++js.map λj=>(σ[j]?).join
def bf(J:It)(n:List Str)(js:List Nat)(g:TG)(tc:Option TT)(te:TE)(σ:St)(H1:Hp)(Q:VK):Prop:=∃W:Nat->Nat->List V->St->Hp->Prop,(∃m,W 0 m [] (kT n js σ) H1)/\∀i m ys σ1 H,W i m ys σ1 H->
 (J.stop i H/\∀p,H p=none->Q (.ref p) (upd H p<|.lst ys))\/
 (J.go i H/\ys.length<sizeLine/\∀x H',J.yld i H x H'->g x σ1 H' λσ2 H2=>match tc with
  |none=>te σ2 H2 λy H3=>∃m',m'<m/\W (i+1) m' (ys++[y]) σ2 H3
  |some c=>c σ2 H2 λb H3=>if b=true then te σ2 H3 λy H4=>∃m',m'<m/\W (i+1) m' (ys++[y]) σ2 H4 else∃m',m'<m/\W (i+1) m' ys σ2 H3)
def cy(n:List Str)(js:List Nat)(wi:TI)(g:TG)(tc:Option TT)(te:TE):TE:=λσ H Q=>wi σ H λJ H1=>bf J n js g tc te σ H1 Q
def LF(X:Cx)(ifs:List Expr)(tc:Option TT):Prop:=match ifs,tc with
 |[],none=>True
 |[c],some t=>PT X c t
 |_,_=>False
section
variable {xs:List Str} {scope:Scope} {C D:Addr}
def DL(X:Cx)(ys:List Str)(js:List Nat):Prop:=js.length=ys.length/\∀(i:Nat)(y:Str)(j:Nat),ys[i]?=some y->js[i]?=some j->X.N[j]?=some y
theorem VY(I:Inv X aM σ H s)(S:oU xs ys scope X.env.scope):∀x∈scope.names,x.2=.free->∃c,X.env.cells.lookup x.1=some c:=λx hx hf=>
 I.ok.has x.1 ((S.cap x.1<|S.free x hx hf).2.elim .inl .inr)
theorem NM(I:Inv X aM σ H s)(S:oU xs ys scope X.env.scope){y:Str}{c:Addr}(e:(xC X.env scope.names []).lookup y=some c):X.env.cells.lookup y=some c:=
 jZ scope.names [] (VY I S) (λ_ _ z=>nomatch z) e
theorem CU(I:Inv X aM σ H s)(S:oU xs ys scope X.env.scope)(hj:DL X ys js)(f2:∀b∈fp,ZC X aM H b)(fo:∀b∈fp,b<s.heap.objs.size)
 {h₁:Heap} {m:Str->Option Value} {tk:Nat} {oD:Obj} (hC:s.heap.objs.size<=C) (hD:s.heap.objs.size<=D) (hDC:D≠C) (hn:h₁.Ns C m) (hd:h₁.get? D=some oD) (hdd:∀v,oD.data≠.cell v)
 (old:∀b o,s.heap.get? b=some o->h₁.get? b=some o):
 Inv (yH X xs ys scope C s H fp) [(D,oD)] (kT xs js σ) H {s with heap:=h₁,toks:=tk}:=by
 let cl:=λy c=>NM (y:=y) (c:=c) I S
 let nC:H C=none:=I.hok.fresh hC;let nD:H D=none:=I.hok.fresh hD;let lt_of:∀{b:Addr},b<s.heap.objs.size->b≠C:=λhb=>bK<|bQ hb hC
 let fsub:∀b,b∈sZ X.stack->b∈X.env.locals::X.fs:=I.stkSub;refine#[#[I.ok.mod,?_,I.ok.glob,I.ok.blt,hC,λx y c h1 h2=>I.ok.inj x y c (cl x c h1)<|cl y c h2,λx hx=>?_,(λx c h=>nomatch h),I.ok.hd,I.ok.frames,.inl rfl,λb hb=>#[lt_of<|fo b hb,λx c h=>(f2 b hb).2.2.2.2.1 x c (cl x c h)],I.bs,
  bX I.ok.bsz I.sz,λb o e hb=>?_,λb hb hf=>?_,I.stack,I.stkFree],
  rfl,I.bare,Un.kept old,#[m,hn,λi x v l a r=>?_],λx c h=>?_,nC,λx c h=>I.freeC x c<|cl x c h,λp hp=>?_,I.hok.kept old,?_]
 ·show scope.kind=_;exact S.kind
 ·let hx:(relabel scope X.env).names.lookup x=some .cell\/(relabel scope X.env).names.lookup x=some .free:=hx;let hm:(x,NameKind.free)∈scope.names:=by
   rcases hx with hx |hx
   ·rcases xN hx with z |z
    ·exact absurd rfl<|S.nocell _<|dE z
    ·exact dE z.1
   ·rcases xN hx with z |z
    ·exact dE z
    ·exact nomatch z.2
  exact qB scope.names []<|.inl hm
 ·rcases(f2 b hb).2.2.2.1 with z |z
  ·exact I.ok.noex b o e z
  ·exact absurd (bQ (bA e)<|bX I.ok.bsz z)<|dP _
 ·rcases bI.mp (fsub b hf)with z |z
  ·exact(f2 b hb).2.1 z
  ·exact(f2 b hb).2.2.1 z
 ·let l:(xs++ys)[i]?=some x:=l;let a:(xs.map (λ_=>(none:Option V))++js.map λj=>(σ[j]?).join)[i]?=some (some v):=a;by_cases hi:i<xs.length
  ·rw[bM (by simpa using hi),aF]at a;cases q:xs[i]? with
   |none=>rw[q]at a;cases a
   |some z=>rw[q]at a;cases a
  ·rw[bS (by simpa using hi),aC,aF]at a;rw[bS (by simpa using hi)]at l;cases q:js[i-xs.length]? with
   |none=>rw[q]at a;cases a
   |some j=>
    rw[q]at a;let d:(σ[j]?).join=some v:=cD a;let hy:=hj.2 _ _ _ l q;let hσ:σ[j]?=some (some v):=by
     cases z:σ[j]? with
     |none=>rw[z]at d;cases d
     |some t=>rw[z]at d;exact cM some d
    let w:x∈ys:=aS l;obtain⟨cf,ca⟩:=S.cap x w;obtain⟨A,_,hl⟩:=I.loc;obtain⟨u,B,E⟩:=hl j x v hy hσ (ca.elim (λz=>.inr<|.inl z) λz=>.inr<|.inr z);refine#[u,B,.inr #[?_,?_]]
    ·exact uF (env:=X.env) cf
    ·rcases E with⟨k,_⟩ |⟨_,c,F,zc⟩
     ·let k:X.env.scope.names.lookup x=some .local:=k;rcases ca with z |z<;> ·rw[k]at z;cases z
     ·obtain⟨G,n⟩:=qB (env:=X.env) (y:=x) scope.names []<|.inl<|dE cf;let r:=cl x G n;rw[F]at r;cases r;obtain⟨o,f,g⟩:=zc;exact#[_,n,o,old _ _ f,g]
 ·obtain⟨v,o,f,g⟩:=I.cell x c<|cl x c h;exact#[v,o,old _ _ f,g]
 ·let hp:p∈[(D,oD)]:=by simpa[yH]using hp
  let e:=aP.mp hp;subst e;calc#[hd,nD,hDC,λhf=>?_,hdd];let hf:D∈sZ X.stack:=hf;obtain⟨o,f⟩:∃o,s.heap.get? D=some o:=by
   rcases bI.mp (fsub D hf)with z |z
   ·obtain⟨A,⟨o,_,_,f,_⟩,_⟩:=I.loc;let z:D=X.env.locals:=z;exact#[o,z▸f]
   ·exact absurd z<|I.nofs hD
  exact absurd (bA f)<|jm.mpr hD
 ·show(xs.map (λ_=>(none:Option V))++js.map λj=>(σ[j]?).join).length=(xs++ys).length;rw[aK,aK,aC,aC,hj.1]
end
section
variable {xs:List Str} {scope:Scope} {elt:Expr} {pos:Pos} {g:TG}
theorem QA{t:Sem α}{Q:α->Shared->Prop}(h:wpAny M A t Q (λ_ _=>False) s):wpAny M A t Q E s:=iU h (λ_ _ x=>x) λ_ _ z=>z.elim
theorem VT{it mO:Value}{env:Env}(J:Nat->Shared->Prop)
 (turn:∀n s,J n s->wpAny (model prog w) A (pyNext it) (λr s₁=>match r with
  |none=>R (.ok .next) s₁
  |some v=>wpAny (model prog w) A (letOwnedTupleGo tg it v) (λ_ s1'=>wpAny (model prog w) A (assign tg env v) (λ_ s₂=>
   wpAny (model prog w) A (forIn ifs true λc r=>if r=true then do let ok ←isTrue c env (eval c env);pure (ForInStep.yield ok)else pure (ForInStep.yield r)) (λok s₃=>
    if ok=true then wpAny (model prog w) A (eval elt env) (λx s₄=>
     wpAny (model prog w) A (call (.builtin "list.append") [mO,x]) (λ_ s₅=>∃m,m<n/\J m s₅) (λ_ _=>False) s₄) (λ_ _=>False) s₃
    else∃m,m<n/\J m s₃) (λ_ _=>False) s₂) (λ_ _=>False) s1') (λ_ _=>False) s₁) (λ_ _=>False) s)
 (n:Nat) (h:J n s):codeAny (model prog w) A (.compLoop (.ListComp elt [#[tg,iter,ifs,0]] scope pos) 0 it mO env) R s:=by
 calc codeAny_loop rfl J (λn s a=>?_) n h;show wpAny _ A ((compTurn (.ListComp elt [#[tg,iter,ifs,0]] scope pos) 0 it mO env).onRaise (λx=>do noteFrame x env;theTreesLotGoes x)) _ _ s;calc wpAny_noted ?_;rw[compTurn_list];calc aE (OM<|aE<|QA<|eK (turn n s a) λr s₁ h₁=>?_);cases r with
 |none=>exact aJ h₁
 |some v=>
  calc aE (QA<|eK h₁ λ_ s1' h₁'=>aE<|QA<|eK h₁' λ_ s₂ h₂=>aE<|QA<|eK h₂ λok s₃ h₃=>?_);cases ok with
  |false=>exact aJ #[rfl,h₃]
  |true=>exact aE (aE<|QA<|eK h₃ λx s₄ h₄=>aE<|QA<|eK h₄ λ_ s₅ h₅=>aJ<|aJ #[rfl,h₅])
structure sH(X:Cx)(aM:List (Addr×Obj))(σ:St)(C:Addr)(H':Hp)(s':Shared):Prop where
 inv:Inv X aM σ H' s'
 ns:∃m,s'.heap.Ns C m
 free:H' C=none
 ne:C≠X.env.locals
 up:X.s₀.heap.objs.size<=C
 cells:∀x c,X.env.cells.lookup x=some c->c≠C
 pin:∀p∈X.pn++aM,p.1≠C
theorem sH.gone{C:Addr}{s':Shared}(L:sH X aM σ C H' s')(hs:Heap.SameBut C s'.heap h'):Inv X aM σ H' {s' with heap:=h'}:=
 L.inv.turned (t':=s'.toks) (λb o hb e=>hs.extBut b o hb e) L.free L.ne (.inr L.up) L.cells L.pin
theorem IZ{B:Cx}{cl:List (Str×Addr)}{tk:Nat}{G h₁:Heap}{s2:Shared}{H2:Hp}{tn:Nat->Heap->Prop}{J:It}{W:Nat->Nat->List V->St->Hp->Prop}{m0:Nat}
 {Q:VK} (I2:Inv X aM σ H2 s2) (T:NR X.prog X.w X.K tg J fp it tn) (f2:∀b∈fp,ZC X aM H2 b) (w0:W 0 m0 [] (kT xs js σ) H2)
  (turn:∀i m ys σ1 H,W i m ys σ1 H->(J.stop i H/\∀p,H p=none->Q (.ref p) (upd H p<|.lst ys))\/(J.go i H/\ys.length<sizeLine/\∀x H',J.yld i H x H'->g x σ1 H' λσ2 H2=>match tc with
   |none=>te σ2 H2 λy H3=>∃m',m'<m/\W (i+1) m' (ys++[y]) σ2 H3
   |some c=>c σ2 H2 λb H3=>if b=true then te σ2 H3 λy H4=>∃m',m'<m/\W (i+1) m' (ys++[y]) σ2 H4 else∃m',m'<m/\W (i+1) m' ys σ2 H3))
  (fin:∀D C H' s',sH X aM σ C H' s'->Q (.ref D) H'->RR (.ref D) C (.ok .next) s')
  (fo:∀b∈fp,b<s2.heap.objs.size) (hC:G.objs.size=s2.heap.objs.size+1) (hDC:s2.heap.objs.size≠G.objs.size) (hCle:s2.heap.objs.size<=G.objs.size)
  (below:∀b,b<s2.heap.objs.size->b≠G.objs.size/\b≠s2.heap.objs.size) (st1:tn 0 h₁)
  (I3:Inv B [(s2.heap.objs.size,LCg.lst [])] (kT xs js σ) H2 {s2 with heap:=h₁,toks:=tk})
  (pB:B.prog=X.prog) (wB:B.w=X.w) (kB:B.K=X.K) (aB:B.A=X.A) (eB:B.env=compEnvC scope cl G.objs.size X.env) (cB:B.calm=true) (xB:B.xe=λ_ _=>False) (gB:PG B tg g) (iB:LF B ifs tc) (elB:PE B elt te)
  (sB:B.s₀=s2) (hB:B.H₀=H2) (fB:B.fs=sZ X.stack) (exB:B.ex=fp) (pnB:B.pn=[]):
  codeAny (model X.prog X.w) X.A (.compStart (.ListComp elt [#[tg,iter,ifs,0]] scope pos) 0 (.ref it) (.ref s2.heap.objs.size)<|compEnvC scope cl G.objs.size X.env) (RR (.ref s2.heap.objs.size) G.objs.size) {s2 with heap:=h₁,toks:=tk}:=by
 let statB:∀{H':Hp}{oD:Obj}{σ':St}{s':Shared},Inv B [(s2.heap.objs.size,oD)] σ' H' s'->(∀b∈fp,H' b=none)->∀b∈fp,ZC B [(s2.heap.objs.size,oD)] H' b:=λ{H' oD σ' s'} s hn b hb=>
  #[hn b hb,(s.ok.exf b<|exB▸hb).1,s.ok.exfs b<|exB▸hb,.inl<|exB▸hb,(s.ok.exf b<|exB▸hb).2,λp hp=>by
   rw[pnB]at hp;let e:=aP.mp (show p∈[(s2.heap.objs.size,oD)]from hp);subst e;calc iH<|fo b hb]
 let loop:∀s₃:Shared,s₃={s2 with heap:=h₁,toks:=tk}->
  codeAny (model X.prog X.w) X.A (.compLoop (.ListComp elt [#[tg,iter,ifs,0]] scope pos) 0 (.ref it) (.ref s2.heap.objs.size)<|compEnvC scope cl G.objs.size X.env) (RR (.ref s2.heap.objs.size) G.objs.size) s₃:=by
  rintro s₃ rfl;refine VT (λn s'=>∃i ys its σ1 H',Inv B [(s2.heap.objs.size,LCg.lst its)] σ1 H' s'/\cY ys its/\tn i s'.heap/\(∀b∈fp,H' b=none)/\ys.length<=sizeLine/\W i n ys σ1 H') ?_ m0
   #[0,[],[],_,H2,I3,.nil,st1,λb hb=>(f2 b hb).1,cS _,w0]
  rintro n s' ⟨i,a,its,σ1,H',s,rv,P,R,hz,w'⟩;let rl:=rv.length;rcases turn i n a σ1 H' w' with⟨stop,qn⟩ |⟨go,hz',step⟩
  ·let q:=T.done B pB wB kB cB i _ s' σ1 H' (λ_ _=>False) s (statB s R) P stop;rw[aB]at q;refine eK q λr N ⟨hr,I⟩=>?_
   subst hr;let pD:=(I.pin (s2.heap.objs.size,LCg.lst its)<|aZ _ aV)
   let S:H' s2.heap.objs.size=none:=pD.2.1;let E:=I.base;rw[fB,exB,hB,sB]at E;let neD:∀{b:Addr}{o:HO},H' b=some o->b≠s2.heap.objs.size:=λe z=>by rw[z,S]at e;cases e
   let upk:∀{b:Addr}{o:HO},H' b=some o->upd H' s2.heap.objs.size (.lst a) b=some o:=λe=>by rw[zG<|neD e];exact e
   let u:Un (sZ X.stack) fp H2 (upd H' s2.heap.objs.size<|.lst a) s2.heap N.heap:=
    #[E.keep,E.slot,λb o e n hx=>by rw[zG (below b<|bA e).2];exact E.free b o e n hx,E.there,λb zs e=>upk<|E.tups b zs e,λb o zs e=>upk<|E.frzs b o zs e,λb ps e=>let ⟨more,q⟩:=E.tbls b ps e;#[more,upk q]]
   let U:mV X.prog X.w H' N.heap:=by have :=I.hok;rw[pB,wB]at this;exact this
   let hok:mV X.prog X.w (upd H' s2.heap.objs.size<|.lst a) N.heap:=λb o e=>by
    by_cases hb:b=s2.heap.objs.size
    ·subst hb;rw[zA]at e;cases e;exact#[hz,its,its.length,rv,pD.1]
    ·rw[zG hb]at e;exact(U b o e).stay (λ_ _ _ q=>q) (λ_ q=>upk q) λ_ _ q=>upk q
   let Z:Inv X aM σ (upd H' s2.heap.objs.size<|.lst a) N:=I2.call' (ch:=fp) (by rw[I.os,sB]) u hok I.bare λb hb=>let f:=f2 b hb;#[f.2.2.2.1,f.2.1,f.2.2.2.2.1,f.2.2.2.2.2]
   refine fin s2.heap.objs.size G.objs.size _ N #[Z,?_,?_,?_,bX I2.sz hCle,λx c e z=>?_,λp hp z=>?_]<|qn _ S
   ·obtain⟨m,hn,_⟩:=I.loc;rw[eB]at hn;exact#[m,hn]
   ·let fr:=I.free;rw[eB]at fr;rw[zG<|cE hDC];exact fr
   ·exact cE (below _ I2.lt).1
   ·obtain⟨_,o,ho,_⟩:=I2.cell x c e;exact(below c<|bA ho).1 z
   ·exact(below p.1<|bA (I2.pin p hp).1).1 z
  ·let q:=T.item B pB wB kB cB i _ s' σ1 H' (λ_ _=>False) s (statB s R) P go;rw[aB]at q;refine eK q λr N ⟨u,hr,h4⟩=>?_
   subst hr;refine eK h4 λ_ L z5=>?_
   obtain⟨x,H5,Z,r5,y5,h,fr5⟩:=z5;let I5':=Z.pinned (statB Z fr5)<|T.obj _ _ h;let q5:=gB _ L σ1 H5 x u _ I5' r5<|step x H5 y5;rw[pB,wB,aB,eB,xB]at q5;refine eK q5 λ_ s6 ⟨σ6,H6,I6,Y⟩=>?_
   let last:∀{j:Shared}{k:Hp},Inv B ([(s2.heap.objs.size,LCg.lst its)]++qV fp L.heap) σ6 k j->(te σ6 k λy O=>∃m',m'<n/\W (i+1) m' (a++[y]) σ6 O)->
    wpAny (model X.prog X.w) X.A (eval elt<|compEnvC scope cl G.objs.size X.env) (λx s₄=>
     wpAny (model X.prog X.w) X.A (call (.builtin "list.append") [.ref s2.heap.objs.size,x]) (λ_ s₅=>∃m,m<n/\
      ∃i ys its σ1 H',Inv B [(s2.heap.objs.size,LCg.lst its)] σ1 H' s₅/\cY ys its/\tn i s₅.heap/\(∀b∈fp,H' b=none)/\ys.length<=sizeLine/\W i m ys σ1 H') (λ_ _=>False) s₄) (λ_ _=>False) j:=λ{j k} F l=>by
    let q8:=elB _ j σ6 k _ F l;rw[pB,wB,aB,eB,xB]at q8;refine eK q8 λuy s8 z8=>?_
    obtain⟨y,O,I8,r8,m',M,w8⟩:=z8;let pD:=(I8.pin (s2.heap.objs.size,LCg.lst its)<|aZ _<|bW _ aV)
    calc append_at (its:=its.toArray) (n:=its.length) pD.1 (λh9 hs9 hd9=>?_) (by rw[aR,←rl];calc hz);let dropped:Inv B (qV fp L.heap) σ6 O s8:=I8.pins_of λp hp=>I8.pin p<|aZ _<|aZ _ hp
    let apart:∀p∈B.pn++qV fp L.heap,p.1≠s2.heap.objs.size:=λp hp=>by
     rw[pnB]at hp;exact bK (fo _ (QL<|show p∈qV fp L.heap from hp).1)
    let I9:Inv B (qV fp L.heap) σ6 O {s8 with heap:=h9}:=dropped.turned (t':=s8.toks) (λb o hb e=>hs9.extBut b o hb e) pD.2.1 pD.2.2.1 (.inr (by rw[sB];calc aG _)) (λx c e=>by
     intro z;obtain⟨v,o,ho,hd⟩:=I8.cell x c e;rw[z,pD.1]at ho;cases ho;cases hd) apart
    let I9':Inv B [(s2.heap.objs.size,LCg.lst<|its++[uy])] σ6 O {s8 with heap:=h9}:=I9.pins_of λp hp=>by
     let e:=aP.mp hp;subst e;exact#[hd9.trans<|cM some<|LCg.lst_snoc its uy,pD.2.1,pD.2.2.1,pD.2.2.2.1,by intro v hv;cases hv]
    refine#[m',M,i+1,a++[y],its++[uy],σ6,O,I9',cY.append rv<|.cons r8 .nil,T.keep _ _ _ h λb hb o e=>?_,λb hb=>?_,by rw[aK];exact hz',w8]
    ·exact(I9.pin (b,o)<|aZ _<|jQ hb e).1
    ·obtain⟨o,e,d⟩:=T.obj _ _ h b hb;exact(I9.pin (b,o)<|aZ _<|jQ hb e).2.1
   let again:∀{j:Shared}{k:Hp},Inv B ([(s2.heap.objs.size,LCg.lst its)]++qV fp L.heap) σ6 k j->(∃m',m'<n/\W (i+1) m' a σ6 k)->∃m,m<n/\
    ∃i ys its σ1 H',Inv B [(s2.heap.objs.size,LCg.lst its)] σ1 H' j/\cY ys its/\tn i j.heap/\(∀b∈fp,H' b=none)/\ys.length<=sizeLine/\W i m ys σ1 H':=λ{j k} F ⟨m',M,w7⟩=>by
    calc#[m',M,i+1,a,its,σ6,k,F.unpinned,rv,T.keep _ _ _ h λb hb o e=>(F.pin (b,o)<|aZ _<|aZ _<|jQ hb e).1,λb hb=>?_,hz,w7];obtain⟨o,e,d⟩:=T.obj _ _ h b hb;exact(F.pin (b,o)<|aZ _<|aZ _<|jQ hb e).2.1
   match ifs,tc,iB,Y with
   |[],none,_,Y=>
    calc wpAny_tests_nil ?_;rw[aT rfl];exact last I6 Y
   |[c],some t,iB,Y=>
    let iB:PT B c t:=iB;let l:=iB _ s6 σ6 H6 _ I6 Y;rw[pB,wB,aB,eB,xB]at l;calc wpAny_tests_one (eK l λb j ⟨k,F,l⟩=>?_);cases b with
    |true=>rw[aT rfl]at l⊢;exact last F l
    |false=>rw[aH aY]at l⊢;exact again F l
 exact codeAny_compStart_list (loop _ rfl)<|T.self _ 0 _ _ _ st1<|loop _ rfl
theorem KA(hc:X.calm=true)(S:oU xs ys scope X.env.scope)(hj:DL X ys js)(hi:PI X tg iter wi)
 (hg:∀C s₀ H₀ fp,PG (yH X xs ys scope C s₀ H₀ fp) tg g) (hif:∀C s₀ H₀ fp,LF (yH X xs ys scope C s₀ H₀ fp) ifs tc) (he:∀C s₀ H₀ fp,PE (yH X xs ys scope C s₀ H₀ fp) elt te)
 {Q:VK} (I:Inv X aM σ H s) (h:cy xs js wi g tc te σ H Q)
  (fin:∀D C H' s',sH X aM σ C H' s'->Q (.ref D) H'->RR (.ref D) C (.ok .next) s'):
  wpAny (model X.prog X.w) X.A (eval iter X.env) (λx s₁=>wpAny (model X.prog X.w) X.A (pyIter x) (λit s₂=>wpAny (model X.prog X.w) X.A (newList []) (λmO s₃=>
   wpAny (model X.prog X.w) X.A (newFunctionEnv scope X.env.globals (xC X.env scope.names []) [] X.env.qual none .none<|some X.env) (λcenv s₄=>
    codeAny (model X.prog X.w) X.A (.compStart (.ListComp elt [#[tg,iter,ifs,0]] scope pos) 0 it mO {cenv with scope:=relabel scope X.env}) (RR mO cenv.locals) s₄) X.xe s₃) X.xe s₂) X.xe s₁) X.xe s:=by
 refine eK (hi aM s σ H _ I h) λv s1 h1=>eK h1 λitv s2 h2=>?_
 obtain⟨it,fp,tn,J,H2,e,p,T,k,q,W,⟨F,u⟩,turn⟩:=h2;subst e;let r:∀b∈fp,b<s2.heap.objs.size:=λb hb=>let ⟨o,e,_⟩:=T.obj _ _ k b hb;bA e
 calc cT (wpAny_newFunctionEnv S.nocell (by intro y hy;simp at hy) (λh₁ d c=>?_) S.kind);dsimp only at d c⊢;generalize i:s2.heap.push {cls:=.type "list",dict:=none,data:=.seq ([]:List Value).toArray}=G at d c⊢;let m:G.objs.size=s2.heap.objs.size+1:=by rw[←i,fV]
 let j:s2.heap.objs.size≠G.objs.size:=by rw[m];exact bK<|oH _
 let f:s2.heap.objs.size<=G.objs.size:=by rw[m];exact lC _
 let below:∀b,b<s2.heap.objs.size->b≠G.objs.size/\b≠s2.heap.objs.size:=λb hb=>#[by rw[m];exact bK<|gP hb,bK hb]
 let old:∀b o,s2.heap.get? b=some o->h₁.get? b=some o:=λb o e=>c.extBut b o (below b<|bA e).1 (aO _<|i▸aO _ e)
 let l:h₁.get? s2.heap.objs.size=some (LCg.lst []):=c.extBut _ _ j<|aO _<|i▸bF _ rfl;let n:tn 0 h₁:=T.keep _ _ _ k λb _ o e=>old b o e
 let t:=CU (C:=G.objs.size) (D:=s2.heap.objs.size) (tk:=s2.toks+([]:List (Str×Value)).length) p S hj q r f (aG _) j d l (by intro v z;cases z) old;generalize a:yH X xs ys scope G.objs.size s2 H2 fp=B at t;let pB:B.prog=X.prog:=by rw[←a];rfl
 let wB:B.w=X.w:=by rw[←a];rfl
 let kB:B.K=X.K:=by rw[←a];rfl
 let aB:B.A=X.A:=by rw[←a];rfl
 let eB:B.env=compEnvC scope (xC X.env scope.names []) G.objs.size X.env:=by rw[←a];rfl
 let cB:B.calm=true:=by rw[←a];exact hc
 let xB:B.xe=λ_ _=>False:=by rw[←a];rfl
 let gB:PG B tg g:=by rw[←a];exact hg _ _ _ _
 let iB:LF B ifs tc:=by rw[←a];exact hif _ _ _ _
 let elB:PE B elt te:=by rw[←a];exact he _ _ _ _
 let sB:B.s₀=s2:=by rw[←a];rfl
 let E:B.H₀=H2:=by rw[←a];rfl
 let fB:B.fs=sZ X.stack:=by rw[←a];rfl
 let exB:B.ex=fp:=by rw[←a];rfl
 let pnB:B.pn=[]:=by rw[←a];rfl
 exact IZ (cl:=(xC X.env scope.names [])) p T q u turn fin r m j f below n t pB wB kB aB eB cB xB gB iB elB sB E fB exB pnB
theorem pe_lc(hc:X.calm=true)(S:oU xs ys scope X.env.scope)(hj:DL X ys js)(hi:PI X tg iter wi)
 (hg:∀C s₀ H₀ fp,PG (yH X xs ys scope C s₀ H₀ fp) tg g) (hif:∀C s₀ H₀ fp,LF (yH X xs ys scope C s₀ H₀ fp) ifs tc) (he:∀C s₀ H₀ fp,PE (yH X xs ys scope C s₀ H₀ fp) elt te)
 (hs:∀x,foldedSetIterable iter X.env x=pure x:=by intro _;rfl):PE X (.ListComp elt [#[tg,iter,ifs,0]] scope pos) (cy xs js wi g tc te):=by
 intro aM s σ H Q I h;rw[eval_ListComp];calc sK (use:=none) rfl hs (qX<|VY I S) S.kind S.names ?_;refine KA (RR:=λmO C=>compPost (model X.prog X.w) X.A X.xe none (EP X aM σ Q) mO C) hc S hj hi hg hif he I h λD C H' s' L q=>?_
 obtain⟨m,hn⟩:=L.ns;exact#[m,hn,λb a=>#[.ref D,H',L.gone a,rfl,q]]
theorem RN{x:Str}{p' p:Pos}(hN:X.N.Nodup)(hx:X.N[i]?=some x)(hl:X.env.scope.names.lookup x=some .local)(hc:X.calm=true)(S:oU xs ys scope X.env.scope)(hj:DL X ys js)(hi:PI X tg iter wi)
 (hg:∀C s₀ H₀ fp,PG (yH X xs ys scope C s₀ H₀ fp) tg g) (hif:∀C s₀ H₀ fp,LF (yH X xs ys scope C s₀ H₀ fp) ifs tc) (he:∀C s₀ H₀ fp,PE (yH X xs ys scope C s₀ H₀ fp) elt te)
 (hsw:swapsWith (.ListComp elt [#[tg,iter,ifs,0]] scope pos) (some<|.Name x p') p.line X.env=pure true:=by rfl)
 (hs:∀x,foldedSetIterable iter X.env x=pure x:=by intro _;rfl):PS X (.Assign [.Name x p'] (.ListComp elt [#[tg,iter,ifs,0]] scope pos) p) (UK (cy xs js wi g tc te)<|uP i):=by
 intro aM s σ H D I h;rw[exec_Assign_Name_used _ _ _ _ hsw];calc aE<|OM<|aE ?_;show wpAny _ X.A (do let _ ←comprehension (.ListComp elt [#[tg,iter,ifs,0]] scope pos) scope X.env _ (newList []) false (eval iter X.env) (some<|assign (.Name x p') X.env)) _ _ s;calc aE (iU (sK (use:=some<|assign (.Name x p') X.env) (Q:=λ_ s'=>SP X aM D .next s') rfl hs (qX<|VY I S) S.kind S.names ?_) (λ_ s' hq=>aJ<|aJ hq) λ_ _ e=>e);refine KA (Q:=λv H'=>uP i v σ H' D.nx) (RR:=λmO C=>compPost (model X.prog X.w) X.A X.xe (some<|assign (.Name x p') X.env) (λ_ s'=>SP X aM D .next s') mO C) hc S hj hi hg hif he I h λA C H' s' L q=>?_
 show wpAny _ X.A (assign (.Name x p') X.env<|.ref A) _ _ _;calc jh (kM (v:=.ref A) L.inv hN hx (.inl hl) rfl (λj d ⟨a,f,ha⟩=>?_)<|.inr hl);let cne:∀{b:Addr},(b=X.env.locals\/X.env.cells.lookup x=some b)->C≠b:=λz e=>by
  rcases z with z |z
  ·exact L.ne<|e.trans z
  ·exact L.cells x _ z e.symm
 obtain⟨m,hn⟩:=L.ns;calc#[m,hn.sameBut f<|cne ha,λk c=>#[_,_,?_,q]];exact sH.gone #[d,#[m,hn.sameBut f<|cne ha],L.free,L.ne,L.up,L.cells,L.pin] c
end
theorem jP:xX X (.builtin "all") (λxs H Q=>i6 X.calm (rJ xs λx=>oI x λp=>∃bs:List Bool,cO X.K H p (bs.map V.bl)/\Q (.bl<|bs.all id) H)):=by
 intro aM s σ H xs us Q I r h;replace h:=GL h;obtain⟨hc,h⟩:=h;replace h:=wJ h;obtain⟨m,rfl,h⟩:=h;replace h:=xK h;obtain⟨p,rfl,bs,hp,q⟩:=h;obtain⟨u,rfl,g⟩:=jY r;cases g;obtain⟨its,rv,hl,hz⟩:=I.list hp;let lR:p<s.heap.objs.size:=by obtain⟨_,e,_⟩:=hl.isList;exact bA e
 let eQ:=rv.length;rw[aC]at eQ;calc call_all_walk<|oW hl.isList ?_;refine#[_,_,_,_,_,_,λi=>bs.getD i false,rfl,Walks.list (A:=X.A.in1) (I.ok.hd hc) s.heap.objs.size p (bK lR) its.toArray,#[#[_,bF _ rfl,rfl,rfl],hl.isList.push _],λi v s' n t d j=>?_,λh' tk k=>?_]
 ·let d:its[i]?=some v:=by simpa using d
  let hi:i<bs.length:=by
   have :=(aD.mp d).1;lia
  obtain⟨w,c,f⟩:=rv.get (i:=i) (x:=.bl bs[i]) (by rw[aF,aA hi];rfl);rw[d]at c;cases c;let e:v=Value.bool bs[i]:=f;subst e;calc fC ?_;let l:bs.getD i false=bs[i]:=by rw[bC,aA hi];rfl
  rw[←l];exact j
 ·refine#[.bl<|bs.all id,H,?_,?_,q]
  ·exact I.kept (h':=h') (t':=tk) λb o e=>k b o (by intro hm;have :=aP.mp hm;calc absurd (this▸bA e)<|dP _)<|aO _ e
  ·let e:(List.range its.toArray.size).all (λi=>bs.getD i false)=bs.all id:=by
    rw[aR,←eQ];rw[cF,cA,cA];constructor
    ·intro a b hb;obtain⟨i,hi,rfl⟩:=cQ hb;have :=a i<|bL.mpr hi;rw[bC,aA hi]at this;exact this
    ·intro a i hi;let hi:=bL.mp hi;rw[bC,aA hi];exact a _<|bT hi
   show Value.bool _=_;rw[e]
theorem xD:xX X (.builtin "isinstance") (λxs H Q=>∃x t b,xs=[x,.ty T]/\rN X.K H x t/\W.kitOne X.K t (.type T)=some b/\Q (.bl b) H):=by
 intro aM s σ H xs us Q I r h;obtain⟨x,t,b,rfl,ty,e,q⟩:=h;obtain⟨u,d,rfl,c,a⟩:=vals2 r;cases a;exact NE I c ty e λtk=>#[.bl b,H,I.tok tk,rfl,q]
theorem YQ:∀{ys:List Str}{us:List Value},cY (ys.map V.str) us->StrsAre us ys
 |[],us,r=>by
  rw[pU]at r;cases r;exact .nil
 |y::ys,us,r=>by
  rw[bY]at r;cases r with
  |@cons a b as bs h t=>
   obtain⟨tk,hb⟩:=(show∃tk,b=Value.str y tk from h)
   subst hb;exact .cons y tk<|YQ t
theorem IX:MtR X "str.join" (λx xs H Q=>∃(z:Str)(p:Addr)(ys:List Str),x=.str z/\xs=[.ref p]/\cO X.K H p (ys.map V.str)/\(ys.map (·.length)).sum+ys.length*z.length<=16777216/\Q (.str<|Txt.join z ys) H):=by
 intro aM s σ H x xs v us Q I a rs h;obtain⟨z,p,ys,rfl,rfl,hp,hb,q⟩:=h;obtain⟨c,rfl⟩:=a;obtain⟨u,rfl,b⟩:=jY rs;cases b;obtain⟨its,rv,hl,hz⟩:=I.list hp;exact join_list hl.isList (YQ rv) hb λt' k=>#[.str<|Txt.join z ys,H,I.tok k,#[t',rfl],q]
structure fI(P:Program)(w:World)(K:W.Frag)(mg:Str->Option Value)(base:Heap)(k:Nat)(x:Str)(ps:List Str)(sp:Sp):Prop where
 ex:∃f fd,cZ P w K mg base fL k f fd ps sp/\Binds K fd ps []/\W.keepIn K (.ref f)=true/\mg x=some (.ref f)
def Gc(mg:Str->Option Value)(x:Str)(v:V):Prop:=∃u,mg x=some u/\RelV v u
section
variable {k:Nat} {x:Str} {p pos:Pos} {es:List Expr} {t:TA}
theorem fI.mono{k:Nat}(h:fI P w K mg base j x ps sp)(hk:j<=k):fI P w K mg base k x ps sp:=by
 obtain⟨f,fd,F,r⟩:=h.ex;exact#[f,fd,F.mono hk,r]
theorem zV(h:fI X.prog X.w X.K X.mg X.base k x ps sp)(hr:gK k X.A)(hg:Gl X x)(ha:PA X (e::es) t)(hdb:(x==("__debug__":Str))=false:=by decide)
 (he:starEach (e::es) X.env=(false,eval e X.env)::starEach es X.env:=by rfl) (iT:(backTo pos<|starEach es X.env).any (·.1)=false:=by rfl):PE X (.Call (.Name x p) (e::es) [] pos) (PF sp [] E0 t):=by
 obtain⟨f,fd,F,b,kp,m⟩:=h.ex;exact ef F hr hg m kp b .nil IJ ha hdb he iT
theorem ll(h:Gc X.mg x v)(hg:Gl X x)(hd:(x==("__debug__":Str))=false:=by decide):PE X (.Name x pos) (tC v):=by
 obtain⟨u,m,r⟩:=h;exact IG hg m r hd
theorem uO(hm:X.mg x=none)(hv:bootBuiltins x=some (.type T))(hg:Gl X x)(hn:x≠"__name__":=by decide)(hd:(x==("__debug__":Str))=false:=by decide):PE X (.Name x pos) (tC<|.ty T):=
 eh hg hm hv rfl hn hd
end
theorem zY:LF X [] none:=trivial
theorem uG{c:Expr}{t:TT}(h:PT X c t):LF X [c] (some t):=h
noncomputable def sY(xs ys:List Str)(scope fP:Scope):Bool:=
 (scope.kind==.function)&&decide (xs++ys).Nodup&&xs.all (λx=>scope.names.lookup x==some .local)&&
 ys.all (λy=>(scope.names.lookup y==some .free)&&((fP.names.lookup y==some .cell) ||(fP.names.lookup y==some .free)))&&
 scope.names.all (λy=>(y.2 !=.cell)&&((y.2 !=.local) ||(scope.names.lookup y.1==some .local))&&((y.2 !=.free) ||ys.contains y.1))
theorem sY.scope{xs:List Str}{scope fP:Scope}(h:sY xs ys scope fP=true):oU xs ys scope fP:=by
 unfold sY at h;simp only[cC,cP,bZ,cA,iL,bne_iff_ne,List.contains_iff_mem]at h;obtain⟨⟨⟨⟨h1,h2⟩,b⟩,c⟩,a⟩:=h;exact#[h1,h2,b,c,λy hy=>(a y hy).1.1,λy hy hl=>(a y hy).1.2.resolve_left (λz=>z hl),λy hy hf=>(a y hy).2.resolve_left (λz=>z hf)]
noncomputable def rH(N ys:List Str)(js:List Nat):Bool:=(js.length==ys.length)&&(ys.zip js).all λp=>N[p.2]?==some p.1
theorem rH.caps(h:rH X.N ys js=true):DL X ys js:=by
 unfold rH at h;simp only[cC,cP,cA]at h;calc#[h.1,λi y j hy a=>?_];calc h.2 (y,j)<|aS (i:=i) ?_;rw[mv];exact#[hy,a]
section
variable {xs:List Str} {scope:Scope} {elt:Expr} {pos:Pos} {g:TG}
theorem zW(xs ys:List Str)(js:List Nat)(hi:PI X tg iter wi)
 (hg:∀C s₀ H₀ fp,(xs++ys).Nodup->PG (yH X xs ys scope C s₀ H₀ fp) tg g) (hif:∀C s₀ H₀ fp,LF (yH X xs ys scope C s₀ H₀ fp) ifs tc) (he:∀C s₀ H₀ fp,PE (yH X xs ys scope C s₀ H₀ fp) elt te)
 (hc:X.calm=true:=by rfl) (S:sY xs ys scope X.env.scope=true:=by rfl) (hj:rH X.N ys js=true:=by rfl)
 (hs:∀x,foldedSetIterable iter X.env x=pure x:=by intro _;rfl):PE X (.ListComp elt [#[tg,iter,ifs,0]] scope pos) (cy xs js wi g tc te):=
 pe_lc hc (sY.scope S) (rH.caps hj) hi (λC s₀ H₀ fp=>hg C s₀ H₀ fp (sY.scope S).nd) hif he hs
theorem ZZ{x:Str}{p' p:Pos}(xs ys:List Str)(js:List Nat)(hN:X.N.Nodup)(hx:X.N[i]?=some x)(hi:PI X tg iter wi)
 (hg:∀C s₀ H₀ fp,(xs++ys).Nodup->PG (yH X xs ys scope C s₀ H₀ fp) tg g) (hif:∀C s₀ H₀ fp,LF (yH X xs ys scope C s₀ H₀ fp) ifs tc) (he:∀C s₀ H₀ fp,PE (yH X xs ys scope C s₀ H₀ fp) elt te)
 (hl:X.env.scope.names.lookup x=some .local:=by rfl) (hc:X.calm=true:=by rfl) (S:sY xs ys scope X.env.scope=true:=by rfl) (hj:rH X.N ys js=true:=by rfl)
 (hsw:swapsWith (.ListComp elt [#[tg,iter,ifs,0]] scope pos) (some<|.Name x p') p.line X.env=pure true:=by rfl)
 (hs:∀x,foldedSetIterable iter X.env x=pure x:=by intro _;rfl):PS X (.Assign [.Name x p'] (.ListComp elt [#[tg,iter,ifs,0]] scope pos) p) (UK (cy xs js wi g tc te)<|uP i):=
 RN hN hx hl hc (sY.scope S) (rH.caps hj) hi (λC s₀ H₀ fp=>hg C s₀ H₀ fp (sY.scope S).nd) hif he hsw hs
end
theorem ZA:bootBuiltins "len"=some (.builtin "len"):=by decide+kernel
theorem zZ:bootBuiltins "isinstance"=some (.builtin "isinstance"):=by decide+kernel
theorem uM:bootBuiltins "all"=some (.builtin "all"):=by decide+kernel
theorem vU:bootBuiltins "sorted"=some (.builtin "sorted"):=by decide+kernel
theorem aw:bootBuiltins "range"=some (.type "range"):=by decide+kernel
theorem vH:bootBuiltins "tuple"=some (.type "tuple"):=by decide+kernel
theorem uL:bootBuiltins "list"=some (.type "list"):=by decide+kernel
theorem ui:bootBuiltins "set"=some (.type "set"):=by decide+kernel
theorem WD:bootBuiltins "int"=some (.type "int"):=by decide+kernel
theorem KW:bootBuiltins "bool"=some (.type "bool"):=by decide+kernel
theorem uh:bootBuiltins "str"=some (.type "str"):=by decide+kernel
theorem YG:bootBuiltins "dict"=some (.type "dict"):=by decide+kernel
theorem cx_K{scope:Scope}{cd:Value}{E:XK}:(JC CX P w K mg base N qual scope f cd A outer s H E).K=K:=rfl
theorem cx_calm{scope:Scope}{cd:Value}{E:XK}:(JC CX P w K mg base N qual scope f cd A outer s H E).calm=true:=rfl
theorem bk_calm{xs:List Str}{scope:Scope}{C:Addr}{s₀:Shared}{H₀:Hp}:(yH X xs ys scope C s₀ H₀ fp).calm=X.calm:=rfl
theorem lenV_str{y:Str}:NU K (.str y) H n↔(y.length<=sizeLine/\n=y.length):=Iff.rfl
theorem bk_K{xs:List Str}{scope:Scope}{C:Addr}{s₀:Shared}{H₀:Hp}:(yH X xs ys scope C s₀ H₀ fp).K=X.K:=rfl
theorem KB{J:It}{g:TG}{Q:VK}(Pv:Nat->List V->St->Hp->Prop)(h0:Pv 0 [] (kT ns js σ) H)(hn:n<=sizeLine)(hl:∀i ys σ H,Pv i ys σ H->ys.length<=i)
 (hgo:∀i ys σ H,i<n->Pv i ys σ H->J.go i H) (hst:∀ys σ H,Pv n ys σ H->J.stop n H)
 (hs:∀i ys σ H x H' (C:V->St->Hp->Prop),i<n->Pv i ys σ H->J.yld i H x H'->(∀y σ2 H3,Pv (i+1) (ys++[y]) σ2 H3->C y σ2 H3)->g x σ H' λσ2 H2=>te σ2 H2 λy H3=>C y σ2 H3)
 (hd:∀ys σ H,Pv n ys σ H->∀p,H p=none->Q (.ref p) (upd H p<|.lst ys)):
 bf J ns js g none te σ H Q:=by
 calc#[λi m ys σ H=>i+m=n/\Pv i ys σ H,#[n,(),h0],λi m ys σ H ⟨e,w⟩=>?_];by_cases hi:i<n
 ·calc .inr #[hgo i ys σ H hi w,eE (hl _ _ _ _ w) (),λx H' hy=>?_];exact hs i ys σ H x H' (λy σ2 H3=>∃a,a<m/\i+1+a=n/\Pv (i+1) (ys++[y]) σ2 H3) hi w hy λy σ2 H3 q=>#[m-1,(),(),q]
 ·have :i=n:=by lia
  subst this;exact .inl #[hst ys σ H w,hd ys σ H w]
theorem kA{lo:Int}{g:TG}{Q:VK}(Pv:Nat->List V->St->Hp->Prop)(h0:Pv 0 [] (kT ns js σ) H)(hz:n<=sizeLine)(hl:∀i ys σ H,Pv i ys σ H->ys.length<=i)
 (hs:∀(i:Nat) ys σ H (C:V->St->Hp->Prop),i<n->Pv i ys σ H->(∀y σ2 H3,Pv (i+1) (ys++[y]) σ2 H3->C y σ2 H3)->g (.int<|lo+i) σ H λσ2 H2=>te σ2 H2 λy H3=>C y σ2 H3)
 (hd:∀ys σ H,Pv n ys σ H->∀p,H p=none->Q (.ref p) (upd H p<|.lst ys)):
 bf (bh lo n) ns js g none te σ H Q:=
 KB (n:=n) Pv h0 hz hl (λ_ _ _ _ h _=>h) (λ_ _ _ _=>aG _) (λi ys σ H x H' C hi w ⟨e,hx⟩ a=>by subst e;subst hx;calc hs i ys σ _ C hi w a) hd
theorem FW{g:TG}{Q:VK}(Pv:Nat->List V->St->Hp->Prop)(h0:Pv 0 [] (kT ns js σ) H)(hz:xs.length<=sizeLine)(hl:∀i ys σ H,Pv i ys σ H->ys.length<=i)
 (hK:∀i ys σ H,Pv i ys σ H->cW K H a xs)
 (hs:∀(i:Nat) x ys σ H (C:V->St->Hp->Prop),xs[i]?=some x->Pv i ys σ H->(∀y σ2 H3,Pv (i+1) (ys++[y]) σ2 H3->C y σ2 H3)->g x σ H λσ2 H2=>te σ2 H2 λy H3=>C y σ2 H3)
 (hd:∀ys σ H,Pv xs.length ys σ H->∀p,H p=none->Q (.ref p) (upd H p<|.lst ys)):
 bf (mf K a) ns js g none te σ H Q:=
 KB (n:=xs.length) Pv h0 hz hl (λi ys σ H hi w=>#[xs,xs[i],hK i ys σ H w,aA hi]) (λys σ H w=>#[xs,hK _ ys σ H w,aG _])
  (λi ys σ H x H' C hi w ⟨e,hx⟩ b=>by subst e;calc hs i x ys σ _ C (hx xs<|hK i ys σ _ w) w b) hd
theorem yM{g:TG}{Q:VK}(Pv:Nat->List V->St->Hp->Prop)(h0:Pv 0 [] (kT ns js σ) H)(hz:xs.length<=sizeLine)(hl:∀i ys σ H,Pv i ys σ H->ys.length<=i)
 (hK:∀i ys σ H,Pv i ys σ H->cO K H a xs)
 (hs:∀(i:Nat) x ys σ H (C:V->St->Hp->Prop),xs[i]?=some x->Pv i ys σ H->(∀y σ2 H3,Pv (i+1) (ys++[y]) σ2 H3->C y σ2 H3)->g x σ H λσ2 H2=>te σ2 H2 λy H3=>C y σ2 H3)
 (hd:∀ys σ H,Pv xs.length ys σ H->∀p,H p=none->Q (.ref p) (upd H p<|.lst ys)):
 bf (jb K a) ns js g none te σ H Q:=
 KB (n:=xs.length) Pv h0 hz hl (λi ys σ H hi w=>#[xs,xs[i],hK i ys σ H w,aA hi]) (λys σ H w=>#[xs,hK _ ys σ H w,aG _])
  (λi ys σ H x H' C hi w ⟨e,hx⟩ b=>by subst e;calc hs i x ys σ _ C (hx xs<|hK i ys σ _ w) w b) hd
def WK(J:It)(g:TG)(tb:TS)(D:DJ)(σ:St)(H:Hp):Prop:=∃W:Nat->Nat->St->Hp->Prop,(∃m,W 0 m σ H)/\∀i m σ H,W i m σ H->
 (J.stop i H/\D.nx σ H)\/(J.go i H/\∃N:St->Hp->Prop,(∀σ' H',N σ' H'->∃m',m'<m/\W (i+1) m' σ' H')/\∀x H',J.yld i H x H'->g x σ H' λσ2 H2=>tb {D with nx:=N,ct:=N,bk:=D.nx} σ2 H2)
theorem tFor_eq{g:TG}:tFor wi g tb D σ H=wi σ H λJ H1=>WK J g tb D σ H1:=rfl
theorem tLC_eq{n:List Str}{g:TG}{Q:VK}:cy n js wi g tc te σ H Q=wi σ H λJ H1=>bf J n js g tc te σ H1 Q:=rfl
theorem qU{g:TG}(Pv:Nat->St->Hp->Prop)(h0:Pv 0 σ H)(hl:∀i σ H,i<=xs.length->Pv i σ H->cO K H a xs)
 (hs:∀i x σ H,xs[i]?=some x->Pv i σ H->g x σ H λσ2 H2=>tb {D with nx:=Pv (i+1),ct:=Pv (i+1),bk:=D.nx} σ2 H2) (hd:∀σ H,Pv xs.length σ H->D.nx σ H):WK (jb K a) g tb D σ H:=CJ Pv h0 hl hs hd
theorem tf{g:TG}(Pv:Nat->St->Hp->Prop)(h0:Pv 0 σ H)(hl:∀i σ H,i<=xs.length->Pv i σ H->cW K H a xs)
 (hs:∀i x σ H,xs[i]?=some x->Pv i σ H->g x σ H λσ2 H2=>tb {D with nx:=Pv (i+1),ct:=Pv (i+1),bk:=D.nx} σ2 H2) (hd:∀σ H,Pv xs.length σ H->D.nx σ H):WK (mf K a) g tb D σ H:=KL Pv h0 hl hs hd
theorem jO{lo:Int}{g:TG}(Pv:Nat->St->Hp->Prop)(h0:Pv 0 σ H)
 (hs:∀i σ H,i<n->Pv i σ H->g (.int<|lo+i) σ H λσ2 H2=>tb {D with nx:=Pv (i+1),ct:=Pv (i+1),bk:=D.nx} σ2 H2) (hd:∀σ H,Pv n σ H->D.nx σ H):WK (bh lo n) g tb D σ H:=QR Pv h0 hs hd
theorem xP{g:TG}(Pv:Nat->St->Hp->Prop)(h0:Pv 0 σ H)(hl:∀i σ H,i<=xs.length->Pv i σ H->cO K H a xs)
 (hs:∀i x σ H,xs[i]?=some x->Pv i σ H->∀N:St->Hp->Prop,(∀σ H,Pv (i+1) σ H->N σ H)->g x σ H λσ2 H2=>tb {D with nx:=N,ct:=N,bk:=D.nx} σ2 H2) (hd:∀σ H,Pv xs.length σ H->D.nx σ H):WK (jb K a) g tb D σ H:=CJ Pv h0 hl (λi x σ H a b=>hs i x σ H a b _ λ_ _ z=>z) hd
theorem WZ{g:TG}(Pv:Nat->St->Hp->Prop)(h0:Pv 0 σ H)(hl:∀i σ H,i<=xs.length->Pv i σ H->cW K H a xs)
 (hs:∀i x σ H,xs[i]?=some x->Pv i σ H->∀N:St->Hp->Prop,(∀σ H,Pv (i+1) σ H->N σ H)->g x σ H λσ2 H2=>tb {D with nx:=N,ct:=N,bk:=D.nx} σ2 H2) (hd:∀σ H,Pv xs.length σ H->D.nx σ H):WK (mf K a) g tb D σ H:=KL Pv h0 hl (λi x σ H a b=>hs i x σ H a b _ λ_ _ z=>z) hd
theorem XY{lo:Int}{g:TG}(Pv:Nat->St->Hp->Prop)(h0:Pv 0 σ H)
 (hs:∀i σ H,i<n->Pv i σ H->∀N:St->Hp->Prop,(∀σ H,Pv (i+1) σ H->N σ H)->g (.int<|lo+i) σ H λσ2 H2=>tb {D with nx:=N,ct:=N,bk:=D.nx} σ2 H2) (hd:∀σ H,Pv n σ H->D.nx σ H):WK (bh lo n) g tb D σ H:=QR Pv h0 (λi σ H a b=>hs i σ H a b _ λ_ _ z=>z) hd
theorem m5{c:TT}(W:Nat->St->Hp->Prop)(h0:∃m,W m σ H)(hs:∀m σ H,W m σ H->∀B:Hp->Prop,(∀H1 (N:St->Hp->Prop),(∀σ' H',N σ' H'->∃m',m'<m/\W m' σ' H')->(∀M:St->Hp->Prop,(∀σ H,N σ H->M σ H)->tb {D with nx:=M,ct:=M,bk:=D.nx} σ H1)->B H1)->c σ H λb H1=>if b=true then B H1 else D.nx σ H1):UG c tb D σ H:=
 #[W,h0,λm σ H h=>hs m σ H h _ λ_ N a ht=>#[N,a,ht N λ_ _ z=>z]]
theorem fT.okz{x:Str}{st:Stmt}{k:Nat}(F:fT K x qual st f fd)(S:bV N ps (zF st))
 (hbody:∀(eO:Value)(A:Around)(outer:List Env)(s:Shared)(H:Hp)(vs:List V)(Q:VK)(E:XK),gK k (A.deeper<|envOfC qual (zF st) s.heap.objs.size f eO)->sp vs H Q E->
  ∃t,DS (JC fL P w K mg base N qual (zF st) f eO A outer s H E).nox (yX st) t/\t {nx:=λ_ H'=>Q .non H',rt:=Q} (uT N vs) H)
 (len:∀vs H Q E,sp vs H Q E->vs.length=ps.length:=by intro vs H Q E h;first |(cases h;calc cM List.length ‹vs=_›) |(repeat first |(obtain⟨rfl,_⟩:=h;rfl) |(obtain⟨_,h⟩:=h))):cZ P w K mg base fL (k+1) f fd ps sp:=F.ok S len hbody
theorem gK.m{k:Nat}(r:gK k A)(h:j<=k:=by lia):gK j A:=r.mono h
theorem xI(i:Nat){x:Str}{pos:Pos}(hN:X.N.Nodup)(he:PE X e te)(hi:X.N[i]?=some x:=by rfl)(hx:Loc X.env.scope x:=by calc Or.inl rfl)(hs:swapsWith e (some<|.Name x pos') pos.line X.env=pure false:=by rfl)(hf:X.fn x=true\/X.env.scope.names.lookup x=some .local:=by first |exact .inl rfl |exact .inr rfl |assumption):PS X (.Assign [.Name x pos'] e pos) (UK te<|uP i):=xR hN hi hx he hs hf
theorem yG(i:Nat){x:Str}{pos:Pos}(hN:X.N.Nodup)(hi:X.N[i]?=some x:=by rfl)(hx:Loc X.env.scope x:=by calc Or.inl rfl)(hf:X.fn x=true\/X.env.scope.names.lookup x=some .local:=by first |exact .inl rfl |exact .inr rfl |assumption):PG X (.Name x pos) (uP i):=vP hN hi hx hf
theorem zP{a b:Expr}{tb:TE}{pos:Pos}{r:R2}(hr:ur X r)(ha:PE X a ta)(hb:PE X b tb)(hs:LD b:=by calc λ_ _=>rfl):PE X (.Subscript a b pos) (tOp r ta tb):=pe_ix hr ha hb hs
theorem zD{t u:TS}(h:∀N:St->Hp->Prop,(∀σ H,u D σ H->N σ H)->t {D with nx:=N} σ H):LQ t u D σ H:=h (u D) λ_ _ z=>z
theorem FZ{c:TT}{t u:TS}(h:∀T U:Hp->Prop,(∀H1,t D σ H1->T H1)->(∀H1,u D σ H1->U H1)->c σ H λb H1=>if b=true then T H1 else U H1):tIfS c t u D σ H:=h (t D σ) (u D σ) (λ_ z=>z) λ_ z=>z
theorem zK{t u:TS}(J:St->Hp->Prop)(h1:∀N:St->Hp->Prop,(∀σ H,J σ H->N σ H)->t {D with nx:=N} σ H)(h2:∀σ H,J σ H->u D σ H):LQ t u D σ H:=h1 (u D) h2
structure Bi(mg:Str->Option Value):Prop where
 len:mg "len"=none
 range:mg "range"=none
 isinstance:mg "isinstance"=none
 max:mg "max"=none
 sum:mg "sum"=none
 all:mg "all"=none
 tuple:mg "tuple"=none
 list:mg "list"=none
 sorted:mg "sorted"=none
 set:mg "set"=none
 int:mg "int"=none
 bool:mg "bool"=none
 str:mg "str"=none
 dict:mg "dict"=none
theorem qW{k:Nat}{x:Str}{st:Stmt}(F:fT K x x st f fd)(ok:cZ P w K mg base fL k f fd ps sp)(b:Binds K fd ps [])
 (m:mg x=some (.ref f)):fI P w K mg base k x ps sp:=#[f,fd,ok,b,F.kp,m]
inductive Dt where
 |non |bl (b:Bool) |int (i:Int) |str (x:Str) |tup (ds:List Dt) |lst (ds:List Dt)
mutual
def eL(H:Hp):Dt->V->Prop
 | .non,v=>v=.non
 | .bl b,v=>v=.bl b
 | .int i,v=>v=.int i
 | .str x,v=>v=.str x
 | .tup ds,v=>∃a vs,v=.ref a/\H a=some (.tup vs)/\bN H ds vs
 | .lst ds,v=>∃a vs,v=.ref a/\H a=some (.lst vs)/\bN H ds vs
def bN(H:Hp):List Dt->List V->Prop
 |[],vs=>vs=[]
 |d::ds,vs=>∃v r,vs=v::r/\eL H d v/\bN H ds r
end
mutual
theorem eL.same{H H':Hp}(e:aX H H'):∀{d:Dt}{v:V},eL H d v->eL H' d v
 | .non,_,h=>h
 | .bl _,_,h=>h
 | .int _,_,h=>h
 | .str _,_,h=>h
 | .tup ds,v,h=>by
   obtain⟨a,vs,b,c,f⟩:=h;exact#[a,vs,b,e _ _ c,bN.same e f]
 | .lst ds,v,h=>by
   obtain⟨a,vs,b,c,f⟩:=h;exact#[a,vs,b,e _ _ c,bN.same e f]
theorem bN.same{H H':Hp}(e:aX H H'):∀{ds:List Dt}{vs:List V},bN H ds vs->bN H' ds vs
 |[],_,h=>h
 |d::ds,vs,h=>by
  obtain⟨v,r,a,b,c⟩:=h;exact#[v,r,a,eL.same e b,bN.same e c]
end
theorem bN.length{H:Hp}:∀{ds:List Dt}{vs:List V},bN H ds vs->vs.length=ds.length
 |[],vs,h=>by
  let h:vs=[]:=h;rw[h];rfl
 |d::ds,vs,h=>by
  obtain⟨v,r,a,c,b⟩:=h;rw[a,bG,bG,bN.length b]
theorem bN.get{H:Hp}:∀{ds:List Dt}{vs:List V}{i:Nat}{d:Dt},bN H ds vs->ds[i]?=some d->∃v,vs[i]?=some v/\eL H d v
 |[],vs,i,d,_,e=>by simp at e
 |d::ds,vs,0,f,h,e=>by
  obtain⟨v,r,a,b,c⟩:=h;simp at e;subst e;subst a;exact#[v,rfl,b]
 |d::ds,vs,i+1,f,h,e=>by
  obtain⟨v,r,a,b,c⟩:=h;subst a;simp at e;obtain⟨u,h1,h2⟩:=bN.get c e;exact#[u,by simpa using h1,h2]
theorem bN.append{H:Hp}:∀{ds es:List Dt}{vs us:List V},bN H ds vs->bN H es us->bN H (ds++es) (vs++us)
 |[],es,vs,us,h,h'=>by
  let h:vs=[]:=h;subst h;exact h'
 |d::ds,es,vs,us,h,h'=>by
  obtain⟨v,r,a,b,c⟩:=h;subst a;exact#[v,r++us,rfl,b,bN.append c h']
theorem bN.take{H:Hp}:∀{ds:List Dt}{vs:List V}(n:Nat),bN H ds vs->bN H (ds.take n) (vs.take n)
 |ds,vs,0,_=>rfl
 |[],vs,n+1,h=>by
  let h:vs=[]:=h;subst h;rfl
 |d::ds,vs,n+1,h=>by
  obtain⟨v,r,a,b,c⟩:=h;subst a;exact#[v,r.take n,rfl,b,bN.take n c]
theorem bN.drop{H:Hp}:∀{ds:List Dt}{vs:List V}(n:Nat),bN H ds vs->bN H (ds.drop n) (vs.drop n)
 |ds,vs,0,h=>by simpa using h
 |[],vs,n+1,h=>by
  let h:vs=[]:=h;subst h;rfl
 |d::ds,vs,n+1,h=>by
  obtain⟨v,r,a,c,b⟩:=h;subst a;simpa using bN.drop n b
theorem bN.one{d:Dt}(h:eL H d v):bN H [d] [v]:=#[v,[],rfl,h,rfl]
def gY:Nat->Dt->Prop
 |n+1,.tup ds=>ds.length<=1000/\∀d∈ds,gY n d
 |n+1,.lst ds=>ds.length<=1000/\∀d∈ds,gY n d
 |0,.tup _=>False
 |0,.lst _=>False
 |_,_=>True
inductive Tm where
 |name (x:Str)
 |node (w:Str) (ts:List Tm)
mutual
noncomputable def HG:Tm->Dt
 | .name x=>.tup [.str "name",.str x]
 | .node w ts=>.tup (.str w::cv ts)
noncomputable def cv:List Tm->List Dt
 |[]=>[]
 |t::ts=>HG t::cv ts
end
theorem YL:∀ts:List Tm,cv ts=ts.map HG
 |[]=>rfl
 |t::ts=>by rw[cv,YL ts,bY]
theorem YM(w:Str)(ts:List Tm):HG (.node w ts)=.tup (.str w::ts.map HG):=by rw[HG,YL]
abbrev fX(H:Hp)(t:Tm)(v:V):Prop:=eL H (HG t) v
abbrev dQ(H:Hp)(ts:List Tm)(vs:List V):Prop:=bN H (ts.map HG) vs
theorem fX.name{x:Str}(h:fX H (.name x) v):∃a,v=.ref a/\H a=some (.tup [.str "name",.str x]):=by
 obtain⟨a,vs,e,f,u,r,g,b,i⟩:=h;obtain⟨j,k,l,c,d⟩:=i;let b:u=.str "name":=b;let c:j=.str x:=c;let d:k=[]:=d;subst g;subst b;subst l;subst c;subst d;exact#[a,e,f]
theorem fX.mkName{x:Str}(h:H a=some (.tup [.str "name",.str x])):fX H (.name x) (.ref a):=
 #[a,_,rfl,h,_,_,rfl,rfl,_,_,rfl,rfl,rfl]
theorem fX.node{w:Str}(h:fX H (.node w ts) v):∃a vs,v=.ref a/\H a=some (.tup (.str w::vs))/\dQ H ts vs:=by
 unfold fX at h;rw[YM]at h;obtain⟨a,vs,c,d,u,r,e,b,f⟩:=h;let b:u=.str w:=b;subst e;subst b;exact#[a,r,c,d,f]
theorem fX.mkNode{w:Str}(h:H a=some (.tup (.str w::vs)))(hs:dQ H ts vs):fX H (.node w ts) (.ref a):=by
 unfold fX;rw[YM];exact#[a,_,rfl,h,_,_,rfl,rfl,hs]
def Wrd(w:Str):Prop:=w="none"\/w="all"\/w="not"\/w="both"\/w="either"
theorem Wrd.ne{w:Str}(h:Wrd w):w≠"name":=by
 rcases h with rfl |rfl |rfl |rfl |rfl<;>decide+kernel
def Sh(w:Str)(n:Nat):Prop:=(w="none"/\n=0)\/(w="all"/\n=0)\/(w="not"/\n=1)\/(w="both"/\2<=n)\/(w="either"/\2<=n)
theorem Sh.wrd{w:Str}(h:Sh w n):Wrd w:=by
 rcases h with h |h |h |h |h
 ·exact .inl h.1
 ·exact .inr<|.inl h.1
 ·exact .inr<|.inr<|.inl h.1
 ·exact .inr<|.inr<|.inr<|.inl h.1
 ·exact .inr<|.inr<|.inr<|.inr h.1
structure Nm(x:Str):Prop where
 pos:1<=x.length
 most:x.length<=8
 low:∀c∈x.cps.toList,97<=c/\c<=122
 nn:x≠"none"
 na:x≠"all"
def gA:Nat->Tm->Prop
 |_,.name x=>Nm x
 |0,.node w ts=>Sh w ts.length/\ts=[]
 |n+1,.node w ts=>Sh w ts.length/\∀t∈ts,gA n t
theorem gA.up:∀{n:Nat}{t:Tm},gA n t->gA (n+1) t
 |n,.name _,h=>by unfold gA at h⊢;exact h
 |0,.node w ts,h=>by
  unfold gA at h;obtain⟨h1,h2⟩:=h;subst h2;exact#[h1,λ_ z=>nomatch z]
 |n+1,.node w ts,h=>by
  unfold gA at h⊢;exact#[h.1,λt ht=>gA.up<|h.2 t ht]
theorem gA.mono{m:Nat}{t:Tm}(h:gA n t)(hm:n<=m):gA m t:=by
 obtain⟨k,rfl⟩:=Nat.le.dest hm
 induction k with
 |zero=>exact h
 |succ k a=>exact gA.up<|a ()
theorem gA.sh{w:Str}(h:gA n (.node w ts)):Sh w ts.length:=by
 cases n with
 |zero=>exact h.1
 |succ n=>exact h.1
theorem gA.wrd{w:Str}(h:gA n (.node w ts)):Wrd w:=h.sh.wrd
theorem gA.part{w:Str}{t:Tm}(h:gA (n+1) (.node w ts))(ht:t∈ts):gA n t:=h.2 t ht
mutual
noncomputable def wt:Tm->Nat
 | .name _=>1
 | .node _ ts=>1+iW ts
noncomputable def iW:List Tm->Nat
 |[]=>0
 |t::ts=>wt t+iW ts
end
theorem DV:∀t:Tm,1<=wt t
 | .name _=>by rw[wt];lia
 | .node _ _=>by rw[wt];lia
theorem wM:∀ts:List Tm,ts.length<=iW ts
 |[]=>by simp
 |t::ts=>by
  have :=wM ts;have :=DV t;rw[iW,bG];lia
theorem vK:∀{ts:List Tm}{t:Tm},t∈ts->wt t<=iW ts
 |u::ts,t,h=>by
  rw[iW];rcases bI.mp h with h |h
  ·subst h;lia
  ·have :=vK h;lia
theorem yV:∀ts us:List Tm,iW (ts++us)=iW ts+iW us
 |[],us=>by simp[iW]
 |t::ts,us=>by rw[List.cons_append,iW,iW,yV ts us];lia
theorem gA.dfit:∀{n:Nat}{t:Tm},gA n t->wt t<=900->gY (n+1) (HG t)
 |n,.name x,_,_=>by
  rw[HG];unfold gY;calc#[by simp,λd hd=>?_];rcases bI.mp hd with rfl |hd
  ·cases n<;>trivial
  ·rw[aP.mp hd];cases n<;>trivial
 |n,.node w ts,h,a=>by
  rw[YM];rw[wt]at a;let hl:=wM ts;unfold gY;calc#[by rw[bG,aC];lia,λd hd=>?_];rcases bI.mp hd with rfl |hd
  ·cases n<;>trivial
  ·obtain⟨t,ht,rfl⟩:=bH.mp hd;let hm:=vK ht;cases n with
   |zero=>rw[h.2]at ht;cases ht
   |succ n=>exact gA.dfit (h.2 t ht) ()
theorem zB{p:Addr}(h:H p=none)(o:HO):aX H (upd H p o):=λb u q=>by rw[zG<|yR q h];exact q
theorem HM{x y:Str}(h:x.cps=y.cps):x=y:=by
 cases x;cases y;cases h;rfl
theorem IY(p q:Str):(p++q).length=p.length+q.length:=by
 show(p.cps++q.cps).size=p.cps.size+q.cps.size;rw[Array.size_append]
theorem iz(p q:Str):(p++q).cps.toList=p.cps.toList++q.cps.toList:=by
 show(p.cps++q.cps).toList=_;rw[Array.toList_append]
theorem zH(h:n<=1000):n<=sizeLine:=rT<|jD h
theorem dQ.one{t:Tm}(h:fX H t v):dQ H [t] [v]:=bN.one h
theorem dQ.append{us:List Tm}{ws:List V}(h:dQ H ts vs)(h':dQ H us ws):dQ H (ts++us) (vs++ws):=by
 unfold dQ;rw[aQ];exact bN.append h h'
theorem dQ.take(n:Nat)(h:dQ H ts vs):dQ H (ts.take n) (vs.take n):=by
 unfold dQ;rw[List.map_take];exact bN.take n h
theorem dQ.drop(n:Nat)(h:dQ H ts vs):dQ H (ts.drop n) (vs.drop n):=by
 unfold dQ;rw[List.map_drop];exact bN.drop n h
theorem dQ.length(h:dQ H ts vs):vs.length=ts.length:=by
 have :=bN.length h;rw[aC]at this;exact this
theorem dQ.get{t:Tm}(h:dQ H ts vs)(ht:ts[i]?=some t):∃v,vs[i]?=some v/\fX H t v:=
 bN.get (d:=HG t) h (by rw[aF,ht];rfl)
theorem dQ.getV(h:dQ H ts vs)(hv:vs[i]?=some v):∃t,ts[i]?=some t/\fX H t v:=by
 let hi:i<ts.length:=by rw[←h.length];exact(aD.mp hv).1
 obtain⟨u,h1,h2⟩:=h.get<|aA hi;rw[hv]at h1;cases h1;exact#[_,aA hi,h2]
def cV(H H':Hp):Prop:=∀b xs,H b=some (.tup xs)->H' b=some (.tup xs)
theorem cV.refl(H:Hp):cV H H:=λ_ _ h=>h
theorem cV.trans{H1 H2:Hp}(a:cV H H1)(b:cV H1 H2):cV H H2:=λc o h=>b c o<|a c o h
theorem aX.tups(e:aX H H'):cV H H':=λb xs h=>e b _ h
theorem cV.upd_lst{o:HO}(e:cV H H')(h:H' a=some (.lst xs)):cV H (upd H' a o):=λb ys hb=>by
 rw[zG<|jU (e _ _ hb) h (by intro z;cases z)];exact e _ _ hb
theorem aX.upd{H1:Hp}{o:HO}(e:aX H H1)(h:H a=none):aX H (upd H1 a o):=λb u hb=>by
 rw[zG<|yR hb h];exact e _ _ hb
mutual
theorem fX.tups{H H':Hp}(e:cV H H'):∀{t:Tm}{v:V},fX H t v->fX H' t v
 | .name x,v,h=>by
   obtain⟨a,b,h2⟩:=fX.name h;subst b;exact fX.mkName<|e _ _ h2
 | .node w ts,v,h=>by
   obtain⟨a,vs,b,h2,hs⟩:=fX.node h;subst b;exact fX.mkNode (e _ _ h2)<|dQ.tups e hs
theorem dQ.tups{H H':Hp}(e:cV H H'):∀{ts:List Tm}{vs:List V},dQ H ts vs->dQ H' ts vs
 |[],vs,h=>h
 |t::ts,vs,h=>by
  obtain⟨v,r,a,b,c⟩:=h;exact#[v,r,a,fX.tups e b,dQ.tups e c]
end
theorem cx_w{scope:Scope}{cd:Value}{E:XK}:(JC CX P w K mg base N qual scope f cd A outer s H E).w=w:=rfl
theorem bk_w{xs:List Str}{scope:Scope}{C:Addr}{s₀:Shared}{H₀:Hp}:(yH X xs ys scope C s₀ H₀ fp).w=X.w:=rfl
theorem xV:W.kitOne K (.type T) (.type T)=some true:=by
 unfold W.kitOne;rw[aT (by simp)]
noncomputable def kitF(S T:String):Bool:=!(Value.type S==Value.type T)&&W.kitMeta T&&((PySem.fastBuiltinMro S).map (·.contains (.type T))==some false)
theorem lu{S:String}(h:kitF S T=true):W.kitOne K (.type S) (.type T)=some false:=by
 unfold kitF at h;simp only[cC,Bool.not_eq_true',cP]at h;unfold W.kitOne;rw[aH (by rw[h.1.1];decide)];show(if W.kitMeta T=true then W.subIn K (.type S) (.type T)else none)=_;rw[aT h.1.2];exact h.2
theorem rn:W.kitOne K (.type "tuple") (.type "int")=some false:=lu (by decide+kernel)
theorem WM:W.kitOne K (.type "int") (.type "bool")=some false:=lu (by decide+kernel)
theorem UU{P:Program}{w:World}{K:W.Frag}{mg:Str->Option Value}{base:Heap}{x:Str}{ps:List Str}{st:Stmt}{f:Addr}{fd:FuncData}{sp:Nat->Sp}(F:fT K x x st f fd)(b:Binds K fd ps [])(m:mg x=some (.ref f))
 (h0:∀vs H Q E,¬sp 0 vs H Q E) (step:∀n,fI P w K mg base n x ps (sp n)->cZ P w K mg base fL (n+1) f fd ps (sp<|n+1)):∀n,cZ P w K mg base fL n f fd ps<|sp n
 |0=>#[λvs H Q E h=>(h0 vs H Q E h).elim,λA outer s H args us vs Q E _ _ _ _ h=>(h0 vs H Q E h).elim]
 |n+1=>step n<|qW F (UU F b m h0 step n) b m
theorem JD(x:V)(xs:List V):qN (x::xs) (some 1) none=xs:=by
 unfold qN;let e:HT.sIx (x::xs).length 0 (some ((1:Nat):Int))=1:=by rw[HT.sIx_nat,bG];lia
 let e:HT.sIx (x::xs).length 0 (some 1)=1:=e;rw[e,HT.sIx_none,List.drop_one,List.tail_cons,aU (by rw[bG];lia)]
theorem qF(x:V)(xs:List V):¬(HT.sIx (x::xs).length 0 (some 1)=0/\HT.sIx (x::xs).length (x::xs).length none=(x::xs).length):=by
 let e:HT.sIx (x::xs).length 0 (some ((1:Nat):Int))=1:=by rw[HT.sIx_nat,bG];lia
 let e:HT.sIx (x::xs).length 0 (some 1)=1:=e;rw[e];lia
theorem aX.tup{K:W.Frag}{H H':Hp}{a:Addr}{xs:List V}(e:aX H H')(h:cW K H a xs):cW K H' a xs:=by
 rcases h with(h |⟨o,h⟩) |h
 ·exact .inl<|.inl<|e _ _ h
 ·exact .inl<|.inr #[o,e _ _ h]
 ·exact .inr h
theorem gR{x:α}{xs:List α}:pI (x::xs) 0=some x:=zU (j:=0) (xs:=x::xs) rfl
theorem oQ{x y:α}{xs:List α}:pI (x::y::xs) 1=some y:=zU (j:=1) (xs:=x::y::xs) rfl
noncomputable def CM(p:Tm×Tm):Dt:=.tup [HG p.1,HG p.2]
noncomputable def ZN(r:List (Tm×Tm)×(Tm×Tm)):Dt:=.tup [.lst<|r.1.map CM,CM r.2]
abbrev rK(H:Hp)(p:Tm×Tm)(v:V):Prop:=eL H (CM p) v
abbrev mT(H:Hp)(ps:List (Tm×Tm))(vs:List V):Prop:=bN H (ps.map CM) vs
abbrev me(H:Hp)(r:List (Tm×Tm)×(Tm×Tm))(v:V):Prop:=eL H (ZN r) v
theorem rK.out{p:Tm×Tm}(h:rK H p v):∃a v1 v2,v=.ref a/\H a=some (.tup [v1,v2])/\fX H p.1 v1/\fX H p.2 v2:=by
 obtain⟨a,vs,c,d,u,r,e,h1,f,g,i,h2,b⟩:=h;let b:g=[]:=b;subst b;subst i;subst e;exact#[a,u,f,c,d,h1,h2]
theorem me.out{r:List (Tm×Tm)×(Tm×Tm)}(h:me H r v):∃a l s vs,v=.ref a/\H a=some (.tup [.ref l,s])/\H l=some (.lst vs)/\mT H r.1 vs/\rK H r.2 s:=by
 obtain⟨a,vs,c,d,u,q,e,⟨l,ws,f,g,h1⟩,i,j,k,h2,b⟩:=h;let b:j=[]:=b;subst b;subst k;subst e;subst f;exact#[a,l,i,ws,c,d,g,h1,h2]
theorem mT.length{ps:List (Tm×Tm)}(h:mT H ps vs):vs.length=ps.length:=by
 have :=bN.length h;rw[aC]at this;exact this
theorem mT.getV{ps:List (Tm×Tm)}(h:mT H ps vs)(hv:vs[i]?=some v):∃p,ps[i]?=some p/\rK H p v:=by
 let hi:i<ps.length:=by rw[←h.length];exact(aD.mp hv).1
 obtain⟨u,h1,h2⟩:=bN.get (d:=CM ps[i]) h (by rw[aF,aA hi];rfl);rw[hv]at h1;cases h1;exact#[_,aA hi,h2]
def bm(n m:Nat)(p:Tm×Tm):Prop:=(gA n p.1/\wt p.1<=m)/\gA n p.2/\wt p.2<=m
theorem bm.dfit{m:Nat}{p:Tm×Tm}(h:bm n m p)(hm:m<=900):gY (n+2) (CM p):=by
 calc#[by simp,λd hd=>?_];rcases bI.mp hd with rfl |hd
 ·exact h.1.1.dfit<|bX h.1.2 hm
 ·rw[aP.mp hd];exact h.2.1.dfit<|bX h.2.2 hm
theorem gY.up:∀{n:Nat}{d:Dt},gY n d->gY (n+1) d
 |n,.non,_=>by cases n<;>trivial
 |n,.bl _,_=>by cases n<;>trivial
 |n,.int _,_=>by cases n<;>trivial
 |n,.str _,_=>by cases n<;>trivial
 |0,.tup _,h=>h.elim
 |0,.lst _,h=>h.elim
 |n+1,.tup ds,h=>#[h.1,λd hd=>gY.up<|h.2 d hd]
 |n+1,.lst ds,h=>#[h.1,λd hd=>gY.up<|h.2 d hd]
theorem LX{m:Nat}{r:List (Tm×Tm)×(Tm×Tm)}(h:∀p∈r.1,bm n m p)(h2:bm n m r.2)(hm:m<=900)(hl:r.1.length<=900):gY (n+4) (ZN r):=by
 calc#[by simp,λd hd=>?_];rcases bI.mp hd with rfl |hd
 ·calc#[by rw[aC];lia,λd hd=>?_];obtain⟨p,hp,rfl⟩:=bH.mp hd;exact(h p hp).dfit hm
 ·rw[aP.mp hd];exact(h2.dfit hm).up
section
variable (K:W.Frag)
theorem qM(h:X.K=K:=by rfl):ur X (rIxL K):=by subst h;exact zQ
theorem xY(h:X.K=K:=by rfl):ur X (rIxT K):=by subst h;exact wF
theorem PR(h:X.K=K:=by rfl):SlR X (rSlL K):=by subst h;exact vM
theorem FD(h:X.K=K:=by rfl):pG X (compareOp .In) (rIn K false):=by subst h;exact MM
theorem NO(h:X.K=K:=by rfl):xX X (.builtin "len") (λxs H Q=>rJ xs λx=>∃n,NU K x H n/\Q (.int n) H):=by subst h;exact kI
theorem JX(h:X.K=K:=by rfl):xX X (.type "list") (λxs H Q=>rJ xs λx=>oI x λp=>∃ys,(cO K H p ys\/cW K H p ys)/\∀l,H l=none->Q (.ref l) (upd H l<|.lst ys)):=by subst h;exact kH
end
abbrev Cs:=List Nat
noncomputable def GB(j:Cs):List Cs->Cs
 |[]=>[]
 |[s]=>s
 |s::r::q=>s++j++GB j (r::q)
noncomputable def vX(j:Cs):List Cs->Cs
 |[]=>[]
 |s::r=>j++s++vX j r
theorem QQ(j:Cs):∀(s:Cs)(r:List Cs),GB j (s::r)=s++vX j r
 |s,[]=>by simp[GB,vX]
 |s,a::r=>by
  rw[GB,QQ j a r,vX];simp
noncomputable def toS(s:Cs):Str:=#[s.toArray]
theorem XX(j:Cs):∀(r:List Cs)(mO:Cs),((r.map toS).foldl (λmO p=>mO++(toS j).cps++p.cps) mO.toArray)=(mO++vX j r).toArray
 |[],mO=>by simp[vX]
 |s::r,mO=>by
  rw[bY,List.foldl_cons];let e:mO.toArray++(toS j).cps++(toS s).cps=(mO++j++s).toArray:=by simp[toS]
  rw[e,XX j r,vX];simp
theorem NJ(j:Cs)(ss:List Cs):Builtin.Str.glued (toS j) (ss.map toS)=toS (GB j ss):=by
 cases ss with
 |nil=>rfl
 |cons s r=>
  show(#[(r.map toS).foldl (λmO p=>mO++(toS j).cps++p.cps) (toS s).cps]:Str)=_;rw[QQ,show(toS s).cps=s.toArray from rfl,XX];rfl
section
open PySem.Builtin PySem.Builtin.Str PySem.StrLaws
end
section
open PySem.Builtin PySem.Builtin.Str
structure mY(P:Program)(w:World)(K:W.Frag)(mg:Str->Option Value)(base:Heap)(k:Nat)(C:Addr)(m:Str)(ps:List Str)(sp:Sp):Prop where
 ex:∃f fd,cZ P w K mg base fL k f fd ps sp/\Binds K fd ps []/\NT K C m f
structure bj(P:Program)(w:World)(K:W.Frag)(mg:Str->Option Value)(base:Heap)(k:Nat)(C:Addr)(x:Str)(ps:List Str)(sp:Sp):Prop where
 ex:∃f fd,cZ P w K mg base fL k f fd ps sp/\Binds K fd ps []/\Mk K C f/\mg x=some (.ref C)
section
variable {k:Nat} {C:Addr} {x m:Str} {p pos:Pos} {es:List Expr} {t:TA}
theorem xU{pl:Sem Bool}(h:mY X.prog X.w X.K X.mg X.base k C m ps sp)(c:LG X.K C)(hr:gK k X.A)(he:PE X o ta)(ha:PA X (e::es) t)
 (hst:starEach (e::es) X.env=(false,eval e X.env)::starEach es X.env:=by rfl) (iT:(backTo pos<|starEach es X.env).any (·.1)=false:=by rfl)
 (ht:eval (.Call (.Attribute o m lM) (e::es) [] pos) X.env=(do
  let ov ←eval o X.env
  standAt lM.atName
  let (f,first) ←holding [ov] (getMethod ov m pl)
  callWith pos f first (backTo pos<|starEach (e::es) X.env) (backToKw pos<|keywordEach [] X.env)):=by rfl):
 PE X (.Call (.Attribute o m lM) (e::es) [] pos) (yK C m sp [] E0 ta t):=by
 obtain⟨f,fd,F,b,a⟩:=h.ex;exact d7 (pl:=pl) he c a F hr b .nil IJ ha hst iT ht
theorem AV(h:bj X.prog X.w X.K X.mg X.base k C x ps sp)(hr:gK (k+1) X.A)(hg:Gl X x)(ha:PA X (e::es) t)(hdb:(x==("__debug__":Str))=false:=by decide)
 (he:starEach (e::es) X.env=(false,eval e X.env)::starEach es X.env:=by rfl) (iT:(backTo pos<|starEach es X.env).any (·.1)=false:=by rfl):
 PE X (.Call (.Name x p) (e::es) [] pos) (HI C sp [] E0 t):=by
 obtain⟨f,fd,F,b,M,m⟩:=h.ex;exact d8 M F hr hg m b .nil IJ ha hdb he iT
end
def gQ(r:Addr)(H H':Hp):Prop:=∀b o,H b=some o->b≠r->H' b=some o
theorem gQ.refl(r:Addr)(H:Hp):gQ r H H:=λ_ _ h _=>h
theorem aX.x(a:aX H H'):gQ r H H':=λc o h _=>a c o h
theorem gQ.upd{H1:Hp}{o:HO}(a:gQ r H H1):gQ r H (L2.upd H1 r o):=λc o' h n=>by
 rw[zG n];exact a c o' h n
theorem F.lk_list_keys:typeLookup (.type "list") "keys"=pure none:=by rw[tR,ck];kernel_rfl
theorem F.lk_list_ga:typeLookup (.type "list") "__getattr__"=pure none:=by rw[tR,ck];kernel_rfl
theorem F.sub_ae:isSubtype (.type "AttributeError") (.type "AttributeError")=pure true:=by rw[GY];kernel_rfl
def jd(h h':Heap)(e:Addr):Prop:=(∀b u,h.get? b=some u->h'.get? b=some u)/\∃o,h'.get? e=some o/\o.cls=.type "AttributeError"
section
variable {its:Array Value} {sl:Array (Option Value)}
theorem MD{o:Value}{name msg:Str}{Q:α->Shared->Prop}(hA:A.handled=none)(hm:msg.length<=sizeLine)
 (hq:∀h' t' e,jd s.heap h' e->E (.ref e) {s with heap:=h',toks:=t'}):wpAny (model prog w) A (raiseAttrError o name msg:Sem α) Q E s:=by
 unfold raiseAttrError;calc aE<|wpAny_mkStr (aE ?_) hm;unfold newExc newTuple;calc aE (cT ?_ (by size_fits));refine aE (m:=firstArgMember _ _) (wpAny_of_eq (a:=Value.none) (by
  simp only[firstArgMember];rw[show((Manifest.find? "AttributeError").elim false λt=>t.mro.contains "StopIteration" ||t.mro.contains "SystemExit")=false by decide+kernel];rfl) ?_)
 calc cT ?_ (by size_fits);calc aE<|wpAny_mkText ?_;calc aE ?_;obtain⟨h,g,d,t,os⟩:=s;dsimp only at hq⊢;let c:∀b u,h.get? b=some u->(h.push {cls:=Value.type "tuple",data:=Data.seq (List.toArray [Value.str msg t])}).get? b=some u:=λb u e=>aO _ e
 generalize h.push {cls:=Value.type "tuple",data:=Data.seq (List.toArray [Value.str msg t])}=h1 at c⊢;let f:=bF h1 (o:={cls:=Value.type "AttributeError",data:=Data.fields ((List.toArray [Value.ref h.objs.size,Value.none,Value.none,Value.none,Value.bool false,Value.none])++ownMembersOf (Value.type "AttributeError") [Value.str msg t])}) rfl;let i:∀b u,h1.get? b=some u->(h1.push {cls:=Value.type "AttributeError",data:=Data.fields ((List.toArray [Value.ref h.objs.size,Value.none,Value.none,Value.none,Value.bool false,Value.none])++ownMembersOf (Value.type "AttributeError") [Value.str msg t])}).get? b=some u:=λb u e=>aO _ e
 let mX:∀b u,h1.get? b=some u->b≠h1.objs.size:=λb u e=>bK<|bA e
 generalize h1.push {cls:=Value.type "AttributeError",data:=Data.fields ((List.toArray [Value.ref h.objs.size,Value.none,Value.none,Value.none,Value.bool false,Value.none])++ownMembersOf (Value.type "AttributeError") [Value.str msg t])}=h2 at f i⊢;generalize h1.objs.size=e at f mX⊢;let j:(#[h2,g,d,t+1+1,os]:Shared).TypeIs (.ref e) "AttributeError":=#[_,f,rfl]
 let k:=F.sub_ae;unfold noteAttr;dsimp only;calc aE ?_;unfold lacksNameAndObj;dsimp only;calc aE<|pR j k ?_;rw[aH (by decide)];calc aE<|bp f ?_;dsimp only;rw[aH (by simp[ownMembersOf,unsetMember,rawInt]),aH (by simp[ownMembersOf,unsetMember,doubtfulMember,rawInt])];calc aJ ?_;rw[aT rfl];calc aE<|pQ ?_;calc aE<|hW j ?_;dsimp only;unfold layMembers;calc aE<|bp f ?_;dsimp only;calc wpAny_update f ?_;calc wpAny_raiseNew_none hA (hq _ _ _ #[λb u hb=>?_,#[_,fO _ f<|Obj.isFreed_of_fields<|br rfl _,Obj.cls_mapFields _ _]]);exact(gI _ _<|cE<|mX b u<|c b u hb).trans (i b u<|c b u hb)
end
section
variable {g:Array GenState} {d:Drawn} {t:Nat} {os:OsState} {its:Array Value} {sl:Array (Option Value)}
theorem VI{tk:Tok}{Q:PySem.Fin->Shared->Prop}(hA:A.handled=none)(hx:h.get? a=some #[.type "list",none,.seq its n,sl])
 (hq:∀h' t' e,jd h h' e->E (.ref e) #[h',g,d,t',os]):
 wpAny (model prog w) A (Builtin.«object.__getattribute__» #[[.ref a,.str "keys" tk],[]]) Q E #[h,g,d,t,os]:=by
 let b:(#[h,g,d,t,os]:Shared).TypeIs (.ref a) "list":=#[_,hx,rfl]
 let c:=F.lk_list_keys
 repeat (any_goals (first |assumption |wp_step))
 exact MD hA (by decide+kernel) hq
theorem BX{tk:Tok}(hA:A.handled=none)(hx:h.get? a=some #[.type "list",none,.seq its n,sl])
 (hq:∀h' t' e,jd h h' e->R (.error<|.ref e) #[h',g,d,t',os]):
 codeAny (model prog w) A (.call (.builtin "list.__getattribute__") #[[.ref a,.str "keys" tk],[]]) R #[h,g,d,t,os]:=
 codeAny_call_builtin hZ.plain F.entry_list_ga (hZ.check _ _ _ _ _ _ _ _ (show(#[h,g,d,t,os]:Shared).TypeIs (.ref a) "list" from#[_,hx,rfl]) (F.args_list_getattribute_2 _ _)<|VI hA hx hq)
theorem MW{tk:Tok}(hA:A.handled=none)(hx:h.get? a=some #[.type "list",none,.seq its n,sl])
 (hq:∀h' t' e,jd h h' e->E (.ref e) #[h',g,d,t',os]):wpAny (model prog w) A (getAttrBy (.ref a) (.str "keys" tk) false) Q E #[h,g,d,t,os]:=by
 let f:(#[h,g,d,t,os]:Shared).TypeIs (.ref a) "list":=#[_,hx,rfl]
 let i:=hZ.lookup;let j:=hZ.bind<|.ref a;let k:=F.lk_list_ga;let l:=F.sub_ae
 repeat (any_goals (first |assumption |wp_step))
 refine BX hA hx λh' t' e b=>?_
 let c:(#[h',g,d,t',os]:Shared).TypeIs (.ref e) "AttributeError":=b.2
 repeat (any_goals (first |assumption |exact hq _ _ _ b |wp_step))
theorem TD{Q:Option Value->Shared->Prop}(hA:A.handled=none)(hx:h.get? a=some #[.type "list",none,.seq its n,sl])
 (hq:∀h' t',(∀b u,h.get? b=some u->h'.get? b=some u)->Q none #[h',g,d,t',os]):wpAny (model prog w) A (getAttr? (.ref a) "keys") Q E #[h,g,d,t,os]:=by
 unfold getAttr? getAttrBy?;calc aE (wpAny_mkText<|aE<|sL<|MW hA hx λh' t' e f=>?_);dsimp only;let c:(#[h',g,d,t',os]:Shared).TypeIs (.ref e) "AttributeError":=f.2;calc aE<|pR c F.sub_ae ?_;rw[aT rfl];exact aJ<|hq _ _ f.1
end
theorem F.plain_dul:plainId "dict.update.loop"=true:=by decide+kernel
theorem F.entry_dul:entryFor table "dict.update.loop"=some Builtin.«dict.update.loop»:=entryFor_of_tree (by kernel_rfl)
section
variable {Kt:Type} [DecidableEq Kt] {knd:KeyKind prog w Kt}
theorem AD{kvs:List (Kt×Value)}(hn:(kvs.map (·.1)).Nodup){k:Kt}{v:Value}(h:kvs[i]?=some (k,v)):stored (kvs.take i) k v=kvs.take (i+1):=by
 obtain⟨c,b⟩:=aD.mp h;let a:(kvs.take i).any (λd=>d.1=k)=false:=by
  rw[dM];intro z;obtain⟨x,hx,hk⟩:=fG.mp z;let hk:x.1=k:=by simpa using hk
  obtain⟨j,f,e⟩:=cQ hx;rw[bD]at f;rw[rE]at e;exact cH.mp hn j i (by rw[aC];lia) (by rw[aC];lia) () (by simp[e,b,hk])
 unfold stored;rw[a,aI c,b];rfl
theorem EZ{its:Array Value}{kvs:List (Kt×Value)}{h0:Heap}(hA:A.handled=none)(hdi:d≠it)(hl:h0.IsList l its)(hd0:∀u,h0.get? d≠some u)(hi0:∀u,h0.get? it≠some u)
 (hn:(kvs.map (·.1)).Nodup) (hsz:kvs.length<=sizeLine) (eQ:its.size=kvs.length) (hp:∀(i:Nat)(k:Kt)(v:Value),kvs[i]?=some (k,v)->∃(a:Addr)(key:Value),its[i]?=some (Value.ref a)/\IsTup h0 a (List.toArray [key,v])/\knd.is k key=true):
 ∀(m i:Nat)(t:Tok)(s:Shared),kvs.length-i=m->i<=kvs.length->s.heap.IsListIter it l i->s.heap.DictOf knd d (kvs.take i)->(∀b u,h0.get? b=some u->s.heap.get? b=some u)->
 (∀h' t',(∀b u,h0.get? b=some u->h'.get? b=some u)->h'.DictOf knd d kvs->R (.ok<|.ret .none) {s with heap:=h',toks:=t'})->
 codeAny (model prog w) A (.builtin "dict.update.loop" #[[.ref d,.ref it,.int i t,.none],[]]) R s:=by
 intro m
 induction m with
 |zero=>
  intro i t s hm hi e hd hk y;let mF:i=kvs.length:=by lia
  subst mF;let iK:s.heap.IsList l its:=by obtain⟨o,f,r⟩:=hl;exact#[o,hk _ _ f,r]
  calc fJ F.entry_dul ?_;rw[eJ F.plain_dul _];show wpAny _ A.in1 (pyNext (.ref it) >>= _) _ _ s;calc aE (DN (A:=A.in1) hA e iK (by rw[jr];lia) λh' he=>?_);rw[aU<|aG _]at hd;show wpAny _ A.in1 (Builtin.Dict.addKeywords d [] >>= _) _ _ _;refine aE (aJ<|aJ<|y h' s.toks (λb u hb=>he b u (λz=>hi0 u (by rw[←z];calc hb))<|hk b u hb)<|hd.extBut he hdi)
 |succ m H=>
  intro i t s hm hi e hd hk y;let lR:i<kvs.length:=by lia
  let iK:s.heap.IsList l its:=by obtain⟨o,f,r⟩:=hl;exact#[o,hk _ _ f,r]
  obtain⟨a,key,ha,ht,g⟩:=hp i kvs[i].1 kvs[i].2 (aA lR);calc fJ F.entry_dul ?_;rw[eJ F.plain_dul _];show wpAny _ A.in1 (pyNext (.ref it) >>= _) _ _ s;calc aE (tG (A:=A.in1) e iK ha λh1 h j=>?_);let n:∀b u,h0.get? b=some u->h1.get? b=some u:=λb u hb=>(j.2 b λz=>hi0 u (by rw[←z];calc hb)).trans (hk b u hb)
  let B:h1.DictOf knd d (kvs.take i):=hd.sameBut j hdi;obtain⟨J,C,D,K,E⟩:=ht;let c:=n _ _ C;let I:({s with heap:=h1}:Shared).TypeIs (.ref a) "tuple":=#[_,c,D]
  calc aE<|dG<|aE ?_;calc wpAny_tryCatch ?_;unfold Builtin.Dict.pairItems;calc aE<|hW I ?_;rw[aT (by decide)];calc aE<|GU c E<|aJ ?_;calc dG (wpAny_dictSet_pairs (kvs:=kvs.take i) g B (λh2 p q=>?_) (by rw[bD];lia));rw[AD hn<|show kvs[i]?=some (kvs[i].1,kvs[i].2)from aA lR]at p;calc aJ #[iE F.plain_dul _,?_];let G:∀b u,h0.get? b=some u->h2.get? b=some u:=λb u hb=>(q.2 b λz=>hd0 u (by rw[←z];calc hb)).trans (n b u hb)
  let x:h2.IsListIter it l (i+1):=by obtain⟨o,f,r⟩:=h;exact#[o,(q.2 _<|cE hdi).trans f,r]
  exact H (i+1) _ {s with heap:=h2,toks:=s.toks+1} () lR x p G y
theorem ZT{its:Array Value}{kvs:List (Kt×Value)}(hA:A.handled=none)(hl:PlainL s.heap l its)
 (hn:(kvs.map (·.1)).Nodup) (hsz:kvs.length<=sizeLine) (eQ:its.size=kvs.length) (hp:∀(i:Nat)(k:Kt)(v:Value),kvs[i]?=some (k,v)->∃(a:Addr)(key:Value),its[i]?=some (Value.ref a)/\IsTup s.heap a (List.toArray [key,v])/\knd.is k key=true)
 (h:∀h' t',(∀b u,s.heap.get? b=some u->h'.get? b=some u)->h'.DictOf knd s.heap.objs.size kvs->Q (.ref s.heap.objs.size) {s with heap:=h',toks:=t'}):
 wpAny (model prog w) A (call (.type "dict") [.ref l]) Q E s:=by
 calc callType_codes (Q₁:=λobj s₁=>obj=.ref s.heap.objs.size/\s₁={s with heap:=s.heap.push {cls:=.type "dict",data:=.dict (List.toArray [])}}) F.kt_called_dict (jk _) F.entry_dict_init (kt_code_dict_new _ #[rfl,rfl]) ?_;rintro obj s₁ ⟨rfl,rfl⟩;let c:(s.heap.push {cls:=.type "dict",data:=.dict (List.toArray [])}).DictOf knd s.heap.objs.size []:=Heap.DictOf.new s.heap;calc#[c.typeIs,F.args_dict_init_2 _ _,?_];obtain⟨ol,L,p,m,q,r⟩:=hl;let f:(s.heap.push {cls:=.type "dict",data:=.dict (List.toArray [])}).get? l=some ol:=aO _ p;let J:({s with heap:=s.heap.push {cls:=.type "dict",data:=.dict (List.toArray [])}}:Shared).TypeIs (.ref l) "list":=#[_,f,m]
 unfold Builtin.«dict.__init__»;calc aE ?_;unfold Builtin.Dict.selfAndRest;calc aE<|pL c.typeIs ?_;show wpAny _ _ (pure (s.heap.objs.size,[Value.ref l])) _ _ _;calc aJ ?_;show wpAny _ _ (Builtin.Dict.updateFrom "dict.__init__" s.heap.objs.size (.ref l) [] .none) _ _ _;unfold Builtin.Dict.updateFrom;calc aE<|hW J ?_;rw[aT (by decide)];let n:∀b u,s.heap.get? b=some u->(s.heap.push {cls:=.type "dict",data:=.dict (List.toArray [])}).get? b=some u:=λb u e=>aO _ e
 let x:∀u,s.heap.get? s.heap.objs.size≠some u:=λu z=>dP _<|bA z
 obtain⟨oC,g,d,t,os⟩:=s;dsimp only at *;generalize oC.push {cls:=.type "dict",data:=.dict (List.toArray [])}=h1 at c f J n⊢;generalize oC.objs.size=D at c x h⊢;obtain⟨M,N,O,P⟩:=ol;dsimp only at m q r;subst m q r;calc aE (TD (A:=A.in1.in1) hA f λh2 R j=>?_);rw[aT (by rfl)];calc aE<|pQ ?_;let C:h2.IsList l its:=#[_,j _ _ f,rfl,_,rfl]
 calc aE<|oW C ?_;calc aJ #[iE F.plain_dul _,?_];let y:=c.keep j;let B:∀u,oC.get? h2.objs.size≠some u:=λu z=>dP _<|bA<|j _ _<|n _ _ z
 let G:D≠h2.objs.size:=λz=>by
  obtain⟨o,_,_,K,_⟩:=y;exact dP _ (by have :=bA K;rw[z]at this;calc this)
 refine EZ (h0:=oC) (kvs:=kvs) (A:=A.in1) hA G #[_,p,rfl,_,rfl] x B hn hsz eQ hp kvs.length 0 _ _ () (cS _) #[_,bF _ rfl,rfl,rfl] (y.push _) (λb u hb=>aO _<|j _ _<|n _ _ hb) λh' t' H I=>?_
 exact#[rfl,h h' t' H I]
end
theorem AZ{P:Program}{w:World}{h:Heap}:∀(kvs:List (eV×V))(as:List Addr),(∀(i:Nat)(k:eV)(v:V),kvs[i]?=some (k,v)->∃a its,as[i]?=some a/\cY [kV k,v] its/\IsTup h a its.toArray)->
 ∃vs:List (eV×Value),KV kvs vs/\∀(i:Nat)(k:eV)(v:Value),vs[i]?=some (k,v)->∃(a:Addr)(key:Value),as[i]?=some a/\IsTup h a (List.toArray [key,v])/\(zX P w).is k key=true
 |[],as,_=>#[[],.nil,λi k v e=>by simp at e]
 |(k,v)::kvs,as,d=>by
  obtain⟨a,its,h1,h2,f⟩:=d 0 k v rfl;cases as with
  |nil=>simp at h1
  |cons g as=>
   simp at h1;subst h1;obtain⟨j,l,rfl,m,rv⟩:=h2.two;obtain⟨vs,n,o⟩:=AZ (P:=P) (w:=w) kvs as λi k v e=>by
    obtain⟨a,its,b,c⟩:=d (i+1) k v (by simpa using e);exact#[a,its,by simpa using b,c]
   calc#[(k,l)::vs,.cons #[rfl,rv] n,λi p v' e=>?_];cases i with
   |zero=>
    simp at e;obtain⟨rfl,rfl⟩:=e;exact#[g,j,rfl,f,XR m]
   |succ i=>
    obtain⟨a,key,b,c⟩:=o i p v' (by simpa using e);exact#[a,key,by simpa using b,c]
theorem VM{κ:Type}:∀{kvs:List (κ×V)}{vs:List (κ×Value)},KV kvs vs->vs.map (·.1)=kvs.map (·.1)
 |_,_,.nil=>rfl
 |_,_,.cons h r=>by rw[bY,bY,VM r,h.1]
theorem JE:xX X (.type "dict") (λxs H Q=>i6 X.calm (rJ xs λx=>oI x λp=>∃as:List Addr,cO X.K H p (as.map V.ref)/\∃kvs:List (eV×V),as.length=kvs.length/\(kvs.map (·.1)).Nodup/\
 (∀(i:Nat)(k:eV)(v:V),kvs[i]?=some (k,v)->∃a,as[i]?=some a/\cW X.K H a [kV k,v])/\∀l,H l=none->Q (.ref l) (upd H l<|.dK kvs))):=by
 intro aM s σ H xs us Q I r h;replace h:=GL h;obtain⟨hc,h⟩:=h;replace h:=wJ h;obtain⟨A,rfl,h⟩:=h;replace h:=xK h;obtain⟨p,rfl,as,hp,kvs,eQ,hn,hk,q⟩:=h;obtain⟨u,rfl,j⟩:=jY r;cases j;obtain⟨its,rv,hl,hz⟩:=I.list hp;let mN:=rv.length;rw[aC]at mN hz;obtain⟨vs,b,m⟩:=AZ (P:=X.prog) (w:=X.w) (h:=s.heap) kvs as λi k v e=>by
  obtain⟨a,c,d⟩:=hk i k v e;obtain⟨its,n,t,_⟩:=I.tuple d;exact#[a,its,c,n,t]
 let y:kvs.length=vs.length:=fA b;refine ZT (knd:=zX X.prog X.w) (kvs:=vs) (I.ok.hd hc) hl (by rw[VM b];calc hn) () (by rw[aR];lia) (λi k v e=>?_) λh' t' f g=>?_
 ·obtain⟨a,key,c,d,z⟩:=m i k v e;obtain⟨u,h1,h2⟩:=rv.get (i:=i) (x:=V.ref a) (by rw[aF,c];rfl);cases h2;exact#[a,key,by simpa using h1,d,z]
 ·exact#[.ref s.heap.objs.size,_,I.laid (a:=s.heap.objs.size) (o:=.dK kvs) (t':=t') f (aG _)<|aj () (cG.mpr<|cE<|bK I.big) b g,rfl,q _<|I.hok.fresh<|aG _]
end
section
open PySem.W
section
variable {P:Nat->Value->Prop} {OK:Heap->Prop}
theorem HL:∀{vs:List Value}{ss:List Str},vs.length=ss.length->(∀(i:Nat)(v:Value)(x:Str),vs[i]?=some v->ss[i]?=some x->∃t,v=.str x t)->StrsAre vs ss
 |[],[],_,_=>.nil
 |[],_::_,h,_=>by simp at h
 |_::_,[],h,_=>by simp at h
 |v::vs,x::ss,h,a=>by
  obtain⟨t,rfl⟩:=a 0 v x rfl rfl;exact .cons x t (HL (by simpa using h) λi v' b h1 h2=>a (i+1) v' b (by simpa using h1) (by simpa using h2))
theorem QE:∀{vs:List Value}{ss:List Str},StrsAre vs ss->cY (ss.map V.str) vs
 |_,_,.nil=>.nil
 |_,_,.cons y t h=>.cons #[t,rfl]<|QE h
theorem EJ(K:KdlSrc prog w T r d n P OK)(hh:A.handled=none)(hok:OK s.heap)(hn:n<64){ss:List Str}(hl:ss.length=n)(hP:∀(i:Nat)(v:Value)(x:Str),P i v->ss[i]?=some x->∃t,v=.str x t)
 (h:∀(h1 h':Heap)(tk:Nat)(oJ:List Value)(ss':List Str)(e:Nat),(∀b o,s.heap.get? b=some o->h1.get? b=some o)->(∀b o,h1.get? b=some o->h'.get? b=some o)->h'.get? h1.objs.size=some {cls:=.type "list",data:=.seq oJ.toArray e}->StrsAre oJ ss'->ss'.Perm ss->sortedS ss'=true->Q (.ref h1.objs.size) {s with heap:=h',toks:=tk}):
 wpAny (model prog w) A (call (.builtin "sorted") [.ref r]) Q E s:=by
 let hs:sizeLine=16777216:=dH;calc rW kind_sorted plain_sorted entry_sorted (args_sorted1 _) ?_;unfold Builtin.«sorted»;calc aE (m:=checkCount "sorted" 1 1 _)<|aJ ?_;calc aE (kdu_collect (A:=A.in1) K hh hok () λh' tk mO hk a=>?_);let j:mO.toList.length=n:=by rw[cI];exact a.1
 let g:StrsAre mO.toList ss:=HL () λi v x h1 h2=>hP i v x (a.2 i v (by rw[←gH];calc h1)) h2
 generalize mO.toList=vs at j g;calc aE<|ON ?_ ();let c:(h'.push<|seqObj "list" vs.toArray 0).get? h'.objs.size=some (seqObj "list" vs.toArray 0):=bF _ rfl;show wpAny _ _ _ _ _ {s with heap:=h'.push (seqObj "list" vs.toArray 0),toks:=tk};calc aE (dG<|eA slot_list_sort #[_,c,rfl] entry_list_sort (list_sort_treeK (A:=A.in1.in1) strKind_oneLt c g.keysOf (λv₁ v₂ nU e=>keyKind_strs (by rw[←e];calc g)) () λk l p=>#[_,rfl,?_])<|args_list_sort _);obtain⟨ss',h1,h2,q⟩:=sorted_out_str g l p;obtain⟨e,he⟩:=sortedHeap_at (out:=(arrOf k).map (·.2)) c;calc aJ #[_,rfl,h h' _ tk _ ss' e hk (λb o f=>?_) (by rw[pE];calc he) h1 h2 q];let lR:=bA f;rw[sortedHeap_old (bK lR) (by rw[size_push'];calc gP lR)];exact aO _ f
end
theorem WC:xX X (.builtin "sorted") (λxs H Q=>i6 X.calm (rJ xs λx=>oI x λp=>∃kvs:List (eV×V),H p=some (.dK kvs)/\∃zs:List Str,kvs.map (·.1)=zs.map Sum.inr/\zs.length<64/\
 ∀l mW,H l=none->mW.Perm zs->sortedS mW=true->Q (.ref l) (upd H l<|.lst<|mW.map V.str))):=by
 intro aM s σ H xs us Q I r h;replace h:=GL h;obtain⟨hc,h⟩:=h;replace h:=wJ h;obtain⟨L,rfl,h⟩:=h;replace h:=xK h;obtain⟨p,rfl,kvs,hp,zs,hk,m,q⟩:=h;obtain⟨u,rfl,n⟩:=jY r;cases n;obtain⟨z,hd,vs,rel,A⟩:=ZL I.hok<|.inl hp;obtain⟨ep,d⟩:=A.dictAt;let B:kvs.length=vs.length:=fA rel;let C:kvs.length=zs.length:=by have :=cM List.length hk;rwa[aC,aC]at this
 let b:vs.map (·.1)=zs.map Sum.inr:=(VM rel).trans hk;refine EJ (kdl_dict (knd:=zX X.prog X.w) (kvs:=vs) (ep:=ep) hd) (I.ok.hd hc) d () (ss:=zs) () (λi v x D hx=>?_) λh1 h' tk oJ c e E F G J iP f=>?_
 ·obtain⟨k,y,h1,h2⟩:=D;let g:(vs.map (·.1))[i]?=some k:=by rw[aF,h1];rfl
  rw[b,aF,hx]at g;cases g;let h2:XQ (.inr x) v=true:=h2;rcases yL h2 with⟨_,_,e,_⟩ |⟨M,t,e,K⟩
  ·cases e
  ·cases e;exact#[t,K]
 ·let j:Inv X aM σ H {s with heap:=h1,toks:=tk}:=I.kept E;let eQ:c.length=zs.length:=iP.length_eq;exact#[.ref h1.objs.size,_,j.laid (a:=h1.objs.size) (o:=.lst<|c.map V.str) (t':=tk) F (aG _) #[by rw[aC,dH];lia,oJ,e,QE J,G],rfl,q _ _ (j.hok.fresh<|aG _) iP f]
theorem GG(l:Addr)(items:Array Value)(n:Nat)(b:Addr)(dd:Option Addr)(sl:Array (Option Value))(iA:Array Value)(n2:Nat)(hs0:¬(!items.isEmpty&&Builtin.List.listTooLong (items.size+iA.size))=true)(hs1:items.size<=sizeLine)(hs2:items.size+iA.size<=sizeLine+1):
 Meets (Builtin.«list.extend» #[[.ref l,.ref b],[]]) (λ_ R s=>s.heap.get? l=some {cls:=.type "list",dict:=none,data:=.seq items n,slots:= (List.toArray [])}/\s.heap.get? b=some #[.type "tuple",dd,.seq iA n2,sl]/\R (.ok<|.ret Value.none) {s with heap:=s.heap.update l (Obj.mapSeq λx=>x++iA),toks:=s.toks}):=
 .of_wp λprog w A R s h=>by
  obtain⟨hp,g,d,tk,os⟩:=s;obtain⟨hl,hb,h⟩:=h;let c:=PySem.AutoSeq1.sub_tuple_tuple;let e:=PySem.AutoSeq1.sub_tuple_list;let a:(items++iA).size<=sizeLine+1:=by rw[Array.size_append];exact hs2
  wp_walk using(wpAny_updateSeq hl rfl (hz:=hs1) (_hz':=a)),OB hl,OB hb
  exact#[_,rfl,h]
def wR(K:W.Frag):V->List V->Hp->VK->Prop:=λx vs H Q=>oI x λl=>rJ vs λz=>oI z λb=>∃xs,H l=some (.lst xs)/\∃zs,cW K H b zs/\xs.length+zs.length<=sizeLine/\Q .non (upd H l<|.lst<|xs++zs)
theorem wD:MtM X "list.extend" (wR X.K):=by
 intro aM s σ H x vs v us Q I k rv h;replace h:=xK h;obtain⟨l,rfl,h⟩:=h;replace h:=wJ h;obtain⟨x,rfl,h⟩:=h;replace h:=xK h;obtain⟨b,rfl,xs,f,zs,m,hz,q⟩:=h;cases k;obtain⟨u,rfl,o⟩:=rv.one;cases o;obtain⟨z,its,n,r,hl,e⟩:=I.lstM f;obtain⟨a,g,⟨p,t,i,w,j⟩,C⟩:=I.tuple m;obtain⟨D,y,E,A⟩:=p;dsimp only at i j;subst i j;let B:=g.length;let d:its.toArray.size+a.toArray.size<=sizeLine:=by rw[aR,aR];lia
 let c:¬(!its.toArray.isEmpty&&Builtin.List.listTooLong (its.toArray.size+a.toArray.size))=true:=by
  rw[XG d,lE];exact aY
 refine tI gS #[_,e,rfl] F.entry_list_extend (F.args_list_extend_2 _ _)
  (GG l its.toArray n b y A a.toArray w c (by rw[aR];lia) ()) #[e,t,?_]
 calc#[.non,_,I.lset (its':=its++a) f e (by simp) (r.append g) ?_,rfl,q];rw[aK];lia
end
noncomputable def ZU(w:World):Bool:=w.params.followText "set-order"
theorem im(t:SetTable)(es:Array (Int×Value))(h:Int)(x:Value):(layNew t es h x).2.1.led=t.led:=by
 unfold layNew;split
 ·dsimp only;unfold SetTable.orStandIn;split<;>rfl
 ·rfl
theorem UT{t t':SetTable}{hs:Array Int}{o:Array Nat}(h:t.relaid hs n=some (t',o)):t'.led=t.led/\t'.plain=t.plain:=by
 unfold SetTable.relaid SetTable.laid at h;cases hc:SetTable.layClean (SetTable.sizeAbove n-1) hs with
 |none=>rw[hc]at h;cases h
 |some a=>
  rw[hc]at h;let h:=cD h;let e:=cM Prod.fst h;dsimp only at e;rw[←e];exact#[rfl,rfl]
theorem LZ(t:SetTable)(es:Array (Int×Value))(n:Nat):(relayAll t es n).2.1.led=t.led:=by
 unfold relayAll;split
 ·rename_i t' o hr
  dsimp only;split
  ·exact(UT hr).1
  ·rfl
 ·rfl
theorem gW:Slot "set_iterator" "__next__" "set_iterator.__next__":=
 .of (owner:="set_iterator") (n:="__next__") (by rw[tR,builtinLookup_eq_fast];kernel_rfl) (by decide+kernel) (by decide+kernel) (by decide+kernel)
  (by first |exact .inl (by decide+kernel) |calc .inr (by decide+kernel)) (by rw[GY];kernel_rfl)
theorem ZD:Slot "set_iterator" "__iter__" "set_iterator.__iter__":=
 .of (owner:="set_iterator") (n:="__iter__") (by rw[tR,builtinLookup_eq_fast];kernel_rfl) (by decide+kernel) (by decide+kernel) (by decide+kernel)
  (by first |exact .inl (by decide+kernel) |calc .inr (by decide+kernel)) (by rw[GY];kernel_rfl)
theorem ZJ:entryFor table "set_iterator.__next__"=some Builtin.«set_iterator.__next__»:=entryFor_of_tree (by kernel_rfl)
theorem VP:entryFor table "set_iterator.__iter__"=some Builtin.«dict_keyiterator.__iter__»:=
 entryFor_alias (id':="dict_keyiterator.__iter__") (by kernel_rfl) rfl (by decide+kernel) (by kernel_rfl)
theorem JU:entryFor table "set.__iter__"=some Builtin.«frozenset.__iter__»:=
 entryFor_alias (id':="frozenset.__iter__") (by kernel_rfl) rfl (by decide+kernel) (by kernel_rfl)
theorem ZF:Manifest.owners.lookup (String.ofList ['r','o','t','a','r','e','t','i','_','t','e','s'].reverse)=some Manifest.sig_set_iterator:=by kernel_rfl
theorem JJ(a:Value):argsOk "set_iterator.__next__" #[[a],[]]:=by
 unfold argsOk;rw[signature?_of (id:="set_iterator.__next__") (n:=['_','_','t','x','e','n','_','_']) (o:=['r','o','t','a','r','e','t','i','_','t','e','s']) (by kernel_rfl) ZF];kernel_rfl
theorem DE(a:Value):argsOk "set_iterator.__iter__" #[[a],[]]:=by
 unfold argsOk;rw[signature?_of (id:="set_iterator.__iter__") (n:=['_','_','r','e','t','i','_','_']) (o:=['r','o','t','a','r','e','t','i','_','t','e','s']) (by kernel_rfl) ZF];kernel_rfl
theorem wI{α:Type}:∀(l:List α)(i:Nat)(h:i<l.length),(l[i]::l.eraseIdx i).Perm l
 |[],i,h=>by simp at h
 |x::l,0,h=>nQ _
 |x::l,i+1,h=>by
  have :=wI l i (by simpa using h);simp only[List.getElem_cons_succ,List.eraseIdx_cons_succ];exact(List.Perm.swap _ _ _).trans (List.Perm.cons _ this)
theorem QG(f:Nat->Nat)(xs:Array α):(pickOrder f xs).toList.Perm xs.toList:=by
 let key:∀(n k:Nat)(left:List α)(out:Array α),left.length=n->(pickOrder.go f n k left out).toList.Perm (out.toList++left):=by
  intro n
  induction n with
  |zero=>
   intro k left out hl;have :left=[]:=eS.mp hl;subst this;unfold pickOrder.go;simp
  |succ n a=>
   intro k left out hl;unfold pickOrder.go;let lR:f k % left.length<left.length:=Nat.mod_lt _ ();rw[aA lR];dsimp only;calc(a (k+1) _ _ (by rw[jp lR];lia)).trans ?_;rw[Array.toList_push,dD];calc List.Perm.append_left _ ?_;exact wI _ _ lR
 unfold pickOrder;have :=key xs.size 0 xs.toList (List.toArray []) (by simp);simpa using this
theorem LI{src:Source}{Q:Nat->Shared->Prop}(hn:n≠0)(h:∀i d,i<n->Q i {s with drawn:=d}):wpAny M A (choose src n) Q E s:=
 λΓ p _=>#[hn,h _ _<|Nat.mod_lt _<|Nat.pos_of_ne_zero hn]
theorem QT{M:Model}{α:Type}:∀(n:Nat)(xs:List α){Q:List α->Shared->Prop}{s:Shared},xs.length=n->(∀ys d,ys.Perm xs->Q ys {s with drawn:=d})->wpAny M A (drawOrder n xs) Q E s
 |0,xs,Q,s,hl,h=>by
  have :xs=[]:=eS.mp hl;subst this;unfold drawOrder;have :=h [] s.drawn<|nQ _;cases s;exact aJ this
 |n+1,[],Q,s,hl,h=>by simp at hl
 |n+1,x::xs,Q,s,hl,h=>by
  unfold drawOrder;calc aE (LI (by simp) λi d hi=>?_);rw[aA hi];dsimp only;calc aE (QT n _ (by rw[jp hi];simp at hl⊢;lia) λys a hp=>?_);calc aJ<|h _ a ?_;exact(List.Perm.cons _ hp).trans (wI _ _ hi)
def JL(h:Heap)(I a:Addr)(fst:Value)(i n ep:Nat):Prop:=h.get? I=some {cls:=.type "set_iterator",data:=.fields (List.toArray [fst,.int i 0,.ref a,.int n 0,.int ep 0])}
theorem kX{t:SetTable}(h:t.fits n=true):t.place.size=n:=by
 simp only[SetTable.fits,cC,cP]at h;exact h.1
theorem tX{o:Obj}{t:SetTable}{Q:Bool->Shared->Prop}(ho:s.heap.get? a=some o)(hd:o.data=.set es ep t)(hf:t.fits es.size=true)
 (h:Q (!ZU w&&(!t.plain&&decide (es.size>1))) s):wpAny (model prog w) A (setDrawn a) Q E s:=by
 unfold setDrawn;calc aE<|fD ho hd hf ?_;dsimp only;unfold setsByText;calc aE<|aE<|mP<|aJ ?_;exact aJ h
theorem LH{o:Obj}{t:SetTable}{Q:Nat->Shared->Prop}(ho:s.heap.get? a=some o)(hd:o.data=.set es ep t)(hf:t.fits es.size=true)
 (h:Q es.size s):wpAny (model prog w) A (Builtin.Frozenset.sizeOf a) Q E s:=by
 unfold Builtin.Frozenset.sizeOf setEntries;calc aE<|aE<|fD ho hd hf<|aJ ?_;exact aJ h
theorem IU{o:Obj}{slot g:Nat}{t:SetTable}{Q:Option (Value×Nat)->Shared->Prop}(ho:s.heap.get? a=some o)(hd:o.data=.set es ep t)(hf:t.fits es.size=true)(hB:ZU w=true)
 (h:Q (((pickOrder (w.params.setOrder a ep) es)[g]?).map λe=>(e.2,slot)) s):wpAny (model prog w) A (setNext a slot g ep) Q E s:=by
 let b:w.params.followText "set-order"=true:=hB;unfold setNext;calc aE<|fD ho hd hf ?_;dsimp only;unfold setsByText;calc aE<|aE<|mP<|aJ ?_;show wpAny _ _ (if w.params.followText "set-order"=true then _ else _) _ _ _;rw[aT b,aH (by simp)];unfold setWalk;calc aE<|aE<|fD ho hd hf ?_;dsimp only;unfold setsByText;calc aE<|aE<|mP<|aJ ?_;show wpAny _ _ (if w.params.followText "set-order"=true then _ else _) _ _ _;rw[aT b];calc aE<|mP<|aJ ?_;exact aJ h
section
variable {I:Addr} {P:Nat->Value->Prop} {St:Nat->Shared->Prop}
end
theorem m7(a:Value){Q₁:Value->Shared->Prop}
 (h:∀led:Bool,(ZU w=true\/led=true)->Q₁ (.ref s.heap.objs.size) {s with heap:=s.heap.push {cls:=.type "set",dict:=none,data:=.set (List.toArray []) 0 (.fresh 0 0 led)}}):
 codeAny (model prog w) A (.call (.builtin "set.__new__") #[[.type "set",a],[]]) (wants Q₁ E) s:=by
 calc codeAny_of_tree ?_;show wpAny _ A.in1 (do checkBuiltinCall "set.__new__" #[[.type "set",a],[]];again<|.builtin "set.__new__" #[[.type "set",a],[]]) _ _ s;calc aE<|wpAny_of_eq (F.newCall_set_1 a)<|aJ #[iE F.plain_set_new _,fJ F.entry_set_new ?_];rw[eJ F.plain_set_new _];unfold Builtin.«set.__new__» Builtin.Frozenset.newClass;let b:=sub_set_self;obtain⟨hp,g,d,tk,os⟩:=s;dsimp only
 wp_walk
 calc mP<|aJ ?_;dsimp only;simp only[newObj];calc aE<|wpAny_alloc<|aJ ?_;calc aJ<|h _ ?_;show w.params.followText "set-order"=true\/(!w.params.followText "set-order")=true;cases w.params.followText "set-order"
 ·exact .inr rfl
 ·exact .inl rfl
theorem iq{Q:Bool->Shared->Prop}(hT:s.TypeIs (.ref r) "set")(h:Q false s):wpAny (model prog w) A (Builtin.List.listLengthHint<|.ref r) Q E s:=by
 unfold Builtin.List.listLengthHint;calc aE<|wpAny_specialOf hT F.slot_set_len.lookup ?_;generalize c:("set.__len__":String)=d
 wp_delta
 rw[show splitId d=some ("set","__len__")from by subst c;decide+kernel];subst c;calc aE (pR (T:="set") (b:=true) hT (by rw[GY];kernel_rfl) ?_);calc wpAny_ite_split (λa=>absurd a (by decide)) λ_=>?_;calc wpAny_ite_split (λ_=>?_) (λa=>absurd (by decide+kernel) a);calc aE<|hW hT ?_;exact aJ h
section
open PySem.SeqAt
mutual
noncomputable def lL:Dt->Dt->Bool
 | .non,.non=>true
 | .bl a,.bl b=>a==b
 | .int a,.int b=>a==b
 | .bl a,.int b=>(if a then 1 else 0)==b
 | .int a,.bl b=>a==(if b then 1 else 0)
 | .str a,.str b=>a==b
 | .tup xs,.tup ys=>vF xs ys
 | .lst xs,.lst ys=>vF xs ys
 |_,_=>false
noncomputable def vF:List Dt->List Dt->Bool
 |[],[]=>true
 |x::xs,y::ys=>lL x y&&vF xs ys
 |_,_=>false
end
mutual
theorem xA:∀d:Dt,lL d d=true
 | .non=>rfl
 | .bl a=>by simp[lL]
 | .int a=>by simp[lL]
 | .str a=>by simp[lL]
 | .tup ds=>by rw[lL];exact kY ds
 | .lst ds=>by rw[lL];exact kY ds
theorem kY:∀ds:List Dt,vF ds ds=true
 |[]=>rfl
 |d::ds=>by rw[vF,xA d,kY ds];rfl
end
noncomputable def rP(xs ys:List Dt)(j:Nat):Bool:=
 match xs[j]?,ys[j]? with
 |some x,some y=>lL x y
 |_,_=>false
theorem jW:∀xs ys:List Dt,((List.range<|min xs.length ys.length).all (rP xs ys)&&xs.length==ys.length)=vF xs ys
 |[],[]=>rfl
 |[],y::ys=>by simp[vF]
 |x::xs,[]=>by simp[vF]
 |x::xs,y::ys=>by
  rw[vF,←jW xs ys,bG,bG,Nat.succ_min_succ,List.range_succ_eq_map,List.all_cons,iJ];let a:rP (x::xs) (y::ys) 0=lL x y:=rfl;let b:rP (x::xs) (y::ys) ∘ Nat.succ=rP xs ys:=by funext j;simp[rP]
  rw[a,b,Bool.and_assoc]
  congr 2
  rw[cF];simp
mutual
theorem eL.one_of{H:Hp}:∀{d d':Dt}{v:V},eL H d v->eL H d' v->d=d'
 |d,.non,v,h,h'=>by let h':v=.non:=h';subst h';cases d<;>simp_all [eL]
 |d,.bl b,v,h,h'=>by let h':v=.bl b:=h';subst h';cases d<;>simp_all [eL]
 |d,.int b,v,h,h'=>by let h':v=.int b:=h';subst h';cases d<;>simp_all [eL]
 |d,.str b,v,h,h'=>by let h':v=.str b:=h';subst h';cases d<;>simp_all [eL]
 |d,.tup iX,v,h,h'=>by
  obtain⟨a,vs,rfl,g,i⟩:=h';cases d with
  |tup ds=>
   obtain⟨j,oJ,e,c,f⟩:=h;cases e;rw[g]at c;cases c;rw[bN.one_of f i]
  |lst ds=>
   obtain⟨j,oJ,e,c,f⟩:=h;cases e;rw[g]at c;cases c
  |_=>cases h
 |d,.lst iX,v,h,h'=>by
  obtain⟨a,vs,rfl,g,i⟩:=h';cases d with
  |lst ds=>
   obtain⟨j,oJ,e,c,f⟩:=h;cases e;rw[g]at c;cases c;rw[bN.one_of f i]
  |tup ds=>
   obtain⟨j,oJ,e,c,f⟩:=h;cases e;rw[g]at c;cases c
  |_=>cases h
theorem bN.one_of{H:Hp}:∀{ds iX:List Dt}{vs:List V},bN H ds vs->bN H iX vs->ds=iX
 |ds,[],vs,h,h'=>by
  let h':vs=[]:=h';subst h';cases ds with
  |nil=>rfl
  |cons d ds=>obtain⟨v,r,e,_⟩:=h;cases e
 |ds,g::iX,vs,h,h'=>by
  obtain⟨v,r,rfl,c,f⟩:=h';cases ds with
  |nil=>cases h
  |cons d ds=>
   obtain⟨v',i,e,a,b⟩:=h;cases e;rw[eL.one_of a c,bN.one_of b f]
end
theorem bN.tup_of(ok:mV P w H s.heap)(h:H a=some (.tup vs)):∃its:List Value,cY vs its/\s.heap.IsTuple a its.toArray:=by
 obtain⟨z,its,r,p⟩:=ok a _ h;exact#[its,r,p]
theorem bN.lst_of(ok:mV P w H s.heap)(h:H a=some (.lst vs)):∃its:List Value,cY vs its/\s.heap.IsList a its.toArray:=by
 obtain⟨z,its,n,r,p⟩:=ok a _ h;exact#[its,r,_,p,rfl,n,rfl]
theorem xO:∀{xs:List V}{us:List Value}{i:Nat}{x:V}{u:Value},cY xs us->xs[i]?=some x->us[i]?=some u->RelV x u
 |_,_,_,_,_,.nil,h,_=>by simp at h
 |_,_,0,_,_,.cons r q,h,h'=>by
  simp at h h';subst h;subst h';exact r
 |_,_,i+1,_,_,.cons r q,h,h'=>xO q (by simpa using h) (by simpa using h')
theorem AM(ok:mV P w H s.heap)(ih:∀{A:Around}{d d':Dt}{v v':V}{u u':Value},eL H d v->eL H d' v'->RelV v u->RelV v' u'->gY n d->A.units+n<cLine->EqAt A s u u' (lL d d'))
 {l':Addr} {iX:List Dt} {oJ:List V} (hs:bN H ds vs) (hs':bN H iX oJ) (rv:cY vs its) (rv':cY oJ its') (hl:s.heap.IsList l its.toArray) (iK:s.heap.IsList l' its'.toArray)
 (f:∀d∈ds,gY n d) (hu:A.units+(n+1)<cLine):RcAt A s (.ref l) (.ref l') (vF ds iX):=by
 let m:=hs.length;let o:=hs'.length;let p:=rv.length;let q:=rv'.length;by_cases hz:ds.length=iX.length
 ·let key:=RcAt.lists (A:=A) (e:=rP ds iX) hl iK (by rw[aR,aR];lia) () λj h1 h2=>?_
  ·rw[←jW,hz,Nat.min_self,dI,tV];rw[aR]at key;rw[show iX.length=its.length by lia];exact key
  ·rw[aR]at h1 h2;let b:j<ds.length:=by lia
   let a:j<iX.length:=by lia
   obtain⟨x,c,g⟩:=hs.get<|aA b;obtain⟨y,h,i⟩:=hs'.get<|aA a;let k:rP ds iX j=lL ds[j] iX[j]:=by unfold rP;rw[aA b,aA a]
   rw[k];refine ih g i ?_ ?_ (f _<|bT b) (by show A.units+1+n<cLine;lia)
   ·exact xO rv c (by rw[dF];calc aA h1)
   ·exact xO rv' h (by rw[dF];calc aA h2)
 ·let hf:vF ds iX=false:=by rw[←jW,show(ds.length==iX.length)=false by simpa using hz,lE]
  rw[hf];exact RcAt.lists_lengths hl iK (by rw[aR,aR];simp;lia) ()
theorem al(ok:mV P w H s.heap){d:Dt}{u':Value}(h:eL H d v)(r:RelV v u)(r':RelV v u'):EqAt A s u u' true:=by
 cases d with
 |non=>have h:v=.non:=h;subst h;cases r;cases r';exact EqAt.same _
 |bl a=>have h:v=.bl a:=h;subst h;cases r;cases r';exact EqAt.same _
 |int a=>
  let h:v=.int a:=h;subst h;obtain⟨t,rfl⟩:=r;obtain⟨t',rfl⟩:=r';have :=EqAt.int_int (A:=A) (s:=s) a t a t';rwa[dI]at this
 |str a=>
  let h:v=.str a:=h;subst h;obtain⟨t,rfl⟩:=r;obtain⟨t',rfl⟩:=r';have :=EqAt.str_str (A:=A) (s:=s) a t a t';rwa[dI]at this
 |tup ds=>obtain⟨l,vs,rfl,_⟩:=h;cases r;cases r';exact EqAt.same _
 |lst ds=>obtain⟨l,vs,rfl,_⟩:=h;cases r;cases r';exact EqAt.same _
inductive uv (H:Hp) (h:Heap):Dt->Value->Prop
 |non:uv H h .non .none
 |bl (b:Bool):uv H h (.bl b) (.bool b)
 |int (i:Int) (t:Tok):uv H h (.int i) (.int i t)
 |str (x:Str) (t:Tok):uv H h (.str x) (.str x t)
 |tup (l:Addr) (ds:List Dt) (vs:List V) (its:List Value) (hs:bN H ds vs) (rv:cY vs its) (hl:h.IsTuple l its.toArray):uv H h (.tup ds) (.ref l)
 |lst (l:Addr) (ds:List Dt) (vs:List V) (its:List Value) (hs:bN H ds vs) (rv:cY vs its) (hl:h.IsList l its.toArray):uv H h (.lst ds) (.ref l)
theorem dsh(ok:mV P w H s.heap){d:Dt}(h:eL H d v)(r:RelV v u):uv H s.heap d u:=by
 cases d with
 |non=>cases (show v=.non from h);cases r;exact .non
 |bl b=>cases (show v=.bl b from h);cases r;exact .bl b
 |int i=>cases (show v=.int i from h);obtain⟨t,rfl⟩:=r;exact .int i t
 |str x=>cases (show v=.str x from h);obtain⟨t,rfl⟩:=r;exact .str x t
 |tup ds=>
  obtain⟨l,vs,rfl,e,hs⟩:=h;cases r;obtain⟨its,rv,hl⟩:=bN.tup_of ok e;exact .tup l ds vs its hs rv hl
 |lst ds=>
  obtain⟨l,vs,rfl,e,hs⟩:=h;cases r;obtain⟨its,rv,hl⟩:=bN.lst_of ok e;exact .lst l ds vs its hs rv hl
set_option maxHeartbeats 2000000 in
theorem VR(ok:mV P w H s.heap){d d':Dt}{v':V}{u':Value}(h:eL H d v)(h':eL H d' v')(r:RelV v u)(r':RelV v' u')(hu:A.units<cLine)(hk:∀ds iX,¬(d=.tup ds/\d'=.tup iX)/\¬(d=.lst ds/\d'=.lst iX)):EqAt A s u u' (lL d d'):=by
 cases dsh ok h r<;>cases dsh ok h' r'<;>simp only[lL]<;>first |exact absurd #[rfl,rfl] (hk _ _).1 |exact absurd #[rfl,rfl] (hk _ _).2 |with_reducible first |exact EqAt.same _ |exact EqAt.none_bool _ |exact EqAt.none_int _ _ |exact EqAt.none_str _ _ |exact EqAt.none_tuple ‹_› hu |exact EqAt.none_list ‹_› hu |exact EqAt.bool_none _ |exact EqAt.bool_bool _ _ |exact EqAt.bool_int _ _ _ |exact EqAt.bool_str _ _ _ |exact EqAt.bool_tuple _ ‹_› hu |exact EqAt.bool_list _ ‹_› hu |exact EqAt.int_none _ _ |exact EqAt.int_bool _ _ _ |exact EqAt.int_int _ _ _ _ |exact EqAt.int_str _ _ _ _ |exact EqAt.int_tuple _ _ ‹_› hu |exact EqAt.int_list _ _ ‹_› hu |exact EqAt.str_none _ _ |exact EqAt.str_bool _ _ _ |exact EqAt.str_int _ _ _ _ |exact EqAt.str_str _ _ _ _ |exact EqAt.str_tuple _ _ ‹_› hu |exact EqAt.str_list _ _ ‹_› hu |exact EqAt.tuple_none ‹_› hu |exact EqAt.tuple_bool _ ‹_› hu |exact EqAt.tuple_int _ _ ‹_› hu |exact EqAt.tuple_str _ _ ‹_› hu |exact EqAt.tuple_list ‹_› ‹_› hu |exact EqAt.list_none ‹_› hu |exact EqAt.list_bool _ ‹_› hu |exact EqAt.list_int _ _ ‹_› hu |exact EqAt.list_str _ _ ‹_› hu |exact EqAt.list_tuple ‹_› ‹_› hu
theorem JB(ok:mV P w H s.heap):∀(n:Nat){A:Around}{d d':Dt}{v v':V}{u u':Value},eL H d v->eL H d' v'->RelV v u->RelV v' u'->gY n d->A.units+n<cLine->EqAt A s u u' (lL d d'):=by
 intro n
 induction n with
 |zero=>
  intro A d d' v v' u u' h h' r c f hu;exact VR ok h h' r c hu λds iX=>#[λe=>by rw[e.1]at f;exact f,λe=>by rw[e.1]at f;calc f]
 |succ n o=>
  intro A d d' v v' u u' h h' r c f hu;by_cases g:v=v'
  ·subst g;rw[eL.one_of h h',xA];let hd:d=d':=eL.one_of h h';subst hd;let hx:=al ok (A:=A) h r c;exact hx
  cases d with
  |tup ds=>
   cases d' with
   |tup iX=>
    obtain⟨l,vs,rfl,e,hs⟩:=h;obtain⟨l',oJ,rfl,k,a⟩:=h';cases r;cases c;obtain⟨its,rv,hl⟩:=bN.tup_of ok e;obtain⟨its',b,iK⟩:=bN.tup_of ok k;let p:=hs.length;let q:=a.length;let t:=rv.length;let B:=b.length;let key:=RcAt.tuples (A:=A) (e:=rP ds iX) hl iK () λj h1 h2=>?_
    ·simp only[lL];rw[←jW];calc EqAt.of_refs (λz=>g (by rw[z])) ?_;rw[aR,aR]at key;rw[←p,←q,t,B];exact key
    ·rw[aR]at h1 h2;let m:j<ds.length:=by lia
     let i:j<iX.length:=by lia
     obtain⟨x,C,D⟩:=hs.get<|aA m;obtain⟨y,E,F⟩:=a.get<|aA i;let G:rP ds iX j=lL ds[j] iX[j]:=by unfold rP;rw[aA m,aA i]
     rw[G];refine o D F ?_ ?_ (f.2 _<|bT m) (by show A.units+1+n<cLine;lia)
     ·exact xO rv C (by rw[dF];calc aA h1)
     ·exact xO b E (by rw[dF];calc aA h2)
   |_=>exact VR ok h h' r c () λds iX=>#[λe=>(by cases e.2),λe=>(by cases e.1)]
  |lst ds=>
   cases d' with
   |lst iX=>
    obtain⟨l,vs,rfl,e,hs⟩:=h;obtain⟨l',oJ,rfl,k,a⟩:=h';cases r;cases c;obtain⟨its,rv,hl⟩:=bN.lst_of ok e;obtain⟨its',b,iK⟩:=bN.lst_of ok k;simp only[lL];exact EqAt.of_refs (λz=>g (by rw[z]))<|AM ok o hs a rv b hl iK f.2 hu
   |_=>exact VR ok h h' r c () λds iX=>#[λe=>(by cases e.1),λe=>(by cases e.2)]
  |_=>exact VR ok h h' r c () λds iX=>#[λe=>(by cases e.1),λe=>(by cases e.1)]
end
section
open PySem.SeqAt
theorem Inv.drawn(I:Inv X aM σ H s)(d:_):Inv X aM σ H {s with drawn:=d}:=#[I.ok,I.os,I.bare,I.base,I.loc,I.cell,I.free,I.freeC,I.pin,I.hok,I.len]
theorem cx_P{scope:Scope}{cd:Value}{E:XK}:(JC CX P w K mg base N qual scope f cd A outer s H E).prog=P:=rfl
end
end L2
namespace L2
open PySem PySem.Spec PyProof.Rows PySem.SeqAt
variable {a d l r:Addr} {A:Around} {es:Array (Int×Value)} {G:Array GenState->Array GenState->Prop} {X:Cx} {D:DJ} {e o tg:Expr} {h h':Heap} {H:Hp} {aM:List (Addr×Obj)} {ch fp wr:List Addr} {ds:List Dt} {js:List Nat} {ns:List Str} {vs xs:List V} {its its':List Value} {ep i n t':Nat} {lM:Pos} {P prog:Program} {K:W.Frag} {R:Result->Shared->Prop} {s:Shared} {σ:St} {T:String} {ta te:TE} {tb:TS} {v:V} {u:Value} {E Q:Value->Shared->Prop} {w:World}
local macro_rules | `(()) => `(by lia)
theorem dt(ok:mV P w H s.heap)(ih:∀{A:Around}{d d':Dt}{v v':V}{u u':Value},eL H d v->eL H d' v'->RelV v u->RelV v' u'->gY n d->A.units+n<cLine->EqAt A s u u' (lL d d'))
 {l':Addr} {iX:List Dt} {oJ:List V} (hs:bN H ds vs) (hs':bN H iX oJ) (rv:cY vs its) (rv':cY oJ its') (hl:s.heap.IsTuple l its.toArray) (iK:s.heap.IsTuple l' its'.toArray)
 (f:∀d∈ds,gY n d) (hu:A.units+(n+1)<cLine):RcAt A s (.ref l) (.ref l') (vF ds iX):=by
 let c:=hs.length;let g:=hs'.length;let h:=rv.length;let i:=rv'.length;let at_:∀j (h1:j<its.toArray.size) (h2:j<its'.toArray.size),EqAt A.in1 s its.toArray[j] its'.toArray[j] (rP ds iX j):=λj h1 h2=>by
  rw[aR]at h1 h2;let b:j<ds.length:=by lia
  let a:j<iX.length:=by lia
  obtain⟨x,k,m⟩:=hs.get<|aA b;obtain⟨y,o,p⟩:=hs'.get<|aA a;let q:rP ds iX j=lL ds[j] iX[j]:=by unfold rP;rw[aA b,aA a]
  rw[q];refine ih m p ?_ ?_ (f _<|bT b) (by show A.units+1+n<cLine;lia)
  ·exact xO rv k (by rw[dF];calc aA h1)
  ·exact xO rv' o (by rw[dF];calc aA h2)
 let key:=RcAt.tuples (A:=A) (e:=rP ds iX) hl iK () at_;rw[aR,aR]at key;rw[←jW,←c,←g,h,i];exact key
theorem dr(ok:mV P w H s.heap)(ih:∀{A:Around}{d d':Dt}{v v':V}{u u':Value},eL H d v->eL H d' v'->RelV v u->RelV v' u'->gY n d->A.units+n<cLine->EqAt A s u u' (lL d d'))
 {l':Addr} {iX:List Dt} {oJ:List V} (hs:bN H ds vs) (hs':bN H iX oJ) (rv:cY vs its) (rv':cY oJ its') (hl:s.heap.IsTuple l its.toArray) (iK:s.heap.IsTuple l' its'.toArray)
 (f:∀d∈ds,gY n d) (hu:A.units+(n+1)<cLine):RcNeAt A s (.ref l) (.ref l') (!vF ds iX):=by
 let c:=hs.length;let g:=hs'.length;let h:=rv.length;let i:=rv'.length;let at_:∀j (h1:j<its.toArray.size) (h2:j<its'.toArray.size),EqAt A.in1 s its.toArray[j] its'.toArray[j] (rP ds iX j):=λj h1 h2=>by
  rw[aR]at h1 h2;let b:j<ds.length:=by lia
  let a:j<iX.length:=by lia
  obtain⟨x,k,m⟩:=hs.get<|aA b;obtain⟨y,o,p⟩:=hs'.get<|aA a;let q:rP ds iX j=lL ds[j] iX[j]:=by unfold rP;rw[aA b,aA a]
  rw[q];refine ih m p ?_ ?_ (f _<|bT b) (by show A.units+1+n<cLine;lia)
  ·exact xO rv k (by rw[dF];calc aA h1)
  ·exact xO rv' o (by rw[dF];calc aA h2)
 let key:=RcNeAt.tuples (A:=A) (e:=rP ds iX) hl iK () at_;rw[aR,aR]at key;rw[←jW,←c,←g,h,i];exact key
theorem RB(ok:mV P w H s.heap)(ih:∀{A:Around}{d d':Dt}{v v':V}{u u':Value},eL H d v->eL H d' v'->RelV v u->RelV v' u'->gY n d->A.units+n<cLine->EqAt A s u u' (lL d d'))
 {l':Addr} {iX:List Dt} {oJ:List V} (hs:bN H ds vs) (hs':bN H iX oJ) (rv:cY vs its) (rv':cY oJ its') (hl:s.heap.IsList l its.toArray) (iK:s.heap.IsList l' its'.toArray)
 (f:∀d∈ds,gY n d) (hu:A.units+(n+1)<cLine):RcNeAt A s (.ref l) (.ref l') (!vF ds iX):=by
 let m:=hs.length;let o:=hs'.length;let p:=rv.length;let q:=rv'.length;let at_:∀j (h1:j<its.toArray.size) (h2:j<its'.toArray.size),EqAt A.in1 s its.toArray[j] its'.toArray[j] (rP ds iX j):=λj h1 h2=>by
  rw[aR]at h1 h2;let b:j<ds.length:=by lia
  let a:j<iX.length:=by lia
  obtain⟨x,c,g⟩:=hs.get<|aA b;obtain⟨y,h,i⟩:=hs'.get<|aA a;let k:rP ds iX j=lL ds[j] iX[j]:=by unfold rP;rw[aA b,aA a]
  rw[k];refine ih g i ?_ ?_ (f _<|bT b) (by show A.units+1+n<cLine;lia)
  ·exact xO rv c (by rw[dF];calc aA h1)
  ·exact xO rv' h (by rw[dF];calc aA h2)
 by_cases hz:ds.length=iX.length
 ·let key:=RcNeAt.lists (A:=A) (e:=rP ds iX) hl iK (by rw[aR,aR];lia) () at_;rw[←jW,hz,Nat.min_self,dI,tV];rw[aR]at key;rw[show iX.length=its.length by lia];exact key
 ·let hf:vF ds iX=false:=by rw[←jW,show(ds.length==iX.length)=false by simpa using hz,lE]
  rw[hf];exact RcNeAt.lists_lengths hl iK (by rw[aR,aR];simp;lia) ()
set_option maxHeartbeats 2000000 in
theorem rc_at(ok:mV P w H s.heap){d d':Dt}{v':V}{u':Value}(h:eL H d v)(h':eL H d' v')(r:RelV v u)(r':RelV v' u')(f:gY (n+1) d)(hu:A.units+(n+1)<cLine):RcAt A s u u' (lL d d'):=by
 let oA:A.units<cLine:=by lia
 cases dsh ok h r<;>cases dsh ok h' r'<;>simp only[lL,jq,Bool.not_true]<;>first |exact dt ok (JB ok n) ‹_› ‹_› ‹_› ‹_› ‹_› ‹_› f.2 hu |exact AM ok (JB ok n) ‹_› ‹_› ‹_› ‹_› ‹_› ‹_› f.2 hu |with_reducible first |exact RcAt.none_none |exact RcAt.none_bool _ |exact RcAt.none_int _ _ |exact RcAt.none_str _ _ |exact RcAt.none_tuple ‹_› oA |exact RcAt.none_list ‹_› oA |exact RcAt.bool_none _ |exact RcAt.bool_bool _ _ |exact RcAt.bool_int _ _ _ |exact RcAt.bool_str _ _ _ |exact RcAt.bool_tuple _ ‹_› oA |exact RcAt.bool_list _ ‹_› oA |exact RcAt.int_none _ _ |exact RcAt.int_bool _ _ _ |exact RcAt.int_int _ _ _ _ |exact RcAt.int_str _ _ _ _ |exact RcAt.int_tuple _ _ ‹_› oA |exact RcAt.int_list _ _ ‹_› oA |exact RcAt.str_none _ _ |exact RcAt.str_bool _ _ _ |exact RcAt.str_int _ _ _ _ |exact RcAt.str_str _ _ _ _ |exact RcAt.str_tuple _ _ ‹_› oA |exact RcAt.str_list _ _ ‹_› oA |exact RcAt.tuple_none ‹_› oA |exact RcAt.tuple_bool _ ‹_› oA |exact RcAt.tuple_int _ _ ‹_› oA |exact RcAt.tuple_str _ _ ‹_› oA |exact RcAt.tuple_list ‹_› ‹_› oA |exact RcAt.list_none ‹_› oA |exact RcAt.list_bool _ ‹_› oA |exact RcAt.list_int _ _ ‹_› oA |exact RcAt.list_str _ _ ‹_› oA |exact RcAt.list_tuple ‹_› ‹_› oA
set_option maxHeartbeats 2000000 in
theorem rn_at(ok:mV P w H s.heap){d d':Dt}{v':V}{u':Value}(h:eL H d v)(h':eL H d' v')(r:RelV v u)(r':RelV v' u')(f:gY (n+1) d)(hu:A.units+(n+1)<cLine):RcNeAt A s u u' (!lL d d'):=by
 let oA:A.units<cLine:=by lia
 cases dsh ok h r<;>cases dsh ok h' r'<;>simp only[lL,jq,Bool.not_true]<;>first |exact dr ok (JB ok n) ‹_› ‹_› ‹_› ‹_› ‹_› ‹_› f.2 hu |exact RB ok (JB ok n) ‹_› ‹_› ‹_› ‹_› ‹_› ‹_› f.2 hu |with_reducible first |exact RcNeAt.none_none |exact RcNeAt.none_bool _ |exact RcNeAt.none_int _ _ |exact RcNeAt.none_str _ _ |exact RcNeAt.none_tuple ‹_› oA |exact RcNeAt.none_list ‹_› oA |exact RcNeAt.bool_none _ |exact RcNeAt.bool_bool _ _ |exact RcNeAt.bool_int _ _ _ |exact RcNeAt.bool_str _ _ _ |exact RcNeAt.bool_tuple _ ‹_› oA |exact RcNeAt.bool_list _ ‹_› oA |exact RcNeAt.int_none _ _ |exact RcNeAt.int_bool _ _ _ |exact RcNeAt.int_int _ _ _ _ |exact RcNeAt.int_str _ _ _ _ |exact RcNeAt.int_tuple _ _ ‹_› oA |exact RcNeAt.int_list _ _ ‹_› oA |exact RcNeAt.str_none _ _ |exact RcNeAt.str_bool _ _ _ |exact RcNeAt.str_int _ _ _ _ |exact RcNeAt.str_str _ _ _ _ |exact RcNeAt.str_tuple _ _ ‹_› oA |exact RcNeAt.str_list _ _ ‹_› oA |exact RcNeAt.tuple_none ‹_› oA |exact RcNeAt.tuple_bool _ ‹_› oA |exact RcNeAt.tuple_int _ _ ‹_› oA |exact RcNeAt.tuple_str _ _ ‹_› oA |exact RcNeAt.tuple_list ‹_› ‹_› oA |exact RcNeAt.list_none ‹_› oA |exact RcNeAt.list_bool _ ‹_› oA |exact RcNeAt.list_int _ _ ‹_› oA |exact RcNeAt.list_str _ _ ‹_› oA |exact RcNeAt.list_tuple ‹_› ‹_› oA
def RJ:R2:=λx y H Q=>∃n d,eL H d x/\∃d',eL H d' y/\gY (n+1) d/\n<=60/\Q (.bl<|lL d d') H
def rNeG:R2:=λx y H Q=>∃n d,eL H d x/\∃d',eL H d' y/\gY (n+1) d/\n<=60/\Q (.bl<|!lL d d') H
theorem wC(hu:X.A.units+64<cLine):pG X (compareOp .Eq) RJ:=by
 intro aM s σ H x y v u Q I a b h;obtain⟨n,d,h1,c,h2,f,hn,q⟩:=h;exact rc_at I.hok h1 h2 a b f () X.prog X.w _ _<|zT I q rfl
theorem qv(hu:X.A.units+64<cLine):pG X (compareOp .NotEq) rNeG:=by
 intro aM s σ H x y v u Q I a b h;obtain⟨n,d,h1,c,h2,f,hn,q⟩:=h;exact rn_at I.hok h1 h2 a b f () X.prog X.w _ _<|zT I q rfl
def ME(neg:Bool):R2:=λx y H Q=>∃n d,eL H d x/\∃ds,(eL H (.lst ds) y\/eL H (.tup ds) y)/\(∀e∈ds,gY n e)/\n<=60/\Q (.bl<|neg^^ds.any λe=>lL e d) H
open Classical in
theorem VN{d:Dt}(hs:bN H ds vs)(rv:cY vs its)(e:Value->Bool)(he:∀y,e y=decide (∃d' v',eL H d' v'/\RelV v' y/\lL d' d=true)):its.toArray.any e=ds.any λe=>lL e d:=by
 rw[List.any_toArray]
 induction ds generalizing vs its with
 |nil=>
  let hs:vs=[]:=hs;subst hs;cases rv;rfl
 |cons c ds f=>
  obtain⟨v,r,rfl,a,g⟩:=hs;cases rv with
  |cons b rt=>
   rename_i u us
   rw[iN,iN,f g rt,he]
   congr 1
   rw[cF,bZ];constructor
   ·rintro⟨d',v',h,i,j⟩;have :=RelV.inj i b;subst this;rw[eL.one_of a h];exact j
   ·intro q;exact#[c,v,a,b,q]
open Classical in
theorem CH(ok:mV P w H s.heap){d:Dt}{x:V}(hs:bN H ds vs)(rv:cY vs its)(hx:eL H d x)(ru:RelV x u)(f:∀e∈ds,gY n e)(hu:A.units+(n+1)<cLine)
 (y:Value) (hy:y∈its.toArray):EqAt A.in1 s y u (decide (∃d' v',eL H d' v'/\RelV v' y/\lL d' d=true)):=by
 obtain⟨j,g,e⟩:=cQ (show y∈its by simpa using hy);let m:=hs.length;let o:=rv.length;let a:j<ds.length:=by lia
 obtain⟨v,h,b⟩:=hs.get<|aA a;let c:RelV v y:=xO rv h (by rw[aA g,e]);have :decide (∃d' v',eL H d' v'/\RelV v' y/\lL d' d=true)=lL ds[j] d:=by
  rw[cF,bZ];constructor
  ·rintro⟨d',v',i,k,l⟩;have :=RelV.inj k c;subst this;rw[eL.one_of b i];exact l
  ·intro q;exact#[_,v,b,c,q]
 rw[this];exact JB ok n b hx c ru (f _<|bT a) (by show A.units+1+n<cLine;lia)
theorem SJ(hu:X.A.units+64<cLine):pG X (compareOp .In) (ME false):=by
 intro aM s σ H x y v u Q I a b h;obtain⟨n,d,hx,ds,hy,f,hn,q⟩:=h;rw[Bool.false_xor]at q;rcases hy with⟨l,vs,rfl,e,hs⟩ |⟨l,vs,rfl,e,hs⟩
 ·cases b;obtain⟨its,rv,hl⟩:=bN.lst_of I.hok e;calc in_listAt _ hl (CH I.hok hs rv hx a f ())<|zT I q ?_;exact(VN hs rv _ λ_=>rfl).symm
 ·cases b;obtain⟨its,rv,hl⟩:=bN.tup_of I.hok e;calc in_tupleAt _ hl (CH I.hok hs rv hx a f ())<|zT I q ?_;exact(VN hs rv _ λ_=>rfl).symm
theorem kP(hu:X.A.units+64<cLine):pG X (compareOp .NotIn) (ME true):=by
 intro aM s σ H x y v u Q I a b h;obtain⟨n,d,hx,ds,hy,f,hn,q⟩:=h;rw[Bool.true_xor]at q;rcases hy with⟨l,vs,rfl,e,hs⟩ |⟨l,vs,rfl,e,hs⟩
 ·cases b;obtain⟨its,rv,hl⟩:=bN.lst_of I.hok e;calc notIn_listAt _ hl (CH I.hok hs rv hx a f ())<|zT I q ?_;rw[VN hs rv _ λ_=>rfl]
 ·cases b;obtain⟨its,rv,hl⟩:=bN.tup_of I.hok e;calc notIn_tupleAt _ hl (CH I.hok hs rv hx a f ())<|zT I q ?_;rw[VN hs rv _ λ_=>rfl]
section
open PySem.SeqAt
theorem Inv.turnedL(I:Inv X aM σ H s)(k:∀b o,b∉ch->s.heap.get? b=some o->h'.get? b=some o)(hf:∀b∈ch,ZC X aM H b):Inv X aM σ H {s with heap:=h',toks:=t'}:=by
 let nit:∀b u,H b=some u->b∉ch:=λb u e z=>by rw[(hf b z).1]at e;cases e
 let a:X.env.locals∉ch:=λz=>(hf _ z).2.1 rfl
 refine I.step (g':=s.gens) (d':=s.drawn) (ch:=ch) (λb hb=>?_) (λb o _ _ hc e _=>k b o hc e) (λb o _ _ hc e _=>#[o.slots,k b o hc e]) (λ_ _ _ _ n=>n) (λb o hc e=>#[o,k b o hc e]) (λ_ _ e=>e) (λ_ _ _ e=>e) (λb ps e=>#[(List.toArray []),by rw[e];simp]) (λm hm=>?_) (λb u e=>?_) I.bare
 ·obtain⟨j,d,l,f,g,h⟩:=hf b hb;exact#[f,d,g,h]
 ·obtain⟨o,es,ep,i,r⟩:=hm;exact#[o,es,ep,k _ o a i,r]
 ·refine(I.hok b u e).stay (λc v hc q=>k c v ?_ q) (λ_ q=>q) λ_ _ q=>q
  rcases hc with z |z
  ·rw[z];exact nit b u e
  ·exact nit c _ z
theorem Inv.turnedN{p:Addr}{o:HO}(I:Inv X aM σ H s)(k:∀b o,b∉ch->s.heap.get? b=some o->h'.get? b=some o)(hf:∀b∈ch,ZC X aM H b)(hp:s.heap.objs.size<=p)(new:eZ X.prog X.w (upd H p o) h' p o):
 Inv X aM σ (upd H p o) {s with heap:=h',toks:=t'}:=by
 let nit:∀b u,H b=some u->b∉ch:=λb u e z=>by rw[(hf b z).1]at e;cases e
 let a:X.env.locals∉ch:=λz=>(hf _ z).2.1 rfl
 let hn:=I.hok.fresh hp;let nep:∀{b:Addr}{u:HO},H b=some u->b≠p:=λe z=>by rw[z,hn]at e;cases e
 refine I.step (g':=s.gens) (d':=s.drawn) (ch:=ch) (λb hb=>?_) (λb o _ _ hc e _=>k b o hc e) (λb o _ _ hc e _=>#[o.slots,k b o hc e]) (λb u _ e n=>?_) (λb o hc e=>#[o,k b o hc e]) (λ_ _ e=>by rw[zG<|nep e];calc e) (λ_ _ _ e=>by rw[zG<|nep e];calc e) (λb ps e=>#[(List.toArray []),by rw[zG<|nep e,e];simp]) (λm hm=>?_) (λb u e=>?_) I.bare
 ·obtain⟨j,d,l,f,g,h⟩:=hf b hb;exact#[f,d,g,h]
 ·rw[zG<|bK<|bQ (bA e) hp];exact n
 ·obtain⟨o,es,ep,i,r⟩:=hm;exact#[o,es,ep,k _ o a i,r]
 ·by_cases hb:b=p
  ·subst hb;rw[zA]at e;cases e;exact new
  ·rw[zG hb]at e;refine(I.hok b u e).stay (λc v hc q=>k c v ?_ q) (λc q=>by rw[zG<|nep q];calc q) λc _ q=>by rw[zG<|nep q];exact q
   rcases hc with z |z
   ·rw[z];exact nit b u e
   ·exact nit c _ z
end
section
open PySem.SeqAt
theorem XM{lo:Int}{g:TG}{tc:TT}{Q:VK}(Pv:Nat->List V->St->Hp->Prop)(h0:Pv 0 [] (kT ns js σ) H)(hz:n<=sizeLine)(hl:∀i ys σ H,Pv i ys σ H->ys.length<=i)
 (hs:∀(i:Nat) ys σ H (C:V->St->Hp->Prop) (D:St->Hp->Prop),i<n->Pv i ys σ H->(∀y σ2 H3,Pv (i+1) (ys++[y]) σ2 H3->C y σ2 H3)->(∀σ2 H3,Pv (i+1) ys σ2 H3->D σ2 H3)->
  g (.int<|lo+i) σ H λσ2 H2=>tc σ2 H2 λb H3=>if b=true then te σ2 H3 λy H4=>C y σ2 H4 else D σ2 H3)
 (hd:∀ys σ H,Pv n ys σ H->∀p,H p=none->Q (.ref p) (upd H p<|.lst ys)):
 bf (bh lo n) ns js g (some tc) te σ H Q:=by
 calc#[λi m ys σ H=>m=n-i/\i<=n/\Pv i ys σ H,#[n,(),cS _,h0],λi m ys σ1 H1 ⟨hm,hi,hp⟩=>?_];by_cases h:i<n
 ·refine .inr #[h,?_,λx H' ⟨e,hx⟩=>?_]
  ·have :=hl i ys σ1 H1 hp;lia
  ·subst e;subst hx;exact hs i ys σ1 _ _ _ h hp (λy σ2 H3 q=>#[n-(i+1),(),rfl,(),q]) λσ2 H3 q=>#[n-(i+1),(),rfl,(),q]
 ·let e:i=n:=by lia
  subst e;exact .inl #[aG _,hd ys σ1 H1 hp]
end
section
open PySem.SeqAt
inductive Rw where
 |no |nm (x:Str) |bo (i j:Int)
noncomputable def tD:Rw->Dt
 | .no=>.tup [.str "none"]
 | .nm x=>.tup [.str "name",.str x]
 | .bo i j=>.tup [.str "both",.int i,.int j]
abbrev Pr:=Int×Int
noncomputable def OG(p:Pr):Dt:=.tup [.int p.1,.int p.2]
abbrev xT:=List Pr×Pr
noncomputable def l6(r:xT):Dt:=.tup [.lst<|r.1.map OG,OG r.2]
inductive Wt where
 |n (i:Int) |ps (l:List Int)
noncomputable def dWt:Wt->Dt
 | .n i=>.int i
 | .ps l=>.tup<|l.map .int
structure Ln where
 i:Int
 j:Int
 w:Str
 as:List Wt
noncomputable def JV(w:Str)(as:List Wt):Dt:=.tup (.str w::as.map dWt)
noncomputable def uf(l:Ln):Dt:=.tup [.int l.i,.int l.j,JV l.w l.as]
noncomputable def JY(b:Int):Wt->Bool
 | .n i=>decide (0<=i)&&decide (i<b)
 | .ps _=>false
noncomputable def pN(rows:List Rw)(n:Int):List Int:=if n % 2=0 then(match rows[(n/2).toNat]? with |some (.bo i j)=>[i,j] |_=>[])else []
noncomputable def jG(ls:List Ln)(k:Nat):Wt->Option Pr
 | .n i=>if 0<=i/\i<k then(ls[i.toNat]?).map λl=>(l.i,l.j)else none
 | .ps _=>none
noncomputable def sP(n:Int):Int:=n+1-2*(n % 2)
noncomputable def IW(w:Str):Option Int:=
 if w="same" then some 0 else if w="edge" then some 0 else if w="part" then some 0 else if w="both" then some 2 else if w="turn" then some 1 else if w="chain" then some 2 else if w="clash" then some 1 else none
noncomputable def yO(rows:List Rw)(i j:Int)(w:Str)(sd:List Pr):Bool:=
 if w="same" then i==j
 else if w="edge" then i==0 ||j==1
 else if w="part" then(pN rows i).any λx=>x==j
 else if w="both" then(match pN rows j with |[a,b]=>sd==[(i,a),(i,b)] |_=>false)
 else if w="turn" then sd==[(sP j,sP i)]
 else if w="chain" then(match sd with |[p,q]=>p.1==i&&p.2==q.1&&q.2==j |_=>false)
 else sd==[(i,sP i)]
noncomputable def uU(bB:List xT)(ls:List Ln)(k:Nat)(l:Ln):Bool:=
 match l.as with
 |[.n r,.ps ps]=>if 0<=r/\r<bB.length then(match bB[r.toNat]? with |some q=>(l.i,l.j)==q.2&&(ps.map λp=>jG ls k<|.n p)==q.1.map some |none=>false)else false
 |_=>false
noncomputable def jC(rows:List Rw)(bB:List xT)(ls:List Ln)(k:Nat)(l:Ln):Bool:=
 if¬(0<=l.i/\l.i<2*rows.length)\/¬(0<=l.j/\l.j<2*rows.length)then false
 else if l.w="rule" then uU bB ls k l
 else if IW l.w=some (l.as.length:Int)/\(l.as.all λa=>(jG ls k a).isSome)=true then yO rows l.i l.j l.w (l.as.filterMap<|jG ls k)
 else false
theorem tW(n:Int):Builtin.bitXor n 1=sP n:=by
 rw[bitXor_and];unfold sP;rw[bitAnd_m1]
end
section
open PySem.SeqAt
theorem LM{t sl:Addr}{items:Array Value}{vl vu:Value}{lo hi:Option Int}(ht:IsTup s.heap t items)(hs:s.heap.IsSliceOf sl vl vu .none)(pl:IsPart vl lo)(pu:IsPart vu hi)
 (hw:HT.sIx items.size 0 lo=0/\HT.sIx items.size items.size hi=items.size) (h:Q (.ref t) s):wpAny (model prog w) A (getItem (.ref t)<|.ref sl) Q E s:=by
 obtain⟨os,b,nY,d⟩:=id hs;let c:s.TypeIs (.ref sl) "slice":=#[os,b,nY]
 unfold getItem
 try with_reducible refine dG ?_
 first |refine aE (aJ ?_) |skip
 calc aE (wpAny_sequenceKey ht.typeIs (by decide)<|aE<|fZ (name:=Str.ofString "__getitem__") ht.typeIs eD<|eA eD ht.typeIs entry_tuple_getitem ?_<|args_tuple_getitem _ _);calc aE (m:=Builtin.Tuple.tupleItemsOf<|.ref t)<|tupleItemsOf_ ht<|aE<|hW c ?_;rw[aT (by decide)];calc aE<|HT.sliceApplied_gen hs pl pu ?_;let a:((((HT.sIx items.size 0 lo:Nat):Int)==0&&(1:Int)==1&&(HT.sIx items.size items.size hi-HT.sIx items.size 0 lo)==items.size)=true):=by
  rw[hw.1,hw.2];simp
 show wpAny _ _ (if(((HT.sIx items.size 0 lo:Nat):Int)==0&&(1:Int)==1&&(HT.sIx items.size items.size hi-HT.sIx items.size 0 lo)==items.size)=true then _ else _) _ _ s;rw[aT a];let e:=ht.typeIs
 wp_walk
 exact#[_,rfl,aJ h]
def rSlG:V->Option Int->Option Int->Hp->VK->Prop:=λx lo hi H Q=>oI x λa=>∃xs,H a=some (.tup xs)/\∀p H',aX H H'->H' p=some (.tup<|qN xs lo hi)->Q (.ref p) H'
theorem dm:SlR X rSlG:=by
 intro aM s σ H x v f g lo hi sl Q I c hs pl d h;replace h:=xK h;obtain⟨a,rfl,xs,hx,q⟩:=h;by_cases b:HT.sIx xs.length 0 lo=0/\HT.sIx xs.length xs.length hi=xs.length
 ·cases c;obtain⟨its,r,ht,hz⟩:=I.tuple<|cW.of hx;let eQ:its.toArray.size=xs.length:=by rw[aR];exact r.length.symm
  calc#["tuple",_,eD.lookup,ht.typeIs,?_];calc LM ht hs pl d (by rw[eQ];calc b) #[.ref a,H,I,rfl,q a H (aX.refl H) ?_];let e:qN xs lo hi=xs:=by
   unfold qN;rw[b.1,b.2,pZ,Nat.sub_zero,aU<|aG _]
  rw[e];exact hx
 ·exact YT aM s σ H _ v f g lo hi sl Q I c hs pl d #[xs,cW.of hx,b,λp hp=>q p _ (zB hp _) zA]
end
section
open PySem.SeqAt
def HZ:V->List V->Hp->VK->Prop:=λx vs H Q=>∃(l:Addr)(us:List V)(ds:List Dt)(v:V)(d:Dt)(n j:Nat),x=.ref l/\vs=[v]/\H l=some (.lst us)/\bN H ds us/\eL H d v/\(∀e∈ds,gY n e)/\n<=60/\ds.length<=1000000/\(∃d',ds[j]?=some d'/\lL d' d=true)/\(∀(m:Nat)(d':Dt),m<j->ds[m]?=some d'->lL d' d=false)/\Q (.int j) H
open Classical in
theorem MX(hu:X.A.units+64<cLine):MtM X "list.index" HZ:=by
 intro aM s σ H x vs v us Q I p rv h;obtain⟨l,ws,ds,y,d,n,j,rfl,rfl,t,a,hd,hf,hn,J,⟨b,w,c⟩,f,q⟩:=h;cases p;obtain⟨u,rfl,z⟩:=rv.one;obtain⟨hz,its,m,r,hl,e⟩:=I.lstM t;let K:=a.length;let L:=r.length;obtain⟨N,B⟩:=aD.mp w;let at_:∀m (hm:m<its.length),decide (∃b v',eL H b v'/\RelV v' its[m]/\lL b d=true)=lL (ds[m]'()) d:=λm hm=>by
  let g:m<ds.length:=by lia
  obtain⟨v,C,k⟩:=a.get<|aA g;let o:RelV v its[m]:=xO r C<|aA hm;rw[cF,bZ];constructor
  ·rintro⟨b,v',D,E,G⟩;have :=RelV.inj E o;subst this;rw[eL.one_of k D];exact G
  ·intro q;exact#[_,v,k,o,q]
 let i:j<its.toArray.size:=by rw[aR];lia
 let M:=PySem.SeqAt.list_indexAt l its.toArray m none (List.toArray []) u (λy=>decide (∃b v',eL H b v'/\RelV v' y/\lL b d=true)) j i () (by
  rw[dF,at_ j (),B];calc c) (λm hm lR=>by
  rw[dF,at_ m (by simpa using hm)];calc f m _ lR<|aA (by have :m<its.length:=(by simpa using hm);lia))
 refine tI F.slot_list_index #[_,e,rfl] F.entry_list_index (F.args_list_index_2 _ _) M #[e,λy hy=>?_,?_]
 ·exact CH I.hok a r hd z hf () y hy
 ·exact#[.int j,H,I.tok _,#[_,rfl],q]
end
noncomputable def wl(xs:Array Nat):Nat:=if xs.size<=1 then xs.size else if xs.getD 0 0<xs.getD 1 0 then 2 else 1
noncomputable def qC(xs:Array Nat)(i:Nat):Nat:=if i=0 then 0 else xs.getD (i-1) 0+1
theorem DX{xs:Array Nat}(h:xs.size<=2):wl xs<=xs.size/\(∀i,i<wl xs->SetTable.below xs (qC xs i)=i)/\SetTable.below xs (qC xs<|wl xs)=xs.size:=by
 obtain⟨l⟩:=xs
 match l,h with
 |[],_=>exact#[aG _,λi hi=>absurd hi<|Nat.not_lt_zero _,rfl]
 |[a],_=>exact#[aG _,λi hi=>by
  have :i=0:=by simp[wl]at hi;exact hi
  subst this;simp[qC,SetTable.below,SetTable.below.go,Array.getD],by simp[wl,qC,SetTable.below,SetTable.below.go,Array.getD]]
 |[a,b],_=>
  by_cases c:a<b
  ·let e:wl (List.toArray [a,b])=2:=by simp[wl,Array.getD,c]
   rw[e];refine#[aG _,λi hi=>?_,by simp[qC,SetTable.below,SetTable.below.go,Array.getD]]
   match i,hi with
   |0,_=>simp[qC,SetTable.below,SetTable.below.go,Array.getD]
   |1,_=>simp[qC,SetTable.below,SetTable.below.go,Array.getD];lia
  ·let e:wl (List.toArray [a,b])=1:=by simp[wl,Array.getD,c]
   rw[e];calc#[by simp,λi hi=>?_,by simp[qC,SetTable.below,SetTable.below.go,Array.getD];lia];have :i=0:=by lia
   subst this;simp[qC,SetTable.below,SetTable.below.go,Array.getD]
 |_::_::_::_,h=>exact absurd h (by simp)
section
variable {zs:List Int}
def DM(zs:List Int)(l:List (Int×Value)):Prop:=∀e∈l,∃z k,e.2=.int z k/\z∈zs
def lQ(prog:Program)(w:World)(h:Heap)(a:Addr)(zs:List Int)(n:Nat):Prop:=
 ∃o es ep t,h.get? a=some o/\o.ExactSet/\o.data=.set es ep t/\ElemsOf (intKind prog w) es.toList/\DM zs es.toList/\es.size<=n/\t.fits es.size=true/\(ZU w=true\/t.led=true)
theorem KG(k:Int)(t:Tok):(intKind prog w).is k (.int k t)=true:=by simp[PySem.intKind,Value.isInt]
theorem lQ.kept(hS:lQ prog w h a zs n)(k:∀o,h.get? a=some o->h'.get? a=some o):lQ prog w h' a zs n:=by
 obtain⟨o,es,ep,t,b,r⟩:=hS;exact#[o,es,ep,t,k _ b,r]
theorem QB{o:Obj}{es':Array (Int×Value)}{t t':SetTable}(ho:h.get? a=some o)(hx:o.ExactSet)(hd:o.data=.set es ep t)
 (he:ElemsOf (intKind prog w) es'.toList) (hn:DM zs es'.toList) (hb:es'.size<=n) (hf:t'.fits es'.size=true) (hfl:ZU w=true\/t'.led=true):
 (h.update a<|Obj.putSet es' t').get? a=some {o with data:=.set es' (ep+1) t'}/\lQ prog w (h.update a<|Obj.putSet es' t') a zs n:=by
 let b:(h.update a<|Obj.putSet es' t').get? a=some {o with data:=.set es' (ep+1) t'}:=by
  let q:=fO (Obj.putSet es' t') ho (by rw[putSet_of es' t' hd];rfl);rw[putSet_of es' t' hd]at q;exact q
 exact#[b,_,es',ep+1,t',b,hx,rfl,he,hn,hb,hf,hfl]
theorem HC{g:Bool->Sem Unit}(hg:∀(b:Bool)(s₁:Shared)(Q':Unit->Shared->Prop),Q' Unit.unit s₁->wpAny (model prog w) A (g b) Q' E s₁)
 {o:Obj} {es1:Array (Int×Value)} {t t2:SetTable} {wd:Bool} {R:Option Bool->Shared->Prop}
  (ho:s.heap.get? a=some o) (hx:o.ExactSet) (hd:o.data=.set es ep t) (he1:ElemsOf (intKind prog w) es1.toList) (hn1:DM zs es1.toList) (hb1:es1.size<=n) (hnb:n<scanBound)
  (hf2:t2.fits es1.size=true) (hfl2:ZU w=true\/t2.led=true)
  (h:∀h',Heap.SameBut a s.heap h'->lQ prog w h' a zs n->R (some true) {s with heap:=h'}):
  wpAny (model prog w) A (storeSet a es1 t2 >>= λ_=>
   if(!wd&&t2.tooFull)=true then
    g (relayAll t2 es1<|SetTable.grown es1.size).2.2 >>= λ_=>
      storeSet a (relayAll t2 es1<|SetTable.grown es1.size).1 (relayAll t2 es1<|SetTable.grown es1.size).2.1 >>= λ_=>pure (some true)
   else pure (some true)) R E s:=by
 calc aE<|wpAny_storeSet_of ho hd ?_<|jj ();obtain⟨f,j⟩:=QB (prog:=prog) (w:=w) ho hx hd he1 hn1 hb1 hf2 hfl2;let i:=gE s.heap a<|Obj.putSet es1 t2;split
 ·let iP:=relayAll_perm t2 es1<|SetTable.grown es1.size;let c:=relayAll_fits t2 es1<|SetTable.grown es1.size;let d:=LZ t2 es1<|SetTable.grown es1.size;generalize relayAll t2 es1 (SetTable.grown es1.size)=L2 at iP c d⊢;obtain⟨k,p,r⟩:=L2;dsimp only at iP c d⊢;let m:k.size=es1.size:=by rw[←cI,iP.length_eq,cI]
  calc aE<|hg _ _ _ ?_;calc aE<|wpAny_storeSet_of f rfl ?_<|jj ();obtain⟨_,l⟩:=QB (n:=n) (prog:=prog) (w:=w) f hx rfl (he1.perm iP) (λe q=>hn1 e<|iP.mem_iff.mp q) () c (hfl2.imp id λy=>d.trans y);exact aJ<|h _ (i.trans<|gE _ a _) l
 ·exact aJ<|h _ i j
theorem my{k:Int}{tk:Tok}{Q:Bool->Shared->Prop}(hS:lQ prog w s.heap a zs n)(room:n+1<scanBound)(hk:k∈zs)
 (h:∀h',Heap.SameBut a s.heap h'->lQ prog w h' a zs (n+1)->∀b,Q b {s with heap:=h'}):
 wpAny (model prog w) A (setAddHashed a (.int k tk)<|(intKind prog w).hash k) Q E s:=by
 obtain⟨o,es,ep,t,i,hx,hd,he,hz,hn,hf,l⟩:=hS;let d:(intKind prog w).is k (.int k tk)=true:=KG k tk;unfold setAddHashed setAddHashedIn;calc dG<|aE<|fD i hd hf ?_;dsimp only;rw[byScan_of rfl () he];simp only[↓reduceIte];unfold setAddByScan;calc aE<|aE<|pQ<|aE<|wpAny_setScan_of d i hd hf he ?_;cases hr:List.findIdx? (λe=>(intKind prog w).is k e.2) es.toList with
 |some j=>
  dsimp only;calc aJ<|aJ ?_;let q:=h s.heap (Heap.SameBut.refl a s.heap) #[o,es,ep,t,i,hx,hd,he,hz,(),hf,l] false;cases s;exact q
 |none=>
  dsimp only;let hp:=layNew_perm t es ((intKind prog w).hash k)<|.int k tk;let c:=layNew_fits t es ((intKind prog w).hash k)<|.int k tk;let f:=im t es ((intKind prog w).hash k)<|.int k tk;generalize layNew t es ((intKind prog w).hash k) (.int k tk)=L at hp c f⊢;obtain⟨g,B,wd,C⟩:=L;dsimp only at hp c f⊢;rw[Array.toList_push]at hp;let m:ElemsOf (intKind prog w) g.toList:=(he.push d rfl).perm hp;let z:g.size=es.size+1:=by rw[←cI,hp.length_eq,aK,cI];rfl
  let p:DM zs g.toList:=λe q=>by
   rcases bJ.mp (hp.mem_iff.mp q)with q |q
   ·exact hz e q
   ·rw[aP.mp q];exact#[k,tk,rfl,hk]
  let hq:∀(b:Bool)(s₁:Shared)(u:Unit->Shared->Prop),u Unit.unit s₁->wpAny (model prog w) A (match b with |true=>rule "set.scan.the-table-gave-way" |false=>pure Unit.unit) u E s₁:=
   λb s₁ u hq=>by cases b<;>first |exact aJ hq |exact pQ hq
  calc aE<|hq _ _ _ ?_;let r:=l.imp id λy=>f.trans y
  split
  ·calc aE ?_;rw[hashByValue_scannable 8 (x:=Value.int k tk) rfl];calc aJ ?_;exact HC hq i hx hd m p () room c r λh' v hS=>aJ<|h h' v hS _
  ·calc aE<|aJ ?_;simp only[↓reduceIte];exact HC hq i hx hd m p () room c r λh' v hS=>aJ<|h h' v hS _
def JM(w:World)(T:Addr)(es:Array (Int×Value))(t:SetTable)(m:Nat)(h:Heap)(i:Nat)(fst:Value):Prop:=
 (ZU w=true/\fst=.int 0 0/\m=es.size)\/
 (ZU w=false/\(!t.plain&&decide (es.size>1))=false/\t.led=true/\m=wl t.place/\fst=.int (qC t.place i:Nat) 0)\/
 (ZU w=false/\∃pl:List Nat,h.get? T=some {cls:=.type "tuple",data:=.seq (pl.map λi:Nat=>rawInt i).toArray}/\pl.Perm (List.range es.size)/\m=es.size/\fst=.ref T)
theorem io(hS:lQ prog w s.heap a zs n)(h2:n<=2)
 (h:∀(h':Heap) d o es ep t I T fst m,(∀b o,s.heap.get? b=some o->h'.get? b=some o)->s.heap.objs.size<=I->(T=a\/s.heap.objs.size<=T/\T≠I)->I≠a->h'.get? a=some o->o.data=.set es ep t->t.fits es.size=true->DM zs es.toList->es.size<=2->m<=es.size->JL h' I a fst 0 es.size ep->JM w T es t m h' 0 fst->
  Q (.ref I) {s with heap:=h',drawn:=d}):
 wpAny (model prog w) A (pyIter<|.ref a) Q E s:=by
 obtain⟨o,es,ep,t,c,hx,hd,he,hz,hn,hf,f⟩:=hS;let hb:es.size<scanBound:=eE (bX hn h2) (by decide);let y:s.TypeIs (.ref a) "set":=#[o,c,hx.1]
 let g:a<s.heap.objs.size:=bA c;calc jg y F.slot_set_iter<|eA F.slot_set_iter y JU ?_<|F.args_set_iter_1 _;unfold Builtin.«frozenset.__iter__»;calc aE (m:=Builtin.Frozenset.slot0 _ _)<|aJ ?_;calc aE<|LH c hd hf ?_;calc aE<|tX c hd hf ?_;let fin:∀(h1:Heap) d (T:Addr) (fst:Value) (m:Nat),(∀b o,s.heap.get? b=some o->h1.get? b=some o)->(T=a\/s.heap.objs.size<=T/\T<h1.objs.size)->
  s.heap.objs.size<=h1.objs.size->m<=es.size->JM w T es t m (h1.push {cls:=.type "set_iterator",data:=.fields (List.toArray [fst,.int 0 0,.ref a,.int es.size 0,.int ep 0])}) 0 fst->
  Q (.ref h1.objs.size) {s with heap:=h1.push {cls:=.type "set_iterator",data:=.fields (List.toArray [fst,.int 0 0,.ref a,.int es.size 0,.int ep 0])},drawn:=d}:=by
  intro h1 d T fst m z p j r hm;calc h _ d o es ep t _ T fst m (λb o q=>aO _<|z b o q) j ?_ (iH<|bQ g j) (aO _<|z _ _ c) hd hf hz (bX hn h2) r (bF _ rfl) hm;rcases p with e |⟨B,C⟩
  ·exact .inl e
  ·exact .inr #[B,bK C]
 cases l:ZU w with
 |true=>
  simp only[Bool.not_true,eX,fH,if_false];calc aE<|aJ ?_;calc aE<|jf c hd hf ?_;calc aE (m:=newFields _ _)<|cT ?_;calc aJ #[_,rfl,"set_iterator",_,#[_,bF _ rfl,rfl],gW.lookup,?_];let q:=fin s.heap s.drawn a (.int 0 0) _ (λ_ _ q=>q) (.inl rfl) (aG _) (aG _)<|.inl #[l,rfl,rfl];cases s;exact q
 |false=>
  let f:t.led=true:=f.resolve_left (by rw[l];calc aY);by_cases h1:(!t.plain&&decide (es.size>1))=true
  ·rw[h1];simp only[jq,oP,if_true];calc aE (QT es.size (List.range es.size) bU λys d k=>?_);let u:ys.length=es.size:=by rw[k.length_eq,bU]
   calc aE (wpAny_newTuple ?_ (by rw[aC,u];calc jj hb));let v:=aO {cls:=.type "tuple",data:=.seq (ys.map λi:Nat=>rawInt i).toArray} c;calc aE (jf (s:={s with heap:=s.heap.push {cls:=.type "tuple",data:=.seq (ys.map λi:Nat=>rawInt i).toArray},drawn:=d}) v hd hf ?_);calc aE (m:=newFields _ _)<|cT ?_;calc aJ #[_,rfl,"set_iterator",_,#[_,bF _ rfl,rfl],gW.lookup,?_];exact fin (s.heap.push {cls:=.type "tuple",data:=.seq (ys.map λi:Nat=>rawInt i).toArray}) d s.heap.objs.size (.ref s.heap.objs.size) _ (λb o q=>aO _ q) (.inr #[aG _,by rw[fV];calc oH _]) (by rw[fV];calc lC _) (aG _)
    (.inr<|.inr #[l,ys,aO _<|bF _ rfl,k,rfl,rfl])
  ·let h1:=dM.mpr h1;rw[h1];simp only[lE,fH,if_false];calc aE<|aJ ?_;calc aE<|jf c hd hf ?_;calc aE (m:=newFields _ _)<|cT ?_;calc aJ #[_,rfl,"set_iterator",_,#[_,bF _ rfl,rfl],gW.lookup,?_];let x:=kX hf;let q:=fin s.heap s.drawn a (.int 0 0) _ (λ_ _ q=>q) (.inl rfl) (aG _) (by rw[←x];calc(DX (xs:=t.place) ()).1)<|.inr<|.inl #[l,h1,f,rfl,rfl];cases s;exact q
theorem CB{o:Obj}{slot g:Nat}{t:SetTable}{Q:Option (Value×Nat)->Shared->Prop}(ho:s.heap.get? a=some o)(hd:o.data=.set es ep t)(hf:t.fits es.size=true)(hB:ZU w=false)
 (hs:(!t.plain&&decide (es.size>1))=false) (hl:t.led=true)
 (h:Q (match es[SetTable.below t.place slot]?,t.place[SetTable.below t.place slot]? with |some (_,x),some j=>some (x,j+1) |_,_=>none) s):wpAny (model prog w) A (setNext a slot g ep) Q E s:=by
 let b:w.params.followText "set-order"=false:=hB;unfold setNext;calc aE<|fD ho hd hf ?_;dsimp only;unfold setsByText;calc aE<|aE<|mP<|aJ ?_;show wpAny _ _ (if w.params.followText "set-order"=true then _ else _) _ _ _;rw[b,aH aY];show wpAny _ _ (if(!t.plain&&decide (es.size>1))=true then _ else _) _ _ _;rw[hs,aH aY];calc aE (show wpAny _ _ (if(!t.led&&!es.isEmpty)=true then _ else _) _ _ _ from ?_);rw[hl,aH (by simp)];exact aJ<|aJ h
theorem JK(hz:DM zs es.toList)(hi:i<es.size):∃e z tk,es[i]?=some e/\e.2=.int z tk/\z∈zs:=by
 obtain⟨z,tk,h1,h2⟩:=hz es[i] (Array.getElem_mem_toList hi);exact#[es[i],z,tk,lP hi,h1,h2]
theorem gq{I T:Addr}{o:Obj}{m:Nat}{t:SetTable}{fst:Value}{Q:Option Value->Shared->Prop}
 (ho:s.heap.get? a=some o) (hd:o.data=.set es ep t) (hf:t.fits es.size=true) (h2:es.size<=2) (hme:m<=es.size) (hz:DM zs es.toList) (hit:JL s.heap I a fst i es.size ep) (hm:JM w T es t m s.heap i fst)
 (him:i<m) (hTI:T≠I) (haI:a≠I)
 (h:∀h' fst' z tk,z∈zs->(∀b o,b≠I->s.heap.get? b=some o->h'.get? b=some o)->JL h' I a fst' (i+1) es.size ep->JM w T es t m h' (i+1) fst'->Q (some<|.int z tk) {s with heap:=h'}):
 wpAny (model prog w) A (pyNext<|.ref I) Q E s:=by
 let hi:i<es.size:=by lia
 let y:s.TypeIs (.ref I) "set_iterator":=#[_,hit,rfl]
 unfold pyNext;calc aE<|sL<|fZ (name:=Str.ofString "__next__") y gW<|eA gW y ZJ ?_<|JJ _;unfold Builtin.«set_iterator.__next__»;calc aE (m:=slotArgs _ _ _)<|aJ ?_;calc aE<|GV hit rfl ?_;dsimp only;unfold setEntries;calc aE<|aE<|fD ho hd hf<|aJ ?_;rw[aH (by simp)];calc aE<|aJ ?_;let two:∀(B:Value->Shared->Prop)(nx:Nat)(v:Value)(n:∀h':Heap,JM w T es t m h' (i+1)<|.int nx 0),(∃z tk,v=.int z tk/\z∈zs)->
  wpAny (model prog w) A.in1 (do setField (.ref I) 0 (rawInt nx);setField (.ref I) 1<|rawInt<|(i:Int)+1;ret v)
   (λfin s'=>∃v,fin=Fin.done (Flow.ret v)/\wpAny (model prog w) A (pure<|some v) Q E s') B s:=by
  rintro B nx v n ⟨z,tk,rfl,u⟩;calc aE (gL hit (by simp) λh1 f g=>?_);calc aE (gL (s:={s with heap:=h1}) f (by simp) λh2 j x=>?_);exact aJ #[_,rfl,aJ<|h h2 (.int nx 0) z tk u (λb o hb q=>x.extBut b o hb<|g.extBut b o hb q) (by simpa[JL,rawInt]using j)<|n h2]
 rcases hm with⟨l,rfl,rfl⟩ |⟨l,h1,hl,rfl,rfl⟩ |⟨l,pl,p,hp,rfl,rfl⟩
 ·dsimp only;calc aE<|IU ho hd hf l ?_;simp only[bE];let pp:=QG (w.params.setOrder a ep) es;let C:(pickOrder (w.params.setOrder a ep) es).size=es.size:=by rw[←cI,pp.length_eq,cI]
  obtain⟨e,z,tk,c,f,j⟩:=JK (es:=pickOrder (w.params.setOrder a ep) es) (zs:=zs) (λe q=>hz e<|pp.mem_iff.mp q) (i:=i) ();rw[c];dsimp only[Option.map];exact two _ 0 _ (λh'=>.inl #[l,rfl,rfl]) #[z,tk,f,j]
 ·dsimp only;calc aE<|CB ho hd hf l h1 hl ?_;let D:t.place.size=es.size:=kX hf;rw[bE,(DX (xs:=t.place) ()).2.1 i him];let d:i<t.place.size:=by lia
  obtain⟨e,z,tk,c,f,j⟩:=JK hz hi;rw[c,lP d];dsimp only;calc two _ (t.place[i]+1) _ (λh'=>.inr<|.inl #[l,h1,hl,rfl,?_]) #[z,tk,f,j];simp[qC,Array.getD,d]
 ·dsimp only;let iT:i<pl.length:=by rw[hp.length_eq,bU];exact hi
  let d:pl[i]<es.size:=by simpa using hp.mem_iff.mp (bT iT)
  calc aE<|GU p rfl ?_;dsimp only;let r:((pl.map λi:Nat=>rawInt i).toArray)[(i:Int).toNat]?=some (.int (pl[i]:Nat) 0):=by
   rw[bE,sM,aF,aA iT];rfl
  rw[r];dsimp only;unfold setNextDrawn;calc aE<|aE<|fD ho hd hf ?_;dsimp only;rw[aH (by simp)];obtain⟨e,z,tk,c,f,j⟩:=JK hz d;rw[bE,c];dsimp only;calc aJ ?_;calc aE (gL hit (by simp) λh1 F g=>?_);let k:∀b o,b≠I->s.heap.get? b=some o->h1.get? b=some o:=λb o hb q=>g.extBut b o hb q
  rw[f];exact aJ #[_,rfl,aJ<|h h1 (.ref T) z tk j k (by simpa[JL,rawInt]using F)<|.inr<|.inr #[l,pl,k _ _ hTI p,hp,rfl,rfl]]
theorem uc{I T:Addr}{o:Obj}{m:Nat}{t:SetTable}{fst:Value}{Q:Option Value->Shared->Prop}(hh:A.handled=none)
 (ho:s.heap.get? a=some o) (hd:o.data=.set es ep t) (hf:t.fits es.size=true) (h2:es.size<=2) (hit:JL s.heap I a fst m es.size ep) (hm:JM w T es t m s.heap m fst)
 (h:∀h',(∀b o,b≠I->s.heap.get? b=some o->h'.get? b=some o)->Q none {s with heap:=h'}):
 wpAny (model prog w) A (pyNext<|.ref I) Q E s:=by
 let n:s.TypeIs (.ref I) "set_iterator":=#[_,hit,rfl]
 unfold pyNext;calc aE<|sL<|fZ (name:=Str.ofString "__next__") n gW<|eA gW n ZJ ?_<|JJ _;unfold Builtin.«set_iterator.__next__»;calc aE (m:=slotArgs _ _ _)<|aJ ?_;calc aE<|GV hit rfl ?_;dsimp only;unfold setEntries;calc aE<|aE<|fD ho hd hf<|aJ ?_;rw[aH (by simp)];calc aE<|aJ ?_;let stop:∀(h1:Heap),(∀b o,b≠I->s.heap.get? b=some o->h1.get? b=some o)->
  wpAny (model prog w) A.in1 (newExc (.type "StopIteration") [] >>= λe=>(raiseNew e:Sem Fin)) (λfin s'=>∃v,fin=Fin.done (Flow.ret v)/\wpAny (model prog w) A (pure<|some v) Q E s')
   (λe s'=>wpAny (model prog w) A (do if ←isInstance e (Value.type "StopIteration")then pure none else throw e) Q E s') {s with heap:=h1}:=by
  intro h1 p;calc aE ?_;simp only[newExc,newTuple];calc aE (cT ?_ (by size_fits));calc aE (m:=firstArgMember _ _) (wpAny_of_eq (a:=Value.none) (by first |rfl |(simp only[firstArgMember];rfl)) ?_);calc cT ?_ (by size_fits);calc wpAny_raiseNew_none (A:=A.in1) hh ?_;calc aE<|pR (T:="StopIteration") (b:=true) #[_,bF _ rfl,rfl] isSubtype_stop ?_;exact aJ (h _ λb o hb q=>aO _<|aO _<|p b o hb q)
 rcases hm with⟨f,rfl,rfl⟩ |⟨f,h1,hl,rfl,rfl⟩ |⟨f,pl,g,hp,rfl,rfl⟩
 ·dsimp only;calc aE<|IU ho hd hf f ?_;let r:(pickOrder (w.params.setOrder a ep) es).size=es.size:=by rw[←cI,(QG _ _).length_eq,cI]
  simp only[bE];rw[rX ()];dsimp only[Option.map];calc aE (gL hit (by simp) λh1 j c=>?_);exact stop h1 λb o hb q=>c.extBut b o hb q
 ·dsimp only;calc aE<|CB ho hd hf f h1 hl ?_;let k:=kX hf;rw[bE,(DX (xs:=t.place) ()).2.2,k,rX<|aG _];dsimp only;calc aE (gL hit (by simp) λh1 j c=>?_);exact stop h1 λb o hb q=>c.extBut b o hb q
 ·dsimp only;calc aE<|GU g rfl ?_;dsimp only;let d:((pl.map λi:Nat=>rawInt i).toArray)[(es.size:Int).toNat]?=none:=by
   rw[bE,sM,List.getElem?_eq_none (by rw[aC,hp.length_eq,bU];calc aG _)]
  rw[d];dsimp only;calc aE (gL hit (by simp) λh1 j c=>?_);calc aE (gL (s:={s with heap:=h1}) j (by simp) λh2 u l=>?_);exact stop h2 λb o hb q=>l.extBut b o hb<|c.extBut b o hb q
theorem cq(hh:A.handled=none){I T:Addr}{o:Obj}{m:Nat}{t:SetTable}(hTI:T≠I)(haI:a≠I)(hd:o.data=.set es ep t)(hf:t.fits es.size=true)(h2:es.size<=2)(hme:m<=es.size)(hz:DM zs es.toList):
 Walks prog w A I [I,a,T] [I] m (λ_ v=>∃z tk,v=.int z tk/\z∈zs) (λi h=>h.get? a=some o/\∃fst,JL h I a fst i es.size ep/\JM w T es t m h i fst) where
 sub:=λb hb=>by simp at hb;simp[hb]
 frame:=λi h h' st k=>by
  obtain⟨c,fst,d,e⟩:=st;calc#[k a (by simp) _ c,fst,k I (by simp) _ d,?_];rcases e with m |m |⟨n,pl,g,r⟩
  ·exact .inl m
  ·exact .inr<|.inl m
  ·exact .inr (.inr #[n,pl,k T (by simp) _ g,r])
 item:=λi s Q E hi st f=>by
  obtain⟨c,fst,d,e⟩:=st;refine gq c hd hf h2 hme hz d e hi hTI haI λh' fst' z tk j k p u=>?_
  exact f (.int z tk) h' s.toks #[z,tk,rfl,j] #[k a o haI c,fst',p,u] λb o hb q=>k b o (by simpa using hb) q
 done:=λs Q E st f=>by
  obtain⟨c,fst,d,e⟩:=st;exact uc hh c hd hf h2 d e λh' k=>f h' s.toks λb o hb q=>k b o (by simpa using hb) q
 self:=λi s Q E st f=>by
  obtain⟨c,fst,d,e⟩:=st;let l:s.TypeIs (.ref I) "set_iterator":=#[_,d,rfl]
  calc jg l ZD<|eA ZD l VP ?_<|DE _;show wpAny _ _ (ret<|.ref I) _ _ s;exact aJ #[_,rfl,"set_iterator",_,l,gW.lookup,f]
end
section
open PySem.SeqAt PySem.W
section
variable {I:Addr} {P:Nat->Value->Prop} {St:Nat->Shared->Prop} {zs:List Int}
theorem cn(W:WalksS prog w A.in1 I fp wr G n P St)(S:Addr)(hSf:S∉fp)(hval:∀i v,P i v->∃z t,v=.int z t/\z∈zs)(hb:n+1<scanBound):
 ∀(k i:Nat) (s:Shared),n-i=k->i<=n->St i s->lQ prog w s.heap S zs i->
  (∀s',Moved (S::wr) G s s'->lQ prog w s'.heap S zs n->R (.ok<|.ret .none) s')->
  codeAny (model prog w) A (.builtin "set.update.loop" #[[.ref S,.ref I],[]]) R s:=by
 let d:S∉wr:=λq=>hSf<|W.sub _ q
 let a:∀b∈wr,b∈S::wr:=λb q=>aW _ q
 intro k
 induction k with
 |zero=>
  intro i s hk hi c h j;let mF:i=n:=by lia
  subst mF;calc fJ tL ?_;rw[eJ lS _];show wpAny _ A.in1 (pyNext (.ref I) >>= _) _ _ s;calc aE (W.done s _ _ c λs' hm=>?_);show wpAny _ A.in1 (ret Value.none) _ _ s';exact aJ (j s' (hm.mono a)<|h.kept λo q=>hm.heap S _ d q)
 |succ k r=>
  intro i s hk hi c h j;let lR:i<n:=by lia
  calc fJ tL ?_;rw[eJ lS _];show wpAny _ A.in1 (pyNext (.ref I) >>= _) _ _ s;calc aE (W.item i s _ _ lR c λv s' u e hm=>?_);obtain⟨z,t,rfl,hz⟩:=hval i v u;show wpAny _ A.in1 (holding [Value.int z t] (setAdd S<|.int z t) >>= _) _ _ s';calc aE<|dG ?_;unfold setAdd;calc dG ?_;calc aE<|(intKind prog w).pyHash (k:=z) (KG _ _) ?_;refine my (s:={s' with toks:=s'.toks+1}) (h.kept λo q=>hm.heap S _ d q) () hz λh' p l b=>?_
  refine aJ #[iE lS _,r (i+1) _ () lR (W.frame _ s' _ _ e (lC _) λb hb o q=>?_) l λm f g=>?_]
  ·rw[p.2 b λy:b=S=>hSf<|y▸hb];exact q
  ·calc j m (Moved.trans W.gtrans ((hm.mono a).then_heap (lC _) λb o hb q=>?_) f) g;rw[p.2 b λy:b=S=>hb (by rw[y];calc aV)];exact q
end
section
variable {zs:List Int}
set_option maxHeartbeats 3200000 in
theorem cp{items:Array Value}(hh:A.handled=none)(hl:s.heap.IsList l items)(hi:∀(i:Nat)(v:Value),items[i]?=some v->∃z t,v=.int z t/\z∈zs)(hb:items.size+1<scanBound)
 (h:∀(h':Heap)(tk:Nat),lQ prog w h' s.heap.objs.size zs items.size->(∀b o,s.heap.get? b=some o->h'.get? b=some o)->Q (.ref s.heap.objs.size) {s with heap:=h',toks:=tk}):
 wpAny (model prog w) A (call (.type "set") [.ref l]) Q E s:=by
 obtain⟨c,tl,J⟩:=fE.mro;let q:=fE.made;let K:=fE.sub;calc wpAny_call<|codeAny_of_tree ?_;show wpAny _ _ (callAny (.type "set") _) _ _ _;calc aJ #[Code.quiet_builtin _ (by decide+kernel),fJ F.entry_type_call ?_];rw[Around.under_plain (weight_type_call_type "set" [.ref l] []) rfl];let h1:=fE.notType;let h2:=fE.canCreate;let O:=F.typeCall_set_1<|.ref l
 repeat (any_goals (first |assumption |wp_step))
 refine oY (m7 (w:=w) (.ref l) (E:=E) (Q₁:=λobj s₁=>∃led:Bool,(ZU w=true\/led=true)/\obj=.ref s.heap.objs.size/\s₁={s with heap:=s.heap.push {cls:=.type "set",dict:=none,data:=.set (List.toArray []) 0 (.fresh 0 0 led)}}) λled hl=>#[led,hl,rfl,rfl]) λr s₁ hr=>?_
 cases r with
 |error e=>exact hr
 |ok P=>
  cases P with
  |ret obj=>
   obtain⟨led,f,rfl,rfl⟩:=hr;generalize a:({cls:=.type "set",dict:=none,data:=.set (List.toArray []) 0 (.fresh 0 0 led)}:Obj)=oS;let L:(s.heap.push oS).get? s.heap.objs.size=some oS:=bF _ (by rw[←a];rfl);let S:Shared.TypeIs {s with heap:=s.heap.push oS} (.ref s.heap.objs.size) "set":=#[_,L,by rw[←a]]
   let T:=fE.init.lookup;let U:=fE.init.bind<|.ref s.heap.objs.size
   repeat (any_goals (first |assumption |wp_step))
   refine oY (codeAny_call_builtin (R:=wants (λr s₂=>r=.none/\∃h' tk,s₂={s with heap:=h',toks:=tk}/\lQ prog w h' s.heap.objs.size zs items.size/\
    (∀b o,s.heap.get? b=some o->h'.get? b=some o)) E) fE.init.plain F.entry_set_init<|check_set_init_1 S ?_) λr₂ s₂ hr₂=>?_
   ·obtain⟨ol,g,j,W,k⟩:=hl;obtain⟨ocls,odict,odata,oslots⟩:=ol;simp only at j k;subst j;subst k;let m:=aO oS g;let M:=F.sub_list_set;let N:=F.sub_list_frozenset;let mX:(Value.type "list"==Value.type "dict")=false:=by decide
    let n:(s.heap.push oS).IsList l items:=#[_,m,rfl,W,rfl]
    let u:Nat.succ l<=s.heap.objs.size:=bA g;let x:A.in1.in1.in1.handled=none:=by simp[hh]
    let hz:=fV s.heap oS;let p:l≠(s.heap.push oS).objs.size:=bK<|eW ();let y:s.heap.objs.size∉[(s.heap.push oS).objs.size,l]:=by
     simp only[bI,dA,or_false,not_or];exact#[bK (),iH<|eW u]
    subst a;unfold Builtin.«set.__init__» noKeywords Builtin.Frozenset.updateFrom;generalize B:pyIter=PI
    wp_walk
    subst B;calc oW n ?_;calc aE<|wpAny_runValue ?_;refine cn ((Walks.list x _ l p items).toS) s.heap.objs.size y hi hb (items.size-0) 0 _ () (cS _) #[#[_,bF _ rfl,rfl,rfl],(n.push _)] ?_ ?_
    ·exact#[_,(List.toArray []),0,.fresh 0 0 led,aO _ L,#[rfl,rfl,rfl],rfl,λe he=>by simp at he,λe he=>by simp at he,aG _,rfl,f]
    ·intro s' hm d;obtain⟨h',X,Y,C,D⟩:=s';let Z:X=s.gens:=hm.gens;let ed:Y=s.drawn:=hm.drawn;let eo:D=s.os:=hm.os;subst Z;subst ed;subst eo;show wpAny _ _ _ _ _ _;calc aJ ?_;show wpAny _ _ (ret Value.none) _ _ _;calc aJ #[rfl,h',C,rfl,d,λb o e=>?_];let G:Nat.succ b<=s.heap.objs.size:=bA e;calc hm.heap b o ?_<|aO _<|aO _ e;simp only[bI,dA,or_false,not_or];exact#[bK<|eW G,bK<|eW ()]
   ·cases r₂ with
    |error e=>exact hr₂
    |ok H=>
     cases H with
     |ret r=>
      obtain⟨rfl,h',tk,rfl,d,I⟩:=hr₂
      repeat (any_goals (first |assumption |wp_step))
      exact h _ _ d I
     |_=>exact hr₂.elim
  |_=>exact hr.elim
def WJ(zs:List Int)(vs:List Value):Prop:=∀v∈vs,∃z t,v=.int z t/\z∈zs
theorem KH:∀{vs:List Value},WJ zs vs->∃ns,IntsAre vs ns/\(∀z∈ns,z∈zs)/\ns.length=vs.length
 |[],_=>#[[],.nil,λ_ h=>(nomatch h),rfl]
 |v::vs,h=>by
  obtain⟨z,t,rfl,hz⟩:=h v aV;obtain⟨ns,h1,h2,a⟩:=KH λx q=>h x<|aW _ q
  exact#[z::ns,.cons z t h1,λx q=>(bI.mp q).elim (λe=>e▸hz) (h2 x),cM (· +1) a]
def RqW(s:Shared)(zs:List Int)(L:Addr)(q:Result)(s':Shared):Prop:=∃(h':Heap)(tk:Nat)(d:_)(vs:Array Value)(c':Nat),q=.ok (.ret<|.ref L)/\s'={s with heap:=h',toks:=tk,drawn:=d}/\
 (∀b o,s.heap.get? b=some o->h'.get? b=some o)/\h'.get? L=some {cls:=.type "list",dict:=none,data:=.seq vs c',slots:= (List.toArray [])}/\vs.size<=2/\WJ zs vs.toList
theorem GH{R:List Value->Shared->Prop}(hh:A.handled=none)(hS:lQ prog w s.heap r zs 2)
 (h:∀(h':Heap)(tk:Nat) d (vs:List Value),(∀b o,s.heap.get? b=some o->h'.get? b=some o)->vs.length<=2->WJ zs vs->R vs {s with heap:=h',toks:=tk,drawn:=d}):
 wpAny (model prog w) A (collect<|.ref r) R E s:=by
 let oB:r<s.heap.objs.size:=by obtain⟨o,es,ep,t,B,hx,_⟩:=hS;exact bA B
 unfold collect;calc aE<|wpAny_runValue<|fJ entry_proto_collect' ?_;rw[eJ F.plain_proto_collect _];show wpAny _ A.in1 (newList [] >>= λl=>again<|.builtin "list.__iadd__" #[[l,.ref r],[]]) _ _ s;calc aE<|cT ?_;calc aJ #[iE F.plain_list_iadd _,fJ entry_list_iadd' ?_];rw[eJ F.plain_list_iadd _];generalize k:s.heap.push {cls:=.type "list",data:=.seq ([]:List Value).toArray}=h1;let C:h1.get? s.heap.objs.size=some {cls:=.type "list",data:=.seq (List.toArray [])}:=by rw[←k];exact bF _ rfl
 let k1:∀b o,s.heap.get? b=some o->h1.get? b=some o:=λb o q=>by rw[←k];exact aO _ q
 let M:h1.objs.size=s.heap.objs.size+1:=by rw[←k,fV]
 generalize hL:s.heap.objs.size=L at C M oB⊢;let key:wpAny (model prog w) A.in1 (Builtin.List.listExtendWith (.ref L) (.ref r)<|.ref L) (λfin s'=>match fin with | .done f=>RqW s zs L (.ok f) s' | .again z=>z.quiet=true/\codeAny (model prog w) A z (RqW s zs L) s') (λe s'=>RqW s zs L (.error e) s') {s with heap:=h1}:=by
  unfold Builtin.List.listExtendWith;let mM:lQ prog w h1 r zs 2:=hS.kept λo q=>k1 _ _ q
  let D:Shared.TypeIs {s with heap:=h1} (.ref r) "set":=by obtain⟨o,es,ep,t,B,hx,_⟩:=mM;exact#[o,B,hx.1]
  calc aE<|hW (T:="set") D ?_;let N:Builtin.List.listSameRef (.ref L) (.ref r)=false:=by
   have :L≠r:=iH oB;simp[Builtin.List.listSameRef,this]
  let e1:(Value.type "set"==Value.type "list")=false:=by decide
  let e2:(Value.type "set"==Value.type "tuple")=false:=by decide
  simp only[N,e1,e2,rM,fH,if_false];calc aE (io (s:={s with heap:=h1}) mM (aG _) λh2 d o es ep t I T fst m O hI G P B hd hf hz hn Q S hm=>?_);let U:Shared.TypeIs {s with heap:=h2,drawn:=d} (.ref r) "set":=by
   obtain⟨o',X,oM⟩:=D;exact#[o',O _ _ X,oM]
  calc aE<|dG<|iq (s:={s with heap:=h2,drawn:=d}) U ?_;replace hI:h1.objs.size<=I:=hI;let oB:Nat.succ r<=L:=oB;let Y:r≠I:=bK<|eW ();let Z:T≠I:=G.elim (λe=>e▸Y) And.right;let hTL:L≠T:=G.elim (λe=>e▸iH (eW oB)) λe=>bK (bQ (by show L<h1.objs.size;lia) e.1)
  let n:h2.get? L=some {cls:=.type "list",data:=.seq (List.toArray [])}:=O _ _ C;let H:L∉[I,r,T]:=by
   simp only[bI,dA,or_false,not_or];exact#[bK (),iH<|eW oB,hTL]
  let go:∀(J:Heap)(c:Nat),(∀b o,b≠L->h2.get? b=some o->J.get? b=some o)->J.get? L=some {cls:=.type "list",data:=.seq (List.toArray []) c}->
   codeAny (model prog w) A (.builtin "list.extend.loop" #[[.ref L,.ref I,.ref L],[]]) (RqW s zs L) {s with heap:=J,drawn:=d}:=by
   intro J c k3 a;let W:=cq (prog:=prog) (w:=w) (A:=A.in1) hh Z P.symm hd hf hn Q hz;refine codeAny_extend_loopS W.toS (by have :=dH;lia) L H (.ref L) m 0 _ (List.toArray []) c rfl (cS _) ?_ a (ItemsOf.nil _) λs' acc' z g hS' j=>?_
   ·exact W.frame 0 h2 J #[B,fst,S,hm] λb hb o q=>k3 b o (λe=>H<|e▸hb) q
   ·obtain⟨h',g',d',tk',os'⟩:=s';let eg:g'=s.gens:=g.gens;let ed:d'=d:=g.drawn;let eo:os'=s.os:=g.os;subst eg;subst ed;subst eo;refine#[h',tk',_,acc',z,rfl,rfl,λb o q=>?_,hS',by rw[j.1];lia,λv hv=>?_]
    ·let hbl:Nat.succ b<=L:=by rw[←hL];exact bA q
     let K:b≠L:=bK<|eW hbl;calc g.heap b o ?_<|k3 b o K<|O b o<|k1 b o q;simp only[bI,dA,or_false,not_or];exact#[K,bK<|eW ()]
    ·obtain⟨i,hi,rfl⟩:=cQ hv;exact j.2 i _ (by rw[←gH];calc aA hi)
  calc wpAny_ite_split (λ_=>?_) λ_=>aJ #[iE ml _,go h2 0 (λb o _ q=>q) n];calc aE<|pQ ?_;calc aE ?_;show wpAny _ _ (updateSeq L (·.push .none) >>= λ_=>updateSeq L (·.pop)) _ _ _;calc aE<|wpAny_updateSeq n rfl ?_;let a:=fO (Obj.mapSeq (·.push Value.none)) n rfl;calc wpAny_updateSeq (hz:=by seq_fits) a rfl ?_;let hS4:=fO (Obj.mapSeq (·.pop)) a rfl;calc aJ #[iE ml _,go _ _ (λb o hb q=>?_) hS4];exact(gI _ _<|cE hb).trans ((gI _ _<|cE hb).trans q)
 refine iU key (λfin s' x=>?_) λe s' x=>?_
 ·cases fin with
  |done f=>
   obtain⟨h',tk,d,vs,z,e,rfl,k',p,hp,u⟩:=x;cases e;show wpAny _ A (load L >>= _) _ _ _;exact aE (bp p<|aJ<|h h' tk d vs.toList k' (by simpa using hp) u)
  |again c1=>
   calc#[x.1,oY x.2 λq s2 y=>?_];obtain⟨h',tk,d,vs,z,rfl,rfl,k',p,hp,u⟩:=y;show wpAny _ A (load L >>= _) _ _ _;exact aE (bp p<|aJ<|h h' tk d vs.toList k' (by simpa using hp) u)
 ·obtain⟨_,_,_,_,_,e,_⟩:=x;cases e
theorem LU(hh:A.handled=none)(hS:lQ prog w s.heap r zs 2)
 (h:∀(h1 h':Heap)(tk:Nat) d (oJ:List Value) (ss':List Int) (e:Nat),(∀b o,s.heap.get? b=some o->h1.get? b=some o)->(∀b o,h1.get? b=some o->h'.get? b=some o)->h'.get? h1.objs.size=some {cls:=.type "list",data:=.seq oJ.toArray e}->IntsAre oJ ss'->ss'.length<=2->(∀z∈ss',z∈zs)->Q (.ref h1.objs.size) {s with heap:=h',toks:=tk,drawn:=d}):
 wpAny (model prog w) A (call (.builtin "sorted") [.ref r]) Q E s:=by
 calc rW kind_sorted plain_sorted entry_sorted (args_sorted1 _) ?_;unfold Builtin.«sorted»;calc aE (m:=checkCount "sorted" 1 1 _)<|aJ ?_;calc aE (GH (A:=A.in1) hh hS λh' tk d vs hk i f=>?_);obtain⟨ns,f,mF,j⟩:=KH f;let k:sizeLine=16777216:=dH;calc aE<|ON ?_ ();let a:(h'.push<|seqObj "list" vs.toArray 0).get? h'.objs.size=some (seqObj "list" vs.toArray 0):=bF _ rfl;show wpAny _ _ _ _ _ {s with heap:=h'.push (seqObj "list" vs.toArray 0),toks:=tk,drawn:=d};calc aE (dG<|eA slot_list_sort #[_,a,rfl] entry_list_sort (list_sort_tree (A:=A.in1.in1) a f () λout ss' l g n=>#[_,rfl,?_])<|args_list_sort _);obtain⟨e,he⟩:=sortedHeap_at (out:=out) a;calc aJ #[_,rfl,h h' _ tk d _ ss' e hk (λb o c=>?_) (by rw[pE];calc he) l (by rw[g.length_eq];lia) λz q=>mF z<|g.mem_iff.mp q];let lR:=bA c;rw[sortedHeap_old (bK lR) (by rw[size_push'];calc gP lR)];exact aO _ c
end
theorem HE:∀{zs:List Int}{its:List Value},cY (zs.map V.int) its->WJ zs its
 |[],_,.nil=>λv h=>(nomatch h)
 |z::zs,_,.cons r q=>by
  obtain⟨t,rfl⟩:=r;intro v h;rcases bI.mp h with rfl |h
  ·exact#[z,t,rfl,aV]
  ·obtain⟨y,t,e,m⟩:=HE q v h;exact#[y,t,e,aW _ m]
theorem XT:∀{vs:List Value}{ss:List Int},IntsAre vs ss->cY (ss.map V.int) vs
 |_,_,.nil=>.nil
 |_,_,.cons y t h=>.cons #[t,rfl]<|XT h
noncomputable def WkO(P:Program)(w:World)(p:Addr)(zs:List Int):HO:=.ext λh=>lQ P w h p zs 2
theorem NN:xX X (.type "set") (λxs H Q=>X.calm=true/\∃(p:Addr)(zs:List Int),xs=[.ref p]/\cO X.K H p (zs.map V.int)/\zs.length=2/\
 ∀l,H l=none->Q (.ref l) (upd H l<|WkO X.prog X.w l zs)):=by
 intro aM s σ H xs us Q I r h;obtain⟨hc,p,zs,rfl,hp,h2,q⟩:=h;obtain⟨u,rfl,d⟩:=jY r;cases d;obtain⟨its,rv,⟨o,n,e,f,t,g⟩,z⟩:=I.list hp;let mN:its.length=2:=by have :=rv.length;rw[aC]at this;lia
 let j:scanBound=4096:=rfl;refine cp (items:=its.toArray) (zs:=zs) (I.ok.hd hc) #[o,e,f,n,by simpa using g] (λi v m=>HE rv v<|aS (by rw[←sM];calc m)) (by rw[aR];lia) λh' tk b k=>?_
 rw[show its.toArray.size=2 from by simpa using mN]at b;let c:∃o,h'.get? s.heap.objs.size=some o:=by obtain⟨o,_,_,_,x,_⟩:=b;exact#[o,x]
 exact#[.ref _,_,I.laid (a:=s.heap.objs.size) (o:=WkO X.prog X.w s.heap.objs.size zs) (t':=tk) k (aG _) #[b,c,λh1 h2 x y=>x.kept y],rfl,q _<|I.hok.fresh<|aG _]
theorem VZ:xX X (.builtin "sorted") (λxs H Q=>X.calm=true/\∃(p:Addr)(zs:List Int),xs=[.ref p]/\H p=some (WkO X.prog X.w p zs)/\
 ∀(l:Addr)(mW:List Int),H l=none->mW.length<=2->(∀z∈mW,z∈zs)->Q (.ref l) (upd H l<|.lst<|mW.map V.int)):=by
 intro aM s σ H xs us Q I r h;obtain⟨hc,p,zs,rfl,hp,q⟩:=h;obtain⟨u,rfl,g⟩:=jY r;cases g;let i:lQ X.prog X.w s.heap p zs 2:=(I.hok p _ hp).1;refine LU (I.ok.hd hc) i λh1 h' tk d oJ b e j k m n iP c=>?_
 let f:Inv X aM σ H {s with heap:=h1,toks:=tk,drawn:=d}:=(I.kept j).drawn d;exact#[.ref h1.objs.size,_,f.laid (a:=h1.objs.size) (o:=.lst<|b.map V.int) (t':=tk) k (aG _) #[by rw[aC,dH];lia,oJ,e,XT n,m],rfl,q _ _ (f.hok.fresh<|aG _) iP c]
end
section
variable {I:Addr} {P:Nat->Value->Prop} {St:Nat->Shared->Prop}
end
section
open PySem.SeqAt PySem.W
section
variable {P:Nat->Value->Prop} {OK:Heap->Prop}
end
end
section
open PySem.SeqAt
def Ite(a:Addr):It:=
 #[λi H=>∃xs x,H a=some (.lst xs)/\xs[i]?=some x,
  λi H v H'=>∃p x,v=.ref p/\H p=none/\H'=upd H p (.tup [.int i,x])/\∀xs,H a=some (.lst xs)->xs[i]?=some x,
  λi H=>∃xs,H a=some (.lst xs)/\xs.length<=i]
def Eat(e it l:Addr)(i:Nat)(h:Heap):Prop:=(∃old,IsEnum h e it i old)/\h.IsListIter it l i
theorem LL{elts:List Expr}{cx:_}{tp:Pos}(e it l:Addr)(ne:e≠it):
 NR P w K (.Tuple elts cx tp) (Ite l) [e,it] e (Eat e it l) where
 mem:=by simp
 obj:=λi h st b hb=>by
  obtain⟨⟨old,ge⟩,⟨a,d,_,C⟩⟩:=st;simp only[bI,dA,or_false]at hb;rcases hb with rfl |rfl
  ·exact#[_,ge,λv e=>by cases e]
  ·exact#[_,d,λv e=>by rw[C]at e;cases e]
 keep:=λi h h' st k=>by
  obtain⟨⟨old,ge⟩,⟨a,d,D⟩⟩:=st;exact#[#[old,k _ (by simp) _ ge],#[a,k _ (by simp) _ d,D]]
 item:=by
  intro X f g j hc i aM s σ H E I hf st m;subst f g j;obtain⟨xs,x,ha,hx⟩:=m;obtain⟨its,rv,n⟩:=bN.lst_of I.hok ha;obtain⟨u,hu,F⟩:=rv.get hx;obtain⟨⟨old,ge⟩,c⟩:=st;refine wpAny_pyNext_enum_item ge c n (by simpa using hu) ne λh1 b1 b2 G Q J=>?_
  calc#[_,rfl,wpAny_letOwnedTupleGo_enum (s:={s with heap:=h1,toks:=s.toks+1}) b1 λh2 L s2=>?_];let be:e<s.heap.objs.size:=bA ge;let M:it<s.heap.objs.size:=by obtain⟨_,z,_⟩:=c;exact bA z
  let keep2:∀b o,b∉[e,it]->s.heap.get? b=some o->h2.get? b=some o:=λb o hb q=>by
   simp only[bI,dA,or_false,not_or]at hb;exact s2.extBut b o hb.1<|J b o hb.1 hb.2 q
  let r:H s.heap.objs.size=none:=I.hok.fresh<|aG _;let gT:=s2.extBut _ _ (iH be) G;refine#[.ref s.heap.objs.size,_,I.turnedN (t':=s.toks+1) (p:=s.heap.objs.size) (o:=.tup [.int i,x]) keep2 hf (aG _) #[zH (by simp),[.int i s.toks,u],.cons #[_,rfl]<|.cons F .nil,#[_,gT,rfl,_,rfl]],rfl,#[_,x,rfl,r,rfl,λN B=>?_],?_,λb hb=>?_]
  ·rw[ha]at B;cases B;exact hx
  ·obtain⟨a,t,y⟩:=b2;exact#[#[_,L],#[a,s2.extBut _ _ (cE ne) t,y]]
  ·let A:b<s.heap.objs.size:=by
    simp only[bI,dA,or_false]at hb;rcases hb with rfl |rfl
    ·exact be
    ·exact M
   rw[zG<|bK A];exact(hf b hb).1
 done:=by
  intro X f g j hc i aM s σ H E I hf st m;subst f g j;obtain⟨xs,ha,hl⟩:=m;obtain⟨its,rv,n⟩:=bN.lst_of I.hok ha;let R:=rv.length;obtain⟨⟨old,ge⟩,c⟩:=st;refine wpAny_pyNext_enum_end (I.ok.hd hc) ge c n (by simp;lia) λh1 O=>#[rfl,?_]
  calc I.turnedL (ch:=[it]) (t':=s.toks) (λb o hb q=>?_) (λb hb=>hf b (by simp only[bI,dA,or_false]at hb⊢;calc .inr hb));simp only[bI,dA,or_false]at hb;exact O b o hb q
 self:=λ_ _ _ _ _ st h=>by
  obtain⟨⟨old,ge⟩,_⟩:=st;exact wpAny_pyIter_enum ge h
def vW(ta:TA):TI:=λσ H R=>ta σ H λvs H1=>rJ vs λx=>oI x λa=>∃xs,H1 a=some (.lst xs)/\R (Ite a) H1
theorem dy{elts:List Expr}{cx:_}{tp:Pos}{a:Expr}{ta:TA}{p pos:Pos}(hg:Gl X "enumerate")(hm:X.mg "enumerate"=none)(ha:PA X [a] ta)(hs:starEach [a] X.env=[(false,eval a X.env)]:=by rfl):
 PI X (.Tuple elts cx tp) (.Call (.Name "enumerate" p) [a] [] pos) (vW ta):=by
 intro aM s σ H R I h;calc Call_ (uJ I hg hm boot_enumerate<|dZ (eK (ha pos aM s σ H _ I h) λus s1 ⟨vs,H1,d,i,c⟩=>?_) (by rw[hs];rfl) (by rfl));replace c:=wJ c;obtain⟨x,e,c⟩:=c;replace c:=xK c;obtain⟨j,rfl,xs,h1,q⟩:=c;subst e;cases i with
 |cons r k=>
  cases k;cases r;obtain⟨f,l,m⟩:=bN.lst_of d.hok h1;refine call_enumerate_list m λh' g n _ o=>?_
  calc wpAny_pyIter_enum (s:={s1 with heap:=h'}) g ?_;let t:∀b,s1.heap.objs.size<=b->ZC X aM H1 b:=λb hb=>d.fpOk hb<|d.hok.fresh hb
  calc#[_,[s1.heap.objs.size+1,s1.heap.objs.size],_,_,H1,rfl,d.kept (t':=s1.toks) o,LL _ _ j<|Nat.succ_ne_self _,#[#[_,g],n],λb hb=>?_,q];simp only[bI,dA,or_false]at hb;rcases hb with rfl |rfl<;>exact t _ ()
theorem KJ{g:TG}(Pv:Nat->St->Hp->Prop)(h0:Pv 0 σ H)(hl:∀i σ H,Pv i σ H->H a=some (.lst xs))
 (hs:∀(i:Nat) x σ H p,xs[i]?=some x->Pv i σ H->H p=none->g (.ref p) σ (upd H p<|.tup [.int i,x]) λσ2 H2=>tb {D with nx:=Pv (i+1),ct:=Pv (i+1),bk:=D.nx} σ2 H2)
 (hd:∀σ H,Pv xs.length σ H->D.nx σ H):WK (Ite a) g tb D σ H:=by
 calc#[λi m σ H=>m=xs.length-i/\i<=xs.length/\Pv i σ H,#[_,by rfl,cS _,h0],λi m σ1 H1 ⟨hm,hi,hp⟩=>?_];let b:=hl i σ1 H1 hp;by_cases h:i<xs.length
 ·refine .inr #[#[xs,_,b,aA h],Pv<|i+1,λσ' H' q=>#[_,?_,rfl,(),q],λv H' ⟨p,x,c,d,f,j⟩=>?_]
  ·lia
  ·subst c;subst f;exact hs i x σ1 H1 p (j xs b) hp d
 ·let e:i=xs.length:=by lia
  subst e;exact .inl #[#[xs,b,aG _],hd σ1 H1 hp]
theorem YF{g:TG}(Pv:Nat->St->Hp->Prop)(h0:Pv 0 σ H)(hl:∀i σ H,Pv i σ H->H a=some (.lst xs))
 (hs:∀(i:Nat) x σ H p,xs[i]?=some x->Pv i σ H->H p=none->∀N:St->Hp->Prop,(∀σ H,Pv (i+1) σ H->N σ H)->g (.ref p) σ (upd H p<|.tup [.int i,x]) λσ2 H2=>tb {D with nx:=N,ct:=N,bk:=D.nx} σ2 H2)
 (hd:∀σ H,Pv xs.length σ H->D.nx σ H):WK (Ite a) g tb D σ H:=KJ Pv h0 hl (λi x σ H p a b c=>hs i x σ H p a b c _ λ_ _ z=>z) hd
theorem ik{g:TG}{Q:VK}(Pv:Nat->List V->St->Hp->Prop)(h0:Pv 0 [] (kT ns js σ) H)(hz:xs.length<=sizeLine)(hl:∀i ys σ H,Pv i ys σ H->ys.length<=i)
 (hK:∀i ys σ H,Pv i ys σ H->H a=some (.lst xs))
 (hs:∀(i:Nat) x ys σ H p (C:V->St->Hp->Prop),xs[i]?=some x->Pv i ys σ H->H p=none->(∀y σ2 H3,Pv (i+1) (ys++[y]) σ2 H3->C y σ2 H3)->g (.ref p) σ (upd H p<|.tup [.int i,x]) λσ2 H2=>te σ2 H2 λy H3=>C y σ2 H3)
 (hd:∀ys σ H,Pv xs.length ys σ H->∀p,H p=none->Q (.ref p) (upd H p<|.lst ys)):
 bf (Ite a) ns js g none te σ H Q:=
 KB (n:=xs.length) Pv h0 hz hl (λi ys σ H hi w=>#[xs,xs[i],hK i ys σ H w,aA hi]) (λys σ H w=>#[xs,hK _ ys σ H w,aG _])
  (λi ys σ H x H' C hi w ⟨p,y,b,c,d,e⟩ f=>by subst b;subst d;calc hs i y ys σ H p C (e xs<|hK i ys σ H w) w c f) hd
theorem qQ{es:List Expr}{k:Nat}{t:l8}{pos:Pos}(hc:X.calm=true)(h:um X es t)(hK:X.K=K:=by rfl)
 (hn:(assignEach es X.env).length=n:=by rfl) (hst:(assignEach es X.env).findIdx? (·.1)=none:=by rfl):PG X (.Tuple es k pos) (uA K n t):=by
 subst hK;exact EV hc h hn hst
theorem qo(K:W.Frag){es:List Expr}{to:TE}{t:TA}{name:Str}{hG:Pos}{id:String}{r:V->List V->Hp->VK->Prop}(pa:PlainAttrs T)(slot:Slot T name id)(hty:typeOf (.builtin id)=pure (.type "method_descriptor"))(hm:MtR X id r)(ho:PE X o to)(ha:PA X (e::es) t)
 (hK:X.K=K:=by rfl) (hbase:attributeBase o name X.env (eval o X.env)=eval o X.env:=by rfl)
 (hfew:((backTo hG<|starEach (e::es) X.env).all (λx=>!x.1)&&(backToKw hG<|keywordEach [] X.env).all (λx=>x.1.isSome)
  &&decide ((e::es).length+([]:List Keyword).length+(if([]:List Keyword).isEmpty then 0 else 1)<30))=true:=by rfl)
 (hline:(lM.endLine==hG.line)=true:=by rfl) (hs:starEach (e::es) X.env=(false,eval e X.env)::starEach es X.env:=by rfl) (hplain:(backTo hG<|starEach es X.env).any (·.1)=false:=by rfl):
 PE X (.Call (.Attribute o name lM) (e::es) [] hG) (tBM K T r to t):=by
 subst hK;exact qK pa slot hty hm ho ha hbase hfew hline hs hplain
end
theorem TC:∀n:Nat,0<n->∃t m,n=2^t*(2*m+1):=by
 intro n
 induction n using Nat.strongRecOn with
 |_ n a=>
  intro h;by_cases b:n % 2=1
  ·exact#[0,n/2,()]
  ·obtain⟨t,m,e⟩:=a (n/2) () ();calc#[t+1,m,?_];rw[Nat.pow_succ,Nat.mul_assoc,Nat.mul_left_comm,←e];lia
theorem TX(h:0<n):∃t,n.testBit t=true/\(∀i,i<t->n.testBit i=false)/\n-(n&&&(n-1))=2^t/\∀i,(n&&&(n-1)).testBit i=(n.testBit i&&decide (i≠t)):=by
 obtain⟨t,m,e⟩:=TC n h;let d:n=2^t*(2*m+1)+0:=by lia
 let hp:0<2^t:=bt t;let b:n-1=2^t*(2*m)+(2^t-1):=by
  rw[e,Nat.mul_add,Nat.mul_one];lia
 let b1:∀i,n.testBit i=if i<t then false else(2*m+1).testBit (i-t):=λi=>by
  rw[e,Nat.testBit_two_pow_mul];by_cases hi:i<t
  ·rw[aT hi,cJ (),eX]
  ·rw[aH hi,cN (),oP]
 let b2:∀i,(n-1).testBit i=if i<t then true else(2*m).testBit (i-t):=λi=>by
  rw[b,Nat.testBit_two_pow_mul_add _ ()];by_cases hi:i<t
  ·rw[aT hi,aT hi,pT,cN hi]
  ·rw[aH hi,aH hi]
 let ev:∀j,(2*m).testBit j=((2*m+1).testBit j&&decide (j≠0)):=λj=>by
  cases j with
  |zero=>simp
  |succ j=>
   rw[Nat.testBit_succ,Nat.testBit_succ];have :(2*m+1)/2=2*m/2:=by lia
   rw[this];simp
 let a:∀i,(n&&&(n-1)).testBit i=(n.testBit i&&decide (i≠t)):=λi=>by
  rw[mG,b1,b2];by_cases hi:i<t
  ·rw[aT hi,eX,eX]
  ·rw[aH hi,aH hi,ev];have :decide (i-t≠0)=decide (i≠t):=by
    rw[decide_eq_decide];lia
   rw[this];cases (2*m+1).testBit (i-t)<;>simp
 let c:n&&&(n-1)=2^t*(2*m):=by
  apply oZ;intro i;rw[a,b1,Nat.testBit_two_pow_mul];by_cases hi:i<t
  ·rw[aT hi,show decide (i≥t)=false from cJ (),eX,eX]
  ·rw[aH hi,show decide (i≥t)=true from cN (),oP,ev];have :decide (i-t≠0)=decide (i≠t):=by
    rw[decide_eq_decide];lia
   rw[this]
 refine#[t,?_,λi hi=>?_,?_,a]
 ·rw[b1,aH (),iG];simp
 ·rw[b1,aT hi]
 ·rw[c,e,Nat.mul_add,Nat.mul_one];lia
def sI(n:Nat)(xs:List Nat):Prop:=xs.Pairwise (· < ·)/\∀i,n.testBit i=decide (i∈xs)
theorem sI.nil(h:sI n []):n=0:=oZ λi=>by rw[h.2];simp
theorem sI.cons{n x:Nat}{xs:List Nat}(h:sI n (x::xs)):0<n/\n-(n&&&(n-1))=2^x/\sI (n&&&(n-1)) xs:=by
 let hx:n.testBit x=true:=by rw[h.2];simp
 let hn:0<n:=Nat.pos_of_ne_zero λz=>by rw[z]at hx;simp at hx
 obtain⟨t,a,b,c,d⟩:=TX hn;let hp:=List.pairwise_cons.mp h.1;let e:t=x:=by
  rw[h.2,bZ]at a;rcases bI.mp a with e |e
  ·exact e
  ·have :=hp.1 t e;rw[b x this]at hx;cases hx
 subst e;calc#[hn,c,hp.2,λi=>?_];rw[d,h.2];by_cases hi:i=t
 ·subst hi;have :i∉xs:=λz=>dP _<|hp.1 i z
  simp[this]
 ·simp[hi]
section
open PySem.SeqAt
theorem CG:PIp X .BitOr (WR λi j=>Builtin.bitOr i j):=by
 intro aM s σ H x y v u Q I a b h;replace h:=jX h;obtain⟨i,c,h⟩:=h;replace h:=jX h;obtain⟨j,d,q⟩:=h;subst c;subst d;obtain⟨t,rfl⟩:=a;obtain⟨t',rfl⟩:=b;exact ior_int #[.int _,H,I.tok _,#[_,rfl],q]
theorem sj:PIp X .BitAnd (WR λi j=>Builtin.bitAnd i j):=by
 intro aM s σ H x y v u Q I a b h;replace h:=jX h;obtain⟨i,c,h⟩:=h;replace h:=jX h;obtain⟨j,d,q⟩:=h;subst c;subst d;obtain⟨t,rfl⟩:=a;obtain⟨t',rfl⟩:=b;exact iand_int #[.int _,H,I.tok _,#[_,rfl],q]
theorem si:PIp X .BitXor (WR λi j=>Builtin.bitXor i j):=by
 intro aM s σ H x y v u Q I a b h;replace h:=jX h;obtain⟨i,c,h⟩:=h;replace h:=jX h;obtain⟨j,d,q⟩:=h;subst c;subst d;obtain⟨t,rfl⟩:=a;obtain⟨t',rfl⟩:=b;exact ixor_int #[.int _,H,I.tok _,#[_,rfl],q]
def IA:V->V->Hp->VK->Prop:=λx y H Q=>oI x λp=>∃(xs:List V)(i:Nat),y=.int i/\H p=some (.lst xs)/\∃v,xs[i]?=some v/\Q v H
theorem kC:PGet X IA:=by
 intro aM s σ H o i f g Q I b c h;replace h:=xK h;obtain⟨p,rfl,xs,k,rfl,hp,v,hk,q⟩:=h;cases b;obtain⟨t,rfl⟩:=c;obtain⟨its,r,pl,hz⟩:=I.list<|cO.of hp;obtain⟨w,d,a⟩:=r.get hk;let hl:=r.length;let e:=(aD.mp hk).1;let hs:=dH;exact wpAny_getItem_list pl.isList () () (by simpa using d) #[v,H,I,a,q]
def IC:V->List V->Hp->VK->Prop:=λx vs H Q=>sV x λi=>as0 vs<|Q (.int<|Builtin.Int.intBits i) H
theorem JS:MtR X "int.bit_length" IC:=by
 intro aM s σ H x xs v us Q I a rv h;replace h:=jX h;obtain⟨i,rfl,h⟩:=h;replace h:=as0_ h;obtain⟨rfl,q⟩:=h;cases rv;obtain⟨t,rfl⟩:=a;exact call_int_bit_length #[.int _,H,I.tok _,#[_,rfl],q]
theorem IH(K:W.Frag){f:Str}{pos:Pos}(he:PE X e ta)(hb:attributeBase e f X.env (eval e X.env)=eval e X.env)(hK:X.K=K:=by rfl):PE X (.Attribute e f pos) (jF K ta f):=by
 subst hK;exact RW he hb
theorem not_not(x:Int):Builtin.bitNot (Builtin.bitNot x)=x:=by unfold Builtin.bitNot;lia
theorem wX(m n:Nat):Builtin.bitOr (m:Int) (n:Int)=((m|||n:Nat):Int):=by
 unfold Builtin.bitOr;rw[bitAnd_nn (by unfold Builtin.bitNot;lia) (by unfold Builtin.bitNot;lia),not_not,not_not,not_not];simp
theorem DF(m n:Nat):Builtin.bitAnd (m:Int) (n:Int)=((m&&&n:Nat):Int):=by
 rw[bitAnd_pp () ()];simp
theorem TW(h:0<n):Builtin.bitAnd (n:Int) (-(n:Int))=((n-(n&&&(n-1)):Nat):Int):=by
 rw[bitAnd_pn () ()];let e:(Builtin.bitNot (-(n:Int))).toNat=n-1:=by unfold Builtin.bitNot;lia
 rw[e,bE];have :=Nat.and_le_left (n:=n) (m:=n-1);lia
theorem cm{x:Nat}(h:n-(n&&&(n-1))=2^x)(hb:n.testBit x=true):Builtin.bitXor (n:Int) ((2^x:Nat):Int)=((n&&&(n-1):Nat):Int):=by
 rw[bitXor_and,DF];let e:n&&&2^x=2^x:=by
  apply oZ;intro i;rw[mG,lT];by_cases hi:x=i
  ·subst hi;simp[hb]
  ·simp[hi]
 rw[e];have :=Nat.and_le_left (n:=n) (m:=n-1);lia
theorem ay(x:Nat):Builtin.Int.intBits ((2^x:Nat):Int)=x+1:=by
 unfold Builtin.Int.intBits;let hp:0<2^x:=bt x;rw[aH (by rw[cP];lia),Int.natAbs_natCast,Nat.log2_two_pow]
theorem vN(x:Nat):(1:Int)*2^(x:Int).toNat=((2^x:Nat):Int):=by
 rw[Int.one_mul,bE];simp
end
end L2
namespace L2
open PySem PySem.Spec PyProof.Rows PySem.SeqAt
variable {a b d f it l r:Addr} {A:Around} {a₀:Array Keyed} {p:Array Nat} {X:Cx} {e iter o tg:Expr} {base h h':Heap} {H:Hp} {κ:Keyed->Int} {S:Keyed->Prop} {aM:List (Addr×Obj)} {fp wr:List Addr} {ifs:List Expr} {js:List Nat} {ps ys:List Str} {M:Model} {ep i j n:Nat} {tc:Option TT} {lM pos':Pos} {P prog:Program} {K:W.Frag} {R:Result->Shared->Prop} {s:Shared} {kd:SortKind} {st:SortSt} {sp:Sp} {σ:St} {qual z:Str} {mg:Str->Option Value} {T:String} {te:TE} {wi:TI} {α:Type} {v:V} {u:Value} {RR:Value->Addr->Result->Shared->Prop} {E Q:Value->Shared->Prop} {w:World}
local macro_rules | `(()) => `(by lia)
section
variable {K:Type} [DecidableEq K] {knd:HeapKind prog w K} {k:K} {xs:List (K×Addr×Value)}
theorem LV{v:Value}(hu:knd.room A)(hkey:knd.is s.heap k a)(hm:s.heap.DictOfH knd d xs)
 (h1:∀p,atKey xs k=some p->Q p.2 {s with toks:=s.toks+knd.draws k})
 (h2:atKey xs k=none->∀h',h'.DictOfH knd d (storedH xs k a v)->Heap.SameBut d s.heap h'->Q v {s with heap:=h',toks:=s.toks+knd.draws k})
 (hsz:xs.length<=sizeLine):wpAny (model prog w) A (dictSetDefault d (.ref a) v) Q E s:=by
 obtain⟨o,es,ep,c,hc,hd,he,f,hn⟩:=hm;unfold dictSetDefault
 try with_reducible refine dG ?_
 calc aE<|knd.pyHash hu hkey ?_;refine aE<|wpAny_dictFind_heap (s:={s with toks:=s.toks+knd.draws k}) hu hkey c hd he f hn ?_ ?_
 ·intro b;let g:k∉xs.map (·.1):=not_mem_keys_of_get b;refine aE (pQ (aE (wpAny_updateDictKeys (hz:=by let e:=size_of_entries he;lia) (s:={s with toks:=s.toks+knd.draws k}) c hd (aJ (h2 (sC b) _ #[_,_,ep+1,fO _ c<|Obj.isFreed_of_dict<|Obj.data_mapDictKeys hd _,
   hc.mapDictKeys _,Obj.data_mapDictKeys hd _,?_,?_,?_]<|gE ..)))))
  ·rw[GW<|sC b];simp[he,entryOfKey]
  ·rw[GW<|sC b];intro x hx;rcases bJ.mp hx with hx |hx
   ·exact knd.keeps (f x hx) c hd<|gE ..
   ·simp only[aP]at hx;subst hx;exact knd.keeps hkey c hd<|gE ..
  ·rw[GW<|sC b];rw[aQ,nN];calc#[hn,by simp,?_];intro x hx y hy;simp only[bY,pU,aP]at hy;subst hy;exact λe=>g<|e▸hx
 ·intro j p h;calc aE<|oX (s:={s with toks:=s.toks+knd.draws k}) c hd ?_;rw[entry_at he j,h];exact aE<|pQ<|aJ<|h1 p<|atKey_of_get hn h
theorem EN(hd:(d==sysModules)=false)(dflt:Value):
 MeetsIn prog w (Builtin.«dict.setdefault» #[[.ref d,.ref a,dflt],[]]) (λA R s=>knd.room A.in1/\∃k xs,knd.is s.heap k a/\s.heap.DictOfH knd d xs/\xs.length<=sizeLine/\
  (∀p,atKey xs k=some p->R (.ok<|.ret p.2) {s with toks:=s.toks+knd.draws k})/\
  (atKey xs k=none->∀h',h'.DictOfH knd d (storedH xs k a dflt)->Heap.SameBut d s.heap h'->R (.ok<|.ret dflt) {s with heap:=h',toks:=s.toks+knd.draws k})):=
 .of_wp λA R s ⟨hu,k,xs,b,hm,hz,h1,h2⟩=>by
  unfold Builtin.«dict.setdefault»;calc aE ?_;unfold Builtin.Dict.keyAndDefault;calc aE<|pL hm.typeIs ?_;show wpAny _ _ (pure (d,Value.ref a,some dflt)) _ _ s;calc aJ ?_;show wpAny _ _ (if(d==sysModules)=true then _ else(dictSetDefault d (.ref a) dflt >>= _)) _ _ s;rw[aH (by rw[hd];calc aY)];exact aE (LV hu b hm (λp hp=>aJ #[p.2,rfl,h1 p hp]) (λhn h' c e=>aJ #[dflt,rfl,h2 hn h' c e]) hz)
end
theorem MA(h:nZ (some v) (some u)):RelV v u:=h
def ju(td ty tx:TE):TE:=λσ H Q=>td σ H λx H1=>∃a,x=.ref a/\IsD H1 a/\ty σ H1 λy H2=>tx σ H2 λz H3=>∃(kvs:List (List eV×V))(k:List eV)(b:Addr),H3 a=some (.dT kvs)/\y=.ref b/\H3 b=some (.tup<|k.map kV)/\kvs.length<sizeLine/\
 (∀v,yB kvs k=some v->Q v H3)/\(yB kvs k=none->Q z (upd H3 a<|.dT<|qJ kvs k z))
section
variable {f:Expr} {hG:Pos} {td ty tx:TE}
theorem d6(hu:X.A.units+1<cLine)(ho:PE X o td)(he:PE X e ty)(hf:PE X f tx)(m:M2 X o "setdefault" lM e f hG):PE X (.Call (.Attribute o "setdefault" lM) [e,f] [] hG) (ju td ty tx):=by
 intro aM s σ H Q I h;calc ji m.base m.few m.line rO bq F.type_dict_setdefault (eK (ho aM s σ H _ I h) λu s1 ⟨x,H1,n,E,a,ex,d,G⟩=>?_);subst ex;obtain rfl:u=Value.ref a:=E;obtain⟨J,K,_⟩:=WQ n d;calc#[J,K,?_];rw[m.trees];refine iV rfl (rA (fR (eK (he aM s1 σ H1 _ n G) λL s2 ⟨y,H2,M,N,O⟩=>
  fR (eK (hf aM s2 σ H2 _ M O) λP s3 ⟨z,r,i,t,kvs,k,b,e,R,B,l,S,T⟩=>lO ?_))))
 subst R;cases (show L=Value.ref b from N);obtain⟨U,hd,xs,rel,C⟩:=ly i.hok e;let hz:xs.length<=sizeLine:=by rw[←fA rel];exact U
 let hl:(qJ kvs k z).length<=sizeLine:=by have :=vA kvs k z;lia
 refine tH bq C.typeIs F.entry_dict_setdefault (F.args_dict_setdefault_3 _ _ _) (EN (knd:=tupleKind<|zX X.prog X.w) hd P) #[eI hu,k,xs,vC i.hok B,C,hz,λp hp=>?_,λhn h' j hs=>?_]
 ·let rv:=rel.val k;rw[hp]at rv;cases g:yB kvs k with
  |none=>rw[g]at rv;cases rv
  |some v=>
   rw[g]at rv;exact#[v,r,i.tok _,MA rv,S v g]
 ·let rv:=rel.val k;rw[hn]at rv;let g:yB kvs k=none:=by
   cases g:yB kvs k with
   |none=>rfl
   |some v=>rw[g]at rv;cases rv
  obtain⟨q,es,ep,hq,h2,W,Y,_,Z⟩:=j;calc#[z,upd r a<|.dT<|qJ kvs k z,kE i (by rw[e];calc True.intro) hs #[q,hq] #[hl,hd,_,(rel.put k B t).keeps λc ys D=>?_,q,es,ep,hq,h2,W,Y,Z],t,T g];rw[zG<|jU D e λz=>nomatch z];exact D
end
section
open PySem.W
def pP(h:Heap)(d:Addr)(es:Array DictEntry)(ep:Nat):Prop:=∃o,h.get? d=some o/\o.ExactDict/\o.data=.dict es ep
theorem pP.typeIs{es:Array DictEntry}(x:pP s.heap d es ep):s.TypeIs (.ref d) "dict":=let ⟨o,a,hc,_⟩:=x;#[o,a,hc.1]
theorem pP.at'{es:Array DictEntry}(x:pP h d es ep)(e:∀o,h.get? d=some o->h'.get? d=some o):pP h' d es ep:=let ⟨o,a,r⟩:=x;#[o,e _ a,r]
theorem pP.lt{es:Array DictEntry}(x:pP h d es ep):d<h.objs.size:=let ⟨_,a,_⟩:=x;bA a
theorem du(d:Addr)(hd:(d==sysModules)=false):MeetsIn prog w (Builtin.«dict.__len__» #[[.ref d],[]]) (λ_ R s=>∃es ep,pP s.heap d es ep/\R (.ok<|.ret<|.int es.size s.toks) {s with toks:=s.toks+1}):=
 .of_wp λA R s ⟨es,ep,hm,h⟩=>by
  obtain⟨o,a,c,b⟩:=id hm;show wpAny _ _ (dictSize d >>= _) _ _ s;unfold dictSize;calc aE<|aE<|oX a b<|aJ ?_;show wpAny _ _ (Builtin.Dict.pendingCount d >>= _) _ _ s;calc aE<|wpAny_pendingCount_other hd ?_;calc wpAny_ret_mkInt ?_;rw[Nat.add_zero];exact h
theorem ZW:∀{ys:List V}{us:List Value},ys.length=us.length->(∀(i:Nat)(y:V)(u:Value),ys[i]?=some y->us[i]?=some u->RelV y u)->cY ys us
 |[],[],_,_=>.nil
 |[],_::_,h,_=>by simp at h
 |_::_,[],h,_=>by simp at h
 |y::ys,u::us,h,a=>.cons (a 0 y u rfl rfl) (ZW (by simpa using h) λi b c h1 h2=>a (i+1) b c (by simpa using h1) (by simpa using h2))
end
section
open PySem.W
section
variable {J:Addr} {P:Nat->Value->Prop} {St:Nat->Heap->Prop}
end
theorem QW:xX X (.type "int") (λxs H Q=>∃b,xs=[.bl b]/\Q (.int<|if b then 1 else 0) H):=by
 intro aM s σ H xs us Q I r h;obtain⟨b,rfl,q⟩:=h;obtain⟨u,rfl,a⟩:=jY r;let e:u=Value.bool b:=a;subst e;exact call_int_bool #[.int _,H,I.tok _,#[_,rfl],q]
theorem TN(K:W.Frag)(h:X.K=K:=by rfl):MtR X "str.join" (λx xs H Q=>∃(z:Str)(p:Addr)(ys:List Str),x=.str z/\xs=[.ref p]/\cO K H p (ys.map V.str)/\(ys.map (·.length)).sum+ys.length*z.length<=16777216/\Q (.str<|Txt.join z ys) H):=by subst h;exact IX
end
section
open PySem.W
theorem AU{l:Expr}{tl:TE}(K:W.Frag)(hl:PE X l tl)(h:X.K=K:=by rfl):PI X tg l (lv K tl):=by subst h;exact uH hl
end
section
open PySem.W
def pK(n:Nat){α:Type}(P:α->Prop):KasT α->Prop
 | .ret a=>P a
 | .ask i j k=>i<n/\j<n/\i≠j/\∀b,pK n P<|k b
theorem pK.bind{n:Nat}{α β:Type}{P:α->Prop}{R:β->Prop}{f:α->KasT β}:∀{t:KasT α},pK n P t->(∀a,P a->pK n R (f a))->pK n R (t.bind f)
 | .ret a,h,hf=>hf a h
 | .ask i j k,h,hf=>#[h.1,h.2.1,h.2.2.1,λb=>pK.bind (h.2.2.2 b) hf]
theorem pK.mono{n:Nat}{α:Type}{P R:α->Prop}(hp:∀a,P a->R a):∀{t:KasT α},pK n P t->pK n R t
 | .ret a,h=>hp a h
 | .ask i j k,h=>#[h.1,h.2.1,h.2.2.1,λb=>pK.mono hp<|h.2.2.2 b]
def eY(n:Nat)(p:Array Nat):Prop:=p.toList.Perm<|List.range n
theorem eY.size(h:eY n p):p.size=n:=by
 have :=List.Perm.length_eq h;rwa[cI,bU]at this
theorem eY.of{q:Array Nat}(h:eY n p)(e:q.Perm p):eY n q:=(Array.perm_iff_toList_perm.mp e).trans h
theorem eY.rev(h:eY n p)(i j:Nat):eY n (kas_rev p i j):=h.of<|mirror_perm _ _ _ _
theorem eY.at(h:eY n p)(hi:i<n):p.getD i 0<n:=by
 let hs:i<p.size:=by rw[h.size];exact hi
 let e:p.getD i 0=p[i]:=by simp[Array.getD,hs]
 rw[e];exact bL.mp (h.mem_iff.mp (by simp))
theorem eY.ne(h:eY n p)(hi:i<n)(hj:j<n)(hij:i≠j):p.getD i 0≠p.getD j 0:=by
 let hs:i<p.size:=by rw[h.size];exact hi
 let a:j<p.size:=by rw[h.size];exact hj
 let e:p.getD i 0=p[i]:=by simp[Array.getD,hs]
 let b:p.getD j 0=p[j]:=by simp[Array.getD,a]
 rw[e,b];let nd:p.toList.Nodup:=h.nodup_iff.mpr List.nodup_range;intro z;have :=cH.mp nd;rcases DP hij with l |l
 ·exact this i j (by simpa using hs) (by simpa using a) l (by simpa using z)
 ·exact this j i (by simpa using a) (by simpa using hs) l (by simpa using z.symm)
theorem eY.ask(h:eY n p){P:α->Prop}{k:Bool->KasT α}(hi:i<n)(hj:j<n)(hij:i≠j)(hk:∀b,pK n P<|k b):pK n P (.ask (p.getD i 0) (p.getD j 0) k):=#[h.at hi,h.at hj,h.ne hi hj hij,hk]
theorem GK{n:Nat}{p:Array Nat}(h:eY n p):∀(f m:Nat),1<=m->m+f<=n->pK n (λr=>m<=r/\r<=m+f) (kas_asc p f m)
 |0,m,_,_=>#[aG _,aG _]
 |f+1,m,h1,h2=>by
  refine h.ask () () () λb=>?_
  cases b with
  |true=>exact#[aG _,()]
  |false=>exact pK.mono (λr hr=>#[(),()])<|GK h f (m+1) () ()
theorem KN{n:Nat}:∀(f:Nat)(p:Array Nat)(m q:Nat),eY n p->1<=m->m+f<=n->pK n (λr=>eY n r.1/\m<=r.2.1/\r.2.1<=m+f) (kas_desc f p m q)
 |0,p,m,q,h,_,_=>#[h,aG _,aG _]
 |f+1,p,m,q,h,h1,h2=>by
  let up:∀a c,eY n a->pK n (λr=>eY n r.1/\m<=r.2.1/\r.2.1<=m+(f+1)) (kas_desc f a (m+1) c):=λa c d=>pK.mono (λr hr=>#[hr.1,(),()])<|KN f a (m+1) c d () ()
  refine h.ask () () () λb=>?_
  cases b with
  |true=>
   show pK n _ (if q>0 then _ else _);split
   ·exact up _ _<|h.rev _ _
   ·exact up _ _ h
  |false=>
   refine h.ask () () () λb=>?_
   cases b with
   |true=>exact#[h,by show m<=m;lia,by show m<=_;lia]
   |false=>exact up _ _ h
theorem AB{m:Nat}(h:eY n p)(h1:1<=m)(h2:m<=n):pK n (λr=>eY n r.2/\1<=r.1/\r.1<=n) (kas_tail3 m n p):=by
 refine pK.bind (GK (h.rev _ _) (n-m) m h1 ()) λa ha=>?_
 exact#[h.rev _ _,by show 1<=a;lia,by show a<=n;lia]
theorem ZM{m:Nat}(h:eY n p)(h1:1<=m)(h2:m+1<=n):pK n (λr=>eY n r.2/\1<=r.1/\r.1<=n) (kas_descPart m n p):=by
 refine pK.bind (KN (n-(m+1)) p (m+1) 0 h () ()) λr hr=>?_
 split
 ·exact AB (hr.1.rev _ _) () ()
 ·exact AB hr.1 () ()
theorem ar(h:eY n p)(hn:1<=n):pK n (λr=>eY n r.2/\1<=r.1/\r.1<=n) (kas_count n p):=by
 refine pK.bind (GK h (n-1) 1 (aG _) ()) λa ha=>?_
 by_cases e:(a==n)=true
 ·rw[aT e];exact#[h,by show 1<=a;lia,by show a<=n;lia]
 rw[aH e];let ne:a≠n:=λz=>e (by rw[z];simp)
 by_cases g:a>1
 ·rw[aT g];refine h.ask () () () λb=>?_
  cases b with
  |true=>exact#[h,by show 1<=a;lia,by show a<=n;lia]
  |false=>exact ZM (h.rev _ _) () ()
 ·rw[aH g];exact ZM h () ()
theorem XA{n:Nat}{p:Array Nat}(h:eY n p){k:Nat}(hk:k<n):∀(f l r:Nat),l<=k->r<=k->pK n (λx=>x<=k) (kas_place p k f l r)
 |0,l,r,hl,_=>hl
 |f+1,l,r,hl,hr=>by
  show pK n _ (if l≥r then _ else _);split
  ·exact hl
  ·refine h.ask () () () λb=>?_
   cases b with
   |true=>exact XA h hk f l _ hl ()
   |false=>exact XA h hk f _ r () hr
theorem az{n:Nat}:∀(f:Nat)(p:Array Nat)(k:Nat),eY n p->k+f<=n->pK n (eY n) (kas_bin f p k)
 |0,p,k,h,_=>h
 |f+1,p,k,h,hk=>pK.bind (XA h () k 0 k () ()) λl _=>az f _ (k+1) (h.of<|bubble_perm _ _ _) ()
theorem UO(hn:1<=n):pK n (eY n) (kas_sort n):=by
 refine pK.bind (ar (n:=n) (p:=List.toArray<|List.range n) (nQ _) hn) λr hr=>?_
 split
 ·calc az _ _ _ hr.1 ?_;have :max r.1 1=r.1:=by lia
  lia
 ·exact hr.1
noncomputable def vB(lt:Nat->Nat->Bool){α:Type}:KasT α->α
 | .ret a=>a
 | .ask i j k=>vB lt<|k<|lt i j
theorem pK.wpL{n:Nat}{α:Type}{P:α->Prop}{cmp:Nat->Nat->(Bool->Shared->Prop)->Shared->Prop}{I:Shared->Prop}{lt:Nat->Nat->Bool}{Q:α->Shared->Prop}
 (hc:∀i j C s,I s->i<n->j<n->i≠j->(∀s',I s'->C (lt i j) s')->cmp i j C s):∀{t:KasT α}{s:Shared},pK n P t->(∀s,P (vB lt t)->I s->Q (vB lt t) s)->I s->t.kasWp cmp Q s
 | .ret a,s,h,hq,hi=>hq s h hi
 | .ask i j k,s,h,hq,hi=>hc i j _ s hi h.1 h.2.1 h.2.2.1 λs' b=>pK.wpL hc (h.2.2.2 _) hq b
theorem XO{n:Nat}{α:Type}{P:α->Prop}{lt lt':Nat->Nat->Bool}(h:∀i j,i<n->j<n->i≠j->lt i j=lt' i j):∀{t:KasT α},pK n P t->vB lt t=vB lt' t
 | .ret a,_=>rfl
 | .ask i j k,g=>by
   show vB lt (k<|lt i j)=vB lt' (k<|lt' i j);rw[h i j g.1 g.2.1 g.2.2.1];exact XO h<|g.2.2.2 _
theorem KC{n:Nat}{α:Type}{P:α->Prop}{lt:Nat->Nat->Bool}:∀{t:KasT α},pK n P t->P (vB lt t)
 | .ret a,h=>h
 | .ask i j k,h=>(KC (lt:=lt) (h.2.2.2<|lt i j):P (vB lt<|k<|lt i j))
def ja(lt:Nat->Nat->Bool)(vs out:List Value):Prop:=(vs.length<2/\out=vs)\/(2<=vs.length/\out=(vB lt<|kas_sort vs.length).toList.map λi=>vs.getD i Value.none)
theorem RS{vs:List Value}(h:eY vs.length p):(p.toList.map λi=>vs.getD i Value.none).Perm vs:=by
 let h1:(p.toList.map λi=>vs.getD i Value.none).Perm ((List.range vs.length).map λi=>vs.getD i Value.none):=List.Perm.map _ h;let e:(List.range vs.length).map (λi=>vs.getD i Value.none)=vs:=by
  refine List.ext_getElem (by simp) λi h1 h2=>?_
  rw[dJ,gC];rw[bC,aA h2];rfl
 rwa[e]at h1
theorem SH{lt:Nat->Nat->Bool}{κ:SortKind}{vs:List Value}{P:PySem.Fin->Shared->Prop}(ho:s.heap.get? a=some (seqObj "list" vs.toArray n))(h64:vs.length<64)
 (hk:∀(s':Shared)(Q:SortKind->Shared->Prop),2<=vs.length->(∀b o,b≠a->s.heap.get? b=some o->s'.heap.get? b=some o)->Q κ s'->wpAny (model prog w) A (keyKind' vs.toArray) Q E s')
 (hc:∀(s':Shared)(i j:Nat)(C:Bool->Shared->Prop),(∀b o,b≠a->s.heap.get? b=some o->s'.heap.get? b=some o)->i<vs.length->j<vs.length->i≠j->(∀tk,C (lt i j) {s' with toks:=tk})->wpAny (model prog w) A (keyLt' κ (vs.getD i Value.none)<|vs.getD j Value.none) C (λ_ _=>False) s')
 (h:∀(out:List Value)(tk:Nat),out.Perm vs->ja lt vs out->P (.done<|.ret .none) {s with heap:=sortedHeap s.heap a vs out.toArray,toks:=tk}):wpAny (model prog w) A (Builtin.«list.sort» #[[.ref a],[]]) P E s:=by
 rw[list_sort_plain];let ha:a<s.heap.objs.size:=bA ho;let k:vs.toArray.size=vs.length:=by simp
 calc aE<|listItems_at ho rfl ?_;calc aE (listUpdate_at ho rfl ?_ (by rw[k,dH];lia)<|cS _);obtain⟨q,l⟩:∃q,(s.heap.update a<|Obj.mapSeq λ_=> (List.toArray [])).get? a=some (seqObj "list" (List.toArray []) q):=#[_,get?_update_seq ho λ_=> (List.toArray [])]
 calc aE<|seqEpoch_at l rfl ?_;calc aE (wpAny_newTuple ?_ (by show vs.length<=_;rw[dH];lia));calc aE<|ON ?_<|cS _;calc dG ?_;let f:(((s.heap.update a<|Obj.mapSeq λ_=> (List.toArray [])).push (seqObj "tuple" vs.toArray 0)).push (seqObj "list" (List.toArray []) 0)).get? a=some (seqObj "list" (List.toArray []) q):=by
  rw[sD _ _ _ (by rw[size_push',Heap.size_update];calc bK<|gP ha),sD _ _ _ (by rw[Heap.size_update];calc bK ha)];exact l
 let keep:∀b o,b≠a->s.heap.get? b=some o->(((s.heap.update a<|Obj.mapSeq λ_=> (List.toArray [])).push (seqObj "tuple" vs.toArray 0)).push (seqObj "list" (List.toArray []) 0)).get? b=some o:=λb o hb e=>aO _<|aO _<|(gI _ _<|cE hb).trans e
 show wpAny (model prog w) A _ P E {s with heap:=((s.heap.update a<|Obj.mapSeq λ_=> (List.toArray [])).push (seqObj "tuple" vs.toArray 0)).push (seqObj "list" (List.toArray []) 0)};dsimp only;by_cases h2:vs.toArray.size<2
 ·rw[aT h2,aT h2];calc aE<|aJ ?_;rw[StateT.run_pure];calc aE<|aJ ?_;dsimp only;let e:(vs.toArray.zip vs.toArray).map (·.2)=vs.toArray:=by
   apply OD.mp;simp[List.map_snd_zip]
  calc aE<|seqEpoch_at f rfl ?_;calc aE (listUpdate_at f rfl ?_ (cS _) (by show((vs.toArray.zip vs.toArray).map (·.2)).size<=_;rw[e,k,dH];lia));simp only[bne_self_eq_false,fH,if_false];calc aJ ?_;show P _ {s with heap:=sortedHeap s.heap a vs ((vs.toArray.zip vs.toArray).map (·.2))};rw[e];exact h vs s.toks (nQ _)<|.inl #[(),rfl]
 ·rw[aH h2,aH h2];let g:2<=vs.length:=by lia
  calc aE<|hk _ _ g keep ?_;let r:(kas_sort vs.length).kasWp (kas_ask prog w A κ vs) (λp s'=>(eY vs.length p/\p=vB lt (kas_sort vs.length))/\∃tk,s'={s with heap:=((s.heap.update a<|Obj.mapSeq λ_=> (List.toArray [])).push (seqObj "tuple" vs.toArray 0)).push (seqObj "list" (List.toArray []) 0),toks:=tk}) {s with heap:=((s.heap.update a<|Obj.mapSeq λ_=> (List.toArray [])).push (seqObj "tuple" vs.toArray 0)).push (seqObj "list" (List.toArray []) 0)}:=by
   calc pK.wpL (lt:=lt) (I:=λs'=>∃tk,s'={s with heap:=((s.heap.update a<|Obj.mapSeq λ_=> (List.toArray [])).push (seqObj "tuple" vs.toArray 0)).push (seqObj "list" (List.toArray []) 0),toks:=tk}) (λi j C s' t hi z u B=>?_) (UO ()) (λs' hp t=>#[#[hp,rfl],t]) #[s.toks,rfl];obtain⟨tk,rfl⟩:=t;exact hc _ i j C keep hi z u λtk=>B _ #[tk,rfl]
  calc aE (iU (kat_run (Q:=λc s'=>∃p:Array Nat,p.size=vs.length/\arrOf c=p.map (kas_item<|vs.toArray.zip vs.toArray)/\failedOf c=none/\(eY vs.length p/\p=vB lt (kas_sort vs.length))/\∃tk,s'={s with heap:=((s.heap.update a<|Obj.mapSeq λ_=> (List.toArray [])).push (seqObj "tuple" vs.toArray 0)).push (seqObj "list" (List.toArray []) 0),toks:=tk}) rfl g h64 (λp c s' D F G H=>#[p,D,F,G,H]) r) ?_ λ_ _ e=>e);rintro⟨⟨⟩,c⟩ s' ⟨p,hp,v,hf,⟨x,y⟩,tk,rfl⟩;dsimp only;let d:=kat_snds (ks:=vs) (vs:=vs) rfl v;let m:(Shared.heap {s with heap:=((s.heap.update a<|Obj.mapSeq λ_=> (List.toArray [])).push (seqObj "tuple" vs.toArray 0)).push (seqObj "list" (List.toArray []) 0),toks:=tk}).get? a=some (seqObj "list" (List.toArray []) q):=f;calc aE<|seqEpoch_at m rfl ?_;calc aE (listUpdate_at m rfl ?_ (cS _) (by rw[d,aR,aC,cI,hp,dH];lia));rw[hf];simp only[bne_self_eq_false,fH,if_false];calc aJ ?_;rw[d];exact h _ tk (RS x) (.inr #[g,by rw[y]])
theorem FB{lt:Nat->Nat->Bool}{κ:SortKind}{vs:List Value}(hl:s.heap.IsList l vs.toArray)(h64:vs.length<64)
 (hk:∀(s':Shared)(E:Value->Shared->Prop)(Q:SortKind->Shared->Prop),2<=vs.length->(∀b o,s.heap.get? b=some o->s'.heap.get? b=some o)->Q κ s'->wpAny (model prog w) A.in1.in1 (keyKind' vs.toArray) Q E s')
 (hc:∀(s':Shared)(i j:Nat)(C:Bool->Shared->Prop),(∀b o,s.heap.get? b=some o->s'.heap.get? b=some o)->i<vs.length->j<vs.length->i≠j->(∀tk,C (lt i j) {s' with toks:=tk})->wpAny (model prog w) A.in1.in1 (keyLt' κ (vs.getD i Value.none)<|vs.getD j Value.none) C (λ_ _=>False) s')
 (h:∀(h':Heap)(tk e:Nat)(out:List Value),out.Perm vs->ja lt vs out->(∀b o,s.heap.get? b=some o->h'.get? b=some o)->h'.get? (s.heap.objs.size+1)=some (seqObj "list" out.toArray e)->Q (.ref<|s.heap.objs.size+1) {s with heap:=h',toks:=tk}):
 wpAny (model prog w) A (call (.builtin "sorted") [.ref l]) Q E s:=by
 calc rW kind_sorted plain_sorted entry_sorted (args_sorted1 _) ?_;unfold Builtin.«sorted»;calc aE (m:=checkCount "sorted" 1 1 _)<|aJ ?_;calc aE (collect_list hl ?_ (by rw[dH];lia));calc aE (ON ?_ (by rw[dH];lia));let a:((s.heap.push<|seqObj "list" (List.toArray []) 0).update s.heap.objs.size (Obj.mapSeq (· ++vs.toArray))).objs.size=s.heap.objs.size+1:=by rw[Heap.size_update,size_push']
 let c:(((s.heap.push<|seqObj "list" (List.toArray []) 0).update s.heap.objs.size (Obj.mapSeq (· ++vs.toArray))).push (seqObj "list" vs.toArray 0)).get? (s.heap.objs.size+1)=some (seqObj "list" vs.toArray 0):=by rw[←a];exact bF _ rfl
 let keep:∀b o,s.heap.get? b=some o->(((s.heap.push<|seqObj "list" (List.toArray []) 0).update s.heap.objs.size (Obj.mapSeq (· ++vs.toArray))).push (seqObj "list" vs.toArray 0)).get? b=some o:=λb o q=>by
  let lR:b<s.heap.objs.size:=bA q;rw[sD _ _ _ (by rw[a];calc bK<|gP lR),Heap.get?_update_ne _ _ _ _<|bK lR,sD _ _ _<|bK lR];exact q
 let nb:∀{b:Addr}{o:Obj},s.heap.get? b=some o->b≠s.heap.objs.size+1:=λq=>bK<|gP<|bA q
 show wpAny _ _ _ _ _ {s with heap:=((s.heap.push<|seqObj "list" (List.toArray []) 0).update s.heap.objs.size (Obj.mapSeq (· ++vs.toArray))).push (seqObj "list" vs.toArray 0)};rw[a];calc aE (dG<|eA slot_list_sort #[_,c,rfl] entry_list_sort (SH (lt:=lt) (κ:=κ) (A:=A.in1.in1) c h64 (λs' f h2 kp hq=>hk s' _ f h2 (λb o e=>kp b o (nb e)<|keep b o e) hq) (λs' i j C kp hi g d k=>hc s' i j C (λb o e=>kp b o (nb e)<|keep b o e) hi g d k) λout tk hp n=>#[_,rfl,?_])<|args_list_sort _);obtain⟨e,he⟩:=sortedHeap_at (out:=out.toArray) c;calc aJ #[_,rfl,h _ tk e out hp n (λb o q=>?_) he];rw[sortedHeap_old (nb q)<|bA<|keep b o q];exact keep b o q
theorem AL:∀{as:List Addr}{us:List Value},cY (as.map V.ref) us->us=as.map Value.ref
 |[],_,.nil=>rfl
 |a::as,_,.cons r t=>by
  let e:_=Value.ref a:=r;rw[e,AL t];rfl
def NS(H:Hp)(a:Addr)(z:Str):Prop:=∃r,H a=some (.tup (.str z::r))
theorem NS.raw(ok:mV P w H h)(t:NS H a z):∃o xs n tk r,h.get? a=some o/\o.cls=.type "tuple"/\o.data=.seq xs n/\xs=(Value.str z tk::r).toArray:=by
 obtain⟨r,ht⟩:=t;obtain⟨_,its,b,o,h1,h2,n,c⟩:=(show eZ P w H h a (.tup (.str z::r))from ok a _ ht)
 cases b with
 |cons d e=>
  obtain⟨tk,rfl⟩:=d;exact#[o,_,n,tk,_,h1,h2,c,rfl]
theorem WO{P:Program}{w:World}{H:Hp}{h h':Heap}(ok:mV P w H h)(kp:∀b o,h.get? b=some o->h'.get? b=some o):∀(as:List Addr)(zs:List Str),as.length=zs.length->(∀(i:Nat)(a:Addr)(z:Str),as[i]?=some a->zs[i]?=some z->NS H a z)->∃fs,KatTups h' (as.map Value.ref) fs/\fs.length=as.length/\∀f∈fs,∃z tk,f=Value.str z tk
 |[],[],_,_=>#[[],trivial,rfl,λ_ h=>nomatch h]
 |[],_::_,h,_=>by simp at h
 |_::_,[],h,_=>by simp at h
 |a::as,z::zs,hl,ht=>by
  obtain⟨fs,h1,h2,c⟩:=WO ok kp as zs (by simpa using hl) λi d z' ha hz=>ht (i+1) d z' (by simpa using ha) (by simpa using hz)
  obtain⟨o,xs,n,tk,r,g,j,k,l⟩:=(ht 0 a z rfl rfl).raw ok;calc#[Value.str z tk::fs,#[#[a,o,xs,n,rfl,kp _ _ g,j,k,by rw[l];simp],h1],by simp[h2],λf hf=>?_];rcases bI.mp hf with e |hf
  ·exact#[z,tk,e]
  ·exact c f hf
theorem NA{tk:Tok}:Looks M h (typeOf<|.str z tk) (.type "str"):=λA Q E s _ q=>hW (typeIs_str s z tk) q
theorem kG:xX X (.builtin "sorted") (λxs H Q=>X.calm=true/\∃(p:Addr)(as:List Addr)(zs:List Str),xs=[.ref p]/\H p=some (.lst<|as.map V.ref)/\as.length=zs.length/\zs.length<64/\zs.Nodup/\(∀(i:Nat)(a:Addr)(z:Str),as[i]?=some a->zs[i]?=some z->NS H a z)/\
 ∀(l:Addr)(lH:List Addr),H l=none->lH.Perm as->ja (λi j=>decide<|(zs.getD i "").cps.toList<(zs.getD j "").cps.toList) (as.map Value.ref) (lH.map Value.ref)->Q (.ref l) (upd H l<|.lst<|lH.map V.ref)):=by
 intro aM s σ H xs us Q I r h;obtain⟨m,p,as,zs,rfl,hp,hl,D,iD,ht,q⟩:=h;obtain⟨u,rfl,E⟩:=jY r;cases E;obtain⟨hz,its,nn,rv,F⟩:=(show eZ X.prog X.w H s.heap p (.lst<|as.map V.ref)from I.hok p _ hp)
 let e:=AL rv;subst e;let eQ:(as.map Value.ref).length=as.length:=aC _;refine FB (lt:=λi j=>decide<|(zs.getD i "").cps.toList<(zs.getD j "").cps.toList) (κ:=tuples' true) (vs:=as.map Value.ref) #[_,F,rfl,nn,rfl] () (λs' E' Q' h2 kp hq=>?_) (λs' i j C kp hi n t G=>?_) λh' tk e out b f kp J=>?_
 ·obtain⟨fs,K,k2,L⟩:=WO I.hok kp as zs hl ht;calc kat_kind (T:=.type "str") K () (λv g=>?_) (by decide) hq;obtain⟨z,tk,rfl⟩:=L v g;exact NA
 ·rw[eQ]at hi n;let M:(as.map Value.ref).getD i Value.none=.ref as[i]:=by rw[bC,aF,aA hi];rfl
  let N:(as.map Value.ref).getD j Value.none=.ref as[j]:=by rw[bC,aF,aA n];rfl
  let c:i<zs.length:=by lia
  let d:j<zs.length:=by lia
  obtain⟨oi,xi,ni,O,P,x,R,S,U⟩:=(ht i as[i] zs[i] (aA hi) (aA c)).raw I.hok;obtain⟨oj,xj,nj,W,Y,b1,b2,Z,b4⟩:=(ht j as[j] zs[j] (aA n) (aA d)).raw I.hok;let mX:zs[i]≠zs[j]:=by
   rcases DP t with l |l
   ·exact(cH.mp iD) i j c d l
   ·exact((cH.mp iD) j i d c l).symm
  rw[M,N];subst U b4;calc kat_lt (kp _ _ x) S (kp _ _ b1) Z ?_;show KatLex _ _ _ _ _ _ ((Value.str zs[i] O,Value.str zs[j] W)::P.zip Y) 0 s';calc kat_cons<|wpAny_eqBool_str ?_;rw[cJ mX];calc kat_no ?_;show wpAny _ _ (oneLt' true _ _) _ _ _;let k:=G s'.toks;rw[bC,bC,aA c,aA d]at k;exact oneLt_str k
 ·obtain⟨lH,e1,A⟩:∃lH:List Addr,out=lH.map Value.ref/\lH.Perm as:=by
   have :∀v∈out,∃a,v=Value.ref a:=λv g=>by
    obtain⟨a,_,e⟩:=bH.mp<|b.mem_iff.mp g;exact#[a,e.symm]
   let ho:out=(out.map λv=>match v with | .ref a=>a |_=>0).map Value.ref:=by
    rw[dC]
    conv=>lhs;rw[←List.map_id out]
    refine lU λv g=>?_
    obtain⟨a,rfl⟩:=this v g;rfl
   calc#[_,ho,?_];let h2:=List.Perm.map (λv:Value=>match v with | .ref a=>a |_=>(0:Addr)) b;rw[dC]at h2;let h3:as.map ((λv:Value=>match v with | .ref a=>a |_=>(0:Addr)) ∘ Value.ref)=as:=by
    conv=>rhs;rw[←List.map_id as]
    rfl
   rwa[h3]at h2
  subst e1;let iK:=A.length_eq;let vals:cY (lH.map V.ref) (lH.map Value.ref):=ZW (by simp) λi y u hy hu=>by
   rw[aF]at hy hu;obtain⟨x,g1,rfl⟩:=aL.mp hy;obtain⟨R,B,rfl⟩:=aL.mp hu;rw[g1]at B;cases B;rfl
  exact#[.ref<|s.heap.objs.size+1,_,I.laid (a:=s.heap.objs.size+1) (o:=.lst<|lH.map V.ref) (t':=tk) kp (lC _) #[by rw[aC,dH];lia,_,e,vals,J],rfl,q _ _ (I.hok.fresh<|lC _) A f]
theorem WA:xX X (.builtin "sorted") (λxs H Q=>i6 X.calm (rJ xs λx=>oI x λp=>∃as:List Addr,H p=some (.lst<|as.map V.ref)/\∃zs:List Str,as.length=zs.length/\zs.length<64/\zs.Nodup/\(∀(i:Nat)(a:Addr)(z:Str),as[i]?=some a->zs[i]?=some z->NS H a z)/\
 ∀(l:Addr)(lH:List Addr),H l=none->lH.Perm as->Q (.ref l) (upd H l<|.lst<|lH.map V.ref))):=by
 intro aM s σ H xs us Q I r h;replace h:=GL h;obtain⟨b,h⟩:=h;replace h:=wJ h;obtain⟨d,rfl,h⟩:=h;replace h:=xK h;obtain⟨p,rfl,as,hp,zs,hl,c,iD,ht,q⟩:=h;exact kG aM s σ H _ us Q I r #[b,p,as,zs,rfl,hp,hl,c,iD,ht,λl lH h1 h2 _=>q l lH h1 h2]
end
section
open PySem.W
def tLRg(ta:TA):TE:=λσ H Q=>ta σ H λvs H1=>∃n:Nat,vs=[.int n]/\n<=100000/\∀l,H1 l=none->Q (.ref l) (upd H1 l<|.lst ((List.range n).map λi:Nat=>V.int i))
theorem UZ{ta:TA}{p p' ap pos:Pos}(hg:Gl X "list")(hm:X.mg "list"=none)(hg':Gl X "range")(hm':X.mg "range"=none)(hc:X.calm=true)(ha:PA X [o] ta)(hs:starEach [o] X.env=[(false,eval o X.env)]:=by rfl)
 (he:starEach [Expr.Call (.Name "range" p') [o] [] ap] X.env=[(false,eval (.Call (.Name "range" p') [o] [] ap) X.env)]:=by rfl):PE X (.Call (.Name "list" p) [.Call (.Name "range" p') [o] [] ap] [] pos) (tLRg ta):=by
 intro aM s σ H Q I h;calc fQ (uJ I hg hm uL ?_ (by decide) (by decide));calc dZ ?_ he (by rfl);rw[he];show wpAny _ _ (spliced [(false,_)]) _ _ s;calc fR ?_;calc fQ (uJ I hg' hm' aw ?_ (by decide) (by decide));calc dZ (eK (ha ap aM s σ H _ I h) λus s1 ⟨vs,H1,j,k,n,e,hn,q⟩=>?_) (by rw[hs];rfl) (by rfl);subst e;obtain⟨u,rfl,t,rfl⟩:=jY k;calc call_range_1 ?_;calc lO ?_;let d:Builtin.Range.rangeSize 0 (n:Int) 1=((n:Nat):Int):=by rw[rangeSize_one];split<;>lia
 refine call_list_range (n:=n) (I.ok.hd hc) (IsRange.new ..) (small_one () () () ()) d () λh' tk mO l hk m c=>?_
 let g:Inv X aM σ H1 {s1 with heap:=s1.heap.push {cls:=Value.type "range",data:=Data.fields (List.toArray [Value.int 0 s1.toks,Value.int (n:Int) t,Value.int 1<|s1.toks+1])},toks:=s1.toks+1+1}:=j.kept λb o e=>aO _ e
 let f:mO.toList.length=n:=by rw[cI];exact c.1
 let vals:cY ((List.range n).map λi:Nat=>V.int i) mO.toList:=by
  refine ZW (by rw[aC,bU,f]) λi y u hy hu=>?_
  let hi:=(aD.mp hu).1;rw[gH]at hu;obtain⟨r,e⟩:=c.2 i u hu;rw[aF,lV ()]at hy;let hy:V.int (i:Int)=y:=cD hy;subst hy e;exact#[r,by simp]
 exact#[.ref _,_,g.laid (a:=_) (o:=.lst ((List.range n).map λi:Nat=>V.int i)) (t':=tk) hk (aG _) #[by rw[aC,bU,dH];lia,mO.toList,l,vals,by rw[pE];calc m],rfl,q _<|g.hok.fresh<|aG _]
theorem NP(K:W.Frag)(h:X.K=K:=by rfl)(hc:X.calm=true:=by rfl):xX X (.builtin "all") (λxs H Q=>rJ xs λx=>oI x λp=>∃bs:List Bool,cO K H p (bs.map V.bl)/\Q (.bl<|bs.all id) H):=by
 subst h;intro aM s σ H xs us Q I r h;exact jP aM s σ H xs us Q I r (by rw[hc];calc h)
structure nT(z:Str)(xs ys:List Str)(scope fP:Scope):Prop where
 kind:scope.kind=.function
 nd:(xs++ys).Nodup
 zc:scope.names.lookup z=some .cell
 cap:∀y∈ys,scope.names.lookup y=some .free/\(fP.names.lookup y=some .cell\/fP.names.lookup y=some .free)
 onecell:∀y∈scope.names,y.2=.cell->y.1=z
 names:∀y∈scope.names,y.2=.local->scope.names.lookup y.1=some .local
 free:∀y∈scope.names,y.2=.free->y.1∈ys
 cf:∀n cl,cellsFrom n scope.names cl=(z,n)::cl
 pc:∀h,pushCells h scope.names=h.push {cls:=.type "cell",data:=.cell none}
theorem nT.ne{xs:List Str}{scope fP:Scope}(S:nT z xs ys scope fP){y:Str}(h:y∈ys):(y==z)=false:=by
 cases e:y==z with
 |false=>rfl
 |true=>
  let e:=eq_of_beq e;subst e;have :=(S.cap y h).1;rw[S.zc]at this;cases this
theorem TK{scope:Scope}{globals:Addr}{closure:List (Str×Addr)}{fP:Env}{Q:Env->Shared->Prop}
 (cf:∀n cl,cellsFrom n scope.names cl=(z,n)::cl) (pc:∀h,pushCells h scope.names=h.push {cls:=.type "cell",data:=.cell none})
 (hQ:Q (newEnv scope s.heap.objs.size globals ((z,s.heap.objs.size+1)::closure) qual none .none (some fP) builtinsNs) {s with heap:=(s.heap.push {cls:=.type "dict",data:=.dict (List.toArray [])}).push {cls:=.type "cell",data:=.cell none}}):
 wpAny M A (newFunctionEnv scope globals closure [] qual none .none<|some fP) Q E s:=by
 simp only[newFunctionEnv,Option.isSome_some,if_true];calc aE<|wpAny_alloc ?_;calc aE (wpAny_layCells _ (λname kind cells=>by cases a:kind==NameKind.cell<;>simp[a]) _ _ _ _ ?_);rw[cf,pc,show({s with heap:=s.heap.push {cls:=.type "dict",data:=.dict (List.toArray [])}}:Shared).heap.objs.size=s.heap.objs.size+1 from fV ..];exact aJ hQ
noncomputable def xZ(z:Str)(X:Cx)(xs ys:List Str)(scope:Scope)(C:Addr)(s₀:Shared)(H₀:Hp)(fp:List Addr):Cx where
 prog:=X.prog
 w:=X.w
 K:=X.K
 mg:=X.mg
 base:=X.base
 A:=X.A
 N:=xs++ys
 s₀:=s₀
 H₀:=H₀
 env:=compEnvC scope ((z,C+1)::xC X.env scope.names []) C X.env
 outer:=X.stack
 stack:=X.stack
 ex:=fp
 fn:=λx=>x==z
 calm:=X.calm
 pn:=[]
 xe:=λ_ _=>False
section
variable {xs:List Str} {scope:Scope} {C D:Addr}
theorem CP(I:Inv X aM σ H s)(S:nT z xs ys scope X.env.scope):∀x∈scope.names,x.2=.free->∃c,X.env.cells.lookup x.1=some c:=λx hx hf=>
 I.ok.has x.1 ((S.cap x.1<|S.free x hx hf).2.elim .inl .inr)
theorem GI(I:Inv X aM σ H s)(S:nT z xs ys scope X.env.scope){y:Str}{c:Addr}(e:(xC X.env scope.names []).lookup y=some c):X.env.cells.lookup y=some c:=
 jZ scope.names [] (CP I S) (λ_ _ z=>nomatch z) e
theorem WE(I:Inv X aM σ H s)(S:nT z xs ys scope X.env.scope)(hj:DL X ys js)(f2:∀b∈fp,ZC X aM H b)(fo:∀b∈fp,b<s.heap.objs.size)
 {h₁:Heap} {m:Str->Option Value} {tk:Nat} {oD:Obj} (hC:s.heap.objs.size<=C) (hD:s.heap.objs.size<=D) (hDC:D≠C) (hn:h₁.Ns C m) (hd:h₁.get? D=some oD) (hdd:∀v,oD.data≠.cell v) (hz:h₁.IsCell (C+1) none)
 (old:∀b o,s.heap.get? b=some o->h₁.get? b=some o):
 Inv (xZ z X xs ys scope C s H fp) [(D,oD)] (kT xs js σ) H {s with heap:=h₁,toks:=tk}:=by
 let cl:=λy c=>GI (y:=y) (c:=c) I S
 let nC:H C=none:=I.hok.fresh hC;let f:s.heap.objs.size<=C+1:=Nat.le_succ_of_le hC;let F:H (C+1)=none:=I.hok.fresh f;let w:∀x c,((z,C+1)::xC X.env scope.names []).lookup x=some c->((x==z)=true/\c=C+1)\/((x==z)=false/\X.env.cells.lookup x=some c/\c<s.heap.objs.size):=λx c h=>by
  rw[bO]at h;cases e:x==z with
  |true=>rw[e]at h;exact .inl #[rfl,(cD h).symm]
  |false=>
   rw[e]at h;let h2:=cl x c h;obtain⟨v,o,g,l⟩:=I.cell x c h2;exact .inr #[rfl,h2,bA g]
 let nD:H D=none:=I.hok.fresh hD;let lt_of:∀{b:Addr},b<s.heap.objs.size->b≠C:=λhb=>bK<|bQ hb hC
 let fsub:∀b,b∈sZ X.stack->b∈X.env.locals::X.fs:=I.stkSub;refine#[#[I.ok.mod,?_,I.ok.glob,I.ok.blt,hC,λx y c h1 h2=>?_,λx hx=>?_,(λx c h1 h=>?_),I.ok.hd,I.ok.frames,.inl rfl,λb hb=>#[lt_of<|fo b hb,λx c h=>?_],I.bs,
  bX I.ok.bsz I.sz,λb o e hb=>?_,λb hb hf=>?_,I.stack,I.stkFree],
  rfl,I.bare,Un.kept old,#[m,hn,λi x v r d G=>?_],λx c h=>?_,nC,λx c h=>?_,λp hp=>?_,I.hok.kept old,?_]
 ·show scope.kind=_;exact S.kind
 ·rcases w x c h1 with⟨r,a⟩ |⟨r,a,lt⟩
  ·rcases w y c h2 with⟨d,_⟩ |⟨d,_,A⟩
   ·exact(eq_of_beq r).trans (eq_of_beq d).symm
   ·rw[a]at A;exact absurd A<|jm.mpr f
  ·rcases w y c h2 with⟨d,B⟩ |⟨d,B,A⟩
   ·rw[B]at lt;exact absurd lt<|jm.mpr f
   ·exact I.ok.inj x y c a B
 ·let hx:(relabel scope X.env).names.lookup x=some .cell\/(relabel scope X.env).names.lookup x=some .free:=hx;show∃c,((z,C+1)::xC X.env scope.names []).lookup x=some c;rw[bO];cases exz:x==z with
  |true=>exact#[_,rfl]
  |false=>
  let hm:(x,NameKind.free)∈scope.names:=by
   rcases hx with hx |hx
   ·rcases xN hx with z' |z'
    ·have :=S.onecell _ (dE z') rfl;rw[show x=z from this,dI]at exz;cases exz
    ·exact dE z'.1
   ·rcases xN hx with z |z
    ·exact dE z
    ·exact nomatch z.2
  exact qB scope.names []<|.inl hm
 ·rcases w x c h with⟨_,a⟩ |⟨e,_,_⟩
  ·rw[a];exact f
  ·rw[show(x==z)=true from h1]at e;cases e
 ·rcases w x c h with⟨_,a⟩ |⟨_,a,_⟩
  ·rw[a];exact iH<|bQ (fo b hb) f
  ·exact(f2 b hb).2.2.2.2.1 x c a
 ·rcases(f2 b hb).2.2.2.1 with z |z
  ·exact I.ok.noex b o e z
  ·exact absurd (bQ (bA e)<|bX I.ok.bsz z)<|dP _
 ·rcases bI.mp (fsub b hf)with z |z
  ·exact(f2 b hb).2.1 z
  ·exact(f2 b hb).2.2.1 z
 ·let r:(xs++ys)[i]?=some x:=r;let d:(xs.map (λ_=>(none:Option V))++js.map λj=>(σ[j]?).join)[i]?=some (some v):=d;by_cases hi:i<xs.length
  ·rw[bM (by simpa using hi),aF]at d;cases q:xs[i]? with
   |none=>rw[q]at d;cases d
   |some z=>rw[q]at d;cases d
  ·rw[bS (by simpa using hi),aC,aF]at d;rw[bS (by simpa using hi)]at r;cases q:js[i-xs.length]? with
   |none=>rw[q]at d;cases d
   |some j=>
    rw[q]at d;let n:(σ[j]?).join=some v:=cD d;let hy:=hj.2 _ _ _ r q;let hσ:σ[j]?=some (some v):=by
     cases z:σ[j]? with
     |none=>rw[z]at n;cases n
     |some t=>rw[z]at n;exact cM some n
    let J:x∈ys:=aS r;obtain⟨cf,ca⟩:=S.cap x J;obtain⟨K,_,hl⟩:=I.loc;obtain⟨u,L,M⟩:=hl j x v hy hσ (ca.elim (λz=>.inr<|.inl z) λz=>.inr<|.inr z);refine#[u,L,.inr #[?_,?_]]
    ·exact uF (env:=X.env) cf
    ·rcases M with⟨k,_⟩ |⟨_,c,a,zc⟩
     ·let k:X.env.scope.names.lookup x=some .local:=k;rcases ca with z' |z'<;> ·rw[k]at z';cases z'
     ·obtain⟨N,E⟩:=qB (env:=X.env) (y:=x) scope.names []<|.inl<|dE cf;let G:=cl x N E;rw[a]at G;cases G;obtain⟨o,g,l⟩:=zc;calc#[_,?_,o,old _ _ g,l];show((z,C+1)::xC X.env scope.names []).lookup x=_;rw[bO,S.ne J];exact E
 ·rcases w x c h with⟨_,a⟩ |⟨_,a,_⟩
  ·rw[a];exact#[_,hz]
  ·obtain⟨v,o,g,l⟩:=I.cell x c a;exact#[v,o,old _ _ g,l]
 ·rcases w x c h with⟨_,a⟩ |⟨_,a,_⟩
  ·rw[a];exact F
  ·exact I.freeC x c a
 ·let hp:p∈[(D,oD)]:=by simpa[xZ]using hp
  let e:=aP.mp hp;subst e;calc#[hd,nD,hDC,λhf=>?_,hdd];let hf:D∈sZ X.stack:=hf;obtain⟨o,g⟩:∃o,s.heap.get? D=some o:=by
   rcases bI.mp (fsub D hf)with z |z
   ·obtain⟨K,⟨o,_,_,g,_⟩,_⟩:=I.loc;let z:D=X.env.locals:=z;exact#[o,z▸g]
   ·exact absurd z<|I.nofs hD
  exact absurd (bA g)<|jm.mpr hD
 ·show(xs.map (λ_=>(none:Option V))++js.map λj=>(σ[j]?).join).length=(xs++ys).length;rw[aK,aK,aC,aC,hj.1]
end
section
variable {xs:List Str} {scope:Scope} {elt:Expr} {pos:Pos} {g:TG}
theorem TZ(hc:X.calm=true)(S:nT z xs ys scope X.env.scope)(hj:DL X ys js)(hi:PI X tg iter wi)
 (hg:∀C s₀ H₀ fp,PG (xZ z X xs ys scope C s₀ H₀ fp) tg g) (hif:∀C s₀ H₀ fp,LF (xZ z X xs ys scope C s₀ H₀ fp) ifs tc) (he:∀C s₀ H₀ fp,PE (xZ z X xs ys scope C s₀ H₀ fp) elt te)
 {Q:VK} (I:Inv X aM σ H s) (h:cy xs js wi g tc te σ H Q)
  (fin:∀D C H' s',sH X aM σ C H' s'->Q (.ref D) H'->RR (.ref D) C (.ok .next) s'):
  wpAny (model X.prog X.w) X.A (eval iter X.env) (λx s₁=>wpAny (model X.prog X.w) X.A (pyIter x) (λit s₂=>wpAny (model X.prog X.w) X.A (newList []) (λmO s₃=>
   wpAny (model X.prog X.w) X.A (newFunctionEnv scope X.env.globals (xC X.env scope.names []) [] X.env.qual none .none<|some X.env) (λcenv s₄=>
    codeAny (model X.prog X.w) X.A (.compStart (.ListComp elt [#[tg,iter,ifs,0]] scope pos) 0 it mO {cenv with scope:=relabel scope X.env}) (RR mO cenv.locals) s₄) X.xe s₃) X.xe s₂) X.xe s₁) X.xe s:=by
 refine eK (hi aM s σ H _ I h) λv s1 h1=>eK h1 λitv s2 h2=>?_
 obtain⟨it,fp,tn,J,H2,e,r,T,i,t,W,⟨M,E⟩,turn⟩:=h2;subst e;let u:∀b∈fp,b<s2.heap.objs.size:=λb hb=>let ⟨o,e,_⟩:=T.obj _ _ i b hb;bA e
 calc cT<|TK S.cf S.pc ?_;dsimp only;generalize d:s2.heap.push {cls:=.type "list",dict:=none,data:=.seq ([]:List Value).toArray}=G;generalize f:(G.push {cls:=.type "dict",data:=.dict (List.toArray [])}).push {cls:=.type "cell",data:=.cell none}=h₁;let m:G.objs.size=s2.heap.objs.size+1:=by rw[←d,fV]
 let j:s2.heap.objs.size≠G.objs.size:=by rw[m];exact bK<|oH _
 let c:s2.heap.objs.size<=G.objs.size:=by rw[m];exact lC _
 let keep1:∀b o,G.get? b=some o->h₁.get? b=some o:=λb o e=>f▸aO _ (aO _ e)
 let k:h₁.Ns G.objs.size (λ_=>none):=f▸(Heap.Ns.new G<|.type "dict").keeps λb o e=>aO _ e
 let n:h₁.IsCell (G.objs.size+1) none:=by
  let q:=bF (G.push {cls:=.type "dict",data:=.dict (List.toArray [])}) (o:={cls:=.type "cell",data:=.cell none}) rfl;rw[fV,f]at q;exact#[_,q,rfl]
 let below:∀b,b<s2.heap.objs.size->b≠G.objs.size/\b≠s2.heap.objs.size:=λb hb=>#[by rw[m];exact bK<|gP hb,bK hb]
 let old:∀b o,s2.heap.get? b=some o->h₁.get? b=some o:=λb o e=>keep1 b o<|d▸aO _ e
 let l:h₁.get? s2.heap.objs.size=some (LCg.lst []):=keep1 _ _<|d▸bF _ rfl;let p:tn 0 h₁:=T.keep _ _ _ i λb _ o e=>old b o e
 let y:=WE (C:=G.objs.size) (D:=s2.heap.objs.size) (tk:=s2.toks) r S hj t u c (aG _) j k l (by intro v F;cases F) n old;generalize a:xZ z X xs ys scope G.objs.size s2 H2 fp=B at y;let pB:B.prog=X.prog:=by rw[←a];rfl
 let wB:B.w=X.w:=by rw[←a];rfl
 let kB:B.K=X.K:=by rw[←a];rfl
 let aB:B.A=X.A:=by rw[←a];rfl
 let eB:B.env=compEnvC scope ((z,G.objs.size+1)::xC X.env scope.names []) G.objs.size X.env:=by rw[←a];rfl
 let cB:B.calm=true:=by rw[←a];exact hc
 let xB:B.xe=λ_ _=>False:=by rw[←a];rfl
 let gB:PG B tg g:=by rw[←a];exact hg _ _ _ _
 let iB:LF B ifs tc:=by rw[←a];exact hif _ _ _ _
 let elB:PE B elt te:=by rw[←a];exact he _ _ _ _
 let sB:B.s₀=s2:=by rw[←a];rfl
 let L:B.H₀=H2:=by rw[←a];rfl
 let fB:B.fs=sZ X.stack:=by rw[←a];rfl
 let exB:B.ex=fp:=by rw[←a];rfl
 let pnB:B.pn=[]:=by rw[←a];rfl
 exact IZ (cl:=(z,G.objs.size+1)::xC X.env scope.names []) r T t E turn fin u m j c below p y pB wB kB aB eB cB xB gB iB elB sB L fB exB pnB
theorem MF{x:Str}{p' p:Pos}(hN:X.N.Nodup)(hx:X.N[i]?=some x)(hl:X.env.scope.names.lookup x=some .local)(hc:X.calm=true)(S:nT z xs ys scope X.env.scope)(hj:DL X ys js)(hi:PI X tg iter wi)
 (hg:∀C s₀ H₀ fp,PG (xZ z X xs ys scope C s₀ H₀ fp) tg g) (hif:∀C s₀ H₀ fp,LF (xZ z X xs ys scope C s₀ H₀ fp) ifs tc) (he:∀C s₀ H₀ fp,PE (xZ z X xs ys scope C s₀ H₀ fp) elt te)
 (hsw:swapsWith (.ListComp elt [#[tg,iter,ifs,0]] scope pos) (some<|.Name x p') p.line X.env=pure true:=by rfl)
 (hs:∀x,foldedSetIterable iter X.env x=pure x:=by intro _;rfl):PS X (.Assign [.Name x p'] (.ListComp elt [#[tg,iter,ifs,0]] scope pos) p) (UK (cy xs js wi g tc te)<|uP i):=by
 intro aM s σ H D I h;rw[exec_Assign_Name_used _ _ _ _ hsw];calc aE<|OM<|aE ?_;show wpAny _ X.A (do let _ ←comprehension (.ListComp elt [#[tg,iter,ifs,0]] scope pos) scope X.env _ (newList []) false (eval iter X.env) (some<|assign (.Name x p') X.env)) _ _ s;calc aE (iU (sK (use:=some<|assign (.Name x p') X.env) (Q:=λ_ s'=>SP X aM D .next s') rfl hs (qX<|CP I S) S.kind S.names ?_) (λ_ s' hq=>aJ<|aJ hq) λ_ _ e=>e);refine TZ (Q:=λv H'=>uP i v σ H' D.nx) (RR:=λmO C=>compPost (model X.prog X.w) X.A X.xe (some<|assign (.Name x p') X.env) (λ_ s'=>SP X aM D .next s') mO C) hc S hj hi hg hif he I h λA C H' s' L q=>?_
 show wpAny _ X.A (assign (.Name x p') X.env<|.ref A) _ _ _;calc jh (kM (v:=.ref A) L.inv hN hx (.inl hl) rfl (λj d ⟨a,f,ha⟩=>?_)<|.inr hl);let cne:∀{b:Addr},(b=X.env.locals\/X.env.cells.lookup x=some b)->C≠b:=λz e=>by
  rcases z with z |z
  ·exact L.ne<|e.trans z
  ·exact L.cells x _ z e.symm
 obtain⟨m,hn⟩:=L.ns;calc#[m,hn.sameBut f<|cne ha,λk c=>#[_,_,?_,q]];exact sH.gone #[d,#[m,hn.sameBut f<|cne ha],L.free,L.ne,L.up,L.cells,L.pin] c
end
noncomputable def MZ(z:Str)(xs ys:List Str)(scope fP:Scope):Bool:=
 (scope.kind==.function)&&decide (xs++ys).Nodup&&(scope.names.lookup z==some .cell)&&
 ys.all (λy=>(scope.names.lookup y==some .free)&&((fP.names.lookup y==some .cell) ||(fP.names.lookup y==some .free)))&&
 scope.names.all (λy=>((y.2 !=.cell) ||(y.1==z))&&((y.2 !=.local) ||(scope.names.lookup y.1==some .local))&&((y.2 !=.free) ||ys.contains y.1))
theorem MZ.scope{xs:List Str}{scope fP:Scope}(h:MZ z xs ys scope fP=true)(cf:∀n cl,cellsFrom n scope.names cl=(z,n)::cl)(pc:∀h,pushCells h scope.names=h.push {cls:=.type "cell",data:=.cell none}):nT z xs ys scope fP:=by
 unfold MZ at h;simp only[cC,cP,bZ,cA,iL,bne_iff_ne,List.contains_iff_mem]at h;obtain⟨⟨⟨⟨h1,h2⟩,b⟩,c⟩,a⟩:=h;exact#[h1,h2,b,c,λy hy hl=>(a y hy).1.1.resolve_left (λz=>z hl),λy hy hl=>(a y hy).1.2.resolve_left (λz=>z hl),λy hy hf=>(a y hy).2.resolve_left (λz=>z hf),cf,pc]
section
variable {xs:List Str} {scope:Scope} {elt:Expr} {pos:Pos} {g:TG}
theorem RP{x:Str}{p' p:Pos}(z:Str)(xs ys:List Str)(js:List Nat)(hN:X.N.Nodup)(hx:X.N[i]?=some x)(hi:PI X tg iter wi)
 (hg:∀C s₀ H₀ fp,(xs++ys).Nodup->PG (xZ z X xs ys scope C s₀ H₀ fp) tg g) (hif:∀C s₀ H₀ fp,LF (xZ z X xs ys scope C s₀ H₀ fp) ifs tc) (he:∀C s₀ H₀ fp,PE (xZ z X xs ys scope C s₀ H₀ fp) elt te)
 (hl:X.env.scope.names.lookup x=some .local:=by rfl) (hc:X.calm=true:=by rfl) (S:MZ z xs ys scope X.env.scope=true:=by rfl) (hj:rH X.N ys js=true:=by rfl) (cf:∀n cl,cellsFrom n scope.names cl=(z,n)::cl:=by intro _ _;rfl) (pc:∀h,pushCells h scope.names=h.push {cls:=.type "cell",data:=.cell none}:=by intro _;rfl)
 (hsw:swapsWith (.ListComp elt [#[tg,iter,ifs,0]] scope pos) (some<|.Name x p') p.line X.env=pure true:=by rfl)
 (hs:∀x,foldedSetIterable iter X.env x=pure x:=by intro _;rfl):PS X (.Assign [.Name x p'] (.ListComp elt [#[tg,iter,ifs,0]] scope pos) p) (UK (cy xs js wi g tc te)<|uP i):=
 MF hN hx hl hc (MZ.scope S cf pc) (rH.caps hj) hi (λC s₀ H₀ fp=>hg C s₀ H₀ fp (MZ.scope S cf pc).nd) hif he hsw hs
end
end
section
open PySem.SeqAt
section
variable {b1 b2:Bool}
end
end
section
open PySem.W
theorem ML:pG X (compareOp .LtE) (λx y H Q=>∃i j,x=.str i/\y=.str j/\Q (.bl<|!decide (j.cps.toList<i.cps.toList)) H):=by
 intro aM s σ H x y v u Q I a b h;obtain⟨i,j,rfl,rfl,q⟩:=h;obtain⟨t,rfl⟩:=a;obtain⟨t',rfl⟩:=b;exact PySem.P.le_str<|zT I q rfl
section
variable {Kt:Type} [DecidableEq Kt] {knd:HeapKind prog w Kt}
def pF(knd:HeapKind prog w Kt)(h:Heap)(d:Addr)(xs:List (Kt×Addr×Value)):Prop:=
 ∃o es ep,h.get? d=some o/\o.ExactDict/\o.data=.dict es ep/\es.toList=xs.map (entryOfKey knd)/\(xs.map (·.1)).Nodup
theorem pF.full{xs:List (Kt×Addr×Value)}(x:pF knd h d xs)(hk:∀y∈xs,knd.is h y.1 y.2.1):h.DictOfH knd d xs:=by
 obtain⟨o,es,ep,h1,h2,a,b,c⟩:=x;exact#[o,es,ep,h1,h2,a,b,hk,c]
theorem pF.of{xs:List (Kt×Addr×Value)}(x:h.DictOfH knd d xs):pF knd h d xs:=by
 obtain⟨o,es,ep,h1,h2,a,b,_,c⟩:=x;exact#[o,es,ep,h1,h2,a,b,c]
theorem pF.at{xs:List (Kt×Addr×Value)}(x:pF knd h d xs)(e:∀u,h.get? d=some u->h'.get? d=some u):pF knd h' d xs:=by
 obtain⟨o,es,ep,h1,r⟩:=x;exact#[o,es,ep,e _ h1,r]
theorem UL{xs:List (Kt×Addr×Value)}(hn:(xs.map (·.1)).Nodup){k:Kt}{v:Value}(h:xs[i]?=some (k,a,v)):storedH (xs.take i) k a v=xs.take (i+1):=by
 obtain⟨d,c⟩:=aD.mp h;let b:atKey (xs.take i) k=none:=by
  unfold atKey;rw[rS,List.find?_eq_none];intro x hx;obtain⟨j,f,e⟩:=cQ hx;rw[bD]at f;rw[rE]at e;intro hk;let hk:x.1=k:=by simpa using hk
  exact cH.mp hn j i (by rw[aC];lia) (by rw[aC];lia) () (by simp[e,c,hk])
 rw[GW b,aI d,c]
theorem BA{its:Array Value}{xs:List (Kt×Addr×Value)}{h0:Heap}(hu:knd.room A.in1)(hA:A.handled=none)(hdi:d≠it)(hl:h0.IsList l its)(hd0:∀u,h0.get? d≠some u)(hi0:∀u,h0.get? it≠some u)
 (mono:∀{h h':Heap}{k:Kt}{a:Addr},(∀b u,h.get? b=some u->h'.get? b=some u)->knd.is h k a->knd.is h' k a)
 (hn:(xs.map (·.1)).Nodup) (hsz:xs.length<=sizeLine) (eQ:its.size=xs.length) (hp:∀(i:Nat)(k:Kt)(b:Addr)(v:Value),xs[i]?=some (k,b,v)->∃a:Addr,its[i]?=some (Value.ref a)/\IsTup h0 a (List.toArray [.ref b,v])/\knd.is h0 k b):
 ∀(m i:Nat)(t:Tok)(s:Shared),xs.length-i=m->i<=xs.length->s.heap.IsListIter it l i->pF knd s.heap d (xs.take i)->(∀b u,h0.get? b=some u->s.heap.get? b=some u)->
 (∀h' t',(∀b u,h0.get? b=some u->h'.get? b=some u)->pF knd h' d xs->R (.ok<|.ret .none) {s with heap:=h',toks:=t'})->
 codeAny (model prog w) A (.builtin "dict.update.loop" #[[.ref d,.ref it,.int i t,.none],[]]) R s:=by
 let g:∀x∈xs,knd.is h0 x.1 x.2.1:=λx hx=>by
  obtain⟨i,hi⟩:=lD hx;obtain⟨a,_,_,h⟩:=hp i x.1 x.2.1 x.2.2 hi;exact h
 intro m
 induction m with
 |zero=>
  intro i t s hm hi f hd hk E;let mF:i=xs.length:=by lia
  subst mF;let iK:s.heap.IsList l its:=by obtain⟨o,j,r⟩:=hl;exact#[o,hk _ _ j,r]
  calc fJ F.entry_dul ?_;rw[eJ F.plain_dul _];show wpAny _ A.in1 (pyNext (.ref it) >>= _) _ _ s;calc aE (DN (A:=A.in1) hA f iK (by rw[jr];lia) λh' he=>?_);rw[aU<|aG _]at hd;show wpAny _ A.in1 (Builtin.Dict.addKeywords d [] >>= _) _ _ _;refine aE (aJ<|aJ<|E h' s.toks (λb u hb=>he b u (λz=>hi0 u (by rw[←z];calc hb))<|hk b u hb)<|hd.at λu h=>he _ u hdi h)
 |succ m L=>
  intro i t s hm hi f hd hk E;let lR:i<xs.length:=by lia
  let iK:s.heap.IsList l its:=by obtain⟨o,j,r⟩:=hl;exact#[o,hk _ _ j,r]
  obtain⟨a,ha,ht,n⟩:=hp i xs[i].1 xs[i].2.1 xs[i].2.2 (aA lR);calc fJ F.entry_dul ?_;rw[eJ F.plain_dul _];show wpAny _ A.in1 (pyNext (.ref it) >>= _) _ _ s;calc aE (tG (A:=A.in1) f iK ha λh1 p q=>?_);let c:∀b u,h0.get? b=some u->h1.get? b=some u:=λb u hb=>(q.2 b λz=>hi0 u (by rw[←z];calc hb)).trans (hk b u hb)
  let G:pF knd h1 d (xs.take i):=hd.at λu h=>(q.2 d hdi).trans h
  obtain⟨N,H,I,O,J⟩:=ht;let e:=c _ _ H;let M:({s with heap:=h1}:Shared).TypeIs (.ref a) "tuple":=#[_,e,I]
  calc aE<|dG<|aE ?_;calc wpAny_tryCatch ?_;unfold Builtin.Dict.pairItems;calc aE<|hW M ?_;rw[aT (by decide)];calc aE<|GU e J<|aJ ?_;calc dG (wpAny_dictSet_heap (xs:=xs.take i) hu (mono c n) (G.full λy hy=>mono c<|g y<|eF hy) (λh2 B C=>?_) (by rw[bD];lia));rw[UL hn<|show xs[i]?=some (xs[i].1,xs[i].2.1,xs[i].2.2)from aA lR]at B;calc aJ #[iE F.plain_dul _,?_];let K:∀b u,h0.get? b=some u->h2.get? b=some u:=λb u hb=>(C.2 b λz=>hd0 u (by rw[←z];calc hb)).trans (c b u hb)
  let D:h2.IsListIter it l (i+1):=by obtain⟨o,j,r⟩:=p;exact#[o,(C.2 _<|cE hdi).trans j,r]
  exact L (i+1) _ {s with heap:=h2,toks:=s.toks+knd.draws xs[i].1} () lR D (.of B) K E
theorem uC{its:Array Value}{xs:List (Kt×Addr×Value)}(hu:knd.room A.in1.in1)(hA:A.handled=none)(hl:PlainL s.heap l its)(mono:∀{h h':Heap}{k:Kt}{a:Addr},(∀b u,h.get? b=some u->h'.get? b=some u)->knd.is h k a->knd.is h' k a)
 (hn:(xs.map (·.1)).Nodup) (hsz:xs.length<=sizeLine) (eQ:its.size=xs.length) (hp:∀(i:Nat)(k:Kt)(b:Addr)(v:Value),xs[i]?=some (k,b,v)->∃a:Addr,its[i]?=some (Value.ref a)/\IsTup s.heap a (List.toArray [.ref b,v])/\knd.is s.heap k b)
 (h:∀h' t',(∀b u,s.heap.get? b=some u->h'.get? b=some u)->pF knd h' s.heap.objs.size xs->Q (.ref s.heap.objs.size) {s with heap:=h',toks:=t'}):
 wpAny (model prog w) A (call (.type "dict") [.ref l]) Q E s:=by
 calc callType_codes (Q₁:=λobj s₁=>obj=.ref s.heap.objs.size/\s₁={s with heap:=s.heap.push {cls:=.type "dict",data:=.dict (List.toArray [])}}) F.kt_called_dict (jk _) F.entry_dict_init (kt_code_dict_new _ #[rfl,rfl]) ?_;rintro obj s₁ ⟨rfl,rfl⟩;let c:(s.heap.push {cls:=.type "dict",data:=.dict (List.toArray [])}).DictOfH knd s.heap.objs.size []:=Heap.DictOfH.new s.heap;calc#[c.typeIs,F.args_dict_init_2 _ _,?_];obtain⟨ol,L,p,m,q,r⟩:=hl;let f:(s.heap.push {cls:=.type "dict",data:=.dict (List.toArray [])}).get? l=some ol:=aO _ p;let J:({s with heap:=s.heap.push {cls:=.type "dict",data:=.dict (List.toArray [])}}:Shared).TypeIs (.ref l) "list":=#[_,f,m]
 unfold Builtin.«dict.__init__»;calc aE ?_;unfold Builtin.Dict.selfAndRest;calc aE<|pL c.typeIs ?_;show wpAny _ _ (pure (s.heap.objs.size,[Value.ref l])) _ _ _;calc aJ ?_;show wpAny _ _ (Builtin.Dict.updateFrom "dict.__init__" s.heap.objs.size (.ref l) [] .none) _ _ _;unfold Builtin.Dict.updateFrom;calc aE<|hW J ?_;rw[aT (by decide)];let n:∀b u,s.heap.get? b=some u->(s.heap.push {cls:=.type "dict",data:=.dict (List.toArray [])}).get? b=some u:=λb u e=>aO _ e
 let x:∀u,s.heap.get? s.heap.objs.size≠some u:=λu z=>dP _<|bA z
 obtain⟨oC,g,d,t,os⟩:=s;dsimp only at *;generalize oC.push {cls:=.type "dict",data:=.dict (List.toArray [])}=h1 at c f J n⊢;generalize oC.objs.size=D at c x h⊢;obtain⟨M,N,O,P⟩:=ol;dsimp only at m q r;subst m q r;calc aE (TD (A:=A.in1.in1) hA f λh2 R j=>?_);rw[aT (by rfl)];calc aE<|pQ ?_;let C:h2.IsList l its:=#[_,j _ _ f,rfl,_,rfl]
 calc aE<|oW C ?_;calc aJ #[iE F.plain_dul _,?_];let y:=(pF.of c).at λu h=>j _ u h
 let B:∀u,oC.get? h2.objs.size≠some u:=λu z=>dP _<|bA<|j _ _<|n _ _ z
 let G:D≠h2.objs.size:=λz=>by
  obtain⟨o,_,_,K,_⟩:=y;exact dP _ (by have :=bA K;rw[z]at this;calc this)
 refine BA (h0:=oC) (xs:=xs) (A:=A.in1) hu hA G #[_,p,rfl,_,rfl] x B mono hn hsz eQ hp xs.length 0 _ _ () (cS _) #[_,bF _ rfl,rfl,rfl] (y.at λu h=>aO _ h) (λb u hb=>aO _<|j _ _<|n _ _ hb) λh' t' H I=>?_
 exact#[rfl,h h' t' H I]
end
theorem HH{k:List eV}(e:∀b u,h.get? b=some u->h'.get? b=some u)(x:(tupleKind<|zX P w).is h k a):(tupleKind<|zX P w).is h' k a:=by
 obtain⟨o,its,n,h1,r⟩:=x;exact#[o,its,n,e _ _ h1,r]
theorem QJ{H:Hp}{h:Heap}:∀(kvs:List (List eV×V))(as:List Addr),(∀(i:Nat)(k:List eV)(v:V),kvs[i]?=some (k,v)->∃(a b:Addr)(its:List Value),as[i]?=some a/\cY [.ref b,v] its/\IsTup h a its.toArray/\H b=some (.tup<|k.map kV))->
 ∃xs,KT H kvs xs/\∀(i:Nat)(k:List eV)(b:Addr)(v:Value),xs[i]?=some (k,b,v)->∃a,as[i]?=some a/\IsTup h a (List.toArray [.ref b,v])/\H b=some (.tup<|k.map kV)
 |[],as,hk=>#[[],.nil,λi k b v e=>by simp at e]
 |(k,v)::kvs,as,hk=>by
  obtain⟨d,f,its,h1,h2,g,c⟩:=hk 0 k v rfl;cases as with
  |nil=>cases h1
  |cons a as=>
  cases h1;obtain⟨xs,j,l⟩:=QJ kvs as λi k v e=>hk (i+1) k v e
  obtain⟨r,m,rfl,n,o⟩:=vals2 h2;cases n;calc#[(k,f,m)::xs,.cons #[rfl,c,o] j,λi p q v' e=>?_];cases i with
  |zero=>cases e;exact#[d,rfl,g,c]
  |succ i=>exact l i p q v' e
theorem CT(hu:X.A.units+2<cLine):xX X (.type "dict") (λxs H Q=>i6 X.calm (rJ xs λx=>oI x λp=>∃as:List Addr,cO X.K H p (as.map V.ref)/\∃kvs:List (List eV×V),as.length=kvs.length/\(kvs.map (·.1)).Nodup/\
 (∀(i:Nat)(k:List eV)(v:V),kvs[i]?=some (k,v)->∃a b,as[i]?=some a/\cW X.K H a [.ref b,v]/\H b=some (.tup<|k.map kV))/\∀l,H l=none->Q (.ref l) (upd H l<|.dT kvs))):=by
 intro aM s σ H xs us Q I r h;replace h:=GL h;obtain⟨hc,h⟩:=h;replace h:=wJ h;obtain⟨O,rfl,h⟩:=h;replace h:=xK h;obtain⟨p,rfl,as,hp,kvs,eQ,hn,hk,q⟩:=h;obtain⟨u,rfl,C⟩:=jY r;cases C;obtain⟨its,rv,hl,hz⟩:=I.list hp;let mN:=rv.length;rw[aC]at mN hz;obtain⟨vs,d,B⟩:=QJ (H:=H) (h:=s.heap) kvs as λi k v e=>by
  obtain⟨a,b,f,g,j⟩:=hk i k v e;obtain⟨its,D,E,_⟩:=I.tuple g;exact#[a,b,its,f,D,E,j]
 let m:kvs.length=vs.length:=fA d;let n:vs.map (·.1)=kvs.map (·.1):=by
  clear hn B m hk eQ q
  induction d with
  |nil=>rfl
  |cons h _ F=>rw[bY,bY,F,h.1]
 refine uC (knd:=tupleKind<|zX X.prog X.w) (xs:=vs) (show X.A.in1.in1.units<cLine from ?_) (I.ok.hd hc) hl HH (by rw[n];calc hn) () (by rw[aR];lia) (λi k b v e=>?_) λh' t' t y=>?_
 ·exact hu
 ·obtain⟨a,f,g,j⟩:=B i k b v e;obtain⟨u,h1,h2⟩:=rv.get (i:=i) (x:=V.ref a) (by rw[aF,f];rfl);cases h2;exact#[a,by simpa using h1,g,vC I.hok j]
 ·obtain⟨o,es,ep,G,J,L,M,N⟩:=y;let c:=I.hok.fresh<|aG s.heap.objs.size;calc#[.ref s.heap.objs.size,_,I.laid (a:=s.heap.objs.size) (o:=.dT kvs) (t':=t') t (aG _) #[(),cG.mpr<|cE<|bK I.big,vs,?_,o,es,ep,G,J,L,M,N],rfl,q _ c];exact KT.keeps d λb ys e=>by rw[zG λz=>by rw[z,c]at e;cases e];exact e
end
section
open PySem.W
noncomputable def rh(x y z:Bool)(i j:Nat):Bool:=match i,j with
 |0,1=>x |1,0=>!x |0,2=>y |2,0=>!y |1,2=>z |2,1=>!z |_,_=>false
noncomputable def XW(n:Nat)(lt:Nat->Nat->Bool)(p:Array Nat):Bool:=(List.range n).all λa=>(List.range n).all λb=>!(decide<|a<b) ||lt (p.getD a 0) (p.getD b 0)
theorem PQ:∀x y z:Bool,XW 2 (rh x y z) (vB (rh x y z)<|kas_sort 2)=true:=by decide+kernel
theorem EK:∀x y z:Bool,(x&&z&&!y)=false->(!x&&!z&&y)=false->XW 3 (rh x y z) (vB (rh x y z)<|kas_sort 3)=true:=by decide+kernel
theorem WY{as:List Addr}(h:i<as.length):(as.map Value.ref).getD i Value.none=.ref (as.getD i 0):=by
 rw[bC,aF,bC,aA h];rfl
theorem MJ{as lH:List Addr}{zs:List Str}(hl:as.length=zs.length)(h3:zs.length<=3)(iD:zs.Nodup)(ho:ja (λi j=>decide<|(zs.getD i "").cps.toList<(zs.getD j "").cps.toList) (as.map Value.ref) (lH.map Value.ref)):
 ∃mW:List Str,mW.Perm zs/\lH.length=mW.length/\(∀(i:Nat)(a:Addr)(z:Str),lH[i]?=some a->mW[i]?=some z->∃j:Nat,as[j]?=some a/\zs[j]?=some z)/\mW.Pairwise (λx y=>x.cps.toList<y.cps.toList):=by
 let inj:∀{l m:List Addr},l.map Value.ref=m.map Value.ref->l=m:=λh=>List.map_inj_right (λa b e=>Value.ref.inj e) |>.mp h
 rcases ho with⟨h2,e⟩ |⟨h2,e⟩
 ·rw[aC]at h2;let e:=inj e;subst e;refine#[zs,nQ _,hl,λi a z h1 h2=>#[i,h1,h2],?_]
  match zs,(show zs.length<2 by lia)with
  |[],_=>exact .nil
  |[z],_=>exact List.pairwise_singleton _ _
  |_::_::_,h=>simp at h;lia
 ·rw[aC]at h2 e;let hp:eY as.length (vB (λi j=>decide<|(zs.getD i "").cps.toList<(zs.getD j "").cps.toList)<|kas_sort as.length):=KC<|UO ();let tot:∀i j,i<zs.length->j<zs.length->i≠j->decide ((zs.getD i "").cps.toList<(zs.getD j "").cps.toList)=!decide ((zs.getD j "").cps.toList<(zs.getD i "").cps.toList):=λi j hi f d=>by
   let mX:zs[i]≠zs[j]:=by
    rcases DP d with l |l
    ·exact(cH.mp iD) i j hi f l
    ·exact((cH.mp iD) j i f hi l).symm
   rw[bC,bC,aA hi,aA f];show decide (zs[i].cps.toList<zs[j].cps.toList)=!decide (zs[j].cps.toList<zs[i].cps.toList);by_cases c:zs[i].cps.toList<zs[j].cps.toList
   ·rw[cN c,cJ<|List.lt_asymm c];rfl
   ·rw[cJ c];have :zs[j].cps.toList<zs[i].cps.toList:=by
     rcases List.le_iff_lt_or_eq.mp (List.not_lt.mp c)with h |h
     ·exact h
     ·exact absurd (HM<|OD.mp h).symm mX
    rw[cN this];rfl
  let u:∀i j k,decide ((zs.getD i "").cps.toList<(zs.getD j "").cps.toList)=true->decide ((zs.getD j "").cps.toList<(zs.getD k "").cps.toList)=true->decide ((zs.getD i "").cps.toList<(zs.getD k "").cps.toList)=true:=λi j k h1 h2=>cN<|List.lt_trans (of_decide_eq_true h1)<|of_decide_eq_true h2
  let v:XW as.length (λi j=>decide<|(zs.getD i "").cps.toList<(zs.getD j "").cps.toList) (vB (λi j=>decide<|(zs.getD i "").cps.toList<(zs.getD j "").cps.toList)<|kas_sort as.length)=true:=by
   generalize p:(λi j=>decide<|(zs.getD i "").cps.toList<(zs.getD j "").cps.toList)=LT at hp;let tot':∀i j,i<zs.length->j<zs.length->i≠j->LT i j=!LT j i:=λi j=>by rw[←p];exact tot i j
   let o:∀i j k,LT i j=true->LT j k=true->LT i k=true:=λi j k=>by rw[←p];exact u i j k
   rw[←hl]at tot';clear p u tot e;let key:∀n,n<=3->(∀i j,i<n->j<n->i≠j->LT i j=!LT j i)->∀i j,i<n->j<n->i≠j->LT i j=rh (LT 0 1) (LT 0 2) (LT 1 2) i j:=λn hn ht i j hi f d=>by
    rcases(show i=0\/i=1\/i=2 by lia)with rfl |rfl |rfl<;>rcases(show j=0\/j=1\/j=2 by lia)with rfl |rfl |rfl
    ·exact absurd rfl d
    ·rfl
    ·rfl
    ·exact ht _ _ hi f d
    ·exact absurd rfl d
    ·rfl
    ·exact ht _ _ hi f d
    ·exact ht _ _ hi f d
    ·exact absurd rfl d
   let F:∀(n:Nat)(q:Array Nat),(∀i j,i<n->j<n->i≠j->LT i j=rh (LT 0 1) (LT 0 2) (LT 1 2) i j)->eY n q->XW n (rh (LT 0 1) (LT 0 2)<|LT 1 2) q=true->XW n LT q=true:=λn q h hq w=>by
    unfold XW at w⊢;rw[cA]at w⊢;intro a ha;have :=w a ha;rw[cA]at this⊢;intro b hb;have :=this b hb;rw[iL]at this⊢;rcases this with h1 |h1
    ·exact .inl h1
    ·by_cases c:a<b
     ·right
      rw[h _ _ (hq.at<|bL.mp ha) (hq.at<|bL.mp hb)<|hq.ne (bL.mp ha) (bL.mp hb) ()];exact h1
     ·left
      simp[c]
   let hk:=key as.length () tot';rw[XO hk<|UO ()]at hp⊢;calc F _ _ hk hp ?_;rcases(show as.length=2\/as.length=3 by lia)with h |h
   ·rw[h];exact PQ _ _ _
   ·rw[h]at tot'⊢;refine EK _ _ _ ?_ ?_
    ·cases r:LT 0 1<;>cases s:LT 1 2<;>cases t:LT 0 2<;>first |rfl |skip
     have :=o 0 1 2 r s;rw[t]at this;cases this
    ·cases r:LT 0 1<;>cases s:LT 1 2<;>cases t:LT 0 2<;>first |rfl |skip
     let C:=tot' 1 0 (by decide) (by decide) (by decide);let D:=tot' 2 1 (by decide) (by decide) (by decide);rw[r]at C;rw[s]at D;have :=o 2 1 0 D C;rw[tot' 2 0 (by decide) (by decide) (by decide),t]at this;cases this
  generalize vB (λi j=>decide<|(zs.getD i "").cps.toList<(zs.getD j "").cps.toList) (kas_sort as.length)=q at hp v e;let mF:∀i∈q.toList,i<as.length:=λi hi=>bL.mp<|hp.mem_iff.mp hi
  let E:lH=q.toList.map λi=>as.getD i 0:=inj (by
   rw[e,dC];calc lU λi hi=>WY<|mF i hi)
  let G:zs=(List.range as.length).map λi=>zs.getD i "":=by
   refine List.ext_getElem (by simp[hl]) λi h1 h2=>?_
   rw[dJ,gC,bC,aA h1];rfl
  refine#[q.toList.map λi=>zs.getD i "",?_,by rw[E,aC,aC],λi a z h1 h2=>?_,?_]
  ·have :=List.Perm.map (λi=>zs.getD i "") hp;rwa[←G]at this
  ·rw[E,aF]at h1;rw[aF]at h2;obtain⟨j,f,rfl⟩:=aL.mp h1;rw[f]at h2;let hz:zs.getD j ""=z:=by simpa using h2
   let A:=mF j<|aS f;refine#[j,?_,?_]
   ·rw[bC,aA A];rfl
   ·rw[←hz,bC,aA ()];rfl
  ·rw[cH];intro a b ha hb B;rw[aC]at ha hb;let hn:q.toList.length=as.length:=by have :=hp.length_eq;rwa[bU]at this
   unfold XW at v;let h1:=cA.mp v a<|bL.mpr ();let h2:=cA.mp h1 b<|bL.mpr ();rw[cN B]at h2;let g:∀{c:Nat}(hc:c<q.toList.length),q.getD c 0=q.toList[c]:=λ{c} hc=>by
    rw[Array.getD_eq_getD_getElem?,←gH,aA hc];rfl
   rw[g ha,g hb]at h2;rw[dJ,dJ];simpa using h2
theorem WB:xX X (.builtin "sorted") (λxs H Q=>X.calm=true/\∃(p:Addr)(as:List Addr)(zs:List Str),xs=[.ref p]/\H p=some (.lst<|as.map V.ref)/\as.length=zs.length/\zs.length<=3/\zs.Nodup/\(∀(i:Nat)(a:Addr)(z:Str),as[i]?=some a->zs[i]?=some z->NS H a z)/\
 ∀(l:Addr)(lH:List Addr)(mW:List Str),H l=none->lH.Perm as->mW.Perm zs->lH.length=mW.length->(∀(i:Nat)(a:Addr)(z:Str),lH[i]?=some a->mW[i]?=some z->∃j:Nat,as[j]?=some a/\zs[j]?=some z)->mW.Pairwise (λx y=>x.cps.toList<y.cps.toList)->Q (.ref l) (upd H l<|.lst<|lH.map V.ref)):=by
 intro aM s σ H xs us Q I r h;obtain⟨b,p,as,zs,rfl,hp,hl,c,iD,ht,q⟩:=h;calc kG aM s σ H _ us Q I r #[b,p,as,zs,rfl,hp,hl,(),iD,ht,λl lH h1 h2 d=>?_];obtain⟨mW,e,f,g,k⟩:=MJ hl c iD d;exact q _ _ mW h1 h2 e f g k
structure NW(P:Program)(w:World)(K:W.Frag)(mg:Str->Option Value)(base:Heap)(k:Nat)(f:Addr)(ps:List Str)(sp:Sp):Prop where
 ex:∃fd,cZ P w K mg base fL k f fd ps sp/\Binds K fd ps []/\W.keepIn K (.ref f)=true
def UJ(i:Nat)(f:Addr)(tc:TE):TE:=λσ H Q=>σ[i]?=some (some<|.ref f)/\tc σ H Q
section
variable {k:Nat} {x:Str} {p pos:Pos} {es:List Expr} {t:TA}
theorem fI.at{k:Nat}(h:fI P w K mg base k x ps sp)(hm:mg x=some (.ref f)):NW P w K mg base k f ps sp:=by
 obtain⟨g,fd,F,b,kp,m⟩:=h.ex;rw[hm]at m;cases m;exact#[fd,F,b,kp]
theorem AX(h:NW X.prog X.w X.K X.mg X.base k f ps sp)(hr:gK k X.A)(ha:PA X (e::es) t)(hN:X.N[i]?=some x:=by rfl)(hv:Vis X.env.scope x:=by first |exact Or.inl rfl |exact Or.inr (Or.inl rfl) |exact Or.inr<|Or.inr rfl)
 (hdb:(x==("__debug__":Str))=false:=by decide) (hcd:(x==("__classdict__":Str))=false:=by decide)
 (he:starEach (e::es) X.env=(false,eval e X.env)::starEach es X.env:=by rfl) (iT:(backTo pos<|starEach es X.env).any (·.1)=false:=by rfl):PE X (.Call (.Name x p) (e::es) [] pos) (UJ i f<|PF sp [] E0 t):=by
 obtain⟨fd,F,b,kp⟩:=h.ex;intro aM s σ H Q I h;obtain⟨h1,h2⟩:=h;calc fQ (eK (RT hN hv hdb hcd aM s σ H (λv H'=>v=.ref f/\H'=H) I (by show asV _ _;rw[h1];calc#[rfl,rfl])) λu s1 ⟨v,H1,c,r,d,g⟩=>?_);subst d g;obtain rfl:u=.ref f:=r;calc pY (h₀:=X.base) I.ok.mod.kin kp (eK (ha pos aM s1 σ H1 _ c h2) λus s2 ⟨vs,H2,a,r,q⟩=>#[a.kIn,?_]) he iT;exact EQ F hr b .nil IJ a r q
theorem EY(hm:X.mg x=some (.ref f))(hg:Gl X x)(hd:(x==("__debug__":Str))=false:=by decide):PE X (.Name x pos) (tC<|.ref f):=IG hg hm rfl hd
end
set_option maxHeartbeats 8000000
end
section
open PySem.W
theorem MC{es:Array DictEntry}{v:Value}{Q:Option Value->Shared->Prop}(hit:s.heap.IsKeyIter it d i es.size ep)(hm:pP s.heap d es ep)(hi:i<es.size)(hx:es[i].key=v)
 (hQ:∀h',h'.IsKeyIter it d (i+1) es.size ep->Heap.SameBut it s.heap h'->Q (some v) {s with heap:=h'}):wpAny (model prog w) A (pyNext<|.ref it) Q E s:=by
 obtain⟨o,c,f,b⟩:=id hit;obtain⟨od,b1,b2,e⟩:=id hm;unfold pyNext;calc aE<|sL<|fZ (name:=Str.ofString "__next__") hit.typeIs eR<|eA eR hit.typeIs tS ?_<|tK _;calc aE<|aJ ?_;calc aE ?_;refine aE ?_
 first |calc aE<|iS hit.typeIs<|aJ ?_;skip |calc aE<|nH hit.typeIs<|aJ ?_;skip
 calc aE<|GV c b ?_;let g:Builtin.Dict_items.ownsTuple "dict_keyiterator"=false:=by decide
 simp only[g,fH,if_false];show wpAny _ _ (if(Value.ref d==Value.none)=true then _ else _) _ _ s;rw[aH<|show¬((Value.ref d==Value.none)=true)from aY];calc aE<|aJ ?_;calc aE<|oX b1 e ?_;rw[aH (by simp)];calc aE<|aJ ?_;calc aE<|wpAny_dictEpoch b1 e ?_;rw[aH (by simp)];calc aJ ?_;simp only[show¬((i:Int)<0)from by lia,if_false,bE,lP hi];refine aE ?_
 first |calc aE<|iS hit.typeIs<|aJ ?_;skip |calc aE<|nH hit.typeIs<|aJ ?_;skip
 calc aE<|wpAny_isOneOf_keyiter hit.typeIs ?_;show wpAny _ _ (setField (.ref it) 1 (rawInt<|(i:Int)+1) >>= _) _ _ s;calc aE (wpAny_setField c b (by simp) ?_);let a:(s.heap.update it (Obj.mapFields (·.setIfInBounds 1 (rawInt<|(i:Int)+1)))).IsKeyIter it d (i+1) es.size ep:=#[_,fO _ c<|Obj.isFreed_of_fields<|br b _,(Obj.cls_mapFields ..).trans f,by rw[br b];simp[rawInt]]
 calc aE<|dG ?_;calc aE (wpAny_isOneOf_keyiter (s:={s with heap:=s.heap.update it (Obj.mapFields (·.setIfInBounds 1 (rawInt<|(i:Int)+1)))}) a.typeIs ?_);show wpAny _ _ (pure es[i].key) _ _ _;exact aJ<|aJ #[_,rfl,aJ<|hx▸hQ _ a (gE ..)]
theorem RH{es:Array DictEntry}{Q:Option Value->Shared->Prop}(hh:A.handled=none)(hit:s.heap.IsKeyIter it d i es.size ep)(hm:pP s.heap d es ep)(hi:es.size<=i)
 (hQ:∀h',Heap.ExtBut it s.heap h'->Q none {s with heap:=h'}):wpAny (model prog w) A (pyNext<|.ref it) Q E s:=by
 obtain⟨o,c,h,e⟩:=id hit;obtain⟨od,b1,b2,f⟩:=id hm;unfold pyNext;calc aE<|sL<|fZ (name:=Str.ofString "__next__") hit.typeIs eR<|eA eR hit.typeIs tS ?_<|tK _;calc aE<|aJ ?_;calc aE ?_;refine aE ?_
 first |calc aE<|iS hit.typeIs<|aJ ?_;skip |calc aE<|nH hit.typeIs<|aJ ?_;skip
 calc aE<|GV c e ?_;let g:Builtin.Dict_items.ownsTuple "dict_keyiterator"=false:=by decide
 simp only[g,fH,if_false];show wpAny _ _ (if(Value.ref d==Value.none)=true then _ else _) _ _ s;rw[aH<|show¬((Value.ref d==Value.none)=true)from aY];calc aE<|aJ ?_;calc aE<|oX b1 f ?_;rw[aH (by simp)];calc aE<|aJ ?_;calc aE<|wpAny_dictEpoch b1 f ?_;rw[aH (by simp)];calc aJ ?_;simp only[show¬((i:Int)<0)from by lia,if_false,bE,rX hi];refine aE ?_
 first |calc aE<|iS hit.typeIs<|aJ ?_;skip |calc aE<|nH hit.typeIs<|aJ ?_;skip
 show wpAny _ _ (setField (.ref it) 0 .none >>= _) _ _ s;calc aE (wpAny_setField c e (by simp) ?_);show wpAny _ _ (newExc (.type "StopIteration") [] >>= _) _ _ _;calc aE ?_;simp only[newExc,newTuple];calc aE (cT ?_ (by size_fits));calc aE (m:=firstArgMember _ _) (wpAny_of_eq (a:=Value.none) (by first |rfl |(simp only[firstArgMember];rfl)) ?_);calc cT ?_ (by size_fits);simp only[raiseNew];calc aE<|wpAny_handled ?_;rw[show A.in1.handled=none from hh];calc aE<|aJ<|wpAny_throw ?_;calc aE<|pR (T:="StopIteration") (b:=true) #[_,bF _ rfl,rfl] isSubtype_stop ?_;exact aJ<|hQ _<|((gE ..).extBut.push _).push _
theorem ES(hh:A.handled=none)(I d:Addr)(mX:d≠I)(es:Array DictEntry)(ep:Nat):Walks prog w A I [I,d] [I] es.size (λi v=>∃e,es[i]?=some e/\e.key=v) (λi h=>h.IsKeyIter I d i es.size ep/\pP h d es ep) where
 sub:=λb hb=>by simp at hb;simp[hb]
 frame:=λ_ _ _ st hk=>#[st.1.at λo e=>hk I (by simp) o e,pP.at' st.2 λo e=>hk d (by simp) o e]
 item:=λi s Q E hi st a=>by
  refine MC st.1 st.2 hi rfl λh' f c=>?_
  exact a es[i].key h' s.toks #[es[i],lP hi,rfl] #[f,pP.at' st.2 λo e=>c.extBut d o mX e] λb o hb e=>c.extBut b o (λh=>hb (by simp[h])) e
 done:=λs Q E st a=>RH hh st.1 st.2 (aG _) λh' g=>a h' s.toks λb o hb e=>g b o (λh=>hb (by simp[h])) e
 self:=λ_ _ _ _ st a=>wpAny_pyIter_keyiter st.1 a
theorem MB{es:Array DictEntry}(hd:(d==sysModules)=false)(hm:pP s.heap d es ep)
 (hQ:Q (.ref s.heap.objs.size) {s with heap:=s.heap.push {cls:=.type "dict_keyiterator",data:=.fields (List.toArray [.ref d,.int 0 0,.int es.size 0,.int ep 0])}}):wpAny (model prog w) A (pyIter<|.ref d) Q E s:=by
 obtain⟨o,b1,b2,b⟩:=id hm;let a:=hm.typeIs;calc jg a F.slot_dict_iter<|eA F.slot_dict_iter a F.entry_dict_iter ?_<|F.args_dict_iter_1 _;unfold Builtin.«dict.__iter__»;calc aE ?_;unfold Builtin.Dict.dictSlotNone;calc aE<|pL a ?_;show wpAny _ _ (pure<|Value.ref d) _ _ s;calc aJ ?_;show wpAny _ _ (Builtin.Dict.showsAll d >>= _) _ _ s;unfold Builtin.Dict.showsAll;rw[aH (by rw[hd];calc aY)];calc aE<|aJ ?_;calc aE<|oX b1 b ?_;calc aE<|wpAny_dictEpoch b1 b ?_;calc aE<|cT<|aJ #[_,rfl,"dict_keyiterator",_,#[_,bF _ rfl,rfl],eR.lookup,?_];simpa[rawInt]using hQ
theorem RG{es:Array DictEntry}(lo:(d==sysModules)=false):KdlSrc prog w "dict" d d es.size (λi v=>∃e,es[i]?=some e/\e.key=v) (λh=>pP h d es ep) where
 type:=λ_ hm=>hm.typeIs
 there:=λ_ hm=>#[hm.lt,hm.lt]
 keep:=λ_ _ hm hk=>hm.at' λo e=>hk d (.inl rfl) o e
 notList:=by decide
 notTuple:=by decide
 hint:=λ_ _ _ _ hm hq=>kdl_hint_dict hm.typeIs hq
 iter:=λ_ _ a hm=>#[_,_,(λ_ _ hq=>MB lo hm hq),ES a _ d (bK hm.lt) es ep,#[#[_,bF _ rfl,rfl,rfl],hm.at' λo e=>aO _ e]]
end
section
open PySem.W
abbrev XE:=List eV×Addr×V
abbrev GO:List XE->List (List eV×Addr×Value)->Prop:=Paired λp q=>p.1=q.1/\p.2.1=q.2.1/\RelV p.2.2 q.2.2
def bn(P:Program)(w:World)(h:Heap)(a:Addr)(kvs:List XE):Prop:=∃xs,GO kvs xs/\∃o es ep,h.get? a=some o/\o.ExactDict/\o.data=.dict es ep/\es.toList=xs.map (entryOfKey<|tupleKind<|zX P w)/\(xs.map (·.1)).Nodup
noncomputable def DK(P:Program)(w:World)(a:Addr)(kvs:List XE):HO:=.ext λh=>bn P w h a kvs
structure sR(P:Program)(w:World)(K:W.Frag)(H:Hp)(a:Addr)(kvs:List XE):Prop where
 is:H a=some (DK P w a kvs)
 few:kvs.length<=1000
 lo:(a==sysModules)=false
 keys:∀x∈kvs,cW K H x.2.1<|x.1.map kV
noncomputable def kL(kvs:List XE)(k:List eV):Option V:=(kvs.find? λx=>decide<|x.1=k).map (·.2.2)
theorem KM{kvs:List XE}(x:bn P w h a kvs):eZ P w H h a (DK P w a kvs):=by
 refine#[x,?_,λh1 h2 y hk=>?_]
 ·obtain⟨_,_,o,_,_,e,_⟩:=x;exact#[o,e]
 ·obtain⟨xs,p,o,es,ep,e,r⟩:=y;exact#[xs,p,o,es,ep,hk _ e,r]
theorem GO.val:∀{kvs:List XE}{xs:List (List eV×Addr×Value)},GO kvs xs->∀k:List eV,nZ (kL kvs k) ((atKey xs k).map (·.2))
 |_,_,.nil,k=>True.intro
 |_,_,@Paired.cons _ _ _ p q ps qs h t,k=>by
  obtain⟨h1,_,h2⟩:=h;by_cases e:p.1=k
  ·let a:q.1=k:=h1.symm.trans e;let b:atKey (q::qs) k=some q.2:=by simp[atKey,eG,a]
   let b2:kL (p::ps) k=some p.2.2:=by simp[kL,eG,e]
   rw[b2,b];exact h2
  ·let a:¬q.1=k:=λz=>e<|h1.trans z
   let b:atKey (q::qs) k=atKey qs k:=by simp[atKey,eG,a]
   let b2:kL (p::ps) k=kL ps k:=by simp[kL,eG,e]
   rw[b2,b];exact GO.val t k
theorem GO.mem:∀{kvs:List XE}{xs:List (List eV×Addr×Value)},GO kvs xs->∀x∈xs,∃p∈kvs,p.1=x.1/\p.2.1=x.2.1
 |_,_,.nil,x,hx=>nomatch hx
 |_,_,@Paired.cons _ _ _ p q ps qs h t,x,hx=>by
  rcases bI.mp hx with rfl |hx
  ·exact#[p,aV,h.1,h.2.1]
  ·obtain⟨a,h1,h2⟩:=GO.mem t x hx;exact#[a,aW _ h1,h2]
theorem GO.at:∀{kvs:List XE}{xs:List (List eV×Addr×Value)},GO kvs xs->∀{i:Nat}{p:XE}{q:List eV×Addr×Value},kvs[i]?=some p->xs[i]?=some q->p.2.1=q.2.1
 |_,_,.nil,i,p,q,h,_=>by simp at h
 |_,_,.cons hq t,0,p,q,h1,h2=>by
  simp only[List.getElem?_cons_zero,GZ]at h1 h2;subst h1 h2;exact hq.2.1
 |_,_,.cons hq t,i+1,p,q,h1,h2=>GO.at t (by simpa using h1) (by simpa using h2)
section
variable {kvs:List XE} {k:List eV}
theorem wE(I:Inv X aM σ H s)(h:cW X.K H b (k.map kV)):(tupleKind<|zX X.prog X.w).is s.heap k b:=by
 obtain⟨its,r,⟨o,h1,h2,n,a⟩,_⟩:=I.tuple h;exact#[o,its.toArray,n,h1,h2,a,by simpa using kW r]
theorem ZK(I:Inv X aM σ H s)(d:sR X.prog X.w X.K H a kvs):∃xs,GO kvs xs/\s.heap.DictOfH (tupleKind<|zX X.prog X.w) a xs:=by
 obtain⟨⟨xs,b,o,es,ep,h1,h2,c,e,f⟩,_,_⟩:=(show eZ X.prog X.w H s.heap a (DK X.prog X.w a kvs)from I.hok a _ d.is)
 calc#[xs,b,o,es,ep,h1,h2,c,e,λx hx=>?_,f];obtain⟨p,hp,g,h⟩:=b.mem x hx;have :=wE I<|d.keys p hp;rw[g,h]at this;exact this
end
def rNiX(P:Program)(w:World)(K:W.Frag):R2:=λx y H Q=>∃a kvs b k,y=.ref a/\sR P w K H a kvs/\x=.ref b/\cW K H b (k.map kV)/\Q (.bl<|!(kL kvs k).isSome) H
theorem MK(hu:X.A.units+1<cLine):pG X (compareOp .NotIn) (rNiX X.prog X.w X.K):=by
 intro aM s σ H x y v u Q I c f h;obtain⟨a,kvs,b,k,rfl,d,rfl,hk,q⟩:=h;cases c;cases f;obtain⟨xs,g,i⟩:=ZK I d;calc wpAny_notIn_heap (eI hu) (wE I hk) d.lo i ?_;let e:=(g.val k).isSome_eq;rw[nI]at e;rw[←e];exact#[.bl _,H,I.tok _,rfl,q]
theorem QV:xX X (.builtin "len") (λxs H Q=>rJ xs λx=>oI x λa=>∃kvs,sR X.prog X.w X.K H a kvs/\Q (.int kvs.length) H):=by
 intro aM s σ H xs us Q I r h;replace h:=wJ h;obtain⟨x,rfl,h⟩:=h;replace h:=xK h;obtain⟨a,rfl,kvs,d,q⟩:=h;obtain⟨u,rfl,b⟩:=jY r;cases b;obtain⟨xs,c,e,es,ep,f,g,i,j,k,l⟩:=ZK I d;let raw:pP s.heap a es ep:=#[e,f,g,i]
 let eQ:es.size=kvs.length:=by
  rw[←cI,j,aC];exact(fA c).symm
 let hs:sizeLine=16777216:=dH;let hz:=d.few;calc call_len_slot (n:=(es.size:Int)) raw.typeIs F.slot_dict_len (λm hq=>tH F.slot_dict_len raw.typeIs F.entry_dict_len (F.args_dict_len_1 _) (du a d.lo) #[es,ep,raw,hq]) () () ?_;rw[eQ];exact#[.int kvs.length,H,(I.tok _),#[_,rfl],q]
def tDGX(P:Program)(w:World)(K:W.Frag)(td ty:TE):TE:=λσ H Q=>td σ H λx H1=>ty σ H1 λy H2=>∃a kvs b k v,x=.ref a/\sR P w K H2 a kvs/\y=.ref b/\cW K H2 b (k.map kV)/\kL kvs k=some v/\Q v H2
theorem RY{i:Expr}{pos:Pos}{td ty:TE}(hu:X.A.units+1<cLine)(ho:PE X o td)(hi:PE X i ty)(hs:uq i):PE X (.Subscript o i pos) (tDGX X.prog X.w X.K td ty):=by
 intro aM s σ H Q I h;calc HK mj.lookup hs (eK (ho aM s σ H _ I h) λu s1 ⟨x,H1,j,l,m⟩=>eK (hi aM s1 σ H1 _ j m) λB s2 ⟨y,H2,c,n,e⟩=>?_);obtain⟨a,kvs,b,k,v,ex,d,q,hk,r,e⟩:=e;subst ex q;cases l;cases n;obtain⟨xs,t,g⟩:=ZK c d;obtain⟨C,z,f⟩:=nZ.some_of (v:=v) (o:=(atKey xs k).map (·.2)) (by rw[←r];calc t.val k);obtain⟨p,hp,iP⟩:=aL.mp z;calc#[g.typeIs,wpAny_getItem_heap (eI hu) (wE c hk) g hp ?_];rw[iP];exact#[v,H2,c.tok _,f,e]
def sDPX(P:Program)(w:World)(K:W.Frag)(td ty tv:TE):TS:=λD σ H=>tv σ H λv H1=>td σ H1 λx H2=>ty σ H2 λy H3=>∃a kvs b k,x=.ref a/\sR P w K H3 a kvs/\y=.ref b/\cW K H3 b (k.map kV)/\kL kvs k=none/\D.nx σ (upd H3 a<|DK P w a<|kvs++[(k,b,v)])
theorem GO.snoc{kvs:List XE}{xs:List (List eV×Addr×Value)}(h:GO kvs xs){k:List eV}(r:RelV v u):GO (kvs++[(k,b,v)]) (xs++[(k,b,u)]):=Paired.snoc h #[rfl,rfl,r]
theorem RO{i value:Expr}{pos:Pos}{td ty tv:TE}(hu:X.A.units+1<cLine)(ho:PE X o td)(hi:PE X i ty)(hv:PE X value tv)(hs:swapsWith value (some<|.Subscript o i pos') pos.line X.env=pure false):
 PS X (.Assign [.Subscript o i pos'] value pos) (sDPX X.prog X.w X.K td ty tv):=by
 intro aM s σ H D I h;calc wpAny_Assign_Subscript (eK (hv aM s σ H _ I h) λr s1 ⟨v,H1,q,rv,t⟩=>eK (ho aM s1 σ H1 _ q t) λu s2 ⟨x,H2,z,B,C⟩=>eK (hi aM s2 σ H2 _ z C) λN O ⟨y,P,g,E,j⟩=>?_) hs;obtain⟨a,kvs,b,k,ex,d,F,hk,hn,j⟩:=j;subst ex F;cases B;cases E;obtain⟨xs,l,G⟩:=ZK g d;let hz:xs.length<=sizeLine:=by
  rw[←fA l,dH];have :=d.few;lia
 refine wpAny_setItem_heap (hsz:=hz) (eI hu) (wE g hk) G λh' f m=>?_
 let n:atKey xs k=none:=by
  let e:=(l.val k).isSome_eq;rw[hn,nI]at e;cases c:atKey xs k with
  |none=>rfl
  |some _=>rw[c]at e;cases e
 rw[GW n]at f;obtain⟨p,es,ep,hq,h2,J,L,_,M⟩:=f;exact#[σ,_,kE g (by rw[d.is];calc True.intro) m #[p,hq]<|KM #[_,l.snoc rv,p,es,ep,hq,h2,J,L,M],j]
def tLX(P:Program)(w:World)(K:W.Frag)(to:TE):TE:=λσ H Q=>to σ H λx H1=>∃a kvs,x=.ref a/\sR P w K H1 a kvs/\∀l,H1 l=none->Q (.ref l) (upd H1 l<|.lst<|kvs.map λx=>V.ref x.2.1)
theorem RV{to:TE}{p pos:Pos}(hg:Gl X "list")(hm:X.mg "list"=none)(hc:X.calm=true)(ho:PE X o to)
 (he:starEach [o] X.env=[(false,eval o X.env)]:=by rfl):PE X (.Call (.Name "list" p) [o] [] pos) (tLX X.prog X.w X.K to):=by
 intro aM s σ H Q I h;calc fQ (uJ I hg hm uL ?_ (by decide) (by decide));calc dZ ?_ he (by rfl);rw[he];show wpAny _ _ (spliced [(false,_)]) _ _ s;calc fR (eK (ho aM s σ H _ I h) λv s1 ⟨x,H1,c,l,a,kvs,e,d,q⟩=>lO ?_);subst e;cases l;obtain⟨xs,g,m,es,ep,n,r,t,j,J,L⟩:=ZK c d;let raw:pP s1.heap a es ep:=#[m,n,r,t]
 let eQ:es.size=kvs.length:=by
  rw[←cI,j,aC];exact(fA g).symm
 let hs:sizeLine=16777216:=dH;let hz:=d.few;refine kdl_call (RG (d:=a) (es:=es) (ep:=ep) d.lo) (I.ok.hd hc) raw () λh' tk mO z hk A b=>?_
 let vals:cY (kvs.map λx=>V.ref x.2.1) mO.toList:=by
  let f:mO.toList.length=es.size:=by rw[cI];exact b.1
  refine ZW (by rw[aC,f,eQ]) λi y u hy hu=>?_
  rw[gH]at hu;obtain⟨M,k,B⟩:=b.2 i u hu;rw[←gH,j,aF]at k;obtain⟨C,D,E⟩:=aL.mp k;rw[aF]at hy;obtain⟨F,G,p2⟩:=aL.mp hy;have :=g.at G D;rw[←B,←E,←p2];show Value.ref C.2.1=Value.ref F.2.1;rw[this]
 exact#[.ref _,_,c.laid (a:=_) (o:=.lst<|kvs.map λx=>V.ref x.2.1) (t':=tk) hk (aG _) #[by rw[aC];lia,mO.toList,z,vals,by rw[pE];calc A],rfl,q _<|c.hok.fresh<|aG _]
def tDX1(P:Program)(w:World)(K:W.Frag)(tk tv:TE):TE:=λσ H Q=>∀p,H p=none->(p==sysModules)=false->tk σ (upd H p<|DK P w p []) λx H1=>tv σ H1 λy H2=>∃b k,x=.ref b/\cW K H2 b (k.map kV)/\H2 p=some (DK P w p [])/\Q (.ref p) (upd H2 p<|DK P w p [(k,b,y)])
theorem RX{ke ve:Expr}{pos:Pos}{tk tv:TE}(hu:X.A.units+1<cLine)(hk:PE X ke tk)(hv:PE X ve tv):PE X (.Dict [some ke] [ve] pos) (tDX1 X.prog X.w X.K tk tv):=by
 intro aM s σ H Q I q;let hn:=I.hok.fresh<|aG s.heap.objs.size;let c:(s.heap.objs.size==sysModules)=false:=cG.mpr<|cE<|bK I.big;let e:bn X.prog X.w (s.heap.push {cls:=.type "dict",data:=.dict (List.toArray [])}) s.heap.objs.size []:=#[[],.nil,_,(List.toArray []),0,bF _ rfl,#[rfl,rfl,rfl],rfl,rfl,jo]
 let j:=I.laid (a:=s.heap.objs.size) (o:=DK X.prog X.w s.heap.objs.size []) (h':=s.heap.push {cls:=.type "dict",data:=.dict (List.toArray [])}) (t':=s.toks) (λ_ _ q=>aO _ q) (aG _)<|KM e;calc wpAny_Dict_any rfl rfl (by simp) (by show 1<=15;decide) (pairTrees_cons_walk<|eK (hk aM _ σ _ _ j<|q _ hn c) λu s1 ⟨x,H1,l,m,n⟩=>eK (hv aM s1 σ H1 _ l n) λD s2 ⟨y,H2,f,p,b,k,ex,hb,hp,r⟩=>pairTrees_nil_walk ?_);subst ex;cases m;let d:sR X.prog X.w X.K H2 s.heap.objs.size []:=#[hp,by decide,c,λx hx=>nomatch hx]
 obtain⟨xs,t,v⟩:=ZK f d;cases t;unfold storeAll;rw[List.forIn_cons];calc aE (aE<|wpAny_dictSet_heap (knd:=tupleKind<|zX X.prog X.w) (show X.A.units<cLine by lia) (wE f hb) v (λh' g h=>aJ ?_) (by rw[dH];decide));obtain⟨i,es,ep,hq,h2,z,B,_,C⟩:=g;show wpAny _ _ (forIn [] PUnit.unit _) _ _ _;rw[List.forIn_nil];exact aJ #[.ref s.heap.objs.size,_,kE f (by rw[hp];calc True.intro) h #[i,hq]<|KM #[_,Paired.cons #[rfl,rfl,p] .nil,i,es,ep,hq,h2,z,B,C],rfl,r]
end
section
open PySem.W
theorem QI{h:Heap}:∀(kvs:List XE)(as:List Addr),(∀(i:Nat)(x:XE),kvs[i]?=some x->∃(a:Addr)(its:List Value),as[i]?=some a/\cY [.ref x.2.1,x.2.2] its/\IsTup h a its.toArray)->
 ∃xs,GO kvs xs/\∀(i:Nat)(k:List eV)(b:Addr)(v:Value),xs[i]?=some (k,b,v)->∃a,as[i]?=some a/\IsTup h a (List.toArray [.ref b,v])/\∃x,kvs[i]?=some x/\x.1=k/\x.2.1=b
 |[],as,hk=>#[[],.nil,λi k b v e=>by simp at e]
 |x::kvs,as,hk=>by
  obtain⟨c,its,h1,h2,d⟩:=hk 0 x rfl;cases as with
  |nil=>cases h1
  |cons a as=>
  cases h1;obtain⟨xs,f,g⟩:=QI kvs as λi y e=>hk (i+1) y e
  obtain⟨p,j,rfl,l,m⟩:=vals2 h2;cases l;calc#[(x.1,x.2.1,j)::xs,.cons #[rfl,rfl,m] f,λi n o v' e=>?_];cases i with
  |zero=>cases e;exact#[c,rfl,d,x,rfl,rfl,rfl]
  |succ i=>exact g i n o v' e
theorem CS(hu:X.A.units+2<cLine):xX X (.type "dict") (λxs H Q=>i6 X.calm (rJ xs λx=>oI x λp=>∃as:List Addr,cO X.K H p (as.map V.ref)/\∃kvs:List XE,as.length=kvs.length/\(kvs.map (·.1)).Nodup/\
 (∀(i:Nat)(x:XE),kvs[i]?=some x->∃a,as[i]?=some a/\cW X.K H a [.ref x.2.1,x.2.2]/\cW X.K H x.2.1 (x.1.map kV))/\∀l,H l=none->(l==sysModules)=false->Q (.ref l) (upd H l<|DK X.prog X.w l kvs))):=by
 intro aM s σ H xs us Q I r h;replace h:=GL h;obtain⟨hc,h⟩:=h;replace h:=wJ h;obtain⟨O,rfl,h⟩:=h;replace h:=xK h;obtain⟨p,rfl,as,hp,kvs,eQ,hn,hk,q⟩:=h;obtain⟨u,rfl,B⟩:=jY r;cases B;obtain⟨its,rv,hl,hz⟩:=I.list hp;let mN:=rv.length;rw[aC]at mN hz;obtain⟨vs,c,y⟩:=QI (h:=s.heap) kvs as λi x e=>by
  obtain⟨a,d,f,z⟩:=hk i x e;obtain⟨its,C,D,_⟩:=I.tuple f;exact#[a,its,d,C,D]
 let g:kvs.length=vs.length:=fA c;let j:vs.map (·.1)=kvs.map (·.1):=by
  clear hn y g hk eQ q
  induction c with
  |nil=>rfl
  |cons h _ E=>rw[bY,bY,E,h.1]
 refine uC (knd:=tupleKind<|zX X.prog X.w) (xs:=vs) (show X.A.in1.in1.units<cLine from ?_) (I.ok.hd hc) hl HH (by rw[j];calc hn) () (by rw[aR];lia) (λi k b v e=>?_) λh' t' m n=>?_
 ·exact hu
 ·obtain⟨a,d,f,x,z,rfl,rfl⟩:=y i k b v e;obtain⟨u,h1,h2⟩:=rv.get (i:=i) (x:=V.ref a) (by rw[aF,d];rfl);cases h2;obtain⟨_,_,_,F⟩:=hk i x z;exact#[a,by simpa using h1,f,wE I F]
 ·obtain⟨o,es,ep,G,J,L,M,N⟩:=n;let t:=I.hok.fresh<|aG s.heap.objs.size;exact#[.ref s.heap.objs.size,_,I.laid (a:=s.heap.objs.size) (o:=DK X.prog X.w s.heap.objs.size kvs) (t':=t') m (aG _)<|KM #[vs,c,o,es,ep,G,J,L,M,N],rfl,q _ t<|cG.mpr<|cE<|bK I.big]
def PB(P:Program)(w:World)(K:W.Frag)(td ty:TE):TE:=λσ H Q=>td σ H λx H1=>∃a kvs0,x=.ref a/\sR P w K H1 a kvs0/\ty σ H1 λy H2=>∃kvs b k,sR P w K H2 a kvs/\y=.ref b/\cW K H2 b (k.map kV)/\Q ((kL kvs k).getD .non) H2
theorem d9{hG:Pos}{td ty:TE}(hu:X.A.units+1<cLine)(ho:PE X o td)(he:PE X e ty)(m:M1 X o "get" lM e hG):PE X (.Call (.Attribute o "get" lM) [e] [] hG) (PB X.prog X.w X.K td ty):=by
 intro aM s σ H Q I h;calc ji m.base m.few m.line rO iQ F.type_dict_get (eK (ho aM s σ H _ I h) λu s1 ⟨x,H1,j,p,f⟩=>?_);obtain⟨a,l,ex,q,f⟩:=f;subst ex;obtain rfl:u=Value.ref a:=p;obtain⟨r,t,c⟩:=ZK j q;calc#[c.typeIs,(λD ho=>by cases ho;obtain⟨o',_,_,h1,h2,E,_⟩:=c;calc#[o',h1,h2.2.1]),?_];rw[m.trees];calc iV rfl (rA<|fR<|eK (he aM s1 σ H1 _ j f) λv s2 ⟨y,H2,g,z,i⟩=>lO ?_);obtain⟨kvs,b,k,d,B,hk,i⟩:=i;subst B;cases (show v=Value.ref b from z);obtain⟨xs,C,n⟩:=ZK g d;exact tH iQ n.typeIs rR (F.args_dict_get_2 _ _) (meetsH_dict_get (tupleKind<|zX X.prog X.w) a b d.lo) #[eI hu,k,_,wE g hk,n,#[(kL kvs k).getD .non,H2,g.tok _,(C.val k).getD (d:=.non) rfl,i]]
set_option autoImplicit false
end
abbrev SM:=StateT SortSt Sem
section
variable {be:Nat->SM (Option Bool)} {P:Nat->Bool}
end
section
variable {la lb ol:List Keyed} {ia ib:Nat}
end
section
variable {a b out:Array Keyed} {ia ib:Nat}
end
section
variable {a b:Array Keyed}
end
section
variable {a b out:Array Keyed} {na nb:Nat}
end
section
variable {a b:Array Keyed}
end
section
variable {st0:SortSt} {lo:Nat}
end
section
variable {xs ys:Array Keyed}
end
section
variable {st0:SortSt}
end
section
open PySem.SeqAt PySem.W
section
variable {P:Nat->Value->Prop} {OK:Heap->Prop}
end
end
section
open PySem.SeqAt
end
end L2
namespace HT
open PySem PyProof.Rows
noncomputable def lexLe:List Int->List Int->Bool
 |[],[]=>true
 |[],_::_=>true
 |_::_,[]=>false
 |x::xs,y::ys=>if x=y then lexLe xs ys else decide (x<=y)
theorem lexLe_cons(x y:Int)(xs ys:List Int):lexLe (x::xs) (y::ys)=if x=y then lexLe xs ys else decide (x<=y):=rfl
theorem JT:lexLe [] []=true:=rfl
theorem XJ(y:Int)(ys:List Int):lexLe [] (y::ys)=true:=rfl
theorem XL(x:Int)(xs:List Int):lexLe (x::xs) []=false:=rfl
theorem RF(A:Around)(s:Shared)(a:Int)(t:Tok)(c:Int)(u:Tok)(prog:Program)(w:World)(E:Value->Shared->Prop)(Q:Value->Shared->Prop)(h:Q (.bool<|decide<|a<=c) s):
 wpAny (model prog w) A (richCompare .LtE (.int a t)<|.int c u) Q E s:=
 (PyProof.Rows.le_int h:wpAny (model prog w) A (compareOp .LtE (.int a t)<|.int c u) Q E s)
section
open PySem.SeqAt
open PySem.AutoSeq1 (wpAny_loadPart')
open PySem.MeetsSeq PySem.MeetsSeq2 PySem.MeetsSeq3
theorem JN(l b:Addr)(items iA:Array Value)(n n2:Nat)(dd dd2:Option Addr)(sl sl2:Array (Option Value))(ns ms:List Int)(hi:IntsAre items.toList ns)(hj:IntsAre iA.toList ms):
 Meets (Builtin.«tuple.__le__» #[[.ref l,.ref b],[]])
  (λ_ R s=>s.heap.get? l=some {cls:=.type "tuple",dict:=dd,data:=.seq items n,slots:=sl}/\s.heap.get? b=some {cls:=.type "tuple",dict:=dd2,data:=.seq iA n2,slots:=sl2}/\
   R (.ok<|.ret<|.bool<|lexLe ns ms) s):=
 .of_wp λprog w A R s h=>by
  obtain⟨hp,g,d,tk,os⟩:=s;obtain⟨hl,hb,h⟩:=h;let F:=AutoSeq1.sub_tuple_tuple;let G:items.size=ns.length:=by rw[←hi.length];simp
  let H:iA.size=ms.length:=by rw[←hj.length];simp
  wp_walk using wpAny_loadPart' hl,wpAny_loadPart' hb,wpAny_forIn_list _ (λnU b s'=>b.1=none/\s'=#[hp,g,d,tk,os]/\∃(vs ws:List Value)(f i:List Int),nU=vs.zip ws/\
   IntsAre vs f/\IntsAre ws i/\f.length+iA.size=i.length+items.size/\R (.ok<|.ret<|.bool<|lexLe f i) #[hp,g,d,tk,os]) _
  case turn=>
   rintro⟨y,x⟩ nU b s' ⟨o,rfl,vs,ws,f,i,hz,p,j,eQ,k⟩;cases p with
   |nil=>rw[List.zip_nil_left]at hz;cases hz
   |cons a t v=>
    cases j with
    |nil=>rw[List.zip_nil_right]at hz;cases hz
    |cons c u z=>
     rw[List.zip_cons_cons]at hz;injection hz with B r
     injection B with hy hx
     subst hy hx;rw[lexLe_cons]at k;simp only[bG]at eQ;obtain⟨e,he,m⟩:=ah A.in1 #[hp,g,d,tk,os] a t c u;calc aE<|he prog w _ _ ?_;cases e with
     |true=>
      rw[aT<|m.mp rfl]at k
      wp_walk
      exact#[rfl,rfl,_,_,_,_,r,v,z,by lia,k]
     |false=>
      rw[aH λq=>absurd (m.mpr q) aY]at k;let C:=RF A.in1 #[hp,g,d,tk,os] a t c u prog w
      wp_walk using C
      exact#[_,rfl,by simpa using k]
  case fin=>
   rintro⟨b1,b2⟩ s' ⟨o,rfl,vs,ws,f,i,hz,p,j,eQ,k⟩;simp only at o;subst o;let D:lexLe f i=decide (items.size<=iA.size):=by
    cases p with
    |nil=>
     cases j with
     |nil=>
      simp only[mI]at eQ;rw[JT];exact(cN (by lia)).symm
     |cons c u E=>
      simp only[mI,bG]at eQ;rw[XJ];exact(cN (by lia)).symm
    |cons a t D=>
     cases j with
     |nil=>
      simp only[mI,bG]at eQ;rw[XL];exact(cJ (by lia)).symm
     |cons c u E=>
      rw[List.zip_cons_cons]at hz;cases hz
   rw[D]at k
   wp_walk
   exact#[_,rfl,by simpa[Builtin.Tuple.tupleCompareSizes]using k]
  case h=>
   exact#[rfl,rfl,items.toList,iA.toList,ns,ms,rfl,hi,hj,by lia,h]
end
section
variable {prog:Program} {w:World} {A:Around} {E:Value->Shared->Prop} {s:Shared}
theorem le_tupInts{l b:Addr}{items iA:Array Value}{ns ms:List Int}{Q:Value->Shared->Prop}(hl:IsTup s.heap l items)(hb:IsTup s.heap b iA)(hi:IntsAre items.toList ns)(hj:IntsAre iA.toList ms)
 (hu:A.units<cLine) (h:Q (.bool<|lexLe ns ms) s):wpAny (model prog w) A (compareOp .LtE (.ref l)<|.ref b) Q E s:=by
 obtain⟨⟨cls,j,data,sl⟩,g,hc,n,hd⟩:=id hl;obtain⟨⟨i,e,data2,f⟩,a,c,k,d⟩:=id hb;simp only at hc hd c d;subst hc hd c d;exact richCompare_meets_room (op:=.LtE) #[_,g,rfl] #[_,a,rfl] PySem.F.slot_tuple_le PySem.F.entry_tuple_le (PySem.F.args_tuple_le_2 _ _) (JN l b items iA n k j e sl f ns ms hi hj)
  #[g,a,show Value.bool (lexLe ns ms)≠Value.notImplemented/\Q (.bool<|lexLe ns ms) s from#[(λx=>nomatch x),h]] hu
end
end HT
namespace L2
open PySem PySem.Spec PyProof.Rows PySem.W
variable {X:Cx}
local macro_rules | `(()) => `(by lia)
def rLeT(K:W.Frag):R2:=λx y H Q=>∃a b ns ms,x=.ref a/\y=.ref b/\cW K H a (ns.map V.int)/\cW K H b (ms.map V.int)/\Q (.bl<|HT.lexLe ns ms) H
theorem qy(K:W.Frag)(hu:X.A.units<cLine)(h:X.K=K:=by rfl):pG X (compareOp .LtE) (rLeT K):=by
 subst h;intro aM s σ H x y v u Q I d e h;obtain⟨a,b,ns,ms,rfl,rfl,ha,hb,q⟩:=h;cases d;cases e;obtain⟨its,f,g,_⟩:=I.tuple ha;obtain⟨c,i,p2,_⟩:=I.tuple hb;exact HT.le_tupInts g p2 (XU f) (XU i) hu #[.bl<|HT.lexLe ns ms,H,I,rfl,q]
theorem QP:∀ns ms:List Int,HT.lexLe ns ms=!HT.lexLt ms ns
 |[],[]=>rfl
 |[],_::_=>rfl
 |_::_,[]=>rfl
 |x::xs,y::ys=>by
  rw[HT.lexLe_cons,HT.lexLt_cons];by_cases e:x=y
  ·rw[aT e,aT e.symm];exact QP xs ys
  ·rw[aH e,aH<|cE e,←decide_not];exact decide_eq_decide.mpr ()
end L2
namespace C
open PySem L2
seal PE PT PW PA PS DS PG um PI PO i9 LF
variable {d f p:Addr} {fd:FuncData} {base:Heap} {H H':Hp} {kvs:List (List eV×V)} {vs:List (List Nat)} {ps:List (Nat×Nat)} {qs:List Addr} {ls:List Ln} {R:List Ln->Prop} {bB:List xT} {sp:List Nat} {T:List Ro} {rows:List Rw} {zs:List Str} {ts:List Tm} {us xs:List V} {as:List Wt} {l:Ln} {a b i j n:Nat} {U:Nat->Nat->Prop} {P:Program} {K:W.Frag} {r:Rw} {S:Str->List Nat} {mg:Str->Option Value} {s:Tm×Tm} {v:V} {w:World}
local macro_rules | `(tactic| dsimp! [$ts,*]) => `(tactic| (try dsimp only [LQ,tFor_eq,tLC_eq,iRng1,iRng2,lv,iTup,tIfS,tRet,tRetN,tNext,UK,uP,tVar,tC,tOp,bx,rI,tTest,tB,rEq,rNe,PF,tCons,tNil,tCB,tLst,tTup,tAnd,tOr,tNot,tAndV,tOrV,tNotV,tIf,tDrop,tSl,tPart,UH,ng,tUn,rU,uT,cx_K,bk_K,cx_calm,bk_calm,Option.join,Bool.not_true,Bool.not_false,List.length_cons,List.length_nil,mapC,mapN,List.replicate,List.cons_append,List.nil_append,List.getElem?_cons_zero,List.getElem?_cons_succ,List.set_cons_zero,List.set_cons_succ,Nat.reduceSub,Nat.reduceAdd,tBM,tBM0,UV,rIxL,rIxT,rIxS,rSlL,rSlT,rCat,cx_w,bk_w,tDGet,nc,cx_P,asI_i,asR_i,asB_i,asS_i,asV_i,asC_i,as1_i,as2_i,as0_i,asT_i,$ts,*]; try simp only [asI_e,asR_e,asB_e,asS_e,asV_e,asC_e,as1_e,as2_e,as0_e,asT_e,LQ,tFor_eq,tLC_eq,iRng1,iRng2,lv,iTup,tIfS,tRet,tRetN,tNext,UK,uP,tVar,tC,tOp,bx,rI,tTest,tB,rEq,rNe,PF,tCons,tNil,tCB,tLst,tTup,tAnd,tOr,tNot,tAndV,tOrV,tNotV,tIf,tDrop,tSl,tPart,UH,ng,tUn,rU,uT,cx_K,bk_K,cx_calm,bk_calm,lenV_str,and_assoc,Option.join,List.length_map,List.length_append,decide_eq_true_eq,Bool.false_eq_true,if_false,if_true,Bool.not_true,Bool.not_false,Bool.not_eq_true',decide_eq_false_iff_not,Bool.true_eq_false,List.length_cons,List.length_nil,mapC,mapN,List.replicate,List.cons_append,List.nil_append,List.append_nil,List.getElem?_cons_zero,List.getElem?_cons_succ,List.set_cons_zero,List.set_cons_succ,Nat.reduceSub,Nat.reduceAdd,Option.some.injEq,V.int.injEq,V.str.injEq,V.bl.injEq,V.ref.injEq,List.cons.injEq,and_true,true_and,exists_eq_left',exists_eq_left,exists_and_left,exists_eq_right,exists_const,tBM,tBM0,UV,rIxL,rIxT,rIxS,rSlL,rSlT,rCat,cx_w,bk_w,tDGet,nc,cx_P,asI_i,asR_i,asB_i,asS_i,asV_i,asC_i,as1_i,as2_i,as0_i,asT_i,List.map_cons,List.map_nil,$ts,*]))
local macro_rules | `(#[]) => `(by repeat' (first|(show PA _ _ _; first|exact zJ|refine' zE ?_ ?_)|(show PE _ (.Name _ _) _; first|exact pv 0|exact pv 1|exact pv 2|exact pv 3|exact pv 4|exact pv 5|exact pv 6|exact pv 7|exact pv 8|exact pv 9|exact pv 10|exact pv 11)|(show PE _ _ _; first|exact zS|exact yS|refine' zP wF ?_ ?_|refine' yZ (by first|exact FG|exact VE|exact et|exact VD|exact SI|exact qu|exact qq|exact qr|exact FE) ?_ ?_|refine' yW ?_|refine' uX ?_|exact II|exact vZ|refine' RU (by first|exact m6|exact EA) ?_|refine' qR (by first|exact QK|exact BB|exact IK|exact IL|exact ln|exact lq) ?_ ?_ (yI _)|refine' zO kI rfl (Bi.len ‹_›) ZA ?_|refine' zV ‹_› (by first|exact gK.m ‹_›|assumption) rfl ?_|refine' xU ‹_› ‹_› (by first|exact gK.m ‹_›|assumption) ?_ ?_|refine' qK cR dW dU jE ?_ ?_|refine' RW ?_ rfl)|(show PT _ _ _; first|refine' yC (by first|exact QK|exact BB|exact IK|exact IL|exact ln|exact lq) ?_ ?_ (yI _)|refine' jJ ?_|refine' PW.pt (qI ?_ ?_)|refine' PW.pt (UX ?_ ?_)|refine' xH ?_)|(show PW _ _ _; first|refine' qI ?_ ?_|refine' YX ?_|refine' UX ?_ ?_|refine' UW ?_)|(show DS _ _ _; first|exact zL|refine' zI ?_|refine' zC ?_ ?_)|(show PS _ (.Assign _ _ _) _; first|refine' xI 0 ‹_› ?_|refine' xI 1 ‹_› ?_|refine' xI 2 ‹_› ?_|refine' xI 3 ‹_› ?_|refine' xI 4 ‹_› ?_|refine' xI 5 ‹_› ?_|refine' xI 6 ‹_› ?_|refine' xI 7 ‹_› ?_|refine' xI 8 ‹_› ?_|refine' xI 9 ‹_› ?_|refine' xI 10 ‹_› ?_|refine' xI 11 ‹_› ?_)|(show PS _ _ _; first|refine' zR ?_|exact dw|refine' yA ?_ ?_ ?_|refine' xJ ?_|refine' yD bR rfl ?_ ?_ ?_)|(show PG _ (.Name _ _) _; first|exact yG 0 ‹_›|exact yG 1 ‹_›|exact yG 2 ‹_›|exact yG 3 ‹_›|exact yG 4 ‹_›|exact yG 5 ‹_›|exact yG 6 ‹_›|exact yG 7 ‹_›|exact yG 8 ‹_›|exact yG 9 ‹_›|exact yG 10 ‹_›|exact yG 11 ‹_›)|(show PG _ _ _; refine' EV rfl ?_)|(show um _ _ _; first|refine' yE ?_ ?_|exact jS)|(show PI _ _ _ _; first|refine' MI rfl (Bi.range ‹_›) ?_|refine' MH rfl (Bi.range ‹_›) ?_|refine' dy rfl ‹_› ?_|refine' uH ?_)))
local macro_rules | `(tactic| rfl') => `(tactic| exact #[rfl, rfl, rfl, by decide +kernel, rfl, by decide +kernel, by decide +kernel])
local macro_rules | `(()) => `(by first | decide +kernel | lia)
noncomputable def top(i:Nat):Stmt:=PySem.Challenge.pw_clashbook_k29_worlds_of_the_judge.main.body.getD i<|.Pass #[0,0,0,0]
abbrev qb:Stmt:=top 17
theorem ko:bV ["n"] ["n"] (zF qb):=by rfl'
abbrev s_T:Stmt:=top 18
theorem sc_T:bV ["n","bound"] ["n","bound"] (zF s_T):=by rfl'
abbrev vJ(H:Hp)(ls:List Ln)(us:List V):Prop:=bN H (ls.map uf) us
abbrev LA(H:Hp)(as:List Wt)(us:List V):Prop:=bN H (as.map dWt) us
theorem jM{α:Type}{f:α->Dt}{xs:List α}(h:bN H (xs.map f) us)(hv:us[i]?=some v):∃x,xs[i]?=some x/\eL H (f x) v:=by
 let hl:=bN.length h;rw[aC]at hl;let hi:i<xs.length:=by rw[←hl];exact(aD.mp hv).1
 obtain⟨u,h1,h2⟩:=bN.get (d:=f xs[i]) h (by rw[aF,aA hi];rfl);rw[hv]at h1;cases h1;exact#[_,aA hi,h2]
theorem xS{α:Type}{f:α->Dt}{xs:List α}(h:bN H (xs.map f) us):us.length=xs.length:=by
 let hl:=bN.length h;rwa[aC]at hl
theorem ic{α:Type}{f:α->Dt}{xs:List α}{x:α}(hx:xs[i]?=some x)(h:bN H ((xs.take i).map f) us)(h1:eL H (f x) v):bN H ((xs.take<|i+1).map f) (us++[v]):=by
 obtain⟨hi,e⟩:=aD.mp hx;rw[aI hi,e,aQ];exact bN.append h<|bN.one h1
theorem LnAt.out(h:eL H (uf l) v):∃a b us,v=.ref a/\H a=some (.tup [.int l.i,.int l.j,.ref b])/\H b=some (.tup (.str l.w::us))/\LA H l.as us:=by
 obtain⟨a,vs,e,f,g,u,k,h1,m,z,n,h2,A,o,p,⟨b,ws,q,r,x,y,s,c,t⟩,d⟩:=h;let h1:g=.int l.i:=h1;let h2:m=.int l.j:=h2;let d:o=[]:=d;let c:x=.str l.w:=c;subst d p n k h1 h2 q s c;exact#[a,b,y,e,f,r,t]
noncomputable def rwV:Rw->List V
 | .no=>[.str "none"]
 | .nm y=>[.str "name",.str y]
 | .bo i j=>[.str "both",.int i,.int j]
def Tw(K:W.Frag)(H:Hp)(a:Addr)(xs:List V):Prop:=
 H a=some (.tup xs)\/∃(o:Obj)(its:Array Value)(n:Nat),K.lookup a=some o/\o.cls=.type "tuple"/\o.data=.seq its n/\its.size<=sizeLine/\cY xs its.toList
theorem Tw.sq{a:Addr}(h:Tw K H a xs):cW K H a xs:=h.elim cW.of .inr
theorem Tw.tups{a:Addr}(h:Tw K H a xs)(e:cV H H'):Tw K H' a xs:=h.elim (λz=>.inl<|e _ _ z) .inr
theorem Tw.same{a:Addr}(h:Tw K H a xs)(e:aX H H'):Tw K H' a xs:=h.elim (λz=>.inl<|e _ _ z) .inr
def GP(K:W.Frag)(H:Hp)(r:Rw)(v:V):Prop:=∃a,v=.ref a/\Tw K H a (rwV r)
def gJ(K:W.Frag)(H:Hp):List Rw->List V->Prop
 |[],us=>us=[]
 |r::rs,us=>∃v vs,us=v::vs/\GP K H r v/\gJ K H rs vs
theorem gJ.go{K:W.Frag}{H H':Hp}(e:aX H H'):∀{rs:List Rw}{us:List V},gJ K H rs us->gJ K H' rs us
 |[],_,h=>h
 |r::rs,us,⟨v,vs,b,⟨a,c,d⟩,f⟩=>#[v,vs,b,#[a,c,d.same e],gJ.go e f]
theorem gJ.same{rs:List Rw}(h:gJ K H rs us)(e:aX H H'):gJ K H' rs us:=gJ.go e h
theorem gJ.len{K:W.Frag}{H:Hp}:∀{rs:List Rw}{us:List V},gJ K H rs us->us.length=rs.length
 |[],_,h=>by cases (show _=[]from h);rfl
 |r::rs,us,⟨v,vs,a,_,b⟩=>by rw[a,bG,bG,gJ.len b]
theorem gJ.get{K:W.Frag}{H:Hp}:∀{rs:List Rw}{us:List V}{i:Nat}{v:V},gJ K H rs us->us[i]?=some v->∃r,rs[i]?=some r/\GP K H r v
 |[],_,i,v,h,a=>by cases (show _=[]from h);simp at a
 |r::rs,us,0,v,⟨v',vs,b,c,d⟩,a=>by subst b;cases a;exact#[r,rfl,c]
 |r::rs,us,i+1,v,⟨v',vs,b,c,d⟩,a=>by
  subst b;obtain⟨e,f,g⟩:=gJ.get (i:=i) d (by simpa using a);exact#[e,by simpa using f,g]
theorem GP.out(h:GP K H r v):∃a x us,v=.ref a/\Tw K H a (.str x::us)/\(match r with | .no=>x="none"/\us=[] | .nm y=>x="name"/\us=[.str y] | .bo i j=>x="both"/\us=[.int i,.int j]):=by
 obtain⟨a,b,c⟩:=h;cases r<;>exact#[a,_,_,b,c,rfl,rfl]
noncomputable def ptsR:Rw->List Int
 | .bo i j=>[i,j]
 |_=>[]
theorem wV{n:Int}(h:n % 2=0)(hr:rows[(n/2).toNat]?=some r):pN rows n=ptsR r:=by
 unfold pN;rw[aT h,hr];cases r<;>rfl
theorem PU{k:Nat}{i:Int}(h:0<=i/\i<(k:Int))(hl:ls[i.toNat]?=some l):jG ls k (.n i)=some (l.i,l.j):=by
 show(if 0<=i/\i<(k:Int)then(ls[i.toNat]?).map λl=>(l.i,l.j)else none)=_;rw[aT h,hl];rfl
theorem PV{k:Nat}{i:Int}(h:¬(0<=i/\i<(k:Int))):jG ls k (.n i)=none:=by
 show(if 0<=i/\i<(k:Int)then(ls[i.toNat]?).map λl=>(l.i,l.j)else none)=_;rw[aH h]
noncomputable def isN:Wt->Bool
 | .n _=>true
 | .ps _=>false
def nk:Sp:=λvs H Q _=>∃(v:V)(x:Wt),vs=[v]/\eL H (dWt x) v/\Q (.bl<|isN x) H
def PP:Sp:=λvs H Q _=>∃(v:V)(x:Wt)(b:Int),vs=[v,.int b]/\eL H (dWt x) v/\Q (.bl<|JY b x) H
theorem BO(bi:Bi mg)(F:fT K "is_whole" "is_whole" qb f fd):cZ P w K mg base fL 1 f fd ["n"] nk:=by
 refine F.okz ko λeO A outer s H vs Q E hr h=>?_
 obtain⟨v,x,rfl,b,q⟩:=h;calc#[_,have nd:=ko.nd;zI<|zR<|wA (zO (xD (T:="int")) rfl bi.isinstance zZ<|zE #[]<|zE (uO bi.int WD rfl) zJ)<|vY<|EX<|zO (xD (T:="bool")) rfl bi.isinstance zZ<|zE #[]<|zE (uO bi.bool KW rfl) zJ,?_];cases x with
 |n i=>
  let e:v=.int i:=b;subst e;dsimp![];exact#[_,.int i,true,xV,sf #[_,.int i,false,WM,q]]
 |ps l=>
  obtain⟨a,us,rfl,ha,hu⟩:=b;dsimp![];exact#[_,.tup ha,false,rn,iteF q]
theorem BP(bi:Bi mg)(h_af:fI P w K mg base 1 "is_whole" ["n"] nk)(F:fT K "is_below" "is_below" s_T f fd):cZ P w K mg base fL 2 f fd ["n","bound"] PP:=by
 refine F.okz sc_T λeO A outer s H vs Q E hr h=>?_
 obtain⟨v,x,b,rfl,a,q⟩:=h;calc#[_,have nd:=sc_T.nd;zI<|zR<|wA #[]<|vY<|SD IL IK zS #[] #[],?_];dsimp![nk];calc#[x,a,?_];cases x with
 |n i=>
  let e:v=.int i:=a;subst e;rw[show isN (.n i)=true from rfl,aT rfl];let q:Q (.bl<|decide (0<=i)&&decide (i<b)) H:=q;calc#[i,rfl,?_];split
  ·rename_i h
   rw[cN h,oP]at q;exact#[i,rfl,q]
  ·rename_i h
   rw[cJ h,eX]at q;exact q
 |ps l=>
  rw[show isN (.ps l)=false from rfl,aH aY];exact q
theorem ud(p q:Pr):lL (OG p) (OG q)=(p==q):=by
 obtain⟨a,b⟩:=p;obtain⟨c,d⟩:=q;simp only[OG,lL,vF,tV];rfl
theorem t5(n:Nat)(p:Pr):gY (n+1) (OG p):=#[by simp,λd hd=>by
 simp only[bI,dA,or_false]at hd;rcases hd with rfl |rfl<;>(cases n<;>trivial)]
theorem qm{p:Pr}(h:eL H (OG p) v):∃a,v=.ref a/\H a=some (.tup [.int p.1,.int p.2]):=by
 obtain⟨a,vs,c,d,e,k,f,h1,g,i,j,h2,b⟩:=h;let h1:e=.int p.1:=h1;let h2:g=.int p.2:=h2;let b:i=[]:=b;subst b j f h1 h2;exact#[a,c,d]
theorem nrAt{r:xT}(h:eL H (l6 r) v):∃a l b us,v=.ref a/\H a=some (.tup [.ref l,.ref b])/\H l=some (.lst us)/\bN H (r.1.map OG) us/\H b=some (.tup [.int r.2.1,.int r.2.2]):=by
 obtain⟨a,vs,d,e,p,q,f,⟨l,us,g,i,j⟩,s,k,m,h2,c⟩:=h;obtain⟨b,n,o⟩:=qm h2;let c:k=[]:=c;subst c m f g n;exact#[a,l,b,us,d,e,i,j,o]
theorem qi{k:Nat}{r:Int}{ps:List Int}(h:l.as=[.n r,.ps ps]):uU bB ls k l=if 0<=r/\r<bB.length then(match bB[r.toNat]? with |some q=>(l.i,l.j)==q.2&&(ps.map λp=>jG ls k<|.n p)==q.1.map some |none=>false)else false:=by
 unfold uU;rw[h]<;>rfl
def qP(rows:List Rw):Prop:=∀(k:Nat)(i j:Int),rows[k]?=some (.bo i j)->(0<=i/\i<2*(k:Int))/\0<=j/\j<2*(k:Int)
def RowB(r:Rw)(n:Int):Prop:=∀i j,r=.bo i j->(0<=i/\i<n)/\0<=j/\j<n
theorem af(n:Nat)(r:Rw):gY (n+1) (tD r):=by
 cases r with
 |no=>exact#[by simp,λd hd=>by simp at hd;subst hd;cases n<;>trivial]
 |nm x=>exact#[by simp,λd hd=>by simp at hd;rcases hd with rfl |rfl<;>(cases n<;>trivial)]
 |bo i j=>exact#[by simp,λd hd=>by simp at hd;rcases hd with rfl |rfl |rfl<;>(cases n<;>trivial)]
abbrev s_p:Stmt:=qS (top 30) 0
theorem sc_p:bV ["self","many"] ["self","many"] (zF s_p):=by rfl'
abbrev s_f:Stmt:=qS (top 30) 1
theorem sc_f:bV ["self","i","j"] ["self","i","j"] (zF s_f):=by rfl'
abbrev s_H:Stmt:=qS (top 30) 2
theorem sc_H:bV ["self","i","j"] ["self","i","j"] (zF s_H):=by rfl'
abbrev s_u:Stmt:=qS (top 30) 3
theorem sc_u:bV ["self","i","j","why"] ["self","i","j","why"] (zF s_u):=by rfl'
abbrev s_N:Stmt:=top 3
theorem sc_N:bV ["mask","bits","rest","low"] ["mask"] (zF s_N):=by rfl'
abbrev nV(n:Nat):V:=.int (n:Int)
inductive sX (vs:List V) (H:Hp) (Q:VK) (E:XK):Prop
 |mk (m:Nat) (xs:List Nat) (_:vs=[.int m]) (_:sI m xs) (_:(∀x∈xs,x<300)) (_:∀p H',aX H H'->H p=none->H' p=some (.lst<|xs.map nV)->Q (.ref p) H')
theorem DB{m:Nat}{xs:List Nat}(h:sI m xs)(hx:∀x∈xs,x<300):xs.length<=300:=by
 have :∀(xs:List Nat)(b:Nat),xs.Pairwise (· < ·)->(∀x∈xs,b<=x/\x<300)->xs.length+b<=300\/xs=[]:=by
  intro xs
  induction xs with
  |nil=>intro b _ _;exact .inr rfl
  |cons x xs c=>
   intro b hp hb;let a:=List.pairwise_cons.mp hp;let hx:=hb x aV;rcases c (x+1) a.2 (λy hy=>#[a.1 y hy,(hb y<|aW _ hy).2])with h |h
   ·left;rw[bG];lia
   ·subst h;left;rw[bG,mI];lia
 rcases this xs 0 h.1 (λx oM=>#[cS _,hx x oM])with h |h
 ·lia
 ·subst h;simp
theorem FO(bi:Bi mg)(F:fT K "bits_of" "bits_of" s_N f fd):cZ P w K mg base fL 1 f fd ["mask"] sX:=by
 refine F.okz sc_N λeO A outer s H vs Q E hr h=>?_
 obtain⟨m,xs,rfl,hb,hx,q⟩:=h;let y:=DB hb hx;calc#[_,have nd:=sc_N.nd;zC #[]<|zC #[]<|zC (YZ bR (RM #[] λ_=>rfl)<|zC #[]<|zC (xJ<|qK cR dW dU jE #[]<|zE (yZ SI (qp PySem.F.plainAttrs_int PySem.F.slot_int_bit_length PySem.F.type_int_bit_length JS #[]) zS) zJ)<|zI<|UY (i:=2) nd rfl (Or.inl rfl) #[] si) #[],?_];refine zD λN a=>?_
 dsimp![];calc#[zH (by simp),λp hp=>a _ _ ?_];clear a;refine zD λN a=>?_
 dsimp![];calc a _ _ ?_;clear a;let s1:=zB hp<|.lst [];let t:upd H p (.lst []) p=some (.lst<|(xs.take 0).map nV):=zA;generalize upd H p (.lst [])=H1 at s1 t⊢;refine zK (λσ H'=>∃(u v:Option V),aX H H'/\H' p=some (.lst<|xs.map nV)/\σ=[some<|V.int m,some<|V.ref p,u,v]) (λN a=>?_) λσ H' h=>?_
 ·dsimp![UG];calc#[λk σ H'=>∃(i r:Nat)(o:Option V),k=xs.length-i/\i<=xs.length/\aX H H'/\H' p=some (.lst<|(xs.take i).map nV)/\sI r (xs.drop i)/\σ=[some<|V.int m,some<|V.ref p,some<|V.int r,o],#[_,0,m,_,rfl,cS _,s1,t,hb,rfl],λk σ H' h=>?_];obtain⟨i,r,o,rfl,hi,s2,c,iO,rfl⟩:=h;dsimp![];calc#[_,rfl,?_];cases hd:xs.drop i with
  |nil=>
   rw[hd]at iO;let z:=iO.nil;subst z;rw[aH ()];let mN:xs.length<=i:=by
    have :=cM List.length hd;rw[fF,mI]at this;lia
   rw[aU mN]at c;exact a _ _ #[_,_,s2,c,rfl]
  |cons x nU=>
   rw[hd]at iO;let d:r.testBit x=true:=by rw[iO.2];simp
   obtain⟨g,hl,j⟩:=iO.cons;rw[aT (by simp;lia)];let mN:i<xs.length:=by
    have :=cM List.length hd;rw[fF,bG]at this;lia
   let l:xs[i]?=some x:=by
    have :=cM (·[0]?) hd;simpa using this
   let n:xs.drop (i+1)=nU:=by
    have :=cM (List.drop 1) hd;rw[List.drop_drop]at this;simpa using this
   refine#[λσ' b=>∃(o:Option V),aX H b/\b p=some (.lst<|(xs.take<|i+1).map nV)/\σ'=[some<|V.int m,some<|V.ref p,some<|V.int ((r&&&(r-1):Nat):Int),o],λσ' b h=>?_,?_]
   ·obtain⟨o',B,C,rfl⟩:=h;exact#[xs.length-(i+1),(),i+1,rfl,(),B,C,_,by rw[n];exact j,_,rfl]
   let elow:Builtin.bitAnd (r:Int) (-(r:Int))=((2^x:Nat):Int):=by rw[TW g,hl]
   dsimp![PH,WR,IC];rw[elow,ay];calc#[.inl #[rfl,_,cO.of c],rfl,_,c,jD (by rw[aC,bD];lia),s2.upd hp,?_,cm hl d,_,rfl];let e:(((x+1:Nat):Int)-1)=(x:Int):=by lia
   obtain⟨_,D⟩:=aD.mp l;rw[zA,e,aI mN,D,aQ];rfl
 obtain⟨u,v,s2,c,rfl⟩:=h;dsimp![];exact q _ _ s2 hp c
def OW(as:List Wt):Prop:=as.length<=3/\∀ps,Wt.ps ps∈as->ps.length<=300
noncomputable def zM(ls:List Ln)(i j:Int):Bool:=ls.any λl=>l.i==i&&l.j==j
theorem fK{i j:Int}:zM ls i j=true↔∃(p:Nat)(l:Ln),ls[p]?=some l/\l.i=i/\l.j=j:=by
 unfold zM;rw[fG];constructor
 ·rintro⟨l,hl,h⟩;rw[cC,cP,cP]at h;obtain⟨p,hp,e⟩:=cQ hl;exact#[p,l,by rw[aA hp,e],h.1,h.2]
 ·rintro⟨p,l,hl,h1,h2⟩;exact#[l,aS hl,by rw[h1,h2];simp]
theorem vD(ls t:List Ln)(i j:Int):zM (ls++t) i j=(zM ls i j ||zM t i j):=by
 unfold zM;rw[List.any_append]
theorem XV(l:Ln)(i j:Int):zM [l] i j=(l.i==i&&l.j==j):=by
 unfold zM;simp
noncomputable def yT(i j:Int):List eV:=[.inl i,.inl j]
noncomputable def sO:List Ln->Nat->List (List eV×V)
 |[],_=>[]
 |l::ls,k=>(yT l.i l.j,.int k)::sO ls (k+1)
theorem IF:∀(ls:List Ln)(k:Nat),(sO ls k).length=ls.length
 |[],_=>rfl
 |l::ls,k=>by show(sO ls<|k+1).length+1=_;rw[IF ls<|k+1];rfl
theorem AT(l:Ln):∀(ls:List Ln)(k:Nat),sO (ls++[l]) k=sO ls k++[(yT l.i l.j,.int ((k+ls.length:Nat):Int))]
 |[],k=>rfl
 |l'::ls,k=>by
  show _::sO (ls++[l]) (k+1)=_;rw[AT l ls<|k+1,bG];show _=_::_++_;rw[show k+1+ls.length=k+(ls.length+1) by lia];rfl
theorem WN{i j i' j':Int}(h:yT i j=yT i' j'):i=i'/\j=j':=by
 unfold yT at h;injection h with h1 h2
 injection h2 with h2 a
 exact#[Sum.inl.inj h1,Sum.inl.inj h2]
theorem YB{i j:Int}:∀(ls:List Ln)(k:Nat),(zM ls i j=false/\yB (sO ls k) (yT i j)=none)\/∃(p:Nat)(l:Ln),ls[p]?=some l/\l.i=i/\l.j=j/\yB (sO ls k) (yT i j)=some (.int ((k+p:Nat):Int))
 |[],k=>.inl #[rfl,rfl]
 |l::ls,k=>by
  by_cases h:l.i=i/\l.j=j
  ·calc .inr #[0,l,rfl,h.1,h.2,?_];show yB ((yT l.i l.j,V.int k)::sO ls (k+1)) (yT i j)=_;rw[h.1,h.2,qD rfl];rfl
  ·let e:yB (sO (l::ls) k) (yT i j)=yB (sO ls<|k+1) (yT i j):=jT λz=>h<|WN z;rcases YB ls (k+1)with⟨h1,h2⟩ |⟨p,l',h1,h2,a,b⟩
   ·left
    calc#[?_,by rw[e];calc h2];show((l.i==i&&l.j==j) ||zM ls i j)=false;rw[h1,rM];rw[dM];intro z;rw[cC,cP,cP]at z;exact h z
   ·right
    calc#[p+1,l',h1,h2,a,?_];rw[e,b]
    congr 2
    lia
theorem vO{κ:Type} [DecidableEq κ] {kvs:List (κ×V)} {k:κ} (h:yB kvs k=none):qJ kvs k v=kvs++[(k,v)]:=by
 unfold qJ;rw[aH];intro z;obtain⟨x,hx,hk⟩:=fG.mp z;unfold yB at h;rw[rS,List.find?_eq_none]at h;exact h x hx hk
theorem PX{t:List Ln}{k:Nat}(h:k<=ls.length)(x:Wt):jG (ls++t) k x=jG ls k x:=by
 cases x with
 |ps l=>rfl
 |n i=>
  show(if 0<=i/\i<(k:Int)then((ls++t)[i.toNat]?).map λl=>(l.i,l.j)else none)=(if 0<=i/\i<(k:Int)then(ls[i.toNat]?).map λl=>(l.i,l.j)else none)
  by_cases hi:0<=i/\i<(k:Int)
  ·rw[aT hi,aT hi,bM ()]
  ·rw[aH hi,aH hi]
theorem AE{t:List Ln}{k:Nat}(h:k<=ls.length):jC rows bB (ls++t) k l=jC rows bB ls k l:=by
 let e:jG (ls++t) k=jG ls k:=funext λx=>PX h x
 unfold jC uU;rw[e]
theorem qZ{k:Nat}(h:jC rows bB ls k l=true):(0<=l.i/\l.i<2*(rows.length:Int))/\0<=l.j/\l.j<2*(rows.length:Int):=by
 unfold jC at h;split at h
 ·cases h
 ·rename_i hn
  simp only[not_or,Classical.not_not]at hn;exact hn
structure NX(rows:List Rw)(bB:List xT)(ls:List Ln):Prop where
 snd:∀(k:Nat)(l:Ln),ls[k]?=some l->jC rows bB ls k l=true
 dis:∀(a b:Nat)(x y:Ln),ls[a]?=some x->ls[b]?=some y->x.i=y.i->x.j=y.j->a=b
 siz:∀l∈ls,OW l.as
theorem NX.put(h:NX rows bB ls)(hn:zM ls l.i l.j=false)(hs:jC rows bB ls ls.length l=true)(ho:OW l.as):NX rows bB (ls++[l]):=by
 let no:∀(a:Nat)(x:Ln),ls[a]?=some x->x.i=l.i->x.j=l.j->False:=λa x hx h1 h2=>by
  have :=fK.mpr #[a,x,hx,h1,h2];rw[hn]at this;cases this
 let sp:∀(a:Nat)(x:Ln),(ls++[l])[a]?=some x->ls[a]?=some x\/a=ls.length/\x=l:=λa x hx=>by
  by_cases ha:a<ls.length
  ·rw[bM ha]at hx;exact .inl hx
  ·let d:=(aD.mp hx).1;rw[aK,bP]at d;let e:a=ls.length:=by lia
   subst e;rw[bS<|aG _,iG]at hx;cases hx;exact .inr #[rfl,rfl]
 refine#[λk x hx=>?_,λa b x y hx hy h1 h2=>?_,λx hx=>?_]
 ·rcases sp k x hx with hx |⟨rfl,rfl⟩
  ·let hk:=(aD.mp hx).1;rw[AE ()];exact h.snd k x hx
  ·rw[AE<|aG _];exact hs
 ·rcases sp a x hx with oM |⟨m,ex⟩
  ·rcases sp b y hy with c |⟨f,g⟩
   ·exact h.dis a b x y oM c h1 h2
   ·rw[g]at h1 h2;exact(no a x oM h1 h2).elim
  ·rcases sp b y hy with c |⟨f,g⟩
   ·rw[ex]at h1 h2;exact(no b y c h1.symm h2.symm).elim
   ·rw[m,f]
 ·rcases bJ.mp hx with hx |hx
  ·exact h.siz x hx
  ·rw[aP.mp hx];exact ho
theorem XH:∀{l m:List Int},l.Nodup->(∀x∈l,x∈m)->l.length<=m.length
 |[],m,_,_=>cS _
 |x::l,m,hn,hs=>by
  let hx:x∈m:=hs x aV;let a:=fS.mp hn;have :=XH (l:=l) (m:=m.erase x) a.2 λy hy=>by
   let b:=hs y<|aW _ hy;let mX:y≠x:=λe=>a.1 (by rw[←e];calc hy)
   exact(List.mem_erase_of_ne mX).mpr b
  rw[List.length_erase_of_mem hx]at this;have :=rV hx;rw[bG];lia
theorem NX.len(h:NX rows bB ls):ls.length<=(2*rows.length)*(2*rows.length):=by
 let hr:∀l∈ls,(0<=l.i/\l.i<2*(rows.length:Int))/\0<=l.j/\l.j<2*(rows.length:Int):=λl hl=>by
  obtain⟨p,hp,e⟩:=cQ hl;exact qZ (h.snd p l (by rw[aA hp,e]))
 generalize hn:2*rows.length=n;let d:2*(rows.length:Int)=(n:Int):=by lia
 rw[d]at hr;have :=XH (l:=ls.map λl=>l.i*n+l.j) (m:=(List.range<|n*n).map λi:Nat=>(i:Int)) ?_ λx hx=>?_
 ·rwa[aC,aC,bU]at this
 ·refine cH.mpr λa b ha hb g e=>?_
  rw[aC]at ha hb;rw[dJ,dJ]at e;let c:=hr _<|bT ha;let f:=hr _<|bT hb;let hi:ls[a].i=ls[b].i:=by
   let k:(ls[a].i*n+ls[a].j)/n=ls[a].i:=by
    rw[Int.add_comm,Int.add_mul_ediv_right _ _ (),Int.ediv_eq_zero_of_lt c.2.1 c.2.2,Int.zero_add]
   let o:(ls[b].i*n+ls[b].j)/n=ls[b].i:=by
    rw[Int.add_comm,Int.add_mul_ediv_right _ _ (),Int.ediv_eq_zero_of_lt f.2.1 f.2.2,Int.zero_add]
   rw[←k,e,o]
  let q:ls[a].j=ls[b].j:=by rw[hi]at e;lia
  have :=h.dis a b _ _ (aA ha) (aA hb) hi q;lia
 ·obtain⟨l,hl,rfl⟩:=bH.mp hx;let c:=hr l hl;let b1:l.i*n+l.j<n*n:=by
   have :l.i*n<=(n-1)*n:=Int.mul_le_mul_of_nonneg_right () ();rw[Int.sub_mul,Int.one_mul]at this;lia
  let r:0<=l.i*n:=Int.mul_nonneg c.1.1 ();rw[bH];exact#[(l.i*n+l.j).toNat,by rw[bL];lia,()]
structure MkA(n:Nat)(hp:Nat->Nat->Bool)(as:List Nat):Prop where
 len:as.length=n
 bit:∀(a c:Nat),as[a]?=some c->∀b,c.testBit b=hp a b
theorem MkA.put{c:Nat}{hp hp':Nat->Nat->Bool}{as:List Nat}(h:MkA n hp as)(hc:as[a]?=some c)(e:∀x y,hp' x y=(hp x y ||(x==a&&y==b))):MkA n hp' (as.set a<|c|||2^b):=by
 let la:=(aD.mp hc).1;calc#[by rw[mH];exact h.len,λx d hx y=>?_];rw[e];by_cases ex:a=x
 ·subst ex;rw[fW la]at hx;cases hx;rw[sS,h.bit a c hc,lT];simp only[dI,oP]
  congr 1
  rw[cF,bZ,cP];exact eq_comm
 ·rw[fM ex]at hx;have :(x==a)=false:=cG.mpr<|cE ex;rw[h.bit x d hx,this,eX,rM]
structure pX where
 r:Addr
 la:Addr
 pa:Addr
 aa:Addr
 ba:Addr
noncomputable def rZ(g:pX):List (Str×V):=[("lines",.ref g.la),("places",.ref g.pa),("above",.ref g.aa),("below",.ref g.ba)]
structure OJ(K:W.Frag)(C:Addr):Prop where
 cl:LG K C
 nL:lY K C "lines"
 nP:lY K C "places"
 nA:lY K C "above"
 nB:lY K C "below"
theorem NI(g:pX):(rZ g).lookup ("lines":Str)=some (.ref g.la):=by
 unfold rZ;rw[bO,show(("lines":Str)=="lines")=true by decide+kernel]
theorem su(g:pX):(rZ g).lookup ("places":Str)=some (.ref g.pa):=by
 unfold rZ;rw[bO,show(("places":Str)=="lines")=false by decide+kernel,bO,show(("places":Str)=="places")=true by decide+kernel]
theorem WV(g:pX):(rZ g).lookup ("above":Str)=some (.ref g.aa):=by
 unfold rZ;rw[bO,show(("above":Str)=="lines")=false by decide+kernel,bO,show(("above":Str)=="places")=false by decide+kernel,bO,show(("above":Str)=="above")=true by decide+kernel]
theorem sw(g:pX):(rZ g).lookup ("below":Str)=some (.ref g.ba):=by
 unfold rZ;rw[bO,show(("below":Str)=="lines")=false by decide+kernel,bO,show(("below":Str)=="places")=false by decide+kernel,bO,show(("below":Str)=="above")=false by decide+kernel,bO,show(("below":Str)=="below")=true by decide+kernel]
theorem qT(g:pX){x:Str}(h1:(x==("lines":Str))=false)(h2:(x==("places":Str))=false)(h3:(x==("above":Str))=false)(h4:(x==("below":Str))=false):(rZ g).lookup x=none:=by
 unfold rZ;rw[bO,h1,bO,h2,bO,h3,bO,h4];rfl
structure mL(C:Addr)(H:Hp)(g:pX)(rows:List Rw)(bB:List xT)(ls:List Ln):Prop where
 ins:∃dx,H g.r=some (.ins C dx<|rZ g)
 lin:∃ws,H g.la=some (.lst ws)/\vJ H ls ws
 plc:H g.pa=some (.dT<|sO ls 0)
 abv:∃as,H g.aa=some (.lst<|as.map nV)/\MkA (2*rows.length) (λa b=>zM ls a b) as
 blw:∃as,H g.ba=some (.lst<|as.map nV)/\MkA (2*rows.length) (λa b=>zM ls b a) as
 ne:g.la≠g.aa/\g.la≠g.ba/\g.aa≠g.ba
 ok:NX rows bB ls
def gF(g:pX)(H H':Hp):Prop:=∀b o,H b=some o->b≠g.la->b≠g.pa->b≠g.aa->b≠g.ba->H' b=some o
theorem gF.trans{g:pX}{H1 H2:Hp}(a:gF g H H1)(b:gF g H1 H2):gF g H H2:=λc o h d e f i=>b c o (a c o h d e f i) d e f i
theorem aX.g{g:pX}(a:aX H H'):gF g H H':=λc o h _ _ _ _=>a c o h
theorem mL.same{C:Addr}{g:pX}(e:aX H H')(h:mL C H g rows bB ls):mL C H' g rows bB ls:=by
 obtain⟨⟨dx,h1⟩,⟨ws,h2,b⟩,c,⟨as,d,f⟩,⟨bs,i,j⟩,k,a⟩:=h;exact#[#[dx,e _ _ h1],#[ws,e _ _ h2,bN.same e b],e _ _ c,#[as,e _ _ d,f],#[bs,e _ _ i,j],k,a]
theorem mL.tups{C:Addr}{g:pX}(h:mL C H g rows bB ls)(e:gF g H H'):cV H H':=λb xs hb=>by
 obtain⟨ws,h2,_⟩:=h.lin;obtain⟨as,a,_⟩:=h.abv;obtain⟨bs,c,_⟩:=h.blw;exact e b _ hb (jU hb h2 (by intro z;cases z)) (jU hb h.plc (by intro z;cases z)) (jU hb a (by intro z;cases z)) (jU hb c (by intro z;cases z))
theorem psAt{ps:List Int}(h:eL H (dWt<|.ps ps) v):∃a,v=.ref a/\H a=some (.tup<|ps.map V.int):=by
 obtain⟨a,us,c,b,d⟩:=h;let go:∀{ps:List Int}{us:List V},bN H (ps.map Dt.int) us->us=ps.map V.int:=λ{ps}=>by
  induction ps with
  |nil=>exact λh=>h
  |cons n ns e=>
   intro us h;obtain⟨v,r,c,b,d⟩:=h;let b:v=.int n:=b;rw[c,b,e d];rfl
 rw[go d]at b;exact#[a,c,b]
theorem atPs{a:Addr}{ps:List Int}(h:H a=some (.tup<|ps.map V.int)):eL H (dWt<|.ps ps) (.ref a):=by
 calc#[a,_,rfl,h,?_];clear h
 induction ps with
 |nil=>rfl
 |cons n ns b=>exact#[_,_,rfl,rfl,b]
theorem whyAt{x:Str}(h:eL H (JV x as) v):∃a us,v=.ref a/\H a=some (.tup (.str x::us))/\LA H as us:=by
 obtain⟨a,vs,b,c,u,r,d,h1,h2⟩:=h;let h1:u=.str x:=h1;subst h1 d;exact#[a,r,b,c,h2]
theorem rm(h:eL H (uf l) v):∃a u,v=.ref a/\H a=some (.tup [.int l.i,.int l.j,u])/\eL H (JV l.w l.as) u:=by
 obtain⟨a,vs,e,f,g,p,rfl,b,k,q,rfl,c,m,n,rfl,o,d⟩:=h;let b:g=.int l.i:=b;let c:k=.int l.j:=c;let d:n=[]:=d;subst b c d;exact#[a,m,e,f,o]
theorem atLn{i j:Int}{x:Str}{a:Addr}{u:V}(h:H a=some (.tup [.int i,.int j,u]))(hu:eL H (JV x as) u):eL H (uf #[i,j,x,as]) (.ref a):=
 #[a,_,rfl,h,_,_,rfl,rfl,_,_,rfl,rfl,_,_,rfl,hu,rfl]
theorem YI{H H':Hp}(e:cV H H'):∀{as:List Wt}{us:List V},LA H as us->LA H' as us
 |[],us,h=>h
 | .n i::as,us,h=>by
   obtain⟨v,r,b,c,d⟩:=h;exact#[v,r,b,c,YI e d]
 | .ps l::as,us,h=>by
   obtain⟨v,r,b,c,d⟩:=h;obtain⟨a,rfl,f⟩:=psAt c;exact#[_,r,b,atPs<|e _ _ f,YI e d]
theorem tY(e:cV H H'){x:Str}(h:eL H (JV x as) v):eL H' (JV x as) v:=by
 obtain⟨b,us,rfl,a,c⟩:=whyAt h;exact#[b,_,rfl,e _ _ a,_,_,rfl,rfl,YI e c]
theorem ii(e:cV H H')(h:eL H (uf l) v):eL H' (uf l) v:=by
 obtain⟨a,u,rfl,h1,h2⟩:=rm h;exact atLn (e _ _ h1)<|tY e h2
theorem uZ{H H':Hp}(e:cV H H'):∀{ls:List Ln}{us:List V},vJ H ls us->vJ H' ls us
 |[],us,h=>h
 |l::ls,us,h=>by
  obtain⟨v,r,a,b,c⟩:=h;exact#[v,r,a,ii e b,uZ e c]
theorem vR{p:Nat}(h:p<n):OF n (p:Int)=some p:=by
 unfold OF;rw[aT (),aT (),bE]
inductive LS (C:Addr) (vs:List V) (H:Hp) (Q:VK) (E:XK):Prop
 |mk (g:pX) (rows:List Rw) (bB:List xT) (ls:List Ln) (i j:Int) (_:vs=[.ref g.r,.int i,.int j]) (_:mL C H g rows bB ls) (_:zM ls i j=true) (_:∀(p:Nat)(l:Ln) H',aX H H'->ls[p]?=some l->l.i=i->l.j=j->Q (.int p) H')
inductive di (C:Addr) (vs:List V) (H:Hp) (Q:VK) (E:XK):Prop
 |mk (g:pX) (rows:List Rw) (bB:List xT) (ls:List Ln) (i j:Int) (_:vs=[.ref g.r,.int i,.int j]) (_:mL C H g rows bB ls) (_:∀H',aX H H'->Q (.bl<|zM ls i j) H')
def GrTo(C:Addr)(H:Hp)(g:pX)(rows:List Rw)(bB:List xT)(ls:List Ln)(H':Hp):Prop:=gF g H H'/\∃t,mL C H' g rows bB<|ls++t
def mZ(C:Addr)(H:Hp)(g:pX)(rows:List Rw)(bB:List xT)(ls:List Ln)(R:List Ln->Prop)(H':Hp):Prop:=gF g H H'/\∃t,mL C H' g rows bB (ls++t)/\R (ls++t)
inductive sW (C:Addr) (vs:List V) (H:Hp) (Q:VK) (E:XK):Prop
 |mk (g:pX) (rows:List Rw) (bB:List xT) (ls:List Ln) (i j:Nat) (wv:V) (x:Str) (as:List Wt) (_:vs=[.ref g.r,.int i,.int j,wv]) (_:mL C H g rows bB ls) (_:rows.length<=100) (_:eL H (JV x as) wv) (_:jC rows bB ls ls.length #[i,j,x,as]=true) (_:OW as) (_:∀H',mZ C H g rows bB ls (λL=>zM L i j=true) H'->Q .non H')
theorem FK{C:Addr}(T:OJ K C)(F:fT K "line_of" "Growth.line_of" s_f f fd):cZ P w K mg base fL 1 f fd ["self","i","j"] (LS C):=by
 refine F.okz sc_f λeO A outer s H vs Q E hr h=>?_
 obtain⟨g,rows,bB,ls,i,j,rfl,a,c,q⟩:=h;obtain⟨dx,hi⟩:=a.ins;calc#[_,have nd:=sc_f.nd;zI<|zR<|VB (xW hr) #[] #[] λ_ _=>rfl,?_];dsimp![jF];calc#[C,dx,_,hi,T.cl,T.nP,_,su g,zH (by simp),λp hp=>?_];let s1:=zB hp<|.tup [.int i,.int j];rcases YB (i:=i) (j:=j) ls 0 with⟨h1,_⟩ |⟨d,l,h1,h2,e,b⟩
 ·rw[c]at h1;cases h1
 rw[HA]at b;exact#[g.pa,rfl,_,.inr #[_,yT i j,p,.inl<|s1 _ _ a.plc,rfl,zA,b.symm],q d l _ s1 h1 h2 e]
theorem re{C:Addr}(T:OJ K C)(F:fT K "has" "Growth.has" s_H f fd):cZ P w K mg base fL 1 f fd ["self","i","j"] (di C):=by
 refine F.okz sc_H λeO A outer s H vs Q E hr h=>?_
 obtain⟨g,rows,bB,ls,i,j,rfl,a,q⟩:=h;obtain⟨dx,hi⟩:=a.ins;calc#[_,have nd:=sc_H.nd;zI<|zR<|SA (XC (xW hr) #[] #[]) (by with_unfolding_all rfl),?_];dsimp![jF,EG];calc#[zH (by simp),λp hp=>?_];let s1:=zB hp<|.tup [.int i,.int j];calc#[C,dx,_,s1 _ _ hi,T.cl,T.nP,_,su g,g.pa,rfl,_,.inr #[_,yT i j,p,.inl<|s1 _ _ a.plc,rfl,zA,rfl],?_];let e:(yB (sO ls 0)<|yT i j).isSome=zM ls i j:=by
  rcases YB (i:=i) (j:=j) ls 0 with⟨h1,h2⟩ |⟨b,l,h1,h2,c,d⟩
  ·rw[h1,h2];rfl
  ·rw[d,fK.mpr #[b,l,h1,h2,c]];rfl
 rw[e];exact q _ s1
theorem f9{C:Addr}(T:OJ K C)(bi:Bi mg)(h_H:mY P w K mg base 1 C "has" ["self","i","j"] (di C))(F:fT K "grow" "Growth.grow" s_u f fd):cZ P w K mg base fL 2 f fd ["self","i","j","why"] (sW C):=by
 refine F.okz sc_u λeO A outer s H vs Q E hr h=>?_
 obtain⟨g,rows,bB,ls,i,j,wv,x,as,rfl,G,h30,W,Y,how,q⟩:=h;let fY:=T.cl;obtain⟨dx,hi⟩:=G.ins;let eQ:=G.ok.len;let O:ls.length<=40000:=by
  have :2*rows.length*(2*rows.length)<=200*200:=jn () ();lia
 obtain⟨⟨i0,i1⟩,j0,j1⟩:=qZ Y;let i1:(i:Int)<2*(rows.length:Int):=i1;let j1:(j:Int)<2*(rows.length:Int):=j1;calc#[_,have nd:=sc_u.nd;zC #[]<|zC (ZY (xW hr) #[] #[] #[] rfl)<|zC #[]<|zC (YA #[] #[] kC #[] CG qG)<|zI<|YA #[] #[] kC #[] CG qG,?_];refine zD λN u=>?_
 dsimp![yK];calc#[_,_,hi,qT g () () () (),?_];calc#[g,rows,bB,ls,i,j,rfl,G,λH1 s1=>#[_,rfl,?_]];cases hb:zM ls i j with
 |true=>
  rw[aT rfl];exact q _ #[aX.g s1,[],by rw[cL];calc#[G.same s1,hb]]
 |false=>
  rw[aH aY];calc u _ _ ?_;clear u;replace G:=G.same s1;replace hi:=s1 _ _ hi;replace W:=eL.same s1 W;let h4':=G.plc;obtain⟨⟨_,_⟩,⟨ws,h2,Z⟩,d,⟨bs,k,h6⟩,⟨cs,e,h8⟩,⟨n1,n2,n3⟩,h10⟩:=G;let hwl:=xS Z;let hpar:g.pa≠g.r:=jU d hi (by intro z;cases z);let hlar:g.la≠g.r:=jU h2 hi (by intro z;cases z);let haar:g.aa≠g.r:=jU k hi (by intro z;cases z);let hbar:g.ba≠g.r:=jU e hi (by intro z;cases z);let I:g.pa≠g.la:=jU d h2 (by intro z;cases z);let J:g.pa≠g.aa:=jU d k (by intro z;cases z);let L:g.pa≠g.ba:=jU d e (by intro z;cases z);refine zD λN u=>?_
  dsimp![jF,AI];let sz:∀{n:Nat},n<=40000->n<sizeLine:=λh=>eE (m:=100000) () ()
  calc#[C,dx,_,hi,T.cl,T.nL,_,NI g,ws.length,.inl #[_,cO.of h2,rfl],C,dx,_,hi,T.cl,T.nP,_,su g,zH (by simp),λp hp=>?_];let s2:=zB hp<|.tup [.int (i:Int),.int (j:Int)];let kp:upd H1 p (.tup [.int (i:Int),.int (j:Int)]) p=some (.tup [.int (i:Int),.int (j:Int)]):=zA;generalize upd H1 p (.tup [.int (i:Int),.int (j:Int)])=H2 at s2 kp⊢;calc#[g.pa,rfl,_,.inr #[_,yT i j,p,s2 _ _ d,rfl,kp,by rw[IF];exact sz O,rfl],u _ _ ?_];clear u;let vn:yB (sO ls 0) (yT i j)=none:=by
   rcases YB (i:=i) (j:=j) ls 0 with⟨_,h⟩ |⟨p',l,g1,g2,D,_⟩
   ·exact h
   ·have :=fK.mpr #[p',l,g1,g2,D];rw[hb]at this;cases this
  rw[vO vn];let ep:sO ls 0++[(yT i j,V.int (ws.length:Int))]=sO (ls++[#[i,j,x,as]]) 0:=by rw[AT,HA,hwl]
  rw[ep];let D:gF g H1 (upd H2 g.pa<|.dT<|sO (ls++[#[i,j,x,as]]) 0):=λb o hb _ n _ _=>by rw[zG n];exact s2 _ _ hb
  let c:∀{b:Addr}{o:HO},H1 b=some o->b≠g.pa->upd H2 g.pa (.dT<|sO (ls++[#[i,j,x,as]]) 0) b=some o:=λhb n=>by rw[zG n];exact s2 _ _ hb
  replace hi:=c hi<|cE hpar;replace h2:=c h2<|cE I;replace k:=c k<|cE J;replace e:=c e<|cE L;clear c;replace d:upd H2 g.pa (.dT<|sO (ls++[#[i,j,x,as]]) 0) g.pa=some (.dT<|sO (ls++[#[i,j,x,as]]) 0):=zA;let t:cV H1 (upd H2 g.pa<|.dT<|sO (ls++[#[i,j,x,as]]) 0):=λb xs hb=>by
   let hb2:=s2 _ _ hb;rw[zG<|jU hb h4' (by intro z;cases z)];exact hb2
  generalize upd H2 g.pa (.dT<|sO (ls++[#[i,j,x,as]]) 0)=H3 at D hi h2 k e d t⊢;replace Z:=uZ t Z;replace W:=tY t W;clear kp s2 hp vn ep t;refine zD λN u=>?_
  dsimp![jF];calc#[C,dx,_,hi,T.cl,T.nL,_,NI g,.inl #[rfl,_,cO.of h2],zH (by simp),λpt hpt=>?_];let s2:=zB hpt<|.tup [.int (i:Int),.int (j:Int),wv];let kt:upd H3 pt (.tup [.int (i:Int),.int (j:Int),wv]) pt=some (.tup [.int (i:Int),.int (j:Int),wv]):=zA;generalize upd H3 pt (.tup [.int (i:Int),.int (j:Int),wv])=R at s2 kt⊢;calc#[g.la,rfl,_,s2 _ _ h2,sz (),u _ _ ?_];clear u;let c:∀{b:Addr}{o:HO},H3 b=some o->b≠g.la->upd R g.la (.lst<|ws++[.ref pt]) b=some o:=λhb n=>by rw[zG n];exact s2 _ _ hb
  let S:gF g H3 (upd R g.la<|.lst<|ws++[.ref pt]):=λb o hb n _ _ _=>c hb n
  let t:cV R (upd R g.la<|.lst<|ws++[.ref pt]):=(cV.refl _).upd_lst (s2 _ _ h2);let y:vJ (upd R g.la<|.lst<|ws++[.ref pt]) (ls++[#[i,j,x,as]]) (ws++[.ref pt]):=by
   calc uZ t ?_;unfold vJ;rw[aQ];exact bN.append (bN.same s2 Z)<|bN.one<|atLn kt<|eL.same s2 W
  replace hi:=c hi<|cE hlar;replace d:=c d I;replace k:=c k<|cE n1;replace e:=c e<|cE n2;let B:upd R g.la (.lst<|ws++[.ref pt]) g.la=some (.lst<|ws++[.ref pt]):=zA;replace D:=D.trans S;generalize upd R g.la (.lst<|ws++[.ref pt])=M at D hi d k e B y⊢;clear c S t kt s2 hpt h2 Z W;let li:i<bs.length:=by rw[h6.len];lia
  let lj:j<cs.length:=by rw[h8.len];lia
  let gi:=aA li;let gj:=aA lj;generalize bs[i]=U at gi;generalize cs[j]=cj at gj;let mset:∀(cs:List Nat)(i v:Nat),(cs.map nV).set i (V.int (v:Int))=(cs.set i v).map nV:=λcs i v=>(List.map_set (f:=nV) (l:=cs) (i:=i) (a:=v)).symm
  refine zD λN u=>?_
  dsimp![HJ,jF,IA,WR,QF];calc#[C,dx,_,hi,T.cl,T.nA,_,WV g,g.aa,rfl,_,i,rfl,k,nV U,by rw[aF,gi];rfl,#[(),(),()],_,rfl,g.aa,rfl,_,k,i,vR (by rw[aC];calc li),u _ _ ?_];clear u;rw[vN j,wX,mset];let bc:∀a b:Nat,(((a:Nat):Int)==((b:Nat):Int))=(b==a):=λa b=>by
   rw[cF,cP,cP];lia
  let c:∀{b:Addr}{o:HO},M b=some o->b≠g.aa->upd M g.aa (.lst<|(bs.set i<|U|||2^j).map nV) b=some o:=λhb n=>by rw[zG n];exact hb
  let S:gF g M (upd M g.aa<|.lst<|(bs.set i<|U|||2^j).map nV):=λb o hb _ _ n _=>c hb n
  let t:cV M (upd M g.aa<|.lst<|(bs.set i<|U|||2^j).map nV):=(cV.refl _).upd_lst k;replace y:=uZ t y;replace hi:=c hi<|cE haar;replace d:=c d J;replace B:=c B n1;replace e:=c e<|cE n3;let h5':upd M g.aa (.lst<|(bs.set i<|U|||2^j).map nV) g.aa=some (.lst<|(bs.set i<|U|||2^j).map nV):=zA;replace D:=D.trans S;generalize upd M g.aa (.lst<|(bs.set i<|U|||2^j).map nV)=X at D hi d h5' e B y⊢;clear c S t k;dsimp![HJ,jF,IA,WR,QF];calc#[C,dx,_,hi,T.cl,T.nB,_,sw g,g.ba,rfl,_,j,rfl,e,nV cj,by rw[aF,gj];rfl,#[(),(),()],_,rfl,g.ba,rfl,_,e,j,vR (by rw[aC];calc lj),?_];rw[vN i,wX,mset];let c:∀{b:Addr}{o:HO},X b=some o->b≠g.ba->upd X g.ba (.lst<|(cs.set j<|cj|||2^i).map nV) b=some o:=λhb n=>by rw[zG n];exact hb
  let S:gF g X (upd X g.ba<|.lst<|(cs.set j<|cj|||2^i).map nV):=λb o hb _ _ _ n=>c hb n
  let t:cV X (upd X g.ba<|.lst<|(cs.set j<|cj|||2^i).map nV):=(cV.refl _).upd_lst e;refine q _ #[((aX.g s1).trans D).trans S,[#[i,j,x,as]],#[#[#[dx,c hi<|cE hbar],#[_,c B n2,uZ t y],c d L,#[_,c h5' n3,h6.put gi λa b=>?_],#[_,zA,h8.put gj λa b=>?_],#[n1,n2,n3],h10.put hb Y how],by show zM (ls++[#[i,j,x,as]]) i j=true;rw[vD,XV];simp]]
  ·rw[vD,XV];show(zM ls a b ||(((i:Nat):Int)==((a:Nat):Int)&&((j:Nat):Int)==((b:Nat):Int)))=_;rw[bc,bc]
  ·rw[vD,XV];show(zM ls b a ||(((i:Nat):Int)==((b:Nat):Int)&&((j:Nat):Int)==((a:Nat):Int)))=_;rw[bc,bc,Bool.and_comm]
theorem YW(m:Nat):(List.replicate m [V.int 0]).flatten=(List.replicate m 0).map nV:=by
 induction m with
 |zero=>rfl
 |succ m a=>
  rw[fU,nO,a,fU,bY];rfl
theorem TQ(n:Nat)(hp:Nat->Nat->Bool)(h:∀a b,hp a b=false):MkA n hp (List.replicate n 0):=#[gG ..,λa c hc b=>by
 obtain⟨_,e⟩:=aD.mp hc;rw[List.getElem_replicate]at e;subst e;rw[h];simp]
inductive n8 (C:Addr) (vs:List V) (H:Hp) (Q:VK) (E:XK):Prop
 |mk (r dx:Addr) (rows:List Rw) (bB:List xT) (_:vs=[.ref r,.int ((2*rows.length:Nat):Int)]) (_:H r=some (.ins C dx [])) (_:rows.length<=100) (_:∀(g:pX) H',g.r=r->gQ r H H'->H g.la=none->H g.pa=none->H g.aa=none->H g.ba=none->mL C H' g rows bB []->Q .non H')
theorem xE{r l:Addr}{o:HO}(e:gQ r H H')(h:H l=none):gQ r H (upd H' l o):=λb u hb n=>by
 have :b≠l:=λz=>by rw[z,h]at hb;cases hb
 rw[zG this];exact e b u hb n
theorem qH{r l:Addr}(e:gQ r H H')(h:H' l=none)(n:l≠r):H l=none:=by
 cases hl:H l with
 |none=>rfl
 |some o=>have :=e l o hl n;rw[h]at this;cases this
theorem SU{C:Addr}(T:OJ K C)(F:fT K "__init__" "Growth.__init__" s_p f fd):cZ P w K mg base fL 1 f fd ["self","many"] (n8 C):=by
 refine F.okz sc_p λeO A outer s H vs Q E hr h=>?_
 obtain⟨r,dx,rows,bB,rfl,iO,h30,q⟩:=h;generalize hn:2*rows.length=n at q;let n60:n<=200:=by lia
 let step:∀{H':Hp}{b:Addr}{u:HO},H' r=some u->H' b=none->b≠r:=λh1 h2 z=>by rw[z,h1]at h2;cases h2
 calc#[_,have nd:=sc_p.nd;zC (kN #[] #[] rfl)<|zC (kN #[] AW rfl)<|zC (kN #[] (yZ VC #[] #[]) rfl)<|zI<|kN #[] (yZ VC #[] #[]) rfl,?_];refine zD λN j=>?_
 dsimp![EO];calc#[zH (by simp),λla t=>?_];let nla:=step iO t;calc#[C,dx,[],by rw[zG<|cE nla];exact iO,T.cl,T.nL,(),j _ _ ?_];clear j;let x1:gQ r H (upd (upd H la<|.lst []) r<|.ins C dx<|yP "lines" (.ref la) []):=gQ.upd<|xE (gQ.refl r H) t;let k1:upd (upd H la<|.lst []) r (.ins C dx<|yP "lines" (.ref la) []) r=some (.ins C dx<|yP "lines" (.ref la) []):=zA;let l1:upd (upd H la<|.lst []) r (.ins C dx<|yP "lines" (.ref la) []) la=some (.lst []):=by rw[zG nla];exact zA
 generalize upd (upd H la<|.lst []) r (.ins C dx<|yP "lines" (.ref la) [])=H1 at x1 k1 l1⊢;refine zD λN j=>?_
 dsimp![EO,EF];refine λpa nX=>?_
 let npa:=step k1 nX;let m:=qH x1 nX npa;calc#[C,dx,_,by rw[zG<|cE npa];exact k1,T.cl,T.nP,by show 1<1000;decide,j _ _ ?_];clear j;let npl:pa≠la:=λz=>by rw[z,l1]at nX;cases nX
 let O:gQ r H (upd (upd H1 pa<|.dT []) r<|.ins C dx<|yP "places" (.ref pa)<|yP "lines" (.ref la) []):=gQ.upd<|xE x1 m;let R:upd (upd H1 pa<|.dT []) r (.ins C dx<|yP "places" (.ref pa)<|yP "lines" (.ref la) []) r=some (.ins C dx<|yP "places" (.ref pa)<|yP "lines" (.ref la) []):=zA;let S:upd (upd H1 pa<|.dT []) r (.ins C dx<|yP "places" (.ref pa)<|yP "lines" (.ref la) []) la=some (.lst []):=by rw[zG nla,zG<|cE npl];exact l1
 let p2:upd (upd H1 pa<|.dT []) r (.ins C dx<|yP "places" (.ref pa)<|yP "lines" (.ref la) []) pa=some (.dT []):=by rw[zG npa];exact zA
 generalize upd (upd H1 pa<|.dT []) r (.ins C dx<|yP "places" (.ref pa)<|yP "lines" (.ref la) [])=H2 at O R S p2⊢;refine zD λN j=>?_
 dsimp![EO,RI];calc#[zH (by simp),λi oC=>#[[V.int 0],zA,(),(),zH (by simp;lia),λaa d=>?_]];let v:=step R oC;let B:aa≠i:=λz=>by rw[z,zA]at d;cases d
 rw[zG B]at d;let naa:=step R d;calc#[C,dx,_,by rw[zG<|cE naa,zG<|cE v];exact R,T.cl,T.nA,by show 2<1000;decide,j _ _ ?_];clear j;rw[bE,YW];let nal:aa≠la:=λz=>by rw[z,S]at d;cases d
 let nap:aa≠pa:=λz=>by rw[z,p2]at d;cases d
 let n0l:i≠la:=λz=>by rw[z,S]at oC;cases oC
 let n0p:i≠pa:=λz=>by rw[z,p2]at oC;cases oC
 let o:=qH O d naa;let D:=qH O oC v;generalize G:yP "above" (V.ref aa) (yP "places" (V.ref pa)<|yP "lines" (V.ref la) [])=g;let U:gQ r H (upd (upd (upd H2 i<|.lst [.int 0]) aa<|.lst<|(List.replicate n 0).map nV) r<|.ins C dx g):=gQ.upd<|xE (xE O D) o;let W:upd (upd (upd H2 i<|.lst [.int 0]) aa<|.lst<|(List.replicate n 0).map nV) r (.ins C dx g) r=some (.ins C dx g):=zA;let X:upd (upd (upd H2 i<|.lst [.int 0]) aa<|.lst<|(List.replicate n 0).map nV) r (.ins C dx g) la=some (.lst []):=by rw[zG nla,zG<|cE nal,zG<|cE n0l];exact S
 let Y:upd (upd (upd H2 i<|.lst [.int 0]) aa<|.lst<|(List.replicate n 0).map nV) r (.ins C dx g) pa=some (.dT []):=by rw[zG npa,zG<|cE nap,zG<|cE n0p];exact p2
 let Z:upd (upd (upd H2 i<|.lst [.int 0]) aa<|.lst<|(List.replicate n 0).map nV) r (.ins C dx g) aa=some (.lst<|(List.replicate n 0).map nV):=by rw[zG naa];exact zA
 generalize upd (upd (upd H2 i<|.lst [.int 0]) aa<|.lst<|(List.replicate n 0).map nV) r (.ins C dx g)=H3 at U W X Y Z⊢;dsimp![EO,RI];calc#[zH (by simp),λq0 e=>#[[V.int 0],zA,(),(),zH (by simp;lia),λba c=>?_]];let I:=step W e;let J:ba≠q0:=λz=>by rw[z,zA]at c;cases c
 rw[zG J]at c;let nba:=step W c;calc#[C,dx,_,by rw[zG<|cE nba,zG<|cE I];exact W,T.cl,T.nB,by rw[←G];show 3<1000;decide,?_];rw[bE,YW];let nbl:ba≠la:=λz=>by rw[z,X]at c;cases c
 let nbp:ba≠pa:=λz=>by rw[z,Y]at c;cases c
 let L:ba≠aa:=λz=>by rw[z,Z]at c;cases c
 let n1l:q0≠la:=λz=>by rw[z,X]at e;cases e
 let n1p:q0≠pa:=λz=>by rw[z,Y]at e;cases e
 let n1a:q0≠aa:=λz=>by rw[z,Z]at e;cases e
 let p:=qH U c nba;let M:=qH U e I;rw[←G];refine q #[r,la,pa,aa,ba] _ rfl (gQ.upd<|xE (xE U M) p) t m o p #[#[dx,zA],#[[],?_,rfl],?_,#[_,?_,TQ _ _ λa b=>rfl],#[_,?_,TQ _ _ λa b=>rfl],#[cE nal,cE nbl,cE L],#[λk l h=>(by cases h),λa b x y h=>(by cases h),λl h=>(by cases h)]]
 ·show upd _ r _ la=_;rw[zG nla,zG<|cE nbl,zG<|cE n1l];exact X
 ·show upd _ r _ pa=_;rw[zG npa,zG<|cE nbp,zG<|cE n1p];exact Y
 ·show upd _ r _ aa=_;rw[zG naa,zG<|cE L,zG<|cE n1a,hn];exact Z
 ·show upd _ r _ ba=_;rw[zG nba,zA,hn]
abbrev om:Stmt:=top 31
theorem jx:bV ["growth","sheet","n","k","row"] ["growth","sheet"] (zF om):=by rfl'
abbrev s_q:Stmt:=top 32
theorem sc_q:bV ["sheet","boths","k","row"] ["sheet"] (zF s_q):=by rfl'
abbrev s_h:Stmt:=top 33
theorem sc_h:bV ["rules","waiting","r","rule","premise"] ["rules"] (zF s_h):=by rfl'
theorem mZ.to{C:Addr}{g:pX}(h:mZ C H g rows bB ls R H'):GrTo C H g rows bB ls H':=by
 obtain⟨h1,t,h2,_⟩:=h;exact#[h1,t,h2]
theorem mZ.same{C:Addr}{H'':Hp}{g:pX}(h:mZ C H g rows bB ls R H')(e:aX H' H''):mZ C H g rows bB ls R H'':=by
 obtain⟨h1,t,h2,a⟩:=h;exact#[h1.trans<|aX.g e,t,h2.same e,a]
theorem mZ.pre{C:Addr}{H'':Hp}{g:pX}(e:aX H H')(h:mZ C H' g rows bB ls R H''):mZ C H g rows bB ls R H'':=by
 obtain⟨h1,h2⟩:=h;exact#[(aX.g e).trans h1,h2]
theorem mZ.refl{C:Addr}{g:pX}(h:mL C H g rows bB ls)(hR:R ls):mZ C H g rows bB ls R H:=#[λ_ _ hb _ _ _ _=>hb,[],by rw[cL];calc#[h,hR]]
def Le(ls L:List Ln):Prop:=∃t,L=ls++t
theorem Le.refl(ls:List Ln):Le ls ls:=#[[],(cL _).symm]
theorem Le.trans{a b c:List Ln}(h:Le a b)(h':Le b c):Le a c:=by
 obtain⟨t,rfl⟩:=h;obtain⟨t',rfl⟩:=h';exact#[t++t',by rw[dD]]
theorem Le.has{a b:List Ln}(h:Le a b){i j:Int}(hh:zM a i j=true):zM b i j=true:=by
 obtain⟨t,rfl⟩:=h;rw[vD,hh,HB]
theorem mZ.then{C:Addr}{H'':Hp}{g:pX}{t:List Ln}{R':List Ln->Prop}(h:gF g H H')(h':mZ C H' g rows bB (ls++t) R H'')(i:∀L,Le (ls++t) L->R L->R' L):mZ C H g rows bB ls R' H'':=by
 obtain⟨h1,t',h2,a⟩:=h';rw[dD]at h2 a;exact#[h.trans h1,t++t',h2,i _ #[t',by rw[dD]] a]
def JZ(g:pX)(a:Addr):Prop:=a≠g.la/\a≠g.pa/\a≠g.aa/\a≠g.ba
theorem gF.out{g:pX}{a:Addr}{o:HO}(e:gF g H H')(n:JZ g a)(h:H a=some o):H' a=some o:=e a o h n.1 n.2.1 n.2.2.1 n.2.2.2
theorem PJ{x:Str}(hi:i<2*rows.length)(hj:j<2*rows.length)(hx:x≠"rule")(hn:IW x=some 0)(h:yO rows i j x []=true):jC rows bB ls ls.length #[i,j,x,[]]=true:=by
 unfold jC;rw[aH (by
  intro z;rcases z with z |z
  ·exact z #[by show(0:Int)<=(i:Int);lia,by show(i:Int)<_;lia]
  ·calc z #[by show(0:Int)<=(j:Int);lia,by show(j:Int)<_;lia]),aH hx,aT #[hn,rfl]]
 exact h
theorem ow0:OW []:=#[by simp,λps h=>by cases h]
theorem wH{C:Addr}{H2:Hp}{g:pX}{t:List Ln}(hs:gF g H H')(hg:mL C H' g rows bB (ls++t))(iF:rows.length<=100)(e:aX H' H2){x:Str}{wv:V}(hw:eL H2 (JV x as) wv)(hst:jC rows bB (ls++t) (ls++t).length #[i,j,x,as]=true)(ho:OW as){Q:VK}{E:XK}(hR:∀L,Le (ls++t) L->zM L i j=true->R L)(q:∀v H3,mZ C H g rows bB ls R H3->Q v H3):
 sW C [.ref g.r,.int i,.int j,wv] H2 Q E:=
 #[g,rows,bB,_,i,j,wv,x,as,rfl,hg.same e,iF,hw,hst,ho,λH3 a=>q _ _<|mZ.then (hs.trans<|aX.g e) a hR]
theorem vE{C:Addr}{g:pX}{t:List Ln}(hs:gF g H H')(hg:mL C H' g rows bB (ls++t))(iF:rows.length<=100)(hi:i<2*rows.length)(hj:j<2*rows.length){x:Str}(hx:x≠"rule")(hn:IW x=some 0)(hst:yO rows i j x []=true)(hp:H' p=none){Q:VK}{E:XK}(hR:∀L,Le (ls++t) L->zM L i j=true->R L)(q:∀v H2,mZ C H g rows bB ls R H2->Q v H2):
 sW C [.ref g.r,.int i,.int j,.ref p] (upd H' p<|.tup [.str x]) Q E:=
 wH hs hg iF (zB hp _) (x:=x) (as:=[]) #[p,_,rfl,zA,_,_,rfl,rfl,rfl] (PJ hi hj hx hn hst) ow0 hR q
structure Pl(rows:List Rw)(n m:Nat)(L:List Ln):Prop where
 same:∀x:Nat,x<n->zM L x x=true
 low:∀x:Nat,x<n->zM L 0 x=true
 high:∀x:Nat,x<n->zM L x 1=true
 part:∀(k:Nat)(a b:Int),k<m->rows[k]?=some (.bo a b)->zM L ((2*k:Nat):Int) a=true/\zM L ((2*k:Nat):Int) b=true
theorem Pl.le{m:Nat}{L L':List Ln}(h:Pl rows n m L)(e:Le L L'):Pl rows n m L':=#[λx hx=>e.has<|h.same x hx,λx hx=>e.has<|h.low x hx,λx hx=>e.has<|h.high x hx,λk a b hk hr=>#[e.has (h.part k a b hk hr).1,e.has (h.part k a b hk hr).2]]
inductive spBe (K:W.Frag) (C:Addr) (vs:List V) (H:Hp) (Q:VK) (E:XK):Prop
 |mk (g:pX) (sa:Addr) (us:List V) (rows:List Rw) (bB:List xT) (_:vs=[.ref g.r,.ref sa]) (_:mL C H g rows bB []) (_:rows.length<=100) (_:H sa=some (.lst us)) (_:gJ K H rows us) (_:JZ g sa) (_:qP rows) (_:∀H',mZ C H g rows bB [] (Pl rows (2*rows.length) rows.length) H'->Q .non H')
theorem TB{C:Addr}(T:OJ K C)(bi:Bi mg)(be:mg "enumerate"=none)(h_u:mY P w K mg base 2 C "grow" ["self","i","j","why"] (sW C))(F:fT K "begin" "begin" om f fd):cZ P w K mg base fL 3 f fd ["growth","sheet"] (spBe K C):=by
 refine F.okz jx λeO A outer s H vs Q E hr h=>?_
 obtain⟨g,sa,us,rows,bB,rfl,hg,iF,mS,oN,J,mF,q⟩:=h;let W:=oN.len;let fY:=T.cl;let X:(rZ g).lookup ("grow":Str)=none:=qT g () () () ();calc#[_,have nd:=jx.nd;#[],?_];refine zK (λσ H'=>∃(O S U:Option V),mZ C H g rows bB [] (Pl rows (2*rows.length) 0) H'/\σ=[some<|V.ref g.r,some<|V.ref sa,O,S,U]) (λN hN=>?_) λσ H' h=>?_
 ·dsimp![];calc#[us.length,.inl #[_,cO.of mS,rfl],.inl #[(),()],(),(),?_];refine XY (n:=(2*(us.length:Int)).toNat) (λi σ H'=>∃(O S U:Option V),mZ C H g rows bB [] (Pl rows i 0) H'/\σ=[some<|V.ref g.r,some<|V.ref sa,O,S,U]) #[_,_,_,mZ.refl hg #[λx hx=>(),λx hx=>(),λx hx=>(),λk a b hk=>()],rfl] (λi σ H' hi h M Y=>?_) λσ H' h=>?_
  rotate_left
  ·rw[show(2*(us.length:Int)).toNat=2*rows.length by lia]at h;exact hN _ _ h
  obtain⟨O,S,U,⟨u,t,gt,G⟩,rfl⟩:=h;let I:i<2*rows.length:=by lia
  let e0:(0:Int)+(i:Int)=((i:Nat):Int):=by lia
  show LQ _ _ _ _ _;refine zD λN2 v=>?_
  dsimp![yK];rw[e0];obtain⟨dx,eM⟩:=gt.ins;calc#[_,_,eM,X,zH (by simp),λp hp=>vE u gt iF I I (x:="same") () rfl (by unfold yO;rw[aT rfl];simp) hp (R:=λL=>Pl rows i 0 L/\zM L i i=true) (λL e h=>#[G.le e,h]) λ_ H2 Z=>v _ _ ?_];clear v eM u gt;obtain⟨u,t,gt,G,iR⟩:=Z;obtain⟨dx,eM⟩:=gt.ins;refine zD λN2 v=>?_
  dsimp![yK];calc#[_,_,eM,X,zH (by simp),λp hp=>vE (i:=0) u gt iF () I (x:="edge") () rfl (by unfold yO;rw[aH (),aT rfl];simp) hp (R:=λL=>Pl rows i 0 L/\zM L i i=true/\zM L 0 i=true) (λL e h=>#[G.le e,e.has iR,h]) λ_ H2 Z=>v _ _ ?_];clear v eM u gt;obtain⟨u,t,gt,G,iR,iP⟩:=Z;obtain⟨dx,eM⟩:=gt.ins;dsimp![yK];refine#[_,_,eM,X,zH (by simp),λp hp=>vE (j:=1) u gt iF I () (x:="edge") () rfl (by unfold yO;rw[aH (),aT rfl];simp) hp (R:=Pl rows (i+1) 0) (λL e h=>?_) λ_ H2 Z=>?_]
  ·let c:∀{x:Nat},x<i+1->x<i\/x=i:=λh=>by lia
   let l:=G.le e;exact#[λx hx=>(c hx).elim (l.same x) λz=>z▸e.has iR,λx hx=>(c hx).elim (l.low x) λz=>z▸e.has iP,λx hx=>(c hx).elim (l.high x) λz=>z▸h,λk a b hk=>()]
  exact Y _ _ #[_,_,_,Z,rfl]
 obtain⟨O,S,U,d,rfl⟩:=h;let hsa':=d.to.1.out J mS;dsimp![vW];calc#[_,hsa',?_];refine YF (xs:=us) (λk σ H'=>∃(O S U:Option V),mZ C H g rows bB [] (Pl rows (2*rows.length) k) H'/\σ=[some<|V.ref g.r,some<|V.ref sa,O,S,U]) #[_,_,_,d,rfl] (λk σ H' h=>?_) (λk x σ H' p hx h hp M Y=>?_) λσ H' h=>?_
 ·obtain⟨_,_,_,h,_⟩:=h;exact h.to.1.out J mS
 ·obtain⟨O,S,U,d,rfl⟩:=h;let hk:k<rows.length:=by rw[←W];exact(aD.mp hx).1
  obtain⟨r,mM,hr2⟩:=oN.get hx;let tu:=hg.tups d.to.1;obtain⟨B,x',vs,rfl,nG,o⟩:=GP.out hr2;let hxa0:=nG;replace nG:=nG.tups tu;replace d:=d.same<|zB hp<|.tup [.int k,.ref B];let D:=nG.same<|zB hp<|.tup [.int k,.ref B];let kp:upd H' p (.tup [.int k,.ref B]) p=some (.tup [.int k,.ref B]):=zA;generalize upd H' p (.tup [.int k,.ref B])=H2 at d D kp⊢;dsimp![uA,jN,uK,yK];calc#[[.int k,.ref B],cW.of kp,rfl,.int k,[.ref B],rfl,.ref B,[],rfl,rfl,B,rfl,_,D.sq,_,gR,rfl,?_];let nob:∀{L:List Ln},(∀a b,r≠.bo a b)->Pl rows (2*rows.length) k L->Pl rows (2*rows.length) (k+1) L:=λhno h=>#[h.same,h.low,h.high,λm a b hm iO=>by
   rcases iI (nK hm)with z |z
   ·exact h.part m a b z iO
   ·subst z;rw[mM]at iO;cases iO;calc absurd rfl<|hno a b]
  let weak:∀{R R':List Ln->Prop}{H'},(∀L,R L->R' L)->mZ C H g rows bB [] R H'->mZ C H g rows bB [] R' H':=λw h=>by
   obtain⟨h1,t,h2,h3⟩:=h;exact#[h1,t,h2,w _ h3]
  cases r with
  |no=>
   obtain⟨rfl,rfl⟩:=o;rw[aH (by intro z;calc absurd (V.str.inj z) ())];exact Y _ _ #[_,_,_,weak (λL=>nob λa b z=>by cases z) d,rfl]
  |nm y=>
   obtain⟨rfl,rfl⟩:=o;rw[aH (by intro z;calc absurd (V.str.inj z) ())];exact Y _ _ #[_,_,_,weak (λL=>nob λa b z=>by cases z) d,rfl]
  |bo i j=>
   obtain⟨rfl,rfl⟩:=o;rw[aT rfl];obtain⟨⟨b1,b2⟩,b3,b4⟩:=mF k i j mM;obtain⟨a,rfl⟩:∃a:Nat,i=(a:Int):=#[i.toNat,()]
   obtain⟨b,rfl⟩:∃b:Nat,j=(b:Int):=#[j.toNat,()]
   let e2:(2:Int)*(k:Int)=((2*k:Nat):Int):=by lia
   let hpt:pN rows ((2*k:Nat):Int)=[(a:Int),(b:Int)]:=wV (r:=.bo a b) () (by rw[show(((2*k:Nat):Int)/2).toNat=k by lia];calc mM);let hst:∀c:Nat,(c=a\/c=b)->yO rows ((2*k:Nat):Int) c "part" []=true:=λc hc=>by
    unfold yO;rw[aH (),aH (),aT rfl,hpt];rcases hc with rfl |rfl<;>simp
   let at2:∀{a b c:V},pI [a,b,c] 2=some c:=zU (j:=2) rfl;obtain⟨u,t,gt,G⟩:=d;obtain⟨dx,eM⟩:=gt.ins;calc#[_,_,eM,X,_,rfl,.inl #[(),()],B,rfl,_,D.sq,_,oQ,zH (by simp),λp1 iR=>?_];rw[e2];refine vE (i:=2*k) (j:=a) u gt iF () () (x:="part") () rfl (hst a<|.inl rfl) iR (R:=λL=>Pl rows (2*rows.length) k L/\zM L ((2*k:Nat):Int) a=true) (λL e h=>#[G.le e,h]) λ_ H3 g3=>?_
   let hxa3:=hxa0.tups<|hg.tups g3.1;obtain⟨u,t,gt,G,nX⟩:=g3;obtain⟨dx,eM⟩:=gt.ins;calc#[_,_,eM,X,_,rfl,.inl #[(),()],B,rfl,_,hxa3.sq,_,at2,zH (by simp),λp2 iP=>?_];rw[e2];refine vE (i:=2*k) (j:=b) u gt iF () () (x:="part") () rfl (hst b<|.inr rfl) iP (R:=Pl rows (2*rows.length)<|k+1) (λL e h=>?_) λ_ H4 g4=>Y _ _ #[_,_,_,g4,rfl]
   let l:=G.le e;calc#[l.same,l.low,l.high,λm a' b' hm iO=>?_];rcases iI (nK hm)with z |z
   ·exact l.part m a' b' z iO
   ·subst z;rw[mM]at iO;cases iO;exact#[e.has nX,h]
 ·obtain⟨_,_,_,h,rfl⟩:=h;rw[W]at h;exact q _ h
def a8(rows:List Rw)(H:Hp)(v:V):Prop:=∃(t:Addr)(k:Nat)(a b:Int),v=.ref t/\H t=some (.tup [.int<|2*(k:Int),.int a,.int b])/\rows[k]?=some (.bo a b)
theorem a8.tups(e:cV H H')(h:a8 rows H v):a8 rows H' v:=by
 obtain⟨t,k,a,b,h1,h2,c⟩:=h;exact#[t,k,a,b,h1,e _ _ h2,c]
def NZ(rows:List Rw)(H:Hp)(qs:List Addr)(n:Nat):Prop:=∀q∈qs,∃us,H q=some (.lst us)/\us.length<=n/\∀v∈us,a8 rows H v
theorem NZ.same(e:aX H H')(h:NZ rows H qs n):NZ rows H' qs n:=λq hq=>by
 obtain⟨us,h1,h2,a⟩:=h q hq;exact#[us,e _ _ h1,h2,λv b=>(a v b).tups e.tups]
theorem NZ.put{q:Addr}(h:NZ rows H qs n)(hq:H q=some (.lst us))(hl:us.length<=n)(hus:∀v∈us,a8 rows H v)(hv:a8 rows H v):NZ rows (upd H q<|.lst<|us++[v]) qs (n+1):=λc a=>by
 let b:cV H (upd H q<|.lst<|us++[v]):=(cV.refl _).upd_lst hq;by_cases e:c=q
 ·subst e;calc#[us++[v],zA,by simp;lia,λx hx=>?_];rcases bJ.mp hx with hx |hx
  ·exact(hus x hx).tups b
  ·rw[aP.mp hx];exact hv.tups b
 ·obtain⟨oG,h1,h2,d⟩:=h c a;exact#[oG,by rw[zG e];exact h1,(),λx hx=>(d x hx).tups b]
def cc(H:Hp)(q:Addr)(m:Nat)(a b:Int):Prop:=∃(us:List V)(t:Addr),H q=some (.lst us)/\V.ref t∈us/\H t=some (.tup [.int<|2*(m:Int),.int a,.int b])
theorem cc.same{q:Addr}{m:Nat}{a b:Int}(e:aX H H')(h:cc H q m a b):cc H' q m a b:=by
 obtain⟨us,t,h1,h2,c⟩:=h;exact#[us,t,e _ _ h1,h2,e _ _ c]
theorem cc.upd{q:Addr}{m:Nat}{a b:Int}(h:cc H q m a b){q1:Addr}{us1:List V}(hq:H q1=some (.lst us1)):cc (upd H q1<|.lst<|us1++[v]) q m a b:=by
 obtain⟨us,t,h1,h2,d⟩:=h;let c:=(cV.refl H).upd_lst (o:=.lst<|us1++[v]) hq _ _ d;by_cases e:q=q1
 ·subst e;rw[hq]at h1;cases h1;exact#[_,t,zA,bW _ h2,c]
 ·exact#[us,t,(zG e).trans h1,h2,c]
def OL(rows:List Rw)(H:Hp)(qs:List Addr)(k:Nat):Prop:=∀(m:Nat)(a b:Int),m<k->rows[m]?=some (.bo a b)->∀(x:Nat)(q:Addr),((x:Int)=a\/(x:Int)=b)->qs[x]?=some q->cc H q m a b
theorem OL.same{k:Nat}(e:aX H H')(h:OL rows H qs k):OL rows H' qs k:=λm a b hm hr x q hx hq=>(h m a b hm hr x q hx hq).same e
theorem OL.upd{k:Nat}(h:OL rows H qs k){q1:Addr}{us1:List V}(hq1:H q1=some (.lst us1)):OL rows (upd H q1<|.lst<|us1++[v]) qs k:=λm a b hm hr x q hx hq=>(h m a b hm hr x q hx hq).upd hq1
theorem OL.succ{k:Nat}(h:OL rows H qs k)(hk:∀(a b:Int),rows[k]?=some (.bo a b)->∀(x:Nat)(q:Addr),((x:Int)=a\/(x:Int)=b)->qs[x]?=some q->cc H q k a b):OL rows H qs (k+1):=λm a b hm hr x q hx hq=>by
 rcases iI (nK hm)with z |z
 ·exact h m a b z hr x q hx hq
 ·subst z;exact hk a b hr x q hx hq
inductive spBo (K:W.Frag) (vs:List V) (H:Hp) (Q:VK) (E:XK):Prop
 |mk (sa:Addr) (us:List V) (rows:List Rw) (_:vs=[.ref sa]) (_:H sa=some (.lst us)) (_:gJ K H rows us) (_:rows.length<=100) (_:qP rows) (_:∀(p:Addr)(qs:List Addr)(n:Nat)(H':Hp),aX H H'->H p=none->(∀q∈qs,H q=none)->H' p=some (.lst<|qs.map V.ref)->qs.length=2*rows.length->NZ rows H' qs n->OL rows H' qs rows.length->Q (.ref p) H')
def OH(m:Nat)(H0 H:Hp)(kvs:List (List eV×V))(n:Nat):Prop:=∀kv∈kvs,∃(q:Addr)(ns:List Nat),kv.2=.ref q/\H q=some (.lst<|ns.map nV)/\H0 q=none/\ns.length<=n/\∀x∈ns,x<m
theorem OH.same{m:Nat}{H0:Hp}(e:aX H H')(h:OH m H0 H kvs n):OH m H0 H' kvs n:=λa hkv=>by
 obtain⟨q,ns,h1,h2,b⟩:=h a hkv;exact#[q,ns,h1,e _ _ h2,b]
theorem OH.upd{m:Nat}{H0:Hp}{q:Addr}{ns:List Nat}{r:Nat}(h:OH m H0 H kvs n)(hl:ns.length<=n)(hns:∀x∈ns,x<m)(hr:r<m)(hq:H0 q=none):OH m H0 (upd H q<|.lst<|ns.map nV++[nV r]) kvs (n+1):=λc hkv=>by
 obtain⟨a,b,h1,h2,d,g,f⟩:=h c hkv;by_cases e:a=q
 ·subst e;calc#[a,ns++[r],h1,by rw[zA,aQ];rfl,hq,by simp;lia,λx hx=>?_];rcases bJ.mp hx with hx |hx
  ·exact hns x hx
  ·rw[aP.mp hx];exact hr
 ·exact#[a,b,h1,(zG e).trans h2,d,(),f]
theorem tZ{κ:Type} [DecidableEq κ] {kvs:List (κ×V)} {k:κ} (h:yB kvs k=some v):∃kv∈kvs,kv.2=v:=by
 unfold yB at h;obtain⟨x,hx,e⟩:=aL.mp h;exact#[x,mr hx,e]
theorem OQ{κ:Type} [DecidableEq κ] {kvs t:List (κ×V)} {k:κ} (h:yB kvs k=some v):yB (kvs++t) k=some v:=by
 unfold yB at h⊢;obtain⟨x,hx,e⟩:=aL.mp h;rw[List.find?_append,hx];exact cM some e
theorem OR{κ:Type} [DecidableEq κ] {kvs:List (κ×V)} {k:κ} (h:yB kvs k=none):yB (kvs++[(k,v)]) k=some v:=by
 unfold yB at h⊢;rw[rS]at h;rw[List.find?_append,h];simp
theorem FS:∀{a b:List Nat},a.map nV=b.map nV->a=b
 |[],[],_=>rfl
 |[],_::_,h=>by cases h
 |_::_,[],h=>by cases h
 |x::a,y::b,h=>by
  injection h with h1 h2
  let d:=V.int.inj h1;let c:x=y:=by lia
  rw[c,FS h2]
def LB(H:Hp)(kvs:List (List eV×V))(pr:Pr)(r:Nat):Prop:=∃(q:Addr)(ns:List Nat),yB kvs (yT pr.1 pr.2)=some (.ref q)/\H q=some (.lst<|ns.map nV)/\r∈ns
theorem LB.same{pr:Pr}{r:Nat}(e:aX H H')(h:LB H kvs pr r):LB H' kvs pr r:=by
 obtain⟨q,ns,h1,h2,a⟩:=h;exact#[q,ns,h1,e _ _ h2,a]
theorem LB.app{t:List (List eV×V)}{pr:Pr}{r:Nat}(h:LB H kvs pr r):LB H (kvs++t) pr r:=by
 obtain⟨q,ns,h1,h2,a⟩:=h;exact#[q,ns,OQ h1,h2,a]
theorem LB.upd{pr:Pr}{r:Nat}(h:LB H kvs pr r){q1:Addr}{ns1:List Nat}{x:Nat}(hq:H q1=some (.lst<|ns1.map nV)):LB (upd H q1<|.lst<|ns1.map nV++[nV x]) kvs pr r:=by
 obtain⟨q,ns,h1,h2,a⟩:=h;by_cases e:q=q1
 ·subst e;rw[hq]at h2;let b:ns1=ns:=by
   have :=HO.lst.inj<|cD h2;exact FS this
  subst b;exact#[q,ns1++[x],h1,by rw[zA,aQ];rfl,bW _ a]
 ·exact#[q,ns,h1,(zG e).trans h2,a]
theorem LB.dic{pr:Pr}{r:Nat}(h:LB H kvs pr r){kvs0:List (List eV×V)}{o:HO}(hp:H p=some (.dT kvs0)):LB (L2.upd H p o) kvs pr r:=by
 obtain⟨q,ns,h1,h2,a⟩:=h;exact#[q,ns,h1,(zG λz=>by rw[z,hp]at h2;cases h2).trans h2,a]
def WaC(bB:List xT)(H:Hp)(kvs:List (List eV×V))(k m:Nat):Prop:=∀(r:Nat)(q:xT)(x:Nat)(pr:Pr),bB[r]?=some q->q.1[x]?=some pr->(r<k\/r=k/\x<m)->LB H kvs pr r
inductive spWa (vs:List V) (H:Hp) (Q:VK) (E:XK):Prop
 |mk (ra:Addr) (us:List V) (bB:List xT) (_:vs=[.ref ra]) (_:H ra=some (.lst us)) (_:bN H (bB.map l6) us) (_:bB.length<=100) (_:(∀r∈bB,r.1.length<=100)) (_:∀(p:Addr)(kvs:List (List eV×V))(n:Nat)(H':Hp),aX H H'->H p=none->H' p=some (.dT kvs)->OH bB.length H H' kvs n->WaC bB H' kvs bB.length 0->Q (.ref p) H')
theorem SZ(bi:Bi mg)(be:mg "enumerate"=none)(F:fT K "boths_by_part" "boths_by_part" s_q f fd):cZ P w K mg base fL 1 f fd ["sheet"] (spBo K):=by
 refine F.okz sc_q λeO A outer s H vs Q E hr h=>?_
 obtain⟨sa,us,rows,rfl,mS,oN,iF,mF,q⟩:=h;let hul:=oN.len;calc#[_,have nd:=sc_q.nd;zC (ZZ (i:=1) ["n"] [] [] nd rfl #[] (λ_ _ _ _ nd=>yG 0 nd) (λ_ _ _ _=>zY) λ_ _ _ _=>#[])<|zC (yD bR rfl #[] #[]<|zI<|yA #[] (zC (xJ<|qK cR dW dU jE (zP zQ #[] #[]) #[])<|zI<|xJ<|qK cR dW dU jE (zP zQ #[] #[]) #[]) zL) #[],?_];refine zD λN hN=>?_
 dsimp![];calc#[us.length,.inl #[_,cO.of mS,rfl],.inl #[(),()],(),(),?_];refine kA (lo:=0) (n:=(2*(us.length:Int)).toNat) (λi ys σ H'=>aX H H'/\(∃qs:List Addr,ys=qs.map V.ref/\qs.length=i/\(∀q∈qs,H q=none)/\NZ rows H' qs 0)/\∃o,σ=[o]) #[aX.refl _,#[[],rfl,rfl,(λq z=>by cases z),λq z=>by cases z],_,rfl] (zH ()) (λi ys σ H' e=>?_) (λi ys σ H' C hi e hC=>?_) λys σ H' e p hp=>hN _ _ ?_
 ·obtain⟨_,⟨qs,rfl,hl,_⟩,_⟩:=e;rw[aC];lia
 ·obtain⟨es,⟨qs,rfl,hl,L,D⟩,o,rfl⟩:=e;dsimp![];refine#[zH (by simp),λq0 T=>hC _ _ _ #[es.trans<|zB T _,#[qs++[q0],by rw[aQ];rfl,by simp[hl],λq hq=>?_,λq hq=>?_],_,rfl]]
  ·rcases bJ.mp hq with hq |hq
   ·exact L q hq
   ·rw[aP.mp hq];exact es.free T
  ·rcases bJ.mp hq with hq |hq
   ·exact NZ.same (zB T _) D q hq
   ·rw[aP.mp hq];exact#[[],zA,aG _,λv z=>by cases z]
 obtain⟨es,⟨qs,rfl,hl,L,D⟩,o,rfl⟩:=e;clear hN;let s1:=zB hp<|.lst<|qs.map V.ref;let k1:upd H' p (.lst<|qs.map V.ref) p=some (.lst<|qs.map V.ref):=zA;let oC:=es.free hp;let hpq:p∉qs:=λz=>by
  obtain⟨_,h1,_⟩:=D p z;rw[hp]at h1;cases h1
 replace D:=D.same s1;replace es:=es.trans s1;generalize upd H' p (.lst<|qs.map V.ref)=H1 at k1 D es⊢;let hql:qs.length=2*rows.length:=by lia
 clear s1 hp hl;refine zK (λσ H'=>∃(o1 o2:Option V)(n:Nat),aX H H'/\H' p=some (.lst<|qs.map V.ref)/\NZ rows H' qs n/\OL rows H' qs rows.length/\σ=[some<|V.ref sa,some<|V.ref p,o1,o2]) (λN hN=>?_) λσ H' h=>?_
 ·dsimp![vW];calc#[_,es _ _ mS,?_];refine YF (xs:=us) (λk σ H'=>∃(o1 o2:Option V),aX H H'/\H' p=some (.lst<|qs.map V.ref)/\NZ rows H' qs (2*k)/\OL rows H' qs k/\σ=[some<|V.ref sa,some<|V.ref p,o1,o2]) #[_,_,es,k1,D,(λm a b hm=>()),rfl] (λk σ H' h=>?_) (λk x σ H' pe hx h hpe M hM=>?_) λσ H' h=>?_
  ·obtain⟨_,_,h,_⟩:=h;exact h _ _ mS
  ·obtain⟨o1,o2,s2,u,c,d,rfl⟩:=h;let hk:k<rows.length:=by rw[←hul];exact(aD.mp hx).1
   obtain⟨r,mM,hr2⟩:=oN.get hx;obtain⟨R,x',vs,rfl,nG,G⟩:=GP.out hr2;let g:=zB hpe<|.tup [.int k,.ref R];let kp:upd H' pe (.tup [.int k,.ref R]) pe=some (.tup [.int k,.ref R]):=zA;generalize upd H' pe (.tup [.int k,.ref R])=H2 at g kp⊢;replace s2:=s2.trans g;replace u:=g _ _ u;replace c:=c.same g;replace d:=d.same g;replace nG:=nG.same s2;clear g hpe;let more:∀{a b:Nat},a<=b->NZ rows H2 qs a->NZ rows H2 qs b:=λhab h q hq=>by
    obtain⟨us,h1,h2,h3⟩:=h q hq;exact#[us,h1,(),h3]
   dsimp![uA,jN,uK];calc#[[.int k,.ref R],cW.of kp,rfl,.int k,[.ref R],rfl,.ref R,[],rfl,rfl,R,rfl,_,nG.sq,_,gR,rfl,?_];cases r with
   |no=>
    obtain⟨rfl,rfl⟩:=G;rw[aH (by intro z;calc absurd (V.str.inj z) ())];exact hM _ _ #[_,_,s2,u,more () c,d.succ (λa b z=>by rw[mM]at z;cases z),rfl]
   |nm y=>
    obtain⟨rfl,rfl⟩:=G;rw[aH (by intro z;calc absurd (V.str.inj z) ())];exact hM _ _ #[_,_,s2,u,more () c,d.succ (λa b z=>by rw[mM]at z;cases z),rfl]
   |bo i j=>
    obtain⟨rfl,rfl⟩:=G;rw[aT rfl];obtain⟨⟨b1,b2⟩,b3,b4⟩:=mF k i j mM;let hgx:∀(x:Int),0<=x->x<2*(rows.length:Int)->∃q,q∈qs/\pI (qs.map V.ref) x=some (V.ref q)/\qs[x.toNat]?=some q:=λx hx0 U=>by
     obtain⟨m,rfl⟩:=eC hx0;let hm:m<qs.length:=by lia
     calc#[qs[m],bT hm,?_];exact#[zU (by rw[aF,aA hm];rfl),by rw[bE];calc aA hm]
    obtain⟨S,W,ha1,U⟩:=hgx i b1 ();obtain⟨q2,X,ha2,hx2⟩:=hgx j b3 ();obtain⟨I,t,hl1,O⟩:=c S W;calc#[_,rfl,_,nG.sq,_,oQ,_,rfl,_,cO.of u,_,ha1,.inl #[rfl,_,cO.of t],_,rfl,.inl #[(),()],_,rfl,_,nG.sq,_,oQ,_,rfl,_,nG.sq,_,rfl,zH (),λl ht=>?_];let g:=zB ht<|.tup [.int<|2*(k:Int),.int i,.int j];let tr:a8 rows (upd H2 l<|.tup [.int<|2*(k:Int),.int i,.int j]) (.ref l):=#[l,k,i,j,rfl,zA,mM]
    let J:upd H2 l (.tup [.int<|2*(k:Int),.int i,.int j]) l=some (.tup [.int<|2*(k:Int),.int i,.int j]):=zA;generalize upd H2 l (.tup [.int<|2*(k:Int),.int i,.int j])=H3 at g tr J⊢;replace u:=g _ _ u;replace nG:=nG.same g;replace t:=g _ _ t;replace O:∀v∈I,a8 rows H3 v:=λv hv=>(O v hv).tups g.tups
    replace c:=(c.same g).put t hl1 O tr;replace d:=(d.same g).upd (v:=.ref l) t;let in1:cc (upd H3 S<|.lst<|I++[V.ref l]) S k i j:=#[_,l,zA,by simp,(cV.refl H3).upd_lst t _ _ J]
    calc#[S,rfl,I,t,jD (),?_];replace s2:=(s2.trans g).upd (o:=.lst<|I++[V.ref l]) (L S W);let n2:p≠S:=λz=>hpq<|z▸W
    replace nG:=nG.tups<|(cV.refl H3).upd_lst (o:=.lst<|I++[V.ref l]) t;replace u:upd H3 S (.lst<|I++[V.ref l]) p=_:=(zG n2).trans u;clear J t hl1 O tr g ht more;generalize upd H3 S (.lst<|I++[V.ref l])=H4 at s2 nG u c d in1⊢;obtain⟨Y,B,hl2,Z⟩:=c q2 X;calc#[_,rfl,_,nG.sq,_,rfl,_,rfl,_,cO.of u,_,ha2,.inl #[rfl,_,cO.of B],_,rfl,.inl #[(),()],_,rfl,_,nG.sq,_,oQ,_,rfl,_,nG.sq,_,rfl,zH (),λl ht=>?_];let g:=zB ht<|.tup [.int<|2*(k:Int),.int i,.int j];let tr:a8 rows (upd H4 l<|.tup [.int<|2*(k:Int),.int i,.int j]) (.ref l):=#[l,k,i,j,rfl,zA,mM]
    let J:upd H4 l (.tup [.int<|2*(k:Int),.int i,.int j]) l=some (.tup [.int<|2*(k:Int),.int i,.int j]):=zA;generalize upd H4 l (.tup [.int<|2*(k:Int),.int i,.int j])=H5 at g tr J⊢;replace u:=g _ _ u;replace B:=g _ _ B;replace Z:∀v∈Y,a8 rows H5 v:=λv hv=>(Z v hv).tups g.tups
    replace c:=(c.same g).put B hl2 Z tr;replace d:=(d.same g).upd (v:=.ref l) B;replace in1:=(in1.same g).upd (v:=.ref l) B;let in2:cc (upd H5 q2<|.lst<|Y++[V.ref l]) q2 k i j:=#[_,l,zA,by simp,(cV.refl H5).upd_lst B _ _ J]
    let n2:p≠q2:=λz=>hpq<|z▸X
    calc#[q2,rfl,Y,B,jD (),hM _ _ #[_,_,(s2.trans g).upd (L q2 X),(zG n2).trans u,c,d.succ λa b z x q' hx hq'=>?_,rfl]];rw[mM]at z;cases z;rcases hx with hx |hx
    ·rw[←hx,bE,hq']at U;cases U;exact in1
    ·rw[←hx,bE,hq']at hx2;cases hx2;exact in2
  ·obtain⟨o1,o2,s2,u,c,d,rfl⟩:=h;rw[hul]at d;exact hN _ _ #[_,_,_,s2,u,c,d,rfl]
 obtain⟨o1,o2,n,s2,u,c,d,rfl⟩:=h;dsimp![];exact q p qs n _ s2 oC L u hql c d
theorem vV(bi:Bi mg)(be:mg "enumerate"=none)(F:fT K "rules_by_premise" "rules_by_premise" s_h f fd):cZ P w K mg base fL 1 f fd ["rules"] spWa:=by
 refine F.okz sc_h λeO A outer s H vs Q E hr h=>?_
 obtain⟨ra,us,bB,rfl,X,Y,iF,hpr,q⟩:=h;let Z:=xS Y;calc#[_,have nd:=sc_h.nd;zC (xI 1 nd AW)<|zC (yD bR rfl #[] #[]<|zI<|yD bR rfl #[] #[]<|zI<|xJ<|qK cR dW dU jE (d6 (xW hr) #[] #[] #[] #[rfl,rfl,rfl,rfl]) #[]) #[],?_];refine zD λN hN=>?_
 dsimp![EF];refine λp hp=>hN _ _ ?_
 clear hN;let s1:=zB hp<|.dT [];let k1:upd H p (.dT []) p=some (.dT []):=zA;generalize upd H p (.dT [])=H1 at s1 k1⊢;let sz:∀{n:Nat},n<=40000->n<sizeLine:=λh=>eE (m:=100000) () ()
 refine zK (λσ H'=>∃(R S T:Option V)(kvs:List (List eV×V))(n:Nat),aX H H'/\H' p=some (.dT kvs)/\OH bB.length H H' kvs n/\WaC bB H' kvs bB.length 0/\σ=[some<|V.ref ra,some<|V.ref p,R,S,T]) (λN hN=>?_) λσ H' h=>?_
 ·dsimp![vW];calc#[_,s1 _ _ X,?_];refine YF (xs:=us) (λk σ H'=>∃(R S T:Option V)(kvs:List (List eV×V)),aX H H'/\H' p=some (.dT kvs)/\kvs.length<=100*k/\OH bB.length H H' kvs (100*k)/\WaC bB H' kvs k 0/\σ=[some<|V.ref ra,some<|V.ref p,R,S,T]) #[_,_,_,_,s1,k1,aG _,(λU z=>by cases z),(λr q x y _ _ hz=>()),rfl] (λk σ H' h=>?_) (λk x σ H' pe hx h hpe M hM=>?_) λσ H' h=>?_
  ·obtain⟨_,_,_,_,h,_⟩:=h;exact h _ _ X
  ·obtain⟨R,S,T,kvs,s2,O,hkl,b,a,rfl⟩:=h;let hk:k<bB.length:=by rw[←Z];exact(aD.mp hx).1
   obtain⟨r,mM,hr2⟩:=jM Y hx;let oB:=hpr r<|aS mM;obtain⟨C,xl,xb,ps,rfl,nG,hxl,hps,hxb⟩:=nrAt hr2;let iT:=xS hps;let W:=zB hpe<|.tup [.int k,.ref C];let kp:upd H' pe (.tup [.int k,.ref C]) pe=some (.tup [.int k,.ref C]):=zA;generalize upd H' pe (.tup [.int k,.ref C])=H2 at W kp⊢;replace s2:=s2.trans W;replace O:=W _ _ O;replace b:=b.same W;replace a:WaC bB H2 kvs k 0:=λr q x y h1 h2 D=>(a r q x y h1 h2 D).same W
   replace nG:=s2 _ _ nG;clear W hpe;dsimp![uA,jN,uK];calc#[[.int k,.ref C],cW.of kp,rfl,.int k,[.ref C],rfl,.ref C,[],rfl,rfl,?_];let hxl2:=s2 _ _ hxl;calc#[_,rfl,_,cW.of nG,_,gR,_,rfl,#[_,cO.of hxl2],?_];refine xP (xs:=ps) (λm σ H'=>∃(o:Option V)(kvs:List (List eV×V)),aX H H'/\H' p=some (.dT kvs)/\kvs.length<=100*k+m/\OH bB.length H H' kvs (100*k+m)/\WaC bB H' kvs k m/\σ=[some<|V.ref ra,some<|V.ref p,some<|V.int k,some<|V.ref C,o]) #[_,_,s2,O,hkl,b,a,rfl] (λm σ H' _ h=>?_) (λm x σ H' hm h M2 hM2=>?_) λσ H' h=>?_
   ·obtain⟨_,_,h,_⟩:=h;exact cO.of<|h _ _ hxl
   ·obtain⟨o,kvs,G,e,hl4,g,B,rfl⟩:=h;let hmp:m<ps.length:=(aD.mp hm).1;obtain⟨y,hpm,hpx⟩:=jM hps hm;obtain⟨xp,_,rfl,i,_,_,rfl,hv1,_,_,rfl,hv2,hv3⟩:=hpx;cases hv1;cases hv2;cases hv3;replace i:=G _ _ i;dsimp![ju,tBM];calc#[.inr #[_,.inl e],cS _,λI iR=>?_];let n1:p≠I:=λz=>by rw[z,iR]at e;cases e
    let n2:xp≠I:=λz=>by rw[z,iR]at i;cases i
    let d:=zB iR<|.lst [];refine#[kvs,d _ _ e,[.inl y.1,.inl y.2],d _ _ i,sz (),λv J=>?_,λJ=>?_]
    ·obtain⟨U,hkv,rfl⟩:=tZ J;obtain⟨L,j,h1,h2,D,h4,h5⟩:=g U hkv;let n3:p≠L:=λz=>by rw[z,h2]at e;cases e
     rw[h1];calc#[.inl #[rfl,_,cO.of<|d _ _ h2],L,rfl,_,d _ _ h2,sz (by rw[aC];lia),hM2 _ _ #[_,kvs,(G.trans d).upd D,(zG n3).trans (d _ _ e),(),OH.upd (g.same d) h4 h5 hk D,?_,rfl]];intro c q0 x l t u g3;by_cases g4:c<k\/c=k/\x<m
     ·exact((B c q0 x l t u g4).same d).upd (d _ _ h2)
     ·obtain⟨rfl,rfl⟩:c=k/\x=m:=by lia
      rw[mM]at t;cases t;rw[hpm]at u;cases u;exact#[L,j++[c],by rw[←h1];exact J,by rw[zA,aQ];rfl,by simp]
    ·let e1:upd (upd H' I<|.lst []) p (.dT<|qJ kvs [.inl y.1,.inl y.2]<|V.ref I) I=some (.lst []):=(zG n1.symm).trans zA;refine#[.inl #[rfl,_,cO.of e1],[],e1,sz (by simp),hM2 _ _ #[_,_,((G.trans d).upd hp).upd (G.free iR),(zG n1).trans zA,?_,?_,?_,rfl]]
     ·rw[vO J,aK,bP];lia
     ·calc OH.upd (ns:=[]) (n:=100*k+m) (λU hkv=>?_) (cS _) (λx z=>by cases z) hk<|G.free iR;rw[vO J]at hkv;rcases bJ.mp hkv with hkv |hkv
      ·obtain⟨L,j,h1,h2,D,h4,h5⟩:=g U hkv;let n3:L≠p:=λz=>by rw[←z,h2]at e;cases e
       exact#[L,j,h1,(zG n3).trans (d _ _ h2),D,h4,h5]
      ·rw[aP.mp hkv];exact#[I,[],rfl,e1,G.free iR,cS _,λx z=>by cases z]
     ·intro c q0 x l t u g3;by_cases g4:c<k\/c=k/\x<m
      ·let w:=(((B c q0 x l t u g4).same d).dic (d _ _ e) (o:=.dT<|qJ kvs [.inl y.1,.inl y.2]<|V.ref I)).upd (ns1:=[]) (x:=k) e1;rw[vO J]at w⊢;exact w.app
      ·obtain⟨rfl,rfl⟩:c=k/\x=m:=by lia
       rw[mM]at t;cases t;rw[hpm]at u;cases u;exact#[I,[c],by rw[vO J];exact OR J,by rw[zA];rfl,by simp]
   ·obtain⟨o,kvs,G,e,hl4,g,B,rfl⟩:=h;refine hM _ _ #[_,_,_,_,G,e,(),λU hkv=>?_,λc q0 x l t u g3=>B c q0 x l t u ?_,rfl]
    rotate_left
    ·rcases iI (show c<=k by lia)with z |z
     ·exact .inl z
     ·calc .inr #[z,?_];rw[z,mM]at t;cases t;rw[iT];exact(aD.mp u).1
    obtain⟨L,j,h1,h2,D,h4,h5⟩:=g U hkv;exact#[L,j,h1,h2,D,(),h5]
  ·obtain⟨R,S,T,kvs,s2,O,_,b,a,rfl⟩:=h;rw[Z]at a;exact hN _ _ #[_,_,_,_,_,s2,O,b,a,rfl]
 obtain⟨R,S,T,kvs,n,s2,O,b,a,rfl⟩:=h;dsimp![];exact q p kvs n _ s2 hp O b a
abbrev s_A:Stmt:=top 34
theorem sc_A:bV ["growth","i","j"] ["growth","i","j"] (zF s_A):=by rfl'
abbrev s_s:Stmt:=top 35
theorem sc_s:bV ["growth","i","j","line","m","h"] ["growth","i","j"] (zF s_s):=by rfl'
abbrev s_t:Stmt:=top 36
theorem sc_t:bV ["growth","i","boths","n","a","b"] ["growth","i","boths"] (zF s_t):=by rfl'
abbrev s_r:Stmt:=top 37
theorem sc_r:bV ["growth","i","j","n"] ["growth","i","j"] (zF s_r):=by rfl'
theorem uD{p:Nat}(h:ls[p]?=some l):jG ls ls.length (.n (p:Int))=some (l.i,l.j):=by
 let hp:=(aD.mp h).1;show(if 0<=(p:Int)/\(p:Int)<(ls.length:Int)then(ls[(p:Int).toNat]?).map λl=>(l.i,l.j)else none)=_;rw[aT #[(),()],bE,h];rfl
theorem UM{x:Str}{prs:List Pr}(hi:i<2*rows.length)(hj:j<2*rows.length)(hx:x≠"rule")(hn:IW x=some (as.length:Int))(hs:as.map (jG ls ls.length)=prs.map some)(h:yO rows i j x prs=true):jC rows bB ls ls.length #[i,j,x,as]=true:=by
 let b:(as.all λa=>(jG ls ls.length a).isSome)=true:=by
  have :(as.map<|jG ls ls.length).all (λo=>o.isSome)=true:=by rw[hs];simp
  rw[iJ]at this;exact this
 let c:as.filterMap (jG ls ls.length)=prs:=by
  have :(as.map<|jG ls ls.length).filterMap id=prs:=by rw[hs];simp[DQ]
  rw[DQ]at this;exact this
 unfold jC;rw[aH (by
  intro z;rcases z with z |z
  ·exact z #[by show(0:Int)<=(i:Int);lia,by show(i:Int)<_;lia]
  ·calc z #[by show(0:Int)<=(j:Int);lia,by show(j:Int)<_;lia]),aH hx,aT #[hn,b],c]
 exact h
theorem NX.rng(h:NX rows bB ls)(hh:zM ls i j=true):i<2*rows.length/\j<2*rows.length:=by
 obtain⟨p,l,hl,h1,h2⟩:=fK.mp hh;have :=qZ<|h.snd p l hl;lia
noncomputable def mE(n:Nat):Nat:=n+1-2*(n % 2)
theorem qE(n:Nat):sP (n:Int)=((mE n:Nat):Int):=by
 unfold sP mE;lia
theorem vL(n:Nat):mE (mE n)=n:=by
 unfold mE;lia
theorem YN{m:Nat}(h:n<2*m):mE n<2*m:=by
 unfold mE;lia
theorem zN{t:List Ln}{i j:Int}(h:zM ls i j=true):zM (ls++t) i j=true:=by
 rw[vD,h,HB]
theorem ow_n(h:as.length<=3)(hn:∀ps,Wt.ps ps∈as->False):OW as:=#[h,λps z=>(hn ps z).elim]
theorem da{p:Nat}(hi:i<2*rows.length)(hj:j<2*rows.length)(hl:ls[p]?=some l)(h1:l.i=i)(h2:l.j=j):jC rows bB ls ls.length #[(mE j:Nat),(mE i:Nat),"turn",[.n p]]=true:=by
 refine UM (prs:=[((i:Int),(j:Int))]) (YN hj) (YN hi) () rfl ?_ ?_
 ·show [jG ls ls.length<|.n (p:Int)]=_;rw[uD hl,h1,h2];rfl
 ·unfold yO;rw[aH (),aH (),aH (),aH (),aT rfl,qE,qE,vL,vL];exact dI _
theorem PK{p:Nat}(hi:i<2*rows.length)(hn:n<2*rows.length)(hj:(j:Int)=sP i)(hl:ls[p]?=some l)(h1:l.i=i)(h2:l.j=j):jC rows bB ls ls.length #[i,n,"clash",[.n p]]=true:=by
 refine UM (prs:=[((i:Int),(j:Int))]) hi hn () rfl ?_ ?_
 ·show [jG ls ls.length<|.n (p:Int)]=_;rw[uD hl,h1,h2];rfl
 ·unfold yO;rw[aH (),aH (),aH (),aH (),aH (),aH (),hj];exact dI _
theorem AF{m p p':Nat}{l':Ln}(hi:i<2*rows.length)(hm:m<2*rows.length)(hl:ls[p]?=some l)(h1:l.i=i)(h2:l.j=j)(iK:ls[p']?=some l')(h1':l'.i=j)(h2':l'.j=m):jC rows bB ls ls.length #[i,m,"chain",[.n p,.n p']]=true:=by
 refine UM (prs:=[((i:Int),(j:Int)),((j:Int),(m:Int))]) hi hm () rfl ?_ ?_
 ·show [jG ls ls.length<|.n (p:Int),jG ls ls.length<|.n (p':Int)]=_;rw[uD hl,h1,h2,uD iK,h1',h2'];rfl
 ·unfold yO;rw[aH (),aH (),aH (),aH (),aH (),aT rfl];simp
theorem dc{p p':Nat}{a b:Int}{l':Ln}(hi:i<2*rows.length)(hn:n<2*rows.length)(hpt:pN rows (n:Int)=[a,b])(hl:ls[p]?=some l)(h1:l.i=i)(h2:l.j=a)(iK:ls[p']?=some l')(h1':l'.i=i)(h2':l'.j=b):jC rows bB ls ls.length #[i,n,"both",[.n p,.n p']]=true:=by
 refine UM (prs:=[((i:Int),a),((i:Int),b)]) hi hn () rfl ?_ ?_
 ·show [jG ls ls.length<|.n (p:Int),jG ls ls.length<|.n (p':Int)]=_;rw[uD hl,h1,h2,uD iK,h1',h2'];rfl
 ·unfold yO;rw[aH (),aH (),aH (),aT rfl,hpt];exact dI _
theorem SG{p:Nat}:OW [.n p]:=ow_n (by simp) (λps z=>by simp at z)
theorem FA{p q:Nat}:OW [.n p,.n q]:=ow_n (by simp) (λps z=>by simp at z)
theorem HD{x:Str}:eL (upd H p<|.tup [.str x,.int n]) (JV x [.n n]) (.ref p):=#[p,_,rfl,zA,_,_,rfl,rfl,_,_,rfl,rfl,rfl]
theorem UD{x:Str}{m:Nat}:eL (upd H p<|.tup [.str x,.int n,.int m]) (JV x [.n n,.n m]) (.ref p):=#[p,_,rfl,zA,_,_,rfl,rfl,_,_,rfl,rfl,_,_,rfl,rfl,rfl]
theorem AC:∀(n a b:Nat),a<=n->∃d,a=(a&&&b)+d/\∀x,d.testBit x=(a.testBit x&&!b.testBit x)
 |0,a,b,h=>by
  let e:a=0:=by lia
  subst e;exact#[0,by simp,λx=>by simp]
 |n+1,a,b,h=>by
  obtain⟨d,h1,h2⟩:=AC n (a/2) (b/2) ();let g:(a&&&b)/2=a/2&&&b/2:=oZ λi=>by
   rw[hV,mG,mG,hV,hV]
  let f:decide ((a&&&b) % 2=1)=(decide (a % 2=1)&&decide (b % 2=1)):=by
   rw[←lI,←lI,←lI,mG]
  rw[←g]at h1;refine#[2*d+(if a % 2=1/\¬b % 2=1 then 1 else 0),?_,λx=>?_]
  ·let j:(a&&&b) % 2=1↔(a % 2=1/\b % 2=1):=by
    rw[cF,bZ,cC,bZ,bZ]at f;exact f
   clear g f h2;generalize a&&&b=c at h1 j⊢;split<;>lia
  ·cases x with
   |zero=>
    rw[lI,lI,lI];by_cases ha:a % 2=1<;>by_cases hb:b % 2=1<;>simp[ha,hb]<;>lia
   |succ x=>
    let k:(2*d+(if a % 2=1/\¬b % 2=1 then 1 else 0))/2=d:=by split<;>lia
    rw[←hV,k,h2,hV,hV]
theorem QN(h:∀x,a.testBit x=true->x<300):∃(m:Nat)(xs:List Nat),Builtin.bitAnd (a:Int) (Builtin.bitNot (b:Int))=(m:Int)/\sI m xs/\(∀x∈xs,x<300/\a.testBit x=true)/\∀x,a.testBit x=true->x∈xs\/b.testBit x=true:=by
 obtain⟨d,h1,h2⟩:=AC a a b<|aG _;let hd:∀x,d.testBit x=true->a.testBit x=true:=λx hx=>by
  rw[h2,cC]at hx;exact hx.1
 refine#[d,(List.range 300).filter λx=>d.testBit x,?_,#[fN _ dL,λi=>?_],λx hx=>?_,λx hx=>?_]
 ·unfold Builtin.bitAnd;rw[not_not,cN (show(0:Int)<=(a:Int) by lia),cJ (show¬(0:Int)<=Builtin.bitNot (b:Int) by unfold Builtin.bitNot;lia)];show(a:Int)-(((a:Int).toNat&&&(b:Int).toNat:Nat):Int)=_;rw[bE,bE];lia
 ·rw[cF,bZ,cK,bL];exact#[λz=>#[h _<|hd _ z,z],λz=>z.2]
 ·obtain⟨c,e⟩:=cK.mp hx;exact#[bL.mp c,hd _ e]
 ·cases hb:b.testBit x with
  |true=>exact .inr rfl
  |false=>
   left
   rw[cK,bL];exact#[h x hx,by rw[h2,hx,hb];rfl]
theorem mL.out{C:Addr}{g:pX}(h:mL C H g rows bB ls)(hp:H p=none):JZ g p:=by
 obtain⟨ws,h2,_⟩:=h.lin;obtain⟨as,b,_⟩:=h.abv;obtain⟨bs,c,_⟩:=h.blw;let go:∀{a:Addr}{o:HO},H a=some o->p≠a:=λha z=>by rw[z,ha]at hp;cases hp
 exact#[go h2,go h.plc,go b,go c]
def l9(_rows:List Rw)(_ls L:List Ln)(i j:Nat):Prop:=zM L ((mE j:Nat):Int) ((mE i:Nat):Int)=true
def bd(_rows:List Rw)(ls L:List Ln)(i j:Nat):Prop:=(∀m:Nat,zM ls j m=true->zM L i m=true)/\∀h:Nat,zM ls h i=true->zM L h j=true
def bb(rows:List Rw)(_ls L:List Ln)(i j:Nat):Prop:=(j:Int)=sP i->∀n:Nat,n<2*rows.length->zM L i n=true
def LC(H:Hp)(us:List V)(ls L:List Ln)(i:Nat):Prop:=∀(t:Addr)(m:Nat)(a b:Int),V.ref t∈us->H t=some (.tup [.int<|2*(m:Int),.int a,.int b])->zM ls i a=true->zM ls i b=true->zM L i ((2*m:Nat):Int)=true
inductive sT (R:List Rw->List Ln->List Ln->Nat->Nat->Prop) (C:Addr) (vs:List V) (H:Hp) (Q:VK) (E:XK):Prop
 |mk (g:pX) (rows:List Rw) (bB:List xT) (ls:List Ln) (i j:Nat) (_:vs=[.ref g.r,.int i,.int j]) (_:mL C H g rows bB ls) (_:rows.length<=100) (_:zM ls i j=true) (_:∀H',mZ C H g rows bB ls (λL=>R rows ls L i j) H'->Q .non H')
inductive spGB (C:Addr) (vs:List V) (H:Hp) (Q:VK) (E:XK):Prop
 |mk (g:pX) (rows:List Rw) (bB:List xT) (ls:List Ln) (i:Nat) (q:Addr) (us:List V) (_:vs=[.ref g.r,.int i,.ref q]) (_:mL C H g rows bB ls) (_:rows.length<=100) (_:i<2*rows.length) (_:H q=some (.lst us)) (_:JZ g q) (_:(∀v∈us,a8 rows H v)) (_:qP rows) (_:∀H',mZ C H g rows bB ls (λL=>LC H us ls L i) H'->Q .non H')
theorem fg{C:Addr}(T:OJ K C)(h_f:mY P w K mg base 1 C "line_of" ["self","i","j"] (LS C))(h_u:mY P w K mg base 2 C "grow" ["self","i","j","why"] (sW C))(F:fT K "grow_by_turn" "grow_by_turn" s_A f fd):cZ P w K mg base fL 3 f fd ["growth","i","j"] (sT l9 C):=by
 refine F.okz sc_A λeO A outer s H vs Q E hr h=>?_
 obtain⟨g,rows,bB,ls,i,j,rfl,a,iF,c,q⟩:=h;let fY:=T.cl;let d:(rZ g).lookup ("grow":Str)=none:=qT g () () () ();let b:(rZ g).lookup ("line_of":Str)=none:=qT g () () () ();obtain⟨dx,eM⟩:=a.ins;calc#[_,have nd:=sc_A.nd;#[],?_];dsimp![yK];obtain⟨hi,k⟩:=a.ok.rng c;calc#[_,_,eM,d,_,_,eM,b,g,rows,bB,ls,i,j,rfl,a,c,λp l H1 s1 hl h1 h2=>#[zH (),λn iR=>?_]];rw[tW,tW,qE,qE];exact wH (t:=[]) (aX.g s1) (by rw[cL];calc a.same s1) iF (zB iR _) HD (by rw[cL];calc da hi k hl h1 h2) SG (λL e h=>h) λ_ o m=>q _ m
theorem SY{C:Addr}(T:OJ K C)(bi:Bi mg)(h_N:fI P w K mg base 1 "bits_of" ["mask"] sX)(h_f:mY P w K mg base 1 C "line_of" ["self","i","j"] (LS C))(h_u:mY P w K mg base 2 C "grow" ["self","i","j","why"] (sW C))(F:fT K "grow_by_chain" "grow_by_chain" s_s f fd):cZ P w K mg base fL 3 f fd ["growth","i","j"] (sT bd C):=by
 refine F.okz sc_s λeO A outer s H vs Q E hr h=>?_
 obtain⟨g,rows,bB,ls,i,j,rfl,hg,iF,hh,q⟩:=h;let fY:=T.cl;let lk:(rZ g).lookup ("grow":Str)=none:=qT g () () () ();let S:(rZ g).lookup ("line_of":Str)=none:=qT g () () () ();obtain⟨dx,eM⟩:=hg.ins;calc#[_,have nd:=sc_s.nd;zC #[]<|zC (yD bR rfl (uH<|zV h_N hr.m rfl<|zE (yZ FE (zP zQ #[] #[])<|RU EA<|zP zQ #[] #[]) zJ) #[] #[])<|zI<|yD bR rfl (uH<|zV h_N hr.m rfl<|zE (yZ FE (zP zQ #[] #[])<|RU EA<|zP zQ #[] #[]) zJ) #[] #[],?_];refine zD λN hN=>?_
 dsimp![yK];obtain⟨hi,hj⟩:=hg.ok.rng hh;calc#[_,_,eM,S,g,rows,bB,ls,i,j,rfl,hg,hh,λp l H1 s1 hl h1 h2=>hN _ _ ?_];clear hN;refine zK (λσ H'=>∃(O R:Option V),mZ C H g rows bB ls (λL=>∀m:Nat,zM ls j m=true->zM L i m=true) H'/\σ=[some<|V.ref g.r,some<|V.int i,some<|V.int j,some<|V.int p,O,R]) (λN hN=>?_) λσ H' h=>?_
 ·dsimp![yK,jF];let U:=hg.same s1;obtain⟨dx,eM⟩:=U.ins;obtain⟨as,d,c⟩:=U.abv;let mN:i<as.length:=by rw[c.len];exact hi
  let n:j<as.length:=by rw[c.len];exact hj
  let a:=c.bit j as[j] (aA n);let o:∀x,as[j].testBit x=true->x<2*rows.length:=λx hx=>(hg.ok.rng (i:=j) (by rw[←a x];calc hx)).2
  obtain⟨m,xs,em,W,u,nG⟩:=QN (b:=as[i]) λx hx=>bQ (o x hx) ()
  let v:∀{k:Nat}(hk:k<as.length),pI (as.map nV) (k:Int)=some (V.int ((as[k]:Nat):Int)):=λ{k} hk=>zU (by rw[aF,aA hk];rfl)
  calc#[_,_,_,eM,T.cl,T.nA,_,WV g,_,rfl,_,cO.of d,_,v n,_,_,_,eM,T.cl,T.nA,_,WV g,_,rfl,_,cO.of d,_,v mN,_,rfl,_,rfl,?_];rw[em];calc#[m,xs,rfl,W,λx hx=>(u x hx).1,λpb H2 s2 y B=>?_];let ho:JZ g pb:=U.out y;replace s1:=s1.trans s2;let X:=hg.same s1;calc#[_,rfl,#[_,cO.of B],?_];refine xP (xs:=xs.map nV) (λk σ H'=>∃(O R:Option V),mZ C H2 g rows bB ls (λL=>∀x∈xs.take k,zM L i x=true) H'/\σ=[some<|V.ref g.r,some<|V.int i,some<|V.int j,some<|V.int p,O,R]) #[_,_,mZ.refl X (λx z=>by cases z),rfl] (λk σ H' _ h=>?_) (λk x σ H' hx h M hM=>?_) λσ H' h=>?_
  ·obtain⟨_,_,h,_⟩:=h;exact cO.of<|h.to.1.out ho B
  ·obtain⟨O,R,⟨gs,t,gt,hP⟩,rfl⟩:=h;rw[aF]at hx;obtain⟨D,oM,rfl⟩:=aL.mp hx;obtain⟨_,G⟩:=u D<|aS oM;let Y:zM ls j D=true:=by rw[←a D];exact G
   let Z:=o D G;obtain⟨dx,eM⟩:=gt.ins;dsimp![yK];calc#[_,_,eM,lk,_,_,eM,S,g,rows,bB,_,j,D,rfl,gt,zN Y,λp' l' H4 s4 iK I J=>#[zH (),λp1 iR=>?_]];refine wH (gs.trans<|aX.g s4) (gt.same s4) iF (zB iR _) UD (AF hi Z (by rw[bM (aD.mp hl).1];calc hl) h1 h2 iK I J) FA (λL e h x hx9=>?_) λ_ H3 g3=>hM _ _ #[_,_,g3,rfl]
   obtain⟨hkl,hke⟩:=aD.mp oM;rw[aI hkl,hke]at hx9;rcases bJ.mp hx9 with hx9 |hx9
   ·exact e.has<|hP x hx9
   ·rw[aP.mp hx9];exact h
  ·obtain⟨O,R,h,rfl⟩:=h;obtain⟨I,t,J,h3'⟩:=h;rw[aC,aU<|aG _]at h3';calc hN _ _ #[_,_,mZ.pre s1 #[I,t,J,λm hm=>?_],rfl];rw[←a m]at hm;rcases nG m hm with z |z
   ·exact h3' m z
   ·rw[c.bit i as[i] (aA mN)]at z;exact zN z
 obtain⟨O,R,⟨gs,t,gt,hP1⟩,rfl⟩:=h;let hl0:(ls++t)[p]?=some l:=by rw[bM (aD.mp hl).1];exact hl
 let hh0:zM (ls++t) i j=true:=zN hh;dsimp![yK,jF];obtain⟨dx,eM⟩:=gt.ins;obtain⟨as,d,c⟩:=gt.blw;let mN:i<as.length:=by rw[c.len];exact hi
 let n:j<as.length:=by rw[c.len];exact hj
 let a:=c.bit i as[i] (aA mN);let o:∀x,as[i].testBit x=true->x<2*rows.length:=λx hx=>(gt.ok.rng (j:=i) (by rw[←a x];calc hx)).1
 obtain⟨m,xs,em,W,u,nG⟩:=QN (b:=as[j]) λx hx=>bQ (o x hx) ()
 let v:∀{k:Nat}(hk:k<as.length),pI (as.map nV) (k:Int)=some (V.int ((as[k]:Nat):Int)):=λ{k} hk=>zU (by rw[aF,aA hk];rfl)
 calc#[_,_,_,eM,T.cl,T.nB,_,sw g,_,rfl,_,cO.of d,_,v mN,_,_,_,eM,T.cl,T.nB,_,sw g,_,rfl,_,cO.of d,_,v n,_,rfl,_,rfl,?_];rw[em];calc#[m,xs,rfl,W,λx hx=>(u x hx).1,λpb H2 s2 y B=>?_];let ho:JZ g pb:=gt.out y;let X:=gt.same s2;replace gs:=gs.trans<|aX.g s2;calc#[_,rfl,#[_,cO.of B],?_];refine xP (xs:=xs.map nV) (λk σ H'=>∃(O R:Option V),mZ C H2 g rows bB (ls++t) (λL=>∀x∈xs.take k,zM L x j=true) H'/\σ=[some<|V.ref g.r,some<|V.int i,some<|V.int j,some<|V.int p,O,R]) #[_,_,mZ.refl X (λx z=>by cases z),rfl] (λk σ H' _ h=>?_) (λk x σ H' hx h M hM=>?_) λσ H' h=>?_
 ·obtain⟨_,_,h,_⟩:=h;exact cO.of<|h.to.1.out ho B
 ·obtain⟨O,R,⟨gs',t',gt',hP⟩,rfl⟩:=h;rw[aF]at hx;obtain⟨D,oM,rfl⟩:=aL.mp hx;obtain⟨_,G⟩:=u D<|aS oM;let Y:zM (ls++t) D i=true:=by rw[←a D];exact G
  let Z:=o D G;obtain⟨dx,eM⟩:=gt'.ins;dsimp![yK];calc#[_,_,eM,lk,_,_,eM,S,g,rows,bB,_,D,i,rfl,gt',zN Y,λp' l' H4 s4 iK I J=>#[zH (),λp1 iR=>?_]];refine wH (gs'.trans<|aX.g s4) (gt'.same s4) iF (zB iR _) UD (AF Z hj iK I J (by rw[bM (aD.mp hl0).1];calc hl0) h1 h2) FA (λL e h x hx9=>?_) λ_ H3 g3=>hM _ _ #[_,_,g3,rfl]
  obtain⟨hkl,hke⟩:=aD.mp oM;rw[aI hkl,hke]at hx9;rcases bJ.mp hx9 with hx9 |hx9
  ·exact e.has<|hP x hx9
  ·rw[aP.mp hx9];exact h
 ·obtain⟨O,R,h,rfl⟩:=h;calc q _ (mZ.then gs h λL e hL=>#[λm hm=>e.has<|hP1 m hm,λh0 hh0=>?_]);rw[aC,aU<|aG _]at hL;let hm:as[i].testBit h0=true:=by rw[a h0];exact zN hh0
  rcases nG h0 hm with z |z
  ·exact hL h0 z
  ·rw[c.bit j as[j] (aA n)]at z;exact e.has z
theorem gf{C:Addr}(T:OJ K C)(h_f:mY P w K mg base 1 C "line_of" ["self","i","j"] (LS C))(h_H:mY P w K mg base 1 C "has" ["self","i","j"] (di C))(h_u:mY P w K mg base 2 C "grow" ["self","i","j","why"] (sW C))(F:fT K "grow_by_both" "grow_by_both" s_t f fd):cZ P w K mg base fL 3 f fd ["growth","i","boths"] (spGB C):=by
 refine F.okz sc_t λeO A outer s H vs Q E hr h=>?_
 obtain⟨g,rows,bB,ls,i,qa,us,rfl,hg,iF,hi,u,v,R,mF,q⟩:=h;let fY:=T.cl;let lk:(rZ g).lookup ("grow":Str)=none:=qT g () () () ();let y:(rZ g).lookup ("line_of":Str)=none:=qT g () () () ();let B:(rZ g).lookup ("has":Str)=none:=qT g () () () ();calc#[_,have nd:=sc_t.nd;#[],?_];dsimp![yK];calc#[#[_,cO.of u],?_];refine xP (xs:=us) (λk σ H'=>∃(o1 o2 o3:Option V),mZ C H g rows bB ls (λL=>LC H (us.take k) ls L i) H'/\σ=[some<|V.ref g.r,some<|V.int i,some<|V.ref qa,o1,o2,o3]) #[_,_,_,mZ.refl hg (λt m a b z=>by cases z),rfl] (λk σ H' _ h=>?_) (λk x σ H' hx h M S=>?_) λσ H' h=>?_
 ·obtain⟨_,_,_,h,_⟩:=h;exact cO.of<|h.to.1.out v u
 ·obtain⟨o1,o2,o3,D,rfl⟩:=h;obtain⟨xa,c,a,b,rfl,nG,n⟩:=R x<|aS hx;obtain⟨⟨b1,b2⟩,b3,b4⟩:=mF c a b n;let G:=hg.tups D.to.1 _ _ nG;dsimp![uA,jN,uK,yK];obtain⟨d,t,gt,hP⟩:=D;let nxt:∀{L:List Ln},Le (ls++t) L->(zM ls i a=true->zM ls i b=true->zM L i ((2*c:Nat):Int)=true)->LC H (us.take<|k+1) ls L i:=λ{L} e hL t0 m a0 b0 hm o I J=>by
   obtain⟨U,W⟩:=aD.mp hx;rw[aI U,W]at hm;rcases bJ.mp hm with hm |hm
   ·exact e.has<|hP t0 m a0 b0 hm o I J
   ·let e1:=V.ref.inj<|aP.mp hm;subst e1;rw[nG]at o;let X:=HO.tup.inj<|cD o;injection X with e3 e4
    injection e4 with Y e6
    injection e6 with Z _
    let e3:=V.int.inj e3;let Y:=V.int.inj Y;let Z:=V.int.inj Z;subst Y Z;rw[show m=c by lia];exact hL I J
  obtain⟨dx,eM⟩:=gt.ins;calc#[_,cW.of G,rfl,_,_,rfl,_,_,rfl,_,_,rfl,rfl,_,_,eM,B,g,rows,bB,_,i,a,rfl,gt,λH1 s1=>#[_,rfl,?_]];let ge1:zM (ls++t) i a=false->mZ C H g rows bB ls (λL=>LC H (us.take<|k+1) ls L i) H1:=λz=>#[d.trans<|aX.g s1,t,gt.same s1,nxt (Le.refl _) λha _=>by rw[zN ha]at z;cases z]
  by_cases N:zM (ls++t) i a=true
  ·rw[aT N];replace d:=d.trans<|aX.g s1;replace gt:=gt.same s1;obtain⟨dx,eM⟩:=gt.ins;calc#[_,_,eM,B,g,rows,bB,_,i,b,rfl,gt,λH2 s2=>#[_,rfl,?_]];replace d:=d.trans<|aX.g s2;replace gt:=gt.same s2;by_cases O:zM (ls++t) i b=true
   ·rw[aT O];obtain⟨dx,eM⟩:=gt.ins;let hk1:c<rows.length:=(aD.mp n).1;let X:(2:Int)*(c:Int)=((2*c:Nat):Int):=by lia
    let hpt:pN rows ((2*c:Nat):Int)=[a,b]:=wV (r:=.bo a b) () (by rw[show(((2*c:Nat):Int)/2).toNat=c by lia];calc n);calc#[_,_,eM,lk,_,_,eM,y,g,rows,bB,_,i,a,rfl,gt,N,λp l H3 s3 hl h1 h2=>?_];replace d:=d.trans<|aX.g s3;replace gt:=gt.same s3;obtain⟨dx,eM⟩:=gt.ins;calc#[_,_,eM,y,g,rows,bB,_,i,b,rfl,gt,O,λp' l' H4 s4 iK h1' h2'=>#[zH (),λp1 iR=>?_]];rw[X];exact wH (d.trans<|aX.g s4) (gt.same s4) iF (zB iR _) UD (dc hi () hpt hl h1 h2 iK h1' h2') FA (λL e h=>nxt e λ_ _=>h) λ_ H3 g3=>S _ _ #[_,_,_,g3,rfl]
   ·rw[aH O];exact S _ _ #[_,_,_,#[d,t,gt,nxt (Le.refl _) λ_ hb=>absurd (zN hb) O],rfl]
  ·rw[aH N];exact S _ _ #[_,_,_,ge1<|dM.mpr N,rfl]
 ·obtain⟨_,_,_,h,rfl⟩:=h;rw[aU<|aG _]at h;exact q _ h
theorem SX{C:Addr}(T:OJ K C)(bi:Bi mg)(h_f:mY P w K mg base 1 C "line_of" ["self","i","j"] (LS C))(h_u:mY P w K mg base 2 C "grow" ["self","i","j","why"] (sW C))(F:fT K "grow_by_clash" "grow_by_clash" s_r f fd):cZ P w K mg base fL 3 f fd ["growth","i","j"] (sT bb C):=by
 refine F.okz sc_r λeO A outer s H vs Q E hr h=>?_
 obtain⟨g,rows,bB,ls,i,j,rfl,b,iF,o,q⟩:=h;let fY:=T.cl;let v:(rZ g).lookup ("grow":Str)=none:=qT g () () () ();let c:(rZ g).lookup ("line_of":Str)=none:=qT g () () () ();obtain⟨dx,eM⟩:=b.ins;calc#[_,have nd:=sc_r.nd;#[],?_];dsimp![yK,jF];calc#[rfl,?_];obtain⟨hi,J⟩:=b.ok.rng o;by_cases e:(j:Int)=Builtin.bitXor (i:Int) 1
 ·rw[aT e];rw[tW]at e;obtain⟨as,d,a⟩:=b.abv;calc#[_,_,_,eM,T.cl,T.nA,_,WV g,as.length,.inl #[_,cO.of d,by simp],(),by have :=a.len;lia,?_];refine XY (n:=(as.length:Int).toNat) (λk σ H'=>∃(u:Option V),mZ C H g rows bB ls (λL=>∀n:Nat,n<k->zM L i n=true) H'/\σ=[some<|V.ref g.r,some<|V.int i,some<|V.int j,u]) #[_,mZ.refl b λn z=>(),rfl] (λk σ H' hk h M x=>?_) λσ H' h=>?_
  ·obtain⟨u,⟨y,t,gt,B⟩,rfl⟩:=h;let m:k<2*rows.length:=by have :=a.len;lia
   let D:(0:Int)+(k:Int)=((k:Nat):Int):=by lia
   obtain⟨dx,eM⟩:=gt.ins;dsimp![yK];rw[D];calc#[_,_,eM,v,_,_,eM,c,g,rows,bB,_,i,j,rfl,gt,zN o,λp l H1 s1 hl h1 h2=>#[zH (),λN iR=>?_]];refine wH (y.trans<|aX.g s1) (gt.same s1) iF (zB iR _) HD (PK hi m e hl h1 h2) SG (λL e h n hn=>?_) λ_ O G=>x _ _ #[_,G,rfl]
   rcases iI (nK hn)with z |z
   ·exact e.has<|B n z
   ·rw[z];exact h
  ·obtain⟨_,⟨h1,t,h2,I⟩,rfl⟩:=h;exact q _ #[h1,t,h2,λ_ n hn=>I n (by have :=a.len;lia)]
 ·rw[aH e];exact q _ (mZ.refl b λz=>absurd (by rw[tW];calc z) e)
abbrev s_z:Stmt:=top 38
theorem sc_z:bV ["growth","rules","r","premises","pair","lines"] ["growth","rules","r"] (zF s_z):=by rfl'
theorem db{r:Nat}{q:xT}{ps:List Int}(hi:i<2*rows.length)(hj:j<2*rows.length)(hr:bB[r]?=some q)(hq:q.2=((i:Int),(j:Int)))(hp:(ps.map λp=>jG ls ls.length<|.n p)=q.1.map some):jC rows bB ls ls.length #[i,j,"rule",[.n r,.ps ps]]=true:=by
 let oB:=(aD.mp hr).1;unfold jC;rw[aH (by
  intro z;rcases z with z |z
  ·exact z #[by show(0:Int)<=(i:Int);lia,by show(i:Int)<_;lia]
  ·calc z #[by show(0:Int)<=(j:Int);lia,by show(j:Int)<_;lia]),aT rfl,qi rfl,aT #[(),()],bE,hr]
 show(((i:Int),(j:Int))==q.2&&_==_)=true;rw[hq,hp,cC];exact#[dI _,dI _]
def InR(rows:List Rw)(q:xT):Prop:=(0<=q.2.1/\q.2.1<2*(rows.length:Int))/\(0<=q.2.2/\q.2.2<2*(rows.length:Int))
def ma(rows:List Rw)(bB:List xT)(ls L:List Ln)(r:Nat):Prop:=∀q:xT,bB[r]?=some q->InR rows q->(∀p∈q.1,zM ls p.1 p.2=true)->zM L q.2.1 q.2.2=true
inductive spGR (C:Addr) (vs:List V) (H:Hp) (Q:VK) (E:XK):Prop
 |mk (g:pX) (rows:List Rw) (bB:List xT) (ls:List Ln) (ra:Addr) (us:List V) (r:Nat) (_:vs=[.ref g.r,.ref ra,.int r]) (_:mL C H g rows bB ls) (_:rows.length<=100) (_:H ra=some (.lst us)) (_:bN H (bB.map l6) us) (_:r<bB.length) (_:(∀r∈bB,r.1.length<=100)) (_:∀H',mZ C H g rows bB ls (λL=>ma rows bB ls L r) H'->Q .non H')
theorem fm{C:Addr}(T:OJ K C)(bi:Bi mg)(h_T:fI P w K mg base 2 "is_below" ["n","bound"] PP)(h_f:mY P w K mg base 1 C "line_of" ["self","i","j"] (LS C))(h_H:mY P w K mg base 1 C "has" ["self","i","j"] (di C))(h_u:mY P w K mg base 2 C "grow" ["self","i","j","why"] (sW C))(F:fT K "grow_by_rule" "grow_by_rule" s_z f fd):cZ P w K mg base fL 3 f fd ["growth","rules","r"] (spGR C):=by
 refine F.okz sc_z λeO A outer s H vs Q E hr h=>?_
 obtain⟨g,rows,bB,ls,ra,us,r,rfl,X,iF,Y,Z,oB,hpr,q⟩:=h;let hul:=xS Z;let fY:=T.cl;let lk:(rZ g).lookup ("grow":Str)=none:=qT g () () () ();let lk2:(rZ g).lookup ("line_of":Str)=none:=qT g () () () ();let lk3:(rZ g).lookup ("has":Str)=none:=qT g () () () ();obtain⟨dx,eM⟩:=X.ins;let mM:bB[r]?=some bB[r]:=aA oB;let hq1:=hpr _<|bT oB;generalize bB[r]=nr at mM hq1;obtain⟨rv,hrv,hrd⟩:=bN.get (d:=l6 nr) Z (by rw[aF,mM];rfl);obtain⟨xa,xl,xb,ps,rfl,nG,hxl,hps,M⟩:=nrAt hrd;let iT:=xS hps;calc#[_,have nd:=sc_z.nd;zC (xI 3 nd<|zP wF (zP zQ #[] #[]) zS)<|zC (xI 4 nd<|zP wF (zP zQ #[] #[]) zS)<|zC (yA (jJ<|xH<|zO jP rfl bi.all uM<|zE (zW ["n"] ["growth"] [0] (kO #[]) (λ_ _ _ _ nd=>yG 0 nd) (λ_ _ _ _=>zY) λ_ _ _ _=>(zV h_T hr.m rfl<|zE #[]<|zE (zO (NO K) rfl bi.len ZA<|zE (IH K #[] rfl) zJ) zJ)) zJ) #[] zL)<|zI<|yA (xH<|zO jP rfl bi.all uM<|zE (zW ["i","j"] ["growth"] [0] #[] (λ_ _ _ _ nd=>qQ (K:=K) (n:=2) rfl<|yE (yG 0 nd)<|yE (yG 1 nd) jS) (λ_ _ _ _=>zY) λ_ _ _ _=>(xU h_H fY hr.m #[] #[])) zJ) (zC (xI 5 nd<|xF JW rfl bi.tuple vH<|zE (zW ["i","j"] ["growth"] [0] #[] (λ_ _ _ _ nd=>qQ (K:=K) (n:=2) rfl<|yE (yG 0 nd)<|yE (yG 1 nd) jS) (λ_ _ _ _=>zY) λ_ _ _ _=>(xU h_f fY hr.m #[] #[])) zJ) #[]) zL,?_];refine zD λN I=>?_
 dsimp![];calc#[_,cO.of Y,_,zU hrv,xa,rfl,_,cW.of nG,_,gR,I _ _ ?_];clear I;refine zD λN I=>?_
 dsimp![];calc#[_,cO.of Y,_,zU hrv,xa,rfl,_,cW.of nG,_,oQ,I _ _ ?_];clear I;obtain⟨as,hab,hmk⟩:=X.abv;let eQ:=hmk.len;refine zD λN I=>?_
 dsimp![];calc#[#[_,cW.of M],?_];refine FW (xs:=[.int nr.2.1,.int nr.2.2]) (λi ys σ H'=>aX H H'/\ys=(([nr.2.1,nr.2.2].take i).map λx=>JY as.length<|.n x).map V.bl/\∃o,σ=[o,some<|V.ref g.r]) #[aX.refl _,rfl,_,rfl] (zH (by simp)) (λi ys σ H' e=>?_) (λi ys σ H' e=>cW.of<|e.1 _ _ M) (λi x ys σ H' D hx e hD=>?_) λys σ H' e p hp=>?_
 ·obtain⟨_,rfl,_⟩:=e;rw[aC,aC,bD];lia
 ·obtain⟨es,rfl,o,rfl⟩:=e;let u:=X.same es;obtain⟨dx,eM⟩:=u.ins;let oM:∃n,x=V.int n/\[nr.2.1,nr.2.2][i]?=some n:=by
   match i,hx with
   |0,hx=>cases hx;exact#[_,rfl,rfl]
   |1,hx=>cases hx;exact#[_,rfl,rfl]
  obtain⟨n,rfl,hn⟩:=oM;obtain⟨mN,hn2⟩:=aD.mp hn;dsimp![jF,PP];calc#[C,dx,_,eM,T.cl,T.nA,_,WV g,as.length,.inl #[_,cO.of<|es _ _ hab,by simp],.n n,rfl,hD _ _ _ #[es,?_,_,rfl]];rw[aI mN,hn2,aQ,aQ];rfl
 obtain⟨es,rfl,o,rfl⟩:=e;calc#[p,rfl,_,cO.of zA,?_];let s1:=es.trans (zB hp<|.lst<|(([nr.2.1,nr.2.2].take 2).map λx=>JY as.length<|.n x).map V.bl)
 change (if([JY as.length<|.n nr.2.1,JY as.length<|.n nr.2.2].all id)=false then Q V.non (upd H' p<|.lst<|(([nr.2.1,nr.2.2].take 2).map λx=>JY as.length<|.n x).map V.bl)else N _ (upd H' p<|.lst<|(([nr.2.1,nr.2.2].take 2).map λx=>JY as.length<|.n x).map V.bl))
 generalize upd H' p (.lst<|(([nr.2.1,nr.2.2].take 2).map λx=>JY as.length<|.n x).map V.bl)=H1 at s1⊢;clear hp es eM;let hg1:=X.same s1;by_cases hB:(0<=nr.2.1/\nr.2.1<2*(rows.length:Int))/\(0<=nr.2.2/\nr.2.2<2*(rows.length:Int))
 case neg=>
  rw[aT]
  ·exact q _ ((mZ.refl X λq' c iO _=>by rw[mM]at c;cases c;calc absurd iO hB).same s1)
  ·rw[dM];intro z;simp[JY]at z;exact hB ()
 rw[aH (by simp[JY];lia)];calc I _ _ ?_;clear I;obtain⟨⟨b1,b2⟩,b3,b4⟩:=hB;obtain⟨i,hi⟩:=eC b1;obtain⟨j,hj⟩:=eC b3;let y:=bN.same s1 hps;let a:=s1 _ _ hxl;let b:=s1 _ _ M;clear hab hmk eQ;dsimp![];calc#[#[_,cO.of a],?_];refine yM (xs:=ps) (λk ys σ H'=>aX H1 H'/\ys=((nr.1.take k).map λx=>zM ls x.1 x.2).map V.bl/\∃O R,σ=[O,R,some<|V.ref g.r]) #[aX.refl _,rfl,_,_,rfl] (zH ()) (λk ys σ H' e=>?_) (λi ys σ H' e=>cO.of<|e.1 _ _ a) (λk x ys σ H' D hx e hD=>?_) λys σ H' e p hp=>?_
 ·obtain⟨_,rfl,_⟩:=e;rw[aC,aC,bD];lia
 ·obtain⟨es,rfl,O,R,rfl⟩:=e;let u:=hg1.same es;obtain⟨dx,eM⟩:=u.ins;obtain⟨pr,B,S⟩:=jM y hx;obtain⟨xp,rfl,v⟩:=qm S;replace v:=es _ _ v;obtain⟨U,W⟩:=aD.mp B;dsimp![uA,jN,uK,yK];calc#[_,cW.of v,rfl,_,_,rfl,_,_,rfl,rfl,_,_,eM,lk3,g,rows,bB,ls,_,_,rfl,u,λH3 J=>hD _ _ _ #[es.trans J,?_,_,_,rfl]];rw[aI U,W,aQ,aQ];rfl
 obtain⟨es,rfl,O,R,rfl⟩:=e;calc#[p,rfl,_,cO.of zA,?_];rw[aU ()];let s2:=es.trans (zB hp<|.lst<|(nr.1.map λx=>zM ls x.1 x.2).map V.bl);generalize upd H' p (.lst<|(nr.1.map λx=>zM ls x.1 x.2).map V.bl)=H2 at s2⊢;clear hp es;let hg2:=hg1.same s2;replace a:=s2 _ _ a;replace b:=s2 _ _ b;replace y:=bN.same s2 y;by_cases hA:(nr.1.map λx=>zM ls x.1 x.2).all id=true
 case neg=>
  rw[aH hA];exact q _ ((mZ.refl X λq' c _ hp'=>absurd (by rw[mM]at c;cases c;rw[iJ,cA];calc λp hp=>hp' p hp) hA).same (s1.trans s2))
 rw[aT hA];rw[iJ,cA]at hA;calc#[#[_,cO.of a],?_];refine yM (xs:=ps) (λk ys σ H'=>aX H2 H'/\(∃ns:List Int,ys=ns.map V.int/\ns.length=k/\(ns.map λp=>jG ls ls.length<|.n p)=(nr.1.take k).map some)/\∃O R,σ=[O,R,some<|V.ref g.r]) #[aX.refl _,#[[],rfl,rfl,rfl],_,_,rfl] (zH ()) (λk ys σ H' e=>?_) (λi ys σ H' e=>cO.of<|e.1 _ _ a) (λk x ys σ H' D hx e hD=>?_) λys σ H' e p hp=>?_
 ·obtain⟨_,⟨ns,rfl,hl,_⟩,_⟩:=e;rw[aC];lia
 ·obtain⟨es,⟨ns,rfl,hl,G⟩,O,R,rfl⟩:=e;let u:=hg2.same es;obtain⟨dx,eM⟩:=u.ins;obtain⟨pr,B,S⟩:=jM y hx;obtain⟨xp,rfl,v⟩:=qm S;replace v:=es _ _ v;obtain⟨U,W⟩:=aD.mp B;dsimp![uA,jN,uK,yK];calc#[_,cW.of v,rfl,_,_,rfl,_,_,rfl,rfl,_,_,eM,lk2,g,rows,bB,ls,_,_,rfl,u,hA pr<|aS B,λp l H3 J hl1 h1 h2=>hD _ _ _ #[es.trans J,#[ns++[(p:Int)],by rw[aQ];rfl,by simp[hl],?_],_,_,rfl]];rw[aI U,W,aQ,aQ,G];show _++[jG ls ls.length<|.n (p:Int)]=_;rw[uD hl1,h1,h2];rfl
 obtain⟨es,⟨ns,rfl,hl,G⟩,O,R,rfl⟩:=e;rw[aU ()]at G;calc#[p,rfl,_,.inl #[cO.of zA,λl iK=>?_]];let J:=(es.trans<|zB hp<|.lst<|ns.map V.int).trans (zB iK<|.tup<|ns.map V.int);let kl:upd (upd H' p<|.lst<|ns.map V.int) l (.tup<|ns.map V.int) l=some (.tup<|ns.map V.int):=zA;generalize upd (upd H' p<|.lst<|ns.map V.int) l (.tup<|ns.map V.int)=H3 at J kl⊢;replace b:=J _ _ b;let hg3:=hg2.same J;obtain⟨dx,eM⟩:=hg3.ins;dsimp![yK];calc#[_,_,eM,lk,_,cW.of b,_,gR,_,cW.of b,_,oQ,zH (),λp2 iP=>?_];rw[hi,hj];refine wH (t:=[]) (aX.g<|(s1.trans s2).trans J) (by rw[cL];calc hg3) iF (zB iP _) (x:="rule") (as:=[.n r,.ps ns]) #[p2,_,rfl,zA,_,_,rfl,rfl,_,_,rfl,rfl,_,_,rfl,atPs<|zB iP _ _ _ kl,rfl] ?_ #[by simp,λps' h=>?_] (λL e h q' c _ _=>by rw[mM]at c;cases c;rw[hi,hj];calc h) λ_ H4 g4=>q _ g4
 ·rw[cL];exact db () () mM (Prod.ext hi hj) G
 ·simp at h;subst h;lia
abbrev o0:Stmt:=top 39
theorem j7:bV ["sheet","rules","growth","boths","waiting","r","k","i","j"] ["sheet","rules"] (zF o0):=by rfl'
theorem Le.back{L L':List Ln}(e:Le L L')(ha:a<L.length)(h:L'[a]?=some l):L[a]?=some l:=by
 obtain⟨t,rfl⟩:=e;rw[bM ha]at h;exact h
structure Cl(rows:List Rw)(bB:List xT)(k:Nat)(L:List Ln):Prop where
 turn:∀(a:Nat)(l:Ln)(i j:Nat),a<k->L[a]?=some l->l.i=i->l.j=j->zM L ((mE j:Nat):Int) ((mE i:Nat):Int)=true
 clash:∀(a:Nat)(l:Ln)(i j:Nat),a<k->L[a]?=some l->l.i=i->l.j=j->(j:Int)=sP i->∀n:Nat,n<2*rows.length->zM L i n=true
 chain:∀(a b:Nat)(l l':Ln)(i j m:Nat),a<k->b<k->L[a]?=some l->L[b]?=some l'->l.i=i->l.j=j->l'.i=j->l'.j=m->zM L i m=true
 both:∀(a b:Nat)(l l':Ln)(i n:Nat)(x y:Int),a<k->b<k->L[a]?=some l->L[b]?=some l'->l.i=i->l.j=x->l'.i=i->l'.j=y->rows[n]?=some (.bo x y)->zM L i ((2*n:Nat):Int)=true
 rule:∀(r:Nat)(q:xT),bB[r]?=some q->InR rows q->(∀p∈q.1,∃(a:Nat)(l:Ln),a<k/\L[a]?=some l/\l.i=p.1/\l.j=p.2)->zM L q.2.1 q.2.2=true
theorem Cl.le{k:Nat}{L L':List Ln}(h:Cl rows bB k L)(hk:k<=L.length)(e:Le L L'):Cl rows bB k L':=by
 let b:∀{a:Nat}{l:Ln},a<k->L'[a]?=some l->L[a]?=some l:=λha hl=>e.back () hl
 refine#[λa l i j ha hl h1 h2=>e.has<|h.turn a l i j ha (b ha hl) h1 h2,λa l i j ha hl h1 h2 c n hn=>e.has<|h.clash a l i j ha (b ha hl) h1 h2 c n hn,λa d l l' i j m ha hb hl iK h1 h2 c f=>e.has<|h.chain a d l l' i j m ha hb (b ha hl) (b hb iK) h1 h2 c f,
  λa d l l' i n x y ha hb hl iK h1 h2 c f hr=>e.has<|h.both a d l l' i n x y ha hb (b ha hl) (b hb iK) h1 h2 c f hr,λr q hr hi hp=>e.has<|h.rule r q hr hi λp g=>?_]
 obtain⟨a,l,ha,hl,h1,h2⟩:=hp p g;exact#[a,l,ha,b ha hl,h1,h2]
theorem Cl.step{k:Nat}{L L':List Ln}(h:Cl rows bB k L)(e:Le L L'){l0:Ln}(hk:L[k]?=some l0)(hi:l0.i=i)(hj:l0.j=j)
 (h1:zM L' ((mE j:Nat):Int) ((mE i:Nat):Int)=true) (h2:∀m:Nat,zM L j m=true->zM L' i m=true) (h3:∀m:Nat,zM L m i=true->zM L' m j=true)
 (h4:∀(n:Nat)(x y:Int),rows[n]?=some (.bo x y)->((j:Int)=x\/(j:Int)=y)->zM L i x=true->zM L i y=true->zM L' i ((2*n:Nat):Int)=true)
 (h5:(j:Int)=sP i->∀n:Nat,n<2*rows.length->zM L' i n=true)
 (h6:∀(r:Nat)(q:xT),bB[r]?=some q->InR rows q->((i:Int),(j:Int))∈q.1->(∀p∈q.1,zM L p.1 p.2=true)->zM L' q.2.1 q.2.2=true):Cl rows bB (k+1) L':=by
 let H:=(aD.mp hk).1;let hc:=h.le () e;let b:∀{a:Nat}{l:Ln},a<k+1->L'[a]?=some l->L[a]?=some l:=λha hl=>e.back () hl
 let z:∀{a:Nat},a<k+1->a<k\/a=k:=λha=>by lia
 let w:∀{a:Nat}{l:Ln},a=k->a<k+1->L'[a]?=some l->l=l0:=λI ha hl=>by
  have :=b ha hl;rw[I,hk]at this;exact(cD this).symm
 let hs:∀{a:Nat}{l:Ln},a<k+1->L'[a]?=some l->zM L l.i l.j=true:=λha hl=>fK.mpr #[_,_,b ha hl,rfl,rfl]
 refine#[λa l f o ha hl c d=>?_,λa l f o ha hl c d u n hn=>?_,λa F l l' f o m ha hb hl iK c d u D=>?_,λa F l l' f n x y ha hb hl iK c d u D hr=>?_,λr q hr E hp=>?_]
 ·rcases z ha with za |za
  ·exact hc.turn a l f o za hl c d
  ·let g:=w za ha hl;subst g;let s:f=i:=by lia
   let A:o=j:=by lia
   rw[s,A];exact h1
 ·rcases z ha with za |za
  ·exact hc.clash a l f o za hl c d u n hn
  ·let g:=w za ha hl;subst g;let s:f=i:=by lia
   let A:o=j:=by lia
   subst s A;exact h5 u n hn
 ·rcases z ha with za |za
  ·rcases z hb with zb |zb
   ·exact hc.chain a F l l' f o m za zb hl iK c d u D
   ·let g:=w zb hb iK;subst g;let A:o=i:=by lia
    let J:m=j:=by lia
    have :=hs ha hl;rw[c,d,A]at this;rw[J];exact h3 f this
  ·let g:=w za ha hl;subst g;let s:f=i:=by lia
   let A:o=j:=by lia
   have :=hs hb iK;rw[u,D,A]at this;rw[s];exact h2 m this
 ·let B:=hs ha hl;let C:=hs hb iK;rw[c,d]at B;rw[u,D]at C;rcases z ha with za |za
  ·rcases z hb with zb |zb
   ·exact hc.both a F l l' f n x y za zb hl iK c d u D hr
   ·let g:=w zb hb iK;subst g;let s:f=i:=by lia
    subst s;exact h4 n x y hr (.inr ()) B C
  ·let g:=w za ha hl;subst g;let s:f=i:=by lia
   subst s;exact h4 n x y hr (.inl ()) B C
 ·by_cases v:∀p∈q.1,∃(a:Nat)(l:Ln),a<k/\L'[a]?=some l/\l.i=p.1/\l.j=p.2
  ·exact hc.rule r q hr E v
  ·refine h6 r q hr E (rC λG=>v λp t=>?_) λp t=>?_
   ·obtain⟨a,l,ha,hl,c,d⟩:=hp p t;rcases z ha with za |za
    ·exact#[a,l,za,hl,c,d]
    ·let g:=w za ha hl;subst g;let ep:p=((i:Int),(j:Int)):=Prod.ext (by rw[←c,hi]) (by rw[←d,hj]);exact absurd (ep▸t) G
   ·obtain⟨a,l,ha,hl,c,d⟩:=hp p t;have :=hs ha hl;rw[c,d]at this;exact this
inductive jw (K:W.Frag) (vs:List V) (H:Hp) (Q:VK) (E:XK):Prop
 |mk (sa ra:Addr) (us oJ:List V) (rows:List Rw) (bB:List xT) (_:vs=[.ref sa,.ref ra]) (_:H sa=some (.lst us)) (_:gJ K H rows us) (_:H ra=some (.lst oJ)) (_:bN H (bB.map l6) oJ) (_:rows.length<=100) (_:qP rows) (_:bB.length<=100) (_:(∀r∈bB,r.1.length<=100)) (_:∀(la:Addr)(ws:List V)(ls:List Ln) H',aX H H'->H' la=some (.lst ws)->vJ H' ls ws->NX rows bB ls->Pl rows (2*rows.length) rows.length ls->Cl rows bB ls.length ls->Q (.ref la) H')
theorem gF.same{g:pX}{H2:Hp}(s:aX H H2)(e:gF g H2 H')(h1:H g.la=none)(h2:H g.pa=none)(h3:H g.aa=none)(h4:H g.ba=none):aX H H':=λb o hb=>by
 let go:∀{a:Addr},H a=none->b≠a:=λha z=>by rw[z,ha]at hb;cases hb
 exact e b o (s b o hb) (go h1) (go h2) (go h3)<|go h4
theorem FM{C:Addr}(T:OJ K C)(bi:Bi mg)(h_p:bj P w K mg base 1 C "Growth" ["self","many"] (n8 C))(h_q:fI P w K mg base 1 "boths_by_part" ["sheet"] (spBo K))(h_h:fI P w K mg base 1 "rules_by_premise" ["rules"] spWa)(h_cf:fI P w K mg base 3 "begin" ["growth","sheet"] (spBe K C))(h_A:fI P w K mg base 3 "grow_by_turn" ["growth","i","j"] (sT l9 C))(h_s:fI P w K mg base 3 "grow_by_chain" ["growth","i","j"] (sT bd C))(h_t:fI P w K mg base 3 "grow_by_both" ["growth","i","boths"] (spGB C))(h_r:fI P w K mg base 3 "grow_by_clash" ["growth","i","j"] (sT bb C))(h_z:fI P w K mg base 3 "grow_by_rule" ["growth","rules","r"] (spGR C))(F:fT K "closing" "closing" o0 f fd):cZ P w K mg base fL 4 f fd ["sheet","rules"] (jw K):=by
 refine F.okz j7 λeO A outer s H vs Q E hr h=>?_
 obtain⟨sa,ra,us,oJ,rows,bB,rfl,mS,oN,hra,hru,iF,mF,hr100,hpr,q⟩:=h;let hul:=oN.len;let hvl:=xS hru;let fY:=T.cl;calc#[_,have nd:=j7.nd;zC (xI 2 nd<|AV h_p hr.m rfl #[])<|zC #[]<|zC #[]<|zC #[]<|zC #[]<|zC #[]<|zC (YZ bR #[]<|zC (xI 7 nd<|zP wF (zP zQ #[] #[]) zS)<|zC (xI 8 nd<|zP wF (zP zQ #[] #[]) zS)<|zC #[]<|zC #[]<|zC (xJ<|zV h_t hr.m rfl<|zE #[]<|zE #[]<|zE (zP zQ #[] #[]) zJ)<|zC #[]<|zC (yD bR rfl (uH<|RZ (xW hr) #[] #[] #[] #[rfl,rfl,rfl,rfl]) #[] #[])<|zI<|UY (i:=6) nd rfl (Or.inl rfl) zS sk) #[],?_];refine zD λN O=>?_
 dsimp![HI];calc#[us.length,.inl #[_,cO.of mS,rfl],.inl #[(),()],λx dx hx hdx mX=>?_];let s1:aX H (upd (upd H dx<|.own x) x<|.ins C dx []):=((aX.refl H).upd hdx).upd hx;let k1:upd (upd H dx<|.own x) x (.ins C dx []) x=some (.ins C dx []):=zA;generalize upd (upd H dx<|.own x) x (.ins C dx [])=H1 at s1 k1⊢;let e2:(2:Int)*(us.length:Int)=((2*rows.length:Nat):Int):=by rw[hul];lia
 rw[e2];calc#[x,dx,rows,bB,rfl,k1,iF,λg H2 hgr x2 hla nX haa hba hg=>#[rfl,O _ _ ?_]];subst hgr;clear O;let s2:aX H H2:=λb o hb=>x2 b o (s1 _ _ hb) (λz=>by rw[z,hx]at hb;cases hb)
 replace hla:=s1.free hla;replace nX:=s1.free nX;replace haa:=s1.free haa;replace hba:=s1.free hba;let outH:∀{a:Addr}{o:HO},H a=some o->JZ g a:=λ{a o} ha=>by
  let go:∀{b:Addr},H b=none->a≠b:=λhb z=>by rw[z,hb]at ha;cases ha
  exact#[go hla,go nX,go haa,go hba]
 clear x2 k1 s1;refine zD λN O=>?_
 dsimp![];calc#[sa,us,rows,rfl,s2 _ _ mS,oN.same s2,iF,mF,λpb qs n H3 s3 hpb0 hqs0 hpb hql hbo hbc=>O _ _ ?_];clear O;let outb:=hg.out hpb0;let outq:∀q∈qs,JZ g q:=λq hq=>hg.out<|hqs0 q hq
 replace hg:=hg.same s3;replace s2:=s2.trans s3;clear s3 hqs0 hpb0;refine zD λN O=>?_
 dsimp![];calc#[ra,oJ,bB,rfl,s2 _ _ hra,bN.same s2 hru,hr100,hpr,λpw kvs n' H4 s4 hpw0 hpw hwa hwc=>O _ _ ?_];clear O;let outw:=hg.out hpw0;let hwa':∀kv∈kvs,∃(q:Addr)(ns:List Nat),kv.2=.ref q/\H4 q=some (.lst<|ns.map nV)/\JZ g q/\∀x∈ns,x<bB.length:=λkv hkv=>by
  obtain⟨q',ns',h1,h2,h3,h4,h5⟩:=hwa kv hkv;exact#[q',ns',h1,h2,hg.out h3,h5]
 clear hwa;replace hg:=hg.same s4;replace s2:=s2.trans s4;replace hpb:=s4 _ _ hpb;replace hbo:=hbo.same s4;replace hbc:=hbc.same s4;clear s4 hpw0;let SS:∀{H'},gF g H4 H'->aX H H':=λe=>gF.same s2 e hla nX haa hba
 refine zD λN O=>?_
 dsimp![];calc#[g,sa,us,rows,bB,rfl,hg,iF,s2 _ _ mS,oN.same s2,outH mS,mF,λH5 g5=>O _ _ ?_];clear O;let np:∀{r:Nat}{ls L L':List Ln},ma rows bB ls L r->Le L L'->∀q:xT,bB[r]?=some q->InR rows q->q.1=[]->zM L' q.2.1 q.2.2=true:=λh e q hq hi h0=>e.has (h q hq hi λp hp=>by rw[h0]at hp;cases hp)
 refine zK (λσ H'=>∃(I o2 R S:Option V),mZ C H4 g rows bB [] (λL=>Pl rows (2*rows.length) rows.length L/\Cl rows bB 0 L) H'/\σ=[some<|V.ref sa,some<|V.ref ra,some<|V.ref g.r,some<|V.ref pb,some<|V.ref pw,I,o2,R,S]) (λN O=>?_) λσ H' h=>?_
 ·dsimp![];calc#[oJ.length,.inl #[_,cO.of<|SS g5.to.1 _ _ hra,rfl],(),(),?_];refine XY (n:=(oJ.length:Int).toNat) (λi σ H'=>∃(I o2 R S:Option V),mZ C H4 g rows bB [] (λL=>Pl rows (2*rows.length) rows.length L/\∀r:Nat,r<i->∀q:xT,bB[r]?=some q->InR rows q->q.1=[]->zM L q.2.1 q.2.2=true) H'/\σ=[some<|V.ref sa,some<|V.ref ra,some<|V.ref g.r,some<|V.ref pb,some<|V.ref pw,I,o2,R,S]) #[_,_,_,_,(by
   obtain⟨h1,t,h2,h3⟩:=g5;calc#[h1,t,h2,h3,λr hr=>()]),rfl] (λi σ H' hi h M hM=>?_) λσ H' h=>?_
  rotate_left
  ·obtain⟨I,o2,R,S,⟨h1,t,h2,h3,h4⟩,rfl⟩:=h;calc O _ _ #[_,_,_,_,#[h1,t,h2,h3,#[λa l i j ha=>(),λa l i j ha=>(),λa b l l' i j m ha=>(),λa b l l' i n x y ha=>(),λr q hr hir hp=>?_]],rfl];calc h4 r (by have :=(aD.mp hr).1;lia) q hr hir ?_;cases hq:q.1 with
   |nil=>rfl
   |cons p ps=>
    obtain⟨a,l,ha,_⟩:=hp p (by rw[hq];calc aV);lia
  obtain⟨I,o2,R,S,⟨G,t,gt,hP,hR⟩,rfl⟩:=h;let e0:(0:Int)+(i:Int)=((i:Nat):Int):=by lia
  dsimp![];rw[e0];calc#[g,rows,bB,_,ra,oJ,i,rfl,gt,iF,SS G _ _ hra,bN.same (SS G) hru,(),hpr,λH6 g6=>?_];calc hM _ _ #[_,_,_,_,mZ.then G g6 λL e h=>#[hP.le e,λr hr=>?_],rfl];rcases iI (nK hr)with z |z
  ·exact λq hq hi h0=>e.has<|hR r z q hq hi h0
  ·rw[z];exact np h<|Le.refl _
 obtain⟨I,o2,R,S,⟨G,t,gt,hP,hC⟩,rfl⟩:=h;rw[List.nil_append]at gt hP hC;refine zD λN O=>?_
 dsimp![];calc O _ _ ?_;clear O;refine zK (λσ H'=>∃(I o2 R S:Option V)(t:List Ln),gF g H4 H'/\mL C H' g rows bB t/\Pl rows (2*rows.length) rows.length t/\Cl rows bB t.length t/\σ=[some<|V.ref sa,some<|V.ref ra,some<|V.ref g.r,some<|V.ref pb,some<|V.ref pw,I,o2,R,S]) (λN O=>?_) λσ H' h=>?_
 ·calc m5 (λm σ H'=>∃(k:Nat)(t:List Ln)(I R S:Option V),m=(2*rows.length)*(2*rows.length)-k/\k<=t.length/\gF g H4 H'/\mL C H' g rows bB t/\Pl rows (2*rows.length) rows.length t/\Cl rows bB k t/\σ=[some<|V.ref sa,some<|V.ref ra,some<|V.ref g.r,some<|V.ref pb,some<|V.ref pw,I,some<|V.int k,R,S]) #[_,0,t,_,_,_,rfl,cS _,G,gt,hP,hC,rfl] λm σ H' h B hB=>?_;clear hP hC;obtain⟨k,t,I,R,S,rfl,hk,G,gt,hP,hC,rfl⟩:=h;let htl:=gt.ok.len;obtain⟨dx,eM⟩:=gt.ins;obtain⟨ws,hl,Y⟩:=gt.lin;let hwl:=xS Y;dsimp![jF];calc#[_,_,_,eM,T.cl,T.nL,_,NI g,ws.length,.inl #[_,cO.of hl,rfl],?_];by_cases hkl:k<t.length
  case neg=>
   rw[aH ()];rw[show k=t.length by lia]at hC;exact O _ _ #[_,_,_,_,t,G,gt,hP,hC,rfl]
  rw[aT ()];let Z:t[k]?=some t[k]:=aA hkl;let U:=qZ<|gt.ok.snd k _ Z;generalize t[k]=l0 at Z U;obtain⟨i,hi⟩:∃i:Nat,l0.i=(i:Int):=eC U.1.1;obtain⟨j,hj⟩:∃j:Nat,l0.j=(j:Int):=eC U.2.1;obtain⟨v,hv,hvd⟩:=bN.get (d:=uf l0) Y (by rw[aF,Z];rfl);obtain⟨xa,u,rfl,nG,_⟩:=rm hvd;rw[hi,hj]at nG U;let hh:zM t i j=true:=fK.mpr #[k,l0,Z,hi,hj];refine hB _ (λσ' H''=>∃(t':List Ln)(I R S:Option V),k+1<=t'.length/\gF g H4 H''/\mL C H'' g rows bB t'/\Pl rows (2*rows.length) rows.length t'/\Cl rows bB (k+1) t'/\σ'=[some<|V.ref sa,some<|V.ref ra,some<|V.ref g.r,some<|V.ref pb,some<|V.ref pw,I,some<|V.int ((k+1:Nat):Int),R,S]) (λσ' H'' h=>?_) λM hM=>?_
  ·obtain⟨t',I,R,S,h1,h2,h3,h4,h5,rfl⟩:=h;exact#[_,(),k+1,t',_,_,_,rfl,h1,h2,h3,h4,h5,rfl]
  refine zD λN1 D=>?_
  dsimp![jF];calc#[_,_,_,eM,T.cl,T.nL,_,NI g,_,rfl,_,cO.of hl,_,zU hv,_,rfl,_,cW.of nG,_,gR,D _ _ ?_];clear D;refine zD λN1 D=>?_
  dsimp![jF];calc#[_,_,_,eM,T.cl,T.nL,_,NI g,_,rfl,_,cO.of hl,_,zU hv,_,rfl,_,cW.of nG,_,oQ,D _ _ ?_];clear D;refine zD λN1 D=>?_
  dsimp![];calc#[g,rows,bB,t,i,j,rfl,gt,iF,hh,λH6 g6=>D _ _ ?_];clear D;obtain⟨gs6,X,gt6,rt⟩:=g6;replace G:=G.trans gs6;refine zD λN1 D=>?_
  dsimp![];calc#[g,rows,bB,_,i,j,rfl,gt6,iF,zN hh,λH7 g7=>D _ _ ?_];clear D;obtain⟨gs7,t7,gt7,rc⟩:=g7;replace G:=G.trans gs7;let hjl:j<qs.length:=by lia
  obtain⟨us1,hu1,_,ht1⟩:=hbo qs[j] (bT hjl);let tu:=hg.tups G;refine zD λN1 D=>?_
  dsimp![];calc#[_,cO.of<|G.out outb hpb,_,zU (by rw[aF,aA hjl];rfl),?_];calc#[g,rows,bB,_,i,qs[j],us1,rfl,gt7,iF,(),G.out (outq _<|bT hjl) hu1,outq _<|bT hjl,λv hv=>(ht1 v hv).tups tu,mF,λH8 g8=>D _ _ ?_];clear D;obtain⟨gs8,t8,gt8,rb⟩:=g8;replace G:=G.trans gs8;refine zD λN1 D=>?_
  dsimp![];calc#[g,rows,bB,_,i,j,rfl,gt8,iF,zN<|zN<|zN hh,λH9 g9=>D _ _ ?_];clear D;obtain⟨gs9,t9,gt9,rx⟩:=g9;replace G:=G.trans gs9;let hk9:k+1<=((((t++X)++t7)++t8)++t9).length:=by simp only[aK];lia
  let h1:zM ((((t++X)++t7)++t8)++t9) ((mE j:Nat):Int) ((mE i:Nat):Int)=true:=zN<|zN<|zN rt;let h2:∀m:Nat,zM t j m=true->zM ((((t++X)++t7)++t8)++t9) i m=true:=λm hm=>zN<|zN<|rc.1 m<|zN hm
  let h3:∀m:Nat,zM t m i=true->zM ((((t++X)++t7)++t8)++t9) m j=true:=λm hm=>zN<|zN<|rc.2 m<|zN hm
  let h4:∀(n:Nat)(x y:Int),rows[n]?=some (.bo x y)->((j:Int)=x\/(j:Int)=y)->zM t i x=true->zM t i y=true->zM ((((t++X)++t7)++t8)++t9) i ((2*n:Nat):Int)=true:=λn x y hn hxy hx hy=>by
   obtain⟨oG,t',g1,g2,g3⟩:=hbc n x y (aD.mp hn).1 hn j qs[j] hxy (aA hjl);rw[hu1]at g1;cases g1;exact zN<|rb t' n x y g2 (tu _ _ g3) (zN<|zN hx)<|zN<|zN hy
  let h5:(j:Int)=sP i->∀n:Nat,n<2*rows.length->zM ((((t++X)++t7)++t8)++t9) i n=true:=rx;let ett:Le t ((((t++X)++t7)++t8)++t9):=#[X++(t7++(t8++t9)),by simp[dD]]
  generalize (((t++X)++t7)++t8)++t9=tt at gt9 hk9 h1 h2 h3 h4 h5 ett;clear rt rc rb rx;clear gs6 gt6 gs7 gt7 gs8 gt8 gs9 tu eM hl Y htl gt;refine zD λN1 D=>?_
  dsimp![PD];let hpw9:=G.out outw hpw;calc#[.inr #[_,.inl hpw9],zH (),λp hp=>#[cS _,λp1 iR=>?_]];let W:=(zB hp<|.tup [V.int i,V.int j]).trans (zB iR<|.lst []);let kp:upd (upd H9 p<|.tup [V.int i,V.int j]) p1 (.lst []) p=some (.tup [V.int i,V.int j]):=zB iR (.lst []) _ _ zA;let kp1:upd (upd H9 p<|.tup [V.int i,V.int j]) p1 (.lst []) p1=some (.lst []):=zA;let op1:=(gt9.same<|zB hp<|.tup [V.int i,V.int j]).out iR;generalize upd (upd H9 p<|.tup [V.int i,V.int j]) p1 (.lst [])=H10 at W kp kp1⊢;let hq:∃(q:Addr)(ns:List Nat),(yB kvs<|yT i j).getD (.ref p1)=.ref q/\H10 q=some (.lst<|ns.map nV)/\JZ g q/\(∀x∈ns,x<bB.length)/\∀r,LB H4 kvs ((i:Int),(j:Int)) r->r∈ns:=by
   cases hv:yB kvs (yT i j)with
   |none=>exact#[p1,[],rfl,kp1,op1,(λx z=>by cases z),λr ⟨q,ns,g1,_⟩=>by rw[show yB kvs (yT (i:Int) (j:Int))=none from hv]at g1;cases g1]
   |some v=>
    obtain⟨kv,hkv,rfl⟩:=tZ hv;obtain⟨q',ns',g1,g2,g3,g4⟩:=hwa' kv hkv;calc#[q',ns',g1,W _ _<|G.out g3 g2,g3,g4,λr ⟨q,ns,w1,w2,w3⟩=>?_];rw[show yB kvs (yT (i:Int) (j:Int))=some kv.2 from hv,g1]at w1;let e1:=V.ref.inj<|cD w1;subst e1;rw[g2]at w2;rw[FS<|HO.lst.inj<|cD w2];exact w3
  obtain⟨qa,ns,hqa1,hqa2,hqa3,hqa4,hqa5⟩:=hq;calc#[_,.inr #[_,yT i j,p,.inl<|W _ _ hpw9,rfl,kp,rfl],qa,hqa1,#[_,cO.of hqa2],?_];replace G:=G.trans<|aX.g W;replace gt9:=gt9.same W;clear W kp kp1 hp iR op1 hqa1;refine xP (xs:=ns.map nV) (λm σ H'=>∃(I:Option V)(t':List Ln),k+1<=t'.length/\gF g H4 H'/\gF g H10 H'/\mL C H' g rows bB t'/\Le tt t'/\(∀r∈ns.take m,∀q:xT,bB[r]?=some q->InR rows q->(∀p∈q.1,zM tt p.1 p.2=true)->zM t' q.2.1 q.2.2=true)/\σ=[some<|V.ref sa,some<|V.ref ra,some<|V.ref g.r,some<|V.ref pb,some<|V.ref pw,I,some<|V.int k,some<|V.int i,some<|V.int j]) #[_,tt,hk9,G,aX.g<|aX.refl _,gt9,Le.refl _,(λr z=>by cases z),rfl] (λm σ H' _ h=>?_) (λm x σ H' hx h M hM=>?_) λσ H' h=>?_
  ·obtain⟨_,_,_,_,h,_⟩:=h;exact cO.of<|h.out hqa3 hqa2
  ·obtain⟨I,t',hk',gs',gs2',gt',J,hR,rfl⟩:=h;rw[aF]at hx;obtain⟨x',oM,rfl⟩:=aL.mp hx;dsimp![];calc#[g,rows,bB,_,ra,oJ,x',rfl,gt',iF,SS gs' _ _ hra,bN.same (SS gs') hru,hqa4 _<|aS oM,hpr,λH6 g6=>?_];obtain⟨gs6,X,gt6,rr⟩:=g6;calc hM _ _ #[_,t'++X,by rw[aK];lia,gs'.trans gs6,gs2'.trans gs6,gt6,J.trans #[X,rfl],λr hr q hq hi0 oC=>?_,rfl];obtain⟨hkl',hke⟩:=aD.mp oM;rw[aI hkl',hke]at hr;rcases bJ.mp hr with hr |hr
   ·exact zN<|hR r hr q hq hi0 oC
   ·rw[aP.mp hr]at hq;exact rr q hq hi0 λp hp=>J.has<|oC p hp
  ·obtain⟨I,t',hk',gs',gs2',gt',J,hR,rfl⟩:=h;rw[aC,aU<|aG _]at hR;let e9:=ett.trans J;let hC':Cl rows bB (k+1) t':=hC.step e9 Z hi hj (J.has h1) (λm hm=>J.has<|h2 m hm) (λm hm=>J.has<|h3 m hm) (λn x y a b c d=>J.has<|h4 n x y a b c d) (λa n b=>J.has<|h5 a n b) λr q hr hir hin' hp=>?_
   ·calc D _ _ ?_;dsimp![PH,WR];exact hM _ _ #[t',_,_,_,hk',gs',gt',hP.le e9,hC',by rw[Int.natCast_add];rfl]
   ·obtain⟨x,hx⟩:=lD hin';exact hR r (hqa5 r<|hwc r q x _ hr hx<|.inl (aD.mp hr).1) q hr hir λp hpq=>ett.has<|hp p hpq
 obtain⟨I,o2,R,S,t,G,gt,hP,hC,rfl⟩:=h;obtain⟨dx,eM⟩:=gt.ins;obtain⟨ws,hl,Y⟩:=gt.lin;dsimp![jF];exact#[_,_,_,eM,T.cl,T.nL,_,NI g,q g.la ws t _ (SS G) hl Y gt.ok hP hC]
noncomputable def rF(n:Nat):Nat:=n+1-2*(n % 2)
noncomputable def mK(e:Bool)(n:Nat):Nat:=if e then rF n else n
noncomputable def pM(rows:List Rw)(r:Rw):Option Nat:=rows.findIdx? λx=>lL (tD x)<|tD r
noncomputable def xG(rows:List Rw)(r:Rw):List Rw×Nat:=match pM rows r with
 |some k=>(rows,2*k)
 |none=>(rows++[r],2*rows.length)
mutual
noncomputable def num(rows:List Rw):Tm->Option Nat
 | .name x=>(pM rows<|.nm x).map (2* ·)
 | .node w ts=>if w="none" then some 0 else if w="all" then some 1 else if w="not" then(uI rows false ts).map rF else(uI rows (decide<|w="either") ts).map (mK<|decide<|w="either")
noncomputable def uI(rows:List Rw)(e:Bool):List Tm->Option Nat
 |[]=>none
 |t::ts=>(num rows t).bind λm=>uQ rows e (mK e m) ts
noncomputable def uQ(rows:List Rw)(e:Bool):Nat->List Tm->Option Nat
 |m,[]=>some m
 |m,t::ts=>(num rows t).bind λn=>(pM rows<|.bo (m:Int) (mK e n:Nat)).bind λk=>uQ rows e (2*k) ts
end
mutual
noncomputable def dY:Tm->List Rw->List Rw×Nat
 | .name x,rows=>xG rows<|.nm x
 | .node w ts,rows=>if w="none" then(rows,0)else if w="all" then(rows,1)else if w="not" then((jB false ts rows).1,rF (jB false ts rows).2)else((jB (decide<|w="either") ts rows).1,mK (decide<|w="either") (jB (decide<|w="either") ts rows).2)
noncomputable def jB(e:Bool):List Tm->List Rw->List Rw×Nat
 |[],rows=>(rows,0)
 |t::ts,rows=>yJ e ts (dY t rows).1 (mK e (dY t rows).2)
noncomputable def yJ(e:Bool):List Tm->List Rw->Nat->List Rw×Nat
 |[],rows,m=>(rows,m)
 |t::ts,rows,m=>yJ e ts (xG (dY t rows).1 (.bo (m:Int) (mK e (dY t rows).2:Nat))).1 (xG (dY t rows).1 (.bo (m:Int) (mK e (dY t rows).2:Nat))).2
end
theorem US{k:Nat}(xs:List Rw)(h:pM rows r=some k):pM (rows++xs) r=some k:=by
 unfold pM at h⊢;rw[List.findIdx?_append,h];rfl
theorem YV(h:pM rows r=none):pM (rows++[r]) r=some rows.length:=by
 unfold pM at h⊢;rw[List.findIdx?_append,h];simp[List.findIdx?_cons,xA]
theorem uV(rows:List Rw)(r:Rw):∃xs,(xG rows r).1=rows++xs:=by
 unfold xG;split
 ·exact#[[],(cL _).symm]
 ·exact#[[r],rfl]
theorem HW(rows:List Rw)(r:Rw):∃k,pM (xG rows r).1 r=some k/\(xG rows r).2=2*k:=by
 unfold xG;split
 ·rename_i k h
  exact#[k,h,rfl]
 ·rename_i h
  exact#[_,YV h,rfl]
mutual
theorem wY(rows xs:List Rw):∀(t:Tm)(n:Nat),num rows t=some n->num (rows++xs) t=some n
 | .name x,n,h=>by
   rw[num]at h⊢;obtain⟨k,hk,e⟩:=aL.mp h;rw[US xs hk];exact cM some e
 | .node w ts,n,h=>by
   rw[num]at h⊢;split
   ·rename_i c
    rwa[aT c]at h
   ·rename_i c
    rw[aH c]at h;split
    ·rename_i c
     rwa[aT c]at h
    ·rename_i c
     rw[aH c]at h;split
     ·rename_i c
      rw[aT c]at h;obtain⟨k,hk,e⟩:=aL.mp h;rw[BW rows xs _ ts k hk];exact cM some e
     ·rename_i c
      rw[aH c]at h;obtain⟨k,hk,e⟩:=aL.mp h;rw[BW rows xs _ ts k hk];exact cM some e
theorem BW(rows xs:List Rw)(e:Bool):∀(ts:List Tm)(n:Nat),uI rows e ts=some n->uI (rows++xs) e ts=some n
 |[],n,h=>by rw[uI]at h;cases h
 |t::ts,n,h=>by
  rw[uI]at h⊢;obtain⟨m,hm,h⟩:=cU.mp h;rw[wY rows xs t m hm];exact BU rows xs e ts _ n h
theorem BU(rows xs:List Rw)(e:Bool):∀(ts:List Tm)(m n:Nat),uQ rows e m ts=some n->uQ (rows++xs) e m ts=some n
 |[],m,n,h=>by rw[uQ]at h⊢;exact h
 |t::ts,m,n,h=>by
  rw[uQ]at h⊢;obtain⟨a,ha,h⟩:=cU.mp h;obtain⟨b,hb,h⟩:=cU.mp h;rw[wY rows xs t a ha];show(pM (rows++xs) _).bind _=_;rw[US xs hb];exact BU rows xs e ts _ n h
end
mutual
theorem kJ:∀(t:Tm)(rows:List Rw),∃xs,(dY t rows).1=rows++xs
 | .name x,rows=>by rw[dY];exact uV _ _
 | .node w ts,rows=>by
   rw[dY];split
   ·exact#[[],(cL _).symm]
   ·split
    ·exact#[[],(cL _).symm]
    ·split
     ·exact DA _ ts rows
     ·exact DA _ ts rows
theorem DA(e:Bool):∀(ts:List Tm)(rows:List Rw),∃xs,(jB e ts rows).1=rows++xs
 |[],rows=>by rw[jB];exact#[[],(cL _).symm]
 |t::ts,rows=>by
  rw[jB];obtain⟨xs,hx⟩:=kJ t rows;obtain⟨ys,hy⟩:=qO e ts (dY t rows).1 (mK e (dY t rows).2);exact#[xs++ys,by rw[hy,hx,dD]]
theorem qO(e:Bool):∀(ts:List Tm)(rows:List Rw)(m:Nat),∃xs,(yJ e ts rows m).1=rows++xs
 |[],rows,m=>by rw[yJ];exact#[[],(cL _).symm]
 |t::ts,rows,m=>by
  rw[yJ];obtain⟨xs,hx⟩:=kJ t rows;obtain⟨ys,hy⟩:=uV (dY t rows).1 (.bo (m:Int) (mK e (dY t rows).2:Nat));obtain⟨zs,hz⟩:=qO e ts (xG (dY t rows).1 (.bo (m:Int) (mK e (dY t rows).2:Nat))).1 (xG (dY t rows).1 (.bo (m:Int) (mK e (dY t rows).2:Nat))).2;exact#[xs++(ys++zs),by rw[hz,hy,hx,dD,dD]]
end
mutual
theorem YH:∀(t:Tm)(n:Nat)(rows:List Rw),gA n t->num (dY t rows).1 t=some (dY t rows).2
 | .name x,n,rows,_=>by
   rw[dY,num];obtain⟨k,h1,h2⟩:=HW rows<|.nm x;rw[h1,h2];rfl
 | .node w ts,n,rows,h=>by
   let hf:∀t∈ts,∃m,gA m t:=λt ht=>by
    cases n with
    |zero=>unfold gA at h;rw[h.2]at ht;cases ht
    |succ n=>unfold gA at h;exact#[n,h.2 t ht]
   let hs:Sh w ts.length:=by cases n<;>(unfold gA at h;calc h.1)
   rw[dY,num];split
   ·rfl
   ·split
    ·rfl
    ·rename_i a b
     let mX:ts≠[]:=λz=>by
      subst z;rcases hs with h |h |h |h |h
      ·exact a h.1
      ·exact b h.1
      ·cases h.2
      ·exact absurd h.2 ()
      ·exact absurd h.2 ()
     split
     ·show(uI (jB false ts rows).1 false ts).map rF=_;rw[CY false ts rows hf mX];rfl
     ·show(uI (jB _ ts rows).1 _ ts).map _=_;rw[CY _ ts rows hf mX];rfl
theorem CY(e:Bool):∀(ts:List Tm)(rows:List Rw),(∀t∈ts,∃m,gA m t)->ts≠[]->uI (jB e ts rows).1 e ts=some (jB e ts rows).2
 |[],rows,_,h=>absurd rfl h
 |t::ts,rows,hf,_=>by
  rw[jB,uI];obtain⟨m,hm⟩:=hf t aV;obtain⟨ys,hy⟩:=qO e ts (dY t rows).1 (mK e (dY t rows).2);let h1:=CW e ts (dY t rows).1 (mK e (dY t rows).2) (λu hu=>hf u<|aW _ hu);let h2:=wY _ ys t _<|YH t m rows hm;rw[←hy]at h2;rw[h2];exact h1
theorem CW(e:Bool):∀(ts:List Tm)(rows:List Rw)(m:Nat),(∀t∈ts,∃m,gA m t)->uQ (yJ e ts rows m).1 e m ts=some (yJ e ts rows m).2
 |[],rows,m,_=>by rw[yJ,uQ]
 |t::ts,rows,m,hf=>by
  obtain⟨a,ha⟩:=hf t aV;let h1:=YH t a rows ha;obtain⟨ys,hy⟩:=uV (dY t rows).1 (.bo (m:Int) (mK e (dY t rows).2:Nat));obtain⟨k,hk,b⟩:=HW (dY t rows).1 (.bo (m:Int) (mK e (dY t rows).2:Nat));obtain⟨zs,hz⟩:=qO e ts (xG (dY t rows).1 (.bo (m:Int) (mK e (dY t rows).2:Nat))).1 (xG (dY t rows).1 (.bo (m:Int) (mK e (dY t rows).2:Nat))).2;let f:=CW e ts (xG (dY t rows).1 (.bo (m:Int) (mK e (dY t rows).2:Nat))).1 (xG (dY t rows).1 (.bo (m:Int) (mK e (dY t rows).2:Nat))).2 (λu hu=>hf u<|aW _ hu);rw[yJ,uQ];let c:=wY _ (ys++zs) t _ h1;rw[←dD,←hy,←hz]at c;let d:=US zs hk;rw[←hz]at d;rw[c];show(pM _<|.bo (m:Int) (mK e (dY t rows).2:Nat)).bind _=_;rw[d];show uQ _ e (2*k) ts=_;rw[←b];exact f
end
structure rB(rows:List Rw):Prop where
 in_:∀(k:Nat)(i j:Int),rows[k]?=some (.bo i j)->(0<=i/\i<2*(k:Int))/\0<=j/\j<2*(k:Int)
 hd:rows[0]?=some .no
 few:∀k,rows[k]?=some .no->k=0
 nm:∀(k:Nat)(x:Str),rows[k]?=some (.nm x)->Nm x
theorem rB.pos(h:rB rows):1<=rows.length:=(aD.mp h.hd).1
theorem rB.one:rB [.no]:=by
 let o:∀(k:Nat)(r:Rw),([Rw.no]:List Rw)[k]?=some r->k=0/\r=.no:=λk r h=>by
  cases k with
  |zero=>simp at h;exact#[rfl,h.symm]
  |succ k=>simp at h
 exact#[λk i j h=>(by cases (o k _ h).2),rfl,λk h=>(o k _ h).1,λk x h=>(by cases (o k _ h).2)]
def md(n:Nat):Rw->Prop
 | .no=>False
 | .nm x=>Nm x
 | .bo i j=>(0<=i/\i<2*(n:Int))/\0<=j/\j<2*(n:Int)
theorem rB.snoc(h:rB rows)(hr:md rows.length r):rB (rows++[r]):=by
 let o:∀(k:Nat)(q:Rw),(rows++[r])[k]?=some q->rows[k]?=some q\/(k=rows.length/\q=r):=λk q hq=>by
  by_cases c:k<rows.length
  ·rw[bM c]at hq;exact .inl hq
  ·have :=(aD.mp hq).1;rw[aK,bP]at this;let e:k=rows.length:=by lia
   subst e;rw[bS<|aG _]at hq;simp at hq;exact .inr #[rfl,hq.symm]
 refine#[λk i j hk=>?_,?_,λk hk=>?_,λk x hk=>?_]
 ·rcases o k _ hk with h1 |⟨rfl,rfl⟩
  ·exact h.in_ k i j h1
  ·exact hr
 ·rw[bM (by have :=h.pos;lia)];exact h.hd
 ·rcases o k _ hk with h1 |⟨rfl,rfl⟩
  ·exact h.few k h1
  ·exact hr.elim
 ·rcases o k _ hk with h1 |⟨rfl,rfl⟩
  ·exact h.nm k x h1
  ·exact hr
def Grw(rows:List Rw)(m:Nat)(p:List Rw×Nat):Prop:=rB p.1/\rows.length<=p.1.length/\p.1.length<=rows.length+m/\p.2<2*p.1.length
theorem OY{m:Nat}(h:n<2*m):rF n<2*m:=by unfold rF;lia
theorem YO{e:Bool}{m:Nat}(h:n<2*m):mK e n<2*m:=by
 cases e
 ·exact h
 ·exact OY h
theorem RE{k:Nat}(h:pM rows r=some k):k<rows.length:=by
 unfold pM at h;exact(eU.mp h).1
theorem AJ(h:rB rows)(hr:md rows.length r):Grw rows 1 (xG rows r):=by
 unfold xG;split
 ·rename_i k hk
  have :=RE hk;exact#[h,aG _,lC _,by show 2*k<2*rows.length;lia]
 ·refine#[h.snoc hr,?_,?_,?_]
  ·simp
  ·simp
  ·show 2*rows.length<2*(rows++[r]).length;rw[aK,bP];lia
mutual
theorem qA:∀(t:Tm)(n:Nat)(rows:List Rw),gA n t->rB rows->Grw rows (2*wt t-1) (dY t rows)
 | .name x,n,rows,hf,h=>by
   rw[dY,wt];exact AJ h (by unfold gA at hf;calc hf)
 | .node w ts,n,rows,hf,h=>by
   let a:∀t∈ts,∃m,gA m t:=λt ht=>by
    cases n with
    |zero=>unfold gA at hf;rw[hf.2]at ht;cases ht
    |succ n=>unfold gA at hf;exact#[n,hf.2 t ht]
   let hp:=h.pos;rw[dY,wt];split
   ·exact#[h,aG _,by show rows.length<=_;lia,by show 0<2*rows.length;lia]
   ·split
    ·exact#[h,aG _,by show rows.length<=_;lia,by show 1<2*rows.length;lia]
    ·split
     ·obtain⟨h1,h2,c,b⟩:=CZ false ts rows a h;exact#[h1,h2,by show(jB false ts rows).1.length<=_;lia,OY b]
     ·obtain⟨h1,h2,c,b⟩:=CZ (decide<|w="either") ts rows a h;exact#[h1,h2,by show(jB _ ts rows).1.length<=_;lia,YO b]
theorem CZ(e:Bool):∀(ts:List Tm)(rows:List Rw),(∀t∈ts,∃m,gA m t)->rB rows->Grw rows (2*iW ts) (jB e ts rows)
 |[],rows,_,h=>by
  rw[jB];have :=h.pos;exact#[h,aG _,Nat.le_add_right _ _,by show 0<2*rows.length;lia]
 |t::ts,rows,hf,h=>by
  rw[jB,iW];obtain⟨m,hm⟩:=hf t aV;obtain⟨a,d,f,b⟩:=qA t m rows hm h;obtain⟨b1,b2,g,c⟩:=JI e ts (dY t rows).1 (mK e (dY t rows).2) (λu hu=>hf u<|aW _ hu) a (YO b);let i:=DV t;exact#[b1,(),(),c]
theorem JI(e:Bool):∀(ts:List Tm)(rows:List Rw)(m:Nat),(∀t∈ts,∃m,gA m t)->rB rows->m<2*rows.length->Grw rows (2*iW ts) (yJ e ts rows m)
 |[],rows,m,_,h,hm=>by
  rw[yJ];exact#[h,aG _,Nat.le_add_right _ _,hm]
 |t::ts,rows,m,hf,h,hm=>by
  rw[yJ,iW];obtain⟨n,hn⟩:=hf t aV;obtain⟨a,g,i,b⟩:=qA t n rows hn h;let j:=YO (e:=e) b;obtain⟨c,k,l,d⟩:=AJ (r:=.bo (m:Int) (mK e (dY t rows).2:Nat)) a #[#[(),()],(),()];obtain⟨b1,b2,o,f⟩:=JI e ts _ _ (λu hu=>hf u<|aW _ hu) c d;let p:=DV t;exact#[b1,(),(),f]
end
abbrev o9:Stmt:=top 21
theorem j9:bV ["places","row"] ["places","row"] (zF o9):=by rfl'
abbrev oy:Stmt:=top 20
theorem j5:bV ["places","row","place"] ["places","row"] (zF oy):=by rfl'
abbrev s_M:Stmt:=top 19
theorem sc_M:bV ["sheet"] ["sheet"] (zF s_M):=by rfl'
abbrev s_O:Stmt:=top 22
theorem sc_O:bV ["n","turn"] ["n","turn"] (zF s_O):=by rfl'
abbrev s_d:Stmt:=top 23
theorem oh:bV ["row_number","places","t"] ["row_number","places","t"] (zF s_d):=by rfl'
abbrev s_b:Stmt:=top 24
theorem sc_b:bV ["row_number","places","t","turn","whole","part","last"] ["row_number","places","t"] (zF s_b):=by rfl'
theorem WS{A:Around}{k:Nat}(hr:gK k A):A.units+2<cLine:=eE (Nat.add_le_add_left (by decide:2<=64) _) hr.units
theorem ZX(e:Bool)(n:Nat):Builtin.bitXor (n:Int) (if e=true then 1 else 0)=((mK e n:Nat):Int):=by
 cases e with
 |false=>exact PyProof.Rows.bitXor_zero _
 |true=>
  rw[aT rfl,tW];unfold sP mK rF;rw[aT rfl];lia
noncomputable def jV:Rw->List eV
 | .no=>[.inr "none"]
 | .nm x=>[.inr "name",.inr x]
 | .bo i j=>[.inr "both",.inl i,.inl j]
theorem CF{q:Rw}(h:jV r=jV q):r=q:=by
 cases r<;>cases q<;>simp[jV]at h⊢ <;>first |exact h |exact h.elim
theorem VS(r q:Rw):lL (tD r) (tD q)=true↔r=q:=by
 constructor
 ·intro h;cases r<;>cases q<;>simp[tD,lL,vF]at h⊢ <;>first |exact h |exact h.elim |exact absurd h.1 () |exact absurd h () |skip
 ·rintro rfl;exact xA _
def DI:Nat->Tm->Prop
 |0,_=>False
 |n+1,t=>gA n t
theorem DI.node{wd:Str}(h:DI (n+1) (.node wd ts)):Sh wd ts.length/\∀t∈ts,DI n t:=by
 let h:gA n (.node wd ts):=h;cases n with
 |zero=>unfold gA at h;exact#[h.1,λt ht=>by rw[h.2]at ht;cases ht]
 |succ n=>unfold gA at h;exact h
theorem VQ(a b:Str):lL (.str a) (.str b)=decide (a=b):=by
 rw[cF,bZ];simp[lL]
theorem KR(x y:V)(xs:List V):qN (x::y::xs) (some 2) none=xs:=by
 unfold qN;let e:HT.sIx (x::y::xs).length 0 (some 2)=2:=by
  unfold HT.sIx;simp only[bG];rw[aH ()];lia
 rw[e,HT.sIx_none,aU (by simp)];rfl
noncomputable def rY:List Rw->List Addr->Nat->List XE
 |r::rows,a::as,k=>(jV r,a,V.int (k:Nat))::rY rows as (k+1)
 |_,_,_=>[]
theorem wT:∀(rows:List Rw)(as:List Addr)(k:Nat),as.length=rows.length->(rY rows as k).length=rows.length
 |[],[],_,_=>rfl
 |[],_::_,_,h=>by cases h
 |_::_,[],_,h=>by cases h
 |r::rows,a::as,k,h=>cM (· +1)<|wT rows as (k+1)<|nJ h
theorem ID:∀(rows:List Rw)(as:List Addr)(k:Nat)(x:XE),x∈rY rows as k->∃(i:Nat)(r:Rw)(a:Addr),rows[i]?=some r/\as[i]?=some a/\x.1=jV r/\x.2.1=a
 |[],_,_,_,h=>by unfold rY at h;cases h
 |_::_,[],_,_,h=>by unfold rY at h;cases h
 |r::rows,a::as,k,x,h=>by
  unfold rY at h;rcases bI.mp h with rfl |h
  ·exact#[0,r,a,rfl,rfl,rfl,rfl]
  ·obtain⟨i,b,c,h1,h2,d⟩:=ID rows as (k+1) x h;exact#[i+1,b,c,h1,h2,d]
theorem wS(r:Rw):∀(rows:List Rw)(as:List Addr)(k:Nat),as.length=rows.length->kL (rY rows as k) (jV r)=(pM rows r).map λi=>V.int ((k+i:Nat):Int)
 |[],[],_,_=>rfl
 |[],_::_,_,h=>by cases h
 |_::_,[],_,h=>by cases h
 |q::rows,a::as,k,h=>by
  let b:=wS r rows as (k+1)<|nJ h;unfold kL pM at b⊢;rw[rY,eG,List.findIdx?_cons];by_cases c:q=r
  ·subst c;rw[cN rfl,xA];rfl
  ·rw[cJ λz=>c<|CF z,dM.mpr λz=>c<|(VS q r).mp z];show Option.map _ (List.find? _<|rY rows as<|k+1)=_;rw[b];cases List.findIdx? (λx=>lL (tD x)<|tD r) rows with
   |none=>rfl
   |some i=>show some (V.int ((k+1+i:Nat):Int))=some (V.int ((k+(i+1):Nat):Int));rw[show k+1+i=k+(i+1) by lia]
theorem AQ(r:Rw)(b:Addr):∀(rows:List Rw)(as:List Addr)(k:Nat),as.length=rows.length->rY (rows++[r]) (as++[b]) k=rY rows as k++[(jV r,b,V.int ((k+rows.length:Nat):Int))]
 |[],[],k,_=>rfl
 |[],_::_,_,h=>by cases h
 |_::_,[],_,h=>by cases h
 |q::rows,a::as,k,h=>by
  show(jV q,a,V.int (k:Nat))::rY (rows++[r]) (as++[b]) (k+1)=_;rw[AQ r b rows as (k+1)<|nJ h,show k+1+rows.length=k+(q::rows).length by rw[bG];lia];rfl
theorem AR:∀(rows:List Rw)(as:List Addr)(k:Nat),as.length=rows.length->((rY rows as k).map λx=>V.ref x.2.1)=as.map V.ref
 |[],[],_,_=>rfl
 |[],_::_,_,h=>by cases h
 |_::_,[],_,h=>by cases h
 |q::rows,a::as,k,h=>cM (V.ref a:: ·)<|AR rows as (k+1)<|nJ h
structure Px(P:Program)(w:World)(K:W.Frag)(H J:Hp)(pa:Addr)(rows:List Rw)(as:List Addr):Prop where
 eq:H=upd J pa (DK P w pa<|rY rows as 0)
 no:J pa=none
 len:as.length=rows.length
 few:rows.length<=40
 lo:(pa==sysModules)=false
 keys:∀(i:Nat)(r:Rw)(a:Addr),rows[i]?=some r->as[i]?=some a->Tw K J a ((jV r).map kV)
section
variable {J:Hp} {pa:Addr} {as:List Addr}
theorem Px.at(h:Px P w K H J pa rows as):H pa=some (DK P w pa<|rY rows as 0):=by rw[h.eq];exact zA
theorem Px.sub(h:Px P w K H J pa rows as):aX J H:=by rw[h.eq];exact zB h.no _
theorem Px.dx(h:Px P w K H J pa rows as):sR P w K H pa (rY rows as 0):=by
 calc#[h.at,by rw[wT _ _ _ h.len];have :=h.few;lia,h.lo,λx hx=>?_];obtain⟨i,r,a,h1,h2,b,c⟩:=ID rows as 0 x hx;rw[b,c];exact((h.keys i r a h1 h2).same h.sub).sq
theorem Px.free(h:Px P w K H J pa rows as)(hp:H p=none):J p=none:=h.sub.free hp
theorem Px.ext(h:Px P w K H J pa rows as)(e:aX H H'):∃J',Px P w K H' J' pa rows as/\aX J J':=by
 let sJ:aX J (λb=>if b=pa then none else H' b):=λb o hb=>by
  let mX:b≠pa:=λz=>by rw[z,h.no]at hb;cases hb
  show(if b=pa then none else H' b)=some o;rw[aH mX];exact e _ _<|h.sub _ _ hb
 refine#[λb=>if b=pa then none else H' b,#[?_,aT rfl,h.len,h.few,h.lo,λi r a h1 h2=>(h.keys i r a h1 h2).same sJ],sJ]
 funext b
 by_cases hb:b=pa
 ·subst hb;rw[zA];exact e _ _ h.at
 ·rw[zG hb];exact(aH hb).symm
theorem Px.tup{p:Addr}{vs:List V}(h:Px P w K H J pa rows as)(hp:H p=some (.tup vs)):J p=some (.tup vs):=by
 let hn:p≠pa:=λz=>by rw[z,h.at]at hp;cases hp
 rw[h.eq,zG hn]at hp;exact hp
theorem Px.new(h:Px P w K H J pa rows as)(hp:H p=none)(o:HO):Px P w K (upd H p o) (upd J p o) pa rows as:=by
 let mX:p≠pa:=λz=>by rw[z,h.at]at hp;cases hp
 calc#[?_,by rw[zG<|cE mX];exact h.no,h.len,h.few,h.lo,λi r a h1 h2=>(h.keys i r a h1 h2).same (zB (h.free hp) o)];rw[h.eq]
 funext b
 by_cases h1:b=p
 ·subst h1;rw[zA,zG mX,zA]
 ·rw[zG h1];by_cases h2:b=pa
  ·subst h2;rw[zA,zA]
  ·rw[zG h2,zG h2,zG h1]
end
theorem HU(r:Rw):(jV r).map kV=rwV r:=by cases r<;>rfl
def NY(gr:Bool)(rows fin:List Rw):Prop:=(gr=false->fin=rows)/\fin.length<=40
theorem NY.mid{gr:Bool}{mid fin:List Rw}(h1:∃xs,mid=rows++xs)(h2:∃ys,fin=mid++ys)(h:NY gr rows fin):NY gr rows mid/\NY gr mid fin:=by
 obtain⟨xs,rfl⟩:=h1;obtain⟨ys,rfl⟩:=h2;let hl:=h.2;rw[aK]at hl;refine#[#[λa=>?_,()],λa=>?_,h.2]
 all_goals
  have :=cM List.length<|h.1 a;rw[aK,aK]at this
 ·have :xs=[]:=eS.mp ();rw[this,cL]
 ·have :ys=[]:=eS.mp ();rw[this,cL]
def Fo(P:Program)(w:World)(K:W.Frag)(gr:Bool)(rows:List Rw)(J:Hp)(pa:Addr)(p:List Rw×Nat)(Q:VK):Prop:=
 NY gr rows p.1/\∀(H' J':Hp)(lH:List Addr),aX J J'->Px P w K H' J' pa p.1 lH->Q (.int (p.2:Nat)) H'
inductive LR (P:Program) (w:World) (K:W.Frag) (gr:Bool) (vs:List V) (H:Hp) (Q:VK) (E:XK):Prop
 |mk (pa b:Addr) (J:Hp) (rows:List Rw) (as:List Addr) (r:Rw) (_:vs=[.ref pa,.ref b]) (_:Px P w K H J pa rows as) (_:J b=some (.tup<|(jV r).map kV)) (_:Fo P w K gr rows J pa (xG rows r) Q)
inductive PM (vs:List V) (H:Hp) (Q:VK) (E:XK):Prop
 |mk (n:Nat) (e:Bool) (_:vs=[.int n,.int<|if e then 1 else 0]) (_:Q (.int (mK e n:Nat)) H)
inductive EH (P:Program) (w:World) (K:W.Frag) (gr:Bool) (ff:Addr) (n:Nat) (vs:List V) (H:Hp) (Q:VK) (E:XK):Prop
 |mk (pa:Addr) (v:V) (J:Hp) (rows:List Rw) (as:List Addr) (t:Tm) (_:vs=[.ref ff,.ref pa,v]) (_:Px P w K H J pa rows as) (_:fX J t v) (_:DI n t) (_:Fo P w K gr rows J pa (dY t rows) Q)
inductive spJn (P:Program) (w:World) (K:W.Frag) (gr:Bool) (ff:Addr) (n:Nat) (vs:List V) (H:Hp) (Q:VK) (E:XK):Prop
 |mk (pa ta:Addr) (us:List V) (J:Hp) (rows:List Rw) (as:List Addr) (e:Bool) (ts:List Tm) (_:vs=[.ref ff,.ref pa,.ref ta]) (_:Px P w K H J pa rows as) (_:J ta=some (.tup (.str (if e then"either" else"both")::us))) (_:dQ J ts us) (_:(∀t∈ts,DI n t)) (_:ts≠[]) (_:Fo P w K gr rows J pa ((jB e ts rows).1,mK e (jB e ts rows).2) Q)
section
variable {ff:Addr} {k:Nat} {gr:Bool}
theorem MN(bi:Bi mg)(F:fT K "turned" "turned" s_O f fd):cZ P w K mg base fL 1 f fd ["n","turn"] PM:=by
 refine F.okz sc_O λeO A outer s H vs Q E hr h=>?_
 obtain⟨n,e,rfl,q⟩:=h;calc#[_,have nd:=sc_O.nd;zI<|zR<|wU (yC FC #[] vZ<|yI _) vZ #[],?_];dsimp![];rw[aH (λz=>by cases z),ZX];exact q
theorem MO(g_MOST_ROWS:Gc mg "MOST_ROWS" (.int 40))(bi:Bi mg)(F:fT K "put_in" "put_in" o9 f fd):cZ P w K mg base fL 1 f fd ["places","row"] (LR P w K true):=by
 refine F.okz j9 λeO A outer s H vs Q E hr h=>?_
 obtain⟨pa,b,J,rows,as,r,rfl,d,hb,e,q⟩:=h;calc#[_,have nd:=j9.nd;zC (yA (yC (MK<|xW hr) #[] #[] (by with_unfolding_all rfl)) (zC (yA (yC QK (zO QV rfl bi.len ZA #[]) (ll g_MOST_ROWS rfl)<|yI _) (zI AO) zL)<|zI<|RO (xW hr) #[] #[] (zO QV rfl bi.len ZA #[]) rfl) zL)<|zI<|zR<|yZ VD zS<|RY (xW hr) #[] #[] λ_ _=>rfl,?_];refine zD λN o=>?_
 dsimp![rNiX];let n:=d.few;calc#[_,d.dx,jV r,cW.of<|d.sub _ _ hb,?_];rw[wS r rows as 0 d.len];let fin:∀(mB:List Rw)(lH:List Addr)(G:Hp)(k:Nat),Px P w K G J pa mB lH->pM mB r=some k->Q (.int ((2*k:Nat):Int)) G->N [some<|V.ref pa,some<|V.ref b] G:=λmB lH G k g hk p=>o _ _ (by
  dsimp![tDGX];calc#[_,g.dx,jV r,cW.of<|g.sub _ _ hb,V.int ((0+k:Nat):Int),by rw[wS r mB lH 0 g.len,hk];rfl,?_];calc#[_,rfl,.inl #[(),()],?_];rw[show(2:Int)*((0+k:Nat):Int)=((2*k:Nat):Int) by lia];calc p)
 unfold xG at q e;cases c:pM rows r with
 |some k=>
  rw[c]at q e;rw[aH<|show¬((Option.map (λi:Nat=>V.int ((0+i:Nat):Int))<|some k).isSome=false)from λz=>by cases z];exact fin rows as H k d c<|q H J as (aX.refl _) d
 |none=>
  rw[c]at q e;rw[aT<|show(Option.map (λi:Nat=>V.int ((0+i:Nat):Int)) none).isSome=false from rfl];calc#[_,d.dx,rfl,?_];rw[wT _ _ _ d.len];let l:=e.2;rw[show(rows++[r]).length=rows.length+1 by rw[aK];rfl]at l
  ·rw[aH ()];dsimp![sDPX];calc#[_,d.dx,_,d.dx,jV r,cW.of<|d.sub _ _ hb,by rw[wS r rows as 0 d.len,c];rfl,?_];let j:Px P w K (upd H pa<|DK P w pa<|rY rows as 0++[(jV r,b,V.int ((rY rows as 0).length:Nat))]) J pa (rows++[r]) (as++[b]):=by
    refine#[?_,d.no,by rw[aK,aK,d.len];rfl,by rw[aK,bP];lia,d.lo,λi q a h1 h2=>?_]
    ·rw[AQ r b rows as 0 d.len,wT _ _ _ d.len,HA,d.eq,HF]
    ·by_cases hi:i<rows.length
     ·rw[bM hi]at h1;rw[bM (by rw[d.len];calc hi)]at h2;exact d.keys i q a h1 h2
     ·let m:=(aD.mp h1).1;rw[aK,bP]at m;let t:i=rows.length:=by lia
      subst t;rw[bS<|aG _,iG]at h1;rw[bS (by rw[d.len];calc aG _),d.len,iG]at h2;cases h1;cases h2;exact .inl hb
   exact fin _ _ _ _ j (YV c)<|q _ J _ (aX.refl _) j
theorem SV(bi:Bi mg)(F:fT K "found" "found" oy f fd):cZ P w K mg base fL 1 f fd ["places","row"] (LR P w K false):=by
 refine F.okz j5 λeO A outer s H vs Q E hr h=>?_
 obtain⟨pa,b,J,rows,as,r,rfl,d,hb,a,q⟩:=h;calc#[_,have nd:=j5.nd;zC (xI 2 nd<|d9 (xW hr) #[] #[] #[rfl,rfl,rfl,rfl])<|zI<|zR<|wU (yC FC #[] vZ<|yI _) vZ #[],?_];refine zD λN e=>?_
 dsimp![PB];calc#[_,d.dx,_,d.dx,jV r,cW.of<|d.sub _ _ hb,e _ _ ?_];clear e;rw[wS r rows as 0 d.len];dsimp![];unfold xG at q a;cases c:pM rows r with
 |none=>
  rw[c]at a;have :=cM List.length<|a.1 rfl;rw[aK,bP]at this;lia
 |some k=>
  rw[c]at q;rw[aH λz=>by cases z];calc#[_,rfl,.inl #[(),()],?_];rw[show(2:Int)*((0+k:Nat):Int)=((2*k:Nat):Int) by lia];exact q H J as (aX.refl _) d
end
section
variable {ff:Addr} {k:Nat} {gr:Bool}
theorem MU(eT:NW P w K mg base 1 ff ["places","row"] (LR P w K gr))(h_O:fI P w K mg base 1 "turned" ["n","turn"] PM)(h_d:fI P w K mg base (k+1) "number_by" ["row_number","places","t"] (EH P w K gr ff n))(F:fT K "joined_number" "joined_number" s_b f fd):cZ P w K mg base fL (k+2) f fd ["row_number","places","t"] (spJn P w K gr ff n):=by
 refine F.okz sc_b λeO A outer s H vs Q E hr h=>?_
 obtain⟨pa,ta,us,J,rows,as,e,ts,rfl,px,D,Y,hf,mX,I,q⟩:=h;calc#[_,have nd:=sc_b.nd;zC (xI 3 nd<|wU (yC (wC hr.units) #[] yS<|yI _) zS zS)<|zC #[]<|zC (yD bR rfl (kO<|xM dm #[] (jK zS) jL) #[]<|zC #[]<|zI<|xI 4 nd<|AX (i:=0) eT hr.m #[]) #[],?_];obtain⟨t0,oE,rfl⟩:∃t0 oE,ts=t0::oE:=by
  cases ts with
  |nil=>exact absurd rfl mX
  |cons t0 oE=>exact#[t0,oE,rfl]
 obtain⟨u0,oG,rfl,oA,L⟩:=Y;rw[jB]at q I;obtain⟨Z,l⟩:=I.mid (kJ t0 rows)<|qO e oE _ _;let hul:oG.length=oE.length:=by have :=bN.length L;rwa[aC]at this
 let c:=px.sub _ _ D;refine zD λN d=>?_
 dsimp![RJ];let cont:N [some<|V.ref ff,some<|V.ref pa,some<|V.ref ta,some (V.int<|if e then 1 else 0),none,none,none] H:=d _ _ (by
  clear d;refine zD λN d=>?_
  dsimp![];calc#[_,cW.of c,_,zU (j:=1) rfl,pa,u0,J,rows,as,t0,rfl,px,oA,hf t0 aV,Z,λH1 J1 rJ s1 o=>?_];calc#[_,e,rfl,d _ _ ?_];clear d;generalize (dY t0 rows).1=rows1 at o q l;generalize mK e (dY t0 rows).2=m1 at q l⊢;refine zK (λσ G=>∃(J':Hp)(lH:List Addr)(r u:Option V),aX J J'/\Px P w K G J' pa (yJ e oE rows1 m1).1 lH/\σ=[some<|V.ref ff,some<|V.ref pa,some<|V.ref ta,some (V.int<|if e then 1 else 0),some<|V.int ((yJ e oE rows1 m1).2:Nat),r,u]) (λN d=>?_) λσ G h=>?_
  ·dsimp![rSlG];calc#[_,(s1.trans o.sub) _ _ D,λp H2 s2 kp=>?_];rw[KR]at kp;obtain⟨J2,O,R⟩:=o.ext s2;let kp2:=O.tup kp;calc#[#[_,cW.of kp],?_];refine WZ (xs:=oG) (λi σ G=>∃(J':Hp)(lH:List Addr)(mB:List Rw)(b:Nat)(r u:Option V),aX J2 J'/\Px P w K G J' pa mB lH/\yJ e (oE.drop i) mB b=yJ e oE rows1 m1/\NY gr mB (yJ e oE rows1 m1).1/\σ=[some<|V.ref ff,some<|V.ref pa,some<|V.ref ta,some (V.int<|if e then 1 else 0),some<|V.int (b:Nat),r,u]) #[J2,rJ,rows1,m1,_,_,aX.refl _,O,by rw[pZ],l,rfl] (λi σ G _ h=>by obtain⟨_,_,_,_,_,_,sg,pg,_⟩:=h;calc cW.of<|pg.sub _ _<|sg _ _ kp2) (λi x σ G hx h M hM=>?_) λσ G h=>?_
   ·obtain⟨J3,v,lZ,b,r,u,X,y,a,S,rfl⟩:=h;obtain⟨t,T,oM⟩:=jM (f:=HG) L hx;obtain⟨mN,hie⟩:=aD.mp T;rw[lN mN,hie,yJ]at a;let z:=S;rw[←a]at z;obtain⟨fi5,U⟩:=z.mid (mid:=(dY t lZ).1) (kJ t lZ) (by
     obtain⟨xs,hx⟩:=uV (dY t lZ).1 (.bo (b:Int) (mK e (dY t lZ).2:Nat));obtain⟨ys,hy⟩:=qO e (oE.drop<|i+1) (xG (dY t lZ).1 (.bo (b:Int) (mK e (dY t lZ).2:Nat))).1 (xG (dY t lZ).1 (.bo (b:Int) (mK e (dY t lZ).2:Nat))).2;calc#[xs++ys,by rw[←dD,←hx];calc hy])
    obtain⟨B,g⟩:=U.mid (uV _ _)<|qO e (oE.drop<|i+1) (xG (dY t lZ).1 (.bo (b:Int) (mK e (dY t lZ).2:Nat))).1 (xG (dY t lZ).1 (.bo (b:Int) (mK e (dY t lZ).2:Nat))).2;rw[a]at g;clear z U;let sA:=s1.trans<|R.trans X;refine zD λN d=>?_
    dsimp![];calc#[pa,x,J3,lZ,v,t,rfl,y,eL.same sA oM,hf t<|aW _<|aS T,fi5,λH4 J4 as4 s4 C=>?_];calc#[_,e,rfl,d _ _ ?_];clear d;generalize (dY t lZ).1=rows4 at C a B g;generalize mK e (dY t lZ).2=W at a B g⊢;dsimp![UJ];calc#[zH (),λp2 iP=>?_];let px5:=C.new iP<|.tup [V.str "both",V.int (b:Int),V.int (W:Int)];let s5:=zB (C.free iP)<|.tup [V.str "both",V.int (b:Int),V.int (W:Int)];let k5:upd J4 p2 (.tup [V.str "both",V.int (b:Int),V.int (W:Int)]) p2=some (.tup<|(jV<|.bo (b:Int) (W:Int)).map kV):=zA;calc#[pa,p2,_,rows4,as4,.bo (b:Int) (W:Int),rfl,px5,k5,B,λH6 J6 as6 s6 px6=>?_];exact hM _ _ #[J6,as6,_,_,_,_,X.trans<|s4.trans<|s5.trans s6,px6,a,g,rfl]
   ·obtain⟨J3,v,lZ,b,r,u,X,y,a,S,rfl⟩:=h;rw[hul,List.drop_length,yJ]at a;refine d _ _ #[J3,v,r,u,s1.trans<|R.trans X,?_,?_]
    ·rw[←a];exact y
    ·rw[←a]
  obtain⟨J',lH,r,u,sJ,px',rfl⟩:=h;dsimp![];calc#[_,e,rfl,q _ J' lH sJ px'])
 cases e with
 |true=>exact#[_,cW.of c,_,gR,0,.str "either",rfl,.str "either",rfl,trivial,(),by rw[xA,aT rfl];calc cont]
 |false=>exact#[_,cW.of c,_,gR,0,.str "both",rfl,.str "either",rfl,trivial,(),by rw[show lL (.str "both") (.str "either")=false from by simp[lL];decide,aH ()];calc cont]
theorem MS(eT:NW P w K mg base 1 ff ["places","row"] (LR P w K gr))(h_O:fI P w K mg base 1 "turned" ["n","turn"] PM)(h_d:fI P w K mg base (k+2) "number_by" ["row_number","places","t"] (EH P w K gr ff n))(h_b:fI P w K mg base (k+2) "joined_number" ["row_number","places","t"] (spJn P w K gr ff n))(F:fT K "number_by" "number_by" s_d f fd):cZ P w K mg base fL (k+3) f fd ["row_number","places","t"] (EH P w K gr ff<|n+1):=by
 refine F.okz oh λeO A outer s H vs Q E hr h=>?_
 obtain⟨pa,v,J,rows,as,t,rfl,g,T,hf,b,q⟩:=h;calc#[_,have nd:=oh.nd;zC (yA (yC (wC hr.units) #[] yS<|yI _) #[] zL)<|zC (yA (yC (wC hr.units) #[] yS<|yI _) #[] zL)<|zC (yA (yC (wC hr.units) #[] yS<|yI _) (zI<|zR<|AX (i:=0) eT hr.m #[]) zL)<|zC (yA (yC (wC hr.units) #[] yS<|yI _) #[] zL) #[],?_];cases t with
 |name x=>
  obtain⟨a,vs,rfl,ha,I,Z,rfl,h1,U,W,rfl,h2,L⟩:=T;let h1:I=.str "name":=h1;let h2:U=.str x:=h2;let L:W=[]:=L;subst h1 h2 L;replace ha:=g.sub _ _ ha;dsimp![RJ,UJ];rw[dY]at q b;calc#[_,cW.of ha,_,gR,0,.str "name",rfl,.str "none",rfl,trivial,(),?_];rw[VQ,aH ()];calc#[_,cW.of ha,_,gR,0,.str "name",rfl,.str "all",rfl,trivial,(),?_];rw[VQ,aH ()];calc#[_,cW.of ha,_,gR,0,.str "name",rfl,.str "name",rfl,trivial,(),?_];rw[VQ,aT ()];calc#[_,cW.of ha,_,oQ,zH (),λp2 iP=>?_];let M:=g.new iP<|.tup [V.str "name",V.str x];let X:=zB (g.free iP)<|.tup [V.str "name",V.str x];let Y:upd J p2 (.tup [V.str "name",V.str x]) p2=some (.tup<|(jV<|.nm x).map kV):=zA;exact#[pa,p2,_,rows,as,.nm x,rfl,M,Y,b,λN O l R o=>q N O l (X.trans R) o]
 |node wd ts=>
  obtain⟨a,vs,rfl,ha,I,us,rfl,h1,p⟩:=T;let h1:I=.str wd:=h1;subst h1;obtain⟨hs,y⟩:=hf.node;let C:=g.sub _ _ ha;let step:∀{c:Str}{A B:Prop},(wd=c->A)->(wd≠c->B)->∃x,cW K H a x/\∃x_1,pI x 0=some x_1/\∃n_1 d,eL H d x_1/\∃x,eL H x (V.str c)/\gY (n_1+1) d/\n_1<=60/\if lL d x=true then A else B:=λ{c A B} h1 h2=>by
   calc#[_,cW.of C,_,gR,0,.str wd,rfl,.str c,rfl,trivial,(),?_];rw[VQ];by_cases e:wd=c
   ·rw[aT<|cN e];exact h1 e
   ·rw[aH (by simp[e])];exact h2 e
  dsimp![RJ,UJ];rw[dY]at q b;refine step (λe=>?_) λD=>step (λe=>?_) λG=>step (λe=>?_) λe3=>step (λe=>?_) λS=>?_
  ·rw[aT e]at q;exact q H J as (aX.refl _) g
  ·rw[aH D,aT e]at q;exact q H J as (aX.refl _) g
  ·subst e;rcases hs with h |h |h |h |h<;>exact absurd h.1 ()
  ·subst e;rw[aH D,aH G,aT rfl]at q b;let hl:ts.length=1:=by
    rcases hs with h |h |h |h |h
    ·exact absurd h.1 ()
    ·exact absurd h.1 ()
    ·exact h.2
    ·exact absurd h.1 ()
    ·exact absurd h.1 ()
   obtain⟨t,rfl⟩:∃t,ts=[t]:=by
    cases ts with
    |nil=>simp at hl
    |cons t r=>
     cases r with
     |nil=>exact#[t,rfl]
     |cons _ _=>simp at hl
   obtain⟨u,r,rfl,hu,_⟩:=p;rw[jB,yJ]at q b;exact#[_,cW.of C,_,zU (j:=1) rfl,pa,u,J,rows,as,t,rfl,g,hu,y t aV,b,λN O l R o=>#[_,true,rfl,q N O l R o]]
  ·rw[aH D,aH G,aH S]at q b;refine#[pa,a,us,J,rows,as,decide<|wd="either",ts,rfl,g,?_,(by rw[YL]at p;calc p),y,λz=>?_,b,q]
   ·rw[ha];rcases hs with h |h |h |h |h
    ·exact absurd h.1 D
    ·exact absurd h.1 G
    ·exact absurd h.1 S
    ·rw[h.1];rfl
    ·rw[h.1];rfl
   ·subst z;rcases hs with h |h |h |h |h
    ·exact absurd h.1 D
    ·exact absurd h.1 G
    ·exact absurd h.1 S
    ·exact absurd h.2 ()
    ·exact absurd h.2 ()
theorem FI(F:fT K "number_by" "number_by" s_d f fd)(eT:NW P w K mg base 1 ff ["places","row"] (LR P w K gr))(h_O:fI P w K mg base 1 "turned" ["n","turn"] PM):cZ P w K mg base fL 1 f fd ["row_number","places","t"] (EH P w K gr ff 0):=by
 refine F.okz oh λeO A outer s H vs Q E hr h=>?_
 ·obtain⟨pa,v,J,rows,as,t,rfl,a,b,hf,_⟩:=h;exact hf.elim
theorem wG{g:Addr}{gd:FuncData}(eT:NW P w K mg base 1 ff ["places","row"] (LR P w K gr))(h_O:fI P w K mg base 1 "turned" ["n","turn"] PM)(F:fT K "number_by" "number_by" s_d f fd)(b:Binds K fd ["row_number","places","t"] [])(m:mg "number_by"=some (.ref f))(G:fT K "joined_number" "joined_number" s_b g gd)(bg:Binds K gd ["row_number","places","t"] [])(mgg:mg "joined_number"=some (.ref g)):∀n,fI P w K mg base (2*n+2) "number_by" ["row_number","places","t"]<|EH P w K gr ff n
 |0=>(qW F (FI F eT h_O) b m).mono ()
 |n+1=>by
  let a:=wG eT h_O F b m G bg mgg n;let c:=qW G (MU (k:=2*n+1) eT h_O a G) bg mgg;exact qW F (MS (k:=2*n+1) eT h_O (a.mono ()) c F) b m
end
abbrev s_X:Stmt:=top 25
theorem sc_X:bV ["terms","places","t"] ["terms"] (zF s_X):=by rfl'
noncomputable def yU:List Tm->List Rw->List Rw
 |[],rows=>rows
 |t::ts,rows=>yU ts (dY t rows).1
theorem JH:∀(ts:List Tm)(rows:List Rw),∃xs,yU ts rows=rows++xs
 |[],rows=>#[[],(cL _).symm]
 |t::ts,rows=>by
  obtain⟨xs,hx⟩:=kJ t rows;obtain⟨ys,hy⟩:=JH ts (dY t rows).1;exact#[xs++ys,by rw[yU,hy,hx,dD]]
inductive spSo (K:W.Frag) (vs:List V) (H:Hp) (Q:VK) (E:XK):Prop
 |mk (ta:Addr) (us:List V) (ts:List Tm) (_:vs=[.ref ta]) (_:H ta=some (.lst us)) (_:dQ H ts us) (_:(∀t∈ts,DI 21 t)) (_:(yU ts [.no]).length<=40) (_:∀(p:Addr)(ws:List V)(H':Hp),aX H H'->H' p=some (.lst ws)->gJ K H' (yU ts [.no]) ws->Q (.ref p) H')
theorem PY{K:W.Frag}{H:Hp}:∀(rows:List Rw)(as:List Addr),as.length=rows.length->(∀(i:Nat)(r:Rw)(a:Addr),rows[i]?=some r->as[i]?=some a->Tw K H a ((jV r).map kV))->gJ K H rows (as.map V.ref)
 |[],[],_,_=>rfl
 |[],_::_,h,_=>by cases h
 |_::_,[],h,_=>by cases h
 |r::rows,a::as,h,hk=>#[_,_,rfl,#[a,rfl,by rw[←HU];calc hk 0 r a rfl rfl],PY rows as (nJ h) λi b c h1 h2=>hk (i+1) b c h1 h2]
section
variable {ff aN:Addr}
theorem BG(g_NONE_ROW:Gc mg "NONE_ROW" (.ref aN))(hNo:∀H,Tw K H aN [.str "none"])(mf_put_in:mg "put_in"=some (.ref ff))(bi:Bi mg)(h_d:fI P w K mg base 44 "number_by" ["row_number","places","t"] (EH P w K true ff 21))(F:fT K "sheet_of" "sheet_of" s_X f fd):cZ P w K mg base fL 45 f fd ["terms"] (spSo K):=by
 refine F.okz sc_X λeO A outer s H vs Q E hr h=>?_
 obtain⟨ta,us,ts,rfl,e,g,hf,j,q⟩:=h;let o:us.length=ts.length:=by have :=bN.length g;rwa[aC]at this
 calc#[_,have nd:=sc_X.nd;zC (xI 1 nd<|RX (xW hr) (ll g_NONE_ROW rfl) zS)<|zC (yD bR rfl #[] #[]<|zI<|xJ<|zV h_d hr.m rfl<|zE (EY mf_put_in rfl) #[])<|zI<|zR<|RV rfl bi.list rfl #[],?_];refine zD λN n=>?_
 dsimp![tDX1];refine λpa nX p=>#[jV .no,(hNo _).sq,zA,n _ _ ?_]
 clear n;let c:Px P w K (upd (upd H pa<|DK P w pa []) pa<|DK P w pa [(jV .no,aN,V.int 0)]) H pa [.no] [aN]:=by
  calc#[by rw[HF];rfl,nX,rfl,(),p,λi r a h1 h2=>?_];cases i with
  |zero=>cases h1;cases h2;exact hNo _
  |succ i=>cases h1
 generalize upd (upd H pa<|DK P w pa []) pa (DK P w pa [(jV .no,aN,V.int 0)])=H0 at c⊢;refine zK (λσ G=>∃(J:Hp)(as:List Addr)(d:Option V),aX H J/\Px P w K G J pa (yU ts [.no]) as/\σ=[some<|V.ref ta,some<|V.ref pa,d]) (λN n=>?_) λσ G h=>?_
 ·dsimp![];calc#[#[_,cO.of<|c.sub _ _ e],?_];refine xP (xs:=us) (λi σ G=>∃(J:Hp)(as:List Addr)(rows:List Rw)(d:Option V),aX H J/\Px P w K G J pa rows as/\yU (ts.drop i) rows=yU ts [.no]/\σ=[some<|V.ref ta,some<|V.ref pa,d]) #[H,_,_,_,aX.refl _,c,by rw[pZ],rfl] (λi σ G _ h=>by obtain⟨_,_,_,_,y,pg,_⟩:=h;calc cO.of<|pg.sub _ _<|y _ _ e) (λi x σ G hx h M B=>?_) λσ G h=>?_
  ·obtain⟨J,as,rows,d,sJ,b,hb,rfl⟩:=h;obtain⟨t,k,oM⟩:=jM (f:=HG) g hx;obtain⟨mN,u⟩:=aD.mp k;rw[lN mN,u,yU]at hb;dsimp![];calc#[pa,x,J,rows,as,t,rfl,b,eL.same sJ oM,hf t<|aS k,#[(λz=>by cases z),by obtain⟨ys,hy⟩:=JH (ts.drop<|i+1) (dY t rows).1;rw[←hb,hy,aK]at j;lia],λH1 C rJ s1 v=>?_];exact B _ _ #[C,rJ,_,_,sJ.trans s1,v,hb,rfl]
  ·obtain⟨J,as,rows,d,sJ,b,hb,rfl⟩:=h;rw[o,List.drop_length,yU]at hb;exact n _ _ #[J,as,d,sJ,by rw[←hb];exact b,rfl]
 obtain⟨J,as,d,sJ,b,rfl⟩:=h;dsimp![tLX];calc#[_,b.dx,λl hl=>?_];rw[AR _ _ _ b.len];let sl:=zB hl<|.lst<|as.map V.ref;exact q l _ _ (sJ.trans<|b.sub.trans sl) zA (PY _ _ b.len λi r a h1 h2=>(b.keys i r a h1 h2).same (b.sub.trans sl))
end
abbrev ph:Stmt:=top 13
theorem kf:bV ["book","saying","terms","rule","premise"] ["book","saying"] (zF ph):=by rfl'
abbrev pJ:=List (Tm×Tm)×(Tm×Tm)
noncomputable def lF(p:Tm×Tm):List Tm:=[p.1,p.2]
noncomputable def jI(ps:List (Tm×Tm)):List Tm:=ps.flatMap lF
noncomputable def OE(r:pJ):List Tm:=jI r.1++lF r.2
noncomputable def lG(rs:List pJ):List Tm:=rs.flatMap OE
theorem LN{ps:List (Tm×Tm)}{p:Tm×Tm}(h:ps[i]?=some p):jI (ps.take<|i+1)=jI (ps.take i)++lF p:=by
 obtain⟨a,b⟩:=aD.mp h;unfold jI;rw[aI a,b,lW];simp
theorem AA{rs:List pJ}{r:pJ}(h:rs[i]?=some r):lG (rs.take<|i+1)=lG (rs.take i)++OE r:=by
 obtain⟨a,b⟩:=aD.mp h;unfold lG;rw[aI a,b,lW];simp
theorem LP(rs:List pJ)(i:Nat):(lG<|rs.take i).length<=(lG rs).length:=by
 have :lG rs=lG (rs.take i)++lG (rs.drop i):=by
  unfold lG;rw[←lW,eN]
 rw[this,aK];lia
theorem EE(ps:List (Tm×Tm))(i:Nat):(jI<|ps.take i).length<=(jI ps).length:=by
 have :jI ps=jI (ps.take i)++jI (ps.drop i):=by
  unfold jI;rw[←lW,eN]
 rw[this,aK];lia
abbrev mU(H:Hp)(rs:List pJ)(vs:List V):Prop:=bN H (rs.map ZN) vs
theorem mU.length{rs:List pJ}{vs:List V}(h:mU H rs vs):vs.length=rs.length:=by
 have :=bN.length h;rw[aC]at this;exact this
theorem mU.getV{rs:List pJ}{vs:List V}(h:mU H rs vs)(hv:vs[i]?=some v):∃r,rs[i]?=some r/\me H r v:=by
 let hi:i<rs.length:=by rw[←h.length];exact(aD.mp hv).1
 obtain⟨u,h1,h2⟩:=bN.get (d:=ZN rs[i]) h (by rw[aF,aA hi];rfl);rw[hv]at h1;cases h1;exact#[_,aA hi,h2]
theorem rK.two{p:Tm×Tm}(h:rK H p v):∃a us,v=.ref a/\H a=some (.tup us)/\dQ H (lF p) us/\us.length=2:=by
 obtain⟨a,b,c,d,e,f,g⟩:=rK.out h;exact#[a,_,d,e,#[b,_,rfl,f,c,_,rfl,g,rfl],rfl]
theorem wQ{o:HO}(e:aX H H')(hp:H p=none):aX H (upd H' p o):=e.upd hp
inductive spTI (vs:List V) (H:Hp) (Q:VK) (E:XK):Prop
 |mk (a:Addr) (sv:V) (bs:List V) (rs:List pJ) (s:Tm×Tm) (_:vs=[.ref a,sv]) (_:H a=some (.lst bs)) (_:mU H rs bs) (_:rK H s sv) (_:(lG rs).length<=1000) (_:∀p us H',aX H H'->H' p=some (.lst us)->dQ H' (lG rs++lF s) us->Q (.ref p) H')
theorem BE(bi:Bi mg)(F:fT K "terms_in" "terms_in" ph f fd):cZ P w K mg base fL 1 f fd ["book","saying"] spTI:=by
 refine F.okz kf λeO A outer s H vs Q E hr h=>?_
 obtain⟨a,sv,bs,rs,s,rfl,ha,iO,hs,hz,q⟩:=h;let I:=iO.length;calc#[_,have nd:=kf.nd;zC #[]<|zC (yD bR rfl #[] #[]<|zC (yD bR rfl #[] #[]<|zI<|xJ<|qK cR gS mC wD #[] #[])<|zI<|xJ<|qK cR gS mC wD #[] #[])<|zC (xJ<|qK cR gS mC wD #[] #[]) #[],?_];refine zD λN k=>?_
 dsimp![];calc#[zH (),λp hp=>k _ _ ?_];refine zK (λσ H'=>aX H H'/\(∃us,H' p=some (.lst us)/\dQ H (lG rs) us)/\∃n d,σ=[some<|V.ref a,some sv,some<|V.ref p,n,d]) (λN k=>?_) λσ H' h=>?_
 ·dsimp![];calc#[#[_,cO.of<|zB hp _ _ _ ha],?_];refine xP (xs:=bs) (λi σ H'=>aX H H'/\(∃us,H' p=some (.lst us)/\dQ H (lG<|rs.take i) us)/\∃n d,σ=[some<|V.ref a,some sv,some<|V.ref p,n,d]) ?_ (λi σ H' _ h=>cO.of<|h.1 _ _ ha) (λi x σ H' hx h M J=>?_) λσ H' h=>?_
  ·exact#[zB hp _,#[[],zA,rfl],_,_,rfl]
  ·obtain⟨es,⟨us,c,b⟩,n,d,rfl⟩:=h;obtain⟨r,o,oM⟩:=iO.getV hx;obtain⟨ra,l,L,vs,rfl,t,hl,u,z⟩:=me.out oM;let O:vs.length=r.1.length:=mT.length u;let B:=LP rs<|i+1;rw[AA o,aK]at B;let R:(OE r).length=(jI r.1).length+2:=by unfold OE;rw[aK];rfl
   show LQ _ _ _ _ _;refine zK (λσ H'=>aX H H'/\(∃us,H' p=some (.lst us)/\dQ H (lG (rs.take i)++jI r.1) us)/\∃d,σ=[some<|V.ref a,some sv,some<|V.ref p,some<|V.ref ra,d]) (λN k=>?_) λσ H' h=>?_
   ·dsimp![];calc#[_,cW.of<|es _ _ t,.ref l,gR,_,rfl,#[_,cO.of<|es _ _ hl],?_];refine xP (xs:=vs) (λj σ H'=>aX H H'/\(∃us,H' p=some (.lst us)/\dQ H (lG (rs.take i)++jI (r.1.take j)) us)/\∃d,σ=[some<|V.ref a,some sv,some<|V.ref p,some<|V.ref ra,d]) ?_ (λj σ H' _ h=>cO.of<|h.1 _ _ hl) (λj y σ H' hy h M2 C=>?_) λσ H' h=>?_
    ·exact#[es,#[us,c,by simpa[jI]using b],_,rfl]
    ·obtain⟨es,⟨us,c,b⟩,d,rfl⟩:=h;obtain⟨T,D,G⟩:=mT.getV u hy;obtain⟨sa,ws,rfl,mS,e,v⟩:=rK.two G;let g:=b.length;let S:=EE r.1 j;rw[aK]at g;dsimp![wR];calc#[.inl #[rfl,_,cO.of c],_,c,_,cW.of<|es _ _ mS,bX (m:=1000000) () (),?_];calc C _ _ #[wQ es hp,#[_,zA,?_],_,rfl];rw[LN D,←dD];exact dQ.append b e
    ·obtain⟨es,⟨us,c,b⟩,d,rfl⟩:=h;rw[show r.1.take vs.length=r.1 from aU ()]at b;exact k _ _ #[es,#[us,c,b],_,rfl]
   ·obtain⟨es,⟨us,c,b⟩,d,rfl⟩:=h;obtain⟨sa,ws,rfl,mS,e,v⟩:=rK.two z;let g:=b.length;rw[aK]at g;dsimp![wR];calc#[.inl #[rfl,_,cO.of c],_,cW.of<|es _ _ t,.ref sa,oQ,sa,rfl,_,c,_,cW.of<|es _ _ mS,bX (m:=1000000) () (),?_];calc J _ _ #[wQ es hp,#[_,zA,?_],_,_,rfl];rw[AA o];unfold OE;rw[←dD];exact dQ.append b e
  ·obtain⟨es,⟨us,c,b⟩,n,d,rfl⟩:=h;rw[aU ()]at b;exact k _ _ #[es,#[us,c,b],_,_,rfl]
 ·obtain⟨es,⟨us,c,b⟩,n,d,rfl⟩:=h;obtain⟨sa,ws,rfl,mS,e,v⟩:=rK.two hs;let g:=b.length;refine zD λN k=>?_
  dsimp![wR];calc#[.inl #[rfl,_,cO.of c],_,c,_,cW.of<|es _ _ mS,bX (m:=1000000) () (),k _ _ ?_];dsimp![];exact q p _ _ (wQ es hp) zA<|bN.same (wQ es hp)<|dQ.append b e
abbrev s_W:Stmt:=top 26
theorem sc_W:bV ["places","saying"] ["places","saying"] (zF s_W):=by rfl'
abbrev s_n:Stmt:=top 27
theorem sc_n:bV ["places","rule"] ["places","rule"] (zF s_n):=by rfl'
abbrev qd:Stmt:=top 28
theorem kx:bV ["sheet","book","places"] ["sheet","book"] (zF qd):=by rfl'
theorem HS{K:W.Frag}{H:Hp}:∀(rows:List Rw)(us:List V),gJ K H rows us->∃as:List Addr,us=as.map V.ref/\as.length=rows.length/\∀(i:Nat)(r:Rw)(a:Addr),rows[i]?=some r->as[i]?=some a->Tw K H a ((jV r).map kV)
 |[],us,h=>#[[],h,rfl,λi r a h=>by simp at h]
 |r::rows,us,⟨v,vs,b,⟨a,c,d⟩,e⟩=>by
  obtain⟨as,f,g,j⟩:=HS rows vs e;subst b c f;calc#[a::as,rfl,cM (· +1) g,λi k l h1 h2=>?_];cases i with
  |zero=>cases h1;cases h2;rw[HU];exact d
  |succ i=>exact j i k l (by simpa using h1) (by simpa using h2)
theorem IE:∀(rows:List Rw)(as:List Addr)(k i:Nat)(x:XE),(rY rows as k)[i]?=some x->∃r a,rows[i]?=some r/\as[i]?=some a/\x=(jV r,a,V.int ((k+i:Nat):Int))
 |[],_,_,_,_,h=>by unfold rY at h;simp at h
 |_::_,[],_,_,_,h=>by unfold rY at h;simp at h
 |r::rows,a::as,k,0,x,h=>by cases h;exact#[r,a,rfl,rfl,rfl]
 |r::rows,a::as,k,i+1,x,h=>by
  obtain⟨b,c,h1,h2,d⟩:=IE rows as (k+1) i x (by simpa[rY]using h);exact#[b,c,by simpa using h1,by simpa using h2,by rw[d,show k+1+i=k+(i+1) by lia]]
theorem AS:∀(rows:List Rw)(as:List Addr)(k:Nat),as.length=rows.length->(rY rows as k).map (·.1)=rows.map jV
 |[],[],_,_=>rfl
 |[],_::_,_,h=>by cases h
 |_::_,[],_,h=>by cases h
 |q::rows,a::as,k,h=>cM (jV q:: ·)<|AS rows as (k+1)<|nJ h
inductive nw (P:Program) (w:World) (K:W.Frag) (vs:List V) (H:Hp) (Q:VK) (E:XK):Prop
 |mk (sa:Addr) (us:List V) (rows:List Rw) (_:vs=[.ref sa]) (_:H sa=some (.lst us)) (_:gJ K H rows us) (_:rows.Nodup) (_:rows.length<=40) (_:∀pa as J H',aX H J->Px P w K H' J pa rows as->Q (.ref pa) H')
noncomputable def nS(rows:List Rw)(s:Tm×Tm):Pr:=(((dY s.1 rows).2:Nat),((dY s.2 rows).2:Nat))
noncomputable def nR(rows:List Rw)(r:List (Tm×Tm)×(Tm×Tm)):xT:=(r.1.map<|nS rows,nS rows r.2)
def jc(rows:List Rw)(t:Tm):Prop:=gA 20 t/\(dY t rows).1=rows
def ce(rows:List Rw)(s:Tm×Tm):Prop:=jc rows s.1/\jc rows s.2
def uu(rows:List Rw)(r:List (Tm×Tm)×(Tm×Tm)):Prop:=r.1.length<=5/\(∀s∈r.1,ce rows s)/\ce rows r.2
inductive ny (P:Program) (w:World) (K:W.Frag) (vs:List V) (H:Hp) (Q:VK) (E:XK):Prop
 |mk (pa:Addr) (v:V) (rows:List Rw) (as:List Addr) (s:Tm×Tm) (J:Hp) (_:vs=[.ref pa,v]) (_:Px P w K H J pa rows as) (_:rK J s v) (_:ce rows s) (_:∀p J' H' lH,aX J J'->Px P w K H' J' pa rows lH->J' p=some (.tup [.int (nS rows s).1,.int (nS rows s).2])->Q (.ref p) H')
inductive spNr (P:Program) (w:World) (K:W.Frag) (vs:List V) (H:Hp) (Q:VK) (E:XK):Prop
 |mk (pa:Addr) (v:V) (rows:List Rw) (as:List Addr) (r:List (Tm×Tm)×(Tm×Tm)) (J:Hp) (_:vs=[.ref pa,v]) (_:Px P w K H J pa rows as) (_:me J r v) (_:uu rows r) (_:∀v' J' H' lH,aX J J'->Px P w K H' J' pa rows lH->eL J' (l6<|nR rows r) v'->Q v' H')
inductive spNm (K:W.Frag) (vs:List V) (H:Hp) (Q:VK) (E:XK):Prop
 |mk (sa ba:Addr) (us bs:List V) (rows:List Rw) (b:List (List (Tm×Tm)×(Tm×Tm))) (_:vs=[.ref sa,.ref ba]) (_:H sa=some (.lst us)) (_:gJ K H rows us) (_:rows.Nodup) (_:rows.length<=40) (_:H ba=some (.lst bs)) (_:mU H b bs) (_:b.length<=100) (_:(∀r∈b,uu rows r)) (_:∀p ws H',aX H H'->H' p=some (.lst ws)->bN H' ((b.map<|nR rows).map l6) ws->Q (.ref p) H')
section
variable {ff:Addr}
theorem MQ(bi:Bi mg)(be:mg "enumerate"=none)(F:fT K "places_of" "places_of" s_M f fd):cZ P w K mg base fL 1 f fd ["sheet"] (nw P w K):=by
 refine F.okz sc_M λeO A outer s H vs Q E hr h=>?_
 obtain⟨sa,us,rows,rfl,mS,oN,iD,oB,q⟩:=h;obtain⟨bs,rfl,g,m⟩:=HS _ _ oN;calc#[_,have nd:=sc_M.nd;zI<|zR<|xF (CS<|WS hr) rfl bi.dict YG<|zE (zW ["k","row"] [] [] #[] (λ_ _ _ _ nd=>qQ (K:=K) (n:=2) rfl<|yE (yG 0 nd)<|yE (yG 1 nd) jS) (λ_ _ _ _=>zY) λ_ _ _ _=>#[]) zJ,?_];dsimp![vW];calc#[_,mS,?_];refine ik (xs:=bs.map V.ref) (λi ys σ H'=>aX H H'/\(∃as:List Addr,ys=as.map V.ref/\as.length=i/\∀(j:Nat)(a b:Addr),as[j]?=some a->bs[j]?=some b->H' a=some (.tup [.ref b,.int (j:Nat)]))/\∃u v,σ=[u,v]) #[aX.refl _,#[[],rfl,rfl,λj a r h=>by simp at h],_,_,rfl] (zH (by rw[aC];lia)) (λi ys σ H' e=>?_) (λi ys σ H' e=>e.1 _ _ mS) (λi x ys σ H' p C hx e hp J=>?_) λys σ H' e p hp=>?_
 ·obtain⟨_,⟨as,rfl,h1,_⟩,_⟩:=e;rw[aC,h1];exact aG _
 ·obtain⟨es,⟨as,rfl,h1,y⟩,u,v,rfl⟩:=e;rw[aF]at hx;obtain⟨b,hb,rfl⟩:=aL.mp hx;let c:=zB hp<|.tup [V.int i,V.ref b];dsimp![uA,jN,uK];calc#[_,cW.of zA,rfl,_,_,rfl,_,_,rfl,rfl,?_];generalize upd H' p (.tup [V.int i,V.ref b])=H1 at c⊢;calc#[zH (),λL B=>J _ _ _ ?_];let I:=zB B<|.tup [V.ref b,V.int i];calc#[es.trans<|c.trans I,#[as++[L],by rw[aQ];rfl,by rw[aK,h1];rfl,λj a M ha l=>?_],_,_,rfl];by_cases O:j<i
  ·rw[bM ()]at ha;exact(c.trans I) _ _ (y j a M ha l)
  ·let D:j=i:=by
    have :=(aD.mp ha).1;rw[aK]at this;simp at this;lia
   rw[D,←h1,bS<|aG _]at ha;simp at ha;subst ha;rw[D,hb]at l;cases l;rw[D];exact zA
 obtain⟨es,⟨as,rfl,h1,y⟩,u,v,rfl⟩:=e;rw[aC]at h1;let c:=zB hp<|.lst<|as.map V.ref;refine#[p,rfl,as,cO.of zA,rY rows bs 0,by rw[wT _ _ _ g];lia,by rw[AS _ _ _ g];exact nM.mpr (iD.imp λmX z=>mX<|CF z),λi x hi=>?_,λd hd G=>?_]
 ·obtain⟨r,b,o,t,rfl⟩:=IE _ _ _ _ _ hi;let mN:=(aD.mp o).1;let N:=y i (as[i]'()) b (aA ()) t;exact#[_,aA (),cW.of (c _ _ (by rw[HA];calc N)),((m i r b o t).same (es.trans c)).sq]
 ·exact q d bs _ _ (es.trans c) #[rfl,hd,g,oB,G,λi r a o t=>(m i r a o t).same (es.trans c)]
theorem FH(mf_found:mg "found"=some (.ref ff))(h_d:fI P w K mg base 44 "number_by" ["row_number","places","t"] (EH P w K false ff 21))(F:fT K "pair_of" "pair_of" s_W f fd):cZ P w K mg base fL 45 f fd ["places","saying"] (ny P w K):=by
 refine F.okz sc_W λeO A outer s H vs Q E hr h=>?_
 obtain⟨pa,v,rows,as,s,J,rfl,d,i,⟨⟨j,e⟩,k,g⟩,q⟩:=h;obtain⟨a,l,n,rfl,ha,o,r⟩:=i.out;calc#[_,have nd:=sc_W.nd;zI<|zR<|yW<|zE (zV h_d hr.m rfl<|zE (EY mf_found rfl) #[])<|zE (zV h_d hr.m rfl<|zE (EY mf_found rfl) #[]) zJ,?_];dsimp![];calc#[_,cW.of<|d.sub _ _ ha,_,gR,pa,l,J,rows,as,s.1,rfl,d,o,j,#[λ_=>e,by rw[e];calc d.few],λH1 u rJ s1 b=>?_];rw[e]at b;calc#[_,cW.of<|b.sub _ _<|s1 _ _ ha,_,oQ,pa,n,u,rows,rJ,s.2,rfl,b,eL.same s1 r,k,#[λ_=>g,by rw[g];calc d.few],λH2 x b7 s2 c=>#[zH (),λp hp=>?_]];rw[g]at c;exact q p _ _ b7 (s1.trans<|s2.trans<|zB (c.free hp) _) (c.new hp _) zA
theorem kQ(h_W:fI P w K mg base 45 "pair_of" ["places","saying"] (ny P w K))(F:fT K "numbered_rule" "numbered_rule" s_n f fd):cZ P w K mg base fL 46 f fd ["places","rule"] (spNr P w K):=by
 refine F.okz sc_n λeO A outer s H vs Q E hr h=>?_
 obtain⟨pa,v,rows,as,r,J,rfl,B,W,⟨hl,D,hc⟩,q⟩:=h;obtain⟨a,l,u,vs,rfl,ha,j,c,I⟩:=W.out;let L:=c.length;calc#[_,have nd:=sc_n.nd;zI<|zR<|yW<|zE (zW ["premise"] ["places"] [0] #[] (λ_ _ _ _ nd=>yG 0 nd) (λ_ _ _ _=>zY) λ_ _ _ _=>(zV h_W hr.m rfl #[])) #[],?_];dsimp![];calc#[_,cW.of<|B.sub _ _ ha,_,gR,l,rfl,#[_,cO.of<|B.sub _ _ j],?_];refine yM (xs:=vs) (λi ys σ G=>∃J' lH,aX J J'/\Px P w K G J' pa rows lH/\bN J' ((r.1.take i).map λs=>OG<|nS rows s) ys/\∃o,σ=[o,some<|V.ref pa]) #[J,as,aX.refl _,B,rfl,_,rfl] (zH ()) (λi ys σ G e=>?_) (λi ys σ G e=>?_) (λi x ys σ G C hx e X=>?_) λys σ G e p hp=>?_
 ·obtain⟨J',_,_,_,hd,_⟩:=e;have :=bN.length hd;rw[aC,bD]at this;lia
 ·obtain⟨J',lH,sJ,d,_⟩:=e;exact cO.of<|d.sub _ _<|sJ _ _ j
 ·obtain⟨J',lH,sJ,d,hd,o,rfl⟩:=e;obtain⟨s1,k,oM⟩:=c.getV hx;obtain⟨mN,M⟩:=aD.mp k;dsimp![];calc#[pa,x,rows,lH,s1,J',rfl,d,eL.same sJ oM,D s1<|aS k,λp N Y b7 S b hp=>X _ _ _ #[N,b7,sJ.trans S,b,?_,_,rfl]];rw[aI mN,M,aQ];exact bN.append (bN.same S hd)<|bN.one #[p,_,rfl,hp,_,_,rfl,rfl,_,_,rfl,rfl,rfl]
 obtain⟨T,rJ,s1,n,hd,o,rfl⟩:=e;let b:=n.new hp<|.lst ys;let s2:=zB (n.free hp)<|.lst ys;let kp:upd T p (.lst ys) p=some (.lst ys):=zA;generalize upd T p (.lst ys)=N at b s2 kp;generalize upd G p (.lst ys)=Y at b⊢;let g:=s1.trans s2;calc#[_,cW.of<|b.sub _ _<|g _ _ ha,_,oQ,pa,u,rows,rJ,r.2,N,rfl,b,eL.same g I,hc,λU J3 G3 O R t Z=>#[zH (),λp4 y=>?_]];let z:=zB (t.free y)<|.tup [V.ref p,V.ref U];calc q _ _ _ O (g.trans<|R.trans z) (t.new y _) #[p4,_,rfl,zA,_,_,rfl,#[p,ys,rfl,(R.trans z) _ _ kp,?_],_,_,rfl,#[U,_,rfl,z _ _ Z,_,_,rfl,rfl,_,_,rfl,rfl,rfl],rfl];show bN _ ((r.1.map<|nS rows).map OG) ys;rw[dC];rw[L,aU<|aG _]at hd;exact bN.same (s2.trans<|R.trans z) hd
theorem BJ(bi:Bi mg)(h_M:fI P w K mg base 1 "places_of" ["sheet"] (nw P w K))(h_n:fI P w K mg base 46 "numbered_rule" ["places","rule"] (spNr P w K))(F:fT K "numbered" "numbered" qd f fd):cZ P w K mg base fL 47 f fd ["sheet","book"] (spNm K):=by
 refine F.okz kx λeO A outer s H vs Q E hr h=>?_
 obtain⟨sa,ba,us,bs,rows,b,rfl,mS,oN,iD,oB,j,hb,z,k,q⟩:=h;let l:bs.length=b.length:=by have :=bN.length hb;rwa[aC]at this
 calc#[_,have nd:=kx.nd;zC (xR (i:=2) nd rfl (Or.inr rfl) #[])<|zI<|zR<|zW ["rule"] ["places"] [2] #[] (λ_ _ _ _ nd=>yG 0 nd) (λ_ _ _ _=>zY) λ_ _ _ _=>(zV h_n hr.m rfl #[]),?_];refine zD λN u=>?_
 dsimp![];calc#[sa,us,rows,rfl,mS,oN,iD,oB,λd as J H1 s1 v=>u _ _ ?_];clear u;dsimp![];let a:=s1 _ _ j;calc#[#[_,cO.of<|v.sub _ _ a],?_];refine yM (xs:=bs) (λi ys σ G=>∃J' lH,aX J J'/\Px P w K G J' d rows lH/\bN J' ((b.take i).map λr=>l6<|nR rows r) ys/\∃o,σ=[o,some<|V.ref d]) #[J,as,aX.refl _,v,rfl,_,rfl] (zH ()) (λi ys σ G e=>?_) (λi ys σ G e=>?_) (λi x ys σ G C hx e B=>?_) λys σ G e p hp=>?_
 ·obtain⟨J',_,_,_,hd,_⟩:=e;have :=bN.length hd;rw[aC,bD]at this;lia
 ·obtain⟨J',lH,sJ,c,_⟩:=e;exact cO.of<|c.sub _ _<|sJ _ _ a
 ·obtain⟨J',lH,sJ,c,hd,o,rfl⟩:=e;obtain⟨r,mM,oM⟩:=jM hb hx;obtain⟨mN,n⟩:=aD.mp mM;dsimp![];calc#[d,x,rows,lH,r,J',rfl,c,eL.same (s1.trans sJ) oM,k r<|aS mM,λv' D L b7 y t I=>B _ _ _ #[D,b7,sJ.trans y,t,?_,_,rfl]];rw[aI mN,n,aQ];exact bN.append (bN.same y hd)<|bN.one I
 obtain⟨M,rJ,sJ,g,hd,o,rfl⟩:=e;rw[l,aU<|aG _]at hd;let sp:=zB hp<|.lst ys;calc q p ys _ (s1.trans<|sJ.trans<|g.sub.trans sp) zA ?_;rw[dC];exact bN.same (g.sub.trans sp) hd
end
abbrev pf:Stmt:=top 2
theorem ka:bV ["numbers","mask","n"] ["numbers"] (zF pf):=by rfl'
abbrev s_v:Stmt:=qS (top 41) 0
theorem sc_v:bV ["self","many","clashes","a","b"] ["self","many","clashes"] (zF s_v):=by rfl'
abbrev s_j:Stmt:=qS (top 41) 1
theorem sc_j:bV ["self","sets","common","spots"] ["self","sets"] (zF s_j):=by rfl'
abbrev s_i:Stmt:=qS (top 41) 2
theorem sc_i:bV ["self","spots"] ["self","spots"] (zF s_i):=by rfl'
def jR(m:Nat)(ns:List Nat):Prop:=∀i,m.testBit i=decide (i∈ns)
def EI(K:W.Frag):Sp:=λvs H Q _=>∃(a:Addr)(ns:List Nat),vs=[.ref a]/\cO K H a (ns.map nV)/\(∀n∈ns,n<100)/\∀m:Nat,jR m ns->Q (.int m) H
theorem TR{m:Nat}{ns:List Nat}(h:jR m ns):jR (m|||2^n) (ns++[n]):=λi=>by
 rw[sS,h,lT];by_cases e:n=i
 ·subst e;simp
 ·simp[e,cE e]
theorem FJ(bi:Bi mg)(F:fT K "mask_of" "mask_of" pf f fd):cZ P w K mg base fL 1 f fd ["numbers"] (EI K):=by
 refine F.okz ka λeO A outer s H vs Q E hr h=>?_
 obtain⟨a,ns,rfl,ha,hn,q⟩:=h;calc#[_,have nd:=ka.nd;zC #[]<|zC (yD bR rfl #[] #[]<|zI<|UY (i:=1) nd rfl (Or.inl rfl) #[] CG) #[],?_];refine zD λN c=>?_
 dsimp![];calc c _ _ ?_;clear c;refine zK (λσ H'=>H'=H/\∃(m:Nat)(o:Option V),jR m ns/\σ=[some<|V.ref a,some<|V.int m,o]) (λN c=>?_) λσ H' h=>?_
 ·dsimp![];calc#[#[_,ha],?_];refine qU (xs:=ns.map nV) (λi σ H'=>H'=H/\∃(m:Nat)(o:Option V),jR m (ns.take i)/\σ=[some<|V.ref a,some<|V.int m,o]) #[rfl,0,_,λi=>by simp,rfl] (λi σ H' _ h=>by rw[h.1];calc ha) (λi x σ H' hx h=>?_) λσ H' h=>?_
  ·obtain⟨rfl,m,o,hm,rfl⟩:=h;rw[aF]at hx;cases b:ns[i]? with
   |none=>rw[b]at hx;cases hx
   |some n=>
    rw[b]at hx;cases hx;let d:=hn n<|aS b;dsimp![PH,WR];refine#[#[(),(),()],m|||2^n,?_,?_,_,rfl]
    ·obtain⟨hi,e⟩:=aD.mp b;rw[aI hi,e];exact TR hm
    ·rw[vN,wX]
  ·obtain⟨rfl,m,o,hm,rfl⟩:=h;rw[aC,aU<|aG _]at hm;exact c _ _ #[rfl,m,o,hm,rfl]
 obtain⟨rfl,m,o,hm,rfl⟩:=h;dsimp![];exact q m hm
noncomputable def yY(ps:List (Nat×Nat))(a b:Nat):Bool:=ps.any λp=>(p.1==a&&p.2==b) ||(p.1==b&&p.2==a)
theorem vT(ps:List (Nat×Nat))(a b:Nat):yY ps a b=yY ps b a:=by
 unfold yY
 congr 1
 funext p
 rw[Bool.or_comm]
theorem QU(ps:List (Nat×Nat))(p:Nat×Nat)(a b:Nat):yY (ps++[p]) a b=(yY ps a b ||((p.1==a&&p.2==b) ||(p.1==b&&p.2==a))):=by
 unfold yY;rw[List.any_append];simp
noncomputable def sE(p:Nat×Nat):Dt:=.tup [.int p.1,.int p.2]
def DT(m:Nat)(ps:List (Nat×Nat)):Prop:=∀p∈ps,p.1<p.2/\p.2<m
theorem ek{p:Nat×Nat}(h:eL H (sE p) v):∃a,v=.ref a/\H a=some (.tup [nV p.1,nV p.2]):=by
 obtain⟨a,vs,c,d,e,k,f,h1,g,i,j,h2,b⟩:=h;let h1:e=nV p.1:=h1;let h2:g=nV p.2:=h2;let b:i=[]:=b;subst b j f h1 h2;exact#[a,c,d]
noncomputable def cnt(m:Nat)(ps:List (Nat×Nat))(sp:List Nat):List Nat:=(List.range m).filter λi=>sp.all λa=>yY ps a i
theorem pW{m:Nat}:i∈cnt m ps sp↔i<m/\(sp.all λa=>yY ps a i)=true:=by
 unfold cnt;rw[cK,bL]
theorem uB(m:Nat)(ps:List (Nat×Nat))(sp:List Nat):(cnt m ps sp).Pairwise (· < ·):=fN _ dL
theorem NQ{xs ys:List Nat}(h:∀x,x∈xs↔x∈ys)(f:Nat->Bool):xs.all f=ys.all f:=by
 rw[cF,cA,cA];exact#[λg x hx=>g x<|(h x).mpr hx,λg x hx=>g x<|(h x).mp hx]
theorem kZ{m:Nat}{xs ys:List Nat}(h:∀x,x∈xs↔x∈ys):cnt m ps xs=cnt m ps ys:=by
 unfold cnt
 congr 1
 funext i
 exact NQ h _
theorem WF(m:Nat)(ns:List Nat)(h:jR m ns):∃xs,sI m xs/\∀x,x∈xs↔x∈ns:=by
 refine#[(List.range<|m+1).filter λi=>m.testBit i,#[fN _ dL,λi=>?_],λx=>?_]
 ·rw[cF,bZ,cK,bL];constructor
  ·intro hb;have :=mn hb;have :=Nat.lt_two_pow_self (n:=i);exact#[(),hb]
  ·exact λhb=>hb.2
 ·rw[cK,bL,h x,bZ];constructor
  ·exact λhb=>hb.2
  ·intro hb;let a:m.testBit x=true:=by rw[h x];simpa using hb
   have :=mn a;have :=Nat.lt_two_pow_self (n:=x);exact#[(),hb]
structure FlC(K:W.Frag)(C:Addr):Prop where
 cl:LG K C
 nE:lY K C "everywhere"
 nC:lY K C "clashing"
noncomputable def DR(e:Nat)(l:Addr):List (Str×V):=[("everywhere",nV e),("clashing",.ref l)]
theorem fl_e(e:Nat)(l:Addr):(DR e l).lookup ("everywhere":Str)=some (nV e):=by
 unfold DR;rw[bO,show(("everywhere":Str)=="everywhere")=true by decide+kernel]
theorem tw(e:Nat)(l:Addr):(DR e l).lookup ("clashing":Str)=some (.ref l):=by
 unfold DR;rw[bO,show(("clashing":Str)=="everywhere")=false by decide+kernel,bO,show(("clashing":Str)=="clashing")=true by decide+kernel]
structure Msk(m:Nat)(ps:List (Nat×Nat))(cs:List Nat):Prop where
 len:cs.length=m
 bit:∀(a c:Nat),cs[a]?=some c->∀i,c.testBit i=yY ps a i
def DG(C:Addr)(H:Hp)(r:Addr)(m:Nat)(ps:List (Nat×Nat)):Prop:=∃dx l cs,H r=some (.ins C dx<|DR (2^m-1) l)/\H l=some (.lst<|cs.map nV)/\Msk m ps cs
theorem DG.same{C:Addr}{r:Addr}{m:Nat}(e:aX H H')(h:DG C H r m ps):DG C H' r m ps:=by
 obtain⟨dx,l,cs,h1,h2,a⟩:=h;exact#[dx,l,cs,e _ _ h1,e _ _ h2,a]
theorem gy(m:Nat):Msk m [] (List.replicate m 0):=#[gG ..,λa c h i=>by
 obtain⟨_,e⟩:=aD.mp h;rw[List.getElem_replicate]at e;subst e;simp[yY]]
theorem gw{m:Nat}{cs:List Nat}{ca cb:Nat}(h:Msk m ps cs)(hab:a≠b)(ha:cs[a]?=some ca)(hb:cs[b]?=some cb):Msk m (ps++[(a,b)]) ((cs.set a<|ca|||2^b).set b (cb|||2^a)):=by
 calc#[by rw[mH,mH];exact h.len,λx c hx i=>?_];let la:=(aD.mp ha).1;let lb:=(aD.mp hb).1;rw[QU];by_cases d:b=x
 ·subst d;rw[fW (by rw[mH];calc lb)]at hx;cases hx;rw[sS,h.bit b cb hb,lT];have :(a==b)=false:=cG.mpr hab;simp only[this,eX,tU,dI,tV]
  congr 1
 ·rw[fM d]at hx;by_cases e:a=x
  ·subst e;rw[fW la]at hx;cases hx;rw[sS,h.bit a ca ha,lT];have :(b==a)=false:=cG.mpr<|cE hab;simp only[this,lE,rM,dI,oP]
   congr 1
  ·rw[fM e]at hx;rw[h.bit x c hx];let f:(a==x)=false:=cG.mpr e;let g:(b==x)=false:=cG.mpr d;simp[f,g]
inductive n9 (C:Addr) (vs:List V) (H:Hp) (Q:VK) (E:XK):Prop
 |mk (r dx ca:Addr) (m:Nat) (us:List V) (ps:List (Nat×Nat)) (_:vs=[.ref r,.int m,.ref ca]) (_:H r=some (.ins C dx [])) (_:ca≠r) (_:H ca=some (.lst us)) (_:bN H (ps.map sE) us) (_:DT m ps) (_:m<=90) (_:∀H',gQ r H H'->DG C H' r m ps->Q .non H')
inductive oe (K:W.Frag) (C:Addr) (vs:List V) (H:Hp) (Q:VK) (E:XK):Prop
 |mk (r sa:Addr) (m:Nat) (ps:List (Nat×Nat)) (ms:List Nat) (_:vs=[.ref r,.ref sa]) (_:DG C H r m ps) (_:cO K H sa (ms.map nV)) (_:ms.length<=1000) (_:∀c:Nat,(∀i,c.testBit i=(decide (i<m)&&ms.all λx=>x.testBit i))->Q (.int c) H)
inductive spCn (C:Addr) (vs:List V) (H:Hp) (Q:VK) (E:XK):Prop
 |mk (r:Addr) (m s:Nat) (ps:List (Nat×Nat)) (xs:List Nat) (_:vs=[.ref r,.int s]) (_:DG C H r m ps) (_:m<=90) (_:sI s xs) (_:(∀x∈xs,x<m)) (_:∀(c:Nat) H',aX H H'->jR c (cnt m ps xs)->Q (.int c) H')
theorem MV{C:Addr}(T:FlC K C)(F:fT K "common_of" "Floor.common_of" s_j f fd):cZ P w K mg base fL 1 f fd ["self","sets"] (oe K C):=by
 refine F.okz sc_j λeO A outer s H vs Q E hr h=>?_
 obtain⟨r,sa,m,ps,ms,rfl,⟨dx,l,cs,iO,hl,hm⟩,hs,d,q⟩:=h;calc#[_,have nd:=sc_j.nd;zC #[]<|zC (yD bR rfl #[] #[]<|zI<|UY (i:=2) nd rfl (Or.inl rfl) #[] sj) #[],?_];refine zD λN b=>?_
 dsimp![jF];calc#[C,dx,_,iO,T.cl,T.nE,_,fl_e _ _,b _ _ ?_];clear b;refine zK (λσ H'=>H'=H/\∃(c:Nat)(o:Option V),(∀i,c.testBit i=(decide (i<m)&&ms.all λx=>x.testBit i))/\σ=[some<|V.ref r,some<|V.ref sa,some<|nV c,o]) (λN b=>?_) λσ H' h=>?_
 ·dsimp![];calc#[#[_,hs],?_];refine qU (xs:=ms.map nV) (λk σ H'=>H'=H/\∃(c:Nat)(o:Option V),(∀i,c.testBit i=(decide (i<m)&&(ms.take k).all λx=>x.testBit i))/\σ=[some<|V.ref r,some<|V.ref sa,some<|nV c,o]) #[rfl,2^m-1,_,λi=>by rw[pT];simp,rfl] (λi σ H' _ h=>by rw[h.1];calc hs) (λk x σ H' hx h=>?_) λσ H' h=>?_
  ·obtain⟨rfl,c,o,hc,rfl⟩:=h;rw[aF]at hx;cases a:ms[k]? with
   |none=>rw[a]at hx;cases hx
   |some n=>
    rw[a]at hx;cases hx;dsimp![PH,WR];calc#[c&&&n,λi=>?_,DF c n,_,rfl];obtain⟨hk,e⟩:=aD.mp a;rw[mG,hc,aI hk,e,List.all_append,Bool.and_assoc];simp
  ·obtain⟨rfl,c,o,hc,rfl⟩:=h;rw[aC,aU<|aG _]at hc;exact b _ _ #[rfl,c,o,hc,rfl]
 obtain⟨rfl,c,o,hc,rfl⟩:=h;dsimp![];exact q c hc
theorem ZI(e:Nat)(l:Addr){x:Str}(h1:(x==("everywhere":Str))=false)(h2:(x==("clashing":Str))=false):(DR e l).lookup x=none:=by
 unfold DR;rw[bO,h1,bO,h2];rfl
theorem tm(e:Nat)(l:Addr):yP "clashing" (.ref l) (yP "everywhere" (nV e) [])=DR e l:=by
 unfold DR;rfl
theorem a6(m:Nat):(1:Int)*2^(m:Int).toNat-1=((2^m-1:Nat):Int):=by
 rw[vN];have :=bt m;lia
theorem SW{C:Addr}(T:FlC K C)(F:fT K "__init__" "Floor.__init__" s_v f fd):cZ P w K mg base fL 1 f fd ["self","many","clashes"] (n9 C):=by
 refine F.okz sc_v λeO A outer s H vs Q E hr h=>?_
 obtain⟨r,dx,ca,m,us,ps,rfl,iO,p,u,y,hok,hm,q⟩:=h;let B:us.length=ps.length:=by have :=bN.length y;rwa[aC]at this
 calc#[_,have nd:=sc_v.nd;zC (kN #[] #[] rfl)<|zC (kN #[] (yZ VC #[] #[]) rfl)<|zI<|yD bR rfl #[] #[]<|zC (YA #[] #[] kC #[] CG qG)<|zI<|YA #[] #[] kC #[] CG qG,?_];refine zD λN D=>?_
 dsimp![EO];calc#[#[(),(),()],C,dx,[],iO,T.cl,T.nE,(),D _ _ ?_];clear D;rw[a6];refine zD λN D=>?_
 dsimp![EO,RI];calc#[zH (by simp),λg oC=>#[[V.int 0],zA,(),(),zH (by simp;lia),λl hl=>?_]];let j:g≠r:=λz=>by rw[z,zA]at oC;cases oC
 let G:H g=none:=by rw[zG j]at oC;exact oC
 let I:l≠g:=λz=>by rw[z,zA]at hl;cases hl
 rw[zG I]at hl;let e:l≠r:=λz=>by rw[z,zA]at hl;cases hl
 rw[zG e]at hl;let kr:upd (upd (upd H r<|.ins C dx<|yP "everywhere" (nV<|2^m-1) []) g<|.lst [.int 0]) l (.lst<|(List.replicate (m:Int).toNat [V.int 0]).flatten) r=some (.ins C dx<|yP "everywhere" (nV<|2^m-1) []):=by
  rw[zG<|cE e,zG<|cE j,zA]
 calc#[C,dx,_,kr,T.cl,T.nC,by show 1<1000;decide,D _ _ ?_];clear D;rw[tm];let X:gQ r H (upd (upd (upd (upd H r<|.ins C dx<|yP "everywhere" (nV<|2^m-1) []) g<|.lst [.int 0]) l<|.lst<|(List.replicate (m:Int).toNat [V.int 0]).flatten) r<|.ins C dx<|DR (2^m-1) l):=gQ.upd<|xE (xE (gQ.upd<|gQ.refl r H) G) hl;let x2:upd (upd (upd (upd H r<|.ins C dx<|yP "everywhere" (nV<|2^m-1) []) g<|.lst [.int 0]) l<|.lst<|(List.replicate (m:Int).toNat [V.int 0]).flatten) r (.ins C dx<|DR (2^m-1) l) r=some (.ins C dx<|DR (2^m-1) l):=zA;let x3:upd (upd (upd (upd H r<|.ins C dx<|yP "everywhere" (nV<|2^m-1) []) g<|.lst [.int 0]) l<|.lst<|(List.replicate (m:Int).toNat [V.int 0]).flatten) r (.ins C dx<|DR (2^m-1) l) l=some (.lst<|(List.replicate m 0).map nV):=by
  rw[zG e,zA,bE,YW]
 generalize upd (upd (upd (upd H r<|.ins C dx<|yP "everywhere" (nV<|2^m-1) []) g<|.lst [.int 0]) l<|.lst<|(List.replicate (m:Int).toNat [V.int 0]).flatten) r (.ins C dx<|DR (2^m-1) l)=H1 at X x2 x3⊢;clear kr j I oC G;dsimp![];calc#[#[_,cO.of<|X _ _ u p],?_];refine xP (xs:=us) (λk σ H'=>∃(R S:Option V)(cs:List Nat),gQ r H H'/\H' r=some (.ins C dx<|DR (2^m-1) l)/\H' l=some (.lst<|cs.map nV)/\Msk m (ps.take k) cs/\σ=[some<|V.ref r,some<|V.int m,some<|V.ref ca,R,S]) #[_,_,_,X,x2,x3,gy m,rfl] (λk σ H' _ h=>?_) (λk x σ H' hx h M U=>?_) λσ H' h=>?_
 ·obtain⟨R,S,cs,h1,_⟩:=h;exact cO.of<|h1 _ _ u p
 ·obtain⟨R,S,cs,h1,h2,W,n,rfl⟩:=h;let hk:k<ps.length:=by rw[←B];exact(aD.mp hx).1
  obtain⟨v,J,Y⟩:=bN.get (d:=sE ps[k]) y (by rw[aF,aA hk];rfl);rw[hx]at J;cases J;let L:=hok _<|bT hk;obtain⟨t,rfl,ht⟩:=ek Y;let Z:t≠r:=λz=>by rw[z,iO]at ht;cases ht
  let ht':=h1 _ _ ht Z;let e4:ps.take (k+1)=ps.take k++[(ps[k].1,ps[k].2)]:=by rw[aI hk]
  rw[e4]at U;clear e4;generalize ps[k].1=a at ht' L U;generalize ps[k].2=b at ht' L U;let la:a<cs.length:=by rw[n.len];lia
  let lb:b<cs.length:=by rw[n.len];lia
  let ga:=aA la;let gb:=aA lb;generalize cs[a]=c at ga;generalize cs[b]=O at gb;dsimp![uA,jN,uK,HJ,jF,IA,WR,QF];calc#[[nV a,nV b],cW.of ht',rfl,nV a,[nV b],rfl,nV b,[],rfl,rfl,?_];let mset:∀(cs:List Nat)(i v:Nat),(cs.map nV).set i (V.int (v:Int))=(cs.set i v).map nV:=λcs i v=>(List.map_set (f:=nV) (l:=cs) (i:=i) (a:=v)).symm
  calc#[C,dx,_,h2,T.cl,T.nC,_,tw _ _,l,rfl,_,a,rfl,W,nV c,by rw[aF,ga];rfl,_,rfl,#[(),(),()],_,rfl,l,rfl,_,rfl,_,W,a,vR (by rw[aC];calc la),?_];rw[vN b,wX,mset];let gb':(cs.set a<|c|||2^b)[b]?=some O:=by rw[fM ()];exact gb
  let lb':b<(cs.set a<|c|||2^b).length:=by rw[mH];exact lb
  let j1:upd H' l (.lst<|(cs.set a<|c|||2^b).map nV) r=some (.ins C dx<|DR (2^m-1) l):=by rw[zG<|cE e];exact h2
  let j2:upd H' l (.lst<|(cs.set a<|c|||2^b).map nV) l=some (.lst<|(cs.set a<|c|||2^b).map nV):=zA;let j3:=xE (o:=.lst<|(cs.set a<|c|||2^b).map nV) h1 hl;generalize upd H' l (.lst<|(cs.set a<|c|||2^b).map nV)=H2 at j1 j2 j3⊢;calc#[C,dx,_,j1,T.cl,T.nC,_,tw _ _,l,rfl,_,b,rfl,j2,nV O,by rw[aF,gb'];rfl,_,rfl,#[(),(),()],_,rfl,l,rfl,_,rfl,_,j2,b,vR (by rw[aC];calc lb'),?_];rw[vN a,wX,mset];exact U _ _ #[_,_,_,xE j3 hl,by rw[zG<|cE e];exact j1,zA,gw n () ga gb,rfl]
 ·obtain⟨R,S,cs,h1,h2,W,n,rfl⟩:=h;rw[B,aU<|aG _]at n;exact q _ h1 #[dx,l,cs,h2,W,n]
theorem JQ{C:Addr}(T:FlC K C)(bi:Bi mg)(h_N:fI P w K mg base 1 "bits_of" ["mask"] sX)(h_j:mY P w K mg base 1 C "common_of" ["self","sets"] (oe K C))(F:fT K "counter_of" "Floor.counter_of" s_i f fd):cZ P w K mg base fL 2 f fd ["self","spots"] (spCn C):=by
 refine F.okz sc_i λeO A outer s H vs Q E hr h=>?_
 obtain⟨r,m,s',ps,xs,rfl,u,z,hb,t,q⟩:=h;let v:=u;obtain⟨dx,l,cs,iO,hl,hm⟩:=v;let b:∀x∈xs,x<100:=λx hx=>by have :=t x hx;lia
 let G:=DB hb λx hx=>Nat.lt_trans (b x hx) ();let gU:=T.cl;calc#[_,have nd:=sc_i.nd;zI<|zR<|xU h_j gU hr.m #[]<|zE (zW ["a"] ["self"] [0] #[] (λ_ _ _ _ nd=>yG 0 nd) (λ_ _ _ _=>zY) λ_ _ _ _=>(zP (qM K) (IH K #[] rfl) #[])) zJ,?_];dsimp![yK,jF];calc#[_,_,iO,ZI _ _ () (),?_];calc#[s',xs,rfl,hb,(λx hx=>Nat.lt_trans (b x hx) ()),λp H1 s1 hp B=>#[p,rfl,#[_,cO.of B],?_]];refine yM (xs:=xs.map nV) (λi ys σ H'=>H'=H1/\ys=((xs.take i).map λa=>cs.getD a 0).map nV/\∃o,σ=[o,some<|V.ref r]) #[rfl,rfl,_,rfl] (zH (by rw[aC];lia)) (λi ys σ H' e=>?_) (λi ys σ H' e=>by rw[e.1];calc cO.of B) (λi x ys σ H' L hx e I=>?_) λys σ H' e J y=>?_
 ·obtain⟨_,rfl,_⟩:=e;rw[aC,aC,bD];lia
 ·obtain⟨rfl,rfl,o,rfl⟩:=e;rw[aF]at hx;cases d:xs[i]? with
  |none=>rw[d]at hx;cases hx
  |some n=>
   rw[d]at hx;cases hx;let hn:=t n<|aS d;let g:n<cs.length:=by rw[hm.len];exact hn
   dsimp![jF];refine#[C,dx,_,s1 _ _ iO,T.cl,T.nC,_,tw _ _,l,rfl,_,cO.of<|s1 _ _ hl,nV<|cs.getD n 0,?_,I _ _ _ #[rfl,?_,_,rfl]]
   ·calc zU (j:=n) ?_;rw[aF,bC,aA g];rfl
   ·obtain⟨hi,e⟩:=aD.mp d;rw[aI hi,e,aQ,aQ];rfl
 obtain⟨rfl,rfl,o,rfl⟩:=e;rw[aC,aU<|aG _];let D:=zB y (.lst<|(xs.map λa=>cs.getD a 0).map nV);calc#[r,J,m,ps,xs.map λa=>cs.getD a 0,rfl,DG.same (s1.trans D) u,cO.of zA,by rw[aC];lia,λc hc=>q c _ (s1.trans D) λi=>?_];rw[hc,cF,bZ,pW,cC,bZ,iJ];refine and_congr_right λ_=>?_
 rw[cA,cA];let k:∀x∈xs,(cs.getD x 0).testBit i=yY ps x i:=λx hx=>by
  let g:x<cs.length:=by rw[hm.len];exact t x hx
  rw[bC,aA g];exact hm.bit x _ (aA g) i
 constructor
 ·intro h x hx;rw[←k x hx];exact h x hx
 ·intro h x hx;show(cs.getD x 0).testBit i=true;rw[k x hx];exact h x hx
theorem wW{H H':Hp}(e:cV H H'):∀{ps:List (Nat×Nat)}{us:List V},bN H (ps.map sE) us->bN H' (ps.map sE) us
 |[],us,h=>h
 |p::ps,us,h=>by
  obtain⟨v,r,b,c,d⟩:=h;obtain⟨a,f,g⟩:=ek c;exact#[v,r,b,#[a,_,f,e _ _ g,_,_,rfl,rfl,_,_,rfl,rfl,rfl],wW e d]
theorem SE{t:Addr}(k:H p=some (.lst us))(h:bN H (ps.map sE) us)(ht:H t=some (.tup [nV a,nV b])):bN (upd H p<|.lst<|us++[.ref t]) ((ps++[(a,b)]).map sE) (us++[.ref t]):=by
 let c:cV H (upd H p<|.lst<|us++[.ref t]):=(cV.refl _).upd_lst k;calc wW c ?_;rw[aQ];exact bN.append h<|bN.one #[t,_,rfl,ht,_,_,rfl,rfl,_,_,rfl,rfl,rfl]
theorem gg{m:Nat}(h:DT m ps)(h1:a<b)(h2:b<m):DT m (ps++[(a,b)]):=λp hp=>by
 rcases bJ.mp hp with hp |hp
 ·exact h p hp
 ·rw[aP.mp hp];exact#[h1,h2]
mutual
noncomputable def iY:Tm->List Str
 | .name x=>[x]
 | .node _ ts=>yQ ts
noncomputable def yQ:List Tm->List Str
 |[]=>[]
 |t::ts=>iY t++yQ ts
end
theorem pO{x:Str}:∀{ts:List Tm},x∈yQ ts↔∃t∈ts,x∈iY t
 |[]=>by simp[yQ]
 |t::ts=>by rw[yQ,bJ,pO (ts:=ts)];simp
structure sF(zs:List Str)(d n:Nat)(ts:List Tm):Prop where
 fit:∀t∈ts,gA d t
 nam:∀t∈ts,∀x∈iY t,x∈zs
 sz:iW ts<=n
theorem QD(j:Int)(h:0<=j/\j<2):∃w:Str,(w="both"\/w="either")/\pI [V.str "both",V.str "either"] j=some (.str w):=by
 have :j=0\/j=1:=by lia
 rcases this with rfl |rfl
 ·exact#["both",.inl rfl,rfl]
 ·exact#["either",.inr rfl,rfl]
theorem EL{w:Str}{k:Nat}(hw:w="both"\/w="either")(hk:2<=k):Sh w k:=by
 rcases hw with h |h
 ·exact .inr<|.inr<|.inr<|.inl #[h,hk]
 ·exact .inr<|.inr<|.inr<|.inr #[h,hk]
theorem CA:∀ts us:List Tm,yQ (ts++us)=yQ ts++yQ us
 |[],us=>by simp[yQ]
 |t::ts,us=>by rw[List.cons_append,yQ,yQ,CA ts us,dD]
theorem QM{t:Tm}(h:ts[i]?=some t):yQ (ts.take<|i+1)=yQ (ts.take i)++iY t:=by
 obtain⟨a,b⟩:=aD.mp h;rw[aI a,b,CA];show _++(iY t++yQ [])=_;rw[yQ,cL]
mutual
theorem gn:∀t:Tm,(iY t).length<=wt t
 | .name _=>by rw[iY,wt];exact aG _
 | .node _ ts=>by
   rw[iY,wt];have :=wZ ts;lia
theorem wZ:∀ts:List Tm,(yQ ts).length<=iW ts
 |[]=>by rw[yQ,iW];exact aG _
 |t::ts=>by
  rw[yQ,iW,aK];have :=gn t;have :=wZ ts;lia
end
abbrev s_Z:Stmt:=top 9
theorem sc_Z:bV ["t"] ["t"] (zF s_Z):=by rfl'
noncomputable def tN:Tm->List Tm
 | .name _=>[]
 | .node _ ts=>ts
def nv:Sp:=λvs H Q _=>∃(v:V)(t:Tm),vs=[v]/\fX H t v/\(∀w ts,t=.node w ts->Wrd w)/\∀p us H',aX H H'->H' p=some (.tup us)->dQ H' (tN t) us->Q (.ref p) H'
abbrev s_c:Stmt:=top 10
theorem sc_c:bV ["t","found","part"] ["t","found"] (zF s_c):=by rfl'
abbrev s_y:Stmt:=top 11
theorem sc_y:bV ["terms","found","t"] ["terms"] (zF s_y):=by rfl'
abbrev pk:Stmt:=top 12
theorem kh:bV ["t"] ["t"] (zF pk):=by rfl'
noncomputable def ZV(zs:List Str)(x:Str):List Str:=if x∈zs then zs else zs++[x]
noncomputable def yN(zs:List Str)(xs:List Str):List Str:=xs.foldl ZV zs
theorem wL(zs xs ys:List Str):yN zs (xs++ys)=yN (yN zs xs) ys:=by unfold yN;rw[List.foldl_append]
theorem uN:∀(xs zs:List Str),(yN zs xs).length<=zs.length+xs.length
 |[],zs=>by simp[yN]
 |x::xs,zs=>by
  have :=uN xs<|ZV zs x;let h2:(ZV zs x).length<=zs.length+1:=by unfold ZV;split<;>simp
  show(yN (ZV zs x) xs).length<=_;rw[bG];lia
noncomputable def dz(zs:List Str):List (eV×V):=zs.map λx=>(.inr x,.bl true)
theorem dv(zs:List Str)(x:Str):qJ (dz zs) (.inr x:eV) (.bl true)=dz (ZV zs x):=by
 let e:((dz zs).any λa=>decide<|a.1=(.inr x:eV))=decide (x∈zs):=by
  rw[cF,fG,bZ];unfold dz;constructor
  ·rintro⟨p,hp,h⟩;obtain⟨y,hy,rfl⟩:=bH.mp hp;let h:(Sum.inr y:eV)=.inr x:=by simpa using h
   rw[←rD h];exact hy
  ·intro h;exact#[_,bH.mpr #[x,h,rfl],by simp]
 unfold qJ ZV;rw[e];by_cases h:x∈zs
 ·rw[aT (by simpa using h),aT h];unfold dz;rw[dC];apply lU;intro y hy;simp only[Function.comp];split<;>rfl
 ·rw[aH (by simpa using h),aH h];unfold dz;rw[aQ];rfl
def gX(d:Addr)(H H':Hp):Prop:=∀b o,H b=some o->b≠d->H' b=some o
theorem gX.refl(d:Addr)(H:Hp):gX d H H:=λ_ _ h _=>h
theorem gX.trans{H1 H2:Hp}(a:gX d H H1)(b:gX d H1 H2):gX d H H2:=λc o h n=>b c o (a c o h n) n
theorem gX.of(a:aX H H'):gX d H H':=λc o h _=>a c o h
theorem gX.upd{H1:Hp}{o:HO}(a:gX d H H1):gX d H (L2.upd H1 d o):=λc o' h n=>by
 rw[zG n];exact a c o' h n
theorem gX.tups{kvs:List (eV×V)}(a:gX d H H')(h:H d=some (.dK kvs)):cV H H':=λb xs e=>a b _ e (jU e h (by intro z;cases z))
noncomputable def b6:Tm->List Str
 | .name x=>[x]
 | .node _ _=>[]
def dj:Nat->Sp
 |0=>λ_ _ _ _=>False
 |1=>λ_ _ _ _=>False
 |n+2=>λvs H Q _=>∃(v:V)(d:Addr)(t:Tm)(zs:List Str),vs=[v,.ref d]/\fX H t v/\gA n t/\wt t<=900/\H d=some (.dK<|dz zs)/\zs.length+wt t<=100000/\∀H',gX d H H'->H' d=some (.dK<|dz<|yN zs<|iY t)->Q .non H'
def n0:Sp:=λvs H Q _=>∃(a:Addr)(us:List V)(ts:List Tm),vs=[.ref a]/\H a=some (.lst us)/\dQ H ts us/\(∀t∈ts,gA 20 t/\wt t<=900)/\iW ts<=20000/\(yN []<|yQ ts).length<64/\
 ∀p mW H',aX H H'->H' p=some (.lst<|mW.map V.str)->mW.Perm (yN []<|yQ ts)->PyProof.Rows.sortedS mW=true->Q (.ref p) H'
inductive spNO (vs:List V) (H:Hp) (Q:VK) (E:XK):Prop
 |mk (v:V) (t:Tm) (_:vs=[v]) (_:fX H t v) (_:gA 20 t) (_:wt t<=900) (_:(yN []<|iY t).length<64) (_:∀p mW H',aX H H'->H' p=some (.lst<|mW.map V.str)->mW.Perm (yN []<|iY t)->PyProof.Rows.sortedS mW=true->Q (.ref p) H')
theorem BI(bi:Bi mg)(F:fT K "parts_of" "parts_of" s_Z f fd):cZ P w K mg base fL 1 f fd ["t"] nv:=by
 refine F.okz sc_Z λeO A outer s H vs Q E hr h=>?_
 obtain⟨v,t,rfl,ht,b,q⟩:=h;calc#[_,have nd:=sc_Z.nd;zI<|zR<|wU #[] #[]<|xM YT #[] (jK zS) jL,?_];cases t with
 |name x=>
  obtain⟨a,rfl,ha⟩:=fX.name ht;dsimp![];calc#[_,cW.of ha,.str "name",gR,rfl,?_];rw[aT rfl];exact#[zH (),λp hp=>q _ [] _ (zB hp _) zA rfl]
 |node wd ts=>
  obtain⟨a,us,rfl,ha,hu⟩:=fX.node ht;dsimp![];calc#[_,cW.of ha,.str wd,gR,rfl,?_];rw[aH λe=>(b wd ts rfl).ne (V.str.inj e)];calc#[_,cW.of ha,qF _ _,λp hp=>?_];rw[JD];exact q p us _ (zB hp _) zA<|dQ.tups (zB hp _).tups hu
theorem ZR(bi:Bi mg)(h_Z:fI P w K mg base 1 "parts_of" ["t"] nv)(F:fT K "gather_names" "gather_names" s_c f fd)(b:Binds K fd ["t","found"] [])(m:mg "gather_names"=some (.ref f)):∀n,cZ P w K mg base fL n f fd ["t","found"] (dj n):=by
 calc UU F b m (λvs H Q E h=>h) λn h_c=>?_;cases n with
 |zero=>exact#[λvs H Q E h=>h.elim,λA outer s H args us vs Q E _ _ _ _ h=>h.elim]
 |succ n=>
 refine F.okz sc_c λeO A outer s H vs Q E hr h=>?_
 obtain⟨v,d,t,zs,rfl,ht,hf,S,hd,hz,q⟩:=h;calc#[_,have nd:=sc_c.nd;zC (yA #[] (zI<|ZY (xW hr) #[] #[] II rfl) zL)<|zI<|yD bR rfl (kO #[]) #[] #[],?_];let iZ:iY t=b6 t++yQ (tN t):=by
  cases t with
  |name x=>rw[iY,b6,tN,yQ];rfl
  |node wd ts=>rw[iY,b6,tN];rfl
 let J:iW (tN t)<=wt t/\(b6 t).length+iW (tN t)<=wt t:=by
  cases t with
  |name x=>rw[tN,iW,b6,wt];exact#[(),by simp]
  |node wd ts=>rw[tN,wt,b6];exact#[(),by simp]
 let B:∀w ts,t=.node w ts->Wrd w:=λw ts e=>by subst e;exact hf.wrd
 let part:∀(i:Nat)(u:Tm),(tN t)[i]?=some u->∃m,n=m+1/\gA m u/\wt u<=iW (tN t):=λi u hi=>by
  let hm:=aS hi;have :=vK hm;cases t with
  |name x=>cases hm
  |node wd ts=>
   let hm:u∈ts:=hm;cases n with
   |zero=>rw[hf.2]at hm;cases hm
   |succ n=>exact#[n,rfl,hf.part hm,this]
 refine zK (λσ H'=>gX d H H'/\H' d=some (.dK<|dz<|yN zs<|b6 t)/\∃o,σ=[some v,some<|V.ref d,o]) (λN G=>?_) λσ H' h=>?_
 ·dsimp![AI];cases t with
  |name x=>
   obtain⟨a,rfl,ha⟩:=fX.name ht;calc#[_,rfl,_,cW.of ha,.str "name",gR,rfl,?_];rw[aT rfl];calc#[_,rfl,_,cW.of ha,.str x,oQ,_,tF.k (k:=.inr x) hd (eE (show(dz zs).length<=1000000 by unfold dz;rw[aC];lia) ()),G _ _ ?_];rw[dv];exact#[(gX.refl d H).upd,zA,_,rfl]
  |node wd ts=>
   obtain⟨a,us,rfl,ha,hu⟩:=fX.node ht;calc#[_,rfl,_,cW.of ha,.str wd,gR,rfl,?_];rw[aH λe=>hf.wrd.ne<|V.str.inj e];exact G _ _ #[gX.refl d H,hd,_,rfl]
 ·obtain⟨es,j,o,rfl⟩:=h;let C:=fX.tups (es.tups hd) ht;dsimp![nv];calc#[t,C,B,λp us H2 y hp hu=>#[#[_,cW.of hp],?_]];let hl:=hu.length;let D:p≠d:=jU hp (y _ _ j) (by intro z;cases z);refine tf (xs:=us) (λi σ H'=>gX d H2 H'/\H' p=some (.tup us)/\H' d=some (.dK<|dz<|yN (yN zs<|b6 t)<|yQ<|(tN t).take i)/\∃o,σ=[some v,some<|V.ref d,o]) ?_ (λi σ H' _ h=>cW.of h.2.1) (λi x σ H' hx h=>?_) λσ H' h=>?_
  ·exact#[gX.refl _ _,hp,y _ _ j,_,rfl]
  ·obtain⟨c,r,g,o',rfl⟩:=h;obtain⟨u,l,oM⟩:=hu.getV hx;obtain⟨T,rfl,L,U⟩:=part i u l;let W:=uN (b6 t) zs;let X:=uN (yQ<|(tN t).take i)<|yN zs<|b6 t;let Y:=wZ<|(tN t).take i;let Z:iW ((tN t).take (i+1))<=iW (tN t):=by
    have :=cM iW<|eN (i+1)<|tN t;rw[yV]at this;lia
   let l5:iW ((tN t).take (i+1))=iW ((tN t).take i)+wt u:=by
    obtain⟨M,O⟩:=aD.mp l;rw[aI M,O,yV];show _+(wt u+iW [])=_;rw[iW];lia
   dsimp![dj];calc#[u,fX.tups (c.tups<|y _ _ j) oM,L,(),_,g,(),λH4 I R=>#[c.trans I,I _ _ r D,?_,_,rfl]];rw[QM l,wL];exact R
  ·obtain⟨c,r,g,o',rfl⟩:=h;rw[aU ()]at g;calc q _ ((es.trans<|gX.of y).trans c) ?_;rw[iZ,wL];exact g
theorem ZQ(bi:Bi mg)(h_c:fI P w K mg base 22 "gather_names" ["t","found"] (dj 22))(F:fT K "names_of_all" "names_of_all" s_y f fd):cZ P w K mg base fL 23 f fd ["terms"] n0:=by
 refine F.okz sc_y λeO A outer s H vs Q E hr h=>?_
 obtain⟨a,us,ts,rfl,ha,hu,hf,C,n,q⟩:=h;let hl:=hu.length;let v:=wM ts;calc#[_,have nd:=sc_y.nd;zC (xI 1 nd XB)<|zC #[]<|zI<|zR<|zO WC rfl bi.sorted vU #[],?_];refine zD λN p=>?_
 dsimp![];refine λd iD=>p _ _ ?_
 let k:=zB iD<|.dK [];let h1:upd H d (.dK []) d=some (.dK<|dz []):=zA;generalize upd H d (.dK [])=H1 at k h1⊢;let r:a≠d:=yR ha iD;refine zK (λσ H'=>gX d H1 H'/\H' d=some (.dK<|dz<|yN []<|yQ ts)/\∃g j,σ=[g,some<|V.ref d,j]) (λN p=>?_) λσ H' h=>?_
 ·dsimp![];calc#[#[_,cO.of<|k _ _ ha],?_];refine qU (xs:=us) (λi σ H'=>gX d H1 H'/\H' d=some (.dK<|dz<|yN []<|yQ<|ts.take i)/\∃g j,σ=[g,some<|V.ref d,j]) ?_ (λi σ H' _ h=>cO.of<|h.1 _ _ (k _ _ ha) r) (λi x σ H' hx h=>?_) λσ H' h=>?_
  ·exact#[gX.refl _ _,h1,_,_,rfl]
  ·obtain⟨c,e,g,j,rfl⟩:=h;obtain⟨u,m,oM⟩:=hu.getV hx;let hm:=aS m;let D:=vK hm;let y:=uN (yQ<|ts.take i) [];let G:=wZ<|ts.take i;let I:iW (ts.take i)<=iW ts:=by
    have :=cM iW<|eN i ts;rw[yV]at this;lia
   dsimp![dj];calc#[u,fX.tups (k.tups.trans<|c.tups h1) oM,(hf u hm).1,(hf u hm).2,_,e,by simp at y;lia,λJ z B=>#[c.trans z,?_,_,rfl]];rw[QM m,wL];exact B
  ·obtain⟨c,e,g,j,rfl⟩:=h;rw[aU ()]at e;exact p _ _ #[c,e,_,_,rfl]
 ·obtain⟨c,e,g,j,rfl⟩:=h;dsimp![];calc#[_,e,yN []<|yQ ts,by unfold dz;rw[dC];rfl,n,λl mW iK hp hs=>?_];let es:aX H H':=λb o hb=>c b o (k _ _ hb)<|yR hb iD
  exact q _ _ _ (es.trans<|zB iK _) zA hp hs
theorem BK(bi:Bi mg)(h_y:fI P w K mg base 23 "names_of_all" ["terms"] n0)(F:fT K "names_of" "names_of" pk f fd):cZ P w K mg base fL 24 f fd ["t"] spNO:=by
 refine F.okz kh λeO A outer s H vs Q E hr h=>?_
 obtain⟨v,t,rfl,ht,hf,c,b,q⟩:=h;calc#[_,have nd:=kh.nd;#[],?_];dsimp![n0];refine#[zH (),λp hp=>#[[v],zA,[t],dQ.one<|fX.tups (zB hp _).tups ht,λu hu=>?_,?_,?_,λp2 mW H' e h2 a hs=>?_]]
 ·rw[aP.mp hu];exact#[hf,c]
 ·show wt t+0<=20000;lia
 ·rw[yQ,yQ,cL];exact b
 ·rw[yQ,yQ,cL]at a;exact q _ _ _ ((zB hp _).trans e) h2 a hs
abbrev s_a:Stmt:=qS (top 41) 4
theorem sc_a:bV ["self","sets","t","values"] ["self","sets","t"] (zF s_a):=by rfl'
abbrev py:Stmt:=top 42
theorem kj:bV ["world","names","sets","name"] ["world","names"] (zF py):=by rfl'
abbrev oq:Stmt:=top 43
theorem jy:bV ["world","t","sets"] ["world","t"] (zF oq):=by rfl'
noncomputable def cmn(m:Nat)(vs:List (List Nat)):List Nat:=(List.range m).filter λi=>vs.all λv=>decide<|i∈v
noncomputable def jA(m:Nat)(ps:List (Nat×Nat))(w:Str)(vs:List (List Nat)):List Nat:=
 if w="none" then []else if w="all" then List.range m else if w="not" then cnt m ps (vs.headD [])else if w="both" then cmn m vs else cnt m ps (cmn m<|vs.map<|cnt m ps)
mutual
noncomputable def val(m:Nat)(ps:List (Nat×Nat))(S:Str->List Nat):Tm->List Nat
 | .name x=>S x
 | .node w ts=>jA m ps w<|vals m ps S ts
noncomputable def vals(m:Nat)(ps:List (Nat×Nat))(S:Str->List Nat):List Tm->List (List Nat)
 |[]=>[]
 |t::ts=>val m ps S t::vals m ps S ts
end
theorem qY(m:Nat)(ps:List (Nat×Nat))(S:Str->List Nat):∀ts:List Tm,vals m ps S ts=ts.map (val m ps S)
 |[]=>rfl
 |t::ts=>by rw[vals,qY m ps S ts,bY]
theorem VV{m:Nat}(h:i∈cnt m ps sp):i<m:=(pW.mp h).1
theorem VW{m:Nat}(h:i∈cmn m vs):i<m:=bL.mp (cK.mp h).1
theorem cu{m:Nat}{w:Str}(h:i∈jA m ps w vs):i<m:=by
 unfold jA at h;split at h
 ·cases h
 split at h
 ·exact bL.mp h
 split at h
 ·exact VV h
 split at h
 ·exact VW h
 ·exact VV h
theorem YJ{m:Nat}(hS:∀x,∀i∈S x,i<m):∀(t:Tm){i:Nat},i∈val m ps S t->i<m
 | .name x,i,h=>by rw[val]at h;exact hS x i h
 | .node w ts,i,h=>by rw[val]at h;exact cu h
theorem CO(m:Nat)(vs:List (List Nat)):(cmn m vs).Pairwise (· < ·):=fN _ dL
theorem wO{m:Nat}(hS:∀x,(S x).Pairwise (· < ·)):∀t:Tm,(val m ps S t).Pairwise (· < ·)
 | .name x=>by rw[val];exact hS x
 | .node w ts=>by
   rw[val];unfold jA;split
   ·exact .nil
   split
   ·exact dL
   split
   ·exact uB ..
   split
   ·exact CO ..
   ·exact uB ..
theorem i8{x:Str}(h:zs.Nodup):(ZV zs x).Nodup:=by
 unfold ZV;split
 ·exact h
 ·rename_i hx
  rw[nN];calc#[h,by simp,λa ha b hb e=>?_];rw[aP.mp hb]at e;exact hx<|e▸ha
theorem UC:∀(xs zs:List Str),zs.Nodup->(yN zs xs).Nodup
 |[],zs,h=>h
 |x::xs,zs,h=>UC xs (ZV zs x)<|i8 h
theorem wK:∀(xs zs:List Str){y:Str},y∈yN zs xs->y∈zs\/y∈xs
 |[],zs,y,h=>.inl h
 |x::xs,zs,y,h=>by
  rcases wK xs (ZV zs x) h with h |h
  ·unfold ZV at h;split at h
   ·exact .inl h
   ·rcases bJ.mp h with h |h
    ·exact .inl h
    ·exact .inr (by rw[aP.mp h];calc aV)
  ·exact .inr<|aW _ h
theorem qL{α:Type} [DecidableEq α]:∀{l m:List α},l.Nodup->(∀x∈l,x∈m)->l.length<=m.length
 |[],m,_,_=>cS _
 |x::l,m,hn,hs=>by
  let hx:x∈m:=hs x aV;let a:=fS.mp hn;have :=qL (l:=l) (m:=m.erase x) a.2 λy hy=>by
   let b:=hs y<|aW _ hy;let mX:y≠x:=λe=>a.1 (by rw[←e];calc hy)
   exact(List.mem_erase_of_ne mX).mpr b
  rw[List.length_erase_of_mem hx]at this;have :=rV hx;rw[bG];lia
def rL(cs:List Nat)(vs:List (List Nat)):Prop:=cs.length=vs.length/\∀(i:Nat)(c:Nat)(v:List Nat),cs[i]?=some c->vs[i]?=some v->jR c v
theorem rL.snoc{cs:List Nat}{c:Nat}{v:List Nat}(h:rL cs vs)(hc:jR c v):rL (cs++[c]) (vs++[v]):=by
 calc#[by rw[aK,aK,h.1];rfl,λi a v' h1 h2=>?_];by_cases hi:i<cs.length
 ·rw[bM hi]at h1;rw[bM (by rw[←h.1];calc hi)]at h2;exact h.2 i a v' h1 h2
 ·have :i=cs.length:=by
   have :=(aD.mp h1).1;rw[aK,bP]at this;lia
  subst this;rw[bS<|aG _,iG]at h1;rw[bS (by rw[h.1];calc aG _),h.1,iG]at h2;simp at h1 h2;subst h1 h2;exact hc
theorem rL.cmn{m:Nat}{cs:List Nat}(h:rL cs vs){c:Nat}(hc:∀i,c.testBit i=(decide (i<m)&&cs.all λx=>x.testBit i)):jR c (C.cmn m vs):=λi=>by
 rw[hc,cF,bZ,cC,bZ,cA];unfold C.cmn;rw[cK,bL,cA];refine and_congr_right λ_=>#[λg v d=>?_,λg x hx=>?_]
 ·obtain⟨j,b,e⟩:=cQ d;let a:j<cs.length:=by rw[h.1];exact b
  have :=g cs[j] (bT a);rw[h.2 j cs[j] v (aA a) (by rw[aA b,e]) i]at this;exact this
 ·obtain⟨j,b,e⟩:=cQ hx;let a:j<vs.length:=by rw[←h.1];exact b
  rw[h.2 j x vs[j] (by rw[aA b,e]) (aA a) i];exact g vs[j] (bT a)
theorem HY{P:Program}{w:World}{K:W.Frag}{mg:Str->Option Value}{base:Heap}{C:Addr}{x:Str}{ps:List Str}{f:Addr}{fd:FuncData}{sp:Nat->Sp}(b:Binds K fd ps [])(m:NT K C x f)
 (h0:∀vs H Q E,¬sp 0 vs H Q E) (step:∀n,mY P w K mg base n C x ps (sp n)->cZ P w K mg base fL (n+1) f fd ps (sp<|n+1)):∀n,cZ P w K mg base fL n f fd ps<|sp n
 |0=>#[λvs H Q E h=>(h0 vs H Q E h).elim,λA outer s H args us vs Q E _ _ _ _ h=>(h0 vs H Q E h).elim]
 |n+1=>step n #[f,fd,HY b m h0 step n,b,m]
def df(C:Addr):Nat->Sp
 |0=>λ_ _ _ _=>False
 |1=>λ_ _ _ _=>False
 |2=>λ_ _ _ _=>False
 |n+3=>λvs H Q _=>∃(r d:Addr)(v:V)(t:Tm)(m:Nat)(ps:List (Nat×Nat))(kvs:List (eV×V))(S:Str->List Nat),vs=[.ref r,.ref d,v]/\DG C H r m ps/\m<=90/\fX H t v/\gA n t/\wt t<=900/\H d=some (.dK kvs)/\(∀x∈iY t,∃c:Nat,yB kvs (.inr x)=some (nV c)/\jR c (S x))/\(∀x,∀i∈S x,i<m)/\∀(c:Nat) H',aX H H'->jR c (val m ps S t)->Q (.int c) H'
theorem TH{ps:List Str}{sp:Sp}(h:∀vs H Q E,¬sp vs H Q E):cZ P w K mg base fL n f fd ps sp:=#[λvs H Q E g=>(h vs H Q E g).elim,λA outer s H args us vs Q E _ _ _ _ g=>(h vs H Q E g).elim]
structure oR(H:Hp)(la:Addr)(zs:List Str)(Ss:List (List Nat))(m:Nat):Prop where
 ex:∃(as ls:List Addr),H la=some (.lst<|as.map V.ref)/\as.length=zs.length/\ls.length=zs.length/\∀(i:Nat)(z:Str)(sp:List Nat),zs[i]?=some z->Ss[i]?=some sp->∃a l,as[i]?=some a/\ls[i]?=some l/\H a=some (.tup [.str z,.ref l])/\H l=some (.lst<|sp.map nV)
 len:Ss.length=zs.length
 low:∀sp∈Ss,(∀i∈sp,i<m)/\sp.Pairwise (· < ·)
theorem oR.same{la:Addr}{Ss:List (List Nat)}{m:Nat}(e:aX H H')(h:oR H la zs Ss m):oR H' la zs Ss m:=by
 obtain⟨⟨as,ls,h1,h2,b,c⟩,d,f⟩:=h;calc#[#[as,ls,e _ _ h1,h2,b,λi z sp hz hs=>?_],d,f];obtain⟨a,l,g,j,k,n⟩:=c i z sp hz hs;exact#[a,l,g,j,e _ _ k,e _ _ n]
theorem oR.mono{la:Addr}{Ss:List (List Nat)}{m:Nat}(h:oR H la zs Ss m)(hm:m<=n):oR H la zs Ss n:=#[h.ex,h.len,λsp a=>#[λi hi=>bQ ((h.low sp a).1 i hi) hm,(h.low sp a).2]]
noncomputable def zc(zs:List Str)(cs:List Nat):List (eV×V):=(zs.zip cs).map λp=>(.inr p.1,nV p.2)
theorem DU:∀{zs:List Str}{cs:List Nat}{i:Nat}{x:Str}{c:Nat},zs.Nodup->zs[i]?=some x->cs[i]?=some c->yB (zc zs cs) (.inr x)=some (nV c)
 |z::zs,d::cs,0,x,c,_,h1,h2=>by
  simp only[List.getElem?_cons_zero,GZ]at h1 h2;subst h1 h2;exact qD rfl
 |z::zs,d::cs,i+1,x,c,hn,h1,h2=>by
  simp only[List.getElem?_cons_succ]at h1 h2;let a:=fS.mp hn;let e:yB (zc (z::zs) (d::cs)) (.inr x)=yB (zc zs cs) (.inr x):=jT (λe=>a.1 (by rw[show z=x from rD e];calc aS h1));rw[e];exact DU a.2 h1 h2
 |[],_,i,x,c,_,h1,_=>by simp at h1
 |_,[],i,x,c,_,_,h2=>by simp at h2
inductive nq (K:W.Frag) (vs:List V) (H:Hp) (Q:VK) (E:XK):Prop
 |mk (wa:Addr) (v:V) (t:Tm) (m:Nat) (ca:Addr) (us:List V) (ps:List (Nat×Nat)) (la:Addr) (zs:List Str) (Ss:List (List Nat)) (S:Str->List Nat) (_:vs=[.ref wa,v]) (_:H wa=some (.tup [nV m,.ref ca,.ref la])) (_:H ca=some (.lst us)) (_:bN H (ps.map sE) us) (_:DT m ps) (_:m<=90) (_:oR H la zs Ss m) (_:(zs.Nodup/\zs.length<=5)) (_:fX H t v) (_:gA 20 t) (_:wt t<=900) (_:(∀x∈iY t,x∈zs)) (_:(∀(i:Nat)(z:Str),zs[i]?=some z->Ss[i]?=some (S z))) (_:(∀z,(∀i∈S z,i<m)/\(S z).Pairwise (· < ·))) (_:∀(p:Addr)(H':Hp),aX H H'->H p=none->H' p=some (.lst<|(val m ps S t).map nV)->Q (.ref p) H')
inductive spSF (K:W.Frag) (vs:List V) (H:Hp) (Q:VK) (E:XK):Prop
 |mk (wa na:Addr) (ys:List Str) (m:Nat) (cps:V) (la:Addr) (zs:List Str) (Ss:List (List Nat)) (_:vs=[.ref wa,.ref na]) (_:H wa=some (.tup [nV m,cps,.ref la])) (_:oR H la zs Ss 90) (_:H na=some (.lst<|ys.map V.str)) (_:(∀y∈ys,y∈zs)) (_:(zs.Nodup/\zs.length<=5)) (_:∀p cs H',aX H H'->H' p=some (.dK<|zc zs cs)->rL cs Ss->Q (.ref p) H')
theorem BD{C:Addr}(T:FlC K C)(bi:Bi mg)(h_j:mY P w K mg base 1 C "common_of" ["self","sets"] (oe K C))(h_i:mY P w K mg base 2 C "counter_of" ["self","spots"] (spCn C))(F:fT K "value_of" "Floor.value_of" s_a f fd)(b:Binds K fd ["self","sets","t"] [])(mt:NT K C "value_of" f):∀n,cZ P w K mg base fL n f fd ["self","sets","t"] (df C n):=by
 refine HY b mt (λvs H Q E h=>h) (λn h_a=>?_)
 match n with
 |0=>exact TH λvs H Q E h=>h
 |1=>exact TH λvs H Q E h=>h
 |n+2=>
 refine F.okz sc_a λeO A outer s H vs Q E hr h=>?_
 obtain⟨r,d,v,t,m,ps,kvs,S,rfl,u,p,ht,hf,hw,hd,hS,Y,q⟩:=h;let Z:=u;obtain⟨dx,lx,cs,iO,iK,hmk⟩:=Z;let gU:=T.cl;calc#[_,have nd:=sc_a.nd;zC #[]<|zC #[]<|zC (yA #[] (zI<|zR<|VB (xW hr) #[] #[] λ_ _=>rfl) zL)<|zC (ZZ (i:=3) ["part"] ["sets","self"] [1,0] nd rfl (kO<|xM YT #[] (jK zS) jL) (λ_ _ _ _ nd=>yG 0 nd) (λ_ _ _ _=>zY) λ_ _ _ _=>(xU h_a gU hr.m #[] #[]))<|zC (yA #[] (zI<|zR<|xU h_i gU hr.m #[]<|zE (zP zQ #[] zS) zJ) zL)<|zC #[]<|zI<|zR<|xU h_i gU hr.m #[]<|zE (xU h_j gU hr.m #[]<|zE (zW ["spots"] ["self"] [0] #[] (λ_ _ _ _ nd=>yG 0 nd) (λ_ _ _ _=>zY) λ_ _ _ _=>(xU h_i gU hr.m #[] #[])) zJ) zJ,?_];cases t with
 |name x=>
  obtain⟨a,rfl,ha⟩:=fX.name ht;obtain⟨c,hc1,hc2⟩:=hS x (by rw[iY];calc aP.mpr rfl);dsimp![yK,jF];calc#[_,cW.of ha,.str "name",gR,rfl,?_];rw[aH (by intro z;calc absurd (V.str.inj z) ())];calc#[_,cW.of ha,.str "name",gR,rfl,?_];rw[aH (by intro z;calc absurd (V.str.inj z) ())];calc#[_,cW.of ha,.str "name",gR,rfl,?_];rw[aT rfl];calc#[_,cW.of ha,.str x,oQ,_,hc1▸oV.k (k:=.inr x) hd,?_];exact q c _ (aX.refl _) (by rw[val];calc hc2)
 |node wd ts=>
  obtain⟨a,us,rfl,ha,hu⟩:=fX.node ht;let hwd:=hf.wrd;let hsh:=hf.sh;let hl:=hu.length;let hll:=wM ts;rw[wt]at hw;let hwr:val m ps S (.node wd ts)=jA m ps wd (ts.map<|val m ps S):=by rw[val,qY]
  rw[hwr]at q;let hSm':∀t∈ts,∀x∈iY t,∃c:Nat,yB kvs (.inr x)=some (nV c)/\jR c (S x):=λt ht x hx=>hS x (by rw[iY];calc pO.mpr #[t,ht,hx])
  refine zD λN g=>?_
  dsimp![yK,jF];calc#[_,cW.of ha,.str wd,gR,rfl,?_];by_cases L:wd="none"
  ·rw[aT (by rw[L])];let e:jA m ps wd (ts.map<|val m ps S)=[]:=by unfold jA;rw[aT L]
   rw[e]at q;exact q 0 _ (aX.refl _) λi=>by simp
  rw[aH λz=>L<|V.str.inj z];calc g _ _ ?_;clear g;refine zD λN g=>?_
  dsimp![yK,jF];calc#[_,cW.of ha,.str wd,gR,rfl,?_];by_cases O:wd="all"
  ·rw[aT (by rw[O])];let e:jA m ps wd (ts.map<|val m ps S)=List.range m:=by unfold jA;rw[aH L,aT O]
   rw[e]at q;exact#[C,dx,_,iO,T.cl,T.nE,_,fl_e _ _,q (2^m-1) _ (aX.refl _) λi=>by rw[pT];simp]
  rw[aH λz=>O<|V.str.inj z];calc g _ _ ?_;clear g;refine zD λN g=>?_
  dsimp![yK,jF];calc#[_,cW.of ha,.str wd,gR,rfl,?_];rw[aH λz=>hwd.ne<|V.str.inj z];calc g _ _ ?_;clear g;refine zD λN g=>?_
  dsimp![yK,jF];calc#[_,cW.of ha,qF _ _,λp2 iP=>?_];rw[JD];let s2:=zB iP<|.tup us;let k2:upd H p2 (.tup us) p2=some (.tup us):=zA;generalize upd H p2 (.tup us)=H2 at s2 k2⊢;calc#[#[_,cW.of k2],?_];refine FW (xs:=us) (λi ys σ H'=>aX H2 H'/\(∃cs:List Nat,ys=cs.map nV/\cs.length=i/\rL cs ((ts.map<|val m ps S).take i))/\∃o,σ=[o,some<|V.ref d,some<|V.ref r]) #[aX.refl _,#[[],rfl,rfl,rfl,λi c v h=>by simp at h],_,rfl] (zH ()) (λi ys σ H' e=>?_) (λi ys σ H' e=>cW.of<|e.1 _ _ k2) (λi x ys σ H' C' hx e hC=>?_) λys σ H' e p3 hp3=>g _ _ ?_
  ·obtain⟨_,⟨cs,rfl,h1,_⟩,_⟩:=e;rw[aC,h1];exact aG _
  ·obtain⟨es,⟨cs,rfl,hcl,nY⟩,o,rfl⟩:=e;obtain⟨t,ht',oM⟩:=hu.getV hx;cases n with
   |zero=>have :=hf.2;subst this;simp at ht'
   |succ n=>
    let hm:=aS ht';let hmt:=vK hm;let j:=s2.trans es;dsimp![yK,jF,df];calc#[_,_,j _ _ iO,ZI _ _ () (),t,m,ps,u.same j,p,fX.tups j.tups oM,hf.part hm,(),kvs,j _ _ hd,S,hSm' t hm,Y,λc H3 e3 hc=>hC _ _ _ #[es.trans e3,#[cs++[c],by rw[aQ];rfl,by rw[aK,hcl];rfl,?_],_,rfl]];obtain⟨mN,R⟩:=aD.mp (show(ts.map<|val m ps S)[i]?=some (val m ps S t) by rw[aF,ht'];rfl);rw[aI mN,R];exact nY.snoc hc
  clear g;obtain⟨es,⟨cs,rfl,hcl,nY⟩,o,rfl⟩:=e;rw[show(ts.map<|val m ps S).take us.length=ts.map (val m ps S)from aU (by rw[aC];lia)]at nY;let j:=(s2.trans es).trans (zB hp3<|.lst<|cs.map nV);let k3:upd H' p3 (.lst<|cs.map nV) p3=some (.lst<|cs.map nV):=zA;generalize upd H' p3 (.lst<|cs.map nV)=H3 at j k3⊢;let M:=u.same j;let lR:∀(i:Nat)(v:List Nat),(ts.map<|val m ps S)[i]?=some v->∀x∈v,x<m:=λi v hv x hx=>by
   rw[aF]at hv;obtain⟨t,ht,rfl⟩:=aL.mp hv;exact YJ Y t hx
  let hvl:(ts.map<|val m ps S).length=ts.length:=aC _;generalize hvs:ts.map (val m ps S)=vs at nY q lR hvl;refine zD λN g=>?_
  dsimp![yK,jF];calc#[_,cW.of<|j _ _ ha,.str wd,gR,rfl,?_];by_cases U:wd="not"
  ·rw[aT (by rw[U])];let h1:ts.length=1:=by
    rcases hsh with h |h |h |h |h
    ·exact absurd h.1 L
    ·exact absurd h.1 O
    ·exact h.2
    ·rw[U]at h;exact absurd h.1 ()
    ·rw[U]at h;exact absurd h.1 ()
   obtain⟨G,rfl⟩:∃G,vs=[G]:=by
    match vs,(show vs.length=1 by lia)with
    |[G],_=>exact#[G,rfl]
   obtain⟨y,rfl⟩:∃y,cs=[y]:=by
    match cs,(show cs.length=1 by rw[nY.1];rfl)with
    |[y],_=>exact#[y,rfl]
   let e:jA m ps wd [G]=cnt m ps G:=by unfold jA;rw[aH L,aH O,aT U];rfl
   rw[e]at q;obtain⟨xs,B,l⟩:=WF y G<|nY.2 0 y G rfl rfl;calc#[_,_,j _ _ iO,ZI _ _ () (),_,cO.of k3,nV y,gR,?_];calc#[r,m,y,ps,xs,rfl,M,p,B,λx hx=>lR 0 G rfl x<|(l x).mp hx,λc H4 I hc=>q c _ (j.trans I) ?_];rw[kZ l]at hc;exact hc
  rw[aH λz=>U<|V.str.inj z];calc g _ _ ?_;clear g;refine zD λN g=>?_
  dsimp![yK,jF];calc#[_,cW.of<|j _ _ ha,.str wd,gR,rfl,?_];by_cases c4:wd="both"
  ·rw[aT (by rw[c4])];let e:jA m ps wd vs=cmn m vs:=by unfold jA;rw[aH L,aH O,aH U,aT c4]
   rw[e]at q;calc#[_,_,j _ _ iO,ZI _ _ () (),?_];exact#[r,p3,m,ps,cs,rfl,M,cO.of k3,(),λc hc=>q c _ j<|nY.cmn hc]
  rw[aH λz=>c4<|V.str.inj z];calc g _ _ ?_;clear g;let e:jA m ps wd vs=cnt m ps (cmn m<|vs.map<|cnt m ps):=by unfold jA;rw[aH L,aH O,aH U,aH c4]
  rw[e]at q;dsimp![yK,jF];calc#[_,_,j _ _ iO,ZI _ _ () (),_,_,j _ _ iO,ZI _ _ () (),#[_,cO.of k3],?_];refine yM (xs:=cs.map nV) (λi ys σ H'=>aX H3 H'/\(∃ds:List Nat,ys=ds.map nV/\ds.length=i/\rL ds ((vs.map<|cnt m ps).take i))/\∃o,σ=[o,some<|V.ref r]) #[aX.refl _,#[[],rfl,rfl,rfl,λi c v h=>by simp at h],_,rfl] (zH (by rw[aC];lia)) (λi ys σ H' e=>?_) (λi ys σ H' e=>cO.of<|e.1 _ _ k3) (λi x ys σ H' C' hx e hC=>?_) λys σ H' e p4 hp4=>?_
  ·obtain⟨_,⟨ds,rfl,h1,_⟩,_⟩:=e;rw[aC,h1];exact aG _
  ·obtain⟨J,⟨ds,rfl,W,D⟩,o,rfl⟩:=e;rw[aF]at hx;obtain⟨y,hc0,rfl⟩:=aL.mp hx;let hiv:i<vs.length:=by rw[←nY.1];exact(aD.mp hc0).1
   let X:vs[i]?=some vs[i]:=aA hiv;obtain⟨xs,B,l⟩:=WF y vs[i] (nY.2 i y _ hc0 X);let I:=j.trans J;dsimp![yK,jF];calc#[_,_,I _ _ iO,ZI _ _ () (),r,m,y,ps,xs,rfl,u.same I,p,B,λx hx=>lR i _ X x<|(l x).mp hx,λc H4 s5 hc=>hC _ _ _ #[J.trans s5,#[ds++[c],by rw[aQ];rfl,by rw[aK,W];rfl,?_],_,rfl]];rw[kZ l]at hc;obtain⟨mN,R⟩:=aD.mp (show(vs.map<|cnt m ps)[i]?=some (cnt m ps vs[i]) by rw[aF,X];rfl);rw[aI mN,R];exact D.snoc hc
  obtain⟨J,⟨ds,rfl,W,D⟩,o,rfl⟩:=e;rw[aC]at D W;rw[show(vs.map<|cnt m ps).take cs.length=vs.map (cnt m ps)from aU (by rw[aC,nY.1];calc aG _)]at D;let I:=(j.trans J).trans (zB hp4<|.lst<|ds.map nV);let k4:upd H' p4 (.lst<|ds.map nV) p4=some (.lst<|ds.map nV):=zA;generalize upd H' p4 (.lst<|ds.map nV)=H4 at I k4⊢;calc#[r,p4,m,ps,ds,rfl,u.same I,cO.of k4,(),λc hc=>?_];let hm1:=D.cmn hc;obtain⟨xs,B,l⟩:=WF c _ hm1;calc#[r,m,c,ps,xs,rfl,u.same I,p,B,λx hx=>VW<|(l x).mp hx,λc' H5 s5 hc'=>q c' _ (I.trans s5) ?_];rw[kZ l]at hc';exact hc'
theorem BH(bi:Bi mg)(h_be:fI P w K mg base 1 "mask_of" ["numbers"] (EI K))(F:fT K "sets_for" "sets_for" py f fd):cZ P w K mg base fL 2 f fd ["world","names"] (spSF K):=by
 refine F.okz kj λeO A outer s H vs Q E hr h=>?_
 obtain⟨wa,na,ys,m,cps,la,zs,Ss,rfl,U,oN,C,D,iD,q⟩:=h;calc#[_,have nd:=kj.nd;zC (xI 2 nd<|xF JE rfl bi.dict YG<|zE (zW ["name","spots"] [] [] #[] (λ_ _ _ _ nd=>qQ (K:=K) (n:=2) rfl<|yE (yG 0 nd)<|yE (yG 1 nd) jS) (λ_ _ _ _=>zY) λ_ _ _ _=>(yW<|zE #[]<|zE (zV h_be hr.m rfl #[]) zJ)) zJ)<|zC (yD bR rfl #[] #[]<|zI<|yA (YY (QH (xW hr) #[] #[]) (by with_unfolding_all rfl)) (zI AO) zL) #[],?_];refine zD λN S=>?_
 dsimp![];let at2:∀{a b c:V},pI [a,b,c] 2=some c:=zU (j:=2) rfl;obtain⟨⟨as,ls,h1,h2,h3,h4⟩,h5,h6⟩:=oN;calc#[_,cW.of U,.ref la,at2,la,rfl,#[_,cO.of h1],?_];refine yM (xs:=as.map V.ref) (λi ys σ H'=>aX H H'/\(∃(bs:List Addr)(cs:List Nat),ys=bs.map V.ref/\bs.length=i/\rL cs (Ss.take i)/\∀(j:Nat)(z:Str)(c:Nat),(zs.take i)[j]?=some z->cs[j]?=some c->∃b,bs[j]?=some b/\H' b=some (.tup [.str z,nV c]))/\∃W X,σ=[W,X]) #[aX.refl _,#[[],[],rfl,rfl,#[rfl,λi c v h=>by simp at h],λj z c h=>by simp at h],_,_,rfl] (zH (by rw[aC];lia)) (λi ys σ H' e=>?_) (λi ys σ H' e=>cO.of<|e.1 _ _ h1) (λi x ys σ H' C' hx e hC=>?_) λys σ H' e G I=>?_
 ·obtain⟨_,⟨bs,cs,rfl,h1,_⟩,_⟩:=e;rw[aC,h1];exact aG _
 ·obtain⟨es,⟨bs,cs,rfl,r,nY,g⟩,W,X,rfl⟩:=e;rw[aF]at hx;obtain⟨a,ha,rfl⟩:=aL.mp hx;let hia:=(aD.mp ha).1;let J:i<zs.length:=by lia
  let B:i<Ss.length:=by lia
  obtain⟨a',l,g1,g2,g3,g4⟩:=h4 i zs[i] Ss[i] (aA J) (aA B);rw[ha]at g1;cases g1;let L:=h6 Ss[i] (bT B);dsimp![uA,jN,uK,EI];refine#[_,cW.of<|es _ _ g3,rfl,_,_,rfl,_,_,rfl,rfl,l,rfl,Ss[i],cO.of<|es _ _ g4,λn hn=>by have :=L.1 n hn;lia,λc hc=>#[zH (),λp hp=>hC _ _ _ #[es.trans<|zB hp _,#[bs++[p],cs++[c],by rw[aQ];rfl,by rw[aK,r];rfl,?_,λj z c' hz d=>?_],_,_,rfl]]]
  ·rw[aI B];exact nY.snoc hc
  ·let M:cs.length=i:=by rw[nY.1,bD];lia
   let Y:=(aD.mp d).1;rw[aK,bP]at Y;by_cases Z:j<i
   ·rw[bM ()]at d;rw[mD ()]at hz;obtain⟨b,O,R⟩:=g j z c' (by rw[mD Z];calc hz) d;exact#[b,by rw[bM ()];exact O,zB hp _ _ _ R]
   ·let hji:j=i:=by lia
    subst hji;rw[mD (),aA J]at hz;rw[bS (),M,iG]at d;simp at d;cases hz;subst d;exact#[p,by rw[bS (),r];simp,zA]
 obtain⟨es,⟨bs,cs,rfl,r,nY,g⟩,W,X,rfl⟩:=e;rw[aC]at r nY g;rw[aU ()]at nY g;let M:cs.length=zs.length:=by rw[nY.1];lia
 let s3:=es.trans<|zB I<|.lst<|bs.map V.ref;let k3:upd H' G (.lst<|bs.map V.ref) G=some (.lst<|bs.map V.ref):=zA;let t:∀(j:Nat)(z:Str)(c:Nat),zs[j]?=some z->cs[j]?=some c->∃b,bs[j]?=some b/\upd H' G (.lst<|bs.map V.ref) b=some (.tup [.str z,nV c]):=λj z c hz hc=>by
  obtain⟨b,O,R⟩:=g j z c hz hc;exact#[b,O,zB I _ _ _ R]
 generalize upd H' G (.lst<|bs.map V.ref)=H3 at s3 k3 t⊢;let hkl:(zc zs cs).length=zs.length:=by
  unfold zc;rw[aC,List.length_zip];lia
 refine#[G,rfl,bs,cO.of k3,zc zs cs,(),?_,λi k u hi=>?_,λl hl=>S _ _ ?_]
 ·let e:(zc zs cs).map (·.1)=zs.map Sum.inr:=by
   unfold zc;rw[dC];have :((λx:eV×V=>x.1) ∘ λp:Str×Nat=>((.inr p.1:eV),nV p.2))=Sum.inr ∘ Prod.fst:=rfl;rw[this,←dC,List.map_fst_zip ()]
  rw[e];exact List.Pairwise.map _ (λa b h e=>h<|rD e) iD.1
 ·unfold zc at hi;rw[aF]at hi;obtain⟨y,hy,ey⟩:=aL.mp hi;obtain⟨y1,y2⟩:=mv.mp hy;cases ey;obtain⟨b,O,R⟩:=t i y.1 y.2 y1 y2;exact#[b,O,cW.of R]
 clear S;let T:=s3.trans<|zB hl<|.dK<|zc zs cs;let k4:upd H3 l (.dK<|zc zs cs) l=some (.dK<|zc zs cs):=zA;generalize upd H3 l (.dK<|zc zs cs)=H4 at T k4⊢;refine zK (λσ H'=>H'=H4/\∃o,σ=[some<|V.ref wa,some<|V.ref na,some<|V.ref l,o]) (λN S=>?_) λσ H' h=>?_
 ·dsimp![];calc#[#[_,cO.of<|T _ _ C],?_];calc qU (xs:=ys.map V.str) (λi σ H'=>H'=H4/\∃o,σ=[some<|V.ref wa,some<|V.ref na,some<|V.ref l,o]) #[rfl,_,rfl] (λi σ H' _ h=>by rw[h.1];calc cO.of<|T _ _ C) (λi x σ H' hx h=>?_) λσ H' h=>S _ _ h;obtain⟨rfl,o,rfl⟩:=h;rw[aF]at hx;obtain⟨y,hy,rfl⟩:=aL.mp hx;obtain⟨j,Z,e⟩:=cQ<|D y<|aS hy;dsimp![UI];calc#[_,oV.k (k:=.inr y) k4,?_];let hv:=DU iD.1 (show zs[j]?=some y by rw[aA Z,e]) (aA<|show j<cs.length by lia);rw[hv,aH (by simp)];exact#[_,rfl]
 obtain⟨rfl,o,rfl⟩:=h;dsimp![];exact q _ _ _ T k4 nY
theorem SN{C:Addr}(T:FlC K C)(bi:Bi mg)(h_ah:fI P w K mg base 2 "sets_for" ["world","names"] (spSF K))(h_bb:fI P w K mg base 24 "names_of" ["t"] spNO)(h_N:fI P w K mg base 1 "bits_of" ["mask"] sX)(h_v:bj P w K mg base 1 C "Floor" ["self","many","clashes"] (n9 C))(h_a:mY P w K mg base 23 C "value_of" ["self","sets","t"] (df C 23))(F:fT K "value" "value" oq f fd):cZ P w K mg base fL 25 f fd ["world","t"] (nq K):=by
 refine F.okz jy λeO A outer s H vs Q E hr h=>?_
 obtain⟨wa,v,t,m,ca,us,ps,la,zs,Ss,S,rfl,n,O,R,B,d,oN,iD,ht,hf,Z,g,U,r,q⟩:=h;let gU:=T.cl;calc#[_,have nd:=jy.nd;zC #[]<|zI<|zR<|zV h_N hr.m rfl<|zE (xU h_a gU hr.m (AV h_v hr.m rfl #[]) #[]) zJ,?_];refine zD λN hN=>?_
 dsimp![];let hal:(yN []<|iY t).length<=zs.length:=qL (UC _ _ .nil) λy hy=>by
  rcases wK _ _ hy with h |h
  ·cases h
  ·exact g y h
 calc#[v,t,rfl,ht,hf,Z,(),λpn mW H1 s1 k1 u _=>?_];refine#[wa,pn,mW,m,.ref ca,la,zs,Ss,rfl,s1 _ _ n,(oN.same s1).mono d,k1,λy hy=>?_,iD,λpd cs H2 s2 k2 nY=>hN _ _ ?_]
 ·rcases wK _ _ (u.mem_iff.mp hy)with h |h
  ·cases h
  ·exact g y h
 clear hN;replace s2:=s1.trans s2;dsimp![yK,HI];let D:∀{a b c:V},pI [a,b,c] 1=some b:=zU (j:=1) rfl;calc#[_,cW.of<|s2 _ _ n,_,gR,_,cW.of<|s2 _ _ n,_,D,λx dx hx W mX=>?_];let M:aX H2 (upd (upd H2 dx<|.own x) x<|.ins C dx []):=((aX.refl H2).upd W).upd hx;let k3:upd (upd H2 dx<|.own x) x (.ins C dx []) x=some (.ins C dx []):=zA;generalize upd (upd H2 dx<|.own x) x (.ins C dx [])=H3 at M k3⊢;let k:=s2 _ _ O;let X:ca≠x:=λz=>by rw[z,hx]at k;cases k
 calc#[x,dx,ca,m,us,ps,rfl,k3,X,M _ _ k,bN.same (s2.trans M) R,B,d,λH4 s4 G=>?_];let I:aX H2 H4:=λb o hb=>s4 b o (M _ _ hb) (λz=>by rw[z,hx]at hb;cases hb)
 let J:=G;obtain⟨dx',l,cs',iO,_,_⟩:=J;let Y:=s2.trans I;calc#[rfl,_,_,iO,ZI _ _ () (),?_];refine#[x,pd,v,t,m,ps,zc zs cs,S,rfl,G,d,fX.tups Y.tups ht,hf,Z,I _ _ k2,λy hy=>?_,λy i hi=>(r y).1 i hi,λc H6 s6 hc=>?_]
 ·obtain⟨j,hj,e⟩:=cQ<|g y hy;let hz:zs[j]?=some y:=by rw[aA hj,e]
  let L:j<cs.length:=by rw[nY.1,oN.len];exact hj
  exact#[cs[j],DU iD.1 hz<|aA L,nY.2 j _ _ (aA L)<|U j y hz]
 ·refine#[c,val m ps S t,rfl,#[wO (λy=>(r y).2) t,hc],λy hy=>by have :=YJ (λy i hi=>(r y).1 i hi) t hy;lia,λp H7 s7 hp k7=>q p H7 ((Y.trans s6).trans s7) ((Y.trans s6).free hp) k7]
abbrev qf:Stmt:=top 51
theorem lf:bV ["many","pairs"] ["many","pairs"] (zF qf):=by rfl'
abbrev s_I:Stmt:=top 52
theorem sc_I:bV ["spots","pairs","clashes","a","i"] ["spots","pairs"] (zF s_I):=by rfl'
abbrev s_B:Stmt:=top 53
theorem sc_B:bV ["spots","pairs","n"] ["spots","pairs","n"] (zF s_B):=by rfl'
theorem kS{a:Addr}{ns:List Str}{js:List Nat}{g:TG}{tc:TT}{te:TE}{σ:St}{Q:VK}(Pv:Nat->List V->St->Hp->Prop)(h0:Pv 0 [] (kT ns js σ) H)(hz:xs.length<=sizeLine)(hl:∀i ys σ H,Pv i ys σ H->ys.length<=i)
 (hK:∀i ys σ H,Pv i ys σ H->H a=some (.lst xs))
 (hs:∀(i:Nat) x ys σ H p (C:V->St->Hp->Prop) (D:St->Hp->Prop),xs[i]?=some x->Pv i ys σ H->H p=none->(∀y σ2 H3,Pv (i+1) (ys++[y]) σ2 H3->C y σ2 H3)->(∀σ2 H3,Pv (i+1) ys σ2 H3->D σ2 H3)->
  g (.ref p) σ (upd H p<|.tup [.int i,x]) λσ2 H2=>tc σ2 H2 λb H3=>if b=true then te σ2 H3 λy H4=>C y σ2 H4 else D σ2 H3)
 (hd:∀ys σ H,Pv xs.length ys σ H->∀p,H p=none->Q (.ref p) (upd H p<|.lst ys)):
 bf (Ite a) ns js g (some tc) te σ H Q:=by
 calc#[λi m ys σ H=>m=xs.length-i/\i<=xs.length/\Pv i ys σ H,#[xs.length,(),cS _,h0],λi m ys σ1 H1 ⟨hm,hi,hp⟩=>?_];let c:=hK i ys σ1 H1 hp;by_cases h:i<xs.length
 ·refine .inr #[#[xs,xs[i],c,aA h],?_,λx H' ⟨p,y,d,f,j,k⟩=>?_]
  ·have :=hl i ys σ1 H1 hp;lia
  ·subst d;subst j;exact hs i y ys σ1 H1 p _ _ (k xs c) hp f (λy σ2 H3 q=>#[xs.length-(i+1),(),rfl,(),q]) λσ2 H3 q=>#[xs.length-(i+1),(),rfl,(),q]
 ·let e:i=xs.length:=by lia
  subst e;exact .inl #[#[xs,c,aG _],hd ys σ1 H1 hp]
noncomputable def sU(ls:List Ln):List (List eV×V):=ls.map λl=>(yT l.i l.j,V.bl true)
noncomputable def rl(ls:List Ln)(i j:Nat):Bool:=zM ls i j
theorem YC(ls:List Ln)(i j:Int):(yB (sU ls)<|yT i j).isSome=zM ls i j:=by
 induction ls with
 |nil=>rfl
 |cons l ls b=>
  unfold zM;rw[iN];by_cases e:yT l.i l.j=yT i j
  ·let h:yB (sU (l::ls)) (yT i j)=some (V.bl true):=qD e;rw[h];let a:l.i=i/\l.j=j:=by
    unfold yT at e;simp only[bv,Sum.inl.injEq,and_true]at e;exact e
   simp[a.1,a.2]
  ·let h:yB (sU (l::ls)) (yT i j)=yB (sU ls) (yT i j):=jT e;rw[h,b];let a:(l.i==i&&l.j==j)=false:=by
    rw[dM];intro z;simp only[cC,cP]at z;exact e (by rw[z.1,z.2])
   rw[a,tU];rfl
theorem dgB{i j:Int}(hd:H d=some (.dT<|sU ls))(es:aX H H')(hp:H' p=some (.tup [V.int i,V.int j])):oV H' d (.ref p) (yB (sU ls)<|yT i j):=oV.t (k:=yT i j) (es _ _ hd) hp
noncomputable def yF(m:Nat)(R:Nat->Nat->Bool):List Nat:=(List.range m).filter λn=>!R n (mE n)
noncomputable def jH(sp:List Nat)(R:Nat->Nat->Bool)(n:Nat):List Nat:=(List.range sp.length).filter λa=>R (sp.getD a 0) n
noncomputable def uR(sp:List Nat)(R:Nat->Nat->Bool):List (Nat×Nat):=(List.range sp.length).flatMap λa=>((List.range sp.length).filter λb=>decide (a<b)&&R (sp.getD a 0) (mE<|sp.getD b 0)).map λb=>(a,b)
inductive spSb (vs:List V) (H:Hp) (Q:VK) (E:XK):Prop
 |mk (m:Nat) (d:Addr) (ls:List Ln) (_:vs=[.int m,.ref d]) (_:m<=200) (_:H d=some (.dT<|sU ls)) (_:∀p H',aX H H'->H p=none->H' p=some (.lst<|(yF m<|rl ls).map nV)->Q (.ref p) H')
inductive spSu (vs:List V) (H:Hp) (Q:VK) (E:XK):Prop
 |mk (sa d:Addr) (sp:List Nat) (ls:List Ln) (n:Nat) (_:vs=[.ref sa,.ref d,.int n]) (_:H sa=some (.lst<|sp.map nV)) (_:sp.length<=200) (_:H d=some (.dT<|sU ls)) (_:∀p H',aX H H'->H p=none->H' p=some (.lst<|(jH sp (rl ls) n).map nV)->Q (.ref p) H')
inductive spCb (vs:List V) (H:Hp) (Q:VK) (E:XK):Prop
 |mk (sa d:Addr) (sp:List Nat) (ls:List Ln) (_:vs=[.ref sa,.ref d]) (_:H sa=some (.lst<|sp.map nV)) (_:sp.length<=80) (_:(∀x∈sp,x<200)) (_:H d=some (.dT<|sU ls)) (_:∀p us H',aX H H'->H p=none->H' p=some (.lst us)->bN H' ((uR sp<|rl ls).map sE) us->Q (.ref p) H')
theorem BF(bi:Bi mg)(F:fT K "spots_by" "spots_by" qf f fd):cZ P w K mg base fL 1 f fd ["many","pairs"] spSb:=by
 refine F.okz lf λeO A outer s H vs Q E hr h=>?_
 obtain⟨m,d,ls,rfl,hm,hd,q⟩:=h;calc#[_,have nd:=lf.nd;zI<|zR<|zW ["n"] ["pairs"] [1] #[] (λ_ _ _ _ nd=>yG 0 nd) (λ_ _ _ _=>uG<|YY (QH (xW hr) #[] #[]) (by with_unfolding_all rfl)) λ_ _ _ _=>#[],?_];dsimp![];calc#[(),(),?_];refine XM (n:=(m:Int).toNat) (λi ys σ H'=>aX H H'/\ys=((List.range i).filter λn=>!rl ls n (mE n)).map nV/\∃o,σ=[o,some<|V.ref d]) #[aX.refl _,rfl,_,rfl] (zH ()) (λi ys σ H' e=>?_) (λi ys σ H' C D hi e b g=>?_) λys σ H' e p hp=>?_
 ·obtain⟨_,rfl,_⟩:=e;rw[aC];exact bX (dX _ _) (by rw[bU];calc aG _)
 ·obtain⟨es,rfl,o,rfl⟩:=e;dsimp![UI];rw[show(0:Int)+(i:Int)=(i:Int) by lia,tW,qE];calc#[zH (),λp hp=>#[_,dgB hd (es.trans<|zB hp _) zA,?_]];let a:=es.trans<|zB hp<|.tup [V.int (i:Int),V.int ((mE i:Nat):Int)];rw[show(yB (sU ls)<|yT (i:Int) ((mE i:Nat):Int)).isSome=rl ls i (mE i)from YC ls _ _];cases c:rl ls i (mE i)with
  |false=>
   rw[aT rfl];exact b _ _ _ #[a,by rw[dR,dN,aQ];simp[c],_,rfl]
  |true=>
   rw[aH ()];exact g _ _ #[a,by rw[dR,dN,aQ];simp[c],_,rfl]
 ·obtain⟨es,rfl,o,rfl⟩:=e;exact q p _ (es.trans<|zB hp _) (es.free hp) (by rw[zA];rfl)
theorem XD(bi:Bi mg)(be:mg "enumerate"=none)(F:fT K "spots_under" "spots_under" s_B f fd):cZ P w K mg base fL 1 f fd ["spots","pairs","n"] spSu:=by
 refine F.okz sc_B λeO A outer s H vs Q E hr h=>?_
 obtain⟨sa,d,sp,ls,n,rfl,hs,hl,hd,q⟩:=h;calc#[_,have nd:=sc_B.nd;zI<|zR<|zW ["a","i"] ["pairs","n"] [1,2] #[] (λ_ _ _ _ nd=>qQ (K:=K) (n:=2) rfl<|yE (yG 0 nd)<|yE (yG 1 nd) jS) (λ_ _ _ _=>uG<|YY (XC (xW hr) #[] #[]) (by with_unfolding_all rfl)) λ_ _ _ _=>#[],?_];dsimp![vW];calc#[sp.map nV,hs,?_];refine kS (xs:=sp.map nV) (λi ys σ H'=>aX H H'/\ys=((List.range i).filter λa=>rl ls (sp.getD a 0) n).map nV/\∃g j,σ=[g,j,some<|V.ref d,some<|V.int n]) #[aX.refl _,rfl,_,_,rfl] (zH (by rw[aC];lia)) (λi ys σ H' e=>?_) (λi ys σ H' e=>e.1 _ _ hs) (λi x ys σ H' p C D hx e hp m o=>?_) λys σ H' e p hp=>?_
 ·obtain⟨_,rfl,_⟩:=e;rw[aC];exact bX (dX _ _) (by rw[bU];calc aG _)
 ·obtain⟨es,rfl,g,j,rfl⟩:=e;rw[aF]at hx;obtain⟨y,hy,rfl⟩:=aL.mp hx;let k:sp.getD i 0=y:=by rw[bC,hy];rfl
  let b:=es.trans<|zB hp<|.tup [V.int i,nV y];dsimp![uA,jN,uK,EG];calc#[_,cW.of zA,rfl,_,_,rfl,_,_,rfl,rfl,?_];generalize upd H' p (.tup [V.int i,nV y])=H1 at b⊢;calc#[zH (),λp2 iP=>#[_,dgB hd (b.trans<|zB iP _) zA,?_]];let l:=b.trans<|zB iP<|.tup [V.int y,V.int n];rw[show(yB (sU ls)<|yT (y:Int) (n:Int)).isSome=rl ls y n from YC ls _ _];cases c:rl ls y n with
  |true=>
   rw[aT rfl];exact m _ _ _ #[l,by rw[dR,dN,aQ,lK,k,c];rfl,_,_,rfl]
  |false=>
   rw[aH ()];exact o _ _ #[l,by rw[dR,dN,aQ,lK,k,c];simp,_,_,rfl]
 ·obtain⟨es,rfl,_⟩:=e;exact q p _ (es.trans<|zB hp _) (es.free hp) (by rw[zA,aC];rfl)
theorem JR(bi:Bi mg)(be:mg "enumerate"=none)(F:fT K "clashes_by" "clashes_by" s_I f fd):cZ P w K mg base fL 1 f fd ["spots","pairs"] spCb:=by
 refine F.okz sc_I λeO A outer s H vs Q E hr h=>?_
 obtain⟨sa,d,sp,ls,rfl,hs,hl,lR,hd,q⟩:=h;calc#[_,have nd:=sc_I.nd;zC #[]<|zC (yD bR rfl #[] (EV rfl<|yE (vP (i:=3) nd rfl<|Or.inr rfl)<|yE (vP (i:=4) nd rfl<|Or.inr rfl) jS)<|zI<|xJ<|qK cR gS mC MY #[]<|zE (zW ["b","j"] ["a","pairs","i"] [3,1,4] #[] (λ_ _ _ _ nd=>qQ (K:=K) (n:=2) rfl<|yE (yG 0 nd)<|yE (yG 1 nd) jS) (λ_ _ _ _=>uG<|PW.pt<|UX #[]<|UW<|YY (XC (xW hr) #[] #[]) (by with_unfolding_all rfl)) λ_ _ _ _=>#[]) zJ) #[],?_];refine zD λN O=>?_
 dsimp![];calc#[zH (),λp hp=>O _ _ ?_];clear O;let R:=zB hp<|.lst [];let X:upd H p (.lst []) p=some (.lst []):=zA;generalize upd H p (.lst [])=H0 at R X⊢;refine zK (λσ H'=>∃(us:List V)(r t:Option V),aX H H'/\H' p=some (.lst us)/\bN H' ((uR sp<|rl ls).map sE) us/\σ=[some<|V.ref sa,some<|V.ref d,some<|V.ref p,r,t]) (λN O=>?_) λσ H' h=>?_
 ·dsimp![vW];calc#[sp.map nV,R _ _ hs,?_];refine YF (xs:=sp.map nV) (λi σ H'=>∃(us:List V)(r t:Option V),aX H H'/\H' p=some (.lst us)/\bN H' (((List.range i).flatMap λa=>((List.range sp.length).filter λb=>decide (a<b)&&rl ls (sp.getD a 0) (mE<|sp.getD b 0)).map λb=>(a,b)).map sE) us/\us.length<=80*i/\σ=[some<|V.ref sa,some<|V.ref d,some<|V.ref p,r,t]) #[[],_,_,R,X,rfl,aG _,rfl] (λi σ H' h=>by obtain⟨_,_,_,e,_⟩:=h;calc e _ _ hs) (λi x σ H' p1 hx h iR M hM=>?_) λσ H' h=>?_
  ·obtain⟨us,r,t,es,kp,g,hul,rfl⟩:=h;rw[aF]at hx;obtain⟨y,hy,rfl⟩:=aL.mp hx;let ey:sp.getD i 0=y:=by rw[bC,hy];rfl
   let hi:=(aD.mp hy).1;let B:=zB iR<|.tup [V.int i,nV y];dsimp![uA,jN,uK,vW,IB];calc#[_,cW.of zA,rfl,_,_,rfl,_,_,rfl,rfl,.inl #[rfl,_,cO.of<|B _ _ kp],sp.map nV,(es.trans B) _ _ hs,?_];replace kp:=B _ _ kp;replace g:=bN.same B g;replace es:=es.trans B;generalize upd H' p1 (.tup [V.int i,nV y])=H1 at kp g es⊢;refine kS (xs:=sp.map nV) (λj ys σ H2=>aX H1 H2/\bN H2 ((((List.range j).filter λb=>decide (i<b)&&rl ls y (mE<|sp.getD b 0)).map λb=>(i,b)).map sE) ys/\ys.length<=j/\∃S T,σ=[S,T,some<|V.int i,some<|V.ref d,some<|V.int y]) #[aX.refl _,rfl,aG _,_,_,rfl] (zH (by rw[aC];lia)) (λj ys σ H2 e=>e.2.2.1) (λj ys σ H2 e=>(es.trans e.1) _ _ hs) (λj x ys σ H2 p2 C D hx e iP hC hD=>?_) λys σ H2 e p2 iP=>?_
   ·obtain⟨G,k,I,S,T,rfl⟩:=e;rw[aF]at hx;obtain⟨u,hu,rfl⟩:=aL.mp hx;let Y:sp.getD j 0=u:=by rw[bC,hu];rfl
    let l:=G.trans<|zB iP<|.tup [V.int j,nV u];replace k:=bN.same (zB iP<|.tup [V.int j,nV u]) k;dsimp![uA,jN,uK,EG];calc#[_,cW.of zA,rfl,_,_,rfl,_,_,rfl,rfl,?_];generalize upd H2 p2 (.tup [V.int j,nV u])=H3 at l k⊢;let no:(decide (i<j)&&rl ls y (mE<|sp.getD j 0))=false->∀U,aX H3 U->D [some<|V.int j,some<|V.int u,some<|V.int i,some<|V.ref d,some<|V.int y] U:=λc U v=>hD _ _ #[l.trans v,by rw[dR,dN,lK,c];simpa using bN.same v k,(),_,_,rfl]
    calc#[_,rfl,?_];by_cases Z:i<j
    ·rw[aT ()];calc#[_,rfl,?_];rw[tW,qE];calc#[zH (),λp3 J=>#[_,dgB hd ((es.trans l).trans (zB J _)) zA,?_]];let v:=zB J<|.tup [V.int y,V.int ((mE u:Nat):Int)];rw[show(yB (sU ls)<|yT (y:Int) ((mE u:Nat):Int)).isSome=rl ls y (mE u)from YC ls _ _];cases c:rl ls y (mE u)with
     |true=>
      rw[aT rfl];calc#[zH (),λp4 L=>hC _ _ _ #[(l.trans v).trans (zB L _),?_,by rw[aK];simp;lia,_,_,rfl]];rw[dR,dN,lK,Y,c,cN Z,aQ,aQ];exact bN.append (bN.same (v.trans<|zB L _) k)<|bN.one #[p4,_,rfl,zA,_,_,rfl,rfl,_,_,rfl,rfl,rfl]
     |false=>
      rw[aH ()];exact no (by rw[Y,c,lE]) _ v
    ·rw[aH ()];exact no (by rw[cJ Z,eX]) _<|aX.refl _
   ·obtain⟨G,k,I,S,T,rfl⟩:=e;rw[aC]at k I;let o:=G _ _ kp;let n2:p2≠p:=λz=>by rw[z,o]at iP;cases iP
    let l:=zB iP<|.lst ys;calc#[p2,rfl,us,l _ _ o,ys,zA,bX (m:=1000000) () (),?_];let W:=l _ _ o;let tsm:cV (upd H2 p2<|.lst ys) (upd (upd H2 p2<|.lst ys) p<|.lst<|us++ys):=(cV.refl _).upd_lst W;calc hM _ _ #[us++ys,_,_,((es.trans G).trans l).upd hp,zA,?_,by rw[aK];lia,rfl];rw[dR,lW,aQ];calc bN.append (wW (G.tups.trans<|l.tups.trans tsm) g) ?_;rw[List.flatMap_cons,List.flatMap_nil,cL,ey];exact wW (l.tups.trans tsm) k
  ·obtain⟨us,r,t,es,kp,g,_,rfl⟩:=h;rw[aC]at g;exact O _ _ #[us,_,_,es,kp,g,rfl]
 obtain⟨us,r,t,es,kp,g,rfl⟩:=h;dsimp![];exact q p us _ es hp kp g
abbrev pz:Stmt:=top 54
theorem km:bV ["sheet","lines","pairs","spots","names"] ["sheet","lines"] (zF pz):=by rfl'
theorem ZE{α β:Type}{f:α->β}{l' l:List β}(h:l'.Perm l):∀T:List α,l=T.map f->∃T':List α,T'.Perm T/\l'=T'.map f:=by
 induction h with
 |nil=>intro T e;exact#[T,nQ _,e]
 |cons x _ j=>
  intro T e;cases T with
  |nil=>cases e
  |cons t b=>
   rw[bY]at e;obtain⟨c,a⟩:=tT e;obtain⟨T',p,d⟩:=j b a;exact#[t::T',p.cons _,by rw[bY,c,d]]
 |swap x y l=>
  intro T e;cases T with
  |nil=>cases e
  |cons k T=>
   cases T with
   |nil=>cases (tT e).2
   |cons m b=>
    rw[bY,bY]at e;obtain⟨c,a⟩:=tT e;obtain⟨a,d⟩:=tT a;exact#[m::k::b,List.Perm.swap ..,by rw[bY,bY,c,a,d]]
 |trans _ _ g i=>
  intro T e;obtain⟨b,n,c⟩:=i T e;obtain⟨o,p2,a⟩:=g b c;exact#[o,p2.trans n,a]
noncomputable def TJ(rows:List Rw)(k:Nat):Option Str:=match rows[k]? with |some (.nm x)=>some x |_=>none
noncomputable def IT(rows:List Rw):List (Str×Nat):=(List.range rows.length).filterMap λk=>(TJ rows k).map λx=>(x,k)
abbrev Ro:=Addr×Str×Addr×List Nat
def sQ(H:Hp)(m:Nat)(T:List Ro):Prop:=∀e∈T,H e.1=some (.tup [.str e.2.1,.ref e.2.2.1])/\H e.2.2.1=some (.lst<|e.2.2.2.map nV)/\(∀i∈e.2.2.2,i<m)/\e.2.2.2.Pairwise (· < ·)
theorem sQ.same{m:Nat}(e:aX H H')(h:sQ H m T):sQ H' m T:=λr hr=>let ⟨h1,h2,a⟩:=h r hr;#[e _ _ h1,e _ _ h2,a]
structure WoAt(H0 H:Hp)(wa:Addr)(sp:List Nat)(rows:List Rw)(ls:List Ln)(T:List Ro)(ca la:Addr)(us:List V):Prop where
 tup:H wa=some (.tup [nV sp.length,.ref ca,.ref la])
 cl:H ca=some (.lst us)
 dat:bN H ((uR sp<|rl ls).map sE) us
 lst:H la=some (.lst ((T.map (·.1)).map V.ref))
 tr:sQ H sp.length T
 is:∀e∈T,∃k,(e.2.1,k)∈IT rows/\e.2.2.2=jH sp (rl ls) (2*k)
 perm:(T.map (·.2.1)).Perm ((IT rows).map (·.1))
 srt:(T.map (·.2.1)).Pairwise (λx y=>x.cps.toList<y.cps.toList)
inductive PL (K:W.Frag) (vs:List V) (H:Hp) (Q:VK) (E:XK):Prop
 |mk (sa la:Addr) (us ws:List V) (rows:List Rw) (ls:List Ln) (_:vs=[.ref sa,.ref la]) (_:H sa=some (.lst us)) (_:gJ K H rows us) (_:rows.length<=40) (_:(IT rows).length<=3) (_:((IT rows).map (·.1)).Nodup) (_:H la=some (.lst ws)) (_:vJ H ls ws) (_:ls.length<=10000) (_:(ls.map λl=>yT l.i l.j).Nodup) (_:(zM ls 1 0=true->∀H',aX H H'->Q .non H')) (_:(zM ls 1 0=false->∀wa T ca ra vs H',aX H H'->WoAt H H' wa (yF (2*rows.length)<|rl ls) rows ls T ca ra vs->Q (.ref wa) H'))
theorem BC(bi:Bi mg)(be:mg "enumerate"=none)(h_ab:fI P w K mg base 1 "spots_by" ["many","pairs"] spSb)(h_B:fI P w K mg base 1 "spots_under" ["spots","pairs","n"] spSu)(h_I:fI P w K mg base 1 "clashes_by" ["spots","pairs"] spCb)(F:fT K "world_of" "world_of" pz f fd):cZ P w K mg base fL 2 f fd ["sheet","lines"] (PL K):=by
 refine F.okz km λeO A outer s H vs Q E hr h=>?_
 obtain⟨sa,la,us,ws,rows,ls,rfl,mS,oN,oB,hn3,hnn,Y,Z,hll,hkn,qn,qw⟩:=h;calc#[_,have nd:=km.nd;zC (xR (i:=2) nd rfl (Or.inr rfl)<|xF (CT<|WS hr) rfl bi.dict YG<|zE (zW ["line"] [] [] #[] (λ_ _ _ _ nd=>yG 0 nd) (λ_ _ _ _=>zY) λ_ _ _ _=>(yW<|zE (yW<|zE (zP (xY K) #[] zS)<|zE (zP (xY K) #[] zS) zJ) #[])) zJ)<|zC (yA (YY (XC (xW hr) #[] #[]) (by with_unfolding_all rfl)) #[] zL)<|zC (xR (i:=3) nd rfl (Or.inr rfl) #[])<|zC (ZZ (i:=4) ["k","row"] ["spots","pairs"] [3,2] nd rfl #[] (λ_ _ _ _ nd=>qQ (K:=K) (n:=2) rfl<|yE (yG 0 nd)<|yE (yG 1 nd) jS) (λ_ _ _ _=>uG<|yC QK (zP (xY K) #[] zS) yS<|yI _) λ_ _ _ _=>(yW<|zE (zP (xY K) #[] zS)<|zE (zV h_B hr.m rfl #[]) zJ))<|zI<|zR<|yW<|zE #[]<|zE #[]<|zE (zO WB rfl bi.sorted vU #[]) zJ,?_];refine zD λN B=>?_
 dsimp![];let hwl:ws.length=ls.length:=by have :=bN.length Z;rwa[aC]at this
 calc#[#[_,cO.of Y],?_];refine yM (xs:=ws) (λi ys σ H'=>aX H H'/\(∃as bs:List Addr,ys=as.map V.ref/\as.length=i/\bs.length=i/\∀(j:Nat)(a b:Addr)(l:Ln),as[j]?=some a->bs[j]?=some b->ls[j]?=some l->H' a=some (.tup [.ref b,.bl true])/\H' b=some (.tup<|(yT l.i l.j).map kV))/\∃o,σ=[o]) #[aX.refl _,#[[],[],rfl,rfl,rfl,λj a b l h=>by simp at h],_,rfl] (bX (m:=1000000) () ()) (λi ys σ H' e=>?_) (λi ys σ H' e=>cO.of<|e.1 _ _ Y) (λi x ys σ H' C hx e hC=>?_) λys σ H' e p hp=>?_
 ·obtain⟨_,⟨as,bs,rfl,h1,_⟩,_⟩:=e;rw[aC,h1];exact aG _
 ·obtain⟨es,⟨as,bs,rfl,h1,h2,G⟩,o,rfl⟩:=e;obtain⟨l,hl,oM⟩:=jM Z hx;obtain⟨a0,b0,us0,rfl,W,_⟩:=LnAt.out oM;replace W:=es _ _ W;dsimp![];calc#[_,cW.of W,_,gR,_,cW.of W,_,zU (j:=1) rfl,zH (),λb' hb'=>#[zH (),λa' ha'=>hC _ _ _ ?_]];let g:=zB hb'<|.tup [V.int l.i,V.int l.j];let e2:=zB ha'<|.tup [V.ref b',V.bl true];calc#[es.trans<|g.trans e2,#[as++[a'],bs++[b'],by rw[aQ];rfl,by rw[aK,h1];rfl,by rw[aK,h2];rfl,λj a b l' ha hb iK=>?_],_,rfl];by_cases hj:j<i
  ·rw[bM ()]at ha hb;obtain⟨k1,k2⟩:=G j a b l' ha hb iK;exact#[(g.trans e2) _ _ k1,(g.trans e2) _ _ k2]
  ·let ej:j=i:=by
    have :=(aD.mp ha).1;rw[aK]at this;simp at this;lia
   rw[ej,←h1,bS<|aG _]at ha;rw[ej,←h2,bS<|aG _]at hb;simp at ha hb;subst ha hb;rw[ej,hl]at iK;cases iK;exact#[zA,e2 _ _ zA]
 obtain⟨es,⟨as,bs,rfl,h1,h2,G⟩,o,rfl⟩:=e;let g:=zB hp<|.lst<|as.map V.ref;refine#[p,rfl,as,cO.of zA,sU ls,by unfold sU;rw[aC];lia,by unfold sU;rw[dC];exact hkn,λi k v hi=>?_,λd hd=>B _ _ ?_]
 ·unfold sU at hi;rw[aF]at hi;obtain⟨l,hl,el⟩:=aL.mp hi;cases el;let mN:=(aD.mp hl).1;obtain⟨k1,k2⟩:=G i as[i] bs[i] l (aA ()) (aA ()) hl;exact#[_,aA (),_,cW.of<|g _ _ k1,g _ _ k2]
 clear B G;let s1:=(es.trans g).trans (zB hd<|.dT<|sU ls);let kd:upd (upd H' p<|.lst<|as.map V.ref) d (.dT<|sU ls) d=some (.dT<|sU ls):=zA;generalize upd (upd H' p<|.lst<|as.map V.ref) d (.dT<|sU ls)=H1 at s1 kd⊢;clear es g hp hd h1 h2;refine zD λN B=>?_
 dsimp![EG];calc#[zH (),λp hp=>#[_,dgB kd (zB hp _) zA,?_]];replace s1:=s1.trans<|zB hp<|.tup [V.int 1,V.int 0];replace kd:=zB hp (.tup [V.int 1,V.int 0]) _ _ kd;rw[YC];generalize upd H1 p (.tup [V.int 1,V.int 0])=H2 at s1 kd⊢;cases c:zM ls 1 0 with
 |true=>
  rw[aT rfl];exact qn c _ s1
 |false=>
 rw[aH ()];calc B _ _ ?_;clear B qn hp;let qw:=qw c;refine zD λN B=>?_
 dsimp![];let hul:=oN.len;calc#[us.length,.inl #[_,cO.of<|s1 _ _ mS,rfl],.inl #[(),()],2*rows.length,d,ls,by rw[hul];rfl,(),kd,λps H3 s3 fps I=>B _ _ ?_];clear B;replace s1:=s1.trans s3;replace kd:=s3 _ _ kd;clear fps;refine zD λN B=>?_
 dsimp![vW];let J:(yF (2*rows.length)<|rl ls).length<=80:=bX (dX _ _) (by rw[bU];lia);let hsl:∀x∈yF (2*rows.length) (rl ls),x<200:=λx hx=>by have :=bL.mp (cK.mp hx).1;lia
 let hud:∀n,(∀i∈jH (yF (2*rows.length)<|rl ls) (rl ls) n,i<(yF (2*rows.length)<|rl ls).length)/\(jH (yF (2*rows.length)<|rl ls) (rl ls) n).Pairwise (· < ·):=λn=>#[λi hi=>bL.mp (cK.mp hi).1,fN _ dL]
 let e0:∀{q:Nat->Option (Str×Nat)}{i:Nat},(List.range<|i+1).filterMap q=(List.range i).filterMap q++(q i).toList:=λ{q i}=>by
  rw[dR,List.filterMap_append];cases h:q i<;>simp[h]
 generalize yF (2*rows.length) (rl ls)=sp at I qw J hsl hud;calc#[us,s1 _ _ mS,?_];refine kS (xs:=us) (λi ys σ H'=>aX H3 H'/\(∃T:List Ro,ys=(T.map (·.1)).map V.ref/\T.length<=i/\sQ H' sp.length T/\(T.map λe=>(e.2.1,e.2.2.2))=((List.range i).filterMap λk=>(TJ rows k).map λx=>(x,k)).map (λq=>(q.1,jH sp (rl ls)<|2*q.2))/\(∀e∈T,H3 e.2.2.1=none)/\(T.map (·.2.2.1)).Nodup)/\∃o1 o2,σ=[o1,o2,some<|V.ref ps,some<|V.ref d]) #[aX.refl _,#[[],rfl,aG _,(λe he=>by cases he),rfl,(λe he=>by cases he),.nil],_,_,rfl] (zH ()) (λi ys σ H' e=>?_) (λi ys σ H' e=>(s1.trans e.1) _ _ mS) (λi x ys σ H' p C D hx e hp hC hD=>?_) λys σ H' e p hp=>B _ _ ?_
 ·obtain⟨_,⟨T,rfl,h1,_⟩,_⟩:=e;rw[aC,aC];exact h1
 ·obtain⟨es,⟨T,rfl,h1,h2,G,h4,h5⟩,o1,o2,rfl⟩:=e;obtain⟨r,M,mM⟩:=oN.get hx;obtain⟨ra,x,oG,rfl,W,g2⟩:=GP.out mM;let g:=zB hp<|.tup [V.int i,V.ref ra];let O:=W.same<|s1.trans<|es.trans g;replace h2:=h2.same g;replace es:=es.trans g;dsimp![uA,jN,uK];calc#[_,cW.of zA,rfl,_,_,rfl,_,_,rfl,rfl,?_];generalize upd H' p (.tup [V.int i,V.ref ra])=H4 at es O h2⊢;let no:TJ rows i=none->D [some<|V.int i,some<|V.ref ra,some<|V.ref ps,some<|V.ref d] H4:=λhn=>hD _ _ #[es,#[T,rfl,(),h2,by rw[e0,hn];simpa using G,h4,h5],_,_,rfl]
  calc#[_,rfl,_,O.sq,_,gR,rfl,?_];cases r with
  |no=>
   obtain⟨rfl,rfl⟩:=g2;rw[aH ()];exact no (by unfold TJ;rw[M])
  |bo i' j'=>
   obtain⟨rfl,rfl⟩:=g2;rw[aH ()];exact no (by unfold TJ;rw[M])
  |nm y=>
  obtain⟨rfl,rfl⟩:=g2;rw[aT rfl];let hn:TJ rows i=some y:=by unfold TJ;rw[M]
  calc#[ra,rfl,_,O.sq,_,oQ,_,rfl,.inl #[(),()],ps,d,sp,ls,2*i,by rw[show(2:Int)*(i:Int)=((2*i:Nat):Int) by lia],es _ _ I,(),es _ _ kd,λpl H5 X fpl kpl=>#[zH (),λp4 hp4=>hC _ _ _ ?_]];let e5:=zB hp4<|.tup [V.str y,V.ref pl];refine#[es.trans<|X.trans e5,#[T++[(p4,y,pl,jH sp (rl ls)<|2*i)],by rw[aQ,aQ];rfl,by rw[aK];simp;lia,λe he=>?_,?_,λe he=>?_,?_],_,_,rfl]
  ·rcases bJ.mp he with he |he
   ·exact(h2.same<|X.trans e5) e he
   ·rw[aP.mp he];exact#[zA,e5 _ _ kpl,hud _]
  ·rw[e0,hn,aQ,aQ,G];rfl
  ·rcases bJ.mp he with he |he
   ·exact h4 e he
   ·rw[aP.mp he];exact es.free fpl
  ·rw[aQ,nN];calc#[h5,by simp,λa ha b hb e=>?_];rw[bY,pU,aP]at hb;obtain⟨t,ht,rfl⟩:=bH.mp ha;have :=(h2 t ht).2.1;rw[e,hb,fpl]at this;cases this
 clear B;obtain⟨es,⟨T,rfl,h1,h2,G,h4,h5⟩,o1,o2,rfl⟩:=e;let g:=zB hp (.lst ((T.map (·.1)).map V.ref));let k4:upd H' p (.lst ((T.map (·.1)).map V.ref)) p=some (.lst ((T.map (·.1)).map V.ref)):=zA;replace h2:=h2.same g;replace es:=es.trans g;generalize upd H' p (.lst ((T.map (·.1)).map V.ref))=H4 at es k4 h2⊢;rw[hul]at G;let R:T.map (·.2.1)=(IT rows).map (·.1):=by
  have :=cM (List.map Prod.fst) G;rwa[dC,dC]at this
 dsimp![];calc#[sp.length,.inl #[_,cO.of<|es _ _ I,(aC _).symm],ps,d,sp,ls,rfl,es _ _ I,J,hsl,es _ _ kd,λca vs H5 X fca kca hdc=>?_];let S:=h2.same X;refine#[T.map (·.1),X _ _ k4,T.map (·.2.1),by rw[aC,aC],by rw[R,aC];exact hn3,by rw[R];exact hnn,λi a z ha hz=>?_,λl lH mW hl nX hpz hal hco hso=>#[zH (),λwa hwa=>?_]]
 ·rw[aF]at ha hz;obtain⟨t,ht,rfl⟩:=aL.mp ha;rw[ht]at hz;cases hz;exact#[_,(S t<|aS ht).1]
 obtain⟨T',hT,rfl⟩:=ZE nX T rfl;let ez:mW=T'.map (·.2.1):=by
  refine List.ext_getElem? λi=>?_
  rw[aF];rw[aC]at hal;cases hi:T'[i]? with
  |none=>
   rw[mw]at hi;rw[Option.map_none,mw];lia
  |some t=>
   let mN:=(aD.mp hi).1;let hz:mW[i]?=some mW[i]:=aA ();obtain⟨j,hj1,U⟩:=hco i t.1 mW[i] (by rw[aF,hi];rfl) hz;rw[aF]at hj1 U;obtain⟨u,hu,eu⟩:=aL.mp hj1;rw[hu]at U;let a1:=(S u<|aS hu).1;let a2:=(S t<|hT.mem_iff.mp<|aS hi).1;rw[eu,a2]at a1;have :t.2.1=u.2.1:=by
    have :=cD a1;injection this with this
    injection this with this _
    injection this
   rw[hz,Option.map_some,this];exact U.symm
 subst ez;let el:=zB hl (.lst ((T'.map (·.1)).map V.ref));let ew:=zB hwa<|.tup [V.int sp.length,V.ref ca,V.ref l];let elw:=el.trans ew;let L:aX H4 (upd (upd H5 l (.lst ((T'.map (·.1)).map V.ref))) wa<|.tup [V.int sp.length,V.ref ca,V.ref l]):=X.trans elw;refine qw wa T' ca l vs _ ((s1.trans es).trans L) #[zA,elw _ _ kca,bN.same elw hdc,ew _ _ zA,λe he=>(h2.same L) e<|hT.mem_iff.mp he,λe he=>?_,?_,hso]
 ·have :(e.2.1,e.2.2.2)∈T.map λe=>(e.2.1,e.2.2.2):=bH.mpr #[e,hT.mem_iff.mp he,rfl]
  rw[G]at this;obtain⟨q,hq,eq⟩:=bH.mp this;injection eq with q1 q2
  exact#[q.2,by rw[←q1];exact hq,q2.symm]
 ·rw[←R];exact hT.map _
theorem DC{α:Type}{xs:List α}{n:Int}{x:α}(h0:0<=n)(h:xs[n.toNat]?=some x):pI xs n=some x:=by
 obtain⟨m,rfl⟩:∃m:Nat,n=(m:Int):=#[n.toNat,()]
 exact zU (by simpa using h)
abbrev s_U:Stmt:=top 46
abbrev qe:Stmt:=top 47
theorem lc:bV ["lines","i","j","k","line"] ["lines","i","j"] (zF qe):=by rfl'
abbrev s_V:Stmt:=top 48
abbrev ou:Stmt:=top 49
theorem jz:bV ["lines","i","j","k","kept","places"] ["lines","i","j"] (zF ou):=by rfl'
theorem dk(h:n<=100000):n<sizeLine:=eE h ()
theorem smB(h:n<=100000):n<=sizeLine:=rT<|dk h
def FP(ls:List Ln)(i j:Int)(r:V):Prop:=(r=.non/\∀l∈ls,¬(l.i=i/\l.j=j))\/∃(k:Nat)(l:Ln),r=.int k/\ls[k]?=some l/\(l.i=i/\l.j=j)/\∀(m:Nat)(l':Ln),m<k->ls[m]?=some l'->¬(l'.i=i/\l'.j=j)
inductive jv (vs:List V) (H:Hp) (Q:VK) (E:XK):Prop
 |mk (la:Addr) (ws:List V) (ls:List Ln) (i j:Int) (_:vs=[.ref la,.int i,.int j]) (_:H la=some (.lst ws)) (_:vJ H ls ws) (_:∀r H',aX H H'->FP ls i j r->Q r H')
theorem BL(bi:Bi mg)(be:mg "enumerate"=none)(F:fT K "line_for" "line_for" qe f fd):cZ P w K mg base fL 1 f fd ["lines","i","j"] jv:=by
 refine F.okz lc λeO A outer s H vs Q E hr h=>?_
 obtain⟨la,ws,ls,i,j,rfl,g,k,q⟩:=h;let B:=xS k;calc#[_,have nd:=lc.nd;zC (yD bR rfl #[] #[]<|zI<|yA (yC (wC hr.units) #[] #[]<|yI _) #[] zL) #[],?_];refine zK (λσ H'=>∃(c d:Option V),aX H H'/\(∀l∈ls,¬(l.i=i/\l.j=j))/\σ=[some<|V.ref la,some<|V.int i,some<|V.int j,c,d]) (λN C=>?_) λσ H' h=>?_
 ·dsimp![vW];calc#[_,g,?_];refine KJ (xs:=ws) (λn σ H'=>∃(c d:Option V),aX H H'/\(∀(m:Nat)(l':Ln),m<n->ls[m]?=some l'->¬(l'.i=i/\l'.j=j))/\σ=[some<|V.ref la,some<|V.int i,some<|V.int j,c,d]) #[_,_,aX.refl _,(λm l z=>by cases z),rfl] (λn σ H' h=>?_) (λn x σ H' p hx h hp=>?_) λσ H' h=>?_
  ·obtain⟨c,d,s1,_⟩:=h;exact s1 _ _ g
  ·obtain⟨c,d,s1,a,rfl⟩:=h;obtain⟨l,o,r⟩:=jM k hx;obtain⟨b,u,rfl,hb,_⟩:=rm r;let s2:=zB hp<|.tup [.int n,.ref b];let v:upd H' p (.tup [.int n,.ref b]) p=some (.tup [.int n,.ref b]):=zA;replace s1:=s1.trans s2;generalize upd H' p (.tup [.int n,.ref b])=H2 at s1 v⊢;replace hb:=s1 _ _ hb;dsimp![uA,jN,uK];calc#[[.int n,.ref b],cW.of v,rfl,.int n,[.ref b],rfl,.ref b,[],rfl,rfl,?_];calc#[b,rfl,_,cW.of hb,_,gR,b,rfl,_,cW.of hb,_,oQ,smB (by simp),λD G=>#[smB (by simp),λI J=>?_]];let y:=zB G<|.tup [.int l.i,.int l.j];let t:=zB J<|.tup [.int i,.int j];calc#[0,OG (l.i,l.j),#[D,_,rfl,t _ _ zA,_,_,rfl,rfl,_,_,rfl,rfl,rfl],OG (i,j),#[I,_,rfl,zA,_,_,rfl,rfl,_,_,rfl,rfl,rfl],t5 0 _,(),_,rfl,?_];rw[ud];by_cases e:l.i=i/\l.j=j
   ·rw[aT (by rw[e.1,e.2];simp)];exact q _ _ (s1.trans<|y.trans t)<|.inr #[n,l,rfl,o,e,a]
   ·rw[aH (by simpa using e)];calc#[s1.trans<|y.trans t,λm l' hm iK=>?_,_,rfl];by_cases L:m=n
    ·subst L;rw[o]at iK;cases iK;exact e
    ·exact a m l' () iK
  ·obtain⟨c,d,s1,a,rfl⟩:=h;calc C _ _ #[c,d,s1,λl hl=>?_,rfl];obtain⟨m,hm,e⟩:=cQ hl;exact a m l () (by rw[aA hm,e])
 obtain⟨c,d,s1,a,rfl⟩:=h;dsimp![];exact q _ _ s1<|.inl #[rfl,a]
structure Rl(M:Nat)(R:Nat->Nat->Bool):Prop where
 refl:∀x,x<M->R x x=true
 turn:∀i j,R i j=true->R (mE j) (mE i)=true
 trans:∀i j k,R i j=true->R j k=true->R i k=true
 all:∀i n,R i (mE i)=true->n<M->R i n=true
 ev:∃h,M=2*h
theorem Rl.of(hp:Pl rows (2*rows.length) rows.length ls)(hc:Cl rows bB ls.length ls):Rl (2*rows.length) (rl ls):=by
 let lt:∀{p:Nat}{l:Ln},ls[p]?=some l->p<ls.length:=λh=>(aD.mp h).1
 refine#[λx hx=>hp.same x hx,λi j h=>?_,λi j k h1 h2=>?_,λi n h hn=>?_,_,rfl]
 ·obtain⟨p,l,a,b,c⟩:=fK.mp h;exact hc.turn p l i j (lt a) a b c
 ·obtain⟨p,l,a,b,c⟩:=fK.mp h1;obtain⟨g,l',d,e,f⟩:=fK.mp h2;exact hc.chain p g l l' i j k (lt a) (lt d) a d b c e f
 ·obtain⟨p,l,a,b,c⟩:=fK.mp h;exact hc.clash p l i (mE i) (lt a) a b c (qE i).symm n hn
section
variable {M:Nat} {R:Nat->Nat->Bool}
theorem Rl.sym(h:Rl M R)(g:R i (mE j)=true):R j (mE i)=true:=by
 have :=h.turn _ _ g;rwa[vL]at this
theorem Rl.lt(h:Rl M R)(hn:n<M):mE n<M:=by
 obtain⟨k,hk⟩:=h.ev;rw[hk]at hn⊢;exact YN hn
theorem pV{x:Nat}:x∈yF M R↔x<M/\R x (mE x)=false:=by
 unfold yF;rw[cK,bL];simp
theorem UN(ha:a<(yF M R).length):(yF M R).getD a 0∈yF M R:=by
 rw[bC,aA ha];exact bT ha
theorem mJ:a∈jH sp R n↔a<sp.length/\R (sp.getD a 0) n=true:=by
 unfold jH;rw[cK,bL]
theorem tE{p:Nat×Nat}:p∈uR sp R↔p.1<sp.length/\p.2<sp.length/\p.1<p.2/\R (sp.getD p.1 0) (mE<|sp.getD p.2 0)=true:=by
 unfold uR;rw[dB];constructor
 ·rintro⟨a,ha,hp⟩;obtain⟨b,hb,rfl⟩:=bH.mp hp;rw[cK,bL]at hb;simp only[cC,bZ]at hb;exact#[bL.mp ha,hb.1,hb.2.1,hb.2.2]
 ·rintro⟨h1,h2,c,d⟩;calc#[p.1,bL.mpr h1,bH.mpr #[p.2,?_,rfl]];rw[cK,bL];simp only[cC,bZ];exact#[h2,c,d]
theorem av:yY ps a b=true↔(a,b)∈ps\/(b,a)∈ps:=by
 unfold yY;rw[fG];constructor
 ·rintro⟨p,hp,h⟩;simp only[iL,cC,cP]at h;rcases h with⟨h1,h2⟩ |⟨h1,h2⟩
  ·exact .inl (by rw[←h1,←h2];calc hp)
  ·exact .inr (by rw[←h1,←h2];calc hp)
 ·rintro(h |h)
  ·exact#[_,h,by simp]
  ·exact#[_,h,by simp]
theorem l7(h:Rl M R)(ha:a<(yF M R).length)(hb:b<(yF M R).length):yY (uR (yF M R) R) a b=R ((yF M R).getD a 0) (mE<|(yF M R).getD b 0):=by
 rw[cF,av,tE,tE];constructor
 ·rintro(⟨_,_,_,g⟩ |⟨_,_,_,g⟩)
  ·exact g
  ·exact h.sym g
 ·intro g;rcases Nat.lt_trichotomy a b with l |e |l
  ·exact .inl #[ha,hb,l,g]
  ·subst e;have :=(pV.mp<|UN ha).2;rw[this]at g;cases g
  ·exact .inr #[hb,ha,l,h.sym g]
theorem VU(h:Rl M R)(hn:n<M):cnt (yF M R).length (uR (yF M R) R) (jH (yF M R) R n)=jH (yF M R) R (mE n):=by
 unfold cnt;show _=(List.range (yF M R).length).filter λa=>R ((yF M R).getD a 0)<|mE n
 refine List.filter_congr λi hi=>?_
 let hi:=bL.mp hi;let d:=pV.mp<|UN hi;rw[cF,cA];constructor
 ·intro g;by_cases c:R n (mE n)=true
  ·exact h.sym<|h.all n _ c<|h.lt d.1
  ·let hm:n∈yF M R:=pV.mpr #[hn,dM.mpr c];obtain⟨a,ha⟩:=lD hm;let e:(yF M R).getD a 0=n:=by rw[bC,ha];rfl
   let b:=(aD.mp ha).1;have :=g a (mJ.mpr #[b,by rw[e];calc h.refl n hn]);rw[l7 h b hi,e]at this;exact h.sym this
 ·intro g a ha;obtain⟨b,hr⟩:=mJ.mp ha;rw[l7 h b hi];exact h.sym<|h.trans _ _ _ g<|h.turn _ _ hr
theorem CN(h:Rl M R)(hn:n<M):cnt (yF M R).length (uR (yF M R) R) (cnt (yF M R).length (uR (yF M R) R) (jH (yF M R) R n))=jH (yF M R) R n:=by
 rw[VU h hn,VU h<|h.lt hn,vL]
theorem VX(sp:List Nat):DT sp.length (uR sp R):=λp hp=>let ⟨_,h2,a,_⟩:=tE.mp hp;#[a,h2]
theorem CK{α β:Type}(f:α->List β)(n:Nat):∀xs:List α,(∀x∈xs,(f x).length<=n)->(xs.flatMap f).length<=xs.length*n
 |[],_=>by simp
 |x::xs,h=>by
  let a:=CK f n xs λy hy=>h y<|aW _ hy
  let b:=h x aV;rw[List.flatMap_cons,aK,bG,Nat.add_mul,Nat.one_mul];lia
theorem i3(sp:List Nat):(uR sp R).length<=sp.length*sp.length:=by
 have :=CK (λa=>((List.range sp.length).filter λb=>decide (a<b)&&R (sp.getD a 0) (mE<|sp.getD b 0)).map λb=>(a,b)) sp.length (List.range sp.length) λx _=>by
  rw[aC];exact bX (dX _ _) (by rw[bU];calc aG _)
 rw[bU]at this;exact this
theorem HN:(yF M R).length<=M:=bX (dX _ _) (by rw[bU];calc aG _)
theorem de(hM:2<=M)(h:R 1 0=false):1<=(yF M R).length:=rV (pV.mpr #[(),h]:1∈yF M R)
end
theorem YD{x:Str}{k:Nat}(h:(x,k)∈IT rows):rows[k]?=some (.nm x)/\k<rows.length:=by
 unfold IT at h;obtain⟨q,hq,e⟩:=mQ.mp h;unfold TJ at e;split at e
 ·rename_i y hy
  cases e;exact#[hy,bL.mp hq]
 ·cases e
section
variable {M:Nat} {R:Nat->Nat->Bool}
theorem OT(h:Rl M R)(low:∀x,x<M->R 0 x=true):jH (yF M R) R 0=[]:=by
 unfold jH;refine List.filter_eq_nil_iff.mpr λa ha hr=>?_
 obtain⟨h1,h2⟩:=pV.mp<|UN<|bL.mp ha;have :=h.trans _ _ _ hr<|low _<|h.lt h1;rw[h2]at this;cases this
theorem OV(h:Rl M R)(hi:R n i=true)(hj:R n j=true)(hb:∀x,R x i=true->R x j=true->R x n=true):(jH sp R i).filter (λa=>decide<|a∈jH sp R j)=jH sp R n:=by
 unfold jH;rw[List.filter_filter];refine List.filter_congr λa ha=>?_
 let b:=bL.mp ha;rw[cF,cC,bZ];constructor
 ·rintro⟨h1,h2⟩;exact hb _ h2 (mJ.mp h1).2
 ·intro g;exact#[mJ.mpr #[b,h.trans _ _ _ g hj],h.trans _ _ _ g hi]
theorem LJ(h:Rl M R)(hi:i<M)(hj:j<M):((jH (yF M R) R i).all λa=>decide<|a∈jH (yF M R) R j)=R i j:=by
 rw[cF,cA];constructor
 ·intro g;by_cases c:R i (mE i)=true
  ·exact h.all i j c hj
  ·let hm:i∈yF M R:=pV.mpr #[hi,dM.mpr c];obtain⟨a,ha⟩:=lD hm;let d:(yF M R).getD a 0=i:=by rw[bC,ha];rfl
   let b:=(aD.mp ha).1;have :=g a (mJ.mpr #[b,by rw[d];calc h.refl i hi]);have :=(mJ.mp<|of_decide_eq_true this).2;rwa[d]at this
 ·intro g a ha;obtain⟨h1,h2⟩:=mJ.mp ha;exact cN<|mJ.mpr #[h1,h.trans _ _ _ h2 g]
end
abbrev In2(n:Nat)(p:Pr):Prop:=(0<=p.1/\p.1<(n:Int))/\0<=p.2/\p.2<(n:Int)
structure Clo(rows:List Rw)(bB:List xT)(X:Int->Int->Prop):Prop where
 same:∀n:Nat,n<2*rows.length->X n n
 low:∀n:Nat,n<2*rows.length->X 0 n
 high:∀n:Nat,n<2*rows.length->X n 1
 part:∀(k:Nat)(x y:Int),rows[k]?=some (.bo x y)->X ((2*k:Nat):Int) x/\X ((2*k:Nat):Int) y
 clash:∀i j:Nat,i<2*rows.length->j<2*rows.length->X i (sP i)->X i j
 both:∀(i k:Nat)(x y:Int),i<2*rows.length->rows[k]?=some (.bo x y)->X i x->X i y->X i ((2*k:Nat):Int)
 chain:∀i m j:Nat,i<2*rows.length->m<2*rows.length->j<2*rows.length->X i m->X m j->X i j
 turn:∀i j:Nat,i<2*rows.length->j<2*rows.length->X i j->X (sP j) (sP i)
 rule:∀q∈bB,(∀p∈q.1,X p.1 p.2)->X q.2.1 q.2.2
theorem AY{x:Int}(h:x∈pN rows n):∃(k:Nat)(a b:Int),n=2*k/\rows[k]?=some (.bo a b)/\pN rows n=[a,b]:=by
 unfold pN at h⊢;by_cases h2:(n:Int) % 2=0
 ·rw[aT h2]at h⊢;let e:((n:Int)/2).toNat=n/2:=by lia
  rw[e]at h⊢;cases hr:rows[n/2]? with
  |none=>rw[hr]at h;cases h
  |some r=>
   rw[hr]at h;cases r with
   |no=>cases h
   |nm y=>cases h
   |bo a b=>exact#[n/2,a,b,(),hr,rfl]
 ·rw[aH h2]at h;cases h
theorem TY{X:Int->Int->Prop}(c:Clo rows bB X)(h:NX rows bB ls):∀(k:Nat)(l:Ln),ls[k]?=some l->X l.i l.j:=by
 intro k
 induction k using Nat.strongRecOn with
 |ind k F=>
  intro l hl;let hs:=h.snd k l hl;let hr:=qZ hs;let w:∀(a:Wt)(p:Pr),jG ls k a=some p->In2 (2*rows.length) p/\X p.1 p.2:=λa p hp=>by
   cases a with
   |ps _=>cases hp
   |n i=>
    by_cases hi:0<=i/\i<(k:Int)
    ·cases hq:ls[i.toNat]? with
     |none=>
      have :jG ls k (.n i)=none:=by
       show(if 0<=i/\i<(k:Int)then(ls[i.toNat]?).map λl=>(l.i,l.j)else none)=_;rw[aT hi,hq];rfl
      rw[this]at hp;cases hp
     |some l'=>
      rw[PU hi hq]at hp;cases hp;let iO:=qZ<|h.snd _ l' hq;exact#[#[#[iO.1.1,by have :=iO.1.2;show l'.i<_;lia],iO.2.1,by have :=iO.2.2;show l'.j<_;lia],F _ () l' hq]
    ·rw[PV hi]at hp;cases hp
  obtain⟨⟨y,A⟩,B,C⟩:=hr;unfold jC at hs;rw[aH (by rintro(z |z);calc z #[y,A];calc z #[B,C])]at hs;split at hs
  ·unfold uU at hs;split at hs
   ·rename_i r ps _
    split at hs
    ·rename_i G
     split at hs
     ·rename_i q hq
      rw[cC,cP,cP]at hs;let g:l.i=q.2.1:=cM Prod.fst hs.1;let o:l.j=q.2.2:=cM Prod.snd hs.1;rw[g,o];refine c.rule q (aS hq) λp hp=>?_
      let hm:some p∈ps.map λp=>jG ls k (.n p):=by rw[hs.2];exact bH.mpr #[p,hp,rfl]
      obtain⟨x,_,hx⟩:=bH.mp hm;exact(w _ p hx).2
     ·cases hs
    ·cases hs
   ·cases hs
  ·split at hs
   ·let d:∀p∈l.as.filterMap (jG ls k),In2 (2*rows.length) p/\X p.1 p.2:=λp hp=>by
     obtain⟨a,_,ha⟩:=mQ.mp hp;exact w a p ha
    generalize l.as.filterMap (jG ls k)=ps at hs d;obtain⟨i,hi⟩:∃i:Nat,l.i=(i:Int):=eC y;obtain⟨j,H⟩:∃j:Nat,l.j=(j:Int):=eC B;rw[hi]at A hs⊢;rw[H]at C hs⊢;let f:i<2*rows.length:=by lia
    let s:j<2*rows.length:=by lia
    unfold yO at hs;split at hs
    ·rw[cP]at hs;rw[←hs];exact c.same i f
    split at hs
    ·rw[iL,cP,cP]at hs;rcases hs with e |e
     ·rw[e];exact c.low j s
     ·rw[e];exact c.high i f
    split at hs
    ·rw[fG]at hs;obtain⟨x,hx,e⟩:=hs;rw[cP]at e;obtain⟨m,a,b,g,o,t⟩:=AY hx;rw[t]at hx;have :=c.part m a b o;rw[g,←e];simp only[bI,dA,or_false]at hx;rcases hx with rfl |rfl
     ·exact this.1
     ·exact this.2
    split at hs
    ·split at hs
     ·rename_i a b hp
      rw[cP]at hs;obtain⟨m,J,K,g,o,t⟩:=AY (show a∈pN rows j by rw[hp];calc aV);rw[hp]at t;cases t;let u:=(d (i,a) (by rw[hs];simp)).2;let I:=(d (i,b) (by rw[hs];simp)).2;rw[g];exact c.both i m a b f o u I
     ·cases hs
    split at hs
    ·rw[cP]at hs;let u:=(d (sP j,sP i) (by rw[hs];simp)).2;rw[qE,qE]at u;have :=c.turn (mE j) (mE i) (YN s) (YN f) u;rw[qE,qE,vL,vL]at this;exact this
    split at hs
    ·split at hs
     ·rename_i p q
      rw[cC,cC,cP,cP,cP]at hs;obtain⟨D,p2⟩:=d p (by simp);obtain⟨L,E⟩:=d q (by simp);obtain⟨m,hm⟩:∃m:Nat,p.2=(m:Int):=eC D.2.1;let v:=D.2.2;rw[hm]at v;rw[hs.1.1,hm]at p2;rw[←hs.1.2,hs.2,hm]at E;exact c.chain i m j f () s p2 E
     ·cases hs
    ·rw[cP]at hs;exact c.clash i j f s (d (i,sP i) (by rw[hs];simp)).2
   ·cases hs
def pp(m:Nat)(ps:List (Nat×Nat))(A:Nat->Prop)(a:Nat):Prop:=a<m/\∀b,A b->yY ps b a=true
structure Fw(m:Nat)(ps:List (Nat×Nat))(S:Str->List Nat):Prop where
 irr:∀a,yY ps a a=false
 full:∀x a,a∈S x↔a∈cnt m ps (cnt m ps<|S x)
theorem FY{m:Nat}(h:DT m ps)(a:Nat):yY ps a a=false:=by
 rw[dM];intro z;unfold yY at z;obtain⟨p,hp,e⟩:=fG.mp z;have :=(h p hp).1;simp only[iL,cC,cP]at e;lia
theorem lX{m:Nat}{v:List Nat}:a∈cnt m ps v↔pp m ps (· ∈v) a:=by
 rw[pW,cA];rfl
theorem xL{m:Nat}{A B:Nat->Prop}(h:∀a,A a↔B a)(a:Nat):pp m ps A a↔pp m ps B a:=by
 unfold pp;exact and_congr_right λ_=>forall_congr' λb=>by rw[h b]
theorem pp3{m:Nat}{A:Nat->Prop}(hA:∀a,A a->a<m):pp m ps (pp m ps<|pp m ps A) a↔pp m ps A a:=by
 constructor
 ·rintro⟨h1,h2⟩;exact#[h1,λb hb=>h2 b #[hA b hb,λc hc=>by rw[vT];calc hc.2 b hb]]
 ·rintro⟨h1,h2⟩;exact#[h1,λb hb=>by rw[vT];calc hb.2 a #[h1,h2]]
def AK(S:Str->List Nat)(U:Nat->Nat->Prop):Rw->Nat->Prop
 | .no,_=>False
 | .nm x,a=>a∈S x
 | .bo i j,a=>U i.toNat a/\U j.toNat a
structure Vw(m:Nat)(ps:List (Nat×Nat))(S:Str->List Nat)(rows:List Rw)(U:Nat->Nat->Prop):Prop where
 row:∀(k:Nat)(r:Rw),rows[k]?=some r->∀a,U (2*k) a↔AK S U r a
 odd:∀k,k<rows.length->∀a,U (2*k+1) a↔pp m ps (U<|2*k) a
section
variable {m:Nat}
theorem ER{V:Nat->Nat->Prop}(hr:RowB r (2*(n:Int)))(h:∀k,k<2*n->∀a,U k a↔V k a)(a:Nat):AK S U r a↔AK S V r a:=by
 cases r with
 |no=>exact Iff.rfl
 |nm x=>exact Iff.rfl
 |bo i j=>
  obtain⟨⟨h1,h2⟩,b,c⟩:=hr i j rfl;exact and_congr (h _ () a)<|h _ () a
theorem vw_ex(mF:qP rows):∃U,Vw m ps S rows U:=by
 let go:∀k,k<=rows.length->∃U:Nat->Nat->Prop,(∀(j:Nat)(r:Rw),j<k->rows[j]?=some r->∀a,U (2*j) a↔AK S U r a)/\∀j,j<k->∀a,U (2*j+1) a↔pp m ps (U<|2*j) a:=by
  intro k
  induction k with
  |zero=>exact λ_=>#[λ_ _=>False,λj r h=>absurd h (),λj h=>absurd h ()]
  |succ k f=>
   intro hk;obtain⟨U,h1,h2⟩:=f ();let d:rows[k]?=some rows[k]:=aA ();generalize rows[k]=r at d;let low:∀n,n<2*k->∀a,(if n<2*k then U n a else if n=2*k then AK S U r a else pp m ps (AK S U r) a)↔U n a:=λn hn a=>by rw[aT hn]
   let g:∀(j:Nat)(q:Rw),rows[j]?=some q->RowB q (2*(j:Int)):=λj q hq i l e=>by subst e;exact mF j i l hq
   refine#[λn a=>if n<2*k then U n a else if n=2*k then AK S U r a else pp m ps (AK S U r) a,λj q o hq a=>?_,λj o a=>?_]
   ·rw[ER (V:=U) (g j q hq) λn hn a=>low n () a];by_cases c:j<k
    ·show(if 2*j<2*k then _ else _)↔_;rw[aT ()];exact h1 j q c hq a
    ·let e:j=k:=by lia
     subst e;rw[d]at hq;cases hq;show(if 2*j<2*j then _ else if 2*j=2*j then _ else _)↔_;rw[aH (),aT rfl]
   ·by_cases c:j<k
    ·show(if 2*j+1<2*k then _ else _)↔pp m ps (λa=>if 2*j<2*k then _ else _) a;rw[aT ()];calc(h2 j c a).trans (xL (λb=>?_) a);rw[aT ()]
    ·let e:j=k:=by lia
     subst e;show(if 2*j+1<2*j then _ else if 2*j+1=2*j then _ else _)↔pp m ps (λa=>if 2*j<2*j then _ else if 2*j=2*j then _ else _) a;rw[aH (),aH ()];calc xL (λb=>?_) a;rw[aH (),aT rfl]
 obtain⟨U,h1,h2⟩:=go rows.length<|aG _;exact#[U,λk r hr=>h1 k r (aD.mp hr).1 hr,h2]
theorem Vw.turn(f:Fw m ps S)(v:Vw m ps S rows U)(mF:qP rows):∀n,n<2*rows.length->∀a,U (rF n) a↔pp m ps (U n) a:=by
 intro n
 induction n using Nat.strongRecOn with
 |ind n l=>
  intro hn a;let hk:n/2<rows.length:=by lia
  by_cases c:n % 2=0
  ·let g:rF n=2*(n/2)+1:=by unfold rF;lia
   let h:n=2*(n/2):=by lia
   rw[g,v.odd _ hk];rw[←h]
  ·let g:rF n=2*(n/2):=by unfold rF;lia
   let h:n=2*(n/2)+1:=by lia
   rw[g];let hr:rows[n/2]?=some rows[n/2]:=aA hk;generalize rows[n/2]=r at hr;let o:∀b,U n b↔pp m ps (U<|2*(n/2)) b:=λb=>by
    have :=v.odd _ hk b;rwa[←h]at this
   rw[xL o];let d:=v.row _ r hr;cases r with
   |no=>
    calc#[λz=>((d a).mp z).elim,λz=>?_];have :=z.2 a #[z.1,λb hb=>((d b).mp hb).elim];rw[f.irr]at this;cases this
   |nm x=>
    rw[d a];calc(f.full x a).trans ?_;rw[lX];exact xL (λb=>lX.trans<|xL (λc=>(d c).symm) b) a
   |bo i j=>
    obtain⟨⟨b1,b2⟩,p,s⟩:=mF _ i j hr;let k:∀q:Int,0<=q->q<2*((n/2:Nat):Int)->∀b,U q.toNat b↔pp m ps (pp m ps<|U q.toNat) b:=λq y h1 b=>by
     let t:q.toNat<n:=by lia
     let u:rF q.toNat<n:=by unfold rF;lia
     let e:=l _ u () b;rw[show rF (rF q.toNat)=q.toNat by unfold rF;lia]at e;exact e.trans (xL (λc=>l _ t () c) b)
    rw[d a];constructor
    ·rintro⟨e,w⟩;calc#[((k i b1 b2 a).mp e).1,λb hb=>?_];rw[vT];exact hb.2 a<|(d a).mpr #[e,w]
    ·intro z;refine#[(k i b1 b2 a).mpr #[z.1,λb hb=>z.2 b #[hb.1,λc hc=>hb.2 c ((d c).mp hc).1]],(k j p s a).mpr #[z.1,λb hb=>z.2 b #[hb.1,λc hc=>hb.2 c ((d c).mp hc).2]]]
theorem Vw.lt(f:Fw m ps S)(v:Vw m ps S rows U)(mF:qP rows)(hn:n<2*rows.length)(h:U n a):a<m:=by
 have :=v.turn f mF (rF n) (by unfold rF;lia) a;rw[show rF (rF n)=n by unfold rF;lia]at this;exact(this.mp h).1
theorem UR{k:Nat}(h:pM rows r=some k):rows[k]?=some r:=by
 unfold pM at h;obtain⟨hk,e,_⟩:=eU.mp h;rw[aA hk,(VS _ _).mp e]
theorem KS:a∈cmn m vs↔a<m/\∀v∈vs,a∈v:=by
 unfold cmn;rw[cK,bL,cA];exact and_congr_right λ_=>forall_congr' λv=>forall_congr' λ_=>decide_eq_true_iff
def NV(m:Nat)(ps:List (Nat×Nat))(S:Str->List Nat)(rows:List Rw)(U:Nat->Nat->Prop)(t:Tm):Prop:=∀n,num rows t=some n->n<2*rows.length/\∀a,a∈val m ps S t↔U n a
def tv(m:Nat)(ps:List (Nat×Nat))(e:Bool)(v:List Nat)(a:Nat):Prop:=if e then a∈cnt m ps v else a∈v
theorem jt(f:Fw m ps S)(v:Vw m ps S rows U)(mF:qP rows){e:Bool}{w:List Nat}(hn:n<2*rows.length)(h:∀a,a∈w↔U n a)(a:Nat):U (mK e n) a↔tv m ps e w a:=by
 unfold tv mK;cases e with
 |false=>rw[aH (),aH ()];exact(h a).symm
 |true=>rw[aT rfl,aT rfl,v.turn f mF n hn,lX];exact xL (λb=>(h b).symm) a
theorem BR(f:Fw m ps S)(v:Vw m ps S rows U)(mF:qP rows)(e:Bool):∀(ts:List Tm)(m0 n:Nat)(A:Nat->Prop),(∀t∈ts,NV m ps S rows U t)->uQ rows e m0 ts=some n->m0<2*rows.length->(∀a,U m0 a↔A a)->n<2*rows.length/\∀a,U n a↔A a/\∀t∈ts,tv m ps e (val m ps S t) a
 |[],m0,n,A,_,h,hm,b=>by
  rw[uQ]at h;cases h;exact#[hm,λa=>(b a).trans #[λz=>#[z,λt ht=>by cases ht],And.left]]
 |t::ts,m0,n,A,c,h,hm,b=>by
  rw[uQ]at h;obtain⟨d,g,h⟩:=cU.mp h;obtain⟨k,i,h⟩:=cU.mp h;obtain⟨j,l⟩:=c t aV d g;let hk:=UR i;let o:=(aD.mp hk).1;obtain⟨p,q⟩:=BR f v mF e ts (2*k) n (λa=>A a/\tv m ps e (val m ps S t) a) (λt ht=>c t<|aW _ ht) h () (λa=>by
   rw[v.row k _ hk a];show U (m0:Int).toNat a/\U ((mK e d:Nat):Int).toNat a↔_;rw[bE,bE,b a,jt f v mF j l])
  calc#[p,λa=>(q a).trans ?_];rw[and_assoc];refine and_congr_right λ_=>#[λz t' ht'=>?_,λz=>#[z t aV,λt' ht'=>z t'<|aW _ ht']]
  rcases bI.mp ht' with rfl |ht'
  ·exact z.1
  ·exact z.2 t' ht'
theorem XF(f:Fw m ps S)(v:Vw m ps S rows U)(mF:qP rows)(e:Bool)(ih:∀t∈ts,NV m ps S rows U t)(h:uI rows e ts=some n):n<2*rows.length/\∀a,U n a↔∀t∈ts,tv m ps e (val m ps S t) a:=by
 cases ts with
 |nil=>rw[uI]at h;cases h
 |cons t ts=>
  rw[uI]at h;obtain⟨c,d,h⟩:=cU.mp h;obtain⟨b,g⟩:=ih t aV c d;obtain⟨i,j⟩:=BR f v mF e ts _ n _ (λt ht=>ih t<|aW _ ht) h (YO b)<|jt f v mF b g;calc#[i,λa=>(j a).trans #[λz t' ht'=>?_,λz=>#[z t aV,λt' ht'=>z t'<|aW _ ht']]];rcases bI.mp ht' with rfl |ht'
  ·exact z.1
  ·exact z.2 t' ht'
theorem gm(f:Fw m ps S)(v:Vw m ps S rows U)(mF:qP rows)(h0:rows[0]?=some .no):∀(d:Nat)(t:Tm),DI d t->NV m ps S rows U t:=by
 let hl:0<rows.length:=(aD.mp h0).1;let p:∀a,¬U 0 a:=λa z=>((v.row 0 _ h0 a).mp z).elim
 intro d
 induction d with
 |zero=>exact λt h=>h.elim
 |succ d q=>
  intro t ht n hn;cases t with
  |name x=>
   rw[num]at hn;obtain⟨k,hk,rfl⟩:=aL.mp hn;let l:=UR hk;have :=(aD.mp l).1;calc#[(),λa=>?_];rw[v.row k _ l a,val];exact Iff.rfl
  |node w ts=>
   obtain⟨hs,o⟩:=ht.node;let c:∀t∈ts,NV m ps S rows U t:=λt h=>q t<|o t h
   let s:∀{u:List Nat}{a:Nat},(∀t∈ts,val m ps S t=u->True)->True:=λ_=>trivial
   rw[num]at hn;let cases5:=hs;rcases hs with⟨e,hz⟩ |⟨e,hz⟩ |⟨e,hz⟩ |⟨e,hz⟩ |⟨e,hz⟩
   ·subst e;rw[aT rfl]at hn;cases hn;calc#[(),λa=>?_];rw[val,jA,aT rfl];exact#[λz=>(nomatch z),λz=>(p a z).elim]
   ·subst e;rw[aH (),aT rfl]at hn;cases hn;calc#[(),λa=>?_];rw[val,jA,aH (),aT rfl,bL,v.odd 0 hl a];exact#[λz=>#[z,λb hb=>(p b hb).elim],λz=>z.1]
   ·subst e;rw[aH (),aH (),aT rfl]at hn;obtain⟨g,h1,rfl⟩:=aL.mp hn;obtain⟨i,j⟩:=XF f v mF false c h1;obtain⟨t,rfl⟩:∃t,ts=[t]:=by
     cases ts with
     |nil=>simp at hz
     |cons t r=>
      cases r with
      |nil=>exact#[t,rfl]
      |cons _ _=>simp at hz
    calc#[by unfold rF;lia,λa=>?_];rw[val,jA,aH (),aH (),aT rfl,qY,v.turn f mF g i];show a∈cnt m ps (val m ps S t)↔_;rw[lX];calc xL (λb=>?_) a;rw[j b];exact#[λz t' ht'=>by cases aP.mp ht';exact z,λz=>z t aV]
   ·subst e;rw[aH (),aH (),aH (),show decide (("both":Str)="either")=false from cJ ()]at hn;obtain⟨g,h1,rfl⟩:=aL.mp hn;obtain⟨i,j⟩:=XF f v mF false c h1;calc#[i,λa=>?_];rw[val,jA,aH (),aH (),aH (),aT rfl,qY,KS];show _↔U g a;constructor
    ·rintro⟨_,z⟩;exact(j a).mpr λt ht=>z _<|bH.mpr #[t,ht,rfl]
    ·intro z;calc#[v.lt f mF i z,λu hu=>?_];obtain⟨t,ht,rfl⟩:=bH.mp hu;exact(j a).mp z t ht
   ·subst e;rw[aH (),aH (),aH (),show decide (("either":Str)="either")=true from cN rfl]at hn;obtain⟨g,h1,rfl⟩:=aL.mp hn;obtain⟨i,j⟩:=XF f v mF true c h1;calc#[by show rF g<_;unfold rF;lia,λa=>?_];rw[val,jA,aH (),aH (),aH (),aH (),qY,lX];show _↔U (rF g) a;rw[v.turn f mF g i];calc xL (λb=>?_) a;rw[KS,dC];constructor
    ·rintro⟨_,z⟩;exact(j b).mpr λt ht=>z _<|bH.mpr #[t,ht,rfl]
    ·intro z;calc#[v.lt f mF i z,λu hu=>?_];obtain⟨t,ht,rfl⟩:=bH.mp hu;exact(j b).mp z t ht
end
theorem HV(h:rows.Nodup):(xG rows r).1.Nodup:=by
 unfold xG;split
 ·exact h
 ·rename_i hn
  calc nN.mpr #[h,by simp,λa ha b hb e=>?_];rw[aP.mp hb]at e;subst e;unfold pM at hn;have :=List.findIdx?_eq_none_iff.mp hn a ha;rw[xA]at this;cases this
mutual
theorem GJ:∀(t:Tm)(rows:List Rw),rows.Nodup->(dY t rows).1.Nodup
 | .name x,rows,h=>by rw[dY];exact HV h
 | .node w ts,rows,h=>by
   rw[dY];split
   ·exact h
   ·split
    ·exact h
    ·split
     ·exact KZ _ ts rows h
     ·exact KZ _ ts rows h
theorem KZ(e:Bool):∀(ts:List Tm)(rows:List Rw),rows.Nodup->(jB e ts rows).1.Nodup
 |[],rows,h=>by rw[jB];exact h
 |t::ts,rows,h=>by
  rw[jB];exact KY e ts _ _<|GJ t rows h
theorem KY(e:Bool):∀(ts:List Tm)(rows:List Rw)(m:Nat),rows.Nodup->(yJ e ts rows m).1.Nodup
 |[],rows,m,h=>by rw[yJ];exact h
 |t::ts,rows,m,h=>by
  rw[yJ];exact KY e ts _ _<|HV<|GJ t rows h
end
mutual
theorem VG:∀(t:Tm)(rows:List Rw)(n:Nat),num rows t=some n->dY t rows=(rows,n)
 | .name x,rows,n,h=>by
   rw[num]at h;obtain⟨k,hk,rfl⟩:=aL.mp h;rw[dY,xG,hk]
 | .node w ts,rows,n,h=>by
   rw[num]at h;rw[dY];split at h
   ·rename_i c;rw[aT c];cases h;rfl
   ·rename_i c
    rw[aH c];split at h
    ·rename_i c;rw[aT c];cases h;rfl
    ·rename_i c
     rw[aH c];split at h
     ·rename_i c
      rw[aT c];obtain⟨k,hk,rfl⟩:=aL.mp h;rw[BV _ ts rows k hk]
     ·rename_i c
      rw[aH c];obtain⟨k,hk,rfl⟩:=aL.mp h;rw[BV _ ts rows k hk]
theorem BV(e:Bool):∀(ts:List Tm)(rows:List Rw)(n:Nat),uI rows e ts=some n->jB e ts rows=(rows,n)
 |[],rows,n,h=>by rw[uI]at h;cases h
 |t::ts,rows,n,h=>by
  rw[uI]at h;obtain⟨k,hk,h⟩:=cU.mp h;rw[jB,VG t rows k hk];exact BS e ts rows _ n h
theorem BS(e:Bool):∀(ts:List Tm)(rows:List Rw)(m n:Nat),uQ rows e m ts=some n->yJ e ts rows m=(rows,n)
 |[],rows,m,n,h=>by rw[uQ]at h;cases h;rw[yJ]
 |t::ts,rows,m,n,h=>by
  rw[uQ]at h;obtain⟨k,hk,h⟩:=cU.mp h;obtain⟨q,hq,h⟩:=cU.mp h;rw[yJ,VG t rows k hk];show yJ e ts (xG rows<|.bo (m:Int) (mK e k:Nat)).1 (xG rows<|.bo (m:Int) (mK e k:Nat)).2=_;rw[xG,hq];exact BS e ts rows _ n h
end
theorem CV:∀(ts:List Tm)(rows:List Rw),(∀t∈ts,gA 20 t)->rB rows->rows.Nodup->rB (yU ts rows)/\(yU ts rows).Nodup
 |[],rows,_,h1,h2=>#[h1,h2]
 |t::ts,rows,hf,h1,h2=>by
  rw[yU];exact CV ts _ (λt ht=>hf t<|aW _ ht) (qA t 20 rows (hf t aV) h1).1 (GJ t rows h2)
theorem JF:∀(ts:List Tm)(rows:List Rw),(∀t∈ts,gA 20 t)->∀t∈ts,∃n,num (yU ts rows) t=some n
 |[],_,_,t,h=>by cases h
 |t0::ts,rows,hf,t,h=>by
  rw[yU];rcases bI.mp h with rfl |h
  ·obtain⟨xs,hx⟩:=JH ts (dY t rows).1;rw[hx];exact#[_,wY _ _ _ _<|YH t 20 rows<|hf t aV]
  ·exact JF ts _ (λt ht=>hf t<|aW _ ht) t h
theorem sx{t:Tm}(hf:gA 20 t)(h:∃n,num rows t=some n):jc rows t:=by
 obtain⟨n,hn⟩:=h;exact#[hf,by rw[VG t rows n hn]]
theorem jc.num{t:Tm}(h:jc rows t):num rows t=some (dY t rows).2:=by
 have :=YH t 20 rows h.1;rwa[h.2]at this
def Hs(m:Nat)(ps:List (Nat×Nat))(S:Str->List Nat)(s:Tm×Tm):Prop:=∀a,a∈val m ps S s.1->a∈val m ps S s.2
def Hr(m:Nat)(ps:List (Nat×Nat))(S:Str->List Nat)(r:pJ):Prop:=(∀s∈r.1,Hs m ps S s)->Hs m ps S r.2
section
variable {m:Nat} {book:List pJ}
theorem jc.val(f:Fw m ps S)(v:Vw m ps S rows U)(hs:rB rows){t:Tm}(h:jc rows t):(dY t rows).2<2*rows.length/\∀a,a∈val m ps S t↔U (dY t rows).2 a:=gm f v hs.in_ hs.hd 21 t h.1 _ h.num
theorem ce.hs(f:Fw m ps S)(v:Vw m ps S rows U)(hs:rB rows)(h:ce rows s):Hs m ps S s↔∀a,U (dY s.1 rows).2 a->U (dY s.2 rows).2 a:=by
 unfold Hs;exact forall_congr' λa=>by rw[(h.1.val f v hs).2 a,(h.2.val f v hs).2 a]
theorem UF(n:Nat):sP (n:Int)=((rF n:Nat):Int):=by unfold sP rF;lia
theorem ug(f:Fw m ps S)(v:Vw m ps S rows U)(hs:rB rows)(hg:∀r∈book,uu rows r)(hr:∀r∈book,Hr m ps S r):Clo rows (book.map<|nR rows) (λi j=>∀a,U i.toNat a->U j.toNat a):=by
 let tn:=v.turn f hs.in_;let hl:=hs.pos;let e:∀a,¬U 0 a:=λa z=>((v.row 0 _ hs.hd a).mp z).elim
 let bo:∀{k:Nat}{x y:Int},rows[k]?=some (.bo x y)->∀a,U (2*k) a↔U x.toNat a/\U y.toNat a:=λh a=>v.row _ _ h a
 refine#[λn hn a h=>h,λn hn a h=>(e a h).elim,λn hn a h=>?_,λk x y h=>?_,λi j hi g h a ha=>?_,λi k x y hi h h1 h2 a ha=>?_,λi n j _ _ _ h1 h2 a ha=>h2 a<|h1 a ha,λi j hi g h a ha=>?_,λq hq h=>?_]
 ·show U 1 a;exact(v.odd 0 hl a).mpr #[v.lt f hs.in_ hn (by simpa using h),λb hb=>(e b hb).elim]
 ·constructor<;>intro a ha
  all_goals
   rw[bE]at ha
  ·exact((bo h a).mp ha).1
  ·exact((bo h a).mp ha).2
 ·have :=h a ha;rw[UF,bE]at this;let d:U i a:=by simpa using ha
  have :=((tn i hi a).mp this).2 a d;rw[f.irr]at this;cases this
 ·rw[bE];exact(bo h a).mpr #[h1 a ha,h2 a ha]
 ·rw[UF,bE]at ha⊢;have :=(tn j g a).mp ha;exact(tn i hi a).mpr #[this.1,λb hb=>this.2 b (by simpa using h b (by simpa using hb))]
 ·obtain⟨r,mM,rfl⟩:=bH.mp hq;obtain⟨_,l,o⟩:=hg r mM;have :=(o.hs f v hs).mp (hr r mM λs c=>(l s c |>.hs f v hs).mpr λa ha=>by
   have :=h (nS rows s) (bH.mpr #[s,c,rfl]) a (by show U ((dY s.1 rows).2:Int).toNat a;simpa using ha);let this:U ((dY s.2 rows).2:Int).toNat a:=this;simpa using this)
  intro a ha;let ha:U ((dY r.2.1 rows).2:Int).toNat a:=ha;show U ((dY r.2.2 rows).2:Int).toNat a;rw[bE]at ha⊢;exact this a ha
theorem sound(f:Fw m ps S)(hs:rB rows)(hg:∀r∈book,uu rows r)(hr:∀r∈book,Hr m ps S r)(gk:NX rows (book.map<|nR rows) ls)(g:ce rows s)(h:zM ls (nS rows s).1 (nS rows s).2=true):Hs m ps S s:=by
 obtain⟨U,v⟩:=vw_ex (m:=m) (ps:=ps) (S:=S) hs.in_;obtain⟨p,l,h1,h2,b⟩:=fK.mp h;have :=TY (ug f v hs hg hr) gk p l h1;rw[h2,b]at this;refine(g.hs f v hs).mpr λa ha=>?_
 have :=this a (by show U ((dY s.1 rows).2:Int).toNat a;simpa using ha);let this:U ((dY s.2 rows).2:Int).toNat a:=this;simpa using this
end
noncomputable def OI(rows:List Rw)(R:Nat->Nat->Bool)(x:Str):List Nat:=match pM rows (.nm x)with
 |some k=>jH (yF (2*rows.length) R) R<|2*k
 |none=>[]
section
variable {book:List pJ}
theorem XZ(hs:rB rows)(hp:Pl rows (2*rows.length) rows.length ls)(hc:Cl rows bB ls.length ls):Fw (yF (2*rows.length)<|rl ls).length (uR (yF (2*rows.length)<|rl ls)<|rl ls) (OI rows<|rl ls):=by
 let h:=Rl.of hp hc;calc#[FY<|VX _,λx a=>?_];unfold OI;cases c:pM rows (.nm x)with
 |some k=>
  have :=RE c;rw[CN h ()]
 |none=>
  calc#[λz=>(nomatch z),λz=>?_];rw[lX]at z;have :=z.2 a (lX.mpr #[z.1,λb hb=>(nomatch hb)]);rw[FY<|VX _]at this;cases this
theorem UE(hs:rB rows)(iD:rows.Nodup)(hp:Pl rows (2*rows.length) rows.length ls)(hc:Cl rows bB ls.length ls):Vw (yF (2*rows.length)<|rl ls).length (uR (yF (2*rows.length)<|rl ls)<|rl ls) (OI rows<|rl ls) rows (λn a=>a∈jH (yF (2*rows.length)<|rl ls) (rl ls) n):=by
 let h:=Rl.of hp hc;refine#[λk r hr a=>?_,λk hk a=>?_]
 ·let c:=(aD.mp hr).1;cases r with
  |no=>
   let e:=hs.few k hr;subst e;show a∈jH _ _ 0↔False;rw[OT h hp.low];exact#[λz=>(nomatch z),False.elim]
  |nm x=>
   show _↔a∈OI rows (rl ls) x;let e:pM rows (.nm x)=some k:=by
    unfold pM;refine eU.mpr #[c,?_,λj w=>?_]
    ·rw[(aD.mp hr).2];exact xA _
    ·intro z;let z:=(VS _ _).mp z;let g:=(aD.mp hr).2;rw[←g]at z;exact absurd ((lJ iD).mp z) ()
   unfold OI;rw[e]
  |bo i j=>
   obtain⟨⟨b1,b2⟩,m,y⟩:=hs.in_ k i j hr;obtain⟨o,p2⟩:=hp.part k i j c hr;let hb:∀x,rl ls x i.toNat=true->rl ls x j.toNat=true->rl ls x (2*k)=true:=λx h1 h2=>by
    obtain⟨a,l,d,p,q⟩:=fK.mp h1;obtain⟨b,l',f,s,t⟩:=fK.mp h2;exact hc.both a b l l' x k i j (aD.mp d).1 (aD.mp f).1 d f p (by rw[q];lia) s (by rw[t];lia) hr
   let u:rl ls (2*k) i.toNat=true:=by unfold rl;rw[Int.toNat_of_nonneg b1];exact o
   let v:rl ls (2*k) j.toNat=true:=by unfold rl;rw[Int.toNat_of_nonneg m];exact p2
   have :=OV (sp:=yF (2*rows.length)<|rl ls) h u v hb;show a∈jH _ _ (2*k)↔a∈jH _ _ i.toNat/\a∈jH _ _ j.toNat;rw[←this,cK,bZ]
 ·show a∈jH _ _ (2*k+1)↔_;have :=VU h (n:=2*k) ();rw[show mE (2*k)=2*k+1 by unfold mE;lia]at this;rw[←this,lX]
theorem GA(hs:rB rows)(iD:rows.Nodup)(hp:Pl rows (2*rows.length) rows.length ls)(hc:Cl rows bB ls.length ls)(g:ce rows s):Hs (yF (2*rows.length)<|rl ls).length (uR (yF (2*rows.length)<|rl ls)<|rl ls) (OI rows<|rl ls) s↔zM ls (nS rows s).1 (nS rows s).2=true:=by
 let f:=XZ hs hp hc;let v:=UE hs iD hp hc;rw[g.hs f v hs];have :=LJ (Rl.of hp hc) (g.1.val f v hs).1 (g.2.val f v hs).1;show _↔rl ls (dY s.1 rows).2 (dY s.2 rows).2=true;rw[←this,cA];exact forall_congr' λa=>forall_congr' λ_=>decide_eq_true_iff.symm
theorem so(hs:rB rows)(iD:rows.Nodup)(hp:Pl rows (2*rows.length) rows.length ls)(hc:Cl rows (book.map<|nR rows) ls.length ls)(hg:∀r∈book,uu rows r):∀r∈book,Hr (yF (2*rows.length)<|rl ls).length (uR (yF (2*rows.length)<|rl ls)<|rl ls) (OI rows<|rl ls) r:=λr hr h=>by
 obtain⟨_,g,c⟩:=hg r hr;let f:=XZ hs hp hc;let v:=UE hs iD hp hc;calc(GA hs iD hp hc c).mpr ?_;obtain⟨k,hk⟩:=lD (bH.mpr #[r,hr,rfl]:nR rows r∈book.map (nR rows));let m:=(c.1.val f v hs).1;let n:=(c.2.val f v hs).1;refine hc.rule k (nR rows r) hk #[#[Int.natCast_nonneg _,?_],Int.natCast_nonneg _,?_] λp d=>?_
 ·show((dY r.2.1 rows).2:Int)<_;lia
 ·show((dY r.2.2 rows).2:Int)<_;lia
 ·obtain⟨s,b,rfl⟩:=bH.mp d;obtain⟨a,l,e,i,j⟩:=fK.mp<|(GA hs iD hp hc<|g s b).mp (h s b);exact#[a,l,(aD.mp e).1,e,i,j]
end
theorem XN{a:Addr}{ns:List Str}{js:List Nat}{g:TG}{tc:TT}{te:TE}{σ:St}{Q:VK}(Pv:Nat->List V->St->Hp->Prop)(h0:Pv 0 [] (kT ns js σ) H)(hz:xs.length<=sizeLine)(hl:∀i ys σ H,Pv i ys σ H->ys.length<=i)
 (hK:∀i ys σ H,Pv i ys σ H->cO K H a xs)
 (hs:∀(i:Nat) x ys σ H (C:V->St->Hp->Prop) (D:St->Hp->Prop),xs[i]?=some x->Pv i ys σ H->(∀y σ2 H3,Pv (i+1) (ys++[y]) σ2 H3->C y σ2 H3)->(∀σ2 H3,Pv (i+1) ys σ2 H3->D σ2 H3)->
  g x σ H λσ2 H2=>tc σ2 H2 λb H3=>if b=true then te σ2 H3 λy H4=>C y σ2 H4 else D σ2 H3)
 (hd:∀ys σ H,Pv xs.length ys σ H->∀p,H p=none->Q (.ref p) (upd H p<|.lst ys)):
 bf (jb K a) ns js g (some tc) te σ H Q:=by
 calc#[λi m ys σ H=>m=xs.length-i/\i<=xs.length/\Pv i ys σ H,#[xs.length,(),cS _,h0],λi m ys σ1 H1 ⟨hm,hi,hp⟩=>?_];by_cases h:i<xs.length
 ·refine .inr #[#[xs,xs[i],hK i ys σ1 H1 hp,aA h],?_,λx H' ⟨e,hx⟩=>?_]
  ·have :=hl i ys σ1 H1 hp;lia
  ·subst e;exact hs i x ys σ1 _ _ _ (hx xs<|hK i ys σ1 _ hp) hp (λy σ2 H3 q=>#[xs.length-(i+1),(),rfl,(),q]) λσ2 H3 q=>#[xs.length-(i+1),(),rfl,(),q]
 ·let e:i=xs.length:=by lia
  subst e;exact .inl #[#[xs,hK _ ys σ1 H1 hp,aG _],hd ys σ1 H1 hp]
theorem VJ(xs:List Nat)(a:Nat):((xs.map λ(x:Nat)=>Dt.int (x:Int)).any λe=>lL e<|.int (a:Int))=decide (a∈xs):=by
 rw[cF,fG,bZ];constructor
 ·rintro⟨d,hd,h⟩;obtain⟨x,hx,rfl⟩:=bH.mp hd;have :(x:Int)=(a:Int):=by simpa[lL]using h
  rw[show a=x by lia];exact hx
 ·intro h;exact#[.int (a:Int),bH.mpr #[a,h,rfl],xA _]
theorem vQ{a:Addr}{xs:List Nat}(h:H a=some (.lst<|xs.map nV)):eL H (.lst<|xs.map λ(x:Nat)=>Dt.int (x:Int)) (.ref a):=by
 calc#[a,_,rfl,h,?_];clear h
 induction xs with
 |nil=>rfl
 |cons x xs b=>exact#[_,_,rfl,rfl,b]
theorem NX.keys(h:NX rows bB ls):(ls.map λl=>yT l.i l.j).Nodup:=by
 rw[List.Nodup,nM,cH];intro a b ha hb c e;unfold yT at e;simp only[bv,Sum.inl.injEq,and_true]at e;have :=h.dis a b ls[a] ls[b] (aA ha) (aA hb) e.1 e.2;lia
abbrev s_w:Stmt:=top 56
theorem sc_w:bV ["world","saying","beyond"] ["world","saying"] (zF s_w):=by rfl'
abbrev pq:Stmt:=top 57
theorem ki:bV ["sheet","book","saying","lines","pair","found","world"] ["sheet","book","saying"] (zF pq):=by rfl'
abbrev ox:Stmt:=top 58
theorem j4:bV ["book","saying"] ["book","saying"] (zF ox):=by rfl'
structure Wx(H:Hp)(wa:Addr)(m:Nat)(ps:List (Nat×Nat))(zs:List Str)(S:Str->List Nat):Prop where
 ex:∃(ca:Addr)(us:List V)(la:Addr)(Ss:List (List Nat)),H wa=some (.tup [nV m,.ref ca,.ref la])/\H ca=some (.lst us)/\bN H (ps.map sE) us/\oR H la zs Ss m/\∀(i:Nat)(z:Str),zs[i]?=some z->Ss[i]?=some (S z)
 ok2:DT m ps
 m90:m<=90
 nd:zs.Nodup
 zl:zs.length<=5
 sr:∀z,(∀i∈S z,i<m)/\(S z).Pairwise (· < ·)
theorem Wx.same{wa:Addr}{m:Nat}(e:aX H H')(h:Wx H wa m ps zs S):Wx H' wa m ps zs S:=by
 obtain⟨⟨ca,us,la,Ss,h1,h2,a,b,c⟩,d,f,g,i,j⟩:=h;exact#[#[ca,us,la,Ss,e _ _ h1,e _ _ h2,bN.same e a,b.same e,c],d,f,g,i,j]
inductive spSg (vs:List V) (H:Hp) (Q:VK) (E:XK):Prop
 |mk (wa:Addr) (v:V) (s:Tm×Tm) (m:Nat) (ps:List (Nat×Nat)) (zs:List Str) (S:Str->List Nat) (_:vs=[.ref wa,v]) (_:Wx H wa m ps zs S) (_:rK H s v) (_:(gA 20 s.1/\wt s.1<=900)) (_:(gA 20 s.2/\wt s.2<=900)) (_:(∀x∈iY s.1++iY s.2,x∈zs)) (_:¬Hs m ps S s) (_:∀(n:Nat) H',aX H H'->n∈val m ps S s.1->n∉val m ps S s.2->Q (.int n) H')
theorem OS{m:Nat}{xs:List Nat}(h:xs.Pairwise (· < ·))(hm:∀x∈xs,x<m):xs.length<=m:=by
 have :=qL (h.imp λh=>bK h) (m:=List.range m) λx hx=>bL.mpr (hm x hx)
 rwa[bU]at this
theorem IN{rows:List Rw}{e:Bool}:∀{ts:List Tm}{m n:Nat},uQ rows e m ts=some n->∀t∈ts,∃k,num rows t=some k
 |[],_,_,_,t,h=>by cases h
 |t0::ts,m,n,h,t,ht=>by
  rw[uQ]at h;obtain⟨k,hk,h⟩:=cU.mp h;obtain⟨q,_,h⟩:=cU.mp h;rcases bI.mp ht with rfl |ht
  ·exact#[k,hk]
  ·exact IN h t ht
theorem VH{e:Bool}(h:uI rows e ts=some n):∀t∈ts,∃k,num rows t=some k:=by
 cases ts with
 |nil=>rw[uI]at h;cases h
 |cons t0 ts=>
  rw[uI]at h;obtain⟨k,hk,h⟩:=cU.mp h;intro t ht;rcases bI.mp ht with rfl |ht
  ·exact#[k,hk]
  ·exact IN h t ht
theorem IM:∀(d:Nat)(t:Tm),DI d t->∀n,num rows t=some n->∀x∈iY t,∃k,pM rows (.nm x)=some k:=by
 intro d
 induction d with
 |zero=>exact λt h=>h.elim
 |succ d c=>
  intro t ht n hn x hx;cases t with
  |name y=>
   rw[iY,aP]at hx;subst hx;rw[num]at hn;obtain⟨k,hk,_⟩:=aL.mp hn;exact#[k,hk]
  |node w ts=>
   obtain⟨hs,b⟩:=ht.node;rw[iY]at hx;obtain⟨t,a,hx⟩:=pO.mp hx;let go:(∃k,num rows t=some k)->∃k,pM rows (.nm x)=some k:=λ⟨k,hk⟩=>c t (b t a) k hk x hx
   let ne:∀{p:Prop},ts.length=0->p:=λh=>by rw[eS.mp h]at a;cases a
   rw[num]at hn;rcases hs with h |h |h |h |h
   ·exact ne h.2
   ·exact ne h.2
   ·obtain⟨e,_⟩:=h;subst e;rw[aH (),aH (),aT rfl]at hn;obtain⟨k,hk,_⟩:=aL.mp hn;exact go<|VH hk t a
   ·obtain⟨e,_⟩:=h;subst e;rw[aH (),aH (),aH ()]at hn;obtain⟨k,hk,_⟩:=aL.mp hn;exact go<|VH hk t a
   ·obtain⟨e,_⟩:=h;subst e;rw[aH (),aH (),aH ()]at hn;obtain⟨k,hk,_⟩:=aL.mp hn;exact go<|VH hk t a
theorem IS{x:Str}{k:Nat}(h:rows[k]?=some (.nm x)):(x,k)∈IT rows:=by
 unfold IT;calc mQ.mpr #[k,bL.mpr (aD.mp h).1,?_];unfold TJ;rw[h];rfl
theorem FR(iD:rows.Nodup):((IT rows).map (·.1)).Nodup:=by
 calc nM.mpr ?_;unfold IT;calc List.pairwise_filterMap.mpr (dL.imp λ{a b} c p hp q hq e=>?_);let g:∀{k:Nat}{p:Str×Nat},(TJ rows k).map (λx=>(x,k))=some p->rows[k]?=some (.nm p.1):=λ{k p} h=>by
  obtain⟨x,hx,rfl⟩:=aL.mp h;unfold TJ at hx;split at hx
  ·rename_i y hy;cases hx;exact hy
  ·cases hx
 let h1:=g hp;let h2:=g hq;rw[←e,←h1]at h2;let hb:=(aD.mp h1).1;have :=(List.getElem?_inj hb iD).mp h2.symm;lia
def nz:Sp:=λ_ _ _ _=>False
inductive spPn (vs:List V) (H:Hp) (Q:VK) (E:XK):Prop
 |mk (la:Addr) (ws:List V) (ls:List Ln) (i j:Int) (_:vs=[.ref la,.int i,.int j]) (_:H la=some (.lst ws)) (_:vJ H ls ws) (_:(∀l∈ls,¬(l.i=i/\l.j=j))) (_:∀H',aX H H'->Q .non H')
theorem RD(iD:rows.Nodup){k:Nat}(hr:rows[k]?=some r):pM rows r=some k:=by
 unfold pM;let a:=(aD.mp hr).2;refine eU.mpr #[(aD.mp hr).1,?_,λj b=>?_]
 ·rw[a];exact xA _
 ·intro z;let z:=(VS _ _).mp z;exact absurd ((lJ iD).mp (z.trans a.symm)) ()
theorem OU(sp:List Nat)(R:Nat->Nat->Bool)(n:Nat):(jH sp R n).Pairwise (· < ·):=fN _ dL
theorem wx_of{H0:Hp}{wa ca ra:Addr}{vw:List V}(iD:rows.Nodup)(oB:rows.length<=40)(hn3:(IT rows).length<=3)(wo:WoAt H0 H wa (yF (2*rows.length)<|rl ls) rows ls T ca ra vw):Wx H wa (yF (2*rows.length)<|rl ls).length (uR (yF (2*rows.length)<|rl ls)<|rl ls) (T.map (·.2.1)) (OI rows<|rl ls):=by
 let d:(yF (2*rows.length)<|rl ls).length<=2*rows.length:=HN;refine#[#[ca,vw,ra,T.map (·.2.2.2),wo.tup,wo.cl,wo.dat,#[#[T.map (·.1),T.map (·.2.2.1),wo.lst,by simp,by simp,λi z sp hz hs=>?_],by simp,λsp a=>?_],λi z hz=>?_],VX _,(),wo.perm.nodup_iff.mpr<|FR iD,?_,λz=>?_]
 ·rw[aF]at hz hs;obtain⟨e,he,rfl⟩:=aL.mp hz;rw[he]at hs;cases hs;obtain⟨b,c,_⟩:=wo.tr e<|aS he;exact#[e.1,e.2.2.1,by rw[aF,he];rfl,by rw[aF,he];rfl,b,c]
 ·obtain⟨e,he,rfl⟩:=bH.mp a;obtain⟨_,_,f,g⟩:=wo.tr e he;exact#[f,g]
 ·rw[aF]at hz;obtain⟨e,he,rfl⟩:=aL.mp hz;obtain⟨k,b,c⟩:=wo.is e<|aS he;rw[aF,he];show some e.2.2.2=some (OI rows (rl ls) e.2.1);unfold OI;rw[RD iD (YD b).1,c]
 ·rw[wo.perm.length_eq,aC];lia
 ·unfold OI;cases pM rows (.nm z)with
  |none=>exact#[λi hi=>(nomatch hi),.nil]
  |some k=>exact#[λi hi=>(mJ.mp hi).1,OU _ _ _]
theorem ZO(bi:Bi mg)(h_ce:fI P w K mg base 25 "value" ["world","t"] (nq K))(F:fT K "spot_against" "spot_against" s_w f fd):cZ P w K mg base fL 26 f fd ["world","saying"] spSg:=by
 refine F.okz sc_w λeO A outer s H vs Q E hr h=>?_
 obtain⟨wa,v,s,m,ps,zs,S,rfl,d,M,⟨O,R⟩,⟨T,U⟩,b,g,q⟩:=h;obtain⟨a,v1,v2,rfl,ha,W,X⟩:=M.out;calc#[_,have nd:=sc_w.nd;zC (xR (i:=2) nd rfl (Or.inr rfl) #[])<|zI<|zR<|zP zQ (zW ["spot"] ["beyond"] [2] #[] (λ_ _ _ _ nd=>yG 0 nd) (λ_ _ _ _=>uG<|yC (kP hr.units) #[] #[] (by with_unfolding_all rfl)) λ_ _ _ _=>#[]) zS,?_];refine zD λN G=>?_
 dsimp![];let I:∀{J:Hp}{u:V}{t:Tm}{j:VK},aX H J->fX H t u->gA 20 t->wt t<=900->(∀x∈iY t,x∈zs)->(∀(p:Addr)(H':Hp),aX J H'->J p=none->H' p=some (.lst<|(val m ps S t).map nV)->j (.ref p) H')->nq K [.ref wa,u] J j E0:=λ{J u t j} e Y Z g3 g4 g5=>by
  obtain⟨⟨ca,us,la,Ss,k1,k2,k3,k4,k5⟩,r1,r2,r3,r4,r5⟩:=d.same e;exact#[wa,u,t,m,ca,us,ps,la,zs,Ss,S,rfl,k1,k2,k3,r1,r2,k4,#[r3,r4],eL.same e Y,Z,g3,g4,k5,r5,g5]
 calc#[_,cW.of ha,_,oQ,I (aX.refl _) X T U (λx hx=>b x<|aZ _ hx) λpb H1 s1 _ kb=>G _ _ ?_];clear G;dsimp![];calc#[_,cW.of<|s1 _ _ ha,_,gR,I s1 W O R (λx hx=>b x<|bW _ hx) λpv H2 s2 _ L=>?_];calc#[pv,rfl,#[_,cO.of L],?_];let k:∀t:Tm,(val m ps S t).length<=90:=λt=>bX (OS (wO (λx=>(d.sr x).2) t) λx hx=>YJ (λx=>(d.sr x).1) t hx) d.m90
 refine XN (xs:=(val m ps S s.1).map nV) (λn ys σ Hx=>aX H2 Hx/\ys=(((val m ps S s.1).take n).filter λa=>!decide (a∈val m ps S s.2)).map nV/\∃o,σ=[o,some<|V.ref pb]) #[aX.refl _,rfl,_,rfl] (zH (by rw[aC];have :=k s.1;lia)) (λn ys σ Hx e=>?_) (λn ys σ Hx e=>cO.of<|e.1 _ _ L) (λn x ys σ Hx C D hx e hC hD=>?_) λys σ Hx e p hp=>?_
 ·rw[e.2.1,aC];exact bX (dX _ _) (by rw[bD];lia)
 ·obtain⟨ex,rfl,o,rfl⟩:=e;rw[aF]at hx;obtain⟨y,hy,rfl⟩:=aL.mp hx;obtain⟨l,c⟩:=aD.mp hy;dsimp![ME];calc#[1,.int y,rfl,_,.inl<|vQ<|(s2.trans ex) _ _ kb,(λe he=>by obtain⟨_,_,rfl⟩:=bH.mp he;trivial),(),?_];rw[VJ,Bool.true_xor];let ht:=aI l;by_cases hc:y∈val m ps S s.2
  ·rw[aH (by simp[hc])];calc hD _ _ #[ex,?_,_,rfl];rw[ht,c,dN,aQ];simp[hc]
  ·rw[aT (by simp[hc])];calc hC _ _ _ #[ex,?_,_,rfl];rw[ht,c,dN,aQ];simp[hc,nV]
 obtain⟨ex,rfl,o,rfl⟩:=e;rw[aC,aU<|aG _];obtain⟨x,r,B⟩:∃x,x∈val m ps S s.1/\x∉val m ps S s.2:=rC λz=>g λa h1=>rC λh2=>z #[a,h1,h2]
 let hm:x∈(val m ps S s.1).filter λa=>!decide (a∈val m ps S s.2):=cK.mpr #[r,by simp[B]]
 cases hf:(val m ps S s.1).filter λa=>!decide (a∈val m ps S s.2)with
 |nil=>rw[hf]at hm;cases hm
 |cons y ys=>
  let hy:=cK.mp (show y∈(val m ps S s.1).filter λa=>!decide (a∈val m ps S s.2) by rw[hf];calc aV);exact#[p,rfl,_,cO.of zA,_,gR,q y _ (s1.trans<|s2.trans<|ex.trans<|zB hp _) hy.1 (by simpa using hy.2)]
theorem TL{k:Nat}{ps:List Str}:cZ P w K mg base fL k f fd ps nz:=#[λ_ _ _ _ h=>h.elim,λ_ _ _ _ _ _ _ _ _ _ _ _ _ h=>h.elim]
theorem MR(bi:Bi mg)(be:mg "enumerate"=none)(h_ac:fI P w K mg base 1 "line_for" ["lines","i","j"] jv)(h_V:fI P w K mg base 2 "hung_on" ["lines","k"] nz)(h_U:fI P w K mg base 1 "renamed" ["why","places"] nz)(F:fT K "paper" "paper" ou f fd):cZ P w K mg base fL 3 f fd ["lines","i","j"] spPn:=by
 refine F.okz jz λeO A outer s H vs Q E hr h=>?_
 obtain⟨la,ws,ls,i,j,rfl,a,b,c,q⟩:=h;calc#[_,have nd:=jz.nd;zC #[]<|zC (yA (yC FC #[] vZ<|yI _) #[] zL)<|zC #[]<|zC (xR (i:=5) nd rfl (Or.inr rfl)<|xF JE rfl bi.dict YG<|zE (zW ["place","n"] [] [] #[] (λ_ _ _ _ nd=>qQ (K:=K) (n:=2) rfl<|yE (yG 0 nd)<|yE (yG 1 nd) jS) (λ_ _ _ _=>zY) λ_ _ _ _=>#[]) zJ)<|zI<|zR<|zW ["n"] ["places","lines"] [5,0] #[] (λ_ _ _ _ nd=>yG 0 nd) (λ_ _ _ _=>zY) λ_ _ _ _=>(yW<|zE (zP (xY K) (zP (qM K) #[] #[]) zS)<|zE (zP (xY K) (zP (qM K) #[] #[]) zS)<|zE (zV h_U hr.m rfl<|zE (zP (xY K) (zP (qM K) #[] #[]) zS) #[]) zJ),?_];refine zD λN d=>?_
 dsimp![];calc#[la,ws,ls,i,j,rfl,a,b,λr H1 s1 e=>d _ _ ?_];clear d;rcases e with⟨rfl,_⟩ |⟨k,l,_,hk,g,_⟩
 ·refine zD λN d=>?_
  dsimp![];exact q H1 s1
 ·exact absurd g<|c l<|aS hk
def Vo(b:List pJ)(s:Tm×Tm):Prop:=∃m ps S,Fw m ps S/\(∀r∈b,Hr m ps S r)/\¬Hs m ps S s
def TV(p q:Nat×Nat):Prop:=p.1<q.1\/(p.1=q.1/\p.2<q.2)
theorem au{R:Nat->Nat->Bool}(sp:List Nat):(uR sp R).Pairwise TV:=by
 unfold uR;rw[List.pairwise_flatMap];refine#[λa _=>?_,?_]
 ·rw[nM];exact(fN _ dL).imp λh=>.inr #[rfl,h]
 ·refine dL.imp λ{a b} h x hx y hy=>?_
  obtain⟨_,_,rfl⟩:=bH.mp hx;obtain⟨_,_,rfl⟩:=bH.mp hy;exact .inl h
structure OpA(H:Hp)(rows:List Rw)(b:List pJ)(s:Tm×Tm)(wa ca la:Addr)(n m:Nat)(ps:List (Nat×Nat))(T:List Ro)(us:List V)(S:Str->List Nat):Prop where
 tup:H wa=some (.tup [nV m,.ref ca,.ref la])
 cl:H ca=some (.lst us)
 dat:bN H (ps.map sE) us
 lst:H la=some (.lst ((T.map (·.1)).map V.ref))
 tr:sQ H m T
 m1:1<=m
 m80:m<=80
 ok2:DT m ps
 srt:ps.Pairwise TV
 pl:ps.length<=6400
 tl:T.length<=3
 zrt:(T.map (·.2.1)).Pairwise (λx y=>x.cps.toList<y.cps.toList)
 nm:∀e∈T,Nm e.2.1
 ful:∀e∈T,cnt m ps (cnt m ps e.2.2.2)=e.2.2.2
 is:∀e∈T,e.2.2.2=S e.2.1
 all:∀(x:Str)(k:Nat),rows[k]?=some (Rw.nm x)->x∈T.map (·.2.1)
 fw:Fw m ps S
 sr:∀z,(∀i∈S z,i<m)/\(S z).Pairwise (· < ·)
 hr:∀r∈b,Hr m ps S r
 in1:n∈val m ps S s.1
 no2:n∉val m ps S s.2
inductive spJo (K:W.Frag) (vs:List V) (H:Hp) (Q:VK) (E:XK):Prop
 |mk (sa ba:Addr) (v:V) (us bs:List V) (rows:List Rw) (b:List pJ) (s:Tm×Tm) (_:vs=[.ref sa,.ref ba,v]) (_:H sa=some (.lst us)) (_:gJ K H rows us) (_:rB rows) (_:rows.Nodup) (_:rows.length<=40) (_:(IT rows).length<=3) (_:H ba=some (.lst bs)) (_:mU H b bs) (_:b.length<=100) (_:(∀r∈b,uu rows r)) (_:rK H s v) (_:ce rows s) (_:wt s.1<=900) (_:wt s.2<=900) (_:Vo b s) (_:∀(p wa ca la:Addr)(n m:Nat)(ps:List (Nat×Nat))(T:List Ro)(oG:List V)(S:Str->List Nat) H',aX H H'->H' p=some (.tup [.str "open",.ref wa,.int n])->OpA H' rows b s wa ca la n m ps T oG S->Q (.ref p) H')
theorem OpA.same{b:List pJ}{wa ca la:Addr}{m:Nat}(h:OpA H rows b s wa ca la n m ps T us S)(e:aX H H'):OpA H' rows b s wa ca la n m ps T us S:=
 #[e _ _ h.tup,e _ _ h.cl,bN.same e h.dat,e _ _ h.lst,h.tr.same e,h.m1,h.m80,h.ok2,h.srt,h.pl,h.tl,h.zrt,h.nm,h.ful,h.is,h.all,h.fw,h.sr,h.hr,h.in1,h.no2]
theorem BN(bi:Bi mg)(h_bh:fI P w K mg base 4 "closing" ["sheet","rules"] (jw K))(h_ad:fI P w K mg base 47 "numbered" ["sheet","book"] (spNm K))(h_W:fI P w K mg base 45 "pair_of" ["places","saying"] (ny P w K))(h_M:fI P w K mg base 1 "places_of" ["sheet"] (nw P w K))(h_cd:fI P w K mg base 3 "paper" ["lines","i","j"] spPn)(h_ag:fI P w K mg base 2 "world_of" ["sheet","lines"] (PL K))(h_w:fI P w K mg base 26 "spot_against" ["world","saying"] spSg)(F:fT K "judge_on" "judge_on" pq f fd):cZ P w K mg base fL 48 f fd ["sheet","book","saying"] (spJo K):=by
 refine F.okz ki λeO A outer s H vs Q E hr h=>?_
 obtain⟨sa,ba,v,us,bs,rows,b,s,rfl,mS,oN,hs,iD,oB,G,U,hb,W,O,hv,u,w1,w2,⟨m0,ps0,S0,X,Y,Z⟩,q⟩:=h;calc#[_,have nd:=ki.nd;zC #[]<|zC #[]<|zC #[]<|zC (yA (yC er #[] vZ<|yI _) #[] zL) #[],?_];refine zD λN c=>?_
 dsimp![];calc#[sa,ba,us,bs,rows,b,rfl,mS,oN,iD,(),U,hb,W,O,λpn ws H1 s1 kn hn=>?_];let B:∀r∈b.map (nR rows),r.1.length<=100:=λr hr=>by
  obtain⟨r',iO,rfl⟩:=bH.mp hr;show(r'.1.map _).length<=100;rw[aC];have :=(O r' iO).1;lia
 calc#[sa,pn,us,ws,rows,b.map<|nR rows,rfl,s1 _ _ mS,oN.same s1,kn,hn,(),hs.in_,by rw[aC];lia,B,λla wl ls H2 s2 D d gk iT a=>c _ _ ?_];clear c;replace s2:=s1.trans s2;clear s1 kn hn;let hh:zM ls (nS rows s).1 (nS rows s).2=false:=by
  rw[dM];exact λz=>Z<|sound X hs O Y gk u z
 refine zD λN c=>?_
 dsimp![];calc#[sa,us,rows,rfl,s2 _ _ mS,oN.same s2,iD,(),λpa as J H3 s3 px=>?_];calc#[pa,v,rows,as,s,J,rfl,px,eL.same (s2.trans s3) hv,u,λpp J4 H4 as4 s4 C kp=>c _ _ ?_];clear c;let y:aX H2 H4:=s3.trans<|s4.trans C.sub;replace kp:=C.sub _ _ kp;clear px C s3 s4;replace D:=y _ _ D;replace d:vJ H4 ls wl:=bN.same y d;replace s2:=s2.trans y;clear y;refine zD λN c=>?_
 dsimp![];let hll:ls.length<=6400:=bX gk.len (by
  have :2*rows.length<=80:=by lia
  calc jn this this)
 let hno:∀l∈ls,¬(l.i=(nS rows s).1/\l.j=(nS rows s).2):=λl hl e=>by
  obtain⟨i,hi,e2⟩:=cQ hl;have :=fK.mpr #[i,l,by rw[aA hi,e2],e.1,e.2];rw[hh]at this;cases this
 calc#[_,cW.of kp,_,gR,_,cW.of kp,_,oQ,la,wl,ls,_,_,rfl,D,d,hno,λH5 s5=>c _ _ ?_];clear c;replace s2:=s2.trans s5;replace D:=s5 _ _ D;replace d:vJ H5 ls wl:=bN.same s5 d;clear kp;refine zD λN c=>?_
 dsimp![];rw[aH (by simp)];calc c _ _ ?_;clear c;let R:=Rl.of iT a;let l1:=(u.1.val (XZ hs iT a) (UE hs iD iT a) hs).1;let l2:=(u.2.val (XZ hs iT a) (UE hs iD iT a) hs).1;let I:zM ls 1 0=false:=by
  rw[dM];intro z;let e1:rl ls 1 (dY s.2 rows).2=true:=R.all 1 _ z l2;let e2:rl ls (dY s.1 rows).2 1=true:=iT.high _ l1;have :=R.trans _ _ _ e2 e1;let this:zM ls (nS rows s).1 (nS rows s).2=true:=this;rw[hh]at this;cases this
 refine zD λN c=>?_
 dsimp![];calc#[sa,la,us,wl,rows,ls,rfl,s2 _ _ mS,oN.same s2,oB,G,FR iD,D,d,(),gk.keys,(λz=>by rw[I]at z;cases z),λ_ wa T ca ra vw H6 s6 wo=>c _ _ ?_];clear c;dsimp![];let hz:∀x∈iY s.1++iY s.2,x∈T.map (·.2.1):=λx hx=>by
  let go:∀{t:Tm},jc rows t->x∈iY t->x∈T.map (·.2.1):=λ{t} g hx=>by
   obtain⟨k,hk⟩:=IM 21 t g.1 _ g.num x hx;exact wo.perm.mem_iff.mpr<|bH.mpr #[(x,k),IS<|UR hk,rfl]
  rcases bJ.mp hx with h |h
  ·exact go u.1 h
  ·exact go u.2 h
 let hns:¬Hs _ _ _ s:=λz=>by
  have :=(GA hs iD iT a u).mp z;rw[hh]at this;cases this
 let wx:=wx_of iD oB G wo;calc#[wa,v,s,_,_,_,_,rfl,wx,eL.same (s2.trans s6) hv,#[u.1.1,w1],#[u.2.1,w2],hz,hns,λn H7 s7 in1 no2=>#[zH (),λp hp=>?_]];let hT:T.length<=3:=by
  have :=wo.perm.length_eq;rw[aC,aC]at this;lia
 let o:∀e∈T,∃k,k<rows.length/\e.2.2.2=jH (yF (2*rows.length)<|rl ls) (rl ls) (2*k)/\rows[k]?=some (.nm e.2.1):=λe he=>by
  obtain⟨k,S,L⟩:=wo.is e he;exact#[k,(YD S).2,L,(YD S).1]
 let M:=i3 (R:=rl ls)<|yF (2*rows.length)<|rl ls;let hsl:(yF (2*rows.length)<|rl ls).length<=2*rows.length:=HN;let m:=s7.trans<|zB hp<|.tup [.str "open",.ref wa,.int n];refine q p wa ca ra n _ _ T vw _ _ ((s2.trans s6).trans m) zA #[m _ _ wo.tup,m _ _ wo.cl,bN.same m wo.dat,m _ _ wo.lst,wo.tr.same m,de (by have :=hs.pos;lia) I,(),VX _,au _,bX M (bX (jn (show _<=80 by lia)<|show _<=80 by lia) ()),hT,wo.srt,λe he=>?_,λe he=>?_,λe he=>?_,λx k hk=>wo.perm.mem_iff.mpr<|bH.mpr #[(x,k),IS hk,rfl],XZ hs iT a,wx.sr,so hs iD iT a O,in1,no2]
 ·obtain⟨k,_,_,k3⟩:=o e he;exact hs.nm k _ k3
 ·obtain⟨k,S,L,_⟩:=o e he;rw[L];exact CN R ()
 ·obtain⟨k,S,L,k3⟩:=o e he;rw[L];unfold OI;rw[RD iD k3]
inductive spJu (K:W.Frag) (vs:List V) (H:Hp) (Q:VK) (E:XK):Prop
 |mk (ba:Addr) (v:V) (bs:List V) (zs:List Str) (b:List pJ) (s:Tm×Tm) (_:vs=[.ref ba,v]) (_:H ba=some (.lst bs)) (_:mU H b bs) (_:rK H s v) (_:b.length<=20) (_:(∀r∈b,r.1.length<=5)) (_:(∀t∈lG b++lF s,gA 20 t/\wt t<=120)) (_:(∀t∈lG b++lF s,∀x∈iY t,x∈zs)) (_:zs.length<=3) (_:(yU (lG b++lF s) [.no]).length<=40) (_:Vo b s) (_:∀(p wa ca la:Addr)(n m:Nat)(ps:List (Nat×Nat))(T:List Ro)(oG:List V)(S:Str->List Nat) H',aX H H'->H' p=some (.tup [.str "open",.ref wa,.int n])->OpA H' (yU (lG b++lF s) [.no]) b s wa ca la n m ps T oG S->Q (.ref p) H')
theorem cw{r:pJ}(h:r.1.length<=5):(OE r).length<=12:=by
 have :∀ps:List (Tm×Tm),(jI ps).length=2*ps.length:=λps=>by
  induction ps with
  |nil=>rfl
  |cons p ps a=>
   show(lF p++jI ps).length=_;rw[aK,a,bG];show 2+_=_;lia
 unfold OE;rw[aK,this];show _+2<=12;lia
theorem wP:∀{b:List pJ},(∀r∈b,r.1.length<=5)->(lG b).length<=12*b.length
 |[],_=>aG _
 |r::b,h=>by
  show(OE r++lG b).length<=_;rw[aK,bG];have :=cw<|h r aV;have :=wP (b:=b) λq hq=>h q (aW _ hq)
  lia
theorem iu{b:List pJ}(hf:∀t∈lG b++lF s,gA 20 t)(hp:∀r∈b,r.1.length<=5):(∀r∈b,uu (yU (lG b++lF s) [.no]) r)/\ce (yU (lG b++lF s) [.no]) s:=by
 let a:=JF (lG b++lF s) [.no] hf;let d:∀t∈lG b++lF s,jc (yU (lG b++lF s) [.no]) t:=λt ht=>sx (hf t ht)<|a t ht
 let c:∀{p:Tm×Tm},(∀t∈lF p,t∈lG b++lF s)->ce (yU (lG b++lF s) [.no]) p:=λ{p} h=>#[d _ (h _ (by simp[lF])),d _<|h _ (by simp[lF])]
 refine#[λr hr=>#[hp r hr,λp hp=>c λt ht=>?_,c λt ht=>?_],c λt ht=>aZ _ ht]
 ·exact bW _<|dB.mpr #[r,hr,bW _<|dB.mpr #[p,hp,ht]]
 ·exact bW _<|dB.mpr #[r,hr,aZ _ ht]
def rQ(zs:List Str)(rows:List Rw):Prop:=∀(k:Nat)(x:Str),rows[k]?=some (.nm x)->x∈zs
theorem rQ.put(h:rQ zs rows)(hn:∀x,r=.nm x->x∈zs):rQ zs (xG rows r).1:=by
 unfold xG;split
 ·exact h
 ·intro k x hk;let hk:(rows++[r])[k]?=some (.nm x):=hk;rcases bJ.mp (aS hk)with hm |hm
  ·obtain⟨i,hi,e⟩:=cQ hm;exact h i x (by rw[aA hi,e])
  ·exact hn x (aP.mp hm).symm
mutual
theorem FQ{zs:List Str}:∀(t:Tm)(rows:List Rw),(∀x∈iY t,x∈zs)->rQ zs rows->rQ zs (dY t rows).1
 | .name y,rows,ht,h=>by
   rw[dY];exact h.put λx e=>by cases e;exact ht y (by rw[iY];simp)
 | .node w ts,rows,ht,h=>by
   rw[iY]at ht;rw[dY];split
   ·exact h
   split
   ·exact h
   split
   ·exact IR false ts rows ht h
   ·exact IR _ ts rows ht h
theorem IR{zs:List Str}(e:Bool):∀(ts:List Tm)(rows:List Rw),(∀x∈yQ ts,x∈zs)->rQ zs rows->rQ zs (jB e ts rows).1
 |[],rows,_,h=>by rw[jB];exact h
 |t::ts,rows,ht,h=>by
  rw[yQ]at ht;rw[jB];exact IQ e ts _ _ (λx hx=>ht x<|aZ _ hx) (FQ t rows (λx hx=>ht x<|bW _ hx) h)
theorem IQ{zs:List Str}(e:Bool):∀(ts:List Tm)(rows:List Rw)(m:Nat),(∀x∈yQ ts,x∈zs)->rQ zs rows->rQ zs (yJ e ts rows m).1
 |[],rows,m,_,h=>by rw[yJ];exact h
 |t::ts,rows,m,ht,h=>by
  rw[yQ]at ht;rw[yJ];exact IQ e ts _ _ (λx hx=>ht x<|aZ _ hx) ((FQ t rows (λx hx=>ht x<|bW _ hx) h).put λx e=>by cases e)
end
theorem IP{zs:List Str}:∀(ts:List Tm)(rows:List Rw),(∀t∈ts,∀x∈iY t,x∈zs)->rQ zs rows->rQ zs (yU ts rows)
 |[],rows,_,h=>h
 |t::ts,rows,ht,h=>IP ts _ (λu hu=>ht u<|aW _ hu)<|FQ t rows (ht t aV) h
theorem SR(bi:Bi mg)(h_ba:fI P w K mg base 48 "judge_on" ["sheet","book","saying"] (spJo K))(h_X:fI P w K mg base 45 "sheet_of" ["terms"] (spSo K))(h_bd:fI P w K mg base 1 "terms_in" ["book","saying"] spTI)(F:fT K "judge" "judge" ox f fd):cZ P w K mg base fL 49 f fd ["book","saying"] (spJu K):=by
 refine F.okz j4 λeO A outer s H vs Q E hr h=>?_
 obtain⟨ba,v,bs,zs,b,s,rfl,c,hb,l,o,iT,a,e,r,d,g,q⟩:=h;let hf:=λt ht=>(a t ht).1
 calc#[_,have nd:=j4.nd;#[],?_];dsimp![];let u:=wP iT;obtain⟨i,iD⟩:=CV (lG b++lF s) [.no] hf rB.one (by simp);obtain⟨y,z⟩:=iu hf iT;let G:=(a s.1<|aZ _ (by simp[lF])).2;let I:=(a s.2<|aZ _ (by simp[lF])).2;let hn:rQ zs (yU (lG b++lF s) [.no]):=IP _ _ e λk x hk=>by
  cases k with
  |zero=>cases hk
  |succ k=>simp at hk
 let j:(IT<|yU (lG b++lF s) [.no]).length<=3:=by
  have :=qL (FR iD) (m:=zs) λx hx=>by
   obtain⟨p,hp,rfl⟩:=bH.mp hx;exact hn p.2 p.1 (YD hp).1
  rw[aC]at this;lia
 calc#[ba,v,bs,b,s,rfl,c,hb,l,(),λpt B H1 s1 C ht=>?_];calc#[pt,B,lG b++lF s,rfl,C,ht,hf,(),λp ws H2 s2 kp oN=>?_];replace s2:=s1.trans s2;refine#[p,ba,v,ws,bs,_,b,s,rfl,kp,oN,i,iD,d,j,s2 _ _ c,bN.same s2 hb,(),y,eL.same s2 l,z,(),(),g,λD wa ca la n m ps T oG S H' s'=>q D wa ca la n m ps T oG S H'<|s2.trans s']
abbrev s_K:Stmt:=top 60
theorem sc_K:bV ["script","k","cell","mixed"] ["script","k"] (zF s_K):=by rfl'
abbrev s_Q:Stmt:=top 62
theorem sc_Q:bV ["script","k","many","letters","first","spell","row","j","size","at","names","n","word"] ["script","k","many"] (zF s_Q):=by rfl'
theorem SF:(0:Int)<10^Int.toNat 60:=by show(0:Int)<10^60;simp
theorem idxI(zs:List Int)(k:Int)(h0:0<=k)(h1:k<zs.length):∃z,pI (zs.map V.int) k=some (.int z):=by
 let hk:k.toNat<zs.length:=by lia
 exact#[zs[k.toNat],DC h0 (by rw[aF,aA hk];rfl)]
def AH(K:W.Frag):Sp:=λvs H Q _=>∃(a:Addr)(ns:List Int)(k:Nat),vs=[.ref a,.int k]/\cO K H a (ns.map V.int)/\ns.length<=63/\k<=100/\∀z:Int,0<=z->Q (.int z) H
structure b8(H:Hp)(p:Addr)(m:Nat)(zs:List Str):Prop where
 lst:H p=some (.lst<|zs.map V.str)
 len:zs.length=m
 nd:zs.Nodup
 nm:∀z∈zs,Nm z
theorem b8.same{m:Nat}(e:aX H H')(h:b8 H p m zs):b8 H' p m zs:=#[e _ _ h.lst,h.len,h.nd,h.nm]
inductive spNs (K:W.Frag) (vs:List V) (H:Hp) (Q:VK) (E:XK):Prop
 |mk (a:Addr) (ns:List Int) (k m:Nat) (_:vs=[.ref a,.int k,.int m]) (_:cO K H a (ns.map V.int)) (_:ns.length<=63) (_:k<=99) (_:1<=m) (_:m<=5) (_:∀p zs H',aX H H'->b8 H' p m zs->Q (.ref p) H')
noncomputable def wd(rs:List Nat):Str:=#[(rs.map (97+ ·)).toArray]
theorem uS(rs:List Nat):(wd rs).length=rs.length:=by
 show((rs.map (97+ ·)).toArray).size=_;rw[aR,aC]
theorem DZ(rs:List Nat):(wd rs).cps.toList=rs.map (97+ ·):=rfl
theorem DY{rs ts:List Nat}(h:wd rs=wd ts):rs=ts:=by
 let h2:rs.map (97+ ·)=ts.map (97+ ·):=cM (λx:Str=>x.cps.toList) h;clear h
 induction rs generalizing ts with
 |nil=>cases ts with
  |nil=>rfl
  |cons t ts=>simp at h2
 |cons r rs a=>cases ts with
  |nil=>simp at h2
  |cons t ts=>
   simp only[bY,bv]at h2;rw[a h2.2,show r=t by lia]
theorem QO(n:Nat)(h:n<26):pI ("abcdefghijklmnopqrstuvwxyz":Str).cps.toList (n:Int)=some (97+n):=by
 let h2:∀k:Fin 26,("abcdefghijklmnopqrstuvwxyz":Str).cps.toList[k.val]?=some (97+k.val):=by decide+kernel
 exact zU<|h2 #[n,h]
theorem CI:∀(rs:List Nat),GB [] (rs.map λr=>[97+r])=rs.map (97+ ·)
 |[]=>rfl
 |[r]=>rfl
 |r::a::rs=>by
  let b:=CI (a::rs);show [97+r]++[]++GB [] ((a::rs).map λr=>[97+r])=_;rw[b];rfl
theorem KD(rs:List Nat):Txt.join "" (rs.map λr=>(#[(List.toArray [97+r])]:Str))=wd rs:=by
 let h:=NJ [] (rs.map λr=>[97+r]);rw[dC,CI]at h;let e:("":Str)=toS []:=by decide+kernel
 show Builtin.Str.glued "" _=_;rw[e];exact h
noncomputable def wn(rs:List Nat)(sz at' n:Nat):List Nat:=(List.range sz).map λj=>(rs.getD j 0+(if j=at' then n else 0)) % 26
open Classical in
noncomputable def nmF (qs:List Nat):Str:=if wd qs="none"\/wd qs="all" then wd qs++"x" else wd qs
theorem kK(rs:List Nat)(sz at' n:Nat):(wn rs sz at' n).length=sz:=by unfold wn;rw[aC,bU]
theorem rf{rs:List Nat}{sz at':Nat}(hsz:1<=sz/\sz<=8):Nm (nmF<|wn rs sz at' n):=by
 let hl:=kK rs sz at' n;let hq:∀r∈wn rs sz at' n,r<26:=λr hr=>by
  unfold wn at hr;obtain⟨j,_,rfl⟩:=bH.mp hr;lia
 generalize wn rs sz at' n=qs at hl hq;let a:∀c∈(wd qs).cps.toList,97<=c/\c<=122:=λc hc=>by
  rw[DZ]at hc;obtain⟨r,hr,rfl⟩:=bH.mp hc;have :=hq r hr;lia
 unfold nmF;by_cases h:wd qs="none"\/wd qs="all"
 ·rw[aT h];rcases h with h |h
  ·rw[h];exact#[(),(),(),(),()]
  ·rw[h];exact#[(),(),(),(),()]
 ·rw[aH h];exact#[by rw[uS];lia,by rw[uS];lia,a,λe=>h<|.inl e,λe=>h<|.inr e]
theorem app_x{x y:Str}(h:x++"x"=y++"x"):x=y:=by
 let h2:=cM (λz:Str=>z.cps.toList) h;simp only[iz]at h2;let a:=List.append_cancel_right h2;exact HM (by rw[←OD];calc a)
theorem gp{qs ts:List Nat}(hl:qs.length=ts.length)(h:nmF qs=nmF ts):qs=ts:=by
 let hx:("x":Str).length=1:=by decide+kernel
 unfold nmF at h;by_cases h1:wd qs="none"\/wd qs="all"<;>by_cases h2:wd ts="none"\/wd ts="all"
 ·rw[aT h1,aT h2]at h;exact DY<|app_x h
 ·rw[aT h1,aH h2]at h;have :=cM Str.length h;rw[IY,hx,uS,uS]at this;lia
 ·rw[aH h1,aT h2]at h;have :=cM Str.length h;rw[IY,hx,uS,uS]at this;lia
 ·rw[aH h1,aH h2]at h;exact DY h
theorem rg{rs:List Nat}{sz at' m:Nat}(oB:rs.length=8)(hr:∀r∈rs,r<26)(hsz:sz<=8)(hat:at'<sz)(hm:m<=5):((List.range m).map λn=>nmF<|wn rs sz at' n).Nodup:=by
 refine cH.mpr λx y hx hy b e=>?_
 rw[aC,bU]at hx hy;rw[dJ,dJ,gC,gC]at e;let c:=gp (by rw[kK,kK]) e;let a:=cM (·[at']?) c;unfold wn at a;simp only[aF,lV hat,Option.map_some,GZ,if_true]at a;lia
theorem ao(xs:List V)(k:Nat)(h:k<=xs.length):qN xs none (some (k:Int))=xs.take k:=by
 unfold qN;rw[HT.sIx_nat,HT.sIx_none,pZ,Nat.sub_zero,Nat.min_eq_left h]
theorem gc(bi:Bi mg)(F:fT K "_law_draw" "_law_draw" s_K f fd):cZ P w K mg base fL 1 f fd ["script","k"] (AH K):=by
 refine F.okz sc_K λeO A outer s H vs Q E hr h=>?_
 obtain⟨a,ns,k,rfl,d,hl,hk,q⟩:=h;calc#[_,have nd:=sc_K.nd;zC #[]<|zC (xI 2 nd<|yZ VE (zP zQ #[] #[]) #[]) #[],?_];refine zD λN c=>?_
 dsimp![];calc#[_,.inl #[_,d,rfl],rfl,?_];rw[aC];by_cases i:ns.length=0
 ·rw[aT ()];exact q 0 ()
 rw[aH ()];calc c _ _ ?_;clear c;refine zD λN c=>?_
 dsimp![];let e:0<=(k:Int) % (ns.length:Int):=dO _ ();let g:(k:Int) % (ns.length:Int)<ns.length:=gD _ ();obtain⟨z,hz⟩:=idxI ns ((k:Int) % (ns.length:Int)) e g;calc#[ns.length,.inl #[_,d,by rw[aC]],(),_,d,_,hz,#[(),(),()],_,rfl,SF,c _ _ ?_];clear c;let hc:=dO z (b:=10^Int.toNat 60)<|Int.ne_of_gt SF;generalize z % 10^Int.toNat 60=cell at hc;refine zD λN c=>?_
 dsimp![];calc#[ns.length,.inl #[_,d,by rw[aC]],?_];split
 ·exact q cell hc
 calc c _ _ ?_;clear c;refine zD λN c=>?_
 dsimp![];calc#[.inl #[(),()],.inl #[(),()],(),c _ _ ?_];clear c;let h1:=dO (cell+7919*(k:Int)*(k:Int)+1) (b:=2147483647) ();let h2:=gD (cell+7919*(k:Int)*(k:Int)+1) (b:=2147483647) ();generalize (cell+7919*(k:Int)*(k:Int)+1) % 2147483647=mixed at h1 h2;dsimp![];refine#[.inl #[(),()],(),q _<|dO _ ()]
theorem SQ(bi:Bi mg)(h_K:fI P w K mg base 1 "_law_draw" ["script","k"] (AH K))(F:fT K "_law_names" "_law_names" s_Q f fd):cZ P w K mg base fL 2 f fd ["script","k","many"] (spNs K):=by
 refine F.okz sc_Q λeO A outer s H vs Q E hr h=>?_
 obtain⟨a,ns,k,m,rfl,hS,hl,hk,h1,h5,q⟩:=h;calc#[_,have nd:=sc_Q.nd;zC (xR (i:=3) nd rfl (Or.inr rfl) yS)<|zC #[]<|zC #[]<|zC (xR (i:=6) nd rfl (Or.inr rfl) #[])<|zC #[]<|zC (yA #[] (zC (ET (yZ FG zS<|yZ VE (zP zQ #[] zS) zS)<|EW #[] zS qG)<|zI<|zR<|zW ["j"] ["letters","row"] [3,6] #[] (λ_ _ _ _ nd=>yG 0 nd) (λ_ _ _ _=>zY) λ_ _ _ _=>(qo K PySem.F.plainAttrs_str PySem.F.slot_str_join PySem.F.type_str_join (TN K) yS<|zE (by calc(zW ["n"] ["letters"] [1] (AU K<|xM (PR K) #[] jL<|jK #[]) (λ_ _ _ _ nd=>yG 0 nd) (λ_ _ _ _=>zY) λ_ _ _ _=>(zP WP #[] #[]))) zJ)) zL)<|zC #[]<|zC (xR (i:=9) nd rfl (Or.inr rfl) #[])<|zC #[]<|zC (yD bR rfl #[] (vP (i:=11) nd rfl<|Or.inr rfl)<|zC (xI 12 nd<|qK PySem.F.plainAttrs_str PySem.F.slot_str_join PySem.F.type_str_join IX yS<|zE (zW ["j"] ["letters","row","n","at"] [3,6,11,9] #[] (λ_ _ _ _ nd=>yG 0 nd) (λ_ _ _ _=>zY) λ_ _ _ _=>(zP WP #[]<|yZ VE (yZ FG (zP (qM K) #[] #[])<|yZ VD #[]<|xF QW rfl bi.int WD #[]) zS)) zJ)<|zC (yA (PW.pt<|qI (yC QK (pv 12) yS<|yI _)<|YX<|yC QK (pv 12) yS<|yI _) (zI<|xI 12 nd<|yZ FF (pv 12) yS) zL)<|zI<|xJ<|qK cR dW dU jE #[]<|zE (pv 12) zJ) #[],?_];refine zD λN d=>?_
 dsimp![];calc d _ _ ?_;clear d;refine zD λN d=>?_
 dsimp![AH];calc#[ns,k,rfl,hS,hl,(),λD hfi=>d _ _ ?_];clear d;refine zD λN d=>?_
 dsimp![AH];calc#[ns,k+1,(),hS,hl,(),λz hz=>#[.inr #[(),()],#[(),(),()],(),d _ _ ?_]];clear d;let X:=dO (z*982451653) (b:=26^Int.toNat 8) ();generalize z*982451653 % 26^Int.toNat 8=sp at X;refine zD λN d=>?_
 dsimp![];calc#[zH (),λt R=>d _ _ ?_];clear d;let s1:=zB R<|.lst [];let u:upd H t (.lst []) t=some (.lst<|([]:List Nat).map nV):=zA;generalize upd H t (.lst [])=H1 at s1 u⊢;refine zK (λσ H'=>∃(rs:List Nat)(sp:Int)(o:Option V),aX H H'/\H' t=some (.lst<|rs.map nV)/\rs.length=8/\(∀r∈rs,r<26)/\σ=[some<|V.ref a,some<|V.int k,some<|V.int m,some<|V.str "abcdefghijklmnopqrstuvwxyz",some<|V.int D,some<|V.int sp,some<|V.ref t,o,none,none,none,none,none]) (λN d=>?_) λσ H' h=>?_
 ·dsimp![];calc#[(),(),?_];refine jO (n:=Int.toNat 8) (λi σ H'=>∃(rs:List Nat)(sp:Int)(o:Option V),aX H H'/\H' t=some (.lst<|rs.map nV)/\rs.length=i/\(∀r∈rs,r<26)/\0<=sp/\σ=[some<|V.ref a,some<|V.int k,some<|V.int m,some<|V.str "abcdefghijklmnopqrstuvwxyz",some<|V.int D,some<|V.int sp,some<|V.ref t,o,none,none,none,none,none]) #[[],_,_,s1,u,rfl,(λr hr=>by cases hr),X,rfl] (λi σ H' hi h=>?_) λσ H' h=>?_
  ·obtain⟨rs,sp,o,s2,I,oB,g,hs0,rfl⟩:=h;let hi8:i<8:=hi;dsimp![];let Y:0<=sp % 26:=by lia
   refine#[.inl #[rfl,_,cO.of I],(),_,I,jD (by rw[aC];lia),#[(),()],s2.upd R,rs++[(sp % 26).toNat],?_,by rw[aK,oB];rfl,λr hr=>?_,sp/26,(),rfl,_,rfl]
   ·rw[zA,aQ];show some (HO.lst<|rs.map nV++[V.int<|sp % 26])=some (HO.lst<|rs.map nV++[V.int (((sp % 26).toNat:Nat):Int)]);rw[show(((sp % 26).toNat:Nat):Int)=sp % 26 by lia]
   ·rcases bJ.mp hr with hr |hr
    ·exact g r hr
    ·rw[aP.mp hr];lia
  ·obtain⟨rs,sp,o,s2,I,oB,g,hs0,rfl⟩:=h;exact d _ _ #[rs,_,_,s2,I,oB,g,rfl]
 clear s1 u;obtain⟨rs,sp,o,s1,u,oB,g,rfl⟩:=h;refine zD λN d=>?_
 dsimp![sy,QF];calc#[(),rfl,?_];by_cases Z:D % 3=0
 ·rw[aT Z];obtain⟨O,rt,rfl⟩:∃O rt,rs=O::rt:=by
   cases rs with
   |nil=>simp at oB
   |cons O rt=>exact#[O,rt,rfl]
  replace u:H' t=some (.lst (nV O::rt.map nV)):=u;calc#[_,cO.of u,nV O,gR,_,rfl,(),?_];obtain⟨l,mM,S⟩:∃l:Nat,(1<=l/\l<=12)/\(1+(O:Int) % 12)=(l:Int):=#[1+O % 12,(),()]
  rw[S];calc#[_,u,0,by simp[OF],(),(),?_];show bf _ _ _ _ _ _ _ (upd H' t<|HO.lst<|(l::rt).map nV) Q;let iO:∀r∈l::rt,r<26:=λr hr=>by
   rcases bI.mp hr with rfl |hr
   ·lia
   ·exact g r<|aW _ hr
  let hrl':(l::rt).length=8:=oB;let s2:=s1.upd (o:=.lst<|(l::rt).map nV) R;let I:upd H' t (.lst<|(l::rt).map nV) t=some (.lst<|(l::rt).map nV):=zA;generalize upd H' t (.lst<|(l::rt).map nV)=H2 at s2 I⊢;clear u s1 oB g;refine kA (n:=(m:Int).toNat) (λi ys σ W=>aX H2 W/\ys=(List.range i).map (λj=>V.str<|wd<|(l::rt).take (j+1))/\∃o,σ=[o,some<|V.str "abcdefghijklmnopqrstuvwxyz",some<|V.ref t]) #[aX.refl _,rfl,_,rfl] (zH ()) (λi ys σ W e=>?_) (λi ys σ W C hi e hC=>?_) λys σ W e p hp=>?_
  ·rw[e.2.1,aC,bU];exact aG _
  ·obtain⟨J,rfl,o,rfl⟩:=e;let e0:(0:Int)+(i:Int)+1=((i+1:Nat):Int):=by lia
   dsimp![];calc#[rfl,_,cO.of<|J _ _ I,λp1 iR=>?_];rw[e0,ao _ _ (by rw[aC];lia),←List.map_take];let s4:=J.trans<|zB iR<|.lst<|((l::rt).take (i+1)).map nV;let k4:upd W p1 (.lst<|((l::rt).take (i+1)).map nV) p1=some (.lst<|((l::rt).take (i+1)).map nV):=zA;generalize upd W p1 (.lst<|((l::rt).take (i+1)).map nV)=H4 at s4 k4⊢;let hq:∀r∈(l::rt).take (i+1),r<26:=λr hr=>iO r<|eF hr
   let hql:((l::rt).take (i+1)).length<=8:=by rw[bD];lia
   generalize hqs:(l::rt).take (i+1)=qs at k4 hq hql⊢;calc#[#[_,cO.of k4],?_];refine yM (xs:=qs.map nV) (λk ys σ G=>G=H4/\ys=(qs.take k).map (λr=>V.str #[(List.toArray [97+r])])/\∃o,σ=[o,some<|V.str "abcdefghijklmnopqrstuvwxyz"]) #[rfl,rfl,_,rfl] (zH (by rw[aC];lia)) (λk ys σ G e=>?_) (λk ys σ G e=>by rw[e.1];calc cO.of k4) (λk x ys σ G C' hx e T=>?_) λys σ G e p hp=>?_
   ·rw[e.2.1,aC,bD];exact Nat.min_le_left ..
   ·obtain⟨rfl,rfl,o,rfl⟩:=e;rw[aF]at hx;obtain⟨r,hr,rfl⟩:=aL.mp hx;obtain⟨hkl,hk2⟩:=aD.mp hr;dsimp![];calc#[zH (),_,QO r<|hq r<|aS hr,T _ _ _ #[rfl,?_,_,rfl]];rw[aI hkl,hk2,aQ];rfl
   ·obtain⟨rfl,rfl,o,rfl⟩:=e;rw[aC,aU<|aG _];refine#[p,rfl,qs.map λr=>(#[(List.toArray [97+r])]:Str),cO.of (by rw[zA,dC];rfl),?_,hC _ _ _ #[s4.trans<|zB hp _,?_,_,rfl]]
    ·rw[dC];let S:((λx:Str=>x.length) ∘ λr=>(#[(List.toArray [97+r])]:Str))=λ_=>1:=rfl
     rw[S,aC];let e2:(qs.map λ_=>1).sum=qs.length:=by
      clear hqs k4 hq hql
      induction qs with
      |nil=>rfl
      |cons q qs ih=>rw[bY,List.sum_cons,ih,bG];lia
     rw[e2,show(Str.ofString "").length=0 from rfl];lia
    ·rw[KD,dR,aQ,←hqs];rfl
  ·obtain⟨J,rfl,o,rfl⟩:=e;rw[show(m:Int).toNat=m from bE _];refine q p ((List.range m).map λj=>wd<|(l::rt).take (j+1)) _ ((s2.trans J).trans (zB hp _)) #[by rw[zA,dC];rfl,by rw[aC,bU],?_,λz hz=>?_]
   ·refine cH.mpr λx y hx hy hxy e=>?_
    rw[aC,bU]at hx hy;rw[dJ,dJ,gC,gC]at e;have :=cM List.length<|DY e;rw[bD,bD]at this;lia
   ·obtain⟨j,hj,rfl⟩:=bH.mp hz;let hj:=bL.mp hj;let hlj:(wd<|(l::rt).take (j+1)).length=j+1:=by rw[uS,bD];lia
    let Y:(wd<|(l::rt).take (j+1)).cps.toList[0]?=some (97+l):=by rw[DZ];rfl
    refine#[(),(),λc hc=>?_,λe=>?_,λe=>?_]
    ·rw[DZ]at hc;obtain⟨r,hr,rfl⟩:=bH.mp hc;have :=iO r<|eF hr;lia
    ·rw[e,show("none":Str).cps.toList[0]?=some 110 by decide+kernel]at Y;have :=cD Y;lia
    ·rw[e,show("all":Str).cps.toList[0]?=some 97 by decide+kernel]at Y;have :=cD Y;lia
 rw[aH Z];calc d _ _ ?_;clear d;refine zD λN d=>?_
 dsimp![];calc#[#[(),()],(),d _ _ ?_];clear d;obtain⟨sz,hsz,esz⟩:∃sz:Nat,(1<=sz/\sz<=8)/\1+D/3 % 8=(sz:Int):=#[(1+D/3 % 8).toNat,(),()]
 rw[esz];refine zD λN d=>?_
 dsimp![];calc#[#[(),()],(),d _ _ ?_];clear d;let ha0:=dO (D/24) (b:=(sz:Int)) ();let ha1:=gD (D/24) (b:=(sz:Int)) ();obtain⟨at',hat,rP⟩:∃at':Nat,at'<sz/\D/24 % (sz:Int)=(at':Int):=#[(D/24 % (sz:Int)).toNat,(),()]
 rw[rP];clear ha0 ha1 rP esz;refine zD λN d=>?_
 dsimp![];calc#[zH (),λpn M=>d _ _ ?_];clear d;let npn:=s1.free M;let nrn:t≠pn:=yR u M;let s2:=s1.trans<|zB M<|.lst [];let I:upd H' pn (.lst []) pn=some (.lst<|([]:List Str).map V.str):=zA;replace u:=zB M (.lst []) _ _ u;generalize upd H' pn (.lst [])=H2 at s2 u I⊢;refine zK (λσ H'=>∃(U v B:Option V),aX H H'/\H' pn=some (.lst<|((List.range m).map λn=>nmF<|wn rs sz at' n).map V.str)/\σ=[some<|V.ref a,some<|V.int k,some<|V.int m,some<|V.str "abcdefghijklmnopqrstuvwxyz",some<|V.int D,some<|V.int sp,some<|V.ref t,U,some<|V.int sz,some<|V.int at',some<|V.ref pn,v,B]) (λN d=>?_) λσ H' h=>?_
 ·dsimp![];calc#[(),(),?_];refine jO (n:=(m:Int).toNat) (λi σ H'=>∃(U v B:Option V),aX H H'/\H' t=some (.lst<|rs.map nV)/\H' pn=some (.lst<|((List.range i).map λn=>nmF<|wn rs sz at' n).map V.str)/\σ=[some<|V.ref a,some<|V.int k,some<|V.int m,some<|V.str "abcdefghijklmnopqrstuvwxyz",some<|V.int D,some<|V.int sp,some<|V.ref t,U,some<|V.int sz,some<|V.int at',some<|V.ref pn,v,B]) #[_,_,_,s2,u,I,rfl] (λi σ H' hi h=>?_) λσ H' h=>?_
  rotate_left
  ·obtain⟨U,v,B,J,_,L,rfl⟩:=h;rw[show(m:Int).toNat=m from bE _]at L;exact d _ _ #[_,_,_,J,L,rfl]
  obtain⟨U,v,B,J,kr,L,rfl⟩:=h;let e0:(0:Int)+(i:Int)=((i:Nat):Int):=by lia
  let him:i<m:=by lia
  show LQ _ _ _ _ _;refine zD λN d=>?_
  dsimp![];rw[e0];calc#[rfl,(),(),?_];refine kA (n:=(sz:Int).toNat) (λj ys σ G=>G=H'/\ys=((wn rs sz at' i).take j).map (λr=>V.str #[(List.toArray [97+r])])/\∃o,σ=[o,some<|V.str "abcdefghijklmnopqrstuvwxyz",some<|V.ref t,some<|V.int i,some<|V.int at']) #[rfl,rfl,_,rfl] (zH ()) (λj ys σ G e=>?_) (λj ys σ G C' hj e T=>?_) λys σ G e p hp=>?_
  ·rw[e.2.1,aC,bD];exact Nat.min_le_left ..
  ·obtain⟨rfl,rfl,o,rfl⟩:=e;let S:(0:Int)+(j:Int)=((j:Nat):Int):=by lia
   let hj8:j<rs.length:=by lia
   dsimp![];rw[S];calc#[_,cO.of kr,nV rs[j],zU (by rw[aF,aA hj8];rfl),?_];let e2:((rs[j]:Int)+(i:Int)*(if(j:Int)=(at':Int)then 1 else 0)) % 26=(((rs.getD j 0+(if j=at' then i else 0)) % 26:Nat):Int):=by
    rw[bC,aA hj8];show((rs[j]:Int)+(i:Int)*(if(j:Int)=(at':Int)then 1 else 0)) % 26=(((rs[j]+(if j=at' then i else 0)) % 26:Nat):Int)
    by_cases hja:j=at'
    ·rw[aT hja,aT ()];lia
    ·rw[aH hja,aH ()];lia
   refine#[rfl,.inl #[(),()],_,rfl,(),zH (),97+(rs.getD j 0+(if j=at' then i else 0)) % 26,?_,T _ _ _ #[rfl,?_,_,rfl]]
   ·rw[e2];exact QO _ ()
   ·let hjl:j<(wn rs sz at' i).length:=by rw[kK];lia
    rw[aI hjl,aQ];let e3:(wn rs sz at' i)[j]=(rs.getD j 0+(if j=at' then i else 0)) % 26:=by
     have :(wn rs sz at' i)[j]?=some ((rs.getD j 0+(if j=at' then i else 0)) % 26):=by
      unfold wn;rw[aF,lV ()];rfl
     rw[aA hjl]at this;exact cD this
    rw[e3];rfl
  obtain⟨rfl,rfl,o,rfl⟩:=e;rw[show(sz:Int).toNat=sz from bE _,aU (by rw[kK];calc aG _)];let hwl:=kK rs sz at' i;refine#[p,rfl,(wn rs sz at' i).map (λr=>(#[(List.toArray [97+r])]:Str)),cO.of (by rw[zA,dC];rfl),?_,d _ _ ?_]
  ·rw[dC];let S:((λx:Str=>x.length) ∘ λr=>(#[(List.toArray [97+r])]:Str))=λ_=>1:=rfl
   rw[S,aC];let e2:∀qs:List Nat,(qs.map λ_=>1).sum=qs.length:=λqs=>by
    induction qs with
    |nil=>rfl
    |cons q qs ih=>rw[bY,List.sum_cons,ih,bG];lia
   rw[e2,show(Str.ofString "").length=0 from rfl];lia
  clear d;rw[KD];let s4:=J.trans (zB hp<|.lst<|(wn rs sz at' i).map λr=>V.str #[(List.toArray [97+r])]);replace kr:=zB hp (.lst<|(wn rs sz at' i).map λr=>V.str #[(List.toArray [97+r])]) _ _ kr;replace L:=zB hp (.lst<|(wn rs sz at' i).map λr=>V.str #[(List.toArray [97+r])]) _ _ L;generalize upd G p (.lst<|(wn rs sz at' i).map λr=>V.str #[(List.toArray [97+r])])=H6 at s4 kr L⊢;refine zK (λσ H'=>H'=H6/\σ=[some<|V.ref a,some<|V.int k,some<|V.int m,some<|V.str "abcdefghijklmnopqrstuvwxyz",some<|V.int D,some<|V.int sp,some<|V.ref t,U,some<|V.int sz,some<|V.int at',some<|V.ref pn,some<|V.int i,some<|V.str<|nmF<|wn rs sz at' i]) (λN d=>?_) λσ H' h=>?_
  ·let hx1:(wd<|wn rs sz at' i).length+(Str.ofString "x").length<=sizeLine:=by
    rw[uS,hwl,show(Str.ofString "x").length=1 by decide+kernel];exact zH ()
   dsimp![];unfold nmF at d;calc#[rfl,?_];by_cases c1:wd (wn rs sz at' i)="none"
   ·rw[aT c1];rw[aT<|.inl c1]at d;exact#[hx1,d _ _ #[rfl,rfl]]
   rw[aH c1];calc#[rfl,?_];by_cases c2:wd (wn rs sz at' i)="all"
   ·rw[aT c2];rw[aT<|.inr c2]at d;exact#[hx1,d _ _ #[rfl,rfl]]
   rw[aH c2];rw[aH (by rintro(z |z);calc c1 z;calc c2 z)]at d;exact d _ _ #[rfl,rfl]
  obtain⟨rfl,rfl⟩:=h;dsimp![];calc#[.inl #[rfl,_,cO.of L],_,L,jD (by rw[aC,aC,bU];lia),s4.upd npn,by rw[zG nrn];exact kr,?_,_,rfl];rw[zA,dR,aQ,aQ];rfl
 obtain⟨U,v,B,J,L,rfl⟩:=h;dsimp![];exact q pn _ _ J #[L,by rw[aC,bU],rg oB g hsz.2 hat h5,λz hz=>by
  obtain⟨n,_,rfl⟩:=bH.mp hz;calc rf hsz]
abbrev s_G:Stmt:=top 68
theorem sc_G:bV ["stack","cell","names","way","pick"] ["stack","cell","names"] (zF s_G):=by rfl'
abbrev pj:Stmt:=top 69
theorem kg:bV ["script","k","many","names","stack","n"] ["script","k","many","names"] (zF pj):=by rfl'
theorem i5{k:Nat}(h1:1<=k)(h:k<=xs.length):pI xs (-(k:Int))=xs[xs.length-k]?:=by
 let e:OF xs.length (-(k:Int))=some (xs.length-k):=by
  unfold OF;rw[aH (),aT ()]
  congr 1
  lia
 unfold pI;rw[e];rfl
theorem kF(xs:List V)(k:Nat)(h1:1<=k)(h:k<=xs.length):qN xs none (some (-(k:Int)))=xs.take (xs.length-k):=by
 unfold qN;let e:HT.sIx xs.length xs.length (some (-(k:Int)))=xs.length-k:=by
  unfold HT.sIx;simp only;rw[aT ()];lia
 rw[e,HT.sIx_none,pZ,Nat.sub_zero]
theorem vS{k:Nat}(hk:k<=us.length)(hj:j<k):pI us (-((k-j:Nat):Int))=(us.drop<|us.length-k)[j]?:=by
 rw[i5 () (),List.getElem?_drop]
 congr 1
 lia
theorem last1(h:1<=us.length):∃a,us.drop (us.length-1)=[a]/\pI us (-1)=some a:=by
 let hl:(us.drop<|us.length-1).length=1:=by rw[fF];lia
 let b:=vS (k:=1) (j:=0) h ()
 match hd:us.drop (us.length-1),hl with
 |[a],_=>
  rw[hd]at b;exact#[a,rfl,b]
theorem lr(h:2<=us.length):∃a b,us.drop (us.length-2)=[a,b]/\pI us (-2)=some a/\pI us (-1)=some b:=by
 let hl:(us.drop<|us.length-2).length=2:=by rw[fF];lia
 let c:=vS (k:=2) (j:=0) h ();let d:=vS (k:=2) (j:=1) h ()
 match hd:us.drop (us.length-2),hl with
 |[a,b],_=>
  rw[hd]at c d;exact#[a,b,rfl,c,d]
theorem last3(h:3<=us.length):∃a b c,us.drop (us.length-3)=[a,b,c]/\pI us (-3)=some a/\pI us (-2)=some b/\pI us (-1)=some c:=by
 let hl:(us.drop<|us.length-3).length=3:=by rw[fF];lia
 let d:=vS (k:=3) (j:=0) h ();let e:=vS (k:=3) (j:=1) h ();let f:=vS (k:=3) (j:=2) h ()
 match hd:us.drop (us.length-3),hl with
 |[a,b,c],_=>
  rw[hd]at d e f;exact#[a,b,c,rfl,d,e,f]
theorem sF.fold{d:Nat}(h:sF zs d n ts)(k:Nat)(w:Str)(hk:k<=ts.length)(hs:Sh w k):sF zs (d+1) (n+1) (ts.take (ts.length-k)++[.node w<|ts.drop<|ts.length-k]):=by
 let hl:(ts.drop<|ts.length-k).length=k:=by rw[fF];lia
 refine#[λt ht=>?_,λt ht=>?_,?_]
 ·rcases bJ.mp ht with ht |ht
  ·exact(h.fit t<|eF ht).up
  ·rw[aP.mp ht];exact#[by rw[hl];exact hs,λu hu=>h.fit u<|pC hu]
 ·rcases bJ.mp ht with ht |ht
  ·exact h.nam t<|eF ht
  ·rw[aP.mp ht];intro x hx;rw[iY]at hx;obtain⟨u,hu,hx⟩:=pO.mp hx;exact h.nam u (pC hu) x hx
 ·let e:=yV (ts.take<|ts.length-k)<|ts.drop<|ts.length-k;rw[eN]at e;have :=h.sz;rw[yV,iW,iW,wt];lia
theorem sF.leaf{d:Nat}(h:sF zs d n ts){t:Tm}(hf:gA 0 t)(hn:∀x∈iY t,x∈zs)(hw:wt t=1):sF zs d (n+1) (ts++[t]):=by
 refine#[λu hu=>?_,λu hu=>?_,?_]
 ·rcases bJ.mp hu with hu |hu
  ·exact h.fit u hu
  ·rw[aP.mp hu];exact hf.mono<|cS _
 ·rcases bJ.mp hu with hu |hu
  ·exact h.nam u hu
  ·rw[aP.mp hu];exact hn
 ·have :=h.sz;rw[yV,iW,iW];lia
def nu:Sp:=λvs H Q _=>∃(sa na:Addr)(c:Int)(us:List V)(ts:List Tm)(m d n:Nat)(zs:List Str),vs=[.ref sa,.int c,.ref na]/\0<=c/\H sa=some (.lst us)/\dQ H ts us/\sF zs d n ts/\ts.length<=100/\b8 H na m zs/\1<=m/\m<=5/\
 ∀p oG oE d' H',aX H H'->H' p=some (.lst oG)->dQ H' oE oG->sF zs d' (n+1) oE->oE≠[]->oE.length<=ts.length+1->d'+oE.length<=d+ts.length+1->Q (.ref p) H'
inductive spTe (K:W.Frag) (vs:List V) (H:Hp) (Q:VK) (E:XK):Prop
 |mk (a na:Addr) (ns:List Int) (k m j:Nat) (zs:List Str) (_:vs=[.ref a,.int k,.int m,.ref na]) (_:cO K H a (ns.map V.int)) (_:ns.length<=63) (_:k<=50) (_:1<=m) (_:m<=20) (_:b8 H na j zs) (_:1<=j) (_:j<=5) (_:∀v t H',aX H H'->fX H' t v->gA 20 t->wt t+1<=2*m->(∀x∈iY t,x∈zs)->Q v H')
theorem MP(bi:Bi mg)(F:fT K "_law_pushed" "_law_pushed" s_G f fd):cZ P w K mg base fL 1 f fd ["stack","cell","names"] nu:=by
 refine F.okz sc_G λeO A outer s H vs Q E hr h=>?_
 obtain⟨sa,na,c,us,ts,m,d,n,zs,rfl,hc,mS,D,ok,hl,hn,hm1,hm5,q⟩:=h;let hul:=D.length;calc#[_,have nd:=sc_G.nd;zC #[]<|zC #[]<|zC (yA #[] (zI<|zR<|yZ uY (xM vM #[] jL<|jK #[])<|uX<|zE (yW<|zE yS<|zE (zP zQ #[] #[]) zJ) zJ) zL)<|zC (yA #[] (zI<|zR<|yZ uY (xM vM #[] jL<|jK #[])<|uX<|zE (yW<|zE (zP zQ #[] #[])<|zE (zP zQ #[] #[])<|zE (zP zQ #[] #[]) zJ) zJ) zL)<|zC (yA #[] (zI<|zR<|yZ uY (xM vM #[] jL<|jK #[])<|uX<|zE (yW<|zE (zP zQ #[] #[])<|zE (zP zQ #[] #[])<|zE (zP zQ #[] #[])<|zE (zP zQ #[] #[]) zJ) zJ) zL)<|zC (yA #[] (zI<|zR<|yZ uY #[]<|uX<|zE (zP zQ #[] #[]) zJ) zL)<|zI<|zR<|yZ uY #[]<|uX<|zE (yW<|zE yS<|zE (zP zQ #[] #[]) zJ) zJ,?_];refine zD λN B=>?_
 dsimp![];calc#[(),B _ _ ?_];clear B;refine zD λN B=>?_
 dsimp![];calc#[#[(),()],m,.inl #[_,cO.of hn.lst,by rw[aC,hn.len]],.inl #[(),()],(),B _ _ ?_];clear B;let oC:=dO (c/8) (b:=2*(m:Int)+2) ();let iR:=gD (c/8) (b:=2*(m:Int)+2) ();generalize c/8 % (2*(m:Int)+2)=pick at oC iR;let hw:0<=c % 8/\c % 8<8:=by lia
 generalize c % 8=way at hw;let fin:∀(k:Nat)(w:Str)(J:Hp)(i p:Addr),1<=k->k<=ts.length->Sh w k->aX H J->J i=some (.tup (.str w::us.drop (us.length-k)))->J p=some (.lst<|us.take (us.length-k)++[.ref i])->Q (.ref p) J:=λk w J i p hk1 hk hs sJ j1 j3=>by
  calc q p _ (ts.take (ts.length-k)++[.node w<|ts.drop<|ts.length-k]) (d+1) J sJ j3 ?_ (ok.fold k w hk hs) (by simp) (by rw[aK,bD,bP];lia) (by rw[aK,bD,bP];lia);rw[hul]at j1⊢;exact dQ.append (dQ.take _<|bN.same sJ D)<|dQ.one<|fX.mkNode j1<|dQ.drop _<|bN.same sJ D
 let tk:∀(k:Nat),(us.take<|us.length-k).length+1<=sizeLine:=λk=>zH (by rw[bD];lia)
 refine zK (λσ H'=>H'=H/\σ=[some<|V.ref sa,some<|V.int c,some<|V.ref na,some<|V.int way,some<|V.int pick]) (λN B=>?_) λσ H' h=>?_
 ·refine FZ λT U hT hU=>?_
  let v:U H:=hU H (by dsimp![];calc B _ _ #[rfl,rfl]);let G:1<=us.length->T H:=λh=>by
   calc hT H ?_;obtain⟨a,hd,ha⟩:=last1 h;dsimp![];let ci:qN us none (some (-1))=us.take (us.length-1):=kF us 1 () h;calc#[_,cO.of mS,λi iR=>?_];rw[ci];let s1:=zB iR<|.lst<|us.take<|us.length-1;let g:upd H i (.lst<|us.take<|us.length-1) i=some (.lst<|us.take<|us.length-1):=zA;generalize upd H i (.lst<|us.take<|us.length-1)=H1 at s1 g⊢;calc#[_,cO.of<|s1 _ _ mS,a,ha,zH (),λp2 iP=>?_];let s2:=zB iP<|.tup [V.str "not",a];let o:upd H1 p2 (.tup [V.str "not",a]) p2=some (.tup (V.str "not"::us.drop (us.length-1))):=by rw[zA,hd]
   replace g:=s2 _ _ g;generalize upd H1 p2 (.tup [V.str "not",a])=H2 at s2 g o⊢;calc#[zH (),λp y=>?_];let r:=zB y<|.lst [V.ref p2];let I:upd H2 p (.lst [V.ref p2]) p=some (.lst [V.ref p2]):=zA;replace g:=r _ _ g;replace o:=r _ _ o;generalize upd H2 p (.lst [V.ref p2])=H3 at r g o I⊢;calc#[_,g,_,I,tk 1,λC u=>?_];let z:=zB u<|.lst<|us.take (us.length-1)++[V.ref p2];exact fin 1 "not" _ p2 C () () (.inr<|.inr<|.inl #[rfl,rfl]) (((s1.trans s2).trans r).trans z) (z _ _ o) zA
  dsimp![];let both:∃x,NU K (V.ref sa) H x/\if(0:Int)<(x:Int)then T H else U H:=by
   calc#[us.length,.inl #[_,cO.of mS,rfl],?_];split
   ·exact G ()
   ·exact v
  calc#[rfl,?_];split
  ·exact both
  ·calc#[rfl,?_];split
   ·exact both
   ·exact v
 obtain⟨rfl,rfl⟩:=h;refine zK (λσ l=>l=H'/\σ=[some<|V.ref sa,some<|V.int c,some<|V.ref na,some<|V.int way,some<|V.int pick]) (λN B=>?_) λσ l h=>?_
 ·refine FZ λT U hT hU=>?_
  let v:U H':=hU H' (by dsimp![];calc B _ _ #[rfl,rfl]);let G:2<=us.length->0<=way-5/\way-5<2->T H':=λh L=>by
   calc hT H' ?_;obtain⟨a,b,hd,ha,hb⟩:=lr h;obtain⟨wd,S,M⟩:=QD _ L;dsimp![];let ci:qN us none (some (-2))=us.take (us.length-2):=kF us 2 () h;calc#[_,cO.of mS,λi iR=>?_];rw[ci];let s1:=zB iR<|.lst<|us.take<|us.length-2;let g:upd H' i (.lst<|us.take<|us.length-2) i=some (.lst<|us.take<|us.length-2):=zA;generalize upd H' i (.lst<|us.take<|us.length-2)=H1 at s1 g⊢;calc#[zH (),λW oC=>?_];let X:=zB oC<|.lst [V.str "both",V.str "either"];let k0:upd H1 W (.lst [V.str "both",V.str "either"]) W=some (.lst [V.str "both",V.str "either"]):=zA;replace g:=X _ _ g;replace s1:=s1.trans X;generalize upd H1 W (.lst [V.str "both",V.str "either"])=H0 at X k0 g s1⊢;calc#[_,cO.of k0,_,M,_,cO.of<|s1 _ _ mS,a,ha,_,cO.of<|s1 _ _ mS,b,hb,zH (),λp2 iP=>?_];let s2:=zB iP<|.tup [V.str wd,a,b];let o:upd H0 p2 (.tup [V.str wd,a,b]) p2=some (.tup (V.str wd::us.drop (us.length-2))):=by rw[zA,hd]
   replace g:=s2 _ _ g;generalize upd H0 p2 (.tup [V.str wd,a,b])=H2 at s2 g o⊢;calc#[zH (),λp y=>?_];let r:=zB y<|.lst [V.ref p2];let I:upd H2 p (.lst [V.ref p2]) p=some (.lst [V.ref p2]):=zA;replace g:=r _ _ g;replace o:=r _ _ o;generalize upd H2 p (.lst [V.ref p2])=H3 at r g o I⊢;calc#[_,g,_,I,tk 2,λC u=>?_];let z:=zB u<|.lst<|us.take (us.length-2)++[V.ref p2];exact fin 2 wd _ p2 C () () (EL S ()) (((s1.trans s2).trans r).trans z) (z _ _ o) zA
  dsimp![];let both:0<=way-5/\way-5<2->∃x,NU K (V.ref sa) H' x/\if(1:Int)<(x:Int)then T H' else U H':=λL=>by
   calc#[us.length,.inl #[_,cO.of mS,rfl],?_];split
   ·exact G () L
   ·exact v
  calc#[rfl,?_];split
  ·exact both ()
  ·calc#[rfl,?_];split
   ·exact both ()
   ·exact v
 obtain⟨rfl,rfl⟩:=h;refine zK (λσ H'=>H'=l/\σ=[some<|V.ref sa,some<|V.int c,some<|V.ref na,some<|V.int way,some<|V.int pick]) (λN B=>?_) λσ H' h=>?_
 ·refine FZ λT U hT hU=>?_
  let v:U l:=hU l (by dsimp![];calc B _ _ #[rfl,rfl]);let G:3<=us.length->T l:=λh=>by
   calc hT l ?_;obtain⟨a,b,e,hd,ha,hb,he⟩:=last3 h;obtain⟨wd,S,M⟩:=QD (pick % 2) ();dsimp![];let ci:qN us none (some (-3))=us.take (us.length-3):=kF us 3 () h;calc#[_,cO.of mS,λi iR=>?_];rw[ci];let s1:=zB iR<|.lst<|us.take<|us.length-3;let g:upd l i (.lst<|us.take<|us.length-3) i=some (.lst<|us.take<|us.length-3):=zA;generalize upd l i (.lst<|us.take<|us.length-3)=H1 at s1 g⊢;calc#[zH (),λW oC=>?_];let X:=zB oC<|.lst [V.str "both",V.str "either"];let k0:upd H1 W (.lst [V.str "both",V.str "either"]) W=some (.lst [V.str "both",V.str "either"]):=zA;replace g:=X _ _ g;replace s1:=s1.trans X;generalize upd H1 W (.lst [V.str "both",V.str "either"])=H0 at X k0 g s1⊢;calc#[(),_,cO.of k0,_,M,_,cO.of<|s1 _ _ mS,a,ha,_,cO.of<|s1 _ _ mS,b,hb,_,cO.of<|s1 _ _ mS,e,he,zH (),λp2 iP=>?_];let s2:=zB iP<|.tup [V.str wd,a,b,e];let o:upd H0 p2 (.tup [V.str wd,a,b,e]) p2=some (.tup (V.str wd::us.drop (us.length-3))):=by rw[zA,hd]
   replace g:=s2 _ _ g;generalize upd H0 p2 (.tup [V.str wd,a,b,e])=H2 at s2 g o⊢;calc#[zH (),λp y=>?_];let r:=zB y<|.lst [V.ref p2];let I:upd H2 p (.lst [V.ref p2]) p=some (.lst [V.ref p2]):=zA;replace g:=r _ _ g;replace o:=r _ _ o;generalize upd H2 p (.lst [V.ref p2])=H3 at r g o I⊢;calc#[_,g,_,I,tk 3,λC u=>?_];let z:=zB u<|.lst<|us.take (us.length-3)++[V.ref p2];exact fin 3 wd _ p2 C () () (EL S ()) (((s1.trans s2).trans r).trans z) (z _ _ o) zA
  dsimp![];calc#[rfl,?_];split
  ·calc#[us.length,.inl #[_,cO.of mS,rfl],?_];split
   ·exact G ()
   ·exact v
  ·exact v
 obtain⟨rfl,rfl⟩:=h;refine zK (λσ l=>l=H'/\pick<2*(m:Int)/\σ=[some<|V.ref sa,some<|V.int c,some<|V.ref na,some<|V.int way,some<|V.int pick]) (λN B=>?_) λσ l h=>?_
 ·dsimp![];let lm:∀{J:Hp},aX H' J->NU K (V.ref na) J m:=λsJ=>.inl #[_,cO.of<|sJ _ _ hn.lst,by rw[aC,hn.len]]
  calc#[m,lm<|aX.refl _,.inl #[(),()],?_];by_cases hpm:2*(m:Int)<=pick
  case neg=>
   rw[aH hpm];exact B _ _ #[rfl,(),rfl]
  rw[aT hpm];calc#[zH (),λi iR=>?_];let s1:=zB iR<|.tup [V.str "none"];let g:upd H' i (.tup [V.str "none"]) i=some (.tup [V.str "none"]):=zA;generalize upd H' i (.tup [V.str "none"])=H1 at s1 g⊢;calc#[zH (),λp2 iP=>?_];let s2:=zB iP<|.tup [V.str "all"];let o:upd H1 p2 (.tup [V.str "all"]) p2=some (.tup [V.str "all"]):=zA;replace g:=s2 _ _ g;replace s1:=s1.trans s2;generalize upd H1 p2 (.tup [V.str "all"])=H2 at s1 g o⊢;clear s2;calc#[zH (),λp y=>?_];let r:=zB y<|.lst [V.ref i,V.ref p2];let I:upd H2 p (.lst [V.ref i,V.ref p2]) p=some (.lst [V.ref i,V.ref p2]):=zA;replace g:=r _ _ g;replace o:=r _ _ o;replace s1:=s1.trans r;generalize upd H2 p (.lst [V.ref i,V.ref p2])=H3 at s1 g o I⊢;clear r;obtain⟨w,O,R,hw0,M⟩:∃(w:Str)(O:Addr),H3 O=some (.tup [V.str w])/\Sh w 0/\pI [V.ref i,V.ref p2] (pick-2*(m:Int))=some (.ref O):=by
   have :pick-2*(m:Int)=0\/pick-2*(m:Int)=1:=by lia
   rcases this with e |e
   ·rw[e];exact#["none",i,g,.inl #[rfl,rfl],rfl]
   ·rw[e];exact#["all",p2,o,.inr<|.inl #[rfl,rfl],rfl]
  calc#[m,lm s1,.inl #[(),()],_,cO.of I,_,M,zH (),λC u=>?_];let z:=zB u<|.lst [V.ref O];let k4:upd H3 C (.lst [V.ref O]) C=some (.lst [V.ref O]):=zA;replace R:=z _ _ R;replace s1:=s1.trans z;generalize upd H3 C (.lst [V.ref O])=H4 at s1 R k4⊢;calc#[_,s1 _ _ mS,_,k4,zH (by simp;lia),λp5 Y=>?_];let Z:=zB Y<|.lst<|us++[V.ref O];refine q p5 (us++[V.ref O]) (ts++[.node w []]) d _ (s1.trans Z) zA (dQ.append (bN.same (s1.trans Z) D)<|dQ.one<|fX.mkNode (ts:=[]) (vs:=[]) (Z _ _ R) rfl) (ok.leaf (t:=.node w []) #[hw0,rfl] (λx hx=>by rw[iY,yQ]at hx;cases hx) (by rw[wt,iW])) (by simp) (by simp) (by simp;lia)
 obtain⟨rfl,hpk,rfl⟩:=h;dsimp![];obtain⟨j,hj,hjl⟩:∃j:Nat,pick % (m:Int)=(j:Int)/\j<m:=by
  let a1:=dO pick (b:=(m:Int)) ();let a2:=gD pick (b:=(m:Int)) ();exact#[(pick % (m:Int)).toNat,(),()]
 let hjz:j<zs.length:=by rw[hn.len];exact hjl
 calc#[m,.inl #[_,cO.of hn.lst,by rw[aC,hn.len]],(),_,cO.of hn.lst,.str zs[j],by rw[hj];exact zU (by rw[aF,aA hjz];rfl),zH (),λi iR=>?_];let s1:=zB iR<|.tup [V.str "name",V.str zs[j]];let g:upd l i (.tup [V.str "name",V.str zs[j]]) i=some (.tup [V.str "name",V.str zs[j]]):=zA;generalize upd l i (.tup [V.str "name",V.str zs[j]])=H1 at s1 g⊢;calc#[zH (),λC u=>?_];let z:=zB u<|.lst [V.ref i];let k4:upd H1 C (.lst [V.ref i]) C=some (.lst [V.ref i]):=zA;replace g:=z _ _ g;replace s1:=s1.trans z;generalize upd H1 C (.lst [V.ref i])=H4 at s1 g k4⊢;calc#[_,s1 _ _ mS,_,k4,zH (by simp;lia),λp5 Y=>?_];let Z:=zB Y<|.lst<|us++[V.ref i];refine q p5 (us++[V.ref i]) (ts++[.name zs[j]]) d _ (s1.trans Z) zA (dQ.append (bN.same (s1.trans Z) D)<|dQ.one<|fX.mkName<|Z _ _ g) (ok.leaf (t:=.name zs[j]) (hn.nm _<|bT hjz) (λx hx=>by rw[iY,aP]at hx;rw[hx];calc bT hjz) (by rw[wt])) (by simp) (by simp) (by simp;lia)
theorem fh(bi:Bi mg)(h_K:fI P w K mg base 1 "_law_draw" ["script","k"] (AH K))(h_G:fI P w K mg base 1 "_law_pushed" ["stack","cell","names"] nu)(F:fT K "_law_term" "_law_term" pj f fd):cZ P w K mg base fL 2 f fd ["script","k","many","names"] (spTe K):=by
 refine F.okz kg λeO A outer s H vs Q E hr h=>?_
 obtain⟨a,na,ns,k,m,j,zs,rfl,hS,hl,hk,h1,h5,hn,R,S,q⟩:=h;calc#[_,have nd:=kg.nd;zC #[]<|zC #[]<|zC (YZ bR #[]<|zI<|xI 4 nd<|yZ uY (xM vM #[] jL<|jK #[])<|uX<|zE (yW<|zE yS<|zE (zP zQ #[] #[])<|zE (zP zQ #[] #[]) zJ) zJ)<|zI<|zR<|zP zQ #[] zS,?_];refine zD λN D=>?_
 dsimp![];calc#[zH (),λL oC=>D _ _ ?_];clear D;let s0:=zB oC<|.lst [];let k0:upd H L (.lst []) L=some (.lst []):=zA;generalize upd H L (.lst [])=H0 at s0 k0⊢;refine zK (λσ H'=>∃(p:Addr)(us:List V)(ts:List Tm)(d:Nat)(o:Option V),aX H H'/\H' p=some (.lst us)/\dQ H' ts us/\sF zs d m ts/\ts≠[]/\d+ts.length<=m/\σ=[some<|V.ref a,some<|V.int k,some<|V.int m,some<|V.ref na,some<|V.ref p,o]) (λN D=>?_) λσ H' h=>?_
 ·dsimp![];calc#[(),(),(),(),?_];refine jO (n:=((k:Int)+(m:Int)-(k:Int)).toNat) (λi σ H'=>∃(p:Addr)(us:List V)(ts:List Tm)(d:Nat)(o:Option V),aX H H'/\H' p=some (.lst us)/\dQ H' ts us/\sF zs d i ts/\(0<i->ts≠[])/\d+ts.length<=i/\σ=[some<|V.ref a,some<|V.int k,some<|V.int m,some<|V.ref na,some<|V.ref p,o]) #[L,[],[],0,_,s0,k0,rfl,#[(λt ht=>by cases ht),(λt ht=>by cases ht),aG _],λz=>absurd z<|dP _,aG _,rfl] (λi σ H' hi h=>?_) λσ H' h=>?_
  ·obtain⟨p,us,ts,I,o,s1,g,b,ok,mX,l,rfl⟩:=h;let e0:(k:Int)+(i:Int)=((k+i:Nat):Int):=by lia
   dsimp![AH,nu];rw[e0];calc#[ns,k+i,rfl,aX.seq s1 hS,hl,(),λz hz=>?_];calc#[hz,us,g,ts,b,j,I,i,zs,ok,(),hn.same s1,R,S,λG oG oE d' H2 s2 c u ok2 J hl2 hd2=>?_];exact#[s1.trans s2,G,oG,c,oE,u,d',ok2,λ_=>J,(),rfl,_,rfl]
  ·obtain⟨p,us,ts,I,o,s1,g,b,ok,mX,l,rfl⟩:=h;let em:((k:Int)+(m:Int)-(k:Int)).toNat=m:=by lia
   rw[em]at ok mX l;exact D _ _ #[p,us,ts,I,_,s1,g,b,ok,mX (),l,rfl]
 obtain⟨p,us,ts,I,o,s1,g,b,ok,mX,l,rfl⟩:=h;refine zK (λσ H'=>∃(p:Addr)(v:V)(t:Tm)(o:Option V),aX H H'/\H' p=some (.lst [v])/\fX H' t v/\gA 20 t/\wt t+1<=2*m/\(∀x∈iY t,x∈zs)/\σ=[some<|V.ref a,some<|V.int k,some<|V.int m,some<|V.ref na,some<|V.ref p,o]) (λN D=>?_) λσ H' h=>?_
 ·dsimp![UG];calc#[λmm σ H'=>∃(p:Addr)(us:List V)(ts:List Tm)(o:Option V)(d n:Nat),mm=ts.length/\aX H H'/\H' p=some (.lst us)/\dQ H' ts us/\sF zs d n ts/\ts≠[]/\d+ts.length<=m/\n+ts.length<=2*m/\σ=[some<|V.ref a,some<|V.int k,some<|V.int m,some<|V.ref na,some<|V.ref p,o],#[_,p,us,ts,_,I,m,rfl,s1,g,b,ok,mX,(),(),rfl],λmm σ H' h=>?_];clear s1 g b ok mX l;obtain⟨p,us,ts,o,d,n,rfl,s1,g,b,ok,mX,hd,hn',rfl⟩:=h;let T:=b.length;dsimp![];calc#[us.length,.inl #[_,cO.of g,rfl],?_];by_cases h2:(1:Int)<(us.length:Int)
  case neg=>
   rw[aH h2];let U:ts.length=1:=by
    have :ts.length≠0:=λz=>mX (List.eq_nil_of_length_eq_zero z)
    lia
   obtain⟨t,rfl⟩:∃t,ts=[t]:=by
    match ts,U with
    |[t],_=>exact#[t,rfl]
   obtain⟨v,r,e1,e2,W⟩:=b;let W:r=[]:=W;subst W;subst e1;let X:=ok.sz;rw[iW,iW]at X;exact D _ _ #[p,v,t,_,s1,g,e2,(ok.fit t (by simp)).mono (),(),ok.nam t (by simp),rfl]
  rw[aT h2];obtain⟨x,y,Y,hx,hy⟩:=lr (us:=us) ();let ci:qN us none (some (-2))=us.take (us.length-2):=kF us 2 () ();refine#[λσ' B=>∃(G:Addr)(oG:List V),aX H B/\B G=some (.lst oG)/\dQ B (ts.take (ts.length-2)++[.node "both"<|ts.drop<|ts.length-2]) oG/\σ'=[some<|V.ref a,some<|V.int k,some<|V.int m,some<|V.ref na,some<|V.ref G,o],λσ' B h=>?_,?_]
  ·obtain⟨G,oG,s2,c,u,rfl⟩:=h;let e:(ts.take (ts.length-2)++[Tm.node "both"<|ts.drop<|ts.length-2]).length=ts.length-1:=by rw[aK,bD,bP];lia
   exact#[(ts.take (ts.length-2)++[Tm.node "both"<|ts.drop<|ts.length-2]).length,by rw[e];lia,G,oG,ts.take (ts.length-2)++[Tm.node "both"<|ts.drop<|ts.length-2],rfl,s2,c,u,_,d+1,n+1,ok.fold 2 "both" ()<|EL (.inl rfl) (),by simp,by rw[e];lia,by rw[e];lia,rfl]
  calc#[_,cO.of g,λZ iR=>?_];rw[ci];let s2:=zB iR<|.lst<|us.take<|us.length-2;let c:upd H' Z (.lst<|us.take<|us.length-2) Z=some (.lst<|us.take<|us.length-2):=zA;generalize upd H' Z (.lst<|us.take<|us.length-2)=H1 at s2 c⊢;calc#[_,cO.of<|s2 _ _ g,x,hx,_,cO.of<|s2 _ _ g,y,hy,zH (),λp2 iP=>?_];let s3:=zB iP<|.tup [V.str "both",x,y];let C:upd H1 p2 (.tup [V.str "both",x,y]) p2=some (.tup (V.str "both"::us.drop (us.length-2))):=by rw[zA,Y]
  replace c:=s3 _ _ c;generalize upd H1 p2 (.tup [V.str "both",x,y])=H2 at s3 c C⊢;calc#[zH (),λp3 hp3=>?_];let M:=zB hp3<|.lst [V.ref p2];let k4:upd H2 p3 (.lst [V.ref p2]) p3=some (.lst [V.ref p2]):=zA;replace c:=M _ _ c;replace C:=M _ _ C;generalize upd H2 p3 (.lst [V.ref p2])=H3 at M c C k4⊢;calc#[_,c,_,k4,zH (by rw[bD];simp;lia),λO hp4=>?_];let s5:=zB hp4<|.lst<|us.take (us.length-2)++[V.ref p2];let sA:=((s2.trans s3).trans M).trans s5;replace C:=s5 _ _ C;let k5:upd H3 O (.lst<|us.take (us.length-2)++[V.ref p2]) O=some (.lst<|us.take (us.length-2)++[V.ref p2]):=zA;generalize upd H3 O (.lst<|us.take (us.length-2)++[V.ref p2])=H4 at sA C k5⊢;calc#[O,_,s1.trans sA,k5,?_,rfl];rw[T]at C⊢;exact dQ.append (dQ.take _<|bN.same sA b)<|dQ.one<|fX.mkNode C<|dQ.drop _<|bN.same sA b
 obtain⟨p,v,t,o,s2,c,htv,hf,X,iZ,rfl⟩:=h;dsimp![];exact#[_,cO.of c,v,gR,q v t _ s2 htv hf X iZ]
abbrev s_P:Stmt:=top 83
theorem sc_P:bV ["pick","names","one","way","other"] ["pick","names"] (zF s_P):=by rfl'
abbrev s_g:Stmt:=top 84
theorem sc_g:bV ["pick","names","room"] ["pick","names"] (zF s_g):=by rfl'
inductive spSl (vs:List V) (H:Hp) (Q:VK) (E:XK):Prop
 |mk (c:Int) (na:Addr) (j:Nat) (zs:List Str) (_:vs=[.int c,.ref na]) (_:0<=c) (_:b8 H na j zs) (_:1<=j) (_:j<=5) (_:∀v t H',aX H H'->fX H' t v->gA 20 t->wt t<=4->(∀x∈iY t,x∈zs)->Q v H')
def Gs(zs:List Str)(p:Tm×Tm):Prop:=(gA 20 p.1/\wt p.1<=4)/\(gA 20 p.2/\wt p.2<=4)/\∀x∈iY p.1++iY p.2,x∈zs
inductive spSs (vs:List V) (H:Hp) (Q:VK) (E:XK):Prop
 |mk (c:Int) (na:Addr) (j:Nat) (zs:List Str) (_:vs=[.int c,.ref na]) (_:0<=c) (_:b8 H na j zs) (_:1<=j) (_:j<=5) (_:∀v s H',aX H H'->rK H' s v->Gs zs s->Q v H')
theorem SO(bi:Bi mg)(F:fT K "_law_small" "_law_small" s_P f fd):cZ P w K mg base fL 1 f fd ["pick","names"] spSl:=by
 refine F.okz sc_P λeO A outer s H vs Q E hr h=>?_
 obtain⟨c,na,j,zs,rfl,hc,iZ,Z,hj5,q⟩:=h;calc#[_,have nd:=sc_P.nd;zC (xI 2 nd<|yW<|zE yS<|zE (zP zQ #[] #[]) zJ)<|zC #[]<|zC (xI 4 nd<|yW<|zE yS<|zE (zP zQ #[] #[]) zJ) #[],?_];let hjz:=iZ.len;let O:∀c:Int,∃n,c % (zs.length:Int)=(n:Nat)/\∃h:n<zs.length,pI (zs.map V.str) ((n:Nat):Int)=some (V.str zs[n]):=λc=>by
  let h1:=dO c (b:=(zs.length:Int)) ();let h2:=gD c (b:=(zs.length:Int)) ();let R:(c % (zs.length:Int)).toNat<zs.length:=by lia
  exact#[(c % (zs.length:Int)).toNat,(),R,zU (by rw[aF,aA R];rfl)]
 refine zD λN a=>?_
 dsimp![];obtain⟨g,e1,D,G⟩:=O c;calc#[zs.length,.inl #[_,cO.of iZ.lst,(aC _).symm],(),_,cO.of iZ.lst,V.str zs[g],by rw[e1];exact G,zH (),λi iR=>a _ _ ?_];clear a;let s1:=zB iR<|.tup [V.str "name",V.str zs[g]];let d:fX (upd H i<|.tup [V.str "name",V.str zs[g]]) (.name zs[g]) (.ref i):=fX.mkName zA;generalize upd H i (.tup [V.str "name",V.str zs[g]])=H1 at s1 d⊢;let k:zs[g]∈zs:=bT D;let r:=iZ.nm _ k;generalize zs[g]=o at d k r;refine zD λN a=>?_
 dsimp![];calc#[zs.length,.inl #[_,cO.of<|s1 _ _ iZ.lst,(aC _).symm],?_];calc#[#[(),()],(),a _ _ ?_];clear a;generalize c/(zs.length:Int) % 7=way;obtain⟨l,e2,I,L⟩:=O<|c/(zs.length:Int)/7;refine zD λN a=>?_
 dsimp![];calc#[zs.length,.inl #[_,cO.of<|s1 _ _ iZ.lst,(aC _).symm],#[(),()],#[(),()],zs.length,.inl #[_,cO.of<|s1 _ _ iZ.lst,(aC _).symm],(),_,cO.of<|s1 _ _ iZ.lst,V.str zs[l],by rw[e2];exact L,zH (),λp2 iP=>a _ _ ?_];clear a;let s2:=zB iP<|.tup [V.str "name",V.str zs[l]];let z:fX (upd H1 p2<|.tup [V.str "name",V.str zs[l]]) (.name zs[l]) (.ref p2):=fX.mkName zA;replace d:=fX.tups s2.tups d;replace s2:=s1.trans s2;generalize upd H1 p2 (.tup [V.str "name",V.str zs[l]])=H2 at s2 z d⊢;let m:zs[l]∈zs:=bT I;let u:=iZ.nm _ m;generalize zs[l]=B at z m u;let C:gA 0 (.name o):=r;let S:gA 0 (.name B):=u;let done:∀{J:Hp}{v:V}{t:Tm},aX H2 J->fX J t v->gA 2 t->wt t<=4->(∀x∈iY t,x=o\/x=B)->Q v J:=λsJ ht hf hw hn=>q _ _ _ (s2.trans sJ) ht (hf.mono ()) hw λx hx=>(hn x hx).elim (λe=>e▸k) λe=>e▸m
 refine zD λN a=>?_
 dsimp![];calc#[rfl,?_];by_cases T:way=2
 ·rw[aT T];refine#[zH (),λp hp=>done (zB hp _) (fX.mkNode (w:="not") (ts:=[.name o]) (vs:=[.ref i]) zA<|dQ.one<|fX.tups (zB hp _).tups d) ?_ ?_ ?_]
  ·exact#[.inr<|.inr<|.inl #[rfl,rfl],λt ht=>by rw[aP.mp ht];calc C.mono ()]
  ·simp[wt,iW]
  ·intro x hx;simp[iY,yQ]at hx;exact .inl hx
 rw[aH T];calc a _ _ ?_;clear a;refine zD λN a=>?_
 dsimp![];calc#[rfl,?_];by_cases U:way=3
 ·rw[aT U];refine#[zH (),λp hp=>done (zB hp _) (fX.mkNode (w:="none") (ts:=[]) (vs:=[]) zA rfl) ?_ ?_ ?_]
  ·exact#[.inl #[rfl,rfl],λt ht=>by cases ht]
  ·simp[wt,iW]
  ·intro x hx;simp[iY,yQ]at hx
 rw[aH U];calc a _ _ ?_;clear a;refine zD λN a=>?_
 dsimp![];calc#[rfl,?_];by_cases W:way=4
 ·rw[aT W];refine#[zH (),λp hp=>done (zB hp _) (fX.mkNode (w:="both") (ts:=[.name o,.name B]) (vs:=[.ref i,.ref p2]) zA<|dQ.append (dQ.one<|fX.tups (zB hp _).tups d)<|dQ.one<|fX.tups (zB hp _).tups z) ?_ ?_ ?_]
  ·calc#[.inr (.inr<|.inr<|.inl #[rfl,by simp]),λt ht=>?_];simp only[bI,dA,or_false]at ht;rcases ht with rfl |rfl
   ·exact C.mono ()
   ·exact S.mono ()
  ·simp[wt,iW]
  ·intro x hx;simp[iY,yQ]at hx;exact hx
 rw[aH W];calc a _ _ ?_;clear a;refine zD λN a=>?_
 dsimp![];calc#[rfl,?_];by_cases X:way=5
 ·rw[aT X];calc#[zH (),λp hp=>#[zH (),λp' y=>?_]];let M:=(zB hp<|.tup [V.str "not",V.ref i]).trans (zB y<|.tup [V.str "either",V.ref p2,V.ref p]);refine done M (fX.mkNode (w:="either") (ts:=[.name B,.node "not" [.name o]]) (vs:=[.ref p2,.ref p]) zA<|dQ.append (dQ.one<|fX.tups M.tups z)<|dQ.one<|fX.mkNode (w:="not") (ts:=[.name o]) (vs:=[.ref i]) (zB y _ _ _ zA)<|dQ.one<|fX.tups M.tups d) ?_ ?_ ?_
  ·calc#[.inr (.inr<|.inr<|.inr #[rfl,by simp]),λt ht=>?_];simp only[bI,dA,or_false]at ht;rcases ht with rfl |rfl
   ·exact S.mono ()
   ·exact#[.inr<|.inr<|.inl #[rfl,rfl],λt ht=>by rw[aP.mp ht];calc C]
  ·simp[wt,iW]
  ·intro x hx;simp[iY,yQ]at hx;exact hx.symm
 rw[aH X];calc a _ _ ?_;clear a;refine zD λN a=>?_
 dsimp![];calc#[rfl,?_];by_cases Y:way=6
 ·rw[aT Y];refine#[zH (),λp hp=>done (zB hp _) (fX.mkNode (w:="all") (ts:=[]) (vs:=[]) zA rfl) ?_ ?_ ?_]
  ·exact#[.inr<|.inl #[rfl,rfl],λt ht=>by cases ht]
  ·simp[wt,iW]
  ·intro x hx;simp[iY,yQ]at hx
 rw[aH Y];calc a _ _ ?_;clear a;dsimp![];refine done (aX.refl _) d (C.mono ()) (by rw[wt];lia) λx hx=>?_
 rw[iY,aP]at hx;exact .inl hx
theorem ZP(bi:Bi mg)(h_P:fI P w K mg base 1 "_law_small" ["pick","names"] spSl)(F:fT K "_law_small_saying" "_law_small_saying" s_g f fd):cZ P w K mg base fL 2 f fd ["pick","names"] spSs:=by
 refine F.okz sc_g λeO A outer s H vs Q E hr h=>?_
 obtain⟨c,na,j,zs,rfl,hc,iZ,a,b,q⟩:=h;calc#[_,have nd:=sc_g.nd;#[],?_];let e:=iZ.len;refine zD λN i=>?_
 dsimp![];calc#[zs.length,.inl #[_,cO.of iZ.lst,(aC _).symm],.inl #[(),()],zs.length,.inl #[_,cO.of iZ.lst,(aC _).symm],.inr #[(),()],i _ _ ?_];clear i;let d:0<7*(zs.length:Int)*(zs.length:Int)/\7*(zs.length:Int)*(zs.length:Int)<1000:=by
  rw[e]
  match j,a,b with
  |1,_,_=>decide
  |2,_,_=>decide
  |3,_,_=>decide
  |4,_,_=>decide
  |5,_,_=>decide
 generalize 7*(zs.length:Int)*(zs.length:Int)=room at d⊢;dsimp![];calc#[(),_,na,j,zs,rfl,dO _ (),iZ,a,b,λk l H1 s1 h1 m n o=>?_];calc#[#[(),()],_,na,j,zs,rfl,bw hc (),iZ.same s1,a,b,λr t H2 s2 h2 u v y=>#[zH (),λp hp=>?_]];let g:=zB hp<|.tup [k,r];exact q (.ref p) (l,t) _ ((s1.trans s2).trans g) #[p,_,rfl,zA,_,_,rfl,fX.tups (s2.trans g).tups h1,_,_,rfl,fX.tups g.tups h2,rfl] #[#[m,n],#[u,v],λx hx=>(bJ.mp hx).elim (o x) (y x)]
abbrev s_m:Stmt:=top 85
theorem sc_m:bV ["cell","names","rest","room","one","premises","k"] ["cell","names"] (zF s_m):=by rfl'
theorem rK.tups(e:cV H H'){p:Tm×Tm}(h:rK H p v):rK H' p v:=by
 obtain⟨a,b,c,rfl,ha,h1,h2⟩:=rK.out h;exact#[a,_,rfl,e _ _ ha,_,_,rfl,fX.tups e h1,_,_,rfl,fX.tups e h2,rfl]
theorem mT.tups{H H':Hp}(e:cV H H'):∀{ps:List (Tm×Tm)}{vs:List V},mT H ps vs->mT H' ps vs
 |[],vs,h=>h
 |p::ps,vs,h=>by
  obtain⟨v,r,rfl,h1,h2⟩:=h;exact#[v,r,rfl,rK.tups e h1,mT.tups e h2]
def Gr(zs:List Str)(r:pJ):Prop:=r.1.length<=5/\(∀p∈r.1,Gs zs p)/\Gs zs r.2
def RuF(H H':Hp)(r:pJ)(v:V):Prop:=∃(ra la:Addr)(sv:V)(vs:List V),v=.ref ra/\H' ra=some (.tup [.ref la,sv])/\H la=none/\H' la=some (.lst vs)/\mT H' r.1 vs/\rK H' r.2 sv
inductive spSr (vs:List V) (H:Hp) (Q:VK) (E:XK):Prop
 |mk (c:Int) (na:Addr) (j:Nat) (zs:List Str) (_:vs=[.int c,.ref na]) (_:b8 H na j zs) (_:1<=j) (_:j<=5) (_:∀v r H',aX H H'->RuF H H' r v->Gr zs r->Q v H')
theorem JP(bi:Bi mg)(h_g:fI P w K mg base 2 "_law_small_saying" ["pick","names"] spSs)(F:fT K "_law_small_rule" "_law_small_rule" s_m f fd):cZ P w K mg base fL 3 f fd ["cell","names"] spSr:=by
 refine F.okz sc_m λeO A outer s H vs Q E hr h=>?_
 obtain⟨c,na,j,zs,rfl,iZ,l,m,q⟩:=h;calc#[_,have nd:=sc_m.nd;#[],?_];let y:=iZ.len;refine zD λN d=>?_
 dsimp![];calc#[.inr #[(),()],#[(),(),()],(),d _ _ ?_];clear d;let u:0<=c*982451653 % 2^Int.toNat 61:=dO _ ();generalize c*982451653 % 2^Int.toNat 61=nU at u⊢;refine zD λN d=>?_
 dsimp![];calc#[zs.length,.inl #[_,cO.of iZ.lst,(aC _).symm],#[(),(),()],.inl #[(),()],d _ _ ?_];clear d;let o:0<49*(zs.length:Int)^Int.toNat 4/\49*(zs.length:Int)^Int.toNat 4<100000:=by
  rw[y]
  match j,l,m with
  |1,_,_=>decide
  |2,_,_=>decide
  |3,_,_=>decide
  |4,_,_=>decide
  |5,_,_=>decide
 generalize 49*(zs.length:Int)^Int.toNat 4=room at o⊢;refine zD λN d=>?_
 dsimp![];calc#[(),_,na,j,zs,rfl,dO _ (),iZ,l,m,λx s1 H1 B h1 O=>d _ _ ?_];clear d;refine zD λN d=>?_
 dsimp![];calc#[#[(),()],d _ _ ?_];clear d;let mM:0<=nU/room:=bw u ();generalize nU/room=I at mM⊢;refine zD λN d=>?_
 dsimp![];calc#[zH (),λpa nX=>d _ _ ?_];clear d;refine zK (λσ H'=>∃(us:List V)(a:List (Tm×Tm))(J t:Option V),aX H1 H'/\H' pa=some (.lst us)/\mT H' a us/\a.length<=5/\(∀p∈a,Gs zs p)/\σ=[some<|V.int c,some<|V.ref na,J,some<|V.int room,some x,some<|V.ref pa,t]) (λN d=>?_) λσ H' h=>?_
 ·dsimp![];calc#[(),(),(),?_];refine jO (n:=(I % 3).toNat) (λi σ H'=>∃(us:List V)(a:List (Tm×Tm))(r:Int)(t:Option V),0<=r/\aX H1 H'/\H' pa=some (.lst us)/\mT H' a us/\a.length=i/\(∀p∈a,Gs zs p)/\σ=[some<|V.int c,some<|V.ref na,some<|V.int r,some<|V.int room,some x,some<|V.ref pa,t]) #[[],[],I,_,mM,zB nX _,zA,rfl,rfl,(λp hp=>by cases hp),rfl] (λi σ H' hi h=>?_) λσ H' h=>?_
  ·obtain⟨us,a,r,t,C,es,kpa,e,iT,g,rfl⟩:=h;refine zD λN d=>?_
   dsimp![];calc#[#[(),()],d _ _ ?_];clear d;let v:0<=r/3:=by lia
   generalize r/3=L at v⊢;refine zD λN d=>?_
   dsimp![];calc#[.inl #[rfl,_,cO.of kpa],(),_,na,j,zs,rfl,dO _ (),iZ.same<|B.trans es,l,m,λM s2 H2 D h2 R=>?_];let k:=D _ _ kpa;let tsm:cV H2 (upd H2 pa<|.lst<|us++[M]):=λb xs h=>by
    rw[zG λz=>by rw[z,k]at h;cases h];exact h
   let S:us.length=a.length:=mT.length e;calc#[us,k,bQ (show us.length<64 by lia)<|zH (),d _ _ ?_];clear d;dsimp![];calc#[#[(),()],?_];let G:0<=L/room:=bw v ();refine#[us++[M],a++[s2],L/room,G,(es.trans D).upd nX,zA,?_,by rw[aK,iT];rfl,λp hp=>?_,rfl,_,rfl]
   ·unfold mT;rw[aQ];exact bN.append (mT.tups tsm<|mT.tups D.tups e)<|bN.one<|rK.tups tsm h2
   ·rcases bJ.mp hp with hp |hp
    ·exact g p hp
    ·rw[aP.mp hp];exact R
  ·obtain⟨us,a,r,t,C,es,kpa,e,iT,g,rfl⟩:=h;exact d _ _ #[us,a,_,_,es,kpa,e,(),g,rfl]
 obtain⟨us,a,J,t,es,kpa,e,iT,g,rfl⟩:=h;dsimp![];calc#[zH (),λp hp=>?_];let sp:=zB hp<|.tup [V.ref pa,x];exact q (.ref p) (a,s1) _ ((B.trans es).trans sp) #[p,pa,x,us,rfl,zA,B.free nX,sp _ _ kpa,bN.same sp e,eL.same (es.trans sp) h1] #[iT,g,O]
abbrev oz:Stmt:=top 74
theorem j6:bV ["rows","row"] ["rows","row"] (zF oz):=by rfl'
abbrev s_k:Stmt:=top 75
theorem sc_k:bV ["rows","t","flip","made","part","other"] ["rows","t"] (zF s_k):=by rfl'
abbrev s_Y:Stmt:=top 76
theorem sc_Y:bV ["rows","saying","one"] ["rows","saying"] (zF s_Y):=by rfl'
abbrev s_o:Stmt:=top 77
theorem sc_o:bV ["book","saying","rows","premises","one","premise"] ["book","saying"] (zF s_o):=by rfl'
structure RL(H J:Hp)(ra:Addr)(rows:List Rw):Prop where
 no:J ra=none
 sub:aX J H
 ex:∃us,H ra=some (.lst us)/\bN J (rows.map tD) us
theorem RL.new{J:Hp}{ra:Addr}{o:HO}(h:RL H J ra rows)(hp:H p=none):RL (upd H p o) (upd J p o) ra rows:=by
 obtain⟨us,h1,h2⟩:=h.ex;let b:ra≠p:=λe=>by rw[e,hp]at h1;cases h1
 let c:J p=none:=h.sub.free hp;calc#[by rw[zG b];exact h.no,λa x hx=>?_,us,by rw[zG b];exact h1,bN.same (zB c _) h2];by_cases e:a=p
 ·subst e;rw[zA]at hx⊢;exact hx
 ·rw[zG e]at hx⊢;exact h.sub _ _ hx
inductive spRo (vs:List V) (H:Hp) (Q:VK) (E:XK):Prop
 |mk (ra:Addr) (v:V) (J:Hp) (rows:List Rw) (r:Rw) (_:vs=[.ref ra,v]) (_:RL H J ra rows) (_:eL J (tD r) v) (_:rows.length<=90000) (_:∀H',RL H' J ra (xG rows r).1->Q (.int ((xG rows r).2:Nat)) H')
theorem ul(rows:List Rw)(r:Rw):((rows.map tD).any λe=>lL e<|tD r)=(pM rows r).isSome:=by
 unfold pM;rw[List.any_map,List.findIdx?_isSome];rfl
theorem qz(F:fT K "_law_row" "_law_row" oz f fd):cZ P w K mg base fL 1 f fd ["rows","row"] spRo:=by
 refine F.okz j6 λeO A outer s H vs Q E hr h=>?_
 obtain⟨ra,v,J,rows,r,rfl,rl,l,hl,q⟩:=h;calc#[_,have nd:=j6.nd;zC (yA (yC (kP hr.units) #[] #[] (by with_unfolding_all rfl)) #[] zL)<|zI<|zR<|yZ VD zS<|qK cR PySem.F.slot_list_index PySem.F.type_list_index (MX hr.units) #[] #[],?_];obtain⟨us,b,c⟩:=rl.ex;let B:us.length=rows.length:=by have :=bN.length c;rwa[aC]at this
 refine zD λN u=>?_
 dsimp![ME];let i:∀e∈rows.map tD,gY 2 e:=λe he=>by
  obtain⟨z,_,rfl⟩:=bH.mp he;exact af 1 z
 calc#[2,tD r,eL.same rl.sub l,rows.map tD,.inl #[ra,us,rfl,b,bN.same rl.sub c],i,(),?_];rw[ul];let key:∀(H':Hp)(oG:List V)(mB:List Rw)(k:Nat),aX J H'->H' ra=some (.lst oG)->bN J (mB.map tD) oG->mB.length<=90001->pM mB r=some k->xG rows r=(mB,2*k)->N [some<|.ref ra,some v] H':=λH' oG mB k m n x I C y=>u _ _ (by
  clear u;dsimp![HZ];let d:=eU.mp C;let g:∀e∈mB.map tD,gY 2 e:=λe he=>by
   obtain⟨z,_,rfl⟩:=bH.mp he;exact af 1 z
  refine#[.inl #[rfl,_,cO.of n],_,n,mB.map tD,bN.same m x,tD r,eL.same m l,2,g,(),by rw[aC];lia,k,#[_,by rw[aF,aA d.1];rfl,d.2.1],λD L p j=>?_,?_]
  ·rw[aF]at j;obtain⟨M,t,rfl⟩:=aL.mp j;obtain⟨hl,he⟩:=aD.mp t;have :=d.2.2 D p;rw[he]at this;simpa using this
  ·calc#[.inl #[(),()],?_];have :=q H' (by rw[y];calc#[rl.no,m,oG,n,x]);rw[y]at this;calc this)
 cases hx:pM rows r with
 |some k=>
  rw[aH (by simp)];exact key H us rows k rl.sub b c () hx (by unfold xG;rw[hx])
 |none=>
  rw[aT (by simp)];let G:aX J (upd H ra<|.lst<|us++[v]):=λa o ha=>by
   rw[zG λe=>by rw[e,rl.no]at ha;cases ha];exact rl.sub _ _ ha
  exact#[.inl #[rfl,_,cO.of b],us,b,dk (),key _ (us++[v]) (rows++[r]) rows.length G zA (by rw[aQ];calc bN.append c<|bN.one l) (by rw[aK,bP];lia) (YV hx) (by unfold xG;rw[hx])]
def DH:Nat->Tm->Prop
 |0,_=>False
 |1,_=>False
 |n+2,t=>gA n t
theorem DH.part{wd:Str}(h:DH (n+1) (.node wd ts)):∀t∈ts,DH n t:=by
 match n,h with
 |0,h=>exact h.elim
 |1,h=>exact λt ht=>by rw[(show gA 0 (.node wd ts)from h).2]at ht;cases ht
 |n+2,h=>exact λt ht=>gA.part (show gA (n+1) (.node wd ts)from h) ht
theorem DH.sh{wd:Str}(h:DH n (.node wd ts)):Sh wd ts.length:=by
 match n,h with
 |0,h=>exact h.elim
 |1,h=>exact h.elim
 |2,h=>exact(show gA 0 (.node wd ts)from h).1
 |n+3,h=>exact(show gA (n+1) (.node wd ts)from h).1
theorem DH.ex{t:Tm}(h:DH n t):∃m,gA m t:=by
 match n,h with
 |0,h=>exact h.elim
 |1,h=>exact h.elim
 |n+2,h=>exact#[n,h]
theorem QX(e:Bool)(t:Tm):∀(ts:List Tm)(rows:List Rw)(m:Nat),yJ e (ts++[t]) rows m=xG (dY t (yJ e ts rows m).1).1 (.bo ((yJ e ts rows m).2:Nat) (mK e (dY t (yJ e ts rows m).1).2:Nat))
 |[],rows,m=>by
  show yJ e [t] rows m=_;rw[yJ,yJ,yJ]
 |u::ts,rows,m=>by
  show yJ e (u::(ts++[t])) rows m=_;rw[yJ,QX e t ts,yJ]
theorem sIx2(n:Nat):HT.sIx (n+1+1) 0 (some 2)=2:=by
 unfold HT.sIx;simp only;rw[aH ()];lia
inductive spLd (n:Nat) (vs:List V) (H:Hp) (Q:VK) (E:XK):Prop
 |mk (ra:Addr) (v:V) (J:Hp) (rows:List Rw) (t:Tm) (_:vs=[.ref ra,v]) (_:RL H J ra rows) (_:rB rows) (_:fX J t v) (_:DH n t) (_:rows.length+2*wt t<=80000) (_:∀J' H',aX J J'->RL H' J' ra (dY t rows).1->Q (.int ((dY t rows).2:Nat)) H')
theorem f7(bi:Bi mg)(h_ca:fI P w K mg base 1 "_law_row" ["rows","row"] spRo)(F:fT K "_law_laid" "_law_laid" s_k f fd)(b:Binds K fd ["rows","t"] [])(m:mg "_law_laid"=some (.ref f)):∀n,cZ P w K mg base fL n f fd ["rows","t"] (spLd n):=by
 calc UU F b m (λvs H Q E h=>by obtain⟨_,_,_,_,_,_,_,_,_,h,_⟩:=h;calc h) λn h_k=>?_;cases n with
 |zero=>exact#[λvs H Q E h=>by obtain⟨_,_,_,_,_,_,_,_,_,h,_⟩:=h;exact h.elim,λA outer s H args us vs Q E _ _ _ _ h=>by obtain⟨_,_,_,_,_,_,_,_,_,h,_⟩:=h;calc h.elim]
 |succ n=>
 refine F.okz sc_k λeO A outer s H vs Q E hr h=>?_
 obtain⟨ra,v,J,rows,t,rfl,rl,B,ht,hf,hl,q⟩:=h;calc#[_,have nd:=sc_k.nd;zC #[]<|zC #[]<|zC #[]<|zC #[]<|zC (xI 2 nd<|xF QW rfl bi.int WD #[])<|zC #[]<|zC (yD bR rfl (kO<|xM YT #[] (jK zS) jL) #[] #[]) #[],?_];cases t with
 |name x=>
  obtain⟨a,rfl,ha⟩:=fX.name ht;refine zD λN d=>?_
  dsimp![];calc#[_,cW.of<|rl.sub _ _ ha,.str "name",gR,rfl,?_];rw[aH ()];calc d _ _ ?_;clear d;refine zD λN d=>?_
  dsimp![];calc#[_,cW.of<|rl.sub _ _ ha,.str "name",gR,rfl,?_];rw[aH ()];calc d _ _ ?_;clear d;refine zD λN d=>?_
  dsimp![];calc#[_,cW.of<|rl.sub _ _ ha,.str "name",gR,rfl,?_];rw[aT rfl];calc#[ra,_,J,rows,.nm x,rfl,rl,ht,(),λH' r=>?_];have :=q J H' (aX.refl J) (by rw[dY];calc r);rw[dY]at this;exact this
 |node wd ts=>
  obtain⟨a,us,rfl,ha,hu⟩:=fX.node ht;let g:=rl.sub _ _ ha;obtain⟨m0,G⟩:=hf.ex;let hul:us.length=ts.length:=by have :=bN.length hu;rwa[aC]at this
  refine zD λN d=>?_
  dsimp![];calc#[_,cW.of g,.str wd,gR,rfl,?_];by_cases j:wd="none"
  ·rw[aT (by rw[j])];have :=q J H (aX.refl J) (by rw[dY,aT j];calc rl);rw[dY,aT j]at this;exact this
  rw[aH λz=>j<|V.str.inj z];calc d _ _ ?_;clear d;refine zD λN d=>?_
  dsimp![];calc#[_,cW.of g,.str wd,gR,rfl,?_];by_cases k:wd="all"
  ·rw[aT (by rw[k])];have :=q J H (aX.refl J) (by rw[dY,aH j,aT k];calc rl);rw[dY,aH j,aT k]at this;exact this
  rw[aH λz=>k<|V.str.inj z];calc d _ _ ?_;clear d;refine zD λN d=>?_
  dsimp![];calc#[_,cW.of g,.str wd,gR,rfl,?_];rw[aH λe=>G.wrd.ne<|V.str.inj e];calc d _ _ ?_;clear d;obtain⟨t0,oE,rfl⟩:∃t0 oE,ts=t0::oE:=by
   cases ts with
   |nil=>
    rcases hf.sh with h |h |h |h |h
    ·exact(j h.1).elim
    ·exact(k h.1).elim
    ·cases h.2
    ·exact absurd h.2 ()
    ·exact absurd h.2 ()
   |cons t0 oE=>exact#[t0,oE,rfl]
  obtain⟨u0,oG,rfl,oA,I⟩:=hu;let hw:wt (.node wd (t0::oE))=1+(wt t0+iW oE):=by rw[wt,iW]
  obtain⟨m1,W⟩:=(hf.part t0 aV).ex;refine zD λN d=>?_
  dsimp![];calc#[_,cW.of g,.str wd,gR,rfl,?_];by_cases l:wd="not"
  ·rw[aT (by rw[l])];let e0:oE=[]:=by
    rcases hf.sh with h |h |h |h |h
    ·exact(j h.1).elim
    ·exact(k h.1).elim
    ·let h2:=h.2;rw[bG]at h2;exact eS.mp ()
    ·exact absurd (l.symm.trans h.1) ()
    ·exact absurd (l.symm.trans h.1) ()
   subst e0;let S:dY (.node wd [t0]) rows=((dY t0 rows).1,rF (dY t0 rows).2):=by rw[dY,aH j,aH k,aT l,jB,yJ];rfl
   calc#[_,cW.of g,_,oQ,ra,u0,J,rows,t0,rfl,rl,B,oA,hf.part t0 aV,(),λJ' H' s' r'=>?_];calc#[_,rfl,?_];rw[tW,UF];rw[S]at q;exact q J' H' s' r'
  rw[aH λz=>l<|V.str.inj z];calc d _ _ ?_;clear d;refine zD λN d=>?_
  dsimp![];calc#[_,cW.of g,_,gR,rfl,d _ _ ?_];clear d;let efl:(if V.str wd=V.str "either" then(1:Int)else 0)=if decide (wd="either")=true then 1 else 0:=by
   by_cases c:wd="either"
   ·rw[aT (by rw[c]),aT (by rw[c];rfl)]
   ·rw[aH λz=>c<|V.str.inj z,aH (by simpa using c)]
  rw[efl];let S:dY (.node wd (t0::oE)) rows=((yJ (decide<|wd="either") oE (dY t0 rows).1 (mK (decide<|wd="either") (dY t0 rows).2)).1,mK (decide<|wd="either") (yJ (decide<|wd="either") oE (dY t0 rows).1 (mK (decide<|wd="either") (dY t0 rows).2)).2):=by
   rw[dY,aH j,aH k,aH l,jB]
  rw[S]at q;generalize decide (wd="either")=e at q⊢;clear efl S;obtain⟨g1,g2,g3,g4⟩:=qA t0 m1 rows W B;refine zD λN d=>?_
  dsimp![];calc#[_,cW.of g,_,oQ,ra,u0,J,rows,t0,rfl,rl,B,oA,hf.part t0 aV,(),λJ1 H1 s1 T=>#[_,rfl,d _ _ ?_]];clear d;rw[ZX];refine zD λN d=>?_
  dsimp![];let y:=T.sub _ _<|s1 _ _ ha;calc#[_,cW.of y,λz=>absurd z.1 (by rw[bG,bG,sIx2];decide),λp hp=>?_];rw[KR];calc#[#[_,cW.of zA],?_];let X:=T.new (o:=.tup oG) hp;let s2:=s1.trans<|zB (T.sub.free hp)<|.tup oG;let kp:upd J1 p (HO.tup oG) p=some (.tup oG):=zA;clear y g rl s1 T;generalize upd J1 p (.tup oG)=J2 at X s2 kp;generalize upd H1 p (.tup oG)=H2 at X;refine WZ (xs:=oG) (λi σ H'=>∃(J':Hp)(Y Z:Option V),aX J2 J'/\RL H' J' ra (yJ e (oE.take i) (dY t0 rows).1 (mK e (dY t0 rows).2)).1/\σ=[some<|.ref ra,some<|.ref a,some (.int<|if e=true then 1 else 0),some<|.int ((yJ e (oE.take i) (dY t0 rows).1 (mK e (dY t0 rows).2)).2:Nat),Y,Z]) #[J2,_,_,aX.refl _,by rw[List.take_zero,yJ];exact X,by rw[List.take_zero,yJ]] (λi σ H' _ h=>by obtain⟨J',_,_,h1,h2,_⟩:=h;calc cW.of<|h2.sub _ _<|h1 _ _ kp) (λi x σ H' hx h M hM=>?_) λσ H' h=>?_
  ·obtain⟨J3,Y,Z,U,L,rfl⟩:=h;obtain⟨t,C,hx3⟩:=dQ.getV I hx;let O:=aS C;obtain⟨m3,hf3⟩:=(hf.part t<|aW _ O).ex;let mN:=(aD.mp C).1;let etk:oE.take (i+1)=oE.take i++[t]:=by rw[aI mN,(aD.mp C).2]
   let hwt:iW (oE.take i)+wt t<=iW oE:=by
    have :=cM iW<|eN (i+1) oE;rw[yV,etk,yV,iW,iW]at this;lia
   obtain⟨j,k,l,c4⟩:=JI e (oE.take i) (dY t0 rows).1 (mK e (dY t0 rows).2) (λu hu=>(hf.part u<|aW _<|eF hu).ex) g1 (YO g4);rw[etk,QX]at hM;generalize yJ e (oE.take i) (dY t0 rows).1 (mK e (dY t0 rows).2)=D at L j k l c4 hM⊢;obtain⟨d1,d2,d3,d4⟩:=qA t m3 D.1 hf3 j;refine zD λN d=>?_
   dsimp![];calc#[ra,x,J3,D.1,t,rfl,L,j,eL.same (s2.trans U) hx3,hf.part t<|aW _ O,(),λJ4 H4 s4 r4=>#[_,rfl,d _ _ ?_]];clear d;rw[ZX];dsimp![];calc#[zH (),λp5 R=>?_];let r5:=r4.new (o:=.tup [.str "both",.int (D.2:Nat),.int (mK e (dY t D.1).2:Nat)]) R;refine#[ra,.ref p5,_,(dY t D.1).1,.bo (D.2:Nat) (mK e (dY t D.1).2:Nat),rfl,r5,#[p5,_,rfl,zA,_,_,rfl,rfl,_,_,rfl,rfl,_,_,rfl,rfl,rfl],(),λH6 r6=>hM _ _ #[_,_,_,U.trans<|s4.trans<|zB (r4.sub.free R) _,r6,rfl]]
  ·obtain⟨J3,Y,Z,U,L,rfl⟩:=h;rw[aU (by have :=bN.length I;rw[aC]at this;lia)]at L⊢;calc d _ _ ?_;clear d;dsimp![];rw[ZX];exact q J3 H' (s2.trans U) L
inductive spPr (n:Nat) (vs:List V) (H:Hp) (Q:VK) (E:XK):Prop
 |mk (ra:Addr) (v:V) (J:Hp) (rows:List Rw) (s:Tm×Tm) (_:vs=[.ref ra,v]) (_:RL H J ra rows) (_:rB rows) (_:rK J s v) (_:gA n s.1) (_:gA n s.2) (_:rows.length+2*(wt s.1+wt s.2)<=80000) (_:∀p J' H',aX J J'->RL H' J' ra (dY s.2 (dY s.1 rows).1).1->J' p=some (.tup [.int ((dY s.1 rows).2:Nat),.int ((dY s.2 (dY s.1 rows).1).2:Nat)])->Q (.ref p) H')
inductive og (vs:List V) (H:Hp) (Q:VK) (E:XK):Prop
 |mk (ba:Addr) (v:V) (bs:List V) (b:List pJ) (s:Tm×Tm) (_:vs=[.ref ba,v]) (_:H ba=some (.lst bs)) (_:mU H b bs) (_:rK H s v) (_:b.length<=20) (_:(∀r∈b,r.1.length<=5)) (_:(∀t∈lG b++lF s,gA 20 t/\wt t<=120)) (_:∀ra J H',aX H J->RL H' J ra (yU (lG b++lF s) [.no])->Q (.ref ra) H')
theorem vI:∀(a b:List Tm)(rows:List Rw),yU (a++b) rows=yU b (yU a rows)
 |[],b,rows=>rfl
 |t::a,b,rows=>vI a b _
theorem OZ(ps:List (Tm×Tm)):(jI ps).length=2*ps.length:=by
 induction ps with
 |nil=>rfl
 |cons p ps a=>
  show(lF p++jI ps).length=_;rw[aK,a,bG];show 2+_=_;lia
theorem JG:∀(ts:List Tm)(rows:List Rw),(∀t∈ts,gA 20 t/\wt t<=120)->rB rows->rB (yU ts rows)/\(yU ts rows).length<=rows.length+240*ts.length
 |[],rows,_,h=>#[h,aG _]
 |t::ts,rows,hf,h=>by
  obtain⟨a,c,d,e⟩:=qA t 20 rows (hf t aV).1 h;let f:=(hf t aV).2;obtain⟨b,g⟩:=JG ts (dY t rows).1 (λu hu=>hf u<|aW _ hu) a;calc#[b,?_];show(yU ts (dY t rows).1).length<=_;rw[bG];lia
theorem LO{b:List pJ}{r:pJ}(h:b[i]?=some r):lG (b.take<|i+1)=lG (b.take i)++jI (r.1++[r.2]):=by
 obtain⟨hi,e⟩:=aD.mp h;rw[aI hi,e];simp[lG,OE,jI]
theorem ED{ps:List (Tm×Tm)}{p:Tm×Tm}(h:ps[i]?=some p):jI (ps.take<|i+1)=jI (ps.take i)++lF p:=by
 obtain⟨hi,e⟩:=aD.mp h;rw[aI hi,e];simp[jI]
theorem fq(h_k:fI P w K mg base 22 "_law_laid" ["rows","t"] (spLd 22))(F:fT K "_law_pair" "_law_pair" s_Y f fd):cZ P w K mg base fL 23 f fd ["rows","saying"] (spPr 20):=by
 refine F.okz sc_Y λeO A outer s H vs Q E hr h=>?_
 obtain⟨ra,v,J,rows,s,rfl,rl,b,k,d,l,hl,q⟩:=h;calc#[_,have nd:=sc_Y.nd;#[],?_];obtain⟨a,us,rfl,ha,x,o,rfl,hx,y,c,rfl,hy,e⟩:=k;cases (show c=[]from e);obtain⟨m,r,u,z⟩:=qA s.1 20 rows d b;refine zD λN g=>?_
 dsimp![];calc#[_,cW.of<|rl.sub _ _ ha,_,gR,ra,x,J,rows,s.1,rfl,rl,b,hx,d,(),λn H1 s1 i=>g _ _ ?_];clear g;dsimp![];refine#[_,cW.of<|i.sub _ _<|s1 _ _ ha,_,oQ,ra,y,n,_,s.2,rfl,i,m,eL.same s1 hy,l,(),λB H2 s2 j=>#[zH (),λp hp=>q p _ _ (s1.trans<|s2.trans<|zB (j.sub.free hp) _) (j.new hp) zA]]
theorem BQ(h_Y:fI P w K mg base 23 "_law_pair" ["rows","saying"] (spPr 20))(F:fT K "_law_all_rows" "_law_all_rows" s_o f fd):cZ P w K mg base fL 24 f fd ["book","saying"] og:=by
 refine F.okz sc_o λeO A outer s H vs Q E hr h=>?_
 obtain⟨ba,v,bs,b,s,rfl,Z,hb,hv,hbl,iT,hf,q⟩:=h;calc#[_,have nd:=sc_o.nd;zC #[]<|zC (yD bR rfl #[] #[]<|zI<|yD bR rfl (uH<|yZ uY #[] #[]) #[] #[]) #[],?_];let hbsl:bs.length=b.length:=by have :=bN.length hb;rwa[aC]at this
 refine zD λN k=>?_
 dsimp![];calc#[zH (),λl oC=>#[zH (),λra m=>k _ _ ?_]];clear k;let C:=zB oC<|.tup [.str "none"];let S:RL (upd (upd H l<|.tup [.str "none"]) ra<|.lst [.ref l]) (upd H l<|.tup [.str "none"]) ra [.no]:=#[m,zB m _,_,zA,_,_,rfl,#[l,_,rfl,zA,_,_,rfl,rfl,rfl],rfl]
 clear m oC;generalize upd (upd H l<|.tup [.str "none"]) ra (.lst [.ref l])=H1 at S;generalize upd H l (.tup [.str "none"])=z at C S;let g:=C _ _ Z;let hb1:mU z b bs:=bN.same C hb;let hv1:=eL.same C hv;let htl:=wP iT;let fitB:∀{xs:List Tm},(∀t∈xs,t∈lG b++lF s)->xs.length<=260->rB (yU xs [.no])/\(yU xs [.no]).length<=65000:=λ{xs} h hl=>by
  obtain⟨e1,e2⟩:=JG xs [.no] (λt ht=>hf t<|h t ht) rB.one;rw[bP]at e2;exact#[e1,()]
 refine zK (λσ H'=>∃(J':Hp)(n u y:Option V),aX z J'/\RL H' J' ra (yU (lG b) [.no])/\σ=[some<|.ref ba,some v,some<|.ref ra,n,u,y]) (λN k=>?_) λσ H' h=>?_
 ·dsimp![];calc#[#[_,cO.of<|S.sub _ _ g],?_];refine xP (xs:=bs) (λi σ H'=>∃(J':Hp)(n u y:Option V),aX z J'/\RL H' J' ra (yU (lG<|b.take i) [.no])/\σ=[some<|.ref ba,some v,some<|.ref ra,n,u,y]) #[z,_,_,_,aX.refl _,S,rfl] (λi σ H' _ h=>by obtain⟨J',_,_,_,h1,h2,_⟩:=h;calc cO.of<|h2.sub _ _<|h1 _ _ g) (λi x σ H' hx h M hM=>?_) λσ H' h=>?_
  ·obtain⟨B,n,u,y,s2,c,rfl⟩:=h;obtain⟨r,mM,hr2⟩:=mU.getV hb1 hx;let D:=aS mM;rw[LO mM,vI]at hM;dsimp![uA,jN,uK];obtain⟨ta,us,rfl,hta,x1,r1,rfl,⟨la,ws,rfl,hla,G⟩,a,r',rfl,hx2,e⟩:=hr2;cases (show r'=[]from e);let hwl:ws.length=r.1.length:=by have :=bN.length G;rwa[aC]at this
   let oB:=iT r D;calc#[ta,rfl,_,cW.of<|c.sub _ _<|s2 _ _ hta,rfl,_,_,rfl,_,_,rfl,rfl,zH (),λp hp=>#[la,rfl,ws,zB hp _ _ _<|c.sub _ _<|s2 _ _ hla,_,zA,smB (by rw[bP];lia),λT iR=>#[#[_,cO.of zA],?_]]];let I:=(c.new (o:=.lst [a]) hp).new (o:=.lst<|ws++[a]) iR;let J:=s2.trans<|(zB (c.sub.free hp)<|.lst [a]).trans (zB ((c.new (o:=.lst [a]) hp).sub.free iR)<|.lst<|ws++[a]);let kp:upd (upd B p<|.lst [a]) T (.lst<|ws++[a]) T=some (.lst<|ws++[a]):=zA;let hss:mT z (r.1++[r.2]) (ws++[a]):=by
    show bN z ((r.1++[r.2]).map CM) _;rw[aQ];exact bN.append G<|bN.one hx2
   clear hp iR c s2;generalize upd (upd B p<|.lst [a]) T (.lst<|ws++[a])=U at I J kp;generalize upd (upd H' p<|.lst [a]) T (.lst<|ws++[a])=H3 at I;let mF:∀{ps:List (Tm×Tm)},(∀p∈ps,p∈r.1++[r.2])->∀t∈jI ps,t∈lG b++lF s:=λ{ps} h t ht=>by
    obtain⟨p,hp,ht⟩:=dB.mp ht;calc bW _<|dB.mpr #[r,D,?_];rcases bJ.mp (h p hp)with h |h
    ·exact bW _<|dB.mpr #[p,h,ht]
    ·rw[aP.mp h]at ht;exact aZ _ ht
   let L:∀t∈lG (b.take i),t∈lG b++lF s:=λt ht=>by
    obtain⟨r,hr,ht⟩:=dB.mp ht;exact bW _<|dB.mpr #[r,eF hr,ht]
   let hlB:(lG<|b.take i).length<=240:=by
    let h1:=wP (b:=b.take i) λr hr=>iT r<|eF hr
    let h2:(b.take i).length<=b.length:=by rw[bD];lia
    lia
   refine xP (xs:=ws++[a]) (λj σ H'=>∃(J':Hp)(o:Option V),aX U J'/\RL H' J' ra (yU (jI<|(r.1++[r.2]).take j)<|yU (lG<|b.take i) [.no])/\σ=[some<|.ref ba,some v,some<|.ref ra,some<|.ref la,some a,o]) #[U,_,aX.refl _,I,rfl] (λi σ H' _ h=>by obtain⟨J',_,h1,h2,_⟩:=h;calc cO.of<|h2.sub _ _<|h1 _ _ kp) (λj x σ H4 hx h M2 O=>?_) λσ H4 h=>?_
   ·obtain⟨J4,o,W,X,rfl⟩:=h;obtain⟨Y,R,hq2⟩:=mT.getV hss hx;let hqm:=aS R;rw[ED R,vI<|jI _]at O;dsimp![];let d:=fitB (xs:=lG (b.take i)++jI ((r.1++[r.2]).take j)) (λt ht=>by
     rcases bJ.mp ht with h |h
     ·exact L t h
     ·calc mF (λp hp=>eF hp) t h) (by
     have :((r.1++[r.2]).take j).length<=(r.1++[r.2]).length:=by rw[bD];lia
     rw[aK,bP]at this;rw[aK,OZ];lia)
    rw[vI]at d;let hq:=mF (ps:=[Y]) (λp hp=>by rw[aP.mp hp];calc hqm);let hqa:=hf Y.1 (hq _ (by simp[jI,lF]));let hqb:=hf Y.2 (hq _ (by simp[jI,lF]));exact#[ra,x,J4,_,Y,rfl,X,d.1,eL.same (J.trans W) hq2,hqa.1,hqb.1,(),λp J5 H5 s5 r5 _=>O _ _ #[J5,_,W.trans s5,r5,rfl]]
   ·obtain⟨J4,o,W,X,rfl⟩:=h;rw[aU (by rw[aK,aK];simp;lia)]at X;exact hM _ _ #[J4,_,_,_,J.trans W,X,rfl]
  ·obtain⟨B,n,u,y,s2,c,rfl⟩:=h;rw[aU ()]at c;exact k _ _ #[B,n,u,y,s2,c,rfl]
 ·obtain⟨B,n,u,y,s2,c,rfl⟩:=h;refine zD λN k=>?_
  dsimp![];let d:=fitB (xs:=lG b) (λt ht=>bW _ ht) ();let h1:=hf s.1 (aZ _ (by simp[lF]));let h2:=hf s.2 (aZ _ (by simp[lF]));calc#[ra,v,B,_,s,rfl,c,d.1,eL.same s2 hv1,h1.1,h2.1,(),λp U H3 J I _=>k _ _ ?_];clear k;dsimp![];calc q ra U H3 (C.trans<|s2.trans J) ?_;rw[vI];exact I
abbrev s_D:Stmt:=top 82
theorem sc_D:bV ["book"] ["book"] (zF s_D):=by rfl'
inductive spCp (vs:List V) (H:Hp) (Q:VK) (E:XK):Prop
 |mk (ba:Addr) (bs:List V) (b:List pJ) (_:vs=[.ref ba]) (_:H ba=some (.lst bs)) (_:mU H b bs) (_:b.length<=100) (_:(∀r∈b,r.1.length<=5)) (_:∀p us H',aX H H'->H' p=some (.lst us)->mU H' b us->Q (.ref p) H')
theorem FL(bi:Bi mg)(F:fT K "_law_copy_of" "_law_copy_of" s_D f fd):cZ P w K mg base fL 1 f fd ["book"] spCp:=by
 refine F.okz sc_D λeO A outer s H vs Q E hr h=>?_
 obtain⟨ba,bs,b,rfl,d,hb,t,iT,q⟩:=h;calc#[_,have nd:=sc_D.nd;zI<|zR<|zW ["rule"] [] [] #[] (λ_ _ _ _ nd=>yG 0 nd) (λ_ _ _ _=>zY) λ_ _ _ _=>(yW<|zE (xF (JX K) rfl bi.list uL<|zE (zP (xY K) #[] zS) zJ)<|zE (zP (xY K) #[] zS) zJ),?_];let n:=xS hb;dsimp![];calc#[#[_,cO.of d],?_];refine yM (xs:=bs) (λi ys σ G=>aX H G/\bN G ((b.take i).map ZN) ys/\∃o,σ=[o]) #[aX.refl _,rfl,_,rfl] (zH ()) (λi ys σ G e=>?_) (λi ys σ G e=>cO.of<|e.1 _ _ d) (λi x ys σ G C hx e v=>?_) λys σ G e p hp=>?_
 ·have :=xS e.2.1;rw[bD]at this;lia
 ·obtain⟨sG,hd,o,rfl⟩:=e;obtain⟨r,mM,g⟩:=mU.getV hb hx;obtain⟨a,l,u,ws,rfl,ha,j,c,k⟩:=g.out;let oB:=iT r<|aS mM;let y:=c.length;dsimp![];calc#[_,cW.of<|sG _ _ ha,_,gR,l,rfl,ws,.inl<|cO.of<|sG _ _ j,λl' iK=>#[_,cW.of<|zB iK _ _ _<|sG _ _ ha,_,oQ,zH (),λp hp=>v _ _ _ ?_]];let s1:=zB iK<|.lst ws;let s2:=zB hp<|.tup [.ref l',u];let m:=sG.trans<|s1.trans s2;exact#[m,ic mM (bN.same (s1.trans s2) hd) #[p,_,rfl,zA,_,_,rfl,#[l',ws,rfl,s2 _ _ zA,bN.same m c],_,_,rfl,eL.same m k,rfl],_,rfl]
 ·obtain⟨sG,hd,o,rfl⟩:=e;rw[aU ()]at hd;exact q p ys _ (sG.trans<|zB hp _) zA<|bN.same (zB hp _) hd
abbrev s_F:Stmt:=top 61
theorem sc_F:bV ["found_v"] ["found_v"] (zF s_F):=by rfl'
abbrev s_E:Stmt:=top 63
theorem sc_E:bV ["spell","many","pairs","a","b"] ["spell","many"] (zF s_E):=by rfl'
abbrev s_L:Stmt:=top 64
theorem sc_L:bV ["many","pairs","near","a","b"] ["many","pairs"] (zF s_L):=by rfl'
abbrev s_l:Stmt:=top 65
theorem sc_l:bV ["near","spots","found_v","spot"] ["near","spots"] (zF s_l):=by rfl'
abbrev qg:Stmt:=top 66
theorem lg:bV ["cell","many","spell","found_v","spot"] ["cell","many"] (zF qg):=by rfl'
inductive nh (vs:List V) (H:Hp) (Q:VK) (E:XK):Prop
 |mk (i:Int) (_:vs=[.int i]) (_:Q (.bl true) H)
inductive spCs (vs:List V) (H:Hp) (Q:VK) (E:XK):Prop
 |mk (z:Int) (m:Nat) (_:vs=[.int z,.int m]) (_:m<=90) (_:∀p us ps H',aX H H'->H p=none->H' p=some (.lst us)->bN H' (ps.map sE) us->DT m ps->ps.length<=m*90->Q (.ref p) H')
theorem SL(bi:Bi mg)(F:fT K "_law_whole" "_law_whole" s_F f fd):cZ P w K mg base fL 1 f fd ["found_v"] nh:=by
 refine F.okz sc_F λeO A outer s H vs Q E hr h=>?_
 obtain⟨i,rfl,q⟩:=h;calc#[_,have nd:=sc_F.nd;zI<|zR<|wA (zO (xD (T:="int")) rfl bi.isinstance zZ<|zE #[]<|zE (uO bi.int WD rfl) zJ)<|vY<|EX<|zO (xD (T:="bool")) rfl bi.isinstance zZ<|zE #[]<|zE (uO bi.bool KW rfl) zJ,?_];dsimp![];exact#[_,.int i,true,xV,sf #[_,.int i,false,WM,q]]
theorem FN(bi:Bi mg)(F:fT K "_law_clashes" "_law_clashes" s_E f fd):cZ P w K mg base fL 1 f fd ["spell","many"] spCs:=by
 refine F.okz sc_E λeO A outer s H vs Q E hr h=>?_
 obtain⟨z,m,rfl,hm,q⟩:=h;calc#[_,have nd:=sc_E.nd;#[],?_];refine zD λN k=>?_
 dsimp![];calc#[zH (by simp),λp hp=>k _ _ ?_];clear k;let s1:=zB hp<|.lst [];let u:upd H p (.lst []) p=some (.lst []):=zA;generalize upd H p (.lst [])=H1 at s1 u⊢;refine zK (λσ H'=>∃(v a b:Option V)(us:List V)(ps:List (Nat×Nat)),aX H H'/\H' p=some (.lst us)/\bN H' (ps.map sE) us/\DT m ps/\ps.length<=m*90/\σ=[v,some<|V.int m,some<|V.ref p,a,b]) (λN k=>?_) λσ H' h=>?_
 ·dsimp![];calc#[(),(),?_];refine jO (n:=(m:Int).toNat) (λi σ H'=>∃(a b:Option V)(z:Int)(us:List V)(ps:List (Nat×Nat)),aX H H'/\H' p=some (.lst us)/\bN H' (ps.map sE) us/\DT m ps/\ps.length<=i*90/\σ=[some<|V.int z,some<|V.int m,some<|V.ref p,a,b]) #[_,_,_,[],[],s1,u,rfl,(λp z=>by cases z),by simp,rfl] (λi σ H' hi h=>?_) λσ H' h=>?_
  ·obtain⟨a,b,z,us,ps,s2,d,h2,hok,iT,rfl⟩:=h;let y:i<m:=by lia
   dsimp![];calc#[(),(),(),(),?_];refine jO (λj σ H'=>∃(o:Option V)(z:Int)(us:List V)(ps:List (Nat×Nat)),aX H H'/\H' p=some (.lst us)/\bN H' (ps.map sE) us/\DT m ps/\ps.length<=i*90+j/\σ=[some<|V.int z,some<|V.int m,some<|V.ref p,some<|V.int<|0+i,o]) #[_,_,us,ps,s2,d,h2,hok,(),rfl] (λj σ H' G h=>?_) λσ H' h=>?_
   ·obtain⟨o,z,us,ps,l,c,e,hok,iT,rfl⟩:=h;let r:i+1+j<m:=by lia
    let B:(0:Int)+(i:Int)=((i:Nat):Int):=by lia
    let C:(0:Int)+(i:Int)+1+(j:Int)=((i+1+j:Nat):Int):=by lia
    dsimp![];calc#[(),rfl,?_];split
    ·calc#[.inl #[rfl,_,cO.of c],zH (by simp),λt ht=>?_];rw[C,B]at *;let g:=zB ht<|.tup [nV i,nV<|i+1+j];let x:upd H' t (.tup [nV i,nV<|i+1+j]) t=some (.tup [nV i,nV<|i+1+j]):=zA;generalize upd H' t (.tup [nV i,nV<|i+1+j])=I at g x⊢;let D:us.length=ps.length:=by have :=bN.length e;rwa[aC]at this
     exact#[us,g _ _ c,eE (m:=100000) () (),#[(),()],(l.trans g).upd hp,_,_,_,zA,_,SE (g _ _ c) (bN.same g e) x,gg hok () r,by simp;lia,rfl,rfl]
    ·exact#[#[(),()],l,_,_,us,c,ps,e,hok,(),rfl,rfl]
   ·obtain⟨o,z,us,ps,l,c,e,hok,iT,rfl⟩:=h;exact#[l,_,_,_,_,c,_,e,hok,(),rfl]
  ·obtain⟨a,b,z,us,ps,s2,d,h2,hok,iT,rfl⟩:=h;exact k _ _ #[_,_,_,us,ps,s2,d,h2,hok,(),rfl]
 obtain⟨v,a,b,us,ps,s2,d,h2,hok,iT,rfl⟩:=h;dsimp![];exact q p us ps _ s2 hp d h2 hok iT
noncomputable def uE(m:Nat)(ps:List (Nat×Nat))(a:Nat):List V:=(List.range m).map λb=>V.bl<|yY ps a b
def GR(H:Hp)(p:Addr)(m:Nat)(ps:List (Nat×Nat)):Prop:=∃rs:List Addr,H p=some (.lst<|rs.map V.ref)/\rs.length=m/\∀(a:Nat)(r:Addr),rs[a]?=some r->H r=some (.lst<|uE m ps a)
theorem GR.same{m:Nat}(e:aX H H')(h:GR H p m ps):GR H' p m ps:=by
 obtain⟨rs,h1,h2,b⟩:=h;exact#[rs,e _ _ h1,h2,λa r hr=>e _ _<|b a r hr]
theorem HX{m:Nat}(f:Nat->Bool)(hb:b<m):((List.range m).map λj=>V.bl<|f j).set b (V.bl true)=(List.range m).map λj=>V.bl (f j ||(b==j)):=by
 apply List.ext_getElem?;intro i;by_cases hi:b=i
 ·subst hi;rw[fW (by rw[aC,bU];calc hb),aF,lV hb];simp
 ·rw[fM hi,aF,aF];cases h:(List.range m)[i]? with
  |none=>rfl
  |some j=>
   have :j=i:=by
    have :=aD.mp h;obtain⟨h1,h2⟩:=this;rw[gC]at h2;exact h2.symm
   subst this;have :(b==j)=false:=cG.mpr hi;simp[this]
theorem YU{m x:Nat}(hab:a≠b):uE m (ps++[(a,b)]) x=(List.range m).map λj=>V.bl (if x=a then yY ps a j ||(b==j)else if x=b then yY ps b j ||(a==j)else yY ps x j):=by
 unfold uE;refine lU λj _=>?_
 rw[QU]
 congr 1
 by_cases h1:x=a
 ·subst h1;rw[aT rfl];have :(b==x)=false:=cG.mpr<|cE hab;simp[this]
 ·rw[aH h1];let c:(a==x)=false:=cG.mpr<|cE h1;by_cases h2:x=b
  ·subst h2;rw[aT rfl];simp[c]
  ·rw[aH h2];let d:(b==x)=false:=cG.mpr<|cE h2;simp[c,d]
theorem ql{m:Nat}(hab:a≠b):uE m (ps++[(a,b)]) a=(List.range m).map λj=>V.bl (yY ps a j ||(b==j)):=by
 rw[YU hab];simp only[if_true]
theorem qk{m:Nat}(hab:a≠b):uE m (ps++[(a,b)]) b=(List.range m).map λj=>V.bl (yY ps b j ||(a==j)):=by
 rw[YU hab];simp only[aH<|cE hab,if_true]
theorem qj{m x:Nat}(hab:a≠b)(h1:x≠a)(h2:x≠b):uE m (ps++[(a,b)]) x=uE m ps x:=by
 rw[YU hab];simp only[aH h1,aH h2];rfl
theorem LY(m:Nat)(a:Nat):(List.replicate m [V.bl false]).flatten=uE m [] a:=by
 unfold uE yY
 induction m with
 |zero=>rfl
 |succ m b=>
  rw[dR,aQ,←b,pA,List.flatten_append];rfl
inductive AG (vs:List V) (H:Hp) (Q:VK) (E:XK):Prop
 |mk (m:Nat) (pa:Addr) (us:List V) (ps:List (Nat×Nat)) (_:vs=[.int m,.ref pa]) (_:m<=90) (_:H pa=some (.lst us)) (_:bN H (ps.map sE) us) (_:DT m ps) (_:∀p H',aX H H'->GR H' p m ps->Q (.ref p) H')
inductive dh (K:W.Frag) (vs:List V) (H:Hp) (Q:VK) (E:XK):Prop
 |mk (na sa:Addr) (m:Nat) (ps:List (Nat×Nat)) (sp:List Nat) (_:vs=[.ref na,.ref sa]) (_:m<=90) (_:GR H na m ps) (_:cO K H sa (sp.map nV)) (_:(∀x∈sp,x<m)) (_:sp.length<=1000) (_:∀p H',aX H H'->H p=none->H' p=some (.lst<|(cnt m ps sp).map nV)->Q (.ref p) H')
theorem fz(bi:Bi mg)(F:fT K "_law_near" "_law_near" s_L f fd):cZ P w K mg base fL 1 f fd ["many","pairs"] AG:=by
 refine F.okz sc_L λeO A outer s H vs Q E hr h=>?_
 obtain⟨m,pa,us,ps,rfl,hm,nX,D,hok,q⟩:=h;let G:us.length=ps.length:=by have :=bN.length D;rwa[aC]at this
 calc#[_,have nd:=sc_L.nd;zC (ZZ (i:=2) ["a"] ["many"] [0] nd rfl #[] (λ_ _ _ _ nd=>yG 0 nd) (λ_ _ _ _=>zY) λ_ _ _ _=>(yZ VC #[] #[]))<|zC (yD bR rfl #[] #[]<|zC (ET II<|EW (zP zQ #[] #[]) #[] qG)<|zI<|ET II<|EW (zP zQ #[] #[]) #[] qG) #[],?_];refine zD λN M=>?_
 dsimp![];calc#[(),(),?_];refine kA (lo:=0) (n:=(m:Int).toNat) (λi ys σ H'=>aX H H'/\(∃rs:List Addr,ys=rs.map V.ref/\rs.length=i/\rs.Nodup/\(∀r∈rs,H r=none)/\∀r∈rs,H' r=some (.lst<|uE m [] 0))/\∃o,σ=[o,some<|V.int m]) #[aX.refl _,#[[],rfl,rfl,jo,(λr z=>by cases z),λr z=>by cases z],_,rfl] (zH ()) (λi ys σ H' e=>?_) (λi ys σ H' C hi e hC=>?_) λys σ H' e p hp=>M _ _ ?_
 ·obtain⟨_,⟨rs,rfl,hl,_⟩,_⟩:=e;rw[aC];lia
 ·obtain⟨es,⟨rs,rfl,hl,iD,g,oN⟩,o,rfl⟩:=e;dsimp![RI];calc#[zH (by simp),λX oC=>#[[V.bl false],zA,(),(),zH (by simp;lia),λr iO=>hC _ _ _ ?_]];let s1:=zB oC<|.lst [V.bl false];let s2:=zB iO<|.lst<|(List.replicate (m:Int).toNat [V.bl false]).flatten;let Y:upd (upd H' X<|.lst [V.bl false]) r (.lst<|(List.replicate (m:Int).toNat [V.bl false]).flatten) r=some (.lst<|uE m [] 0):=by rw[zA,bE,LY m 0]
  let R:r∉rs:=λz=>by
   have :=s1 _ _<|oN r z;rw[iO]at this;cases this
  generalize upd (upd H' X<|.lst [V.bl false]) r (.lst<|(List.replicate (m:Int).toNat [V.bl false]).flatten)=H2 at s2 Y⊢;let Z:=s1.trans s2;refine#[es.trans Z,#[rs++[r],by rw[aQ];rfl,by simp[hl],nN.mpr #[iD,by simp,λx hx y hy e=>R (by rw[aP.mp hy]at e;rw[←e];calc hx)],λx hx=>?_,λx hx=>?_],_,rfl]
  ·rcases bJ.mp hx with hx |hx
   ·exact g x hx
   ·rw[aP.mp hx];exact(es.trans s1).free iO
  ·rcases bJ.mp hx with hx |hx
   ·exact Z _ _<|oN x hx
   ·rw[aP.mp hx];exact Y
 obtain⟨es,⟨rs,rfl,hl,iD,g,oN⟩,o,rfl⟩:=e;clear M;let s1:=zB hp<|.lst<|rs.map V.ref;let k1:upd H' p (.lst<|rs.map V.ref) p=some (.lst<|rs.map V.ref):=zA;let I:p∉rs:=λz=>by
  have :=oN p z;rw[hp]at this;cases this
 generalize upd H' p (.lst<|rs.map V.ref)=H1 at s1 k1⊢;let s2:=es.trans s1;let oB:rs.length=m:=by lia
 let S:∀(a:Nat)(r:Addr),rs[a]?=some r->H1 r=some (.lst<|uE m [] a):=λa r iO=>by
  have :=s1 _ _<|oN r<|aS iO;exact this
 clear oN hl s1;refine zK (λσ H'=>∃(u B:Option V),aX H H'/\H' p=some (.lst<|rs.map V.ref)/\(∀(a:Nat)(r:Addr),rs[a]?=some r->H' r=some (.lst<|uE m ps a))/\σ=[some<|V.int m,some<|V.ref pa,some<|V.ref p,u,B]) (λN M=>?_) λσ H' h=>?_
 ·dsimp![];calc#[#[_,cO.of<|s2 _ _ nX],?_];refine qU (xs:=us) (λk σ H'=>∃(u B:Option V),aX H H'/\H' p=some (.lst<|rs.map V.ref)/\(∀(a:Nat)(r:Addr),rs[a]?=some r->H' r=some (.lst<|uE m (ps.take k) a))/\σ=[some<|V.int m,some<|V.ref pa,some<|V.ref p,u,B]) #[_,_,s2,k1,S,rfl] (λk σ H' _ h=>?_) (λk x σ H' hx h=>?_) λσ H' h=>?_
  ·obtain⟨u,B,h1,_⟩:=h;exact cO.of<|h1 _ _ nX
  ·obtain⟨u,B,h1,h2,l,rfl⟩:=h;let hk:k<ps.length:=by rw[←G];exact(aD.mp hx).1
   obtain⟨v,J,T⟩:=bN.get (d:=sE ps[k]) D (by rw[aF,aA hk];rfl);rw[hx]at J;cases J;let L:=hok _<|bT hk;obtain⟨t,rfl,ht⟩:=ek T;let ht':=h1 _ _ ht;let e4:ps.take (k+1)=ps.take k++[(ps[k].1,ps[k].2)]:=by rw[aI hk]
   rw[e4];clear e4;generalize ps[k].1=a at ht' L;generalize ps[k].2=b at ht' L;generalize ps.take k=qs at l⊢;let la:a<rs.length:=by lia
   let lb:b<rs.length:=by lia
   let ga:=aA la;let gb:=aA lb;let mX:rs[a]≠rs[b]:=λz=>by
    have :=(lJ iD).mp z;lia
   let ra:=l a _ ga;let rb:=l b _ gb;let fa:=g _<|bT la;let fb:=g _<|bT lb;let npa:p≠rs[a]:=λz=>I (by rw[z];calc bT la)
   let npb:p≠rs[b]:=λz=>I (by rw[z];calc bT lb)
   dsimp![uA,jN,uK,sy,QF];calc#[[nV a,nV b],cW.of ht',rfl,nV a,[nV b],rfl,nV b,[],rfl,rfl,?_];let rl:∀x,(uE m qs x).length=m:=λx=>by unfold uE;rw[aC,bU]
   calc#[_,rfl,_,cO.of h2,_,zU (j:=a) (by rw[aF,ga];rfl),rs[a],rfl,_,rfl,_,ra,b,vR (by rw[rl];lia),_,rfl,_,cO.of (by rw[zG npa];calc h2),_,zU (j:=b) (by rw[aF,gb];rfl),rs[b],rfl,_,rfl,_,by rw[zG<|cE mX];exact rb,a,vR (by rw[rl];lia),(h1.upd fa).upd fb,by rw[zG npb,zG npa];exact h2,λx r iO=>?_,_,rfl];let c:a≠b:=by lia
   let O:r=rs[x]'(aD.mp iO).1:=(aD.mp iO).2.symm;let lx:=(aD.mp iO).1;by_cases U:x=b
   ·subst U;rw[O,zA,qk c];unfold uE;rw[HX (λj=>yY qs x j) ()]
   ·let n1:r≠rs[b]:=λz=>by
     rw[O]at z;exact U<|(lJ iD).mp z
    rw[zG n1];by_cases W:x=a
    ·subst W;rw[O,zA,ql c];unfold uE;rw[HX (λj=>yY qs x j) ()]
    ·let n2:r≠rs[a]:=λz=>by
      rw[O]at z;exact W<|(lJ iD).mp z
     rw[zG n2,qj c W U];exact l x r iO
  ·obtain⟨u,B,h1,h2,l,rfl⟩:=h;rw[G,aU<|aG _]at l;exact M _ _ #[_,_,h1,h2,l,rfl]
 obtain⟨u,B,h1,h2,l,rfl⟩:=h;dsimp![];exact q p _ h1 #[rs,h2,oB,l]
theorem BM(bi:Bi mg)(F:fT K "_law_counter" "_law_counter" s_l f fd):cZ P w K mg base fL 1 f fd ["near","spots"] (dh K):=by
 refine F.okz sc_l λeO A outer s H vs Q E hr h=>?_
 obtain⟨na,sa,m,ps,sp,rfl,hm,v,hs,y,I,q⟩:=h;obtain⟨rs,hn,oB,oN⟩:=v;calc#[_,have nd:=sc_l.nd;zC #[]<|zC (yD bR rfl #[] (vP (i:=3) nd rfl<|Or.inr rfl)<|zI<|yA (xH<|zO jP rfl bi.all uM<|zE (zW ["other"] ["near","spot"] [0,3] #[] (λ_ _ _ _ nd=>yG 0 nd) (λ_ _ _ _=>zY) λ_ _ _ _=>(zP (qM K) (zP (qM K) #[] #[]) #[])) zJ) #[] zL) #[],?_];refine zD λN u=>?_
 dsimp![];calc#[zH (by simp),λp hp=>u _ _ ?_];clear u;let s1:=zB hp<|.lst [];let G:upd H p (.lst []) p=some (.lst []):=zA;generalize upd H p (.lst [])=H1 at s1 G⊢;refine zK (λσ H'=>∃(o:Option V),aX H H'/\H' p=some (.lst<|(cnt m ps sp).map nV)/\σ=[some<|V.ref na,some<|V.ref sa,some<|V.ref p,o]) (λN u=>?_) λσ H' h=>?_
 ·dsimp![];calc#[_,.inl #[_,cO.of<|s1 _ _ hn,rfl],by rw[aC];lia,by rw[aC];lia,?_];rw[aC,oB];refine jO (n:=(m:Int).toNat) (λi σ H'=>∃(o:Option V),aX H H'/\H' p=some (.lst<|((List.range i).filter λi=>sp.all λa=>yY ps a i).map nV)/\σ=[some<|V.ref na,some<|V.ref sa,some<|V.ref p,o]) #[_,s1,G,rfl] (λi σ H' hi h=>?_) λσ H' h=>?_
  ·obtain⟨o,s2,g,rfl⟩:=h;let J:i<m:=by lia
   let l:i<rs.length:=by lia
   let L:(0:Int)+(i:Int)=((i:Nat):Int):=by lia
   dsimp![];rw[L];calc#[#[_,aX.seq s2 hs],?_];refine yM (xs:=sp.map nV) (λk ys σ c=>c=H'/\ys=((sp.take k).map λa=>yY ps i a).map V.bl/\∃o,σ=[o,some<|V.ref na,some<|V.int i]) #[rfl,rfl,_,rfl] (zH (by rw[aC];lia)) (λk ys σ c e=>?_) (λk ys σ c e=>by rw[e.1];calc aX.seq s2 hs) (λk x ys σ c C hx e M=>?_) λys σ c e O z=>?_
   ·obtain⟨_,rfl,_⟩:=e;rw[aC,aC,bD];lia
   ·obtain⟨rfl,rfl,o,rfl⟩:=e;rw[aF]at hx;cases d:sp[k]? with
    |none=>rw[d]at hx;cases hx
    |some n=>
     rw[d]at hx;cases hx;let B:=y n<|aS d;let gr:=oN i _<|aA l;dsimp![];refine#[_,cO.of<|s2 _ _ hn,_,zU (j:=i) (by rw[aF,aA l];rfl),rs[i],rfl,_,cO.of<|s2 _ _ gr,V.bl<|yY ps i n,zU (j:=n) ?_,M _ _ _ #[rfl,?_,_,rfl]]
     ·unfold uE;rw[aF,lV B];rfl
     ·obtain⟨hi,e⟩:=aD.mp d;rw[aI hi,e,aQ,aQ];rfl
   obtain⟨rfl,rfl,S,rfl⟩:=e;rw[aC,aU<|aG _];let r:=zB z (.lst<|(sp.map λa=>yY ps i a).map V.bl);calc#[O,rfl,_,cO.of zA,?_];let R:((sp.map λa=>yY ps i a).all id)=(sp.all λa=>yY ps a i):=by
    rw[iJ]
    congr 1
    funext a
    exact vT ps i a
   rw[R];let t:∀b:Bool,(sp.all λa=>yY ps a i)=b->(List.range<|i+1).filter (λi=>sp.all λa=>yY ps a i)=(List.range i).filter (λi=>sp.all λa=>yY ps a i)++(if b=true then [i]else []):=λb hb=>by
    rw[dR,dN,lK,List.filter_nil,hb]
   let D:((List.range i).filter (λi=>sp.all λa=>yY ps a i)).length<=i:=by
    have :=dX (λi=>sp.all λa=>yY ps a i)<|List.range i;rwa[bU]at this
   cases hb:(sp.all λa=>yY ps a i)with
   |false=>
    rw[aH aY];calc#[s2.trans r,?_,_,rfl];rw[t false hb,aH aY,cL];exact r _ _ g
   |true=>
    rw[aT rfl];calc#[.inl #[rfl,_,cO.of<|r _ _ g],_,r _ _ g,jD (by rw[aC];lia),(s2.trans r).upd hp,?_,_,rfl];rw[zA,t true hb,aT rfl,aQ];rfl
  ·obtain⟨o,s2,g,rfl⟩:=h;rw[bE]at g;exact u _ _ #[_,s2,g,rfl]
 obtain⟨o,s2,g,rfl⟩:=h;dsimp![];exact q p _ s2 hp g
theorem p1025:(0:Int)<10^Int.toNat 25:=by show(0:Int)<10^25;simp
inductive spSm (vs:List V) (H:Hp) (Q:VK) (E:XK):Prop
 |mk (z:Int) (m:Nat) (_:vs=[.int z,.int m]) (_:1<=m) (_:m<=90) (_:∀(p:Addr)(sp:List Nat)(H':Hp),aX H H'->H' p=some (.lst<|sp.map nV)->(∀x∈sp,x<m)->sp.length<=100->Q (.ref p) H')
theorem IV{z:Int}{m:Nat}(h:1<=m):∃n:Nat,z % (m:Int)=n/\n<m:=by
 let h1:=dO z (b:=(m:Int)) ();let h2:=gD z (b:=(m:Int)) ();exact#[(z % (m:Int)).toNat,(),()]
theorem gu{zs:List Int}{m:Nat}(h:∀z∈zs,0<=z/\z<(m:Int)):∃sp:List Nat,zs.map V.int=sp.map nV/\sp.length=zs.length/\∀x∈sp,x<m:=by
 refine#[zs.map Int.toNat,?_,aC ..,λx hx=>?_]
 ·rw[dC];refine lU λz hz=>?_
  have :=h z hz;show V.int z=V.int (z.toNat:Int)
  congr 1
  lia
 ·obtain⟨z,hz,rfl⟩:=bH.mp hx;have :=h z hz;lia
theorem fj(bi:Bi mg)(F:fT K "_law_some" "_law_some" qg f fd):cZ P w K mg base fL 1 f fd ["cell","many"] spSm:=by
 refine F.okz lg λeO A outer s H vs Q E hr h=>?_
 obtain⟨z,m,rfl,h1,hm,q⟩:=h;obtain⟨x,ex,hx⟩:=IV (z:=z/3) h1;obtain⟨y,t,hy⟩:=IV (z:=z/3/m) h1;let b:(0:Int)<m:=by lia
 calc#[_,have nd:=lg.nd;zC #[]<|zC (yA #[] (zI<|zR<|zO VZ rfl bi.sorted vU<|zE (xF NN rfl bi.set ui #[]) zJ) zL) #[],?_];refine zD λN a=>?_
 dsimp![];calc#[(),rfl,?_];by_cases k:z % 3=0
 ·rw[aT k];calc#[#[(),()],b,zH (by simp),λp hp=>?_];rw[ex];exact q p [x] _ (zB hp _) zA (λy hy=>by rw[aP.mp hy];calc hx) (by simp)
 rw[aH k];calc a _ _ ?_;clear a;refine zD λN a=>?_
 dsimp![];calc#[(),rfl,?_];by_cases l:z % 3=1
 ·rw[aT l];calc#[#[(),()],b,#[(),()],#[b,()],b,zH (by simp),λp hp=>?_];rw[ex,t];let s1:=zB hp<|.lst [nV x,nV y];calc#[[(x:Int),(y:Int)],cO.of zA,rfl,λp2 iP=>?_];let s2:=zB iP<|WkO P w p2 [(x:Int),(y:Int)];calc#[_,zA,λu zs g v e=>?_];let B:=zB g<|.lst<|zs.map V.int;obtain⟨sp,C,I,D⟩:=gu (zs:=zs) (m:=m) λz hz=>by
   have :=e z hz;simp only[bI,dA,or_false]at this;rcases this with rfl |rfl<;>lia
  refine q u sp _ ((s1.trans s2).trans B) (by rw[zA,C]) D ()
 rw[aH l];calc a _ _ ?_;clear a;refine zD λN a=>?_
 dsimp![];calc#[#[(),()],.inr #[(),()],#[(),(),()],p1025,a _ _ ?_];clear a;generalize z/3*982451653 % 10^Int.toNat 25=sl;refine zD λN a=>?_
 dsimp![];calc#[zH (by simp),λp hp=>a _ _ ?_];clear a;let s1:=zB hp<|.lst [];let o:upd H p (.lst []) p=some (.lst []):=zA;generalize upd H p (.lst [])=H1 at s1 o⊢;refine zK (λσ H'=>∃(r d:Option V)(sp:List Nat),aX H H'/\H' p=some (.lst<|sp.map nV)/\(∀x∈sp,x<m)/\sp.length<=100/\σ=[some<|V.int z,some<|V.int m,r,some<|V.ref p,d]) (λN a=>?_) λσ H' h=>?_
 ·dsimp![];calc#[(),(),?_];refine jO (n:=(m:Int).toNat) (λi σ H'=>∃(sl:Int)(d:Option V)(sp:List Nat),aX H H'/\H' p=some (.lst<|sp.map nV)/\(∀x∈sp,x<m)/\sp.length<=i/\σ=[some<|V.int z,some<|V.int m,some<|V.int sl,some<|V.ref p,d]) #[_,_,[],s1,o,(λx z=>by cases z),aG _,rfl] (λi σ H' hi h=>?_) λσ H' h=>?_
  ·obtain⟨sl,d,sp,s2,c,h2,j,rfl⟩:=h;let G:(0:Int)+(i:Int)=((i:Nat):Int):=by lia
   dsimp![];calc#[(),rfl,?_];rw[G];split
   ·calc#[.inl #[rfl,_,cO.of c],_,c,jD (by rw[aC];lia),#[(),()],s2.upd hp,_,_,sp++[i],by rw[zA,aQ];rfl,λx hx=>?_,by simp;lia,rfl,rfl];rcases bJ.mp hx with hx |hx
    ·exact h2 x hx
    ·rw[aP.mp hx];lia
   ·exact#[#[(),()],s2,_,_,sp,c,h2,(),rfl,rfl]
  ·obtain⟨sl,d,sp,s2,c,h2,j,rfl⟩:=h;exact a _ _ #[_,_,sp,s2,c,h2,(),rfl]
 obtain⟨r,d,sp,s2,c,h2,j,rfl⟩:=h;dsimp![];exact q p sp _ s2 c h2 j
abbrev s_e:Stmt:=top 67
theorem sc_e:bV ["near","sets","t","parts","kept"] ["near","sets","t"] (zF s_e):=by rfl'
theorem uW{m:Nat}{xs:List Nat}(h1:xs.Pairwise (· < ·))(h2:∀x∈xs,x<m):xs.length<=m:=by
 have :=qL (l:=xs) (m:=List.range m) (h1.imp λh=>bK h) λx hx=>bL.mpr (h2 x hx)
 rwa[bU]at this
def oT(H:Hp)(qs:List Addr)(vs:List (List Nat)):Prop:=qs.length=vs.length/\∀(i:Nat)(p:Addr)(v:List Nat),qs[i]?=some p->vs[i]?=some v->H p=some (.lst<|v.map nV)
theorem oT.same(e:aX H H')(h:oT H qs vs):oT H' qs vs:=#[h.1,λi p v h1 h2=>e _ _<|h.2 i p v h1 h2]
theorem oT.snoc{v:List Nat}(h:oT H qs vs)(hp:H p=some (.lst<|v.map nV)):oT H (qs++[p]) (vs++[v]):=by
 calc#[by rw[aK,aK,h.1];rfl,λi a v' h1 h2=>?_];by_cases hi:i<qs.length
 ·rw[bM hi]at h1;rw[bM (by rw[←h.1];calc hi)]at h2;exact h.2 i a v' h1 h2
 ·have :i=qs.length:=by
   have :=(aD.mp h1).1;rw[aK,bP]at this;lia
  subst this;rw[bS<|aG _,iG]at h1;rw[bS (by rw[h.1];calc aG _),h.1,iG]at h2;simp at h1 h2;subst h1 h2;exact hp
theorem ac(l:List Nat):(l.map nV).all kD=true:=by
 rw[cA];intro x hx;obtain⟨y,_,rfl⟩:=bH.mp hx;rfl
theorem ip{l:List Nat}:inV (V.int i) (l.map nV)=decide (i∈l):=by
 rw[cF,bZ];unfold inV;rw[List.any_map,fG];constructor
 ·rintro⟨y,hy,e⟩;let e:((y:Int)==(i:Int))=true:=e;let e:y=i:=by have :=eq_of_beq e;lia
  rw[←e];exact hy
 ·intro h;exact#[i,h,show((i:Int)==(i:Int))=true by simp]
def dg(K:W.Frag):Nat->Sp
 |0=>λ_ _ _ _=>False
 |1=>λ_ _ _ _=>False
 |n+2=>λvs H Q _=>∃(na d:Addr)(v:V)(t:Tm)(m:Nat)(ps:List (Nat×Nat))(kvs:List (eV×V))(S:Str->List Nat),vs=[.ref na,.ref d,v]/\GR H na m ps/\m<=90/\fX H t v/\gA n t/\wt t<=900/\H d=some (.dK kvs)/\(∀x∈iY t,∃l,yB kvs (.inr x)=some (.ref l)/\H l=some (.lst<|(S x).map nV))/\(∀z,(∀i∈S z,i<m)/\(S z).Pairwise (· < ·))/\∀(p:Addr) H',aX H H'->H p=none->H' p=some (.lst<|(val m ps S t).map nV)->Q (.ref p) H'
theorem MT(bi:Bi mg)(h_l:fI P w K mg base 1 "_law_counter" ["near","spots"] (dh K))(F:fT K "_law_worth" "_law_worth" s_e f fd)(b:Binds K fd ["near","sets","t"] [])(m:mg "_law_worth"=some (.ref f)):∀n,cZ P w K mg base fL n f fd ["near","sets","t"] (dg K n):=by
 refine UU F b m (λvs H Q E h=>h) (λn h_e=>?_)
 match n with
 |0=>exact TH λvs H Q E h=>h
 |n+1=>
 refine F.okz sc_e λeO A outer s H vs Q E hr h=>?_
 obtain⟨na,d,v,t,m,ps,kvs,S,rfl,G,B,ht,hf,hw,hd,hS,Z,q⟩:=h;let hNl:∀{J:Hp},aX H J->∃xs:List V,cO K J na xs/\xs.length=m:=λsJ=>by
  obtain⟨us,h1,h2,_⟩:=G;exact#[_,cO.of<|sJ _ _ h1,by rw[aC,h2]]
 calc#[_,have nd:=sc_e.nd;zC #[]<|zC (yA #[] (zI<|zR<|UZ rfl bi.list rfl bi.range rfl #[]) zL)<|zC (yA #[] (zI<|zR<|xF kH rfl bi.list uL<|zE (VB (xW hr) #[] #[] λ_ _=>rfl) zJ) zL)<|zC (xR (i:=3) nd rfl (Or.inr rfl)<|zW ["part"] ["near","sets"] [0,1] (kO<|xM YT #[] (jK zS) jL) (λ_ _ _ _ nd=>yG 0 nd) (λ_ _ _ _=>zY) λ_ _ _ _=>(zV h_e hr rfl #[]))<|zC (yA #[] (zI<|zR<|zV h_l hr.m rfl<|zE #[]<|zE (zP zQ #[] zS) zJ) zL)<|zC (yA #[] (zI<|xR (i:=3) nd rfl (Or.inr rfl)<|zW ["part"] ["near"] [0] #[] (λ_ _ _ _ nd=>yG 0 nd) (λ_ _ _ _=>zY) λ_ _ _ _=>(zV h_l hr.m rfl #[])) zL)<|zC (RP (i:=4) "spot" ["spot"] ["parts"] [3] nd rfl #[] (λ_ _ _ _ nd=>vP (i:=0) nd rfl<|Or.inr rfl) (λ_ _ _ _=>uG<|xH<|zO (NP K) rfl bi.all uM<|zE (by calc(zW ["part"] ["spot"] [0] (AU K #[]) (λ_ _ _ _ nd=>yG 0 nd) (λ_ _ _ _=>zY) λ_ _ _ _=>(qR (FD K) #[] #[] (by with_unfolding_all rfl)))) zJ) λ_ _ _ _=>#[]) #[],?_];cases t with
 |name x=>
  obtain⟨a,rfl,ha⟩:=fX.name ht;obtain⟨l,hl1,hl2⟩:=hS x (by rw[iY];calc aP.mpr rfl);refine zD λN g=>?_
  dsimp![];calc#[_,cW.of ha,.str "name",gR,rfl,?_];rw[aH (by intro z;calc absurd (V.str.inj z) ())];calc g _ _ ?_;clear g;refine zD λN g=>?_
  dsimp![];calc#[_,cW.of ha,.str "name",gR,rfl,?_];rw[aH (by intro z;calc absurd (V.str.inj z) ())];calc g _ _ ?_;clear g;refine zD λN g=>?_
  dsimp![];calc#[_,cW.of ha,.str "name",gR,rfl,?_];rw[aT rfl];calc#[_,cW.of ha,.str x,oQ,_,hl1▸oV.k (k:=.inr x) hd,?_];calc#[l,rfl,_,.inl<|cO.of hl2,λp hp=>q p _ (zB hp _) hp ?_];rw[val];exact zA
 |node wd ts=>
  obtain⟨a,us,rfl,ha,hu⟩:=fX.node ht;let hwd:=hf.wrd;let hsh:=hf.sh;let hl:=hu.length;let hll:=wM ts;rw[wt]at hw;let hwr:val m ps S (.node wd ts)=jA m ps wd (ts.map<|val m ps S):=by rw[val,qY]
  rw[hwr]at q;let hSm':∀t∈ts,∀x∈iY t,∃l,yB kvs (.inr x)=some (.ref l)/\H l=some (.lst<|(S x).map nV):=λt ht x hx=>hS x (by rw[iY];calc pO.mpr #[t,ht,hx])
  refine zD λN g=>?_
  dsimp![];calc#[_,cW.of ha,.str wd,gR,rfl,?_];by_cases Y:wd="none"
  ·rw[aT (by rw[Y])];let e:jA m ps wd (ts.map<|val m ps S)=[]:=by unfold jA;rw[aT Y]
   rw[e]at q;exact#[zH (),λp hp=>q p _ (zB hp _) hp zA]
  rw[aH λz=>Y<|V.str.inj z];calc g _ _ ?_;clear g;refine zD λN g=>?_
  dsimp![];calc#[_,cW.of ha,.str wd,gR,rfl,?_];by_cases c2:wd="all"
  ·rw[aT (by rw[c2])];let e:jA m ps wd (ts.map<|val m ps S)=List.range m:=by unfold jA;rw[aH Y,aT c2]
   rw[e]at q;obtain⟨xs,hx1,hx2⟩:=hNl<|aX.refl _;dsimp![tLRg];calc#[m,.inl #[xs,hx1,hx2.symm],m,rfl,(),λp hp=>q p _ (zB hp _) hp ?_];rw[zA]
  rw[aH λz=>c2<|V.str.inj z];calc g _ _ ?_;clear g;refine zD λN g=>?_
  dsimp![];calc#[_,cW.of ha,.str wd,gR,rfl,?_];rw[aH λz=>hwd.ne<|V.str.inj z];calc g _ _ ?_;clear g;refine zD λN g=>?_
  dsimp![];calc#[_,cW.of ha,qF _ _,λp2 iP=>?_];rw[JD];let s2:=zB iP<|.tup us;let k2:upd H p2 (.tup us) p2=some (.tup us):=zA;generalize upd H p2 (.tup us)=H2 at s2 k2⊢;calc#[#[_,cW.of k2],?_];refine FW (xs:=us) (λi ys σ H'=>aX H2 H'/\(∃qs:List Addr,ys=qs.map V.ref/\qs.length=i/\oT H' qs ((ts.map<|val m ps S).take i))/\∃o,σ=[o,some<|V.ref na,some<|V.ref d]) #[aX.refl _,#[[],rfl,rfl,rfl,λi c v h=>by simp at h],_,rfl] (zH ()) (λi ys σ H' e=>?_) (λi ys σ H' e=>cW.of<|e.1 _ _ k2) (λi x ys σ H' C' hx e hC=>?_) λys σ H' e p3 hp3=>g _ _ ?_
  ·obtain⟨_,⟨qs,rfl,h1,_⟩,_⟩:=e;rw[aC,h1];exact aG _
  ·obtain⟨es,⟨qs,rfl,hcl,nY⟩,o,rfl⟩:=e;obtain⟨t,ht',oM⟩:=hu.getV hx;cases n with
   |zero=>have :=hf.2;subst this;simp at ht'
   |succ n=>
    let hm:=aS ht';let hmt:=vK hm;let D:=s2.trans es;dsimp![];refine#[na,d,x,t,m,ps,kvs,S,rfl,G.same D,B,fX.tups D.tups oM,hf.2 t hm,(),D _ _ hd,λx hx=>?_,Z,λp H3 e3 hp k3=>hC _ _ _ #[es.trans e3,#[qs++[p],by rw[aQ];rfl,by rw[aK,hcl];rfl,?_],_,rfl]]
    ·obtain⟨l,q1,q2⟩:=hSm' t hm x hx;exact#[l,q1,D _ _ q2]
    obtain⟨mN,hi2⟩:=aD.mp (show(ts.map<|val m ps S)[i]?=some (val m ps S t) by rw[aF,ht'];rfl);rw[aI mN,hi2];exact(nY.same e3).snoc k3
  clear g;obtain⟨es,⟨qs,rfl,hcl,nY⟩,o,rfl⟩:=e;rw[show(ts.map<|val m ps S).take us.length=ts.map (val m ps S)from aU (by rw[aC];lia)]at nY;let D:=(s2.trans es).trans (zB hp3<|.lst<|qs.map V.ref);replace nY:=nY.same<|zB hp3<|.lst<|qs.map V.ref;let k3:upd H' p3 (.lst<|qs.map V.ref) p3=some (.lst<|qs.map V.ref):=zA;generalize upd H' p3 (.lst<|qs.map V.ref)=H3 at D k3 nY⊢;let lR:∀v∈ts.map (val m ps S),(∀x∈v,x<m)/\v.length<=m:=λv hv=>by
   obtain⟨t,ht,rfl⟩:=bH.mp hv;let h1:∀x∈val m ps S t,x<m:=λx hx=>YJ (λy i hi=>(Z y).1 i hi) t hx
   exact#[h1,uW (wO (λy=>(Z y).2) t) h1]
  let hvl:(ts.map<|val m ps S).length=ts.length:=aC _;generalize hvs:ts.map (val m ps S)=vs at nY q lR hvl;refine zD λN g=>?_
  dsimp![];calc#[_,cW.of<|D _ _ ha,.str wd,gR,rfl,?_];by_cases c3:wd="not"
  ·rw[aT (by rw[c3])];let h1:ts.length=1:=by
    rcases hsh with h |h |h |h |h
    ·exact absurd h.1 Y
    ·exact absurd h.1 c2
    ·exact h.2
    ·rw[c3]at h;exact absurd h.1 ()
    ·rw[c3]at h;exact absurd h.1 ()
   obtain⟨U,rfl⟩:∃U,vs=[U]:=by
    match vs,(show vs.length=1 by lia)with
    |[U],_=>exact#[U,rfl]
   obtain⟨I,rfl⟩:∃I,qs=[I]:=by
    match qs,(show qs.length=1 by rw[nY.1];rfl)with
    |[c0],_=>exact#[c0,rfl]
   let e:jA m ps wd [U]=cnt m ps U:=by unfold jA;rw[aH Y,aH c2,aT c3];rfl
   rw[e]at q;let W:=lR U aV;calc#[_,cO.of k3,.ref I,gR,?_];exact#[na,I,m,ps,U,rfl,B,G.same D,cO.of<|nY.2 0 I U rfl rfl,W.1,(),λp H4 s4 hp k4=>q p H4 (D.trans s4) (D.free hp) k4]
  rw[aH λz=>c3<|V.str.inj z];calc g _ _ ?_;clear g;refine zK (λσ H'=>∃(p4:Addr)(qs':List Addr),aX H3 H'/\H' p4=some (.lst<|qs'.map V.ref)/\oT H' qs' (if wd="either" then vs.map (cnt m ps)else vs)/\σ=[some<|V.ref na,some<|V.ref d,some<|V.ref a,some<|V.ref p4,none]) (λN g=>?_) λσ H4 h=>?_
  ·dsimp![];calc#[_,cW.of<|D _ _ ha,.str wd,gR,rfl,?_];by_cases r:wd="either"
   ·rw[aT (by rw[r])];calc#[#[_,cO.of k3],?_];refine yM (xs:=qs.map V.ref) (λi ys σ H'=>aX H3 H'/\(∃rs:List Addr,ys=rs.map V.ref/\rs.length=i/\oT H' rs ((vs.map<|cnt m ps).take i))/\∃o,σ=[o,some<|V.ref na]) #[aX.refl _,#[[],rfl,rfl,rfl,λi c v h=>by simp at h],_,rfl] (zH (by rw[aC,nY.1];lia)) (λi ys σ H' e=>?_) (λi ys σ H' e=>cO.of<|e.1 _ _ k3) (λi x ys σ H' C' hx e hC=>?_) λys σ H' e p4 hp4=>g _ _ ?_
    ·obtain⟨_,⟨rs,rfl,h1,_⟩,_⟩:=e;rw[aC,h1];exact aG _
    ·obtain⟨j,⟨rs,rfl,hdl,L⟩,o,rfl⟩:=e;rw[aF]at hx;obtain⟨I,M,rfl⟩:=aL.mp hx;let O:i<vs.length:=by rw[←nY.1];exact(aD.mp M).1
     let W:vs[i]?=some vs[i]:=aA O;let hlv:=lR vs[i] (bT O);let s4:=D.trans j;dsimp![];calc#[na,I,m,ps,vs[i],rfl,B,G.same s4,cO.of<|j _ _<|nY.2 i I _ M W,hlv.1,(),λp H4 X hp k5=>hC _ _ _ #[j.trans X,#[rs++[p],by rw[aQ];rfl,by rw[aK,hdl];rfl,?_],_,rfl]];obtain⟨mN,hi2⟩:=aD.mp (show(vs.map<|cnt m ps)[i]?=some (cnt m ps vs[i]) by rw[aF,W];rfl);rw[aI mN,hi2];exact(L.same X).snoc k5
    obtain⟨j,⟨rs,rfl,hdl,L⟩,o,rfl⟩:=e;rw[aC]at L hdl;rw[show(vs.map<|cnt m ps).take qs.length=vs.map (cnt m ps)from aU (by rw[aC,nY.1];calc aG _)]at L;calc#[p4,rs,j.trans<|zB hp4 _,zA,?_,rfl];rw[aT r];exact L.same<|zB hp4 _
   ·rw[aH λz=>r<|V.str.inj z];calc g _ _ #[p3,qs,aX.refl _,k3,?_,rfl];rw[aH r];exact nY
  obtain⟨p4,rs,s34,k4,R,rfl⟩:=h;let s4:=D.trans s34;let hlt':(if wd="either" then vs.map (cnt m ps)else vs).length<=900:=by
   split
   ·rw[aC];lia
   ·lia
  let hlt2:∀v∈(if wd="either" then vs.map (cnt m ps)else vs),v.length<=m:=λv hv=>by
   split at hv
   ·obtain⟨u,_,rfl⟩:=bH.mp hv;exact uW (uB ..) λx hx=>VV hx
   ·exact(lR v hv).2
  generalize hws:(if wd="either" then vs.map (cnt m ps)else vs)=ws at R hlt' hlt2;let hval:jA m ps wd vs=if wd="either" then cnt m ps (cmn m ws)else cmn m ws:=by
   unfold jA;rw[aH Y,aH c2,aH c3,←hws];by_cases r:wd="either"
   ·rw[aT r,aT r,aH (by rw[r];decide+kernel)]
   ·rw[aH r,aH r,aT];rcases hsh with h |h |h |h |h
    ·exact absurd h.1 Y
    ·exact absurd h.1 c2
    ·exact absurd h.1 c3
    ·exact h.1
    ·exact absurd h.1 r
  rw[hval]at q;refine zD λN g=>?_
  dsimp![];obtain⟨xs,hx1,hx2⟩:=hNl s4;calc#[m,.inl #[xs,hx1,hx2.symm],(),(),?_];refine XM (n:=(m:Int).toNat) (λi ys σ H'=>aX H4 H'/\ys=((List.range i).filter λi=>ws.all λv=>decide<|i∈v).map nV/\∃o,σ=[o,some<|V.ref p4]) #[aX.refl _,rfl,_,rfl] (zH ()) (λi ys σ H' e=>?_) (λi ys σ H' C' D' hi e hC hD=>?_) λys σ H' e p5 hp5=>g _ _ ?_
  ·rw[e.2.1,aC];exact bX (dX _ _) (by rw[bU];calc aG _)
  ·obtain⟨j,rfl,o,rfl⟩:=e;let e0:(0:Int)+(i:Int)=((i:Nat):Int):=by lia
   dsimp![];rw[e0];calc#[#[_,cO.of<|j _ _ k4],?_];refine yM (xs:=rs.map V.ref) (λk ys σ T=>T=H'/\ys=((ws.take k).map λv=>decide<|i∈v).map V.bl/\∃o,σ=[o,some<|V.int i]) #[rfl,rfl,_,rfl] (zH (by rw[aC,R.1];lia)) (λk ys σ T e=>?_) (λk ys σ T e=>by rw[e.1];calc cO.of<|j _ _ k4) (λk x ys σ T C hx e hC'=>?_) λys σ T e p6 hp6=>?_
   ·obtain⟨_,rfl,_⟩:=e;rw[aC,aC,bD];lia
   ·obtain⟨rfl,rfl,o,rfl⟩:=e;rw[aF]at hx;obtain⟨I,M,rfl⟩:=aL.mp hx;let O:k<ws.length:=by rw[←R.1];exact(aD.mp M).1
    dsimp![];calc#[I,_,rfl,.inl<|cO.of<|j _ _<|R.2 k I _ M<|aA O,rfl,ac _,?_];rw[aH aY,ip];calc hC' _ _ _ #[rfl,?_,_,rfl];rw[aI O,aQ,aQ];rfl
   obtain⟨rfl,rfl,oo,rfl⟩:=e;rw[aC,aU (by rw[R.1];calc aG _)];let s6:=zB hp6 (.lst<|(ws.map λv=>decide<|i∈v).map V.bl);calc#[p6,rfl,_,cO.of zA,?_];let ea:((ws.map λv=>decide<|i∈v).all id)=(ws.all λv=>decide<|i∈v):=by
    rw[iJ];rfl
   rw[ea];let hfl:(List.range<|i+1).filter (λi=>ws.all λv=>decide<|i∈v)=(List.range i).filter (λi=>ws.all λv=>decide<|i∈v)++(if(ws.all λv=>decide<|i∈v)=true then [i]else []):=by
    rw[dR,dN,lK,List.filter_nil]
   by_cases hb:(ws.all λv=>decide<|i∈v)=true
   ·rw[aT hb];calc hC _ _ _ #[j.trans s6,?_,_,rfl];rw[hfl,aT hb,aQ];rfl
   ·rw[aH hb];calc hD _ _ #[j.trans s6,?_,_,rfl];rw[hfl,aH hb,cL]
  clear g;obtain⟨j,rfl,o,rfl⟩:=e;rw[bE];let X:=(s4.trans j).trans (zB hp5<|.lst<|((List.range m).filter λi=>ws.all λv=>decide<|i∈v).map nV);let k5:upd H' p5 (.lst<|((List.range m).filter λi=>ws.all λv=>decide<|i∈v).map nV) p5=some (.lst<|(cmn m ws).map nV):=zA;let hfr:H p5=none:=(s4.trans j).free hp5;generalize upd H' p5 (.lst<|((List.range m).filter λi=>ws.all λv=>decide<|i∈v).map nV)=H5 at X k5⊢;refine zD λN g=>?_
  dsimp![];calc#[_,cW.of<|X _ _ ha,.str wd,gR,rfl,?_];by_cases r:wd="either"
  ·rw[aT (by rw[r])];rw[aT r]at q;exact#[na,p5,m,ps,cmn m ws,rfl,B,G.same X,cO.of k5,λx hx=>VW hx,by have :=uW (CO m ws) λx hx=>VW hx;lia,λp H6 s6 hp k6=>q p H6 (X.trans s6) (X.free hp) k6]
  ·rw[aH λz=>r<|V.str.inj z];rw[aH r]at q;calc g _ _ ?_;clear g;dsimp![];exact q p5 H5 X hfr k5
abbrev s_R:Stmt:=top 70
theorem sc_R:bV ["script","k","names","many","pairs","near","rows","n","some"] ["script","k","names"] (zF s_R):=by rfl'
abbrev qc:Stmt:=top 72
theorem kq:bV ["world","sets","name","spots"] ["world"] (zF qc):=by rfl'
structure a7(H:Hp)(wa:Addr)(m:Nat)(ps:List (Nat×Nat))(T:List Ro)(ca la:Addr)(us:List V):Prop where
 tup:H wa=some (.tup [nV m,.ref ca,.ref la])
 cl:H ca=some (.lst us)
 dat:bN H (ps.map sE) us
 ok2:DT m ps
 pl:ps.length<=1000
 m1:1<=m
 m90:m<=90
 rows:H la=some (.lst ((T.map (·.1)).map V.ref))
 tr:sQ H m T
 nd:(T.map (·.2.1)).Nodup
 tl:T.length<=5
theorem a7.same{wa:Addr}{m:Nat}{ca la:Addr}(e:aX H H')(h:a7 H wa m ps T ca la us):a7 H' wa m ps T ca la us:=
 #[e _ _ h.tup,e _ _ h.cl,bN.same e h.dat,h.ok2,h.pl,h.m1,h.m90,e _ _ h.rows,h.tr.same e,h.nd,h.tl]
theorem RC:∀{T:List Ro}{x:Str},x∉T.map (·.2.1)->yB (T.map λe=>((.inr e.2.1:eV),V.ref e.2.2.1)) (.inr x)=none
 |[],x,_=>rfl
 |e::T,x,h=>by
  rw[bY]at h;let h1:=List.ne_of_not_mem_cons h;let a:yB ((e::T).map λe=>((.inr e.2.1:eV),V.ref e.2.2.1)) (.inr x)=yB (T.map λe=>((.inr e.2.1:eV),V.ref e.2.2.1)) (.inr x):=jT λz=>h1 (rD z).symm;rw[a];exact RC<|List.not_mem_of_not_mem_cons h
theorem UQ:∀{T:List Ro}{e:Ro},(T.map (·.2.1)).Nodup->e∈T->yB (T.map λe=>((.inr e.2.1:eV),V.ref e.2.2.1)) (.inr e.2.1)=some (.ref e.2.2.1)
 |r::T,e,hn,h=>by
  rw[bY]at hn;let a:=fS.mp hn;rcases bI.mp h with h |h
  ·subst h;exact qD rfl
  ·let b:yB ((r::T).map λe=>((.inr e.2.1:eV),V.ref e.2.2.1)) (.inr e.2.1)=yB (T.map λe=>((.inr e.2.1:eV),V.ref e.2.2.1)) (.inr e.2.1):=jT λz=>a.1<|bH.mpr #[e,h,(rD z).symm];rw[b];exact UQ a.2 h
inductive spWd (K:W.Frag) (vs:List V) (H:Hp) (Q:VK) (E:XK):Prop
 |mk (a na:Addr) (ns:List Int) (k j:Nat) (zs:List Str) (_:vs=[.ref a,.int k,.ref na]) (_:cO K H a (ns.map V.int)) (_:ns.length<=63) (_:k<=50) (_:b8 H na j zs) (_:1<=j) (_:j<=5) (_:∀(wa:Addr)(m:Nat)(ps:List (Nat×Nat))(T:List Ro)(ca la:Addr)(us:List V)(H':Hp),aX H H'->a7 H' wa m ps T ca la us->(T.map (·.2.1)).Perm zs->(∀e∈T,∃sp:List Nat,(∀x∈sp,x<m)/\e.2.2.2=cnt m ps sp)->Q (.ref wa) H')
inductive spSt (vs:List V) (H:Hp) (Q:VK) (E:XK):Prop
 |mk (wa:Addr) (m:Nat) (ps:List (Nat×Nat)) (T:List Ro) (ca la:Addr) (us:List V) (_:vs=[.ref wa]) (_:a7 H wa m ps T ca la us) (_:∀(p:Addr)(H':Hp),aX H H'->H' p=some (.dK<|T.map λe=>(.inr e.2.1,.ref e.2.2.1))->Q (.ref p) H')
theorem SK(bi:Bi mg)(h_K:fI P w K mg base 1 "_law_draw" ["script","k"] (AH K))(h_E:fI P w K mg base 1 "_law_clashes" ["spell","many"] spCs)(h_L:fI P w K mg base 1 "_law_near" ["many","pairs"] AG)(h_aa:fI P w K mg base 1 "_law_some" ["cell","many"] spSm)(h_l:fI P w K mg base 1 "_law_counter" ["near","spots"] (dh K))(F:fT K "_law_world" "_law_world" s_R f fd):cZ P w K mg base fL 2 f fd ["script","k","names"] (spWd K):=by
 refine F.okz sc_R λeO A outer s H vs Q E hr h=>?_
 obtain⟨a,na,ns,k,j,zs,rfl,v,hl,hk,iZ,hj1,hj5,q⟩:=h;calc#[_,have nd:=sc_R.nd;zC #[]<|zC #[]<|zC #[]<|zC #[]<|zC (yD bR rfl #[] #[]<|zC #[]<|zI<|xJ<|qK cR dW dU jE #[]<|zE (yW<|zE (zP zQ #[] #[]) #[]) zJ)<|zI<|zR<|yW<|zE #[]<|zE #[]<|zE (zO WA rfl bi.sorted vU #[]) zJ,?_];refine zD λN c=>?_
 dsimp![];calc#[a,ns,k,rfl,v,hl,(),λz hz=>#[z,rfl,(),c _ _ ?_]];clear c;obtain⟨m,em⟩:∃m:Nat,1+z % 7=(m:Int):=#[(1+z % 7).toNat,()]
 let M:1<=m:=by lia
 let hm7:m<=7:=by lia
 rw[em];refine zD λN c=>?_
 dsimp![];calc#[a,ns,k+1,rfl,v,hl,(),λz2 hz2=>#[z2,rfl,.inr #[(),()],#[(),(),()],(),?_]];calc#[_,m,rfl,(),λca us ps H1 s1 hca kca o hok iT=>c _ _ ?_];clear c;replace v:=aX.seq s1 v;replace iZ:=iZ.same s1;refine zD λN c=>?_
 dsimp![];calc#[m,ca,us,ps,rfl,(),kca,o,hok,λnr H2 s2 Z=>c _ _ ?_];clear c;replace v:=aX.seq s2 v;replace iZ:=iZ.same s2;replace kca:=s2 _ _ kca;replace o:=bN.same s2 o;let s02:=s1.trans s2;refine zD λN c=>?_
 dsimp![];calc#[zH (),λra O=>c _ _ ?_];clear c;let s3:=zB O<|.lst [];let kra:upd H2 ra (.lst []) ra=some (.lst []):=zA;generalize upd H2 ra (.lst [])=H3 at s3 kra⊢;let hjz:=iZ.len;refine zK (λσ H'=>∃(G I:Option V)(T:List Ro),aX H2 H'/\H' ra=some (.lst ((T.map (·.1)).map V.ref))/\sQ H' m T/\(∀e∈T,∃sp:List Nat,(∀x∈sp,x<m)/\e.2.2.2=cnt m ps sp)/\T.map (·.2.1)=zs/\σ=[some<|V.ref a,some<|V.int k,some<|V.ref na,some<|V.int m,some<|V.ref ca,some<|V.ref nr,some<|V.ref ra,G,I]) (λN c=>?_) λσ H' h=>?_
 ·dsimp![];calc#[zs.length,.inl #[_,cO.of<|s3 _ _ iZ.lst,(aC _).symm],(),(),?_];refine jO (n:=(zs.length:Int).toNat) (λi σ H'=>∃(G I:Option V)(T:List Ro),aX H2 H'/\H' ra=some (.lst ((T.map (·.1)).map V.ref))/\sQ H' m T/\(∀e∈T,e.2.2.1≠ra/\∃sp:List Nat,(∀x∈sp,x<m)/\e.2.2.2=cnt m ps sp)/\T.map (·.2.1)=zs.take i/\σ=[some<|V.ref a,some<|V.int k,some<|V.ref na,some<|V.int m,some<|V.ref ca,some<|V.ref nr,some<|V.ref ra,G,I]) #[_,_,[],s3,kra,(λe h=>by cases h),(λe h=>by cases h),rfl,rfl] (λi σ H' hi h=>?_) λσ H' h=>?_
  ·obtain⟨G,I,T,u,y,J,mX,r,rfl⟩:=h;let R:i<zs.length:=by lia
   let e0:(0:Int)+(i:Int)=((i:Nat):Int):=by lia
   rw[e0];refine zD λN c=>?_
   dsimp![];calc#[a,ns,k+2+i,rfl,aX.seq u v,hl,(),λz3 hz3=>?_];calc#[z3,m,rfl,M,(),λsa sp H5 g k5 S hspl=>c _ _ ?_];clear c;let B:=u.trans g;dsimp![];let C:T.length=i:=by have :=cM List.length r;rw[aC,bD]at this;lia
   calc#[.inl #[rfl,_,cO.of<|g _ _ y],_,cO.of<|B _ _ iZ.lst,V.str zs[i],zU (j:=i) (by rw[aF,aA R];rfl),?_];calc#[nr,sa,m,ps,sp,rfl,(),Z.same B,cO.of k5,S,(),λL H6 s6 U k6=>#[zH (),λp hp=>?_]];let W:=zB hp<|.tup [V.str zs[i],V.ref L];let k7:upd H6 p (.tup [V.str zs[i],V.ref L]) p=some (.tup [V.str zs[i],V.ref L]):=zA;generalize upd H6 p (.tup [V.str zs[i],V.ref L])=H7 at W k7⊢;let X:=(g.trans<|s6.trans W) _ _ y;let d:L≠ra:=λz=>by rw[z,g _ _ y]at U;cases U
   refine#[_,X,by rw[aC,aC,C];exact bQ (show i<64 by lia)<|zH (),(B.trans<|s6.trans W).upd O,_,_,T++[(p,zs[i],L,cnt m ps sp)],?_,λe he=>?_,λe he=>?_,?_,rfl,rfl]
   ·rw[zA,aQ,aQ];rfl
   ·let key:H7 e.1=some (.tup [.str e.2.1,.ref e.2.2.1])/\H7 e.2.2.1=some (.lst<|e.2.2.2.map nV)/\((∀i∈e.2.2.2,i<m)/\e.2.2.2.Pairwise (· < ·))/\e.2.2.1≠ra:=by
     rcases bJ.mp he with he |he
     ·have :=J.same (g.trans<|s6.trans W) e he;exact#[this.1,this.2.1,this.2.2,(mX e he).1]
     ·rw[aP.mp he];exact#[k7,W _ _ k6,#[λx hx=>VV hx,uB ..],d]
    obtain⟨g1,g2,g3,g4⟩:=key;let g5:e.1≠ra:=λz=>by rw[z,X]at g1;cases g1
    exact#[by rw[zG g5];exact g1,by rw[zG g4];exact g2,g3]
   ·rcases bJ.mp he with he |he
    ·exact mX e he
    ·rw[aP.mp he];exact#[d,sp,S,rfl]
   ·rw[aQ,r,aI R];rfl
  ·obtain⟨G,I,T,u,y,J,mX,r,rfl⟩:=h;rw[bE,aU<|aG _]at r;exact c _ _ #[_,_,T,u,y,J,(λe he=>(mX e he).2),r,rfl]
 obtain⟨G,I,T,u,y,J,hcn,r,rfl⟩:=h;let C:T.length=zs.length:=by have :=cM List.length r;rwa[aC]at this
 dsimp![];refine#[T.map (·.1),y,zs,by rw[aC,C],(),iZ.nd,λi b z hb hz=>?_,λl lH iK D=>#[zH (),λp hp=>?_]]
 ·rw[aF]at hb;obtain⟨e,he,rfl⟩:=aL.mp hb;rw[←r,aF,he]at hz;cases hz;exact#[_,(J e<|aS he).1]
 obtain⟨T',t,rfl⟩:=ZE D T rfl;let g:=(zB iK (.lst ((T'.map (·.1)).map V.ref))).trans (zB hp<|.tup [V.int m,V.ref ca,V.ref l]);let Y:(T'.map (·.2.1)).Perm zs:=by rw[←r];exact t.map _
 refine q p m ps T' ca l us _ ((s02.trans u).trans g) #[zA,(u.trans g) _ _ kca,bN.same (u.trans g) o,hok,(),M,(),zB hp _ _ _ zA,λe he=>J.same g e<|t.mem_iff.mp he,Y.nodup_iff.mpr iZ.nd,by rw[t.length_eq];lia] Y λe he=>hcn e<|t.mem_iff.mp he
theorem fk(bi:Bi mg)(F:fT K "_law_sets" "_law_sets" qc f fd):cZ P w K mg base fL 1 f fd ["world"] spSt:=by
 refine F.okz kq λeO A outer s H vs Q E hr h=>?_
 obtain⟨wa,m,ps,T,ca,la,us,rfl,d,q⟩:=h;calc#[_,have nd:=kq.nd;zC (xI 1 nd XB)<|zC (yD bR rfl #[] #[]<|zI<|ZY (xW hr) #[] #[] #[] rfl) #[],?_];refine zD λN o=>?_
 dsimp![];intro p hp;calc o _ _ ?_;clear o;let s1:=zB hp<|.dK [];let v:upd H p (.dK []) p=some (.dK []):=zA;generalize upd H p (.dK [])=H1 at s1 v⊢;let at2:∀{a b c:V},pI [a,b,c] 2=some c:=zU (j:=2) rfl;refine zK (λσ H'=>∃g i:Option V,aX H H'/\H' p=some (.dK<|T.map λe=>(.inr e.2.1,.ref e.2.2.1))/\σ=[some<|V.ref wa,some<|V.ref p,g,i]) (λN o=>?_) λσ H' h=>?_
 ·dsimp![];calc#[_,cW.of<|s1 _ _ d.tup,_,at2,la,rfl,#[_,cO.of<|s1 _ _ d.rows],?_];refine qU (xs:=(T.map (·.1)).map V.ref) (λk σ H'=>aX H H'/\H' p=some (.dK<|(T.take k).map λe=>(.inr e.2.1,.ref e.2.2.1))/\∃g i,σ=[some<|V.ref wa,some<|V.ref p,g,i]) #[s1,v,_,_,rfl] (λk σ H' _ h=>?_) (λk x σ H' hx h=>?_) λσ H' h=>?_
  ·exact cO.of<|h.1 _ _ d.rows
  ·obtain⟨s2,l,g,i,rfl⟩:=h;rw[aF,aF]at hx;obtain⟨a,ha,rfl⟩:=aL.mp hx;obtain⟨e,he,rfl⟩:=aL.mp ha;let r:=d.tr e<|aS he;dsimp![uA,jN,uK,AI];obtain⟨mN,n⟩:=aD.mp he;let t:yB ((T.take k).map λe=>((.inr e.2.1:eV),V.ref e.2.2.1)) (.inr e.2.1)=none:=by
    refine RC λhm=>?_
    obtain⟨B,u,y⟩:=bH.mp hm;obtain⟨j,z,rfl⟩:=cQ u;rw[bD]at z;rw[rE]at y;let nd:=d.nd;calc cH.mp nd j k (by rw[aC];lia) (by rw[aC];lia) () ?_;rw[dJ,dJ,y,n]
   calc#[_,cW.of<|s2 _ _ r.1,rfl,_,_,rfl,_,_,rfl,rfl,_,tF.k (k:=.inr e.2.1) l (by have :=d.tl;have :=dH;rw[aC,bD];lia),s2.upd hp,?_,_,rfl];rw[zA,RK _ t,aI mN,aQ,n];rfl
  ·obtain⟨s2,l,g,i,rfl⟩:=h;rw[aC,aC,aU<|aG _]at l;exact o _ _ #[_,_,s2,l,rfl]
 obtain⟨g,i,s2,l,rfl⟩:=h;dsimp![];exact q p H' s2 l
abbrev s_x:Stmt:=top 73
theorem sc_x:bV ["world","most","last","pair","near","word","one"] ["world","most"] (zF s_x):=by rfl'
theorem TM(n:Nat)(xs:List Nat)(h:xs.length<=1000):gY (n+1) (.lst<|xs.map λ(x:Nat)=>Dt.int (x:Int)):=#[by rw[aC];exact h,λd hd=>by obtain⟨x,_,rfl⟩:=bH.mp hd;cases n<;>trivial]
theorem ig{p q:Nat×Nat}(h:TV p q):HT.lexLt [(p.1:Int),p.2] [(q.1:Int),q.2]=true:=by
 rw[HT.lexLt_cons];by_cases e:(p.1:Int)=q.1
 ·rw[aT e,HT.lexLt_cons,aH (by unfold TV at h;lia)];exact cN (by unfold TV at h;lia)
 ·rw[aH e];exact cN (by unfold TV at h;lia)
inductive PN (K:W.Frag) (vs:List V) (H:Hp) (Q:VK) (E:XK):Prop
 |mk (wa ca la:Addr) (m mo:Nat) (ps:List (Nat×Nat)) (T:List Ro) (us:List V) (_:vs=[.ref wa,.int mo]) (_:H wa=some (.tup [nV m,.ref ca,.ref la])) (_:H ca=some (.lst us)) (_:bN H (ps.map sE) us) (_:H la=some (.lst ((T.map (·.1)).map V.ref))) (_:sQ H m T) (_:1<=m) (_:m<=80) (_:m<=mo) (_:DT m ps) (_:ps.Pairwise TV) (_:ps.length<=6400) (_:T.length<=10) (_:(T.map (·.2.1)).Pairwise (λx y=>x.cps.toList<y.cps.toList)) (_:(∀e∈T,Nm e.2.1)) (_:(∀e∈T,cnt m ps (cnt m ps e.2.2.2)=e.2.2.2)) (_:∀H',aX H H'->Q (.bl true) H')
theorem VF(bi:Bi mg)(h_F:fI P w K mg base 1 "_law_whole" ["found_v"] nh)(h_L:fI P w K mg base 1 "_law_near" ["many","pairs"] AG)(h_l:fI P w K mg base 1 "_law_counter" ["near","spots"] (dh K))(F:fT K "_law_is_world" "_law_is_world" s_x f fd):cZ P w K mg base fL 3 f fd ["world","most"] (PN K):=by
 refine F.okz sc_x λeO A outer s H vs Q E hr h=>?_
 obtain⟨wa,ca,la,m,mo,ps,T,us,rfl,g,hc,hd,hl,ht,hm1,G,hmo,hok,Z,iT,hT,hso,iZ,hcn,q⟩:=h;calc#[_,have nd:=sc_x.nd;zC (yA (PW.pt<|qI (jJ<|xH<|zO (xD (T:="tuple")) rfl bi.isinstance zZ<|zE #[]<|zE (uO bi.tuple vH rfl) zJ) #[]) #[] zL)<|zC (yA (PW.pt<|qI #[]<|qI #[]<|qI (jJ<|xH<|zO (xD (T:="list")) rfl bi.isinstance zZ<|zE #[]<|zE (uO bi.list uL rfl) zJ)<|YX<|jJ<|xH<|zO (xD (T:="list")) rfl bi.isinstance zZ<|zE #[]<|zE (uO bi.list uL rfl) zJ) #[] zL)<|zC #[]<|zC (yD bR rfl #[] #[]<|zC (yA (PW.pt<|qI (jJ<|xH<|zO (xD (T:="tuple")) rfl bi.isinstance zZ<|zE #[]<|zE (uO bi.tuple vH rfl) zJ) #[]) #[] zL)<|zC (yA (PW.pt<|qI (yC (qy K hr.units0) #[] #[]<|yI _) #[]) #[] zL) #[])<|zC #[]<|zC #[]<|zC (yD bR rfl #[] #[]<|zC (yA (PW.pt<|qI (jJ<|xH<|zO (xD (T:="tuple")) rfl bi.isinstance zZ<|zE #[]<|zE (uO bi.tuple vH rfl) zJ)<|qI #[]<|qI (jJ<|xH<|zO (xD (T:="str")) rfl bi.isinstance zZ<|zE #[]<|zE (uO bi.str uh rfl) zJ)<|YX<|yC ML #[] #[]<|yI _) #[] zL)<|zC (yA (jJ<|xH<|zO (xD (T:="list")) rfl bi.isinstance zZ<|zE #[]<|zE (uO bi.list uL rfl) zJ) #[] zL)<|zC (yA (jJ<|xH<|zO jP rfl bi.all uM<|zE (zW ["spot"] ["world"] [0] #[] (λ_ _ _ _ nd=>yG 0 nd) (λ_ _ _ _=>zY) λ_ _ _ _=>(wA (zV h_F hr.m rfl #[])<|wA #[]<|vY<|qR IK #[] (zP (xY K) #[] zS)<|yI _)) zJ) #[] zL)<|zC (yA (yC (qv hr.units) #[] #[]<|yI _) #[] zL) #[]) #[],?_];let v:∀{a b c:V},pI [a,b,c] 0=some a:=zU (j:=0) rfl;let a1:∀{a b c:V},pI [a,b,c] 1=some b:=zU (j:=1) rfl;let a2:∀{a b c:V},pI [a,b,c] 2=some c:=zU (j:=2) rfl;refine zD λN d=>?_
 dsimp![];calc#[_,.tup g,_,xV,?_];rw[aH ()];calc#[3,.inr #[_,cW.of g,rfl],rfl,?_];rw[aH ()];calc#[_,cW.of g,_,v,_,rfl,_,rfl,?_];rw[aH ()];calc d _ _ ?_;clear d;refine zD λN d=>?_
 dsimp![];calc#[_,cW.of g,_,v,_,rfl,?_];rw[aH ()];calc#[_,cW.of g,_,v,_,rfl,?_];rw[aH ()];calc#[_,cW.of g,_,a1,_,.lst hc,_,xV,?_];rw[aH ()];calc#[_,cW.of g,_,a2,_,.lst hl,_,xV,?_];rw[aH ()];calc d _ _ ?_;clear d;refine zD λN d=>?_
 dsimp![];calc#[zH (),λU oC=>d _ _ ?_];clear d;let W:=zB oC<|.tup [V.int 0,V.int 0];let k0:upd H U (.tup [V.int 0,V.int 0]) U=some (.tup [V.int 0,V.int 0]):=zA;generalize upd H U (.tup [V.int 0,V.int 0])=H0 at W k0⊢;let hul:us.length=ps.length:=by have :=bN.length hd;rwa[aC]at this
 refine zK (λσ H'=>∃(o2 t:Option V),aX H H'/\σ=[some<|V.ref wa,some<|V.int mo,o2,t,none,none,none]) (λN d=>?_) λσ H' h=>?_
 ·dsimp![];calc#[_,cW.of<|W _ _ g,_,a1,ca,rfl,#[_,cO.of<|W _ _ hc],?_];refine qU (xs:=us) (λi σ H'=>∃(pl:Addr)(x y:Nat)(t:Option V),aX H H'/\H' pl=some (.tup [nV x,nV y])/\(∀p∈ps.drop i,TV (x,y) p)/\σ=[some<|V.ref wa,some<|V.int mo,some<|V.ref pl,t,none,none,none]) #[U,0,0,_,W,k0,λp hp=>?_,rfl] (λi σ H' _ h=>by obtain⟨_,_,_,_,e,_⟩:=h;calc cO.of<|e _ _ hc) (λi x σ H' hx h=>?_) λσ H' h=>?_
  ·have :=hok p<|pC hp;unfold TV;lia
  ·obtain⟨pl,I,y0,t,es,kpl,lR,rfl⟩:=h;obtain⟨p,J,oM⟩:=jM hd hx;obtain⟨pa,rfl,nX⟩:=ek oM;replace nX:=es _ _ nX;let hw':=es _ _ g;obtain⟨mN,u⟩:=aD.mp J;let k:ps.drop i=p::ps.drop (i+1):=by rw[←u];exact lN mN
   let hok':=hok p<|aS J;let hlp:=lR p (by rw[k];calc aV);refine zD λN d=>?_
   dsimp![];calc#[_,.tup nX,_,xV,?_];rw[aH ()];calc#[2,.inr #[_,cW.of nX,rfl],rfl,?_];rw[aH ()];calc#[_,cW.of nX,_,gR,_,rfl,_,rfl,?_];rw[aH ()];calc#[_,cW.of nX,_,oQ,_,rfl,_,rfl,?_];rw[aH ()];calc d _ _ ?_;clear d;refine zD λN d=>?_
   dsimp![rLeT];calc#[[(p.1:Int),p.2],cW.of nX,[(I:Int),y0],cW.of kpl,?_];rw[aH (by rw[QP,ig (p:=(I,y0)) hlp];decide)];calc#[_,cW.of nX,_,gR,_,rfl,?_];rw[aH ()];calc#[_,cW.of nX,_,gR,_,cW.of nX,_,oQ,_,rfl,_,rfl,?_];rw[aH ()];calc#[_,cW.of nX,_,oQ,_,cW.of hw',_,v,_,rfl,_,rfl,?_];rw[aH ()];calc d _ _ ?_;clear d;dsimp![];let L:∀q∈ps.drop (i+1),TV p q:=λq hq=>by
    have :=(List.pairwise_append.mp (by rw[eN];calc Z:(ps.take i++ps.drop i).Pairwise TV)).2.1;rw[k]at this;exact mq this hq
   exact#[es,pa,p.1,p.2,nX,L,rfl,_,rfl]
  ·obtain⟨pl,I,y0,t,es,kpl,_,rfl⟩:=h;exact d _ _ #[_,_,es,rfl]
 obtain⟨o2,t,es,rfl⟩:=h;refine zD λN d=>?_
 dsimp![];calc#[_,cW.of<|es _ _ g,_,v,_,cW.of<|es _ _ g,_,a1,m,ca,us,ps,rfl,(),es _ _ hc,bN.same es hd,hok,λnr H1 s1 M=>d _ _ ?_];clear d;replace es:=es.trans s1;refine zD λN d=>?_
 dsimp![];calc d _ _ ?_;clear d;refine zK (λσ H'=>aX H H') (λN d=>?_) λσ H' h=>?_
 ·dsimp![];calc#[_,cW.of<|es _ _ g,_,a2,la,rfl,#[_,cO.of<|es _ _ hl],?_];refine qU (xs:=(T.map (·.1)).map V.ref) (λi σ H'=>∃(x:Str)(o6:Option V),aX H1 H'/\(∀e∈T.drop i,x.cps.toList<e.2.1.cps.toList)/\σ=[some<|V.ref wa,some<|V.int mo,o2,t,some<|V.ref nr,some<|V.str x,o6]) #["",_,aX.refl _,λe he=>?_,rfl] (λi σ H' _ h=>by obtain⟨_,_,e,_⟩:=h;calc cO.of<|(es.trans e) _ _ hl) (λi x σ H' hx h=>?_) λσ H' h=>?_
  ·have :=(iZ e<|pC he).pos;rw[show(Str.ofString "").cps.toList=[]from by decide+kernel];let h1:1<=e.2.1.cps.toList.length:=by simpa[Str.length]using this
   cases hq:e.2.1.cps.toList with
   |nil=>rw[hq]at h1;exact absurd h1 ()
   |cons a l=>exact List.nil_lt_cons _ _
  ·obtain⟨I,o6,B,lR,rfl⟩:=h;let e2:=es.trans B;rw[aF,aF]at hx;obtain⟨ta,hta,rfl⟩:=aL.mp hx;obtain⟨e,O,rfl⟩:=aL.mp hta;obtain⟨mN,u⟩:=aD.mp O;let r:=aS O;let k:T.drop i=e::T.drop (i+1):=by rw[←u];exact lN mN
   obtain⟨n,R,t3,t4⟩:=(ht.same e2) e r;let hle:=lR e (by rw[k];calc aV);refine zD λN d=>?_
   dsimp![];calc#[_,.tup n,_,xV,?_];rw[aH ()];calc#[2,.inr #[_,cW.of n,rfl],rfl,?_];rw[aH ()];calc#[_,cW.of n,_,gR,_,.str _,_,xV,?_];rw[aH ()];calc#[_,cW.of n,_,gR,_,rfl,?_];rw[aH λz=>z hle];calc d _ _ ?_;clear d;refine zD λN d=>?_
   dsimp![];calc#[_,cW.of n,_,oQ,_,.lst R,_,xV,?_];rw[aH ()];calc d _ _ ?_;clear d;refine zD λN d=>?_
   dsimp![];calc#[_,cW.of n,_,oQ,_,rfl,#[_,cO.of R],?_];let hel:e.2.2.2.length<=80:=bX (uW t4 t3) G;refine yM (xs:=e.2.2.2.map nV) (λj ys σ H2=>aX H' H2/\ys=(List.replicate j true).map V.bl/\∃o,σ=[o,some<|V.ref wa]) #[aX.refl _,rfl,_,rfl] (zH (by rw[aC];lia)) (λj ys σ H2 h=>?_) (λj ys σ H2 h=>cO.of<|h.1 _ _ R) (λj y ys σ H2 C hy h hC=>?_) λys σ H2 h p hp=>?_
   ·rw[h.2.1,aC,gG];exact aG _
   ·obtain⟨X,rfl,o,rfl⟩:=h;rw[aF]at hy;obtain⟨z,hz,rfl⟩:=aL.mp hy;let hz':=t3 z<|aS hz;dsimp![];calc#[_,rfl,_,rfl,?_];rw[aT rfl,aT ()];calc#[_,cW.of<|(e2.trans X) _ _ g,_,v,_,rfl,?_];rw[cN ()];exact hC _ _ _ #[X,by rw[pA,aQ];rfl,_,rfl]
   obtain⟨X,rfl,o,rfl⟩:=h;calc#[p,rfl,_,cO.of zA,?_];let eall:(List.replicate (e.2.2.2.map nV).length true).all id=true:=cA.mpr λx hx=>(List.mem_replicate.mp hx).2
   rw[eall,aH ()];calc d _ _ ?_;clear d;let D:=X.trans<|zB hp<|.lst<|(List.replicate (e.2.2.2.map nV).length true).map V.bl;generalize upd H2 p (.lst<|(List.replicate (e.2.2.2.map nV).length true).map V.bl)=H3 at D⊢;refine zD λN d=>?_
   dsimp![];let S:∀l:List Nat,(∀x∈cnt m ps l,x<m)/\(cnt m ps l).length<=80:=λl=>#[λx hx=>(pW.mp hx).1,bX (uW (uB m ps l) λx hx=>(pW.mp hx).1) G]
   calc#[_,cW.of<|D _ _ n,_,oQ,nr,_,m,ps,e.2.2.2,rfl,(),M.same<|B.trans D,cO.of<|D _ _ R,t3,(),λp5 H5 s5 _ k5=>?_];calc#[nr,p5,m,ps,cnt m ps e.2.2.2,rfl,(),M.same<|B.trans<|D.trans s5,cO.of k5,(S _).1,by have :=(S e.2.2.2).2;lia,λp6 H6 s6 _ k6=>?_];let Y:=D.trans<|s5.trans s6;rw[hcn e r]at k6;calc#[_,cW.of<|Y _ _ n,_,oQ,1,_,vQ k6,_,vQ<|Y _ _ R,TM 1 _ (),(),?_];rw[xA];calc#[_,rfl,?_];rw[aH ()];calc d _ _ ?_;clear d;dsimp![];calc#[_,cW.of<|Y _ _ n,_,gR,B.trans Y,e.2.1,λe' he'=>?_,rfl,_,rfl];let iR:=nM.mp hso;have :=(List.pairwise_append.mp (by rw[eN];calc iR:(T.take i++T.drop i).Pairwise _)).2.1;rw[k]at this;exact mq this he'
  ·obtain⟨I,o6,B,_,rfl⟩:=h;exact d _ _<|es.trans B
 dsimp![];exact q _ h
abbrev o8:Stmt:=top 79
theorem j8:bV ["near","sets","saying","other"] ["near","sets","saying"] (zF o8):=by rfl'
abbrev s_J:Stmt:=top 80
theorem sc_J:bV ["near","sets","rule"] ["near","sets","rule"] (zF s_J):=by rfl'
abbrev s_S:Stmt:=top 81
theorem sc_S:bV ["answer","book","saying","near","sets","name","spots","inner"] ["answer","book","saying"] (zF s_S):=by rfl'
theorem at2{x y z:V}:pI (x::y::z::xs) 2=some z:=DC () rfl
structure VA(H:Hp)(na d:Addr)(m:Nat)(ps:List (Nat×Nat))(S:Str->List Nat)(zs:List Str):Prop where
 nr:GR H na m ps
 m90:m<=90
 ex:∃kvs,H d=some (.dK kvs)/\∀x∈zs,∃l,yB kvs (.inr x)=some (.ref l)/\H l=some (.lst<|(S x).map nV)
 sr:∀z,(∀i∈S z,i<m)/\(S z).Pairwise (· < ·)
theorem VA.same{na:Addr}{m:Nat}(h:VA H na d m ps S zs)(e:aX H H'):VA H' na d m ps S zs:=by
 obtain⟨kvs,h1,h2⟩:=h.ex;exact#[h.nr.same e,h.m90,#[kvs,e _ _ h1,λx hx=>let ⟨l,a,b⟩:=h2 x hx;#[l,a,e _ _ b]],h.sr]
def tP(zs:List Str)(t:Tm):Prop:=(gA 20 t/\wt t<=120)/\∀x∈iY t,x∈zs
noncomputable def tO(m:Nat)(ps:List (Nat×Nat))(S:Str->List Nat)(s:Tm×Tm):Bool:=(val m ps S s.1).all λa=>decide<|a∈val m ps S s.2
noncomputable def hrB(m:Nat)(ps:List (Nat×Nat))(S:Str->List Nat)(r:pJ):Bool:=tO m ps S r.2 ||!r.1.all (tO m ps S)
theorem rG{m:Nat}:tO m ps S s=true↔Hs m ps S s:=by
 unfold tO Hs;rw[cA];exact forall_congr' λa=>forall_congr' λ_=>decide_eq_true_iff
theorem KI{m:Nat}{r:pJ}:hrB m ps S r=true↔Hr m ps S r:=by
 unfold hrB Hr;rw[iL,rG,Bool.not_eq_true',←OC,cA];constructor
 ·rintro(h |h) h2
  ·exact h
  ·exact(h λs hs=>rG.mpr<|h2 s hs).elim
 ·intro h;by_cases c:∀s∈r.1,tO m ps S s=true
  ·exact .inl (h λs hs=>rG.mp<|c s hs)
  ·exact .inr c
inductive n6 (vs:List V) (H:Hp) (Q:VK) (E:XK):Prop
 |mk (na d:Addr) (v:V) (m:Nat) (ps:List (Nat×Nat)) (S:Str->List Nat) (zs:List Str) (s:Tm×Tm) (_:vs=[.ref na,.ref d,v]) (_:VA H na d m ps S zs) (_:rK H s v) (_:tP zs s.1) (_:tP zs s.2) (_:∀H',aX H H'->Q (.bl<|tO m ps S s) H')
inductive n5 (vs:List V) (H:Hp) (Q:VK) (E:XK):Prop
 |mk (na d:Addr) (v:V) (m:Nat) (ps:List (Nat×Nat)) (S:Str->List Nat) (zs:List Str) (r:pJ) (_:vs=[.ref na,.ref d,v]) (_:VA H na d m ps S zs) (_:me H r v) (_:(∀t∈OE r,tP zs t)) (_:r.1.length<=5) (_:∀H',aX H H'->Q (.bl<|hrB m ps S r) H')
theorem VA.worth{na:Addr}{m:Nat}(h:VA H na d m ps S zs){t:Tm}{Q:VK}(ht:fX H t v)(hq:tP zs t)(q:∀(p:Addr) H',aX H H'->H' p=some (.lst<|(val m ps S t).map nV)->Q (.ref p) H'):dg K 22 [.ref na,.ref d,v] H Q E0:=by
 obtain⟨kvs,h1,h2⟩:=h.ex;exact#[na,d,v,t,m,ps,kvs,S,rfl,h.nr,h.m90,ht,hq.1.1,by have :=hq.1.2;lia,h1,λx hx=>h2 x<|hq.2 x hx,h.sr,λp H' e _ k=>q p H' e k]
theorem VA.len{na:Addr}{m:Nat}(h:VA H na d m ps S zs)(t:Tm):(val m ps S t).length<=90:=bX (OS (wO (λx=>(h.sr x).2) t) λx hx=>YJ (λx=>(h.sr x).1) t hx) h.m90
theorem ok_in(bi:Bi mg)(h_e:fI P w K mg base 22 "_law_worth" ["near","sets","t"] (dg K 22))(F:fT K "_law_in" "_law_in" o8 f fd):cZ P w K mg base fL 23 f fd ["near","sets","saying"] n6:=by
 refine F.okz j8 λeO A outer s H vs Q E hr h=>?_
 obtain⟨na,d,v,m,ps,S,zs,s,rfl,b,l,n,r,q⟩:=h;calc#[_,have nd:=j8.nd;zC (xR (i:=3) nd rfl (Or.inr rfl) #[])<|zI<|zR<|zO jP rfl bi.all uM<|zE (zW ["spot"] ["other"] [3] #[] (λ_ _ _ _ nd=>yG 0 nd) (λ_ _ _ _=>zY) λ_ _ _ _=>(qR (SJ hr.units) #[] #[] (by with_unfolding_all rfl))) zJ,?_];obtain⟨a,J,L,rfl,ha,u,z⟩:=l.out;refine zD λN j=>?_
 dsimp![];calc#[_,cW.of ha,_,oQ,b.worth z r λp2 H1 s1 B=>j _ _ ?_];clear j;dsimp![];calc#[_,cW.of<|s1 _ _ ha,_,gR,(b.same s1).worth (eL.same s1 u) n λD H2 s2 k=>?_];calc#[D,rfl,#[_,cO.of k],?_];let hl:=b.len s.1;refine yM (xs:=(val m ps S s.1).map nV) (λi ys σ G=>H2=G/\ys=((val m ps S s.1).take i).map (λa=>V.bl<|decide<|a∈val m ps S s.2)/\∃o,σ=[o,some<|.ref p2]) #[rfl,rfl,_,rfl] (zH (by rw[aC];lia)) (λi ys σ G e=>?_) (λi ys σ G e=>by rw[←e.1];calc cO.of k) (λi x ys σ G C hx e I=>?_) λys σ G e p hp=>?_
 ·rw[e.2.1,aC,bD];lia
 ·obtain⟨rfl,rfl,o,rfl⟩:=e;rw[aF]at hx;obtain⟨y,hy,rfl⟩:=aL.mp hx;obtain⟨c,g⟩:=aD.mp hy;dsimp![ME];calc#[1,.int y,rfl,_,.inl<|vQ<|s2 _ _ B,(λe he=>by obtain⟨_,_,rfl⟩:=bH.mp he;trivial),(),?_];rw[VJ,Bool.false_xor];exact I _ _ _ #[rfl,by rw[aI c,g,aQ];rfl,_,rfl]
 ·obtain⟨rfl,rfl,o,rfl⟩:=e;rw[aC,aU<|aG _];calc#[p,rfl,(val m ps S s.1).map (λa=>decide<|a∈val m ps S s.2),cO.of (by rw[zA,dC];rfl),?_];have :=q _ (s1.trans<|s2.trans<|zB hp<|.lst<|((val m ps S s.1)).map (λa=>V.bl<|decide<|a∈val m ps S s.2));unfold tO at this;rw[iJ];exact this
theorem f8(bi:Bi mg)(h_bg:fI P w K mg base 23 "_law_in" ["near","sets","saying"] n6)(F:fT K "_law_kept" "_law_kept" s_J f fd):cZ P w K mg base fL 24 f fd ["near","sets","rule"] n5:=by
 refine F.okz sc_J λeO A outer s H vs Q E hr h=>?_
 obtain⟨na,d,v,m,ps,S,zs,r,rfl,z,L,ht,iT,q⟩:=h;calc#[_,have nd:=sc_J.nd;zC #[]<|zI<|zR<|EX<|zO jP rfl bi.all uM<|zE (zW ["one"] ["near","sets"] [0,1] #[] (λ_ _ _ _ nd=>yG 0 nd) (λ_ _ _ _=>zY) λ_ _ _ _=>(zV h_bg hr.m rfl #[])) zJ,?_];obtain⟨a,l,u,ws,rfl,ha,g,b,k⟩:=L.out;let M:=b.length;let B:∀p∈r.1++[r.2],tP zs p.1/\tP zs p.2:=λp hp=>by
  let hm:∀t∈lF p,t∈OE r:=λt ht=>by
   rcases bJ.mp hp with h |h
   ·exact bW _<|dB.mpr #[p,h,ht]
   ·rw[aP.mp h]at ht;exact aZ _ ht
  exact#[ht _ (hm _ (by simp[lF])),ht _<|hm _ (by simp[lF])]
 let D:=B r.2<|aZ _<|aP.mpr rfl;refine zD λN I=>?_
 dsimp![];calc#[_,cW.of ha,_,oQ,na,d,u,m,ps,S,zs,r.2,rfl,z,k,D.1,D.2,λH1 s1=>#[_,rfl,?_]];by_cases c:tO m ps S r.2=true
 ·rw[aT c];have :=q H1 s1;unfold hrB at this;rw[c,HB]at this;exact this
 rw[aH c];calc I _ _ ?_;clear I;dsimp![];calc#[_,cW.of<|s1 _ _ ha,_,gR,l,rfl,#[_,cO.of<|s1 _ _ g],?_];refine yM (xs:=ws) (λi ys σ G=>aX H1 G/\ys=(r.1.take i).map (λp=>V.bl<|tO m ps S p)/\∃o,σ=[o,some<|.ref na,some<|.ref d]) #[aX.refl _,rfl,_,rfl] (zH ()) (λi ys σ G e=>?_) (λi ys σ G e=>cO.of<|e.1 _ _<|s1 _ _ g) (λi x ys σ G C hx e O=>?_) λys σ G e p hp=>?_
 ·rw[e.2.1,aC,bD];lia
 ·obtain⟨j,rfl,o,rfl⟩:=e;obtain⟨p,iR,iP⟩:=b.getV hx;obtain⟨n,y⟩:=aD.mp iR;let J:=B p<|bW _<|aS iR;dsimp![];exact#[na,d,x,m,ps,S,zs,p,rfl,z.same<|s1.trans j,eL.same (s1.trans j) iP,J.1,J.2,λH2 s2=>O _ _ _ #[j.trans s2,by rw[aI n,y,aQ];rfl,_,rfl]]
 ·obtain⟨j,rfl,o,rfl⟩:=e;rw[aU ()];calc#[p,rfl,r.1.map<|tO m ps S,cO.of (by rw[zA,dC];rfl),?_];have :=q _ (s1.trans<|j.trans<|zB hp<|.lst<|r.1.map λp=>V.bl<|tO m ps S p);unfold hrB at this;rw[OC]at c;rw[c,tU]at this;rw[iJ];exact this
structure Bks(zs:List Str)(b:List pJ)(s:Tm×Tm):Prop where
 bl:b.length<=20
 pl:∀r∈b,r.1.length<=5
 fit:∀t∈lG b++lF s,tP zs t
abbrev PZ(b:List pJ)(s:Tm×Tm):List Rw:=yU (lG b++lF s) [.no]
inductive spOn (vs:List V) (H:Hp) (Q:VK) (E:XK):Prop
 |mk (pa ba wa ca la:Addr) (v:V) (bs us:List V) (zs:List Str) (b:List pJ) (s:Tm×Tm) (n m:Nat) (ps:List (Nat×Nat)) (T:List Ro) (S:Str->List Nat) (_:vs=[.ref pa,.ref ba,v]) (_:H pa=some (.tup [.str "open",.ref wa,.int n])) (_:H ba=some (.lst bs)) (_:mU H b bs) (_:rK H s v) (_:Bks zs b s) (_:OpA H (PZ b s) b s wa ca la n m ps T us S) (_:∀H',aX H H'->Q (.bl true) H')
theorem fu(bi:Bi mg)(h_x:fI P w K mg base 3 "_law_is_world" ["world","most"] (PN K))(h_L:fI P w K mg base 1 "_law_near" ["many","pairs"] AG)(h_o:fI P w K mg base 24 "_law_all_rows" ["book","saying"] og)(h_J:fI P w K mg base 24 "_law_kept" ["near","sets","rule"] n5)(h_F:fI P w K mg base 1 "_law_whole" ["found_v"] nh)(h_e:fI P w K mg base 22 "_law_worth" ["near","sets","t"] (dg K 22))(F:fT K "_law_open" "_law_open" s_S f fd):cZ P w K mg base fL 25 f fd ["answer","book","saying"] spOn:=by
 refine F.okz sc_S λeO A outer s H vs Q E hr h=>?_
 obtain⟨pa,ba,wa,ca,la,v,bs,us,zs,b,s,n,m,ps,T,S,rfl,nX,I,hb,hv,bk,c,q⟩:=h;calc#[_,have nd:=sc_S.nd;zC #[]<|zC (xR (i:=3) nd rfl (Or.inr rfl) #[])<|zC (xR (i:=4) nd rfl (Or.inr rfl) XB)<|zC (yD bR rfl #[] #[]<|zI<|ZY (xW hr) #[] #[] #[] rfl)<|zC (yA (jJ<|xH<|zO jP rfl bi.all uM<|zE (zW ["row"] ["sets"] [4] #[] (λ_ _ _ _ nd=>yG 0 nd) (λ_ _ _ _=>zY) λ_ _ _ _=>(pe_or (qR BB (zP (xY K) #[] zS) yS<|yI _)<|vY<|SA (XC (xW hr) (zP (xY K) #[] zS) #[]) (by with_unfolding_all rfl))) zJ) #[] zL)<|zC (yA (PW.pt<|qI (jJ<|xH<|zO jP rfl bi.all uM<|zE (zW ["rule"] ["near","sets"] [3,4] #[] (λ_ _ _ _ nd=>yG 0 nd) (λ_ _ _ _=>zY) λ_ _ _ _=>(zV h_J hr.m rfl #[])) zJ) #[]) #[] zL)<|zC #[]<|zI<|zR<|wA (qR (SJ hr.units) #[] #[] (by with_unfolding_all rfl))<|vY<|qR (kP hr.units) #[] #[] (by with_unfolding_all rfl),?_];let D:=c.m80;let htl:=c.tl;refine zD λN l=>?_
 dsimp![];calc#[_,cW.of nX,_,oQ,wa,ca,la,m,80,ps,T,us,rfl,c.tup,c.cl,c.dat,c.lst,c.tr,c.m1,D,D,c.ok2,c.srt,c.pl,(),c.zrt,c.nm,c.ful,λH1 s1=>#[true,rfl,?_]];rw[aH ()];calc l _ _ ?_;clear l;refine zD λN l=>?_
 dsimp![];replace c:=c.same s1;calc#[_,cW.of<|s1 _ _ nX,_,oQ,wa,rfl,_,cW.of c.tup,_,gR,_,cW.of<|s1 _ _ nX,_,oQ,wa,rfl,_,cW.of c.tup,_,oQ,m,ca,us,ps,rfl,(),c.cl,c.dat,c.ok2,λna H2 s2 L=>l _ _ ?_];clear l;replace c:=c.same s2;replace s2:=s1.trans s2;clear s1;refine zD λN l=>?_
 dsimp![];refine λd hd=>l _ _ ?_
 clear l;let s3:=zB hd<|.dK [];let k3:upd H2 d (.dK []) d=some (.dK<|(T.take 0).map λe=>((.inr e.2.1:eV),V.ref e.2.2.1)):=zA;generalize upd H2 d (.dK [])=H3 at s3 k3⊢;let iD:(T.map (·.2.1)).Nodup:=c.zrt.imp λh e=>absurd h (by rw[e];calc List.lt_irrefl _)
 refine zK (λσ H'=>∃(O R U:Option V),aX H2 H'/\H' d=some (.dK<|T.map λe=>((.inr e.2.1:eV),V.ref e.2.2.1))/\σ=[some<|.ref pa,some<|.ref ba,some v,some<|.ref na,some<|.ref d,O,R,U]) (λN l=>?_) λσ H' h=>?_
 ·dsimp![];calc#[_,cW.of<|(s2.trans s3) _ _ nX,_,oQ,wa,rfl,_,cW.of<|s3 _ _ c.tup,_,at2,la,rfl,#[_,cO.of<|s3 _ _ c.lst],?_];refine xP (xs:=(T.map (·.1)).map V.ref) (λk σ H'=>aX H2 H'/\H' d=some (.dK<|(T.take k).map λe=>((.inr e.2.1:eV),V.ref e.2.2.1))/\∃O R U,σ=[some<|.ref pa,some<|.ref ba,some v,some<|.ref na,some<|.ref d,O,R,U]) #[s3,k3,_,_,_,rfl] (λk σ H' _ h=>cO.of<|h.1 _ _ c.lst) (λk x σ H' hx h M hM=>?_) λσ H' h=>?_
  ·obtain⟨g,W,O,R,U,rfl⟩:=h;rw[aF,aF]at hx;obtain⟨a,ha,rfl⟩:=aL.mp hx;obtain⟨e,he,rfl⟩:=aL.mp ha;let htr:=c.tr e<|aS he;obtain⟨mN,hie⟩:=aD.mp he;let hno:yB ((T.take k).map λe=>((.inr e.2.1:eV),V.ref e.2.2.1)) (.inr e.2.1)=none:=by
    refine RC λhm=>?_
    obtain⟨e',he',hh⟩:=bH.mp hm;obtain⟨j,hj,rfl⟩:=cQ he';rw[bD]at hj;rw[rE]at hh;calc cH.mp iD j k (by rw[aC];lia) (by rw[aC];lia) () ?_;rw[dJ,dJ,hie];exact hh
   dsimp![uA,jN,uK,AI];refine#[_,cW.of<|g _ _ htr.1,rfl,_,_,rfl,_,_,rfl,rfl,_,tF.k (k:=.inr e.2.1) W (dk (by rw[aC,bD];lia)),hM _ _ #[λx o hx=>?_,?_,_,_,_,rfl]]
   ·rw[zG λz=>by rw[z,hd]at hx;cases hx];exact g _ _ hx
   ·rw[zA,vO hno,aI mN,hie,aQ];rfl
  ·obtain⟨g,W,O,R,U,rfl⟩:=h;rw[aC,aC,aU<|aG _]at W;exact l _ _ #[O,R,U,g,W,rfl]
 ·obtain⟨O,R,U,g,W,rfl⟩:=h;replace c:=c.same g;replace L:=L.same g;replace g:=s2.trans g;clear s2 s3 k3;let X:VA H' na d m ps S (T.map (·.2.1)):=#[L,(),#[_,W,λx hx=>by
   obtain⟨e,he,rfl⟩:=bH.mp hx;calc#[e.2.2.1,UQ iD he,by rw[←c.is e he];calc(c.tr e he).2.1]],c.sr]
  let hgd:=JF (lG b++lF s) [.no] λt ht=>(bk.fit t ht).1.1;let tq:∀t∈lG b++lF s,tP (T.map (·.2.1)) t:=λt ht=>#[(bk.fit t ht).1,λx hx=>by
   obtain⟨n,hn⟩:=hgd t ht;obtain⟨k,hk⟩:=IM 21 t (bk.fit t ht).1.1 n hn x hx;calc c.all x k<|UR hk]
  refine zD λN l=>?_
  dsimp![EG];calc#[ba,v,bs,b,s,rfl,g _ _ I,bN.same g hb,eL.same g hv,bk.bl,bk.pl,(λt ht=>(bk.fit t ht).1),λra J H5 s5 Y=>?_];obtain⟨ys,ky,hy⟩:=Y.ex;let Z:=s5.trans Y.sub;calc#[ra,rfl,#[_,cO.of ky],?_];let hyl:=xS hy;let oB:(PZ b s).length<=70000:=by
   let h1:=(JG (lG b++lF s) [.no] (λt ht=>(bk.fit t ht).1) rB.one).2;let h2:=wP bk.pl;let h3:=bk.bl;rw[aK,bP]at h1;let h4:(lF s).length=2:=rfl;rw[h4]at h1;show(yU (lG b++lF s) [.no]).length<=70000;lia
  refine yM (xs:=ys) (λi mW σ G=>H5=G/\mW=(List.replicate i true).map V.bl/\∃o,σ=[o,some<|.ref d]) #[rfl,rfl,_,rfl] (smB (by rw[hyl];calc bX oB ())) (λi ys σ G e=>by rw[e.2.1,aC,gG];calc aG _) (λi ys σ G e=>by rw[←e.1];calc cO.of ky) (λi x mW σ G C hx e hC=>?_) λmW σ G e p hp=>?_
  ·obtain⟨rfl,rfl,o,rfl⟩:=e;obtain⟨r,mM,B⟩:=jM hy hx;let done:C (.bl true) [some x,some<|.ref d] H5:=hC _ _ _ #[rfl,by rw[pA,aQ];rfl,_,rfl];dsimp![EG];cases r with
   |no=>
    obtain⟨xa,oG,rfl,nG,z1,q1,rfl,u,e2⟩:=B;cases (show z1=.str "none" from u);calc#[xa,rfl,_,cW.of<|Y.sub _ _ nG,_,gR,rfl,?_];rw[aT ()];exact done
   |bo i' j'=>
    obtain⟨xa,oG,rfl,nG,z1,q1,rfl,u,e2⟩:=B;cases (show z1=.str "both" from u);calc#[xa,rfl,_,cW.of<|Y.sub _ _ nG,_,gR,rfl,?_];rw[aT ()];exact done
   |nm y=>
    obtain⟨xa,oG,rfl,nG,z1,q1,rfl,u,z2,q2,rfl,e2,e3⟩:=B;cases (show z1=.str "name" from u);cases (show z2=.str y from e2);calc#[xa,rfl,_,cW.of<|Y.sub _ _ nG,_,gR,rfl,?_];rw[aH λz=>z rfl];obtain⟨e,he,rfl⟩:=bH.mp<|c.all y i mM;calc#[xa,rfl,_,cW.of<|Y.sub _ _ nG,_,oQ,_,oV.k (k:=.inr e.2.1)<|Z _ _ W,?_];rw[UQ iD he];exact done
  ·obtain⟨rfl,rfl,o,rfl⟩:=e;calc#[p,rfl,_,cO.of zA,?_];rw[aH (by simp)];calc l _ _ ?_;clear l;let s6:=Z.trans<|zB hp<|.lst<|(List.replicate ys.length true).map V.bl;generalize upd H5 p (.lst<|(List.replicate ys.length true).map V.bl)=H6 at s6⊢;replace c:=c.same s6;replace X:=X.same s6;replace g:=g.trans s6;clear s6 Z s5 Y ky hp;refine zD λN l=>?_
   dsimp![];let hb6:mU H6 b bs:=bN.same g hb;let hbsl:=xS hb;let hbl:=bk.bl;calc#[#[_,cO.of<|g _ _ I],?_];refine yM (xs:=bs) (λi mW σ G=>aX H6 G/\mW=(List.replicate i true).map V.bl/\∃o,σ=[o,some<|.ref na,some<|.ref d]) #[aX.refl _,rfl,_,rfl] (zH ()) (λi ys σ G e=>by rw[e.2.1,aC,gG];calc aG _) (λi ys σ G e=>cO.of<|e.1 _ _<|g _ _ I) (λi x mW σ G C hx e hC=>?_) λmW σ G e p hp=>?_
   ·obtain⟨u,rfl,o,rfl⟩:=e;obtain⟨r,mM,B⟩:=mU.getV hb6 hx;let hrm:=aS mM;dsimp![];calc#[na,d,x,m,ps,S,_,r,rfl,X.same u,eL.same u B,(λt ht=>tq t<|bW _<|dB.mpr #[r,hrm,ht]),bk.pl r hrm,λH7 s7=>?_];rw[KI.mpr<|c.hr r hrm];exact hC _ _ _ #[u.trans s7,by rw[pA,aQ];rfl,_,rfl]
   ·obtain⟨u,rfl,o,rfl⟩:=e;calc#[p,rfl,_,cO.of zA,?_];rw[aH (by simp)];let s7:=u.trans<|zB hp<|.lst<|(List.replicate bs.length true).map V.bl;generalize upd G p (.lst<|(List.replicate bs.length true).map V.bl)=H7 at s7⊢;replace c:=c.same s7;replace X:=X.same s7;replace g:=g.trans s7;clear s7 u hp hb6;calc#[_,cW.of<|g _ _ nX,_,at2,n,rfl,true,rfl,?_];rw[aH ()];calc l _ _ ?_;clear l;obtain⟨a,v1,v2,rfl,ha,t1,t2⟩:=hv.out;let q1:=tq s.1 (aZ _ (by simp[lF]));let q2:=tq s.2 (aZ _ (by simp[lF]));refine zD λN l=>?_
    dsimp![];calc#[_,cW.of<|g _ _ ha,_,gR,X.worth (eL.same g t1) q1 λp8 H8 s8 k8=>l _ _ ?_];clear l;dsimp![ME];let ft:∀t:Tm,∀e∈(val m ps S t).map (λ(x:Nat)=>Dt.int (x:Int)),gY 1 e:=λt e he=>by obtain⟨_,_,rfl⟩:=bH.mp he;trivial
    calc#[_,cW.of<|(g.trans s8) _ _ nX,_,at2,1,.int n,rfl,_,.inl<|vQ k8,ft s.1,(),?_];rw[VJ,cN c.in1,aT ()];calc#[_,cW.of<|(g.trans s8) _ _ nX,_,at2,_,cW.of<|(g.trans s8) _ _ ha,_,oQ,(X.same s8).worth (eL.same (g.trans s8) t2) q2 λp9 H9 s9 k9=>?_];calc#[1,.int n,rfl,_,.inl<|vQ k9,ft s.2,(),?_];rw[VJ,cJ c.no2];exact q H9<|g.trans<|s8.trans s9
abbrev dq:Stmt:=top 86
theorem sc_C:bV ["script","names","world","near","sets","size","s","t","some","saying","book","cell","rule","handed","answer"] ["script"] (zF dq):=by rfl'
theorem aq(ns:List Int)(lo hi:Option Int):∃cs:List Int,qN (ns.map V.int) lo hi=cs.map V.int/\cs.length<=ns.length:=by
 let hl:=vG (ns.map V.int) lo hi;rw[aC]at hl;refine#[(ns.drop<|HT.sIx (ns.map V.int).length 0 lo).take (HT.sIx (ns.map V.int).length (ns.map V.int).length hi-HT.sIx (ns.map V.int).length 0 lo),?_,?_]
 ·unfold qN;rw[List.map_take,List.map_drop]
 ·rw[bD,fF];lia
noncomputable def wo(H:Hp)(a:Addr):Hp:=λx=>if x=a then none else H x
theorem OO(H:Hp)(a:Addr):aX (wo H a) H:=λx o h=>by
 unfold wo at h;split at h
 ·cases h
 ·exact h
theorem wN(e:aX H H')(a:Addr):aX (wo H a) (wo H' a):=λx o h=>by
 unfold wo at h⊢;split at h
 ·cases h
 ·next c=>rw[aH c];exact e _ _ h
theorem mx(H:Hp)(a:Addr)(o:HO):wo (upd H a o) a=wo H a:=by
 funext x
 unfold wo;split
 ·rfl
 ·next c=>exact zG c
theorem DW{a:Addr}(h:H a=some (.lst us)):cV H (wo H a):=λx xs hx=>by
 unfold wo;rw[aH λz=>by rw[z,h]at hx;cases hx];exact hx
noncomputable def WI(m:Nat)(ps:List (Nat×Nat))(T:List Ro)(x:Str):List Nat:=match T.find? λe=>decide (e.2.1=x)with
 |some e=>e.2.2.2
 |none=>cnt m ps<|List.range m
theorem HR{m:Nat}{ps:List (Nat×Nat)}:∀{T:List Ro},(T.map (·.2.1)).Nodup->∀{e:Ro},e∈T->WI m ps T e.2.1=e.2.2.2
 |[],_,e,h=>by cases h
 |t::T,iD,e,h=>by
  rw[bY,fS]at iD;unfold WI;rw[eG];rcases bI.mp h with rfl |h
  ·rw[cN rfl]
  ·let mX:t.2.1≠e.2.1:=λz=>iD.1 (by rw[z];calc bH.mpr #[e,h,rfl])
   rw[cJ mX];exact HR iD.2 h
theorem HQ{m:Nat}(h:∀e∈T,∃sp:List Nat,(∀x∈sp,x<m)/\e.2.2.2=cnt m ps sp)(x:Str):∃sp:List Nat,(∀x∈sp,x<m)/\WI m ps T x=cnt m ps sp:=by
 unfold WI;split
 ·next e he=>exact h e<|mr he
 ·exact#[List.range m,λx hx=>bL.mp hx,rfl]
theorem ab{m:Nat}(hok:DT m ps)(h:∀e∈T,∃sp:List Nat,(∀x∈sp,x<m)/\e.2.2.2=cnt m ps sp):Fw m ps (WI m ps T):=by
 calc#[FY hok,λx a=>?_];obtain⟨sp,h1,h2⟩:=HQ h x;rw[h2,lX,lX];exact(pp3 h1).symm.trans (xL (λb=>(xL (λc=>(lX (v:=sp) (a:=c)).symm) b).trans lX.symm) a)
theorem cr(m:Nat)(ps:List (Nat×Nat))(S:Str->List Nat):val m ps S (.node "all" [])=List.range m:=by
 rw[val,jA,aH (),aT rfl]
theorem OP(m:Nat)(ps:List (Nat×Nat))(S:Str->List Nat):val m ps S (.node "none" [])=[]:=by
 rw[val,jA,aT rfl]
theorem WU{r:pJ}(h:Gr zs r):∀t∈OE r,tP zs t:=λt ht=>by
 let go:∀p,Gs zs p->t∈lF p->tP zs t:=λp g ht=>by
  let ht:t∈[p.1,p.2]:=ht;rcases bI.mp ht with rfl |ht
  ·exact#[#[g.1.1,by have :=g.1.2;lia],λx hx=>g.2.2 x<|bW _ hx]
  ·rw[aP.mp ht];exact#[#[g.2.1.1,by have :=g.2.1.2;lia],λx hx=>g.2.2 x<|aZ _ hx]
 rcases bJ.mp ht with ht |ht
 ·obtain⟨p,hp,ht⟩:=dB.mp ht;exact go p (h.2.1 p hp) ht
 ·exact go r.2 h.2.2 ht
theorem ax{b:List pJ}(hl:b.length<=20)(hb:∀r∈b,Gr zs r)(h1:tP zs s.1)(h2:tP zs s.2):Bks zs b s:=by
 calc#[hl,λr hr=>(hb r hr).1,λt ht=>?_];rcases bJ.mp ht with ht |ht
 ·obtain⟨r,hr,ht⟩:=dB.mp ht;exact WU (hb r hr) t ht
 ·let ht:t∈[s.1,s.2]:=ht;rcases bI.mp ht with rfl |ht
  ·exact h1
  ·rw[aP.mp ht];exact h2
inductive HP (K:W.Frag) (vs:List V) (H:Hp) (Q:VK) (E:XK):Prop
 |mk (a:Addr) (ns:List Int) (_:vs=[.ref a]) (_:cO K H a (ns.map V.int)) (_:ns.length<=63) (_:∀H',Q (.bl true) H')
theorem q9(bi:Bi mg)(h_K:fI P w K mg base 1 "_law_draw" ["script","k"] (AH K))(h_Q:fI P w K mg base 2 "_law_names" ["script","k","many"] (spNs K))(h_R:fI P w K mg base 2 "_law_world" ["script","k","names"] (spWd K))(h_L:fI P w K mg base 1 "_law_near" ["many","pairs"] AG)(h_ae:fI P w K mg base 1 "_law_sets" ["world"] spSt)(h_bc:fI P w K mg base 2 "_law_term" ["script","k","many","names"] (spTe K))(h_bg:fI P w K mg base 23 "_law_in" ["near","sets","saying"] n6)(h_m:fI P w K mg base 3 "_law_small_rule" ["cell","names"] spSr)(h_J:fI P w K mg base 24 "_law_kept" ["near","sets","rule"] n5)(h_o:fI P w K mg base 24 "_law_all_rows" ["book","saying"] og)(h_D:fI P w K mg base 1 "_law_copy_of" ["book"] spCp)(h_cc:fI P w K mg base 49 "judge" ["book","saying"] (spJu K))(h_S:fI P w K mg base 25 "_law_open" ["answer","book","saying"] spOn)(F:fT K "law" "law" dq f fd):cZ P w K mg base fL 65 f fd ["script"] (HP K):=by
 refine F.okz sc_C λeO A outer s H vs Q E hr h=>?_
 obtain⟨a,ns,rfl,hS,hl,q⟩:=h;calc#[_,have nd:=sc_C.nd;zC #[]<|zC #[]<|zC (xR (i:=3) nd rfl (Or.inr rfl) #[])<|zC (xR (i:=4) nd rfl (Or.inr rfl) #[])<|zC #[]<|zC #[]<|zC #[]<|zC #[]<|zC (xI 9 nd<|zP zQ (zW ["one"] ["near","sets"] [3,4] #[] (λ_ _ _ _ nd=>yG 0 nd) (λ_ _ _ _=>uG<|jJ<|xH<|zV h_bg hr.m rfl #[]) λ_ _ _ _=>#[]) zS)<|zC #[]<|zC (yD bR rfl (uH<|xM vM #[] (jK zS) jL) #[]<|zC (xI 12 nd #[])<|zI<|yA (PW.pt<|UX #[]<|UW<|xH<|zV h_J hr.m rfl<|zE #[]<|zE #[]<|zE (pv 12) zJ) (zI<|yA (yC IL (zO kI rfl bi.len ZA<|zE (zV h_o hr.m rfl<|zE (yZ uY #[]<|uX<|zE (pv 12) zJ) #[]) zJ) zS<|yI _) (zI<|xJ<|qK cR dW dU jE #[]<|zE (pv 12) zJ) zL) zL)<|zC (xI 13 nd #[])<|zC (xI 14 nd<|zV h_cc hr.m rfl<|zE (pv 13) #[])<|zC (yA (PW.pt<|qI (jJ<|xH<|zO (xD (T:="tuple")) rfl bi.isinstance zZ<|zE (pv 14)<|zE (uO bi.tuple vH rfl) zJ)<|qI (yC BB (zO kI rfl bi.len ZA<|zE (pv 14) zJ) zS<|yI _)<|YX<|yC BB (zP wF (pv 14) zS) yS<|yI _) #[] zL)<|zI<|zR<|wA (zV h_S hr.m rfl<|zE (pv 14) #[])<|vY<|qR (wC hr.units) (pv 13) #[]<|yI _,?_];refine zD λN g=>?_
 dsimp![];calc#[a,ns,2,rfl,hS,hl,(),λz hz=>#[z,rfl,(),?_]];obtain⟨m0,hm0,U,hm3⟩:∃m:Nat,1+z % 3=(m:Int)/\1<=m/\m<=3:=#[(1+z % 3).toNat,(),(),()]
 rw[hm0];calc#[a,ns,0,m0,rfl,hS,hl,(),U,(),λna zs H1 s1 iZ=>g _ _ ?_];clear g hm0 z hz;refine zD λN g=>?_
 dsimp![];calc#[a,na,ns,3,m0,zs,rfl,aX.seq s1 hS,hl,(),iZ,U,(),λwa m ps T ca la us H2 s2 wd W hcn=>g _ _ ?_];clear g;replace iZ:=iZ.same s2;replace s2:=s1.trans s2;clear s1;let hm90:=wd.m90;refine zD λN g=>?_
 dsimp![];calc#[_,cW.of wd.tup,_,gR,_,cW.of wd.tup,_,oQ,m,ca,us,ps,rfl,hm90,wd.cl,wd.dat,wd.ok2,λnr H3 s3 hnr=>g _ _ ?_];clear g;replace iZ:=iZ.same s3;replace wd:=wd.same s3;replace s3:=s2.trans s3;clear s2;refine zD λN g=>?_
 dsimp![];calc#[wa,m,ps,T,ca,la,us,rfl,wd,λd H4 O k4=>g _ _ ?_];clear g;replace iZ:=iZ.same O;replace wd:=wd.same O;replace hnr:=hnr.same O;replace O:=s3.trans O;clear s3;let hz3:zs.length<=3:=by rw[iZ.len];exact hm3
 let hfw:=ab wd.ok2 hcn;let hsr:∀z,(∀i∈WI m ps T z,i<m)/\(WI m ps T z).Pairwise (· < ·):=λz=>by
  obtain⟨sp,_,e⟩:=HQ hcn z;rw[e];exact#[λi hi=>(pW.mp hi).1,uB _ _ _]
 let X:VA H4 nr d m ps (WI m ps T) zs:=#[hnr,hm90,#[_,k4,λx hx=>by
  obtain⟨e,he,rfl⟩:=bH.mp<|W.mem_iff.mpr hx;calc#[e.2.2.1,UQ wd.nd he,by rw[HR wd.nd he];calc(wd.tr e he).2.1]],hsr]
 let hm1':=wd.m1;clear hnr k4 wd hcn W;generalize WI m ps T=S at hfw X hsr;refine zD λN g=>?_
 dsimp![];calc#[a,ns,8,rfl,aX.seq O hS,hl,(),λz hz=>#[z,rfl,(),g _ _ ?_]];clear g;obtain⟨sz,hsz,hs1,hs5⟩:∃m:Nat,1+z % 5=(m:Int)/\1<=m/\m<=5:=#[(1+z % 5).toNat,(),(),()]
 rw[hsz];clear hsz z hz;refine zD λN g=>?_
 dsimp![];calc#[a,na,ns,9,sz,m0,zs,rfl,aX.seq O hS,hl,(),hs1,(),iZ,U,(),λsv s H5 s5 hs f1 w1 n1=>g _ _ ?_];clear g;replace iZ:=iZ.same s5;replace X:=X.same s5;replace s5:=O.trans s5;clear O;refine zD λN g=>?_
 dsimp![];calc#[a,na,ns,14,sz,m0,zs,rfl,aX.seq s5 hS,hl,(),hs1,(),iZ,U,(),λtv t H6 u ht f2 w2 n2=>g _ _ ?_];clear g;replace iZ:=iZ.same u;replace X:=X.same u;replace hs:=eL.same u hs;replace u:=s5.trans u;clear s5;let qs:tP zs s:=#[#[f1,()],n1]
 let qt:tP zs t:=#[#[f2,()],n2]
 refine zD λN g=>?_
 dsimp![];calc#[zH (),λp0 h0=>?_];let e0:=zB h0<|.tup [sv,tv];let k0:upd H6 p0 (.tup [sv,tv]) p0=_:=zA;generalize upd H6 p0 (.tup [sv,tv])=J0 at e0 k0⊢;calc#[zH (),λY h1=>?_];let R:=zB h1<|.tup [tv,sv];let k1:upd J0 Y (.tup [tv,sv]) Y=_:=zA;generalize upd J0 Y (.tup [tv,sv])=J1 at R k1⊢;calc#[zH (),λp2 h2=>?_];let Z:=zB h2<|.tup [.str "all"];let k2:upd J1 p2 (.tup [.str "all"]) p2=_:=zA;generalize upd J1 p2 (.tup [.str "all"])=J2 at Z k2⊢;calc#[zH (),λp3 h3=>?_];let e3:=zB h3<|.tup [.ref p2,sv];let k3:upd J2 p3 (.tup [.ref p2,sv]) p3=_:=zA;generalize upd J2 p3 (.tup [.ref p2,sv])=J3 at e3 k3⊢;calc#[zH (),λp4 h4=>?_];let e4:=zB h4<|.tup [.str "none"];let k4:upd J3 p4 (.tup [.str "none"]) p4=_:=zA;generalize upd J3 p4 (.tup [.str "none"])=J4 at e4 k4⊢;calc#[zH (),λp5 h5=>?_];let e5:=zB h5<|.tup [tv,.ref p4];let k5:upd J4 p5 (.tup [tv,.ref p4]) p5=_:=zA;generalize upd J4 p5 (.tup [tv,.ref p4])=J5 at e5 k5⊢;calc#[zH (),λp6 h6=>?_];let e6:=zB h6<|.tup [.str "all"];let k6:upd J5 p6 (.tup [.str "all"]) p6=_:=zA;generalize upd J5 p6 (.tup [.str "all"])=J6 at e6 k6⊢;calc#[zH (),λp7 h7=>?_];let e7:=zB h7<|.tup [.str "none"];let k7:upd J6 p7 (.tup [.str "none"]) p7=_:=zA;generalize upd J6 p7 (.tup [.str "none"])=J7 at e7 k7⊢;calc#[zH (),λp8 h8=>?_];let e8:=zB h8<|.tup [.ref p6,.ref p7];let k8:upd J7 p8 (.tup [.ref p6,.ref p7]) p8=_:=zA;generalize upd J7 p8 (.tup [.ref p6,.ref p7])=J8 at e8 k8⊢;calc#[zH (),λp9 h9=>g _ _ ?_];clear g;let e9:=zB h9<|.lst [.ref p0,.ref Y,.ref p3,.ref p5,.ref p8];let B:upd J8 p9 (.lst [.ref p0,.ref Y,.ref p3,.ref p5,.ref p8]) p9=_:=zA;generalize upd J8 p9 (.lst [.ref p0,.ref Y,.ref p3,.ref p5,.ref p8])=J9 at e9 B⊢;let g8:=e9;let g7:=e8.trans g8;let g6:=e7.trans g7;let g5:=e6.trans g6;let g4:=e5.trans g5;let g3:=e4.trans g4;let g2:=e3.trans g3;let g1:=Z.trans g2;let g0:=R.trans g1;let gx:=e0.trans g0;let ts:=eL.same gx hs;let tt:=eL.same gx ht;let ta2:fX J9 (.node "all" []) (.ref p2):=#[p2,_,rfl,g2 _ _ k2,_,_,rfl,rfl,rfl]
 let tn4:fX J9 (.node "none" []) (.ref p4):=#[p4,_,rfl,g4 _ _ k4,_,_,rfl,rfl,rfl]
 let ta6:fX J9 (.node "all" []) (.ref p6):=#[p6,_,rfl,g6 _ _ k6,_,_,rfl,rfl,rfl]
 let tn7:fX J9 (.node "none" []) (.ref p7):=#[p7,_,rfl,g7 _ _ k7,_,_,rfl,rfl,rfl]
 let mk:∀{p:Addr}{x y:V}{s t:Tm},J9 p=some (.tup [x,y])->fX J9 s x->fX J9 t y->rK J9 (s,t) (.ref p):=λk h1 h2=>#[_,_,rfl,k,_,_,rfl,h1,_,_,rfl,h2,rfl]
 let hsm:mT J9 [(s,t),(t,s),(.node "all" [],s),(t,.node "none" []),(.node "all" [],.node "none" [])] [.ref p0,.ref Y,.ref p3,.ref p5,.ref p8]:=#[_,_,rfl,mk (g0 _ _ k0) ts tt,_,_,rfl,mk (g1 _ _ k1) tt ts,_,_,rfl,mk (g3 _ _ k3) ta2 ts,_,_,rfl,mk (g5 _ _ k5) tt tn4,_,_,rfl,mk (g8 _ _ k8) ta6 tn7,rfl]
 let qa:tP zs (.node "all" []):=#[#[gA.mono (n:=0) #[.inr<|.inl #[rfl,rfl],rfl] (),by simp only[wt,iW];lia],λx hx=>by rw[iY,yQ]at hx;cases hx]
 let qn:tP zs (.node "none" []):=#[#[gA.mono (n:=0) #[.inl #[rfl,rfl],rfl] (),by simp only[wt,iW];lia],λx hx=>by rw[iY,yQ]at hx;cases hx]
 let wa':wt (.node "all" [])<=9:=by simp only[wt,iW];lia
 let wn':wt (.node "none" [])<=9:=by simp only[wt,iW];lia
 let hqq:∀p∈[(s,t),(t,s),(.node "all" [],s),(t,.node "none" []),(.node "all" [],.node "none" [])],(tP zs p.1/\tP zs p.2)/\wt p.1<=9/\wt p.2<=9:=λp hp=>by
  simp only[bI,dA,or_false]at hp;rcases hp with rfl |rfl |rfl |rfl |rfl
  ·exact#[#[qs,qt],by show wt s<=9;lia,by show wt t<=9;lia]
  ·exact#[#[qt,qs],by show wt t<=9;lia,by show wt s<=9;lia]
  ·exact#[#[qa,qs],wa',by show wt s<=9;lia]
  ·exact#[#[qt,qn],by show wt t<=9;lia,wn']
  ·exact#[#[qa,qn],wa',wn']
 let hlast:tO m ps S (.node "all" [],.node "none" [])=false:=by
  rw[dM];intro z;have :=rG.mp z 0 (by show 0∈val m ps S (.node "all" []);rw[cr];calc bL.mpr hm1');rw[show(Tm.node "all" [],Tm.node "none" []).2=.node "none" []from rfl,OP]at this;cases this
 let hmem:(Tm.node "all" [],Tm.node "none" [])∈[(s,t),(t,s),(.node "all" [],s),(t,.node "none" []),(.node "all" [],.node "none" [])]:=by simp
 let hl5:[(s,t),(t,s),(.node "all" [],s),(t,.node "none" []),(.node "all" [],.node "none" [])].length<=5:=aG 5;generalize [(s,t),(t,s),(.node "all" [],s),(t,.node "none" []),(.node "all" [],.node "none" [])]=sm at hsm hqq hmem hl5;let hsl:=xS hsm;generalize [V.ref p0,V.ref Y,V.ref p3,V.ref p5,V.ref p8]=vs at hsm hsl B;replace iZ:=iZ.same gx;replace X:=X.same gx;replace u:=u.trans gx;clear gx g0 g1 g2 g3 g4 g5 g6 g7 g8 e0 R Z e3 e4 e5 e6 e7 e8 e9 k0 k1 k2 k3 k4 k5 k6 k7 k8 ts tt ta2 tn4 ta6 tn7 mk h0 h1 h2 h3 h4 h5 h6 h7 h8 h9 hs ht;refine zD λN g=>?_
 dsimp![];calc#[#[_,cO.of B],?_];refine XN (xs:=vs) (λi ys σ G=>aX J9 G/\bN J9 (((sm.take i).filter λp=>!tO m ps S p).map CM) ys/\∃o,σ=[o,some<|.ref nr,some<|.ref d]) #[aX.refl _,rfl,_,rfl] (zH ()) (λi ys σ G e=>?_) (λi ys σ G e=>cO.of<|e.1 _ _ B) (λi x ys σ G C D hx e hC hD=>?_) λys σ G e p hp=>?_
 ·have :=xS e.2.1;let h2:=dX (λp=>!tO m ps S p)<|sm.take i;rw[bD]at h2;lia
 ·obtain⟨R,hd,o,rfl⟩:=e;obtain⟨p,iR,iP⟩:=mT.getV hsm hx;obtain⟨hyl,hye⟩:=aD.mp iR;let tp:=hqq p<|aS iR;dsimp![];calc#[nr,d,x,m,ps,S,zs,p,rfl,X.same R,eL.same R iP,tp.1.1,tp.1.2,λG2 s2=>#[_,rfl,?_]];rw[aI hyl,hye]at hC hD;by_cases c:tO m ps S p=true
  ·rw[aH (by rw[c];decide)];calc hD _ _ #[R.trans s2,?_,_,rfl];rw[dN];simp[c];exact hd
  ·rw[OC]at c;rw[aT c];calc hC _ _ _ #[R.trans s2,?_,_,rfl];rw[dN];simp[c];exact bN.append hd<|bN.one iP
 obtain⟨R,hd,o,rfl⟩:=e;rw[aU ()]at hd;let hmf:(Tm.node "all" [],Tm.node "none" [])∈sm.filter (λp=>!tO m ps S p):=cK.mpr #[hmem,by rw[hlast];rfl];cases hfe:sm.filter λp=>!tO m ps S p with
 |nil=>rw[hfe]at hmf;cases hmf
 |cons j nU=>
 rw[hfe]at hd;obtain⟨v0,vr,rfl,hsg,_⟩:=hd;let mF:=cK.mp (show j∈sm.filter λp=>!tO m ps S p by rw[hfe];calc aV);obtain⟨⟨qs1,qs2⟩,w1',w2'⟩:=hqq j mF.1;let hns:¬Hs m ps S j:=λz=>by
  have :=mF.2;rw[rG.mpr z]at this;cases this
 calc#[p,rfl,_,cO.of zA,_,gR,g _ _ ?_];clear g;let Z:=R.trans<|zB hp<|.lst (v0::vr);generalize upd G p (.lst (v0::vr))=H7 at Z⊢;replace iZ:=iZ.same Z;replace X:=X.same Z;replace hsg:=eL.same Z hsg;replace u:=u.trans Z;clear R Z hp hsm hfe hmf mF hqq hmem B hsl hlast;refine zD λN g=>?_
 dsimp![];calc#[zH (),λba hba=>g _ _ ?_];clear g;let e8:=zB hba<|.lst [];let kb:upd H7 ba (.lst []) ba=some (.lst []):=zA;generalize upd H7 ba (.lst [])=H8 at e8 kb⊢;let r0:(PZ [] j).length<=40:=by
  obtain⟨g1,g2,g3,g4⟩:=qA j.1 20 [.no] qs1.1.1 rB.one;obtain⟨R,Z,e3,e4⟩:=qA j.2 20 _ qs2.1.1 g1;show(dY j.2 (dY j.1 [.no]).1).1.length<=40;rw[bP]at g3;lia
 refine zK (λσ H'=>∃(bs:List V)(b:List pJ)(o1 o2 o3 o4:Option V),aX H7 H'/\H' ba=some (.lst bs)/\mU (wo H' ba) b bs/\b.length<=12/\(∀r∈b,Gr zs r/\Hr m ps S r)/\(PZ b j).length<=40/\σ=[some<|.ref a,some<|.ref na,some<|.ref wa,some<|.ref nr,some<|.ref d,some<|.int sz,some sv,some tv,some<|.ref p9,some v0,some<|.ref ba,o1,o2,o3,o4]) (λN g=>?_) λσ H' h=>?_
 ·dsimp![];obtain⟨cs,nY,hcl⟩:=aq ns (some 8) none;calc#[_,aX.seq (u.trans e8) hS,λpc hpc=>?_];rw[nY];calc#[#[_,cO.of zA],?_];let e9:=zB hpc<|.lst<|cs.map V.int;let kc:upd H8 pc (.lst<|cs.map V.int) pc=_:=zA;let kb9:=e9 _ _ kb;replace e9:=e8.trans e9;generalize upd H8 pc (.lst<|cs.map V.int)=H9 at e9 kc kb9⊢;let hcb:pc≠ba:=λz=>by rw[z,kb]at hpc;cases hpc
  refine xP (xs:=cs.map V.int) (λi σ H'=>∃(bs:List V)(b:List pJ)(o1 o2 o3 o4:Option V),(aX H7 H'/\H' pc=some (.lst<|cs.map V.int))/\H' ba=some (.lst bs)/\mU (wo H' ba) b bs/\b.length<=12/\(∀r∈b,Gr zs r/\Hr m ps S r)/\(PZ b j).length<=40/\σ=[some<|.ref a,some<|.ref na,some<|.ref wa,some<|.ref nr,some<|.ref d,some<|.int sz,some sv,some tv,some<|.ref p9,some v0,some<|.ref ba,o1,o2,o3,o4]) #[[],[],_,_,_,_,#[e9,kc],kb9,rfl,(),(λr hr=>by cases hr),r0,rfl] (λi σ H' _ h=>by obtain⟨_,_,_,_,_,_,h,_⟩:=h;calc cO.of h.2) (λi x σ H' hx h M hM=>?_) λσ H' h=>?_
  ·obtain⟨bs,b,o1,o2,o3,o4,⟨s9,kp9⟩,B,hb,hbl,L,oB,rfl⟩:=h;rw[aF]at hx;obtain⟨z,hz,rfl⟩:=aL.mp hx;let hbsl:=xS hb;refine zD λN g=>?_
   dsimp![];calc#[#[(),(),()],SF,_,na,m0,zs,rfl,iZ.same s9,U,(),λv r H1 s1 hrf hgr=>g _ _ ?_];clear g;obtain⟨ra,la,sv',oJ,rfl,kr1,kl0,kl1,hss,hsv⟩:=hrf;let hlb:la≠ba:=λe=>by rw[e,B]at kl0;cases kl0
   let hrat:me H1 r (.ref ra):=#[ra,_,rfl,kr1,_,_,rfl,#[la,oJ,rfl,kl1,hss],_,_,rfl,hsv,rfl]
   let l:=s1 _ _ B;let oN:me (wo H1 ba) r (.ref ra):=#[ra,_,rfl,DW l _ _ kr1,_,_,rfl,#[la,oJ,rfl,by unfold wo;rw[aH hlb];exact kl1,mT.tups (DW l) hss],_,_,rfl,rK.tups (DW l) hsv,rfl]
   let hbw:mU (wo H1 ba) b bs:=bN.same (wN s1 ba) hb;let s19:=s9.trans s1;let kp1:=s1 _ _ kp9;let stay:∀H',aX H1 H'->M [some<|.ref a,some<|.ref na,some<|.ref wa,some<|.ref nr,some<|.ref d,some<|.int sz,some sv,some tv,some<|.ref p9,some v0,some<|.ref ba,some<|.int z,some<|.ref ra,o3,o4] H':=λH' s'=>hM _ _ #[bs,b,_,_,_,_,#[s19.trans s',s' _ _ kp1],s' _ _ l,bN.same (wN s' ba) hbw,hbl,L,oB,rfl]
   clear kl0 kr1 kl1 hss hsv hb s1;dsimp![];calc#[_,.inl #[_,cO.of l,rfl],?_];by_cases c1:(bs.length:Int)<12
   rotate_left
   ·rw[aH c1];exact stay _<|aX.refl _
   rw[aT c1];calc#[nr,d,_,m,ps,S,zs,r,rfl,X.same s19,hrat,WU hgr,hgr.1,λH2 s2=>#[_,rfl,?_]];by_cases c2:hrB m ps S r=true
   rotate_left
   ·rw[aH c2];exact stay _ s2
   rw[aT c2];let hb2:mU (wo H2 ba) (b++[r]) (bs++[.ref ra]):=by
    show bN _ ((b++[r]).map ZN) _;rw[aQ];exact bN.append (bN.same (wN s2 ba) hbw)<|bN.one<|eL.same (wN s2 ba) oN
   let hgr':∀q∈b++[r],Gr zs q:=λq hq=>by
    rcases bJ.mp hq with h |h
    ·exact(L q h).1
    ·rw[aP.mp h];exact hgr
   let bk:=ax (b:=b++[r]) (s:=j) (by rw[aK,bP];lia) hgr' qs1 qs2;calc#[zH (),λY h1=>#[bs,zB h1 _ _ _<|s2 _ _ l,_,zA,zH (by rw[bP];lia),λp2 h2=>?_]];let s3:=s2.trans<|(zB h1<|.lst [.ref ra]).trans (zB h2<|.lst<|bs++[.ref ra]);let s23:=(zB h1<|.lst [.ref ra]).trans (zB h2<|.lst<|bs++[.ref ra]);let kp2:upd (upd H2 Y<|.lst [.ref ra]) p2 (.lst<|bs++[.ref ra]) p2=_:=zA;generalize upd (upd H2 Y<|.lst [.ref ra]) p2 (.lst<|bs++[.ref ra])=H3 at s3 s23 kp2⊢;clear h1 h2;calc#[p2,v0,_,b++[r],j,rfl,kp2,bN.same ((OO H2 ba).trans s23) hb2,eL.same (s19.trans s3) hsg,bk.bl,bk.pl,(λt ht=>(bk.fit t ht).1),λrr J H4 O r4=>?_];obtain⟨mW,kz,hz'⟩:=r4.ex;let hzl:=xS hz';let s34:=s3.trans<|O.trans r4.sub;calc#[_,.inl #[_,cO.of kz,rfl],?_];split
   ·next c3=>
    let k94:=s34 _ _ l;refine#[.inl #[rfl,_,cO.of k94],bs,k94,dk (),hM _ _ #[bs++[.ref ra],b++[r],_,_,_,_,#[λx o hx=>?_,(zG hcb).trans (s34 _ _ kp1)],zA,?_,by rw[aK,bP];lia,λq hq=>?_,by show(yU (lG (b++[r])++lF j) [.no]).length<=40;lia,rfl]]
    ·rw[zG λe=>by rw[e,hba]at hx;cases hx];exact(s19.trans s34) _ _ hx
    ·rw[mx];exact bN.same (wN (s23.trans<|O.trans r4.sub) ba) hb2
    ·rcases bJ.mp hq with h |h
     ·exact L q h
     ·rw[aP.mp h];exact#[hgr,KI.mp c2]
   ·exact stay _ s34
  ·obtain⟨bs,b,o1,o2,o3,o4,⟨s9,_⟩,h⟩:=h;exact g _ _ #[bs,b,o1,o2,o3,o4,s9,h]
 ·obtain⟨bs,b,o1,o2,o3,o4,s9,B,hb,hbl,L,oB,rfl⟩:=h;replace hb:mU H' b bs:=bN.same (OO H' ba) hb;let bk:=ax (b:=b) (s:=j) () (λr hr=>(L r hr).1) qs1 qs2;let I:=eL.same s9 hsg;refine zD λN g=>?_
  dsimp![];calc#[ba,bs,b,rfl,B,hb,(),bk.pl,λhp us H6 u k6 h6=>g _ _ ?_];clear g;replace B:=u _ _ B;replace hb:mU H6 b bs:=bN.same u hb;replace I:=eL.same u I;refine zD λN g=>?_
  dsimp![];calc#[hp,v0,us,zs,b,j,rfl,k6,h6,I,bk.bl,bk.pl,(λt ht=>(bk.fit t ht).1),(λt ht=>(bk.fit t ht).2),hz3,oB,#[m,ps,S,hfw,λr hr=>(L r hr).2,hns],λp wa' ca' la' n m' ps' T' oG S' H7 s7 k7 oa=>g _ _ ?_];clear g;refine zD λN g=>?_
  dsimp![rNeG];calc#[_,.tup k7,true,xV,?_];rw[aH ()];calc#[_,.inr #[_,cW.of k7,rfl],rfl,?_];rw[aH λz=>z rfl];calc#[_,cW.of k7,_,gR,rfl,?_];rw[aH λz=>z rfl];calc g _ _ ?_;clear g;dsimp![RJ];calc#[p,ba,wa',ca',la',v0,bs,oG,zs,b,j,n,m',ps',T',S',rfl,k7,s7 _ _ B,bN.same s7 hb,eL.same s7 I,bk,oa,λH8 s8=>#[true,rfl,sf ?_]];let s68:=s7.trans s8;let hfs:∀p,(∀t∈lF p,t∈lG b++lF j)->bm 20 120 p:=λp h=>#[(bk.fit _<|h _ (by simp[lF])).1,(bk.fit _<|h _ (by simp[lF])).1]
  refine#[24,.lst<|b.map ZN,#[hp,us,rfl,s68 _ _ k6,bN.same s68 h6],.lst<|b.map ZN,#[ba,bs,rfl,s68 _ _ B,bN.same s68 hb],#[by rw[aC];lia,λe he=>?_],(),?_]
  ·obtain⟨r,hr,rfl⟩:=bH.mp he;let iT:=bk.pl r hr;exact LX (λp hp=>hfs p λt ht=>bW _<|dB.mpr #[r,hr,bW _<|dB.mpr #[p,hp,ht]]) (hfs r.2 λt ht=>bW _<|dB.mpr #[r,hr,aZ _ ht]) (by decide:(120:Nat)<=900) ()
  ·rw[xA];exact q H8
theorem ln0{us:List Value}(h:us.length=0):us=[]:=eS.mp h
theorem lnS{us:List Value}(h:us.length=n+1):∃(u:Value)(r:List Value),us=u::r/\r.length=n:=by
 cases us with
 |nil=>cases h
 |cons u r=>exact#[u,r,rfl,nJ h]
theorem ln1{us:List Value}(h:us.length=1):∃a,us=[a]:=by
 obtain⟨a,r,rfl,g⟩:=lnS h;cases ln0 g;exact#[a,rfl]
theorem ln2{us:List Value}(h:us.length=2):∃a b,us=[a,b]:=by
 obtain⟨a,r,rfl,g⟩:=lnS h;obtain⟨b,rfl⟩:=ln1 g;exact#[a,b,rfl]
theorem ln3{us:List Value}(h:us.length=3):∃a b c,us=[a,b,c]:=by
 obtain⟨a,r,rfl,g⟩:=lnS h;obtain⟨b,c,rfl⟩:=ln2 g;exact#[a,b,c,rfl]
theorem ln4{us:List Value}(h:us.length=4):∃a b c d,us=[a,b,c,d]:=by
 obtain⟨a,r,rfl,g⟩:=lnS h;obtain⟨b,c,d,rfl⟩:=ln3 g;exact#[a,b,c,d,rfl]
theorem bz{x qual:Str}{st:Stmt}(F:fT K x qual st f fd)(ps:List Str)
 (h:∀(kV doc pm:Value)(an:Option Addr)(eO ct:Value)(us:List Value),us.length=ps.length->bindArgs (W.fnOf x qual (xQ st) (yX st) (zF st) .none kV doc pm an eO ct) #[us,[]]=pure (ps.zip us):=by intro _ _ _ _ _ _ us hl;first |(obtain⟨_,rfl⟩:=ln1 hl;rfl) |(obtain⟨_,_,rfl⟩:=ln2 hl;rfl) |(obtain⟨_,_,_,rfl⟩:=ln3 hl;rfl) |(obtain⟨_,_,_,_,rfl⟩:=ln4 hl;rfl)):Binds K fd ps []:=F.binds h
structure iC(K:W.Frag)(x:Str)(st:Stmt)(f:Addr)(fd:FuncData):Prop where
 a:W.nsIn K mainGlobals x=some (some<|.ref f)
 F:fT K x x st f fd
theorem fQq{x:Str}{st:Stmt}{oc:Value}{od an:Option Addr}{osl:Array (Option Value)}{kV doc pm eO ct:Value}(a:W.nsIn K mainGlobals x=some (some<|.ref f))(l:K.lookup f=some #[oc,od,.func<|W.fnOf x x (xQ st) (yX st) (zF st) .none kV doc pm an eO ct,osl])
 (c:W.codeIn K eO x=true) (k:W.keepIn K (.ref f)=true):iC K x st f (W.fnOf x x (xQ st) (yX st) (zF st) .none kV doc pm an eO ct):=#[a,GF l c k]
structure b9(K:W.Frag)(C:Addr)(m q:Str)(st:Stmt)(f:Addr)(fd:FuncData):Prop where
 a:W.findIn K (.ref C) m=some (some<|.ref f)
 i:W.isFn K (.ref f)=true
 k:W.keepIn K (.ref f)=true
 F:fT K m q st f fd
theorem mQq{C:Addr}{m q:Str}{st:Stmt}{oc:Value}{od an:Option Addr}{osl:Array (Option Value)}{kV doc pm eO ct:Value}(a:W.findIn K (.ref C) m=some (some<|.ref f))(i:W.isFn K (.ref f)=true)(l:K.lookup f=some #[oc,od,.func<|W.fnOf m q (xQ st) (yX st) (zF st) .none kV doc pm an eO ct,osl])
 (c:W.codeIn K eO q=true) (k:W.keepIn K (.ref f)=true):b9 K C m q st f (W.fnOf m q (xQ st) (yX st) (zF st) .none kV doc pm an eO ct):=#[a,i,k,GF l c k]
structure En(P:Program)(w:World)(K:W.Frag)(mg:Str->Option Value)(base:Heap):Prop where
 h:∃h,K.In h/\h.Ns mainGlobals mg
theorem hz{x:Str}{st:Stmt}{k:Nat}{ps:List Str}{sp:Sp}(E:En P w K mg base)(i:iC K x st f fd)(o:cZ P w K mg base fL k f fd ps sp)
 (h:∀(kV doc pm:Value)(an:Option Addr)(eO ct:Value)(us:List Value),us.length=ps.length->bindArgs (W.fnOf x x (xQ st) (yX st) (zF st) .none kV doc pm an eO ct) #[us,[]]=pure (ps.zip us):=by intro _ _ _ _ _ _ us hl;first |(obtain⟨_,rfl⟩:=ln1 hl;rfl) |(obtain⟨_,_,rfl⟩:=ln2 hl;rfl) |(obtain⟨_,_,_,rfl⟩:=ln3 hl;rfl) |(obtain⟨_,_,_,_,rfl⟩:=ln4 hl;rfl)):fI P w K mg base k x ps sp:=by
 obtain⟨_,X,G⟩:=E.h;exact qW i.F o (bz i.F ps h)<|dS X G i.a
theorem mz{D:Addr}{x q:Str}{st:Stmt}{k:Nat}{ps:List Str}{sp:Sp}(_:En P w K mg base)(i:b9 K D x q st f fd)(o:cZ P w K mg base fL k f fd ps sp)
 (h:∀(kV doc pm:Value)(an:Option Addr)(eO ct:Value)(us:List Value),us.length=ps.length->bindArgs (W.fnOf x q (xQ st) (yX st) (zF st) .none kV doc pm an eO ct) #[us,[]]=pure (ps.zip us):=by intro _ _ _ _ _ _ us hl;first |(obtain⟨_,rfl⟩:=ln1 hl;rfl) |(obtain⟨_,_,rfl⟩:=ln2 hl;rfl) |(obtain⟨_,_,_,rfl⟩:=ln3 hl;rfl) |(obtain⟨_,_,_,_,rfl⟩:=ln4 hl;rfl)):mY P w K mg base k D x ps sp:=#[_,_,o,bz i.F ps h,i.a,i.i,i.k]
theorem all_mk{f_p f_f f_H f_u f_v f_j f_i f_a f_be f_N f_Z f_c f_y f_bb f_bd f_af f_T f_M f_cb f_bf f_O f_d f_b f_X f_W f_n f_ad f_cf f_q f_h f_A f_s f_t f_r f_z f_bh f_ah f_ce f_U f_ac f_V f_cd f_ab f_I f_B f_ag f_w f_ba f_cc f_K f_F f_Q f_E f_L f_l f_aa f_e f_G f_bc f_R f_ae f_x f_ca f_k f_Y f_o f_bg f_J f_S f_D f_P f_g f_m:Addr}{d_Growth_init d_Growth_line_of d_Growth_has d_Growth_grow d_Floor_init d_Floor_common_of d_Floor_counter_of d_Floor_value_of d_mask_of d_bits_of d_parts_of d_gather_names d_names_of_all d_names_of d_terms_in d_is_whole d_is_below d_places_of d_found d_put_in d_turned d_number_by d_joined_number d_sheet_of d_pair_of d_numbered_rule d_numbered d_begin d_boths_by_part d_rules_by_premise d_grow_by_turn d_grow_by_chain d_grow_by_both d_grow_by_clash d_grow_by_rule d_closing d_sets_for d_value d_renamed d_line_for d_hung_on d_paper d_spots_by d_clashes_by d_spots_under d_world_of d_spot_against d_judge_on d_judge d_law_draw d_law_whole d_law_names d_law_clashes d_law_near d_law_counter d_law_some d_law_worth d_law_pushed d_law_term d_law_world d_law_sets d_law_is_world d_law_row d_law_laid d_law_pair d_law_all_rows d_law_in d_law_kept d_law_open d_law_copy_of d_law_small d_law_small_saying d_law_small_rule:FuncData}{l:W.OpenLaw}{h:Heap}{fa:Addr}(X:K.In h)(G:h.Ns mainGlobals mg)(hfa:mg "law"=some (.ref fa))
 {C_Growth:Addr} (aC_Growth:W.nsIn K mainGlobals "Growth"=some (some<|.ref C_Growth))
 (nW:b9 K C_Growth "__init__" "Growth.__init__" s_p f_p d_Growth_init)
 (oF:b9 K C_Growth "line_of" "Growth.line_of" s_f f_f d_Growth_line_of)
 (j_Growth_has:b9 K C_Growth "has" "Growth.has" s_H f_H d_Growth_has)
 (j_Growth_grow:b9 K C_Growth "grow" "Growth.grow" s_u f_u d_Growth_grow)
 (pg_Growth:W.plainGet K C_Growth Str.empty=true) (hd_Growth:W.hasDictIn K C_Growth=true) (po_Growth:W.plainOver K C_Growth=true) (sa_Growth:W.findIn K (.ref C_Growth) "__setattr__"=some (some<|.builtin "object.__setattr__")) (mk_Growth:W.makesIn K C_Growth=true) (kc_Growth:W.keepIn K (.ref C_Growth)=true) (n_Growth_lines:W.findIn K (.ref C_Growth) "lines"=some none) (n_Growth_places:W.findIn K (.ref C_Growth) "places"=some none) (n_Growth_above:W.findIn K (.ref C_Growth) "above"=some none) (n_Growth_below:W.findIn K (.ref C_Growth) "below"=some none)
 {C_Floor:Addr} (aC_Floor:W.nsIn K mainGlobals "Floor"=some (some<|.ref C_Floor))
 (oK:b9 K C_Floor "__init__" "Floor.__init__" s_v f_v d_Floor_init)
 (nF:b9 K C_Floor "common_of" "Floor.common_of" s_j f_j d_Floor_common_of)
 (mR:b9 K C_Floor "counter_of" "Floor.counter_of" s_i f_i d_Floor_counter_of)
 (gZ:b9 K C_Floor "value_of" "Floor.value_of" s_a f_a d_Floor_value_of)
 (pg_Floor:W.plainGet K C_Floor Str.empty=true) (hd_Floor:W.hasDictIn K C_Floor=true) (po_Floor:W.plainOver K C_Floor=true) (sa_Floor:W.findIn K (.ref C_Floor) "__setattr__"=some (some<|.builtin "object.__setattr__")) (mk_Floor:W.makesIn K C_Floor=true) (kc_Floor:W.keepIn K (.ref C_Floor)=true) (n_Floor_everywhere:W.findIn K (.ref C_Floor) "everywhere"=some none) (n_Floor_clashing:W.findIn K (.ref C_Floor) "clashing"=some none)
 (i_be:iC K "mask_of" pf f_be d_mask_of)
 (i_N:iC K "bits_of" s_N f_N d_bits_of)
 (i_Z:iC K "parts_of" s_Z f_Z d_parts_of)
 (i_c:iC K "gather_names" s_c f_c d_gather_names)
 (i_y:iC K "names_of_all" s_y f_y d_names_of_all)
 (i_bb:iC K "names_of" pk f_bb d_names_of)
 (i_bd:iC K "terms_in" ph f_bd d_terms_in)
 (i_af:iC K "is_whole" qb f_af d_is_whole)
 (i_T:iC K "is_below" s_T f_T d_is_below)
 (i_M:iC K "places_of" s_M f_M d_places_of)
 (i_cb:iC K "found" oy f_cb d_found)
 (i_bf:iC K "put_in" o9 f_bf d_put_in)
 (i_O:iC K "turned" s_O f_O d_turned)
 (i_d:iC K "number_by" s_d f_d d_number_by)
 (i_b:iC K "joined_number" s_b f_b d_joined_number)
 (i_X:iC K "sheet_of" s_X f_X d_sheet_of)
 (i_W:iC K "pair_of" s_W f_W d_pair_of)
 (i_n:iC K "numbered_rule" s_n f_n d_numbered_rule)
 (i_ad:iC K "numbered" qd f_ad d_numbered)
 (i_cf:iC K "begin" om f_cf d_begin)
 (i_q:iC K "boths_by_part" s_q f_q d_boths_by_part)
 (i_h:iC K "rules_by_premise" s_h f_h d_rules_by_premise)
 (i_A:iC K "grow_by_turn" s_A f_A d_grow_by_turn)
 (i_s:iC K "grow_by_chain" s_s f_s d_grow_by_chain)
 (i_t:iC K "grow_by_both" s_t f_t d_grow_by_both)
 (i_r:iC K "grow_by_clash" s_r f_r d_grow_by_clash)
 (i_z:iC K "grow_by_rule" s_z f_z d_grow_by_rule)
 (i_bh:iC K "closing" o0 f_bh d_closing)
 (i_ah:iC K "sets_for" py f_ah d_sets_for)
 (i_ce:iC K "value" oq f_ce d_value)
 (i_U:iC K "renamed" s_U f_U d_renamed)
 (i_ac:iC K "line_for" qe f_ac d_line_for)
 (i_V:iC K "hung_on" s_V f_V d_hung_on)
 (i_cd:iC K "paper" ou f_cd d_paper)
 (i_ab:iC K "spots_by" qf f_ab d_spots_by)
 (i_I:iC K "clashes_by" s_I f_I d_clashes_by)
 (i_B:iC K "spots_under" s_B f_B d_spots_under)
 (i_ag:iC K "world_of" pz f_ag d_world_of)
 (i_w:iC K "spot_against" s_w f_w d_spot_against)
 (i_ba:iC K "judge_on" pq f_ba d_judge_on)
 (i_cc:iC K "judge" ox f_cc d_judge)
 (i_K:iC K "_law_draw" s_K f_K d_law_draw)
 (i_F:iC K "_law_whole" s_F f_F d_law_whole)
 (i_Q:iC K "_law_names" s_Q f_Q d_law_names)
 (i_E:iC K "_law_clashes" s_E f_E d_law_clashes)
 (i_L:iC K "_law_near" s_L f_L d_law_near)
 (i_l:iC K "_law_counter" s_l f_l d_law_counter)
 (i_aa:iC K "_law_some" qg f_aa d_law_some)
 (i_e:iC K "_law_worth" s_e f_e d_law_worth)
 (i_G:iC K "_law_pushed" s_G f_G d_law_pushed)
 (i_bc:iC K "_law_term" pj f_bc d_law_term)
 (i_R:iC K "_law_world" s_R f_R d_law_world)
 (i_ae:iC K "_law_sets" qc f_ae d_law_sets)
 (i_x:iC K "_law_is_world" s_x f_x d_law_is_world)
 (i_ca:iC K "_law_row" oz f_ca d_law_row)
 (i_k:iC K "_law_laid" s_k f_k d_law_laid)
 (i_Y:iC K "_law_pair" s_Y f_Y d_law_pair)
 (i_o:iC K "_law_all_rows" s_o f_o d_law_all_rows)
 (i_bg:iC K "_law_in" o8 f_bg d_law_in)
 (i_J:iC K "_law_kept" s_J f_J d_law_kept)
 (i_S:iC K "_law_open" s_S f_S d_law_open)
 (i_D:iC K "_law_copy_of" s_D f_D d_law_copy_of)
 (i_P:iC K "_law_small" s_P f_P d_law_small)
 (i_g:iC K "_law_small_saying" s_g f_g d_law_small_saying)
 (i_m:iC K "_law_small_rule" s_m f_m d_law_small_rule)
 {od_C an_C:Option Addr} {sl_C:Array (Option Value)} {oc_C kV_C dc_C pm_C cd_C ct_C:Value} (a_C:W.nsIn K mainGlobals "law"=some (some<|.ref f_C)) (l_C:K.lookup f_C=some #[oc_C,od_C,.func<|W.fnOf "law" "law" (xQ dq) (yX dq) (zF dq) .none kV_C dc_C pm_C an_C cd_C ct_C,sl_C]) (c_C:W.codeIn K cd_C "law"=true) (k_C:W.keepIn K (.ref f_C)=true)
  (z_enumerate:W.nsIn K mainGlobals "enumerate"=some none)
 {oO:Addr} {d_NONE_ROW:Option Addr} {n_NONE_ROW:Nat} {sl_NONE_ROW:Array (Option Value)} {t_N1:Tok} (g_NONE_ROW:W.nsIn K mainGlobals "NONE_ROW"=some (some<|.ref oO)) (o_NONE_ROW:K.lookup oO=some #[.type "tuple",d_NONE_ROW,.seq (List.toArray [.str "none" t_N1]) n_NONE_ROW,sl_NONE_ROW])
 {t_MOST_ROWS:Tok} (g_MOST_ROWS:W.nsIn K mainGlobals "MOST_ROWS"=some (some<|.int 40 t_MOST_ROWS))
 (z_all:W.nsIn K mainGlobals "all"=some none)
 (z_bool:W.nsIn K mainGlobals "bool"=some none)
 (z_dict:W.nsIn K mainGlobals "dict"=some none)
 (z_int:W.nsIn K mainGlobals "int"=some none)
 (z_isinstance:W.nsIn K mainGlobals "isinstance"=some none)
 (z_len:W.nsIn K mainGlobals "len"=some none)
 (z_list:W.nsIn K mainGlobals "list"=some none)
 (z_max:W.nsIn K mainGlobals "max"=some none)
 (z_range:W.nsIn K mainGlobals "range"=some none)
 (z_set:W.nsIn K mainGlobals "set"=some none)
 (z_sorted:W.nsIn K mainGlobals "sorted"=some none)
 (z_str:W.nsIn K mainGlobals "str"=some none)
 (z_sum:W.nsIn K mainGlobals "sum"=some none)
 (z_tuple:W.nsIn K mainGlobals "tuple"=some none):
 ∃fd:FuncData,(∀(s:Shared)(v:Value),BindsTo s fd #[[v],[]] [("script",v)])/\∀base:Heap,K.In base->base.Ns mainGlobals mg->cZ l.prog w K mg base fL 65 fa fd ["script"] (HP K):=by
 let e:=hfa.symm.trans<|dS X G a_C;cases e;let fY:LG K C_Growth:=#[pg_Growth,hd_Growth,po_Growth,sa_Growth]
 let mC_Growth:=dS X G aC_Growth;let F_p:=nW.F;let b_p:=bz F_p ["self","many"];let gU:LG K C_Floor:=#[pg_Floor,hd_Floor,po_Floor,sa_Floor]
 let mC_Floor:=dS X G aC_Floor;let F_v:=oK.F;let b_v:=bz F_v ["self","many","clashes"];let F_a:=gZ.F;let b_a:=bz F_a ["self","sets","t"];let t_a:NT K C_Floor "value_of" f_a:=#[gZ.a,gZ.i,gZ.k]
 let F_c:=i_c.F;let b_c:=bz F_c ["t","found"];let m_c:=dS X G i_c.a;let m_cb:=dS X G i_cb.a;let m_bf:=dS X G i_bf.a;let F_d:=i_d.F;let b_d:=bz F_d ["row_number","places","t"];let m_d:=dS X G i_d.a;let F_b:=i_b.F;let b_b:=bz F_b ["row_number","places","t"];let m_b:=dS X G i_b.a;let F_U:=i_U.F;let b_U:=bz F_U ["why","places"];let m_U:=dS X G i_U.a;let F_V:=i_V.F;let b_V:=bz F_V ["lines","k"];let m_V:=dS X G i_V.a;let F_e:=i_e.F;let b_e:=bz F_e ["near","sets","t"];let m_e:=dS X G i_e.a;let F_k:=i_k.F;let b_k:=bz F_k ["rows","t"];let m_k:=dS X G i_k.a;let F_C:=GF (st:=dq) l_C c_C k_C;let b:Bi mg:=#[cX X G z_len,cX X G z_range,cX X G z_isinstance,cX X G z_max,cX X G z_sum,cX X G z_all,cX X G z_tuple,cX X G z_list,cX X G z_sorted,cX X G z_set,cX X G z_int,cX X G z_bool,cX X G z_str,cX X G z_dict]
 calc#[W.fnOf "law" "law" (xQ dq) (yX dq) (zF dq) .none kV_C dc_C pm_C an_C cd_C ct_C,λs v=>.of_eq rfl,λbase _ _=>?_];let Ev:En l.prog w K mg base:=#[_,X,G]
 let be:mg "enumerate"=none:=cX X G z_enumerate;let T:OJ K C_Growth:=#[fY,n_Growth_lines,n_Growth_places,n_Growth_above,n_Growth_below]
 let h0:=hz Ev i_af<|BO b i_af.F;let h1:=hz Ev i_T<|BP b h0 i_T.F;let h2:=hz Ev i_N<|FO b i_N.F;let g0:bj l.prog w K mg base 1 C_Growth "Growth" ["self","many"] (n8 C_Growth):=#[_,_,SU T F_p,b_p,#[mk_Growth,nW.a,nW.i,kc_Growth],mC_Growth]
 let d:=mz Ev oF<|FK T oF.F;let p:=mz Ev j_Growth_has<|re T j_Growth_has.F;let c:=mz Ev j_Growth_grow<|f9 T b p j_Growth_grow.F;let c1:=hz Ev i_cf<|TB T b be c i_cf.F;let c2:=hz Ev i_q<|SZ b be i_q.F;let c3:=hz Ev i_h<|vV b be i_h.F;let c4:=hz Ev i_A<|fg T d c i_A.F;let c5:=hz Ev i_s<|SY T b h2 d c i_s.F;let c6:=hz Ev i_t<|gf T d p c i_t.F;let c7:=hz Ev i_r<|SX T b d c i_r.F;let c8:=hz Ev i_z<|fm T b h1 d p c i_z.F;let c9:=hz Ev i_bh<|FM T b g0 c2 c3 c1 c4 c5 c6 c7 c8 i_bh.F;let v1:=hz Ev i_ab<|BF b i_ab.F;let v2:=hz Ev i_B<|XD b be i_B.F;let v3:=hz Ev i_I<|JR b be i_I.F;let v4:=hz Ev i_ag<|BC b be v1 v2 v3 i_ag.F;let p3:=hz Ev i_ac<|BL b be i_ac.F;let p2:=qW F_U (TL (P:=l.prog) (w:=w) (base:=base) (k:=1)) b_U m_U;let p4:=qW F_V (TL (P:=l.prog) (w:=w) (base:=base) (k:=2)) b_V m_V;let p5:=hz Ev i_cd<|MR b be p3 p4 p2 i_cd.F;let TF:FlC K C_Floor:=#[gU,n_Floor_everywhere,n_Floor_clashing]
 let f1:=hz Ev i_be<|FJ b i_be.F;let f3:bj l.prog w K mg base 1 C_Floor "Floor" ["self","many","clashes"] (n9 C_Floor):=#[_,_,SW TF F_v,b_v,#[mk_Floor,oK.a,oK.i,kc_Floor],mC_Floor]
 let U:=mz Ev nF<|MV TF nF.F;let f5:=mz Ev mR<|JQ TF b h2 U mR.F;let f6:mY l.prog w K mg base 23 C_Floor "value_of" ["self","sets","t"] (df C_Floor 23):=#[_,_,BD TF b U f5 F_a b_a t_a 23,b_a,t_a]
 let q:=hz Ev i_Z<|BI b i_Z.F;let r:=qW F_c (ZR b q F_c b_c m_c 22) b_c m_c;let u:=hz Ev i_y<|ZQ b r i_y.F;let x:=hz Ev i_bb<|BK b u i_bb.F;let y:=hz Ev i_ah<|BH b f1 i_ah.F;let z:=hz Ev i_ce<|SN TF b y x h2 f3 f6 i_ce.F;let gM:Gc mg "MOST_ROWS" (.int 40):=#[_,dS X G g_MOST_ROWS,#[_,rfl]]
 let gN:Gc mg "NONE_ROW" (.ref oO):=#[_,dS X G g_NONE_ROW,rfl]
 let sN:∀H,Tw K H oO [.str "none"]:=λH=>.inr #[_,_,_,o_NONE_ROW,rfl,rfl,(by show 1<=sizeLine;decide),.cons #[_,rfl] .nil]
 let s1:=hz Ev i_bf<|MO gM b i_bf.F;let s2:=hz Ev i_cb<|SV b i_cb.F;let Y:=hz Ev i_O<|MN b i_O.F;let s4:=wG (s1.at m_bf) Y F_d b_d m_d F_b b_b m_b 21;let s5:=wG (s2.at m_cb) Y F_d b_d m_d F_b b_b m_b 21;let s6:=hz Ev i_X<|BG gN sN m_bf b s4 i_X.F;let Z:=hz Ev i_M<|MQ b be i_M.F;let s8:=hz Ev i_W<|FH m_cb s5 i_W.F;let s9:=hz Ev i_n<|kQ s8 i_n.F;let A:=hz Ev i_ad<|BJ b Z s9 i_ad.F;let B:=hz Ev i_bd<|BE b i_bd.F;let j1:=hz Ev i_w<|ZO b z i_w.F;let j2:=hz Ev i_ba<|BN b c9 A s8 Z p5 v4 j1 i_ba.F;let j3:=hz Ev i_cc<|SR b j2 s6 B i_cc.F;let n:=hz Ev i_K<|gc b i_K.F;let w2:=hz Ev i_Q<|SQ b n i_Q.F;let w3:=hz Ev i_E<|FN b i_E.F;let o:=hz Ev i_L<|fz b i_L.F;let C:=hz Ev i_l<|BM b i_l.F;let w6:=hz Ev i_aa<|fj b i_aa.F;let w7:=qW F_e (MT b C F_e b_e m_e 22) b_e m_e;let w8:=hz Ev i_G<|MP b i_G.F;let w9:=hz Ev i_bc<|fh b n w8 i_bc.F;let D:=hz Ev i_R<|SK b n w3 o w6 C i_R.F;let E:=hz Ev i_ae<|fk b i_ae.F;let f:=hz Ev i_F<|SL b i_F.F;let I:=hz Ev i_x<|VF b f o C i_x.F;let J:=hz Ev i_ca<|qz i_ca.F;let L:=qW F_k (f7 b J F_k b_k m_k 22) b_k m_k;let M:=hz Ev i_Y<|fq L i_Y.F;let g:=hz Ev i_o<|BQ M i_o.F;let j:=hz Ev i_bg<|ok_in b w7 i_bg.F;let m:=hz Ev i_J<|f8 b j i_J.F;let N:=hz Ev i_S<|fu b I o g m f w7 i_S.F;let O:=hz Ev i_D<|FL b i_D.F;let Q:=hz Ev i_P<|SO b i_P.F;let R:=hz Ev i_g<|ZP b Q i_g.F;let S:=hz Ev i_m<|JP b R i_m.F;exact q9 b n w2 D o E w9 j S m g O j3 N F_C
theorem walk{l:W.OpenLaw}{q:Program}{loose:List Str}{XP:(Str->Option Value)->Heap->Prop}{YP:World->Heap->Prop}{d:DefRec}{K:Params->W.Frag}(hn:l.most=some 63)(hdf:d.params.defaults=[])
 (hY:∀(w:World)(h:Heap),YP w h->(K w.params).In h)
 (F:∀(w:World)(mg:Str->Option Value)(fa:Addr)(h:Heap),(K w.params).In h->h.Ns mainGlobals mg->mg d.name=some (.ref fa)->
  ∃fd:FuncData,(∀(s:Shared)(u:Value),BindsTo s fd #[[u],[]] [("script",u)])/\∀base:Heap,(K w.params).In base->base.Ns mainGlobals mg->cZ l.prog w (K w.params) mg base fL 65 fa fd ["script"] (HP<|K w.params)):
 W.WalkO q loose XP YP l.row.toRowW d [] (λf vs=>PySem.call f vs):=
 L2.walk_of (n:=63) (k:=65) (x:="script") (CX:=λ_=>fL) (sp:=λw=>HP<|K w.params) hn () hdf #[rfl,(),()] hY F (λ_ _ a ns hl _ b=>#[a,ns,rfl,b,hl,λ_=>rfl]) λ_ _ _ _ _ z=>z
end C
open PySem PySem.W PyProof.Rows
set_option maxRecDepth 100000 in
set_option maxHeartbeats 0 in
theorem PySem.Challenge.cw_clashbook_k29_worlds_of_the_judge_holds : PySem.Challenge.rw_clashbook_k29_worlds_of_the_judge.Holds := by
 w_on;o_law;k_head;(case hw=>w_witness2)
 k_fill
 refine C.walk (l:=PySem.Challenge.rw_clashbook_k29_worlds_of_the_judge) rfl rfl (fun w h Y=>PySem.W.kIn_of Y) ?F
 case F=>
  intro w mg fa h KX G hmg;refine' C.all_mk KX G hmg ?_ ?_ ?_ ?_ ?_ ?_ ?_ ?_ ?_ ?_ ?_ ?_ ?_ ?_ ?_ ?_ ?_ ?_ ?_ ?_ ?_ ?_ ?_ ?_ ?_ ?_ ?_ ?_ ?_ ?_ ?_ ?_ ?_ ?_ ?_ ?_ ?_ ?_ ?_ ?_ ?_ ?_ ?_ ?_ ?_ ?_ ?_ ?_ ?_ ?_ ?_ ?_ ?_ ?_ ?_ ?_ ?_ ?_ ?_ ?_ ?_ ?_ ?_ ?_ ?_ ?_ ?_ ?_ ?_ ?_ ?_ ?_ ?_ ?_ ?_ ?_ ?_ ?_ ?_ ?_ ?_ ?_ ?_ ?_ ?_ ?_ ?_ ?_ ?_ ?_ ?_ ?_ ?_ ?_ ?_ ?_ ?_ ?_ ?_ ?_ ?_ ?_ ?_ ?_ ?_ ?_ ?_ ?_ ?_ ?_ ?_ ?_ ?_ ?_ ?_
  all_goals try first |(refine' C.fQq ?_ ?_ ?_ ?_<;>try k_is) |(refine' C.mQq ?_ ?_ ?_ ?_ ?_<;>try k_is) |k_is
