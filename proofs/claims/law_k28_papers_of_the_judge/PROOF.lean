import PyProof.Rows.All
import Wide.All
import OpenK.AllK
import Wide.FinOn
import PySem.Challenge.RW_clashbook_k28_papers_of_the_judge
namespace PySem.W.Fast
def tw14522096526158572100:=0
def tw10351328546487203089:=0
def tw17865355883821972405:=0
def tw9871146495293458636:=0
def tw10227871784201684440:=0
def tw1959819630861291116:=0
def tw17617330887906219053:=0
def tw14652020697398957311:=0
def tw2280526581415215087:=0
def tw17413771183405117152:=0
def tw2302740637479053410:=0
def tw12638495915973935123:=0
def tw13375292598122098741:=0
def tw16761875165838709563:=0
def tw17628554386873958729:=0
def tw1602485652936616207:=0
def tw736065490658669002:=0
def tw9759628077044267281:=0
def tw13924417987339240983:=0
def tw12542031696432101474:=0
def tw3309673803950818856:=0
def tw8558804745394498910:=0
def tw4048685573969874787:=0
def tw12749255719353690738:=0
def tw7246967465522713825:=0
def tw16515303569801293165:=0
def tw1032335426758307527:=0
def tw1382602153525349945:=0
def tw14646237118355959656:=0
def tw675130710679405579:=0
def tw11651958336160609053:=0
def tw7532955707253845517:=0
def tw4551025427382538860:=0
def tw2798823758611322341:=0
def tw11621362597277480222:=0
def tw17241092164627744495:=0
def tw2409768026656177348:=0
def tw13863873504200249637:=0
def tw12313466147138947805:=0
def tw15688587470083022836:=0
def tw9605658428618419949:=0
def tw5972003635662671470:=0
def tw1698357250612720847:=0
def tw4510227199829303366:=0
def tw103602142747898757:=0
def tw6673445072964705095:=0
def tw7233454411215195984:=0
def tw1979182160818849687:=0
def tw189644506756605323:=0
def tw15275993701037981620:=0
def tw1553242076119258835:=0
def tw1769020748261674851:=0
def tw5626275522225234556:=0
def tw8022634625954117613:=0
def tw7312261252314445535:=0
def tw12259331727990902259:=0
def tw5465160330933555589:=0
def tw10372225467087049489:=0
def tw536007102633435975:=0
def tw14200949210447712225:=0
def tw3681541531555494269:=0
def tw13338741065998776414:=0
def tw3225608191241763208:=0
def tw7323664868267010178:=0
def tw7227257566349390925:=0
def tw13591887134001342383:=0
def tw13132920984940470793:=0
def tw6838099846234056447:=0
def tw9595002635562272444:=0
def tw16022025944634936062:=0
def tw2711255421010229617:=0
def tw13698564395112253950:=0
def tw2865250662948736138:=0
def tw11913531017459245870:=0
def tw9584023690968947771:=0
def tw6204217051817846349:=0
def tw13549039328183001436:=0
def tw4676370056416229628:=0
def tw18337774116591668938:=0
def tw7621725114716643373:=0
def tw9042624529811749296:=0
def tw11969855254855245641:=0
def tw3646932230772972573:=0
def tw13387779596688068136:=0
def tw2007779057175796797:=0
def tw14030763603073622733:=0
def tw4317510894749113401:=0
def tw6539596256129849336:=0
def tw6324874601252157096:=0
def tw15131321861044070283:=0
def tw14092623681075794095:=0
def tw8384772093609539290:=0
def tw3677007489602786622:=0
def tw2357372674058095890:=0
def tw2243001147082690146:=0
def tw4559910747805198456:=0
def tw14451640428308014451:=0
def tw3730237105795195174:=0
def tw8329020703763630908:=0
def tw8233007545409062491:=0
def tw13076707208395075869:=0
def tw15965092755743605230:=0
def tw2080579732379882421:=0
def tw1425835169889111693:=0
def tw17079772183827148121:=0
def tw7861932237943622677:=0
def tw11198601920203286029:=0
def tw1872643273996341908:=0
def tw2081569313966630051:=0
def tw3424823780952406733:=0
def tw13058773859552406515:=0
def tw6221641329701455594:=0
def tw16881229814172756940:=0
def tw11058635162541436545:=0
def tw12273221501818811650:=0
def tw2202584471378035803:=0
def tw7597821434039675909:=0
def tw6086501723246748025:=0
def tw12690632409157345678:=0
def tw14427239267677503954:=0
def tw8355066002110493598:=0
def tw8702340724707930220:=0
def tw7083093734234407630:=0
def tw4711593923432429092:=0
def tw5120814335243291841:=0
def tw14947607760466229579:=0
def tw1673697510241265781:=0
def tw12110603996220394620:=0
def tw8139119472180531161:=0
def tw8078555537355717400:=0
def tw17799917635057271729:=0
def tw2137849862697384160:=0
def tw13217870335309838588:=0
def tw6832376218632387993:=0
def tw1770212256624015657:=0
def tw5331092958466716787:=0
def tw8409735492562192656:=0
def tw12110302299464167403:=0
def tw2570382596127286479:=0
def tw13866654085768541067:=0
def tw6697511759034791217:=0
def tw14331999083200446173:=0
def tw10580168539569106552:=0
def tw4272547560608869637:=0
def tw3900023647581392284:=0
def tw9696394167685085922:=0
def tw150394550315884983:=0
def tw14231338038009439745:=0
def tw2424265007896251306:=0
def tw11816212505257200421:=0
def tw7228517942783267481:=0
def tw10116302636146446734:=0
def tw10341758713665189272:=0
def tw8474896538193035207:=0
def tw12800338987525811495:=0
def tw8398204527642123822:=0
def tw13196364656384524017:=0
def tw16583363790056293439:=0
def tw4859865822973013076:=0
def tw6079146602954673831:=0
def tw5506563540353788716:=0
def tw17439111584077251217:=0
def tw3942635300647280260:=0
def tw4232966113182712274:=0
def tw15510591013026371130:=0
def tw14934627564525621334:=0
def tw14683574787817228668:=0
def tw12612131228762666726:=0
def tw11512840361888178593:=0
def tw1059888098258141783:=0
def tw1252153745487066906:=0
def tw5418485035139857015:=0
def tw5447275822224410501:=0
def tw9742306995049383296:=0
def tw14755116656693287858:=0
def tw14361032617520208154:=0
def tw14778951403972311402:=0
def tw7418764377890885992:=0
def tw4225633275011526384:=0
def tw6022468704522000056:=0
def tw15607408743058795052:=0
def tw12991432061314767202:=0
def tw6923981844931856697:=0
def tw11247994770034987099:=0
def tw12176857488805494080:=0
def tw12307424077496059016:=0
def tw884846152030661173:=0
def tw6514695449410325575:=0
def tw7293065159904711539:=0
def tw13412643339796030308:=0
def tw1914252542202942058:=0
def tw9123346695182217274:=0
def tw10371612016746649255:=0
def tw5958925603738505975:=0
def tw14091780818002383721:=0
def tw7088179457656735701:=0
def tw4208796236035904540:=0
def tw17195678612836061195:=0
def tw18206100979201443428:=0
def tw2502578042198922902:=0
def tw14843394294421608853:=0
def tw10814081154260219426:=0
def tw8873289979955361009:=0
def tw1403617097997110532:=0
def tw5432649103962515600:=0
def tw12463155908041856678:=0
def tw7788578858317273095:=0
def tw3854829272024287796:=0
def tw11983528931257758532:=0
def tw10209421387435491856:=0
def tw5448569865173420900:=0
def tw13229079789724160284:=0
def tw8698595628584763904:=0
def tw1400050401809693300:=0
def tw11899832109834356434:=0
def tw99084566153788136:=0
def tw15493708941158745667:=0
def tw11878393473923261955:=0
def tw11375264701081170561:=0
def tw12215436924845113186:=0
def tw15758194533735894514:=0
def tw6440123565473780957:=0
def tw930248766034863759:=0
def tw6981290647920356072:=0
def tw11393608983215685075:=0
def tw5390749618277191929:=0
def tw4351066301750583381:=0
def tw3249421820898328861:=0
def tw415873574524344819:=0
def tw6027025119750873745:=0
def tw12357524074432195931:=0
def tw16092906626212875091:=0
def tw7886531292911246836:=0
def tw4415579395189886613:=0
def tw16047171273220733776:=0
def tw7889047759862989164:=0
def tw7715428100872912576:=0
def tw12020465494650575614:=0
def tw11121926380658978059:=0
def tw10434160912757892869:=0
def tw14074434357540424420:=0
def tw16809154671794481967:=0
def tw5546627274246503348:=0
def tw17400755674709533559:=0
def tw17107408026506879194:=0
def tw14949738288714100617:=0
def tw11399734490386791858:=0
def tw779803180542923219:=0
def tw8378742910233800875:=0
def tw3372168091437486444:=0
def tw15835158727111521143:=0
def tw11276426150435767254:=0
def tw16829520044188029847:=0
def tw16243017215431282012:=0
def tw6818917693180248103:=0
def tw4670240189585003652:=0
def tw16095478943515052573:=0
def tw11471604282767536002:=0
def tw4202746672364711821:=0
def tw3978312816017326141:=0
def tw2126144075667145637:=0
def tw18178162204517259238:=0
def tw171251041294677887:=0
def tw13333599800503050810:=0
def tw5685280983170270996:=0
def tw12163726889814383892:=0
def tw4087716586263406552:=0
def tw4933711223339730724:=0
def tw2943239801979642765:=0
def tw16636095479119505275:=0
def tw10276572338488874262:=0
def tw9780039409032226044:=0
def tw17208943699474294638:=0
def tw12308530857740219538:=0
def tw7317961048949772699:=0
def tw8669328750437978126:=0
def tw8586103622003312898:=0
def tw4855002746366745975:=0
def tw3997167552921669271:=0
def tw3830543259687156662:=0
def tw15396702243015799661:=0
def tw11984689921972800734:=0
def tw10995715351859175147:=0
def tw5620750263412910761:=0
def tw7324539087078117117:=0
def tw9752725901418425931:=0
def tw9656224847150859749:=0
def tw9306924254922275156:=0
def tw7369715317202501412:=0
def tw621560672526215627:=0
def tw5988012660895932626:=0
def tw3364383791695160784:=0
def tw1844692582515095467:=0
def tw14460976390561714533:=0
def tw13985250523325199489:=0
def tw851767140395033905:=0
def tw8289677072363110161:=0
def tw9748382382296325408:=0
def tw8338629150927534282:=0
def tw8184805271964910897:=0
def tw7734045584909891543:=0
def tw7321683688505313448:=0
def tw6490369151874426059:=0
def tw620035458842159553:=0
def tw5886272366766100867:=0
def tw5232604463369649292:=0
def tw4952412760810821684:=0
def tw4895224427422941496:=0
def tw4683039376561933799:=0
def tw4525458492641064608:=0
def tw17900201384284682044:=0
def tw17393046718320060666:=0
def tw17048753601921845555:=0
def tw16632254643721307362:=0
def tw16573512364948633637:=0
def tw16258858143534067243:=0
def tw1606137748419864768:=0
def tw15832331074467050931:=0
def tw15822950883557402837:=0
def tw14980510892187230407:=0
def tw1426259295029930396:=0
def tw14217869422415260055:=0
def tw14181126567418245661:=0
def tw13789391226477678321:=0
def tw13494198267641444467:=0
def tw13455328692754152865:=0
def tw11612808604406193572:=0
def tw1153348736183737271:=0
def tw11084219136970288892:=0
def tw10926116374602579702:=0
def tw1081718123578664093:=0
def tw10595305229065800323:=0
def tw10212961820308591470:=0
def tw14850270385851735893:=0
def tw8006387687908634636:=0
def tw1075414560230904914:=0
def tw13732875402554572243:=0
def tw2012782089550151349:=0
def tw14737400460968121217:=0
def tw14544809304296443131:=0
def tw7614921032585224718:=0
def tw280225350671561257:=0
def tw9643295763747088882:=0
def tw12969729695051703337:=0
def tw1030765627590027135:=0
def tw8294962976066851551:=0
def tw4013937471405053168:=0
def tw9482856086386555515:=0
def tw17475662041560824092:=0
def tw7957286545554780305:=0
def tw3929989560958507868:=0
def tw818966164748580013:=0
def tw8801374936044412831:=0
def tw7817231237893739325:=0
def tw7487204300348743683:=0
def tw5009042044862887260:=0
def tw17354371345977932040:=0
def tw16047815866523116647:=0
def tw571097806595928414:=0
def tw1510015330636582562:=0
def tw7377910595262137153:=0
def tw4985797364781028622:=0
def tw4076962323647897703:=0
def tw11188206497204330537:=0
def tw1955382636333605454:=0
def tw11893720223963995476:=0
def tw15993300785095475880:=0
def tw11651845272733331317:=0
def tw8829107175830810013:=0
def tw3780095704409143485:=0
def tw4010262236391302039:=0
def tw16775826183698752850:=0
def tw10121499851619879868:=0
def tw5173892281525774708:=0
def tw962987348420566027:=0
def tw5038060384526499075:=0
def tw1763346918783881836:=0
def tw11061811649036671609:=0
def tw9191714090465030410:=0
def tw7053022841703875980:=0
def tw4818008738997642880:=0
def tw2283789993133480739:=0
def tw18030908476891150729:=0
def tw17725016322269522758:=0
def tw1700622165069239013:=0
def tw15942223092552141715:=0
def tw15115346450331959567:=0
def tw13576494832246844893:=0
def tw12859178100708383948:=0
def tw12643500918842185084:=0
def tw10553652292846845099:=0
def tw9968806099289406442:=0
def tw9916653804639923509:=0
def tw9779546423747311369:=0
def tw9600539658711259810:=0
def tw9592402530580167151:=0
def tw9528560460352315012:=0
def tw9067285477676864200:=0
def tw8586949676059265249:=0
def tw8469916721329336065:=0
end PySem.W.Fast
set_option Elab.async false
set_option linter.all false
set_option maxRecDepth 100000
abbrev aF:=@if_neg
abbrev aH:=@if_pos
abbrev cE:=@decide_eq_true_eq
abbrev cJ:=@congrArg
abbrev dE:=@decide_eq_false
abbrev dH:=@decide_eq_true
abbrev dJ:=@beq_iff_eq
abbrev dO:=@if_false
abbrev dS:=@beq_eq_false_iff_ne
abbrev eE:=@beq_self_eq_true
open Array renaming length_toList->bP,toList_append->cI,getElem?_toList->cY,toList_extract->eX,toList_reverse->mR,size_extract->oA,perm_iff_toList_perm->oB,getElem?_eq_none_iff->gf,getElem?_eq_getElem->jb
open Bool renaming not_false->aK,not_true->aM,false_ne_true->bL,false_eq_true->bU,and_eq_true->cA,eq_iff_iff->cK,eq_false_iff->fN,false_and->gU,or_eq_true->mZ,true_and->sI,not_eq_true'->FS,and_false->gc
open Int renaming toNat_natCast->bV,emod_nonneg->fE,eq_ofNat_of_zero_le->fM,le_refl->gZ,emod_lt_of_pos->lH,toNat_of_nonneg->nH,le_of_lt->pQ
open List renaming getElem?_eq_getElem->aA,getElem?_eq_some_iff->aD,length_map->aE,size_toArray->aL,take_succ_eq_append_getElem->aO,length_append->aP,getElem?_map->aQ,take_of_length_le->aR,mem_cons_of_mem->aV,mem_singleton->aX,mem_cons_self->aY,mem_of_getElem?->aZ,length_cons->bB,mem_append_right->bE,map_append->bF,length_take->bH,mem_cons->bI,getElem?_append_left->bN,mem_map->bO,mem_append_left->bS,lookup_cons->bT,mem_append->bX,length_singleton->bY,mem_range->bZ,map_cons->cD,append_assoc->cF,getElem_mem->cH,getElem?_append_right->cP,mem_of_mem_take->cQ,pairwise_iff_getElem->cS,append_nil->cU,mem_flatMap->cX,getElem_toArray->dA,all_eq_true->dB,extract_eq_take_drop->dN,mem_filter->dP,getElem_of_mem->dU,take_append_drop->dW,length_range->dX,getD_eq_getElem?_getD->dZ,not_mem_nil->eF,map_map->eG,find?_cons->eR,length_eq_zero_iff->eW,drop_eq_getElem_cons->fF,replicate_succ->fR,filterMap_cons->fS,length_drop->fW,filterMap_map->fZ,findIdx?_eq_some_iff_getElem->gD,any_eq_true->gS,getElem?_of_mem->iI,getElem_map->iQ,nodup_cons->lC,length_nil->lD,flatten_cons->lR,all_map->lS,length_replicate->mF,flatMap_append->nG,getElem_range->nX,drop_zero->nY,getElem_take->oH,map_take->oU,any_cons->oV,map_nil->pN,getElem?_set_self->pO,drop_eq_nil_of_le->pP,perm_append_comm->pW,take_zero->rG,reverse_reverse->rH,getElem?_set_ne->rK,drop_drop->rL,reverse_append->rX,map_drop->sF,mem_filterMap->CF,reverse_perm->FO,pairwise_map->FQ,nodup_append->FR,of_mem_zip->WO,nil_append->WP,foldl_cons->WQ,nodup_nil->ga
open Nat renaming le_refl->aJ,lt_of_lt_of_le->cC,ne_of_lt->cG,zero_le->cO,le_trans->dI,lt_irrefl->eA,zero_add->fJ,lt_of_le_of_lt->fY,testBit_div_two->gQ,lt_or_eq_of_le->hU,testBit_zero->iO,sub_self->iP,le_of_lt_succ->lQ,eq_of_testBit_eq->mP,testBit_and->mY,add_sub_cancel_left->pF,le_of_lt->pM,lt_trichotomy->FM,lt_succ_of_lt->FN,lt_succ_self->NG
open Nat.succ renaming inj->lP
open Ne renaming symm->cM
open Option renaming map_eq_some_iff->bD,bind_eq_some_iff->dM,isSome_map->gG,map_some->mX,map_eq_none_iff->pL
open Option.some renaming inj->bR,injEq->FL
open PyProof.Rows renaming wpS_bind->bC,wpS_pure->bK,slot_tuple_getitem->dY,wpS_forRange->eL,wpS_mono->fT,callWith_type1->fU,wpS_modify->lX,wpS_get->CC,wpS_lift->i9
open PySem renaming wpAny_bind->aG,wpAny_pure->aU,tupleKind_room_in1->eJ,mem_of_lookup->eN,wpAny_newObj_type->eS,sizeLine_eq->eT,wpAny_holding->eV,wpAny_truthy_bool->fG,wpAny_typeNameOfWhole_keyiter->iA,wpAny_rule->iC,wpAny_Call_Name_kw->iD,wpAny_passesOwn->iH,wpAny_call_entry->lG,wpAny_typeNameOf_keyiter->lM,wpAny_mono->mB,wpAny_callSpecial?_slot->mE,wpAny_typeOf->mM,wpAny_dictEntries->mN,wpAny_notOrdered_dict->nF,wpAny_pyIter_list->pT,atKey_none_of_get->pU,wpAny_pyNext_list_item->rS,call_meetsIn->rT,wpAny_execs_nil->sC,codeAny_builtin->sD,wpAny_pyNext_list_end->CD,storedH_new->FK,wpAny_attempt->NO,plainId_quiet->NP,call_meets->WK,builtinLookup_eq_fast->WZ,wpAny_Call_method->f7,codeAny_mono->f8
open PySem.Around renaming under_plainId->oC
open PySem.AutoSeq1 renaming wpAny_loadPart'->NF
open PySem.Calls renaming spliced_cons->gH,callWith_builtin->iE,spliced_nil->mQ,evalArgs_plain->nZ
open PySem.F renaming plainAttrs_list->cR,type_list_append->dQ,slot_list_append->dR,slot_dict_keyiterator_next->eU,slot_list_getattribute->gR,slot_dict_get->hZ,slot_list_extend->iZ,type_list_extend->oS,args_tuple_add_2->oT,plainAttrs_dict->pC,entry_tuple_add->pE,slot_tuple_add->pJ,entry_dict_get->pK,args_dict_keyiterator_next_1->rW,entry_dict_keyiterator_next->sE,slot_dict_setdefault->WM,kt_typeCall_dict_1->f9,slot_dict_getitem->ja
open PySem.Heap renaming get?_push_of_some->aS,lt_size->bJ,get?_push_size->bQ,get?_update_self->nI,get?_update_other->rY
open PySem.Heap.SameBut renaming update->lI
open PySem.Obj renaming data_mapFields->WN
open PySem.Paired renaming length->fQ
open PySem.PassesOwn renaming never->bM
open PySem.W renaming mg_of->aW,mg_none_of->cT,kia_one->eQ,callWith_K->nW,plainGet_of->rV
open Sum.inl renaming inj->oG
namespace L2
open PySem PySem.Spec PyProof.Rows
variable {a b f it:Addr} {A:Around} {CX:i8} {op:CmpOp} {X:Cx} {D:CA} {e iter o tg:Expr} {fd:FuncData} {base h h':Heap} {H H':Hp} {aI:List (Addr×Obj)} {kw:List (Str×Value)} {ch fp:List Addr} {outer:List Env} {es:List Expr} {N ns ps:List Str} {vs xs:List V} {its us:List Value} {M:Model} {i j n t':Nat} {iU p pos':Pos} {P prog:Program} {K:W.Frag} {R:Result->Shared->Prop} {s:Shared} {sp:Sp} {σ:St} {qual:Str} {mA mg:Str->Option Value} {T:String} {ta te:TE} {wi:TI} {tb:TS} {α:Type} {v y:V} {u:Value} {E Q:Value->Shared->Prop} {w:World}
local macro_rules | `(()) => `(by lia)
abbrev eZ:=Sum Int Str
def XW:eZ->Value->Bool
 | .inl k,v=>Value.isInt k v
 | .inr x,v=>Value.isStrOf x v
def keyH(w:World):eZ->Int
 | .inl k=>hashInt k
 | .inr x=>hashStr w x
theorem yX:∀{k:eZ}{v:Value},XW k v=true->(∃i t,k=Sum.inl i/\v=Value.int i t)\/(∃x t,k=Sum.inr x/\v=Value.str x t)
 | .inl i,v,h=>by
   obtain⟨t,e⟩:=Value.isInt_shape (k:=i) (v:=v) h;exact .inl ⟨i,t,rfl,e⟩
 | .inr x,v,h=>by
   obtain⟨t,e⟩:=Value.isStrOf_shape (x:=x) (v:=v) h;exact .inr ⟨x,t,rfl,e⟩
theorem MI(i:Int)(t:Tok):XW (.inl i) (.int i t)=true:=by simp[XW,Value.isInt]
theorem MH(x:Str)(t:Tok):XW (.inr x) (.str x t)=true:=by simp[XW,Value.isStrOf]
theorem md(a b:Int):decide ((Sum.inl a:eZ)=Sum.inl b)=(a==b):=by
 by_cases e:a=b
 ·subst e;simp
 ·have h:¬(Sum.inl a:eZ)=Sum.inl b:=λq=>e (oG q)
  rw[dE h];exact(dS.mpr e).symm
theorem l7(a b:Str):decide ((Sum.inr a:eZ)=Sum.inr b)=decide (a=b):=by
 by_cases e:a=b
 ·subst e;simp
 ·have h:¬(Sum.inr a:eZ)=Sum.inr b:=λq=>e (Sum.inr.inj q)
  rw[dE h,dE e]
theorem l9(a:Int)(b:Str):decide ((Sum.inl a:eZ)=Sum.inr b)=false:=dE (λq=>nomatch q)
theorem l8(a:Str)(b:Int):decide ((Sum.inr a:eZ)=Sum.inl b)=false:=dE (λq=>nomatch q)
def yC(prog:Program)(w:World):PySem.KeyKind prog w eZ where
 is:=XW
 hash:=keyH w
 inj:=λv a b ha hb=>by
  rcases yX ha with⟨i,t,rfl,rfl⟩ |⟨x,t,rfl,rfl⟩
  ·rcases yX hb with⟨j,u,rfl,e⟩ |⟨y,u,rfl,e⟩
   ·injection e with e1 _;rw[e1]
   ·exact nomatch e
  ·rcases yX hb with⟨j,u,rfl,e⟩ |⟨y,u,rfl,e⟩
   ·exact nomatch e
   ·injection e with e1 _;rw[e1]
 byValue:=λk v h=>by
  rcases yX h with⟨i,t,rfl,rfl⟩ |⟨x,t,rfl,rfl⟩<;>rfl
 pyHash:=λhv h=>by
  rcases yX hv with⟨i,t,rfl,rfl⟩ |⟨x,t,rfl,rfl⟩
  ·exact wpAny_pyHash_int h
  ·exact wpAny_pyHash_str h
 eqBool:=λhu hv h=>by
  rcases yX hu with⟨i,t,rfl,rfl⟩ |⟨x,t,rfl,rfl⟩
  ·rcases yX hv with⟨j,u,rfl,rfl⟩ |⟨y,u,rfl,rfl⟩
   ·rw[md]at h;exact wpAny_eqBool_int h
   ·rw[l9]at h;exact SeqAt.EqAt.int_str i t y u _ _ _ _ h
  ·rcases yX hv with⟨j,u,rfl,rfl⟩ |⟨y,u,rfl,rfl⟩
   ·rw[l8]at h;exact SeqAt.EqAt.str_int x t j u _ _ _ _ h
   ·rw[l7]at h;exact wpAny_eqBool_str h
 «strs»:=λk x t v h=>by
  rcases yX h with⟨i,u,rfl,e⟩ |⟨y,u,rfl,e⟩
  ·exact nomatch e
  ·injection e with e1 _
   subst e1;cases v<;>rfl
theorem AT(prog:Program)(w:World)(i:Int)(t:Tok):(yC prog w).is (.inl i) (.int i t)=true:=MI i t
theorem vN(prog:Program)(w:World)(x:Str)(t:Tok):(yC prog w).is (.inr x) (.str x t)=true:=MH x t
inductive V where
 |non |bl (b:Bool) |int (i:Int) |str (x:Str) |byt (b:Array UInt8) |flt (b:UInt64) |ref (a:Addr) |ty (n:String)
 deriving DecidableEq
def RelV:V->Value->Prop
 | .non,u=>u=Value.none
 | .bl b,u=>u=Value.bool b
 | .int i,u=>∃t,u=Value.int i t
 | .str x,u=>∃t,u=Value.str x t
 | .byt b,u=>∃t,u=Value.bytes b t
 | .flt b,u=>∃t,u=Value.float b t
 | .ref a,u=>u=Value.ref a
 | .ty n,u=>u=Value.type n
abbrev cV:List V->List Value->Prop:=Paired RelV
theorem cV.length(r:cV xs us):xs.length=us.length:=fQ r
theorem cV.get:∀{xs:List V}{us:List Value}{i:Nat}{x:V},cV xs us->xs[i]?=some x->∃u,us[i]?=some u/\RelV x u
 |_,_,_,_,.nil,e=>by simp at e
 |_,_,0,_,.cons r _,e=>by simp at e;subst e;exact⟨_,rfl,r⟩
 |_,_,i+1,x,.cons _ t,e=>by
  obtain⟨u,h1,h2⟩:=cV.get (i:=i) (x:=x) t (by simpa using e);exact⟨u,by simpa using h1,h2⟩
theorem cV.set{x:V}{u:Value}(r:RelV x u):∀{xs:List V}{us:List Value}(i:Nat),cV xs us->cV (xs.set i x) (us.set i u)
 |_,_,_,.nil=>.nil
 |_,_,0,.cons _ t=>.cons r t
 |_,_,i+1,.cons q t=>.cons q (cV.set r i t)
theorem cV.append:∀{xs ys:List V}{us ws:List Value},cV xs us->cV ys ws->cV (xs++ys) (us++ws)
 |_,_,_,_,.nil,s=>s
 |_,_,_,_,.cons r t,s=>.cons r (cV.append t s)
theorem cV.take:∀{xs:List V}{us:List Value}(n:Nat),cV xs us->cV (xs.take n) (us.take n)
 |_,_,0,_=>.nil
 |_,_,_+1,.nil=>.nil
 |_,_,n+1,.cons r t=>.cons r (cV.take n t)
theorem cV.drop:∀{xs:List V}{us:List Value}(n:Nat),cV xs us->cV (xs.drop n) (us.drop n)
 |_,_,0,r=>r
 |_,_,_+1,.nil=>.nil
 |_,_,n+1,.cons _ t=>cV.drop n t
def lY:Option V->Option Value->Prop
 |some v,some u=>RelV v u
 |none,none=>True
 |_,_=>False
def KV{κ:Type}:List (κ×V)->List (κ×Value)->Prop:=Paired λ(p:κ×V)(q:κ×Value)=>p.1=q.1/\RelV p.2 q.2
def kV:eZ->V
 | .inl i=>.int i
 | .inr x=>.str x
inductive HO where
 |lst (xs:List V)
 |tup (xs:List V)
 |dK (kvs:List (eZ×V)) |dT (kvs:List (List eZ×V))
 |set (S:Int->Bool) (n:Nat)
 |ins (C dx:Addr) (fs:List (Str×V))
 |own (x:Addr)
 |xd (fs:List (Str×V))
 |met (f x:Addr)
 |rng (lo hi:Int)
 |frz (o:Obj) (u:HO)
 |tbl (ps:Array Value)
 |ext (φ:Heap->Prop)
abbrev Hp:=Addr->Option HO
def upd(H:Hp)(a:Addr)(o:HO):Hp:=λb=>if b=a then some o else H b
theorem zC{o:HO}:upd H a o a=some o:=by unfold upd;rw[aH rfl]
theorem zL{o:HO}(h:b≠a):upd H a o b=H b:=by unfold upd;rw[aF h]
theorem FX{o u:HO}:upd (upd H a o) a u=upd H a u:=by
 funext b;unfold upd;split<;>rfl
theorem qD{o u:HO}(h:H a=some o)(h':H b=some u)(d:o≠u):a≠b:=by
 intro e;subst e;rw[h]at h';exact d (bR h')
theorem xV{o:HO}(h:H a=some o)(h':H b=none):a≠b:=by
 intro e;subst e;rw[h]at h';cases h'
section
variable (P:Program) (w:World)
def fI(H:Hp)(h:Heap)(a:Addr):HO->Prop
 | .lst xs=>xs.length<=sizeLine/\∃(its:List Value)(n:Nat),cV xs its/\h.get? a=some {cls:=.type "list",data:=.seq its.toArray n}
 | .tup xs=>xs.length<=sizeLine/\∃its:List Value,cV xs its/\IsTup h a its.toArray
 | .dK kvs=>kvs.length<=sizeLine/\(a==sysModules)=false/\∃vs,KV kvs vs/\h.DictOf (yC P w) a vs
 | .dT kvs=>kvs.length<=sizeLine/\(a==sysModules)=false/\∃xs:List (List eZ×Addr×Value),
  Paired (λ(p:List eZ×V) (q:List eZ×Addr×Value)=>p.1=q.1/\H q.2.1=some (.tup (p.1.map kV))/\RelV p.2 q.2.2) kvs xs/\
  ∃o es ep,h.get? a=some o/\o.ExactDict/\o.data=.dict es ep/\es.toList=xs.map (entryOfKey (tupleKind (yC P w)))/\(xs.map (·.1)).Nodup
 | .set S n=>h.SetOf (intKind P w) a S n
 | .ins C dx fs=>H dx=some (.own a)/\fs.length<=1000/\dx≠a/\h.get? a=some (W.instObj C dx)/\
  ∃mA,h.Ns1 dx mA/\(∀f,lY (fs.lookup f) (mA f))/\PySem.Within mA (fs.map (·.1))
 | .own _=>∃o,h.get? a=some o
 | .xd fs=>∃mA,h.Ns1 a mA/\∀f,lY (fs.lookup f) (mA f)
 | .rng lo hi=>∃t u v,h.get? a=some {cls:=.type "range",data:=.fields #[.int lo t,.int hi u,.int 1 v]}
 | .frz o u=>h.get? a=some o/\fI H h a u
 | .tbl ps=>h.get? a=some {cls:=.none,data:=.fields ps}
 | .met f x=>h.get? a=some (W.methodObj (.ref f) (.ref x))
 | .ext φ=>φ h/\(∃o,h.get? a=some o)/\∀h1 h2:Heap,φ h1->(∀o,h1.get? a=some o->h2.get? a=some o)->φ h2
def lJ(H:Hp)(h:Heap):Prop:=∀a o,H a=some o->fI P w H h a o
end
section
variable {o:HO}
theorem fI.lt(x:fI P w H h a o):a<h.objs.size:=by
 cases o with
 |lst xs=>obtain⟨_,_,_,_,e⟩:=x;exact bJ e
 |tup xs=>obtain⟨_,_,_,p⟩:=x;exact p.lt
 |dK kvs=>obtain⟨_,_,_,_,o,_,_,e,_⟩:=x;exact bJ e
 |dT kvs=>obtain⟨_,_,_,_,o,_,_,e,_⟩:=x;exact bJ e
 |set S n=>obtain⟨o,_,_,_,e,_⟩:=x;exact bJ e
 |ins C dx fs=>obtain⟨_,_,_,e,_⟩:=x;exact bJ e
 |own y=>obtain⟨_,e⟩:=x;exact bJ e
 |xd fs=>obtain⟨_,⟨_,_,_,e,_⟩,_⟩:=x;exact bJ e
 |rng lo hi=>obtain⟨_,_,_,e⟩:=x;exact bJ e
 |frz ob u=>obtain⟨e,_⟩:=x;exact bJ e
 |tbl ps=>exact bJ (show h.get? a=some _ from x)
 |met f y=>exact bJ (show h.get? a=some _ from x)
 |ext φ=>obtain⟨_,⟨_,e⟩,_⟩:=x;exact bJ e
theorem Paired.mapP{α β:Type}{F G:α->β->Prop}:∀{l₁:List α}{l₂:List β},Paired F l₁ l₂->(∀a b,F a b->G a b)->Paired G l₁ l₂
 |_,_,.nil,_=>.nil
 |_,_,.cons r t,f=>.cons (f _ _ r) (Paired.mapP t f)
theorem fI.stay(x:fI P w H h a o)(k:∀b u,(b=a\/H b=some (.own a))->h.get? b=some u->h'.get? b=some u)
 (ho:∀b,H b=some (.own a)->H' b=some (.own a)) (ht:∀b xs,H b=some (.tup xs)->H' b=some (.tup xs)):fI P w H' h' a o:=by
 induction o with
 |lst xs=>obtain⟨z,its,n,r,e⟩:=x;exact⟨z,its,n,r,k _ _ (.inl rfl) e⟩
 |tup xs=>obtain⟨z,its,r,ob,e,c⟩:=x;exact⟨z,its,r,ob,k _ _ (.inl rfl) e,c⟩
 |dK kvs=>obtain⟨z,y,vs,r,ob,es,ep,e,c⟩:=x;exact⟨z,y,vs,r,ob,es,ep,k _ _ (.inl rfl) e,c⟩
 |dT kvs=>
  obtain⟨z,y,xs,r,ob,es,ep,e,c⟩:=x;exact⟨z,y,xs,Paired.mapP r λp q z=>⟨z.1,ht _ _ z.2.1,z.2.2⟩,ob,es,ep,k _ _ (.inl rfl) e,c⟩
 |set S n=>obtain⟨ob,es,ep,t,e,c⟩:=x;exact⟨ob,es,ep,t,k _ _ (.inl rfl) e,c⟩
 |ins C dx fs=>
  obtain⟨d,z,ne,e,mA,⟨od,es,ep,e2,c⟩,r⟩:=x;exact⟨ho _ d,z,ne,k _ _ (.inl rfl) e,mA,⟨od,es,ep,k _ _ (.inr d) e2,c⟩,r⟩
 |own y=>obtain⟨ob,e⟩:=x;exact⟨ob,k _ _ (.inl rfl) e⟩
 |xd fs=>obtain⟨mA,⟨od,es,ep,e,c⟩,r⟩:=x;exact⟨mA,⟨od,es,ep,k _ _ (.inl rfl) e,c⟩,r⟩
 |rng lo hi=>obtain⟨t,u,v,e⟩:=x;exact⟨t,u,v,k _ _ (.inl rfl) e⟩
 |frz ob u ih=>obtain⟨e,q⟩:=x;exact⟨k _ _ (.inl rfl) e,ih q⟩
 |tbl ps=>
  have e:h.get? a=some {cls:=.none,data:=.fields ps}:=x;show h'.get? a=some {cls:=.none,data:=.fields ps};exact k a _ (.inl rfl) e
 |met f y=>
  have e:h.get? a=some (W.methodObj (.ref f) (.ref y)):=x;show h'.get? a=some (W.methodObj (.ref f) (.ref y));exact k a _ (.inl rfl) e
 |ext φ=>obtain⟨p,⟨o,e⟩,st⟩:=x;exact⟨st _ _ p λo q=>k _ _ (.inl rfl) q,⟨o,k _ _ (.inl rfl) e⟩,st⟩
theorem lJ.lt(x:lJ P w H h)(e:H a=some o):a<h.objs.size:=(x a o e).lt
theorem lJ.fresh(x:lJ P w H h)(e:h.objs.size<=a):H a=none:=by
 cases q:H a with
 |none=>rfl
 |some u=>exact absurd (cC (x.lt q) e) (eA _)
theorem lJ.kept(x:lJ P w H h)(k:∀b u,h.get? b=some u->h'.get? b=some u):lJ P w H h':=λa o e=>
 (x a o e).stay (λb u _ q=>k b u q) (λ_ q=>q) λ_ _ q=>q
theorem lJ.laid(x:lJ P w H h)(k:∀b u,h.get? b=some u->h'.get? b=some u)(hp:h.objs.size<=a)(new:fI P w (upd H a o) h' a o):lJ P w (upd H a o) h':=λb u e=>by
 have hn:=x.fresh hp;by_cases hb:b=a
 ·subst hb;rw[zC]at e;cases e;exact new
 ·rw[zL hb]at e;exact(x b u e).stay (λc v _ q=>k c v q) (λc q=>by rw[zL (xV q hn)];exact q) λc xs q=>by rw[zL (xV q hn)];exact q
end
def Rd(H:Hp)(a:Addr)(u:HO):Prop:=H a=some u\/∃o,H a=some (.frz o u)
theorem Rd.ok{u:HO}(r:Rd H a u)(x:lJ P w H h):fI P w H h a u:=by
 rcases r with r |⟨o,r⟩
 ·exact x a u r
 ·obtain⟨_,q⟩:=x a _ r;exact q
def Mut:Option HO->Prop
 |some (.lst _)=>True
 |some (.dK _)=>True
 |some (.dT _)=>True
 |some (.set _ _)=>True
 |some (.ins _ _ _)=>True
 |some (.ext _)=>True
 |_=>False
section
variable {x e:Addr} {o':HO}
theorem lJ.write(ok:lJ P w H h)(mu:Mut (H x))(he:e=x\/H e=some (.own x))(k:∀b u,b≠e->h.get? b=some u->h'.get? b=some u)(heo:∃u,h'.get? e=some u)
 (new:fI P w (upd H x o') h' x o'):lJ P w (upd H x o') h':=λb u q=>by
 have nown:∀c y,H c=some (.own y)->c≠x:=λc y r z=>by subst z;rw[r]at mu;exact mu
 have ntup:∀c xs,H c=some (.tup xs)->c≠x:=λc xs r z=>by subst z;rw[r]at mu;exact mu
 by_cases hb:b=x
 ·subst hb;rw[zC]at q;cases q;exact new
 ·rw[zL hb]at q;by_cases hbe:b=e
  ·have q':H b=some (.own x):=by
    rcases he with z |z
    ·exact absurd (hbe.trans z) hb
    ·rw[hbe];exact z
   rw[q]at q';cases q';obtain⟨v,hv⟩:=heo;exact⟨v,by rw[hbe];exact hv⟩
  ·refine(ok b u q).stay (λc v hc r=>k c v ?_ r) (λc r=>by rw[zL (nown c b r)];exact r) λc xs r=>by rw[zL (ntup c xs r)];exact r
   rcases hc with rfl |hc
   ·exact hbe
   ·rintro rfl;rcases he with z |z
    ·exact nown c b hc z
    ·rw[hc]at z;cases z;exact hb rfl
end
structure Un(fs ex:List Addr)(H H':Hp)(h h':Heap):Prop where
 keep:∀b o,h.get? b=some o->H b=none->b∉fs->b∉ex->h'.get? b=some o
 slot:∀b o,h.get? b=some o->H b=none->b∈fs->b∉ex->∃sl,h'.get? b=some {o with slots:=sl}
 free:∀b o,h.get? b=some o->H b=none->b∉ex->H' b=none
 there:∀b o,h.get? b=some o->b∉ex->∃o',h'.get? b=some o'
 tups:∀b xs,H b=some (.tup xs)->H' b=some (.tup xs)
 frzs:∀b o u,H b=some (.frz o u)->H' b=some (.frz o u)
 tbls:∀b ps,H b=some (.tbl ps)->∃more,H' b=some (.tbl (ps++more))
section
variable {fs fs' ex ex':List Addr} {H1 H2:Hp} {h1 h2:Heap} {x e:Addr} {o:HO}
theorem Un.any(u:Un fs ex H H1 h h1){ob:Obj}(q:h.get? b=some ob)(n:H b=none)(hx:b∉ex):∃sl,h1.get? b=some {ob with slots:=sl}:=by
 by_cases hb:b∈fs
 ·exact u.slot b ob q n hb hx
 ·exact⟨ob.slots,u.keep b ob q n hb hx⟩
theorem Un.trans(a:Un fs ex H H1 h h1)(b:Un fs ex H1 H2 h1 h2):Un fs ex H H2 h h2 where
 keep:=λc ob q n hc hx=>b.keep c ob (a.keep c ob q n hc hx) (a.free c ob q n hx) hc hx
 slot:=λc ob q n hc hx=>by
  obtain⟨sl,e1⟩:=a.slot c ob q n hc hx;obtain⟨sl',e2⟩:=b.slot c _ e1 (a.free c ob q n hx) hc hx;exact⟨sl',e2⟩
 free:=λc ob q n hx=>by
  obtain⟨o',e1⟩:=a.there c ob q hx;exact b.free c o' e1 (a.free c ob q n hx) hx
 there:=λc ob q hx=>by
  obtain⟨o',e1⟩:=a.there c ob q hx;exact b.there c o' e1 hx
 tups:=λc xs q=>b.tups c xs (a.tups c xs q)
 frzs:=λc ob xs q=>b.frzs c ob xs (a.frzs c ob xs q)
 tbls:=λc ps q=>by
  obtain⟨m1,e1⟩:=a.tbls c ps q;obtain⟨m2,e2⟩:=b.tbls c _ e1;exact⟨m1++m2,by rw[e2,Array.append_assoc]⟩
theorem Un.kept(k:∀b u,h.get? b=some u->h'.get? b=some u):Un fs ex H H h h':=
 ⟨λb ob q _ _ _=>k b ob q,λb ob q _ _ _=>⟨ob.slots,k b ob q⟩,λ_ _ _ n _=>n,λb ob q _=>⟨ob,k b ob q⟩,λ_ _ q=>q,λ_ _ _ q=>q,λ_ ps q=>⟨#[],by rw[q];simp⟩⟩
theorem Un.refl:Un fs ex H H h h:=Un.kept λ_ _ q=>q
theorem Un.laid(k:∀b u,h.get? b=some u->h'.get? b=some u)(hp:h.objs.size<=a)(hn:H a=none):Un fs ex H (upd H a o) h h' where
 keep:=λb u q _ _ _=>k b u q
 slot:=λb u q _ _ _=>⟨u.slots,k b u q⟩
 free:=λb u q n _=>by rw[zL (cG (cC (bJ q) hp))];exact n
 there:=λb u q _=>⟨u,k b u q⟩
 tups:=λb xs q=>by rw[zL (xV q hn)];exact q
 frzs:=λb u xs q=>by rw[zL (xV q hn)];exact q
 tbls:=λb ps q=>⟨#[],by rw[zL (xV q hn),q];simp⟩
theorem Un.write(mu:Mut (H x))(he:e=x\/H e=some (.own x))(k:∀b u,b≠e->h.get? b=some u->h'.get? b=some u)(heo:∃u,h'.get? e=some u):Un fs ex H (upd H x o) h h':=by
 have hx:∀b,H b=none->b≠x:=λb n z=>by subst z;rw[n]at mu;exact mu
 have hb:∀b,H b=none->b≠e:=λb n z=>by
  subst z;rcases he with r |r
  ·exact hx b n r
  ·rw[n]at r;cases r
 have hm:∀b u,H b=some u->¬Mut (some u)->b≠x:=λb u q nm z=>by subst z;rw[q]at mu;exact nm mu
 refine⟨λb u q n _ _=>k b u (hb b n) q,λb u q n _ _=>⟨u.slots,k b u (hb b n) q⟩,λb u q n _=>by rw[zL (hx b n)];exact n,λb u q _=>?_,
  λb xs q=>by rw[zL (hm b _ q λz=>z)];exact q,λb u xs q=>by rw[zL (hm b _ q λz=>z)];exact q,λb ps q=>⟨#[],by rw[zL (hm b _ q λz=>z),q];simp⟩⟩
 by_cases hbe:b=e
 ·subst hbe;exact heo
 ·exact⟨u,k b u hbe q⟩
end
def trk(h:Heap)(H:Hp):List Addr:=(List.range h.objs.size).filter λa=>(H a).isSome
def US(h:Heap)(H:Hp):Heap:=W.hideAll h (trk h H)
theorem ML(h:Heap)(H:Hp):(US h H).objs.size=h.objs.size:=W.hideAll_size _ _
theorem TU{o:Obj}(e:h.get? b=some o)(n:H b=none):(US h H).get? b=some o:=
 W.hideAll_get _ e λhm=>by
  have q:(H b).isSome=true:=(dP.mp hm).2;rw[n]at q;simp at q
theorem dt{o:Obj}(e:(US h H).get? b=some o):h.get? b=some o/\H b=none:=by
 have e':h.get? b=some o:=W.of_hideAll (trk h H) e;refine⟨e',?_⟩;cases q:H b with
 |none=>rfl
 |some x=>
  have hm:b∈trk h H:=dP.mpr ⟨bZ.mpr (bJ e'),by simp[q]⟩;have z:(US h H).get? b=none:=W.hideAll_none (trk h H) hm;rw[z]at e;cases e
def fq(g h:Heap)(L:Addr):List (Addr×Obj):=(List.range h.objs.size).filterMap λa=>if a=L\/(g.get? a).isSome=true then none else(h.get? a).map λo=>(a,o)
def rest(g h:Heap)(L d:Addr):List (Addr×Obj):=(fq g h L).filter λp=>decide (p.1≠d)
structure Mod(K:W.Frag)(mg:Str->Option Value)(base:Heap):Prop where
 kin:K.In base
 glob:base.Ns mainGlobals mg
 blt:∃mb,base.Ns builtinsNs mb/\∀x:Str,x≠"__name__"->mb x=bootBuiltins x
 nolimit:base.NoLimit
structure Cx where
 prog:Program
 w:World
 K:W.Frag
 mg:Str->Option Value
 base:Heap
 A:Around
 N:List Str
 s₀:Shared
 H₀:Hp
 env:Env
 outer:List Env
 stack:List Env
 ex:List Addr
 fn:Str->Bool
 calm:Bool
 pn:List (Addr×Obj)
 xe:Value->Shared->Prop
def ET(l:List Env):List Addr:=l.filterMap (·.frame)
abbrev Cx.fs(X:Cx):List Addr:=ET X.outer
def Vis(sc:Scope)(x:Str):Prop:=sc.names.lookup x=some .local\/sc.names.lookup x=some .cell\/sc.names.lookup x=some .free
def Loc(sc:Scope)(x:Str):Prop:=sc.names.lookup x=some .local\/sc.names.lookup x=some .cell
def Look(env:Env)(h:Heap)(m:Str->Option Value)(x:Str)(u:Value):Prop:=
 (env.kindOf x=some .local/\m x=some u)\/((env.kindOf x=some .cell\/env.kindOf x=some .free)/\∃c,env.cells.lookup x=some c/\h.IsCell c (some u))
structure Cx.Ok(X:Cx):Prop where
 mod:Mod X.K X.mg X.base
 kind:X.env.scope.kind=.function
 glob:X.env.globals=mainGlobals
 blt:X.env.builtins=builtinsNs
 above:X.s₀.heap.objs.size<=X.env.locals
 inj:∀x y c,X.env.cells.lookup x=some c->X.env.cells.lookup y=some c->x=y
 has:∀x,(X.env.kindOf x=some .cell\/X.env.kindOf x=some .free)->∃c,X.env.cells.lookup x=some c
 cab:∀x c,X.fn x=true->X.env.cells.lookup x=some c->X.s₀.heap.objs.size<=c
 hd:X.calm=true->X.A.handled=none
 frames:X.A.frames=some X.stack
 stk:X.stack=X.outer\/(X.stack=X.env::X.outer/\X.env.frame=some X.env.locals)
 exf:∀b∈X.ex,b≠X.env.locals/\∀x c,X.env.cells.lookup x=some c->c≠b
 bs:∀b o,X.base.get? b=some o->X.s₀.heap.get? b=some o/\X.H₀ b=none
 bsz:X.base.objs.size<=X.s₀.heap.objs.size
 noex:∀b o,X.base.get? b=some o->b∉X.ex
 exfs:∀b∈X.ex,b∉X.fs
 funs:X.s₀.heap.FunFrames X.base X.outer
 frf:∀b∈X.fs,X.H₀ b=none
structure Inv(X:Cx)(aI:List (Addr×Obj))(σ:List (Option V))(H:Hp)(s:Shared):Prop where
 ok:X.Ok
 os:s.os=X.s₀.os
 bare:AllBare s.gens
 base:Un X.fs X.ex X.H₀ H X.s₀.heap s.heap
 loc:∃m,s.heap.Ns X.env.locals m/\∀(i:Nat)(x:Str)(v:V),X.N[i]?=some x->σ[i]?=some (some v)->Vis X.env.scope x->∃u,RelV v u/\Look X.env s.heap m x u
 cell:∀x c,X.env.cells.lookup x=some c->∃v,s.heap.IsCell c v
 free:H X.env.locals=none
 freeC:∀x c,X.env.cells.lookup x=some c->H c=none
 pin:∀p∈X.pn++aI,s.heap.get? p.1=some p.2/\H p.1=none/\p.1≠X.env.locals/\p.1∉X.fs/\∀v,p.2.data≠.cell v
 hok:lJ X.prog X.w H s.heap
 len:σ.length=X.N.length
section
variable {σ:List (Option V)}
theorem Cx.Ok.nofr(ok:X.Ok){o:Obj}(e:X.base.get? b=some o):b∉X.fs:=λhb=>by
 have :=(ok.funs.mem hb).1;rw[e]at this;cases this
theorem Inv.bs(I:Inv X aI σ H s):∀b o,X.base.get? b=some o->s.heap.get? b=some o/\H b=none:=λb o e=>
 ⟨I.base.keep b o (I.ok.bs b o e).1 (I.ok.bs b o e).2 (I.ok.nofr e) (I.ok.noex b o e),I.base.free b o (I.ok.bs b o e).1 (I.ok.bs b o e).2 (I.ok.noex b o e)⟩
theorem Inv.bk(I:Inv X aI σ H s):∀b o,X.base.get? b=some o->s.heap.get? b=some o:=λb o e=>(I.bs b o e).1
theorem Inv.mod(I:Inv X aI σ H s):Mod X.K X.mg X.base:=I.ok.mod
theorem Inv.kIn(I:Inv X aI σ H s):X.K.In s.heap:=I.ok.mod.kin.keeps I.bk
theorem Inv.lt(I:Inv X aI σ H s):X.env.locals<s.heap.objs.size:=let ⟨_,hn,_⟩:=I.loc;hn.lt
theorem Inv.sz(I:Inv X aI σ H s):X.s₀.heap.objs.size<=s.heap.objs.size:=dI I.ok.above (pM I.lt)
theorem Inv.nofs(I:Inv X aI σ H s)(h:s.heap.objs.size<=a):a∉X.fs:=λhb=>by
 obtain⟨_,o,ho,_⟩:=I.ok.funs.mem hb;exact absurd (cC (bJ ho) (dI I.sz h)) (eA _)
theorem Inv.cne(I:Inv X aI σ H s):∀x c,X.env.cells.lookup x=some c->c≠X.env.locals:=λx c e z=>by
 obtain⟨v,o,ho,hd⟩:=I.cell x c e;obtain⟨m,⟨o',es,ep,ho',hd',_⟩,_⟩:=I.loc;rw[z,ho']at ho;cases ho;rw[hd']at hd;cases hd
theorem Inv.funs(I:Inv X aI σ H s):s.heap.FunFrames X.base X.outer:=by
 have all:∀(l:List Env),(∀b∈ET l,b∈X.fs)->X.s₀.heap.FunFrames X.base l->s.heap.FunFrames X.base l:=by
  intro l
  induction l with
  |nil=>intro _ _;trivial
  |cons env r ih=>
   intro hs hl;obtain⟨hk,⟨L,o,hf,hn,ho,hd⟩,hr⟩:=hl;have hL:L∈X.fs:=hs L (by unfold ET;rw[fS,hf];exact aY);obtain⟨sl,e⟩:=I.base.slot L o ho (I.ok.frf L hL) hL λz=>I.ok.exfs L z hL
   exact⟨hk,⟨L,_,hf,hn,e,hd⟩,ih (λb hb=>hs b (by unfold ET;rw[fS,hf];exact aV _ hb)) hr⟩
 exact all X.outer (λ_ hb=>hb) I.ok.funs
theorem Inv.stack(I:Inv X aI σ H s):s.heap.FunFrames X.base X.stack:=by
 rcases I.ok.stk with e |⟨e,hf⟩
 ·rw[e];exact I.funs
 ·rw[e];obtain⟨m,hn,_⟩:=I.loc;refine .cons (by rw[I.ok.kind];decide) hf hn ?_ I.funs;exact Heap.get?_none_of_le (dI I.ok.bsz I.ok.above)
theorem Inv.stkSub(I:Inv X aI σ H s):∀b∈ET X.stack,b∈X.env.locals::X.fs:=λb hb=>by
 rcases I.ok.stk with e |⟨e,hf⟩
 ·rw[e]at hb;exact aV _ hb
 ·rw[e]at hb;unfold ET at hb;rw[fS,hf]at hb;exact hb
theorem Inv.stkFree(I:Inv X aI σ H s):∀b∈ET X.stack,H b=none:=λb hb=>by
 rcases bI.mp (I.stkSub b hb)with e |hb
 ·rw[e];exact I.free
 ·obtain⟨_,o,ho,_⟩:=I.ok.funs.mem hb;exact I.base.free b o ho (I.ok.frf b hb) λz=>I.ok.exfs b z hb
theorem Inv.step{g':Array GenState}{d':Drawn}(I:Inv X aI σ H s)
 (hch:∀b∈ch,(b∈X.ex\/X.s₀.heap.objs.size<=b)/\b≠X.env.locals/\(∀x c,X.env.cells.lookup x=some c->c≠b)/\∀p∈X.pn++aI,p.1≠b)
 (keep:∀b o,b≠X.env.locals->b∉X.fs->b∉ch->s.heap.get? b=some o->H b=none->h'.get? b=some o)
 (slot:∀b o,b≠X.env.locals->b∈X.fs->b∉ch->s.heap.get? b=some o->H b=none->∃sl,h'.get? b=some {o with slots:=sl}) (free:∀b o,b∉ch->s.heap.get? b=some o->H b=none->H' b=none)
 (there:∀b o,b∉ch->s.heap.get? b=some o->∃o',h'.get? b=some o')
 (tups:∀b xs,H b=some (.tup xs)->H' b=some (.tup xs)) (frzs:∀b o u,H b=some (.frz o u)->H' b=some (.frz o u)) (tbls:∀b ps,H b=some (.tbl ps)->∃more,H' b=some (.tbl (ps++more)))
 (ns:∀m,s.heap.Ns X.env.locals m->h'.Ns X.env.locals m) (hok:lJ X.prog X.w H' h') (hg:AllBare g'):
 Inv X aI σ H' {s with heap:=h',gens:=g',drawn:=d',toks:=t'}:=by
 have neL:∀b o,X.s₀.heap.get? b=some o->b≠X.env.locals:=λb o e=>cG (cC (bJ e) I.ok.above)
 have neC:∀b o,X.s₀.heap.get? b=some o->b∉X.ex->b∉ch:=λb o e hx hb=>by
  rcases(hch b hb).1 with z |z
  ·exact hx z
  ·exact absurd (cC (bJ e) z) (eA _)
 have cellK:∀x c,X.env.cells.lookup x=some c->∀v,s.heap.IsCell c v->h'.IsCell c v:=λx c e v ⟨o,ho,hd⟩=>by
  have nch:c∉ch:=λz=>(hch c z).2.2.1 x c e rfl
  by_cases hc:c∈X.fs
  ·obtain⟨sl,q⟩:=slot c o (I.cne x c e) hc nch ho (I.freeC x c e);exact⟨_,q,hd⟩
  ·exact⟨o,keep c o (I.cne x c e) hc nch ho (I.freeC x c e),hd⟩
 refine⟨I.ok,I.os,hg,⟨λb o e n hb hx=>?_,λb o e n hb hx=>?_,λb o e n hx=>?_,λb o e hx=>?_,λb xs e=>tups b xs (I.base.tups b xs e),λb o xs e=>frzs b o xs (I.base.frzs b o xs e),λb ps e=>?_⟩,?_,λx c e=>?_,?_,λx c e=>?_,λp hp=>?_,hok,I.len⟩
 ·exact keep b o (neL b o e) hb (neC b o e hx) (I.base.keep b o e n hb hx) (I.base.free b o e n hx)
 ·obtain⟨sl,e1⟩:=I.base.slot b o e n hb hx;obtain⟨sl',e2⟩:=slot b _ (neL b o e) hb (neC b o e hx) e1 (I.base.free b o e n hx);exact⟨sl',e2⟩
 ·obtain⟨o',e1⟩:=I.base.there b o e hx;exact free b o' (neC b o e hx) e1 (I.base.free b o e n hx)
 ·obtain⟨o',e1⟩:=I.base.there b o e hx;exact there b o' (neC b o e hx) e1
 ·obtain⟨m1,e1⟩:=I.base.tbls b ps e;obtain⟨m2,e2⟩:=tbls b _ e1;exact⟨m1++m2,by rw[e2,Array.append_assoc]⟩
 ·obtain⟨m,hn,hl⟩:=I.loc;refine⟨m,ns m hn,λi x v e1 e2 e3=>?_⟩;obtain⟨u,r,l⟩:=hl i x v e1 e2 e3;refine⟨u,r,?_⟩;rcases l with l |⟨k,c,e,z⟩
  ·exact .inl l
  ·exact .inr ⟨k,c,e,cellK x c e _ z⟩
 ·obtain⟨v,z⟩:=I.cell x c e;exact⟨v,cellK x c e v z⟩
 ·obtain⟨m,⟨o,_,_,ho,_⟩,_⟩:=I.loc;exact free _ o (λz=>(hch _ z).2.1 rfl) ho I.free
 ·obtain⟨v,o,ho,hd⟩:=I.cell x c e;exact free c o (λz=>(hch c z).2.2.1 x c e rfl) ho (I.freeC x c e)
 ·obtain⟨e,n,ne,nf,d⟩:=I.pin p hp;have nch:p.1∉ch:=λz=>(hch p.1 z).2.2.2 p hp rfl
  exact⟨keep p.1 p.2 ne nf nch e n,free p.1 p.2 nch e n,ne,nf,d⟩
theorem Inv.un(I:Inv X aI σ H s)(u:Un X.fs [] H H' s.heap h')(hok:lJ X.prog X.w H' h'):Inv X aI σ H' {s with heap:=h',toks:=t'}:=by
 obtain⟨m,⟨o,es,ep,ho,r⟩,_⟩:=id I.loc;obtain⟨sl,hL⟩:=u.any ho I.free (by simp);exact I.step (g':=s.gens) (d':=s.drawn) (ch:=[]) (λ_ z=>nomatch z) (λb o _ hb _ e n=>u.keep b o e n hb (by simp)) (λb o _ hb _ e n=>u.slot b o e n hb (by simp)) (λb o _ e n=>u.free b o e n (by simp)) (λb o _ e=>u.there b o e (by simp)) u.tups u.frzs u.tbls (λm' hm=>by
  obtain⟨o',es',ep',ho',r'⟩:=hm;rw[ho]at ho';cases ho';exact⟨_,es',ep',hL,r'⟩) hok I.bare
theorem Inv.call{g':Array GenState}{d':Drawn}(I:Inv X aI σ H s)(u:Un (ET X.stack) ch H H' s.heap h')(hok:lJ X.prog X.w H' h')(hg:AllBare g')
 (hch:∀b∈ch,(b∈X.ex\/X.s₀.heap.objs.size<=b)/\b≠X.env.locals/\(∀x c,X.env.cells.lookup x=some c->c≠b)/\∀p∈X.pn++aI,p.1≠b):
 Inv X aI σ H' {s with heap:=h',gens:=g',drawn:=d',toks:=t'}:=by
 obtain⟨m,⟨o,es,ep,ho,r⟩,_⟩:=id I.loc;obtain⟨sl,hL⟩:=u.any ho I.free λz=>(hch _ z).2.1 rfl
 exact I.step (ch:=ch) hch (λb o hL hb hc e n=>u.keep b o e n (λz=>(bI.mp (I.stkSub b z)).elim hL hb) hc) (λb o _ _ hc e n=>u.any e n hc) (λb o hc e n=>u.free b o e n hc) (λb o hc e=>u.there b o e hc) u.tups u.frzs u.tbls (λm' hm=>by
  obtain⟨o',es',ep',ho',r'⟩:=hm;rw[ho]at ho';cases ho';exact⟨_,es',ep',hL,r'⟩) hok hg
theorem Inv.turned(I:Inv X aI σ H s)(k:∀b o,b≠it->s.heap.get? b=some o->h'.get? b=some o)(hn:H it=none)(hL:it≠X.env.locals)
 (h1:it∈X.ex\/X.s₀.heap.objs.size<=it) (h2:∀x c,X.env.cells.lookup x=some c->c≠it) (h3:∀p∈X.pn++aI,p.1≠it):Inv X aI σ H {s with heap:=h',toks:=t'}:=by
 have nit:∀b u,H b=some u->b≠it:=λb u e z=>by rw[z,hn]at e;cases e
 refine I.step (g':=s.gens) (d':=s.drawn) (ch:=[it]) (λb hb=>?_) (λb o _ _ hc e _=>k b o (λz=>hc (by simp[z])) e) (λb o _ _ hc e _=>⟨o.slots,k b o (λz=>hc (by simp[z])) e⟩) (λ_ _ _ _ n=>n)
  (λb o hc e=>⟨o,k b o (λz=>hc (by simp[z])) e⟩) (λ_ _ e=>e) (λ_ _ _ e=>e) (λb ps e=>⟨#[],by rw[e];simp⟩) (λm hm=>?_) (λb u e=>?_) I.bare
 ·have e:b=it:=by simpa using hb
  subst e;exact⟨h1,hL,h2,h3⟩
 ·obtain⟨o,es,ep,ho,r⟩:=hm;exact⟨o,es,ep,k _ o (cM hL) ho,r⟩
 ·refine(I.hok b u e).stay (λc v hc q=>k c v ?_ q) (λ_ q=>q) λ_ _ q=>q
  rcases hc with z |z
  ·rw[z];exact nit b u e
  ·exact nit c _ z
theorem Inv.tok(I:Inv X aI σ H s)(t:Nat):Inv X aI σ H {s with toks:=t}:=I.un (h':=s.heap) (t':=t) Un.refl I.hok
theorem Inv.kept(I:Inv X aI σ H s)(k:∀b u,s.heap.get? b=some u->h'.get? b=some u):Inv X aI σ H {s with heap:=h',toks:=t'}:=I.un (Un.kept k) (I.hok.kept k)
theorem Inv.laid{o:HO}(I:Inv X aI σ H s)(k:∀b u,s.heap.get? b=some u->h'.get? b=some u)(hp:s.heap.objs.size<=a)(new:fI X.prog X.w (upd H a o) h' a o):
 Inv X aI σ (upd H a o) {s with heap:=h',toks:=t'}:=I.un (Un.laid k hp (I.hok.fresh hp)) (I.hok.laid k hp new)
theorem Inv.write{x e:Addr}{o:HO}(I:Inv X aI σ H s)(mu:Mut (H x))(he:e=x\/H e=some (.own x))(k:∀b u,b≠e->s.heap.get? b=some u->h'.get? b=some u)(heo:∃u,h'.get? e=some u)
 (new:fI X.prog X.w (upd H x o) h' x o):Inv X aI σ (upd H x o) {s with heap:=h',toks:=t'}:=I.un (Un.write mu he k heo) (I.hok.write mu he k heo new)
theorem Inv.pins_of{pins':List (Addr×Obj)}(I:Inv X aI σ H s)(h:∀p∈pins',s.heap.get? p.1=some p.2/\H p.1=none/\p.1≠X.env.locals/\p.1∉X.fs/\∀v,p.2.data≠.cell v):Inv X pins' σ H s:=
 ⟨I.ok,I.os,I.bare,I.base,I.loc,I.cell,I.free,I.freeC,λp hp=>(bX.mp hp).elim (λz=>I.pin p (bS _ z)) (h p),I.hok,I.len⟩
theorem AQ(hN:N.Nodup){x:Str}(a:N[i]?=some x)(b:N[j]?=some x):i=j:=by
 obtain⟨h1,e1⟩:=aD.mp a;obtain⟨h2,e2⟩:=aD.mp b;exact(List.getElem_inj hN).mp (e1.trans e2.symm)
theorem JV{x:Str}{Q:Unit->Shared->Prop}(I:Inv X aI σ H s)(hN:X.N.Nodup)(hi:X.N[i]?=some x)(hx:Loc X.env.scope x)(r:RelV v u)
 (h:∀s',Inv X aI (σ.set i (some v)) H s'->(∃a,Heap.SameBut a s.heap s'.heap/\(a=X.env.locals\/X.env.cells.lookup x=some a))->Q Unit.unit s') (hf:X.fn x=true\/X.env.scope.names.lookup x=some .local:=by first |exact .inl rfl |exact .inr rfl |assumption):wpAny M A (storeName X.env x u) Q E s:=by
 obtain⟨m,hn,hl⟩:=id I.loc;have hcls:(X.env.scope.kind==.class ||(X.env.scope.kind==.module&&X.env.locals !=X.env.globals))=false:=by rw[I.ok.kind];rfl
 have hiσ:i<σ.length:=by rw[I.len];exact(aD.mp hi).1
 have cne:=I.cne;have tracked:∀{a:Addr}{h':Heap},(∃o,s.heap.get? a=some o/\H a=none)->Heap.SameBut a s.heap h'->lJ X.prog X.w H h':=λ{a h'} ha hs b ob e=>by
  obtain⟨_,_,hfree⟩:=ha;refine(I.hok b ob e).stay (λc w' hc q=>(hs.2 c ?_).trans q) (λ_ q=>q) λ_ _ q=>q
  rintro rfl;rcases hc with rfl |hc
  ·rw[hfree]at e;cases e
  ·rw[hfree]at hc;cases hc
 rcases hx with hk |hk
 ·refine wpAny_storeName_local hk hn (λh' hn' hs=>?_) hcls;obtain⟨oL,_,_,hoL,_⟩:=id hn;refine h _ ⟨I.ok,I.os,I.bare,⟨λb o e n hb hx=>?_,λb o e n hb hx=>?_,I.base.free,λb o e hx=>?_,I.base.tups,I.base.frzs,I.base.tbls⟩,⟨_,hn',λj y v' e1 e2 e3=>?_⟩,λy c e=>?_,I.free,I.freeC,λp hp=>?_,tracked ⟨oL,hoL,I.free⟩ hs,by simpa using I.len⟩ ⟨_,hs,.inl rfl⟩
  ·exact(hs.2 b (cG (cC (bJ e) I.ok.above))).trans (I.base.keep b o e n hb hx)
  ·obtain⟨sl,e1⟩:=I.base.slot b o e n hb hx;exact⟨sl,(hs.2 b (cG (cC (bJ e) I.ok.above))).trans e1⟩
  ·obtain⟨o',e1⟩:=I.base.there b o e hx;exact⟨o',(hs.2 b (cG (cC (bJ e) I.ok.above))).trans e1⟩
  ·by_cases hj:j=i
   ·subst hj;rw[hi]at e1;cases e1;rw[pO hiσ]at e2;cases e2;exact⟨u,r,.inl ⟨hk,by simp⟩⟩
   ·rw[rK (cM hj)]at e2;obtain⟨u',r',q⟩:=hl j y v' e1 e2 e3;refine⟨u',r',?_⟩;rcases q with⟨k,e⟩ |⟨k,c,e,z⟩
    ·refine .inl ⟨k,?_⟩;have :y≠x:=λe=>hj (AQ hN e1 (e▸hi))
     simp[this,e]
    ·exact .inr ⟨k,c,e,z.sameBut hs (cne y c e)⟩
  ·obtain⟨w',z⟩:=I.cell y c e;exact⟨w',z.sameBut hs (cne y c e)⟩
  ·obtain⟨e,n,ne,nf,d⟩:=I.pin p hp;exact⟨(hs.2 p.1 ne).trans e,n,ne,nf,d⟩
 ·have hfn:X.fn x=true:=by
   rcases hf with z |z
   ·exact z
   ·rw[z]at hk;cases hk
  obtain⟨c,hc⟩:=I.ok.has x (.inl hk);obtain⟨w',z⟩:=I.cell x c hc;refine wpAny_storeName_cell I.ok.kind hk hc z (λh' hc' hs=>?_);obtain⟨oc,hoc,hocd⟩:=id z;refine h {s with heap:=h'} ⟨I.ok,I.os,I.bare,⟨λb o e n hb hx=>?_,λb o e n hb hx=>?_,I.base.free,λb o e hx=>?_,I.base.tups,I.base.frzs,I.base.tbls⟩,⟨m,hn.sameBut hs (cM (cne x c hc)),λj y v' e1 e2 e3=>?_⟩,λy c' e=>?_,I.free,I.freeC,λp hp=>?_,tracked ⟨oc,hoc,I.freeC x c hc⟩ hs,by simpa using I.len⟩ ⟨c,hs,.inr hc⟩
  ·exact(hs.2 b (cG (cC (bJ e) (I.ok.cab x c hfn hc)))).trans (I.base.keep b o e n hb hx)
  ·obtain⟨sl,e1⟩:=I.base.slot b o e n hb hx;exact⟨sl,(hs.2 b (cG (cC (bJ e) (I.ok.cab x c hfn hc)))).trans e1⟩
  ·obtain⟨o',e1⟩:=I.base.there b o e hx;exact⟨o',(hs.2 b (cG (cC (bJ e) (I.ok.cab x c hfn hc)))).trans e1⟩
  ·by_cases hj:j=i
   ·subst hj;rw[hi]at e1;cases e1;rw[pO hiσ]at e2;cases e2;exact⟨u,r,.inr ⟨.inl hk,c,hc,hc'⟩⟩
   ·rw[rK (cM hj)]at e2;obtain⟨u',r',q⟩:=hl j y v' e1 e2 e3;refine⟨u',r',?_⟩;rcases q with q |⟨k,c',e,z'⟩
    ·exact .inl q
    ·refine .inr ⟨k,c',e,z'.sameBut hs ?_⟩;rintro rfl;exact hj (AQ hN e1 (I.ok.inj _ _ _ e hc▸hi))
  ·by_cases hcc:c'=c
   ·subst hcc;exact⟨_,hc'⟩
   ·obtain⟨w2,z2⟩:=I.cell y c' e;exact⟨w2,z2.sameBut hs hcc⟩
  ·obtain⟨e,n,ne,nf,d⟩:=I.pin p hp;refine⟨(hs.2 p.1 ?_).trans e,n,ne,nf,d⟩;intro q;rw[q,hoc]at e;have q':oc=p.2:=bR e;exact d w' (by rw[←q'];exact hocd)
theorem XB{x:Str}{Q:Unit->Shared->Prop}(I:Inv X aI σ H s)(hN:X.N.Nodup)(hi:X.N[i]?=some x)(hx:Loc X.env.scope x)(r:RelV v u)
 (h:∀s',Inv X aI (σ.set i (some v)) H s'->Q Unit.unit s') (hf:X.fn x=true\/X.env.scope.names.lookup x=some .local:=by first |exact .inl rfl |exact .inr rfl |assumption):wpAny M A (storeName X.env x u) Q E s:=
 JV I hN hi hx r (λs' I' _=>h s' I') hf
theorem Inv.call'{s':Shared}(I:Inv X aI σ H s)(ho:s'.os=s.os)(u:Un (ET X.stack) ch H H' s.heap s'.heap)(hok:lJ X.prog X.w H' s'.heap)(hg:AllBare s'.gens)
 (hch:∀b∈ch,(b∈X.ex\/X.s₀.heap.objs.size<=b)/\b≠X.env.locals/\(∀x c,X.env.cells.lookup x=some c->c≠b)/\∀p∈X.pn++aI,p.1≠b):Inv X aI σ H' s':=by
 obtain⟨h',g',d',t',o'⟩:=s';have e:o'=s.os:=ho;subst e;exact I.call (g':=g') (t':=t') (d':=d') u hok hg hch
end
abbrev XK:=Value->Option Addr->Hp->Prop
abbrev St:=List (Option V)
abbrev VK:=V->Hp->Prop
abbrev TE:=St->Hp->VK->Prop
abbrev TT:=St->Hp->(Bool->Hp->Prop)->Prop
abbrev TA:=St->Hp->(List V->Hp->Prop)->Prop
structure CA where
 nx:St->Hp->Prop
 rt:VK
 bk:St->Hp->Prop:=λ_ _=>False
 ct:St->Hp->Prop:=λ_ _=>False
abbrev TS:=CA->St->Hp->Prop
def EP(X:Cx)(aI:List (Addr×Obj))(σ:St)(Q:VK)(u:Value)(s':Shared):Prop:=∃v H',Inv X aI σ H' s'/\RelV v u/\Q v H'
def TP(X:Cx)(aI:List (Addr×Obj))(σ:St)(Q:Bool->Hp->Prop)(b:Bool)(s':Shared):Prop:=∃H',Inv X aI σ H' s'/\Q b H'
def AP(X:Cx)(aI:List (Addr×Obj))(σ:St)(Q:List V->Hp->Prop)(us:List Value)(s':Shared):Prop:=∃vs H',Inv X aI σ H' s'/\cV vs us/\Q vs H'
def SP(X:Cx)(aI:List (Addr×Obj))(D:CA)(f:Flow)(s':Shared):Prop:=
 match f with
 | .next=>∃σ' H',Inv X aI σ' H' s'/\D.nx σ' H'
 | .brk=>∃σ' H',Inv X aI σ' H' s'/\D.bk σ' H'
 | .cont=>∃σ' H',Inv X aI σ' H' s'/\D.ct σ' H'
 | .ret u=>∃v σ' H',Inv X aI σ' H' s'/\RelV v u/\D.rt v H'
def PE(X:Cx)(e:Expr)(t:TE):Prop:=
 ∀(aI:List (Addr×Obj))(s:Shared)(σ:St)(H:Hp)(Q:VK),Inv X aI σ H s->t σ H Q->wpAny (model X.prog X.w) X.A (eval e X.env) (EP X aI σ Q) X.xe s
def PT(X:Cx)(e:Expr)(t:TT):Prop:=
 ∀(aI:List (Addr×Obj))(s:Shared)(σ:St)(H:Hp)(Q:Bool->Hp->Prop),Inv X aI σ H s->t σ H Q->wpAny (model X.prog X.w) X.A (isTrue e X.env (eval e X.env)) (TP X aI σ Q) X.xe s
def PW(X:Cx)(e:Expr)(t:TT):Prop:=
 ∀(whole:Sem Value)(aI:List (Addr×Obj))(s:Shared)(σ:St)(H:Hp)(Q:Bool->Hp->Prop),Inv X aI σ H s->t σ H Q->wpAny (model X.prog X.w) X.A (isTrue e X.env whole) (TP X aI σ Q) X.xe s
theorem PW.pt{t:TT}(h:PW X e t):PT X e t:=h _
def PA(X:Cx)(es:List Expr)(t:TA):Prop:=
 ∀(pos:Pos)(aI:List (Addr×Obj))(s:Shared)(σ:St)(H:Hp)(Q:List V->Hp->Prop),Inv X aI σ H s->t σ H Q->wpAny (model X.prog X.w) X.A (spliced (backTo pos (starEach es X.env))) (AP X aI σ Q) X.xe s
def PS(X:Cx)(st:Stmt)(t:TS):Prop:=
 ∀(aI:List (Addr×Obj))(s:Shared)(σ:St)(H:Hp)(D:CA),Inv X aI σ H s->t D σ H->wpAny (model X.prog X.w) X.A (exec st X.env) (SP X aI D) X.xe s
def FG(X:Cx)(st:List Stmt)(t:TS):Prop:=
 ∀(aI:List (Addr×Obj))(s:Shared)(σ:St)(H:Hp)(D:CA),Inv X aI σ H s->t D σ H->wpAny (model X.prog X.w) X.A (execs st X.env) (SP X aI D) X.xe s
theorem eK{t:Sem α}{Q Q':α->Shared->Prop}(h:wpAny M A t Q E s)(hQ:∀a s,Q a s->Q' a s):wpAny M A t Q' E s:=mB h hQ λ_ _ x=>x
def rN(x:V)(k:Int->Prop):Prop:=match x with | .int i=>k i |_=>False
def mI(x:V)(k:Addr->Prop):Prop:=match x with | .ref i=>k i |_=>False
def fm(x:V)(k:Bool->Prop):Prop:=match x with | .bl i=>k i |_=>False
def asS(x:V)(k:Str->Prop):Prop:=match x with | .str i=>k i |_=>False
def asV(x:Option (Option V))(k:V->Prop):Prop:=match x with |some (some i)=>k i |_=>False
def asC(x:List V)(k:V->List V->Prop):Prop:=match x with |v::r=>k v r |_=>False
def pI(x:List V)(k:V->Prop):Prop:=match x with |[v]=>k v |_=>False
def WU(x:List V)(k:V->V->Prop):Prop:=match x with |[v,u]=>k v u |_=>False
def as0(x:List V)(k:Prop):Prop:=match x with |[]=>k |_=>False
def n6(x:Bool)(k:Prop):Prop:=match x with |true=>k |false=>False
theorem uC{x:V}{k:Int->Prop}(h:rN x k):∃i,x=.int i/\k i:=by cases x<;>first |exact⟨_,rfl,h⟩ |exact h.elim
theorem xS{x:V}{k:Addr->Prop}(h:mI x k):∃i,x=.ref i/\k i:=by cases x<;>first |exact⟨_,rfl,h⟩ |exact h.elim
theorem BW{x:V}{k:Bool->Prop}(h:fm x k):∃i,x=.bl i/\k i:=by cases x<;>first |exact⟨_,rfl,h⟩ |exact h.elim
theorem asS_{x:V}{k:Str->Prop}(h:asS x k):∃i,x=.str i/\k i:=by cases x<;>first |exact⟨_,rfl,h⟩ |exact h.elim
theorem n5{x:Option (Option V)}{k:V->Prop}(h:asV x k):∃i,x=some (some i)/\k i:=by
 rcases x with _ |_ |i
 ·exact h.elim
 ·exact h.elim
 ·exact⟨i,rfl,h⟩
theorem asC_{x:List V}{k:V->List V->Prop}(h:asC x k):∃v r,x=v::r/\k v r:=by
 cases x
 ·exact h.elim
 ·exact⟨_,_,rfl,h⟩
theorem ZY{x:List V}{k:V->Prop}(h:pI x k):∃v,x=[v]/\k v:=by
 rcases x with _ |⟨v,_ |_⟩
 ·exact h.elim
 ·exact⟨_,rfl,h⟩
 ·exact h.elim
theorem as2_{x:List V}{k:V->V->Prop}(h:WU x k):∃v u,x=[v,u]/\k v u:=by
 rcases x with _ |⟨v,_ |⟨u,_ |_⟩⟩
 ·exact h.elim
 ·exact h.elim
 ·exact⟨_,_,rfl,h⟩
 ·exact h.elim
theorem as0_{x:List V}{k:Prop}(h:as0 x k):x=[]/\k:=by
 cases x
 ·exact⟨rfl,h⟩
 ·exact h.elim
theorem VT{x:Bool}{k:Prop}(h:n6 x k):x=true/\k:=by
 cases x
 ·exact h.elim
 ·exact⟨rfl,h⟩
theorem asT_e{x:Bool}{k:Prop}:n6 x k=(x=true/\k):=propext ⟨VT,by rintro⟨rfl,h⟩;exact h⟩
theorem asT_i{k:Prop}:n6 true k=k:=rfl
theorem mapC{β:Type}{f:α->β}{a:α}{l:List α}:List.map f (a::l)=f a::List.map f l:=rfl
theorem mapN{β:Type}{f:α->β}:List.map f []=[]:=rfl
theorem asI_e{x:V}{k:Int->Prop}:rN x k=∃i,x=.int i/\k i:=propext ⟨uC,by rintro⟨i,rfl,h⟩;exact h⟩
theorem asR_e{x:V}{k:Addr->Prop}:mI x k=∃i,x=.ref i/\k i:=propext ⟨xS,by rintro⟨i,rfl,h⟩;exact h⟩
theorem asB_e{x:V}{k:Bool->Prop}:fm x k=∃i,x=.bl i/\k i:=propext ⟨BW,by rintro⟨i,rfl,h⟩;exact h⟩
theorem asS_e{x:V}{k:Str->Prop}:asS x k=∃i,x=.str i/\k i:=propext ⟨asS_,by rintro⟨i,rfl,h⟩;exact h⟩
theorem asV_e{x:Option (Option V)}{k:V->Prop}:asV x k=∃i,x=some (some i)/\k i:=propext ⟨n5,by rintro⟨i,rfl,h⟩;exact h⟩
theorem asC_e{x:List V}{k:V->List V->Prop}:asC x k=∃v r,x=v::r/\k v r:=propext ⟨asC_,by rintro⟨v,r,rfl,h⟩;exact h⟩
theorem as1_e{x:List V}{k:V->Prop}:pI x k=∃v,x=[v]/\k v:=propext ⟨ZY,by rintro⟨v,rfl,h⟩;exact h⟩
theorem as2_e{x:List V}{k:V->V->Prop}:WU x k=∃v u,x=[v,u]/\k v u:=propext ⟨as2_,by rintro⟨v,u,rfl,h⟩;exact h⟩
theorem as0_e{x:List V}{k:Prop}:as0 x k=(x=[]/\k):=propext ⟨as0_,by rintro⟨rfl,h⟩;exact h⟩
theorem asI_i{i:Int}{k:Int->Prop}:rN (.int i) k=k i:=rfl
theorem asR_i{i:Addr}{k:Addr->Prop}:mI (.ref i) k=k i:=rfl
theorem asB_i{i:Bool}{k:Bool->Prop}:fm (.bl i) k=k i:=rfl
theorem asS_i{i:Str}{k:Str->Prop}:asS (.str i) k=k i:=rfl
theorem asV_i{i:V}{k:V->Prop}:asV (some (some i)) k=k i:=rfl
theorem asC_i{r:List V}{k:V->List V->Prop}:asC (v::r) k=k v r:=rfl
theorem as1_i{k:V->Prop}:pI [v] k=k v:=rfl
theorem as2_i{u:V}{k:V->V->Prop}:WU [v,u] k=k v u:=rfl
theorem as0_i{k:Prop}:as0 [] k=k:=rfl
section
def YY(i:Nat):TE:=λσ H Q=>asV σ[i]? λv=>Q v H
def tC(v:V):TE:=λ_ H Q=>Q v H
theorem RI{x:Str}{pos:Pos}(hN:X.N[i]?=some x)(hv:Vis X.env.scope x)(hd:(x==("__debug__":Str))=false:=by decide)(hcd:(x==("__classdict__":Str))=false:=by decide):PE X (.Name x pos) (YY i):=by
 intro aI s σ H Q I h;replace h:=n5 h;obtain⟨v,e,h⟩:=h;obtain⟨m,hn,hl⟩:=I.loc;obtain⟨u,r,l⟩:=hl i x v hN e hv;have fin:EP X aI σ Q u s:=⟨v,H,I,r,h⟩
 rcases l with⟨hk,hm⟩ |⟨hk,c,hc,hcell⟩
 ·exact wpAny_Name (wpAny_loadName_local I.ok.kind hk hn hm fin) hd
 ·rcases hk with hk |hk
  ·exact wpAny_Name (wpAny_loadName_cell I.ok.kind hk hc hcell fin) hd
  ·exact wpAny_Name (wpAny_loadName_free I.ok.kind hk hc hcell fin hcd) hd
theorem zF{i j pos}:PE X (.Constant (.int i) j pos) (tC (.int i)):=λ_ _ _ H _ I h=>wpAny_Constant_int ⟨.int i,H,I.tok _,⟨_,rfl⟩,h⟩
theorem jR{b j pos}:PE X (.Constant (.bool b) j pos) (tC (.bl b)):=λ_ _ _ H _ I h=>Constant_bool ⟨.bl b,H,I,rfl,h⟩
theorem vL{j pos}:PE X (.Constant .none j pos) (tC .non):=λ_ _ _ H _ I h=>Constant_none ⟨.non,H,I,rfl,h⟩
theorem zT{x j pos}:PE X (.Constant (.str x) j pos) (tC (.str x)):=λ_ _ _ H _ I h=>Calls.Constant_str ⟨.str x,H,I.tok _,⟨_,rfl⟩,h⟩
def Gl(X:Cx)(x:Str):Prop:=X.env.kindOf x=some .globalImplicit
theorem UN{x:Str}{pos:Pos}(I:Inv X aI σ H s)(hg:Gl X x)(hm:X.mg x=some u)(h:Q u s)
 (hd:(x==("__debug__":Str))=false:=by decide):wpAny (model X.prog X.w) X.A (eval (.Name x pos) X.env) Q E s:=
 Calls.Name_function_global I.ok.kind hg (Calls.loadGlobal_global (by rw[I.ok.glob];exact I.mod.glob.keeps I.bk) hm h) hd
theorem wS{x:Str}{pos:Pos}(I:Inv X aI σ H s)(hg:Gl X x)(hm:X.mg x=none)(hv:bootBuiltins x=some u)(h:Q u s)
 (hn:x≠"__name__":=by decide) (hd:(x==("__debug__":Str))=false:=by decide):wpAny (model X.prog X.w) X.A (eval (.Name x pos) X.env) Q E s:=by
 obtain⟨mb,h1,h2⟩:=I.mod.blt;exact Calls.Name_function_global I.ok.kind hg (Calls.loadGlobal_builtin (by rw[I.ok.glob];exact I.mod.glob.keeps I.bk) hm (by rw[I.ok.blt];exact h1.keeps I.bk) ((h2 x hn).trans hv) h) hd
theorem HE{x:Str}{pos:Pos}(hg:Gl X x)(hm:X.mg x=some u)(r:RelV v u)(hd:(x==("__debug__":Str))=false:=by decide):PE X (.Name x pos) (tC v):=
 λ_ _ _ H _ I h=>UN I hg hm ⟨v,H,I,r,h⟩ hd
theorem cw{x:Str}{pos:Pos}(hg:Gl X x)(hm:X.mg x=none)(hv:bootBuiltins x=some u)(r:RelV v u)(hn:x≠"__name__":=by decide)(hd:(x==("__debug__":Str))=false:=by decide):PE X (.Name x pos) (tC v):=
 λ_ _ _ H _ I h=>wS I hg hm hv ⟨v,H,I,r,h⟩ hn hd
variable {a b:Expr} {tb:TE} {pos:Pos}
def PC(X:Cx)(op:CmpOp)(a b:Expr)(t:TE):Prop:=
 ∀(aI:List (Addr×Obj)) (s:Shared) (σ:St) (H:Hp) (Q:VK),Inv X aI σ H s->t σ H Q->
  wpAny (model X.prog X.w) X.A (eval a X.env) (λv s₁=>wpAny (model X.prog X.w) X.A (eval b X.env) (λu s₂=>wpAny (model X.prog X.w) X.A (compareOp op v u) (EP X aI σ Q) X.xe s₂) X.xe s₁) X.xe s
theorem AR(b:Expr)(h:op≠.In)(h2:op≠.NotIn):behindInMarks op b=false:=by
 have e1:(op==CmpOp.In)=false:=by cases op<;>first |rfl |exact absurd rfl h
 have e2:(op==CmpOp.NotIn)=false:=by cases op<;>first |rfl |exact absurd rfl h2
 cases b<;>simp[behindInMarks,e1,e2]
def tB(t:TE):TT:=λσ H Q=>t σ H λx H1=>fm x λc=>Q c H1
theorem ko{t:TE}(h:PC X op a b t)(h1:behindInMarks op b=false:=by first |exact AR _ (by decide) (by decide) |rfl):PE X (.Compare a [op] [b] pos) t:=λaI s σ H Q I hw=>wpAny_Compare1 (h aI s σ H Q I hw) h1
theorem DB{t:TE}(h:PC X op a b t)(h1:behindInMarks op b=false:=by first |exact AR _ (by decide) (by decide) |rfl):PT X (.Compare a [op] [b] pos) (tB t):=by
 intro aI s σ H Q I hw;refine wpAny_isTrue_Compare1 (eK (h aI s σ H _ I hw) λv s1 h1=>eK h1 λu s2 h2=>eK h2 λc s3 ⟨x,H1,I1,r1,q1⟩=>?_) h1;replace q1:=BW q1;obtain⟨d,rfl,q⟩:=q1;cases r1;exact fG ⟨H1,I1,q⟩
theorem xE{t:TE}(h:PE X e t)(he:∀whole,isTrue e X.env whole=(do let v ←whole;standAt e.pos;holding [v] (truthy v)):=by intro _;rfl):PT X e (tB t):=by
 intro aI s σ H Q I hw;refine isTrue_plain (eK (h aI s σ H _ I hw) λv s1 ⟨x,H1,I1,r1,q1⟩=>?_) (he _);replace q1:=BW q1;obtain⟨d,rfl,q⟩:=q1;cases r1;exact fG ⟨H1,I1,q⟩
variable {tA tB':TT} {rest:List Expr}
def tAnd(t u:TT):TT:=λσ H Q=>t σ H λc H1=>if c=true then u σ H1 Q else Q false H1
def tOr(t u:TT):TT:=λσ H Q=>t σ H λc H1=>if c=true then Q true H1 else u σ H1 Q
def tNot(t:TT):TT:=λσ H Q=>t σ H λc H1=>Q (!c) H1
theorem YG(ha:PT X a tA):PW X (.BoolOp .And [a] pos) tA:=by
 intro wh aI s σ H Q I h;refine isTrue_and (eK (ha aI s σ H Q I h) λc s1 e=>?_);cases c with
 |true=>exact isTrue_and_nil e
 |false=>exact e
theorem uJ(ha:PT X a tA):PW X (.BoolOp .Or [a] pos) tA:=by
 intro wh aI s σ H Q I h;refine isTrue_or (eK (ha aI s σ H Q I h) λc s1 e=>?_);cases c with
 |false=>exact isTrue_or_nil e
 |true=>exact e
theorem XH(ha:PT X a tA)(hb:PW X (.BoolOp .And (b::rest) pos) tB'):PW X (.BoolOp .And (a::b::rest) pos) (tAnd tA tB'):=by
 intro wh aI s σ H Q I h;refine isTrue_and (eK (ha aI s σ H _ I h) λc s1 ⟨H1,I1,q1⟩=>?_);cases c with
 |true=>exact hb wh aI s1 σ H1 Q I1 q1
 |false=>exact⟨H1,I1,q1⟩
theorem jX(ha:PT X a tA)(hb:PW X (.BoolOp .Or (b::rest) pos) tB'):PW X (.BoolOp .Or (a::b::rest) pos) (tOr tA tB'):=by
 intro wh aI s σ H Q I h;refine isTrue_or (eK (ha aI s σ H _ I h) λc s1 ⟨H1,I1,q1⟩=>?_);cases c with
 |true=>exact⟨H1,I1,q1⟩
 |false=>exact hb wh aI s1 σ H1 Q I1 q1
theorem jB(ha:PT X a tA):PT X (.UnaryOp .Not a pos) (tNot tA):=by
 intro aI s σ H Q I h;exact isTrue_not (ha aI s σ H (λc H1=>Q (!c) H1) I h)
def tAndV(ta tb:TE):TE:=λσ H Q=>ta σ H λx H1=>fm x λc=>if c=true then tb σ H1 Q else Q (.bl false) H1
def tOrV(ta tb:TE):TE:=λσ H Q=>ta σ H λx H1=>fm x λc=>if c=true then Q (.bl true) H1 else tb σ H1 Q
def tNotV(ta:TE):TE:=λσ H Q=>ta σ H λx H1=>fm x λc=>Q (.bl (!c)) H1
theorem qR{op}{t:TE}(h:PE X a t):PE X (.BoolOp op [a] pos) t:=λaI s σ H Q I hw=>BoolOp_one (h aI s σ H Q I hw)
theorem jG(ha:PE X a ta)(hb:PE X (.BoolOp .And (b::rest) pos) tb):PE X (.BoolOp .And (a::b::rest) pos) (tAndV ta tb):=by
 intro aI s σ H Q I h;refine BoolOp_and (eK (ha aI s σ H _ I h) λv s1 ⟨x,H1,I1,r1,q1⟩=>?_);replace q1:=BW q1;obtain⟨c,rfl,q1⟩:=q1;cases r1;refine fG ?_;cases c with
 |true=>exact hb aI s1 σ H1 Q I1 q1
 |false=>exact⟨.bl false,H1,I1,rfl,q1⟩
theorem gy(ha:PE X a ta)(hb:PE X (.BoolOp .Or (b::rest) pos) tb):PE X (.BoolOp .Or (a::b::rest) pos) (tOrV ta tb):=by
 intro aI s σ H Q I h;refine BoolOp_or (eK (ha aI s σ H _ I h) λv s1 ⟨x,H1,I1,r1,q1⟩=>?_);replace q1:=BW q1;obtain⟨c,rfl,q1⟩:=q1;cases r1;refine fG ?_;cases c with
 |false=>exact hb aI s1 σ H1 Q I1 q1
 |true=>exact⟨.bl true,H1,I1,rfl,q1⟩
theorem RJ(ha:PE X a ta):PE X (.UnaryOp .Not a pos) (tNotV ta):=by
 intro aI s σ H Q I h;refine UnaryOp_ (eK (ha aI s σ H _ I h) λv s1 ⟨x,H1,I1,r1,q1⟩=>?_);replace q1:=BW q1;obtain⟨c,rfl,q1⟩:=q1;cases r1;exact not_of (fG ⟨.bl (!c),H1,I1,rfl,q1⟩)
def tIf(t:TT)(ta tb:TE):TE:=λσ H Q=>t σ H λc H1=>if c=true then ta σ H1 Q else tb σ H1 Q
theorem kI{c:Expr}(hc:PT X c tA)(ha:PE X a ta)(hb:PE X b tb):PE X (.IfExp c a b pos) (tIf tA ta tb):=by
 intro aI s σ H Q I h;refine wpAny_IfExp (eK (hc aI s σ H _ I h) λd s1 ⟨H1,I1,q1⟩=>?_);cases d with
 |true=>exact ha aI s1 σ H1 Q I1 q1
 |false=>exact hb aI s1 σ H1 Q I1 q1
end
def dF(K:W.Frag)(H:Hp)(a:Addr)(xs:List V):Prop:=
 Rd H a (.lst xs)\/
  ∃(o:Obj)(its:Array Value)(n:Nat),K.lookup a=some o/\o.cls=.type "list"/\o.dict=none/\o.data=.seq its n/\its.size<=sizeLine/\cV xs its.toList
def cW(K:W.Frag)(H:Hp)(a:Addr)(xs:List V):Prop:=
 Rd H a (.tup xs)\/
  ∃(o:Obj)(its:Array Value)(n:Nat),K.lookup a=some o/\o.cls=.type "tuple"/\o.data=.seq its n/\its.size<=sizeLine/\cV xs its.toList
def absV:Value->Option V
 | .none=>some .non
 | .bool b=>some (.bl b)
 | .int i _=>some (.int i)
 | .str x _=>some (.str x)
 | .bytes b _=>some (.byt b)
 | .float b _=>some (.flt b)
 | .ref a=>some (.ref a)
 | .type n=>some (.ty n)
 |_=>none
theorem RelV.abs{x:V}(r:RelV x u):absV u=some x:=by
 cases x with
 |non=>cases r;rfl
 |bl _=>cases r;rfl
 |int _=>obtain⟨t,rfl⟩:=r;rfl
 |str _=>obtain⟨t,rfl⟩:=r;rfl
 |byt _=>obtain⟨t,rfl⟩:=r;rfl
 |flt _=>obtain⟨t,rfl⟩:=r;rfl
 |ref _=>cases r;rfl
 |ty _=>cases r;rfl
theorem RelV.inj{x:V}(r:RelV x u)(q:RelV y u):x=y:=bR (r.abs.symm.trans q.abs)
theorem cV.inj:∀{xs ys:List V}{us:List Value},cV xs us->cV ys us->xs=ys
 |_,_,_,.nil,.nil=>rfl
 |_,_,_,.cons r t,.cons r' t'=>by rw[r.inj r',cV.inj t t']
section
variable {ys:List V}
theorem dF.of(h:H a=some (.lst xs)):dF K H a xs:=.inl (.inl h)
theorem cW.of(h:H a=some (.tup xs)):cW K H a xs:=.inl (.inl h)
theorem Inv.list(I:Inv X aI σ H s)(h:dF X.K H a xs):∃its:List Value,cV xs its/\PlainL s.heap a its.toArray/\xs.length<=sizeLine:=by
 rcases h with h |⟨o,its,n,hk,hc,hd,hs,hz,r⟩
 ·obtain⟨z,its,n,r,e⟩:=h.ok I.hok;exact⟨its,r,⟨_,n,e,rfl,rfl,rfl⟩,z⟩
 ·refine⟨its.toList,r,⟨o,n,I.kIn a o hk,hc,hd,by simpa using hs⟩,?_⟩;have e:=r.length;simp only[bP]at e;lia
theorem Inv.tuple(I:Inv X aI σ H s)(h:cW X.K H a xs):∃its:List Value,cV xs its/\IsTup s.heap a its.toArray/\xs.length<=sizeLine:=by
 rcases h with h |⟨o,its,n,hk,hc,hs,hz,r⟩
 ·obtain⟨z,its,r,p⟩:=h.ok I.hok;exact⟨its,r,p,z⟩
 ·refine⟨its.toList,r,⟨o,I.kIn a o hk,hc,n,by simpa using hs⟩,?_⟩;have e:=r.length;simp only[bP]at e;lia
theorem Inv.list_inj(I:Inv X aI σ H s)(h:dF X.K H a xs)(h':dF X.K H a ys):xs=ys:=by
 obtain⟨its,r,⟨o,n,e,_,_,d⟩,_⟩:=I.list h;obtain⟨its',r',⟨o',n',e',_,_,d'⟩,_⟩:=I.list h';rw[e]at e';cases e';rw[d]at d';injection d' with d1 _
 have :its=its':=by simpa using cJ Array.toList d1
 subst this;exact r.inj r'
theorem Inv.tuple_inj(I:Inv X aI σ H s)(h:cW X.K H a xs)(h':cW X.K H a ys):xs=ys:=by
 obtain⟨its,r,⟨o,e,_,n,d⟩,_⟩:=I.tuple h;obtain⟨its',r',⟨o',e',_,n',d'⟩,_⟩:=I.tuple h';rw[e]at e';cases e';rw[d]at d';injection d' with d1 _
 have :its=its':=by simpa using cJ Array.toList d1
 subst this;exact r.inj r'
end
abbrev Cx.wish(X:Cx)(E:Value->Shared->Prop):Cx:={X with xe:=E}
abbrev Cx.nox(X:Cx):Cx:=X.wish λ_ _=>False
theorem Cx.Ok.wish(ok:X.Ok)(E:Value->Shared->Prop):(X.wish E).Ok:=
 ⟨ok.mod,ok.kind,ok.glob,ok.blt,ok.above,ok.inj,ok.has,ok.cab,ok.hd,ok.frames,ok.stk,ok.exf,ok.bs,ok.bsz,ok.noex,ok.exfs,ok.funs,ok.frf⟩
theorem Cx.Ok.unwish(ok:(X.wish E).Ok):X.Ok:=
 ⟨ok.mod,ok.kind,ok.glob,ok.blt,ok.above,ok.inj,ok.has,ok.cab,ok.hd,ok.frames,ok.stk,ok.exf,ok.bs,ok.bsz,ok.noex,ok.exfs,ok.funs,ok.frf⟩
theorem Inv.wish(I:Inv X aI σ H s)(E:Value->Shared->Prop):Inv (X.wish E) aI σ H s:=⟨I.ok.wish E,I.os,I.bare,I.base,I.loc,I.cell,I.free,I.freeC,I.pin,I.hok,I.len⟩
theorem Inv.unwish(I:Inv (X.wish E) aI σ H s):Inv X aI σ H s:=⟨I.ok.unwish,I.os,I.bare,I.base,I.loc,I.cell,I.free,I.freeC,I.pin,I.hok,I.len⟩
theorem SP.unwish{f:Flow}{s':Shared}(h:SP (X.wish E) aI D f s'):SP X aI D f s':=by
 cases f with
 |next=>obtain⟨σ',H',I,q⟩:=h;exact⟨σ',H',I.unwish,q⟩
 |brk=>obtain⟨σ',H',I,q⟩:=h;exact⟨σ',H',I.unwish,q⟩
 |cont=>obtain⟨σ',H',I,q⟩:=h;exact⟨σ',H',I.unwish,q⟩
 |ret u=>obtain⟨v,σ',H',I,r,q⟩:=h;exact⟨v,σ',H',I.unwish,r,q⟩
theorem FG.nox{st:List Stmt}{t:TS}(h:FG X.nox st t):FG X st t:=λaI s σ H D I hw=>
 mB (h aI s σ H D (I.wish _) hw) (λ_ _ q=>q.unwish) λ_ _ z=>False.elim z
section
variable {st:Stmt} {rest:List Stmt} {t u:TS} {pos:Pos}
def tNext:TS:=λD σ H=>D.nx σ H
def LA(t u:TS):TS:=λD σ H=>t {D with nx:=u D} σ H
theorem zR:FG X [] tNext:=λ_ _ σ H _ I h=>sC ⟨σ,H,I,h⟩
theorem zD(h1:PS X st t)(h2:FG X rest u):FG X (st::rest) (LA t u):=by
 intro aI s σ H D I h;refine wpAny_execs_cons (eK (h1 aI s σ H {D with nx:=u D} I h) λf s1 q=>?_);cases f with
 |next=>
  obtain⟨σ',H',I',q⟩:=q;exact h2 aI s1 σ' H' D I' q
 |ret v=>exact q
 |brk=>exact q
 |cont=>exact q
theorem zG(h1:PS X st t):FG X [st] t:=by
 intro aI s σ H D I h;refine wpAny_execs_cons (eK (h1 aI s σ H D I h) λf s1 q=>?_);cases f with
 |next=>exact sC q
 |ret v=>exact q
 |brk=>exact q
 |cont=>exact q
theorem Inv.quiet(I:Inv X aI σ H s):interactive X.env=false:=by simp[interactive,I.ok.kind]
def tDrop(te:TE):TS:=λD σ H=>te σ H λ_ H1=>D.nx σ H1
theorem yD(he:PE X e te)(hs:swapsWith e none pos.line X.env=pure false:=by rfl):PS X (.Expr e pos) (tDrop te):=by
 intro aI s σ H D I h;exact wpAny_Expr_any (eK (he aI s σ H _ I h) λv s1 ⟨x,H1,I1,r1,q1⟩=>⟨σ,H1,I1,q1⟩) I.quiet hs
def tRet(te:TE):TS:=λD σ H=>te σ H D.rt
theorem zM(he:PE X e te):PS X (.Return (some e) pos) (tRet te):=by
 intro aI s σ H D I h;exact wpAny_Return_some (eK (he aI s σ H _ I h) λv s1 ⟨x,H1,I1,r1,q1⟩=>⟨x,σ,H1,I1,r1,q1⟩)
def tRetN:TS:=λD _ H=>D.rt .non H
theorem GX:PS X (.Return none pos) tRetN:=λ_ _ σ H _ I h=>wpAny_Return_none ⟨.non,σ,H,I,rfl,h⟩
def tIfS(c:TT)(t u:TS):TS:=λD σ H=>c σ H λb H1=>if b=true then t D σ H1 else u D σ H1
theorem zZ{c:Expr}{a b:List Stmt}{tc:TT}(hc:PT X c tc)(ha:FG X a t)(hb:FG X b u):PS X (.If c a b pos) (tIfS tc t u):=by
 intro aI s σ H D I h;refine wpAny_If (eK (hc aI s σ H _ I h) λd s1 ⟨H1,I1,q1⟩=>?_);cases d with
 |true=>exact ha aI s1 σ H1 D I1 q1
 |false=>exact hb aI s1 σ H1 D I1 q1
def ji:TS:=λ_ _ _=>False
theorem RA:PS X st ji:=λ_ _ _ _ _ _ h=>h.elim
end
abbrev TG:=V->St->Hp->(St->Hp->Prop)->Prop
abbrev iw:=List V->St->Hp->(St->Hp->Prop)->Prop
def PG(X:Cx)(target:Expr)(t:TG):Prop:=
 ∀(aI:List (Addr×Obj)) (s:Shared) (σ:St) (H:Hp) (v:V) (u:Value) (Q:St->Hp->Prop),Inv X aI σ H s->RelV v u->t v σ H Q->
  wpAny (model X.prog X.w) X.A (assign target X.env u) (λ_ s'=>∃σ' H',Inv X aI σ' H' s'/\Q σ' H') X.xe s
def PGs(X:Cx)(ts:List Expr)(t:iw):Prop:=
 ∀(aI:List (Addr×Obj)) (s:Shared) (σ:St) (H:Hp) (vs:List V) (us:List Value) (Q:St->Hp->Prop),Inv X aI σ H s->cV vs us->t vs σ H Q->
  wpAny (model X.prog X.w) X.A (assignInOrder ((assignEach ts X.env).map (·.2)) us) (λ_ s'=>∃σ' H',Inv X aI σ' H' s'/\Q σ' H') X.xe s
abbrev VZ:=V->V->V->Hp->(Hp->Prop)->Prop
def ft(X:Cx)(t:VZ):Prop:=
 ∀(aI:List (Addr×Obj)) (s:Shared) (σ:St) (H:Hp) (o i v:V) (ov iv u:Value) (Q:Hp->Prop),Inv X aI σ H s->RelV o ov->RelV i iv->RelV v u->t o i v H Q->
  wpAny (model X.prog X.w) X.A (setItem ov iv u) (λ_ s'=>∃H',Inv X aI σ H' s'/\Q H') X.xe s
abbrev TIp:=V->V->Hp->VK->Prop
def PIp(X:Cx)(op:Operator)(t:TIp):Prop:=
 ∀(aI:List (Addr×Obj)) (s:Shared) (σ:St) (H:Hp) (x y:V) (v u:Value) (Q:VK),Inv X aI σ H s->RelV x v->RelV y u->t x y H Q->
  wpAny (model X.prog X.w) X.A (inplaceOp op v u) (EP X aI σ Q) X.xe s
section
variable {pos:Pos}
def vU(i:Nat):TG:=λv σ H Q=>Q (σ.set i (some v)) H
theorem HD{x:Str}(hN:X.N.Nodup)(hi:X.N[i]?=some x)(hx:Loc X.env.scope x)(hf:X.fn x=true\/X.env.scope.names.lookup x=some .local:=by first |exact .inl rfl |exact .inr rfl |assumption):PG X (.Name x pos) (vU i):=by
 intro aI s σ H v u Q I r h;exact wpAny_assign_Name (XB I hN hi hx r (λs' I'=>⟨_,H,I',h⟩) hf)
def uY:iw:=λvs σ H Q=>vs=[]/\Q σ H
def jU(t:TG)(u:iw):iw:=λvs σ H Q=>asC vs λv r=>t v σ H λσ' H'=>u r σ' H' Q
theorem yY:PGs X [] uY:=by
 intro aI s σ H vs us Q I r h;obtain⟨e,h⟩:=h;subst e;cases r;exact assignInOrder_nil ⟨σ,H,I,h⟩
theorem zV{t:TG}{u:iw}(h1:PG X e t)(h2:PGs X es u)
 (hs:(assignEach (e::es) X.env).map (·.2)=assign e X.env::(assignEach es X.env).map (·.2):=by rfl):PGs X (e::es) (jU t u):=by
 intro aI s σ H vs us Q I r h;replace h:=asC_ h;obtain⟨v,vr,e1,h⟩:=h;subst e1;cases r with
 |cons r rr=>
  rw[hs];refine assignInOrder_cons (eK (h1 aI s σ H _ _ _ I r h) λ_ s1 ⟨σ1,H1,I1,q1⟩=>?_);exact h2 aI s1 σ1 H1 _ _ Q I1 rr q1
def uQ(K:W.Frag)(n:Nat)(t:iw):TG:=λv σ H Q=>mI v λa=>∃xs,cW K H a xs/\xs.length=n/\t xs σ H Q
theorem jF{k:Nat}{t:iw}(hc:X.calm=true)(h:PGs X es t)
 (hn:(assignEach es X.env).length=n:=by rfl) (iN:(assignEach es X.env).findIdx? (·.1)=none:=by rfl):PG X (.Tuple es k pos) (uQ X.K n t):=by
 intro aI s σ H v u Q I r hw;replace hw:=xS hw;obtain⟨a,e1,xs,hq,hl,hw⟩:=hw;subst e1;cases r;obtain⟨its,rv,ht,hz⟩:=I.tuple hq;refine assign_Tuple_tuple (I.ok.hd hc) ht (by simp[hn,←hl,rv.length]) iN λh' hx=>?_
 have I1:Inv X aI σ H {s with heap:=h'}:=I.kept (t':=s.toks) λb o e=>hx b o (cG (bJ e)) e
 exact h aI _ σ H xs _ Q I1 (by simpa using rv) hw
def gSub(to ti:TE)(t:VZ):TG:=λv σ H Q=>to σ H λo H1=>ti σ H1 λi H2=>t o i v H2 λH3=>Q σ H3
theorem km{i:Expr}{to ti:TE}{t:VZ}(ho:PE X o to)(hi:PE X i ti)(hs:ft X t)
 (ha:∀v,assign (.Subscript o i pos) X.env v=(do
  let ov ←holding [v] (eval o X.env)
  let iv ←holding [v,ov] (eval i X.env)
  standAt pos
  holding [v,ov,iv] (setItem ov iv v)
  release [v,ov,iv] []):=by intro _;rfl):PG X (.Subscript o i pos) (gSub to ti t):=by
 intro aI s σ H v u Q I r h;rw[ha];refine aG (eV (eK (ho aI s σ H _ I h) λov s1 ⟨x,H1,I1,r1,q1⟩=>?_));refine aG (eV (eK (hi aI s1 σ H1 _ I1 q1) λiv s2 ⟨y,H2,I2,r2,q2⟩=>?_));refine aG (wpAny_standAt (aG (eV (eK (hs aI s2 σ H2 x y v ov iv u _ I2 r1 r2 r q2) λ_ s3 ⟨H3,I3,q3⟩=>?_))));exact wpAny_release ⟨σ,H3,I3,q3⟩
def OH(te:TE)(g:TG):TS:=λD σ H=>te σ H λx H1=>g x σ H1 D.nx
theorem vI{g:TG}(he:PE X e te)(hg:PG X tg g)(hs:swapsWithSole [tg] e pos.line X.env=pure false:=by rfl)(hw:swappedStores [tg] e X.env=pure none:=by rfl)
 (h1:(assignEach [tg] X.env).map (·.2)=[assign tg X.env]:=by rfl):PS X (.Assign [tg] e pos) (OH te g):=by
 intro aI s σ H D I h;refine wpAny_Assign_stores (eK (he aI s σ H _ I h) λv s1 ⟨x,H1,I1,r1,q1⟩=>?_) hs hw;rw[h1];exact eK (hg aI s1 σ H1 x v _ I1 r1 q1) λ_ s2 q=>q
theorem kX{x:Str}(hN:X.N.Nodup)(hi:X.N[i]?=some x)(hx:Loc X.env.scope x)(he:PE X e te)(hs:swapsWith e (some (.Name x pos')) pos.line X.env=pure false:=by rfl)(hf:X.fn x=true\/X.env.scope.names.lookup x=some .local:=by first |exact .inl rfl |exact .inr rfl |assumption):
 PS X (.Assign [.Name x pos'] e pos) (OH te (vU i)):=by
 intro aI s σ H D I h;refine wpAny_Assign_Name (eK (he aI s σ H _ I h) λv s1 ⟨y,H1,I1,r1,q1⟩=>?_) hs;exact XB I1 hN hi hx r1 (λs2 I2=>⟨_,H1,I2,q1⟩) hf
def jm(i:Nat)(te:TE)(ti:TIp):TS:=λD σ H=>asV σ[i]? λx=>te σ H λy H1=>ti x y H1 λz H2=>D.nx (σ.set i (some z)) H2
theorem RC{x:Str}{op:Operator}{ti:TIp}(hN:X.N.Nodup)(hi:X.N[i]?=some x)(hx:Loc X.env.scope x)(he:PE X e te)(ho:PIp X op ti)(hf:X.fn x=true\/X.env.scope.names.lookup x=some .local:=by first |exact .inl rfl |exact .inr rfl |assumption):
 PS X (.AugAssign (.Name x pos') op e pos) (jm i te ti):=by
 intro aI s σ H D I h;replace h:=n5 h;obtain⟨v,e1,h⟩:=h;obtain⟨m,hn,hl⟩:=I.loc;have vis:Vis X.env.scope x:=by rcases hx with k |k;exact .inl k;exact .inr (.inl k)
 obtain⟨u,r,l⟩:=hl i x v hi e1 vis;refine wpAny_AugAssign_Name ?_;have go:wpAny (model X.prog X.w) X.A (eval e X.env) (λw s₂=>wpAny (model X.prog X.w) X.A (inplaceOp op u w) (λr s₃=>wpAny (model X.prog X.w) X.A (storeName X.env x r) (λ_=>SP X aI D .next) X.xe s₃) X.xe s₂) X.xe s:=by
  refine eK (he aI s σ H _ I h) λw s1 ⟨y,H1,I1,r1,q1⟩=>?_
  refine eK (ho aI s1 σ H1 v y u w _ I1 r r1 q1) λz s2 ⟨zv,H2,I2,r2,q2⟩=>?_
  exact XB I2 hN hi hx r2 (λs3 I3=>⟨_,H2,I3,q2⟩) hf
 rcases l with⟨hk,hm⟩ |⟨hk,c,hc,hcell⟩
 ·exact wpAny_loadName_local I.ok.kind hk hn hm go
 ·rcases hk with hk |hk
  ·exact wpAny_loadName_cell I.ok.kind hk hc hcell go
  ·rcases hx with k |k
   ·have :X.env.scope.names.lookup x=some .free:=hk;rw[k]at this;cases this
   ·have :X.env.scope.names.lookup x=some .free:=hk;rw[k]at this;cases this
def OG(to ti te:TE)(tget:V->V->Hp->VK->Prop)(tip:TIp)(tset:VZ):TS:=λD σ H=>to σ H λo H1=>ti σ H1 λi H2=>tget o i H2 λx H3=>te σ H3 λy H4=>tip x y H4 λz H5=>tset o i z H5 λH6=>D.nx σ H6
def PGet(X:Cx)(t:V->V->Hp->VK->Prop):Prop:=
 ∀(aI:List (Addr×Obj)) (s:Shared) (σ:St) (H:Hp) (o i:V) (ov iv:Value) (Q:VK),Inv X aI σ H s->RelV o ov->RelV i iv->t o i H Q->
  wpAny (model X.prog X.w) X.A (getItem ov iv) (EP X aI σ Q) X.xe s
theorem GZ{i:Expr}{to ti:TE}{tget:V->V->Hp->VK->Prop}{tip:TIp}{tset:VZ}{op:Operator}{tpos:Pos}(ho:PE X o to)(hi:PE X i ti)(hg:PGet X tget)(he:PE X e te)(hp:PIp X op tip)(hs:ft X tset)
 (ha:∀ov iv new,augStore i ov iv new=(do holding [new,ov,iv] (setItem ov iv new);release [new,ov,iv] [];pure .next):=by intros;rfl):PS X (.AugAssign (.Subscript o i tpos) op e pos) (OG to ti te tget tip tset):=by
 intro aI s σ H D I h;refine wpAny_AugAssign_SubscriptAny (eK (ho aI s σ H _ I h) λov s1 ⟨x1,H1,I1,r1,q1⟩=>?_) ha;refine eK (hi aI s1 σ H1 _ I1 q1) λiv s2 ⟨x2,H2,I2,r2,q2⟩=>?_
 refine eK (hg aI s2 σ H2 x1 x2 ov iv _ I2 r1 r2 q2) λold s3 ⟨x3,H3,I3,r3,q3⟩=>?_
 refine eK (he aI s3 σ H3 _ I3 q3) λv s4 ⟨x4,H4,I4,r4,q4⟩=>?_
 refine eK (hp aI s4 σ H4 x3 x4 old v _ I4 r3 r4 q4) λnew s5 ⟨x5,H5,I5,r5,q5⟩=>?_
 exact eK (hs aI s5 σ H5 x1 x2 x5 ov iv new _ I5 r1 r2 r5 q5) λ_ s6 ⟨H6,I6,q6⟩=>⟨σ,H6,I6,q6⟩
def mh(f:Int->Int->Int):TIp:=λx y H Q=>rN x λi=>rN y λj=>Q (.int (f i j)) H
theorem mf:PIp X .Add (mh λi j=>i+j):=by
 intro aI s σ H x y v u Q I r1 r2 h;replace h:=uC h;obtain⟨i,e1,h⟩:=h;replace h:=uC h;obtain⟨j,e2,q⟩:=h;subst e1;subst e2;obtain⟨t,rfl⟩:=r1;obtain⟨t',rfl⟩:=r2;exact iadd_int ⟨.int _,H,I.tok _,⟨_,rfl⟩,q⟩
end
section
variable {pos:Pos}
def CQ(c:TT)(tb:TS):TS:=λD σ H=>∃W:Nat->St->Hp->Prop,(∃m,W m σ H)/\∀m σ H,W m σ H->
 c σ H λb H1=>if b=true then∃N:St->Hp->Prop,(∀σ' H',N σ' H'->∃m',m'<m/\W m' σ' H')/\tb {D with nx:=N,ct:=N,bk:=D.nx} σ H1 else D.nx σ H1
theorem tI{c:Expr}{body:List Stmt}{tc:TT}(hp:PassesOwn (model X.prog X.w) X.A X.env X.xe)(hc:PT X c tc)(hb:FG X body tb):PS X (.While c body [] pos) (CQ tc tb):=by
 intro aI s σ H D I h;obtain⟨W,⟨m0,w0⟩,turn⟩:=h;refine wpAny_While (codeAny_whileLoop (λn s'=>∃σ' H',Inv X aI σ' H' s'/\W n σ' H') ?_ m0 ⟨σ,H,I,w0⟩);rintro n s1 ⟨σ1,H1,I1,w1⟩;refine iH hp (eK (hc aI s1 σ1 H1 _ I1 (turn n σ1 H1 w1)) λb s2 ⟨H2,I2,q2⟩=>?_);cases b with
 |true=>
  obtain⟨N,hN,q2⟩:=q2;rw[aH rfl];refine iH hp (eK (hb aI s2 σ1 H2 _ I2 q2) λf s3 q3=>?_);cases f with
  |next=>
   obtain⟨σ3,H3,I3,n3⟩:=q3;obtain⟨m',hm,w3⟩:=hN σ3 H3 n3;exact⟨m',hm,σ3,H3,I3,w3⟩
  |cont=>
   obtain⟨σ3,H3,I3,n3⟩:=q3;obtain⟨m',hm,w3⟩:=hN σ3 H3 n3;exact⟨m',hm,σ3,H3,I3,w3⟩
  |brk=>exact q3
  |ret v=>exact q3
 |false=>
  rw[aF bL];exact sC ⟨σ1,H2,I2,q2⟩
end
structure It where
 go:Nat->Hp->Prop
 yld:Nat->Hp->V->Hp->Prop
 stop:Nat->Hp->Prop
def JL(X:Cx)(aI:List (Addr×Obj))(H:Hp)(b:Addr):Prop:=
 H b=none/\b≠X.env.locals/\b∉X.fs/\(b∈X.ex\/X.s₀.heap.objs.size<=b)/\(∀x c,X.env.cells.lookup x=some c->c≠b)/\∀p∈X.pn++aI,p.1≠b
theorem Inv.fpOk(I:Inv X aI σ H s)(hb:s.heap.objs.size<=b)(hn:H' b=none):JL X aI H' b:=by
 refine⟨hn,Nat.ne_of_gt (cC I.lt hb),I.nofs hb,.inr (dI I.sz hb),λx c e z=>?_,λp hp z=>?_⟩
 ·obtain⟨v,q⟩:=I.cell x c e;exact absurd (cC q.lt (by rw[z];exact hb)) (eA _)
 ·exact absurd (cC (bJ (I.pin p hp).1) (by rw[z];exact hb)) (eA _)
structure MY(P:Program)(w:World)(K:W.Frag)(tg:Expr)(J:It)(fp:List Addr)(it:Addr)(tn:Nat->Heap->Prop):Prop where
 mem:it∈fp
 obj:∀i h,tn i h->∀b∈fp,∃o,h.get? b=some o/\∀v,o.data≠.cell v
 keep:∀i h h',tn i h->(∀b∈fp,∀o,h.get? b=some o->h'.get? b=some o)->tn i h'
 item:∀(X:Cx),X.prog=P->X.w=w->X.K=K->X.calm=true->∀(i:Nat)(aI:List (Addr×Obj))(s:Shared)(σ:St)(H:Hp)(E:Value->Shared->Prop),Inv X aI σ H s->(∀b∈fp,JL X aI H b)->tn i s.heap->J.go i H->
  wpAny (model P w) X.A (pyNext (.ref it)) (λr s1=>∃u,r=some u/\
   wpAny (model P w) X.A (letOwnedTupleGo tg (.ref it) u) (λ_ s2=>∃x H',Inv X aI σ H' s2/\RelV x u/\J.yld i H x H'/\tn (i+1) s2.heap/\∀b∈fp,H' b=none) E s1) E s
 done:∀(X:Cx),X.prog=P->X.w=w->X.K=K->X.calm=true->∀(i:Nat)(aI:List (Addr×Obj))(s:Shared)(σ:St)(H:Hp)(E:Value->Shared->Prop),Inv X aI σ H s->(∀b∈fp,JL X aI H b)->tn i s.heap->J.stop i H->
  wpAny (model P w) X.A (pyNext (.ref it)) (λr s1=>r=none/\Inv X aI σ H s1) E s
 self:∀(A:Around)(i:Nat)(s:Shared)(Q:Value->Shared->Prop)(E:Value->Shared->Prop),tn i s.heap->Q (.ref it) s->wpAny (model P w) A (pyIter (.ref it)) Q E s
abbrev TI:=St->Hp->(It->Hp->Prop)->Prop
def PIE(X:Cx)(aI:List (Addr×Obj))(σ:St)(tg:Expr)(R:It->Hp->Prop)(itv:Value)(s2:Shared):Prop:=
 ∃(it:Addr)(fp:List Addr)(tn:Nat->Heap->Prop)(J:It)(H':Hp),itv=.ref it/\Inv X aI σ H' s2/\MY X.prog X.w X.K tg J fp it tn/\tn 0 s2.heap/\(∀b∈fp,JL X aI H' b)/\R J H'
def PI(X:Cx)(tg iter:Expr)(wi:TI):Prop:=
 ∀(aI:List (Addr×Obj)) (s:Shared) (σ:St) (H:Hp) (R:It->Hp->Prop),Inv X aI σ H s->wi σ H R->
  wpAny (model X.prog X.w) X.A (eval iter X.env) (λv s1=>wpAny (model X.prog X.w) X.A (pyIter v) (PIE X aI σ tg R) X.xe s1) X.xe s
theorem IF{o:Obj}{n:String}{vs:Array Value}{Q:Unit->Shared->Prop}(ho:s.heap.get? it=some o)(hc:o.cls=.type n)(hd:o.data=.fields vs)
 (hn:["enumerate","zip","dict_itemiterator","dict_reverseitemiterator","odict_iterator","itertools.zip_longest","itertools.pairwise"].contains n=false) (hQ:Q Unit.unit s):wpAny M A (letOwnedTupleGo tg (.ref it) u) Q E s:=by
 unfold letOwnedTupleGo;cases tg<;>first
  |exact aU hQ
  |(cases u<;>first
   |exact aU hQ
   |(refine aG (wpAny_load ho ?_)
     rw[hc,hd];show wpAny M A (if(["enumerate","zip","dict_itemiterator","dict_reverseitemiterator","odict_iterator","itertools.zip_longest","itertools.pairwise"].contains n&&vs[0]?==some (rawInt _))=true then _ else _) Q E s;rw[aF (by intro h;rw[hn,gU]at h;cases h)];exact aU hQ))
def oj(K:W.Frag)(a:Addr):It:=
 ⟨λi H=>∃xs x,dF K H a xs/\xs[i]?=some x,λi H x H'=>H'=H/\∀xs,dF K H a xs->xs[i]?=some x,λi H=>∃xs,dF K H a xs/\xs.length<=i⟩
def WW(K:W.Frag)(a:Addr):It:=
 ⟨λi H=>∃xs x,cW K H a xs/\xs[i]?=some x,λi H x H'=>H'=H/\∀xs,cW K H a xs->xs[i]?=some x,λi H=>∃xs,cW K H a xs/\xs.length<=i⟩
def WX(lo:Int)(n:Nat):It:=⟨λi _=>i<n,λi H x H'=>H'=H/\x=.int (lo+i),λi _=>n<=i⟩
theorem KQ(a it:Addr):MY P w K tg (oj K a) [it] it (λi h=>h.IsListIter it a i) where
 mem:=by simp
 obj:=λi h st b hb=>by
  have e:b=it:=by simpa using hb
  subst e;obtain⟨o,e,c,d⟩:=st;exact⟨o,e,λv z=>by rw[d]at z;cases z⟩
 keep:=λi h h' st k=>st.at λo e=>k it (by simp) o e
 item:=by
  intro X hP hw hK hc i aI s σ H E I hf st hg;subst hP hw hK;obtain⟨xs,x,hq,hx⟩:=hg;obtain⟨its,rv,p,hz⟩:=I.list hq;obtain⟨u,hu,ru⟩:=rv.get hx;obtain⟨f0,f1,f2,f3,f4,f5⟩:=hf it (by simp);refine rS st p.isList (x:=u) (by simpa using hu) λh' cL sb=>?_
  have I1:Inv X aI σ H {s with heap:=h'}:=I.turned (t':=s.toks) (λb o hb e=>(sb.2 b hb).trans e) f0 f1 f3 f4 f5;obtain⟨o,e,c,d⟩:=id cL;exact⟨u,rfl,IF (s:={s with heap:=h'}) e c d (by decide) ⟨x,H,I1,ru,⟨rfl,λys hy=>by rw[I.list_inj hy hq];exact hx⟩,cL,λb hb=>(hf b hb).1⟩⟩
 done:=by
  intro X hP hw hK hc i aI s σ H E I hf st hg;subst hP hw hK;obtain⟨xs,hq,hx⟩:=hg;obtain⟨its,rv,p,hz⟩:=I.list hq;obtain⟨f0,f1,f2,f3,f4,f5⟩:=hf it (by simp);have hl:=rv.length;exact CD (I.ok.hd hc) st p.isList (by simp;lia) λh' eb=>⟨rfl,I.turned (t':=s.toks) (λb o hb e=>eb b o hb e) f0 f1 f3 f4 f5⟩
 self:=λ_ _ _ _ _ st h=>wpAny_pyIter_listiter st h
theorem CL(a it:Addr):MY P w K tg (WW K a) [it] it (λi h=>h.IsTupleIter it a i) where
 mem:=by simp
 obj:=λi h st b hb=>by
  have e:b=it:=by simpa using hb
  subst e;obtain⟨o,e,c,d⟩:=st;exact⟨o,e,λv z=>by rw[d]at z;cases z⟩
 keep:=λi h h' st k=>st.at λo e=>k it (by simp) o e
 item:=by
  intro X hP hw hK hc i aI s σ H E I hf st hg;subst hP hw hK;obtain⟨xs,x,hq,hx⟩:=hg;obtain⟨its,rv,p,hz⟩:=I.tuple hq;obtain⟨u,hu,ru⟩:=rv.get hx;obtain⟨f0,f1,f2,f3,f4,f5⟩:=hf it (by simp);refine wpAny_pyNext_tuple_item st (show s.heap.IsTuple a its.toArray from p) (x:=u) (by simpa using hu) λh' cL sb=>?_
  have I1:Inv X aI σ H {s with heap:=h'}:=I.turned (t':=s.toks) (λb o hb e=>(sb.2 b hb).trans e) f0 f1 f3 f4 f5;obtain⟨o,e,c,d⟩:=id cL;exact⟨u,rfl,IF (s:={s with heap:=h'}) e c d (by decide) ⟨x,H,I1,ru,⟨rfl,λys hy=>by rw[I.tuple_inj hy hq];exact hx⟩,cL,λb hb=>(hf b hb).1⟩⟩
 done:=by
  intro X hP hw hK hc i aI s σ H E I hf st hg;subst hP hw hK;obtain⟨xs,hq,hx⟩:=hg;obtain⟨its,rv,p,hz⟩:=I.tuple hq;obtain⟨f0,f1,f2,f3,f4,f5⟩:=hf it (by simp);have hl:=rv.length;exact wpAny_pyNext_tuple_end (I.ok.hd hc) st (show s.heap.IsTuple a its.toArray from p) (by simp;lia) λh' eb=>⟨rfl,I.turned (t':=s.toks) (λb o hb e=>eb b o hb e) f0 f1 f3 f4 f5⟩
 self:=λ_ _ _ _ _ st h=>wpAny_pyIter_tupleiter st h
theorem CM(it:Addr)(lo:Int)(n:Nat):MY P w K tg (WX lo n) [it] it (λi h=>IsRangeIter h it (lo+(i:Nat)*1) ((n:Int)-(i:Nat)) 1) where
 mem:=by simp
 obj:=λi h st b hb=>by
  have e:b=it:=by simpa using hb
  subst e;exact⟨_,st,λv z=>by
   have z':Data.fields _=Data.cell v:=z;cases z'⟩
 keep:=λi h h' st k=>k it (by simp) _ st
 item:=by
  intro X hP hw hK hc i aI s σ H E I hf st hg;subst hP hw hK;obtain⟨f0,f1,f2,f3,f4,f5⟩:=hf it (by simp);have W:=Walks.range (prog:=X.prog) (w:=X.w) (I.ok.hd hc) it lo 1 n;refine W.item i s _ _ hg st λv h' tk hv cL kk=>?_
  obtain⟨t,rfl⟩:=hv;have I1:Inv X aI σ H {s with heap:=h',toks:=tk}:=I.turned (λb o hb e=>kk b o (by simpa using hb) e) f0 f1 f3 f4 f5;refine⟨_,rfl,IF (s:={s with heap:=h',toks:=tk}) (n:="range_iterator") cL rfl rfl (by decide) ⟨.int (lo+i),H,I1,⟨t,?_⟩,⟨rfl,rfl⟩,cL,λb hb=>(hf b hb).1⟩⟩;rw[Int.mul_one]
 done:=by
  intro X hP hw hK hc i aI s σ H E I hf st hg;subst hP hw hK;obtain⟨f0,f1,f2,f3,f4,f5⟩:=hf it (by simp);exact wpAny_pyNext_range_end (I.ok.hd hc) st (by have :n<=i:=hg;lia) λh' eb=>⟨rfl,I.turned (t':=s.toks) (λb o hb e=>eb b o hb e) f0 f1 f3 f4 f5⟩
 self:=λ_ _ _ _ _ st h=>wpAny_pyIter_rangeiter st h
def im(K:W.Frag)(tl:TE):TI:=λσ H R=>tl σ H λx H1=>mI x λa=>(∃xs,dF K H1 a xs)/\R (oj K a) H1
def iTup(K:W.Frag)(tl:TE):TI:=λσ H R=>tl σ H λx H1=>mI x λa=>(∃xs,cW K H1 a xs)/\R (WW K a) H1
theorem yV{l:Expr}{tl:TE}(hl:PE X l tl):PI X tg l (im X.K tl):=by
 intro aI s σ H R I h;refine eK (hl aI s σ H _ I h) λv s1 ⟨x,H1,I1,r1,q1⟩=>?_
 replace q1:=xS q1;obtain⟨a,e,⟨xs,hq⟩,q⟩:=q1;subst e;cases r1;obtain⟨its,rv,p,hz⟩:=I1.list hq;refine pT p.isList ?_;refine⟨s1.heap.objs.size,[s1.heap.objs.size],_,_,H1,rfl,I1.kept (t':=s1.toks) λb o e=>aS _ e,KQ a _,⟨_,bQ _ rfl,rfl,rfl⟩,λb hb=>?_,q⟩;have e:b=s1.heap.objs.size:=by simpa using hb
 subst e;exact I1.fpOk (aJ _) (I1.hok.fresh (aJ _))
theorem qQ{l:Expr}{tl:TE}(hl:PE X l tl):PI X tg l (iTup X.K tl):=by
 intro aI s σ H R I h;refine eK (hl aI s σ H _ I h) λv s1 ⟨x,H1,I1,r1,q1⟩=>?_
 replace q1:=xS q1;obtain⟨a,e,⟨xs,hq⟩,q⟩:=q1;subst e;cases r1;obtain⟨its,rv,p,hz⟩:=I1.tuple hq;refine wpAny_pyIter_tuple (show s1.heap.IsTuple a its.toArray from p) ?_;refine⟨s1.heap.objs.size,[s1.heap.objs.size],_,_,H1,rfl,I1.kept (t':=s1.toks) λb o e=>aS _ e,CL a _,⟨_,bQ _ rfl,rfl,rfl⟩,λb hb=>?_,q⟩;have e:b=s1.heap.objs.size:=by simpa using hb
 subst e;exact I1.fpOk (aJ _) (I1.hok.fresh (aJ _))
theorem PU{R:It->Hp->Prop}{lo hi:Int}{t u v:Tok}{tk:Nat}(I:Inv X aI σ H s)(h1: -(2^62)<=lo)(h2:lo<2^62)(h3: -(2^62)<=hi)(h4:hi<2^62)
 (q:R (WX lo (hi-lo).toNat) H):wpAny (model X.prog X.w) X.A (pyIter (.ref s.heap.objs.size)) (PIE X aI σ tg R) E {s with heap:=s.heap.push {cls:=.type "range",data:=.fields #[.int lo t,.int hi u,.int 1 v]},toks:=tk}:=by
 refine wpAny_pyIter_range (IsRange.new ..) (small_one h1 h2 h3 h4) ?_;have I1:Inv X aI σ H {s with heap:=s.heap.push {cls:=.type "range",data:=.fields #[.int lo t,.int hi u,.int 1 v]},toks:=tk}:=I.kept λb o e=>aS _ e
 refine⟨(s.heap.push {cls:=.type "range",data:=.fields #[.int lo t,.int hi u,.int 1 v]}).objs.size,[(s.heap.push {cls:=.type "range",data:=.fields #[.int lo t,.int hi u,.int 1 v]}).objs.size],_,_,H,rfl,
  I1.kept (t':=tk) λb o e=>aS _ e,CM _ lo (hi-lo).toNat,?_,λb hb=>?_,q⟩
 ·have e1:lo+((0:Nat):Int)*1=lo:=by simp
  have e2:(((hi-lo).toNat:Nat):Int)-((0:Nat):Int)=Builtin.Range.rangeSize lo hi 1:=by rw[rangeSize_one];split<;>lia
  show IsRangeIter _ _ (lo+((0:Nat):Int)*1) ((((hi-lo).toNat:Nat):Int)-((0:Nat):Int)) 1;rw[e1,e2];exact bQ _ rfl
 ·have e:b=(s.heap.push {cls:=.type "range",data:=.fields #[.int lo t,.int hi u,.int 1 v]}).objs.size:=by simpa using hb
  subst e;exact I1.fpOk (aJ _) (I1.hok.fresh (aJ _))
def iRng1(ta:TA):TI:=λσ H R=>ta σ H λvs H1=>pI vs λx=>rN x λj=> -(2^62)<=j/\j<2^62/\R (WX 0 j.toNat) H1
def iRng2(ta:TA):TI:=λσ H R=>ta σ H λvs H1=>WU vs λx y=>rN x λi=>rN y λj=>(-(2^62)<=i/\i<2^62/\ -(2^62)<=j/\j<2^62)/\R (WX i (j-i).toNat) H1
theorem xY{a:Expr}{ta:TA}{pos:Pos}(hg:Gl X "range")(hm:X.mg "range"=none)(ha:PA X [a] ta)(hs:starEach [a] X.env=[(false,eval a X.env)]:=by rfl):PI X tg (.Call (.Name "range" p) [a] [] pos) (iRng1 ta):=by
 intro aI s σ H R I h;refine Call_ (wS I hg hm boot_range (fU (eK (ha pos aI s σ H _ I h) λus s1 ⟨vs,H1,I1,r1,q1⟩=>?_) hs rfl));replace q1:=ZY q1;obtain⟨x,e,q1⟩:=q1;replace q1:=uC q1;obtain⟨j,rfl,q1,q2,q⟩:=q1;subst e;cases r1 with
 |cons r rr=>
  cases rr;obtain⟨t,rfl⟩:=r;exact call_range_1 (PU I1 () () q1 q2 (by simpa using q))
def tFor(wi:TI)(g:TG)(tb:TS):TS:=λD σ H=>wi σ H λJ H1=>∃W:Nat->Nat->St->Hp->Prop,(∃m,W 0 m σ H1)/\∀i m σ H,W i m σ H->
 (J.stop i H/\D.nx σ H)\/(J.go i H/\∃N:St->Hp->Prop,(∀σ' H',N σ' H'->∃m',m'<m/\W (i+1) m' σ' H')/\∀x H',J.yld i H x H'->g x σ H' λσ2 H2=>tb {D with nx:=N,ct:=N,bk:=D.nx} σ2 H2)
def uK(fp:List Addr)(h:Heap):List (Addr×Obj):=fp.filterMap λb=>(h.get? b).map λo=>(b,o)
theorem qA{o:Obj}(hb:b∈fp)(e:h.get? b=some o):(b,o)∈uK fp h:=CF.mpr ⟨b,hb,by rw[e];rfl⟩
theorem QB{p:Addr×Obj}(hp:p∈uK fp h):p.1∈fp/\h.get? p.1=some p.2:=by
 obtain⟨b,hb,e⟩:=CF.mp hp;cases q:h.get? b with
 |none=>rw[q]at e;cases e
 |some o=>
  rw[q]at e;have e':(b,o)=p:=bR e;subst e';exact⟨hb,q⟩
theorem Inv.pinned(I:Inv X aI σ H s)(hf:∀b∈fp,JL X aI H b)(ho:∀b∈fp,∃o,s.heap.get? b=some o/\∀v,o.data≠.cell v):Inv X (aI++uK fp s.heap) σ H s:=
 I.pins_of λp hp=>(bX.mp hp).elim (λz=>I.pin p (bE _ z)) λz=>by
  obtain⟨hb,e⟩:=QB z;obtain⟨f0,f1,f2,_⟩:=hf p.1 hb;obtain⟨o,e',d⟩:=ho p.1 hb;rw[e]at e';cases e';exact⟨e,f0,f1,f2,d⟩
theorem Inv.unpinned{pl:List (Addr×Obj)}(I:Inv X (aI++pl) σ H s):Inv X aI σ H s:=I.pins_of λp hp=>I.pin p (bE _ (bS _ hp))
theorem yP{body:List Stmt}{g:TG}{pos:Pos}(hp:PassesOwn (model X.prog X.w) X.A X.env X.xe)(hc:X.calm=true)(hi:PI X tg iter wi)(hg:PG X tg g)(hb:FG X body tb)
 (hs:∀x,foldedSetIterable iter X.env x=pure x:=by intro _;rfl):PS X (.For tg iter body [] pos) (tFor wi g tb):=by
 intro aI s σ H D I h;refine wpAny_For (eK (hi aI s σ H _ I h) λv s1 h1=>eK h1 λitv s2 h2=>?_) hs;obtain⟨it,fp,tn,J,H2,e,I2,T,st2,f2,W,⟨m0,w0⟩,turn⟩:=h2;subst e;have stat:∀{H':Hp},(∀b∈fp,H' b=none)->∀b∈fp,JL X aI H' b:=λhn b hb=>⟨hn b hb,(f2 b hb).2⟩
 refine codeAny_forLoop_any (λn s'=>∃i σ' H',Inv X aI σ' H' s'/\tn i s'.heap/\(∀b∈fp,H' b=none)/\W i n σ' H') ?_ m0 ⟨0,σ,H2,I2,st2,λb hb=>(f2 b hb).1,w0⟩;rintro n s3 ⟨i,σ3,H3,I3,st3,fr3,w3⟩;rcases turn i n σ3 H3 w3 with⟨stop,qn⟩ |⟨go,N,hN,step⟩
 ·refine iH hp (eK (T.done X rfl rfl rfl hc i aI s3 σ3 H3 X.xe I3 (stat fr3) st3 stop) λr s4 ⟨hr,I4⟩=>?_);subst hr;exact sC ⟨σ3,H3,I4,qn⟩
 ·refine iH hp (eK (T.item X rfl rfl rfl hc i aI s3 σ3 H3 X.xe I3 (stat fr3) st3 go) λr s4 ⟨u,hr,h4⟩=>?_);subst hr;refine iH hp (eK h4 λ_ s5 ⟨x,H5,I5,r5,y5,st5,fr5⟩=>?_);have I5':=I5.pinned (stat fr5) (T.obj _ _ st5);refine iH hp (eK (hg _ s5 σ3 H5 x u _ I5' r5 (step x H5 y5)) λ_ s6 ⟨σ6,H6,I6,q6⟩=>?_);refine iH hp (eK (hb _ s6 σ6 H6 _ I6 q6) λf s7 q7=>?_);have again:∀{σ7:St}{H7:Hp},Inv X (aI++uK fp s5.heap) σ7 H7 s7->N σ7 H7->∃m,m<n/\∃i σ' H',Inv X aI σ' H' s7/\tn i s7.heap/\(∀b∈fp,H' b=none)/\W i m σ' H':=λ{σ7 H7} I7 n7=>by
   obtain⟨m',hm,w7⟩:=hN σ7 H7 n7;refine⟨m',hm,i+1,σ7,H7,I7.unpinned,T.keep _ _ _ st5 λb hb o e=>(I7.pin (b,o) (bE _ (bE _ (qA hb e)))).1,λb hb=>?_,w7⟩;obtain⟨o,e,d⟩:=T.obj _ _ st5 b hb;exact(I7.pin (b,o) (bE _ (bE _ (qA hb e)))).2.1
  cases f with
  |next=>obtain⟨σ7,H7,I7,n7⟩:=q7;exact again I7 n7
  |cont=>obtain⟨σ7,H7,I7,n7⟩:=q7;exact again I7 n7
  |brk=>obtain⟨σ7,H7,I7,q7⟩:=q7;exact⟨σ7,H7,I7.unpinned,q7⟩
  |ret v=>obtain⟨x7,σ7,H7,I7,r7,q7⟩:=q7;exact⟨x7,σ7,H7,I7.unpinned,r7,q7⟩
theorem VG{g:TG}(Pv:Nat->St->Hp->Prop)(h0:Pv 0 σ H)(hl:∀i σ H,i<=xs.length->Pv i σ H->dF K H a xs)
 (hs:∀i x σ H,xs[i]?=some x->Pv i σ H->g x σ H λσ2 H2=>tb {D with nx:=Pv (i+1),ct:=Pv (i+1),bk:=D.nx} σ2 H2) (hd:∀σ H,Pv xs.length σ H->D.nx σ H):
 ∃W:Nat->Nat->St->Hp->Prop,(∃m,W 0 m σ H)/\∀i m σ H,W i m σ H->
  ((oj K a).stop i H/\D.nx σ H)\/((oj K a).go i H/\∃N:St->Hp->Prop,(∀σ' H',N σ' H'->∃m',m'<m/\W (i+1) m' σ' H')/\∀x H',(oj K a).yld i H x H'->g x σ H' λσ2 H2=>tb {D with nx:=N,ct:=N,bk:=D.nx} σ2 H2):=by
 refine⟨λi m σ H=>m=xs.length-i/\i<=xs.length/\Pv i σ H,⟨xs.length,by simp,cO _,h0⟩,?_⟩;rintro i m σ H ⟨rfl,hi,p⟩;have q:=hl i σ H hi p;by_cases lW:i<xs.length
 ·refine .inr ⟨⟨xs,xs[i],q,by simp[lW]⟩,Pv (i+1),λσ' H' p'=>⟨xs.length-(i+1),(),rfl,lW,p'⟩,λx H' y=>?_⟩;obtain⟨e,y⟩:=y;subst e;exact hs i x σ _ (y xs q) p
 ·have e:i=xs.length:=by lia
  subst e;exact .inl ⟨⟨xs,q,aJ _⟩,hd σ H p⟩
theorem IK{g:TG}(Pv:Nat->St->Hp->Prop)(h0:Pv 0 σ H)(hl:∀i σ H,i<=xs.length->Pv i σ H->cW K H a xs)
 (hs:∀i x σ H,xs[i]?=some x->Pv i σ H->g x σ H λσ2 H2=>tb {D with nx:=Pv (i+1),ct:=Pv (i+1),bk:=D.nx} σ2 H2) (hd:∀σ H,Pv xs.length σ H->D.nx σ H):
 ∃W:Nat->Nat->St->Hp->Prop,(∃m,W 0 m σ H)/\∀i m σ H,W i m σ H->
  ((WW K a).stop i H/\D.nx σ H)\/((WW K a).go i H/\∃N:St->Hp->Prop,(∀σ' H',N σ' H'->∃m',m'<m/\W (i+1) m' σ' H')/\∀x H',(WW K a).yld i H x H'->g x σ H' λσ2 H2=>tb {D with nx:=N,ct:=N,bk:=D.nx} σ2 H2):=by
 refine⟨λi m σ H=>m=xs.length-i/\i<=xs.length/\Pv i σ H,⟨xs.length,by simp,cO _,h0⟩,?_⟩;rintro i m σ H ⟨rfl,hi,p⟩;have q:=hl i σ H hi p;by_cases lW:i<xs.length
 ·refine .inr ⟨⟨xs,xs[i],q,by simp[lW]⟩,Pv (i+1),λσ' H' p'=>⟨xs.length-(i+1),(),rfl,lW,p'⟩,λx H' y=>?_⟩;obtain⟨e,y⟩:=y;subst e;exact hs i x σ _ (y xs q) p
 ·have e:i=xs.length:=by lia
  subst e;exact .inl ⟨⟨xs,q,aJ _⟩,hd σ H p⟩
theorem QI{lo:Int}{g:TG}(Pv:Nat->St->Hp->Prop)(h0:Pv 0 σ H)
 (hs:∀i σ H,i<n->Pv i σ H->g (.int (lo+i)) σ H λσ2 H2=>tb {D with nx:=Pv (i+1),ct:=Pv (i+1),bk:=D.nx} σ2 H2) (hd:∀σ H,Pv n σ H->D.nx σ H):
 ∃W:Nat->Nat->St->Hp->Prop,(∃m,W 0 m σ H)/\∀i m σ H,W i m σ H->
  ((WX lo n).stop i H/\D.nx σ H)\/((WX lo n).go i H/\∃N:St->Hp->Prop,(∀σ' H',N σ' H'->∃m',m'<m/\W (i+1) m' σ' H')/\∀x H',(WX lo n).yld i H x H'->g x σ H' λσ2 H2=>tb {D with nx:=N,ct:=N,bk:=D.nx} σ2 H2):=by
 refine⟨λi m σ H=>m=n-i/\i<=n/\Pv i σ H,⟨n,by simp,cO _,h0⟩,?_⟩;rintro i m σ H ⟨rfl,hi,p⟩;by_cases lW:i<n
 ·refine .inr ⟨lW,Pv (i+1),λσ' H' p'=>⟨n-(i+1),(),rfl,lW,p'⟩,λx H' y=>?_⟩;obtain⟨e,y⟩:=y;subst e y;exact hs i σ _ lW p
 ·have e:i=n:=by lia
  subst e;exact .inl ⟨aJ _,hd σ H p⟩
abbrev R2:=V->V->Hp->VK->Prop
def nN(X:Cx)(f:Value->Value->Sem Value)(r:R2):Prop:=
 ∀(aI:List (Addr×Obj)) (s:Shared) (σ:St) (H:Hp) (x y:V) (v u:Value) (Q:VK),Inv X aI σ H s->RelV x v->RelV y u->r x y H Q->
  wpAny (model X.prog X.w) X.A (f v u) (EP X aI σ Q) X.xe s
def UnR(X:Cx)(f:Value->Sem Value)(r:V->Hp->VK->Prop):Prop:=
 ∀(aI:List (Addr×Obj)) (s:Shared) (σ:St) (H:Hp) (x:V) (v:Value) (Q:VK),Inv X aI σ H s->RelV x v->r x H Q->
  wpAny (model X.prog X.w) X.A (f v) (EP X aI σ Q) X.xe s
def uA(X:Cx)(f:Value)(r:List V->Hp->VK->Prop):Prop:=
 ∀(aI:List (Addr×Obj)) (s:Shared) (σ:St) (H:Hp) (xs:List V) (us:List Value) (Q:VK),Inv X aI σ H s->cV xs us->r xs H Q->
  wpAny (model X.prog X.w) X.A (call f us) (EP X aI σ Q) X.xe s
def TruR(X:Cx)(r:V->Hp->(Bool->Hp->Prop)->Prop):Prop:=
 ∀(aI:List (Addr×Obj)) (s:Shared) (σ:St) (H:Hp) (x:V) (v:Value) (Q:Bool->Hp->Prop),Inv X aI σ H s->RelV x v->r x H Q->
  wpAny (model X.prog X.w) X.A (truthy v) (TP X aI σ Q) X.xe s
def ap(r:R2)(ta tb:TE):TE:=λσ H Q=>ta σ H λx H1=>tb σ H1 λy H2=>r x y H2 Q
def tUn(r:V->Hp->VK->Prop)(ta:TE):TE:=λσ H Q=>ta σ H λx H1=>r x H1 Q
def rI(C:Int->Int->Prop)(g:Int->Int->V):R2:=λx y H Q=>rN x λi=>rN y λj=>C i j/\Q (g i j) H
def WR(g:Int->Int->V):R2:=λx y H Q=>rN x λi=>rN y λj=>Q (g i j) H
def rU(g:Int->V):V->Hp->VK->Prop:=λx H Q=>rN x λi=>Q (g i) H
section
variable {a b c:Expr} {tb tc:TE} {pos:Pos}
theorem nw(ha:PE X a ta)(hb:PE X b tb){R:V->V->Hp->Prop}(I:Inv X aI σ H s)
 (h:ta σ H λx H1=>tb σ H1 λy H2=>R x y H2) {f:Value->Value->Sem Value}
 (hf:∀v u s2 x y H2,Inv X aI σ H2 s2->RelV x v->RelV y u->R x y H2->wpAny (model X.prog X.w) X.A (f v u) Q X.xe s2):
 wpAny (model X.prog X.w) X.A (eval a X.env) (λv s₁=>wpAny (model X.prog X.w) X.A (eval b X.env) (λu s₂=>wpAny (model X.prog X.w) X.A (f v u) Q X.xe s₂) X.xe s₁) X.xe s:=by
 refine eK (ha aI s σ H _ I h) λv s1 ⟨x,H1,I1,r1,q1⟩=>?_
 refine eK (hb aI s1 σ H1 _ I1 q1) λu s2 ⟨y,H2,I2,r2,q2⟩=>?_
 exact hf v u s2 x y H2 I2 r1 r2 q2
theorem zU{op:Operator}{r:R2}(ho:nN X (binaryOp op) r)(ha:PE X a ta)(hb:PE X b tb):PE X (.BinOp a op b pos) (ap r ta tb):=by
 intro aI s σ H Q I h;exact wpAny_BinOp (nw ha hb I h λv u s2 x y H2 I2 rx ry q=>ho aI s2 σ H2 x y v u Q I2 rx ry q)
theorem XJ{op:UnaryOp}{r:V->Hp->VK->Prop}(ho:UnR X (unaryOp op) r)(ha:PE X a ta):PE X (.UnaryOp op a pos) (tUn r ta):=by
 intro aI s σ H Q I h;exact UnaryOp_ (eK (ha aI s σ H _ I h) λv s1 ⟨x,H1,I1,r1,q1⟩=>ho aI s1 σ H1 x v Q I1 r1 q1)
theorem opI{f:Value->Value->Sem Value}{C:Int->Int->Prop}{g:Int->Int->Int}
 (rule:∀(i j:Int)(t u:Tok)(s:Shared)(Q:Value->Shared->Prop)(E:Value->Shared->Prop),C i j->Q (.int (g i j) s.toks) {s with toks:=s.toks+1}->wpAny (model X.prog X.w) X.A (f (.int i t) (.int j u)) Q E s):
 nN X f (rI C λi j=>.int (g i j)):=by
 intro aI s σ H x y v u Q I rx ry h;replace h:=uC h;obtain⟨i,rfl,h⟩:=h;replace h:=uC h;obtain⟨j,rfl,hc,q⟩:=h;obtain⟨t,rfl⟩:=rx;obtain⟨t',rfl⟩:=ry;exact rule i j t t' s _ _ hc ⟨.int (g i j),H,I.tok _,⟨_,rfl⟩,q⟩
theorem de{f:Value->Value->Sem Value}{g:Int->Int->Int}
 (rule:∀(i j:Int)(t u:Tok)(s:Shared)(Q:Value->Shared->Prop)(E:Value->Shared->Prop),Q (.int (g i j) s.toks) {s with toks:=s.toks+1}->wpAny (model X.prog X.w) X.A (f (.int i t) (.int j u)) Q E s):
 nN X f (WR λi j=>.int (g i j)):=by
 intro aI s σ H x y v u Q I rx ry h;replace h:=uC h;obtain⟨i,rfl,h⟩:=h;replace h:=uC h;obtain⟨j,rfl,q⟩:=h;obtain⟨t,rfl⟩:=rx;obtain⟨t',rfl⟩:=ry;exact rule i j t t' s _ _ ⟨.int (g i j),H,I.tok _,⟨_,rfl⟩,q⟩
theorem df{f:Value->Value->Sem Value}{g:Int->Int->Bool}
 (rule:∀(i j:Int)(t u:Tok)(s:Shared)(Q:Value->Shared->Prop)(E:Value->Shared->Prop),Q (.bool (g i j)) s->wpAny (model X.prog X.w) X.A (f (.int i t) (.int j u)) Q E s):
 nN X f (WR λi j=>.bl (g i j)):=by
 intro aI s σ H x y v u Q I rx ry h;replace h:=uC h;obtain⟨i,rfl,h⟩:=h;replace h:=uC h;obtain⟨j,rfl,q⟩:=h;obtain⟨t,rfl⟩:=rx;obtain⟨t',rfl⟩:=ry;exact rule i j t t' s _ _ ⟨.bl (g i j),H,I,rfl,q⟩
def CDiv(i j:Int):Prop:=0<j/\j<1073741824
def CPow(i j:Int):Prop:=0<=j/\j<=1000000/\i.natAbs<2^64
def oy(i j:Int):Prop:=(-(2^64)<i/\i<2^64)\/(-(2^64)<j/\j<2^64)
theorem oy.ok{i j:Int}(h:oy i j):IntMulOk i j:=by
 rcases h with⟨h1,h2⟩ |⟨h1,h2⟩
 ·exact .of_left (intBits_le_64 h1 h2)
 ·exact .of_right (intBits_le_64 h1 h2)
theorem qT:nN X (binaryOp .Add) (WR λi j=>.int (i+j)):=de λ_ _ _ _ _ _ _ q=>add_int q
theorem RU:nN X (binaryOp .Sub) (WR λi j=>.int (i-j)):=de λ_ _ _ _ _ _ _ q=>sub_int q
theorem xP:nN X (binaryOp .Mult) (rI oy λi j=>.int (i*j)):=opI λ_ _ _ _ _ _ _ hc q=>mul_int q hc.ok
theorem jS:nN X (binaryOp .FloorDiv) (rI CDiv λi j=>.int (i/j)):=opI λi j _ _ _ _ _ hc q=>by
 have h1:(0:Int)<j:=hc.1;have h2:j<1073741824:=hc.2;exact floordiv_int () (by rw[Int.fdiv_eq_ediv_of_nonneg i ()];exact q) (.inl (PyProof.noPylong_small ()))
theorem xC:nN X (binaryOp .Mod) (rI (λ_ j=>0<j) λi j=>.int (i % j)):=opI λi j _ _ _ _ _ hc q=>by
 have h1:(0:Int)<j:=hc;exact mod_int' () (by rw[Int.fmod_eq_emod_of_nonneg i ()];exact q)
theorem DI:nN X (binaryOp .Pow) (rI CPow λi j=>.int (i^j.toNat)):=opI λ_ _ _ _ _ _ _ hc q=>pow_int_small hc.1 hc.2.1 hc.2.2 q
theorem RV:nN X (binaryOp .LShift) (rI CPow λi j=>.int (i*2^j.toNat)):=opI λ_ _ _ _ _ _ _ hc q=>lshift_int_small hc.1 hc.2.1 hc.2.2 q
theorem DL:nN X (binaryOp .BitAnd) (WR λi j=>.int (Builtin.bitAnd i j)):=de λ_ _ _ _ _ _ _ q=>and_int q
theorem qS:nN X (binaryOp .BitXor) (WR λi j=>.int (Builtin.bitXor i j)):=de λ_ _ _ _ _ _ _ q=>xor_int q
theorem unI{f:Value->Sem Value}{g:Int->Int}
 (rule:∀(i:Int)(t:Tok)(s:Shared)(Q:Value->Shared->Prop)(E:Value->Shared->Prop),Q (.int (g i) s.toks) {s with toks:=s.toks+1}->wpAny (model X.prog X.w) X.A (f (.int i t)) Q E s):
 UnR X f (rU λi=>.int (g i)):=by
 intro aI s σ H x v Q I rx h;replace h:=uC h;obtain⟨i,rfl,q⟩:=h;obtain⟨t,rfl⟩:=rx;exact rule i t s _ _ ⟨.int (g i),H,I.tok _,⟨_,rfl⟩,q⟩
theorem YT:UnR X (unaryOp .USub) (rU λi=>.int (-i)):=unI λ_ _ _ _ _ q=>neg_int q
theorem NY:UnR X (unaryOp .Invert) (rU λi=>.int (Builtin.bitNot i)):=unI λ_ _ _ _ _ q=>invert_int q
end
def scal:V->V->Bool
 | .non,.non=>true | .non,.int _=>true | .int _,.non=>true | .non,.bl _=>true | .bl _,.non=>true | .non,.str _=>true | .str _,.non=>true
 | .int _,.int _=>true | .bl _,.bl _=>true | .str _,.str _=>true | .byt _,.byt _=>true
 | .int _,.str _=>true | .str _,.int _=>true | .bl _,.str _=>true | .str _,.bl _=>true
 |_,_=>false
def rEq:R2:=λx y H Q=>scal x y=true/\Q (.bl (decide (x=y))) H
def rNe:R2:=λx y H Q=>scal x y=true/\Q (.bl (!decide (x=y))) H
theorem IV{i j:Int}:decide (V.int i=V.int j)=(i==j):=by
 rw[cK];simp
theorem VJ{i j:Bool}:decide (V.bl i=V.bl j)=(i==j):=by
 rw[cK];simp
theorem IU{i j:Str}:decide (V.str i=V.str j)=(i==j):=by
 rw[cK];simp
theorem IW{i j:Array UInt8}:decide (V.byt i=V.byt j)=(i.toList==j.toList):=by
 rw[cK];cases i;cases j;simp
section
variable {a b c:Expr} {tb tc:TE} {pos:Pos}
theorem yG{Q:VK}{k k':Bool}(I:Inv X aI σ H s)(q:Q (.bl k) H)(e:k=k'):EP X aI σ Q (.bool k') s:=by
 subst e;exact⟨.bl k,H,I,rfl,q⟩
theorem yE:nN X (compareOp .Eq) rEq:=by
 intro aI s σ H x y v u Q I rx ry h;obtain⟨hs,q⟩:=h;cases x with
 |non=>
  cases rx;cases y with
  |non=>cases ry;exact PySem.EqNone.eq_none_none (yG I q (by simp))
  |bl j=>cases ry;exact PySem.EqNone.eq_none_bool (yG I q (by simp))
  |int j=>obtain⟨t',rfl⟩:=ry;exact PySem.EqNone.eq_none_int (yG I q (by simp))
  |str j=>obtain⟨t',rfl⟩:=ry;exact PySem.EqNone.eq_none_str (yG I q (by simp))
  |_=>exact absurd (show false=true from hs) bL
 |bl i=>
  cases rx;cases y with
  |non=>cases ry;exact PySem.EqNone.eq_bool_none (yG I q (by simp))
  |bl j=>cases ry;exact eq_bool (yG I q VJ)
  |str j=>obtain⟨t',rfl⟩:=ry;exact PySem.EqMixed.eq_bool_str (yG I q (by simp))
  |_=>exact absurd (show false=true from hs) bL
 |int i=>
  obtain⟨t,rfl⟩:=rx;cases y with
  |non=>cases ry;exact PySem.EqNone.eq_int_none (yG I q (by simp))
  |int j=>obtain⟨t',rfl⟩:=ry;exact eq_int (yG I q IV)
  |str j=>obtain⟨t',rfl⟩:=ry;exact PySem.EqMixed.eq_int_str (yG I q (by simp))
  |_=>exact absurd (show false=true from hs) bL
 |str i=>
  obtain⟨t,rfl⟩:=rx;cases y with
  |non=>cases ry;exact PySem.EqNone.eq_str_none (yG I q (by simp))
  |bl j=>cases ry;exact PySem.EqMixed.eq_str_bool (yG I q (by simp))
  |int j=>obtain⟨t',rfl⟩:=ry;exact PySem.EqMixed.eq_str_int (yG I q (by simp))
  |str j=>obtain⟨t',rfl⟩:=ry;exact eq_str (yG I q IU)
  |_=>exact absurd (show false=true from hs) bL
 |byt i=>
  obtain⟨t,rfl⟩:=rx;cases y with
  |byt j=>obtain⟨t',rfl⟩:=ry;exact W.eq_bytes (yG I q IW)
  |_=>exact absurd (show false=true from hs) bL
 |_=>cases y<;>exact absurd (show false=true from hs) bL
theorem QA:nN X (compareOp .NotEq) rNe:=by
 intro aI s σ H x y v u Q I rx ry h;obtain⟨hs,q⟩:=h;cases x with
 |non=>
  cases rx;cases y with
  |non=>cases ry;exact PySem.EqNone.ne_none_none (yG I q (by simp))
  |bl j=>cases ry;exact PySem.EqNone.ne_none_bool (yG I q (by simp))
  |int j=>obtain⟨t',rfl⟩:=ry;exact PySem.EqNone.ne_none_int (yG I q (by simp))
  |str j=>obtain⟨t',rfl⟩:=ry;exact PySem.EqNone.ne_none_str (yG I q (by simp))
  |_=>exact absurd (show false=true from hs) bL
 |bl i=>
  cases rx;cases y with
  |non=>cases ry;exact PySem.EqNone.ne_bool_none (yG I q (by simp))
  |bl j=>cases ry;exact ne_bool (yG I q (cJ not VJ))
  |str j=>obtain⟨t',rfl⟩:=ry;exact PySem.EqMixed.ne_bool_str (yG I q (by simp))
  |_=>exact absurd (show false=true from hs) bL
 |int i=>
  obtain⟨t,rfl⟩:=rx;cases y with
  |non=>cases ry;exact PySem.EqNone.ne_int_none (yG I q (by simp))
  |int j=>obtain⟨t',rfl⟩:=ry;exact ne_int (yG I q (cJ not IV))
  |str j=>obtain⟨t',rfl⟩:=ry;exact PySem.EqMixed.ne_int_str (yG I q (by simp))
  |_=>exact absurd (show false=true from hs) bL
 |str i=>
  obtain⟨t,rfl⟩:=rx;cases y with
  |non=>cases ry;exact PySem.EqNone.ne_str_none (yG I q (by simp))
  |bl j=>cases ry;exact PySem.EqMixed.ne_str_bool (yG I q (by simp))
  |int j=>obtain⟨t',rfl⟩:=ry;exact PySem.EqMixed.ne_str_int (yG I q (by simp))
  |str j=>obtain⟨t',rfl⟩:=ry;exact ne_str (yG I q (cJ not IU))
  |_=>exact absurd (show false=true from hs) bL
 |byt i=>
  obtain⟨t,rfl⟩:=rx;cases y with
  |byt j=>obtain⟨t',rfl⟩:=ry;exact W.ne_bytes (yG I q (cJ not IW))
  |_=>exact absurd (show false=true from hs) bL
 |_=>cases y<;>exact absurd (show false=true from hs) bL
theorem ZK:nN X (compareOp .Lt) (WR λi j=>.bl (decide (i<j))):=df λ_ _ _ _ _ _ _ q=>lt_int q
theorem HJ:nN X (compareOp .LtE) (WR λi j=>.bl (decide (i<=j))):=df λ_ _ _ _ _ _ _ q=>le_int q
theorem op_gt:nN X (compareOp .Gt) (WR λi j=>.bl (decide (j<i))):=df λ_ _ _ _ _ _ _ q=>gt_int q
theorem ig:nN X (compareOp .GtE) (WR λi j=>.bl (decide (j<=i))):=df λ_ _ _ _ _ _ _ q=>ge_int q
theorem DJ:nN X (compareOp .Is) (λx y H Q=>y=.non/\Q (.bl (decide (x=.non))) H):=by
 intro aI s σ H x y v u Q I rx ry h;obtain⟨rfl,q⟩:=h;cases ry;refine is_none_gen (yG I q ?_);cases x<;>first
  |(cases rx;rfl)
  |(obtain⟨t,rfl⟩:=rx;rfl)
theorem cz:nN X (compareOp .IsNot) (λx y H Q=>y=.non/\Q (.bl (!decide (x=.non))) H):=by
 intro aI s σ H x y v u Q I rx ry h;obtain⟨rfl,q⟩:=h;cases ry;refine isnot_none_gen (yG I q ?_);cases x<;>first
  |(cases rx;rfl)
  |(obtain⟨t,rfl⟩:=rx;rfl)
theorem zO(b:Expr)(h:op≠.In:=by decide)(h2:op≠.NotIn:=by decide):behindInMarks op b=false:=by
 have e1:(op==CmpOp.In)=false:=by cases op<;>first |rfl |exact absurd rfl h
 have e2:(op==CmpOp.NotIn)=false:=by cases op<;>first |rfl |exact absurd rfl h2
 cases b<;>simp[behindInMarks,e1,e2]
theorem yM{r:R2}(ho:nN X (compareOp op) r)(ha:PE X a ta)(hb:PE X b tb)(hm:behindInMarks op b=false):PE X (.Compare a [op] [b] pos) (ap r ta tb):=by
 intro aI s σ H Q I h;exact wpAny_Compare1 (nw ha hb I h λv u s2 x y H2 I2 rx ry q=>ho aI s2 σ H2 x y v u Q I2 rx ry q) hm
def tTest(t:TE):TT:=λσ H Q=>t σ H λx H'=>fm x λk=>Q k H'
theorem zQ{r:R2}(ho:nN X (compareOp op) r)(ha:PE X a ta)(hb:PE X b tb)(hm:behindInMarks op b=false):PT X (.Compare a [op] [b] pos) (tTest (ap r ta tb)):=by
 intro aI s σ H Q I h;refine wpAny_isTrue_Compare1 (eK (ha aI s σ H _ I h) λv s1 ⟨x,H1,I1,r1,q1⟩=>eK (hb aI s1 σ H1 _ I1 q1) λu s2 ⟨y,H2,I2,r2,q2⟩=>
  eK (ho aI s2 σ H2 x y v u _ I2 r1 r2 q2) λc s3 ⟨z,H3,I3,r3,q3⟩=>?_) hm
 replace q3:=BW q3;obtain⟨k,rfl,q3⟩:=q3;cases r3;exact fG ⟨H3,I3,q3⟩
def jk(r r':R2)(ta tb tc:TE):TE:=λσ H Q=>ta σ H λx H1=>tb σ H1 λy H2=>r x y H2 λz H3=>fm z λk=>(if k=true then tc σ H3 λw' H4=>r' y w' H4 Q else Q (.bl false) H3)
theorem RQ{op':CmpOp}{r r':R2}(ho:nN X (compareOp op) r)(ho':nN X (compareOp op') r')(ha:PE X a ta)(hb:PE X b tb)(hc:PE X c tc)
 (hm:lastMarks [op,op'] [b,c]=false:=by with_unfolding_all rfl):PE X (.Compare a [op,op'] [b,c] pos) (jk r r' ta tb tc):=by
 intro aI s σ H Q I h;refine Compare_chain (eK (ha aI s σ H _ I h) λv s1 ⟨x,H1,I1,r1,q1⟩=>chain_link (eK (hb aI s1 σ H1 _ I1 q1) λu s2 ⟨y,H2,I2,r2,q2⟩=>
  eK (ho aI s2 σ H2 x y v u _ I2 r1 r2 q2) λd s3 ⟨z,H3,I3,r3,q3⟩=>?_)) hm
 replace q3:=BW q3;obtain⟨k,rfl,q3⟩:=q3;cases r3;refine fG ?_;cases k with
 |false=>exact ite_ff ⟨.bl false,H3,I3,rfl,q3⟩
 |true=>exact ite_tt (chain_last (eK (hc aI s3 σ H3 _ I3 q3) λw' s4 ⟨z',H4,I4,r4,q4⟩=>ho' aI s4 σ H4 y z' u w' Q I4 r2 r4 q4))
def TruV(K:W.Frag)(x:V)(H:Hp)(k:Bool):Prop:=
 match x with
 | .non=>k=false
 | .bl b=>k=b
 | .int i=>k=(i !=0)
 | .str y=>y.length<=sizeLine/\k=((y.length:Int) !=0)
 | .byt y=>y.size<=sizeLine/\k=((y.size:Int) !=0)
 | .ref p=>(∃xs,dF K H p xs/\k=!xs.isEmpty)\/(∃xs,cW K H p xs/\k=!xs.isEmpty)\/∃kvs,H p=some (.dK kvs)/\k=!kvs.isEmpty
 |_=>False
theorem EJ{κ:Type}{kvs:List (κ×V)}{vs:List (κ×Value)}(r:KV kvs vs):(!vs.isEmpty)=!kvs.isEmpty:=by
 cases r<;>rfl
theorem XX(r:cV xs its):(!its.toArray.isEmpty)=!xs.isEmpty:=by
 cases r<;>simp
theorem ZA:(sizeLine:Nat)<2^63:=by rw[eT];decide
theorem jg:TruR X (λx H Q=>∃k,TruV X.K x H k/\Q k H):=by
 intro aI s σ H x v Q I rx h;obtain⟨k,e,q⟩:=h;have hl:=ZA;have hs:sizeLine=16777216:=eT;cases x with
 |non=>
  cases rx;have e':k=false:=e;subst e';exact truthy_none ⟨H,I,q⟩
 |bl b=>
  cases rx;have e':k=b:=e;subst e';exact fG ⟨H,I,q⟩
 |int i=>
  obtain⟨t,rfl⟩:=rx;have e':k=(i !=0):=e;subst e';exact PySem.P.truthy_int ⟨H,I,q⟩
 |str y=>
  obtain⟨t,rfl⟩:=rx;obtain⟨hy,e'⟩:y.length<=sizeLine/\k=((y.length:Int) !=0):=e;subst e';exact PySem.P.truthy_str () ⟨H,I.tok _,q⟩
 |byt y=>
  obtain⟨t,rfl⟩:=rx;obtain⟨hy,e'⟩:y.size<=sizeLine/\k=((y.size:Int) !=0):=e;subst e';exact W.truthy_bytes () ⟨H,I.tok _,q⟩
 |ref p=>
  cases rx;have e':(∃xs,dF X.K H p xs/\k=!xs.isEmpty)\/(∃xs,cW X.K H p xs/\k=!xs.isEmpty)\/∃kvs,H p=some (.dK kvs)/\k=!kvs.isEmpty:=e;rcases e' with⟨xs,hx,e'⟩ |⟨xs,hx,e'⟩ |⟨kvs,hx,e'⟩
  ·subst e';obtain⟨its,r,pl,hz⟩:=I.list hx;have fA:=r.length;exact wpAny_truthy_list pl.isList (by simp only[aL];lia) ⟨H,I.tok _,by rw[XX r];exact q⟩
  ·subst e';obtain⟨its,r,pl,hz⟩:=I.tuple hx;have fA:=r.length;exact truthy_tuple pl (by simp only[aL];lia) ⟨H,I.tok _,by rw[XX r];exact q⟩
  ·subst e';obtain⟨hz,hS,vs,r,m⟩:kvs.length<=sizeLine/\(p==sysModules)=false/\∃vs,KV kvs vs/\s.heap.DictOf (yC X.prog X.w) p vs:=I.hok p _ hx;have fA:kvs.length=vs.length:=fQ r;exact wpAny_truthy_dict hS m () ⟨H,I.tok _,by rw[EJ r];exact q⟩
 |_=>exact(show False from e).elim
theorem PY(ha:PE X a ta)(he:∀whole,isTrue a X.env whole=(do let v ←whole;standAt a.pos;holding [v] (truthy v))):
 PT X a (λσ H Q=>ta σ H λx H'=>∃k,TruV X.K x H' k/\Q k H'):=by
 intro aI s σ H Q I h;exact isTrue_plain (eK (ha aI s σ H _ I h) λv s1 ⟨x,H1,I1,r1,q1⟩=>jg aI s1 σ H1 x v Q I1 r1 q1) (he _)
theorem DM:nN X (binaryOp .Add) (λx y H Q=>∃i j,x=.str i/\y=.str j/\i.length+j.length<=sizeLine/\Q (.str (i++j)) H):=by
 intro aI s σ H x y v u Q I rx ry h;obtain⟨i,j,rfl,rfl,hz,q⟩:=h;obtain⟨t,rfl⟩:=rx;obtain⟨t',rfl⟩:=ry;exact add_str (λt' tk=>⟨.str (i++j),H,I.tok _,⟨_,rfl⟩,q⟩) hz
theorem vA{x:V}(r:cV [x] us):∃u,us=[u]/\RelV x u:=by
 cases r with
 |cons r1 r2=>cases r2;exact⟨_,rfl,r1⟩
theorem vals2{x:V}(r:cV [x,y] us):∃u w',us=[u,w']/\RelV x u/\RelV y w':=by
 cases r with
 |cons r1 r2=>
  cases r2 with
  |cons r3 r4=>cases r4;exact⟨_,_,rfl,r1,r3⟩
def oh(K:W.Frag)(x:V)(H:Hp)(n:Nat):Prop:=
 match x with
 | .str y=>y.length<=sizeLine/\n=y.length
 | .byt y=>y.size<=sizeLine/\n=y.size
 | .ref p=>(∃xs,dF K H p xs/\n=xs.length)\/∃xs,cW K H p xs/\n=xs.length
 |_=>False
theorem yA:uA X (.builtin "len") (λxs H Q=>pI xs λx=>∃n,oh X.K x H n/\Q (.int n) H):=by
 intro aI s σ H xs us Q I r h;replace h:=ZY h;obtain⟨x,rfl,n,e,q⟩:=h;obtain⟨u,rfl,rx⟩:=vA r;have hl:=ZA;have hs:sizeLine=16777216:=eT;cases x with
 |str y=>
  obtain⟨t,rfl⟩:=rx;obtain⟨hy,e'⟩:y.length<=sizeLine/\n=y.length:=e;subst e';exact len_str () ⟨.int _,H,I.tok _,⟨_,rfl⟩,q⟩
 |byt y=>
  obtain⟨t,rfl⟩:=rx;obtain⟨hy,e'⟩:y.size<=sizeLine/\n=y.size:=e;subst e';exact W.len_bytes () ⟨.int _,H,I.tok _,⟨_,rfl⟩,q⟩
 |ref p=>
  cases rx;have e':(∃xs,dF X.K H p xs/\n=xs.length)\/∃xs,cW X.K H p xs/\n=xs.length:=e;rcases e' with⟨xs,hx,e'⟩ |⟨xs,hx,e'⟩
  ·subst e';obtain⟨its,r',pl,hz⟩:=I.list hx;have fA:=r'.length;exact Calls.call_len_list pl.isList (by simp only[aL];lia) ⟨.int xs.length,H,I.tok _,⟨_,by simp only[aL];rw[fA]⟩,q⟩
  ·subst e';obtain⟨its,r',pl,hz⟩:=I.tuple hx;have fA:=r'.length;exact len_tuple pl (by simp only[aL];lia) ⟨.int xs.length,H,I.tok _,⟨_,by simp only[aL];rw[fA]⟩,q⟩
 |_=>exact(show False from e).elim
end
structure FH(h:Heap)(x dx C:Addr)(mA:Str->Option Value):Prop where
 obj:h.get? x=some (W.instObj C dx)
 ns:h.Ns1 dx mA
 ne:dx≠x
theorem MG{dx:Addr}(n:h.Ns1 dx mA):∃od,h.get? dx=some od/\∀name,W.lookIn name od=some (mA name):=by
 obtain⟨o,es,ep,ho,hd,hk,_,hm⟩:=n;refine⟨o,ho,λname=>?_⟩;have e:=hm name;unfold nsFind findBy at e;rw[←Array.find?_toList]at e;unfold W.lookIn;rw[hd];dsimp only;split
 ·rename_i y q
  rw[q]at e;exact cJ some e
 ·rename_i q
  rw[q]at e;have a:es.toList.any (·.refKey)=false:=by
   rw[List.any_eq_false];intro y hy;obtain⟨z,t,hkey⟩:=hk y (Array.mem_toList_iff.mp hy);simp[DictEntry.refKey,hkey]
  have a':¬es.toList.any (·.refKey)=true:=by rw[a];exact bL
  rw[aF a'];exact cJ some e
theorem FH.look{x dx C:Addr}(I:FH h x dx C mA):∃od,W.InstAt h x (W.instObj C dx) C (some od)/\∀name,W.lookIn name od=some (mA name):=
 let ⟨od,ho,hl⟩:=MG I.ns
 ⟨od,⟨I.obj,rfl,rfl,ho⟩,hl⟩
section
variable {x dx C:Addr} {name:Str} {v:Value}
theorem eh{expr:Bool}(X:K.In s.heap)(I:FH s.heap x dx C mA)(hg:W.plainGet K C name=true)(hh:W.hasDictIn K C=true)
 (ha:W.findIn K (.ref C) name=some none) (hv:mA name=some v) (hv':W.handedIn v=true) (h:Q v {s with toks:=s.toks+1}):
 wpAny (model prog w) A (getAttr (.ref x) name expr) Q E s:=by
 obtain⟨od,J,hl⟩:=I.look;exact W.get_value X J (rV hg).1 (W.findObj_own hh ha rfl (by rw[hl,hv])) hv' h
theorem TW{pl:Sem Bool}{Q:Value×List Value->Shared->Prop}(X:K.In s.heap)(I:FH s.heap x dx C mA)(hg:W.plainGet K C name=true)
 (hf:W.findIn K (.ref C) name=some (some (.ref f))) (ht:W.isFn K (.ref f)=true) (hv:mA name=none) (h:Q (.ref f,[.ref x]) s):
 wpAny (model prog w) A (getMethod (.ref x) name pl) Q E s:=by
 obtain⟨od,J,hl⟩:=I.look;exact W.method_fn X J (rV hg).1 (rV hg).2 hf (dJ.mp ht) (by show(W.lookIn name od).map (·.isSome)=some false;rw[hl,hv];rfl) h
theorem a9{Q:Unit->Shared->Prop}(X:K.In s.heap)(I:FH s.heap x dx C mA)
 (hs:W.findIn K (.ref C) "__setattr__"=some (some (.builtin "object.__setattr__"))) (hp:W.plainOver K C=true) (ht:W.takerIn K C name=some none) (hh:W.hasDictIn K C=true)
 (hw:PySem.Within mA ns) (hsz:ns.length<=sizeLine)
 (h:∀h',FH h' x dx C (λy=>if y=name then some v else mA y)->Heap.SameBut dx s.heap h'->Q Unit.unit {s with heap:=h',toks:=s.toks+2}):
 wpAny (model prog w) A (setAttr (.ref x) name v) Q E s:=by
 obtain⟨od,J,hl⟩:=I.look;refine W.set_plain X J hs (W.osa_open (s:={s with toks:=s.toks+1}) (r:=none) X J hp ht λb=>?_);obtain⟨cd,hc,hd'⟩:=W.any_some hh;have hx:s.heap.get? x=some ⟨.ref C,some dx,.plain,#[]⟩:=I.obj;refine aG (aU (aG (aG (wpAny_loadPart hx (aG (W.Looks.here (s:={s with toks:=s.toks+1}) (W.looks_clsIn X hc) ?_))))));rw[hd'];refine aU (a:=some dx) (aG (aU (aG ?_)));refine wpAny_nsSet1 (s:={s with toks:=s.toks+1}) I.ns λh' hn2 hs2=>?_
 obtain⟨oD,esD,epD,hoD,hdD,hcD⟩:=hn2.count (PySem.Within.cons name v hw);refine aG (wpAny_lookBehind hoD (by rw[hdD];exact pastItsLine_dict (dI hcD (by rw[bB];lia))) ?_);exact aU (h _ ⟨(hs2.2 _ (cM I.ne)).trans I.obj,hn2,I.ne⟩ hs2)
theorem SW{vs:List Value}(X:K.In s.heap)(hm:W.makesIn K C=true)
 (hi:W.findIn K (.ref C) "__init__"=some (some (.ref f))) (hf:W.typeIn K (.ref f)=some (.type "function"))
 (h:codeAny (model prog w) (A.under (.builtin "type.__call__" ⟨.ref C::vs,kw⟩)) (.call (.ref f) ⟨.ref (s.heap.objs.size+1)::vs,kw⟩) (W.InitBack (s.heap.objs.size+1) R)
  {s with heap:=(s.heap.push W.emptyDict).push (W.instObj C s.heap.objs.size)}):
 codeAny (model prog w) A (.call (.ref C) ⟨vs,kw⟩) R s:=by
 obtain⟨hh,g,d,t,os⟩:=s;exact W.make_core (W.makes_of X hm) (W.looks_findIn X hi) (λself=>W.bind_fn X self hf) (.inl rfl) h
end
def xR(f:Str)(v:V):List (Str×V)->List (Str×V)
 |[]=>[(f,v)]
 |(g,x)::r=>if g=f then(g,v)::r else(g,x)::xR f v r
theorem ZL(f g:Str)(v:V):∀fs:List (Str×V),(xR f v fs).lookup g=if g=f then some v else fs.lookup g
 |[]=>by
  show List.lookup g [(f,v)]=_;by_cases h:g=f
  ·have hb:(g==f)=true:=dJ.mpr h;simp only[List.lookup,hb,aH h]
  ·have hb:(g==f)=false:=dS.mpr h;simp only[List.lookup,hb,aF h]
 |(k,x)::r=>by
  have ih:=ZL f g v r;rw[show xR f v ((k,x)::r)=(if k=f then(k,v)::r else(k,x)::xR f v r)from rfl];by_cases hk:k=f
  ·rw[aH hk];by_cases h:g=k
   ·have hb:(g==k)=true:=dJ.mpr h;simp only[List.lookup,hb,aH (h.trans hk)]
   ·have hb:(g==k)=false:=dS.mpr h;simp only[List.lookup,hb,aF (λe:g=f=>h (e.trans hk.symm))]
  ·rw[aF hk];by_cases h:g=k
   ·have hb:(g==k)=true:=dJ.mpr h;simp only[List.lookup,hb,aF (λe:g=f=>hk (h.symm.trans e))]
   ·have hb:(g==k)=false:=dS.mpr h;simp only[List.lookup,hb];exact ih
theorem ZB(f:Str)(v:V):∀fs:List (Str×V),f∈(xR f v fs).map (·.1)/\∀g,g∈fs.map (·.1)->g∈(xR f v fs).map (·.1)
 |[]=>⟨by simp[xR],λg h=>by simp at h⟩
 |(k,x)::r=>by
  obtain⟨i1,i2⟩:=ZB f v r;rw[show xR f v ((k,x)::r)=(if k=f then(k,v)::r else(k,x)::xR f v r)from rfl];by_cases hk:k=f
  ·rw[aH hk];subst hk;exact⟨by simp,λg h=>by simpa using h⟩
  ·rw[aF hk];refine⟨?_,λg h=>?_⟩
   ·rw[cD];exact aV _ i1
   ·rw[cD]at h⊢;rcases bI.mp h with e |e
    ·exact bI.mpr (.inl e)
    ·exact aV _ (i2 g e)
theorem ZM(f:Str)(v:V):∀fs:List (Str×V),(xR f v fs).length<=fs.length+1
 |[]=>by simp[xR]
 |(k,x)::r=>by
  have ih:=ZM f v r;rw[show xR f v ((k,x)::r)=(if k=f then(k,v)::r else(k,x)::xR f v r)from rfl];by_cases hk:k=f
  ·rw[aH hk,bB,bB];lia
  ·rw[aF hk,bB,bB];lia
theorem lY.some_of{o:Option Value}(r:lY (some v) o):∃u,o=some u/\RelV v u:=by
 cases o with
 |none=>exact(show False from r).elim
 |some u=>exact⟨u,rfl,r⟩
theorem lY.none_of{o:Option Value}(r:lY none o):o=none:=by
 cases o with
 |none=>rfl
 |some u=>exact(show False from r).elim
theorem MM(r:RelV v u):W.handedIn u=true:=by
 cases v with
 |non=>cases (show u=Value.none from r);rfl
 |bl b=>cases (show u=Value.bool b from r);rfl
 |int i=>obtain⟨t,e⟩:=(show∃t,u=Value.int i t from r);cases e;rfl
 |str x=>obtain⟨t,e⟩:=(show∃t,u=Value.str x t from r);cases e;rfl
 |byt b=>obtain⟨t,e⟩:=(show∃t,u=Value.bytes b t from r);cases e;rfl
 |flt b=>obtain⟨t,e⟩:=(show∃t,u=Value.float b t from r);cases e;rfl
 |ref a=>cases (show u=Value.ref a from r);rfl
 |ty n=>cases (show u=Value.type n from r);rfl
section
variable {C dx:Addr} {fs fs':List (Str×V)}
theorem YK(hok:lJ P w H h)(e:H a=some (.ins C dx fs)):∃mA,FH h a dx C mA/\(∀f,lY (fs.lookup f) (mA f))/\PySem.Within mA (fs.map (·.1))/\fs.length<=1000/\H dx=some (.own a):=by
 obtain⟨d,z,ne,ob,mA,n,r,q⟩:=(show fI P w H h a (.ins C dx fs)from hok a _ e)
 exact⟨mA,⟨ob,n,ne⟩,r,q,z,d⟩
end
structure ND(K:W.Frag)(C:Addr):Prop where
 pg:W.plainGet K C Str.empty=true
 hd:W.hasDictIn K C=true
 po:W.plainOver K C=true
 sa:W.findIn K (.ref C) "__setattr__"=some (some (.builtin "object.__setattr__"))
theorem ND.get{C:Addr}(c:ND K C)(f:Str):W.plainGet K C f=true:=c.pg
def iW(K:W.Frag)(C:Addr)(f:Str):Prop:=W.findIn K (.ref C) f=some none
theorem iW.taker{C:Addr}{f:Str}(n:iW K C f):W.takerIn K C f=some none:=by
 unfold W.takerIn;rw[show W.findIn K (.ref C) f=some none from n];rfl
structure Con(K:W.Frag)(C:Addr)(f:Str)(v:V)(u:Value):Prop where
 at_:W.findIn K (.ref C) f=some (some u)
 mH:RelV v u
 get:W.specialIn K u "__get__"=some none
 cp:W.copiedNames.contains f=false
structure FI(K:W.Frag)(C:Addr)(m:Str)(f:Addr):Prop where
 at_:W.findIn K (.ref C) m=some (some (.ref f))
 fn:W.isFn K (.ref f)=true
 kp:W.keepIn K (.ref f)=true
section
variable {C dx:Addr} {fs:List (Str×V)} {f:Str}
theorem EN{b:Bool}(I:Inv X aI σ H s)(e:H a=some (.ins C dx fs))(c:ND X.K C)(n:iW X.K C f)(l:fs.lookup f=some v)
 (h:∀u s',Inv X aI σ H s'->RelV v u->Q u s'):wpAny (model X.prog X.w) A (getAttr (.ref a) f b) Q E s:=by
 obtain⟨mA,O,r,_,_,_⟩:=YK I.hok e;obtain⟨u,hu,ru⟩:=lY.some_of (v:=v) (o:=mA f) (by rw[←l];exact r f);exact eh I.kIn O (c.get f) c.hd n hu (MM ru) (h u _ (I.tok _) ru)
theorem EM{m:Str}{g:Addr}{pl:Sem Bool}{Q:Value×List Value->Shared->Prop}(I:Inv X aI σ H s)(e:H a=some (.ins C dx fs))(c:ND X.K C)(k:FI X.K C m g)(l:fs.lookup m=none)
 (h:Q (.ref g,[.ref a]) s):wpAny (model X.prog X.w) A (getMethod (.ref a) m pl) Q E s:=by
 obtain⟨mA,O,r,_,_,_⟩:=YK I.hok e;have hn:mA m=none:=lY.none_of (by rw[←l];exact r m);exact TW I.kIn O (c.get m) k.at_ k.fn hn h
theorem CV{Q:Unit->Shared->Prop}(I:Inv X aI σ H s)(e:H a=some (.ins C dx fs))(c:ND X.K C)(n:iW X.K C f)(hl:fs.length<1000)(ry:RelV y u)
 (h:∀s',Inv X aI σ (upd H a (.ins C dx (xR f y fs))) s'->Q Unit.unit s'):wpAny (model X.prog X.w) A (setAttr (.ref a) f u) Q E s:=by
 obtain⟨mA,O,r,wi,_,ho⟩:=YK I.hok e;have hz:(fs.map (·.1)).length<=sizeLine:=by rw[aE,eT];lia
 refine a9 I.kIn O c.sa c.po n.taker c.hd wi hz λh' O' sb=>h _ ?_
 have hd:∃o,h'.get? dx=some o:=let ⟨o,_,_,e',_⟩:=O'.ns;⟨o,e'⟩;refine I.write (x:=a) (e:=dx) (by rw[e];exact True.intro) (.inr ho) (λb q hb z=>(sb.2 b hb).trans z) hd ?_;refine⟨by rw[zL O.ne];exact ho,?_,O.ne,O'.obj,_,O'.ns,λg=>?_,λg hg=>?_⟩
 ·have :=ZM f y fs;lia
 ·show lY ((xR f y fs).lookup g) (if g=f then some u else mA g);rw[ZL];by_cases q:g=f
  ·rw[aH q,aH q];exact ry
  ·rw[aF q,aF q];exact r g
 ·by_cases q:g=f
  ·rw[q];exact(ZB f y fs).1
  ·refine(ZB f y fs).2 g (wi g λz=>hg ?_);show(if g=f then some u else mA g)=none;rw[aF q];exact z
theorem Inv.made(I:Inv X aI σ H s):Inv X aI σ (upd (upd H s.heap.objs.size (.own (s.heap.objs.size+1))) (s.heap.objs.size+1) (.ins C s.heap.objs.size []))
 {s with heap:=(s.heap.push W.emptyDict).push (W.instObj C s.heap.objs.size)}:=by
 have e1:(s.heap.push W.emptyDict).get? s.heap.objs.size=some W.emptyDict:=bQ s.heap rfl;have e2:((s.heap.push W.emptyDict).push (W.instObj C s.heap.objs.size)).get? (s.heap.objs.size+1)=some (W.instObj C s.heap.objs.size):=by
  have :=bQ (s.heap.push W.emptyDict) (o:=W.instObj C s.heap.objs.size) rfl;rwa[Heap.size_push]at this
 have e3:(s.heap.push W.emptyDict).Ns s.heap.objs.size (λ_=>none):=⟨W.emptyDict,#[],_,e1,rfl,(λe he=>absurd he (by simp)),λ_=>rfl⟩
 have I1:=I.laid (a:=s.heap.objs.size) (o:=.own (s.heap.objs.size+1)) (h':=s.heap.push W.emptyDict) (t':=s.toks) (λb u q=>aS _ q) (aJ _) ⟨_,e1⟩;refine I1.laid (a:=s.heap.objs.size+1) (o:=.ins C s.heap.objs.size []) (t':=s.toks) (λb u q=>aS _ q) (Nat.le_of_eq (Heap.size_push _ _)) ?_;have ne:s.heap.objs.size≠s.heap.objs.size+1:=cG (NG _);refine⟨by rw[zL ne,zC],cO _,ne,e2,λ_=>none,(Heap.Ns1.of_empty e3).at λo q=>aS _ q,λ_=>True.intro,λy hy=>absurd rfl hy⟩
theorem fj{env:Env}{f:Str}{pos:Pos}(hb:attributeBase e f env (eval e env)=eval e env)
 (h:wpAny (model prog w) A (eval e env) (λo s₁=>wpAny (model prog w) A (getAttr o f true) Q E s₁) E s):wpAny (model prog w) A (eval (.Attribute e f pos) env) Q E s:=
 Attribute_any_ h (by rw[arm_eval_Attribute,hb])
end
def wE(K:W.Frag)(ta:TE)(f:Str):TE:=λσ H Q=>ta σ H λx H1=>mI x λa=>∃C dx fs,H1 a=some (.ins C dx fs)/\ND K C/\iW K C f/\∃v,fs.lookup f=some v/\Q v H1
def PD(K:W.Frag)(ta tv:TE)(f:Str):TS:=λD σ H=>tv σ H λy H1=>ta σ H1 λx H2=>mI x λa=>∃C dx fs,H2 a=some (.ins C dx fs)/\ND K C/\iW K C f/\fs.length<1000/\
 D.nx σ (upd H2 a (.ins C dx (xR f y fs)))
section
variable {value:Expr} {f:Str} {pos tpos:Pos} {tv:TE}
theorem xU(he:PE X e ta)(hb:attributeBase e f X.env (eval e X.env)=eval e X.env):PE X (.Attribute e f pos) (wE X.K ta f):=by
 intro aI s σ H Q I h;refine fj hb (eK (he aI s σ H _ I h) λu s1 ⟨x,H1,I1,rx,q⟩=>?_);replace q:=xS q;obtain⟨a,rfl,C,dx,fs,ea,c,n,v,l,q⟩:=q;obtain rfl:u=Value.ref a:=rx;exact EN I1 ea c n l λu' s2 I2 ru=>⟨v,H1,I2,ru,q⟩
theorem UJ(ha:PE X o ta)(hv:PE X value tv)(hs:swapsWith value (some (.Attribute o f pos')) pos.line X.env=pure false):PS X (.Assign [.Attribute o f pos'] value pos) (PD X.K ta tv f):=by
 intro aI s σ H D I h;refine plainObj_wpAny_Assign_Attribute (eK (hv aI s σ H _ I h) λu s1 ⟨y,H1,I1,ry,q⟩=>eK (ha aI s1 σ H1 _ I1 q) λov s2 ⟨x,H2,I2,rx,q2⟩=>?_) hs;replace q2:=xS q2;obtain⟨a,rfl,C,dx,fs,ea,c,n,l,q2⟩:=q2;obtain rfl:ov=Value.ref a:=rx;exact CV I2 ea c n l ry λs3 I3=>⟨σ,_,I3,q2⟩
end
section
variable {c:Value} {b:Bool}
inductive oY (K:W.Frag) (H:Hp):V->Value->Prop where
 |non:oY K H .non (.type "NoneType")
 |bl (x:Bool):oY K H (.bl x) (.type "bool")
 |int (i:Int):oY K H (.int i) (.type "int")
 |str (x:Str):oY K H (.str x) (.type "str")
 |flt (x:UInt64):oY K H (.flt x) (.type "float")
 |lst {a:Addr} {xs:List V} (e:H a=some (.lst xs)):oY K H (.ref a) (.type "list")
 |frz {a:Addr} {o:Obj} {xs:List V} (e:H a=some (.frz o (.lst xs))):oY K H (.ref a) (.type "list")
 |tup {a:Addr} {xs:List V} (e:H a=some (.tup xs)):oY K H (.ref a) (.type "tuple")
 |dK {a:Addr} {kvs:List (eZ×V)} (e:H a=some (.dK kvs)):oY K H (.ref a) (.type "dict")
 |dT {a:Addr} {kvs:List (List eZ×V)} (e:H a=some (.dT kvs)):oY K H (.ref a) (.type "dict")
 |ins {a C dx:Addr} {fs:List (Str×V)} (e:H a=some (.ins C dx fs)) (cl:ND K C) (ha:W.findIn K (.ref C) "__class__"=some (some (.builtin "object.__class__")))
  (hn:W.specialIn K (.builtin "object.__class__") "__get__"=some (some (.builtin "getset_descriptor.__get__"))) (htk:W.takesIn K (.builtin "object.__class__")=some true)
  (hm:W.mroIn K C (.type "object")=some true):oY K H (.ref a) (.ref C)
theorem MJ{x:V}{t:Value}(I:Inv X aI σ H s)(rx:RelV x u)(ty:oY X.K H x t)(e:W.kitOne X.K t c=some b)(h:∀tk,Q (.bool b) {s with toks:=tk}):
 wpAny (model X.prog X.w) A (call (.builtin "isinstance") [u,c]) Q E s:=by
 cases ty with
 |non=>cases (show u=Value.none from rx);exact eQ W.kitx_none I.kIn True.intro e (λz=>nomatch z) h
 |bl y=>cases (show u=Value.bool y from rx);exact eQ W.kitx_bool I.kIn True.intro e (λz=>nomatch z) h
 |int i=>obtain⟨t,q⟩:=(show∃t,u=Value.int i t from rx);cases q;exact eQ W.kitx_int I.kIn True.intro e (λz=>nomatch z) h
 |str y=>obtain⟨t,q⟩:=(show∃t,u=Value.str y t from rx);cases q;exact eQ W.kitx_str I.kIn True.intro e (λz=>nomatch z) h
 |flt y=>obtain⟨t,q⟩:=(show∃t,u=Value.float y t from rx);cases q;exact eQ W.kitx_float I.kIn True.intro e (λz=>nomatch z) h
 |@lst a xs ea=>
  cases (show u=Value.ref a from rx);obtain⟨_,_,n,_,h1⟩:=(show fI X.prog X.w H s.heap a (.lst xs)from I.hok a _ ea)
  exact eQ W.kitx_list I.kIn ⟨_,h1,rfl⟩ e (λz=>nomatch z) h
 |@frz a ob xs ea=>
  cases (show u=Value.ref a from rx);obtain⟨_,_,_,n,_,h1⟩:=(show fI X.prog X.w H s.heap a (.frz ob (.lst xs))from I.hok a _ ea)
  exact eQ W.kitx_list I.kIn ⟨_,h1,rfl⟩ e (λz=>nomatch z) h
 |@tup a xs ea=>
  cases (show u=Value.ref a from rx);obtain⟨_,_,_,p⟩:=(show fI X.prog X.w H s.heap a (.tup xs)from I.hok a _ ea)
  obtain⟨o,h1,h2,_⟩:=p;exact eQ W.kitx_tuple I.kIn ⟨o,h1,h2⟩ e (λz=>nomatch z) h
 |@dK a kvs ea=>
  cases (show u=Value.ref a from rx);obtain⟨_,_,vs,_,p⟩:=(show fI X.prog X.w H s.heap a (.dK kvs)from I.hok a _ ea)
  obtain⟨o,es,ep,h1,h2,_⟩:=p;exact eQ W.kitx_dict I.kIn ⟨o,h1,h2.1⟩ e (λz=>nomatch z) h
 |@dT a kvs ea=>
  cases (show u=Value.ref a from rx);obtain⟨_,_,xs,_,o,es,ep,h1,h2,_⟩:=(show fI X.prog X.w H s.heap a (.dT kvs)from I.hok a _ ea)
  exact eQ W.kitx_dict I.kIn ⟨o,h1,h2.1⟩ e (λz=>nomatch z) h
 |@ins a C dx fs ea cl ha hn htk hm=>
  cases (show u=Value.ref a from rx);obtain⟨mA,O,_⟩:=YK I.hok ea;obtain⟨od,J,_⟩:=O.look;exact eQ (W.kitx_own (cl.get _) cl.hd ha hn htk hm) I.kIn J e (λz=>nomatch z) h
end
structure gW(k:Nat)(A:Around):Prop where
 hd:A.handled=none
 dp:A.depth+3*k+5<recursionLimit
 un:A.units+16*k+200<cLine
theorem gW.mono{k:Nat}(r:gW k A)(h:j<=k):gW j A:=⟨r.hd,by have :=r.dp;lia,by have :=r.un;lia⟩
theorem gW.deeper{k:Nat}(r:gW (k+1) A)(env:Env):gW k (A.deeper env):=
 ⟨r.hd,by have :=r.dp;show A.depth+1+3*k+5<_;lia,by have :=r.un;show A.units+3+16*k+200<_;lia⟩
theorem EH{C:Addr}:(A.under (.builtin "type.__call__" ⟨.ref C::us,kw⟩)).depth=A.depth+1:=by
 first |rfl |simp[Around.under,Code.weight,Code.isCreation,Code.isGuard,Code.isCaller,Code.frames,Code.isFrame,guardIds]
theorem EG{C:Addr}:(A.under (.builtin "type.__call__" ⟨.ref C::us,kw⟩)).units=A.units+1:=by
 first |rfl |simp[Around.under,Code.cUnits,Code.frames,Code.isFrame]
theorem gW.make{k:Nat}(r:gW (k+1) A)(C:Addr)(us:List Value)(kw:List (Str×Value)):gW k (A.under (.builtin "type.__call__" ⟨.ref C::us,kw⟩)):=
 ⟨r.hd,by have :=r.dp;rw[EH];lia,by have :=r.un;rw[EG];lia⟩
theorem gW.depth{k:Nat}(r:gW k A):A.depth<recursionLimit:=by have :=r.dp;lia
theorem gW.units{k:Nat}(r:gW k A):A.units+64<cLine:=by have :=r.un;lia
def jh:TA:=λ_ H Q=>Q [] H
def ZJ(ta:TE)(tr:TA):TA:=λσ H Q=>ta σ H λx H1=>tr σ H1 λxs H2=>Q (x::xs) H2
section
variable {t:TA} {pos:Pos}
theorem zB:PA X [] jh:=λ_ _ _ _ H Q I h=>mQ ⟨[],H,I,.nil,h⟩
theorem zA(ha:PE X e te)(hr:PA X es t)(hs:starEach (e::es) X.env=(false,eval e X.env)::starEach es X.env:=by rfl):PA X (e::es) (ZJ te t):=by
 intro pos aI s σ H Q I h;rw[hs];show wpAny _ _ (spliced ((false,eval e X.env)::backTo pos (starEach es X.env))) _ _ s;refine gH (eK (ha aI s σ H _ I h) λu s1 ⟨x,H1,I1,r1,q1⟩=>?_);exact eK (hr pos aI s1 σ H1 _ I1 q1) λus s2 ⟨xs,H2,I2,r2,q2⟩=>⟨x::xs,H2,I2,.cons r1 r2,q2⟩
def tTup(t:TA):TE:=λσ H Q=>t σ H λxs H1=>xs.length<=sizeLine/\∀p,H1 p=none->Q (.ref p) (upd H1 p (.tup xs))
def tLst(t:TA):TE:=λσ H Q=>t σ H λxs H1=>xs.length<=sizeLine/\∀p,H1 p=none->Q (.ref p) (upd H1 p (.lst xs))
theorem zP{x1}(h:PA X es t):PE X (.Tuple es x1 pos) (tTup t):=by
 intro aI s σ H Q I hq;refine wpAny_Tuple_spliced (eK (h pos aI s σ H _ I hq) λus s1 ⟨xs,H1,I1,r,z,q⟩=>⟨by rw[←r.length];exact z,?_⟩);have hf:H1 s1.heap.objs.size=none:=I1.hok.fresh (aJ _);refine⟨.ref s1.heap.objs.size,upd H1 s1.heap.objs.size (.tup xs),I1.laid (t':=s1.toks) (λb u e=>aS _ e) (aJ _) ?_,rfl,q _ hf⟩;exact⟨z,us,r,⟨_,bQ _ rfl,rfl,_,rfl⟩⟩
theorem xF(h:PA X es t):PE X (.List es pos) (tLst t):=by
 intro aI s σ H Q I hq;refine wpAny_List_spliced (eK (h pos aI s σ H _ I hq) λus s1 ⟨xs,H1,I1,r,z,q⟩=>⟨by rw[←r.length];exact z,?_⟩);have hf:H1 s1.heap.objs.size=none:=I1.hok.fresh (aJ _);refine⟨.ref s1.heap.objs.size,upd H1 s1.heap.objs.size (.lst xs),I1.laid (t':=s1.toks) (λb u e=>aS _ e) (aJ _) ?_,rfl,q _ hf⟩;exact⟨z,us,0,r,bQ _ rfl⟩
end
abbrev Sp:=List V->Hp->VK->XK->Prop
abbrev i8:=List Env->Hp->Shared->XK->Value->Shared->Prop
structure FJ(P:Program)(w:World)(K:W.Frag)(mg:Str->Option Value)(base:Heap)(A:Around)(outer:List Env)(s:Shared)(H:Hp):Prop where
 frames:A.frames=some outer
 mod:Mod K mg base
 bs:∀b o,base.get? b=some o->s.heap.get? b=some o/\H b=none
 bsz:base.objs.size<=s.heap.objs.size
 funs:s.heap.FunFrames base outer
 frf:∀b∈ET outer,H b=none
 hok:lJ P w H s.heap
 bare:AllBare s.gens
def CE(outer:List Env)(P:Program)(w:World)(H:Hp)(s:Shared)(Q:VK)(u:Value)(s':Shared):Prop:=
 ∃v H',s'.os=s.os/\AllBare s'.gens/\Un (ET outer) [] H H' s.heap s'.heap/\lJ P w H' s'.heap/\RelV v u/\Q v H'
def CR(CX:i8)(outer:List Env)(P:Program)(w:World)(H:Hp)(s:Shared)(Q:VK)(E:XK)(r:Result)(s':Shared):Prop:=
 match r with
 | .ok (.ret u)=>CE outer P w H s Q u s'
 | .ok _=>False
 | .error e=>CX outer H s E e s'
structure dG(P:Program)(w:World)(K:W.Frag)(mg:Str->Option Value)(base:Heap)(CX:i8)(k:Nat)(f:Addr)(fd:FuncData)(ps:List Str)(sp:Sp):Prop where
 len:∀vs H Q E,sp vs H Q E->vs.length=ps.length
 run:∀(A:Around)(outer:List Env)(s:Shared)(H:Hp)(args:Args)(us:List Value)(vs:List V)(Q:VK)(E:XK),gW k A->FJ P w K mg base A outer s H->BindsTo s fd args (ps.zip us)->cV vs us->sp vs H Q E->
  codeAny (model P w) A (.call (.ref f) args) (CR CX outer P w H s Q E) s
theorem dG.mono{k:Nat}(F:dG P w K mg base CX j f fd ps sp)(h:j<=k):
 dG P w K mg base CX k f fd ps sp:=⟨F.len,λA outer s H args us vs Q E hr=>F.run A outer s H args us vs Q E (hr.mono h)⟩
theorem dG.imp{k:Nat}{sp':Sp}(F:dG P w K mg base CX k f fd ps sp)
 (h:∀vs H Q E,sp' vs H Q E->sp vs H Q E):dG P w K mg base CX k f fd ps sp':=
 ⟨λvs H Q E q=>F.len vs H Q E (h _ _ _ _ q),λA outer s H args us vs Q E hr he hb hv hs=>F.run A outer s H args us vs Q E hr he hb hv (h _ _ _ _ hs)⟩
theorem FJ.make(e:FJ P w K mg base A outer s H)(C:Addr)(us:List Value)(kw:List (Str×Value)):
 FJ P w K mg base (A.under (.builtin "type.__call__" ⟨.ref C::us,kw⟩)) outer s H:=⟨by first |exact e.frames |(simpa[Around.under,Code.envs,Code.isFrame,pushEnvs]using e.frames),e.mod,e.bs,e.bsz,e.funs,e.frf,e.hok,e.bare⟩
section
variable {s':Shared}
theorem Inv.env0(I:Inv X aI σ H s):FJ X.prog X.w X.K X.mg X.base X.A X.stack s H:=
 ⟨I.ok.frames,I.ok.mod,I.bs,dI I.ok.bsz I.sz,I.stack,I.stkFree,I.hok,I.bare⟩
theorem Inv.after{Q:VK}(I:Inv X aI σ H s)(h:CE X.stack X.prog X.w H s Q u s'):EP X aI σ Q u s':=by
 obtain⟨v,H',os,bare,un,hok,r,q⟩:=h;obtain⟨hh,g,d,t,os'⟩:=s';obtain rfl:os'=s.os:=os;exact⟨v,H',I.call (h':=hh) (g':=g) (d':=d) (t':=t) (ch:=[]) un hok bare (λb z=>absurd z (by simp)),r,q⟩
end
def JU(sp:Sp)(dvs:List V)(E:XK)(t:TA):TE:=λσ H Q=>t σ H λvs H1=>sp (vs++dvs) H1 Q E
def jI(C:Addr)(m:Str)(sp:Sp)(dvs:List V)(E:XK)(ta:TE)(t:TA):TE:=λσ H Q=>ta σ H λx H1=>mI x λa=>∃dx fs,H1 a=some (.ins C dx fs)/\fs.lookup m=none/\
 t σ H1 λvs H2=>sp (x::(vs++dvs)) H2 Q E
def OD(C:Addr)(sp:Sp)(dvs:List V)(E:XK)(t:TA):TE:=λσ H Q=>t σ H λvs H1=>∀x dx,H1 x=none->H1 dx=none->dx≠x->
 sp (.ref x::(vs++dvs)) (upd (upd H1 dx (.own x)) x (.ins C dx [])) (λv H2=>v=.non/\Q (.ref x) H2) E
def Binds(K:W.Frag)(fd:FuncData)(ps:List Str)(ds:List Value):Prop:=
 ∀(s:Shared)(us:List Value),K.In s.heap->(us++ds).length=ps.length->BindsTo s fd ⟨us,[]⟩ (ps.zip (us++ds))
theorem Binds.all(h:∀us:List Value,us.length=ps.length->bindArgs fd ⟨us,[]⟩=pure (ps.zip us)):Binds K fd ps []:=λs us _ hl=>by
 rw[cU]at hl⊢;exact .of_eq (h us hl)
def ZI(CX:i8)(X:Cx)(E:XK):Prop:=∀(aI:List (Addr×Obj))(σ:St)(H:Hp)(s:Shared)(e:Value)(s':Shared),Inv X aI σ H s->CX X.stack H s E e s'->X.xe e s'
section
variable {k:Nat} {C:Addr} {dvs:List V} {ds:List Value} {E:XK} {x m:Str} {pos:Pos} {t:TA}
theorem CY{Q:VK}(F:dG X.prog X.w X.K X.mg X.base CX k f fd ps sp)(hr:gW k X.A)(hb:Binds X.K fd ps ds)(hd:cV dvs ds)(hx:ZI CX X E)
 (I:Inv X aI σ H s) (r:cV vs us) (h:sp (vs++dvs) H Q E):wpAny (model X.prog X.w) X.A (call (.ref f) us) (EP X aI σ Q) X.xe s:=by
 have r2:cV (vs++dvs) (us++ds):=r.append hd;have hl:(us++ds).length=ps.length:=by rw[←r2.length];exact F.len _ _ _ _ h
 refine wpAny_call (f8 (F.run X.A X.stack s H ⟨us,[]⟩ (us++ds) (vs++dvs) Q E hr I.env0 (hb s us I.kIn hl) r2 h) λr s' hq=>?_);cases r with
 |error e=>exact hx aI σ H s e s' I hq
 |ok fl=>
  cases fl with
  |ret u=>exact I.after hq
  |next=>exact False.elim hq
  |brk=>exact False.elim hq
  |cont=>exact False.elim hq
theorem cv(F:dG X.prog X.w X.K X.mg X.base CX k f fd ps sp)(hr:gW k X.A)(hg:Gl X x)(hm:X.mg x=some (.ref f))(hk:W.keepIn X.K (.ref f)=true)(hb:Binds X.K fd ps ds)(hd:cV dvs ds)(hx:ZI CX X E)
 (ha:PA X (e::es) t) (hdb:(x==("__debug__":Str))=false:=by decide) (he:starEach (e::es) X.env=(false,eval e X.env)::starEach es X.env:=by rfl) (hpl:(backTo pos (starEach es X.env)).any (·.1)=false:=by rfl):
 PE X (.Call (.Name x p) (e::es) [] pos) (JU sp dvs E t):=by
 intro aI s σ H Q I h;refine iD (UN I hg hm ?_ hdb);refine nW (h₀:=X.base) I.ok.mod.kin hk (eK (ha pos aI s σ H _ I h) λus s1 ⟨vs,H1,I1,r,q⟩=>⟨I1.kIn,?_⟩) he hpl;exact CY F hr hb hd hx I1 r q
theorem cm{pl:Sem Bool}(he:PE X o ta)(c:ND X.K C)(hm:FI X.K C m f)(F:dG X.prog X.w X.K X.mg X.base CX k f fd ps sp)(hr:gW k X.A)(hb:Binds X.K fd ps ds)(hd:cV dvs ds)(hx:ZI CX X E)(ha:PA X (e::es) t)
 (iN:starEach (e::es) X.env=(false,eval e X.env)::starEach es X.env:=by rfl) (hpl:(backTo pos (starEach es X.env)).any (·.1)=false:=by rfl)
 (ht:eval (.Call (.Attribute o m iU) (e::es) [] pos) X.env=(do
  let ov ←eval o X.env
  standAt iU.atName
  let (f,first) ←holding [ov] (getMethod ov m pl)
  callWith pos f first (backTo pos (starEach (e::es) X.env)) (backToKw pos (keywordEach [] X.env))):=by rfl):
 PE X (.Call (.Attribute o m iU) (e::es) [] pos) (jI C m sp dvs E ta t):=by
 intro aI s σ H Q I h;refine W.methodCall_KW (pl:=pl) (eK (he aI s σ H _ I h) λu s1 ⟨x,H1,I1,rx,q⟩=>?_) ht;replace q:=xS q;obtain⟨a,rfl,dx,fs,ea,l,q⟩:=q;obtain rfl:u=Value.ref a:=rx;refine EM I1 ea c hm l ?_;refine nW (first:=[.ref a]) (h₀:=X.base) I.ok.mod.kin hm.kp (eK (ha pos aI s1 σ H1 _ I1 q) λus s2 ⟨vs,H2,I2,r,q2⟩=>⟨I2.kIn,?_⟩) iN hpl;exact CY (us:=.ref a::us) (vs:=.ref a::vs) F hr hb hd hx I2 (.cons rfl r) q2
structure Mk(K:W.Frag)(C f:Addr):Prop where
 makes:W.makesIn K C=true
 init:W.findIn K (.ref C) "__init__"=some (some (.ref f))
 fn:W.isFn K (.ref f)=true
 kp:W.keepIn K (.ref C)=true
theorem PH{Q:VK}(M:Mk X.K C f)(F:dG X.prog X.w X.K X.mg X.base CX k f fd ps sp)(hr:gW (k+1) X.A)(hb:Binds X.K fd ps ds)(hd:cV dvs ds)
 (hx:ZI CX X E) (I:Inv X aI σ H s) (r:cV vs us)
 (h:∀x dx,H x=none->H dx=none->dx≠x->sp (.ref x::(vs++dvs)) (upd (upd H dx (.own x)) x (.ins C dx [])) (λv H2=>v=.non/\Q (.ref x) H2) E):
 wpAny (model X.prog X.w) X.A (call (.ref C) us) (EP X aI σ Q) X.xe s:=by
 have hq:=h (s.heap.objs.size+1) s.heap.objs.size (I.hok.fresh (Nat.le_succ _)) (I.hok.fresh (aJ _)) (cG (NG _));have I2:=Inv.made (C:=C) I;have r2:cV (V.ref (s.heap.objs.size+1)::(vs++dvs)) (Value.ref (s.heap.objs.size+1)::(us++ds)):=.cons rfl (r.append hd);have hl:(Value.ref (s.heap.objs.size+1)::us++ds).length=ps.length:=by
  have e:=r2.length;rw[F.len _ _ _ _ hq]at e;exact e.symm
 refine wpAny_call (SW (f:=f) I.kIn M.makes M.init (dJ.mp M.fn) (f8 (F.run _ X.stack _ _ ⟨Value.ref (s.heap.objs.size+1)::us,[]⟩ (Value.ref (s.heap.objs.size+1)::(us++ds)) _ _ E (hr.make C us [])
  (I2.env0.make C us []) (hb _ (Value.ref (s.heap.objs.size+1)::us) I2.kIn hl) r2 hq) λr s' hq'=>?_))
 cases r with
 |error e=>exact hx aI σ _ _ e s' I2 hq'
 |ok fl=>
  cases fl with
  |ret u=>
   obtain⟨v,H',I3,rv,ev,q3⟩:=I2.after hq';subst ev;exact⟨rv,⟨V.ref (s.heap.objs.size+1),H',I3,rfl,q3⟩⟩
  |next=>exact False.elim hq'
  |brk=>exact False.elim hq'
  |cont=>exact False.elim hq'
theorem cn(M:Mk X.K C f)(F:dG X.prog X.w X.K X.mg X.base CX k f fd ps sp)(hr:gW (k+1) X.A)(hg:Gl X x)(hm:X.mg x=some (.ref C))(hb:Binds X.K fd ps ds)(hd:cV dvs ds)(hx:ZI CX X E)
 (ha:PA X (e::es) t) (hdb:(x==("__debug__":Str))=false:=by decide) (he:starEach (e::es) X.env=(false,eval e X.env)::starEach es X.env:=by rfl) (hpl:(backTo pos (starEach es X.env)).any (·.1)=false:=by rfl):
 PE X (.Call (.Name x p) (e::es) [] pos) (OD C sp dvs E t):=by
 intro aI s σ H Q I h;refine iD (UN I hg hm ?_ hdb);refine nW (h₀:=X.base) I.ok.mod.kin M.kp (eK (ha pos aI s σ H _ I h) λus s1 ⟨vs,H1,I1,r,q⟩=>⟨I1.kIn,?_⟩) he hpl;exact PH M F hr hb hd hx I1 r q
end
section
variable {k:Nat} {C:Addr} {ks:List Str} {E:XK} {x m:Str} {pos kpos:Pos} {kws:List Keyword} {t tk:TA} {nm:Option Str}
structure KBinds(K:W.Frag)(fd:FuncData)(ps ks:List Str)(g:List Value->List Value->List Value)(gV:List V->List V->List V):Prop where
 to:∀(s:Shared)(us ws:List Value),K.In s.heap->(g us ws).length=ps.length->BindsTo s fd ⟨us,ks.zip ws⟩ (ps.zip (g us ws))
 mH:∀{vs:List V}{us:List Value}{zs:List V}{ws:List Value},cV vs us->cV zs ws->cV (gV vs zs) (g us ws)
variable {g:List Value->List Value->List Value} {gV:List V->List V->List V}
end
structure bW(N P:List Str)(sc:Scope):Prop where
 kind:sc.kind=.function
 co:sc.isCoroutine=false
 gen:sc.isGenerator=false
 nd:N.Nodup
 pre:N.take P.length=P
 par:∀x∈P,sc.names.lookup x=some .local\/sc.names.lookup x=some .cell
 nofree:∀y∈sc.names,y.2≠.free
theorem QN{kindOf:Str->Option NameKind}{x:Str}:∀{binds:List (Str×Value)}{m:Str->Option Value},(∀v,(x,v)∉binds)->bindL kindOf binds m x=m x
 |[],_,_=>rfl
 |(n,v)::r,m,h=>by
  unfold bindL;rw[QN λw hw=>h w (aV _ hw)];split
  ·have :x≠n:=by rintro rfl;exact h v aY
   simp[this]
  ·rfl
theorem QP{kindOf:Str->Option NameKind}{x:Str}:∀{binds:List (Str×Value)}{m:Str->Option Value},(∀v,(x,v)∉binds)->bindC kindOf binds m x=m x
 |[],_,_=>rfl
 |(n,v)::r,m,h=>by
  unfold bindC;rw[QP λw hw=>h w (aV _ hw)];split
  ·rfl
  ·have :x≠n:=by rintro rfl;exact h v aY
   simp[this]
theorem QO{kindOf:Str->Option NameKind}{x:Str}{v:Value}:∀{P:List Str}{vs:List Value}{i:Nat}{m:Str->Option Value},P.Nodup->P[i]?=some x->vs[i]?=some v->kindOf x=some .local->
 bindL kindOf (P.zip vs) m x=some v
 |[],_,_,_,_,h,_,_=>by simp at h
 |_::_,[],_,_,_,_,h,_=>by simp at h
 |p::P,w::vs,0,m,nd,h1,h2,hk=>by
  simp at h1 h2;subst h1;subst h2;show bindL kindOf ((p,w)::P.zip vs) m p=_;unfold bindL;rw[QN λv hv=>(lC.mp nd).1 (WO hv).1,aH hk];simp
 |p::P,w::vs,i+1,m,nd,h1,h2,hk=>by
  show bindL kindOf ((p,w)::P.zip vs) m x=_;unfold bindL;exact QO (i:=i) (lC.mp nd).2 (by simpa using h1) (by simpa using h2) hk
theorem QQ{kindOf:Str->Option NameKind}{x:Str}{v:Value}:∀{P:List Str}{vs:List Value}{i:Nat}{m:Str->Option Value},P.Nodup->P[i]?=some x->vs[i]?=some v->kindOf x≠some .local->
 bindC kindOf (P.zip vs) m x=some v
 |[],_,_,_,_,h,_,_=>by simp at h
 |_::_,[],_,_,_,_,h,_=>by simp at h
 |p::P,w::vs,0,m,nd,h1,h2,hk=>by
  simp at h1 h2;subst h1;subst h2;show bindC kindOf ((p,w)::P.zip vs) m p=_;unfold bindC;rw[QP λv hv=>(lC.mp nd).1 (WO hv).1,aF hk];simp
 |p::P,w::vs,i+1,m,nd,h1,h2,hk=>by
  show bindC kindOf ((p,w)::P.zip vs) m x=_;unfold bindC;exact QQ (i:=i) (lC.mp nd).2 (by simpa using h1) (by simpa using h2) hk
def start(N:List Str)(vs:List V):St:=vs.map some++List.replicate (N.length-vs.length) none
def JE(CX:i8)(P:Program)(w:World)(K:W.Frag)(mg:Str->Option Value)(base:Heap)(N:List Str)(qual:Str)(scope:Scope)(f:Addr)(cd:Value)(A:Around)(outer:List Env)(s:Shared)(H:Hp)(E:XK):Cx where
 prog:=P
 w:=w
 K:=K
 mg:=mg
 base:=base
 A:=A.deeper (envOfC qual scope s.heap.objs.size f cd)
 N:=N
 s₀:=s
 H₀:=H
 env:=envOfC qual scope s.heap.objs.size f cd
 outer:=outer
 stack:=envOfC qual scope s.heap.objs.size f cd::outer
 ex:=[]
 calm:=true
 fn:=λ_=>true
 pn:=[]
 xe:=λe s'=>wpAny (model P w) (A.deeper (envOfC qual scope s.heap.objs.size f cd)) (leaving (envOfC qual scope s.heap.objs.size f cd) e) (λ_ s''=>CX outer H s E e s'') (λe' s''=>CX outer H s E e' s'') s'
theorem BM{sc:Scope}{x:Str}(h:sc.names.lookup x=some .cell):∃c,(cellsFrom n sc.names []).lookup x=some c:=by
 have q:=W.cellsFrom_some sc.names n [] (.inl h);exact Option.isSome_iff_exists.mp q
theorem MK{scope:Scope}{cd:Value}{s1:Shared}{E:XK}
 (S:bW N ps scope) (hd:A.handled=none) (e0:FJ P w K mg base A outer s H) (hl:vs.length=ps.length) (r:cV vs us)
 (x:InCallC s s.heap.objs.size (bindL (envOfC qual scope s.heap.objs.size f cd).kindOf (ps.zip us) λ_=>none) (cellsFrom (s.heap.objs.size+1) scope.names []) (bindC (envOfC qual scope s.heap.objs.size f cd).kindOf (ps.zip us) λ_=>none) s1):
 Inv (JE CX P w K mg base N qual scope f cd A outer s H E) [] (start N vs) H s1:=by
 have hpl:ps.length<=N.length:=by have :=cJ List.length S.pre;rw[bH]at this;lia
 obtain⟨h1,tk,rfl,hk⟩:=x.done;have noA:∀b:Addr,b∉(JE CX P w K mg base N qual scope f cd A outer s H E).ex:=λb z=>absurd (show b∈([]:List Addr)from z) (by simp)
 refine⟨⟨e0.mod,S.kind,rfl,rfl,aJ _,λy z c h1 h2=>?_,λy hy=>?_,λy c _ h=>?_,λ_=>hd,Around.frames_deeper e0.frames,.inr ⟨rfl,rfl⟩,λb z=>absurd z (noA b),e0.bs,e0.bsz,λb _ _=>noA b,λb z=>absurd z (noA b),e0.funs,e0.frf⟩,
  rfl,e0.bare,Un.kept hk,⟨_,x.toInCall.ns,λi y v h1 h2 h3=>?_⟩,λy c h=>⟨_,x.cell y c h⟩,e0.hok.fresh (aJ _),λy c h=>?_,λp hp=>absurd (show p∈([]:List (Addr×Obj))from hp) (by simp),e0.hok.kept hk,?_⟩
 ·exact name_of_addr x.apart (eN h1) (eN h2)
 ·have hy:scope.names.lookup y=some .cell\/scope.names.lookup y=some .free:=hy;rcases hy with hy |hy
  ·exact BM hy
  ·exact absurd rfl (S.nofree _ (eN hy))
 ·exact pM (x.above y c (eN h))
 ·have hi:i<vs.length:=by
   unfold start at h2;by_cases hi:i<vs.length
   ·exact hi
   ·rw[cP (by simpa using hi)]at h2;rw[List.getElem?_replicate]at h2;split at h2<;>cases h2
  have ha:vs[i]?=some v:=by
   unfold start at h2;rw[bN (by simpa using hi),aQ]at h2;cases e:vs[i]? with
   |none=>rw[e]at h2;cases h2
   |some a=>rw[e]at h2;cases h2;rfl
  obtain⟨u,hu,rv⟩:=r.get ha;have hp:ps[i]?=some y:=by
   rw[←S.pre,List.getElem?_take_of_lt ()];exact h1
  have ndP:ps.Nodup:=by rw[←S.pre];exact S.nd.sublist (List.take_sublist _ _)
  refine⟨u,rv,?_⟩;rcases S.par y (aZ hp)with k |k
  ·exact .inl ⟨k,QO ndP hp hu k⟩
  ·obtain⟨c,e⟩:=BM (n:=s.heap.objs.size+1) k;refine .inr ⟨.inl k,c,e,?_⟩;have q:=x.cell y c e;rw[QQ ndP hp hu (by show scope.names.lookup y≠_;rw[k];decide)]at q;exact q
 ·exact e0.hok.fresh (pM (x.above y c (eN h)))
 ·unfold start;show _=N.length;rw[aP,aE,mF];lia
theorem fn_of{k:Nat}{name:Str}{params:Arguments}{body:List Stmt}{scope:Scope}{dV kV doc pm fL ct oc:Value}{an od:Option Addr}
 {osl:Array (Option Value)} (lk:K.lookup f=some ⟨oc,od,.func (W.fnOf name qual params body scope dV kV doc pm an fL ct),osl⟩) (hcd:W.codeIn K fL qual=true) (S:bW N ps scope)
 (len:∀vs H Q E,sp vs H Q E->vs.length=ps.length)
 (hbody:∀(A:Around)(outer:List Env)(s:Shared)(H:Hp)(vs:List V)(Q:VK)(E:XK),gW k (A.deeper (envOfC qual scope s.heap.objs.size f fL))->sp vs H Q E->
  ∃t,FG (JE CX P w K mg base N qual scope f fL A outer s H E) body t/\t {nx:=λ_ H'=>Q .non H',rt:=Q} (start N vs) H):
 dG P w K mg base CX (k+1) f (W.fnOf name qual params body scope dV kV doc pm an fL ct) ps sp:=by
 refine⟨len,λA outer s H args us vs Q E hr e0 hb r hsp=>?_⟩;have hl:=len _ _ _ _ hsp;have KX:K.In s.heap:=e0.mod.kin.keeps λb o e=>(e0.bs b o e).1
 have lim:s.heap.NoLimit:=e0.mod.nolimit.keeps λb o e=>(e0.bs b o e).1
 have hkind:∀y∈ps.zip us,scope.names.lookup y.1=some .local\/(scope.names.lookup y.1=some .cell/\((cellsFrom (s.heap.objs.size+1) scope.names []).lookup y.1).isSome=true):=λ⟨n,v⟩ hy=>by
  rcases S.par n (WO hy).1 with q |q
  ·exact .inl q
  ·exact .inr ⟨q,W.cellsFrom_some _ _ _ (.inl q)⟩
 refine codeAny_call_function hr.depth (KX _ _ lk) rfl S.co S.gen rfl (W.codeRec_of KX hcd) (hb _ _ _ _ ?_);refine wpAny_newFunctionEnv_cells S.kind hkind λenv he s1 x=>?_
 subst he;refine⟨lim.keeps x.toInCall.keep,codeAny_func ?_⟩;obtain⟨t,ht,hq⟩:=hbody A outer s H vs Q E (hr.deeper _) hsp;have I:Inv (JE CX P w K mg base N qual scope f fL A outer s H E) [] (start N vs) H s1:=MK S hr.hd e0 hl r x;refine mB (ht [] s1 (start N vs) H _ I hq) (λfl s' hs=>?_) λe s' hs=>hs
 have fin:∀{σ':St}{H':Hp}{v:V}{u:Value},Inv (JE CX P w K mg base N qual scope f fL A outer s H E) [] σ' H' s'->RelV v u->Q v H'->CE outer P w H s Q u s':=
  λ{σ' H' v u} J rv q=>⟨v,H',J.os,J.bare,J.base,J.hok,rv,q⟩
 cases fl with
 |ret u=>
  obtain⟨v,σ',H',J,rv,q⟩:=hs;exact fin J rv q
 |next=>
  obtain⟨σ',H',J,q⟩:=hs;exact fin (v:=V.non) (u:=Value.none) J rfl q
 |brk=>
  obtain⟨_,_,_,q⟩:=hs;exact False.elim q
 |cont=>
  obtain⟨_,_,_,q⟩:=hs;exact False.elim q
section
variable {x:Str} {pos:Pos} {t:TA} {id:String} {r:List V->Hp->VK->Prop}
def tCB(r:List V->Hp->VK->Prop)(t:TA):TE:=λσ H Q=>t σ H λvs H1=>r vs H1 Q
theorem zS(hc:uA X (.builtin id) r)(hg:Gl X x)(hm:X.mg x=none)(hv:bootBuiltins x=some (.builtin id))(ha:PA X (e::es) t)(hn:x≠"__name__":=by decide)(hdb:(x==("__debug__":Str))=false:=by decide)
 (he:starEach (e::es) X.env=(false,eval e X.env)::starEach es X.env:=by rfl) (hpl:(backTo pos (starEach es X.env)).any (·.1)=false:=by rfl):PE X (.Call (.Name x p) (e::es) [] pos) (tCB r t):=by
 intro aI s σ H Q I h;refine iD (wS I hg hm hv ?_ hn hdb);exact PyProof.Rows.callWith_builtin1 (eK (ha pos aI s σ H _ I h) λus s1 ⟨vs,H1,I1,r1,q1⟩=>hc aI s1 σ H1 vs us Q I1 r1 q1) he hpl
theorem jJ(hc:uA X (.type T) r)(hg:Gl X x)(hm:X.mg x=none)(hv:bootBuiltins x=some (.type T))(ha:PA X (e::es) t)(hn:x≠"__name__":=by decide)(hdb:(x==("__debug__":Str))=false:=by decide)
 (he:starEach (e::es) X.env=(false,eval e X.env)::starEach es X.env:=by rfl) (hpl:(backTo pos (starEach es X.env)).any (·.1)=false:=by rfl):PE X (.Call (.Name x p) (e::es) [] pos) (tCB r t):=by
 intro aI s σ H Q I h;refine iD (wS I hg hm hv ?_ hn hdb);exact fU (eK (ha pos aI s σ H _ I h) λus s1 ⟨vs,H1,I1,r1,q1⟩=>hc aI s1 σ H1 vs us Q I1 r1 q1) he hpl
end
end L2
namespace HT
open PySem PyProof.Rows
section
open PySem.SeqAt
open PySem.AutoSeq1 (wpAny_loadPart')
open PySem.MeetsSeq PySem.MeetsSeq2 PySem.MeetsSeq3
end
section
variable {prog:Program} {w:World} {A:Around} {E:Value->Shared->Prop} {s:Shared}
theorem cat_tup{t b:Addr}{vs ws:List Value}{Q:Value->Shared->Prop}(ht:IsTup s.heap t vs.toArray)(hb:IsTup s.heap b ws.toArray)(hv:vs≠[])
 (h1:ws=[]->Q (.ref t) s) (h2:ws≠[]->Q (.ref s.heap.objs.size) {s with heap:=s.heap.push {cls:=.type "tuple",data:=.seq (vs++ws).toArray}})
 (hsz:vs.length+ws.length<=sizeLine):wpAny (model prog w) A (binaryOp .Add (.ref t) (.ref b)) Q E s:=by
 obtain⟨⟨cls,dd,data,sl⟩,ho,hc,n,hd⟩:=id ht;obtain⟨⟨cls2,dd2,data2,sl2⟩,ho2,hc2,n2,hd2⟩:=id hb;simp only at hc hd hc2 hd2;subst hc hd hc2 hd2;have e:vs.toArray++ws.toArray=(vs++ws).toArray:=by simp
 by_cases hw:ws=[]
 ·exact concat_meets ⟨_,ho,rfl⟩ ⟨_,ho2,rfl⟩ noFill_tuple_add seq_tuple_add pJ pE (oT _ _)
   (tuple_addW1 t b vs.toArray ws.toArray n n2 dd dd2 sl sl2 (by simpa using hv) (by simp[hw])) ⟨ho,ho2,h1 hw⟩
 ·refine concat_meets ⟨_,ho,rfl⟩ ⟨_,ho2,rfl⟩ noFill_tuple_add seq_tuple_add pJ pE (oT _ _)
   (tuple_addW2 t b vs.toArray ws.toArray n n2 dd dd2 sl sl2 (by simpa using hv) (by simpa using hw) (by rw[aL,aL];exact hsz)) ⟨ho,ho2,?_⟩
  rw[e];exact h2 hw
def sIx(n d:Nat):Option Int->Nat
 |none=>d
 |some v=>if v<0 then(v+(n:Int)).toNat else min v.toNat n
theorem sIx_none(n d:Nat):sIx n d none=d:=rfl
theorem sIx_nat(n d k:Nat):sIx n d (some (k:Int))=min k n:=by
 show(if(k:Int)<0 then((k:Int)+(n:Int)).toNat else min (k:Int).toNat n)=min k n;rw[aF (by lia),bV]
theorem ka(n d:Nat)(hd:d<=n)(o:Option Int):sIx n d o<=n:=by
 cases o with
 |none=>exact hd
 |some v=>
  show(if v<0 then(v+(n:Int)).toNat else min v.toNat n)<=n;by_cases hv:v<0
  ·rw[aH hv];lia
  ·rw[aF hv];exact Nat.min_le_right _ _
theorem IZ(v:Int)(n d:Nat):(if v<0 then max (v+(n:Int)) 0 else min v (n:Int))=((sIx n d (some v):Nat):Int):=by
 show(if v<0 then max (v+(n:Int)) 0 else min v (n:Int))=(((if v<0 then(v+(n:Int)).toNat else min v.toNat n):Nat):Int)
 by_cases hv:v<0
 ·simp only[aH hv];lia
 ·simp only[aF hv];lia
theorem FE(lo hi:Option Int)(n:Nat):Builtin.Slice.sliceAdjust lo hi 1 (n:Int)=(((sIx n 0 lo:Nat):Int),((sIx n n hi:Nat):Int)):=by
 have h1:¬((1:Int)<0):=by lia
 unfold Builtin.Slice.sliceAdjust;simp only[h1,dO];refine Prod.ext ?_ ?_
 ·cases lo with
  |none=>rfl
  |some v=>exact IZ v n 0
 ·cases hi with
  |none=>rfl
  |some v=>exact IZ v n n
theorem DC(i j:Nat):Builtin.Slice.slicePlaces (i:Int) (j:Int) 1=j-i:=by
 unfold Builtin.Slice.slicePlaces;have h1:(1:Int)>0:=by lia
 simp only[h1,if_true,Int.ediv_one];split<;>lia
theorem XC{v:Value}{o:Option Int}{Q:Option Int->Shared->Prop}(p:IsPart v o)(h:Q o s):wpAny (model prog w) A (Builtin.Slice.slicePartIndex v) Q E s:=by
 cases p with
 |none=>exact slicePart_none h
 |int i t=>exact slicePart_int h
theorem sliceApplied_gen{sl:Addr}{vl vu:Value}{lo hi:Option Int}{n:Nat}{Q:Int×Int×Nat->Shared->Prop}(hs:s.heap.IsSliceOf sl vl vu .none)(pl:IsPart vl lo)(pu:IsPart vu hi)
 (h:Q (((sIx n 0 lo:Nat):Int),1,sIx n n hi-sIx n 0 lo) s):wpAny (model prog w) A (Builtin.Slice.sliceApplied (.ref sl) (pure (n:Int))) Q E s:=by
 obtain⟨os,hos,hcs,hds⟩:=id hs;unfold Builtin.Slice.sliceApplied Builtin.Slice.sliceFields;refine aG (aG (wpAny_field hos hds (x:=vl) rfl (aG (wpAny_field hos hds (x:=vu) rfl (aG (wpAny_field hos hds (x:=.none) rfl (aU ?_)))))));refine aG (slicePart_none ?_);show wpAny _ _ (if((1:Int)==0)=true then _ else _) _ _ s;rw[aF (by decide)];refine aG (XC pl (aG (XC pu (aG (aU ?_)))));show wpAny _ _ (match Builtin.Slice.sliceAdjust lo hi 1 (n:Int)with |(lo,hi)=>pure (lo,(1:Int),Builtin.Slice.slicePlaces lo hi 1)) _ _ s;rw[FE lo hi n];show wpAny _ _ (pure (((sIx n 0 lo:Nat):Int),(1:Int),Builtin.Slice.slicePlaces ((sIx n 0 lo:Nat):Int) ((sIx n n hi:Nat):Int) 1)) _ _ s;rw[DC];exact aU h
theorem RG(xs:Array Value)(i k:Nat):((List.range k).filterMap λ(m:Nat)=>xs[((i:Int)+(m:Int)*1).toNat]?).toArray=((xs.toList.drop i).take k).toArray:=by
 have e:(λ(m:Nat)=>xs[((i:Int)+(m:Int)*1).toNat]?)=λm=>xs[i+m]?:=by
  funext m
  have :((i:Int)+(m:Int)*1).toNat=i+m:=by lia
  rw[this]
 rw[e];have :=pick_run xs i k;rw[fZ]at this;have e2:((λx=>xs[x]?) ∘ λx=>i+x)=λm=>xs[i+m]?:=rfl
 rw[e2]at this;rw[this]
theorem getItem_tuple_cut{t sl:Addr}{cZ:Array Value}{vl vu:Value}{lo hi:Option Int}{Q:Value->Shared->Prop}(ht:IsTup s.heap t cZ)(hs:s.heap.IsSliceOf sl vl vu .none)(pl:IsPart vl lo)(pu:IsPart vu hi)
 (hw:¬(sIx cZ.size 0 lo=0/\sIx cZ.size cZ.size hi=cZ.size))
 (h:Q (.ref s.heap.objs.size) {s with heap:=s.heap.push {cls:=.type "tuple",data:=.seq ((cZ.toList.drop (sIx cZ.size 0 lo)).take (sIx cZ.size cZ.size hi-sIx cZ.size 0 lo)).toArray}})
 (hsz:cZ.size<=sizeLine):wpAny (model prog w) A (getItem (.ref t) (.ref sl)) Q E s:=by
 have htake:sizeOk (.seq ((cZ.toList.drop (sIx cZ.size 0 lo)).take (sIx cZ.size cZ.size hi-sIx cZ.size 0 lo)).toArray):=by
  show((cZ.toList.drop (sIx cZ.size 0 lo)).take (sIx cZ.size cZ.size hi-sIx cZ.size 0 lo)).toArray.size<=sizeLine;rw[aL,bH,fW,bP];lia
 have hj:sIx cZ.size cZ.size hi<=cZ.size:=ka _ _ (aJ _) hi;obtain⟨os,hos,hcs,hds⟩:=id hs;have hTs:s.TypeIs (.ref sl) "slice":=⟨os,hos,hcs⟩
 unfold getItem
 try with_reducible refine eV ?_
 first |refine aG (aU ?_) |skip
 refine aG (wpAny_sequenceKey ht.typeIs (by decide) ?_);refine aG (mE (name:=Str.ofString "__getitem__") ht.typeIs dY
  (lG dY ht.typeIs entry_tuple_getitem ?_ (args_tuple_getitem _ _)))
 show wpAny _ _ (Builtin.Tuple.tupleItemsOf (.ref t) >>= _) _ _ s;refine aG (tupleItemsOf_ ht ?_);refine aG (mM hTs ?_);rw[aH (by decide)];refine aG (sliceApplied_gen hs pl pu ?_);have hno:¬((((sIx cZ.size 0 lo:Nat):Int)==0&&(1:Int)==1&&(sIx cZ.size cZ.size hi-sIx cZ.size 0 lo)==cZ.size)=true):=by
  intro q;rw[cA,cA]at q;have q1:((sIx cZ.size 0 lo:Nat):Int)=0:=eq_of_beq q.1.1;have q2:sIx cZ.size cZ.size hi-sIx cZ.size 0 lo=cZ.size:=eq_of_beq q.2;exact hw ⟨by lia,by lia⟩
 show wpAny _ _ (if(((sIx cZ.size 0 lo:Nat):Int)==0&&(1:Int)==1&&(sIx cZ.size cZ.size hi-sIx cZ.size 0 lo)==cZ.size)=true then _ else _) _ _ s;rw[aF hno,RG]
 first
  |exact aG (m:=Builtin.Tuple.tupleExact _) (eS (aU ⟨_,rfl,aU h⟩) htake)
  |exact aG (m:=Builtin.Tuple.tupleExact _) (eS (aG (aU (aU ⟨_,rfl,aU h⟩))) htake)
  |exact aG (aG (m:=Builtin.Tuple.tupleExact _) (eS (aU (aU ⟨_,rfl,aU h⟩)) htake))
  |exact aG (aG (m:=Builtin.Tuple.tupleExact _) (eS (aU ⟨_,rfl,aU h⟩) htake))
end
end HT
namespace L2
open PySem PySem.Spec PyProof.Rows
variable {a b l:Addr} {A:Around} {X:Cx} {e o:Expr} {h h':Heap} {H H':Hp} {aI:List (Addr×Obj)} {kvs:List (List eZ×V)} {es:List Expr} {xs:List V} {its its' us:List Value} {j n t':Nat} {iU pos':Pos} {P prog:Program} {s:Shared} {σ:St} {T:String} {ta te:TE} {α:Type} {v y:V} {u:Value} {E Q:Value->Shared->Prop} {w:World}
local macro_rules | `(()) => `(by lia)
abbrev TO:=St->Hp->(Option Int->Hp->Prop)->Prop
def PO(X:Cx)(e:Option Expr)(t:TO):Prop:=
 ∀(aI:List (Addr×Obj)) (s:Shared) (σ:St) (H:Hp) (Q:Option Int->Hp->Prop),Inv X aI σ H s->t σ H Q->
  wpAny (model X.prog X.w) X.A (evalPart e X.env) (λu s'=>∃o H',Inv X aI σ H' s'/\IsPart u o/\Q o H') X.xe s
def QW:TO:=λ_ H Q=>Q none H
def tPart(t:TE):TO:=λσ H Q=>t σ H λx H1=>rN x λi=>Q (some i) H1
section
variable {lo hi:Option Expr} {tl th:TO} {pos p2:Pos}
theorem jD:PO X none QW:=by
 intro aI s σ H Q I h;rw[evalPart_none];exact aU ⟨none,H,I,.none,h⟩
theorem jC(h:PE X e te):PO X (some e) (tPart te):=by
 intro aI s σ H Q I hw;rw[evalPart_some];refine eK (h aI s σ H _ I hw) λu s1 ⟨x,H1,I1,r1,q1⟩=>?_
 replace q1:=uC q1;obtain⟨i,rfl,q⟩:=q1;obtain⟨t,rfl⟩:=r1;exact⟨some i,H1,I1,.int i t,q⟩
def SlR(X:Cx)(r:V->Option Int->Option Int->Hp->VK->Prop):Prop:=
 ∀(aI:List (Addr×Obj)) (s:Shared) (σ:St) (H:Hp) (x:V) (v vl vu:Value) (lo hi:Option Int) (sl:Addr) (Q:VK),Inv X aI σ H s->RelV x v->s.heap.IsSliceOf sl vl vu .none->IsPart vl lo->IsPart vu hi->r x lo hi H Q->
  ∃T id,typeLookup (.type T) "__getitem__"=pure (some (.builtin id))/\s.TypeIs v T/\wpAny (model X.prog X.w) X.A (getItem v (.ref sl)) (EP X aI σ Q) X.xe s
def tSl(r:V->Option Int->Option Int->Hp->VK->Prop)(te:TE)(tl th:TO):TE:=λσ H Q=>te σ H λx H1=>tl σ H1 λl H2=>th σ H2 λu H3=>r x l u H3 Q
theorem xO{r:V->Option Int->Option Int->Hp->VK->Prop}(hr:SlR X r)(he:PE X e te)(hl:PO X lo tl)(hu:PO X hi th):PE X (.Subscript e (.Slice lo hi none p2) pos) (tSl r te tl th):=by
 intro aI s σ H Q I h;refine Subscript_ (eK (he aI s σ H _ I h) λv s1 ⟨x,H1,I1,r1,q1⟩=>?_);refine wpAny_Slice (eK (hl aI s1 σ H1 _ I1 q1) λvl s2 ⟨l,H2,I2,pl,q2⟩=>eK (hu aI s2 σ H2 _ I2 q2) λvu s3 ⟨u,H3,I3,pu,q3⟩=>?_);rw[evalPart_none];refine aU ?_;have I4:Inv X aI σ H3 {s3 with heap:=s3.heap.push {cls:=.type "slice",data:=.fields #[vl,vu,.none]}}:=I3.kept (t':=s3.toks) λb ob q=>aS _ q
 obtain⟨T,id,hT,ht,hg⟩:=hr aI {s3 with heap:=s3.heap.push {cls:=.type "slice",data:=.fields #[vl,vu,.none]}} σ H3 x v vl vu l u s3.heap.objs.size Q I4 r1 (Heap.IsSliceOf.new ..) pl pu q3;show wpAny (model X.prog X.w) X.A (subscriptTail e (.Slice lo hi none p2) v (.ref s3.heap.objs.size)) (EP X aI σ Q) X.xe {s3 with heap:=s3.heap.push {cls:=.type "slice",data:=.fields #[vl,vu,.none]}};exact tail_any (ops:=[.ref s3.heap.objs.size,v]) ht hT hg (by with_unfolding_all rfl)
def qJ(xs:List V)(lo hi:Option Int):List V:=(xs.drop (HT.sIx xs.length 0 lo)).take (HT.sIx xs.length xs.length hi-HT.sIx xs.length 0 lo)
theorem vX(xs:List V)(lo hi:Option Int):(qJ xs lo hi).length<=xs.length:=by
 unfold qJ;rw[bH,fW];lia
def rSlT(K:W.Frag):V->Option Int->Option Int->Hp->VK->Prop:=λx lo hi H Q=>mI x λa=>∃xs,cW K H a xs/\
 ¬(HT.sIx xs.length 0 lo=0/\HT.sIx xs.length xs.length hi=xs.length)/\∀p,H p=none->Q (.ref p) (upd H p (.tup (qJ xs lo hi)))
theorem OR:SlR X (rSlT X.K):=by
 intro aI s σ H x v vl vu lo hi sl Q I rx hs pl pu h;replace h:=xS h;obtain⟨a,rfl,xs,hx,hw,q⟩:=h;cases rx;obtain⟨its,r,ht,hz⟩:=I.tuple hx;have fA:its.toArray.size=xs.length:=by rw[aL];exact r.length.symm
 refine⟨"tuple",_,dY.lookup,ht.typeIs,?_⟩;refine HT.getItem_tuple_cut ht hs pl pu (by rw[fA];exact hw) ?_ (by rw[fA];exact hz);rw[fA];refine⟨.ref s.heap.objs.size,_,I.laid (t':=s.toks) (o:=.tup (qJ xs lo hi)) (λb ob q=>aS _ q) (aJ _) ?_,rfl,q _ (I.hok.fresh (aJ _))⟩;exact⟨dI (vX xs lo hi) hz,_,(r.drop (HT.sIx xs.length 0 lo)).take (HT.sIx xs.length xs.length hi-HT.sIx xs.length 0 lo),IsTup.new _ _⟩
def rCatT(K:W.Frag):R2:=λx y H Q=>mI x λa=>mI y λb=>∃xs,cW K H a xs/\∃ys,cW K H b ys/\xs≠[]/\xs.length+ys.length<=sizeLine/\
 (ys=[]->Q (.ref a) H)/\(ys≠[]->∀p,H p=none->Q (.ref p) (upd H p (.tup (xs++ys))))
theorem cV.nil_iff(r:cV xs us):us=[]↔xs=[]:=by
 cases r with
 |nil=>simp
 |cons _ _=>simp
theorem db:nN X (binaryOp .Add) (rCatT X.K):=by
 intro aI s σ H x y v u Q I rx ry h;replace h:=xS h;obtain⟨a,rfl,h⟩:=h;replace h:=xS h;obtain⟨b,rfl,xs,ha,ys,hb,hx,hz,q1,q2⟩:=h;cases rx;cases ry;obtain⟨its,r1,p1,_⟩:=I.tuple ha;obtain⟨its2,r2,p2,_⟩:=I.tuple hb;refine HT.cat_tup p1 p2 (λz=>hx (r1.nil_iff.mp z)) (λz=>⟨.ref a,H,I,rfl,q1 (r2.nil_iff.mp z)⟩) (λz=>?_) (by rw[←r1.length,←r2.length];exact hz);refine⟨.ref s.heap.objs.size,_,I.laid (t':=s.toks) (o:=.tup (xs++ys)) (λb ob q=>aS _ q) (aJ _) ?_,rfl,q2 (λw=>z (r2.nil_iff.mpr w)) _ (I.hok.fresh (aJ _))⟩;exact⟨by rw[aP];exact hz,_,r1.append r2,IsTup.new _ _⟩
end
def NJ(n:Nat)(i:Int):Option Nat:=if 0<=i then(if i<n then some i.toNat else none)else if -(n:Int)<=i then some (i+n).toNat else none
def oO{α:Type}(xs:List α)(i:Int):Option α:=(NJ xs.length i).bind λj=>xs[j]?
theorem IA{i:Int}(h:NJ n i=some j):seqIndex? i n=some j/\j<n/\ -(n:Int)<=i/\i<n:=by
 unfold NJ at h;by_cases h0:0<=i
 ·rw[aH h0]at h;by_cases h1:i<n
  ·rw[aH h1]at h;have e:i.toNat=j:=bR h;exact⟨by rw[seqIndex_of h0 h1,e],(),(),h1⟩
  ·rw[aF h1]at h;cases h
 ·rw[aF h0]at h;by_cases h1: -(n:Int)<=i
  ·rw[aH h1]at h;have e:(i+n).toNat=j:=bR h;exact⟨by rw[seqIndex_neg () h1,e],(),h1,()⟩
  ·rw[aF h1]at h;cases h
theorem VE{xs:List α}{i:Int}{v:α}(h:oO xs i=some v):∃j,seqIndex? i xs.length=some j/\xs[j]?=some v/\j<xs.length/\ -(xs.length:Int)<=i/\i<xs.length:=by
 unfold oO at h;cases e:NJ xs.length i with
 |none=>rw[e]at h;cases h
 |some j=>
  rw[e]at h;obtain⟨h1,h2,h3,h4⟩:=IA e;exact⟨j,h1,h,h2,h3,h4⟩
theorem yO{xs:List α}{v:α}(h:xs[j]?=some v):oO xs (j:Int)=some v:=by
 have hj:j<xs.length:=(aD.mp h).1;have e:NJ xs.length (j:Int)=some j:=by
  unfold NJ;rw[aH (),aH ()];simp
 unfold oO;rw[e];exact h
theorem VS(xs:List α)(v:α):oO (xs++[v]) (-1)=some v:=by
 have hl:(xs++[v]).length=xs.length+1:=by simp
 have e:NJ (xs++[v]).length (-1)=some xs.length:=by
  unfold NJ;rw[hl,aF (by decide),aH ()]
  congr 1
  lia
 unfold oO;rw[e];show(xs++[v])[xs.length]?=some v;simp
def KJ(b:Expr):Prop:=∀o i,subscripted b false o i=operate [o,i] (getItem o i)
def oi(X:Cx)(r:R2):Prop:=
 ∀(value slice:Expr) (aI:List (Addr×Obj)) (s:Shared) (σ:St) (H:Hp) (x y:V) (v u:Value) (Q:VK),Inv X aI σ H s->RelV x v->RelV y u->r x y H Q->
  subscripted slice false v u=operate [v,u] (getItem v u)->wpAny (model X.prog X.w) X.A (subscriptTail value slice v u) (EP X aI σ Q) X.xe s
def MtR(X:Cx)(id:String)(r:V->List V->Hp->VK->Prop):Prop:=
 ∀(aI:List (Addr×Obj)) (s:Shared) (σ:St) (H:Hp) (x:V) (xs:List V) (v:Value) (us:List Value) (Q:VK),Inv X aI σ H s->RelV x v->cV xs us->r x xs H Q->
  wpAny (model X.prog X.w) X.A (call (.builtin id) (v::us)) (EP X aI σ Q) X.xe s
section
variable {a b:Expr} {tb:TE} {pos:Pos}
theorem pe_ix{r:R2}(hr:oi X r)(ha:PE X a ta)(hb:PE X b tb)(hs:KJ b):PE X (.Subscript a b pos) (ap r ta tb):=by
 intro aI s σ H Q I h;exact Subscript_ (nw ha hb I h λv u s2 x y H2 I2 rx ry q=>hr a b aI s2 σ H2 x y v u Q I2 rx ry q (hs _ _))
def cb(K:W.Frag):R2:=λx y H Q=>mI x λp=>rN y λi=>∃xs,dF K H p xs/\∃v,oO xs i=some v/\Q v H
def b9(K:W.Frag):R2:=λx y H Q=>mI x λp=>rN y λi=>∃xs,cW K H p xs/\∃v,oO xs i=some v/\Q v H
def rIxS:R2:=λx y H Q=>asS x λz=>rN y λi=>z.length<=sizeLine/\∃c,oO z.cps.toList i=some c/\Q (.str ⟨#[c]⟩) H
theorem yB:oi X (cb X.K):=by
 intro value slice aI s σ H x y v u Q I rx ry h hs;replace h:=xS h;obtain⟨p,rfl,h⟩:=h;replace h:=uC h;obtain⟨i,rfl,xs,hq,z,he,q⟩:=h;cases rx;obtain⟨t,rfl⟩:=ry;obtain⟨its,r,pl,hz⟩:=I.list hq;obtain⟨j,h1,h2,h3,h4,h5⟩:=VE he;obtain⟨w,ew,rw'⟩:=r.get h2;have hl:=r.length;have hn:=ZA;have fin:EP X aI σ Q w s:=⟨z,H,I,rw',q⟩
 by_cases h0:0<=i
 ·have hj:i.toNat=j:=by
   rw[seqIndex_of h0 h5]at h1;exact bR h1
  exact item_listR pl.isList h0 () (by rw[hj];simpa using ew) fin hs
 ·have hj:(i+(its.toArray.size:Int)).toNat=j:=by
   rw[seqIndex_neg () h4]at h1;rw[aL,←hl];exact bR h1
  exact subscriptTail_builtinR (x:=w) pl.isList.typeIs slot_list_getitem.lookup
   (wpAny_getItem_list_neg (Q:=λr s'=>r=w/\EP X aI σ Q r s') pl.isList () (by rw[aL]<;>lia) () (by rw[hj];simpa using ew) ⟨rfl,fin⟩) hs
theorem zN:oi X (b9 X.K):=by
 intro value slice aI s σ H x y v u Q I rx ry h hs;replace h:=xS h;obtain⟨p,rfl,h⟩:=h;replace h:=uC h;obtain⟨i,rfl,xs,hq,z,he,q⟩:=h;cases rx;obtain⟨t,rfl⟩:=ry;obtain⟨its,r,pl,hz⟩:=I.tuple hq;obtain⟨j,h1,h2,h3,h4,h5⟩:=VE he;obtain⟨w,ew,rw'⟩:=r.get h2;have hl:=r.length;have hn:=ZA;have fin:EP X aI σ Q w s:=⟨z,H,I,rw',q⟩
 exact subscriptTail_builtinR (x:=w) pl.typeIs slot_tuple_getitem.lookup
  (getItem_tuple (j:=j) (Q:=λr s'=>r=w/\EP X aI σ Q r s') pl () () (by rw[aL,←hl];exact h1) (by simpa using ew) ⟨rfl,fin⟩) hs
theorem TJ:oi X rIxS:=by
 intro value slice aI s σ H x y v u Q I rx ry h hs;replace h:=asS_ h;obtain⟨z,rfl,h⟩:=h;replace h:=uC h;obtain⟨i,rfl,hz,c,he,q⟩:=h;obtain⟨t,rfl⟩:=rx;obtain⟨t',rfl⟩:=ry;obtain⟨j,h1,h2,h3,h4,h5⟩:=VE he;have hl:z.cps.toList.length=z.length:=by simp[Str.length]
 rw[hl]at h1 h4 h5;have hn:=ZA;exact tail_any (typeIs_str s z t) slot_str_getitem.lookup (getItem_str (c:=c) (by
  have e1:decide (i< -(2^63:Int))=false:=dE ();have e2:decide (i≥2^63)=false:=dE ();rw[e1,e2,Bool.or_false]) (by rw[h1];simpa using h2) ⟨.str ⟨#[c]⟩,H,I.tok _,⟨_,rfl⟩,q⟩) hs
theorem EF(its:List Value)(n j:Nat)(u:Value):Obj.mapSeq (·.setIfInBounds j u) {cls:=.type "list",data:=.seq its.toArray n}={cls:=.type "list",data:=.seq (its.set j u).toArray n}:=by
 simp[Obj.mapSeq]
theorem Inv.lst{aI:List (Addr×Obj)}{σ:St}{H:Hp}{s:Shared}{p:Addr}{xs:List V}(I:Inv X aI σ H s)(h:H p=some (.lst xs)):
 ∃(its:List Value)(n:Nat),cV xs its/\s.heap.get? p=some {cls:=.type "list",data:=.seq its.toArray n}/\xs.length<=sizeLine:=by
 obtain⟨z,its,n,r,e⟩:=I.hok p _ h;exact⟨its,n,r,e,z⟩
theorem Inv.lstUpd{p:Addr}{ys:List V}{n':Nat}{f:Obj->Obj}(I:Inv X aI σ H s)(h:H p=some (.lst xs))
 (ho:s.heap.get? p=some {cls:=.type "list",data:=.seq its.toArray n}) (hf:f {cls:=.type "list",data:=.seq its.toArray n}={cls:=.type "list",data:=.seq its'.toArray n'}) (r:cV ys its') (hz:ys.length<=sizeLine) (t:Nat):
 Inv X aI σ (upd H p (.lst ys)) {s with heap:=s.heap.update p f,toks:=t}:=by
 have e:(s.heap.update p f).get? p=some {cls:=.type "list",data:=.seq its'.toArray n'}:=by
  rw[nI f ho (by rw[hf]<;>rfl),hf]
 refine I.write (x:=p) (e:=p) (by rw[h];trivial) (.inl rfl) (λb u hb q=>(rY _ _ (cM hb)).trans q) ⟨_,e⟩ ?_;exact⟨hz,its',n',r,e⟩
def GS:V->V->V->Hp->(Hp->Prop)->Prop:=λo i v H Q=>mI o λp=>rN i λk=>∃xs,H p=some (.lst xs)/\∃j,NJ xs.length k=some j/\Q (upd H p (.lst (xs.set j v)))
theorem XD:ft X GS:=by
 intro aI s σ H o i v ov iv u Q I ro ri rv h;replace h:=xS h;obtain⟨p,rfl,h⟩:=h;replace h:=uC h;obtain⟨k,rfl,xs,hp,j,hj,q⟩:=h;cases ro;obtain⟨t,rfl⟩:=ri;obtain⟨its,n,r,ho,hz⟩:=I.lst hp;obtain⟨h1,h2,h3,h4⟩:=IA hj;have hl:=r.length;have hn:=ZA;have I':Inv X aI σ (upd H p (.lst (xs.set j v))) {s with heap:=s.heap.update p (Obj.mapSeq (·.setIfInBounds j u))}:=
  I.lstUpd hp ho (EF its n j u) (r.set rv j) (by rw[List.length_set];exact hz) s.toks
 by_cases h0:0<=k
 ·have hk:k.toNat=j:=by
   rw[seqIndex_of h0 h4]at h1;exact bR h1
  exact W.ki_setAt ho h0 () (by rw[aL,←hl];exact h4) (by rw[hk];exact⟨_,I',q⟩)
 ·have hk:(k+(its.toArray.size:Int)).toNat=j:=by
   rw[seqIndex_neg () h3]at h1;rw[aL,←hl];exact bR h1
  exact W.ki_setBack ho () (by rw[aL,←hl];exact h3) () (by rw[hk];exact⟨_,I',q⟩)
theorem UC(lo hi:Option Int)(n:Nat):(sliceBounds lo hi none n).1=((HT.sIx n 0 lo:Nat):Int)/\(sliceBounds lo hi none n).2.1=((HT.sIx n n hi:Nat):Int)/\(sliceBounds lo hi none n).2.2=1:=by
 refine⟨?_,?_,rfl⟩
 ·cases lo with
  |none=>simp[sliceBounds,HT.sIx]
  |some i=>
   simp only[sliceBounds,HT.sIx,Option.getD_none,show(1:Int)>0 by decide,if_true];by_cases h:i<0
   ·simp only[h,if_true]<;>lia
   ·simp only[h,dO]<;>lia
 ·cases hi with
  |none=>simp[sliceBounds,HT.sIx]
  |some i=>
   simp only[sliceBounds,HT.sIx,Option.getD_none,show(1:Int)>0 by decide,if_true];by_cases h:i<0
   ·simp only[h,if_true]<;>lia
   ·simp only[h,dO]<;>lia
theorem JM(its:List Value)(lo hi:Option Int):slicePick its.toArray lo hi none=((its.drop (HT.sIx its.length 0 lo)).take (HT.sIx its.length its.length hi-HT.sIx its.length 0 lo)).toArray:=by
 obtain⟨h1,h2,h3⟩:=UC lo hi its.toArray.size;unfold slicePick;rw[h1,h2,h3];simp only[sliceRange_one,pick_run,aL]<;>rfl
def rSlL(K:W.Frag):V->Option Int->Option Int->Hp->VK->Prop:=λx lo hi H Q=>mI x λa=>∃xs,dF K H a xs/\∀p,H p=none->Q (.ref p) (upd H p (.lst (qJ xs lo hi)))
theorem YC:SlR X (rSlL X.K):=by
 intro aI s σ H x v vl vu lo hi sl Q I rx hs pl pu h;replace h:=xS h;obtain⟨a,rfl,xs,hx,q⟩:=h;cases rx;obtain⟨its,r,ht,hz⟩:=I.list hx;have fA:=r.length;refine⟨"list",_,slot_list_getitem.lookup,ht.isList.typeIs,?_⟩;refine wpAny_getItem_list_slice ht.isList hs pl pu .none (by simp) ?_ (by rw[aL]<;>lia);rw[JM,←fA];refine⟨.ref s.heap.objs.size,_,I.laid (t':=s.toks) (o:=.lst (qJ xs lo hi)) (λb ob q=>aS _ q) (aJ _) ?_,rfl,q _ (I.hok.fresh (aJ _))⟩;exact⟨dI (vX xs lo hi) hz,_,0,(r.drop (HT.sIx xs.length 0 lo)).take (HT.sIx xs.length xs.length hi-HT.sIx xs.length 0 lo),bQ _ rfl⟩
theorem VA:uA X (.type "list") (λxs H Q=>pI xs λx=>mI x λp=>∃ys,(dF X.K H p ys\/cW X.K H p ys)/\∀l,H l=none->Q (.ref l) (upd H l (.lst ys))):=by
 intro aI s σ H xs us Q I r h;replace h:=ZY h;obtain⟨x,rfl,h⟩:=h;replace h:=xS h;obtain⟨p,rfl,ys,hq,q⟩:=h;obtain⟨u,rfl,rx⟩:=vA r;cases rx;have fin:∀(its:List Value),cV ys its->ys.length<=sizeLine->∀(h':Heap)(c':Nat),(∀b o',s.heap.get? b=some o'->h'.get? b=some o')->
  h'.get? s.heap.objs.size=some {cls:=.type "list",dict:=none,data:=.seq its.toArray c',slots:= #[]}->EP X aI σ Q (.ref s.heap.objs.size) {s with heap:=h'}:=λits r' hz h' c' kp e=>
  ⟨.ref s.heap.objs.size,_,I.laid (t':=s.toks) kp (aJ _) (show fI X.prog X.w _ h' _ (.lst ys)from⟨hz,its,c',r',e⟩),rfl,q _ (I.hok.fresh (aJ _))⟩
 rcases hq with hq |hq
 ·obtain⟨its,r',pl,hz⟩:=I.list hq;have fA:=r'.length;obtain⟨o,ho,hc,n,hd⟩:=pl.isList;exact call_list_seq p (.inl rfl) ho hc hd (λh' c' kp e=>fin its r' hz h' c' kp e) (by simp only[aL]<;>lia)
 ·obtain⟨its,r',pl,hz⟩:=I.tuple hq;have fA:=r'.length;obtain⟨o,ho,hc,n,hd⟩:=pl;exact call_list_seq p (.inr rfl) ho hc hd (λh' c' kp e=>fin its r' hz h' c' kp e) (by simp only[aL]<;>lia)
theorem uL:uA X (.type "tuple") (λxs H Q=>∃p ys,xs=[.ref p]/\((dF X.K H p ys/\∀l,H l=none->Q (.ref l) (upd H l (.tup ys)))\/(cW X.K H p ys/\Q (.ref p) H))):=by
 intro aI s σ H xs us Q I r h;obtain⟨p,ys,rfl,h⟩:=h;obtain⟨u,rfl,rx⟩:=vA r;cases rx;rcases h with⟨hq,q⟩ |⟨hq,q⟩
 ·obtain⟨its,r',pl,hz⟩:=I.list hq;have fA:=r'.length;refine call_tuple_list pl.isList (λh' kp=>?_) (by simp only[aL]<;>lia);have I1:Inv X aI σ H {s with heap:=h'}:=I.kept (t':=s.toks) kp;have I2:Inv X aI σ (upd H h'.objs.size (.tup ys)) {s with heap:=h'.push {cls:=.type "tuple",data:=.seq its.toArray}}:=
   I1.laid (t':=s.toks) (λb o e=>aS _ e) (aJ _) (show fI X.prog X.w _ _ _ (.tup ys)from⟨hz,its,r',IsTup.new _ _⟩)
  exact⟨.ref h'.objs.size,_,I2,rfl,q _ (I1.hok.fresh (aJ _))⟩
 ·obtain⟨its,r',pl,hz⟩:=I.tuple hq;exact call_tuple_same pl ⟨.ref p,H,I,rfl,q⟩
def tyV(K:W.Frag)(T:String)(x:V)(H:Hp):Prop:=match x with
 | .str _=>T="str"
 | .int _=>T="int"
 | .ref p=>(T="list"/\∃xs,dF K H p xs)\/(T="tuple"/\∃o,K.lookup p=some o/\o.cls=.type "tuple"/\o.dict=none)\/
  (T="dict"/\((∃kvs,H p=some (.dK kvs))\/∃kvs,H p=some (.dT kvs)))\/(T="set"/\∃S n,H p=some (.set S n))
 |_=>False
theorem NZ{x:V}{v:Value}(I:Inv X aI σ H s)(r:RelV x v)(ty:tyV X.K T x H):
 s.TypeIs v T/\∀a,v=.ref a->∃ob,s.heap.get? a=some ob/\ob.dict=none:=by
 cases x with
 |str z=>
  obtain⟨t,rfl⟩:=r;cases (show T="str" from ty);exact⟨typeIs_str s z t,λ_ e=>nomatch e⟩
 |int i=>
  obtain⟨t,rfl⟩:=r;cases (show T="int" from ty);exact⟨typeIs_int s i t,λ_ e=>nomatch e⟩
 |ref p=>
  cases r;rcases ty with⟨rfl,xs,hq⟩ |⟨rfl,o,hk,hc,hd⟩ |⟨rfl,hk⟩ |⟨rfl,S,n,hk⟩
  ·obtain⟨its,_,pl,_⟩:=I.list hq;refine⟨pl.isList.typeIs,λa e=>?_⟩;cases e;obtain⟨o,n,e,c,hd,_⟩:=pl;exact⟨o,e,hd⟩
  ·refine⟨⟨o,I.kIn p o hk,hc⟩,λa e=>?_⟩;cases e;exact⟨o,I.kIn _ o hk,hd⟩
  ·have z:∃o,s.heap.get? p=some o/\o.ExactDict:=by
    rcases hk with⟨kvs,hk⟩ |⟨kvs,hk⟩
    ·obtain⟨_,_,_,_,o,_,_,e,ex,_⟩:=I.hok p _ hk;exact⟨o,e,ex⟩
    ·obtain⟨_,_,_,_,o,_,_,e,ex,_⟩:=I.hok p _ hk;exact⟨o,e,ex⟩
   obtain⟨o,e,ex⟩:=z;refine⟨⟨o,e,ex.1⟩,λa e2=>?_⟩;cases e2;exact⟨o,e,ex.2.1⟩
  ·obtain⟨o,_,_,_,e,ex,_⟩:=I.hok p _ hk;refine⟨⟨o,e,ex.1⟩,λa e2=>?_⟩;cases e2;exact⟨o,e,ex.2.1⟩
 |_=>exact False.elim ty
def tBM0(K:W.Frag)(T:String)(r:V->List V->Hp->VK->Prop)(to:TE):TE:=λσ H Q=>to σ H λx H1=>tyV K T x H1/\r x [] H1 Q
def tBM(K:W.Frag)(T:String)(r:V->List V->Hp->VK->Prop)(to:TE)(t:TA):TE:=λσ H Q=>to σ H λx H1=>tyV K T x H1/\t σ H1 λxs H2=>r x xs H2 Q
variable {to:TE} {t:TA} {name:Str} {gP:Pos} {id:String} {r:V->List V->Hp->VK->Prop}
theorem k8(pa:PlainAttrs T)(slot:Slot T name id)(hty:typeOf (.builtin id)=pure (.type "method_descriptor"))(hm:MtR X id r)(ho:PE X o to)
 (hbase:attributeBase o name X.env (eval o X.env)=eval o X.env:=by rfl) (hline:(iU.endLine==gP.line)=true:=by rfl):PE X (.Call (.Attribute o name iU) [] [] gP) (tBM0 X.K T r to):=by
 intro aI s σ H Q I h;refine wpAny_Call_method0_late hbase hline (eK (ho aI s σ H _ I h) λv s1 ⟨x,H1,I1,r1,ty,q1⟩=>?_);obtain⟨h1,h2⟩:=NZ I1 r1 ty;exact⟨T,id,pa,slot,hty,h1,h2,iE rfl (PySem.evalArgs_none (hm aI s1 σ H1 x [] v [] Q I1 r1 .nil q1))⟩
theorem uD(pa:PlainAttrs T)(slot:Slot T name id)(hty:typeOf (.builtin id)=pure (.type "method_descriptor"))(hm:MtR X id r)(ho:PE X o to)(ha:PA X (e::es) t)
 (hbase:attributeBase o name X.env (eval o X.env)=eval o X.env:=by rfl)
 (hfew:((backTo gP (starEach (e::es) X.env)).all (λx=>!x.1)&&(backToKw gP (keywordEach [] X.env)).all (λx=>x.1.isSome)
  &&decide ((e::es).length+([]:List Keyword).length+(if([]:List Keyword).isEmpty then 0 else 1)<30))=true:=by rfl)
 (hline:(iU.endLine==gP.line)=true:=by rfl) (hs:starEach (e::es) X.env=(false,eval e X.env)::starEach es X.env:=by rfl) (hplain:(backTo gP (starEach es X.env)).any (·.1)=false:=by rfl):
 PE X (.Call (.Attribute o name iU) (e::es) [] gP) (tBM X.K T r to t):=by
 intro aI s σ H Q I h;refine wpAny_Call_method_late hbase hfew hline rfl (eK (ho aI s σ H _ I h) λv s1 ⟨x,H1,I1,r1,ty,q1⟩=>?_);obtain⟨h1,h2⟩:=NZ I1 r1 ty;refine⟨T,id,pa,slot,hty,h1,h2,?_⟩;have hA:=ha gP aI s1 σ H1 _ I1 q1;rw[hs]at hA⊢;refine iE (by show(false ||(backTo gP (starEach es X.env)).any (·.1))=false;rw[hplain]<;>rfl) (nZ ?_);exact eK hA λus s2 ⟨vs,H2,I2,r2,q2⟩=>hm aI s2 σ H2 x vs v us Q I2 r1 r2 q2
end
def MtM(X:Cx)(id:String)(r:V->List V->Hp->VK->Prop):Prop:=
 ∀(aI:List (Addr×Obj)) (s:Shared) (σ:St) (H:Hp) (x:V) (xs:List V) (v:Value) (us:List Value) (Q:VK),Inv X aI σ H s->RelV x v->cV xs us->r x xs H Q->
  wpAny (model X.prog X.w) X.A (call (.builtin id) (v::us)) (EP X aI σ Q) X.xe s
theorem cV.one{x:V}(h:cV [x] us):∃u,us=[u]/\RelV x u:=vA h
theorem cV.two{x:V}(h:cV [x,y] us):∃u v,us=[u,v]/\RelV x u/\RelV y v:=vals2 h
theorem cV.dropLast(h:cV xs us):cV xs.dropLast us.dropLast:=by
 induction h with
 |nil=>exact .nil
 |cons r t ih=>
  cases t with
  |nil=>exact .nil
  |cons q t'=>exact .cons r ih
theorem cV.rep{xs:List V}{us:List Value}(h:cV xs us):∀k:Nat,cV (List.replicate k xs).flatten (List.replicate k us).flatten
 |0=>.nil
 |k+1=>by
  rw[fR,fR,lR,lR];exact cV.append h (cV.rep h k)
theorem QJ(its:List Value):∀(k:Nat)(mD:List Value),
 List.foldl (λx1 x2=>x1++x2) mD.toArray (List.replicate k its.toArray)=(mD++(List.replicate k its).flatten).toArray
 |0,mD=>by simp
 |k+1,mD=>by
  have e:mD.toArray++its.toArray=(mD++its).toArray:=by simp
  have e2:(mD++its)++(List.replicate k its).flatten=mD++(List.replicate (k+1) its).flatten:=by
   rw[fR,lR,cF]
  rw[←e2,←QJ its k (mD++its),←e,fR,WQ]
section
variable {ys zs:List V}
theorem Inv.lset{f:Array Value->Array Value}(I:Inv X aI σ H s)(hH:H l=some (.lst xs))
 (e:s.heap.get? l=some {cls:=.type "list",data:=.seq its.toArray n}) (hf:f its.toArray=its'.toArray) (hv:cV ys its') (hz:ys.length<=sizeLine):
 Inv X aI σ (upd H l (.lst ys)) {s with heap:=s.heap.update l (Obj.mapSeq f),toks:=t'}:=by
 have q:=PySem.IsL.update e f;rw[hf]at q;refine I.write (x:=l) (e:=l) (by rw[hH];exact trivial) (.inl rfl) (λb' u hb hu=>(rY s.heap (Obj.mapSeq f) (cM hb)).trans hu) ⟨_,q⟩ ?_;exact⟨hz,its',_,hv,q⟩
theorem Inv.lnew(I:Inv X aI σ H s)(hv:cV ys its)(hz:ys.length<=sizeLine):
 Inv X aI σ (upd H s.heap.objs.size (.lst ys)) {s with heap:=s.heap.push {cls:=.type "list",data:=.seq its.toArray},toks:=t'}:=
 I.laid (λ_ _ q=>aS _ q) (aJ _) ⟨hz,its,0,hv,bQ _ rfl⟩
theorem Inv.fresh(I:Inv X aI σ H s):H s.heap.objs.size=none:=I.hok.fresh (aJ _)
theorem Inv.lstM(I:Inv X aI σ H s)(hH:H l=some (.lst xs)):xs.length<=sizeLine/\∃(its:List Value)(n:Nat),cV xs its/\xs.length=its.length/\s.heap.get? l=some {cls:=.type "list",data:=.seq its.toArray n}:=by
 obtain⟨z,its,n,r,e⟩:=I.hok l _ hH;exact⟨z,its,n,r,r.length,e⟩
theorem AN(h:n<=sizeLine):Builtin.List.listTooLong n=false:=by
 unfold Builtin.List.listTooLong;exact dE ()
end
def UH:V->List V->Hp->VK->Prop:=λx vs H Q=>mI x λl=>pI vs λy=>∃xs,H l=some (.lst xs)/\xs.length<sizeLine/\Q .non (upd H l (.lst (xs++[y])))
theorem jK:MtM X "list.append" UH:=by
 intro aI s σ H x vs v us Q I rx rv h;replace h:=xS h;obtain⟨l,rfl,h⟩:=h;replace h:=ZY h;obtain⟨y,rfl,xs,hH,hz,q⟩:=h;cases rx;obtain⟨u,rfl,ru⟩:=rv.one;obtain⟨z,its,n,r,hl,e⟩:=I.lstM hH;refine WK F.slot_list_append ⟨_,e,rfl⟩ F.entry_list_append (F.args_list_append_2 _ _) (PySem.list_append l its.toArray n u (by rw[aL];lia)) ⟨e,?_⟩;refine⟨.non,_,I.lset (its':=its++[u]) hH e (by simp) (r.append (.cons ru .nil)) ?_,rfl,q⟩;rw[aP,bY];lia
def rPop:V->List V->Hp->VK->Prop:=λx vs H Q=>mI x λl=>as0 vs (∃xs,H l=some (.lst xs)/\∃y,xs[xs.length-1]?=some y/\Q y (upd H l (.lst xs.dropLast)))
def rCat:R2:=λx y H Q=>mI x λl=>mI y λb=>∃xs,H l=some (.lst xs)/\∃zs,H b=some (.lst zs)/\xs.length+zs.length<=sizeLine/\∀p,H p=none->Q (.ref p) (upd H p (.lst (xs++zs)))
theorem DK:nN X (binaryOp .Add) rCat:=by
 intro aI s σ H x y v u Q I rx ry h;replace h:=xS h;obtain⟨l,rfl,h⟩:=h;replace h:=xS h;obtain⟨b,rfl,xs,hH,zs,hB,hz,q⟩:=h;cases rx;cases ry;obtain⟨z,its,n,r,hl,e⟩:=I.lstM hH;obtain⟨z2,its2,n2,r2,hl2,e2⟩:=I.lstM hB;refine PySem.P.add_list e e2 ?_ (by rw[aL,aL];lia);have ea:its.toArray++its2.toArray=(its++its2).toArray:=by simp
 rw[ea];exact⟨.ref _,_,I.lnew (t':=s.toks) (r.append r2) (by rw[aP];lia),rfl,q _ I.fresh⟩
def b8:R2:=λx y H Q=>mI x λl=>rN y λk=>∃xs,H l=some (.lst xs)/\ -(2^63)<=k/\k<2^63/\xs.length*k.toNat<=sizeLine/\
 ∀p,H p=none->Q (.ref p) (upd H p (.lst (List.replicate k.toNat xs).flatten))
theorem d7(xs:List α)(k:Nat):(List.replicate k xs).flatten.length=k*xs.length:=by
 induction k with
 |zero=>simp
 |succ k ih=>rw[fR,lR,aP,ih,Nat.succ_mul,Nat.add_comm]
theorem DH:nN X (binaryOp .Mult) b8:=by
 intro aI s σ H x y v u Q I rx ry h;replace h:=xS h;obtain⟨l,rfl,h⟩:=h;replace h:=uC h;obtain⟨k,rfl,xs,hH,h1,h2,hz,q⟩:=h;cases rx;obtain⟨t,rfl⟩:=ry;obtain⟨z,its,n,r,hl,e⟩:=I.lstM hH;have fA:its.toArray.size*k.toNat<=sizeLine:=by rw[aL,←hl];exact hz
 have hcap:¬its.toArray.size*k.toNat>(2^63-1)/8:=by
  have :(sizeLine:Nat)<=(2^63-1)/8:=by decide
  lia
 have hfit:¬(!Builtin.List.listFitsIndex k)=true:=by
  rw[fitsIndex_both h1 h2];exact bL
 have hlong:¬Builtin.List.listTooLong (its.toArray.size*k.toNat)=true:=by
  rw[AN fA];exact bL
 have hnew:List.foldl (λx1 x2=>x1++x2) #[] (List.replicate (if its.toArray.isEmpty=true then 0 else k.toNat) its.toArray)=(List.replicate k.toNat its).flatten.toArray:=by
  have f0:∀m:Nat,List.foldl (λx1 x2=>x1++x2) #[] (List.replicate m its.toArray)=(List.replicate m its).flatten.toArray:=λm=>by
   have :=QJ its m [];rw[WP]at this;exact this
  rw[f0];cases its with
  |nil=>simp
  |cons a r'=>rw[aF (by simp)]
 refine wpAny_binaryOp_repeat_ref (T:="list") (U:="int") (by decide) ⟨_,e,rfl⟩ (λs'=>typeIs_int s' k t) noFill_list_mul F.fills_int_mul F.slot_int_rmul repeat_list F.slot_int_index.lookup
  (WK F.slot_int_rmul (typeIs_int s k t) F.entry_int_rmul (F.args_int_rmul_2 _ _) (int___rmul___int_list k t l its.toArray n)
   ⟨e,rfl,⟨_,e,rfl⟩,WK F.slot_list_mul ⟨_,e,rfl⟩ F.entry_list_mul (F.args_list_mul_2 _ _) (AutoListH.list___mul___list_int_3 l its.toArray n k t hfit hcap hlong) ⟨e,?_⟩⟩)
 rw[hnew];exact⟨.ref _,_,I.lnew (t':=s.toks) (r.rep k.toNat) (by rw[d7,Nat.mul_comm];exact hz),rfl,q _ I.fresh⟩
section
variable {κ:Type} [DecidableEq κ]
def yW(kvs:List (κ×V))(k:κ):Option V:=(kvs.find? λkv=>decide (kv.1=k)).map (·.2)
def jZ(kvs:List (κ×V))(k:κ)(v:V):List (κ×V):=
 if(kvs.any λkv=>decide (kv.1=k))=true then kvs.map (λkv=>if kv.1=k then(kv.1,v)else kv)else kvs++[(k,v)]
def iq(kvs:List (κ×V))(k:κ):List (κ×V):=kvs.filter λkv=>decide (kv.1≠k)
theorem uN{p:κ×V}{r:List (κ×V)}{k:κ}(e:p.1=k):yW (p::r) k=some p.2:=by simp[yW,eR,e]
theorem qN{p:κ×V}{r:List (κ×V)}{k:κ}(e:¬p.1=k):yW (p::r) k=yW r k:=by simp[yW,eR,e]
theorem sO(k:κ):∀kvs:List (κ×V),(kvs.any λkv=>decide (kv.1=k))=(yW kvs k).isSome
 |[]=>rfl
 |p::r=>by
  rw[oV];by_cases e:p.1=k
  ·simp only[uN e,dH e,Bool.true_or,Option.isSome_some]
  ·rw[qN e,dE e,Bool.false_or];exact sO k r
theorem uF(kvs:List (κ×V))(k:κ)(v:V):(jZ kvs k v).length<=kvs.length+1:=by
 unfold jZ;split
 ·rw[aE];lia
 ·rw[aP,bB,lD];lia
theorem lY.isSome_eq{o:Option V}{u:Option Value}(r:lY o u):o.isSome=u.isSome:=by
 cases o with
 |none=>cases u with
  |none=>rfl
  |some _=>exact(show False from r).elim
 |some _=>cases u with
  |none=>exact(show False from r).elim
  |some _=>rfl
theorem lY.getD{o:Option V}{u:Option Value}{d:V}{d':Value}(r:lY o u)(rd:RelV d d'):RelV (o.getD d) (u.getD d'):=by
 cases o with
 |none=>cases u with
  |none=>exact rd
  |some _=>exact(show False from r).elim
 |some _=>cases u with
  |none=>exact(show False from r).elim
  |some _=>exact r
theorem KV.val{kvs:List (κ×V)}{vs:List (κ×Value)}(r:KV kvs vs)(k:κ):lY (yW kvs k) (valueAt vs k):=by
 unfold KV at r
 induction r with
 |nil=>exact True.intro
 |@cons p q ps qs h t ih=>
  obtain⟨h1,h2⟩:=h;by_cases e:p.1=k
  ·have e':q.1=k:=h1.symm.trans e;have b:valueAt (q::qs) k=some q.2:=by simp[valueAt,eR,e']
   rw[uN e,b];exact h2
  ·have e':¬q.1=k:=λz=>e (h1.trans z)
   have b:valueAt (q::qs) k=valueAt qs k:=by simp[valueAt,eR,e']
   rw[qN e,b];exact ih
theorem KV.any{kvs:List (κ×V)}{vs:List (κ×Value)}(r:KV kvs vs)(k:κ):(kvs.any λkv=>decide (kv.1=k))=vs.any λkv=>decide (kv.1=k):=by
 unfold KV at r
 induction r with
 |nil=>rfl
 |cons h t ih=>rw[oV,oV,ih,h.1]
theorem KV.repl{kvs:List (κ×V)}{vs:List (κ×Value)}(r:KV kvs vs)(k:κ)(ry:RelV y u):
 KV (kvs.map λkv=>if kv.1=k then(kv.1,y)else kv) (vs.map λkv=>if kv.1=k then(kv.1,u)else kv):=by
 unfold KV at r⊢
 induction r with
 |nil=>exact .nil
 |@cons p q ps qs h t ih=>
  rw[cD,cD];refine .cons ?_ ih;obtain⟨h1,h2⟩:=h;by_cases e:p.1=k
  ·rw[aH e,aH (h1.symm.trans e)];exact⟨h1,ry⟩
  ·rw[aF e,aF (λz=>e (h1.trans z))];exact⟨h1,h2⟩
theorem KV.put{kvs:List (κ×V)}{vs:List (κ×Value)}(r:KV kvs vs)(k:κ)(ry:RelV y u):KV (jZ kvs k y) (stored vs k u):=by
 unfold jZ stored;rw[r.any k];by_cases e:(vs.any λkv=>decide (kv.1=k))=true
 ·rw[aH e,aH e];exact r.repl k ry
 ·rw[aF e,aF e];exact Paired.snoc r ⟨rfl,ry⟩
theorem KV.drop{kvs:List (κ×V)}{vs:List (κ×Value)}(r:KV kvs vs)(k:κ):KV (iq kvs k) (without vs k):=by
 unfold KV at r⊢;unfold iq without
 induction r with
 |nil=>exact .nil
 |@cons p q ps qs h t ih=>
  obtain⟨h1,h2⟩:=h;rw[List.filter_cons,List.filter_cons];by_cases e:p.1=k
  ·have a:¬decide (p.1≠k)=true:=by simp[e]
   have b:¬decide (q.1≠k)=true:=by simp[h1.symm.trans e]
   rw[aF a,aF b];exact ih
  ·have e':¬q.1=k:=λz=>e (h1.trans z)
   have a:decide (p.1≠k)=true:=by simp[e]
   have b:decide (q.1≠k)=true:=by simp[e']
   rw[aH a,aH b];exact .cons ⟨h1,h2⟩ ih
theorem KV.length{kvs:List (κ×V)}{vs:List (κ×Value)}(r:KV kvs vs):kvs.length=vs.length:=fQ r
end
theorem ZN{k:eZ}(r:RelV (kV k) u):(yC P w).is k u=true:=by
 cases k with
 |inl i=>obtain⟨t,e⟩:=(show∃t,u=Value.int i t from r);subst e;exact AT P w i t
 |inr x=>obtain⟨t,e⟩:=(show∃t,u=Value.str x t from r);subst e;exact vN P w x t
theorem ZC{P:Program}{w:World}:∀{ks:List eZ}{us:List Value},cV (ks.map kV) us->ItemsAre (yC P w) ks us
 |[],_,r=>by rw[pN]at r;cases r;exact .nil
 |k::ks,_,r=>by
  rw[cD]at r;cases r with
  |cons h t=>exact .cons (ZN h) (ZC t)
abbrev KT(H:Hp):List (List eZ×V)->List (List eZ×Addr×Value)->Prop:=Paired λp q=>p.1=q.1/\H q.2.1=some (.tup (p.1.map kV))/\RelV p.2 q.2.2
theorem KT.val{xs:List (List eZ×Addr×Value)}(r:KT H kvs xs)(k:List eZ):lY (yW kvs k) ((atKey xs k).map (·.2)):=by
 induction r with
 |nil=>exact True.intro
 |@cons p q ps qs h t ih=>
  obtain⟨h1,_,h2⟩:=h;by_cases e:p.1=k
  ·have e':q.1=k:=h1.symm.trans e;have b:atKey (q::qs) k=some q.2:=by simp[atKey,eR,e']
   rw[uN e,b];exact h2
  ·have e':¬q.1=k:=λz=>e (h1.trans z)
   have b:atKey (q::qs) k=atKey qs k:=by simp[atKey,eR,e']
   rw[qN e,b];exact ih
theorem KT.repl{xs:List (List eZ×Addr×Value)}(r:KT H kvs xs)(k:List eZ)(ry:RelV y u):
 KT H (kvs.map λkv=>if kv.1=k then(kv.1,y)else kv) (xs.map (putAt k u)):=by
 induction r with
 |nil=>exact .nil
 |@cons p q ps qs h t ih=>
  rw[cD,cD];refine .cons ?_ ih;obtain⟨h1,h2,h3⟩:=h;unfold putAt;by_cases e:p.1=k
  ·rw[aH e,aH (h1.symm.trans e)];exact⟨h1,h2,ry⟩
  ·rw[aF e,aF (λz=>e (h1.trans z))];exact⟨h1,h2,h3⟩
theorem KT.put{xs:List (List eZ×Addr×Value)}(r:KT H kvs xs)(k:List eZ)(hb:H b=some (.tup (k.map kV)))(ry:RelV y u):
 KT H (jZ kvs k y) (storedH xs k b u):=by
 have e:(kvs.any λkv=>decide (kv.1=k))=(atKey xs k).isSome:=by
  rw[sO,(r.val k).isSome_eq,gG]
 unfold jZ storedH;rw[e];by_cases q:(atKey xs k).isSome=true
 ·rw[aH q,aH q];exact r.repl k ry
 ·rw[aF q,aF q];exact Paired.snoc r ⟨rfl,hb,ry⟩
theorem KT.keeps{xs:List (List eZ×Addr×Value)}(r:KT H kvs xs)(ht:∀b ys,H b=some (.tup ys)->H' b=some (.tup ys)):KT H' kvs xs:=
 Paired.mapP r λ_ _ z=>⟨z.1,ht _ _ z.2.1,z.2.2⟩
theorem gx{u:HO}(ok:lJ P w H h)(e:Rd H a u):fI P w H h a u:=e.ok ok
theorem kN{kvs:List (eZ×V)}(ok:lJ P w H h)(e:Rd H a (.dK kvs)):kvs.length<=sizeLine/\(a==sysModules)=false/\∃vs,KV kvs vs/\h.DictOf (yC P w) a vs:=
 show fI P w H h a (.dK kvs)from gx ok e
theorem ir{kvs:List (eZ×V)}(ok:lJ P w H h)(e:H a=some (.dK kvs)):kvs.length<=sizeLine/\(a==sysModules)=false/\∃vs,KV kvs vs/\h.DictOf (yC P w) a vs:=kN ok (.inl e)
theorem wU{ks:List eZ}(ok:lJ P w H h)(e:H a=some (.tup (ks.map kV))):(tupleKind (yC P w)).is h ks a:=by
 obtain⟨_,its,r,o,h1,h2,n,h3⟩:=(show fI P w H h a (.tup (ks.map kV))from ok a _ e)
 exact⟨o,its.toArray,n,h1,h2,h3,by simpa using ZC r⟩
theorem JC(ok:lJ P w H h)(e:Rd H a (.dT kvs)):kvs.length<=sizeLine/\(a==sysModules)=false/\
 ∃xs,KT H kvs xs/\h.DictOfH (tupleKind (yC P w)) a xs:=by
 obtain⟨z,y,xs,r,o,es,ep,h1,h2,h3,h4,h5⟩:=(show fI P w H h a (.dT kvs)from gx ok e)
 refine⟨z,y,xs,r,o,es,ep,h1,h2,h3,h4,λx hx=>?_,h5⟩;have all:∀{l:List (List eZ×V)}{m:List (List eZ×Addr×Value)},KT H l m->∀x∈m,(tupleKind (yC P w)).is h x.1 x.2.1:=by
  intro l m q
  induction q with
  |nil=>intro x hx;exact nomatch hx
  |@cons p q ps qs hq t ih=>
   intro x hx;rcases bI.mp hx with e |hx
   ·subst e;exact wU ok (by rw[←hq.1];exact hq.2.1)
   ·exact ih x hx
 exact all r x hx
theorem ip(ok:lJ P w H h)(e:H a=some (.dT kvs)):kvs.length<=sizeLine/\(a==sysModules)=false/\
 ∃xs,KT H kvs xs/\h.DictOfH (tupleKind (yC P w)) a xs:=JC ok (.inl e)
def nU(H:Hp)(a:Addr)(y:V)(r:Option V):Prop:=
 (∃kvs k,Rd H a (.dK kvs)/\y=kV k/\r=yW kvs k)\/∃kvs k b,Rd H a (.dT kvs)/\y=.ref b/\H b=some (.tup (k.map kV))/\r=yW kvs k
def rR(H:Hp)(a:Addr)(y v:V)(H':Hp):Prop:=
 (∃kvs k,H a=some (.dK kvs)/\y=kV k/\kvs.length<sizeLine/\H'=upd H a (.dK (jZ kvs k v)))\/
 ∃kvs k b,H a=some (.dT kvs)/\y=.ref b/\H b=some (.tup (k.map kV))/\kvs.length<sizeLine/\H'=upd H a (.dT (jZ kvs k v))
theorem nU.k{kvs:List (eZ×V)}{k:eZ}(e:H a=some (.dK kvs)):nU H a (kV k) (yW kvs k):=.inl ⟨kvs,k,.inl e,rfl,rfl⟩
theorem nU.t{k:List eZ}(e:H a=some (.dT kvs))(eb:H b=some (.tup (k.map kV))):nU H a (.ref b) (yW kvs k):=.inr ⟨kvs,k,b,.inl e,rfl,eb,rfl⟩
theorem rR.k{kvs:List (eZ×V)}{k:eZ}(e:H a=some (.dK kvs))(hl:kvs.length<sizeLine):rR H a (kV k) v (upd H a (.dK (jZ kvs k v))):=.inl ⟨kvs,k,e,rfl,hl,rfl⟩
theorem rR.t{k:List eZ}(e:H a=some (.dT kvs))(eb:H b=some (.tup (k.map kV)))(hl:kvs.length<sizeLine):
 rR H a (.ref b) v (upd H a (.dT (jZ kvs k v))):=.inr ⟨kvs,k,b,e,rfl,eb,hl,rfl⟩
section
variable {r:Value} {o:Option V}
theorem Inv.big(I:Inv X aI σ H s):sysModules<s.heap.objs.size:=by
 have h:mainGlobals<s.heap.objs.size:=(I.mod.glob.keeps I.bk).lt;exact Nat.lt_trans (by decide) h
theorem MS(hu:A.units+1<cLine)(I:Inv X aI σ H s)(g:nU H a y (some v))(ry:RelV y u)(h:∀w' s',Inv X aI σ H s'->RelV v w'->Q w' s'):
 wpAny (model X.prog X.w) A (getItem (.ref a) u) Q E s:=by
 rcases g with⟨kvs,k,e,ey,l⟩ |⟨kvs,k,b,e,ey,eb,l⟩
 ·subst ey;obtain⟨z,hd,vs,mH,dd⟩:=kN I.hok e;obtain⟨w',hw,rw'⟩:=lY.some_of (v:=v) (o:=valueAt vs k) (by rw[l];exact mH.val k);exact wpAny_getItem_of (ZN ry) dd.mapOf hw (h w' _ (I.tok _) rw')
 ·subst ey;cases (show u=Value.ref b from ry);obtain⟨z,hd,xs,mH,dd⟩:=JC I.hok e;obtain⟨w',hw,rw'⟩:=lY.some_of (v:=v) (o:=(atKey xs k).map (·.2)) (by rw[l];exact mH.val k);obtain⟨p,hp,hp2⟩:=bD.mp hw;refine wpAny_getItem_heap (eJ hu) (wU I.hok eb) dd hp ?_;rw[hp2];exact h w' _ (I.tok _) rw'
theorem d_in(hu:A.units+1<cLine)(I:Inv X aI σ H s)(g:nU H a y o)(ry:RelV y u)(h:∀s',Inv X aI σ H s'->Q (.bool o.isSome) s'):
 wpAny (model X.prog X.w) A (compareOp .In u (.ref a)) Q E s:=by
 rcases g with⟨kvs,k,e,ey,l⟩ |⟨kvs,k,b,e,ey,eb,l⟩
 ·subst ey;obtain⟨z,hd,vs,mH,dd⟩:=kN I.hok e;refine wpAny_in_of (ZN ry) hd dd.mapOf ?_;rw[←(mH.val k).isSome_eq,←l];exact h _ (I.tok _)
 ·subst ey;cases (show u=Value.ref b from ry);obtain⟨z,hd,xs,mH,dd⟩:=JC I.hok e;refine wpAny_in_heap (eJ hu) (wU I.hok eb) hd dd ?_;have q:=(mH.val k).isSome_eq;rw[gG]at q;rw[←q,←l];exact h _ (I.tok _)
theorem fb(hu:A.units+1<cLine)(I:Inv X aI σ H s)(g:nU H a y o)(ry:RelV y u)(h:∀s',Inv X aI σ H s'->Q (.bool (!o.isSome)) s'):
 wpAny (model X.prog X.w) A (compareOp .NotIn u (.ref a)) Q E s:=by
 rcases g with⟨kvs,k,e,ey,l⟩ |⟨kvs,k,b,e,ey,eb,l⟩
 ·subst ey;obtain⟨z,hd,vs,mH,dd⟩:=kN I.hok e;refine wpAny_notIn_of (ZN ry) hd dd.mapOf ?_;rw[←(mH.val k).isSome_eq,←l];exact h _ (I.tok _)
 ·subst ey;cases (show u=Value.ref b from ry);obtain⟨z,hd,xs,mH,dd⟩:=JC I.hok e;refine wpAny_notIn_heap (eJ hu) (wU I.hok eb) hd dd ?_;have q:=(mH.val k).isSome_eq;rw[gG]at q;rw[←q,←l];exact h _ (I.tok _)
theorem wC{ob:HO}(I:Inv X aI σ H s)(mu:Mut (H a))(hs:Heap.SameBut a s.heap h')(he:∃q,h'.get? a=some q)(new:fI X.prog X.w (upd H a ob) h' a ob):
 Inv X aI σ (upd H a ob) {s with heap:=h',toks:=t'}:=
 I.write (x:=a) (e:=a) mu (.inl rfl) (λb q hb z=>(hs.2 b hb).trans z) he new
theorem EX{kvs:List (eZ×V)}{vs:List (eZ×Value)}(z:kvs.length<=sizeLine)(hd:(a==sysModules)=false)(mH:KV kvs vs)(dd:h'.DictOf (yC P w) a vs):
 fI P w H' h' a (.dK kvs):=⟨z,hd,vs,mH,dd⟩
theorem MR{Q:Unit->Shared->Prop}(hu:A.units+1<cLine)(I:Inv X aI σ H s)(g:rR H a y v H')(ry:RelV y u)(rv:RelV v r)(h:∀s',Inv X aI σ H' s'->Q Unit.unit s'):
 wpAny (model X.prog X.w) A (setItem (.ref a) u r) Q E s:=by
 rcases g with⟨kvs,k,e,ey,l,eH⟩ |⟨kvs,k,b,e,ey,eb,l,eH⟩
 ·subst ey eH;obtain⟨z,hd,vs,mH,dd⟩:=ir I.hok e;have hz:vs.length<=sizeLine:=by rw[←mH.length];exact z
  have hl:(jZ kvs k v).length<=sizeLine:=by have :=uF kvs k v;lia
  refine wpAny_setItem_pairs (hsz:=hz) (ZN ry) dd λh' dd' hs=>h _ ?_
  have he:∃q,h'.get? a=some q:=let ⟨q,_,_,hq,_⟩:=dd';⟨q,hq⟩;exact wC I (by rw[e];exact True.intro) hs he (EX hl hd (mH.put k rv) dd')
 ·subst ey eH;cases (show u=Value.ref b from ry);obtain⟨z,hd,xs,mH,dd⟩:=ip I.hok e;have hz:xs.length<=sizeLine:=by rw[←fQ mH];exact z
  have hl:(jZ kvs k v).length<=sizeLine:=by have :=uF kvs k v;lia
  refine wpAny_setItem_heap (hsz:=hz) (eJ hu) (wU I.hok eb) dd λh' dd' hs=>h _ ?_
  obtain⟨q,es,ep,hq,h2,h3,h4,_,h5⟩:=dd';refine wC I (by rw[e];exact True.intro) hs ⟨q,hq⟩ ⟨hl,hd,_,(mH.put k eb rv).keeps λc ys ec=>?_,q,es,ep,hq,h2,h3,h4,h5⟩;rw[zL (qD ec e (λz=>nomatch z))];exact ec
end
section
variable {kvs:List (eZ×V)} {k:eZ}
theorem d_len(I:Inv X aI σ H s)(e:Rd H a (.dK kvs))(h:∀t s',Inv X aI σ H s'->Q (.int kvs.length t) s'):wpAny (model X.prog X.w) A (call (.builtin "len") [.ref a]) Q E s:=by
 obtain⟨z,hd,vs,mH,dd⟩:=kN I.hok e;refine call_len_dict hd dd (by rw[←mH.length];rw[eT]at z;lia) ?_;rw[←mH.length];exact h _ _ (I.tok _)
end
def oe(i:Expr):Prop:=∀ov iv,subscripted i false ov iv=operate [ov,iv] (getItem ov iv)
theorem GD{env:Env}{value slice:Expr}{pos:Pos}{id:String}
 (hl:typeLookup (.type T) "__getitem__"=pure (some (.builtin id))) (hs:oe slice)
 (h:wpAny (model prog w) A (eval value env) (λo s₁=>wpAny (model prog w) A (eval slice env) (λi s₂=>s₂.TypeIs o T/\wpAny (model prog w) A (getItem o i) Q E s₂) E s₁) E s):
 wpAny (model prog w) A (eval (.Subscript value slice pos) env) Q E s:=by
 refine Subscript_ (mB h (λo s₁ h₁=>mB h₁ (λi s₂ h₂=>?_) λ_ _ x=>x) λ_ _ x=>x);obtain⟨hT,h₂⟩:=h₂;unfold subscriptTail;refine aG ?_;rw[getitemInPython_of_ne hT.not_modules];refine aG (wpAny_specialOf hT hl ?_);have fin:wpAny (model prog w) A (subscripted slice false o i) (λr s₃=>wpAny (model prog w) A (letTemporaryGo value o r >>= λ_=>pure r) Q E s₃) E s₂:=by
  rw[hs o i];exact wpAny_operating (mB h₂ (λr s₃ h₃=>aG (wpAny_letTemporaryGo (aU h₃))) λ_ _ x=>x)
 first
  |exact aU (aG fin)
  |exact aG (aU (aG fin))
  |exact aG fin
theorem BI{o:Option V}(I:Inv X aI σ H s)(g:nU H a y o):s.TypeIs (.ref a) "dict":=by
 rcases g with⟨kvs,k,e,_,_⟩ |⟨kvs,k,b,e,_,_,_⟩
 ·obtain⟨_,_,vs,_,dd⟩:=kN I.hok e;exact dd.typeIs
 ·obtain⟨_,_,xs,_,dd⟩:=JC I.hok e;exact dd.typeIs
def gl(td ty:TE):TE:=λσ H Q=>td σ H λx H1=>ty σ H1 λy H2=>mI x λa=>∃v,nU H2 a y (some v)/\Q v H2
def aq(ty td:TE):TE:=λσ H Q=>ty σ H λy H1=>td σ H1 λx H2=>mI x λa=>∃o,nU H2 a y o/\Q (.bl o.isSome) H2
def GC(ty td:TE):TE:=λσ H Q=>ty σ H λy H1=>td σ H1 λx H2=>mI x λa=>∃o,nU H2 a y o/\Q (.bl (!o.isSome)) H2
def JX(td ty tv:TE):TS:=λD σ H=>tv σ H λv H1=>td σ H1 λx H2=>ty σ H2 λy H3=>mI x λa=>∃H4,rR H3 a y v H4/\D.nx σ H4
section
variable {i value:Expr} {pos tpos:Pos} {td ty tv:TE}
theorem YJ(hu:X.A.units+1<cLine)(ho:PE X o td)(hi:PE X i ty)(hs:oe i):PE X (.Subscript o i pos) (gl td ty):=by
 intro aI s σ H Q I h;refine GD ja.lookup hs (eK (ho aI s σ H _ I h) λu s1 ⟨x,H1,I1,rx,q1⟩=>eK (hi aI s1 σ H1 _ I1 q1) λiv s2 ⟨y,H2,I2,ry,q2⟩=>?_);replace q2:=xS q2;obtain⟨a,rfl,v,g,q2⟩:=q2;obtain rfl:u=Value.ref a:=rx;exact⟨BI I2 g,MS hu I2 g ry λw' s3 I3 rw'=>⟨v,H2,I3,rw',q2⟩⟩
theorem DE(hu:X.A.units+1<cLine)(hi:PE X i ty)(ho:PE X o td):PC X .In i o (aq ty td):=by
 intro aI s σ H Q I h;refine eK (hi aI s σ H _ I h) λiv s1 ⟨y,H1,I1,ry,q1⟩=>eK (ho aI s1 σ H1 _ I1 q1) λu s2 ⟨x,H2,I2,rx,q2⟩=>?_
 replace q2:=xS q2;obtain⟨a,rfl,ov,g,q2⟩:=q2;obtain rfl:u=Value.ref a:=rx;exact d_in hu I2 g ry λs3 I3=>⟨.bl ov.isSome,H2,I3,rfl,q2⟩
theorem LQ(hu:X.A.units+1<cLine)(hi:PE X i ty)(ho:PE X o td):PC X .NotIn i o (GC ty td):=by
 intro aI s σ H Q I h;refine eK (hi aI s σ H _ I h) λiv s1 ⟨y,H1,I1,ry,q1⟩=>eK (ho aI s1 σ H1 _ I1 q1) λu s2 ⟨x,H2,I2,rx,q2⟩=>?_
 replace q2:=xS q2;obtain⟨a,rfl,ov,g,q2⟩:=q2;obtain rfl:u=Value.ref a:=rx;exact fb hu I2 g ry λs3 I3=>⟨.bl (!ov.isSome),H2,I3,rfl,q2⟩
theorem kF(hu:X.A.units+1<cLine)(ho:PE X o td)(hi:PE X i ty)(hv:PE X value tv)(hs:swapsWith value (some (.Subscript o i pos')) pos.line X.env=pure false):
 PS X (.Assign [.Subscript o i pos'] value pos) (JX td ty tv):=by
 intro aI s σ H D I h;refine wpAny_Assign_Subscript (eK (hv aI s σ H _ I h) λr s1 ⟨v,H1,I1,rv,q1⟩=>eK (ho aI s1 σ H1 _ I1 q1) λu s2 ⟨x,H2,I2,rx,q2⟩=>eK (hi aI s2 σ H2 _ I2 q2) λiv s3 ⟨y,H3,I3,ry,q3⟩=>?_) hs;replace q3:=xS q3;obtain⟨a,rfl,H4,g,q3⟩:=q3;obtain rfl:u=Value.ref a:=rx;exact MR hu I3 g ry rv λs4 I4=>⟨σ,H4,I4,q3⟩
end
theorem BH(h:Heap)(hb:sysModules<h.objs.size):fI P w H (h.push {cls:=.type "dict",data:=.dict #[]}) h.objs.size (.dK []):=
 ⟨cO _,dS.mpr (cM (cG hb)),[],.nil,Heap.DictOf.new h⟩
theorem VH(h:Heap)(hb:sysModules<h.objs.size):fI P w H (h.push {cls:=.type "dict",data:=.dict #[]}) h.objs.size (.dT []):=
 ⟨cO _,dS.mpr (cM (cG hb)),[],.nil,_,#[],0,bQ _ rfl,⟨rfl,rfl,rfl⟩,rfl,rfl,ga⟩
def jj:TE:=λ_ H Q=>∀p,H p=none->Q (.ref p) (upd H p (.dK []))
def CS:TE:=λ_ H Q=>∀p,H p=none->Q (.ref p) (upd H p (.dT []))
section
variable {pos:Pos}
theorem tR:PE X (.Dict [] [] pos) jj:=λaI s σ H Q I h=>
 wpAny_Dict_empty ⟨.ref s.heap.objs.size,_,I.laid (a:=s.heap.objs.size) (o:=.dK []) (t':=s.toks) (λ_ _ q=>aS _ q) (aJ _) (BH s.heap I.big),rfl,h _ (I.hok.fresh (aJ _))⟩
theorem XL:PE X (.Dict [] [] pos) CS:=λaI s σ H Q I h=>
 wpAny_Dict_empty ⟨.ref s.heap.objs.size,_,I.laid (a:=s.heap.objs.size) (o:=.dT []) (t':=s.toks) (λ_ _ q=>aS _ q) (aJ _) (VH s.heap I.big),rfl,h _ (I.hok.fresh (aJ _))⟩
end
def YZ:List (TE×TE)->St->Hp->(List (V×V)->Hp->Prop)->Prop
 |[],_,H,Q=>Q [] H
 |(tk,tv)::r,σ,H,Q=>tk σ H λx H1=>tv σ H1 λy H2=>YZ r σ H2 λps H3=>Q ((x,y)::ps) H3
abbrev VV:List (V×V)->List (Value×Value)->Prop:=Paired λp q=>RelV p.1 q.1/\RelV p.2 q.2
def PPs(X:Cx)(pos:Pos)(keys:List (Option Expr))(values:List Expr)(trs:List (TE×TE)):Prop:=
 ∀(aI:List (Addr×Obj)) (s:Shared) (σ:St) (H:Hp) (Q:List (V×V)->Hp->Prop),Inv X aI σ H s->YZ trs σ H Q->
  wpAny (model X.prog X.w) X.A (evalPairs (pairTrees keys values X.env pos)) (λvs s'=>∃ps H',Inv X aI σ H' s'/\VV ps vs/\Q ps H') X.xe s
theorem cc{pos:Pos}:PPs X pos [] [] []:=λaI s σ H Q I h=>pairTrees_nil_walk ⟨[],H,I,.nil,h⟩
theorem RE{pos:Pos}{k v:Expr}{ks:List (Option Expr)}{vs:List Expr}{tk tv:TE}{trs:List (TE×TE)}(hk:PE X k tk)(hv:PE X v tv)(hr:PPs X pos ks vs trs):
 PPs X pos (some k::ks) (v::vs) ((tk,tv)::trs):=λaI s σ H Q I h=>
 pairTrees_cons_walk (eK (hk aI s σ H _ I h) λu s1 ⟨x,H1,I1,rx,q1⟩=>eK (hv aI s1 σ H1 _ I1 q1) λw2 s2 ⟨y,H2,I2,ry,q2⟩=>
  eK (hr aI s2 σ H2 _ I2 q2) λws s3 ⟨ps,H3,I3,mH,q3⟩=>⟨(x,y)::ps,H3,I3,.cons ⟨rx,ry⟩ mH,q3⟩)
def vO(kvs more:List (eZ×V)):List (eZ×V):=more.foldl (λmD kv=>jZ mD kv.1 kv.2) kvs
theorem KV.merge:∀{more:List (eZ×V)}{rs:List (eZ×Value)}{kvs:List (eZ×V)}{vs:List (eZ×Value)},KV more rs->KV kvs vs->KV (vO kvs more) (merged vs rs):=by
 intro more rs kvs vs r;unfold KV at r
 induction r generalizing kvs vs with
 |nil=>intro q;exact q
 |@cons p q ps qs h t ih=>
  intro r0;have e:KV (jZ kvs p.1 p.2) (stored vs q.1 q.2):=by
   have :=r0.put p.1 h.2;rw[←h.1];exact this
  exact ih e
theorem wJ:∀(more kvs:List (eZ×V)),(vO kvs more).length<=kvs.length+more.length
 |[],kvs=>by show kvs.length<=kvs.length+0;lia
 |p::r,kvs=>by
  have h1:=wJ r (jZ kvs p.1 p.2);have h2:=uF kvs p.1 p.2;show(vO (jZ kvs p.1 p.2) r).length<=_;rw[bB];lia
theorem JF{P:Program}{w:World}:∀{kvs:List (eZ×V)}{ws:List (Value×Value)},VV (kvs.map λkv=>(kV kv.1,kv.2)) ws->∃rs,Carries (yC P w) ws rs/\KV kvs rs
 |[],_,r=>by rw[pN]at r;cases r;exact⟨[],True.intro,.nil⟩
 |p::kvs,_,r=>by
  rw[cD]at r;cases r with
  |@cons a b as bs h t=>
   obtain⟨rs,c,q⟩:=JF (P:=P) (w:=w) t;obtain⟨b1,b2⟩:=b;exact⟨(p.1,b2)::rs,⟨ZN h.1,rfl,c⟩,.cons ⟨rfl,h.2⟩ q⟩
def tDisp(trs:List (TE×TE)):TE:=λσ H Q=>∀p,H p=none->YZ trs σ (upd H p (.dK [])) λps H2=>H2 p=some (.dK [])/\∃kvs:List (eZ×V),ps=kvs.map (λkv=>(kV kv.1,kv.2))/\kvs.length<=15/\Q (.ref p) (upd H2 p (.dK (vO [] kvs)))
theorem cu{pos:Pos}{keys:List (Option Expr)}{values:List Expr}{trs:List (TE×TE)}(h:PPs X pos keys values trs)(hall:keys.all (·.isSome)=true)(hl:keys.length=values.length)(h0:keys≠[])
 (h15:keys.length<=15):PE X (.Dict keys values pos) (tDisp trs):=by
 intro aI s σ H Q I q;have hn:=I.hok.fresh (aJ s.heap.objs.size);have I1:=I.laid (a:=s.heap.objs.size) (o:=.dK []) (h':=s.heap.push {cls:=.type "dict",data:=.dict #[]}) (t':=s.toks) (λ_ _ q=>aS _ q) (aJ _) (BH s.heap I.big);refine wpAny_Dict_walk (knd:=yC X.prog X.w) hall hl h0 h15 (eK (h aI _ σ _ _ I1 (q _ hn)) λws s2 ⟨ps,H2,I2,mH,e,kvs,ep,lk,q2⟩=>?_);subst ep;obtain⟨rs,c,rk⟩:=JF (P:=X.prog) (w:=X.w) mH;obtain⟨z,hd,vs0,r0,dd⟩:=ir I2.hok e;cases r0;refine⟨rs,c,dd,λh' dd' hs=>⟨.ref s.heap.objs.size,_,?_,rfl,q2⟩⟩;have hz:(vO [] kvs).length<=sizeLine:=by
  have h1:=wJ kvs [];rw[lD]at h1;rw[eT];lia
 have he:∃q,h'.get? s.heap.objs.size=some q:=let ⟨q,_,_,hq,_⟩:=dd';⟨q,hq⟩;exact wC I2 (by rw[e];exact True.intro) hs he (EX hz hd (rk.merge .nil) dd')
structure M1(X:Cx)(o:Expr)(m:Str)(iU:Pos)(e:Expr)(gP:Pos):Prop where
 base:attributeBase o m X.env (eval o X.env)=eval o X.env
 few:((backTo gP (starEach [e] X.env)).all (λx=>!x.1)&&(backToKw gP (keywordEach [] X.env)).all (λx=>x.1.isSome)
  &&decide (([e]:List Expr).length+([]:List Keyword).length+(if([]:List Keyword).isEmpty then 0 else 1)<30))=true
 line:(iU.endLine==gP.line)=true
 trees:backTo gP (starEach [e] X.env)=[(false,eval e X.env)]
structure M2(X:Cx)(o:Expr)(m:Str)(iU:Pos)(e f:Expr)(gP:Pos):Prop where
 base:attributeBase o m X.env (eval o X.env)=eval o X.env
 few:((backTo gP (starEach [e,f] X.env)).all (λx=>!x.1)&&(backToKw gP (keywordEach [] X.env)).all (λx=>x.1.isSome)
  &&decide (([e,f]:List Expr).length+([]:List Keyword).length+(if([]:List Keyword).isEmpty then 0 else 1)<30))=true
 line:(iU.endLine==gP.line)=true
 trees:backTo gP (starEach [e,f] X.env)=[(false,eval e X.env),(false,eval f X.env)]
def IsD(H:Hp)(a:Addr):Prop:=(∃kvs,Rd H a (.dK kvs))\/∃kvs,Rd H a (.dT kvs)
theorem TL(I:Inv X aI σ H s)(d:IsD H a):
 s.TypeIs (.ref a) "dict"/\(∀b,Value.ref a=.ref b->∃ob,s.heap.get? b=some ob/\ob.dict=none)/\(a==sysModules)=false:=by
 rcases d with⟨kvs,e⟩ |⟨kvs,e⟩
 ·obtain⟨_,hd,vs,_,dd⟩:=kN I.hok e;refine⟨dd.typeIs,λb q=>?_,hd⟩;cases q;obtain⟨ob,_,_,h1,h2,_⟩:=dd;exact⟨ob,h1,h2.2.1⟩
 ·obtain⟨_,hd,xs,_,dd⟩:=JC I.hok e;refine⟨dd.typeIs,λb q=>?_,hd⟩;cases q;obtain⟨ob,_,_,h1,h2,_⟩:=dd;exact⟨ob,h1,h2.2.1⟩
section
variable {d:V} {r:Value} {o:Option V}
theorem nk(hu:A.units+1<cLine)(I:Inv X aI σ H s)(g:nU H a y o)(ry:RelV y u)(rd:RelV d r)(h:∀w' s',Inv X aI σ H s'->RelV (o.getD d) w'->Q w' s'):
 wpAny (model X.prog X.w) A (call (.builtin "dict.get") [.ref a,u,r]) Q E s:=by
 rcases g with⟨kvs,k,e,ey,l⟩ |⟨kvs,k,b,e,ey,eb,l⟩
 ·subst ey;obtain⟨z,hd,vs,mH,dd⟩:=kN I.hok e;refine rT hZ dd.typeIs pK (F.args_dict_get_3 _ _ _) (meets_dict_get_default (yC X.prog X.w) a (ZN ry) hd r) ⟨_,dd.mapOf,h _ _ (I.tok _) ?_⟩;rw[l];exact(mH.val k).getD rd
 ·subst ey;cases (show u=Value.ref b from ry);obtain⟨z,hd,xs,mH,dd⟩:=JC I.hok e;refine rT hZ dd.typeIs pK (F.args_dict_get_3 _ _ _) (meetsH_dict_get_default (tupleKind (yC X.prog X.w)) a b hd r) ⟨eJ hu,k,xs,wU I.hok eb,dd,h _ _ (I.tok _) ?_⟩;rw[l];exact(mH.val k).getD rd
end
def OF(td ty tx:TE):TE:=λσ H Q=>td σ H λx H1=>mI x λa=>IsD H1 a/\ty σ H1 λy H2=>tx σ H2 λz H3=>∃o,nU H3 a y o/\Q (o.getD z) H3
section
variable {f:Expr} {gP:Pos} {td ty tx:TE}
theorem RP(hu:X.A.units+1<cLine)(ho:PE X o td)(he:PE X e ty)(hf:PE X f tx)(m:M2 X o "get" iU e f gP):PE X (.Call (.Attribute o "get" iU) [e,f] [] gP) (OF td ty tx):=by
 intro aI s σ H Q I h;refine f7 m.base m.few m.line pC hZ F.type_dict_get (eK (ho aI s σ H _ I h) λu s1 ⟨x,H1,I1,rx,q1⟩=>?_);replace q1:=xS q1;obtain⟨a,rfl,d,q1⟩:=q1;obtain rfl:u=Value.ref a:=rx;obtain⟨t1,t2,_⟩:=TL I1 d;refine⟨t1,t2,?_⟩;rw[m.trees];refine iE rfl (nZ (gH (eK (he aI s1 σ H1 _ I1 q1) λiv s2 ⟨y,H2,I2,ry,q2⟩=>
  gH (eK (hf aI s2 σ H2 _ I2 q2) λfv s3 ⟨z,H3,I3,rz,ov,g,q3⟩=>mQ ?_))))
 exact nk hu I3 g ry rz λw' s4 I4 rw'=>⟨_,H3,I4,rw',q3⟩
end
section
variable {kvs:List (eZ×V)}
end
end L2
namespace Att
open PySem PySem.W PySem.Calls PyProof.Rows
theorem ZW{P:Params}{h:Heap}:∀(ns:List Int)(vs:List Value),WellAll P h vs (ns.map WData.int)->IntsAre vs ns:=by
 intro ns
 induction ns with
 |nil=>
  intro vs w;rw[pN]at w;cases w;exact .nil
 |cons n ns ih=>
  intro vs w;rw[cD]at w;cases w with
  |cons a b=>
   cases a;exact .cons _ _ (ih _ b)
theorem LF{l:OpenLaw}{n:Nat}(hn:l.most=some n){P:Params}{h:Heap}{args:List WData}{vals:List Value}
 (hpre:l.row.toRowW.claim.pre args=true) (hwl:WellAll P h vals args):
 ∃a vs ns,vals=[Value.ref a]/\args=[WData.list (ns.map WData.int)]/\h.get? a=some {cls:=.type "list",data:=.seq vs.toArray}/\IntsAre vs ns/\ns.length<=n:=by
 have hsh:WShape.hasAll [] args [.list .int]=true:=(pre_splitW hpre).1;have hc:l.pre.holds [] {args:=args}=true:=(pre_splitW hpre).2;obtain⟨d,r,rfl,h1,h2⟩:=hasAllW_cons hsh;obtain rfl:=hasAllW_nil h2;obtain⟨xs,rfl,h3⟩:=hasW_list h1;obtain⟨ns,rfl⟩:=items_int h3;have fA:ns.length<=n:=by
  unfold OpenLaw.pre at hc;have h4:(WTm.not (.lt (.lit (.int (n:Int))) (.len (.arg 0)))).holds [] {args:=[.list (ns.map .int)]}=true:=by
   have h4:=(holds_andW hc).1;rw[hn]at h4;exact h4
  have h5:=condW_of h4 (w_not (w_lt w_lit (w_len_list (w_arg rfl))));rw[aE]at h5;refine Nat.le_of_not_lt λq=>?_
  have q':(n:Int)<((ns.length:Nat):Int):=by lia
  first
   |(rw[dH q']at h5;exact absurd h5 (by decide))
   |(simp at h5;lia)
 cases hwl with
 |cons w1 w2=>
  cases w2;cases w1 with
  |list ho hall=>exact⟨_,_,ns,rfl,rfl,ho,ZW ns _ hall,fA⟩
theorem LP(l:OpenLaw)(args:List WData):l.row.toRowW.claim.post args (.bool true) args=true:=
 postW_of (r:=l.row.toRowW) (X:=(true==true))
  (show WShape.has [] (.bool true) .bool=true by first |rfl |decide |simp[WShape.has,WShape.arms,WShape.armsAll])
  (show(WTm.eq .res (.lit (.bool true))).value [] {args:=args,res:=some (.bool true),after:=args}=some (.bool (true==true))from w_eq_bool (w_res rfl) w_lit) rfl
theorem attach_call{l:OpenLaw}{n:Nat}{q:Program}{loose:List Str}{XP:(Str->Option Value)->Heap->Prop}{YP:World->Heap->Prop}{d:DefRec}
 (hn:l.most=some n) (hdf:d.params.defaults=[])
 (call:∀(w:World)(s₀ s₁:Shared)(mg mb:Str->Option Value)(fa:Addr)(o:Obj)(pm cd doc:Value)(a:Addr)(vs:List Value)(ns:List Int),
  Ground q loose [] XP w s₀ mg mb s₁.heap->YP w s₁.heap->
  s₁.heap.get? fa=some o->o.data=.func (docDef d.name d.params d.body d.scope pm cd doc)->s₁.heap.CodeRec cd d.name->mg d.name=some (.ref fa)->
  s₁.heap.get? a=some {cls:=.type "list",data:=.seq vs.toArray}->IntsAre vs ns->ns.length<=n->s₁.gens= #[]->
  codeAny (model l.prog w) callerA (.call (.ref fa) ⟨[.ref a],[]⟩) (λr s'=>r=.ok (.ret (.bool true))/\OldK s₁.heap s'.heap/\s'.os=s₁.os/\AllBare s'.gens) s₁):
 WalkO q loose XP YP l.row.toRowW d [] (λf vs=>PySem.call f vs):=by
 intro w s₀ s₁ mg mb G Y fa o pm cd doc dV kV ho hd hcd hD hmg hg args vals as hpre hlay hrd hwl hlo;obtain rfl:dV=.none:=Dflts.none hD hdf;obtain rfl:kV=.none:=Dflts.noKw hD;obtain⟨a,vs,ns,rfl,rfl,hobj,hints,fA⟩:=LF hn hpre hwl;refine enter_call (f8 (call w s₀ s₁ mg mb fa o pm cd doc a vs ns G Y ho (fd_plain hd) hcd hmg hobj hints fA hg) λr s' hq=>?_);obtain⟨rfl,h2,h3,h4⟩:=hq;exact⟨.inl ⟨.bool true,.bool true,[],rfl,λ_=>rfl,.bool true,LP l _,λ_=>⟨List.Pairwise.nil,λ_ hm=>(nomatch hm)⟩⟩,h2,h3,h4⟩
section
variable {prog:Program} {w:World} {A:Around} {E:Value->Shared->Prop} {s:Shared} {K:Frag}
end
end Att
namespace L2
open PySem PySem.Spec PyProof.Rows
variable {a d f it l r:Addr} {A:Around} {G:Array GenState->Array GenState->Prop} {CX:i8} {X:Cx} {D:CA} {e iter o tg:Expr} {fd:FuncData} {base h h':Heap} {H H':Hp} {aI:List (Addr×Obj)} {fp:List Addr} {ds:List Dt} {outer:List Env} {es ifs:List Expr} {js:List Nat} {N ns ps ys:List Str} {ts:List Tm} {vs xs:List V} {its its':List Value} {M:Model} {i j n:Nat} {tc:Option TT} {iU p pos':Pos} {P prog:Program} {K:W.Frag} {R:Result->Shared->Prop} {s:Shared} {sp:Sp} {σ:St} {qual:Str} {mg:Str->Option Value} {T:String} {ta te:TE} {wi:TI} {tb:TS} {α:Type} {v:V} {u:Value} {E Q:Value->Shared->Prop} {w:World}
local macro_rules | `(()) => `(by lia)
theorem JT:∀{vs:List Value}{ns:List Int},IntsAre vs ns->cV (ns.map V.int) vs
 |_,_,.nil=>.nil
 |_,_,.cons n t h=>.cons ⟨t,rfl⟩ (JT h)
def oa(H:Hp):Prop:=∀b,H b=none\/∃o xs,H b=some (.frz o (.lst xs))
theorem TD{mb:Str->Option Value}{k:Nat}{fa:Addr}{x:Str}{s₁:Shared}{vs:List Value}{ns:List Int}
 (KX:K.In s₁.heap) (hns:s₁.heap.Ns mainGlobals mg) (hb:s₁.heap.Ns builtinsNs mb) (hbb:∀x:Str,x≠"__name__"->mb x=bootBuiltins x) (hlim:s₁.heap.NoLimit) (hg:s₁.gens= #[])
 (ha:s₁.heap.get? a=some {cls:=.type "list",data:=.seq vs.toArray}) (hi:IntsAre vs ns) (hl:ns.length<=sizeLine) (hr:gW k callerA)
 (F:∀base:Heap,K.In base->base.Ns mainGlobals mg->dG P w K mg base CX k fa fd [x] sp) (hbind:∀(s:Shared)(u:Value),BindsTo s fd ⟨[u],[]⟩ [(x,u)])
 (hsp:∀H:Hp,oa H->dF K H a (ns.map V.int)->sp [.ref a] H (λv _=>v=.bl true) λ_ _ _=>False)
 (hCX:∀H e s',CX [] H s₁ (λ_ _ _=>False) e s'->False):
 codeAny (model P w) callerA (.call (.ref fa) ⟨[.ref a],[]⟩) (λr s'=>r=.ok (.ret (.bool true))/\OldK s₁.heap s'.heap/\s'.os=s₁.os/\AllBare s'.gens) s₁:=by
 have rv:=JT hi;have lenV:=hi.length;have core:∀H:Hp,oa H->dF K H a (ns.map V.int)->lJ P w H s₁.heap->(∀b,H b≠none->b=a)->(H a≠none->K.lookup a=none)->
  codeAny (model P w) callerA (.call (.ref fa) ⟨[.ref a],[]⟩) (λr s'=>r=.ok (.ret (.bool true))/\OldK s₁.heap s'.heap/\s'.os=s₁.os/\AllBare s'.gens) s₁:=by
  intro H hO hS hok hA hK;have base_of:∀{b:Addr}{o:Obj},s₁.heap.get? b=some o->H b=none->(US s₁.heap H).get? b=some o:=λe n=>TU e n
  have noA:∀{b:Addr}{o:Obj}{es:Array DictEntry}{ep:Nat},s₁.heap.get? b=some o->o.data=.dict es ep->H b=none:=λ{b o es ep} e d=>by
   cases q:H b with
   |none=>rfl
   |some u=>
    have e':b=a:=hA b (by rw[q];simp);subst e';rw[ha]at e;cases e;have d':Data.seq vs.toArray _=Data.dict es ep:=d;cases d'
  have nsK:∀{b:Addr}{m:Str->Option Value},s₁.heap.Ns b m->(US s₁.heap H).Ns b m:=λ{b m} ⟨o,es,ep,e,d,r⟩=>⟨o,es,ep,base_of e (noA e d),d,r⟩
  have hKb:K.In (US s₁.heap H):=λb o e=>base_of (KX b o e) (by
   cases q:H b with
   |none=>rfl
   |some u=>
    have e':b=a:=hA b (by rw[q];simp);subst e';rw[hK (by rw[q];simp)]at e;cases e)
  have hM:Mod K mg (US s₁.heap H):=⟨hKb,nsK hns,⟨mb,nsK hb,hbb⟩,let ⟨mc,h1,h2⟩:=hlim;⟨mc,nsK h1,h2⟩⟩
  have e0:FJ P w K mg (US s₁.heap H) callerA [] s₁ H:=⟨rfl,hM,λb o e=>dt e,Nat.le_of_eq (ML _ _),trivial,λb hb=>absurd (show b∈([]:List Addr)from hb) (by simp),hok,.of_eq hg⟩
  refine f8 ((F _ hKb (nsK hns)).run callerA [] s₁ H ⟨[.ref a],[]⟩ [.ref a] [.ref a] _ _ hr e0 (hbind s₁ (.ref a)) (.cons rfl .nil) (hsp H hO hS)) λr s' h=>?_
  cases r with
  |error e=>exact(hCX H e s' h).elim
  |ok fl=>
   cases fl with
   |next=>exact False.elim h
   |brk=>exact False.elim h
   |cont=>exact False.elim h
   |ret u=>
    obtain⟨v,H',os,bare,un,hok',r',q⟩:=h;have q':v=.bl true:=q;subst q';obtain rfl:u=Value.bool true:=r';refine⟨rfl,OldK.of_keep λb o e=>?_,os,bare⟩;cases q:H b with
    |none=>exact un.keep b o e q (by intro z;exact absurd (show b∈([]:List Addr)from z) (by simp)) (by simp)
    |some u=>
     rcases hO b with z |⟨ob,xs,z⟩
     ·rw[q]at z;cases z
     ·have z2:=un.frzs b ob _ z;obtain⟨e1,_⟩:=hok b _ z;obtain⟨e2,_⟩:=hok' b _ z2;rw[e]at e1;cases e1;exact e2
 cases hk:K.lookup a with
 |some o=>
  have e:=KX a o hk;rw[ha]at e;cases e;refine core (λ_=>none) (λ_=>.inl rfl) (.inr ⟨_,vs.toArray,_,hk,rfl,rfl,rfl,by rw[aL,lenV];exact hl,by simpa using rv⟩) (λb u z=>by have z':(none:Option HO)=some u:=z;cases z') (λb z=>absurd rfl z) λz=>absurd rfl z
 |none=>
  refine core (λb=>if b=a then some (.frz {cls:=.type "list",data:=.seq vs.toArray} (.lst (ns.map V.int)))else none) (λb=>?_) (.inl (.inr ⟨{cls:=.type "list",data:=.seq vs.toArray},aH rfl⟩)) (λb u z=>?_) (λb z=>?_) λ_=>hk
  ·by_cases hb:b=a
   ·exact .inr ⟨_,_,aH hb⟩
   ·exact .inl (aF hb)
  ·by_cases hb:b=a
   ·have z':=(aH hb).symm.trans z;cases z';subst hb;exact⟨ha,by rw[aE];exact hl,vs,_,rv,ha⟩
   ·have z':=(aF hb).symm.trans z;cases z'
  ·by_cases hb:b=a
   ·exact hb
   ·exact absurd (aF hb) z
theorem walk_of{l:W.OpenLaw}{k:Nat}{q:Program}{loose:List Str}{XP:(Str->Option Value)->Heap->Prop}{YP:World->Heap->Prop}{d:DefRec}{K:Params->W.Frag}{CX:World->i8}{sp:World->Sp}{x:Str}
 (hn:l.most=some n) (hn2:n<=sizeLine) (hdf:d.params.defaults=[]) (hr:gW k callerA)
 (hY:∀(w:World)(h:Heap),YP w h->(K w.params).In h)
 (F:∀(w:World)(mg:Str->Option Value)(fa:Addr)(h:Heap),(K w.params).In h->h.Ns mainGlobals mg->mg d.name=some (.ref fa)->
  ∃fd:FuncData,(∀(s:Shared) (u:Value),BindsTo s fd ⟨[u],[]⟩ [(x,u)])/\
   ∀base:Heap,(K w.params).In base->base.Ns mainGlobals mg->dG l.prog w (K w.params) mg base (CX w) k fa fd [x] (sp w))
 (hsp:∀(w:World)(H:Hp)(a:Addr)(ns:List Int),ns.length<=n->oa H->dF (K w.params) H a (ns.map V.int)->sp w [.ref a] H (λv _=>v=.bl true) λ_ _ _=>False)
 (hCX:∀(w:World)(H:Hp)(s:Shared)(e:Value)(s':Shared),CX w [] H s (λ_ _ _=>False) e s'->False):
 W.WalkO q loose XP YP l.row.toRowW d [] (λf vs=>PySem.call f vs):=by
 refine Att.attach_call hn hdf λw s₀ s₁ mg mb fa o pm cd doc a vs ns G Y ho hd hcd hmg hobj hints fA hg=>?_
 have KX:=hY w _ Y;obtain⟨fd,hb,hF⟩:=F w mg fa _ KX G.T.g hmg;exact TD KX G.T.g G.T.b G.T.builtins G.T.nolimit hg hobj hints (dI fA hn2) hr hF hb (λH hO hS=>hsp w H a ns fA hO hS) λH e s'=>hCX w H s₁ e s'
def YL(s:Stmt)(j:Nat):Stmt:=match s with
 | .ClassDef _ _ _ body _ _ _ _ _ _ _=>body.getD j (.Pass ⟨0,0,0,0⟩)
 |_=>.Pass ⟨0,0,0,0⟩
def jV(s:Stmt):Arguments:=match s with
 | .FunctionDef _ a _ _ _ _ _ _ _ _=>a
 |_=>{posonlyargs:=[],args:=[],vararg:=none,kwonlyargs:=[],kw_defaults:=[],kwarg:=none,defaults:=[]}
def jA(s:Stmt):List Stmt:=match s with
 | .FunctionDef _ _ b _ _ _ _ _ _ _=>b
 |_=>[]
def zK(s:Stmt):Scope:=match s with
 | .FunctionDef _ _ _ _ _ _ sc _ _ _=>sc
 |_=>{kind:=.function,names:=[],isGenerator:=false,isCoroutine:=false}
abbrev gJ:i8:=λ_ _ _ _ _ _=>False
abbrev E0:XK:=λ_ _ _=>False
theorem HF:ZI gJ X E0:=λ_ _ _ _ _ _ _ h=>h.elim
structure gL(K:W.Frag)(x qual:Str)(st:Stmt)(f:Addr)(fd:FuncData):Prop where
 ex:∃(oc:Value)(od:Option Addr)(kV doc pm:Value)(an:Option Addr)(fL ct:Value)(osl:Array (Option Value)),
  fd=W.fnOf x qual (jV st) (jA st) (zK st) .none kV doc pm an fL ct/\K.lookup f=some ⟨oc,od,.func fd,osl⟩/\W.codeIn K fL qual=true
 kp:W.keepIn K (.ref f)=true
theorem gL.ok{x:Str}{st:Stmt}{k:Nat}(F:gL K x qual st f fd)(S:bW N ps (zK st))(len:∀vs H Q E,sp vs H Q E->vs.length=ps.length)
 (hbody:∀(fL:Value)(A:Around)(outer:List Env)(s:Shared)(H:Hp)(vs:List V)(Q:VK)(E:XK),gW k (A.deeper (envOfC qual (zK st) s.heap.objs.size f fL))->sp vs H Q E->
  ∃t,FG (JE gJ P w K mg base N qual (zK st) f fL A outer s H E).nox (jA st) t/\t {nx:=λ_ H'=>Q .non H',rt:=Q} (start N vs) H):dG P w K mg base gJ (k+1) f fd ps sp:=by
 obtain⟨oc,od,kV,doc,pm,an,fL,ct,osl,rfl,lk,hcd⟩:=F.ex;refine fn_of lk hcd S len λA outer s H vs Q E hr hsp=>?_
 obtain⟨t,h,q⟩:=hbody fL A outer s H vs Q E hr hsp;exact⟨t,h.nox,q⟩
theorem gL.binds{x:Str}{st:Stmt}(F:gL K x qual st f fd)
 (h:∀(kV doc pm:Value)(an:Option Addr)(fL ct:Value)(us:List Value),us.length=ps.length->bindArgs (W.fnOf x qual (jV st) (jA st) (zK st) .none kV doc pm an fL ct) ⟨us,[]⟩=pure (ps.zip us)):Binds K fd ps []:=by
 obtain⟨oc,od,kV,doc,pm,an,fL,ct,osl,rfl,lk,hcd⟩:=F.ex;exact .all (h kV doc pm an fL ct)
theorem ES{x:Str}{st:Stmt}{oc:Value}{od an:Option Addr}{osl:Array (Option Value)}{kV doc pm fL ct:Value}(l:K.lookup f=some ⟨oc,od,.func (W.fnOf x qual (jV st) (jA st) (zK st) .none kV doc pm an fL ct),osl⟩)
 (c:W.codeIn K fL qual=true) (k:W.keepIn K (.ref f)=true):gL K x qual st f (W.fnOf x qual (jV st) (jA st) (zK st) .none kV doc pm an fL ct):=⟨⟨oc,od,kV,doc,pm,an,fL,ct,osl,rfl,l,c⟩,k⟩
theorem jL{k:Nat}(hr:gW k A):A.units+1<cLine:=fY (Nat.add_le_add_left (by decide:1<=64) _) hr.units
theorem qL(h:n<=1000):n<sizeLine:=fY h (by decide)
theorem pv(i:Nat){x:Str}{pos:Pos}(hN:X.N[i]?=some x:=by rfl)(hv:Vis X.env.scope x:=by first |exact Or.inl rfl |exact Or.inr (Or.inl rfl) |exact Or.inr (Or.inr rfl))(hd:(x==("__debug__":Str))=false:=by decide)
 (hcd:(x==("__classdict__":Str))=false:=by decide):PE X (.Name x pos) (YY i):=RI hN hv hd hcd
theorem iteF{A B:Prop}(h:B):if false=true then A else B:=by
 rw[aF bL];exact h
theorem TK{A B:Prop}(h:A):if true=true then A else B:=by
 rw[aH rfl];exact h
def bG(H H':Hp):Prop:=∀b o,H b=some o->H' b=some o
theorem bG.refl(H:Hp):bG H H:=λ_ _ h=>h
theorem bG.trans{H1 H2:Hp}(a:bG H H1)(b:bG H1 H2):bG H H2:=λc o h=>b c o (a c o h)
theorem bG.free(e:bG H H')(h:H' l=Option.none):H l=Option.none:=by
 cases q:H l with
 |none=>rfl
 |some o=>
  rw[e l o q]at h;cases h
theorem bG.seq(e:bG H H')(h:dF K H a xs):dF K H' a xs:=by
 rcases h with(h |⟨o,h⟩) |h
 ·exact .inl (.inl (e _ _ h))
 ·exact .inl (.inr ⟨o,e _ _ h⟩)
 ·exact .inr h
theorem MW:uA X (.builtin "len") (λxs H Q=>∃a kvs,xs=[V.ref a]/\H a=some (.dK kvs)/\Q (.int kvs.length) H):=by
 intro aI s σ H xs us Q I r h;obtain⟨a,kvs,rfl,ha,q⟩:=h;obtain⟨u,rfl,ru⟩:=vA r;cases ru;exact d_len I (.inl ha) λt s' I'=>⟨.int kvs.length,H,I',⟨t,rfl⟩,q⟩
section
variable {κ:Type} [DecidableEq κ]
end
def jY(env:Env):List (Str×NameKind)->List (Str×Addr)->List (Str×Addr)
 |[],cs=>cs
 |(n,k)::r,cs=>if(k==NameKind.free)=true then jY env r ((n,(env.cells.lookup n).getD 0)::cs)else jY env r cs
theorem wK{scope:Scope}{env:Env}(h:∀x∈scope.names,x.2=.free->∃c,env.cells.lookup x.1=some c):closureFor scope env=pure (jY env scope.names []):=by
 unfold closureFor;have go:∀(l:List (Str×NameKind))(cs:List (Str×Addr)),(∀x∈l,x.2=.free->∃c,env.cells.lookup x.1=some c)->
  (forIn l cs λ(x:Str×NameKind) (r:List (Str×Addr))=>(match x with
   |(name,kind)=>if(kind==NameKind.free)=true then do let a ←cellOf env name;pure (ForInStep.yield ((name,a)::r))else pure (ForInStep.yield r):Sem (ForInStep (List (Str×Addr)))))=(pure (jY env l cs):Sem (List (Str×Addr))):=by
  intro l
  induction l with
  |nil=>intro cs _;rfl
  |cons x r ih=>
   intro cs hl;obtain⟨n,k⟩:=x;rw[List.forIn_cons];by_cases hk:(k==NameKind.free)=true
   ·obtain⟨c,hc⟩:=hl (n,k) aY (by simpa using hk);have e:cellOf env n=pure c:=by unfold cellOf;rw[hc]
    simp only[hk,if_true,e,pure_bind];rw[ih _ λy hy=>hl y (aV _ hy)];rw[jY,aH hk,hc];rfl
   ·simp only[hk,dO,bU,pure_bind];rw[ih _ λy hy=>hl y (aV _ hy)];rw[jY,aF hk]
 have q:=go scope.names [] h;simp only[pure_bind,bind_pure]at q⊢;exact q
theorem uZ{env:Env}{y:Str}{c:Addr}:∀(l:List (Str×NameKind))(cs:List (Str×Addr)),(∀x∈l,x.2=.free->∃c,env.cells.lookup x.1=some c)->
 (∀z d,cs.lookup z=some d->env.cells.lookup z=some d)->(jY env l cs).lookup y=some c->env.cells.lookup y=some c
 |[],cs,_,hc,e=>hc _ _ e
 |(n,k)::r,cs,h,hc,e=>by
  have hr:∀x∈r,x.2=.free->∃c,env.cells.lookup x.1=some c:=λx hx=>h x (aV _ hx)
  by_cases hk:(k==NameKind.free)=true
  ·rw[jY,aH hk]at e;refine uZ r _ hr (λz d ez=>?_) e;obtain⟨c',hc'⟩:=h (n,k) aY (by simpa using hk);rw[bT]at ez;cases hz:z==n with
   |true=>
    rw[hz]at ez;have hz':z=n:=eq_of_beq hz;subst hz';have e2:(env.cells.lookup z).getD 0=d:=bR ez;have hc'':env.cells.lookup z=some c':=hc';rw[hc'']at e2⊢;exact cJ some e2
   |false=>rw[hz]at ez;exact hc z d ez
  ·rw[jY,aF hk]at e;exact uZ r cs hr hc e
theorem wD{env:Env}{y:Str}:∀(l:List (Str×NameKind))(cs:List (Str×Addr)),((y,NameKind.free)∈l\/∃c,cs.lookup y=some c)->∃c,(jY env l cs).lookup y=some c
 |[],cs,h=>h.elim (λz=>nomatch z) λz=>z
 |(n,k)::r,cs,h=>by
  by_cases hk:(k==NameKind.free)=true
  ·rw[jY,aH hk];refine wD r _ ?_;rcases h with h |⟨c,h⟩
   ·rcases bI.mp h with h |h
    ·cases h;exact .inr ⟨_,by rw[bT,eE]⟩
    ·exact .inl h
   ·cases hz:y==n with
    |true=>exact .inr ⟨_,by rw[bT,hz]⟩
    |false=>exact .inr ⟨c,by rw[bT,hz];exact h⟩
  ·rw[jY,aF hk];refine wD r _ ?_;rcases h with h |h
   ·rcases bI.mp h with h |h
    ·cases h;exact absurd rfl hk
    ·exact .inl h
   ·exact .inr h
theorem qU{env:Env}:∀{names:List (Str×NameKind)}{x:Str}{k':NameKind},
 (names.map λ(n,k)=>if(k==NameKind.free&&env.scope.kind==.function&&env.kindOf n==some .cell)then(n,NameKind.cell)else(n,k)).lookup x=some k'->
 names.lookup x=some k'\/(names.lookup x=some .free/\k'=.cell)
 |[],_,_,h=>by simp at h
 |(n,k)::r,x,k',h=>by
  have ih:=@qU env r x k';have h:List.lookup x ((if(k==NameKind.free&&env.scope.kind==.function&&env.kindOf n==some .cell)=true then(n,NameKind.cell)else(n,k))::_)=some k':=h;rw[bT];by_cases hc:(k==NameKind.free&&env.scope.kind==.function&&env.kindOf n==some .cell)=true
  ·rw[aH hc,bT]at h;cases hx:x==n with
   |true=>
    rw[hx]at h;have e1:NameKind.cell=k':=bR h;simp only[cA]at hc;exact .inr ⟨cJ some (eq_of_beq hc.1.1),e1.symm⟩
   |false=>rw[hx]at h;exact ih h
  ·rw[aF hc,bT]at h;cases hx:x==n with
   |true=>rw[hx]at h;exact .inl h
   |false=>rw[hx]at h;exact ih h
theorem kD{env:Env}:∀{names:List (Str×NameKind)}{x:Str},names.lookup x=some .free->
 (names.map λ(n,k)=>if(k==NameKind.free&&env.scope.kind==.function&&env.kindOf n==some .cell)then(n,NameKind.cell)else(n,k)).lookup x=some .cell\/
 (names.map λ(n,k)=>if(k==NameKind.free&&env.scope.kind==.function&&env.kindOf n==some .cell)then(n,NameKind.cell)else(n,k)).lookup x=some .free
 |[],_,h=>by simp at h
 |(n,k)::r,x,h=>by
  have ih:=@kD env r x;show List.lookup x ((if(k==NameKind.free&&env.scope.kind==.function&&env.kindOf n==some .cell)=true then(n,NameKind.cell)else(n,k))::_)=_\/List.lookup x ((if(k==NameKind.free&&env.scope.kind==.function&&env.kindOf n==some .cell)=true then(n,NameKind.cell)else(n,k))::_)=_;rw[bT]at h;by_cases hc:(k==NameKind.free&&env.scope.kind==.function&&env.kindOf n==some .cell)=true
  ·rw[aH hc,bT];cases hx:x==n with
   |true=>exact .inl rfl
   |false=>rw[hx]at h;exact ih h
  ·rw[aF hc,bT];cases hx:x==n with
   |true=>rw[hx]at h;exact .inr h
   |false=>rw[hx]at h;exact ih h
structure mL(xs ys:List Str)(scope gK:Scope):Prop where
 kind:scope.kind=.function
 nd:(xs++ys).Nodup
 own:∀x∈xs,scope.names.lookup x=some .local
 cap:∀y∈ys,scope.names.lookup y=some .free/\(gK.names.lookup y=some .cell\/gK.names.lookup y=some .free)
 nocell:∀y∈scope.names,y.2≠.cell
 names:∀y∈scope.names,y.2=.local->scope.names.lookup y.1=some .local
 free:∀y∈scope.names,y.2=.free->y.1∈ys
def yR(X:Cx)(xs ys:List Str)(scope:Scope)(C:Addr)(s₀:Shared)(H₀:Hp)(fp:List Addr):Cx where
 prog:=X.prog
 w:=X.w
 K:=X.K
 mg:=X.mg
 base:=X.base
 A:=X.A
 N:=xs++ys
 s₀:=s₀
 H₀:=H₀
 env:=compEnvC scope (jY X.env scope.names []) C X.env
 outer:=X.stack
 stack:=X.stack
 ex:=fp
 fn:=λ_=>false
 calm:=X.calm
 pn:=[]
 xe:=λ_ _=>False
def UO(xs:List Str)(js:List Nat)(σ:St):St:=xs.map (λ_=>none)++js.map λj=>(σ[j]?).join
def WV(J:It)(n:List Str)(js:List Nat)(g:TG)(tc:Option TT)(te:TE)(σ:St)(H1:Hp)(Q:VK):Prop:=∃W:Nat->Nat->List V->St->Hp->Prop,(∃m,W 0 m [] (UO n js σ) H1)/\∀i m ys σ1 H,W i m ys σ1 H->
 (J.stop i H/\∀p,H p=none->Q (.ref p) (upd H p (.lst ys)))\/
 (J.go i H/\ys.length<sizeLine/\∀x H',J.yld i H x H'->g x σ1 H' λσ2 H2=>match tc with
  |none=>te σ2 H2 λy H3=>∃m',m'<m/\W (i+1) m' (ys++[y]) σ2 H3
  |some c=>c σ2 H2 λb H3=>if b=true then te σ2 H3 λy H4=>∃m',m'<m/\W (i+1) m' (ys++[y]) σ2 H4 else∃m',m'<m/\W (i+1) m' ys σ2 H3)
def tLC(n:List Str)(js:List Nat)(wi:TI)(g:TG)(tc:Option TT)(te:TE):TE:=λσ H Q=>wi σ H λJ H1=>WV J n js g tc te σ H1 Q
def i6(X:Cx)(ifs:List Expr)(tc:Option TT):Prop:=match ifs,tc with
 |[],none=>True
 |[c],some t=>PT X c t
 |_,_=>False
section
variable {xs:List Str} {scope:Scope} {C D:Addr}
def WJ(X:Cx)(ys:List Str)(js:List Nat):Prop:=js.length=ys.length/\∀(i:Nat)(y:Str)(j:Nat),ys[i]?=some y->js[i]?=some j->X.N[j]?=some y
theorem UZ(I:Inv X aI σ H s)(S:mL xs ys scope X.env.scope):∀x∈scope.names,x.2=.free->∃c,X.env.cells.lookup x.1=some c:=λx hx hf=>
 I.ok.has x.1 ((S.cap x.1 (S.free x hx hf)).2.elim .inl .inr)
theorem MU(I:Inv X aI σ H s)(S:mL xs ys scope X.env.scope){y:Str}{c:Addr}(e:(jY X.env scope.names []).lookup y=some c):X.env.cells.lookup y=some c:=
 uZ scope.names [] (UZ I S) (λ_ _ z=>nomatch z) e
theorem BO(I:Inv X aI σ H s)(S:mL xs ys scope X.env.scope)(hj:WJ X ys js)(f2:∀b∈fp,JL X aI H b)(fo:∀b∈fp,b<s.heap.objs.size)
 {h₁:Heap} {m:Str->Option Value} {tk:Nat} {oD:Obj} (hC:s.heap.objs.size<=C) (hD:s.heap.objs.size<=D) (hDC:D≠C) (hn:h₁.Ns C m) (hd:h₁.get? D=some oD) (hdd:∀v,oD.data≠.cell v)
 (old:∀b o,s.heap.get? b=some o->h₁.get? b=some o):
 Inv (yR X xs ys scope C s H fp) [(D,oD)] (UO xs js σ) H {s with heap:=h₁,toks:=tk}:=by
 have cl:=λy c=>MU (y:=y) (c:=c) I S
 have nC:H C=none:=I.hok.fresh hC;have nD:H D=none:=I.hok.fresh hD;have lt_of:∀{b:Addr},b<s.heap.objs.size->b≠C:=λhb=>cG (cC hb hC)
 have fsub:∀b,b∈ET X.stack->b∈X.env.locals::X.fs:=I.stkSub;refine⟨⟨I.ok.mod,?_,I.ok.glob,I.ok.blt,hC,λx y c h1 h2=>I.ok.inj x y c (cl x c h1) (cl y c h2),λx hx=>?_,(λx c h=>nomatch h),I.ok.hd,I.ok.frames,.inl rfl,λb hb=>⟨lt_of (fo b hb),λx c h=>(f2 b hb).2.2.2.2.1 x c (cl x c h)⟩,I.bs,
  dI I.ok.bsz I.sz,λb o e hb=>?_,λb hb hf=>?_,I.stack,I.stkFree⟩,
  rfl,I.bare,Un.kept old,⟨m,hn,λi x v e1 e2 e3=>?_⟩,λx c h=>?_,nC,λx c h=>I.freeC x c (cl x c h),λp hp=>?_,I.hok.kept old,?_⟩
 ·show scope.kind=_;exact S.kind
 ·have hx:(relabel scope X.env).names.lookup x=some .cell\/(relabel scope X.env).names.lookup x=some .free:=hx;have hm:(x,NameKind.free)∈scope.names:=by
   rcases hx with hx |hx
   ·rcases qU hx with z |z
    ·exact absurd rfl (S.nocell _ (eN z))
    ·exact eN z.1
   ·rcases qU hx with z |z
    ·exact eN z
    ·exact nomatch z.2
  exact wD scope.names [] (.inl hm)
 ·rcases(f2 b hb).2.2.2.1 with z |z
  ·exact I.ok.noex b o e z
  ·exact absurd (cC (bJ e) (dI I.ok.bsz z)) (eA _)
 ·rcases bI.mp (fsub b hf)with z |z
  ·exact(f2 b hb).2.1 z
  ·exact(f2 b hb).2.2.1 z
 ·have e1:(xs++ys)[i]?=some x:=e1;have e2:(xs.map (λ_=>(none:Option V))++js.map λj=>(σ[j]?).join)[i]?=some (some v):=e2;by_cases hi:i<xs.length
  ·rw[bN (by simpa using hi),aQ]at e2;cases q:xs[i]? with
   |none=>rw[q]at e2;cases e2
   |some z=>rw[q]at e2;cases e2
  ·rw[cP (by simpa using hi),aE,aQ]at e2;rw[cP (by simpa using hi)]at e1;cases q:js[i-xs.length]? with
   |none=>rw[q]at e2;cases e2
   |some j=>
    rw[q]at e2;have e2':(σ[j]?).join=some v:=bR e2;have hy:=hj.2 _ _ _ e1 q;have hσ:σ[j]?=some (some v):=by
     cases z:σ[j]? with
     |none=>rw[z]at e2';cases e2'
     |some t=>rw[z]at e2';exact cJ some e2'
    have ym:x∈ys:=aZ e1;obtain⟨cf,ca⟩:=S.cap x ym;obtain⟨m0,_,hl⟩:=I.loc;obtain⟨u,ru,lk⟩:=hl j x v hy hσ (ca.elim (λz=>.inr (.inl z)) λz=>.inr (.inr z));refine⟨u,ru,.inr ⟨?_,?_⟩⟩
    ·exact kD (env:=X.env) cf
    ·rcases lk with⟨k,_⟩ |⟨_,c,ec,zc⟩
     ·have k:X.env.scope.names.lookup x=some .local:=k;rcases ca with z |z<;> ·rw[k]at z;cases z
     ·obtain⟨c',ec'⟩:=wD (env:=X.env) (y:=x) scope.names [] (.inl (eN cf));have e3:=cl x c' ec';rw[ec]at e3;cases e3;obtain⟨o,ho,hod⟩:=zc;exact⟨_,ec',o,old _ _ ho,hod⟩
 ·obtain⟨v,o,ho,hod⟩:=I.cell x c (cl x c h);exact⟨v,o,old _ _ ho,hod⟩
 ·have hp:p∈[(D,oD)]:=by simpa[yR]using hp
  have e:=aX.mp hp;subst e;refine⟨hd,nD,hDC,λhf=>?_,hdd⟩;have hf:D∈ET X.stack:=hf;obtain⟨o,ho⟩:∃o,s.heap.get? D=some o:=by
   rcases bI.mp (fsub D hf)with z |z
   ·obtain⟨m0,⟨o,_,_,ho,_⟩,_⟩:=I.loc;have z:D=X.env.locals:=z;exact⟨o,z▸ho⟩
   ·exact absurd z (I.nofs hD)
  exact absurd (bJ ho) (Nat.not_lt.mpr hD)
 ·show(xs.map (λ_=>(none:Option V))++js.map λj=>(σ[j]?).join).length=(xs++ys).length;rw[aP,aP,aE,aE,hj.1]
end
section
variable {xs:List Str} {scope:Scope} {elt:Expr} {pos:Pos} {g:TG}
theorem JS{t:Sem α}{Q:α->Shared->Prop}(h:wpAny M A t Q (λ_ _=>False) s):wpAny M A t Q E s:=mB h (λ_ _ x=>x) λ_ _ z=>z.elim
theorem UX{it mD:Value}{env:Env}(J:Nat->Shared->Prop)
 (turn:∀n s,J n s->wpAny (model prog w) A (pyNext it) (λr s₁=>match r with
  |none=>R (.ok .next) s₁
  |some v=>wpAny (model prog w) A (letOwnedTupleGo tg it v) (λ_ s1'=>wpAny (model prog w) A (assign tg env v) (λ_ s₂=>
   wpAny (model prog w) A (forIn ifs true λc r=>if r=true then do let ok ←isTrue c env (eval c env);pure (ForInStep.yield ok)else pure (ForInStep.yield r)) (λok s₃=>
    if ok=true then wpAny (model prog w) A (eval elt env) (λx s₄=>
     wpAny (model prog w) A (call (.builtin "list.append") [mD,x]) (λ_ s₅=>∃m,m<n/\J m s₅) (λ_ _=>False) s₄) (λ_ _=>False) s₃
    else∃m,m<n/\J m s₃) (λ_ _=>False) s₂) (λ_ _=>False) s1') (λ_ _=>False) s₁) (λ_ _=>False) s)
 (n:Nat) (h:J n s):codeAny (model prog w) A (.compLoop (.ListComp elt [⟨tg,iter,ifs,0⟩] scope pos) 0 it mD env) R s:=by
 refine codeAny_loop rfl J (λn s hI=>?_) n h;show wpAny _ A ((compTurn (.ListComp elt [⟨tg,iter,ifs,0⟩] scope pos) 0 it mD env).onRaise (λx=>do noteFrame x env;theTreesLotGoes x)) _ _ s;refine wpAny_noted ?_;rw[compTurn_list];refine aG (wpAny_standAt (aG (JS (eK (turn n s hI) λr s₁ h₁=>?_))));cases r with
 |none=>exact aU h₁
 |some v=>
  refine aG (JS (eK h₁ λ_ s1' h₁'=>aG (JS (eK h₁' λ_ s₂ h₂=>aG (JS (eK h₂ λok s₃ h₃=>?_))))));cases ok with
  |false=>exact aU ⟨rfl,h₃⟩
  |true=>exact aG (aG (JS (eK h₃ λx s₄ h₄=>aG (JS (eK h₄ λ_ s₅ h₅=>aU (aU ⟨rfl,h₅⟩))))))
structure KM(X:Cx)(aI:List (Addr×Obj))(σ:St)(C:Addr)(H':Hp)(s':Shared):Prop where
 inv:Inv X aI σ H' s'
 ns:∃m,s'.heap.Ns C m
 free:H' C=none
 ne:C≠X.env.locals
 up:X.s₀.heap.objs.size<=C
 cells:∀x c,X.env.cells.lookup x=some c->c≠C
 pin:∀p∈X.pn++aI,p.1≠C
theorem KM.gone{C:Addr}{s':Shared}(L:KM X aI σ C H' s')(hs:Heap.SameBut C s'.heap h'):Inv X aI σ H' {s' with heap:=h'}:=
 L.inv.turned (t':=s'.toks) (λb o hb e=>hs.extBut b o hb e) L.free L.ne (.inr L.up) L.cells L.pin
theorem HW(hc:X.calm=true)(S:mL xs ys scope X.env.scope)(hj:WJ X ys js)(hi:PI X tg iter wi)
 (hg:∀C s₀ H₀ fp,PG (yR X xs ys scope C s₀ H₀ fp) tg g) (hif:∀C s₀ H₀ fp,i6 (yR X xs ys scope C s₀ H₀ fp) ifs tc) (he:∀C s₀ H₀ fp,PE (yR X xs ys scope C s₀ H₀ fp) elt te)
 {RR:Value->Addr->Result->Shared->Prop} {Q:VK} (I:Inv X aI σ H s) (h:tLC xs js wi g tc te σ H Q)
 (fin:∀D C H' s',KM X aI σ C H' s'->Q (.ref D) H'->RR (.ref D) C (.ok .next) s'):
 wpAny (model X.prog X.w) X.A (eval iter X.env) (λx s₁=>wpAny (model X.prog X.w) X.A (pyIter x) (λit s₂=>wpAny (model X.prog X.w) X.A (newList []) (λmD s₃=>
  wpAny (model X.prog X.w) X.A (newFunctionEnv scope X.env.globals (jY X.env scope.names []) [] X.env.qual none .none (some X.env)) (λcenv s₄=>
   codeAny (model X.prog X.w) X.A (.compStart (.ListComp elt [⟨tg,iter,ifs,0⟩] scope pos) 0 it mD {cenv with scope:=relabel scope X.env}) (RR mD cenv.locals) s₄) X.xe s₃) X.xe s₂) X.xe s₁) X.xe s:=by
 refine eK (hi aI s σ H _ I h) λv s1 h1=>eK h1 λitv s2 h2=>?_
 obtain⟨it,fp,tn,J,H2,e,I2,T,st2,f2,W,⟨m0,w0⟩,turn⟩:=h2;subst e;have fo:∀b∈fp,b<s2.heap.objs.size:=λb hb=>let ⟨o,e,_⟩:=T.obj _ _ st2 b hb;bJ e
 refine eS (wpAny_newFunctionEnv S.nocell (by intro y hy;simp at hy) (λh₁ hns1 hsb1=>?_) S.kind);dsimp only at hns1 hsb1⊢;generalize hH2:s2.heap.push {cls:=.type "list",dict:=none,data:=.seq ([]:List Value).toArray}=G at hns1 hsb1⊢;have hC:G.objs.size=s2.heap.objs.size+1:=by rw[←hH2,Heap.size_push]
 have hDC:s2.heap.objs.size≠G.objs.size:=by rw[hC];exact cG (NG _)
 have hCle:s2.heap.objs.size<=G.objs.size:=by rw[hC];exact Nat.le_succ _
 have below:∀b,b<s2.heap.objs.size->b≠G.objs.size/\b≠s2.heap.objs.size:=λb hb=>⟨by rw[hC];exact cG (FN hb),cG hb⟩
 have old:∀b o,s2.heap.get? b=some o->h₁.get? b=some o:=λb o e=>hsb1.extBut b o (below b (bJ e)).1 (aS _ (hH2▸aS _ e))
 have hacc:h₁.get? s2.heap.objs.size=some (LCg.lst []):=hsb1.extBut _ _ hDC (aS _ (hH2▸bQ _ rfl));have st1:tn 0 h₁:=T.keep _ _ _ st2 λb _ o e=>old b o e
 have I3:=BO (C:=G.objs.size) (D:=s2.heap.objs.size) (tk:=s2.toks+([]:List (Str×Value)).length) I2 S hj f2 fo hCle (aJ _) hDC hns1 hacc (by intro v hv;cases hv) old;generalize hX:yR X xs ys scope G.objs.size s2 H2 fp=B at I3;have pB:B.prog=X.prog:=by rw[←hX];rfl
 have wB:B.w=X.w:=by rw[←hX];rfl
 have kB:B.K=X.K:=by rw[←hX];rfl
 have aB:B.A=X.A:=by rw[←hX];rfl
 have eB:B.env=compEnvC scope (jY X.env scope.names []) G.objs.size X.env:=by rw[←hX];rfl
 have cB:B.calm=true:=by rw[←hX];exact hc
 have xB:B.xe=λ_ _=>False:=by rw[←hX];rfl
 have gB:PG B tg g:=by rw[←hX];exact hg _ _ _ _
 have iB:i6 B ifs tc:=by rw[←hX];exact hif _ _ _ _
 have elB:PE B elt te:=by rw[←hX];exact he _ _ _ _
 have sB:B.s₀=s2:=by rw[←hX];rfl
 have hB:B.H₀=H2:=by rw[←hX];rfl
 have fB:B.fs=ET X.stack:=by rw[←hX];rfl
 have exB:B.ex=fp:=by rw[←hX];rfl
 have pnB:B.pn=[]:=by rw[←hX];rfl
 have statB:∀{H':Hp}{oD:Obj}{σ':St}{s':Shared},Inv B [(s2.heap.objs.size,oD)] σ' H' s'->(∀b∈fp,H' b=none)->∀b∈fp,JL B [(s2.heap.objs.size,oD)] H' b:=λ{H' oD σ' s'} I' hn b hb=>
  ⟨hn b hb,(I'.ok.exf b (exB▸hb)).1,I'.ok.exfs b (exB▸hb),.inl (exB▸hb),(I'.ok.exf b (exB▸hb)).2,λp hp=>by
   rw[pnB]at hp;have e:=aX.mp (show p∈[(s2.heap.objs.size,oD)]from hp);subst e;exact Nat.ne_of_gt (fo b hb)⟩
 have loop:∀s₃:Shared,s₃={s2 with heap:=h₁,toks:=s2.toks+([]:List (Str×Value)).length}->
  codeAny (model X.prog X.w) X.A (.compLoop (.ListComp elt [⟨tg,iter,ifs,0⟩] scope pos) 0 (.ref it) (.ref s2.heap.objs.size) (compEnvC scope (jY X.env scope.names []) G.objs.size X.env)) (RR (.ref s2.heap.objs.size) G.objs.size) s₃:=by
  rintro s₃ rfl;refine UX (λn s'=>∃i ys its σ1 H',Inv B [(s2.heap.objs.size,LCg.lst its)] σ1 H' s'/\cV ys its/\tn i s'.heap/\(∀b∈fp,H' b=none)/\ys.length<=sizeLine/\W i n ys σ1 H') ?_ m0
   ⟨0,[],[],_,H2,I3,.nil,st1,λb hb=>(f2 b hb).1,cO _,w0⟩
  rintro n s' ⟨i,ys',its,σ1,H',I',rv,cL,fr',hz,w'⟩;have rl:=rv.length;rcases turn i n ys' σ1 H' w' with⟨stop,qn⟩ |⟨go,hz',step⟩
  ·have q:=T.done B pB wB kB cB i _ s' σ1 H' (λ_ _=>False) I' (statB I' fr') cL stop;rw[aB]at q;refine eK q λr s4 ⟨hr,I4⟩=>?_
   subst hr;have pD:=(I4.pin (s2.heap.objs.size,LCg.lst its) (bE _ aY))
   have hDn:H' s2.heap.objs.size=none:=pD.2.1;have ub:=I4.base;rw[fB,exB,hB,sB]at ub;have neD:∀{b:Addr}{o:HO},H' b=some o->b≠s2.heap.objs.size:=λe z=>by rw[z,hDn]at e;cases e
   have upk:∀{b:Addr}{o:HO},H' b=some o->upd H' s2.heap.objs.size (.lst ys') b=some o:=λe=>by rw[zL (neD e)];exact e
   have u:Un (ET X.stack) fp H2 (upd H' s2.heap.objs.size (.lst ys')) s2.heap s4.heap:=
    ⟨ub.keep,ub.slot,λb o e n hx=>by rw[zL (below b (bJ e)).2];exact ub.free b o e n hx,ub.there,λb zs e=>upk (ub.tups b zs e),λb o zs e=>upk (ub.frzs b o zs e),λb ps e=>let ⟨more,q⟩:=ub.tbls b ps e;⟨more,upk q⟩⟩
   have hok4:lJ X.prog X.w H' s4.heap:=by have :=I4.hok;rw[pB,wB]at this;exact this
   have hok:lJ X.prog X.w (upd H' s2.heap.objs.size (.lst ys')) s4.heap:=λb o e=>by
    by_cases hb:b=s2.heap.objs.size
    ·subst hb;rw[zC]at e;cases e;exact⟨hz,its,its.length,rv,pD.1⟩
    ·rw[zL hb]at e;exact(hok4 b o e).stay (λ_ _ _ q=>q) (λ_ q=>upk q) λ_ _ q=>upk q
   have I5:Inv X aI σ (upd H' s2.heap.objs.size (.lst ys')) s4:=I2.call' (ch:=fp) (by rw[I4.os,sB]) u hok I4.bare λb hb=>let f:=f2 b hb;⟨f.2.2.2.1,f.2.1,f.2.2.2.2.1,f.2.2.2.2.2⟩
   refine fin s2.heap.objs.size G.objs.size _ s4 ⟨I5,?_,?_,?_,dI I2.sz hCle,λx c e z=>?_,λp hp z=>?_⟩ (qn _ hDn)
   ·obtain⟨m,hn,_⟩:=I4.loc;rw[eB]at hn;exact⟨m,hn⟩
   ·have fr:=I4.free;rw[eB]at fr;rw[zL (cM hDC)];exact fr
   ·exact cM (below _ I2.lt).1
   ·obtain⟨_,o,ho,_⟩:=I2.cell x c e;exact(below c (bJ ho)).1 z
   ·exact(below p.1 (bJ (I2.pin p hp).1)).1 z
  ·have q:=T.item B pB wB kB cB i _ s' σ1 H' (λ_ _=>False) I' (statB I' fr') cL go;rw[aB]at q;refine eK q λr s4 ⟨u,hr,h4⟩=>?_
   subst hr;refine eK h4 λ_ s5 z5=>?_
   obtain⟨x,H5,I5,r5,y5,st5,fr5⟩:=z5;have I5':=I5.pinned (statB I5 fr5) (T.obj _ _ st5);have q5:=gB _ s5 σ1 H5 x u _ I5' r5 (step x H5 y5);rw[pB,wB,aB,eB,xB]at q5;refine eK q5 λ_ s6 ⟨σ6,H6,I6,q6⟩=>?_
   have last:∀{s7:Shared}{H7:Hp},Inv B ([(s2.heap.objs.size,LCg.lst its)]++uK fp s5.heap) σ6 H7 s7->(te σ6 H7 λy H8=>∃m',m'<n/\W (i+1) m' (ys'++[y]) σ6 H8)->
    wpAny (model X.prog X.w) X.A (eval elt (compEnvC scope (jY X.env scope.names []) G.objs.size X.env)) (λx s₄=>
     wpAny (model X.prog X.w) X.A (call (.builtin "list.append") [.ref s2.heap.objs.size,x]) (λ_ s₅=>∃m,m<n/\
      ∃i ys its σ1 H',Inv B [(s2.heap.objs.size,LCg.lst its)] σ1 H' s₅/\cV ys its/\tn i s₅.heap/\(∀b∈fp,H' b=none)/\ys.length<=sizeLine/\W i m ys σ1 H') (λ_ _=>False) s₄) (λ_ _=>False) s7:=λ{s7 H7} I7 q7=>by
    have q8:=elB _ s7 σ6 H7 _ I7 q7;rw[pB,wB,aB,eB,xB]at q8;refine eK q8 λuy s8 z8=>?_
    obtain⟨y,H8,I8,r8,m',hm',w8⟩:=z8;have pD:=(I8.pin (s2.heap.objs.size,LCg.lst its) (bE _ (bS _ aY)))
    refine append_at (its:=its.toArray) (n:=its.length) pD.1 (λh9 hs9 hd9=>?_) (by rw[aL,←rl];exact hz);have dropped:Inv B (uK fp s5.heap) σ6 H8 s8:=I8.pins_of λp hp=>I8.pin p (bE _ (bE _ hp))
    have apart:∀p∈B.pn++uK fp s5.heap,p.1≠s2.heap.objs.size:=λp hp=>by
     rw[pnB]at hp;exact cG (fo _ (QB (show p∈uK fp s5.heap from hp)).1)
    have I9:Inv B (uK fp s5.heap) σ6 H8 {s8 with heap:=h9}:=dropped.turned (t':=s8.toks) (λb o hb e=>hs9.extBut b o hb e) pD.2.1 pD.2.2.1 (.inr (by rw[sB];exact aJ _)) (λx c e=>by
     intro z;obtain⟨v,o,ho,hd⟩:=I8.cell x c e;rw[z,pD.1]at ho;cases ho;cases hd) apart
    have I9':Inv B [(s2.heap.objs.size,LCg.lst (its++[uy]))] σ6 H8 {s8 with heap:=h9}:=I9.pins_of λp hp=>by
     have e:=aX.mp hp;subst e;exact⟨hd9.trans (cJ some (LCg.lst_snoc its uy)),pD.2.1,pD.2.2.1,pD.2.2.2.1,by intro v hv;cases hv⟩
    refine⟨m',hm',i+1,ys'++[y],its++[uy],σ6,H8,I9',cV.append rv (.cons r8 .nil),T.keep _ _ _ st5 λb hb o e=>?_,λb hb=>?_,by rw[aP];exact hz',w8⟩
    ·exact(I9.pin (b,o) (bE _ (qA hb e))).1
    ·obtain⟨o,e,d⟩:=T.obj _ _ st5 b hb;exact(I9.pin (b,o) (bE _ (qA hb e))).2.1
   have again:∀{s7:Shared}{H7:Hp},Inv B ([(s2.heap.objs.size,LCg.lst its)]++uK fp s5.heap) σ6 H7 s7->(∃m',m'<n/\W (i+1) m' ys' σ6 H7)->∃m,m<n/\
    ∃i ys its σ1 H',Inv B [(s2.heap.objs.size,LCg.lst its)] σ1 H' s7/\cV ys its/\tn i s7.heap/\(∀b∈fp,H' b=none)/\ys.length<=sizeLine/\W i m ys σ1 H':=λ{s7 H7} I7 ⟨m',hm',w7⟩=>by
    refine⟨m',hm',i+1,ys',its,σ6,H7,I7.unpinned,rv,T.keep _ _ _ st5 λb hb o e=>(I7.pin (b,o) (bE _ (bE _ (qA hb e)))).1,λb hb=>?_,hz,w7⟩;obtain⟨o,e,d⟩:=T.obj _ _ st5 b hb;exact(I7.pin (b,o) (bE _ (bE _ (qA hb e)))).2.1
   match ifs,tc,iB,q6 with
   |[],none,_,q6=>
    refine wpAny_tests_nil ?_;rw[aH rfl];exact last I6 q6
   |[c],some t,iB,q6=>
    have iB:PT B c t:=iB;have q7:=iB _ s6 σ6 H6 _ I6 q6;rw[pB,wB,aB,eB,xB]at q7;refine wpAny_tests_one (eK q7 λb s7 ⟨H7,I7,q7⟩=>?_);cases b with
    |true=>rw[aH rfl]at q7⊢;exact last I7 q7
    |false=>rw[aF bL]at q7⊢;exact again I7 q7
 exact codeAny_compStart_list (loop _ rfl) (T.self _ 0 _ _ _ st1 (loop _ rfl))
theorem pe_lc(hc:X.calm=true)(S:mL xs ys scope X.env.scope)(hj:WJ X ys js)(hi:PI X tg iter wi)
 (hg:∀C s₀ H₀ fp,PG (yR X xs ys scope C s₀ H₀ fp) tg g) (hif:∀C s₀ H₀ fp,i6 (yR X xs ys scope C s₀ H₀ fp) ifs tc) (he:∀C s₀ H₀ fp,PE (yR X xs ys scope C s₀ H₀ fp) elt te)
 (hs:∀x,foldedSetIterable iter X.env x=pure x:=by intro _;rfl):PE X (.ListComp elt [⟨tg,iter,ifs,0⟩] scope pos) (tLC xs js wi g tc te):=by
 intro aI s σ H Q I h;rw[eval_ListComp];refine wpAny_comprehension_free (use:=none) rfl hs (wK (UZ I S)) S.kind S.names ?_;refine HW (RR:=λmD C=>compPost (model X.prog X.w) X.A X.xe none (EP X aI σ Q) mD C) hc S hj hi hg hif he I h λD C H' s' L q=>?_
 obtain⟨m,hn⟩:=L.ns;exact⟨m,hn,λh'' hs''=>⟨.ref D,H',L.gone hs'',rfl,q⟩⟩
theorem PZ{x:Str}{p':Pos}(hN:X.N.Nodup)(hx:X.N[i]?=some x)(hl:X.env.scope.names.lookup x=some .local)(hc:X.calm=true)(S:mL xs ys scope X.env.scope)(hj:WJ X ys js)(hi:PI X tg iter wi)
 (hg:∀C s₀ H₀ fp,PG (yR X xs ys scope C s₀ H₀ fp) tg g) (hif:∀C s₀ H₀ fp,i6 (yR X xs ys scope C s₀ H₀ fp) ifs tc) (he:∀C s₀ H₀ fp,PE (yR X xs ys scope C s₀ H₀ fp) elt te)
 (hsw:swapsWith (.ListComp elt [⟨tg,iter,ifs,0⟩] scope pos) (some (.Name x p')) p.line X.env=pure true:=by rfl)
 (hs:∀x,foldedSetIterable iter X.env x=pure x:=by intro _;rfl):PS X (.Assign [.Name x p'] (.ListComp elt [⟨tg,iter,ifs,0⟩] scope pos) p) (OH (tLC xs js wi g tc te) (vU i)):=by
 intro aI s σ H D I h;rw[exec_Assign_Name_used _ _ _ _ hsw];refine aG (wpAny_standAt (aG ?_));show wpAny _ X.A (do let _ ←comprehension (.ListComp elt [⟨tg,iter,ifs,0⟩] scope pos) scope X.env _ (newList []) false (eval iter X.env) (some (assign (.Name x p') X.env))) _ _ s;refine aG (mB (wpAny_comprehension_free (use:=some (assign (.Name x p') X.env)) (Q:=λ_ s'=>SP X aI D .next s') rfl hs (wK (UZ I S)) S.kind S.names ?_) (λ_ s' hq=>aU (aU hq)) λ_ _ e=>e);refine HW (Q:=λv H'=>vU i v σ H' D.nx) (RR:=λmD C=>compPost (model X.prog X.w) X.A X.xe (some (assign (.Name x p') X.env)) (λ_ s'=>SP X aI D .next s') mD C) hc S hj hi hg hif he I h λA C H' s' L q=>?_
 show wpAny _ X.A (assign (.Name x p') X.env (.ref A)) _ _ _;refine wpAny_assign_Name (JV (v:=.ref A) L.inv hN hx (.inl hl) rfl (λs'' I'' ⟨a,sb,ha⟩=>?_) (.inr hl));have cne:∀{b:Addr},(b=X.env.locals\/X.env.cells.lookup x=some b)->C≠b:=λz e=>by
  rcases z with z |z
  ·exact L.ne (e.trans z)
  ·exact L.cells x _ z e.symm
 obtain⟨m,hn⟩:=L.ns;refine⟨m,hn.sameBut sb (cne ha),λh'' hs''=>⟨_,_,?_,q⟩⟩;exact KM.gone ⟨I'',⟨m,hn.sameBut sb (cne ha)⟩,L.free,L.ne,L.up,L.cells,L.pin⟩ hs''
end
def Its(x:Str):It:=⟨λi _=>i<x.cps.size,λi H v H'=>H'=H/\∃c,x.cps[i]?=some c/\v=.str ⟨#[c]⟩,λi _=>x.cps.size<=i⟩
def iStr(tl:TE):TI:=λσ H R=>tl σ H λx H1=>asS x λz=>R (Its z) H1
def rSlS:V->Option Int->Option Int->Hp->VK->Prop:=λx lo hi H Q=>asS x λz=>z.length<=sizeLine/\Q (.str (Txt.slice z lo hi)) H
theorem kP:uA X (.builtin "all") (λxs H Q=>n6 X.calm (pI xs λx=>mI x λp=>∃bs:List Bool,dF X.K H p (bs.map V.bl)/\Q (.bl (bs.all id)) H)):=by
 intro aI s σ H xs us Q I r h;replace h:=VT h;obtain⟨hc,h⟩:=h;replace h:=ZY h;obtain⟨x0,rfl,h⟩:=h;replace h:=xS h;obtain⟨p,rfl,bs,hp,q⟩:=h;obtain⟨u,rfl,ru⟩:=vA r;cases ru;obtain⟨its,rv,hl,hz⟩:=I.list hp;have lW:p<s.heap.objs.size:=by obtain⟨_,e,_⟩:=hl.isList;exact bJ e
 have fA:=rv.length;rw[aE]at fA;refine call_all_walk (pT hl.isList ?_);refine⟨_,_,_,_,_,_,λi=>bs.getD i false,rfl,Walks.list (A:=X.A.in1) (I.ok.hd hc) s.heap.objs.size p (cG lW) its.toArray,⟨⟨_,bQ _ rfl,rfl,rfl⟩,hl.isList.push _⟩,λi v s' Q' E' hv q'=>?_,λh' tk k=>?_⟩
 ·have hv:its[i]?=some v:=by simpa using hv
  have hi:i<bs.length:=by
   have :=(aD.mp hv).1;lia
  obtain⟨u',hu',ru'⟩:=rv.get (i:=i) (x:=.bl bs[i]) (by rw[aQ,aA hi];rfl);rw[hv]at hu';cases hu';have e:v=Value.bool bs[i]:=ru';subst e;refine fG ?_;have e2:bs.getD i false=bs[i]:=by rw[dZ,aA hi];rfl
  rw[←e2];exact q'
 ·refine⟨.bl (bs.all id),H,?_,?_,q⟩
  ·exact I.kept (h':=h') (t':=tk) λb o e=>k b o (by intro hm;have :=aX.mp hm;exact absurd (this▸bJ e) (eA _)) (aS _ e)
  ·have e:(List.range its.toArray.size).all (λi=>bs.getD i false)=bs.all id:=by
    rw[aL,←fA];rw[cK,dB,dB];constructor
    ·intro a b hb;obtain⟨i,hi,rfl⟩:=dU hb;have :=a i (bZ.mpr hi);rw[dZ,aA hi]at this;exact this
    ·intro a i hi;have hi:=bZ.mp hi;rw[dZ,aA hi];exact a _ (cH hi)
   show Value.bool _=_;rw[e]
theorem xW:uA X (.builtin "isinstance") (λxs H Q=>∃x t b,xs=[x,.ty T]/\oY X.K H x t/\W.kitOne X.K t (.type T)=some b/\Q (.bl b) H):=by
 intro aI s σ H xs us Q I r h;obtain⟨x,t,b,rfl,ty,e,q⟩:=h;obtain⟨u,w',rfl,ru,rw'⟩:=vals2 r;cases rw';exact MJ I ru ty e λtk=>⟨.bl b,H,I.tok tk,rfl,q⟩
theorem XA:∀{ys:List Str}{us:List Value},cV (ys.map V.str) us->StrsAre us ys
 |[],us,r=>by
  rw[pN]at r;cases r;exact .nil
 |y::ys,us,r=>by
  rw[cD]at r;cases r with
  |@cons a b as bs h t=>
   obtain⟨tk,hb⟩:=(show∃tk,b=Value.str y tk from h)
   subst hb;exact .cons y tk (XA t)
theorem HM:MtR X "str.join" (λx xs H Q=>∃(z:Str)(p:Addr)(ys:List Str),x=.str z/\xs=[.ref p]/\dF X.K H p (ys.map V.str)/\(ys.map (·.length)).sum+ys.length*z.length<=16777216/\Q (.str (Txt.join z ys)) H):=by
 intro aI s σ H x xs v us Q I rx rs h;obtain⟨z,p,ys,rfl,rfl,hp,hb,q⟩:=h;obtain⟨tz,rfl⟩:=rx;obtain⟨u,rfl,ru⟩:=vA rs;cases ru;obtain⟨its,rv,hl,hz⟩:=I.list hp;exact join_list hl.isList (XA rv) hb λt' k=>⟨.str (Txt.join z ys),H,I.tok k,⟨t',rfl⟩,q⟩
structure fX(P:Program)(w:World)(K:W.Frag)(mg:Str->Option Value)(base:Heap)(k:Nat)(x:Str)(ps:List Str)(sp:Sp):Prop where
 ex:∃f fd,dG P w K mg base gJ k f fd ps sp/\Binds K fd ps []/\W.keepIn K (.ref f)=true/\mg x=some (.ref f)
def Gc(mg:Str->Option Value)(x:Str)(v:V):Prop:=∃u,mg x=some u/\RelV v u
section
variable {k:Nat} {x:Str} {pos:Pos} {t:TA}
theorem fX.mono{k:Nat}(h:fX P w K mg base j x ps sp)(hk:j<=k):fX P w K mg base k x ps sp:=by
 obtain⟨f,fd,F,r⟩:=h.ex;exact⟨f,fd,F.mono hk,r⟩
theorem fX.imp{k:Nat}{sp':Sp}(h:fX P w K mg base k x ps sp)(hs:∀vs H Q E,sp' vs H Q E->sp vs H Q E):fX P w K mg base k x ps sp':=by
 obtain⟨f,fd,F,r⟩:=h.ex;exact⟨f,fd,F.imp hs,r⟩
theorem zI(h:fX X.prog X.w X.K X.mg X.base k x ps sp)(hr:gW k X.A)(hg:Gl X x)(ha:PA X (e::es) t)(hdb:(x==("__debug__":Str))=false:=by decide)
 (he:starEach (e::es) X.env=(false,eval e X.env)::starEach es X.env:=by rfl) (hpl:(backTo pos (starEach es X.env)).any (·.1)=false:=by rfl):PE X (.Call (.Name x p) (e::es) [] pos) (JU sp [] E0 t):=by
 obtain⟨f,fd,F,b,kp,m⟩:=h.ex;exact cv F hr hg m kp b .nil HF ha hdb he hpl
theorem ic(h:Gc X.mg x v)(hg:Gl X x)(hd:(x==("__debug__":Str))=false:=by decide):PE X (.Name x pos) (tC v):=by
 obtain⟨u,m,r⟩:=h;exact HE hg m r hd
theorem vK(hm:X.mg x=none)(hv:bootBuiltins x=some (.type T))(hg:Gl X x)(hn:x≠"__name__":=by decide)(hd:(x==("__debug__":Str))=false:=by decide):PE X (.Name x pos) (tC (.ty T)):=
 cw hg hm hv rfl hn hd
end
theorem yU:i6 X [] none:=trivial
def rO(xs ys:List Str)(scope gK:Scope):Bool:=
 (scope.kind==.function)&&decide (xs++ys).Nodup&&xs.all (λx=>scope.names.lookup x==some .local)&&
 ys.all (λy=>(scope.names.lookup y==some .free)&&((gK.names.lookup y==some .cell) ||(gK.names.lookup y==some .free)))&&
 scope.names.all (λy=>(y.2 !=.cell)&&((y.2 !=.local) ||(scope.names.lookup y.1==some .local))&&((y.2 !=.free) ||ys.contains y.1))
theorem rO.scope{xs:List Str}{scope gK:Scope}(h:rO xs ys scope gK=true):mL xs ys scope gK:=by
 unfold rO at h;simp only[cA,dJ,cE,dB,mZ,bne_iff_ne,List.contains_iff_mem]at h;obtain⟨⟨⟨⟨h1,h2⟩,h3⟩,h4⟩,h5⟩:=h;exact⟨h1,h2,h3,h4,λy hy=>(h5 y hy).1.1,λy hy hl=>(h5 y hy).1.2.resolve_left (λz=>z hl),λy hy hf=>(h5 y hy).2.resolve_left (λz=>z hf)⟩
def pV(N ys:List Str)(js:List Nat):Bool:=(js.length==ys.length)&&(ys.zip js).all λp=>N[p.2]?==some p.1
theorem pV.caps(h:pV X.N ys js=true):WJ X ys js:=by
 unfold pV at h;simp only[cA,dJ,dB]at h;refine⟨h.1,λi y j hy hj=>?_⟩;refine h.2 (y,j) (aZ (i:=i) ?_);rw[List.getElem?_zip_eq_some];exact⟨hy,hj⟩
section
variable {xs:List Str} {scope:Scope} {elt:Expr} {pos:Pos} {g:TG}
theorem yZ(xs ys:List Str)(js:List Nat)(hi:PI X tg iter wi)
 (hg:∀C s₀ H₀ fp,(xs++ys).Nodup->PG (yR X xs ys scope C s₀ H₀ fp) tg g) (hif:∀C s₀ H₀ fp,i6 (yR X xs ys scope C s₀ H₀ fp) ifs tc) (he:∀C s₀ H₀ fp,PE (yR X xs ys scope C s₀ H₀ fp) elt te)
 (hc:X.calm=true:=by rfl) (S:rO xs ys scope X.env.scope=true:=by rfl) (hj:pV X.N ys js=true:=by rfl)
 (hs:∀x,foldedSetIterable iter X.env x=pure x:=by intro _;rfl):PE X (.ListComp elt [⟨tg,iter,ifs,0⟩] scope pos) (tLC xs js wi g tc te):=
 pe_lc hc (rO.scope S) (pV.caps hj) hi (λC s₀ H₀ fp=>hg C s₀ H₀ fp (rO.scope S).nd) hif he hs
theorem GY{x:Str}{p':Pos}(xs ys:List Str)(js:List Nat)(hN:X.N.Nodup)(hx:X.N[i]?=some x)(hi:PI X tg iter wi)
 (hg:∀C s₀ H₀ fp,(xs++ys).Nodup->PG (yR X xs ys scope C s₀ H₀ fp) tg g) (hif:∀C s₀ H₀ fp,i6 (yR X xs ys scope C s₀ H₀ fp) ifs tc) (he:∀C s₀ H₀ fp,PE (yR X xs ys scope C s₀ H₀ fp) elt te)
 (hl:X.env.scope.names.lookup x=some .local:=by rfl) (hc:X.calm=true:=by rfl) (S:rO xs ys scope X.env.scope=true:=by rfl) (hj:pV X.N ys js=true:=by rfl)
 (hsw:swapsWith (.ListComp elt [⟨tg,iter,ifs,0⟩] scope pos) (some (.Name x p')) p.line X.env=pure true:=by rfl)
 (hs:∀x,foldedSetIterable iter X.env x=pure x:=by intro _;rfl):PS X (.Assign [.Name x p'] (.ListComp elt [⟨tg,iter,ifs,0⟩] scope pos) p) (OH (tLC xs js wi g tc te) (vU i)):=
 PZ hN hx hl hc (rO.scope S) (pV.caps hj) hi (λC s₀ H₀ fp=>hg C s₀ H₀ fp (rO.scope S).nd) hif he hsw hs
end
theorem yJ:bootBuiltins "len"=some (.builtin "len"):=by decide+kernel
theorem yL:bootBuiltins "isinstance"=some (.builtin "isinstance"):=by decide+kernel
theorem VC:bootBuiltins "all"=some (.builtin "all"):=by decide+kernel
theorem MX:bootBuiltins "sorted"=some (.builtin "sorted"):=by decide+kernel
theorem qW:bootBuiltins "tuple"=some (.type "tuple"):=by decide+kernel
theorem YO:bootBuiltins "list"=some (.type "list"):=by decide+kernel
theorem VB:bootBuiltins "int"=some (.type "int"):=by decide+kernel
theorem KB:bootBuiltins "bool"=some (.type "bool"):=by decide+kernel
theorem nv:bootBuiltins "str"=some (.type "str"):=by decide+kernel
theorem KA:bootBuiltins "dict"=some (.type "dict"):=by decide+kernel
theorem cx_K{scope:Scope}{cd:Value}{E:XK}:(JE CX P w K mg base N qual scope f cd A outer s H E).K=K:=rfl
theorem cx_calm{scope:Scope}{cd:Value}{E:XK}:(JE CX P w K mg base N qual scope f cd A outer s H E).calm=true:=rfl
theorem bk_calm{xs:List Str}{scope:Scope}{C:Addr}{s₀:Shared}{H₀:Hp}:(yR X xs ys scope C s₀ H₀ fp).calm=X.calm:=rfl
theorem lenV_str{y:Str}:oh K (.str y) H n↔(y.length<=sizeLine/\n=y.length):=Iff.rfl
theorem bk_K{xs:List Str}{scope:Scope}{C:Addr}{s₀:Shared}{H₀:Hp}:(yR X xs ys scope C s₀ H₀ fp).K=X.K:=rfl
theorem HX{J:It}{g:TG}{Q:VK}(Pv:Nat->List V->St->Hp->Prop)(h0:Pv 0 [] (UO ns js σ) H)(hn:n<=sizeLine)(hl:∀i ys σ H,Pv i ys σ H->ys.length<=i)
 (hgo:∀i ys σ H,i<n->Pv i ys σ H->J.go i H) (iN:∀ys σ H,Pv n ys σ H->J.stop n H)
 (hs:∀i ys σ H x H' (C:V->St->Hp->Prop),i<n->Pv i ys σ H->J.yld i H x H'->(∀y σ2 H3,Pv (i+1) (ys++[y]) σ2 H3->C y σ2 H3)->g x σ H' λσ2 H2=>te σ2 H2 λy H3=>C y σ2 H3)
 (hd:∀ys σ H,Pv n ys σ H->∀p,H p=none->Q (.ref p) (upd H p (.lst ys))):
 WV J ns js g none te σ H Q:=by
 refine⟨λi m ys σ H=>i+m=n/\Pv i ys σ H,⟨n,(),h0⟩,λi m ys σ H ⟨e,w⟩=>?_⟩;by_cases hi:i<n
 ·refine .inr ⟨hgo i ys σ H hi w,fY (hl _ _ _ _ w) (),λx H' hy=>?_⟩;exact hs i ys σ H x H' (λy σ2 H3=>∃m',m'<m/\i+1+m'=n/\Pv (i+1) (ys++[y]) σ2 H3) hi w hy λy σ2 H3 q=>⟨m-1,(),(),q⟩
 ·have :i=n:=by lia
  subst this;exact .inl ⟨iN ys σ H w,hd ys σ H w⟩
theorem XV{lo:Int}{g:TG}{Q:VK}(Pv:Nat->List V->St->Hp->Prop)(h0:Pv 0 [] (UO ns js σ) H)(hz:n<=sizeLine)(hl:∀i ys σ H,Pv i ys σ H->ys.length<=i)
 (hs:∀(i:Nat) ys σ H (C:V->St->Hp->Prop),i<n->Pv i ys σ H->(∀y σ2 H3,Pv (i+1) (ys++[y]) σ2 H3->C y σ2 H3)->g (.int (lo+i)) σ H λσ2 H2=>te σ2 H2 λy H3=>C y σ2 H3)
 (hd:∀ys σ H,Pv n ys σ H->∀p,H p=none->Q (.ref p) (upd H p (.lst ys))):
 WV (WX lo n) ns js g none te σ H Q:=
 HX (n:=n) Pv h0 hz hl (λ_ _ _ _ h _=>h) (λ_ _ _ _=>aJ _) (λi ys σ H x H' C hi w ⟨e,hx⟩ hC=>by subst e;subst hx;exact hs i ys σ _ C hi w hC) hd
theorem XU{g:TG}{Q:VK}(Pv:Nat->List V->St->Hp->Prop)(h0:Pv 0 [] (UO ns js σ) H)(hz:xs.length<=sizeLine)(hl:∀i ys σ H,Pv i ys σ H->ys.length<=i)
 (hK:∀i ys σ H,Pv i ys σ H->cW K H a xs)
 (hs:∀(i:Nat) x ys σ H (C:V->St->Hp->Prop),xs[i]?=some x->Pv i ys σ H->(∀y σ2 H3,Pv (i+1) (ys++[y]) σ2 H3->C y σ2 H3)->g x σ H λσ2 H2=>te σ2 H2 λy H3=>C y σ2 H3)
 (hd:∀ys σ H,Pv xs.length ys σ H->∀p,H p=none->Q (.ref p) (upd H p (.lst ys))):
 WV (WW K a) ns js g none te σ H Q:=
 HX (n:=xs.length) Pv h0 hz hl (λi ys σ H hi w=>⟨xs,xs[i],hK i ys σ H w,aA hi⟩) (λys σ H w=>⟨xs,hK _ ys σ H w,aJ _⟩)
  (λi ys σ H x H' C hi w ⟨e,hx⟩ hC=>by subst e;exact hs i x ys σ _ C (hx xs (hK i ys σ _ w)) w hC) hd
theorem uG{g:TG}{Q:VK}(Pv:Nat->List V->St->Hp->Prop)(h0:Pv 0 [] (UO ns js σ) H)(hz:xs.length<=sizeLine)(hl:∀i ys σ H,Pv i ys σ H->ys.length<=i)
 (hK:∀i ys σ H,Pv i ys σ H->dF K H a xs)
 (hs:∀(i:Nat) x ys σ H (C:V->St->Hp->Prop),xs[i]?=some x->Pv i ys σ H->(∀y σ2 H3,Pv (i+1) (ys++[y]) σ2 H3->C y σ2 H3)->g x σ H λσ2 H2=>te σ2 H2 λy H3=>C y σ2 H3)
 (hd:∀ys σ H,Pv xs.length ys σ H->∀p,H p=none->Q (.ref p) (upd H p (.lst ys))):
 WV (oj K a) ns js g none te σ H Q:=
 HX (n:=xs.length) Pv h0 hz hl (λi ys σ H hi w=>⟨xs,xs[i],hK i ys σ H w,aA hi⟩) (λys σ H w=>⟨xs,hK _ ys σ H w,aJ _⟩)
  (λi ys σ H x H' C hi w ⟨e,hx⟩ hC=>by subst e;exact hs i x ys σ _ C (hx xs (hK i ys σ _ w)) w hC) hd
def VF(J:It)(g:TG)(tb:TS)(D:CA)(σ:St)(H:Hp):Prop:=∃W:Nat->Nat->St->Hp->Prop,(∃m,W 0 m σ H)/\∀i m σ H,W i m σ H->
 (J.stop i H/\D.nx σ H)\/(J.go i H/\∃N:St->Hp->Prop,(∀σ' H',N σ' H'->∃m',m'<m/\W (i+1) m' σ' H')/\∀x H',J.yld i H x H'->g x σ H' λσ2 H2=>tb {D with nx:=N,ct:=N,bk:=D.nx} σ2 H2)
theorem tFor_eq{g:TG}:tFor wi g tb D σ H=wi σ H λJ H1=>VF J g tb D σ H1:=rfl
theorem tLC_eq{n:List Str}{g:TG}{Q:VK}:tLC n js wi g tc te σ H Q=wi σ H λJ H1=>WV J n js g tc te σ H1 Q:=rfl
theorem m9{g:TG}(Pv:Nat->St->Hp->Prop)(h0:Pv 0 σ H)(hl:∀i σ H,i<=xs.length->Pv i σ H->cW K H a xs)
 (hs:∀i x σ H,xs[i]?=some x->Pv i σ H->g x σ H λσ2 H2=>tb {D with nx:=Pv (i+1),ct:=Pv (i+1),bk:=D.nx} σ2 H2) (hd:∀σ H,Pv xs.length σ H->D.nx σ H):VF (WW K a) g tb D σ H:=IK Pv h0 hl hs hd
theorem BG{lo:Int}{g:TG}(Pv:Nat->St->Hp->Prop)(h0:Pv 0 σ H)
 (hs:∀i σ H,i<n->Pv i σ H->g (.int (lo+i)) σ H λσ2 H2=>tb {D with nx:=Pv (i+1),ct:=Pv (i+1),bk:=D.nx} σ2 H2) (hd:∀σ H,Pv n σ H->D.nx σ H):VF (WX lo n) g tb D σ H:=QI Pv h0 hs hd
theorem jE{g:TG}(Pv:Nat->St->Hp->Prop)(h0:Pv 0 σ H)(hl:∀i σ H,i<=xs.length->Pv i σ H->dF K H a xs)
 (hs:∀i x σ H,xs[i]?=some x->Pv i σ H->∀N:St->Hp->Prop,(∀σ H,Pv (i+1) σ H->N σ H)->g x σ H λσ2 H2=>tb {D with nx:=N,ct:=N,bk:=D.nx} σ2 H2) (hd:∀σ H,Pv xs.length σ H->D.nx σ H):VF (oj K a) g tb D σ H:=VG Pv h0 hl (λi x σ H a b=>hs i x σ H a b _ λ_ _ z=>z) hd
theorem EQ{g:TG}(Pv:Nat->St->Hp->Prop)(h0:Pv 0 σ H)(hl:∀i σ H,i<=xs.length->Pv i σ H->cW K H a xs)
 (hs:∀i x σ H,xs[i]?=some x->Pv i σ H->∀N:St->Hp->Prop,(∀σ H,Pv (i+1) σ H->N σ H)->g x σ H λσ2 H2=>tb {D with nx:=N,ct:=N,bk:=D.nx} σ2 H2) (hd:∀σ H,Pv xs.length σ H->D.nx σ H):VF (WW K a) g tb D σ H:=IK Pv h0 hl (λi x σ H a b=>hs i x σ H a b _ λ_ _ z=>z) hd
theorem kM{lo:Int}{g:TG}(Pv:Nat->St->Hp->Prop)(h0:Pv 0 σ H)
 (hs:∀i σ H,i<n->Pv i σ H->∀N:St->Hp->Prop,(∀σ H,Pv (i+1) σ H->N σ H)->g (.int (lo+i)) σ H λσ2 H2=>tb {D with nx:=N,ct:=N,bk:=D.nx} σ2 H2) (hd:∀σ H,Pv n σ H->D.nx σ H):VF (WX lo n) g tb D σ H:=QI Pv h0 (λi σ H a b=>hs i σ H a b _ λ_ _ z=>z) hd
theorem jc{c:TT}(W:Nat->St->Hp->Prop)(h0:∃m,W m σ H)(hs:∀m σ H,W m σ H->∀B:Hp->Prop,(∀H1 (N:St->Hp->Prop),(∀σ' H',N σ' H'->∃m',m'<m/\W m' σ' H')->(∀M:St->Hp->Prop,(∀σ H,N σ H->M σ H)->tb {D with nx:=M,ct:=M,bk:=D.nx} σ H1)->B H1)->c σ H λb H1=>if b=true then B H1 else D.nx σ H1):CQ c tb D σ H:=
 ⟨W,h0,λm σ H h=>hs m σ H h _ λ_ N hN ht=>⟨N,hN,ht N λ_ _ z=>z⟩⟩
theorem gL.okz{x:Str}{st:Stmt}{k:Nat}(F:gL K x qual st f fd)(S:bW N ps (zK st))
 (hbody:∀(fL:Value)(A:Around)(outer:List Env)(s:Shared)(H:Hp)(vs:List V)(Q:VK)(E:XK),gW k (A.deeper (envOfC qual (zK st) s.heap.objs.size f fL))->sp vs H Q E->
  ∃t,FG (JE gJ P w K mg base N qual (zK st) f fL A outer s H E).nox (jA st) t/\t {nx:=λ_ H'=>Q .non H',rt:=Q} (start N vs) H)
 (len:∀vs H Q E,sp vs H Q E->vs.length=ps.length:=by intro vs H Q E h;first |(cases h;exact cJ List.length ‹vs=_›) |(repeat first |(obtain⟨rfl,_⟩:=h;rfl) |(obtain⟨_,h⟩:=h))):dG P w K mg base gJ (k+1) f fd ps sp:=F.ok S len hbody
theorem gW.m{k:Nat}(r:gW k A)(h:j<=k:=by lia):gW j A:=r.mono h
theorem yH(i:Nat){x:Str}{pos:Pos}(hN:X.N.Nodup)(he:PE X e te)(hi:X.N[i]?=some x:=by rfl)(hx:Loc X.env.scope x:=by exact Or.inl rfl)(hs:swapsWith e (some (.Name x pos')) pos.line X.env=pure false:=by rfl)(hf:X.fn x=true\/X.env.scope.names.lookup x=some .local:=by first |exact .inl rfl |exact .inr rfl |assumption):PS X (.Assign [.Name x pos'] e pos) (OH te (vU i)):=kX hN hi hx he hs hf
theorem yF(i:Nat){x:Str}{pos:Pos}(hN:X.N.Nodup)(hi:X.N[i]?=some x:=by rfl)(hx:Loc X.env.scope x:=by exact Or.inl rfl)(hf:X.fn x=true\/X.env.scope.names.lookup x=some .local:=by first |exact .inl rfl |exact .inr rfl |assumption):PG X (.Name x pos) (vU i):=HD hN hi hx hf
theorem zJ{a b:Expr}{tb:TE}{pos:Pos}{r:R2}(hr:oi X r)(ha:PE X a ta)(hb:PE X b tb)(hs:KJ b:=by exact λ_ _=>rfl):PE X (.Subscript a b pos) (ap r ta tb):=pe_ix hr ha hb hs
theorem zH{t u:TS}(h:∀N:St->Hp->Prop,(∀σ H,u D σ H->N σ H)->t {D with nx:=N} σ H):LA t u D σ H:=h (u D) λ_ _ z=>z
theorem yK{t u:TS}(J:St->Hp->Prop)(h1:∀N:St->Hp->Prop,(∀σ H,J σ H->N σ H)->t {D with nx:=N} σ H)(h2:∀σ H,J σ H->u D σ H):LA t u D σ H:=h1 (u D) h2
structure Bi(mg:Str->Option Value):Prop where
 len:mg "len"=none
 range:mg "range"=none
 isinstance:mg "isinstance"=none
 max:mg "max"=none
 sum:mg "sum"=none
 all:mg "all"=none
 tuple:mg "tuple"=none
 list:mg "list"=none
 sorted:mg "sorted"=none
 set:mg "set"=none
 int:mg "int"=none
 bool:mg "bool"=none
 str:mg "str"=none
 dict:mg "dict"=none
theorem zW{k:Nat}{x:Str}{st:Stmt}(F:gL K x x st f fd)(ok:dG P w K mg base gJ k f fd ps sp)(b:Binds K fd ps [])
 (m:mg x=some (.ref f)):fX P w K mg base k x ps sp:=⟨f,fd,ok,b,F.kp,m⟩
inductive Dt where
 |non |bl (b:Bool) |int (i:Int) |str (x:Str) |tup (ds:List Dt) |lst (ds:List Dt)
mutual
def dD(H:Hp):Dt->V->Prop
 | .non,v=>v=.non
 | .bl b,v=>v=.bl b
 | .int i,v=>v=.int i
 | .str x,v=>v=.str x
 | .tup ds,v=>∃a vs,v=.ref a/\H a=some (.tup vs)/\bA H ds vs
 | .lst ds,v=>∃a vs,v=.ref a/\H a=some (.lst vs)/\bA H ds vs
def bA(H:Hp):List Dt->List V->Prop
 |[],vs=>vs=[]
 |d::ds,vs=>∃v r,vs=v::r/\dD H d v/\bA H ds r
end
mutual
theorem dD.same{H H':Hp}(e:bG H H'):∀{d:Dt}{v:V},dD H d v->dD H' d v
 | .non,_,h=>h
 | .bl _,_,h=>h
 | .int _,_,h=>h
 | .str _,_,h=>h
 | .tup ds,v,h=>by
   obtain⟨a,vs,e1,e2,e3⟩:=h;exact⟨a,vs,e1,e _ _ e2,bA.same e e3⟩
 | .lst ds,v,h=>by
   obtain⟨a,vs,e1,e2,e3⟩:=h;exact⟨a,vs,e1,e _ _ e2,bA.same e e3⟩
theorem bA.same{H H':Hp}(e:bG H H'):∀{ds:List Dt}{vs:List V},bA H ds vs->bA H' ds vs
 |[],_,h=>h
 |d::ds,vs,h=>by
  obtain⟨v,r,e1,e2,e3⟩:=h;exact⟨v,r,e1,dD.same e e2,bA.same e e3⟩
end
theorem bA.length{H:Hp}:∀{ds:List Dt}{vs:List V},bA H ds vs->vs.length=ds.length
 |[],vs,h=>by
  have h:vs=[]:=h;rw[h];rfl
 |d::ds,vs,h=>by
  obtain⟨v,r,e1,e2,e3⟩:=h;rw[e1,bB,bB,bA.length e3]
theorem bA.get{H:Hp}:∀{ds:List Dt}{vs:List V}{i:Nat}{d:Dt},bA H ds vs->ds[i]?=some d->∃v,vs[i]?=some v/\dD H d v
 |[],vs,i,d,_,e=>by simp at e
 |d::ds,vs,0,d',h,e=>by
  obtain⟨v,r,e1,e2,e3⟩:=h;simp at e;subst e;subst e1;exact⟨v,rfl,e2⟩
 |d::ds,vs,i+1,d',h,e=>by
  obtain⟨v,r,e1,e2,e3⟩:=h;subst e1;simp at e;obtain⟨u,h1,h2⟩:=bA.get e3 e;exact⟨u,by simpa using h1,h2⟩
theorem bA.append{H:Hp}:∀{ds es:List Dt}{vs us:List V},bA H ds vs->bA H es us->bA H (ds++es) (vs++us)
 |[],es,vs,us,h,h'=>by
  have h:vs=[]:=h;subst h;exact h'
 |d::ds,es,vs,us,h,h'=>by
  obtain⟨v,r,e1,e2,e3⟩:=h;subst e1;exact⟨v,r++us,rfl,e2,bA.append e3 h'⟩
theorem bA.take{H:Hp}:∀{ds:List Dt}{vs:List V}(n:Nat),bA H ds vs->bA H (ds.take n) (vs.take n)
 |ds,vs,0,_=>rfl
 |[],vs,n+1,h=>by
  have h:vs=[]:=h;subst h;rfl
 |d::ds,vs,n+1,h=>by
  obtain⟨v,r,e1,e2,e3⟩:=h;subst e1;exact⟨v,r.take n,rfl,e2,bA.take n e3⟩
theorem bA.drop{H:Hp}:∀{ds:List Dt}{vs:List V}(n:Nat),bA H ds vs->bA H (ds.drop n) (vs.drop n)
 |ds,vs,0,h=>by simpa using h
 |[],vs,n+1,h=>by
  have h:vs=[]:=h;subst h;rfl
 |d::ds,vs,n+1,h=>by
  obtain⟨v,r,e1,e2,e3⟩:=h;subst e1;simpa using bA.drop n e3
theorem bA.one{d:Dt}(h:dD H d v):bA H [d] [v]:=⟨v,[],rfl,h,rfl⟩
def gI:Nat->Dt->Prop
 |n+1,.tup ds=>ds.length<=1000/\∀d∈ds,gI n d
 |n+1,.lst ds=>ds.length<=1000/\∀d∈ds,gI n d
 |0,.tup _=>False
 |0,.lst _=>False
 |_,_=>True
inductive Tm where
 |name (x:Str)
 |node (w:Str) (ts:List Tm)
mutual
def GA:Tm->Dt
 | .name x=>.tup [.str "name",.str x]
 | .node w ts=>.tup (.str w::aj ts)
def aj:List Tm->List Dt
 |[]=>[]
 |t::ts=>GA t::aj ts
end
theorem YU:∀ts:List Tm,aj ts=ts.map GA
 |[]=>rfl
 |t::ts=>by rw[aj,YU ts,cD]
theorem YV(w:Str)(ts:List Tm):GA (.node w ts)=.tup (.str w::ts.map GA):=by rw[GA,YU]
abbrev hG(H:Hp)(t:Tm)(v:V):Prop:=dD H (GA t) v
abbrev fD(H:Hp)(ts:List Tm)(vs:List V):Prop:=bA H (ts.map GA) vs
theorem hG.name{x:Str}(h:hG H (.name x) v):∃a,v=.ref a/\H a=some (.tup [.str "name",.str x]):=by
 obtain⟨a,vs,e1,e2,u,r,e3,e4,e5⟩:=h;obtain⟨u2,r2,e6,e7,e8⟩:=e5;have e4:u=.str "name":=e4;have e7:u2=.str x:=e7;have e8:r2=[]:=e8;subst e3;subst e4;subst e6;subst e7;subst e8;exact⟨a,e1,e2⟩
theorem hG.mkName{x:Str}(h:H a=some (.tup [.str "name",.str x])):hG H (.name x) (.ref a):=
 ⟨a,_,rfl,h,_,_,rfl,rfl,_,_,rfl,rfl,rfl⟩
theorem hG.node{w:Str}(h:hG H (.node w ts) v):∃a vs,v=.ref a/\H a=some (.tup (.str w::vs))/\fD H ts vs:=by
 unfold hG at h;rw[YV]at h;obtain⟨a,vs,e1,e2,u,r,e3,e4,e5⟩:=h;have e4:u=.str w:=e4;subst e3;subst e4;exact⟨a,r,e1,e2,e5⟩
theorem hG.mkNode{w:Str}(h:H a=some (.tup (.str w::vs)))(hs:fD H ts vs):hG H (.node w ts) (.ref a):=by
 unfold hG;rw[YV];exact⟨a,_,rfl,h,_,_,rfl,rfl,hs⟩
def Wrd(w:Str):Prop:=w="none"\/w="all"\/w="not"\/w="both"\/w="either"
theorem Wrd.ne{w:Str}(h:Wrd w):w≠"name":=by
 rcases h with rfl |rfl |rfl |rfl |rfl<;>decide+kernel
def Sh(w:Str)(n:Nat):Prop:=(w="none"/\n=0)\/(w="all"/\n=0)\/(w="not"/\n=1)\/(w="both"/\2<=n)\/(w="either"/\2<=n)
theorem Sh.wrd{w:Str}(h:Sh w n):Wrd w:=by
 rcases h with h |h |h |h |h
 ·exact .inl h.1
 ·exact .inr (.inl h.1)
 ·exact .inr (.inr (.inl h.1))
 ·exact .inr (.inr (.inr (.inl h.1)))
 ·exact .inr (.inr (.inr (.inr h.1)))
structure Nm(x:Str):Prop where
 pos:1<=x.length
 most:x.length<=8
 low:∀c∈x.cps.toList,97<=c/\c<=122
 nn:x≠"none"
 na:x≠"all"
def eM:Nat->Tm->Prop
 |_,.name x=>Nm x
 |0,.node w ts=>Sh w ts.length/\ts=[]
 |n+1,.node w ts=>Sh w ts.length/\∀t∈ts,eM n t
theorem eM.up:∀{n:Nat}{t:Tm},eM n t->eM (n+1) t
 |n,.name _,h=>by unfold eM at h⊢;exact h
 |0,.node w ts,h=>by
  unfold eM at h;obtain⟨h1,h2⟩:=h;subst h2;exact⟨h1,λ_ z=>nomatch z⟩
 |n+1,.node w ts,h=>by
  unfold eM at h⊢;exact⟨h.1,λt ht=>eM.up (h.2 t ht)⟩
theorem eM.mono{m:Nat}{t:Tm}(h:eM n t)(hm:n<=m):eM m t:=by
 obtain⟨k,rfl⟩:=Nat.le.dest hm
 induction k with
 |zero=>exact h
 |succ k ih=>exact eM.up (ih ())
theorem eM.sh{w:Str}(h:eM n (.node w ts)):Sh w ts.length:=by
 cases n with
 |zero=>exact h.1
 |succ n=>exact h.1
theorem eM.wrd{w:Str}(h:eM n (.node w ts)):Wrd w:=h.sh.wrd
theorem eM.part{w:Str}{t:Tm}(h:eM (n+1) (.node w ts))(ht:t∈ts):eM n t:=h.2 t ht
mutual
def wt:Tm->Nat
 | .name _=>1
 | .node _ ts=>1+mV ts
def mV:List Tm->Nat
 |[]=>0
 |t::ts=>wt t+mV ts
end
theorem CH:∀t:Tm,1<=wt t
 | .name _=>by rw[wt];lia
 | .node _ _=>by rw[wt];lia
theorem FU:∀ts:List Tm,ts.length<=mV ts
 |[]=>by simp
 |t::ts=>by
  have :=FU ts;have :=CH t;rw[mV,bB];lia
theorem FT:∀{ts:List Tm}{t:Tm},t∈ts->wt t<=mV ts
 |u::ts,t,h=>by
  rw[mV];rcases bI.mp h with h |h
  ·subst h;lia
  ·have :=FT h;lia
theorem wL:∀ts us:List Tm,mV (ts++us)=mV ts+mV us
 |[],us=>by simp[mV]
 |t::ts,us=>by rw[List.cons_append,mV,mV,wL ts us];lia
theorem eM.dfit:∀{n:Nat}{t:Tm},eM n t->wt t<=900->gI (n+1) (GA t)
 |n,.name x,_,_=>by
  rw[GA];unfold gI;refine⟨by simp,λd hd=>?_⟩;rcases bI.mp hd with rfl |hd
  ·cases n<;>trivial
  ·rw[aX.mp hd];cases n<;>trivial
 |n,.node w ts,h,hw=>by
  rw[YV];rw[wt]at hw;have hl:=FU ts;unfold gI;refine⟨by rw[bB,aE];lia,λd hd=>?_⟩;rcases bI.mp hd with rfl |hd
  ·cases n<;>trivial
  ·obtain⟨t,ht,rfl⟩:=bO.mp hd;have hm:=FT ht;cases n with
   |zero=>rw[h.2]at ht;cases ht
   |succ n=>exact eM.dfit (h.2 t ht) ()
theorem zE{p:Addr}(h:H p=none)(o:HO):bG H (upd H p o):=λb u q=>by rw[zL (xV q h)];exact q
theorem au{x y:Str}(h:x.cps=y.cps):x=y:=by
 cases x;cases y;cases h;rfl
theorem HU(p q:Str):(p++q).length=p.length+q.length:=by
 show(p.cps++q.cps).size=p.cps.size+q.cps.size;rw[Array.size_append]
theorem fe(p q:Str):(p++q).cps.toList=p.cps.toList++q.cps.toList:=by
 show(p.cps++q.cps).toList=_;rw[cI]
theorem small(h:n<=1000):n<=sizeLine:=pM (qL h)
theorem fD.one{t:Tm}(h:hG H t v):fD H [t] [v]:=bA.one h
theorem fD.append{us:List Tm}{ws:List V}(h:fD H ts vs)(h':fD H us ws):fD H (ts++us) (vs++ws):=by
 unfold fD;rw[bF];exact bA.append h h'
theorem fD.take(n:Nat)(h:fD H ts vs):fD H (ts.take n) (vs.take n):=by
 unfold fD;rw[oU];exact bA.take n h
theorem fD.drop(n:Nat)(h:fD H ts vs):fD H (ts.drop n) (vs.drop n):=by
 unfold fD;rw[sF];exact bA.drop n h
theorem fD.length(h:fD H ts vs):vs.length=ts.length:=by
 have :=bA.length h;rw[aE]at this;exact this
theorem fD.get{t:Tm}(h:fD H ts vs)(ht:ts[i]?=some t):∃v,vs[i]?=some v/\hG H t v:=
 bA.get (d:=GA t) h (by rw[aQ,ht];rfl)
theorem fD.getV(h:fD H ts vs)(hv:vs[i]?=some v):∃t,ts[i]?=some t/\hG H t v:=by
 have hi:i<ts.length:=by rw[←h.length];exact(aD.mp hv).1
 obtain⟨u,h1,h2⟩:=h.get (aA hi);rw[hv]at h1;cases h1;exact⟨_,aA hi,h2⟩
def dC(H H':Hp):Prop:=∀b xs,H b=some (.tup xs)->H' b=some (.tup xs)
theorem dC.refl(H:Hp):dC H H:=λ_ _ h=>h
theorem dC.trans{H1 H2:Hp}(a:dC H H1)(b:dC H1 H2):dC H H2:=λc o h=>b c o (a c o h)
theorem bG.tups(e:bG H H'):dC H H':=λb xs h=>e b _ h
theorem dC.upd_lst{o:HO}(e:dC H H')(h:H' a=some (.lst xs)):dC H (upd H' a o):=λb ys hb=>by
 rw[zL (qD (e _ _ hb) h (by intro z;cases z))];exact e _ _ hb
theorem bG.upd{H1:Hp}{o:HO}(e:bG H H1)(h:H a=none):bG H (upd H1 a o):=λb u hb=>by
 rw[zL (xV hb h)];exact e _ _ hb
mutual
theorem hG.tups{H H':Hp}(e:dC H H'):∀{t:Tm}{v:V},hG H t v->hG H' t v
 | .name x,v,h=>by
   obtain⟨a,e1,h2⟩:=hG.name h;subst e1;exact hG.mkName (e _ _ h2)
 | .node w ts,v,h=>by
   obtain⟨a,vs,e1,h2,hs⟩:=hG.node h;subst e1;exact hG.mkNode (e _ _ h2) (fD.tups e hs)
theorem fD.tups{H H':Hp}(e:dC H H'):∀{ts:List Tm}{vs:List V},fD H ts vs->fD H' ts vs
 |[],vs,h=>h
 |t::ts,vs,h=>by
  obtain⟨v,r,e1,e2,e3⟩:=h;exact⟨v,r,e1,hG.tups e e2,fD.tups e e3⟩
end
structure KD(w:World)(K:W.Frag)(a:Addr)(kvs:List (eZ×V)):Prop where
 dict:∀(P:Program)(h:Heap),K.In h->∃vs,KV kvs vs/\h.DictOf (yC P w) a vs
def tKGet(w:World)(K:W.Frag)(td ty:TE):TE:=λσ H Q=>td σ H λx H1=>ty σ H1 λy H2=>∃a kvs k v,x=.ref a/\y=kV k/\KD w K a kvs/\yW kvs k=some v/\Q v H2
theorem cx_w{scope:Scope}{cd:Value}{E:XK}:(JE CX P w K mg base N qual scope f cd A outer s H E).w=w:=rfl
theorem bk_w{xs:List Str}{scope:Scope}{C:Addr}{s₀:Shared}{H₀:Hp}:(yR X xs ys scope C s₀ H₀ fp).w=X.w:=rfl
theorem jT:W.kitOne K (.type T) (.type T)=some true:=by
 unfold W.kitOne;rw[aH (by simp)]
def kitF(S T:String):Bool:=!(Value.type S==Value.type T)&&W.kitMeta T&&((PySem.fastBuiltinMro S).map (·.contains (.type T))==some false)
theorem ii{S:String}(h:kitF S T=true):W.kitOne K (.type S) (.type T)=some false:=by
 unfold kitF at h;simp only[cA,FS,dJ]at h;unfold W.kitOne;rw[aF (by rw[h.1.1];decide)];show(if W.kitMeta T=true then W.subIn K (.type S) (.type T)else none)=_;rw[aH h.1.2];exact h.2
theorem l6:W.kitOne K (.type "tuple") (.type "int")=some false:=ii (by decide+kernel)
theorem TF:W.kitOne K (.type "int") (.type "bool")=some false:=ii (by decide+kernel)
theorem PP{P:Program}{w:World}{K:W.Frag}{mg:Str->Option Value}{base:Heap}{x:Str}{ps:List Str}{st:Stmt}{f:Addr}{fd:FuncData}{sp:Nat->Sp}(F:gL K x x st f fd)(b:Binds K fd ps [])(m:mg x=some (.ref f))
 (h0:∀vs H Q E,¬sp 0 vs H Q E) (step:∀n,fX P w K mg base n x ps (sp n)->dG P w K mg base gJ (n+1) f fd ps (sp (n+1))):∀n,dG P w K mg base gJ n f fd ps (sp n)
 |0=>⟨λvs H Q E h=>(h0 vs H Q E h).elim,λA outer s H args us vs Q E _ _ _ _ h=>(h0 vs H Q E h).elim⟩
 |n+1=>step n (zW F (PP F b m h0 step n) b m)
def mw(w:Str):Str:=if w="none" then"all" else if w="all" then"none" else if w="both" then"either" else if w="either" then"both" else w
mutual
def mir:Tm->Tm
 | .name x=>.name x
 | .node w ts=>.node (mw w) (mirs ts)
def mirs:List Tm->List Tm
 |[]=>[]
 |t::ts=>mir t::mirs ts
end
theorem Sh.mw{w:Str}(h:Sh w n):Sh (mw w) n/\L2.mw (L2.mw w)=w:=by
 rcases h with⟨rfl,h⟩ |⟨rfl,h⟩ |⟨rfl,h⟩ |⟨rfl,h⟩ |⟨rfl,h⟩
 ·exact⟨.inr (.inl ⟨by decide+kernel,h⟩),by decide+kernel⟩
 ·exact⟨.inl ⟨by decide+kernel,h⟩,by decide+kernel⟩
 ·exact⟨.inr (.inr (.inl ⟨by decide+kernel,h⟩)),by decide+kernel⟩
 ·exact⟨.inr (.inr (.inr (.inr ⟨by decide+kernel,h⟩))),by decide+kernel⟩
 ·exact⟨.inr (.inr (.inr (.inl ⟨by decide+kernel,h⟩))),by decide+kernel⟩
theorem vW(x:V)(xs:List V):qJ (x::xs) (some 1) none=xs:=by
 unfold qJ;have e:HT.sIx (x::xs).length 0 (some ((1:Nat):Int))=1:=by rw[HT.sIx_nat,bB];lia
 have e:HT.sIx (x::xs).length 0 (some 1)=1:=e;rw[e,HT.sIx_none,List.drop_one,List.tail_cons,aR (by rw[bB];lia)]
theorem bG.tup{K:W.Frag}{H H':Hp}{a:Addr}{xs:List V}(e:bG H H')(h:cW K H a xs):cW K H' a xs:=by
 rcases h with(h |⟨o,h⟩) |h
 ·exact .inl (.inl (e _ _ h))
 ·exact .inl (.inr ⟨o,e _ _ h⟩)
 ·exact .inr h
theorem iG{x:α}{xs:List α}:oO (x::xs) 0=some x:=yO (j:=0) (xs:=x::xs) rfl
theorem nK{x y:α}{xs:List α}:oO (x::y::xs) 1=some y:=yO (j:=1) (xs:=x::y::xs) rfl
def EZ(p:Tm×Tm):Dt:=.tup [GA p.1,GA p.2]
def ZS(r:List (Tm×Tm)×(Tm×Tm)):Dt:=.tup [.lst (r.1.map EZ),EZ r.2]
abbrev oW(H:Hp)(p:Tm×Tm)(v:V):Prop:=dD H (EZ p) v
abbrev rD(H:Hp)(ps:List (Tm×Tm))(vs:List V):Prop:=bA H (ps.map EZ) vs
abbrev i5(H:Hp)(r:List (Tm×Tm)×(Tm×Tm))(v:V):Prop:=dD H (ZS r) v
theorem oW.out{p:Tm×Tm}(h:oW H p v):∃a v1 v2,v=.ref a/\H a=some (.tup [v1,v2])/\hG H p.1 v1/\hG H p.2 v2:=by
 obtain⟨a,vs,e1,e2,u,r,e3,h1,u2,r2,e4,h2,e5⟩:=h;have e5:r2=[]:=e5;subst e5;subst e4;subst e3;exact⟨a,u,u2,e1,e2,h1,h2⟩
theorem i5.out{r:List (Tm×Tm)×(Tm×Tm)}(h:i5 H r v):∃a l s vs,v=.ref a/\H a=some (.tup [.ref l,s])/\H l=some (.lst vs)/\rD H r.1 vs/\oW H r.2 s:=by
 obtain⟨a,vs,e1,e2,u,q,e3,⟨l,ws,e6,e7,h1⟩,u2,r2,e4,h2,e5⟩:=h;have e5:r2=[]:=e5;subst e5;subst e4;subst e3;subst e6;exact⟨a,l,u2,ws,e1,e2,e7,h1,h2⟩
theorem rD.length{ps:List (Tm×Tm)}(h:rD H ps vs):vs.length=ps.length:=by
 have :=bA.length h;rw[aE]at this;exact this
theorem rD.getV{ps:List (Tm×Tm)}(h:rD H ps vs)(hv:vs[i]?=some v):∃p,ps[i]?=some p/\oW H p v:=by
 have hi:i<ps.length:=by rw[←h.length];exact(aD.mp hv).1
 obtain⟨u,h1,h2⟩:=bA.get (d:=EZ ps[i]) h (by rw[aQ,aA hi];rfl);rw[hv]at h1;cases h1;exact⟨_,aA hi,h2⟩
def WH(n m:Nat)(p:Tm×Tm):Prop:=(eM n p.1/\wt p.1<=m)/\eM n p.2/\wt p.2<=m
theorem WH.dfit{m:Nat}{p:Tm×Tm}(h:WH n m p)(hm:m<=900):gI (n+2) (EZ p):=by
 refine⟨by simp,λd hd=>?_⟩;rcases bI.mp hd with rfl |hd
 ·exact h.1.1.dfit (dI h.1.2 hm)
 ·rw[aX.mp hd];exact h.2.1.dfit (dI h.2.2 hm)
theorem gI.up:∀{n:Nat}{d:Dt},gI n d->gI (n+1) d
 |n,.non,_=>by cases n<;>trivial
 |n,.bl _,_=>by cases n<;>trivial
 |n,.int _,_=>by cases n<;>trivial
 |n,.str _,_=>by cases n<;>trivial
 |0,.tup _,h=>h.elim
 |0,.lst _,h=>h.elim
 |n+1,.tup ds,h=>⟨h.1,λd hd=>gI.up (h.2 d hd)⟩
 |n+1,.lst ds,h=>⟨h.1,λd hd=>gI.up (h.2 d hd)⟩
theorem LK{m:Nat}{r:List (Tm×Tm)×(Tm×Tm)}(h:∀p∈r.1,WH n m p)(h2:WH n m r.2)(hm:m<=900)(hl:r.1.length<=900):gI (n+4) (ZS r):=by
 refine⟨by simp,λd hd=>?_⟩;rcases bI.mp hd with rfl |hd
 ·refine⟨by rw[aE];lia,λd hd=>?_⟩;obtain⟨p,hp,rfl⟩:=bO.mp hd;exact(h p hp).dfit hm
 ·rw[aX.mp hd];exact(h2.dfit hm).up
def cutI(ns:List Int)(lo hi:Option Int):List Int:=(ns.drop (HT.sIx ns.length 0 lo)).take (HT.sIx ns.length ns.length hi-HT.sIx ns.length 0 lo)
theorem BK(ns:List Int)(lo hi:Option Int):qJ (ns.map V.int) lo hi=(cutI ns lo hi).map V.int:=by
 unfold qJ cutI;rw[aE,oU,sF]
section
variable (K:W.Frag)
theorem qF(h:X.K=K:=by rfl):oi X (cb K):=by subst h;exact yB
theorem qI(h:X.K=K:=by rfl):oi X (b9 K):=by subst h;exact zN
theorem OS(h:X.K=K:=by rfl):SlR X (rSlL K):=by subst h;exact YC
theorem MV(h:X.K=K:=by rfl):uA X (.builtin "len") (λxs H Q=>pI xs λx=>∃n,oh K x H n/\Q (.int n) H):=by subst h;exact yA
theorem JP(h:X.K=K:=by rfl):uA X (.type "list") (λxs H Q=>pI xs λx=>mI x λp=>∃ys,(dF K H p ys\/cW K H p ys)/\∀l,H l=none->Q (.ref l) (upd H l (.lst ys))):=by subst h;exact VA
end
abbrev Cs:=List Nat
def BE(j:Cs):List Cs->Cs
 |[]=>[]
 |[s]=>s
 |s::r::q=>s++j++BE j (r::q)
def jAnd:Cs:=[32,38,32]
def jOr:Cs:=[32,124,32]
def jOf(w:Str):Cs:=if w="both" then jAnd else jOr
def wrN(w:Str)(ss:List Cs):Cs:=if w="not" then 33::ss.headD []else if ss=[]then w.cps.toList else 40::(BE (jOf w) ss++[41])
mutual
def wr:Tm->Cs
 | .name x=>x.cps.toList
 | .node w ts=>wrN w (wrs ts)
def wrs:List Tm->List Cs
 |[]=>[]
 |t::ts=>wr t::wrs ts
end
def wN(j:Cs):List Cs->Cs
 |[]=>[]
 |s::r=>j++s++wN j r
theorem QH(j:Cs):∀(s:Cs)(r:List Cs),BE j (s::r)=s++wN j r
 |s,[]=>by simp[BE,wN]
 |s,a::r=>by
  rw[BE,QH j a r,wN];simp
def FZ(s:Cs):Str:=⟨s.toArray⟩
theorem JA(j:Cs):∀(r:List Cs)(mD:Cs),((r.map FZ).foldl (λmD p=>mD++(FZ j).cps++p.cps) mD.toArray)=(mD++wN j r).toArray
 |[],mD=>by simp[wN]
 |s::r,mD=>by
  rw[cD,WQ];have e:mD.toArray++(FZ j).cps++(FZ s).cps=(mD++j++s).toArray:=by simp[FZ]
  rw[e,JA j r,wN];simp
theorem MO(j:Cs)(ss:List Cs):Builtin.Str.glued (FZ j) (ss.map FZ)=FZ (BE j ss):=by
 cases ss with
 |nil=>rfl
 |cons s r=>
  show(⟨(r.map FZ).foldl (λmD p=>mD++(FZ j).cps++p.cps) (FZ s).cps⟩:Str)=_;rw[QH,show(FZ s).cps=s.toArray from rfl,JA];rfl
section
open PySem.Builtin PySem.Builtin.Str PySem.StrLaws
structure Mark(y:Cs)(k m:Nat):Prop where
 at_:y[k]?=some m
 once:∀j,y[j]?=some m->j=k
def BZ(n:Nat)(p:Tm×Tm):Prop:=eM n p.1/\eM n p.2
end
section
open PySem.Builtin PySem.Builtin.Str
structure mW(P:Program)(w:World)(K:W.Frag)(mg:Str->Option Value)(base:Heap)(k:Nat)(C:Addr)(m:Str)(ps:List Str)(sp:Sp):Prop where
 ex:∃f fd,dG P w K mg base gJ k f fd ps sp/\Binds K fd ps []/\FI K C m f
structure oq(P:Program)(w:World)(K:W.Frag)(mg:Str->Option Value)(base:Heap)(k:Nat)(C:Addr)(x:Str)(ps:List Str)(sp:Sp):Prop where
 ex:∃f fd,dG P w K mg base gJ k f fd ps sp/\Binds K fd ps []/\Mk K C f/\mg x=some (.ref C)
section
variable {k:Nat} {C:Addr} {x m:Str} {pos:Pos} {t:TA}
theorem yI{pl:Sem Bool}(h:mW X.prog X.w X.K X.mg X.base k C m ps sp)(c:ND X.K C)(hr:gW k X.A)(he:PE X o ta)(ha:PA X (e::es) t)
 (iN:starEach (e::es) X.env=(false,eval e X.env)::starEach es X.env:=by rfl) (hpl:(backTo pos (starEach es X.env)).any (·.1)=false:=by rfl)
 (ht:eval (.Call (.Attribute o m iU) (e::es) [] pos) X.env=(do
  let ov ←eval o X.env
  standAt iU.atName
  let (f,first) ←holding [ov] (getMethod ov m pl)
  callWith pos f first (backTo pos (starEach (e::es) X.env)) (backToKw pos (keywordEach [] X.env))):=by rfl):
 PE X (.Call (.Attribute o m iU) (e::es) [] pos) (jI C m sp [] E0 ta t):=by
 obtain⟨f,fd,F,b,mm⟩:=h.ex;exact cm (pl:=pl) he c mm F hr b .nil HF ha iN hpl ht
theorem RK(h:oq X.prog X.w X.K X.mg X.base k C x ps sp)(hr:gW (k+1) X.A)(hg:Gl X x)(ha:PA X (e::es) t)(hdb:(x==("__debug__":Str))=false:=by decide)
 (he:starEach (e::es) X.env=(false,eval e X.env)::starEach es X.env:=by rfl) (hpl:(backTo pos (starEach es X.env)).any (·.1)=false:=by rfl):
 PE X (.Call (.Name x p) (e::es) [] pos) (OD C sp [] E0 t):=by
 obtain⟨f,fd,F,b,M,m⟩:=h.ex;exact cn M F hr hg m b .nil HF ha hdb he hpl
end
def rdF(x:Cs)(k:Nat):List (Str×V):=[("text",.str (FZ x)),("at",.int k)]
def RdAt(C:Addr)(H:Hp)(r:Addr)(x:Cs)(k:Nat):Prop:=∃dx,H r=some (.ins C dx (rdF x k))
def gE(r:Addr)(H H':Hp):Prop:=∀b o,H b=some o->b≠r->H' b=some o
theorem gE.refl(r:Addr)(H:Hp):gE r H H:=λ_ _ h _=>h
theorem gE.trans{H1 H2:Hp}(a:gE r H H1)(b:gE r H1 H2):gE r H H2:=λc o h n=>b c o (a c o h n) n
theorem bG.x(a:bG H H'):gE r H H':=λc o h _=>a c o h
theorem gE.upd{H1:Hp}{o:HO}(a:gE r H H1):gE r H (L2.upd H1 r o):=λc o' h n=>by
 rw[zL n];exact a c o' h n
theorem gE.tups{C:Addr}{x:Cs}{k:Nat}(a:gE r H H')(h:RdAt C H r x k):dC H H':=λb xs e=>by
 obtain⟨dx,h⟩:=h;exact a b _ e (qD e h (by intro z;cases z))
theorem F.lk_list_keys:typeLookup (.type "list") "keys"=pure none:=by rw[typeLookup_type,WZ];kernel_rfl
theorem F.lk_list_ga:typeLookup (.type "list") "__getattr__"=pure none:=by rw[typeLookup_type,WZ];kernel_rfl
theorem F.sub_ae:isSubtype (.type "AttributeError") (.type "AttributeError")=pure true:=by rw[isSubtype_type];kernel_rfl
def fz(h h':Heap)(e:Addr):Prop:=(∀b u,h.get? b=some u->h'.get? b=some u)/\∃o,h'.get? e=some o/\o.cls=.type "AttributeError"
section
variable {its:Array Value} {sl:Array (Option Value)}
theorem LO{o:Value}{name msg:Str}{Q:α->Shared->Prop}(hA:A.handled=none)(hm:msg.length<=sizeLine)
 (hq:∀h' t' e,fz s.heap h' e->E (.ref e) {s with heap:=h',toks:=t'}):wpAny (model prog w) A (raiseAttrError o name msg:Sem α) Q E s:=by
 unfold raiseAttrError;refine aG (wpAny_mkStr (aG ?_) hm);unfold newExc newTuple;refine aG (eS ?_ (by size_fits));refine aG (m:=firstArgMember _ _) (wpAny_of_eq (a:=Value.none) (by
  simp only[firstArgMember];rw[show((Manifest.find? "AttributeError").elim false λt=>t.mro.contains "StopIteration" ||t.mro.contains "SystemExit")=false by decide+kernel];rfl) ?_)
 refine eS ?_ (by size_fits);refine aG (wpAny_mkText ?_);refine aG ?_;obtain⟨h,g,d,t,os⟩:=s;dsimp only at hq⊢;have hk1:∀b u,h.get? b=some u->(h.push {cls:=Value.type "tuple",data:=Data.seq #[Value.str msg t]}).get? b=some u:=λb u e=>aS _ e
 generalize h.push {cls:=Value.type "tuple",data:=Data.seq #[Value.str msg t]}=h1 at hk1⊢;have hE:=bQ h1 (o:={cls:=Value.type "AttributeError",data:=Data.fields (#[Value.ref h.objs.size,Value.none,Value.none,Value.none,Value.bool false,Value.none]++ownMembersOf (Value.type "AttributeError") [Value.str msg t])}) rfl;have hk2:∀b u,h1.get? b=some u->(h1.push {cls:=Value.type "AttributeError",data:=Data.fields (#[Value.ref h.objs.size,Value.none,Value.none,Value.none,Value.bool false,Value.none]++ownMembersOf (Value.type "AttributeError") [Value.str msg t])}).get? b=some u:=λb u e=>aS _ e
 have hne:∀b u,h1.get? b=some u->b≠h1.objs.size:=λb u e=>cG (bJ e)
 generalize h1.push {cls:=Value.type "AttributeError",data:=Data.fields (#[Value.ref h.objs.size,Value.none,Value.none,Value.none,Value.bool false,Value.none]++ownMembersOf (Value.type "AttributeError") [Value.str msg t])}=h2 at hE hk2⊢;generalize h1.objs.size=e at hE hne⊢;have hT:(⟨h2,g,d,t+1+1,os⟩:Shared).TypeIs (.ref e) "AttributeError":=⟨_,hE,rfl⟩
 have f1:=F.sub_ae;unfold noteAttr;dsimp only;refine aG ?_;unfold lacksNameAndObj;dsimp only;refine aG (wpAny_isInstance hT f1 ?_);rw[aF (by decide)];refine aG (wpAny_load hE ?_);dsimp only;rw[aF (by simp[ownMembersOf,unsetMember,rawInt]),aF (by simp[ownMembersOf,unsetMember,doubtfulMember,rawInt])];refine aU ?_;rw[aH rfl];refine aG (iC ?_);refine aG (mM hT ?_);dsimp only;unfold layMembers;refine aG (wpAny_load hE ?_);dsimp only;refine wpAny_update hE ?_;refine wpAny_raiseNew_none hA (hq _ _ _ ⟨λb u hb=>?_,⟨_,nI _ hE (Obj.isFreed_of_fields (WN rfl _)),Obj.cls_mapFields _ _⟩⟩);exact(rY _ _ (cM (hne b u (hk1 b u hb)))).trans (hk2 b u (hk1 b u hb))
end
section
variable {g:Array GenState} {d:Drawn} {t:Nat} {os:OsState} {its:Array Value} {sl:Array (Option Value)}
theorem UM{tk:Tok}{Q:PySem.Fin->Shared->Prop}(hA:A.handled=none)(hx:h.get? a=some ⟨.type "list",none,.seq its n,sl⟩)
 (hq:∀h' t' e,fz h h' e->E (.ref e) ⟨h',g,d,t',os⟩):
 wpAny (model prog w) A (Builtin.«object.__getattribute__» ⟨[.ref a,.str "keys" tk],[]⟩) Q E ⟨h,g,d,t,os⟩:=by
 have hT:(⟨h,g,d,t,os⟩:Shared).TypeIs (.ref a) "list":=⟨_,hx,rfl⟩
 have f4:=F.lk_list_keys
 repeat (any_goals (first |assumption |wp_step))
 exact LO hA (by decide+kernel) hq
theorem AO{tk:Tok}(hA:A.handled=none)(hx:h.get? a=some ⟨.type "list",none,.seq its n,sl⟩)
 (hq:∀h' t' e,fz h h' e->R (.error (.ref e)) ⟨h',g,d,t',os⟩):
 codeAny (model prog w) A (.call (.builtin "list.__getattribute__") ⟨[.ref a,.str "keys" tk],[]⟩) R ⟨h,g,d,t,os⟩:=
 codeAny_call_builtin gR.plain F.entry_list_ga (gR.check _ _ _ _ _ _ _ _ (show(⟨h,g,d,t,os⟩:Shared).TypeIs (.ref a) "list" from⟨_,hx,rfl⟩) (F.args_list_getattribute_2 _ _) (UM hA hx hq))
theorem MC{tk:Tok}(hA:A.handled=none)(hx:h.get? a=some ⟨.type "list",none,.seq its n,sl⟩)
 (hq:∀h' t' e,fz h h' e->E (.ref e) ⟨h',g,d,t',os⟩):wpAny (model prog w) A (getAttrBy (.ref a) (.str "keys" tk) false) Q E ⟨h,g,d,t,os⟩:=by
 have hT:(⟨h,g,d,t,os⟩:Shared).TypeIs (.ref a) "list":=⟨_,hx,rfl⟩
 have f2:=gR.lookup;have f3:=gR.bind (.ref a);have f5:=F.lk_list_ga;have f6:=F.sub_ae
 repeat (any_goals (first |assumption |wp_step))
 refine AO hA hx λh' t' e ae=>?_
 have hT2:(⟨h',g,d,t',os⟩:Shared).TypeIs (.ref e) "AttributeError":=ae.2
 repeat (any_goals (first |assumption |exact hq _ _ _ ae |wp_step))
theorem SQ{Q:Option Value->Shared->Prop}(hA:A.handled=none)(hx:h.get? a=some ⟨.type "list",none,.seq its n,sl⟩)
 (hq:∀h' t',(∀b u,h.get? b=some u->h'.get? b=some u)->Q none ⟨h',g,d,t',os⟩):wpAny (model prog w) A (getAttr? (.ref a) "keys") Q E ⟨h,g,d,t,os⟩:=by
 unfold getAttr? getAttrBy?;refine aG (wpAny_mkText (aG (NO (MC hA hx λh' t' e ae=>?_))));dsimp only;have hT2:(⟨h',g,d,t',os⟩:Shared).TypeIs (.ref e) "AttributeError":=ae.2;refine aG (wpAny_isInstance hT2 F.sub_ae ?_);rw[aH rfl];exact aU (hq _ _ ae.1)
end
theorem F.plain_dul:plainId "dict.update.loop"=true:=by decide+kernel
theorem F.entry_dul:entryFor table "dict.update.loop"=some Builtin.«dict.update.loop»:=entryFor_of_tree (by kernel_rfl)
section
variable {Kt:Type} [DecidableEq Kt] {knd:KeyKind prog w Kt}
theorem sS{kvs:List (Kt×Value)}(hn:(kvs.map (·.1)).Nodup){k:Kt}{v:Value}(h:kvs[i]?=some (k,v)):stored (kvs.take i) k v=kvs.take (i+1):=by
 obtain⟨il,ie⟩:=aD.mp h;have hno:(kvs.take i).any (λkv=>kv.1=k)=false:=by
  rw[fN];intro z;obtain⟨x,hx,hk⟩:=gS.mp z;have hk:x.1=k:=by simpa using hk
  obtain⟨j,hj,e⟩:=dU hx;rw[bH]at hj;rw[oH]at e;exact cS.mp hn j i (by rw[aE];lia) (by rw[aE];lia) () (by simp[e,ie,hk])
 unfold stored;rw[hno,aO il,ie];rfl
theorem DF{its:Array Value}{kvs:List (Kt×Value)}{h0:Heap}(hA:A.handled=none)(hdi:d≠it)(hl:h0.IsList l its)(hd0:∀u,h0.get? d≠some u)(hi0:∀u,h0.get? it≠some u)
 (hn:(kvs.map (·.1)).Nodup) (hsz:kvs.length<=sizeLine) (fA:its.size=kvs.length) (hp:∀(i:Nat)(k:Kt)(v:Value),kvs[i]?=some (k,v)->∃(a:Addr)(key:Value),its[i]?=some (Value.ref a)/\IsTup h0 a #[key,v]/\knd.is k key=true):
 ∀(m i:Nat)(t:Tok)(s:Shared),kvs.length-i=m->i<=kvs.length->s.heap.IsListIter it l i->s.heap.DictOf knd d (kvs.take i)->(∀b u,h0.get? b=some u->s.heap.get? b=some u)->
 (∀h' t',(∀b u,h0.get? b=some u->h'.get? b=some u)->h'.DictOf knd d kvs->R (.ok (.ret .none)) {s with heap:=h',toks:=t'})->
 codeAny (model prog w) A (.builtin "dict.update.loop" ⟨[.ref d,.ref it,.int i t,.none],[]⟩) R s:=by
 intro m
 induction m with
 |zero=>
  intro i t s hm hi hit hd hk hR;have hin:i=kvs.length:=by lia
  subst hin;have eC:s.heap.IsList l its:=by obtain⟨o,ho,r⟩:=hl;exact⟨o,hk _ _ ho,r⟩
  refine sD F.entry_dul ?_;rw[oC F.plain_dul _];show wpAny _ A.in1 (pyNext (.ref it) >>= _) _ _ s;refine aG (CD (A:=A.in1) hA hit eC (by rw[gf];lia) λh' he=>?_);rw[aR (aJ _)]at hd;show wpAny _ A.in1 (Builtin.Dict.addKeywords d [] >>= _) _ _ _;refine aG (aU (aU (hR h' s.toks (λb u hb=>he b u (λz=>hi0 u (by rw[←z];exact hb)) (hk b u hb)) (hd.extBut he hdi))))
 |succ m ih=>
  intro i t s hm hi hit hd hk hR;have lW:i<kvs.length:=by lia
  have eC:s.heap.IsList l its:=by obtain⟨o,ho,r⟩:=hl;exact⟨o,hk _ _ ho,r⟩
  obtain⟨a,key,ha,ht,hkey⟩:=hp i kvs[i].1 kvs[i].2 (aA lW);refine sD F.entry_dul ?_;rw[oC F.plain_dul _];show wpAny _ A.in1 (pyNext (.ref it) >>= _) _ _ s;refine aG (rS (A:=A.in1) hit eC ha λh1 hit1 hs1=>?_);have hk1:∀b u,h0.get? b=some u->h1.get? b=some u:=λb u hb=>(hs1.2 b (λz=>hi0 u (by rw[←z];exact hb))).trans (hk b u hb)
  have hd1:h1.DictOf knd d (kvs.take i):=hd.sameBut hs1 hdi;obtain⟨ot,hot,hct,nt,hdt⟩:=ht;have hot1:=hk1 _ _ hot;have hT:({s with heap:=h1}:Shared).TypeIs (.ref a) "tuple":=⟨_,hot1,hct⟩
  refine aG (eV (aG ?_));refine wpAny_tryCatch ?_;unfold Builtin.Dict.pairItems;refine aG (mM hT ?_);rw[aH (by decide)];refine aG (wpAny_seqItems hot1 hdt (aU ?_));refine eV (wpAny_dictSet_pairs (kvs:=kvs.take i) hkey hd1 (λh2 hd2 hs2=>?_) (by rw[bH];lia));rw[sS hn (show kvs[i]?=some (kvs[i].1,kvs[i].2)from aA lW)]at hd2;refine aU ⟨NP F.plain_dul _,?_⟩;have hk2:∀b u,h0.get? b=some u->h2.get? b=some u:=λb u hb=>(hs2.2 b (λz=>hd0 u (by rw[←z];exact hb))).trans (hk1 b u hb)
  have hit2:h2.IsListIter it l (i+1):=by obtain⟨o,ho,r⟩:=hit1;exact⟨o,(hs2.2 _ (cM hdi)).trans ho,r⟩
  exact ih (i+1) _ {s with heap:=h2,toks:=s.toks+1} () lW hit2 hd2 hk2 hR
theorem ZX{its:Array Value}{kvs:List (Kt×Value)}(hA:A.handled=none)(hl:PlainL s.heap l its)
 (hn:(kvs.map (·.1)).Nodup) (hsz:kvs.length<=sizeLine) (fA:its.size=kvs.length) (hp:∀(i:Nat)(k:Kt)(v:Value),kvs[i]?=some (k,v)->∃(a:Addr)(key:Value),its[i]?=some (Value.ref a)/\IsTup s.heap a #[key,v]/\knd.is k key=true)
 (h:∀h' t',(∀b u,s.heap.get? b=some u->h'.get? b=some u)->h'.DictOf knd s.heap.objs.size kvs->Q (.ref s.heap.objs.size) {s with heap:=h',toks:=t'}):
 wpAny (model prog w) A (call (.type "dict") [.ref l]) Q E s:=by
 refine callType_codes (Q₁:=λobj s₁=>obj=.ref s.heap.objs.size/\s₁={s with heap:=s.heap.push {cls:=.type "dict",data:=.dict #[]}}) F.kt_called_dict (f9 _) F.entry_dict_init (kt_code_dict_new _ ⟨rfl,rfl⟩) ?_;rintro obj s₁ ⟨rfl,rfl⟩;have hnew:(s.heap.push {cls:=.type "dict",data:=.dict #[]}).DictOf knd s.heap.objs.size []:=Heap.DictOf.new s.heap;refine⟨hnew.typeIs,F.args_dict_init_2 _ _,?_⟩;obtain⟨ol,nl,hol,hlc,hld,lB⟩:=hl;have hol1:(s.heap.push {cls:=.type "dict",data:=.dict #[]}).get? l=some ol:=aS _ hol;have hT:({s with heap:=s.heap.push {cls:=.type "dict",data:=.dict #[]}}:Shared).TypeIs (.ref l) "list":=⟨_,hol1,hlc⟩
 unfold Builtin.«dict.__init__»;refine aG ?_;unfold Builtin.Dict.selfAndRest;refine aG (nF hnew.typeIs ?_);show wpAny _ _ (pure (s.heap.objs.size,[Value.ref l])) _ _ _;refine aU ?_;show wpAny _ _ (Builtin.Dict.updateFrom "dict.__init__" s.heap.objs.size (.ref l) [] .none) _ _ _;unfold Builtin.Dict.updateFrom;refine aG (mM hT ?_);rw[aH (by decide)];have hkd:∀b u,s.heap.get? b=some u->(s.heap.push {cls:=.type "dict",data:=.dict #[]}).get? b=some u:=λb u e=>aS _ e
 have hd0:∀u,s.heap.get? s.heap.objs.size≠some u:=λu z=>eA _ (bJ z)
 obtain⟨hp0,g,d,t,os⟩:=s;dsimp only at *;generalize hp0.push {cls:=.type "dict",data:=.dict #[]}=h1 at hnew hol1 hT hkd⊢;generalize hp0.objs.size=D at hnew hd0 h⊢;obtain⟨c1,c2,c3,c4⟩:=ol;dsimp only at hlc hld lB;subst hlc hld lB;refine aG (SQ (A:=A.in1.in1) hA hol1 λh2 t2 hk2=>?_);rw[aH (by rfl)];refine aG (iC ?_);have hl2:h2.IsList l its:=⟨_,hk2 _ _ hol1,rfl,_,rfl⟩
 refine aG (pT hl2 ?_);refine aU ⟨NP F.plain_dul _,?_⟩;have hd2:=hnew.keep hk2;have hit0:∀u,hp0.get? h2.objs.size≠some u:=λu z=>eA _ (bJ (hk2 _ _ (hkd _ _ z)))
 have hDi:D≠h2.objs.size:=λz=>by
  obtain⟨o,_,_,ho,_⟩:=hd2;exact eA _ (by have :=bJ ho;rw[z]at this;exact this)
 refine DF (h0:=hp0) (kvs:=kvs) (A:=A.in1) hA hDi ⟨_,hol,rfl,_,rfl⟩ hd0 hit0 hn hsz fA hp kvs.length 0 _ _ () (cO _) ⟨_,bQ _ rfl,rfl,rfl⟩ (hd2.push _) (λb u hb=>aS _ (hk2 _ _ (hkd _ _ hb))) λh' t' hk' hd'=>?_
 exact⟨rfl,h h' t' hk' hd'⟩
end
theorem tV{P:Program}{w:World}{h:Heap}:∀(kvs:List (eZ×V))(as:List Addr),(∀(i:Nat)(k:eZ)(v:V),kvs[i]?=some (k,v)->∃a its,as[i]?=some a/\cV [kV k,v] its/\IsTup h a its.toArray)->
 ∃vs:List (eZ×Value),KV kvs vs/\∀(i:Nat)(k:eZ)(v:Value),vs[i]?=some (k,v)->∃(a:Addr)(key:Value),as[i]?=some a/\IsTup h a #[key,v]/\(yC P w).is k key=true
 |[],as,_=>⟨[],.nil,λi k v e=>by simp at e⟩
 |(k,v)::kvs,as,hh=>by
  obtain⟨a,its,h1,h2,h3⟩:=hh 0 k v rfl;cases as with
  |nil=>simp at h1
  |cons a0 as=>
   simp at h1;subst h1;obtain⟨ku,vu,rfl,rk,rv⟩:=h2.two;obtain⟨vs,g1,g2⟩:=tV (P:=P) (w:=w) kvs as λi k v e=>by
    obtain⟨a,its,e1,e2⟩:=hh (i+1) k v (by simpa using e);exact⟨a,its,by simpa using e1,e2⟩
   refine⟨(k,vu)::vs,.cons ⟨rfl,rv⟩ g1,λi k' v' e=>?_⟩;cases i with
   |zero=>
    simp at e;obtain⟨rfl,rfl⟩:=e;exact⟨a0,ku,rfl,h3,ZN rk⟩
   |succ i=>
    obtain⟨a,key,e1,e2⟩:=g2 i k' v' (by simpa using e);exact⟨a,key,by simpa using e1,e2⟩
theorem UP{κ:Type}:∀{kvs:List (κ×V)}{vs:List (κ×Value)},KV kvs vs->vs.map (·.1)=kvs.map (·.1)
 |_,_,.nil=>rfl
 |_,_,.cons h r=>by rw[cD,cD,UP r,h.1]
theorem FB:uA X (.type "dict") (λxs H Q=>n6 X.calm (pI xs λx=>mI x λp=>∃as:List Addr,dF X.K H p (as.map V.ref)/\∃kvs:List (eZ×V),as.length=kvs.length/\(kvs.map (·.1)).Nodup/\
 (∀(i:Nat)(k:eZ)(v:V),kvs[i]?=some (k,v)->∃a,as[i]?=some a/\cW X.K H a [kV k,v])/\∀l,H l=none->Q (.ref l) (upd H l (.dK kvs)))):=by
 intro aI s σ H xs us Q I r h;replace h:=VT h;obtain⟨hc,h⟩:=h;replace h:=ZY h;obtain⟨x0,rfl,h⟩:=h;replace h:=xS h;obtain⟨p,rfl,as,hp,kvs,fA,hn,hk,q⟩:=h;obtain⟨u,rfl,ru⟩:=vA r;cases ru;obtain⟨its,rv,hl,hz⟩:=I.list hp;have hil:=rv.length;rw[aE]at hil hz;obtain⟨vs,g1,g2⟩:=tV (P:=X.prog) (w:=X.w) (h:=s.heap) kvs as λi k v e=>by
  obtain⟨a,e1,e2⟩:=hk i k v e;obtain⟨its,r2,t2,_⟩:=I.tuple e2;exact⟨a,its,e1,r2,t2⟩
 have hvl:kvs.length=vs.length:=fQ g1;refine ZX (knd:=yC X.prog X.w) (kvs:=vs) (I.ok.hd hc) hl (by rw[UP g1];exact hn) () (by rw[aL];lia) (λi k v e=>?_) λh' t' hk' hd'=>?_
 ·obtain⟨a,key,e1,e2,e3⟩:=g2 i k v e;obtain⟨u,h1,h2⟩:=rv.get (i:=i) (x:=V.ref a) (by rw[aQ,e1];rfl);cases h2;exact⟨a,key,by simpa using h1,e2,e3⟩
 ·exact⟨.ref s.heap.objs.size,_,I.laid (a:=s.heap.objs.size) (o:=.dK kvs) (t':=t') hk' (aJ _) (EX () (dS.mpr (cM (cG I.big))) g1 hd'),rfl,q _ (I.hok.fresh (aJ _))⟩
end
section
open PySem.W
section
variable {P:Nat->Value->Prop} {OK:Heap->Prop}
end
theorem EW(l:Addr)(cZ:Array Value)(n:Nat)(b:Addr)(dd:Option Addr)(sl:Array (Option Value))(items2:Array Value)(n2:Nat)(hs0:¬(!cZ.isEmpty&&Builtin.List.listTooLong (cZ.size+items2.size))=true)(hs1:cZ.size<=sizeLine)(hs2:cZ.size+items2.size<=sizeLine+1):
 Meets (Builtin.«list.extend» ⟨[.ref l,.ref b],[]⟩) (λ_ R s=>s.heap.get? l=some {cls:=.type "list",dict:=none,data:=.seq cZ n,slots:= #[]}/\s.heap.get? b=some ⟨.type "tuple",dd,.seq items2 n2,sl⟩/\R (.ok (.ret Value.none)) {s with heap:=s.heap.update l (Obj.mapSeq λx=>x++items2),toks:=s.toks}):=
 .of_wp λprog w A R s h=>by
  obtain⟨hp,g,d,tk,os⟩:=s;obtain⟨hl,hb,h⟩:=h;have f2:=PySem.AutoSeq1.sub_tuple_tuple;have f4:=PySem.AutoSeq1.sub_tuple_list;have hz':(cZ++items2).size<=sizeLine+1:=by rw[Array.size_append];exact hs2
  wp_walk using(wpAny_updateSeq hl rfl (hz:=hs1) (_hz':=hz')),NF hl,NF hb
  exact⟨_,rfl,h⟩
def kE(K:W.Frag):V->List V->Hp->VK->Prop:=λx vs H Q=>mI x λl=>pI vs λz=>mI z λb=>∃xs,H l=some (.lst xs)/\∃zs,cW K H b zs/\xs.length+zs.length<=sizeLine/\Q .non (upd H l (.lst (xs++zs)))
theorem wR:MtM X "list.extend" (kE X.K):=by
 intro aI s σ H x vs v us Q I rx rv h;replace h:=xS h;obtain⟨l,rfl,h⟩:=h;replace h:=ZY h;obtain⟨x,rfl,h⟩:=h;replace h:=xS h;obtain⟨b,rfl,xs,hH,zs,hB,hz,q⟩:=h;cases rx;obtain⟨u,rfl,ru⟩:=rv.one;cases ru;obtain⟨z,its,n,r,hl,e⟩:=I.lstM hH;obtain⟨its2,r2,⟨o2,e2,c2,n2,d2⟩,z2⟩:=I.tuple hB;obtain⟨k1,k2,k3,k4⟩:=o2;dsimp only at c2 d2;subst c2 d2;have hl2:=r2.length;have hsz:its.toArray.size+its2.toArray.size<=sizeLine:=by rw[aL,aL];lia
 have hlong:¬(!its.toArray.isEmpty&&Builtin.List.listTooLong (its.toArray.size+its2.toArray.size))=true:=by
  rw[AN hsz,gc];exact bL
 refine WK iZ ⟨_,e,rfl⟩ F.entry_list_extend (F.args_list_extend_2 _ _)
  (EW l its.toArray n b k2 k4 its2.toArray n2 hlong (by rw[aL];lia) ()) ⟨e,e2,?_⟩
 refine⟨.non,_,I.lset (its':=its++its2) hH e (by simp) (r.append r2) ?_,rfl,q⟩;rw[aP];lia
end
section
variable {I:Addr} {wr:List Addr} {P:Nat->Value->Prop} {St:Nat->Shared->Prop}
end
section
open PySem.SeqAt
mutual
def dL:Dt->Dt->Bool
 | .non,.non=>true
 | .bl a,.bl b=>a==b
 | .int a,.int b=>a==b
 | .bl a,.int b=>(if a then 1 else 0)==b
 | .int a,.bl b=>a==(if b then 1 else 0)
 | .str a,.str b=>a==b
 | .tup xs,.tup ys=>vV xs ys
 | .lst xs,.lst ys=>vV xs ys
 |_,_=>false
def vV:List Dt->List Dt->Bool
 |[],[]=>true
 |x::xs,y::ys=>dL x y&&vV xs ys
 |_,_=>false
end
mutual
theorem xD:∀d:Dt,dL d d=true
 | .non=>rfl
 | .bl a=>by simp[dL]
 | .int a=>by simp[dL]
 | .str a=>by simp[dL]
 | .tup ds=>by rw[dL];exact ZD ds
 | .lst ds=>by rw[dL];exact ZD ds
theorem ZD:∀ds:List Dt,vV ds ds=true
 |[]=>rfl
 |d::ds=>by rw[vV,xD d,ZD ds];rfl
end
def pH(xs ys:List Dt)(j:Nat):Bool:=
 match xs[j]?,ys[j]? with
 |some x,some y=>dL x y
 |_,_=>false
theorem qG:∀xs ys:List Dt,((List.range (min xs.length ys.length)).all (pH xs ys)&&xs.length==ys.length)=vV xs ys
 |[],[]=>rfl
 |[],y::ys=>by simp[vV]
 |x::xs,[]=>by simp[vV]
 |x::xs,y::ys=>by
  rw[vV,←qG xs ys,bB,bB,Nat.succ_min_succ,List.range_succ_eq_map,List.all_cons,lS];have e1:pH (x::xs) (y::ys) 0=dL x y:=rfl;have e2:pH (x::xs) (y::ys) ∘ Nat.succ=pH xs ys:=by funext j;simp[pH]
  rw[e1,e2,Bool.and_assoc]
  congr 2
  rw[cK];simp
mutual
theorem dD.one_of{H:Hp}:∀{d d':Dt}{v:V},dD H d v->dD H d' v->d=d'
 |d,.non,v,h,h'=>by have h':v=.non:=h';subst h';cases d<;>simp_all [dD]
 |d,.bl b,v,h,h'=>by have h':v=.bl b:=h';subst h';cases d<;>simp_all [dD]
 |d,.int b,v,h,h'=>by have h':v=.int b:=h';subst h';cases d<;>simp_all [dD]
 |d,.str b,v,h,h'=>by have h':v=.str b:=h';subst h';cases d<;>simp_all [dD]
 |d,.tup fK,v,h,h'=>by
  obtain⟨a,vs,rfl,e2,e3⟩:=h';cases d with
  |tup ds=>
   obtain⟨a',gX,e1',e2',e3'⟩:=h;cases e1';rw[e2]at e2';cases e2';rw[bA.one_of e3' e3]
  |lst ds=>
   obtain⟨a',gX,e1',e2',e3'⟩:=h;cases e1';rw[e2]at e2';cases e2'
  |_=>cases h
 |d,.lst fK,v,h,h'=>by
  obtain⟨a,vs,rfl,e2,e3⟩:=h';cases d with
  |lst ds=>
   obtain⟨a',gX,e1',e2',e3'⟩:=h;cases e1';rw[e2]at e2';cases e2';rw[bA.one_of e3' e3]
  |tup ds=>
   obtain⟨a',gX,e1',e2',e3'⟩:=h;cases e1';rw[e2]at e2';cases e2'
  |_=>cases h
theorem bA.one_of{H:Hp}:∀{ds fK:List Dt}{vs:List V},bA H ds vs->bA H fK vs->ds=fK
 |ds,[],vs,h,h'=>by
  have h':vs=[]:=h';subst h';cases ds with
  |nil=>rfl
  |cons d ds=>obtain⟨v,r,e,_⟩:=h;cases e
 |ds,d'::fK,vs,h,h'=>by
  obtain⟨v,r,rfl,e2,e3⟩:=h';cases ds with
  |nil=>cases h
  |cons d ds=>
   obtain⟨v',r',e,e2',e3'⟩:=h;cases e;rw[dD.one_of e2' e2,bA.one_of e3' e3]
end
theorem bA.tup_of(ok:lJ P w H s.heap)(h:H a=some (.tup vs)):∃its:List Value,cV vs its/\s.heap.IsTuple a its.toArray:=by
 obtain⟨z,its,r,p⟩:=ok a _ h;exact⟨its,r,p⟩
theorem bA.lst_of(ok:lJ P w H s.heap)(h:H a=some (.lst vs)):∃its:List Value,cV vs its/\s.heap.IsList a its.toArray:=by
 obtain⟨z,its,n,r,p⟩:=ok a _ h;exact⟨its,r,_,p,rfl,n,rfl⟩
theorem xX:∀{xs:List V}{us:List Value}{i:Nat}{x:V}{u:Value},cV xs us->xs[i]?=some x->us[i]?=some u->RelV x u
 |_,_,_,_,_,.nil,h,_=>by simp at h
 |_,_,0,_,_,.cons r q,h,h'=>by
  simp at h h';subst h;subst h';exact r
 |_,_,i+1,_,_,.cons r q,h,h'=>xX q (by simpa using h) (by simpa using h')
theorem tG(ok:lJ P w H s.heap)(ih:∀{A:Around}{d d':Dt}{v v':V}{u u':Value},dD H d v->dD H d' v'->RelV v u->RelV v' u'->gI n d->A.units+n<cLine->EqAt A s u u' (dL d d'))
 {l':Addr} {fK:List Dt} {gX:List V} (hs:bA H ds vs) (eP:bA H fK gX) (rv:cV vs its) (iL:cV gX its') (hl:s.heap.IsList l its.toArray) (eC:s.heap.IsList l' its'.toArray)
 (f:∀d∈ds,gI n d) (hu:A.units+(n+1)<cLine):RcAt A s (.ref l) (.ref l') (vV ds fK):=by
 have k1:=hs.length;have k2:=eP.length;have k3:=rv.length;have k4:=iL.length;by_cases hz:ds.length=fK.length
 ·have key:=RcAt.lists (A:=A) (e:=pH ds fK) hl eC (by rw[aL,aL];lia) () λj h1 h2=>?_
  ·rw[←qG,hz,Nat.min_self,eE,Bool.and_true];rw[aL]at key;rw[show fK.length=its.length by lia];exact key
  ·rw[aL]at h1 h2;have hj:j<ds.length:=by lia
   have hj':j<fK.length:=by lia
   obtain⟨x,x1,x2⟩:=hs.get (aA hj);obtain⟨y,y1,y2⟩:=eP.get (aA hj');have e1:pH ds fK j=dL ds[j] fK[j]:=by unfold pH;rw[aA hj,aA hj']
   rw[e1];refine ih x2 y2 ?_ ?_ (f _ (cH hj)) (by show A.units+1+n<cLine;lia)
   ·exact xX rv x1 (by rw[dA];exact aA h1)
   ·exact xX iL y1 (by rw[dA];exact aA h2)
 ·have hf:vV ds fK=false:=by rw[←qG,show(ds.length==fK.length)=false by simpa using hz,gc]
  rw[hf];exact RcAt.lists_lengths hl eC (by rw[aL,aL];simp;lia) ()
theorem VI(ok:lJ P w H s.heap){d:Dt}{u':Value}(h:dD H d v)(r:RelV v u)(r':RelV v u'):EqAt A s u u' true:=by
 cases d with
 |non=>have h:v=.non:=h;subst h;cases r;cases r';exact EqAt.same _
 |bl a=>have h:v=.bl a:=h;subst h;cases r;cases r';exact EqAt.same _
 |int a=>
  have h:v=.int a:=h;subst h;obtain⟨t,rfl⟩:=r;obtain⟨t',rfl⟩:=r';have :=EqAt.int_int (A:=A) (s:=s) a t a t';rwa[eE]at this
 |str a=>
  have h:v=.str a:=h;subst h;obtain⟨t,rfl⟩:=r;obtain⟨t',rfl⟩:=r';have :=EqAt.str_str (A:=A) (s:=s) a t a t';rwa[eE]at this
 |tup ds=>obtain⟨l,vs,rfl,_⟩:=h;cases r;cases r';exact EqAt.same _
 |lst ds=>obtain⟨l,vs,rfl,_⟩:=h;cases r;cases r';exact EqAt.same _
theorem UW(ok:lJ P w H s.heap){d d':Dt}{v':V}{u':Value}(h:dD H d v)(h':dD H d' v')(r:RelV v u)(r':RelV v' u')(hu:A.units<cLine)(hk:∀ds fK,¬(d=.tup ds/\d'=.tup fK)/\¬(d=.lst ds/\d'=.lst fK)):EqAt A s u u' (dL d d'):=by
 cases d with
 |non=>
  have h:v=.non:=h;subst h;cases r;cases d' with
  |non=>
   have h':v'=.non:=h';subst h';cases r';simp only[dL];exact EqAt.same _
  |bl b=>
   have h':v'=.bl b:=h';subst h';cases r';simp only[dL];exact EqAt.none_bool _
  |int b=>
   have h':v'=.int b:=h';subst h';obtain⟨t',rfl⟩:=r';simp only[dL];exact EqAt.none_int _ _
  |str b=>
   have h':v'=.str b:=h';subst h';obtain⟨t',rfl⟩:=r';simp only[dL];exact EqAt.none_str _ _
  |tup fK=>
   obtain⟨l',gX,rfl,e',eP⟩:=h';cases r';obtain⟨its',iL,eC⟩:=bA.tup_of ok e';simp only[dL];exact EqAt.none_tuple eC hu
  |lst fK=>
   obtain⟨l',gX,rfl,e',eP⟩:=h';cases r';obtain⟨its',iL,eC⟩:=bA.lst_of ok e';simp only[dL];exact EqAt.none_list eC hu
 |bl a=>
  have h:v=.bl a:=h;subst h;cases r;cases d' with
  |non=>
   have h':v'=.non:=h';subst h';cases r';simp only[dL];exact EqAt.bool_none _
  |bl b=>
   have h':v'=.bl b:=h';subst h';cases r';simp only[dL];exact EqAt.bool_bool _ _
  |int b=>
   have h':v'=.int b:=h';subst h';obtain⟨t',rfl⟩:=r';simp only[dL];exact EqAt.bool_int _ _ _
  |str b=>
   have h':v'=.str b:=h';subst h';obtain⟨t',rfl⟩:=r';simp only[dL];exact EqAt.bool_str _ _ _
  |tup fK=>
   obtain⟨l',gX,rfl,e',eP⟩:=h';cases r';obtain⟨its',iL,eC⟩:=bA.tup_of ok e';simp only[dL];exact EqAt.bool_tuple _ eC hu
  |lst fK=>
   obtain⟨l',gX,rfl,e',eP⟩:=h';cases r';obtain⟨its',iL,eC⟩:=bA.lst_of ok e';simp only[dL];exact EqAt.bool_list _ eC hu
 |int a=>
  have h:v=.int a:=h;subst h;obtain⟨t,rfl⟩:=r;cases d' with
  |non=>
   have h':v'=.non:=h';subst h';cases r';simp only[dL];exact EqAt.int_none _ _
  |bl b=>
   have h':v'=.bl b:=h';subst h';cases r';simp only[dL];exact EqAt.int_bool _ _ _
  |int b=>
   have h':v'=.int b:=h';subst h';obtain⟨t',rfl⟩:=r';simp only[dL];exact EqAt.int_int _ _ _ _
  |str b=>
   have h':v'=.str b:=h';subst h';obtain⟨t',rfl⟩:=r';simp only[dL];exact EqAt.int_str _ _ _ _
  |tup fK=>
   obtain⟨l',gX,rfl,e',eP⟩:=h';cases r';obtain⟨its',iL,eC⟩:=bA.tup_of ok e';simp only[dL];exact EqAt.int_tuple _ _ eC hu
  |lst fK=>
   obtain⟨l',gX,rfl,e',eP⟩:=h';cases r';obtain⟨its',iL,eC⟩:=bA.lst_of ok e';simp only[dL];exact EqAt.int_list _ _ eC hu
 |str a=>
  have h:v=.str a:=h;subst h;obtain⟨t,rfl⟩:=r;cases d' with
  |non=>
   have h':v'=.non:=h';subst h';cases r';simp only[dL];exact EqAt.str_none _ _
  |bl b=>
   have h':v'=.bl b:=h';subst h';cases r';simp only[dL];exact EqAt.str_bool _ _ _
  |int b=>
   have h':v'=.int b:=h';subst h';obtain⟨t',rfl⟩:=r';simp only[dL];exact EqAt.str_int _ _ _ _
  |str b=>
   have h':v'=.str b:=h';subst h';obtain⟨t',rfl⟩:=r';simp only[dL];exact EqAt.str_str _ _ _ _
  |tup fK=>
   obtain⟨l',gX,rfl,e',eP⟩:=h';cases r';obtain⟨its',iL,eC⟩:=bA.tup_of ok e';simp only[dL];exact EqAt.str_tuple _ _ eC hu
  |lst fK=>
   obtain⟨l',gX,rfl,e',eP⟩:=h';cases r';obtain⟨its',iL,eC⟩:=bA.lst_of ok e';simp only[dL];exact EqAt.str_list _ _ eC hu
 |tup ds=>
  obtain⟨l,vs,rfl,e,hs⟩:=h;cases r;obtain⟨its,rv,hl⟩:=bA.tup_of ok e;cases d' with
  |non=>
   have h':v'=.non:=h';subst h';cases r';simp only[dL];exact EqAt.tuple_none hl hu
  |bl b=>
   have h':v'=.bl b:=h';subst h';cases r';simp only[dL];exact EqAt.tuple_bool _ hl hu
  |int b=>
   have h':v'=.int b:=h';subst h';obtain⟨t',rfl⟩:=r';simp only[dL];exact EqAt.tuple_int _ _ hl hu
  |str b=>
   have h':v'=.str b:=h';subst h';obtain⟨t',rfl⟩:=r';simp only[dL];exact EqAt.tuple_str _ _ hl hu
  |tup fK=>exact absurd ⟨rfl,rfl⟩ (hk _ _).1
  |lst fK=>
   obtain⟨l',gX,rfl,e',eP⟩:=h';cases r';obtain⟨its',iL,eC⟩:=bA.lst_of ok e';simp only[dL];exact EqAt.tuple_list hl eC hu
 |lst ds=>
  obtain⟨l,vs,rfl,e,hs⟩:=h;cases r;obtain⟨its,rv,hl⟩:=bA.lst_of ok e;cases d' with
  |non=>
   have h':v'=.non:=h';subst h';cases r';simp only[dL];exact EqAt.list_none hl hu
  |bl b=>
   have h':v'=.bl b:=h';subst h';cases r';simp only[dL];exact EqAt.list_bool _ hl hu
  |int b=>
   have h':v'=.int b:=h';subst h';obtain⟨t',rfl⟩:=r';simp only[dL];exact EqAt.list_int _ _ hl hu
  |str b=>
   have h':v'=.str b:=h';subst h';obtain⟨t',rfl⟩:=r';simp only[dL];exact EqAt.list_str _ _ hl hu
  |tup fK=>
   obtain⟨l',gX,rfl,e',eP⟩:=h';cases r';obtain⟨its',iL,eC⟩:=bA.tup_of ok e';simp only[dL];exact EqAt.list_tuple hl eC hu
  |lst fK=>exact absurd ⟨rfl,rfl⟩ (hk _ _).2
theorem JD(ok:lJ P w H s.heap):∀(n:Nat){A:Around}{d d':Dt}{v v':V}{u u':Value},dD H d v->dD H d' v'->RelV v u->RelV v' u'->gI n d->A.units+n<cLine->EqAt A s u u' (dL d d'):=by
 intro n
 induction n with
 |zero=>
  intro A d d' v v' u u' h h' r r' f hu;exact UW ok h h' r r' hu λds fK=>⟨λe=>by rw[e.1]at f;exact f,λe=>by rw[e.1]at f;exact f⟩
 |succ n ih=>
  intro A d d' v v' u u' h h' r r' f hu;by_cases hvv:v=v'
  ·subst hvv;rw[dD.one_of h h',xD];have hd:d=d':=dD.one_of h h';subst hd;have hx:=VI ok (A:=A) h r r';exact hx
  cases d with
  |tup ds=>
   cases d' with
   |tup fK=>
    obtain⟨l,vs,rfl,e,hs⟩:=h;obtain⟨l',gX,rfl,e',eP⟩:=h';cases r;cases r';obtain⟨its,rv,hl⟩:=bA.tup_of ok e;obtain⟨its',iL,eC⟩:=bA.tup_of ok e';have k1:=hs.length;have k2:=eP.length;have k3:=rv.length;have k4:=iL.length;have key:=RcAt.tuples (A:=A) (e:=pH ds fK) hl eC () λj h1 h2=>?_
    ·simp only[dL];rw[←qG];refine EqAt.of_refs (λz=>hvv (by rw[z])) ?_;rw[aL,aL]at key;rw[←k1,←k2,k3,k4];exact key
    ·rw[aL]at h1 h2;have hj:j<ds.length:=by lia
     have hj':j<fK.length:=by lia
     obtain⟨x,x1,x2⟩:=hs.get (aA hj);obtain⟨y,y1,y2⟩:=eP.get (aA hj');have e1:pH ds fK j=dL ds[j] fK[j]:=by unfold pH;rw[aA hj,aA hj']
     rw[e1];refine ih x2 y2 ?_ ?_ (f.2 _ (cH hj)) (by show A.units+1+n<cLine;lia)
     ·exact xX rv x1 (by rw[dA];exact aA h1)
     ·exact xX iL y1 (by rw[dA];exact aA h2)
   |_=>exact UW ok h h' r r' () λds fK=>⟨λe=>(by cases e.2),λe=>(by cases e.1)⟩
  |lst ds=>
   cases d' with
   |lst fK=>
    obtain⟨l,vs,rfl,e,hs⟩:=h;obtain⟨l',gX,rfl,e',eP⟩:=h';cases r;cases r';obtain⟨its,rv,hl⟩:=bA.lst_of ok e;obtain⟨its',iL,eC⟩:=bA.lst_of ok e';simp only[dL];exact EqAt.of_refs (λz=>hvv (by rw[z])) (tG ok ih hs eP rv iL hl eC f.2 hu)
   |_=>exact UW ok h h' r r' () λds fK=>⟨λe=>(by cases e.1),λe=>(by cases e.2)⟩
  |_=>exact UW ok h h' r r' () λds fK=>⟨λe=>(by cases e.1),λe=>(by cases e.1)⟩
end
section
open PySem.SeqAt
theorem cx_P{scope:Scope}{cd:Value}{E:XK}:(JE CX P w K mg base N qual scope f cd A outer s H E).prog=P:=rfl
end
end L2
namespace L2
open PySem PySem.Spec PyProof.Rows PySem.SeqAt
variable {a b d f it l r:Addr} {A:Around} {G:Array GenState->Array GenState->Prop} {arr a₀:Array Keyed} {X:Cx} {D:CA} {e iter o tg:Expr} {base h h':Heap} {H:Hp} {z:Keyed} {κ:Keyed->Int} {S:Keyed->Prop} {aI:List (Addr×Obj)} {ch fp:List Addr} {ds:List Dt} {es ifs:List Expr} {js:List Nat} {ns ps ys:List Str} {vs xs:List V} {its its':List Value} {M:Model} {ac bc ep i ia ib j n na nb t':Nat} {tc:Option TT} {iU p pos':Pos} {P prog:Program} {K:W.Frag} {R:Result->Shared->Prop} {s:Shared} {kd:SortKind} {st st0:SortSt} {sp:Sp} {σ:St} {mg:Str->Option Value} {T:String} {ta te:TE} {wi:TI} {tb:TS} {v:V} {u:Value} {E Q:Value->Shared->Prop} {w:World}
local macro_rules | `(()) => `(by lia)
theorem b6(ok:lJ P w H s.heap)(ih:∀{A:Around}{d d':Dt}{v v':V}{u u':Value},dD H d v->dD H d' v'->RelV v u->RelV v' u'->gI n d->A.units+n<cLine->EqAt A s u u' (dL d d'))
 {l':Addr} {fK:List Dt} {gX:List V} (hs:bA H ds vs) (eP:bA H fK gX) (rv:cV vs its) (iL:cV gX its') (hl:s.heap.IsTuple l its.toArray) (eC:s.heap.IsTuple l' its'.toArray)
 (f:∀d∈ds,gI n d) (hu:A.units+(n+1)<cLine):RcAt A s (.ref l) (.ref l') (vV ds fK):=by
 have k1:=hs.length;have k2:=eP.length;have k3:=rv.length;have k4:=iL.length;have at_:∀j (h1:j<its.toArray.size) (h2:j<its'.toArray.size),EqAt A.in1 s its.toArray[j] its'.toArray[j] (pH ds fK j):=λj h1 h2=>by
  rw[aL]at h1 h2;have hj:j<ds.length:=by lia
  have hj':j<fK.length:=by lia
  obtain⟨x,x1,x2⟩:=hs.get (aA hj);obtain⟨y,y1,y2⟩:=eP.get (aA hj');have e1:pH ds fK j=dL ds[j] fK[j]:=by unfold pH;rw[aA hj,aA hj']
  rw[e1];refine ih x2 y2 ?_ ?_ (f _ (cH hj)) (by show A.units+1+n<cLine;lia)
  ·exact xX rv x1 (by rw[dA];exact aA h1)
  ·exact xX iL y1 (by rw[dA];exact aA h2)
 have key:=RcAt.tuples (A:=A) (e:=pH ds fK) hl eC () at_;rw[aL,aL]at key;rw[←qG,←k1,←k2,k3,k4];exact key
theorem bw(ok:lJ P w H s.heap)(ih:∀{A:Around}{d d':Dt}{v v':V}{u u':Value},dD H d v->dD H d' v'->RelV v u->RelV v' u'->gI n d->A.units+n<cLine->EqAt A s u u' (dL d d'))
 {l':Addr} {fK:List Dt} {gX:List V} (hs:bA H ds vs) (eP:bA H fK gX) (rv:cV vs its) (iL:cV gX its') (hl:s.heap.IsTuple l its.toArray) (eC:s.heap.IsTuple l' its'.toArray)
 (f:∀d∈ds,gI n d) (hu:A.units+(n+1)<cLine):RcNeAt A s (.ref l) (.ref l') (!vV ds fK):=by
 have k1:=hs.length;have k2:=eP.length;have k3:=rv.length;have k4:=iL.length;have at_:∀j (h1:j<its.toArray.size) (h2:j<its'.toArray.size),EqAt A.in1 s its.toArray[j] its'.toArray[j] (pH ds fK j):=λj h1 h2=>by
  rw[aL]at h1 h2;have hj:j<ds.length:=by lia
  have hj':j<fK.length:=by lia
  obtain⟨x,x1,x2⟩:=hs.get (aA hj);obtain⟨y,y1,y2⟩:=eP.get (aA hj');have e1:pH ds fK j=dL ds[j] fK[j]:=by unfold pH;rw[aA hj,aA hj']
  rw[e1];refine ih x2 y2 ?_ ?_ (f _ (cH hj)) (by show A.units+1+n<cLine;lia)
  ·exact xX rv x1 (by rw[dA];exact aA h1)
  ·exact xX iL y1 (by rw[dA];exact aA h2)
 have key:=RcNeAt.tuples (A:=A) (e:=pH ds fK) hl eC () at_;rw[aL,aL]at key;rw[←qG,←k1,←k2,k3,k4];exact key
theorem PJ(ok:lJ P w H s.heap)(ih:∀{A:Around}{d d':Dt}{v v':V}{u u':Value},dD H d v->dD H d' v'->RelV v u->RelV v' u'->gI n d->A.units+n<cLine->EqAt A s u u' (dL d d'))
 {l':Addr} {fK:List Dt} {gX:List V} (hs:bA H ds vs) (eP:bA H fK gX) (rv:cV vs its) (iL:cV gX its') (hl:s.heap.IsList l its.toArray) (eC:s.heap.IsList l' its'.toArray)
 (f:∀d∈ds,gI n d) (hu:A.units+(n+1)<cLine):RcNeAt A s (.ref l) (.ref l') (!vV ds fK):=by
 have k1:=hs.length;have k2:=eP.length;have k3:=rv.length;have k4:=iL.length;have at_:∀j (h1:j<its.toArray.size) (h2:j<its'.toArray.size),EqAt A.in1 s its.toArray[j] its'.toArray[j] (pH ds fK j):=λj h1 h2=>by
  rw[aL]at h1 h2;have hj:j<ds.length:=by lia
  have hj':j<fK.length:=by lia
  obtain⟨x,x1,x2⟩:=hs.get (aA hj);obtain⟨y,y1,y2⟩:=eP.get (aA hj');have e1:pH ds fK j=dL ds[j] fK[j]:=by unfold pH;rw[aA hj,aA hj']
  rw[e1];refine ih x2 y2 ?_ ?_ (f _ (cH hj)) (by show A.units+1+n<cLine;lia)
  ·exact xX rv x1 (by rw[dA];exact aA h1)
  ·exact xX iL y1 (by rw[dA];exact aA h2)
 by_cases hz:ds.length=fK.length
 ·have key:=RcNeAt.lists (A:=A) (e:=pH ds fK) hl eC (by rw[aL,aL];lia) () at_;rw[←qG,hz,Nat.min_self,eE,Bool.and_true];rw[aL]at key;rw[show fK.length=its.length by lia];exact key
 ·have hf:vV ds fK=false:=by rw[←qG,show(ds.length==fK.length)=false by simpa using hz,gc]
  rw[hf];exact RcNeAt.lists_lengths hl eC (by rw[aL,aL];simp;lia) ()
theorem rc_at(ok:lJ P w H s.heap){d d':Dt}{v':V}{u':Value}(h:dD H d v)(h':dD H d' v')(r:RelV v u)(r':RelV v' u')(f:gI (n+1) d)(hu:A.units+(n+1)<cLine):RcAt A s u u' (dL d d'):=by
 have lZ:A.units<cLine:=by lia
 cases d with
 |non=>
  have h:v=.non:=h;subst h;cases r;cases d' with
  |non=>
   have h':v'=.non:=h';subst h';cases r';simp only[dL,aK,aM];exact RcAt.none_none
  |bl b=>
   have h':v'=.bl b:=h';subst h';cases r';simp only[dL,aK,aM];exact RcAt.none_bool _
  |int b=>
   have h':v'=.int b:=h';subst h';obtain⟨t',rfl⟩:=r';simp only[dL,aK,aM];exact RcAt.none_int _ _
  |str b=>
   have h':v'=.str b:=h';subst h';obtain⟨t',rfl⟩:=r';simp only[dL,aK,aM];exact RcAt.none_str _ _
  |tup fK=>
   obtain⟨l',gX,rfl,e',eP⟩:=h';cases r';obtain⟨its',iL,eC⟩:=bA.tup_of ok e';simp only[dL,aK,aM];exact RcAt.none_tuple eC lZ
  |lst fK=>
   obtain⟨l',gX,rfl,e',eP⟩:=h';cases r';obtain⟨its',iL,eC⟩:=bA.lst_of ok e';simp only[dL,aK,aM];exact RcAt.none_list eC lZ
 |bl a=>
  have h:v=.bl a:=h;subst h;cases r;cases d' with
  |non=>
   have h':v'=.non:=h';subst h';cases r';simp only[dL,aK,aM];exact RcAt.bool_none _
  |bl b=>
   have h':v'=.bl b:=h';subst h';cases r';simp only[dL,aK,aM];exact RcAt.bool_bool _ _
  |int b=>
   have h':v'=.int b:=h';subst h';obtain⟨t',rfl⟩:=r';simp only[dL,aK,aM];exact RcAt.bool_int _ _ _
  |str b=>
   have h':v'=.str b:=h';subst h';obtain⟨t',rfl⟩:=r';simp only[dL,aK,aM];exact RcAt.bool_str _ _ _
  |tup fK=>
   obtain⟨l',gX,rfl,e',eP⟩:=h';cases r';obtain⟨its',iL,eC⟩:=bA.tup_of ok e';simp only[dL,aK,aM];exact RcAt.bool_tuple _ eC lZ
  |lst fK=>
   obtain⟨l',gX,rfl,e',eP⟩:=h';cases r';obtain⟨its',iL,eC⟩:=bA.lst_of ok e';simp only[dL,aK,aM];exact RcAt.bool_list _ eC lZ
 |int a=>
  have h:v=.int a:=h;subst h;obtain⟨t,rfl⟩:=r;cases d' with
  |non=>
   have h':v'=.non:=h';subst h';cases r';simp only[dL,aK,aM];exact RcAt.int_none _ _
  |bl b=>
   have h':v'=.bl b:=h';subst h';cases r';simp only[dL,aK,aM];exact RcAt.int_bool _ _ _
  |int b=>
   have h':v'=.int b:=h';subst h';obtain⟨t',rfl⟩:=r';simp only[dL,aK,aM];exact RcAt.int_int _ _ _ _
  |str b=>
   have h':v'=.str b:=h';subst h';obtain⟨t',rfl⟩:=r';simp only[dL,aK,aM];exact RcAt.int_str _ _ _ _
  |tup fK=>
   obtain⟨l',gX,rfl,e',eP⟩:=h';cases r';obtain⟨its',iL,eC⟩:=bA.tup_of ok e';simp only[dL,aK,aM];exact RcAt.int_tuple _ _ eC lZ
  |lst fK=>
   obtain⟨l',gX,rfl,e',eP⟩:=h';cases r';obtain⟨its',iL,eC⟩:=bA.lst_of ok e';simp only[dL,aK,aM];exact RcAt.int_list _ _ eC lZ
 |str a=>
  have h:v=.str a:=h;subst h;obtain⟨t,rfl⟩:=r;cases d' with
  |non=>
   have h':v'=.non:=h';subst h';cases r';simp only[dL,aK,aM];exact RcAt.str_none _ _
  |bl b=>
   have h':v'=.bl b:=h';subst h';cases r';simp only[dL,aK,aM];exact RcAt.str_bool _ _ _
  |int b=>
   have h':v'=.int b:=h';subst h';obtain⟨t',rfl⟩:=r';simp only[dL,aK,aM];exact RcAt.str_int _ _ _ _
  |str b=>
   have h':v'=.str b:=h';subst h';obtain⟨t',rfl⟩:=r';simp only[dL,aK,aM];exact RcAt.str_str _ _ _ _
  |tup fK=>
   obtain⟨l',gX,rfl,e',eP⟩:=h';cases r';obtain⟨its',iL,eC⟩:=bA.tup_of ok e';simp only[dL,aK,aM];exact RcAt.str_tuple _ _ eC lZ
  |lst fK=>
   obtain⟨l',gX,rfl,e',eP⟩:=h';cases r';obtain⟨its',iL,eC⟩:=bA.lst_of ok e';simp only[dL,aK,aM];exact RcAt.str_list _ _ eC lZ
 |tup ds=>
  obtain⟨l,vs,rfl,e,hs⟩:=h;cases r;obtain⟨its,rv,hl⟩:=bA.tup_of ok e;cases d' with
  |non=>
   have h':v'=.non:=h';subst h';cases r';simp only[dL,aK,aM];exact RcAt.tuple_none hl lZ
  |bl b=>
   have h':v'=.bl b:=h';subst h';cases r';simp only[dL,aK,aM];exact RcAt.tuple_bool _ hl lZ
  |int b=>
   have h':v'=.int b:=h';subst h';obtain⟨t',rfl⟩:=r';simp only[dL,aK,aM];exact RcAt.tuple_int _ _ hl lZ
  |str b=>
   have h':v'=.str b:=h';subst h';obtain⟨t',rfl⟩:=r';simp only[dL,aK,aM];exact RcAt.tuple_str _ _ hl lZ
  |tup fK=>
   obtain⟨l',gX,rfl,e',eP⟩:=h';cases r';obtain⟨its',iL,eC⟩:=bA.tup_of ok e';simp only[dL,aK,aM];exact b6 ok (JD ok n) hs eP rv iL hl eC f.2 hu
  |lst fK=>
   obtain⟨l',gX,rfl,e',eP⟩:=h';cases r';obtain⟨its',iL,eC⟩:=bA.lst_of ok e';simp only[dL,aK,aM];exact RcAt.tuple_list hl eC lZ
 |lst ds=>
  obtain⟨l,vs,rfl,e,hs⟩:=h;cases r;obtain⟨its,rv,hl⟩:=bA.lst_of ok e;cases d' with
  |non=>
   have h':v'=.non:=h';subst h';cases r';simp only[dL,aK,aM];exact RcAt.list_none hl lZ
  |bl b=>
   have h':v'=.bl b:=h';subst h';cases r';simp only[dL,aK,aM];exact RcAt.list_bool _ hl lZ
  |int b=>
   have h':v'=.int b:=h';subst h';obtain⟨t',rfl⟩:=r';simp only[dL,aK,aM];exact RcAt.list_int _ _ hl lZ
  |str b=>
   have h':v'=.str b:=h';subst h';obtain⟨t',rfl⟩:=r';simp only[dL,aK,aM];exact RcAt.list_str _ _ hl lZ
  |tup fK=>
   obtain⟨l',gX,rfl,e',eP⟩:=h';cases r';obtain⟨its',iL,eC⟩:=bA.tup_of ok e';simp only[dL,aK,aM];exact RcAt.list_tuple hl eC lZ
  |lst fK=>
   obtain⟨l',gX,rfl,e',eP⟩:=h';cases r';obtain⟨its',iL,eC⟩:=bA.lst_of ok e';simp only[dL,aK,aM];exact tG ok (JD ok n) hs eP rv iL hl eC f.2 hu
theorem gw(ok:lJ P w H s.heap){d d':Dt}{v':V}{u':Value}(h:dD H d v)(h':dD H d' v')(r:RelV v u)(r':RelV v' u')(f:gI (n+1) d)(hu:A.units+(n+1)<cLine):RcNeAt A s u u' (!dL d d'):=by
 have lZ:A.units<cLine:=by lia
 cases d with
 |non=>
  have h:v=.non:=h;subst h;cases r;cases d' with
  |non=>
   have h':v'=.non:=h';subst h';cases r';simp only[dL,aK,aM];exact RcNeAt.none_none
  |bl b=>
   have h':v'=.bl b:=h';subst h';cases r';simp only[dL,aK,aM];exact RcNeAt.none_bool _
  |int b=>
   have h':v'=.int b:=h';subst h';obtain⟨t',rfl⟩:=r';simp only[dL,aK,aM];exact RcNeAt.none_int _ _
  |str b=>
   have h':v'=.str b:=h';subst h';obtain⟨t',rfl⟩:=r';simp only[dL,aK,aM];exact RcNeAt.none_str _ _
  |tup fK=>
   obtain⟨l',gX,rfl,e',eP⟩:=h';cases r';obtain⟨its',iL,eC⟩:=bA.tup_of ok e';simp only[dL,aK,aM];exact RcNeAt.none_tuple eC lZ
  |lst fK=>
   obtain⟨l',gX,rfl,e',eP⟩:=h';cases r';obtain⟨its',iL,eC⟩:=bA.lst_of ok e';simp only[dL,aK,aM];exact RcNeAt.none_list eC lZ
 |bl a=>
  have h:v=.bl a:=h;subst h;cases r;cases d' with
  |non=>
   have h':v'=.non:=h';subst h';cases r';simp only[dL,aK,aM];exact RcNeAt.bool_none _
  |bl b=>
   have h':v'=.bl b:=h';subst h';cases r';simp only[dL,aK,aM];exact RcNeAt.bool_bool _ _
  |int b=>
   have h':v'=.int b:=h';subst h';obtain⟨t',rfl⟩:=r';simp only[dL,aK,aM];exact RcNeAt.bool_int _ _ _
  |str b=>
   have h':v'=.str b:=h';subst h';obtain⟨t',rfl⟩:=r';simp only[dL,aK,aM];exact RcNeAt.bool_str _ _ _
  |tup fK=>
   obtain⟨l',gX,rfl,e',eP⟩:=h';cases r';obtain⟨its',iL,eC⟩:=bA.tup_of ok e';simp only[dL,aK,aM];exact RcNeAt.bool_tuple _ eC lZ
  |lst fK=>
   obtain⟨l',gX,rfl,e',eP⟩:=h';cases r';obtain⟨its',iL,eC⟩:=bA.lst_of ok e';simp only[dL,aK,aM];exact RcNeAt.bool_list _ eC lZ
 |int a=>
  have h:v=.int a:=h;subst h;obtain⟨t,rfl⟩:=r;cases d' with
  |non=>
   have h':v'=.non:=h';subst h';cases r';simp only[dL,aK,aM];exact RcNeAt.int_none _ _
  |bl b=>
   have h':v'=.bl b:=h';subst h';cases r';simp only[dL,aK,aM];exact RcNeAt.int_bool _ _ _
  |int b=>
   have h':v'=.int b:=h';subst h';obtain⟨t',rfl⟩:=r';simp only[dL,aK,aM];exact RcNeAt.int_int _ _ _ _
  |str b=>
   have h':v'=.str b:=h';subst h';obtain⟨t',rfl⟩:=r';simp only[dL,aK,aM];exact RcNeAt.int_str _ _ _ _
  |tup fK=>
   obtain⟨l',gX,rfl,e',eP⟩:=h';cases r';obtain⟨its',iL,eC⟩:=bA.tup_of ok e';simp only[dL,aK,aM];exact RcNeAt.int_tuple _ _ eC lZ
  |lst fK=>
   obtain⟨l',gX,rfl,e',eP⟩:=h';cases r';obtain⟨its',iL,eC⟩:=bA.lst_of ok e';simp only[dL,aK,aM];exact RcNeAt.int_list _ _ eC lZ
 |str a=>
  have h:v=.str a:=h;subst h;obtain⟨t,rfl⟩:=r;cases d' with
  |non=>
   have h':v'=.non:=h';subst h';cases r';simp only[dL,aK,aM];exact RcNeAt.str_none _ _
  |bl b=>
   have h':v'=.bl b:=h';subst h';cases r';simp only[dL,aK,aM];exact RcNeAt.str_bool _ _ _
  |int b=>
   have h':v'=.int b:=h';subst h';obtain⟨t',rfl⟩:=r';simp only[dL,aK,aM];exact RcNeAt.str_int _ _ _ _
  |str b=>
   have h':v'=.str b:=h';subst h';obtain⟨t',rfl⟩:=r';simp only[dL,aK,aM];exact RcNeAt.str_str _ _ _ _
  |tup fK=>
   obtain⟨l',gX,rfl,e',eP⟩:=h';cases r';obtain⟨its',iL,eC⟩:=bA.tup_of ok e';simp only[dL,aK,aM];exact RcNeAt.str_tuple _ _ eC lZ
  |lst fK=>
   obtain⟨l',gX,rfl,e',eP⟩:=h';cases r';obtain⟨its',iL,eC⟩:=bA.lst_of ok e';simp only[dL,aK,aM];exact RcNeAt.str_list _ _ eC lZ
 |tup ds=>
  obtain⟨l,vs,rfl,e,hs⟩:=h;cases r;obtain⟨its,rv,hl⟩:=bA.tup_of ok e;cases d' with
  |non=>
   have h':v'=.non:=h';subst h';cases r';simp only[dL,aK,aM];exact RcNeAt.tuple_none hl lZ
  |bl b=>
   have h':v'=.bl b:=h';subst h';cases r';simp only[dL,aK,aM];exact RcNeAt.tuple_bool _ hl lZ
  |int b=>
   have h':v'=.int b:=h';subst h';obtain⟨t',rfl⟩:=r';simp only[dL,aK,aM];exact RcNeAt.tuple_int _ _ hl lZ
  |str b=>
   have h':v'=.str b:=h';subst h';obtain⟨t',rfl⟩:=r';simp only[dL,aK,aM];exact RcNeAt.tuple_str _ _ hl lZ
  |tup fK=>
   obtain⟨l',gX,rfl,e',eP⟩:=h';cases r';obtain⟨its',iL,eC⟩:=bA.tup_of ok e';simp only[dL,aK,aM];exact bw ok (JD ok n) hs eP rv iL hl eC f.2 hu
  |lst fK=>
   obtain⟨l',gX,rfl,e',eP⟩:=h';cases r';obtain⟨its',iL,eC⟩:=bA.lst_of ok e';simp only[dL,aK,aM];exact RcNeAt.tuple_list hl eC lZ
 |lst ds=>
  obtain⟨l,vs,rfl,e,hs⟩:=h;cases r;obtain⟨its,rv,hl⟩:=bA.lst_of ok e;cases d' with
  |non=>
   have h':v'=.non:=h';subst h';cases r';simp only[dL,aK,aM];exact RcNeAt.list_none hl lZ
  |bl b=>
   have h':v'=.bl b:=h';subst h';cases r';simp only[dL,aK,aM];exact RcNeAt.list_bool _ hl lZ
  |int b=>
   have h':v'=.int b:=h';subst h';obtain⟨t',rfl⟩:=r';simp only[dL,aK,aM];exact RcNeAt.list_int _ _ hl lZ
  |str b=>
   have h':v'=.str b:=h';subst h';obtain⟨t',rfl⟩:=r';simp only[dL,aK,aM];exact RcNeAt.list_str _ _ hl lZ
  |tup fK=>
   obtain⟨l',gX,rfl,e',eP⟩:=h';cases r';obtain⟨its',iL,eC⟩:=bA.tup_of ok e';simp only[dL,aK,aM];exact RcNeAt.list_tuple hl eC lZ
  |lst fK=>
   obtain⟨l',gX,rfl,e',eP⟩:=h';cases r';obtain⟨its',iL,eC⟩:=bA.lst_of ok e';simp only[dL,aK,aM];exact PJ ok (JD ok n) hs eP rv iL hl eC f.2 hu
def vC:R2:=λx y H Q=>∃n d,dD H d x/\∃d',dD H d' y/\gI (n+1) d/\n<=60/\Q (.bl (dL d d')) H
def ki:R2:=λx y H Q=>∃n d,dD H d x/\∃d',dD H d' y/\gI (n+1) d/\n<=60/\Q (.bl (!dL d d')) H
theorem qH(hu:X.A.units+64<cLine):nN X (compareOp .Eq) vC:=by
 intro aI s σ H x y v u Q I rx ry h;obtain⟨n,d,h1,d',h2,f,hn,q⟩:=h;exact rc_at I.hok h1 h2 rx ry f () X.prog X.w _ _ (yG I q rfl)
theorem lg(hu:X.A.units+64<cLine):nN X (compareOp .NotEq) ki:=by
 intro aI s σ H x y v u Q I rx ry h;obtain⟨n,d,h1,d',h2,f,hn,q⟩:=h;exact gw I.hok h1 h2 rx ry f () X.prog X.w _ _ (yG I q rfl)
def rInG(neg:Bool):R2:=λx y H Q=>∃n d,dD H d x/\∃ds,(dD H (.lst ds) y\/dD H (.tup ds) y)/\(∀e∈ds,gI n e)/\n<=60/\Q (.bl (neg^^ds.any λe=>dL e d)) H
open Classical in
theorem TQ{d:Dt}(hs:bA H ds vs)(rv:cV vs its)(e:Value->Bool)(he:∀y,e y=decide (∃d' v',dD H d' v'/\RelV v' y/\dL d' d=true)):its.toArray.any e=ds.any λe=>dL e d:=by
 rw[List.any_toArray]
 induction ds generalizing vs its with
 |nil=>
  have hs:vs=[]:=hs;subst hs;cases rv;rfl
 |cons d0 ds ih=>
  obtain⟨v,r,rfl,e1,e2⟩:=hs;cases rv with
  |cons rr rt=>
   rename_i u us
   rw[oV,oV,ih e2 rt,he]
   congr 1
   rw[cK,cE];constructor
   ·rintro⟨d',v',q1,q2,q3⟩;have :=RelV.inj q2 rr;subst this;rw[dD.one_of e1 q1];exact q3
   ·intro q;exact⟨d0,v,e1,rr,q⟩
open Classical in
theorem TN(ok:lJ P w H s.heap){d:Dt}{x:V}(hs:bA H ds vs)(rv:cV vs its)(hx:dD H d x)(ru:RelV x u)(f:∀e∈ds,gI n e)(hu:A.units+(n+1)<cLine)
 (y:Value) (hy:y∈its.toArray):EqAt A.in1 s y u (decide (∃d' v',dD H d' v'/\RelV v' y/\dL d' d=true)):=by
 obtain⟨j,hj,e⟩:=dU (show y∈its by simpa using hy);have k1:=hs.length;have k2:=rv.length;have hjd:j<ds.length:=by lia
 obtain⟨v,v1,v2⟩:=hs.get (aA hjd);have rr:RelV v y:=xX rv v1 (by rw[aA hj,e]);have :decide (∃d' v',dD H d' v'/\RelV v' y/\dL d' d=true)=dL ds[j] d:=by
  rw[cK,cE];constructor
  ·rintro⟨d',v',q1,q2,q3⟩;have :=RelV.inj q2 rr;subst this;rw[dD.one_of v2 q1];exact q3
  ·intro q;exact⟨_,v,v2,rr,q⟩
 rw[this];exact JD ok n v2 hx rr ru (f _ (cH hjd)) (by show A.units+1+n<cLine;lia)
theorem LU(hu:X.A.units+64<cLine):nN X (compareOp .NotIn) (rInG true):=by
 intro aI s σ H x y v u Q I rx ry h;obtain⟨n,d,hx,ds,hy,f,hn,q⟩:=h;rw[Bool.true_xor]at q;rcases hy with⟨l,vs,rfl,e,hs⟩ |⟨l,vs,rfl,e,hs⟩
 ·cases ry;obtain⟨its,rv,hl⟩:=bA.lst_of I.hok e;refine notIn_listAt _ hl (TN I.hok hs rv hx rx f ()) (yG I q ?_);rw[TQ hs rv _ λ_=>rfl]
 ·cases ry;obtain⟨its,rv,hl⟩:=bA.tup_of I.hok e;refine notIn_tupleAt _ hl (TN I.hok hs rv hx rx f ()) (yG I q ?_);rw[TQ hs rv _ λ_=>rfl]
section
open PySem.SeqAt
structure Apt(z TI TO i1 i2 l1 l2:Addr):Prop where
 nd:[z,TI,TO,i1,i2].Nodup
 a1:l1≠z/\l1≠TO/\l1≠i1/\l1≠i2
 a2:l2≠z/\l2≠TO/\l2≠i1/\l2≠i2
theorem Inv.turnedL(I:Inv X aI σ H s)(k:∀b o,b∉ch->s.heap.get? b=some o->h'.get? b=some o)(hf:∀b∈ch,JL X aI H b):Inv X aI σ H {s with heap:=h',toks:=t'}:=by
 have nit:∀b u,H b=some u->b∉ch:=λb u e z=>by rw[(hf b z).1]at e;cases e
 have hL:X.env.locals∉ch:=λz=>(hf _ z).2.1 rfl
 refine I.step (g':=s.gens) (d':=s.drawn) (ch:=ch) (λb hb=>?_) (λb o _ _ hc e _=>k b o hc e) (λb o _ _ hc e _=>⟨o.slots,k b o hc e⟩) (λ_ _ _ _ n=>n) (λb o hc e=>⟨o,k b o hc e⟩) (λ_ _ e=>e) (λ_ _ _ e=>e) (λb ps e=>⟨#[],by rw[e];simp⟩) (λm hm=>?_) (λb u e=>?_) I.bare
 ·obtain⟨f0,f1,f2,f3,f4,f5⟩:=hf b hb;exact⟨f3,f1,f4,f5⟩
 ·obtain⟨o,es,ep,ho,r⟩:=hm;exact⟨o,es,ep,k _ o hL ho,r⟩
 ·refine(I.hok b u e).stay (λc v hc q=>k c v ?_ q) (λ_ q=>q) λ_ _ q=>q
  rcases hc with z |z
  ·rw[z];exact nit b u e
  ·exact nit c _ z
theorem Inv.turnedN{p:Addr}{o:HO}(I:Inv X aI σ H s)(k:∀b o,b∉ch->s.heap.get? b=some o->h'.get? b=some o)(hf:∀b∈ch,JL X aI H b)(hp:s.heap.objs.size<=p)(new:fI X.prog X.w (upd H p o) h' p o):
 Inv X aI σ (upd H p o) {s with heap:=h',toks:=t'}:=by
 have nit:∀b u,H b=some u->b∉ch:=λb u e z=>by rw[(hf b z).1]at e;cases e
 have hL:X.env.locals∉ch:=λz=>(hf _ z).2.1 rfl
 have hn:=I.hok.fresh hp;have nep:∀{b:Addr}{u:HO},H b=some u->b≠p:=λe z=>by rw[z,hn]at e;cases e
 refine I.step (g':=s.gens) (d':=s.drawn) (ch:=ch) (λb hb=>?_) (λb o _ _ hc e _=>k b o hc e) (λb o _ _ hc e _=>⟨o.slots,k b o hc e⟩) (λb u _ e n=>?_) (λb o hc e=>⟨o,k b o hc e⟩) (λ_ _ e=>by rw[zL (nep e)];exact e) (λ_ _ _ e=>by rw[zL (nep e)];exact e) (λb ps e=>⟨#[],by rw[zL (nep e),e];simp⟩) (λm hm=>?_) (λb u e=>?_) I.bare
 ·obtain⟨f0,f1,f2,f3,f4,f5⟩:=hf b hb;exact⟨f3,f1,f4,f5⟩
 ·rw[zL (cG (cC (bJ e) hp))];exact n
 ·obtain⟨o,es,ep,ho,r⟩:=hm;exact⟨o,es,ep,k _ o hL ho,r⟩
 ·by_cases hb:b=p
  ·subst hb;rw[zC]at e;cases e;exact new
  ·rw[zL hb]at e;refine(I.hok b u e).stay (λc v hc q=>k c v ?_ q) (λc q=>by rw[zL (nep q)];exact q) λc _ q=>by rw[zL (nep q)];exact q
   rcases hc with z |z
   ·rw[z];exact nit b u e
   ·exact nit c _ z
end
section
open PySem.SeqAt
def et(w:World):List DictEntry->List (Str×Int)->Prop
 |[],r=>r=[]
 |e::es,r=>∃x y t u r',r=(x,y)::r'/\e.hash=hashStr w x/\e.key=.str x t/\e.val=.int y u/\et w es r'
theorem et.all{w:World}{P:Program}:∀{es:List DictEntry}{r:List (Str×Int)},et w es r->(∀e∈es,∃k,(yC P w).is k e.key=true/\e.hash=(yC P w).hash k)/\
 ∃vs:List (eZ×Value),KV (r.map λp=>((.inr p.1:eZ),V.int p.2)) vs/\Pairs (yC P w) es vs/\vs.map (·.1)=r.map λp=>(.inr p.1:eZ)
 |[],r,h=>by
  have h:r=[]:=h;subst h;exact⟨λe he=>(nomatch he),[],.nil,.nil,rfl⟩
 |e::es,r,h=>by
  obtain⟨x,y,t,u,r',rfl,h1,h2,h3,h4⟩:=h;obtain⟨g,vs,a,b,c⟩:=et.all (P:=P) h4;refine⟨λe' he=>?_,(.inr x,.int y u)::vs,.cons ⟨rfl,u,rfl⟩ a,.cons (by rw[h2];exact vN P w x t) h3 b,?_⟩
  ·rcases bI.mp he with rfl |he
   ·exact⟨.inr x,by rw[h2];exact vN P w x t,h1⟩
   ·exact g e' he
  ·rw[cD,cD,c]
end
section
open PySem.SeqAt
inductive Rw where
 |no |nm (x:Str) |bo (i j:Int)
def oM:Rw->Dt
 | .no=>.tup [.str "none"]
 | .nm x=>.tup [.str "name",.str x]
 | .bo i j=>.tup [.str "both",.int i,.int j]
abbrev Pr:=Int×Int
def oN(p:Pr):Dt:=.tup [.int p.1,.int p.2]
abbrev xJ:=List Pr×Pr
def IX(r:xJ):Dt:=.tup [.lst (r.1.map oN),oN r.2]
inductive Wt where
 |n (i:Int) |ps (l:List Int)
def nq:Wt->Dt
 | .n i=>.int i
 | .ps l=>.tup (l.map .int)
structure Ln where
 i:Int
 j:Int
 w:Str
 as:List Wt
def ZE(w:Str)(as:List Wt):Dt:=.tup (.str w::as.map nq)
def FA(l:Ln):Dt:=.tup [.int l.i,.int l.j,ZE l.w l.as]
def JQ(b:Int):Wt->Bool
 | .n i=>decide (0<=i)&&decide (i<b)
 | .ps _=>false
def vB(aC:List Rw)(n:Int):List Int:=if n % 2=0 then(match aC[(n/2).toNat]? with |some (.bo i j)=>[i,j] |_=>[])else []
def yT(ls:List Ln)(k:Nat):Wt->Option Pr
 | .n i=>if 0<=i/\i<k then(ls[i.toNat]?).map λl=>(l.i,l.j)else none
 | .ps _=>none
def dSd:Option Pr->Dt
 |none=>.non
 |some p=>oN p
def pX(n:Int):Int:=n+1-2*(n % 2)
def wI(w:Str):Option Int:=
 if w="same" then some 0 else if w="edge" then some 0 else if w="part" then some 0 else if w="both" then some 2 else if w="turn" then some 1 else if w="chain" then some 2 else if w="clash" then some 1 else none
def yS(aC:List Rw)(i j:Int)(w:Str)(sd:List Pr):Bool:=
 if w="same" then i==j
 else if w="edge" then i==0 ||j==1
 else if w="part" then(vB aC i).any λx=>x==j
 else if w="both" then(match vB aC j with |[a,b]=>sd==[(i,a),(i,b)] |_=>false)
 else if w="turn" then sd==[(pX j,pX i)]
 else if w="chain" then(match sd with |[p,q]=>p.1==i&&p.2==q.1&&q.2==j |_=>false)
 else sd==[(i,pX i)]
def jP(aT:List xJ)(ls:List Ln)(k:Nat)(l:Ln):Bool:=
 match l.as with
 |[.n r,.ps ps]=>if 0<=r/\r<aT.length then(match aT[r.toNat]? with |some q=>(l.i,l.j)==q.2&&(ps.map λp=>yT ls k (.n p))==q.1.map some |none=>false)else false
 |_=>false
def xI(aC:List Rw)(aT:List xJ)(ls:List Ln)(k:Nat)(l:Ln):Bool:=
 if¬(0<=l.i/\l.i<2*aC.length)\/¬(0<=l.j/\l.j<2*aC.length)then false
 else if l.w="rule" then jP aT ls k l
 else if wI l.w=some (l.as.length:Int)/\(l.as.all λa=>(yT ls k a).isSome)=true then yS aC l.i l.j l.w (l.as.filterMap (yT ls k))
 else false
theorem QS(n:Int):Builtin.bitXor n 1=pX n:=by
 rw[bitXor_and];unfold pX;rw[bitAnd_m1]
end
section
open PySem.SeqAt
theorem KU{t sl:Addr}{cZ:Array Value}{vl vu:Value}{lo hi:Option Int}(ht:IsTup s.heap t cZ)(hs:s.heap.IsSliceOf sl vl vu .none)(pl:IsPart vl lo)(pu:IsPart vu hi)
 (hw:HT.sIx cZ.size 0 lo=0/\HT.sIx cZ.size cZ.size hi=cZ.size) (h:Q (.ref t) s):wpAny (model prog w) A (getItem (.ref t) (.ref sl)) Q E s:=by
 obtain⟨os,hos,hcs,hds⟩:=id hs;have hTs:s.TypeIs (.ref sl) "slice":=⟨os,hos,hcs⟩
 unfold getItem
 try with_reducible refine eV ?_
 first |refine aG (aU ?_) |skip
 refine aG (wpAny_sequenceKey ht.typeIs (by decide) (aG (mE (name:=Str.ofString "__getitem__") ht.typeIs dY (lG dY ht.typeIs entry_tuple_getitem ?_ (args_tuple_getitem _ _)))));refine aG (m:=Builtin.Tuple.tupleItemsOf (.ref t)) (tupleItemsOf_ ht (aG (mM hTs ?_)));rw[aH (by decide)];refine aG (HT.sliceApplied_gen hs pl pu ?_);have hyes:((((HT.sIx cZ.size 0 lo:Nat):Int)==0&&(1:Int)==1&&(HT.sIx cZ.size cZ.size hi-HT.sIx cZ.size 0 lo)==cZ.size)=true):=by
  rw[hw.1,hw.2];simp
 show wpAny _ _ (if(((HT.sIx cZ.size 0 lo:Nat):Int)==0&&(1:Int)==1&&(HT.sIx cZ.size cZ.size hi-HT.sIx cZ.size 0 lo)==cZ.size)=true then _ else _) _ _ s;rw[aH hyes];have hT:=ht.typeIs
 wp_walk
 exact⟨_,rfl,aU h⟩
def tH:V->Option Int->Option Int->Hp->VK->Prop:=λx lo hi H Q=>mI x λa=>∃xs,H a=some (.tup xs)/\∀p H',bG H H'->H' p=some (.tup (qJ xs lo hi))->Q (.ref p) H'
theorem uU:SlR X tH:=by
 intro aI s σ H x v vl vu lo hi sl Q I rx hs pl pu h;replace h:=xS h;obtain⟨a,rfl,xs,hx,q⟩:=h;by_cases hw:HT.sIx xs.length 0 lo=0/\HT.sIx xs.length xs.length hi=xs.length
 ·cases rx;obtain⟨its,r,ht,hz⟩:=I.tuple (cW.of hx);have fA:its.toArray.size=xs.length:=by rw[aL];exact r.length.symm
  refine⟨"tuple",_,dY.lookup,ht.typeIs,?_⟩;refine KU ht hs pl pu (by rw[fA];exact hw) ⟨.ref a,H,I,rfl,q a H (bG.refl H) ?_⟩;have e:qJ xs lo hi=xs:=by
   unfold qJ;rw[hw.1,hw.2,nY,Nat.sub_zero,aR (aJ _)]
  rw[e];exact hx
 ·exact OR aI s σ H _ v vl vu lo hi sl Q I rx hs pl pu ⟨xs,cW.of hx,hw,λp hp=>q p _ (zE hp _) zC⟩
def PX:R2:=λx y H Q=>mI x λa=>mI y λb=>∃xs,H a=some (.tup xs)/\∃ys,H b=some (.tup ys)/\xs.length+ys.length<=sizeLine/\∀p H',bG H H'->H' p=some (.tup (xs++ys))->Q (.ref p) H'
theorem dc:nN X (binaryOp .Add) PX:=by
 intro aI s σ H x y v u Q I rx ry h;replace h:=xS h;obtain⟨a,rfl,h⟩:=h;replace h:=xS h;obtain⟨b,rfl,xs,ha,ys,hb,hz,q⟩:=h;by_cases hx:xs=[]
 ·subst hx;cases rx;cases ry;obtain⟨its,r1,p1,_⟩:=I.tuple (cW.of ha);obtain⟨its2,r2,p2,_⟩:=I.tuple (cW.of hb);have hv:its=[]:=r1.nil_iff.mpr rfl;obtain⟨⟨cls,dd,data,sl⟩,ho,hc,n,hd⟩:=id p1;obtain⟨⟨cls2,dd2,data2,sl2⟩,ho2,hc2,n2,hd2⟩:=id p2;simp only at hc hd hc2 hd2;subst hc hd hc2 hd2;exact concat_meets ⟨_,ho,rfl⟩ ⟨_,ho2,rfl⟩ noFill_tuple_add seq_tuple_add pJ pE (oT _ _) (tuple_addW0 a b its.toArray its2.toArray n n2 dd dd2 sl sl2 (by simp[hv])) ⟨ho,ho2,⟨.ref b,H,I,rfl,q b H (bG.refl H) hb⟩⟩
 ·refine db aI s σ H _ _ v u Q I rx ry ⟨xs,cW.of ha,ys,cW.of hb,hx,hz,λe=>?_,λ_ p hp=>q p _ (zE hp _) zC⟩;subst e;exact q a H (bG.refl H) (by rw[cU];exact ha)
end
section
open PySem.SeqAt
def GU:V->List V->Hp->VK->Prop:=λx vs H Q=>∃(l:Addr)(us:List V)(ds:List Dt)(v:V)(d:Dt)(n j:Nat),x=.ref l/\vs=[v]/\H l=some (.lst us)/\bA H ds us/\dD H d v/\(∀e∈ds,gI n e)/\n<=60/\ds.length<=1000000/\(∃d',ds[j]?=some d'/\dL d' d=true)/\(∀(m:Nat)(d':Dt),m<j->ds[m]?=some d'->dL d' d=false)/\Q (.int j) H
open Classical in
theorem ME(hu:X.A.units+64<cLine):MtM X "list.index" GU:=by
 intro aI s σ H x vs v us Q I rx rv h;obtain⟨l,ws,ds,y,d,n,j,rfl,rfl,hH,hds,hd,hf,hn,h6,⟨d',hj,hj'⟩,hno,q⟩:=h;cases rx;obtain⟨u,rfl,ru⟩:=rv.one;obtain⟨hz,its,m,r,hl,e⟩:=I.lstM hH;have k1:=hds.length;have k2:=r.length;obtain⟨jl,je⟩:=aD.mp hj;have at_:∀m (hm:m<its.length),decide (∃d' v',dD H d' v'/\RelV v' its[m]/\dL d' d=true)=dL (ds[m]'()) d:=λm hm=>by
  have hmd:m<ds.length:=by lia
  obtain⟨v,v1,v2⟩:=hds.get (aA hmd);have rr:RelV v its[m]:=xX r v1 (aA hm);rw[cK,cE];constructor
  ·rintro⟨d',v',q1,q2,q3⟩;have :=RelV.inj q2 rr;subst this;rw[dD.one_of v2 q1];exact q3
  ·intro q;exact⟨_,v,v2,rr,q⟩
 have hj2:j<its.toArray.size:=by rw[aL];lia
 have M:=PySem.SeqAt.list_indexAt l its.toArray m none #[] u (λy=>decide (∃d' v',dD H d' v'/\RelV v' y/\dL d' d=true)) j hj2 () (by
  rw[dA,at_ j (),je];exact hj') (λm hm lW=>by
  rw[dA,at_ m (by simpa using hm)];exact hno m _ lW (aA (by have :m<its.length:=(by simpa using hm);lia)))
 refine WK F.slot_list_index ⟨_,e,rfl⟩ F.entry_list_index (F.args_list_index_2 _ _) M ⟨e,λy hy=>?_,?_⟩
 ·exact TN I.hok hds r hd ru hf () y hy
 ·exact⟨.int j,H,I.tok _,⟨_,rfl⟩,q⟩
end
section
variable {I:Addr} {wr:List Addr} {P:Nat->Value->Prop} {St:Nat->Shared->Prop}
end
theorem AZ:∀{vs:List Value}{ss:List Int},vs.length=ss.length->(∀(i:Nat)(v:Value)(x:Int),vs[i]?=some v->ss[i]?=some x->∃t,v=.int x t)->IntsAre vs ss
 |[],[],_,_=>.nil
 |[],_::_,h,_=>by simp at h
 |_::_,[],h,_=>by simp at h
 |v::vs,x::ss,h,hh=>by
  obtain⟨t,rfl⟩:=hh 0 v x rfl rfl;exact .cons x t (AZ (by simpa using h) λi v' x' h1 h2=>hh (i+1) v' x' (by simpa using h1) (by simpa using h2))
section
open PySem.SeqAt PySem.W
theorem QG:∀{vs:List Value}{ss:List Int},IntsAre vs ss->cV (ss.map V.int) vs
 |_,_,.nil=>.nil
 |_,_,.cons y t h=>.cons ⟨t,rfl⟩ (QG h)
section
variable {P:Nat->Value->Prop} {OK:Heap->Prop}
end
end
section
open PySem.SeqAt
def Ite(a:Addr):It:=
 ⟨λi H=>∃xs x,H a=some (.lst xs)/\xs[i]?=some x,
  λi H v H'=>∃p x,v=.ref p/\H p=none/\H'=upd H p (.tup [.int i,x])/\∀xs,H a=some (.lst xs)->xs[i]?=some x,
  λi H=>∃xs,H a=some (.lst xs)/\xs.length<=i⟩
def Eat(e it l:Addr)(i:Nat)(h:Heap):Prop:=(∃old,IsEnum h e it i old)/\h.IsListIter it l i
theorem KR{elts:List Expr}{cx:_}{tp:Pos}(e it l:Addr)(ne:e≠it):
 MY P w K (.Tuple elts cx tp) (Ite l) [e,it] e (Eat e it l) where
 mem:=by simp
 obj:=λi h st b hb=>by
  obtain⟨⟨old,ge⟩,⟨o2,r2,_,d2⟩⟩:=st;simp only[bI,eF,or_false]at hb;rcases hb with rfl |rfl
  ·exact⟨_,ge,λv e=>by cases e⟩
  ·exact⟨_,r2,λv e=>by rw[d2]at e;cases e⟩
 keep:=λi h h' st k=>by
  obtain⟨⟨old,ge⟩,⟨o2,r2,q2⟩⟩:=st;exact⟨⟨old,k _ (by simp) _ ge⟩,⟨o2,k _ (by simp) _ r2,q2⟩⟩
 item:=by
  intro X hP hw hK hc i aI s σ H E I hf st hg;subst hP hw hK;obtain⟨xs,x,ha,hx⟩:=hg;obtain⟨its,rv,t1⟩:=bA.lst_of I.hok ha;obtain⟨u,hu,ru⟩:=rv.get hx;obtain⟨⟨old,ge⟩,r1⟩:=st;refine wpAny_pyNext_enum_item ge r1 t1 (by simpa using hu) ne λh1 b1 b2 b3 b4 b5=>?_
  refine⟨_,rfl,wpAny_letOwnedTupleGo_enum (s:={s with heap:=h1,toks:=s.toks+1}) b1 λh2 g2 s2=>?_⟩;have be:e<s.heap.objs.size:=bJ ge;have bi:it<s.heap.objs.size:=by obtain⟨_,z,_⟩:=r1;exact bJ z
  have keep2:∀b o,b∉[e,it]->s.heap.get? b=some o->h2.get? b=some o:=λb o hb q=>by
   simp only[bI,eF,or_false,not_or]at hb;exact s2.extBut b o hb.1 (b5 b o hb.1 hb.2 q)
  have hfr:H s.heap.objs.size=none:=I.hok.fresh (aJ _);have gT:=s2.extBut _ _ (Nat.ne_of_gt be) b3;refine⟨.ref s.heap.objs.size,_,I.turnedN (t':=s.toks+1) (p:=s.heap.objs.size) (o:=.tup [.int i,x]) keep2 hf (aJ _) ⟨small (by simp),[.int i s.toks,u],.cons ⟨_,rfl⟩ (.cons ru .nil),⟨_,gT,rfl,_,rfl⟩⟩,rfl,⟨_,x,rfl,hfr,rfl,λxs' e1=>?_⟩,?_,λb hb=>?_⟩
  ·rw[ha]at e1;cases e1;exact hx
  ·obtain⟨o2,b21,b22⟩:=b2;exact⟨⟨_,g2⟩,⟨o2,s2.extBut _ _ (cM ne) b21,b22⟩⟩
  ·have hb2:b<s.heap.objs.size:=by
    simp only[bI,eF,or_false]at hb;rcases hb with rfl |rfl
    ·exact be
    ·exact bi
   rw[zL (cG hb2)];exact(hf b hb).1
 done:=by
  intro X hP hw hK hc i aI s σ H E I hf st hg;subst hP hw hK;obtain⟨xs,ha,hl⟩:=hg;obtain⟨its,rv,t1⟩:=bA.lst_of I.hok ha;have k1:=rv.length;obtain⟨⟨old,ge⟩,r1⟩:=st;refine wpAny_pyNext_enum_end (I.ok.hd hc) ge r1 t1 (by simp;lia) λh1 kk=>⟨rfl,?_⟩
  refine I.turnedL (ch:=[it]) (t':=s.toks) (λb o hb q=>?_) (λb hb=>hf b (by simp only[bI,eF,or_false]at hb⊢;exact .inr hb));simp only[bI,eF,or_false]at hb;exact kk b o hb q
 self:=λ_ _ _ _ _ st h=>by
  obtain⟨⟨old,ge⟩,_⟩:=st;exact wpAny_pyIter_enum ge h
def ZO(ta:TA):TI:=λσ H R=>ta σ H λvs H1=>pI vs λx=>mI x λa=>∃xs,H1 a=some (.lst xs)/\R (Ite a) H1
theorem uX{elts:List Expr}{cx:_}{tp:Pos}{a:Expr}{ta:TA}{pos:Pos}(hg:Gl X "enumerate")(hm:X.mg "enumerate"=none)(ha:PA X [a] ta)(hs:starEach [a] X.env=[(false,eval a X.env)]:=by rfl):
 PI X (.Tuple elts cx tp) (.Call (.Name "enumerate" p) [a] [] pos) (ZO ta):=by
 intro aI s σ H R I h;refine Call_ (wS I hg hm boot_enumerate (fU (eK (ha pos aI s σ H _ I h) λus s1 ⟨vs,H1,I1,r1,q1⟩=>?_) (by rw[hs];rfl) (by rfl)));replace q1:=ZY q1;obtain⟨x,e,q1⟩:=q1;replace q1:=xS q1;obtain⟨l1,rfl,xs,h1,q⟩:=q1;subst e;cases r1 with
 |cons r rr=>
  cases rr;cases r;obtain⟨its1,rv1,t1⟩:=bA.lst_of I1.hok h1;refine call_enumerate_list t1 λh' gz g1 _ kk=>?_
  refine wpAny_pyIter_enum (s:={s1 with heap:=h'}) gz ?_;have fr:∀b,s1.heap.objs.size<=b->JL X aI H1 b:=λb hb=>I1.fpOk hb (I1.hok.fresh hb)
  refine⟨_,[s1.heap.objs.size+1,s1.heap.objs.size],_,_,H1,rfl,I1.kept (t':=s1.toks) kk,KR _ _ l1 (Nat.succ_ne_self _),⟨⟨_,gz⟩,g1⟩,λb hb=>?_,q⟩;simp only[bI,eF,or_false]at hb;rcases hb with rfl |rfl<;>exact fr _ ()
theorem IJ{g:TG}(Pv:Nat->St->Hp->Prop)(h0:Pv 0 σ H)(hl:∀i σ H,Pv i σ H->H a=some (.lst xs))
 (hs:∀(i:Nat) x σ H p,xs[i]?=some x->Pv i σ H->H p=none->g (.ref p) σ (upd H p (.tup [.int i,x])) λσ2 H2=>tb {D with nx:=Pv (i+1),ct:=Pv (i+1),bk:=D.nx} σ2 H2)
 (hd:∀σ H,Pv xs.length σ H->D.nx σ H):VF (Ite a) g tb D σ H:=by
 refine⟨λi m σ H=>m=xs.length-i/\i<=xs.length/\Pv i σ H,⟨_,by rfl,cO _,h0⟩,λi m σ1 H1 ⟨hm,hi,hp⟩=>?_⟩;have k1:=hl i σ1 H1 hp;by_cases h:i<xs.length
 ·refine .inr ⟨⟨xs,_,k1,aA h⟩,Pv (i+1),λσ' H' q=>⟨_,?_,rfl,(),q⟩,λv H' ⟨p,x,e1,e2,e3,e4⟩=>?_⟩
  ·lia
  ·subst e1;subst e3;exact hs i x σ1 H1 p (e4 xs k1) hp e2
 ·have e:i=xs.length:=by lia
  subst e;exact .inl ⟨⟨xs,k1,aJ _⟩,hd σ1 H1 hp⟩
theorem YN{g:TG}(Pv:Nat->St->Hp->Prop)(h0:Pv 0 σ H)(hl:∀i σ H,Pv i σ H->H a=some (.lst xs))
 (hs:∀(i:Nat) x σ H p,xs[i]?=some x->Pv i σ H->H p=none->∀N:St->Hp->Prop,(∀σ H,Pv (i+1) σ H->N σ H)->g (.ref p) σ (upd H p (.tup [.int i,x])) λσ2 H2=>tb {D with nx:=N,ct:=N,bk:=D.nx} σ2 H2)
 (hd:∀σ H,Pv xs.length σ H->D.nx σ H):VF (Ite a) g tb D σ H:=IJ Pv h0 hl (λi x σ H p a b c=>hs i x σ H p a b c _ λ_ _ z=>z) hd
theorem HV{g:TG}{Q:VK}(Pv:Nat->List V->St->Hp->Prop)(h0:Pv 0 [] (UO ns js σ) H)(hz:xs.length<=sizeLine)(hl:∀i ys σ H,Pv i ys σ H->ys.length<=i)
 (hK:∀i ys σ H,Pv i ys σ H->H a=some (.lst xs))
 (hs:∀(i:Nat) x ys σ H p (C:V->St->Hp->Prop),xs[i]?=some x->Pv i ys σ H->H p=none->(∀y σ2 H3,Pv (i+1) (ys++[y]) σ2 H3->C y σ2 H3)->g (.ref p) σ (upd H p (.tup [.int i,x])) λσ2 H2=>te σ2 H2 λy H3=>C y σ2 H3)
 (hd:∀ys σ H,Pv xs.length ys σ H->∀p,H p=none->Q (.ref p) (upd H p (.lst ys))):
 WV (Ite a) ns js g none te σ H Q:=
 HX (n:=xs.length) Pv h0 hz hl (λi ys σ H hi w=>⟨xs,xs[i],hK i ys σ H w,aA hi⟩) (λys σ H w=>⟨xs,hK _ ys σ H w,aJ _⟩)
  (λi ys σ H x H' C hi w ⟨p,y,e1,e2,e3,e4⟩ hC=>by subst e1;subst e3;exact hs i y ys σ H p C (e4 xs (hK i ys σ H w)) w e2 hC) hd
def Itd(hi:Int)(n:Nat):It:=⟨λi _=>i<n,λi H x H'=>H'=H/\x=.int (hi-i),λi _=>n<=i⟩
theorem KS(it:Addr)(hi:Int)(n:Nat):MY P w K tg (Itd hi n) [it] it (λi h=>IsRangeIter h it (hi+(i:Nat)*(-1)) ((n:Int)-(i:Nat)) (-1)) where
 mem:=by simp
 obj:=λi h st b hb=>by
  have e:b=it:=by simpa using hb
  subst e;exact⟨_,st,λv z=>by
   have z':Data.fields _=Data.cell v:=z;cases z'⟩
 keep:=λi h h' st k=>k it (by simp) _ st
 item:=by
  intro X hP hw hK hc i aI s σ H E I hf st hg;subst hP hw hK;obtain⟨f0,f1,f2,f3,f4,f5⟩:=hf it (by simp);have W:=Walks.range (prog:=X.prog) (w:=X.w) (I.ok.hd hc) it hi (-1) n;refine W.item i s _ _ hg st λv h' tk hv cL kk=>?_
  obtain⟨t,rfl⟩:=hv;have I1:Inv X aI σ H {s with heap:=h',toks:=tk}:=I.turned (λb o hb e=>kk b o (by simpa using hb) e) f0 f1 f3 f4 f5;refine⟨_,rfl,IF (s:={s with heap:=h',toks:=tk}) (n:="range_iterator") cL rfl rfl (by decide) ⟨.int (hi-i),H,I1,⟨t,?_⟩,⟨rfl,rfl⟩,cL,λb hb=>(hf b hb).1⟩⟩;have e:hi-(i:Int)=hi+(i:Int)*(-1):=by lia
  rw[e]
 done:=by
  intro X hP hw hK hc i aI s σ H E I hf st hg;subst hP hw hK;obtain⟨f0,f1,f2,f3,f4,f5⟩:=hf it (by simp);exact wpAny_pyNext_range_end (I.ok.hd hc) st (by have :n<=i:=hg;lia) λh' eb=>⟨rfl,I.turned (t':=s.toks) (λb o hb e=>eb b o hb e) f0 f1 f3 f4 f5⟩
 self:=λ_ _ _ _ _ st h=>wpAny_pyIter_rangeiter st h
theorem JW(a:Int)(h:0<=a):Builtin.Range.rangeSize a (-1) (-1)=a+1:=by
 unfold Builtin.Range.rangeSize;rw[aF (by decide),aH ()];simp
theorem small_down{a:Int}(h:0<=a)(h2:a<2^62):Builtin.Range.small a (-1) (-1)=true:=by
 unfold Builtin.Range.small;rw[JW a h];simp only[Builtin.Range.rangeFitsLong,cA,mZ,cE,dJ,show¬((-1:Int)>0) by decide,dO];lia
def io(ta:TA):TI:=λσ H R=>ta σ H λvs H1=>∃a:Nat,vs=[.int a,.int (-1),.int (-1)]/\a<100000/\R (Itd a (a+1)) H1
theorem ce{a b c:Expr}{ta:TA}{pos:Pos}(hg:Gl X "range")(hm:X.mg "range"=none)(ha:PA X [a,b,c] ta)(hs:starEach [a,b,c] X.env=[(false,eval a X.env),(false,eval b X.env),(false,eval c X.env)]:=by rfl)(hs2:starEach [b,c] X.env=[(false,eval b X.env),(false,eval c X.env)]:=by rfl):
 PI X tg (.Call (.Name "range" p) [a,b,c] [] pos) (io ta):=by
 intro aI s σ H R I h;refine Call_ (wS I hg hm boot_range (fU (eK (ha pos aI s σ H _ I h) λus s1 ⟨vs,H1,I1,r1,q1⟩=>?_) (by rw[hs,hs2]) (by rw[hs2];rfl)));obtain⟨n,e,hn,q⟩:=q1;subst e;cases r1 with
 |cons r rr=>
  cases rr with
  |cons r' rr=>
   cases rr with
   |cons r'' rr=>
    cases rr;obtain⟨t,rfl⟩:=r;obtain⟨t',rfl⟩:=r';obtain⟨t'',rfl⟩:=r'';refine call_range_3 (by decide) ?_ (Or.inl (PyProof.noPylong_small (by decide)));refine wpAny_pyIter_range (IsRange.new ..) (small_down () ()) ?_;have I2:Inv X aI σ H1 {s1 with heap:=s1.heap.push {cls:=.type "range",data:=.fields #[.int n t,.int (-1) t',.int (-1) t'']},toks:=s1.toks}:=I1.kept λb o e=>aS _ e
    refine⟨(s1.heap.push {cls:=.type "range",data:=.fields #[.int n t,.int (-1) t',.int (-1) t'']}).objs.size,[(s1.heap.push {cls:=.type "range",data:=.fields #[.int n t,.int (-1) t',.int (-1) t'']}).objs.size],_,_,H1,rfl,
     I2.kept (t':=s1.toks) λb o e=>aS _ e,KS _ n (n+1),?_,λb hb=>?_,q⟩
    ·have e1:(n:Int)+((0:Nat):Int)*(-1)=n:=by simp
     have e2:(((n+1:Nat):Nat):Int)-((0:Nat):Int)=Builtin.Range.rangeSize n (-1) (-1):=by rw[JW n ()];lia
     show IsRangeIter _ _ ((n:Int)+((0:Nat):Int)*(-1)) ((((n+1:Nat):Nat):Int)-((0:Nat):Int)) (-1);rw[e1,e2];exact bQ _ rfl
    ·have e:b=(s1.heap.push {cls:=.type "range",data:=.fields #[.int n t,.int (-1) t',.int (-1) t'']}).objs.size:=by simpa using hb
     subst e;exact I2.fpOk (aJ _) (I2.hok.fresh (aJ _))
theorem eo{hi:Int}{g:TG}(Pv:Nat->St->Hp->Prop)(h0:Pv 0 σ H)
 (hs:∀i σ H,i<n->Pv i σ H->g (.int (hi-i)) σ H λσ2 H2=>tb {D with nx:=Pv (i+1),ct:=Pv (i+1),bk:=D.nx} σ2 H2) (hd:∀σ H,Pv n σ H->D.nx σ H):VF (Itd hi n) g tb D σ H:=by
 refine⟨λi m σ H=>m=n-i/\i<=n/\Pv i σ H,⟨_,by rfl,cO _,h0⟩,λi m σ1 H1 ⟨hm,hi',hp⟩=>?_⟩;by_cases h:i<n
 ·refine .inr ⟨h,Pv (i+1),λσ' H' q=>⟨_,?_,rfl,(),q⟩,λv H' ⟨e1,e2⟩=>?_⟩
  ·lia
  ·subst e1;subst e2;exact hs i σ1 _ h hp
 ·have e:i=n:=by lia
  subst e;exact .inl ⟨aJ _,hd σ1 H1 hp⟩
theorem YI{k:Nat}{t:iw}{pos:Pos}(hc:X.calm=true)(h:PGs X es t)(hK:X.K=K:=by rfl)
 (hn:(assignEach es X.env).length=n:=by rfl) (iN:(assignEach es X.env).findIdx? (·.1)=none:=by rfl):PG X (.Tuple es k pos) (uQ K n t):=by
 subst hK;exact jF hc h hn iN
theorem k0(K:W.Frag){to:TE}{t:TA}{name:Str}{gP:Pos}{id:String}{r:V->List V->Hp->VK->Prop}(pa:PlainAttrs T)(slot:Slot T name id)(hty:typeOf (.builtin id)=pure (.type "method_descriptor"))(hm:MtR X id r)(ho:PE X o to)(ha:PA X (e::es) t)
 (hK:X.K=K:=by rfl) (hbase:attributeBase o name X.env (eval o X.env)=eval o X.env:=by rfl)
 (hfew:((backTo gP (starEach (e::es) X.env)).all (λx=>!x.1)&&(backToKw gP (keywordEach [] X.env)).all (λx=>x.1.isSome)
  &&decide ((e::es).length+([]:List Keyword).length+(if([]:List Keyword).isEmpty then 0 else 1)<30))=true:=by rfl)
 (hline:(iU.endLine==gP.line)=true:=by rfl) (hs:starEach (e::es) X.env=(false,eval e X.env)::starEach es X.env:=by rfl) (hplain:(backTo gP (starEach es X.env)).any (·.1)=false:=by rfl):
 PE X (.Call (.Attribute o name iU) (e::es) [] gP) (tBM K T r to t):=by
 subst hK;exact uD pa slot hty hm ho ha hbase hfew hline hs hplain
end
theorem SN:∀n:Nat,0<n->∃t m,n=2^t*(2*m+1):=by
 intro n
 induction n using Nat.strongRecOn with
 |_ n ih=>
  intro h;by_cases ho:n % 2=1
  ·exact⟨0,n/2,()⟩
  ·obtain⟨t,m,e⟩:=ih (n/2) () ();refine⟨t+1,m,?_⟩;rw[Nat.pow_succ,Nat.mul_assoc,Nat.mul_left_comm,←e];lia
theorem SY(h:0<n):∃t,n.testBit t=true/\(∀i,i<t->n.testBit i=false)/\n-(n&&&(n-1))=2^t/\∀i,(n&&&(n-1)).testBit i=(n.testBit i&&decide (i≠t)):=by
 obtain⟨t,m,e⟩:=SN n h;have e1:n=2^t*(2*m+1)+0:=by lia
 have hp:0<2^t:=Nat.two_pow_pos t;have e2:n-1=2^t*(2*m)+(2^t-1):=by
  rw[e,Nat.mul_add,Nat.mul_one];lia
 have b1:∀i,n.testBit i=if i<t then false else(2*m+1).testBit (i-t):=λi=>by
  rw[e,Nat.testBit_two_pow_mul];by_cases hi:i<t
  ·rw[aH hi,dE (),gU]
  ·rw[aF hi,dH (),sI]
 have b2:∀i,(n-1).testBit i=if i<t then true else(2*m).testBit (i-t):=λi=>by
  rw[e2,Nat.testBit_two_pow_mul_add _ ()];by_cases hi:i<t
  ·rw[aH hi,aH hi,Nat.testBit_two_pow_sub_one,dH hi]
  ·rw[aF hi,aF hi]
 have ev:∀j,(2*m).testBit j=((2*m+1).testBit j&&decide (j≠0)):=λj=>by
  cases j with
  |zero=>simp
  |succ j=>
   rw[Nat.testBit_succ,Nat.testBit_succ];have :(2*m+1)/2=2*m/2:=by lia
   rw[this];simp
 have b3:∀i,(n&&&(n-1)).testBit i=(n.testBit i&&decide (i≠t)):=λi=>by
  rw[mY,b1,b2];by_cases hi:i<t
  ·rw[aH hi,gU,gU]
  ·rw[aF hi,aF hi,ev];have :decide (i-t≠0)=decide (i≠t):=by
    rw[decide_eq_decide];lia
   rw[this];cases (2*m+1).testBit (i-t)<;>simp
 have e3:n&&&(n-1)=2^t*(2*m):=by
  apply mP;intro i;rw[b3,b1,Nat.testBit_two_pow_mul];by_cases hi:i<t
  ·rw[aH hi,show decide (i≥t)=false from dE (),gU,gU]
  ·rw[aF hi,show decide (i≥t)=true from dH (),sI,ev];have :decide (i-t≠0)=decide (i≠t):=by
    rw[decide_eq_decide];lia
   rw[this]
 refine⟨t,?_,λi hi=>?_,?_,b3⟩
 ·rw[b1,aF (),iP];simp
 ·rw[b1,aH hi]
 ·rw[e3,e,Nat.mul_add,Nat.mul_one];lia
def rF(n:Nat)(xs:List Nat):Prop:=xs.Pairwise (· < ·)/\∀i,n.testBit i=decide (i∈xs)
theorem rF.nil(h:rF n []):n=0:=mP λi=>by rw[h.2];simp
theorem rF.cons{n x:Nat}{xs:List Nat}(h:rF n (x::xs)):0<n/\n-(n&&&(n-1))=2^x/\rF (n&&&(n-1)) xs:=by
 have hx:n.testBit x=true:=by rw[h.2];simp
 have hn:0<n:=Nat.pos_of_ne_zero λz=>by rw[z]at hx;simp at hx
 obtain⟨t,t1,t2,t3,t4⟩:=SY hn;have hp:=List.pairwise_cons.mp h.1;have e:t=x:=by
  rw[h.2,cE]at t1;rcases bI.mp t1 with e |e
  ·exact e
  ·have :=hp.1 t e;rw[t2 x this]at hx;cases hx
 subst e;refine⟨hn,t3,hp.2,λi=>?_⟩;rw[t4,h.2];by_cases hi:i=t
 ·subst hi;have :i∉xs:=λz=>eA _ (hp.1 i z)
  simp[this]
 ·simp[hi]
section
open PySem.SeqAt
theorem ik:PIp X .BitOr (mh λi j=>Builtin.bitOr i j):=by
 intro aI s σ H x y v u Q I r1 r2 h;replace h:=uC h;obtain⟨i,e1,h⟩:=h;replace h:=uC h;obtain⟨j,e2,q⟩:=h;subst e1;subst e2;obtain⟨t,rfl⟩:=r1;obtain⟨t',rfl⟩:=r2;exact ior_int ⟨.int _,H,I.tok _,⟨_,rfl⟩,q⟩
theorem me:PIp X .BitXor (mh λi j=>Builtin.bitXor i j):=by
 intro aI s σ H x y v u Q I r1 r2 h;replace h:=uC h;obtain⟨i,e1,h⟩:=h;replace h:=uC h;obtain⟨j,e2,q⟩:=h;subst e1;subst e2;obtain⟨t,rfl⟩:=r1;obtain⟨t',rfl⟩:=r2;exact ixor_int ⟨.int _,H,I.tok _,⟨_,rfl⟩,q⟩
def PV:V->V->Hp->VK->Prop:=λx y H Q=>mI x λp=>∃(xs:List V)(i:Nat),y=.int i/\H p=some (.lst xs)/\∃v,xs[i]?=some v/\Q v H
theorem BF:PGet X PV:=by
 intro aI s σ H o i ov iv Q I ro ri h;replace h:=xS h;obtain⟨p,rfl,xs,k,rfl,hp,v,hk,q⟩:=h;cases ro;obtain⟨t,rfl⟩:=ri;obtain⟨its,r,pl,hz⟩:=I.list (dF.of hp);obtain⟨w,ew,rw'⟩:=r.get hk;have hl:=r.length;have hkl:=(aD.mp hk).1;have hs:=eT;exact wpAny_getItem_list pl.isList () () (by simpa using ew) ⟨v,H,I,rw',q⟩
def GV:V->List V->Hp->VK->Prop:=λx vs H Q=>rN x λi=>as0 vs (Q (.int (Builtin.Int.intBits i)) H)
theorem JO:MtR X "int.bit_length" GV:=by
 intro aI s σ H x xs v us Q I rx rv h;replace h:=uC h;obtain⟨i,rfl,h⟩:=h;replace h:=as0_ h;obtain⟨rfl,q⟩:=h;cases rv;obtain⟨t,rfl⟩:=rx;exact call_int_bit_length ⟨.int _,H,I.tok _,⟨_,rfl⟩,q⟩
theorem cr(K:W.Frag){f:Str}{pos:Pos}(he:PE X e ta)(hb:attributeBase e f X.env (eval e X.env)=eval e X.env)(hK:X.K=K:=by rfl):PE X (.Attribute e f pos) (wE K ta f):=by
 subst hK;exact xU he hb
theorem not_not(x:Int):Builtin.bitNot (Builtin.bitNot x)=x:=by unfold Builtin.bitNot;lia
theorem HI(m n:Nat):Builtin.bitOr (m:Int) (n:Int)=((m|||n:Nat):Int):=by
 unfold Builtin.bitOr;rw[bitAnd_nn (by unfold Builtin.bitNot;lia) (by unfold Builtin.bitNot;lia),not_not,not_not,not_not];simp
theorem VU(m n:Nat):Builtin.bitAnd (m:Int) (n:Int)=((m&&&n:Nat):Int):=by
 rw[bitAnd_pp () ()];simp
theorem SX(h:0<n):Builtin.bitAnd (n:Int) (-(n:Int))=((n-(n&&&(n-1)):Nat):Int):=by
 rw[bitAnd_pn () ()];have e:(Builtin.bitNot (-(n:Int))).toNat=n-1:=by unfold Builtin.bitNot;lia
 rw[e,bV];have :=Nat.and_le_left (n:=n) (m:=n-1);lia
theorem ab{x:Nat}(h:n-(n&&&(n-1))=2^x)(hb:n.testBit x=true):Builtin.bitXor (n:Int) ((2^x:Nat):Int)=((n&&&(n-1):Nat):Int):=by
 rw[bitXor_and,VU];have e:n&&&2^x=2^x:=by
  apply mP;intro i;rw[mY,Nat.testBit_two_pow];by_cases hi:x=i
  ·subst hi;simp[hb]
  ·simp[hi]
 rw[e];have :=Nat.and_le_left (n:=n) (m:=n-1);lia
theorem VP(x:Nat):Builtin.Int.intBits ((2^x:Nat):Int)=x+1:=by
 unfold Builtin.Int.intBits;have hp:0<2^x:=Nat.two_pow_pos x;rw[aF (by rw[dJ];lia),Int.natAbs_natCast,Nat.log2_two_pow]
theorem GG(x:Nat):(1:Int)*2^(x:Int).toNat=((2^x:Nat):Int):=by
 rw[Int.one_mul,bV];simp
end
section
open PySem.SeqAt
section
variable {K:Type} [DecidableEq K] {knd:HeapKind prog w K} {k:K} {xs:List (K×Addr×Value)}
theorem LD{v:Value}(hu:knd.room A)(hkey:knd.is s.heap k a)(hm:s.heap.DictOfH knd d xs)
 (h1:∀p,atKey xs k=some p->Q p.2 {s with toks:=s.toks+knd.draws k})
 (h2:atKey xs k=none->∀h',h'.DictOfH knd d (storedH xs k a v)->Heap.SameBut d s.heap h'->Q v {s with heap:=h',toks:=s.toks+knd.draws k})
 (hsz:xs.length<=sizeLine):wpAny (model prog w) A (dictSetDefault d (.ref a) v) Q E s:=by
 obtain⟨o,es,ep,ho,hc,hd,he,his,hn⟩:=hm;unfold dictSetDefault
 try with_reducible refine eV ?_
 refine aG (knd.pyHash hu hkey ?_);refine aG (wpAny_dictFind_heap (s:={s with toks:=s.toks+knd.draws k}) hu hkey ho hd he his hn ?_ ?_)
 ·intro hno;have hnot:k∉xs.map (·.1):=not_mem_keys_of_get hno;refine aG (iC (aG (wpAny_updateDictKeys (hz:=by have e:=size_of_entries he;lia) (s:={s with toks:=s.toks+knd.draws k}) ho hd (aU (h2 (pU hno) _ ⟨_,_,ep+1,nI _ ho (Obj.isFreed_of_dict (Obj.data_mapDictKeys hd _)),
   hc.mapDictKeys _,Obj.data_mapDictKeys hd _,?_,?_,?_⟩ (lI ..))))))
  ·rw[FK (pU hno)];simp[he,entryOfKey]
  ·rw[FK (pU hno)];intro x hx;rcases bX.mp hx with hx |hx
   ·exact knd.keeps (his x hx) ho hd (lI ..)
   ·simp only[aX]at hx;subst hx;exact knd.keeps hkey ho hd (lI ..)
  ·rw[FK (pU hno)];rw[bF,FR];refine⟨hn,by simp,?_⟩;intro x hx y hy;simp only[cD,pN,aX]at hy;subst hy;exact λe=>hnot (e▸hx)
 ·intro j p hj;refine aG (mN (s:={s with toks:=s.toks+knd.draws k}) ho hd ?_);rw[entry_at he j,hj];exact aG (iC (aU (h1 p (atKey_of_get hn hj))))
theorem CW(hd:(d==sysModules)=false)(dflt:Value):
 MeetsIn prog w (Builtin.«dict.setdefault» ⟨[.ref d,.ref a,dflt],[]⟩) (λA R s=>knd.room A.in1/\∃k xs,knd.is s.heap k a/\s.heap.DictOfH knd d xs/\xs.length<=sizeLine/\
  (∀p,atKey xs k=some p->R (.ok (.ret p.2)) {s with toks:=s.toks+knd.draws k})/\
  (atKey xs k=none->∀h',h'.DictOfH knd d (storedH xs k a dflt)->Heap.SameBut d s.heap h'->R (.ok (.ret dflt)) {s with heap:=h',toks:=s.toks+knd.draws k})):=
 .of_wp λA R s ⟨hu,k,xs,hkey,hm,hz,h1,h2⟩=>by
  unfold Builtin.«dict.setdefault»;refine aG ?_;unfold Builtin.Dict.keyAndDefault;refine aG (nF hm.typeIs ?_);show wpAny _ _ (pure (d,Value.ref a,some dflt)) _ _ s;refine aU ?_;show wpAny _ _ (if(d==sysModules)=true then _ else(dictSetDefault d (.ref a) dflt >>= _)) _ _ s;rw[aF (by rw[hd];exact bL)];exact aG (LD hu hkey hm (λp hp=>aU ⟨p.2,rfl,h1 p hp⟩) (λhn h' hm' eP=>aU ⟨dflt,rfl,h2 hn h' hm' eP⟩) hz)
end
theorem LL(h:lY (some v) (some u)):RelV v u:=h
def gh(td ty tx:TE):TE:=λσ H Q=>td σ H λx H1=>∃a,x=.ref a/\IsD H1 a/\ty σ H1 λy H2=>tx σ H2 λz H3=>∃(kvs:List (List eZ×V))(k:List eZ)(b:Addr),H3 a=some (.dT kvs)/\y=.ref b/\H3 b=some (.tup (k.map kV))/\kvs.length<sizeLine/\
 (∀v,yW kvs k=some v->Q v H3)/\(yW kvs k=none->Q z (upd H3 a (.dT (jZ kvs k z))))
section
variable {f:Expr} {gP:Pos} {td ty tx:TE}
theorem ck(hu:X.A.units+1<cLine)(ho:PE X o td)(he:PE X e ty)(hf:PE X f tx)(m:M2 X o "setdefault" iU e f gP):PE X (.Call (.Attribute o "setdefault" iU) [e,f] [] gP) (gh td ty tx):=by
 intro aI s σ H Q I h;refine f7 m.base m.few m.line pC WM F.type_dict_setdefault (eK (ho aI s σ H _ I h) λu s1 ⟨x,H1,I1,rx,a,ex,d,q1⟩=>?_);subst ex;obtain rfl:u=Value.ref a:=rx;obtain⟨t1,t2,_⟩:=TL I1 d;refine⟨t1,t2,?_⟩;rw[m.trees];refine iE rfl (nZ (gH (eK (he aI s1 σ H1 _ I1 q1) λiv s2 ⟨y,H2,I2,ry,q2⟩=>
  gH (eK (hf aI s2 σ H2 _ I2 q2) λfv s3 ⟨z,H3,I3,rz,kvs,k,b,e,ey,eb,l,q3,q4⟩=>mQ ?_))))
 subst ey;cases (show iv=Value.ref b from ry);obtain⟨z0,hd,xs,mH,dd⟩:=ip I3.hok e;have hz:xs.length<=sizeLine:=by rw[←fQ mH];exact z0
 have hl:(jZ kvs k z).length<=sizeLine:=by have :=uF kvs k z;lia
 refine rT WM dd.typeIs F.entry_dict_setdefault (F.args_dict_setdefault_3 _ _ _) (CW (knd:=tupleKind (yC X.prog X.w)) hd fv) ⟨eJ hu,k,xs,wU I3.hok eb,dd,hz,λp hp=>?_,λhn h' dd' hs=>?_⟩
 ·have rv:=mH.val k;rw[hp]at rv;cases hv:yW kvs k with
  |none=>rw[hv]at rv;cases rv
  |some v=>
   rw[hv]at rv;exact⟨v,H3,I3.tok _,LL rv,q3 v hv⟩
 ·have rv:=mH.val k;rw[hn]at rv;have hv:yW kvs k=none:=by
   cases hv:yW kvs k with
   |none=>rfl
   |some v=>rw[hv]at rv;cases rv
  obtain⟨q,es,ep,hq,h2,h3,h4,_,h5⟩:=dd';refine⟨z,upd H3 a (.dT (jZ kvs k z)),wC I3 (by rw[e];exact True.intro) hs ⟨q,hq⟩ ⟨hl,hd,_,(mH.put k eb rz).keeps λc ys ec=>?_,q,es,ep,hq,h2,h3,h4,h5⟩,rz,q4 hv⟩;rw[zL (qD ec e (λz=>nomatch z))];exact ec
end
end
section
open PySem.W
def nM(h:Heap)(d:Addr)(es:Array DictEntry)(ep:Nat):Prop:=∃o,h.get? d=some o/\o.ExactDict/\o.data=.dict es ep
theorem nM.typeIs{es:Array DictEntry}(x:nM s.heap d es ep):s.TypeIs (.ref d) "dict":=let ⟨o,ho,hc,_⟩:=x;⟨o,ho,hc.1⟩
theorem nM.at'{es:Array DictEntry}(x:nM h d es ep)(e:∀o,h.get? d=some o->h'.get? d=some o):nM h' d es ep:=let ⟨o,ho,r⟩:=x;⟨o,e _ ho,r⟩
theorem nM.lt{es:Array DictEntry}(x:nM h d es ep):d<h.objs.size:=let ⟨_,ho,_⟩:=x;bJ ho
theorem b7(d:Addr)(hd:(d==sysModules)=false):MeetsIn prog w (Builtin.«dict.__len__» ⟨[.ref d],[]⟩) (λ_ R s=>∃es ep,nM s.heap d es ep/\R (.ok (.ret (.int es.size s.toks))) {s with toks:=s.toks+1}):=
 .of_wp λA R s ⟨es,ep,hm,h⟩=>by
  obtain⟨o,a1,a2,a3⟩:=id hm;show wpAny _ _ (dictSize d >>= _) _ _ s;unfold dictSize;refine aG (aG (mN a1 a3 (aU ?_)));show wpAny _ _ (Builtin.Dict.pendingCount d >>= _) _ _ s;refine aG (wpAny_pendingCount_other hd ?_);refine wpAny_ret_mkInt ?_;rw[Nat.add_zero];exact h
theorem FW:∀{ys:List V}{us:List Value},ys.length=us.length->(∀(i:Nat)(y:V)(u:Value),ys[i]?=some y->us[i]?=some u->RelV y u)->cV ys us
 |[],[],_,_=>.nil
 |[],_::_,h,_=>by simp at h
 |_::_,[],h,_=>by simp at h
 |y::ys,u::us,h,hh=>.cons (hh 0 y u rfl rfl) (FW (by simpa using h) λi y' u' h1 h2=>hh (i+1) y' u' (by simpa using h1) (by simpa using h2))
theorem KT.at{H:Hp}:∀{kvs:List (List eZ×V)}{xs:List (List eZ×Addr×Value)},KT H kvs xs->∀{i:Nat}{p:List eZ×V}{q:List eZ×Addr×Value},kvs[i]?=some p->xs[i]?=some q->RelV p.2 q.2.2
 |_,_,.nil,i,p,q,h,_=>by simp at h
 |_,_,.cons hq t,0,p,q,h1,h2=>by
  simp only[List.getElem?_cons_zero,FL]at h1 h2;subst h1 h2;exact hq.2.2
 |_,_,.cons hq t,i+1,p,q,h1,h2=>KT.at t (by simpa using h1) (by simpa using h2)
end
section
open PySem.W
section
variable {J:Addr} {wr:List Addr} {P:Nat->Value->Prop} {St:Nat->Heap->Prop}
structure ItSrc(prog:Program)(w:World)(T:String)(J:Addr)(fp wr:List Addr)(n:Nat)(P:Nat->Value->Prop)(St:Nat->Heap->Prop):Prop where
 walks:∀A:Around,A.handled=none->Walks prog w A J fp wr n P St
 type:∀s:Shared,St 0 s.heap->s.TypeIs (.ref J) T
 nl:(Value.type T==Value.type "list")=false
 nt:(Value.type T==Value.type "tuple")=false
 hint:∀(A:Around)(E:Value->Shared->Prop)(s:Shared)(Q:Bool->Shared->Prop),St 0 s.heap->Q false s->wpAny (model prog w) A (Builtin.List.listLengthHint (.ref J)) Q E s
 mem:J∈fp
 sub:wr ⊆ fp
end
theorem QL:uA X (.type "int") (λxs H Q=>∃b,xs=[.bl b]/\Q (.int (if b then 1 else 0)) H):=by
 intro aI s σ H xs us Q I r h;obtain⟨b,rfl,q⟩:=h;obtain⟨u,rfl,ru⟩:=vA r;have e:u=Value.bool b:=ru;subst e;exact call_int_bool ⟨.int _,H,I.tok _,⟨_,rfl⟩,q⟩
theorem SU(K:W.Frag)(h:X.K=K:=by rfl):MtR X "str.join" (λx xs H Q=>∃(z:Str)(p:Addr)(ys:List Str),x=.str z/\xs=[.ref p]/\dF K H p (ys.map V.str)/\(ys.map (·.length)).sum+ys.length*z.length<=16777216/\Q (.str (Txt.join z ys)) H):=by subst h;exact HM
end
section
open PySem.W
theorem RH{l:Expr}{tl:TE}(K:W.Frag)(hl:PE X l tl)(h:X.K=K:=by rfl):PI X tg l (im K tl):=by subst h;exact yV hl
end
section
open PySem.W
def KL(n:Nat)(p:Array Nat):Prop:=p.toList.Perm (List.range n)
theorem KL.size{p:Array Nat}(h:KL n p):p.size=n:=by
 have :=List.Perm.length_eq h;rwa[bP,dX]at this
theorem KL.at{p:Array Nat}(h:KL n p)(hi:i<n):p.getD i 0<n:=by
 have hs:i<p.size:=by rw[h.size];exact hi
 have e:p.getD i 0=p[i]:=by simp[Array.getD,hs]
 rw[e];exact bZ.mp (h.mem_iff.mp (by simp))
end
section
open PySem.W
structure fu(z:Str)(xs ys:List Str)(scope gK:Scope):Prop where
 kind:scope.kind=.function
 nd:(xs++ys).Nodup
 zc:scope.names.lookup z=some .cell
 cap:∀y∈ys,scope.names.lookup y=some .free/\(gK.names.lookup y=some .cell\/gK.names.lookup y=some .free)
 onecell:∀y∈scope.names,y.2=.cell->y.1=z
 names:∀y∈scope.names,y.2=.local->scope.names.lookup y.1=some .local
 free:∀y∈scope.names,y.2=.free->y.1∈ys
 cf:∀n cl,cellsFrom n scope.names cl=(z,n)::cl
 pc:∀h,pushCells h scope.names=h.push {cls:=.type "cell",data:=.cell none}
section
variable {z:Str} {xs:List Str} {scope:Scope} {C D:Addr}
end
section
variable {z:Str} {xs:List Str} {scope:Scope} {elt:Expr} {pos:Pos} {g:TG}
end
def lw(z:Str)(xs ys:List Str)(scope gK:Scope):Bool:=
 (scope.kind==.function)&&decide (xs++ys).Nodup&&(scope.names.lookup z==some .cell)&&
 ys.all (λy=>(scope.names.lookup y==some .free)&&((gK.names.lookup y==some .cell) ||(gK.names.lookup y==some .free)))&&
 scope.names.all (λy=>((y.2 !=.cell) ||(y.1==z))&&((y.2 !=.local) ||(scope.names.lookup y.1==some .local))&&((y.2 !=.free) ||ys.contains y.1))
theorem lw.scope{z:Str}{xs:List Str}{scope gK:Scope}(h:lw z xs ys scope gK=true)(cf:∀n cl,cellsFrom n scope.names cl=(z,n)::cl)(pc:∀h,pushCells h scope.names=h.push {cls:=.type "cell",data:=.cell none}):fu z xs ys scope gK:=by
 unfold lw at h;simp only[cA,dJ,cE,dB,mZ,bne_iff_ne,List.contains_iff_mem]at h;obtain⟨⟨⟨⟨h1,h2⟩,h3⟩,h4⟩,h5⟩:=h;exact⟨h1,h2,h3,h4,λy hy hl=>(h5 y hy).1.1.resolve_left (λz=>z hl),λy hy hl=>(h5 y hy).1.2.resolve_left (λz=>z hl),λy hy hf=>(h5 y hy).2.resolve_left (λz=>z hf),cf,pc⟩
section
variable {xs:List Str} {scope:Scope} {elt:Expr} {pos:Pos} {g:TG}
end
end
section
open PySem.SeqAt
def SqH(b:Bool)(h:Heap)(l:Addr)(xs:Array Value):Prop:=match b with
 |true=>h.IsTuple l xs
 |false=>h.IsList l xs
def SqI(b:Bool)(h:Heap)(it l:Addr)(i:Nat):Prop:=match b with
 |true=>h.IsTupleIter it l i
 |false=>h.IsListIter it l i
theorem SqI.keep{b:Bool}(x:SqI b h it l i)(e:∀o,h.get? it=some o->h'.get? it=some o):SqI b h' it l i:=by
 cases b with
 |true=>obtain⟨o,ho,r⟩:=x;exact⟨o,e _ ho,r⟩
 |false=>obtain⟨o,ho,r⟩:=x;exact⟨o,e _ ho,r⟩
theorem SqH.keep{b:Bool}{xs:Array Value}(x:SqH b h l xs)(e:∀o,h.get? l=some o->h'.get? l=some o):SqH b h' l xs:=by
 cases b with
 |true=>obtain⟨o,ho,r⟩:=x;exact⟨o,e _ ho,r⟩
 |false=>obtain⟨o,ho,r⟩:=x;exact⟨o,e _ ho,r⟩
section
variable {b1 b2:Bool}
end
end
section
open PySem.W
section
variable {Kt:Type} [DecidableEq Kt] {knd:HeapKind prog w Kt}
def mT(knd:HeapKind prog w Kt)(h:Heap)(d:Addr)(xs:List (Kt×Addr×Value)):Prop:=
 ∃o es ep,h.get? d=some o/\o.ExactDict/\o.data=.dict es ep/\es.toList=xs.map (entryOfKey knd)/\(xs.map (·.1)).Nodup
theorem mT.full{xs:List (Kt×Addr×Value)}(x:mT knd h d xs)(hk:∀y∈xs,knd.is h y.1 y.2.1):h.DictOfH knd d xs:=by
 obtain⟨o,es,ep,h1,h2,h3,h4,h5⟩:=x;exact⟨o,es,ep,h1,h2,h3,h4,hk,h5⟩
theorem mT.of{xs:List (Kt×Addr×Value)}(x:h.DictOfH knd d xs):mT knd h d xs:=by
 obtain⟨o,es,ep,h1,h2,h3,h4,_,h5⟩:=x;exact⟨o,es,ep,h1,h2,h3,h4,h5⟩
theorem mT.at{xs:List (Kt×Addr×Value)}(x:mT knd h d xs)(e:∀u,h.get? d=some u->h'.get? d=some u):mT knd h' d xs:=by
 obtain⟨o,es,ep,h1,r⟩:=x;exact⟨o,es,ep,e _ h1,r⟩
theorem QY{xs:List (Kt×Addr×Value)}(hn:(xs.map (·.1)).Nodup){k:Kt}{v:Value}(h:xs[i]?=some (k,a,v)):storedH (xs.take i) k a v=xs.take (i+1):=by
 obtain⟨il,ie⟩:=aD.mp h;have hno:atKey (xs.take i) k=none:=by
  unfold atKey;rw[pL,List.find?_eq_none];intro x hx;obtain⟨j,hj,e⟩:=dU hx;rw[bH]at hj;rw[oH]at e;intro hk;have hk:x.1=k:=by simpa using hk
  exact cS.mp hn j i (by rw[aE];lia) (by rw[aE];lia) () (by simp[e,ie,hk])
 rw[FK hno,aO il,ie]
theorem tW{its:Array Value}{xs:List (Kt×Addr×Value)}{h0:Heap}(hu:knd.room A.in1)(hA:A.handled=none)(hdi:d≠it)(hl:h0.IsList l its)(hd0:∀u,h0.get? d≠some u)(hi0:∀u,h0.get? it≠some u)
 (mono:∀{h h':Heap}{k:Kt}{a:Addr},(∀b u,h.get? b=some u->h'.get? b=some u)->knd.is h k a->knd.is h' k a)
 (hn:(xs.map (·.1)).Nodup) (hsz:xs.length<=sizeLine) (fA:its.size=xs.length) (hp:∀(i:Nat)(k:Kt)(b:Addr)(v:Value),xs[i]?=some (k,b,v)->∃a:Addr,its[i]?=some (Value.ref a)/\IsTup h0 a #[.ref b,v]/\knd.is h0 k b):
 ∀(m i:Nat)(t:Tok)(s:Shared),xs.length-i=m->i<=xs.length->s.heap.IsListIter it l i->mT knd s.heap d (xs.take i)->(∀b u,h0.get? b=some u->s.heap.get? b=some u)->
 (∀h' t',(∀b u,h0.get? b=some u->h'.get? b=some u)->mT knd h' d xs->R (.ok (.ret .none)) {s with heap:=h',toks:=t'})->
 codeAny (model prog w) A (.builtin "dict.update.loop" ⟨[.ref d,.ref it,.int i t,.none],[]⟩) R s:=by
 have hall:∀x∈xs,knd.is h0 x.1 x.2.1:=λx hx=>by
  obtain⟨i,hi⟩:=iI hx;obtain⟨a,_,_,h⟩:=hp i x.1 x.2.1 x.2.2 hi;exact h
 intro m
 induction m with
 |zero=>
  intro i t s hm hi hit hd hk hR;have hin:i=xs.length:=by lia
  subst hin;have eC:s.heap.IsList l its:=by obtain⟨o,ho,r⟩:=hl;exact⟨o,hk _ _ ho,r⟩
  refine sD F.entry_dul ?_;rw[oC F.plain_dul _];show wpAny _ A.in1 (pyNext (.ref it) >>= _) _ _ s;refine aG (CD (A:=A.in1) hA hit eC (by rw[gf];lia) λh' he=>?_);rw[aR (aJ _)]at hd;show wpAny _ A.in1 (Builtin.Dict.addKeywords d [] >>= _) _ _ _;refine aG (aU (aU (hR h' s.toks (λb u hb=>he b u (λz=>hi0 u (by rw[←z];exact hb)) (hk b u hb)) (hd.at λu h=>he _ u hdi h))))
 |succ m ih=>
  intro i t s hm hi hit hd hk hR;have lW:i<xs.length:=by lia
  have eC:s.heap.IsList l its:=by obtain⟨o,ho,r⟩:=hl;exact⟨o,hk _ _ ho,r⟩
  obtain⟨a,ha,ht,hkey⟩:=hp i xs[i].1 xs[i].2.1 xs[i].2.2 (aA lW);refine sD F.entry_dul ?_;rw[oC F.plain_dul _];show wpAny _ A.in1 (pyNext (.ref it) >>= _) _ _ s;refine aG (rS (A:=A.in1) hit eC ha λh1 hit1 hs1=>?_);have hk1:∀b u,h0.get? b=some u->h1.get? b=some u:=λb u hb=>(hs1.2 b (λz=>hi0 u (by rw[←z];exact hb))).trans (hk b u hb)
  have hd1:mT knd h1 d (xs.take i):=hd.at λu h=>(hs1.2 d hdi).trans h
  obtain⟨ot,hot,hct,nt,hdt⟩:=ht;have hot1:=hk1 _ _ hot;have hT:({s with heap:=h1}:Shared).TypeIs (.ref a) "tuple":=⟨_,hot1,hct⟩
  refine aG (eV (aG ?_));refine wpAny_tryCatch ?_;unfold Builtin.Dict.pairItems;refine aG (mM hT ?_);rw[aH (by decide)];refine aG (wpAny_seqItems hot1 hdt (aU ?_));refine eV (wpAny_dictSet_heap (xs:=xs.take i) hu (mono hk1 hkey) (hd1.full λy hy=>mono hk1 (hall y (cQ hy))) (λh2 hd2 hs2=>?_) (by rw[bH];lia));rw[QY hn (show xs[i]?=some (xs[i].1,xs[i].2.1,xs[i].2.2)from aA lW)]at hd2;refine aU ⟨NP F.plain_dul _,?_⟩;have hk2:∀b u,h0.get? b=some u->h2.get? b=some u:=λb u hb=>(hs2.2 b (λz=>hd0 u (by rw[←z];exact hb))).trans (hk1 b u hb)
  have hit2:h2.IsListIter it l (i+1):=by obtain⟨o,ho,r⟩:=hit1;exact⟨o,(hs2.2 _ (cM hdi)).trans ho,r⟩
  exact ih (i+1) _ {s with heap:=h2,toks:=s.toks+knd.draws xs[i].1} () lW hit2 (.of hd2) hk2 hR
theorem ZH{its:Array Value}{xs:List (Kt×Addr×Value)}(hu:knd.room A.in1.in1)(hA:A.handled=none)(hl:PlainL s.heap l its)(mono:∀{h h':Heap}{k:Kt}{a:Addr},(∀b u,h.get? b=some u->h'.get? b=some u)->knd.is h k a->knd.is h' k a)
 (hn:(xs.map (·.1)).Nodup) (hsz:xs.length<=sizeLine) (fA:its.size=xs.length) (hp:∀(i:Nat)(k:Kt)(b:Addr)(v:Value),xs[i]?=some (k,b,v)->∃a:Addr,its[i]?=some (Value.ref a)/\IsTup s.heap a #[.ref b,v]/\knd.is s.heap k b)
 (h:∀h' t',(∀b u,s.heap.get? b=some u->h'.get? b=some u)->mT knd h' s.heap.objs.size xs->Q (.ref s.heap.objs.size) {s with heap:=h',toks:=t'}):
 wpAny (model prog w) A (call (.type "dict") [.ref l]) Q E s:=by
 refine callType_codes (Q₁:=λobj s₁=>obj=.ref s.heap.objs.size/\s₁={s with heap:=s.heap.push {cls:=.type "dict",data:=.dict #[]}}) F.kt_called_dict (f9 _) F.entry_dict_init (kt_code_dict_new _ ⟨rfl,rfl⟩) ?_;rintro obj s₁ ⟨rfl,rfl⟩;have hnew:(s.heap.push {cls:=.type "dict",data:=.dict #[]}).DictOfH knd s.heap.objs.size []:=Heap.DictOfH.new s.heap;refine⟨hnew.typeIs,F.args_dict_init_2 _ _,?_⟩;obtain⟨ol,nl,hol,hlc,hld,lB⟩:=hl;have hol1:(s.heap.push {cls:=.type "dict",data:=.dict #[]}).get? l=some ol:=aS _ hol;have hT:({s with heap:=s.heap.push {cls:=.type "dict",data:=.dict #[]}}:Shared).TypeIs (.ref l) "list":=⟨_,hol1,hlc⟩
 unfold Builtin.«dict.__init__»;refine aG ?_;unfold Builtin.Dict.selfAndRest;refine aG (nF hnew.typeIs ?_);show wpAny _ _ (pure (s.heap.objs.size,[Value.ref l])) _ _ _;refine aU ?_;show wpAny _ _ (Builtin.Dict.updateFrom "dict.__init__" s.heap.objs.size (.ref l) [] .none) _ _ _;unfold Builtin.Dict.updateFrom;refine aG (mM hT ?_);rw[aH (by decide)];have hkd:∀b u,s.heap.get? b=some u->(s.heap.push {cls:=.type "dict",data:=.dict #[]}).get? b=some u:=λb u e=>aS _ e
 have hd0:∀u,s.heap.get? s.heap.objs.size≠some u:=λu z=>eA _ (bJ z)
 obtain⟨hp0,g,d,t,os⟩:=s;dsimp only at *;generalize hp0.push {cls:=.type "dict",data:=.dict #[]}=h1 at hnew hol1 hT hkd⊢;generalize hp0.objs.size=D at hnew hd0 h⊢;obtain⟨c1,c2,c3,c4⟩:=ol;dsimp only at hlc hld lB;subst hlc hld lB;refine aG (SQ (A:=A.in1.in1) hA hol1 λh2 t2 hk2=>?_);rw[aH (by rfl)];refine aG (iC ?_);have hl2:h2.IsList l its:=⟨_,hk2 _ _ hol1,rfl,_,rfl⟩
 refine aG (pT hl2 ?_);refine aU ⟨NP F.plain_dul _,?_⟩;have hd2:=(mT.of hnew).at λu h=>hk2 _ u h
 have hit0:∀u,hp0.get? h2.objs.size≠some u:=λu z=>eA _ (bJ (hk2 _ _ (hkd _ _ z)))
 have hDi:D≠h2.objs.size:=λz=>by
  obtain⟨o,_,_,ho,_⟩:=hd2;exact eA _ (by have :=bJ ho;rw[z]at this;exact this)
 refine tW (h0:=hp0) (xs:=xs) (A:=A.in1) hu hA hDi ⟨_,hol,rfl,_,rfl⟩ hd0 hit0 mono hn hsz fA hp xs.length 0 _ _ () (cO _) ⟨_,bQ _ rfl,rfl,rfl⟩ (hd2.at λu h=>aS _ h) (λb u hb=>aS _ (hk2 _ _ (hkd _ _ hb))) λh' t' hk' hd'=>?_
 exact⟨rfl,h h' t' hk' hd'⟩
end
theorem ao{k:List eZ}(e:∀b u,h.get? b=some u->h'.get? b=some u)(x:(tupleKind (yC P w)).is h k a):(tupleKind (yC P w)).is h' k a:=by
 obtain⟨o,its,n,h1,r⟩:=x;exact⟨o,its,n,e _ _ h1,r⟩
structure NA(P:Program)(w:World)(K:W.Frag)(mg:Str->Option Value)(base:Heap)(k:Nat)(f:Addr)(ps:List Str)(sp:Sp):Prop where
 ex:∃fd,dG P w K mg base gJ k f fd ps sp/\Binds K fd ps []/\W.keepIn K (.ref f)=true
def QX(i:Nat)(f:Addr)(tc:TE):TE:=λσ H Q=>σ[i]?=some (some (.ref f))/\tc σ H Q
section
variable {k:Nat} {x:Str} {pos:Pos} {t:TA}
theorem fX.at{k:Nat}(h:fX P w K mg base k x ps sp)(hm:mg x=some (.ref f)):NA P w K mg base k f ps sp:=by
 obtain⟨g,fd,F,b,kp,m⟩:=h.ex;rw[hm]at m;cases m;exact⟨fd,F,b,kp⟩
theorem tS(h:NA X.prog X.w X.K X.mg X.base k f ps sp)(hr:gW k X.A)(ha:PA X (e::es) t)(hN:X.N[i]?=some x:=by rfl)(hv:Vis X.env.scope x:=by first |exact Or.inl rfl |exact Or.inr (Or.inl rfl) |exact Or.inr (Or.inr rfl))
 (hdb:(x==("__debug__":Str))=false:=by decide) (hcd:(x==("__classdict__":Str))=false:=by decide)
 (he:starEach (e::es) X.env=(false,eval e X.env)::starEach es X.env:=by rfl) (hpl:(backTo pos (starEach es X.env)).any (·.1)=false:=by rfl):PE X (.Call (.Name x p) (e::es) [] pos) (QX i f (JU sp [] E0 t)):=by
 obtain⟨fd,F,b,kp⟩:=h.ex;intro aI s σ H Q I h;obtain⟨h1,h2⟩:=h;refine iD (eK (RI hN hv hdb hcd aI s σ H (λv H'=>v=.ref f/\H'=H) I (by show asV _ _;rw[h1];exact⟨rfl,rfl⟩)) λu s1 ⟨v,H1,I1,r,e1,e2⟩=>?_);subst e1 e2;obtain rfl:u=.ref f:=r;refine nW (h₀:=X.base) I.ok.mod.kin kp (eK (ha pos aI s1 σ H1 _ I1 h2) λus s2 ⟨vs,H2,I2,r,q⟩=>⟨I2.kIn,?_⟩) he hpl;exact CY F hr b .nil HF I2 r q
theorem DD(hm:X.mg x=some (.ref f))(hg:Gl X x)(hd:(x==("__debug__":Str))=false:=by decide):PE X (.Name x pos) (tC (.ref f)):=HE hg hm rfl hd
end
set_option maxHeartbeats 8000000
end
section
open PySem.W
theorem LN{es:Array DictEntry}{v:Value}{Q:Option Value->Shared->Prop}(hit:s.heap.IsKeyIter it d i es.size ep)(hm:nM s.heap d es ep)(hi:i<es.size)(hx:es[i].key=v)
 (hQ:∀h',h'.IsKeyIter it d (i+1) es.size ep->Heap.SameBut it s.heap h'->Q (some v) {s with heap:=h'}):wpAny (model prog w) A (pyNext (.ref it)) Q E s:=by
 obtain⟨o,a1,a2,a3⟩:=id hit;obtain⟨od,b1,b2,b3⟩:=id hm;unfold pyNext;refine aG (NO (mE (name:=Str.ofString "__next__") hit.typeIs eU (lG eU hit.typeIs sE ?_ (rW _))));refine aG (aU ?_);refine aG ?_;refine aG ?_
 first |refine aG (iA hit.typeIs (aU ?_));skip |refine aG (lM hit.typeIs (aU ?_));skip
 refine aG (wpAny_fieldsOf a1 a3 ?_);have ow:Builtin.Dict_items.ownsTuple "dict_keyiterator"=false:=by decide
 simp only[ow,bU,dO];show wpAny _ _ (if(Value.ref d==Value.none)=true then _ else _) _ _ s;rw[aF (show¬((Value.ref d==Value.none)=true)from bL)];refine aG (aU ?_);refine aG (mN b1 b3 ?_);rw[aF (by simp)];refine aG (aU ?_);refine aG (wpAny_dictEpoch b1 b3 ?_);rw[aF (by simp)];refine aU ?_;simp only[show¬((i:Int)<0)from by lia,dO,bV,jb hi];refine aG ?_
 first |refine aG (iA hit.typeIs (aU ?_));skip |refine aG (lM hit.typeIs (aU ?_));skip
 refine aG (wpAny_isOneOf_keyiter hit.typeIs ?_);show wpAny _ _ (setField (.ref it) 1 (rawInt ((i:Int)+1)) >>= _) _ _ s;refine aG (wpAny_setField a1 a3 (by simp) ?_);have it':(s.heap.update it (Obj.mapFields (·.setIfInBounds 1 (rawInt ((i:Int)+1))))).IsKeyIter it d (i+1) es.size ep:=⟨_,nI _ a1 (Obj.isFreed_of_fields (WN a3 _)),(Obj.cls_mapFields ..).trans a2,by rw[WN a3];simp[rawInt]⟩
 refine aG (eV ?_);refine aG (wpAny_isOneOf_keyiter (s:={s with heap:=s.heap.update it (Obj.mapFields (·.setIfInBounds 1 (rawInt ((i:Int)+1))))}) it'.typeIs ?_);show wpAny _ _ (pure es[i].key) _ _ _;exact aU (aU ⟨_,rfl,aU (hx▸hQ _ it' (lI ..))⟩)
theorem PR{es:Array DictEntry}{Q:Option Value->Shared->Prop}(hh:A.handled=none)(hit:s.heap.IsKeyIter it d i es.size ep)(hm:nM s.heap d es ep)(hi:es.size<=i)
 (hQ:∀h',Heap.ExtBut it s.heap h'->Q none {s with heap:=h'}):wpAny (model prog w) A (pyNext (.ref it)) Q E s:=by
 obtain⟨o,a1,a2,a3⟩:=id hit;obtain⟨od,b1,b2,b3⟩:=id hm;unfold pyNext;refine aG (NO (mE (name:=Str.ofString "__next__") hit.typeIs eU (lG eU hit.typeIs sE ?_ (rW _))));refine aG (aU ?_);refine aG ?_;refine aG ?_
 first |refine aG (iA hit.typeIs (aU ?_));skip |refine aG (lM hit.typeIs (aU ?_));skip
 refine aG (wpAny_fieldsOf a1 a3 ?_);have ow:Builtin.Dict_items.ownsTuple "dict_keyiterator"=false:=by decide
 simp only[ow,bU,dO];show wpAny _ _ (if(Value.ref d==Value.none)=true then _ else _) _ _ s;rw[aF (show¬((Value.ref d==Value.none)=true)from bL)];refine aG (aU ?_);refine aG (mN b1 b3 ?_);rw[aF (by simp)];refine aG (aU ?_);refine aG (wpAny_dictEpoch b1 b3 ?_);rw[aF (by simp)];refine aU ?_;simp only[show¬((i:Int)<0)from by lia,dO,bV,Array.getElem?_eq_none hi];refine aG ?_
 first |refine aG (iA hit.typeIs (aU ?_));skip |refine aG (lM hit.typeIs (aU ?_));skip
 show wpAny _ _ (setField (.ref it) 0 .none >>= _) _ _ s;refine aG (wpAny_setField a1 a3 (by simp) ?_);show wpAny _ _ (newExc (.type "StopIteration") [] >>= _) _ _ _;refine aG ?_;simp only[newExc,newTuple];refine aG (eS ?_ (by size_fits));refine aG (m:=firstArgMember _ _) (wpAny_of_eq (a:=Value.none) (by first |rfl |(simp only[firstArgMember];rfl)) ?_);refine eS ?_ (by size_fits);simp only[raiseNew];refine aG (wpAny_handled ?_);rw[show A.in1.handled=none from hh];refine aG (aU (wpAny_throw ?_));refine aG (wpAny_isInstance (T:="StopIteration") (b:=true) ⟨_,bQ _ rfl,rfl⟩ isSubtype_stop ?_);exact aU (hQ _ (((lI ..).extBut.push _).push _))
theorem DA(hh:A.handled=none)(I d:Addr)(hne:d≠I)(es:Array DictEntry)(ep:Nat):Walks prog w A I [I,d] [I] es.size (λi v=>∃e,es[i]?=some e/\e.key=v) (λi h=>h.IsKeyIter I d i es.size ep/\nM h d es ep) where
 sub:=λb hb=>by simp at hb;simp[hb]
 frame:=λ_ _ _ st hk=>⟨st.1.at λo e=>hk I (by simp) o e,nM.at' st.2 λo e=>hk d (by simp) o e⟩
 item:=λi s Q E hi st hQ=>by
  refine LN st.1 st.2 hi rfl λh' it' eP=>?_
  exact hQ es[i].key h' s.toks ⟨es[i],jb hi,rfl⟩ ⟨it',nM.at' st.2 λo e=>eP.extBut d o hne e⟩ λb o hb e=>eP.extBut b o (λh=>hb (by simp[h])) e
 done:=λs Q E st hQ=>PR hh st.1 st.2 (aJ _) λh' he'=>hQ h' s.toks λb o hb e=>he' b o (λh=>hb (by simp[h])) e
 self:=λ_ _ _ _ st hQ=>wpAny_pyIter_keyiter st.1 hQ
theorem LM{es:Array DictEntry}(hd:(d==sysModules)=false)(hm:nM s.heap d es ep)
 (hQ:Q (.ref s.heap.objs.size) {s with heap:=s.heap.push {cls:=.type "dict_keyiterator",data:=.fields #[.ref d,.int 0 0,.int es.size 0,.int ep 0]}}):wpAny (model prog w) A (pyIter (.ref d)) Q E s:=by
 obtain⟨o,b1,b2,b3⟩:=id hm;have hT:=hm.typeIs;refine wpAny_pyIter_slot hT F.slot_dict_iter (lG F.slot_dict_iter hT F.entry_dict_iter ?_ (F.args_dict_iter_1 _));unfold Builtin.«dict.__iter__»;refine aG ?_;unfold Builtin.Dict.dictSlotNone;refine aG (nF hT ?_);show wpAny _ _ (pure (Value.ref d)) _ _ s;refine aU ?_;show wpAny _ _ (Builtin.Dict.showsAll d >>= _) _ _ s;unfold Builtin.Dict.showsAll;rw[aF (by rw[hd];exact bL)];refine aG (aU ?_);refine aG (mN b1 b3 ?_);refine aG (wpAny_dictEpoch b1 b3 ?_);refine aG (eS (aU ⟨_,rfl,"dict_keyiterator",_,⟨_,bQ _ rfl,rfl⟩,eU.lookup,?_⟩));simpa[rawInt]using hQ
theorem PQ{es:Array DictEntry}(lo:(d==sysModules)=false):KdlSrc prog w "dict" d d es.size (λi v=>∃e,es[i]?=some e/\e.key=v) (λh=>nM h d es ep) where
 type:=λ_ hm=>hm.typeIs
 there:=λ_ hm=>⟨hm.lt,hm.lt⟩
 keep:=λ_ _ hm hk=>hm.at' λo e=>hk d (.inl rfl) o e
 notList:=by decide
 notTuple:=by decide
 hint:=λ_ _ _ _ hm hq=>kdl_hint_dict hm.typeIs hq
 iter:=λ_ _ hh hm=>⟨_,_,(λ_ _ hq=>LM lo hm hq),DA hh _ d (cG hm.lt) es ep,⟨⟨_,bQ _ rfl,rfl,rfl⟩,hm.at' λo e=>aS _ e⟩⟩
end
section
open PySem.W
abbrev XE:=List eZ×Addr×V
abbrev FF:List XE->List (List eZ×Addr×Value)->Prop:=Paired λp q=>p.1=q.1/\p.2.1=q.2.1/\RelV p.2.2 q.2.2
def WI(P:Program)(w:World)(h:Heap)(a:Addr)(kvs:List XE):Prop:=∃xs,FF kvs xs/\∃o es ep,h.get? a=some o/\o.ExactDict/\o.data=.dict es ep/\es.toList=xs.map (entryOfKey (tupleKind (yC P w)))/\(xs.map (·.1)).Nodup
def CB(P:Program)(w:World)(a:Addr)(kvs:List XE):HO:=.ext λh=>WI P w h a kvs
structure rE(P:Program)(w:World)(K:W.Frag)(H:Hp)(a:Addr)(kvs:List XE):Prop where
 is:H a=some (CB P w a kvs)
 few:kvs.length<=1000
 lo:(a==sysModules)=false
 keys:∀x∈kvs,cW K H x.2.1 (x.1.map kV)
def kU(kvs:List XE)(k:List eZ):Option V:=(kvs.find? λx=>decide (x.1=k)).map (·.2.2)
theorem IS{kvs:List XE}(x:WI P w h a kvs):fI P w H h a (CB P w a kvs):=by
 refine⟨x,?_,λh1 h2 y hk=>?_⟩
 ·obtain⟨_,_,o,_,_,e,_⟩:=x;exact⟨o,e⟩
 ·obtain⟨xs,p,o,es,ep,e,r⟩:=y;exact⟨xs,p,o,es,ep,hk _ e,r⟩
theorem FF.val:∀{kvs:List XE}{xs:List (List eZ×Addr×Value)},FF kvs xs->∀k:List eZ,lY (kU kvs k) ((atKey xs k).map (·.2))
 |_,_,.nil,k=>True.intro
 |_,_,@Paired.cons _ _ _ p q ps qs h t,k=>by
  obtain⟨h1,_,h2⟩:=h;by_cases e:p.1=k
  ·have e':q.1=k:=h1.symm.trans e;have b:atKey (q::qs) k=some q.2:=by simp[atKey,eR,e']
   have b2:kU (p::ps) k=some p.2.2:=by simp[kU,eR,e]
   rw[b2,b];exact h2
  ·have e':¬q.1=k:=λz=>e (h1.trans z)
   have b:atKey (q::qs) k=atKey qs k:=by simp[atKey,eR,e']
   have b2:kU (p::ps) k=kU ps k:=by simp[kU,eR,e]
   rw[b2,b];exact FF.val t k
theorem FF.mem:∀{kvs:List XE}{xs:List (List eZ×Addr×Value)},FF kvs xs->∀x∈xs,∃p∈kvs,p.1=x.1/\p.2.1=x.2.1
 |_,_,.nil,x,hx=>nomatch hx
 |_,_,@Paired.cons _ _ _ p q ps qs h t,x,hx=>by
  rcases bI.mp hx with rfl |hx
  ·exact⟨p,aY,h.1,h.2.1⟩
  ·obtain⟨p',h1,h2⟩:=FF.mem t x hx;exact⟨p',aV _ h1,h2⟩
theorem FF.at:∀{kvs:List XE}{xs:List (List eZ×Addr×Value)},FF kvs xs->∀{i:Nat}{p:XE}{q:List eZ×Addr×Value},kvs[i]?=some p->xs[i]?=some q->p.2.1=q.2.1
 |_,_,.nil,i,p,q,h,_=>by simp at h
 |_,_,.cons hq t,0,p,q,h1,h2=>by
  simp only[List.getElem?_cons_zero,FL]at h1 h2;subst h1 h2;exact hq.2.1
 |_,_,.cons hq t,i+1,p,q,h1,h2=>FF.at t (by simpa using h1) (by simpa using h2)
section
variable {kvs:List XE} {k:List eZ}
theorem wT(I:Inv X aI σ H s)(h:cW X.K H b (k.map kV)):(tupleKind (yC X.prog X.w)).is s.heap k b:=by
 obtain⟨its,r,⟨o,h1,h2,n,h3⟩,_⟩:=I.tuple h;exact⟨o,its.toArray,n,h1,h2,h3,by simpa using ZC r⟩
theorem ZR(I:Inv X aI σ H s)(d:rE X.prog X.w X.K H a kvs):∃xs,FF kvs xs/\s.heap.DictOfH (tupleKind (yC X.prog X.w)) a xs:=by
 obtain⟨⟨xs,pr,o,es,ep,h1,h2,h3,h4,h5⟩,_,_⟩:=(show fI X.prog X.w H s.heap a (CB X.prog X.w a kvs)from I.hok a _ d.is)
 refine⟨xs,pr,o,es,ep,h1,h2,h3,h4,λx hx=>?_,h5⟩;obtain⟨p,hp,e1,e2⟩:=pr.mem x hx;have :=wT I (d.keys p hp);rw[e1,e2]at this;exact this
end
def rNiX(P:Program)(w:World)(K:W.Frag):R2:=λx y H Q=>∃a kvs b k,y=.ref a/\rE P w K H a kvs/\x=.ref b/\cW K H b (k.map kV)/\Q (.bl (!(kU kvs k).isSome)) H
theorem LS(hu:X.A.units+1<cLine):nN X (compareOp .NotIn) (rNiX X.prog X.w X.K):=by
 intro aI s σ H x y v u Q I rx ry h;obtain⟨a,kvs,b,k,rfl,d,rfl,hk,q⟩:=h;cases rx;cases ry;obtain⟨xs,pr,dd⟩:=ZR I d;refine wpAny_notIn_heap (eJ hu) (wT I hk) d.lo dd ?_;have e:=(pr.val k).isSome_eq;rw[gG]at e;rw[←e];exact⟨.bl _,H,I.tok _,rfl,q⟩
theorem QK:uA X (.builtin "len") (λxs H Q=>pI xs λx=>mI x λa=>∃kvs,rE X.prog X.w X.K H a kvs/\Q (.int kvs.length) H):=by
 intro aI s σ H xs us Q I r h;replace h:=ZY h;obtain⟨x,rfl,h⟩:=h;replace h:=xS h;obtain⟨a,rfl,kvs,d,q⟩:=h;obtain⟨u,rfl,ru⟩:=vA r;cases ru;obtain⟨xs,pr,oo,es,ep,o1,o2,o3,o4,o5,o6⟩:=ZR I d;have raw:nM s.heap a es ep:=⟨oo,o1,o2,o3⟩
 have fA:es.size=kvs.length:=by
  rw[←bP,o4,aE];exact(fQ pr).symm
 have hs:sizeLine=16777216:=eT;have hz:=d.few;refine call_len_slot (n:=(es.size:Int)) raw.typeIs F.slot_dict_len (λQ' hq=>rT F.slot_dict_len raw.typeIs F.entry_dict_len (F.args_dict_len_1 _) (b7 a d.lo) ⟨es,ep,raw,hq⟩) () () ?_;rw[fA];exact⟨.int kvs.length,H,(I.tok _),⟨_,rfl⟩,q⟩
def tDGX(P:Program)(w:World)(K:W.Frag)(td ty:TE):TE:=λσ H Q=>td σ H λx H1=>ty σ H1 λy H2=>∃a kvs b k v,x=.ref a/\rE P w K H2 a kvs/\y=.ref b/\cW K H2 b (k.map kV)/\kU kvs k=some v/\Q v H2
theorem RO{i:Expr}{pos:Pos}{td ty:TE}(hu:X.A.units+1<cLine)(ho:PE X o td)(hi:PE X i ty)(hs:oe i):PE X (.Subscript o i pos) (tDGX X.prog X.w X.K td ty):=by
 intro aI s σ H Q I h;refine GD ja.lookup hs (eK (ho aI s σ H _ I h) λu s1 ⟨x,H1,I1,rx,q1⟩=>eK (hi aI s1 σ H1 _ I1 q1) λiv s2 ⟨y,H2,I2,ry,q2⟩=>?_);obtain⟨a,kvs,b,k,v,ex,d,ey,hk,hv,q2⟩:=q2;subst ex ey;cases rx;cases ry;obtain⟨xs,pr,dd⟩:=ZR I2 d;obtain⟨w',hw,rw'⟩:=lY.some_of (v:=v) (o:=(atKey xs k).map (·.2)) (by rw[←hv];exact pr.val k);obtain⟨p,hp,hp2⟩:=bD.mp hw;refine⟨dd.typeIs,wpAny_getItem_heap (eJ hu) (wT I2 hk) dd hp ?_⟩;rw[hp2];exact⟨v,H2,I2.tok _,rw',q2⟩
def sDPX(P:Program)(w:World)(K:W.Frag)(td ty tv:TE):TS:=λD σ H=>tv σ H λv H1=>td σ H1 λx H2=>ty σ H2 λy H3=>∃a kvs b k,x=.ref a/\rE P w K H3 a kvs/\y=.ref b/\cW K H3 b (k.map kV)/\kU kvs k=none/\D.nx σ (upd H3 a (CB P w a (kvs++[(k,b,v)])))
theorem FF.snoc{kvs:List XE}{xs:List (List eZ×Addr×Value)}(h:FF kvs xs){k:List eZ}(r:RelV v u):FF (kvs++[(k,b,v)]) (xs++[(k,b,u)]):=Paired.snoc h ⟨rfl,rfl,r⟩
theorem RB{i value:Expr}{pos:Pos}{td ty tv:TE}(hu:X.A.units+1<cLine)(ho:PE X o td)(hi:PE X i ty)(hv:PE X value tv)(hs:swapsWith value (some (.Subscript o i pos')) pos.line X.env=pure false):
 PS X (.Assign [.Subscript o i pos'] value pos) (sDPX X.prog X.w X.K td ty tv):=by
 intro aI s σ H D I h;refine wpAny_Assign_Subscript (eK (hv aI s σ H _ I h) λr s1 ⟨v,H1,I1,rv,q1⟩=>eK (ho aI s1 σ H1 _ I1 q1) λu s2 ⟨x,H2,I2,rx,q2⟩=>eK (hi aI s2 σ H2 _ I2 q2) λiv s3 ⟨y,H3,I3,ry,q3⟩=>?_) hs;obtain⟨a,kvs,b,k,ex,d,ey,hk,hn,q3⟩:=q3;subst ex ey;cases rx;cases ry;obtain⟨xs,pr,dd⟩:=ZR I3 d;have hz:xs.length<=sizeLine:=by
  rw[←fQ pr,eT];have :=d.few;lia
 refine wpAny_setItem_heap (hsz:=hz) (eJ hu) (wT I3 hk) dd λh' dd' eP=>?_
 have hno:atKey xs k=none:=by
  have e:=(pr.val k).isSome_eq;rw[hn,gG]at e;cases c:atKey xs k with
  |none=>rfl
  |some _=>rw[c]at e;cases e
 rw[FK hno]at dd';obtain⟨oo,es,ep,hq,h2,h3,h4,_,h5⟩:=dd';exact⟨σ,_,wC I3 (by rw[d.is];exact True.intro) eP ⟨oo,hq⟩ (IS ⟨_,pr.snoc rv,oo,es,ep,hq,h2,h3,h4,h5⟩),q3⟩
def tLX(P:Program)(w:World)(K:W.Frag)(to:TE):TE:=λσ H Q=>to σ H λx H1=>∃a kvs,x=.ref a/\rE P w K H1 a kvs/\∀l,H1 l=none->Q (.ref l) (upd H1 l (.lst (kvs.map λx=>V.ref x.2.1)))
theorem RM{to:TE}{pos:Pos}(hg:Gl X "list")(hm:X.mg "list"=none)(hc:X.calm=true)(ho:PE X o to)
 (he:starEach [o] X.env=[(false,eval o X.env)]:=by rfl):PE X (.Call (.Name "list" p) [o] [] pos) (tLX X.prog X.w X.K to):=by
 intro aI s σ H Q I h;refine iD (wS I hg hm YO ?_ (by decide) (by decide));refine fU ?_ he (by rfl);rw[he];show wpAny _ _ (spliced [(false,_)]) _ _ s;refine gH (eK (ho aI s σ H _ I h) λv s1 ⟨x,H1,I1,r1,a,kvs,e,d,q⟩=>mQ ?_);subst e;cases r1;obtain⟨xs,pr,oo,es,ep,o1,o2,o3,o4,o5,o6⟩:=ZR I1 d;have raw:nM s1.heap a es ep:=⟨oo,o1,o2,o3⟩
 have fA:es.size=kvs.length:=by
  rw[←bP,o4,aE];exact(fQ pr).symm
 have hs:sizeLine=16777216:=eT;have hz:=d.few;refine kdl_call (PQ (d:=a) (es:=es) (ep:=ep) d.lo) (I.ok.hd hc) raw () λh' tk mD c' hk hS hacc=>?_
 have vals:cV (kvs.map λx=>V.ref x.2.1) mD.toList:=by
  have hal:mD.toList.length=es.size:=by rw[bP];exact hacc.1
  refine FW (by rw[aE,hal,fA]) λi y u hy hu=>?_
  rw[cY]at hu;obtain⟨en,e1,e2⟩:=hacc.2 i u hu;rw[←cY,o4,aQ]at e1;obtain⟨qx,q1,q2⟩:=bD.mp e1;rw[aQ]at hy;obtain⟨px,p1,p2⟩:=bD.mp hy;have :=pr.at p1 q1;rw[←e2,←q2,←p2];show Value.ref qx.2.1=Value.ref px.2.1;rw[this]
 exact⟨.ref _,_,I1.laid (a:=_) (o:=.lst (kvs.map λx=>V.ref x.2.1)) (t':=tk) hk (aJ _) ⟨by rw[aE];lia,mD.toList,c',vals,by rw[Array.toArray_toList];exact hS⟩,rfl,q _ (I1.hok.fresh (aJ _))⟩
def tDX1(P:Program)(w:World)(K:W.Frag)(tk tv:TE):TE:=λσ H Q=>∀p,H p=none->(p==sysModules)=false->tk σ (upd H p (CB P w p [])) λx H1=>tv σ H1 λy H2=>∃b k,x=.ref b/\cW K H2 b (k.map kV)/\H2 p=some (CB P w p [])/\Q (.ref p) (upd H2 p (CB P w p [(k,b,y)]))
theorem RN{ke ve:Expr}{pos:Pos}{tk tv:TE}(hu:X.A.units+1<cLine)(hk:PE X ke tk)(hv:PE X ve tv):PE X (.Dict [some ke] [ve] pos) (tDX1 X.prog X.w X.K tk tv):=by
 intro aI s σ H Q I q;have hn:=I.hok.fresh (aJ s.heap.objs.size);have hlo:(s.heap.objs.size==sysModules)=false:=dS.mpr (cM (cG I.big));have raw0:WI X.prog X.w (s.heap.push {cls:=.type "dict",data:=.dict #[]}) s.heap.objs.size []:=⟨[],.nil,_,#[],0,bQ _ rfl,⟨rfl,rfl,rfl⟩,rfl,rfl,ga⟩
 have I1:=I.laid (a:=s.heap.objs.size) (o:=CB X.prog X.w s.heap.objs.size []) (h':=s.heap.push {cls:=.type "dict",data:=.dict #[]}) (t':=s.toks) (λ_ _ q=>aS _ q) (aJ _) (IS raw0);refine wpAny_Dict_any rfl rfl (by simp) (by show 1<=15;decide) (pairTrees_cons_walk (eK (hk aI _ σ _ _ I1 (q _ hn hlo)) λu s1 ⟨x,H1,I2,rx,q1⟩=>eK (hv aI s1 σ H1 _ I2 q1) λw2 s2 ⟨y,H2,I3,ry,b,k,ex,hb,hp,q2⟩=>pairTrees_nil_walk ?_));subst ex;cases rx;have d:rE X.prog X.w X.K H2 s.heap.objs.size []:=⟨hp,by decide,hlo,λx hx=>nomatch hx⟩
 obtain⟨xs,pr,dd⟩:=ZR I3 d;cases pr;unfold storeAll;rw[List.forIn_cons];refine aG (aG (wpAny_dictSet_heap (knd:=tupleKind (yC X.prog X.w)) (show X.A.units<cLine by lia) (wT I3 hb) dd (λh' dd' eP=>aU ?_) (by rw[eT];decide)));obtain⟨oo,es,ep,hq,h2,h3,h4,_,h5⟩:=dd';show wpAny _ _ (forIn [] PUnit.unit _) _ _ _;rw[List.forIn_nil];exact aU ⟨.ref s.heap.objs.size,_,wC I3 (by rw[hp];exact True.intro) eP ⟨oo,hq⟩ (IS ⟨_,Paired.cons ⟨rfl,rfl,ry⟩ .nil,oo,es,ep,hq,h2,h3,h4,h5⟩),rfl,q2⟩
end
section
open PySem.W
theorem JZ{h:Heap}:∀(kvs:List XE)(as:List Addr),(∀(i:Nat)(x:XE),kvs[i]?=some x->∃(a:Addr)(its:List Value),as[i]?=some a/\cV [.ref x.2.1,x.2.2] its/\IsTup h a its.toArray)->
 ∃xs,FF kvs xs/\∀(i:Nat)(k:List eZ)(b:Addr)(v:Value),xs[i]?=some (k,b,v)->∃a,as[i]?=some a/\IsTup h a #[.ref b,v]/\∃x,kvs[i]?=some x/\x.1=k/\x.2.1=b
 |[],as,hk=>⟨[],.nil,λi k b v e=>by simp at e⟩
 |x::kvs,as,hk=>by
  obtain⟨a0,its,h1,h2,h3⟩:=hk 0 x rfl;cases as with
  |nil=>cases h1
  |cons a as=>
  cases h1;obtain⟨xs,g1,g2⟩:=JZ kvs as λi y e=>hk (i+1) y e
  obtain⟨u1,u2,rfl,r1,r2⟩:=vals2 h2;cases r1;refine⟨(x.1,x.2.1,u2)::xs,.cons ⟨rfl,rfl,r2⟩ g1,λi k' b' v' e=>?_⟩;cases i with
  |zero=>cases e;exact⟨a0,rfl,h3,x,rfl,rfl,rfl⟩
  |succ i=>exact g2 i k' b' v' e
theorem BN(hu:X.A.units+2<cLine):uA X (.type "dict") (λxs H Q=>n6 X.calm (pI xs λx=>mI x λp=>∃as:List Addr,dF X.K H p (as.map V.ref)/\∃kvs:List XE,as.length=kvs.length/\(kvs.map (·.1)).Nodup/\
 (∀(i:Nat)(x:XE),kvs[i]?=some x->∃a,as[i]?=some a/\cW X.K H a [.ref x.2.1,x.2.2]/\cW X.K H x.2.1 (x.1.map kV))/\∀l,H l=none->(l==sysModules)=false->Q (.ref l) (upd H l (CB X.prog X.w l kvs)))):=by
 intro aI s σ H xs us Q I r h;replace h:=VT h;obtain⟨hc,h⟩:=h;replace h:=ZY h;obtain⟨x0,rfl,h⟩:=h;replace h:=xS h;obtain⟨p,rfl,as,hp,kvs,fA,hn,hk,q⟩:=h;obtain⟨u,rfl,ru⟩:=vA r;cases ru;obtain⟨its,rv,hl,hz⟩:=I.list hp;have hil:=rv.length;rw[aE]at hil hz;obtain⟨vs,g1,g2⟩:=JZ (h:=s.heap) kvs as λi x e=>by
  obtain⟨a,e1,e2,e3⟩:=hk i x e;obtain⟨its,r2,t2,_⟩:=I.tuple e2;exact⟨a,its,e1,r2,t2⟩
 have hvl:kvs.length=vs.length:=fQ g1;have hks:vs.map (·.1)=kvs.map (·.1):=by
  clear hn g2 hvl hk fA q
  induction g1 with
  |nil=>rfl
  |cons h _ ih=>rw[cD,cD,ih,h.1]
 refine ZH (knd:=tupleKind (yC X.prog X.w)) (xs:=vs) (show X.A.in1.in1.units<cLine from ?_) (I.ok.hd hc) hl ao (by rw[hks];exact hn) () (by rw[aL];lia) (λi k b v e=>?_) λh' t' hk' hd'=>?_
 ·exact hu
 ·obtain⟨a,e1,e2,x,e3,rfl,rfl⟩:=g2 i k b v e;obtain⟨u,h1,h2⟩:=rv.get (i:=i) (x:=V.ref a) (by rw[aQ,e1];rfl);cases h2;obtain⟨_,_,_,e6⟩:=hk i x e3;exact⟨a,by simpa using h1,e2,wT I e6⟩
 ·obtain⟨o,es,ep,d1,d2,d3,d4,d5⟩:=hd';have hfr:=I.hok.fresh (aJ s.heap.objs.size);exact⟨.ref s.heap.objs.size,_,I.laid (a:=s.heap.objs.size) (o:=CB X.prog X.w s.heap.objs.size kvs) (t':=t') hk' (aJ _) (IS ⟨vs,g1,o,es,ep,d1,d2,d3,d4,d5⟩),rfl,q _ hfr (dS.mpr (cM (cG I.big)))⟩
def OE(P:Program)(w:World)(K:W.Frag)(td ty:TE):TE:=λσ H Q=>td σ H λx H1=>∃a kvs0,x=.ref a/\rE P w K H1 a kvs0/\ty σ H1 λy H2=>∃kvs b k,rE P w K H2 a kvs/\y=.ref b/\cW K H2 b (k.map kV)/\Q ((kU kvs k).getD .non) H2
theorem cq{gP:Pos}{td ty:TE}(hu:X.A.units+1<cLine)(ho:PE X o td)(he:PE X e ty)(m:M1 X o "get" iU e gP):PE X (.Call (.Attribute o "get" iU) [e] [] gP) (OE X.prog X.w X.K td ty):=by
 intro aI s σ H Q I h;refine f7 m.base m.few m.line pC hZ F.type_dict_get (eK (ho aI s σ H _ I h) λu s1 ⟨x,H1,I1,rx,q1⟩=>?_);obtain⟨a,kvs0,ex,d0,q1⟩:=q1;subst ex;obtain rfl:u=Value.ref a:=rx;obtain⟨xs0,pr0,dd0⟩:=ZR I1 d0;refine⟨dd0.typeIs,(λoo ho=>by cases ho;obtain⟨o',_,_,h1,h2,h3,_⟩:=dd0;exact⟨o',h1,h2.2.1⟩),?_⟩;rw[m.trees];refine iE rfl (nZ (gH (eK (he aI s1 σ H1 _ I1 q1) λiv s2 ⟨y,H2,I2,ry,q2⟩=>mQ ?_)));obtain⟨kvs,b,k,d,ey,hk,q2⟩:=q2;subst ey;cases (show iv=Value.ref b from ry);obtain⟨xs,pr,dd⟩:=ZR I2 d;exact rT hZ dd.typeIs pK (F.args_dict_get_2 _ _) (meetsH_dict_get (tupleKind (yC X.prog X.w)) a b d.lo) ⟨eJ hu,k,_,wT I2 hk,dd,⟨(kU kvs k).getD .non,H2,I2.tok _,(pr.val k).getD (d:=.non) rfl,q2⟩⟩
set_option autoImplicit false
end
abbrev SM:=StateT SortSt Sem
def fh(l:Bool)(key:Keyed)(arr:Array Keyed)(base i:Nat):SM (Option Bool):=
 elem' arr (base+i) >>= λx=>if l=true then lt' x key else lt' key x >>= λo=>pure (Option.map (λx=>!x) o)
def TX(be:Nat->SM (Option Bool))(n lo hi:Nat):SM (Option Nat):=
 (forIn [:n] ((none,lo,hi):Option (Option Nat)×Nat×Nat) λ_ c=>
   if c.2.1≥c.2.2 then pure (ForInStep.done (none,c.2.1,c.2.2))
   else be (c.2.1+(c.2.2-c.2.1)/2) >>= λo=>match o with
    |some b=>if b=true then pure (ForInStep.yield (none,c.2.1+(c.2.2-c.2.1)/2+1,c.2.2))else pure (ForInStep.yield (none,c.2.1,c.2.1+(c.2.2-c.2.1)/2))
    |_=>pure (ForInStep.done (some none,c.2.1,c.2.2))) >>= λc=>match c.1 with
  |some r=>pure r
  |none=>pure (some c.2.2)
def BC(be:Nat->SM (Option Bool))(n mx:Nat)(f:Bool->Bool)(g:Nat->Nat):SM (Option (Option Nat)×Nat×Nat):=
 forIn [:n] ((none,0,1):Option (Option Nat)×Nat×Nat) λ_ c=>
  if c.2.2≥mx then pure (ForInStep.done (none,c.2.1,c.2.2))
  else be (g c.2.2) >>= λo=>match o with
   |some b=>if f b=true then pure (ForInStep.done (none,c.2.1,c.2.2))else pure (ForInStep.yield (none,c.2.2,2*c.2.2+1))
   |_=>pure (ForInStep.done (some none,c.2.1,c.2.2))
def qB:Bool->Keyed->Array Keyed->Nat->Nat->Nat->SM (Option Nat):=sortPriv% PySem.Builtin.gallop
theorem EO(l:Bool)(key:Keyed)(arr:Array Keyed)(base n hint:Nat):qB l key arr base n hint=
 (fh l key arr base hint >>= λo=>match o with
  |some right=>if right=true then BC (fh l key arr base) n (n-hint) (λb=>!b) (λo=>hint+o) >>= λc=>(match c.1 with
   |some r=>pure r
   |none=>TX (fh l key arr base) n (hint+c.2.1+1) (hint+min c.2.2 (n-hint)))
   else BC (fh l key arr base) n (hint+1) (λb=>b) (λo=>hint-o) >>= λc=>(match c.1 with
    |some r=>pure r
    |none=>TX (fh l key arr base) n (hint+1-min c.2.2 (hint+1)) (hint-c.2.1))
  |_=>pure none):=by
 unfold BC TX fh;show(_ >>= _:SM _)=_
 congr 1
 funext o
 cases o with
 |none=>rfl
 |some right=>
  cases right
  ·show(_ >>= _:SM _)=_;simp only[bU,dO]
   congr 1
   funext c
   obtain⟨r,u,v⟩:=c;cases r
   ·show(_ >>= _:SM _)=_
    congr 1
    funext c
    obtain⟨r,u,v⟩:=c;cases r<;>rfl
   ·rfl
  ·show(_ >>= _:SM _)=_;simp only[if_true]
   congr 1
   funext c
   obtain⟨r,u,v⟩:=c;cases r
   ·show(_ >>= _:SM _)=_
    congr 1
    funext c
    obtain⟨r,u,v⟩:=c;cases r<;>rfl
   ·rfl
section
variable {be:Nat->SM (Option Bool)} {P:Nat->Bool}
theorem IH{lo hi:Nat}{Q:Option Nat->SortSt->Prop}(hbe:∀i,i<n->∀Q:Option Bool->SortSt->Prop,Q (some (P i)) st->wpS M A E s (be i) Q st)
 (hm:∀i j,i<=j->j<n->P j=true->P i=true) (h1:lo<=hi) (h2:hi<=n) (hlo:∀i,i<lo->P i=true) (hhi:∀i,hi<=i->i<n->P i=false)
 (h:∀r,r<=n->(∀i,i<r->P i=true)->(∀i,r<=i->i<n->P i=false)->Q (some r) st):wpS M A E s (TX be n lo hi) Q st:=by
 unfold TX;refine bC (fT (eL
  (I:=λx c cL=>cL=st/\∃l r,c=(none,l,r)/\l<=r/\r<=n/\r-l<=n-x/\(∀i,i<l->P i=true)/\(∀i,r<=i->i<n->P i=false))
  (Q:=λc cL=>cL=st/\∃l r,c=(none,l,r)/\r<=n/\(∀i,i<r->P i=true)/\(∀i,r<=i->i<n->P i=false)) ?step ?fin ?init) ?post)
 case init=>exact⟨rfl,lo,hi,rfl,h1,h2,(),hlo,hhi⟩
 case fin=>
  rintro c cL ⟨rfl,l,r,rfl,a1,a2,a3,a4,a5⟩;have :l=r:=by lia
  subst this;exact⟨rfl,l,l,rfl,a2,a4,a5⟩
 case post=>
  rintro c cL ⟨rfl,l,r,rfl,a2,a4,a5⟩;exact bK (h r a2 a4 a5)
 case step=>
  rintro x c cL _ hx ⟨rfl,l,r,rfl,a1,a2,a3,a4,a5⟩;dsimp only;by_cases hge:l≥r
  ·rw[aH hge];have :l=r:=by lia
   subst this;exact bK ⟨rfl,l,l,rfl,a2,a4,a5⟩
  ·rw[aF hge];refine bC (hbe _ () _ ?_);cases hp:P (l+(r-l)/2)
   ·simp only[bU,dO];refine bK ⟨rfl,_,_,rfl,(),(),(),a4,λi b1 b2=>?_⟩;cases hi:P i
    ·rfl
    ·rw[hm _ _ b1 b2 hi]at hp;exact absurd hp (by simp)
   ·simp only[if_true];refine bK ⟨rfl,_,_,rfl,(),(),(),λi b1=>hm i _ () () hp,a5⟩
theorem II{l:Bool}{key:Keyed}{base hint:Nat}{Q:Option Nat->SortSt->Prop}(hbe:∀i,i<n->∀Q:Option Bool->SortSt->Prop,Q (some (P i)) st->wpS M A E s (fh l key arr base i) Q st)
 (hm:∀i j,i<=j->j<n->P j=true->P i=true) (hh:hint<n)
 (h:∀r,r<=n->(∀i,i<r->P i=true)->(∀i,r<=i->i<n->P i=false)->Q (some r) st):wpS M A E s (qB l key arr base n hint) Q st:=by
 rw[EO];refine bC (hbe hint hh _ ?_);dsimp only;have hf:∀i j,i<=j->j<n->P i=false->P j=false:=by
  intro i j a b c;cases hj:P j
  ·rfl
  ·rw[hm i j a b hj]at c;exact absurd c (by simp)
 cases hp:P hint
 ·simp only[bU,dO];unfold BC;refine bC (fT (eL
   (I:=λx c cL=>cL=st/\∃u v,c=(none,u,v)/\u<v/\x+1<=v/\u<=hint/\P (hint-u)=false)
   (Q:=λc cL=>cL=st/\∃u v,c=(none,u,v)/\u<v/\u<=hint/\P (hint-u)=false/\(v≥hint+1\/v<=hint/\P (hint-v)=true)) ?step ?fin ?init) ?post)
  case init=>exact⟨rfl,0,1,rfl,(),(),(),hp⟩
  case fin=>
   rintro c cL ⟨rfl,u,v,rfl,a1,a2,a3,a4⟩;exact⟨rfl,u,v,rfl,a1,a3,a4,.inl ()⟩
  case step=>
   rintro x c cL _ hx ⟨rfl,u,v,rfl,a1,a2,a3,a4⟩;dsimp only;by_cases hge:v≥hint+1
   ·rw[aH hge];exact bK ⟨rfl,u,v,rfl,a1,a3,a4,.inl hge⟩
   ·rw[aF hge];refine bC (hbe _ () _ ?_);cases hv:P (hint-v)
    ·simp only[bU,dO];exact bK ⟨rfl,_,_,rfl,(),(),(),hv⟩
    ·simp only[if_true];exact bK ⟨rfl,u,v,rfl,a1,a3,a4,.inr ⟨(),hv⟩⟩
  case post=>
   rintro c cL ⟨rfl,u,v,rfl,a1,a3,a4,a5⟩;dsimp only;refine IH hbe hm () () (λi hi=>?_) (λi h1 h2=>hf _ _ h1 h2 a4) h;rcases a5 with a5 |⟨a5,a6⟩
   ·lia
   ·exact hm i _ () () a6
 ·simp only[if_true];unfold BC;refine bC (fT (eL
   (I:=λx c cL=>cL=st/\∃u v,c=(none,u,v)/\u<v/\x+1<=v/\hint+u<n/\P (hint+u)=true)
   (Q:=λc cL=>cL=st/\∃u v,c=(none,u,v)/\u<v/\hint+u<n/\P (hint+u)=true/\(v≥n-hint\/hint+v<n/\P (hint+v)=false)) ?step ?fin ?init) ?post)
  case init=>exact⟨rfl,0,1,rfl,(),(),(),hp⟩
  case fin=>
   rintro c cL ⟨rfl,u,v,rfl,a1,a2,a3,a4⟩;exact⟨rfl,u,v,rfl,a1,a3,a4,.inl ()⟩
  case step=>
   rintro x c cL _ hx ⟨rfl,u,v,rfl,a1,a2,a3,a4⟩;dsimp only;by_cases hge:v≥n-hint
   ·rw[aH hge];exact bK ⟨rfl,u,v,rfl,a1,a3,a4,.inl hge⟩
   ·rw[aF hge];refine bC (hbe _ () _ ?_);cases hv:P (hint+v)
    ·simp only[aK,if_true];exact bK ⟨rfl,u,v,rfl,a1,a3,a4,.inr ⟨(),hv⟩⟩
    ·simp only[aM,bU,dO];exact bK ⟨rfl,_,_,rfl,(),(),(),hv⟩
  case post=>
   rintro c cL ⟨rfl,u,v,rfl,a1,a3,a4,a5⟩;dsimp only;refine IH hbe hm () () (λi hi=>hm i _ () a3 a4) (λi h1 h2=>?_) h;rcases a5 with a5 |⟨a5,a6⟩
   ·lia
   ·exact hf _ _ () h2 a6
end
structure iS(M:Model)(A:Around)(E:Value->Shared->Prop)(s:Shared)(kd:SortKind)(S:Keyed->Prop)(κ:Keyed->Int):Prop where
 lt:∀{x y:Keyed}{st:SortSt}{Q:Option Bool->SortSt->Prop},S x->S y->kindOf st=kd->Q (some (decide (κ x<κ y))) st->wpS M A E s (lt' x y) Q st
def eD(κ:Keyed->Int)(xs:Array Keyed)(i:Nat):Int:=match xs[i]? with
 |some p=>κ p
 |none=>0
theorem yQ{xs:Array Keyed}{p:Keyed}(h:xs[i]?=some p):eD κ xs i=κ p:=by unfold eD;rw[h]
theorem qV{xs ys:Array Keyed}(h:xs[i]?=ys[j]?):eD κ xs i=eD κ ys j:=by unfold eD;rw[h]
def jH(κ:Keyed->Int)(xs:Array Keyed)(i j:Nat):Prop:=∀p q,i<=p->p<=q->q<j->eD κ xs p<=eD κ xs q
theorem yN{p:Keyed}{Q:Keyed->SortSt->Prop}(hp:arr[i]?=some p)(h:Q p st):wpS M A E s (elem' arr i) Q st:=by
 rw[elem'_eq,hp];exact bK h
theorem jM(h:i<arr.size):∃p,arr[i]?=some p/\p∈arr.toList:=⟨arr[i],getElem?_pos _ i h,by simp⟩
theorem UT{key:Keyed}{base hint:Nat}{Q:Option Nat->SortSt->Prop}(C:iS M A E s kd S κ)(hk:kindOf st=kd)(hS:∀p,p∈arr.toList->S p)(hK:S key)
 (hb:base+n<=arr.size) (hs:jH κ arr base (base+n)) (hh:hint<n)
 (h:∀r,r<=n->(∀i,i<r->eD κ arr (base+i)<=κ key)->(∀i,r<=i->i<n->κ key<eD κ arr (base+i))->Q (some r) st):wpS M A E s (qB false key arr base n hint) Q st:=by
 refine II (P:=λi=>!decide (κ key<eD κ arr (base+i))) (λi hi Q hQ=>?_) (λi j hij hj=>?_) hh λr h1 h2 h3=>h r h1 (λi hi=>?_) λi ha hb=>?_
 ·obtain⟨p,e,hm⟩:=jM (arr:=arr) (i:=base+i) ();unfold fh;refine bC (yN e ?_);simp only[bU,dO];refine bC (C.lt hK (hS p hm) hk ?_);rw[←yQ (κ:=κ) e];exact bK hQ
 ·have :=hs (base+i) (base+j) () () ();simp only[FS,decide_eq_false_iff_not];lia
 ·have :=h2 i hi;simp only[FS,decide_eq_false_iff_not]at this;lia
 ·simpa using h3 i ha hb
theorem UU{key:Keyed}{base hint:Nat}{Q:Option Nat->SortSt->Prop}(C:iS M A E s kd S κ)(hk:kindOf st=kd)(hS:∀p,p∈arr.toList->S p)(hK:S key)
 (hb:base+n<=arr.size) (hs:jH κ arr base (base+n)) (hh:hint<n)
 (h:∀r,r<=n->(∀i,i<r->eD κ arr (base+i)<κ key)->(∀i,r<=i->i<n->κ key<=eD κ arr (base+i))->Q (some r) st):wpS M A E s (qB true key arr base n hint) Q st:=by
 refine II (P:=λi=>decide (eD κ arr (base+i)<κ key)) (λi hi Q hQ=>?_) (λi j hij hj=>?_) hh λr h1 h2 h3=>h r h1 (λi hi=>?_) λi ha hb=>?_
 ·obtain⟨p,e,hm⟩:=jM (arr:=arr) (i:=base+i) ();unfold fh;refine bC (yN e ?_);simp only[if_true];refine C.lt (hS p hm) hK hk ?_;rw[←yQ (κ:=κ) e];exact hQ
 ·have :=hs (base+i) (base+j) () () ();simp only[cE];lia
 ·simpa using h2 i hi
 ·have :=h3 i ha hb;simp only[decide_eq_false_iff_not]at this;lia
structure oQ(κ:Keyed->Int)(la lb ol:List Keyed)(ia ib:Nat):Prop where
 perm:ol.Perm (la.take ia++lb.take ib)
 srt:ol.Pairwise λx y=>κ x<=κ y
 la:∀x∈ol,∀y∈la.drop ia,κ x<=κ y
 lb:∀x∈ol,∀y∈lb.drop ib,κ x<=κ y
section
variable {la lb ol:List Keyed}
theorem oQ.swap(h:oQ κ la lb ol ia ib):oQ κ lb la ol ib ia:=⟨h.perm.trans pW,h.srt,h.lb,h.la⟩
theorem oQ.addA(h:oQ κ la lb ol ia ib)(k:Nat)(hs:la.Pairwise λx y=>κ x<=κ y)(hb:∀x∈(la.drop ia).take k,∀y∈lb.drop ib,κ x<=κ y):oQ κ la lb (ol++(la.drop ia).take k) (ia+k) ib:=by
 have hd:la.drop ia=(la.drop ia).take k++la.drop (ia+k):=by rw[←rL];exact(dW _ _).symm
 have hp:(la.drop ia).Pairwise λx y=>κ x<=κ y:=hs.sublist (List.drop_sublist _ _)
 rw[hd,List.pairwise_append]at hp;refine⟨?_,?_,?_,?_⟩
 ·rw[List.take_add];refine(h.perm.append_right _).trans ?_;rw[cF,cF];exact List.Perm.append_left _ pW
 ·rw[List.pairwise_append];exact⟨h.srt,hp.1,λx hx y hy=>h.la x hx y (cQ hy)⟩
 ·intro x hx y hy;rcases bX.mp hx with hx |hx
  ·exact h.la x hx y (by rw[hd];exact bE _ hy)
  ·exact hp.2.2 x hx y hy
 ·intro x hx y hy;rcases bX.mp hx with hx |hx
  ·exact h.lb x hx y hy
  ·exact hb x hx y hy
theorem oQ.addB(h:oQ κ la lb ol ia ib)(k:Nat)(hs:lb.Pairwise λx y=>κ x<=κ y)(hb:∀x∈(lb.drop ib).take k,∀y∈la.drop ia,κ x<=κ y):oQ κ la lb (ol++(lb.drop ib).take k) ia (ib+k):=(h.swap.addA k hs hb).swap
theorem oQ.nil:oQ κ la lb [] 0 0:=⟨by simp,.nil,by simp,by simp⟩
def Mgd(κ:Keyed->Int)(la lb ol:List Keyed):Prop:=ol.Perm (la++lb)/\ol.Pairwise λx y=>κ x<=κ y
theorem oQ.fin(h:oQ κ la lb ol ia ib)(h1:la.length<=ia)(h2:lb.length<=ib):Mgd κ la lb ol:=by
 refine⟨?_,h.srt⟩;have :=h.perm;rwa[aR h1,aR h2]at this
theorem oQ.endA(h:oQ κ la lb ol ia ib)(hs:la.Pairwise λx y=>κ x<=κ y)(h2:lb.length<=ib):Mgd κ la lb (ol++la.drop ia):=by
 have :=h.addA la.length hs (by rw[pP h2];simp);rw[aR (by simp)]at this;exact this.fin () h2
theorem oQ.endB(h:oQ κ la lb ol ia ib)(hs:lb.Pairwise λx y=>κ x<=κ y)(h1:la.length<=ia):Mgd κ la lb (ol++lb.drop ib):=by
 have :=h.swap.endA hs h1;exact⟨this.1.trans pW,this.2⟩
theorem wA{l:List Keyed}{k:Nat}{y:Keyed}(h:y∈(l.drop i).take k):∃j,i<=j/\j<i+k/\j<l.length/\l[j]?=some y:=by
 obtain⟨j,hj,e⟩:=List.mem_iff_getElem.mp h;rw[bH,fW]at hj;refine⟨i+j,(),(),(),?_⟩;rw[oH,List.getElem_drop]at e;rw[←e];exact aA ()
theorem EE{l:List Keyed}{y:Keyed}(h:y∈l.drop i):∃j,i<=j/\j<l.length/\l[j]?=some y:=by
 obtain⟨j,hj,e⟩:=List.mem_iff_getElem.mp h;rw[fW]at hj;refine⟨i+j,(),(),?_⟩;rw[List.getElem_drop]at e;rw[←e];exact aA ()
theorem vR{a:Array Keyed}{y:Keyed}(h:a.toList[j]?=some y):κ y=eD κ a j:=(yQ (by rw[←cY];exact h)).symm
theorem uI{a:Array Keyed}(h:jH κ a 0 a.size):a.toList.Pairwise λx y=>κ x<=κ y:=by
 rw[cS];intro i j hi hj hij;have :=h i j () () (by simpa using hj);rwa[←vR (aA hi),←vR (aA hj)]at this
end
def OT:Nat->SM Unit:=sortPriv% PySem.Builtin.setMinGallop
abbrev UD(st:SortSt)(g:Nat):SortSt:=SortSt.mk' (kindOf st) (arrOf st) (pendingOf st) g (failedOf st)
theorem YD(g:Nat):OT g=modify λs=>UD s g:=rfl
structure hW(st cL:SortSt):Prop where
 kind:kindOf cL=kindOf st
 arr:arrOf cL=arrOf st
 pend:pendingOf cL=pendingOf st
 fail:failedOf cL=failedOf st
theorem hW.rfl':hW st st:=⟨rfl,rfl,rfl,rfl⟩
theorem hW.gal{cL:SortSt}(h:hW st cL)(g:Nat):hW st (UD cL g):=⟨h.kind,h.arr,h.pend,h.fail⟩
def WS(a b out:Array Keyed)(ia ib:Nat):Array Keyed:=out++a.extract ia a.size++b.extract ib b.size
def lsL(a b out:Array Keyed)(ia ib:Nat):Array Keyed:=out++b.extract ib b.size++a.extract ia a.size
abbrev LoA:=Option (Array Keyed)×Array Keyed×Nat×Nat×Nat×Nat
abbrev og:=Option (Array Keyed)×Array Keyed×Nat×Nat×Nat×Nat×Nat
abbrev LoC:=Option (Array Keyed)×Array Keyed×Nat×Nat×Nat
def lo1(a b:Array Keyed)(mg:Nat)(c:LoA):SM (ForInStep LoA):=
 elem' b c.2.2.2.1 >>= λy=>elem' a c.2.2.1 >>= λx=>lt' y x >>= λo=>match o with
  |some w=>if w=true then elem' b c.2.2.2.1 >>= λz=>
   if(c.2.2.2.1+1==b.size)=true then pure (ForInStep.done (some (WS a b (c.2.1.push z) c.2.2.1 (c.2.2.2.1+1)),c.2.1.push z,c.2.2.1,c.2.2.2.1+1,0,c.2.2.2.2.2+1))
   else if c.2.2.2.2.2+1≥mg then pure (ForInStep.done (none,c.2.1.push z,c.2.2.1,c.2.2.2.1+1,0,c.2.2.2.2.2+1))
   else pure (ForInStep.yield (none,c.2.1.push z,c.2.2.1,c.2.2.2.1+1,0,c.2.2.2.2.2+1))
   else elem' a c.2.2.1 >>= λz=>
    if(c.2.2.1+1+1==a.size)=true then pure (ForInStep.done (some (lsL a b (c.2.1.push z) (c.2.2.1+1) c.2.2.2.1),c.2.1.push z,c.2.2.1+1,c.2.2.2.1,c.2.2.2.2.1+1,0))
    else if c.2.2.2.2.1+1≥mg then pure (ForInStep.done (none,c.2.1.push z,c.2.2.1+1,c.2.2.2.1,c.2.2.2.2.1+1,0))
    else pure (ForInStep.yield (none,c.2.1.push z,c.2.2.1+1,c.2.2.2.1,c.2.2.2.2.1+1,0))
  |_=>pure (ForInStep.done (some (WS a b c.2.1 c.2.2.1 c.2.2.2.1),c.2.1,c.2.2.1,c.2.2.2.1,c.2.2.2.2.1,c.2.2.2.2.2))
def dw(a b:Array Keyed)(mg:Nat)(out:Array Keyed)(ia ib ac bc:Nat):SM (ForInStep og):=
 elem' a ia >>= λz=>if(ia+1+1==a.size)=true then pure (ForInStep.done (some (lsL a b (out.push z) (ia+1) ib),out.push z,ia+1,ib,mg,ac,bc))
  else if(decide (ac<7)&&decide (bc<7))=true then pure (ForInStep.done (none,out.push z,ia+1,ib,mg,ac,bc))
  else pure (ForInStep.yield (none,out.push z,ia+1,ib,mg,ac,bc))
def dy(a b:Array Keyed)(mg:Nat)(out:Array Keyed)(ia ib ac bc:Nat):SM (ForInStep og):=
 elem' b ib >>= λz=>if(ib+1==b.size)=true then pure (ForInStep.done (some (WS a b (out.push z) ia (ib+1)),out.push z,ia,ib+1,mg,ac,bc))
  else elem' a ia >>= λx=>qB true x b (ib+1) (b.size-(ib+1)) 0 >>= λo=>match o with
   |some k=>if k>0 then(if(ib+1+k==b.size)=true then pure (ForInStep.done (some (WS a b (out.push z++b.extract (ib+1) (ib+1+k)) ia (ib+1+k)),out.push z++b.extract (ib+1) (ib+1+k),ia,ib+1+k,mg,ac,k))
    else dw a b mg (out.push z++b.extract (ib+1) (ib+1+k)) ia (ib+1+k) ac k)
    else dw a b mg (out.push z) ia (ib+1) ac k
   |_=>pure (ForInStep.done (some (WS a b (out.push z) ia (ib+1)),out.push z,ia,ib+1,mg,ac,bc))
def dz(a b:Array Keyed)(mg:Nat)(out:Array Keyed)(ia ib ac bc:Nat):SM (ForInStep og):=
 OT mg >>= λ_=>elem' b ib >>= λy=>qB false y a ia (a.size-ia) 0 >>= λo=>match o with
  |some k=>if k>0 then(if(ia+k+1==a.size)=true then pure (ForInStep.done (some (lsL a b (out++a.extract ia (ia+k)) (ia+k) ib),out++a.extract ia (ia+k),ia+k,ib,mg,k,bc))
   else if(ia+k==a.size)=true then pure (ForInStep.done (some (WS a b (out++a.extract ia (ia+k)) (ia+k) ib),out++a.extract ia (ia+k),ia+k,ib,mg,k,bc))
   else dy a b mg (out++a.extract ia (ia+k)) (ia+k) ib k bc)
   else dy a b mg out ia ib k bc
  |_=>pure (ForInStep.done (some (WS a b out ia ib),out,ia,ib,mg,ac,bc))
def lo2(a b:Array Keyed)(c:og):SM (ForInStep og):=
 if c.2.2.2.2.1>1 then dz a b (c.2.2.2.2.1-1) c.2.1 c.2.2.1 c.2.2.2.1 c.2.2.2.2.2.1 c.2.2.2.2.2.2 else dz a b c.2.2.2.2.1 c.2.1 c.2.2.1 c.2.2.2.1 c.2.2.2.2.2.1 c.2.2.2.2.2.2
def lo3(a b:Array Keyed)(c:LoC):SM (ForInStep LoC):=
 (forIn [:a.size+b.size] ((none,c.2.1,c.2.2.1,c.2.2.2.1,0,0):LoA) λ_ d=>lo1 a b c.2.2.2.2 d) >>= λd=>match d.1 with
  |some r=>pure (ForInStep.done (some r,d.2.1,d.2.2.1,d.2.2.2.1,c.2.2.2.2))
  |none=>liftM (rule "list.sort.gallop") >>= λ_=>(forIn [:a.size+b.size] ((none,d.2.1,d.2.2.1,d.2.2.2.1,c.2.2.2.2+1,d.2.2.2.2.1,d.2.2.2.2.2):og) λ_ e=>lo2 a b e) >>= λe=>match e.1 with
   |some r=>pure (ForInStep.done (some r,e.2.1,e.2.2.1,e.2.2.2.1,e.2.2.2.2.1))
   |none=>OT (e.2.2.2.2.1+1) >>= λ_=>pure (ForInStep.yield (none,e.2.1,e.2.2.1,e.2.2.2.1,e.2.2.2.2.1+1))
def XR:Array Keyed->Array Keyed->SM (Array Keyed):=sortPriv% PySem.Builtin.mergeLo
theorem AU(a b:Array Keyed):XR a b=(liftM (rule "list.sort.merge-lo") >>= λ_=>elem' b 0 >>= λz=>
 if(1==b.size)=true then pure (WS a b #[z] 0 1)else if(0+1==a.size)=true then pure (lsL a b #[z] 0 1)
 else get >>= λst=>(forIn [:a.size+b.size] ((none,#[z],0,1,gallopOf st):LoC) λ_ c=>lo3 a b c) >>= λc=>match c.1 with
  |some r=>pure r
  |none=>liftM (unsupported "internal:list.sort.merge-bound")):=by
 show(_ >>= _:SM _)=_
 congr 1;funext u
 show(_ >>= _:SM _)=_
 congr 1;funext z
 by_cases h:(1==b.size)=true
 ·exact(aH h).trans (aH h).symm
 ·refine(aF h).trans (Eq.trans ?_ (aF h).symm);by_cases h2:(0+1==a.size)=true
  ·exact(aH h2).trans (aH h2).symm
  ·refine(aF h2).trans (Eq.trans ?_ (aF h2).symm);show(_ >>= _:SM _)=_
   congr 1;funext st
   show(_ >>= _:SM _)=_
   congr 1
   ·congr 1;funext x c
    delta lo3
    show(_ >>= _:SM _)=_
    congr 1;funext d
    obtain⟨r,d⟩:=d;cases r
    ·show(_ >>= _:SM _)=_
     congr 1;funext v
     show(_ >>= _:SM _)=_
     congr 1;funext d
     obtain⟨r,d⟩:=d;cases r<;>rfl
    ·rfl
   ·funext c
    obtain⟨r,d⟩:=c;cases r<;>rfl
structure oZ(S:Keyed->Prop)(κ:Keyed->Int)(a b:Array Keyed):Prop where
 sa:jH κ a 0 a.size
 sb:jH κ b 0 b.size
 ma:∀p,p∈a.toList->S p
 mb:∀p,p∈b.toList->S p
 na:1<=a.size
 nb:1<=b.size
 b0:∀i,i<a.size->eD κ b 0<eD κ a i
 al:∀j,j<b.size->eD κ b j<eD κ a (a.size-1)
section
variable {a b out:Array Keyed}
abbrev nO(κ:Keyed->Int)(a b out:Array Keyed)(ia ib:Nat):Prop:=oQ κ a.toList b.toList out.toList ia ib
abbrev rZ(κ:Keyed->Int)(a b out:Array Keyed):Prop:=Mgd κ a.toList b.toList out.toList
theorem IP(a:Array Keyed)(i k:Nat):(a.extract i (i+k)).toList=(a.toList.drop i).take k:=by
 rw[eX,dN,pF]
theorem IR(a:Array Keyed)(i:Nat):(a.extract i a.size).toList=a.toList.drop i:=by
 rw[eX,dN,aR (by simp)]
theorem RW{l:List Keyed}(h:l[i]?=some z):[z]=(l.drop i).take 1:=by
 obtain⟨hi,e⟩:=aD.mp h;rw[fF hi,e];rfl
theorem nO.appA(H:oZ S κ a b)(h:nO κ a b out ia ib){k:Nat}(hq:∀i,ia<=i->i<ia+k->∀j,ib<=j->j<b.size->eD κ a i<=eD κ b j):nO κ a b (out++a.extract ia (ia+k)) (ia+k) ib:=by
 have :=oQ.addA h k (uI H.sa) λx hx y hy=>by
  obtain⟨i,h1,h2,h3,h4⟩:=wA hx;obtain⟨j,g1,g2,g3⟩:=EE hy;rw[vR (κ:=κ) h4,vR (κ:=κ) g3];exact hq i h1 h2 j g1 (by simpa using g2)
 rw[nO,cI,IP];exact this
theorem nO.appB(H:oZ S κ a b)(h:nO κ a b out ia ib){k:Nat}(hq:∀j,ib<=j->j<ib+k->∀i,ia<=i->i<a.size->eD κ b j<=eD κ a i):nO κ a b (out++b.extract ib (ib+k)) ia (ib+k):=by
 have :=oQ.addB h k (uI H.sb) λx hx y hy=>by
  obtain⟨i,h1,h2,h3,h4⟩:=wA hx;obtain⟨j,g1,g2,g3⟩:=EE hy;rw[vR (κ:=κ) h4,vR (κ:=κ) g3];exact hq i h1 h2 j g1 (by simpa using g2)
 rw[nO,cI,IP];exact this
theorem UI(o:Array Keyed)(z:Keyed):(o.push z).toList=o.toList++[z]:=by simp
theorem nO.pushA(H:oZ S κ a b)(h:nO κ a b out ia ib)(hz:a[ia]?=some z)(hq:∀j,ib<=j->j<b.size->κ z<=eD κ b j):nO κ a b (out.push z) (ia+1) ib:=by
 have hz':a.toList[ia]?=some z:=by rw[cY];exact hz
 have :=h.appA H (k:=1) λi h1 h2 j g1 g2=>by
  have :i=ia:=by lia
  subst this;rw[yQ hz];exact hq j g1 g2
 rw[nO,cI,IP,←RW hz']at this;rw[nO,UI];exact this
theorem nO.pushB(H:oZ S κ a b)(h:nO κ a b out ia ib)(hz:b[ib]?=some z)(hq:∀i,ia<=i->i<a.size->κ z<=eD κ a i):nO κ a b (out.push z) ia (ib+1):=by
 have hz':b.toList[ib]?=some z:=by rw[cY];exact hz
 have :=h.appB H (k:=1) λi h1 h2 j g1 g2=>by
  have :i=ib:=by lia
  subst this;rw[yQ hz];exact hq j g1 g2
 rw[nO,cI,IP,←RW hz']at this;rw[nO,UI];exact this
theorem nO.dn(H:oZ S κ a b)(h:nO κ a b out ia ib)(hb:ib=b.size):rZ κ a b (WS a b out ia ib):=by
 have :=oQ.endA h (uI H.sa) (by simp;lia);rw[rZ,WS,cI,cI,IR,IR,pP (as:=b.toList) (by simp;lia),cU];exact this
theorem nO.ls(H:oZ S κ a b)(h:nO κ a b out ia ib)(ha:ia+1=a.size):rZ κ a b (lsL a b out ia ib):=by
 have h1:=oQ.addB h b.size (uI H.sb) λx hx y hy=>by
  obtain⟨i,h1,h2,h3,h4⟩:=wA hx;obtain⟨j,g1,g2,g3⟩:=EE hy;rw[vR (κ:=κ) h4,vR (κ:=κ) g3];have :j=a.size-1:=by simp at g2;lia
  subst this;exact pQ (H.al i (by simpa using h3))
 rw[aR (l:=b.toList.drop ib) (by simp)]at h1;have :=h1.endA (uI H.sa) (by simp);rw[rZ,lsL,cI,cI,IR,IR];exact this
end
def WD(κ:Keyed->Int)(a b:Array Keyed)(N:Nat)(r:Option (Array Keyed))(out:Array Keyed)(ia ib:Nat):Prop:=
 r=none/\nO κ a b out ia ib/\ia+1<a.size/\ib<b.size/\N<=ia+ib
def LoG(κ:Keyed->Int)(a b:Array Keyed)(N:Nat)(r:Option (Array Keyed))(out:Array Keyed)(ia ib:Nat):Prop:=
 (∃x,r=some x/\rZ κ a b x)\/WD κ a b N r out ia ib
theorem lx{a b out:Array Keyed}{N:Nat}(h1:nO κ a b out ia ib)(h2:ia+1<a.size)(h3:ib<b.size)(h4:N<=ia+ib):WD κ a b N none out ia ib:=⟨rfl,h1,h2,h3,h4⟩
section
variable {a b:Array Keyed}
theorem l5(C:iS M A E s kd S κ)(H:oZ S κ a b)(hk:kindOf st=kd){N mg:Nat}{out:Array Keyed}(h:WD κ a b N none out ia ib):
 wpS M A E s (lo1 a b mg (none,out,ia,ib,ac,bc)) (λr cL=>cL=st/\match r with
  | .done c=>LoG κ a b (N+1) c.1 c.2.1 c.2.2.1 c.2.2.2.1
  | .yield c=>WD κ a b (N+1) c.1 c.2.1 c.2.2.1 c.2.2.2.1) st:=by
 obtain⟨-,h1,h2,h3,h4⟩:=h;obtain⟨x,ex,hx⟩:=jM (arr:=a) (i:=ia) ();obtain⟨y,ey,hy⟩:=jM (arr:=b) (i:=ib) ();unfold lo1;refine bC (yN ey (bC (yN ex (bC (C.lt (H.mb y hy) (H.ma x hx) hk ?_)))));have kx:=yQ (κ:=κ) ex;have ky:=yQ (κ:=κ) ey;by_cases hl:κ y<κ x
 ·simp only[hl,decide_true,if_true];refine bC (yN ey ?_);have hn:nO κ a b (out.push y) ia (ib+1):=h1.pushB H ey λi g1 g2=>by
   have :=H.sa ia i () g1 g2;lia
  by_cases he:ib+1=b.size
  ·rw[aH (by simpa using he)];exact bK ⟨rfl,.inl ⟨_,rfl,hn.dn H he⟩⟩
  ·rw[aF (by simpa using he)];split
   ·exact bK ⟨rfl,.inr (lx (N:=N+1) hn (h2) () () :)⟩
   ·exact bK ⟨rfl,(lx (N:=N+1) hn (h2) () () :)⟩
 ·simp only[hl,decide_false,bU,dO];refine bC (yN ex ?_);have hn:nO κ a b (out.push x) (ia+1) ib:=h1.pushA H ex λi g1 g2=>by
   have :=H.sb ib i () g1 g2;lia
  by_cases he:ia+1+1=a.size
  ·rw[aH (by simpa using he)];exact bK ⟨rfl,.inl ⟨_,rfl,hn.ls H he⟩⟩
  ·rw[aF (by simpa using he)];split
   ·exact bK ⟨rfl,.inr (lx (N:=N+1) hn () () () :)⟩
   ·exact bK ⟨rfl,(lx (N:=N+1) hn () () () :)⟩
abbrev fw(κ:Keyed->Int)(a b:Array Keyed)(N:Nat)(st:SortSt)(r:ForInStep og)(cL:SortSt):Prop:=hW st cL/\match r with
 | .done c=>LoG κ a b N c.1 c.2.1 c.2.2.1 c.2.2.2.1
 | .yield c=>WD κ a b N c.1 c.2.1 c.2.2.1 c.2.2.2.1
theorem HQ(H:oZ S κ a b){N mg:Nat}{out:Array Keyed}(hs:hW st0 st)(h1:nO κ a b out ia ib)(h2:ia+1<a.size)(h3:ib<b.size)(h4:N<=ia+ib)
 (hq:∀j,ib<=j->j<b.size->eD κ a ia<=eD κ b j):wpS M A E s (dw a b mg out ia ib ac bc) (fw κ a b N st0) st:=by
 obtain⟨x,ex,hx⟩:=jM (arr:=a) (i:=ia) ();unfold dw;refine bC (yN ex ?_);have kx:=yQ (κ:=κ) ex;have hn:nO κ a b (out.push x) (ia+1) ib:=h1.pushA H ex λi g1 g2=>by rw[←kx];exact hq i g1 g2
 by_cases he:ia+1+1=a.size
 ·rw[aH (by simpa using he)];exact bK ⟨hs,.inl ⟨_,rfl,hn.ls H he⟩⟩
 ·rw[aF (by simpa using he)];split
  ·exact bK ⟨hs,.inr (lx (N:=N) hn () () () :)⟩
  ·exact bK ⟨hs,(lx (N:=N) hn () () () :)⟩
theorem HR(C:iS M A E s kd S κ)(H:oZ S κ a b)(hk:kindOf st=kd){N mg:Nat}{out:Array Keyed}(hs:hW st0 st)(h1:nO κ a b out ia ib)(h2:ia+1<a.size)(h3:ib<b.size)(h4:N<=ia+ib)
 (hq:∀i,ia<=i->i<a.size->eD κ b ib<=eD κ a i):wpS M A E s (dy a b mg out ia ib ac bc) (fw κ a b N st0) st:=by
 obtain⟨y,ey,hy⟩:=jM (arr:=b) (i:=ib) ();obtain⟨x,ex,hx⟩:=jM (arr:=a) (i:=ia) ();unfold dy;refine bC (yN ey ?_);have ky:=yQ (κ:=κ) ey;have kx:=yQ (κ:=κ) ex;have hn:nO κ a b (out.push y) ia (ib+1):=h1.pushB H ey λi g1 g2=>by rw[←ky];exact hq i g1 g2
 by_cases he:ib+1=b.size
 ·rw[aH (by simpa using he)];exact bK ⟨hs,.inl ⟨_,rfl,hn.dn H he⟩⟩
 ·rw[aF (by simpa using he)];refine bC (yN ex ?_);refine bC (UU C hk H.mb (H.ma x hx) () (λp q r1 r2 r3=>H.sb p q () r2 ()) () λk g1 g2 g3=>?_);dsimp only;have hm:nO κ a b (out.push y++b.extract (ib+1) (ib+1+k)) ia (ib+1+k):=hn.appB H λj r1 r2 i r3 r4=>by
   have :=g2 (j-(ib+1)) ();rw[show ib+1+(j-(ib+1))=j by lia]at this;have :=H.sa ia i () r3 r4;lia
  have hr:∀j,ib+1+k<=j->j<b.size->eD κ a ia<=eD κ b j:=λj r1 r2=>by
   have :=g3 (j-(ib+1)) () ();rw[show ib+1+(j-(ib+1))=j by lia]at this;lia
  by_cases hz:k>0
  ·rw[aH hz];by_cases he:ib+1+k=b.size
   ·rw[aH (by simpa using he)];exact bK ⟨hs,.inl ⟨_,rfl,hm.dn H he⟩⟩
   ·rw[aF (by simpa using he)];exact HQ H hs hm h2 () () hr
  ·rw[aF hz];have :k=0:=by lia
   subst this;exact HQ H hs hn h2 () () hr
theorem HS(C:iS M A E s kd S κ)(H:oZ S κ a b)(hk:kindOf st=kd){N mg:Nat}{out:Array Keyed}(hs:hW st0 st)(h1:nO κ a b out ia ib)(h2:ia+1<a.size)(h3:ib<b.size)(h4:N<=ia+ib):
 wpS M A E s (dz a b mg out ia ib ac bc) (fw κ a b N st0) st:=by
 obtain⟨y,ey,hy⟩:=jM (arr:=b) (i:=ib) ();unfold dz;rw[YD];refine bC (lX (bC (yN ey ?_)));have eP:=hs.gal mg;have hk':kindOf (UD st mg)=kd:=hk;have ky:=yQ (κ:=κ) ey;refine bC (UT C hk' H.ma (H.mb y hy) () (λp q r1 r2 r3=>H.sa p q () r2 ()) () λk g1 g2 g3=>?_);dsimp only;have hl:=H.al ib h3;have hkl:ia+k<a.size:=by
  by_cases hc:ia+k<a.size
  ·exact hc
  ·have :=g2 (a.size-1-ia) ();rw[show ia+(a.size-1-ia)=a.size-1 by lia]at this;lia
 have hm:nO κ a b (out++a.extract ia (ia+k)) (ia+k) ib:=h1.appA H λj r1 r2 i r3 r4=>by
  have :=g2 (j-ia) ();rw[show ia+(j-ia)=j by lia]at this;have :=H.sb ib i () r3 r4;lia
 have hr:∀j,ia+k<=j->j<a.size->eD κ b ib<=eD κ a j:=λj r1 r2=>by
  have :=g3 (j-ia) () ();rw[show ia+(j-ia)=j by lia]at this;lia
 by_cases hz:k>0
 ·rw[aH hz];by_cases he:ia+k+1=a.size
  ·rw[aH (by simpa using he)];exact bK ⟨eP,.inl ⟨_,rfl,hm.ls H he⟩⟩
  ·rw[aF (by simpa using he),aF (by simp;lia)];exact HR C H hk' eP hm () h3 () hr
 ·rw[aF hz];have :k=0:=by lia
  subst this;exact HR C H hk' eP h1 () h3 () hr
theorem l4(C:iS M A E s kd S κ)(H:oZ S κ a b)(hk:kindOf st=kd){N mg:Nat}{out:Array Keyed}(hs:hW st0 st)(h:WD κ a b N none out ia ib):
 wpS M A E s (lo2 a b (none,out,ia,ib,mg,ac,bc)) (fw κ a b N st0) st:=by
 obtain⟨-,h1,h2,h3,h4⟩:=h;unfold lo2;dsimp only;split
 ·exact HS C H hk hs h1 h2 h3 h4
 ·exact HS C H hk hs h1 h2 h3 h4
theorem ly(C:iS M A E s kd S κ)(H:oZ S κ a b)(hk0:kindOf st0=kd){N mg:Nat}{out:Array Keyed}(hs:hW st0 st)(h:WD κ a b N none out ia ib):
 wpS M A E s (lo3 a b (none,out,ia,ib,mg)) (λr cL=>hW st0 cL/\match r with
  | .done c=>∃x,c.1=some x/\rZ κ a b x
  | .yield c=>WD κ a b (N+1) c.1 c.2.1 c.2.2.1 c.2.2.2.1) st:=by
 unfold lo3;dsimp only;refine bC (fT (eL
  (I:=λx c cL=>cL=st/\WD κ a b (N+x) c.1 c.2.1 c.2.2.1 c.2.2.2.1)
  (Q:=λc cL=>cL=st/\LoG κ a b (N+1) c.1 c.2.1 c.2.2.1 c.2.2.2.1) ?step ?fin ⟨rfl,h⟩) ?post)
 case fin=>
  rintro c cL ⟨rfl,h1,h2,h3,h4,h5⟩;have :=H.na;exact⟨rfl,.inr ⟨h1,h2,h3,h4,()⟩⟩
 case step=>
  rintro x ⟨r,out,ia,ib,ac,bc⟩ cL _ hx ⟨rfl,hc⟩;have hr:r=none:=hc.1;subst hr;refine fT (l5 C H (hs.kind.trans hk0) hc) ?_;rintro(c |c) gA ⟨rfl,h'⟩
  ·refine⟨rfl,?_⟩;rcases h' with h' |⟨a1,a2,a3,a4,a5⟩
   ·exact .inl h'
   ·exact .inr ⟨a1,a2,a3,a4,()⟩
  ·exact⟨rfl,h'⟩
 case post=>
  rintro⟨r,out,ia,ib,ac,bc⟩ cL ⟨rfl,hc⟩;rcases hc with⟨x,hx,hg⟩ |hc
  ·have hx:r=some x:=hx;subst hx;exact bK ⟨hs,x,rfl,hg⟩
  ·have hr:r=none:=hc.1;subst hr;dsimp only;refine bC (i9 (iC ⟨rfl,?_⟩));refine bC (fT (eL
    (I:=λx c cL=>hW st0 cL/\WD κ a b (N+1) c.1 c.2.1 c.2.2.1 c.2.2.2.1)
    (Q:=λc cL=>hW st0 cL/\LoG κ a b (N+1) c.1 c.2.1 c.2.2.1 c.2.2.2.1) ?_ ?_ ⟨hs,hc⟩) ?_)
   ·rintro x ⟨r,out,ia,ib,mg,ac,bc⟩ cL _ hx ⟨eP,hc⟩;have hr:r=none:=hc.1;subst hr;refine fT (l4 C H (eP.kind.trans hk0) eP hc) ?_;rintro(c |c) gA h'<;>exact h'
   ·rintro c cL ⟨h1,h2⟩;exact⟨h1,.inr h2⟩
   ·rintro⟨r,out,ia,ib,mg,ac,bc⟩ cL ⟨eP,hc⟩;rcases hc with⟨x,hx,hg⟩ |hc
    ·have hx:r=some x:=hx;subst hx;exact bK ⟨eP,x,rfl,hg⟩
    ·have hr:r=none:=hc.1;subst hr;dsimp only;rw[YD];exact bC (lX (bK ⟨eP.gal _,hc⟩))
theorem EB(C:iS M A E s kd S κ)(H:oZ S κ a b)(hk:kindOf st=kd){Q:Array Keyed->SortSt->Prop}(h:∀out cL,hW st cL->rZ κ a b out->Q out cL):wpS M A E s (XR a b) Q st:=by
 have h0:=H.na;have h0':=H.nb;obtain⟨y,ey,hy⟩:=jM (arr:=b) (i:=0) ();rw[AU];refine bC (i9 (iC ⟨rfl,?_⟩));refine bC (yN ey ?_);have ky:=yQ (κ:=κ) ey;have hn:nO κ a b #[y] 0 1:=by
  have :=nO.pushB (out:= #[]) H oQ.nil ey λi g1 g2=>by
   have :=H.b0 i g2;lia
  simpa using this
 by_cases he:1=b.size
 ·rw[aH (by simpa using he)];exact bK (h _ _ .rfl' (hn.dn H he))
 ·rw[aF (by simpa using he)];by_cases he2:0+1=a.size
  ·rw[aH (by simpa using he2)];exact bK (h _ _ .rfl' (hn.ls H he2))
  ·rw[aF (by simpa using he2)];refine bC (CC ?_);refine bC (fT (eL
    (I:=λx c cL=>hW st cL/\WD κ a b (x+1) c.1 c.2.1 c.2.2.1 c.2.2.2.1)
    (Q:=λc cL=>hW st cL/\∃x,c.1=some x/\rZ κ a b x) ?_ ?_ ⟨.rfl',(lx (N:=0+1) hn () () () :)⟩) ?_)
   ·rintro x ⟨r,out,ia,ib,mg⟩ cL _ hx ⟨eP,hc⟩;have hr:r=none:=hc.1;subst hr;refine fT (ly C H hk eP hc) ?_;rintro(c |c) gA ⟨h1,h2⟩
    ·exact⟨h1,h2⟩
    ·exact⟨h1,h2⟩
   ·rintro c cL ⟨h1,-,h2,h3,h4,h5⟩;lia
   ·rintro⟨r,c⟩ cL ⟨h1,x,hx,hg⟩;have hx:r=some x:=hx;subst hx;exact bK (h _ _ h1 hg)
end
def WT(a b out:Array Keyed)(na nb:Nat):Array Keyed:=a.extract 0 na++b.extract 0 nb++out.reverse
def fsH(a b out:Array Keyed)(na nb:Nat):Array Keyed:=b.extract 0 nb++a.extract 0 na++out.reverse
abbrev HiA:=Option (Array Keyed)×Nat×Nat×Array Keyed×Nat×Nat
abbrev om:=Option (Array Keyed)×Nat×Nat×Array Keyed×Nat×Nat×Nat
abbrev HiC:=Option (Array Keyed)×Nat×Nat×Array Keyed×Nat
def hi1(a b:Array Keyed)(mg:Nat)(c:HiA):SM (ForInStep HiA):=
 elem' b (c.2.2.1-1) >>= λy=>elem' a (c.2.1-1) >>= λx=>lt' y x >>= λo=>match o with
  |some w=>if w=true then elem' a (c.2.1-1) >>= λz=>
   if(c.2.1-1==0)=true then pure (ForInStep.done (some (WT a b (c.2.2.2.1.push z) (c.2.1-1) c.2.2.1),c.2.1-1,c.2.2.1,c.2.2.2.1.push z,c.2.2.2.2.1+1,0))
   else if c.2.2.2.2.1+1≥mg then pure (ForInStep.done (none,c.2.1-1,c.2.2.1,c.2.2.2.1.push z,c.2.2.2.2.1+1,0))
   else pure (ForInStep.yield (none,c.2.1-1,c.2.2.1,c.2.2.2.1.push z,c.2.2.2.2.1+1,0))
   else elem' b (c.2.2.1-1) >>= λz=>
    if(c.2.2.1-1==1)=true then pure (ForInStep.done (some (fsH a b (c.2.2.2.1.push z) c.2.1 (c.2.2.1-1)),c.2.1,c.2.2.1-1,c.2.2.2.1.push z,0,c.2.2.2.2.2+1))
    else if c.2.2.2.2.2+1≥mg then pure (ForInStep.done (none,c.2.1,c.2.2.1-1,c.2.2.2.1.push z,0,c.2.2.2.2.2+1))
    else pure (ForInStep.yield (none,c.2.1,c.2.2.1-1,c.2.2.2.1.push z,0,c.2.2.2.2.2+1))
  |_=>pure (ForInStep.done (some (WT a b c.2.2.2.1 c.2.1 c.2.2.1),c.2.1,c.2.2.1,c.2.2.2.1,c.2.2.2.2.1,c.2.2.2.2.2))
def d9(a b:Array Keyed)(mg:Nat)(out:Array Keyed)(na nb ac bc:Nat):SM (ForInStep om):=
 elem' a (na-1) >>= λz=>if(na-1==0)=true then pure (ForInStep.done (some (WT a b (out.push z) (na-1) nb),na-1,nb,out.push z,mg,ac,bc))
  else if(decide (ac<7)&&decide (bc<7))=true then pure (ForInStep.done (none,na-1,nb,out.push z,mg,ac,bc))
  else pure (ForInStep.yield (none,na-1,nb,out.push z,mg,ac,bc))
def ef(a b:Array Keyed)(mg:Nat)(out:Array Keyed)(na nb ac bc:Nat):SM (ForInStep om):=
 elem' b (nb-1) >>= λz=>if(nb-1==1)=true then pure (ForInStep.done (some (fsH a b (out.push z) na (nb-1)),na,nb-1,out.push z,mg,ac,bc))
  else elem' a (na-1) >>= λx=>qB true x b 0 (nb-1) (nb-1-1) >>= λo=>match o with
   |some k=>if nb-1-k>0 then(if(k==1)=true then pure (ForInStep.done (some (fsH a b (out.push z++(b.extract k (nb-1)).reverse) na k),na,k,out.push z++(b.extract k (nb-1)).reverse,mg,ac,nb-1-k))
    else if(k==0)=true then pure (ForInStep.done (some (WT a b (out.push z++(b.extract k (nb-1)).reverse) na k),na,k,out.push z++(b.extract k (nb-1)).reverse,mg,ac,nb-1-k))
    else d9 a b mg (out.push z++(b.extract k (nb-1)).reverse) na k ac (nb-1-k))
    else d9 a b mg (out.push z) na (nb-1) ac (nb-1-k)
   |_=>pure (ForInStep.done (some (WT a b (out.push z) na (nb-1)),na,nb-1,out.push z,mg,ac,bc))
def eg(a b:Array Keyed)(mg:Nat)(out:Array Keyed)(na nb ac bc:Nat):SM (ForInStep om):=
 OT mg >>= λ_=>elem' b (nb-1) >>= λy=>qB false y a 0 na (na-1) >>= λo=>match o with
  |some k=>if na-k>0 then(if(k==0)=true then pure (ForInStep.done (some (WT a b (out++(a.extract k na).reverse) k nb),k,nb,out++(a.extract k na).reverse,mg,na-k,bc))
   else ef a b mg (out++(a.extract k na).reverse) k nb (na-k) bc)
   else ef a b mg out na nb (na-k) bc
  |_=>pure (ForInStep.done (some (WT a b out na nb),na,nb,out,mg,ac,bc))
def hi2(a b:Array Keyed)(c:om):SM (ForInStep om):=
 if c.2.2.2.2.1>1 then eg a b (c.2.2.2.2.1-1) c.2.2.2.1 c.2.1 c.2.2.1 c.2.2.2.2.2.1 c.2.2.2.2.2.2 else eg a b c.2.2.2.2.1 c.2.2.2.1 c.2.1 c.2.2.1 c.2.2.2.2.2.1 c.2.2.2.2.2.2
def hi3(a b:Array Keyed)(c:HiC):SM (ForInStep HiC):=
 (forIn [:a.size+b.size] ((none,c.2.1,c.2.2.1,c.2.2.2.1,0,0):HiA) λ_ d=>hi1 a b c.2.2.2.2 d) >>= λd=>match d.1 with
  |some r=>pure (ForInStep.done (some r,d.2.1,d.2.2.1,d.2.2.2.1,c.2.2.2.2))
  |none=>liftM (rule "list.sort.gallop") >>= λ_=>(forIn [:a.size+b.size] ((none,d.2.1,d.2.2.1,d.2.2.2.1,c.2.2.2.2+1,d.2.2.2.2.1,d.2.2.2.2.2):om) λ_ e=>hi2 a b e) >>= λe=>match e.1 with
   |some r=>pure (ForInStep.done (some r,e.2.1,e.2.2.1,e.2.2.2.1,e.2.2.2.2.1))
   |none=>OT (e.2.2.2.2.1+1) >>= λ_=>pure (ForInStep.yield (none,e.2.1,e.2.2.1,e.2.2.2.1,e.2.2.2.2.1+1))
def XS:Array Keyed->Array Keyed->SM (Array Keyed):=sortPriv% PySem.Builtin.mergeHi
theorem AV(a b:Array Keyed):XS a b=(liftM (rule "list.sort.merge-hi") >>= λ_=>elem' a (a.size-1) >>= λz=>
 if(a.size-1==0)=true then pure (WT a b #[z] (a.size-1) b.size)else if(b.size==1)=true then pure (fsH a b #[z] (a.size-1) b.size)
 else get >>= λst=>(forIn [:a.size+b.size] ((none,a.size-1,b.size,#[z],gallopOf st):HiC) λ_ c=>hi3 a b c) >>= λc=>match c.1 with
  |some r=>pure r
  |none=>liftM (unsupported "internal:list.sort.merge-bound")):=by
 show(_ >>= _:SM _)=_
 congr 1;funext u
 show(_ >>= _:SM _)=_
 congr 1;funext z
 by_cases h:(a.size-1==0)=true
 ·exact(aH h).trans (aH h).symm
 ·refine(aF h).trans (Eq.trans ?_ (aF h).symm);by_cases h2:(b.size==1)=true
  ·exact(aH h2).trans (aH h2).symm
  ·refine(aF h2).trans (Eq.trans ?_ (aF h2).symm);show(_ >>= _:SM _)=_
   congr 1;funext st
   show(_ >>= _:SM _)=_
   congr 1
   ·congr 1;funext x c
    delta hi3
    show(_ >>= _:SM _)=_
    congr 1;funext d
    obtain⟨r,d⟩:=d;cases r
    ·show(_ >>= _:SM _)=_
     congr 1;funext v
     show(_ >>= _:SM _)=_
     congr 1;funext d
     obtain⟨r,d⟩:=d;cases r<;>rfl
    ·rfl
   ·funext c
    obtain⟨r,d⟩:=c;cases r<;>rfl
abbrev oE(κ:Keyed->Int)(a b out:Array Keyed)(na nb:Nat):Prop:=oQ (λx=> - κ x) a.toList.reverse b.toList.reverse out.toList (a.size-na) (b.size-nb)
section
variable {a b out:Array Keyed}
theorem XG{l:List Keyed}(h:l.Pairwise λx y=>κ x<=κ y):l.reverse.Pairwise λx y=> - κ x<= - κ y:=by
 rw[List.pairwise_reverse];exact h.imp λh=>by lia
theorem vH{l:List Keyed}(h:n<=l.length):l.reverse.drop (l.length-n)=(l.take n).reverse:=by
 rw[List.drop_reverse,show l.length-(l.length-n)=n by lia]
theorem GR{l:List Keyed}{k:Nat}(h:n<=l.length)(hk:k<=n):(l.reverse.drop (l.length-n)).take (n-k)=((l.drop k).take (n-k)).reverse:=by
 rw[vH h,List.take_reverse,bH,show min n l.length-(n-k)=k by lia,List.drop_take]
theorem PN{a:Array Keyed}{k:Nat}(h:n<=a.size)(hk:k<=n):((a.extract k n).reverse).toList=(a.toList.reverse.drop (a.size-n)).take (n-k):=by
 rw[mR,eX,dN,←bP,GR (by simpa using h) hk]
theorem tE{a:Array Keyed}{k:Nat}{x:Keyed}(h:n<=a.size)(hk:k<=n)(hx:x∈(a.toList.reverse.drop (a.size-n)).take (n-k)):∃i,k<=i/\i<n/\κ x=eD κ a i:=by
 rw[←bP,GR (by simpa using h) hk,List.mem_reverse]at hx;obtain⟨i,h1,h2,h3,h4⟩:=wA hx;exact⟨i,h1,(),vR h4⟩
theorem YF{a:Array Keyed}{x:Keyed}(h:n<=a.size)(hx:x∈a.toList.reverse.drop (a.size-n)):∃i,i<n/\κ x=eD κ a i:=by
 rw[←bP,vH (by simpa using h),List.mem_reverse]at hx;rw[show a.toList.take n=(a.toList.drop 0).take n by simp]at hx;obtain⟨i,h1,h2,h3,h4⟩:=wA hx;exact⟨i,(),vR h4⟩
theorem oE.appA(H:oZ S κ a b)(ha:na<=a.size)(hb:nb<=b.size)(h:oE κ a b out na nb){k:Nat}(hk:k<=na)(hq:∀i,k<=i->i<na->∀j,j<nb->eD κ b j<=eD κ a i):oE κ a b (out++(a.extract k na).reverse) k nb:=by
 have :=oQ.addA h (na-k) (XG (uI H.sa)) λx hx y hy=>by
  obtain⟨i,h1,h2,h3⟩:=tE (κ:=κ) ha hk hx;obtain⟨j,g1,g2⟩:=YF (κ:=κ) hb hy;have :=hq i h1 h2 j g1;show - κ x<= - κ y;lia
 rw[←PN ha hk,←cI,show a.size-na+(na-k)=a.size-k by lia]at this;exact this
theorem oE.appB(H:oZ S κ a b)(ha:na<=a.size)(hb:nb<=b.size)(h:oE κ a b out na nb){k:Nat}(hk:k<=nb)(hq:∀j,k<=j->j<nb->∀i,i<na->eD κ a i<=eD κ b j):oE κ a b (out++(b.extract k nb).reverse) na k:=by
 have :=oQ.addB h (nb-k) (XG (uI H.sb)) λx hx y hy=>by
  obtain⟨i,h1,h2,h3⟩:=tE (κ:=κ) hb hk hx;obtain⟨j,g1,g2⟩:=YF (κ:=κ) ha hy;have :=hq i h1 h2 j g1;show - κ x<= - κ y;lia
 rw[←PN hb hk,←cI,show b.size-nb+(nb-k)=b.size-k by lia]at this;exact this
theorem HK{a:Array Keyed}(h1:1<=n)(hz:a[n-1]?=some z):(a.extract (n-1) n).reverse.toList=[z]:=by
 have hz':a.toList[n-1]?=some z:=by rw[cY];exact hz
 rw[mR,eX,dN,show n-(n-1)=1 by lia,←RW hz'];rfl
theorem oE.pushA(H:oZ S κ a b)(ha:na<=a.size)(hb:nb<=b.size)(h:oE κ a b out na nb)(h1:1<=na)(hz:a[na-1]?=some z)(hq:∀j,j<nb->eD κ b j<=κ z):oE κ a b (out.push z) (na-1) nb:=by
 have :=h.appA H ha hb (k:=na-1) () λi g1 g2 j g3=>by
  have :i=na-1:=by lia
  subst this;rw[yQ hz];exact hq j g3
 rw[oE,cI,HK h1 hz,←UI]at this;exact this
theorem oE.pushB(H:oZ S κ a b)(ha:na<=a.size)(hb:nb<=b.size)(h:oE κ a b out na nb)(h1:1<=nb)(hz:b[nb-1]?=some z)(hq:∀j,j<na->eD κ a j<=κ z):oE κ a b (out.push z) na (nb-1):=by
 have :=h.appB H ha hb (k:=nb-1) () λi g1 g2 j g3=>by
  have :i=nb-1:=by lia
  subst this;rw[yQ hz];exact hq j g3
 rw[oE,cI,HK h1 hz,←UI]at this;exact this
theorem HN{la lb ol:List Keyed}(h:Mgd (λx=> - κ x) la.reverse lb.reverse ol):Mgd κ la lb ol.reverse:=by
 refine⟨?_,?_⟩
 ·exact(FO _).trans (h.1.trans ((FO _).append (FO _)))
 ·rw[List.pairwise_reverse];exact h.2.imp λh=>by dsimp only at h;lia
theorem QV{a:Array Keyed}:(a.extract 0 n).toList=a.toList.take n:=by simp
theorem oE.dn(H:oZ S κ a b)(hb:nb<=b.size)(h:oE κ a b out na nb)(h0:na=0):rZ κ a b (WT a b out na nb):=by
 subst h0;have :=HN (h.endB (XG (uI H.sb)) (by simp));rw[←bP (xs:=b),vH (by simpa using hb),rX,rH]at this;rw[rZ,WT,cI,cI,QV,QV,mR,rG,WP];exact this
theorem oE.fs(H:oZ S κ a b)(ha:na<=a.size)(h:oE κ a b out na nb)(h0:nb=1):rZ κ a b (fsH a b out na nb):=by
 subst h0;have h1:=oQ.addA h a.size (XG (uI H.sa)) λx hx y hy=>by
  obtain⟨i,h1,h2⟩:=YF (κ:=κ) ha (cQ hx);obtain⟨j,g1,g2⟩:=YF (κ:=κ) H.nb hy;have :j=0:=by lia
  subst this;have :=H.b0 i ();show - κ x<= - κ y;lia
 rw[aR (l:=a.toList.reverse.drop (a.size-na)) (by simp)]at h1;have :=HN (h1.endB (XG (uI H.sb)) (by simp));have e1:a.toList.reverse.drop (a.size-na)=(a.toList.take na).reverse:=by rw[←bP,vH (by simpa using ha)]
 have e2:b.toList.reverse.drop (b.size-1)=(b.toList.take 1).reverse:=by rw[←bP,vH (by simpa using H.nb)]
 rw[e1,e2,rX,rX,rH,rH,←cF]at this;rw[rZ,fsH,cI,cI,QV,QV,mR];exact this
end
def WF(κ:Keyed->Int)(a b:Array Keyed)(N:Nat)(r:Option (Array Keyed))(out:Array Keyed)(na nb:Nat):Prop:=
 r=none/\oE κ a b out na nb/\1<=na/\2<=nb/\na<=a.size/\nb<=b.size/\na+nb+N<=a.size+b.size
def HiG(κ:Keyed->Int)(a b:Array Keyed)(N:Nat)(r:Option (Array Keyed))(out:Array Keyed)(na nb:Nat):Prop:=
 (∃x,r=some x/\rZ κ a b x)\/WF κ a b N r out na nb
theorem hin{a b out:Array Keyed}{N:Nat}(h1:oE κ a b out na nb)(h2:1<=na)(h3:2<=nb)(h4:na<=a.size)(h5:nb<=b.size)(h6:na+nb+N<=a.size+b.size):WF κ a b N none out na nb:=⟨rfl,h1,h2,h3,h4,h5,h6⟩
section
variable {a b:Array Keyed}
theorem mz(C:iS M A E s kd S κ)(H:oZ S κ a b)(hk:kindOf st=kd){N mg:Nat}{out:Array Keyed}(h:WF κ a b N none out na nb):
 wpS M A E s (hi1 a b mg (none,na,nb,out,ac,bc)) (λr cL=>cL=st/\match r with
  | .done c=>HiG κ a b (N+1) c.1 c.2.2.2.1 c.2.1 c.2.2.1
  | .yield c=>WF κ a b (N+1) c.1 c.2.2.2.1 c.2.1 c.2.2.1) st:=by
 obtain⟨-,h1,h2,h3,h4,h5,h6⟩:=h;obtain⟨x,ex,hx⟩:=jM (arr:=a) (i:=na-1) ();obtain⟨y,ey,hy⟩:=jM (arr:=b) (i:=nb-1) ();unfold hi1;refine bC (yN ey (bC (yN ex (bC (C.lt (H.mb y hy) (H.ma x hx) hk ?_)))));have kx:=yQ (κ:=κ) ex;have ky:=yQ (κ:=κ) ey;by_cases hl:κ y<κ x
 ·simp only[hl,decide_true,if_true];refine bC (yN ex ?_);have hn:oE κ a b (out.push x) (na-1) nb:=h1.pushA H h4 h5 h2 ex λi g1=>by
   have :=H.sb i (nb-1) () () ();lia
  by_cases he:na-1=0
  ·rw[aH (by simpa using he)];exact bK ⟨rfl,.inl ⟨_,rfl,hn.dn H h5 he⟩⟩
  ·rw[aF (by simpa using he)];split
   ·exact bK ⟨rfl,.inr (hin (N:=N+1) hn () () () () () :)⟩
   ·exact bK ⟨rfl,(hin (N:=N+1) hn () () () () () :)⟩
 ·simp only[hl,decide_false,bU,dO];refine bC (yN ey ?_);have hn:oE κ a b (out.push y) na (nb-1):=h1.pushB H h4 h5 () ey λi g1=>by
   have :=H.sa i (na-1) () () ();lia
  by_cases he:nb-1=1
  ·rw[aH (by simpa using he)];exact bK ⟨rfl,.inl ⟨_,rfl,hn.fs H h4 he⟩⟩
  ·rw[aF (by simpa using he)];split
   ·exact bK ⟨rfl,.inr (hin (N:=N+1) hn () () () () () :)⟩
   ·exact bK ⟨rfl,(hin (N:=N+1) hn () () () () () :)⟩
abbrev fx(κ:Keyed->Int)(a b:Array Keyed)(N:Nat)(st:SortSt)(r:ForInStep om)(cL:SortSt):Prop:=hW st cL/\match r with
 | .done c=>HiG κ a b N c.1 c.2.2.2.1 c.2.1 c.2.2.1
 | .yield c=>WF κ a b N c.1 c.2.2.2.1 c.2.1 c.2.2.1
theorem IC(H:oZ S κ a b){N mg:Nat}{out:Array Keyed}(hs:hW st0 st)(h1:oE κ a b out na nb)(h2:1<=na)(h3:2<=nb)(h4:na<=a.size)(h5:nb<=b.size)(h6:na+nb+N<=a.size+b.size)
 (hq:∀j,j<nb->eD κ b j<=eD κ a (na-1)):wpS M A E s (d9 a b mg out na nb ac bc) (fx κ a b N st0) st:=by
 obtain⟨x,ex,hx⟩:=jM (arr:=a) (i:=na-1) ();unfold d9;refine bC (yN ex ?_);have kx:=yQ (κ:=κ) ex;have hn:oE κ a b (out.push x) (na-1) nb:=h1.pushA H h4 h5 h2 ex λi g1=>by rw[←kx];exact hq i g1
 by_cases he:na-1=0
 ·rw[aH (by simpa using he)];exact bK ⟨hs,.inl ⟨_,rfl,hn.dn H h5 he⟩⟩
 ·rw[aF (by simpa using he)];split
  ·exact bK ⟨hs,.inr (hin (N:=N) hn () () () () () :)⟩
  ·exact bK ⟨hs,(hin (N:=N) hn () () () () () :)⟩
theorem ID(C:iS M A E s kd S κ)(H:oZ S κ a b)(hk:kindOf st=kd){N mg:Nat}{out:Array Keyed}(hs:hW st0 st)(h1:oE κ a b out na nb)(h2:1<=na)(h3:2<=nb)(h4:na<=a.size)(h5:nb<=b.size)(h6:na+nb+N<=a.size+b.size)
 (hq:∀i,i<na->eD κ a i<=eD κ b (nb-1)):wpS M A E s (ef a b mg out na nb ac bc) (fx κ a b N st0) st:=by
 obtain⟨y,ey,hy⟩:=jM (arr:=b) (i:=nb-1) ();obtain⟨x,ex,hx⟩:=jM (arr:=a) (i:=na-1) ();unfold ef;refine bC (yN ey ?_);have ky:=yQ (κ:=κ) ey;have kx:=yQ (κ:=κ) ex;have hn:oE κ a b (out.push y) na (nb-1):=h1.pushB H h4 h5 () ey λi g1=>by rw[←ky];exact hq i g1
 by_cases he:nb-1=1
 ·rw[aH (by simpa using he)];exact bK ⟨hs,.inl ⟨_,rfl,hn.fs H h4 he⟩⟩
 ·rw[aF (by simpa using he)];refine bC (yN ex ?_);refine bC (UU C hk H.mb (H.ma x hx) () (λp q r1 r2 r3=>H.sb p q () r2 ()) () λk g1 g2 g3=>?_);dsimp only;simp only[fJ]at g2 g3;have hk1:1<=k:=by
   by_cases hc:1<=k
   ·exact hc
   ·have :=g3 0 () ();have :=H.b0 (na-1) ();lia
  have hm:oE κ a b (out.push y++(b.extract k (nb-1)).reverse) na k:=hn.appB H h4 () g1 λj r1 r2 i r3=>by
   have :=g3 j () ();have :=H.sa i (na-1) () () ();lia
  have hr:∀j,j<k->eD κ b j<=eD κ a (na-1):=λj r1=>by
   have :=g2 j r1;lia
  by_cases hz:nb-1-k>0
  ·rw[aH hz];by_cases he:k=1
   ·rw[aH (by simpa using he)];exact bK ⟨hs,.inl ⟨_,rfl,hm.fs H h4 he⟩⟩
   ·rw[aF (by simpa using he),aF (by simp;lia)];exact IC H hs hm h2 () h4 () () hr
  ·rw[aF hz];have :k=nb-1:=by lia
   subst this;exact IC H hs hn h2 () h4 () () hr
theorem IE(C:iS M A E s kd S κ)(H:oZ S κ a b)(hk:kindOf st=kd){N mg:Nat}{out:Array Keyed}(hs:hW st0 st)(h1:oE κ a b out na nb)(h2:1<=na)(h3:2<=nb)(h4:na<=a.size)(h5:nb<=b.size)(h6:na+nb+N<=a.size+b.size):
 wpS M A E s (eg a b mg out na nb ac bc) (fx κ a b N st0) st:=by
 obtain⟨y,ey,hy⟩:=jM (arr:=b) (i:=nb-1) ();unfold eg;rw[YD];refine bC (lX (bC (yN ey ?_)));have eP:=hs.gal mg;have hk':kindOf (UD st mg)=kd:=hk;have ky:=yQ (κ:=κ) ey;refine bC (UT C hk' H.ma (H.mb y hy) () (λp q r1 r2 r3=>H.sa p q () r2 ()) () λk g1 g2 g3=>?_);dsimp only;simp only[fJ]at g2 g3;have hm:oE κ a b (out++(a.extract k na).reverse) k nb:=h1.appA H h4 h5 g1 λj r1 r2 i r3=>by
  have :=g3 j () ();have :=H.sb i (nb-1) () () ();lia
 have hr:∀j,j<k->eD κ a j<=eD κ b (nb-1):=λj r1=>by
  have :=g2 j r1;lia
 by_cases hz:na-k>0
 ·rw[aH hz];by_cases he:k=0
  ·rw[aH (by simpa using he)];exact bK ⟨eP,.inl ⟨_,rfl,hm.dn H h5 he⟩⟩
  ·rw[aF (by simpa using he)];exact ID C H hk' eP hm () h3 () h5 () hr
 ·rw[aF hz];have :k=na:=by lia
  subst this;exact ID C H hk' eP h1 h2 h3 h4 h5 () hr
theorem my(C:iS M A E s kd S κ)(H:oZ S κ a b)(hk:kindOf st=kd){N mg:Nat}{out:Array Keyed}(hs:hW st0 st)(h:WF κ a b N none out na nb):
 wpS M A E s (hi2 a b (none,na,nb,out,mg,ac,bc)) (fx κ a b N st0) st:=by
 obtain⟨-,h1,h2,h3,h4,h5,h6⟩:=h;unfold hi2;dsimp only;split
 ·exact IE C H hk hs h1 h2 h3 h4 h5 h6
 ·exact IE C H hk hs h1 h2 h3 h4 h5 h6
theorem mq(C:iS M A E s kd S κ)(H:oZ S κ a b)(hk0:kindOf st0=kd){N mg:Nat}{out:Array Keyed}(hs:hW st0 st)(h:WF κ a b N none out na nb):
 wpS M A E s (hi3 a b (none,na,nb,out,mg)) (λr cL=>hW st0 cL/\match r with
  | .done c=>∃x,c.1=some x/\rZ κ a b x
  | .yield c=>WF κ a b (N+1) c.1 c.2.2.2.1 c.2.1 c.2.2.1) st:=by
 unfold hi3;dsimp only;refine bC (fT (eL
  (I:=λx c cL=>cL=st/\WF κ a b (N+x) c.1 c.2.2.2.1 c.2.1 c.2.2.1)
  (Q:=λc cL=>cL=st/\HiG κ a b (N+1) c.1 c.2.2.2.1 c.2.1 c.2.2.1) ?step ?fin ⟨rfl,h⟩) ?post)
 case fin=>
  rintro c cL ⟨rfl,h1,h2,h3,h4,h5,h6,h7⟩;have :=H.na;exact⟨rfl,.inr ⟨h1,h2,h3,h4,h5,h6,()⟩⟩
 case step=>
  rintro x ⟨r,na,nb,out,ac,bc⟩ cL _ hx ⟨rfl,hc⟩;have hr:r=none:=hc.1;subst hr;refine fT (mz C H (hs.kind.trans hk0) hc) ?_;rintro(c |c) gA ⟨rfl,h'⟩
  ·refine⟨rfl,?_⟩;rcases h' with h' |⟨a1,a2,a3,a4,a5,a6,a7⟩
   ·exact .inl h'
   ·exact .inr ⟨a1,a2,a3,a4,a5,a6,()⟩
  ·exact⟨rfl,h'⟩
 case post=>
  rintro⟨r,na,nb,out,ac,bc⟩ cL ⟨rfl,hc⟩;rcases hc with⟨x,hx,hg⟩ |hc
  ·have hx:r=some x:=hx;subst hx;exact bK ⟨hs,x,rfl,hg⟩
  ·have hr:r=none:=hc.1;subst hr;dsimp only;refine bC (i9 (iC ⟨rfl,?_⟩));refine bC (fT (eL
    (I:=λx c cL=>hW st0 cL/\WF κ a b (N+1) c.1 c.2.2.2.1 c.2.1 c.2.2.1)
    (Q:=λc cL=>hW st0 cL/\HiG κ a b (N+1) c.1 c.2.2.2.1 c.2.1 c.2.2.1) ?_ ?_ ⟨hs,hc⟩) ?_)
   ·rintro x ⟨r,na,nb,out,mg,ac,bc⟩ cL _ hx ⟨eP,hc⟩;have hr:r=none:=hc.1;subst hr;refine fT (my C H (eP.kind.trans hk0) eP hc) ?_;rintro(c |c) gA h'<;>exact h'
   ·rintro c cL ⟨h1,h2⟩;exact⟨h1,.inr h2⟩
   ·rintro⟨r,na,nb,out,mg,ac,bc⟩ cL ⟨eP,hc⟩;rcases hc with⟨x,hx,hg⟩ |hc
    ·have hx:r=some x:=hx;subst hx;exact bK ⟨eP,x,rfl,hg⟩
    ·have hr:r=none:=hc.1;subst hr;dsimp only;rw[YD];exact bC (lX (bK ⟨eP.gal _,hc⟩))
theorem EC(C:iS M A E s kd S κ)(H:oZ S κ a b)(hk:kindOf st=kd){Q:Array Keyed->SortSt->Prop}(h:∀out cL,hW st cL->rZ κ a b out->Q out cL):wpS M A E s (XS a b) Q st:=by
 have h0:=H.na;have h0':=H.nb;obtain⟨x,ex,hx⟩:=jM (arr:=a) (i:=a.size-1) ();rw[AV];refine bC (i9 (iC ⟨rfl,?_⟩));refine bC (yN ex ?_);have kx:=yQ (κ:=κ) ex;have hn:oE κ a b #[x] (a.size-1) b.size:=by
  have h00:oE κ a b #[] a.size b.size:=by
   show oQ _ _ _ _ _ _;rw[iP,iP];exact oQ.nil
  have :=h00.pushA H (aJ _) (aJ _) h0 ex λi g1=>by
   have :=H.al i g1;lia
  simpa using this
 by_cases he:a.size-1=0
 ·rw[aH (by simpa using he)];exact bK (h _ _ .rfl' (hn.dn H (aJ _) he))
 ·rw[aF (by simpa using he)];by_cases he2:b.size=1
  ·rw[aH (by simpa using he2)];exact bK (h _ _ .rfl' (hn.fs H () he2))
  ·rw[aF (by simpa using he2)];refine bC (CC ?_);refine bC (fT (eL
    (I:=λx c cL=>hW st cL/\WF κ a b (x+1) c.1 c.2.2.2.1 c.2.1 c.2.2.1)
    (Q:=λc cL=>hW st cL/\∃x,c.1=some x/\rZ κ a b x) ?_ ?_ ⟨.rfl',(hin (N:=0+1) hn () () () () () :)⟩) ?_)
   ·rintro x ⟨r,na,nb,out,mg⟩ cL _ hx ⟨eP,hc⟩;have hr:r=none:=hc.1;subst hr;refine fT (mq C H hk eP hc) ?_;rintro(c |c) gA ⟨h1,h2⟩
    ·exact⟨h1,h2⟩
    ·exact⟨h1,h2⟩
   ·rintro c cL ⟨h1,-,h2,h3,h4,h5,h6,h7⟩;lia
   ·rintro⟨r,c⟩ cL ⟨h1,x,hx,hg⟩;have hx:r=some x:=hx;subst hx;exact bK (h _ _ h1 hg)
end
def NH(sa:Nat)(l:List (Keyed×Nat))(xs:Array Keyed):Array Keyed:=l.foldl (λa x=>a.setIfInBounds (sa+x.2) x.1) xs
theorem CI(sa:Nat):∀(ms:List Keyed)(n:Nat)(xs:Array Keyed),sa+n+ms.length<=xs.size->∀k,(NH sa (ms.zipIdx n) xs)[k]?=if sa+n<=k/\k<sa+n+ms.length then ms[k-(sa+n)]? else xs[k]?
 |[],n,xs,h,k=>by
  rw[aF (by simp only[lD];lia)];rfl
 |m::ms,n,xs,h,k=>by
  rw[List.zipIdx_cons];show(NH sa (ms.zipIdx (n+1)) (xs.setIfInBounds (sa+n) m))[k]?=_;simp only[bB]at h⊢;rw[CI sa ms (n+1) _ (by rw[Array.size_setIfInBounds];lia) k,Array.getElem?_setIfInBounds];by_cases h1:sa+n=k
  ·rw[aF (),aH h1,aH (),aH ()];rw[show k-(sa+n)=0 by lia];rfl
  ·rw[aF h1];by_cases h2:sa+(n+1)<=k/\k<sa+(n+1)+ms.length
   ·rw[aH h2,aH (),show k-(sa+n)=(k-(sa+(n+1)))+1 by lia];rfl
   ·rw[aF h2,aF ()]
theorem wrF_l{sa:Nat}{ms:List Keyed}{xs:Array Keyed}(h:sa+ms.length<=xs.size):(NH sa ms.zipIdx xs).toList=xs.toList.take sa++ms++xs.toList.drop (sa+ms.length):=by
 apply List.ext_getElem?;intro k;rw[cY,CI sa ms 0 xs () k];simp only[Nat.add_zero];have hl:(xs.toList.take sa).length=sa:=by rw[bH,bP];lia
 by_cases h1:k<sa
 ·rw[aF (),cF,bN (),List.getElem?_take,aH h1,cY]
 ·by_cases h2:k<sa+ms.length
  ·rw[aH (),bN (by rw[aP];lia),cP (),hl]
  ·rw[aF (),cP (by rw[aP];lia),aP,hl,List.getElem?_drop,cY]
   congr 1;lia
theorem NQ{sa:Nat}{ms:List Keyed}{xs:Array Keyed}(h:sa+ms.length<=xs.size)(hp:ms.Perm ((xs.toList.drop sa).take ms.length)):(NH sa ms.zipIdx xs).toList.Perm xs.toList:=by
 rw[wrF_l h];have e:xs.toList=xs.toList.take sa++(xs.toList.drop sa).take ms.length++xs.toList.drop (sa+ms.length):=by
  rw[cF,←rL,dW,dW]
 exact((hp.append_left _).append_right _).trans (by rw[←e])
structure SB(kd:SortKind)(a₀:Array Keyed)(st:SortSt):Prop where
 perm:(arrOf st).toList.Perm a₀.toList
 kind:kindOf st=kd
 fail:failedOf st=none
theorem SB.size(h:SB kd a₀ st):(arrOf st).size=a₀.size:=by
 have :=h.perm.length_eq;simpa using this
theorem SB.mem(h:SB kd a₀ st)(h0:∀p,p∈a₀.toList->S p):∀p,p∈(arrOf st).toList->S p:=λp hp=>h0 p (h.perm.mem_iff.mp hp)
theorem SB.setArr(h:SB kd a₀ st){xs:Array Keyed}(hp:xs.toList.Perm (arrOf st).toList):SB kd a₀ (setArr st xs):=⟨hp.trans h.perm,h.kind,h.fail⟩
theorem af{cL:SortSt}{Q:PUnit->SortSt->Prop}(h:Q ⟨⟩ cL):wpS M A E s (set cL:SM PUnit) Q st:=by
 unfold wpS;rw[StateT.run_set];exact aU ⟨rfl,h⟩
def mgC(sa:Nat)(ms:Array Keyed):SM Bool:=modify (λs=>setArr s (NH sa ms.toList.zipIdx (arrOf s))) >>= λ_=>get >>= λs=>pure (failedOf s).isNone
def mgB(st:SortSt)(sa na sb nb:Nat):SM Bool:=
 if(na==0)=true then pure true else elem' (arrOf st) (sa+na-1) >>= λkey=>qB true key (arrOf st) sb nb (nb-1) >>= λo=>match o with
  |some nb=>if(nb==0)=true then pure true else if na<=nb then XR ((arrOf st).extract sa sb) ((arrOf st).extract sb (sb+nb)) >>= λm=>mgC sa m else XS ((arrOf st).extract sa sb) ((arrOf st).extract sb (sb+nb)) >>= λm=>mgC sa m
  |_=>pure false
def mgA(st:SortSt)(i sa na pw sb nb:Nat):SM Bool:=
 set (setPending st (((pendingOf st).setIfInBounds i (sa,na+nb,pw)).eraseIdxIfInBounds (i+1))) >>= λ_=>elem' (arrOf st) sb >>= λkey=>qB false key (arrOf st) sa na 0 >>= λo=>match o with
  |some k=>mgB st (sa+k) (na-k) sb nb
  |_=>pure false
theorem AW(i:Nat):mergeAt' i=(get >>= λst=>match((pendingOf st)[i]?,(pendingOf st)[i+1]?)with
 |(some (sa,na,pw),some (sb,nb,_))=>mgA st i sa na pw sb nb
 |_=>liftM (unsupported "internal:list.sort.pending")):=rfl
theorem nh{xs:Array Keyed}{k:Nat}(h:i+k<j):(xs.extract i j)[k]?=xs[i+k]?:=by
 rw[Array.getElem?_extract];split
 ·rfl
 ·next h1=>rw[Array.getElem?_eq_none ()]
theorem ZQ{xs:Array Keyed}{k:Nat}(h:i+k<j):eD κ (xs.extract i j) k=eD κ xs (i+k):=qV (nh h)
theorem IN{xs:Array Keyed}{p:Keyed}(h:p∈(xs.extract i j).toList):p∈xs.toList:=by
 rw[eX,dN]at h;exact List.mem_of_mem_drop (cQ h)
theorem IQ{xs:Array Keyed}(hj:j<=xs.size){p:Keyed}(h:p∈(xs.extract i j).toList):∃t,i<=t/\t<j/\κ p=eD κ xs t:=by
 rw[eX,dN]at h;obtain⟨t,h1,h2,h3,h4⟩:=wA h;exact⟨t,h1,(),vR h4⟩
theorem lv{cL:SortSt}{sa sb k n2:Nat}{ms:Array Keyed}{Q:Bool->SortSt->Prop}(hB:SB kd a₀ cL)(harr:arrOf cL=arrOf st)
 (hsb:sb=sa+na) (hle:sb+nb<=(arrOf st).size) (hsA:jH κ (arrOf st) sa (sa+na)) (hsB:jH κ (arrOf st) sb (sb+nb)) (hk:k<na) (hn2:n2<=nb) (hn0:0<n2)
 (hg1:∀i,i<k->eD κ (arrOf st) (sa+i)<=eD κ (arrOf st) sb) (hg2:∀i,n2<=i->i<nb->eD κ (arrOf st) (sb-1)<=eD κ (arrOf st) (sb+i))
 (hm:rZ κ ((arrOf st).extract (sa+k) sb) ((arrOf st).extract sb (sb+n2)) ms)
 (h:∀gA,SB kd a₀ gA->pendingOf gA=pendingOf cL->jH κ (arrOf gA) sa (sb+nb)->(∀j,j<sa\/sb+nb<=j->(arrOf gA)[j]?=(arrOf st)[j]?)->Q true gA):wpS M A E s (mgC (sa+k) ms) Q cL:=by
 unfold mgC;have fA:ms.toList.length=na-k+n2:=by
  rw[hm.1.length_eq,aP,bP,bP,oA,oA];lia
 have e1:ms.toList.Perm (((arrOf st).toList.drop (sa+k)).take ms.toList.length):=by
  refine hm.1.trans (List.Perm.of_eq ?_);rw[fA,eX,eX,dN,dN,List.take_add,rL,show sa+k+(na-k)=sb by lia,show sb-(sa+k)=na-k by lia,pF]
 have hfit:(sa+k)+ms.toList.length<=(arrOf st).size:=by lia
 refine bC (lX ?_);refine bC (CC ?_);have hB2:SB kd a₀ (setArr cL (NH (sa+k) ms.toList.zipIdx (arrOf cL))):=hB.setArr (by rw[harr];exact NQ hfit e1);have hf:(failedOf (setArr cL (NH (sa+k) ms.toList.zipIdx (arrOf cL)))).isNone=true:=by rw[hB2.fail];rfl
 rw[hf];have hat:=CI (sa+k) ms.toList 0 (arrOf st) ();simp only[Nat.add_zero,fA]at hat;have hmi:∀p,sa+k<=p->p<sb+n2->∃t,sa+k<=t/\t<sb+n2/\eD κ (NH (sa+k) ms.toList.zipIdx (arrOf st)) p=eD κ (arrOf st) t:=by
  intro p h1 h2;have e:=hat p;rw[aH ()]at e;have lW:p-(sa+k)<ms.toList.length:=by lia
  rw[aA lW]at e;have hin:ms.toList[p-(sa+k)]∈ms.toList:=cH _;rw[hm.1.mem_iff,bX]at hin;rw[yQ e];rcases hin with hin |hin
  ·obtain⟨t,b1,b2,b3⟩:=IQ (κ:=κ) () hin;exact⟨t,b1,(),b3⟩
  ·obtain⟨t,b1,b2,b3⟩:=IQ (κ:=κ) () hin;exact⟨t,(),b2,b3⟩
 have hou:∀p,p<sa+k\/sb+n2<=p->(NH (sa+k) ms.toList.zipIdx (arrOf st))[p]?=(arrOf st)[p]?:=λp hp=>by rw[hat,aF ()]
 have hok:∀p,p<sa+k\/sb+n2<=p->eD κ (NH (sa+k) ms.toList.zipIdx (arrOf st)) p=eD κ (arrOf st) p:=λp hp=>qV (hou p hp)
 have hlo:∀p t,sa<=p->p<sa+k->p<=t->t<sb+nb->eD κ (arrOf st) p<=eD κ (arrOf st) t:=by
  intro p t h1 h2 h3 h4;by_cases ht:t<sb
  ·exact hsA p t h1 h3 ()
  ·have :=hg1 (p-sa) ();rw[show sa+(p-sa)=p by lia]at this;have :=hsB sb t () () h4;lia
 have hhi:∀t q,sa<=t->t<=q->sb+n2<=q->q<sb+nb->eD κ (arrOf st) t<=eD κ (arrOf st) q:=by
  intro t q h1 h2 h3 h4;by_cases ht:t<sb
  ·have :=hsA t (sb-1) h1 () ();have :=hg2 (q-sb) () ();rw[show sb+(q-sb)=q by lia]at this;lia
  ·exact hsB t q () h2 h4
 refine bK (h _ hB2 rfl ?_ ?_)
 ·show jH κ (NH (sa+k) ms.toList.zipIdx (arrOf cL)) sa (sb+nb);rw[harr];intro p q h1 h2 h3;by_cases hp:p<sa+k
  ·rw[hok p (.inl hp)];by_cases hq:sa+k<=q/\q<sb+n2
   ·obtain⟨t,b1,b2,b3⟩:=hmi q hq.1 hq.2;rw[b3];exact hlo p t h1 hp () ()
   ·rw[hok q ()];exact hlo p q h1 hp h2 h3
  ·by_cases hq:sb+n2<=q
   ·rw[hok q (.inr hq)];by_cases hp2:sb+n2<=p
    ·rw[hok p (.inr hp2)];exact hhi p q h1 h2 hq h3
    ·obtain⟨t,b1,b2,b3⟩:=hmi p () ();rw[b3];exact hhi t q () () hq h3
   ·have ep:=hat p;have eq:=hat q;rw[aH (),aA ()]at ep eq;rw[yQ ep,yQ eq];by_cases hpq:p=q
    ·subst hpq;exact gZ _
    ·exact(cS.mp hm.2) _ _ _ _ ()
 ·intro j hj;show(NH (sa+k) ms.toList.zipIdx (arrOf cL))[j]?=_;rw[harr];exact hou j ()
theorem ED{sa pw sb w:Nat}{Q:Bool->SortSt->Prop}(C:iS M A E s kd S κ)(h0:∀p,p∈a₀.toList->S p)(hB:SB kd a₀ st)
 (h1:(pendingOf st)[i]?=some (sa,na,pw)) (h2:(pendingOf st)[i+1]?=some (sb,nb,w)) (hna:1<=na) (hnb:1<=nb)
 (hsb:sb=sa+na) (hle:sb+nb<=a₀.size) (hsA:jH κ (arrOf st) sa (sa+na)) (hsB:jH κ (arrOf st) sb (sb+nb))
 (h:∀cL,SB kd a₀ cL->pendingOf cL=((pendingOf st).setIfInBounds i (sa,na+nb,pw)).eraseIdxIfInBounds (i+1)->jH κ (arrOf cL) sa (sb+nb)->(∀j,j<sa\/sb+nb<=j->(arrOf cL)[j]?=(arrOf st)[j]?)->Q true cL):
 wpS M A E s (mergeAt' i) Q st:=by
 have hsz:=hB.size;rw[AW];refine bC (CC ?_);rw[h1,h2];dsimp only;unfold mgA;refine bC (af ?_);have hB1:SB kd a₀ (setPending st (((pendingOf st).setIfInBounds i (sa,na+nb,pw)).eraseIdxIfInBounds (i+1))):=⟨hB.perm,hB.kind,hB.fail⟩
 obtain⟨y,ey,hy⟩:=jM (arr:=arrOf st) (i:=sb) ();have ky:=yQ (κ:=κ) ey;refine bC (yN ey ?_);refine bC (UT C hB1.kind (hB.mem h0) (hB.mem h0 y hy) () hsA () λk g1 g2 g3=>?_);dsimp only;unfold mgB;by_cases hk:na-k=0
 ·rw[aH (by simpa using hk)];refine bK (h _ hB1 rfl ?_ λj _=>rfl);intro p q b1 b2 b3;show eD κ (arrOf st) p<=eD κ (arrOf st) q;by_cases hq:q<sb
  ·exact hsA p q b1 b2 ()
  ·by_cases hp:p<sb
   ·have :=g2 (p-sa) ();rw[show sa+(p-sa)=p by lia]at this;have :=hsB sb q () () b3;lia
   ·exact hsB p q () b2 b3
 ·rw[aF (by simpa using hk)];obtain⟨x,ex,hx⟩:=jM (arr:=arrOf st) (i:=sa+k+(na-k)-1) ();have kx:=yQ (κ:=κ) ex;have ee:sa+k+(na-k)-1=sb-1:=by lia
  refine bC (yN ex ?_);refine bC (UU C hB1.kind (hB.mem h0) (hB.mem h0 x hx) () hsB () λn2 g4 g5 g6=>?_);dsimp only;rw[←kx,ee]at g5 g6;rw[←ky]at g2 g3;by_cases hn:n2=0
  ·rw[aH (by simpa using hn)];refine bK (h _ hB1 rfl ?_ λj _=>rfl);intro p q b1 b2 b3;show eD κ (arrOf st) p<=eD κ (arrOf st) q;by_cases hq:q<sb
   ·exact hsA p q b1 b2 ()
   ·by_cases hp:p<sb
    ·have :=hsA p (sb-1) b1 () ();have :=g6 (q-sb) () ();rw[show sb+(q-sb)=q by lia]at this;lia
    ·exact hsB p q () b2 b3
  ·rw[aF (by simpa using hn)];have hzA:((arrOf st).extract (sa+k) sb).size=na-k:=by rw[oA];lia
   have hzB:((arrOf st).extract sb (sb+n2)).size=n2:=by rw[oA];lia
   have H:oZ S κ ((arrOf st).extract (sa+k) sb) ((arrOf st).extract sb (sb+n2)):=by
    refine⟨?_,?_,λp hp=>hB.mem h0 p (IN hp),λp hp=>hB.mem h0 p (IN hp),(),(),?_,?_⟩
    ·intro p q b1 b2 b3;rw[hzA]at b3;rw[ZQ (),ZQ ()];exact hsA _ _ () () ()
    ·intro p q b1 b2 b3;rw[hzB]at b3;rw[ZQ (),ZQ ()];exact hsB _ _ () () ()
    ·intro j hj;rw[hzA]at hj;rw[ZQ (),ZQ ()];have :=g3 (k+j) () ();rw[show sa+(k+j)=sa+k+j by lia]at this;simpa using this
    ·intro j hj;rw[hzB]at hj;rw[hzA,ZQ (),ZQ (),show sa+k+(na-k-1)=sb-1 by lia];exact g5 j hj
   have fin:∀out cL,hW (setPending st (((pendingOf st).setIfInBounds i (sa,na+nb,pw)).eraseIdxIfInBounds (i+1))) cL->rZ κ ((arrOf st).extract (sa+k) sb) ((arrOf st).extract sb (sb+n2)) out->wpS M A E s (mgC (sa+k) out) Q cL:=by
    intro out cL hs hm;refine lv (st:=st) (na:=na) (nb:=nb) ⟨by rw[hs.arr];exact hB.perm,by rw[hs.kind];exact hB.kind,by rw[hs.fail];exact hB.fail⟩ hs.arr hsb () hsA hsB () g4 () g2 g6 hm λgA b1 b2 b3 b4=>h gA b1 (b2.trans hs.pend) b3 b4
   split
   ·exact bC (EB C H hB1.kind λout cL a1 a2=>fin out cL a1 a2)
   ·exact bC (EC C H hB1.kind λout cL a1 a2=>fin out cL a1 a2)
def NiB(κ:Keyed->Int)(xs:Array Keyed)(i j:Nat):Prop:=∀p q,i<=p->p<=q->q<j->eD κ xs q<=eD κ xs p
abbrev AsT:=Option (Option Nat)×Nat
abbrev DsT:=Option (Option Nat)×Nat×Nat
def fk(lo a fH:Nat):SM AsT:=forIn [a:fH] ((none,a):AsT) λ_ c=>ltAt' (lo+c.2) (lo+c.2-1) >>= λo=>match o with
 |some b=>if b=true then pure (ForInStep.done (none,c.2))else pure (ForInStep.yield (none,c.2+1))
 |_=>pure (ForInStep.done (some none,c.2))
def sQ(lo n fH:Nat):SM (Option Nat):=reverseSlice' lo (lo+n) >>= λ_=>fk lo n fH >>= λc=>match c.1 with
 |some r=>pure r
 |none=>pure (some c.2)
def ni(lo n fH:Nat):SM DsT:=forIn [n:fH] ((none,n,0):DsT) λ_ c=>ltAt' (lo+c.2.1) (lo+c.2.1-1) >>= λo=>match o with
 |some b=>if b=true then(if c.2.2>0 then reverseSlice' (lo+c.2.1-(c.2.2+1)) (lo+c.2.1) >>= λ_=>pure (ForInStep.yield (none,c.2.1+1,0))else pure (ForInStep.yield (none,c.2.1+1,0)))
  else ltAt' (lo+c.2.1-1) (lo+c.2.1) >>= λo=>match o with
   |some b=>if b=true then pure (ForInStep.done (none,c.2.1,c.2.2))else pure (ForInStep.yield (none,c.2.1+1,c.2.2+1))
   |_=>pure (ForInStep.done (some none,c.2.1,c.2.2))
 |_=>pure (ForInStep.done (some none,c.2.1,c.2.2))
def MQ(lo n fH:Nat):SM (Option Nat):=liftM (rule "list.sort.descending-run") >>= λ_=>ni lo (n+1) fH >>= λc=>match c.1 with
 |some r=>pure r
 |none=>if c.2.2>0 then reverseSlice' (lo+c.2.1-(c.2.2+1)) (lo+c.2.1) >>= λ_=>sQ lo c.2.1 fH else sQ lo c.2.1 fH
theorem MT(lo fH:Nat):countRun' lo fH=(fk lo 1 fH >>= λc=>match c.1 with
 |some r=>pure r
 |none=>if(c.2==fH)=true then pure (some c.2)else if c.2>1 then(ltAt' lo (lo+c.2-1) >>= λo=>match o with
  |some b=>if b=true then pure (some c.2)else reverseSlice' lo (lo+c.2) >>= λ_=>MQ lo c.2 fH
  |_=>pure none)else MQ lo c.2 fH):=by
 rw[countRun'_eq];show(_ >>= _:SM _)=_
 congr 1;funext c
 obtain⟨r,n⟩:=c;cases r with
 |some r=>rfl
 |none=>
  dsimp only;split
  ·rfl
  ·split
   ·congr 1;funext x
    cases x with
    |none=>rfl
    |some rose=>
     dsimp only;split
     ·rfl
     ·congr 1;funext _
      unfold MQ
      congr 1;funext _
      show(_ >>= _:SM _)=_
      congr 1;funext c
      obtain⟨r,m,q⟩:=c;cases r with
      |some r=>rfl
      |none=>
       dsimp only;split
       ·congr 1;funext _
        unfold sQ
        congr 1;funext _
        show(_ >>= _:SM _)=_
        congr 1;funext c
        obtain⟨r,m⟩:=c;cases r<;>rfl
       ·unfold sQ
        congr 1;funext _
        show(_ >>= _:SM _)=_
        congr 1;funext c
        obtain⟨r,m⟩:=c;cases r<;>rfl
   ·unfold MQ
    congr 1;funext _
    show(_ >>= _:SM _)=_
    congr 1;funext c
    obtain⟨r,m,q⟩:=c;cases r with
    |some r=>rfl
    |none=>
     dsimp only;split
     ·congr 1;funext _
      unfold sQ
      congr 1;funext _
      show(_ >>= _:SM _)=_
      congr 1;funext c
      obtain⟨r,m⟩:=c;cases r<;>rfl
     ·unfold sQ
      congr 1;funext _
      show(_ >>= _:SM _)=_
      congr 1;funext c
      obtain⟨r,m⟩:=c;cases r<;>rfl
structure pZ(kd:SortKind)(a₀:Array Keyed)(lo:Nat)(st0 st:SortSt):Prop where
 sb:SB kd a₀ st
 pend:pendingOf st=pendingOf st0
 out:∀j,j<lo->(arrOf st)[j]?=(arrOf st0)[j]?
theorem UQ{xs:Array Keyed}(hj:j<=xs.size)(k:Nat):eD κ (mirror xs i j ((j-i)/2)) k=if i<=k/\k<j then eD κ xs (i+j-1-k)else eD κ xs k:=by
 have e:=getElem?_mirror_all (i:=i) hj k;by_cases h1:i<=k/\k<j
 ·rw[aH h1]at e⊢;exact qV e
 ·rw[aF h1]at e⊢;exact qV e
theorem vQ{xs:Array Keyed}(hj:j<=xs.size)(heq:∀k,i<=k->k<j->eD κ xs k=eD κ xs (j-1))(k:Nat):eD κ (mirror xs i j ((j-i)/2)) k=eD κ xs k:=by
 rw[UQ hj];split
 ·rw[heq _ () (),heq k () ()]
 ·rfl
theorem HY{xs:Array Keyed}{src d:Nat}(hs:src<xs.size)(hd:d<=src)(k:Nat):eD κ (bubble xs src d) k=if k=src-d then eD κ xs src else if src-d<k/\k<=src then eD κ xs (k-1)else eD κ xs k:=by
 have e:=getElem?_bubble hs d hd k;by_cases h1:k=src-d
 ·rw[aH h1]at e⊢;exact qV e
 ·rw[aF h1]at e⊢;by_cases h2:src-d<k/\k<=src
  ·rw[aH h2]at e⊢;exact qV e
  ·rw[aF h2]at e⊢;exact qV e
section
variable {lo:Nat}
theorem pZ.mir(h:pZ kd a₀ lo st0 st){d:Nat}(hi:lo<=i)(hj:j<=(arrOf st).size)(hd:d=(j-i)/2):pZ kd a₀ lo st0 (setArr st (mirror (arrOf st) i j d)):=by
 subst hd;refine⟨h.sb.setArr (oB.mp (mirror_perm _ _ _ _)),h.pend,λk hk=>?_⟩;show(mirror (arrOf st) i j _)[k]?=_;rw[getElem?_mirror_all hj,aF ()];exact h.out k hk
theorem pZ.bub(h:pZ kd a₀ lo st0 st){src d:Nat}(hs:src<(arrOf st).size)(hd:lo+d<=src):pZ kd a₀ lo st0 (setArr st (bubble (arrOf st) src d)):=by
 refine⟨h.sb.setArr (oB.mp (bubble_perm _ _ _)),h.pend,λk hk=>?_⟩;show(bubble (arrOf st) src d)[k]?=_;rw[getElem?_bubble hs d (),aF (),aF ()];exact h.out k hk
theorem kL{Q:Option Bool->SortSt->Prop}(C:iS M A E s kd S κ)(h0:∀p,p∈a₀.toList->S p)(hB:SB kd a₀ st)(hi:i<a₀.size)(hj:j<a₀.size)
 (h:Q (some (decide (eD κ (arrOf st) i<eD κ (arrOf st) j))) st):wpS M A E s (ltAt' i j) Q st:=by
 have hz:=hB.size;obtain⟨x,ex,hx⟩:=jM (arr:=arrOf st) (i:=i) ();obtain⟨y,ey,hy⟩:=jM (arr:=arrOf st) (i:=j) ();rw[ltAt'_eq];refine bC (CC ?_);show wpS _ _ _ _ (elem' (arrOf st) i >>= λx=>elem' (arrOf st) j >>= λy=>lt' x y) Q st;refine bC (yN ex (bC (yN ey (C.lt (hB.mem h0 x hx) (hB.mem h0 y hy) hB.kind ?_))));rw[←yQ (κ:=κ) ex,←yQ (κ:=κ) ey];exact h
theorem UG{Q:Unit->SortSt->Prop}(h:Q Unit.unit (setArr st (mirror (arrOf st) i j ((j-i)/2)))):wpS M A E s (reverseSlice' i j) Q st:=by
 rw[reverseSlice'_eq];exact lX h
theorem KG{a fH:Nat}{Q:AsT->SortSt->Prop}(C:iS M A E s kd S κ)(h0:∀p,p∈a₀.toList->S p)(hn:lo+fH<=a₀.size)(ha:1<=a)(han:a<=fH)(hB:SB kd a₀ st)
 (hs:jH κ (arrOf st) lo (lo+a))
 (h:∀n,a<=n->n<=fH->jH κ (arrOf st) lo (lo+n)->(n=fH\/eD κ (arrOf st) (lo+n)<eD κ (arrOf st) (lo+n-1))->Q (none,n) st):
 wpS M A E s (fk lo a fH) Q st:=by
 unfold fk;refine eL (I:=λx c cL=>cL=st/\c=(none,x)/\jH κ (arrOf st) lo (lo+x)) ?step ?fin ⟨rfl,rfl,hs⟩
 case fin=>
  rintro c cL ⟨rfl,rfl,eP⟩;rw[show max a fH=fH by lia]at eP⊢;exact h fH han (aJ _) eP (.inl rfl)
 case step=>
  rintro x c cL hax hxn ⟨rfl,rfl,eP⟩;dsimp only;refine bC (kL C h0 hB () () ?_);by_cases hl:eD κ (arrOf cL) (lo+x)<eD κ (arrOf cL) (lo+x-1)
  ·simp only[hl,decide_true,if_true];exact bK (h x hax () eP (.inr hl))
  ·simp only[hl,decide_false,bU,dO];refine bK ⟨rfl,rfl,λi j hi hij hj=>?_⟩;by_cases hjx:j<lo+x
   ·exact eP i j hi hij hjx
   ·have hj':j=lo+x:=by lia
    subst hj';by_cases hi':i=lo+x
    ·subst hi';exact gZ _
    ·exact Int.le_trans (eP i (lo+x-1) hi () ()) (Int.not_lt.mp hl)
theorem GB{fH:Nat}{Q:Option Nat->SortSt->Prop}(C:iS M A E s kd S κ)(h0:∀p,p∈a₀.toList->S p)(hn:lo+fH<=a₀.size)(h1:1<=n)(hnn:n<=fH)(hB:pZ kd a₀ lo st0 st)
 (hs:NiB κ (arrOf st) lo (lo+n)) (h:∀m cL,pZ kd a₀ lo st0 cL->1<=m->m<=fH->jH κ (arrOf cL) lo (lo+m)->Q (some m) cL):
 wpS M A E s (sQ lo n fH) Q st:=by
 unfold sQ;have hsz:lo+n<=(arrOf st).size:=by rw[hB.sb.size];lia
 refine bC (UG ?_);have hB':=hB.mir (i:=lo) (j:=lo+n) (aJ _) hsz rfl;refine bC (KG C h0 hn h1 hnn hB'.sb ?_ λm hm1 hm2 hsm _=>bK (h m _ hB' () hm2 hsm));intro i j hi hij hj;show eD κ (mirror (arrOf st) lo (lo+n) _) i<=eD κ (mirror (arrOf st) lo (lo+n) _) j;rw[UQ hsz,UQ hsz,aH (),aH ()];exact hs _ _ () () ()
theorem eu{fH:Nat}{Q:DsT->SortSt->Prop}(C:iS M A E s kd S κ)(h0:∀p,p∈a₀.toList->S p)(hn:lo+fH<=a₀.size)(h1:1<=n)(hnn:n<=fH)(hB:pZ kd a₀ lo st0 st)
 (hs:NiB κ (arrOf st) lo (lo+n))
 (h:∀m q cL,pZ kd a₀ lo st0 cL->n<=m->m<=fH->NiB κ (arrOf cL) lo (lo+m)->q+1<=m->(∀i,lo+m-(q+1)<=i->i<lo+m->eD κ (arrOf cL) i=eD κ (arrOf cL) (lo+m-1))->Q (none,m,q) cL):
 wpS M A E s (ni lo n fH) Q st:=by
 unfold ni;refine eL (I:=λx c cL=>∃q,c=(none,x,q)/\pZ kd a₀ lo st0 cL/\NiB κ (arrOf cL) lo (lo+x)/\q+1<=x/\
  (∀i,lo+x-(q+1)<=i->i<lo+x->eD κ (arrOf cL) i=eD κ (arrOf cL) (lo+x-1))) ?step ?fin ⟨0,rfl,hB,hs,(),λi h1 h2=>by congr 1;lia⟩
 case fin=>
  rintro c cL ⟨q,rfl,hB',eP,hq,he⟩;rw[show max n fH=fH by lia]at eP hq he⊢;exact h fH q cL hB' hnn (aJ _) eP hq he
 case step=>
  rintro x c cL hax hxn ⟨q,rfl,hB',eP,hq,he⟩;dsimp only;have hsz:lo+x<=(arrOf cL).size:=by rw[hB'.sb.size];lia
  refine bC (kL C h0 hB'.sb () () ?_);by_cases hl:eD κ (arrOf cL) (lo+x)<eD κ (arrOf cL) (lo+x-1)
  ·simp only[hl,decide_true,if_true];have step1:∀xs:Array Keyed,(∀k,eD κ xs k=eD κ (arrOf cL) k)->NiB κ xs lo (lo+(x+1)):=by
    intro xs hk i j hi hij hj;rw[hk,hk];by_cases hjx:j<lo+x
    ·exact eP i j hi hij hjx
    ·have hj':j=lo+x:=by lia
     subst hj';by_cases hi':i=lo+x
     ·subst hi';exact gZ _
     ·exact Int.le_trans (pQ hl) (eP i (lo+x-1) hi () ())
   by_cases hz:q>0
   ·rw[aH hz];refine bC (UG (bK ⟨0,rfl,hB'.mir () hsz rfl,step1 _ (vQ hsz he),(),λi h1 h2=>by congr 1;lia⟩))
   ·rw[aF hz];exact bK ⟨0,rfl,hB',step1 _ (λ_=>rfl),(),λi h1 h2=>by congr 1;lia⟩
  ·simp only[hl,decide_false,bU,dO];refine bC (kL C h0 hB'.sb () () ?_);by_cases hg:eD κ (arrOf cL) (lo+x-1)<eD κ (arrOf cL) (lo+x)
   ·simp only[hg,decide_true,if_true];exact bK (h x q cL hB' hax () eP hq he)
   ·simp only[hg,decide_false,bU,dO];have hx:eD κ (arrOf cL) (lo+x)=eD κ (arrOf cL) (lo+x-1):=by lia
    refine bK ⟨q+1,rfl,hB',λi j hi hij hj=>?_,(),λi h1 h2=>?_⟩
    ·by_cases hjx:j<lo+x
     ·exact eP i j hi hij hjx
     ·have hj':j=lo+x:=by lia
      subst hj';by_cases hi':i=lo+x
      ·subst hi';exact gZ _
      ·rw[hx];exact eP i (lo+x-1) hi () ()
    ·rw[show lo+(x+1)-1=lo+x by lia];by_cases hix:i=lo+x
     ·subst hix;rfl
     ·rw[hx];exact he i () ()
theorem IT{fH:Nat}{Q:Option Nat->SortSt->Prop}(C:iS M A E s kd S κ)(h0:∀p,p∈a₀.toList->S p)(hn:lo+fH<=a₀.size)(hnn:n+1<=fH)(hB:pZ kd a₀ lo st0 st)
 (hs:NiB κ (arrOf st) lo (lo+(n+1))) (h:∀m cL,pZ kd a₀ lo st0 cL->1<=m->m<=fH->jH κ (arrOf cL) lo (lo+m)->Q (some m) cL):
 wpS M A E s (MQ lo n fH) Q st:=by
 unfold MQ;refine bC (i9 (iC ⟨rfl,?_⟩));refine bC (eu C h0 hn () hnn hB hs λm q cL hB' hm1 hm2 eP hq he=>?_);dsimp only;have hsz:lo+m<=(arrOf cL).size:=by rw[hB'.sb.size];lia
 by_cases hz:q>0
 ·rw[aH hz];refine bC (UG (GB C h0 hn () hm2 (hB'.mir () hsz rfl) ?_ h));intro i j hi hij hj;show eD κ (mirror (arrOf cL) _ _ _) j<=eD κ (mirror (arrOf cL) _ _ _) i;rw[vQ hsz he,vQ hsz he];exact eP i j hi hij hj
 ·rw[aF hz];exact GB C h0 hn () hm2 hB' eP h
theorem BL{fH:Nat}{Q:Option Nat->SortSt->Prop}(C:iS M A E s kd S κ)(h0:∀p,p∈a₀.toList->S p)(hn:lo+fH<=a₀.size)(h1:1<=fH)(hB:pZ kd a₀ lo st0 st)
 (h:∀m cL,pZ kd a₀ lo st0 cL->1<=m->m<=fH->jH κ (arrOf cL) lo (lo+m)->Q (some m) cL):
 wpS M A E s (countRun' lo fH) Q st:=by
 rw[MT];refine bC (KG C h0 hn (aJ 1) h1 hB.sb (λi j hi hij hj=>by have :i=j:=();subst this;exact gZ _) λn hn1 hn2 hsn hor=>?_);dsimp only;by_cases hnn:n=fH
 ·rw[aH (by simpa using hnn)];exact bK (h n st hB hn1 hn2 hsn)
 ·rw[aF (by simpa using hnn)];have lW:=hor.resolve_left hnn;by_cases hgt:n>1
  ·rw[aH hgt];refine bC (kL C h0 hB.sb () () ?_);by_cases hr:eD κ (arrOf st) lo<eD κ (arrOf st) (lo+n-1)
   ·simp only[hr,decide_true,if_true];exact bK (h n st hB hn1 hn2 hsn)
   ·simp only[hr,decide_false,bU,dO];have hsz:lo+n<=(arrOf st).size:=by rw[hB.sb.size];lia
    have hall:∀k,lo<=k->k<lo+n->eD κ (arrOf st) k=eD κ (arrOf st) (lo+n-1):=by
     intro k hk0 hk;have a1:=hsn lo k () hk0 hk;have a2:=hsn k (lo+n-1) hk0 () ();lia
    refine bC (UG (IT C h0 hn () (hB.mir (aJ _) hsz rfl) ?_ h));intro i j hi hij hj;show eD κ (mirror (arrOf st) _ _ _) j<=eD κ (mirror (arrOf st) _ _ _) i;rw[vQ hsz hall,vQ hsz hall];by_cases hjn:j<lo+n
    ·rw[hall i () (),hall j () hjn];exact gZ _
    ·have hj':j=lo+n:=by lia
     subst hj';by_cases hi':i=lo+n
     ·subst hi';exact gZ _
     ·rw[hall i () ()];exact pQ lW
  ·rw[aF hgt];have hn1':n=1:=by lia
   subst hn1';refine IT C h0 hn () hB ?_ h;intro i j hi hij hj;by_cases hi':i=j
   ·subst hi';exact gZ _
   ·have hi0:i=lo:=by lia
    have hj1:j=lo+1:=by lia
    subst hi0;subst hj1;rw[Nat.add_sub_cancel]at lW;exact pQ lW
theorem FD{ok:Nat}{Q:Bool->SortSt->Prop}(C:iS M A E s kd S κ)(h0:∀p,p∈a₀.toList->S p)(hn:lo+n<=a₀.size)(hok:ok<=n)(hB:pZ kd a₀ lo st0 st)(hs:jH κ (arrOf st) lo (lo+ok))
 (h:∀cL,pZ kd a₀ lo st0 cL->jH κ (arrOf cL) lo (lo+n)->Q true cL):wpS M A E s (binarySort' lo n ok) Q st:=by
 rw[binarySort'_eq];refine bC (fT (eL (I:=λk c cL=>c=(none,Unit.unit)/\pZ kd a₀ lo st0 cL/\jH κ (arrOf cL) lo (lo+min k n))
  (Q:=λc cL=>c=(none,Unit.unit)/\pZ kd a₀ lo st0 cL/\jH κ (arrOf cL) lo (lo+n)) ?step ?fin ?init) ?post)
 case post=>
  rintro c cL ⟨rfl,hB',eP⟩;exact bK (h cL hB' eP)
 case init=>
  refine⟨rfl,hB,λi j hi hij hj=>?_⟩;by_cases h1:ok=0
  ·have :i=j:=by lia
   subst this;exact gZ _
  ·exact hs i j hi hij ()
 case fin=>
  rintro c cL ⟨hc,hB',eP⟩;refine⟨hc,hB',?_⟩;rwa[show min (max (max ok 1) n) n=n by lia]at eP
 case step=>
  rintro k c cL hak hkn ⟨rfl,hB',eP⟩;rw[show min k n=k by lia]at eP;have hk:lo+k<a₀.size:=by lia
  refine bC (fT (eL (I:=λx c gA=>gA=cL/\∃l r,c=(none,l,r)/\l<=r/\r<=k/\r-l<=k-x/\
   (∀i,i<l->eD κ (arrOf cL) (lo+i)<=eD κ (arrOf cL) (lo+k))/\(∀i,r<=i->i<k->eD κ (arrOf cL) (lo+k)<eD κ (arrOf cL) (lo+i)))
   (Q:=λc gA=>gA=cL/\∃l r,c=(none,l,r)/\l<=k/\
    (∀i,i<l->eD κ (arrOf cL) (lo+i)<=eD κ (arrOf cL) (lo+k))/\(∀i,l<=i->i<k->eD κ (arrOf cL) (lo+k)<eD κ (arrOf cL) (lo+i))) ?istep ?ifin ?iinit) ?ipost)
  case iinit=>exact⟨rfl,0,k,rfl,(),(),(),λi hi=>(),λi h1 h2=>()⟩
  case ifin=>
   rintro c gA ⟨rfl,l,r,rfl,hlr,hrk,hm,hlo,hhi⟩;have :l=r:=by lia
   subst this;exact⟨rfl,l,l,rfl,hrk,hlo,hhi⟩
  case istep=>
   rintro x c gA _ hxk ⟨rfl,l,r,rfl,hlr,hrk,hm,hlo,hhi⟩;dsimp only;by_cases hge:l≥r
   ·rw[aH hge];have :l=r:=by lia
    subst this;exact bK ⟨rfl,l,l,rfl,hrk,hlo,hhi⟩
   ·rw[aF hge];refine bC (kL C h0 hB'.sb hk () ?_);by_cases hl:eD κ (arrOf gA) (lo+k)<eD κ (arrOf gA) (lo+(l+r)/2)
    ·simp only[hl,decide_true,if_true];refine bK ⟨rfl,l,(l+r)/2,rfl,(),(),(),hlo,λi h1 h2=>?_⟩;exact Int.lt_of_lt_of_le hl (eP _ _ () () ())
    ·simp only[hl,decide_false,bU,dO];refine bK ⟨rfl,(l+r)/2+1,r,rfl,(),(),(),λi h1=>?_,hhi⟩;exact Int.le_trans (eP (lo+i) (lo+(l+r)/2) () () ()) (Int.not_lt.mp hl)
  case ipost=>
   rintro c gA ⟨rfl,l,r,rfl,hlk,hlo,hhi⟩;show wpS _ _ _ _ (moveDown' (lo+k) (lo+l) >>= λ_=>pure (ForInStep.yield (none,Unit.unit))) _ _;rw[moveDown'_eq];have hks:lo+k<(arrOf gA).size:=by rw[hB'.sb.size];exact hk
   refine bC (lX (bK ⟨rfl,hB'.bub hks (),?_⟩));rw[show min (k+1) n=k+1 by lia];intro i j hi hij hj;show eD κ (bubble (arrOf gA) (lo+k) (lo+k-(lo+l))) i<=eD κ (bubble (arrOf gA) (lo+k) (lo+k-(lo+l))) j;have hlo':∀i,lo<=i->i<lo+l->eD κ (arrOf gA) i<=eD κ (arrOf gA) (lo+k):=λi h1 h2=>by
    have :=hlo (i-lo) ();rwa[show lo+(i-lo)=i by lia]at this
   have hhi':∀i,lo+l<=i->i<lo+k->eD κ (arrOf gA) (lo+k)<=eD κ (arrOf gA) i:=λi h1 h2=>by
    have :=hhi (i-lo) () ();rw[show lo+(i-lo)=i by lia]at this;exact pQ this
   rw[HY hks (),HY hks (),show lo+k-(lo+k-(lo+l))=lo+l by lia]
   repeat' split
   all_goals first
    |(exfalso;lia)
    |exact gZ _
    |exact hlo' _ () ()
    |exact hhi' _ () ()
    |exact eP _ _ () () ()
end
abbrev JK:=Nat×Nat×Nat
def mU(κ:Keyed->Int)(xs:Array Keyed):Nat->List JK->Nat->Prop
 |s,[],e=>s=e
 |s,x::l,e=>x.1=s/\1<=x.2.1/\jH κ xs s (s+x.2.1)/\mU κ xs (s+x.2.1) l e
section
variable {xs ys:Array Keyed}
theorem mU.le:∀{l:List JK}{s e:Nat},mU κ xs s l e->s+l.length<=e
 |[],s,e,h=>by have h:s=e:=h;simp[h]
 |x::l,s,e,⟨h1,h2,h3,h4⟩=>by
  have :=mU.le h4;simp only[bB];lia
theorem mU.app:∀{l1 l2:List JK}{s e:Nat},mU κ xs s (l1++l2) e->∃m,mU κ xs s l1 m/\mU κ xs m l2 e
 |[],l2,s,e,h=>⟨s,rfl,h⟩
 |x::l1,l2,s,e,⟨h1,h2,h3,h4⟩=>by
  obtain⟨m,a1,a2⟩:=mU.app h4;exact⟨m,⟨h1,h2,h3,a1⟩,a2⟩
theorem mU.join:∀{l1 l2:List JK}{s m e:Nat},mU κ xs s l1 m->mU κ xs m l2 e->mU κ xs s (l1++l2) e
 |[],l2,s,m,e,h,h'=>by have h:s=m:=h;subst h;exact h'
 |x::l1,l2,s,m,e,⟨h1,h2,h3,h4⟩,h'=>⟨h1,h2,h3,mU.join h4 h'⟩
theorem mU.cg:∀{l:List JK}{s e:Nat},mU κ xs s l e->(∀j,s<=j->j<e->ys[j]?=xs[j]?)->mU κ ys s l e
 |[],s,e,h,_=>h
 |x::l,s,e,⟨h1,h2,h3,h4⟩,hc=>by
  have hle:=mU.le h4;refine⟨h1,h2,λp q a1 a2 a3=>?_,mU.cg h4 λj a b=>hc j () b⟩;rw[qV (hc p () ()),qV (hc q () ())];exact h3 p q a1 a2 a3
theorem mU.mod:∀{l:List JK}{s e:Nat}(i:Nat)(f:JK->JK),(∀x,(f x).1=x.1/\(f x).2.1=x.2.1)->mU κ xs s l e->mU κ xs s (l.modify i f) e
 |[],s,e,i,f,_,h=>by simpa using h
 |x::l,s,e,0,f,hf,⟨h1,h2,h3,h4⟩=>by
  show mU κ xs s (f x::l) e;obtain⟨a,b⟩:=hf x;refine⟨a.trans h1,?_,?_,?_⟩<;>rw[b]<;>assumption
 |x::l,s,e,i+1,f,hf,⟨h1,h2,h3,h4⟩=>by
  show mU κ xs s (x::l.modify i f) e;exact⟨h1,h2,h3,mU.mod i f hf h4⟩
theorem l_two{l:List JK}(h:i+1<l.length):∃l1 a b l2,l=l1++a::b::l2/\l1.length=i/\l[i]?=some a/\l[i+1]?=some b:=by
 refine⟨l.take i,l[i],l[i+1],l.drop (i+2),?_,by rw[bH];lia,aA _,aA _⟩;have e1:l.drop i=l[i]::l.drop (i+1):=fF ();have e2:l.drop (i+1)=l[i+1]::l.drop (i+2):=fF ();rw[←e2,←e1,dW]
theorem d8(l1 l2:List JK)(a b x:JK):((l1++a::b::l2).set l1.length x).eraseIdx (l1.length+1)=l1++x::l2:=by
 rw[List.set_append_right _ _ (aJ _),iP,List.set_cons_zero,List.eraseIdx_append_of_length_le (),pF];rfl
end
theorem QC{e:Nat}{Q:Bool->SortSt->Prop}(C:iS M A E s kd S κ)(h0:∀p,p∈a₀.toList->S p)(hB:SB kd a₀ st)(hc:mU κ (arrOf st) 0 (pendingOf st).toList e)(he:e<=a₀.size)(hi:i+1<(pendingOf st).size)
 (h:∀cL,SB kd a₀ cL->mU κ (arrOf cL) 0 (pendingOf cL).toList e->(pendingOf cL).size+1=(pendingOf st).size->(∀j,e<=j->(arrOf cL)[j]?=(arrOf st)[j]?)->Q true cL):wpS M A E s (mergeAt' i) Q st:=by
 obtain⟨l1,⟨sa,na,pw⟩,⟨sb,nb,w⟩,l2,e1,e2,e3,e4⟩:=l_two (l:=(pendingOf st).toList) (by simpa using hi);have hc':=hc;rw[e1]at hc';obtain⟨m,c1,c2,c3,c4,c5,c6,c7,c8⟩:=hc'.app;dsimp only at c2 c3 c4 c5 c6 c7 c8;have hl:=c8.le;have hm:=c1.le;subst c2;refine ED C h0 hB (by rw[←cY];exact e3) (by rw[←cY];exact e4) c3 c6 c5 () c4 (by rw[c5];exact c7) λcL b1 b2 b3 b4=>?_
 have hp:(pendingOf cL).toList=l1++(sa,na+nb,pw)::l2:=by
  rw[b2];have :(((pendingOf st).setIfInBounds i (sa,na+nb,pw)).eraseIdxIfInBounds (i+1)).toList=((pendingOf st).toList.set i (sa,na+nb,pw)).eraseIdx (i+1):=by simp
  rw[this,e1,←e2,d8]
 refine h cL b1 ?_ ?_ λj hj=>b4 j ()
 ·rw[hp];refine(c1.cg λj _ hj=>b4 j (.inl hj)).join ⟨rfl,by dsimp only;lia,?_,?_⟩
  ·dsimp only;rw[←Nat.add_assoc,←c5];exact b3
  ·dsimp only;rw[←Nat.add_assoc];exact c8.cg λj hj _=>b4 j (.inr ())
 ·rw[←bP,←bP,hp,e1];simp only[aP,bB];lia
theorem TZ{β:Type}{lo mr size:Nat}{dn X Y:SM β}{Q:β->SortSt->Prop}(C:iS M A E s kd S κ)(h0:∀p,p∈a₀.toList->S p)(hsz:size=a₀.size)(hB:pZ kd a₀ lo st0 st)(h1:1<=n)(hn:lo+n<=size)(hs:jH κ (arrOf st) lo (lo+n))
 (hX:∀n',n'=min (size-lo) mr->∀cL,pZ kd a₀ lo st0 cL->1<=n'->lo+n'<=size->jH κ (arrOf cL) lo (lo+n')->wpS M A E s X Q cL)
 (hY:∀n',n'=n->∀cL,pZ kd a₀ lo st0 cL->1<=n'->lo+n'<=size->jH κ (arrOf cL) lo (lo+n')->wpS M A E s Y Q cL):
 wpS M A E s (if n<mr then(liftM (rule "list.sort.binary-insertion") >>= λ_=>binarySort' lo (min (size-lo) mr) n >>= λb=>if(!b)=true then dn else X)else Y) Q st:=by
 by_cases lW:n<mr
 ·rw[aH lW];refine bC (i9 (iC ⟨rfl,?_⟩));refine bC (FD C h0 () () hB hs λcL b1 b2=>?_);simp only[aM,bU,dO];exact hX _ rfl cL b1 () () b2
 ·rw[aF lW];exact hY n rfl st hB h1 hn hs
theorem sW{Q:Unit->SortSt->Prop}(C:iS M A E s kd S κ)(h0:∀p,p∈a₀.toList->S p)(hB:SB kd a₀ st)(hp:pendingOf st= #[])
 (h:∀cL,SB kd a₀ cL->jH κ (arrOf cL) 0 a₀.size->Q Unit.unit cL):wpS M A E s sortRuns' Q st:=by
 rw[sortRuns'_eq];refine bC (CC ?_);dsimp only;simp only[hB.size];generalize minRun' a₀.size a₀.size 0=mr;refine bC (fT (eL
  (I:=λx c cL=>∃lo,c=(none,lo)/\x<=lo/\lo<=a₀.size/\SB kd a₀ cL/\mU κ (arrOf cL) 0 (pendingOf cL).toList lo)
  (Q:=λc cL=>c=(none,a₀.size)/\SB kd a₀ cL/\mU κ (arrOf cL) 0 (pendingOf cL).toList a₀.size) ?step ?fin ⟨0,rfl,aJ _,cO _,hB,by rw[hp];rfl⟩) ?post)
 case fin=>
  rintro c cL ⟨lo,rfl,a1,a2,a3,a4⟩;have :lo=a₀.size:=by lia
  subst this;exact⟨rfl,a3,a4⟩
 case step=>
  rintro x c cL _ hx ⟨lo,rfl,a1,a2,a3,a4⟩;dsimp only;by_cases hge:lo≥a₀.size
  ·rw[aH hge];have :lo=a₀.size:=by lia
   subst this;exact bK ⟨rfl,a3,a4⟩
  ·rw[aF hge];refine bC (BL (st0:=cL) C h0 () () ⟨a3,rfl,λ_ _=>rfl⟩ λm st2 hB2 hm1 hm2 hs2=>?_);dsimp only;refine TZ C h0 rfl hB2 hm1 () hs2 (λn hn st3 hB3 hn1 hn2 hs3=>?_) (λn hn st3 hB3 hn1 hn2 hs3=>?_)
   all_goals
    rw[←hn];have hc3:mU κ (arrOf st3) 0 (pendingOf st3).toList lo:=by rw[hB3.pend];exact a4.cg λj _ hj=>hB3.out j hj
    have fin:∀(mG:SortSt),SB kd a₀ mG->mU κ (arrOf mG) 0 (pendingOf mG).toList lo->jH κ (arrOf mG) lo (lo+n)->
     ∃lo',(none,lo+n)=((none,lo'):Option Unit×Nat)/\x+1<=lo'/\lo'<=a₀.size/\SB kd a₀ (setPending mG ((pendingOf mG).push (lo,n,0)))/\mU κ (arrOf (setPending mG ((pendingOf mG).push (lo,n,0)))) 0 (pendingOf (setPending mG ((pendingOf mG).push (lo,n,0)))).toList lo':=by
     intro mG b1 b2 b3;refine⟨lo+n,rfl,(),hn2,⟨b1.perm,b1.kind,b1.fail⟩,?_⟩;show mU κ (arrOf mG) 0 ((pendingOf mG).push (lo,n,0)).toList (lo+n);rw[Array.toList_push];exact b2.join ⟨rfl,hn1,b3,rfl⟩
    refine bC (CC ?_);cases hb:(pendingOf st3).back? with
    |none=>
     dsimp only;exact bC (lX (bK (fin st3 hB3.sb hc3 hs3)))
    |some r=>
     obtain⟨s1,n1,p1⟩:=r;dsimp only;generalize power' a₀.size (2*s1+n1) (2*s1+n1+n1+n) a₀.size=pw;refine bC (fT (eL
      (I:=λ_ c mG=>c=(none,Unit.unit)/\SB kd a₀ mG/\mU κ (arrOf mG) 0 (pendingOf mG).toList lo/\jH κ (arrOf mG) lo (lo+n))
      (Q:=λc mG=>c=(none,Unit.unit)/\SB kd a₀ mG/\mU κ (arrOf mG) 0 (pendingOf mG).toList lo/\jH κ (arrOf mG) lo (lo+n)) ?_ (λ_ _ hh=>hh) ⟨rfl,hB3.sb,hc3,hs3⟩) ?_)
     ·rintro y c mG _ _ ⟨rfl,b1,b2,b3⟩;refine bC (CC ?_)
      skip
      by_cases hz:(pendingOf mG).size>1
      ·rw[aH hz];rw[getElem?_pos (pendingOf mG) ((pendingOf mG).size-2) ()];generalize (pendingOf mG)[(pendingOf mG).size-2]=r;obtain⟨r1,r2,older⟩:=r;dsimp only;by_cases ho:older<=pw
       ·rw[aH ho];exact bK ⟨rfl,b1,b2,b3⟩
       ·rw[aF ho];refine bC (QC C h0 b1 b2 a2 () λst5 d1 d2 d3 d4=>?_);simp only[aM,bU,dO];refine bK ⟨rfl,d1,d2,λp q e1 e2 e3=>?_⟩;rw[qV (d4 p e1),qV (d4 q ())];exact b3 p q e1 e2 e3
      ·rw[aF hz];exact bK ⟨rfl,b1,b2,b3⟩
     ·rintro c mG ⟨rfl,b1,b2,b3⟩;dsimp only;refine bC (lX ?_);refine bC (lX (bK (fin (setPending mG _) ⟨b1.perm,b1.kind,b1.fail⟩ ?_ b3)));show mU κ (arrOf mG) 0 ((pendingOf mG).modify _ _).toList lo;rw[Array.toList_modify];exact b2.mod _ _ λ_=>⟨rfl,rfl⟩
 case post=>
  rintro c cL ⟨rfl,hB',hc'⟩;dsimp only;have hl0:=hc'.le;rw[bP]at hl0;refine bC (fT (eL
   (I:=λx c gA=>c=(none,Unit.unit)/\SB kd a₀ gA/\mU κ (arrOf gA) 0 (pendingOf gA).toList a₀.size/\(pendingOf gA).size<=a₀.size-x+1)
   (Q:=λc gA=>c=(none,Unit.unit)/\SB kd a₀ gA/\mU κ (arrOf gA) 0 (pendingOf gA).toList a₀.size/\(pendingOf gA).size<=1) ?_ ?_ ⟨rfl,hB',hc',()⟩) ?_)
  ·rintro x c mG _ hx ⟨rfl,b1,b2,b3⟩;refine bC (CC ?_)
   skip
   by_cases hz:(pendingOf mG).size<=1
   ·rw[aH hz];exact bK ⟨rfl,b1,b2,hz⟩
   ·rw[aF hz];refine bC (QC C h0 b1 b2 (aJ _) ?_ λst5 d1 d2 d3 d4=>?_)
    ·by_cases hi0:(pendingOf mG).size-2>0
     ·rw[aH hi0];split<;>lia
     ·rw[aF hi0];simp only[Option.any_none,bU,dO];lia
    ·simp only[aM,bU,dO];exact bK ⟨rfl,d1,d2,()⟩
  ·rintro c mG ⟨rfl,b1,b2,b3⟩;exact⟨rfl,b1,b2,()⟩
  ·rintro c mG ⟨rfl,b1,b2,b3⟩;refine bK (h mG b1 ?_);rw[←bP]at b3
   match hl:(pendingOf mG).toList,b2,b3 with
   |[],b2,_=>
    have b2:0=a₀.size:=b2;intro p q e1 e2 e3;lia
   |[x],⟨c1,c2,c3,c4⟩,_=>
    have c4:0+x.2.1=a₀.size:=c4;rw[c4]at c3;exact c3
section
open PySem.SeqAt PySem.W
abbrev κI(p:Keyed):Int:=numOf p.1
theorem ij(xs:Array Keyed)(i:Nat):eD κI xs i=PyProof.Rows.K xs i:=by
 unfold eD PyProof.Rows.K;cases xs[i]?<;>rfl
theorem cmpI:iS (model prog w) A E s oneType' (λp=>∃n t,p.1=.int n t) κI:=by
 refine⟨λ{x y st Q} hx hy hk h=>?_⟩;obtain⟨n,t,ex⟩:=hx;obtain⟨m,u,ey⟩:=hy;rw[lt'_eq];refine bC (CC ?_);rw[hk,keyLt'_oneType,ex,ey];refine bC (i9 (NO (oneLt_int ⟨rfl,?_⟩)));have e:decide (κI x<κI y)=decide (n<m):=by show decide (numOf x.1<numOf y.1)=_;rw[ex,ey];rfl
 rw[e]at h;exact bK h
theorem EI{vs:List Value}{ns:List Int}{P:PySem.Fin->Shared->Prop}(ho:s.heap.get? a=some (seqObj "list" vs.toArray n))(hI:IntsAre vs ns)(hbig:vs.length<100000)
 (h:∀(out:Array Value)(ns':List Int),IntsAre out.toList ns'->ns'.Perm ns->ns'.Pairwise (· <= ·)->P (.done (.ret .none)) {s with heap:=sortedHeap s.heap a vs out}):wpAny (model prog w) A (Builtin.«list.sort» ⟨[.ref a],[]⟩) P E s:=by
 by_cases h64:vs.length<64
 ·exact list_sort_tree ho hI h64 h
 rw[list_sort_plain];have ha:a<s.heap.objs.size:=bJ ho;have hsz:vs.toArray.size=vs.length:=by simp
 refine aG (listItems_at ho rfl ?_);refine aG (listUpdate_at ho rfl ?_ (by rw[hsz,eT];lia) (cO _));obtain⟨e1,ho1⟩:∃e1,(s.heap.update a (Obj.mapSeq λ_=> #[])).get? a=some (seqObj "list" #[] e1):=⟨_,get?_update_seq ho (λ_=> #[])⟩
 refine aG (seqEpoch_at ho1 rfl ?_);refine aG (wpAny_newTuple ?_ (by show vs.length<=_;rw[eT];lia));refine aG (wpAny_newList ?_ (cO _));refine eV ?_;have ho6:(((s.heap.update a (Obj.mapSeq λ_=> #[])).push (seqObj "tuple" vs.toArray 0)).push (seqObj "list" #[] 0)).get? a=some (seqObj "list" #[] e1):=by
  rw[Heap.get?_push_ne _ _ _ (by rw[size_push',Heap.size_update];exact cG (FN ha)),Heap.get?_push_ne _ _ _ (by rw[Heap.size_update];exact cG ha)];exact ho1
 show wpAny (model prog w) A _ P E {s with heap:=((s.heap.update a (Obj.mapSeq λ_=> #[])).push (seqObj "tuple" vs.toArray 0)).push (seqObj "list" #[] 0)};dsimp only;rw[aF (by rw[hsz];lia),aF (by rw[hsz];lia)];have hkk:keyKind' vs.toArray=pure oneType':=by
  obtain⟨v1,v2,l,rfl⟩:∃v1 v2 l,vs=v1::v2::l:=by
   rcases vs with _ |⟨v1,_ |⟨v2,l⟩⟩
   ·exact absurd h64 (by simp)
   ·exact absurd h64 (by simp)
   ·exact⟨v1,v2,l,rfl⟩
  exact keyKind_ints hI
 rw[hkk];refine aG (aU ?_);refine aG (mB (sW (a₀:=pairsOf vs) (st:=SortSt.mk' oneType' (vs.toArray.zip vs.toArray) #[] 7 none)
  (Q:=λ_ cL=>SB oneType' (pairsOf vs) cL/\jH κI (arrOf cL) 0 (pairsOf vs).size) cmpI hI.intKeys ⟨List.Perm.refl _,rfl,rfl⟩ rfl λcL b1 b2=>⟨b1,b2⟩) ?_ λ_ _ e=>e)
 rintro⟨⟨⟩,cL⟩ s' ⟨rfl,hB,hs⟩;dsimp only;have hz:((arrOf cL).map (·.2)).size=vs.length:=by rw[Array.size_map,hB.size,pairsOf_size]
 refine aG (seqEpoch_at ho6 rfl ?_);refine aG (listUpdate_at ho6 rfl ?_ (cO _) (by rw[hz,eT];lia));rw[hB.fail];simp only[bne_self_eq_false,bU,dO];obtain⟨ns',d1,d2,d3⟩:=sorted_out hI (oB.mpr hB.perm) λi j hij hj=>by
  have :=hs i j (cO _) hij hj;rwa[ij,ij]at this
 exact aU (h _ ns' d1 d2 d3)
section
variable {P:Nat->Value->Prop} {OK:Heap->Prop}
theorem UB(K:KdlSrc prog w T r d n P OK)(hh:A.handled=none)(hok:OK s.heap)(hn:n<100000){ss:List Int}(hl:ss.length=n)(hP:∀(i:Nat)(v:Value)(x:Int),P i v->ss[i]?=some x->∃t,v=.int x t)
 (h:∀(h1 h':Heap)(tk:Nat)(gX:List Value)(ss':List Int)(e:Nat),(∀b o,s.heap.get? b=some o->h1.get? b=some o)->(∀b o,h1.get? b=some o->h'.get? b=some o)->h'.get? h1.objs.size=some {cls:=.type "list",data:=.seq gX.toArray e}->IntsAre gX ss'->ss'.Perm ss->ss'.Pairwise (· <= ·)->Q (.ref h1.objs.size) {s with heap:=h',toks:=tk}):
 wpAny (model prog w) A (call (.builtin "sorted") [.ref r]) Q E s:=by
 have hs:sizeLine=16777216:=eT;refine Calls.call_function_entry kind_sorted plain_sorted entry_sorted (args_sorted1 _) ?_;unfold Builtin.«sorted»;refine aG (m:=checkCount "sorted" 1 1 _) (aU ?_);refine aG (kdu_collect (A:=A.in1) K hh hok () λh' tk mD hk hacc=>?_);have hl2:mD.toList.length=n:=by rw[bP];exact hacc.1
 have hS:IntsAre mD.toList ss:=AZ () λi v x h1 h2=>hP i v x (hacc.2 i v (by rw[←cY];exact h1)) h2
 generalize mD.toList=vs at hl2 hS;refine aG (wpAny_newList ?_ ());have hoL:(h'.push (seqObj "list" vs.toArray 0)).get? h'.objs.size=some (seqObj "list" vs.toArray 0):=bQ _ rfl;show wpAny _ _ _ _ _ {s with heap:=h'.push (seqObj "list" vs.toArray 0),toks:=tk};refine aG (eV (lG slot_list_sort ⟨_,hoL,rfl⟩ entry_list_sort (EI (A:=A.in1.in1) hoL hS () λout ss' a1 a2 a3=>⟨_,rfl,?_⟩) (args_list_sort _)));obtain⟨e,he⟩:=sortedHeap_at (out:=out) hoL;refine aU ⟨_,rfl,h h' _ tk _ ss' e hk (λb o hb'=>?_) (by rw[Array.toArray_toList];exact he) a1 a2 a3⟩;have lW:=bJ hb';rw[sortedHeap_old (cG lW) (by rw[size_push'];exact FN lW)];exact aS _ hb'
end
theorem JG:uA X (.builtin "sorted") (λxs H Q=>n6 X.calm (pI xs λx=>mI x λp=>∃kvs:List (eZ×V),H p=some (.dK kvs)/\∃zs:List Int,kvs.map (·.1)=zs.map Sum.inl/\zs.length<100000/\
 ∀(l:Addr)(zs':List Int),H l=none->zs'.Perm zs->zs'.Pairwise (· <= ·)->Q (.ref l) (upd H l (.lst (zs'.map V.int))))):=by
 intro aI s σ H xs us Q I r h;replace h:=VT h;obtain⟨hc,h⟩:=h;replace h:=ZY h;obtain⟨x0,rfl,h⟩:=h;replace h:=xS h;obtain⟨p,rfl,kvs,hp,zs,hk,h64,q⟩:=h;obtain⟨u,rfl,ru⟩:=vA r;cases ru;obtain⟨z,hd,vs,mH,dd⟩:=kN I.hok (.inl hp);obtain⟨ep,hat⟩:=dd.dictAt;have hvl:kvs.length=vs.length:=fQ mH;have hkl:kvs.length=zs.length:=by have :=cJ List.length hk;rwa[aE,aE]at this
 have hkeys:vs.map (·.1)=zs.map Sum.inl:=(UP mH).trans hk;refine UB (kdl_dict (knd:=yC X.prog X.w) (kvs:=vs) (ep:=ep) hd) (I.ok.hd hc) hat () (ss:=zs) () (λi v x hP hx=>?_) λh1 h' tk gX ss' e k1 k2 hB hS hp2 hs2=>?_
 ·obtain⟨k,y,h1,h2⟩:=hP;have e1:(vs.map (·.1))[i]?=some k:=by rw[aQ,h1];rfl
  rw[hkeys,aQ,hx]at e1;cases e1;have h2:XW (.inl x) v=true:=h2;rcases yX h2 with⟨x',t,e,e2⟩ |⟨_,_,e,_⟩
  ·cases e;exact⟨t,e2⟩
  ·cases e
 ·have I1:Inv X aI σ H {s with heap:=h1,toks:=tk}:=I.kept k1;have fA:ss'.length=zs.length:=hp2.length_eq;exact⟨.ref h1.objs.size,_,I1.laid (a:=h1.objs.size) (o:=.lst (ss'.map V.int)) (t':=tk) k2 (aJ _) ⟨by rw[aE,eT];lia,gX,e,QG hS,hB⟩,rfl,q _ _ (I1.hok.fresh (aJ _)) hp2 hs2⟩
end
section
open PySem.SeqAt
mutual
theorem dD.keepK{H H':Hp}(k:∀b o,(∃xs,o=.tup xs\/o=.lst xs)->H b=some o->H' b=some o):∀{d:Dt}{v:V},dD H d v->dD H' d v
 | .tup ds,v,h=>let ⟨a,us,e1,e2,e3⟩:=h;⟨a,us,e1,k _ _ ⟨us,.inl rfl⟩ e2,bA.keepK k e3⟩
 | .lst ds,v,h=>let ⟨a,us,e1,e2,e3⟩:=h;⟨a,us,e1,k _ _ ⟨us,.inr rfl⟩ e2,bA.keepK k e3⟩
 | .str z,v,h=>h
 | .int i,v,h=>h
 | .bl b,v,h=>h
 | .non,v,h=>h
theorem bA.keepK{H H':Hp}(k:∀b o,(∃xs,o=.tup xs\/o=.lst xs)->H b=some o->H' b=some o):∀{ds:List Dt}{vs:List V},bA H ds vs->bA H' ds vs
 |[],vs,h=>h
 |d::ds,vs,h=>let ⟨v,r,e,h1,h2⟩:=h;⟨v,r,e,dD.keepK k h1,bA.keepK k h2⟩
end
end
section
open PySem.SeqAt
mutual
def NM(K:W.Frag)(H:Hp):Dt->V->Prop
 | .str z,v=>v=.str z
 | .int i,v=>v=.int i
 | .bl b,v=>v=.bl b
 | .non,v=>v=.non
 | .tup ds,v=>∃a us,v=.ref a/\cW K H a us/\oR K H ds us
 | .lst ds,v=>∃a us,v=.ref a/\H a=some (.lst us)/\oR K H ds us
def oR(K:W.Frag)(H:Hp):List Dt->List V->Prop
 |[],vs=>vs=[]
 |d::ds,vs=>∃v r,vs=v::r/\NM K H d v/\oR K H ds r
end
mutual
theorem NM.of{K:W.Frag}{H:Hp}:∀{d:Dt}{v:V},dD H d v->NM K H d v
 | .tup ds,v,h=>let ⟨a,us,e1,e2,e3⟩:=h;⟨a,us,e1,cW.of e2,oR.of e3⟩
 | .lst ds,v,h=>let ⟨a,us,e1,e2,e3⟩:=h;⟨a,us,e1,e2,oR.of e3⟩
 | .str z,v,h=>h
 | .int i,v,h=>h
 | .bl b,v,h=>h
 | .non,v,h=>h
theorem oR.of{K:W.Frag}{H:Hp}:∀{ds:List Dt}{vs:List V},bA H ds vs->oR K H ds vs
 |[],vs,h=>h
 |d::ds,vs,h=>let ⟨v,r,e,h1,h2⟩:=h;⟨v,r,e,NM.of h1,oR.of h2⟩
end
open Classical in
noncomputable def hpX (K:W.Frag) (H:Hp):Hp:=λb=>if h:∃xs,cW K H b xs then some (HO.tup h.choose)else match H b with |some (.lst xs)=>some (.lst xs) |_=>none
mutual
theorem NM.go{K:W.Frag}{H H':Hp}(k:∀b xs,cW K H b xs->H' b=some (.tup xs))(l:∀b xs,H b=some (.lst xs)->H' b=some (.lst xs)):∀{d:Dt}{v:V},NM K H d v->dD H' d v
 | .tup ds,v,h=>let ⟨a,us,e1,e2,e3⟩:=h;⟨a,us,e1,k _ _ e2,oR.go k l e3⟩
 | .lst ds,v,h=>let ⟨a,us,e1,e2,e3⟩:=h;⟨a,us,e1,l _ _ e2,oR.go k l e3⟩
 | .str z,v,h=>h
 | .int i,v,h=>h
 | .bl b,v,h=>h
 | .non,v,h=>h
theorem oR.go{K:W.Frag}{H H':Hp}(k:∀b xs,cW K H b xs->H' b=some (.tup xs))(l:∀b xs,H b=some (.lst xs)->H' b=some (.lst xs)):∀{ds:List Dt}{vs:List V},oR K H ds vs->bA H' ds vs
 |[],vs,h=>h
 |d::ds,vs,h=>let ⟨v,r,e,h1,h2⟩:=h;⟨v,r,e,NM.go k l h1,oR.go k l h2⟩
end
def rNeX(K:W.Frag):R2:=λx y H Q=>∃n d,NM K H d x/\∃d',NM K H d' y/\gI (n+1) d/\n<=60/\Q (.bl (!dL d d')) H
theorem lf(K:W.Frag)(hu:X.A.units+64<cLine)(hK:X.K=K:=by rfl):nN X (compareOp .NotEq) (rNeX K):=by
 subst hK;intro aI s σ H x y v u Q I rx ry h;obtain⟨n,d,h1,d',h2,f,hn,q⟩:=h;have nl:∀c us xs,cW X.K H c us->H c≠some (.lst xs):=λc us xs hc e=>by
  obtain⟨its,rv,ht,hz⟩:=I.tuple hc;obtain⟨_,its',n',_,g⟩:=I.hok c _ e;obtain⟨o,g1,g2,_⟩:=ht;rw[g]at g1;cases g1;exact absurd (show Value.type "list"=Value.type "tuple" from g2) (by decide)
 have kt:∀b xs,cW X.K H b xs->hpX X.K H b=some (.tup xs):=λb xs hb=>by
  have hx:∃xs,cW X.K H b xs:=⟨xs,hb⟩
  unfold hpX;rw[dif_pos hx,I.tuple_inj hb hx.choose_spec]
 have kl:∀b xs,H b=some (.lst xs)->hpX X.K H b=some (.lst xs):=λb xs hb=>by
  unfold hpX;rw[dif_neg λ⟨us,hu⟩=>nl b us xs hu hb,hb]
 have hok':lJ X.prog X.w (hpX X.K H) s.heap:=by
  intro b o hb;unfold hpX at hb;split at hb
  ·next hx=>
   cases hb;obtain⟨its,rv,ht,hz⟩:=I.tuple hx.choose_spec;exact⟨hz,its,rv,ht⟩
  ·split at hb
   ·next xs e=>
    cases hb;exact I.hok b _ e
   ·cases hb
 exact gw hok' (NM.go kt kl h1) (NM.go kt kl h2) rx ry f () X.prog X.w _ _ (yG I q rfl)
end
end L2
namespace C
open PySem L2
seal PE PT PW PA PS FG PG PGs PI PPs PO ft i6
variable {f p:Addr} {fd:FuncData} {base:Heap} {H H':Hp} {nm:Int->List Int} {kvs:List (List eZ×V)} {vs:List (List Nat)} {ps:List (Nat×Nat)} {qs:List Addr} {ks:List Int} {R:List Ln->Prop} {aT:List xJ} {sp:List Nat} {b:List mS} {aC:List Rw} {us:List Value} {as:List Wt} {l:Ln} {a i j n:Nat} {P:Program} {K:W.Frag} {r:Rw} {S:Str->List Nat} {mg:Str->Option Value} {s:Tm×Tm} {v:V} {w:World}
local macro_rules | `(tactic| dsimp! [$ts,*]) => `(tactic| (try dsimp only [LA, tFor_eq, tLC_eq, iRng1, iRng2, im, iTup, iStr, tIfS, tRet, tRetN, tNext, OH, vU, YY, tC, ap, WR, rI, tTest, tB, rEq, rNe, JU, ZJ, jh, tCB, tLst, tTup, tAnd, tOr, tNot, tAndV, tOrV, tNotV, tIf, tDrop, tSl, tPart, QW, jk, tUn, rU, L2.start, cx_K, bk_K, cx_calm, bk_calm, Option.join, Bool.not_true, Bool.not_false, List.length_cons, List.length_nil, mapC, mapN, List.replicate, List.cons_append, List.nil_append, List.getElem?_cons_zero, List.getElem?_cons_succ, List.set_cons_zero, List.set_cons_succ, Nat.reduceSub, Nat.reduceAdd, tBM, tBM0, UH, rPop, cb, b9, rIxS, rSlL, rSlT, rSlS, rCat, rCatT, tKGet, cx_w, bk_w, gl, tDisp, YZ, jj, cx_P, asI_i, asR_i, asB_i, asS_i, asV_i, asC_i, as1_i, as2_i, as0_i, asT_i, $ts,*]; try simp only [asI_e, asR_e, asB_e, asS_e, asV_e, asC_e, as1_e, as2_e, as0_e, asT_e, LA, tFor_eq, tLC_eq, iRng1, iRng2, im, iTup, iStr, tIfS, tRet, tRetN, tNext, OH, vU, YY, tC, ap, WR, rI, tTest, tB, rEq, rNe, JU, ZJ, jh, tCB, tLst, tTup, tAnd, tOr, tNot, tAndV, tOrV, tNotV, tIf, tDrop, tSl, tPart, QW, jk, tUn, rU, L2.start, cx_K, bk_K, cx_calm, bk_calm, lenV_str, and_assoc, Option.join, List.length_map, List.length_append, decide_eq_true_eq, Bool.false_eq_true, if_false, if_true, Bool.not_true, Bool.not_false, Bool.not_eq_true', decide_eq_false_iff_not, Bool.true_eq_false, List.length_cons, List.length_nil, mapC, mapN, List.replicate, List.cons_append, List.nil_append, List.append_nil, List.getElem?_cons_zero, List.getElem?_cons_succ, List.set_cons_zero, List.set_cons_succ, Nat.reduceSub, Nat.reduceAdd, Option.some.injEq, V.int.injEq, V.str.injEq, V.bl.injEq, V.ref.injEq, List.cons.injEq, and_true, true_and, exists_eq_left', exists_eq_left, exists_and_left, exists_eq_right, exists_const, tBM, tBM0, UH, rPop, cb, b9, rIxS, rSlL, rSlT, rSlS, rCat, rCatT, tKGet, cx_w, bk_w, gl, tDisp, YZ, jj, cx_P, asI_i, asR_i, asB_i, asS_i, asV_i, asC_i, as1_i, as2_i, as0_i, asT_i, List.map_cons, List.map_nil, $ts,*]))
local macro_rules | `(tactic| rfl') => `(tactic| exact ⟨rfl, rfl, rfl, by decide +kernel, rfl, by decide +kernel, by decide +kernel⟩)
local macro_rules | `(()) => `(by first | decide +kernel | lia)
def top(i:Nat):Stmt:=PySem.Challenge.pw_clashbook_k28_papers_of_the_judge.main.body.getD i (.Pass ⟨0,0,0,0⟩)
abbrev s_T:Stmt:=top 17
theorem sc_T:bW ["n"] ["n"] (zK s_T):=by rfl'
abbrev s_U:Stmt:=top 18
theorem sc_U:bW ["n","bound"] ["n","bound"] (zK s_U):=by rfl'
abbrev xQ(H:Hp)(ls:List Ln)(us:List V):Prop:=bA H (ls.map FA) us
abbrev ZV(H:Hp)(as:List Wt)(us:List V):Prop:=bA H (as.map nq) us
theorem uE{α:Type}{f:α->Dt}{xs:List α}{us:List V}(h:bA H (xs.map f) us)(hv:us[i]?=some v):∃x,xs[i]?=some x/\dD H (f x) v:=by
 have hl:=bA.length h;rw[aE]at hl;have hi:i<xs.length:=by rw[←hl];exact(aD.mp hv).1
 obtain⟨u,h1,h2⟩:=bA.get (d:=f xs[i]) h (by rw[aQ,aA hi];rfl);rw[hv]at h1;cases h1;exact⟨_,aA hi,h2⟩
theorem xG{α:Type}{f:α->Dt}{xs:List α}{us:List V}(h:bA H (xs.map f) us):us.length=xs.length:=by
 have hl:=bA.length h;rwa[aE]at hl
theorem HP{α:Type}{f:α->Dt}{xs:List α}{us:List V}{x:α}(hx:xs[i]?=some x)(h:bA H ((xs.take i).map f) us)(h1:dD H (f x) v):bA H ((xs.take (i+1)).map f) (us++[v]):=by
 obtain⟨hi,e⟩:=aD.mp hx;rw[aO hi,e,bF];exact bA.append h (bA.one h1)
theorem LnAt.out(h:dD H (FA l) v):∃a b us,v=.ref a/\H a=some (.tup [.int l.i,.int l.j,.ref b])/\H b=some (.tup (.str l.w::us))/\ZV H l.as us:=by
 obtain⟨a,vs,e1,e2,u1,r1,q1,h1,u2,r2,q2,h2,u3,r3,q3,⟨b,ws,g1,g2,x,y,g3,g4,g5⟩,h4⟩:=h;have h1:u1=.int l.i:=h1;have h2:u2=.int l.j:=h2;have h4:r3=[]:=h4;have g4:x=.str l.w:=g4;subst h4 q3 q2 q1 h1 h2 g1 g3 g4;exact⟨a,b,y,e1,e2,g2,g5⟩
def rwV:Rw->List V
 | .no=>[.str "none"]
 | .nm y=>[.str "name",.str y]
 | .bo i j=>[.str "both",.int i,.int j]
def Tw(K:W.Frag)(H:Hp)(a:Addr)(xs:List V):Prop:=
 H a=some (.tup xs)\/∃(o:Obj)(its:Array Value)(n:Nat),K.lookup a=some o/\o.cls=.type "tuple"/\o.data=.seq its n/\its.size<=sizeLine/\cV xs its.toList
theorem Tw.sq{a:Addr}{xs:List V}(h:Tw K H a xs):cW K H a xs:=h.elim cW.of .inr
theorem Tw.tups{a:Addr}{xs:List V}(h:Tw K H a xs)(e:dC H H'):Tw K H' a xs:=h.elim (λz=>.inl (e _ _ z)) .inr
theorem Tw.same{a:Addr}{xs:List V}(h:Tw K H a xs)(e:bG H H'):Tw K H' a xs:=h.elim (λz=>.inl (e _ _ z)) .inr
def MZ(K:W.Frag)(H:Hp)(r:Rw)(v:V):Prop:=∃a,v=.ref a/\Tw K H a (rwV r)
def fP(K:W.Frag)(H:Hp):List Rw->List V->Prop
 |[],us=>us=[]
 |r::rs,us=>∃v vs,us=v::vs/\MZ K H r v/\fP K H rs vs
theorem fP.go{K:W.Frag}{H H':Hp}(e:bG H H'):∀{rs:List Rw}{us:List V},fP K H rs us->fP K H' rs us
 |[],_,h=>h
 |r::rs,us,⟨v,vs,e1,⟨a,e2,e3⟩,e4⟩=>⟨v,vs,e1,⟨a,e2,e3.same e⟩,fP.go e e4⟩
theorem fP.same{rs:List Rw}{us:List V}(h:fP K H rs us)(e:bG H H'):fP K H' rs us:=fP.go e h
theorem fP.len{K:W.Frag}{H:Hp}:∀{rs:List Rw}{us:List V},fP K H rs us->us.length=rs.length
 |[],_,h=>by cases (show _=[]from h);rfl
 |r::rs,us,⟨v,vs,e1,_,e4⟩=>by rw[e1,bB,bB,fP.len e4]
theorem fP.get{K:W.Frag}{H:Hp}:∀{rs:List Rw}{us:List V}{i:Nat}{v:V},fP K H rs us->us[i]?=some v->∃r,rs[i]?=some r/\MZ K H r v
 |[],_,i,v,h,hv=>by cases (show _=[]from h);simp at hv
 |r::rs,us,0,v,⟨v',vs,e1,e2,e4⟩,hv=>by subst e1;cases hv;exact⟨r,rfl,e2⟩
 |r::rs,us,i+1,v,⟨v',vs,e1,e2,e4⟩,hv=>by
  subst e1;obtain⟨r',g1,g2⟩:=fP.get (i:=i) e4 (by simpa using hv);exact⟨r',by simpa using g1,g2⟩
theorem MZ.out(h:MZ K H r v):∃a x us,v=.ref a/\Tw K H a (.str x::us)/\(match r with | .no=>x="none"/\us=[] | .nm y=>x="name"/\us=[.str y] | .bo i j=>x="both"/\us=[.int i,.int j]):=by
 obtain⟨a,e1,e2⟩:=h;cases r<;>exact⟨a,_,_,e1,e2,rfl,rfl⟩
def ptsR:Rw->List Int
 | .bo i j=>[i,j]
 |_=>[]
theorem kJ{n:Int}(h:n % 2=0)(hr:aC[(n/2).toNat]?=some r):vB aC n=ptsR r:=by
 unfold vB;rw[aH h,hr];cases r<;>rfl
def isN:Wt->Bool
 | .n _=>true
 | .ps _=>false
def jn:Sp:=λvs H Q _=>∃(v:V)(x:Wt),vs=[v]/\dD H (nq x) v/\Q (.bl (isN x)) H
def OP:Sp:=λvs H Q _=>∃(v:V)(x:Wt)(b:Int),vs=[v,.int b]/\dD H (nq x) v/\Q (.bl (JQ b x)) H
inductive spSaid (vs:List V) (H:Hp) (Q:VK) (E:XK):Prop
 |mk (la na:Addr) (us ws:List V) (ls:List Ln) (as:List Wt) (k:Nat) (_:vs=[.ref la,.int k,.ref na]) (_:H la=some (.lst us)) (_:xQ H ls us) (_:k<=ls.length) (_:H na=some (.tup ws)) (_:ZV H as ws) (_:as.length<=900) (_:∀p zs H',bG H H'->H' p=some (.lst zs)->bA H' ((as.map (yT ls k)).map dSd) zs->Q (.ref p) H')
theorem AC(bi:Bi mg)(F:gL K "is_whole" "is_whole" s_T f fd):dG P w K mg base gJ 1 f fd ["n"] jn:=by
 refine F.okz sc_T λfL A outer s H vs Q E hr h=>?_
 obtain⟨v,x,rfl,hv,q⟩:=h;refine⟨_,(zG (zM (jG (zS (xW (T:="int")) rfl bi.isinstance yL (zA (pv 0) (zA (vK bi.int VB rfl) zB))) (qR (RJ (zS (xW (T:="bool")) rfl bi.isinstance yL (zA (pv 0) (zA (vK bi.bool KB rfl) zB)))))))),?_⟩;cases x with
 |n i=>
  have e:v=.int i:=hv;subst e;dsimp![];exact⟨_,.int i,true,jT,TK ⟨_,.int i,false,TF,q⟩⟩
 |ps l=>
  obtain⟨a,us,rfl,ha,hu⟩:=hv;dsimp![];exact⟨_,.tup ha,false,l6,iteF q⟩
theorem AD(bi:Bi mg)(h_T:fX P w K mg base 1 "is_whole" ["n"] jn)(F:gL K "is_below" "is_below" s_U f fd):dG P w K mg base gJ 2 f fd ["n","bound"] OP:=by
 refine F.okz sc_U λfL A outer s H vs Q E hr h=>?_
 obtain⟨v,x,b,rfl,hv,q⟩:=h;refine⟨_,(zG (zM (jG (zI h_T hr.m rfl (zA (pv 0) zB)) (qR (RQ HJ ZK zF (pv 0) (pv 1)))))),?_⟩;dsimp![jn];refine⟨x,hv,?_⟩;cases x with
 |n i=>
  have e:v=.int i:=hv;subst e;rw[show isN (.n i)=true from rfl,aH rfl];have q:Q (.bl (decide (0<=i)&&decide (i<b))) H:=q;refine⟨i,rfl,?_⟩;split
  ·rename_i h
   rw[dH h,sI]at q;exact⟨i,rfl,q⟩
  ·rename_i h
   rw[dE h,gU]at q;exact q
 |ps l=>
  rw[show isN (.ps l)=false from rfl,aF bL];exact q
theorem nj(p q:Pr):dL (oN p) (oN q)=(p==q):=by
 obtain⟨a,b⟩:=p;obtain⟨c,d⟩:=q;simp only[oN,dL,vV,Bool.and_true];rfl
theorem nc(n:Nat)(p:Pr):gI (n+1) (oN p):=⟨by simp,λd hd=>by
 simp only[bI,eF,or_false]at hd;rcases hd with rfl |rfl<;>(cases n<;>trivial)⟩
theorem RD{p:Pr}(h:dD H (oN p) v):∃a,v=.ref a/\H a=some (.tup [.int p.1,.int p.2]):=by
 obtain⟨a,vs,e1,e2,u1,r1,q1,h1,u2,r2,q2,h2,h3⟩:=h;have h1:u1=.int p.1:=h1;have h2:u2=.int p.2:=h2;have h3:r2=[]:=h3;subst h3 q2 q1 h1 h2;exact⟨a,e1,e2⟩
inductive spChain (vs:List V) (H:Hp) (Q:VK) (E:XK):Prop
 |mk (sp:Addr) (zs:List V) (i j:Int) (p q:Pr) (_:vs=[.int i,.int j,.ref sp]) (_:H sp=some (.lst zs)) (_:bA H [oN p,oN q] zs) (_:Q (.bl (p.1==i&&p.2==q.1&&q.2==j)) H)
inductive spRul (vs:List V) (H:Hp) (Q:VK) (E:XK):Prop
 |mk (ra la:Addr) (us ws:List V) (aT:List xJ) (ls:List Ln) (k:Nat) (l:Ln) (_:vs=[.ref ra,.ref la,.int k]) (_:H ra=some (.lst us)) (_:bA H (aT.map IX) us) (_:H la=some (.lst ws)) (_:xQ H ls ws) (_:ls[k]?=some l) (_:(∀ps,Wt.ps ps∈l.as->ps.length<=900)) (_:∀H',bG H H'->Q (.bl (jP aT ls k l)) H')
theorem ln{r:xJ}(h:dD H (IX r) v):∃a l b us,v=.ref a/\H a=some (.tup [.ref l,.ref b])/\H l=some (.lst us)/\bA H (r.1.map oN) us/\H b=some (.tup [.int r.2.1,.int r.2.2]):=by
 obtain⟨a,vs,e1,e2,u1,r1,q1,⟨l,us,g1,g2,g3⟩,u2,r2,q2,h2,h3⟩:=h;obtain⟨b,g4,g5⟩:=RD h2;have h3:r2=[]:=h3;subst h3 q2 q1 g1 g4;exact⟨a,l,b,us,e1,e2,g2,g3,g5⟩
theorem kf{ls:List Ln}{k:Nat}{r:Int}{ps:List Int}(h:l.as=[.n r,.ps ps]):jP aT ls k l=if 0<=r/\r<aT.length then(match aT[r.toNat]? with |some q=>(l.i,l.j)==q.2&&(ps.map λp=>yT ls k (.n p))==q.1.map some |none=>false)else false:=by
 unfold jP;rw[h]<;>rfl
inductive spTurned (vs:List V) (H:Hp) (Q:VK) (E:XK):Prop
 |mk (n:Int) (_:vs=[.int n]) (_:Q (.int (pX n)) H)
inductive spAhead (vs:List V) (H:Hp) (Q:VK) (E:XK):Prop
 |mk (la:Addr) (us:List V) (v:V) (x:Wt) (ls:List Ln) (k:Nat) (_:vs=[.ref la,v,.int k]) (_:H la=some (.lst us)) (_:xQ H ls us) (_:k<=ls.length) (_:dD H (nq x) v) (_:∀v' H',bG H H'->dD H' (dSd (yT ls k x)) v'->Q v' H')
inductive spByR (vs:List V) (H:Hp) (Q:VK) (E:XK):Prop
 |mk (ra la:Addr) (us ws:List V) (aT:List xJ) (ls:List Ln) (k:Nat) (l:Ln) (_:vs=[.ref ra,.ref la,.int k]) (_:H ra=some (.lst us)) (_:bA H (aT.map IX) us) (_:H la=some (.lst ws)) (_:xQ H ls ws) (_:ls[k]?=some l) (_:l.as.length=2) (_:∀H',bG H H'->Q (.bl (jP aT ls k l)) H')
def uM(aC:List Rw):Prop:=∀(k:Nat)(i j:Int),aC[k]?=some (.bo i j)->(0<=i/\i<2*(k:Int))/\0<=j/\j<2*(k:Int)
theorem EU(n:Nat)(r:Rw):gI (n+1) (oM r):=by
 cases r with
 |no=>exact⟨by simp,λd hd=>by simp at hd;subst hd;cases n<;>trivial⟩
 |nm x=>exact⟨by simp,λd hd=>by simp at hd;rcases hd with rfl |rfl<;>(cases n<;>trivial)⟩
 |bo i j=>exact⟨by simp,λd hd=>by simp at hd;rcases hd with rfl |rfl |rfl<;>(cases n<;>trivial)⟩
abbrev s_B:Stmt:=YL (top 30) 0
theorem sc_B:bW ["self","many"] ["self","many"] (zK s_B):=by rfl'
abbrev s_a:Stmt:=YL (top 30) 1
theorem sc_a:bW ["self","i","j"] ["self","i","j"] (zK s_a):=by rfl'
abbrev s_D:Stmt:=YL (top 30) 2
theorem sc_D:bW ["self","i","j"] ["self","i","j"] (zK s_D):=by rfl'
abbrev s_d:Stmt:=YL (top 30) 3
theorem sc_d:bW ["self","i","j","why"] ["self","i","j","why"] (zK s_d):=by rfl'
abbrev s_R:Stmt:=top 3
theorem OX:bW ["mask","bits","rest","low"] ["mask"] (zK s_R):=by rfl'
abbrev nV(n:Nat):V:=.int (n:Int)
inductive OO (vs:List V) (H:Hp) (Q:VK) (E:XK):Prop
 |mk (m:Nat) (xs:List Nat) (_:vs=[.int m]) (_:rF m xs) (_:(∀x∈xs,x<300)) (_:∀p H',bG H H'->H p=none->H' p=some (.lst (xs.map nV))->Q (.ref p) H')
theorem VQ{m:Nat}{xs:List Nat}(h:rF m xs)(hx:∀x∈xs,x<300):xs.length<=300:=by
 have :∀(xs:List Nat)(b:Nat),xs.Pairwise (· < ·)->(∀x∈xs,b<=x/\x<300)->xs.length+b<=300\/xs=[]:=by
  intro xs
  induction xs with
  |nil=>intro b _ _;exact .inr rfl
  |cons x xs ih=>
   intro b hp hb;have hp':=List.pairwise_cons.mp hp;have hx:=hb x aY;rcases ih (x+1) hp'.2 (λy hy=>⟨hp'.1 y hy,(hb y (aV _ hy)).2⟩)with h |h
   ·left;rw[bB];lia
   ·subst h;left;rw[bB,lD];lia
 rcases this xs 0 h.1 (λx hx'=>⟨cO _,hx x hx'⟩)with h |h
 ·lia
 ·subst h;simp
theorem DX(bi:Bi mg)(F:gL K "bits_of" "bits_of" s_R f fd):dG P w K mg base gJ 1 f fd ["mask"] OO:=by
 refine F.okz OX λfL A outer s H vs Q E hr h=>?_
 obtain⟨m,xs,rfl,hb,hx,q⟩:=h;have hxl:=VQ hb hx;refine⟨_,(zD (yH 1 OX.nd (xF zB)) (zD (yH 2 OX.nd (pv 0)) (zD (tI bM (PY (pv 2) (λ_=>rfl)) (zD (yH 3 OX.nd (zU DL (pv 2) (XJ YT (pv 2)))) (zD (yD (uD cR dR dQ jK (pv 1) (zA (zU RU (k8 PySem.F.plainAttrs_int PySem.F.slot_int_bit_length PySem.F.type_int_bit_length JO (pv 3)) zF) zB))) (zG (RC (i:=2) OX.nd rfl (Or.inl rfl) (pv 3) me))))) (zG (zM (pv 1)))))),?_⟩;refine zH λN hN=>?_
 dsimp![];refine⟨small (by simp),λp hp=>hN _ _ ?_⟩;clear hN;refine zH λN hN=>?_
 dsimp![];refine hN _ _ ?_;clear hN;have s1:=zE hp (.lst []);have k1:upd H p (.lst []) p=some (.lst ((xs.take 0).map nV)):=zC;generalize upd H p (.lst [])=H1 at s1 k1⊢;refine yK (λσ H'=>∃(o1 o2:Option V),bG H H'/\H' p=some (.lst (xs.map nV))/\σ=[some (V.int m),some (V.ref p),o1,o2]) (λN hN=>?_) (λσ H' h=>?_)
 ·dsimp![CQ];refine⟨λk σ H'=>∃(i r:Nat)(o:Option V),k=xs.length-i/\i<=xs.length/\bG H H'/\H' p=some (.lst ((xs.take i).map nV))/\rF r (xs.drop i)/\σ=[some (V.int m),some (V.ref p),some (V.int r),o],⟨_,0,m,_,rfl,cO _,s1,k1,hb,rfl⟩,λk σ H' h=>?_⟩;obtain⟨i,r,o,rfl,hi,s2,k2,hr',rfl⟩:=h;dsimp![];refine⟨_,rfl,?_⟩;cases hd:xs.drop i with
  |nil=>
   rw[hd]at hr';have e0:=hr'.nil;subst e0;rw[aF ()];have hil:xs.length<=i:=by
    have :=cJ List.length hd;rw[fW,lD]at this;lia
   rw[aR hil]at k2;exact hN _ _ ⟨_,_,s2,k2,rfl⟩
  |cons x rest=>
   rw[hd]at hr';have hxb:r.testBit x=true:=by rw[hr'.2];simp
   obtain⟨hr0,hl,hb2⟩:=hr'.cons;rw[aH (by simp;lia)];have hil:i<xs.length:=by
    have :=cJ List.length hd;rw[fW,bB]at this;lia
   have hxi:xs[i]?=some x:=by
    have :=cJ (·[0]?) hd;simpa using this
   have hdr:xs.drop (i+1)=rest:=by
    have :=cJ (List.drop 1) hd;rw[rL]at this;simpa using this
   refine⟨λσ' H''=>∃(o:Option V),bG H H''/\H'' p=some (.lst ((xs.take (i+1)).map nV))/\σ'=[some (V.int m),some (V.ref p),some (V.int ((r&&&(r-1):Nat):Int)),o],λσ' H'' h=>?_,?_⟩
   ·obtain⟨o',a1,a2,rfl⟩:=h;exact⟨xs.length-(i+1),(),i+1,rfl,(),a1,a2,_,by rw[hdr];exact hb2,_,rfl⟩
   have elow:Builtin.bitAnd (r:Int) (-(r:Int))=((2^x:Nat):Int):=by rw[SX hr0,hl]
   dsimp![jm,mh,GV];rw[elow,VP];refine⟨.inl ⟨rfl,_,dF.of k2⟩,rfl,_,k2,qL (by rw[aE,bH];lia),s2.upd hp,?_,ab hl hxb,_,rfl⟩;have e:(((x+1:Nat):Int)-1)=(x:Int):=by lia
   obtain⟨_,ei⟩:=aD.mp hxi;rw[zC,e,aO hil,ei,bF];rfl
 obtain⟨o1,o2,s2,k2,rfl⟩:=h;dsimp![];exact q _ _ s2 hp k2
def OW(as:List Wt):Prop:=as.length<=3/\∀ps,Wt.ps ps∈as->ps.length<=300
def zX(ls:List Ln)(i j:Int):Bool:=ls.any λl=>l.i==i&&l.j==j
theorem fO{ls:List Ln}{i j:Int}:zX ls i j=true↔∃(p:Nat)(l:Ln),ls[p]?=some l/\l.i=i/\l.j=j:=by
 unfold zX;rw[gS];constructor
 ·rintro⟨l,hl,h⟩;rw[cA,dJ,dJ]at h;obtain⟨p,hp,e⟩:=dU hl;exact⟨p,l,by rw[aA hp,e],h.1,h.2⟩
 ·rintro⟨p,l,hl,h1,h2⟩;exact⟨l,aZ hl,by rw[h1,h2];simp⟩
theorem vS(ls t:List Ln)(i j:Int):zX (ls++t) i j=(zX ls i j ||zX t i j):=by
 unfold zX;rw[List.any_append]
theorem XZ(l:Ln)(i j:Int):zX [l] i j=(l.i==i&&l.j==j):=by
 unfold zX;simp
def xM(i j:Int):List eZ:=[.inl i,.inl j]
def pY:List Ln->Nat->List (List eZ×V)
 |[],_=>[]
 |l::ls,k=>(xM l.i l.j,.int k)::pY ls (k+1)
theorem HC:∀(ls:List Ln)(k:Nat),(pY ls k).length=ls.length
 |[],_=>rfl
 |l::ls,k=>by show(pY ls (k+1)).length+1=_;rw[HC ls (k+1)];rfl
theorem tO(l:Ln):∀(ls:List Ln)(k:Nat),pY (ls++[l]) k=pY ls k++[(xM l.i l.j,.int ((k+ls.length:Nat):Int))]
 |[],k=>rfl
 |l'::ls,k=>by
  show _::pY (ls++[l]) (k+1)=_;rw[tO l ls (k+1),bB];show _=_::_++_;rw[show k+1+ls.length=k+(ls.length+1) by lia];rfl
theorem TH{i j i' j':Int}(h:xM i j=xM i' j'):i=i'/\j=j':=by
 unfold xM at h;injection h with h1 h2
 injection h2 with h2 h3
 exact⟨oG h1,oG h2⟩
theorem YH{i j:Int}:∀(ls:List Ln)(k:Nat),(zX ls i j=false/\yW (pY ls k) (xM i j)=none)\/∃(p:Nat)(l:Ln),ls[p]?=some l/\l.i=i/\l.j=j/\yW (pY ls k) (xM i j)=some (.int ((k+p:Nat):Int))
 |[],k=>.inl ⟨rfl,rfl⟩
 |l::ls,k=>by
  by_cases h:l.i=i/\l.j=j
  ·refine .inr ⟨0,l,rfl,h.1,h.2,?_⟩;show yW ((xM l.i l.j,V.int k)::pY ls (k+1)) (xM i j)=_;rw[h.1,h.2,uN rfl];rfl
  ·have e:yW (pY (l::ls) k) (xM i j)=yW (pY ls (k+1)) (xM i j):=qN (λz=>h (TH z));rcases YH ls (k+1)with⟨h1,h2⟩ |⟨p,l',h1,h2,h3,h4⟩
   ·left
    refine⟨?_,by rw[e];exact h2⟩;show((l.i==i&&l.j==j) ||zX ls i j)=false;rw[h1,Bool.or_false];rw[fN];intro z;rw[cA,dJ,dJ]at z;exact h z
   ·right
    refine⟨p+1,l',h1,h2,h3,?_⟩;rw[e,h4]
    congr 2
    lia
theorem uW{κ:Type} [DecidableEq κ] {kvs:List (κ×V)} {k:κ} (h:yW kvs k=none):jZ kvs k v=kvs++[(k,v)]:=by
 unfold jZ;rw[aF];intro z;obtain⟨x,hx,hk⟩:=gS.mp z;unfold yW at h;rw[pL,List.find?_eq_none]at h;exact h x hx hk
theorem PB{ls t:List Ln}{k:Nat}(h:k<=ls.length)(x:Wt):yT (ls++t) k x=yT ls k x:=by
 cases x with
 |ps l=>rfl
 |n i=>
  show(if 0<=i/\i<(k:Int)then((ls++t)[i.toNat]?).map λl=>(l.i,l.j)else none)=(if 0<=i/\i<(k:Int)then(ls[i.toNat]?).map λl=>(l.i,l.j)else none)
  by_cases hi:0<=i/\i<(k:Int)
  ·rw[aH hi,aH hi,bN ()]
  ·rw[aF hi,aF hi]
theorem sT{ls t:List Ln}{k:Nat}(h:k<=ls.length):xI aC aT (ls++t) k l=xI aC aT ls k l:=by
 have e:yT (ls++t) k=yT ls k:=funext λx=>PB h x
 unfold xI jP;rw[e]
theorem wZ{ls:List Ln}{k:Nat}(h:xI aC aT ls k l=true):(0<=l.i/\l.i<2*(aC.length:Int))/\0<=l.j/\l.j<2*(aC.length:Int):=by
 unfold xI at h;split at h
 ·cases h
 ·rename_i hn
  simp only[not_or,Classical.not_not]at hn;exact hn
structure NB(aC:List Rw)(aT:List xJ)(ls:List Ln):Prop where
 snd:∀(k:Nat)(l:Ln),ls[k]?=some l->xI aC aT ls k l=true
 dis:∀(a b:Nat)(x y:Ln),ls[a]?=some x->ls[b]?=some y->x.i=y.i->x.j=y.j->a=b
 siz:∀l∈ls,OW l.as
theorem NB.put{ls:List Ln}(h:NB aC aT ls)(hn:zX ls l.i l.j=false)(hs:xI aC aT ls ls.length l=true)(ho:OW l.as):NB aC aT (ls++[l]):=by
 have no:∀(a:Nat)(x:Ln),ls[a]?=some x->x.i=l.i->x.j=l.j->False:=λa x hx h1 h2=>by
  have :=fO.mpr ⟨a,x,hx,h1,h2⟩;rw[hn]at this;cases this
 have sp:∀(a:Nat)(x:Ln),(ls++[l])[a]?=some x->ls[a]?=some x\/a=ls.length/\x=l:=λa x hx=>by
  by_cases ha:a<ls.length
  ·rw[bN ha]at hx;exact .inl hx
  ·have ha2:=(aD.mp hx).1;rw[aP,bY]at ha2;have e:a=ls.length:=by lia
   subst e;rw[cP (aJ _),iP]at hx;cases hx;exact .inr ⟨rfl,rfl⟩
 refine⟨λk x hx=>?_,λa b x y hx hy h1 h2=>?_,λx hx=>?_⟩
 ·rcases sp k x hx with hx |⟨rfl,rfl⟩
  ·have hk:=(aD.mp hx).1;rw[sT ()];exact h.snd k x hx
  ·rw[sT (aJ _)];exact hs
 ·rcases sp a x hx with hx' |⟨ea,ex⟩
  ·rcases sp b y hy with hy' |⟨eb,ey⟩
   ·exact h.dis a b x y hx' hy' h1 h2
   ·rw[ey]at h1 h2;exact(no a x hx' h1 h2).elim
  ·rcases sp b y hy with hy' |⟨eb,ey⟩
   ·rw[ex]at h1 h2;exact(no b y hy' h1.symm h2.symm).elim
   ·rw[ea,eb]
 ·rcases bX.mp hx with hx |hx
  ·exact h.siz x hx
  ·rw[aX.mp hx];exact ho
theorem wQ:∀{l m:List Int},l.Nodup->(∀x∈l,x∈m)->l.length<=m.length
 |[],m,_,_=>cO _
 |x::l,m,hn,hs=>by
  have hx:x∈m:=hs x aY;have hn':=lC.mp hn;have :=wQ (l:=l) (m:=m.erase x) hn'.2 λy hy=>by
   have hy':=hs y (aV _ hy);have hne:y≠x:=λe=>hn'.1 (by rw[←e];exact hy)
   exact(List.mem_erase_of_ne hne).mpr hy'
  rw[List.length_erase_of_mem hx]at this;have :=List.length_pos_of_mem hx;rw[bB];lia
theorem NB.len{ls:List Ln}(h:NB aC aT ls):ls.length<=(2*aC.length)*(2*aC.length):=by
 have hr:∀l∈ls,(0<=l.i/\l.i<2*(aC.length:Int))/\0<=l.j/\l.j<2*(aC.length:Int):=λl hl=>by
  obtain⟨p,hp,e⟩:=dU hl;exact wZ (h.snd p l (by rw[aA hp,e]))
 generalize hn:2*aC.length=n;have hn':2*(aC.length:Int)=(n:Int):=by lia
 rw[hn']at hr;have :=wQ (l:=ls.map λl=>l.i*n+l.j) (m:=(List.range (n*n)).map λi:Nat=>(i:Int)) ?_ λx hx=>?_
 ·rwa[aE,aE,dX]at this
 ·refine cS.mpr λa b ha hb hab e=>?_
  rw[aE]at ha hb;rw[iQ,iQ]at e;have r1:=hr _ (cH ha);have r2:=hr _ (cH hb);have hi:ls[a].i=ls[b].i:=by
   have e1:(ls[a].i*n+ls[a].j)/n=ls[a].i:=by
    rw[Int.add_comm,Int.add_mul_ediv_right _ _ (),Int.ediv_eq_zero_of_lt r1.2.1 r1.2.2,Int.zero_add]
   have e2:(ls[b].i*n+ls[b].j)/n=ls[b].i:=by
    rw[Int.add_comm,Int.add_mul_ediv_right _ _ (),Int.ediv_eq_zero_of_lt r2.2.1 r2.2.2,Int.zero_add]
   rw[←e1,e,e2]
  have hj:ls[a].j=ls[b].j:=by rw[hi]at e;lia
  have :=h.dis a b _ _ (aA ha) (aA hb) hi hj;lia
 ·obtain⟨l,hl,rfl⟩:=bO.mp hx;have r1:=hr l hl;have b1:l.i*n+l.j<n*n:=by
   have :l.i*n<=(n-1)*n:=Int.mul_le_mul_of_nonneg_right () ();rw[Int.sub_mul,Int.one_mul]at this;lia
  have b0:0<=l.i*n:=Int.mul_nonneg r1.1.1 ();rw[bO];exact⟨(l.i*n+l.j).toNat,by rw[bZ];lia,()⟩
structure MkA(n:Nat)(hp:Nat->Nat->Bool)(as:List Nat):Prop where
 len:as.length=n
 bit:∀(a c:Nat),as[a]?=some c->∀b,c.testBit b=hp a b
theorem MkA.put{b c:Nat}{hp hp':Nat->Nat->Bool}{as:List Nat}(h:MkA n hp as)(hc:as[a]?=some c)(e:∀x y,hp' x y=(hp x y ||(x==a&&y==b))):MkA n hp' (as.set a (c|||2^b)):=by
 have la:=(aD.mp hc).1;refine⟨by rw[List.length_set];exact h.len,λx d hx y=>?_⟩;rw[e];by_cases ex:a=x
 ·subst ex;rw[pO la]at hx;cases hx;rw[Nat.testBit_or,h.bit a c hc,Nat.testBit_two_pow];simp only[eE,sI]
  congr 1
  rw[cK,cE,dJ];exact eq_comm
 ·rw[rK ex]at hx;have :(x==a)=false:=dS.mpr (cM ex);rw[h.bit x d hx,this,gU,Bool.or_false]
structure nQ where
 r:Addr
 la:Addr
 pa:Addr
 aa:Addr
 ba:Addr
def pS(g:nQ):List (Str×V):=[("lines",.ref g.la),("places",.ref g.pa),("above",.ref g.aa),("below",.ref g.ba)]
structure NL(K:W.Frag)(C:Addr):Prop where
 cl:ND K C
 nL:iW K C "lines"
 nP:iW K C "places"
 nA:iW K C "above"
 nB:iW K C "below"
theorem MN(g:nQ):(pS g).lookup ("lines":Str)=some (.ref g.la):=by
 unfold pS;rw[bT,show(("lines":Str)=="lines")=true by decide+kernel]
theorem m5(g:nQ):(pS g).lookup ("places":Str)=some (.ref g.pa):=by
 unfold pS;rw[bT,show(("places":Str)=="lines")=false by decide+kernel,bT,show(("places":Str)=="places")=true by decide+kernel]
theorem TV(g:nQ):(pS g).lookup ("above":Str)=some (.ref g.aa):=by
 unfold pS;rw[bT,show(("above":Str)=="lines")=false by decide+kernel,bT,show(("above":Str)=="places")=false by decide+kernel,bT,show(("above":Str)=="above")=true by decide+kernel]
theorem m6(g:nQ):(pS g).lookup ("below":Str)=some (.ref g.ba):=by
 unfold pS;rw[bT,show(("below":Str)=="lines")=false by decide+kernel,bT,show(("below":Str)=="places")=false by decide+kernel,bT,show(("below":Str)=="above")=false by decide+kernel,bT,show(("below":Str)=="below")=true by decide+kernel]
theorem uH(g:nQ){x:Str}(h1:(x==("lines":Str))=false)(h2:(x==("places":Str))=false)(h3:(x==("above":Str))=false)(h4:(x==("below":Str))=false):(pS g).lookup x=none:=by
 unfold pS;rw[bT,h1,bT,h2,bT,h3,bT,h4];rfl
structure lF(C:Addr)(H:Hp)(g:nQ)(aC:List Rw)(aT:List xJ)(ls:List Ln):Prop where
 ins:∃dx,H g.r=some (.ins C dx (pS g))
 lin:∃ws,H g.la=some (.lst ws)/\xQ H ls ws
 plc:H g.pa=some (.dT (pY ls 0))
 abv:∃as,H g.aa=some (.lst (as.map nV))/\MkA (2*aC.length) (λa b=>zX ls a b) as
 blw:∃as,H g.ba=some (.lst (as.map nV))/\MkA (2*aC.length) (λa b=>zX ls b a) as
 ne:g.la≠g.aa/\g.la≠g.ba/\g.aa≠g.ba
 ok:NB aC aT ls
def fV(g:nQ)(H H':Hp):Prop:=∀b o,H b=some o->b≠g.la->b≠g.pa->b≠g.aa->b≠g.ba->H' b=some o
theorem fV.trans{g:nQ}{H1 H2:Hp}(a:fV g H H1)(b:fV g H1 H2):fV g H H2:=λc o h n1 n2 n3 n4=>b c o (a c o h n1 n2 n3 n4) n1 n2 n3 n4
theorem bG.g{g:nQ}(a:bG H H'):fV g H H':=λc o h _ _ _ _=>a c o h
theorem lF.same{C:Addr}{g:nQ}{ls:List Ln}(e:bG H H')(h:lF C H g aC aT ls):lF C H' g aC aT ls:=by
 obtain⟨⟨dx,h1⟩,⟨ws,h2,h3⟩,h4,⟨as,h5,h6⟩,⟨bs,h7,h8⟩,h9,h10⟩:=h;exact⟨⟨dx,e _ _ h1⟩,⟨ws,e _ _ h2,bA.same e h3⟩,e _ _ h4,⟨as,e _ _ h5,h6⟩,⟨bs,e _ _ h7,h8⟩,h9,h10⟩
theorem lF.tups{C:Addr}{g:nQ}{ls:List Ln}(h:lF C H g aC aT ls)(e:fV g H H'):dC H H':=λb xs hb=>by
 obtain⟨ws,h2,_⟩:=h.lin;obtain⟨as,h5,_⟩:=h.abv;obtain⟨bs,h7,_⟩:=h.blw;exact e b _ hb (qD hb h2 (by intro z;cases z)) (qD hb h.plc (by intro z;cases z)) (qD hb h5 (by intro z;cases z)) (qD hb h7 (by intro z;cases z))
theorem kj{ps:List Int}(h:dD H (nq (.ps ps)) v):∃a,v=.ref a/\H a=some (.tup (ps.map V.int)):=by
 obtain⟨a,us,e1,e2,e3⟩:=h;have go:∀{ps:List Int}{us:List V},bA H (ps.map Dt.int) us->us=ps.map V.int:=λ{ps}=>by
  induction ps with
  |nil=>exact λh=>h
  |cons n ns ih=>
   intro us h;obtain⟨v,r,e1,e2,e3⟩:=h;have e2:v=.int n:=e2;rw[e1,e2,ih e3];rfl
 rw[go e3]at e2;exact⟨a,e1,e2⟩
theorem nz{a:Addr}{ps:List Int}(h:H a=some (.tup (ps.map V.int))):dD H (nq (.ps ps)) (.ref a):=by
 refine⟨a,_,rfl,h,?_⟩;clear h
 induction ps with
 |nil=>rfl
 |cons n ns ih=>exact⟨_,_,rfl,rfl,ih⟩
theorem NR{x:Str}(h:dD H (ZE x as) v):∃a us,v=.ref a/\H a=some (.tup (.str x::us))/\ZV H as us:=by
 obtain⟨a,vs,e1,e2,u,r,e3,h1,h2⟩:=h;have h1:u=.str x:=h1;subst h1 e3;exact⟨a,r,e1,e2,h2⟩
theorem SZ(h:dD H (FA l) v):∃a u,v=.ref a/\H a=some (.tup [.int l.i,.int l.j,u])/\dD H (ZE l.w l.as) u:=by
 obtain⟨a,vs,e1,e2,u1,r1,rfl,d1,u2,r2,rfl,d2,u3,r3,rfl,d3,d4⟩:=h;have d1:u1=.int l.i:=d1;have d2:u2=.int l.j:=d2;have d4:r3=[]:=d4;subst d1 d2 d4;exact⟨a,u3,e1,e2,d3⟩
theorem n0{i j:Int}{x:Str}{a:Addr}{u:V}(h:H a=some (.tup [.int i,.int j,u]))(hu:dD H (ZE x as) u):dD H (FA ⟨i,j,x,as⟩) (.ref a):=
 ⟨a,_,rfl,h,_,_,rfl,rfl,_,_,rfl,rfl,_,_,rfl,hu,rfl⟩
theorem YR{H H':Hp}(e:dC H H'):∀{as:List Wt}{us:List V},ZV H as us->ZV H' as us
 |[],us,h=>h
 | .n i::as,us,h=>by
   obtain⟨v,r,e1,e2,e3⟩:=h;exact⟨v,r,e1,e2,YR e e3⟩
 | .ps l::as,us,h=>by
   obtain⟨v,r,e1,e2,e3⟩:=h;obtain⟨a,rfl,g2⟩:=kj e2;exact⟨_,r,e1,nz (e _ _ g2),YR e e3⟩
theorem sK(e:dC H H'){x:Str}(h:dD H (ZE x as) v):dD H' (ZE x as) v:=by
 obtain⟨b,us,rfl,h3,h4⟩:=NR h;exact⟨b,_,rfl,e _ _ h3,_,_,rfl,rfl,YR e h4⟩
theorem d6(e:dC H H')(h:dD H (FA l) v):dD H' (FA l) v:=by
 obtain⟨a,u,rfl,h1,h2⟩:=SZ h;exact n0 (e _ _ h1) (sK e h2)
theorem vP{H H':Hp}(e:dC H H'):∀{ls:List Ln}{us:List V},xQ H ls us->xQ H' ls us
 |[],us,h=>h
 |l::ls,us,h=>by
  obtain⟨v,r,e1,e2,e3⟩:=h;exact⟨v,r,e1,d6 e e2,vP e e3⟩
theorem IB{p:Nat}(h:p<n):NJ n (p:Int)=some p:=by
 unfold NJ;rw[aH (),aH (),bV]
inductive CU (C:Addr) (vs:List V) (H:Hp) (Q:VK) (E:XK):Prop
 |mk (g:nQ) (aC:List Rw) (aT:List xJ) (ls:List Ln) (i j:Int) (_:vs=[.ref g.r,.int i,.int j]) (_:lF C H g aC aT ls) (_:zX ls i j=true) (_:∀(p:Nat)(l:Ln) H',bG H H'->ls[p]?=some l->l.i=i->l.j=j->Q (.int p) H')
inductive OM (C:Addr) (vs:List V) (H:Hp) (Q:VK) (E:XK):Prop
 |mk (g:nQ) (aC:List Rw) (aT:List xJ) (ls:List Ln) (i j:Int) (_:vs=[.ref g.r,.int i,.int j]) (_:lF C H g aC aT ls) (_:∀H',bG H H'->Q (.bl (zX ls i j)) H')
def fy(C:Addr)(H:Hp)(g:nQ)(aC:List Rw)(aT:List xJ)(ls:List Ln)(H':Hp):Prop:=fV g H H'/\∃t,lF C H' g aC aT (ls++t)
def lK(C:Addr)(H:Hp)(g:nQ)(aC:List Rw)(aT:List xJ)(ls:List Ln)(R:List Ln->Prop)(H':Hp):Prop:=fV g H H'/\∃t,lF C H' g aC aT (ls++t)/\R (ls++t)
inductive rB (C:Addr) (vs:List V) (H:Hp) (Q:VK) (E:XK):Prop
 |mk (g:nQ) (aC:List Rw) (aT:List xJ) (ls:List Ln) (i j:Nat) (wv:V) (x:Str) (as:List Wt) (_:vs=[.ref g.r,.int i,.int j,wv]) (_:lF C H g aC aT ls) (_:aC.length<=100) (_:dD H (ZE x as) wv) (_:xI aC aT ls ls.length ⟨i,j,x,as⟩=true) (_:OW as) (_:∀H',lK C H g aC aT ls (λL=>zX L i j=true) H'->Q .non H')
theorem DR{C:Addr}(T:NL K C)(F:gL K "line_of" "Growth.line_of" s_a f fd):dG P w K mg base gJ 1 f fd ["self","i","j"] (CU C):=by
 refine F.okz sc_a λfL A outer s H vs Q E hr h=>?_
 obtain⟨g,aC,aT,ls,i,j,rfl,hg,hh,q⟩:=h;obtain⟨dx,hi⟩:=hg.ins;refine⟨_,(zG (zM (YJ (jL hr) (xU (pv 0) rfl) (zP (zA (pv 1) (zA (pv 2) zB))) (λ_ _=>rfl)))),?_⟩;dsimp![wE];refine⟨C,dx,_,hi,T.cl,T.nP,_,m5 g,small (by simp),λp hp=>?_⟩;have s1:=zE hp (.tup [.int i,.int j]);rcases YH (i:=i) (j:=j) ls 0 with⟨h1,_⟩ |⟨p',l,h1,h2,h3,h4⟩
 ·rw[hh]at h1;cases h1
 rw[fJ]at h4;exact⟨g.pa,rfl,_,.inr ⟨_,xM i j,p,.inl (s1 _ _ hg.plc),rfl,zC,h4.symm⟩,q p' l _ s1 h1 h2 h3⟩
theorem lm{C:Addr}(T:NL K C)(F:gL K "has" "Growth.has" s_D f fd):dG P w K mg base gJ 1 f fd ["self","i","j"] (OM C):=by
 refine F.okz sc_D λfL A outer s H vs Q E hr h=>?_
 obtain⟨g,aC,aT,ls,i,j,rfl,hg,q⟩:=h;obtain⟨dx,hi⟩:=hg.ins;refine⟨_,(zG (zM (ko (DE (jL hr) (zP (zA (pv 1) (zA (pv 2) zB))) (xU (pv 0) rfl)) (by with_unfolding_all rfl)))),?_⟩;dsimp![wE,aq];refine⟨small (by simp),λp hp=>?_⟩;have s1:=zE hp (.tup [.int i,.int j]);refine⟨C,dx,_,s1 _ _ hi,T.cl,T.nP,_,m5 g,g.pa,rfl,_,.inr ⟨_,xM i j,p,.inl (s1 _ _ hg.plc),rfl,zC,rfl⟩,?_⟩;have e:(yW (pY ls 0) (xM i j)).isSome=zX ls i j:=by
  rcases YH (i:=i) (j:=j) ls 0 with⟨h1,h2⟩ |⟨p',l,h1,h2,h3,h4⟩
  ·rw[h1,h2];rfl
  ·rw[h4,fO.mpr ⟨p',l,h1,h2,h3⟩];rfl
 rw[e];exact q _ s1
theorem dm{C:Addr}(T:NL K C)(bi:Bi mg)(h_D:mW P w K mg base 1 C "has" ["self","i","j"] (OM C))(F:gL K "grow" "Growth.grow" s_d f fd):dG P w K mg base gJ 2 f fd ["self","i","j","why"] (rB C):=by
 refine F.okz sc_d λfL A outer s H vs Q E hr h=>?_
 obtain⟨g,aC,aT,ls,i,j,wv,x,as,rfl,hg,h30,hw,iN,how,q⟩:=h;have cN:=T.cl;obtain⟨dx,hi⟩:=hg.ins;have fA:=hg.ok.len;have hlen2:ls.length<=40000:=by
  have :2*aC.length*(2*aC.length)<=200*200:=Nat.mul_le_mul () ();lia
 obtain⟨⟨i0,i1⟩,j0,j1⟩:=wZ iN;have i1:(i:Int)<2*(aC.length:Int):=i1;have j1:(j:Int)<2*(aC.length:Int):=j1;refine⟨_,(zD (zZ (xE (yI h_D cN hr.m (pv 0) (zA (pv 1) (zA (pv 2) zB)))) (zG GX) zR) (zD (kF (jL hr) (xU (pv 0) rfl) (zP (zA (pv 1) (zA (pv 2) zB))) (zS yA rfl bi.len yJ (zA (xU (pv 0) rfl) zB)) rfl) (zD (yD (uD cR dR dQ jK (xU (pv 0) rfl) (zA (zP (zA (pv 1) (zA (pv 2) (zA (pv 3) zB)))) zB))) (zD (GZ (xU (pv 0) rfl) (pv 1) BF (zU RV zF (pv 2)) ik XD) (zG (GZ (xU (pv 0) rfl) (pv 2) BF (zU RV zF (pv 1)) ik XD)))))),?_⟩;refine zH λN hN=>?_
 dsimp![jI];refine⟨_,_,hi,uH g () () () (),?_⟩;refine⟨g,aC,aT,ls,i,j,rfl,hg,λH1 s1=>⟨_,rfl,?_⟩⟩;cases hb:zX ls i j with
 |true=>
  rw[aH rfl];exact q _ ⟨bG.g s1,[],by rw[cU];exact⟨hg.same s1,hb⟩⟩
 |false=>
  rw[aF bL];refine hN _ _ ?_;clear hN;replace hg:=hg.same s1;replace hi:=s1 _ _ hi;replace hw:=dD.same s1 hw;have h4':=hg.plc;obtain⟨⟨_,_⟩,⟨ws,h2,h3⟩,h4,⟨bs,h5,h6⟩,⟨cs,h7,h8⟩,⟨n1,n2,n3⟩,h10⟩:=hg;have hwl:=xG h3;have hpar:g.pa≠g.r:=qD h4 hi (by intro z;cases z);have hlar:g.la≠g.r:=qD h2 hi (by intro z;cases z);have haar:g.aa≠g.r:=qD h5 hi (by intro z;cases z);have hbar:g.ba≠g.r:=qD h7 hi (by intro z;cases z);have hpla:g.pa≠g.la:=qD h4 h2 (by intro z;cases z);have hpaa:g.pa≠g.aa:=qD h4 h5 (by intro z;cases z);have hpba:g.pa≠g.ba:=qD h4 h7 (by intro z;cases z);refine zH λN hN=>?_
  dsimp![wE,JX];have sz:∀{n:Nat},n<=40000->n<sizeLine:=λh=>fY (m:=100000) () ()
  refine⟨C,dx,_,hi,T.cl,T.nL,_,MN g,ws.length,.inl ⟨_,dF.of h2,rfl⟩,C,dx,_,hi,T.cl,T.nP,_,m5 g,small (by simp),λp hp=>?_⟩;have s2:=zE hp (.tup [.int (i:Int),.int (j:Int)]);have kp:upd H1 p (.tup [.int (i:Int),.int (j:Int)]) p=some (.tup [.int (i:Int),.int (j:Int)]):=zC;generalize upd H1 p (.tup [.int (i:Int),.int (j:Int)])=H2 at s2 kp⊢;refine⟨g.pa,rfl,_,.inr ⟨_,xM i j,p,s2 _ _ h4,rfl,kp,by rw[HC];exact sz hlen2,rfl⟩,hN _ _ ?_⟩;clear hN;have vn:yW (pY ls 0) (xM i j)=none:=by
   rcases YH (i:=i) (j:=j) ls 0 with⟨_,h⟩ |⟨p',l,g1,g2,g3,_⟩
   ·exact h
   ·have :=fO.mpr ⟨p',l,g1,g2,g3⟩;rw[hb]at this;cases this
  rw[uW vn];have ep:pY ls 0++[(xM i j,V.int (ws.length:Int))]=pY (ls++[⟨i,j,x,as⟩]) 0:=by rw[tO,fJ,hwl]
  rw[ep];have g3:fV g H1 (upd H2 g.pa (.dT (pY (ls++[⟨i,j,x,as⟩]) 0))):=λb o hb _ n _ _=>by rw[zL n];exact s2 _ _ hb
  have e1:∀{b:Addr}{o:HO},H1 b=some o->b≠g.pa->upd H2 g.pa (.dT (pY (ls++[⟨i,j,x,as⟩]) 0)) b=some o:=λhb n=>by rw[zL n];exact s2 _ _ hb
  replace hi:=e1 hi (cM hpar);replace h2:=e1 h2 (cM hpla);replace h5:=e1 h5 (cM hpaa);replace h7:=e1 h7 (cM hpba);clear e1;replace h4:upd H2 g.pa (.dT (pY (ls++[⟨i,j,x,as⟩]) 0)) g.pa=some (.dT (pY (ls++[⟨i,j,x,as⟩]) 0)):=zC;have tu:dC H1 (upd H2 g.pa (.dT (pY (ls++[⟨i,j,x,as⟩]) 0))):=λb xs hb=>by
   have hb2:=s2 _ _ hb;rw[zL (qD hb h4' (by intro z;cases z))];exact hb2
  generalize upd H2 g.pa (.dT (pY (ls++[⟨i,j,x,as⟩]) 0))=H3 at g3 hi h2 h5 h7 h4 tu⊢;replace h3:=vP tu h3;replace hw:=sK tu hw;clear kp s2 hp vn ep tu;refine zH λN hN=>?_
  dsimp![wE];refine⟨C,dx,_,hi,T.cl,T.nL,_,MN g,.inl ⟨rfl,_,dF.of h2⟩,small (by simp),λpt hpt=>?_⟩;have s2:=zE hpt (.tup [.int (i:Int),.int (j:Int),wv]);have kt:upd H3 pt (.tup [.int (i:Int),.int (j:Int),wv]) pt=some (.tup [.int (i:Int),.int (j:Int),wv]):=zC;generalize upd H3 pt (.tup [.int (i:Int),.int (j:Int),wv])=H4 at s2 kt⊢;refine⟨g.la,rfl,_,s2 _ _ h2,sz (),hN _ _ ?_⟩;clear hN;have e1:∀{b:Addr}{o:HO},H3 b=some o->b≠g.la->upd H4 g.la (.lst (ws++[.ref pt])) b=some o:=λhb n=>by rw[zL n];exact s2 _ _ hb
  have g4:fV g H3 (upd H4 g.la (.lst (ws++[.ref pt]))):=λb o hb n _ _ _=>e1 hb n
  have tu:dC H4 (upd H4 g.la (.lst (ws++[.ref pt]))):=(dC.refl _).upd_lst (s2 _ _ h2);have h3':xQ (upd H4 g.la (.lst (ws++[.ref pt]))) (ls++[⟨i,j,x,as⟩]) (ws++[.ref pt]):=by
   refine vP tu ?_;unfold xQ;rw[bF];exact bA.append (bA.same s2 h3) (bA.one (n0 kt (dD.same s2 hw)))
  replace hi:=e1 hi (cM hlar);replace h4:=e1 h4 hpla;replace h5:=e1 h5 (cM n1);replace h7:=e1 h7 (cM n2);have h2':upd H4 g.la (.lst (ws++[.ref pt])) g.la=some (.lst (ws++[.ref pt])):=zC;replace g3:=g3.trans g4;generalize upd H4 g.la (.lst (ws++[.ref pt]))=H5 at g3 hi h4 h5 h7 h2' h3'⊢;clear e1 g4 tu kt s2 hpt h2 h3 hw;have li:i<bs.length:=by rw[h6.len];lia
  have lj:j<cs.length:=by rw[h8.len];lia
  have gi:=aA li;have gj:=aA lj;generalize bs[i]=ci at gi;generalize cs[j]=cj at gj;have mset:∀(cs:List Nat)(i v:Nat),(cs.map nV).set i (V.int (v:Int))=(cs.set i v).map nV:=λcs i v=>(List.map_set (f:=nV) (l:=cs) (i:=i) (a:=v)).symm
  refine zH λN hN=>?_
  dsimp![OG,wE,PV,mh,GS];refine⟨C,dx,_,hi,T.cl,T.nA,_,TV g,g.aa,rfl,_,i,rfl,h5,nV ci,by rw[aQ,gi];rfl,⟨(),(),()⟩,_,rfl,g.aa,rfl,_,h5,i,IB (by rw[aE];exact li),hN _ _ ?_⟩;clear hN;rw[GG j,HI,mset];have bc:∀a b:Nat,(((a:Nat):Int)==((b:Nat):Int))=(b==a):=λa b=>by
   rw[cK,dJ,dJ];lia
  have e1:∀{b:Addr}{o:HO},H5 b=some o->b≠g.aa->upd H5 g.aa (.lst ((bs.set i (ci|||2^j)).map nV)) b=some o:=λhb n=>by rw[zL n];exact hb
  have g4:fV g H5 (upd H5 g.aa (.lst ((bs.set i (ci|||2^j)).map nV))):=λb o hb _ _ n _=>e1 hb n
  have tu:dC H5 (upd H5 g.aa (.lst ((bs.set i (ci|||2^j)).map nV))):=(dC.refl _).upd_lst h5;replace h3':=vP tu h3';replace hi:=e1 hi (cM haar);replace h4:=e1 h4 hpaa;replace h2':=e1 h2' n1;replace h7:=e1 h7 (cM n3);have h5':upd H5 g.aa (.lst ((bs.set i (ci|||2^j)).map nV)) g.aa=some (.lst ((bs.set i (ci|||2^j)).map nV)):=zC;replace g3:=g3.trans g4;generalize upd H5 g.aa (.lst ((bs.set i (ci|||2^j)).map nV))=H6 at g3 hi h4 h5' h7 h2' h3'⊢;clear e1 g4 tu h5;dsimp![OG,wE,PV,mh,GS];refine⟨C,dx,_,hi,T.cl,T.nB,_,m6 g,g.ba,rfl,_,j,rfl,h7,nV cj,by rw[aQ,gj];rfl,⟨(),(),()⟩,_,rfl,g.ba,rfl,_,h7,j,IB (by rw[aE];exact lj),?_⟩;rw[GG i,HI,mset];have e1:∀{b:Addr}{o:HO},H6 b=some o->b≠g.ba->upd H6 g.ba (.lst ((cs.set j (cj|||2^i)).map nV)) b=some o:=λhb n=>by rw[zL n];exact hb
  have g4:fV g H6 (upd H6 g.ba (.lst ((cs.set j (cj|||2^i)).map nV))):=λb o hb _ _ _ n=>e1 hb n
  have tu:dC H6 (upd H6 g.ba (.lst ((cs.set j (cj|||2^i)).map nV))):=(dC.refl _).upd_lst h7;refine q _ ⟨((bG.g s1).trans g3).trans g4,[⟨i,j,x,as⟩],⟨⟨⟨dx,e1 hi (cM hbar)⟩,⟨_,e1 h2' n2,vP tu h3'⟩,e1 h4 hpba,⟨_,e1 h5' n3,h6.put gi λa b=>?_⟩,⟨_,zC,h8.put gj λa b=>?_⟩,⟨n1,n2,n3⟩,h10.put hb iN how⟩,by show zX (ls++[⟨i,j,x,as⟩]) i j=true;rw[vS,XZ];simp⟩⟩
  ·rw[vS,XZ];show(zX ls a b ||(((i:Nat):Int)==((a:Nat):Int)&&((j:Nat):Int)==((b:Nat):Int)))=_;rw[bc,bc]
  ·rw[vS,XZ];show(zX ls b a ||(((i:Nat):Int)==((b:Nat):Int)&&((j:Nat):Int)==((a:Nat):Int)))=_;rw[bc,bc,Bool.and_comm]
theorem tF(m:Nat):(List.replicate m [V.int 0]).flatten=(List.replicate m 0).map nV:=by
 induction m with
 |zero=>rfl
 |succ m ih=>
  rw[fR,lR,ih,fR,cD];rfl
theorem SV(n:Nat)(hp:Nat->Nat->Bool)(h:∀a b,hp a b=false):MkA n hp (List.replicate n 0):=⟨mF ..,λa c hc b=>by
 obtain⟨_,e⟩:=aD.mp hc;rw[List.getElem_replicate]at e;subst e;rw[h];simp⟩
inductive jv (C:Addr) (vs:List V) (H:Hp) (Q:VK) (E:XK):Prop
 |mk (r dx:Addr) (aC:List Rw) (aT:List xJ) (_:vs=[.ref r,.int ((2*aC.length:Nat):Int)]) (_:H r=some (.ins C dx [])) (_:aC.length<=100) (_:∀(g:nQ) H',g.r=r->gE r H H'->H g.la=none->H g.pa=none->H g.aa=none->H g.ba=none->lF C H' g aC aT []->Q .non H')
theorem qM{r l:Addr}{o:HO}(e:gE r H H')(h:H l=none):gE r H (upd H' l o):=λb u hb n=>by
 have :b≠l:=λz=>by rw[z,h]at hb;cases hb
 rw[zL this];exact e b u hb n
theorem qP{r l:Addr}(e:gE r H H')(h:H' l=none)(n:l≠r):H l=none:=by
 cases hl:H l with
 |none=>rfl
 |some o=>have :=e l o hl n;rw[h]at this;cases this
theorem SF{C:Addr}(T:NL K C)(F:gL K "__init__" "Growth.__init__" s_B f fd):dG P w K mg base gJ 1 f fd ["self","many"] (jv C):=by
 refine F.okz sc_B λfL A outer s H vs Q E hr h=>?_
 obtain⟨r,dx,aC,aT,rfl,hr',h30,q⟩:=h;generalize hn:2*aC.length=n at q;have n60:n<=200:=by lia
 have step:∀{H':Hp}{b:Addr}{u:HO},H' r=some u->H' b=none->b≠r:=λh1 h2 z=>by rw[z,h1]at h2;cases h2
 refine⟨_,(zD (UJ (pv 0) (xF zB) rfl) (zD (UJ (pv 0) XL rfl) (zD (UJ (pv 0) (zU DH (xF (zA zF zB)) (pv 1)) rfl) (zG (UJ (pv 0) (zU DH (xF (zA zF zB)) (pv 1)) rfl))))),?_⟩;refine zH λN hN=>?_
 dsimp![PD];refine⟨small (by simp),λla iF=>?_⟩;have nla:=step hr' iF;refine⟨C,dx,[],by rw[zL (cM nla)];exact hr',T.cl,T.nL,(),hN _ _ ?_⟩;clear hN;have x1:gE r H (upd (upd H la (.lst [])) r (.ins C dx (xR "lines" (.ref la) []))):=gE.upd (qM (gE.refl r H) iF);have k1:upd (upd H la (.lst [])) r (.ins C dx (xR "lines" (.ref la) [])) r=some (.ins C dx (xR "lines" (.ref la) [])):=zC;have l1:upd (upd H la (.lst [])) r (.ins C dx (xR "lines" (.ref la) [])) la=some (.lst []):=by rw[zL nla];exact zC
 generalize upd (upd H la (.lst [])) r (.ins C dx (xR "lines" (.ref la) []))=H1 at x1 k1 l1⊢;refine zH λN hN=>?_
 dsimp![PD,CS];refine λpa hpa=>?_
 have npa:=step k1 hpa;have hpa0:=qP x1 hpa npa;refine⟨C,dx,_,by rw[zL (cM npa)];exact k1,T.cl,T.nP,by show 1<1000;decide,hN _ _ ?_⟩;clear hN;have npl:pa≠la:=λz=>by rw[z,l1]at hpa;cases hpa
 have x2:gE r H (upd (upd H1 pa (.dT [])) r (.ins C dx (xR "places" (.ref pa) (xR "lines" (.ref la) [])))):=gE.upd (qM x1 hpa0);have k2:upd (upd H1 pa (.dT [])) r (.ins C dx (xR "places" (.ref pa) (xR "lines" (.ref la) []))) r=some (.ins C dx (xR "places" (.ref pa) (xR "lines" (.ref la) []))):=zC;have l2:upd (upd H1 pa (.dT [])) r (.ins C dx (xR "places" (.ref pa) (xR "lines" (.ref la) []))) la=some (.lst []):=by rw[zL nla,zL (cM npl)];exact l1
 have p2:upd (upd H1 pa (.dT [])) r (.ins C dx (xR "places" (.ref pa) (xR "lines" (.ref la) []))) pa=some (.dT []):=by rw[zL npa];exact zC
 generalize upd (upd H1 pa (.dT [])) r (.ins C dx (xR "places" (.ref pa) (xR "lines" (.ref la) [])))=H2 at x2 k2 l2 p2⊢;refine zH λN hN=>?_
 dsimp![PD,b8];refine⟨small (by simp),λp0 hp0=>⟨[V.int 0],zC,(),(),small (by simp;lia),λaa haa=>?_⟩⟩;have np0:=step k2 hp0;have naa0:aa≠p0:=λz=>by rw[z,zC]at haa;cases haa
 rw[zL naa0]at haa;have naa:=step k2 haa;refine⟨C,dx,_,by rw[zL (cM naa),zL (cM np0)];exact k2,T.cl,T.nA,by show 2<1000;decide,hN _ _ ?_⟩;clear hN;rw[bV,tF];have nal:aa≠la:=λz=>by rw[z,l2]at haa;cases haa
 have nap:aa≠pa:=λz=>by rw[z,p2]at haa;cases haa
 have n0l:p0≠la:=λz=>by rw[z,l2]at hp0;cases hp0
 have n0p:p0≠pa:=λz=>by rw[z,p2]at hp0;cases hp0
 have haa0:=qP x2 haa naa;have hp00:=qP x2 hp0 np0;generalize hfs:xR "above" (V.ref aa) (xR "places" (V.ref pa) (xR "lines" (V.ref la) []))=fs3;have x3:gE r H (upd (upd (upd H2 p0 (.lst [.int 0])) aa (.lst ((List.replicate n 0).map nV))) r (.ins C dx fs3)):=gE.upd (qM (qM x2 hp00) haa0);have k3:upd (upd (upd H2 p0 (.lst [.int 0])) aa (.lst ((List.replicate n 0).map nV))) r (.ins C dx fs3) r=some (.ins C dx fs3):=zC;have l3:upd (upd (upd H2 p0 (.lst [.int 0])) aa (.lst ((List.replicate n 0).map nV))) r (.ins C dx fs3) la=some (.lst []):=by rw[zL nla,zL (cM nal),zL (cM n0l)];exact l2
 have p3:upd (upd (upd H2 p0 (.lst [.int 0])) aa (.lst ((List.replicate n 0).map nV))) r (.ins C dx fs3) pa=some (.dT []):=by rw[zL npa,zL (cM nap),zL (cM n0p)];exact p2
 have a3:upd (upd (upd H2 p0 (.lst [.int 0])) aa (.lst ((List.replicate n 0).map nV))) r (.ins C dx fs3) aa=some (.lst ((List.replicate n 0).map nV)):=by rw[zL naa];exact zC
 generalize upd (upd (upd H2 p0 (.lst [.int 0])) aa (.lst ((List.replicate n 0).map nV))) r (.ins C dx fs3)=H3 at x3 k3 l3 p3 a3⊢;dsimp![PD,b8];refine⟨small (by simp),λq0 hq0=>⟨[V.int 0],zC,(),(),small (by simp;lia),λba lL=>?_⟩⟩;have nq0:=step k3 hq0;have nba0:ba≠q0:=λz=>by rw[z,zC]at lL;cases lL
 rw[zL nba0]at lL;have nba:=step k3 lL;refine⟨C,dx,_,by rw[zL (cM nba),zL (cM nq0)];exact k3,T.cl,T.nB,by rw[←hfs];show 3<1000;decide,?_⟩;rw[bV,tF];have nbl:ba≠la:=λz=>by rw[z,l3]at lL;cases lL
 have nbp:ba≠pa:=λz=>by rw[z,p3]at lL;cases lL
 have nb1:ba≠aa:=λz=>by rw[z,a3]at lL;cases lL
 have n1l:q0≠la:=λz=>by rw[z,l3]at hq0;cases hq0
 have n1p:q0≠pa:=λz=>by rw[z,p3]at hq0;cases hq0
 have n1a:q0≠aa:=λz=>by rw[z,a3]at hq0;cases hq0
 have hba0:=qP x3 lL nba;have hq00:=qP x3 hq0 nq0;rw[←hfs];refine q ⟨r,la,pa,aa,ba⟩ _ rfl (gE.upd (qM (qM x3 hq00) hba0)) iF hpa0 haa0 hba0 ⟨⟨dx,zC⟩,⟨[],?_,rfl⟩,?_,⟨_,?_,SV _ _ λa b=>rfl⟩,⟨_,?_,SV _ _ λa b=>rfl⟩,⟨cM nal,cM nbl,cM nb1⟩,⟨λk l h=>(by cases h),λa b x y h=>(by cases h),λl h=>(by cases h)⟩⟩
 ·show upd _ r _ la=_;rw[zL nla,zL (cM nbl),zL (cM n1l)];exact l3
 ·show upd _ r _ pa=_;rw[zL npa,zL (cM nbp),zL (cM n1p)];exact p3
 ·show upd _ r _ aa=_;rw[zL naa,zL (cM nb1),zL (cM n1a),hn];exact a3
 ·show upd _ r _ ba=_;rw[zL nba,zC,hn]
abbrev j7:Stmt:=top 31
theorem GH:bW ["growth","sheet","n","k","row"] ["growth","sheet"] (zK j7):=by rfl'
abbrev s_g:Stmt:=top 32
theorem bj:bW ["sheet","boths","k","row"] ["sheet"] (zK s_g):=by rfl'
abbrev s_b:Stmt:=top 33
theorem OV:bW ["rules","waiting","r","rule","premise"] ["rules"] (zK s_b):=by rfl'
theorem fy.then{C:Addr}{H'':Hp}{g:nQ}{ls t:List Ln}(h:fV g H H')(h':fy C H' g aC aT (ls++t) H''):fy C H g aC aT ls H'':=by
 obtain⟨h1,t',h2⟩:=h';exact⟨h.trans h1,t++t',by rw[←cF];exact h2⟩
theorem lK.to{C:Addr}{g:nQ}{ls:List Ln}(h:lK C H g aC aT ls R H'):fy C H g aC aT ls H':=by
 obtain⟨h1,t,h2,_⟩:=h;exact⟨h1,t,h2⟩
theorem lK.same{C:Addr}{H'':Hp}{g:nQ}{ls:List Ln}(h:lK C H g aC aT ls R H')(e:bG H' H''):lK C H g aC aT ls R H'':=by
 obtain⟨h1,t,h2,h3⟩:=h;exact⟨h1.trans (bG.g e),t,h2.same e,h3⟩
theorem lK.pre{C:Addr}{H'':Hp}{g:nQ}{ls:List Ln}(e:bG H H')(h:lK C H' g aC aT ls R H''):lK C H g aC aT ls R H'':=by
 obtain⟨h1,h2⟩:=h;exact⟨(bG.g e).trans h1,h2⟩
theorem lK.refl{C:Addr}{g:nQ}{ls:List Ln}(h:lF C H g aC aT ls)(hR:R ls):lK C H g aC aT ls R H:=⟨λ_ _ hb _ _ _ _=>hb,[],by rw[cU];exact⟨h,hR⟩⟩
def Le(ls L:List Ln):Prop:=∃t,L=ls++t
theorem Le.refl(ls:List Ln):Le ls ls:=⟨[],(cU _).symm⟩
theorem Le.trans{a b c:List Ln}(h:Le a b)(h':Le b c):Le a c:=by
 obtain⟨t,rfl⟩:=h;obtain⟨t',rfl⟩:=h';exact⟨t++t',by rw[cF]⟩
theorem Le.has{a b:List Ln}(h:Le a b){i j:Int}(hh:zX a i j=true):zX b i j=true:=by
 obtain⟨t,rfl⟩:=h;rw[vS,hh,Bool.true_or]
theorem lK.then{C:Addr}{H'':Hp}{g:nQ}{ls t:List Ln}{R':List Ln->Prop}(h:fV g H H')(h':lK C H' g aC aT (ls++t) R H'')(i:∀L,Le (ls++t) L->R L->R' L):lK C H g aC aT ls R' H'':=by
 obtain⟨h1,t',h2,h3⟩:=h';rw[cF]at h2 h3;exact⟨h.trans h1,t++t',h2,i _ ⟨t',by rw[cF]⟩ h3⟩
def JR(g:nQ)(a:Addr):Prop:=a≠g.la/\a≠g.pa/\a≠g.aa/\a≠g.ba
theorem fV.out{g:nQ}{a:Addr}{o:HO}(e:fV g H H')(n:JR g a)(h:H a=some o):H' a=some o:=e a o h n.1 n.2.1 n.2.2.1 n.2.2.2
theorem OI{ls:List Ln}{x:Str}(hi:i<2*aC.length)(hj:j<2*aC.length)(hx:x≠"rule")(hn:wI x=some 0)(h:yS aC i j x []=true):xI aC aT ls ls.length ⟨i,j,x,[]⟩=true:=by
 unfold xI;rw[aF (by
  intro z;rcases z with z |z
  ·exact z ⟨by show(0:Int)<=(i:Int);lia,by show(i:Int)<_;lia⟩
  ·exact z ⟨by show(0:Int)<=(j:Int);lia,by show(j:Int)<_;lia⟩),aF hx,aH ⟨hn,rfl⟩]
 exact h
theorem ow0:OW []:=⟨by simp,λps h=>by cases h⟩
theorem wX{C:Addr}{H2:Hp}{g:nQ}{ls t:List Ln}(hs:fV g H H')(hg:lF C H' g aC aT (ls++t))(gY:aC.length<=100)(e:bG H' H2){x:Str}{wv:V}(hw:dD H2 (ZE x as) wv)(iN:xI aC aT (ls++t) (ls++t).length ⟨i,j,x,as⟩=true)(ho:OW as){Q:VK}{E:XK}(hR:∀L,Le (ls++t) L->zX L i j=true->R L)(q:∀v H3,lK C H g aC aT ls R H3->Q v H3):
 rB C [.ref g.r,.int i,.int j,wv] H2 Q E:=
 ⟨g,aC,aT,_,i,j,wv,x,as,rfl,hg.same e,gY,hw,iN,ho,λH3 g3=>q _ _ (lK.then (hs.trans (bG.g e)) g3 hR)⟩
theorem vT{C:Addr}{g:nQ}{ls t:List Ln}(hs:fV g H H')(hg:lF C H' g aC aT (ls++t))(gY:aC.length<=100)(hi:i<2*aC.length)(hj:j<2*aC.length){x:Str}(hx:x≠"rule")(hn:wI x=some 0)(iN:yS aC i j x []=true)(hp:H' p=none){Q:VK}{E:XK}(hR:∀L,Le (ls++t) L->zX L i j=true->R L)(q:∀v H2,lK C H g aC aT ls R H2->Q v H2):
 rB C [.ref g.r,.int i,.int j,.ref p] (upd H' p (.tup [.str x])) Q E:=
 wX hs hg gY (zE hp _) (x:=x) (as:=[]) ⟨p,_,rfl,zC,_,_,rfl,rfl,rfl⟩ (OI hi hj hx hn iN) ow0 hR q
structure Pl(aC:List Rw)(n m:Nat)(L:List Ln):Prop where
 same:∀x:Nat,x<n->zX L x x=true
 low:∀x:Nat,x<n->zX L 0 x=true
 high:∀x:Nat,x<n->zX L x 1=true
 part:∀(k:Nat)(a b:Int),k<m->aC[k]?=some (.bo a b)->zX L ((2*k:Nat):Int) a=true/\zX L ((2*k:Nat):Int) b=true
theorem Pl.le{m:Nat}{L L':List Ln}(h:Pl aC n m L)(e:Le L L'):Pl aC n m L':=⟨λx hx=>e.has (h.same x hx),λx hx=>e.has (h.low x hx),λx hx=>e.has (h.high x hx),λk a b hk hr=>⟨e.has (h.part k a b hk hr).1,e.has (h.part k a b hk hr).2⟩⟩
inductive spBe (K:W.Frag) (C:Addr) (vs:List V) (H:Hp) (Q:VK) (E:XK):Prop
 |mk (g:nQ) (sa:Addr) (us:List V) (aC:List Rw) (aT:List xJ) (_:vs=[.ref g.r,.ref sa]) (_:lF C H g aC aT []) (_:aC.length<=100) (_:H sa=some (.lst us)) (_:fP K H aC us) (_:JR g sa) (_:uM aC) (_:∀H',lK C H g aC aT [] (Pl aC (2*aC.length) aC.length) H'->Q .non H')
theorem SK{C:Addr}(T:NL K C)(bi:Bi mg)(be:mg "enumerate"=none)(h_d:mW P w K mg base 2 C "grow" ["self","i","j","why"] (rB C))(F:gL K "begin" "begin" j7 f fd):dG P w K mg base gJ 3 f fd ["growth","sheet"] (spBe K C):=by
 refine F.okz GH λfL A outer s H vs Q E hr h=>?_
 obtain⟨g,sa,us,aC,aT,rfl,hg,gY,hsa,hrw,hout,hin,q⟩:=h;have hul:=hrw.len;have cN:=T.cl;have lk:(pS g).lookup ("grow":Str)=none:=uH g () () () ();refine⟨_,(zD (yP bM rfl (xY rfl bi.range (zA (zU xP zF (zS yA rfl bi.len yJ (zA (pv 1) zB))) zB)) (yF 2 GH.nd) (zD (yD (yI h_d cN hr.m (pv 0) (zA (pv 2) (zA (pv 2) (zA (zP (zA zT zB)) zB))))) (zD (yD (yI h_d cN hr.m (pv 0) (zA zF (zA (pv 2) (zA (zP (zA zT zB)) zB))))) (zG (yD (yI h_d cN hr.m (pv 0) (zA (pv 2) (zA zF (zA (zP (zA zT zB)) zB))))))))) (zG (yP bM rfl (uX rfl be (zA (pv 1) zB)) (jF rfl (zV (yF 3 GH.nd) (zV (yF 4 GH.nd) yY))) (zG (zZ (zQ yE (zJ zN (pv 4) zF) zT (zO _)) (zD (yD (yI h_d cN hr.m (pv 0) (zA (zU xP zF (pv 3)) (zA (zJ zN (pv 4) zF) (zA (zP (zA zT zB)) zB))))) (zG (yD (yI h_d cN hr.m (pv 0) (zA (zU xP zF (pv 3)) (zA (zJ zN (pv 4) zF) (zA (zP (zA zT zB)) zB))))))) zR))))),?_⟩;refine yK (λσ H'=>∃(o1 o2 o3:Option V),lK C H g aC aT [] (Pl aC (2*aC.length) 0) H'/\σ=[some (V.ref g.r),some (V.ref sa),o1,o2,o3]) (λN hN=>?_) (λσ H' h=>?_)
 ·dsimp![];refine⟨us.length,.inl ⟨_,dF.of hsa,rfl⟩,.inl ⟨(),()⟩,(),(),?_⟩;refine kM (n:=(2*(us.length:Int)).toNat) (λi σ H'=>∃(o1 o2 o3:Option V),lK C H g aC aT [] (Pl aC i 0) H'/\σ=[some (V.ref g.r),some (V.ref sa),o1,o2,o3]) ⟨_,_,_,lK.refl hg ⟨λx hx=>(),λx hx=>(),λx hx=>(),λk a b hk=>()⟩,rfl⟩ (λi σ H' hi h M hM=>?_) (λσ H' h=>?_)
  rotate_left
  ·rw[show(2*(us.length:Int)).toNat=2*aC.length by lia]at h;exact hN _ _ h
  obtain⟨o1,o2,o3,⟨gs,t,gt,hP⟩,rfl⟩:=h;have hi':i<2*aC.length:=by lia
  have e0:(0:Int)+(i:Int)=((i:Nat):Int):=by lia
  show LA _ _ _ _ _;refine zH λN2 hN2=>?_
  dsimp![jI];rw[e0];obtain⟨dx,eO⟩:=gt.ins;refine⟨_,_,eO,lk,small (by simp),λp hp=>vT gs gt gY hi' hi' (x:="same") () rfl (by unfold yS;rw[aH rfl];simp) hp (R:=λL=>Pl aC i 0 L/\zX L i i=true) (λL e h=>⟨hP.le e,h⟩) λ_ H2 g2=>hN2 _ _ ?_⟩;clear hN2 eO gs gt;obtain⟨gs,t,gt,hP,lV⟩:=g2;obtain⟨dx,eO⟩:=gt.ins;refine zH λN2 hN2=>?_
  dsimp![jI];refine⟨_,_,eO,lk,small (by simp),λp hp=>vT (i:=0) gs gt gY () hi' (x:="edge") () rfl (by unfold yS;rw[aF (),aH rfl];simp) hp (R:=λL=>Pl aC i 0 L/\zX L i i=true/\zX L 0 i=true) (λL e h=>⟨hP.le e,e.has lV,h⟩) λ_ H2 g2=>hN2 _ _ ?_⟩;clear hN2 eO gs gt;obtain⟨gs,t,gt,hP,lV,hp2⟩:=g2;obtain⟨dx,eO⟩:=gt.ins;dsimp![jI];refine⟨_,_,eO,lk,small (by simp),λp hp=>vT (j:=1) gs gt gY hi' () (x:="edge") () rfl (by unfold yS;rw[aF (),aH rfl];simp) hp (R:=Pl aC (i+1) 0) (λL e h=>?_) λ_ H2 g2=>?_⟩
  ·have c:∀{x:Nat},x<i+1->x<i\/x=i:=λh=>by lia
   have hP':=hP.le e;exact⟨λx hx=>(c hx).elim (hP'.same x) λz=>z▸e.has lV,λx hx=>(c hx).elim (hP'.low x) λz=>z▸e.has hp2,λx hx=>(c hx).elim (hP'.high x) λz=>z▸h,λk a b hk=>()⟩
  exact hM _ _ ⟨_,_,_,g2,rfl⟩
 obtain⟨o1,o2,o3,hgt,rfl⟩:=h;have hsa':=hgt.to.1.out hout hsa;dsimp![ZO];refine⟨_,hsa',?_⟩;refine YN (xs:=us) (λk σ H'=>∃(o1 o2 o3:Option V),lK C H g aC aT [] (Pl aC (2*aC.length) k) H'/\σ=[some (V.ref g.r),some (V.ref sa),o1,o2,o3]) ⟨_,_,_,hgt,rfl⟩ (λk σ H' h=>?_) (λk x σ H' p hx h hp M hM=>?_) (λσ H' h=>?_)
 ·obtain⟨_,_,_,h,_⟩:=h;exact h.to.1.out hout hsa
 ·obtain⟨o1,o2,o3,hgt,rfl⟩:=h;have hk:k<aC.length:=by rw[←hul];exact(aD.mp hx).1
  obtain⟨r,mC,hr2⟩:=hrw.get hx;have tu:=hg.tups hgt.to.1;obtain⟨xa,x',vs,rfl,mJ,hcase⟩:=MZ.out hr2;have hxa0:=mJ;replace mJ:=mJ.tups tu;replace hgt:=hgt.same (zE hp (.tup [.int k,.ref xa]));have hxa':=mJ.same (zE hp (.tup [.int k,.ref xa]));have kp:upd H' p (.tup [.int k,.ref xa]) p=some (.tup [.int k,.ref xa]):=zC;generalize upd H' p (.tup [.int k,.ref xa])=H2 at hgt hxa' kp⊢;dsimp![uQ,jU,uY,jI];refine⟨[.int k,.ref xa],cW.of kp,rfl,.int k,[.ref xa],rfl,.ref xa,[],rfl,rfl,xa,rfl,_,hxa'.sq,_,iG,rfl,?_⟩;have nob:∀{L:List Ln},(∀a b,r≠.bo a b)->Pl aC (2*aC.length) k L->Pl aC (2*aC.length) (k+1) L:=λhno h=>⟨h.same,h.low,h.high,λm a b hm hr'=>by
   rcases hU (lQ hm)with z |z
   ·exact h.part m a b z hr'
   ·subst z;rw[mC]at hr';cases hr';exact absurd rfl (hno a b)⟩
  have weak:∀{R R':List Ln->Prop}{H'},(∀L,R L->R' L)->lK C H g aC aT [] R H'->lK C H g aC aT [] R' H':=λw h=>by
   obtain⟨h1,t,h2,h3⟩:=h;exact⟨h1,t,h2,w _ h3⟩
  cases r with
  |no=>
   obtain⟨rfl,rfl⟩:=hcase;rw[aF (by intro z;exact absurd (V.str.inj z) ())];exact hM _ _ ⟨_,_,_,weak (λL=>nob (λa b z=>by cases z)) hgt,rfl⟩
  |nm y=>
   obtain⟨rfl,rfl⟩:=hcase;rw[aF (by intro z;exact absurd (V.str.inj z) ())];exact hM _ _ ⟨_,_,_,weak (λL=>nob (λa b z=>by cases z)) hgt,rfl⟩
  |bo i j=>
   obtain⟨rfl,rfl⟩:=hcase;rw[aH rfl];obtain⟨⟨b1,b2⟩,b3,b4⟩:=hin k i j mC;obtain⟨a,rfl⟩:∃a:Nat,i=(a:Int):=⟨i.toNat,()⟩
   obtain⟨b,rfl⟩:∃b:Nat,j=(b:Int):=⟨j.toNat,()⟩
   have e2:(2:Int)*(k:Int)=((2*k:Nat):Int):=by lia
   have hpt:vB aC ((2*k:Nat):Int)=[(a:Int),(b:Int)]:=kJ (r:=.bo a b) () (by rw[show(((2*k:Nat):Int)/2).toNat=k by lia];exact mC);have iN:∀c:Nat,(c=a\/c=b)->yS aC ((2*k:Nat):Int) c "part" []=true:=λc hc=>by
    unfold yS;rw[aF (),aF (),aH rfl,hpt];rcases hc with rfl |rfl<;>simp
   have at2:∀{a b c:V},oO [a,b,c] 2=some c:=yO (j:=2) rfl;obtain⟨gs,t,gt,hP⟩:=hgt;obtain⟨dx,eO⟩:=gt.ins;refine⟨_,_,eO,lk,_,rfl,.inl ⟨(),()⟩,xa,rfl,_,hxa'.sq,_,nK,small (by simp),λp1 lV=>?_⟩;rw[e2];refine vT (i:=2*k) (j:=a) gs gt gY () () (x:="part") () rfl (iN a (.inl rfl)) lV (R:=λL=>Pl aC (2*aC.length) k L/\zX L ((2*k:Nat):Int) a=true) (λL e h=>⟨hP.le e,h⟩) λ_ H3 g3=>?_
   have hxa3:=hxa0.tups (hg.tups g3.1);obtain⟨gs,t,gt,hP,hpa⟩:=g3;obtain⟨dx,eO⟩:=gt.ins;refine⟨_,_,eO,lk,_,rfl,.inl ⟨(),()⟩,xa,rfl,_,hxa3.sq,_,at2,small (by simp),λp2 hp2=>?_⟩;rw[e2];refine vT (i:=2*k) (j:=b) gs gt gY () () (x:="part") () rfl (iN b (.inr rfl)) hp2 (R:=Pl aC (2*aC.length) (k+1)) (λL e h=>?_) λ_ H4 g4=>hM _ _ ⟨_,_,_,g4,rfl⟩
   have hP':=hP.le e;refine⟨hP'.same,hP'.low,hP'.high,λm a' b' hm hr'=>?_⟩;rcases hU (lQ hm)with z |z
   ·exact hP'.part m a' b' z hr'
   ·subst z;rw[mC]at hr';cases hr';exact⟨e.has hpa,h⟩
 ·obtain⟨_,_,_,h,rfl⟩:=h;rw[hul]at h;exact q _ h
def VY(aC:List Rw)(H:Hp)(v:V):Prop:=∃(t:Addr)(k:Nat)(a b:Int),v=.ref t/\H t=some (.tup [.int (2*(k:Int)),.int a,.int b])/\aC[k]?=some (.bo a b)
theorem VY.tups(e:dC H H')(h:VY aC H v):VY aC H' v:=by
 obtain⟨t,k,a,b,h1,h2,h3⟩:=h;exact⟨t,k,a,b,h1,e _ _ h2,h3⟩
def NE(aC:List Rw)(H:Hp)(qs:List Addr)(n:Nat):Prop:=∀q∈qs,∃us,H q=some (.lst us)/\us.length<=n/\∀v∈us,VY aC H v
theorem NE.same(e:bG H H')(h:NE aC H qs n):NE aC H' qs n:=λq hq=>by
 obtain⟨us,h1,h2,h3⟩:=h q hq;exact⟨us,e _ _ h1,h2,λv hv=>(h3 v hv).tups e.tups⟩
theorem NE.put{q:Addr}{us:List V}(h:NE aC H qs n)(hq:H q=some (.lst us))(hl:us.length<=n)(iT:∀v∈us,VY aC H v)(hv:VY aC H v):NE aC (upd H q (.lst (us++[v]))) qs (n+1):=λq' hq'=>by
 have tu:dC H (upd H q (.lst (us++[v]))):=(dC.refl _).upd_lst hq;by_cases e:q'=q
 ·subst e;refine⟨us++[v],zC,by simp;lia,λx hx=>?_⟩;rcases bX.mp hx with hx |hx
  ·exact(iT x hx).tups tu
  ·rw[aX.mp hx];exact hv.tups tu
 ·obtain⟨us',h1,h2,h3⟩:=h q' hq';exact⟨us',by rw[zL e];exact h1,(),λx hx=>(h3 x hx).tups tu⟩
def WY(H:Hp)(q:Addr)(m:Nat)(a b:Int):Prop:=∃(us:List V)(t:Addr),H q=some (.lst us)/\V.ref t∈us/\H t=some (.tup [.int (2*(m:Int)),.int a,.int b])
theorem WY.same{q:Addr}{m:Nat}{a b:Int}(e:bG H H')(h:WY H q m a b):WY H' q m a b:=by
 obtain⟨us,t,h1,h2,h3⟩:=h;exact⟨us,t,e _ _ h1,h2,e _ _ h3⟩
theorem WY.upd{q:Addr}{m:Nat}{a b:Int}(h:WY H q m a b){q1:Addr}{us1:List V}(hq:H q1=some (.lst us1)):WY (upd H q1 (.lst (us1++[v]))) q m a b:=by
 obtain⟨us,t,h1,h2,h3⟩:=h;have h3':=(dC.refl H).upd_lst (o:=.lst (us1++[v])) hq _ _ h3;by_cases e:q=q1
 ·subst e;rw[hq]at h1;cases h1;exact⟨_,t,zC,bS _ h2,h3'⟩
 ·exact⟨us,t,(zL e).trans h1,h2,h3'⟩
def NN(aC:List Rw)(H:Hp)(qs:List Addr)(k:Nat):Prop:=∀(m:Nat)(a b:Int),m<k->aC[m]?=some (.bo a b)->∀(x:Nat)(q:Addr),((x:Int)=a\/(x:Int)=b)->qs[x]?=some q->WY H q m a b
theorem NN.same{k:Nat}(e:bG H H')(h:NN aC H qs k):NN aC H' qs k:=λm a b hm hr x q hx hq=>(h m a b hm hr x q hx hq).same e
theorem NN.upd{k:Nat}(h:NN aC H qs k){q1:Addr}{us1:List V}(hq1:H q1=some (.lst us1)):NN aC (upd H q1 (.lst (us1++[v]))) qs k:=λm a b hm hr x q hx hq=>(h m a b hm hr x q hx hq).upd hq1
theorem NN.succ{k:Nat}(h:NN aC H qs k)(hk:∀(a b:Int),aC[k]?=some (.bo a b)->∀(x:Nat)(q:Addr),((x:Int)=a\/(x:Int)=b)->qs[x]?=some q->WY H q k a b):NN aC H qs (k+1):=λm a b hm hr x q hx hq=>by
 rcases hU (lQ hm)with z |z
 ·exact h m a b z hr x q hx hq
 ·subst z;exact hk a b hr x q hx hq
inductive spBo (K:W.Frag) (vs:List V) (H:Hp) (Q:VK) (E:XK):Prop
 |mk (sa:Addr) (us:List V) (aC:List Rw) (_:vs=[.ref sa]) (_:H sa=some (.lst us)) (_:fP K H aC us) (_:aC.length<=100) (_:uM aC) (_:∀(p:Addr)(qs:List Addr)(n:Nat)(H':Hp),bG H H'->H p=none->(∀q∈qs,H q=none)->H' p=some (.lst (qs.map V.ref))->qs.length=2*aC.length->NE aC H' qs n->NN aC H' qs aC.length->Q (.ref p) H')
def NK(m:Nat)(H0 H:Hp)(kvs:List (List eZ×V))(n:Nat):Prop:=∀kv∈kvs,∃(q:Addr)(ns:List Nat),kv.2=.ref q/\H q=some (.lst (ns.map nV))/\H0 q=none/\ns.length<=n/\∀x∈ns,x<m
theorem NK.same{m:Nat}{H0:Hp}(e:bG H H')(h:NK m H0 H kvs n):NK m H0 H' kvs n:=λkv hkv=>by
 obtain⟨q,ns,h1,h2,h3⟩:=h kv hkv;exact⟨q,ns,h1,e _ _ h2,h3⟩
theorem NK.upd{m:Nat}{H0:Hp}{q:Addr}{ns:List Nat}{r:Nat}(h:NK m H0 H kvs n)(hl:ns.length<=n)(hns:∀x∈ns,x<m)(hr:r<m)(hq:H0 q=none):NK m H0 (upd H q (.lst (ns.map nV++[nV r]))) kvs (n+1):=λkv hkv=>by
 obtain⟨q',ns',h1,h2,h3,h4,h5⟩:=h kv hkv;by_cases e:q'=q
 ·subst e;refine⟨q',ns++[r],h1,by rw[zC,bF];rfl,hq,by simp;lia,λx hx=>?_⟩;rcases bX.mp hx with hx |hx
  ·exact hns x hx
  ·rw[aX.mp hx];exact hr
 ·exact⟨q',ns',h1,(zL e).trans h2,h3,(),h5⟩
theorem sM{κ:Type} [DecidableEq κ] {kvs:List (κ×V)} {k:κ} (h:yW kvs k=some v):∃kv∈kvs,kv.2=v:=by
 unfold yW at h;obtain⟨x,hx,e⟩:=bD.mp h;exact⟨x,List.mem_of_find?_eq_some hx,e⟩
theorem NT{κ:Type} [DecidableEq κ] {kvs t:List (κ×V)} {k:κ} (h:yW kvs k=some v):yW (kvs++t) k=some v:=by
 unfold yW at h⊢;obtain⟨x,hx,e⟩:=bD.mp h;rw[List.find?_append,hx];exact cJ some e
theorem NU{κ:Type} [DecidableEq κ] {kvs:List (κ×V)} {k:κ} (h:yW kvs k=none):yW (kvs++[(k,v)]) k=some v:=by
 unfold yW at h⊢;rw[pL]at h;rw[List.find?_append,h];simp
theorem EA:∀{a b:List Nat},a.map nV=b.map nV->a=b
 |[],[],_=>rfl
 |[],_::_,h=>by cases h
 |_::_,[],h=>by cases h
 |x::a,y::b,h=>by
  injection h with h1 h2
  have h3:=V.int.inj h1;have h4:x=y:=by lia
  rw[h4,EA h2]
def KH(H:Hp)(kvs:List (List eZ×V))(pr:Pr)(r:Nat):Prop:=∃(q:Addr)(ns:List Nat),yW kvs (xM pr.1 pr.2)=some (.ref q)/\H q=some (.lst (ns.map nV))/\r∈ns
theorem KH.same{pr:Pr}{r:Nat}(e:bG H H')(h:KH H kvs pr r):KH H' kvs pr r:=by
 obtain⟨q,ns,h1,h2,h3⟩:=h;exact⟨q,ns,h1,e _ _ h2,h3⟩
theorem KH.app{t:List (List eZ×V)}{pr:Pr}{r:Nat}(h:KH H kvs pr r):KH H (kvs++t) pr r:=by
 obtain⟨q,ns,h1,h2,h3⟩:=h;exact⟨q,ns,NT h1,h2,h3⟩
theorem KH.upd{pr:Pr}{r:Nat}(h:KH H kvs pr r){q1:Addr}{ns1:List Nat}{x:Nat}(hq:H q1=some (.lst (ns1.map nV))):KH (upd H q1 (.lst (ns1.map nV++[nV x]))) kvs pr r:=by
 obtain⟨q,ns,h1,h2,h3⟩:=h;by_cases e:q=q1
 ·subst e;rw[hq]at h2;have e2:ns1=ns:=by
   have :=HO.lst.inj (bR h2);exact EA this
  subst e2;exact⟨q,ns1++[x],h1,by rw[zC,bF];rfl,bS _ h3⟩
 ·exact⟨q,ns,h1,(zL e).trans h2,h3⟩
theorem KH.dic{pr:Pr}{r:Nat}(h:KH H kvs pr r){kvs0:List (List eZ×V)}{o:HO}(hp:H p=some (.dT kvs0)):KH (L2.upd H p o) kvs pr r:=by
 obtain⟨q,ns,h1,h2,h3⟩:=h;exact⟨q,ns,h1,(zL (λz=>by rw[z,hp]at h2;cases h2)).trans h2,h3⟩
def WaC(aT:List xJ)(H:Hp)(kvs:List (List eZ×V))(k m:Nat):Prop:=∀(r:Nat)(q:xJ)(x:Nat)(pr:Pr),aT[r]?=some q->q.1[x]?=some pr->(r<k\/r=k/\x<m)->KH H kvs pr r
inductive spWa (vs:List V) (H:Hp) (Q:VK) (E:XK):Prop
 |mk (ra:Addr) (us:List V) (aT:List xJ) (_:vs=[.ref ra]) (_:H ra=some (.lst us)) (_:bA H (aT.map IX) us) (_:aT.length<=100) (_:(∀r∈aT,r.1.length<=100)) (_:∀(p:Addr)(kvs:List (List eZ×V))(n:Nat)(H':Hp),bG H H'->H p=none->H' p=some (.dT kvs)->NK aT.length H H' kvs n->WaC aT H' kvs aT.length 0->Q (.ref p) H')
theorem SJ(bi:Bi mg)(be:mg "enumerate"=none)(F:gL K "boths_by_part" "boths_by_part" s_g f fd):dG P w K mg base gJ 1 f fd ["sheet"] (spBo K):=by
 refine F.okz bj λfL A outer s H vs Q E hr h=>?_
 obtain⟨sa,us,aC,rfl,hsa,hrw,gY,hin,q⟩:=h;have hul:=hrw.len;refine⟨_,(zD (GY (i:=1) ["n"] [] [] bj.nd rfl (xY rfl bi.range (zA (zU xP zF (zS yA rfl bi.len yJ (zA (pv 0) zB))) zB)) (λ_ _ _ _ nd=>yF 0 nd) (λ_ _ _ _=>yU) (λ_ _ _ _=>(xF zB))) (zD (yP bM rfl (uX rfl be (zA (pv 0) zB)) (jF rfl (zV (yF 2 bj.nd) (zV (yF 3 bj.nd) yY))) (zG (zZ (zQ yE (zJ zN (pv 3) zF) zT (zO _)) (zD (yD (uD cR dR dQ jK (zJ yB (pv 1) (zJ zN (pv 3) zF)) (zA (zP (zA (zU xP zF (pv 2)) (zA (zJ zN (pv 3) zF) (zA (zJ zN (pv 3) zF) zB)))) zB))) (zG (yD (uD cR dR dQ jK (zJ yB (pv 1) (zJ zN (pv 3) zF)) (zA (zP (zA (zU xP zF (pv 2)) (zA (zJ zN (pv 3) zF) (zA (zJ zN (pv 3) zF) zB)))) zB))))) zR))) (zG (zM (pv 1))))),?_⟩;refine zH λN hN=>?_
 dsimp![];refine⟨us.length,.inl ⟨_,dF.of hsa,rfl⟩,.inl ⟨(),()⟩,(),(),?_⟩;refine XV (lo:=0) (n:=(2*(us.length:Int)).toNat) (λi ys σ H'=>bG H H'/\(∃qs:List Addr,ys=qs.map V.ref/\qs.length=i/\(∀q∈qs,H q=none)/\NE aC H' qs 0)/\∃o,σ=[o]) ⟨bG.refl _,⟨[],rfl,rfl,(λq z=>by cases z),λq z=>by cases z⟩,_,rfl⟩ (small ()) (λi ys σ H' e=>?_) (λi ys σ H' C hi e hC=>?_) (λys σ H' e p hp=>hN _ _ ?_)
 ·obtain⟨_,⟨qs,rfl,hl,_⟩,_⟩:=e;rw[aE];lia
 ·obtain⟨es,⟨qs,rfl,hl,hfr,hbo⟩,o,rfl⟩:=e;dsimp![];refine⟨small (by simp),λq0 hq0=>hC _ _ _ ⟨es.trans (zE hq0 _),⟨qs++[q0],by rw[bF];rfl,by simp[hl],λq hq=>?_,λq hq=>?_⟩,_,rfl⟩⟩
  ·rcases bX.mp hq with hq |hq
   ·exact hfr q hq
   ·rw[aX.mp hq];exact es.free hq0
  ·rcases bX.mp hq with hq |hq
   ·exact NE.same (zE hq0 _) hbo q hq
   ·rw[aX.mp hq];exact⟨[],zC,aJ _,λv z=>by cases z⟩
 obtain⟨es,⟨qs,rfl,hl,hfr,hbo⟩,o,rfl⟩:=e;clear hN;have s1:=zE hp (.lst (qs.map V.ref));have k1:upd H' p (.lst (qs.map V.ref)) p=some (.lst (qs.map V.ref)):=zC;have hp0:=es.free hp;have hpq:p∉qs:=λz=>by
  obtain⟨_,h1,_⟩:=hbo p z;rw[hp]at h1;cases h1
 replace hbo:=hbo.same s1;replace es:=es.trans s1;generalize upd H' p (.lst (qs.map V.ref))=H1 at k1 hbo es⊢;have hql:qs.length=2*aC.length:=by lia
 clear s1 hp hl;refine yK (λσ H'=>∃(o1 o2:Option V)(n:Nat),bG H H'/\H' p=some (.lst (qs.map V.ref))/\NE aC H' qs n/\NN aC H' qs aC.length/\σ=[some (V.ref sa),some (V.ref p),o1,o2]) (λN hN=>?_) (λσ H' h=>?_)
 ·dsimp![ZO];refine⟨_,es _ _ hsa,?_⟩;refine YN (xs:=us) (λk σ H'=>∃(o1 o2:Option V),bG H H'/\H' p=some (.lst (qs.map V.ref))/\NE aC H' qs (2*k)/\NN aC H' qs k/\σ=[some (V.ref sa),some (V.ref p),o1,o2]) ⟨_,_,es,k1,hbo,(λm a b hm=>()),rfl⟩ (λk σ H' h=>?_) (λk x σ H' pe hx h hpe M hM=>?_) (λσ H' h=>?_)
  ·obtain⟨_,_,h,_⟩:=h;exact h _ _ hsa
  ·obtain⟨o1,o2,s2,k2,hb2,hc2,rfl⟩:=h;have hk:k<aC.length:=by rw[←hul];exact(aD.mp hx).1
   obtain⟨r,mC,hr2⟩:=hrw.get hx;obtain⟨xa,x',vs,rfl,mJ,hcase⟩:=MZ.out hr2;have s3:=zE hpe (.tup [.int k,.ref xa]);have kp:upd H' pe (.tup [.int k,.ref xa]) pe=some (.tup [.int k,.ref xa]):=zC;generalize upd H' pe (.tup [.int k,.ref xa])=H2 at s3 kp⊢;replace s2:=s2.trans s3;replace k2:=s3 _ _ k2;replace hb2:=hb2.same s3;replace hc2:=hc2.same s3;replace mJ:=mJ.same s2;clear s3 hpe;have more:∀{a b:Nat},a<=b->NE aC H2 qs a->NE aC H2 qs b:=λhab h q hq=>by
    obtain⟨us,h1,h2,h3⟩:=h q hq;exact⟨us,h1,(),h3⟩
   dsimp![uQ,jU,uY];refine⟨[.int k,.ref xa],cW.of kp,rfl,.int k,[.ref xa],rfl,.ref xa,[],rfl,rfl,xa,rfl,_,mJ.sq,_,iG,rfl,?_⟩;cases r with
   |no=>
    obtain⟨rfl,rfl⟩:=hcase;rw[aF (by intro z;exact absurd (V.str.inj z) ())];exact hM _ _ ⟨_,_,s2,k2,more () hb2,hc2.succ (λa b z=>by rw[mC]at z;cases z),rfl⟩
   |nm y=>
    obtain⟨rfl,rfl⟩:=hcase;rw[aF (by intro z;exact absurd (V.str.inj z) ())];exact hM _ _ ⟨_,_,s2,k2,more () hb2,hc2.succ (λa b z=>by rw[mC]at z;cases z),rfl⟩
   |bo i j=>
    obtain⟨rfl,rfl⟩:=hcase;rw[aH rfl];obtain⟨⟨b1,b2⟩,b3,b4⟩:=hin k i j mC;have hgx:∀(x:Int),0<=x->x<2*(aC.length:Int)->∃q,q∈qs/\oO (qs.map V.ref) x=some (V.ref q)/\qs[x.toNat]?=some q:=λx hx0 hx1=>by
     obtain⟨m,rfl⟩:=fM hx0;have hm:m<qs.length:=by lia
     refine⟨qs[m],cH hm,?_⟩;exact⟨yO (by rw[aQ,aA hm];rfl),by rw[bV];exact aA hm⟩
    obtain⟨q1,hq1,ha1,hx1⟩:=hgx i b1 ();obtain⟨q2,hq2,ha2,hx2⟩:=hgx j b3 ();obtain⟨us1,hu1,hl1,ht1⟩:=hb2 q1 hq1;refine⟨_,rfl,_,mJ.sq,_,nK,_,rfl,_,dF.of k2,_,ha1,.inl ⟨rfl,_,dF.of hu1⟩,_,rfl,.inl ⟨(),()⟩,_,rfl,_,mJ.sq,_,nK,_,rfl,_,mJ.sq,_,rfl,small (),λt1 ht=>?_⟩;have s3:=zE ht (.tup [.int (2*(k:Int)),.int i,.int j]);have tr:VY aC (upd H2 t1 (.tup [.int (2*(k:Int)),.int i,.int j])) (.ref t1):=⟨t1,k,i,j,rfl,zC,mC⟩
    have kt1:upd H2 t1 (.tup [.int (2*(k:Int)),.int i,.int j]) t1=some (.tup [.int (2*(k:Int)),.int i,.int j]):=zC;generalize upd H2 t1 (.tup [.int (2*(k:Int)),.int i,.int j])=H3 at s3 tr kt1⊢;replace k2:=s3 _ _ k2;replace mJ:=mJ.same s3;replace hu1:=s3 _ _ hu1;replace ht1:∀v∈us1,VY aC H3 v:=λv hv=>(ht1 v hv).tups s3.tups
    replace hb2:=(hb2.same s3).put hu1 hl1 ht1 tr;replace hc2:=(hc2.same s3).upd (v:=.ref t1) hu1;have in1:WY (upd H3 q1 (.lst (us1++[V.ref t1]))) q1 k i j:=⟨_,t1,zC,by simp,(dC.refl H3).upd_lst hu1 _ _ kt1⟩
    refine⟨q1,rfl,us1,hu1,qL (),?_⟩;replace s2:=(s2.trans s3).upd (o:=.lst (us1++[V.ref t1])) (hfr q1 hq1);have n2:p≠q1:=λz=>hpq (z▸hq1)
    replace mJ:=mJ.tups ((dC.refl H3).upd_lst (o:=.lst (us1++[V.ref t1])) hu1);replace k2:upd H3 q1 (.lst (us1++[V.ref t1])) p=_:=(zL n2).trans k2;clear kt1 hu1 hl1 ht1 tr s3 ht more;generalize upd H3 q1 (.lst (us1++[V.ref t1]))=H4 at s2 mJ k2 hb2 hc2 in1⊢;obtain⟨us2,hu2,hl2,ht2⟩:=hb2 q2 hq2;refine⟨_,rfl,_,mJ.sq,_,rfl,_,rfl,_,dF.of k2,_,ha2,.inl ⟨rfl,_,dF.of hu2⟩,_,rfl,.inl ⟨(),()⟩,_,rfl,_,mJ.sq,_,nK,_,rfl,_,mJ.sq,_,rfl,small (),λt1 ht=>?_⟩;have s3:=zE ht (.tup [.int (2*(k:Int)),.int i,.int j]);have tr:VY aC (upd H4 t1 (.tup [.int (2*(k:Int)),.int i,.int j])) (.ref t1):=⟨t1,k,i,j,rfl,zC,mC⟩
    have kt1:upd H4 t1 (.tup [.int (2*(k:Int)),.int i,.int j]) t1=some (.tup [.int (2*(k:Int)),.int i,.int j]):=zC;generalize upd H4 t1 (.tup [.int (2*(k:Int)),.int i,.int j])=H5 at s3 tr kt1⊢;replace k2:=s3 _ _ k2;replace hu2:=s3 _ _ hu2;replace ht2:∀v∈us2,VY aC H5 v:=λv hv=>(ht2 v hv).tups s3.tups
    replace hb2:=(hb2.same s3).put hu2 hl2 ht2 tr;replace hc2:=(hc2.same s3).upd (v:=.ref t1) hu2;replace in1:=(in1.same s3).upd (v:=.ref t1) hu2;have in2:WY (upd H5 q2 (.lst (us2++[V.ref t1]))) q2 k i j:=⟨_,t1,zC,by simp,(dC.refl H5).upd_lst hu2 _ _ kt1⟩
    have n2:p≠q2:=λz=>hpq (z▸hq2)
    refine⟨q2,rfl,us2,hu2,qL (),hM _ _ ⟨_,_,(s2.trans s3).upd (hfr q2 hq2),(zL n2).trans k2,hb2,hc2.succ (λa b z x q' hx hq'=>?_),rfl⟩⟩;rw[mC]at z;cases z;rcases hx with hx |hx
    ·rw[←hx,bV,hq']at hx1;cases hx1;exact in1
    ·rw[←hx,bV,hq']at hx2;cases hx2;exact in2
  ·obtain⟨o1,o2,s2,k2,hb2,hc2,rfl⟩:=h;rw[hul]at hc2;exact hN _ _ ⟨_,_,_,s2,k2,hb2,hc2,rfl⟩
 obtain⟨o1,o2,n,s2,k2,hb2,hc2,rfl⟩:=h;dsimp![];exact q p qs n _ s2 hp0 hfr k2 hql hb2 hc2
theorem wF(bi:Bi mg)(be:mg "enumerate"=none)(F:gL K "rules_by_premise" "rules_by_premise" s_b f fd):dG P w K mg base gJ 1 f fd ["rules"] spWa:=by
 refine F.okz OV λfL A outer s H vs Q E hr h=>?_
 obtain⟨ra,us,aT,rfl,hra,hru,gY,hpr,q⟩:=h;have hul:=xG hru;refine⟨_,(zD (yH 1 OV.nd XL) (zD (yP bM rfl (uX rfl be (zA (pv 0) zB)) (jF rfl (zV (yF 2 OV.nd) (zV (yF 3 OV.nd) yY))) (zG (yP bM rfl (yV (zJ zN (pv 3) zF)) (yF 4 OV.nd) (zG (yD (uD cR dR dQ jK (ck (jL hr) (pv 1) (pv 4) (xF zB) ⟨rfl,rfl,rfl,rfl⟩) (zA (pv 2) zB))))))) (zG (zM (pv 1))))),?_⟩;refine zH λN hN=>?_
 dsimp![CS];refine λp hp=>hN _ _ ?_
 clear hN;have s1:=zE hp (.dT []);have k1:upd H p (.dT []) p=some (.dT []):=zC;generalize upd H p (.dT [])=H1 at s1 k1⊢;have sz:∀{n:Nat},n<=40000->n<sizeLine:=λh=>fY (m:=100000) () ()
 refine yK (λσ H'=>∃(o1 o2 o3:Option V)(kvs:List (List eZ×V))(n:Nat),bG H H'/\H' p=some (.dT kvs)/\NK aT.length H H' kvs n/\WaC aT H' kvs aT.length 0/\σ=[some (V.ref ra),some (V.ref p),o1,o2,o3]) (λN hN=>?_) (λσ H' h=>?_)
 ·dsimp![ZO];refine⟨_,s1 _ _ hra,?_⟩;refine YN (xs:=us) (λk σ H'=>∃(o1 o2 o3:Option V)(kvs:List (List eZ×V)),bG H H'/\H' p=some (.dT kvs)/\kvs.length<=100*k/\NK aT.length H H' kvs (100*k)/\WaC aT H' kvs k 0/\σ=[some (V.ref ra),some (V.ref p),o1,o2,o3]) ⟨_,_,_,_,s1,k1,aJ _,(λkv z=>by cases z),(λr q x pr _ _ hz=>()),rfl⟩ (λk σ H' h=>?_) (λk x σ H' pe hx h hpe M hM=>?_) (λσ H' h=>?_)
  ·obtain⟨_,_,_,_,h,_⟩:=h;exact h _ _ hra
  ·obtain⟨o1,o2,o3,kvs,s2,k2,hkl,hw2,hc2,rfl⟩:=h;have hk:k<aT.length:=by rw[←hul];exact(aD.mp hx).1
   obtain⟨r,mC,hr2⟩:=uE hru hx;have hrl:=hpr r (aZ mC);obtain⟨xa,xl,xb,ps,rfl,mJ,hxl,hps,hxb⟩:=ln hr2;have hpl:=xG hps;have s3:=zE hpe (.tup [.int k,.ref xa]);have kp:upd H' pe (.tup [.int k,.ref xa]) pe=some (.tup [.int k,.ref xa]):=zC;generalize upd H' pe (.tup [.int k,.ref xa])=H2 at s3 kp⊢;replace s2:=s2.trans s3;replace k2:=s3 _ _ k2;replace hw2:=hw2.same s3;replace hc2:WaC aT H2 kvs k 0:=λr q x pr h1 h2 h3=>(hc2 r q x pr h1 h2 h3).same s3
   replace mJ:=s2 _ _ mJ;clear s3 hpe;dsimp![uQ,jU,uY];refine⟨[.int k,.ref xa],cW.of kp,rfl,.int k,[.ref xa],rfl,.ref xa,[],rfl,rfl,?_⟩;have hxl2:=s2 _ _ hxl;refine⟨_,rfl,_,cW.of mJ,_,iG,_,rfl,⟨_,dF.of hxl2⟩,?_⟩;refine jE (xs:=ps) (λm σ H'=>∃(o:Option V)(kvs:List (List eZ×V)),bG H H'/\H' p=some (.dT kvs)/\kvs.length<=100*k+m/\NK aT.length H H' kvs (100*k+m)/\WaC aT H' kvs k m/\σ=[some (V.ref ra),some (V.ref p),some (V.int k),some (V.ref xa),o]) ⟨_,_,s2,k2,hkl,hw2,hc2,rfl⟩ (λm σ H' _ h=>?_) (λm x σ H' hm h M2 hM2=>?_) (λσ H' h=>?_)
   ·obtain⟨_,_,h,_⟩:=h;exact dF.of (h _ _ hxl)
   ·obtain⟨o,kvs,s4,k4,hl4,hw4,hc4,rfl⟩:=h;have hmp:m<ps.length:=(aD.mp hm).1;obtain⟨pr,hpm,hpx⟩:=uE hps hm;obtain⟨xp,_,rfl,hxp,_,_,rfl,hv1,_,_,rfl,hv2,hv3⟩:=hpx;cases hv1;cases hv2;cases hv3;replace hxp:=s4 _ _ hxp;dsimp![gh,tBM];refine⟨.inr ⟨_,.inl k4⟩,cO _,λp1 lV=>?_⟩;have n1:p≠p1:=λz=>by rw[z,lV]at k4;cases k4
    have n2:xp≠p1:=λz=>by rw[z,lV]at hxp;cases hxp
    have s5:=zE lV (.lst []);refine⟨kvs,s5 _ _ k4,[.inl pr.1,.inl pr.2],s5 _ _ hxp,sz (),λv hv=>?_,λhv=>?_⟩
    ·obtain⟨kv,hkv,rfl⟩:=sM hv;obtain⟨q',ns',h1,h2,h3,h4,h5⟩:=hw4 kv hkv;have n3:p≠q':=λz=>by rw[z,h2]at k4;cases k4
     rw[h1];refine⟨.inl ⟨rfl,_,dF.of (s5 _ _ h2)⟩,q',rfl,_,s5 _ _ h2,sz (by rw[aE];lia),hM2 _ _ ⟨_,kvs,(s4.trans s5).upd h3,(zL n3).trans (s5 _ _ k4),(),NK.upd (hw4.same s5) h4 h5 hk h3,?_,rfl⟩⟩;intro r' q0 x pr' g1 g2 g3;by_cases g4:r'<k\/r'=k/\x<m
     ·exact((hc4 r' q0 x pr' g1 g2 g4).same s5).upd (s5 _ _ h2)
     ·obtain⟨rfl,rfl⟩:r'=k/\x=m:=by lia
      rw[mC]at g1;cases g1;rw[hpm]at g2;cases g2;exact⟨q',ns'++[r'],by rw[←h1];exact hv,by rw[zC,bF];rfl,by simp⟩
    ·have e1:upd (upd H' p1 (.lst [])) p (.dT (jZ kvs [.inl pr.1,.inl pr.2] (V.ref p1))) p1=some (.lst []):=(zL n1.symm).trans zC;refine⟨.inl ⟨rfl,_,dF.of e1⟩,[],e1,sz (by simp),hM2 _ _ ⟨_,_,((s4.trans s5).upd hp).upd (s4.free lV),(zL n1).trans zC,?_,?_,?_,rfl⟩⟩
     ·rw[uW hv,aP,bY];lia
     ·refine NK.upd (ns:=[]) (n:=100*k+m) (λkv hkv=>?_) (cO _) (λx z=>by cases z) hk (s4.free lV);rw[uW hv]at hkv;rcases bX.mp hkv with hkv |hkv
      ·obtain⟨q',ns',h1,h2,h3,h4,h5⟩:=hw4 kv hkv;have n3:q'≠p:=λz=>by rw[←z,h2]at k4;cases k4
       exact⟨q',ns',h1,(zL n3).trans (s5 _ _ h2),h3,h4,h5⟩
      ·rw[aX.mp hkv];exact⟨p1,[],rfl,e1,s4.free lV,cO _,λx z=>by cases z⟩
     ·intro r' q0 x pr' g1 g2 g3;by_cases g4:r'<k\/r'=k/\x<m
      ·have w:=(((hc4 r' q0 x pr' g1 g2 g4).same s5).dic (s5 _ _ k4) (o:=.dT (jZ kvs [.inl pr.1,.inl pr.2] (V.ref p1)))).upd (ns1:=[]) (x:=k) e1;rw[uW hv]at w⊢;exact w.app
      ·obtain⟨rfl,rfl⟩:r'=k/\x=m:=by lia
       rw[mC]at g1;cases g1;rw[hpm]at g2;cases g2;exact⟨p1,[r'],by rw[uW hv];exact NU hv,by rw[zC];rfl,by simp⟩
   ·obtain⟨o,kvs,s4,k4,hl4,hw4,hc4,rfl⟩:=h;refine hM _ _ ⟨_,_,_,_,s4,k4,(),λkv hkv=>?_,λr' q0 x pr' g1 g2 g3=>hc4 r' q0 x pr' g1 g2 ?_,rfl⟩
    rotate_left
    ·rcases hU (show r'<=k by lia)with z |z
     ·exact .inl z
     ·refine .inr ⟨z,?_⟩;rw[z,mC]at g1;cases g1;rw[hpl];exact(aD.mp g2).1
    obtain⟨q',ns',h1,h2,h3,h4,h5⟩:=hw4 kv hkv;exact⟨q',ns',h1,h2,h3,(),h5⟩
  ·obtain⟨o1,o2,o3,kvs,s2,k2,_,hw2,hc2,rfl⟩:=h;rw[hul]at hc2;exact hN _ _ ⟨_,_,_,_,_,s2,k2,hw2,hc2,rfl⟩
 obtain⟨o1,o2,o3,kvs,n,s2,k2,hw2,hc2,rfl⟩:=h;dsimp![];exact q p kvs n _ s2 hp k2 hw2 hc2
abbrev s_u:Stmt:=top 34
theorem sc_u:bW ["growth","i","j"] ["growth","i","j"] (zK s_u):=by rfl'
abbrev s_h:Stmt:=top 35
theorem bh:bW ["growth","i","j","line","m","h"] ["growth","i","j"] (zK s_h):=by rfl'
abbrev s_m:Stmt:=top 36
theorem bd:bW ["growth","i","boths","n","a","b"] ["growth","i","boths"] (zK s_m):=by rfl'
abbrev s_o:Stmt:=top 37
theorem sc_o:bW ["growth","i","j","n"] ["growth","i","j"] (zK s_o):=by rfl'
theorem uV{ls:List Ln}{p:Nat}(h:ls[p]?=some l):yT ls ls.length (.n (p:Int))=some (l.i,l.j):=by
 have hp:=(aD.mp h).1;show(if 0<=(p:Int)/\(p:Int)<(ls.length:Int)then(ls[(p:Int).toNat]?).map λl=>(l.i,l.j)else none)=_;rw[aH ⟨(),()⟩,bV,h];rfl
theorem QZ{ls:List Ln}{x:Str}{prs:List Pr}(hi:i<2*aC.length)(hj:j<2*aC.length)(hx:x≠"rule")(hn:wI x=some (as.length:Int))(hs:as.map (yT ls ls.length)=prs.map some)(h:yS aC i j x prs=true):xI aC aT ls ls.length ⟨i,j,x,as⟩=true:=by
 have a1:(as.all λa=>(yT ls ls.length a).isSome)=true:=by
  have :(as.map (yT ls ls.length)).all (λo=>o.isSome)=true:=by rw[hs];simp
  rw[lS]at this;exact this
 have a2:as.filterMap (yT ls ls.length)=prs:=by
  have :(as.map (yT ls ls.length)).filterMap id=prs:=by rw[hs];simp[fZ]
  rw[fZ]at this;exact this
 unfold xI;rw[aF (by
  intro z;rcases z with z |z
  ·exact z ⟨by show(0:Int)<=(i:Int);lia,by show(i:Int)<_;lia⟩
  ·exact z ⟨by show(0:Int)<=(j:Int);lia,by show(j:Int)<_;lia⟩),aF hx,aH ⟨hn,a1⟩,a2]
 exact h
theorem NB.rng{ls:List Ln}(h:NB aC aT ls)(hh:zX ls i j=true):i<2*aC.length/\j<2*aC.length:=by
 obtain⟨p,l,hl,h1,h2⟩:=fO.mp hh;have :=wZ (h.snd p l hl);lia
def nJ(n:Nat):Nat:=n+1-2*(n % 2)
theorem YW(n:Nat):pX (n:Int)=((nJ n:Nat):Int):=by
 unfold pX nJ;lia
theorem ZZ(n:Nat):nJ (nJ n)=n:=by
 unfold nJ;lia
theorem CN{m:Nat}(h:n<2*m):nJ n<2*m:=by
 unfold nJ;lia
theorem zY{ls t:List Ln}{i j:Int}(h:zX ls i j=true):zX (ls++t) i j=true:=by
 rw[vS,h,Bool.true_or]
theorem ow_n(h:as.length<=3)(hn:∀ps,Wt.ps ps∈as->False):OW as:=⟨h,λps z=>(hn ps z).elim⟩
theorem ax{ls:List Ln}{p:Nat}(hi:i<2*aC.length)(hj:j<2*aC.length)(hl:ls[p]?=some l)(h1:l.i=i)(h2:l.j=j):xI aC aT ls ls.length ⟨(nJ j:Nat),(nJ i:Nat),"turn",[.n p]⟩=true:=by
 refine QZ (prs:=[((i:Int),(j:Int))]) (CN hj) (CN hi) () rfl ?_ ?_
 ·show [yT ls ls.length (.n (p:Int))]=_;rw[uV hl,h1,h2];rfl
 ·unfold yS;rw[aF (),aF (),aF (),aF (),aH rfl,YW,YW,ZZ,ZZ];exact eE _
theorem OJ{ls:List Ln}{p:Nat}(hi:i<2*aC.length)(hn:n<2*aC.length)(hj:(j:Int)=pX i)(hl:ls[p]?=some l)(h1:l.i=i)(h2:l.j=j):xI aC aT ls ls.length ⟨i,n,"clash",[.n p]⟩=true:=by
 refine QZ (prs:=[((i:Int),(j:Int))]) hi hn () rfl ?_ ?_
 ·show [yT ls ls.length (.n (p:Int))]=_;rw[uV hl,h1,h2];rfl
 ·unfold yS;rw[aF (),aF (),aF (),aF (),aF (),aF (),hj];exact eE _
theorem sU{ls:List Ln}{m p p':Nat}{l':Ln}(hi:i<2*aC.length)(hm:m<2*aC.length)(hl:ls[p]?=some l)(h1:l.i=i)(h2:l.j=j)(eC:ls[p']?=some l')(h1':l'.i=j)(h2':l'.j=m):xI aC aT ls ls.length ⟨i,m,"chain",[.n p,.n p']⟩=true:=by
 refine QZ (prs:=[((i:Int),(j:Int)),((j:Int),(m:Int))]) hi hm () rfl ?_ ?_
 ·show [yT ls ls.length (.n (p:Int)),yT ls ls.length (.n (p':Int))]=_;rw[uV hl,h1,h2,uV eC,h1',h2'];rfl
 ·unfold yS;rw[aF (),aF (),aF (),aF (),aF (),aH rfl];simp
theorem az{ls:List Ln}{p p':Nat}{a b:Int}{l':Ln}(hi:i<2*aC.length)(hn:n<2*aC.length)(hpt:vB aC (n:Int)=[a,b])(hl:ls[p]?=some l)(h1:l.i=i)(h2:l.j=a)(eC:ls[p']?=some l')(h1':l'.i=i)(h2':l'.j=b):xI aC aT ls ls.length ⟨i,n,"both",[.n p,.n p']⟩=true:=by
 refine QZ (prs:=[((i:Int),a),((i:Int),b)]) hi hn () rfl ?_ ?_
 ·show [yT ls ls.length (.n (p:Int)),yT ls ls.length (.n (p':Int))]=_;rw[uV hl,h1,h2,uV eC,h1',h2'];rfl
 ·unfold yS;rw[aF (),aF (),aF (),aH rfl,hpt];exact eE _
theorem RT{p:Nat}:OW [.n p]:=ow_n (by simp) (λps z=>by simp at z)
theorem DG{p q:Nat}:OW [.n p,.n q]:=ow_n (by simp) (λps z=>by simp at z)
theorem FV{x:Str}:dD (upd H p (.tup [.str x,.int n])) (ZE x [.n n]) (.ref p):=⟨p,_,rfl,zC,_,_,rfl,rfl,_,_,rfl,rfl,rfl⟩
theorem QT{x:Str}{m:Nat}:dD (upd H p (.tup [.str x,.int n,.int m])) (ZE x [.n n,.n m]) (.ref p):=⟨p,_,rfl,zC,_,_,rfl,rfl,_,_,rfl,rfl,_,_,rfl,rfl,rfl⟩
theorem sR:∀(n a b:Nat),a<=n->∃d,a=(a&&&b)+d/\∀x,d.testBit x=(a.testBit x&&!b.testBit x)
 |0,a,b,h=>by
  have e:a=0:=by lia
  subst e;exact⟨0,by simp,λx=>by simp⟩
 |n+1,a,b,h=>by
  obtain⟨d,h1,h2⟩:=sR n (a/2) (b/2) ();have e1:(a&&&b)/2=a/2&&&b/2:=mP λi=>by
   rw[gQ,mY,mY,gQ,gQ]
  have e2:decide ((a&&&b) % 2=1)=(decide (a % 2=1)&&decide (b % 2=1)):=by
   rw[←iO,←iO,←iO,mY]
  rw[←e1]at h1;refine⟨2*d+(if a % 2=1/\¬b % 2=1 then 1 else 0),?_,λx=>?_⟩
  ·have e3:(a&&&b) % 2=1↔(a % 2=1/\b % 2=1):=by
    rw[cK,cE,cA,cE,cE]at e2;exact e2
   clear e1 e2 h2;generalize a&&&b=c at h1 e3⊢;split<;>lia
  ·cases x with
   |zero=>
    rw[iO,iO,iO];by_cases ha:a % 2=1<;>by_cases hb:b % 2=1<;>simp[ha,hb]<;>lia
   |succ x=>
    have ed:(2*d+(if a % 2=1/\¬b % 2=1 then 1 else 0))/2=d:=by split<;>lia
    rw[←gQ,ed,h2,gQ,gQ]
theorem QE{b:Nat}(h:∀x,a.testBit x=true->x<300):∃(m:Nat)(xs:List Nat),Builtin.bitAnd (a:Int) (Builtin.bitNot (b:Int))=(m:Int)/\rF m xs/\(∀x∈xs,x<300/\a.testBit x=true)/\∀x,a.testBit x=true->x∈xs\/b.testBit x=true:=by
 obtain⟨d,h1,h2⟩:=sR a a b (aJ _);have hd:∀x,d.testBit x=true->a.testBit x=true:=λx hx=>by
  rw[h2,cA]at hx;exact hx.1
 refine⟨d,(List.range 300).filter λx=>d.testBit x,?_,⟨List.Pairwise.filter _ List.pairwise_lt_range,λi=>?_⟩,λx hx=>?_,λx hx=>?_⟩
 ·unfold Builtin.bitAnd;rw[not_not,dH (show(0:Int)<=(a:Int) by lia),dE (show¬(0:Int)<=Builtin.bitNot (b:Int) by unfold Builtin.bitNot;lia)];show(a:Int)-(((a:Int).toNat&&&(b:Int).toNat:Nat):Int)=_;rw[bV,bV];lia
 ·rw[cK,cE,dP,bZ];exact⟨λz=>⟨h _ (hd _ z),z⟩,λz=>z.2⟩
 ·obtain⟨h3,h4⟩:=dP.mp hx;exact⟨bZ.mp h3,hd _ h4⟩
 ·cases hb:b.testBit x with
  |true=>exact .inr rfl
  |false=>
   left
   rw[dP,bZ];exact⟨h x hx,by rw[h2,hx,hb];rfl⟩
theorem lF.out{C:Addr}{g:nQ}{ls:List Ln}(h:lF C H g aC aT ls)(hp:H p=none):JR g p:=by
 obtain⟨ws,h2,_⟩:=h.lin;obtain⟨as,h5,_⟩:=h.abv;obtain⟨bs,h7,_⟩:=h.blw;have go:∀{a:Addr}{o:HO},H a=some o->p≠a:=λha z=>by rw[z,ha]at hp;cases hp
 exact⟨go h2,go h.plc,go h5,go h7⟩
def iz(_rows:List Rw)(_ls L:List Ln)(i j:Nat):Prop:=zX L ((nJ j:Nat):Int) ((nJ i:Nat):Int)=true
def WC(_rows:List Rw)(ls L:List Ln)(i j:Nat):Prop:=(∀m:Nat,zX ls j m=true->zX L i m=true)/\∀h:Nat,zX ls h i=true->zX L h j=true
def WB(aC:List Rw)(_ls L:List Ln)(i j:Nat):Prop:=(j:Int)=pX i->∀n:Nat,n<2*aC.length->zX L i n=true
def KI(H:Hp)(us:List V)(ls L:List Ln)(i:Nat):Prop:=∀(t:Addr)(m:Nat)(a b:Int),V.ref t∈us->H t=some (.tup [.int (2*(m:Int)),.int a,.int b])->zX ls i a=true->zX ls i b=true->zX L i ((2*m:Nat):Int)=true
inductive rM (R:List Rw->List Ln->List Ln->Nat->Nat->Prop) (C:Addr) (vs:List V) (H:Hp) (Q:VK) (E:XK):Prop
 |mk (g:nQ) (aC:List Rw) (aT:List xJ) (ls:List Ln) (i j:Nat) (_:vs=[.ref g.r,.int i,.int j]) (_:lF C H g aC aT ls) (_:aC.length<=100) (_:zX ls i j=true) (_:∀H',lK C H g aC aT ls (λL=>R aC ls L i j) H'->Q .non H')
inductive spGB (C:Addr) (vs:List V) (H:Hp) (Q:VK) (E:XK):Prop
 |mk (g:nQ) (aC:List Rw) (aT:List xJ) (ls:List Ln) (i:Nat) (q:Addr) (us:List V) (_:vs=[.ref g.r,.int i,.ref q]) (_:lF C H g aC aT ls) (_:aC.length<=100) (_:i<2*aC.length) (_:H q=some (.lst us)) (_:JR g q) (_:(∀v∈us,VY aC H v)) (_:uM aC) (_:∀H',lK C H g aC aT ls (λL=>KI H us ls L i) H'->Q .non H')
theorem dg{C:Addr}(T:NL K C)(h_a:mW P w K mg base 1 C "line_of" ["self","i","j"] (CU C))(h_d:mW P w K mg base 2 C "grow" ["self","i","j","why"] (rB C))(F:gL K "grow_by_turn" "grow_by_turn" s_u f fd):dG P w K mg base gJ 3 f fd ["growth","i","j"] (rM iz C):=by
 refine F.okz sc_u λfL A outer s H vs Q E hr h=>?_
 obtain⟨g,aC,aT,ls,i,j,rfl,hg,gY,hh,q⟩:=h;have cN:=T.cl;have lk:(pS g).lookup ("grow":Str)=none:=uH g () () () ();have lk2:(pS g).lookup ("line_of":Str)=none:=uH g () () () ();obtain⟨dx,eO⟩:=hg.ins;refine⟨_,(zG (yD (yI h_d cN hr.m (pv 0) (zA (zU qS (pv 2) zF) (zA (zU qS (pv 1) zF) (zA (zP (zA zT (zA (yI h_a cN hr.m (pv 0) (zA (pv 1) (zA (pv 2) zB))) zB))) zB)))))),?_⟩;dsimp![jI];obtain⟨hi,hj⟩:=hg.ok.rng hh;refine⟨_,_,eO,lk,_,_,eO,lk2,g,aC,aT,ls,i,j,rfl,hg,hh,λp l H1 s1 hl h1 h2=>⟨small (),λp1 lV=>?_⟩⟩;rw[QS,QS,YW,YW];exact wX (t:=[]) (bG.g s1) (by rw[cU];exact hg.same s1) gY (zE lV _) FV (by rw[cU];exact ax hi hj hl h1 h2) RT (λL e h=>h) λ_ H3 g3=>q _ g3
theorem SI{C:Addr}(T:NL K C)(bi:Bi mg)(h_R:fX P w K mg base 1 "bits_of" ["mask"] OO)(h_a:mW P w K mg base 1 C "line_of" ["self","i","j"] (CU C))(h_d:mW P w K mg base 2 C "grow" ["self","i","j","why"] (rB C))(F:gL K "grow_by_chain" "grow_by_chain" s_h f fd):dG P w K mg base gJ 3 f fd ["growth","i","j"] (rM WC C):=by
 refine F.okz bh λfL A outer s H vs Q E hr h=>?_
 obtain⟨g,aC,aT,ls,i,j,rfl,hg,gY,hh,q⟩:=h;have cN:=T.cl;have lk:(pS g).lookup ("grow":Str)=none:=uH g () () () ();have lk2:(pS g).lookup ("line_of":Str)=none:=uH g () () () ();obtain⟨dx,eO⟩:=hg.ins;refine⟨_,(zD (yH 3 bh.nd (yI h_a cN hr.m (pv 0) (zA (pv 1) (zA (pv 2) zB)))) (zD (yP bM rfl (yV (zI h_R hr.m rfl (zA (zU DL (zJ yB (xU (pv 0) rfl) (pv 2)) (XJ NY (zJ yB (xU (pv 0) rfl) (pv 1)))) zB))) (yF 4 bh.nd) (zG (yD (yI h_d cN hr.m (pv 0) (zA (pv 1) (zA (pv 4) (zA (zP (zA zT (zA (pv 3) (zA (yI h_a cN hr.m (pv 0) (zA (pv 2) (zA (pv 4) zB))) zB)))) zB))))))) (zG (yP bM rfl (yV (zI h_R hr.m rfl (zA (zU DL (zJ yB (xU (pv 0) rfl) (pv 1)) (XJ NY (zJ yB (xU (pv 0) rfl) (pv 2)))) zB))) (yF 5 bh.nd) (zG (yD (yI h_d cN hr.m (pv 0) (zA (pv 5) (zA (pv 2) (zA (zP (zA zT (zA (yI h_a cN hr.m (pv 0) (zA (pv 5) (zA (pv 1) zB))) (zA (pv 3) zB)))) zB)))))))))),?_⟩;refine zH λN hN=>?_
 dsimp![jI];obtain⟨hi,hj⟩:=hg.ok.rng hh;refine⟨_,_,eO,lk2,g,aC,aT,ls,i,j,rfl,hg,hh,λp l H1 s1 hl h1 h2=>hN _ _ ?_⟩;clear hN;refine yK (λσ H'=>∃(o1 o2:Option V),lK C H g aC aT ls (λL=>∀m:Nat,zX ls j m=true->zX L i m=true) H'/\σ=[some (V.ref g.r),some (V.int i),some (V.int j),some (V.int p),o1,o2]) (λN hN=>?_) (λσ H' h=>?_)
 ·dsimp![jI,wE];have hg1:=hg.same s1;obtain⟨dx,eO⟩:=hg1.ins;obtain⟨as,hab,hmk⟩:=hg1.abv;have hil:i<as.length:=by rw[hmk.len];exact hi
  have hjl:j<as.length:=by rw[hmk.len];exact hj
  have hbit:=hmk.bit j as[j] (aA hjl);have hbx:∀x,as[j].testBit x=true->x<2*aC.length:=λx hx=>(hg.ok.rng (i:=j) (by rw[←hbit x];exact hx)).2
  obtain⟨m,xs,em,hbm,hxs,mJ⟩:=QE (b:=as[i]) λx hx=>cC (hbx x hx) ()
  have hat:∀{k:Nat}(hk:k<as.length),oO (as.map nV) (k:Int)=some (V.int ((as[k]:Nat):Int)):=λ{k} hk=>yO (by rw[aQ,aA hk];rfl)
  refine⟨_,_,_,eO,T.cl,T.nA,_,TV g,_,rfl,_,dF.of hab,_,hat hjl,_,_,_,eO,T.cl,T.nA,_,TV g,_,rfl,_,dF.of hab,_,hat hil,_,rfl,_,rfl,?_⟩;rw[em];refine⟨m,xs,rfl,hbm,λx hx=>(hxs x hx).1,λpb H2 s2 hpb0 hpb=>?_⟩;have ho:JR g pb:=hg1.out hpb0;replace s1:=s1.trans s2;have hg2:=hg.same s1;refine⟨_,rfl,⟨_,dF.of hpb⟩,?_⟩;refine jE (xs:=xs.map nV) (λk σ H'=>∃(o1 o2:Option V),lK C H2 g aC aT ls (λL=>∀x∈xs.take k,zX L i x=true) H'/\σ=[some (V.ref g.r),some (V.int i),some (V.int j),some (V.int p),o1,o2]) ⟨_,_,lK.refl hg2 (λx z=>by cases z),rfl⟩ (λk σ H' _ h=>?_) (λk x σ H' hx h M hM=>?_) (λσ H' h=>?_)
  ·obtain⟨_,_,h,_⟩:=h;exact dF.of (h.to.1.out ho hpb)
  ·obtain⟨o1,o2,⟨gs,t,gt,hP⟩,rfl⟩:=h;rw[aQ]at hx;obtain⟨x',hx',rfl⟩:=bD.mp hx;obtain⟨_,hx2⟩:=hxs x' (aZ hx');have hjx:zX ls j x'=true:=by rw[←hbit x'];exact hx2
   have hx3:=hbx x' hx2;obtain⟨dx,eO⟩:=gt.ins;dsimp![jI];refine⟨_,_,eO,lk,_,_,eO,lk2,g,aC,aT,_,j,x',rfl,gt,zY hjx,λp' l' H4 s4 eC h1' h2'=>⟨small (),λp1 lV=>?_⟩⟩;refine wX (gs.trans (bG.g s4)) (gt.same s4) gY (zE lV _) QT (sU hi hx3 (by rw[bN (aD.mp hl).1];exact hl) h1 h2 eC h1' h2') DG (λL e h x hx9=>?_) λ_ H3 g3=>hM _ _ ⟨_,_,g3,rfl⟩
   obtain⟨hkl,hke⟩:=aD.mp hx';rw[aO hkl,hke]at hx9;rcases bX.mp hx9 with hx9 |hx9
   ·exact e.has (hP x hx9)
   ·rw[aX.mp hx9];exact h
  ·obtain⟨o1,o2,h,rfl⟩:=h;obtain⟨h1',t,h2',h3'⟩:=h;rw[aE,aR (aJ _)]at h3';refine hN _ _ ⟨_,_,lK.pre s1 ⟨h1',t,h2',λm hm=>?_⟩,rfl⟩;rw[←hbit m]at hm;rcases mJ m hm with z |z
   ·exact h3' m z
   ·rw[hmk.bit i as[i] (aA hil)]at z;exact zY z
 obtain⟨o1,o2,⟨gs,t,gt,hP1⟩,rfl⟩:=h;have hl0:(ls++t)[p]?=some l:=by rw[bN (aD.mp hl).1];exact hl
 have hh0:zX (ls++t) i j=true:=zY hh;dsimp![jI,wE];obtain⟨dx,eO⟩:=gt.ins;obtain⟨as,hab,hmk⟩:=gt.blw;have hil:i<as.length:=by rw[hmk.len];exact hi
 have hjl:j<as.length:=by rw[hmk.len];exact hj
 have hbit:=hmk.bit i as[i] (aA hil);have hbx:∀x,as[i].testBit x=true->x<2*aC.length:=λx hx=>(gt.ok.rng (j:=i) (by rw[←hbit x];exact hx)).1
 obtain⟨m,xs,em,hbm,hxs,mJ⟩:=QE (b:=as[j]) λx hx=>cC (hbx x hx) ()
 have hat:∀{k:Nat}(hk:k<as.length),oO (as.map nV) (k:Int)=some (V.int ((as[k]:Nat):Int)):=λ{k} hk=>yO (by rw[aQ,aA hk];rfl)
 refine⟨_,_,_,eO,T.cl,T.nB,_,m6 g,_,rfl,_,dF.of hab,_,hat hil,_,_,_,eO,T.cl,T.nB,_,m6 g,_,rfl,_,dF.of hab,_,hat hjl,_,rfl,_,rfl,?_⟩;rw[em];refine⟨m,xs,rfl,hbm,λx hx=>(hxs x hx).1,λpb H2 s2 hpb0 hpb=>?_⟩;have ho:JR g pb:=gt.out hpb0;have hg2:=gt.same s2;replace gs:=gs.trans (bG.g s2);refine⟨_,rfl,⟨_,dF.of hpb⟩,?_⟩;refine jE (xs:=xs.map nV) (λk σ H'=>∃(o1 o2:Option V),lK C H2 g aC aT (ls++t) (λL=>∀x∈xs.take k,zX L x j=true) H'/\σ=[some (V.ref g.r),some (V.int i),some (V.int j),some (V.int p),o1,o2]) ⟨_,_,lK.refl hg2 (λx z=>by cases z),rfl⟩ (λk σ H' _ h=>?_) (λk x σ H' hx h M hM=>?_) (λσ H' h=>?_)
 ·obtain⟨_,_,h,_⟩:=h;exact dF.of (h.to.1.out ho hpb)
 ·obtain⟨o1,o2,⟨gs',t',gt',hP⟩,rfl⟩:=h;rw[aQ]at hx;obtain⟨x',hx',rfl⟩:=bD.mp hx;obtain⟨_,hx2⟩:=hxs x' (aZ hx');have hjx:zX (ls++t) x' i=true:=by rw[←hbit x'];exact hx2
  have hx3:=hbx x' hx2;obtain⟨dx,eO⟩:=gt'.ins;dsimp![jI];refine⟨_,_,eO,lk,_,_,eO,lk2,g,aC,aT,_,x',i,rfl,gt',zY hjx,λp' l' H4 s4 eC h1' h2'=>⟨small (),λp1 lV=>?_⟩⟩;refine wX (gs'.trans (bG.g s4)) (gt'.same s4) gY (zE lV _) QT (sU hx3 hj eC h1' h2' (by rw[bN (aD.mp hl0).1];exact hl0) h1 h2) DG (λL e h x hx9=>?_) λ_ H3 g3=>hM _ _ ⟨_,_,g3,rfl⟩
  obtain⟨hkl,hke⟩:=aD.mp hx';rw[aO hkl,hke]at hx9;rcases bX.mp hx9 with hx9 |hx9
  ·exact e.has (hP x hx9)
  ·rw[aX.mp hx9];exact h
 ·obtain⟨o1,o2,h,rfl⟩:=h;refine q _ (lK.then gs h λL e hL=>⟨λm hm=>e.has (hP1 m hm),λh0 hh0=>?_⟩);rw[aE,aR (aJ _)]at hL;have hm:as[i].testBit h0=true:=by rw[hbit h0];exact zY hh0
  rcases mJ h0 hm with z |z
  ·exact hL h0 z
  ·rw[hmk.bit j as[j] (aA hjl)]at z;exact e.has z
theorem dr{C:Addr}(T:NL K C)(h_a:mW P w K mg base 1 C "line_of" ["self","i","j"] (CU C))(h_D:mW P w K mg base 1 C "has" ["self","i","j"] (OM C))(h_d:mW P w K mg base 2 C "grow" ["self","i","j","why"] (rB C))(F:gL K "grow_by_both" "grow_by_both" s_m f fd):dG P w K mg base gJ 3 f fd ["growth","i","boths"] (spGB C):=by
 refine F.okz bd λfL A outer s H vs Q E hr h=>?_
 obtain⟨g,aC,aT,ls,i,qa,us,rfl,hg,gY,hi,hqa,hout,htr,hin,q⟩:=h;have cN:=T.cl;have lk:(pS g).lookup ("grow":Str)=none:=uH g () () () ();have lk2:(pS g).lookup ("line_of":Str)=none:=uH g () () () ();have lk3:(pS g).lookup ("has":Str)=none:=uH g () () () ();refine⟨_,(zG (yP bM rfl (yV (pv 2)) (jF rfl (zV (yF 3 bd.nd) (zV (yF 4 bd.nd) (zV (yF 5 bd.nd) yY)))) (zG (zZ (PW.pt (XH (xE (yI h_D cN hr.m (pv 0) (zA (pv 1) (zA (pv 4) zB)))) (YG (xE (yI h_D cN hr.m (pv 0) (zA (pv 1) (zA (pv 5) zB))))))) (zG (yD (yI h_d cN hr.m (pv 0) (zA (pv 1) (zA (pv 3) (zA (zP (zA zT (zA (yI h_a cN hr.m (pv 0) (zA (pv 1) (zA (pv 4) zB))) (zA (yI h_a cN hr.m (pv 0) (zA (pv 1) (zA (pv 5) zB))) zB)))) zB)))))) zR)))),?_⟩;dsimp![jI];refine⟨⟨_,dF.of hqa⟩,?_⟩;refine jE (xs:=us) (λk σ H'=>∃(o1 o2 o3:Option V),lK C H g aC aT ls (λL=>KI H (us.take k) ls L i) H'/\σ=[some (V.ref g.r),some (V.int i),some (V.ref qa),o1,o2,o3]) ⟨_,_,_,lK.refl hg (λt m a b z=>by cases z),rfl⟩ (λk σ H' _ h=>?_) (λk x σ H' hx h M hM=>?_) (λσ H' h=>?_)
 ·obtain⟨_,_,_,h,_⟩:=h;exact dF.of (h.to.1.out hout hqa)
 ·obtain⟨o1,o2,o3,hgt,rfl⟩:=h;obtain⟨xa,k',a,b,rfl,mJ,hrk⟩:=htr x (aZ hx);obtain⟨⟨b1,b2⟩,b3,b4⟩:=hin k' a b hrk;have hxa':=hg.tups hgt.to.1 _ _ mJ;dsimp![uQ,jU,uY,jI];obtain⟨gs,t,gt,hP⟩:=hgt;have nxt:∀{L:List Ln},Le (ls++t) L->(zX ls i a=true->zX ls i b=true->zX L i ((2*k':Nat):Int)=true)->KI H (us.take (k+1)) ls L i:=λ{L} e hL t0 m a0 b0 hm ht0 ha0 hb0=>by
   obtain⟨hkl,hke⟩:=aD.mp hx;rw[aO hkl,hke]at hm;rcases bX.mp hm with hm |hm
   ·exact e.has (hP t0 m a0 b0 hm ht0 ha0 hb0)
   ·have e1:=V.ref.inj (aX.mp hm);subst e1;rw[mJ]at ht0;have e2:=HO.tup.inj (bR ht0);injection e2 with e3 e4
    injection e4 with e5 e6
    injection e6 with e7 _
    have e3:=V.int.inj e3;have e5:=V.int.inj e5;have e7:=V.int.inj e7;subst e5 e7;rw[show m=k' by lia];exact hL ha0 hb0
  obtain⟨dx,eO⟩:=gt.ins;refine⟨_,cW.of hxa',rfl,_,_,rfl,_,_,rfl,_,_,rfl,rfl,_,_,eO,lk3,g,aC,aT,_,i,a,rfl,gt,λH1 s1=>⟨_,rfl,?_⟩⟩;have ge1:zX (ls++t) i a=false->lK C H g aC aT ls (λL=>KI H (us.take (k+1)) ls L i) H1:=λz=>⟨gs.trans (bG.g s1),t,gt.same s1,nxt (Le.refl _) (λha _=>by rw[zY ha]at z;cases z)⟩
  by_cases c1:zX (ls++t) i a=true
  ·rw[aH c1];replace gs:=gs.trans (bG.g s1);replace gt:=gt.same s1;obtain⟨dx,eO⟩:=gt.ins;refine⟨_,_,eO,lk3,g,aC,aT,_,i,b,rfl,gt,λH2 s2=>⟨_,rfl,?_⟩⟩;replace gs:=gs.trans (bG.g s2);replace gt:=gt.same s2;by_cases c2:zX (ls++t) i b=true
   ·rw[aH c2];obtain⟨dx,eO⟩:=gt.ins;have hk1:k'<aC.length:=(aD.mp hrk).1;have e2:(2:Int)*(k':Int)=((2*k':Nat):Int):=by lia
    have hpt:vB aC ((2*k':Nat):Int)=[a,b]:=kJ (r:=.bo a b) () (by rw[show(((2*k':Nat):Int)/2).toNat=k' by lia];exact hrk);refine⟨_,_,eO,lk,_,_,eO,lk2,g,aC,aT,_,i,a,rfl,gt,c1,λp l H3 s3 hl h1 h2=>?_⟩;replace gs:=gs.trans (bG.g s3);replace gt:=gt.same s3;obtain⟨dx,eO⟩:=gt.ins;refine⟨_,_,eO,lk2,g,aC,aT,_,i,b,rfl,gt,c2,λp' l' H4 s4 eC h1' h2'=>⟨small (),λp1 lV=>?_⟩⟩;rw[e2];exact wX (gs.trans (bG.g s4)) (gt.same s4) gY (zE lV _) QT (az hi () hpt hl h1 h2 eC h1' h2') DG (λL e h=>nxt e λ_ _=>h) λ_ H3 g3=>hM _ _ ⟨_,_,_,g3,rfl⟩
   ·rw[aF c2];exact hM _ _ ⟨_,_,_,⟨gs,t,gt,nxt (Le.refl _) (λ_ hb=>absurd (zY hb) c2)⟩,rfl⟩
  ·rw[aF c1];exact hM _ _ ⟨_,_,_,ge1 (fN.mpr c1),rfl⟩
 ·obtain⟨_,_,_,h,rfl⟩:=h;rw[aR (aJ _)]at h;exact q _ h
theorem SH{C:Addr}(T:NL K C)(bi:Bi mg)(h_a:mW P w K mg base 1 C "line_of" ["self","i","j"] (CU C))(h_d:mW P w K mg base 2 C "grow" ["self","i","j","why"] (rB C))(F:gL K "grow_by_clash" "grow_by_clash" s_o f fd):dG P w K mg base gJ 3 f fd ["growth","i","j"] (rM WB C):=by
 refine F.okz sc_o λfL A outer s H vs Q E hr h=>?_
 obtain⟨g,aC,aT,ls,i,j,rfl,hg,gY,hh,q⟩:=h;have cN:=T.cl;have lk:(pS g).lookup ("grow":Str)=none:=uH g () () () ();have lk2:(pS g).lookup ("line_of":Str)=none:=uH g () () () ();obtain⟨dx,eO⟩:=hg.ins;refine⟨_,(zG (zZ (zQ yE (pv 2) (zU qS (pv 1) zF) (zO _)) (zG (yP bM rfl (xY rfl bi.range (zA (zS yA rfl bi.len yJ (zA (xU (pv 0) rfl) zB)) zB)) (yF 3 sc_o.nd) (zG (yD (yI h_d cN hr.m (pv 0) (zA (pv 1) (zA (pv 3) (zA (zP (zA zT (zA (yI h_a cN hr.m (pv 0) (zA (pv 1) (zA (pv 2) zB))) zB))) zB)))))))) zR)),?_⟩;dsimp![jI,wE];refine⟨rfl,?_⟩;obtain⟨hi,hj⟩:=hg.ok.rng hh;by_cases e:(j:Int)=Builtin.bitXor (i:Int) 1
 ·rw[aH e];rw[QS]at e;obtain⟨as,hab,hmk⟩:=hg.abv;refine⟨_,_,_,eO,T.cl,T.nA,_,TV g,as.length,.inl ⟨_,dF.of hab,by simp⟩,(),by have :=hmk.len;lia,?_⟩;refine kM (n:=(as.length:Int).toNat) (λk σ H'=>∃(o1:Option V),lK C H g aC aT ls (λL=>∀n:Nat,n<k->zX L i n=true) H'/\σ=[some (V.ref g.r),some (V.int i),some (V.int j),o1]) ⟨_,lK.refl hg (λn z=>()),rfl⟩ (λk σ H' hk h M hM=>?_) (λσ H' h=>?_)
  ·obtain⟨o1,⟨gs,t,gt,hP⟩,rfl⟩:=h;have hk':k<2*aC.length:=by have :=hmk.len;lia
   have e0:(0:Int)+(k:Int)=((k:Nat):Int):=by lia
   obtain⟨dx,eO⟩:=gt.ins;dsimp![jI];rw[e0];refine⟨_,_,eO,lk,_,_,eO,lk2,g,aC,aT,_,i,j,rfl,gt,zY hh,λp l H1 s1 hl h1 h2=>⟨small (),λp1 lV=>?_⟩⟩;refine wX (gs.trans (bG.g s1)) (gt.same s1) gY (zE lV _) FV (OJ hi hk' e hl h1 h2) RT (λL e h n hn=>?_) λ_ H3 g3=>hM _ _ ⟨_,g3,rfl⟩
   rcases hU (lQ hn)with z |z
   ·exact e.has (hP n z)
   ·rw[z];exact h
  ·obtain⟨_,⟨h1,t,h2,h3⟩,rfl⟩:=h;exact q _ ⟨h1,t,h2,λ_ n hn=>h3 n (by have :=hmk.len;lia)⟩
 ·rw[aF e];exact q _ (lK.refl hg λz=>absurd (by rw[QS];exact z) e)
abbrev s_k:Stmt:=top 38
theorem bf:bW ["growth","rules","r","premises","pair","lines"] ["growth","rules","r"] (zK s_k):=by rfl'
theorem ay{ls:List Ln}{r:Nat}{q:xJ}{ps:List Int}(hi:i<2*aC.length)(hj:j<2*aC.length)(hr:aT[r]?=some q)(hq:q.2=((i:Int),(j:Int)))(hp:(ps.map λp=>yT ls ls.length (.n p))=q.1.map some):xI aC aT ls ls.length ⟨i,j,"rule",[.n r,.ps ps]⟩=true:=by
 have hrl:=(aD.mp hr).1;unfold xI;rw[aF (by
  intro z;rcases z with z |z
  ·exact z ⟨by show(0:Int)<=(i:Int);lia,by show(i:Int)<_;lia⟩
  ·exact z ⟨by show(0:Int)<=(j:Int);lia,by show(j:Int)<_;lia⟩),aH rfl,kf rfl,aH ⟨(),()⟩,bV,hr]
 show(((i:Int),(j:Int))==q.2&&_==_)=true;rw[hq,hp,cA];exact⟨eE _,eE _⟩
def InR(aC:List Rw)(q:xJ):Prop:=(0<=q.2.1/\q.2.1<2*(aC.length:Int))/\(0<=q.2.2/\q.2.2<2*(aC.length:Int))
def i3(aC:List Rw)(aT:List xJ)(ls L:List Ln)(r:Nat):Prop:=∀q:xJ,aT[r]?=some q->InR aC q->(∀p∈q.1,zX ls p.1 p.2=true)->zX L q.2.1 q.2.2=true
inductive spGR (C:Addr) (vs:List V) (H:Hp) (Q:VK) (E:XK):Prop
 |mk (g:nQ) (aC:List Rw) (aT:List xJ) (ls:List Ln) (ra:Addr) (us:List V) (r:Nat) (_:vs=[.ref g.r,.ref ra,.int r]) (_:lF C H g aC aT ls) (_:aC.length<=100) (_:H ra=some (.lst us)) (_:bA H (aT.map IX) us) (_:r<aT.length) (_:(∀r∈aT,r.1.length<=100)) (_:∀H',lK C H g aC aT ls (λL=>i3 aC aT ls L r) H'->Q .non H')
theorem dh{C:Addr}(T:NL K C)(bi:Bi mg)(h_U:fX P w K mg base 2 "is_below" ["n","bound"] OP)(h_a:mW P w K mg base 1 C "line_of" ["self","i","j"] (CU C))(h_D:mW P w K mg base 1 C "has" ["self","i","j"] (OM C))(h_d:mW P w K mg base 2 C "grow" ["self","i","j","why"] (rB C))(F:gL K "grow_by_rule" "grow_by_rule" s_k f fd):dG P w K mg base gJ 3 f fd ["growth","rules","r"] (spGR C):=by
 refine F.okz bf λfL A outer s H vs Q E hr h=>?_
 obtain⟨g,aC,aT,ls,ra,us,r,rfl,hg,gY,hra,hru,hrl,hpr,q⟩:=h;have hul:=xG hru;have cN:=T.cl;have lk:(pS g).lookup ("grow":Str)=none:=uH g () () () ();have lk2:(pS g).lookup ("line_of":Str)=none:=uH g () () () ();have lk3:(pS g).lookup ("has":Str)=none:=uH g () () () ();obtain⟨dx,eO⟩:=hg.ins;have mC:aT[r]?=some aT[r]:=aA hrl;have hq1:=hpr _ (cH hrl);generalize aT[r]=nr at mC hq1;obtain⟨rv,hrv,hrd⟩:=bA.get (d:=IX nr) hru (by rw[aQ,mC];rfl);obtain⟨xa,xl,xb,ps,rfl,mJ,hxl,hps,hxb⟩:=ln hrd;have hpl:=xG hps;refine⟨_,(zD (yH 3 bf.nd (zJ zN (zJ yB (pv 1) (pv 2)) zF)) (zD (yH 4 bf.nd (zJ zN (zJ yB (pv 1) (pv 2)) zF)) (zD (zZ (jB (xE (zS kP rfl bi.all VC (zA (yZ ["n"] ["growth"] [0] (qQ (pv 4)) (λ_ _ _ _ nd=>yF 0 nd) (λ_ _ _ _=>yU) (λ_ _ _ _=>(zI h_U hr.m rfl (zA (pv 0) (zA (zS (MV K) rfl bi.len yJ (zA (cr K (pv 1) rfl) zB)) zB))))) zB)))) (zG GX) zR) (zG (zZ (xE (zS kP rfl bi.all VC (zA (yZ ["i","j"] ["growth"] [0] (yV (pv 3)) (λ_ _ _ _ nd=>YI (K:=K) (n:=2) rfl (zV (yF 0 nd) (zV (yF 1 nd) yY))) (λ_ _ _ _=>yU) (λ_ _ _ _=>(yI h_D cN hr.m (pv 2) (zA (pv 0) (zA (pv 1) zB))))) zB))) (zD (yH 5 bf.nd (jJ uL rfl bi.tuple qW (zA (yZ ["i","j"] ["growth"] [0] (yV (pv 3)) (λ_ _ _ _ nd=>YI (K:=K) (n:=2) rfl (zV (yF 0 nd) (zV (yF 1 nd) yY))) (λ_ _ _ _=>yU) (λ_ _ _ _=>(yI h_a cN hr.m (pv 2) (zA (pv 0) (zA (pv 1) zB))))) zB))) (zG (yD (yI h_d cN hr.m (pv 0) (zA (zJ zN (pv 4) zF) (zA (zJ zN (pv 4) zF) (zA (zP (zA zT (zA (pv 2) (zA (pv 5) zB)))) zB))))))) zR))))),?_⟩;refine zH λN hN=>?_
 dsimp![];refine⟨_,dF.of hra,_,yO hrv,xa,rfl,_,cW.of mJ,_,iG,hN _ _ ?_⟩;clear hN;refine zH λN hN=>?_
 dsimp![];refine⟨_,dF.of hra,_,yO hrv,xa,rfl,_,cW.of mJ,_,nK,hN _ _ ?_⟩;clear hN;obtain⟨as,hab,hmk⟩:=hg.abv;have fA:=hmk.len;refine zH λN hN=>?_
 dsimp![];refine⟨⟨_,cW.of hxb⟩,?_⟩;refine XU (xs:=[.int nr.2.1,.int nr.2.2]) (λi ys σ H'=>bG H H'/\ys=(([nr.2.1,nr.2.2].take i).map λx=>JQ as.length (.n x)).map V.bl/\∃o,σ=[o,some (V.ref g.r)]) ⟨bG.refl _,rfl,_,rfl⟩ (small (by simp)) (λi ys σ H' e=>?_) (λi ys σ H' e=>cW.of (e.1 _ _ hxb)) (λi x ys σ H' D hx e hD=>?_) (λys σ H' e p hp=>?_)
 ·obtain⟨_,rfl,_⟩:=e;rw[aE,aE,bH];lia
 ·obtain⟨es,rfl,o,rfl⟩:=e;have hg':=hg.same es;obtain⟨dx,eO⟩:=hg'.ins;have hx':∃n,x=V.int n/\[nr.2.1,nr.2.2][i]?=some n:=by
   match i,hx with
   |0,hx=>cases hx;exact⟨_,rfl,rfl⟩
   |1,hx=>cases hx;exact⟨_,rfl,rfl⟩
  obtain⟨n,rfl,hn⟩:=hx';obtain⟨hil,hn2⟩:=aD.mp hn;dsimp![wE,OP];refine⟨C,dx,_,eO,T.cl,T.nA,_,TV g,as.length,.inl ⟨_,dF.of (es _ _ hab),by simp⟩,.n n,rfl,hD _ _ _ ⟨es,?_,_,rfl⟩⟩;rw[aO hil,hn2,bF,bF];rfl
 obtain⟨es,rfl,o,rfl⟩:=e;refine⟨p,rfl,_,dF.of zC,?_⟩;have s1:=es.trans (zE hp (.lst ((([nr.2.1,nr.2.2].take 2).map λx=>JQ as.length (.n x)).map V.bl)))
 change (if([JQ as.length (.n nr.2.1),JQ as.length (.n nr.2.2)].all id)=false then Q V.non (upd H' p (.lst ((([nr.2.1,nr.2.2].take 2).map λx=>JQ as.length (.n x)).map V.bl)))else N _ (upd H' p (.lst ((([nr.2.1,nr.2.2].take 2).map λx=>JQ as.length (.n x)).map V.bl))))
 generalize upd H' p (.lst ((([nr.2.1,nr.2.2].take 2).map λx=>JQ as.length (.n x)).map V.bl))=H1 at s1⊢;clear hp es eO;have hg1:=hg.same s1;by_cases hB:(0<=nr.2.1/\nr.2.1<2*(aC.length:Int))/\(0<=nr.2.2/\nr.2.2<2*(aC.length:Int))
 case neg=>
  rw[aH]
  ·exact q _ ((lK.refl hg (λq' hq' hr' _=>by rw[mC]at hq';cases hq';exact absurd hr' hB)).same s1)
  ·rw[fN];intro z;simp[JQ]at z;exact hB ()
 rw[aF (by simp[JQ];lia)];refine hN _ _ ?_;clear hN;obtain⟨⟨b1,b2⟩,b3,b4⟩:=hB;obtain⟨i,hi⟩:=fM b1;obtain⟨j,hj⟩:=fM b3;have hps1:=bA.same s1 hps;have hxl1:=s1 _ _ hxl;have hxb1:=s1 _ _ hxb;clear hab hmk fA;dsimp![];refine⟨⟨_,dF.of hxl1⟩,?_⟩;refine uG (xs:=ps) (λk ys σ H'=>bG H1 H'/\ys=((nr.1.take k).map λx=>zX ls x.1 x.2).map V.bl/\∃o1 o2,σ=[o1,o2,some (V.ref g.r)]) ⟨bG.refl _,rfl,_,_,rfl⟩ (small ()) (λk ys σ H' e=>?_) (λi ys σ H' e=>dF.of (e.1 _ _ hxl1)) (λk x ys σ H' D hx e hD=>?_) (λys σ H' e p hp=>?_)
 ·obtain⟨_,rfl,_⟩:=e;rw[aE,aE,bH];lia
 ·obtain⟨es,rfl,o1,o2,rfl⟩:=e;have hg':=hg1.same es;obtain⟨dx,eO⟩:=hg'.ins;obtain⟨pr,hpk,hpx⟩:=uE hps1 hx;obtain⟨xp,rfl,hxp⟩:=RD hpx;replace hxp:=es _ _ hxp;obtain⟨hkl,hk2⟩:=aD.mp hpk;dsimp![uQ,jU,uY,jI];refine⟨_,cW.of hxp,rfl,_,_,rfl,_,_,rfl,rfl,_,_,eO,lk3,g,aC,aT,ls,_,_,rfl,hg',λH3 s3=>hD _ _ _ ⟨es.trans s3,?_,_,_,rfl⟩⟩;rw[aO hkl,hk2,bF,bF];rfl
 obtain⟨es,rfl,o1,o2,rfl⟩:=e;refine⟨p,rfl,_,dF.of zC,?_⟩;rw[aR ()];have s2:=es.trans (zE hp (.lst ((nr.1.map λx=>zX ls x.1 x.2).map V.bl)));generalize upd H' p (.lst ((nr.1.map λx=>zX ls x.1 x.2).map V.bl))=H2 at s2⊢;clear hp es;have hg2:=hg1.same s2;replace hxl1:=s2 _ _ hxl1;replace hxb1:=s2 _ _ hxb1;replace hps1:=bA.same s2 hps1;by_cases hA:(nr.1.map λx=>zX ls x.1 x.2).all id=true
 case neg=>
  rw[aF hA];exact q _ ((lK.refl hg (λq' hq' _ hp'=>absurd (by rw[mC]at hq';cases hq';rw[lS,dB];exact λp hp=>hp' p hp) hA)).same (s1.trans s2))
 rw[aH hA];rw[lS,dB]at hA;refine⟨⟨_,dF.of hxl1⟩,?_⟩;refine uG (xs:=ps) (λk ys σ H'=>bG H2 H'/\(∃ns:List Int,ys=ns.map V.int/\ns.length=k/\(ns.map λp=>yT ls ls.length (.n p))=(nr.1.take k).map some)/\∃o1 o2,σ=[o1,o2,some (V.ref g.r)]) ⟨bG.refl _,⟨[],rfl,rfl,rfl⟩,_,_,rfl⟩ (small ()) (λk ys σ H' e=>?_) (λi ys σ H' e=>dF.of (e.1 _ _ hxl1)) (λk x ys σ H' D hx e hD=>?_) (λys σ H' e p hp=>?_)
 ·obtain⟨_,⟨ns,rfl,hl,_⟩,_⟩:=e;rw[aE];lia
 ·obtain⟨es,⟨ns,rfl,hl,hns⟩,o1,o2,rfl⟩:=e;have hg':=hg2.same es;obtain⟨dx,eO⟩:=hg'.ins;obtain⟨pr,hpk,hpx⟩:=uE hps1 hx;obtain⟨xp,rfl,hxp⟩:=RD hpx;replace hxp:=es _ _ hxp;obtain⟨hkl,hk2⟩:=aD.mp hpk;dsimp![uQ,jU,uY,jI];refine⟨_,cW.of hxp,rfl,_,_,rfl,_,_,rfl,rfl,_,_,eO,lk2,g,aC,aT,ls,_,_,rfl,hg',hA pr (aZ hpk),λp l H3 s3 hl1 h1 h2=>hD _ _ _ ⟨es.trans s3,⟨ns++[(p:Int)],by rw[bF];rfl,by simp[hl],?_⟩,_,_,rfl⟩⟩;rw[aO hkl,hk2,bF,bF,hns];show _++[yT ls ls.length (.n (p:Int))]=_;rw[uV hl1,h1,h2];rfl
 obtain⟨es,⟨ns,rfl,hl,hns⟩,o1,o2,rfl⟩:=e;rw[aR ()]at hns;refine⟨p,rfl,_,.inl ⟨dF.of zC,λl eC=>?_⟩⟩;have s3:=(es.trans (zE hp (.lst (ns.map V.int)))).trans (zE eC (.tup (ns.map V.int)));have kl:upd (upd H' p (.lst (ns.map V.int))) l (.tup (ns.map V.int)) l=some (.tup (ns.map V.int)):=zC;generalize upd (upd H' p (.lst (ns.map V.int))) l (.tup (ns.map V.int))=H3 at s3 kl⊢;replace hxb1:=s3 _ _ hxb1;have hg3:=hg2.same s3;obtain⟨dx,eO⟩:=hg3.ins;dsimp![jI];refine⟨_,_,eO,lk,_,cW.of hxb1,_,iG,_,cW.of hxb1,_,nK,small (),λp2 hp2=>?_⟩;rw[hi,hj];refine wX (t:=[]) (bG.g ((s1.trans s2).trans s3)) (by rw[cU];exact hg3) gY (zE hp2 _) (x:="rule") (as:=[.n r,.ps ns]) ⟨p2,_,rfl,zC,_,_,rfl,rfl,_,_,rfl,rfl,_,_,rfl,nz (zE hp2 _ _ _ kl),rfl⟩ ?_ ⟨by simp,λps' h=>?_⟩ (λL e h q' hq' _ _=>by rw[mC]at hq';cases hq';rw[hi,hj];exact h) λ_ H4 g4=>q _ g4
 ·rw[cU];exact ay () () mC (Prod.ext hi hj) hns
 ·simp at h;subst h;lia
abbrev s_G:Stmt:=top 39
theorem rC:bW ["sheet","rules","growth","boths","waiting","r","k","i","j"] ["sheet","rules"] (zK s_G):=by rfl'
theorem Le.back{L L':List Ln}(e:Le L L')(ha:a<L.length)(h:L'[a]?=some l):L[a]?=some l:=by
 obtain⟨t,rfl⟩:=e;rw[bN ha]at h;exact h
structure Cl(aC:List Rw)(aT:List xJ)(k:Nat)(L:List Ln):Prop where
 turn:∀(a:Nat)(l:Ln)(i j:Nat),a<k->L[a]?=some l->l.i=i->l.j=j->zX L ((nJ j:Nat):Int) ((nJ i:Nat):Int)=true
 clash:∀(a:Nat)(l:Ln)(i j:Nat),a<k->L[a]?=some l->l.i=i->l.j=j->(j:Int)=pX i->∀n:Nat,n<2*aC.length->zX L i n=true
 chain:∀(a b:Nat)(l l':Ln)(i j m:Nat),a<k->b<k->L[a]?=some l->L[b]?=some l'->l.i=i->l.j=j->l'.i=j->l'.j=m->zX L i m=true
 both:∀(a b:Nat)(l l':Ln)(i n:Nat)(x y:Int),a<k->b<k->L[a]?=some l->L[b]?=some l'->l.i=i->l.j=x->l'.i=i->l'.j=y->aC[n]?=some (.bo x y)->zX L i ((2*n:Nat):Int)=true
 rule:∀(r:Nat)(q:xJ),aT[r]?=some q->InR aC q->(∀p∈q.1,∃(a:Nat)(l:Ln),a<k/\L[a]?=some l/\l.i=p.1/\l.j=p.2)->zX L q.2.1 q.2.2=true
theorem Cl.le{k:Nat}{L L':List Ln}(h:Cl aC aT k L)(hk:k<=L.length)(e:Le L L'):Cl aC aT k L':=by
 have b:∀{a:Nat}{l:Ln},a<k->L'[a]?=some l->L[a]?=some l:=λha hl=>e.back () hl
 refine⟨λa l i j ha hl h1 h2=>e.has (h.turn a l i j ha (b ha hl) h1 h2),λa l i j ha hl h1 h2 h3 n hn=>e.has (h.clash a l i j ha (b ha hl) h1 h2 h3 n hn),λa b' l l' i j m ha hb hl eC h1 h2 h3 h4=>e.has (h.chain a b' l l' i j m ha hb (b ha hl) (b hb eC) h1 h2 h3 h4),
  λa b' l l' i n x y ha hb hl eC h1 h2 h3 h4 hr=>e.has (h.both a b' l l' i n x y ha hb (b ha hl) (b hb eC) h1 h2 h3 h4 hr),λr q hr hi hp=>e.has (h.rule r q hr hi λp hpq=>?_)⟩
 obtain⟨a,l,ha,hl,h1,h2⟩:=hp p hpq;exact⟨a,l,ha,b ha hl,h1,h2⟩
theorem Cl.step{k:Nat}{L L':List Ln}(h:Cl aC aT k L)(e:Le L L'){l0:Ln}(hk:L[k]?=some l0)(hi:l0.i=i)(hj:l0.j=j)
 (h1:zX L' ((nJ j:Nat):Int) ((nJ i:Nat):Int)=true) (h2:∀m:Nat,zX L j m=true->zX L' i m=true) (h3:∀m:Nat,zX L m i=true->zX L' m j=true)
 (h4:∀(n:Nat)(x y:Int),aC[n]?=some (.bo x y)->((j:Int)=x\/(j:Int)=y)->zX L i x=true->zX L i y=true->zX L' i ((2*n:Nat):Int)=true)
 (h5:(j:Int)=pX i->∀n:Nat,n<2*aC.length->zX L' i n=true)
 (h6:∀(r:Nat)(q:xJ),aT[r]?=some q->InR aC q->((i:Int),(j:Int))∈q.1->(∀p∈q.1,zX L p.1 p.2=true)->zX L' q.2.1 q.2.2=true):Cl aC aT (k+1) L':=by
 have hkl:=(aD.mp hk).1;have hc:=h.le () e;have b:∀{a:Nat}{l:Ln},a<k+1->L'[a]?=some l->L[a]?=some l:=λha hl=>e.back () hl
 have z:∀{a:Nat},a<k+1->a<k\/a=k:=λha=>by lia
 have lz:∀{a:Nat}{l:Ln},a=k->a<k+1->L'[a]?=some l->l=l0:=λea ha hl=>by
  have :=b ha hl;rw[ea,hk]at this;exact(bR this).symm
 have hs:∀{a:Nat}{l:Ln},a<k+1->L'[a]?=some l->zX L l.i l.j=true:=λha hl=>fO.mpr ⟨_,_,b ha hl,rfl,rfl⟩
 refine⟨λa l i' j' ha hl g1 g2=>?_,λa l i' j' ha hl g1 g2 g3 n hn=>?_,λa b' l l' i' j' m ha hb hl eC g1 g2 g3 g4=>?_,λa b' l l' i' n x y ha hb hl eC g1 g2 g3 g4 hr=>?_,λr q hr hir hp=>?_⟩
 ·rcases z ha with za |za
  ·exact hc.turn a l i' j' za hl g1 g2
  ·have el:=lz za ha hl;subst el;have ei:i'=i:=by lia
   have ej:j'=j:=by lia
   rw[ei,ej];exact h1
 ·rcases z ha with za |za
  ·exact hc.clash a l i' j' za hl g1 g2 g3 n hn
  ·have el:=lz za ha hl;subst el;have ei:i'=i:=by lia
   have ej:j'=j:=by lia
   subst ei ej;exact h5 g3 n hn
 ·rcases z ha with za |za
  ·rcases z hb with zb |zb
   ·exact hc.chain a b' l l' i' j' m za zb hl eC g1 g2 g3 g4
   ·have el:=lz zb hb eC;subst el;have ej:j'=i:=by lia
    have em:m=j:=by lia
    have :=hs ha hl;rw[g1,g2,ej]at this;rw[em];exact h3 i' this
  ·have el:=lz za ha hl;subst el;have ei:i'=i:=by lia
   have ej:j'=j:=by lia
   have :=hs hb eC;rw[g3,g4,ej]at this;rw[ei];exact h2 m this
 ·have ha':=hs ha hl;have hb':=hs hb eC;rw[g1,g2]at ha';rw[g3,g4]at hb';rcases z ha with za |za
  ·rcases z hb with zb |zb
   ·exact hc.both a b' l l' i' n x y za zb hl eC g1 g2 g3 g4 hr
   ·have el:=lz zb hb eC;subst el;have ei:i'=i:=by lia
    subst ei;exact h4 n x y hr (.inr ()) ha' hb'
  ·have el:=lz za ha hl;subst el;have ei:i'=i:=by lia
   subst ei;exact h4 n x y hr (.inl ()) ha' hb'
 ·by_cases hall:∀p∈q.1,∃(a:Nat)(l:Ln),a<k/\L'[a]?=some l/\l.i=p.1/\l.j=p.2
  ·exact hc.rule r q hr hir hall
  ·refine h6 r q hr hir (Classical.byContradiction λhno=>hall λp hpq=>?_) λp hpq=>?_
   ·obtain⟨a,l,ha,hl,g1,g2⟩:=hp p hpq;rcases z ha with za |za
    ·exact⟨a,l,za,hl,g1,g2⟩
    ·have el:=lz za ha hl;subst el;have ep:p=((i:Int),(j:Int)):=Prod.ext (by rw[←g1,hi]) (by rw[←g2,hj]);exact absurd (ep▸hpq) hno
   ·obtain⟨a,l,ha,hl,g1,g2⟩:=hp p hpq;have :=hs ha hl;rw[g1,g2]at this;exact this
inductive gq (K:W.Frag) (vs:List V) (H:Hp) (Q:VK) (E:XK):Prop
 |mk (sa ra:Addr) (us gX:List V) (aC:List Rw) (aT:List xJ) (_:vs=[.ref sa,.ref ra]) (_:H sa=some (.lst us)) (_:fP K H aC us) (_:H ra=some (.lst gX)) (_:bA H (aT.map IX) gX) (_:aC.length<=100) (_:uM aC) (_:aT.length<=100) (_:(∀r∈aT,r.1.length<=100)) (_:∀(la:Addr)(ws:List V)(ls:List Ln) H',bG H H'->H' la=some (.lst ws)->xQ H' ls ws->NB aC aT ls->Pl aC (2*aC.length) aC.length ls->Cl aC aT ls.length ls->Q (.ref la) H')
theorem fV.same{g:nQ}{H2:Hp}(s:bG H H2)(e:fV g H2 H')(h1:H g.la=none)(h2:H g.pa=none)(h3:H g.aa=none)(h4:H g.ba=none):bG H H':=λb o hb=>by
 have go:∀{a:Addr},H a=none->b≠a:=λha z=>by rw[z,ha]at hb;cases hb
 exact e b o (s b o hb) (go h1) (go h2) (go h3) (go h4)
theorem DV{C:Addr}(T:NL K C)(bi:Bi mg)(h_B:oq P w K mg base 1 C "Growth" ["self","many"] (jv C))(h_g:fX P w K mg base 1 "boths_by_part" ["sheet"] (spBo K))(h_b:fX P w K mg base 1 "rules_by_premise" ["rules"] spWa)(h_ac:fX P w K mg base 3 "begin" ["growth","sheet"] (spBe K C))(h_u:fX P w K mg base 3 "grow_by_turn" ["growth","i","j"] (rM iz C))(h_h:fX P w K mg base 3 "grow_by_chain" ["growth","i","j"] (rM WC C))(h_m:fX P w K mg base 3 "grow_by_both" ["growth","i","boths"] (spGB C))(h_o:fX P w K mg base 3 "grow_by_clash" ["growth","i","j"] (rM WB C))(h_k:fX P w K mg base 3 "grow_by_rule" ["growth","rules","r"] (spGR C))(F:gL K "closing" "closing" s_G f fd):dG P w K mg base gJ 4 f fd ["sheet","rules"] (gq K):=by
 refine F.okz rC λfL A outer s H vs Q E hr h=>?_
 obtain⟨sa,ra,us,gX,aC,aT,rfl,hsa,hrw,hra,hru,gY,hin,hr100,hpr,q⟩:=h;have hul:=hrw.len;have hvl:=xG hru;have cN:=T.cl;refine⟨_,(zD (yH 2 rC.nd (RK h_B hr.m rfl (zA (zU xP zF (zS yA rfl bi.len yJ (zA (pv 0) zB))) zB))) (zD (yH 3 rC.nd (zI h_g hr.m rfl (zA (pv 0) zB))) (zD (yH 4 rC.nd (zI h_b hr.m rfl (zA (pv 1) zB))) (zD (yD (zI h_ac hr.m rfl (zA (pv 2) (zA (pv 0) zB)))) (zD (yP bM rfl (xY rfl bi.range (zA (zS yA rfl bi.len yJ (zA (pv 1) zB)) zB)) (yF 5 rC.nd) (zG (yD (zI h_k hr.m rfl (zA (pv 2) (zA (pv 1) (zA (pv 5) zB))))))) (zD (yH 6 rC.nd zF) (zD (tI bM (zQ ZK (pv 6) (zS yA rfl bi.len yJ (zA (xU (pv 2) rfl) zB)) (zO _)) (zD (yH 7 rC.nd (zJ zN (zJ yB (xU (pv 2) rfl) (pv 6)) zF)) (zD (yH 8 rC.nd (zJ zN (zJ yB (xU (pv 2) rfl) (pv 6)) zF)) (zD (yD (zI h_u hr.m rfl (zA (pv 2) (zA (pv 7) (zA (pv 8) zB))))) (zD (yD (zI h_h hr.m rfl (zA (pv 2) (zA (pv 7) (zA (pv 8) zB))))) (zD (yD (zI h_m hr.m rfl (zA (pv 2) (zA (pv 7) (zA (zJ yB (pv 3) (pv 8)) zB))))) (zD (yD (zI h_o hr.m rfl (zA (pv 2) (zA (pv 7) (zA (pv 8) zB))))) (zD (yP bM rfl (yV (RP (jL hr) (pv 4) (zP (zA (pv 7) (zA (pv 8) zB))) (xF zB) ⟨rfl,rfl,rfl,rfl⟩)) (yF 5 rC.nd) (zG (yD (zI h_k hr.m rfl (zA (pv 2) (zA (pv 1) (zA (pv 5) zB))))))) (zG (RC (i:=6) rC.nd rfl (Or.inl rfl) zF mf)))))))))) (zG (zM (xU (pv 2) rfl)))))))))),?_⟩;refine zH λN hN=>?_
 dsimp![OD];refine⟨us.length,.inl ⟨_,dF.of hsa,rfl⟩,.inl ⟨(),()⟩,λx dx hx hdx hne=>?_⟩;have s1:bG H (upd (upd H dx (.own x)) x (.ins C dx [])):=((bG.refl H).upd hdx).upd hx;have k1:upd (upd H dx (.own x)) x (.ins C dx []) x=some (.ins C dx []):=zC;generalize upd (upd H dx (.own x)) x (.ins C dx [])=H1 at s1 k1⊢;have e2:(2:Int)*(us.length:Int)=((2*aC.length:Nat):Int):=by rw[hul];lia
 rw[e2];refine⟨x,dx,aC,aT,rfl,k1,gY,λg H2 hgr x2 iF hpa haa lL hg=>⟨rfl,hN _ _ ?_⟩⟩;subst hgr;clear hN;have s2:bG H H2:=λb o hb=>x2 b o (s1 _ _ hb) (λz=>by rw[z,hx]at hb;cases hb)
 replace iF:=s1.free iF;replace hpa:=s1.free hpa;replace haa:=s1.free haa;replace lL:=s1.free lL;have outH:∀{a:Addr}{o:HO},H a=some o->JR g a:=λ{a o} ha=>by
  have go:∀{b:Addr},H b=none->a≠b:=λhb z=>by rw[z,hb]at ha;cases ha
  exact⟨go iF,go hpa,go haa,go lL⟩
 clear x2 k1 s1;refine zH λN hN=>?_
 dsimp![];refine⟨sa,us,aC,rfl,s2 _ _ hsa,hrw.same s2,gY,hin,λpb qs n H3 s3 hpb0 hqs0 hpb hql hbo hbc=>hN _ _ ?_⟩;clear hN;have outb:=hg.out hpb0;have outq:∀q∈qs,JR g q:=λq hq=>hg.out (hqs0 q hq)
 replace hg:=hg.same s3;replace s2:=s2.trans s3;clear s3 hqs0 hpb0;refine zH λN hN=>?_
 dsimp![];refine⟨ra,gX,aT,rfl,s2 _ _ hra,bA.same s2 hru,hr100,hpr,λpw kvs n' H4 s4 hpw0 hpw hwa hwc=>hN _ _ ?_⟩;clear hN;have outw:=hg.out hpw0;have hwa':∀kv∈kvs,∃(q:Addr)(ns:List Nat),kv.2=.ref q/\H4 q=some (.lst (ns.map nV))/\JR g q/\∀x∈ns,x<aT.length:=λkv hkv=>by
  obtain⟨q',ns',h1,h2,h3,h4,h5⟩:=hwa kv hkv;exact⟨q',ns',h1,h2,hg.out h3,h5⟩
 clear hwa;replace hg:=hg.same s4;replace s2:=s2.trans s4;replace hpb:=s4 _ _ hpb;replace hbo:=hbo.same s4;replace hbc:=hbc.same s4;clear s4 hpw0;have SS:∀{H'},fV g H4 H'->bG H H':=λe=>fV.same s2 e iF hpa haa lL
 refine zH λN hN=>?_
 dsimp![];refine⟨g,sa,us,aC,aT,rfl,hg,gY,s2 _ _ hsa,hrw.same s2,outH hsa,hin,λH5 g5=>hN _ _ ?_⟩;clear hN;have np:∀{r:Nat}{ls L L':List Ln},i3 aC aT ls L r->Le L L'->∀q:xJ,aT[r]?=some q->InR aC q->q.1=[]->zX L' q.2.1 q.2.2=true:=λh e q hq hi h0=>e.has (h q hq hi (λp hp=>by rw[h0]at hp;cases hp))
 refine yK (λσ H'=>∃(o1 o2 o3 o4:Option V),lK C H4 g aC aT [] (λL=>Pl aC (2*aC.length) aC.length L/\Cl aC aT 0 L) H'/\σ=[some (V.ref sa),some (V.ref ra),some (V.ref g.r),some (V.ref pb),some (V.ref pw),o1,o2,o3,o4]) (λN hN=>?_) (λσ H' h=>?_)
 ·dsimp![];refine⟨gX.length,.inl ⟨_,dF.of (SS g5.to.1 _ _ hra),rfl⟩,(),(),?_⟩;refine kM (n:=(gX.length:Int).toNat) (λi σ H'=>∃(o1 o2 o3 o4:Option V),lK C H4 g aC aT [] (λL=>Pl aC (2*aC.length) aC.length L/\∀r:Nat,r<i->∀q:xJ,aT[r]?=some q->InR aC q->q.1=[]->zX L q.2.1 q.2.2=true) H'/\σ=[some (V.ref sa),some (V.ref ra),some (V.ref g.r),some (V.ref pb),some (V.ref pw),o1,o2,o3,o4]) ⟨_,_,_,_,(by
   obtain⟨h1,t,h2,h3⟩:=g5;exact⟨h1,t,h2,h3,λr hr=>()⟩),rfl⟩ (λi σ H' hi h M hM=>?_) (λσ H' h=>?_)
  rotate_left
  ·obtain⟨o1,o2,o3,o4,⟨h1,t,h2,h3,h4⟩,rfl⟩:=h;refine hN _ _ ⟨_,_,_,_,⟨h1,t,h2,h3,⟨λa l i j ha=>(),λa l i j ha=>(),λa b l l' i j m ha=>(),λa b l l' i n x y ha=>(),λr q hr hir hp=>?_⟩⟩,rfl⟩;refine h4 r (by have :=(aD.mp hr).1;lia) q hr hir ?_;cases hq:q.1 with
   |nil=>rfl
   |cons p ps=>
    obtain⟨a,l,ha,_⟩:=hp p (by rw[hq];exact aY);lia
  obtain⟨o1,o2,o3,o4,⟨gs,t,gt,hP,hR⟩,rfl⟩:=h;have e0:(0:Int)+(i:Int)=((i:Nat):Int):=by lia
  dsimp![];rw[e0];refine⟨g,aC,aT,_,ra,gX,i,rfl,gt,gY,SS gs _ _ hra,bA.same (SS gs) hru,(),hpr,λH6 g6=>?_⟩;refine hM _ _ ⟨_,_,_,_,lK.then gs g6 (λL e h=>⟨hP.le e,λr hr=>?_⟩),rfl⟩;rcases hU (lQ hr)with z |z
  ·exact λq hq hi h0=>e.has (hR r z q hq hi h0)
  ·rw[z];exact np h (Le.refl _)
 obtain⟨o1,o2,o3,o4,⟨gs,t,gt,hP,hC⟩,rfl⟩:=h;rw[WP]at gt hP hC;refine zH λN hN=>?_
 dsimp![];refine hN _ _ ?_;clear hN;refine yK (λσ H'=>∃(o1 o2 o3 o4:Option V)(t:List Ln),fV g H4 H'/\lF C H' g aC aT t/\Pl aC (2*aC.length) aC.length t/\Cl aC aT t.length t/\σ=[some (V.ref sa),some (V.ref ra),some (V.ref g.r),some (V.ref pb),some (V.ref pw),o1,o2,o3,o4]) (λN hN=>?_) (λσ H' h=>?_)
 ·refine jc (λm σ H'=>∃(k:Nat)(t:List Ln)(o1 o3 o4:Option V),m=(2*aC.length)*(2*aC.length)-k/\k<=t.length/\fV g H4 H'/\lF C H' g aC aT t/\Pl aC (2*aC.length) aC.length t/\Cl aC aT k t/\σ=[some (V.ref sa),some (V.ref ra),some (V.ref g.r),some (V.ref pb),some (V.ref pw),o1,some (V.int k),o3,o4]) ⟨_,0,t,_,_,_,rfl,cO _,gs,gt,hP,hC,rfl⟩ (λm σ H' h B hB=>?_);clear hP hC;obtain⟨k,t,o1,o3,o4,rfl,hk,gs,gt,hP,hC,rfl⟩:=h;have htl:=gt.ok.len;obtain⟨dx,eO⟩:=gt.ins;obtain⟨ws,hl,hws⟩:=gt.lin;have hwl:=xG hws;dsimp![wE];refine⟨_,_,_,eO,T.cl,T.nL,_,MN g,ws.length,.inl ⟨_,dF.of hl,rfl⟩,?_⟩;by_cases hkl:k<t.length
  case neg=>
   rw[aF ()];rw[show k=t.length by lia]at hC;exact hN _ _ ⟨_,_,_,_,t,gs,gt,hP,hC,rfl⟩
  rw[aH ()];have hlk:t[k]?=some t[k]:=aA hkl;have hrng:=wZ (gt.ok.snd k _ hlk);generalize t[k]=l0 at hlk hrng;obtain⟨i,hi⟩:∃i:Nat,l0.i=(i:Int):=fM hrng.1.1;obtain⟨j,hj⟩:∃j:Nat,l0.j=(j:Int):=fM hrng.2.1;obtain⟨v,hv,hvd⟩:=bA.get (d:=FA l0) hws (by rw[aQ,hlk];rfl);obtain⟨xa,u,rfl,mJ,_⟩:=SZ hvd;rw[hi,hj]at mJ hrng;have hh:zX t i j=true:=fO.mpr ⟨k,l0,hlk,hi,hj⟩;refine hB _ (λσ' H''=>∃(t':List Ln)(o1 o3 o4:Option V),k+1<=t'.length/\fV g H4 H''/\lF C H'' g aC aT t'/\Pl aC (2*aC.length) aC.length t'/\Cl aC aT (k+1) t'/\σ'=[some (V.ref sa),some (V.ref ra),some (V.ref g.r),some (V.ref pb),some (V.ref pw),o1,some (V.int ((k+1:Nat):Int)),o3,o4]) (λσ' H'' h=>?_) (λM hM=>?_)
  ·obtain⟨t',o1,o3,o4,h1,h2,h3,h4,h5,rfl⟩:=h;exact⟨_,(),k+1,t',_,_,_,rfl,h1,h2,h3,h4,h5,rfl⟩
  refine zH λN1 hN1=>?_
  dsimp![wE];refine⟨_,_,_,eO,T.cl,T.nL,_,MN g,_,rfl,_,dF.of hl,_,yO hv,_,rfl,_,cW.of mJ,_,iG,hN1 _ _ ?_⟩;clear hN1;refine zH λN1 hN1=>?_
  dsimp![wE];refine⟨_,_,_,eO,T.cl,T.nL,_,MN g,_,rfl,_,dF.of hl,_,yO hv,_,rfl,_,cW.of mJ,_,nK,hN1 _ _ ?_⟩;clear hN1;refine zH λN1 hN1=>?_
  dsimp![];refine⟨g,aC,aT,t,i,j,rfl,gt,gY,hh,λH6 g6=>hN1 _ _ ?_⟩;clear hN1;obtain⟨gs6,t6,gt6,rt⟩:=g6;replace gs:=gs.trans gs6;refine zH λN1 hN1=>?_
  dsimp![];refine⟨g,aC,aT,_,i,j,rfl,gt6,gY,zY hh,λH7 g7=>hN1 _ _ ?_⟩;clear hN1;obtain⟨gs7,t7,gt7,rc⟩:=g7;replace gs:=gs.trans gs7;have hjl:j<qs.length:=by lia
  obtain⟨us1,hu1,_,ht1⟩:=hbo qs[j] (cH hjl);have tu:=hg.tups gs;refine zH λN1 hN1=>?_
  dsimp![];refine⟨_,dF.of (gs.out outb hpb),_,yO (by rw[aQ,aA hjl];rfl),?_⟩;refine⟨g,aC,aT,_,i,qs[j],us1,rfl,gt7,gY,(),gs.out (outq _ (cH hjl)) hu1,outq _ (cH hjl),λv hv=>(ht1 v hv).tups tu,hin,λH8 g8=>hN1 _ _ ?_⟩;clear hN1;obtain⟨gs8,t8,gt8,rb⟩:=g8;replace gs:=gs.trans gs8;refine zH λN1 hN1=>?_
  dsimp![];refine⟨g,aC,aT,_,i,j,rfl,gt8,gY,zY (zY (zY hh)),λH9 g9=>hN1 _ _ ?_⟩;clear hN1;obtain⟨gs9,t9,gt9,rx⟩:=g9;replace gs:=gs.trans gs9;have hk9:k+1<=((((t++t6)++t7)++t8)++t9).length:=by simp only[aP];lia
  have h1:zX ((((t++t6)++t7)++t8)++t9) ((nJ j:Nat):Int) ((nJ i:Nat):Int)=true:=zY (zY (zY rt));have h2:∀m:Nat,zX t j m=true->zX ((((t++t6)++t7)++t8)++t9) i m=true:=λm hm=>zY (zY (rc.1 m (zY hm)))
  have h3:∀m:Nat,zX t m i=true->zX ((((t++t6)++t7)++t8)++t9) m j=true:=λm hm=>zY (zY (rc.2 m (zY hm)))
  have h4:∀(n:Nat)(x y:Int),aC[n]?=some (.bo x y)->((j:Int)=x\/(j:Int)=y)->zX t i x=true->zX t i y=true->zX ((((t++t6)++t7)++t8)++t9) i ((2*n:Nat):Int)=true:=λn x y hn hxy hx hy=>by
   obtain⟨us',t',g1,g2,g3⟩:=hbc n x y (aD.mp hn).1 hn j qs[j] hxy (aA hjl);rw[hu1]at g1;cases g1;exact zY (rb t' n x y g2 (tu _ _ g3) (zY (zY hx)) (zY (zY hy)))
  have h5:(j:Int)=pX i->∀n:Nat,n<2*aC.length->zX ((((t++t6)++t7)++t8)++t9) i n=true:=rx;have ett:Le t ((((t++t6)++t7)++t8)++t9):=⟨t6++(t7++(t8++t9)),by simp[cF]⟩
  generalize (((t++t6)++t7)++t8)++t9=tt at gt9 hk9 h1 h2 h3 h4 h5 ett;clear rt rc rb rx;clear gs6 gt6 gs7 gt7 gs8 gt8 gs9 tu eO hl hws htl gt;refine zH λN1 hN1=>?_
  dsimp![OF];have hpw9:=gs.out outw hpw;refine⟨.inr ⟨_,.inl hpw9⟩,small (),λp hp=>⟨cO _,λp1 lV=>?_⟩⟩;have s10:=(zE hp (.tup [V.int i,V.int j])).trans (zE lV (.lst []));have kp:upd (upd H9 p (.tup [V.int i,V.int j])) p1 (.lst []) p=some (.tup [V.int i,V.int j]):=zE lV (.lst []) _ _ zC;have kp1:upd (upd H9 p (.tup [V.int i,V.int j])) p1 (.lst []) p1=some (.lst []):=zC;have op1:=(gt9.same (zE hp (.tup [V.int i,V.int j]))).out lV;generalize upd (upd H9 p (.tup [V.int i,V.int j])) p1 (.lst [])=H10 at s10 kp kp1⊢;have hq:∃(q:Addr)(ns:List Nat),(yW kvs (xM i j)).getD (.ref p1)=.ref q/\H10 q=some (.lst (ns.map nV))/\JR g q/\(∀x∈ns,x<aT.length)/\∀r,KH H4 kvs ((i:Int),(j:Int)) r->r∈ns:=by
   cases hv:yW kvs (xM i j)with
   |none=>exact⟨p1,[],rfl,kp1,op1,(λx z=>by cases z),λr ⟨q,ns,g1,_⟩=>by rw[show yW kvs (xM (i:Int) (j:Int))=none from hv]at g1;cases g1⟩
   |some v=>
    obtain⟨kv,hkv,rfl⟩:=sM hv;obtain⟨q',ns',g1,g2,g3,g4⟩:=hwa' kv hkv;refine⟨q',ns',g1,s10 _ _ (gs.out g3 g2),g3,g4,λr ⟨q,ns,w1,w2,w3⟩=>?_⟩;rw[show yW kvs (xM (i:Int) (j:Int))=some kv.2 from hv,g1]at w1;have e1:=V.ref.inj (bR w1);subst e1;rw[g2]at w2;rw[EA (HO.lst.inj (bR w2))];exact w3
  obtain⟨qa,ns,hqa1,hqa2,hqa3,hqa4,hqa5⟩:=hq;refine⟨_,.inr ⟨_,xM i j,p,.inl (s10 _ _ hpw9),rfl,kp,rfl⟩,qa,hqa1,⟨_,dF.of hqa2⟩,?_⟩;replace gs:=gs.trans (bG.g s10);replace gt9:=gt9.same s10;clear s10 kp kp1 hp lV op1 hqa1;refine jE (xs:=ns.map nV) (λm σ H'=>∃(o1:Option V)(t':List Ln),k+1<=t'.length/\fV g H4 H'/\fV g H10 H'/\lF C H' g aC aT t'/\Le tt t'/\(∀r∈ns.take m,∀q:xJ,aT[r]?=some q->InR aC q->(∀p∈q.1,zX tt p.1 p.2=true)->zX t' q.2.1 q.2.2=true)/\σ=[some (V.ref sa),some (V.ref ra),some (V.ref g.r),some (V.ref pb),some (V.ref pw),o1,some (V.int k),some (V.int i),some (V.int j)]) ⟨_,tt,hk9,gs,bG.g (bG.refl _),gt9,Le.refl _,(λr z=>by cases z),rfl⟩ (λm σ H' _ h=>?_) (λm x σ H' hx h M hM=>?_) (λσ H' h=>?_)
  ·obtain⟨_,_,_,_,h,_⟩:=h;exact dF.of (h.out hqa3 hqa2)
  ·obtain⟨o1,t',hk',gs',gs2',gt',le',hR,rfl⟩:=h;rw[aQ]at hx;obtain⟨x',hx',rfl⟩:=bD.mp hx;dsimp![];refine⟨g,aC,aT,_,ra,gX,x',rfl,gt',gY,SS gs' _ _ hra,bA.same (SS gs') hru,hqa4 _ (aZ hx'),hpr,λH6 g6=>?_⟩;obtain⟨gs6,t6,gt6,rr⟩:=g6;refine hM _ _ ⟨_,t'++t6,by rw[aP];lia,gs'.trans gs6,gs2'.trans gs6,gt6,le'.trans ⟨t6,rfl⟩,λr hr q hq hi0 hp0=>?_,rfl⟩;obtain⟨hkl',hke⟩:=aD.mp hx';rw[aO hkl',hke]at hr;rcases bX.mp hr with hr |hr
   ·exact zY (hR r hr q hq hi0 hp0)
   ·rw[aX.mp hr]at hq;exact rr q hq hi0 λp hp=>le'.has (hp0 p hp)
  ·obtain⟨o1,t',hk',gs',gs2',gt',le',hR,rfl⟩:=h;rw[aE,aR (aJ _)]at hR;have e9:=ett.trans le';have hC':Cl aC aT (k+1) t':=hC.step e9 hlk hi hj (le'.has h1) (λm hm=>le'.has (h2 m hm)) (λm hm=>le'.has (h3 m hm)) (λn x y a b c d=>le'.has (h4 n x y a b c d)) (λa n b=>le'.has (h5 a n b)) (λr q hr hir hin' hp=>?_)
   ·refine hN1 _ _ ?_;dsimp![jm,mh];exact hM _ _ ⟨t',_,_,_,hk',gs',gt',hP.le e9,hC',by rw[Int.natCast_add];rfl⟩
   ·obtain⟨x,hx⟩:=iI hin';exact hR r (hqa5 r (hwc r q x _ hr hx (.inl (aD.mp hr).1))) q hr hir λp hpq=>ett.has (hp p hpq)
 obtain⟨o1,o2,o3,o4,t,gs,gt,hP,hC,rfl⟩:=h;obtain⟨dx,eO⟩:=gt.ins;obtain⟨ws,hl,hws⟩:=gt.lin;dsimp![wE];exact⟨_,_,_,eO,T.cl,T.nL,_,MN g,q g.la ws t _ (SS gs) hl hws gt.ok hP hC⟩
def oI(n:Nat):Nat:=n+1-2*(n % 2)
def lE(e:Bool)(n:Nat):Nat:=if e then oI n else n
def oF(aC:List Rw)(r:Rw):Option Nat:=aC.findIdx? λx=>dL (oM x) (oM r)
def xT(aC:List Rw)(r:Rw):List Rw×Nat:=match oF aC r with
 |some k=>(aC,2*k)
 |none=>(aC++[r],2*aC.length)
mutual
def num(aC:List Rw):Tm->Option Nat
 | .name x=>(oF aC (.nm x)).map (2* ·)
 | .node w ts=>if w="none" then some 0 else if w="all" then some 1 else if w="not" then(wH aC false ts).map oI else(wH aC (decide (w="either")) ts).map (lE (decide (w="either")))
def wH(aC:List Rw)(e:Bool):List Tm->Option Nat
 |[]=>none
 |t::ts=>(num aC t).bind λm=>wG aC e (lE e m) ts
def wG(aC:List Rw)(e:Bool):Nat->List Tm->Option Nat
 |m,[]=>some m
 |m,t::ts=>(num aC t).bind λn=>(oF aC (.bo (m:Int) (lE e n:Nat))).bind λk=>wG aC e (2*k) ts
end
mutual
def eI:Tm->List Rw->List Rw×Nat
 | .name x,aC=>xT aC (.nm x)
 | .node w ts,aC=>if w="none" then(aC,0)else if w="all" then(aC,1)else if w="not" then((jW false ts aC).1,oI (jW false ts aC).2)else((jW (decide (w="either")) ts aC).1,lE (decide (w="either")) (jW (decide (w="either")) ts aC).2)
def jW(e:Bool):List Tm->List Rw->List Rw×Nat
 |[],aC=>(aC,0)
 |t::ts,aC=>xA e ts (eI t aC).1 (lE e (eI t aC).2)
def xA(e:Bool):List Tm->List Rw->Nat->List Rw×Nat
 |[],aC,m=>(aC,m)
 |t::ts,aC,m=>xA e ts (xT (eI t aC).1 (.bo (m:Int) (lE e (eI t aC).2:Nat))).1 (xT (eI t aC).1 (.bo (m:Int) (lE e (eI t aC).2:Nat))).2
end
theorem UF{k:Nat}(xs:List Rw)(h:oF aC r=some k):oF (aC++xs) r=some k:=by
 unfold oF at h⊢;rw[List.findIdx?_append,h];rfl
theorem XF(h:oF aC r=none):oF (aC++[r]) r=some aC.length:=by
 unfold oF at h⊢;rw[List.findIdx?_append,h];simp[List.findIdx?_cons,xD]
theorem vG(aC:List Rw)(r:Rw):∃xs,(xT aC r).1=aC++xs:=by
 unfold xT;split
 ·exact⟨[],(cU _).symm⟩
 ·exact⟨[r],rfl⟩
theorem GP(aC:List Rw)(r:Rw):∃k,oF (xT aC r).1 r=some k/\(xT aC r).2=2*k:=by
 unfold xT;split
 ·rename_i k h
  exact⟨k,h,rfl⟩
 ·rename_i h
  exact⟨_,XF h,rfl⟩
mutual
theorem kK(aC xs:List Rw):∀(t:Tm)(n:Nat),num aC t=some n->num (aC++xs) t=some n
 | .name x,n,h=>by
   rw[num]at h⊢;obtain⟨k,hk,e⟩:=bD.mp h;rw[UF xs hk];exact cJ some e
 | .node w ts,n,h=>by
   rw[num]at h⊢;split
   ·rename_i c
    rwa[aH c]at h
   ·rename_i c
    rw[aF c]at h;split
    ·rename_i c
     rwa[aH c]at h
    ·rename_i c
     rw[aF c]at h;split
     ·rename_i c
      rw[aH c]at h;obtain⟨k,hk,e⟩:=bD.mp h;rw[AL aC xs _ ts k hk];exact cJ some e
     ·rename_i c
      rw[aF c]at h;obtain⟨k,hk,e⟩:=bD.mp h;rw[AL aC xs _ ts k hk];exact cJ some e
theorem AL(aC xs:List Rw)(e:Bool):∀(ts:List Tm)(n:Nat),wH aC e ts=some n->wH (aC++xs) e ts=some n
 |[],n,h=>by rw[wH]at h;cases h
 |t::ts,n,h=>by
  rw[wH]at h⊢;obtain⟨m,hm,h⟩:=dM.mp h;rw[kK aC xs t m hm];exact AJ aC xs e ts _ n h
theorem AJ(aC xs:List Rw)(e:Bool):∀(ts:List Tm)(m n:Nat),wG aC e m ts=some n->wG (aC++xs) e m ts=some n
 |[],m,n,h=>by rw[wG]at h⊢;exact h
 |t::ts,m,n,h=>by
  rw[wG]at h⊢;obtain⟨a,ha,h⟩:=dM.mp h;obtain⟨b,hb,h⟩:=dM.mp h;rw[kK aC xs t a ha];show(oF (aC++xs) _).bind _=_;rw[UF xs hb];exact AJ aC xs e ts _ n h
end
mutual
theorem kQ:∀(t:Tm)(aC:List Rw),∃xs,(eI t aC).1=aC++xs
 | .name x,aC=>by rw[eI];exact vG _ _
 | .node w ts,aC=>by
   rw[eI];split
   ·exact⟨[],(cU _).symm⟩
   ·split
    ·exact⟨[],(cU _).symm⟩
    ·split
     ·exact BV _ ts aC
     ·exact BV _ ts aC
theorem BV(e:Bool):∀(ts:List Tm)(aC:List Rw),∃xs,(jW e ts aC).1=aC++xs
 |[],aC=>by rw[jW];exact⟨[],(cU _).symm⟩
 |t::ts,aC=>by
  rw[jW];obtain⟨xs,hx⟩:=kQ t aC;obtain⟨ys,hy⟩:=qX e ts (eI t aC).1 (lE e (eI t aC).2);exact⟨xs++ys,by rw[hy,hx,cF]⟩
theorem qX(e:Bool):∀(ts:List Tm)(aC:List Rw)(m:Nat),∃xs,(xA e ts aC m).1=aC++xs
 |[],aC,m=>by rw[xA];exact⟨[],(cU _).symm⟩
 |t::ts,aC,m=>by
  rw[xA];obtain⟨xs,hx⟩:=kQ t aC;obtain⟨ys,hy⟩:=vG (eI t aC).1 (.bo (m:Int) (lE e (eI t aC).2:Nat));obtain⟨zs,hz⟩:=qX e ts (xT (eI t aC).1 (.bo (m:Int) (lE e (eI t aC).2:Nat))).1 (xT (eI t aC).1 (.bo (m:Int) (lE e (eI t aC).2:Nat))).2;exact⟨xs++(ys++zs),by rw[hz,hy,hx,cF,cF]⟩
end
mutual
theorem YQ:∀(t:Tm)(n:Nat)(aC:List Rw),eM n t->num (eI t aC).1 t=some (eI t aC).2
 | .name x,n,aC,_=>by
   rw[eI,num];obtain⟨k,h1,h2⟩:=GP aC (.nm x);rw[h1,h2];rfl
 | .node w ts,n,aC,h=>by
   have hf:∀t∈ts,∃m,eM m t:=λt ht=>by
    cases n with
    |zero=>unfold eM at h;rw[h.2]at ht;cases ht
    |succ n=>unfold eM at h;exact⟨n,h.2 t ht⟩
   have hs:Sh w ts.length:=by cases n<;>(unfold eM at h;exact h.1)
   rw[eI,num];split
   ·rfl
   ·split
    ·rfl
    ·rename_i c1 c2
     have hne:ts≠[]:=λz=>by
      subst z;rcases hs with h |h |h |h |h
      ·exact c1 h.1
      ·exact c2 h.1
      ·cases h.2
      ·exact absurd h.2 ()
      ·exact absurd h.2 ()
     split
     ·show(wH (jW false ts aC).1 false ts).map oI=_;rw[BS false ts aC hf hne];rfl
     ·show(wH (jW _ ts aC).1 _ ts).map _=_;rw[BS _ ts aC hf hne];rfl
theorem BS(e:Bool):∀(ts:List Tm)(aC:List Rw),(∀t∈ts,∃m,eM m t)->ts≠[]->wH (jW e ts aC).1 e ts=some (jW e ts aC).2
 |[],aC,_,h=>absurd rfl h
 |t::ts,aC,hf,_=>by
  rw[jW,wH];obtain⟨m,hm⟩:=hf t aY;obtain⟨ys,hy⟩:=qX e ts (eI t aC).1 (lE e (eI t aC).2);have h1:=BR e ts (eI t aC).1 (lE e (eI t aC).2) (λu hu=>hf u (aV _ hu));have h2:=kK _ ys t _ (YQ t m aC hm);rw[←hy]at h2;rw[h2];exact h1
theorem BR(e:Bool):∀(ts:List Tm)(aC:List Rw)(m:Nat),(∀t∈ts,∃m,eM m t)->wG (xA e ts aC m).1 e m ts=some (xA e ts aC m).2
 |[],aC,m,_=>by rw[xA,wG]
 |t::ts,aC,m,hf=>by
  obtain⟨a,ha⟩:=hf t aY;have h1:=YQ t a aC ha;obtain⟨ys,hy⟩:=vG (eI t aC).1 (.bo (m:Int) (lE e (eI t aC).2:Nat));obtain⟨k,hk,hk2⟩:=GP (eI t aC).1 (.bo (m:Int) (lE e (eI t aC).2:Nat));obtain⟨zs,hz⟩:=qX e ts (xT (eI t aC).1 (.bo (m:Int) (lE e (eI t aC).2:Nat))).1 (xT (eI t aC).1 (.bo (m:Int) (lE e (eI t aC).2:Nat))).2;have h3:=BR e ts (xT (eI t aC).1 (.bo (m:Int) (lE e (eI t aC).2:Nat))).1 (xT (eI t aC).1 (.bo (m:Int) (lE e (eI t aC).2:Nat))).2 (λu hu=>hf u (aV _ hu));rw[xA,wG];have h4:=kK _ (ys++zs) t _ h1;rw[←cF,←hy,←hz]at h4;have h5:=UF zs hk;rw[←hz]at h5;rw[h4];show(oF _ (.bo (m:Int) (lE e (eI t aC).2:Nat))).bind _=_;rw[h5];show wG _ e (2*k) ts=_;rw[←hk2];exact h3
end
structure nT(aC:List Rw):Prop where
 in_:∀(k:Nat)(i j:Int),aC[k]?=some (.bo i j)->(0<=i/\i<2*(k:Int))/\0<=j/\j<2*(k:Int)
 hd:aC[0]?=some .no
 few:∀k,aC[k]?=some .no->k=0
 nm:∀(k:Nat)(x:Str),aC[k]?=some (.nm x)->Nm x
theorem nT.pos(h:nT aC):1<=aC.length:=(aD.mp h.hd).1
theorem nT.one:nT [.no]:=by
 have o:∀(k:Nat)(r:Rw),([Rw.no]:List Rw)[k]?=some r->k=0/\r=.no:=λk r h=>by
  cases k with
  |zero=>simp at h;exact⟨rfl,h.symm⟩
  |succ k=>simp at h
 exact⟨λk i j h=>(by cases (o k _ h).2),rfl,λk h=>(o k _ h).1,λk x h=>(by cases (o k _ h).2)⟩
def i4(n:Nat):Rw->Prop
 | .no=>False
 | .nm x=>Nm x
 | .bo i j=>(0<=i/\i<2*(n:Int))/\0<=j/\j<2*(n:Int)
theorem nT.snoc(h:nT aC)(hr:i4 aC.length r):nT (aC++[r]):=by
 have o:∀(k:Nat)(q:Rw),(aC++[r])[k]?=some q->aC[k]?=some q\/(k=aC.length/\q=r):=λk q hq=>by
  by_cases c:k<aC.length
  ·rw[bN c]at hq;exact .inl hq
  ·have :=(aD.mp hq).1;rw[aP,bY]at this;have e:k=aC.length:=by lia
   subst e;rw[cP (aJ _)]at hq;simp at hq;exact .inr ⟨rfl,hq.symm⟩
 refine⟨λk i j hk=>?_,?_,λk hk=>?_,λk x hk=>?_⟩
 ·rcases o k _ hk with h1 |⟨rfl,rfl⟩
  ·exact h.in_ k i j h1
  ·exact hr
 ·rw[bN (by have :=h.pos;lia)];exact h.hd
 ·rcases o k _ hk with h1 |⟨rfl,rfl⟩
  ·exact h.few k h1
  ·exact hr.elim
 ·rcases o k _ hk with h1 |⟨rfl,rfl⟩
  ·exact h.nm k x h1
  ·exact hr
def Grw(aC:List Rw)(m:Nat)(p:List Rw×Nat):Prop:=nT p.1/\aC.length<=p.1.length/\p.1.length<=aC.length+m/\p.2<2*p.1.length
theorem OB{m:Nat}(h:n<2*m):oI n<2*m:=by unfold oI;lia
theorem YX{e:Bool}{m:Nat}(h:n<2*m):lE e n<2*m:=by
 cases e
 ·exact h
 ·exact OB h
theorem PL{k:Nat}(h:oF aC r=some k):k<aC.length:=by
 unfold oF at h;exact(gD.mp h).1
theorem tD(h:nT aC)(hr:i4 aC.length r):Grw aC 1 (xT aC r):=by
 unfold xT;split
 ·rename_i k hk
  have :=PL hk;exact⟨h,aJ _,Nat.le_succ _,by show 2*k<2*aC.length;lia⟩
 ·refine⟨h.snoc hr,?_,?_,?_⟩
  ·simp
  ·simp
  ·show 2*aC.length<2*(aC++[r]).length;rw[aP,bY];lia
mutual
theorem qK:∀(t:Tm)(n:Nat)(aC:List Rw),eM n t->nT aC->Grw aC (2*wt t-1) (eI t aC)
 | .name x,n,aC,hf,h=>by
   rw[eI,wt];exact tD h (by unfold eM at hf;exact hf)
 | .node w ts,n,aC,hf,h=>by
   have hf':∀t∈ts,∃m,eM m t:=λt ht=>by
    cases n with
    |zero=>unfold eM at hf;rw[hf.2]at ht;cases ht
    |succ n=>unfold eM at hf;exact⟨n,hf.2 t ht⟩
   have hp:=h.pos;rw[eI,wt];split
   ·exact⟨h,aJ _,by show aC.length<=_;lia,by show 0<2*aC.length;lia⟩
   ·split
    ·exact⟨h,aJ _,by show aC.length<=_;lia,by show 1<2*aC.length;lia⟩
    ·split
     ·obtain⟨h1,h2,h3,h4⟩:=BU false ts aC hf' h;exact⟨h1,h2,by show(jW false ts aC).1.length<=_;lia,OB h4⟩
     ·obtain⟨h1,h2,h3,h4⟩:=BU (decide (w="either")) ts aC hf' h;exact⟨h1,h2,by show(jW _ ts aC).1.length<=_;lia,YX h4⟩
theorem BU(e:Bool):∀(ts:List Tm)(aC:List Rw),(∀t∈ts,∃m,eM m t)->nT aC->Grw aC (2*mV ts) (jW e ts aC)
 |[],aC,_,h=>by
  rw[jW];have :=h.pos;exact⟨h,aJ _,Nat.le_add_right _ _,by show 0<2*aC.length;lia⟩
 |t::ts,aC,hf,h=>by
  rw[jW,mV];obtain⟨m,hm⟩:=hf t aY;obtain⟨a1,a2,a3,a4⟩:=qK t m aC hm h;obtain⟨b1,b2,b3,b4⟩:=JJ e ts (eI t aC).1 (lE e (eI t aC).2) (λu hu=>hf u (aV _ hu)) a1 (YX a4);have hw:=CH t;exact⟨b1,(),(),b4⟩
theorem JJ(e:Bool):∀(ts:List Tm)(aC:List Rw)(m:Nat),(∀t∈ts,∃m,eM m t)->nT aC->m<2*aC.length->Grw aC (2*mV ts) (xA e ts aC m)
 |[],aC,m,_,h,hm=>by
  rw[xA];exact⟨h,aJ _,Nat.le_add_right _ _,hm⟩
 |t::ts,aC,m,hf,h,hm=>by
  rw[xA,mV];obtain⟨n,hn⟩:=hf t aY;obtain⟨a1,a2,a3,a4⟩:=qK t n aC hn h;have a5:=YX (e:=e) a4;obtain⟨c1,c2,c3,c4⟩:=tD (r:=.bo (m:Int) (lE e (eI t aC).2:Nat)) a1 ⟨⟨(),()⟩,(),()⟩;obtain⟨b1,b2,b3,b4⟩:=JJ e ts _ _ (λu hu=>hf u (aV _ hu)) c1 c4;have hw:=CH t;exact⟨b1,(),(),b4⟩
end
abbrev j9:Stmt:=top 21
theorem sc_aa:bW ["places","row"] ["places","row"] (zK j9):=by rfl'
abbrev j6:Stmt:=top 20
theorem gu:bW ["places","row","place"] ["places","row"] (zK j6):=by rfl'
abbrev s_H:Stmt:=top 19
theorem sc_H:bW ["sheet"] ["sheet"] (zK s_H):=by rfl'
abbrev s_O:Stmt:=top 22
theorem sc_O:bW ["n","turn"] ["n","turn"] (zK s_O):=by rfl'
abbrev s_j:Stmt:=top 23
theorem sc_j:bW ["row_number","places","t"] ["row_number","places","t"] (zK s_j):=by rfl'
abbrev s_c:Stmt:=top 24
theorem LJ:bW ["row_number","places","t","turn","whole","part","last"] ["row_number","places","t"] (zK s_c):=by rfl'
theorem mj{A:Around}{k:Nat}(hr:gW k A):A.units+2<cLine:=fY (Nat.add_le_add_left (by decide:2<=64) _) hr.units
theorem YA(e:Bool)(n:Nat):Builtin.bitXor (n:Int) (if e=true then 1 else 0)=((lE e n:Nat):Int):=by
 cases e with
 |false=>exact PyProof.Rows.bitXor_zero _
 |true=>
  rw[aH rfl,QS];unfold pX lE oI;rw[aH rfl];lia
def qE:Rw->List eZ
 | .no=>[.inr "none"]
 | .nm x=>[.inr "name",.inr x]
 | .bo i j=>[.inr "both",.inl i,.inl j]
theorem AY{q:Rw}(h:qE r=qE q):r=q:=by
 cases r<;>cases q<;>simp[qE]at h⊢ <;>first |exact h |exact h.elim
theorem EY(r q:Rw):dL (oM r) (oM q)=true↔r=q:=by
 constructor
 ·intro h;cases r<;>cases q<;>simp[oM,dL,vV]at h⊢ <;>first |exact h |exact h.elim |exact absurd h.1 () |exact absurd h () |skip
 ·rintro rfl;exact xD _
def BZ:Nat->Tm->Prop
 |0,_=>False
 |n+1,t=>eM n t
theorem BZ.node{wd:Str}{ts:List Tm}(h:BZ (n+1) (.node wd ts)):Sh wd ts.length/\∀t∈ts,BZ n t:=by
 have h:eM n (.node wd ts):=h;cases n with
 |zero=>unfold eM at h;exact⟨h.1,λt ht=>by rw[h.2]at ht;cases ht⟩
 |succ n=>unfold eM at h;exact h
theorem UV(a b:Str):dL (.str a) (.str b)=decide (a=b):=by
 rw[cK,cE];simp[dL]
theorem IY(x y:V)(xs:List V):qJ (x::y::xs) (some 2) none=xs:=by
 unfold qJ;have e:HT.sIx (x::y::xs).length 0 (some 2)=2:=by
  unfold HT.sIx;simp only[bB];rw[aF ()];lia
 rw[e,HT.sIx_none,aR (by simp)];rfl
def pR:List Rw->List Addr->Nat->List XE
 |r::aC,a::as,k=>(qE r,a,V.int (k:Nat))::pR aC as (k+1)
 |_,_,_=>[]
theorem kH:∀(aC:List Rw)(as:List Addr)(k:Nat),as.length=aC.length->(pR aC as k).length=aC.length
 |[],[],_,_=>rfl
 |[],_::_,_,h=>by cases h
 |_::_,[],_,h=>by cases h
 |r::aC,a::as,k,h=>cJ (· +1) (kH aC as (k+1) (lP h))
theorem HA:∀(aC:List Rw)(as:List Addr)(k:Nat)(x:XE),x∈pR aC as k->∃(i:Nat)(r:Rw)(a:Addr),aC[i]?=some r/\as[i]?=some a/\x.1=qE r/\x.2.1=a
 |[],_,_,_,h=>by unfold pR at h;cases h
 |_::_,[],_,_,h=>by unfold pR at h;cases h
 |r::aC,a::as,k,x,h=>by
  unfold pR at h;rcases bI.mp h with rfl |h
  ·exact⟨0,r,a,rfl,rfl,rfl,rfl⟩
  ·obtain⟨i,r',a',h1,h2,h3⟩:=HA aC as (k+1) x h;exact⟨i+1,r',a',h1,h2,h3⟩
theorem kG(r:Rw):∀(aC:List Rw)(as:List Addr)(k:Nat),as.length=aC.length->kU (pR aC as k) (qE r)=(oF aC r).map λi=>V.int ((k+i:Nat):Int)
 |[],[],_,_=>rfl
 |[],_::_,_,h=>by cases h
 |_::_,[],_,h=>by cases h
 |q::aC,a::as,k,h=>by
  have ih:=kG r aC as (k+1) (lP h);unfold kU oF at ih⊢;rw[pR,eR,List.findIdx?_cons];by_cases c:q=r
  ·subst c;rw[dH rfl,xD];rfl
  ·rw[dE (λz=>c (AY z)),fN.mpr (λz=>c ((EY q r).mp z))];show Option.map _ (List.find? _ (pR aC as (k+1)))=_;rw[ih];cases List.findIdx? (λx=>dL (oM x) (oM r)) aC with
   |none=>rfl
   |some i=>show some (V.int ((k+1+i:Nat):Int))=some (V.int ((k+(i+1):Nat):Int));rw[show k+1+i=k+(i+1) by lia]
theorem tL(r:Rw)(b:Addr):∀(aC:List Rw)(as:List Addr)(k:Nat),as.length=aC.length->pR (aC++[r]) (as++[b]) k=pR aC as k++[(qE r,b,V.int ((k+aC.length:Nat):Int))]
 |[],[],k,_=>rfl
 |[],_::_,_,h=>by cases h
 |_::_,[],_,h=>by cases h
 |q::aC,a::as,k,h=>by
  show(qE q,a,V.int (k:Nat))::pR (aC++[r]) (as++[b]) (k+1)=_;rw[tL r b aC as (k+1) (lP h),show k+1+aC.length=k+(q::aC).length by rw[bB];lia];rfl
theorem tM:∀(aC:List Rw)(as:List Addr)(k:Nat),as.length=aC.length->((pR aC as k).map λx=>V.ref x.2.1)=as.map V.ref
 |[],[],_,_=>rfl
 |[],_::_,_,h=>by cases h
 |_::_,[],_,h=>by cases h
 |q::aC,a::as,k,h=>cJ (V.ref a:: ·) (tM aC as (k+1) (lP h))
structure Px(P:Program)(w:World)(K:W.Frag)(H J:Hp)(pa:Addr)(aC:List Rw)(as:List Addr):Prop where
 eq:H=upd J pa (CB P w pa (pR aC as 0))
 no:J pa=none
 len:as.length=aC.length
 few:aC.length<=40
 lo:(pa==sysModules)=false
 keys:∀(i:Nat)(r:Rw)(a:Addr),aC[i]?=some r->as[i]?=some a->Tw K J a ((qE r).map kV)
section
variable {J:Hp} {pa:Addr} {as:List Addr}
theorem Px.at(h:Px P w K H J pa aC as):H pa=some (CB P w pa (pR aC as 0)):=by rw[h.eq];exact zC
theorem Px.sub(h:Px P w K H J pa aC as):bG J H:=by rw[h.eq];exact zE h.no _
theorem Px.dx(h:Px P w K H J pa aC as):rE P w K H pa (pR aC as 0):=by
 refine⟨h.at,by rw[kH _ _ _ h.len];have :=h.few;lia,h.lo,λx hx=>?_⟩;obtain⟨i,r,a,h1,h2,h3,h4⟩:=HA aC as 0 x hx;rw[h3,h4];exact((h.keys i r a h1 h2).same h.sub).sq
theorem Px.free(h:Px P w K H J pa aC as)(hp:H p=none):J p=none:=h.sub.free hp
theorem Px.ext(h:Px P w K H J pa aC as)(e:bG H H'):∃J',Px P w K H' J' pa aC as/\bG J J':=by
 have sJ:bG J (λb=>if b=pa then none else H' b):=λb o hb=>by
  have hne:b≠pa:=λz=>by rw[z,h.no]at hb;cases hb
  show(if b=pa then none else H' b)=some o;rw[aF hne];exact e _ _ (h.sub _ _ hb)
 refine⟨λb=>if b=pa then none else H' b,⟨?_,aH rfl,h.len,h.few,h.lo,λi r a h1 h2=>(h.keys i r a h1 h2).same sJ⟩,sJ⟩
 funext b
 by_cases hb:b=pa
 ·subst hb;rw[zC];exact e _ _ h.at
 ·rw[zL hb];exact(aF hb).symm
theorem Px.tup{p:Addr}{vs:List V}(h:Px P w K H J pa aC as)(hp:H p=some (.tup vs)):J p=some (.tup vs):=by
 have hn:p≠pa:=λz=>by rw[z,h.at]at hp;cases hp
 rw[h.eq,zL hn]at hp;exact hp
theorem Px.new(h:Px P w K H J pa aC as)(hp:H p=none)(o:HO):Px P w K (upd H p o) (upd J p o) pa aC as:=by
 have hne:p≠pa:=λz=>by rw[z,h.at]at hp;cases hp
 refine⟨?_,by rw[zL (cM hne)];exact h.no,h.len,h.few,h.lo,λi r a h1 h2=>(h.keys i r a h1 h2).same (zE (h.free hp) o)⟩;rw[h.eq]
 funext b
 by_cases h1:b=p
 ·subst h1;rw[zC,zL hne,zC]
 ·rw[zL h1];by_cases h2:b=pa
  ·subst h2;rw[zC,zC]
  ·rw[zL h2,zL h2,zL h1]
end
theorem GN(r:Rw):(qE r).map kV=rwV r:=by cases r<;>rfl
def NC(gr:Bool)(aC fin:List Rw):Prop:=(gr=false->fin=aC)/\fin.length<=40
theorem NC.mid{gr:Bool}{mid fin:List Rw}(h1:∃xs,mid=aC++xs)(h2:∃ys,fin=mid++ys)(h:NC gr aC fin):NC gr aC mid/\NC gr mid fin:=by
 obtain⟨xs,rfl⟩:=h1;obtain⟨ys,rfl⟩:=h2;have hl:=h.2;rw[aP]at hl;refine⟨⟨λhg=>?_,()⟩,λhg=>?_,h.2⟩
 all_goals
  have :=cJ List.length (h.1 hg);rw[aP,aP]at this
 ·have :xs=[]:=eW.mp ();rw[this,cU]
 ·have :ys=[]:=eW.mp ();rw[this,cU]
def Fo(P:Program)(w:World)(K:W.Frag)(gr:Bool)(aC:List Rw)(J:Hp)(pa:Addr)(p:List Rw×Nat)(Q:VK):Prop:=
 NC gr aC p.1/\∀(H' J':Hp)(as':List Addr),bG J J'->Px P w K H' J' pa p.1 as'->Q (.int (p.2:Nat)) H'
inductive LB (P:Program) (w:World) (K:W.Frag) (gr:Bool) (vs:List V) (H:Hp) (Q:VK) (E:XK):Prop
 |mk (pa b:Addr) (J:Hp) (aC:List Rw) (as:List Addr) (r:Rw) (_:vs=[.ref pa,.ref b]) (_:Px P w K H J pa aC as) (_:J b=some (.tup ((qE r).map kV))) (_:Fo P w K gr aC J pa (xT aC r) Q)
inductive OL (vs:List V) (H:Hp) (Q:VK) (E:XK):Prop
 |mk (n:Nat) (e:Bool) (_:vs=[.int n,.int (if e then 1 else 0)]) (_:Q (.int (lE e n:Nat)) H)
inductive CT (P:Program) (w:World) (K:W.Frag) (gr:Bool) (ff:Addr) (n:Nat) (vs:List V) (H:Hp) (Q:VK) (E:XK):Prop
 |mk (pa:Addr) (v:V) (J:Hp) (aC:List Rw) (as:List Addr) (t:Tm) (_:vs=[.ref ff,.ref pa,v]) (_:Px P w K H J pa aC as) (_:hG J t v) (_:BZ n t) (_:Fo P w K gr aC J pa (eI t aC) Q)
inductive spJn (P:Program) (w:World) (K:W.Frag) (gr:Bool) (ff:Addr) (n:Nat) (vs:List V) (H:Hp) (Q:VK) (E:XK):Prop
 |mk (pa ta:Addr) (us:List V) (J:Hp) (aC:List Rw) (as:List Addr) (e:Bool) (ts:List Tm) (_:vs=[.ref ff,.ref pa,.ref ta]) (_:Px P w K H J pa aC as) (_:J ta=some (.tup (.str (if e then"either" else"both")::us))) (_:fD J ts us) (_:(∀t∈ts,BZ n t)) (_:ts≠[]) (_:Fo P w K gr aC J pa ((jW e ts aC).1,lE e (jW e ts aC).2) Q)
section
variable {ff:Addr} {k:Nat} {gr:Bool}
theorem LV(bi:Bi mg)(F:gL K "turned" "turned" s_O f fd):dG P w K mg base gJ 1 f fd ["n","turn"] OL:=by
 refine F.okz sc_O λfL A outer s H vs Q E hr h=>?_
 obtain⟨n,e,rfl,q⟩:=h;refine⟨_,(zG (zM (kI (zQ DJ (pv 0) vL (zO _)) vL (zU qS (pv 0) (pv 1))))),?_⟩;dsimp![];rw[aF (λz=>by cases z),YA];exact q
theorem LW(g_MOST_ROWS:Gc mg "MOST_ROWS" (.int 40))(bi:Bi mg)(F:gL K "put_in" "put_in" j9 f fd):dG P w K mg base gJ 1 f fd ["places","row"] (LB P w K true):=by
 refine F.okz sc_aa λfL A outer s H vs Q E hr h=>?_
 obtain⟨pa,b,J,aC,as,r,rfl,px,hb,hfi,q⟩:=h;refine⟨_,(zD (zZ (zQ (LS (jL hr)) (pv 1) (pv 0) (by with_unfolding_all rfl)) (zD (zZ (zQ yE (zS QK rfl bi.len yJ (zA (pv 0) zB)) (ic g_MOST_ROWS rfl) (zO _)) (zG RA) zR) (zG (RB (jL hr) (pv 0) (pv 1) (zS QK rfl bi.len yJ (zA (pv 0) zB)) rfl))) zR) (zG (zM (zU xP zF (RO (jL hr) (pv 0) (pv 1) (λ_ _=>rfl)))))),?_⟩;refine zH λN hN=>?_
 dsimp![rNiX];have hfew:=px.few;refine⟨_,px.dx,qE r,cW.of (px.sub _ _ hb),?_⟩;rw[kG r aC as 0 px.len];have fin:∀(iY:List Rw)(as':List Addr)(G:Hp)(k:Nat),Px P w K G J pa iY as'->oF iY r=some k->Q (.int ((2*k:Nat):Int)) G->N [some (V.ref pa),some (V.ref b)] G:=λiY as' G k px' hk q'=>hN _ _ (by
  dsimp![tDGX];refine⟨_,px'.dx,qE r,cW.of (px'.sub _ _ hb),V.int ((0+k:Nat):Int),by rw[kG r iY as' 0 px'.len,hk];rfl,?_⟩;refine⟨_,rfl,.inl ⟨(),()⟩,?_⟩;rw[show(2:Int)*((0+k:Nat):Int)=((2*k:Nat):Int) by lia];exact q')
 unfold xT at q hfi;cases c:oF aC r with
 |some k=>
  rw[c]at q hfi;rw[aF (show¬((Option.map (λi:Nat=>V.int ((0+i:Nat):Int)) (some k)).isSome=false)from λz=>by cases z)];exact fin aC as H k px c (q H J as (bG.refl _) px)
 |none=>
  rw[c]at q hfi;rw[aH (show(Option.map (λi:Nat=>V.int ((0+i:Nat):Int)) none).isSome=false from rfl)];refine⟨_,px.dx,rfl,?_⟩;rw[kH _ _ _ px.len];have h40:=hfi.2;rw[show(aC++[r]).length=aC.length+1 by rw[aP];rfl]at h40
  ·rw[aF ()];dsimp![sDPX];refine⟨_,px.dx,_,px.dx,qE r,cW.of (px.sub _ _ hb),by rw[kG r aC as 0 px.len,c];rfl,?_⟩;have px2:Px P w K (upd H pa (CB P w pa (pR aC as 0++[(qE r,b,V.int ((pR aC as 0).length:Nat))]))) J pa (aC++[r]) (as++[b]):=by
    refine⟨?_,px.no,by rw[aP,aP,px.len];rfl,by rw[aP,bY];lia,px.lo,λi q a h1 h2=>?_⟩
    ·rw[tL r b aC as 0 px.len,kH _ _ _ px.len,fJ,px.eq,FX]
    ·by_cases hi:i<aC.length
     ·rw[bN hi]at h1;rw[bN (by rw[px.len];exact hi)]at h2;exact px.keys i q a h1 h2
     ·have hi2:=(aD.mp h1).1;rw[aP,bY]at hi2;have ei:i=aC.length:=by lia
      subst ei;rw[cP (aJ _),iP]at h1;rw[cP (by rw[px.len];exact aJ _),px.len,iP]at h2;cases h1;cases h2;exact .inl hb
   exact fin _ _ _ _ px2 (XF c) (q _ J _ (bG.refl _) px2)
theorem SG(bi:Bi mg)(F:gL K "found" "found" j6 f fd):dG P w K mg base gJ 1 f fd ["places","row"] (LB P w K false):=by
 refine F.okz gu λfL A outer s H vs Q E hr h=>?_
 obtain⟨pa,b,J,aC,as,r,rfl,px,hb,hfi,q⟩:=h;refine⟨_,(zD (yH 2 gu.nd (cq (jL hr) (pv 0) (pv 1) ⟨rfl,rfl,rfl,rfl⟩)) (zG (zM (kI (zQ DJ (pv 2) vL (zO _)) vL (zU xP zF (pv 2)))))),?_⟩;refine zH λN hN=>?_
 dsimp![OE];refine⟨_,px.dx,_,px.dx,qE r,cW.of (px.sub _ _ hb),hN _ _ ?_⟩;clear hN;rw[kG r aC as 0 px.len];dsimp![];unfold xT at q hfi;cases c:oF aC r with
 |none=>
  rw[c]at hfi;have :=cJ List.length (hfi.1 rfl);rw[aP,bY]at this;lia
 |some k=>
  rw[c]at q;rw[aF (λz=>by cases z)];refine⟨_,rfl,.inl ⟨(),()⟩,?_⟩;rw[show(2:Int)*((0+k:Nat):Int)=((2*k:Nat):Int) by lia];exact q H J as (bG.refl _) px
end
section
variable {ff:Addr} {k:Nat} {gr:Bool}
theorem MA(eY:NA P w K mg base 1 ff ["places","row"] (LB P w K gr))(h_O:fX P w K mg base 1 "turned" ["n","turn"] OL)(h_j:fX P w K mg base (k+1) "number_by" ["row_number","places","t"] (CT P w K gr ff n))(F:gL K "joined_number" "joined_number" s_c f fd):dG P w K mg base gJ (k+2) f fd ["row_number","places","t"] (spJn P w K gr ff n):=by
 refine F.okz LJ λfL A outer s H vs Q E hr h=>?_
 obtain⟨pa,ta,us,J,aC,as,e,ts,rfl,px,hta,hts,hf,hne,hfi,q⟩:=h;refine⟨_,(zD (yH 3 LJ.nd (kI (zQ (qH hr.units) (zJ zN (pv 2) zF) zT (zO _)) zF zF)) (zD (yH 4 LJ.nd (zI h_O hr.m rfl (zA (zI h_j hr.m rfl (zA (pv 0) (zA (pv 1) (zA (zJ zN (pv 2) zF) zB)))) (zA (pv 3) zB)))) (zD (yP bM rfl (qQ (xO uU (pv 2) (jC zF) jD)) (yF 5 LJ.nd) (zD (yH 6 LJ.nd (zI h_O hr.m rfl (zA (zI h_j hr.m rfl (zA (pv 0) (zA (pv 1) (zA (pv 5) zB)))) (zA (pv 3) zB)))) (zG (yH 4 LJ.nd (tS (i:=0) eY hr.m (zA (pv 1) (zA (zP (zA zT (zA (pv 4) (zA (pv 6) zB)))) zB))))))) (zG (zM (zI h_O hr.m rfl (zA (pv 4) (zA (pv 3) zB)))))))),?_⟩;obtain⟨t0,ts',rfl⟩:∃t0 ts',ts=t0::ts':=by
  cases ts with
  |nil=>exact absurd rfl hne
  |cons t0 ts'=>exact⟨t0,ts',rfl⟩
 obtain⟨u0,us',rfl,lZ,iT⟩:=hts;rw[jW]at q hfi;obtain⟨fi1,fi2⟩:=hfi.mid (kQ t0 aC) (qX e ts' _ _);have hul:us'.length=ts'.length:=by have :=bA.length iT;rwa[aE]at this
 have htaH:=px.sub _ _ hta;refine zH λN hN=>?_
 dsimp![vC];have cont:N [some (V.ref ff),some (V.ref pa),some (V.ref ta),some (V.int (if e then 1 else 0)),none,none,none] H:=hN _ _ (by
  clear hN;refine zH λN hN=>?_
  dsimp![];refine⟨_,cW.of htaH,_,yO (j:=1) rfl,pa,u0,J,aC,as,t0,rfl,px,lZ,hf t0 aY,fi1,λH1 J1 pI s1 px1=>?_⟩;refine⟨_,e,rfl,hN _ _ ?_⟩;clear hN;generalize (eI t0 aC).1=rows1 at px1 q fi2;generalize lE e (eI t0 aC).2=m1 at q fi2⊢;refine yK (λσ G=>∃(J':Hp)(as':List Addr)(o5 o6:Option V),bG J J'/\Px P w K G J' pa (xA e ts' rows1 m1).1 as'/\σ=[some (V.ref ff),some (V.ref pa),some (V.ref ta),some (V.int (if e then 1 else 0)),some (V.int ((xA e ts' rows1 m1).2:Nat)),o5,o6]) (λN hN=>?_) (λσ G h=>?_)
  ·dsimp![tH];refine⟨_,(s1.trans px1.sub) _ _ hta,λp H2 s2 kp=>?_⟩;rw[IY]at kp;obtain⟨J2,px2,s2'⟩:=px1.ext s2;have kp2:=px2.tup kp;refine⟨⟨_,cW.of kp⟩,?_⟩;refine EQ (xs:=us') (λi σ G=>∃(J':Hp)(as':List Addr)(iY:List Rw)(mi:Nat)(o5 o6:Option V),bG J2 J'/\Px P w K G J' pa iY as'/\xA e (ts'.drop i) iY mi=xA e ts' rows1 m1/\NC gr iY (xA e ts' rows1 m1).1/\σ=[some (V.ref ff),some (V.ref pa),some (V.ref ta),some (V.int (if e then 1 else 0)),some (V.int (mi:Nat)),o5,o6]) ⟨J2,pI,rows1,m1,_,_,bG.refl _,px2,by rw[nY],fi2,rfl⟩ (λi σ G _ h=>by obtain⟨_,_,_,_,_,_,sg,pg,_⟩:=h;exact cW.of (pg.sub _ _ (sg _ _ kp2))) (λi x σ G hx h M hM=>?_) (λσ G h=>?_)
   ·obtain⟨J3,as3,iX,mi,o5,o6,s3,px3,hb3,fi3,rfl⟩:=h;obtain⟨t,hti,hx'⟩:=uE (f:=GA) iT hx;obtain⟨hil,hie⟩:=aD.mp hti;rw[fF hil,hie,xA]at hb3;have fi4:=fi3;rw[←hb3]at fi4;obtain⟨fi5,fi6⟩:=fi4.mid (mid:=(eI t iX).1) (kQ t iX) (by
     obtain⟨xs,hx⟩:=vG (eI t iX).1 (.bo (mi:Int) (lE e (eI t iX).2:Nat));obtain⟨ys,hy⟩:=qX e (ts'.drop (i+1)) (xT (eI t iX).1 (.bo (mi:Int) (lE e (eI t iX).2:Nat))).1 (xT (eI t iX).1 (.bo (mi:Int) (lE e (eI t iX).2:Nat))).2;exact⟨xs++ys,by rw[←cF,←hx];exact hy⟩)
    obtain⟨fi7,fi8⟩:=fi6.mid (vG _ _) (qX e (ts'.drop (i+1)) (xT (eI t iX).1 (.bo (mi:Int) (lE e (eI t iX).2:Nat))).1 (xT (eI t iX).1 (.bo (mi:Int) (lE e (eI t iX).2:Nat))).2);rw[hb3]at fi8;clear fi4 fi6;have sA:=s1.trans (s2'.trans s3);refine zH λN hN=>?_
    dsimp![];refine⟨pa,x,J3,iX,as3,t,rfl,px3,dD.same sA hx',hf t (aV _ (aZ hti)),fi5,λH4 J4 as4 s4 px4=>?_⟩;refine⟨_,e,rfl,hN _ _ ?_⟩;clear hN;generalize (eI t iX).1=rows4 at px4 hb3 fi7 fi8;generalize lE e (eI t iX).2=m4 at hb3 fi7 fi8⊢;dsimp![QX];refine⟨small (),λp2 hp2=>?_⟩;have px5:=px4.new hp2 (.tup [V.str "both",V.int (mi:Int),V.int (m4:Int)]);have s5:=zE (px4.free hp2) (.tup [V.str "both",V.int (mi:Int),V.int (m4:Int)]);have k5:upd J4 p2 (.tup [V.str "both",V.int (mi:Int),V.int (m4:Int)]) p2=some (.tup ((qE (.bo (mi:Int) (m4:Int))).map kV)):=zC;refine⟨pa,p2,_,rows4,as4,.bo (mi:Int) (m4:Int),rfl,px5,k5,fi7,λH6 J6 as6 s6 px6=>?_⟩;exact hM _ _ ⟨J6,as6,_,_,_,_,s3.trans (s4.trans (s5.trans s6)),px6,hb3,fi8,rfl⟩
   ·obtain⟨J3,as3,iX,mi,o5,o6,s3,px3,hb3,fi3,rfl⟩:=h;rw[hul,List.drop_length,xA]at hb3;refine hN _ _ ⟨J3,as3,o5,o6,s1.trans (s2'.trans s3),?_,?_⟩
    ·rw[←hb3];exact px3
    ·rw[←hb3]
  obtain⟨J',as',o5,o6,sJ,px',rfl⟩:=h;dsimp![];exact⟨_,e,rfl,q _ J' as' sJ px'⟩)
 cases e with
 |true=>exact⟨_,cW.of htaH,_,iG,0,.str "either",rfl,.str "either",rfl,trivial,(),by rw[xD,aH rfl];exact cont⟩
 |false=>exact⟨_,cW.of htaH,_,iG,0,.str "both",rfl,.str "either",rfl,trivial,(),by rw[show dL (.str "both") (.str "either")=false from by simp[dL];decide,aF ()];exact cont⟩
theorem LZ(eY:NA P w K mg base 1 ff ["places","row"] (LB P w K gr))(h_O:fX P w K mg base 1 "turned" ["n","turn"] OL)(h_j:fX P w K mg base (k+2) "number_by" ["row_number","places","t"] (CT P w K gr ff n))(h_c:fX P w K mg base (k+2) "joined_number" ["row_number","places","t"] (spJn P w K gr ff n))(F:gL K "number_by" "number_by" s_j f fd):dG P w K mg base gJ (k+3) f fd ["row_number","places","t"] (CT P w K gr ff (n+1)):=by
 refine F.okz sc_j λfL A outer s H vs Q E hr h=>?_
 obtain⟨pa,v,J,aC,as,t,rfl,px,hv,hf,hfi,q⟩:=h;refine⟨_,(zD (zZ (zQ (qH hr.units) (zJ zN (pv 2) zF) zT (zO _)) (zG (zM zF)) zR) (zD (zZ (zQ (qH hr.units) (zJ zN (pv 2) zF) zT (zO _)) (zG (zM zF)) zR) (zD (zZ (zQ (qH hr.units) (zJ zN (pv 2) zF) zT (zO _)) (zG (zM (tS (i:=0) eY hr.m (zA (pv 1) (zA (zP (zA zT (zA (zJ zN (pv 2) zF) zB))) zB))))) zR) (zD (zZ (zQ (qH hr.units) (zJ zN (pv 2) zF) zT (zO _)) (zG (zM (zI h_O hr.m rfl (zA (zI h_j hr rfl (zA (pv 0) (zA (pv 1) (zA (zJ zN (pv 2) zF) zB)))) (zA zF zB))))) zR) (zG (zM (zI h_c hr.m rfl (zA (pv 0) (zA (pv 1) (zA (pv 2) zB)))))))))),?_⟩;cases t with
 |name x=>
  obtain⟨a,vs,rfl,ha,u1,r1,rfl,h1,u2,r2,rfl,h2,h3⟩:=hv;have h1:u1=.str "name":=h1;have h2:u2=.str x:=h2;have h3:r2=[]:=h3;subst h1 h2 h3;replace ha:=px.sub _ _ ha;dsimp![vC,QX];rw[eI]at q hfi;refine⟨_,cW.of ha,_,iG,0,.str "name",rfl,.str "none",rfl,trivial,(),?_⟩;rw[UV,aF ()];refine⟨_,cW.of ha,_,iG,0,.str "name",rfl,.str "all",rfl,trivial,(),?_⟩;rw[UV,aF ()];refine⟨_,cW.of ha,_,iG,0,.str "name",rfl,.str "name",rfl,trivial,(),?_⟩;rw[UV,aH ()];refine⟨_,cW.of ha,_,nK,small (),λp2 hp2=>?_⟩;have px5:=px.new hp2 (.tup [V.str "name",V.str x]);have s5:=zE (px.free hp2) (.tup [V.str "name",V.str x]);have k5:upd J p2 (.tup [V.str "name",V.str x]) p2=some (.tup ((qE (.nm x)).map kV)):=zC;exact⟨pa,p2,_,aC,as,.nm x,rfl,px5,k5,hfi,λH6 J6 as6 s6 px6=>q H6 J6 as6 (s5.trans s6) px6⟩
 |node wd ts=>
  obtain⟨a,vs,rfl,ha,u1,us,rfl,h1,iT⟩:=hv;have h1:u1=.str wd:=h1;subst h1;obtain⟨hs,hfs⟩:=hf.node;have haH:=px.sub _ _ ha;have step:∀{c:Str}{A B:Prop},(wd=c->A)->(wd≠c->B)->∃x,cW K H a x/\∃x_1,oO x 0=some x_1/\∃n_1 d,dD H d x_1/\∃x,dD H x (V.str c)/\gI (n_1+1) d/\n_1<=60/\if dL d x=true then A else B:=λ{c A B} h1 h2=>by
   refine⟨_,cW.of haH,_,iG,0,.str wd,rfl,.str c,rfl,trivial,(),?_⟩;rw[UV];by_cases e:wd=c
   ·rw[aH (dH e)];exact h1 e
   ·rw[aF (by simp[e])];exact h2 e
  dsimp![vC,QX];rw[eI]at q hfi;refine step (λe=>?_) (λe1=>step (λe=>?_) (λe2=>step (λe=>?_) (λe3=>step (λe=>?_) (λe4=>?_))))
  ·rw[aH e]at q;exact q H J as (bG.refl _) px
  ·rw[aF e1,aH e]at q;exact q H J as (bG.refl _) px
  ·subst e;rcases hs with h |h |h |h |h<;>exact absurd h.1 ()
  ·subst e;rw[aF e1,aF e2,aH rfl]at q hfi;have hl:ts.length=1:=by
    rcases hs with h |h |h |h |h
    ·exact absurd h.1 ()
    ·exact absurd h.1 ()
    ·exact h.2
    ·exact absurd h.1 ()
    ·exact absurd h.1 ()
   obtain⟨t,rfl⟩:∃t,ts=[t]:=by
    cases ts with
    |nil=>simp at hl
    |cons t r=>
     cases r with
     |nil=>exact⟨t,rfl⟩
     |cons _ _=>simp at hl
   obtain⟨u,r,rfl,hu,_⟩:=iT;rw[jW,xA]at q hfi;exact⟨_,cW.of haH,_,yO (j:=1) rfl,pa,u,J,aC,as,t,rfl,px,hu,hfs t aY,hfi,λH6 J6 as6 s6 px6=>⟨_,true,rfl,q H6 J6 as6 s6 px6⟩⟩
  ·rw[aF e1,aF e2,aF e4]at q hfi;refine⟨pa,a,us,J,aC,as,decide (wd="either"),ts,rfl,px,?_,(by rw[YU]at iT;exact iT),hfs,λz=>?_,hfi,q⟩
   ·rw[ha];rcases hs with h |h |h |h |h
    ·exact absurd h.1 e1
    ·exact absurd h.1 e2
    ·exact absurd h.1 e4
    ·rw[h.1];rfl
    ·rw[h.1];rfl
   ·subst z;rcases hs with h |h |h |h |h
    ·exact absurd h.1 e1
    ·exact absurd h.1 e2
    ·exact absurd h.1 e4
    ·exact absurd h.2 ()
    ·exact absurd h.2 ()
theorem DQ(F:gL K "number_by" "number_by" s_j f fd)(eY:NA P w K mg base 1 ff ["places","row"] (LB P w K gr))(h_O:fX P w K mg base 1 "turned" ["n","turn"] OL):dG P w K mg base gJ 1 f fd ["row_number","places","t"] (CT P w K gr ff 0):=by
 refine F.okz sc_j λfL A outer s H vs Q E hr h=>?_
 ·obtain⟨pa,v,J,aC,as,t,rfl,px,hv,hf,_⟩:=h;exact hf.elim
theorem wW{g:Addr}{gd:FuncData}(eY:NA P w K mg base 1 ff ["places","row"] (LB P w K gr))(h_O:fX P w K mg base 1 "turned" ["n","turn"] OL)(F:gL K "number_by" "number_by" s_j f fd)(b:Binds K fd ["row_number","places","t"] [])(m:mg "number_by"=some (.ref f))(G:gL K "joined_number" "joined_number" s_c g gd)(bg:Binds K gd ["row_number","places","t"] [])(mgg:mg "joined_number"=some (.ref g)):∀n,fX P w K mg base (2*n+2) "number_by" ["row_number","places","t"] (CT P w K gr ff n)
 |0=>(zW F (DQ F eY h_O) b m).mono ()
 |n+1=>by
  have ih:=wW eY h_O F b m G bg mgg n;have hj:=zW G (MA (k:=2*n+1) eY h_O ih G) bg mgg;exact zW F (LZ (k:=2*n+1) eY h_O (ih.mono ()) hj F) b m
end
abbrev s_P:Stmt:=top 25
theorem jz:bW ["terms","places","t"] ["terms"] (zK s_P):=by rfl'
def xK:List Tm->List Rw->List Rw
 |[],aC=>aC
 |t::ts,aC=>xK ts (eI t aC).1
theorem JI:∀(ts:List Tm)(aC:List Rw),∃xs,xK ts aC=aC++xs
 |[],aC=>⟨[],(cU _).symm⟩
 |t::ts,aC=>by
  obtain⟨xs,hx⟩:=kQ t aC;obtain⟨ys,hy⟩:=JI ts (eI t aC).1;exact⟨xs++ys,by rw[xK,hy,hx,cF]⟩
inductive spSo (K:W.Frag) (vs:List V) (H:Hp) (Q:VK) (E:XK):Prop
 |mk (ta:Addr) (us:List V) (ts:List Tm) (_:vs=[.ref ta]) (_:H ta=some (.lst us)) (_:fD H ts us) (_:(∀t∈ts,BZ 21 t)) (_:(xK ts [.no]).length<=40) (_:∀(p:Addr)(ws:List V)(H':Hp),bG H H'->H' p=some (.lst ws)->fP K H' (xK ts [.no]) ws->Q (.ref p) H')
theorem PF{K:W.Frag}{H:Hp}:∀(aC:List Rw)(as:List Addr),as.length=aC.length->(∀(i:Nat)(r:Rw)(a:Addr),aC[i]?=some r->as[i]?=some a->Tw K H a ((qE r).map kV))->fP K H aC (as.map V.ref)
 |[],[],_,_=>rfl
 |[],_::_,h,_=>by cases h
 |_::_,[],h,_=>by cases h
 |r::aC,a::as,h,hk=>⟨_,_,rfl,⟨a,rfl,by rw[←GN];exact hk 0 r a rfl rfl⟩,PF aC as (lP h) λi r' a' h1 h2=>hk (i+1) r' a' h1 h2⟩
section
variable {ff aN:Addr}
theorem tY(g_NONE_ROW:Gc mg "NONE_ROW" (.ref aN))(hNo:∀H,Tw K H aN [.str "none"])(mf_put_in:mg "put_in"=some (.ref ff))(bi:Bi mg)(h_j:fX P w K mg base 44 "number_by" ["row_number","places","t"] (CT P w K true ff 21))(F:gL K "sheet_of" "sheet_of" s_P f fd):dG P w K mg base gJ 45 f fd ["terms"] (spSo K):=by
 refine F.okz jz λfL A outer s H vs Q E hr h=>?_
 obtain⟨ta,us,ts,rfl,hta,hts,hf,hb40,q⟩:=h;have hul:us.length=ts.length:=by have :=bA.length hts;rwa[aE]at this
 refine⟨_,(zD (yH 1 jz.nd (RN (jL hr) (ic g_NONE_ROW rfl) zF)) (zD (yP bM rfl (yV (pv 0)) (yF 2 jz.nd) (zG (yD (zI h_j hr.m rfl (zA (DD mf_put_in rfl) (zA (pv 1) (zA (pv 2) zB))))))) (zG (zM (RM rfl bi.list rfl (pv 1)))))),?_⟩;refine zH λN hN=>?_
 dsimp![tDX1];refine λpa hpa hlo=>⟨qE .no,(hNo _).sq,zC,hN _ _ ?_⟩
 clear hN;have px0:Px P w K (upd (upd H pa (CB P w pa [])) pa (CB P w pa [(qE .no,aN,V.int 0)])) H pa [.no] [aN]:=by
  refine⟨by rw[FX];rfl,hpa,rfl,(),hlo,λi r a h1 h2=>?_⟩;cases i with
  |zero=>cases h1;cases h2;exact hNo _
  |succ i=>cases h1
 generalize upd (upd H pa (CB P w pa [])) pa (CB P w pa [(qE .no,aN,V.int 0)])=H0 at px0⊢;refine yK (λσ G=>∃(J:Hp)(as:List Addr)(o2:Option V),bG H J/\Px P w K G J pa (xK ts [.no]) as/\σ=[some (V.ref ta),some (V.ref pa),o2]) (λN hN=>?_) (λσ G h=>?_)
 ·dsimp![];refine⟨⟨_,dF.of (px0.sub _ _ hta)⟩,?_⟩;refine jE (xs:=us) (λi σ G=>∃(J:Hp)(as:List Addr)(aC:List Rw)(o2:Option V),bG H J/\Px P w K G J pa aC as/\xK (ts.drop i) aC=xK ts [.no]/\σ=[some (V.ref ta),some (V.ref pa),o2]) ⟨H,_,_,_,bG.refl _,px0,by rw[nY],rfl⟩ (λi σ G _ h=>by obtain⟨_,_,_,_,sg,pg,_⟩:=h;exact dF.of (pg.sub _ _ (sg _ _ hta))) (λi x σ G hx h M hM=>?_) (λσ G h=>?_)
  ·obtain⟨J,as,aC,o2,sJ,px,hb,rfl⟩:=h;obtain⟨t,hti,hx'⟩:=uE (f:=GA) hts hx;obtain⟨hil,hie⟩:=aD.mp hti;rw[fF hil,hie,xK]at hb;dsimp![];refine⟨pa,x,J,aC,as,t,rfl,px,dD.same sJ hx',hf t (aZ hti),⟨(λz=>by cases z),by obtain⟨ys,hy⟩:=JI (ts.drop (i+1)) (eI t aC).1;rw[←hb,hy,aP]at hb40;lia⟩,λH1 J1 pI s1 px1=>?_⟩;exact hM _ _ ⟨J1,pI,_,_,sJ.trans s1,px1,hb,rfl⟩
  ·obtain⟨J,as,aC,o2,sJ,px,hb,rfl⟩:=h;rw[hul,List.drop_length,xK]at hb;exact hN _ _ ⟨J,as,o2,sJ,by rw[←hb];exact px,rfl⟩
 obtain⟨J,as,o2,sJ,px,rfl⟩:=h;dsimp![tLX];refine⟨_,px.dx,λl hl=>?_⟩;rw[tM _ _ _ px.len];have sl:=zE hl (.lst (as.map V.ref));exact q l _ _ (sJ.trans (px.sub.trans sl)) zC (PF _ _ px.len λi r a h1 h2=>(px.keys i r a h1 h2).same (px.sub.trans sl))
end
abbrev s_N:Stmt:=top 13
theorem bq:bW ["book","saying","terms","rule","premise"] ["book","saying"] (zK s_N):=by rfl'
abbrev mS:=List (Tm×Tm)×(Tm×Tm)
def iV(p:Tm×Tm):List Tm:=[p.1,p.2]
def jO(ps:List (Tm×Tm)):List Tm:=ps.flatMap iV
def NI(r:mS):List Tm:=jO r.1++iV r.2
def iJ(rs:List mS):List Tm:=rs.flatMap NI
theorem KW{ps:List (Tm×Tm)}{p:Tm×Tm}(h:ps[i]?=some p):jO (ps.take (i+1))=jO (ps.take i)++iV p:=by
 obtain⟨il,ie⟩:=aD.mp h;unfold jO;rw[aO il,ie,nG];simp
theorem sP{rs:List mS}{r:mS}(h:rs[i]?=some r):iJ (rs.take (i+1))=iJ (rs.take i)++NI r:=by
 obtain⟨il,ie⟩:=aD.mp h;unfold iJ;rw[aO il,ie,nG];simp
theorem KZ(rs:List mS)(i:Nat):(iJ (rs.take i)).length<=(iJ rs).length:=by
 have :iJ rs=iJ (rs.take i)++iJ (rs.drop i):=by
  unfold iJ;rw[←nG,dW]
 rw[this,aP];lia
theorem CP(ps:List (Tm×Tm))(i:Nat):(jO (ps.take i)).length<=(jO ps).length:=by
 have :jO ps=jO (ps.take i)++jO (ps.drop i):=by
  unfold jO;rw[←nG,dW]
 rw[this,aP];lia
abbrev iK(H:Hp)(rs:List mS)(vs:List V):Prop:=bA H (rs.map ZS) vs
theorem iK.length{rs:List mS}{vs:List V}(h:iK H rs vs):vs.length=rs.length:=by
 have :=bA.length h;rw[aE]at this;exact this
theorem iK.getV{rs:List mS}{vs:List V}(h:iK H rs vs)(hv:vs[i]?=some v):∃r,rs[i]?=some r/\i5 H r v:=by
 have hi:i<rs.length:=by rw[←h.length];exact(aD.mp hv).1
 obtain⟨u,h1,h2⟩:=bA.get (d:=ZS rs[i]) h (by rw[aQ,aA hi];rfl);rw[hv]at h1;cases h1;exact⟨_,aA hi,h2⟩
theorem oW.two{p:Tm×Tm}(h:oW H p v):∃a us,v=.ref a/\H a=some (.tup us)/\fD H (iV p) us/\us.length=2:=by
 obtain⟨a,v1,v2,e1,e2,e3,e4⟩:=oW.out h;exact⟨a,_,e1,e2,⟨v1,_,rfl,e3,v2,_,rfl,e4,rfl⟩,rfl⟩
theorem kA{o:HO}(e:bG H H')(hp:H p=none):bG H (upd H' p o):=e.upd hp
inductive spTI (vs:List V) (H:Hp) (Q:VK) (E:XK):Prop
 |mk (a:Addr) (sv:V) (bs:List V) (rs:List mS) (s:Tm×Tm) (_:vs=[.ref a,sv]) (_:H a=some (.lst bs)) (_:iK H rs bs) (_:oW H s sv) (_:(iJ rs).length<=1000) (_:∀p us H',bG H H'->H' p=some (.lst us)->fD H' (iJ rs++iV s) us->Q (.ref p) H')
theorem tX(bi:Bi mg)(F:gL K "terms_in" "terms_in" s_N f fd):dG P w K mg base gJ 1 f fd ["book","saying"] spTI:=by
 refine F.okz bq λfL A outer s H vs Q E hr h=>?_
 obtain⟨a,sv,bs,rs,s,rfl,ha,hr',hs,hz,q⟩:=h;have hbl:=hr'.length;refine⟨_,(zD (yH 2 bq.nd (xF zB)) (zD (yP bM rfl (yV (pv 0)) (yF 3 bq.nd) (zD (yP bM rfl (yV (zJ zN (pv 3) zF)) (yF 4 bq.nd) (zG (yD (uD cR iZ oS wR (pv 2) (zA (pv 4) zB))))) (zG (yD (uD cR iZ oS wR (pv 2) (zA (zJ zN (pv 3) zF) zB)))))) (zD (yD (uD cR iZ oS wR (pv 2) (zA (pv 1) zB))) (zG (zM (pv 2)))))),?_⟩;refine zH λN hN=>?_
 dsimp![];refine⟨small (),λp hp=>hN _ _ ?_⟩;refine yK (λσ H'=>bG H H'/\(∃us,H' p=some (.lst us)/\fD H (iJ rs) us)/\∃o1 o2,σ=[some (V.ref a),some sv,some (V.ref p),o1,o2]) (λN hN=>?_) (λσ H' h=>?_)
 ·dsimp![];refine⟨⟨_,dF.of (zE hp _ _ _ ha)⟩,?_⟩;refine jE (xs:=bs) (λi σ H'=>bG H H'/\(∃us,H' p=some (.lst us)/\fD H (iJ (rs.take i)) us)/\∃o1 o2,σ=[some (V.ref a),some sv,some (V.ref p),o1,o2]) ?_ (λi σ H' _ h=>dF.of (h.1 _ _ ha)) (λi x σ H' hx h M hM=>?_) (λσ H' h=>?_)
  ·exact⟨zE hp _,⟨[],zC,rfl⟩,_,_,rfl⟩
  ·obtain⟨es,⟨us,iT,hut⟩,o1,o2,rfl⟩:=h;obtain⟨r,hri,hx'⟩:=hr'.getV hx;obtain⟨ra,l,sv2,vs,rfl,hra,hl,hps,hs2⟩:=i5.out hx';have hln:vs.length=r.1.length:=rD.length hps;have hb1:=KZ rs (i+1);rw[sP hri,aP]at hb1;have hb2:(NI r).length=(jO r.1).length+2:=by unfold NI;rw[aP];rfl
   show LA _ _ _ _ _;refine yK (λσ H'=>bG H H'/\(∃us,H' p=some (.lst us)/\fD H (iJ (rs.take i)++jO r.1) us)/\∃o2,σ=[some (V.ref a),some sv,some (V.ref p),some (V.ref ra),o2]) (λN hN=>?_) (λσ H' h=>?_)
   ·dsimp![];refine⟨_,cW.of (es _ _ hra),.ref l,iG,_,rfl,⟨_,dF.of (es _ _ hl)⟩,?_⟩;refine jE (xs:=vs) (λj σ H'=>bG H H'/\(∃us,H' p=some (.lst us)/\fD H (iJ (rs.take i)++jO (r.1.take j)) us)/\∃o2,σ=[some (V.ref a),some sv,some (V.ref p),some (V.ref ra),o2]) ?_ (λj σ H' _ h=>dF.of (h.1 _ _ hl)) (λj y σ H' hy h M2 hM2=>?_) (λσ H' h=>?_)
    ·exact⟨es,⟨us,iT,by simpa[jO]using hut⟩,_,rfl⟩
    ·obtain⟨es,⟨us,iT,hut⟩,o2,rfl⟩:=h;obtain⟨pr,hpi,hy'⟩:=rD.getV hps hy;obtain⟨sa,ws,rfl,hsa,hws,hw2⟩:=oW.two hy';have hlu:=hut.length;have hb3:=CP r.1 j;rw[aP]at hlu;dsimp![kE];refine⟨.inl ⟨rfl,_,dF.of iT⟩,_,iT,_,cW.of (es _ _ hsa),dI (m:=1000000) () (),?_⟩;refine hM2 _ _ ⟨kA es hp,⟨_,zC,?_⟩,_,rfl⟩;rw[KW hpi,←cF];exact fD.append hut hws
    ·obtain⟨es,⟨us,iT,hut⟩,o2,rfl⟩:=h;rw[show r.1.take vs.length=r.1 from aR ()]at hut;exact hN _ _ ⟨es,⟨us,iT,hut⟩,_,rfl⟩
   ·obtain⟨es,⟨us,iT,hut⟩,o2,rfl⟩:=h;obtain⟨sa,ws,rfl,hsa,hws,hw2⟩:=oW.two hs2;have hlu:=hut.length;rw[aP]at hlu;dsimp![kE];refine⟨.inl ⟨rfl,_,dF.of iT⟩,_,cW.of (es _ _ hra),.ref sa,nK,sa,rfl,_,iT,_,cW.of (es _ _ hsa),dI (m:=1000000) () (),?_⟩;refine hM _ _ ⟨kA es hp,⟨_,zC,?_⟩,_,_,rfl⟩;rw[sP hri];unfold NI;rw[←cF];exact fD.append hut hws
  ·obtain⟨es,⟨us,iT,hut⟩,o1,o2,rfl⟩:=h;rw[aR ()]at hut;exact hN _ _ ⟨es,⟨us,iT,hut⟩,_,_,rfl⟩
 ·obtain⟨es,⟨us,iT,hut⟩,o1,o2,rfl⟩:=h;obtain⟨sa,ws,rfl,hsa,hws,hw2⟩:=oW.two hs;have hlu:=hut.length;refine zH λN hN=>?_
  dsimp![kE];refine⟨.inl ⟨rfl,_,dF.of iT⟩,_,iT,_,cW.of (es _ _ hsa),dI (m:=1000000) () (),hN _ _ ?_⟩;dsimp![];exact q p _ _ (kA es hp) zC (bA.same (kA es hp) (fD.append hut hws))
abbrev s_V:Stmt:=top 26
theorem sc_V:bW ["places","saying"] ["places","saying"] (zK s_V):=by rfl'
abbrev s_r:Stmt:=top 27
theorem sc_r:bW ["places","rule"] ["places","rule"] (zK s_r):=by rfl'
abbrev s_S:Stmt:=top 28
theorem sc_S:bW ["sheet","book","places"] ["sheet","book"] (zK s_S):=by rfl'
theorem GK{K:W.Frag}{H:Hp}:∀(aC:List Rw)(us:List V),fP K H aC us->∃as:List Addr,us=as.map V.ref/\as.length=aC.length/\∀(i:Nat)(r:Rw)(a:Addr),aC[i]?=some r->as[i]?=some a->Tw K H a ((qE r).map kV)
 |[],us,h=>⟨[],h,rfl,λi r a h=>by simp at h⟩
 |r::aC,us,⟨v,vs,e1,⟨a,e2,e3⟩,e4⟩=>by
  obtain⟨as,g1,g2,g3⟩:=GK aC vs e4;subst e1 e2 g1;refine⟨a::as,rfl,cJ (· +1) g2,λi r' a' h1 h2=>?_⟩;cases i with
  |zero=>cases h1;cases h2;rw[GN];exact e3
  |succ i=>exact g3 i r' a' (by simpa using h1) (by simpa using h2)
theorem HB:∀(aC:List Rw)(as:List Addr)(k i:Nat)(x:XE),(pR aC as k)[i]?=some x->∃r a,aC[i]?=some r/\as[i]?=some a/\x=(qE r,a,V.int ((k+i:Nat):Int))
 |[],_,_,_,_,h=>by unfold pR at h;simp at h
 |_::_,[],_,_,_,h=>by unfold pR at h;simp at h
 |r::aC,a::as,k,0,x,h=>by cases h;exact⟨r,a,rfl,rfl,rfl⟩
 |r::aC,a::as,k,i+1,x,h=>by
  obtain⟨r',a',h1,h2,h3⟩:=HB aC as (k+1) i x (by simpa[pR]using h);exact⟨r',a',by simpa using h1,by simpa using h2,by rw[h3,show k+1+i=k+(i+1) by lia]⟩
theorem tN:∀(aC:List Rw)(as:List Addr)(k:Nat),as.length=aC.length->(pR aC as k).map (·.1)=aC.map qE
 |[],[],_,_=>rfl
 |[],_::_,_,h=>by cases h
 |_::_,[],_,h=>by cases h
 |q::aC,a::as,k,h=>cJ (qE q:: ·) (tN aC as (k+1) (lP h))
inductive jq (P:Program) (w:World) (K:W.Frag) (vs:List V) (H:Hp) (Q:VK) (E:XK):Prop
 |mk (sa:Addr) (us:List V) (aC:List Rw) (_:vs=[.ref sa]) (_:H sa=some (.lst us)) (_:fP K H aC us) (_:aC.Nodup) (_:aC.length<=40) (_:∀pa as J H',bG H J->Px P w K H' J pa aC as->Q (.ref pa) H')
def nS(aC:List Rw)(s:Tm×Tm):Pr:=(((eI s.1 aC).2:Nat),((eI s.2 aC).2:Nat))
def nR(aC:List Rw)(r:List (Tm×Tm)×(Tm×Tm)):xJ:=(r.1.map (nS aC),nS aC r.2)
def i7(aC:List Rw)(t:Tm):Prop:=eM 20 t/\(eI t aC).1=aC
def WG(aC:List Rw)(s:Tm×Tm):Prop:=i7 aC s.1/\i7 aC s.2
def ou(aC:List Rw)(r:List (Tm×Tm)×(Tm×Tm)):Prop:=r.1.length<=5/\(∀s∈r.1,WG aC s)/\WG aC r.2
inductive jt (P:Program) (w:World) (K:W.Frag) (vs:List V) (H:Hp) (Q:VK) (E:XK):Prop
 |mk (pa:Addr) (v:V) (aC:List Rw) (as:List Addr) (s:Tm×Tm) (J:Hp) (_:vs=[.ref pa,v]) (_:Px P w K H J pa aC as) (_:oW J s v) (_:WG aC s) (_:∀p J' H' as',bG J J'->Px P w K H' J' pa aC as'->J' p=some (.tup [.int (nS aC s).1,.int (nS aC s).2])->Q (.ref p) H')
inductive spNr (P:Program) (w:World) (K:W.Frag) (vs:List V) (H:Hp) (Q:VK) (E:XK):Prop
 |mk (pa:Addr) (v:V) (aC:List Rw) (as:List Addr) (r:List (Tm×Tm)×(Tm×Tm)) (J:Hp) (_:vs=[.ref pa,v]) (_:Px P w K H J pa aC as) (_:i5 J r v) (_:ou aC r) (_:∀v' J' H' as',bG J J'->Px P w K H' J' pa aC as'->dD J' (IX (nR aC r)) v'->Q v' H')
inductive spNm (K:W.Frag) (vs:List V) (H:Hp) (Q:VK) (E:XK):Prop
 |mk (sa ba:Addr) (us bs:List V) (aC:List Rw) (b:List (List (Tm×Tm)×(Tm×Tm))) (_:vs=[.ref sa,.ref ba]) (_:H sa=some (.lst us)) (_:fP K H aC us) (_:aC.Nodup) (_:aC.length<=40) (_:H ba=some (.lst bs)) (_:iK H b bs) (_:b.length<=100) (_:(∀r∈b,ou aC r)) (_:∀p ws H',bG H H'->H' p=some (.lst ws)->bA H' ((b.map (nR aC)).map IX) ws->Q (.ref p) H')
section
variable {ff:Addr}
theorem LX(bi:Bi mg)(be:mg "enumerate"=none)(F:gL K "places_of" "places_of" s_H f fd):dG P w K mg base gJ 1 f fd ["sheet"] (jq P w K):=by
 refine F.okz sc_H λfL A outer s H vs Q E hr h=>?_
 obtain⟨sa,us,aC,rfl,hsa,hrw,hnd,hrl,q⟩:=h;obtain⟨bs,rfl,hbl,hbk⟩:=GK _ _ hrw;refine⟨_,(zG (zM (jJ (BN (mj hr)) rfl bi.dict KA (zA (yZ ["k","row"] [] [] (uX rfl be (zA (pv 0) zB)) (λ_ _ _ _ nd=>YI (K:=K) (n:=2) rfl (zV (yF 0 nd) (zV (yF 1 nd) yY))) (λ_ _ _ _=>yU) (λ_ _ _ _=>(zP (zA (pv 1) (zA (pv 0) zB))))) zB)))),?_⟩;dsimp![ZO];refine⟨_,hsa,?_⟩;refine HV (xs:=bs.map V.ref) (λi ys σ H'=>bG H H'/\(∃as:List Addr,ys=as.map V.ref/\as.length=i/\∀(j:Nat)(a b:Addr),as[j]?=some a->bs[j]?=some b->H' a=some (.tup [.ref b,.int (j:Nat)]))/\∃o1 o2,σ=[o1,o2]) ⟨bG.refl _,⟨[],rfl,rfl,λj a r h=>by simp at h⟩,_,_,rfl⟩ (small (by rw[aE];lia)) (λi ys σ H' e=>?_) (λi ys σ H' e=>e.1 _ _ hsa) (λi x ys σ H' p C hx e hp hC=>?_) (λys σ H' e p hp=>?_)
 ·obtain⟨_,⟨as,rfl,h1,_⟩,_⟩:=e;rw[aE,h1];exact aJ _
 ·obtain⟨es,⟨as,rfl,h1,h3⟩,o1,o2,rfl⟩:=e;rw[aQ]at hx;obtain⟨b,hb,rfl⟩:=bD.mp hx;have e1:=zE hp (.tup [V.int i,V.ref b]);dsimp![uQ,jU,uY];refine⟨_,cW.of zC,rfl,_,_,rfl,_,_,rfl,rfl,?_⟩;generalize upd H' p (.tup [V.int i,V.ref b])=H1 at e1⊢;refine⟨small (),λa' ha'=>hC _ _ _ ?_⟩;have e2:=zE ha' (.tup [V.ref b,V.int i]);refine⟨es.trans (e1.trans e2),⟨as++[a'],by rw[bF];rfl,by rw[aP,h1];rfl,λj a b' ha hb'=>?_⟩,_,_,rfl⟩;by_cases hj:j<i
  ·rw[bN ()]at ha;exact(e1.trans e2) _ _ (h3 j a b' ha hb')
  ·have ej:j=i:=by
    have :=(aD.mp ha).1;rw[aP]at this;simp at this;lia
   rw[ej,←h1,cP (aJ _)]at ha;simp at ha;subst ha;rw[ej,hb]at hb';cases hb';rw[ej];exact zC
 obtain⟨es,⟨as,rfl,h1,h3⟩,o1,o2,rfl⟩:=e;rw[aE]at h1;have e1:=zE hp (.lst (as.map V.ref));refine⟨p,rfl,as,dF.of zC,pR aC bs 0,by rw[kH _ _ _ hbl];lia,by rw[tN _ _ _ hbl];exact FQ.mpr (hnd.imp λhne z=>hne (AY z)),λi x hi=>?_,λd hd hlo=>?_⟩
 ·obtain⟨r,b,g1,g2,rfl⟩:=HB _ _ _ _ _ hi;have hil:=(aD.mp g1).1;have k1:=h3 i (as[i]'()) b (aA ()) g2;exact⟨_,aA (),cW.of (e1 _ _ (by rw[fJ];exact k1)),((hbk i r b g1 g2).same (es.trans e1)).sq⟩
 ·exact q d bs _ _ (es.trans e1) ⟨rfl,hd,hbl,hrl,hlo,λi r a g1 g2=>(hbk i r a g1 g2).same (es.trans e1)⟩
theorem DP(mf_found:mg "found"=some (.ref ff))(h_j:fX P w K mg base 44 "number_by" ["row_number","places","t"] (CT P w K false ff 21))(F:gL K "pair_of" "pair_of" s_V f fd):dG P w K mg base gJ 45 f fd ["places","saying"] (jt P w K):=by
 refine F.okz sc_V λfL A outer s H vs Q E hr h=>?_
 obtain⟨pa,v,aC,as,s,J,rfl,px,hv,⟨⟨f1,e1⟩,f2,e2⟩,q⟩:=h;obtain⟨a,v1,v2,rfl,ha,t1,t2⟩:=hv.out;refine⟨_,(zG (zM (zP (zA (zI h_j hr.m rfl (zA (DD mf_found rfl) (zA (pv 0) (zA (zJ zN (pv 1) zF) zB)))) (zA (zI h_j hr.m rfl (zA (DD mf_found rfl) (zA (pv 0) (zA (zJ zN (pv 1) zF) zB)))) zB))))),?_⟩;dsimp![];refine⟨_,cW.of (px.sub _ _ ha),_,iG,pa,v1,J,aC,as,s.1,rfl,px,t1,f1,⟨λ_=>e1,by rw[e1];exact px.few⟩,λH1 J1 pI s1 px1=>?_⟩;rw[e1]at px1;refine⟨_,cW.of (px1.sub _ _ (s1 _ _ ha)),_,nK,pa,v2,J1,aC,pI,s.2,rfl,px1,dD.same s1 t2,f2,⟨λ_=>e2,by rw[e2];exact px.few⟩,λH2 J2 WU s2 px2=>⟨small (),λp hp=>?_⟩⟩;rw[e2]at px2;exact q p _ _ WU (s1.trans (s2.trans (zE (px2.free hp) _))) (px2.new hp _) zC
theorem kY(h_V:fX P w K mg base 45 "pair_of" ["places","saying"] (jt P w K))(F:gL K "numbered_rule" "numbered_rule" s_r f fd):dG P w K mg base gJ 46 f fd ["places","rule"] (spNr P w K):=by
 refine F.okz sc_r λfL A outer s H vs Q E hr h=>?_
 obtain⟨pa,v,aC,as,r,J,rfl,px,hv,⟨hl,hps,hc⟩,q⟩:=h;obtain⟨a,l,u,vs,rfl,ha,hl2,hps2,hc2⟩:=hv.out;have hvl:=hps2.length;refine⟨_,(zG (zM (zP (zA (yZ ["premise"] ["places"] [0] (yV (zJ zN (pv 1) zF)) (λ_ _ _ _ nd=>yF 0 nd) (λ_ _ _ _=>yU) (λ_ _ _ _=>(zI h_V hr.m rfl (zA (pv 1) (zA (pv 0) zB))))) (zA (zI h_V hr.m rfl (zA (pv 0) (zA (zJ zN (pv 1) zF) zB))) zB))))),?_⟩;dsimp![];refine⟨_,cW.of (px.sub _ _ ha),_,iG,l,rfl,⟨_,dF.of (px.sub _ _ hl2)⟩,?_⟩;refine uG (xs:=vs) (λi ys σ G=>∃J' as',bG J J'/\Px P w K G J' pa aC as'/\bA J' ((r.1.take i).map λs=>oN (nS aC s)) ys/\∃o,σ=[o,some (V.ref pa)]) ⟨J,as,bG.refl _,px,rfl,_,rfl⟩ (small ()) (λi ys σ G e=>?_) (λi ys σ G e=>?_) (λi x ys σ G C hx e hC=>?_) (λys σ G e p hp=>?_)
 ·obtain⟨J',_,_,_,hd,_⟩:=e;have :=bA.length hd;rw[aE,bH]at this;lia
 ·obtain⟨J',as',sJ,px',_⟩:=e;exact dF.of (px'.sub _ _ (sJ _ _ hl2))
 ·obtain⟨J',as',sJ,px',hd,o,rfl⟩:=e;obtain⟨s1,hs1,hx'⟩:=hps2.getV hx;obtain⟨hil,hie⟩:=aD.mp hs1;dsimp![];refine⟨pa,x,aC,as',s1,J',rfl,px',dD.same sJ hx',hps s1 (aZ hs1),λp J2 G2 WU S2 px2 hp=>hC _ _ _ ⟨J2,WU,sJ.trans S2,px2,?_,_,rfl⟩⟩;rw[aO hil,hie,bF];exact bA.append (bA.same S2 hd) (bA.one ⟨p,_,rfl,hp,_,_,rfl,rfl,_,_,rfl,rfl,rfl⟩)
 obtain⟨J1,pI,s1,px1,hd,o,rfl⟩:=e;have px2:=px1.new hp (.lst ys);have s2:=zE (px1.free hp) (.lst ys);have kp:upd J1 p (.lst ys) p=some (.lst ys):=zC;generalize upd J1 p (.lst ys)=J2 at px2 s2 kp;generalize upd G p (.lst ys)=G2 at px2⊢;have s12:=s1.trans s2;refine⟨_,cW.of (px2.sub _ _ (s12 _ _ ha)),_,nK,pa,u,aC,pI,r.2,J2,rfl,px2,dD.same s12 hc2,hc,λp3 J3 G3 as3 s3 px3 h3=>⟨small (),λp4 hp4=>?_⟩⟩;have s4:=zE (px3.free hp4) (.tup [V.ref p,V.ref p3]);refine q _ _ _ as3 (s12.trans (s3.trans s4)) (px3.new hp4 _) ⟨p4,_,rfl,zC,_,_,rfl,⟨p,ys,rfl,(s3.trans s4) _ _ kp,?_⟩,_,_,rfl,⟨p3,_,rfl,s4 _ _ h3,_,_,rfl,rfl,_,_,rfl,rfl,rfl⟩,rfl⟩;show bA _ ((r.1.map (nS aC)).map oN) ys;rw[eG];rw[hvl,aR (aJ _)]at hd;exact bA.same (s2.trans (s3.trans s4)) hd
theorem tZ(bi:Bi mg)(h_H:fX P w K mg base 1 "places_of" ["sheet"] (jq P w K))(h_r:fX P w K mg base 46 "numbered_rule" ["places","rule"] (spNr P w K))(F:gL K "numbered" "numbered" s_S f fd):dG P w K mg base gJ 47 f fd ["sheet","book"] (spNm K):=by
 refine F.okz sc_S λfL A outer s H vs Q E hr h=>?_
 obtain⟨sa,ba,us,bs,aC,b,rfl,hsa,hrw,hnd,hrl,lL,hb,hbl,hgd,q⟩:=h;have hbs:bs.length=b.length:=by have :=bA.length hb;rwa[aE]at this
 refine⟨_,(zD (kX (i:=2) sc_S.nd rfl (Or.inr rfl) (zI h_H hr.m rfl (zA (pv 0) zB))) (zG (zM (yZ ["rule"] ["places"] [2] (yV (pv 1)) (λ_ _ _ _ nd=>yF 0 nd) (λ_ _ _ _=>yU) (λ_ _ _ _=>(zI h_r hr.m rfl (zA (pv 1) (zA (pv 0) zB)))))))),?_⟩;refine zH λN hN=>?_
 dsimp![];refine⟨sa,us,aC,rfl,hsa,hrw,hnd,hrl,λd as J H1 s1 px=>hN _ _ ?_⟩;clear hN;dsimp![];have hbl1:=s1 _ _ lL;refine⟨⟨_,dF.of (px.sub _ _ hbl1)⟩,?_⟩;refine uG (xs:=bs) (λi ys σ G=>∃J' as',bG J J'/\Px P w K G J' d aC as'/\bA J' ((b.take i).map λr=>IX (nR aC r)) ys/\∃o,σ=[o,some (V.ref d)]) ⟨J,as,bG.refl _,px,rfl,_,rfl⟩ (small ()) (λi ys σ G e=>?_) (λi ys σ G e=>?_) (λi x ys σ G C hx e hC=>?_) (λys σ G e p hp=>?_)
 ·obtain⟨J',_,_,_,hd,_⟩:=e;have :=bA.length hd;rw[aE,bH]at this;lia
 ·obtain⟨J',as',sJ,px',_⟩:=e;exact dF.of (px'.sub _ _ (sJ _ _ hbl1))
 ·obtain⟨J',as',sJ,px',hd,o,rfl⟩:=e;obtain⟨r,mC,hx'⟩:=uE hb hx;obtain⟨hil,hie⟩:=aD.mp mC;dsimp![];refine⟨d,x,aC,as',r,J',rfl,px',dD.same (s1.trans sJ) hx',hgd r (aZ mC),λv' J2 G2 WU S2 px2 hv=>hC _ _ _ ⟨J2,WU,sJ.trans S2,px2,?_,_,rfl⟩⟩;rw[aO hil,hie,bF];exact bA.append (bA.same S2 hd) (bA.one hv)
 obtain⟨J1,pI,sJ,px1,hd,o,rfl⟩:=e;rw[hbs,aR (aJ _)]at hd;have sp:=zE hp (.lst ys);refine q p ys _ (s1.trans (sJ.trans (px1.sub.trans sp))) zC ?_;rw[eG];exact bA.same (px1.sub.trans sp) hd
end
def WE(m:Nat)(ns:List Nat):Prop:=∀i,m.testBit i=decide (i∈ns)
def kO(ps:List (Nat×Nat))(a b:Nat):Bool:=ps.any λp=>(p.1==a&&p.2==b) ||(p.1==b&&p.2==a)
theorem ZG(ps:List (Nat×Nat))(a b:Nat):kO ps a b=kO ps b a:=by
 unfold kO
 congr 1
 funext p
 rw[Bool.or_comm]
def dP2(p:Nat×Nat):Dt:=.tup [.int p.1,.int p.2]
def Ok2(m:Nat)(ps:List (Nat×Nat)):Prop:=∀p∈ps,p.1<p.2/\p.2<m
def cnt(m:Nat)(ps:List (Nat×Nat))(sp:List Nat):List Nat:=(List.range m).filter λi=>sp.all λa=>kO ps a i
theorem rP{m:Nat}:i∈cnt m ps sp↔i<m/\(sp.all λa=>kO ps a i)=true:=by
 unfold cnt;rw[dP,bZ]
structure FlC(K:W.Frag)(C:Addr):Prop where
 cl:ND K C
 nE:iW K C "everywhere"
 nC:iW K C "clashing"
def flF(e:Nat)(l:Addr):List (Str×V):=[("everywhere",nV e),("clashing",.ref l)]
structure Msk(m:Nat)(ps:List (Nat×Nat))(cs:List Nat):Prop where
 len:cs.length=m
 bit:∀(a c:Nat),cs[a]?=some c->∀i,c.testBit i=kO ps a i
def ox(C:Addr)(H:Hp)(r:Addr)(m:Nat)(ps:List (Nat×Nat)):Prop:=∃dx l cs,H r=some (.ins C dx (flF (2^m-1) l))/\H l=some (.lst (cs.map nV))/\Msk m ps cs
inductive spFI (C:Addr) (vs:List V) (H:Hp) (Q:VK) (E:XK):Prop
 |mk (r dx ca:Addr) (m:Nat) (us:List V) (ps:List (Nat×Nat)) (_:vs=[.ref r,.int m,.ref ca]) (_:H r=some (.ins C dx [])) (_:ca≠r) (_:H ca=some (.lst us)) (_:bA H (ps.map dP2) us) (_:Ok2 m ps) (_:m<=90) (_:∀H',gE r H H'->ox C H' r m ps->Q .non H')
inductive spCo (K:W.Frag) (C:Addr) (vs:List V) (H:Hp) (Q:VK) (E:XK):Prop
 |mk (r sa:Addr) (m:Nat) (ps:List (Nat×Nat)) (ms:List Nat) (_:vs=[.ref r,.ref sa]) (_:ox C H r m ps) (_:dF K H sa (ms.map nV)) (_:ms.length<=1000) (_:∀c:Nat,(∀i,c.testBit i=(decide (i<m)&&ms.all λx=>x.testBit i))->Q (.int c) H)
inductive spCn (C:Addr) (vs:List V) (H:Hp) (Q:VK) (E:XK):Prop
 |mk (r:Addr) (m s:Nat) (ps:List (Nat×Nat)) (xs:List Nat) (_:vs=[.ref r,.int s]) (_:ox C H r m ps) (_:m<=90) (_:rF s xs) (_:(∀x∈xs,x<m)) (_:∀(c:Nat) H',bG H H'->WE c (cnt m ps xs)->Q (.int c) H')
mutual
def MD:Tm->List Str
 | .name x=>[x]
 | .node _ ts=>DZ ts
def DZ:List Tm->List Str
 |[]=>[]
 |t::ts=>MD t++DZ ts
end
structure TsOk(zs:List Str)(d n:Nat)(ts:List Tm):Prop where
 fit:∀t∈ts,eM d t
 nam:∀t∈ts,∀x∈MD t,x∈zs
 sz:mV ts<=n
def addN(zs:List Str)(x:Str):List Str:=if x∈zs then zs else zs++[x]
def VX(zs:List Str)(xs:List Str):List Str:=xs.foldl addN zs
def oP(d:Addr)(H H':Hp):Prop:=∀b o,H b=some o->b≠d->H' b=some o
theorem oP.trans{d:Addr}{H1 H2:Hp}(a:oP d H H1)(b:oP d H1 H2):oP d H H2:=λc o h n=>b c o (a c o h n) n
theorem oP.upd{d:Addr}{H1:Hp}{o:HO}(a:oP d H H1):oP d H (L2.upd H1 d o):=λc o' h n=>by
 rw[zL n];exact a c o' h n
theorem oP.tups{d:Addr}{kvs:List (eZ×V)}(a:oP d H H')(h:H d=some (.dK kvs)):dC H H':=λb xs e=>a b _ e (qD e h (by intro z;cases z))
inductive spNO (vs:List V) (H:Hp) (Q:VK) (E:XK):Prop
 |mk (v:V) (t:Tm) (_:vs=[v]) (_:hG H t v) (_:eM 20 t) (_:wt t<=900) (_:(VX [] (MD t)).length<64) (_:∀p zs' H',bG H H'->H' p=some (.lst (zs'.map V.str))->zs'.Perm (VX [] (MD t))->PyProof.Rows.sortedS zs'=true->Q (.ref p) H')
def cmn(m:Nat)(vs:List (List Nat)):List Nat:=(List.range m).filter λi=>vs.all λv=>decide (i∈v)
def wM(m:Nat)(ps:List (Nat×Nat))(w:Str)(vs:List (List Nat)):List Nat:=
 if w="none" then []else if w="all" then List.range m else if w="not" then cnt m ps (vs.headD [])else if w="both" then cmn m vs else cnt m ps (cmn m (vs.map (cnt m ps)))
mutual
def val(m:Nat)(ps:List (Nat×Nat))(S:Str->List Nat):Tm->List Nat
 | .name x=>S x
 | .node w ts=>wM m ps w (vals m ps S ts)
def vals(m:Nat)(ps:List (Nat×Nat))(S:Str->List Nat):List Tm->List (List Nat)
 |[]=>[]
 |t::ts=>val m ps S t::vals m ps S ts
end
theorem jN(m:Nat)(ps:List (Nat×Nat))(S:Str->List Nat):∀ts:List Tm,vals m ps S ts=ts.map (val m ps S)
 |[]=>rfl
 |t::ts=>by rw[vals,jN m ps S ts,cD]
theorem VL{m:Nat}(h:i∈cnt m ps sp):i<m:=(rP.mp h).1
theorem nu{m:Nat}(h:i∈cmn m vs):i<m:=bZ.mp (dP.mp h).1
theorem ag{m:Nat}{w:Str}(h:i∈wM m ps w vs):i<m:=by
 unfold wM at h;split at h
 ·cases h
 split at h
 ·exact bZ.mp h
 split at h
 ·exact VL h
 split at h
 ·exact nu h
 ·exact VL h
theorem jf{m:Nat}(hS:∀x,∀i∈S x,i<m):∀(t:Tm){i:Nat},i∈val m ps S t->i<m
 | .name x,i,h=>by rw[val]at h;exact hS x i h
 | .node w ts,i,h=>by rw[val]at h;exact ag h
theorem XQ{α:Type} [DecidableEq α]:∀{l m:List α},l.Nodup->(∀x∈l,x∈m)->l.length<=m.length
 |[],m,_,_=>cO _
 |x::l,m,hn,hs=>by
  have hx:x∈m:=hs x aY;have hn':=lC.mp hn;have :=XQ (l:=l) (m:=m.erase x) hn'.2 λy hy=>by
   have hy':=hs y (aV _ hy);have hne:y≠x:=λe=>hn'.1 (by rw[←e];exact hy)
   exact(List.mem_erase_of_ne hne).mpr hy'
  rw[List.length_erase_of_mem hx]at this;have :=List.length_pos_of_mem hx;rw[bB];lia
def Masks(cs:List Nat)(vs:List (List Nat)):Prop:=cs.length=vs.length/\∀(i:Nat)(c:Nat)(v:List Nat),cs[i]?=some c->vs[i]?=some v->WE c v
structure WA(H:Hp)(la:Addr)(zs:List Str)(Ss:List (List Nat))(m:Nat):Prop where
 ex:∃(as ls:List Addr),H la=some (.lst (as.map V.ref))/\as.length=zs.length/\ls.length=zs.length/\∀(i:Nat)(z:Str)(sp:List Nat),zs[i]?=some z->Ss[i]?=some sp->∃a l,as[i]?=some a/\ls[i]?=some l/\H a=some (.tup [.str z,.ref l])/\H l=some (.lst (sp.map nV))
 len:Ss.length=zs.length
 low:∀sp∈Ss,(∀i∈sp,i<m)/\sp.Pairwise (· < ·)
def zc(zs:List Str)(cs:List Nat):List (eZ×V):=(zs.zip cs).map λp=>(.inr p.1,nV p.2)
inductive spVl (K:W.Frag) (vs:List V) (H:Hp) (Q:VK) (E:XK):Prop
 |mk (wa:Addr) (v:V) (t:Tm) (m:Nat) (ca:Addr) (us:List V) (ps:List (Nat×Nat)) (la:Addr) (zs:List Str) (Ss:List (List Nat)) (S:Str->List Nat) (_:vs=[.ref wa,v]) (_:H wa=some (.tup [nV m,.ref ca,.ref la])) (_:H ca=some (.lst us)) (_:bA H (ps.map dP2) us) (_:Ok2 m ps) (_:m<=90) (_:WA H la zs Ss m) (_:(zs.Nodup/\zs.length<=5)) (_:hG H t v) (_:eM 20 t) (_:wt t<=900) (_:(∀x∈MD t,x∈zs)) (_:(∀(i:Nat)(z:Str),zs[i]?=some z->Ss[i]?=some (S z))) (_:(∀z,(∀i∈S z,i<m)/\(S z).Pairwise (· < ·))) (_:∀(p:Addr)(H':Hp),bG H H'->H p=none->H' p=some (.lst ((val m ps S t).map nV))->Q (.ref p) H')
inductive spSF (K:W.Frag) (vs:List V) (H:Hp) (Q:VK) (E:XK):Prop
 |mk (wa na:Addr) (ys:List Str) (m:Nat) (cps:V) (la:Addr) (zs:List Str) (Ss:List (List Nat)) (_:vs=[.ref wa,.ref na]) (_:H wa=some (.tup [nV m,cps,.ref la])) (_:WA H la zs Ss 90) (_:H na=some (.lst (ys.map V.str))) (_:(∀y∈ys,y∈zs)) (_:(zs.Nodup/\zs.length<=5)) (_:∀p cs H',bG H H'->H' p=some (.dK (zc zs cs))->Masks cs Ss->Q (.ref p) H')
def plB(ls:List Ln):List (List eZ×V):=ls.map λl=>(xM l.i l.j,V.bl true)
def rl(ls:List Ln)(i j:Nat):Bool:=zX ls i j
def xH(m:Nat)(R:Nat->Nat->Bool):List Nat:=(List.range m).filter λn=>!R n (nJ n)
def qO(sp:List Nat)(R:Nat->Nat->Bool)(n:Nat):List Nat:=(List.range sp.length).filter λa=>R (sp.getD a 0) n
def ZF(sp:List Nat)(R:Nat->Nat->Bool):List (Nat×Nat):=(List.range sp.length).flatMap λa=>((List.range sp.length).filter λb=>decide (a<b)&&R (sp.getD a 0) (nJ (sp.getD b 0))).map λb=>(a,b)
inductive spSb (vs:List V) (H:Hp) (Q:VK) (E:XK):Prop
 |mk (m:Nat) (d:Addr) (ls:List Ln) (_:vs=[.int m,.ref d]) (_:m<=200) (_:H d=some (.dT (plB ls))) (_:∀p H',bG H H'->H p=none->H' p=some (.lst ((xH m (rl ls)).map nV))->Q (.ref p) H')
inductive spSu (vs:List V) (H:Hp) (Q:VK) (E:XK):Prop
 |mk (sa d:Addr) (sp:List Nat) (ls:List Ln) (n:Nat) (_:vs=[.ref sa,.ref d,.int n]) (_:H sa=some (.lst (sp.map nV))) (_:sp.length<=200) (_:H d=some (.dT (plB ls))) (_:∀p H',bG H H'->H p=none->H' p=some (.lst ((qO sp (rl ls) n).map nV))->Q (.ref p) H')
inductive spCb (vs:List V) (H:Hp) (Q:VK) (E:XK):Prop
 |mk (sa d:Addr) (sp:List Nat) (ls:List Ln) (_:vs=[.ref sa,.ref d]) (_:H sa=some (.lst (sp.map nV))) (_:sp.length<=60) (_:(∀x∈sp,x<200)) (_:H d=some (.dT (plB ls))) (_:∀p us H',bG H H'->H p=none->H' p=some (.lst us)->bA H' ((ZF sp (rl ls)).map dP2) us->Q (.ref p) H')
abbrev s_Z:Stmt:=top 54
def nmR(aC:List Rw)(k:Nat):Option Str:=match aC[k]? with |some (.nm x)=>some x |_=>none
def nmK(aC:List Rw):List (Str×Nat):=(List.range aC.length).filterMap λk=>(nmR aC k).map λx=>(x,k)
abbrev Ro:=Addr×Str×Addr×List Nat
def TrAt(H:Hp)(m:Nat)(T:List Ro):Prop:=∀e∈T,H e.1=some (.tup [.str e.2.1,.ref e.2.2.1])/\H e.2.2.1=some (.lst (e.2.2.2.map nV))/\(∀i∈e.2.2.2,i<m)/\e.2.2.2.Pairwise (· < ·)
structure WoAt(H0 H:Hp)(wa:Addr)(sp:List Nat)(aC:List Rw)(ls:List Ln)(T:List Ro)(ca la:Addr)(us:List V):Prop where
 tup:H wa=some (.tup [nV sp.length,.ref ca,.ref la])
 cl:H ca=some (.lst us)
 dat:bA H ((ZF sp (rl ls)).map dP2) us
 lst:H la=some (.lst ((T.map (·.1)).map V.ref))
 tr:TrAt H sp.length T
 is:∀e∈T,∃k,(e.2.1,k)∈nmK aC/\e.2.2.2=qO sp (rl ls) (2*k)
 perm:(T.map (·.2.1)).Perm ((nmK aC).map (·.1))
inductive spWo26 (K:W.Frag) (vs:List V) (H:Hp) (Q:VK) (E:XK):Prop
 |mk (sa la:Addr) (us ws:List V) (aC:List Rw) (ls:List Ln) (_:vs=[.ref sa,.ref la]) (_:H sa=some (.lst us)) (_:fP K H aC us) (_:aC.length<=30) (_:(nmK aC).length<=3) (_:((nmK aC).map (·.1)).Nodup) (_:H la=some (.lst ws)) (_:xQ H ls ws) (_:ls.length<=10000) (_:(ls.map λl=>xM l.i l.j).Nodup) (_:(zX ls 1 0=true->∀H',bG H H'->Q .non H')) (_:(zX ls 1 0=false->∀wa T ca ra vs H',bG H H'->WoAt H H' wa (xH (2*aC.length) (rl ls)) aC ls T ca ra vs->Q (.ref wa) H'))
theorem uT{α:Type}{xs:List α}{n:Int}{x:α}(h0:0<=n)(h:xs[n.toNat]?=some x):oO xs n=some x:=by
 obtain⟨m,rfl⟩:∃m:Nat,n=(m:Int):=⟨n.toNat,()⟩
 exact yO (by simpa using h)
def GW(x:Str)(as:List Wt):Prop:=(x≠"rule"/\∃ns:List Int,as=ns.map .n/\ns.length<=2)\/(x="rule"/\∃r ps,as=[.n r,.ps ps]/\ps.length<=100)
theorem SO{H:Hp}:∀{ns:List Int}{us:List V},ZV H (ns.map .n) us->us=ns.map V.int
 |[],us,h=>h
 |n::ns,us,h=>by
  obtain⟨v,r,e1,e2,e3⟩:=h;have e2:v=.int n:=e2;rw[e1,e2,SO e3];rfl
theorem atNs(H:Hp):∀ns:List Int,ZV H (ns.map .n) (ns.map V.int)
 |[]=>rfl
 |n::ns=>⟨_,_,rfl,rfl,atNs H ns⟩
theorem owN{ns:List Int}(h:ns.length<=3):OW (ns.map .n):=⟨by rw[aE];exact h,λps hp=>by
 obtain⟨n,_,e⟩:=bO.mp hp;cases e⟩
theorem gwN(x:Str)(h:x≠"rule")(ns:List Int)(hn:ns.length<=2):GW x (ns.map .n):=.inl ⟨h,ns,rfl,hn⟩
def plc(x:Str)(as:List Wt):List Int:=if x="rule" then(match as with |[_,.ps ps]=>ps |_=>[])else as.filterMap λa=>match a with | .n i=>some i | .ps _=>none
def GL(n:Nat)(x:Str)(as:List Wt):Prop:=GW x as/\∀p∈plc x as,0<=p/\p<(n:Int)
theorem tK{x:Str}(h:x≠"rule")(ns:List Int):plc x (ns.map .n)=ns:=by
 unfold plc;rw[aF h,fZ]
 induction ns with
 |nil=>rfl
 |cons n ns ih=>simp[ih]
theorem tJ(r:Wt)(ps:List Int):plc "rule" [r,.ps ps]=ps:=by
 unfold plc;rw[aH rfl]
theorem glN(n:Nat)(x:Str)(h:x≠"rule")(ns:List Int)(hn:ns.length<=2)(hp:∀p∈ns,0<=p/\p<(n:Int)):GL n x (ns.map .n):=⟨gwN x h ns hn,by rw[tK h];exact hp⟩
theorem glR(n:Nat)(r:Int)(ps:List Int)(hl:ps.length<=100)(hp:∀p∈ps,0<=p/\p<(n:Int)):GL n "rule" [.n r,.ps ps]:=⟨.inr ⟨rfl,r,ps,rfl,hl⟩,by rw[tJ];exact hp⟩
abbrev s_A:Stmt:=top 45
theorem sc_A:bW ["why"] ["why"] (zK s_A):=by rfl'
abbrev s_Y:Stmt:=top 46
theorem sc_Y:bW ["why","places"] ["why","places"] (zK s_Y):=by rfl'
abbrev s_Q:Stmt:=top 47
theorem jy:bW ["lines","i","j","k","line"] ["lines","i","j"] (zK s_Q):=by rfl'
abbrev s_W:Stmt:=top 48
theorem bn:bW ["lines","k","needed","n","p"] ["lines","k"] (zK s_W):=by rfl'
abbrev j8:Stmt:=top 49
theorem GJ:bW ["lines","i","j","k","kept","places"] ["lines","i","j"] (zK j8):=by rfl'
def xN(ks ps:List Int):List Int:=ps.foldl (λks p=>if p∈ks then ks else ks++[p]) ks
theorem ZU(ks:List Int)(p:Int)(ps:List Int):xN ks (p::ps)=xN (if p∈ks then ks else ks++[p]) ps:=rfl
theorem ZT(ks ps:List Int)(p:Int):xN ks (ps++[p])=if p∈xN ks ps then xN ks ps else xN ks ps++[p]:=by
 unfold xN;rw[List.foldl_append];rfl
theorem xL(z:Int):∀(ps ks:List Int),z∈xN ks ps↔z∈ks\/z∈ps
 |[],ks=>by simp[xN]
 |p::ps,ks=>by
  rw[ZU,xL z ps];by_cases h:p∈ks
  ·rw[aH h,bI];constructor
   ·rintro(h1 |h1)
    ·exact .inl h1
    ·exact .inr (.inr h1)
   ·rintro(h1 |rfl |h1)
    ·exact .inl h1
    ·exact .inl h
    ·exact .inr h1
  ·rw[aF h,bX,aX,bI];constructor
   ·rintro((h1 |h1) |h1)
    ·exact .inl h1
    ·exact .inr (.inl h1)
    ·exact .inr (.inr h1)
   ·rintro(h1 |h1 |h1)
    ·exact .inl (.inl h1)
    ·exact .inl (.inr h1)
    ·exact .inr h1
theorem DY{p:Int}(h:ks.Nodup)(hp:p∉ks):(ks++[p]).Nodup:=
 FR.mpr ⟨h,by simp,λa ha b hb e=>hp (by rw[aX.mp hb]at e;rw[←e];exact ha)⟩
theorem xZ:∀(ps ks:List Int),ks.Nodup->(xN ks ps).Nodup
 |[],ks,h=>h
 |p::ps,ks,h=>by
  rw[ZU];by_cases hp:p∈ks
  ·rw[aH hp];exact xZ ps ks h
  ·rw[aF hp];exact xZ ps _ (DY h hp)
def back(nm:Int->List Int)(k:Nat):Nat->List Int
 |0=>[(k:Int)]
 |i+1=>if((k:Int)-i)∈back nm k i then xN (back nm k i) (nm ((k:Int)-i))else back nm k i
theorem qY{k:Nat}(h:((k:Int)-i)∈back nm k i):back nm k (i+1)=xN (back nm k i) (nm ((k:Int)-i)):=by
 show(if _ then _ else _)=_;rw[aH h]
theorem uS{k:Nat}(h:((k:Int)-i)∉back nm k i):back nm k (i+1)=back nm k i:=by
 show(if _ then _ else _)=_;rw[aF h]
theorem qZ(nm:Int->List Int)(k:Nat):∀i,(back nm k i).Nodup
 |0=>by simp[back]
 |i+1=>by
  by_cases h:((k:Int)-i)∈back nm k i
  ·rw[qY h];exact xZ _ _ (qZ nm k i)
  ·rw[uS h];exact qZ nm k i
theorem kR{nm:Int->List Int}{k:Nat}(hn:∀n:Int,0<=n->n<=k->∀p∈nm n,0<=p/\p<n):∀i,i<=k+1->∀p∈back nm k i,0<=p/\p<=(k:Int)
 |0,_,p,hp=>by
  rw[aX.mp hp];lia
 |i+1,hi,p,hp=>by
  by_cases h:((k:Int)-i)∈back nm k i
  ·rw[qY h,xL]at hp;rcases hp with hp |hp
   ·exact kR hn i () p hp
   ·have :=hn _ () () p hp;lia
  ·rw[uS h]at hp;exact kR hn i () p hp
theorem uR{k:Nat}{p:Int}(hp:p∈back nm k i):p∈back nm k (i+1):=by
 by_cases h:((k:Int)-i)∈back nm k i
 ·rw[qY h,xL];exact .inl hp
 ·rw[uS h];exact hp
theorem vZ{nm:Int->List Int}{k:Nat}(hn:∀n:Int,0<=n->n<=k->∀p∈nm n,0<=p/\p<n):∀i,i<=k+1->∀n∈back nm k i,(k:Int)-i<n->∀p∈nm n,p∈back nm k i
 |0,_,n,hm,lW,p,hp=>by
  rw[aX.mp hm]at lW;lia
 |i+1,hi,n,hm,lW,p,hp=>by
  by_cases h:((k:Int)-i)∈back nm k i
  ·have hm':=hm;rw[qY h,xL]at hm;by_cases e:n=(k:Int)-i
   ·subst e;rw[qY h,xL];exact .inr hp
   ·rcases hm with hm |hm
    ·exact uR (vZ hn i () n hm () p hp)
    ·have :=hn _ () () n hm;lia
  ·rw[uS h]at hm;have e:n≠(k:Int)-i:=λz=>h (z▸hm)
   exact uR (vZ hn i () n hm () p hp)
theorem QR{nm:Int->List Int}{k:Nat}:∀i,(k:Int)∈back nm k i
 |0=>by simp[back]
 |i+1=>uR (QR i)
def uP(ls:List Ln)(n:Int):List Int:=match ls[n.toNat]? with |some l=>plc l.w l.as |none=>[]
def uB(ls:List Ln):Prop:=∀(i:Nat)(l:Ln),ls[i]?=some l->GL i l.w l.as
theorem HL{ls:List Ln}{n:Int}(h:ls[n.toNat]?=some l):uP ls n=plc l.w l.as:=by
 unfold uP;rw[h]
theorem vM{ls:List Ln}(h:uB ls):∀n:Int,0<=n->∀p∈uP ls n,0<=p/\p<n:=by
 intro n h0 p hp;unfold uP at hp;cases e:ls[n.toNat]? with
 |none=>rw[e]at hp;cases hp
 |some l=>
  rw[e]at hp;have :=(h _ l e).2 p hp;lia
def BB(ls:List Ln)(k:Nat):List Int:=back (uP ls) k (k+1)
theorem XY(ls:List Ln)(k:Nat):(BB ls k).Nodup:=qZ _ _ _
theorem UR{ls:List Ln}(h:uB ls)(k:Nat):∀p∈BB ls k,0<=p/\p<=(k:Int):=kR (λn h0 _=>vM h n h0) (k+1) (aJ _)
theorem BA{ls:List Ln}(h:uB ls)(k:Nat):∀n∈BB ls k,∀p∈uP ls n,p∈BB ls k:=λn hn p hp=>
 vZ (λn h0 _=>vM h n h0) (k+1) (aJ _) n hn (by have :=UR h k n hn;lia) p hp
theorem wV{l:List Int}{k:Nat}(hn:l.Nodup)(h:∀p∈l,0<=p/\p<=(k:Int)):l.length<=k+1:=by
 have :=wQ (m:=(List.range (k+1)).map λi:Nat=>(i:Int)) hn λx hx=>by
  have :=h x hx;rw[bO];exact⟨x.toNat,by rw[bZ];lia,()⟩
 rwa[aE,dX]at this
structure Kept(ls:List Ln)(k:Nat)(ks:List Int):Prop where
 perm:ks.Perm (BB ls k)
 rise:ks.Pairwise (· <= ·)
theorem Kept.nodup{ls:List Ln}{k:Nat}(h:Kept ls k ks):ks.Nodup:=h.perm.nodup_iff.mpr (XY ls k)
theorem Kept.inn{ls:List Ln}{k:Nat}(h:Kept ls k ks)(ha:uB ls):∀p∈ks,0<=p/\p<=(k:Int):=λp hp=>UR ha k p (h.perm.mem_iff.mp hp)
theorem Kept.closed{ls:List Ln}{k:Nat}(h:Kept ls k ks)(ha:uB ls):∀n∈ks,∀p∈uP ls n,p∈ks:=λn hn p hp=>h.perm.mem_iff.mpr (BA ha k n (h.perm.mem_iff.mp hn) p hp)
def jQ(p:Int):List Int->Nat
 |[]=>0
 |x::xs=>if x=p then 0 else jQ p xs+1
theorem vJ{p:Int}:∀{l:List Int},p∈l->l[jQ p l]?=some p
 |[],h=>by cases h
 |x::xs,h=>by
  unfold jQ;by_cases e:x=p
  ·rw[aH e];simp[e]
  ·rw[aF e];rw[List.getElem?_cons_succ];exact vJ ((bI.mp h).resolve_left (cM e))
def wP:List Int->Nat->List (eZ×V)
 |[],_=>[]
 |n::ns,i=>(.inl n,.int i)::wP ns (i+1)
theorem tP:∀(ns:List Int)(i:Nat),(wP ns i).length=ns.length
 |[],_=>rfl
 |n::ns,i=>by show(wP ns (i+1)).length+1=_;rw[tP ns (i+1)];rfl
theorem JY:∀(ns:List Int)(i:Nat),(wP ns i).map (·.1)=ns.map Sum.inl
 |[],_=>rfl
 |n::ns,i=>by show _::(wP ns (i+1)).map (·.1)=_;rw[JY ns (i+1)];rfl
theorem tQ:∀{ns:List Int}{i j:Nat}{k:eZ}{v:V},(wP ns i)[j]?=some (k,v)->∃n,ns[j]?=some n/\k=.inl n/\v=.int ((i+j:Nat):Int)
 |[],i,j,k,v,h=>by cases h
 |n::ns,i,0,k,v,h=>by
  cases h;exact⟨n,rfl,rfl,rfl⟩
 |n::ns,i,j+1,k,v,h=>by
  obtain⟨m,h1,h2,h3⟩:=tQ (ns:=ns) (i:=i+1) (j:=j) h;exact⟨m,h1,h2,by rw[h3];congr 2;lia⟩
theorem XI{p:Int}:∀{ns:List Int}(i:Nat),p∈ns->yW (wP ns i) (.inl p)=some (.int ((i+jQ p ns:Nat):Int))
 |[],i,h=>by cases h
 |n::ns,i,h=>by
  by_cases e:n=p
  ·subst e;show yW ((Sum.inl n,V.int i)::wP ns (i+1)) (.inl n)=_;rw[uN rfl];simp[jQ]
  ·show yW ((Sum.inl n,V.int i)::wP ns (i+1)) (.inl p)=_;rw[qN (λz=>e (oG z)),XI (i+1) ((bI.mp h).resolve_left (cM e))];have ep:jQ p (n::ns)=jQ p ns+1:=by
    show(if n=p then 0 else jQ p ns+1)=_;rw[aF e]
   rw[ep]
   congr 2
   lia
def pG(ks:List Int)(l:Ln):Ln:=
 if l.w="rule" then⟨l.i,l.j,"rule",[l.as.headD (.n 0),.ps ((plc l.w l.as).map λp=>(jQ p ks:Int))]⟩
 else⟨l.i,l.j,l.w,((plc l.w l.as).map λp=>(jQ p ks:Int)).map .n⟩
theorem kC{r:Int}{ps:List Int}(hw:l.w="rule")(ha:l.as=[.n r,.ps ps]):pG ks l=⟨l.i,l.j,"rule",[.n r,.ps (ps.map λp=>(jQ p ks:Int))]⟩:=by
 unfold pG;rw[aH hw,ha,hw,tJ];rfl
theorem YE{ns:List Int}(hw:l.w≠"rule")(ha:l.as=ns.map .n):pG ks l=⟨l.i,l.j,l.w,(ns.map λp=>(jQ p ks:Int)).map .n⟩:=by
 unfold pG;rw[aF hw,ha,tK hw]
def vD(ls:List Ln)(ks:List Int)(i:Nat):List Ln:=(ks.take i).filterMap λn=>(ls[n.toNat]?).map (pG ks)
theorem LR{ls:List Ln}{n:Int}(hn:ks[i]?=some n)(hl:ls[n.toNat]?=some l):vD ls ks (i+1)=vD ls ks i++[pG ks l]:=by
 obtain⟨hi,e⟩:=aD.mp hn;unfold vD;rw[aO hi,e,List.filterMap_append]
 congr 1
 simp[hl]
theorem XM(ls:List Ln)(ks:List Int)(i:Nat):(vD ls ks i).length<=i:=by
 unfold vD;refine dI (List.length_filterMap_le _ _) ?_;rw[bH];lia
theorem kg(h:GW l.w l.as):OW (pG ks l).as:=by
 rcases h with⟨hw,ns,ha,hn⟩ |⟨hw,r,ps,ha,hp⟩
 ·rw[YE hw ha];exact owN (by rw[aE];lia)
 ·rw[kC hw ha];refine⟨by simp,λps' hp'=>?_⟩;simp only[bI,eF,or_false]at hp';rcases hp' with e |e
  ·cases e
  ·cases e;rw[aE];lia
theorem cy{ls:List Ln}(h:uB ls):∀l∈vD ls ks i,OW l.as:=by
 intro l hl;unfold vD at hl;obtain⟨n,_,e⟩:=CF.mp hl;cases hs:ls[n.toNat]? with
 |none=>rw[hs]at e;cases e
 |some l'=>
  rw[hs]at e;cases e;exact kg (h _ l' hs).1
def rA(ks:List Int):List (eZ×V):=ks.map λn=>(.inl n,.bl true)
theorem FY(ks:List Int)(p:Int):jZ (rA ks) (.inl p) (.bl true)=rA (if p∈ks then ks else ks++[p]):=by
 unfold jZ;have e:((rA ks).any λkv=>decide (kv.1=(.inl p:eZ)))=decide (p∈ks):=by
  unfold rA;rw[List.any_map,cK,gS,cE];constructor
  ·rintro⟨x,hx,h⟩;have h:x=p:=by simpa using h
   exact h▸hx
  ·intro h;exact⟨p,h,by simp⟩
 rw[e];by_cases h:p∈ks
 ·rw[aH (by simpa using h),aH h];unfold rA;rw[eG];refine List.map_congr_left λx _=>?_
  show(if(Sum.inl x:eZ)=.inl p then _ else _)=_;split<;>rfl
 ·rw[aF (by simpa using h),aF h];unfold rA;rw[bF];rfl
theorem ai(ks:List Int)(p:Int):(yW (rA ks) (.inl p)).isSome=decide (p∈ks):=by
 unfold yW rA;rw[gG,List.find?_map,gG,cK,List.find?_isSome,cE];constructor
 ·rintro⟨x,hx,h⟩;have h:x=p:=by simpa using h
  exact h▸hx
 ·intro h;exact⟨p,h,by simp⟩
theorem OA(ks:List Int):(rA ks).map (·.1)=ks.map Sum.inl:=by
 unfold rA;rw[eG];rfl
theorem cut_1(x:V)(xs:List V):qJ (x::xs) none (some 1)=[x]:=by
 show qJ (x::xs) none (some ((1:Nat):Int))=[x]
 unfold qJ;rw[HT.sIx_nat,HT.sIx_none,bB,Nat.min_eq_left (),nY,Nat.sub_zero,List.take_succ_cons,rG]
theorem LC(h:n<=100000):n<sizeLine:=fY h ()
theorem OQ(h:n<=100000):n<=sizeLine:=pM (LC h)
inductive spLN (vs:List V) (H:Hp) (Q:VK) (E:XK):Prop
 |mk (v:V) (x:Str) (as:List Wt) (_:vs=[v]) (_:dD H (ZE x as) v) (_:GW x as) (_:∀p H',bG H H'->H' p=some (.tup ((plc x as).map V.int))->Q (.ref p) H')
inductive spRn (vs:List V) (H:Hp) (Q:VK) (E:XK):Prop
 |mk (v:V) (d:Addr) (l:Ln) (ks:List Int) (_:vs=[v,.ref d]) (_:dD H (ZE l.w l.as) v) (_:GW l.w l.as) (_:H d=some (.dK (wP ks 0))) (_:(∀p∈plc l.w l.as,p∈ks)) (_:∀v' H',bG H H'->dD H' (ZE (pG ks l).w (pG ks l).as) v'->Q v' H')
def FP(ls:List Ln)(i j:Int)(r:V):Prop:=(r=.non/\∀l∈ls,¬(l.i=i/\l.j=j))\/∃(k:Nat)(l:Ln),r=.int k/\ls[k]?=some l/\(l.i=i/\l.j=j)/\∀(m:Nat)(l':Ln),m<k->ls[m]?=some l'->¬(l'.i=i/\l'.j=j)
inductive gp (vs:List V) (H:Hp) (Q:VK) (E:XK):Prop
 |mk (la:Addr) (ws:List V) (ls:List Ln) (i j:Int) (_:vs=[.ref la,.int i,.int j]) (_:H la=some (.lst ws)) (_:xQ H ls ws) (_:∀r H',bG H H'->FP ls i j r->Q r H')
theorem XN(bi:Bi mg)(F:gL K "lines_named" "lines_named" s_A f fd):dG P w K mg base gJ 1 f fd ["why"] spLN:=by
 refine F.okz sc_A λfL A outer s H vs Q E hr h=>?_
 obtain⟨v,x,as,rfl,hv,hg,q⟩:=h;have at2:∀{a b c:V},oO [a,b,c] 2=some c:=yO (j:=2) rfl;obtain⟨a,us,rfl,ha,iT⟩:=NR hv;refine⟨_,(zG (zM (kI (zQ yE (zJ zN (pv 0) zF) zT (zO _)) (zJ zN (pv 0) zF) (xO uU (pv 0) (jC zF) jD)))),?_⟩;dsimp![tH];refine⟨_,cW.of ha,_,iG,rfl,?_⟩;rcases hg with⟨hw,ns,rfl,_⟩ |⟨rfl,r,ps,rfl,_⟩
 ·rw[aF (λe=>hw (V.str.inj e))];have e:=SO iT;subst e;refine⟨_,ha,λp H' s1 k1=>q p H' s1 ?_⟩;rw[vW]at k1;rw[tK hw];exact k1
 ·rw[aH rfl];obtain⟨v1,r1,e1,e2,v2,r2,e3,e4,e5⟩:=iT;have e5:r2=[]:=e5;subst e5 e3 e1;obtain⟨b,rfl,hb⟩:=kj e4;refine⟨_,cW.of ha,_,at2,q b H (bG.refl H) ?_⟩;rw[tJ];exact hb
theorem DN(bi:Bi mg)(F:gL K "renamed" "renamed" s_Y f fd):dG P w K mg base gJ 1 f fd ["why","places"] spRn:=by
 refine F.okz sc_Y λfL A outer s H vs Q E hr h=>?_
 obtain⟨v,d,l,ks,rfl,hv,hg,hd,hin,q⟩:=h;have at2:∀{a b c:V},oO [a,b,c] 2=some c:=yO (j:=2) rfl;obtain⟨a,us,rfl,ha,iT⟩:=NR hv;refine⟨_,(zD (zZ (zQ yE (zJ zN (pv 0) zF) zT (zO _)) (zG (zM (zP (zA zT (zA (zJ zN (pv 0) zF) (zA (jJ uL rfl bi.tuple qW (zA (yZ ["p"] ["places"] [1] (qQ (zJ zN (pv 0) zF)) (λ_ _ _ _ nd=>yF 0 nd) (λ_ _ _ _=>yU) (λ_ _ _ _=>(YJ (jL hr) (pv 1) (pv 0) (λ_ _=>rfl)))) zB)) zB)))))) zR) (zG (zM (zU dc (xO uU (pv 0) jD (jC zF)) (jJ uL rfl bi.tuple qW (zA (yZ ["p"] ["places"] [1] (qQ (xO uU (pv 0) (jC zF) jD)) (λ_ _ _ _ nd=>yF 0 nd) (λ_ _ _ _=>yU) (λ_ _ _ _=>(YJ (jL hr) (pv 1) (pv 0) (λ_ _=>rfl)))) zB)))))),?_⟩;refine zH λN hN=>?_
 dsimp![tH,PX];refine⟨_,cW.of ha,_,iG,rfl,?_⟩;rcases hg with⟨hw,ns,has,hn2⟩ |⟨hw,r,ps,has,hp100⟩
 ·rw[aF (λe=>hw (V.str.inj e))];refine hN _ _ ?_;rw[has]at iT;have e:=SO iT;subst e;rw[has,tK hw]at hin;rw[YE hw has]at q;dsimp![tH,PX];refine⟨_,ha,λp1 H1 s1 k1=>?_⟩;rw[cut_1]at k1;refine⟨_,s1 _ _ ha,λp2 H2 s2 k2=>?_⟩;rw[vW]at k2;refine⟨⟨_,cW.of k2⟩,?_⟩;refine XU (xs:=ns.map V.int) (λi ys σ H'=>bG H2 H'/\ys=((ns.take i).map λp=>(jQ p ks:Int)).map V.int/\∃o,σ=[o,some (V.ref d)]) ⟨bG.refl _,rfl,_,rfl⟩ (OQ (by rw[aE];lia)) (λi ys σ H' e=>?_) (λi ys σ H' e=>cW.of (e.1 _ _ k2)) (λi x ys σ H' C hx e hC=>?_) (λys σ H' e p3 hp3=>?_)
  ·obtain⟨_,rfl,_⟩:=e;rw[aE,aE,bH];lia
  ·obtain⟨es,rfl,o,rfl⟩:=e;rw[aQ]at hx;cases hni:ns[i]? with
   |none=>rw[hni]at hx;cases hx
   |some n=>
    rw[hni]at hx;cases hx;dsimp![];refine⟨_,.inl ⟨_,.inl n,.inl (es _ _ (s2 _ _ (s1 _ _ hd))),rfl,(XI 0 (hin n (aZ hni))).symm⟩,hC _ _ _ ⟨es,?_,_,rfl⟩⟩;obtain⟨hi,e⟩:=aD.mp hni;rw[aO hi,e,bF,bF,fJ];rfl
  obtain⟨es,rfl,o,rfl⟩:=e;rw[aE,aR (aJ _)];refine⟨p3,rfl,_,.inl ⟨dF.of zC,λp4 hp4=>?_⟩⟩;have s3:=zE hp3 (.lst ((ns.map λp=>(jQ p ks:Int)).map V.int));have s4:=zE hp4 (.tup ((ns.map λp=>(jQ p ks:Int)).map V.int));have ss:=(s2.trans es).trans (s3.trans s4);refine⟨_,ss _ _ k1,_,zC,OQ (by simp;lia),λp5 H5 s5 k5=>?_⟩;refine q _ _ ((s1.trans ss).trans s5) ⟨p5,_,rfl,k5,_,_,rfl,rfl,atNs _ _⟩
 ·rw[aH (cJ V.str hw)];rw[has]at iT;obtain⟨v1,r1,e1,e2,v2,r2,e3,e4,e5⟩:=iT;have e5:r2=[]:=e5;have e2:v1=.int r:=e2;subst e5 e3 e1 e2;obtain⟨b,rfl,hb⟩:=kj e4;rw[hw,has,tJ]at hin;rw[kC hw has]at q;refine⟨_,cW.of ha,_,nK,_,cW.of ha,_,at2,b,rfl,⟨_,cW.of hb⟩,?_⟩;refine XU (xs:=ps.map V.int) (λi ys σ H'=>bG H H'/\ys=((ps.take i).map λp=>(jQ p ks:Int)).map V.int/\∃o,σ=[o,some (V.ref d)]) ⟨bG.refl _,rfl,_,rfl⟩ (OQ (by rw[aE];lia)) (λi ys σ H' e=>?_) (λi ys σ H' e=>cW.of (e.1 _ _ hb)) (λi x ys σ H' C hx e hC=>?_) (λys σ H' e p3 hp3=>?_)
  ·obtain⟨_,rfl,_⟩:=e;rw[aE,aE,bH];lia
  ·obtain⟨es,rfl,o,rfl⟩:=e;rw[aQ]at hx;cases hni:ps[i]? with
   |none=>rw[hni]at hx;cases hx
   |some n=>
    rw[hni]at hx;cases hx;dsimp![];refine⟨_,.inl ⟨_,.inl n,.inl (es _ _ hd),rfl,(XI 0 (hin n (aZ hni))).symm⟩,hC _ _ _ ⟨es,?_,_,rfl⟩⟩;obtain⟨hi,e⟩:=aD.mp hni;rw[aO hi,e,bF,bF,fJ];rfl
  obtain⟨es,rfl,o,rfl⟩:=e;rw[aE,aR (aJ _)];refine⟨p3,rfl,_,.inl ⟨dF.of zC,λp4 hp4=>⟨OQ (by simp),λp5 hp5=>?_⟩⟩⟩;have s3:=zE hp3 (.lst ((ps.map λp=>(jQ p ks:Int)).map V.int));have s4:=zE hp4 (.tup ((ps.map λp=>(jQ p ks:Int)).map V.int));have s5:=zE hp5 (.tup [.str "rule",.int r,.ref p4]);refine q _ _ ((es.trans (s3.trans s4)).trans s5) ⟨p5,_,rfl,zC,_,_,rfl,rfl,_,_,rfl,rfl,_,_,rfl,nz (s5 _ _ zC),rfl⟩
theorem AA(bi:Bi mg)(be:mg "enumerate"=none)(F:gL K "line_for" "line_for" s_Q f fd):dG P w K mg base gJ 1 f fd ["lines","i","j"] gp:=by
 refine F.okz jy λfL A outer s H vs Q E hr h=>?_
 obtain⟨la,ws,ls,i,j,rfl,iF,lB,q⟩:=h;have hwl:=xG lB;refine⟨_,(zD (yP bM rfl (uX rfl be (zA (pv 0) zB)) (jF rfl (zV (yF 3 jy.nd) (zV (yF 4 jy.nd) yY))) (zG (zZ (zQ (qH hr.units) (zP (zA (zJ zN (pv 4) zF) (zA (zJ zN (pv 4) zF) zB))) (zP (zA (pv 1) (zA (pv 2) zB))) (zO _)) (zG (zM (pv 3))) zR))) (zG (zM vL))),?_⟩;refine yK (λσ H'=>∃(o1 o2:Option V),bG H H'/\(∀l∈ls,¬(l.i=i/\l.j=j))/\σ=[some (V.ref la),some (V.int i),some (V.int j),o1,o2]) (λN hN=>?_) (λσ H' h=>?_)
 ·dsimp![ZO];refine⟨_,iF,?_⟩;refine IJ (xs:=ws) (λn σ H'=>∃(o1 o2:Option V),bG H H'/\(∀(m:Nat)(l':Ln),m<n->ls[m]?=some l'->¬(l'.i=i/\l'.j=j))/\σ=[some (V.ref la),some (V.int i),some (V.int j),o1,o2]) ⟨_,_,bG.refl _,(λm l z=>by cases z),rfl⟩ (λn σ H' h=>?_) (λn x σ H' p hx h hp=>?_) (λσ H' h=>?_)
  ·obtain⟨o1,o2,s1,_⟩:=h;exact s1 _ _ iF
  ·obtain⟨o1,o2,s1,hno,rfl⟩:=h;obtain⟨l,hl1,hl2⟩:=uE lB hx;obtain⟨b,u,rfl,hb,_⟩:=SZ hl2;have s2:=zE hp (.tup [.int n,.ref b]);have k2:upd H' p (.tup [.int n,.ref b]) p=some (.tup [.int n,.ref b]):=zC;replace s1:=s1.trans s2;generalize upd H' p (.tup [.int n,.ref b])=H2 at s1 k2⊢;replace hb:=s1 _ _ hb;dsimp![uQ,jU,uY];refine⟨[.int n,.ref b],cW.of k2,rfl,.int n,[.ref b],rfl,.ref b,[],rfl,rfl,?_⟩;refine⟨b,rfl,_,cW.of hb,_,iG,b,rfl,_,cW.of hb,_,nK,OQ (by simp),λp3 h3=>⟨OQ (by simp),λp4 h4=>?_⟩⟩;have s3:=zE h3 (.tup [.int l.i,.int l.j]);have s4:=zE h4 (.tup [.int i,.int j]);refine⟨0,oN (l.i,l.j),⟨p3,_,rfl,s4 _ _ zC,_,_,rfl,rfl,_,_,rfl,rfl,rfl⟩,oN (i,j),⟨p4,_,rfl,zC,_,_,rfl,rfl,_,_,rfl,rfl,rfl⟩,nc 0 _,(),_,rfl,?_⟩;rw[nj];by_cases e:l.i=i/\l.j=j
   ·rw[aH (by rw[e.1,e.2];simp)];exact q _ _ (s1.trans (s3.trans s4)) (.inr ⟨n,l,rfl,hl1,e,hno⟩)
   ·rw[aF (by simpa using e)];refine⟨s1.trans (s3.trans s4),λm l' hm eC=>?_,_,rfl⟩;by_cases em:m=n
    ·subst em;rw[hl1]at eC;cases eC;exact e
    ·exact hno m l' () eC
  ·obtain⟨o1,o2,s1,hno,rfl⟩:=h;refine hN _ _ ⟨o1,o2,s1,λl hl=>?_,rfl⟩;obtain⟨m,hm,e⟩:=dU hl;exact hno m l () (by rw[aA hm,e])
 obtain⟨o1,o2,s1,hno,rfl⟩:=h;dsimp![];exact q _ _ s1 (.inl ⟨rfl,hno⟩)
inductive spHu (vs:List V) (H:Hp) (Q:VK) (E:XK):Prop
 |mk (la:Addr) (ws:List V) (ls:List Ln) (k:Nat) (_:vs=[.ref la,.int k]) (_:H la=some (.lst ws)) (_:xQ H ls ws) (_:uB ls) (_:k<ls.length) (_:ls.length<=40000) (_:∀p ks H',bG H H'->H' p=some (.lst (ks.map V.int))->Kept ls k ks->Q (.ref p) H')
def PapAt(H:Hp)(ls:List Ln)(i j:Int)(r:V):Prop:=(r=.non/\∀l∈ls,¬(l.i=i/\l.j=j))\/
 ∃(k:Nat)(l:Ln)(ks:List Int),ls[k]?=some l/\(l.i=i/\l.j=j)/\(∀(m:Nat)(l':Ln),m<k->ls[m]?=some l'->¬(l'.i=i/\l'.j=j))/\Kept ls k ks/\dD H (.lst ((vD ls ks ks.length).map FA)) r
inductive spPa (vs:List V) (H:Hp) (Q:VK) (E:XK):Prop
 |mk (la:Addr) (ws:List V) (ls:List Ln) (i j:Int) (_:vs=[.ref la,.int i,.int j]) (_:H la=some (.lst ws)) (_:xQ H ls ws) (_:uB ls) (_:ls.length<=40000) (_:∀r H',bG H H'->PapAt H' ls i j r->Q r H')
theorem TR{ls:List Ln}(h:uB ls){k:Nat}(hk:k<ls.length)(h63:ls.length<=40000):(BB ls k).length<=40000:=by
 have :=wV (XY ls k) (UR h k);lia
theorem VR{ls:List Ln}(h:uB ls){k:Nat}(hi:i<=k+1):(back (uP ls) k i).length<=k+1:=wV (qZ _ _ _) (kR (λn h0 _=>vM h n h0) i hi)
theorem DS(bi:Bi mg)(h_A:fX P w K mg base 1 "lines_named" ["why"] spLN)(F:gL K "hung_on" "hung_on" s_W f fd):dG P w K mg base gJ 2 f fd ["lines","k"] spHu:=by
 refine F.okz bn λfL A outer s H vs Q E hr h=>?_
 obtain⟨la,ws,ls,k,rfl,iF,lB,hah,hk,h63,q⟩:=h;have hwl:=xG lB;have at2:∀{a b c:V},oO [a,b,c] 2=some c:=yO (j:=2) rfl;refine⟨_,(zD (yH 2 bn.nd (cu (RE (pv 1) jR cc) rfl rfl (by simp) ())) (zD (yP bM rfl (ce rfl bi.range (zA (pv 1) (zA (XJ YT zF) (zA (XJ YT zF) zB)))) (yF 3 bn.nd) (zG (zZ (DB (DE (jL hr) (pv 3) (pv 2)) (by with_unfolding_all rfl)) (zG (yP bM rfl (qQ (zI h_A hr.m rfl (zA (zJ zN (zJ yB (pv 0) (pv 3)) zF) zB))) (yF 4 bn.nd) (zG (kF (jL hr) (pv 2) (pv 4) jR rfl)))) zR))) (zG (zM (zS JG rfl bi.sorted MX (zA (pv 2) zB)))))),?_⟩;refine zH λN hN=>?_
 dsimp![];refine λnd hnd=>⟨zC,[(.inl (k:Int),.bl true)],rfl,by simp,hN _ _ ?_⟩
 clear hN;have s1:bG H (upd (upd H nd (.dK [])) nd (.dK (vO [] [(.inl (k:Int),V.bl true)]))):=((bG.refl H).upd hnd).upd hnd;have k1:upd (upd H nd (.dK [])) nd (.dK (vO [] [(.inl (k:Int),V.bl true)])) nd=some (.dK (rA (back (uP ls) k 0))):=zC;generalize upd (upd H nd (.dK [])) nd (.dK (vO [] [(.inl (k:Int),V.bl true)]))=H1 at s1 k1⊢;refine yK (λσ H'=>∃(o1 o2:Option V),bG H H'/\H' nd=some (.dK (rA (BB ls k)))/\σ=[some (V.ref la),some (V.int k),some (V.ref nd),o1,o2]) (λN hN=>?_) (λσ H' h=>?_)
 ·dsimp![io];refine⟨k,rfl,(),?_⟩;refine eo (n:=k+1) (hi:=(k:Int)) (λi σ H'=>∃(o1 o2:Option V),bG H H'/\H' nd=some (.dK (rA (back (uP ls) k i)))/\σ=[some (V.ref la),some (V.int k),some (V.ref nd),o1,o2]) ⟨_,_,s1,k1,rfl⟩ (λi σ H' hi h=>?_) (λσ H' h=>?_)
  ·obtain⟨o1,o2,s2,k2,rfl⟩:=h;have hbl:=VR hah (i:=i) (k:=k) ();dsimp![aq];refine⟨_,.inl ⟨_,.inl ((k:Int)-i),.inl k2,rfl,rfl⟩,?_⟩;rw[ai];by_cases hin:((k:Int)-i)∈back (uP ls) k i
   rotate_left
   ·rw[aF (by simpa using hin)];refine⟨s2,?_,_,rfl⟩;rw[uS hin];exact k2
   rw[aH (by simpa using hin)];have hn0:((k:Int)-i).toNat<ls.length:=by lia
   obtain⟨v,hv1,hv2⟩:=bA.get (d:=FA ls[((k:Int)-i).toNat]) lB (by rw[aQ,aA hn0];rfl);have hlx:=aA hn0;have hgl:=hah _ _ hlx;have hnm:=HL hlx;generalize ls[((k:Int)-i).toNat]=l at hv2 hgl hnm;obtain⟨b,u,rfl,hb,hu⟩:=SZ hv2;refine⟨_,dF.of (s2 _ _ iF),_,uT () hv1,b,rfl,_,cW.of (s2 _ _ hb),_,at2,?_⟩;refine⟨u,l.w,l.as,rfl,dD.same s2 hu,hgl.1,λpt H3 s3 k3=>?_⟩;rw[←hnm]at k3;have k23:=s3 _ _ k2;have nn:pt≠nd:=λz=>by rw[z,k23]at k3;cases k3
   refine⟨pt,rfl,⟨_,cW.of k3⟩,?_⟩;rw[qY hin];have hps:∀p∈uP ls ((k:Int)-i),0<=p/\p<=(k:Int):=λp hp=>by
    have :=vM hah _ () p hp;lia
   refine m9 (xs:=(uP ls ((k:Int)-i)).map V.int) (λm σ H'=>∃(o:Option V),bG H H'/\H' pt=some (.tup ((uP ls ((k:Int)-i)).map V.int))/\H' nd=some (.dK (rA (xN (back (uP ls) k i) ((uP ls ((k:Int)-i)).take m))))/\σ=[some (V.ref la),some (V.int k),some (V.ref nd),some (V.int ((k:Int)-i)),o]) ⟨_,s2.trans s3,k3,k23,rfl⟩ (λm σ H' _ h=>?_) (λm x σ H' hx h=>?_) (λσ H' h=>?_)
   ·obtain⟨o,_,h2,_⟩:=h;exact cW.of h2
   ·obtain⟨o,s4,k4,k5,rfl⟩:=h;rw[aQ]at hx;cases hni:(uP ls ((k:Int)-i))[m]? with
    |none=>rw[hni]at hx;cases hx
    |some p=>
     rw[hni]at hx;cases hx;dsimp![JX];have hal:(xN (back (uP ls) k i) ((uP ls ((k:Int)-i)).take m)).length<=k+1:=by
      refine wV (xZ _ _ (qZ _ _ _)) λz hz=>?_
      rcases(xL z _ _).mp hz with hz |hz
      ·exact kR (λn h0 _=>vM hah n h0) i () z hz
      ·exact hps z (cQ hz)
     obtain⟨hm,e⟩:=aD.mp hni;refine⟨_,.inl ⟨_,.inl p,k5,rfl,?_,rfl⟩,s4.upd hnd,by rw[zL nn];exact k4,?_,_,rfl⟩
     ·unfold rA;rw[aE];exact LC ()
     rw[zC,FY,aO hm,e,ZT]
   ·obtain⟨o,s4,k4,k5,rfl⟩:=h;rw[aE,aR (aJ _)]at k5;exact⟨s4,k5,_,_,rfl⟩
  ·obtain⟨o1,o2,s2,k2,rfl⟩:=h;exact hN _ _ ⟨_,_,s2,k2,rfl⟩
 obtain⟨o1,o2,s2,k2,rfl⟩:=h;dsimp![];have hl:=TR hah hk h63;refine⟨_,k2,BB ls k,OA _,(),λp ks hp hpm hrs=>?_⟩;exact q _ ks _ (s2.trans (zE hp _)) zC ⟨hpm,hrs⟩
theorem RZ(bi:Bi mg)(be:mg "enumerate"=none)(h_Q:fX P w K mg base 1 "line_for" ["lines","i","j"] gp)(h_W:fX P w K mg base 2 "hung_on" ["lines","k"] spHu)(h_Y:fX P w K mg base 1 "renamed" ["why","places"] spRn)(F:gL K "paper" "paper" j8 f fd):dG P w K mg base gJ 3 f fd ["lines","i","j"] spPa:=by
 refine F.okz GJ λfL A outer s H vs Q E hr h=>?_
 obtain⟨la,ws,ls,i,j,rfl,iF,lB,hah,h63,q⟩:=h;have hwl:=xG lB;have at2:∀{a b c:V},oO [a,b,c] 2=some c:=yO (j:=2) rfl;refine⟨_,(zD (yH 3 GJ.nd (zI h_Q hr.m rfl (zA (pv 0) (zA (pv 1) (zA (pv 2) zB))))) (zD (zZ (zQ DJ (pv 3) vL (zO _)) (zG (zM vL)) zR) (zD (yH 4 GJ.nd (zI h_W hr.m rfl (zA (pv 0) (zA (pv 3) zB)))) (zD (kX (i:=5) GJ.nd rfl (Or.inr rfl) (jJ FB rfl bi.dict KA (zA (yZ ["place","n"] [] [] (uX rfl be (zA (pv 4) zB)) (λ_ _ _ _ nd=>YI (K:=K) (n:=2) rfl (zV (yF 0 nd) (zV (yF 1 nd) yY))) (λ_ _ _ _=>yU) (λ_ _ _ _=>(zP (zA (pv 1) (zA (pv 0) zB))))) zB))) (zG (zM (yZ ["n"] ["places","lines"] [5,0] (yV (pv 4)) (λ_ _ _ _ nd=>yF 0 nd) (λ_ _ _ _=>yU) (λ_ _ _ _=>(zP (zA (zJ (qI K) (zJ (qF K) (pv 2) (pv 0)) zF) (zA (zJ (qI K) (zJ (qF K) (pv 2) (pv 0)) zF) (zA (zI h_Y hr.m rfl (zA (zJ (qI K) (zJ (qF K) (pv 2) (pv 0)) zF) (zA (pv 1) zB))) zB)))))))))))),?_⟩;refine zH λN hN=>?_
 dsimp![];refine⟨la,ws,ls,i,j,rfl,iF,lB,λr H1 s1 mC=>hN _ _ ?_⟩;replace iF:=s1 _ _ iF;replace lB:=bA.same s1 lB;clear hN;refine zH λN hN=>?_
 dsimp![];rcases mC with⟨rfl,hno⟩ |⟨k,l,rfl,hlk,hij,hno⟩
 ·rw[aH rfl];exact q _ _ s1 (.inl ⟨rfl,hno⟩)
 rw[aF (by intro z;cases z)];refine hN _ _ ?_;clear hN;have hk:=(aD.mp hlk).1;refine zH λN hN=>?_
 dsimp![];refine⟨la,ws,ls,k,rfl,iF,lB,hah,hk,h63,λpk ks H2 s2 k2 hks=>hN _ _ ?_⟩;replace iF:=s2 _ _ iF;replace lB:=bA.same s2 lB;replace s1:=s1.trans s2;clear hN;have hkn:=hks.nodup;have hki:=hks.inn hah;have hkl:=wV hkn hki;refine zH λN hN=>?_
 dsimp![ZO];refine⟨_,k2,?_⟩;refine HV (xs:=ks.map V.int) (λi ys σ H'=>bG H2 H'/\(∃as:List Addr,ys=as.map V.ref/\as.length=i/\∀(m:Nat)(a:Addr),as[m]?=some a->∃n,ks[m]?=some n/\H' a=some (.tup [.int n,.int m]))/\∃o1 o2,σ=[o1,o2]) ⟨bG.refl _,⟨[],rfl,rfl,λm a z=>by cases z⟩,_,_,rfl⟩ (OQ (by rw[aE];lia)) (λi ys σ H' e=>?_) (λi ys σ H' e=>e.1 _ _ k2) (λi x ys σ H' p C hx e hp hC=>?_) (λys σ H' e p3 hp3=>?_)
 ·obtain⟨_,⟨as,rfl,hl,_⟩,_⟩:=e;rw[aE];lia
 ·obtain⟨es,⟨as,rfl,hal,has⟩,o1,o2,rfl⟩:=e;rw[aQ]at hx;cases hni:ks[i]? with
  |none=>rw[hni]at hx;cases hx
  |some n=>
   rw[hni]at hx;cases hx;have s3:=zE hp (.tup [.int i,.int n]);have k3:upd H' p (.tup [.int i,.int n]) p=some (.tup [.int i,.int n]):=zC;generalize upd H' p (.tup [.int i,.int n])=H3 at s3 k3⊢;dsimp![uQ,jU,uY];refine⟨[.int i,.int n],cW.of k3,rfl,.int i,[.int n],rfl,.int n,[],rfl,rfl,OQ (by simp),λp4 hp4=>hC _ _ _ ?_⟩;have s4:=zE hp4 (.tup [.int n,.int i]);refine⟨(es.trans s3).trans s4,⟨as++[p4],by rw[bF];rfl,by simp[hal],λm a hm=>?_⟩,_,_,rfl⟩;by_cases lW:m<as.length
   ·rw[bN lW]at hm;obtain⟨n',h1,h2⟩:=has m a hm;exact⟨n',h1,s4 _ _ (s3 _ _ h2)⟩
   ·have hm2:=(aD.mp hm).1;rw[aP,bY]at hm2;have em:m=as.length:=by lia
    subst em;rw[cP (aJ _),iP]at hm;cases hm;refine⟨n,by rw[hal];exact hni,?_⟩;rw[hal];exact zC
 obtain⟨es,⟨as,rfl,hal,has⟩,o1,o2,rfl⟩:=e;rw[aE]at hal;have s3:=zE hp3 (.lst (as.map V.ref));have k3:upd H' p3 (.lst (as.map V.ref)) p3=some (.lst (as.map V.ref)):=zC;generalize upd H' p3 (.lst (as.map V.ref))=H3 at s3 k3⊢;refine⟨p3,rfl,as,dF.of k3,wP ks 0,by rw[tP];exact hal,?_,λm kk v hm=>?_,λd hd=>hN _ _ ?_⟩
 ·rw[JY];exact FQ.mpr (List.Pairwise.imp (λhne e=>hne (oG e)) hkn)
 ·obtain⟨n,h1,rfl,rfl⟩:=tQ hm;have hm':m<as.length:=by rw[hal];exact(aD.mp h1).1
  obtain⟨n',h2,h3⟩:=has m as[m] (aA hm');rw[h1]at h2;cases h2;exact⟨as[m],aA hm',cW.of (by rw[fJ];exact s3 _ _ h3)⟩
 clear hN;have s4:=zE hd (.dK (wP ks 0));have k4:upd H3 d (.dK (wP ks 0)) d=some (.dK (wP ks 0)):=zC;have ss:=(es.trans s3).trans s4;generalize upd H3 d (.dK (wP ks 0))=H4 at ss k4⊢;replace s1:=s1.trans ss;replace iF:=ss _ _ iF;replace lB:=bA.same ss lB;replace k2:=ss _ _ k2;clear ss s4 s3 es k3 has hd hp3;dsimp![];refine⟨⟨_,dF.of k2⟩,?_⟩;refine uG (xs:=ks.map V.int) (λi ys σ H'=>bG H4 H'/\bA H' ((vD ls ks i).map FA) ys/\∃o,σ=[o,some (V.ref d),some (V.ref la)]) ⟨bG.refl _,rfl,_,rfl⟩ (OQ (by rw[aE];lia)) (λi ys σ H' e=>?_) (λi ys σ H' e=>dF.of (e.1 _ _ k2)) (λi x ys σ H' C hx e hC=>?_) (λys σ H' e p5 hp5=>?_)
 ·have :=bA.length e.2.1;rw[aE]at this;have :=XM ls ks i;lia
 ·obtain⟨es,hys,o,rfl⟩:=e;rw[aQ]at hx;cases hni:ks[i]? with
  |none=>rw[hni]at hx;cases hx
  |some n=>
   rw[hni]at hx;cases hx;have hnk:=aZ hni;have hn:=hki n hnk;have hn0:n.toNat<ls.length:=by lia
   obtain⟨v,hv1,hv2⟩:=bA.get (d:=FA ls[n.toNat]) lB (by rw[aQ,aA hn0];rfl);have hlx:=aA hn0;have hgl:=hah _ _ hlx;have hcl:=hks.closed hah n hnk;rw[HL hlx]at hcl;generalize ls[n.toNat]=l' at hv2 hgl hcl hlx;obtain⟨b,u,rfl,hb,hu⟩:=SZ hv2;have hat:oO ws n=some (.ref b):=uT hn.1 hv1;dsimp![];refine⟨_,dF.of (es _ _ iF),_,hat,b,rfl,_,cW.of (es _ _ hb),_,iG,_,dF.of (es _ _ iF),_,hat,b,rfl,_,cW.of (es _ _ hb),_,nK,_,dF.of (es _ _ iF),_,hat,b,rfl,_,cW.of (es _ _ hb),_,at2,?_⟩;refine⟨u,d,l',ks,rfl,dD.same es hu,hgl.1,es _ _ k4,hcl,λv' H5 s5 hv'=>⟨OQ (by simp),λp6 hp6=>hC _ _ _ ?_⟩⟩;have s6:=zE hp6 (.tup [.int l'.i,.int l'.j,v']);refine⟨(es.trans s5).trans s6,?_,_,rfl⟩;rw[LR hni hlx,bF];refine bA.append (bA.same (s5.trans s6) hys) (bA.one ?_);have er:FA (pG ks l')=FA ⟨l'.i,l'.j,(pG ks l').w,(pG ks l').as⟩:=by
    unfold pG;split<;>rfl
   rw[er];exact n0 zC (dD.same s6 hv')
 obtain⟨es,hys,o,rfl⟩:=e;have s5:=zE hp5 (.lst ys);rw[aE]at hys;exact q _ _ (s1.trans (es.trans s5)) (.inr ⟨k,l,ks,hlk,hij,hno,hks,⟨p5,_,rfl,zC,bA.same s5 hys⟩⟩)
structure Rl(M:Nat)(R:Nat->Nat->Bool):Prop where
 refl:∀x,x<M->R x x=true
 turn:∀i j,R i j=true->R (nJ j) (nJ i)=true
 trans:∀i j k,R i j=true->R j k=true->R i k=true
 all:∀i n,R i (nJ i)=true->n<M->R i n=true
 ev:∃h,M=2*h
theorem Rl.of{ls:List Ln}(hp:Pl aC (2*aC.length) aC.length ls)(hc:Cl aC aT ls.length ls):Rl (2*aC.length) (rl ls):=by
 have lt:∀{p:Nat}{l:Ln},ls[p]?=some l->p<ls.length:=λh=>(aD.mp h).1
 refine⟨λx hx=>hp.same x hx,λi j h=>?_,λi j k h1 h2=>?_,λi n h hn=>?_,_,rfl⟩
 ·obtain⟨p,l,g1,g2,g3⟩:=fO.mp h;exact hc.turn p l i j (lt g1) g1 g2 g3
 ·obtain⟨p,l,g1,g2,g3⟩:=fO.mp h1;obtain⟨p',l',g1',g2',g3'⟩:=fO.mp h2;exact hc.chain p p' l l' i j k (lt g1) (lt g1') g1 g1' g2 g3 g2' g3'
 ·obtain⟨p,l,g1,g2,g3⟩:=fO.mp h;exact hc.clash p l i (nJ i) (lt g1) g1 g2 g3 (YW i).symm n hn
section
variable {M:Nat} {R:Nat->Nat->Bool}
theorem Rl.sym(h:Rl M R)(g:R i (nJ j)=true):R j (nJ i)=true:=by
 have :=h.turn _ _ g;rwa[ZZ]at this
theorem Rl.lt(h:Rl M R)(hn:n<M):nJ n<M:=by
 obtain⟨k,hk⟩:=h.ev;rw[hk]at hn⊢;exact CN hn
theorem oJ{x:Nat}:x∈xH M R↔x<M/\R x (nJ x)=false:=by
 unfold xH;rw[dP,bZ];simp
theorem UA(ha:a<(xH M R).length):(xH M R).getD a 0∈xH M R:=by
 rw[dZ,aA ha];exact cH ha
theorem lT:a∈qO sp R n↔a<sp.length/\R (sp.getD a 0) n=true:=by
 unfold qO;rw[dP,bZ]
theorem rQ{p:Nat×Nat}:p∈ZF sp R↔p.1<sp.length/\p.2<sp.length/\p.1<p.2/\R (sp.getD p.1 0) (nJ (sp.getD p.2 0))=true:=by
 unfold ZF;rw[cX];constructor
 ·rintro⟨a,ha,hp⟩;obtain⟨b,hb,rfl⟩:=bO.mp hp;rw[dP,bZ]at hb;simp only[cA,cE]at hb;exact⟨bZ.mp ha,hb.1,hb.2.1,hb.2.2⟩
 ·rintro⟨h1,h2,h3,h4⟩;refine⟨p.1,bZ.mpr h1,bO.mpr ⟨p.2,?_,rfl⟩⟩;rw[dP,bZ];simp only[cA,cE];exact⟨h2,h3,h4⟩
theorem VO{b:Nat}:kO ps a b=true↔(a,b)∈ps\/(b,a)∈ps:=by
 unfold kO;rw[gS];constructor
 ·rintro⟨p,hp,h⟩;simp only[mZ,cA,dJ]at h;rcases h with⟨h1,h2⟩ |⟨h1,h2⟩
  ·exact .inl (by rw[←h1,←h2];exact hp)
  ·exact .inr (by rw[←h1,←h2];exact hp)
 ·rintro(h |h)
  ·exact⟨_,h,by simp⟩
  ·exact⟨_,h,by simp⟩
theorem iu(h:Rl M R){b:Nat}(ha:a<(xH M R).length)(hb:b<(xH M R).length):kO (ZF (xH M R) R) a b=R ((xH M R).getD a 0) (nJ ((xH M R).getD b 0)):=by
 rw[cK,VO,rQ,rQ];constructor
 ·rintro(⟨_,_,_,g⟩ |⟨_,_,_,g⟩)
  ·exact g
  ·exact h.sym g
 ·intro g;rcases FM a b with l |e |l
  ·exact .inl ⟨ha,hb,l,g⟩
  ·subst e;have :=(oJ.mp (UA ha)).2;rw[this]at g;cases g
  ·exact .inr ⟨hb,ha,l,h.sym g⟩
theorem UY(h:Rl M R)(hn:n<M):cnt (xH M R).length (ZF (xH M R) R) (qO (xH M R) R n)=qO (xH M R) R (nJ n):=by
 unfold cnt;show _=(List.range (xH M R).length).filter λa=>R ((xH M R).getD a 0) (nJ n)
 refine List.filter_congr λi hi=>?_
 have hi:=bZ.mp hi;have hsi:=oJ.mp (UA hi);rw[cK,dB];constructor
 ·intro g;by_cases c:R n (nJ n)=true
  ·exact h.sym (h.all n _ c (h.lt hsi.1))
  ·have hm:n∈xH M R:=oJ.mpr ⟨hn,fN.mpr c⟩;obtain⟨a,ha⟩:=iI hm;have ea:(xH M R).getD a 0=n:=by rw[dZ,ha];rfl
   have hal:=(aD.mp ha).1;have :=g a (lT.mpr ⟨hal,by rw[ea];exact h.refl n hn⟩);rw[iu h hal hi,ea]at this;exact h.sym this
 ·intro g a ha;obtain⟨hal,hr⟩:=lT.mp ha;rw[iu h hal hi];exact h.sym (h.trans _ _ _ g (h.turn _ _ hr))
theorem VM(h:Rl M R)(hn:n<M):cnt (xH M R).length (ZF (xH M R) R) (cnt (xH M R).length (ZF (xH M R) R) (qO (xH M R) R n))=qO (xH M R) R n:=by
 rw[UY h hn,UY h (h.lt hn),ZZ]
theorem VN(sp:List Nat):Ok2 sp.length (ZF sp R):=λp hp=>let ⟨_,h2,h3,_⟩:=rQ.mp hp;⟨h3,h2⟩
end
section
variable {M:Nat} {R:Nat->Nat->Bool}
theorem NW(h:Rl M R)(low:∀x,x<M->R 0 x=true):qO (xH M R) R 0=[]:=by
 unfold qO;refine List.filter_eq_nil_iff.mpr λa ha hr=>?_
 obtain⟨h1,h2⟩:=oJ.mp (UA (bZ.mp ha));have :=h.trans _ _ _ hr (low _ (h.lt h1));rw[h2]at this;cases this
theorem NX(h:Rl M R)(hi:R n i=true)(hj:R n j=true)(hb:∀x,R x i=true->R x j=true->R x n=true):(qO sp R i).filter (λa=>decide (a∈qO sp R j))=qO sp R n:=by
 unfold qO;rw[List.filter_filter];refine List.filter_congr λa ha=>?_
 have hal:=bZ.mp ha;rw[cK,cA,cE];constructor
 ·rintro⟨h1,h2⟩;exact hb _ h2 (lT.mp h1).2
 ·intro g;exact⟨lT.mpr ⟨hal,h.trans _ _ _ g hj⟩,h.trans _ _ _ g hi⟩
theorem KP(h:Rl M R)(hi:i<M)(hj:j<M):((qO (xH M R) R i).all λa=>decide (a∈qO (xH M R) R j))=R i j:=by
 rw[cK,dB];constructor
 ·intro g;by_cases c:R i (nJ i)=true
  ·exact h.all i j c hj
  ·have hm:i∈xH M R:=oJ.mpr ⟨hi,fN.mpr c⟩;obtain⟨a,ha⟩:=iI hm;have ea:(xH M R).getD a 0=i:=by rw[dZ,ha];rfl
   have hal:=(aD.mp ha).1;have :=g a (lT.mpr ⟨hal,by rw[ea];exact h.refl i hi⟩);have :=(lT.mp (of_decide_eq_true this)).2;rwa[ea]at this
 ·intro g a ha;obtain⟨h1,h2⟩:=lT.mp ha;exact dH (lT.mpr ⟨h1,h.trans _ _ _ h2 g⟩)
end
structure Clo(aC:List Rw)(aT:List xJ)(X:Int->Int->Prop):Prop where
 same:∀n:Nat,n<2*aC.length->X n n
 low:∀n:Nat,n<2*aC.length->X 0 n
 high:∀n:Nat,n<2*aC.length->X n 1
 part:∀(k:Nat)(x y:Int),aC[k]?=some (.bo x y)->X ((2*k:Nat):Int) x/\X ((2*k:Nat):Int) y
 clash:∀i j:Nat,i<2*aC.length->j<2*aC.length->X i (pX i)->X i j
 both:∀(i k:Nat)(x y:Int),i<2*aC.length->aC[k]?=some (.bo x y)->X i x->X i y->X i ((2*k:Nat):Int)
 chain:∀i m j:Nat,i<2*aC.length->m<2*aC.length->j<2*aC.length->X i m->X m j->X i j
 turn:∀i j:Nat,i<2*aC.length->j<2*aC.length->X i j->X (pX j) (pX i)
 rule:∀q∈aT,(∀p∈q.1,X p.1 p.2)->X q.2.1 q.2.2
def pp(m:Nat)(ps:List (Nat×Nat))(A:Nat->Prop)(a:Nat):Prop:=a<m/\∀b,A b->kO ps b a=true
structure Fw(m:Nat)(ps:List (Nat×Nat))(S:Str->List Nat):Prop where
 irr:∀a,kO ps a a=false
 full:∀x a,a∈S x↔a∈cnt m ps (cnt m ps (S x))
theorem TM{m:Nat}(h:Ok2 m ps)(a:Nat):kO ps a a=false:=by
 rw[fN];intro z;unfold kO at z;obtain⟨p,hp,e⟩:=gS.mp z;have :=(h p hp).1;simp only[mZ,cA,dJ]at e;lia
theorem fC{m:Nat}{v:List Nat}:a∈cnt m ps v↔pp m ps (· ∈v) a:=by
 rw[rP,dB];rfl
theorem qC{m:Nat}{A B:Nat->Prop}(h:∀a,A a↔B a)(a:Nat):pp m ps A a↔pp m ps B a:=by
 unfold pp;exact and_congr_right λ_=>forall_congr' λb=>by rw[h b]
def rowP(S:Str->List Nat)(U:Nat->Nat->Prop):Rw->Nat->Prop
 | .no,_=>False
 | .nm x,a=>a∈S x
 | .bo i j,a=>U i.toNat a/\U j.toNat a
structure Vw(m:Nat)(ps:List (Nat×Nat))(S:Str->List Nat)(aC:List Rw)(U:Nat->Nat->Prop):Prop where
 row:∀(k:Nat)(r:Rw),aC[k]?=some r->∀a,U (2*k) a↔rowP S U r a
 odd:∀k,k<aC.length->∀a,U (2*k+1) a↔pp m ps (U (2*k)) a
section
variable {m:Nat}
variable {U:Nat->Nat->Prop}
theorem Vw.turn(f:Fw m ps S)(v:Vw m ps S aC U)(hin:uM aC):∀n,n<2*aC.length->∀a,U (oI n) a↔pp m ps (U n) a:=by
 intro n
 induction n using Nat.strongRecOn with
 |ind n ih=>
  intro hn a;have hk:n/2<aC.length:=by lia
  by_cases c:n % 2=0
  ·have e1:oI n=2*(n/2)+1:=by unfold oI;lia
   have e2:n=2*(n/2):=by lia
   rw[e1,v.odd _ hk];rw[←e2]
  ·have e1:oI n=2*(n/2):=by unfold oI;lia
   have e2:n=2*(n/2)+1:=by lia
   rw[e1];have hr:aC[n/2]?=some aC[n/2]:=aA hk;generalize aC[n/2]=r at hr;have o:∀b,U n b↔pp m ps (U (2*(n/2))) b:=λb=>by
    have :=v.odd _ hk b;rwa[←e2]at this
   rw[qC o];have rw':=v.row _ r hr;cases r with
   |no=>
    refine⟨λz=>((rw' a).mp z).elim,λz=>?_⟩;have :=z.2 a ⟨z.1,λb hb=>((rw' b).mp hb).elim⟩;rw[f.irr]at this;cases this
   |nm x=>
    rw[rw' a];refine(f.full x a).trans ?_;rw[fC];exact qC (λb=>fC.trans (qC (λc=>(rw' c).symm) b)) a
   |bo i j=>
    obtain⟨⟨b1,b2⟩,b3,b4⟩:=hin _ i j hr;have fi:∀q:Int,0<=q->q<2*((n/2:Nat):Int)->∀b,U q.toNat b↔pp m ps (pp m ps (U q.toNat)) b:=λq h0 h1 b=>by
     have l1:q.toNat<n:=by lia
     have l2:oI q.toNat<n:=by unfold oI;lia
     have g1:=ih _ l2 () b;rw[show oI (oI q.toNat)=q.toNat by unfold oI;lia]at g1;exact g1.trans (qC (λc=>ih _ l1 () c) b)
    rw[rw' a];constructor
    ·rintro⟨g1,g2⟩;refine⟨((fi i b1 b2 a).mp g1).1,λb hb=>?_⟩;rw[ZG];exact hb.2 a ((rw' a).mpr ⟨g1,g2⟩)
    ·intro z;refine⟨(fi i b1 b2 a).mpr ⟨z.1,λb hb=>z.2 b ⟨hb.1,λc hc=>hb.2 c ((rw' c).mp hc).1⟩⟩,(fi j b3 b4 a).mpr ⟨z.1,λb hb=>z.2 b ⟨hb.1,λc hc=>hb.2 c ((rw' c).mp hc).2⟩⟩⟩
theorem Vw.lt(f:Fw m ps S)(v:Vw m ps S aC U)(hin:uM aC)(hn:n<2*aC.length)(h:U n a):a<m:=by
 have :=v.turn f hin (oI n) (by unfold oI;lia) a;rw[show oI (oI n)=n by unfold oI;lia]at this;exact(this.mp h).1
theorem PM{k:Nat}(h:oF aC r=some k):aC[k]?=some r:=by
 unfold oF at h;obtain⟨hk,e,_⟩:=gD.mp h;rw[aA hk,(EY _ _).mp e]
theorem lU:a∈cmn m vs↔a<m/\∀v∈vs,a∈v:=by
 unfold cmn;rw[dP,bZ,dB];exact and_congr_right λ_=>forall_congr' λv=>forall_congr' λ_=>decide_eq_true_iff
def NV(m:Nat)(ps:List (Nat×Nat))(S:Str->List Nat)(aC:List Rw)(U:Nat->Nat->Prop)(t:Tm):Prop:=∀n,num aC t=some n->n<2*aC.length/\∀a,a∈val m ps S t↔U n a
def tv(m:Nat)(ps:List (Nat×Nat))(e:Bool)(v:List Nat)(a:Nat):Prop:=if e then a∈cnt m ps v else a∈v
theorem gg(f:Fw m ps S)(v:Vw m ps S aC U)(hin:uM aC){e:Bool}{w:List Nat}(hn:n<2*aC.length)(h:∀a,a∈w↔U n a)(a:Nat):U (lE e n) a↔tv m ps e w a:=by
 unfold tv lE;cases e with
 |false=>rw[aF (),aF ()];exact(h a).symm
 |true=>rw[aH rfl,aH rfl,v.turn f hin n hn,fC];exact qC (λb=>(h b).symm) a
theorem AH(f:Fw m ps S)(v:Vw m ps S aC U)(hin:uM aC)(e:Bool):∀(ts:List Tm)(m0 n:Nat)(A:Nat->Prop),(∀t∈ts,NV m ps S aC U t)->wG aC e m0 ts=some n->m0<2*aC.length->(∀a,U m0 a↔A a)->n<2*aC.length/\∀a,U n a↔A a/\∀t∈ts,tv m ps e (val m ps S t) a
 |[],m0,n,A,_,h,hm,hA=>by
  rw[wG]at h;cases h;exact⟨hm,λa=>(hA a).trans ⟨λz=>⟨z,λt ht=>by cases ht⟩,And.left⟩⟩
 |t::ts,m0,n,A,ih,h,hm,hA=>by
  rw[wG]at h;obtain⟨n1,g1,h⟩:=dM.mp h;obtain⟨k,g2,h⟩:=dM.mp h;obtain⟨l1,u1⟩:=ih t aY n1 g1;have hk:=PM g2;have hkl:=(aD.mp hk).1;obtain⟨l2,u2⟩:=AH f v hin e ts (2*k) n (λa=>A a/\tv m ps e (val m ps S t) a) (λt ht=>ih t (aV _ ht)) h () (λa=>by
   rw[v.row k _ hk a];show U (m0:Int).toNat a/\U ((lE e n1:Nat):Int).toNat a↔_;rw[bV,bV,hA a,gg f v hin l1 u1])
  refine⟨l2,λa=>(u2 a).trans ?_⟩;rw[and_assoc];refine and_congr_right λ_=>⟨λz t' ht'=>?_,λz=>⟨z t aY,λt' ht'=>z t' (aV _ ht')⟩⟩
  rcases bI.mp ht' with rfl |ht'
  ·exact z.1
  ·exact z.2 t' ht'
theorem XO(f:Fw m ps S)(v:Vw m ps S aC U)(hin:uM aC)(e:Bool){ts:List Tm}(ih:∀t∈ts,NV m ps S aC U t)(h:wH aC e ts=some n):n<2*aC.length/\∀a,U n a↔∀t∈ts,tv m ps e (val m ps S t) a:=by
 cases ts with
 |nil=>rw[wH]at h;cases h
 |cons t ts=>
  rw[wH]at h;obtain⟨n1,g1,h⟩:=dM.mp h;obtain⟨l1,u1⟩:=ih t aY n1 g1;obtain⟨l2,u2⟩:=AH f v hin e ts _ n _ (λt ht=>ih t (aV _ ht)) h (YX l1) (gg f v hin l1 u1);refine⟨l2,λa=>(u2 a).trans ⟨λz t' ht'=>?_,λz=>⟨z t aY,λt' ht'=>z t' (aV _ ht')⟩⟩⟩;rcases bI.mp ht' with rfl |ht'
  ·exact z.1
  ·exact z.2 t' ht'
theorem du(f:Fw m ps S)(v:Vw m ps S aC U)(hin:uM aC)(h0:aC[0]?=some .no):∀(d:Nat)(t:Tm),BZ d t->NV m ps S aC U t:=by
 have hl:0<aC.length:=(aD.mp h0).1;have z0:∀a,¬U 0 a:=λa z=>((v.row 0 _ h0 a).mp z).elim
 intro d
 induction d with
 |zero=>exact λt h=>h.elim
 |succ d ih=>
  intro t ht n hn;cases t with
  |name x=>
   rw[num]at hn;obtain⟨k,hk,rfl⟩:=bD.mp hn;have hk':=PM hk;have :=(aD.mp hk').1;refine⟨(),λa=>?_⟩;rw[v.row k _ hk' a,val];exact Iff.rfl
  |node w ts=>
   obtain⟨hs,hts⟩:=ht.node;have ih':∀t∈ts,NV m ps S aC U t:=λt h=>ih t (hts t h)
   have vm:∀{u:List Nat}{a:Nat},(∀t∈ts,val m ps S t=u->True)->True:=λ_=>trivial
   rw[num]at hn;have cases5:=hs;rcases hs with⟨e,hz⟩ |⟨e,hz⟩ |⟨e,hz⟩ |⟨e,hz⟩ |⟨e,hz⟩
   ·subst e;rw[aH rfl]at hn;cases hn;refine⟨(),λa=>?_⟩;rw[val,wM,aH rfl];exact⟨λz=>(nomatch z),λz=>(z0 a z).elim⟩
   ·subst e;rw[aF (),aH rfl]at hn;cases hn;refine⟨(),λa=>?_⟩;rw[val,wM,aF (),aH rfl,bZ,v.odd 0 hl a];exact⟨λz=>⟨z,λb hb=>(z0 b hb).elim⟩,λz=>z.1⟩
   ·subst e;rw[aF (),aF (),aH rfl]at hn;obtain⟨n1,h1,rfl⟩:=bD.mp hn;obtain⟨l1,u1⟩:=XO f v hin false ih' h1;obtain⟨t,rfl⟩:∃t,ts=[t]:=by
     cases ts with
     |nil=>simp at hz
     |cons t r=>
      cases r with
      |nil=>exact⟨t,rfl⟩
      |cons _ _=>simp at hz
    refine⟨by unfold oI;lia,λa=>?_⟩;rw[val,wM,aF (),aF (),aH rfl,jN,v.turn f hin n1 l1];show a∈cnt m ps (val m ps S t)↔_;rw[fC];refine qC (λb=>?_) a;rw[u1 b];exact⟨λz t' ht'=>by cases aX.mp ht';exact z,λz=>z t aY⟩
   ·subst e;rw[aF (),aF (),aF (),show decide (("both":Str)="either")=false from dE ()]at hn;obtain⟨n1,h1,rfl⟩:=bD.mp hn;obtain⟨l1,u1⟩:=XO f v hin false ih' h1;refine⟨l1,λa=>?_⟩;rw[val,wM,aF (),aF (),aF (),aH rfl,jN,lU];show _↔U n1 a;constructor
    ·rintro⟨_,z⟩;exact(u1 a).mpr λt ht=>z _ (bO.mpr ⟨t,ht,rfl⟩)
    ·intro z;refine⟨v.lt f hin l1 z,λu hu=>?_⟩;obtain⟨t,ht,rfl⟩:=bO.mp hu;exact(u1 a).mp z t ht
   ·subst e;rw[aF (),aF (),aF (),show decide (("either":Str)="either")=true from dH rfl]at hn;obtain⟨n1,h1,rfl⟩:=bD.mp hn;obtain⟨l1,u1⟩:=XO f v hin true ih' h1;refine⟨by show oI n1<_;unfold oI;lia,λa=>?_⟩;rw[val,wM,aF (),aF (),aF (),aF (),jN,fC];show _↔U (oI n1) a;rw[v.turn f hin n1 l1];refine qC (λb=>?_) a;rw[lU,eG];constructor
    ·rintro⟨_,z⟩;exact(u1 b).mpr λt ht=>z _ (bO.mpr ⟨t,ht,rfl⟩)
    ·intro z;refine⟨v.lt f hin l1 z,λu hu=>?_⟩;obtain⟨t,ht,rfl⟩:=bO.mp hu;exact(u1 b).mp z t ht
end
theorem GO(h:aC.Nodup):(xT aC r).1.Nodup:=by
 unfold xT;split
 ·exact h
 ·rename_i hn
  refine FR.mpr ⟨h,by simp,λa ha b hb e=>?_⟩;rw[aX.mp hb]at e;subst e;unfold oF at hn;have :=List.findIdx?_eq_none_iff.mp hn a ha;rw[xD]at this;cases this
mutual
theorem FC:∀(t:Tm)(aC:List Rw),aC.Nodup->(eI t aC).1.Nodup
 | .name x,aC,h=>by rw[eI];exact GO h
 | .node w ts,aC,h=>by
   rw[eI];split
   ·exact h
   ·split
    ·exact h
    ·split
     ·exact KF _ ts aC h
     ·exact KF _ ts aC h
theorem KF(e:Bool):∀(ts:List Tm)(aC:List Rw),aC.Nodup->(jW e ts aC).1.Nodup
 |[],aC,h=>by rw[jW];exact h
 |t::ts,aC,h=>by
  rw[jW];exact KC e ts _ _ (FC t aC h)
theorem KC(e:Bool):∀(ts:List Tm)(aC:List Rw)(m:Nat),aC.Nodup->(xA e ts aC m).1.Nodup
 |[],aC,m,h=>by rw[xA];exact h
 |t::ts,aC,m,h=>by
  rw[xA];exact KC e ts _ _ (GO (FC t aC h))
end
mutual
theorem UL:∀(t:Tm)(aC:List Rw)(n:Nat),num aC t=some n->eI t aC=(aC,n)
 | .name x,aC,n,h=>by
   rw[num]at h;obtain⟨k,hk,rfl⟩:=bD.mp h;rw[eI,xT,hk]
 | .node w ts,aC,n,h=>by
   rw[num]at h;rw[eI];split at h
   ·rename_i c;rw[aH c];cases h;rfl
   ·rename_i c
    rw[aF c];split at h
    ·rename_i c;rw[aH c];cases h;rfl
    ·rename_i c
     rw[aF c];split at h
     ·rename_i c
      rw[aH c];obtain⟨k,hk,rfl⟩:=bD.mp h;rw[AK _ ts aC k hk]
     ·rename_i c
      rw[aF c];obtain⟨k,hk,rfl⟩:=bD.mp h;rw[AK _ ts aC k hk]
theorem AK(e:Bool):∀(ts:List Tm)(aC:List Rw)(n:Nat),wH aC e ts=some n->jW e ts aC=(aC,n)
 |[],aC,n,h=>by rw[wH]at h;cases h
 |t::ts,aC,n,h=>by
  rw[wH]at h;obtain⟨k,hk,h⟩:=dM.mp h;rw[jW,UL t aC k hk];exact AI e ts aC _ n h
theorem AI(e:Bool):∀(ts:List Tm)(aC:List Rw)(m n:Nat),wG aC e m ts=some n->xA e ts aC m=(aC,n)
 |[],aC,m,n,h=>by rw[wG]at h;cases h;rw[xA]
 |t::ts,aC,m,n,h=>by
  rw[wG]at h;obtain⟨k,hk,h⟩:=dM.mp h;obtain⟨q,hq,h⟩:=dM.mp h;rw[xA,UL t aC k hk];show xA e ts (xT aC (.bo (m:Int) (lE e k:Nat))).1 (xT aC (.bo (m:Int) (lE e k:Nat))).2=_;rw[xT,hq];exact AI e ts aC _ n h
end
theorem JH:∀(ts:List Tm)(aC:List Rw),(∀t∈ts,eM 20 t)->nT aC->aC.Nodup->nT (xK ts aC)/\(xK ts aC).Nodup
 |[],aC,_,h1,h2=>⟨h1,h2⟩
 |t::ts,aC,hf,h1,h2=>by
  rw[xK];exact JH ts _ (λt ht=>hf t (aV _ ht)) (qK t 20 aC (hf t aY) h1).1 (FC t aC h2)
theorem BP:∀(ts:List Tm)(aC:List Rw),(∀t∈ts,eM 20 t)->∀t∈ts,∃n,num (xK ts aC) t=some n
 |[],_,_,t,h=>by cases h
 |t0::ts,aC,hf,t,h=>by
  rw[xK];rcases bI.mp h with rfl |h
  ·obtain⟨xs,hx⟩:=JI ts (eI t aC).1;rw[hx];exact⟨_,kK _ _ _ _ (YQ t 20 aC (hf t aY))⟩
  ·exact BP ts _ (λt ht=>hf t (aV _ ht)) t h
theorem m8{t:Tm}(hf:eM 20 t)(h:∃n,num aC t=some n):i7 aC t:=by
 obtain⟨n,hn⟩:=h;exact⟨hf,by rw[UL t aC n hn]⟩
theorem i7.num{t:Tm}(h:i7 aC t):num aC t=some (eI t aC).2:=by
 have :=YQ t 20 aC h.1;rwa[h.2]at this
def Hs(m:Nat)(ps:List (Nat×Nat))(S:Str->List Nat)(s:Tm×Tm):Prop:=∀a,a∈val m ps S s.1->a∈val m ps S s.2
def Hr(m:Nat)(ps:List (Nat×Nat))(S:Str->List Nat)(r:mS):Prop:=(∀s∈r.1,Hs m ps S s)->Hs m ps S r.2
section
variable {m:Nat} {U:Nat->Nat->Prop} {book:List mS} {ls:List Ln}
theorem i7.val(f:Fw m ps S)(v:Vw m ps S aC U)(hs:nT aC){t:Tm}(h:i7 aC t):(eI t aC).2<2*aC.length/\∀a,a∈val m ps S t↔U (eI t aC).2 a:=du f v hs.in_ hs.hd 21 t h.1 _ h.num
theorem WG.hs(f:Fw m ps S)(v:Vw m ps S aC U)(hs:nT aC)(h:WG aC s):Hs m ps S s↔∀a,U (eI s.1 aC).2 a->U (eI s.2 aC).2 a:=by
 unfold Hs;exact forall_congr' λa=>by rw[(h.1.val f v hs).2 a,(h.2.val f v hs).2 a]
theorem ak(n:Nat):pX (n:Int)=((oI n:Nat):Int):=by unfold pX oI;lia
end
def n9(aC:List Rw)(R:Nat->Nat->Bool)(x:Str):List Nat:=match oF aC (.nm x)with
 |some k=>qO (xH (2*aC.length) R) R (2*k)
 |none=>[]
section
variable {book:List mS} {ls:List Ln}
theorem ER(hs:nT aC)(hp:Pl aC (2*aC.length) aC.length ls)(hc:Cl aC aT ls.length ls):Fw (xH (2*aC.length) (rl ls)).length (ZF (xH (2*aC.length) (rl ls)) (rl ls)) (n9 aC (rl ls)):=by
 have h:=Rl.of hp hc;refine⟨TM (VN _),λx a=>?_⟩;unfold n9;cases c:oF aC (.nm x)with
 |some k=>
  have :=PL c;rw[VM h ()]
 |none=>
  refine⟨λz=>(nomatch z),λz=>?_⟩;rw[fC]at z;have :=z.2 a (fC.mpr ⟨z.1,λb hb=>(nomatch hb)⟩);rw[TM (VN _)]at this;cases this
theorem NS(hs:nT aC)(hnd:aC.Nodup)(hp:Pl aC (2*aC.length) aC.length ls)(hc:Cl aC aT ls.length ls):Vw (xH (2*aC.length) (rl ls)).length (ZF (xH (2*aC.length) (rl ls)) (rl ls)) (n9 aC (rl ls)) aC (λn a=>a∈qO (xH (2*aC.length) (rl ls)) (rl ls) n):=by
 have h:=Rl.of hp hc;refine⟨λk r hr a=>?_,λk hk a=>?_⟩
 ·have hkl:=(aD.mp hr).1;cases r with
  |no=>
   have e:=hs.few k hr;subst e;show a∈qO _ _ 0↔False;rw[NW h hp.low];exact⟨λz=>(nomatch z),False.elim⟩
  |nm x=>
   show _↔a∈n9 aC (rl ls) x;have e:oF aC (.nm x)=some k:=by
    unfold oF;refine gD.mpr ⟨hkl,?_,λj hj=>?_⟩
    ·rw[(aD.mp hr).2];exact xD _
    ·intro z;have z:=(EY _ _).mp z;have e2:=(aD.mp hr).2;rw[←e2]at z;exact absurd ((List.getElem_inj hnd).mp z) ()
   unfold n9;rw[e]
  |bo i j=>
   obtain⟨⟨b1,b2⟩,b3,b4⟩:=hs.in_ k i j hr;obtain⟨p1,p2⟩:=hp.part k i j hkl hr;have hb:∀x,rl ls x i.toNat=true->rl ls x j.toNat=true->rl ls x (2*k)=true:=λx h1 h2=>by
    obtain⟨a,l,g1,g2,g3⟩:=fO.mp h1;obtain⟨b,l',g4,g5,g6⟩:=fO.mp h2;exact hc.both a b l l' x k i j (aD.mp g1).1 (aD.mp g4).1 g1 g4 g2 (by rw[g3];lia) g5 (by rw[g6];lia) hr
   have q1:rl ls (2*k) i.toNat=true:=by unfold rl;rw[nH b1];exact p1
   have q2:rl ls (2*k) j.toNat=true:=by unfold rl;rw[nH b3];exact p2
   have :=NX (sp:=xH (2*aC.length) (rl ls)) h q1 q2 hb;show a∈qO _ _ (2*k)↔a∈qO _ _ i.toNat/\a∈qO _ _ j.toNat;rw[←this,dP,cE]
 ·show a∈qO _ _ (2*k+1)↔_;have :=UY h (n:=2*k) ();rw[show nJ (2*k)=2*k+1 by unfold nJ;lia]at this;rw[←this,fC]
theorem EL(hs:nT aC)(hnd:aC.Nodup)(hp:Pl aC (2*aC.length) aC.length ls)(hc:Cl aC aT ls.length ls)(g:WG aC s):Hs (xH (2*aC.length) (rl ls)).length (ZF (xH (2*aC.length) (rl ls)) (rl ls)) (n9 aC (rl ls)) s↔zX ls (nS aC s).1 (nS aC s).2=true:=by
 have f:=ER hs hp hc;have v:=NS hs hnd hp hc;rw[g.hs f v hs];have :=KP (Rl.of hp hc) (g.1.val f v hs).1 (g.2.val f v hs).1;show _↔rl ls (eI s.1 aC).2 (eI s.2 aC).2=true;rw[←this,dB];exact forall_congr' λa=>forall_congr' λ_=>decide_eq_true_iff.symm
theorem mo(hs:nT aC)(hnd:aC.Nodup)(hp:Pl aC (2*aC.length) aC.length ls)(hc:Cl aC (book.map (nR aC)) ls.length ls)(hg:∀r∈book,ou aC r):∀r∈book,Hr (xH (2*aC.length) (rl ls)).length (ZF (xH (2*aC.length) (rl ls)) (rl ls)) (n9 aC (rl ls)) r:=λr hr h=>by
 obtain⟨_,g1,g2⟩:=hg r hr;have f:=ER hs hp hc;have v:=NS hs hnd hp hc;refine(EL hs hnd hp hc g2).mpr ?_;obtain⟨k,hk⟩:=iI (bO.mpr ⟨r,hr,rfl⟩:nR aC r∈book.map (nR aC));have l1:=(g2.1.val f v hs).1;have l2:=(g2.2.val f v hs).1;refine hc.rule k (nR aC r) hk ⟨⟨Int.natCast_nonneg _,?_⟩,Int.natCast_nonneg _,?_⟩ λp hp'=>?_
 ·show((eI r.2.1 aC).2:Int)<_;lia
 ·show((eI r.2.2 aC).2:Int)<_;lia
 ·obtain⟨s,hs1,rfl⟩:=bO.mp hp';obtain⟨a,l,q1,q2,q3⟩:=fO.mp ((EL hs hnd hp hc (g1 s hs1)).mp (h s hs1));exact⟨a,l,(aD.mp q1).1,q1,q2,q3⟩
end
theorem AS{x:Str}{n:Int}(h:wI x=some n):n<=2:=by
 unfold wI at h
 repeat' split at h
 all_goals first |(cases h;done) |(cases h;lia)
theorem UE(ls:List Ln)(k:Nat)(p:Int):yT ls k (.n p)=if 0<=p/\p<(k:Int)then(ls[p.toNat]?).map λl=>(l.i,l.j)else none:=rfl
theorem fmc{α β:Type}{f g:α->Option β}:∀{l:List α},(∀x∈l,f x=g x)->l.filterMap f=l.filterMap g
 |[],_=>rfl
 |x::l,h=>by rw[fS,fS,h x aY,fmc λy hy=>h y (aV _ hy)]
theorem uO{ls:List Ln}{k:Nat}{p:Int}(h:(yT ls k (.n p)).isSome=true):0<=p/\p<(k:Int):=by
 by_cases c:0<=p/\p<(k:Int)
 ·exact c
 ·rw[UE,aF c]at h;cases h
theorem VW{ls:List Ln}{k:Nat}:∀{as:List Wt},(as.all λa=>(yT ls k a).isSome)=true->∃ns:List Int,as=ns.map .n/\∀p∈ns,0<=p/\p<(k:Int)
 |[],_=>⟨[],rfl,λp z=>by cases z⟩
 |a::as,h=>by
  rw[List.all_cons,cA]at h;obtain⟨ns,e,hn⟩:=VW h.2;cases a with
  |n i=>exact⟨i::ns,by rw[e];rfl,λp hp=>by
     rcases bI.mp hp with rfl |hp
     ·exact uO h.1
     ·exact hn p hp⟩
  |ps q=>exact absurd h.1 (by simp[yT])
theorem aw{ls:List Ln}{k:Nat}(h:xI aC aT ls k l=true)(hr:∀r∈aT,r.1.length<=100):GL k l.w l.as:=by
 unfold xI at h;split at h
 ·cases h
 split at h
 ·next hw=>
  unfold jP at h;split at h
  ·next r ps e=>
   split at h
   ·split at h
    ·next q hq=>
     rw[cA]at h;have h2:(ps.map λp=>yT ls k (.n p))=q.1.map some:=by simpa using h.2
     have fA:ps.length=q.1.length:=by
      have :=cJ List.length h2;simpa using this
     have hq100:=hr q (aZ hq);rw[hw,e];refine glR k r ps () λp hp=>?_
     have hm:yT ls k (.n p)∈q.1.map some:=by
      rw[←h2];exact bO.mpr ⟨p,hp,rfl⟩
     obtain⟨y,_,e2⟩:=bO.mp hm;exact uO (by rw[←e2];rfl)
    ·cases h
   ·cases h
  ·cases h
 ·next hw=>
  split at h
  ·next hc=>
   obtain⟨ns,e,hn⟩:=VW hc.2;have :=AS hc.1;rw[e];rw[e,aE]at this;exact glN k l.w hw ns () hn
  ·cases h
theorem kS{ls:List Ln}(h:NB aC aT ls)(hr:∀r∈aT,r.1.length<=100):uB ls:=λk l hl=>aw (h.snd k l hl) hr
theorem av{ls ps:List Ln}{m:Nat}(hg:GW l.w l.as)(hS:∀p∈plc l.w l.as,yT ps m (.n (jQ p ks))=yT ls n (.n p)):
 xI aC aT ps m (pG ks l)=xI aC aT ls n l:=by
 rcases hg with⟨hw,ns,ha,_⟩ |⟨hw,r,qs,ha,_⟩
 ·rw[YE hw ha];rw[ha,tK hw]at hS;unfold xI;simp only;rw[aF hw,aF hw,ha];have e1:(((ns.map λp=>(jQ p ks:Int)).map Wt.n).all λa=>(yT ps m a).isSome)=((ns.map Wt.n).all λa=>(yT ls n a).isSome):=by
   rw[lS,lS,lS];rw[cK,dB,dB];refine forall_congr' λp=>forall_congr' λhp=>?_
   show(yT ps m (.n (jQ p ks))).isSome=true↔(yT ls n (.n p)).isSome=true;rw[hS p hp]
  have e2:((ns.map λp=>(jQ p ks:Int)).map Wt.n).filterMap (yT ps m)=(ns.map Wt.n).filterMap (yT ls n):=by
   rw[fZ,fZ,fZ];exact fmc λp hp=>hS p hp
  rw[e1,e2];simp only[aE]
 ·rw[kC hw ha];rw[ha,hw,tJ]at hS;unfold xI jP;simp only;rw[aH trivial,aH hw,ha];simp only;have e3:((qs.map λp=>(jQ p ks:Int)).map λp=>yT ps m (.n p))=qs.map λp=>yT ls n (.n p):=by
   rw[eG];exact List.map_congr_left λp hp=>hS p hp
  rw[e3]
theorem kW(ks:List Int)(l:Ln):(pG ks l).i=l.i/\(pG ks l).j=l.j:=by
 unfold pG;split<;>exact⟨rfl,rfl⟩
theorem tU{ls:List Ln}(hin:∀n∈ks,∃l,ls[n.toNat]?=some l)(m:Nat)(x:Ln):(vD ls ks ks.length)[m]?=some x↔∃n l,ks[m]?=some n/\ls[n.toNat]?=some l/\x=pG ks l:=by
 have e:∀(js:List Int),(∀n∈js,∃l,ls[n.toNat]?=some l)->js.filterMap (λn=>(ls[n.toNat]?).map (pG ks))=js.map λn=>(match ls[n.toNat]? with |some l=>pG ks l |none=>⟨0,0,"",[]⟩):=by
  intro js
  induction js with
  |nil=>intro _;rfl
  |cons j js ih=>
   intro h;obtain⟨l,hl⟩:=h j aY;rw[fS,hl,cD,hl,ih λn hn=>h n (aV _ hn)];rfl
 unfold vD;rw[aR (aJ _),e ks hin,aQ];constructor
 ·intro h;cases hk:ks[m]? with
  |none=>rw[hk]at h;cases h
  |some n=>
   obtain⟨l,hl⟩:=hin n (aZ hk);rw[hk]at h;simp only[mX,hl]at h;exact⟨n,l,rfl,hl,(bR h).symm⟩
 ·rintro⟨n,l,h1,h2,rfl⟩;rw[h1];simp only[mX,h2]
theorem RS{ls:List Ln}(hin:∀n∈ks,∃l,ls[n.toNat]?=some l):(vD ls ks ks.length).length=ks.length:=by
 rcases FM (vD ls ks ks.length).length ks.length with h |h |h
 ·obtain⟨l,hl⟩:=hin _ (cH h);have :=(tU hin (vD ls ks ks.length).length (pG ks l)).mpr ⟨_,l,aA h,hl,rfl⟩;rw[List.getElem?_eq_none (aJ _)]at this;cases this
 ·exact h
 ·have :=XM ls ks ks.length;lia
theorem bx(hr:ks.Pairwise (· <= ·)){m:Nat}{p n:Int}(ha:ks[a]?=some p)(hm:ks[m]?=some n)(h:p<n):a<m:=by
 by_cases c:a<m
 ·exact c
 ·obtain⟨h1,e1⟩:=aD.mp ha;obtain⟨h2,e2⟩:=aD.mp hm;by_cases e:m=a
  ·subst e;rw[e1]at e2;lia
  ·have :=(cS.mp hr) m a h2 h1 ();rw[e1,e2]at this;lia
theorem VD{nm:Int->List Int}{k:Nat}:∀i,∀p∈back nm k i,p=(k:Int)\/∃n∈back nm k i,p∈nm n
 |0,p,hp=>.inl (aX.mp hp)
 |i+1,p,hp=>by
  by_cases h:((k:Int)-i)∈back nm k i
  ·have hp':=hp;rw[qY h,xL]at hp;rcases hp with hp |hp
   ·rcases VD i p hp with e |⟨n,h1,h2⟩
    ·exact .inl e
    ·exact .inr ⟨n,uR h1,h2⟩
   ·exact .inr ⟨_,uR h,hp⟩
  ·rw[uS h]at hp;rcases VD i p hp with e |⟨n,h1,h2⟩
   ·exact .inl e
   ·exact .inr ⟨n,uR h1,h2⟩
theorem YM(hn:ks.Nodup){b:Nat}{p:Int}(h1:ks[a]?=some p)(h2:ks[b]?=some p):a=b:=by
 obtain⟨ha,e1⟩:=aD.mp h1;obtain⟨hb,e2⟩:=aD.mp h2;rcases FM a b with c |c |c
 ·exact absurd (e1.trans e2.symm) ((cS.mp hn) a b ha hb c)
 ·exact c
 ·exact absurd (e2.trans e1.symm) ((cS.mp hn) b a hb ha c)
theorem bv(h:GW l.w l.as):plc (pG ks l).w (pG ks l).as=(plc l.w l.as).map λp=>(jQ p ks:Int):=by
 rcases h with⟨hw,ns,ha,_⟩ |⟨hw,r,qs,ha,_⟩
 ·rw[YE hw ha,ha,tK hw,tK hw]
 ·rw[kC hw ha,ha,hw,tJ,tJ]
structure BX(aC:List Rw)(aT:List xJ)(ps:List Ln)(i j:Int):Prop where
 ok:NB aC aT ps
 ah:uB ps
 last:∃l,ps[ps.length-1]?=some l/\l.i=i/\l.j=j
 ne:1<=ps.length
 hang:∀m:Nat,m+1<ps.length->∃l∈ps,(m:Int)∈plc l.w l.as
theorem lc{ls:List Ln}{k:Nat}(h:NB aC aT ls)(hr:∀r∈aT,r.1.length<=100)(hk:ls[k]?=some l)(hks:Kept ls k ks):BX aC aT (vD ls ks ks.length) l.i l.j:=by
 have hah:=kS h hr;have hkl:=(aD.mp hk).1;have hki:=hks.inn hah;have hcl:=hks.closed hah;have hnd:=hks.nodup;have hin:∀n∈ks,∃l,ls[n.toNat]?=some l:=λn hn=>by
  have :=hki n hn;exact⟨_,aA (show n.toNat<ls.length by lia)⟩
 have fA:=RS hin;have hget:=tU hin;have hok:NB aC aT (vD ls ks ks.length):=by
  refine⟨λm x hx=>?_,λa b x y hx hy e1 e2=>?_,cy hah⟩
  ·obtain⟨n,l',h1,h2,rfl⟩:=(hget m x).mp hx;have hn:=aZ h1;have hgl:=hah _ l' h2;rw[av (n:=n.toNat) (ls:=ls) hgl.1 λp hp=>?_]
   ·exact h.snd _ _ h2
   ·have hpk:p∈ks:=hcl n hn p (by rw[HL h2];exact hp);have hp2:=hgl.2 p hp;have hpa:=vJ hpk;have hn0:=hki n hn;have lW:=bx hks.rise hpa h1 ();obtain⟨lp,hlp⟩:=hin p hpk;rw[UE,UE,aH (),aH (),hlp];have :(vD ls ks ks.length)[((jQ p ks:Nat):Int).toNat]?=some (pG ks lp):=by
     rw[bV];exact(hget _ _).mpr ⟨p,lp,hpa,hlp,rfl⟩
    rw[this];have :=kW ks lp;simp only[mX,this.1,this.2]
  ·obtain⟨n,l1,a1,a2,rfl⟩:=(hget a x).mp hx;obtain⟨n',l2,b1,b2,rfl⟩:=(hget b y).mp hy;have :=h.dis _ _ _ _ a2 b2 (by rw[←(kW ks l1).1,e1,(kW ks l2).1]) (by rw[←(kW ks l1).2,e2,(kW ks l2).2]);have q1:=hki n (aZ a1);have q2:=hki n' (aZ b1);have e:n=n':=by lia
   subst e;exact YM hnd a1 b1
 have hkk:(k:Int)∈ks:=hks.perm.mem_iff.mpr (QR _);have hpk:=vJ hkk;have hlast:jQ (k:Int) ks=ks.length-1:=by
  have h1:=(aD.mp hpk).1;by_cases c:jQ (k:Int) ks=ks.length-1
  ·exact c
  ·exfalso;have h2:ks.length-1<ks.length:=by lia
   have hle:=(cS.mp hks.rise) (jQ (k:Int) ks) (ks.length-1) h1 h2 ();rw[(aD.mp hpk).2]at hle;have h3:=hki _ (cH h2);have e:ks[ks.length-1]?=some (k:Int):=by rw[aA h2];congr 1;lia
   exact c (YM hnd hpk e)
 have h1:=(aD.mp hpk).1;refine⟨hok,kS hok hr,⟨pG ks l,?_,kW ks l⟩,(),λm hm=>?_⟩
 ·rw[fA,←hlast];exact(hget _ _).mpr ⟨k,l,hpk,by rw[bV];exact hk,rfl⟩
 ·rw[fA]at hm;have hm':m<ks.length:=by lia
  have em:=aA hm';have hmem:=cH hm';generalize ks[m]=n at em hmem;rcases VD (nm:=uP ls) (k+1) n (hks.perm.mem_iff.mp hmem)with e |⟨n',h2,h3⟩
  ·subst e;have :=YM hnd em hpk;lia
  ·have hn':n'∈ks:=hks.perm.mem_iff.mpr h2;obtain⟨l',eC⟩:=hin n' hn';have hpn:=vJ hn';rw[HL eC]at h3;refine⟨pG ks l',aZ ((hget _ _).mpr ⟨n',l',hpn,eC,rfl⟩),?_⟩;rw[bv (hah _ _ eC).1];have hmn:jQ n ks=m:=YM hnd (vJ hmem) em;exact bO.mpr ⟨n,h3,by rw[hmn]⟩
abbrev s_M:Stmt:=top 56
abbrev s_L:Stmt:=top 57
theorem OY:bW ["sheet","book","saying","lines","pair","found","world"] ["sheet","book","saying"] (zK s_L):=by rfl'
abbrev j5:Stmt:=top 58
theorem sc_ae:bW ["book","saying"] ["book","saying"] (zK j5):=by rfl'
def Vt(b:List mS)(s:Tm×Tm):Prop:=∀m ps S,Fw m ps S->(∀r∈b,Hr m ps S r)->Hs m ps S s
def ju:Sp:=λ_ _ _ _=>False
inductive spJo (K:W.Frag) (vs:List V) (H:Hp) (Q:VK) (E:XK):Prop
 |mk (sa ba:Addr) (v:V) (us bs:List V) (aC:List Rw) (b:List mS) (s:Tm×Tm) (_:vs=[.ref sa,.ref ba,v]) (_:H sa=some (.lst us)) (_:fP K H aC us) (_:nT aC) (_:aC.Nodup) (_:aC.length<=30) (_:H ba=some (.lst bs)) (_:iK H b bs) (_:b.length<=100) (_:(∀r∈b,ou aC r)) (_:oW H s v) (_:WG aC s) (_:Vt b s) (_:∀(p pa:Addr)(ws:List V)(ls:List Ln) H',bG H H'->H' p=some (.tup [.str "follows",.ref sa,.ref pa])->H' pa=some (.lst ws)->xQ H' ls ws->BX aC (b.map (nR aC)) ls (nS aC s).1 (nS aC s).2->ls.length<=3600->Q (.ref p) H')
theorem SR{k:Nat}{ps:List Str}:dG P w K mg base gJ k f fd ps ju:=⟨λ_ _ _ _ h=>h.elim,λ_ _ _ _ _ _ _ _ _ _ _ _ _ h=>h.elim⟩
theorem AB(bi:Bi mg)(h_G:fX P w K mg base 4 "closing" ["sheet","rules"] (gq K))(h_S:fX P w K mg base 47 "numbered" ["sheet","book"] (spNm K))(h_V:fX P w K mg base 45 "pair_of" ["places","saying"] (jt P w K))(h_H:fX P w K mg base 1 "places_of" ["sheet"] (jq P w K))(h_ab:fX P w K mg base 3 "paper" ["lines","i","j"] spPa)(h_Z:fX P w K mg base 2 "world_of" ["sheet","lines"] ju)(h_M:fX P w K mg base 26 "spot_against" ["world","saying"] ju)(F:gL K "judge_on" "judge_on" s_L f fd):dG P w K mg base gJ 48 f fd ["sheet","book","saying"] (spJo K):=by
 refine F.okz OY λfL A outer s H vs Q E hr h=>?_
 obtain⟨sa,ba,v,us,bs,aC,b,s,rfl,hsa,hrw,hs,hnd,hrl,lL,hb,hbl,hg,hv,gs,hvt,q⟩:=h;refine⟨_,(zD (yH 3 OY.nd (zI h_G hr.m rfl (zA (pv 0) (zA (zI h_S hr.m rfl (zA (pv 0) (zA (pv 1) zB))) zB)))) (zD (yH 4 OY.nd (zI h_V hr.m rfl (zA (zI h_H hr.m rfl (zA (pv 0) zB)) (zA (pv 2) zB)))) (zD (yH 5 OY.nd (zI h_ab hr.m rfl (zA (pv 3) (zA (zJ zN (pv 4) zF) (zA (zJ zN (pv 4) zF) zB))))) (zD (zZ (zQ cz (pv 5) vL (zO _)) (zG (zM (zP (zA zT (zA (pv 0) (zA (pv 5) zB)))))) zR) (zD (yH 6 OY.nd (zI h_Z hr.m rfl (zA (pv 0) (zA (pv 3) zB)))) (zG (zM (zP (zA zT (zA (pv 6) (zA (zI h_M hr.m rfl (zA (pv 6) (zA (pv 2) zB))) zB))))))))))),?_⟩;refine zH λN hN=>?_
 dsimp![];refine⟨sa,ba,us,bs,aC,b,rfl,hsa,hrw,hnd,(),lL,hb,hbl,hg,λpn ws H1 s1 kn hn=>?_⟩;have hprem:∀r∈b.map (nR aC),r.1.length<=100:=λr hr=>by
  obtain⟨r',hr',rfl⟩:=bO.mp hr;show(r'.1.map _).length<=100;rw[aE];have :=(hg r' hr').1;lia
 refine⟨sa,pn,us,ws,aC,b.map (nR aC),rfl,s1 _ _ hsa,hrw.same s1,kn,hn,(),hs.in_,by rw[aE];lia,hprem,λla wl ls H2 s2 kl lB gk hpl hcl=>hN _ _ ?_⟩;clear hN;replace s2:=s1.trans s2;clear s1 kn hn;refine zH λN hN=>?_
 dsimp![];refine⟨sa,us,aC,rfl,s2 _ _ hsa,hrw.same s2,hnd,(),λpa as J H3 s3 px=>?_⟩;refine⟨pa,v,aC,as,s,J,rfl,px,dD.same (s2.trans s3) hv,gs,λpp J4 H4 as4 s4 px4 kp=>hN _ _ ?_⟩;clear hN;have e24:bG H2 H4:=s3.trans (s4.trans px4.sub);replace kp:=px4.sub _ _ kp;clear px px4 s3 s4;replace kl:=e24 _ _ kl;replace lB:xQ H4 ls wl:=bA.same e24 lB;replace s2:=s2.trans e24;clear e24;refine zH λN hN=>?_
 dsimp![];have hll:ls.length<=3600:=dI gk.len (by
  have :2*aC.length<=60:=by lia
  exact Nat.mul_le_mul this this)
 refine⟨_,cW.of kp,_,iG,_,cW.of kp,_,nK,la,wl,ls,_,_,rfl,kl,lB,kS gk hprem,(),λr H5 s5 hpap=>hN _ _ ?_⟩;clear hN;replace s2:=s2.trans s5;clear kp kl lB;have hh:zX ls (nS aC s).1 (nS aC s).2=true:=(EL hs hnd hpl hcl gs).mp (hvt _ _ _ (ER hs hpl hcl) (mo hs hnd hpl hcl hg));obtain⟨p0,l0,g1,g2,g3⟩:=fO.mp hh;refine zH λN hN=>?_
 dsimp![];rcases hpap with⟨rfl,hno⟩ |⟨k,l,ks,hk,hij,_,hks,a',ws',rfl,ka',hws'⟩
 ·exact absurd ⟨g2,g3⟩ (hno l0 (aZ g1))
 ·rw[aH (λz=>by cases z)];have hpo:=lc gk hprem hk hks;rw[hij.1,hij.2]at hpo;have hpl:(vD ls ks ks.length).length<=3600:=by
   have :=XM ls ks ks.length;have h1:=hks.nodup;have h2:=wV h1 (k:=ls.length-1) λp hp=>by
    have :=hks.inn (kS gk hprem) p hp;have :=(aD.mp hk).1;lia
   lia
  exact⟨small (),λp hp=>q p a' ws' _ _ (s2.trans (zE hp _)) zC (zE hp _ _ _ ka') (bA.same (zE hp _) hws') hpo hpl⟩
inductive spJu (K:W.Frag) (vs:List V) (H:Hp) (Q:VK) (E:XK):Prop
 |mk (ba:Addr) (v:V) (bs:List V) (b:List mS) (s:Tm×Tm) (_:vs=[.ref ba,v]) (_:H ba=some (.lst bs)) (_:iK H b bs) (_:oW H s v) (_:b.length<=20) (_:(∀r∈b,r.1.length<=5)) (_:(∀t∈iJ b++iV s,eM 20 t)) (_:(xK (iJ b++iV s) [.no]).length<=30) (_:Vt b s) (_:∀(p sa pa:Addr)(us ws:List V)(ls:List Ln) H',bG H H'->H' p=some (.tup [.str "follows",.ref sa,.ref pa])->H' sa=some (.lst us)->fP K H' (xK (iJ b++iV s) [.no]) us->H' pa=some (.lst ws)->xQ H' ls ws->BX (xK (iJ b++iV s) [.no]) (b.map (nR (xK (iJ b++iV s) [.no]))) ls (nS (xK (iJ b++iV s) [.no]) s).1 (nS (xK (iJ b++iV s) [.no]) s).2->ls.length<=3600->Q (.ref p) H')
theorem am{r:mS}(h:r.1.length<=5):(NI r).length<=12:=by
 have :∀ps:List (Tm×Tm),(jO ps).length=2*ps.length:=λps=>by
  induction ps with
  |nil=>rfl
  |cons p ps ih=>
   show(iV p++jO ps).length=_;rw[aP,ih,bB];show 2+_=_;lia
 unfold NI;rw[aP,this];show _+2<=12;lia
theorem YB:∀{b:List mS},(∀r∈b,r.1.length<=5)->(iJ b).length<=12*b.length
 |[],_=>aJ _
 |r::b,h=>by
  show(NI r++iJ b).length<=_;rw[aP,bB];have :=am (h r aY);have :=YB (b:=b) λq hq=>h q (aV _ hq)
  lia
theorem IG(hf:∀t∈iJ b++iV s,eM 20 t)(hp:∀r∈b,r.1.length<=5):(∀r∈b,ou (xK (iJ b++iV s) [.no]) r)/\WG (xK (iJ b++iV s) [.no]) s:=by
 have hnum:=BP (iJ b++iV s) [.no] hf;have gd:∀t∈iJ b++iV s,i7 (xK (iJ b++iV s) [.no]) t:=λt ht=>m8 (hf t ht) (hnum t ht)
 have gs:∀{p:Tm×Tm},(∀t∈iV p,t∈iJ b++iV s)->WG (xK (iJ b++iV s) [.no]) p:=λ{p} h=>⟨gd _ (h _ (by simp[iV])),gd _ (h _ (by simp[iV]))⟩
 refine⟨λr hr=>⟨hp r hr,λp hp=>gs λt ht=>?_,gs λt ht=>?_⟩,gs λt ht=>bE _ ht⟩
 ·exact bS _ (cX.mpr ⟨r,hr,bS _ (cX.mpr ⟨p,hp,ht⟩)⟩)
 ·exact bS _ (cX.mpr ⟨r,hr,bE _ ht⟩)
theorem SD(bi:Bi mg)(h_L:fX P w K mg base 48 "judge_on" ["sheet","book","saying"] (spJo K))(h_P:fX P w K mg base 45 "sheet_of" ["terms"] (spSo K))(h_N:fX P w K mg base 1 "terms_in" ["book","saying"] spTI)(F:gL K "judge" "judge" j5 f fd):dG P w K mg base gJ 49 f fd ["book","saying"] (spJu K):=by
 refine F.okz sc_ae λfL A outer s H vs Q E hr h=>?_
 obtain⟨ba,v,bs,b,s,rfl,lL,hb,hv,hbl,hpl,hf,hr30,hvt,q⟩:=h;refine⟨_,(zG (zM (zI h_L hr.m rfl (zA (zI h_P hr.m rfl (zA (zI h_N hr.m rfl (zA (pv 0) (zA (pv 1) zB))) zB)) (zA (pv 0) (zA (pv 1) zB)))))),?_⟩;dsimp![];have htl:=YB hpl;obtain⟨hsh,hnd⟩:=JH (iJ b++iV s) [.no] hf nT.one (by simp);obtain⟨gb,gs⟩:=IG hf hpl;refine⟨ba,v,bs,b,s,rfl,lL,hb,hv,(),λpt ut H1 s1 kt ht=>?_⟩;refine⟨pt,ut,iJ b++iV s,rfl,kt,ht,hf,(),λp ws H2 s2 kp hrw=>?_⟩;replace s2:=s1.trans s2;refine⟨p,ba,v,ws,bs,_,b,s,rfl,kp,hrw,hsh,hnd,hr30,s2 _ _ lL,bA.same s2 hb,(),gb,dD.same s2 hv,gs,hvt,λp' pa ws' ls H' s' k1 k2 hl ho h3=>q p' p pa ws ws' ls H' (s2.trans s') k1 (s' _ _ kp) (hrw.same s') k2 hl ho h3⟩
abbrev s_F:Stmt:=top 60
theorem j4:bW ["script","k","cell","mixed"] ["script","k"] (zK s_F):=by rfl'
abbrev s_l:Stmt:=top 62
theorem oX:bW ["script","k","many","letters","first","spell","row","j","size","at","names","n","word"] ["script","k","many"] (zK s_l):=by rfl'
theorem HH:(0:Int)<10^Int.toNat 60:=by show(0:Int)<10^60;simp
theorem idxI(zs:List Int)(k:Int)(h0:0<=k)(h1:k<zs.length):∃z,oO (zs.map V.int) k=some (.int z):=by
 have hk:k.toNat<zs.length:=by lia
 exact⟨zs[k.toNat],uT h0 (by rw[aQ,aA hk];rfl)⟩
def ON(K:W.Frag):Sp:=λvs H Q _=>∃(a:Addr)(ns:List Int)(k:Nat),vs=[.ref a,.int k]/\dF K H a (ns.map V.int)/\ns.length<=63/\k<=100/\∀z:Int,0<=z->Q (.int z) H
structure Nms(H:Hp)(p:Addr)(m:Nat)(zs:List Str):Prop where
 lst:H p=some (.lst (zs.map V.str))
 len:zs.length=m
 nd:zs.Nodup
 nm:∀z∈zs,Nm z
theorem Nms.same{m:Nat}{zs:List Str}(e:bG H H')(h:Nms H p m zs):Nms H' p m zs:=⟨e _ _ h.lst,h.len,h.nd,h.nm⟩
inductive spNs (K:W.Frag) (vs:List V) (H:Hp) (Q:VK) (E:XK):Prop
 |mk (a:Addr) (ns:List Int) (k m:Nat) (_:vs=[.ref a,.int k,.int m]) (_:dF K H a (ns.map V.int)) (_:ns.length<=63) (_:k<=99) (_:1<=m) (_:m<=5) (_:∀p zs H',bG H H'->Nms H' p m zs->Q (.ref p) H')
def wd(rs:List Nat):Str:=⟨(rs.map (97+ ·)).toArray⟩
theorem vE(rs:List Nat):(wd rs).length=rs.length:=by
 show((rs.map (97+ ·)).toArray).size=_;rw[aL,aE]
theorem CK(rs:List Nat):(wd rs).cps.toList=rs.map (97+ ·):=rfl
theorem CJ{rs ts:List Nat}(h:wd rs=wd ts):rs=ts:=by
 have h2:rs.map (97+ ·)=ts.map (97+ ·):=cJ (λx:Str=>x.cps.toList) h;clear h
 induction rs generalizing ts with
 |nil=>cases ts with
  |nil=>rfl
  |cons t ts=>simp at h2
 |cons r rs ih=>cases ts with
  |nil=>simp at h2
  |cons t ts=>
   simp only[cD,List.cons.injEq]at h2;rw[ih h2.2,show r=t by lia]
theorem QF(n:Nat)(h:n<26):oO ("abcdefghijklmnopqrstuvwxyz":Str).cps.toList (n:Int)=some (97+n):=by
 have h2:∀k:Fin 26,("abcdefghijklmnopqrstuvwxyz":Str).cps.toList[k.val]?=some (97+k.val):=by decide+kernel
 exact yO (h2 ⟨n,h⟩)
theorem BD:∀(rs:List Nat),BE [] (rs.map λr=>[97+r])=rs.map (97+ ·)
 |[]=>rfl
 |[r]=>rfl
 |r::r'::rs=>by
  have ih:=BD (r'::rs);show [97+r]++[]++BE [] ((r'::rs).map λr=>[97+r])=_;rw[ih];rfl
theorem HZ(rs:List Nat):Txt.join "" (rs.map λr=>(⟨#[97+r]⟩:Str))=wd rs:=by
 have h:=MO [] (rs.map λr=>[97+r]);rw[eG,BD]at h;have e:("":Str)=FZ []:=by decide+kernel
 show Builtin.Str.glued "" _=_;rw[e];exact h
def wn(rs:List Nat)(sz at' n:Nat):List Nat:=(List.range sz).map λj=>(rs.getD j 0+(if j=at' then n else 0)) % 26
open Classical in
noncomputable def nmF (qs:List Nat):Str:=if wd qs="none"\/wd qs="all" then wd qs++"x" else wd qs
theorem kT(rs:List Nat)(sz at' n:Nat):(wn rs sz at' n).length=sz:=by unfold wn;rw[aE,dX]
theorem lq{rs:List Nat}{sz at':Nat}(hsz:1<=sz/\sz<=8):Nm (nmF (wn rs sz at' n)):=by
 have hl:=kT rs sz at' n;have hq:∀r∈wn rs sz at' n,r<26:=λr hr=>by
  unfold wn at hr;obtain⟨j,_,rfl⟩:=bO.mp hr;lia
 generalize wn rs sz at' n=qs at hl hq;have hw:∀c∈(wd qs).cps.toList,97<=c/\c<=122:=λc hc=>by
  rw[CK]at hc;obtain⟨r,hr,rfl⟩:=bO.mp hc;have :=hq r hr;lia
 unfold nmF;by_cases h:wd qs="none"\/wd qs="all"
 ·rw[aH h];rcases h with h |h
  ·rw[h];exact⟨(),(),(),(),()⟩
  ·rw[h];exact⟨(),(),(),(),()⟩
 ·rw[aF h];exact⟨by rw[vE];lia,by rw[vE];lia,hw,λe=>h (.inl e),λe=>h (.inr e)⟩
theorem app_x{x y:Str}(h:x++"x"=y++"x"):x=y:=by
 have h2:=cJ (λz:Str=>z.cps.toList) h;simp only[fe]at h2;have h3:=List.append_cancel_right h2;exact au (by rw[←Array.toList_inj];exact h3)
theorem dv{qs ts:List Nat}(hl:qs.length=ts.length)(h:nmF qs=nmF ts):qs=ts:=by
 have hx:("x":Str).length=1:=by decide+kernel
 unfold nmF at h;by_cases h1:wd qs="none"\/wd qs="all"<;>by_cases h2:wd ts="none"\/wd ts="all"
 ·rw[aH h1,aH h2]at h;exact CJ (app_x h)
 ·rw[aH h1,aF h2]at h;have :=cJ Str.length h;rw[HU,hx,vE,vE]at this;lia
 ·rw[aF h1,aH h2]at h;have :=cJ Str.length h;rw[HU,hx,vE,vE]at this;lia
 ·rw[aF h1,aF h2]at h;exact CJ h
theorem lr{rs:List Nat}{sz at' m:Nat}(hrl:rs.length=8)(hr:∀r∈rs,r<26)(hsz:sz<=8)(hat:at'<sz)(hm:m<=5):((List.range m).map λn=>nmF (wn rs sz at' n)).Nodup:=by
 refine cS.mpr λx y hx hy hxy e=>?_
 rw[aE,dX]at hx hy;rw[iQ,iQ,nX,nX]at e;have e2:=dv (by rw[kT,kT]) e;have e3:=cJ (·[at']?) e2;unfold wn at e3;simp only[aQ,List.getElem?_range hat,mX,FL,if_true]at e3;lia
theorem BJ(xs:List V)(k:Nat)(h:k<=xs.length):qJ xs none (some (k:Int))=xs.take k:=by
 unfold qJ;rw[HT.sIx_nat,HT.sIx_none,nY,Nat.sub_zero,Nat.min_eq_left h]
theorem dq(bi:Bi mg)(F:gL K "_law_draw" "_law_draw" s_F f fd):dG P w K mg base gJ 1 f fd ["script","k"] (ON K):=by
 refine F.okz j4 λfL A outer s H vs Q E hr h=>?_
 obtain⟨a,ns,k,rfl,hS,hl,hk,q⟩:=h;refine⟨_,(zD (zZ (zQ yE (zS yA rfl bi.len yJ (zA (pv 0) zB)) zF (zO _)) (zG (zM zF)) zR) (zD (yH 2 j4.nd (zU xC (zJ yB (pv 0) (zU xC (pv 1) (zS yA rfl bi.len yJ (zA (pv 0) zB)))) (zU DI zF zF))) (zD (zZ (zQ ZK (pv 1) (zS yA rfl bi.len yJ (zA (pv 0) zB)) (zO _)) (zG (zM (pv 2))) zR) (zD (yH 3 j4.nd (zU xC (zU qT (zU qT (pv 2) (zU xP (zU xP zF (pv 1)) (pv 1))) zF) zF)) (zG (zM (zU xC (zU xP (pv 3) (pv 3)) zF))))))),?_⟩;refine zH λN hN=>?_
 dsimp![];refine⟨_,.inl ⟨_,hS,rfl⟩,rfl,?_⟩;rw[aE];by_cases h0:ns.length=0
 ·rw[aH ()];exact q 0 ()
 rw[aF ()];refine hN _ _ ?_;clear hN;refine zH λN hN=>?_
 dsimp![];have hm0:0<=(k:Int) % (ns.length:Int):=fE _ ();have hm1:(k:Int) % (ns.length:Int)<ns.length:=lH _ ();obtain⟨z,hz⟩:=idxI ns ((k:Int) % (ns.length:Int)) hm0 hm1;refine⟨ns.length,.inl ⟨_,hS,by rw[aE]⟩,(),_,hS,_,hz,⟨(),(),()⟩,_,rfl,HH,hN _ _ ?_⟩;clear hN;have hc:=fE z (b:=10^Int.toNat 60) (Int.ne_of_gt HH);generalize z % 10^Int.toNat 60=cell at hc;refine zH λN hN=>?_
 dsimp![];refine⟨ns.length,.inl ⟨_,hS,by rw[aE]⟩,?_⟩;split
 ·exact q cell hc
 refine hN _ _ ?_;clear hN;refine zH λN hN=>?_
 dsimp![];refine⟨.inl ⟨(),()⟩,.inl ⟨(),()⟩,(),hN _ _ ?_⟩;clear hN;have h1:=fE (cell+7919*(k:Int)*(k:Int)+1) (b:=2147483647) ();have h2:=lH (cell+7919*(k:Int)*(k:Int)+1) (b:=2147483647) ();generalize (cell+7919*(k:Int)*(k:Int)+1) % 2147483647=mixed at h1 h2;dsimp![];refine⟨.inl ⟨(),()⟩,(),q _ (fE _ ())⟩
theorem SA(bi:Bi mg)(h_F:fX P w K mg base 1 "_law_draw" ["script","k"] (ON K))(F:gL K "_law_names" "_law_names" s_l f fd):dG P w K mg base gJ 2 f fd ["script","k","many"] (spNs K):=by
 refine F.okz oX λfL A outer s H vs Q E hr h=>?_
 obtain⟨a,ns,k,m,rfl,hS,hl,hk,h1,h5,q⟩:=h;refine⟨_,(zD (kX (i:=3) oX.nd rfl (Or.inr rfl) zT) (zD (yH 4 oX.nd (zI h_F hr.m rfl (zA (pv 0) (zA (pv 1) zB)))) (zD (yH 5 oX.nd (zU xC (zU xP (zI h_F hr.m rfl (zA (pv 0) (zA (zU qT (pv 1) zF) zB))) zF) (zU DI zF zF))) (zD (kX (i:=6) oX.nd rfl (Or.inr rfl) (xF zB)) (zD (yP bM rfl (xY rfl bi.range (zA zF zB)) (yF 7 oX.nd) (zD (yD (uD cR dR dQ jK (pv 6) (zA (zU xC (pv 5) zF) zB))) (zG (yH 5 oX.nd (zU jS (pv 5) zF))))) (zD (zZ (zQ yE (zU xC (pv 4) zF) zF (zO _)) (zD (vI (zU qT zF (zU xC (zJ yB (pv 6) zF) zF)) (km (pv 6) zF XD)) (zG (zM (yZ ["j"] ["letters","row"] [3,6] (xY rfl bi.range (zA (pv 2) zB)) (λ_ _ _ _ nd=>yF 0 nd) (λ_ _ _ _=>yU) (λ_ _ _ _=>(k0 K PySem.F.plainAttrs_str PySem.F.slot_str_join PySem.F.type_str_join (SU K) zT (zA (by exact(yZ ["n"] ["letters"] [1] (RH K (xO (OS K) (pv 2) jD (jC (zU qT (pv 0) zF)))) (λ_ _ _ _ nd=>yF 0 nd) (λ_ _ _ _=>yU) (λ_ _ _ _=>(zJ TJ (pv 1) (pv 0))))) zB))))))) zR) (zD (yH 8 oX.nd (zU qT zF (zU xC (zU jS (pv 4) zF) zF))) (zD (kX (i:=9) oX.nd rfl (Or.inr rfl) (zU xC (zU jS (pv 4) zF) (pv 8))) (zD (yH 10 oX.nd (xF zB)) (zD (yP bM rfl (xY rfl bi.range (zA (pv 2) zB)) (HD (i:=11) oX.nd rfl (Or.inr rfl)) (zD (yH 12 oX.nd (uD PySem.F.plainAttrs_str PySem.F.slot_str_join PySem.F.type_str_join HM zT (zA (yZ ["j"] ["letters","row","n","at"] [3,6,11,9] (xY rfl bi.range (zA (pv 8) zB)) (λ_ _ _ _ nd=>yF 0 nd) (λ_ _ _ _=>yU) (λ_ _ _ _=>(zJ TJ (pv 1) (zU xC (zU qT (zJ (qF K) (pv 2) (pv 0)) (zU xP (pv 3) (jJ QL rfl bi.int VB (zA (yM yE (pv 0) (pv 4) (zO _)) zB)))) zF)))) zB))) (zD (zZ (PW.pt (jX (zQ yE (pv 12) zT (zO _)) (uJ (zQ yE (pv 12) zT (zO _))))) (zG (yH 12 oX.nd (zU DM (pv 12) zT))) zR) (zG (yD (uD cR dR dQ jK (pv 10) (zA (pv 12) zB))))))) (zG (zM (pv 10))))))))))))),?_⟩;refine zH λN hN=>?_
 dsimp![];refine hN _ _ ?_;clear hN;refine zH λN hN=>?_
 dsimp![ON];refine⟨ns,k,rfl,hS,hl,(),λfi hfi=>hN _ _ ?_⟩;clear hN;refine zH λN hN=>?_
 dsimp![ON];refine⟨ns,k+1,(),hS,hl,(),λz hz=>⟨.inr ⟨(),()⟩,⟨(),(),()⟩,(),hN _ _ ?_⟩⟩;clear hN;have hsp:=fE (z*982451653) (b:=26^Int.toNat 8) ();generalize z*982451653 % 26^Int.toNat 8=sp at hsp;refine zH λN hN=>?_
 dsimp![];refine⟨small (),λpr hpr=>hN _ _ ?_⟩;clear hN;have s1:=zE hpr (.lst []);have k1:upd H pr (.lst []) pr=some (.lst (([]:List Nat).map nV)):=zC;generalize upd H pr (.lst [])=H1 at s1 k1⊢;refine yK (λσ H'=>∃(rs:List Nat)(sp:Int)(o:Option V),bG H H'/\H' pr=some (.lst (rs.map nV))/\rs.length=8/\(∀r∈rs,r<26)/\σ=[some (V.ref a),some (V.int k),some (V.int m),some (V.str "abcdefghijklmnopqrstuvwxyz"),some (V.int fi),some (V.int sp),some (V.ref pr),o,none,none,none,none,none]) (λN hN=>?_) (λσ H' h=>?_)
 ·dsimp![];refine⟨(),(),?_⟩;refine BG (n:=Int.toNat 8) (λi σ H'=>∃(rs:List Nat)(sp:Int)(o:Option V),bG H H'/\H' pr=some (.lst (rs.map nV))/\rs.length=i/\(∀r∈rs,r<26)/\0<=sp/\σ=[some (V.ref a),some (V.int k),some (V.int m),some (V.str "abcdefghijklmnopqrstuvwxyz"),some (V.int fi),some (V.int sp),some (V.ref pr),o,none,none,none,none,none]) ⟨[],_,_,s1,k1,rfl,(λr hr=>by cases hr),hsp,rfl⟩ (λi σ H' hi h=>?_) (λσ H' h=>?_)
  ·obtain⟨rs,sp,o,s2,k2,hrl,hr26,hs0,rfl⟩:=h;have hi8:i<8:=hi;dsimp![];have h0:0<=sp % 26:=by lia
   refine⟨.inl ⟨rfl,_,dF.of k2⟩,(),_,k2,qL (by rw[aE];lia),⟨(),()⟩,s2.upd hpr,rs++[(sp % 26).toNat],?_,by rw[aP,hrl];rfl,λr hr=>?_,sp/26,(),rfl,_,rfl⟩
   ·rw[zC,bF];show some (HO.lst (rs.map nV++[V.int (sp % 26)]))=some (HO.lst (rs.map nV++[V.int (((sp % 26).toNat:Nat):Int)]));rw[show(((sp % 26).toNat:Nat):Int)=sp % 26 by lia]
   ·rcases bX.mp hr with hr |hr
    ·exact hr26 r hr
    ·rw[aX.mp hr];lia
  ·obtain⟨rs,sp,o,s2,k2,hrl,hr26,hs0,rfl⟩:=h;exact hN _ _ ⟨rs,_,_,s2,k2,hrl,hr26,rfl⟩
 clear s1 k1;obtain⟨rs,sp,o,s1,k1,hrl,hr26,rfl⟩:=h;refine zH λN hN=>?_
 dsimp![gSub,GS];refine⟨(),rfl,?_⟩;by_cases hf3:fi % 3=0
 ·rw[aH hf3];obtain⟨r0,rt,rfl⟩:∃r0 rt,rs=r0::rt:=by
   cases rs with
   |nil=>simp at hrl
   |cons r0 rt=>exact⟨r0,rt,rfl⟩
  replace k1:H' pr=some (.lst (nV r0::rt.map nV)):=k1;refine⟨_,dF.of k1,nV r0,iG,_,rfl,(),?_⟩;obtain⟨r1,mC,e1⟩:∃r1:Nat,(1<=r1/\r1<=12)/\(1+(r0:Int) % 12)=(r1:Int):=⟨1+r0 % 12,(),()⟩
  rw[e1];refine⟨_,k1,0,by simp[NJ],(),(),?_⟩;show WV _ _ _ _ _ _ _ (upd H' pr (HO.lst ((r1::rt).map nV))) Q;have hr':∀r∈r1::rt,r<26:=λr hr=>by
   rcases bI.mp hr with rfl |hr
   ·lia
   ·exact hr26 r (aV _ hr)
  have hrl':(r1::rt).length=8:=hrl;have s2:=s1.upd (o:=.lst ((r1::rt).map nV)) hpr;have k2:upd H' pr (.lst ((r1::rt).map nV)) pr=some (.lst ((r1::rt).map nV)):=zC;generalize upd H' pr (.lst ((r1::rt).map nV))=H2 at s2 k2⊢;clear k1 s1 hrl hr26;refine XV (n:=(m:Int).toNat) (λi ys σ H3=>bG H2 H3/\ys=(List.range i).map (λj=>V.str (wd ((r1::rt).take (j+1))))/\∃o,σ=[o,some (V.str "abcdefghijklmnopqrstuvwxyz"),some (V.ref pr)]) ⟨bG.refl _,rfl,_,rfl⟩ (small ()) (λi ys σ H3 e=>?_) (λi ys σ H3 C hi e hC=>?_) (λys σ H3 e p hp=>?_)
  ·rw[e.2.1,aE,dX];exact aJ _
  ·obtain⟨s3,rfl,o,rfl⟩:=e;have e0:(0:Int)+(i:Int)+1=((i+1:Nat):Int):=by lia
   dsimp![];refine⟨rfl,_,dF.of (s3 _ _ k2),λp1 lV=>?_⟩;rw[e0,BJ _ _ (by rw[aE];lia),←oU];have s4:=s3.trans (zE lV (.lst (((r1::rt).take (i+1)).map nV)));have k4:upd H3 p1 (.lst (((r1::rt).take (i+1)).map nV)) p1=some (.lst (((r1::rt).take (i+1)).map nV)):=zC;generalize upd H3 p1 (.lst (((r1::rt).take (i+1)).map nV))=H4 at s4 k4⊢;have hq:∀r∈(r1::rt).take (i+1),r<26:=λr hr=>hr' r (cQ hr)
   have hql:((r1::rt).take (i+1)).length<=8:=by rw[bH];lia
   generalize hqs:(r1::rt).take (i+1)=qs at k4 hq hql⊢;refine⟨⟨_,dF.of k4⟩,?_⟩;refine uG (xs:=qs.map nV) (λk ys σ H5=>H5=H4/\ys=(qs.take k).map (λr=>V.str ⟨#[97+r]⟩)/\∃o,σ=[o,some (V.str "abcdefghijklmnopqrstuvwxyz")]) ⟨rfl,rfl,_,rfl⟩ (small (by rw[aE];lia)) (λk ys σ H5 e=>?_) (λk ys σ H5 e=>by rw[e.1];exact dF.of k4) (λk x ys σ H5 C' hx e hC'=>?_) (λys σ H5 e p hp=>?_)
   ·rw[e.2.1,aE,bH];exact Nat.min_le_left ..
   ·obtain⟨rfl,rfl,o,rfl⟩:=e;rw[aQ]at hx;obtain⟨r,hr,rfl⟩:=bD.mp hx;obtain⟨hkl,hk2⟩:=aD.mp hr;dsimp![];refine⟨small (),_,QF r (hq r (aZ hr)),hC' _ _ _ ⟨rfl,?_,_,rfl⟩⟩;rw[aO hkl,hk2,bF];rfl
   ·obtain⟨rfl,rfl,o,rfl⟩:=e;rw[aE,aR (aJ _)];refine⟨p,rfl,qs.map (λr=>(⟨#[97+r]⟩:Str)),dF.of (by rw[zC,eG];rfl),?_,hC _ _ _ ⟨s4.trans (zE hp _),?_,_,rfl⟩⟩
    ·rw[eG];have e1:((λx:Str=>x.length) ∘ λr=>(⟨#[97+r]⟩:Str))=λ_=>1:=rfl
     rw[e1,aE];have e2:(qs.map λ_=>1).sum=qs.length:=by
      clear hqs k4 hq hql
      induction qs with
      |nil=>rfl
      |cons q qs ih=>rw[cD,List.sum_cons,ih,bB];lia
     rw[e2,show(Str.ofString "").length=0 from rfl];lia
    ·rw[HZ,List.range_succ,bF,←hqs];rfl
  ·obtain⟨s3,rfl,o,rfl⟩:=e;rw[show(m:Int).toNat=m from bV _];refine q p ((List.range m).map λj=>wd ((r1::rt).take (j+1))) _ ((s2.trans s3).trans (zE hp _)) ⟨by rw[zC,eG];rfl,by rw[aE,dX],?_,λz hz=>?_⟩
   ·refine cS.mpr λx y hx hy hxy e=>?_
    rw[aE,dX]at hx hy;rw[iQ,iQ,nX,nX]at e;have :=cJ List.length (CJ e);rw[bH,bH]at this;lia
   ·obtain⟨j,hj,rfl⟩:=bO.mp hz;have hj:=bZ.mp hj;have hlj:(wd ((r1::rt).take (j+1))).length=j+1:=by rw[vE,bH];lia
    have h0:(wd ((r1::rt).take (j+1))).cps.toList[0]?=some (97+r1):=by rw[CK];rfl
    refine⟨(),(),λc hc=>?_,λe=>?_,λe=>?_⟩
    ·rw[CK]at hc;obtain⟨r,hr,rfl⟩:=bO.mp hc;have :=hr' r (cQ hr);lia
    ·rw[e,show("none":Str).cps.toList[0]?=some 110 by decide+kernel]at h0;have :=bR h0;lia
    ·rw[e,show("all":Str).cps.toList[0]?=some 97 by decide+kernel]at h0;have :=bR h0;lia
 rw[aF hf3];refine hN _ _ ?_;clear hN;refine zH λN hN=>?_
 dsimp![];refine⟨⟨(),()⟩,(),hN _ _ ?_⟩;clear hN;obtain⟨sz,hsz,esz⟩:∃sz:Nat,(1<=sz/\sz<=8)/\1+fi/3 % 8=(sz:Int):=⟨(1+fi/3 % 8).toNat,(),()⟩
 rw[esz];refine zH λN hN=>?_
 dsimp![];refine⟨⟨(),()⟩,(),hN _ _ ?_⟩;clear hN;have ha0:=fE (fi/24) (b:=(sz:Int)) ();have ha1:=lH (fi/24) (b:=(sz:Int)) ();obtain⟨at',hat,pH⟩:∃at':Nat,at'<sz/\fi/24 % (sz:Int)=(at':Int):=⟨(fi/24 % (sz:Int)).toNat,(),()⟩
 rw[pH];clear ha0 ha1 pH esz;refine zH λN hN=>?_
 dsimp![];refine⟨small (),λpn hpn=>hN _ _ ?_⟩;clear hN;have npn:=s1.free hpn;have nrn:pr≠pn:=xV k1 hpn;have s2:=s1.trans (zE hpn (.lst []));have k2:upd H' pn (.lst []) pn=some (.lst (([]:List Str).map V.str)):=zC;replace k1:=zE hpn (.lst []) _ _ k1;generalize upd H' pn (.lst [])=H2 at s2 k1 k2⊢;refine yK (λσ H'=>∃(o7 o11 o12:Option V),bG H H'/\H' pn=some (.lst (((List.range m).map λn=>nmF (wn rs sz at' n)).map V.str))/\σ=[some (V.ref a),some (V.int k),some (V.int m),some (V.str "abcdefghijklmnopqrstuvwxyz"),some (V.int fi),some (V.int sp),some (V.ref pr),o7,some (V.int sz),some (V.int at'),some (V.ref pn),o11,o12]) (λN hN=>?_) (λσ H' h=>?_)
 ·dsimp![];refine⟨(),(),?_⟩;refine BG (n:=(m:Int).toNat) (λi σ H'=>∃(o7 o11 o12:Option V),bG H H'/\H' pr=some (.lst (rs.map nV))/\H' pn=some (.lst (((List.range i).map λn=>nmF (wn rs sz at' n)).map V.str))/\σ=[some (V.ref a),some (V.int k),some (V.int m),some (V.str "abcdefghijklmnopqrstuvwxyz"),some (V.int fi),some (V.int sp),some (V.ref pr),o7,some (V.int sz),some (V.int at'),some (V.ref pn),o11,o12]) ⟨_,_,_,s2,k1,k2,rfl⟩ (λi σ H' hi h=>?_) (λσ H' h=>?_)
  rotate_left
  ·obtain⟨o7,o11,o12,s3,_,k3,rfl⟩:=h;rw[show(m:Int).toNat=m from bV _]at k3;exact hN _ _ ⟨_,_,_,s3,k3,rfl⟩
  obtain⟨o7,o11,o12,s3,kr,k3,rfl⟩:=h;have e0:(0:Int)+(i:Int)=((i:Nat):Int):=by lia
  have him:i<m:=by lia
  show LA _ _ _ _ _;refine zH λN hN=>?_
  dsimp![];rw[e0];refine⟨rfl,(),(),?_⟩;refine XV (n:=(sz:Int).toNat) (λj ys σ H5=>H5=H'/\ys=((wn rs sz at' i).take j).map (λr=>V.str ⟨#[97+r]⟩)/\∃o,σ=[o,some (V.str "abcdefghijklmnopqrstuvwxyz"),some (V.ref pr),some (V.int i),some (V.int at')]) ⟨rfl,rfl,_,rfl⟩ (small ()) (λj ys σ H5 e=>?_) (λj ys σ H5 C' hj e hC'=>?_) (λys σ H5 e p hp=>?_)
  ·rw[e.2.1,aE,bH];exact Nat.min_le_left ..
  ·obtain⟨rfl,rfl,o,rfl⟩:=e;have e1:(0:Int)+(j:Int)=((j:Nat):Int):=by lia
   have hj8:j<rs.length:=by lia
   dsimp![];rw[e1];refine⟨_,dF.of kr,nV rs[j],yO (by rw[aQ,aA hj8];rfl),?_⟩;have e2:((rs[j]:Int)+(i:Int)*(if(j:Int)=(at':Int)then 1 else 0)) % 26=(((rs.getD j 0+(if j=at' then i else 0)) % 26:Nat):Int):=by
    rw[dZ,aA hj8];show((rs[j]:Int)+(i:Int)*(if(j:Int)=(at':Int)then 1 else 0)) % 26=(((rs[j]+(if j=at' then i else 0)) % 26:Nat):Int)
    by_cases hja:j=at'
    ·rw[aH hja,aH ()];lia
    ·rw[aF hja,aF ()];lia
   refine⟨rfl,.inl ⟨(),()⟩,_,rfl,(),small (),97+(rs.getD j 0+(if j=at' then i else 0)) % 26,?_,hC' _ _ _ ⟨rfl,?_,_,rfl⟩⟩
   ·rw[e2];exact QF _ ()
   ·have hjl:j<(wn rs sz at' i).length:=by rw[kT];lia
    rw[aO hjl,bF];have e3:(wn rs sz at' i)[j]=(rs.getD j 0+(if j=at' then i else 0)) % 26:=by
     have :(wn rs sz at' i)[j]?=some ((rs.getD j 0+(if j=at' then i else 0)) % 26):=by
      unfold wn;rw[aQ,List.getElem?_range ()];rfl
     rw[aA hjl]at this;exact bR this
    rw[e3];rfl
  obtain⟨rfl,rfl,o,rfl⟩:=e;rw[show(sz:Int).toNat=sz from bV _,aR (by rw[kT];exact aJ _)];have hwl:=kT rs sz at' i;refine⟨p,rfl,(wn rs sz at' i).map (λr=>(⟨#[97+r]⟩:Str)),dF.of (by rw[zC,eG];rfl),?_,hN _ _ ?_⟩
  ·rw[eG];have e1:((λx:Str=>x.length) ∘ λr=>(⟨#[97+r]⟩:Str))=λ_=>1:=rfl
   rw[e1,aE];have e2:∀qs:List Nat,(qs.map λ_=>1).sum=qs.length:=λqs=>by
    induction qs with
    |nil=>rfl
    |cons q qs ih=>rw[cD,List.sum_cons,ih,bB];lia
   rw[e2,show(Str.ofString "").length=0 from rfl];lia
  clear hN;rw[HZ];have s4:=s3.trans (zE hp (.lst ((wn rs sz at' i).map λr=>V.str ⟨#[97+r]⟩)));replace kr:=zE hp (.lst ((wn rs sz at' i).map λr=>V.str ⟨#[97+r]⟩)) _ _ kr;replace k3:=zE hp (.lst ((wn rs sz at' i).map λr=>V.str ⟨#[97+r]⟩)) _ _ k3;generalize upd H5 p (.lst ((wn rs sz at' i).map λr=>V.str ⟨#[97+r]⟩))=H6 at s4 kr k3⊢;refine yK (λσ H'=>H'=H6/\σ=[some (V.ref a),some (V.int k),some (V.int m),some (V.str "abcdefghijklmnopqrstuvwxyz"),some (V.int fi),some (V.int sp),some (V.ref pr),o7,some (V.int sz),some (V.int at'),some (V.ref pn),some (V.int i),some (V.str (nmF (wn rs sz at' i)))]) (λN hN=>?_) (λσ H' h=>?_)
  ·have hx1:(wd (wn rs sz at' i)).length+(Str.ofString "x").length<=sizeLine:=by
    rw[vE,hwl,show(Str.ofString "x").length=1 by decide+kernel];exact small ()
   dsimp![];unfold nmF at hN;refine⟨rfl,?_⟩;by_cases c1:wd (wn rs sz at' i)="none"
   ·rw[aH c1];rw[aH (.inl c1)]at hN;exact⟨hx1,hN _ _ ⟨rfl,rfl⟩⟩
   rw[aF c1];refine⟨rfl,?_⟩;by_cases c2:wd (wn rs sz at' i)="all"
   ·rw[aH c2];rw[aH (.inr c2)]at hN;exact⟨hx1,hN _ _ ⟨rfl,rfl⟩⟩
   rw[aF c2];rw[aF (by rintro(z |z);exact c1 z;exact c2 z)]at hN;exact hN _ _ ⟨rfl,rfl⟩
  obtain⟨rfl,rfl⟩:=h;dsimp![];refine⟨.inl ⟨rfl,_,dF.of k3⟩,_,k3,qL (by rw[aE,aE,dX];lia),s4.upd npn,by rw[zL nrn];exact kr,?_,_,rfl⟩;rw[zC,List.range_succ,bF,bF];rfl
 obtain⟨o7,o11,o12,s3,k3,rfl⟩:=h;dsimp![];exact q pn _ _ s3 ⟨k3,by rw[aE,dX],lr hrl hr26 hsz.2 hat h5,λz hz=>by
  obtain⟨n,_,rfl⟩:=bO.mp hz;exact lq hsz⟩
abbrev s_y:Stmt:=top 76
theorem bb:bW ["pick","names","one","way","other"] ["pick","names"] (zK s_y):=by rfl'
inductive jo (vs:List V) (H:Hp) (Q:VK) (E:XK):Prop
 |mk (c:Int) (na:Addr) (j:Nat) (zs:List Str) (_:vs=[.int c,.ref na]) (_:0<=c) (_:Nms H na j zs) (_:1<=j) (_:j<=5) (_:∀v t H',bG H H'->hG H' t v->eM 2 t->wt t<=4->(∀x∈MD t,x∈zs)->Q v H')
theorem RY(bi:Bi mg)(F:gL K "_law_small" "_law_small" s_y f fd):dG P w K mg base gJ 1 f fd ["pick","names"] jo:=by
 refine F.okz bb λfL A outer s H vs Q E hr h=>?_
 obtain⟨c,na,j,zs,rfl,hc,hnm,hj1,hj5,q⟩:=h;refine⟨_,(zD (yH 2 bb.nd (zP (zA zT (zA (zJ yB (pv 1) (zU xC (pv 0) (zS yA rfl bi.len yJ (zA (pv 1) zB)))) zB)))) (zD (yH 3 bb.nd (zU xC (zU jS (pv 0) (zS yA rfl bi.len yJ (zA (pv 1) zB))) zF)) (zD (yH 4 bb.nd (zP (zA zT (zA (zJ yB (pv 1) (zU xC (zU jS (zU jS (pv 0) (zS yA rfl bi.len yJ (zA (pv 1) zB))) zF) (zS yA rfl bi.len yJ (zA (pv 1) zB)))) zB)))) (zD (zZ (zQ yE (pv 3) zF (zO _)) (zG (zM (zP (zA zT (zA (pv 2) zB))))) zR) (zD (zZ (zQ yE (pv 3) zF (zO _)) (zG (zM (zP (zA zT zB)))) zR) (zD (zZ (zQ yE (pv 3) zF (zO _)) (zG (zM (zP (zA zT (zA (pv 2) (zA (pv 4) zB)))))) zR) (zD (zZ (zQ yE (pv 3) zF (zO _)) (zG (zM (zP (zA zT (zA (pv 4) (zA (zP (zA zT (zA (pv 2) zB))) zB)))))) zR) (zD (zZ (zQ yE (pv 3) zF (zO _)) (zG (zM (zP (zA zT zB)))) zR) (zG (zM (pv 2))))))))))),?_⟩;have hjz:=hnm.len;have ix:∀c:Int,∃n,c % (zs.length:Int)=(n:Nat)/\∃h:n<zs.length,oO (zs.map V.str) ((n:Nat):Int)=some (V.str zs[n]):=λc=>by
  have h1:=fE c (b:=(zs.length:Int)) ();have h2:=lH c (b:=(zs.length:Int)) ();have h3:(c % (zs.length:Int)).toNat<zs.length:=by lia
  exact⟨(c % (zs.length:Int)).toNat,(),h3,yO (by rw[aQ,aA h3];rfl)⟩
 refine zH λN hN=>?_
 dsimp![];obtain⟨n1,e1,hn1,ha1⟩:=ix c;refine⟨zs.length,.inl ⟨_,dF.of hnm.lst,(aE _).symm⟩,(),_,dF.of hnm.lst,V.str zs[n1],by rw[e1];exact ha1,small (),λp1 lV=>hN _ _ ?_⟩;clear hN;have s1:=zE lV (.tup [V.str "name",V.str zs[n1]]);have t1:hG (upd H p1 (.tup [V.str "name",V.str zs[n1]])) (.name zs[n1]) (.ref p1):=hG.mkName zC;generalize upd H p1 (.tup [V.str "name",V.str zs[n1]])=H1 at s1 t1⊢;have hm1:zs[n1]∈zs:=cH hn1;have hN1:=hnm.nm _ hm1;generalize zs[n1]=y1 at t1 hm1 hN1;refine zH λN hN=>?_
 dsimp![];refine⟨zs.length,.inl ⟨_,dF.of (s1 _ _ hnm.lst),(aE _).symm⟩,?_⟩;refine⟨⟨(),()⟩,(),hN _ _ ?_⟩;clear hN;generalize c/(zs.length:Int) % 7=way;obtain⟨n2,e2,hn2,ha2⟩:=ix (c/(zs.length:Int)/7);refine zH λN hN=>?_
 dsimp![];refine⟨zs.length,.inl ⟨_,dF.of (s1 _ _ hnm.lst),(aE _).symm⟩,⟨(),()⟩,⟨(),()⟩,zs.length,.inl ⟨_,dF.of (s1 _ _ hnm.lst),(aE _).symm⟩,(),_,dF.of (s1 _ _ hnm.lst),V.str zs[n2],by rw[e2];exact ha2,small (),λp2 hp2=>hN _ _ ?_⟩;clear hN;have s2:=zE hp2 (.tup [V.str "name",V.str zs[n2]]);have t2:hG (upd H1 p2 (.tup [V.str "name",V.str zs[n2]])) (.name zs[n2]) (.ref p2):=hG.mkName zC;replace t1:=hG.tups s2.tups t1;replace s2:=s1.trans s2;generalize upd H1 p2 (.tup [V.str "name",V.str zs[n2]])=H2 at s2 t2 t1⊢;have hm2:zs[n2]∈zs:=cH hn2;have hN2:=hnm.nm _ hm2;generalize zs[n2]=y2 at t2 hm2 hN2;have f1:eM 0 (.name y1):=hN1;have f2:eM 0 (.name y2):=hN2;have done:∀{J:Hp}{v:V}{t:Tm},bG H2 J->hG J t v->eM 2 t->wt t<=4->(∀x∈MD t,x=y1\/x=y2)->Q v J:=λsJ ht hf hw hn=>q _ _ _ (s2.trans sJ) ht hf hw λx hx=>(hn x hx).elim (λe=>e▸hm1) λe=>e▸hm2
 refine zH λN hN=>?_
 dsimp![];refine⟨rfl,?_⟩;by_cases c2:way=2
 ·rw[aH c2];refine⟨small (),λp hp=>done (zE hp _) (hG.mkNode (w:="not") (ts:=[.name y1]) (vs:=[.ref p1]) zC (fD.one (hG.tups (zE hp _).tups t1))) ?_ ?_ ?_⟩
  ·exact⟨.inr (.inr (.inl ⟨rfl,rfl⟩)),λt ht=>by rw[aX.mp ht];exact f1.mono ()⟩
  ·simp[wt,mV]
  ·intro x hx;simp[MD,DZ]at hx;exact .inl hx
 rw[aF c2];refine hN _ _ ?_;clear hN;refine zH λN hN=>?_
 dsimp![];refine⟨rfl,?_⟩;by_cases c3:way=3
 ·rw[aH c3];refine⟨small (),λp hp=>done (zE hp _) (hG.mkNode (w:="none") (ts:=[]) (vs:=[]) zC rfl) ?_ ?_ ?_⟩
  ·exact⟨.inl ⟨rfl,rfl⟩,λt ht=>by cases ht⟩
  ·simp[wt,mV]
  ·intro x hx;simp[MD,DZ]at hx
 rw[aF c3];refine hN _ _ ?_;clear hN;refine zH λN hN=>?_
 dsimp![];refine⟨rfl,?_⟩;by_cases c4:way=4
 ·rw[aH c4];refine⟨small (),λp hp=>done (zE hp _) (hG.mkNode (w:="both") (ts:=[.name y1,.name y2]) (vs:=[.ref p1,.ref p2]) zC (fD.append (fD.one (hG.tups (zE hp _).tups t1)) (fD.one (hG.tups (zE hp _).tups t2)))) ?_ ?_ ?_⟩
  ·refine⟨.inr (.inr (.inr (.inl ⟨rfl,by simp⟩))),λt ht=>?_⟩;simp only[bI,eF,or_false]at ht;rcases ht with rfl |rfl
   ·exact f1.mono ()
   ·exact f2.mono ()
  ·simp[wt,mV]
  ·intro x hx;simp[MD,DZ]at hx;exact hx
 rw[aF c4];refine hN _ _ ?_;clear hN;refine zH λN hN=>?_
 dsimp![];refine⟨rfl,?_⟩;by_cases c5:way=5
 ·rw[aH c5];refine⟨small (),λp hp=>⟨small (),λp' hp'=>?_⟩⟩;have sn:=(zE hp (.tup [V.str "not",V.ref p1])).trans (zE hp' (.tup [V.str "either",V.ref p2,V.ref p]));refine done sn (hG.mkNode (w:="either") (ts:=[.name y2,.node "not" [.name y1]]) (vs:=[.ref p2,.ref p]) zC (fD.append (fD.one (hG.tups sn.tups t2)) (fD.one (hG.mkNode (w:="not") (ts:=[.name y1]) (vs:=[.ref p1]) (zE hp' _ _ _ zC) (fD.one (hG.tups sn.tups t1)))))) ?_ ?_ ?_
  ·refine⟨.inr (.inr (.inr (.inr ⟨rfl,by simp⟩))),λt ht=>?_⟩;simp only[bI,eF,or_false]at ht;rcases ht with rfl |rfl
   ·exact f2.mono ()
   ·exact⟨.inr (.inr (.inl ⟨rfl,rfl⟩)),λt ht=>by rw[aX.mp ht];exact f1⟩
  ·simp[wt,mV]
  ·intro x hx;simp[MD,DZ]at hx;exact hx.symm
 rw[aF c5];refine hN _ _ ?_;clear hN;refine zH λN hN=>?_
 dsimp![];refine⟨rfl,?_⟩;by_cases c6:way=6
 ·rw[aH c6];refine⟨small (),λp hp=>done (zE hp _) (hG.mkNode (w:="all") (ts:=[]) (vs:=[]) zC rfl) ?_ ?_ ?_⟩
  ·exact⟨.inr (.inl ⟨rfl,rfl⟩),λt ht=>by cases ht⟩
  ·simp[wt,mV]
  ·intro x hx;simp[MD,DZ]at hx
 rw[aF c6];refine hN _ _ ?_;clear hN;dsimp![];refine done (bG.refl _) t1 (f1.mono ()) (by rw[wt];lia) λx hx=>?_
 rw[MD,aX]at hx;exact .inl hx
abbrev s_C:Stmt:=top 75
theorem sc_C:bW ["book"] ["book"] (zK s_C):=by rfl'
abbrev s_x:Stmt:=top 79
theorem sc_x:bW ["book","rule","place","at"] ["book","rule","place"] (zK s_x):=by rfl'
abbrev s_q:Stmt:=top 80
theorem jx:bW ["saying","way","u","v","s","t"] ["saying","way","u","v"] (zK s_q):=by rfl'
abbrev s_w:Stmt:=top 81
theorem sX:bW ["book","saying","cell","names","way","place","rest","u","v","s","t"] ["book","saying","cell","names"] (zK s_w):=by rfl'
theorem fc(xs:List V)(k:Nat)(h:k<=xs.length):qJ xs (some (k:Int)) none=xs.drop k:=by
 unfold qJ;have e:HT.sIx xs.length 0 (some (k:Int))=k:=by
  unfold HT.sIx;simp only;rw[aF ()];lia
 rw[e,HT.sIx_none,aR (by simp)]
inductive spCp (vs:List V) (H:Hp) (Q:VK) (E:XK):Prop
 |mk (ba:Addr) (bs:List V) (b:List mS) (_:vs=[.ref ba]) (_:H ba=some (.lst bs)) (_:iK H b bs) (_:b.length<=100) (_:(∀r∈b,r.1.length<=5)) (_:∀p us H',bG H H'->H' p=some (.lst us)->iK H' b us->Q (.ref p) H')
inductive gn (vs:List V) (H:Hp) (Q:VK) (E:XK):Prop
 |mk (ba:Addr) (v:V) (z:Int) (bs:List V) (b:List mS) (r:mS) (_:vs=[.ref ba,v,.int z]) (_:H ba=some (.lst bs)) (_:iK H b bs) (_:i5 H r v) (_:b.length<=100) (_:∀p n us H',bG H H'->H' p=some (.lst us)->iK H' (b.take n++r::b.drop n) us->Q (.ref p) H')
theorem DU(bi:Bi mg)(F:gL K "_law_copy_of" "_law_copy_of" s_C f fd):dG P w K mg base gJ 1 f fd ["book"] spCp:=by
 refine F.okz sc_C λfL A outer s H vs Q E hr h=>?_
 obtain⟨ba,bs,b,rfl,lL,hb,hbl,hpl,q⟩:=h;refine⟨_,(zG (zM (yZ ["rule"] [] [] (yV (pv 0)) (λ_ _ _ _ nd=>yF 0 nd) (λ_ _ _ _=>yU) (λ_ _ _ _=>(zP (zA (jJ (JP K) rfl bi.list YO (zA (zJ (qI K) (pv 0) zF) zB)) (zA (zJ (qI K) (pv 0) zF) zB))))))),?_⟩;have hbsl:=xG hb;dsimp![];refine⟨⟨_,dF.of lL⟩,?_⟩;refine uG (xs:=bs) (λi ys σ G=>bG H G/\bA G ((b.take i).map ZS) ys/\∃o,σ=[o]) ⟨bG.refl _,rfl,_,rfl⟩ (small ()) (λi ys σ G e=>?_) (λi ys σ G e=>dF.of (e.1 _ _ lL)) (λi x ys σ G C hx e hC=>?_) (λys σ G e p hp=>?_)
 ·have :=xG e.2.1;rw[bH]at this;lia
 ·obtain⟨sG,hd,o,rfl⟩:=e;obtain⟨r,mC,hr2⟩:=iK.getV hb hx;obtain⟨a,l,u,ws,rfl,ha,hl2,hps2,hc2⟩:=hr2.out;have hrl:=hpl r (aZ mC);have hwl:=hps2.length;dsimp![];refine⟨_,cW.of (sG _ _ ha),_,iG,l,rfl,ws,.inl (dF.of (sG _ _ hl2)),λl' eC=>⟨_,cW.of (zE eC _ _ _ (sG _ _ ha)),_,nK,small (),λp hp=>hC _ _ _ ?_⟩⟩;have s1:=zE eC (.lst ws);have s2:=zE hp (.tup [.ref l',u]);have s3:=sG.trans (s1.trans s2);exact⟨s3,HP mC (bA.same (s1.trans s2) hd) ⟨p,_,rfl,zC,_,_,rfl,⟨l',ws,rfl,s2 _ _ zC,bA.same s3 hps2⟩,_,_,rfl,dD.same s3 hc2,rfl⟩,_,rfl⟩
 ·obtain⟨sG,hd,o,rfl⟩:=e;rw[aR ()]at hd;exact q p ys _ (sG.trans (zE hp _)) zC (bA.same (zE hp _) hd)
theorem DO(bi:Bi mg)(F:gL K "_law_put_in" "_law_put_in" s_x f fd):dG P w K mg base gJ 1 f fd ["book","rule","place"] gn:=by
 refine F.okz sc_x λfL A outer s H vs Q E hr h=>?_
 obtain⟨ba,v,z,bs,b,r,rfl,lL,hb,hv,hbl,q⟩:=h;refine⟨_,(zD (yH 3 sc_x.nd (zU xC (pv 2) (zU qT (zS yA rfl bi.len yJ (zA (pv 0) zB)) zF))) (zG (zM (zU DK (zU DK (xO YC (pv 0) jD (jC (pv 3))) (xF (zA (pv 1) zB))) (xO YC (pv 0) (jC (pv 3)) jD))))),?_⟩;have hbsl:=xG hb;refine zH λN hN=>?_
 dsimp![];refine⟨_,.inl ⟨_,dF.of lL,rfl⟩,(),hN _ _ ?_⟩;clear hN;have z0:=fE z (b:=(bs.length:Int)+1) ();have z1:=lH z (b:=(bs.length:Int)+1) ();obtain⟨n,hn⟩:=fM z0;rw[hn]at z1⊢;dsimp![];have ht:=BJ bs n ();have hd:=fc bs n ();refine⟨bs,dF.of lL,λp1 h1=>⟨small (),λp2 h2=>?_⟩⟩;rw[ht]at h2⊢;have s1:=zE h1 (.lst (bs.take n));have k1:upd H p1 (.lst (bs.take n)) p1=_:=zC;generalize upd H p1 (.lst (bs.take n))=H1 at s1 k1 h2⊢;have s2:=zE h2 (.lst [v]);have k2:upd H1 p2 (.lst [v]) p2=_:=zC;have k12:=s2 _ _ k1;replace s2:=s1.trans s2;clear h1 h2 s1 k1;generalize upd H1 p2 (.lst [v])=H2 at s2 k2 k12⊢;have hl1:(bs.take n).length<=bs.length:=by rw[bH];lia
 refine⟨_,k12,_,k2,small (by rw[bY];lia),λp3 h3=>⟨bs,dF.of (zE h3 _ _ _ (s2 _ _ lL)),λp4 h4=>?_⟩⟩;rw[hd];have s3:=zE h3 (.lst (bs.take n++[v]));have k3:upd H2 p3 (.lst (bs.take n++[v])) p3=_:=zC;replace s3:=s2.trans s3;clear h3 k2 k12 s2;generalize upd H2 p3 (.lst (bs.take n++[v]))=H3 at s3 k3 h4⊢;have s4:=zE h4 (.lst (bs.drop n));have k34:=s4 _ _ k3;have k4:upd H3 p4 (.lst (bs.drop n)) p4=_:=zC;replace s4:=s3.trans s4;clear h4 k3 s3;generalize upd H3 p4 (.lst (bs.drop n))=H4 at s4 k34 k4⊢;have hl2:(bs.drop n).length<=bs.length:=by rw[fW];lia
 refine⟨_,k34,_,k4,small (by rw[aP,bY];lia),λp5 h5=>q p5 n _ _ (s4.trans (zE h5 _)) zC ?_⟩;have s5:=s4.trans (zE h5 (.lst (bs.take n++[v]++bs.drop n)));generalize upd H4 p5 (.lst (bs.take n++[v]++bs.drop n))=H5 at s5⊢;show bA _ ((b.take n++r::b.drop n).map ZS) _;rw[bF,cD,oU,sF,cF];exact bA.append (bA.take n (bA.same s5 hb)) ⟨_,_,rfl,dD.same s5 hv,bA.drop n (bA.same s5 hb)⟩
def CG(way:Int)(s t u v:Tm):Tm×Tm:=
 if way=0 then(.node "not" [t],.node "not" [s])else if way=1 then(.node "both" [s,u],t)else if way=2 then(.node "both" [u,s,v],t)else if way=3 then(s,.node "either" [u,t])else if way=4 then(.node "both" [s,u],.node "both" [t,u])else(.node "both" [s,.node "not" [t]],u)
inductive spBt (vs:List V) (H:Hp) (Q:VK) (E:XK):Prop
 |mk (sv uv vv:V) (way:Int) (s t u v:Tm) (_:vs=[sv,.int way,uv,vv]) (_:oW H (s,t) sv) (_:hG H u uv) (_:hG H v vv) (_:∀p H',bG H H'->oW H' (CG way s t u v) p->Q p H')
theorem MF{x y:V}{s t:Tm}(k:H p=some (.tup [x,y]))(h1:hG H s x)(h2:hG H t y):oW H (s,t) (.ref p):=⟨p,_,rfl,k,_,_,rfl,h1,_,_,rfl,h2,rfl⟩
theorem mk1{w:Str}{x:V}{s:Tm}(k:H p=some (.tup [.str w,x]))(h1:hG H s x):hG H (.node w [s]) (.ref p):=hG.mkNode k (fD.one h1)
theorem lu{w:Str}{x y:V}{s t:Tm}(k:H p=some (.tup [.str w,x,y]))(h1:hG H s x)(h2:hG H t y):hG H (.node w [s,t]) (.ref p):=hG.mkNode k ⟨_,_,rfl,h1,fD.one h2⟩
theorem mk3{w:Str}{x y z:V}{s t u:Tm}(k:H p=some (.tup [.str w,x,y,z]))(h1:hG H s x)(h2:hG H t y)(h3:hG H u z):hG H (.node w [s,t,u]) (.ref p):=hG.mkNode k ⟨_,_,rfl,h1,_,_,rfl,h2,fD.one h3⟩
theorem AE(F:gL K "_law_by_terms" "_law_by_terms" s_q f fd):dG P w K mg base gJ 1 f fd ["saying","way","u","v"] spBt:=by
 refine F.okz jx λfL A outer s H vs Q E hr h=>?_
 obtain⟨sv,uv,vv,way,s,t,u,v,rfl,hs,hu,hv,q⟩:=h;refine⟨_,(zD (vI (pv 0) (jF rfl (zV (yF 4 jx.nd) (zV (yF 5 jx.nd) yY)))) (zD (zZ (zQ yE (pv 1) zF (zO _)) (zG (zM (zP (zA (zP (zA zT (zA (pv 5) zB))) (zA (zP (zA zT (zA (pv 4) zB))) zB))))) zR) (zD (zZ (zQ yE (pv 1) zF (zO _)) (zG (zM (zP (zA (zP (zA zT (zA (pv 4) (zA (pv 2) zB)))) (zA (pv 5) zB))))) zR) (zD (zZ (zQ yE (pv 1) zF (zO _)) (zG (zM (zP (zA (zP (zA zT (zA (pv 2) (zA (pv 4) (zA (pv 3) zB))))) (zA (pv 5) zB))))) zR) (zD (zZ (zQ yE (pv 1) zF (zO _)) (zG (zM (zP (zA (pv 4) (zA (zP (zA zT (zA (pv 2) (zA (pv 5) zB)))) zB))))) zR) (zD (zZ (zQ yE (pv 1) zF (zO _)) (zG (zM (zP (zA (zP (zA zT (zA (pv 4) (zA (pv 2) zB)))) (zA (zP (zA zT (zA (pv 5) (zA (pv 2) zB)))) zB))))) zR) (zG (zM (zP (zA (zP (zA zT (zA (pv 4) (zA (zP (zA zT (zA (pv 5) zB))) zB)))) (zA (pv 2) zB))))))))))),?_⟩;obtain⟨a,us,rfl,ha,x,r',rfl,hx,y,r'',rfl,hy,e⟩:=hs;cases (show r''=[]from e);refine zH λN hN=>?_
 dsimp![uQ,jU,uY];refine⟨_,cW.of ha,rfl,_,_,rfl,_,_,rfl,rfl,hN _ _ ?_⟩;clear hN;refine zH λN hN=>?_
 dsimp![];refine⟨rfl,?_⟩;by_cases c0:way=0
 ·rw[aH c0];refine⟨small (),λp1 h1=>⟨small (),λp2 h2=>⟨small (),λp3 h3=>?_⟩⟩⟩;have s1:=zE h1 (.tup [.str "not",y]);have s2:=zE h2 (.tup [.str "not",x]);have s3:=zE h3 (.tup [.ref p1,.ref p2]);refine q _ _ (s1.trans (s2.trans s3)) ?_;rw[CG,aH c0];exact MF zC (mk1 (s3 _ _ (s2 _ _ zC)) (dD.same (s1.trans (s2.trans s3)) hy)) (mk1 (s3 _ _ zC) (dD.same (s1.trans (s2.trans s3)) hx))
 rw[aF c0];refine hN _ _ ?_;clear hN;refine zH λN hN=>?_
 dsimp![];refine⟨rfl,?_⟩;by_cases c1:way=1
 ·rw[aH c1];refine⟨small (),λp1 h1=>⟨small (),λp2 h2=>?_⟩⟩;have s1:=zE h1 (.tup [.str "both",x,uv]);have s2:=zE h2 (.tup [.ref p1,y]);refine q _ _ (s1.trans s2) ?_;rw[CG,aF c0,aH c1];exact MF zC (lu (s2 _ _ zC) (dD.same (s1.trans s2) hx) (dD.same (s1.trans s2) hu)) (dD.same (s1.trans s2) hy)
 rw[aF c1];refine hN _ _ ?_;clear hN;refine zH λN hN=>?_
 dsimp![];refine⟨rfl,?_⟩;by_cases c2:way=2
 ·rw[aH c2];refine⟨small (),λp1 h1=>⟨small (),λp2 h2=>?_⟩⟩;have s1:=zE h1 (.tup [.str "both",uv,x,vv]);have s2:=zE h2 (.tup [.ref p1,y]);refine q _ _ (s1.trans s2) ?_;rw[CG,aF c0,aF c1,aH c2];exact MF zC (mk3 (s2 _ _ zC) (dD.same (s1.trans s2) hu) (dD.same (s1.trans s2) hx) (dD.same (s1.trans s2) hv)) (dD.same (s1.trans s2) hy)
 rw[aF c2];refine hN _ _ ?_;clear hN;refine zH λN hN=>?_
 dsimp![];refine⟨rfl,?_⟩;by_cases c3:way=3
 ·rw[aH c3];refine⟨small (),λp1 h1=>⟨small (),λp2 h2=>?_⟩⟩;have s1:=zE h1 (.tup [.str "either",uv,y]);have s2:=zE h2 (.tup [x,.ref p1]);refine q _ _ (s1.trans s2) ?_;rw[CG,aF c0,aF c1,aF c2,aH c3];exact MF zC (dD.same (s1.trans s2) hx) (lu (s2 _ _ zC) (dD.same (s1.trans s2) hu) (dD.same (s1.trans s2) hy))
 rw[aF c3];refine hN _ _ ?_;clear hN;refine zH λN hN=>?_
 dsimp![];refine⟨rfl,?_⟩;by_cases c4:way=4
 ·rw[aH c4];refine⟨small (),λp1 h1=>⟨small (),λp2 h2=>⟨small (),λp3 h3=>?_⟩⟩⟩;have s1:=zE h1 (.tup [.str "both",x,uv]);have s2:=zE h2 (.tup [.str "both",y,uv]);have s3:=zE h3 (.tup [.ref p1,.ref p2]);have s:=s1.trans (s2.trans s3);refine q _ _ s ?_;rw[CG,aF c0,aF c1,aF c2,aF c3,aH c4];exact MF zC (lu (s3 _ _ (s2 _ _ zC)) (dD.same s hx) (dD.same s hu)) (lu (s3 _ _ zC) (dD.same s hy) (dD.same s hu))
 rw[aF c4];refine hN _ _ ?_;clear hN;dsimp![];refine⟨small (),λp1 h1=>⟨small (),λp2 h2=>⟨small (),λp3 h3=>?_⟩⟩⟩;have s1:=zE h1 (.tup [.str "not",y]);have s2:=zE h2 (.tup [.str "both",x,.ref p1]);have s3:=zE h3 (.tup [.ref p2,uv]);have s:=s1.trans (s2.trans s3);refine q _ _ s ?_;rw[CG,aF c0,aF c1,aF c2,aF c3,aF c4];exact MF zC (lu (s3 _ _ zC) (dD.same s hx) (mk1 (s3 _ _ (s2 _ _ zC)) (dD.same s hy))) (dD.same s hu)
theorem sZ{H:Hp}{s:Tm×Tm}{v:V}(h:oW H s v):∀n,rD H (List.replicate n s) (List.replicate n v)
 |0=>rfl
 |n+1=>⟨v,_,rfl,h,sZ h n⟩
def Sml(u:Tm):Prop:=eM 2 u/\wt u<=4
def GrR(s:Tm×Tm)(u v:Tm)(r:mS)(s':Tm×Tm):Prop:=
 (r=([],(s.2,u))/\s'=(s.1,u))\/(∃m,m<=1/\r=(List.replicate (m+1) s,(u,v))/\s'=(u,v))\/(r=([],(s.1,u))/\s'=(s.1,.node "both" [s.2,u]))\/(r=([],(u,s.2))/\s'=(.node "either" [s.1,u],s.2))
def Gro(b:List mS)(s:Tm×Tm)(b':List mS)(s':Tm×Tm):Prop:=
 ∃u v,Sml u/\Sml v/\((b'=b/\∃way,s'=CG way s.1 s.2 u v)\/∃n r,b'=b.take n++r::b.drop n/\GrR s u v r s')
inductive spGn (vs:List V) (H:Hp) (Q:VK) (E:XK):Prop
 |mk (ba na:Addr) (sv:V) (c:Int) (j:Nat) (zs:List Str) (bs:List V) (b:List mS) (s:Tm×Tm) (_:vs=[.ref ba,sv,.int c,.ref na]) (_:H ba=some (.lst bs)) (_:iK H b bs) (_:oW H s sv) (_:0<=c) (_:Nms H na j zs) (_:1<=j) (_:j<=5) (_:b.length<=90) (_:∀(p ba':Addr)(sv':V)(us':List V) b' s' H',bG H H'->H' p=some (.tup [.ref ba',sv'])->H' ba'=some (.lst us')->iK H' b' us'->oW H' s' sv'->Gro b s b' s'->Q (.ref p) H')
theorem SE(bi:Bi mg)(h_y:fX P w K mg base 1 "_law_small" ["pick","names"] jo)(h_q:fX P w K mg base 1 "_law_by_terms" ["saying","way","u","v"] spBt)(h_x:fX P w K mg base 1 "_law_put_in" ["book","rule","place"] gn)(F:gL K "_law_grown" "_law_grown" s_w f fd):dG P w K mg base gJ 2 f fd ["book","saying","cell","names"] spGn:=by
 refine F.okz sX λfL A outer s H vs Q E hr h=>?_
 obtain⟨ba,na,sv,c,j,zs,bs,b,s,rfl,lL,hb,hs,hc0,hnm,hj1,hj5,hbl,q⟩:=h;refine⟨_,(zD (yH 4 sX.nd (zU xC (pv 2) zF)) (zD (yH 5 sX.nd (zU jS (pv 2) zF)) (zD (yH 6 sX.nd (zU xC (zU xP (pv 2) zF) zF)) (zD (yH 7 sX.nd (zI h_y hr.m rfl (zA (pv 6) (zA (pv 3) zB)))) (zD (yH 8 sX.nd (zI h_y hr.m rfl (zA (zU jS (pv 6) zF) (zA (pv 3) zB)))) (zD (vI (pv 1) (jF rfl (zV (yF 9 sX.nd) (zV (yF 10 sX.nd) yY)))) (zD (zZ (zQ ZK (pv 4) zF (zO _)) (zG (zM (zP (zA (pv 0) (zA (zI h_q hr.m rfl (zA (pv 1) (zA (pv 4) (zA (pv 7) (zA (pv 8) zB))))) zB))))) zR) (zD (zZ (zQ yE (pv 4) zF (zO _)) (zG (zM (zP (zA (zI h_x hr.m rfl (zA (pv 0) (zA (zP (zA (xF zB) (zA (zP (zA (pv 10) (zA (pv 7) zB))) zB))) (zA (pv 5) zB)))) (zA (zP (zA (pv 9) (zA (pv 7) zB))) zB))))) zR) (zD (zZ (zQ yE (pv 4) zF (zO _)) (zG (zM (zP (zA (zI h_x hr.m rfl (zA (pv 0) (zA (zP (zA (zU DH (xF (zA (pv 1) zB)) (zU qT zF (zU xC (pv 5) zF))) (zA (zP (zA (pv 7) (zA (pv 8) zB))) zB))) (zA (pv 5) zB)))) (zA (zP (zA (pv 7) (zA (pv 8) zB))) zB))))) zR) (zD (zZ (zQ yE (pv 4) zF (zO _)) (zG (zM (zP (zA (zI h_x hr.m rfl (zA (pv 0) (zA (zP (zA (xF zB) (zA (zP (zA (pv 9) (zA (pv 7) zB))) zB))) (zA (pv 5) zB)))) (zA (zP (zA (pv 9) (zA (zP (zA zT (zA (pv 10) (zA (pv 7) zB)))) zB))) zB))))) zR) (zG (zM (zP (zA (zI h_x hr.m rfl (zA (pv 0) (zA (zP (zA (xF zB) (zA (zP (zA (pv 7) (zA (pv 10) zB))) zB))) (zA (pv 5) zB)))) (zA (zP (zA (zP (zA zT (zA (pv 9) (zA (pv 7) zB)))) (zA (pv 10) zB))) zB))))))))))))))),?_⟩;refine zH λN hN=>?_
 dsimp![];refine⟨(),hN _ _ ?_⟩;clear hN;refine zH λN hN=>?_
 dsimp![];refine⟨⟨(),()⟩,hN _ _ ?_⟩;clear hN;refine zH λN hN=>?_
 dsimp![];refine⟨.inr ⟨(),()⟩,(),hN _ _ ?_⟩;clear hN;have hr0:=fE (c*48271) (b:=2147483647) ();generalize c*48271 % 2147483647=rest at hr0⊢;generalize c % 10=way;have hp0:0<=c/10:=by lia
 generalize c/10=place at hp0⊢;refine zH λN hN=>?_
 dsimp![];refine⟨rest,na,j,zs,rfl,hr0,hnm,hj1,hj5,λuv u H1 s1 hu f1 w1 _=>hN _ _ ?_⟩;clear hN;refine zH λN hN=>?_
 dsimp![];refine⟨⟨(),()⟩,rest/1296,na,j,zs,rfl,(),hnm.same s1,hj1,hj5,λvv v H2 s2 hv f2 w2 _=>hN _ _ ?_⟩;clear hN;replace hu:=dD.same s2 hu;replace s2:=s1.trans s2;clear s1;have hsv:=hs;obtain⟨a,us,rfl,ha,x,r',rfl,hx,y,r'',rfl,hy,e⟩:=hs;cases (show r''=[]from e);replace hx:=dD.same s2 hx;replace hy:=dD.same s2 hy;replace hb:iK H2 b bs:=bA.same s2 hb;refine zH λN hN=>?_
 dsimp![uQ,jU,uY];refine⟨_,cW.of (s2 _ _ ha),rfl,_,_,rfl,_,_,rfl,rfl,hN _ _ ?_⟩;clear hN;have gro:∀{b' s'},((b'=b/\∃way,s'=CG way s.1 s.2 u v)\/∃n r,b'=b.take n++r::b.drop n/\GrR s u v r s')->Gro b s b' s':=λh=>⟨u,v,⟨f1,w1⟩,⟨f2,w2⟩,h⟩
 have fin:∀{H3:Hp}{ba':Addr}{sv':V}{us':List V}{b':List mS}{s':Tm×Tm},bG H2 H3->H3 ba'=some (.lst us')->iK H3 b' us'->oW H3 s' sv'->Gro b s b' s'->∀p,H3 p=none->Q (.ref p) (upd H3 p (.tup [.ref ba',sv'])):=λs3 k3 h3 hs3 g p hp=>
  q p _ _ _ _ _ _ (s2.trans (s3.trans (zE hp _))) zC (zE hp _ _ _ k3) (bA.same (zE hp _) h3) (dD.same (zE hp _) hs3) g
 refine zH λN hN=>?_
 dsimp![];by_cases c6:way<6
 ·rw[aH c6];exact⟨_,uv,vv,way,s.1,s.2,u,v,rfl,dD.same s2 hsv,hu,hv,λp3 H3 s3 hs3=>⟨small (),fin s3 (s3 _ _ (s2 _ _ lL)) (bA.same s3 hb) hs3 (gro (.inl ⟨rfl,way,rfl⟩))⟩⟩
 rw[aF c6];refine hN _ _ ?_;clear hN;have h90:b.length<=100:=by lia
 have r0:∀{x1 x2:V}{t1 t2:Tm}{p1 p2 p3:Addr},hG H2 t1 x1->hG H2 t2 x2->H2 p1=none->upd H2 p1 (.lst []) p2=none->upd (upd H2 p1 (.lst [])) p2 (.tup [x1,x2]) p3=none->bG H2 (upd (upd (upd H2 p1 (.lst [])) p2 (.tup [x1,x2])) p3 (.tup [.ref p1,.ref p2]))/\i5 (upd (upd (upd H2 p1 (.lst [])) p2 (.tup [x1,x2])) p3 (.tup [.ref p1,.ref p2])) ([],(t1,t2)) (.ref p3):=λ{x1 x2 t1 t2 p1 p2 p3} g1 g2 h1 h2 h3=>by
  have e1:=zE h1 (.lst []);have e2:=zE h2 (.tup [x1,x2]);have e3:=zE h3 (.tup [.ref p1,.ref p2]);have e:=e1.trans (e2.trans e3);exact⟨e,p3,_,rfl,zC,_,_,rfl,⟨p1,[],rfl,(e2.trans e3) _ _ zC,rfl⟩,_,_,rfl,MF (e3 _ _ zC) (dD.same e g1) (dD.same e g2),rfl⟩
 refine zH λN hN=>?_
 dsimp![];refine⟨rfl,?_⟩;by_cases c7:way=6
 ·rw[aH c7];refine⟨small (),λp1 h1=>⟨small (),λp2 h2=>⟨small (),λp3 h3=>?_⟩⟩⟩;obtain⟨s3,hr3⟩:=r0 hy hu h1 h2 h3;refine⟨ba,_,place,bs,b,_,rfl,s3 _ _ (s2 _ _ lL),bA.same s3 hb,hr3,h90,λp4 n us4 H4 s4 k4 h4=>⟨small (),λp5 h5=>⟨small (),?_⟩⟩⟩;have s5:=zE h5 (.tup [x,uv]);have s35:=s3.trans (s4.trans s5);exact fin s35 (s5 _ _ k4) (bA.same s5 h4) (MF zC (dD.same s35 hx) (dD.same s35 hu)) (gro (.inr ⟨n,_,rfl,.inl ⟨rfl,rfl⟩⟩))
 rw[aF c7];refine hN _ _ ?_;clear hN;refine zH λN hN=>?_
 dsimp![b8];refine⟨rfl,?_⟩;by_cases c8:way=7
 ·rw[aH c8];refine⟨small (),λp0 h0=>⟨(),_,zC,(),(),small (by rw[bY];lia),λp1 h1=>⟨small (),λp2 h2=>⟨small (),λp3 h3=>?_⟩⟩⟩⟩;obtain⟨m,hm,em⟩:∃m:Nat,m<=1/\(1+place % 2).toNat=m+1:=⟨(place % 2).toNat,(),()⟩
  rw[em,List.flatten_replicate_singleton]at h2 h3⊢;have e0:=zE h0 (.lst [.ref a]);have e1:=zE h1 (.lst (List.replicate (m+1) (.ref a)));have e2:=zE h2 (.tup [uv,vv]);have e3:=zE h3 (.tup [.ref p1,.ref p2]);have s3:=e0.trans (e1.trans (e2.trans e3));have k1:=(e2.trans e3) _ _ (show upd (upd H2 p0 (.lst [.ref a])) p1 (.lst (List.replicate (m+1) (.ref a))) p1=_ from zC);have k2:=e3 _ _ (show upd (upd (upd H2 p0 (.lst [.ref a])) p1 (.lst (List.replicate (m+1) (.ref a)))) p2 (.tup [uv,vv]) p2=_ from zC);have k3:upd (upd (upd (upd H2 p0 (.lst [.ref a])) p1 (.lst (List.replicate (m+1) (.ref a)))) p2 (.tup [uv,vv])) p3 (.tup [.ref p1,.ref p2]) p3=_:=zC;clear e0 e1 e2 e3 h0 h1 h2 h3;generalize upd (upd (upd (upd H2 p0 (.lst [.ref a])) p1 (.lst (List.replicate (m+1) (.ref a)))) p2 (.tup [uv,vv])) p3 (.tup [.ref p1,.ref p2])=H3 at s3 k1 k2 k3⊢;have hr3:i5 H3 (List.replicate (m+1) s,(u,v)) (.ref p3):=⟨p3,_,rfl,k3,_,_,rfl,⟨p1,_,rfl,k1,sZ (dD.same (s2.trans s3) hsv) _⟩,_,_,rfl,MF k2 (dD.same s3 hu) (dD.same s3 hv),rfl⟩
  refine⟨ba,_,place,bs,b,_,rfl,s3 _ _ (s2 _ _ lL),bA.same s3 hb,hr3,h90,λp4 n us4 H4 s4 k4 h4=>⟨small (),λp5 h5=>⟨small (),?_⟩⟩⟩;have s5:=zE h5 (.tup [uv,vv]);have s35:=s3.trans (s4.trans s5);exact fin s35 (s5 _ _ k4) (bA.same s5 h4) (MF zC (dD.same s35 hu) (dD.same s35 hv)) (gro (.inr ⟨n,_,rfl,.inr (.inl ⟨m,hm,rfl,rfl⟩)⟩))
 rw[aF c8];refine hN _ _ ?_;clear hN;refine zH λN hN=>?_
 dsimp![];refine⟨rfl,?_⟩;by_cases c9:way=8
 ·rw[aH c9];refine⟨small (),λp1 h1=>⟨small (),λp2 h2=>⟨small (),λp3 h3=>?_⟩⟩⟩;obtain⟨s3,hr3⟩:=r0 hx hu h1 h2 h3;refine⟨ba,_,place,bs,b,_,rfl,s3 _ _ (s2 _ _ lL),bA.same s3 hb,hr3,h90,λp4 n us4 H4 s4 k4 h4=>⟨small (),λp5 h5=>⟨small (),λp6 h6=>⟨small (),?_⟩⟩⟩⟩;have s5:=zE h5 (.tup [.str "both",y,uv]);have s6:=zE h6 (.tup [x,.ref p5]);have s56:=s5.trans s6;have s36:=s3.trans (s4.trans s56);exact fin s36 (s56 _ _ k4) (bA.same s56 h4) (MF zC (dD.same s36 hx) (lu (s6 _ _ zC) (dD.same s36 hy) (dD.same s36 hu))) (gro (.inr ⟨n,_,rfl,.inr (.inr (.inl ⟨rfl,rfl⟩))⟩))
 rw[aF c9];refine hN _ _ ?_;clear hN;dsimp![];refine⟨small (),λp1 h1=>⟨small (),λp2 h2=>⟨small (),λp3 h3=>?_⟩⟩⟩;obtain⟨s3,hr3⟩:=r0 hu hy h1 h2 h3;refine⟨ba,_,place,bs,b,_,rfl,s3 _ _ (s2 _ _ lL),bA.same s3 hb,hr3,h90,λp4 n us4 H4 s4 k4 h4=>⟨small (),λp5 h5=>⟨small (),λp6 h6=>⟨small (),?_⟩⟩⟩⟩;have s5:=zE h5 (.tup [.str "either",x,uv]);have s6:=zE h6 (.tup [.ref p5,y]);have s56:=s5.trans s6;have s36:=s3.trans (s4.trans s56);exact fin s36 (s56 _ _ k4) (bA.same s56 h4) (MF zC (lu (s6 _ _ zC) (dD.same s36 hx) (dD.same s36 hu)) (dD.same s36 hy)) (gro (.inr ⟨n,_,rfl,.inr (.inr (.inr ⟨rfl,rfl⟩))⟩))
abbrev s_X:Stmt:=top 63
theorem sc_X:bW ["rows","row"] ["rows","row"] (zK s_X):=by rfl'
abbrev s_s:Stmt:=top 64
theorem LG:bW ["rows","t","flip","made","part","other"] ["rows","t"] (zK s_s):=by rfl'
abbrev s_E:Stmt:=top 65
theorem sc_E:bW ["rows","saying","one"] ["rows","saying"] (zK s_E):=by rfl'
abbrev s_f:Stmt:=top 66
theorem OU:bW ["book","saying","rows","premises","one","premise"] ["book","saying"] (zK s_f):=by rfl'
structure RL(H J:Hp)(ra:Addr)(aC:List Rw):Prop where
 no:J ra=none
 sub:bG J H
 ex:∃us,H ra=some (.lst us)/\bA J (aC.map oM) us
theorem RL.new{J:Hp}{ra:Addr}{o:HO}(h:RL H J ra aC)(hp:H p=none):RL (upd H p o) (upd J p o) ra aC:=by
 obtain⟨us,h1,h2⟩:=h.ex;have hpr:ra≠p:=λe=>by rw[e,hp]at h1;cases h1
 have hJp:J p=none:=h.sub.free hp;refine⟨by rw[zL hpr];exact h.no,λa x hx=>?_,us,by rw[zL hpr];exact h1,bA.same (zE hJp _) h2⟩;by_cases e:a=p
 ·subst e;rw[zC]at hx⊢;exact hx
 ·rw[zL e]at hx⊢;exact h.sub _ _ hx
inductive spRo (vs:List V) (H:Hp) (Q:VK) (E:XK):Prop
 |mk (ra:Addr) (v:V) (J:Hp) (aC:List Rw) (r:Rw) (_:vs=[.ref ra,v]) (_:RL H J ra aC) (_:dD J (oM r) v) (_:aC.length<=90000) (_:∀H',RL H' J ra (xT aC r).1->Q (.int ((xT aC r).2:Nat)) H')
theorem n8(aC:List Rw)(r:Rw):((aC.map oM).any λe=>dL e (oM r))=(oF aC r).isSome:=by
 unfold oF;rw[List.any_map,List.findIdx?_isSome];rfl
theorem lh(F:gL K "_law_row" "_law_row" s_X f fd):dG P w K mg base gJ 1 f fd ["rows","row"] spRo:=by
 refine F.okz sc_X λfL A outer s H vs Q E hr h=>?_
 obtain⟨ra,v,J,aC,r,rfl,rl,hv,hl,q⟩:=h;refine⟨_,(zD (zZ (zQ (LU hr.units) (pv 1) (pv 0) (by with_unfolding_all rfl)) (zG (yD (uD cR dR dQ jK (pv 0) (zA (pv 1) zB)))) zR) (zG (zM (zU xP zF (uD cR PySem.F.slot_list_index PySem.F.type_list_index (ME hr.units) (pv 0) (zA (pv 1) zB)))))),?_⟩;obtain⟨us,iT,hds⟩:=rl.ex;have hul:us.length=aC.length:=by have :=bA.length hds;rwa[aE]at this
 refine zH λN hN=>?_
 dsimp![rInG];have hfit:∀e∈aC.map oM,gI 2 e:=λe he=>by
  obtain⟨z,_,rfl⟩:=bO.mp he;exact EU 1 z
 refine⟨2,oM r,dD.same rl.sub hv,aC.map oM,.inl ⟨ra,us,rfl,iT,bA.same rl.sub hds⟩,hfit,(),?_⟩;rw[n8];have key:∀(H':Hp)(us':List V)(iY:List Rw)(k:Nat),bG J H'->H' ra=some (.lst us')->bA J (iY.map oM) us'->iY.length<=90001->oF iY r=some k->xT aC r=(iY,2*k)->N [some (.ref ra),some v] H':=λH' us' iY k e1 e2 e3 e4 e5 e6=>hN _ _ (by
  clear hN;dsimp![GU];have hr2:=gD.mp e5;have hfit':∀e∈iY.map oM,gI 2 e:=λe he=>by
   obtain⟨z,_,rfl⟩:=bO.mp he;exact EU 1 z
  refine⟨.inl ⟨rfl,_,dF.of e2⟩,_,e2,iY.map oM,bA.same e1 e3,oM r,dD.same e1 hv,2,hfit',(),by rw[aE];lia,k,⟨_,by rw[aQ,aA hr2.1];rfl,hr2.2.1⟩,λm' d' hm' hd'=>?_,?_⟩
  ·rw[aQ]at hd';obtain⟨r',hr3,rfl⟩:=bD.mp hd';obtain⟨hl,he⟩:=aD.mp hr3;have :=hr2.2.2 m' hm';rw[he]at this;simpa using this
  ·refine⟨.inl ⟨(),()⟩,?_⟩;have :=q H' (by rw[e6];exact⟨rl.no,e1,us',e2,e3⟩);rw[e6]at this;exact this)
 cases hx:oF aC r with
 |some k=>
  rw[aF (by simp)];exact key H us aC k rl.sub iT hds () hx (by unfold xT;rw[hx])
 |none=>
  rw[aH (by simp)];have hJ:bG J (upd H ra (.lst (us++[v]))):=λa o ha=>by
   rw[zL (λe=>by rw[e,rl.no]at ha;cases ha)];exact rl.sub _ _ ha
  exact⟨.inl ⟨rfl,_,dF.of iT⟩,us,iT,LC (),key _ (us++[v]) (aC++[r]) aC.length hJ zC (by rw[bF];exact bA.append hds (bA.one hv)) (by rw[aP,bY];lia) (XF hx) (by unfold xT;rw[hx])⟩
def BY:Nat->Tm->Prop
 |0,_=>False
 |1,_=>False
 |n+2,t=>eM n t
theorem BY.part{wd:Str}{ts:List Tm}(h:BY (n+1) (.node wd ts)):∀t∈ts,BY n t:=by
 match n,h with
 |0,h=>exact h.elim
 |1,h=>exact λt ht=>by rw[(show eM 0 (.node wd ts)from h).2]at ht;cases ht
 |n+2,h=>exact λt ht=>eM.part (show eM (n+1) (.node wd ts)from h) ht
theorem BY.sh{wd:Str}{ts:List Tm}(h:BY n (.node wd ts)):Sh wd ts.length:=by
 match n,h with
 |0,h=>exact h.elim
 |1,h=>exact h.elim
 |2,h=>exact(show eM 0 (.node wd ts)from h).1
 |n+3,h=>exact(show eM (n+1) (.node wd ts)from h).1
theorem BY.ex{t:Tm}(h:BY n t):∃m,eM m t:=by
 match n,h with
 |0,h=>exact h.elim
 |1,h=>exact h.elim
 |n+2,h=>exact⟨n,h⟩
theorem QM(e:Bool)(t:Tm):∀(ts:List Tm)(aC:List Rw)(m:Nat),xA e (ts++[t]) aC m=xT (eI t (xA e ts aC m).1).1 (.bo ((xA e ts aC m).2:Nat) (lE e (eI t (xA e ts aC m).1).2:Nat))
 |[],aC,m=>by
  show xA e [t] aC m=_;rw[xA,xA,xA]
 |u::ts,aC,m=>by
  show xA e (u::(ts++[t])) aC m=_;rw[xA,QM e t ts,xA]
theorem sIx2(n:Nat):HT.sIx (n+1+1) 0 (some 2)=2:=by
 unfold HT.sIx;simp only;rw[aF ()];lia
inductive spLd (n:Nat) (vs:List V) (H:Hp) (Q:VK) (E:XK):Prop
 |mk (ra:Addr) (v:V) (J:Hp) (aC:List Rw) (t:Tm) (_:vs=[.ref ra,v]) (_:RL H J ra aC) (_:nT aC) (_:hG J t v) (_:BY n t) (_:aC.length+2*wt t<=80000) (_:∀J' H',bG J J'->RL H' J' ra (eI t aC).1->Q (.int ((eI t aC).2:Nat)) H')
theorem dk(bi:Bi mg)(h_X:fX P w K mg base 1 "_law_row" ["rows","row"] spRo)(F:gL K "_law_laid" "_law_laid" s_s f fd)(b:Binds K fd ["rows","t"] [])(m:mg "_law_laid"=some (.ref f)):∀n,dG P w K mg base gJ n f fd ["rows","t"] (spLd n):=by
 refine PP F b m (λvs H Q E h=>by obtain⟨_,_,_,_,_,_,_,_,_,h,_⟩:=h;exact h) (λn h_s=>?_);cases n with
 |zero=>exact⟨λvs H Q E h=>by obtain⟨_,_,_,_,_,_,_,_,_,h,_⟩:=h;exact h.elim,λA outer s H args us vs Q E _ _ _ _ h=>by obtain⟨_,_,_,_,_,_,_,_,_,h,_⟩:=h;exact h.elim⟩
 |succ n=>
 refine F.okz LG λfL A outer s H vs Q E hr h=>?_
 obtain⟨ra,v,J,aC,t,rfl,rl,hsh,ht,hf,hl,q⟩:=h;refine⟨_,(zD (zZ (zQ yE (zJ zN (pv 1) zF) zT (zO _)) (zG (zM zF)) zR) (zD (zZ (zQ yE (zJ zN (pv 1) zF) zT (zO _)) (zG (zM zF)) zR) (zD (zZ (zQ yE (zJ zN (pv 1) zF) zT (zO _)) (zG (zM (zI h_X hr.m rfl (zA (pv 0) (zA (pv 1) zB))))) zR) (zD (zZ (zQ yE (zJ zN (pv 1) zF) zT (zO _)) (zG (zM (zU qS (zI h_s hr rfl (zA (pv 0) (zA (zJ zN (pv 1) zF) zB))) zF))) zR) (zD (yH 2 LG.nd (jJ QL rfl bi.int VB (zA (yM yE (zJ zN (pv 1) zF) zT (zO _)) zB))) (zD (yH 3 LG.nd (zU qS (zI h_s hr rfl (zA (pv 0) (zA (zJ zN (pv 1) zF) zB))) (pv 2))) (zD (yP bM rfl (qQ (xO OR (pv 1) (jC zF) jD)) (yF 4 LG.nd) (zD (yH 5 LG.nd (zU qS (zI h_s hr rfl (zA (pv 0) (zA (pv 4) zB))) (pv 2))) (zG (yH 3 LG.nd (zI h_X hr.m rfl (zA (pv 0) (zA (zP (zA zT (zA (pv 3) (zA (pv 5) zB)))) zB))))))) (zG (zM (zU qS (pv 3) (pv 2))))))))))),?_⟩;cases t with
 |name x=>
  obtain⟨a,rfl,ha⟩:=hG.name ht;refine zH λN hN=>?_
  dsimp![];refine⟨_,cW.of (rl.sub _ _ ha),.str "name",iG,rfl,?_⟩;rw[aF ()];refine hN _ _ ?_;clear hN;refine zH λN hN=>?_
  dsimp![];refine⟨_,cW.of (rl.sub _ _ ha),.str "name",iG,rfl,?_⟩;rw[aF ()];refine hN _ _ ?_;clear hN;refine zH λN hN=>?_
  dsimp![];refine⟨_,cW.of (rl.sub _ _ ha),.str "name",iG,rfl,?_⟩;rw[aH rfl];refine⟨ra,_,J,aC,.nm x,rfl,rl,ht,(),λH' r=>?_⟩;have :=q J H' (bG.refl J) (by rw[eI];exact r);rw[eI]at this;exact this
 |node wd ts=>
  obtain⟨a,us,rfl,ha,hu⟩:=hG.node ht;have hat:=rl.sub _ _ ha;obtain⟨m0,hfit⟩:=hf.ex;have hul:us.length=ts.length:=by have :=bA.length hu;rwa[aE]at this
  refine zH λN hN=>?_
  dsimp![];refine⟨_,cW.of hat,.str wd,iG,rfl,?_⟩;by_cases c1:wd="none"
  ·rw[aH (by rw[c1])];have :=q J H (bG.refl J) (by rw[eI,aH c1];exact rl);rw[eI,aH c1]at this;exact this
  rw[aF (λz=>c1 (V.str.inj z))];refine hN _ _ ?_;clear hN;refine zH λN hN=>?_
  dsimp![];refine⟨_,cW.of hat,.str wd,iG,rfl,?_⟩;by_cases c2:wd="all"
  ·rw[aH (by rw[c2])];have :=q J H (bG.refl J) (by rw[eI,aF c1,aH c2];exact rl);rw[eI,aF c1,aH c2]at this;exact this
  rw[aF (λz=>c2 (V.str.inj z))];refine hN _ _ ?_;clear hN;refine zH λN hN=>?_
  dsimp![];refine⟨_,cW.of hat,.str wd,iG,rfl,?_⟩;rw[aF (λe=>hfit.wrd.ne (V.str.inj e))];refine hN _ _ ?_;clear hN;obtain⟨t0,ts',rfl⟩:∃t0 ts',ts=t0::ts':=by
   cases ts with
   |nil=>
    rcases hf.sh with h |h |h |h |h
    ·exact(c1 h.1).elim
    ·exact(c2 h.1).elim
    ·cases h.2
    ·exact absurd h.2 ()
    ·exact absurd h.2 ()
   |cons t0 ts'=>exact⟨t0,ts',rfl⟩
  obtain⟨u0,us',rfl,lZ,iT⟩:=hu;have hw:wt (.node wd (t0::ts'))=1+(wt t0+mV ts'):=by rw[wt,mV]
  obtain⟨m1,hf0⟩:=(hf.part t0 aY).ex;refine zH λN hN=>?_
  dsimp![];refine⟨_,cW.of hat,.str wd,iG,rfl,?_⟩;by_cases c3:wd="not"
  ·rw[aH (by rw[c3])];have e0:ts'=[]:=by
    rcases hf.sh with h |h |h |h |h
    ·exact(c1 h.1).elim
    ·exact(c2 h.1).elim
    ·have h2:=h.2;rw[bB]at h2;exact eW.mp ()
    ·exact absurd (c3.symm.trans h.1) ()
    ·exact absurd (c3.symm.trans h.1) ()
   subst e0;have eb:eI (.node wd [t0]) aC=((eI t0 aC).1,oI (eI t0 aC).2):=by rw[eI,aF c1,aF c2,aH c3,jW,xA];rfl
   refine⟨_,cW.of hat,_,nK,ra,u0,J,aC,t0,rfl,rl,hsh,lZ,hf.part t0 aY,(),λJ' H' s' r'=>?_⟩;refine⟨_,rfl,?_⟩;rw[QS,ak];rw[eb]at q;exact q J' H' s' r'
  rw[aF (λz=>c3 (V.str.inj z))];refine hN _ _ ?_;clear hN;refine zH λN hN=>?_
  dsimp![];refine⟨_,cW.of hat,_,iG,rfl,hN _ _ ?_⟩;clear hN;have efl:(if V.str wd=V.str "either" then(1:Int)else 0)=if decide (wd="either")=true then 1 else 0:=by
   by_cases c:wd="either"
   ·rw[aH (by rw[c]),aH (by rw[c];rfl)]
   ·rw[aF (λz=>c (V.str.inj z)),aF (by simpa using c)]
  rw[efl];have eb:eI (.node wd (t0::ts')) aC=((xA (decide (wd="either")) ts' (eI t0 aC).1 (lE (decide (wd="either")) (eI t0 aC).2)).1,lE (decide (wd="either")) (xA (decide (wd="either")) ts' (eI t0 aC).1 (lE (decide (wd="either")) (eI t0 aC).2)).2):=by
   rw[eI,aF c1,aF c2,aF c3,jW]
  rw[eb]at q;generalize decide (wd="either")=e at q⊢;clear efl eb;obtain⟨g1,g2,g3,g4⟩:=qK t0 m1 aC hf0 hsh;refine zH λN hN=>?_
  dsimp![];refine⟨_,cW.of hat,_,nK,ra,u0,J,aC,t0,rfl,rl,hsh,lZ,hf.part t0 aY,(),λJ1 H1 s1 r1=>⟨_,rfl,hN _ _ ?_⟩⟩;clear hN;rw[YA];refine zH λN hN=>?_
  dsimp![];have hat1:=r1.sub _ _ (s1 _ _ ha);refine⟨_,cW.of hat1,λz=>absurd z.1 (by rw[bB,bB,sIx2];decide),λp hp=>?_⟩;rw[IY];refine⟨⟨_,cW.of zC⟩,?_⟩;have r2:=r1.new (o:=.tup us') hp;have s2:=s1.trans (zE (r1.sub.free hp) (.tup us'));have kp:upd J1 p (HO.tup us') p=some (.tup us'):=zC;clear hat1 hat rl s1 r1;generalize upd J1 p (.tup us')=J2 at r2 s2 kp;generalize upd H1 p (.tup us')=H2 at r2;refine EQ (xs:=us') (λi σ H'=>∃(J':Hp)(o1 o2:Option V),bG J2 J'/\RL H' J' ra (xA e (ts'.take i) (eI t0 aC).1 (lE e (eI t0 aC).2)).1/\σ=[some (.ref ra),some (.ref a),some (.int (if e=true then 1 else 0)),some (.int ((xA e (ts'.take i) (eI t0 aC).1 (lE e (eI t0 aC).2)).2:Nat)),o1,o2]) ⟨J2,_,_,bG.refl _,by rw[rG,xA];exact r2,by rw[rG,xA]⟩ (λi σ H' _ h=>by obtain⟨J',_,_,h1,h2,_⟩:=h;exact cW.of (h2.sub _ _ (h1 _ _ kp))) (λi x σ H' hx h M hM=>?_) (λσ H' h=>?_)
  ·obtain⟨J3,o1,o2,s3,r3,rfl⟩:=h;obtain⟨t,ht3,hx3⟩:=fD.getV iT hx;have htm:=aZ ht3;obtain⟨m3,hf3⟩:=(hf.part t (aV _ htm)).ex;have hil:=(aD.mp ht3).1;have etk:ts'.take (i+1)=ts'.take i++[t]:=by rw[aO hil,(aD.mp ht3).2]
   have hwt:mV (ts'.take i)+wt t<=mV ts':=by
    have :=cJ mV (dW (i+1) ts');rw[wL,etk,wL,mV,mV]at this;lia
   obtain⟨c1,c2,c3,c4⟩:=JJ e (ts'.take i) (eI t0 aC).1 (lE e (eI t0 aC).2) (λu hu=>(hf.part u (aV _ (cQ hu))).ex) g1 (YX g4);rw[etk,QM]at hM;generalize xA e (ts'.take i) (eI t0 aC).1 (lE e (eI t0 aC).2)=pr at r3 c1 c2 c3 c4 hM⊢;obtain⟨d1,d2,d3,d4⟩:=qK t m3 pr.1 hf3 c1;refine zH λN hN=>?_
   dsimp![];refine⟨ra,x,J3,pr.1,t,rfl,r3,c1,dD.same (s2.trans s3) hx3,hf.part t (aV _ htm),(),λJ4 H4 s4 r4=>⟨_,rfl,hN _ _ ?_⟩⟩;clear hN;rw[YA];dsimp![];refine⟨small (),λp5 hp5=>?_⟩;have r5:=r4.new (o:=.tup [.str "both",.int (pr.2:Nat),.int (lE e (eI t pr.1).2:Nat)]) hp5;refine⟨ra,.ref p5,_,(eI t pr.1).1,.bo (pr.2:Nat) (lE e (eI t pr.1).2:Nat),rfl,r5,⟨p5,_,rfl,zC,_,_,rfl,rfl,_,_,rfl,rfl,_,_,rfl,rfl,rfl⟩,(),λH6 r6=>hM _ _ ⟨_,_,_,s3.trans (s4.trans (zE (r4.sub.free hp5) _)),r6,rfl⟩⟩
  ·obtain⟨J3,o1,o2,s3,r3,rfl⟩:=h;rw[aR (by have :=bA.length iT;rw[aE]at this;lia)]at r3⊢;refine hN _ _ ?_;clear hN;dsimp![];rw[YA];exact q J3 H' (s2.trans s3) r3
inductive jp (n:Nat) (vs:List V) (H:Hp) (Q:VK) (E:XK):Prop
 |mk (ra:Addr) (v:V) (J:Hp) (aC:List Rw) (s:Tm×Tm) (_:vs=[.ref ra,v]) (_:RL H J ra aC) (_:nT aC) (_:oW J s v) (_:eM n s.1) (_:eM n s.2) (_:aC.length+2*(wt s.1+wt s.2)<=80000) (_:∀p J' H',bG J J'->RL H' J' ra (eI s.2 (eI s.1 aC).1).1->J' p=some (.tup [.int ((eI s.1 aC).2:Nat),.int ((eI s.2 (eI s.1 aC).1).2:Nat)])->Q (.ref p) H')
inductive jw (vs:List V) (H:Hp) (Q:VK) (E:XK):Prop
 |mk (ba:Addr) (v:V) (bs:List V) (b:List mS) (s:Tm×Tm) (_:vs=[.ref ba,v]) (_:H ba=some (.lst bs)) (_:iK H b bs) (_:oW H s v) (_:b.length<=20) (_:(∀r∈b,r.1.length<=5)) (_:(∀t∈iJ b++iV s,eM 20 t/\wt t<=120)) (_:∀ra J H',bG H J->RL H' J ra (xK (iJ b++iV s) [.no])->Q (.ref ra) H')
theorem vY:∀(a b:List Tm)(aC:List Rw),xK (a++b) aC=xK b (xK a aC)
 |[],b,aC=>rfl
 |t::a,b,aC=>vY a b _
theorem OC(ps:List (Tm×Tm)):(jO ps).length=2*ps.length:=by
 induction ps with
 |nil=>rfl
 |cons p ps ih=>
  show(iV p++jO ps).length=_;rw[aP,ih,bB];show 2+_=_;lia
theorem BQ:∀(ts:List Tm)(aC:List Rw),(∀t∈ts,eM 20 t/\wt t<=120)->nT aC->nT (xK ts aC)/\(xK ts aC).length<=aC.length+240*ts.length
 |[],aC,_,h=>⟨h,aJ _⟩
 |t::ts,aC,hf,h=>by
  obtain⟨g1,g2,g3,g4⟩:=qK t 20 aC (hf t aY).1 h;have hw:=(hf t aY).2;obtain⟨e1,e2⟩:=BQ ts (eI t aC).1 (λu hu=>hf u (aV _ hu)) g1;refine⟨e1,?_⟩;show(xK ts (eI t aC).1).length<=_;rw[bB];lia
theorem KY{r:mS}(h:b[i]?=some r):iJ (b.take (i+1))=iJ (b.take i)++jO (r.1++[r.2]):=by
 obtain⟨hi,e⟩:=aD.mp h;rw[aO hi,e];simp[iJ,NI,jO]
theorem CO{ps:List (Tm×Tm)}{p:Tm×Tm}(h:ps[i]?=some p):jO (ps.take (i+1))=jO (ps.take i)++iV p:=by
 obtain⟨hi,e⟩:=aD.mp h;rw[aO hi,e];simp[jO]
theorem di(h_s:fX P w K mg base 22 "_law_laid" ["rows","t"] (spLd 22))(F:gL K "_law_pair" "_law_pair" s_E f fd):dG P w K mg base gJ 23 f fd ["rows","saying"] (jp 20):=by
 refine F.okz sc_E λfL A outer s H vs Q E hr h=>?_
 obtain⟨ra,v,J,aC,s,rfl,rl,hsh,hv,f1,f2,hl,q⟩:=h;refine⟨_,(zD (yH 2 sc_E.nd (zI h_s hr.m rfl (zA (pv 0) (zA (zJ zN (pv 1) zF) zB)))) (zG (zM (zP (zA (pv 2) (zA (zI h_s hr.m rfl (zA (pv 0) (zA (zJ zN (pv 1) zF) zB))) zB)))))),?_⟩;obtain⟨a,us,rfl,ha,x,r',rfl,hx,y,r'',rfl,hy,e⟩:=hv;cases (show r''=[]from e);obtain⟨g1,g2,g3,g4⟩:=qK s.1 20 aC f1 hsh;refine zH λN hN=>?_
 dsimp![];refine⟨_,cW.of (rl.sub _ _ ha),_,iG,ra,x,J,aC,s.1,rfl,rl,hsh,hx,f1,(),λJ1 H1 s1 r1=>hN _ _ ?_⟩;clear hN;dsimp![];refine⟨_,cW.of (r1.sub _ _ (s1 _ _ ha)),_,nK,ra,y,J1,_,s.2,rfl,r1,g1,dD.same s1 hy,f2,(),λJ2 H2 s2 r2=>⟨small (),λp hp=>q p _ _ (s1.trans (s2.trans (zE (r2.sub.free hp) _))) (r2.new hp) zC⟩⟩
theorem AG(h_E:fX P w K mg base 23 "_law_pair" ["rows","saying"] (jp 20))(F:gL K "_law_all_rows" "_law_all_rows" s_f f fd):dG P w K mg base gJ 24 f fd ["book","saying"] jw:=by
 refine F.okz OU λfL A outer s H vs Q E hr h=>?_
 obtain⟨ba,v,bs,b,s,rfl,lL,hb,hv,hbl,hpl,hf,q⟩:=h;refine⟨_,(zD (yH 2 OU.nd (xF (zA (zP (zA zT zB)) zB))) (zD (yP bM rfl (yV (pv 0)) (jF rfl (zV (yF 3 OU.nd) (zV (yF 4 OU.nd) yY))) (zG (yP bM rfl (yV (zU DK (pv 3) (xF (zA (pv 4) zB)))) (yF 5 OU.nd) (zG (yD (zI h_E hr.m rfl (zA (pv 2) (zA (pv 5) zB)))))))) (zD (yD (zI h_E hr.m rfl (zA (pv 2) (zA (pv 1) zB)))) (zG (zM (pv 2)))))),?_⟩;have hbsl:bs.length=b.length:=by have :=bA.length hb;rwa[aE]at this
 refine zH λN hN=>?_
 dsimp![];refine⟨small (),λp0 hp0=>⟨small (),λra hra=>hN _ _ ?_⟩⟩;clear hN;have s0:=zE hp0 (.tup [.str "none"]);have r0:RL (upd (upd H p0 (.tup [.str "none"])) ra (.lst [.ref p0])) (upd H p0 (.tup [.str "none"])) ra [.no]:=⟨hra,zE hra _,_,zC,_,_,rfl,⟨p0,_,rfl,zC,_,_,rfl,rfl,rfl⟩,rfl⟩
 clear hra hp0;generalize upd (upd H p0 (.tup [.str "none"])) ra (.lst [.ref p0])=H1 at r0;generalize upd H p0 (.tup [.str "none"])=J1 at s0 r0;have hba1:=s0 _ _ lL;have hb1:iK J1 b bs:=bA.same s0 hb;have hv1:=dD.same s0 hv;have htl:=YB hpl;have fitB:∀{xs:List Tm},(∀t∈xs,t∈iJ b++iV s)->xs.length<=260->nT (xK xs [.no])/\(xK xs [.no]).length<=65000:=λ{xs} h hl=>by
  obtain⟨e1,e2⟩:=BQ xs [.no] (λt ht=>hf t (h t ht)) nT.one;rw[bY]at e2;exact⟨e1,()⟩
 refine yK (λσ H'=>∃(J':Hp)(o1 o2 o3:Option V),bG J1 J'/\RL H' J' ra (xK (iJ b) [.no])/\σ=[some (.ref ba),some v,some (.ref ra),o1,o2,o3]) (λN hN=>?_) (λσ H' h=>?_)
 ·dsimp![];refine⟨⟨_,dF.of (r0.sub _ _ hba1)⟩,?_⟩;refine jE (xs:=bs) (λi σ H'=>∃(J':Hp)(o1 o2 o3:Option V),bG J1 J'/\RL H' J' ra (xK (iJ (b.take i)) [.no])/\σ=[some (.ref ba),some v,some (.ref ra),o1,o2,o3]) ⟨J1,_,_,_,bG.refl _,r0,rfl⟩ (λi σ H' _ h=>by obtain⟨J',_,_,_,h1,h2,_⟩:=h;exact dF.of (h2.sub _ _ (h1 _ _ hba1))) (λi x σ H' hx h M hM=>?_) (λσ H' h=>?_)
  ·obtain⟨J2,o1,o2,o3,s2,r2,rfl⟩:=h;obtain⟨r,mC,hr2⟩:=iK.getV hb1 hx;have hrm:=aZ mC;rw[KY mC,vY]at hM;dsimp![uQ,jU,uY];obtain⟨ta,us,rfl,hta,x1,r1,rfl,⟨la,ws,rfl,iF,hws⟩,x2,r',rfl,hx2,e⟩:=hr2;cases (show r'=[]from e);have hwl:ws.length=r.1.length:=by have :=bA.length hws;rwa[aE]at this
   have hrl:=hpl r hrm;refine⟨ta,rfl,_,cW.of (r2.sub _ _ (s2 _ _ hta)),rfl,_,_,rfl,_,_,rfl,rfl,small (),λp hp=>⟨la,rfl,ws,zE hp _ _ _ (r2.sub _ _ (s2 _ _ iF)),_,zC,OQ (by rw[bY];lia),λp1 lV=>⟨⟨_,dF.of zC⟩,?_⟩⟩⟩;have r3:=(r2.new (o:=.lst [x2]) hp).new (o:=.lst (ws++[x2])) lV;have s3:=s2.trans ((zE (r2.sub.free hp) (.lst [x2])).trans (zE ((r2.new (o:=.lst [x2]) hp).sub.free lV) (.lst (ws++[x2]))));have kp:upd (upd J2 p (.lst [x2])) p1 (.lst (ws++[x2])) p1=some (.lst (ws++[x2])):=zC;have hss:rD J1 (r.1++[r.2]) (ws++[x2]):=by
    show bA J1 ((r.1++[r.2]).map EZ) _;rw[bF];exact bA.append hws (bA.one hx2)
   clear hp lV r2 s2;generalize upd (upd J2 p (.lst [x2])) p1 (.lst (ws++[x2]))=J3 at r3 s3 kp;generalize upd (upd H' p (.lst [x2])) p1 (.lst (ws++[x2]))=H3 at r3;have hin:∀{ps:List (Tm×Tm)},(∀p∈ps,p∈r.1++[r.2])->∀t∈jO ps,t∈iJ b++iV s:=λ{ps} h t ht=>by
    obtain⟨p,hp,ht⟩:=cX.mp ht;refine bS _ (cX.mpr ⟨r,hrm,?_⟩);rcases bX.mp (h p hp)with h |h
    ·exact bS _ (cX.mpr ⟨p,h,ht⟩)
    ·rw[aX.mp h]at ht;exact bE _ ht
   have hinB:∀t∈iJ (b.take i),t∈iJ b++iV s:=λt ht=>by
    obtain⟨r,hr,ht⟩:=cX.mp ht;exact bS _ (cX.mpr ⟨r,cQ hr,ht⟩)
   have hlB:(iJ (b.take i)).length<=240:=by
    have h1:=YB (b:=b.take i) λr hr=>hpl r (cQ hr)
    have h2:(b.take i).length<=b.length:=by rw[bH];lia
    lia
   refine jE (xs:=ws++[x2]) (λj σ H'=>∃(J':Hp)(o:Option V),bG J3 J'/\RL H' J' ra (xK (jO ((r.1++[r.2]).take j)) (xK (iJ (b.take i)) [.no]))/\σ=[some (.ref ba),some v,some (.ref ra),some (.ref la),some x2,o]) ⟨J3,_,bG.refl _,r3,rfl⟩ (λi σ H' _ h=>by obtain⟨J',_,h1,h2,_⟩:=h;exact dF.of (h2.sub _ _ (h1 _ _ kp))) (λj x σ H4 hx h M2 hM2=>?_) (λσ H4 h=>?_)
   ·obtain⟨J4,o,s4,r4,rfl⟩:=h;obtain⟨q1,hq1,hq2⟩:=rD.getV hss hx;have hqm:=aZ hq1;rw[CO hq1,vY (jO _)]at hM2;dsimp![];have hft:=fitB (xs:=iJ (b.take i)++jO ((r.1++[r.2]).take j)) (λt ht=>by
     rcases bX.mp ht with h |h
     ·exact hinB t h
     ·exact hin (λp hp=>cQ hp) t h) (by
     have :((r.1++[r.2]).take j).length<=(r.1++[r.2]).length:=by rw[bH];lia
     rw[aP,bY]at this;rw[aP,OC];lia)
    rw[vY]at hft;have hq:=hin (ps:=[q1]) (λp hp=>by rw[aX.mp hp];exact hqm);have hqa:=hf q1.1 (hq _ (by simp[jO,iV]));have hqb:=hf q1.2 (hq _ (by simp[jO,iV]));exact⟨ra,x,J4,_,q1,rfl,r4,hft.1,dD.same (s3.trans s4) hq2,hqa.1,hqb.1,(),λp J5 H5 s5 r5 _=>hM2 _ _ ⟨J5,_,s4.trans s5,r5,rfl⟩⟩
   ·obtain⟨J4,o,s4,r4,rfl⟩:=h;rw[aR (by rw[aP,aP];simp;lia)]at r4;exact hM _ _ ⟨J4,_,_,_,s3.trans s4,r4,rfl⟩
  ·obtain⟨J2,o1,o2,o3,s2,r2,rfl⟩:=h;rw[aR ()]at r2;exact hN _ _ ⟨J2,o1,o2,o3,s2,r2,rfl⟩
 ·obtain⟨J2,o1,o2,o3,s2,r2,rfl⟩:=h;refine zH λN hN=>?_
  dsimp![];have hft:=fitB (xs:=iJ b) (λt ht=>bS _ ht) ();have h1:=hf s.1 (bE _ (by simp[iV]));have h2:=hf s.2 (bE _ (by simp[iV]));refine⟨ra,v,J2,_,s,rfl,r2,hft.1,dD.same s2 hv1,h1.1,h2.1,(),λp J3 H3 s3 r3 _=>hN _ _ ?_⟩;clear hN;dsimp![];refine q ra J3 H3 (s0.trans (s2.trans s3)) ?_;rw[vY];exact r3
abbrev s_t:Stmt:=top 61
theorem sc_t:bW ["found_v"] ["found_v"] (zK s_t):=by rfl'
abbrev s_e:Stmt:=top 67
theorem bm:bW ["rows","book","rules","k","rule"] ["rows","book"] (zK s_e):=by rfl'
abbrev s_n:Stmt:=top 68
theorem sc_n:bW ["found_v","due","row"] ["found_v","due"] (zK s_n):=by rfl'
inductive sV (vs:List V) (H:Hp) (Q:VK) (E:XK):Prop
 |mk (i:Int) (_:vs=[.int i]) (_:Q (.bl true) H)
inductive jr (vs:List V) (H:Hp) (Q:VK) (E:XK):Prop
 |mk (ra:Addr) (v:V) (J:Hp) (aC:List Rw) (s:Tm×Tm) (_:vs=[.ref ra,v]) (_:RL H J ra aC) (_:nT aC) (_:aC.length<=100) (_:oW J s v) (_:WG aC s) (_:wt s.1<=120) (_:wt s.2<=120) (_:∀p J' H',bG J J'->RL H' J' ra aC->J' p=some (.tup [.int (nS aC s).1,.int (nS aC s).2])->Q (.ref p) H')
def rk:List V->Nat->List (eZ×V)
 |[],_=>[]
 |v::vs,n=>(.inl (n:Int),v)::rk vs (n+1)
theorem GQ(v:V):∀(vs:List V)(n:Nat),rk (vs++[v]) n=rk vs n++[(.inl ((n+vs.length:Nat):Int),v)]
 |[],n=>rfl
 |u::vs,n=>by
  show(Sum.inl (n:Int),u)::rk (vs++[v]) (n+1)=(Sum.inl (n:Int),u)::(rk vs (n+1)++_);rw[GQ v vs,bB,show n+1+vs.length=n+(vs.length+1) by lia]
theorem CZ:∀(vs:List V)(n k:Nat),yW (rk vs n) (.inl ((n+k:Nat):Int))=vs[k]?
 |[],n,k=>rfl
 |v::vs,n,0=>uN rfl
 |v::vs,n,k+1=>by
  show yW ((Sum.inl (n:Int),v)::rk vs (n+1)) _=_;rw[qN (λz=>by have :=oG z;lia),show n+(k+1)=n+1+k by lia,CZ vs (n+1) k];rfl
theorem kh(vs:List V)(v:V):jZ (rk vs 0) (.inl (vs.length:Int)) v=rk (vs++[v]) 0:=by
 rw[GQ,fJ];exact uW (by
  have :=CZ vs 0 vs.length;rw[fJ]at this;rw[this];exact List.getElem?_eq_none (aJ _))
theorem PK:∀(vs:List V)(n:Nat),(rk vs n).length=vs.length
 |[],n=>rfl
 |v::vs,n=>cJ (· +1) (PK vs (n+1))
def iy(J:Hp)(d:Addr)(aT:List xJ):Prop:=∃vs,J d=some (.dK (rk vs 0))/\bA J (aT.map IX) vs
theorem iy.same{J J':Hp}{d:Addr}(h:iy J d aT)(e:bG J J'):iy J' d aT:=by
 obtain⟨vs,h1,h2⟩:=h;exact⟨vs,e _ _ h1,bA.same e h2⟩
theorem RL.upd{J:Hp}{ra:Addr}{d:Addr}{kvs kvs':List (eZ×V)}(h:RL H J ra aC)(hd:J d=some (.dK kvs)):RL (L2.upd H d (.dK kvs')) (L2.upd J d (.dK kvs')) ra aC:=by
 obtain⟨us,h1,h2⟩:=h.ex;have hne:ra≠d:=λe=>by rw[←e,h.no]at hd;cases hd
 refine⟨by rw[zL hne];exact h.no,λa x hx=>?_,us,by rw[zL hne];exact h1,bA.keepK (λb o ho hb=>?_) h2⟩
 ·by_cases e:a=d
  ·subst e;rw[zC]at hx⊢;exact hx
  ·rw[zL e]at hx⊢;exact h.sub _ _ hx
 ·rw[zL (λe=>by
   obtain⟨xs,ho⟩:=ho;rw[e,hd]at hb;rcases ho with rfl |rfl<;>cases hb)]
  exact hb
inductive spBn (vs:List V) (H:Hp) (Q:VK) (E:XK):Prop
 |mk (ra ba:Addr) (J:Hp) (aC:List Rw) (bs:List V) (b:List mS) (_:vs=[.ref ra,.ref ba]) (_:RL H J ra aC) (_:nT aC) (_:aC.length<=100) (_:J ba=some (.lst bs)) (_:iK J b bs) (_:b.length<=20) (_:(∀r∈b,ou aC r)) (_:(∀t∈iJ b,wt t<=120)) (_:∀d J' H',bG J J'->RL H' J' ra aC->iy J' d (b.map (nR aC))->Q (.ref d) H')
theorem HG{k:Nat}(h:fX P w K mg base k "_law_pair" ["rows","saying"] (jp 20)):fX P w K mg base k "_law_pair" ["rows","saying"] jr:=h.imp λvs H Q E h=>by
 obtain⟨ra,v,J,aC,s,rfl,rl,hsh,hl,hv,hg,w1,w2,q⟩:=h;have e1:=hg.1.2;have e2:=hg.2.2;refine⟨ra,v,J,aC,s,rfl,rl,hsh,hv,hg.1.1,hg.2.1,(),λp J' H' s' r' k'=>?_⟩;rw[e1]at r' k';rw[e2]at r';exact q p J' H' s' r' k'
theorem RX(bi:Bi mg)(F:gL K "_law_whole" "_law_whole" s_t f fd):dG P w K mg base gJ 1 f fd ["found_v"] sV:=by
 refine F.okz sc_t λfL A outer s H vs Q E hr h=>?_
 obtain⟨i,rfl,q⟩:=h;refine⟨_,(zG (zM (jG (zS (xW (T:="int")) rfl bi.isinstance yL (zA (pv 0) (zA (vK bi.int VB rfl) zB))) (qR (RJ (zS (xW (T:="bool")) rfl bi.isinstance yL (zA (pv 0) (zA (vK bi.bool KB rfl) zB)))))))),?_⟩;dsimp![];exact⟨_,.int i,true,jT,TK ⟨_,.int i,false,TF,q⟩⟩
theorem JN(bi:Bi mg)(be:mg "enumerate"=none)(h_E:fX P w K mg base 23 "_law_pair" ["rows","saying"] jr)(F:gL K "_law_by_numbers" "_law_by_numbers" s_e f fd):dG P w K mg base gJ 24 f fd ["rows","book"] spBn:=by
 refine F.okz bm λfL A outer s H vs Q E hr h=>?_
 obtain⟨ra,ba,J,aC,bs,b,rfl,rl,hsh,hrl,lL,hb,hbl,hg,hw,q⟩:=h;refine⟨_,(zD (yH 2 bm.nd tR) (zD (yP bM rfl (uX rfl be (zA (pv 1) zB)) (jF rfl (zV (yF 3 bm.nd) (zV (yF 4 bm.nd) yY))) (zG (kF (jL hr) (pv 2) (pv 3) (zP (zA (yZ ["one"] ["rows"] [0] (yV (zJ zN (pv 4) zF)) (λ_ _ _ _ nd=>yF 0 nd) (λ_ _ _ _=>yU) (λ_ _ _ _=>(zI h_E hr.m rfl (zA (pv 1) (zA (pv 0) zB))))) (zA (zI h_E hr.m rfl (zA (pv 0) (zA (zJ zN (pv 4) zF) zB))) zB))) rfl))) (zG (zM (pv 2))))),?_⟩;have hbsl:bs.length=b.length:=by have :=bA.length hb;rwa[aE]at this
 refine zH λN hN=>?_
 dsimp![];refine λd hd=>hN _ _ ?_
 clear hN;have r0:=rl.new (o:=.dK []) hd;have s0:=zE (rl.sub.free hd) (.dK []);have kd:upd J d (.dK []) d=some (.dK []):=zC;have hdJ:=rl.sub.free hd;clear hd;generalize upd J d (.dK [])=J0 at r0 s0 kd;generalize upd H d (.dK [])=H0 at r0;refine yK (λσ H'=>∃(J':Hp)(o1 o2:Option V),bG J J'/\RL H' J' ra aC/\iy J' d (b.map (nR aC))/\σ=[some (.ref ra),some (.ref ba),some (.ref d),o1,o2]) (λN hN=>?_) (λσ H' h=>?_)
 ·dsimp![ZO];refine⟨_,r0.sub _ _ (s0 _ _ lL),?_⟩;refine YN (xs:=bs) (λi σ H'=>∃(J':Hp)(vs:List V)(o1 o2:Option V),bG J J'/\RL H' J' ra aC/\J' d=some (.dK (rk vs 0))/\bA J' ((b.take i).map λr=>IX (nR aC r)) vs/\σ=[some (.ref ra),some (.ref ba),some (.ref d),o1,o2]) ⟨J0,[],_,_,s0,r0,kd,rfl,rfl⟩ (λk σ H' h=>?_) (λk x σ H' pe hx h hpe M hM=>?_) (λσ H' h=>?_)
  ·obtain⟨J',_,_,_,h1,h2,_⟩:=h;exact h2.sub _ _ (h1 _ _ lL)
  ·obtain⟨J1,vs,o1,o2,s1,r1,kd1,hvs,rfl⟩:=h;obtain⟨r,mC,hr2⟩:=iK.getV hb hx;have hrm:=aZ mC;have hgr:=hg r hrm;obtain⟨a,l,u,ws,rfl,ha,hl2,hps2,hc2⟩:=hr2.out;have hvl:=hps2.length;have r2:=r1.new (o:=.tup [.int k,.ref a]) hpe;have s12:=zE (r1.sub.free hpe) (.tup [.int k,.ref a]);have kp:upd J1 pe (.tup [.int k,.ref a]) pe=some (.tup [.int k,.ref a]):=zC;have s2:=s1.trans s12;have kd2:=s12 _ _ kd1;have hvs2:=bA.same s12 hvs;clear r1 s1 hpe s12 kd1 hvs;generalize upd J1 pe (.tup [.int k,.ref a])=J2 at r2 s2 kp kd2 hvs2;generalize upd H' pe (.tup [.int k,.ref a])=H2 at r2⊢;dsimp![uQ,jU,uY,JX];have hwS:∀s∈r.1++[r.2],wt s.1<=120/\wt s.2<=120:=λs hs=>by
    have hm:∀t∈iV s,t∈iJ b:=λt ht=>cX.mpr ⟨r,hrm,by
     rcases bX.mp hs with h |h
     ·exact bS _ (cX.mpr ⟨s,h,ht⟩)
     ·rw[aX.mp h]at ht;exact bE _ ht⟩
    exact⟨hw _ (hm _ (by simp[iV])),hw _ (hm _ (by simp[iV]))⟩
   have hrl5:=hgr.1;refine⟨_,cW.of (r2.sub _ _ kp),rfl,_,_,rfl,_,_,rfl,rfl,a,rfl,_,cW.of (r2.sub _ _ (s2 _ _ ha)),_,iG,l,rfl,⟨_,dF.of (r2.sub _ _ (s2 _ _ hl2))⟩,?_⟩;refine uG (xs:=ws) (λi ys σ G=>∃J',bG J2 J'/\RL G J' ra aC/\bA J' ((r.1.take i).map λs=>oN (nS aC s)) ys/\∃o,σ=[o,some (V.ref ra)]) ⟨J2,bG.refl _,r2,rfl,_,rfl⟩ (small ()) (λi ys σ G e=>?_) (λi ys σ G e=>?_) (λi x ys σ G C hx e hC=>?_) (λys σ G e p hp=>?_)
   ·obtain⟨J',_,_,hd,_⟩:=e;have :=bA.length hd;rw[aE,bH]at this;lia
   ·obtain⟨J',sJ,rJ,_⟩:=e;exact dF.of (rJ.sub _ _ (sJ _ _ (s2 _ _ hl2)))
   ·obtain⟨J',sJ,rJ,hd,o,rfl⟩:=e;obtain⟨q1,hq1,hx'⟩:=hps2.getV hx;have hqm:=aZ hq1;obtain⟨hil,hie⟩:=aD.mp hq1;have hqw:=hwS q1 (bS _ hqm);dsimp![];refine⟨ra,x,J',aC,q1,rfl,rJ,hsh,hrl,dD.same (s2.trans sJ) hx',hgr.2.1 q1 hqm,hqw.1,hqw.2,λp J3 G3 s3 r3 k3=>hC _ _ _ ⟨J3,sJ.trans s3,r3,?_,_,rfl⟩⟩;rw[aO hil,hie,bF];exact bA.append (bA.same s3 hd) (bA.one ⟨p,_,rfl,k3,_,_,rfl,rfl,_,_,rfl,rfl,rfl⟩)
   ·obtain⟨J3,s3,r3,hd,o,rfl⟩:=e;have r4:=r3.new (o:=.lst ys) hp;have s4:=s3.trans (zE (r3.sub.free hp) (.lst ys));have k4:upd J3 p (.lst ys) p=some (.lst ys):=zC;have hd4:=bA.same (zE (r3.sub.free hp) (.lst ys)) hd;clear r3 s3 hp hd;generalize upd J3 p (.lst ys)=J4 at r4 s4 k4 hd4;generalize upd G p (.lst ys)=G4 at r4⊢;have hqw:=hwS r.2 (bE _ (aX.mpr rfl));refine⟨a,rfl,_,cW.of (r4.sub _ _ (s4 _ _ (s2 _ _ ha))),_,nK,ra,u,J4,aC,r.2,rfl,r4,hsh,hrl,dD.same (s2.trans s4) hc2,hgr.2.2,hqw.1,hqw.2,λp5 J5 G5 s5 r5 k5=>⟨small (),λp6 hp6=>?_⟩⟩;have s6:=zE (r5.sub.free hp6) (.tup [.ref p,.ref p5]);have r6:=r5.new (o:=.tup [.ref p,.ref p5]) hp6;have kd6:=s6 _ _ (s5 _ _ (s4 _ _ kd2));have hrul:dD (upd J5 p6 (.tup [.ref p,.ref p5])) (IX (nR aC r)) (.ref p6):=by
     refine⟨p6,_,rfl,zC,_,_,rfl,⟨p,ys,rfl,(s5.trans s6) _ _ k4,?_⟩,_,_,rfl,⟨p5,_,rfl,s6 _ _ k5,_,_,rfl,rfl,_,_,rfl,rfl,rfl⟩,rfl⟩;show bA _ ((r.1.map (nS aC)).map oN) ys;rw[eG];rw[hvl,aR (aJ _)]at hd4;exact bA.same (s5.trans s6) hd4
    have hvs6:=bA.same (s4.trans (s5.trans s6)) hvs2;have hs6:bG J (upd J5 p6 (.tup [.ref p,.ref p5])):=s2.trans (s4.trans (s5.trans s6));clear s6 k5;generalize upd J5 p6 (.tup [.ref p,.ref p5])=J6 at r6 kd6 hrul hvs6 hs6;generalize upd G5 p6 (.tup [.ref p,.ref p5])=G6 at r6⊢;have hvk:vs.length=k:=by
     have :=bA.length hvs2;rw[aE,bH]at this;have :=(aD.mp mC).1;lia
    have keep:∀{o:HO}{b:Addr},(∃xs,o=.tup xs\/o=.lst xs)->J6 b=some o->upd J6 d (.dK (jZ (rk vs 0) (.inl (k:Int)) (.ref p6))) b=some o:=λ{o b} ho hb=>by
     rw[zL (λe=>by
      obtain⟨xs,ho⟩:=ho;rw[e,kd6]at hb;rcases ho with rfl |rfl<;>cases hb)]
     exact hb
    refine⟨_,rR.k (k:=.inl (k:Int)) (r6.sub _ _ kd6) (by rw[PK];exact LC (by have :=(aD.mp mC).1;lia)),hM _ _ ⟨_,vs++[.ref p6],_,_,λb o hb=>?_,r6.upd kd6,?_,?_,rfl⟩⟩
    ·rw[zL (λe=>by rw[e,hdJ]at hb;cases hb)];exact hs6 _ _ hb
    ·rw[zC,←kh,hvk]
    ·obtain⟨hil,hie⟩:=aD.mp mC;rw[aO hil,hie,bF];exact bA.append (bA.keepK (λb o ho hb=>keep ho hb) hvs6) (bA.one (dD.keepK (λb o ho hb=>keep ho hb) hrul))
  ·obtain⟨J1,vs,o1,o2,s1,r1,kd1,hvs,rfl⟩:=h;rw[aR ()]at hvs;exact hN _ _ ⟨J1,_,_,s1,r1,⟨vs,kd1,by rw[eG];exact hvs⟩,rfl⟩
 ·obtain⟨J',o1,o2,s',r',hd',rfl⟩:=h;dsimp![];exact q d J' H' s' r' hd'
theorem at2{x y z:V}{xs:List V}:oO (x::y::z::xs) 2=some z:=uT () rfl
theorem gv{K:W.Frag}{H:Hp}:∀{aC:List Rw}{us:List V},fP K H aC us->oR K H (aC.map oM) us
 |[],us,h=>h
 |r::aC,us,⟨v,vs,e,⟨a,ev,tw⟩,h⟩=>⟨v,vs,e,(by
  subst ev;cases r with
  |no=>exact⟨a,_,rfl,tw.sq,_,_,rfl,rfl,rfl⟩
  |nm x=>exact⟨a,_,rfl,tw.sq,_,_,rfl,rfl,_,_,rfl,rfl,rfl⟩
  |bo i j=>exact⟨a,_,rfl,tw.sq,_,_,rfl,rfl,_,_,rfl,rfl,_,_,rfl,rfl,rfl⟩),gv h⟩
inductive gm (K:W.Frag) (vs:List V) (H:Hp) (Q:VK) (E:XK):Prop
 |mk (fa da:Addr) (us ws:List V) (aC:List Rw) (_:vs=[.ref fa,.ref da]) (_:H fa=some (.lst us)) (_:fP K H aC us) (_:H da=some (.lst ws)) (_:bA H (aC.map oM) ws) (_:aC.length<=100) (_:Q (.bl true) H)
theorem UK(bi:Bi mg)(h_t:fX P w K mg base 1 "_law_whole" ["found_v"] sV)(F:gL K "_law_same_rows" "_law_same_rows" s_n f fd):dG P w K mg base gJ 2 f fd ["found_v","due"] (gm K):=by
 refine F.okz sc_n λfL A outer s H vs Q E hr h=>?_
 obtain⟨fa,da,us,ws,aC,rfl,hfa,hrw,hda,hws,hrl,q⟩:=h;refine⟨_,(zD (zZ (PW.pt (jX (jB (xE (zS (xW (T:="list")) rfl bi.isinstance yL (zA (pv 0) (zA (vK bi.list YO rfl) zB))))) (uJ (zQ (lf K hr.units) (pv 0) (pv 1) (zO _))))) (zG (zM jR)) zR) (zD (yP bM rfl (yV (pv 0)) (yF 2 sc_n.nd) (zG (zZ (PW.pt (XH (zQ yE (zJ zN (pv 2) zF) zT (zO _)) (YG (jB (PW.pt (XH (xE (zI h_t hr.m rfl (zA (zJ zN (pv 2) zF) zB))) (YG (xE (zI h_t hr.m rfl (zA (zJ zN (pv 2) zF) zB)))))))))) (zG (zM jR)) zR))) (zG (zM jR)))),?_⟩;have hul:=hrw.len;refine zH λN hN=>?_
 dsimp![rNeX];have hda':=hws;refine⟨_,.lst hfa,true,jT,?_⟩;rw[aF ()];refine⟨2,.lst (aC.map oM),⟨fa,us,rfl,hfa,gv hrw⟩,.lst (aC.map oM),NM.of (show dD H (.lst (aC.map oM)) (.ref da)from⟨da,ws,rfl,hda,hws⟩),⟨by rw[aE];lia,λe he=>by obtain⟨z,_,rfl⟩:=bO.mp he;exact EU 1 z⟩,(),?_⟩;rw[xD,aF ()];refine hN _ _ ?_;clear hN hws;refine yK (λσ H'=>H=H') (λN hN=>?_) (λσ H' h=>?_)
 ·dsimp![];refine⟨⟨_,dF.of hfa⟩,?_⟩;refine jE (xs:=us) (λi σ H'=>H=H'/\∃o,σ=[some (.ref fa),some (.ref da),o]) ⟨rfl,_,rfl⟩ (λi σ H' _ h=>by rw[←h.1];exact dF.of hfa) (λi x σ H' hx h M hM=>?_) (λσ H' h=>hN _ _ h.1);obtain⟨rfl,o,rfl⟩:=h;obtain⟨r,mC,hr2⟩:=hrw.get hx;obtain⟨a,rfl,tw⟩:=hr2;dsimp![vC];have tq:=tw.sq;cases r with
  |no=>exact⟨_,tq,_,iG,rfl,by rw[aF ()];exact hM _ _ ⟨rfl,_,rfl⟩⟩
  |nm x=>exact⟨_,tq,_,iG,rfl,by rw[aF ()];exact hM _ _ ⟨rfl,_,rfl⟩⟩
  |bo i j=>
   refine⟨_,tq,_,iG,rfl,?_⟩;rw[aH rfl];refine⟨_,tq,_,nK,i,rfl,true,rfl,TK ⟨_,tq,_,at2,j,rfl,true,rfl,?_⟩⟩;rw[aF ()];exact hM _ _ ⟨rfl,_,rfl⟩
 ·subst h;dsimp![];exact q
abbrev s_I:Stmt:=top 69
theorem sc_I:bW ["lines","p","k"] ["lines","p","k"] (zK s_I):=by rfl'
abbrev s_p:Stmt:=top 70
theorem LH:bW ["rules","lines","k","i","j","why","premises","pair"] ["rules","lines","k"] (zK s_p):=by rfl'
abbrev s_i:Stmt:=top 71
theorem LI:bW ["sheet","lines","k","i","j","why","pairs","row"] ["sheet","lines","k"] (zK s_i):=by rfl'
abbrev s_K:Stmt:=top 72
theorem OZ:bW ["sheet","rules","lines","k","i","j","why","row"] ["sheet","rules","lines","k"] (zK s_K):=by rfl'
theorem EK{H:Hp}:∀{ps:List Int}{us:List V},bA H (ps.map Dt.int) us->us=ps.map V.int
 |[],us,h=>h
 |p::ps,us,⟨v,r,e1,e2,e3⟩=>by rw[e1,show v=.int p from e2,EK e3];rfl
theorem kZ{ls:List Ln}{ws:List V}{k:Nat}(h:xQ H ls ws)(hl:ls[k]?=some l):∃a b us,oO ws (k:Int)=some (.ref a)/\H a=some (.tup [.int l.i,.int l.j,.ref b])/\H b=some (.tup (.str l.w::us))/\ZV H l.as us:=by
 obtain⟨u,h1,h2⟩:=bA.get (d:=FA l) h (by rw[aQ,hl];rfl);obtain⟨a,b,us,rfl,h3,h4,h5⟩:=LnAt.out h2;exact⟨a,b,us,yO h1,h3,h4,h5⟩
inductive a8 (vs:List V) (H:Hp) (Q:VK) (E:XK):Prop
 |mk (v:V) (p:Int) (k:Nat) (_:vs=[v,.int p,.int k]) (_:0<=p) (_:p<(k:Int)) (_:Q (.bl true) H)
inductive spBr (vs:List V) (H:Hp) (Q:VK) (E:XK):Prop
 |mk (d la:Addr) (ws:List V) (ls:List Ln) (k:Nat) (l:Ln) (aT:List xJ) (r:Nat) (ps:List Int) (q:xJ) (_:vs=[.ref d,.ref la,.int k]) (_:iy H d aT) (_:H la=some (.lst ws)) (_:xQ H ls ws) (_:ls[k]?=some l) (_:l.w="rule") (_:l.as=[.n r,.ps ps]) (_:aT[r]?=some q) (_:(l.i,l.j)=q.2) (_:(ps.map λp=>yT ls k (.n p))=q.1.map some) (_:ps.length<=100) (_:∀H',bG H H'->Q (.bl true) H')
theorem AX{pa la:Addr}{ps:List Int}{k:Nat}{σ:St}{Q:VK}(h0:UO ["p"] [1,2] σ=[none,some (.ref la),some (.int k)])(hp:H pa=some (.tup (ps.map V.int)))(hl:ps.length<=1000)(hs:∀p∈ps,0<=p/\p<(k:Int))
 (hQ:∀p,H p=none->Q (.ref p) (upd H p (.lst ((List.replicate ps.length true).map V.bl)))):WV (WW K pa) ["p"] [1,2] (vU 0) none (JU a8 [] E0 (ZJ (YY 1) (ZJ (YY 0) (ZJ (YY 2) jh)))) σ H Q:=by
 refine XU (xs:=ps.map V.int) (λi ys σ G=>H=G/\ys=(List.replicate i true).map V.bl/\∃o,σ=[o,some (.ref la),some (.int k)]) ⟨rfl,rfl,_,h0⟩ (small (by rw[aE];lia)) (λi ys σ G e=>?_) (λi ys σ G e=>?_) (λi x ys σ G C hx e hC=>?_) (λys σ G e p hp=>?_)
 ·rw[e.2.1,aE,mF];exact aJ _
 ·rw[←e.1];exact cW.of hp
 ·obtain⟨rfl,rfl,o,rfl⟩:=e;rw[aQ]at hx;obtain⟨p,lV,rfl⟩:=bD.mp hx;have :=hs p (aZ lV);dsimp![];exact⟨_,p,k,rfl,this.1,this.2,hC _ _ _ ⟨rfl,by rw[List.replicate_succ',bF];rfl,_,rfl⟩⟩
 ·obtain⟨rfl,rfl,o,rfl⟩:=e;rw[aE];exact hQ p hp
theorem br{ls:List Ln}{k:Nat}{p:Int}{x:Pr}(h:yT ls k (.n p)=some x):(0<=p/\p<(k:Int))/\∃l,ls[p.toNat]?=some l/\x=(l.i,l.j):=by
 have h1:=uO (by rw[h];rfl);rw[UE,aH h1]at h;obtain⟨l,h2,h3⟩:=bD.mp h;exact⟨h1,l,h2,h3.symm⟩
theorem TC{pa la:Addr}{ps:List Int}{xs:List Pr}{ls:List Ln}{ws:List V}{k:Nat}{σ:St}{Q:VK}(h0:UO ["p"] [1] σ=[none,some (.ref la)])(hp:H pa=some (.tup (ps.map V.int)))(hl:ps.length<=1000)(iF:H la=some (.lst ws))(lB:xQ H ls ws)(hs:(ps.map λp=>yT ls k (.n p))=xs.map some)
 (hQ:∀p ys H',bG H H'->H' p=some (.lst ys)->bA H' (xs.map oN) ys->Q (.ref p) H'):WV (WW K pa) ["p"] [1] (vU 0) none (tTup (ZJ (ap (b9 K) (ap (cb K) (YY 1) (YY 0)) (tC (.int 0))) (ZJ (ap (b9 K) (ap (cb K) (YY 1) (YY 0)) (tC (.int 1))) jh))) σ H Q:=by
 have hxl:xs.length=ps.length:=by
  have :=cJ List.length hs;simpa using this.symm
 refine XU (xs:=ps.map V.int) (λi ys σ G=>bG H G/\bA G ((xs.take i).map oN) ys/\∃o,σ=[o,some (.ref la)]) ⟨bG.refl _,rfl,_,h0⟩ (small (by rw[aE];lia)) (λi ys σ G e=>?_) (λi ys σ G e=>?_) (λi x ys σ G C hx e hC=>?_) (λys σ G e p hp=>?_)
 ·have :=xG e.2.1;rw[bH]at this;lia
 ·exact cW.of (e.1 _ _ hp)
 ·obtain⟨sG,hd,o,rfl⟩:=e;rw[aQ]at hx;obtain⟨p,lV,rfl⟩:=bD.mp hx;obtain⟨x,hx1,hx2⟩:∃x,xs[i]?=some x/\yT ls k (.n p)=some x:=by
   have :=cJ (λl=>l[i]?) hs;simp only[aQ,lV,mX]at this;obtain⟨x,h1,h2⟩:=bD.mp this.symm;exact⟨x,h1,h2.symm⟩
  obtain⟨⟨p0,p1⟩,l,hl1,rfl⟩:=br hx2;obtain⟨a,b,us,hk,ha,_⟩:=kZ lB hl1;rw[nH p0]at hk;dsimp![];refine⟨_,dF.of (sG _ _ iF),_,hk,a,rfl,_,cW.of (sG _ _ ha),_,iG,_,dF.of (sG _ _ iF),_,hk,a,rfl,_,cW.of (sG _ _ ha),_,nK,small (),λq hq=>hC _ _ _ ⟨sG.trans (zE hq _),HP hx1 (bA.same (zE hq _) hd) ⟨q,_,rfl,zC,_,_,rfl,rfl,_,_,rfl,rfl,rfl⟩,_,rfl⟩⟩
 ·obtain⟨sG,hd,o,rfl⟩:=e;rw[aE,aR ()]at hd;exact hQ p ys _ (sG.trans (zE hp _)) zC (bA.same (zE hp _) hd)
theorem IM(n:Nat)(xs:List Pr)(h:xs.length<=1000):gI (n+2) (.lst (xs.map oN)):=⟨by rw[aE];exact h,λe he=>by
 obtain⟨x,_,rfl⟩:=bO.mp he;exact⟨by show 2<=1000;decide,λd hd=>by simp at hd;rcases hd with rfl |rfl<;>cases n<;>trivial⟩⟩
theorem SL(h_t:fX P w K mg base 1 "_law_whole" ["found_v"] sV)(F:gL K "_law_ahead" "_law_ahead" s_I f fd):dG P w K mg base gJ 2 f fd ["lines","p","k"] a8:=by
 refine F.okz sc_I λfL A outer s H vs Q E hr h=>?_
 obtain⟨v,p,k,rfl,h0,h1,q⟩:=h;refine⟨_,(zG (zM (jG (zI h_t hr.m rfl (zA (pv 1) zB)) (jG (yM HJ zF (pv 1) (zO _)) (qR (yM ZK (pv 1) (pv 2) (zO _))))))),?_⟩;dsimp![];refine⟨p,rfl,true,rfl,TK ?_⟩;rw[aH h0,dH h1];exact q
theorem DW(bi:Bi mg)(h_t:fX P w K mg base 1 "_law_whole" ["found_v"] sV)(h_I:fX P w K mg base 2 "_law_ahead" ["lines","p","k"] a8)(F:gL K "_law_by_rule" "_law_by_rule" s_p f fd):dG P w K mg base gJ 3 f fd ["rules","lines","k"] spBr:=by
 refine F.okz LH λfL A outer s H vs Q E hr h=>?_
 obtain⟨d,la,ws,ls,k,l,aT,r,ps,q,rfl,hd,iF,lB,hl,hw,has,hrq,hij,hps,hpl,hq⟩:=h;refine⟨_,(zD (vI (zJ yB (pv 1) (pv 2)) (jF rfl (zV (yF 3 LH.nd) (zV (yF 4 LH.nd) (zV (yF 5 LH.nd) yY))))) (zD (zZ (PW.pt (jX (zQ QA (zS yA rfl bi.len yJ (zA (pv 5) zB)) zF (zO _)) (jX (jB (xE (zI h_t hr.m rfl (zA (zJ zN (pv 5) zF) zB)))) (jX (DB (LQ (jL hr) (zJ zN (pv 5) zF) (pv 0)) (by with_unfolding_all rfl)) (uJ (jB (xE (zS (xW (T:="tuple")) rfl bi.isinstance yL (zA (zJ zN (pv 5) zF) (zA (vK bi.tuple qW rfl) zB)))))))))) (zG (zM jR)) zR) (zD (vI (YJ (jL hr) (pv 0) (zJ zN (pv 5) zF) (λ_ _=>rfl)) (jF rfl (zV (yF 6 LH.nd) (zV (yF 7 LH.nd) yY)))) (zD (zZ (PW.pt (jX (zQ (lg hr.units) (pv 7) (zP (zA (pv 3) (zA (pv 4) zB))) (zO _)) (uJ (zQ QA (zS yA rfl bi.len yJ (zA (zJ zN (pv 5) zF) zB)) (zS yA rfl bi.len yJ (zA (pv 6) zB)) (zO _))))) (zG (zM jR)) zR) (zD (zZ (jB (xE (zS kP rfl bi.all VC (zA (yZ ["p"] ["lines","k"] [1,2] (qQ (zJ zN (pv 5) zF)) (λ_ _ _ _ nd=>yF 0 nd) (λ_ _ _ _=>yU) (λ_ _ _ _=>(zI h_I hr.m rfl (zA (pv 1) (zA (pv 0) (zA (pv 2) zB)))))) zB)))) (zG (zM jR)) zR) (zG (zM (yM (qH hr.units) (yZ ["p"] ["lines"] [1] (qQ (zJ zN (pv 5) zF)) (λ_ _ _ _ nd=>yF 0 nd) (λ_ _ _ _=>yU) (λ_ _ _ _=>(zP (zA (zJ (qI K) (zJ (qF K) (pv 1) (pv 0)) zF) (zA (zJ (qI K) (zJ (qF K) (pv 1) (pv 0)) zF) zB))))) (pv 6) (zO _))))))))),?_⟩;obtain⟨a,b,us,hk,ha,hb,iT⟩:=kZ lB hl;rw[has]at iT;obtain⟨x1,r1,rfl,hx1,x2,r2,rfl,⟨pa,us,rfl,hpa,iT⟩,e⟩:=iT;cases (show r2=[]from e);cases (show x1=.int r from hx1);cases (show us=ps.map V.int from EK iT);obtain⟨vs,hd1,hd2⟩:=hd;refine zH λN hN=>?_
 dsimp![uQ,jU,uY];refine⟨_,dF.of iF,_,hk,a,rfl,_,cW.of ha,rfl,_,_,rfl,_,_,rfl,_,_,rfl,rfl,hN _ _ ?_⟩;clear hN;refine zH λN hN=>?_
 dsimp![GC];refine⟨3,.inr ⟨_,cW.of hb,rfl⟩,rfl,?_⟩;rw[aF ()];refine⟨_,cW.of hb,_,nK,r,rfl,true,rfl,?_⟩;rw[aF ()];obtain⟨vr,hvr,hdq⟩:=bA.get (d:=IX q) hd2 (by rw[aQ,hrq];rfl);have hval:yW (rk vs 0) (.inl (r:Int))=some vr:=by
  have :=CZ vs 0 r;rw[fJ]at this;rw[this,hvr]
 obtain⟨xa,xl,xb,qs,rfl,mJ,hxl,hqs,hxb⟩:=ln hdq;refine⟨_,cW.of hb,_,nK,_,nU.k (k:=.inl (r:Int)) hd1,?_⟩;rw[hval,aF (λz=>by cases z)];refine⟨_,cW.of hb,_,at2,_,.tup hpa,true,jT,?_⟩;rw[aF ()];refine hN _ _ ?_;clear hN;refine zH λN hN=>?_
 dsimp![gl,uQ,jU,uY];refine⟨_,cW.of hb,_,nK,_,by rw[←hval];exact nU.k (k:=.inl (r:Int)) hd1,xa,rfl,_,cW.of mJ,rfl,_,_,rfl,_,_,rfl,rfl,hN _ _ ?_⟩;clear hN;refine zH λN hN=>?_
 dsimp![ki];have hpq:ps.length=q.1.length:=by
  have :=cJ List.length hps;simpa using this
 have hql:qs.length=q.1.length:=xG hqs;refine⟨small (),λp hp=>?_⟩;have s1:=zE hp (.tup [.int l.i,.int l.j]);have kp:upd H p (.tup [.int l.i,.int l.j]) p=some (.tup [.int l.i,.int l.j]):=zC;generalize upd H p (.tup [.int l.i,.int l.j])=H1 at s1 kp⊢;refine⟨1,oN q.2,⟨xb,_,rfl,s1 _ _ hxb,_,_,rfl,rfl,_,_,rfl,rfl,rfl⟩,oN q.2,by rw[←hij];exact⟨p,_,rfl,kp,_,_,rfl,rfl,_,_,rfl,rfl,rfl⟩,⟨by show 2<=1000;decide,λe he=>by simp at he;rcases he with rfl |rfl<;>trivial⟩,(),?_⟩;rw[xD,aF ()];refine⟨_,cW.of (s1 _ _ hb),_,at2,_,.inr ⟨_,cW.of (s1 _ _ hpa),rfl⟩,_,.inl ⟨_,dF.of (s1 _ _ hxl),rfl⟩,rfl,?_⟩;rw[aF (by rw[aE,hql,hpq];exact λz=>z rfl)];refine hN _ _ ?_;clear hN kp;have sd:∀p∈ps,0<=p/\p<(k:Int):=λp hp=>by
  have hm:yT ls k (.n p)∈q.1.map some:=by rw[←hps];exact bO.mpr ⟨p,hp,rfl⟩
  obtain⟨y,_,e2⟩:=bO.mp hm;exact uO (by rw[←e2];rfl)
 refine zH λN hN=>?_
 dsimp![];refine⟨_,cW.of (s1 _ _ hb),_,at2,pa,rfl,⟨_,cW.of (s1 _ _ hpa)⟩,?_⟩;refine AX rfl (s1 _ _ hpa) () sd λp2 hp2=>⟨p2,rfl,_,dF.of zC,?_⟩
 rw[aF (by simp)];refine hN _ _ ?_;clear hN;have s2:=s1.trans (zE hp2 (.lst ((List.replicate ps.length true).map V.bl)));generalize upd H1 p2 (.lst ((List.replicate ps.length true).map V.bl))=H2 at s2⊢;clear s1 hp2;dsimp![vC];refine⟨_,cW.of (s2 _ _ hb),_,at2,pa,rfl,⟨_,cW.of (s2 _ _ hpa)⟩,?_⟩;refine TC rfl (s2 _ _ hpa) () (s2 _ _ iF) (bA.same s2 lB) hps λp3 ys H3 s3 k3 hd3=>?_
 refine⟨1,.lst (q.1.map oN),⟨p3,ys,rfl,k3,hd3⟩,.lst (q.1.map oN),⟨xl,qs,rfl,(s2.trans s3) _ _ hxl,bA.same (s2.trans s3) hqs⟩,IM 0 _ (),(),?_⟩;rw[xD];exact hq H3 (s2.trans s3)
theorem TB{i j:Int}{w:Str}{xs:List Pr}(h:yS aC i j w xs=true)(hn:wI w=some (xs.length:Int))(hne:xs≠[]):
 (w="turn"/\xs=[(pX j,pX i)])\/(w="clash"/\xs=[(i,pX i)])\/(w="chain"/\∃m,xs=[(i,m),(m,j)])\/(w="both"/\∃a b,vB aC j=[a,b]/\xs=[(i,a),(i,b)]):=by
 have h0:xs.length≠0:=λz=>hne (eW.mp z)
 unfold wI at hn;unfold yS at h;by_cases c1:w="same"
 ·rw[aH c1]at hn;have :=bR hn;lia
 by_cases c2:w="edge"
 ·rw[aF c1,aH c2]at hn;have :=bR hn;lia
 by_cases c3:w="part"
 ·rw[aF c1,aF c2,aH c3]at hn;have :=bR hn;lia
 rw[aF c1,aF c2,aF c3]at h hn;by_cases c4:w="both"
 ·rw[aH c4]at h;split at h
  ·next a b e=>exact .inr (.inr (.inr ⟨c4,a,b,e,by simpa using h⟩))
  ·cases h
 rw[aF c4]at h hn;by_cases c5:w="turn"
 ·rw[aH c5]at h;exact .inl ⟨c5,by simpa using h⟩
 rw[aF c5]at h hn;by_cases c6:w="chain"
 ·rw[aH c6]at h;split at h
  ·next p q=>
   simp only[cA,dJ]at h;obtain⟨⟨h1,h2⟩,h3⟩:=h;obtain⟨p1,p2⟩:=p;obtain⟨q1,q2⟩:=q;have h1:p1=i:=h1;have h2:p2=q1:=h2;have h3:q2=j:=h3;exact .inr (.inr (.inl ⟨c6,q1,by rw[h1,h2,h3]⟩))
  ·cases h
 rw[aF c6]at h hn;by_cases c7:w="clash"
 ·exact .inr (.inl ⟨c7,by simpa using h⟩)
 ·rw[aF c7]at hn;cases hn
theorem tT{j a b:Int}(h:vB aC j=[a,b]):j % 2=0/\aC[(j/2).toNat]?=some (.bo a b):=by
 unfold vB at h;split at h
 ·next c=>
  refine⟨c,?_⟩;split at h
  ·next i' j' e=>
   rw[e];cases h;rfl
  ·cases h
 ·cases h
inductive spBl (vs:List V) (H:Hp) (Q:VK) (E:XK):Prop
 |mk (sa la:Addr) (us ws:List V) (aC:List Rw) (ls:List Ln) (k:Nat) (l:Ln) (ns:List Int) (xs:List Pr) (_:vs=[.ref sa,.ref la,.int k]) (_:H sa=some (.lst us)) (_:bA H (aC.map oM) us) (_:H la=some (.lst ws)) (_:xQ H ls ws) (_:ls[k]?=some l) (_:l.as=ns.map .n) (_:(ns.map λp=>yT ls k (.n p))=xs.map some) (_:xs≠[]) (_:xs.length<=100) (_:wI l.w=some (xs.length:Int)) (_:yS aC l.i l.j l.w xs=true) (_:(0<=l.j/\l.j<2*aC.length)) (_:∀H',bG H H'->Q (.bl true) H')
theorem AF(bi:Bi mg)(h_I:fX P w K mg base 2 "_law_ahead" ["lines","p","k"] a8)(F:gL K "_law_by_lines" "_law_by_lines" s_i f fd):dG P w K mg base gJ 3 f fd ["sheet","lines","k"] spBl:=by
 refine F.okz LI λfL A outer s H vs Q E hr h=>?_
 obtain⟨sa,la,us,ws,aC,ls,k,l,ns,xs,rfl,hsa,iT,iF,lB,hl,has,hns,hne,hxl,hnm,iN,hj,hq⟩:=h;refine⟨_,(zD (vI (zJ yB (pv 1) (pv 2)) (jF rfl (zV (yF 3 LI.nd) (zV (yF 4 LI.nd) (zV (yF 5 LI.nd) yY))))) (zD (zZ (jB (xE (zS kP rfl bi.all VC (zA (yZ ["p"] ["lines","k"] [1,2] (qQ (xO uU (pv 5) (jC zF) jD)) (λ_ _ _ _ nd=>yF 0 nd) (λ_ _ _ _=>yU) (λ_ _ _ _=>(zI h_I hr.m rfl (zA (pv 1) (zA (pv 0) (zA (pv 2) zB)))))) zB)))) (zG (zM jR)) zR) (zD (GY (i:=6) ["p"] ["lines"] [1] LI.nd rfl (qQ (xO uU (pv 5) (jC zF) jD)) (λ_ _ _ _ nd=>yF 0 nd) (λ_ _ _ _=>yU) (λ_ _ _ _=>(zP (zA (zJ (qI K) (zJ (qF K) (pv 1) (pv 0)) zF) (zA (zJ (qI K) (zJ (qF K) (pv 1) (pv 0)) zF) zB))))) (zD (zZ (zQ yE (zJ zN (pv 5) zF) zT (zO _)) (zG (zM (yM (qH hr.units) (pv 6) (xF (zA (zP (zA (zU qS (pv 4) zF) (zA (zU qS (pv 3) zF) zB))) zB)) (zO _)))) zR) (zD (zZ (zQ yE (zJ zN (pv 5) zF) zT (zO _)) (zG (zM (yM (qH hr.units) (pv 6) (xF (zA (zP (zA (pv 3) (zA (zU qS (pv 3) zF) zB))) zB)) (zO _)))) zR) (zD (zZ (zQ QA (zS yA rfl bi.len yJ (zA (pv 6) zB)) zF (zO _)) (zG (zM jR)) zR) (zD (zZ (zQ yE (zJ zN (pv 5) zF) zT (zO _)) (zG (zM (jG (yM yE (zJ zN (zJ yB (pv 6) zF) zF) (pv 3) (zO _)) (jG (yM yE (zJ zN (zJ yB (pv 6) zF) zF) (zJ zN (zJ yB (pv 6) zF) zF) (zO _)) (qR (yM yE (zJ zN (zJ yB (pv 6) zF) zF) (pv 4) (zO _))))))) zR) (zD (yH 7 LI.nd (zJ yB (pv 0) (zU jS (pv 4) zF))) (zG (zM (jG (yM yE (zJ zN (pv 5) zF) zT (zO _)) (jG (yM yE (zU xC (pv 4) zF) zF (zO _)) (jG (yM yE (zJ zN (pv 7) zF) zT (zO _)) (qR (yM (qH hr.units) (pv 6) (xF (zA (zP (zA (pv 3) (zA (zJ zN (pv 7) zF) zB))) (zA (zP (zA (pv 3) (zA (zJ zN (pv 7) zF) zB))) zB))) (zO _)))))))))))))))),?_⟩;obtain⟨a,b,ts,hk,ha,hb,hts⟩:=kZ lB hl;rw[has]at hts;cases (show ts=ns.map V.int from SO hts);have hnl:ns.length=xs.length:=by
  have :=cJ List.length hns;simpa using this
 have sd:∀p∈ns,0<=p/\p<(k:Int):=λp hp=>by
  have hm:yT ls k (.n p)∈xs.map some:=by rw[←hns];exact bO.mpr ⟨p,hp,rfl⟩
  obtain⟨y,_,e2⟩:=bO.mp hm;exact uO (by rw[←e2];rfl)
 refine zH λN hN=>?_
 dsimp![uQ,jU,uY];refine⟨_,dF.of iF,_,hk,a,rfl,_,cW.of ha,rfl,_,_,rfl,_,_,rfl,_,_,rfl,rfl,hN _ _ ?_⟩;clear hN;refine zH λN hN=>?_
 dsimp![tH];refine⟨_,hb,λp1 H1 s1 k1=>?_⟩;rw[vW]at k1;refine⟨⟨_,cW.of k1⟩,?_⟩;refine AX rfl k1 () sd λp2 hp2=>⟨p2,rfl,_,dF.of zC,?_⟩
 rw[aF (by simp)];refine hN _ _ ?_;clear hN;replace s1:=s1.trans (zE hp2 (.lst ((List.replicate ns.length true).map V.bl)));generalize upd H1 p2 (.lst ((List.replicate ns.length true).map V.bl))=H2 at s1⊢;clear k1 hp2;refine zH λN hN=>?_
 dsimp![tH];refine⟨_,s1 _ _ hb,λp3 H3 s3 k3=>?_⟩;rw[vW]at k3;replace s3:=s1.trans s3;refine⟨⟨_,cW.of k3⟩,?_⟩;refine TC rfl k3 () (s3 _ _ iF) (bA.same s3 lB) hns λp4 ys H4 s4 k4 hd4=>hN _ _ ?_
 clear hN;replace s4:=s3.trans s4;clear k3 s3 s1;refine zH λN hN=>?_
 dsimp![vC];have hb4:=s4 _ _ hb;have cmp:∀(H':Hp)(x:Addr)(zs:List V),bG H4 H'->H' x=some (.lst zs)->bA H' (xs.map oN) zs->∃n d,dD H' d (.ref p4)/\∃d',dD H' d' (.ref x)/\gI (n+1) d/\n<=60/\Q (.bl (dL d d')) H':=λH' x zs s' kx hz=>
  ⟨1,.lst (xs.map oN),⟨p4,ys,rfl,s' _ _ k4,bA.same s' hd4⟩,.lst (xs.map oN),⟨x,zs,rfl,kx,hz⟩,IM 0 _ (),(),by rw[xD];exact hq H' (s4.trans s')⟩
 refine⟨_,cW.of hb4,_,iG,rfl,?_⟩;rcases TB iN hnm hne with⟨hw,rfl⟩ |⟨hw,rfl⟩ |⟨hw,m,rfl⟩ |⟨hw,x,y,hpt,rfl⟩
 ·rw[aH (by rw[hw]),QS,QS];refine⟨small (),λp5 h5=>⟨small (),λp6 h6=>?_⟩⟩;exact cmp _ p6 _ ((zE h5 _).trans (zE h6 _)) zC (bA.one ⟨p5,_,rfl,zE h6 _ _ _ zC,_,_,rfl,rfl,_,_,rfl,rfl,rfl⟩)
 ·rw[aF (by rw[hw];decide)];refine hN _ _ ?_;clear hN;refine zH λN hN=>?_
  dsimp![vC];refine⟨_,cW.of hb4,_,iG,rfl,?_⟩;rw[aH (by rw[hw]),QS];refine⟨small (),λp5 h5=>⟨small (),λp6 h6=>?_⟩⟩;exact cmp _ p6 _ ((zE h5 _).trans (zE h6 _)) zC (bA.one ⟨p5,_,rfl,zE h6 _ _ _ zC,_,_,rfl,rfl,_,_,rfl,rfl,rfl⟩)
 all_goals
  rw[aF (by rw[hw];decide)];refine hN _ _ ?_;clear hN;refine zH λN hN=>?_
  dsimp![vC];refine⟨_,cW.of hb4,_,iG,rfl,?_⟩;rw[aF (by rw[hw];decide)];refine hN _ _ ?_;clear hN;have hyl:=xG hd4;refine zH λN hN=>?_
  dsimp![];refine⟨_,.inl ⟨_,dF.of k4,rfl⟩,rfl,?_⟩;rw[aF (by rw[hyl];exact λz=>z rfl)];refine hN _ _ ?_;clear hN;refine zH λN hN=>?_
  dsimp![vC];refine⟨_,cW.of hb4,_,iG,rfl,?_⟩
 ·rw[aH (by rw[hw])];obtain⟨v1,r1,rfl,hv1,v2,r2,rfl,hv2,e⟩:=hd4;cases (show r2=[]from e);obtain⟨a1,rfl,ha1⟩:=RD hv1;obtain⟨a2,rfl,ha2⟩:=RD hv2;refine⟨_,dF.of k4,_,iG,a1,rfl,_,cW.of ha1,_,iG,rfl,?_⟩;rw[aH rfl];refine⟨_,dF.of k4,_,iG,a1,rfl,_,cW.of ha1,_,nK,_,dF.of k4,_,nK,a2,rfl,_,cW.of ha2,_,iG,rfl,?_⟩;rw[aH rfl];refine⟨_,dF.of k4,_,nK,a2,rfl,_,cW.of ha2,_,nK,rfl,?_⟩;rw[dH rfl];exact hq H4 s4
 ·rw[aF (by rw[hw];decide)];refine hN _ _ ?_;clear hN;obtain⟨lV,hp2⟩:=tT hpt;obtain⟨vr,hvr,hdr⟩:=bA.get (d:=oM (.bo x y)) iT (by rw[aQ,hp2];rfl);obtain⟨ar,tr,rfl,har,z1,q1,rfl,e1,z2,q2,rfl,e2,z3,q3,rfl,e3,e4⟩:=hdr;cases (show q3=[]from e4);cases (show z1=.str "both" from e1);cases (show z2=.int x from e2);cases (show z3=.int y from e3);refine zH λN hN=>?_
  dsimp![];refine⟨⟨(),()⟩,_,dF.of (s4 _ _ hsa),_,uT () hvr,hN _ _ ?_⟩;clear hN;have har4:=s4 _ _ har;dsimp![vC];refine⟨_,cW.of hb4,_,iG,rfl,?_⟩;rw[aH (by rw[hw])];refine⟨(),rfl,?_⟩;rw[aH lV];refine⟨_,cW.of har4,_,iG,rfl,?_⟩;rw[aH rfl];refine⟨_,cW.of har4,_,nK,small (),λp5 h5=>⟨_,cW.of (zE h5 _ _ _ har4),_,at2,small (),λp6 h6=>⟨small (),λp7 h7=>?_⟩⟩⟩;have g5:=zE h5 (.tup [.int l.i,.int x]);have g6:=zE h6 (.tup [.int l.i,.int y]);have g7:=zE h7 (.lst [.ref p5,.ref p6]);exact cmp _ p7 _ (g5.trans (g6.trans g7)) zC ⟨_,_,rfl,⟨p5,_,rfl,(g6.trans g7) _ _ zC,_,_,rfl,rfl,_,_,rfl,rfl,rfl⟩,_,_,rfl,⟨p6,_,rfl,g7 _ _ zC,_,_,rfl,rfl,_,_,rfl,rfl,rfl⟩,rfl⟩
theorem IL{α β:Type}{g:α->Option β}:∀{l:List α},(∀a∈l,(g a).isSome=true)->l.map g=(l.filterMap g).map some
 |[],_=>rfl
 |a::l,h=>by
  obtain⟨x,hx⟩:=Option.isSome_iff_exists.mp (h a aY);rw[cD,fS,hx,IL λb hb=>h b (aV _ hb)];rfl
inductive spLi (vs:List V) (H:Hp) (Q:VK) (E:XK):Prop
 |mk (sa d la:Addr) (us ws:List V) (aC:List Rw) (aT:List xJ) (ls:List Ln) (k:Nat) (l:Ln) (_:vs=[.ref sa,.ref d,.ref la,.int k]) (_:H sa=some (.lst us)) (_:bA H (aC.map oM) us) (_:iy H d aT) (_:H la=some (.lst ws)) (_:xQ H ls ws) (_:ls[k]?=some l) (_:xI aC aT ls k l=true) (_:aC.length<=100) (_:(∀r∈aT,r.1.length<=100)) (_:∀H',bG H H'->Q (.bl true) H')
theorem dj(bi:Bi mg)(h_t:fX P w K mg base 1 "_law_whole" ["found_v"] sV)(h_p:fX P w K mg base 3 "_law_by_rule" ["rules","lines","k"] spBr)(h_i:fX P w K mg base 3 "_law_by_lines" ["sheet","lines","k"] spBl)(F:gL K "_law_line" "_law_line" s_K f fd):dG P w K mg base gJ 4 f fd ["sheet","rules","lines","k"] spLi:=by
 refine F.okz OZ λfL A outer s H vs Q E hr h=>?_
 obtain⟨sa,d,la,us,ws,aC,aT,ls,k,l,rfl,hsa,iT,hd,iF,lB,hl,iN,hrl,hpr,hq⟩:=h;refine⟨_,(zD (zZ (PW.pt (jX (jB (xE (zS (xW (T:="tuple")) rfl bi.isinstance yL (zA (zJ yB (pv 2) (pv 3)) (zA (vK bi.tuple qW rfl) zB))))) (uJ (zQ QA (zS yA rfl bi.len yJ (zA (zJ yB (pv 2) (pv 3)) zB)) zF (zO _))))) (zG (zM jR)) zR) (zD (vI (zJ yB (pv 2) (pv 3)) (jF rfl (zV (yF 4 OZ.nd) (zV (yF 5 OZ.nd) (zV (yF 6 OZ.nd) yY))))) (zD (zZ (PW.pt (jX (jB (xE (zI h_t hr.m rfl (zA (pv 4) zB)))) (jX (jB (xE (zI h_t hr.m rfl (zA (pv 5) zB)))) (jX (jB (xE (zS (xW (T:="tuple")) rfl bi.isinstance yL (zA (pv 6) (zA (vK bi.tuple qW rfl) zB))))) (uJ (zQ yE (zS yA rfl bi.len yJ (zA (pv 6) zB)) zF (zO _))))))) (zG (zM jR)) zR) (zD (zZ (PW.pt (jX (zQ ZK (pv 4) zF (zO _)) (jX (zQ ig (pv 4) (zU xP zF (zS yA rfl bi.len yJ (zA (pv 0) zB))) (zO _)) (jX (zQ ZK (pv 5) zF (zO _)) (jX (zQ ig (pv 5) (zU xP zF (zS yA rfl bi.len yJ (zA (pv 0) zB))) (zO _)) (uJ (jB (xE (zS (xW (T:="str")) rfl bi.isinstance yL (zA (zJ zN (pv 6) zF) (zA (vK bi.str nv rfl) zB))))))))))) (zG (zM jR)) zR) (zD (zZ (zQ yE (zJ zN (pv 6) zF) zT (zO _)) (zG (zM (zI h_p hr.m rfl (zA (pv 1) (zA (pv 2) (zA (pv 3) zB)))))) zR) (zD (zZ (zQ op_gt (zS yA rfl bi.len yJ (zA (pv 6) zB)) zF (zO _)) (zG (zM (zI h_i hr.m rfl (zA (pv 0) (zA (pv 2) (zA (pv 3) zB)))))) zR) (zD (zZ (zQ yE (zJ zN (pv 6) zF) zT (zO _)) (zG (zM (yM yE (pv 4) (pv 5) (zO _)))) zR) (zD (zZ (zQ yE (zJ zN (pv 6) zF) zT (zO _)) (zG (zM (gy (yM yE (pv 4) zF (zO _)) (qR (yM yE (pv 5) zF (zO _)))))) zR) (zD (yH 7 OZ.nd (zJ yB (pv 0) (zU jS (pv 4) zF))) (zG (zM (jG (yM yE (zJ zN (pv 6) zF) zT (zO _)) (jG (yM yE (zU xC (pv 4) zF) zF (zO _)) (jG (yM yE (zJ zN (pv 7) zF) zT (zO _)) (qR (gy (yM yE (pv 5) (zJ zN (pv 7) zF) (zO _)) (qR (yM yE (pv 5) (zJ zN (pv 7) zF) (zO _))))))))))))))))))),?_⟩;obtain⟨a,b,ts,hk,ha,hb,hts⟩:=kZ lB hl;have hul:=xG iT;have htl:=xG hts;unfold xI at iN;split at iN
 ·cases iN
 next hbd=>
 obtain⟨⟨hi0,hi1⟩,hj0,hj1⟩:(0<=l.i/\l.i<2*(aC.length:Int))/\0<=l.j/\l.j<2*(aC.length:Int):=by lia
 clear hbd;refine zH λN hN=>?_
 dsimp![];refine⟨_,dF.of iF,_,hk,_,.tup ha,true,jT,?_⟩;rw[aF ()];refine⟨_,dF.of iF,_,hk,_,.inr ⟨_,cW.of ha,rfl⟩,rfl,?_⟩;rw[aF (λz=>z rfl)];refine hN _ _ ?_;clear hN;refine zH λN hN=>?_
 dsimp![uQ,jU,uY];refine⟨_,dF.of iF,_,hk,a,rfl,_,cW.of ha,rfl,_,_,rfl,_,_,rfl,_,_,rfl,rfl,hN _ _ ?_⟩;clear hN;refine zH λN hN=>?_
 dsimp![];refine⟨l.i,rfl,true,rfl,?_⟩;rw[aF ()];refine⟨l.j,rfl,true,rfl,?_⟩;rw[aF ()];refine⟨_,.tup hb,true,jT,?_⟩;rw[aF ()];refine⟨_,.inr ⟨_,cW.of hb,rfl⟩,rfl,?_⟩;rw[aF (by rw[bB];lia)];refine hN _ _ ?_;clear hN;refine zH λN hN=>?_
 dsimp![];rw[aF ()];refine⟨_,.inl ⟨_,dF.of hsa,rfl⟩,.inl ⟨(),()⟩,?_⟩;rw[aF (by rw[hul];lia),aF ()];refine⟨_,.inl ⟨_,dF.of hsa,rfl⟩,.inl ⟨(),()⟩,?_⟩;rw[aF (by rw[hul];lia)];refine⟨_,cW.of hb,_,iG,_,.str _,true,jT,?_⟩;rw[aF ()];refine hN _ _ ?_;clear hN;refine zH λN hN=>?_
 dsimp![vC];refine⟨_,cW.of hb,_,iG,rfl,?_⟩;by_cases hw:l.w="rule"
 ·rw[aH hw]at iN;rw[aH (by rw[hw])];unfold jP at iN;split at iN
  ·next r ps has=>
   split at iN
   ·next hrr=>
    split at iN
    ·next q hrq=>
     rw[cA]at iN;have h2:(ps.map λp=>yT ls k (.n p))=q.1.map some:=by simpa using iN.2
     have h1:(l.i,l.j)=q.2:=by simpa using iN.1
     have h3:=hpr q (aZ hrq);have h4:ps.length=q.1.length:=by
      have :=cJ List.length h2;simpa using this
     exact⟨d,la,ws,ls,k,l,aT,r.toNat,ps,q,rfl,hd,iF,lB,hl,hw,by rw[has,nH hrr.1],hrq,h1,h2,(),hq⟩
    ·cases iN
   ·cases iN
  ·cases iN
 rw[aF hw]at iN;rw[aF (λz=>hw (V.str.inj z))];refine hN _ _ ?_;clear hN;split at iN
 rotate_left
 ·cases iN
 next hc=>
 obtain⟨ns,has,hn⟩:=VW hc.2;have hxs:(ns.map λp=>yT ls k (.n p))=(l.as.filterMap (yT ls k)).map some:=by
  rw[←IL (λa ha=>dB.mp hc.2 a ha),has,eG];rfl
 have hnl:(l.as.filterMap (yT ls k)).length=l.as.length:=by
  have :=cJ List.length hxs;rw[aE,aE]at this;rw[←this,has,aE]
 have h2:=AS hc.1;have hnm:=hc.1;rw[←hnl]at hnm;generalize l.as.filterMap (yT ls k)=xs at iN hxs hnl hnm;refine zH λN hN=>?_
 dsimp![];refine⟨_,.inr ⟨_,cW.of hb,rfl⟩,?_⟩;rw[bB];by_cases h0:xs=[]
 rotate_left
 ·have h00:xs.length≠0:=λz=>h0 (eW.mp z)
  rw[aH ()];exact⟨sa,la,us,ws,aC,ls,k,l,ns,xs,rfl,hsa,iT,iF,lB,hl,has,hxs,h0,(),hnm,iN,⟨hj0,hj1⟩,hq⟩
 subst h0;rw[aF (by rw[lD]at hnl;lia)];refine hN _ _ ?_;clear hN;refine zH λN hN=>?_
 dsimp![vC];refine⟨_,cW.of hb,_,iG,rfl,?_⟩;unfold yS at iN;by_cases c1:l.w="same"
 ·rw[aH c1]at iN;rw[aH (by rw[c1]),dH (dJ.mp iN)];exact⟨rfl,hq H (bG.refl _)⟩
 rw[aF c1]at iN;rw[aF (λz=>c1 (V.str.inj z))];refine hN _ _ ?_;clear hN;refine zH λN hN=>?_
 dsimp![vC];refine⟨_,cW.of hb,_,iG,rfl,?_⟩;by_cases c2:l.w="edge"
 ·rw[aH c2]at iN;rw[aH (by rw[c2])];refine⟨rfl,?_⟩;split
  ·exact hq H (bG.refl _)
  ·next hi=>
   refine⟨rfl,?_⟩;rw[dH (by simpa[hi]using iN)];exact hq H (bG.refl _)
 rw[aF c2]at iN;rw[aF (λz=>c2 (V.str.inj z))];refine hN _ _ ?_;clear hN;have c3:l.w="part":=by
  unfold wI at hnm;rw[aF c1,aF c2]at hnm;by_cases c:l.w="part"
  ·exact c
  ·rw[aF c]at hnm;exfalso
   repeat' split at hnm
   all_goals first |(cases hnm;done) |(have :=bR hnm;simp at this)
 rw[aH c3]at iN;obtain⟨x,hx,hxj⟩:=gS.mp iN;cases (dJ.mp hxj);obtain⟨p,q,hpt⟩:∃p q,vB aC l.i=[p,q]:=by
  unfold vB at hx⊢;split at hx
  ·split at hx
   ·next i' j' e=>exact⟨i',j',by rw[aH (by assumption)]⟩
   ·cases hx
  ·cases hx
 rw[hpt]at hx;obtain⟨lV,hp2⟩:=tT hpt;obtain⟨vr,hvr,hdr⟩:=bA.get (d:=oM (.bo p q)) iT (by rw[aQ,hp2];rfl);obtain⟨ar,tr,rfl,har,z1,q1,rfl,e1,z2,q2,rfl,e2,z3,q3,rfl,e3,e4⟩:=hdr;cases (show q3=[]from e4);cases (show z1=.str "both" from e1);cases (show z2=.int p from e2);cases (show z3=.int q from e3);refine zH λN hN=>?_
 dsimp![];refine⟨⟨(),()⟩,_,dF.of hsa,_,uT () hvr,hN _ _ ?_⟩;clear hN;dsimp![vC];refine⟨_,cW.of hb,_,iG,rfl,?_⟩;rw[aH (by rw[c3])];refine⟨(),rfl,?_⟩;rw[aH lV];refine⟨_,cW.of har,_,iG,rfl,?_⟩;rw[aH rfl];refine⟨_,cW.of har,_,nK,rfl,?_⟩;split
 ·exact hq H (bG.refl _)
 ·next hne=>
  refine⟨_,cW.of har,_,at2,rfl,?_⟩;have :l.j=q:=by
   rcases bI.mp hx with h |h
   ·exact(hne (by rw[h])).elim
   ·exact aX.mp h
  rw[dH (by rw[this])];exact hq H (bG.refl _)
abbrev s_v:Stmt:=top 73
theorem sY:bW ["sheet","rules","lines","pair","noted","used","k","why","ahead","p"] ["sheet","rules","lines","pair"] (zK s_v):=by rfl'
abbrev s_z:Stmt:=top 74
theorem sc_z:bW ["answer","book","saying","rows"] ["answer","book","saying"] (zK s_z):=by rfl'
def wY(ls:List Ln):List Int:=ls.foldl (λks l=>xN ks (plc l.w l.as)) []
theorem MP(ls:List Ln)(l:Ln):wY (ls++[l])=xN (wY ls) (plc l.w l.as):=by
 unfold wY;rw[List.foldl_append];rfl
theorem ZP:∀(ls:List Ln)(ks:List Int),ks.Nodup->(ls.foldl (λks l=>xN ks (plc l.w l.as)) ks).Nodup
 |[],ks,h=>h
 |l::ls,ks,h=>ZP ls _ (xZ _ _ h)
theorem JB(ls:List Ln):(wY ls).Nodup:=ZP ls [] ga
theorem QD(z:Int):∀(ls:List Ln)(ks:List Int),z∈ls.foldl (λks l=>xN ks (plc l.w l.as)) ks↔z∈ks\/∃l∈ls,z∈plc l.w l.as
 |[],ks=>by simp
 |l::ls,ks=>by
  rw[WQ,QD z ls,xL];constructor
  ·rintro((h |h) |⟨l',h1,h2⟩)
   ·exact .inl h
   ·exact .inr ⟨l,aY,h⟩
   ·exact .inr ⟨l',aV _ h1,h2⟩
  ·rintro(h |⟨l',h1,h2⟩)
   ·exact .inl (.inl h)
   ·rcases bI.mp h1 with rfl |h1
    ·exact .inl (.inr h2)
    ·exact .inr ⟨l',h1,h2⟩
theorem XT(z:Int)(ls:List Ln):z∈wY ls↔∃l∈ls,z∈plc l.w l.as:=by
 unfold wY;rw[QD];simp
theorem RF{ls:List Ln}(h:uB ls)(hl:ls[i]?=some l):∀p∈plc l.w l.as,0<=p/\p<=(ls.length:Int):=λp hp=>by
 have h1:=(h i l hl).2 p hp;have h2:=(aD.mp hl).1;lia
theorem ek{ls:List Ln}(h:uB ls)(m:Nat):∀p∈wY (ls.take m),0<=p/\p<=(ls.length:Int):=λp hp=>by
 obtain⟨l,h1,h2⟩:=(XT p _).mp hp;obtain⟨i,hi,e⟩:=dU (cQ h1);exact RF h (by rw[aA hi,e]) p h2
theorem ny{α:Type}{xs:List α}{x:α}(h1:1<=xs.length)(h:xs[xs.length-1]?=some x):oO xs (-1)=some x:=by
 obtain⟨hi,e⟩:=aD.mp h;have e2:xs=xs.take (xs.length-1)++[x]:=by
  have h3:=fF hi;rw[e,pP (as:=xs) (i:=xs.length-1+1) ()]at h3;rw[←h3,dW]
 rw[e2];exact VS _ _
theorem TY{ls:List Ln}(h:uB ls)(h1:1<=ls.length)(hh:∀m:Nat,m+1<ls.length->∃l∈ls,(m:Int)∈plc l.w l.as):(wY ls).length=ls.length-1:=by
 have hin:∀p∈wY ls,0<=p/\p+1<(ls.length:Int):=λp hp=>by
  obtain⟨l,h1,h2⟩:=(XT p _).mp hp;obtain⟨i,hi,e⟩:=dU h1;have :=(h i l (by rw[aA hi,e])).2 p h2;lia
 have hle:(wY ls).length<=ls.length-1:=by
  by_cases c:ls.length=1
  ·rw[eW.mpr (List.eq_nil_iff_forall_not_mem.mpr λp hp=>by have :=hin p hp;lia)];lia
  ·have :=wV (k:=ls.length-2) (JB ls) λp hp=>by have :=hin p hp;lia
   lia
 have hge:=XQ (l:=(List.range (ls.length-1)).map λn:Nat=>(n:Int)) (FQ.mpr (List.nodup_range.imp λh z=>h ())) (m:=wY ls) λx hx=>by
  obtain⟨n,hn,rfl⟩:=bO.mp hx;rw[bZ]at hn;obtain⟨l,hl1,hl2⟩:=hh n ();exact(XT _ _).mpr ⟨l,hl1,hl2⟩
 rw[aE,dX]at hge;lia
def MB(ls:List Ln):List (List eZ×V):=ls.map λl=>(xM l.i l.j,.bl true)
theorem AM{ls:List Ln}{i j:Int}(h:∀l∈ls,¬(l.i=i/\l.j=j)):yW (MB ls) (xM i j)=none:=by
 induction ls with
 |nil=>rfl
 |cons l ls ih=>
  show yW ((xM l.i l.j,V.bl true)::MB ls) (xM i j)=none;rw[qN (λz=>h l aY (by simpa[xM]using z))];exact ih λl' eC=>h l' (aV _ eC)
inductive spPp (vs:List V) (H:Hp) (Q:VK) (E:XK):Prop
 |mk (sa d la pa:Addr) (us ws:List V) (aC:List Rw) (aT:List xJ) (ls:List Ln) (i j:Int) (_:vs=[.ref sa,.ref d,.ref la,.ref pa]) (_:H sa=some (.lst us)) (_:bA H (aC.map oM) us) (_:iy H d aT) (_:H la=some (.lst ws)) (_:xQ H ls ws) (_:H pa=some (.tup [.int i,.int j])) (_:BX aC aT ls i j) (_:aC.length<=100) (_:(∀r∈aT,r.1.length<=100)) (_:ls.length<=3600) (_:∀H',bG H H'->Q (.bl true) H')
theorem LY(bi:Bi mg)(h_K:fX P w K mg base 4 "_law_line" ["sheet","rules","lines","k"] spLi)(F:gL K "_law_paper" "_law_paper" s_v f fd):dG P w K mg base gJ 5 f fd ["sheet","rules","lines","pair"] spPp:=by
 refine F.okz sY λfL A outer s H vs Q E hr h=>?_
 obtain⟨sa,d,la,pa,us,ws,aC,aT,ls,i,j,rfl,hsa,iT,hd,iF,lB,hpa,hpo,hrl,hpr,hll,q⟩:=h;refine⟨_,(zD (zZ (PW.pt (jX (jB (xE (zS (xW (T:="list")) rfl bi.isinstance yL (zA (pv 2) (zA (vK bi.list YO rfl) zB))))) (uJ (zQ yE (zS yA rfl bi.len yJ (zA (pv 2) zB)) zF (zO _))))) (zG (zM jR)) zR) (zD (yH 4 sY.nd XL) (zD (yH 5 sY.nd tR) (zD (yP bM rfl (xY rfl bi.range (zA (zS yA rfl bi.len yJ (zA (pv 2) zB)) zB)) (yF 6 sY.nd) (zD (zZ (PW.pt (jX (jB (xE (zI h_K hr.m rfl (zA (pv 0) (zA (pv 1) (zA (pv 2) (zA (pv 6) zB))))))) (uJ (DB (DE (jL hr) (zP (zA (zJ zN (zJ yB (pv 2) (pv 6)) zF) (zA (zJ zN (zJ yB (pv 2) (pv 6)) zF) zB))) (pv 4)) (by with_unfolding_all rfl))))) (zG (zM jR)) zR) (zD (kF (jL hr) (pv 4) (zP (zA (zJ zN (zJ yB (pv 2) (pv 6)) zF) (zA (zJ zN (zJ yB (pv 2) (pv 6)) zF) zB))) jR rfl) (zD (yH 7 sY.nd (zJ zN (zJ yB (pv 2) (pv 6)) zF)) (zD (yH 8 sY.nd (xO uU (pv 7) (jC zF) jD)) (zD (zZ (zQ yE (zJ zN (pv 7) zF) zT (zO _)) (zG (yH 8 sY.nd (zJ zN (pv 7) zF))) zR) (zG (yP bM rfl (qQ (pv 8)) (yF 9 sY.nd) (zG (kF (jL hr) (pv 5) (pv 9) jR rfl)))))))))) (zG (zM (jG (yM yE (zS MW rfl bi.len yJ (zA (pv 5) zB)) (zU RU (zS yA rfl bi.len yJ (zA (pv 2) zB)) zF) (zO _)) (qR (yM (qH hr.units) (zP (zA (zJ zN (zJ yB (pv 2) (XJ YT zF)) zF) (zA (zJ zN (zJ yB (pv 2) (XJ YT zF)) zF) zB))) (pv 3) (zO _)))))))))),?_⟩;have hwl:=xG lB;have h1:=hpo.ne;refine zH λN hN=>?_
 dsimp![];refine⟨_,.lst iF,true,jT,?_⟩;rw[aF ()];refine⟨_,.inl ⟨_,dF.of iF,rfl⟩,rfl,?_⟩;rw[aF ()];refine hN _ _ ?_;clear hN;refine zH λN hN=>?_
 dsimp![];refine λnd hnd=>hN _ _ ?_
 clear hN;have s1:=zE hnd (.dT []);have k1:upd H nd (.dT []) nd=some (.dT (MB (ls.take 0))):=zC;generalize upd H nd (.dT [])=H1 at s1 k1⊢;refine zH λN hN=>?_
 dsimp![];refine λud hud=>hN _ _ ?_
 clear hN;have k2:upd H1 ud (.dK []) ud=some (.dK (rA (wY (ls.take 0)))):=zC;have k1':=zE hud (.dK []) _ _ k1;have s2:=s1.trans (zE hud (.dK []));have hund:ud≠nd:=λe=>by rw[e,k1]at hud;cases hud
 have hudH:=s1.free hud;clear s1 k1 hud;generalize upd H1 ud (.dK [])=H2 at s2 k1' k2⊢;refine yK (λσ H'=>∃(o1 o2 o3 o4:Option V),bG H H'/\H' ud=some (.dK (rA (wY ls)))/\σ=[some (.ref sa),some (.ref d),some (.ref la),some (.ref pa),some (.ref nd),some (.ref ud),o1,o2,o3,o4]) (λN hN=>?_) (λσ H' h=>?_)
 ·dsimp![];refine⟨_,.inl ⟨_,dF.of (s2 _ _ iF),rfl⟩,(),(),?_⟩;refine kM (n:=(ws.length:Int).toNat) (λk σ H'=>∃(o1 o2 o3 o4:Option V),bG H H'/\H' nd=some (.dT (MB (ls.take k)))/\H' ud=some (.dK (rA (wY (ls.take k))))/\σ=[some (.ref sa),some (.ref d),some (.ref la),some (.ref pa),some (.ref nd),some (.ref ud),o1,o2,o3,o4]) ⟨_,_,_,_,s2,k1',k2,rfl⟩ (λk σ H' hk h M hM=>?_) (λσ H' h=>?_)
  ·obtain⟨o1,o2,o3,o4,sH,kn,ku,rfl⟩:=h;have hkl:k<ls.length:=by lia
   have hl:ls[k]?=some ls[k]:=aA hkl;have e0:(0:Int)+(k:Int)=((k:Nat):Int):=by lia
   have etk:ls.take (k+1)=ls.take k++[ls[k]]:=aO hkl;rw[etk,MP,show MB (ls.take k++[ls[k]])=MB (ls.take k)++[(xM ls[k].i ls[k].j,.bl true)] by unfold MB;rw[bF];rfl]at hM;have hdis:∀l∈ls.take k,¬(l.i=ls[k].i/\l.j=ls[k].j):=λl hlm e=>by
    obtain⟨m,hm,e2⟩:=dU hlm;rw[bH]at hm;rw[oH]at e2;have :=hpo.ok.dis m k l ls[k] (by rw[aA (),e2]) hl e.1 e.2;lia
   generalize ls[k]=l at hl hM hdis;clear etk;obtain⟨a,b,ts,hka,ha,hb,hts⟩:=kZ lB hl;rw[e0];refine zH λN hN=>?_
   dsimp![aq];refine⟨sa,d,la,us,ws,aC,aT,ls,k,l,rfl,sH _ _ hsa,bA.same sH iT,hd.same sH,sH _ _ iF,bA.same sH lB,hl,hpo.ok.snd k l hl,hrl,hpr,λH3 s3=>⟨true,rfl,?_⟩⟩;rw[aF ()];replace sH:=sH.trans s3;replace kn:=s3 _ _ kn;replace ku:=s3 _ _ ku;clear s3;have kk:(xM l.i l.j).map kV=[.int l.i,.int l.j]:=rfl;refine⟨_,dF.of (sH _ _ iF),_,hka,a,rfl,_,cW.of (sH _ _ ha),_,iG,_,dF.of (sH _ _ iF),_,hka,a,rfl,_,cW.of (sH _ _ ha),_,nK,small (),λp hp=>⟨_,nU.t (k:=xM l.i l.j) (zE hp _ _ _ kn) zC,?_⟩⟩;rw[AM hdis,aF (λz=>by cases z)];refine hN _ _ ?_;clear hN;have s4:=zE hp (.tup [.int l.i,.int l.j]);replace sH:=sH.trans s4;replace kn:=s4 _ _ kn;replace ku:=s4 _ _ ku;generalize upd H3 p (.tup [.int l.i,.int l.j])=H4 at sH kn ku⊢;clear s4 hp;refine zH λN hN=>?_
   dsimp![JX];refine⟨_,dF.of (sH _ _ iF),_,hka,a,rfl,_,cW.of (sH _ _ ha),_,iG,_,dF.of (sH _ _ iF),_,hka,a,rfl,_,cW.of (sH _ _ ha),_,nK,small (),λp hp=>⟨_,rR.t (k:=xM l.i l.j) (zE hp _ _ _ kn) zC (LC (by unfold MB;rw[aE,bH];lia)),hN _ _ ?_⟩⟩;clear hN;rw[uW (AM hdis)];have s4:=zE hp (.tup [.int l.i,.int l.j]);replace sH:=sH.trans s4;replace kn:=s4 _ _ kn;replace ku:=s4 _ _ ku;generalize upd H4 p (.tup [.int l.i,.int l.j])=H5 at sH kn ku⊢;clear s4 hp;have s5:bG H (upd H5 nd (.dT (MB (ls.take k)++[(xM l.i l.j,.bl true)]))):=λx o hx=>by
    rw[zL (λe=>by rw[e,hnd]at hx;cases hx)];exact sH _ _ hx
   have k5:upd H5 nd (.dT (MB (ls.take k)++[(xM l.i l.j,.bl true)])) nd=_:=zC;have u5:upd H5 nd (.dT (MB (ls.take k)++[(xM l.i l.j,.bl true)])) ud=_:=(zL hund).trans ku;generalize upd H5 nd (.dT (MB (ls.take k)++[(xM l.i l.j,.bl true)]))=H6 at s5 k5 u5⊢;clear sH kn ku;refine zH λN hN=>?_
   dsimp![];refine⟨_,dF.of (s5 _ _ iF),_,hka,a,rfl,_,cW.of (s5 _ _ ha),_,at2,hN _ _ ?_⟩;clear hN;refine zH λN hN=>?_
   dsimp![tH];refine⟨_,s5 _ _ hb,λp7 H7 s7 k7=>hN _ _ ?_⟩;clear hN;rw[vW]at k7;replace s5:=s5.trans s7;replace k5:=s7 _ _ k5;replace u5:=s7 _ _ u5;clear s7;have hgw:=(hpo.ah k l hl).1;have hin:=RF hpo.ah hl;refine yK (λσ H'=>∃(pq:Addr)(o:Option V),bG H7 H'/\H' pq=some (.tup ((plc l.w l.as).map V.int))/\σ=[some (.ref sa),some (.ref d),some (.ref la),some (.ref pa),some (.ref nd),some (.ref ud),some (.int k),some (.ref b),some (.ref pq),o]) (λN hN=>?_) (λσ H' h=>?_)
   ·dsimp![vC];refine⟨_,cW.of (s5 _ _ hb),_,iG,rfl,?_⟩;rcases hgw with⟨hw,ns,has,_⟩ |⟨hw,r,ps,has,_⟩
    ·rw[aF (λz=>hw (V.str.inj z))];rw[has]at hts;rw[SO hts]at k7;exact hN _ _ ⟨p7,_,bG.refl _,by rw[has,tK hw];exact k7,rfl⟩
    ·rw[aH (by rw[hw])];rw[has]at hts;obtain⟨x1,r1,rfl,hx1,x2,r2,rfl,⟨pp,ts,rfl,hpp,hts⟩,e⟩:=hts;exact⟨_,cW.of (s5 _ _ hb),_,at2,hN _ _ ⟨pp,_,bG.refl _,by rw[has,hw,tJ,s5 _ _ hpp,EK hts],rfl⟩⟩
   ·obtain⟨pq,o,s8,kq,rfl⟩:=h;replace s5:=s5.trans s8;replace k5:=s8 _ _ k5;replace u5:=s8 _ _ u5;clear s8 k7 hgw;have hgi:=ek hpo.ah k;have hgn:=JB (ls.take k);generalize plc l.w l.as=ns at kq hin hM;generalize wY (ls.take k)=gs at u5 hM hgi hgn;have hpu:pq≠ud:=λe=>by rw[e,u5]at kq;cases kq
    dsimp![];refine⟨⟨_,cW.of kq⟩,?_⟩;refine EQ (xs:=ns.map V.int) (λm σ H'=>∃o,bG H H'/\H' nd=some (.dT (MB (ls.take k)++[(xM l.i l.j,.bl true)]))/\H' ud=some (.dK (rA (xN gs (ns.take m))))/\H' pq=some (.tup (ns.map V.int))/\σ=[some (.ref sa),some (.ref d),some (.ref la),some (.ref pa),some (.ref nd),some (.ref ud),some (.int k),some (.ref b),some (.ref pq),o]) ⟨_,s5,k5,u5,kq,rfl⟩ (λm σ H' _ h=>by obtain⟨_,_,_,_,h,_⟩:=h;exact cW.of h) (λm x σ H' hx h M2 hM2=>?_) (λσ H' h=>?_)
    ·obtain⟨o,s9,k9,u9,q9,rfl⟩:=h;rw[aQ]at hx;obtain⟨z,hz,rfl⟩:=bD.mp hx;obtain⟨hzl,hze⟩:=aD.mp hz;dsimp![JX];refine⟨_,rR.k (k:=.inl z) u9 (LC ?_),hM2 _ _ ⟨_,λx o hx=>?_,(zL hund.symm).trans k9,?_,(zL hpu).trans q9,rfl⟩⟩
     ·unfold rA;rw[aE];have :=wV (k:=ls.length) (xZ (ns.take m) gs hgn) λp hp=>by
       rcases(xL _ _ _).mp hp with h |h
       ·exact hgi p h
       ·exact hin p (cQ h)
      lia
     ·rw[zL (λe=>by rw[e,hudH]at hx;cases hx)];exact s9 _ _ hx
     ·rw[zC,FY,aO hzl,hze,ZT]
    ·obtain⟨o,s9,k9,u9,q9,rfl⟩:=h;rw[aE,aR (aJ _)]at u9;exact hM _ _ ⟨_,_,_,_,s9,k9,u9,rfl⟩
  ·obtain⟨o1,o2,o3,o4,sH,kn,ku,rfl⟩:=h;rw[aR ()]at ku;exact hN _ _ ⟨o1,o2,o3,o4,sH,ku,rfl⟩
 ·obtain⟨o1,o2,o3,o4,sH,ku,rfl⟩:=h;dsimp![vC];obtain⟨l,hl,hi,hj⟩:=hpo.last;obtain⟨a,b,ts,hka,ha,hb,hts⟩:=kZ lB hl;have hka:oO ws (-1)=some (.ref a):=ny () (by
   have h2:=hka;rw[hwl];obtain⟨u,g1,g2⟩:=bA.get (d:=FA l) lB (by rw[aQ,hl];rfl);rw[yO g1]at h2;rw[g1,h2])
  refine⟨_,ku,_,.inl ⟨_,dF.of (sH _ _ iF),rfl⟩,rfl,?_⟩;rw[aH (by unfold rA;rw[aE,TY hpo.ah h1 hpo.hang,hwl];lia)];refine⟨_,dF.of (sH _ _ iF),_,hka,a,rfl,_,cW.of (sH _ _ ha),_,iG,_,dF.of (sH _ _ iF),_,hka,a,rfl,_,cW.of (sH _ _ ha),_,nK,small (),λp hp=>?_⟩;refine⟨1,oN (i,j),by rw[hi,hj];exact⟨p,_,rfl,zC,_,_,rfl,rfl,_,_,rfl,rfl,rfl⟩,oN (i,j),⟨pa,_,rfl,zE hp _ _ _ (sH _ _ hpa),_,_,rfl,rfl,_,_,rfl,rfl,rfl⟩,⟨by show 2<=1000;decide,λe he=>by simp at he;rcases he with rfl |rfl<;>trivial⟩,(),?_⟩;rw[xD];exact q _ (sH.trans (zE hp _))
structure Bks(b:List mS)(s:Tm×Tm):Prop where
 bl:b.length<=20
 pl:∀r∈b,r.1.length<=5
 fit:∀t∈iJ b++iV s,eM 20 t/\wt t<=120
abbrev wO(b:List mS)(s:Tm×Tm):List Rw:=xK (iJ b++iV s) [.no]
inductive spFo (K:W.Frag) (vs:List V) (H:Hp) (Q:VK) (E:XK):Prop
 |mk (pa ba sa la:Addr) (v:V) (bs us ws:List V) (b:List mS) (s:Tm×Tm) (ls:List Ln) (_:vs=[.ref pa,.ref ba,v]) (_:H pa=some (.tup [.str "follows",.ref sa,.ref la])) (_:H ba=some (.lst bs)) (_:iK H b bs) (_:oW H s v) (_:Bks b s) (_:(wO b s).length<=30) (_:H sa=some (.lst us)) (_:fP K H (wO b s) us) (_:H la=some (.lst ws)) (_:xQ H ls ws) (_:BX (wO b s) (b.map (nR (wO b s))) ls (nS (wO b s) s).1 (nS (wO b s) s).2) (_:ls.length<=3600) (_:∀H',bG H H'->Q (.bl true) H')
theorem DT(bi:Bi mg)(h_f:fX P w K mg base 24 "_law_all_rows" ["book","saying"] jw)(h_n:fX P w K mg base 2 "_law_same_rows" ["found_v","due"] (gm K))(h_e:fX P w K mg base 24 "_law_by_numbers" ["rows","book"] spBn)(h_E:fX P w K mg base 23 "_law_pair" ["rows","saying"] jr)(h_v:fX P w K mg base 5 "_law_paper" ["sheet","rules","lines","pair"] spPp)(F:gL K "_law_follows" "_law_follows" s_z f fd):dG P w K mg base gJ 25 f fd ["answer","book","saying"] (spFo K):=by
 refine F.okz sc_z λfL A outer s H vs Q E hr h=>?_
 obtain⟨pa,ba,sa,la,v,bs,us,ws,b,s,ls,rfl,hpa,lL,hb,hv,bk,hrl,hsa,hrw,iF,lB,hpo,hll,q⟩:=h;refine⟨_,(zD (yH 3 sc_z.nd (zI h_f hr.m rfl (zA (pv 1) (zA (pv 2) zB)))) (zD (zZ (jB (xE (zI h_n hr.m rfl (zA (zJ zN (pv 0) zF) (zA (pv 3) zB))))) (zG (zM jR)) zR) (zG (zM (zI h_v hr.m rfl (zA (pv 3) (zA (zI h_e hr.m rfl (zA (pv 3) (zA (pv 1) zB))) (zA (zJ zN (pv 0) zF) (zA (zI h_E hr.m rfl (zA (pv 3) (zA (pv 2) zB))) zB))))))))),?_⟩;obtain⟨gb,gs⟩:(∀r∈b,ou (wO b s) r)/\WG (wO b s) s:=IG (λt ht=>(bk.fit t ht).1) bk.pl;have hsh:=(JH (iJ b++iV s) [.no] (λt ht=>(bk.fit t ht).1) nT.one (by simp)).1;have hpr:∀r∈b.map (nR (wO b s)),r.1.length<=100:=λr hr=>by
  obtain⟨r',hr',rfl⟩:=bO.mp hr;show(r'.1.map _).length<=100;rw[aE];have :=bk.pl r' hr';lia
 have w1:=(bk.fit s.1 (bE _ (by simp[iV]))).2;have w2:=(bk.fit s.2 (bE _ (by simp[iV]))).2;refine zH λN hN=>?_
 dsimp![];refine⟨ba,v,bs,b,s,rfl,lL,hb,hv,bk.bl,bk.pl,bk.fit,λra J H1 s1 r1=>hN _ _ ?_⟩;clear hN
 change RL H1 J ra (wO b s)at r1
 change nT (wO b s)at hsh
 generalize wO b s=aC at *;obtain⟨zs,kz,hz⟩:=r1.ex;have sH:=s1.trans r1.sub;refine zH λN hN=>?_
 dsimp![];refine⟨_,cW.of (sH _ _ hpa),_,nK,sa,ra,us,zs,aC,rfl,sH _ _ hsa,hrw.same sH,kz,bA.same r1.sub hz,(),true,rfl,?_⟩;rw[aF ()];refine hN _ _ ?_;clear hN;dsimp![];refine⟨ra,ba,J,aC,bs,b,rfl,r1,hsh,(),s1 _ _ lL,bA.same s1 hb,bk.bl,gb,λt ht=>(bk.fit t (bS _ ht)).2,λd J2 H2 s2 r2 hd=>?_⟩;replace s2:=s1.trans s2;refine⟨_,cW.of ((s2.trans r2.sub) _ _ hpa),_,at2,ra,v,J2,aC,s,rfl,r2,hsh,(),dD.same s2 hv,gs,w1,w2,λp J3 H3 s3 r3 k3=>?_⟩;obtain⟨zs',kz',hz'⟩:=r3.ex;have s4:=s2.trans (s3.trans r3.sub);exact⟨ra,d,la,p,zs',ws,aC,_,ls,_,_,rfl,kz',bA.same r3.sub hz',(hd.same s3).same r3.sub,s4 _ _ iF,bA.same s4 lB,r3.sub _ _ k3,hpo,(),hpr,hll,λH' s'=>q H' (s4.trans s')⟩
section
variable {m:Nat}
theorem Fw.vlt(f:Fw m ps S){t:Tm}(h:a∈val m ps S t):a<m:=jf (λx i hi=>(rP.mp ((f.full x i).mp hi)).1) t h
theorem cc_in{v:List Nat}(hv:∀b∈v,b<m)(h:a∈v):a∈cnt m ps (cnt m ps v):=fC.mpr ⟨hv a h,λb hb=>by rw[ZG];exact(fC.mp hb).2 a h⟩
theorem fg{v u:List Nat}(hu:∀b∈v,b∈u)(h:a∈cnt m ps (cnt m ps v)):a∈cnt m ps (cnt m ps u):=by
 have h:=fC.mp h;exact fC.mpr ⟨h.1,λb hb=>h.2 b (fC.mpr ⟨(fC.mp hb).1,λc hc=>(fC.mp hb).2 c (hu c hc)⟩)⟩
theorem ccc{v:List Nat}(hv:∀b∈v,b<m)(h:a∈cnt m ps (cnt m ps (cnt m ps v))):a∈cnt m ps v:=by
 have h:=fC.mp h;exact fC.mpr ⟨h.1,λb hb=>h.2 b (cc_in hv hb)⟩
theorem KO(irr:∀a,kO ps a a=false){w:Str}(hl:∀v∈vs,∀b∈v,b<m)(hf:∀v∈vs,∀a,a∈cnt m ps (cnt m ps v)->a∈v)(h:a∈cnt m ps (cnt m ps (wM m ps w vs))):a∈wM m ps w vs:=by
 have lW:=(fC.mp h).1;unfold wM at h⊢;split
 ·rename_i c
  rw[aH c]at h;have :=(fC.mp h).2 a (fC.mpr ⟨lW,λb hb=>by cases hb⟩);rw[irr]at this;cases this
 rename_i c1
 rw[aF c1]at h;split
 ·exact bZ.mpr lW
 rename_i c2
 rw[aF c2]at h;split
 ·rename_i c
  rw[aH c]at h;refine ccc (λb hb=>?_) h;cases vs with
  |nil=>cases hb
  |cons v vs=>exact hl v aY b hb
 rename_i c3
 rw[aF c3]at h;split
 ·rename_i c
  rw[aH c]at h;exact lU.mpr ⟨lW,λv hv=>hf v hv a (fg (λb hb=>(lU.mp hb).2 v hv) h)⟩
 ·rename_i c
  rw[aF c]at h;exact ccc (λb hb=>(lU.mp hb).1) h
theorem sL(f:Fw m ps S):∀(t:Tm)(a:Nat),a∈cnt m ps (cnt m ps (val m ps S t))->a∈val m ps S t
 | .name x,a,h=>by rw[val]at h⊢;exact(f.full x a).mpr h
 | .node w ts,a,h=>by
   rw[val]at h⊢;refine KO f.irr (λv hv b hb=>?_) (λv hv b hb=>?_) h
   all_goals
    rw[jN]at hv;obtain⟨u,hu,rfl⟩:=bO.mp hv
   ·exact f.vlt hb
   ·exact sL f u b hb
theorem vF(s t:Tm)(a:Nat):a∈val m ps S (.node "both" [s,t])↔a<m/\a∈val m ps S s/\a∈val m ps S t:=by
 rw[val,wM,aF (),aF (),aF (),aH rfl,jN,lU];simp
theorem QU(s:Tm)(a:Nat):a∈val m ps S (.node "not" [s])↔pp m ps (· ∈val m ps S s) a:=by
 rw[val,wM,aF (),aF (),aH rfl,jN];exact fC
theorem YS(s t:Tm)(a:Nat):a∈val m ps S (.node "either" [s,t])↔pp m ps (λb=>b<m/\pp m ps (· ∈val m ps S s) b/\pp m ps (· ∈val m ps S t) b) a:=by
 rw[val,wM,aF (),aF (),aF (),aF (),jN,fC];refine qC (λb=>?_) a;rw[lU];simp[fC]
theorem KN(s t u:Tm)(a:Nat):a∈val m ps S (.node "both" [s,t,u])↔a<m/\a∈val m ps S s/\a∈val m ps S t/\a∈val m ps S u:=by
 rw[val,wM,aF (),aF (),aF (),aH rfl,jN,lU];simp
theorem mn(f:Fw m ps S){s t u v:Tm}{way:Int}(h:Hs m ps S (s,t)):Hs m ps S (CG way s t u v):=by
 have h:∀a,a∈val m ps S s->a∈val m ps S t:=h;unfold CG;intro a ha;split at ha
 ·next c=>
  rw[aH c];have ha:=(QU t a).mp ha;exact(QU s a).mpr ⟨ha.1,λb hb=>ha.2 b (h b hb)⟩
 next c0=>
 rw[aF c0];split at ha
 ·next c=>
  rw[aH c];exact h a ((vF s u a).mp ha).2.1
 next c1=>
 rw[aF c1];split at ha
 ·next c=>
  rw[aH c];exact h a ((KN u s v a).mp ha).2.2.1
 next c2=>
 rw[aF c2];split at ha
 ·next c=>
  rw[aH c];exact(YS u t a).mpr ⟨f.vlt ha,λb hb=>by rw[ZG];exact hb.2.2.2 a (h a ha)⟩
 next c3=>
 rw[aF c3];split at ha
 ·next c=>
  rw[aH c];have ha:=(vF s u a).mp ha;exact(vF t u a).mpr ⟨ha.1,h a ha.2.1,ha.2.2⟩
 next c4=>
 rw[aF c4];have ha:=(vF s _ a).mp ha;have :=((QU t a).mp ha.2.2).2 a (h a ha.2.1);rw[f.irr]at this;cases this
theorem ml(f:Fw m ps S){s':Tm×Tm}{u v:Tm}{r:mS}(g:GrR s u v r s')(h:Hs m ps S s)(hr:Hr m ps S r):Hs m ps S s':=by
 rcases g with⟨rfl,rfl⟩ |⟨k,_,rfl,rfl⟩ |⟨rfl,rfl⟩ |⟨rfl,rfl⟩
 ·exact λa ha=>hr (λs hs=>by cases hs) a (h a ha)
 ·exact hr λq hq=>by rw[List.eq_of_mem_replicate hq];exact h
 ·exact λa ha=>(vF s.2 u a).mpr ⟨f.vlt ha,h a ha,hr (λs hs=>by cases hs) a ha⟩
 ·intro a ha;have h2:∀a,a∈val m ps S u->a∈val m ps S s.2:=λa ha=>hr (λs hs=>by cases hs) a ha
  have ha:=(YS s.1 u a).mp ha;refine sL f s.2 a (fC.mpr ⟨ha.1,λb hb=>ha.2 b ?_⟩);have hb:=fC.mp hb;exact⟨hb.1,⟨hb.1,λc hc=>hb.2 c (h c hc)⟩,⟨hb.1,λc hc=>hb.2 c (h2 c hc)⟩⟩
end
theorem jd{b':List mS}{s':Tm×Tm}(h:Vt b s)(g:Gro b s b' s'):Vt b' s':=by
 obtain⟨u,v,_,_,⟨rfl,way,rfl⟩ |⟨n,r,rfl,g⟩⟩:=g
 ·exact λm ps S f hb=>mn f (h m ps S f hb)
 ·refine λm ps S f hb=>ml f g (h m ps S f λq hq=>hb q ?_) (hb r (bE _ aY))
  rw[←dW n b]at hq;rcases bX.mp hq with hq |hq
  ·exact bS _ hq
  ·exact bE _ (aV _ hq)
structure GI(k:Nat)(b:List mS)(s:Tm×Tm):Prop where
 vt:Vt b s
 f1:eM (2+(3*k+1)/2) s.1
 f2:eM (2+3*k/2) s.2
 w:wt s.1+wt s.2<=8+10*k
 pl:∀r∈b,r.1.length<=2
 bt:∀r∈b,∀t∈NI r,eM (2+(3*k+1)/2) t/\wt t<=8+10*k
theorem ng{t:Tm}(h:eM n t):eM (n+1) (.node "not" [t]):=by
 unfold eM;exact⟨.inr (.inr (.inl ⟨rfl,rfl⟩)),λu hu=>by rw[aX.mp hu];exact h⟩
theorem EV{w:Str}{s t:Tm}(hw:w="both"\/w="either")(h1:eM n s)(h2:eM n t):eM (n+1) (.node w [s,t]):=by
 unfold eM;refine⟨hw.elim (λe=>.inr (.inr (.inr (.inl ⟨e,aJ 2⟩)))) λe=>.inr (.inr (.inr (.inr ⟨e,aJ 2⟩))),λx hx=>?_⟩;rcases bI.mp hx with rfl |hx
 ·exact h1
 ·rw[aX.mp hx];exact h2
theorem fit3{s t u:Tm}(h1:eM n s)(h2:eM n t)(h3:eM n u):eM (n+1) (.node "both" [s,t,u]):=by
 unfold eM;refine⟨.inr (.inr (.inr (.inl ⟨rfl,by show 2<=3;decide⟩))),λx hx=>?_⟩;simp only[bI,eF,or_false]at hx;rcases hx with rfl |rfl |rfl
 ·exact h1
 ·exact h2
 ·exact h3
theorem m7{k:Nat}{s t u v:Tm}{way:Int}(f1:eM (2+(3*k+1)/2) s)(f2:eM (2+3*k/2) t)(hw:wt s+wt t<=8+10*k)(hu:Sml u)(hv:Sml v):
 eM (2+(3*(k+1)+1)/2) (CG way s t u v).1/\eM (2+3*(k+1)/2) (CG way s t u v).2/\wt (CG way s t u v).1+wt (CG way s t u v).2<=8+10*(k+1):=by
 have w1:=hu.2;have w2:=hv.2;have A:∀{n x},eM n x->n<=1+(3*(k+1)+1)/2->eM (1+(3*(k+1)+1)/2) x:=λh hn=>eM.mono h hn
 have B:∀{n x},eM n x->n<=1+3*(k+1)/2->eM (1+3*(k+1)/2) x:=λh hn=>eM.mono h hn
 have e1:2+(3*(k+1)+1)/2=1+(3*(k+1)+1)/2+1:=by lia
 have e2:2+3*(k+1)/2=1+3*(k+1)/2+1:=by lia
 unfold CG;split
 ·rw[e1,e2];exact⟨ng (A f2 ()),ng (B f1 ()),by simp only[wt,mV];lia⟩
 split
 ·rw[e1];exact⟨EV (.inl rfl) (A f1 ()) (A hu.1 ()),eM.mono f2 (),by simp only[wt,mV];lia⟩
 split
 ·rw[e1];exact⟨fit3 (A hu.1 ()) (A f1 ()) (A hv.1 ()),eM.mono f2 (),by simp only[wt,mV];lia⟩
 split
 ·rw[e2];exact⟨eM.mono f1 (),EV (.inr rfl) (B hu.1 ()) (B f2 ()),by simp only[wt,mV];lia⟩
 split
 ·rw[e1,e2];exact⟨EV (.inl rfl) (A f1 ()) (A hu.1 ()),EV (.inl rfl) (B f2 ()) (B hu.1 ()),by simp only[wt,mV];lia⟩
 ·rw[e1];exact⟨EV (.inl rfl) (A f1 ()) (A (ng f2) ()),eM.mono hu.1 (),by simp only[wt,mV];lia⟩
theorem GI.step{k:Nat}{b':List mS}{s':Tm×Tm}(h:GI k b s)(g:Gro b s b' s'):GI (k+1) b' s':=by
 have hvt:=jd h.vt g;have bt:∀r∈b,∀t∈NI r,eM (2+(3*(k+1)+1)/2) t/\wt t<=8+10*(k+1):=λr hr t ht=>⟨eM.mono (h.bt r hr t ht).1 (),by have :=(h.bt r hr t ht).2;lia⟩
 have f1:=h.f1;have f2:=h.f2;have hw:=h.w;obtain⟨u,v,hu,hv,⟨rfl,way,rfl⟩ |⟨n,r,rfl,g⟩⟩:=g
 ·obtain⟨g1,g2,g3⟩:=m7 (way:=way) f1 f2 hw hu hv;exact⟨hvt,g1,g2,g3,h.pl,bt⟩
 ·have w1:=hu.2;have w2:=hv.2;have M:∀{n x},eM n x->n<=2+(3*(k+1)+1)/2->wt x<=8+10*(k+1)->eM (2+(3*(k+1)+1)/2) x/\wt x<=8+10*(k+1):=λh hn hw=>⟨eM.mono h hn,hw⟩
  have mem:∀q∈b.take n++r::b.drop n,q=r\/q∈b:=λq hq=>by
   rcases bX.mp hq with hq |hq
   ·exact .inr (cQ hq)
   ·rcases bI.mp hq with hq |hq
    ·exact .inl hq
    ·exact .inr (List.mem_of_mem_drop hq)
  have e1:2+(3*(k+1)+1)/2=1+(3*(k+1)+1)/2+1:=by lia
  have e2:2+3*(k+1)/2=1+3*(k+1)/2+1:=by lia
  have key:eM (2+(3*(k+1)+1)/2) s'.1/\eM (2+3*(k+1)/2) s'.2/\wt s'.1+wt s'.2<=8+10*(k+1)/\r.1.length<=2/\∀t∈NI r,eM (2+(3*(k+1)+1)/2) t/\wt t<=8+10*(k+1):=by
   have two:∀{x y:Tm},(eM (2+(3*(k+1)+1)/2) x/\wt x<=8+10*(k+1))->(eM (2+(3*(k+1)+1)/2) y/\wt y<=8+10*(k+1))->∀t∈iV (x,y),eM (2+(3*(k+1)+1)/2) t/\wt t<=8+10*(k+1):=λhx hy t ht=>by
    have ht:t∈[_,_]:=ht;rcases bI.mp ht with rfl |ht
    ·exact hx
    ·rw[aX.mp ht];exact hy
   have mu:=M hu.1 () ();have mv:=M hv.1 () ();have m1:=M f1 () ();have m2:=M f2 () ();rcases g with⟨rfl,rfl⟩ |⟨m,hm,rfl,rfl⟩ |⟨rfl,rfl⟩ |⟨rfl,rfl⟩
   ·exact⟨m1.1,eM.mono hu.1 (),by show wt s.1+wt u<=_;lia,cO _,two m2 mu⟩
   ·refine⟨mu.1,eM.mono hv.1 (),by show wt u+wt v<=_;lia,by rw[mF];lia,λt ht=>?_⟩;rcases bX.mp ht with ht |ht
    ·obtain⟨p,hp,ht⟩:=cX.mp ht;rw[List.eq_of_mem_replicate hp]at ht;exact two m1 m2 t ht
    ·exact two mu mv t ht
   ·refine⟨m1.1,?_,by simp only[wt,mV];lia,cO _,two m1 mu⟩;rw[e2];exact EV (.inl rfl) (eM.mono f2 ()) (eM.mono hu.1 ())
   ·refine⟨?_,eM.mono f2 (),by simp only[wt,mV];lia,cO _,two mu m2⟩;rw[e1];exact EV (.inr rfl) (eM.mono f1 ()) (eM.mono hu.1 ())
  obtain⟨k1,k2,k3,k4,k5⟩:=key;exact⟨hvt,k1,k2,k3,λq hq=>(mem q hq).elim (λe=>e▸k4) (h.pl q),λq hq=>(mem q hq).elim (λe=>e▸k5) (bt q)⟩
theorem GI.bks{k:Nat}(h:GI k b s)(hk:k<=11)(hb:b.length<=20):Bks b s:=by
 refine⟨hb,λr hr=>by have :=h.pl r hr;lia,λt ht=>?_⟩;have hw:=h.w;rcases bX.mp ht with ht |ht
 ·obtain⟨r,hr,ht⟩:=cX.mp ht;have :=h.bt r hr t ht;exact⟨eM.mono this.1 (),()⟩
 ·have ht:t∈[s.1,s.2]:=ht;rcases bI.mp ht with rfl |ht
  ·exact⟨eM.mono h.f1 (),()⟩
  ·rw[aX.mp ht];exact⟨eM.mono h.f2 (),()⟩
abbrev bu:Stmt:=top 82
theorem oK:bW ["script","names","start","book","saying","steps","cell","more","grown","handed","answer"] ["script"] (zK bu):=by rfl'
theorem BK(ns:List Int)(lo hi:Option Int):∃cs:List Int,qJ (ns.map V.int) lo hi=cs.map V.int/\cs.length<=ns.length:=by
 have hl:=vX (ns.map V.int) lo hi;rw[aE]at hl;refine⟨(ns.drop (HT.sIx (ns.map V.int).length 0 lo)).take (HT.sIx (ns.map V.int).length (ns.map V.int).length hi-HT.sIx (ns.map V.int).length 0 lo),?_,?_⟩
 ·unfold qJ;rw[oU,sF]
 ·rw[bH,fW];lia
inductive GF (K:W.Frag) (vs:List V) (H:Hp) (Q:VK) (E:XK):Prop
 |mk (a:Addr) (ns:List Int) (_:vs=[.ref a]) (_:dF K H a (ns.map V.int)) (_:ns.length<=63) (_:∀H',Q (.bl true) H')
theorem ll(bi:Bi mg)(h_F:fX P w K mg base 1 "_law_draw" ["script","k"] (ON K))(h_l:fX P w K mg base 2 "_law_names" ["script","k","many"] (spNs K))(h_y:fX P w K mg base 1 "_law_small" ["pick","names"] jo)(h_w:fX P w K mg base 2 "_law_grown" ["book","saying","cell","names"] spGn)(h_f:fX P w K mg base 24 "_law_all_rows" ["book","saying"] jw)(h_C:fX P w K mg base 1 "_law_copy_of" ["book"] spCp)(h_ae:fX P w K mg base 49 "judge" ["book","saying"] (spJu K))(h_z:fX P w K mg base 25 "_law_follows" ["answer","book","saying"] (spFo K))(F:gL K "law" "law" bu f fd):dG P w K mg base gJ 65 f fd ["script"] (GF K):=by
 refine F.okz oK λfL A outer s H vs Q E hr h=>?_
 obtain⟨a,ns,rfl,hS,hl,q⟩:=h;refine⟨_,(zD (yH 1 oK.nd (zI h_l hr.m rfl (zA (pv 0) (zA zF (zA (zU qT zF (zU xC (zI h_F hr.m rfl (zA (pv 0) (zA zF zB))) zF)) zB))))) (zD (yH 2 oK.nd (zI h_y hr.m rfl (zA (zU jS (zI h_F hr.m rfl (zA (pv 0) (zA zF zB))) zF) (zA (pv 1) zB)))) (zD (yH 3 oK.nd (xF zB)) (zD (yH 4 oK.nd (zP (zA (pv 2) (zA (pv 2) zB)))) (zD (yH 5 oK.nd zF) (zD (yP bM rfl (yV (xO YC (pv 0) (jC zF) jD)) (yF 6 oK.nd) (zD (vI (zI h_w hr.m rfl (zA (pv 3) (zA (pv 4) (zA (zU xC (pv 6) (zU DI zF zF)) (zA (pv 1) zB))))) (jF rfl (zV (yF 7 oK.nd) (zV (yF 8 oK.nd) yY)))) (zG (zZ (PW.pt (XH (zQ ZK (pv 5) zF (zO _)) (XH (zQ HJ (zS yA rfl bi.len yJ (zA (pv 7) zB)) zF (zO _)) (YG (zQ HJ (zS yA rfl bi.len yJ (zA (zI h_f hr.m rfl (zA (pv 7) (zA (pv 8) zB))) zB)) zF (zO _)))))) (zD (yH 3 oK.nd (pv 7)) (zD (yH 4 oK.nd (pv 8)) (zG (yH 5 oK.nd (zU qT (pv 5) zF))))) zR)))) (zD (yH 9 oK.nd (zI h_C hr.m rfl (zA (pv 3) zB))) (zD (yH 10 oK.nd (zI h_ae hr.m rfl (zA (pv 9) (zA (pv 4) zB)))) (zD (zZ (PW.pt (jX (jB (xE (zS (xW (T:="tuple")) rfl bi.isinstance yL (zA (pv 10) (zA (vK bi.tuple qW rfl) zB))))) (jX (zQ QA (zS yA rfl bi.len yJ (zA (pv 10) zB)) zF (zO _)) (uJ (zQ QA (zJ zN (pv 10) zF) zT (zO _)))))) (zG (zM jR)) zR) (zG (zM (jG (zI h_z hr.m rfl (zA (pv 10) (zA (pv 3) (zA (pv 4) zB)))) (qR (yM (qH hr.units) (pv 9) (pv 3) (zO _))))))))))))))),?_⟩;refine zH λN hN=>?_
 dsimp![];refine⟨a,ns,2,rfl,hS,hl,(),λz hz=>⟨z,rfl,(),?_⟩⟩;obtain⟨m,hm,hm1,hm3⟩:∃m:Nat,1+z % 3=(m:Int)/\1<=m/\m<=3:=⟨(1+z % 3).toNat,(),(),()⟩
 rw[hm];refine⟨a,ns,0,m,rfl,hS,hl,(),hm1,(),λna zs H1 s1 hnm=>hN _ _ ?_⟩;clear hN hm z hz;refine zH λN hN=>?_
 dsimp![];refine⟨a,ns,2,rfl,bG.seq s1 hS,hl,(),λz hz=>⟨z,rfl,⟨(),()⟩,?_⟩⟩;refine⟨_,na,m,zs,rfl,(),hnm,hm1,(),λsv0 st H2 s2 iN f1 w1 _=>hN _ _ ?_⟩;clear hN z hz;replace hnm:=hnm.same s2;replace s2:=s1.trans s2;clear s1;refine zH λN hN=>?_
 dsimp![];refine⟨small (),λb0 hb0=>hN _ _ ?_⟩;clear hN;have s3:=zE hb0 (.lst []);have kb0:upd H2 b0 (.lst []) b0=_:=zC;generalize upd H2 b0 (.lst [])=H3 at s3 kb0⊢;refine zH λN hN=>?_
 dsimp![];refine⟨small (),λp0 hp0=>hN _ _ ?_⟩;clear hN;have s4:=zE hp0 (.tup [sv0,sv0]);have hs0:oW (upd H3 p0 (.tup [sv0,sv0])) (st,st) (.ref p0):=MF zC (dD.same (s3.trans s4) iN) (dD.same (s3.trans s4) iN);replace kb0:=s4 _ _ kb0;replace hnm:=hnm.same (s3.trans s4);replace s4:=s2.trans (s3.trans s4);generalize upd H3 p0 (.tup [sv0,sv0])=H4 at s4 hs0 kb0 hnm⊢;clear s2 s3 iN hb0 hp0;refine zH λN hN=>?_
 dsimp![];refine hN _ _ ?_;clear hN;have g0:GI 0 [] (st,st):=⟨λm ps S f _ a ha=>ha,f1,f1,by show wt st+wt st<=_;lia,(λr hr=>by cases hr),(λr hr=>by cases hr)⟩
 have r0:(wO [] (st,st)).length<=30:=by
  have f20:=eM.mono f1 (show 2<=20 by decide);obtain⟨g1,g2,g3,g4⟩:=qK st 20 [.no] f20 nT.one;obtain⟨e1,e2,e3,e4⟩:=qK st 20 _ f20 g1;show(eI st (eI st [.no]).1).1.length<=30;rw[bY]at g3;lia
 refine yK (λσ H'=>∃(ba:Addr)(sv:V)(bs:List V)(b:List mS)(s:Tm×Tm)(k:Nat)(o1 o2 o3 o4 o5:Option V),bG H4 H'/\H' ba=some (.lst bs)/\iK H' b bs/\oW H' s sv/\GI k b s/\k<=11/\b.length<=8/\(wO b s).length<=30/\σ=[some (.ref a),some (.ref na),some sv0,some (.ref ba),some sv,some (.int k),o1,o2,o3,o4,o5]) (λN hN=>?_) (λσ H' h=>?_)
 ·dsimp![];obtain⟨cs,hcs,hcl⟩:=BK ns (some 3) none;refine⟨_,bG.seq s4 hS,λpc hpc=>?_⟩;rw[hcs];refine⟨⟨_,dF.of zC⟩,?_⟩;have e5:=zE hpc (.lst (cs.map V.int));have kc:upd H4 pc (.lst (cs.map V.int)) pc=_:=zC;generalize upd H4 pc (.lst (cs.map V.int))=H5 at e5 kc⊢;refine jE (xs:=cs.map V.int) (λi σ H'=>∃(ba:Addr)(sv:V)(bs:List V)(b:List mS)(s:Tm×Tm)(k:Nat)(o1 o2 o3 o4 o5:Option V),bG H5 H'/\H' ba=some (.lst bs)/\iK H' b bs/\oW H' s sv/\GI k b s/\k<=11/\b.length<=8/\(wO b s).length<=30/\σ=[some (.ref a),some (.ref na),some sv0,some (.ref ba),some sv,some (.int k),o1,o2,o3,o4,o5]) ⟨b0,_,_,[],(st,st),0,_,_,_,_,_,bG.refl _,e5 _ _ kb0,rfl,dD.same e5 hs0,g0,(),(),r0,rfl⟩ (λi σ H' _ h=>by obtain⟨_,_,_,_,_,_,_,_,_,_,_,h,_⟩:=h;exact dF.of (h _ _ kc)) (λi x σ H' hx h M hM=>?_) (λσ H' h=>?_)
  ·obtain⟨ba,sv,bs,b,s,k,o1,o2,o3,o4,o5,s5,kb,hb,hs,gi,hk,hbl,hrl,rfl⟩:=h;rw[aQ]at hx;obtain⟨z,hz,rfl⟩:=bD.mp hx;refine zH λN hN=>?_
   dsimp![uQ,jU,uY];refine⟨⟨(),(),()⟩,HH,ba,na,sv,_,m,zs,bs,b,s,rfl,kb,hb,hs,fE _ (Int.ne_of_gt HH),hnm.same (e5.trans s5),hm1,(),(),λp bp svp us' b' s' H6 s6 k6 kb' hb' eP g=>⟨p,rfl,_,cW.of k6,rfl,_,_,rfl,_,_,rfl,rfl,hN _ _ ?_⟩⟩;clear hN;replace kb:=s6 _ _ kb;replace hb:iK H6 b bs:=bA.same s6 hb;replace hs:=dD.same s6 hs;replace s5:=s5.trans s6;clear s6 k6;have gi':=gi.step g;have hbl':=xG hb';have stay:∀H',bG H6 H'->M [some (.ref a),some (.ref na),some sv0,some (.ref ba),some sv,some (.int k),some (.int z),some (.ref bp),some svp,o4,o5] H':=λH' s'=>hM _ _ ⟨ba,sv,bs,b,s,k,_,_,_,_,_,s5.trans s',s' _ _ kb,bA.same s' hb,dD.same s' hs,gi,hk,hbl,hrl,rfl⟩
   dsimp![];by_cases c1:(k:Int)<11
   rotate_left
   ·rw[aF c1];exact stay _ (bG.refl _)
   rw[aH c1];refine⟨_,.inl ⟨_,dF.of kb',rfl⟩,?_⟩;by_cases c2:(us'.length:Int)<=8
   rotate_left
   ·rw[aF c2];exact stay _ (bG.refl _)
   rw[aH c2];have bk':=gi'.bks () ();refine⟨bp,svp,us',b',s',rfl,kb',hb',eP,bk'.bl,bk'.pl,bk'.fit,λra J H7 s7 r7=>?_⟩;obtain⟨zs',kz,hz⟩:=r7.ex;have hzl:=xG hz;have s67:=s7.trans r7.sub;refine⟨_,.inl ⟨_,dF.of kz,rfl⟩,?_⟩;split
   ·next c3=>exact hM _ _ ⟨bp,svp,us',b',s',k+1,_,_,_,_,_,s5.trans s67,s67 _ _ kb',bA.same s67 hb',dD.same s67 eP,gi',(),(),by show(xK (iJ b'++iV s') [.no]).length<=30;lia,rfl⟩
   ·exact stay _ s67
  ·obtain⟨ba,sv,bs,b,s,k,o1,o2,o3,o4,o5,s5,h⟩:=h;exact hN _ _ ⟨ba,sv,bs,b,s,k,o1,o2,o3,o4,o5,e5.trans s5,h⟩
 ·obtain⟨ba,sv,bs,b,s,k,o1,o2,o3,o4,o5,s5,kb,hb,hs,gi,hk,hbl,hrl,rfl⟩:=h;have bk:=gi.bks hk ();refine zH λN hN=>?_
  dsimp![];refine⟨ba,bs,b,rfl,kb,hb,(),bk.pl,λhp us H6 s6 k6 h6=>hN _ _ ?_⟩;clear hN;replace kb:=s6 _ _ kb;replace hb:iK H6 b bs:=bA.same s6 hb;replace hs:=dD.same s6 hs;clear s5 s6;refine zH λN hN=>?_
  dsimp![];refine⟨hp,sv,us,b,s,rfl,k6,h6,hs,bk.bl,bk.pl,(λt ht=>(bk.fit t ht).1),hrl,gi.vt,λp sa pa us7 ws ls H7 s7 k7 ksa hrw kpa lB hpo hll=>hN _ _ ?_⟩;clear hN;refine zH λN hN=>?_
  dsimp![ki];refine⟨_,.tup k7,true,jT,?_⟩;rw[aF ()];refine⟨_,.inr ⟨_,cW.of k7,rfl⟩,rfl,?_⟩;rw[aF (λz=>z rfl)];refine⟨_,cW.of k7,_,iG,rfl,?_⟩;rw[aF (λz=>z rfl)];refine hN _ _ ?_;clear hN;dsimp![vC];refine⟨p,ba,sa,pa,sv,bs,us7,ws,b,s,ls,rfl,k7,s7 _ _ kb,bA.same s7 hb,dD.same s7 hs,bk,hrl,ksa,hrw,kpa,lB,hpo,hll,λH8 s8=>?_⟩;refine⟨true,rfl,TK ?_⟩;have s68:=s7.trans s8;have hfs:∀p,(∀t∈iV p,t∈iJ b++iV s)->WH 20 120 p:=λp h=>⟨bk.fit _ (h _ (by simp[iV])),bk.fit _ (h _ (by simp[iV]))⟩
  refine⟨24,.lst (b.map ZS),⟨hp,us,rfl,s68 _ _ k6,bA.same s68 h6⟩,.lst (b.map ZS),⟨ba,bs,rfl,s68 _ _ kb,bA.same s68 hb⟩,⟨by rw[aE];lia,λe he=>?_⟩,(),?_⟩
  ·obtain⟨r,hr,rfl⟩:=bO.mp he;have hpl:=bk.pl r hr;exact LK (λp hp=>hfs p λt ht=>bS _ (cX.mpr ⟨r,hr,bS _ (cX.mpr ⟨p,hp,ht⟩)⟩)) (hfs r.2 λt ht=>bS _ (cX.mpr ⟨r,hr,bE _ ht⟩)) (by decide:(120:Nat)<=900) ()
  ·rw[xD];exact q H8
theorem ln0(h:us.length=0):us=[]:=eW.mp h
theorem lnS(h:us.length=n+1):∃(u:Value)(r:List Value),us=u::r/\r.length=n:=by
 cases us with
 |nil=>cases h
 |cons u r=>exact⟨u,r,rfl,lP h⟩
theorem ln1(h:us.length=1):∃a,us=[a]:=by
 obtain⟨a,r,rfl,g⟩:=lnS h;cases ln0 g;exact⟨a,rfl⟩
theorem ln2(h:us.length=2):∃a b,us=[a,b]:=by
 obtain⟨a,r,rfl,g⟩:=lnS h;obtain⟨b,rfl⟩:=ln1 g;exact⟨a,b,rfl⟩
theorem ln3(h:us.length=3):∃a b c,us=[a,b,c]:=by
 obtain⟨a,r,rfl,g⟩:=lnS h;obtain⟨b,c,rfl⟩:=ln2 g;exact⟨a,b,c,rfl⟩
theorem ln4(h:us.length=4):∃a b c d,us=[a,b,c,d]:=by
 obtain⟨a,r,rfl,g⟩:=lnS h;obtain⟨b,c,d,rfl⟩:=ln3 g;exact⟨a,b,c,d,rfl⟩
theorem bz{x qual:Str}{st:Stmt}(F:gL K x qual st f fd)(ps:List Str)
 (h:∀(kV doc pm:Value)(an:Option Addr)(fL ct:Value)(us:List Value),us.length=ps.length->bindArgs (W.fnOf x qual (jV st) (jA st) (zK st) .none kV doc pm an fL ct) ⟨us,[]⟩=pure (ps.zip us):=by intro _ _ _ _ _ _ us hl;first |(obtain⟨_,rfl⟩:=ln1 hl;rfl) |(obtain⟨_,_,rfl⟩:=ln2 hl;rfl) |(obtain⟨_,_,_,rfl⟩:=ln3 hl;rfl) |(obtain⟨_,_,_,_,rfl⟩:=ln4 hl;rfl)):Binds K fd ps []:=F.binds h
structure iR(K:W.Frag)(x:Str)(st:Stmt)(f:Addr)(fd:FuncData):Prop where
 a:W.nsIn K mainGlobals x=some (some (.ref f))
 F:gL K x x st f fd
theorem fQq{x:Str}{st:Stmt}{oc:Value}{od an:Option Addr}{osl:Array (Option Value)}{kV doc pm fL ct:Value}(a:W.nsIn K mainGlobals x=some (some (.ref f)))(l:K.lookup f=some ⟨oc,od,.func (W.fnOf x x (jV st) (jA st) (zK st) .none kV doc pm an fL ct),osl⟩)
 (c:W.codeIn K fL x=true) (k:W.keepIn K (.ref f)=true):iR K x st f (W.fnOf x x (jV st) (jA st) (zK st) .none kV doc pm an fL ct):=⟨a,ES l c k⟩
structure MtI(K:W.Frag)(C:Addr)(m q:Str)(st:Stmt)(f:Addr)(fd:FuncData):Prop where
 a:W.findIn K (.ref C) m=some (some (.ref f))
 i:W.isFn K (.ref f)=true
 k:W.keepIn K (.ref f)=true
 F:gL K m q st f fd
theorem mQq{C:Addr}{m q:Str}{st:Stmt}{oc:Value}{od an:Option Addr}{osl:Array (Option Value)}{kV doc pm fL ct:Value}(a:W.findIn K (.ref C) m=some (some (.ref f)))(i:W.isFn K (.ref f)=true)(l:K.lookup f=some ⟨oc,od,.func (W.fnOf m q (jV st) (jA st) (zK st) .none kV doc pm an fL ct),osl⟩)
 (c:W.codeIn K fL q=true) (k:W.keepIn K (.ref f)=true):MtI K C m q st f (W.fnOf m q (jV st) (jA st) (zK st) .none kV doc pm an fL ct):=⟨a,i,k,ES l c k⟩
local macro_rules | `(tactic| ac_rfl) => `(tactic| (intro _ _ _ _ _ _ us hl; first | (obtain ⟨u0, e⟩ := ln1 hl; subst e; rfl) | (obtain ⟨u0, u1, e⟩ := ln2 hl; subst e; rfl) | (obtain ⟨u0, u1, u2, e⟩ := ln3 hl; subst e; rfl) | (obtain ⟨u0, u1, u2, u3, e⟩ := ln4 hl; subst e; rfl)))
theorem all_mk{l:W.OpenLaw}{h:Heap}{fa:Addr}(X:K.In h)(G:h.Ns mainGlobals mg)(hfa:mg "law"=some (.ref fa))
 {C_Growth:Addr} (aC_Growth:W.nsIn K mainGlobals "Growth"=some (some (.ref C_Growth)))
 {f_B:Addr} {d_Growth_init:FuncData} (gF:MtI K C_Growth "__init__" "Growth.__init__" s_B f_B d_Growth_init)
 {f_a:Addr} {d_Growth_line_of:FuncData} (gO:MtI K C_Growth "line_of" "Growth.line_of" s_a f_a d_Growth_line_of)
 {f_D:Addr} {d_Growth_has:FuncData} (lA:MtI K C_Growth "has" "Growth.has" s_D f_D d_Growth_has)
 {f_d:Addr} {d_Growth_grow:FuncData} (iM:MtI K C_Growth "grow" "Growth.grow" s_d f_d d_Growth_grow)
 (pg_Growth:W.plainGet K C_Growth Str.empty=true) (hd_Growth:W.hasDictIn K C_Growth=true) (po_Growth:W.plainOver K C_Growth=true) (sa_Growth:W.findIn K (.ref C_Growth) "__setattr__"=some (some (.builtin "object.__setattr__"))) (mk_Growth:W.makesIn K C_Growth=true) (kc_Growth:W.keepIn K (.ref C_Growth)=true) (n_Growth_lines:W.findIn K (.ref C_Growth) "lines"=some none) (n_Growth_places:W.findIn K (.ref C_Growth) "places"=some none) (n_Growth_above:W.findIn K (.ref C_Growth) "above"=some none) (n_Growth_below:W.findIn K (.ref C_Growth) "below"=some none)
 {f_R:Addr} {d_bits_of:FuncData} (i_R:iR K "bits_of" s_R f_R d_bits_of)
 {f_N:Addr} {d_terms_in:FuncData} (i_N:iR K "terms_in" s_N f_N d_terms_in)
 {f_T:Addr} {d_is_whole:FuncData} (i_T:iR K "is_whole" s_T f_T d_is_whole)
 {f_U:Addr} {d_is_below:FuncData} (i_U:iR K "is_below" s_U f_U d_is_below)
 {f_H:Addr} {d_places_of:FuncData} (i_H:iR K "places_of" s_H f_H d_places_of)
 {f_ad:Addr} {d_found:FuncData} (i_ad:iR K "found" j6 f_ad d_found)
 {f_aa:Addr} {d_put_in:FuncData} (i_aa:iR K "put_in" j9 f_aa d_put_in)
 {f_O:Addr} {d_turned:FuncData} (i_O:iR K "turned" s_O f_O d_turned)
 {f_j:Addr} {d_number_by:FuncData} (i_j:iR K "number_by" s_j f_j d_number_by)
 {f_c:Addr} {d_joined_number:FuncData} (i_c:iR K "joined_number" s_c f_c d_joined_number)
 {f_P:Addr} {d_sheet_of:FuncData} (i_P:iR K "sheet_of" s_P f_P d_sheet_of)
 {f_V:Addr} {d_pair_of:FuncData} (i_V:iR K "pair_of" s_V f_V d_pair_of)
 {f_r:Addr} {d_numbered_rule:FuncData} (i_r:iR K "numbered_rule" s_r f_r d_numbered_rule)
 {f_S:Addr} {d_numbered:FuncData} (i_S:iR K "numbered" s_S f_S d_numbered)
 {f_ac:Addr} {d_begin:FuncData} (i_ac:iR K "begin" j7 f_ac d_begin)
 {f_g:Addr} {d_boths_by_part:FuncData} (i_g:iR K "boths_by_part" s_g f_g d_boths_by_part)
 {f_b:Addr} {d_rules_by_premise:FuncData} (i_b:iR K "rules_by_premise" s_b f_b d_rules_by_premise)
 {f_u:Addr} {d_grow_by_turn:FuncData} (i_u:iR K "grow_by_turn" s_u f_u d_grow_by_turn)
 {f_h:Addr} {d_grow_by_chain:FuncData} (i_h:iR K "grow_by_chain" s_h f_h d_grow_by_chain)
 {f_m:Addr} {d_grow_by_both:FuncData} (i_m:iR K "grow_by_both" s_m f_m d_grow_by_both)
 {f_o:Addr} {d_grow_by_clash:FuncData} (i_o:iR K "grow_by_clash" s_o f_o d_grow_by_clash)
 {f_k:Addr} {d_grow_by_rule:FuncData} (i_k:iR K "grow_by_rule" s_k f_k d_grow_by_rule)
 {f_G:Addr} {d_closing:FuncData} (i_G:iR K "closing" s_G f_G d_closing)
 {f_A:Addr} {d_lines_named:FuncData} (i_A:iR K "lines_named" s_A f_A d_lines_named)
 {f_Y:Addr} {d_renamed:FuncData} (i_Y:iR K "renamed" s_Y f_Y d_renamed)
 {f_Q:Addr} {d_line_for:FuncData} (i_Q:iR K "line_for" s_Q f_Q d_line_for)
 {f_W:Addr} {d_hung_on:FuncData} (i_W:iR K "hung_on" s_W f_W d_hung_on)
 {f_ab:Addr} {d_paper:FuncData} (i_ab:iR K "paper" j8 f_ab d_paper)
 {f_Z:Addr} {d_world_of:FuncData} (i_Z:iR K "world_of" s_Z f_Z d_world_of)
 {f_M:Addr} {d_spot_against:FuncData} (i_M:iR K "spot_against" s_M f_M d_spot_against)
 {f_L:Addr} {d_judge_on:FuncData} (i_L:iR K "judge_on" s_L f_L d_judge_on)
 {f_ae:Addr} {d_judge:FuncData} (i_ae:iR K "judge" j5 f_ae d_judge)
 {f_F:Addr} {d_law_draw:FuncData} (i_F:iR K "_law_draw" s_F f_F d_law_draw)
 {f_t:Addr} {d_law_whole:FuncData} (i_t:iR K "_law_whole" s_t f_t d_law_whole)
 {f_l:Addr} {d_law_names:FuncData} (i_l:iR K "_law_names" s_l f_l d_law_names)
 {f_X:Addr} {d_law_row:FuncData} (i_X:iR K "_law_row" s_X f_X d_law_row)
 {f_s:Addr} {d_law_laid:FuncData} (i_s:iR K "_law_laid" s_s f_s d_law_laid)
 {f_E:Addr} {d_law_pair:FuncData} (i_E:iR K "_law_pair" s_E f_E d_law_pair)
 {f_f:Addr} {d_law_all_rows:FuncData} (i_f:iR K "_law_all_rows" s_f f_f d_law_all_rows)
 {f_e:Addr} {d_law_by_numbers:FuncData} (i_e:iR K "_law_by_numbers" s_e f_e d_law_by_numbers)
 {f_n:Addr} {d_law_same_rows:FuncData} (i_n:iR K "_law_same_rows" s_n f_n d_law_same_rows)
 {f_I:Addr} {d_law_ahead:FuncData} (i_I:iR K "_law_ahead" s_I f_I d_law_ahead)
 {f_p:Addr} {d_law_by_rule:FuncData} (i_p:iR K "_law_by_rule" s_p f_p d_law_by_rule)
 {f_i:Addr} {d_law_by_lines:FuncData} (i_i:iR K "_law_by_lines" s_i f_i d_law_by_lines)
 {f_K:Addr} {d_law_line:FuncData} (i_K:iR K "_law_line" s_K f_K d_law_line)
 {f_v:Addr} {d_law_paper:FuncData} (i_v:iR K "_law_paper" s_v f_v d_law_paper)
 {f_z:Addr} {d_law_follows:FuncData} (i_z:iR K "_law_follows" s_z f_z d_law_follows)
 {f_C:Addr} {d_law_copy_of:FuncData} (i_C:iR K "_law_copy_of" s_C f_C d_law_copy_of)
 {f_y:Addr} {d_law_small:FuncData} (i_y:iR K "_law_small" s_y f_y d_law_small)
 {f_x:Addr} {d_law_put_in:FuncData} (i_x:iR K "_law_put_in" s_x f_x d_law_put_in)
 {f_q:Addr} {d_law_by_terms:FuncData} (i_q:iR K "_law_by_terms" s_q f_q d_law_by_terms)
 {f_w:Addr} {d_law_grown:FuncData} (i_w:iR K "_law_grown" s_w f_w d_law_grown)
 {f_J:Addr} {od_J an_J:Option Addr} {sl_J:Array (Option Value)} {oc_J kV_J dc_J pm_J cd_J ct_J:Value} (a_J:W.nsIn K mainGlobals "law"=some (some (.ref f_J))) (l_J:K.lookup f_J=some ⟨oc_J,od_J,.func (W.fnOf "law" "law" (jV bu) (jA bu) (zK bu) .none kV_J dc_J pm_J an_J cd_J ct_J),sl_J⟩) (c_J:W.codeIn K cd_J "law"=true) (k_J:W.keepIn K (.ref f_J)=true)
  (z_enumerate:W.nsIn K mainGlobals "enumerate"=some none)
 {mK:Addr} {d_NONE_ROW:Option Addr} {n_NONE_ROW:Nat} {sl_NONE_ROW:Array (Option Value)} {t_N1:Tok} (g_NONE_ROW:W.nsIn K mainGlobals "NONE_ROW"=some (some (.ref mK))) (o_NONE_ROW:K.lookup mK=some ⟨.type "tuple",d_NONE_ROW,.seq #[.str "none" t_N1] n_NONE_ROW,sl_NONE_ROW⟩)
 {t_MOST_ROWS:Tok} (g_MOST_ROWS:W.nsIn K mainGlobals "MOST_ROWS"=some (some (.int 40 t_MOST_ROWS)))
 (z_all:W.nsIn K mainGlobals "all"=some none)
 (z_bool:W.nsIn K mainGlobals "bool"=some none)
 (z_dict:W.nsIn K mainGlobals "dict"=some none)
 (z_int:W.nsIn K mainGlobals "int"=some none)
 (z_isinstance:W.nsIn K mainGlobals "isinstance"=some none)
 (z_len:W.nsIn K mainGlobals "len"=some none)
 (z_list:W.nsIn K mainGlobals "list"=some none)
 (z_max:W.nsIn K mainGlobals "max"=some none)
 (z_range:W.nsIn K mainGlobals "range"=some none)
 (z_set:W.nsIn K mainGlobals "set"=some none)
 (z_sorted:W.nsIn K mainGlobals "sorted"=some none)
 (z_str:W.nsIn K mainGlobals "str"=some none)
 (z_sum:W.nsIn K mainGlobals "sum"=some none)
 (z_tuple:W.nsIn K mainGlobals "tuple"=some none):
 ∃fd:FuncData,(∀(s:Shared)(v:Value),BindsTo s fd ⟨[v],[]⟩ [("script",v)])/\∀base:Heap,K.In base->base.Ns mainGlobals mg->dG l.prog w K mg base gJ 65 fa fd ["script"] (GF K):=by
 have e:=hfa.symm.trans (aW X G a_J);cases e;have cN:ND K C_Growth:=⟨pg_Growth,hd_Growth,po_Growth,sa_Growth⟩
 have mC_Growth:=aW X G aC_Growth;have F_B:=gF.F;have b_B:=bz F_B ["self","many"];have t_B:FI K C_Growth "__init__" f_B:=⟨gF.a,gF.i,gF.k⟩
 have a_B:=gF.a;have i_B:=gF.i;have F_a:=gO.F;have b_a:=bz F_a ["self","i","j"];have t_a:FI K C_Growth "line_of" f_a:=⟨gO.a,gO.i,gO.k⟩
 have F_D:=lA.F;have b_D:=bz F_D ["self","i","j"];have t_D:FI K C_Growth "has" f_D:=⟨lA.a,lA.i,lA.k⟩
 have F_d:=iM.F;have b_d:=bz F_d ["self","i","j","why"];have t_d:FI K C_Growth "grow" f_d:=⟨iM.a,iM.i,iM.k⟩
 have F_R:=i_R.F;have b_R:=bz F_R ["mask"];have m_R:=aW X G i_R.a;have F_N:=i_N.F;have b_N:=bz F_N ["book","saying"];have m_N:=aW X G i_N.a;have F_T:=i_T.F;have b_T:=bz F_T ["n"];have m_T:=aW X G i_T.a;have F_U:=i_U.F;have b_U:=bz F_U ["n","bound"];have m_U:=aW X G i_U.a;have F_H:=i_H.F;have b_H:=bz F_H ["sheet"];have m_H:=aW X G i_H.a;have F_ad:=i_ad.F;have b_ad:=bz F_ad ["places","row"];have m_ad:=aW X G i_ad.a;have F_aa:=i_aa.F;have b_aa:=bz F_aa ["places","row"];have m_aa:=aW X G i_aa.a;have F_O:=i_O.F;have b_O:=bz F_O ["n","turn"];have m_O:=aW X G i_O.a;have F_j:=i_j.F;have b_j:=bz F_j ["row_number","places","t"];have m_j:=aW X G i_j.a;have F_c:=i_c.F;have b_c:=bz F_c ["row_number","places","t"];have m_c:=aW X G i_c.a;have F_P:=i_P.F;have b_P:=bz F_P ["terms"];have m_P:=aW X G i_P.a;have F_V:=i_V.F;have b_V:=bz F_V ["places","saying"];have m_V:=aW X G i_V.a;have F_r:=i_r.F;have b_r:=bz F_r ["places","rule"];have m_r:=aW X G i_r.a;have F_S:=i_S.F;have b_S:=bz F_S ["sheet","book"];have m_S:=aW X G i_S.a;have F_ac:=i_ac.F;have b_ac:=bz F_ac ["growth","sheet"];have m_ac:=aW X G i_ac.a;have F_g:=i_g.F;have b_g:=bz F_g ["sheet"];have m_g:=aW X G i_g.a;have F_b:=i_b.F;have b_b:=bz F_b ["rules"];have m_b:=aW X G i_b.a;have F_u:=i_u.F;have b_u:=bz F_u ["growth","i","j"];have m_u:=aW X G i_u.a;have F_h:=i_h.F;have b_h:=bz F_h ["growth","i","j"];have m_h:=aW X G i_h.a;have F_m:=i_m.F;have b_m:=bz F_m ["growth","i","boths"];have m_m:=aW X G i_m.a;have F_o:=i_o.F;have b_o:=bz F_o ["growth","i","j"];have m_o:=aW X G i_o.a;have F_k:=i_k.F;have b_k:=bz F_k ["growth","rules","r"];have m_k:=aW X G i_k.a;have F_G:=i_G.F;have b_G:=bz F_G ["sheet","rules"];have m_G:=aW X G i_G.a;have F_A:=i_A.F;have b_A:=bz F_A ["why"];have m_A:=aW X G i_A.a;have F_Y:=i_Y.F;have b_Y:=bz F_Y ["why","places"];have m_Y:=aW X G i_Y.a;have F_Q:=i_Q.F;have b_Q:=bz F_Q ["lines","i","j"];have m_Q:=aW X G i_Q.a;have F_W:=i_W.F;have b_W:=bz F_W ["lines","k"];have m_W:=aW X G i_W.a;have F_ab:=i_ab.F;have b_ab:=bz F_ab ["lines","i","j"];have m_ab:=aW X G i_ab.a;have F_Z:=i_Z.F;have b_Z:=bz F_Z ["sheet","lines"];have m_Z:=aW X G i_Z.a;have F_M:=i_M.F;have b_M:=bz F_M ["world","saying"];have m_M:=aW X G i_M.a;have F_L:=i_L.F;have b_L:=bz F_L ["sheet","book","saying"];have m_L:=aW X G i_L.a;have F_ae:=i_ae.F;have b_ae:=bz F_ae ["book","saying"];have m_ae:=aW X G i_ae.a;have F_F:=i_F.F;have b_F:=bz F_F ["script","k"];have m_F:=aW X G i_F.a;have F_t:=i_t.F;have b_t:=bz F_t ["found_v"];have m_t:=aW X G i_t.a;have F_l:=i_l.F;have b_l:=bz F_l ["script","k","many"];have m_l:=aW X G i_l.a;have F_X:=i_X.F;have b_X:=bz F_X ["rows","row"];have m_X:=aW X G i_X.a;have F_s:=i_s.F;have b_s:=bz F_s ["rows","t"];have m_s:=aW X G i_s.a;have F_E:=i_E.F;have b_E:=bz F_E ["rows","saying"];have m_E:=aW X G i_E.a;have F_f:=i_f.F;have b_f:=bz F_f ["book","saying"];have m_f:=aW X G i_f.a;have F_e:=i_e.F;have b_e:=bz F_e ["rows","book"];have m_e:=aW X G i_e.a;have F_n:=i_n.F;have b_n:=bz F_n ["found_v","due"];have m_n:=aW X G i_n.a;have F_I:=i_I.F;have b_I:=bz F_I ["lines","p","k"];have m_I:=aW X G i_I.a;have F_p:=i_p.F;have b_p:=bz F_p ["rules","lines","k"];have m_p:=aW X G i_p.a;have F_i:=i_i.F;have b_i:=bz F_i ["sheet","lines","k"];have m_i:=aW X G i_i.a;have F_K:=i_K.F;have b_K:=bz F_K ["sheet","rules","lines","k"];have m_K:=aW X G i_K.a;have F_v:=i_v.F;have b_v:=bz F_v ["sheet","rules","lines","pair"];have m_v:=aW X G i_v.a;have F_z:=i_z.F;have b_z:=bz F_z ["answer","book","saying"];have m_z:=aW X G i_z.a;have F_C:=i_C.F;have b_C:=bz F_C ["book"];have m_C:=aW X G i_C.a;have F_y:=i_y.F;have b_y:=bz F_y ["pick","names"];have m_y:=aW X G i_y.a;have F_x:=i_x.F;have b_x:=bz F_x ["book","rule","place"];have m_x:=aW X G i_x.a;have F_q:=i_q.F;have b_q:=bz F_q ["saying","way","u","v"];have m_q:=aW X G i_q.a;have F_w:=i_w.F;have b_w:=bz F_w ["book","saying","cell","names"];have m_w:=aW X G i_w.a;have F_J:=ES (st:=bu) l_J c_J k_J;have b_J:=F_J.binds (ps:=["script"]) (by ac_rfl);have m_J:=aW X G a_J;have bi:Bi mg:=⟨cT X G z_len,cT X G z_range,cT X G z_isinstance,cT X G z_max,cT X G z_sum,cT X G z_all,cT X G z_tuple,cT X G z_list,cT X G z_sorted,cT X G z_set,cT X G z_int,cT X G z_bool,cT X G z_str,cT X G z_dict⟩
 refine⟨W.fnOf "law" "law" (jV bu) (jA bu) (zK bu) .none kV_J dc_J pm_J an_J cd_J ct_J,λs v=>.of_eq rfl,λbase _ _=>?_⟩;have be:mg "enumerate"=none:=cT X G z_enumerate;have T:NL K C_Growth:=⟨cN,n_Growth_lines,n_Growth_places,n_Growth_above,n_Growth_below⟩
 have h0:=zW F_T (AC (P:=l.prog) (w:=w) (base:=base) bi F_T) b_T m_T;have h1:=zW F_U (AD bi h0 F_U) b_U m_U;have h2:=zW F_R (DX (P:=l.prog) (w:=w) (base:=base) bi F_R) b_R m_R;have g0:oq l.prog w K mg base 1 C_Growth "Growth" ["self","many"] (jv C_Growth):=⟨_,_,SF T F_B,b_B,⟨mk_Growth,a_B,i_B,kc_Growth⟩,mC_Growth⟩
 have g1:mW l.prog w K mg base 1 C_Growth "line_of" ["self","i","j"] (CU C_Growth):=⟨_,_,DR T F_a,b_a,t_a⟩
 have g2:mW l.prog w K mg base 1 C_Growth "has" ["self","i","j"] (OM C_Growth):=⟨_,_,lm T F_D,b_D,t_D⟩
 have g3:mW l.prog w K mg base 2 C_Growth "grow" ["self","i","j","why"] (rB C_Growth):=⟨_,_,dm T bi g2 F_d,b_d,t_d⟩
 have c1:=zW F_ac (SK T bi be g3 F_ac) b_ac m_ac;have c2:=zW F_g (SJ (P:=l.prog) (w:=w) (base:=base) bi be F_g) b_g m_g;have c3:=zW F_b (wF (P:=l.prog) (w:=w) (base:=base) bi be F_b) b_b m_b;have c4:=zW F_u (dg T g1 g3 F_u) b_u m_u;have c5:=zW F_h (SI T bi h2 g1 g3 F_h) b_h m_h;have c6:=zW F_m (dr T g1 g2 g3 F_m) b_m m_m;have c7:=zW F_o (SH T bi g1 g3 F_o) b_o m_o;have c8:=zW F_k (dh T bi h1 g1 g2 g3 F_k) b_k m_k;have c9:=zW F_G (DV T bi g0 c2 c3 c1 c4 c5 c6 c7 c8 F_G) b_G m_G;have p1:=zW F_A (XN (P:=l.prog) (w:=w) (base:=base) bi F_A) b_A m_A;have p2:=zW F_Y (DN (P:=l.prog) (w:=w) (base:=base) bi F_Y) b_Y m_Y;have p3:=zW F_Q (AA (P:=l.prog) (w:=w) (base:=base) bi be F_Q) b_Q m_Q;have p4:=zW F_W (DS bi p1 F_W) b_W m_W;have p5:=zW F_ab (RZ bi be p3 p4 p2 F_ab) b_ab m_ab;have gM:Gc mg "MOST_ROWS" (.int 40):=⟨_,aW X G g_MOST_ROWS,⟨_,rfl⟩⟩
 have gN:Gc mg "NONE_ROW" (.ref mK):=⟨_,aW X G g_NONE_ROW,rfl⟩
 have sN:∀H,Tw K H mK [.str "none"]:=λH=>.inr ⟨_,_,_,o_NONE_ROW,rfl,rfl,(by show 1<=sizeLine;decide),.cons ⟨_,rfl⟩ .nil⟩
 have s1:=zW F_aa (LW (P:=l.prog) (w:=w) (base:=base) gM bi F_aa) b_aa m_aa;have s2:=zW F_ad (SG (P:=l.prog) (w:=w) (base:=base) bi F_ad) b_ad m_ad;have s3:=zW F_O (LV (P:=l.prog) (w:=w) (base:=base) bi F_O) b_O m_O;have s4:=wW (s1.at m_aa) s3 F_j b_j m_j F_c b_c m_c 21;have s5:=wW (s2.at m_ad) s3 F_j b_j m_j F_c b_c m_c 21;have s6:=zW F_P (tY gN sN m_aa bi s4 F_P) b_P m_P;have s7:=zW F_H (LX (P:=l.prog) (w:=w) (base:=base) bi be F_H) b_H m_H;have s8:=zW F_V (DP m_ad s5 F_V) b_V m_V;have s9:=zW F_r (kY s8 F_r) b_r m_r;have s10:=zW F_S (tZ bi s7 s9 F_S) b_S m_S;have s11:=zW F_N (tX (P:=l.prog) (w:=w) (base:=base) bi F_N) b_N m_N;have v4:=zW F_Z (SR (P:=l.prog) (w:=w) (base:=base) (k:=2)) b_Z m_Z;have j1:=zW F_M (SR (P:=l.prog) (w:=w) (base:=base) (k:=26)) b_M m_M;have j2:=zW F_L (AB bi c9 s10 s8 s7 p5 v4 j1 F_L) b_L m_L;have j3:=zW F_ae (SD bi j2 s6 s11 F_ae) b_ae m_ae;have w1:=zW F_F (dq (P:=l.prog) (w:=w) (base:=base) bi F_F) b_F m_F;have w2:=zW F_l (SA bi w1 F_l) b_l m_l;have w3:=zW F_y (RY (P:=l.prog) (w:=w) (base:=base) bi F_y) b_y m_y;have w4:=zW F_q (AE (P:=l.prog) (w:=w) (base:=base) F_q) b_q m_q;have w5:=zW F_x (DO (P:=l.prog) (w:=w) (base:=base) bi F_x) b_x m_x;have w6:=zW F_w (SE bi w3 w4 w5 F_w) b_w m_w;have w7:=zW F_X (lh (P:=l.prog) (w:=w) (base:=base) F_X) b_X m_X;have w8:=zW F_s (dk bi w7 F_s b_s m_s 22) b_s m_s;have w9:=zW F_E (di w8 F_E) b_E m_E;have w10:=zW F_f (AG w9 F_f) b_f m_f;have w11:=zW F_t (RX (P:=l.prog) (w:=w) (base:=base) bi F_t) b_t m_t;have w12:=zW F_n (UK bi w11 F_n) b_n m_n;have w13:=zW F_e (JN bi be (HG w9) F_e) b_e m_e;have w14:=zW F_I (SL w11 F_I) b_I m_I;have w15:=zW F_p (DW bi w11 w14 F_p) b_p m_p;have w16:=zW F_i (AF bi w14 F_i) b_i m_i;have w17:=zW F_K (dj bi w11 w15 w16 F_K) b_K m_K;have w18:=zW F_v (LY bi w17 F_v) b_v m_v;have w19:=zW F_z (DT bi w10 w12 w13 (HG w9) w18 F_z) b_z m_z;have w20:=zW F_C (DU (P:=l.prog) (w:=w) (base:=base) bi F_C) b_C m_C;exact ll bi w1 w2 w3 w6 w10 w20 j3 w19 F_J
theorem walk{l:W.OpenLaw}{q:Program}{loose:List Str}{XP:(Str->Option Value)->Heap->Prop}{YP:World->Heap->Prop}{d:DefRec}{K:Params->W.Frag}(hn:l.most=some 63)(hdf:d.params.defaults=[])
 (hY:∀(w:World)(h:Heap),YP w h->(K w.params).In h)
 (F:∀(w:World)(mg:Str->Option Value)(fa:Addr)(h:Heap),(K w.params).In h->h.Ns mainGlobals mg->mg d.name=some (.ref fa)->
  ∃fd:FuncData,(∀(s:Shared)(u:Value),BindsTo s fd ⟨[u],[]⟩ [("script",u)])/\∀base:Heap,(K w.params).In base->base.Ns mainGlobals mg->dG l.prog w (K w.params) mg base gJ 65 fa fd ["script"] (GF (K w.params))):
 W.WalkO q loose XP YP l.row.toRowW d [] (λf vs=>PySem.call f vs):=
 L2.walk_of (n:=63) (k:=65) (x:="script") (CX:=λ_=>gJ) (sp:=λw=>GF (K w.params)) hn () hdf ⟨rfl,(),()⟩ hY F (λ_ _ a ns hl _ hS=>⟨a,ns,rfl,hS,hl,λ_=>rfl⟩) λ_ _ _ _ _ z=>z
end C
open PySem PySem.W PyProof.Rows
set_option maxRecDepth 100000 in
set_option maxHeartbeats 0 in
theorem PySem.Challenge.cw_clashbook_k28_papers_of_the_judge_holds : PySem.Challenge.rw_clashbook_k28_papers_of_the_judge.Holds := by
 w_on;o_law;k_head;(case hw=>w_witness2)
 k_fill
 refine C.walk (l:=PySem.Challenge.rw_clashbook_k28_papers_of_the_judge) rfl rfl (fun w h Y=>PySem.W.kIn_of Y) ?F
 case F=>
  intro w mg fa h KX G hmg;refine' C.all_mk KX G hmg ?_ (C.mQq ?_ ?_ ?_ ?_ ?_) (C.mQq ?_ ?_ ?_ ?_ ?_) (C.mQq ?_ ?_ ?_ ?_ ?_) (C.mQq ?_ ?_ ?_ ?_ ?_) ?_ ?_ ?_ ?_ ?_ ?_ ?_ ?_ ?_ ?_ (C.fQq ?_ ?_ ?_ ?_) (C.fQq ?_ ?_ ?_ ?_) (C.fQq ?_ ?_ ?_ ?_) (C.fQq ?_ ?_ ?_ ?_) (C.fQq ?_ ?_ ?_ ?_) (C.fQq ?_ ?_ ?_ ?_) (C.fQq ?_ ?_ ?_ ?_) (C.fQq ?_ ?_ ?_ ?_) (C.fQq ?_ ?_ ?_ ?_) (C.fQq ?_ ?_ ?_ ?_) (C.fQq ?_ ?_ ?_ ?_) (C.fQq ?_ ?_ ?_ ?_) (C.fQq ?_ ?_ ?_ ?_) (C.fQq ?_ ?_ ?_ ?_) (C.fQq ?_ ?_ ?_ ?_) (C.fQq ?_ ?_ ?_ ?_) (C.fQq ?_ ?_ ?_ ?_) (C.fQq ?_ ?_ ?_ ?_) (C.fQq ?_ ?_ ?_ ?_) (C.fQq ?_ ?_ ?_ ?_) (C.fQq ?_ ?_ ?_ ?_) (C.fQq ?_ ?_ ?_ ?_) (C.fQq ?_ ?_ ?_ ?_) (C.fQq ?_ ?_ ?_ ?_) (C.fQq ?_ ?_ ?_ ?_) (C.fQq ?_ ?_ ?_ ?_) (C.fQq ?_ ?_ ?_ ?_) (C.fQq ?_ ?_ ?_ ?_) (C.fQq ?_ ?_ ?_ ?_) (C.fQq ?_ ?_ ?_ ?_) (C.fQq ?_ ?_ ?_ ?_) (C.fQq ?_ ?_ ?_ ?_) (C.fQq ?_ ?_ ?_ ?_) (C.fQq ?_ ?_ ?_ ?_) (C.fQq ?_ ?_ ?_ ?_) (C.fQq ?_ ?_ ?_ ?_) (C.fQq ?_ ?_ ?_ ?_) (C.fQq ?_ ?_ ?_ ?_) (C.fQq ?_ ?_ ?_ ?_) (C.fQq ?_ ?_ ?_ ?_) (C.fQq ?_ ?_ ?_ ?_) (C.fQq ?_ ?_ ?_ ?_) (C.fQq ?_ ?_ ?_ ?_) (C.fQq ?_ ?_ ?_ ?_) (C.fQq ?_ ?_ ?_ ?_) (C.fQq ?_ ?_ ?_ ?_) (C.fQq ?_ ?_ ?_ ?_) (C.fQq ?_ ?_ ?_ ?_) (C.fQq ?_ ?_ ?_ ?_) (C.fQq ?_ ?_ ?_ ?_) (C.fQq ?_ ?_ ?_ ?_) (C.fQq ?_ ?_ ?_ ?_) ?_ ?_ ?_ ?_ ?_ ?_ ?_ ?_ ?_ ?_ ?_ ?_ ?_ ?_ ?_ ?_ ?_ ?_ ?_ ?_ ?_ ?_
  all_goals try k_is
