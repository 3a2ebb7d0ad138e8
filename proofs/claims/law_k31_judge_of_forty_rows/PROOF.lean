import PyProof.Rows.All
import Wide.All
import OpenK.AllK
import Wide.FinOn
import PySem.Challenge.RW_clashbook_k31_judge_of_forty_rows
set_option maxHeartbeats 4000000
set_option compiler.extract_closed false
set_option bootstrap.genMatcherCode false
set_option genSizeOf false
noncomputable section
theorem a1(h:True:=by rfl):True:=h
theorem a2(h:True:=by decide):True:=h
namespace PySem.W.Fast
variable(x:Prop)
def tw13506978653832747134:=x
def tw9962799276535767021:=x
def tw8090165627751555900:=x
def tw16659213463109369647:=x
def tw11634908984410634850:=x
def tw6786846919807148392:=x
def tw17731630005498781801:=x
def tw13167936269452241108:=x
def tw17281706167821441657:=x
def tw17935683326853640759:=x
def tw14013118972776223443:=x
def tw2134966388042460593:=x
def tw6277425141826929011:=x
def tw231838382755049363:=x
def tw475418488372338308:=x
def tw15406470008419323604:=x
def tw13503257231282350152:=x
def tw12751045478414151238:=x
def tw3912690249312963141:=x
def tw10879645979240298568:=x
def tw7221392827666942703:=x
def tw2048364454575847422:=x
def tw5668885908884339922:=x
def tw13891831151115793307:=x
def tw1042212806734455054:=x
def tw15839419509585782764:=x
def tw11179128212839556342:=x
def tw8488495535631164148:=x
def tw12012014821867443261:=x
def tw16983475902143848172:=x
def tw7916578169964710221:=x
def tw3718543508051657592:=x
def tw18079004532811247914:=x
def tw13422663046192469996:=x
def tw5263543309567203764:=x
def tw8625019957640154983:=x
def tw2759699838712536083:=x
def tw18278219776800950155:=x
def tw13679446445384502153:=x
def tw8219577778374413172:=x
def tw39107617900453078:=x
def tw7542667253760998652:=x
def tw11405416148680517090:=x
def tw6514717112580440259:=x
def tw5851879637733358049:=x
def tw4969847404586997298:=x
def tw3712201127929323572:=x
def tw15966159751081124486:=x
def tw13242311892889104504:=x
def tw1869845784854245935:=x
def tw12377281619348359205:=x
def tw5943792339382896543:=x
def tw3377606827033649900:=x
def tw10666295580610579741:=x
def tw12494638586422828288:=x
def tw6593774958183563921:=x
def tw2180006896459542519:=x
def tw5059955690239267463:=x
def tw16291142592498479944:=x
def tw177885704565477758:=x
def tw2560382310270977193:=x
def tw16338567865450627437:=x
def tw5013076556749863197:=x
def tw16238651847712711163:=x
def tw16614873028099859587:=x
def tw16443215031157324721:=x
def tw4552115073661909689:=x
def tw15533340108437329543:=x
def tw17954779769294346508:=x
def tw13467263832359443839:=x
def tw16868817879162508166:=x
def tw8479944086415751105:=x
def tw2978282188612397922:=x
def tw13316793404061367196:=x
def tw2459697992965113213:=x
def tw11291259582912367437:=x
def tw1298672518240126085:=x
def tw8867644674856575872:=x
def tw7767868661004690187:=x
def tw1142018278888736760:=x
def tw55844698024858044:=x
def tw6101612515118961935:=x
def tw2317906413496793154:=x
def tw9400869710048347564:=x
def tw15154232017891059480:=x
def tw10816485389013181708:=x
def tw6107480889722651355:=x
def tw10055667665635492724:=x
def tw13457938278319887741:=x
def tw2960897093628435614:=x
def tw12783896196152043163:=x
def tw17707955413291876684:=x
def tw2564914832942362289:=x
def tw12666993621095044912:=x
def tw1198564090518312416:=x
def tw5266406267534511273:=x
def tw2247873206595618260:=x
def tw2343896656772513773:=x
def tw17225673478424045185:=x
def tw181277609454218588:=x
def tw8811691309697571144:=x
def tw11172454161200306072:=x
def tw16944552356606969520:=x
def tw11777056757596691221:=x
def tw16298230292577800029:=x
def tw805353062647410914:=x
def tw12006219786612179937:=x
def tw9042837583173334235:=x
def tw11733769036755092203:=x
def tw4504140536247024741:=x
def tw14659786265144032016:=x
def tw110958447378924451:=x
def tw17193710606841001101:=x
def tw7340257084237170163:=x
def tw84124338966516593:=x
def tw12384951990148319070:=x
def tw4915257244412649979:=x
def tw5475243407826320146:=x
def tw11022946084496293047:=x
def tw13449382151617608869:=x
def tw11446536367181241630:=x
def tw5514364277997656536:=x
def tw12991830325390468812:=x
def tw570796174454945593:=x
def tw11785822862522695177:=x
def tw4049523212447031873:=x
def tw9739540841403889291:=x
def tw645213945027502062:=x
def tw6926910172133241442:=x
def tw14988987077820917873:=x
def tw3883189032781225927:=x
def tw11417990949181238109:=x
def tw17340265202320968600:=x
def tw14240430856325968203:=x
def tw1804001992399255384:=x
def tw2682956538195257178:=x
def tw18099014893544729293:=x
def tw17278837304238706383:=x
def tw17679787048016364710:=x
def tw6213695517986850643:=x
def tw8074896438089973621:=x
def tw13080533434959790244:=x
def tw4009915084925057580:=x
def tw4039809468980622321:=x
def tw4328389440450813747:=x
def tw3604654344479559929:=x
def tw4172337946495351879:=x
def tw1534570360869851526:=x
def tw1656648084884933721:=x
def tw4347339026624358418:=x
def tw15788476608571474093:=x
def tw9897932642873014359:=x
def tw5208609329310035981:=x
def tw1247134600592282940:=x
def tw13001087888332162585:=x
def tw5276841600682614110:=x
def tw7359383168641385262:=x
def tw11676102433925838544:=x
def tw15746488160044517925:=x
def tw16970909228802213299:=x
def tw9932519855821979681:=x
def tw9140980552417007702:=x
def tw12640283096536458914:=x
def tw3602853393571713930:=x
def tw11777996352744790485:=x
def tw1061186760927978896:=x
def tw14160448750999118283:=x
def tw4869463948491000834:=x
def tw3170768857904098860:=x
def tw10504696463071547352:=x
def tw13186548914808303918:=x
def tw14607705526933142002:=x
def tw4016107445596739420:=x
def tw17000327373099826297:=x
def tw6504214107778375460:=x
def tw14528561193331134573:=x
def tw9900586294009353836:=x
def tw15275528262208681835:=x
def tw13147108496506901446:=x
def tw2923578277411426785:=x
def tw16482266032939444243:=x
def tw3751023661602420989:=x
def tw8171954070831691045:=x
def tw581869393245355376:=x
def tw6223594644003219054:=x
def tw16086549292631002767:=x
def tw11935677951860909738:=x
def tw18039142474655190007:=x
def tw15347053043305679507:=x
def tw4258937533776774797:=x
def tw12601459802428229289:=x
def tw12959288547809340275:=x
def tw8815934261762063941:=x
def tw7227298002503177667:=x
def tw11995980152015114528:=x
def tw11786989352421588228:=x
def tw14604857449806221469:=x
def tw14699924564220024192:=x
def tw10499438733728872836:=x
def tw8462309329084402764:=x
def tw9213373203060298883:=x
def tw7666380387714766297:=x
def tw15082831410611704089:=x
def tw12404328786978140280:=x
def tw11292874433763639591:=x
def tw780100122043754247:=x
def tw5809045991954797097:=x
def tw1790348064439778054:=x
def tw6515450569420879065:=x
def tw349055900386713043:=x
def tw16652342455859258069:=x
def tw10580215083012753228:=x
def tw3535293529894816157:=x
def tw17938213893077575523:=x
def tw15528674661235293300:=x
def tw481254063821913784:=x
def tw1493496472738392128:=x
def tw9405441345895024916:=x
def tw12886989914833184706:=x
def tw17962128560560438326:=x
def tw1563441522658887232:=x
def tw6816840816092489152:=x
def tw2296447902810453810:=x
def tw16313505680807029323:=x
def tw16301791001174024972:=x
def tw12533553435653813574:=x
def tw10550829394412484950:=x
def tw9075341880852400326:=x
def tw3607517763403540619:=x
def tw15920614492049335309:=x
def tw13182614734545085328:=x
def tw16017386296474419573:=x
def tw10386873896976579014:=x
def tw11235264518536125745:=x
def tw8852553239001943743:=x
def tw11396762464779730613:=x
def tw6023547319494064334:=x
def tw4830687916758083369:=x
def tw15632257186309859515:=x
def tw3646572374012010950:=x
def tw971694241181013597:=x
def tw15182890436909084955:=x
def tw6196152154808563552:=x
def tw15437936738073082016:=x
def tw11027514962924123284:=x
def tw14103049395990726881:=x
def tw11515185190920409024:=x
def tw14683888159010789321:=x
def tw14234481788391505873:=x
def tw10174628849569725633:=x
def tw15497781989048516693:=x
def tw2023730689115483107:=x
def tw1588654617694056032:=x
def tw16698524537626516148:=x
def tw710688892028622058:=x
def tw3619528029084018169:=x
def tw16406200561310833887:=x
def tw18135892338718806661:=x
def tw6731707932175646797:=x
def tw4799833699048621247:=x
def tw9663846506029649243:=x
def tw9222926253632812442:=x
def tw8327635351789188911:=x
def tw8246924462035315358:=x
def tw6818655898696091719:=x
def tw31299402945201169:=x
def tw17380038048488876010:=x
def tw1347422634815195360:=x
def tw8630865356917678486:=x
def tw7273203800241984590:=x
def tw6716483714636949744:=x
def tw8910230784899775082:=x
def tw9157055516180796868:=x
def tw15789115602605845803:=x
def tw10480267440659166074:=x
def tw9243372439408164908:=x
def tw8295440253036561801:=x
def tw7539305627596901720:=x
def tw4849364169331299128:=x
def tw1883632066973071800:=x
def tw16983846157855034301:=x
def tw13251043159074766444:=x
def tw15684727743178787589:=x
def tw11097731352774918112:=x
def tw8616008193731027976:=x
def tw7431351674774254335:=x
def tw4150412562140873085:=x
def tw2703775107203876598:=x
def tw18332767068281365435:=x
def tw16668931319601233318:=x
def tw16546751061457193742:=x
def tw16472492495172591793:=x
def tw16065152608219710814:=x
def tw12221914388132288379:=x
def tw10783593761920327539:=x
def tw5840641263539667089:=x
def tw9433598585861086663:=x
def tw9314765730144627809:=x
def tw9254207099260067332:=x
def tw9204518065760191641:=x
def tw8672859436433974232:=x
def tw8510722971385577757:=x
def tw8183301697273326542:=x
def tw816599778428258807:=x
def tw6055723479934079265:=x
def tw5167713768596729656:=x
def tw5108222993655632907:=x
def tw5005798980078951644:=x
def tw4955820146990699624:=x
def tw4165107330248324128:=x
def tw4070525406704212681:=x
def tw2678398395590186332:=x
def tw18086566358847718874:=x
def tw17598310982612912748:=x
def tw17445660948436797399:=x
def tw17045253794453275438:=x
def tw16932000347875488856:=x
def tw16876001420855459694:=x
def tw16690684442652369889:=x
def tw16399001550888670304:=x
def tw16132090417689653897:=x
def tw15670221287693668510:=x
def tw15496792677198459816:=x
def tw14227427625423745305:=x
def tw14035473006590450695:=x
def tw13864868160401449231:=x
def tw12820986251418219647:=x
def tw12530630164742126700:=x
def tw12504142740581509328:=x
def tw12377916415244225037:=x
def tw12269968996062759625:=x
def tw12260137703061010774:=x
def tw12018080233367750879:=x
def tw11776153809075571985:=x
def tw11623873375309568727:=x
def tw115857688337187213:=x
def tw11159125557956570477:=x
def tw11059044921908003234:=x
def tw10612458663071912950:=x
def tw1037286287768331882:=x
def tw15460206372893674195:=x
def tw9149646870213334333:=x
def tw2960057760028441354:=x
def tw11124466283628984794:=x
def tw2904508235197811751:=x
def tw18400796234063997421:=x
def tw1569950666012544183:=x
def tw9023574693680312152:=x
def tw14596957096326549301:=x
def tw5985448426877233961:=x
def tw5470442467684986963:=x
def tw214658450847557114:=x
def tw18049820172161790544:=x
def tw15928118519111556612:=x
def tw1029092469757071123:=x
def tw6970482456169835015:=x
def tw18230427027783504812:=x
def tw12511250670550279459:=x
def tw11235529626985078189:=x
def tw8846747143624610868:=x
def tw7574877352440589041:=x
def tw12502005458664595510:=x
def tw11710052261807180481:=x
def tw10036588362331617706:=x
def tw811160826661820295:=x
def tw832619977468910218:=x
def tw5294615632337275171:=x
def tw4249237453925090768:=x
def tw2041334861399020959:=x
def tw16253304499823069053:=x
def tw11181686544777047518:=x
def tw10171162756586457136:=x
def tw4613682033054198906:=x
def tw458968618595472864:=x
def tw16674262728378050001:=x
def tw305628754093652502:=x
def tw2963786200713947506:=x
def tw2591543374280181099:=x
def tw16463972389853432765:=x
def tw15744747067558674859:=x
def tw14130763660003923025:=x
def tw11251787902792319109:=x
def tw10782980100902872832:=x
def tw9331567556344708960:=x
def tw8671025128601931407:=x
def tw17034075556759365679:=x
def tw16798930969101704045:=x
def tw12063180207529736013:=x
def tw5597538422050109627:=x
def tw7269549397530910875:=x
def tw5675486643361799646:=x
def tw4679494246639687122:=x
def tw2248504210915446750:=x
def tw8092351109756435169:=x
def tw7269354694689928079:=x
def tw4714493190583743841:=x
def tw3857512697706360719:=x
def tw1418793118881067073:=x
def tw18423891118974322455:=x
def tw16202797345618138376:=x
def tw11601089278940608738:=x
def tw10708977656795457196:=x
def tw800974825381679103:=x
def tw6952163081291183086:=x
def tw2135918911744474027:=x
def tw17024410027403604720:=x
def tw14353805126820509491:=x
def tw9479152261275298372:=x
def tw9340644855752388629:=x
def tw9163079726012000658:=x
def tw8819285068787240365:=x
def tw8767718847527084914:=x
def tw8578231972238014005:=x
def tw8395396037217345898:=x
def tw8289780815546725999:=x
def tw8149599158654779299:=x
def tw8144772458984151019:=x
def tw7885092247065659353:=x
def tw7844509317912805051:=x
def tw773844120208379850:=x
def tw7694178615337133590:=x
def tw7580007266641068953:=x
def tw7421435589869423574:=x
def tw7350353393085912649:=x
def tw7261746901102844517:=x
def tw7174131546191475368:=x
def tw7135867871951539378:=x
def tw6958552071176130196:=x
def tw6933303113553095435:=x
def tw6864829587019789047:=x
def tw6855465169724115618:=x
def tw682698170559535039:=x
def tw6813242866103014181:=x
def tw6799261992127284118:=x
def tw669466504808081005:=x
def tw6671992720218603279:=x
def tw6664179974738412074:=x
def tw6425637224636890954:=x
def tw6258052448828628253:=x
def tw6181770018157002840:=x
def tw6166296970127214621:=x
def tw6033137669728397619:=x
def tw5933983022934375117:=x
def tw5743170230527980415:=x
def tw5670852942413098046:=x
def tw5187603820186905055:=x
def tw5068158680765473919:=x
def tw4985460108919507700:=x
def tw4674908109234197499:=x
def tw4604254262759988332:=x
def tw4580473110224265798:=x
def tw4571209804199699291:=x
def tw4532473961640842942:=x
def tw4503757761977663997:=x
def tw4268953503321106279:=x
def tw4248596525485010989:=x
def tw4172563975075283883:=x
def tw4116016616591308990:=x
def tw4112513815695420330:=x
def tw3929538918265282095:=x
def tw3910801372434266832:=x
def tw3813368643773809678:=x
def tw3592907857876814541:=x
def tw3535349636371233082:=x
def tw3068702335815397673:=x
def tw3025091745534464961:=x
def tw300834153373106694:=x
def tw272294176382251065:=x
def tw2573497705367758757:=x
def tw2506268882446932523:=x
def tw2486188432396544920:=x
def tw2236712280764992510:=x
def tw2086557886643530776:=x
def tw2010733087864293521:=x
def tw1948961036627841872:=x
def tw1873305663821432144:=x
def tw1868686518476362755:=x
def tw18127048295371511478:=x
def tw18077075883781499141:=x
def tw18012614180788520469:=x
def tw17984646157202566084:=x
def tw17941986343823566625:=x
def tw17792330603442296504:=x
def tw17744677709890573944:=x
def tw17422867945085346776:=x
def tw17367093927840097142:=x
def tw17259087307598118928:=x
def tw1725803925775902726:=x
def tw17227522533321514534:=x
def tw17194078925907664059:=x
def tw16941024459625248856:=x
def tw16839513394359746547:=x
def tw16658993848436249385:=x
def tw16596609280716994848:=x
def tw16582457443567646945:=x
def tw16036773903149274988:=x
def tw16005275713690831762:=x
def tw1579815609805723858:=x
def tw1540284098025943812:=x
def tw15329773210812509527:=x
def tw15254829535474638052:=x
def tw15041303387565713061:=x
def tw1478886182306979375:=x
def tw14605675283656480113:=x
def tw14556018648748984870:=x
def tw14489823519440650954:=x
def tw14482827216176620118:=x
def tw14429100618693039938:=x
def tw14384172809596760817:=x
def tw14273225412620859190:=x
def tw14172866616178279140:=x
def tw14133885690064750147:=x
def tw14128212267964972486:=x
def tw14076244492946735976:=x
def tw14044454474261060728:=x
def tw13865886201442955647:=x
def tw13549415346357803610:=x
def tw13401345555335795295:=x
def tw1328984550723188017:=x
def tw13247322586165293698:=x
def tw13229767440870229638:=x
def tw13218960246299059248:=x
def tw12917172233241172723:=x
def tw12664747086303752910:=x
def tw12558555382291899752:=x
def tw12430559074315139175:=x
def tw12389304285702753193:=x
def tw12357913912726772152:=x
def tw12287869603238553382:=x
def tw12261186569807653192:=x
def tw12258457108770842237:=x
def tw1216426038931372995:=x
def tw11830418327896683994:=x
def tw11772015439140071183:=x
def tw11718894599510168021:=x
def tw11714698877623125072:=x
def tw11699385625233780266:=x
def tw11596211035021880239:=x
def tw1157763820840568952:=x
def tw11539803077202388328:=x
def tw11389260863623864841:=x
def tw11373663696162122695:=x
def tw11348201553917149049:=x
def tw11318220361704898304:=x
def tw11184573580890550086:=x
def tw11089178113725882669:=x
def tw11039784906571570155:=x
def tw10956683082747314622:=x
def tw10280813634942804344:=x
def tw10162845849405590893:=x
end PySem.W.Fast
set_option genSizeOfSpec false
set_option Elab.async false
set_option linter.all false
set_option maxRecDepth 100000
abbrev aH:=@if_neg
abbrev aO:=@if_pos
abbrev bS:=@decide_eq_true_eq
abbrev cA:=@beq_eq_false_iff_ne
abbrev cI:=@beq_iff_eq
abbrev cJ:=@decide_eq_false
abbrev cP:=@decide_eq_true
abbrev cQ:=@congrArg
abbrev dE:=@beq_self_eq_true
open Array renaming length_toList->dQ,getElem?_toList->hZ,getD_eq_getD_getElem?->oT,toArray_toList->rS,append_assoc->DD,getElem?_eq_none_iff->fu,getElem?_eq_getElem->jg
open Bool renaming false_ne_true->aY,and_eq_true->bU,eq_iff_iff->bZ,eq_false_iff->dH,false_and->fI,or_eq_true->lH,false_eq_true->lN,and_false->mH,true_and->pM,or_false->sZ,false_or->tD,and_true->tE,true_or->GS,not_eq_true'->GU
open Classical renaming byContradiction->pE
open Int renaming toNat_natCast->bM,eq_ofNat_of_zero_le->dW,emod_nonneg->oG,toNat_of_nonneg->sR,emod_lt_of_pos->DC,zero_add->GQ
open List renaming getElem?_eq_getElem->aA,getElem?_eq_some_iff->aC,length_map->aD,getElem?_map->aF,take_succ_eq_append_getElem->aJ,length_append->aK,size_toArray->aM,mem_of_getElem?->aP,map_append->aQ,take_of_length_le->aR,getD_eq_getElem?_getD->aU,mem_singleton->aV,mem_cons_self->aW,mem_cons_of_mem->aX,mem_append_right->bB,length_cons->bC,getElem?_append_left->bE,mem_map->bF,lookup_cons->bG,length_take->bH,getElem?_append_right->bI,mem_cons->bJ,mem_range->bN,map_cons->bV,getElem_mem->bW,length_singleton->cC,mem_append->cD,append_nil->cE,all_eq_true->cF,mem_append_left->cG,length_range->cH,pairwise_iff_getElem->cL,mem_filter->cN,getElem_of_mem->cS,length_drop->cZ,append_assoc->dA,getElem_toArray->dD,pairwise_lt_range->dF,range_succ->dL,mem_flatMap->dP,take_append_drop->dR,map_map->dU,getElem?_set_ne->dZ,filter_append->eA,length_filter_le->eK,getElem?_take_of_lt->eL,find?_cons->eN,mem_of_mem_take->eS,findIdx?_eq_some_iff_getElem->eV,getElem?_set_self->eX,not_mem_nil->fC,any_eq_true->fD,mem_of_mem_drop->fG,length_eq_zero_iff->fM,replicate_succ->fN,flatMap_append->fO,getElem_map->fU,length_replicate->fW,nodup_cons->fZ,mem_filterMap->gQ,all_map->gR,length_set->gW,length_nil->gX,any_cons->hG,getElem?_of_mem->iM,getElem_inj->iQ,filter_cons->iR,mem_or_eq_of_mem_set->iT,drop_eq_getElem_cons->iU,pairwise_map->mE,nodup_append->mF,flatten_cons->mG,replicate_succ'->nW,map_congr_left->oI,getElem?_range->oJ,filterMap_cons->oK,getElem?_cons_zero->pT,map_nil->rA,length_pos_of_mem->rB,drop_zero->rR,map_take->sW,map_drop->sX,getElem_range->DA,filterMap_map->DB,map_set->GO,getElem_take->GP,of_mem_zip->WN,nodup_nil->fq,rel_of_pairwise_cons->jc,getElem?_zip_eq_some->jd,getElem?_eq_none_iff->jf
open List.Pairwise renaming filter->fH
open List.Perm renaming refl->oY
open List.cons renaming inj->sY,injEq->WO
open Nat renaming le_refl->aG,ne_of_lt->bL,lt_of_lt_of_le->bQ,le_trans->bT,zero_le->cO,lt_irrefl->dO,lt_of_le_of_lt->fA,testBit_div_two->gI,sub_self->gO,lt_or_eq_of_le->gP,lt_succ_of_lt->iE,testBit_zero->iP,testBit_two_pow->iW,testBit_and->lG,le_of_lt_succ->mD,le_succ->nT,eq_of_testBit_eq->nU,testBit_two_pow_sub_one->oS,lt_succ_self->pS,zero_add->pY,le_of_lt->pZ,testBit_or->rQ,lt_or_gt_of_ne->CZ,ne_of_gt->GN,two_pow_pos->WM,not_lt->fk,mul_le_mul->fm,ge_two_pow_of_testBit->jb
open Nat.succ renaming inj->mC
open Ne renaming symm->bX
open Option renaming map_eq_some_iff->aL,bind_eq_some_iff->cU,isSome_map->mB,map_eq_none_iff->pX
open Option.some renaming inj->bY,injEq->pG
open PyProof.Rows renaming callWith_type1->dS,slot_tuple_getitem->dX
open PySem renaming wpAny_bind->aE,wpAny_pure->aS,mem_of_lookup->dC,wpAny_holding->dI,sizeLine_eq->dJ,wpAny_newObj_type->dY,tupleKind_room_in1->eF,wpAny_mono->eM,wpAny_Call_Name_kw->eW,wpAny_truthy_bool->eZ,wpAny_call_entry->gU,wpAny_typeNameOfWhole_keyiter->iD,wpAny_passesOwn->iL,wpAny_typeOf->lL,wpAny_typeNameOf_keyiter->lZ,wpAny_execs_nil->mL,wpAny_callSpecial?_slot->mU,wpAny_dictEntries->nM,codeAny_mono->nO,wpAny_notOrdered_dict->oH,codeAny_builtin->pC,wpAny_pyIter_list->rE,atKey_none_of_get->rF,wpAny_comprehension_free->rL,wpAny_attempt->rM,wpAny_pyNext_list_item->sK,call_meetsIn->sL,call_meets->sM,wpAny_pyNext_list_end->CW,storedH_new->GJ,codeAny_call_builtin->GL,wpAny_standAt->NN,plainId_quiet->NO,wpAny_rule->WJ,builtinLookup_eq_fast->WY,wpAny_assign_Name->fg,wpAny_Call_method->fh
open PySem.Around renaming under_plainId->oZ
open PySem.AutoSeq1 renaming wpAny_loadPart'->NF
open PySem.Calls renaming spliced_cons->fL,callWith_builtin->iF,spliced_nil->iV,evalArgs_plain->lE
open PySem.F renaming plainAttrs_list->cM,type_list_append->dM,slot_list_append->dN,slot_dict_keyiterator_next->eQ,slot_list_extend->gC,slot_list_getattribute->gJ,slot_dict_get->hV,type_list_extend->lD,plainAttrs_dict->pR,entry_dict_get->pW,args_dict_keyiterator_next_1->sQ,entry_dict_keyiterator_next->sV,slot_dict_setdefault->WK,kt_typeCall_dict_1->fj,slot_dict_getitem->ja
open PySem.Heap renaming get?_push_of_some->aT,lt_size->bA,get?_push_size->bR,size_push->nX,get?_update_other->nY,get?_update_self->oM,get?_push_ne->rG,get?_none_of_le->GR
open PySem.Heap.SameBut renaming update->lQ
open PySem.Obj renaming data_mapFields->WL
open PySem.Paired renaming length->eY
open PySem.PassesOwn renaming never->bO
open PySem.W renaming mg_of->cK,mg_none_of->cR,kia_one->eD,callWith_K->lM,looks_findIn->nQ,plainGet_of->sO,hideAll_get->sP
open Sum.inr renaming inj->pF
open Lean in
local macro_rules|`(tactic|let $d:letDecl)=>do
 let n:=Syntax.node .none;let e:=d.raw[0];let q x:= `Lean.Parser.Tactic++x;if e.getKind== `Lean.Parser.Term.letPatDecl then
  let p:TSyntax `rcasesPat:=⟨e[0].rewriteBottomUp λs=>if s.getKind== `Lean.Parser.Term.anonymousCtor then n (q `rcasesPat.tuple) #[s[0],n `null (s[1].getArgs.map λx=>if x.isAtom then x else n (q `rcasesPatLo) #[n (q `rcasesPatMed) #[n `null #[if x.isIdent then n (q `rcasesPat.one) #[x] else x]],n `null #[]]),s[2]] else if s.getKind== `Lean.Parser.Term.hole then n (q `rcasesPat.ignore) #[s[0]] else s⟩
  let v:Term:=⟨e[4]⟩
  `(tactic|obtain $p:rcasesPat:=$v)
 else `(tactic|have $d:letDecl)
local macro_rules | `(#[$xs,*]) => `(⟨$xs,*⟩)
local macro_rules | `(tactic| calc $e:term) => `(tactic| refine $e)
namespace L2
open PySem PySem.Spec PyProof.Rows
variable {a b f it:Addr} {A:Around} {CX:WX} {op:CmpOp} {X:Cx} {D:CQ} {e iter o tg:Expr} {fd:FuncData} {base h h':Heap} {H H':Hp} {aI:List (Addr×Obj)} {kw:List (Str×Value)} {ch fp:List Addr} {outer:List Env} {es:List Expr} {body:List Stmt} {N ns ps:List Str} {vs xs:List V} {its us:List Value} {M:Model} {i j n t':Nat} {lP pos':Pos} {P prog:Program} {K:W.Frag} {R:Result->Shared->Prop} {s s':Shared} {sp:Sp} {σ:St} {st:Stmt} {qual:Str} {mA mg:Str->Option Value} {T:String} {ta te:TE} {wi:TI} {tb:TS} {α:Type} {v y:V} {cd u:Value} {E Q:Value->Shared->Prop} {w:World}
local macro_rules | `(()) => `(by lia)
abbrev eR:=Sum Int Str
noncomputable def XB:eR->Value->Bool
 | .inl k,v=>Value.isInt k v
 | .inr x,v=>Value.isStrOf x v
noncomputable def keyH(w:World):eR->Int
 | .inl k=>hashInt k
 | .inr x=>hashStr w x
theorem yL:∀{k:eR}{v:Value},XB k v=true->(∃i t,k=Sum.inl i/\v=Value.int i t)\/(∃x t,k=Sum.inr x/\v=Value.str x t)
 | .inl i,v,h=>by
   let⟨t,e⟩:=Value.isInt_shape (k:=i) (v:=v) h;exact .inl #[i,t,rfl,e]
 | .inr x,v,h=>by
   let⟨t,e⟩:=Value.isStrOf_shape (x:=x) (v:=v) h;exact .inr #[x,t,rfl,e]
theorem MJ(i:Int)(t:Tok):XB (.inl i) (.int i t)=true:=by simp[XB,Value.isInt]
theorem MI(x:Str)(t:Tok):XB (.inr x) (.str x t)=true:=by simp[XB,Value.isStrOf]
theorem m5(a b:Int):decide ((Sum.inl a:eR)=Sum.inl b)=(a==b):=by
 by_cases e:a=b
 ·subst e;simp
 ·let h:¬(Sum.inl a:eR)=Sum.inl b:=λq=>e<|Sum.inl.inj q
  rw[cJ h];exact(cA.mpr e).symm
theorem mw(a b:Str):decide ((Sum.inr a:eR)=Sum.inr b)=decide (a=b):=by
 by_cases e:a=b
 ·subst e;simp
 ·let h:¬(Sum.inr a:eR)=Sum.inr b:=λq=>e<|pF q
  rw[cJ h,cJ e]
theorem my(a:Int)(b:Str):decide ((Sum.inl a:eR)=Sum.inr b)=false:=cJ λq=>nomatch q
theorem mx(a:Str)(b:Int):decide ((Sum.inr a:eR)=Sum.inl b)=false:=cJ λq=>nomatch q
noncomputable def zT(prog:Program)(w:World):PySem.KeyKind prog w eR where
 is:=XB
 hash:=keyH w
 inj:=λv a b ha hb=>by
  rcases yL ha with⟨i,t,rfl,rfl⟩ |⟨x,t,rfl,rfl⟩
  ·rcases yL hb with⟨j,u,rfl,e⟩ |⟨y,u,rfl,e⟩
   ·injection e with e1 _;rw[e1]
   ·exact nomatch e
  ·rcases yL hb with⟨j,u,rfl,e⟩ |⟨y,u,rfl,e⟩
   ·exact nomatch e
   ·injection e with e1 _;rw[e1]
 byValue:=λk v h=>by
  rcases yL h with⟨i,t,rfl,rfl⟩ |⟨x,t,rfl,rfl⟩<;>rfl
 pyHash:=λhv h=>by
  rcases yL hv with⟨i,t,rfl,rfl⟩ |⟨x,t,rfl,rfl⟩
  ·exact wpAny_pyHash_int h
  ·exact wpAny_pyHash_str h
 eqBool:=λhu hv h=>by
  rcases yL hu with⟨i,t,rfl,rfl⟩ |⟨x,t,rfl,rfl⟩
  ·rcases yL hv with⟨j,u,rfl,rfl⟩ |⟨y,u,rfl,rfl⟩
   ·rw[m5]at h;exact wpAny_eqBool_int h
   ·rw[my]at h;exact SeqAt.EqAt.int_str i t y u _ _ _ _ h
  ·rcases yL hv with⟨j,u,rfl,rfl⟩ |⟨y,u,rfl,rfl⟩
   ·rw[mx]at h;exact SeqAt.EqAt.str_int x t j u _ _ _ _ h
   ·rw[mw]at h;exact wpAny_eqBool_str h
 «strs»:=λk x t v h=>by
  rcases yL h with⟨i,u,rfl,e⟩ |⟨y,u,rfl,e⟩
  ·exact nomatch e
  ·injection e with e1 _
   subst e1;cases v<;>rfl
theorem BK(prog:Program)(w:World)(i:Int)(t:Tok):(zT prog w).is (.inl i) (.int i t)=true:=MJ i t
theorem BJ(prog:Program)(w:World)(x:Str)(t:Tok):(zT prog w).is (.inr x) (.str x t)=true:=MI x t
inductive V where
 |non |bl (b:Bool) |int (i:Int) |str (x:Str) |byt (b:Array UInt8) |flt (b:UInt64) |ref (a:Addr) |ty (n:String)
 deriving DecidableEq
def RelV:V->Value->Prop
 | .non,u=>u=Value.none
 | .bl b,u=>u=Value.bool b
 | .int i,u=>∃t,u=Value.int i t
 | .str x,u=>∃t,u=Value.str x t
 | .byt b,u=>∃t,u=Value.bytes b t
 | .flt b,u=>∃t,u=Value.float b t
 | .ref a,u=>u=Value.ref a
 | .ty n,u=>u=Value.type n
abbrev cY:List V->List Value->Prop:=Paired RelV
theorem cY.length(r:cY xs us):xs.length=us.length:=eY r
theorem cY.get:∀{xs:List V}{us:List Value}{i:Nat}{x:V},cY xs us->xs[i]?=some x->∃u,us[i]?=some u/\RelV x u
 |_,_,_,_,.nil,e=>by simp at e
 |_,_,0,_,.cons r _,e=>by simp at e;subst e;exact#[_,rfl,r]
 |_,_,i+1,x,.cons _ t,e=>by
  let⟨u,h1,h2⟩:=cY.get (i:=i) (x:=x) t (by simpa using e);exact#[u,by simpa using h1,h2]
theorem cY.set{x:V}{u:Value}(r:RelV x u):∀{xs:List V}{us:List Value}(i:Nat),cY xs us->cY (xs.set i x) (us.set i u)
 |_,_,_,.nil=>.nil
 |_,_,0,.cons _ t=>.cons r t
 |_,_,i+1,.cons q t=>.cons q<|cY.set r i t
theorem cY.append:∀{xs ys:List V}{us ws:List Value},cY xs us->cY ys ws->cY (xs++ys) (us++ws)
 |_,_,_,_,.nil,s=>s
 |_,_,_,_,.cons r t,s=>.cons r<|cY.append t s
theorem cY.take:∀{xs:List V}{us:List Value}(n:Nat),cY xs us->cY (xs.take n) (us.take n)
 |_,_,0,_=>.nil
 |_,_,_+1,.nil=>.nil
 |_,_,n+1,.cons r t=>.cons r<|cY.take n t
theorem cY.drop:∀{xs:List V}{us:List Value}(n:Nat),cY xs us->cY (xs.drop n) (us.drop n)
 |_,_,0,r=>r
 |_,_,_+1,.nil=>.nil
 |_,_,n+1,.cons _ t=>cY.drop n t
def mM:Option V->Option Value->Prop
 |some v,some u=>RelV v u
 |none,none=>True
 |_,_=>False
def KV{κ:Type}:List (κ×V)->List (κ×Value)->Prop:=Paired λ(p:κ×V)(q:κ×Value)=>p.1=q.1/\RelV p.2 q.2
noncomputable def kV:eR->V
 | .inl i=>.int i
 | .inr x=>.str x
inductive HO where
 |lst (xs:List V)
 |tup (xs:List V)
 |dK (kvs:List (eR×V)) |dT (kvs:List (List eR×V))
 |set (S:Int->Bool) (n:Nat)
 |ins (C dx:Addr) (fs:List (Str×V))
 |own (x:Addr)
 |xd (fs:List (Str×V))
 |met (f x:Addr)
 |rng (lo hi:Int)
 |frz (o:Obj) (u:HO)
 |tbl (ps:Array Value)
 |ext (φ:Heap->Prop)
abbrev Hp:=Addr->Option HO
noncomputable def upd(H:Hp)(a:Addr)(o:HO):Hp:=λb=>if b=a then some o else H b
theorem zA{o:HO}:upd H a o a=some o:=by unfold upd;rw[aO rfl]
theorem zG{o:HO}(h:b≠a):upd H a o b=H b:=by unfold upd;rw[aH h]
theorem QG{o u:HO}:upd (upd H a o) a u=upd H a u:=by
 funext b;unfold upd;split<;>rfl
theorem jH{o u:HO}(h:H a=some o)(h':H b=some u)(d:o≠u):a≠b:=by
 intro e;subst e;rw[h]at h';exact d<|bY h'
theorem yW{o:HO}(h:H a=some o)(h':H b=none):a≠b:=by
 intro e;subst e;rw[h]at h';cases h'
section
variable (P:Program) (w:World)
def eT(H:Hp)(h:Heap)(a:Addr):HO->Prop
 | .lst xs=>xs.length<=sizeLine/\∃(its:List Value)(n:Nat),cY xs its/\h.get? a=some {cls:=.type "list",data:=.seq its.toArray n}
 | .tup xs=>xs.length<=sizeLine/\∃its:List Value,cY xs its/\IsTup h a its.toArray
 | .dK kvs=>kvs.length<=sizeLine/\(a==sysModules)=false/\∃vs,KV kvs vs/\h.DictOf (zT P w) a vs
 | .dT kvs=>kvs.length<=sizeLine/\(a==sysModules)=false/\∃xs:List (List eR×Addr×Value),
  Paired (λ(p:List eR×V) (q:List eR×Addr×Value)=>p.1=q.1/\H q.2.1=some (.tup<|p.1.map kV)/\RelV p.2 q.2.2) kvs xs/\
  ∃o es ep,h.get? a=some o/\o.ExactDict/\o.data=.dict es ep/\es.toList=xs.map (entryOfKey<|tupleKind<|zT P w)/\(xs.map (·.1)).Nodup
 | .set S n=>h.SetOf (intKind P w) a S n
 | .ins C dx fs=>H dx=some (.own a)/\fs.length<=1000/\dx≠a/\h.get? a=some (W.instObj C dx)/\
  ∃mA,h.Ns1 dx mA/\(∀f,mM (fs.lookup f)<|mA f)/\PySem.Within mA (fs.map (·.1))
 | .own _=>∃o,h.get? a=some o
 | .xd fs=>∃mA,h.Ns1 a mA/\∀f,mM (fs.lookup f)<|mA f
 | .rng lo hi=>∃t u v,h.get? a=some {cls:=.type "range",data:=.fields (List.toArray [.int lo t,.int hi u,.int 1 v])}
 | .frz o u=>h.get? a=some o/\eT H h a u
 | .tbl ps=>h.get? a=some {cls:=.none,data:=.fields ps}
 | .met f x=>h.get? a=some (W.methodObj (.ref f)<|.ref x)
 | .ext φ=>φ h/\(∃o,h.get? a=some o)/\∀h1 h2:Heap,φ h1->(∀o,h1.get? a=some o->h2.get? a=some o)->φ h2
def iX(H:Hp)(h:Heap):Prop:=∀a o,H a=some o->eT P w H h a o
end
section
variable {o:HO}
theorem eT.lt(x:eT P w H h a o):a<h.objs.size:=by
 cases o with
 |lst xs=>let⟨_,_,_,_,e⟩:=x;exact bA e
 |tup xs=>let⟨_,_,_,p⟩:=x;exact p.lt
 |dK kvs=>let⟨_,_,_,_,o,_,_,e,_⟩:=x;exact bA e
 |dT kvs=>let⟨_,_,_,_,o,_,_,e,_⟩:=x;exact bA e
 |set S n=>let⟨o,_,_,_,e,_⟩:=x;exact bA e
 |ins C dx fs=>let⟨_,_,_,e,_⟩:=x;exact bA e
 |own y=>let⟨_,e⟩:=x;exact bA e
 |xd fs=>let⟨_,⟨_,_,_,e,_⟩,_⟩:=x;exact bA e
 |rng lo hi=>let⟨_,_,_,e⟩:=x;exact bA e
 |frz b u=>let⟨e,_⟩:=x;exact bA e
 |tbl ps=>exact bA (show h.get? a=some _ from x)
 |met f y=>exact bA (show h.get? a=some _ from x)
 |ext φ=>let⟨_,⟨_,e⟩,_⟩:=x;exact bA e
theorem Paired.mapP{α β:Type}{F G:α->β->Prop}:∀{l₁:List α}{l₂:List β},Paired F l₁ l₂->(∀a b,F a b->G a b)->Paired G l₁ l₂
 |_,_,.nil,_=>.nil
 |_,_,.cons r t,f=>.cons (f _ _ r)<|Paired.mapP t f
theorem eT.stay(x:eT P w H h a o)(k:∀b u,(b=a\/H b=some (.own a))->h.get? b=some u->h'.get? b=some u)
 (ho:∀b,H b=some (.own a)->H' b=some (.own a)) (ht:∀b xs,H b=some (.tup xs)->H' b=some (.tup xs)):eT P w H' h' a o:=by
 induction o with
 |lst xs=>let⟨z,its,n,r,e⟩:=x;exact#[z,its,n,r,k _ _ (.inl rfl) e]
 |tup xs=>let⟨z,its,r,g,e,c⟩:=x;exact#[z,its,r,g,k _ _ (.inl rfl) e,c]
 |dK kvs=>let⟨z,y,vs,r,g,es,ep,e,c⟩:=x;exact#[z,y,vs,r,g,es,ep,k _ _ (.inl rfl) e,c]
 |dT kvs=>
  let⟨z,y,xs,r,g,es,ep,e,c⟩:=x;exact#[z,y,xs,Paired.mapP r λp q z=>#[z.1,ht _ _ z.2.1,z.2.2],g,es,ep,k _ _ (.inl rfl) e,c]
 |set S n=>let⟨g,es,ep,t,e,c⟩:=x;exact#[g,es,ep,t,k _ _ (.inl rfl) e,c]
 |ins C dx fs=>
  let⟨d,z,ne,e,mA,⟨od,es,ep,i,c⟩,r⟩:=x;exact#[ho _ d,z,ne,k _ _ (.inl rfl) e,mA,#[od,es,ep,k _ _ (.inr d) i,c],r]
 |own y=>let⟨g,e⟩:=x;exact#[g,k _ _ (.inl rfl) e]
 |xd fs=>let⟨mA,⟨od,es,ep,e,c⟩,r⟩:=x;exact#[mA,#[od,es,ep,k _ _ (.inl rfl) e,c],r]
 |rng lo hi=>let⟨t,u,v,e⟩:=x;exact#[t,u,v,k _ _ (.inl rfl) e]
 |frz g u j=>let⟨e,q⟩:=x;exact#[k _ _ (.inl rfl) e,j q]
 |tbl ps=>
  let e:h.get? a=some {cls:=.none,data:=.fields ps}:=x;show h'.get? a=some {cls:=.none,data:=.fields ps};exact k a _ (.inl rfl) e
 |met f y=>
  let e:h.get? a=some (W.methodObj (.ref f)<|.ref y):=x;show h'.get? a=some (W.methodObj (.ref f)<|.ref y);exact k a _ (.inl rfl) e
 |ext φ=>let⟨p,⟨o,e⟩,st⟩:=x;exact#[st _ _ p λo q=>k _ _ (.inl rfl) q,#[o,k _ _ (.inl rfl) e],st]
theorem iX.lt(x:iX P w H h)(e:H a=some o):a<h.objs.size:=(x a o e).lt
theorem iX.fresh(x:iX P w H h)(e:h.objs.size<=a):H a=none:=by
 cases q:H a with
 |none=>rfl
 |some u=>exact absurd (bQ (x.lt q) e)<|dO _
theorem iX.kept(x:iX P w H h)(k:∀b u,h.get? b=some u->h'.get? b=some u):iX P w H h':=λa o e=>
 (x a o e).stay (λb u _ q=>k b u q) (λ_ q=>q) λ_ _ q=>q
theorem iX.laid(x:iX P w H h)(k:∀b u,h.get? b=some u->h'.get? b=some u)(hp:h.objs.size<=a)(new:eT P w (upd H a o) h' a o):iX P w (upd H a o) h':=λb u e=>by
 let hn:=x.fresh hp;by_cases hb:b=a
 ·subst hb;rw[zA]at e;cases e;exact new
 ·rw[zG hb]at e;exact(x b u e).stay (λc v _ q=>k c v q) (λc q=>by rw[zG<|yW q hn];calc q) λc xs q=>by rw[zG<|yW q hn];exact q
end
def Rd(H:Hp)(a:Addr)(u:HO):Prop:=H a=some u\/∃o,H a=some (.frz o u)
theorem Rd.ok{u:HO}(r:Rd H a u)(x:iX P w H h):eT P w H h a u:=by
 rcases r with r |⟨o,r⟩
 ·exact x a u r
 ·let⟨_,q⟩:=x a _ r;exact q
def Mut:Option HO->Prop
 |some (.lst _)=>True
 |some (.dK _)=>True
 |some (.dT _)=>True
 |some (.set _ _)=>True
 |some (.ins _ _ _)=>True
 |some (.ext _)=>True
 |_=>False
section
variable {x e:Addr} {o':HO}
theorem iX.write(ok:iX P w H h)(mu:Mut (H x))(he:e=x\/H e=some (.own x))(k:∀b u,b≠e->h.get? b=some u->h'.get? b=some u)(heo:∃u,h'.get? e=some u)
 (new:eT P w (upd H x o') h' x o'):iX P w (upd H x o') h':=λb u q=>by
 let nown:∀c y,H c=some (.own y)->c≠x:=λc y r z=>by subst z;rw[r]at mu;exact mu
 let ntup:∀c xs,H c=some (.tup xs)->c≠x:=λc xs r z=>by subst z;rw[r]at mu;exact mu
 by_cases hb:b=x
 ·subst hb;rw[zA]at q;cases q;exact new
 ·rw[zG hb]at q;by_cases a:b=e
  ·let q':H b=some (.own x):=by
    rcases he with z |z
    ·exact absurd (a.trans z) hb
    ·rw[a];exact z
   rw[q]at q';cases q';let⟨v,d⟩:=heo;exact#[v,by rw[a];calc d]
  ·refine(ok b u q).stay (λc v hc r=>k c v ?_ r) (λc r=>by rw[zG<|nown c b r];calc r) λc xs r=>by rw[zG<|ntup c xs r];exact r
   rcases hc with rfl |hc
   ·exact a
   ·rintro rfl;rcases he with z |z
    ·exact nown c b hc z
    ·rw[hc]at z;cases z;exact hb rfl
end
structure Un(fs ex:List Addr)(H H':Hp)(h h':Heap):Prop where
 keep:∀b o,h.get? b=some o->H b=none->b∉fs->b∉ex->h'.get? b=some o
 slot:∀b o,h.get? b=some o->H b=none->b∈fs->b∉ex->∃sl,h'.get? b=some {o with slots:=sl}
 free:∀b o,h.get? b=some o->H b=none->b∉ex->H' b=none
 there:∀b o,h.get? b=some o->b∉ex->∃o',h'.get? b=some o'
 tups:∀b xs,H b=some (.tup xs)->H' b=some (.tup xs)
 frzs:∀b o u,H b=some (.frz o u)->H' b=some (.frz o u)
 tbls:∀b ps,H b=some (.tbl ps)->∃more,H' b=some (.tbl<|ps++more)
section
variable {fs fs' ex ex':List Addr} {H1 H2:Hp} {h1 h2:Heap} {x e:Addr} {o:HO}
theorem Un.any(u:Un fs ex H H1 h h1){ob:Obj}(q:h.get? b=some ob)(n:H b=none)(hx:b∉ex):∃sl,h1.get? b=some {ob with slots:=sl}:=by
 by_cases hb:b∈fs
 ·exact u.slot b ob q n hb hx
 ·exact#[ob.slots,u.keep b ob q n hb hx]
theorem Un.trans(a:Un fs ex H H1 h h1)(b:Un fs ex H1 H2 h1 h2):Un fs ex H H2 h h2 where
 keep:=λc d q n hc hx=>b.keep c d (a.keep c d q n hc hx) (a.free c d q n hx) hc hx
 slot:=λc d q n hc hx=>by
  let⟨sl,e⟩:=a.slot c d q n hc hx;let⟨f,g⟩:=b.slot c _ e (a.free c d q n hx) hc hx;exact#[f,g]
 free:=λc d q n hx=>by
  let⟨o',e⟩:=a.there c d q hx;exact b.free c o' e (a.free c d q n hx) hx
 there:=λc d q hx=>by
  let⟨o',e⟩:=a.there c d q hx;exact b.there c o' e hx
 tups:=λc xs q=>b.tups c xs (a.tups c xs q)
 frzs:=λc d xs q=>b.frzs c d xs (a.frzs c d xs q)
 tbls:=λc ps q=>by
  let⟨m1,e⟩:=a.tbls c ps q;let⟨i,g⟩:=b.tbls c _ e;exact#[m1++i,by rw[g,DD]]
theorem Un.kept(k:∀b u,h.get? b=some u->h'.get? b=some u):Un fs ex H H h h':=
 #[λb a q _ _ _=>k b a q,λb a q _ _ _=>#[a.slots,k b a q],λ_ _ _ n _=>n,λb a q _=>#[a,k b a q],λ_ _ q=>q,λ_ _ _ q=>q,λ_ ps q=>#[(List.toArray []),by rw[q];simp]]
theorem Un.refl:Un fs ex H H h h:=Un.kept λ_ _ q=>q
theorem Un.laid(k:∀b u,h.get? b=some u->h'.get? b=some u)(hp:h.objs.size<=a)(hn:H a=none):Un fs ex H (upd H a o) h h' where
 keep:=λb u q _ _ _=>k b u q
 slot:=λb u q _ _ _=>#[u.slots,k b u q]
 free:=λb u q n _=>by rw[zG<|bL<|bQ (bA q) hp];exact n
 there:=λb u q _=>#[u,k b u q]
 tups:=λb xs q=>by rw[zG<|yW q hn];exact q
 frzs:=λb u xs q=>by rw[zG<|yW q hn];exact q
 tbls:=λb ps q=>#[(List.toArray []),by rw[zG<|yW q hn,q];simp]
theorem Un.write(mu:Mut (H x))(he:e=x\/H e=some (.own x))(k:∀b u,b≠e->h.get? b=some u->h'.get? b=some u)(heo:∃u,h'.get? e=some u):Un fs ex H (upd H x o) h h':=by
 let hx:∀b,H b=none->b≠x:=λb n z=>by subst z;rw[n]at mu;exact mu
 let hb:∀b,H b=none->b≠e:=λb n z=>by
  subst z;rcases he with r |r
  ·exact hx b n r
  ·rw[n]at r;cases r
 let hm:∀b u,H b=some u->¬Mut (some u)->b≠x:=λb u q nm z=>by subst z;rw[q]at mu;exact nm mu
 refine#[λb u q n _ _=>k b u (hb b n) q,λb u q n _ _=>#[u.slots,k b u (hb b n) q],λb u q n _=>by rw[zG<|hx b n];exact n,λb u q _=>?_,
  λb xs q=>by rw[zG<|hm b _ q λz=>z];exact q,λb u xs q=>by rw[zG<|hm b _ q λz=>z];exact q,λb ps q=>#[(List.toArray []),by rw[zG (hm b _ q λz=>z),q];simp]]
 by_cases a:b=e
 ·subst a;exact heo
 ·exact#[u,k b u a q]
end
noncomputable def trk(h:Heap)(H:Hp):List Addr:=(List.range h.objs.size).filter λa=>(H a).isSome
noncomputable def UH(h:Heap)(H:Hp):Heap:=W.hideAll h<|trk h H
theorem MM(h:Heap)(H:Hp):(UH h H).objs.size=h.objs.size:=W.hideAll_size _ _
theorem TL{o:Obj}(e:h.get? b=some o)(n:H b=none):(UH h H).get? b=some o:=
 sP _ e λhm=>by
  let q:(H b).isSome=true:=(cN.mp hm).2;rw[n]at q;simp at q
theorem da{o:Obj}(e:(UH h H).get? b=some o):h.get? b=some o/\H b=none:=by
 let a:h.get? b=some o:=W.of_hideAll (trk h H) e;calc#[a,?_];cases q:H b with
 |none=>rfl
 |some x=>
  let hm:b∈trk h H:=cN.mpr #[bN.mpr<|bA a,by simp[q]];let z:(UH h H).get? b=none:=W.hideAll_none (trk h H) hm;rw[z]at e;cases e
structure Mod(K:W.Frag)(mg:Str->Option Value)(base:Heap):Prop where
 kin:K.In base
 glob:base.Ns mainGlobals mg
 blt:∃mb,base.Ns builtinsNs mb/\∀x:Str,x≠"__name__"->mb x=bootBuiltins x
 nolimit:base.NoLimit
structure Cx where
 prog:Program
 w:World
 K:W.Frag
 mg:Str->Option Value
 base:Heap
 A:Around
 N:List Str
 s₀:Shared
 H₀:Hp
 env:Env
 outer:List Env
 stack:List Env
 ex:List Addr
 fn:Str->Bool
 calm:Bool
 pn:List (Addr×Obj)
 xe:Value->Shared->Prop
noncomputable def frs(l:List Env):List Addr:=l.filterMap (·.frame)
abbrev Cx.fs(X:Cx):List Addr:=frs X.outer
def Vis(sc:Scope)(x:Str):Prop:=sc.names.lookup x=some .local\/sc.names.lookup x=some .cell\/sc.names.lookup x=some .free
def Loc(sc:Scope)(x:Str):Prop:=sc.names.lookup x=some .local\/sc.names.lookup x=some .cell
def Look(env:Env)(h:Heap)(m:Str->Option Value)(x:Str)(u:Value):Prop:=
 (env.kindOf x=some .local/\m x=some u)\/((env.kindOf x=some .cell\/env.kindOf x=some .free)/\∃c,env.cells.lookup x=some c/\h.IsCell c (some u))
structure Cx.Ok(X:Cx):Prop where
 mod:Mod X.K X.mg X.base
 kind:X.env.scope.kind=.function
 glob:X.env.globals=mainGlobals
 blt:X.env.builtins=builtinsNs
 above:X.s₀.heap.objs.size<=X.env.locals
 inj:∀x y c,X.env.cells.lookup x=some c->X.env.cells.lookup y=some c->x=y
 has:∀x,(X.env.kindOf x=some .cell\/X.env.kindOf x=some .free)->∃c,X.env.cells.lookup x=some c
 cab:∀x c,X.fn x=true->X.env.cells.lookup x=some c->X.s₀.heap.objs.size<=c
 hd:X.calm=true->X.A.handled=none
 frames:X.A.frames=some X.stack
 stk:X.stack=X.outer\/(X.stack=X.env::X.outer/\X.env.frame=some X.env.locals)
 exf:∀b∈X.ex,b≠X.env.locals/\∀x c,X.env.cells.lookup x=some c->c≠b
 bs:∀b o,X.base.get? b=some o->X.s₀.heap.get? b=some o/\X.H₀ b=none
 bsz:X.base.objs.size<=X.s₀.heap.objs.size
 noex:∀b o,X.base.get? b=some o->b∉X.ex
 exfs:∀b∈X.ex,b∉X.fs
 funs:X.s₀.heap.FunFrames X.base X.outer
 frf:∀b∈X.fs,X.H₀ b=none
structure Inv(X:Cx)(aI:List (Addr×Obj))(σ:List (Option V))(H:Hp)(s:Shared):Prop where
 ok:X.Ok
 os:s.os=X.s₀.os
 bare:AllBare s.gens
 base:Un X.fs X.ex X.H₀ H X.s₀.heap s.heap
 loc:∃m,s.heap.Ns X.env.locals m/\∀(i:Nat)(x:Str)(v:V),X.N[i]?=some x->σ[i]?=some (some v)->Vis X.env.scope x->∃u,RelV v u/\Look X.env s.heap m x u
 cell:∀x c,X.env.cells.lookup x=some c->∃v,s.heap.IsCell c v
 free:H X.env.locals=none
 freeC:∀x c,X.env.cells.lookup x=some c->H c=none
 pin:∀p∈X.pn++aI,s.heap.get? p.1=some p.2/\H p.1=none/\p.1≠X.env.locals/\p.1∉X.fs/\∀v,p.2.data≠.cell v
 hok:iX X.prog X.w H s.heap
 len:σ.length=X.N.length
section
variable {σ:List (Option V)}
theorem Cx.Ok.nofr(ok:X.Ok){o:Obj}(e:X.base.get? b=some o):b∉X.fs:=λhb=>by
 have :=(ok.funs.mem hb).1;rw[e]at this;cases this
theorem Inv.bs(I:Inv X aI σ H s):∀b o,X.base.get? b=some o->s.heap.get? b=some o/\H b=none:=λb o e=>
 #[I.base.keep b o (I.ok.bs b o e).1 (I.ok.bs b o e).2 (I.ok.nofr e) (I.ok.noex b o e),I.base.free b o (I.ok.bs b o e).1 (I.ok.bs b o e).2 (I.ok.noex b o e)]
theorem Inv.bk(I:Inv X aI σ H s):∀b o,X.base.get? b=some o->s.heap.get? b=some o:=λb o e=>(I.bs b o e).1
theorem Inv.mod(I:Inv X aI σ H s):Mod X.K X.mg X.base:=I.ok.mod
theorem Inv.kIn(I:Inv X aI σ H s):X.K.In s.heap:=I.ok.mod.kin.keeps I.bk
theorem Inv.lt(I:Inv X aI σ H s):X.env.locals<s.heap.objs.size:=let ⟨_,hn,_⟩:=I.loc;hn.lt
theorem Inv.sz(I:Inv X aI σ H s):X.s₀.heap.objs.size<=s.heap.objs.size:=bT I.ok.above<|pZ I.lt
theorem Inv.nofs(I:Inv X aI σ H s)(h:s.heap.objs.size<=a):a∉X.fs:=λhb=>by
 let⟨_,o,b,_⟩:=I.ok.funs.mem hb;exact absurd (bQ (bA b)<|bT I.sz h)<|dO _
theorem Inv.cne(I:Inv X aI σ H s):∀x c,X.env.cells.lookup x=some c->c≠X.env.locals:=λx c e z=>by
 let⟨v,o,d,hd⟩:=I.cell x c e;let⟨m,⟨o',es,ep,a,b,_⟩,_⟩:=I.loc;rw[z,a]at d;cases d;rw[b]at hd;cases hd
theorem Inv.funs(I:Inv X aI σ H s):s.heap.FunFrames X.base X.outer:=by
 let all:∀(l:List Env),(∀b∈frs l,b∈X.fs)->X.s₀.heap.FunFrames X.base l->s.heap.FunFrames X.base l:=by
  intro l
  induction l with
  |nil=>intro _ _;trivial
  |cons env r c=>
   intro hs hl;let⟨hk,⟨L,o,hf,hn,d,hd⟩,hr⟩:=hl;let a:L∈X.fs:=hs L (by unfold frs;rw[oK,hf];calc aW);let⟨sl,e⟩:=I.base.slot L o d (I.ok.frf L a) a λz=>I.ok.exfs L z a
   exact#[hk,#[L,_,hf,hn,e,hd],c (λb hb=>hs b (by unfold frs;rw[oK,hf];calc aX _ hb)) hr]
 exact all X.outer (λ_ hb=>hb) I.ok.funs
theorem Inv.stack(I:Inv X aI σ H s):s.heap.FunFrames X.base X.stack:=by
 rcases I.ok.stk with e |⟨e,hf⟩
 ·rw[e];exact I.funs
 ·rw[e];let⟨m,hn,_⟩:=I.loc;calc .cons (by rw[I.ok.kind];decide) hf hn ?_ I.funs;exact GR<|bT I.ok.bsz I.ok.above
theorem Inv.stkSub(I:Inv X aI σ H s):∀b∈frs X.stack,b∈X.env.locals::X.fs:=λb hb=>by
 rcases I.ok.stk with e |⟨e,hf⟩
 ·rw[e]at hb;exact aX _ hb
 ·rw[e]at hb;unfold frs at hb;rw[oK,hf]at hb;exact hb
theorem Inv.stkFree(I:Inv X aI σ H s):∀b∈frs X.stack,H b=none:=λb hb=>by
 rcases bJ.mp (I.stkSub b hb)with e |hb
 ·rw[e];exact I.free
 ·let⟨_,o,a,_⟩:=I.ok.funs.mem hb;exact I.base.free b o a (I.ok.frf b hb) λz=>I.ok.exfs b z hb
theorem Inv.step{g':Array GenState}{d':Drawn}(I:Inv X aI σ H s)
 (hch:∀b∈ch,(b∈X.ex\/X.s₀.heap.objs.size<=b)/\b≠X.env.locals/\(∀x c,X.env.cells.lookup x=some c->c≠b)/\∀p∈X.pn++aI,p.1≠b)
 (keep:∀b o,b≠X.env.locals->b∉X.fs->b∉ch->s.heap.get? b=some o->H b=none->h'.get? b=some o)
 (slot:∀b o,b≠X.env.locals->b∈X.fs->b∉ch->s.heap.get? b=some o->H b=none->∃sl,h'.get? b=some {o with slots:=sl}) (free:∀b o,b∉ch->s.heap.get? b=some o->H b=none->H' b=none)
 (there:∀b o,b∉ch->s.heap.get? b=some o->∃o',h'.get? b=some o')
 (tups:∀b xs,H b=some (.tup xs)->H' b=some (.tup xs)) (frzs:∀b o u,H b=some (.frz o u)->H' b=some (.frz o u)) (tbls:∀b ps,H b=some (.tbl ps)->∃more,H' b=some (.tbl<|ps++more))
 (ns:∀m,s.heap.Ns X.env.locals m->h'.Ns X.env.locals m) (hok:iX X.prog X.w H' h') (hg:AllBare g'):
 Inv X aI σ H' {s with heap:=h',gens:=g',drawn:=d',toks:=t'}:=by
 let neL:∀b o,X.s₀.heap.get? b=some o->b≠X.env.locals:=λb o e=>bL<|bQ (bA e) I.ok.above
 let neC:∀b o,X.s₀.heap.get? b=some o->b∉X.ex->b∉ch:=λb o e hx hb=>by
  rcases(hch b hb).1 with z |z
  ·exact hx z
  ·exact absurd (bQ (bA e) z)<|dO _
 let cellK:∀x c,X.env.cells.lookup x=some c->∀v,s.heap.IsCell c v->h'.IsCell c v:=λx c e v z0=>by
  let⟨o,f,hd⟩:=z0
  let nch:c∉ch:=λz=>(hch c z).2.2.1 x c e rfl
  by_cases hc:c∈X.fs
  ·let⟨sl,q⟩:=slot c o (I.cne x c e) hc nch f<|I.freeC x c e;exact#[_,q,hd]
  ·exact#[o,keep c o (I.cne x c e) hc nch f<|I.freeC x c e,hd]
 refine#[I.ok,I.os,hg,#[λb o e n hb hx=>?_,λb o e n hb hx=>?_,λb o e n hx=>?_,λb o e hx=>?_,λb xs e=>tups b xs<|I.base.tups b xs e,λb o xs e=>frzs b o xs<|I.base.frzs b o xs e,λb ps e=>?_],?_,λx c e=>?_,?_,λx c e=>?_,λp hp=>?_,hok,I.len]
 ·exact keep b o (neL b o e) hb (neC b o e hx) (I.base.keep b o e n hb hx)<|I.base.free b o e n hx
 ·let⟨sl,a⟩:=I.base.slot b o e n hb hx;let⟨h,g⟩:=slot b _ (neL b o e) hb (neC b o e hx) a<|I.base.free b o e n hx;exact#[h,g]
 ·let⟨o',a⟩:=I.base.there b o e hx;exact free b o' (neC b o e hx) a<|I.base.free b o e n hx
 ·let⟨o',a⟩:=I.base.there b o e hx;exact there b o' (neC b o e hx) a
 ·let⟨m1,a⟩:=I.base.tbls b ps e;let⟨t,g⟩:=tbls b _ a;exact#[m1++t,by rw[g,DD]]
 ·let⟨m,hn,hl⟩:=I.loc;calc#[m,ns m hn,λi x v a g y=>?_];let⟨u,r,l⟩:=hl i x v a g y;calc#[u,r,?_];rcases l with l |⟨k,c,e,z⟩
  ·exact .inl l
  ·exact .inr #[k,c,e,cellK x c e _ z]
 ·let⟨v,z⟩:=I.cell x c e;exact#[v,cellK x c e v z]
 ·let⟨m,⟨o,_,_,f,_⟩,_⟩:=I.loc;exact free _ o (λz=>(hch _ z).2.1 rfl) f I.free
 ·let⟨v,o,f,hd⟩:=I.cell x c e;exact free c o (λz=>(hch c z).2.2.1 x c e rfl) f<|I.freeC x c e
 ·let⟨e,n,ne,j,d⟩:=I.pin p hp;let nch:p.1∉ch:=λz=>(hch p.1 z).2.2.2 p hp rfl
  exact#[keep p.1 p.2 ne j nch e n,free p.1 p.2 nch e n,ne,j,d]
theorem Inv.un(I:Inv X aI σ H s)(u:Un X.fs [] H H' s.heap h')(hok:iX X.prog X.w H' h'):Inv X aI σ H' {s with heap:=h',toks:=t'}:=by
 let⟨m,⟨o,es,ep,f,r⟩,_⟩:=id I.loc;let⟨sl,g⟩:=u.any f I.free (by simp);exact I.step (g':=s.gens) (d':=s.drawn) (ch:=[]) (λ_ z=>nomatch z) (λb o _ hb _ e n=>u.keep b o e n hb (by simp)) (λb o _ hb _ e n=>u.slot b o e n hb (by simp)) (λb o _ e n=>u.free b o e n (by simp)) (λb o _ e=>u.there b o e (by simp)) u.tups u.frzs u.tbls (λi hm=>by
  let⟨o',c,d,a,h⟩:=hm;rw[f]at a;cases a;calc#[_,c,d,g,h]) hok I.bare
theorem Inv.call{g':Array GenState}{d':Drawn}(I:Inv X aI σ H s)(u:Un (frs X.stack) ch H H' s.heap h')(hok:iX X.prog X.w H' h')(hg:AllBare g')
 (hch:∀b∈ch,(b∈X.ex\/X.s₀.heap.objs.size<=b)/\b≠X.env.locals/\(∀x c,X.env.cells.lookup x=some c->c≠b)/\∀p∈X.pn++aI,p.1≠b):
 Inv X aI σ H' {s with heap:=h',gens:=g',drawn:=d',toks:=t'}:=by
 let⟨m,⟨o,es,ep,h,r⟩,_⟩:=id I.loc;let⟨sl,d⟩:=u.any h I.free λz=>(hch _ z).2.1 rfl
 exact I.step (ch:=ch) hch (λb o d hb hc e n=>u.keep b o e n (λz=>(bJ.mp<|I.stkSub b z).elim d hb) hc) (λb o _ _ hc e n=>u.any e n hc) (λb o hc e n=>u.free b o e n hc) (λb o hc e=>u.there b o e hc) u.tups u.frzs u.tbls (λj hm=>by
  let⟨o',f,g,a,i⟩:=hm;rw[h]at a;cases a;calc#[_,f,g,d,i]) hok hg
theorem Inv.turned(I:Inv X aI σ H s)(k:∀b o,b≠it->s.heap.get? b=some o->h'.get? b=some o)(hn:H it=none)(hL:it≠X.env.locals)
 (h1:it∈X.ex\/X.s₀.heap.objs.size<=it) (h2:∀x c,X.env.cells.lookup x=some c->c≠it) (h3:∀p∈X.pn++aI,p.1≠it):Inv X aI σ H {s with heap:=h',toks:=t'}:=by
 let nit:∀b u,H b=some u->b≠it:=λb u e z=>by rw[z,hn]at e;cases e
 refine I.step (g':=s.gens) (d':=s.drawn) (ch:=[it]) (λb hb=>?_) (λb o _ _ hc e _=>k b o (λz=>hc (by simp[z])) e) (λb o _ _ hc e _=>#[o.slots,k b o (λz=>hc (by simp[z])) e]) (λ_ _ _ _ n=>n)
  (λb o hc e=>#[o,k b o (λz=>hc (by simp[z])) e]) (λ_ _ e=>e) (λ_ _ _ e=>e) (λb ps e=>#[(List.toArray []),by rw[e];simp]) (λm hm=>?_) (λb u e=>?_) I.bare
 ·let e:b=it:=by simpa using hb
  subst e;exact#[h1,hL,h2,h3]
 ·let⟨o,es,ep,a,r⟩:=hm;exact#[o,es,ep,k _ o (bX hL) a,r]
 ·refine(I.hok b u e).stay (λc v hc q=>k c v ?_ q) (λ_ q=>q) λ_ _ q=>q
  rcases hc with z |z
  ·rw[z];exact nit b u e
  ·exact nit c _ z
theorem Inv.tok(I:Inv X aI σ H s)(t:Nat):Inv X aI σ H {s with toks:=t}:=I.un (h':=s.heap) (t':=t) Un.refl I.hok
theorem Inv.kept(I:Inv X aI σ H s)(k:∀b u,s.heap.get? b=some u->h'.get? b=some u):Inv X aI σ H {s with heap:=h',toks:=t'}:=I.un (Un.kept k)<|I.hok.kept k
theorem Inv.laid{o:HO}(I:Inv X aI σ H s)(k:∀b u,s.heap.get? b=some u->h'.get? b=some u)(hp:s.heap.objs.size<=a)(new:eT X.prog X.w (upd H a o) h' a o):
 Inv X aI σ (upd H a o) {s with heap:=h',toks:=t'}:=I.un (Un.laid k hp<|I.hok.fresh hp)<|I.hok.laid k hp new
theorem Inv.write{x e:Addr}{o:HO}(I:Inv X aI σ H s)(mu:Mut (H x))(he:e=x\/H e=some (.own x))(k:∀b u,b≠e->s.heap.get? b=some u->h'.get? b=some u)(heo:∃u,h'.get? e=some u)
 (new:eT X.prog X.w (upd H x o) h' x o):Inv X aI σ (upd H x o) {s with heap:=h',toks:=t'}:=I.un (Un.write mu he k heo)<|I.hok.write mu he k heo new
theorem Inv.pins_of{pins':List (Addr×Obj)}(I:Inv X aI σ H s)(h:∀p∈pins',s.heap.get? p.1=some p.2/\H p.1=none/\p.1≠X.env.locals/\p.1∉X.fs/\∀v,p.2.data≠.cell v):Inv X pins' σ H s:=
 #[I.ok,I.os,I.bare,I.base,I.loc,I.cell,I.free,I.freeC,λp hp=>(cD.mp hp).elim (λz=>I.pin p<|cG _ z) (h p),I.hok,I.len]
theorem YW(hN:N.Nodup){x:Str}(a:N[i]?=some x)(b:N[j]?=some x):i=j:=by
 let⟨h1,c⟩:=aC.mp a;let⟨h2,d⟩:=aC.mp b;exact(iQ hN).mp (c.trans d.symm)
theorem kG{x:Str}{Q:Unit->Shared->Prop}(I:Inv X aI σ H s)(hN:X.N.Nodup)(hi:X.N[i]?=some x)(hx:Loc X.env.scope x)(r:RelV v u)
 (h:∀s',Inv X aI (σ.set i<|some v) H s'->(∃a,Heap.SameBut a s.heap s'.heap/\(a=X.env.locals\/X.env.cells.lookup x=some a))->Q Unit.unit s') (hf:X.fn x=true\/X.env.scope.names.lookup x=some .local:=by first |exact .inl rfl |exact .inr rfl |assumption):wpAny M A (storeName X.env x u) Q E s:=by
 let⟨m,hn,hl⟩:=id I.loc;let C:(X.env.scope.kind==.class ||(X.env.scope.kind==.module&&X.env.locals !=X.env.globals))=false:=by rw[I.ok.kind];rfl
 let hiσ:i<σ.length:=by rw[I.len];exact(aC.mp hi).1
 let cne:=I.cne;let tracked:∀{a:Addr}{h':Heap},(∃o,s.heap.get? a=some o/\H a=none)->Heap.SameBut a s.heap h'->iX X.prog X.w H h':=λ{a h'} ha hs b W e=>by
  let⟨_,_,g⟩:=ha;refine(I.hok b W e).stay (λc K hc q=>(hs.2 c ?_).trans q) (λ_ q=>q) λ_ _ q=>q
  rintro rfl;rcases hc with rfl |hc
  ·rw[g]at e;cases e
  ·rw[g]at hc;cases hc
 rcases hx with hk |hk
 ·calc wpAny_storeName_local hk hn (λh' O hs=>?_) C;let⟨oL,_,_,P,_⟩:=id hn;refine h _ #[I.ok,I.os,I.bare,#[λb o e n hb hx=>?_,λb o e n hb hx=>?_,I.base.free,λb o e hx=>?_,I.base.tups,I.base.frzs,I.base.tbls],#[_,O,λj y v' f l R=>?_],λy c e=>?_,I.free,I.freeC,λp hp=>?_,tracked #[oL,P,I.free] hs,by simpa using I.len] #[_,hs,.inl rfl]
  ·exact(hs.2 b<|bL<|bQ (bA e) I.ok.above).trans (I.base.keep b o e n hb hx)
  ·let⟨sl,f⟩:=I.base.slot b o e n hb hx;exact#[sl,(hs.2 b<|bL<|bQ (bA e) I.ok.above).trans f]
  ·let⟨o',f⟩:=I.base.there b o e hx;exact#[o',(hs.2 b<|bL<|bQ (bA e) I.ok.above).trans f]
  ·by_cases t:j=i
   ·subst t;rw[hi]at f;cases f;rw[eX hiσ]at l;cases l;exact#[u,r,.inl #[hk,by simp]]
   ·rw[dZ<|bX t]at l;let⟨S,T,q⟩:=hl j y v' f l R;calc#[S,T,?_];rcases q with⟨k,e⟩ |⟨k,c,e,z⟩
    ·calc .inl #[k,?_];have :y≠x:=λe=>t<|YW hN f<|e▸hi
     simp[this,e]
    ·exact .inr #[k,c,e,z.sameBut hs<|cne y c e]
  ·let⟨K,z⟩:=I.cell y c e;exact#[K,z.sameBut hs<|cne y c e]
  ·let⟨e,n,ne,U,d⟩:=I.pin p hp;exact#[(hs.2 p.1 ne).trans e,n,ne,U,d]
 ·let B:X.fn x=true:=by
   rcases hf with z |z
   ·exact z
   ·rw[z]at hk;cases hk
  let⟨c,hc⟩:=I.ok.has x<|.inl hk;let⟨K,z⟩:=I.cell x c hc;calc wpAny_storeName_cell I.ok.kind hk hc z λh' D hs=>?_;let⟨oc,F,G⟩:=id z;refine h {s with heap:=h'} #[I.ok,I.os,I.bare,#[λb o e n hb hx=>?_,λb o e n hb hx=>?_,I.base.free,λb o e hx=>?_,I.base.tups,I.base.frzs,I.base.tbls],#[m,hn.sameBut hs<|bX<|cne x c hc,λj y v' f l R=>?_],λy L e=>?_,I.free,I.freeC,λp hp=>?_,tracked #[oc,F,I.freeC x c hc] hs,by simpa using I.len] #[c,hs,.inr hc]
  ·exact(hs.2 b<|bL<|bQ (bA e)<|I.ok.cab x c B hc).trans (I.base.keep b o e n hb hx)
  ·let⟨sl,f⟩:=I.base.slot b o e n hb hx;exact#[sl,(hs.2 b<|bL<|bQ (bA e)<|I.ok.cab x c B hc).trans f]
  ·let⟨o',f⟩:=I.base.there b o e hx;exact#[o',(hs.2 b<|bL<|bQ (bA e)<|I.ok.cab x c B hc).trans f]
  ·by_cases t:j=i
   ·subst t;rw[hi]at f;cases f;rw[eX hiσ]at l;cases l;exact#[u,r,.inr #[.inl hk,c,hc,D]]
   ·rw[dZ<|bX t]at l;let⟨S,T,q⟩:=hl j y v' f l R;calc#[S,T,?_];rcases q with q |⟨k,L,e,z'⟩
    ·exact .inl q
    ·calc .inr #[k,L,e,z'.sameBut hs ?_];rintro rfl;exact t<|YW hN f<|I.ok.inj _ _ _ e hc▸hi
  ·by_cases J:L=c
   ·subst J;exact#[_,D]
   ·let⟨Y,Z⟩:=I.cell y L e;exact#[Y,Z.sameBut hs J]
  ·let⟨e,n,ne,U,d⟩:=I.pin p hp;calc#[(hs.2 p.1 ?_).trans e,n,ne,U,d];intro q;rw[q,F]at e;let q':oc=p.2:=bY e;exact d K (by rw[←q'];calc G)
theorem uZ{x:Str}{Q:Unit->Shared->Prop}(I:Inv X aI σ H s)(hN:X.N.Nodup)(hi:X.N[i]?=some x)(hx:Loc X.env.scope x)(r:RelV v u)
 (h:∀s',Inv X aI (σ.set i<|some v) H s'->Q Unit.unit s') (hf:X.fn x=true\/X.env.scope.names.lookup x=some .local:=by first |exact .inl rfl |exact .inr rfl |assumption):wpAny M A (storeName X.env x u) Q E s:=
 kG I hN hi hx r (λs' a _=>h s' a) hf
theorem Inv.call'(I:Inv X aI σ H s)(ho:s'.os=s.os)(u:Un (frs X.stack) ch H H' s.heap s'.heap)(hok:iX X.prog X.w H' s'.heap)(hg:AllBare s'.gens)
 (hch:∀b∈ch,(b∈X.ex\/X.s₀.heap.objs.size<=b)/\b≠X.env.locals/\(∀x c,X.env.cells.lookup x=some c->c≠b)/\∀p∈X.pn++aI,p.1≠b):Inv X aI σ H' s':=by
 let⟨h',g',d',t',o'⟩:=s';let e:o'=s.os:=ho;subst e;exact I.call (g':=g') (t':=t') (d':=d') u hok hg hch
end
abbrev XK:=Value->Option Addr->Hp->Prop
abbrev St:=List<|Option V
abbrev VK:=V->Hp->Prop
abbrev TE:=St->Hp->VK->Prop
abbrev TT:=St->Hp->(Bool->Hp->Prop)->Prop
abbrev TA:=St->Hp->(List V->Hp->Prop)->Prop
structure CQ where
 nx:St->Hp->Prop
 rt:VK
 bk:St->Hp->Prop:=λ_ _=>False
 ct:St->Hp->Prop:=λ_ _=>False
abbrev TS:=CQ->St->Hp->Prop
def EP(X:Cx)(aI:List (Addr×Obj))(σ:St)(Q:VK)(u:Value)(s':Shared):Prop:=∃v H',Inv X aI σ H' s'/\RelV v u/\Q v H'
def TP(X:Cx)(aI:List (Addr×Obj))(σ:St)(Q:Bool->Hp->Prop)(b:Bool)(s':Shared):Prop:=∃H',Inv X aI σ H' s'/\Q b H'
def AP(X:Cx)(aI:List (Addr×Obj))(σ:St)(Q:List V->Hp->Prop)(us:List Value)(s':Shared):Prop:=∃vs H',Inv X aI σ H' s'/\cY vs us/\Q vs H'
def SP(X:Cx)(aI:List (Addr×Obj))(D:CQ)(f:Flow)(s':Shared):Prop:=
 match f with
 | .next=>∃σ' H',Inv X aI σ' H' s'/\D.nx σ' H'
 | .brk=>∃σ' H',Inv X aI σ' H' s'/\D.bk σ' H'
 | .cont=>∃σ' H',Inv X aI σ' H' s'/\D.ct σ' H'
 | .ret u=>∃v σ' H',Inv X aI σ' H' s'/\RelV v u/\D.rt v H'
def PE(X:Cx)(e:Expr)(t:TE):Prop:=
 ∀(aI:List (Addr×Obj))(s:Shared)(σ:St)(H:Hp)(Q:VK),Inv X aI σ H s->t σ H Q->wpAny (model X.prog X.w) X.A (eval e X.env) (EP X aI σ Q) X.xe s
def PT(X:Cx)(e:Expr)(t:TT):Prop:=
 ∀(aI:List (Addr×Obj))(s:Shared)(σ:St)(H:Hp)(Q:Bool->Hp->Prop),Inv X aI σ H s->t σ H Q->wpAny (model X.prog X.w) X.A (isTrue e X.env<|eval e X.env) (TP X aI σ Q) X.xe s
def PW(X:Cx)(e:Expr)(t:TT):Prop:=
 ∀(whole:Sem Value)(aI:List (Addr×Obj))(s:Shared)(σ:St)(H:Hp)(Q:Bool->Hp->Prop),Inv X aI σ H s->t σ H Q->wpAny (model X.prog X.w) X.A (isTrue e X.env whole) (TP X aI σ Q) X.xe s
theorem PW.pt{t:TT}(h:PW X e t):PT X e t:=h _
def PA(X:Cx)(es:List Expr)(t:TA):Prop:=
 ∀(pos:Pos)(aI:List (Addr×Obj))(s:Shared)(σ:St)(H:Hp)(Q:List V->Hp->Prop),Inv X aI σ H s->t σ H Q->wpAny (model X.prog X.w) X.A (spliced<|backTo pos<|starEach es X.env) (AP X aI σ Q) X.xe s
def PS(X:Cx)(st:Stmt)(t:TS):Prop:=
 ∀(aI:List (Addr×Obj))(s:Shared)(σ:St)(H:Hp)(D:CQ),Inv X aI σ H s->t D σ H->wpAny (model X.prog X.w) X.A (exec st X.env) (SP X aI D) X.xe s
def sU(X:Cx)(st:List Stmt)(t:TS):Prop:=
 ∀(aI:List (Addr×Obj))(s:Shared)(σ:St)(H:Hp)(D:CQ),Inv X aI σ H s->t D σ H->wpAny (model X.prog X.w) X.A (execs st X.env) (SP X aI D) X.xe s
theorem eI{t:Sem α}{Q Q':α->Shared->Prop}(h:wpAny M A t Q E s)(hQ:∀a s,Q a s->Q' a s):wpAny M A t Q' E s:=eM h hQ λ_ _ x=>x
def rW(x:V)(k:Int->Prop):Prop:=match x with | .int i=>k i |_=>False
def nZ(x:V)(k:Addr->Prop):Prop:=match x with | .ref i=>k i |_=>False
def eg(x:V)(k:Bool->Prop):Prop:=match x with | .bl i=>k i |_=>False
def asS(x:V)(k:Str->Prop):Prop:=match x with | .str i=>k i |_=>False
def asV(x:Option (Option V))(k:V->Prop):Prop:=match x with |some (some i)=>k i |_=>False
def asC(x:List V)(k:V->List V->Prop):Prop:=match x with |v::r=>k v r |_=>False
def pP(x:List V)(k:V->Prop):Prop:=match x with |[v]=>k v |_=>False
def WR(x:List V)(k:V->V->Prop):Prop:=match x with |[v,u]=>k v u |_=>False
def as0(x:List V)(k:Prop):Prop:=match x with |[]=>k |_=>False
def iz(x:Bool)(k:Prop):Prop:=match x with |true=>k |false=>False
theorem jW{x:V}{k:Int->Prop}(h:rW x k):∃i,x=.int i/\k i:=by cases x<;>first |exact#[_,rfl,h] |exact h.elim
theorem xG{x:V}{k:Addr->Prop}(h:nZ x k):∃i,x=.ref i/\k i:=by cases x<;>first |exact#[_,rfl,h] |exact h.elim
theorem CM{x:V}{k:Bool->Prop}(h:eg x k):∃i,x=.bl i/\k i:=by cases x<;>first |exact#[_,rfl,h] |exact h.elim
theorem asS_{x:V}{k:Str->Prop}(h:asS x k):∃i,x=.str i/\k i:=by cases x<;>first |exact#[_,rfl,h] |exact h.elim
theorem om{x:Option (Option V)}{k:V->Prop}(h:asV x k):∃i,x=some (some i)/\k i:=by
 rcases x with _ |_ |i
 ·exact h.elim
 ·exact h.elim
 ·exact#[i,rfl,h]
theorem asC_{x:List V}{k:V->List V->Prop}(h:asC x k):∃v r,x=v::r/\k v r:=by
 cases x
 ·exact h.elim
 ·exact#[_,_,rfl,h]
theorem kE{x:List V}{k:V->Prop}(h:pP x k):∃v,x=[v]/\k v:=by
 rcases x with _ |⟨v,_ |_⟩
 ·exact h.elim
 ·exact#[_,rfl,h]
 ·exact h.elim
theorem as2_{x:List V}{k:V->V->Prop}(h:WR x k):∃v u,x=[v,u]/\k v u:=by
 rcases x with _ |⟨v,_ |⟨u,_ |_⟩⟩
 ·exact h.elim
 ·exact h.elim
 ·exact#[_,_,rfl,h]
 ·exact h.elim
theorem as0_{x:List V}{k:Prop}(h:as0 x k):x=[]/\k:=by
 cases x
 ·exact#[rfl,h]
 ·exact h.elim
theorem MW{x:Bool}{k:Prop}(h:iz x k):x=true/\k:=by
 cases x
 ·exact h.elim
 ·exact#[rfl,h]
theorem asT_e{x:Bool}{k:Prop}:iz x k=(x=true/\k):=propext #[MW,by rintro⟨rfl,h⟩;calc h]
theorem asT_i{k:Prop}:iz true k=k:=rfl
theorem mapC{β:Type}{f:α->β}{a:α}{l:List α}:List.map f (a::l)=f a::List.map f l:=rfl
theorem mapN{β:Type}{f:α->β}:List.map f []=[]:=rfl
theorem asI_e{x:V}{k:Int->Prop}:rW x k=∃i,x=.int i/\k i:=propext #[jW,by rintro⟨i,rfl,h⟩;calc h]
theorem asR_e{x:V}{k:Addr->Prop}:nZ x k=∃i,x=.ref i/\k i:=propext #[xG,by rintro⟨i,rfl,h⟩;calc h]
theorem asB_e{x:V}{k:Bool->Prop}:eg x k=∃i,x=.bl i/\k i:=propext #[CM,by rintro⟨i,rfl,h⟩;calc h]
theorem asS_e{x:V}{k:Str->Prop}:asS x k=∃i,x=.str i/\k i:=propext #[asS_,by rintro⟨i,rfl,h⟩;calc h]
theorem asV_e{x:Option (Option V)}{k:V->Prop}:asV x k=∃i,x=some (some i)/\k i:=propext #[om,by rintro⟨i,rfl,h⟩;calc h]
theorem asC_e{x:List V}{k:V->List V->Prop}:asC x k=∃v r,x=v::r/\k v r:=propext #[asC_,by rintro⟨v,r,rfl,h⟩;calc h]
theorem as1_e{x:List V}{k:V->Prop}:pP x k=∃v,x=[v]/\k v:=propext #[kE,by rintro⟨v,rfl,h⟩;calc h]
theorem as2_e{x:List V}{k:V->V->Prop}:WR x k=∃v u,x=[v,u]/\k v u:=propext #[as2_,by rintro⟨v,u,rfl,h⟩;calc h]
theorem as0_e{x:List V}{k:Prop}:as0 x k=(x=[]/\k):=propext #[as0_,by rintro⟨rfl,h⟩;calc h]
theorem asI_i{i:Int}{k:Int->Prop}:rW (.int i) k=k i:=rfl
theorem asR_i{i:Addr}{k:Addr->Prop}:nZ (.ref i) k=k i:=rfl
theorem asB_i{i:Bool}{k:Bool->Prop}:eg (.bl i) k=k i:=rfl
theorem asS_i{i:Str}{k:Str->Prop}:asS (.str i) k=k i:=rfl
theorem asV_i{i:V}{k:V->Prop}:asV (some<|some i) k=k i:=rfl
theorem asC_i{r:List V}{k:V->List V->Prop}:asC (v::r) k=k v r:=rfl
theorem as1_i{k:V->Prop}:pP [v] k=k v:=rfl
theorem as2_i{u:V}{k:V->V->Prop}:WR [v,u] k=k v u:=rfl
theorem as0_i{k:Prop}:as0 [] k=k:=rfl
section
def tVar(i:Nat):TE:=λσ H Q=>asV σ[i]? λv=>Q v H
def tC(v:V):TE:=λ_ H Q=>Q v H
theorem PR{x:Str}{pos:Pos}(hN:X.N[i]?=some x)(hv:Vis X.env.scope x)(hd:autoParam ((x==("__debug__":Str))=false) a2._auto_1)(hcd:autoParam ((x==("__classdict__":Str))=false) a2._auto_1):PE X (.Name x pos) (tVar i):=by
 intro aI s σ H Q I h;replace h:=om h;let⟨v,e,h⟩:=h;let⟨m,hn,hl⟩:=I.loc;let⟨u,r,l⟩:=hl i x v hN e hv;let fin:EP X aI σ Q u s:=#[v,H,I,r,h]
 rcases l with⟨hk,hm⟩ |⟨hk,c,hc,a⟩
 ·exact wpAny_Name (wpAny_loadName_local I.ok.kind hk hn hm fin) hd
 ·rcases hk with hk |hk
  ·exact wpAny_Name (wpAny_loadName_cell I.ok.kind hk hc a fin) hd
  ·exact wpAny_Name (wpAny_loadName_free I.ok.kind hk hc a fin hcd) hd
theorem zW{i j pos}:PE X (.Constant (.int i) j pos) (tC<|.int i):=λ_ _ _ H _ I h=>wpAny_Constant_int #[.int i,H,I.tok _,#[_,rfl],h]
theorem IB{b j pos}:PE X (.Constant (.bool b) j pos) (tC<|.bl b):=λ_ _ _ H _ I h=>Constant_bool #[.bl b,H,I,rfl,h]
theorem vV{j pos}:PE X (.Constant .none j pos) (tC .non):=λ_ _ _ H _ I h=>Constant_none #[.non,H,I,rfl,h]
theorem uH{x j pos}:PE X (.Constant (.str x) j pos) (tC<|.str x):=λ_ _ _ H _ I h=>Calls.Constant_str #[.str x,H,I.tok _,#[_,rfl],h]
def Gl(X:Cx)(x:Str):Prop:=X.env.kindOf x=some .globalImplicit
theorem vQ{x:Str}{pos:Pos}(I:Inv X aI σ H s)(hg:Gl X x)(hm:X.mg x=some u)(h:Q u s)
 (hd:autoParam ((x==("__debug__":Str))=false) a2._auto_1):wpAny (model X.prog X.w) X.A (eval (.Name x pos) X.env) Q E s:=
 Calls.Name_function_global I.ok.kind hg (Calls.loadGlobal_global (by rw[I.ok.glob];calc I.mod.glob.keeps I.bk) hm h) hd
theorem uL{x:Str}{pos:Pos}(I:Inv X aI σ H s)(hg:Gl X x)(hm:X.mg x=none)(hv:bootBuiltins x=some u)(h:Q u s)
 (hn:autoParam (x≠"__name__") a2._auto_1) (hd:autoParam ((x==("__debug__":Str))=false) a2._auto_1):wpAny (model X.prog X.w) X.A (eval (.Name x pos) X.env) Q E s:=by
 let⟨mb,h1,h2⟩:=I.mod.blt;exact Calls.Name_function_global I.ok.kind hg (Calls.loadGlobal_builtin (by rw[I.ok.glob];calc I.mod.glob.keeps I.bk) hm (by rw[I.ok.blt];calc h1.keeps I.bk) ((h2 x hn).trans hv) h) hd
theorem HY{x:Str}{pos:Pos}(hg:Gl X x)(hm:X.mg x=some u)(r:RelV v u)(hd:autoParam ((x==("__debug__":Str))=false) a2._auto_1):PE X (.Name x pos) (tC v):=
 λ_ _ _ H _ I h=>vQ I hg hm #[v,H,I,r,h] hd
theorem bw{x:Str}{pos:Pos}(hg:Gl X x)(hm:X.mg x=none)(hv:bootBuiltins x=some u)(r:RelV v u)(hn:autoParam (x≠"__name__") a2._auto_1)(hd:autoParam ((x==("__debug__":Str))=false) a2._auto_1):PE X (.Name x pos) (tC v):=
 λ_ _ _ H _ I h=>uL I hg hm hv #[v,H,I,r,h] hn hd
variable {a b:Expr} {tb:TE} {pos:Pos}
def PC(X:Cx)(op:CmpOp)(a b:Expr)(t:TE):Prop:=
 ∀(aI:List (Addr×Obj)) (s:Shared) (σ:St) (H:Hp) (Q:VK),Inv X aI σ H s->t σ H Q->
  wpAny (model X.prog X.w) X.A (eval a X.env) (λv s₁=>wpAny (model X.prog X.w) X.A (eval b X.env) (λu s₂=>wpAny (model X.prog X.w) X.A (compareOp op v u) (EP X aI σ Q) X.xe s₂) X.xe s₁) X.xe s
theorem BH(b:Expr)(h:op≠.In)(h2:op≠.NotIn):behindInMarks op b=false:=by
 let a:(op==CmpOp.In)=false:=by cases op<;>first |rfl |exact absurd rfl h
 let c:(op==CmpOp.NotIn)=false:=by cases op<;>first |rfl |exact absurd rfl h2
 cases b<;>simp[behindInMarks,a,c]
def tB(t:TE):TT:=λσ H Q=>t σ H λx H1=>eg x λc=>Q c H1
theorem RC{t:TE}(h:PC X op a b t)(h1:behindInMarks op b=false:=by first |exact BH _ (by decide) (by decide) |rfl):PE X (.Compare a [op] [b] pos) t:=λaI s σ H Q I c=>wpAny_Compare1 (h aI s σ H Q I c) h1
theorem YL{t:TE}(h:PC X op a b t)(h1:behindInMarks op b=false:=by first |exact BH _ (by decide) (by decide) |rfl):PT X (.Compare a [op] [b] pos) (tB t):=by
 intro aI s σ H Q I f;calc wpAny_isTrue_Compare1 (eI (h aI s σ H _ I f) λv s1 h1=>eI h1 λu s2 h2=>eI h2 λc j z=>?_) h1;let⟨x,H1,g,i,e⟩:=z;replace e:=CM e;let⟨d,rfl,q⟩:=e;cases i;exact eZ #[H1,g,q]
theorem xL{t:TE}(h:PE X e t)(he:∀whole,isTrue e X.env whole=(do let v ←whole;standAt e.pos;holding [v]<|truthy v):=by intro _;rfl):PT X e (tB t):=by
 intro aI s σ H Q I b;calc isTrue_plain (eI (h aI s σ H _ I b) λv s1 z=>?_)<|he _;let⟨x,H1,c,f,a⟩:=z;replace a:=CM a;let⟨d,rfl,q⟩:=a;cases f;exact eZ #[H1,c,q]
variable {tA tB':TT} {gY:List Expr}
def tAnd(t u:TT):TT:=λσ H Q=>t σ H λc H1=>if c=true then u σ H1 Q else Q false H1
def tOr(t u:TT):TT:=λσ H Q=>t σ H λc H1=>if c=true then Q true H1 else u σ H1 Q
def tNot(t:TT):TT:=λσ H Q=>t σ H λc H1=>Q (!c) H1
theorem HU(ha:PT X a tA):PW X (.BoolOp .And [a] pos) tA:=by
 intro b aI s σ H Q I h;calc isTrue_and (eI (ha aI s σ H Q I h) λc s1 e=>?_);cases c with
 |true=>exact isTrue_and_nil e
 |false=>exact e
theorem EB(ha:PT X a tA):PW X (.BoolOp .Or [a] pos) tA:=by
 intro b aI s σ H Q I h;calc isTrue_or (eI (ha aI s σ H Q I h) λc s1 e=>?_);cases c with
 |false=>exact isTrue_or_nil e
 |true=>exact e
theorem EC(ha:PT X a tA)(hb:PW X (.BoolOp .And (b::gY) pos) tB'):PW X (.BoolOp .And (a::b::gY) pos) (tAnd tA tB'):=by
 intro f aI s σ H Q I h;calc isTrue_and (eI (ha aI s σ H _ I h) λc s1 z=>?_);let⟨H1,d,e⟩:=z;cases c with
 |true=>exact hb f aI s1 σ H1 Q d e
 |false=>exact#[H1,d,e]
theorem qL(ha:PT X a tA)(hb:PW X (.BoolOp .Or (b::gY) pos) tB'):PW X (.BoolOp .Or (a::b::gY) pos) (tOr tA tB'):=by
 intro f aI s σ H Q I h;calc isTrue_or (eI (ha aI s σ H _ I h) λc s1 z=>?_);let⟨H1,d,e⟩:=z;cases c with
 |true=>exact#[H1,d,e]
 |false=>exact hb f aI s1 σ H1 Q d e
theorem jK(ha:PT X a tA):PT X (.UnaryOp .Not a pos) (tNot tA):=by
 intro aI s σ H Q I h;exact isTrue_not (ha aI s σ H (λc H1=>Q (!c) H1) I h)
def tAndV(ta tb:TE):TE:=λσ H Q=>ta σ H λx H1=>eg x λc=>if c=true then tb σ H1 Q else Q (.bl false) H1
def tOrV(ta tb:TE):TE:=λσ H Q=>ta σ H λx H1=>eg x λc=>if c=true then Q (.bl true) H1 else tb σ H1 Q
def tNotV(ta:TE):TE:=λσ H Q=>ta σ H λx H1=>eg x λc=>Q (.bl<|!c) H1
theorem kJ{op}{t:TE}(h:PE X a t):PE X (.BoolOp op [a] pos) t:=λaI s σ H Q I b=>BoolOp_one<|h aI s σ H Q I b
theorem kK(ha:PE X a ta)(hb:PE X (.BoolOp .And (b::gY) pos) tb):PE X (.BoolOp .And (a::b::gY) pos) (tAndV ta tb):=by
 intro aI s σ H Q I h;calc BoolOp_and (eI (ha aI s σ H _ I h) λv s1 z=>?_);let⟨x,H1,e,f,d⟩:=z;replace d:=CM d;let⟨c,rfl,d⟩:=d;cases f;calc eZ ?_;cases c with
 |true=>exact hb aI s1 σ H1 Q e d
 |false=>exact#[.bl false,H1,e,rfl,d]
theorem pe_or(ha:PE X a ta)(hb:PE X (.BoolOp .Or (b::gY) pos) tb):PE X (.BoolOp .Or (a::b::gY) pos) (tOrV ta tb):=by
 intro aI s σ H Q I h;calc BoolOp_or (eI (ha aI s σ H _ I h) λv s1 z=>?_);let⟨x,H1,e,f,d⟩:=z;replace d:=CM d;let⟨c,rfl,d⟩:=d;cases f;calc eZ ?_;cases c with
 |false=>exact hb aI s1 σ H1 Q e d
 |true=>exact#[.bl true,H1,e,rfl,d]
theorem EI(ha:PE X a ta):PE X (.UnaryOp .Not a pos) (tNotV ta):=by
 intro aI s σ H Q I h;calc UnaryOp_ (eI (ha aI s σ H _ I h) λv s1 z=>?_);let⟨x,H1,d,e,b⟩:=z;replace b:=CM b;let⟨c,rfl,b⟩:=b;cases e;exact not_of<|eZ #[.bl<|!c,H1,d,rfl,b]
def tIf(t:TT)(ta tb:TE):TE:=λσ H Q=>t σ H λc H1=>if c=true then ta σ H1 Q else tb σ H1 Q
theorem wO{c:Expr}(hc:PT X c tA)(ha:PE X a ta)(hb:PE X b tb):PE X (.IfExp c a b pos) (tIf tA ta tb):=by
 intro aI s σ H Q I h;calc wpAny_IfExp (eI (hc aI s σ H _ I h) λd s1 z=>?_);let⟨H1,e,f⟩:=z;cases d with
 |true=>exact ha aI s1 σ H1 Q e f
 |false=>exact hb aI s1 σ H1 Q e f
end
def dB(K:W.Frag)(H:Hp)(a:Addr)(xs:List V):Prop:=
 Rd H a (.lst xs)\/
  ∃(o:Obj)(its:Array Value)(n:Nat),K.lookup a=some o/\o.cls=.type "list"/\o.dict=none/\o.data=.seq its n/\its.size<=sizeLine/\cY xs its.toList
def cV(K:W.Frag)(H:Hp)(a:Addr)(xs:List V):Prop:=
 Rd H a (.tup xs)\/
  ∃(o:Obj)(its:Array Value)(n:Nat),K.lookup a=some o/\o.cls=.type "tuple"/\o.data=.seq its n/\its.size<=sizeLine/\cY xs its.toList
noncomputable def absV:Value->Option V
 | .none=>some .non
 | .bool b=>some<|.bl b
 | .int i _=>some<|.int i
 | .str x _=>some<|.str x
 | .bytes b _=>some<|.byt b
 | .float b _=>some<|.flt b
 | .ref a=>some<|.ref a
 | .type n=>some<|.ty n
 |_=>none
theorem RelV.abs{x:V}(r:RelV x u):absV u=some x:=by
 cases x with
 |non=>cases r;rfl
 |bl _=>cases r;rfl
 |int _=>let⟨t,rfl⟩:=r;rfl
 |str _=>let⟨t,rfl⟩:=r;rfl
 |byt _=>let⟨t,rfl⟩:=r;rfl
 |flt _=>let⟨t,rfl⟩:=r;rfl
 |ref _=>cases r;rfl
 |ty _=>cases r;rfl
theorem RelV.inj{x:V}(r:RelV x u)(q:RelV y u):x=y:=bY<|r.abs.symm.trans q.abs
theorem cY.inj:∀{xs ys:List V}{us:List Value},cY xs us->cY ys us->xs=ys
 |_,_,_,.nil,.nil=>rfl
 |_,_,_,.cons r t,.cons a t'=>by rw[r.inj a,cY.inj t t']
section
variable {ys:List V}
theorem dB.of(h:H a=some (.lst xs)):dB K H a xs:=.inl<|.inl h
theorem cV.of(h:H a=some (.tup xs)):cV K H a xs:=.inl<|.inl h
theorem Inv.list(I:Inv X aI σ H s)(h:dB X.K H a xs):∃its:List Value,cY xs its/\PlainL s.heap a its.toArray/\xs.length<=sizeLine:=by
 rcases h with h |⟨o,its,n,hk,hc,hd,hs,hz,r⟩
 ·let⟨z,its,n,r,e⟩:=h.ok I.hok;exact#[its,r,#[_,n,e,rfl,rfl,rfl],z]
 ·calc#[its.toList,r,#[o,n,I.kIn a o hk,hc,hd,by simpa using hs],?_];let e:=r.length;simp only[dQ]at e;lia
theorem Inv.tuple(I:Inv X aI σ H s)(h:cV X.K H a xs):∃its:List Value,cY xs its/\IsTup s.heap a its.toArray/\xs.length<=sizeLine:=by
 rcases h with h |⟨o,its,n,hk,hc,hs,hz,r⟩
 ·let⟨z,its,r,p⟩:=h.ok I.hok;exact#[its,r,p,z]
 ·calc#[its.toList,r,#[o,I.kIn a o hk,hc,n,by simpa using hs],?_];let e:=r.length;simp only[dQ]at e;lia
theorem Inv.list_inj(I:Inv X aI σ H s)(h:dB X.K H a xs)(h':dB X.K H a ys):xs=ys:=by
 let⟨its,r,⟨o,n,e,_,_,d⟩,_⟩:=I.list h;let⟨its',f,⟨o',i,b,_,_,c⟩,_⟩:=I.list h';rw[e]at b;cases b;rw[d]at c;injection c with g _
 have :its=its':=by simpa using cQ Array.toList g
 subst this;exact r.inj f
theorem Inv.tuple_inj(I:Inv X aI σ H s)(h:cV X.K H a xs)(h':cV X.K H a ys):xs=ys:=by
 let⟨its,r,⟨o,e,_,n,d⟩,_⟩:=I.tuple h;let⟨its',f,⟨o',b,_,i,c⟩,_⟩:=I.tuple h';rw[e]at b;cases b;rw[d]at c;injection c with g _
 have :its=its':=by simpa using cQ Array.toList g
 subst this;exact r.inj f
end
abbrev Cx.wish(X:Cx)(E:Value->Shared->Prop):Cx:={X with xe:=E}
abbrev Cx.nox(X:Cx):Cx:=X.wish λ_ _=>False
theorem Cx.Ok.wish(ok:X.Ok)(E:Value->Shared->Prop):(X.wish E).Ok:=
 #[ok.mod,ok.kind,ok.glob,ok.blt,ok.above,ok.inj,ok.has,ok.cab,ok.hd,ok.frames,ok.stk,ok.exf,ok.bs,ok.bsz,ok.noex,ok.exfs,ok.funs,ok.frf]
theorem Cx.Ok.unwish(ok:(X.wish E).Ok):X.Ok:=
 #[ok.mod,ok.kind,ok.glob,ok.blt,ok.above,ok.inj,ok.has,ok.cab,ok.hd,ok.frames,ok.stk,ok.exf,ok.bs,ok.bsz,ok.noex,ok.exfs,ok.funs,ok.frf]
theorem Inv.wish(I:Inv X aI σ H s)(E:Value->Shared->Prop):Inv (X.wish E) aI σ H s:=#[I.ok.wish E,I.os,I.bare,I.base,I.loc,I.cell,I.free,I.freeC,I.pin,I.hok,I.len]
theorem Inv.unwish(I:Inv (X.wish E) aI σ H s):Inv X aI σ H s:=#[I.ok.unwish,I.os,I.bare,I.base,I.loc,I.cell,I.free,I.freeC,I.pin,I.hok,I.len]
theorem SP.unwish{f:Flow}(h:SP (X.wish E) aI D f s'):SP X aI D f s':=by
 cases f with
 |next=>let⟨σ',H',I,q⟩:=h;exact#[σ',H',I.unwish,q]
 |brk=>let⟨σ',H',I,q⟩:=h;exact#[σ',H',I.unwish,q]
 |cont=>let⟨σ',H',I,q⟩:=h;exact#[σ',H',I.unwish,q]
 |ret u=>let⟨v,σ',H',I,r,q⟩:=h;exact#[v,σ',H',I.unwish,r,q]
theorem sU.nox{st:List Stmt}{t:TS}(h:sU X.nox st t):sU X st t:=λaI s σ H D I a=>
 eM (h aI s σ H D (I.wish _) a) (λ_ _ q=>q.unwish) λ_ _ z=>False.elim z
section
variable {gY:List Stmt} {t u:TS} {pos:Pos}
def tNext:TS:=λD σ H=>D.nx σ H
def OC(t u:TS):TS:=λD σ H=>t {D with nx:=u D} σ H
theorem zO:sU X [] tNext:=λ_ _ σ H _ I h=>mL #[σ,H,I,h]
theorem zC(h1:PS X st t)(h2:sU X gY u):sU X (st::gY) (OC t u):=by
 intro aI s σ H D I h;calc wpAny_execs_cons (eI (h1 aI s σ H {D with nx:=u D} I h) λf s1 q=>?_);cases f with
 |next=>
  let⟨σ',H',a,q⟩:=q;exact h2 aI s1 σ' H' D a q
 |ret v=>exact q
 |brk=>exact q
 |cont=>exact q
theorem zH(h1:PS X st t):sU X [st] t:=by
 intro aI s σ H D I h;calc wpAny_execs_cons (eI (h1 aI s σ H D I h) λf s1 q=>?_);cases f with
 |next=>exact mL q
 |ret v=>exact q
 |brk=>exact q
 |cont=>exact q
theorem Inv.quiet(I:Inv X aI σ H s):interactive X.env=false:=by simp[interactive,I.ok.kind]
def tDrop(te:TE):TS:=λD σ H=>te σ H λ_ H1=>D.nx σ H1
theorem xE(he:PE X e te)(hs:autoParam (swapsWith e none pos.line X.env=pure false) a1._auto_1):PS X (.Expr e pos) (tDrop te):=by
 intro aI s σ H D I h;exact wpAny_Expr_any (eI (he aI s σ H _ I h) λv s1 ⟨x,H1,a,c,b⟩=>#[σ,H1,a,b]) I.quiet hs
def tRet(te:TE):TS:=λD σ H=>te σ H D.rt
theorem zS(he:PE X e te):PS X (.Return (some e) pos) (tRet te):=by
 intro aI s σ H D I h;exact wpAny_Return_some (eI (he aI s σ H _ I h) λv s1 ⟨x,H1,a,b,c⟩=>#[x,σ,H1,a,b,c])
def tRetN:TS:=λD _ H=>D.rt .non H
theorem bp:PS X (.Return none pos) tRetN:=λ_ _ σ H _ I h=>wpAny_Return_none #[.non,σ,H,I,rfl,h]
def tIfS(c:TT)(t u:TS):TS:=λD σ H=>c σ H λb H1=>if b=true then t D σ H1 else u D σ H1
theorem yD{c:Expr}{a b:List Stmt}{tc:TT}(hc:PT X c tc)(ha:sU X a t)(hb:sU X b u):PS X (.If c a b pos) (tIfS tc t u):=by
 intro aI s σ H D I h;calc wpAny_If (eI (hc aI s σ H _ I h) λd s1 z=>?_);let⟨H1,e,f⟩:=z;cases d with
 |true=>exact ha aI s1 σ H1 D e f
 |false=>exact hb aI s1 σ H1 D e f
def jm:TS:=λ_ _ _=>False
theorem PK:PS X st jm:=λ_ _ _ _ _ _ h=>h.elim
end
abbrev TG:=V->St->Hp->(St->Hp->Prop)->Prop
abbrev i4:=List V->St->Hp->(St->Hp->Prop)->Prop
def PG(X:Cx)(target:Expr)(t:TG):Prop:=
 ∀(aI:List (Addr×Obj)) (s:Shared) (σ:St) (H:Hp) (v:V) (u:Value) (Q:St->Hp->Prop),Inv X aI σ H s->RelV v u->t v σ H Q->
  wpAny (model X.prog X.w) X.A (assign target X.env u) (λ_ s'=>∃σ' H',Inv X aI σ' H' s'/\Q σ' H') X.xe s
def ou(X:Cx)(ts:List Expr)(t:i4):Prop:=
 ∀(aI:List (Addr×Obj)) (s:Shared) (σ:St) (H:Hp) (vs:List V) (us:List Value) (Q:St->Hp->Prop),Inv X aI σ H s->cY vs us->t vs σ H Q->
  wpAny (model X.prog X.w) X.A (assignInOrder ((assignEach ts X.env).map (·.2)) us) (λ_ s'=>∃σ' H',Inv X aI σ' H' s'/\Q σ' H') X.xe s
abbrev WD:=V->V->V->Hp->(Hp->Prop)->Prop
def ek(X:Cx)(t:WD):Prop:=
 ∀(aI:List (Addr×Obj)) (s:Shared) (σ:St) (H:Hp) (o i v:V) (ov iv u:Value) (Q:Hp->Prop),Inv X aI σ H s->RelV o ov->RelV i iv->RelV v u->t o i v H Q->
  wpAny (model X.prog X.w) X.A (setItem ov iv u) (λ_ s'=>∃H',Inv X aI σ H' s'/\Q H') X.xe s
abbrev TIp:=V->V->Hp->VK->Prop
def PIp(X:Cx)(op:Operator)(t:TIp):Prop:=
 ∀(aI:List (Addr×Obj)) (s:Shared) (σ:St) (H:Hp) (x y:V) (v u:Value) (Q:VK),Inv X aI σ H s->RelV x v->RelV y u->t x y H Q->
  wpAny (model X.prog X.w) X.A (inplaceOp op v u) (EP X aI σ Q) X.xe s
section
variable {pos:Pos}
def uV(i:Nat):TG:=λv σ H Q=>Q (σ.set i<|some v) H
theorem wN{x:Str}(hN:X.N.Nodup)(hi:X.N[i]?=some x)(hx:Loc X.env.scope x)(hf:X.fn x=true\/X.env.scope.names.lookup x=some .local:=by first |exact .inl rfl |exact .inr rfl |assumption):PG X (.Name x pos) (uV i):=by
 intro aI s σ H v u Q I r h;exact fg (uZ I hN hi hx r (λs' a=>#[_,H,a,h]) hf)
def uX:i4:=λvs σ H Q=>vs=[]/\Q σ H
def jI(t:TG)(u:i4):i4:=λvs σ H Q=>asC vs λv r=>t v σ H λσ' H'=>u r σ' H' Q
theorem jR:ou X [] uX:=by
 intro aI s σ H vs us Q I r h;let⟨e,h⟩:=h;subst e;cases r;exact assignInOrder_nil #[σ,H,I,h]
theorem yE{t:TG}{u:i4}(h1:PG X e t)(h2:ou X es u)
 (hs:autoParam ((assignEach (e::es) X.env).map (·.2)=assign e X.env::(assignEach es X.env).map (·.2)) a1._auto_1):ou X (e::es) (jI t u):=by
 intro aI s σ H vs us Q I r h;replace h:=asC_ h;let⟨v,f,a,h⟩:=h;subst a;cases r with
 |cons r b=>
  rw[hs];calc assignInOrder_cons (eI (h1 aI s σ H _ _ _ I r h) λ_ s1 z=>?_);let⟨σ1,H1,c,d⟩:=z;exact h2 aI s1 σ1 H1 _ _ Q c b d
def uO(K:W.Frag)(n:Nat)(t:i4):TG:=λv σ H Q=>nZ v λa=>∃xs,cV K H a xs/\xs.length=n/\t xs σ H Q
theorem EG{k:Nat}{t:i4}(hc:X.calm=true)(h:ou X es t)
 (hn:autoParam ((assignEach es X.env).length=n) a1._auto_1) (hst:autoParam ((assignEach es X.env).findIdx? (·.1)=none) a1._auto_1):PG X (.Tuple es k pos) (uO X.K n t):=by
 intro aI s σ H v u Q I r c;replace c:=xG c;let⟨a,d,xs,hq,hl,c⟩:=c;subst d;cases r;let⟨its,rv,ht,hz⟩:=I.tuple hq;refine assign_Tuple_tuple (I.ok.hd hc) ht (by simp[hn,←hl,rv.length]) hst λh' hx=>?_
 let f:Inv X aI σ H {s with heap:=h'}:=I.kept (t':=s.toks) λb o e=>hx b o (bL<|bA e) e
 exact h aI _ σ H xs _ Q f (by simpa using rv) c
def nk(to ti:TE)(t:WD):TG:=λv σ H Q=>to σ H λo H1=>ti σ H1 λi H2=>t o i v H2 λH3=>Q σ H3
theorem EH{i:Expr}{to ti:TE}{t:WD}(ho:PE X o to)(hi:PE X i ti)(hs:ek X t)
 (ha:∀v,assign (.Subscript o i pos) X.env v=(do
  let ov ←holding [v] (eval o X.env)
  let iv ←holding [v,ov] (eval i X.env)
  standAt pos
  holding [v,ov,iv] (setItem ov iv v)
  release [v,ov,iv] []):=by intro _;rfl):PG X (.Subscript o i pos) (nk to ti t):=by
 intro aI s σ H v u Q I r h;rw[ha];calc aE (dI<|eI (ho aI s σ H _ I h) λov s1 z=>?_);let⟨x,H1,a,b,c⟩:=z;calc aE (dI<|eI (hi aI s1 σ H1 _ a c) λiv s2 w=>?_);let⟨y,H2,d,e,f⟩:=w;calc aE (NN<|aE<|dI<|eI (hs aI s2 σ H2 x y v ov iv u _ d b e r f) λ_ l q=>?_);let⟨g,j,k⟩:=q;exact wpAny_release #[σ,g,j,k]
def QL(te:TE)(g:TG):TS:=λD σ H=>te σ H λx H1=>g x σ H1 D.nx
theorem ED{g:TG}(he:PE X e te)(hg:PG X tg g)(hs:autoParam (swapsWithSole [tg] e pos.line X.env=pure false) a1._auto_1)(hw:autoParam (swappedStores [tg] e X.env=pure none) a1._auto_1)
 (h1:autoParam ((assignEach [tg] X.env).map (·.2)=[assign tg X.env]) a1._auto_1):PS X (.Assign [tg] e pos) (QL te g):=by
 intro aI s σ H D I h;calc wpAny_Assign_stores (eI (he aI s σ H _ I h) λv s1 z=>?_) hs hw;let⟨x,H1,a,b,c⟩:=z;rw[h1];exact eI (hg aI s1 σ H1 x v _ a b c) λ_ s2 q=>q
theorem qI{x:Str}(hN:X.N.Nodup)(hi:X.N[i]?=some x)(hx:Loc X.env.scope x)(he:PE X e te)(hs:autoParam (swapsWith e (some<|.Name x pos') pos.line X.env=pure false) a1._auto_1)(hf:X.fn x=true\/X.env.scope.names.lookup x=some .local:=by first |exact .inl rfl |exact .inr rfl |assumption):
 PS X (.Assign [.Name x pos'] e pos) (QL te<|uV i):=by
 intro aI s σ H D I h;calc wpAny_Assign_Name (eI (he aI s σ H _ I h) λv s1 z=>?_) hs;let⟨y,H1,a,b,c⟩:=z;exact uZ a hN hi hx b (λs2 d=>#[_,H1,d,c]) hf
def OG(i:Nat)(te:TE)(ti:TIp):TS:=λD σ H=>asV σ[i]? λx=>te σ H λy H1=>ti x y H1 λz H2=>D.nx (σ.set i<|some z) H2
theorem QW{x:Str}{op:Operator}{ti:TIp}(hN:X.N.Nodup)(hi:X.N[i]?=some x)(hx:Loc X.env.scope x)(he:PE X e te)(ho:PIp X op ti)(hf:X.fn x=true\/X.env.scope.names.lookup x=some .local:=by first |exact .inl rfl |exact .inr rfl |assumption):
 PS X (.AugAssign (.Name x pos') op e pos) (OG i te ti):=by
 intro aI s σ H D I h;replace h:=om h;let⟨v,d,h⟩:=h;let⟨m,hn,hl⟩:=I.loc;let b:Vis X.env.scope x:=by rcases hx with k |k;calc .inl k;exact .inr<|.inl k
 let⟨u,r,l⟩:=hl i x v hi d b;calc wpAny_AugAssign_Name ?_;let go:wpAny (model X.prog X.w) X.A (eval e X.env) (λw s₂=>wpAny (model X.prog X.w) X.A (inplaceOp op u w) (λr s₃=>wpAny (model X.prog X.w) X.A (storeName X.env x r) (λ_=>SP X aI D .next) X.xe s₃) X.xe s₂) X.xe s:=by
  refine eI (he aI s σ H _ I h) λw s1 z=>?_;let⟨y,H1,f,g,j⟩:=z
  refine eI (ho aI s1 σ H1 v y u w _ f r g j) λz s2 z0=>?_;let⟨t,H2,n,o,p⟩:=z0
  exact uZ n hN hi hx o (λB q=>#[_,H2,q,p]) hf
 rcases l with⟨hk,hm⟩ |⟨hk,c,hc,a⟩
 ·exact wpAny_loadName_local I.ok.kind hk hn hm go
 ·rcases hk with hk |hk
  ·exact wpAny_loadName_cell I.ok.kind hk hc a go
  ·rcases hx with k |k
   ·have :X.env.scope.names.lookup x=some .free:=hk;rw[k]at this;cases this
   ·have :X.env.scope.names.lookup x=some .free:=hk;rw[k]at this;cases this
def HA(to ti te:TE)(tget:V->V->Hp->VK->Prop)(tip:TIp)(tset:WD):TS:=λD σ H=>to σ H λo H1=>ti σ H1 λi H2=>tget o i H2 λx H3=>te σ H3 λy H4=>tip x y H4 λz H5=>tset o i z H5 λH6=>D.nx σ H6
def PGet(X:Cx)(t:V->V->Hp->VK->Prop):Prop:=
 ∀(aI:List (Addr×Obj)) (s:Shared) (σ:St) (H:Hp) (o i:V) (ov iv:Value) (Q:VK),Inv X aI σ H s->RelV o ov->RelV i iv->t o i H Q->
  wpAny (model X.prog X.w) X.A (getItem ov iv) (EP X aI σ Q) X.xe s
theorem ZR{i:Expr}{to ti:TE}{tget:V->V->Hp->VK->Prop}{tip:TIp}{tset:WD}{op:Operator}{tpos:Pos}(ho:PE X o to)(hi:PE X i ti)(hg:PGet X tget)(he:PE X e te)(hp:PIp X op tip)(hs:ek X tset)
 (ha:∀ov iv new,augStore i ov iv new=(do holding [new,ov,iv] (setItem ov iv new);release [new,ov,iv] [];pure .next):=by intros;rfl):PS X (.AugAssign (.Subscript o i tpos) op e pos) (HA to ti te tget tip tset):=by
 intro aI s σ H D I h;calc wpAny_AugAssign_SubscriptAny (eI (ho aI s σ H _ I h) λov s1 z0=>?_) ha;let⟨a,H1,f,b,g⟩:=z0;refine eI (hi aI s1 σ H1 _ f g) λiv s2 z1=>?_;let⟨c,H2,j,d,k⟩:=z1
 refine eI (hg aI s2 σ H2 a c ov iv _ j b d k) λold l z2=>?_;let⟨m,n,p,q,r⟩:=z2
 refine eI (he aI l σ n _ p r) λv t z3=>?_;let⟨u,w,x,y,z⟩:=z3
 refine eI (hp aI t σ w m u old v _ x q y z) λnew A z4=>?_;let⟨B,C,E,F,G⟩:=z4
 exact eI (hs aI A σ C a c B ov iv new _ E b d F G) λ_ M ⟨J,K,L⟩=>#[σ,J,K,L]
def TH(f:Int->Int->Int):TIp:=λx y H Q=>rW x λi=>rW y λj=>Q (.int<|f i j) H
theorem m8:PIp X .Add (TH λi j=>i+j):=by
 intro aI s σ H x y v u Q I a b h;replace h:=jW h;let⟨i,c,h⟩:=h;replace h:=jW h;let⟨j,d,q⟩:=h;subst c;subst d;let⟨t,rfl⟩:=a;let⟨t',rfl⟩:=b;exact iadd_int #[.int _,H,I.tok _,#[_,rfl],q]
end
section
variable {pos:Pos}
def DO(c:TT)(tb:TS):TS:=λD σ H=>∃W:Nat->St->Hp->Prop,(∃m,W m σ H)/\∀m σ H,W m σ H->
 c σ H λb H1=>if b=true then∃N:St->Hp->Prop,(∀σ' H',N σ' H'->∃m',m'<m/\W m' σ' H')/\tb {D with nx:=N,ct:=N,bk:=D.nx} σ H1 else D.nx σ H1
theorem tY{c:Expr}{tc:TT}(hp:PassesOwn (model X.prog X.w) X.A X.env X.xe)(hc:PT X c tc)(hb:sU X body tb):PS X (.While c body [] pos) (DO tc tb):=by
 intro aI s σ H D I h;let⟨W,⟨o,p⟩,turn⟩:=h;calc wpAny_While (codeAny_whileLoop (λn s'=>∃σ' H',Inv X aI σ' H' s'/\W n σ' H') ?_ o #[σ,H,I,p]);rintro n s1 ⟨σ1,H1,q,r⟩;calc iL hp (eI (hc aI s1 σ1 H1 _ q<|turn n σ1 H1 r) λb s2 z=>?_);let⟨H2,l,d⟩:=z;cases b with
 |true=>
  let⟨N,m,d⟩:=d;rw[aO rfl];calc iL hp (eI (hb aI s2 σ1 H2 _ l d) λf t e=>?_);cases f with
  |next=>
   let⟨σ3,a,g,i⟩:=e;let⟨j,hm,k⟩:=m σ3 a i;exact#[j,hm,σ3,a,g,k]
  |cont=>
   let⟨σ3,a,g,i⟩:=e;let⟨j,hm,k⟩:=m σ3 a i;exact#[j,hm,σ3,a,g,k]
  |brk=>exact e
  |ret v=>exact e
 |false=>
  rw[aH aY];exact mL #[σ1,H2,l,d]
end
structure It where
 go:Nat->Hp->Prop
 yld:Nat->Hp->V->Hp->Prop
 stop:Nat->Hp->Prop
def kX(X:Cx)(aI:List (Addr×Obj))(H:Hp)(b:Addr):Prop:=
 H b=none/\b≠X.env.locals/\b∉X.fs/\(b∈X.ex\/X.s₀.heap.objs.size<=b)/\(∀x c,X.env.cells.lookup x=some c->c≠b)/\∀p∈X.pn++aI,p.1≠b
theorem Inv.fpOk(I:Inv X aI σ H s)(hb:s.heap.objs.size<=b)(hn:H' b=none):kX X aI H' b:=by
 refine#[hn,GN<|bQ I.lt hb,I.nofs hb,.inr<|bT I.sz hb,λx c e z=>?_,λp hp z=>?_]
 ·let⟨v,q⟩:=I.cell x c e;exact absurd (bQ q.lt (by rw[z];calc hb))<|dO _
 ·exact absurd (bQ (bA (I.pin p hp).1) (by rw[z];calc hb))<|dO _
structure MY(P:Program)(w:World)(K:W.Frag)(tg:Expr)(J:It)(fp:List Addr)(it:Addr)(tn:Nat->Heap->Prop):Prop where
 mem:it∈fp
 obj:∀i h,tn i h->∀b∈fp,∃o,h.get? b=some o/\∀v,o.data≠.cell v
 keep:∀i h h',tn i h->(∀b∈fp,∀o,h.get? b=some o->h'.get? b=some o)->tn i h'
 item:∀(X:Cx),X.prog=P->X.w=w->X.K=K->X.calm=true->∀(i:Nat)(aI:List (Addr×Obj))(s:Shared)(σ:St)(H:Hp)(E:Value->Shared->Prop),Inv X aI σ H s->(∀b∈fp,kX X aI H b)->tn i s.heap->J.go i H->
  wpAny (model P w) X.A (pyNext<|.ref it) (λr s1=>∃u,r=some u/\
   wpAny (model P w) X.A (letOwnedTupleGo tg (.ref it) u) (λ_ s2=>∃x H',Inv X aI σ H' s2/\RelV x u/\J.yld i H x H'/\tn (i+1) s2.heap/\∀b∈fp,H' b=none) E s1) E s
 done:∀(X:Cx),X.prog=P->X.w=w->X.K=K->X.calm=true->∀(i:Nat)(aI:List (Addr×Obj))(s:Shared)(σ:St)(H:Hp)(E:Value->Shared->Prop),Inv X aI σ H s->(∀b∈fp,kX X aI H b)->tn i s.heap->J.stop i H->
  wpAny (model P w) X.A (pyNext<|.ref it) (λr s1=>r=none/\Inv X aI σ H s1) E s
 self:∀(A:Around)(i:Nat)(s:Shared)(Q:Value->Shared->Prop)(E:Value->Shared->Prop),tn i s.heap->Q (.ref it) s->wpAny (model P w) A (pyIter<|.ref it) Q E s
abbrev TI:=St->Hp->(It->Hp->Prop)->Prop
def PIE(X:Cx)(aI:List (Addr×Obj))(σ:St)(tg:Expr)(R:It->Hp->Prop)(itv:Value)(s2:Shared):Prop:=
 ∃(it:Addr)(fp:List Addr)(tn:Nat->Heap->Prop)(J:It)(H':Hp),itv=.ref it/\Inv X aI σ H' s2/\MY X.prog X.w X.K tg J fp it tn/\tn 0 s2.heap/\(∀b∈fp,kX X aI H' b)/\R J H'
def PI(X:Cx)(tg iter:Expr)(wi:TI):Prop:=
 ∀(aI:List (Addr×Obj)) (s:Shared) (σ:St) (H:Hp) (R:It->Hp->Prop),Inv X aI σ H s->wi σ H R->
  wpAny (model X.prog X.w) X.A (eval iter X.env) (λv s1=>wpAny (model X.prog X.w) X.A (pyIter v) (PIE X aI σ tg R) X.xe s1) X.xe s
theorem TN{o:Obj}{n:String}{vs:Array Value}{Q:Unit->Shared->Prop}(ho:s.heap.get? it=some o)(hc:o.cls=.type n)(hd:o.data=.fields vs)
 (hn:["enumerate","zip","dict_itemiterator","dict_reverseitemiterator","odict_iterator","itertools.zip_longest","itertools.pairwise"].contains n=false) (hQ:Q Unit.unit s):wpAny M A (letOwnedTupleGo tg (.ref it) u) Q E s:=by
 unfold letOwnedTupleGo;cases tg<;>first
  |exact aS hQ
  |(cases u<;>first
   |exact aS hQ
   |(refine aE<|wpAny_load ho ?_
     rw[hc,hd];show wpAny M A (if(["enumerate","zip","dict_itemiterator","dict_reverseitemiterator","odict_iterator","itertools.zip_longest","itertools.pairwise"].contains n&&vs[0]?==some (rawInt _))=true then _ else _) Q E s;rw[aH (by intro h;rw[hn,fI]at h;cases h)];calc aS hQ))
def er(K:W.Frag)(a:Addr):It:=
 #[λi H=>∃xs x,dB K H a xs/\xs[i]?=some x,λi H x H'=>H'=H/\∀xs,dB K H a xs->xs[i]?=some x,λi H=>∃xs,dB K H a xs/\xs.length<=i]
def i9(K:W.Frag)(a:Addr):It:=
 #[λi H=>∃xs x,cV K H a xs/\xs[i]?=some x,λi H x H'=>H'=H/\∀xs,cV K H a xs->xs[i]?=some x,λi H=>∃xs,cV K H a xs/\xs.length<=i]
def WG(lo:Int)(n:Nat):It:=#[λi _=>i<n,λi H x H'=>H'=H/\x=.int (lo+i),λi _=>n<=i]
theorem KO(a it:Addr):MY P w K tg (er K a) [it] it (λi h=>h.IsListIter it a i) where
 mem:=by simp
 obj:=λi h st b hb=>by
  let e:b=it:=by simpa using hb
  subst e;let⟨o,e,c,d⟩:=st;exact#[o,e,λv z=>by rw[d]at z;cases z]
 keep:=λi h h' st k=>st.at λo e=>k it (by simp) o e
 item:=by
  intro X g j l hc i aI s σ H E I hf st m;subst g j l;let⟨xs,x,hq,hx⟩:=m;let⟨its,rv,p,hz⟩:=I.list hq;let⟨u,hu,A⟩:=rv.get hx;let⟨n,q,B,r,t,y⟩:=hf it (by simp);refine sK st p.isList (x:=u) (by simpa using hu) λh' f C=>?_
  let D:Inv X aI σ H {s with heap:=h'}:=I.turned (t':=s.toks) (λb o hb e=>(C.2 b hb).trans e) n q r t y;let⟨o,e,c,d⟩:=id f;exact#[u,rfl,TN (s:={s with heap:=h'}) e c d (by decide) #[x,H,D,A,#[rfl,λys hy=>by rw[I.list_inj hy hq];calc hx],f,λb hb=>(hf b hb).1]]
 done:=by
  intro X g j l hc i aI s σ H E I hf st m;subst g j l;let⟨xs,hq,hx⟩:=m;let⟨its,rv,p,hz⟩:=I.list hq;let⟨n,q,B,r,t,y⟩:=hf it (by simp);let hl:=rv.length;exact CW (I.ok.hd hc) st p.isList (by simp;lia) λh' F=>#[rfl,I.turned (t':=s.toks) (λb o hb e=>F b o hb e) n q r t y]
 self:=λ_ _ _ _ _ st h=>wpAny_pyIter_listiter st h
theorem DJ(a it:Addr):MY P w K tg (i9 K a) [it] it (λi h=>h.IsTupleIter it a i) where
 mem:=by simp
 obj:=λi h st b hb=>by
  let e:b=it:=by simpa using hb
  subst e;let⟨o,e,c,d⟩:=st;exact#[o,e,λv z=>by rw[d]at z;cases z]
 keep:=λi h h' st k=>st.at λo e=>k it (by simp) o e
 item:=by
  intro X g j l hc i aI s σ H E I hf st m;subst g j l;let⟨xs,x,hq,hx⟩:=m;let⟨its,rv,p,hz⟩:=I.tuple hq;let⟨u,hu,A⟩:=rv.get hx;let⟨n,q,B,r,t,y⟩:=hf it (by simp);refine wpAny_pyNext_tuple_item st (show s.heap.IsTuple a its.toArray from p) (x:=u) (by simpa using hu) λh' f C=>?_
  let D:Inv X aI σ H {s with heap:=h'}:=I.turned (t':=s.toks) (λb o hb e=>(C.2 b hb).trans e) n q r t y;let⟨o,e,c,d⟩:=id f;exact#[u,rfl,TN (s:={s with heap:=h'}) e c d (by decide) #[x,H,D,A,#[rfl,λys hy=>by rw[I.tuple_inj hy hq];calc hx],f,λb hb=>(hf b hb).1]]
 done:=by
  intro X g j l hc i aI s σ H E I hf st m;subst g j l;let⟨xs,hq,hx⟩:=m;let⟨its,rv,p,hz⟩:=I.tuple hq;let⟨n,q,B,r,t,y⟩:=hf it (by simp);let hl:=rv.length;exact wpAny_pyNext_tuple_end (I.ok.hd hc) st (show s.heap.IsTuple a its.toArray from p) (by simp;lia) λh' F=>#[rfl,I.turned (t':=s.toks) (λb o hb e=>F b o hb e) n q r t y]
 self:=λ_ _ _ _ _ st h=>wpAny_pyIter_tupleiter st h
theorem DK(it:Addr)(lo:Int)(n:Nat):MY P w K tg (WG lo n) [it] it (λi h=>IsRangeIter h it (lo+(i:Nat)*1) ((n:Int)-(i:Nat)) 1) where
 mem:=by simp
 obj:=λi h st b hb=>by
  let e:b=it:=by simpa using hb
  subst e;exact#[_,st,λv z=>by
   let z':Data.fields _=Data.cell v:=z;cases z']
 keep:=λi h h' st k=>k it (by simp) _ st
 item:=by
  intro X c d f hc i aI s σ H E I hf st g;subst c d f;let⟨j,l,r,m,p,q⟩:=hf it (by simp);let W:=Walks.range (prog:=X.prog) (w:=X.w) (I.ok.hd hc) it lo 1 n;refine W.item i s _ _ g st λv h' tk u a x=>?_
  let⟨t,rfl⟩:=u;let y:Inv X aI σ H {s with heap:=h',toks:=tk}:=I.turned (λb o hb e=>x b o (by simpa using hb) e) j l m p q;calc#[_,rfl,TN (s:={s with heap:=h',toks:=tk}) (n:="range_iterator") a rfl rfl (by decide) #[.int<|lo+i,H,y,#[t,?_],#[rfl,rfl],a,λb hb=>(hf b hb).1]];rw[Int.mul_one]
 done:=by
  intro X c d f hc i aI s σ H E I hf st g;subst c d f;let⟨j,l,r,m,p,q⟩:=hf it (by simp);exact wpAny_pyNext_range_end (I.ok.hd hc) st (by have :n<=i:=g;lia) λh' A=>#[rfl,I.turned (t':=s.toks) (λb o hb e=>A b o hb e) j l m p q]
 self:=λ_ _ _ _ _ st h=>wpAny_pyIter_rangeiter st h
def iq(K:W.Frag)(tl:TE):TI:=λσ H R=>tl σ H λx H1=>nZ x λa=>(∃xs,dB K H1 a xs)/\R (er K a) H1
def iTup(K:W.Frag)(tl:TE):TI:=λσ H R=>tl σ H λx H1=>nZ x λa=>(∃xs,cV K H1 a xs)/\R (i9 K a) H1
theorem vO{l:Expr}{tl:TE}(hl:PE X l tl):PI X tg l (iq X.K tl):=by
 intro aI s σ H R I h;refine eI (hl aI s σ H _ I h) λv s1 z=>?_;let⟨x,H1,c,f,d⟩:=z
 replace d:=xG d;let⟨a,e,⟨xs,hq⟩,q⟩:=d;subst e;cases f;let⟨its,rv,p,hz⟩:=c.list hq;calc rE p.isList ?_;calc#[s1.heap.objs.size,[s1.heap.objs.size],_,_,H1,rfl,c.kept (t':=s1.toks) λb o e=>aT _ e,KO a _,#[_,bR _ rfl,rfl,rfl],λb hb=>?_,q];let e:b=s1.heap.objs.size:=by simpa using hb
 subst e;exact c.fpOk (aG _)<|c.hok.fresh<|aG _
theorem kI{l:Expr}{tl:TE}(hl:PE X l tl):PI X tg l (iTup X.K tl):=by
 intro aI s σ H R I h;refine eI (hl aI s σ H _ I h) λv s1 z=>?_;let⟨x,H1,c,f,d⟩:=z
 replace d:=xG d;let⟨a,e,⟨xs,hq⟩,q⟩:=d;subst e;cases f;let⟨its,rv,p,hz⟩:=c.tuple hq;calc wpAny_pyIter_tuple (show s1.heap.IsTuple a its.toArray from p) ?_;calc#[s1.heap.objs.size,[s1.heap.objs.size],_,_,H1,rfl,c.kept (t':=s1.toks) λb o e=>aT _ e,DJ a _,#[_,bR _ rfl,rfl,rfl],λb hb=>?_,q];let e:b=s1.heap.objs.size:=by simpa using hb
 subst e;exact c.fpOk (aG _)<|c.hok.fresh<|aG _
theorem tX{R:It->Hp->Prop}{lo hi:Int}{t u v:Tok}{tk:Nat}(I:Inv X aI σ H s)(h1: -(2^62)<=lo)(h2:lo<2^62)(h3: -(2^62)<=hi)(h4:hi<2^62)
 (q:R (WG lo (hi-lo).toNat) H):wpAny (model X.prog X.w) X.A (pyIter<|.ref s.heap.objs.size) (PIE X aI σ tg R) E {s with heap:=s.heap.push {cls:=.type "range",data:=.fields (List.toArray [.int lo t,.int hi u,.int 1 v])},toks:=tk}:=by
 calc wpAny_pyIter_range (IsRange.new ..) (small_one h1 h2 h3 h4) ?_;let a:Inv X aI σ H {s with heap:=s.heap.push {cls:=.type "range",data:=.fields (List.toArray [.int lo t,.int hi u,.int 1 v])},toks:=tk}:=I.kept λb o e=>aT _ e
 refine#[(s.heap.push {cls:=.type "range",data:=.fields (List.toArray [.int lo t,.int hi u,.int 1 v])}).objs.size,[(s.heap.push {cls:=.type "range",data:=.fields (List.toArray [.int lo t,.int hi u,.int 1 v])}).objs.size],_,_,H,rfl,
  a.kept (t':=tk) λb o e=>aT _ e,DK _ lo (hi-lo).toNat,?_,λb hb=>?_,q]
 ·let c:lo+((0:Nat):Int)*1=lo:=by simp
  let d:(((hi-lo).toNat:Nat):Int)-((0:Nat):Int)=Builtin.Range.rangeSize lo hi 1:=by rw[rangeSize_one];split<;>lia
  show IsRangeIter _ _ (lo+((0:Nat):Int)*1) ((((hi-lo).toNat:Nat):Int)-((0:Nat):Int)) 1;rw[c,d];exact bR _ rfl
 ·let e:b=(s.heap.push {cls:=.type "range",data:=.fields (List.toArray [.int lo t,.int hi u,.int 1 v])}).objs.size:=by simpa using hb
  subst e;exact a.fpOk (aG _)<|a.hok.fresh<|aG _
def iRng1(ta:TA):TI:=λσ H R=>ta σ H λvs H1=>pP vs λx=>rW x λj=> -(2^62)<=j/\j<2^62/\R (WG 0 j.toNat) H1
def iRng2(ta:TA):TI:=λσ H R=>ta σ H λvs H1=>WR vs λx y=>rW x λi=>rW y λj=>(-(2^62)<=i/\i<2^62/\ -(2^62)<=j/\j<2^62)/\R (WG i (j-i).toNat) H1
theorem LL{a:Expr}{ta:TA}{p pos:Pos}(hg:Gl X "range")(hm:X.mg "range"=none)(ha:PA X [a] ta)(hs:autoParam (starEach [a] X.env=[(false,eval a X.env)]) a1._auto_1):PI X tg (.Call (.Name "range" p) [a] [] pos) (iRng1 ta):=by
 intro aI s σ H R I h;calc Call_ (uL I hg hm boot_range<|dS (eI (ha pos aI s σ H _ I h) λus s1 z=>?_) hs rfl);let⟨vs,H1,c,d,b⟩:=z;replace b:=kE b;let⟨x,e,b⟩:=b;replace b:=jW b;let⟨j,rfl,b,f,q⟩:=b;subst e;cases d with
 |cons r g=>
  cases g;let⟨t,rfl⟩:=r;exact call_range_1 (tX c () () b f (by simpa using q))
theorem LK{a b:Expr}{ta:TA}{p pos:Pos}(hg:Gl X "range")(hm:X.mg "range"=none)(ha:PA X [a,b] ta)(hs:autoParam (starEach [a,b] X.env=[(false,eval a X.env),(false,eval b X.env)]) a1._auto_1)(hs2:autoParam (starEach [b] X.env=[(false,eval b X.env)]) a1._auto_1):
 PI X tg (.Call (.Name "range" p) [a,b] [] pos) (iRng2 ta):=by
 intro aI s σ H R I h;calc Call_ (uL I hg hm boot_range<|dS (eI (ha pos aI s σ H _ I h) λus s1 z=>?_) (by rw[hs,hs2]) (by rw[hs2];rfl));let⟨vs,H1,f,g,c⟩:=z;replace c:=as2_ c;let⟨x,y,e,c⟩:=c;replace c:=jW c;let⟨i,rfl,c⟩:=c;replace c:=jW c;let⟨j,rfl,⟨c,k,l,m⟩,q⟩:=c;subst e;cases g with
 |cons r d=>
  cases d with
  |cons n d=>
   cases d;let⟨t,rfl⟩:=r;let⟨t',rfl⟩:=n;exact call_range_2<|tX f c k l m q
def tFor(wi:TI)(g:TG)(tb:TS):TS:=λD σ H=>wi σ H λJ H1=>∃W:Nat->Nat->St->Hp->Prop,(∃m,W 0 m σ H1)/\∀i m σ H,W i m σ H->
 (J.stop i H/\D.nx σ H)\/(J.go i H/\∃N:St->Hp->Prop,(∀σ' H',N σ' H'->∃m',m'<m/\W (i+1) m' σ' H')/\∀x H',J.yld i H x H'->g x σ H' λσ2 H2=>tb {D with nx:=N,ct:=N,bk:=D.nx} σ2 H2)
noncomputable def qR(fp:List Addr)(h:Heap):List (Addr×Obj):=fp.filterMap λb=>(h.get? b).map λo=>(b,o)
theorem jN{o:Obj}(hb:b∈fp)(e:h.get? b=some o):(b,o)∈qR fp h:=gQ.mpr #[b,hb,by rw[e];rfl]
theorem JN{p:Addr×Obj}(hp:p∈qR fp h):p.1∈fp/\h.get? p.1=some p.2:=by
 let⟨b,hb,e⟩:=gQ.mp hp;cases q:h.get? b with
 |none=>rw[q]at e;cases e
 |some o=>
  rw[q]at e;let a:(b,o)=p:=bY e;subst a;exact#[hb,q]
theorem Inv.pinned(I:Inv X aI σ H s)(hf:∀b∈fp,kX X aI H b)(ho:∀b∈fp,∃o,s.heap.get? b=some o/\∀v,o.data≠.cell v):Inv X (aI++qR fp s.heap) σ H s:=
 I.pins_of λp hp=>(cD.mp hp).elim (λz=>I.pin p<|bB _ z) λz=>by
  let⟨hb,e⟩:=JN z;let⟨c,f,g,_⟩:=hf p.1 hb;let⟨o,a,d⟩:=ho p.1 hb;rw[e]at a;cases a;exact#[e,c,f,g,d]
theorem Inv.unpinned{pl:List (Addr×Obj)}(I:Inv X (aI++pl) σ H s):Inv X aI σ H s:=I.pins_of λp hp=>I.pin p<|bB _<|cG _ hp
theorem yC{g:TG}{pos:Pos}(hp:PassesOwn (model X.prog X.w) X.A X.env X.xe)(hc:X.calm=true)(hi:PI X tg iter wi)(hg:PG X tg g)(hb:sU X body tb)
 (hs:∀x,foldedSetIterable iter X.env x=pure x:=by intro _;rfl):PS X (.For tg iter body [] pos) (tFor wi g tb):=by
 intro aI s σ H D I h;calc wpAny_For (eI (hi aI s σ H _ I h) λv s1 h1=>eI h1 λitv s2 h2=>?_) hs;let⟨it,fp,tn,J,H2,e,M,T,y,E,W,⟨O,P⟩,turn⟩:=h2;subst e;let stat:∀{H':Hp},(∀b∈fp,H' b=none)->∀b∈fp,kX X aI H' b:=λhn b hb=>#[hn b hb,(E b hb).2]
 calc codeAny_forLoop_any (λn s'=>∃i σ' H',Inv X aI σ' H' s'/\tn i s'.heap/\(∀b∈fp,H' b=none)/\W i n σ' H') ?_ O #[0,σ,H2,M,y,λb hb=>(E b hb).1,P];rintro n F ⟨i,σ3,t,G,l,p,Q⟩;rcases turn i n σ3 t Q with⟨stop,R⟩ |⟨go,N,S,step⟩
 ·calc iL hp (eI (T.done X rfl rfl rfl hc i aI F σ3 t X.xe G (stat p) l stop) λr U r=>?_);let⟨hr,Y⟩:=r;subst hr;exact mL #[σ3,t,Y,R]
 ·calc iL hp (eI (T.item X rfl rfl rfl hc i aI F σ3 t X.xe G (stat p) l go) λr U z0=>?_);let⟨u,hr,Z⟩:=z0;subst hr;calc iL hp (eI Z λ_ K z1=>?_);let⟨x,L,I5,r5,y5,k,z⟩:=z1;let B:=I5.pinned (stat z)<|T.obj _ _ k;calc iL hp (eI (hg _ K σ3 L x u _ B r5<|step x L y5) λ_ s6 z2=>?_);let⟨σ6,H6,I6,q6⟩:=z2;calc iL hp (eI (hb _ s6 σ6 H6 _ I6 q6) λf C j=>?_);let again:∀{σ7:St}{a:Hp},Inv X (aI++qR fp K.heap) σ7 a C->N σ7 a->∃m,m<n/\∃i σ' H',Inv X aI σ' H' C/\tn i C.heap/\(∀b∈fp,H' b=none)/\W i m σ' H':=λ{σ7 a} c q=>by
   let⟨m',hm,w7⟩:=S σ7 a q;calc#[m',hm,i+1,σ7,a,c.unpinned,T.keep _ _ _ k λb hb o e=>(c.pin (b,o)<|bB _<|bB _<|jN hb e).1,λb hb=>?_,w7];let⟨o,e,d⟩:=T.obj _ _ k b hb;exact(c.pin (b,o)<|bB _<|bB _<|jN hb e).2.1
  cases f with
  |next=>let⟨σ7,a,c,q⟩:=j;exact again c q
  |cont=>let⟨σ7,a,c,q⟩:=j;exact again c q
  |brk=>let⟨σ7,a,c,j⟩:=j;exact#[σ7,a,c.unpinned,j]
  |ret v=>let⟨x7,σ7,a,c,r7,j⟩:=j;exact#[x7,σ7,a,c.unpinned,r7,j]
theorem BQ{g:TG}(Pv:Nat->St->Hp->Prop)(h0:Pv 0 σ H)(hl:∀i σ H,i<=xs.length->Pv i σ H->dB K H a xs)
 (hs:∀i x σ H,xs[i]?=some x->Pv i σ H->g x σ H λσ2 H2=>tb {D with nx:=Pv (i+1),ct:=Pv (i+1),bk:=D.nx} σ2 H2) (hd:∀σ H,Pv xs.length σ H->D.nx σ H):
 ∃W:Nat->Nat->St->Hp->Prop,(∃m,W 0 m σ H)/\∀i m σ H,W i m σ H->
  ((er K a).stop i H/\D.nx σ H)\/((er K a).go i H/\∃N:St->Hp->Prop,(∀σ' H',N σ' H'->∃m',m'<m/\W (i+1) m' σ' H')/\∀x H',(er K a).yld i H x H'->g x σ H' λσ2 H2=>tb {D with nx:=N,ct:=N,bk:=D.nx} σ2 H2):=by
 calc#[λi m σ H=>m=xs.length-i/\i<=xs.length/\Pv i σ H,#[xs.length,by simp,cO _,h0],?_];rintro i m σ H ⟨rfl,hi,p⟩;let q:=hl i σ H hi p;by_cases lR:i<xs.length
 ·calc .inr #[#[xs,xs[i],q,by simp[lR]],Pv<|i+1,λσ' H' b=>#[xs.length-(i+1),(),rfl,lR,b],λx H' y=>?_];let⟨e,y⟩:=y;subst e;exact hs i x σ _ (y xs q) p
 ·let e:i=xs.length:=by lia
  subst e;exact .inl #[#[xs,q,aG _],hd σ H p]
theorem IP{g:TG}(Pv:Nat->St->Hp->Prop)(h0:Pv 0 σ H)(hl:∀i σ H,i<=xs.length->Pv i σ H->cV K H a xs)
 (hs:∀i x σ H,xs[i]?=some x->Pv i σ H->g x σ H λσ2 H2=>tb {D with nx:=Pv (i+1),ct:=Pv (i+1),bk:=D.nx} σ2 H2) (hd:∀σ H,Pv xs.length σ H->D.nx σ H):
 ∃W:Nat->Nat->St->Hp->Prop,(∃m,W 0 m σ H)/\∀i m σ H,W i m σ H->
  ((i9 K a).stop i H/\D.nx σ H)\/((i9 K a).go i H/\∃N:St->Hp->Prop,(∀σ' H',N σ' H'->∃m',m'<m/\W (i+1) m' σ' H')/\∀x H',(i9 K a).yld i H x H'->g x σ H' λσ2 H2=>tb {D with nx:=N,ct:=N,bk:=D.nx} σ2 H2):=by
 calc#[λi m σ H=>m=xs.length-i/\i<=xs.length/\Pv i σ H,#[xs.length,by simp,cO _,h0],?_];rintro i m σ H ⟨rfl,hi,p⟩;let q:=hl i σ H hi p;by_cases lR:i<xs.length
 ·calc .inr #[#[xs,xs[i],q,by simp[lR]],Pv<|i+1,λσ' H' b=>#[xs.length-(i+1),(),rfl,lR,b],λx H' y=>?_];let⟨e,y⟩:=y;subst e;exact hs i x σ _ (y xs q) p
 ·let e:i=xs.length:=by lia
  subst e;exact .inl #[#[xs,q,aG _],hd σ H p]
theorem JS{lo:Int}{g:TG}(Pv:Nat->St->Hp->Prop)(h0:Pv 0 σ H)
 (hs:∀i σ H,i<n->Pv i σ H->g (.int<|lo+i) σ H λσ2 H2=>tb {D with nx:=Pv (i+1),ct:=Pv (i+1),bk:=D.nx} σ2 H2) (hd:∀σ H,Pv n σ H->D.nx σ H):
 ∃W:Nat->Nat->St->Hp->Prop,(∃m,W 0 m σ H)/\∀i m σ H,W i m σ H->
  ((WG lo n).stop i H/\D.nx σ H)\/((WG lo n).go i H/\∃N:St->Hp->Prop,(∀σ' H',N σ' H'->∃m',m'<m/\W (i+1) m' σ' H')/\∀x H',(WG lo n).yld i H x H'->g x σ H' λσ2 H2=>tb {D with nx:=N,ct:=N,bk:=D.nx} σ2 H2):=by
 calc#[λi m σ H=>m=n-i/\i<=n/\Pv i σ H,#[n,by simp,cO _,h0],?_];rintro i m σ H ⟨rfl,hi,p⟩;by_cases lR:i<n
 ·calc .inr #[lR,Pv<|i+1,λσ' H' a=>#[n-(i+1),(),rfl,lR,a],λx H' y=>?_];let⟨e,y⟩:=y;subst e y;exact hs i σ _ lR p
 ·let e:i=n:=by lia
  subst e;exact .inl #[aG _,hd σ H p]
abbrev R2:=V->V->Hp->VK->Prop
def oC(X:Cx)(f:Value->Value->Sem Value)(r:R2):Prop:=
 ∀(aI:List (Addr×Obj)) (s:Shared) (σ:St) (H:Hp) (x y:V) (v u:Value) (Q:VK),Inv X aI σ H s->RelV x v->RelV y u->r x y H Q->
  wpAny (model X.prog X.w) X.A (f v u) (EP X aI σ Q) X.xe s
def UnR(X:Cx)(f:Value->Sem Value)(r:V->Hp->VK->Prop):Prop:=
 ∀(aI:List (Addr×Obj)) (s:Shared) (σ:St) (H:Hp) (x:V) (v:Value) (Q:VK),Inv X aI σ H s->RelV x v->r x H Q->
  wpAny (model X.prog X.w) X.A (f v) (EP X aI σ Q) X.xe s
def jG(X:Cx)(f:Value)(r:List V->Hp->VK->Prop):Prop:=
 ∀(aI:List (Addr×Obj)) (s:Shared) (σ:St) (H:Hp) (xs:List V) (us:List Value) (Q:VK),Inv X aI σ H s->cY xs us->r xs H Q->
  wpAny (model X.prog X.w) X.A (call f us) (EP X aI σ Q) X.xe s
def TruR(X:Cx)(r:V->Hp->(Bool->Hp->Prop)->Prop):Prop:=
 ∀(aI:List (Addr×Obj)) (s:Shared) (σ:St) (H:Hp) (x:V) (v:Value) (Q:Bool->Hp->Prop),Inv X aI σ H s->RelV x v->r x H Q->
  wpAny (model X.prog X.w) X.A (truthy v) (TP X aI σ Q) X.xe s
def tOp(r:R2)(ta tb:TE):TE:=λσ H Q=>ta σ H λx H1=>tb σ H1 λy H2=>r x y H2 Q
def tUn(r:V->Hp->VK->Prop)(ta:TE):TE:=λσ H Q=>ta σ H λx H1=>r x H1 Q
def rI(C:Int->Int->Prop)(g:Int->Int->V):R2:=λx y H Q=>rW x λi=>rW y λj=>C i j/\Q (g i j) H
def WP(g:Int->Int->V):R2:=λx y H Q=>rW x λi=>rW y λj=>Q (g i j) H
def rU(g:Int->V):V->Hp->VK->Prop:=λx H Q=>rW x λi=>Q (g i) H
section
variable {a b c:Expr} {tb tc:TE} {pos:Pos}
theorem oh(ha:PE X a ta)(hb:PE X b tb){R:V->V->Hp->Prop}(I:Inv X aI σ H s)
 (h:ta σ H λx H1=>tb σ H1 λy H2=>R x y H2) {f:Value->Value->Sem Value}
 (hf:∀v u s2 x y H2,Inv X aI σ H2 s2->RelV x v->RelV y u->R x y H2->wpAny (model X.prog X.w) X.A (f v u) Q X.xe s2):
 wpAny (model X.prog X.w) X.A (eval a X.env) (λv s₁=>wpAny (model X.prog X.w) X.A (eval b X.env) (λu s₂=>wpAny (model X.prog X.w) X.A (f v u) Q X.xe s₂) X.xe s₁) X.xe s:=by
 refine eI (ha aI s σ H _ I h) λv s1 z=>?_;let⟨x,H1,c,d,e⟩:=z
 refine eI (hb aI s1 σ H1 _ c e) λu s2 t=>?_;let⟨y,H2,g,i,j⟩:=t
 exact hf v u s2 x y H2 g d i j
theorem jZ{op:Operator}{r:R2}(ho:oC X (binaryOp op) r)(ha:PE X a ta)(hb:PE X b tb):PE X (.BinOp a op b pos) (tOp r ta tb):=by
 intro aI s σ H Q I h;exact wpAny_BinOp (oh ha hb I h λv u s2 x y H2 c d e q=>ho aI s2 σ H2 x y v u Q c d e q)
theorem PU{op:UnaryOp}{r:V->Hp->VK->Prop}(ho:UnR X (unaryOp op) r)(ha:PE X a ta):PE X (.UnaryOp op a pos) (tUn r ta):=by
 intro aI s σ H Q I h;exact UnaryOp_ (eI (ha aI s σ H _ I h) λv s1 ⟨x,H1,b,c,d⟩=>ho aI s1 σ H1 x v Q b c d)
theorem opI{f:Value->Value->Sem Value}{C:Int->Int->Prop}{g:Int->Int->Int}
 (rule:∀(i j:Int)(t u:Tok)(s:Shared)(Q:Value->Shared->Prop)(E:Value->Shared->Prop),C i j->Q (.int (g i j) s.toks) {s with toks:=s.toks+1}->wpAny (model X.prog X.w) X.A (f (.int i t)<|.int j u) Q E s):
 oC X f (rI C λi j=>.int<|g i j):=by
 intro aI s σ H x y v u Q I a b h;replace h:=jW h;let⟨i,rfl,h⟩:=h;replace h:=jW h;let⟨j,rfl,hc,q⟩:=h;let⟨t,rfl⟩:=a;let⟨t',rfl⟩:=b;exact rule i j t t' s _ _ hc #[.int<|g i j,H,I.tok _,#[_,rfl],q]
theorem b8{f:Value->Value->Sem Value}{g:Int->Int->Int}
 (rule:∀(i j:Int)(t u:Tok)(s:Shared)(Q:Value->Shared->Prop)(E:Value->Shared->Prop),Q (.int (g i j) s.toks) {s with toks:=s.toks+1}->wpAny (model X.prog X.w) X.A (f (.int i t)<|.int j u) Q E s):
 oC X f (WP λi j=>.int<|g i j):=by
 intro aI s σ H x y v u Q I a b h;replace h:=jW h;let⟨i,rfl,h⟩:=h;replace h:=jW h;let⟨j,rfl,q⟩:=h;let⟨t,rfl⟩:=a;let⟨t',rfl⟩:=b;exact rule i j t t' s _ _ #[.int<|g i j,H,I.tok _,#[_,rfl],q]
theorem b9{f:Value->Value->Sem Value}{g:Int->Int->Bool}
 (rule:∀(i j:Int)(t u:Tok)(s:Shared)(Q:Value->Shared->Prop)(E:Value->Shared->Prop),Q (.bool<|g i j) s->wpAny (model X.prog X.w) X.A (f (.int i t)<|.int j u) Q E s):
 oC X f (WP λi j=>.bl<|g i j):=by
 intro aI s σ H x y v u Q I a b h;replace h:=jW h;let⟨i,rfl,h⟩:=h;replace h:=jW h;let⟨j,rfl,q⟩:=h;let⟨t,rfl⟩:=a;let⟨t',rfl⟩:=b;exact rule i j t t' s _ _ #[.bl<|g i j,H,I,rfl,q]
def CDiv(i j:Int):Prop:=0<j/\j<1073741824
def CPow(i j:Int):Prop:=0<=j/\j<=1000000/\i.natAbs<2^64
def ph(i j:Int):Prop:=(-(2^64)<i/\i<2^64)\/(-(2^64)<j/\j<2^64)
theorem ph.ok{i j:Int}(h:ph i j):IntMulOk i j:=by
 rcases h with⟨h1,h2⟩ |⟨h1,h2⟩
 ·exact .of_left<|intBits_le_64 h1 h2
 ·exact .of_right<|intBits_le_64 h1 h2
theorem mh:oC X (binaryOp .Add) (WP λi j=>.int<|i+j):=b8 λ_ _ _ _ _ _ _ q=>add_int q
theorem RH:oC X (binaryOp .Sub) (WP λi j=>.int<|i-j):=b8 λ_ _ _ _ _ _ _ q=>sub_int q
theorem EQ:oC X (binaryOp .Mult) (rI ph λi j=>.int<|i*j):=opI λ_ _ _ _ _ _ _ hc q=>mul_int q hc.ok
theorem b7:oC X (binaryOp .FloorDiv) (rI CDiv λi j=>.int<|i/j):=opI λi j _ _ _ _ _ hc q=>by
 let h1:(0:Int)<j:=hc.1;let h2:j<1073741824:=hc.2;exact floordiv_int () (by rw[Int.fdiv_eq_ediv_of_nonneg i ()];calc q)<|.inl<|PyProof.noPylong_small ()
theorem RJ:oC X (binaryOp .Mod) (rI (λ_ j=>0<j) λi j=>.int<|i % j):=opI λi j _ _ _ _ _ hc q=>by
 let h1:(0:Int)<j:=hc;exact mod_int' () (by rw[Int.fmod_eq_emod_of_nonneg i ()];calc q)
theorem me:oC X (binaryOp .Pow) (rI CPow λi j=>.int<|i^j.toNat):=opI λ_ _ _ _ _ _ _ hc q=>pow_int_small hc.1 hc.2.1 hc.2.2 q
theorem md:oC X (binaryOp .LShift) (rI CPow λi j=>.int<|i*2^j.toNat):=opI λ_ _ _ _ _ _ _ hc q=>lshift_int_small hc.1 hc.2.1 hc.2.2 q
theorem EU:oC X (binaryOp .BitAnd) (WP λi j=>.int<|Builtin.bitAnd i j):=b8 λ_ _ _ _ _ _ _ q=>and_int q
theorem ma:oC X (binaryOp .BitXor) (WP λi j=>.int<|Builtin.bitXor i j):=b8 λ_ _ _ _ _ _ _ q=>xor_int q
theorem unI{f:Value->Sem Value}{g:Int->Int}
 (rule:∀(i:Int)(t:Tok)(s:Shared)(Q:Value->Shared->Prop)(E:Value->Shared->Prop),Q (.int (g i) s.toks) {s with toks:=s.toks+1}->wpAny (model X.prog X.w) X.A (f<|.int i t) Q E s):
 UnR X f (rU λi=>.int<|g i):=by
 intro aI s σ H x v Q I a h;replace h:=jW h;let⟨i,rfl,q⟩:=h;let⟨t,rfl⟩:=a;exact rule i t s _ _ #[.int<|g i,H,I.tok _,#[_,rfl],q]
theorem jj:UnR X (unaryOp .USub) (rU λi=>.int (-i)):=unI λ_ _ _ _ _ q=>neg_int q
theorem DI:UnR X (unaryOp .Invert) (rU λi=>.int<|Builtin.bitNot i):=unI λ_ _ _ _ _ q=>invert_int q
end
noncomputable def scal:V->V->Bool
 | .non,.non=>true | .non,.int _=>true | .int _,.non=>true | .non,.bl _=>true | .bl _,.non=>true | .non,.str _=>true | .str _,.non=>true
 | .int _,.int _=>true | .bl _,.bl _=>true | .str _,.str _=>true | .byt _,.byt _=>true
 | .int _,.str _=>true | .str _,.int _=>true | .bl _,.str _=>true | .str _,.bl _=>true
 |_,_=>false
def rEq:R2:=λx y H Q=>scal x y=true/\Q (.bl<|decide<|x=y) H
def rNe:R2:=λx y H Q=>scal x y=true/\Q (.bl<|!decide (x=y)) H
theorem IU{i j:Int}:decide (V.int i=V.int j)=(i==j):=by
 rw[bZ];simp
theorem VJ{i j:Bool}:decide (V.bl i=V.bl j)=(i==j):=by
 rw[bZ];simp
theorem IT{i j:Str}:decide (V.str i=V.str j)=(i==j):=by
 rw[bZ];simp
theorem IV{i j:Array UInt8}:decide (V.byt i=V.byt j)=(i.toList==j.toList):=by
 rw[bZ];cases i;cases j;simp
section
variable {a b c:Expr} {tb tc:TE} {pos:Pos}
theorem zR{Q:VK}{k k':Bool}(I:Inv X aI σ H s)(q:Q (.bl k) H)(e:k=k'):EP X aI σ Q (.bool k') s:=by
 subst e;exact#[.bl k,H,I,rfl,q]
theorem ID:oC X (compareOp .Eq) rEq:=by
 intro aI s σ H x y v u Q I b a h;let⟨hs,q⟩:=h;cases x with
 |non=>
  cases b;cases y with
  |non=>cases a;exact PySem.EqNone.eq_none_none (zR I q (by simp))
  |bl j=>cases a;exact PySem.EqNone.eq_none_bool (zR I q (by simp))
  |int j=>let⟨t',rfl⟩:=a;exact PySem.EqNone.eq_none_int (zR I q (by simp))
  |str j=>let⟨t',rfl⟩:=a;exact PySem.EqNone.eq_none_str (zR I q (by simp))
  |_=>exact absurd (show false=true from hs) aY
 |bl i=>
  cases b;cases y with
  |non=>cases a;exact PySem.EqNone.eq_bool_none (zR I q (by simp))
  |bl j=>cases a;exact eq_bool<|zR I q VJ
  |str j=>let⟨t',rfl⟩:=a;exact PySem.EqMixed.eq_bool_str (zR I q (by simp))
  |_=>exact absurd (show false=true from hs) aY
 |int i=>
  let⟨t,rfl⟩:=b;cases y with
  |non=>cases a;exact PySem.EqNone.eq_int_none (zR I q (by simp))
  |int j=>let⟨t',rfl⟩:=a;exact eq_int<|zR I q IU
  |str j=>let⟨t',rfl⟩:=a;exact PySem.EqMixed.eq_int_str (zR I q (by simp))
  |_=>exact absurd (show false=true from hs) aY
 |str i=>
  let⟨t,rfl⟩:=b;cases y with
  |non=>cases a;exact PySem.EqNone.eq_str_none (zR I q (by simp))
  |bl j=>cases a;exact PySem.EqMixed.eq_str_bool (zR I q (by simp))
  |int j=>let⟨t',rfl⟩:=a;exact PySem.EqMixed.eq_str_int (zR I q (by simp))
  |str j=>let⟨t',rfl⟩:=a;exact eq_str<|zR I q IT
  |_=>exact absurd (show false=true from hs) aY
 |byt i=>
  let⟨t,rfl⟩:=b;cases y with
  |byt j=>let⟨t',rfl⟩:=a;exact W.eq_bytes<|zR I q IV
  |_=>exact absurd (show false=true from hs) aY
 |_=>cases y<;>exact absurd (show false=true from hs) aY
theorem RI:oC X (compareOp .NotEq) rNe:=by
 intro aI s σ H x y v u Q I b a h;let⟨hs,q⟩:=h;cases x with
 |non=>
  cases b;cases y with
  |non=>cases a;exact PySem.EqNone.ne_none_none (zR I q (by simp))
  |bl j=>cases a;exact PySem.EqNone.ne_none_bool (zR I q (by simp))
  |int j=>let⟨t',rfl⟩:=a;exact PySem.EqNone.ne_none_int (zR I q (by simp))
  |str j=>let⟨t',rfl⟩:=a;exact PySem.EqNone.ne_none_str (zR I q (by simp))
  |_=>exact absurd (show false=true from hs) aY
 |bl i=>
  cases b;cases y with
  |non=>cases a;exact PySem.EqNone.ne_bool_none (zR I q (by simp))
  |bl j=>cases a;exact ne_bool<|zR I q<|cQ not VJ
  |str j=>let⟨t',rfl⟩:=a;exact PySem.EqMixed.ne_bool_str (zR I q (by simp))
  |_=>exact absurd (show false=true from hs) aY
 |int i=>
  let⟨t,rfl⟩:=b;cases y with
  |non=>cases a;exact PySem.EqNone.ne_int_none (zR I q (by simp))
  |int j=>let⟨t',rfl⟩:=a;exact ne_int<|zR I q<|cQ not IU
  |str j=>let⟨t',rfl⟩:=a;exact PySem.EqMixed.ne_int_str (zR I q (by simp))
  |_=>exact absurd (show false=true from hs) aY
 |str i=>
  let⟨t,rfl⟩:=b;cases y with
  |non=>cases a;exact PySem.EqNone.ne_str_none (zR I q (by simp))
  |bl j=>cases a;exact PySem.EqMixed.ne_str_bool (zR I q (by simp))
  |int j=>let⟨t',rfl⟩:=a;exact PySem.EqMixed.ne_str_int (zR I q (by simp))
  |str j=>let⟨t',rfl⟩:=a;exact ne_str<|zR I q<|cQ not IT
  |_=>exact absurd (show false=true from hs) aY
 |byt i=>
  let⟨t,rfl⟩:=b;cases y with
  |byt j=>let⟨t',rfl⟩:=a;exact W.ne_bytes<|zR I q<|cQ not IV
  |_=>exact absurd (show false=true from hs) aY
 |_=>cases y<;>exact absurd (show false=true from hs) aY
theorem IC:oC X (compareOp .Lt) (WP λi j=>.bl<|decide<|i<j):=b9 λ_ _ _ _ _ _ _ q=>lt_int q
theorem RK:oC X (compareOp .LtE) (WP λi j=>.bl<|decide<|i<=j):=b9 λ_ _ _ _ _ _ _ q=>le_int q
theorem im:oC X (compareOp .Gt) (WP λi j=>.bl<|decide<|j<i):=b9 λ_ _ _ _ _ _ _ q=>gt_int q
theorem io:oC X (compareOp .GtE) (WP λi j=>.bl<|decide<|j<=i):=b9 λ_ _ _ _ _ _ _ q=>ge_int q
theorem ER:oC X (compareOp .Is) (λx y H Q=>y=.non/\Q (.bl<|decide<|x=.non) H):=by
 intro aI s σ H x y v u Q I a b h;let⟨rfl,q⟩:=h;cases b;calc is_none_gen<|zR I q ?_;cases x<;>first
  |(cases a;rfl)
  |(let⟨t,rfl⟩:=a;rfl)
theorem b6:oC X (compareOp .IsNot) (λx y H Q=>y=.non/\Q (.bl<|!decide (x=.non)) H):=by
 intro aI s σ H x y v u Q I a b h;let⟨rfl,q⟩:=h;cases b;calc isnot_none_gen<|zR I q ?_;cases x<;>first
  |(cases a;rfl)
  |(let⟨t,rfl⟩:=a;rfl)
theorem yP(b:Expr)(h:autoParam (op≠.In) a2._auto_1)(h2:autoParam (op≠.NotIn) a2._auto_1):behindInMarks op b=false:=by
 let a:(op==CmpOp.In)=false:=by cases op<;>first |rfl |exact absurd rfl h
 let c:(op==CmpOp.NotIn)=false:=by cases op<;>first |rfl |exact absurd rfl h2
 cases b<;>simp[behindInMarks,a,c]
theorem uI{r:R2}(ho:oC X (compareOp op) r)(ha:PE X a ta)(hb:PE X b tb)(hm:behindInMarks op b=false):PE X (.Compare a [op] [b] pos) (tOp r ta tb):=by
 intro aI s σ H Q I h;exact wpAny_Compare1 (oh ha hb I h λv u s2 x y H2 c d e q=>ho aI s2 σ H2 x y v u Q c d e q) hm
def tTest(t:TE):TT:=λσ H Q=>t σ H λx H'=>eg x λk=>Q k H'
theorem yG{r:R2}(ho:oC X (compareOp op) r)(ha:PE X a ta)(hb:PE X b tb)(hm:behindInMarks op b=false):PT X (.Compare a [op] [b] pos) (tTest<|tOp r ta tb):=by
 intro aI s σ H Q I h;refine wpAny_isTrue_Compare1 (eI (ha aI s σ H _ I h) λv s1 ⟨x,H1,e,f,g⟩=>eI (hb aI s1 σ H1 _ e g) λu s2 ⟨y,H2,i,j,l⟩=>
  eI (ho aI s2 σ H2 x y v u _ i f j l) λc p w=>?_) hm;let⟨z,m,n,o,d⟩:=w
 replace d:=CM d;let⟨k,rfl,d⟩:=d;cases o;exact eZ #[m,n,d]
def jo(r r':R2)(ta tb tc:TE):TE:=λσ H Q=>ta σ H λx H1=>tb σ H1 λy H2=>r x y H2 λz H3=>eg z λk=>(if k=true then tc σ H3 λw' H4=>r' y w' H4 Q else Q (.bl false) H3)
theorem RD{op':CmpOp}{r r':R2}(ho:oC X (compareOp op) r)(ho':oC X (compareOp op') r')(ha:PE X a ta)(hb:PE X b tb)(hc:PE X c tc)
 (hm:lastMarks [op,op'] [b,c]=false:=by with_unfolding_all rfl):PE X (.Compare a [op,op'] [b,c] pos) (jo r r' ta tb tc):=by
 intro aI s σ H Q I h;refine Compare_chain (eI (ha aI s σ H _ I h) λv s1 ⟨x,H1,j,l,m⟩=>chain_link (eI (hb aI s1 σ H1 _ j m) λu s2 ⟨y,H2,n,f,o⟩=>
  eI (ho aI s2 σ H2 x y v u _ n l f o) λd p d=>?_)) hm;let⟨z,g,i,q,e⟩:=d
 replace e:=CM e;let⟨k,rfl,e⟩:=e;cases q;calc eZ ?_;cases k with
 |false=>exact ite_ff #[.bl false,g,i,rfl,e]
 |true=>exact ite_tt (chain_last<|eI (hc aI p σ g _ i e) λt w ⟨z',A,B,C,D⟩=>ho' aI w σ A y z' u t Q B f C D)
def TruV(K:W.Frag)(x:V)(H:Hp)(k:Bool):Prop:=
 match x with
 | .non=>k=false
 | .bl b=>k=b
 | .int i=>k=(i !=0)
 | .str y=>y.length<=sizeLine/\k=((y.length:Int) !=0)
 | .byt y=>y.size<=sizeLine/\k=((y.size:Int) !=0)
 | .ref p=>(∃xs,dB K H p xs/\k=!xs.isEmpty)\/(∃xs,cV K H p xs/\k=!xs.isEmpty)\/∃kvs,H p=some (.dK kvs)/\k=!kvs.isEmpty
 |_=>False
theorem FM{κ:Type}{kvs:List (κ×V)}{vs:List (κ×Value)}(r:KV kvs vs):(!vs.isEmpty)=!kvs.isEmpty:=by
 cases r<;>rfl
theorem XD(r:cY xs its):(!its.toArray.isEmpty)=!xs.isEmpty:=by
 cases r<;>simp
theorem kO:(sizeLine:Nat)<2^63:=by rw[dJ];decide
theorem jk:TruR X (λx H Q=>∃k,TruV X.K x H k/\Q k H):=by
 intro aI s σ H x v Q I c h;let⟨k,e,q⟩:=h;let hl:=kO;let hs:sizeLine=16777216:=dJ;cases x with
 |non=>
  cases c;let a:k=false:=e;subst a;exact truthy_none #[H,I,q]
 |bl b=>
  cases c;let a:k=b:=e;subst a;exact eZ #[H,I,q]
 |int i=>
  let⟨t,rfl⟩:=c;let a:k=(i !=0):=e;subst a;exact PySem.P.truthy_int #[H,I,q]
 |str y=>
  let⟨t,rfl⟩:=c;obtain⟨hy,a⟩:y.length<=sizeLine/\k=((y.length:Int) !=0):=e;subst a;exact PySem.P.truthy_str () #[H,I.tok _,q]
 |byt y=>
  let⟨t,rfl⟩:=c;obtain⟨hy,a⟩:y.size<=sizeLine/\k=((y.size:Int) !=0):=e;subst a;exact W.truthy_bytes () #[H,I.tok _,q]
 |ref p=>
  cases c;let a:(∃xs,dB X.K H p xs/\k=!xs.isEmpty)\/(∃xs,cV X.K H p xs/\k=!xs.isEmpty)\/∃kvs,H p=some (.dK kvs)/\k=!kvs.isEmpty:=e;rcases a with⟨xs,hx,a⟩ |⟨xs,hx,a⟩ |⟨kvs,hx,a⟩
  ·subst a;let⟨its,r,pl,hz⟩:=I.list hx;let eO:=r.length;exact wpAny_truthy_list pl.isList (by simp only[aM];lia) #[H,I.tok _,by rw[XD r];calc q]
  ·subst a;let⟨its,r,pl,hz⟩:=I.tuple hx;let eO:=r.length;exact truthy_tuple pl (by simp only[aM];lia) #[H,I.tok _,by rw[XD r];calc q]
  ·subst a;obtain⟨hz,d,vs,r,m⟩:kvs.length<=sizeLine/\(p==sysModules)=false/\∃vs,KV kvs vs/\s.heap.DictOf (zT X.prog X.w) p vs:=I.hok p _ hx;let eO:kvs.length=vs.length:=eY r;exact wpAny_truthy_dict d m () #[H,I.tok _,by rw[FM r];calc q]
 |_=>exact(show False from e).elim
theorem PF(ha:PE X a ta)(he:∀whole,isTrue a X.env whole=(do let v ←whole;standAt a.pos;holding [v]<|truthy v)):
 PT X a (λσ H Q=>ta σ H λx H'=>∃k,TruV X.K x H' k/\Q k H'):=by
 intro aI s σ H Q I h;exact isTrue_plain (eI (ha aI s σ H _ I h) λv s1 ⟨x,H1,b,c,d⟩=>jk aI s1 σ H1 x v Q b c d)<|he _
theorem EV:oC X (binaryOp .Add) (λx y H Q=>∃i j,x=.str i/\y=.str j/\i.length+j.length<=sizeLine/\Q (.str<|i++j) H):=by
 intro aI s σ H x y v u Q I a b h;let⟨i,j,rfl,rfl,hz,q⟩:=h;let⟨t,rfl⟩:=a;let⟨t',rfl⟩:=b;exact add_str (λt' tk=>#[.str<|i++j,H,I.tok _,#[_,rfl],q]) hz
theorem qU{x:V}(r:cY [x] us):∃u,us=[u]/\RelV x u:=by
 cases r with
 |cons a b=>cases b;exact#[_,rfl,a]
theorem vals2{x:V}(r:cY [x,y] us):∃u w',us=[u,w']/\RelV x u/\RelV y w':=by
 cases r with
 |cons a b=>
  cases b with
  |cons c d=>cases d;exact#[_,_,rfl,a,c]
def o7(K:W.Frag)(x:V)(H:Hp)(n:Nat):Prop:=
 match x with
 | .str y=>y.length<=sizeLine/\n=y.length
 | .byt y=>y.size<=sizeLine/\n=y.size
 | .ref p=>(∃xs,dB K H p xs/\n=xs.length)\/∃xs,cV K H p xs/\n=xs.length
 |_=>False
theorem CA:jG X (.builtin "len") (λxs H Q=>pP xs λx=>∃n,o7 X.K x H n/\Q (.int n) H):=by
 intro aI s σ H xs us Q I r h;replace h:=kE h;let⟨x,rfl,n,e,q⟩:=h;let⟨u,rfl,b⟩:=qU r;let hl:=kO;let hs:sizeLine=16777216:=dJ;cases x with
 |str y=>
  let⟨t,rfl⟩:=b;obtain⟨hy,a⟩:y.length<=sizeLine/\n=y.length:=e;subst a;exact len_str () #[.int _,H,I.tok _,#[_,rfl],q]
 |byt y=>
  let⟨t,rfl⟩:=b;obtain⟨hy,a⟩:y.size<=sizeLine/\n=y.size:=e;subst a;exact W.len_bytes () #[.int _,H,I.tok _,#[_,rfl],q]
 |ref p=>
  cases b;let a:(∃xs,dB X.K H p xs/\n=xs.length)\/∃xs,cV X.K H p xs/\n=xs.length:=e;rcases a with⟨xs,hx,a⟩ |⟨xs,hx,a⟩
  ·subst a;let⟨its,c,pl,hz⟩:=I.list hx;let eO:=c.length;exact Calls.call_len_list pl.isList (by simp only[aM];lia) #[.int xs.length,H,I.tok _,#[_,by simp only[aM];rw[eO]],q]
  ·subst a;let⟨its,c,pl,hz⟩:=I.tuple hx;let eO:=c.length;exact len_tuple pl (by simp only[aM];lia) #[.int xs.length,H,I.tok _,#[_,by simp only[aM];rw[eO]],q]
 |_=>exact(show False from e).elim
end
structure GF(h:Heap)(x dx C:Addr)(mA:Str->Option Value):Prop where
 obj:h.get? x=some (W.instObj C dx)
 ns:h.Ns1 dx mA
 ne:dx≠x
theorem MG{dx:Addr}(n:h.Ns1 dx mA):∃od,h.get? dx=some od/\∀name,W.lookIn name od=some (mA name):=by
 let⟨o,es,ep,c,hd,hk,_,hm⟩:=n;calc#[o,c,λname=>?_];let e:=hm name;unfold nsFind findBy at e;rw[←Array.find?_toList]at e;unfold W.lookIn;rw[hd];dsimp only;split
 ·rename_i y q
  rw[q]at e;exact cQ some e
 ·rename_i q
  rw[q]at e;let a:es.toList.any (·.refKey)=false:=by
   rw[List.any_eq_false];intro y hy;let⟨z,t,b⟩:=hk y<|Array.mem_toList_iff.mp hy;simp[DictEntry.refKey,b]
  let d:¬es.toList.any (·.refKey)=true:=by rw[a];exact aY
  rw[aH d];exact cQ some e
theorem GF.look{x dx C:Addr}(I:GF h x dx C mA):∃od,W.InstAt h x (W.instObj C dx) C (some od)/\∀name,W.lookIn name od=some (mA name):=
 let ⟨od,a,hl⟩:=MG I.ns
 #[od,#[I.obj,rfl,rfl,a],hl]
section
variable {x dx C:Addr} {name:Str} {v:Value}
theorem du{expr:Bool}(X:K.In s.heap)(I:GF s.heap x dx C mA)(hg:W.plainGet K C name=true)(hh:W.hasDictIn K C=true)
 (ha:W.findIn K (.ref C) name=some none) (hv:mA name=some v) (hv':W.handedIn v=true) (h:Q v {s with toks:=s.toks+1}):
 wpAny (model prog w) A (getAttr (.ref x) name expr) Q E s:=by
 let⟨od,J,hl⟩:=I.look;exact W.get_value X J (sO hg).1 (W.findObj_own hh ha rfl (by rw[hl,hv])) hv' h
theorem TQ{pl:Sem Bool}{Q:Value×List Value->Shared->Prop}(X:K.In s.heap)(I:GF s.heap x dx C mA)(hg:W.plainGet K C name=true)
 (hf:W.findIn K (.ref C) name=some (some<|.ref f)) (ht:W.isFn K (.ref f)=true) (hv:mA name=none) (h:Q (.ref f,[.ref x]) s):
 wpAny (model prog w) A (getMethod (.ref x) name pl) Q E s:=by
 let⟨od,J,hl⟩:=I.look;exact W.method_fn X J (sO hg).1 (sO hg).2 hf (cI.mp ht) (by show(W.lookIn name od).map (·.isSome)=some false;rw[hl,hv];rfl) h
theorem a8{Q:Unit->Shared->Prop}(X:K.In s.heap)(I:GF s.heap x dx C mA)
 (hs:W.findIn K (.ref C) "__setattr__"=some (some<|.builtin "object.__setattr__")) (hp:W.plainOver K C=true) (ht:W.takerIn K C name=some none) (hh:W.hasDictIn K C=true)
 (hw:PySem.Within mA ns) (hsz:ns.length<=sizeLine)
 (h:∀h',GF h' x dx C (λy=>if y=name then some v else mA y)->Heap.SameBut dx s.heap h'->Q Unit.unit {s with heap:=h',toks:=s.toks+2}):
 wpAny (model prog w) A (setAttr (.ref x) name v) Q E s:=by
 let⟨od,J,hl⟩:=I.look;calc W.set_plain X J hs (W.osa_open (s:={s with toks:=s.toks+1}) (r:=none) X J hp ht λb=>?_);let⟨cd,hc,e⟩:=W.any_some hh;let hx:s.heap.get? x=some #[.ref C,some dx,.plain,(List.toArray [])]:=I.obj;calc aE<|aS<|aE<|aE<|wpAny_loadPart hx<|aE<|W.Looks.here (s:={s with toks:=s.toks+1}) (W.looks_clsIn X hc) ?_;rw[e];calc aS (a:=some dx)<|aE<|aS<|aE ?_;refine wpAny_nsSet1 (s:={s with toks:=s.toks+1}) I.ns λh' c d=>?_
 let⟨oD,esD,epD,f,g,i⟩:=c.count<|PySem.Within.cons name v hw;calc aE (wpAny_lookBehind f (by rw[g];calc pastItsLine_dict<|bT i (by rw[bC];lia)) ?_);exact aS<|h _ #[(d.2 _<|bX I.ne).trans I.obj,c,I.ne] d
theorem SL{vs:List Value}(X:K.In s.heap)(hm:W.makesIn K C=true)
 (hi:W.findIn K (.ref C) "__init__"=some (some<|.ref f)) (hf:W.typeIn K (.ref f)=some (.type "function"))
 (h:codeAny (model prog w) (A.under<|.builtin "type.__call__" #[.ref C::vs,kw]) (.call (.ref f) #[.ref (s.heap.objs.size+1)::vs,kw]) (W.InitBack (s.heap.objs.size+1) R)
  {s with heap:=(s.heap.push W.emptyDict).push (W.instObj C s.heap.objs.size)}):
 codeAny (model prog w) A (.call (.ref C) #[vs,kw]) R s:=by
 let⟨a,g,d,t,os⟩:=s;exact W.make_core (W.makes_of X hm) (nQ X hi) (λself=>W.bind_fn X self hf) (.inl rfl) h
end
noncomputable def yO(f:Str)(v:V):List (Str×V)->List (Str×V)
 |[]=>[(f,v)]
 |(g,x)::r=>if g=f then(g,v)::r else(g,x)::yO f v r
theorem kZ(f g:Str)(v:V):∀fs:List (Str×V),(yO f v fs).lookup g=if g=f then some v else fs.lookup g
 |[]=>by
  show List.lookup g [(f,v)]=_;by_cases h:g=f
  ·let hb:(g==f)=true:=cI.mpr h;simp only[List.lookup,hb,aO h]
  ·let hb:(g==f)=false:=cA.mpr h;simp only[List.lookup,hb,aH h]
 |(k,x)::r=>by
  let a:=kZ f g v r;rw[show yO f v ((k,x)::r)=(if k=f then(k,v)::r else(k,x)::yO f v r)from rfl];by_cases hk:k=f
  ·rw[aO hk];by_cases h:g=k
   ·let hb:(g==k)=true:=cI.mpr h;simp only[List.lookup,hb,aO<|h.trans hk]
   ·let hb:(g==k)=false:=cA.mpr h;simp only[List.lookup,hb,aH λe:g=f=>h<|e.trans hk.symm]
  ·rw[aH hk];by_cases h:g=k
   ·let hb:(g==k)=true:=cI.mpr h;simp only[List.lookup,hb,aH λe:g=f=>hk<|h.symm.trans e]
   ·let hb:(g==k)=false:=cA.mpr h;simp only[List.lookup,hb];exact a
theorem kR(f:Str)(v:V):∀fs:List (Str×V),f∈(yO f v fs).map (·.1)/\∀g,g∈fs.map (·.1)->g∈(yO f v fs).map (·.1)
 |[]=>#[by simp[yO],λg h=>by simp at h]
 |(k,x)::r=>by
  let⟨a,b⟩:=kR f v r;rw[show yO f v ((k,x)::r)=(if k=f then(k,v)::r else(k,x)::yO f v r)from rfl];by_cases hk:k=f
  ·rw[aO hk];subst hk;exact#[by simp,λg h=>by simpa using h]
  ·rw[aH hk];refine#[?_,λg h=>?_]
   ·rw[bV];exact aX _ a
   ·rw[bV]at h⊢;rcases bJ.mp h with e |e
    ·exact bJ.mpr<|.inl e
    ·exact aX _<|b g e
theorem ZA(f:Str)(v:V):∀fs:List (Str×V),(yO f v fs).length<=fs.length+1
 |[]=>by simp[yO]
 |(k,x)::r=>by
  let a:=ZA f v r;rw[show yO f v ((k,x)::r)=(if k=f then(k,v)::r else(k,x)::yO f v r)from rfl];by_cases hk:k=f
  ·rw[aO hk,bC,bC];lia
  ·rw[aH hk,bC,bC];lia
theorem mM.some_of{o:Option Value}(r:mM (some v) o):∃u,o=some u/\RelV v u:=by
 cases o with
 |none=>exact(show False from r).elim
 |some u=>exact#[u,rfl,r]
theorem mM.none_of{o:Option Value}(r:mM none o):o=none:=by
 cases o with
 |none=>rfl
 |some u=>exact(show False from r).elim
theorem MN(r:RelV v u):W.handedIn u=true:=by
 cases v with
 |non=>cases (show u=Value.none from r);rfl
 |bl b=>cases (show u=Value.bool b from r);rfl
 |int i=>let⟨t,e⟩:=(show∃t,u=Value.int i t from r);cases e;rfl
 |str x=>let⟨t,e⟩:=(show∃t,u=Value.str x t from r);cases e;rfl
 |byt b=>let⟨t,e⟩:=(show∃t,u=Value.bytes b t from r);cases e;rfl
 |flt b=>let⟨t,e⟩:=(show∃t,u=Value.float b t from r);cases e;rfl
 |ref a=>cases (show u=Value.ref a from r);rfl
 |ty n=>cases (show u=Value.type n from r);rfl
section
variable {C dx:Addr} {fs fs':List (Str×V)}
theorem ZW(hok:iX P w H h)(e:H a=some (.ins C dx fs)):∃mA,GF h a dx C mA/\(∀f,mM (fs.lookup f)<|mA f)/\PySem.Within mA (fs.map (·.1))/\fs.length<=1000/\H dx=some (.own a):=by
 let⟨d,z,ne,b,mA,n,r,q⟩:=(show eT P w H h a (.ins C dx fs)from hok a _ e)
 exact#[mA,#[b,n,ne],r,q,z,d]
end
structure KM(K:W.Frag)(C:Addr):Prop where
 pg:W.plainGet K C Str.empty=true
 hd:W.hasDictIn K C=true
 po:W.plainOver K C=true
 sa:W.findIn K (.ref C) "__setattr__"=some (some<|.builtin "object.__setattr__")
theorem KM.get{C:Addr}(c:KM K C)(f:Str):W.plainGet K C f=true:=c.pg
def iZ(K:W.Frag)(C:Addr)(f:Str):Prop:=W.findIn K (.ref C) f=some none
theorem iZ.taker{C:Addr}{f:Str}(n:iZ K C f):W.takerIn K C f=some none:=by
 unfold W.takerIn;rw[show W.findIn K (.ref C) f=some none from n];rfl
structure MZ(K:W.Frag)(C:Addr)(m:Str)(f:Addr):Prop where
 at_:W.findIn K (.ref C) m=some (some<|.ref f)
 fn:W.isFn K (.ref f)=true
 kp:W.keepIn K (.ref f)=true
section
variable {C dx:Addr} {fs:List (Str×V)} {f:Str}
theorem FQ{b:Bool}(I:Inv X aI σ H s)(e:H a=some (.ins C dx fs))(c:KM X.K C)(n:iZ X.K C f)(l:fs.lookup f=some v)
 (h:∀u s',Inv X aI σ H s'->RelV v u->Q u s'):wpAny (model X.prog X.w) A (getAttr (.ref a) f b) Q E s:=by
 let⟨mA,O,r,_,_,_⟩:=ZW I.hok e;let⟨u,hu,d⟩:=mM.some_of (v:=v) (o:=mA f) (by rw[←l];calc r f);exact du I.kIn O (c.get f) c.hd n hu (MN d)<|h u _ (I.tok _) d
theorem FO{m:Str}{g:Addr}{pl:Sem Bool}{Q:Value×List Value->Shared->Prop}(I:Inv X aI σ H s)(e:H a=some (.ins C dx fs))(c:KM X.K C)(k:MZ X.K C m g)(l:fs.lookup m=none)
 (h:Q (.ref g,[.ref a]) s):wpAny (model X.prog X.w) A (getMethod (.ref a) m pl) Q E s:=by
 let⟨mA,O,r,_,_,_⟩:=ZW I.hok e;let hn:mA m=none:=mM.none_of (by rw[←l];calc r m);exact TQ I.kIn O (c.get m) k.at_ k.fn hn h
theorem DU{Q:Unit->Shared->Prop}(I:Inv X aI σ H s)(e:H a=some (.ins C dx fs))(c:KM X.K C)(n:iZ X.K C f)(hl:fs.length<1000)(ry:RelV y u)
 (h:∀s',Inv X aI σ (upd H a<|.ins C dx<|yO f y fs) s'->Q Unit.unit s'):wpAny (model X.prog X.w) A (setAttr (.ref a) f u) Q E s:=by
 let⟨mA,O,r,wi,_,i⟩:=ZW I.hok e;let hz:(fs.map (·.1)).length<=sizeLine:=by rw[aD,dJ];lia
 refine a8 I.kIn O c.sa c.po n.taker c.hd wi hz λh' d j=>h _ ?_
 let hd:∃o,h'.get? dx=some o:=let ⟨o,_,_,k,_⟩:=d.ns;#[o,k];calc I.write (x:=a) (e:=dx) (by rw[e];calc True.intro) (.inr i) (λb q hb z=>(j.2 b hb).trans z) hd ?_;refine#[by rw[zG O.ne];exact i,?_,O.ne,d.obj,_,d.ns,λg=>?_,λg l=>?_]
 ·have :=ZA f y fs;lia
 ·show mM ((yO f y fs).lookup g) (if g=f then some u else mA g);rw[kZ];by_cases q:g=f
  ·rw[aO q,aO q];exact ry
  ·rw[aH q,aH q];exact r g
 ·by_cases q:g=f
  ·rw[q];exact(kR f y fs).1
  ·calc(kR f y fs).2 g (wi g λz=>l ?_);show(if g=f then some u else mA g)=none;rw[aH q];exact z
theorem Inv.made(I:Inv X aI σ H s):Inv X aI σ (upd (upd H s.heap.objs.size<|.own<|s.heap.objs.size+1) (s.heap.objs.size+1)<|.ins C s.heap.objs.size [])
 {s with heap:=(s.heap.push W.emptyDict).push (W.instObj C s.heap.objs.size)}:=by
 let c:(s.heap.push W.emptyDict).get? s.heap.objs.size=some W.emptyDict:=bR s.heap rfl;let d:((s.heap.push W.emptyDict).push (W.instObj C s.heap.objs.size)).get? (s.heap.objs.size+1)=some (W.instObj C s.heap.objs.size):=by
  have :=bR (s.heap.push W.emptyDict) (o:=W.instObj C s.heap.objs.size) rfl;rwa[nX]at this
 let f:(s.heap.push W.emptyDict).Ns s.heap.objs.size (λ_=>none):=#[W.emptyDict,(List.toArray []),_,c,rfl,(λe he=>absurd he (by simp)),λ_=>rfl]
 let g:=I.laid (a:=s.heap.objs.size) (o:=.own<|s.heap.objs.size+1) (h':=s.heap.push W.emptyDict) (t':=s.toks) (λb u q=>aT _ q) (aG _) #[_,c];calc g.laid (a:=s.heap.objs.size+1) (o:=.ins C s.heap.objs.size []) (t':=s.toks) (λb u q=>aT _ q) (Nat.le_of_eq<|nX _ _) ?_;let ne:s.heap.objs.size≠s.heap.objs.size+1:=bL<|pS _;refine#[by rw[zG ne,zA],cO _,ne,d,λ_=>none,(Heap.Ns1.of_empty f).at λo q=>aT _ q,λ_=>True.intro,λy hy=>absurd rfl hy]
theorem ee{env:Env}{f:Str}{pos:Pos}(hb:attributeBase e f env (eval e env)=eval e env)
 (h:wpAny (model prog w) A (eval e env) (λo s₁=>wpAny (model prog w) A (getAttr o f true) Q E s₁) E s):wpAny (model prog w) A (eval (.Attribute e f pos) env) Q E s:=
 Attribute_any_ h (by rw[arm_eval_Attribute,hb])
end
def xZ(K:W.Frag)(ta:TE)(f:Str):TE:=λσ H Q=>ta σ H λx H1=>nZ x λa=>∃C dx fs,H1 a=some (.ins C dx fs)/\KM K C/\iZ K C f/\∃v,fs.lookup f=some v/\Q v H1
def DW(K:W.Frag)(ta tv:TE)(f:Str):TS:=λD σ H=>tv σ H λy H1=>ta σ H1 λx H2=>nZ x λa=>∃C dx fs,H2 a=some (.ins C dx fs)/\KM K C/\iZ K C f/\fs.length<1000/\
 D.nx σ (upd H2 a<|.ins C dx<|yO f y fs)
section
variable {value:Expr} {f:Str} {pos tpos:Pos} {tv:TE}
theorem PY(he:PE X e ta)(hb:attributeBase e f X.env (eval e X.env)=eval e X.env):PE X (.Attribute e f pos) (xZ X.K ta f):=by
 intro aI s σ H Q I h;calc ee hb (eI (he aI s σ H _ I h) λu s1 z=>?_);let⟨x,H1,b,d,q⟩:=z;replace q:=xG q;let⟨a,rfl,C,dx,fs,g,c,n,v,l,q⟩:=q;obtain rfl:u=Value.ref a:=d;exact FQ b g c n l λk s2 i j=>#[v,H1,i,j,q]
theorem kH(ha:PE X o ta)(hv:PE X value tv)(hs:swapsWith value (some<|.Attribute o f pos') pos.line X.env=pure false):PS X (.Assign [.Attribute o f pos'] value pos) (DW X.K ta tv f):=by
 intro aI s σ H D I h;calc plainObj_wpAny_Assign_Attribute (eI (hv aI s σ H _ I h) λu s1 ⟨y,H1,d,e,q⟩=>eI (ha aI s1 σ H1 _ d q) λg s2 z=>?_) hs;let⟨x,H2,i,j,b⟩:=z;replace b:=xG b;let⟨a,rfl,C,dx,fs,k,c,n,l,b⟩:=b;obtain rfl:g=Value.ref a:=j;exact DU i k c n l e λp m=>#[σ,_,m,b]
end
section
variable {c:Value} {b:Bool}
inductive pQ (K:W.Frag) (H:Hp):V->Value->Prop where
 |non:pQ K H .non (.type "NoneType")
 |bl (x:Bool):pQ K H (.bl x) (.type "bool")
 |int (i:Int):pQ K H (.int i) (.type "int")
 |str (x:Str):pQ K H (.str x) (.type "str")
 |flt (x:UInt64):pQ K H (.flt x) (.type "float")
 |lst {a:Addr} {xs:List V} (e:H a=some (.lst xs)):pQ K H (.ref a) (.type "list")
 |frz {a:Addr} {o:Obj} {xs:List V} (e:H a=some (.frz o<|.lst xs)):pQ K H (.ref a) (.type "list")
 |tup {a:Addr} {xs:List V} (e:H a=some (.tup xs)):pQ K H (.ref a) (.type "tuple")
 |dK {a:Addr} {kvs:List (eR×V)} (e:H a=some (.dK kvs)):pQ K H (.ref a) (.type "dict")
 |dT {a:Addr} {kvs:List (List eR×V)} (e:H a=some (.dT kvs)):pQ K H (.ref a) (.type "dict")
 |ins {a C dx:Addr} {fs:List (Str×V)} (e:H a=some (.ins C dx fs)) (cl:KM K C) (ha:W.findIn K (.ref C) "__class__"=some (some<|.builtin "object.__class__"))
  (hn:W.specialIn K (.builtin "object.__class__") "__get__"=some (some<|.builtin "getset_descriptor.__get__")) (htk:W.takesIn K (.builtin "object.__class__")=some true)
  (hm:W.mroIn K C (.type "object")=some true):pQ K H (.ref a) (.ref C)
theorem MK{x:V}{t:Value}(I:Inv X aI σ H s)(rx:RelV x u)(ty:pQ X.K H x t)(e:W.kitOne X.K t c=some b)(h:∀tk,Q (.bool b) {s with toks:=tk}):
 wpAny (model X.prog X.w) A (call (.builtin "isinstance") [u,c]) Q E s:=by
 cases ty with
 |non=>cases (show u=Value.none from rx);exact eD W.kitx_none I.kIn True.intro e (λz=>nomatch z) h
 |bl y=>cases (show u=Value.bool y from rx);exact eD W.kitx_bool I.kIn True.intro e (λz=>nomatch z) h
 |int i=>let⟨t,q⟩:=(show∃t,u=Value.int i t from rx);cases q;exact eD W.kitx_int I.kIn True.intro e (λz=>nomatch z) h
 |str y=>let⟨t,q⟩:=(show∃t,u=Value.str y t from rx);cases q;exact eD W.kitx_str I.kIn True.intro e (λz=>nomatch z) h
 |flt y=>let⟨t,q⟩:=(show∃t,u=Value.float y t from rx);cases q;exact eD W.kitx_float I.kIn True.intro e (λz=>nomatch z) h
 |@lst a xs d=>
  cases (show u=Value.ref a from rx);let⟨_,_,n,_,h1⟩:=(show eT X.prog X.w H s.heap a (.lst xs)from I.hok a _ d)
  exact eD W.kitx_list I.kIn #[_,h1,rfl] e (λz=>nomatch z) h
 |@frz a f xs d=>
  cases (show u=Value.ref a from rx);let⟨_,_,_,n,_,h1⟩:=(show eT X.prog X.w H s.heap a (.frz f<|.lst xs)from I.hok a _ d)
  exact eD W.kitx_list I.kIn #[_,h1,rfl] e (λz=>nomatch z) h
 |@tup a xs d=>
  cases (show u=Value.ref a from rx);let⟨_,_,_,p⟩:=(show eT X.prog X.w H s.heap a (.tup xs)from I.hok a _ d)
  let⟨o,h1,h2,_⟩:=p;exact eD W.kitx_tuple I.kIn #[o,h1,h2] e (λz=>nomatch z) h
 |@dK a kvs d=>
  cases (show u=Value.ref a from rx);let⟨_,_,vs,_,p⟩:=(show eT X.prog X.w H s.heap a (.dK kvs)from I.hok a _ d)
  let⟨o,es,ep,h1,h2,_⟩:=p;exact eD W.kitx_dict I.kIn #[o,h1,h2.1] e (λz=>nomatch z) h
 |@dT a kvs d=>
  cases (show u=Value.ref a from rx);let⟨_,_,xs,_,o,es,ep,h1,h2,_⟩:=(show eT X.prog X.w H s.heap a (.dT kvs)from I.hok a _ d)
  exact eD W.kitx_dict I.kIn #[o,h1,h2.1] e (λz=>nomatch z) h
 |@ins a C dx fs d cl ha hn htk hm=>
  cases (show u=Value.ref a from rx);let⟨mA,O,_⟩:=ZW I.hok d;let⟨od,J,_⟩:=O.look;exact eD (W.kitx_own (cl.get _) cl.hd ha hn htk hm) I.kIn J e (λz=>nomatch z) h
end
structure fV(k:Nat)(A:Around):Prop where
 hd:A.handled=none
 dp:A.depth+3*k+5<recursionLimit
 un:A.units+16*k+200<cLine
theorem fV.mono{k:Nat}(r:fV k A)(h:j<=k):fV j A:=#[r.hd,by have :=r.dp;lia,by have :=r.un;lia]
theorem fV.deeper{k:Nat}(r:fV (k+1) A)(env:Env):fV k (A.deeper env):=
 #[r.hd,by have :=r.dp;show A.depth+1+3*k+5<_;lia,by have :=r.un;show A.units+3+16*k+200<_;lia]
theorem FJ{C:Addr}:(A.under<|.builtin "type.__call__" #[.ref C::us,kw]).depth=A.depth+1:=by
 first |rfl |simp[Around.under,Code.weight,Code.isCreation,Code.isGuard,Code.isCaller,Code.frames,Code.isFrame,guardIds]
theorem FI{C:Addr}:(A.under<|.builtin "type.__call__" #[.ref C::us,kw]).units=A.units+1:=by
 first |rfl |simp[Around.under,Code.cUnits,Code.frames,Code.isFrame]
theorem fV.make{k:Nat}(r:fV (k+1) A)(C:Addr)(us:List Value)(kw:List (Str×Value)):fV k (A.under<|.builtin "type.__call__" #[.ref C::us,kw]):=
 #[r.hd,by have :=r.dp;rw[FJ];lia,by have :=r.un;rw[FI];lia]
theorem fV.depth{k:Nat}(r:fV k A):A.depth<recursionLimit:=by have :=r.dp;lia
theorem fV.units{k:Nat}(r:fV k A):A.units+64<cLine:=by have :=r.un;lia
theorem fV.units0{k:Nat}(r:fV k A):A.units<cLine:=by have :=r.un;lia
def tNil:TA:=λ_ H Q=>Q [] H
def tCons(ta:TE)(tr:TA):TA:=λσ H Q=>ta σ H λx H1=>tr σ H1 λxs H2=>Q (x::xs) H2
section
variable {t:TA} {pos:Pos}
theorem zJ:PA X [] tNil:=λ_ _ _ _ H Q I h=>iV #[[],H,I,.nil,h]
theorem zE(ha:PE X e te)(hr:PA X es t)(hs:autoParam (starEach (e::es) X.env=(false,eval e X.env)::starEach es X.env) a1._auto_1):PA X (e::es) (tCons te t):=by
 intro pos aI s σ H Q I h;rw[hs];show wpAny _ _ (spliced ((false,eval e X.env)::backTo pos (starEach es X.env))) _ _ s;calc fL (eI (ha aI s σ H _ I h) λu s1 z=>?_);let⟨x,H1,a,b,c⟩:=z;exact eI (hr pos aI s1 σ H1 _ a c) λus s2 ⟨xs,H2,d,f,g⟩=>#[x::xs,H2,d,.cons b f,g]
def tTup(t:TA):TE:=λσ H Q=>t σ H λxs H1=>xs.length<=sizeLine/\∀p,H1 p=none->Q (.ref p) (upd H1 p<|.tup xs)
def tLst(t:TA):TE:=λσ H Q=>t σ H λxs H1=>xs.length<=sizeLine/\∀p,H1 p=none->Q (.ref p) (upd H1 p<|.lst xs)
theorem jL{x1}(h:PA X es t):PE X (.Tuple es x1 pos) (tTup t):=by
 intro aI s σ H Q I hq;calc wpAny_Tuple_spliced (eI (h pos aI s σ H _ I hq) λus s1 ⟨xs,H1,a,r,z,q⟩=>#[by rw[←r.length];exact z,?_]);let hf:H1 s1.heap.objs.size=none:=a.hok.fresh<|aG _;calc#[.ref s1.heap.objs.size,upd H1 s1.heap.objs.size<|.tup xs,a.laid (t':=s1.toks) (λb u e=>aT _ e) (aG _) ?_,rfl,q _ hf];exact#[z,us,r,#[_,bR _ rfl,rfl,_,rfl]]
theorem EJ(h:PA X es t):PE X (.List es pos) (tLst t):=by
 intro aI s σ H Q I hq;calc wpAny_List_spliced (eI (h pos aI s σ H _ I hq) λus s1 ⟨xs,H1,a,r,z,q⟩=>#[by rw[←r.length];exact z,?_]);let hf:H1 s1.heap.objs.size=none:=a.hok.fresh<|aG _;calc#[.ref s1.heap.objs.size,upd H1 s1.heap.objs.size<|.lst xs,a.laid (t':=s1.toks) (λb u e=>aT _ e) (aG _) ?_,rfl,q _ hf];exact#[z,us,0,r,bR _ rfl]
end
abbrev Sp:=List V->Hp->VK->XK->Prop
abbrev WX:=List Env->Hp->Shared->XK->Value->Shared->Prop
structure GH(P:Program)(w:World)(K:W.Frag)(mg:Str->Option Value)(base:Heap)(A:Around)(outer:List Env)(s:Shared)(H:Hp):Prop where
 frames:A.frames=some outer
 mod:Mod K mg base
 bs:∀b o,base.get? b=some o->s.heap.get? b=some o/\H b=none
 bsz:base.objs.size<=s.heap.objs.size
 funs:s.heap.FunFrames base outer
 frf:∀b∈frs outer,H b=none
 hok:iX P w H s.heap
 bare:AllBare s.gens
def CE(outer:List Env)(P:Program)(w:World)(H:Hp)(s:Shared)(Q:VK)(u:Value)(s':Shared):Prop:=
 ∃v H',s'.os=s.os/\AllBare s'.gens/\Un (frs outer) [] H H' s.heap s'.heap/\iX P w H' s'.heap/\RelV v u/\Q v H'
def CR(CX:WX)(outer:List Env)(P:Program)(w:World)(H:Hp)(s:Shared)(Q:VK)(E:XK)(r:Result)(s':Shared):Prop:=
 match r with
 | .ok (.ret u)=>CE outer P w H s Q u s'
 | .ok _=>False
 | .error e=>CX outer H s E e s'
structure cW(P:Program)(w:World)(K:W.Frag)(mg:Str->Option Value)(base:Heap)(CX:WX)(k:Nat)(f:Addr)(fd:FuncData)(ps:List Str)(sp:Sp):Prop where
 len:∀vs H Q E,sp vs H Q E->vs.length=ps.length
 run:∀(A:Around)(outer:List Env)(s:Shared)(H:Hp)(args:Args)(us:List Value)(vs:List V)(Q:VK)(E:XK),fV k A->GH P w K mg base A outer s H->BindsTo s fd args (ps.zip us)->cY vs us->sp vs H Q E->
  codeAny (model P w) A (.call (.ref f) args) (CR CX outer P w H s Q E) s
theorem cW.mono{k:Nat}(F:cW P w K mg base CX j f fd ps sp)(h:j<=k):
 cW P w K mg base CX k f fd ps sp:=#[F.len,λA outer s H args us vs Q E hr=>F.run A outer s H args us vs Q E<|hr.mono h]
theorem GH.make(e:GH P w K mg base A outer s H)(C:Addr)(us:List Value)(kw:List (Str×Value)):
 GH P w K mg base (A.under<|.builtin "type.__call__" #[.ref C::us,kw]) outer s H:=#[by first |exact e.frames |(simpa[Around.under,Code.envs,Code.isFrame,pushEnvs]using e.frames),e.mod,e.bs,e.bsz,e.funs,e.frf,e.hok,e.bare]
theorem Inv.env0(I:Inv X aI σ H s):GH X.prog X.w X.K X.mg X.base X.A X.stack s H:=
 #[I.ok.frames,I.ok.mod,I.bs,bT I.ok.bsz I.sz,I.stack,I.stkFree,I.hok,I.bare]
theorem Inv.after{Q:VK}(I:Inv X aI σ H s)(h:CE X.stack X.prog X.w H s Q u s'):EP X aI σ Q u s':=by
 let⟨v,H',os,bare,un,hok,r,q⟩:=h;let⟨c,g,d,t,a⟩:=s';obtain rfl:a=s.os:=os;exact#[v,H',I.call (h':=c) (g':=g) (d':=d) (t':=t) (ch:=[]) un hok bare (λb z=>absurd z (by simp)),r,q]
def JG(sp:Sp)(dvs:List V)(E:XK)(t:TA):TE:=λσ H Q=>t σ H λvs H1=>sp (vs++dvs) H1 Q E
def yK(C:Addr)(m:Str)(sp:Sp)(dvs:List V)(E:XK)(ta:TE)(t:TA):TE:=λσ H Q=>ta σ H λx H1=>nZ x λa=>∃dx fs,H1 a=some (.ins C dx fs)/\fs.lookup m=none/\
 t σ H1 λvs H2=>sp (x::(vs++dvs)) H2 Q E
def GZ(C:Addr)(sp:Sp)(dvs:List V)(E:XK)(t:TA):TE:=λσ H Q=>t σ H λvs H1=>∀x dx,H1 x=none->H1 dx=none->dx≠x->
 sp (.ref x::(vs++dvs)) (upd (upd H1 dx<|.own x) x<|.ins C dx []) (λv H2=>v=.non/\Q (.ref x) H2) E
def Binds(K:W.Frag)(fd:FuncData)(ps:List Str)(ds:List Value):Prop:=
 ∀(s:Shared)(us:List Value),K.In s.heap->(us++ds).length=ps.length->BindsTo s fd #[us,[]] (ps.zip<|us++ds)
theorem Binds.all(h:∀us:List Value,us.length=ps.length->bindArgs fd #[us,[]]=pure (ps.zip us)):Binds K fd ps []:=λs us _ hl=>by
 rw[cE]at hl⊢;exact .of_eq<|h us hl
def wE(CX:WX)(X:Cx)(E:XK):Prop:=∀(aI:List (Addr×Obj))(σ:St)(H:Hp)(s:Shared)(e:Value)(s':Shared),Inv X aI σ H s->CX X.stack H s E e s'->X.xe e s'
section
variable {k:Nat} {C:Addr} {dvs:List V} {ds:List Value} {E:XK} {x m:Str} {p pos:Pos} {t:TA}
theorem DX{Q:VK}(F:cW X.prog X.w X.K X.mg X.base CX k f fd ps sp)(hr:fV k X.A)(hb:Binds X.K fd ps ds)(hd:cY dvs ds)(hx:wE CX X E)
 (I:Inv X aI σ H s) (r:cY vs us) (h:sp (vs++dvs) H Q E):wpAny (model X.prog X.w) X.A (call (.ref f) us) (EP X aI σ Q) X.xe s:=by
 let a:cY (vs++dvs) (us++ds):=r.append hd;let hl:(us++ds).length=ps.length:=by rw[←a.length];exact F.len _ _ _ _ h
 calc wpAny_call (nO (F.run X.A X.stack s H #[us,[]] (us++ds) (vs++dvs) Q E hr I.env0 (hb s us I.kIn hl) a h) λr s' hq=>?_);cases r with
 |error e=>exact hx aI σ H s e s' I hq
 |ok b=>
  cases b with
  |ret u=>exact I.after hq
  |next=>exact False.elim hq
  |brk=>exact False.elim hq
  |cont=>exact False.elim hq
theorem IA(F:cW X.prog X.w X.K X.mg X.base CX k f fd ps sp)(hr:fV k X.A)(hg:Gl X x)(hm:X.mg x=some (.ref f))(hk:W.keepIn X.K (.ref f)=true)(hb:Binds X.K fd ps ds)(hd:cY dvs ds)(hx:wE CX X E)
 (ha:PA X (e::es) t) (hdb:autoParam ((x==("__debug__":Str))=false) a2._auto_1) (he:autoParam (starEach (e::es) X.env=(false,eval e X.env)::starEach es X.env) a1._auto_1) (iK:autoParam ((backTo pos<|starEach es X.env).any (·.1)=false) a1._auto_1):
 PE X (.Call (.Name x p) (e::es) [] pos) (JG sp dvs E t):=by
 intro aI s σ H Q I h;calc eW<|vQ I hg hm ?_ hdb;calc lM (h₀:=X.base) I.ok.mod.kin hk (eI (ha pos aI s σ H _ I h) λus s1 ⟨vs,H1,a,r,q⟩=>#[a.kIn,?_]) he iK;exact DX F hr hb hd hx a r q
theorem bt{pl:Sem Bool}(he:PE X o ta)(c:KM X.K C)(hm:MZ X.K C m f)(F:cW X.prog X.w X.K X.mg X.base CX k f fd ps sp)(hr:fV k X.A)(hb:Binds X.K fd ps ds)(hd:cY dvs ds)(hx:wE CX X E)(ha:PA X (e::es) t)
 (hst:autoParam (starEach (e::es) X.env=(false,eval e X.env)::starEach es X.env) a1._auto_1) (iK:autoParam ((backTo pos<|starEach es X.env).any (·.1)=false) a1._auto_1)
 (ht:autoParam (eval (.Call (.Attribute o m lP) (e::es) [] pos) X.env=(do
  let ov ←eval o X.env
  standAt lP.atName
  let (f,first) ←holding [ov] (getMethod ov m pl)
  callWith pos f first (backTo pos<|starEach (e::es) X.env) (backToKw pos<|keywordEach [] X.env))) a1._auto_1):
 PE X (.Call (.Attribute o m lP) (e::es) [] pos) (yK C m sp dvs E ta t):=by
 intro aI s σ H Q I h;calc W.methodCall_KW (pl:=pl) (eI (he aI s σ H _ I h) λu s1 z=>?_) ht;let⟨x,H1,b,g,q⟩:=z;replace q:=xG q;let⟨a,rfl,dx,fs,i,l,q⟩:=q;obtain rfl:u=Value.ref a:=g;calc FO b i c hm l ?_;calc lM (first:=[.ref a]) (h₀:=X.base) I.ok.mod.kin hm.kp (eI (ha pos aI s1 σ H1 _ b q) λus s2 ⟨vs,H2,d,r,j⟩=>#[d.kIn,?_]) hst iK;exact DX (us:=.ref a::us) (vs:=.ref a::vs) F hr hb hd hx d (.cons rfl r) j
structure Mk(K:W.Frag)(C f:Addr):Prop where
 makes:W.makesIn K C=true
 init:W.findIn K (.ref C) "__init__"=some (some<|.ref f)
 fn:W.isFn K (.ref f)=true
 kp:W.keepIn K (.ref C)=true
theorem OT{Q:VK}(M:Mk X.K C f)(F:cW X.prog X.w X.K X.mg X.base CX k f fd ps sp)(hr:fV (k+1) X.A)(hb:Binds X.K fd ps ds)(hd:cY dvs ds)
 (hx:wE CX X E) (I:Inv X aI σ H s) (r:cY vs us)
 (h:∀x dx,H x=none->H dx=none->dx≠x->sp (.ref x::(vs++dvs)) (upd (upd H dx<|.own x) x<|.ins C dx []) (λv H2=>v=.non/\Q (.ref x) H2) E):
 wpAny (model X.prog X.w) X.A (call (.ref C) us) (EP X aI σ Q) X.xe s:=by
 let hq:=h (s.heap.objs.size+1) s.heap.objs.size (I.hok.fresh<|nT _) (I.hok.fresh<|aG _)<|bL<|pS _;let b:=Inv.made (C:=C) I;let c:cY (V.ref (s.heap.objs.size+1)::(vs++dvs)) (Value.ref (s.heap.objs.size+1)::(us++ds)):=.cons rfl<|r.append hd;let hl:(Value.ref (s.heap.objs.size+1)::us++ds).length=ps.length:=by
  let e:=c.length;rw[F.len _ _ _ _ hq]at e;exact e.symm
 refine wpAny_call (SL (f:=f) I.kIn M.makes M.init (cI.mp M.fn) (nO (F.run _ X.stack _ _ #[Value.ref (s.heap.objs.size+1)::us,[]] (Value.ref (s.heap.objs.size+1)::(us++ds)) _ _ E (hr.make C us [])
  (b.env0.make C us []) (hb _ (Value.ref (s.heap.objs.size+1)::us) b.kIn hl) c hq) λr s' a=>?_))
 cases r with
 |error e=>exact hx aI σ _ _ e s' b a
 |ok d=>
  cases d with
  |ret u=>
   let⟨v,H',g,rv,ev,i⟩:=b.after a;subst ev;exact#[rv,#[V.ref<|s.heap.objs.size+1,H',g,rfl,i]]
  |next=>exact False.elim a
  |brk=>exact False.elim a
  |cont=>exact False.elim a
theorem bu(M:Mk X.K C f)(F:cW X.prog X.w X.K X.mg X.base CX k f fd ps sp)(hr:fV (k+1) X.A)(hg:Gl X x)(hm:X.mg x=some (.ref C))(hb:Binds X.K fd ps ds)(hd:cY dvs ds)(hx:wE CX X E)
 (ha:PA X (e::es) t) (hdb:autoParam ((x==("__debug__":Str))=false) a2._auto_1) (he:autoParam (starEach (e::es) X.env=(false,eval e X.env)::starEach es X.env) a1._auto_1) (iK:autoParam ((backTo pos<|starEach es X.env).any (·.1)=false) a1._auto_1):
 PE X (.Call (.Name x p) (e::es) [] pos) (GZ C sp dvs E t):=by
 intro aI s σ H Q I h;calc eW<|vQ I hg hm ?_ hdb;calc lM (h₀:=X.base) I.ok.mod.kin M.kp (eI (ha pos aI s σ H _ I h) λus s1 ⟨vs,H1,a,r,q⟩=>#[a.kIn,?_]) he iK;exact OT M F hr hb hd hx a r q
end
section
variable {k:Nat} {C:Addr} {ks:List Str} {E:XK} {x m:Str} {p pos kpos:Pos} {kws:List Keyword} {t tk:TA} {nm:Option Str}
variable {g:List Value->List Value->List Value} {gV:List V->List V->List V}
end
structure bP(N P:List Str)(sc:Scope):Prop where
 kind:sc.kind=.function
 co:sc.isCoroutine=false
 gen:sc.isGenerator=false
 nd:N.Nodup
 pre:N.take P.length=P
 par:∀x∈P,sc.names.lookup x=some .local\/sc.names.lookup x=some .cell
 nofree:∀y∈sc.names,y.2≠.free
theorem JZ{kindOf:Str->Option NameKind}{x:Str}:∀{binds:List (Str×Value)}{m:Str->Option Value},(∀v,(x,v)∉binds)->bindL kindOf binds m x=m x
 |[],_,_=>rfl
 |(n,v)::r,m,h=>by
  unfold bindL;rw[JZ λw a=>h w<|aX _ a];split
  ·have :x≠n:=by rintro rfl;exact h v aW
   simp[this]
  ·rfl
theorem QB{kindOf:Str->Option NameKind}{x:Str}:∀{binds:List (Str×Value)}{m:Str->Option Value},(∀v,(x,v)∉binds)->bindC kindOf binds m x=m x
 |[],_,_=>rfl
 |(n,v)::r,m,h=>by
  unfold bindC;rw[QB λw a=>h w<|aX _ a];split
  ·rfl
  ·have :x≠n:=by rintro rfl;exact h v aW
   simp[this]
theorem QA{kindOf:Str->Option NameKind}{x:Str}{v:Value}:∀{P:List Str}{vs:List Value}{i:Nat}{m:Str->Option Value},P.Nodup->P[i]?=some x->vs[i]?=some v->kindOf x=some .local->
 bindL kindOf (P.zip vs) m x=some v
 |[],_,_,_,_,h,_,_=>by simp at h
 |_::_,[],_,_,_,_,h,_=>by simp at h
 |p::P,w::vs,0,m,nd,h1,h2,hk=>by
  simp at h1 h2;subst h1;subst h2;show bindL kindOf ((p,w)::P.zip vs) m p=_;unfold bindL;rw[JZ λv a=>(fZ.mp nd).1 (WN a).1,aO hk];simp
 |p::P,w::vs,i+1,m,nd,h1,h2,hk=>by
  show bindL kindOf ((p,w)::P.zip vs) m x=_;unfold bindL;exact QA (i:=i) (fZ.mp nd).2 (by simpa using h1) (by simpa using h2) hk
theorem QC{kindOf:Str->Option NameKind}{x:Str}{v:Value}:∀{P:List Str}{vs:List Value}{i:Nat}{m:Str->Option Value},P.Nodup->P[i]?=some x->vs[i]?=some v->kindOf x≠some .local->
 bindC kindOf (P.zip vs) m x=some v
 |[],_,_,_,_,h,_,_=>by simp at h
 |_::_,[],_,_,_,_,h,_=>by simp at h
 |p::P,w::vs,0,m,nd,h1,h2,hk=>by
  simp at h1 h2;subst h1;subst h2;show bindC kindOf ((p,w)::P.zip vs) m p=_;unfold bindC;rw[QB λv a=>(fZ.mp nd).1 (WN a).1,aH hk];simp
 |p::P,w::vs,i+1,m,nd,h1,h2,hk=>by
  show bindC kindOf ((p,w)::P.zip vs) m x=_;unfold bindC;exact QC (i:=i) (fZ.mp nd).2 (by simpa using h1) (by simpa using h2) hk
noncomputable def uU(N:List Str)(vs:List V):St:=vs.map some++List.replicate (N.length-vs.length) none
noncomputable def jX(CX:WX)(P:Program)(w:World)(K:W.Frag)(mg:Str->Option Value)(base:Heap)(N:List Str)(qual:Str)(scope:Scope)(f:Addr)(cd:Value)(A:Around)(outer:List Env)(s:Shared)(H:Hp)(E:XK):Cx where
 prog:=P
 w:=w
 K:=K
 mg:=mg
 base:=base
 A:=A.deeper (envOfC qual scope s.heap.objs.size f cd)
 N:=N
 s₀:=s
 H₀:=H
 env:=envOfC qual scope s.heap.objs.size f cd
 outer:=outer
 stack:=envOfC qual scope s.heap.objs.size f cd::outer
 ex:=[]
 calm:=true
 fn:=λ_=>true
 pn:=[]
 xe:=λe s'=>wpAny (model P w) (A.deeper<|envOfC qual scope s.heap.objs.size f cd) (leaving (envOfC qual scope s.heap.objs.size f cd) e) (λ_ s''=>CX outer H s E e s'') (λe' s''=>CX outer H s E e' s'') s'
theorem BZ{sc:Scope}{x:Str}(h:sc.names.lookup x=some .cell):∃c,(cellsFrom n sc.names []).lookup x=some c:=by
 let q:=W.cellsFrom_some sc.names n []<|.inl h;exact Option.isSome_iff_exists.mp q
theorem ML{scope:Scope}{s1:Shared}{E:XK}
 (S:bP N ps scope) (hd:A.handled=none) (e0:GH P w K mg base A outer s H) (hl:vs.length=ps.length) (r:cY vs us)
 (x:InCallC s s.heap.objs.size (bindL (envOfC qual scope s.heap.objs.size f cd).kindOf (ps.zip us) λ_=>none) (cellsFrom (s.heap.objs.size+1) scope.names []) (bindC (envOfC qual scope s.heap.objs.size f cd).kindOf (ps.zip us) λ_=>none) s1):
 Inv (jX CX P w K mg base N qual scope f cd A outer s H E) [] (uU N vs) H s1:=by
 let iK:ps.length<=N.length:=by have :=cQ List.length S.pre;rw[bH]at this;lia
 let⟨h1,tk,rfl,hk⟩:=x.done;let noA:∀b:Addr,b∉(jX CX P w K mg base N qual scope f cd A outer s H E).ex:=λb z=>absurd (show b∈([]:List Addr)from z) (by simp)
 refine#[#[e0.mod,S.kind,rfl,rfl,aG _,λy z c h1 h2=>?_,λy hy=>?_,λy c _ h=>?_,λ_=>hd,Around.frames_deeper e0.frames,.inr #[rfl,rfl],λb z=>absurd z<|noA b,e0.bs,e0.bsz,λb _ _=>noA b,λb z=>absurd z<|noA b,e0.funs,e0.frf],
  rfl,e0.bare,Un.kept hk,#[_,x.toInCall.ns,λi y v h1 h2 d=>?_],λy c h=>#[_,x.cell y c h],e0.hok.fresh<|aG _,λy c h=>?_,λp hp=>absurd (show p∈([]:List (Addr×Obj))from hp) (by simp),e0.hok.kept hk,?_]
 ·exact name_of_addr x.apart (dC h1)<|dC h2
 ·let hy:scope.names.lookup y=some .cell\/scope.names.lookup y=some .free:=hy;rcases hy with hy |hy
  ·exact BZ hy
  ·exact absurd rfl<|S.nofree _<|dC hy
 ·exact pZ<|x.above y c<|dC h
 ·let hi:i<vs.length:=by
   unfold uU at h2;by_cases hi:i<vs.length
   ·exact hi
   ·rw[bI (by simpa using hi)]at h2;rw[List.getElem?_replicate]at h2;split at h2<;>cases h2
  let ha:vs[i]?=some v:=by
   unfold uU at h2;rw[bE (by simpa using hi),aF]at h2;cases e:vs[i]? with
   |none=>rw[e]at h2;cases h2
   |some a=>rw[e]at h2;cases h2;rfl
  let⟨u,hu,rv⟩:=r.get ha;let hp:ps[i]?=some y:=by
   rw[←S.pre,eL ()];exact h1
  let ndP:ps.Nodup:=by rw[←S.pre];exact S.nd.sublist<|List.take_sublist _ _
  calc#[u,rv,?_];rcases S.par y (aP hp)with k |k
  ·exact .inl #[k,QA ndP hp hu k]
  ·let⟨c,e⟩:=BZ (n:=s.heap.objs.size+1) k;calc .inr #[.inl k,c,e,?_];let q:=x.cell y c e;rw[QC ndP hp hu (by show scope.names.lookup y≠_;rw[k];decide)]at q;exact q
 ·exact e0.hok.fresh<|pZ<|x.above y c<|dC h
 ·unfold uU;show _=N.length;rw[aK,aD,fW];lia
theorem ir{k:Nat}{name:Str}{params:Arguments}{scope:Scope}{dV kV doc pm eP ct oc:Value}{an od:Option Addr}
 {osl:Array (Option Value)} (lk:K.lookup f=some #[oc,od,.func<|W.fnOf name qual params body scope dV kV doc pm an eP ct,osl]) (hcd:W.codeIn K eP qual=true) (S:bP N ps scope)
 (len:∀vs H Q E,sp vs H Q E->vs.length=ps.length)
 (hbody:∀(A:Around)(outer:List Env)(s:Shared)(H:Hp)(vs:List V)(Q:VK)(E:XK),fV k (A.deeper<|envOfC qual scope s.heap.objs.size f eP)->sp vs H Q E->
  ∃t,sU (jX CX P w K mg base N qual scope f eP A outer s H E) body t/\t {nx:=λ_ H'=>Q .non H',rt:=Q} (uU N vs) H):
 cW P w K mg base CX (k+1) f (W.fnOf name qual params body scope dV kV doc pm an eP ct) ps sp:=by
 calc#[len,λA outer s H args us vs Q E hr c hb r d=>?_];let hl:=len _ _ _ _ d;let KX:K.In s.heap:=c.mod.kin.keeps λb o e=>(c.bs b o e).1
 let lim:s.heap.NoLimit:=c.mod.nolimit.keeps λb o e=>(c.bs b o e).1
 let a:∀y∈ps.zip us,scope.names.lookup y.1=some .local\/(scope.names.lookup y.1=some .cell/\((cellsFrom (s.heap.objs.size+1) scope.names []).lookup y.1).isSome=true):=λz hy=>by
  let⟨n,v⟩:=z
  rcases S.par n (WN hy).1 with q |q
  ·exact .inl q
  ·exact .inr #[q,W.cellsFrom_some _ _ _<|.inl q]
 calc codeAny_call_function hr.depth (KX _ _ lk) rfl S.co S.gen rfl (W.codeRec_of KX hcd)<|hb _ _ _ _ ?_;refine wpAny_newFunctionEnv_cells S.kind a λenv he s1 x=>?_
 subst he;calc#[lim.keeps x.toInCall.keep,codeAny_func ?_];let⟨t,ht,hq⟩:=hbody A outer s H vs Q E (hr.deeper _) d;let I:Inv (jX CX P w K mg base N qual scope f eP A outer s H E) [] (uU N vs) H s1:=ML S hr.hd c hl r x;refine eM (ht [] s1 (uU N vs) H _ I hq) (λg s' hs=>?_) λe s' hs=>hs
 let fin:∀{σ':St}{H':Hp}{v:V}{u:Value},Inv (jX CX P w K mg base N qual scope f eP A outer s H E) [] σ' H' s'->RelV v u->Q v H'->CE outer P w H s Q u s':=
  λ{σ' H' v u} J rv q=>#[v,H',J.os,J.bare,J.base,J.hok,rv,q]
 cases g with
 |ret u=>
  let⟨v,σ',H',J,rv,q⟩:=hs;exact fin J rv q
 |next=>
  let⟨σ',H',J,q⟩:=hs;exact fin (v:=V.non) (u:=Value.none) J rfl q
 |brk=>
  let⟨_,_,_,q⟩:=hs;exact False.elim q
 |cont=>
  let⟨_,_,_,q⟩:=hs;exact False.elim q
section
variable {x:Str} {p pos:Pos} {t:TA} {id:String} {r:List V->Hp->VK->Prop}
def tCB(r:List V->Hp->VK->Prop)(t:TA):TE:=λσ H Q=>t σ H λvs H1=>r vs H1 Q
theorem zM(hc:jG X (.builtin id) r)(hg:Gl X x)(hm:X.mg x=none)(hv:bootBuiltins x=some (.builtin id))(ha:PA X (e::es) t)(hn:autoParam (x≠"__name__") a2._auto_1)(hdb:autoParam ((x==("__debug__":Str))=false) a2._auto_1)
 (he:autoParam (starEach (e::es) X.env=(false,eval e X.env)::starEach es X.env) a1._auto_1) (iK:autoParam ((backTo pos<|starEach es X.env).any (·.1)=false) a1._auto_1):PE X (.Call (.Name x p) (e::es) [] pos) (tCB r t):=by
 intro aI s σ H Q I h;calc eW<|uL I hg hm hv ?_ hn hdb;exact PyProof.Rows.callWith_builtin1 (eI (ha pos aI s σ H _ I h) λus s1 ⟨vs,H1,a,b,c⟩=>hc aI s1 σ H1 vs us Q a b c) he iK
theorem jM(hc:jG X (.type T) r)(hg:Gl X x)(hm:X.mg x=none)(hv:bootBuiltins x=some (.type T))(ha:PA X (e::es) t)(hn:autoParam (x≠"__name__") a2._auto_1)(hdb:autoParam ((x==("__debug__":Str))=false) a2._auto_1)
 (he:autoParam (starEach (e::es) X.env=(false,eval e X.env)::starEach es X.env) a1._auto_1) (iK:autoParam ((backTo pos<|starEach es X.env).any (·.1)=false) a1._auto_1):PE X (.Call (.Name x p) (e::es) [] pos) (tCB r t):=by
 intro aI s σ H Q I h;calc eW<|uL I hg hm hv ?_ hn hdb;exact dS (eI (ha pos aI s σ H _ I h) λus s1 ⟨vs,H1,a,b,c⟩=>hc aI s1 σ H1 vs us Q a b c) he iK
end
end L2
namespace HT
open PySem PyProof.Rows
noncomputable def lexLt:List Int->List Int->Bool
 |[],[]=>false
 |[],_::_=>true
 |_::_,[]=>false
 |x::xs,y::ys=>if x=y then lexLt xs ys else decide (x<y)
theorem lexLt_cons(x y:Int)(xs ys:List Int):lexLt (x::xs) (y::ys)=if x=y then lexLt xs ys else decide (x<y):=rfl
theorem VE(A:Around)(s:Shared)(a:Int)(t:Tok)(c:Int)(u:Tok):∃e,SeqAt.EqAt A s (.int a t) (.int c u) e/\(e=true↔a=c):=
 #[(a==c),SeqAt.EqAt.int_int a t c u,by simp]
section
open PySem.SeqAt
open PySem.AutoSeq1 (wpAny_loadPart')
open PySem.MeetsSeq PySem.MeetsSeq2 PySem.MeetsSeq3
end
section
variable {prog:Program} {w:World} {A:Around} {E:Value->Shared->Prop} {s:Shared}
noncomputable def sIx(n d:Nat):Option Int->Nat
 |none=>d
 |some v=>if v<0 then(v+(n:Int)).toNat else min v.toNat n
theorem sIx_none(n d:Nat):sIx n d none=d:=rfl
theorem sIx_nat(n d k:Nat):sIx n d (some (k:Int))=min k n:=by
 show(if(k:Int)<0 then((k:Int)+(n:Int)).toNat else min (k:Int).toNat n)=min k n;rw[aH (by lia),bM]
theorem lm(n d:Nat)(hd:d<=n)(o:Option Int):sIx n d o<=n:=by
 cases o with
 |none=>exact hd
 |some v=>
  show(if v<0 then(v+(n:Int)).toNat else min v.toNat n)<=n;by_cases a:v<0
  ·rw[aO a];lia
  ·rw[aH a];exact Nat.min_le_right _ _
theorem IY(v:Int)(n d:Nat):(if v<0 then max (v+(n:Int)) 0 else min v (n:Int))=((sIx n d (some v):Nat):Int):=by
 show(if v<0 then max (v+(n:Int)) 0 else min v (n:Int))=(((if v<0 then(v+(n:Int)).toNat else min v.toNat n):Nat):Int)
 by_cases a:v<0
 ·simp only[aO a];lia
 ·simp only[aH a];lia
theorem FZ(lo hi:Option Int)(n:Nat):Builtin.Slice.sliceAdjust lo hi 1 (n:Int)=(((sIx n 0 lo:Nat):Int),((sIx n n hi:Nat):Int)):=by
 let h1:¬((1:Int)<0):=by lia
 unfold Builtin.Slice.sliceAdjust;simp only[h1,if_false];refine Prod.ext ?_ ?_
 ·cases lo with
  |none=>rfl
  |some v=>exact IY v n 0
 ·cases hi with
  |none=>rfl
  |some v=>exact IY v n n
theorem EF(i j:Nat):Builtin.Slice.slicePlaces (i:Int) (j:Int) 1=j-i:=by
 unfold Builtin.Slice.slicePlaces;let h1:(1:Int)>0:=by lia
 simp only[h1,if_true,Int.ediv_one];split<;>lia
theorem YF{v:Value}{o:Option Int}{Q:Option Int->Shared->Prop}(p:IsPart v o)(h:Q o s):wpAny (model prog w) A (Builtin.Slice.slicePartIndex v) Q E s:=by
 cases p with
 |none=>exact slicePart_none h
 |int i t=>exact slicePart_int h
theorem sliceApplied_gen{sl:Addr}{vl vu:Value}{lo hi:Option Int}{n:Nat}{Q:Int×Int×Nat->Shared->Prop}(hs:s.heap.IsSliceOf sl vl vu .none)(pl:IsPart vl lo)(pu:IsPart vu hi)
 (h:Q (((sIx n 0 lo:Nat):Int),1,sIx n n hi-sIx n 0 lo) s):wpAny (model prog w) A (Builtin.Slice.sliceApplied (.ref sl)<|pure (n:Int)) Q E s:=by
 let⟨os,a,mT,b⟩:=id hs;unfold Builtin.Slice.sliceApplied Builtin.Slice.sliceFields;calc aE<|aE<|wpAny_field a b (x:=vl) rfl<|aE<|wpAny_field a b (x:=vu) rfl<|aE<|wpAny_field a b (x:=.none) rfl<|aS ?_;calc aE<|slicePart_none ?_;show wpAny _ _ (if((1:Int)==0)=true then _ else _) _ _ s;rw[aH (by decide)];calc aE<|YF pl<|aE<|YF pu<|aE<|aS ?_;show wpAny _ _ (match Builtin.Slice.sliceAdjust lo hi 1 (n:Int)with |(lo,hi)=>pure (lo,(1:Int),Builtin.Slice.slicePlaces lo hi 1)) _ _ s;rw[FZ lo hi n];show wpAny _ _ (pure (((sIx n 0 lo:Nat):Int),(1:Int),Builtin.Slice.slicePlaces ((sIx n 0 lo:Nat):Int) ((sIx n n hi:Nat):Int) 1)) _ _ s;rw[EF];exact aS h
theorem PN(xs:Array Value)(i k:Nat):((List.range k).filterMap λ(m:Nat)=>xs[((i:Int)+(m:Int)*1).toNat]?).toArray=((xs.toList.drop i).take k).toArray:=by
 let e:(λ(m:Nat)=>xs[((i:Int)+(m:Int)*1).toNat]?)=λm=>xs[i+m]?:=by
  funext m
  have :((i:Int)+(m:Int)*1).toNat=i+m:=by lia
  rw[this]
 rw[e];have :=pick_run xs i k;rw[DB]at this;let a:((λx=>xs[x]?) ∘ λx=>i+x)=λm=>xs[i+m]?:=rfl
 rw[a]at this;rw[this]
theorem getItem_tuple_cut{t sl:Addr}{cT:Array Value}{vl vu:Value}{lo hi:Option Int}{Q:Value->Shared->Prop}(ht:IsTup s.heap t cT)(hs:s.heap.IsSliceOf sl vl vu .none)(pl:IsPart vl lo)(pu:IsPart vu hi)
 (hw:¬(sIx cT.size 0 lo=0/\sIx cT.size cT.size hi=cT.size))
 (h:Q (.ref s.heap.objs.size) {s with heap:=s.heap.push {cls:=.type "tuple",data:=.seq ((cT.toList.drop<|sIx cT.size 0 lo).take (sIx cT.size cT.size hi-sIx cT.size 0 lo)).toArray}})
 (hsz:cT.size<=sizeLine):wpAny (model prog w) A (getItem (.ref t)<|.ref sl) Q E s:=by
 let a:sizeOk (.seq ((cT.toList.drop<|sIx cT.size 0 lo).take (sIx cT.size cT.size hi-sIx cT.size 0 lo)).toArray):=by
  show((cT.toList.drop<|sIx cT.size 0 lo).take (sIx cT.size cT.size hi-sIx cT.size 0 lo)).toArray.size<=sizeLine;rw[aM,bH,cZ,dQ];lia
 let f:sIx cT.size cT.size hi<=cT.size:=lm _ _ (aG _) hi;let⟨os,b,mT,e⟩:=id hs;let c:s.TypeIs (.ref sl) "slice":=#[os,b,mT]
 unfold getItem
 try with_reducible refine dI ?_
 first |refine aE (aS ?_) |skip
 calc aE (wpAny_sequenceKey ht.typeIs (by decide) ?_);refine aE (mU (name:=Str.ofString "__getitem__") ht.typeIs dX
  (gU dX ht.typeIs entry_tuple_getitem ?_<|args_tuple_getitem _ _))
 show wpAny _ _ (Builtin.Tuple.tupleItemsOf (.ref t) >>= _) _ _ s;calc aE<|tupleItemsOf_ ht ?_;calc aE<|lL c ?_;rw[aO (by decide)];calc aE<|sliceApplied_gen hs pl pu ?_;let d:¬((((sIx cT.size 0 lo:Nat):Int)==0&&(1:Int)==1&&(sIx cT.size cT.size hi-sIx cT.size 0 lo)==cT.size)=true):=by
  intro q;rw[bU,bU]at q;let g:((sIx cT.size 0 lo:Nat):Int)=0:=eq_of_beq q.1.1;let i:sIx cT.size cT.size hi-sIx cT.size 0 lo=cT.size:=eq_of_beq q.2;exact hw #[by lia,by lia]
 show wpAny _ _ (if(((sIx cT.size 0 lo:Nat):Int)==0&&(1:Int)==1&&(sIx cT.size cT.size hi-sIx cT.size 0 lo)==cT.size)=true then _ else _) _ _ s;rw[aH d,PN]
 first
  |exact aE (m:=Builtin.Tuple.tupleExact _)<|dY (aS #[_,rfl,aS h]) a
  |exact aE (m:=Builtin.Tuple.tupleExact _)<|dY (aE<|aS<|aS #[_,rfl,aS h]) a
  |exact aE<|aE (m:=Builtin.Tuple.tupleExact _)<|dY (aS<|aS #[_,rfl,aS h]) a
  |exact aE<|aE (m:=Builtin.Tuple.tupleExact _)<|dY (aS #[_,rfl,aS h]) a
end
end HT
namespace L2
open PySem PySem.Spec PyProof.Rows
variable {a b l:Addr} {A:Around} {X:Cx} {e o:Expr} {h h':Heap} {H H':Hp} {aI:List (Addr×Obj)} {kvs:List (List eR×V)} {es:List Expr} {xs:List V} {its its' us:List Value} {j n t':Nat} {lP pos':Pos} {P prog:Program} {s:Shared} {σ:St} {T:String} {ta te:TE} {α:Type} {v y:V} {u:Value} {E Q:Value->Shared->Prop} {w:World}
local macro_rules | `(()) => `(by lia)
abbrev TO:=St->Hp->(Option Int->Hp->Prop)->Prop
def PO(X:Cx)(e:Option Expr)(t:TO):Prop:=
 ∀(aI:List (Addr×Obj)) (s:Shared) (σ:St) (H:Hp) (Q:Option Int->Hp->Prop),Inv X aI σ H s->t σ H Q->
  wpAny (model X.prog X.w) X.A (evalPart e X.env) (λu s'=>∃o H',Inv X aI σ H' s'/\IsPart u o/\Q o H') X.xe s
def QI:TO:=λ_ H Q=>Q none H
def tPart(t:TE):TO:=λσ H Q=>t σ H λx H1=>rW x λi=>Q (some i) H1
theorem XF{ns:List Int}:∀{us:List Value},cY (ns.map V.int) us->IntsAre us ns:=by
 induction ns with
 |nil=>intro us r;rw[rA]at r;cases r;exact .nil
 |cons n ns a=>
  intro us r;rw[bV]at r;cases r with
  |cons b c=>
   let⟨t,e⟩:=b;subst e;exact .cons n t<|a c
section
variable {lo hi:Option Expr} {tl th:TO} {pos p2:Pos}
theorem qM:PO X none QI:=by
 intro aI s σ H Q I h;rw[evalPart_none];exact aS #[none,H,I,.none,h]
theorem jQ(h:PE X e te):PO X (some e) (tPart te):=by
 intro aI s σ H Q I b;rw[evalPart_some];refine eI (h aI s σ H _ I b) λu s1 z=>?_;let⟨x,H1,c,d,a⟩:=z
 replace a:=jW a;let⟨i,rfl,q⟩:=a;let⟨t,rfl⟩:=d;exact#[some i,H1,c,.int i t,q]
def SlR(X:Cx)(r:V->Option Int->Option Int->Hp->VK->Prop):Prop:=
 ∀(aI:List (Addr×Obj)) (s:Shared) (σ:St) (H:Hp) (x:V) (v vl vu:Value) (lo hi:Option Int) (sl:Addr) (Q:VK),Inv X aI σ H s->RelV x v->s.heap.IsSliceOf sl vl vu .none->IsPart vl lo->IsPart vu hi->r x lo hi H Q->
  ∃T id,typeLookup (.type T) "__getitem__"=pure (some<|.builtin id)/\s.TypeIs v T/\wpAny (model X.prog X.w) X.A (getItem v<|.ref sl) (EP X aI σ Q) X.xe s
def tSl(r:V->Option Int->Option Int->Hp->VK->Prop)(te:TE)(tl th:TO):TE:=λσ H Q=>te σ H λx H1=>tl σ H1 λl H2=>th σ H2 λu H3=>r x l u H3 Q
theorem jE{r:V->Option Int->Option Int->Hp->VK->Prop}(hr:SlR X r)(he:PE X e te)(hl:PO X lo tl)(hu:PO X hi th):PE X (.Subscript e (.Slice lo hi none p2) pos) (tSl r te tl th):=by
 intro aI s σ H Q I h;calc Subscript_ (eI (he aI s σ H _ I h) λv s1 b=>?_);let⟨x,H1,g,i,j⟩:=b;calc wpAny_Slice (eI (hl aI s1 σ H1 _ g j) λc s2 ⟨l,H2,k,pl,m⟩=>eI (hu aI s2 σ H2 _ k m) λd a z0=>?_);let⟨u,f,n,o,p⟩:=z0;rw[evalPart_none];calc aS ?_;let t:Inv X aI σ f {a with heap:=a.heap.push {cls:=.type "slice",data:=.fields (List.toArray [c,d,.none])}}:=n.kept (t':=a.toks) λb B q=>aT _ q
 let⟨T,id,y,ht,z⟩:=hr aI {a with heap:=a.heap.push {cls:=.type "slice",data:=.fields (List.toArray [c,d,.none])}} σ f x v c d l u a.heap.objs.size Q t i (Heap.IsSliceOf.new ..) pl o p;show wpAny (model X.prog X.w) X.A (subscriptTail e (.Slice lo hi none p2) v<|.ref a.heap.objs.size) (EP X aI σ Q) X.xe {a with heap:=a.heap.push {cls:=.type "slice",data:=.fields (List.toArray [c,d,.none])}};exact tail_any (ops:=[.ref a.heap.objs.size,v]) ht y z (by with_unfolding_all rfl)
noncomputable def uQ(xs:List V)(lo hi:Option Int):List V:=(xs.drop<|HT.sIx xs.length 0 lo).take (HT.sIx xs.length xs.length hi-HT.sIx xs.length 0 lo)
theorem ZF(xs:List V)(lo hi:Option Int):(uQ xs lo hi).length<=xs.length:=by
 unfold uQ;rw[bH,cZ];lia
def rSlT(K:W.Frag):V->Option Int->Option Int->Hp->VK->Prop:=λx lo hi H Q=>nZ x λa=>∃xs,cV K H a xs/\
 ¬(HT.sIx xs.length 0 lo=0/\HT.sIx xs.length xs.length hi=xs.length)/\∀p,H p=none->Q (.ref p) (upd H p<|.tup<|uQ xs lo hi)
theorem YG:SlR X (rSlT X.K):=by
 intro aI s σ H x v f g lo hi sl Q I c hs pl d h;replace h:=xG h;let⟨a,rfl,xs,hx,e,q⟩:=h;cases c;let⟨its,r,ht,hz⟩:=I.tuple hx;let eO:its.toArray.size=xs.length:=by rw[aM];exact r.length.symm
 calc#["tuple",_,dX.lookup,ht.typeIs,?_];calc HT.getItem_tuple_cut ht hs pl d (by rw[eO];calc e) ?_ (by rw[eO];calc hz);rw[eO];calc#[.ref s.heap.objs.size,_,I.laid (t':=s.toks) (o:=.tup<|uQ xs lo hi) (λb i q=>aT _ q) (aG _) ?_,rfl,q _<|I.hok.fresh<|aG _];exact#[bT (ZF xs lo hi) hz,_,(r.drop<|HT.sIx xs.length 0 lo).take (HT.sIx xs.length xs.length hi-HT.sIx xs.length 0 lo),IsTup.new _ _]
end
noncomputable def TB(n:Nat)(i:Int):Option Nat:=if 0<=i then(if i<n then some i.toNat else none)else if -(n:Int)<=i then some (i+n).toNat else none
noncomputable def pO{α:Type}(xs:List α)(i:Int):Option α:=(TB xs.length i).bind λj=>xs[j]?
theorem IM{i:Int}(h:TB n i=some j):seqIndex? i n=some j/\j<n/\ -(n:Int)<=i/\i<n:=by
 unfold TB at h;by_cases a:0<=i
 ·rw[aO a]at h;by_cases h1:i<n
  ·rw[aO h1]at h;let e:i.toNat=j:=bY h;exact#[by rw[seqIndex_of a h1,e],(),(),h1]
  ·rw[aH h1]at h;cases h
 ·rw[aH a]at h;by_cases h1: -(n:Int)<=i
  ·rw[aO h1]at h;let e:(i+n).toNat=j:=bY h;exact#[by rw[seqIndex_neg () h1,e],(),h1,()]
  ·rw[aH h1]at h;cases h
theorem UX{xs:List α}{i:Int}{v:α}(h:pO xs i=some v):∃j,seqIndex? i xs.length=some j/\xs[j]?=some v/\j<xs.length/\ -(xs.length:Int)<=i/\i<xs.length:=by
 unfold pO at h;cases e:TB xs.length i with
 |none=>rw[e]at h;cases h
 |some j=>
  rw[e]at h;let⟨h1,h2,a,b⟩:=IM e;exact#[j,h1,h,h2,a,b]
theorem zU{xs:List α}{v:α}(h:xs[j]?=some v):pO xs (j:Int)=some v:=by
 let a:j<xs.length:=(aC.mp h).1;let e:TB xs.length (j:Int)=some j:=by
  unfold TB;rw[aO (),aO ()];simp
 unfold pO;rw[e];exact h
theorem VZ(xs:List α)(v:α):pO (xs++[v]) (-1)=some v:=by
 let hl:(xs++[v]).length=xs.length+1:=by simp
 let e:TB (xs++[v]).length (-1)=some xs.length:=by
  unfold TB;rw[hl,aH (by decide),aO ()]
  congr 1
  lia
 unfold pO;rw[e];show(xs++[v])[xs.length]?=some v;simp
def KJ(b:Expr):Prop:=∀o i,subscripted b false o i=operate [o,i] (getItem o i)
def o8(X:Cx)(r:R2):Prop:=
 ∀(value slice:Expr) (aI:List (Addr×Obj)) (s:Shared) (σ:St) (H:Hp) (x y:V) (v u:Value) (Q:VK),Inv X aI σ H s->RelV x v->RelV y u->r x y H Q->
  subscripted slice false v u=operate [v,u] (getItem v u)->wpAny (model X.prog X.w) X.A (subscriptTail value slice v u) (EP X aI σ Q) X.xe s
def MtR(X:Cx)(id:String)(r:V->List V->Hp->VK->Prop):Prop:=
 ∀(aI:List (Addr×Obj)) (s:Shared) (σ:St) (H:Hp) (x:V) (xs:List V) (v:Value) (us:List Value) (Q:VK),Inv X aI σ H s->RelV x v->cY xs us->r x xs H Q->
  wpAny (model X.prog X.w) X.A (call (.builtin id) (v::us)) (EP X aI σ Q) X.xe s
section
variable {a b:Expr} {tb:TE} {pos:Pos}
theorem pe_ix{r:R2}(hr:o8 X r)(ha:PE X a ta)(hb:PE X b tb)(hs:KJ b):PE X (.Subscript a b pos) (tOp r ta tb):=by
 intro aI s σ H Q I h;exact Subscript_ (oh ha hb I h λv u s2 x y H2 c d e q=>hr a b aI s2 σ H2 x y v u Q c d e q<|hs _ _)
def rIxL(K:W.Frag):R2:=λx y H Q=>nZ x λp=>rW y λi=>∃xs,dB K H p xs/\∃v,pO xs i=some v/\Q v H
def rIxT(K:W.Frag):R2:=λx y H Q=>nZ x λp=>rW y λi=>∃xs,cV K H p xs/\∃v,pO xs i=some v/\Q v H
def rIxS:R2:=λx y H Q=>asS x λz=>rW y λi=>z.length<=sizeLine/\∃c,pO z.cps.toList i=some c/\Q (.str #[(List.toArray [c])]) H
theorem yB:o8 X (rIxL X.K):=by
 intro value slice aI s σ H x y v u Q I e f h hs;replace h:=xG h;let⟨p,rfl,h⟩:=h;replace h:=jW h;let⟨i,rfl,xs,hq,z,he,q⟩:=h;cases e;let⟨t,rfl⟩:=f;let⟨its,r,pl,hz⟩:=I.list hq;let⟨j,h1,h2,l,g,k⟩:=UX he;let⟨w,c,a⟩:=r.get h2;let hl:=r.length;let hn:=kO;let fin:EP X aI σ Q w s:=#[z,H,I,a,q]
 by_cases d:0<=i
 ·let b:i.toNat=j:=by
   rw[seqIndex_of d k]at h1;exact bY h1
  exact item_listR pl.isList d () (by rw[b];simpa using c) fin hs
 ·let b:(i+(its.toArray.size:Int)).toNat=j:=by
   rw[seqIndex_neg () g]at h1;rw[aM,←hl];exact bY h1
  exact subscriptTail_builtinR (x:=w) pl.isList.typeIs slot_list_getitem.lookup
   (wpAny_getItem_list_neg (Q:=λr s'=>r=w/\EP X aI σ Q r s') pl.isList () (by rw[aM]<;>lia) () (by rw[b];simpa using c) #[rfl,fin]) hs
theorem kS:o8 X (rIxT X.K):=by
 intro value slice aI s σ H x y v u Q I b c h hs;replace h:=xG h;let⟨p,rfl,h⟩:=h;replace h:=jW h;let⟨i,rfl,xs,hq,z,he,q⟩:=h;cases b;let⟨t,rfl⟩:=c;let⟨its,r,pl,hz⟩:=I.tuple hq;let⟨j,h1,h2,e,f,g⟩:=UX he;let⟨w,d,a⟩:=r.get h2;let hl:=r.length;let hn:=kO;let fin:EP X aI σ Q w s:=#[z,H,I,a,q]
 exact subscriptTail_builtinR (x:=w) pl.typeIs slot_tuple_getitem.lookup
  (getItem_tuple (j:=j) (Q:=λr s'=>r=w/\EP X aI σ Q r s') pl () () (by rw[aM,←hl];calc h1) (by simpa using d) #[rfl,fin]) hs
theorem SZ:o8 X rIxS:=by
 intro value slice aI s σ H x y v u Q I a b h hs;replace h:=asS_ h;let⟨z,rfl,h⟩:=h;replace h:=jW h;let⟨i,rfl,hz,c,he,q⟩:=h;let⟨t,rfl⟩:=a;let⟨t',rfl⟩:=b;let⟨j,h1,h2,k,d,e⟩:=UX he;let hl:z.cps.toList.length=z.length:=by simp[Str.length]
 rw[hl]at h1 d e;let hn:=kO;exact tail_any (typeIs_str s z t) slot_str_getitem.lookup (getItem_str (c:=c) (by
  let f:decide (i< -(2^63:Int))=false:=cJ ();let g:decide (i≥2^63)=false:=cJ ();rw[f,g,sZ]) (by rw[h1];simpa using h2) #[.str #[(List.toArray [c])],H,I.tok _,#[_,rfl],q]) hs
theorem FH(its:List Value)(n j:Nat)(u:Value):Obj.mapSeq (·.setIfInBounds j u) {cls:=.type "list",data:=.seq its.toArray n}={cls:=.type "list",data:=.seq (its.set j u).toArray n}:=by
 simp[Obj.mapSeq]
theorem Inv.lst{aI:List (Addr×Obj)}{σ:St}{H:Hp}{s:Shared}{p:Addr}{xs:List V}(I:Inv X aI σ H s)(h:H p=some (.lst xs)):
 ∃(its:List Value)(n:Nat),cY xs its/\s.heap.get? p=some {cls:=.type "list",data:=.seq its.toArray n}/\xs.length<=sizeLine:=by
 let⟨z,its,n,r,e⟩:=I.hok p _ h;exact#[its,n,r,e,z]
theorem Inv.lstUpd{p:Addr}{ys:List V}{n':Nat}{f:Obj->Obj}(I:Inv X aI σ H s)(h:H p=some (.lst xs))
 (ho:s.heap.get? p=some {cls:=.type "list",data:=.seq its.toArray n}) (hf:f {cls:=.type "list",data:=.seq its.toArray n}={cls:=.type "list",data:=.seq its'.toArray n'}) (r:cY ys its') (hz:ys.length<=sizeLine) (t:Nat):
 Inv X aI σ (upd H p<|.lst ys) {s with heap:=s.heap.update p f,toks:=t}:=by
 let e:(s.heap.update p f).get? p=some {cls:=.type "list",data:=.seq its'.toArray n'}:=by
  rw[oM f ho (by rw[hf]<;>rfl),hf]
 calc I.write (x:=p) (e:=p) (by rw[h];trivial) (.inl rfl) (λb u hb q=>(nY _ _<|bX hb).trans q) #[_,e] ?_;exact#[hz,its',n',r,e]
def JI:V->V->V->Hp->(Hp->Prop)->Prop:=λo i v H Q=>nZ o λp=>rW i λk=>∃xs,H p=some (.lst xs)/\∃j,TB xs.length k=some j/\Q (upd H p<|.lst<|xs.set j v)
theorem qG:ek X JI:=by
 intro aI s σ H o i v m w u Q I f g rv h;replace h:=xG h;let⟨p,rfl,h⟩:=h;replace h:=jW h;let⟨k,rfl,xs,hp,j,l,q⟩:=h;cases f;let⟨t,rfl⟩:=g;let⟨its,n,r,a,hz⟩:=I.lst hp;let⟨h1,h2,b,c⟩:=IM l;let hl:=r.length;let hn:=kO;let d:Inv X aI σ (upd H p<|.lst<|xs.set j v) {s with heap:=s.heap.update p (Obj.mapSeq (·.setIfInBounds j u))}:=
  I.lstUpd hp a (FH its n j u) (r.set rv j) (by rw[gW];calc hz) s.toks
 by_cases e:0<=k
 ·let hk:k.toNat=j:=by
   rw[seqIndex_of e c]at h1;exact bY h1
  exact W.ki_setAt a e () (by rw[aM,←hl];calc c) (by rw[hk];calc#[_,d,q])
 ·let hk:(k+(its.toArray.size:Int)).toNat=j:=by
   rw[seqIndex_neg () b]at h1;rw[aM,←hl];exact bY h1
  exact W.ki_setBack a () (by rw[aM,←hl];calc b) () (by rw[hk];calc#[_,d,q])
theorem QP(lo hi:Option Int)(n:Nat):(sliceBounds lo hi none n).1=((HT.sIx n 0 lo:Nat):Int)/\(sliceBounds lo hi none n).2.1=((HT.sIx n n hi:Nat):Int)/\(sliceBounds lo hi none n).2.2=1:=by
 refine#[?_,?_,rfl]
 ·cases lo with
  |none=>simp[sliceBounds,HT.sIx]
  |some i=>
   simp only[sliceBounds,HT.sIx,Option.getD_none,show(1:Int)>0 by decide,if_true];by_cases h:i<0
   ·simp only[h,if_true]<;>lia
   ·simp only[h,if_false]<;>lia
 ·cases hi with
  |none=>simp[sliceBounds,HT.sIx]
  |some i=>
   simp only[sliceBounds,HT.sIx,Option.getD_none,show(1:Int)>0 by decide,if_true];by_cases h:i<0
   ·simp only[h,if_true]<;>lia
   ·simp only[h,if_false]<;>lia
theorem XT(its:List Value)(lo hi:Option Int):slicePick its.toArray lo hi none=((its.drop<|HT.sIx its.length 0 lo).take (HT.sIx its.length its.length hi-HT.sIx its.length 0 lo)).toArray:=by
 let⟨h1,h2,a⟩:=QP lo hi its.toArray.size;unfold slicePick;rw[h1,h2,a];simp only[sliceRange_one,pick_run,aM]<;>rfl
def rSlL(K:W.Frag):V->Option Int->Option Int->Hp->VK->Prop:=λx lo hi H Q=>nZ x λa=>∃xs,dB K H a xs/\∀p,H p=none->Q (.ref p) (upd H p<|.lst<|uQ xs lo hi)
theorem ZP:SlR X (rSlL X.K):=by
 intro aI s σ H x v e f lo hi sl Q I c hs pl d h;replace h:=xG h;let⟨a,rfl,xs,hx,q⟩:=h;cases c;let⟨its,r,ht,hz⟩:=I.list hx;let eO:=r.length;calc#["list",_,slot_list_getitem.lookup,ht.isList.typeIs,?_];calc wpAny_getItem_list_slice ht.isList hs pl d .none (by simp) ?_ (by rw[aM]<;>lia);rw[XT,←eO];calc#[.ref s.heap.objs.size,_,I.laid (t':=s.toks) (o:=.lst<|uQ xs lo hi) (λb g q=>aT _ q) (aG _) ?_,rfl,q _<|I.hok.fresh<|aG _];exact#[bT (ZF xs lo hi) hz,_,0,(r.drop<|HT.sIx xs.length 0 lo).take (HT.sIx xs.length xs.length hi-HT.sIx xs.length 0 lo),bR _ rfl]
noncomputable def wW:V->Bool
 | .non=>true
 | .bl _=>true
 | .int _=>true
 | .str _=>true
 |_=>false
noncomputable def iu:V->V->Bool
 | .non,.non=>true
 | .bl a,.bl b=>a==b
 | .bl a,.int b=>(if a then 1 else 0)==b
 | .int a,.bl b=>a==(if b then 1 else 0)
 | .int a,.int b=>a==b
 | .str a,.str b=>a==b
 |_,_=>false
theorem nz{x:V}{v:Value}(ry:RelV y u)(rx:RelV x v)(fy:wW y=true)(fx:wW x=true):SeqAt.EqAt A s u v (iu y x):=by
 cases y with
 |non=>
  cases ry;cases x with
  |non=>cases rx;exact SeqAt.EqAt.same _
  |bl b=>cases rx;exact SeqAt.EqAt.none_bool b
  |int b=>let⟨t,rfl⟩:=rx;exact SeqAt.EqAt.none_int b t
  |str b=>let⟨t,rfl⟩:=rx;exact SeqAt.EqAt.none_str b t
  |_=>exact absurd (show false=true from fx) aY
 |bl a=>
  cases ry;cases x with
  |non=>cases rx;exact SeqAt.EqAt.bool_none a
  |bl b=>cases rx;exact SeqAt.EqAt.bool_bool a b
  |int b=>let⟨t,rfl⟩:=rx;exact SeqAt.EqAt.bool_int a b t
  |str b=>let⟨t,rfl⟩:=rx;exact SeqAt.EqAt.bool_str a b t
  |_=>exact absurd (show false=true from fx) aY
 |int a=>
  let⟨t',rfl⟩:=ry;cases x with
  |non=>cases rx;exact SeqAt.EqAt.int_none a t'
  |bl b=>cases rx;exact SeqAt.EqAt.int_bool a t' b
  |int b=>let⟨t,rfl⟩:=rx;exact SeqAt.EqAt.int_int a t' b t
  |str b=>let⟨t,rfl⟩:=rx;exact SeqAt.EqAt.int_str a t' b t
  |_=>exact absurd (show false=true from fx) aY
 |str a=>
  let⟨t',rfl⟩:=ry;cases x with
  |non=>cases rx;exact SeqAt.EqAt.str_none a t'
  |bl b=>cases rx;exact SeqAt.EqAt.str_bool a t' b
  |int b=>let⟨t,rfl⟩:=rx;exact SeqAt.EqAt.str_int a t' b t
  |str b=>let⟨t,rfl⟩:=rx;exact SeqAt.EqAt.str_str a t' b t
  |_=>exact absurd (show false=true from fx) aY
 |_=>exact absurd (show false=true from fy) aY
noncomputable def dw(x:V)(u:Value):Bool:=match u with
 | .none=>iu .non x
 | .bool b=>iu (.bl b) x
 | .int i _=>iu (.int i) x
 | .str z _=>iu (.str z) x
 |_=>false
theorem VD{x:V}(r:RelV y u)(f:wW y=true):dw x u=iu y x:=by
 cases y with
 |non=>cases r;rfl
 |bl b=>cases r;rfl
 |int i=>let⟨t,rfl⟩:=r;rfl
 |str z=>let⟨t,rfl⟩:=r;rfl
 |_=>exact absurd (show false=true from f) aY
theorem UY{x:V}:∀{xs:List V}{us:List Value},cY xs us->xs.all wW=true->us.any (dw x)=xs.any λy=>iu y x
 |_,_,.nil,_=>rfl
 |y::xs,u::us,.cons r t,f=>by
  rw[List.all_cons,bU]at f;rw[hG,hG,VD r f.1,UY t f.2]
theorem YX{A:Around}{s:Shared}{x:V}{v:Value}(rx:RelV x v)(fx:wW x=true):∀{xs:List V}{us:List Value},cY xs us->xs.all wW=true->∀u∈us,SeqAt.EqAt A s u v<|dw x u
 |_,_,.nil,_=>λu hu=>by cases hu
 |y::xs,u::us,.cons r t,f=>λa hu=>by
  rw[List.all_cons,bU]at f;rcases bJ.mp hu with rfl |hu
  ·rw[VD r f.1];exact nz r rx f.1 fx
  ·exact YX rx fx t f.2 a hu
noncomputable def inV(x:V)(xs:List V):Bool:=xs.any λy=>iu y x
def rIn(K:W.Frag)(neg:Bool):R2:=λx y H Q=>∃p xs,y=.ref p/\(dB K H p xs\/cV K H p xs)/\wW x=true/\xs.all wW=true/\Q (.bl<|if neg then !inV x xs else inV x xs) H
theorem LP:oC X (compareOp .In) (rIn X.K false):=by
 intro aI s σ H x y v u Q I b d h;let⟨p,xs,rfl,hq,c,fs,q⟩:=h;cases d;rcases hq with hq |hq
 ·let⟨its,r,pl,hz⟩:=I.list hq;calc SeqAt.in_listAt (dw x) pl.isList (λw a=>YX b c r fs w (by simpa using a)) #[.bl _,H,I,rfl,?_];rw[show its.toArray.any (dw x)=its.any (dw x) by simp,UY r fs];exact q
 ·let⟨its,r,pl,hz⟩:=I.tuple hq;calc SeqAt.in_tupleAt (dw x) pl (λw a=>YX b c r fs w (by simpa using a)) #[.bl _,H,I,rfl,?_];rw[show its.toArray.any (dw x)=its.any (dw x) by simp,UY r fs];exact q
theorem UT:jG X (.type "list") (λxs H Q=>pP xs λx=>nZ x λp=>∃ys,(dB X.K H p ys\/cV X.K H p ys)/\∀l,H l=none->Q (.ref l) (upd H l<|.lst ys)):=by
 intro aI s σ H xs us Q I r h;replace h:=kE h;let⟨x,rfl,h⟩:=h;replace h:=xG h;let⟨p,rfl,ys,hq,q⟩:=h;let⟨u,rfl,f⟩:=qU r;cases f;let fin:∀(its:List Value),cY ys its->ys.length<=sizeLine->∀(h':Heap)(a:Nat),(∀b o',s.heap.get? b=some o'->h'.get? b=some o')->
  h'.get? s.heap.objs.size=some {cls:=.type "list",dict:=none,data:=.seq its.toArray a,slots:= (List.toArray [])}->EP X aI σ Q (.ref s.heap.objs.size) {s with heap:=h'}:=λits c hz h' a kp e=>
  #[.ref s.heap.objs.size,_,I.laid (t':=s.toks) kp (aG _) (show eT X.prog X.w _ h' _ (.lst ys)from#[hz,its,a,c,e]),rfl,q _<|I.hok.fresh<|aG _]
 rcases hq with hq |hq
 ·let⟨its,c,pl,hz⟩:=I.list hq;let eO:=c.length;let⟨o,d,hc,n,hd⟩:=pl.isList;exact call_list_seq p (.inl rfl) d hc hd (λh' a kp e=>fin its c hz h' a kp e) (by simp only[aM]<;>lia)
 ·let⟨its,c,pl,hz⟩:=I.tuple hq;let eO:=c.length;let⟨o,d,hc,n,hd⟩:=pl;exact call_list_seq p (.inr rfl) d hc hd (λh' a kp e=>fin its c hz h' a kp e) (by simp only[aM]<;>lia)
theorem XZ:jG X (.type "tuple") (λxs H Q=>∃p ys,xs=[.ref p]/\((dB X.K H p ys/\∀l,H l=none->Q (.ref l) (upd H l<|.tup ys))\/(cV X.K H p ys/\Q (.ref p) H))):=by
 intro aI s σ H xs us Q I r h;let⟨p,ys,rfl,h⟩:=h;let⟨u,rfl,d⟩:=qU r;cases d;rcases h with⟨hq,q⟩ |⟨hq,q⟩
 ·let⟨its,a,pl,hz⟩:=I.list hq;let eO:=a.length;calc call_tuple_list pl.isList (λh' kp=>?_) (by simp only[aM]<;>lia);let c:Inv X aI σ H {s with heap:=h'}:=I.kept (t':=s.toks) kp;let f:Inv X aI σ (upd H h'.objs.size<|.tup ys) {s with heap:=h'.push {cls:=.type "tuple",data:=.seq its.toArray}}:=
   c.laid (t':=s.toks) (λb o e=>aT _ e) (aG _) (show eT X.prog X.w _ _ _ (.tup ys)from#[hz,its,a,IsTup.new _ _])
  exact#[.ref h'.objs.size,_,f,rfl,q _<|c.hok.fresh<|aG _]
 ·let⟨its,a,pl,hz⟩:=I.tuple hq;exact call_tuple_same pl #[.ref p,H,I,rfl,q]
def tyV(K:W.Frag)(T:String)(x:V)(H:Hp):Prop:=match x with
 | .str _=>T="str"
 | .int _=>T="int"
 | .ref p=>(T="list"/\∃xs,dB K H p xs)\/(T="tuple"/\∃o,K.lookup p=some o/\o.cls=.type "tuple"/\o.dict=none)\/
  (T="dict"/\((∃kvs,H p=some (.dK kvs))\/∃kvs,H p=some (.dT kvs)))\/(T="set"/\∃S n,H p=some (.set S n))
 |_=>False
theorem NX{x:V}{v:Value}(I:Inv X aI σ H s)(r:RelV x v)(ty:tyV X.K T x H):
 s.TypeIs v T/\∀a,v=.ref a->∃ob,s.heap.get? a=some ob/\ob.dict=none:=by
 cases x with
 |str z=>
  let⟨t,rfl⟩:=r;cases (show T="str" from ty);exact#[typeIs_str s z t,λ_ e=>nomatch e]
 |int i=>
  let⟨t,rfl⟩:=r;cases (show T="int" from ty);exact#[typeIs_int s i t,λ_ e=>nomatch e]
 |ref p=>
  cases r;rcases ty with⟨rfl,xs,hq⟩ |⟨rfl,o,hk,hc,hd⟩ |⟨rfl,hk⟩ |⟨rfl,S,n,hk⟩
  ·let⟨its,_,pl,_⟩:=I.list hq;calc#[pl.isList.typeIs,λa e=>?_];cases e;let⟨o,n,e,c,hd,_⟩:=pl;exact#[o,e,hd]
  ·calc#[#[o,I.kIn p o hk,hc],λa e=>?_];cases e;exact#[o,I.kIn _ o hk,hd]
  ·let z:∃o,s.heap.get? p=some o/\o.ExactDict:=by
    rcases hk with⟨kvs,hk⟩ |⟨kvs,hk⟩
    ·let⟨_,_,_,_,o,_,_,e,ex,_⟩:=I.hok p _ hk;exact#[o,e,ex]
    ·let⟨_,_,_,_,o,_,_,e,ex,_⟩:=I.hok p _ hk;exact#[o,e,ex]
   let⟨o,e,ex⟩:=z;calc#[#[o,e,ex.1],λa b=>?_];cases b;exact#[o,e,ex.2.1]
  ·let⟨o,_,_,_,e,ex,_⟩:=I.hok p _ hk;calc#[#[o,e,ex.1],λa b=>?_];cases b;exact#[o,e,ex.2.1]
 |_=>exact False.elim ty
def tBM0(K:W.Frag)(T:String)(r:V->List V->Hp->VK->Prop)(to:TE):TE:=λσ H Q=>to σ H λx H1=>tyV K T x H1/\r x [] H1 Q
def tBM(K:W.Frag)(T:String)(r:V->List V->Hp->VK->Prop)(to:TE)(t:TA):TE:=λσ H Q=>to σ H λx H1=>tyV K T x H1/\t σ H1 λxs H2=>r x xs H2 Q
variable {to:TE} {t:TA} {name:Str} {gA:Pos} {id:String} {r:V->List V->Hp->VK->Prop}
theorem l8(pa:PlainAttrs T)(slot:Slot T name id)(hty:typeOf (.builtin id)=pure (.type "method_descriptor"))(hm:MtR X id r)(ho:PE X o to)
 (hbase:autoParam (attributeBase o name X.env (eval o X.env)=eval o X.env) a1._auto_1) (hline:autoParam ((lP.endLine==gA.line)=true) a1._auto_1):PE X (.Call (.Attribute o name lP) [] [] gA) (tBM0 X.K T r to):=by
 intro aI s σ H Q I h;calc wpAny_Call_method0_late hbase hline (eI (ho aI s σ H _ I h) λv s1 z=>?_);let⟨x,H1,a,b,ty,c⟩:=z;let⟨h1,h2⟩:=NX a b ty;exact#[T,id,pa,slot,hty,h1,h2,iF rfl<|PySem.evalArgs_none<|hm aI s1 σ H1 x [] v [] Q a b .nil c]
theorem qZ(pa:PlainAttrs T)(slot:Slot T name id)(hty:typeOf (.builtin id)=pure (.type "method_descriptor"))(hm:MtR X id r)(ho:PE X o to)(ha:PA X (e::es) t)
 (hbase:autoParam (attributeBase o name X.env (eval o X.env)=eval o X.env) a1._auto_1)
 (hfew:autoParam (((backTo gA<|starEach (e::es) X.env).all (λx=>!x.1)&&(backToKw gA<|keywordEach [] X.env).all (λx=>x.1.isSome)
  &&decide ((e::es).length+([]:List Keyword).length+(if([]:List Keyword).isEmpty then 0 else 1)<30))=true) a1._auto_1)
 (hline:autoParam ((lP.endLine==gA.line)=true) a1._auto_1) (hs:autoParam (starEach (e::es) X.env=(false,eval e X.env)::starEach es X.env) a1._auto_1) (hplain:autoParam ((backTo gA<|starEach es X.env).any (·.1)=false) a1._auto_1):
 PE X (.Call (.Attribute o name lP) (e::es) [] gA) (tBM X.K T r to t):=by
 intro aI s σ H Q I h;calc wpAny_Call_method_late hbase hfew hline rfl (eI (ho aI s σ H _ I h) λv s1 z=>?_);let⟨x,H1,a,b,ty,d⟩:=z;let⟨h1,h2⟩:=NX a b ty;calc#[T,id,pa,slot,hty,h1,h2,?_];let c:=ha gA aI s1 σ H1 _ a d;rw[hs]at c⊢;calc iF (by show(false ||(backTo gA<|starEach es X.env).any (·.1))=false;rw[hplain]<;>rfl)<|lE ?_;exact eI c λus s2 ⟨vs,H2,f,g,i⟩=>hm aI s2 σ H2 x vs v us Q f b g i
end
def MtM(X:Cx)(id:String)(r:V->List V->Hp->VK->Prop):Prop:=
 ∀(aI:List (Addr×Obj)) (s:Shared) (σ:St) (H:Hp) (x:V) (xs:List V) (v:Value) (us:List Value) (Q:VK),Inv X aI σ H s->RelV x v->cY xs us->r x xs H Q->
  wpAny (model X.prog X.w) X.A (call (.builtin id) (v::us)) (EP X aI σ Q) X.xe s
theorem cY.one{x:V}(h:cY [x] us):∃u,us=[u]/\RelV x u:=qU h
theorem cY.two{x:V}(h:cY [x,y] us):∃u v,us=[u,v]/\RelV x u/\RelV y v:=vals2 h
theorem cY.rep{xs:List V}{us:List Value}(h:cY xs us):∀k:Nat,cY (List.replicate k xs).flatten (List.replicate k us).flatten
 |0=>.nil
 |k+1=>by
  rw[fN,fN,mG,mG];exact cY.append h<|cY.rep h k
theorem JT(its:List Value):∀(k:Nat)(acc:List Value),
 List.foldl (λx1 x2=>x1++x2) acc.toArray (List.replicate k its.toArray)=(acc++(List.replicate k its).flatten).toArray
 |0,acc=>by simp
 |k+1,acc=>by
  let e:acc.toArray++its.toArray=(acc++its).toArray:=by simp
  let a:(acc++its)++(List.replicate k its).flatten=acc++(List.replicate (k+1) its).flatten:=by
   rw[fN,mG,dA]
  rw[←a,←JT its k (acc++its),←e,fN,List.foldl_cons]
section
variable {ys zs:List V}
theorem Inv.lset{f:Array Value->Array Value}(I:Inv X aI σ H s)(hH:H l=some (.lst xs))
 (e:s.heap.get? l=some {cls:=.type "list",data:=.seq its.toArray n}) (hf:f its.toArray=its'.toArray) (hv:cY ys its') (hz:ys.length<=sizeLine):
 Inv X aI σ (upd H l<|.lst ys) {s with heap:=s.heap.update l (Obj.mapSeq f),toks:=t'}:=by
 let q:=PySem.IsL.update e f;rw[hf]at q;calc I.write (x:=l) (e:=l) (by rw[hH];calc trivial) (.inl rfl) (λa u hb hu=>(nY s.heap (Obj.mapSeq f)<|bX hb).trans hu) #[_,q] ?_;exact#[hz,its',_,hv,q]
theorem Inv.lnew(I:Inv X aI σ H s)(hv:cY ys its)(hz:ys.length<=sizeLine):
 Inv X aI σ (upd H s.heap.objs.size<|.lst ys) {s with heap:=s.heap.push {cls:=.type "list",data:=.seq its.toArray},toks:=t'}:=
 I.laid (λ_ _ q=>aT _ q) (aG _) #[hz,its,0,hv,bR _ rfl]
theorem Inv.fresh(I:Inv X aI σ H s):H s.heap.objs.size=none:=I.hok.fresh<|aG _
theorem Inv.lstM(I:Inv X aI σ H s)(hH:H l=some (.lst xs)):xs.length<=sizeLine/\∃(its:List Value)(n:Nat),cY xs its/\xs.length=its.length/\s.heap.get? l=some {cls:=.type "list",data:=.seq its.toArray n}:=by
 let⟨z,its,n,r,e⟩:=I.hok l _ hH;exact#[z,its,n,r,r.length,e]
theorem YU(h:n<=sizeLine):Builtin.List.listTooLong n=false:=by
 unfold Builtin.List.listTooLong;exact cJ ()
end
def QU:V->List V->Hp->VK->Prop:=λx vs H Q=>nZ x λl=>pP vs λy=>∃xs,H l=some (.lst xs)/\xs.length<sizeLine/\Q .non (upd H l<|.lst<|xs++[y])
theorem xX:MtM X "list.append" QU:=by
 intro aI s σ H x vs v us Q I b rv h;replace h:=xG h;let⟨l,rfl,h⟩:=h;replace h:=kE h;let⟨y,rfl,xs,a,hz,q⟩:=h;cases b;let⟨u,rfl,c⟩:=rv.one;let⟨z,its,n,r,hl,e⟩:=I.lstM a;calc sM F.slot_list_append #[_,e,rfl] F.entry_list_append (F.args_list_append_2 _ _) (PySem.list_append l its.toArray n u (by rw[aM];lia)) #[e,?_];calc#[.non,_,I.lset (its':=its++[u]) a e (by simp) (r.append<|.cons c .nil) ?_,rfl,q];rw[aK,cC];lia
def HR:V->List V->Hp->VK->Prop:=λx vs H Q=>nZ x λl=>pP vs λz=>nZ z λb=>∃xs,H l=some (.lst xs)/\∃zs,H b=some (.lst zs)/\xs.length+zs.length<=sizeLine/\Q .non (upd H l<|.lst<|xs++zs)
theorem MC:MtM X "list.extend" HR:=by
 intro aI s σ H x vs v us Q I g rv h;replace h:=xG h;let⟨l,rfl,h⟩:=h;replace h:=kE h;let⟨x,rfl,h⟩:=h;replace h:=xG h;let⟨b,rfl,xs,f,zs,i,hz,q⟩:=h;cases g;let⟨u,rfl,j⟩:=rv.one;cases j;let⟨z,its,n,r,hl,e⟩:=I.lstM f;let⟨t,a,k,m,o,p⟩:=I.lstM i;let d:its.toArray.size+a.toArray.size<=sizeLine:=by rw[aM,aM];lia
 let c:¬(!its.toArray.isEmpty&&Builtin.List.listTooLong (its.toArray.size+a.toArray.size))=true:=by
  rw[YU d,mH];exact aY
 refine sM F.slot_list_extend #[_,e,rfl] F.entry_list_extend (F.args_list_extend_2 _ _)
  (AutoSeq1.list_extend_list_list_0 l its.toArray n b a.toArray k c (by rw[aM];lia) ()) #[e,p,?_]
 calc#[.non,_,I.lset (its':=its++a) f e (by simp) (r.append m) ?_,rfl,q];rw[aK];lia
def rCat:R2:=λx y H Q=>nZ x λl=>nZ y λb=>∃xs,H l=some (.lst xs)/\∃zs,H b=some (.lst zs)/\xs.length+zs.length<=sizeLine/\∀p,H p=none->Q (.ref p) (upd H p<|.lst<|xs++zs)
theorem ET:oC X (binaryOp .Add) rCat:=by
 intro aI s σ H x y v u Q I c d h;replace h:=xG h;let⟨l,rfl,h⟩:=h;replace h:=xG h;let⟨b,rfl,xs,f,zs,g,hz,q⟩:=h;cases c;cases d;let⟨z,its,n,r,hl,e⟩:=I.lstM f;let⟨o,a,p,i,j,k⟩:=I.lstM g;calc PySem.P.add_list e k ?_ (by rw[aM,aM];lia);let m:its.toArray++a.toArray=(its++a).toArray:=by simp
 rw[m];exact#[.ref _,_,I.lnew (t':=s.toks) (r.append i) (by rw[aK];lia),rfl,q _ I.fresh]
def PD:R2:=λx y H Q=>nZ x λl=>rW y λk=>∃xs,H l=some (.lst xs)/\ -(2^63)<=k/\k<2^63/\xs.length*k.toNat<=sizeLine/\
 ∀p,H p=none->Q (.ref p) (upd H p<|.lst (List.replicate k.toNat xs).flatten)
theorem dk(xs:List α)(k:Nat):(List.replicate k xs).flatten.length=k*xs.length:=by
 induction k with
 |zero=>simp
 |succ k a=>rw[fN,mG,aK,a,Nat.succ_mul,Nat.add_comm]
theorem YR:oC X (binaryOp .Mult) PD:=by
 intro aI s σ H x y v u Q I j o h;replace h:=xG h;let⟨l,rfl,h⟩:=h;replace h:=jW h;let⟨k,rfl,xs,p,h1,h2,hz,q⟩:=h;cases j;let⟨t,rfl⟩:=o;let⟨z,its,n,r,hl,e⟩:=I.lstM p;let eO:its.toArray.size*k.toNat<=sizeLine:=by rw[aM,←hl];exact hz
 let c:¬its.toArray.size*k.toNat>(2^63-1)/8:=by
  have :(sizeLine:Nat)<=(2^63-1)/8:=by decide
  lia
 let d:¬(!Builtin.List.listFitsIndex k)=true:=by
  rw[fitsIndex_both h1 h2];exact aY
 let b:¬Builtin.List.listTooLong (its.toArray.size*k.toNat)=true:=by
  rw[YU eO];exact aY
 let f:List.foldl (λg i=>g++i) (List.toArray []) (List.replicate (if its.toArray.isEmpty=true then 0 else k.toNat) its.toArray)=(List.replicate k.toNat its).flatten.toArray:=by
  let w:∀m:Nat,List.foldl (λg i=>g++i) (List.toArray []) (List.replicate m its.toArray)=(List.replicate m its).flatten.toArray:=λm=>by
   have :=JT its m [];rw[List.nil_append]at this;exact this
  rw[w];cases its with
  |nil=>simp
  |cons a A=>rw[aH (by simp)]
 refine wpAny_binaryOp_repeat_ref (T:="list") (U:="int") (by decide) #[_,e,rfl] (λs'=>typeIs_int s' k t) noFill_list_mul F.fills_int_mul F.slot_int_rmul repeat_list F.slot_int_index.lookup
  (sM F.slot_int_rmul (typeIs_int s k t) F.entry_int_rmul (F.args_int_rmul_2 _ _) (int___rmul___int_list k t l its.toArray n)
   #[e,rfl,#[_,e,rfl],sM F.slot_list_mul #[_,e,rfl] F.entry_list_mul (F.args_list_mul_2 _ _) (AutoListH.list___mul___list_int_3 l its.toArray n k t d c b) #[e,?_]])
 rw[f];exact#[.ref _,_,I.lnew (t':=s.toks) (r.rep k.toNat) (by rw[dk,Nat.mul_comm];calc hz),rfl,q _ I.fresh]
section
variable {κ:Type} [DecidableEq κ]
noncomputable def zY(kvs:List (κ×V))(k:κ):Option V:=(kvs.find? λkv=>decide<|kv.1=k).map (·.2)
noncomputable def qQ(kvs:List (κ×V))(k:κ)(v:V):List (κ×V):=
 if(kvs.any λkv=>decide<|kv.1=k)=true then kvs.map (λkv=>if kv.1=k then(kv.1,v)else kv)else kvs++[(k,v)]
theorem qD{p:κ×V}{r:List (κ×V)}{k:κ}(e:p.1=k):zY (p::r) k=some p.2:=by simp[zY,eN,e]
theorem jT{p:κ×V}{r:List (κ×V)}{k:κ}(e:¬p.1=k):zY (p::r) k=zY r k:=by simp[zY,eN,e]
theorem tJ(k:κ):∀kvs:List (κ×V),(kvs.any λkv=>decide<|kv.1=k)=(zY kvs k).isSome
 |[]=>rfl
 |p::r=>by
  rw[hG];by_cases e:p.1=k
  ·simp only[qD e,cP e,GS,Option.isSome_some]
  ·rw[jT e,cJ e,tD];exact tJ k r
theorem vD(kvs:List (κ×V))(k:κ)(v:V):(qQ kvs k v).length<=kvs.length+1:=by
 unfold qQ;split
 ·rw[aD];lia
 ·rw[aK,bC,gX];lia
theorem mM.isSome_eq{o:Option V}{u:Option Value}(r:mM o u):o.isSome=u.isSome:=by
 cases o with
 |none=>cases u with
  |none=>rfl
  |some _=>exact(show False from r).elim
 |some _=>cases u with
  |none=>exact(show False from r).elim
  |some _=>rfl
theorem mM.getD{o:Option V}{u:Option Value}{d:V}{d':Value}(r:mM o u)(rd:RelV d d'):RelV (o.getD d) (u.getD d'):=by
 cases o with
 |none=>cases u with
  |none=>exact rd
  |some _=>exact(show False from r).elim
 |some _=>cases u with
  |none=>exact(show False from r).elim
  |some _=>exact r
theorem KV.val{kvs:List (κ×V)}{vs:List (κ×Value)}(r:KV kvs vs)(k:κ):mM (zY kvs k) (valueAt vs k):=by
 unfold KV at r
 induction r with
 |nil=>exact True.intro
 |@cons p q ps qs h t c=>
  let⟨h1,h2⟩:=h;by_cases e:p.1=k
  ·let a:q.1=k:=h1.symm.trans e;let b:valueAt (q::qs) k=some q.2:=by simp[valueAt,eN,a]
   rw[qD e,b];exact h2
  ·let a:¬q.1=k:=λz=>e<|h1.trans z
   let b:valueAt (q::qs) k=valueAt qs k:=by simp[valueAt,eN,a]
   rw[jT e,b];exact c
theorem KV.any{kvs:List (κ×V)}{vs:List (κ×Value)}(r:KV kvs vs)(k:κ):(kvs.any λkv=>decide<|kv.1=k)=vs.any λkv=>decide (kv.1=k):=by
 unfold KV at r
 induction r with
 |nil=>rfl
 |cons h t a=>rw[hG,hG,a,h.1]
theorem KV.repl{kvs:List (κ×V)}{vs:List (κ×Value)}(r:KV kvs vs)(k:κ)(ry:RelV y u):
 KV (kvs.map λkv=>if kv.1=k then(kv.1,y)else kv) (vs.map λkv=>if kv.1=k then(kv.1,u)else kv):=by
 unfold KV at r⊢
 induction r with
 |nil=>exact .nil
 |@cons p q ps qs h t a=>
  rw[bV,bV];calc .cons ?_ a;let⟨h1,h2⟩:=h;by_cases e:p.1=k
  ·rw[aO e,aO<|h1.symm.trans e];exact#[h1,ry]
  ·rw[aH e,aH λz=>e<|h1.trans z];exact#[h1,h2]
theorem KV.put{kvs:List (κ×V)}{vs:List (κ×Value)}(r:KV kvs vs)(k:κ)(ry:RelV y u):KV (qQ kvs k y) (stored vs k u):=by
 unfold qQ stored;rw[r.any k];by_cases e:(vs.any λkv=>decide<|kv.1=k)=true
 ·rw[aO e,aO e];exact r.repl k ry
 ·rw[aH e,aH e];exact Paired.snoc r #[rfl,ry]
theorem KV.length{kvs:List (κ×V)}{vs:List (κ×Value)}(r:KV kvs vs):kvs.length=vs.length:=eY r
end
theorem XC{k:eR}(r:RelV (kV k) u):(zT P w).is k u=true:=by
 cases k with
 |inl i=>let⟨t,e⟩:=(show∃t,u=Value.int i t from r);subst e;exact BK P w i t
 |inr x=>let⟨t,e⟩:=(show∃t,u=Value.str x t from r);subst e;exact BJ P w x t
theorem kT{P:Program}{w:World}:∀{ks:List eR}{us:List Value},cY (ks.map kV) us->ItemsAre (zT P w) ks us
 |[],_,r=>by rw[rA]at r;cases r;exact .nil
 |k::ks,_,r=>by
  rw[bV]at r;cases r with
  |cons h t=>exact .cons (XC h)<|kT t
abbrev KT(H:Hp):List (List eR×V)->List (List eR×Addr×Value)->Prop:=Paired λp q=>p.1=q.1/\H q.2.1=some (.tup<|p.1.map kV)/\RelV p.2 q.2.2
theorem KT.val{xs:List (List eR×Addr×Value)}(r:KT H kvs xs)(k:List eR):mM (zY kvs k) ((atKey xs k).map (·.2)):=by
 induction r with
 |nil=>exact True.intro
 |@cons p q ps qs h t c=>
  let⟨h1,_,h2⟩:=h;by_cases e:p.1=k
  ·let a:q.1=k:=h1.symm.trans e;let b:atKey (q::qs) k=some q.2:=by simp[atKey,eN,a]
   rw[qD e,b];exact h2
  ·let a:¬q.1=k:=λz=>e<|h1.trans z
   let b:atKey (q::qs) k=atKey qs k:=by simp[atKey,eN,a]
   rw[jT e,b];exact c
theorem KT.repl{xs:List (List eR×Addr×Value)}(r:KT H kvs xs)(k:List eR)(ry:RelV y u):
 KT H (kvs.map λkv=>if kv.1=k then(kv.1,y)else kv) (xs.map<|putAt k u):=by
 induction r with
 |nil=>exact .nil
 |@cons p q ps qs h t a=>
  rw[bV,bV];calc .cons ?_ a;let⟨h1,h2,b⟩:=h;unfold putAt;by_cases e:p.1=k
  ·rw[aO e,aO<|h1.symm.trans e];exact#[h1,h2,ry]
  ·rw[aH e,aH λz=>e<|h1.trans z];exact#[h1,h2,b]
theorem KT.put{xs:List (List eR×Addr×Value)}(r:KT H kvs xs)(k:List eR)(hb:H b=some (.tup<|k.map kV))(ry:RelV y u):
 KT H (qQ kvs k y) (storedH xs k b u):=by
 let e:(kvs.any λkv=>decide<|kv.1=k)=(atKey xs k).isSome:=by
  rw[tJ,(r.val k).isSome_eq,mB]
 unfold qQ storedH;rw[e];by_cases q:(atKey xs k).isSome=true
 ·rw[aO q,aO q];exact r.repl k ry
 ·rw[aH q,aH q];exact Paired.snoc r #[rfl,hb,ry]
theorem KT.keeps{xs:List (List eR×Addr×Value)}(r:KT H kvs xs)(ht:∀b ys,H b=some (.tup ys)->H' b=some (.tup ys)):KT H' kvs xs:=
 Paired.mapP r λ_ _ z=>#[z.1,ht _ _ z.2.1,z.2.2]
theorem ii{u:HO}(ok:iX P w H h)(e:Rd H a u):eT P w H h a u:=e.ok ok
theorem ZD{kvs:List (eR×V)}(ok:iX P w H h)(e:Rd H a (.dK kvs)):kvs.length<=sizeLine/\(a==sysModules)=false/\∃vs,KV kvs vs/\h.DictOf (zT P w) a vs:=
 show eT P w H h a (.dK kvs)from ii ok e
theorem dk_of{kvs:List (eR×V)}(ok:iX P w H h)(e:H a=some (.dK kvs)):kvs.length<=sizeLine/\(a==sysModules)=false/\∃vs,KV kvs vs/\h.DictOf (zT P w) a vs:=ZD ok<|.inl e
theorem vE{ks:List eR}(ok:iX P w H h)(e:H a=some (.tup<|ks.map kV)):(tupleKind<|zT P w).is h ks a:=by
 let⟨_,its,r,o,h1,h2,n,b⟩:=(show eT P w H h a (.tup<|ks.map kV)from ok a _ e)
 exact#[o,its.toArray,n,h1,h2,b,by simpa using kT r]
theorem XI(ok:iX P w H h)(e:Rd H a (.dT kvs)):kvs.length<=sizeLine/\(a==sysModules)=false/\
 ∃xs,KT H kvs xs/\h.DictOfH (tupleKind<|zT P w) a xs:=by
 let⟨z,y,xs,r,o,es,ep,h1,h2,b,c,d⟩:=(show eT P w H h a (.dT kvs)from ii ok e)
 calc#[z,y,xs,r,o,es,ep,h1,h2,b,c,λx hx=>?_,d];let all:∀{l:List (List eR×V)}{m:List (List eR×Addr×Value)},KT H l m->∀x∈m,(tupleKind<|zT P w).is h x.1 x.2.1:=by
  intro l m q
  induction q with
  |nil=>intro x hx;exact nomatch hx
  |@cons p q ps qs hq t f=>
   intro x hx;rcases bJ.mp hx with e |hx
   ·subst e;exact vE ok (by rw[←hq.1];calc hq.2.1)
   ·exact f x hx
 exact all r x hx
theorem iw(ok:iX P w H h)(e:H a=some (.dT kvs)):kvs.length<=sizeLine/\(a==sysModules)=false/\
 ∃xs,KT H kvs xs/\h.DictOfH (tupleKind<|zT P w) a xs:=XI ok<|.inl e
def nK(H:Hp)(a:Addr)(y:V)(r:Option V):Prop:=
 (∃kvs k,Rd H a (.dK kvs)/\y=kV k/\r=zY kvs k)\/∃kvs k b,Rd H a (.dT kvs)/\y=.ref b/\H b=some (.tup<|k.map kV)/\r=zY kvs k
def CT(H:Hp)(a:Addr)(y v:V)(H':Hp):Prop:=
 (∃kvs k,H a=some (.dK kvs)/\y=kV k/\kvs.length<sizeLine/\H'=upd H a (.dK<|qQ kvs k v))\/
 ∃kvs k b,H a=some (.dT kvs)/\y=.ref b/\H b=some (.tup<|k.map kV)/\kvs.length<sizeLine/\H'=upd H a (.dT<|qQ kvs k v)
theorem nK.k{kvs:List (eR×V)}{k:eR}(e:H a=some (.dK kvs)):nK H a (kV k) (zY kvs k):=.inl #[kvs,k,.inl e,rfl,rfl]
theorem nK.t{k:List eR}(e:H a=some (.dT kvs))(eb:H b=some (.tup<|k.map kV)):nK H a (.ref b) (zY kvs k):=.inr #[kvs,k,b,.inl e,rfl,eb,rfl]
theorem CT.k{kvs:List (eR×V)}{k:eR}(e:H a=some (.dK kvs))(hl:kvs.length<sizeLine):CT H a (kV k) v (upd H a<|.dK<|qQ kvs k v):=.inl #[kvs,k,e,rfl,hl,rfl]
theorem CT.t{k:List eR}(e:H a=some (.dT kvs))(eb:H b=some (.tup<|k.map kV))(hl:kvs.length<sizeLine):
 CT H a (.ref b) v (upd H a<|.dT<|qQ kvs k v):=.inr #[kvs,k,b,e,rfl,eb,hl,rfl]
section
variable {r:Value} {o:Option V}
theorem Inv.big(I:Inv X aI σ H s):sysModules<s.heap.objs.size:=by
 let h:mainGlobals<s.heap.objs.size:=(I.mod.glob.keeps I.bk).lt;exact Nat.lt_trans (by decide) h
theorem MQ(hu:A.units+1<cLine)(I:Inv X aI σ H s)(g:nK H a y (some v))(ry:RelV y u)(h:∀w' s',Inv X aI σ H s'->RelV v w'->Q w' s'):
 wpAny (model X.prog X.w) A (getItem (.ref a) u) Q E s:=by
 rcases g with⟨kvs,k,e,d,l⟩ |⟨kvs,k,b,e,d,i,l⟩
 ·subst d;let⟨z,hd,vs,rel,dd⟩:=ZD I.hok e;let⟨w',f,c⟩:=mM.some_of (v:=v) (o:=valueAt vs k) (by rw[l];calc rel.val k);exact wpAny_getItem_of (XC ry) dd.mapOf f<|h w' _ (I.tok _) c
 ·subst d;cases (show u=Value.ref b from ry);let⟨z,hd,xs,rel,dd⟩:=XI I.hok e;let⟨w',f,c⟩:=mM.some_of (v:=v) (o:=(atKey xs k).map (·.2)) (by rw[l];calc rel.val k);let⟨p,hp,mK⟩:=aL.mp f;calc wpAny_getItem_heap (eF hu) (vE I.hok i) dd hp ?_;rw[mK];exact h w' _ (I.tok _) c
theorem d_in(hu:A.units+1<cLine)(I:Inv X aI σ H s)(g:nK H a y o)(ry:RelV y u)(h:∀s',Inv X aI σ H s'->Q (.bool o.isSome) s'):
 wpAny (model X.prog X.w) A (compareOp .In u<|.ref a) Q E s:=by
 rcases g with⟨kvs,k,e,c,l⟩ |⟨kvs,k,b,e,c,d,l⟩
 ·subst c;let⟨z,hd,vs,rel,dd⟩:=ZD I.hok e;calc wpAny_in_of (XC ry) hd dd.mapOf ?_;rw[←(rel.val k).isSome_eq,←l];exact h _<|I.tok _
 ·subst c;cases (show u=Value.ref b from ry);let⟨z,hd,xs,rel,dd⟩:=XI I.hok e;calc wpAny_in_heap (eF hu) (vE I.hok d) hd dd ?_;let q:=(rel.val k).isSome_eq;rw[mB]at q;rw[←q,←l];exact h _<|I.tok _
theorem dy(hu:A.units+1<cLine)(I:Inv X aI σ H s)(g:nK H a y o)(ry:RelV y u)(h:∀s',Inv X aI σ H s'->Q (.bool<|!o.isSome) s'):
 wpAny (model X.prog X.w) A (compareOp .NotIn u<|.ref a) Q E s:=by
 rcases g with⟨kvs,k,e,c,l⟩ |⟨kvs,k,b,e,c,d,l⟩
 ·subst c;let⟨z,hd,vs,rel,dd⟩:=ZD I.hok e;calc wpAny_notIn_of (XC ry) hd dd.mapOf ?_;rw[←(rel.val k).isSome_eq,←l];exact h _<|I.tok _
 ·subst c;cases (show u=Value.ref b from ry);let⟨z,hd,xs,rel,dd⟩:=XI I.hok e;calc wpAny_notIn_heap (eF hu) (vE I.hok d) hd dd ?_;let q:=(rel.val k).isSome_eq;rw[mB]at q;rw[←q,←l];exact h _<|I.tok _
theorem wY{ob:HO}(I:Inv X aI σ H s)(mu:Mut (H a))(hs:Heap.SameBut a s.heap h')(he:∃q,h'.get? a=some q)(new:eT X.prog X.w (upd H a ob) h' a ob):
 Inv X aI σ (upd H a ob) {s with heap:=h',toks:=t'}:=
 I.write (x:=a) (e:=a) mu (.inl rfl) (λb q hb z=>(hs.2 b hb).trans z) he new
theorem VG{kvs:List (eR×V)}{vs:List (eR×Value)}(z:kvs.length<=sizeLine)(hd:(a==sysModules)=false)(rel:KV kvs vs)(dd:h'.DictOf (zT P w) a vs):
 eT P w H' h' a (.dK kvs):=#[z,hd,vs,rel,dd]
theorem MP{Q:Unit->Shared->Prop}(hu:A.units+1<cLine)(I:Inv X aI σ H s)(g:CT H a y v H')(ry:RelV y u)(rv:RelV v r)(h:∀s',Inv X aI σ H' s'->Q Unit.unit s'):
 wpAny (model X.prog X.w) A (setItem (.ref a) u r) Q E s:=by
 rcases g with⟨kvs,k,e,d,l,eH⟩ |⟨kvs,k,b,e,d,f,l,eH⟩
 ·subst d eH;let⟨z,hd,vs,rel,dd⟩:=dk_of I.hok e;let hz:vs.length<=sizeLine:=by rw[←rel.length];exact z
  let hl:(qQ kvs k v).length<=sizeLine:=by have :=vD kvs k v;lia
  refine wpAny_setItem_pairs (hsz:=hz) (XC ry) dd λh' dd' hs=>h _ ?_
  let he:∃q,h'.get? a=some q:=let ⟨q,_,_,hq,_⟩:=dd';#[q,hq];exact wY I (by rw[e];calc True.intro) hs he<|VG hl hd (rel.put k rv) dd'
 ·subst d eH;cases (show u=Value.ref b from ry);let⟨z,hd,xs,rel,dd⟩:=iw I.hok e;let hz:xs.length<=sizeLine:=by rw[←eY rel];exact z
  let hl:(qQ kvs k v).length<=sizeLine:=by have :=vD kvs k v;lia
  refine wpAny_setItem_heap (hsz:=hz) (eF hu) (vE I.hok f) dd λh' dd' hs=>h _ ?_
  let⟨q,es,ep,hq,h2,j,m,_,n⟩:=dd';calc wY I (by rw[e];calc True.intro) hs #[q,hq] #[hl,hd,_,(rel.put k f rv).keeps λc ys i=>?_,q,es,ep,hq,h2,j,m,n];rw[zG<|jH i e λz=>nomatch z];exact i
end
section
variable {kvs:List (eR×V)} {k:eR}
end
def o0(i:Expr):Prop:=∀ov iv,subscripted i false ov iv=operate [ov,iv] (getItem ov iv)
theorem HB{env:Env}{value slice:Expr}{pos:Pos}{id:String}
 (hl:typeLookup (.type T) "__getitem__"=pure (some<|.builtin id)) (hs:o0 slice)
 (h:wpAny (model prog w) A (eval value env) (λo s₁=>wpAny (model prog w) A (eval slice env) (λi s₂=>s₂.TypeIs o T/\wpAny (model prog w) A (getItem o i) Q E s₂) E s₁) E s):
 wpAny (model prog w) A (eval (.Subscript value slice pos) env) Q E s:=by
 calc Subscript_ (eM h (λo s₁ h₁=>eM h₁ (λi s₂ h₂=>?_) λ_ _ x=>x) λ_ _ x=>x);let⟨a,h₂⟩:=h₂;unfold subscriptTail;calc aE ?_;rw[getitemInPython_of_ne a.not_modules];calc aE<|wpAny_specialOf a hl ?_;let fin:wpAny (model prog w) A (subscripted slice false o i) (λr s₃=>wpAny (model prog w) A (letTemporaryGo value o r >>= λ_=>pure r) Q E s₃) E s₂:=by
  rw[hs o i];exact wpAny_operating (eM h₂ (λr s₃ h₃=>aE<|wpAny_letTemporaryGo<|aS h₃) λ_ _ x=>x)
 first
  |exact aS<|aE fin
  |exact aE<|aS<|aE fin
  |exact aE fin
theorem BS{o:Option V}(I:Inv X aI σ H s)(g:nK H a y o):s.TypeIs (.ref a) "dict":=by
 rcases g with⟨kvs,k,e,_,_⟩ |⟨kvs,k,b,e,_,_,_⟩
 ·let⟨_,_,vs,_,dd⟩:=ZD I.hok e;exact dd.typeIs
 ·let⟨_,_,xs,_,dd⟩:=XI I.hok e;exact dd.typeIs
def tDGet(td ty:TE):TE:=λσ H Q=>td σ H λx H1=>ty σ H1 λy H2=>nZ x λa=>∃v,nK H2 a y (some v)/\Q v H2
def DQ(ty td:TE):TE:=λσ H Q=>ty σ H λy H1=>td σ H1 λx H2=>nZ x λa=>∃o,nK H2 a y o/\Q (.bl o.isSome) H2
def QJ(ty td:TE):TE:=λσ H Q=>ty σ H λy H1=>td σ H1 λx H2=>nZ x λa=>∃o,nK H2 a y o/\Q (.bl<|!o.isSome) H2
def HH(td ty tv:TE):TS:=λD σ H=>tv σ H λv H1=>td σ H1 λx H2=>ty σ H2 λy H3=>nZ x λa=>∃H4,CT H3 a y v H4/\D.nx σ H4
section
variable {i value:Expr} {pos tpos:Pos} {td ty tv:TE}
theorem QY(hu:X.A.units+1<cLine)(ho:PE X o td)(hi:PE X i ty)(hs:o0 i):PE X (.Subscript o i pos) (tDGet td ty):=by
 intro aI s σ H Q I h;calc HB ja.lookup hs (eI (ho aI s σ H _ I h) λu s1 ⟨x,H1,e,f,j⟩=>eI (hi aI s1 σ H1 _ e j) λm s2 z=>?_);let⟨y,H2,d,k,b⟩:=z;replace b:=xG b;let⟨a,rfl,v,g,b⟩:=b;obtain rfl:u=Value.ref a:=f;exact#[BS d g,MQ hu d g k λn p l c=>#[v,H2,l,c,b]]
theorem YO(hu:X.A.units+1<cLine)(hi:PE X i ty)(ho:PE X o td):PC X .In i o (DQ ty td):=by
 intro aI s σ H Q I h;refine eI (hi aI s σ H _ I h) λm s1 ⟨y,H1,c,d,e⟩=>eI (ho aI s1 σ H1 _ c e) λu s2 z=>?_;let⟨x,H2,f,j,b⟩:=z
 replace b:=xG b;let⟨a,rfl,k,g,b⟩:=b;obtain rfl:u=Value.ref a:=j;exact d_in hu f g d λn l=>#[.bl k.isSome,H2,l,rfl,b]
theorem JK(hu:X.A.units+1<cLine)(hi:PE X i ty)(ho:PE X o td):PC X .NotIn i o (QJ ty td):=by
 intro aI s σ H Q I h;refine eI (hi aI s σ H _ I h) λm s1 ⟨y,H1,c,d,e⟩=>eI (ho aI s1 σ H1 _ c e) λu s2 z=>?_;let⟨x,H2,f,j,b⟩:=z
 replace b:=xG b;let⟨a,rfl,k,g,b⟩:=b;obtain rfl:u=Value.ref a:=j;exact dy hu f g d λn l=>#[.bl<|!k.isSome,H2,l,rfl,b]
theorem QV(hu:X.A.units+1<cLine)(ho:PE X o td)(hi:PE X i ty)(hv:PE X value tv)(hs:swapsWith value (some<|.Subscript o i pos') pos.line X.env=pure false):
 PS X (.Assign [.Subscript o i pos'] value pos) (HH td ty tv):=by
 intro aI s σ H D I h;calc wpAny_Assign_Subscript (eI (hv aI s σ H _ I h) λr s1 ⟨v,H1,c,rv,d⟩=>eI (ho aI s1 σ H1 _ c d) λu s2 ⟨x,H2,e,f,j⟩=>eI (hi aI s2 σ H2 _ e j) λp q z=>?_) hs;let⟨y,t,k,l,b⟩:=z;replace b:=xG b;let⟨a,rfl,m,g,b⟩:=b;obtain rfl:u=Value.ref a:=f;exact MP hu k g l rv λw n=>#[σ,m,n,b]
end
theorem VH(h:Heap)(hb:sysModules<h.objs.size):eT P w H (h.push {cls:=.type "dict",data:=.dict (List.toArray [])}) h.objs.size (.dK []):=
 #[cO _,cA.mpr<|bX<|bL hb,[],.nil,Heap.DictOf.new h]
theorem VF(h:Heap)(hb:sysModules<h.objs.size):eT P w H (h.push {cls:=.type "dict",data:=.dict (List.toArray [])}) h.objs.size (.dT []):=
 #[cO _,cA.mpr<|bX<|bL hb,[],.nil,_,(List.toArray []),0,bR _ rfl,#[rfl,rfl,rfl],rfl,rfl,fq]
def jn:TE:=λ_ H Q=>∀p,H p=none->Q (.ref p) (upd H p<|.dK [])
def DP:TE:=λ_ H Q=>∀p,H p=none->Q (.ref p) (upd H p<|.dT [])
section
variable {pos:Pos}
theorem AH:PE X (.Dict [] [] pos) jn:=λaI s σ H Q I h=>
 wpAny_Dict_empty #[.ref s.heap.objs.size,_,I.laid (a:=s.heap.objs.size) (o:=.dK []) (t':=s.toks) (λ_ _ q=>aT _ q) (aG _)<|VH s.heap I.big,rfl,h _<|I.hok.fresh<|aG _]
theorem AG:PE X (.Dict [] [] pos) DP:=λaI s σ H Q I h=>
 wpAny_Dict_empty #[.ref s.heap.objs.size,_,I.laid (a:=s.heap.objs.size) (o:=.dT []) (t':=s.toks) (λ_ _ q=>aT _ q) (aG _)<|VF s.heap I.big,rfl,h _<|I.hok.fresh<|aG _]
end
structure M1(X:Cx)(o:Expr)(m:Str)(lP:Pos)(e:Expr)(gA:Pos):Prop where
 base:attributeBase o m X.env (eval o X.env)=eval o X.env
 few:((backTo gA<|starEach [e] X.env).all (λx=>!x.1)&&(backToKw gA<|keywordEach [] X.env).all (λx=>x.1.isSome)
  &&decide (([e]:List Expr).length+([]:List Keyword).length+(if([]:List Keyword).isEmpty then 0 else 1)<30))=true
 line:(lP.endLine==gA.line)=true
 trees:backTo gA (starEach [e] X.env)=[(false,eval e X.env)]
structure M2(X:Cx)(o:Expr)(m:Str)(lP:Pos)(e f:Expr)(gA:Pos):Prop where
 base:attributeBase o m X.env (eval o X.env)=eval o X.env
 few:((backTo gA<|starEach [e,f] X.env).all (λx=>!x.1)&&(backToKw gA<|keywordEach [] X.env).all (λx=>x.1.isSome)
  &&decide (([e,f]:List Expr).length+([]:List Keyword).length+(if([]:List Keyword).isEmpty then 0 else 1)<30))=true
 line:(lP.endLine==gA.line)=true
 trees:backTo gA (starEach [e,f] X.env)=[(false,eval e X.env),(false,eval f X.env)]
def IsD(H:Hp)(a:Addr):Prop:=(∃kvs,Rd H a<|.dK kvs)\/∃kvs,Rd H a<|.dT kvs
theorem TC(I:Inv X aI σ H s)(d:IsD H a):
 s.TypeIs (.ref a) "dict"/\(∀b,Value.ref a=.ref b->∃ob,s.heap.get? b=some ob/\ob.dict=none)/\(a==sysModules)=false:=by
 rcases d with⟨kvs,e⟩ |⟨kvs,e⟩
 ·let⟨_,hd,vs,_,dd⟩:=ZD I.hok e;calc#[dd.typeIs,λb q=>?_,hd];cases q;let⟨ob,_,_,h1,h2,_⟩:=dd;exact#[ob,h1,h2.2.1]
 ·let⟨_,hd,xs,_,dd⟩:=XI I.hok e;calc#[dd.typeIs,λb q=>?_,hd];cases q;let⟨ob,_,_,h1,h2,_⟩:=dd;exact#[ob,h1,h2.2.1]
section
variable {d:V} {r:Value} {o:Option V}
theorem n5(hu:A.units+1<cLine)(I:Inv X aI σ H s)(g:nK H a y o)(ry:RelV y u)(rd:RelV d r)(h:∀w' s',Inv X aI σ H s'->RelV (o.getD d) w'->Q w' s'):
 wpAny (model X.prog X.w) A (call (.builtin "dict.get") [.ref a,u,r]) Q E s:=by
 rcases g with⟨kvs,k,e,c,l⟩ |⟨kvs,k,b,e,c,f,l⟩
 ·subst c;let⟨z,hd,vs,rel,dd⟩:=ZD I.hok e;calc sL hV dd.typeIs pW (F.args_dict_get_3 _ _ _) (meets_dict_get_default (zT X.prog X.w) a (XC ry) hd r) #[_,dd.mapOf,h _ _ (I.tok _) ?_];rw[l];exact(rel.val k).getD rd
 ·subst c;cases (show u=Value.ref b from ry);let⟨z,hd,xs,rel,dd⟩:=XI I.hok e;calc sL hV dd.typeIs pW (F.args_dict_get_3 _ _ _) (meetsH_dict_get_default (tupleKind<|zT X.prog X.w) a b hd r) #[eF hu,k,xs,vE I.hok f,dd,h _ _ (I.tok _) ?_];rw[l];exact(rel.val k).getD rd
end
def OF(td ty tx:TE):TE:=λσ H Q=>td σ H λx H1=>nZ x λa=>IsD H1 a/\ty σ H1 λy H2=>tx σ H2 λz H3=>∃o,nK H3 a y o/\Q (o.getD z) H3
section
variable {f:Expr} {gA:Pos} {td ty tx:TE}
theorem RB(hu:X.A.units+1<cLine)(ho:PE X o td)(he:PE X e ty)(hf:PE X f tx)(m:M2 X o "get" lP e f gA):PE X (.Call (.Attribute o "get" lP) [e,f] [] gA) (OF td ty tx):=by
 intro aI s σ H Q I h;calc fh m.base m.few m.line pR hV F.type_dict_get (eI (ho aI s σ H _ I h) λu s1 z0=>?_);let⟨x,H1,i,j,b⟩:=z0;replace b:=xG b;let⟨a,rfl,d,b⟩:=b;obtain rfl:u=Value.ref a:=j;let⟨k,l,_⟩:=TC i d;calc#[k,l,?_];rw[m.trees];refine iF rfl (lE (fL (eI (he aI s1 σ H1 _ i b) λC s2 ⟨y,H2,n,p,q⟩=>
  fL (eI (hf aI s2 σ H2 _ n q) λD E ⟨z,r,t,v,G,g,w⟩=>iV ?_))))
 exact n5 hu t g p v λJ K B c=>#[_,r,B,c,w]
end
section
variable {kvs:List (eR×V)}
end
end L2
namespace Att
open PySem PySem.W PySem.Calls PyProof.Rows
theorem ZJ{P:Params}{h:Heap}:∀(ns:List Int)(vs:List Value),WellAll P h vs (ns.map WData.int)->IntsAre vs ns:=by
 intro ns
 induction ns with
 |nil=>
  intro vs w;rw[rA]at w;cases w;exact .nil
 |cons n ns c=>
  intro vs w;rw[bV]at w;cases w with
  |cons a b=>
   cases a;exact .cons _ _<|c _ b
theorem LA{l:OpenLaw}{n:Nat}(hn:l.most=some n){P:Params}{h:Heap}{args:List WData}{vals:List Value}
 (hpre:l.row.toRowW.claim.pre args=true) (hwl:WellAll P h vals args):
 ∃a vs ns,vals=[Value.ref a]/\args=[WData.list<|ns.map WData.int]/\h.get? a=some {cls:=.type "list",data:=.seq vs.toArray}/\IntsAre vs ns/\ns.length<=n:=by
 let f:WShape.hasAll [] args [.list .int]=true:=(pre_splitW hpre).1;let hc:l.pre.holds [] {args:=args}=true:=(pre_splitW hpre).2;let⟨d,r,rfl,h1,h2⟩:=hasAllW_cons f;obtain rfl:=hasAllW_nil h2;let⟨xs,rfl,g⟩:=hasW_list h1;let⟨ns,rfl⟩:=items_int g;let eO:ns.length<=n:=by
  unfold OpenLaw.pre at hc;let c:(WTm.not<|.lt (.lit<|.int (n:Int))<|.len<|.arg 0).holds [] {args:=[.list<|ns.map .int]}=true:=by
   let c:=(holds_andW hc).1;rw[hn]at c;exact c
  let e:=condW_of c<|w_not<|w_lt w_lit<|w_len_list<|w_arg rfl;rw[aD]at e;refine Nat.le_of_not_lt λq=>?_
  let q':(n:Int)<((ns.length:Nat):Int):=by lia
  first
   |(rw[cP q']at e;calc absurd e (by decide))
   |(simp at e;lia)
 cases hwl with
 |cons i j=>
  cases j;cases i with
  |list k b=>exact#[_,_,ns,rfl,rfl,k,ZJ ns _ b,eO]
theorem LJ(l:OpenLaw)(args:List WData):l.row.toRowW.claim.post args (.bool true) args=true:=
 postW_of (r:=l.row.toRowW) (X:=(true==true))
  (show WShape.has [] (.bool true) .bool=true by first |rfl |decide |simp[WShape.has,WShape.arms,WShape.armsAll])
  (show(WTm.eq .res<|.lit<|.bool true).value [] {args:=args,res:=some (.bool true),after:=args}=some (.bool<|true==true)from w_eq_bool (w_res rfl) w_lit) rfl
theorem attach_call{l:OpenLaw}{n:Nat}{q:Program}{loose:List Str}{XP:(Str->Option Value)->Heap->Prop}{YP:World->Heap->Prop}{d:DefRec}
 (hn:l.most=some n) (hdf:d.params.defaults=[])
 (call:∀(w:World)(s₀ s₁:Shared)(mg mb:Str->Option Value)(fa:Addr)(o:Obj)(pm cd doc:Value)(a:Addr)(vs:List Value)(ns:List Int),
  Ground q loose [] XP w s₀ mg mb s₁.heap->YP w s₁.heap->
  s₁.heap.get? fa=some o->o.data=.func (docDef d.name d.params d.body d.scope pm cd doc)->s₁.heap.CodeRec cd d.name->mg d.name=some (.ref fa)->
  s₁.heap.get? a=some {cls:=.type "list",data:=.seq vs.toArray}->IntsAre vs ns->ns.length<=n->s₁.gens= (List.toArray [])->
  codeAny (model l.prog w) callerA (.call (.ref fa) #[[.ref a],[]]) (λr s'=>r=.ok (.ret<|.bool true)/\OldK s₁.heap s'.heap/\s'.os=s₁.os/\AllBare s'.gens) s₁):
 WalkO q loose XP YP l.row.toRowW d [] (λf vs=>PySem.call f vs):=by
 intro w s₀ s₁ mg mb G Y fa o pm cd doc dV kV m hd g j h p args vals as c k s i t;obtain rfl:dV=.none:=Dflts.none j hdf;obtain rfl:kV=.none:=Dflts.noKw j;let⟨a,vs,ns,rfl,rfl,e,b,eO⟩:=LA hn c i;calc enter_call (nO (call w s₀ s₁ mg mb fa o pm cd doc a vs ns G Y m (fd_plain hd) g h e b eO p) λr s' hq=>?_);let⟨rfl,h2,u,v⟩:=hq;exact#[.inl #[.bool true,.bool true,[],rfl,λ_=>rfl,.bool true,LJ l _,λ_=>#[List.Pairwise.nil,λ_ hm=>(nomatch hm)]],h2,u,v]
section
variable {prog:Program} {w:World} {A:Around} {E:Value->Shared->Prop} {s:Shared} {K:Frag}
end
end Att
namespace L2
open PySem PySem.Spec PyProof.Rows
variable {a d f it l:Addr} {A:Around} {G:Array GenState->Array GenState->Prop} {CX:WX} {X:Cx} {D:CQ} {e iter o tg:Expr} {fd:FuncData} {base h h':Heap} {H H' H₀:Hp} {aI:List (Addr×Obj)} {fp:List Addr} {ds:List Dt} {outer:List Env} {es ifs:List Expr} {js:List Nat} {N ns ps ys:List Str} {ts:List Tm} {vs xs:List V} {its its':List Value} {M:Model} {i j n:Nat} {tc:Option TT} {lP pos':Pos} {P prog:Program} {K:W.Frag} {R:Result->Shared->Prop} {s s' s₀:Shared} {sp:Sp} {σ:St} {st:Stmt} {qual:Str} {mg:Str->Option Value} {T:String} {ta te:TE} {wi:TI} {tb:TS} {α:Type} {v:V} {cd u:Value} {RR:Value->Addr->Result->Shared->Prop} {E Q:Value->Shared->Prop} {w:World}
local macro_rules | `(()) => `(by lia)
theorem JE:∀{vs:List Value}{ns:List Int},IntsAre vs ns->cY (ns.map V.int) vs
 |_,_,.nil=>.nil
 |_,_,.cons n t h=>.cons #[t,rfl]<|JE h
def oz(H:Hp):Prop:=∀b,H b=none\/∃o xs,H b=some (.frz o<|.lst xs)
theorem SU{mb:Str->Option Value}{k:Nat}{fa:Addr}{x:Str}{s₁:Shared}{vs:List Value}{ns:List Int}
 (KX:K.In s₁.heap) (hns:s₁.heap.Ns mainGlobals mg) (hb:s₁.heap.Ns builtinsNs mb) (hbb:∀x:Str,x≠"__name__"->mb x=bootBuiltins x) (hlim:s₁.heap.NoLimit) (hg:s₁.gens= (List.toArray []))
 (ha:s₁.heap.get? a=some {cls:=.type "list",data:=.seq vs.toArray}) (hi:IntsAre vs ns) (hl:ns.length<=sizeLine) (hr:fV k callerA)
 (F:∀base:Heap,K.In base->base.Ns mainGlobals mg->cW P w K mg base CX k fa fd [x] sp) (hbind:∀(s:Shared)(u:Value),BindsTo s fd #[[u],[]] [(x,u)])
 (hsp:∀H:Hp,oz H->dB K H a (ns.map V.int)->sp [.ref a] H (λv _=>v=.bl true) λ_ _ _=>False)
 (hCX:∀H e s',CX [] H s₁ (λ_ _ _=>False) e s'->False):
 codeAny (model P w) callerA (.call (.ref fa) #[[.ref a],[]]) (λr s'=>r=.ok (.ret<|.bool true)/\OldK s₁.heap s'.heap/\s'.os=s₁.os/\AllBare s'.gens) s₁:=by
 let rv:=JE hi;let lenV:=hi.length;let core:∀H:Hp,oz H->dB K H a (ns.map V.int)->iX P w H s₁.heap->(∀b,H b≠none->b=a)->(H a≠none->K.lookup a=none)->
  codeAny (model P w) callerA (.call (.ref fa) #[[.ref a],[]]) (λr s'=>r=.ok (.ret<|.bool true)/\OldK s₁.heap s'.heap/\s'.os=s₁.os/\AllBare s'.gens) s₁:=by
  intro H i p hok j t;let base_of:∀{b:Addr}{o:Obj},s₁.heap.get? b=some o->H b=none->(UH s₁.heap H).get? b=some o:=λe n=>TL e n
  let noA:∀{b:Addr}{o:Obj}{es:Array DictEntry}{ep:Nat},s₁.heap.get? b=some o->o.data=.dict es ep->H b=none:=λ{b o es ep} e d=>by
   cases q:H b with
   |none=>rfl
   |some u=>
    let g:b=a:=j b (by rw[q];simp);subst g;rw[ha]at e;cases e;let y:Data.seq vs.toArray _=Data.dict es ep:=d;cases y
  let nsK:∀{b:Addr}{m:Str->Option Value},s₁.heap.Ns b m->(UH s₁.heap H).Ns b m:=λ{b m} ⟨o,es,ep,e,d,r⟩=>#[o,es,ep,base_of e<|noA e d,d,r]
  let c:K.In (UH s₁.heap H):=λb o e=>base_of (KX b o e) (by
   cases q:H b with
   |none=>rfl
   |some u=>
    let g:b=a:=j b (by rw[q];simp);subst g;rw[t (by rw[q];simp)]at e;cases e)
  let A:Mod K mg (UH s₁.heap H):=#[c,nsK hns,#[mb,nsK hb,hbb],let ⟨B,h1,h2⟩:=hlim;#[B,nsK h1,h2]]
  let C:GH P w K mg (UH s₁.heap H) callerA [] s₁ H:=#[rfl,A,λb o e=>da e,Nat.le_of_eq<|MM _ _,trivial,λb hb=>absurd (show b∈([]:List Addr)from hb) (by simp),hok,.of_eq hg]
  refine nO ((F _ c<|nsK hns).run callerA [] s₁ H #[[.ref a],[]] [.ref a] [.ref a] _ _ hr C (hbind s₁<|.ref a) (.cons rfl .nil) (hsp H i p)) λr s' h=>?_
  cases r with
  |error e=>exact(hCX H e s' h).elim
  |ok D=>
   cases D with
   |next=>exact False.elim h
   |brk=>exact False.elim h
   |cont=>exact False.elim h
   |ret u=>
    let⟨v,H',os,bare,un,f,E,q⟩:=h;let q':v=.bl true:=q;subst q';obtain rfl:u=Value.bool true:=E;calc#[rfl,OldK.of_keep λb o e=>?_,os,bare];cases q:H b with
    |none=>exact un.keep b o e q (by intro z;calc absurd (show b∈([]:List Addr)from z) (by simp)) (by simp)
    |some u=>
     rcases i b with z |⟨G,xs,z⟩
     ·rw[q]at z;cases z
     ·let I:=un.frzs b G _ z;let⟨l,_⟩:=hok b _ z;let⟨J,_⟩:=f b _ I;rw[e]at l;cases l;exact J
 cases hk:K.lookup a with
 |some o=>
  let e:=KX a o hk;rw[ha]at e;cases e;refine core (λ_=>none) (λ_=>.inl rfl) (.inr #[_,vs.toArray,_,hk,rfl,rfl,rfl,by rw[aM,lenV];exact hl,by simpa using rv]) (λb u z=>by let z':(none:Option HO)=some u:=z;cases z') (λb z=>absurd rfl z) λz=>absurd rfl z
 |none=>
  refine core (λb=>if b=a then some (.frz {cls:=.type "list",data:=.seq vs.toArray} (.lst<|ns.map V.int))else none) (λb=>?_) (.inl<|.inr #[{cls:=.type "list",data:=.seq vs.toArray},aO rfl]) (λb u z=>?_) (λb z=>?_) λ_=>hk
  ·by_cases hb:b=a
   ·exact .inr #[_,_,aO hb]
   ·exact .inl<|aH hb
  ·by_cases hb:b=a
   ·let z':=(aO hb).symm.trans z;cases z';subst hb;exact#[ha,by rw[aD];exact hl,vs,_,rv,ha]
   ·let z':=(aH hb).symm.trans z;cases z'
  ·by_cases hb:b=a
   ·exact hb
   ·exact absurd (aH hb) z
theorem walk_of{l:W.OpenLaw}{k:Nat}{q:Program}{loose:List Str}{XP:(Str->Option Value)->Heap->Prop}{YP:World->Heap->Prop}{d:DefRec}{K:Params->W.Frag}{CX:World->WX}{sp:World->Sp}{x:Str}
 (hn:l.most=some n) (hn2:n<=sizeLine) (hdf:d.params.defaults=[]) (hr:fV k callerA)
 (hY:∀(w:World)(h:Heap),YP w h->(K w.params).In h)
 (F:∀(w:World)(mg:Str->Option Value)(fa:Addr)(h:Heap),(K w.params).In h->h.Ns mainGlobals mg->mg d.name=some (.ref fa)->
  ∃fd:FuncData,(∀(s:Shared) (u:Value),BindsTo s fd #[[u],[]] [(x,u)])/\
   ∀base:Heap,(K w.params).In base->base.Ns mainGlobals mg->cW l.prog w (K w.params) mg base (CX w) k fa fd [x] (sp w))
 (hsp:∀(w:World)(H:Hp)(a:Addr)(ns:List Int),ns.length<=n->oz H->dB (K w.params) H a (ns.map V.int)->sp w [.ref a] H (λv _=>v=.bl true) λ_ _ _=>False)
 (hCX:∀(w:World)(H:Hp)(s:Shared)(e:Value)(s':Shared),CX w [] H s (λ_ _ _=>False) e s'->False):
 W.WalkO q loose XP YP l.row.toRowW d [] (λf vs=>PySem.call f vs):=by
 refine Att.attach_call hn hdf λw s₀ s₁ mg mb fa o pm cd doc a vs ns G Y z hd m j i c eO p=>?_
 let KX:=hY w _ Y;let⟨fd,hb,r⟩:=F w mg fa _ KX G.T.g j;exact SU KX G.T.g G.T.b G.T.builtins G.T.nolimit p i c (bT eO hn2) hr r hb (λH t y=>hsp w H a ns eO t y) λH e s'=>hCX w H s₁ e s'
noncomputable def qO(s:Stmt)(j:Nat):Stmt:=match s with
 | .ClassDef _ _ _ body _ _ _ _ _ _ _=>body.getD j<|.Pass #[0,0,0,0]
 |_=>.Pass #[0,0,0,0]
noncomputable def xK(s:Stmt):Arguments:=match s with
 | .FunctionDef _ a _ _ _ _ _ _ _ _=>a
 |_=>{posonlyargs:=[],args:=[],vararg:=none,kwonlyargs:=[],kw_defaults:=[],kwarg:=none,defaults:=[]}
noncomputable def yS(s:Stmt):List Stmt:=match s with
 | .FunctionDef _ _ b _ _ _ _ _ _ _=>b
 |_=>[]
noncomputable def zF(s:Stmt):Scope:=match s with
 | .FunctionDef _ _ _ _ _ _ sc _ _ _=>sc
 |_=>{kind:=.function,names:=[],isGenerator:=false,isCoroutine:=false}
abbrev fS:WX:=λ_ _ _ _ _ _=>False
abbrev E0:XK:=λ_ _ _=>False
theorem RE:wE fS X E0:=λ_ _ _ _ _ _ _ h=>h.elim
structure fR(K:W.Frag)(x qual:Str)(st:Stmt)(f:Addr)(fd:FuncData):Prop where
 ex:∃(oc:Value)(od:Option Addr)(kV doc pm:Value)(an:Option Addr)(eP ct:Value)(osl:Array (Option Value)),
  fd=W.fnOf x qual (xK st) (yS st) (zF st) .none kV doc pm an eP ct/\K.lookup f=some #[oc,od,.func fd,osl]/\W.codeIn K eP qual=true
 kp:W.keepIn K (.ref f)=true
theorem fR.ok{x:Str}{k:Nat}(F:fR K x qual st f fd)(S:bP N ps (zF st))(len:∀vs H Q E,sp vs H Q E->vs.length=ps.length)
 (hbody:∀(eP:Value)(A:Around)(outer:List Env)(s:Shared)(H:Hp)(vs:List V)(Q:VK)(E:XK),fV k (A.deeper<|envOfC qual (zF st) s.heap.objs.size f eP)->sp vs H Q E->
  ∃t,sU (jX fS P w K mg base N qual (zF st) f eP A outer s H E).nox (yS st) t/\t {nx:=λ_ H'=>Q .non H',rt:=Q} (uU N vs) H):cW P w K mg base fS (k+1) f fd ps sp:=by
 let⟨oc,od,kV,doc,pm,an,eP,ct,osl,rfl,c,a⟩:=F.ex;refine ir c a S len λA outer s H vs Q E hr b=>?_
 let⟨t,h,q⟩:=hbody eP A outer s H vs Q E hr b;exact#[t,h.nox,q]
theorem fR.binds{x:Str}(F:fR K x qual st f fd)
 (h:∀(kV doc pm:Value)(an:Option Addr)(eP ct:Value)(us:List Value),us.length=ps.length->bindArgs (W.fnOf x qual (xK st) (yS st) (zF st) .none kV doc pm an eP ct) #[us,[]]=pure (ps.zip us)):Binds K fd ps []:=by
 let⟨oc,od,kV,doc,pm,an,eP,ct,osl,rfl,b,a⟩:=F.ex;exact .all<|h kV doc pm an eP ct
theorem FR{x:Str}{oc:Value}{od an:Option Addr}{osl:Array (Option Value)}{kV doc pm eP ct:Value}(l:K.lookup f=some #[oc,od,.func<|W.fnOf x qual (xK st) (yS st) (zF st) .none kV doc pm an eP ct,osl])
 (c:W.codeIn K eP qual=true) (k:W.keepIn K (.ref f)=true):fR K x qual st f (W.fnOf x qual (xK st) (yS st) (zF st) .none kV doc pm an eP ct):=#[#[oc,od,kV,doc,pm,an,eP,ct,osl,rfl,l,c],k]
theorem xY{k:Nat}(hr:fV k A):A.units+1<cLine:=fA (Nat.add_le_add_left (by decide:1<=64) _) hr.units
theorem xW(h:n<=1000):n<sizeLine:=fA h (by decide)
theorem pv(i:Nat){x:Str}{pos:Pos}(hN:autoParam (X.N[i]?=some x) a1._auto_1)(hv:Vis X.env.scope x:=by first |exact Or.inl rfl |exact Or.inr (Or.inl rfl) |exact Or.inr<|Or.inr rfl)(hd:autoParam ((x==("__debug__":Str))=false) a2._auto_1)
 (hcd:autoParam ((x==("__classdict__":Str))=false) a2._auto_1):PE X (.Name x pos) (tVar i):=PR hN hv hd hcd
theorem iteF{A B:Prop}(h:B):if false=true then A else B:=by
 rw[aH aY];exact h
theorem iteT{A B:Prop}(h:A):if true=true then A else B:=by
 rw[aO rfl];exact h
def aZ(H H':Hp):Prop:=∀b o,H b=some o->H' b=some o
theorem aZ.refl(H:Hp):aZ H H:=λ_ _ h=>h
theorem aZ.trans{H1 H2:Hp}(a:aZ H H1)(b:aZ H1 H2):aZ H H2:=λc o h=>b c o<|a c o h
theorem aZ.free(e:aZ H H')(h:H' l=Option.none):H l=Option.none:=by
 cases q:H l with
 |none=>rfl
 |some o=>
  rw[e l o q]at h;cases h
theorem aZ.seq(e:aZ H H')(h:dB K H a xs):dB K H' a xs:=by
 rcases h with(h |⟨o,h⟩) |h
 ·exact .inl<|.inl<|e _ _ h
 ·exact .inl<|.inr #[o,e _ _ h]
 ·exact .inr h
section
variable {κ:Type} [DecidableEq κ]
end
noncomputable def xA(env:Env):List (Str×NameKind)->List (Str×Addr)->List (Str×Addr)
 |[],cs=>cs
 |(n,k)::r,cs=>if(k==NameKind.free)=true then xA env r ((n,(env.cells.lookup n).getD 0)::cs)else xA env r cs
theorem qS{scope:Scope}{env:Env}(h:∀x∈scope.names,x.2=.free->∃c,env.cells.lookup x.1=some c):closureFor scope env=pure (xA env scope.names []):=by
 unfold closureFor;let go:∀(l:List (Str×NameKind))(cs:List (Str×Addr)),(∀x∈l,x.2=.free->∃c,env.cells.lookup x.1=some c)->
  (forIn l cs λ(x:Str×NameKind) (r:List (Str×Addr))=>(match x with
   |(name,kind)=>if(kind==NameKind.free)=true then do let a ←cellOf env name;pure (ForInStep.yield ((name,a)::r))else pure (ForInStep.yield r):Sem (ForInStep<|List<|Str×Addr)))=(pure (xA env l cs):Sem (List<|Str×Addr)):=by
  intro l
  induction l with
  |nil=>intro cs _;rfl
  |cons x r b=>
   intro cs hl;let⟨n,k⟩:=x;rw[List.forIn_cons];by_cases hk:(k==NameKind.free)=true
   ·let⟨c,hc⟩:=hl (n,k) aW (by simpa using hk);let e:cellOf env n=pure c:=by unfold cellOf;rw[hc]
    simp only[hk,if_true,e,pure_bind];rw[b _ λy hy=>hl y<|aX _ hy];rw[xA,aO hk,hc];rfl
   ·simp only[hk,if_false,lN,pure_bind];rw[b _ λy hy=>hl y<|aX _ hy];rw[xA,aH hk]
 let q:=go scope.names [] h;simp only[pure_bind,bind_pure]at q⊢;exact q
theorem qA{env:Env}{y:Str}{c:Addr}:∀(l:List (Str×NameKind))(cs:List (Str×Addr)),(∀x∈l,x.2=.free->∃c,env.cells.lookup x.1=some c)->
 (∀z d,cs.lookup z=some d->env.cells.lookup z=some d)->(xA env l cs).lookup y=some c->env.cells.lookup y=some c
 |[],cs,_,hc,e=>hc _ _ e
 |(n,k)::r,cs,h,hc,e=>by
  let hr:∀x∈r,x.2=.free->∃c,env.cells.lookup x.1=some c:=λx hx=>h x<|aX _ hx
  by_cases hk:(k==NameKind.free)=true
  ·rw[xA,aO hk]at e;calc qA r _ hr (λz d a=>?_) e;let⟨j,f⟩:=h (n,k) aW (by simpa using hk);rw[bG]at a;cases hz:z==n with
   |true=>
    rw[hz]at a;let g:z=n:=eq_of_beq hz;subst g;let i:(env.cells.lookup z).getD 0=d:=bY a;let b:env.cells.lookup z=some j:=f;rw[b]at i⊢;exact cQ some i
   |false=>rw[hz]at a;exact hc z d a
  ·rw[xA,aH hk]at e;exact qA r cs hr hc e
theorem qC{env:Env}{y:Str}:∀(l:List (Str×NameKind))(cs:List (Str×Addr)),((y,NameKind.free)∈l\/∃c,cs.lookup y=some c)->∃c,(xA env l cs).lookup y=some c
 |[],cs,h=>h.elim (λz=>nomatch z) λz=>z
 |(n,k)::r,cs,h=>by
  by_cases hk:(k==NameKind.free)=true
  ·rw[xA,aO hk];calc qC r _ ?_;rcases h with h |⟨c,h⟩
   ·rcases bJ.mp h with h |h
    ·cases h;exact .inr #[_,by rw[bG,dE]]
    ·exact .inl h
   ·cases hz:y==n with
    |true=>exact .inr #[_,by rw[bG,hz]]
    |false=>exact .inr #[c,by rw[bG,hz];calc h]
  ·rw[xA,aH hk];calc qC r _ ?_;rcases h with h |h
   ·rcases bJ.mp h with h |h
    ·cases h;exact absurd rfl hk
    ·exact .inl h
   ·exact .inr h
theorem xF{env:Env}:∀{names:List (Str×NameKind)}{x:Str}{k':NameKind},
 (names.map λ(n,k)=>if(k==NameKind.free&&env.scope.kind==.function&&env.kindOf n==some .cell)then(n,NameKind.cell)else(n,k)).lookup x=some k'->
 names.lookup x=some k'\/(names.lookup x=some .free/\k'=.cell)
 |[],_,_,h=>by simp at h
 |(n,k)::r,x,k',h=>by
  let a:=@xF env r x k';let h:List.lookup x ((if(k==NameKind.free&&env.scope.kind==.function&&env.kindOf n==some .cell)=true then(n,NameKind.cell)else(n,k))::_)=some k':=h;rw[bG];by_cases hc:(k==NameKind.free&&env.scope.kind==.function&&env.kindOf n==some .cell)=true
  ·rw[aO hc,bG]at h;cases hx:x==n with
   |true=>
    rw[hx]at h;let b:NameKind.cell=k':=bY h;simp only[bU]at hc;exact .inr #[cQ some<|eq_of_beq hc.1.1,b.symm]
   |false=>rw[hx]at h;exact a h
  ·rw[aH hc,bG]at h;cases hx:x==n with
   |true=>rw[hx]at h;exact .inl h
   |false=>rw[hx]at h;exact a h
theorem uG{env:Env}:∀{names:List (Str×NameKind)}{x:Str},names.lookup x=some .free->
 (names.map λ(n,k)=>if(k==NameKind.free&&env.scope.kind==.function&&env.kindOf n==some .cell)then(n,NameKind.cell)else(n,k)).lookup x=some .cell\/
 (names.map λ(n,k)=>if(k==NameKind.free&&env.scope.kind==.function&&env.kindOf n==some .cell)then(n,NameKind.cell)else(n,k)).lookup x=some .free
 |[],_,h=>by simp at h
 |(n,k)::r,x,h=>by
  let a:=@uG env r x;show List.lookup x ((if(k==NameKind.free&&env.scope.kind==.function&&env.kindOf n==some .cell)=true then(n,NameKind.cell)else(n,k))::_)=_\/List.lookup x ((if(k==NameKind.free&&env.scope.kind==.function&&env.kindOf n==some .cell)=true then(n,NameKind.cell)else(n,k))::_)=_;rw[bG]at h;by_cases hc:(k==NameKind.free&&env.scope.kind==.function&&env.kindOf n==some .cell)=true
  ·rw[aO hc,bG];cases hx:x==n with
   |true=>exact .inl rfl
   |false=>rw[hx]at h;exact a h
  ·rw[aH hc,bG];cases hx:x==n with
   |true=>rw[hx]at h;exact .inr h
   |false=>rw[hx]at h;exact a h
structure nJ(xs ys:List Str)(scope fK:Scope):Prop where
 kind:scope.kind=.function
 nd:(xs++ys).Nodup
 own:∀x∈xs,scope.names.lookup x=some .local
 cap:∀y∈ys,scope.names.lookup y=some .free/\(fK.names.lookup y=some .cell\/fK.names.lookup y=some .free)
 nocell:∀y∈scope.names,y.2≠.cell
 names:∀y∈scope.names,y.2=.local->scope.names.lookup y.1=some .local
 free:∀y∈scope.names,y.2=.free->y.1∈ys
noncomputable def yH(X:Cx)(xs ys:List Str)(scope:Scope)(C:Addr)(s₀:Shared)(H₀:Hp)(fp:List Addr):Cx where
 prog:=X.prog
 w:=X.w
 K:=X.K
 mg:=X.mg
 base:=X.base
 A:=X.A
 N:=xs++ys
 s₀:=s₀
 H₀:=H₀
 env:=compEnvC scope (xA X.env scope.names []) C X.env
 outer:=X.stack
 stack:=X.stack
 ex:=fp
 fn:=λ_=>false
 calm:=X.calm
 pn:=[]
 xe:=λ_ _=>False
noncomputable def kQ(xs:List Str)(js:List Nat)(σ:St):St:=xs.map (λ_=>none)++js.map λj=>(σ[j]?).join
def WU(J:It)(n:List Str)(js:List Nat)(g:TG)(tc:Option TT)(te:TE)(σ:St)(H1:Hp)(Q:VK):Prop:=∃W:Nat->Nat->List V->St->Hp->Prop,(∃m,W 0 m [] (kQ n js σ) H1)/\∀i m ys σ1 H,W i m ys σ1 H->
 (J.stop i H/\∀p,H p=none->Q (.ref p) (upd H p<|.lst ys))\/
 (J.go i H/\ys.length<sizeLine/\∀x H',J.yld i H x H'->g x σ1 H' λσ2 H2=>match tc with
  |none=>te σ2 H2 λy H3=>∃m',m'<m/\W (i+1) m' (ys++[y]) σ2 H3
  |some c=>c σ2 H2 λb H3=>if b=true then te σ2 H3 λy H4=>∃m',m'<m/\W (i+1) m' (ys++[y]) σ2 H4 else∃m',m'<m/\W (i+1) m' ys σ2 H3)
def am(n:List Str)(js:List Nat)(wi:TI)(g:TG)(tc:Option TT)(te:TE):TE:=λσ H Q=>wi σ H λJ H1=>WU J n js g tc te σ H1 Q
def KL(X:Cx)(ifs:List Expr)(tc:Option TT):Prop:=match ifs,tc with
 |[],none=>True
 |[c],some t=>PT X c t
 |_,_=>False
section
variable {xs:List Str} {scope:Scope} {C D:Addr}
def CV(X:Cx)(ys:List Str)(js:List Nat):Prop:=js.length=ys.length/\∀(i:Nat)(y:Str)(j:Nat),ys[i]?=some y->js[i]?=some j->X.N[j]?=some y
theorem UP(I:Inv X aI σ H s)(S:nJ xs ys scope X.env.scope):∀x∈scope.names,x.2=.free->∃c,X.env.cells.lookup x.1=some c:=λx hx hf=>
 I.ok.has x.1 ((S.cap x.1<|S.free x hx hf).2.elim .inl .inr)
theorem MS(I:Inv X aI σ H s)(S:nJ xs ys scope X.env.scope){y:Str}{c:Addr}(e:(xA X.env scope.names []).lookup y=some c):X.env.cells.lookup y=some c:=
 qA scope.names [] (UP I S) (λ_ _ z=>nomatch z) e
theorem CD(I:Inv X aI σ H s)(S:nJ xs ys scope X.env.scope)(hj:CV X ys js)(f2:∀b∈fp,kX X aI H b)(fo:∀b∈fp,b<s.heap.objs.size)
 {h₁:Heap} {m:Str->Option Value} {tk:Nat} {oD:Obj} (hC:s.heap.objs.size<=C) (hD:s.heap.objs.size<=D) (hDC:D≠C) (hn:h₁.Ns C m) (hd:h₁.get? D=some oD) (hdd:∀v,oD.data≠.cell v)
 (old:∀b o,s.heap.get? b=some o->h₁.get? b=some o):
 Inv (yH X xs ys scope C s H fp) [(D,oD)] (kQ xs js σ) H {s with heap:=h₁,toks:=tk}:=by
 let cl:=λy c=>MS (y:=y) (c:=c) I S
 let nC:H C=none:=I.hok.fresh hC;let nD:H D=none:=I.hok.fresh hD;let lt_of:∀{b:Addr},b<s.heap.objs.size->b≠C:=λhb=>bL<|bQ hb hC
 let fsub:∀b,b∈frs X.stack->b∈X.env.locals::X.fs:=I.stkSub;refine#[#[I.ok.mod,?_,I.ok.glob,I.ok.blt,hC,λx y c h1 h2=>I.ok.inj x y c (cl x c h1)<|cl y c h2,λx hx=>?_,(λx c h=>nomatch h),I.ok.hd,I.ok.frames,.inl rfl,λb hb=>#[lt_of<|fo b hb,λx c h=>(f2 b hb).2.2.2.2.1 x c (cl x c h)],I.bs,
  bT I.ok.bsz I.sz,λb o e hb=>?_,λb hb hf=>?_,I.stack,I.stkFree],
  rfl,I.bare,Un.kept old,#[m,hn,λi x v l a r=>?_],λx c h=>?_,nC,λx c h=>I.freeC x c<|cl x c h,λp hp=>?_,I.hok.kept old,?_]
 ·show scope.kind=_;exact S.kind
 ·let hx:(relabel scope X.env).names.lookup x=some .cell\/(relabel scope X.env).names.lookup x=some .free:=hx;let hm:(x,NameKind.free)∈scope.names:=by
   rcases hx with hx |hx
   ·rcases xF hx with z |z
    ·exact absurd rfl<|S.nocell _<|dC z
    ·exact dC z.1
   ·rcases xF hx with z |z
    ·exact dC z
    ·exact nomatch z.2
  exact qC scope.names []<|.inl hm
 ·rcases(f2 b hb).2.2.2.1 with z |z
  ·exact I.ok.noex b o e z
  ·exact absurd (bQ (bA e)<|bT I.ok.bsz z)<|dO _
 ·rcases bJ.mp (fsub b hf)with z |z
  ·exact(f2 b hb).2.1 z
  ·exact(f2 b hb).2.2.1 z
 ·let l:(xs++ys)[i]?=some x:=l;let a:(xs.map (λ_=>(none:Option V))++js.map λj=>(σ[j]?).join)[i]?=some (some v):=a;by_cases hi:i<xs.length
  ·rw[bE (by simpa using hi),aF]at a;cases q:xs[i]? with
   |none=>rw[q]at a;cases a
   |some z=>rw[q]at a;cases a
  ·rw[bI (by simpa using hi),aD,aF]at a;rw[bI (by simpa using hi)]at l;cases q:js[i-xs.length]? with
   |none=>rw[q]at a;cases a
   |some j=>
    rw[q]at a;let d:(σ[j]?).join=some v:=bY a;let hy:=hj.2 _ _ _ l q;let hσ:σ[j]?=some (some v):=by
     cases z:σ[j]? with
     |none=>rw[z]at d;cases d
     |some t=>rw[z]at d;exact cQ some d
    let w:x∈ys:=aP l;let⟨cf,ca⟩:=S.cap x w;let⟨A,_,hl⟩:=I.loc;let⟨u,B,E⟩:=hl j x v hy hσ (ca.elim (λz=>.inr<|.inl z) λz=>.inr<|.inr z);refine#[u,B,.inr #[?_,?_]]
    ·exact uG (env:=X.env) cf
    ·rcases E with⟨k,_⟩ |⟨_,c,F,zc⟩
     ·let k:X.env.scope.names.lookup x=some .local:=k;rcases ca with z |z<;> ·rw[k]at z;cases z
     ·let⟨G,n⟩:=qC (env:=X.env) (y:=x) scope.names []<|.inl<|dC cf;let r:=cl x G n;rw[F]at r;cases r;let⟨o,f,g⟩:=zc;exact#[_,n,o,old _ _ f,g]
 ·let⟨v,o,f,g⟩:=I.cell x c<|cl x c h;exact#[v,o,old _ _ f,g]
 ·let hp:p∈[(D,oD)]:=by simpa[yH]using hp
  let e:=aV.mp hp;subst e;calc#[hd,nD,hDC,λhf=>?_,hdd];let hf:D∈frs X.stack:=hf;obtain⟨o,f⟩:∃o,s.heap.get? D=some o:=by
   rcases bJ.mp (fsub D hf)with z |z
   ·let⟨A,⟨o,_,_,f,_⟩,_⟩:=I.loc;let z:D=X.env.locals:=z;exact#[o,z▸f]
   ·exact absurd z<|I.nofs hD
  exact absurd (bA f)<|fk.mpr hD
 ·show(xs.map (λ_=>(none:Option V))++js.map λj=>(σ[j]?).join).length=(xs++ys).length;rw[aK,aK,aD,aD,hj.1]
end
section
variable {xs:List Str} {scope:Scope} {elt:Expr} {pos:Pos} {g:TG}
theorem JD{t:Sem α}{Q:α->Shared->Prop}(h:wpAny M A t Q (λ_ _=>False) s):wpAny M A t Q E s:=eM h (λ_ _ x=>x) λ_ _ z=>z.elim
theorem UL{it acc:Value}{env:Env}(J:Nat->Shared->Prop)
 (turn:∀n s,J n s->wpAny (model prog w) A (pyNext it) (λr s₁=>match r with
  |none=>R (.ok .next) s₁
  |some v=>wpAny (model prog w) A (letOwnedTupleGo tg it v) (λ_ s1'=>wpAny (model prog w) A (assign tg env v) (λ_ s₂=>
   wpAny (model prog w) A (forIn ifs true λc r=>if r=true then do let ok ←isTrue c env (eval c env);pure (ForInStep.yield ok)else pure (ForInStep.yield r)) (λok s₃=>
    if ok=true then wpAny (model prog w) A (eval elt env) (λx s₄=>
     wpAny (model prog w) A (call (.builtin "list.append") [acc,x]) (λ_ s₅=>∃m,m<n/\J m s₅) (λ_ _=>False) s₄) (λ_ _=>False) s₃
    else∃m,m<n/\J m s₃) (λ_ _=>False) s₂) (λ_ _=>False) s1') (λ_ _=>False) s₁) (λ_ _=>False) s)
 (n:Nat) (h:J n s):codeAny (model prog w) A (.compLoop (.ListComp elt [#[tg,iter,ifs,0]] scope pos) 0 it acc env) R s:=by
 calc codeAny_loop rfl J (λn s a=>?_) n h;show wpAny _ A ((compTurn (.ListComp elt [#[tg,iter,ifs,0]] scope pos) 0 it acc env).onRaise (λx=>do noteFrame x env;theTreesLotGoes x)) _ _ s;calc wpAny_noted ?_;rw[compTurn_list];calc aE (NN<|aE<|JD<|eI (turn n s a) λr s₁ h₁=>?_);cases r with
 |none=>exact aS h₁
 |some v=>
  calc aE (JD<|eI h₁ λ_ s1' h₁'=>aE<|JD<|eI h₁' λ_ s₂ h₂=>aE<|JD<|eI h₂ λok s₃ h₃=>?_);cases ok with
  |false=>exact aS #[rfl,h₃]
  |true=>exact aE (aE<|JD<|eI h₃ λx s₄ h₄=>aE<|JD<|eI h₄ λ_ s₅ h₅=>aS<|aS #[rfl,h₅])
structure rJ(X:Cx)(aI:List (Addr×Obj))(σ:St)(C:Addr)(H':Hp)(s':Shared):Prop where
 inv:Inv X aI σ H' s'
 ns:∃m,s'.heap.Ns C m
 free:H' C=none
 ne:C≠X.env.locals
 up:X.s₀.heap.objs.size<=C
 cells:∀x c,X.env.cells.lookup x=some c->c≠C
 pin:∀p∈X.pn++aI,p.1≠C
theorem rJ.gone{C:Addr}(L:rJ X aI σ C H' s')(hs:Heap.SameBut C s'.heap h'):Inv X aI σ H' {s' with heap:=h'}:=
 L.inv.turned (t':=s'.toks) (λb o hb e=>hs.extBut b o hb e) L.free L.ne (.inr L.up) L.cells L.pin
theorem IJ{B:Cx}{cl:List (Str×Addr)}{tk:Nat}{G h₁:Heap}{s2:Shared}{H2:Hp}{tn:Nat->Heap->Prop}{J:It}{W:Nat->Nat->List V->St->Hp->Prop}{m0:Nat}
 {Q:VK} (I2:Inv X aI σ H2 s2) (T:MY X.prog X.w X.K tg J fp it tn) (f2:∀b∈fp,kX X aI H2 b) (w0:W 0 m0 [] (kQ xs js σ) H2)
  (turn:∀i m ys σ1 H,W i m ys σ1 H->(J.stop i H/\∀p,H p=none->Q (.ref p) (upd H p<|.lst ys))\/(J.go i H/\ys.length<sizeLine/\∀x H',J.yld i H x H'->g x σ1 H' λσ2 H2=>match tc with
   |none=>te σ2 H2 λy H3=>∃m',m'<m/\W (i+1) m' (ys++[y]) σ2 H3
   |some c=>c σ2 H2 λb H3=>if b=true then te σ2 H3 λy H4=>∃m',m'<m/\W (i+1) m' (ys++[y]) σ2 H4 else∃m',m'<m/\W (i+1) m' ys σ2 H3))
  (fin:∀D C H' s',rJ X aI σ C H' s'->Q (.ref D) H'->RR (.ref D) C (.ok .next) s')
  (fo:∀b∈fp,b<s2.heap.objs.size) (hC:G.objs.size=s2.heap.objs.size+1) (hDC:s2.heap.objs.size≠G.objs.size) (hCle:s2.heap.objs.size<=G.objs.size)
  (below:∀b,b<s2.heap.objs.size->b≠G.objs.size/\b≠s2.heap.objs.size) (st1:tn 0 h₁)
  (I3:Inv B [(s2.heap.objs.size,LCg.lst [])] (kQ xs js σ) H2 {s2 with heap:=h₁,toks:=tk})
  (pB:B.prog=X.prog) (wB:B.w=X.w) (kB:B.K=X.K) (aB:B.A=X.A) (eB:B.env=compEnvC scope cl G.objs.size X.env) (cB:B.calm=true) (xB:B.xe=λ_ _=>False) (gB:PG B tg g) (iB:KL B ifs tc) (elB:PE B elt te)
  (sB:B.s₀=s2) (hB:B.H₀=H2) (fB:B.fs=frs X.stack) (exB:B.ex=fp) (pnB:B.pn=[]):
  codeAny (model X.prog X.w) X.A (.compStart (.ListComp elt [#[tg,iter,ifs,0]] scope pos) 0 (.ref it) (.ref s2.heap.objs.size)<|compEnvC scope cl G.objs.size X.env) (RR (.ref s2.heap.objs.size) G.objs.size) {s2 with heap:=h₁,toks:=tk}:=by
 let statB:∀{H':Hp}{oD:Obj}{σ':St}{s':Shared},Inv B [(s2.heap.objs.size,oD)] σ' H' s'->(∀b∈fp,H' b=none)->∀b∈fp,kX B [(s2.heap.objs.size,oD)] H' b:=λ{H' oD σ' s'} s hn b hb=>
  #[hn b hb,(s.ok.exf b<|exB▸hb).1,s.ok.exfs b<|exB▸hb,.inl<|exB▸hb,(s.ok.exf b<|exB▸hb).2,λp hp=>by
   rw[pnB]at hp;let e:=aV.mp (show p∈[(s2.heap.objs.size,oD)]from hp);subst e;calc GN<|fo b hb]
 let loop:∀s₃:Shared,s₃={s2 with heap:=h₁,toks:=tk}->
  codeAny (model X.prog X.w) X.A (.compLoop (.ListComp elt [#[tg,iter,ifs,0]] scope pos) 0 (.ref it) (.ref s2.heap.objs.size)<|compEnvC scope cl G.objs.size X.env) (RR (.ref s2.heap.objs.size) G.objs.size) s₃:=by
  rintro s₃ rfl;refine UL (λn s'=>∃i ys its σ1 H',Inv B [(s2.heap.objs.size,LCg.lst its)] σ1 H' s'/\cY ys its/\tn i s'.heap/\(∀b∈fp,H' b=none)/\ys.length<=sizeLine/\W i n ys σ1 H') ?_ m0
   #[0,[],[],_,H2,I3,.nil,st1,λb hb=>(f2 b hb).1,cO _,w0]
  rintro n s' ⟨i,a,its,σ1,H',s,rv,P,R,hz,w'⟩;let rl:=rv.length;rcases turn i n a σ1 H' w' with⟨stop,qn⟩ |⟨go,hz',step⟩
  ·let q:=T.done B pB wB kB cB i _ s' σ1 H' (λ_ _=>False) s (statB s R) P stop;rw[aB]at q;refine eI q λr N r=>?_;let⟨hr,I⟩:=r
   subst hr;let pD:=(I.pin (s2.heap.objs.size,LCg.lst its)<|bB _ aW)
   let S:H' s2.heap.objs.size=none:=pD.2.1;let E:=I.base;rw[fB,exB,hB,sB]at E;let neD:∀{b:Addr}{o:HO},H' b=some o->b≠s2.heap.objs.size:=λe z=>by rw[z,S]at e;cases e
   let upk:∀{b:Addr}{o:HO},H' b=some o->upd H' s2.heap.objs.size (.lst a) b=some o:=λe=>by rw[zG<|neD e];exact e
   let u:Un (frs X.stack) fp H2 (upd H' s2.heap.objs.size<|.lst a) s2.heap N.heap:=
    #[E.keep,E.slot,λb o e n hx=>by rw[zG (below b<|bA e).2];exact E.free b o e n hx,E.there,λb zs e=>upk<|E.tups b zs e,λb o zs e=>upk<|E.frzs b o zs e,λb ps e=>let ⟨more,q⟩:=E.tbls b ps e;#[more,upk q]]
   let U:iX X.prog X.w H' N.heap:=by have :=I.hok;rw[pB,wB]at this;exact this
   let hok:iX X.prog X.w (upd H' s2.heap.objs.size<|.lst a) N.heap:=λb o e=>by
    by_cases hb:b=s2.heap.objs.size
    ·subst hb;rw[zA]at e;cases e;exact#[hz,its,its.length,rv,pD.1]
    ·rw[zG hb]at e;exact(U b o e).stay (λ_ _ _ q=>q) (λ_ q=>upk q) λ_ _ q=>upk q
   let Z:Inv X aI σ (upd H' s2.heap.objs.size<|.lst a) N:=I2.call' (ch:=fp) (by rw[I.os,sB]) u hok I.bare λb hb=>let f:=f2 b hb;#[f.2.2.2.1,f.2.1,f.2.2.2.2.1,f.2.2.2.2.2]
   refine fin s2.heap.objs.size G.objs.size _ N #[Z,?_,?_,?_,bT I2.sz hCle,λx c e z=>?_,λp hp z=>?_]<|qn _ S
   ·let⟨m,hn,_⟩:=I.loc;rw[eB]at hn;exact#[m,hn]
   ·let fr:=I.free;rw[eB]at fr;rw[zG<|bX hDC];exact fr
   ·exact bX (below _ I2.lt).1
   ·let⟨_,o,ho,_⟩:=I2.cell x c e;exact(below c<|bA ho).1 z
   ·exact(below p.1<|bA (I2.pin p hp).1).1 z
  ·let q:=T.item B pB wB kB cB i _ s' σ1 H' (λ_ _=>False) s (statB s R) P go;rw[aB]at q;refine eI q λr N z0=>?_;let⟨u,hr,h4⟩:=z0
   subst hr;refine eI h4 λ_ L z5=>?_
   let⟨x,H5,Z,r5,y5,h,fr5⟩:=z5;let I5':=Z.pinned (statB Z fr5)<|T.obj _ _ h;let q5:=gB _ L σ1 H5 x u _ I5' r5<|step x H5 y5;rw[pB,wB,aB,eB,xB]at q5;refine eI q5 λ_ s6 z1=>?_;let⟨σ6,H6,I6,Y⟩:=z1
   let last:∀{j:Shared}{k:Hp},Inv B ([(s2.heap.objs.size,LCg.lst its)]++qR fp L.heap) σ6 k j->(te σ6 k λy O=>∃m',m'<n/\W (i+1) m' (a++[y]) σ6 O)->
    wpAny (model X.prog X.w) X.A (eval elt<|compEnvC scope cl G.objs.size X.env) (λx s₄=>
     wpAny (model X.prog X.w) X.A (call (.builtin "list.append") [.ref s2.heap.objs.size,x]) (λ_ s₅=>∃m,m<n/\
      ∃i ys its σ1 H',Inv B [(s2.heap.objs.size,LCg.lst its)] σ1 H' s₅/\cY ys its/\tn i s₅.heap/\(∀b∈fp,H' b=none)/\ys.length<=sizeLine/\W i m ys σ1 H') (λ_ _=>False) s₄) (λ_ _=>False) j:=λ{j k} F l=>by
    let q8:=elB _ j σ6 k _ F l;rw[pB,wB,aB,eB,xB]at q8;refine eI q8 λuy s8 z8=>?_
    let⟨y,O,I8,r8,m',M,w8⟩:=z8;let pD:=(I8.pin (s2.heap.objs.size,LCg.lst its)<|bB _<|cG _ aW)
    calc append_at (its:=its.toArray) (n:=its.length) pD.1 (λh9 hs9 hd9=>?_) (by rw[aM,←rl];calc hz);let dropped:Inv B (qR fp L.heap) σ6 O s8:=I8.pins_of λp hp=>I8.pin p<|bB _<|bB _ hp
    let apart:∀p∈B.pn++qR fp L.heap,p.1≠s2.heap.objs.size:=λp hp=>by
     rw[pnB]at hp;exact bL (fo _ (JN<|show p∈qR fp L.heap from hp).1)
    let I9:Inv B (qR fp L.heap) σ6 O {s8 with heap:=h9}:=dropped.turned (t':=s8.toks) (λb o hb e=>hs9.extBut b o hb e) pD.2.1 pD.2.2.1 (.inr (by rw[sB];calc aG _)) (λx c e=>by
     intro z;let⟨v,o,ho,hd⟩:=I8.cell x c e;rw[z,pD.1]at ho;cases ho;cases hd) apart
    let I9':Inv B [(s2.heap.objs.size,LCg.lst<|its++[uy])] σ6 O {s8 with heap:=h9}:=I9.pins_of λp hp=>by
     let e:=aV.mp hp;subst e;exact#[hd9.trans<|cQ some<|LCg.lst_snoc its uy,pD.2.1,pD.2.2.1,pD.2.2.2.1,by intro v hv;cases hv]
    refine#[m',M,i+1,a++[y],its++[uy],σ6,O,I9',cY.append rv<|.cons r8 .nil,T.keep _ _ _ h λb hb o e=>?_,λb hb=>?_,by rw[aK];exact hz',w8]
    ·exact(I9.pin (b,o)<|bB _<|jN hb e).1
    ·let⟨o,e,d⟩:=T.obj _ _ h b hb;exact(I9.pin (b,o)<|bB _<|jN hb e).2.1
   let again:∀{j:Shared}{k:Hp},Inv B ([(s2.heap.objs.size,LCg.lst its)]++qR fp L.heap) σ6 k j->(∃m',m'<n/\W (i+1) m' a σ6 k)->∃m,m<n/\
    ∃i ys its σ1 H',Inv B [(s2.heap.objs.size,LCg.lst its)] σ1 H' j/\cY ys its/\tn i j.heap/\(∀b∈fp,H' b=none)/\ys.length<=sizeLine/\W i m ys σ1 H':=λ{j k} F ⟨m',M,w7⟩=>by
    calc#[m',M,i+1,a,its,σ6,k,F.unpinned,rv,T.keep _ _ _ h λb hb o e=>(F.pin (b,o)<|bB _<|bB _<|jN hb e).1,λb hb=>?_,hz,w7];let⟨o,e,d⟩:=T.obj _ _ h b hb;exact(F.pin (b,o)<|bB _<|bB _<|jN hb e).2.1
   match ifs,tc,iB,Y with
   |[],none,_,Y=>
    calc wpAny_tests_nil ?_;rw[aO rfl];exact last I6 Y
   |[c],some t,iB,Y=>
    let iB:PT B c t:=iB;let l:=iB _ s6 σ6 H6 _ I6 Y;rw[pB,wB,aB,eB,xB]at l;calc wpAny_tests_one (eI l λb j z2=>?_);let⟨k,F,l⟩:=z2;cases b with
    |true=>rw[aO rfl]at l⊢;exact last F l
    |false=>rw[aH aY]at l⊢;exact again F l
 exact codeAny_compStart_list (loop _ rfl)<|T.self _ 0 _ _ _ st1<|loop _ rfl
theorem IK(hc:X.calm=true)(S:nJ xs ys scope X.env.scope)(hj:CV X ys js)(hi:PI X tg iter wi)
 (hg:∀C s₀ H₀ fp,PG (yH X xs ys scope C s₀ H₀ fp) tg g) (hif:∀C s₀ H₀ fp,KL (yH X xs ys scope C s₀ H₀ fp) ifs tc) (he:∀C s₀ H₀ fp,PE (yH X xs ys scope C s₀ H₀ fp) elt te)
 {Q:VK} (I:Inv X aI σ H s) (h:am xs js wi g tc te σ H Q)
  (fin:∀D C H' s',rJ X aI σ C H' s'->Q (.ref D) H'->RR (.ref D) C (.ok .next) s'):
  wpAny (model X.prog X.w) X.A (eval iter X.env) (λx s₁=>wpAny (model X.prog X.w) X.A (pyIter x) (λit s₂=>wpAny (model X.prog X.w) X.A (newList []) (λacc s₃=>
   wpAny (model X.prog X.w) X.A (newFunctionEnv scope X.env.globals (xA X.env scope.names []) [] X.env.qual none .none<|some X.env) (λcenv s₄=>
    codeAny (model X.prog X.w) X.A (.compStart (.ListComp elt [#[tg,iter,ifs,0]] scope pos) 0 it acc {cenv with scope:=relabel scope X.env}) (RR acc cenv.locals) s₄) X.xe s₃) X.xe s₂) X.xe s₁) X.xe s:=by
 refine eI (hi aI s σ H _ I h) λv s1 h1=>eI h1 λitv s2 h2=>?_
 let⟨it,fp,tn,J,H2,e,p,T,k,q,W,⟨F,u⟩,turn⟩:=h2;subst e;let r:∀b∈fp,b<s2.heap.objs.size:=λb hb=>let ⟨o,e,_⟩:=T.obj _ _ k b hb;bA e
 calc dY (wpAny_newFunctionEnv S.nocell (by intro y hy;simp at hy) (λh₁ d c=>?_) S.kind);dsimp only at d c⊢;generalize i:s2.heap.push {cls:=.type "list",dict:=none,data:=.seq ([]:List Value).toArray}=G at d c⊢;let m:G.objs.size=s2.heap.objs.size+1:=by rw[←i,nX]
 let j:s2.heap.objs.size≠G.objs.size:=by rw[m];exact bL<|pS _
 let f:s2.heap.objs.size<=G.objs.size:=by rw[m];exact nT _
 let below:∀b,b<s2.heap.objs.size->b≠G.objs.size/\b≠s2.heap.objs.size:=λb hb=>#[by rw[m];exact bL<|iE hb,bL hb]
 let old:∀b o,s2.heap.get? b=some o->h₁.get? b=some o:=λb o e=>c.extBut b o (below b<|bA e).1 (aT _<|i▸aT _ e)
 let l:h₁.get? s2.heap.objs.size=some (LCg.lst []):=c.extBut _ _ j<|aT _<|i▸bR _ rfl;let n:tn 0 h₁:=T.keep _ _ _ k λb _ o e=>old b o e
 let t:=CD (C:=G.objs.size) (D:=s2.heap.objs.size) (tk:=s2.toks+([]:List (Str×Value)).length) p S hj q r f (aG _) j d l (by intro v z;cases z) old;generalize a:yH X xs ys scope G.objs.size s2 H2 fp=B at t;let pB:B.prog=X.prog:=by rw[←a];rfl
 let wB:B.w=X.w:=by rw[←a];rfl
 let kB:B.K=X.K:=by rw[←a];rfl
 let aB:B.A=X.A:=by rw[←a];rfl
 let eB:B.env=compEnvC scope (xA X.env scope.names []) G.objs.size X.env:=by rw[←a];rfl
 let cB:B.calm=true:=by rw[←a];exact hc
 let xB:B.xe=λ_ _=>False:=by rw[←a];rfl
 let gB:PG B tg g:=by rw[←a];exact hg _ _ _ _
 let iB:KL B ifs tc:=by rw[←a];exact hif _ _ _ _
 let elB:PE B elt te:=by rw[←a];exact he _ _ _ _
 let sB:B.s₀=s2:=by rw[←a];rfl
 let E:B.H₀=H2:=by rw[←a];rfl
 let fB:B.fs=frs X.stack:=by rw[←a];rfl
 let exB:B.ex=fp:=by rw[←a];rfl
 let pnB:B.pn=[]:=by rw[←a];rfl
 exact IJ (cl:=(xA X.env scope.names [])) p T q u turn fin r m j f below n t pB wB kB aB eB cB xB gB iB elB sB E fB exB pnB
theorem pe_lc(hc:X.calm=true)(S:nJ xs ys scope X.env.scope)(hj:CV X ys js)(hi:PI X tg iter wi)
 (hg:∀C s₀ H₀ fp,PG (yH X xs ys scope C s₀ H₀ fp) tg g) (hif:∀C s₀ H₀ fp,KL (yH X xs ys scope C s₀ H₀ fp) ifs tc) (he:∀C s₀ H₀ fp,PE (yH X xs ys scope C s₀ H₀ fp) elt te)
 (hs:∀x,foldedSetIterable iter X.env x=pure x:=by intro _;rfl):PE X (.ListComp elt [#[tg,iter,ifs,0]] scope pos) (am xs js wi g tc te):=by
 intro aI s σ H Q I h;rw[eval_ListComp];calc rL (use:=none) rfl hs (qS<|UP I S) S.kind S.names ?_;refine IK (RR:=λacc C=>compPost (model X.prog X.w) X.A X.xe none (EP X aI σ Q) acc C) hc S hj hi hg hif he I h λD C H' s' L q=>?_
 let⟨m,hn⟩:=L.ns;exact#[m,hn,λh'' a=>#[.ref D,H',L.gone a,rfl,q]]
theorem PH{x:Str}{p' p:Pos}(hN:X.N.Nodup)(hx:X.N[i]?=some x)(hl:X.env.scope.names.lookup x=some .local)(hc:X.calm=true)(S:nJ xs ys scope X.env.scope)(hj:CV X ys js)(hi:PI X tg iter wi)
 (hg:∀C s₀ H₀ fp,PG (yH X xs ys scope C s₀ H₀ fp) tg g) (hif:∀C s₀ H₀ fp,KL (yH X xs ys scope C s₀ H₀ fp) ifs tc) (he:∀C s₀ H₀ fp,PE (yH X xs ys scope C s₀ H₀ fp) elt te)
 (hsw:autoParam (swapsWith (.ListComp elt [#[tg,iter,ifs,0]] scope pos) (some<|.Name x p') p.line X.env=pure true) a1._auto_1)
 (hs:∀x,foldedSetIterable iter X.env x=pure x:=by intro _;rfl):PS X (.Assign [.Name x p'] (.ListComp elt [#[tg,iter,ifs,0]] scope pos) p) (QL (am xs js wi g tc te)<|uV i):=by
 intro aI s σ H D I h;rw[exec_Assign_Name_used _ _ _ _ hsw];calc aE<|NN<|aE ?_;show wpAny _ X.A (do let _ ←comprehension (.ListComp elt [#[tg,iter,ifs,0]] scope pos) scope X.env _ (newList []) false (eval iter X.env) (some<|assign (.Name x p') X.env)) _ _ s;calc aE (eM (rL (use:=some<|assign (.Name x p') X.env) (Q:=λ_ s'=>SP X aI D .next s') rfl hs (qS<|UP I S) S.kind S.names ?_) (λ_ s' hq=>aS<|aS hq) λ_ _ e=>e);refine IK (Q:=λv H'=>uV i v σ H' D.nx) (RR:=λacc C=>compPost (model X.prog X.w) X.A X.xe (some<|assign (.Name x p') X.env) (λ_ s'=>SP X aI D .next s') acc C) hc S hj hi hg hif he I h λA C H' s' L q=>?_
 show wpAny _ X.A (assign (.Name x p') X.env<|.ref A) _ _ _;calc fg (kG (v:=.ref A) L.inv hN hx (.inl hl) rfl (λj d y=>?_)<|.inr hl);let⟨a,f,ha⟩:=y;let cne:∀{b:Addr},(b=X.env.locals\/X.env.cells.lookup x=some b)->C≠b:=λz e=>by
  rcases z with z |z
  ·exact L.ne<|e.trans z
  ·exact L.cells x _ z e.symm
 let⟨m,hn⟩:=L.ns;calc#[m,hn.sameBut f<|cne ha,λh'' c=>#[_,_,?_,q]];exact rJ.gone #[d,#[m,hn.sameBut f<|cne ha],L.free,L.ne,L.up,L.cells,L.pin] c
end
theorem jF:jG X (.builtin "all") (λxs H Q=>iz X.calm (pP xs λx=>nZ x λp=>∃bs:List Bool,dB X.K H p (bs.map V.bl)/\Q (.bl<|bs.all id) H)):=by
 intro aI s σ H xs us Q I r h;replace h:=MW h;let⟨hc,h⟩:=h;replace h:=kE h;let⟨l,rfl,h⟩:=h;replace h:=xG h;let⟨p,rfl,bs,hp,q⟩:=h;let⟨u,rfl,g⟩:=qU r;cases g;let⟨its,rv,hl,hz⟩:=I.list hp;let lR:p<s.heap.objs.size:=by let⟨_,e,_⟩:=hl.isList;exact bA e
 let eO:=rv.length;rw[aD]at eO;calc call_all_walk<|rE hl.isList ?_;refine#[_,_,_,_,_,_,λi=>bs.getD i false,rfl,Walks.list (A:=X.A.in1) (I.ok.hd hc) s.heap.objs.size p (bL lR) its.toArray,#[#[_,bR _ rfl,rfl,rfl],hl.isList.push _],λi v s' m n d q'=>?_,λh' tk k=>?_]
 ·let d:its[i]?=some v:=by simpa using d
  let hi:i<bs.length:=by
   have :=(aC.mp d).1;lia
  let⟨t,c,f⟩:=rv.get (i:=i) (x:=.bl bs[i]) (by rw[aF,aA hi];rfl);rw[d]at c;cases c;let e:v=Value.bool bs[i]:=f;subst e;calc eZ ?_;let j:bs.getD i false=bs[i]:=by rw[aU,aA hi];rfl
  rw[←j];exact q'
 ·refine#[.bl<|bs.all id,H,?_,?_,q]
  ·exact I.kept (h':=h') (t':=tk) λb o e=>k b o (by intro hm;have :=aV.mp hm;calc absurd (this▸bA e)<|dO _)<|aT _ e
  ·let e:(List.range its.toArray.size).all (λi=>bs.getD i false)=bs.all id:=by
    rw[aM,←eO];rw[bZ,cF,cF];constructor
    ·intro a b hb;let⟨i,hi,rfl⟩:=cS hb;have :=a i<|bN.mpr hi;rw[aU,aA hi]at this;exact this
    ·intro a i hi;let hi:=bN.mp hi;rw[aU,aA hi];exact a _<|bW hi
   show Value.bool _=_;rw[e]
theorem xC:jG X (.builtin "isinstance") (λxs H Q=>∃x t b,xs=[x,.ty T]/\pQ X.K H x t/\W.kitOne X.K t (.type T)=some b/\Q (.bl b) H):=by
 intro aI s σ H xs us Q I r h;let⟨x,t,b,rfl,ty,e,q⟩:=h;let⟨u,d,rfl,c,a⟩:=vals2 r;cases a;exact MK I c ty e λtk=>#[.bl b,H,I.tok tk,rfl,q]
structure gD(P:Program)(w:World)(K:W.Frag)(mg:Str->Option Value)(base:Heap)(k:Nat)(x:Str)(ps:List Str)(sp:Sp):Prop where
 ex:∃f fd,cW P w K mg base fS k f fd ps sp/\Binds K fd ps []/\W.keepIn K (.ref f)=true/\mg x=some (.ref f)
def Gc(mg:Str->Option Value)(x:Str)(v:V):Prop:=∃u,mg x=some u/\RelV v u
section
variable {k:Nat} {x:Str} {p pos:Pos} {t:TA}
theorem zQ(h:gD X.prog X.w X.K X.mg X.base k x ps sp)(hr:fV k X.A)(hg:Gl X x)(ha:PA X (e::es) t)(hdb:autoParam ((x==("__debug__":Str))=false) a2._auto_1)
 (he:autoParam (starEach (e::es) X.env=(false,eval e X.env)::starEach es X.env) a1._auto_1) (iK:autoParam ((backTo pos<|starEach es X.env).any (·.1)=false) a1._auto_1):PE X (.Call (.Name x p) (e::es) [] pos) (JG sp [] E0 t):=by
 let⟨f,fd,F,b,kp,m⟩:=h.ex;exact IA F hr hg m kp b .nil RE ha hdb he iK
theorem kY(h:Gc X.mg x v)(hg:Gl X x)(hd:autoParam ((x==("__debug__":Str))=false) a2._auto_1):PE X (.Name x pos) (tC v):=by
 let⟨u,m,r⟩:=h;exact HY hg m r hd
theorem qX(hm:X.mg x=none)(hv:bootBuiltins x=some (.type T))(hg:Gl X x)(hn:autoParam (x≠"__name__") a2._auto_1)(hd:autoParam ((x==("__debug__":Str))=false) a2._auto_1):PE X (.Name x pos) (tC<|.ty T):=
 bw hg hm hv rfl hn hd
end
theorem yA:KL X [] none:=trivial
theorem vN{c:Expr}{t:TT}(h:PT X c t):KL X [c] (some t):=h
noncomputable def sC(xs ys:List Str)(scope fK:Scope):Bool:=
 (scope.kind==.function)&&decide (xs++ys).Nodup&&xs.all (λx=>scope.names.lookup x==some .local)&&
 ys.all (λy=>(scope.names.lookup y==some .free)&&((fK.names.lookup y==some .cell) ||(fK.names.lookup y==some .free)))&&
 scope.names.all (λy=>(y.2 !=.cell)&&((y.2 !=.local) ||(scope.names.lookup y.1==some .local))&&((y.2 !=.free) ||ys.contains y.1))
theorem sC.scope{xs:List Str}{scope fK:Scope}(h:sC xs ys scope fK=true):nJ xs ys scope fK:=by
 unfold sC at h;simp only[bU,cI,bS,cF,lH,bne_iff_ne,List.contains_iff_mem]at h;let⟨⟨⟨⟨h1,h2⟩,b⟩,c⟩,a⟩:=h;exact#[h1,h2,b,c,λy hy=>(a y hy).1.1,λy hy hl=>(a y hy).1.2.resolve_left (λz=>z hl),λy hy hf=>(a y hy).2.resolve_left (λz=>z hf)]
noncomputable def pK(N ys:List Str)(js:List Nat):Bool:=(js.length==ys.length)&&(ys.zip js).all λp=>N[p.2]?==some p.1
theorem pK.caps(h:pK X.N ys js=true):CV X ys js:=by
 unfold pK at h;simp only[bU,cI,cF]at h;calc#[h.1,λi y j hy a=>?_];calc h.2 (y,j)<|aP (i:=i) ?_;rw[jd];exact#[hy,a]
section
variable {xs:List Str} {scope:Scope} {elt:Expr} {pos:Pos} {g:TG}
theorem zX(xs ys:List Str)(js:List Nat)(hi:PI X tg iter wi)
 (hg:∀C s₀ H₀ fp,(xs++ys).Nodup->PG (yH X xs ys scope C s₀ H₀ fp) tg g) (hif:∀C s₀ H₀ fp,KL (yH X xs ys scope C s₀ H₀ fp) ifs tc) (he:∀C s₀ H₀ fp,PE (yH X xs ys scope C s₀ H₀ fp) elt te)
 (hc:autoParam (X.calm=true) a1._auto_1) (S:autoParam (sC xs ys scope X.env.scope=true) a1._auto_1) (hj:autoParam (pK X.N ys js=true) a1._auto_1)
 (hs:∀x,foldedSetIterable iter X.env x=pure x:=by intro _;rfl):PE X (.ListComp elt [#[tg,iter,ifs,0]] scope pos) (am xs js wi g tc te):=
 pe_lc hc (sC.scope S) (pK.caps hj) hi (λC s₀ H₀ fp=>hg C s₀ H₀ fp (sC.scope S).nd) hif he hs
theorem ZQ{x:Str}{p' p:Pos}(xs ys:List Str)(js:List Nat)(hN:X.N.Nodup)(hx:X.N[i]?=some x)(hi:PI X tg iter wi)
 (hg:∀C s₀ H₀ fp,(xs++ys).Nodup->PG (yH X xs ys scope C s₀ H₀ fp) tg g) (hif:∀C s₀ H₀ fp,KL (yH X xs ys scope C s₀ H₀ fp) ifs tc) (he:∀C s₀ H₀ fp,PE (yH X xs ys scope C s₀ H₀ fp) elt te)
 (hl:autoParam (X.env.scope.names.lookup x=some .local) a1._auto_1) (hc:autoParam (X.calm=true) a1._auto_1) (S:autoParam (sC xs ys scope X.env.scope=true) a1._auto_1) (hj:autoParam (pK X.N ys js=true) a1._auto_1)
 (hsw:autoParam (swapsWith (.ListComp elt [#[tg,iter,ifs,0]] scope pos) (some<|.Name x p') p.line X.env=pure true) a1._auto_1)
 (hs:∀x,foldedSetIterable iter X.env x=pure x:=by intro _;rfl):PS X (.Assign [.Name x p'] (.ListComp elt [#[tg,iter,ifs,0]] scope pos) p) (QL (am xs js wi g tc te)<|uV i):=
 PH hN hx hl hc (sC.scope S) (pK.caps hj) hi (λC s₀ H₀ fp=>hg C s₀ H₀ fp (sC.scope S).nd) hif he hsw hs
end
theorem UU:bootBuiltins "len"=some (.builtin "len"):=by decide+kernel
theorem zL:bootBuiltins "isinstance"=some (.builtin "isinstance"):=by decide+kernel
theorem uR:bootBuiltins "all"=some (.builtin "all"):=by decide+kernel
theorem JX:bootBuiltins "sorted"=some (.builtin "sorted"):=by decide+kernel
theorem VR:bootBuiltins "range"=some (.type "range"):=by decide+kernel
theorem vI:bootBuiltins "tuple"=some (.type "tuple"):=by decide+kernel
theorem vR:bootBuiltins "list"=some (.type "list"):=by decide+kernel
theorem FV:bootBuiltins "int"=some (.type "int"):=by decide+kernel
theorem IZ:bootBuiltins "bool"=some (.type "bool"):=by decide+kernel
theorem n9:bootBuiltins "str"=some (.type "str"):=by decide+kernel
theorem ZY:bootBuiltins "dict"=some (.type "dict"):=by decide+kernel
theorem cx_K{scope:Scope}{E:XK}:(jX CX P w K mg base N qual scope f cd A outer s H E).K=K:=rfl
theorem cx_calm{scope:Scope}{E:XK}:(jX CX P w K mg base N qual scope f cd A outer s H E).calm=true:=rfl
theorem bk_calm{xs:List Str}{scope:Scope}{C:Addr}:(yH X xs ys scope C s₀ H₀ fp).calm=X.calm:=rfl
theorem lenV_str{y:Str}:o7 K (.str y) H n↔(y.length<=sizeLine/\n=y.length):=Iff.rfl
theorem bk_K{xs:List Str}{scope:Scope}{C:Addr}:(yH X xs ys scope C s₀ H₀ fp).K=X.K:=rfl
theorem IL{J:It}{g:TG}{Q:VK}(Pv:Nat->List V->St->Hp->Prop)(h0:Pv 0 [] (kQ ns js σ) H)(hn:n<=sizeLine)(hl:∀i ys σ H,Pv i ys σ H->ys.length<=i)
 (hgo:∀i ys σ H,i<n->Pv i ys σ H->J.go i H) (hst:∀ys σ H,Pv n ys σ H->J.stop n H)
 (hs:∀i ys σ H x H' (C:V->St->Hp->Prop),i<n->Pv i ys σ H->J.yld i H x H'->(∀y σ2 H3,Pv (i+1) (ys++[y]) σ2 H3->C y σ2 H3)->g x σ H' λσ2 H2=>te σ2 H2 λy H3=>C y σ2 H3)
 (hd:∀ys σ H,Pv n ys σ H->∀p,H p=none->Q (.ref p) (upd H p<|.lst ys)):
 WU J ns js g none te σ H Q:=by
 calc#[λi m ys σ H=>i+m=n/\Pv i ys σ H,#[n,(),h0],λi m ys σ H z=>?_];let⟨e,w⟩:=z;by_cases hi:i<n
 ·calc .inr #[hgo i ys σ H hi w,fA (hl _ _ _ _ w) (),λx H' hy=>?_];exact hs i ys σ H x H' (λy σ2 H3=>∃a,a<m/\i+1+a=n/\Pv (i+1) (ys++[y]) σ2 H3) hi w hy λy σ2 H3 q=>#[m-1,(),(),q]
 ·have :i=n:=by lia
  subst this;exact .inl #[hst ys σ H w,hd ys σ H w]
theorem BM{lo:Int}{g:TG}{Q:VK}(Pv:Nat->List V->St->Hp->Prop)(h0:Pv 0 [] (kQ ns js σ) H)(hz:n<=sizeLine)(hl:∀i ys σ H,Pv i ys σ H->ys.length<=i)
 (hs:∀(i:Nat) ys σ H (C:V->St->Hp->Prop),i<n->Pv i ys σ H->(∀y σ2 H3,Pv (i+1) (ys++[y]) σ2 H3->C y σ2 H3)->g (.int<|lo+i) σ H λσ2 H2=>te σ2 H2 λy H3=>C y σ2 H3)
 (hd:∀ys σ H,Pv n ys σ H->∀p,H p=none->Q (.ref p) (upd H p<|.lst ys)):
 WU (WG lo n) ns js g none te σ H Q:=
 IL (n:=n) Pv h0 hz hl (λ_ _ _ _ h _=>h) (λ_ _ _ _=>aG _) (λi ys σ H x H' C hi w z a=>by let⟨e,hx⟩:=z;subst e;subst hx;calc hs i ys σ _ C hi w a) hd
theorem FK{g:TG}{Q:VK}(Pv:Nat->List V->St->Hp->Prop)(h0:Pv 0 [] (kQ ns js σ) H)(hz:xs.length<=sizeLine)(hl:∀i ys σ H,Pv i ys σ H->ys.length<=i)
 (hK:∀i ys σ H,Pv i ys σ H->cV K H a xs)
 (hs:∀(i:Nat) x ys σ H (C:V->St->Hp->Prop),xs[i]?=some x->Pv i ys σ H->(∀y σ2 H3,Pv (i+1) (ys++[y]) σ2 H3->C y σ2 H3)->g x σ H λσ2 H2=>te σ2 H2 λy H3=>C y σ2 H3)
 (hd:∀ys σ H,Pv xs.length ys σ H->∀p,H p=none->Q (.ref p) (upd H p<|.lst ys)):
 WU (i9 K a) ns js g none te σ H Q:=
 IL (n:=xs.length) Pv h0 hz hl (λi ys σ H hi w=>#[xs,xs[i],hK i ys σ H w,aA hi]) (λys σ H w=>#[xs,hK _ ys σ H w,aG _])
  (λi ys σ H x H' C hi w z b=>by let⟨e,hx⟩:=z;subst e;calc hs i x ys σ _ C (hx xs<|hK i ys σ _ w) w b) hd
theorem yR{g:TG}{Q:VK}(Pv:Nat->List V->St->Hp->Prop)(h0:Pv 0 [] (kQ ns js σ) H)(hz:xs.length<=sizeLine)(hl:∀i ys σ H,Pv i ys σ H->ys.length<=i)
 (hK:∀i ys σ H,Pv i ys σ H->dB K H a xs)
 (hs:∀(i:Nat) x ys σ H (C:V->St->Hp->Prop),xs[i]?=some x->Pv i ys σ H->(∀y σ2 H3,Pv (i+1) (ys++[y]) σ2 H3->C y σ2 H3)->g x σ H λσ2 H2=>te σ2 H2 λy H3=>C y σ2 H3)
 (hd:∀ys σ H,Pv xs.length ys σ H->∀p,H p=none->Q (.ref p) (upd H p<|.lst ys)):
 WU (er K a) ns js g none te σ H Q:=
 IL (n:=xs.length) Pv h0 hz hl (λi ys σ H hi w=>#[xs,xs[i],hK i ys σ H w,aA hi]) (λys σ H w=>#[xs,hK _ ys σ H w,aG _])
  (λi ys σ H x H' C hi w z b=>by let⟨e,hx⟩:=z;subst e;calc hs i x ys σ _ C (hx xs<|hK i ys σ _ w) w b) hd
def UZ(J:It)(g:TG)(tb:TS)(D:CQ)(σ:St)(H:Hp):Prop:=∃W:Nat->Nat->St->Hp->Prop,(∃m,W 0 m σ H)/\∀i m σ H,W i m σ H->
 (J.stop i H/\D.nx σ H)\/(J.go i H/\∃N:St->Hp->Prop,(∀σ' H',N σ' H'->∃m',m'<m/\W (i+1) m' σ' H')/\∀x H',J.yld i H x H'->g x σ H' λσ2 H2=>tb {D with nx:=N,ct:=N,bk:=D.nx} σ2 H2)
theorem tFor_eq{g:TG}:tFor wi g tb D σ H=wi σ H λJ H1=>UZ J g tb D σ H1:=rfl
theorem tLC_eq{n:List Str}{g:TG}{Q:VK}:am n js wi g tc te σ H Q=wi σ H λJ H1=>WU J n js g tc te σ H1 Q:=rfl
theorem uP{g:TG}(Pv:Nat->St->Hp->Prop)(h0:Pv 0 σ H)(hl:∀i σ H,i<=xs.length->Pv i σ H->dB K H a xs)
 (hs:∀i x σ H,xs[i]?=some x->Pv i σ H->g x σ H λσ2 H2=>tb {D with nx:=Pv (i+1),ct:=Pv (i+1),bk:=D.nx} σ2 H2) (hd:∀σ H,Pv xs.length σ H->D.nx σ H):UZ (er K a) g tb D σ H:=BQ Pv h0 hl hs hd
theorem nq{g:TG}(Pv:Nat->St->Hp->Prop)(h0:Pv 0 σ H)(hl:∀i σ H,i<=xs.length->Pv i σ H->cV K H a xs)
 (hs:∀i x σ H,xs[i]?=some x->Pv i σ H->g x σ H λσ2 H2=>tb {D with nx:=Pv (i+1),ct:=Pv (i+1),bk:=D.nx} σ2 H2) (hd:∀σ H,Pv xs.length σ H->D.nx σ H):UZ (i9 K a) g tb D σ H:=IP Pv h0 hl hs hd
theorem TY{lo:Int}{g:TG}(Pv:Nat->St->Hp->Prop)(h0:Pv 0 σ H)
 (hs:∀i σ H,i<n->Pv i σ H->g (.int<|lo+i) σ H λσ2 H2=>tb {D with nx:=Pv (i+1),ct:=Pv (i+1),bk:=D.nx} σ2 H2) (hd:∀σ H,Pv n σ H->D.nx σ H):UZ (WG lo n) g tb D σ H:=JS Pv h0 hs hd
theorem xS{g:TG}(Pv:Nat->St->Hp->Prop)(h0:Pv 0 σ H)(hl:∀i σ H,i<=xs.length->Pv i σ H->dB K H a xs)
 (hs:∀i x σ H,xs[i]?=some x->Pv i σ H->∀N:St->Hp->Prop,(∀σ H,Pv (i+1) σ H->N σ H)->g x σ H λσ2 H2=>tb {D with nx:=N,ct:=N,bk:=D.nx} σ2 H2) (hd:∀σ H,Pv xs.length σ H->D.nx σ H):UZ (er K a) g tb D σ H:=BQ Pv h0 hl (λi x σ H a b=>hs i x σ H a b _ λ_ _ z=>z) hd
theorem TW{g:TG}(Pv:Nat->St->Hp->Prop)(h0:Pv 0 σ H)(hl:∀i σ H,i<=xs.length->Pv i σ H->cV K H a xs)
 (hs:∀i x σ H,xs[i]?=some x->Pv i σ H->∀N:St->Hp->Prop,(∀σ H,Pv (i+1) σ H->N σ H)->g x σ H λσ2 H2=>tb {D with nx:=N,ct:=N,bk:=D.nx} σ2 H2) (hd:∀σ H,Pv xs.length σ H->D.nx σ H):UZ (i9 K a) g tb D σ H:=IP Pv h0 hl (λi x σ H a b=>hs i x σ H a b _ λ_ _ z=>z) hd
theorem qJ{lo:Int}{g:TG}(Pv:Nat->St->Hp->Prop)(h0:Pv 0 σ H)
 (hs:∀i σ H,i<n->Pv i σ H->∀N:St->Hp->Prop,(∀σ H,Pv (i+1) σ H->N σ H)->g (.int<|lo+i) σ H λσ2 H2=>tb {D with nx:=N,ct:=N,bk:=D.nx} σ2 H2) (hd:∀σ H,Pv n σ H->D.nx σ H):UZ (WG lo n) g tb D σ H:=JS Pv h0 (λi σ H a b=>hs i σ H a b _ λ_ _ z=>z) hd
theorem ji{c:TT}(W:Nat->St->Hp->Prop)(h0:∃m,W m σ H)(hs:∀m σ H,W m σ H->∀B:Hp->Prop,(∀H1 (N:St->Hp->Prop),(∀σ' H',N σ' H'->∃m',m'<m/\W m' σ' H')->(∀M:St->Hp->Prop,(∀σ H,N σ H->M σ H)->tb {D with nx:=M,ct:=M,bk:=D.nx} σ H1)->B H1)->c σ H λb H1=>if b=true then B H1 else D.nx σ H1):DO c tb D σ H:=
 #[W,h0,λm σ H h=>hs m σ H h _ λ_ N a ht=>#[N,a,ht N λ_ _ z=>z]]
theorem fR.okz{x:Str}{k:Nat}(F:fR K x qual st f fd)(S:bP N ps (zF st))
 (hbody:∀(eP:Value)(A:Around)(outer:List Env)(s:Shared)(H:Hp)(vs:List V)(Q:VK)(E:XK),fV k (A.deeper<|envOfC qual (zF st) s.heap.objs.size f eP)->sp vs H Q E->
  ∃t,sU (jX fS P w K mg base N qual (zF st) f eP A outer s H E).nox (yS st) t/\t {nx:=λ_ H'=>Q .non H',rt:=Q} (uU N vs) H)
 (len:∀vs H Q E,sp vs H Q E->vs.length=ps.length:=by intro vs H Q E h;first |(cases h;calc cQ List.length ‹vs=_›) |(repeat first |(let⟨rfl,_⟩:=h;rfl) |(let⟨_,h⟩:=h))):cW P w K mg base fS (k+1) f fd ps sp:=F.ok S len hbody
theorem fV.m{k:Nat}(r:fV k A)(h:j<=k:=by lia):fV j A:=r.mono h
theorem xI(i:Nat){x:Str}{pos:Pos}(hN:X.N.Nodup)(he:PE X e te)(hi:autoParam (X.N[i]?=some x) a1._auto_1)(hx:Loc X.env.scope x:=by calc Or.inl rfl)(hs:autoParam (swapsWith e (some<|.Name x pos') pos.line X.env=pure false) a1._auto_1)(hf:X.fn x=true\/X.env.scope.names.lookup x=some .local:=by first |exact .inl rfl |exact .inr rfl |assumption):PS X (.Assign [.Name x pos'] e pos) (QL te<|uV i):=qI hN hi hx he hs hf
theorem yI(i:Nat){x:Str}{pos:Pos}(hN:X.N.Nodup)(hi:autoParam (X.N[i]?=some x) a1._auto_1)(hx:Loc X.env.scope x:=by calc Or.inl rfl)(hf:X.fn x=true\/X.env.scope.names.lookup x=some .local:=by first |exact .inl rfl |exact .inr rfl |assumption):PG X (.Name x pos) (uV i):=wN hN hi hx hf
theorem zV{a b:Expr}{tb:TE}{pos:Pos}{r:R2}(hr:o8 X r)(ha:PE X a ta)(hb:PE X b tb)(hs:KJ b:=by calc λ_ _=>rfl):PE X (.Subscript a b pos) (tOp r ta tb):=pe_ix hr ha hb hs
theorem zD{t u:TS}(h:∀N:St->Hp->Prop,(∀σ H,u D σ H->N σ H)->t {D with nx:=N} σ H):OC t u D σ H:=h (u D) λ_ _ z=>z
theorem zP{t u:TS}(J:St->Hp->Prop)(h1:∀N:St->Hp->Prop,(∀σ H,J σ H->N σ H)->t {D with nx:=N} σ H)(h2:∀σ H,J σ H->u D σ H):OC t u D σ H:=h1 (u D) h2
structure Bi(mg:Str->Option Value):Prop where
 len:mg "len"=none
 range:mg "range"=none
 isinstance:mg "isinstance"=none
 max:mg "max"=none
 sum:mg "sum"=none
 all:mg "all"=none
 tuple:mg "tuple"=none
 list:mg "list"=none
 sorted:mg "sorted"=none
 set:mg "set"=none
 int:mg "int"=none
 bool:mg "bool"=none
 str:mg "str"=none
 dict:mg "dict"=none
theorem vY{k:Nat}{x:Str}(F:fR K x x st f fd)(ok:cW P w K mg base fS k f fd ps sp)(b:Binds K fd ps [])
 (m:mg x=some (.ref f)):gD P w K mg base k x ps sp:=#[f,fd,ok,b,F.kp,m]
inductive Dt where
 |non |bl (b:Bool) |int (i:Int) |str (x:Str) |tup (ds:List Dt) |lst (ds:List Dt)
mutual
def eE(H:Hp):Dt->V->Prop
 | .non,v=>v=.non
 | .bl b,v=>v=.bl b
 | .int i,v=>v=.int i
 | .str x,v=>v=.str x
 | .tup ds,v=>∃a vs,v=.ref a/\H a=some (.tup vs)/\bK H ds vs
 | .lst ds,v=>∃a vs,v=.ref a/\H a=some (.lst vs)/\bK H ds vs
def bK(H:Hp):List Dt->List V->Prop
 |[],vs=>vs=[]
 |d::ds,vs=>∃v r,vs=v::r/\eE H d v/\bK H ds r
end
mutual
theorem eE.same{H H':Hp}(e:aZ H H'):∀{d:Dt}{v:V},eE H d v->eE H' d v
 | .non,_,h=>h
 | .bl _,_,h=>h
 | .int _,_,h=>h
 | .str _,_,h=>h
 | .tup ds,v,h=>by
   let⟨a,vs,b,c,f⟩:=h;exact#[a,vs,b,e _ _ c,bK.same e f]
 | .lst ds,v,h=>by
   let⟨a,vs,b,c,f⟩:=h;exact#[a,vs,b,e _ _ c,bK.same e f]
theorem bK.same{H H':Hp}(e:aZ H H'):∀{ds:List Dt}{vs:List V},bK H ds vs->bK H' ds vs
 |[],_,h=>h
 |d::ds,vs,h=>by
  let⟨v,r,a,b,c⟩:=h;exact#[v,r,a,eE.same e b,bK.same e c]
end
theorem bK.length{H:Hp}:∀{ds:List Dt}{vs:List V},bK H ds vs->vs.length=ds.length
 |[],vs,h=>by
  let h:vs=[]:=h;rw[h];rfl
 |d::ds,vs,h=>by
  let⟨v,r,a,c,b⟩:=h;rw[a,bC,bC,bK.length b]
theorem bK.get{H:Hp}:∀{ds:List Dt}{vs:List V}{i:Nat}{d:Dt},bK H ds vs->ds[i]?=some d->∃v,vs[i]?=some v/\eE H d v
 |[],vs,i,d,_,e=>by simp at e
 |d::ds,vs,0,f,h,e=>by
  let⟨v,r,a,b,c⟩:=h;simp at e;subst e;subst a;exact#[v,rfl,b]
 |d::ds,vs,i+1,f,h,e=>by
  let⟨v,r,a,b,c⟩:=h;subst a;simp at e;let⟨u,h1,h2⟩:=bK.get c e;exact#[u,by simpa using h1,h2]
theorem bK.append{H:Hp}:∀{ds es:List Dt}{vs us:List V},bK H ds vs->bK H es us->bK H (ds++es) (vs++us)
 |[],es,vs,us,h,h'=>by
  let h:vs=[]:=h;subst h;exact h'
 |d::ds,es,vs,us,h,h'=>by
  let⟨v,r,a,b,c⟩:=h;subst a;exact#[v,r++us,rfl,b,bK.append c h']
theorem bK.one{d:Dt}(h:eE H d v):bK H [d] [v]:=#[v,[],rfl,h,rfl]
def jY:Nat->Dt->Prop
 |n+1,.tup ds=>ds.length<=1000/\∀d∈ds,jY n d
 |n+1,.lst ds=>ds.length<=1000/\∀d∈ds,jY n d
 |0,.tup _=>False
 |0,.lst _=>False
 |_,_=>True
inductive Tm where
 |name (x:Str)
 |node (w:Str) (ts:List Tm)
mutual
noncomputable def tL:Tm->Dt
 | .name x=>.tup [.str "name",.str x]
 | .node w ts=>.tup (.str w::ah ts)
noncomputable def ah:List Tm->List Dt
 |[]=>[]
 |t::ts=>tL t::ah ts
end
theorem YC:∀ts:List Tm,ah ts=ts.map tL
 |[]=>rfl
 |t::ts=>by rw[ah,YC ts,bV]
theorem tK(w:Str)(ts:List Tm):tL (.node w ts)=.tup (.str w::ts.map tL):=by rw[tL,YC]
abbrev hU(H:Hp)(t:Tm)(v:V):Prop:=eE H (tL t) v
abbrev fF(H:Hp)(ts:List Tm)(vs:List V):Prop:=bK H (ts.map tL) vs
theorem hU.name{x:Str}(h:hU H (.name x) v):∃a,v=.ref a/\H a=some (.tup [.str "name",.str x]):=by
 let⟨a,vs,e,f,u,r,g,b,i⟩:=h;let⟨j,k,l,c,d⟩:=i;let b:u=.str "name":=b;let c:j=.str x:=c;let d:k=[]:=d;subst g;subst b;subst l;subst c;subst d;exact#[a,e,f]
theorem hU.mkName{x:Str}(h:H a=some (.tup [.str "name",.str x])):hU H (.name x) (.ref a):=
 #[a,_,rfl,h,_,_,rfl,rfl,_,_,rfl,rfl,rfl]
theorem hU.node{w:Str}(h:hU H (.node w ts) v):∃a vs,v=.ref a/\H a=some (.tup (.str w::vs))/\fF H ts vs:=by
 unfold hU at h;rw[tK]at h;let⟨a,vs,c,d,u,r,e,b,f⟩:=h;let b:u=.str w:=b;subst e;subst b;exact#[a,r,c,d,f]
theorem hU.mkNode{w:Str}(h:H a=some (.tup (.str w::vs)))(hs:fF H ts vs):hU H (.node w ts) (.ref a):=by
 unfold hU;rw[tK];exact#[a,_,rfl,h,_,_,rfl,rfl,hs]
def Wrd(w:Str):Prop:=w="none"\/w="all"\/w="not"\/w="both"\/w="either"
theorem Wrd.ne{w:Str}(h:Wrd w):w≠"name":=by
 rcases h with rfl |rfl |rfl |rfl |rfl<;>decide+kernel
def Sh(w:Str)(n:Nat):Prop:=(w="none"/\n=0)\/(w="all"/\n=0)\/(w="not"/\n=1)\/(w="both"/\2<=n)\/(w="either"/\2<=n)
theorem Sh.wrd{w:Str}(h:Sh w n):Wrd w:=by
 rcases h with h |h |h |h |h
 ·exact .inl h.1
 ·exact .inr<|.inl h.1
 ·exact .inr<|.inr<|.inl h.1
 ·exact .inr<|.inr<|.inr<|.inl h.1
 ·exact .inr<|.inr<|.inr<|.inr h.1
structure Nm(x:Str):Prop where
 pos:1<=x.length
 most:x.length<=8
 low:∀c∈x.cps.toList,97<=c/\c<=122
 nn:x≠"none"
 na:x≠"all"
def fY:Nat->Tm->Prop
 |_,.name x=>Nm x
 |0,.node w ts=>Sh w ts.length/\ts=[]
 |n+1,.node w ts=>Sh w ts.length/\∀t∈ts,fY n t
theorem fY.up:∀{n:Nat}{t:Tm},fY n t->fY (n+1) t
 |n,.name _,h=>by unfold fY at h⊢;exact h
 |0,.node w ts,h=>by
  unfold fY at h;let⟨h1,h2⟩:=h;subst h2;exact#[h1,λ_ z=>nomatch z]
 |n+1,.node w ts,h=>by
  unfold fY at h⊢;exact#[h.1,λt ht=>fY.up<|h.2 t ht]
theorem fY.mono{m:Nat}{t:Tm}(h:fY n t)(hm:n<=m):fY m t:=by
 let⟨k,rfl⟩:=Nat.le.dest hm
 induction k with
 |zero=>exact h
 |succ k a=>exact fY.up<|a ()
theorem fY.sh{w:Str}(h:fY n (.node w ts)):Sh w ts.length:=by
 cases n with
 |zero=>exact h.1
 |succ n=>exact h.1
theorem fY.wrd{w:Str}(h:fY n (.node w ts)):Wrd w:=h.sh.wrd
theorem fY.part{w:Str}{t:Tm}(h:fY (n+1) (.node w ts))(ht:t∈ts):fY n t:=h.2 t ht
mutual
noncomputable def wt:Tm->Nat
 | .name _=>1
 | .node _ ts=>1+lI ts
noncomputable def lI:List Tm->Nat
 |[]=>0
 |t::ts=>wt t+lI ts
end
theorem DH:∀t:Tm,1<=wt t
 | .name _=>by rw[wt];lia
 | .node _ _=>by rw[wt];lia
theorem ZM:∀ts:List Tm,ts.length<=lI ts
 |[]=>by simp
 |t::ts=>by
  have :=ZM ts;have :=DH t;rw[lI,bC];lia
theorem wF:∀{ts:List Tm}{t:Tm},t∈ts->wt t<=lI ts
 |u::ts,t,h=>by
  rw[lI];rcases bJ.mp h with h |h
  ·subst h;lia
  ·have :=wF h;lia
theorem jJ:∀ts us:List Tm,lI (ts++us)=lI ts+lI us
 |[],us=>by simp[lI]
 |t::ts,us=>by rw[List.cons_append,lI,lI,jJ ts us];lia
theorem zB{p:Addr}(h:H p=none)(o:HO):aZ H (upd H p o):=λb u q=>by rw[zG<|yW q h];exact q
theorem ao{x y:Str}(h:x.cps=y.cps):x=y:=by
 cases x;cases y;cases h;rfl
theorem dm(p q:Str):(p++q).length=p.length+q.length:=by
 show(p.cps++q.cps).size=p.cps.size+q.cps.size;rw[Array.size_append]
theorem d7(p q:Str):(p++q).cps.toList=p.cps.toList++q.cps.toList:=by
 show(p.cps++q.cps).toList=_;rw[Array.toList_append]
theorem zI(h:n<=1000):n<=sizeLine:=pZ<|xW h
theorem fF.one{t:Tm}(h:hU H t v):fF H [t] [v]:=bK.one h
theorem fF.append{us:List Tm}{ws:List V}(h:fF H ts vs)(h':fF H us ws):fF H (ts++us) (vs++ws):=by
 unfold fF;rw[aQ];exact bK.append h h'
theorem fF.length(h:fF H ts vs):vs.length=ts.length:=by
 have :=bK.length h;rw[aD]at this;exact this
theorem fF.get{t:Tm}(h:fF H ts vs)(ht:ts[i]?=some t):∃v,vs[i]?=some v/\hU H t v:=
 bK.get (d:=tL t) h (by rw[aF,ht];rfl)
theorem fF.getV(h:fF H ts vs)(hv:vs[i]?=some v):∃t,ts[i]?=some t/\hU H t v:=by
 let hi:i<ts.length:=by rw[←h.length];exact(aC.mp hv).1
 let⟨u,h1,h2⟩:=h.get<|aA hi;rw[hv]at h1;cases h1;exact#[_,aA hi,h2]
def cX(H H':Hp):Prop:=∀b xs,H b=some (.tup xs)->H' b=some (.tup xs)
theorem cX.refl(H:Hp):cX H H:=λ_ _ h=>h
theorem cX.trans{H1 H2:Hp}(a:cX H H1)(b:cX H1 H2):cX H H2:=λc o h=>b c o<|a c o h
theorem aZ.tups(e:aZ H H'):cX H H':=λb xs h=>e b _ h
theorem cX.upd_lst{o:HO}(e:cX H H')(h:H' a=some (.lst xs)):cX H (upd H' a o):=λb ys hb=>by
 rw[zG<|jH (e _ _ hb) h (by intro z;cases z)];exact e _ _ hb
theorem aZ.upd{H1:Hp}{o:HO}(e:aZ H H1)(h:H a=none):aZ H (upd H1 a o):=λb u hb=>by
 rw[zG<|yW hb h];exact e _ _ hb
mutual
theorem hU.tups{H H':Hp}(e:cX H H'):∀{t:Tm}{v:V},hU H t v->hU H' t v
 | .name x,v,h=>by
   let⟨a,b,h2⟩:=hU.name h;subst b;exact hU.mkName<|e _ _ h2
 | .node w ts,v,h=>by
   let⟨a,vs,b,h2,hs⟩:=hU.node h;subst b;exact hU.mkNode (e _ _ h2)<|fF.tups e hs
theorem fF.tups{H H':Hp}(e:cX H H'):∀{ts:List Tm}{vs:List V},fF H ts vs->fF H' ts vs
 |[],vs,h=>h
 |t::ts,vs,h=>by
  let⟨v,r,a,b,c⟩:=h;exact#[v,r,a,hU.tups e b,fF.tups e c]
end
theorem cx_w{scope:Scope}{E:XK}:(jX CX P w K mg base N qual scope f cd A outer s H E).w=w:=rfl
theorem bk_w{xs:List Str}{scope:Scope}{C:Addr}:(yH X xs ys scope C s₀ H₀ fp).w=X.w:=rfl
theorem xQ:W.kitOne K (.type T) (.type T)=some true:=by
 unfold W.kitOne;rw[aO (by simp)]
noncomputable def kitF(S T:String):Bool:=!(Value.type S==Value.type T)&&W.kitMeta T&&((PySem.fastBuiltinMro S).map (·.contains (.type T))==some false)
theorem ip{S:String}(h:kitF S T=true):W.kitOne K (.type S) (.type T)=some false:=by
 unfold kitF at h;simp only[bU,GU,cI]at h;unfold W.kitOne;rw[aH (by rw[h.1.1];decide)];show(if W.kitMeta T=true then W.subIn K (.type S) (.type T)else none)=_;rw[aO h.1.2];exact h.2
theorem mv:W.kitOne K (.type "tuple") (.type "int")=some false:=ip (by decide+kernel)
theorem SW:W.kitOne K (.type "int") (.type "bool")=some false:=ip (by decide+kernel)
theorem QT{P:Program}{w:World}{K:W.Frag}{mg:Str->Option Value}{base:Heap}{x:Str}{ps:List Str}{st:Stmt}{f:Addr}{fd:FuncData}{sp:Nat->Sp}(F:fR K x x st f fd)(b:Binds K fd ps [])(m:mg x=some (.ref f))
 (h0:∀vs H Q E,¬sp 0 vs H Q E) (step:∀n,gD P w K mg base n x ps (sp n)->cW P w K mg base fS (n+1) f fd ps (sp<|n+1)):∀n,cW P w K mg base fS n f fd ps<|sp n
 |0=>#[λvs H Q E h=>(h0 vs H Q E h).elim,λA outer s H args us vs Q E _ _ _ _ h=>(h0 vs H Q E h).elim]
 |n+1=>step n<|vY F (QT F b m h0 step n) b m
theorem uB(x:V)(xs:List V):uQ (x::xs) (some 1) none=xs:=by
 unfold uQ;let e:HT.sIx (x::xs).length 0 (some ((1:Nat):Int))=1:=by rw[HT.sIx_nat,bC];lia
 let e:HT.sIx (x::xs).length 0 (some 1)=1:=e;rw[e,HT.sIx_none,List.drop_one,List.tail_cons,aR (by rw[bC];lia)]
theorem qF(x:V)(xs:List V):¬(HT.sIx (x::xs).length 0 (some 1)=0/\HT.sIx (x::xs).length (x::xs).length none=(x::xs).length):=by
 let e:HT.sIx (x::xs).length 0 (some ((1:Nat):Int))=1:=by rw[HT.sIx_nat,bC];lia
 let e:HT.sIx (x::xs).length 0 (some 1)=1:=e;rw[e];lia
theorem aZ.tup{K:W.Frag}{H H':Hp}{a:Addr}{xs:List V}(e:aZ H H')(h:cV K H a xs):cV K H' a xs:=by
 rcases h with(h |⟨o,h⟩) |h
 ·exact .inl<|.inl<|e _ _ h
 ·exact .inl<|.inr #[o,e _ _ h]
 ·exact .inr h
theorem gG{x:α}{xs:List α}:pO (x::xs) 0=some x:=zU (j:=0) (xs:=x::xs) rfl
theorem mV{x y:α}{xs:List α}:pO (x::y::xs) 1=some y:=zU (j:=1) (xs:=x::y::xs) rfl
noncomputable def MR(p:Tm×Tm):Dt:=.tup [tL p.1,tL p.2]
noncomputable def VL(r:List (Tm×Tm)×(Tm×Tm)):Dt:=.tup [.lst<|r.1.map MR,MR r.2]
abbrev oB(H:Hp)(p:Tm×Tm)(v:V):Prop:=eE H (MR p) v
abbrev lS(H:Hp)(ps:List (Tm×Tm))(vs:List V):Prop:=bK H (ps.map MR) vs
abbrev WS(H:Hp)(r:List (Tm×Tm)×(Tm×Tm))(v:V):Prop:=eE H (VL r) v
theorem oB.out{p:Tm×Tm}(h:oB H p v):∃a v1 v2,v=.ref a/\H a=some (.tup [v1,v2])/\hU H p.1 v1/\hU H p.2 v2:=by
 let⟨a,vs,c,d,u,r,e,h1,f,g,i,h2,b⟩:=h;let b:g=[]:=b;subst b;subst i;subst e;exact#[a,u,f,c,d,h1,h2]
theorem WS.out{r:List (Tm×Tm)×(Tm×Tm)}(h:WS H r v):∃a l s vs,v=.ref a/\H a=some (.tup [.ref l,s])/\H l=some (.lst vs)/\lS H r.1 vs/\oB H r.2 s:=by
 let⟨a,vs,c,d,u,q,e,⟨l,ws,f,g,h1⟩,i,j,k,h2,b⟩:=h;let b:j=[]:=b;subst b;subst k;subst e;subst f;exact#[a,l,i,ws,c,d,g,h1,h2]
theorem lS.length{ps:List (Tm×Tm)}(h:lS H ps vs):vs.length=ps.length:=by
 have :=bK.length h;rw[aD]at this;exact this
theorem lS.snoc{ps:List (Tm×Tm)}{p:Tm×Tm}(ht:ps[i]?=some p)(h:lS H (ps.take i) vs)(h1:oB H p v):lS H (ps.take<|i+1) (vs++[v]):=by
 let⟨hi,e⟩:=aC.mp ht;unfold lS;rw[aJ hi,e,aQ];exact bK.append h<|bK.one h1
theorem lS.getV{ps:List (Tm×Tm)}(h:lS H ps vs)(hv:vs[i]?=some v):∃p,ps[i]?=some p/\oB H p v:=by
 let hi:i<ps.length:=by rw[←h.length];exact(aC.mp hv).1
 let⟨u,h1,h2⟩:=bK.get (d:=MR ps[i]) h (by rw[aF,aA hi];rfl);rw[hv]at h1;cases h1;exact#[_,aA hi,h2]
section
variable (K:W.Frag)
theorem uA(h:autoParam (X.K=K) a1._auto_1):o8 X (rIxL K):=by subst h;exact yB
theorem jS(h:autoParam (X.K=K) a1._auto_1):o8 X (rIxT K):=by subst h;exact kS
theorem ES(h:autoParam (X.K=K) a1._auto_1):oC X (compareOp .In) (rIn K false):=by subst h;exact LP
theorem MT(h:autoParam (X.K=K) a1._auto_1):jG X (.builtin "len") (λxs H Q=>pP xs λx=>∃n,o7 K x H n/\Q (.int n) H):=by subst h;exact CA
end
abbrev Cs:=List Nat
noncomputable def toS(s:Cs):Str:=#[s.toArray]
section
open PySem.Builtin PySem.Builtin.Str PySem.StrLaws
end
section
open PySem.Builtin PySem.Builtin.Str
structure lT(P:Program)(w:World)(K:W.Frag)(mg:Str->Option Value)(base:Heap)(k:Nat)(C:Addr)(m:Str)(ps:List Str)(sp:Sp):Prop where
 ex:∃f fd,cW P w K mg base fS k f fd ps sp/\Binds K fd ps []/\MZ K C m f
structure WH(P:Program)(w:World)(K:W.Frag)(mg:Str->Option Value)(base:Heap)(k:Nat)(C:Addr)(x:Str)(ps:List Str)(sp:Sp):Prop where
 ex:∃f fd,cW P w K mg base fS k f fd ps sp/\Binds K fd ps []/\Mk K C f/\mg x=some (.ref C)
section
variable {k:Nat} {C:Addr} {x m:Str} {p pos:Pos} {t:TA}
theorem xN{pl:Sem Bool}(h:lT X.prog X.w X.K X.mg X.base k C m ps sp)(c:KM X.K C)(hr:fV k X.A)(he:PE X o ta)(ha:PA X (e::es) t)
 (hst:autoParam (starEach (e::es) X.env=(false,eval e X.env)::starEach es X.env) a1._auto_1) (iK:autoParam ((backTo pos<|starEach es X.env).any (·.1)=false) a1._auto_1)
 (ht:autoParam (eval (.Call (.Attribute o m lP) (e::es) [] pos) X.env=(do
  let ov ←eval o X.env
  standAt lP.atName
  let (f,first) ←holding [ov] (getMethod ov m pl)
  callWith pos f first (backTo pos<|starEach (e::es) X.env) (backToKw pos<|keywordEach [] X.env))) a1._auto_1):
 PE X (.Call (.Attribute o m lP) (e::es) [] pos) (yK C m sp [] E0 ta t):=by
 let⟨f,fd,F,b,a⟩:=h.ex;exact bt (pl:=pl) he c a F hr b .nil RE ha hst iK ht
theorem AF(h:WH X.prog X.w X.K X.mg X.base k C x ps sp)(hr:fV (k+1) X.A)(hg:Gl X x)(ha:PA X (e::es) t)(hdb:autoParam ((x==("__debug__":Str))=false) a2._auto_1)
 (he:autoParam (starEach (e::es) X.env=(false,eval e X.env)::starEach es X.env) a1._auto_1) (iK:autoParam ((backTo pos<|starEach es X.env).any (·.1)=false) a1._auto_1):
 PE X (.Call (.Name x p) (e::es) [] pos) (GZ C sp [] E0 t):=by
 let⟨f,fd,F,b,M,m⟩:=h.ex;exact bu M F hr hg m b .nil RE ha hdb he iK
end
noncomputable def rdF(x:Cs)(k:Nat):List (Str×V):=[("text",.str<|toS x),("at",.int k)]
def RdAt(C:Addr)(H:Hp)(r:Addr)(x:Cs)(k:Nat):Prop:=∃dx,H r=some (.ins C dx<|rdF x k)
def fJ(r:Addr)(H H':Hp):Prop:=∀b o,H b=some o->b≠r->H' b=some o
theorem fJ.refl(r:Addr)(H:Hp):fJ r H H:=λ_ _ h _=>h
theorem fJ.trans{r:Addr}{H1 H2:Hp}(a:fJ r H H1)(b:fJ r H1 H2):fJ r H H2:=λc o h n=>b c o (a c o h n) n
theorem aZ.x{r:Addr}(a:aZ H H'):fJ r H H':=λc o h _=>a c o h
theorem fJ.upd{r:Addr}{H1:Hp}{o:HO}(a:fJ r H H1):fJ r H (L2.upd H1 r o):=λc o' h n=>by
 rw[zG n];exact a c o' h n
theorem fJ.tups{r:Addr}{C:Addr}{x:Cs}{k:Nat}(a:fJ r H H')(h:RdAt C H r x k):cX H H':=λb xs e=>by
 let⟨dx,h⟩:=h;exact a b _ e (jH e h (by intro z;cases z))
theorem F.lk_list_keys:typeLookup (.type "list") "keys"=pure none:=by rw[typeLookup_type,WY];kernel_rfl
theorem F.lk_list_ga:typeLookup (.type "list") "__getattr__"=pure none:=by rw[typeLookup_type,WY];kernel_rfl
theorem F.sub_ae:isSubtype (.type "AttributeError") (.type "AttributeError")=pure true:=by rw[isSubtype_type];kernel_rfl
def fe(h h':Heap)(e:Addr):Prop:=(∀b u,h.get? b=some u->h'.get? b=some u)/\∃o,h'.get? e=some o/\o.cls=.type "AttributeError"
section
variable {its:Array Value} {sl:Array (Option Value)}
theorem LG{o:Value}{name msg:Str}{Q:α->Shared->Prop}(hA:A.handled=none)(hm:msg.length<=sizeLine)
 (hq:∀h' t' e,fe s.heap h' e->E (.ref e) {s with heap:=h',toks:=t'}):wpAny (model prog w) A (raiseAttrError o name msg:Sem α) Q E s:=by
 unfold raiseAttrError;calc aE<|wpAny_mkStr (aE ?_) hm;unfold newExc newTuple;calc aE (dY ?_ (by size_fits));refine aE (m:=firstArgMember _ _) (wpAny_of_eq (a:=Value.none) (by
  simp only[firstArgMember];rw[show((Manifest.find? "AttributeError").elim false λt=>t.mro.contains "StopIteration" ||t.mro.contains "SystemExit")=false by decide+kernel];rfl) ?_)
 calc dY ?_ (by size_fits);calc aE<|wpAny_mkText ?_;calc aE ?_;let⟨h,g,d,t,os⟩:=s;dsimp only at hq⊢;let c:∀b u,h.get? b=some u->(h.push {cls:=Value.type "tuple",data:=Data.seq (List.toArray [Value.str msg t])}).get? b=some u:=λb u e=>aT _ e
 generalize h.push {cls:=Value.type "tuple",data:=Data.seq (List.toArray [Value.str msg t])}=h1 at c⊢;let f:=bR h1 (o:={cls:=Value.type "AttributeError",data:=Data.fields ((List.toArray [Value.ref h.objs.size,Value.none,Value.none,Value.none,Value.bool false,Value.none])++ownMembersOf (Value.type "AttributeError") [Value.str msg t])}) rfl;let i:∀b u,h1.get? b=some u->(h1.push {cls:=Value.type "AttributeError",data:=Data.fields ((List.toArray [Value.ref h.objs.size,Value.none,Value.none,Value.none,Value.bool false,Value.none])++ownMembersOf (Value.type "AttributeError") [Value.str msg t])}).get? b=some u:=λb u e=>aT _ e
 let nF:∀b u,h1.get? b=some u->b≠h1.objs.size:=λb u e=>bL<|bA e
 generalize h1.push {cls:=Value.type "AttributeError",data:=Data.fields ((List.toArray [Value.ref h.objs.size,Value.none,Value.none,Value.none,Value.bool false,Value.none])++ownMembersOf (Value.type "AttributeError") [Value.str msg t])}=h2 at f i⊢;generalize h1.objs.size=e at f nF⊢;let j:(#[h2,g,d,t+1+1,os]:Shared).TypeIs (.ref e) "AttributeError":=#[_,f,rfl]
 let k:=F.sub_ae;unfold noteAttr;dsimp only;calc aE ?_;unfold lacksNameAndObj;dsimp only;calc aE<|wpAny_isInstance j k ?_;rw[aH (by decide)];calc aE<|wpAny_load f ?_;dsimp only;rw[aH (by simp[ownMembersOf,unsetMember,rawInt]),aH (by simp[ownMembersOf,unsetMember,doubtfulMember,rawInt])];calc aS ?_;rw[aO rfl];calc aE<|WJ ?_;calc aE<|lL j ?_;dsimp only;unfold layMembers;calc aE<|wpAny_load f ?_;dsimp only;calc wpAny_update f ?_;calc wpAny_raiseNew_none hA (hq _ _ _ #[λb u hb=>?_,#[_,oM _ f<|Obj.isFreed_of_fields<|WL rfl _,Obj.cls_mapFields _ _]]);exact(nY _ _<|bX<|nF b u<|c b u hb).trans (i b u<|c b u hb)
end
section
variable {g:Array GenState} {d:Drawn} {t:Nat} {os:OsState} {its:Array Value} {sl:Array (Option Value)}
theorem UC{tk:Tok}{Q:PySem.Fin->Shared->Prop}(hA:A.handled=none)(hx:h.get? a=some #[.type "list",none,.seq its n,sl])
 (hq:∀h' t' e,fe h h' e->E (.ref e) #[h',g,d,t',os]):
 wpAny (model prog w) A (Builtin.«object.__getattribute__» #[[.ref a,.str "keys" tk],[]]) Q E #[h,g,d,t,os]:=by
 let b:(#[h,g,d,t,os]:Shared).TypeIs (.ref a) "list":=#[_,hx,rfl]
 let c:=F.lk_list_keys
 repeat (any_goals (first |assumption |wp_step))
 exact LG hA (by decide+kernel) hq
theorem BG{tk:Tok}(hA:A.handled=none)(hx:h.get? a=some #[.type "list",none,.seq its n,sl])
 (hq:∀h' t' e,fe h h' e->R (.error<|.ref e) #[h',g,d,t',os]):
 codeAny (model prog w) A (.call (.builtin "list.__getattribute__") #[[.ref a,.str "keys" tk],[]]) R #[h,g,d,t,os]:=
 GL gJ.plain F.entry_list_ga (gJ.check _ _ _ _ _ _ _ _ (show(#[h,g,d,t,os]:Shared).TypeIs (.ref a) "list" from#[_,hx,rfl]) (F.args_list_getattribute_2 _ _)<|UC hA hx hq)
theorem MA{tk:Tok}(hA:A.handled=none)(hx:h.get? a=some #[.type "list",none,.seq its n,sl])
 (hq:∀h' t' e,fe h h' e->E (.ref e) #[h',g,d,t',os]):wpAny (model prog w) A (getAttrBy (.ref a) (.str "keys" tk) false) Q E #[h,g,d,t,os]:=by
 let f:(#[h,g,d,t,os]:Shared).TypeIs (.ref a) "list":=#[_,hx,rfl]
 let i:=gJ.lookup;let j:=gJ.bind<|.ref a;let k:=F.lk_list_ga;let l:=F.sub_ae
 repeat (any_goals (first |assumption |wp_step))
 refine BG hA hx λh' t' e b=>?_
 let c:(#[h',g,d,t',os]:Shared).TypeIs (.ref e) "AttributeError":=b.2
 repeat (any_goals (first |assumption |exact hq _ _ _ b |wp_step))
theorem RZ{Q:Option Value->Shared->Prop}(hA:A.handled=none)(hx:h.get? a=some #[.type "list",none,.seq its n,sl])
 (hq:∀h' t',(∀b u,h.get? b=some u->h'.get? b=some u)->Q none #[h',g,d,t',os]):wpAny (model prog w) A (getAttr? (.ref a) "keys") Q E #[h,g,d,t,os]:=by
 unfold getAttr? getAttrBy?;calc aE (wpAny_mkText<|aE<|rM<|MA hA hx λh' t' e f=>?_);dsimp only;let c:(#[h',g,d,t',os]:Shared).TypeIs (.ref e) "AttributeError":=f.2;calc aE<|wpAny_isInstance c F.sub_ae ?_;rw[aO rfl];exact aS<|hq _ _ f.1
end
theorem F.plain_dul:plainId "dict.update.loop"=true:=by decide+kernel
theorem F.entry_dul:entryFor table "dict.update.loop"=some Builtin.«dict.update.loop»:=entryFor_of_tree (by kernel_rfl)
section
variable {Kt:Type} [DecidableEq Kt] {knd:KeyKind prog w Kt}
theorem tP{kvs:List (Kt×Value)}(hn:(kvs.map (·.1)).Nodup){k:Kt}{v:Value}(h:kvs[i]?=some (k,v)):stored (kvs.take i) k v=kvs.take (i+1):=by
 let⟨c,b⟩:=aC.mp h;let a:(kvs.take i).any (λkv=>kv.1=k)=false:=by
  rw[dH];intro z;let⟨x,hx,hk⟩:=fD.mp z;let hk:x.1=k:=by simpa using hk
  let⟨j,d,e⟩:=cS hx;rw[bH]at d;rw[GP]at e;exact cL.mp hn j i (by rw[aD];lia) (by rw[aD];lia) () (by simp[e,b,hk])
 unfold stored;rw[a,aJ c,b];rfl
theorem EL{its:Array Value}{kvs:List (Kt×Value)}{h0:Heap}(hA:A.handled=none)(hdi:d≠it)(hl:h0.IsList l its)(hd0:∀u,h0.get? d≠some u)(hi0:∀u,h0.get? it≠some u)
 (hn:(kvs.map (·.1)).Nodup) (hsz:kvs.length<=sizeLine) (eO:its.size=kvs.length) (hp:∀(i:Nat)(k:Kt)(v:Value),kvs[i]?=some (k,v)->∃(a:Addr)(key:Value),its[i]?=some (Value.ref a)/\IsTup h0 a (List.toArray [key,v])/\knd.is k key=true):
 ∀(m i:Nat)(t:Tok)(s:Shared),kvs.length-i=m->i<=kvs.length->s.heap.IsListIter it l i->s.heap.DictOf knd d (kvs.take i)->(∀b u,h0.get? b=some u->s.heap.get? b=some u)->
 (∀h' t',(∀b u,h0.get? b=some u->h'.get? b=some u)->h'.DictOf knd d kvs->R (.ok<|.ret .none) {s with heap:=h',toks:=t'})->
 codeAny (model prog w) A (.builtin "dict.update.loop" #[[.ref d,.ref it,.int i t,.none],[]]) R s:=by
 intro m
 induction m with
 |zero=>
  intro i t s hm hi e hd hk y;let mS:i=kvs.length:=by lia
  subst mS;let iH:s.heap.IsList l its:=by let⟨o,f,r⟩:=hl;exact#[o,hk _ _ f,r]
  calc pC F.entry_dul ?_;rw[oZ F.plain_dul _];show wpAny _ A.in1 (pyNext (.ref it) >>= _) _ _ s;calc aE (CW (A:=A.in1) hA e iH (by rw[fu];lia) λh' he=>?_);rw[aR<|aG _]at hd;show wpAny _ A.in1 (Builtin.Dict.addKeywords d [] >>= _) _ _ _;refine aE (aS<|aS<|y h' s.toks (λb u hb=>he b u (λz=>hi0 u (by rw[←z];calc hb))<|hk b u hb)<|hd.extBut he hdi)
 |succ m H=>
  intro i t s hm hi e hd hk y;let lR:i<kvs.length:=by lia
  let iH:s.heap.IsList l its:=by let⟨o,f,r⟩:=hl;exact#[o,hk _ _ f,r]
  let⟨a,key,ha,ht,g⟩:=hp i kvs[i].1 kvs[i].2 (aA lR);calc pC F.entry_dul ?_;rw[oZ F.plain_dul _];show wpAny _ A.in1 (pyNext (.ref it) >>= _) _ _ s;calc aE (sK (A:=A.in1) e iH ha λh1 h j=>?_);let n:∀b u,h0.get? b=some u->h1.get? b=some u:=λb u hb=>(j.2 b λz=>hi0 u (by rw[←z];calc hb)).trans (hk b u hb)
  let B:h1.DictOf knd d (kvs.take i):=hd.sameBut j hdi;let⟨J,C,D,K,E⟩:=ht;let c:=n _ _ C;let I:({s with heap:=h1}:Shared).TypeIs (.ref a) "tuple":=#[_,c,D]
  calc aE<|dI<|aE ?_;calc wpAny_tryCatch ?_;unfold Builtin.Dict.pairItems;calc aE<|lL I ?_;rw[aO (by decide)];calc aE<|wpAny_seqItems c E<|aS ?_;calc dI (wpAny_dictSet_pairs (kvs:=kvs.take i) g B (λh2 p q=>?_) (by rw[bH];lia));rw[tP hn<|show kvs[i]?=some (kvs[i].1,kvs[i].2)from aA lR]at p;calc aS #[NO F.plain_dul _,?_];let G:∀b u,h0.get? b=some u->h2.get? b=some u:=λb u hb=>(q.2 b λz=>hd0 u (by rw[←z];calc hb)).trans (n b u hb)
  let x:h2.IsListIter it l (i+1):=by let⟨o,f,r⟩:=h;exact#[o,(q.2 _<|bX hdi).trans f,r]
  exact H (i+1) _ {s with heap:=h2,toks:=s.toks+1} () lR x p G y
theorem ZK{its:Array Value}{kvs:List (Kt×Value)}(hA:A.handled=none)(hl:PlainL s.heap l its)
 (hn:(kvs.map (·.1)).Nodup) (hsz:kvs.length<=sizeLine) (eO:its.size=kvs.length) (hp:∀(i:Nat)(k:Kt)(v:Value),kvs[i]?=some (k,v)->∃(a:Addr)(key:Value),its[i]?=some (Value.ref a)/\IsTup s.heap a (List.toArray [key,v])/\knd.is k key=true)
 (h:∀h' t',(∀b u,s.heap.get? b=some u->h'.get? b=some u)->h'.DictOf knd s.heap.objs.size kvs->Q (.ref s.heap.objs.size) {s with heap:=h',toks:=t'}):
 wpAny (model prog w) A (call (.type "dict") [.ref l]) Q E s:=by
 calc callType_codes (Q₁:=λobj s₁=>obj=.ref s.heap.objs.size/\s₁={s with heap:=s.heap.push {cls:=.type "dict",data:=.dict (List.toArray [])}}) F.kt_called_dict (fj _) F.entry_dict_init (kt_code_dict_new _ #[rfl,rfl]) ?_;rintro obj s₁ ⟨rfl,rfl⟩;let c:(s.heap.push {cls:=.type "dict",data:=.dict (List.toArray [])}).DictOf knd s.heap.objs.size []:=Heap.DictOf.new s.heap;calc#[c.typeIs,F.args_dict_init_2 _ _,?_];let⟨K,N,q,n,r,x⟩:=hl;let f:(s.heap.push {cls:=.type "dict",data:=.dict (List.toArray [])}).get? l=some K:=aT _ q;let L:({s with heap:=s.heap.push {cls:=.type "dict",data:=.dict (List.toArray [])}}:Shared).TypeIs (.ref l) "list":=#[_,f,n]
 unfold Builtin.«dict.__init__»;calc aE ?_;unfold Builtin.Dict.selfAndRest;calc aE<|oH c.typeIs ?_;show wpAny _ _ (pure (s.heap.objs.size,[Value.ref l])) _ _ _;calc aS ?_;show wpAny _ _ (Builtin.Dict.updateFrom "dict.__init__" s.heap.objs.size (.ref l) [] .none) _ _ _;unfold Builtin.Dict.updateFrom;calc aE<|lL L ?_;rw[aO (by decide)];let p:∀b u,s.heap.get? b=some u->(s.heap.push {cls:=.type "dict",data:=.dict (List.toArray [])}).get? b=some u:=λb u e=>aT _ e
 let y:∀u,s.heap.get? s.heap.objs.size≠some u:=λu z=>dO _<|bA z
 let⟨j,g,d,t,os⟩:=s;dsimp only at *;generalize j.push {cls:=.type "dict",data:=.dict (List.toArray [])}=h1 at c f L p⊢;generalize j.objs.size=D at c y h⊢;let⟨O,P,R,S⟩:=K;dsimp only at n r x;subst n r x;calc aE (RZ (A:=A.in1.in1) hA f λh2 T m=>?_);rw[aO (by rfl)];calc aE<|WJ ?_;let G:h2.IsList l its:=#[_,m _ _ f,rfl,_,rfl]
 calc aE<|rE G ?_;calc aS #[NO F.plain_dul _,?_];let B:=c.keep m;let C:∀u,j.get? h2.objs.size≠some u:=λu z=>dO _<|bA<|m _ _<|p _ _ z
 let H:D≠h2.objs.size:=λz=>by
  let⟨o,_,_,M,_⟩:=B;exact dO _ (by have :=bA M;rw[z]at this;calc this)
 refine EL (h0:=j) (kvs:=kvs) (A:=A.in1) hA H #[_,q,rfl,_,rfl] y C hn hsz eO hp kvs.length 0 _ _ () (cO _) #[_,bR _ rfl,rfl,rfl] (B.push _) (λb u hb=>aT _<|m _ _<|p _ _ hb) λh' t' I J=>?_
 exact#[rfl,h h' t' I J]
end
theorem AJ{P:Program}{w:World}{h:Heap}:∀(kvs:List (eR×V))(as:List Addr),(∀(i:Nat)(k:eR)(v:V),kvs[i]?=some (k,v)->∃a its,as[i]?=some a/\cY [kV k,v] its/\IsTup h a its.toArray)->
 ∃vs:List (eR×Value),KV kvs vs/\∀(i:Nat)(k:eR)(v:Value),vs[i]?=some (k,v)->∃(a:Addr)(key:Value),as[i]?=some a/\IsTup h a (List.toArray [key,v])/\(zT P w).is k key=true
 |[],as,_=>#[[],.nil,λi k v e=>by simp at e]
 |(k,v)::kvs,as,d=>by
  let⟨a,its,h1,h2,f⟩:=d 0 k v rfl;cases as with
  |nil=>simp at h1
  |cons a0 as=>
   simp at h1;subst h1;let⟨g,j,rfl,l,rv⟩:=h2.two;let⟨vs,g1,g2⟩:=AJ (P:=P) (w:=w) kvs as λi k v e=>by
    let⟨a,its,b,c⟩:=d (i+1) k v (by simpa using e);exact#[a,its,by simpa using b,c]
   calc#[(k,j)::vs,.cons #[rfl,rv] g1,λi m v' e=>?_];cases i with
   |zero=>
    simp at e;let⟨rfl,rfl⟩:=e;exact#[a0,g,rfl,f,XC l]
   |succ i=>
    let⟨a,key,b,c⟩:=g2 i m v' (by simpa using e);exact#[a,key,by simpa using b,c]
theorem UF{κ:Type}:∀{kvs:List (κ×V)}{vs:List (κ×Value)},KV kvs vs->vs.map (·.1)=kvs.map (·.1)
 |_,_,.nil=>rfl
 |_,_,.cons h r=>by rw[bV,bV,UF r,h.1]
theorem XL:jG X (.type "dict") (λxs H Q=>iz X.calm (pP xs λx=>nZ x λp=>∃as:List Addr,dB X.K H p (as.map V.ref)/\∃kvs:List (eR×V),as.length=kvs.length/\(kvs.map (·.1)).Nodup/\
 (∀(i:Nat)(k:eR)(v:V),kvs[i]?=some (k,v)->∃a,as[i]?=some a/\cV X.K H a [kV k,v])/\∀l,H l=none->Q (.ref l) (upd H l<|.dK kvs))):=by
 intro aI s σ H xs us Q I r h;replace h:=MW h;let⟨hc,h⟩:=h;replace h:=kE h;let⟨y,rfl,h⟩:=h;replace h:=xG h;let⟨p,rfl,as,hp,kvs,eO,hn,hk,q⟩:=h;let⟨u,rfl,g⟩:=qU r;cases g;let⟨its,rv,hl,hz⟩:=I.list hp;let lY:=rv.length;rw[aD]at lY hz;let⟨vs,g1,g2⟩:=AJ (P:=X.prog) (w:=X.w) (h:=s.heap) kvs as λi k v e=>by
  let⟨a,b,c⟩:=hk i k v e;let⟨its,j,m,_⟩:=I.tuple c;exact#[a,its,b,j,m]
 let n:kvs.length=vs.length:=eY g1;refine ZK (knd:=zT X.prog X.w) (kvs:=vs) (I.ok.hd hc) hl (by rw[UF g1];calc hn) () (by rw[aM];lia) (λi k v e=>?_) λh' t' d f=>?_
 ·let⟨a,key,b,c,t⟩:=g2 i k v e;let⟨u,h1,h2⟩:=rv.get (i:=i) (x:=V.ref a) (by rw[aF,b];rfl);cases h2;exact#[a,key,by simpa using h1,c,t]
 ·exact#[.ref s.heap.objs.size,_,I.laid (a:=s.heap.objs.size) (o:=.dK kvs) (t':=t') d (aG _)<|VG () (cA.mpr<|bX<|bL I.big) g1 f,rfl,q _<|I.hok.fresh<|aG _]
end
section
open PySem.W
section
variable {r:Addr} {P:Nat->Value->Prop} {OK:Heap->Prop}
theorem HC:∀{vs:List Value}{ss:List Str},vs.length=ss.length->(∀(i:Nat)(v:Value)(x:Str),vs[i]?=some v->ss[i]?=some x->∃t,v=.str x t)->StrsAre vs ss
 |[],[],_,_=>.nil
 |[],_::_,h,_=>by simp at h
 |_::_,[],h,_=>by simp at h
 |v::vs,x::ss,h,a=>by
  let⟨t,rfl⟩:=a 0 v x rfl rfl;exact .cons x t (HC (by simpa using h) λi v' b h1 h2=>a (i+1) v' b (by simpa using h1) (by simpa using h2))
theorem JH:∀{vs:List Value}{ss:List Str},StrsAre vs ss->cY (ss.map V.str) vs
 |_,_,.nil=>.nil
 |_,_,.cons y t h=>.cons #[t,rfl]<|JH h
theorem DT(K:KdlSrc prog w T r d n P OK)(hh:A.handled=none)(hok:OK s.heap)(hn:n<64){ss:List Str}(hl:ss.length=n)(hP:∀(i:Nat)(v:Value)(x:Str),P i v->ss[i]?=some x->∃t,v=.str x t)
 (h:∀(h1 h':Heap)(tk:Nat)(vs':List Value)(ss':List Str)(e:Nat),(∀b o,s.heap.get? b=some o->h1.get? b=some o)->(∀b o,h1.get? b=some o->h'.get? b=some o)->h'.get? h1.objs.size=some {cls:=.type "list",data:=.seq vs'.toArray e}->StrsAre vs' ss'->ss'.Perm ss->sortedS ss'=true->Q (.ref h1.objs.size) {s with heap:=h',toks:=tk}):
 wpAny (model prog w) A (call (.builtin "sorted") [.ref r]) Q E s:=by
 let hs:sizeLine=16777216:=dJ;calc Calls.call_function_entry kind_sorted plain_sorted entry_sorted (args_sorted1 _) ?_;unfold Builtin.«sorted»;calc aE (m:=checkCount "sorted" 1 1 _)<|aS ?_;calc aE (kdu_collect (A:=A.in1) K hh hok () λh' tk acc hk a=>?_);let j:acc.toList.length=n:=by rw[dQ];exact a.1
 let g:StrsAre acc.toList ss:=HC () λi v x h1 h2=>hP i v x (a.2 i v (by rw[←hZ];calc h1)) h2
 generalize acc.toList=vs at j g;calc aE<|wpAny_newList ?_ ();let c:(h'.push<|seqObj "list" vs.toArray 0).get? h'.objs.size=some (seqObj "list" vs.toArray 0):=bR _ rfl;show wpAny _ _ _ _ _ {s with heap:=h'.push (seqObj "list" vs.toArray 0),toks:=tk};calc aE (dI<|gU slot_list_sort #[_,c,rfl] entry_list_sort (list_sort_treeK (A:=A.in1.in1) strKind_oneLt c g.keysOf (λv₁ v₂ gY e=>keyKind_strs (by rw[←e];calc g)) () λk l p=>#[_,rfl,?_])<|args_list_sort _);let⟨ss',h1,h2,q⟩:=sorted_out_str g l p;let⟨e,he⟩:=sortedHeap_at (out:=(arrOf k).map (·.2)) c;calc aS #[_,rfl,h h' _ tk _ ss' e hk (λb o f=>?_) (by rw[rS];calc he) h1 h2 q];let lR:=bA f;rw[sortedHeap_old (bL lR) (by rw[size_push'];calc iE lR)];exact aT _ f
end
theorem US:jG X (.builtin "sorted") (λxs H Q=>iz X.calm (pP xs λx=>nZ x λp=>∃kvs:List (eR×V),H p=some (.dK kvs)/\∃zs:List Str,kvs.map (·.1)=zs.map Sum.inr/\zs.length<64/\
 ∀l mW,H l=none->mW.Perm zs->sortedS mW=true->Q (.ref l) (upd H l<|.lst<|mW.map V.str))):=by
 intro aI s σ H xs us Q I r h;replace h:=MW h;let⟨hc,h⟩:=h;replace h:=kE h;let⟨G,rfl,h⟩:=h;replace h:=xG h;let⟨p,rfl,kvs,hp,zs,hk,m,q⟩:=h;let⟨u,rfl,n⟩:=qU r;cases n;let⟨z,hd,vs,rel,dd⟩:=ZD I.hok<|.inl hp;let⟨ep,d⟩:=dd.dictAt;let A:kvs.length=vs.length:=eY rel;let B:kvs.length=zs.length:=by have :=cQ List.length hk;rwa[aD,aD]at this
 let b:vs.map (·.1)=zs.map Sum.inr:=(UF rel).trans hk;refine DT (kdl_dict (knd:=zT X.prog X.w) (kvs:=vs) (ep:=ep) hd) (I.ok.hd hc) d () (ss:=zs) () (λi v x C hx=>?_) λh1 h' tk vs' c e k1 k2 D E mK f=>?_
 ·let⟨k,y,h1,h2⟩:=C;let g:(vs.map (·.1))[i]?=some k:=by rw[aF,h1];rfl
  rw[b,aF,hx]at g;cases g;let h2:XB (.inr x) v=true:=h2;rcases yL h2 with⟨_,_,e,_⟩ |⟨J,t,e,F⟩
  ·cases e
  ·cases e;exact#[t,F]
 ·let j:Inv X aI σ H {s with heap:=h1,toks:=tk}:=I.kept k1;let eO:c.length=zs.length:=mK.length_eq;exact#[.ref h1.objs.size,_,j.laid (a:=h1.objs.size) (o:=.lst<|c.map V.str) (t':=tk) k2 (aG _) #[by rw[aD,dJ];lia,vs',e,JH E,D],rfl,q _ _ (j.hok.fresh<|aG _) mK f]
theorem FS(l:Addr)(cT:Array Value)(n:Nat)(b:Addr)(dd:Option Addr)(sl:Array (Option Value))(gK:Array Value)(n2:Nat)(hs0:¬(!cT.isEmpty&&Builtin.List.listTooLong (cT.size+gK.size))=true)(hs1:cT.size<=sizeLine)(hs2:cT.size+gK.size<=sizeLine+1):
 Meets (Builtin.«list.extend» #[[.ref l,.ref b],[]]) (λ_ R s=>s.heap.get? l=some {cls:=.type "list",dict:=none,data:=.seq cT n,slots:= (List.toArray [])}/\s.heap.get? b=some #[.type "tuple",dd,.seq gK n2,sl]/\R (.ok<|.ret Value.none) {s with heap:=s.heap.update l (Obj.mapSeq λx=>x++gK),toks:=s.toks}):=
 .of_wp λprog w A R s h=>by
  let⟨hp,g,d,tk,os⟩:=s;let⟨hl,hb,h⟩:=h;let c:=PySem.AutoSeq1.sub_tuple_tuple;let e:=PySem.AutoSeq1.sub_tuple_list;let a:(cT++gK).size<=sizeLine+1:=by rw[Array.size_append];exact hs2
  wp_walk using(wpAny_updateSeq hl rfl (hz:=hs1) (_hz':=a)),NF hl,NF hb
  exact#[_,rfl,h]
def wJ(K:W.Frag):V->List V->Hp->VK->Prop:=λx vs H Q=>nZ x λl=>pP vs λz=>nZ z λb=>∃xs,H l=some (.lst xs)/\∃zs,cV K H b zs/\xs.length+zs.length<=sizeLine/\Q .non (upd H l<|.lst<|xs++zs)
theorem vW:MtM X "list.extend" (wJ X.K):=by
 intro aI s σ H x vs v us Q I k rv h;replace h:=xG h;let⟨l,rfl,h⟩:=h;replace h:=kE h;let⟨x,rfl,h⟩:=h;replace h:=xG h;let⟨b,rfl,xs,f,zs,m,hz,q⟩:=h;cases k;let⟨u,rfl,o⟩:=rv.one;cases o;let⟨z,its,n,r,hl,e⟩:=I.lstM f;let⟨a,g,⟨p,t,i,w,j⟩,A⟩:=I.tuple m;let⟨k1,k2,k3,k4⟩:=p;dsimp only at i j;subst i j;let y:=g.length;let d:its.toArray.size+a.toArray.size<=sizeLine:=by rw[aM,aM];lia
 let c:¬(!its.toArray.isEmpty&&Builtin.List.listTooLong (its.toArray.size+a.toArray.size))=true:=by
  rw[YU d,mH];exact aY
 refine sM gC #[_,e,rfl] F.entry_list_extend (F.args_list_extend_2 _ _)
  (FS l its.toArray n b k2 k4 a.toArray w c (by rw[aM];lia) ()) #[e,t,?_]
 calc#[.non,_,I.lset (its':=its++a) f e (by simp) (r.append g) ?_,rfl,q];rw[aK];lia
end
section
variable {I:Addr} {wr:List Addr} {P:Nat->Value->Prop} {St:Nat->Shared->Prop}
end
section
open PySem.SeqAt
mutual
noncomputable def iS:Dt->Dt->Bool
 | .non,.non=>true
 | .bl a,.bl b=>a==b
 | .int a,.int b=>a==b
 | .bl a,.int b=>(if a then 1 else 0)==b
 | .int a,.bl b=>a==(if b then 1 else 0)
 | .str a,.str b=>a==b
 | .tup xs,.tup ys=>vH xs ys
 | .lst xs,.lst ys=>vH xs ys
 |_,_=>false
noncomputable def vH:List Dt->List Dt->Bool
 |[],[]=>true
 |x::xs,y::ys=>iS x y&&vH xs ys
 |_,_=>false
end
mutual
theorem yT:∀d:Dt,iS d d=true
 | .non=>rfl
 | .bl a=>by simp[iS]
 | .int a=>by simp[iS]
 | .str a=>by simp[iS]
 | .tup ds=>by rw[iS];exact kU ds
 | .lst ds=>by rw[iS];exact kU ds
theorem kU:∀ds:List Dt,vH ds ds=true
 |[]=>rfl
 |d::ds=>by rw[vH,yT d,kU ds];rfl
end
noncomputable def rH(xs ys:List Dt)(j:Nat):Bool:=
 match xs[j]?,ys[j]? with
 |some x,some y=>iS x y
 |_,_=>false
theorem jV:∀xs ys:List Dt,((List.range<|min xs.length ys.length).all (rH xs ys)&&xs.length==ys.length)=vH xs ys
 |[],[]=>rfl
 |[],y::ys=>by simp[vH]
 |x::xs,[]=>by simp[vH]
 |x::xs,y::ys=>by
  rw[vH,←jV xs ys,bC,bC,Nat.succ_min_succ,List.range_succ_eq_map,List.all_cons,gR];let a:rH (x::xs) (y::ys) 0=iS x y:=rfl;let b:rH (x::xs) (y::ys) ∘ Nat.succ=rH xs ys:=by funext j;simp[rH]
  rw[a,b,Bool.and_assoc]
  congr 2
  rw[bZ];simp
mutual
theorem eE.one_of{H:Hp}:∀{d d':Dt}{v:V},eE H d v->eE H d' v->d=d'
 |d,.non,v,h,h'=>by let h':v=.non:=h';subst h';cases d<;>simp_all [eE]
 |d,.bl b,v,h,h'=>by let h':v=.bl b:=h';subst h';cases d<;>simp_all [eE]
 |d,.int b,v,h,h'=>by let h':v=.int b:=h';subst h';cases d<;>simp_all [eE]
 |d,.str b,v,h,h'=>by let h':v=.str b:=h';subst h';cases d<;>simp_all [eE]
 |d,.tup iI,v,h,h'=>by
  let⟨a,vs,rfl,g,i⟩:=h';cases d with
  |tup ds=>
   let⟨j,vs',e,c,f⟩:=h;cases e;rw[g]at c;cases c;rw[bK.one_of f i]
  |lst ds=>
   let⟨j,vs',e,c,f⟩:=h;cases e;rw[g]at c;cases c
  |_=>cases h
 |d,.lst iI,v,h,h'=>by
  let⟨a,vs,rfl,g,i⟩:=h';cases d with
  |lst ds=>
   let⟨j,vs',e,c,f⟩:=h;cases e;rw[g]at c;cases c;rw[bK.one_of f i]
  |tup ds=>
   let⟨j,vs',e,c,f⟩:=h;cases e;rw[g]at c;cases c
  |_=>cases h
theorem bK.one_of{H:Hp}:∀{ds iI:List Dt}{vs:List V},bK H ds vs->bK H iI vs->ds=iI
 |ds,[],vs,h,h'=>by
  let h':vs=[]:=h';subst h';cases ds with
  |nil=>rfl
  |cons d ds=>let⟨v,r,e,_⟩:=h;cases e
 |ds,g::iI,vs,h,h'=>by
  let⟨v,r,rfl,c,f⟩:=h';cases ds with
  |nil=>cases h
  |cons d ds=>
   let⟨v',i,e,a,b⟩:=h;cases e;rw[eE.one_of a c,bK.one_of b f]
end
theorem bK.tup_of(ok:iX P w H s.heap)(h:H a=some (.tup vs)):∃its:List Value,cY vs its/\s.heap.IsTuple a its.toArray:=by
 let⟨z,its,r,p⟩:=ok a _ h;exact#[its,r,p]
theorem bK.lst_of(ok:iX P w H s.heap)(h:H a=some (.lst vs)):∃its:List Value,cY vs its/\s.heap.IsList a its.toArray:=by
 let⟨z,its,n,r,p⟩:=ok a _ h;exact#[its,r,_,p,rfl,n,rfl]
theorem xH:∀{xs:List V}{us:List Value}{i:Nat}{x:V}{u:Value},cY xs us->xs[i]?=some x->us[i]?=some u->RelV x u
 |_,_,_,_,_,.nil,h,_=>by simp at h
 |_,_,0,_,_,.cons r q,h,h'=>by
  simp at h h';subst h;subst h';exact r
 |_,_,i+1,_,_,.cons r q,h,h'=>xH q (by simpa using h) (by simpa using h')
theorem tW(ok:iX P w H s.heap)(ih:∀{A:Around}{d d':Dt}{v v':V}{u u':Value},eE H d v->eE H d' v'->RelV v u->RelV v' u'->jY n d->A.units+n<cLine->EqAt A s u u' (iS d d'))
 {l':Addr} {iI:List Dt} {vs':List V} (hs:bK H ds vs) (hs':bK H iI vs') (rv:cY vs its) (rv':cY vs' its') (hl:s.heap.IsList l its.toArray) (iH:s.heap.IsList l' its'.toArray)
 (f:∀d∈ds,jY n d) (hu:A.units+(n+1)<cLine):RcAt A s (.ref l) (.ref l') (vH ds iI):=by
 let k1:=hs.length;let k2:=hs'.length;let k3:=rv.length;let k4:=rv'.length;by_cases hz:ds.length=iI.length
 ·let key:=RcAt.lists (A:=A) (e:=rH ds iI) hl iH (by rw[aM,aM];lia) () λj h1 h2=>?_
  ·rw[←jV,hz,Nat.min_self,dE,tE];rw[aM]at key;rw[show iI.length=its.length by lia];exact key
  ·rw[aM]at h1 h2;let b:j<ds.length:=by lia
   let a:j<iI.length:=by lia
   let⟨x,c,g⟩:=hs.get<|aA b;let⟨y,h,i⟩:=hs'.get<|aA a;let k:rH ds iI j=iS ds[j] iI[j]:=by unfold rH;rw[aA b,aA a]
   rw[k];refine ih g i ?_ ?_ (f _<|bW b) (by show A.units+1+n<cLine;lia)
   ·exact xH rv c (by rw[dD];calc aA h1)
   ·exact xH rv' h (by rw[dD];calc aA h2)
 ·let hf:vH ds iI=false:=by rw[←jV,show(ds.length==iI.length)=false by simpa using hz,mH]
  rw[hf];exact RcAt.lists_lengths hl iH (by rw[aM,aM];simp;lia) ()
theorem VI(ok:iX P w H s.heap){d:Dt}{u':Value}(h:eE H d v)(r:RelV v u)(r':RelV v u'):EqAt A s u u' true:=by
 cases d with
 |non=>have h:v=.non:=h;subst h;cases r;cases r';exact EqAt.same _
 |bl a=>have h:v=.bl a:=h;subst h;cases r;cases r';exact EqAt.same _
 |int a=>
  let h:v=.int a:=h;subst h;let⟨t,rfl⟩:=r;let⟨t',rfl⟩:=r';have :=EqAt.int_int (A:=A) (s:=s) a t a t';rwa[dE]at this
 |str a=>
  let h:v=.str a:=h;subst h;let⟨t,rfl⟩:=r;let⟨t',rfl⟩:=r';have :=EqAt.str_str (A:=A) (s:=s) a t a t';rwa[dE]at this
 |tup ds=>let⟨l,vs,rfl,_⟩:=h;cases r;cases r';exact EqAt.same _
 |lst ds=>let⟨l,vs,rfl,_⟩:=h;cases r;cases r';exact EqAt.same _
inductive pf (H:Hp) (h:Heap):Dt->Value->Prop
 |non:pf H h .non .none
 |bl (b:Bool):pf H h (.bl b) (.bool b)
 |int (i:Int) (t:Tok):pf H h (.int i) (.int i t)
 |str (x:Str) (t:Tok):pf H h (.str x) (.str x t)
 |tup (l:Addr) (ds:List Dt) (vs:List V) (its:List Value) (hs:bK H ds vs) (rv:cY vs its) (hl:h.IsTuple l its.toArray):pf H h (.tup ds) (.ref l)
 |lst (l:Addr) (ds:List Dt) (vs:List V) (its:List Value) (hs:bK H ds vs) (rv:cY vs its) (hl:h.IsList l its.toArray):pf H h (.lst ds) (.ref l)
theorem dsh(ok:iX P w H s.heap){d:Dt}(h:eE H d v)(r:RelV v u):pf H s.heap d u:=by
 cases d with
 |non=>cases (show v=.non from h);cases r;exact .non
 |bl b=>cases (show v=.bl b from h);cases r;exact .bl b
 |int i=>cases (show v=.int i from h);let⟨t,rfl⟩:=r;exact .int i t
 |str x=>cases (show v=.str x from h);let⟨t,rfl⟩:=r;exact .str x t
 |tup ds=>
  let⟨l,vs,rfl,e,hs⟩:=h;cases r;let⟨its,rv,hl⟩:=bK.tup_of ok e;exact .tup l ds vs its hs rv hl
 |lst ds=>
  let⟨l,vs,rfl,e,hs⟩:=h;cases r;let⟨its,rv,hl⟩:=bK.lst_of ok e;exact .lst l ds vs its hs rv hl
set_option maxHeartbeats 2000000 in
theorem UJ(ok:iX P w H s.heap){d d':Dt}{v':V}{u':Value}(h:eE H d v)(h':eE H d' v')(r:RelV v u)(r':RelV v' u')(hu:A.units<cLine)(hk:∀ds iI,¬(d=.tup ds/\d'=.tup iI)/\¬(d=.lst ds/\d'=.lst iI)):EqAt A s u u' (iS d d'):=by
 cases dsh ok h r<;>cases dsh ok h' r'<;>simp only[iS]<;>first |exact absurd #[rfl,rfl] (hk _ _).1 |exact absurd #[rfl,rfl] (hk _ _).2 |with_reducible first |exact EqAt.same _ |exact EqAt.none_bool _ |exact EqAt.none_int _ _ |exact EqAt.none_str _ _ |exact EqAt.none_tuple ‹_› hu |exact EqAt.none_list ‹_› hu |exact EqAt.bool_none _ |exact EqAt.bool_bool _ _ |exact EqAt.bool_int _ _ _ |exact EqAt.bool_str _ _ _ |exact EqAt.bool_tuple _ ‹_› hu |exact EqAt.bool_list _ ‹_› hu |exact EqAt.int_none _ _ |exact EqAt.int_bool _ _ _ |exact EqAt.int_int _ _ _ _ |exact EqAt.int_str _ _ _ _ |exact EqAt.int_tuple _ _ ‹_› hu |exact EqAt.int_list _ _ ‹_› hu |exact EqAt.str_none _ _ |exact EqAt.str_bool _ _ _ |exact EqAt.str_int _ _ _ _ |exact EqAt.str_str _ _ _ _ |exact EqAt.str_tuple _ _ ‹_› hu |exact EqAt.str_list _ _ ‹_› hu |exact EqAt.tuple_none ‹_› hu |exact EqAt.tuple_bool _ ‹_› hu |exact EqAt.tuple_int _ _ ‹_› hu |exact EqAt.tuple_str _ _ ‹_› hu |exact EqAt.tuple_list ‹_› ‹_› hu |exact EqAt.list_none ‹_› hu |exact EqAt.list_bool _ ‹_› hu |exact EqAt.list_int _ _ ‹_› hu |exact EqAt.list_str _ _ ‹_› hu |exact EqAt.list_tuple ‹_› ‹_› hu
theorem XJ(ok:iX P w H s.heap):∀(n:Nat){A:Around}{d d':Dt}{v v':V}{u u':Value},eE H d v->eE H d' v'->RelV v u->RelV v' u'->jY n d->A.units+n<cLine->EqAt A s u u' (iS d d'):=by
 intro n
 induction n with
 |zero=>
  intro A d d' v v' u u' h h' r c f hu;exact UJ ok h h' r c hu λds iI=>#[λe=>by rw[e.1]at f;exact f,λe=>by rw[e.1]at f;calc f]
 |succ n o=>
  intro A d d' v v' u u' h h' r c f hu;by_cases g:v=v'
  ·subst g;rw[eE.one_of h h',yT];let hd:d=d':=eE.one_of h h';subst hd;let hx:=VI ok (A:=A) h r c;exact hx
  cases d with
  |tup ds=>
   cases d' with
   |tup iI=>
    let⟨l,vs,rfl,e,hs⟩:=h;let⟨l',vs',rfl,k,a⟩:=h';cases r;cases c;let⟨its,rv,hl⟩:=bK.tup_of ok e;let⟨its',b,iH⟩:=bK.tup_of ok k;let k1:=hs.length;let k2:=a.length;let k3:=rv.length;let k4:=b.length;let key:=RcAt.tuples (A:=A) (e:=rH ds iI) hl iH () λj h1 h2=>?_
    ·simp only[iS];rw[←jV];calc EqAt.of_refs (λz=>g (by rw[z])) ?_;rw[aM,aM]at key;rw[←k1,←k2,k3,k4];exact key
    ·rw[aM]at h1 h2;let m:j<ds.length:=by lia
     let i:j<iI.length:=by lia
     let⟨x,p,q⟩:=hs.get<|aA m;let⟨y,t,B⟩:=a.get<|aA i;let C:rH ds iI j=iS ds[j] iI[j]:=by unfold rH;rw[aA m,aA i]
     rw[C];refine o q B ?_ ?_ (f.2 _<|bW m) (by show A.units+1+n<cLine;lia)
     ·exact xH rv p (by rw[dD];calc aA h1)
     ·exact xH b t (by rw[dD];calc aA h2)
   |_=>exact UJ ok h h' r c () λds iI=>#[λe=>(by cases e.2),λe=>(by cases e.1)]
  |lst ds=>
   cases d' with
   |lst iI=>
    let⟨l,vs,rfl,e,hs⟩:=h;let⟨l',vs',rfl,k,a⟩:=h';cases r;cases c;let⟨its,rv,hl⟩:=bK.lst_of ok e;let⟨its',b,iH⟩:=bK.lst_of ok k;simp only[iS];exact EqAt.of_refs (λz=>g (by rw[z]))<|tW ok o hs a rv b hl iH f.2 hu
   |_=>exact UJ ok h h' r c () λds iI=>#[λe=>(by cases e.1),λe=>(by cases e.2)]
  |_=>exact UJ ok h h' r c () λds iI=>#[λe=>(by cases e.1),λe=>(by cases e.1)]
end
section
open PySem.SeqAt
theorem cx_P{scope:Scope}{E:XK}:(jX CX P w K mg base N qual scope f cd A outer s H E).prog=P:=rfl
end
end L2
namespace L2
open PySem PySem.Spec PyProof.Rows PySem.SeqAt
variable {a d l:Addr} {A:Around} {G:Array GenState->Array GenState->Prop} {X:Cx} {D:CQ} {e tg:Expr} {h':Heap} {H:Hp} {aI:List (Addr×Obj)} {ch fp:List Addr} {ds:List Dt} {es:List Expr} {js:List Nat} {ns:List Str} {vs xs:List V} {its its':List Value} {n t':Nat} {P prog:Program} {K:W.Frag} {R:Result->Shared->Prop} {s:Shared} {σ:St} {T:String} {ta te:TE} {tb:TS} {v:V} {u:Value} {E Q:Value->Shared->Prop} {w:World}
local macro_rules | `(()) => `(by lia)
theorem bd(ok:iX P w H s.heap)(ih:∀{A:Around}{d d':Dt}{v v':V}{u u':Value},eE H d v->eE H d' v'->RelV v u->RelV v' u'->jY n d->A.units+n<cLine->EqAt A s u u' (iS d d'))
 {l':Addr} {iI:List Dt} {vs':List V} (hs:bK H ds vs) (hs':bK H iI vs') (rv:cY vs its) (rv':cY vs' its') (hl:s.heap.IsTuple l its.toArray) (iH:s.heap.IsTuple l' its'.toArray)
 (f:∀d∈ds,jY n d) (hu:A.units+(n+1)<cLine):RcAt A s (.ref l) (.ref l') (vH ds iI):=by
 let k1:=hs.length;let k2:=hs'.length;let k3:=rv.length;let k4:=rv'.length;let at_:∀j (h1:j<its.toArray.size) (h2:j<its'.toArray.size),EqAt A.in1 s its.toArray[j] its'.toArray[j] (rH ds iI j):=λj h1 h2=>by
  rw[aM]at h1 h2;let b:j<ds.length:=by lia
  let a:j<iI.length:=by lia
  let⟨x,c,g⟩:=hs.get<|aA b;let⟨y,h,i⟩:=hs'.get<|aA a;let k:rH ds iI j=iS ds[j] iI[j]:=by unfold rH;rw[aA b,aA a]
  rw[k];refine ih g i ?_ ?_ (f _<|bW b) (by show A.units+1+n<cLine;lia)
  ·exact xH rv c (by rw[dD];calc aA h1)
  ·exact xH rv' h (by rw[dD];calc aA h2)
 let key:=RcAt.tuples (A:=A) (e:=rH ds iI) hl iH () at_;rw[aM,aM]at key;rw[←jV,←k1,←k2,k3,k4];exact key
theorem bb(ok:iX P w H s.heap)(ih:∀{A:Around}{d d':Dt}{v v':V}{u u':Value},eE H d v->eE H d' v'->RelV v u->RelV v' u'->jY n d->A.units+n<cLine->EqAt A s u u' (iS d d'))
 {l':Addr} {iI:List Dt} {vs':List V} (hs:bK H ds vs) (hs':bK H iI vs') (rv:cY vs its) (rv':cY vs' its') (hl:s.heap.IsTuple l its.toArray) (iH:s.heap.IsTuple l' its'.toArray)
 (f:∀d∈ds,jY n d) (hu:A.units+(n+1)<cLine):RcNeAt A s (.ref l) (.ref l') (!vH ds iI):=by
 let k1:=hs.length;let k2:=hs'.length;let k3:=rv.length;let k4:=rv'.length;let at_:∀j (h1:j<its.toArray.size) (h2:j<its'.toArray.size),EqAt A.in1 s its.toArray[j] its'.toArray[j] (rH ds iI j):=λj h1 h2=>by
  rw[aM]at h1 h2;let b:j<ds.length:=by lia
  let a:j<iI.length:=by lia
  let⟨x,c,g⟩:=hs.get<|aA b;let⟨y,h,i⟩:=hs'.get<|aA a;let k:rH ds iI j=iS ds[j] iI[j]:=by unfold rH;rw[aA b,aA a]
  rw[k];refine ih g i ?_ ?_ (f _<|bW b) (by show A.units+1+n<cLine;lia)
  ·exact xH rv c (by rw[dD];calc aA h1)
  ·exact xH rv' h (by rw[dD];calc aA h2)
 let key:=RcNeAt.tuples (A:=A) (e:=rH ds iI) hl iH () at_;rw[aM,aM]at key;rw[←jV,←k1,←k2,k3,k4];exact key
theorem OU(ok:iX P w H s.heap)(ih:∀{A:Around}{d d':Dt}{v v':V}{u u':Value},eE H d v->eE H d' v'->RelV v u->RelV v' u'->jY n d->A.units+n<cLine->EqAt A s u u' (iS d d'))
 {l':Addr} {iI:List Dt} {vs':List V} (hs:bK H ds vs) (hs':bK H iI vs') (rv:cY vs its) (rv':cY vs' its') (hl:s.heap.IsList l its.toArray) (iH:s.heap.IsList l' its'.toArray)
 (f:∀d∈ds,jY n d) (hu:A.units+(n+1)<cLine):RcNeAt A s (.ref l) (.ref l') (!vH ds iI):=by
 let k1:=hs.length;let k2:=hs'.length;let k3:=rv.length;let k4:=rv'.length;let at_:∀j (h1:j<its.toArray.size) (h2:j<its'.toArray.size),EqAt A.in1 s its.toArray[j] its'.toArray[j] (rH ds iI j):=λj h1 h2=>by
  rw[aM]at h1 h2;let b:j<ds.length:=by lia
  let a:j<iI.length:=by lia
  let⟨x,c,g⟩:=hs.get<|aA b;let⟨y,h,i⟩:=hs'.get<|aA a;let k:rH ds iI j=iS ds[j] iI[j]:=by unfold rH;rw[aA b,aA a]
  rw[k];refine ih g i ?_ ?_ (f _<|bW b) (by show A.units+1+n<cLine;lia)
  ·exact xH rv c (by rw[dD];calc aA h1)
  ·exact xH rv' h (by rw[dD];calc aA h2)
 by_cases hz:ds.length=iI.length
 ·let key:=RcNeAt.lists (A:=A) (e:=rH ds iI) hl iH (by rw[aM,aM];lia) () at_;rw[←jV,hz,Nat.min_self,dE,tE];rw[aM]at key;rw[show iI.length=its.length by lia];exact key
 ·let hf:vH ds iI=false:=by rw[←jV,show(ds.length==iI.length)=false by simpa using hz,mH]
  rw[hf];exact RcNeAt.lists_lengths hl iH (by rw[aM,aM];simp;lia) ()
set_option maxHeartbeats 2000000 in
theorem rc_at(ok:iX P w H s.heap){d d':Dt}{v':V}{u':Value}(h:eE H d v)(h':eE H d' v')(r:RelV v u)(r':RelV v' u')(f:jY (n+1) d)(hu:A.units+(n+1)<cLine):RcAt A s u u' (iS d d'):=by
 let mO:A.units<cLine:=by lia
 cases dsh ok h r<;>cases dsh ok h' r'<;>simp only[iS,Bool.not_false,Bool.not_true]<;>first |exact bd ok (XJ ok n) ‹_› ‹_› ‹_› ‹_› ‹_› ‹_› f.2 hu |exact tW ok (XJ ok n) ‹_› ‹_› ‹_› ‹_› ‹_› ‹_› f.2 hu |with_reducible first |exact RcAt.none_none |exact RcAt.none_bool _ |exact RcAt.none_int _ _ |exact RcAt.none_str _ _ |exact RcAt.none_tuple ‹_› mO |exact RcAt.none_list ‹_› mO |exact RcAt.bool_none _ |exact RcAt.bool_bool _ _ |exact RcAt.bool_int _ _ _ |exact RcAt.bool_str _ _ _ |exact RcAt.bool_tuple _ ‹_› mO |exact RcAt.bool_list _ ‹_› mO |exact RcAt.int_none _ _ |exact RcAt.int_bool _ _ _ |exact RcAt.int_int _ _ _ _ |exact RcAt.int_str _ _ _ _ |exact RcAt.int_tuple _ _ ‹_› mO |exact RcAt.int_list _ _ ‹_› mO |exact RcAt.str_none _ _ |exact RcAt.str_bool _ _ _ |exact RcAt.str_int _ _ _ _ |exact RcAt.str_str _ _ _ _ |exact RcAt.str_tuple _ _ ‹_› mO |exact RcAt.str_list _ _ ‹_› mO |exact RcAt.tuple_none ‹_› mO |exact RcAt.tuple_bool _ ‹_› mO |exact RcAt.tuple_int _ _ ‹_› mO |exact RcAt.tuple_str _ _ ‹_› mO |exact RcAt.tuple_list ‹_› ‹_› mO |exact RcAt.list_none ‹_› mO |exact RcAt.list_bool _ ‹_› mO |exact RcAt.list_int _ _ ‹_› mO |exact RcAt.list_str _ _ ‹_› mO |exact RcAt.list_tuple ‹_› ‹_› mO
set_option maxHeartbeats 2000000 in
theorem rn_at(ok:iX P w H s.heap){d d':Dt}{v':V}{u':Value}(h:eE H d v)(h':eE H d' v')(r:RelV v u)(r':RelV v' u')(f:jY (n+1) d)(hu:A.units+(n+1)<cLine):RcNeAt A s u u' (!iS d d'):=by
 let mO:A.units<cLine:=by lia
 cases dsh ok h r<;>cases dsh ok h' r'<;>simp only[iS,Bool.not_false,Bool.not_true]<;>first |exact bb ok (XJ ok n) ‹_› ‹_› ‹_› ‹_› ‹_› ‹_› f.2 hu |exact OU ok (XJ ok n) ‹_› ‹_› ‹_› ‹_› ‹_› ‹_› f.2 hu |with_reducible first |exact RcNeAt.none_none |exact RcNeAt.none_bool _ |exact RcNeAt.none_int _ _ |exact RcNeAt.none_str _ _ |exact RcNeAt.none_tuple ‹_› mO |exact RcNeAt.none_list ‹_› mO |exact RcNeAt.bool_none _ |exact RcNeAt.bool_bool _ _ |exact RcNeAt.bool_int _ _ _ |exact RcNeAt.bool_str _ _ _ |exact RcNeAt.bool_tuple _ ‹_› mO |exact RcNeAt.bool_list _ ‹_› mO |exact RcNeAt.int_none _ _ |exact RcNeAt.int_bool _ _ _ |exact RcNeAt.int_int _ _ _ _ |exact RcNeAt.int_str _ _ _ _ |exact RcNeAt.int_tuple _ _ ‹_› mO |exact RcNeAt.int_list _ _ ‹_› mO |exact RcNeAt.str_none _ _ |exact RcNeAt.str_bool _ _ _ |exact RcNeAt.str_int _ _ _ _ |exact RcNeAt.str_str _ _ _ _ |exact RcNeAt.str_tuple _ _ ‹_› mO |exact RcNeAt.str_list _ _ ‹_› mO |exact RcNeAt.tuple_none ‹_› mO |exact RcNeAt.tuple_bool _ ‹_› mO |exact RcNeAt.tuple_int _ _ ‹_› mO |exact RcNeAt.tuple_str _ _ ‹_› mO |exact RcNeAt.tuple_list ‹_› ‹_› mO |exact RcNeAt.list_none ‹_› mO |exact RcNeAt.list_bool _ ‹_› mO |exact RcNeAt.list_int _ _ ‹_› mO |exact RcNeAt.list_str _ _ ‹_› mO |exact RcNeAt.list_tuple ‹_› ‹_› mO
def bh:R2:=λx y H Q=>∃n d,eE H d x/\∃d',eE H d' y/\jY (n+1) d/\n<=60/\Q (.bl<|iS d d') H
def lu:R2:=λx y H Q=>∃n d,eE H d x/\∃d',eE H d' y/\jY (n+1) d/\n<=60/\Q (.bl<|!iS d d') H
theorem kM(hu:X.A.units+64<cLine):oC X (compareOp .Eq) bh:=by
 intro aI s σ H x y v u Q I a b h;let⟨n,d,h1,c,h2,f,hn,q⟩:=h;exact rc_at I.hok h1 h2 a b f () X.prog X.w _ _<|zR I q rfl
theorem EO(hu:X.A.units+64<cLine):oC X (compareOp .NotEq) lu:=by
 intro aI s σ H x y v u Q I a b h;let⟨n,d,h1,c,h2,f,hn,q⟩:=h;exact rn_at I.hok h1 h2 a b f () X.prog X.w _ _<|zR I q rfl
def LH(neg:Bool):R2:=λx y H Q=>∃n d,eE H d x/\∃ds,(eE H (.lst ds) y\/eE H (.tup ds) y)/\(∀e∈ds,jY n e)/\n<=60/\Q (.bl<|neg^^ds.any λe=>iS e d) H
open Classical in
theorem UG{d:Dt}(hs:bK H ds vs)(rv:cY vs its)(e:Value->Bool)(he:∀y,e y=decide (∃d' v',eE H d' v'/\RelV v' y/\iS d' d=true)):its.toArray.any e=ds.any λe=>iS e d:=by
 rw[List.any_toArray]
 induction ds generalizing vs its with
 |nil=>
  let hs:vs=[]:=hs;subst hs;cases rv;rfl
 |cons c ds f=>
  let⟨v,r,rfl,a,g⟩:=hs;cases rv with
  |cons b rt=>
   rename_i u us
   rw[hG,hG,f g rt,he]
   congr 1
   rw[bZ,bS];constructor
   ·rintro⟨d',v',h,i,j⟩;have :=RelV.inj i b;subst this;rw[eE.one_of a h];exact j
   ·intro q;exact#[c,v,a,b,q]
open Classical in
theorem BP(ok:iX P w H s.heap){d:Dt}{x:V}(hs:bK H ds vs)(rv:cY vs its)(hx:eE H d x)(ru:RelV x u)(f:∀e∈ds,jY n e)(hu:A.units+(n+1)<cLine)
 (y:Value) (hy:y∈its.toArray):EqAt A.in1 s y u (decide (∃d' v',eE H d' v'/\RelV v' y/\iS d' d=true)):=by
 let⟨j,g,e⟩:=cS (show y∈its by simpa using hy);let k1:=hs.length;let k2:=rv.length;let a:j<ds.length:=by lia
 let⟨v,h,b⟩:=hs.get<|aA a;let c:RelV v y:=xH rv h (by rw[aA g,e]);have :decide (∃d' v',eE H d' v'/\RelV v' y/\iS d' d=true)=iS ds[j] d:=by
  rw[bZ,bS];constructor
  ·rintro⟨d',v',i,k,l⟩;have :=RelV.inj k c;subst this;rw[eE.one_of b i];exact l
  ·intro q;exact#[_,v,b,c,q]
 rw[this];exact XJ ok n b hx c ru (f _<|bW a) (by show A.units+1+n<cLine;lia)
theorem RM(hu:X.A.units+64<cLine):oC X (compareOp .In) (LH false):=by
 intro aI s σ H x y v u Q I a b h;let⟨n,d,hx,ds,hy,f,hn,q⟩:=h;rw[Bool.false_xor]at q;rcases hy with⟨l,vs,rfl,e,hs⟩ |⟨l,vs,rfl,e,hs⟩
 ·cases b;let⟨its,rv,hl⟩:=bK.lst_of I.hok e;calc in_listAt _ hl (BP I.hok hs rv hx a f ())<|zR I q ?_;exact(UG hs rv _ λ_=>rfl).symm
 ·cases b;let⟨its,rv,hl⟩:=bK.tup_of I.hok e;calc in_tupleAt _ hl (BP I.hok hs rv hx a f ())<|zR I q ?_;exact(UG hs rv _ λ_=>rfl).symm
theorem kL(hu:X.A.units+64<cLine):oC X (compareOp .NotIn) (LH true):=by
 intro aI s σ H x y v u Q I a b h;let⟨n,d,hx,ds,hy,f,hn,q⟩:=h;rw[Bool.true_xor]at q;rcases hy with⟨l,vs,rfl,e,hs⟩ |⟨l,vs,rfl,e,hs⟩
 ·cases b;let⟨its,rv,hl⟩:=bK.lst_of I.hok e;calc notIn_listAt _ hl (BP I.hok hs rv hx a f ())<|zR I q ?_;rw[UG hs rv _ λ_=>rfl]
 ·cases b;let⟨its,rv,hl⟩:=bK.tup_of I.hok e;calc notIn_tupleAt _ hl (BP I.hok hs rv hx a f ())<|zR I q ?_;rw[UG hs rv _ λ_=>rfl]
section
open PySem.SeqAt
theorem Inv.turnedL(I:Inv X aI σ H s)(k:∀b o,b∉ch->s.heap.get? b=some o->h'.get? b=some o)(hf:∀b∈ch,kX X aI H b):Inv X aI σ H {s with heap:=h',toks:=t'}:=by
 let nit:∀b u,H b=some u->b∉ch:=λb u e z=>by rw[(hf b z).1]at e;cases e
 let a:X.env.locals∉ch:=λz=>(hf _ z).2.1 rfl
 refine I.step (g':=s.gens) (d':=s.drawn) (ch:=ch) (λb hb=>?_) (λb o _ _ hc e _=>k b o hc e) (λb o _ _ hc e _=>#[o.slots,k b o hc e]) (λ_ _ _ _ n=>n) (λb o hc e=>#[o,k b o hc e]) (λ_ _ e=>e) (λ_ _ _ e=>e) (λb ps e=>#[(List.toArray []),by rw[e];simp]) (λm hm=>?_) (λb u e=>?_) I.bare
 ·let⟨j,d,l,f,g,h⟩:=hf b hb;exact#[f,d,g,h]
 ·let⟨o,es,ep,i,r⟩:=hm;exact#[o,es,ep,k _ o a i,r]
 ·refine(I.hok b u e).stay (λc v hc q=>k c v ?_ q) (λ_ q=>q) λ_ _ q=>q
  rcases hc with z |z
  ·rw[z];exact nit b u e
  ·exact nit c _ z
theorem Inv.turnedN{p:Addr}{o:HO}(I:Inv X aI σ H s)(k:∀b o,b∉ch->s.heap.get? b=some o->h'.get? b=some o)(hf:∀b∈ch,kX X aI H b)(hp:s.heap.objs.size<=p)(new:eT X.prog X.w (upd H p o) h' p o):
 Inv X aI σ (upd H p o) {s with heap:=h',toks:=t'}:=by
 let nit:∀b u,H b=some u->b∉ch:=λb u e z=>by rw[(hf b z).1]at e;cases e
 let a:X.env.locals∉ch:=λz=>(hf _ z).2.1 rfl
 let hn:=I.hok.fresh hp;let nep:∀{b:Addr}{u:HO},H b=some u->b≠p:=λe z=>by rw[z,hn]at e;cases e
 refine I.step (g':=s.gens) (d':=s.drawn) (ch:=ch) (λb hb=>?_) (λb o _ _ hc e _=>k b o hc e) (λb o _ _ hc e _=>#[o.slots,k b o hc e]) (λb u _ e n=>?_) (λb o hc e=>#[o,k b o hc e]) (λ_ _ e=>by rw[zG<|nep e];calc e) (λ_ _ _ e=>by rw[zG<|nep e];calc e) (λb ps e=>#[(List.toArray []),by rw[zG<|nep e,e];simp]) (λm hm=>?_) (λb u e=>?_) I.bare
 ·let⟨j,d,l,f,g,h⟩:=hf b hb;exact#[f,d,g,h]
 ·rw[zG<|bL<|bQ (bA e) hp];exact n
 ·let⟨o,es,ep,i,r⟩:=hm;exact#[o,es,ep,k _ o a i,r]
 ·by_cases hb:b=p
  ·subst hb;rw[zA]at e;cases e;exact new
  ·rw[zG hb]at e;refine(I.hok b u e).stay (λc v hc q=>k c v ?_ q) (λc q=>by rw[zG<|nep q];calc q) λc _ q=>by rw[zG<|nep q];exact q
   rcases hc with z |z
   ·rw[z];exact nit b u e
   ·exact nit c _ z
end
section
open PySem.SeqAt
theorem XA{lo:Int}{g:TG}{tc:TT}{Q:VK}(Pv:Nat->List V->St->Hp->Prop)(h0:Pv 0 [] (kQ ns js σ) H)(hz:n<=sizeLine)(hl:∀i ys σ H,Pv i ys σ H->ys.length<=i)
 (hs:∀(i:Nat) ys σ H (C:V->St->Hp->Prop) (D:St->Hp->Prop),i<n->Pv i ys σ H->(∀y σ2 H3,Pv (i+1) (ys++[y]) σ2 H3->C y σ2 H3)->(∀σ2 H3,Pv (i+1) ys σ2 H3->D σ2 H3)->
  g (.int<|lo+i) σ H λσ2 H2=>tc σ2 H2 λb H3=>if b=true then te σ2 H3 λy H4=>C y σ2 H4 else D σ2 H3)
 (hd:∀ys σ H,Pv n ys σ H->∀p,H p=none->Q (.ref p) (upd H p<|.lst ys)):
 WU (WG lo n) ns js g (some tc) te σ H Q:=by
 calc#[λi m ys σ H=>m=n-i/\i<=n/\Pv i ys σ H,#[n,(),cO _,h0],λi m ys σ1 H1 z=>?_];let⟨hm,hi,hp⟩:=z;by_cases h:i<n
 ·refine .inr #[h,?_,λx H' ⟨e,hx⟩=>?_]
  ·have :=hl i ys σ1 H1 hp;lia
  ·subst e;subst hx;exact hs i ys σ1 _ _ _ h hp (λy σ2 H3 q=>#[n-(i+1),(),rfl,(),q]) λσ2 H3 q=>#[n-(i+1),(),rfl,(),q]
 ·let e:i=n:=by lia
  subst e;exact .inl #[aG _,hd ys σ1 H1 hp]
end
section
open PySem.SeqAt
inductive Rw where
 |no |nm (x:Str) |bo (i j:Int)
noncomputable def sE:Rw->Dt
 | .no=>.tup [.str "none"]
 | .nm x=>.tup [.str "name",.str x]
 | .bo i j=>.tup [.str "both",.int i,.int j]
abbrev Pr:=Int×Int
noncomputable def NH(p:Pr):Dt:=.tup [.int p.1,.int p.2]
abbrev zZ:=List Pr×Pr
noncomputable def ix(r:zZ):Dt:=.tup [.lst<|r.1.map NH,NH r.2]
inductive Wt where
 |n (i:Int) |ps (l:List Int)
noncomputable def dWt:Wt->Dt
 | .n i=>.int i
 | .ps l=>.tup<|l.map .int
structure Ln where
 i:Int
 j:Int
 w:Str
 as:List Wt
noncomputable def XY(w:Str)(as:List Wt):Dt:=.tup (.str w::as.map dWt)
noncomputable def n6(l:Ln):Dt:=.tup [.int l.i,.int l.j,XY l.w l.as]
noncomputable def JB(b:Int):Wt->Bool
 | .n i=>decide (0<=i)&&decide (i<b)
 | .ps _=>false
noncomputable def oO(rows:List Rw)(n:Int):List Int:=if n % 2=0 then(match rows[(n/2).toNat]? with |some (.bo i j)=>[i,j] |_=>[])else []
noncomputable def jA(ls:List Ln)(k:Nat):Wt->Option Pr
 | .n i=>if 0<=i/\i<k then(ls[i.toNat]?).map λl=>(l.i,l.j)else none
 | .ps _=>none
noncomputable def rO(n:Int):Int:=n+1-2*(n % 2)
noncomputable def II(w:Str):Option Int:=
 if w="same" then some 0 else if w="edge" then some 0 else if w="part" then some 0 else if w="both" then some 2 else if w="turn" then some 1 else if w="chain" then some 2 else if w="clash" then some 1 else none
noncomputable def yN(rows:List Rw)(i j:Int)(w:Str)(sd:List Pr):Bool:=
 if w="same" then i==j
 else if w="edge" then i==0 ||j==1
 else if w="part" then(oO rows i).any λx=>x==j
 else if w="both" then(match oO rows j with |[a,b]=>sd==[(i,a),(i,b)] |_=>false)
 else if w="turn" then sd==[(rO j,rO i)]
 else if w="chain" then(match sd with |[p,q]=>p.1==i&&p.2==q.1&&q.2==j |_=>false)
 else sd==[(i,rO i)]
noncomputable def vA(rules:List zZ)(ls:List Ln)(k:Nat)(l:Ln):Bool:=
 match l.as with
 |[.n r,.ps ps]=>if 0<=r/\r<rules.length then(match rules[r.toNat]? with |some q=>(l.i,l.j)==q.2&&(ps.map λp=>jA ls k<|.n p)==q.1.map some |none=>false)else false
 |_=>false
noncomputable def xV(rows:List Rw)(rules:List zZ)(ls:List Ln)(k:Nat)(l:Ln):Bool:=
 if¬(0<=l.i/\l.i<2*rows.length)\/¬(0<=l.j/\l.j<2*rows.length)then false
 else if l.w="rule" then vA rules ls k l
 else if II l.w=some (l.as.length:Int)/\(l.as.all λa=>(jA ls k a).isSome)=true then yN rows l.i l.j l.w (l.as.filterMap<|jA ls k)
 else false
theorem tF(n:Int):Builtin.bitXor n 1=rO n:=by
 rw[bitXor_and];unfold rO;rw[bitAnd_m1]
end
section
open PySem.SeqAt
theorem KQ{t sl:Addr}{cT:Array Value}{vl vu:Value}{lo hi:Option Int}(ht:IsTup s.heap t cT)(hs:s.heap.IsSliceOf sl vl vu .none)(pl:IsPart vl lo)(pu:IsPart vu hi)
 (hw:HT.sIx cT.size 0 lo=0/\HT.sIx cT.size cT.size hi=cT.size) (h:Q (.ref t) s):wpAny (model prog w) A (getItem (.ref t)<|.ref sl) Q E s:=by
 let⟨os,b,mT,d⟩:=id hs;let c:s.TypeIs (.ref sl) "slice":=#[os,b,mT]
 unfold getItem
 try with_reducible refine dI ?_
 first |refine aE (aS ?_) |skip
 calc aE (wpAny_sequenceKey ht.typeIs (by decide)<|aE<|mU (name:=Str.ofString "__getitem__") ht.typeIs dX<|gU dX ht.typeIs entry_tuple_getitem ?_<|args_tuple_getitem _ _);calc aE (m:=Builtin.Tuple.tupleItemsOf<|.ref t)<|tupleItemsOf_ ht<|aE<|lL c ?_;rw[aO (by decide)];calc aE<|HT.sliceApplied_gen hs pl pu ?_;let a:((((HT.sIx cT.size 0 lo:Nat):Int)==0&&(1:Int)==1&&(HT.sIx cT.size cT.size hi-HT.sIx cT.size 0 lo)==cT.size)=true):=by
  rw[hw.1,hw.2];simp
 show wpAny _ _ (if(((HT.sIx cT.size 0 lo:Nat):Int)==0&&(1:Int)==1&&(HT.sIx cT.size cT.size hi-HT.sIx cT.size 0 lo)==cT.size)=true then _ else _) _ _ s;rw[aO a];let e:=ht.typeIs
 wp_walk
 exact#[_,rfl,aS h]
def rSlG:V->Option Int->Option Int->Hp->VK->Prop:=λx lo hi H Q=>nZ x λa=>∃xs,H a=some (.tup xs)/\∀p H',aZ H H'->H' p=some (.tup<|uQ xs lo hi)->Q (.ref p) H'
theorem a7:SlR X rSlG:=by
 intro aI s σ H x v f g lo hi sl Q I c hs pl d h;replace h:=xG h;let⟨a,rfl,xs,hx,q⟩:=h;by_cases b:HT.sIx xs.length 0 lo=0/\HT.sIx xs.length xs.length hi=xs.length
 ·cases c;let⟨its,r,ht,hz⟩:=I.tuple<|cV.of hx;let eO:its.toArray.size=xs.length:=by rw[aM];exact r.length.symm
  calc#["tuple",_,dX.lookup,ht.typeIs,?_];calc KQ ht hs pl d (by rw[eO];calc b) #[.ref a,H,I,rfl,q a H (aZ.refl H) ?_];let e:uQ xs lo hi=xs:=by
   unfold uQ;rw[b.1,b.2,rR,Nat.sub_zero,aR<|aG _]
  rw[e];exact hx
 ·exact YG aI s σ H _ v f g lo hi sl Q I c hs pl d #[xs,cV.of hx,b,λp hp=>q p _ (zB hp _) zA]
end
section
open PySem.SeqAt
def HP:V->List V->Hp->VK->Prop:=λx vs H Q=>∃(l:Addr)(us:List V)(ds:List Dt)(v:V)(d:Dt)(n j:Nat),x=.ref l/\vs=[v]/\H l=some (.lst us)/\bK H ds us/\eE H d v/\(∀e∈ds,jY n e)/\n<=60/\ds.length<=1000000/\(∃d',ds[j]?=some d'/\iS d' d=true)/\(∀(m:Nat)(d':Dt),m<j->ds[m]?=some d'->iS d' d=false)/\Q (.int j) H
open Classical in
theorem MB(hu:X.A.units+64<cLine):MtM X "list.index" HP:=by
 intro aI s σ H x vs v us Q I p rv h;let⟨l,ws,ds,y,d,n,j,rfl,rfl,t,a,hd,hf,hn,J,⟨b,w,c⟩,f,q⟩:=h;cases p;let⟨u,rfl,z⟩:=rv.one;let⟨hz,its,m,r,hl,e⟩:=I.lstM t;let k1:=a.length;let k2:=r.length;let⟨K,B⟩:=aC.mp w;let at_:∀m (hm:m<its.length),decide (∃b v',eE H b v'/\RelV v' its[m]/\iS b d=true)=iS (ds[m]'()) d:=λm hm=>by
  let g:m<ds.length:=by lia
  let⟨v,C,k⟩:=a.get<|aA g;let o:RelV v its[m]:=xH r C<|aA hm;rw[bZ,bS];constructor
  ·rintro⟨b,v',D,E,G⟩;have :=RelV.inj E o;subst this;rw[eE.one_of k D];exact G
  ·intro q;exact#[_,v,k,o,q]
 let i:j<its.toArray.size:=by rw[aM];lia
 let M:=PySem.SeqAt.list_indexAt l its.toArray m none (List.toArray []) u (λy=>decide (∃b v',eE H b v'/\RelV v' y/\iS b d=true)) j i () (by
  rw[dD,at_ j (),B];calc c) (λm hm lR=>by
  rw[dD,at_ m (by simpa using hm)];calc f m _ lR<|aA (by have :m<its.length:=(by simpa using hm);lia))
 refine sM F.slot_list_index #[_,e,rfl] F.entry_list_index (F.args_list_index_2 _ _) M #[e,λy hy=>?_,?_]
 ·exact BP I.hok a r hd z hf () y hy
 ·exact#[.int j,H,I.tok _,#[_,rfl],q]
end
section
variable {I:Addr} {wr:List Addr} {P:Nat->Value->Prop} {St:Nat->Shared->Prop}
end
section
open PySem.SeqAt PySem.W
section
variable {r:Addr} {P:Nat->Value->Prop} {OK:Heap->Prop}
end
end
section
open PySem.SeqAt
def Ite(a:Addr):It:=
 #[λi H=>∃xs x,H a=some (.lst xs)/\xs[i]?=some x,
  λi H v H'=>∃p x,v=.ref p/\H p=none/\H'=upd H p (.tup [.int i,x])/\∀xs,H a=some (.lst xs)->xs[i]?=some x,
  λi H=>∃xs,H a=some (.lst xs)/\xs.length<=i]
def Eat(e it l:Addr)(i:Nat)(h:Heap):Prop:=(∃old,IsEnum h e it i old)/\h.IsListIter it l i
theorem KP{elts:List Expr}{cx:_}{tp:Pos}(e it l:Addr)(ne:e≠it):
 MY P w K (.Tuple elts cx tp) (Ite l) [e,it] e (Eat e it l) where
 mem:=by simp
 obj:=λi h st b hb=>by
  let⟨⟨old,ge⟩,⟨a,d,_,D⟩⟩:=st;simp only[bJ,fC,or_false]at hb;rcases hb with rfl |rfl
  ·exact#[_,ge,λv e=>by cases e]
  ·exact#[_,d,λv e=>by rw[D]at e;cases e]
 keep:=λi h h' st k=>by
  let⟨⟨old,ge⟩,⟨a,d,F⟩⟩:=st;exact#[#[old,k _ (by simp) _ ge],#[a,k _ (by simp) _ d,F]]
 item:=by
  intro X f g j hc i aI s σ H E I hf st m;subst f g j;let⟨xs,x,ha,hx⟩:=m;let⟨its,rv,n⟩:=bK.lst_of I.hok ha;let⟨u,hu,G⟩:=rv.get hx;let⟨⟨old,ge⟩,c⟩:=st;refine wpAny_pyNext_enum_item ge c n (by simpa using hu) ne λh1 b1 b2 J Q L=>?_
  calc#[_,rfl,wpAny_letOwnedTupleGo_enum (s:={s with heap:=h1,toks:=s.toks+1}) b1 λh2 g2 s2=>?_];let B:e<s.heap.objs.size:=bA ge;let M:it<s.heap.objs.size:=by let⟨_,z,_⟩:=c;exact bA z
  let keep2:∀b o,b∉[e,it]->s.heap.get? b=some o->h2.get? b=some o:=λb o hb q=>by
   simp only[bJ,fC,or_false,not_or]at hb;exact s2.extBut b o hb.1<|L b o hb.1 hb.2 q
  let r:H s.heap.objs.size=none:=I.hok.fresh<|aG _;let gT:=s2.extBut _ _ (GN B) J;refine#[.ref s.heap.objs.size,_,I.turnedN (t':=s.toks+1) (p:=s.heap.objs.size) (o:=.tup [.int i,x]) keep2 hf (aG _) #[zI (by simp),[.int i s.toks,u],.cons #[_,rfl]<|.cons G .nil,#[_,gT,rfl,_,rfl]],rfl,#[_,x,rfl,r,rfl,λN C=>?_],?_,λb hb=>?_]
  ·rw[ha]at C;cases C;exact hx
  ·let⟨a,t,y⟩:=b2;exact#[#[_,g2],#[a,s2.extBut _ _ (bX ne) t,y]]
  ·let A:b<s.heap.objs.size:=by
    simp only[bJ,fC,or_false]at hb;rcases hb with rfl |rfl
    ·exact B
    ·exact M
   rw[zG<|bL A];exact(hf b hb).1
 done:=by
  intro X f g j hc i aI s σ H E I hf st m;subst f g j;let⟨xs,ha,hl⟩:=m;let⟨its,rv,n⟩:=bK.lst_of I.hok ha;let k1:=rv.length;let⟨⟨old,ge⟩,c⟩:=st;refine wpAny_pyNext_enum_end (I.ok.hd hc) ge c n (by simp;lia) λh1 O=>#[rfl,?_]
  calc I.turnedL (ch:=[it]) (t':=s.toks) (λb o hb q=>?_) (λb hb=>hf b (by simp only[bJ,fC,or_false]at hb⊢;calc .inr hb));simp only[bJ,fC,or_false]at hb;exact O b o hb q
 self:=λ_ _ _ _ _ st h=>by
  let⟨⟨old,ge⟩,_⟩:=st;exact wpAny_pyIter_enum ge h
def vU(ta:TA):TI:=λσ H R=>ta σ H λvs H1=>pP vs λx=>nZ x λa=>∃xs,H1 a=some (.lst xs)/\R (Ite a) H1
theorem bq{elts:List Expr}{cx:_}{tp:Pos}{a:Expr}{ta:TA}{p pos:Pos}(hg:Gl X "enumerate")(hm:X.mg "enumerate"=none)(ha:PA X [a] ta)(hs:autoParam (starEach [a] X.env=[(false,eval a X.env)]) a1._auto_1):
 PI X (.Tuple elts cx tp) (.Call (.Name "enumerate" p) [a] [] pos) (vU ta):=by
 intro aI s σ H R I h;calc Call_ (uL I hg hm boot_enumerate<|dS (eI (ha pos aI s σ H _ I h) λus s1 z=>?_) (by rw[hs];rfl) (by rfl));let⟨vs,H1,d,i,c⟩:=z;replace c:=kE c;let⟨x,e,c⟩:=c;replace c:=xG c;let⟨j,rfl,xs,h1,q⟩:=c;subst e;cases i with
 |cons r k=>
  cases k;cases r;let⟨f,l,m⟩:=bK.lst_of d.hok h1;refine call_enumerate_list m λh' g g1 _ n=>?_
  calc wpAny_pyIter_enum (s:={s1 with heap:=h'}) g ?_;let fr:∀b,s1.heap.objs.size<=b->kX X aI H1 b:=λb hb=>d.fpOk hb<|d.hok.fresh hb
  calc#[_,[s1.heap.objs.size+1,s1.heap.objs.size],_,_,H1,rfl,d.kept (t':=s1.toks) n,KP _ _ j<|Nat.succ_ne_self _,#[#[_,g],g1],λb hb=>?_,q];simp only[bJ,fC,or_false]at hb;rcases hb with rfl |rfl<;>exact fr _ ()
theorem IN{g:TG}(Pv:Nat->St->Hp->Prop)(h0:Pv 0 σ H)(hl:∀i σ H,Pv i σ H->H a=some (.lst xs))
 (hs:∀(i:Nat) x σ H p,xs[i]?=some x->Pv i σ H->H p=none->g (.ref p) σ (upd H p<|.tup [.int i,x]) λσ2 H2=>tb {D with nx:=Pv (i+1),ct:=Pv (i+1),bk:=D.nx} σ2 H2)
 (hd:∀σ H,Pv xs.length σ H->D.nx σ H):UZ (Ite a) g tb D σ H:=by
 calc#[λi m σ H=>m=xs.length-i/\i<=xs.length/\Pv i σ H,#[_,by rfl,cO _,h0],λi m σ1 H1 z=>?_];let⟨hm,hi,hp⟩:=z;let k1:=hl i σ1 H1 hp;by_cases h:i<xs.length
 ·refine .inr #[#[xs,_,k1,aA h],Pv<|i+1,λσ' H' q=>#[_,?_,rfl,(),q],λv H' ⟨p,x,b,c,d,f⟩=>?_]
  ·lia
  ·subst b;subst d;exact hs i x σ1 H1 p (f xs k1) hp c
 ·let e:i=xs.length:=by lia
  subst e;exact .inl #[#[xs,k1,aG _],hd σ1 H1 hp]
theorem ZX{g:TG}(Pv:Nat->St->Hp->Prop)(h0:Pv 0 σ H)(hl:∀i σ H,Pv i σ H->H a=some (.lst xs))
 (hs:∀(i:Nat) x σ H p,xs[i]?=some x->Pv i σ H->H p=none->∀N:St->Hp->Prop,(∀σ H,Pv (i+1) σ H->N σ H)->g (.ref p) σ (upd H p<|.tup [.int i,x]) λσ2 H2=>tb {D with nx:=N,ct:=N,bk:=D.nx} σ2 H2)
 (hd:∀σ H,Pv xs.length σ H->D.nx σ H):UZ (Ite a) g tb D σ H:=IN Pv h0 hl (λi x σ H p a b c=>hs i x σ H p a b c _ λ_ _ z=>z) hd
theorem dn{g:TG}{Q:VK}(Pv:Nat->List V->St->Hp->Prop)(h0:Pv 0 [] (kQ ns js σ) H)(hz:xs.length<=sizeLine)(hl:∀i ys σ H,Pv i ys σ H->ys.length<=i)
 (hK:∀i ys σ H,Pv i ys σ H->H a=some (.lst xs))
 (hs:∀(i:Nat) x ys σ H p (C:V->St->Hp->Prop),xs[i]?=some x->Pv i ys σ H->H p=none->(∀y σ2 H3,Pv (i+1) (ys++[y]) σ2 H3->C y σ2 H3)->g (.ref p) σ (upd H p<|.tup [.int i,x]) λσ2 H2=>te σ2 H2 λy H3=>C y σ2 H3)
 (hd:∀ys σ H,Pv xs.length ys σ H->∀p,H p=none->Q (.ref p) (upd H p<|.lst ys)):
 WU (Ite a) ns js g none te σ H Q:=
 IL (n:=xs.length) Pv h0 hz hl (λi ys σ H hi w=>#[xs,xs[i],hK i ys σ H w,aA hi]) (λys σ H w=>#[xs,hK _ ys σ H w,aG _])
  (λi ys σ H x H' C hi w z f=>by let⟨p,y,b,c,d,e⟩:=z;subst b;subst d;calc hs i y ys σ H p C (e xs<|hK i ys σ H w) w c f) hd
theorem qN{k:Nat}{t:i4}{pos:Pos}(hc:X.calm=true)(h:ou X es t)(hK:autoParam (X.K=K) a1._auto_1)
 (hn:autoParam ((assignEach es X.env).length=n) a1._auto_1) (hst:autoParam ((assignEach es X.env).findIdx? (·.1)=none) a1._auto_1):PG X (.Tuple es k pos) (uO K n t):=by
 subst hK;exact EG hc h hn hst
end
theorem RY:∀n:Nat,0<n->∃t m,n=2^t*(2*m+1):=by
 intro n
 induction n using Nat.strongRecOn with
 |_ n a=>
  intro h;by_cases b:n % 2=1
  ·exact#[0,n/2,()]
  ·let⟨t,m,e⟩:=a (n/2) () ();calc#[t+1,m,?_];rw[Nat.pow_succ,Nat.mul_assoc,Nat.mul_left_comm,←e];lia
theorem SO(h:0<n):∃t,n.testBit t=true/\(∀i,i<t->n.testBit i=false)/\n-(n&&&(n-1))=2^t/\∀i,(n&&&(n-1)).testBit i=(n.testBit i&&decide (i≠t)):=by
 let⟨t,m,e⟩:=RY n h;let d:n=2^t*(2*m+1)+0:=by lia
 let hp:0<2^t:=WM t;let b:n-1=2^t*(2*m)+(2^t-1):=by
  rw[e,Nat.mul_add,Nat.mul_one];lia
 let b1:∀i,n.testBit i=if i<t then false else(2*m+1).testBit (i-t):=λi=>by
  rw[e,Nat.testBit_two_pow_mul];by_cases hi:i<t
  ·rw[aO hi,cJ (),fI]
  ·rw[aH hi,cP (),pM]
 let b2:∀i,(n-1).testBit i=if i<t then true else(2*m).testBit (i-t):=λi=>by
  rw[b,Nat.testBit_two_pow_mul_add _ ()];by_cases hi:i<t
  ·rw[aO hi,aO hi,oS,cP hi]
  ·rw[aH hi,aH hi]
 let ev:∀j,(2*m).testBit j=((2*m+1).testBit j&&decide (j≠0)):=λj=>by
  cases j with
  |zero=>simp
  |succ j=>
   rw[Nat.testBit_succ,Nat.testBit_succ];have :(2*m+1)/2=2*m/2:=by lia
   rw[this];simp
 let a:∀i,(n&&&(n-1)).testBit i=(n.testBit i&&decide (i≠t)):=λi=>by
  rw[lG,b1,b2];by_cases hi:i<t
  ·rw[aO hi,fI,fI]
  ·rw[aH hi,aH hi,ev];have :decide (i-t≠0)=decide (i≠t):=by
    rw[decide_eq_decide];lia
   rw[this];cases (2*m+1).testBit (i-t)<;>simp
 let c:n&&&(n-1)=2^t*(2*m):=by
  apply nU;intro i;rw[a,b1,Nat.testBit_two_pow_mul];by_cases hi:i<t
  ·rw[aO hi,show decide (i≥t)=false from cJ (),fI,fI]
  ·rw[aH hi,show decide (i≥t)=true from cP (),pM,ev];have :decide (i-t≠0)=decide (i≠t):=by
    rw[decide_eq_decide];lia
   rw[this]
 refine#[t,?_,λi hi=>?_,?_,a]
 ·rw[b1,aH (),gO];simp
 ·rw[b1,aO hi]
 ·rw[c,e,Nat.mul_add,Nat.mul_one];lia
def rK(n:Nat)(xs:List Nat):Prop:=xs.Pairwise (· < ·)/\∀i,n.testBit i=decide (i∈xs)
theorem rK.nil(h:rK n []):n=0:=nU λi=>by rw[h.2];simp
theorem rK.cons{n x:Nat}{xs:List Nat}(h:rK n (x::xs)):0<n/\n-(n&&&(n-1))=2^x/\rK (n&&&(n-1)) xs:=by
 let hx:n.testBit x=true:=by rw[h.2];simp
 let hn:0<n:=Nat.pos_of_ne_zero λz=>by rw[z]at hx;simp at hx
 let⟨t,a,b,c,d⟩:=SO hn;let hp:=List.pairwise_cons.mp h.1;let e:t=x:=by
  rw[h.2,bS]at a;rcases bJ.mp a with e |e
  ·exact e
  ·have :=hp.1 t e;rw[b x this]at hx;cases hx
 subst e;calc#[hn,c,hp.2,λi=>?_];rw[d,h.2];by_cases hi:i=t
 ·subst hi;have :i∉xs:=λz=>dO _<|hp.1 i z
  simp[this]
 ·simp[hi]
section
open PySem.SeqAt
theorem BO:PIp X .BitOr (TH λi j=>Builtin.bitOr i j):=by
 intro aI s σ H x y v u Q I a b h;replace h:=jW h;let⟨i,c,h⟩:=h;replace h:=jW h;let⟨j,d,q⟩:=h;subst c;subst d;let⟨t,rfl⟩:=a;let⟨t',rfl⟩:=b;exact ior_int #[.int _,H,I.tok _,#[_,rfl],q]
theorem m7:PIp X .BitAnd (TH λi j=>Builtin.bitAnd i j):=by
 intro aI s σ H x y v u Q I a b h;replace h:=jW h;let⟨i,c,h⟩:=h;replace h:=jW h;let⟨j,d,q⟩:=h;subst c;subst d;let⟨t,rfl⟩:=a;let⟨t',rfl⟩:=b;exact iand_int #[.int _,H,I.tok _,#[_,rfl],q]
theorem m6:PIp X .BitXor (TH λi j=>Builtin.bitXor i j):=by
 intro aI s σ H x y v u Q I a b h;replace h:=jW h;let⟨i,c,h⟩:=h;replace h:=jW h;let⟨j,d,q⟩:=h;subst c;subst d;let⟨t,rfl⟩:=a;let⟨t',rfl⟩:=b;exact ixor_int #[.int _,H,I.tok _,#[_,rfl],q]
def HQ:V->V->Hp->VK->Prop:=λx y H Q=>nZ x λp=>∃(xs:List V)(i:Nat),y=.int i/\H p=some (.lst xs)/\∃v,xs[i]?=some v/\Q v H
theorem wV:PGet X HQ:=by
 intro aI s σ H o i f g Q I b c h;replace h:=xG h;let⟨p,rfl,xs,k,rfl,hp,v,hk,q⟩:=h;cases b;let⟨t,rfl⟩:=c;let⟨its,r,pl,hz⟩:=I.list<|dB.of hp;let⟨w,d,a⟩:=r.get hk;let hl:=r.length;let e:=(aC.mp hk).1;let hs:=dJ;exact wpAny_getItem_list pl.isList () () (by simpa using d) #[v,H,I,a,q]
def HS:V->List V->Hp->VK->Prop:=λx vs H Q=>rW x λi=>as0 vs<|Q (.int<|Builtin.Int.intBits i) H
theorem XW:MtR X "int.bit_length" HS:=by
 intro aI s σ H x xs v us Q I a rv h;replace h:=jW h;let⟨i,rfl,h⟩:=h;replace h:=as0_ h;let⟨rfl,q⟩:=h;cases rv;let⟨t,rfl⟩:=a;exact call_int_bit_length #[.int _,H,I.tok _,#[_,rfl],q]
theorem HZ(K:W.Frag){f:Str}{pos:Pos}(he:PE X e ta)(hb:attributeBase e f X.env (eval e X.env)=eval e X.env)(hK:autoParam (X.K=K) a1._auto_1):PE X (.Attribute e f pos) (xZ K ta f):=by
 subst hK;exact PY he hb
theorem not_not(x:Int):Builtin.bitNot (Builtin.bitNot x)=x:=by unfold Builtin.bitNot;lia
theorem wQ(m n:Nat):Builtin.bitOr (m:Int) (n:Int)=((m|||n:Nat):Int):=by
 unfold Builtin.bitOr;rw[bitAnd_nn (by unfold Builtin.bitNot;lia) (by unfold Builtin.bitNot;lia),not_not,not_not,not_not];simp
theorem CN(m n:Nat):Builtin.bitAnd (m:Int) (n:Int)=((m&&&n:Nat):Int):=by
 rw[bitAnd_pp () ()];simp
theorem SN(h:0<n):Builtin.bitAnd (n:Int) (-(n:Int))=((n-(n&&&(n-1)):Nat):Int):=by
 rw[bitAnd_pn () ()];let e:(Builtin.bitNot (-(n:Int))).toNat=n-1:=by unfold Builtin.bitNot;lia
 rw[e,bM];have :=Nat.and_le_left (n:=n) (m:=n-1);lia
theorem WZ{x:Nat}(h:n-(n&&&(n-1))=2^x)(hb:n.testBit x=true):Builtin.bitXor (n:Int) ((2^x:Nat):Int)=((n&&&(n-1):Nat):Int):=by
 rw[bitXor_and,CN];let e:n&&&2^x=2^x:=by
  apply nU;intro i;rw[lG,iW];by_cases hi:x=i
  ·subst hi;simp[hb]
  ·simp[hi]
 rw[e];have :=Nat.and_le_left (n:=n) (m:=n-1);lia
theorem VV(x:Nat):Builtin.Int.intBits ((2^x:Nat):Int)=x+1:=by
 unfold Builtin.Int.intBits;let hp:0<2^x:=WM x;rw[aH (by rw[cI];lia),Int.natAbs_natCast,Nat.log2_two_pow]
theorem vL(x:Nat):(1:Int)*2^(x:Int).toNat=((2^x:Nat):Int):=by
 rw[Int.one_mul,bM];simp
end
end L2
namespace L2
open PySem PySem.Spec PyProof.Rows PySem.SeqAt
variable {a b d f it l:Addr} {A:Around} {p:Array Nat} {CX:WX} {X:Cx} {e iter o tg:Expr} {fd:FuncData} {base h h':Heap} {H H' H₀:Hp} {aI:List (Addr×Obj)} {fp:List Addr} {outer:List Env} {es ifs:List Expr} {js:List Nat} {body:List Stmt} {N ps ys:List Str} {M:Model} {ep i j n:Nat} {tc:Option TT} {lP pos':Pos} {P prog:Program} {K:W.Frag} {R:Result->Shared->Prop} {s s' s₀:Shared} {sp:Sp} {σ:St} {st:Stmt} {qual z:Str} {mg:Str->Option Value} {T:String} {te:TE} {wi:TI} {α:Type} {v:V} {cd u:Value} {RR:Value->Addr->Result->Shared->Prop} {E Q:Value->Shared->Prop} {w:World}
local macro_rules | `(()) => `(by lia)
section
variable {K:Type} [DecidableEq K] {knd:HeapKind prog w K} {k:K} {xs:List (K×Addr×Value)}
theorem KZ{v:Value}(hu:knd.room A)(hkey:knd.is s.heap k a)(hm:s.heap.DictOfH knd d xs)
 (h1:∀p,atKey xs k=some p->Q p.2 {s with toks:=s.toks+knd.draws k})
 (h2:atKey xs k=none->∀h',h'.DictOfH knd d (storedH xs k a v)->Heap.SameBut d s.heap h'->Q v {s with heap:=h',toks:=s.toks+knd.draws k})
 (hsz:xs.length<=sizeLine):wpAny (model prog w) A (dictSetDefault d (.ref a) v) Q E s:=by
 let⟨o,es,ep,c,hc,hd,he,f,hn⟩:=hm;unfold dictSetDefault
 try with_reducible refine dI ?_
 calc aE<|knd.pyHash hu hkey ?_;refine aE<|wpAny_dictFind_heap (s:={s with toks:=s.toks+knd.draws k}) hu hkey c hd he f hn ?_ ?_
 ·intro b;let g:k∉xs.map (·.1):=not_mem_keys_of_get b;refine aE (WJ (aE (wpAny_updateDictKeys (hz:=by let e:=size_of_entries he;lia) (s:={s with toks:=s.toks+knd.draws k}) c hd (aS (h2 (rF b) _ #[_,_,ep+1,oM _ c<|Obj.isFreed_of_dict<|Obj.data_mapDictKeys hd _,
   hc.mapDictKeys _,Obj.data_mapDictKeys hd _,?_,?_,?_]<|lQ ..)))))
  ·rw[GJ<|rF b];simp[he,entryOfKey]
  ·rw[GJ<|rF b];intro x hx;rcases cD.mp hx with hx |hx
   ·exact knd.keeps (f x hx) c hd<|lQ ..
   ·simp only[aV]at hx;subst hx;exact knd.keeps hkey c hd<|lQ ..
  ·rw[GJ<|rF b];rw[aQ,mF];calc#[hn,by simp,?_];intro x hx y hy;simp only[bV,rA,aV]at hy;subst hy;exact λe=>g<|e▸hx
 ·intro j p h;calc aE<|nM (s:={s with toks:=s.toks+knd.draws k}) c hd ?_;rw[entry_at he j,h];exact aE<|WJ<|aS<|h1 p<|atKey_of_get hn h
theorem DV(hd:(d==sysModules)=false)(dflt:Value):
 MeetsIn prog w (Builtin.«dict.setdefault» #[[.ref d,.ref a,dflt],[]]) (λA R s=>knd.room A.in1/\∃k xs,knd.is s.heap k a/\s.heap.DictOfH knd d xs/\xs.length<=sizeLine/\
  (∀p,atKey xs k=some p->R (.ok<|.ret p.2) {s with toks:=s.toks+knd.draws k})/\
  (atKey xs k=none->∀h',h'.DictOfH knd d (storedH xs k a dflt)->Heap.SameBut d s.heap h'->R (.ok<|.ret dflt) {s with heap:=h',toks:=s.toks+knd.draws k})):=
 .of_wp λA R s z=>by
  let⟨hu,k,xs,b,hm,hz,h1,h2⟩:=z
  unfold Builtin.«dict.setdefault»;calc aE ?_;unfold Builtin.Dict.keyAndDefault;calc aE<|oH hm.typeIs ?_;show wpAny _ _ (pure (d,Value.ref a,some dflt)) _ _ s;calc aS ?_;show wpAny _ _ (if(d==sysModules)=true then _ else(dictSetDefault d (.ref a) dflt >>= _)) _ _ s;rw[aH (by rw[hd];calc aY)];exact aE (KZ hu b hm (λp hp=>aS #[p.2,rfl,h1 p hp]) (λhn h' c e=>aS #[dflt,rfl,h2 hn h' c e]) hz)
end
theorem LC(h:mM (some v) (some u)):RelV v u:=h
def f8(td ty tx:TE):TE:=λσ H Q=>td σ H λx H1=>∃a,x=.ref a/\IsD H1 a/\ty σ H1 λy H2=>tx σ H2 λz H3=>∃(kvs:List (List eR×V))(k:List eR)(b:Addr),H3 a=some (.dT kvs)/\y=.ref b/\H3 b=some (.tup<|k.map kV)/\kvs.length<sizeLine/\
 (∀v,zY kvs k=some v->Q v H3)/\(zY kvs k=none->Q z (upd H3 a<|.dT<|qQ kvs k z))
section
variable {f:Expr} {gA:Pos} {td ty tx:TE}
theorem br(hu:X.A.units+1<cLine)(ho:PE X o td)(he:PE X e ty)(hf:PE X f tx)(m:M2 X o "setdefault" lP e f gA):PE X (.Call (.Attribute o "setdefault" lP) [e,f] [] gA) (f8 td ty tx):=by
 intro aI s σ H Q I h;calc fh m.base m.few m.line pR WK F.type_dict_setdefault (eI (ho aI s σ H _ I h) λu s1 p=>?_);let⟨x,H1,j,C,a,ex,d,D⟩:=p;subst ex;obtain rfl:u=Value.ref a:=C;let⟨E,G,_⟩:=TC j d;calc#[E,G,?_];rw[m.trees];refine iF rfl (lE (fL (eI (he aI s1 σ H1 _ j D) λJ s2 ⟨y,H2,K,L,M⟩=>
  fL (eI (hf aI s2 σ H2 _ K M) λN Y ⟨z,n,i,r,kvs,k,b,e,O,t,l,P,R⟩=>iV ?_))))
 subst O;cases (show J=Value.ref b from L);let⟨S,hd,xs,rel,dd⟩:=iw i.hok e;let hz:xs.length<=sizeLine:=by rw[←eY rel];exact S
 let hl:(qQ kvs k z).length<=sizeLine:=by have :=vD kvs k z;lia
 refine sL WK dd.typeIs F.entry_dict_setdefault (F.args_dict_setdefault_3 _ _ _) (DV (knd:=tupleKind<|zT X.prog X.w) hd N) #[eF hu,k,xs,vE i.hok t,dd,hz,λp hp=>?_,λhn h' dd' hs=>?_]
 ·let rv:=rel.val k;rw[hp]at rv;cases g:zY kvs k with
  |none=>rw[g]at rv;cases rv
  |some v=>
   rw[g]at rv;exact#[v,n,i.tok _,LC rv,P v g]
 ·let rv:=rel.val k;rw[hn]at rv;let g:zY kvs k=none:=by
   cases g:zY kvs k with
   |none=>rfl
   |some v=>rw[g]at rv;cases rv
  let⟨q,es,ep,hq,h2,T,U,_,W⟩:=dd';calc#[z,upd n a<|.dT<|qQ kvs k z,wY i (by rw[e];calc True.intro) hs #[q,hq] #[hl,hd,_,(rel.put k t r).keeps λc ys B=>?_,q,es,ep,hq,h2,T,U,W],r,R g];rw[zG<|jH B e λz=>nomatch z];exact B
end
section
open PySem.W
def oQ(h:Heap)(d:Addr)(es:Array DictEntry)(ep:Nat):Prop:=∃o,h.get? d=some o/\o.ExactDict/\o.data=.dict es ep
theorem oQ.typeIs{es:Array DictEntry}(x:oQ s.heap d es ep):s.TypeIs (.ref d) "dict":=let ⟨o,a,hc,_⟩:=x;#[o,a,hc.1]
theorem oQ.at'{es:Array DictEntry}(x:oQ h d es ep)(e:∀o,h.get? d=some o->h'.get? d=some o):oQ h' d es ep:=let ⟨o,a,r⟩:=x;#[o,e _ a,r]
theorem oQ.lt{es:Array DictEntry}(x:oQ h d es ep):d<h.objs.size:=let ⟨_,a,_⟩:=x;bA a
theorem bf(d:Addr)(hd:(d==sysModules)=false):MeetsIn prog w (Builtin.«dict.__len__» #[[.ref d],[]]) (λ_ R s=>∃es ep,oQ s.heap d es ep/\R (.ok<|.ret<|.int es.size s.toks) {s with toks:=s.toks+1}):=
 .of_wp λA R s z=>by
  let⟨es,ep,hm,h⟩:=z
  let⟨o,a,c,b⟩:=id hm;show wpAny _ _ (dictSize d >>= _) _ _ s;unfold dictSize;calc aE<|aE<|nM a b<|aS ?_;show wpAny _ _ (Builtin.Dict.pendingCount d >>= _) _ _ s;calc aE<|wpAny_pendingCount_other hd ?_;calc wpAny_ret_mkInt ?_;rw[Nat.add_zero];exact h
theorem ZN:∀{ys:List V}{us:List Value},ys.length=us.length->(∀(i:Nat)(y:V)(u:Value),ys[i]?=some y->us[i]?=some u->RelV y u)->cY ys us
 |[],[],_,_=>.nil
 |[],_::_,h,_=>by simp at h
 |_::_,[],h,_=>by simp at h
 |y::ys,u::us,h,a=>.cons (a 0 y u rfl rfl) (ZN (by simpa using h) λi b c h1 h2=>a (i+1) b c (by simpa using h1) (by simpa using h2))
theorem KT.at{H:Hp}:∀{kvs:List (List eR×V)}{xs:List (List eR×Addr×Value)},KT H kvs xs->∀{i:Nat}{p:List eR×V}{q:List eR×Addr×Value},kvs[i]?=some p->xs[i]?=some q->RelV p.2 q.2.2
 |_,_,.nil,i,p,q,h,_=>by simp at h
 |_,_,.cons hq t,0,p,q,h1,h2=>by
  simp only[pT,pG]at h1 h2;subst h1 h2;exact hq.2.2
 |_,_,.cons hq t,i+1,p,q,h1,h2=>KT.at t (by simpa using h1) (by simpa using h2)
end
section
open PySem.W
section
variable {J:Addr} {wr:List Addr} {P:Nat->Value->Prop} {St:Nat->Heap->Prop}
end
theorem MU:jG X (.type "int") (λxs H Q=>∃b,xs=[.bl b]/\Q (.int<|if b then 1 else 0) H):=by
 intro aI s σ H xs us Q I r h;let⟨b,rfl,q⟩:=h;let⟨u,rfl,a⟩:=qU r;let e:u=Value.bool b:=a;subst e;exact call_int_bool #[.int _,H,I.tok _,#[_,rfl],q]
end
section
open PySem.W
theorem PP{l:Expr}{tl:TE}(K:W.Frag)(hl:PE X l tl)(h:autoParam (X.K=K) a1._auto_1):PI X tg l (iq K tl):=by subst h;exact vO hl
end
section
open PySem.W
def oR(n:Nat){α:Type}(P:α->Prop):KasT α->Prop
 | .ret a=>P a
 | .ask i j k=>i<n/\j<n/\i≠j/\∀b,oR n P<|k b
theorem oR.bind{n:Nat}{α β:Type}{P:α->Prop}{R:β->Prop}{f:α->KasT β}:∀{t:KasT α},oR n P t->(∀a,P a->oR n R (f a))->oR n R (t.bind f)
 | .ret a,h,hf=>hf a h
 | .ask i j k,h,hf=>#[h.1,h.2.1,h.2.2.1,λb=>oR.bind (h.2.2.2 b) hf]
theorem oR.mono{n:Nat}{α:Type}{P R:α->Prop}(hp:∀a,P a->R a):∀{t:KasT α},oR n P t->oR n R t
 | .ret a,h=>hp a h
 | .ask i j k,h=>#[h.1,h.2.1,h.2.2.1,λb=>oR.mono hp<|h.2.2.2 b]
def eG(n:Nat)(p:Array Nat):Prop:=p.toList.Perm<|List.range n
theorem eG.size(h:eG n p):p.size=n:=by
 have :=List.Perm.length_eq h;rwa[dQ,cH]at this
theorem eG.of{q:Array Nat}(h:eG n p)(e:q.Perm p):eG n q:=(Array.perm_iff_toList_perm.mp e).trans h
theorem eG.rev(h:eG n p)(i j:Nat):eG n (kas_rev p i j):=h.of<|mirror_perm _ _ _ _
theorem eG.at(h:eG n p)(hi:i<n):p.getD i 0<n:=by
 let hs:i<p.size:=by rw[h.size];exact hi
 let e:p.getD i 0=p[i]:=by simp[Array.getD,hs]
 rw[e];exact bN.mp (h.mem_iff.mp (by simp))
theorem eG.ne(h:eG n p)(hi:i<n)(hj:j<n)(hij:i≠j):p.getD i 0≠p.getD j 0:=by
 let hs:i<p.size:=by rw[h.size];exact hi
 let a:j<p.size:=by rw[h.size];exact hj
 let e:p.getD i 0=p[i]:=by simp[Array.getD,hs]
 let b:p.getD j 0=p[j]:=by simp[Array.getD,a]
 rw[e,b];let nd:p.toList.Nodup:=h.nodup_iff.mpr List.nodup_range;intro z;have :=cL.mp nd;rcases CZ hij with l |l
 ·exact this i j (by simpa using hs) (by simpa using a) l (by simpa using z)
 ·exact this j i (by simpa using a) (by simpa using hs) l (by simpa using z.symm)
theorem eG.ask(h:eG n p){P:α->Prop}{k:Bool->KasT α}(hi:i<n)(hj:j<n)(hij:i≠j)(hk:∀b,oR n P<|k b):oR n P (.ask (p.getD i 0) (p.getD j 0) k):=#[h.at hi,h.at hj,h.ne hi hj hij,hk]
theorem XR{n:Nat}{p:Array Nat}(h:eG n p):∀(f m:Nat),1<=m->m+f<=n->oR n (λr=>m<=r/\r<=m+f) (kas_asc p f m)
 |0,m,_,_=>#[aG _,aG _]
 |f+1,m,h1,h2=>by
  refine h.ask () () () λb=>?_
  cases b with
  |true=>exact#[aG _,()]
  |false=>exact oR.mono (λr hr=>#[(),()])<|XR h f (m+1) () ()
theorem IS{n:Nat}:∀(f:Nat)(p:Array Nat)(m q:Nat),eG n p->1<=m->m+f<=n->oR n (λr=>eG n r.1/\m<=r.2.1/\r.2.1<=m+f) (kas_desc f p m q)
 |0,p,m,q,h,_,_=>#[h,aG _,aG _]
 |f+1,p,m,q,h,h1,h2=>by
  let up:∀a q',eG n a->oR n (λr=>eG n r.1/\m<=r.2.1/\r.2.1<=m+(f+1)) (kas_desc f a (m+1) q'):=λa q' c=>oR.mono (λr hr=>#[hr.1,(),()])<|IS f a (m+1) q' c () ()
  refine h.ask () () () λb=>?_
  cases b with
  |true=>
   show oR n _ (if q>0 then _ else _);split
   ·exact up _ _<|h.rev _ _
   ·exact up _ _ h
  |false=>
   refine h.ask () () () λb=>?_
   cases b with
   |true=>exact#[h,by show m<=m;lia,by show m<=_;lia]
   |false=>exact up _ _ h
theorem tN{m:Nat}(h:eG n p)(h1:1<=m)(h2:m<=n):oR n (λr=>eG n r.2/\1<=r.1/\r.1<=n) (kas_tail3 m n p):=by
 refine oR.bind (XR (h.rev _ _) (n-m) m h1 ()) λa ha=>?_
 exact#[h.rev _ _,by show 1<=a;lia,by show a<=n;lia]
theorem ZE{m:Nat}(h:eG n p)(h1:1<=m)(h2:m+1<=n):oR n (λr=>eG n r.2/\1<=r.1/\r.1<=n) (kas_descPart m n p):=by
 refine oR.bind (IS (n-(m+1)) p (m+1) 0 h () ()) λr hr=>?_
 split
 ·exact tN (hr.1.rev _ _) () ()
 ·exact tN hr.1 () ()
theorem BV(h:eG n p)(hn:1<=n):oR n (λr=>eG n r.2/\1<=r.1/\r.1<=n) (kas_count n p):=by
 refine oR.bind (XR h (n-1) 1 (aG _) ()) λa ha=>?_
 by_cases e:(a==n)=true
 ·rw[aO e];exact#[h,by show 1<=a;lia,by show a<=n;lia]
 rw[aH e];let ne:a≠n:=λz=>e (by rw[z];simp)
 by_cases g:a>1
 ·rw[aO g];refine h.ask () () () λb=>?_
  cases b with
  |true=>exact#[h,by show 1<=a;lia,by show a<=n;lia]
  |false=>exact ZE (h.rev _ _) () ()
 ·rw[aH g];exact ZE h () ()
theorem YN{n:Nat}{p:Array Nat}(h:eG n p){k:Nat}(hk:k<n):∀(f l r:Nat),l<=k->r<=k->oR n (λx=>x<=k) (kas_place p k f l r)
 |0,l,r,hl,_=>hl
 |f+1,l,r,hl,hr=>by
  show oR n _ (if l≥r then _ else _);split
  ·exact hl
  ·refine h.ask () () () λb=>?_
   cases b with
   |true=>exact YN h hk f l _ hl ()
   |false=>exact YN h hk f _ r () hr
theorem VX{n:Nat}:∀(f:Nat)(p:Array Nat)(k:Nat),eG n p->k+f<=n->oR n (eG n) (kas_bin f p k)
 |0,p,k,h,_=>h
 |f+1,p,k,h,hk=>oR.bind (YN h () k 0 k () ()) λl _=>VX f _ (k+1) (h.of<|bubble_perm _ _ _) ()
theorem HF(hn:1<=n):oR n (eG n) (kas_sort n):=by
 refine oR.bind (BV (n:=n) (p:=List.toArray<|List.range n) (oY _) hn) λr hr=>?_
 split
 ·calc VX _ _ _ hr.1 ?_;have :max r.1 1=r.1:=by lia
  lia
 ·exact hr.1
noncomputable def yX(lt:Nat->Nat->Bool){α:Type}:KasT α->α
 | .ret a=>a
 | .ask i j k=>yX lt<|k<|lt i j
theorem oR.wpL{n:Nat}{α:Type}{P:α->Prop}{cmp:Nat->Nat->(Bool->Shared->Prop)->Shared->Prop}{I:Shared->Prop}{lt:Nat->Nat->Bool}{Q:α->Shared->Prop}
 (hc:∀i j C s,I s->i<n->j<n->i≠j->(∀s',I s'->C (lt i j) s')->cmp i j C s):∀{t:KasT α}{s:Shared},oR n P t->(∀s,P (yX lt t)->I s->Q (yX lt t) s)->I s->t.kasWp cmp Q s
 | .ret a,s,h,hq,hi=>hq s h hi
 | .ask i j k,s,h,hq,hi=>hc i j _ s hi h.1 h.2.1 h.2.2.1 λs' b=>oR.wpL hc (h.2.2.2 _) hq b
theorem wU{n:Nat}{α:Type}{P:α->Prop}{lt:Nat->Nat->Bool}:∀{t:KasT α},oR n P t->P (yX lt t)
 | .ret a,h=>h
 | .ask i j k,h=>(wU (lt:=lt) (h.2.2.2<|lt i j):P (yX lt<|k<|lt i j))
def eo(lt:Nat->Nat->Bool)(vs out:List Value):Prop:=(vs.length<2/\out=vs)\/(2<=vs.length/\out=(yX lt<|kas_sort vs.length).toList.map λi=>vs.getD i Value.none)
theorem PQ{vs:List Value}(h:eG vs.length p):(p.toList.map λi=>vs.getD i Value.none).Perm vs:=by
 let h1:(p.toList.map λi=>vs.getD i Value.none).Perm ((List.range vs.length).map λi=>vs.getD i Value.none):=List.Perm.map _ h;let e:(List.range vs.length).map (λi=>vs.getD i Value.none)=vs:=by
  refine List.ext_getElem (by simp) λi h1 h2=>?_
  rw[fU,DA];rw[aU,aA h2];rfl
 rwa[e]at h1
theorem RG{lt:Nat->Nat->Bool}{κ:SortKind}{vs:List Value}{P:PySem.Fin->Shared->Prop}(ho:s.heap.get? a=some (seqObj "list" vs.toArray n))(h64:vs.length<64)
 (hk:∀(s':Shared)(Q:SortKind->Shared->Prop),2<=vs.length->(∀b o,b≠a->s.heap.get? b=some o->s'.heap.get? b=some o)->Q κ s'->wpAny (model prog w) A (keyKind' vs.toArray) Q E s')
 (hc:∀(s':Shared)(i j:Nat)(C:Bool->Shared->Prop),(∀b o,b≠a->s.heap.get? b=some o->s'.heap.get? b=some o)->i<vs.length->j<vs.length->i≠j->(∀tk,C (lt i j) {s' with toks:=tk})->wpAny (model prog w) A (keyLt' κ (vs.getD i Value.none)<|vs.getD j Value.none) C (λ_ _=>False) s')
 (h:∀(out:List Value)(tk:Nat),out.Perm vs->eo lt vs out->P (.done<|.ret .none) {s with heap:=sortedHeap s.heap a vs out.toArray,toks:=tk}):wpAny (model prog w) A (Builtin.«list.sort» #[[.ref a],[]]) P E s:=by
 rw[list_sort_plain];let ha:a<s.heap.objs.size:=bA ho;let k:vs.toArray.size=vs.length:=by simp
 calc aE<|listItems_at ho rfl ?_;calc aE (listUpdate_at ho rfl ?_ (by rw[k,dJ];lia)<|cO _);obtain⟨q,l⟩:∃q,(s.heap.update a<|Obj.mapSeq λ_=> (List.toArray [])).get? a=some (seqObj "list" (List.toArray []) q):=#[_,get?_update_seq ho λ_=> (List.toArray [])]
 calc aE<|seqEpoch_at l rfl ?_;calc aE (wpAny_newTuple ?_ (by show vs.length<=_;rw[dJ];lia));calc aE<|wpAny_newList ?_<|cO _;calc dI ?_;let f:(((s.heap.update a<|Obj.mapSeq λ_=> (List.toArray [])).push (seqObj "tuple" vs.toArray 0)).push (seqObj "list" (List.toArray []) 0)).get? a=some (seqObj "list" (List.toArray []) q):=by
  rw[rG _ _ _ (by rw[size_push',Heap.size_update];calc bL<|iE ha),rG _ _ _ (by rw[Heap.size_update];calc bL ha)];exact l
 let keep:∀b o,b≠a->s.heap.get? b=some o->(((s.heap.update a<|Obj.mapSeq λ_=> (List.toArray [])).push (seqObj "tuple" vs.toArray 0)).push (seqObj "list" (List.toArray []) 0)).get? b=some o:=λb o hb e=>aT _<|aT _<|(nY _ _<|bX hb).trans e
 show wpAny (model prog w) A _ P E {s with heap:=((s.heap.update a<|Obj.mapSeq λ_=> (List.toArray [])).push (seqObj "tuple" vs.toArray 0)).push (seqObj "list" (List.toArray []) 0)};dsimp only;by_cases h2:vs.toArray.size<2
 ·rw[aO h2,aO h2];calc aE<|aS ?_;rw[StateT.run_pure];calc aE<|aS ?_;dsimp only;let e:(vs.toArray.zip vs.toArray).map (·.2)=vs.toArray:=by
   apply Array.toList_inj.mp;simp[List.map_snd_zip]
  calc aE<|seqEpoch_at f rfl ?_;calc aE (listUpdate_at f rfl ?_ (cO _) (by show((vs.toArray.zip vs.toArray).map (·.2)).size<=_;rw[e,k,dJ];lia));simp only[bne_self_eq_false,lN,if_false];calc aS ?_;show P _ {s with heap:=sortedHeap s.heap a vs ((vs.toArray.zip vs.toArray).map (·.2))};rw[e];exact h vs s.toks (oY _)<|.inl #[(),rfl]
 ·rw[aH h2,aH h2];let g:2<=vs.length:=by lia
  calc aE<|hk _ _ g keep ?_;let r:(kas_sort vs.length).kasWp (kas_ask prog w A κ vs) (λp s'=>(eG vs.length p/\p=yX lt (kas_sort vs.length))/\∃tk,s'={s with heap:=((s.heap.update a<|Obj.mapSeq λ_=> (List.toArray [])).push (seqObj "tuple" vs.toArray 0)).push (seqObj "list" (List.toArray []) 0),toks:=tk}) {s with heap:=((s.heap.update a<|Obj.mapSeq λ_=> (List.toArray [])).push (seqObj "tuple" vs.toArray 0)).push (seqObj "list" (List.toArray []) 0)}:=by
   calc oR.wpL (lt:=lt) (I:=λs'=>∃tk,s'={s with heap:=((s.heap.update a<|Obj.mapSeq λ_=> (List.toArray [])).push (seqObj "tuple" vs.toArray 0)).push (seqObj "list" (List.toArray []) 0),toks:=tk}) (λi j C s' t hi z u B=>?_) (HF ()) (λs' hp t=>#[#[hp,rfl],t]) #[s.toks,rfl];let⟨tk,rfl⟩:=t;exact hc _ i j C keep hi z u λtk=>B _ #[tk,rfl]
  calc aE (eM (kat_run (Q:=λc s'=>∃p:Array Nat,p.size=vs.length/\arrOf c=p.map (kas_item<|vs.toArray.zip vs.toArray)/\failedOf c=none/\(eG vs.length p/\p=yX lt (kas_sort vs.length))/\∃tk,s'={s with heap:=((s.heap.update a<|Obj.mapSeq λ_=> (List.toArray [])).push (seqObj "tuple" vs.toArray 0)).push (seqObj "list" (List.toArray []) 0),toks:=tk}) rfl g h64 (λp c s' D F G H=>#[p,D,F,G,H]) r) ?_ λ_ _ e=>e);rintro⟨⟨⟩,c⟩ s' ⟨p,hp,v,hf,⟨x,y⟩,tk,rfl⟩;dsimp only;let d:=kat_snds (ks:=vs) (vs:=vs) rfl v;let m:(Shared.heap {s with heap:=((s.heap.update a<|Obj.mapSeq λ_=> (List.toArray [])).push (seqObj "tuple" vs.toArray 0)).push (seqObj "list" (List.toArray []) 0),toks:=tk}).get? a=some (seqObj "list" (List.toArray []) q):=f;calc aE<|seqEpoch_at m rfl ?_;calc aE (listUpdate_at m rfl ?_ (cO _) (by rw[d,aM,aD,dQ,hp,dJ];lia));rw[hf];simp only[bne_self_eq_false,lN,if_false];calc aS ?_;rw[d];exact h _ tk (PQ x) (.inr #[g,by rw[y]])
theorem EN{lt:Nat->Nat->Bool}{κ:SortKind}{vs:List Value}(hl:s.heap.IsList l vs.toArray)(h64:vs.length<64)
 (hk:∀(s':Shared)(E:Value->Shared->Prop)(Q:SortKind->Shared->Prop),2<=vs.length->(∀b o,s.heap.get? b=some o->s'.heap.get? b=some o)->Q κ s'->wpAny (model prog w) A.in1.in1 (keyKind' vs.toArray) Q E s')
 (hc:∀(s':Shared)(i j:Nat)(C:Bool->Shared->Prop),(∀b o,s.heap.get? b=some o->s'.heap.get? b=some o)->i<vs.length->j<vs.length->i≠j->(∀tk,C (lt i j) {s' with toks:=tk})->wpAny (model prog w) A.in1.in1 (keyLt' κ (vs.getD i Value.none)<|vs.getD j Value.none) C (λ_ _=>False) s')
 (h:∀(h':Heap)(tk e:Nat)(out:List Value),out.Perm vs->eo lt vs out->(∀b o,s.heap.get? b=some o->h'.get? b=some o)->h'.get? (s.heap.objs.size+1)=some (seqObj "list" out.toArray e)->Q (.ref<|s.heap.objs.size+1) {s with heap:=h',toks:=tk}):
 wpAny (model prog w) A (call (.builtin "sorted") [.ref l]) Q E s:=by
 calc Calls.call_function_entry kind_sorted plain_sorted entry_sorted (args_sorted1 _) ?_;unfold Builtin.«sorted»;calc aE (m:=checkCount "sorted" 1 1 _)<|aS ?_;calc aE (collect_list hl ?_ (by rw[dJ];lia));calc aE (wpAny_newList ?_ (by rw[dJ];lia));let a:((s.heap.push<|seqObj "list" (List.toArray []) 0).update s.heap.objs.size (Obj.mapSeq (· ++vs.toArray))).objs.size=s.heap.objs.size+1:=by rw[Heap.size_update,size_push']
 let c:(((s.heap.push<|seqObj "list" (List.toArray []) 0).update s.heap.objs.size (Obj.mapSeq (· ++vs.toArray))).push (seqObj "list" vs.toArray 0)).get? (s.heap.objs.size+1)=some (seqObj "list" vs.toArray 0):=by rw[←a];exact bR _ rfl
 let keep:∀b o,s.heap.get? b=some o->(((s.heap.push<|seqObj "list" (List.toArray []) 0).update s.heap.objs.size (Obj.mapSeq (· ++vs.toArray))).push (seqObj "list" vs.toArray 0)).get? b=some o:=λb o q=>by
  let lR:b<s.heap.objs.size:=bA q;rw[rG _ _ _ (by rw[a];calc bL<|iE lR),Heap.get?_update_ne _ _ _ _<|bL lR,rG _ _ _<|bL lR];exact q
 let d:∀{b:Addr}{o:Obj},s.heap.get? b=some o->b≠s.heap.objs.size+1:=λq=>bL<|iE<|bA q
 show wpAny _ _ _ _ _ {s with heap:=((s.heap.push<|seqObj "list" (List.toArray []) 0).update s.heap.objs.size (Obj.mapSeq (· ++vs.toArray))).push (seqObj "list" vs.toArray 0)};rw[a];calc aE (dI<|gU slot_list_sort #[_,c,rfl] entry_list_sort (RG (lt:=lt) (κ:=κ) (A:=A.in1.in1) c h64 (λs' g h2 kp hq=>hk s' _ g h2 (λb o e=>kp b o (d e)<|keep b o e) hq) (λs' i j C kp hi k f n=>hc s' i j C (λb o e=>kp b o (d e)<|keep b o e) hi k f n) λout tk hp p=>#[_,rfl,?_])<|args_list_sort _);let⟨e,he⟩:=sortedHeap_at (out:=out.toArray) c;calc aS #[_,rfl,h _ tk e out hp p (λb o q=>?_) he];rw[sortedHeap_old (d q)<|bA<|keep b o q];exact keep b o q
theorem tV:∀{as:List Addr}{us:List Value},cY (as.map V.ref) us->us=as.map Value.ref
 |[],_,.nil=>rfl
 |a::as,_,.cons r t=>by
  let e:_=Value.ref a:=r;rw[e,tV t];rfl
def WB(H:Hp)(a:Addr)(z:Str):Prop:=∃r,H a=some (.tup (.str z::r))
theorem WB.raw(ok:iX P w H h)(t:WB H a z):∃o xs n tk r,h.get? a=some o/\o.cls=.type "tuple"/\o.data=.seq xs n/\xs=(Value.str z tk::r).toArray:=by
 let⟨r,ht⟩:=t;let⟨_,its,b,o,h1,h2,n,c⟩:=(show eT P w H h a (.tup (.str z::r))from ok a _ ht)
 cases b with
 |cons d e=>
  let⟨tk,rfl⟩:=d;exact#[o,_,n,tk,_,h1,h2,c,rfl]
theorem SY{P:Program}{w:World}{H:Hp}{h h':Heap}(ok:iX P w H h)(kp:∀b o,h.get? b=some o->h'.get? b=some o):∀(as:List Addr)(zs:List Str),as.length=zs.length->(∀(i:Nat)(a:Addr)(z:Str),as[i]?=some a->zs[i]?=some z->WB H a z)->∃fs,KatTups h' (as.map Value.ref) fs/\fs.length=as.length/\∀f∈fs,∃z tk,f=Value.str z tk
 |[],[],_,_=>#[[],trivial,rfl,λ_ h=>nomatch h]
 |[],_::_,h,_=>by simp at h
 |_::_,[],h,_=>by simp at h
 |a::as,z::zs,hl,ht=>by
  let⟨fs,h1,h2,c⟩:=SY ok kp as zs (by simpa using hl) λi d z' ha hz=>ht (i+1) d z' (by simpa using ha) (by simpa using hz)
  let⟨o,xs,n,tk,r,g1,g2,g3,g4⟩:=(ht 0 a z rfl rfl).raw ok;calc#[Value.str z tk::fs,#[#[a,o,xs,n,rfl,kp _ _ g1,g2,g3,by rw[g4];simp],h1],by simp[h2],λf hf=>?_];rcases bJ.mp hf with e |hf
  ·exact#[z,tk,e]
  ·exact c f hf
theorem MF{tk:Tok}:Looks M h (typeOf<|.str z tk) (.type "str"):=λA Q E s _ q=>lL (typeIs_str s z tk) q
theorem UR:jG X (.builtin "sorted") (λxs H Q=>X.calm=true/\∃(p:Addr)(as:List Addr)(zs:List Str),xs=[.ref p]/\H p=some (.lst<|as.map V.ref)/\as.length=zs.length/\zs.length<64/\zs.Nodup/\(∀(i:Nat)(a:Addr)(z:Str),as[i]?=some a->zs[i]?=some z->WB H a z)/\
 ∀(l:Addr)(lC:List Addr),H l=none->lC.Perm as->eo (λi j=>decide<|(zs.getD i "").cps.toList<(zs.getD j "").cps.toList) (as.map Value.ref) (lC.map Value.ref)->Q (.ref l) (upd H l<|.lst<|lC.map V.ref)):=by
 intro aI s σ H xs us Q I r h;let⟨m,p,as,zs,rfl,hp,hl,B,iC,ht,q⟩:=h;let⟨u,rfl,D⟩:=qU r;cases D;let⟨hz,its,nn,rv,E⟩:=(show eT X.prog X.w H s.heap p (.lst<|as.map V.ref)from I.hok p _ hp)
 let e:=tV rv;subst e;let eO:(as.map Value.ref).length=as.length:=aD _;refine EN (lt:=λi j=>decide<|(zs.getD i "").cps.toList<(zs.getD j "").cps.toList) (κ:=tuples' true) (vs:=as.map Value.ref) #[_,E,rfl,nn,rfl] () (λs' E' Q' h2 kp hq=>?_) (λs' i j C kp hi n t F=>?_) λh' tk e out b f kp G=>?_
 ·let⟨fs,k1,k2,k3⟩:=SY I.hok kp as zs hl ht;calc kat_kind (T:=.type "str") k1 () (λv g=>?_) (by decide) hq;let⟨z,tk,rfl⟩:=k3 v g;exact MF
 ·rw[eO]at hi n;let J:(as.map Value.ref).getD i Value.none=.ref as[i]:=by rw[aU,aF,aA hi];rfl
  let K:(as.map Value.ref).getD j Value.none=.ref as[j]:=by rw[aU,aF,aA n];rfl
  let c:i<zs.length:=by lia
  let d:j<zs.length:=by lia
  let⟨oi,xi,ni,L,M,x,N,O,P⟩:=(ht i as[i] zs[i] (aA hi) (aA c)).raw I.hok;let⟨oj,xj,nj,R,S,b1,b2,U,W⟩:=(ht j as[j] zs[j] (aA n) (aA d)).raw I.hok;let nF:zs[i]≠zs[j]:=by
   rcases CZ t with l |l
   ·exact(cL.mp iC) i j c d l
   ·exact((cL.mp iC) j i d c l).symm
  rw[J,K];subst P W;calc kat_lt (kp _ _ x) O (kp _ _ b1) U ?_;show KatLex _ _ _ _ _ _ ((Value.str zs[i] L,Value.str zs[j] R)::M.zip S) 0 s';calc kat_cons<|wpAny_eqBool_str ?_;rw[cJ nF];calc kat_no ?_;show wpAny _ _ (oneLt' true _ _) _ _ _;let k:=F s'.toks;rw[aU,aU,aA c,aA d]at k;exact oneLt_str k
 ·obtain⟨lC,Y,A⟩:∃lC:List Addr,out=lC.map Value.ref/\lC.Perm as:=by
   have :∀v∈out,∃a,v=Value.ref a:=λv g=>by
    let⟨a,_,e⟩:=bF.mp<|b.mem_iff.mp g;exact#[a,e.symm]
   let Z:out=(out.map λv=>match v with | .ref a=>a |_=>0).map Value.ref:=by
    rw[dU]
    conv=>lhs;rw[←List.map_id out]
    refine oI λv g=>?_
    let⟨a,rfl⟩:=this v g;rfl
   calc#[_,Z,?_];let h2:=List.Perm.map (λv:Value=>match v with | .ref a=>a |_=>(0:Addr)) b;rw[dU]at h2;let h3:as.map ((λv:Value=>match v with | .ref a=>a |_=>(0:Addr)) ∘ Value.ref)=as:=by
    conv=>rhs;rw[←List.map_id as]
    rfl
   rwa[h3]at h2
  subst Y;let iH:=A.length_eq;let vals:cY (lC.map V.ref) (lC.map Value.ref):=ZN (by simp) λi y u hy hu=>by
   rw[aF]at hy hu;let⟨x,g1,rfl⟩:=aL.mp hy;let⟨N,g2,rfl⟩:=aL.mp hu;rw[g1]at g2;cases g2;rfl
  exact#[.ref<|s.heap.objs.size+1,_,I.laid (a:=s.heap.objs.size+1) (o:=.lst<|lC.map V.ref) (t':=tk) kp (nT _) #[by rw[aD,dJ];lia,_,e,vals,G],rfl,q _ _ (I.hok.fresh<|nT _) A f]
end
section
open PySem.W
def tLRg(ta:TA):TE:=λσ H Q=>ta σ H λvs H1=>∃n:Nat,vs=[.int n]/\n<=100000/\∀l,H1 l=none->Q (.ref l) (upd H1 l<|.lst ((List.range n).map λi:Nat=>V.int i))
theorem QX{ta:TA}{p p' ap pos:Pos}(hg:Gl X "list")(hm:X.mg "list"=none)(hg':Gl X "range")(hm':X.mg "range"=none)(hc:X.calm=true)(ha:PA X [o] ta)(hs:autoParam (starEach [o] X.env=[(false,eval o X.env)]) a1._auto_1)
 (he:autoParam (starEach [Expr.Call (.Name "range" p') [o] [] ap] X.env=[(false,eval (.Call (.Name "range" p') [o] [] ap) X.env)]) a1._auto_1):PE X (.Call (.Name "list" p) [.Call (.Name "range" p') [o] [] ap] [] pos) (tLRg ta):=by
 intro aI s σ H Q I h;calc eW (uL I hg hm vR ?_ (by decide) (by decide));calc dS ?_ he (by rfl);rw[he];show wpAny _ _ (spliced [(false,_)]) _ _ s;calc fL ?_;calc eW (uL I hg' hm' VR ?_ (by decide) (by decide));calc dS (eI (ha ap aI s σ H _ I h) λus s1 z=>?_) (by rw[hs];rfl) (by rfl);let⟨vs,H1,j,k,n,e,hn,q⟩:=z;subst e;let⟨u,rfl,t,rfl⟩:=qU k;calc call_range_1 ?_;calc iV ?_;let d:Builtin.Range.rangeSize 0 (n:Int) 1=((n:Nat):Int):=by rw[rangeSize_one];split<;>lia
 refine call_list_range (n:=n) (I.ok.hd hc) (IsRange.new ..) (small_one () () () ()) d () λh' tk acc l hk m c=>?_
 let g:Inv X aI σ H1 {s1 with heap:=s1.heap.push {cls:=Value.type "range",data:=Data.fields (List.toArray [Value.int 0 s1.toks,Value.int (n:Int) t,Value.int 1<|s1.toks+1])},toks:=s1.toks+1+1}:=j.kept λb o e=>aT _ e
 let f:acc.toList.length=n:=by rw[dQ];exact c.1
 let vals:cY ((List.range n).map λi:Nat=>V.int i) acc.toList:=by
  refine ZN (by rw[aD,cH,f]) λi y u hy hu=>?_
  let hi:=(aC.mp hu).1;rw[hZ]at hu;let⟨r,e⟩:=c.2 i u hu;rw[aF,oJ ()]at hy;let hy:V.int (i:Int)=y:=bY hy;subst hy e;exact#[r,by simp]
 exact#[.ref _,_,g.laid (a:=_) (o:=.lst ((List.range n).map λi:Nat=>V.int i)) (t':=tk) hk (aG _) #[by rw[aD,cH,dJ];lia,acc.toList,l,vals,by rw[rS];calc m],rfl,q _<|g.hok.fresh<|aG _]
theorem MV(K:W.Frag)(h:autoParam (X.K=K) a1._auto_1)(hc:autoParam (X.calm=true) a1._auto_1):jG X (.builtin "all") (λxs H Q=>pP xs λx=>nZ x λp=>∃bs:List Bool,dB K H p (bs.map V.bl)/\Q (.bl<|bs.all id) H):=by
 subst h;intro aI s σ H xs us Q I r h;exact jF aI s σ H xs us Q I r (by rw[hc];calc h)
structure mI(z:Str)(xs ys:List Str)(scope fK:Scope):Prop where
 kind:scope.kind=.function
 nd:(xs++ys).Nodup
 zc:scope.names.lookup z=some .cell
 cap:∀y∈ys,scope.names.lookup y=some .free/\(fK.names.lookup y=some .cell\/fK.names.lookup y=some .free)
 onecell:∀y∈scope.names,y.2=.cell->y.1=z
 names:∀y∈scope.names,y.2=.local->scope.names.lookup y.1=some .local
 free:∀y∈scope.names,y.2=.free->y.1∈ys
 cf:∀n cl,cellsFrom n scope.names cl=(z,n)::cl
 pc:∀h,pushCells h scope.names=h.push {cls:=.type "cell",data:=.cell none}
theorem mI.ne{xs:List Str}{scope fK:Scope}(S:mI z xs ys scope fK){y:Str}(h:y∈ys):(y==z)=false:=by
 cases e:y==z with
 |false=>rfl
 |true=>
  let e:=eq_of_beq e;subst e;have :=(S.cap y h).1;rw[S.zc]at this;cases this
theorem SG{scope:Scope}{globals:Addr}{closure:List (Str×Addr)}{fK:Env}{Q:Env->Shared->Prop}
 (cf:∀n cl,cellsFrom n scope.names cl=(z,n)::cl) (pc:∀h,pushCells h scope.names=h.push {cls:=.type "cell",data:=.cell none})
 (hQ:Q (newEnv scope s.heap.objs.size globals ((z,s.heap.objs.size+1)::closure) qual none .none (some fK) builtinsNs) {s with heap:=(s.heap.push {cls:=.type "dict",data:=.dict (List.toArray [])}).push {cls:=.type "cell",data:=.cell none}}):
 wpAny M A (newFunctionEnv scope globals closure [] qual none .none<|some fK) Q E s:=by
 simp only[newFunctionEnv,Option.isSome_some,if_true];calc aE<|wpAny_alloc ?_;calc aE (wpAny_layCells _ (λname kind cells=>by cases a:kind==NameKind.cell<;>simp[a]) _ _ _ _ ?_);rw[cf,pc,show({s with heap:=s.heap.push {cls:=.type "dict",data:=.dict (List.toArray [])}}:Shared).heap.objs.size=s.heap.objs.size+1 from nX ..];exact aS hQ
noncomputable def xT(z:Str)(X:Cx)(xs ys:List Str)(scope:Scope)(C:Addr)(s₀:Shared)(H₀:Hp)(fp:List Addr):Cx where
 prog:=X.prog
 w:=X.w
 K:=X.K
 mg:=X.mg
 base:=X.base
 A:=X.A
 N:=xs++ys
 s₀:=s₀
 H₀:=H₀
 env:=compEnvC scope ((z,C+1)::xA X.env scope.names []) C X.env
 outer:=X.stack
 stack:=X.stack
 ex:=fp
 fn:=λx=>x==z
 calm:=X.calm
 pn:=[]
 xe:=λ_ _=>False
section
variable {xs:List Str} {scope:Scope} {C D:Addr}
theorem BY(I:Inv X aI σ H s)(S:mI z xs ys scope X.env.scope):∀x∈scope.names,x.2=.free->∃c,X.env.cells.lookup x.1=some c:=λx hx hf=>
 I.ok.has x.1 ((S.cap x.1<|S.free x hx hf).2.elim .inl .inr)
theorem FU(I:Inv X aI σ H s)(S:mI z xs ys scope X.env.scope){y:Str}{c:Addr}(e:(xA X.env scope.names []).lookup y=some c):X.env.cells.lookup y=some c:=
 qA scope.names [] (BY I S) (λ_ _ z=>nomatch z) e
theorem UV(I:Inv X aI σ H s)(S:mI z xs ys scope X.env.scope)(hj:CV X ys js)(f2:∀b∈fp,kX X aI H b)(fo:∀b∈fp,b<s.heap.objs.size)
 {h₁:Heap} {m:Str->Option Value} {tk:Nat} {oD:Obj} (hC:s.heap.objs.size<=C) (hD:s.heap.objs.size<=D) (hDC:D≠C) (hn:h₁.Ns C m) (hd:h₁.get? D=some oD) (hdd:∀v,oD.data≠.cell v) (hz:h₁.IsCell (C+1) none)
 (old:∀b o,s.heap.get? b=some o->h₁.get? b=some o):
 Inv (xT z X xs ys scope C s H fp) [(D,oD)] (kQ xs js σ) H {s with heap:=h₁,toks:=tk}:=by
 let cl:=λy c=>FU (y:=y) (c:=c) I S
 let nC:H C=none:=I.hok.fresh hC;let f:s.heap.objs.size<=C+1:=Nat.le_succ_of_le hC;let F:H (C+1)=none:=I.hok.fresh f;let w:∀x c,((z,C+1)::xA X.env scope.names []).lookup x=some c->((x==z)=true/\c=C+1)\/((x==z)=false/\X.env.cells.lookup x=some c/\c<s.heap.objs.size):=λx c h=>by
  rw[bG]at h;cases e:x==z with
  |true=>rw[e]at h;exact .inl #[rfl,(bY h).symm]
  |false=>
   rw[e]at h;let h2:=cl x c h;let⟨v,o,g,l⟩:=I.cell x c h2;exact .inr #[rfl,h2,bA g]
 let nD:H D=none:=I.hok.fresh hD;let lt_of:∀{b:Addr},b<s.heap.objs.size->b≠C:=λhb=>bL<|bQ hb hC
 let fsub:∀b,b∈frs X.stack->b∈X.env.locals::X.fs:=I.stkSub;refine#[#[I.ok.mod,?_,I.ok.glob,I.ok.blt,hC,λx y c h1 h2=>?_,λx hx=>?_,(λx c h1 h=>?_),I.ok.hd,I.ok.frames,.inl rfl,λb hb=>#[lt_of<|fo b hb,λx c h=>?_],I.bs,
  bT I.ok.bsz I.sz,λb o e hb=>?_,λb hb hf=>?_,I.stack,I.stkFree],
  rfl,I.bare,Un.kept old,#[m,hn,λi x v r d G=>?_],λx c h=>?_,nC,λx c h=>?_,λp hp=>?_,I.hok.kept old,?_]
 ·show scope.kind=_;exact S.kind
 ·rcases w x c h1 with⟨r,a⟩ |⟨r,a,lt⟩
  ·rcases w y c h2 with⟨d,_⟩ |⟨d,_,A⟩
   ·exact(eq_of_beq r).trans (eq_of_beq d).symm
   ·rw[a]at A;exact absurd A<|fk.mpr f
  ·rcases w y c h2 with⟨d,B⟩ |⟨d,B,A⟩
   ·rw[B]at lt;exact absurd lt<|fk.mpr f
   ·exact I.ok.inj x y c a B
 ·let hx:(relabel scope X.env).names.lookup x=some .cell\/(relabel scope X.env).names.lookup x=some .free:=hx;show∃c,((z,C+1)::xA X.env scope.names []).lookup x=some c;rw[bG];cases exz:x==z with
  |true=>exact#[_,rfl]
  |false=>
  let hm:(x,NameKind.free)∈scope.names:=by
   rcases hx with hx |hx
   ·rcases xF hx with z' |z'
    ·have :=S.onecell _ (dC z') rfl;rw[show x=z from this,dE]at exz;cases exz
    ·exact dC z'.1
   ·rcases xF hx with z |z
    ·exact dC z
    ·exact nomatch z.2
  exact qC scope.names []<|.inl hm
 ·rcases w x c h with⟨_,a⟩ |⟨e,_,_⟩
  ·rw[a];exact f
  ·rw[show(x==z)=true from h1]at e;cases e
 ·rcases w x c h with⟨_,a⟩ |⟨_,a,_⟩
  ·rw[a];exact GN<|bQ (fo b hb) f
  ·exact(f2 b hb).2.2.2.2.1 x c a
 ·rcases(f2 b hb).2.2.2.1 with z |z
  ·exact I.ok.noex b o e z
  ·exact absurd (bQ (bA e)<|bT I.ok.bsz z)<|dO _
 ·rcases bJ.mp (fsub b hf)with z |z
  ·exact(f2 b hb).2.1 z
  ·exact(f2 b hb).2.2.1 z
 ·let r:(xs++ys)[i]?=some x:=r;let d:(xs.map (λ_=>(none:Option V))++js.map λj=>(σ[j]?).join)[i]?=some (some v):=d;by_cases hi:i<xs.length
  ·rw[bE (by simpa using hi),aF]at d;cases q:xs[i]? with
   |none=>rw[q]at d;cases d
   |some z=>rw[q]at d;cases d
  ·rw[bI (by simpa using hi),aD,aF]at d;rw[bI (by simpa using hi)]at r;cases q:js[i-xs.length]? with
   |none=>rw[q]at d;cases d
   |some j=>
    rw[q]at d;let n:(σ[j]?).join=some v:=bY d;let hy:=hj.2 _ _ _ r q;let hσ:σ[j]?=some (some v):=by
     cases z:σ[j]? with
     |none=>rw[z]at n;cases n
     |some t=>rw[z]at n;exact cQ some n
    let J:x∈ys:=aP r;let⟨cf,ca⟩:=S.cap x J;let⟨K,_,hl⟩:=I.loc;let⟨u,L,M⟩:=hl j x v hy hσ (ca.elim (λz=>.inr<|.inl z) λz=>.inr<|.inr z);refine#[u,L,.inr #[?_,?_]]
    ·exact uG (env:=X.env) cf
    ·rcases M with⟨k,_⟩ |⟨_,c,a,zc⟩
     ·let k:X.env.scope.names.lookup x=some .local:=k;rcases ca with z' |z'<;> ·rw[k]at z';cases z'
     ·let⟨N,E⟩:=qC (env:=X.env) (y:=x) scope.names []<|.inl<|dC cf;let G:=cl x N E;rw[a]at G;cases G;let⟨o,g,l⟩:=zc;calc#[_,?_,o,old _ _ g,l];show((z,C+1)::xA X.env scope.names []).lookup x=_;rw[bG,S.ne J];exact E
 ·rcases w x c h with⟨_,a⟩ |⟨_,a,_⟩
  ·rw[a];exact#[_,hz]
  ·let⟨v,o,g,l⟩:=I.cell x c a;exact#[v,o,old _ _ g,l]
 ·rcases w x c h with⟨_,a⟩ |⟨_,a,_⟩
  ·rw[a];exact F
  ·exact I.freeC x c a
 ·let hp:p∈[(D,oD)]:=by simpa[xT]using hp
  let e:=aV.mp hp;subst e;calc#[hd,nD,hDC,λhf=>?_,hdd];let hf:D∈frs X.stack:=hf;obtain⟨o,g⟩:∃o,s.heap.get? D=some o:=by
   rcases bJ.mp (fsub D hf)with z |z
   ·let⟨K,⟨o,_,_,g,_⟩,_⟩:=I.loc;let z:D=X.env.locals:=z;exact#[o,z▸g]
   ·exact absurd z<|I.nofs hD
  exact absurd (bA g)<|fk.mpr hD
 ·show(xs.map (λ_=>(none:Option V))++js.map λj=>(σ[j]?).join).length=(xs++ys).length;rw[aK,aK,aD,aD,hj.1]
end
section
variable {xs:List Str} {scope:Scope} {elt:Expr} {pos:Pos} {g:TG}
theorem SR(hc:X.calm=true)(S:mI z xs ys scope X.env.scope)(hj:CV X ys js)(hi:PI X tg iter wi)
 (hg:∀C s₀ H₀ fp,PG (xT z X xs ys scope C s₀ H₀ fp) tg g) (hif:∀C s₀ H₀ fp,KL (xT z X xs ys scope C s₀ H₀ fp) ifs tc) (he:∀C s₀ H₀ fp,PE (xT z X xs ys scope C s₀ H₀ fp) elt te)
 {Q:VK} (I:Inv X aI σ H s) (h:am xs js wi g tc te σ H Q)
  (fin:∀D C H' s',rJ X aI σ C H' s'->Q (.ref D) H'->RR (.ref D) C (.ok .next) s'):
  wpAny (model X.prog X.w) X.A (eval iter X.env) (λx s₁=>wpAny (model X.prog X.w) X.A (pyIter x) (λit s₂=>wpAny (model X.prog X.w) X.A (newList []) (λacc s₃=>
   wpAny (model X.prog X.w) X.A (newFunctionEnv scope X.env.globals (xA X.env scope.names []) [] X.env.qual none .none<|some X.env) (λcenv s₄=>
    codeAny (model X.prog X.w) X.A (.compStart (.ListComp elt [#[tg,iter,ifs,0]] scope pos) 0 it acc {cenv with scope:=relabel scope X.env}) (RR acc cenv.locals) s₄) X.xe s₃) X.xe s₂) X.xe s₁) X.xe s:=by
 refine eI (hi aI s σ H _ I h) λv s1 h1=>eI h1 λitv s2 h2=>?_
 let⟨it,fp,tn,J,H2,e,r,T,i,t,W,⟨M,E⟩,turn⟩:=h2;subst e;let u:∀b∈fp,b<s2.heap.objs.size:=λb hb=>let ⟨o,e,_⟩:=T.obj _ _ i b hb;bA e
 calc dY<|SG S.cf S.pc ?_;dsimp only;generalize d:s2.heap.push {cls:=.type "list",dict:=none,data:=.seq ([]:List Value).toArray}=G;generalize f:(G.push {cls:=.type "dict",data:=.dict (List.toArray [])}).push {cls:=.type "cell",data:=.cell none}=h₁;let m:G.objs.size=s2.heap.objs.size+1:=by rw[←d,nX]
 let j:s2.heap.objs.size≠G.objs.size:=by rw[m];exact bL<|pS _
 let c:s2.heap.objs.size<=G.objs.size:=by rw[m];exact nT _
 let keep1:∀b o,G.get? b=some o->h₁.get? b=some o:=λb o e=>f▸aT _ (aT _ e)
 let k:h₁.Ns G.objs.size (λ_=>none):=f▸(Heap.Ns.new G<|.type "dict").keeps λb o e=>aT _ e
 let n:h₁.IsCell (G.objs.size+1) none:=by
  let q:=bR (G.push {cls:=.type "dict",data:=.dict (List.toArray [])}) (o:={cls:=.type "cell",data:=.cell none}) rfl;rw[nX,f]at q;exact#[_,q,rfl]
 let below:∀b,b<s2.heap.objs.size->b≠G.objs.size/\b≠s2.heap.objs.size:=λb hb=>#[by rw[m];exact bL<|iE hb,bL hb]
 let old:∀b o,s2.heap.get? b=some o->h₁.get? b=some o:=λb o e=>keep1 b o<|d▸aT _ e
 let l:h₁.get? s2.heap.objs.size=some (LCg.lst []):=keep1 _ _<|d▸bR _ rfl;let p:tn 0 h₁:=T.keep _ _ _ i λb _ o e=>old b o e
 let y:=UV (C:=G.objs.size) (D:=s2.heap.objs.size) (tk:=s2.toks) r S hj t u c (aG _) j k l (by intro v F;cases F) n old;generalize a:xT z X xs ys scope G.objs.size s2 H2 fp=B at y;let pB:B.prog=X.prog:=by rw[←a];rfl
 let wB:B.w=X.w:=by rw[←a];rfl
 let kB:B.K=X.K:=by rw[←a];rfl
 let aB:B.A=X.A:=by rw[←a];rfl
 let eB:B.env=compEnvC scope ((z,G.objs.size+1)::xA X.env scope.names []) G.objs.size X.env:=by rw[←a];rfl
 let cB:B.calm=true:=by rw[←a];exact hc
 let xB:B.xe=λ_ _=>False:=by rw[←a];rfl
 let gB:PG B tg g:=by rw[←a];exact hg _ _ _ _
 let iB:KL B ifs tc:=by rw[←a];exact hif _ _ _ _
 let elB:PE B elt te:=by rw[←a];exact he _ _ _ _
 let sB:B.s₀=s2:=by rw[←a];rfl
 let L:B.H₀=H2:=by rw[←a];rfl
 let fB:B.fs=frs X.stack:=by rw[←a];rfl
 let exB:B.ex=fp:=by rw[←a];rfl
 let pnB:B.pn=[]:=by rw[←a];rfl
 exact IJ (cl:=(z,G.objs.size+1)::xA X.env scope.names []) r T t E turn fin u m j c below p y pB wB kB aB eB cB xB gB iB elB sB L fB exB pnB
theorem LI{x:Str}{p' p:Pos}(hN:X.N.Nodup)(hx:X.N[i]?=some x)(hl:X.env.scope.names.lookup x=some .local)(hc:X.calm=true)(S:mI z xs ys scope X.env.scope)(hj:CV X ys js)(hi:PI X tg iter wi)
 (hg:∀C s₀ H₀ fp,PG (xT z X xs ys scope C s₀ H₀ fp) tg g) (hif:∀C s₀ H₀ fp,KL (xT z X xs ys scope C s₀ H₀ fp) ifs tc) (he:∀C s₀ H₀ fp,PE (xT z X xs ys scope C s₀ H₀ fp) elt te)
 (hsw:autoParam (swapsWith (.ListComp elt [#[tg,iter,ifs,0]] scope pos) (some<|.Name x p') p.line X.env=pure true) a1._auto_1)
 (hs:∀x,foldedSetIterable iter X.env x=pure x:=by intro _;rfl):PS X (.Assign [.Name x p'] (.ListComp elt [#[tg,iter,ifs,0]] scope pos) p) (QL (am xs js wi g tc te)<|uV i):=by
 intro aI s σ H D I h;rw[exec_Assign_Name_used _ _ _ _ hsw];calc aE<|NN<|aE ?_;show wpAny _ X.A (do let _ ←comprehension (.ListComp elt [#[tg,iter,ifs,0]] scope pos) scope X.env _ (newList []) false (eval iter X.env) (some<|assign (.Name x p') X.env)) _ _ s;calc aE (eM (rL (use:=some<|assign (.Name x p') X.env) (Q:=λ_ s'=>SP X aI D .next s') rfl hs (qS<|BY I S) S.kind S.names ?_) (λ_ s' hq=>aS<|aS hq) λ_ _ e=>e);refine SR (Q:=λv H'=>uV i v σ H' D.nx) (RR:=λacc C=>compPost (model X.prog X.w) X.A X.xe (some<|assign (.Name x p') X.env) (λ_ s'=>SP X aI D .next s') acc C) hc S hj hi hg hif he I h λA C H' s' L q=>?_
 show wpAny _ X.A (assign (.Name x p') X.env<|.ref A) _ _ _;calc fg (kG (v:=.ref A) L.inv hN hx (.inl hl) rfl (λj d y=>?_)<|.inr hl);let⟨a,f,ha⟩:=y;let cne:∀{b:Addr},(b=X.env.locals\/X.env.cells.lookup x=some b)->C≠b:=λz e=>by
  rcases z with z |z
  ·exact L.ne<|e.trans z
  ·exact L.cells x _ z e.symm
 let⟨m,hn⟩:=L.ns;calc#[m,hn.sameBut f<|cne ha,λh'' c=>#[_,_,?_,q]];exact rJ.gone #[d,#[m,hn.sameBut f<|cne ha],L.free,L.ne,L.up,L.cells,L.pin] c
end
noncomputable def ME(z:Str)(xs ys:List Str)(scope fK:Scope):Bool:=
 (scope.kind==.function)&&decide (xs++ys).Nodup&&(scope.names.lookup z==some .cell)&&
 ys.all (λy=>(scope.names.lookup y==some .free)&&((fK.names.lookup y==some .cell) ||(fK.names.lookup y==some .free)))&&
 scope.names.all (λy=>((y.2 !=.cell) ||(y.1==z))&&((y.2 !=.local) ||(scope.names.lookup y.1==some .local))&&((y.2 !=.free) ||ys.contains y.1))
theorem ME.scope{xs:List Str}{scope fK:Scope}(h:ME z xs ys scope fK=true)(cf:∀n cl,cellsFrom n scope.names cl=(z,n)::cl)(pc:∀h,pushCells h scope.names=h.push {cls:=.type "cell",data:=.cell none}):mI z xs ys scope fK:=by
 unfold ME at h;simp only[bU,cI,bS,cF,lH,bne_iff_ne,List.contains_iff_mem]at h;let⟨⟨⟨⟨h1,h2⟩,b⟩,c⟩,a⟩:=h;exact#[h1,h2,b,c,λy hy hl=>(a y hy).1.1.resolve_left (λz=>z hl),λy hy hl=>(a y hy).1.2.resolve_left (λz=>z hl),λy hy hf=>(a y hy).2.resolve_left (λz=>z hf),cf,pc]
section
variable {xs:List Str} {scope:Scope} {elt:Expr} {pos:Pos} {g:TG}
theorem PM{x:Str}{p' p:Pos}(z:Str)(xs ys:List Str)(js:List Nat)(hN:X.N.Nodup)(hx:X.N[i]?=some x)(hi:PI X tg iter wi)
 (hg:∀C s₀ H₀ fp,(xs++ys).Nodup->PG (xT z X xs ys scope C s₀ H₀ fp) tg g) (hif:∀C s₀ H₀ fp,KL (xT z X xs ys scope C s₀ H₀ fp) ifs tc) (he:∀C s₀ H₀ fp,PE (xT z X xs ys scope C s₀ H₀ fp) elt te)
 (hl:autoParam (X.env.scope.names.lookup x=some .local) a1._auto_1) (hc:autoParam (X.calm=true) a1._auto_1) (S:autoParam (ME z xs ys scope X.env.scope=true) a1._auto_1) (hj:autoParam (pK X.N ys js=true) a1._auto_1) (cf:∀n cl,cellsFrom n scope.names cl=(z,n)::cl:=by intro _ _;rfl) (pc:∀h,pushCells h scope.names=h.push {cls:=.type "cell",data:=.cell none}:=by intro _;rfl)
 (hsw:autoParam (swapsWith (.ListComp elt [#[tg,iter,ifs,0]] scope pos) (some<|.Name x p') p.line X.env=pure true) a1._auto_1)
 (hs:∀x,foldedSetIterable iter X.env x=pure x:=by intro _;rfl):PS X (.Assign [.Name x p'] (.ListComp elt [#[tg,iter,ifs,0]] scope pos) p) (QL (am xs js wi g tc te)<|uV i):=
 LI hN hx hl hc (ME.scope S cf pc) (pK.caps hj) hi (λC s₀ H₀ fp=>hg C s₀ H₀ fp (ME.scope S cf pc).nd) hif he hsw hs
end
end
section
open PySem.SeqAt
def SqH(b:Bool)(h:Heap)(l:Addr)(xs:Array Value):Prop:=match b with
 |true=>h.IsTuple l xs
 |false=>h.IsList l xs
def SqI(b:Bool)(h:Heap)(it l:Addr)(i:Nat):Prop:=match b with
 |true=>h.IsTupleIter it l i
 |false=>h.IsListIter it l i
theorem SqI.keep{b:Bool}(x:SqI b h it l i)(e:∀o,h.get? it=some o->h'.get? it=some o):SqI b h' it l i:=by
 cases b with
 |true=>let⟨o,a,r⟩:=x;exact#[o,e _ a,r]
 |false=>let⟨o,a,r⟩:=x;exact#[o,e _ a,r]
theorem SqH.keep{b:Bool}{xs:Array Value}(x:SqH b h l xs)(e:∀o,h.get? l=some o->h'.get? l=some o):SqH b h' l xs:=by
 cases b with
 |true=>let⟨o,a,r⟩:=x;exact#[o,e _ a,r]
 |false=>let⟨o,a,r⟩:=x;exact#[o,e _ a,r]
section
variable {b1 b2:Bool}
end
end
section
open PySem.W
theorem LO:oC X (compareOp .LtE) (λx y H Q=>∃i j,x=.str i/\y=.str j/\Q (.bl<|!decide (j.cps.toList<i.cps.toList)) H):=by
 intro aI s σ H x y v u Q I a b h;let⟨i,j,rfl,rfl,q⟩:=h;let⟨t,rfl⟩:=a;let⟨t',rfl⟩:=b;exact PySem.P.le_str<|zR I q rfl
set_option maxHeartbeats 4000000
end
theorem eT.there{o:HO}(x:eT P w H h a o):∃ob,h.get? a=some ob:=by
 cases o with
 |lst xs=>let⟨_,_,_,_,e⟩:=x;exact#[_,e]
 |tup xs=>let⟨_,_,_,ob,e,_⟩:=x;exact#[_,e]
 |dK kvs=>let⟨_,_,_,_,o,_,_,e,_⟩:=x;exact#[_,e]
 |dT kvs=>let⟨_,_,_,_,o,_,_,e,_⟩:=x;exact#[_,e]
 |set S n=>let⟨o,_,_,_,e,_⟩:=x;exact#[_,e]
 |ins C dx fs=>let⟨_,_,_,e,_⟩:=x;exact#[_,e]
 |own y=>exact x
 |xd fs=>let⟨_,⟨_,_,_,e,_⟩,_⟩:=x;exact#[_,e]
 |rng lo hi=>let⟨_,_,_,e⟩:=x;exact#[_,e]
 |frz ob u=>let⟨e,_⟩:=x;exact#[_,e]
 |tbl ps=>exact#[_,show h.get? a=some _ from x]
 |met f y=>exact#[_,show h.get? a=some _ from x]
 |ext φ=>let⟨_,e,_⟩:=x;exact e
structure Fl(P:Program)(w:World)(l:List Env)(H:Hp)(h:Heap)(e C:Addr)(a0:Value)(B:Heap)(H':Hp)(h':Heap):Prop where
 fly:Heap.FlyingW B l e (.ref C) a0 h'
 stay:∀b o,h.get? b=some o->b∉frs l->∃o',B.get? b=some o'/\(H b=none->o'=o)
 slot:∀b o,h.get? b=some o->H b=none->b∈frs l->∃sl,h'.get? b=some {o with slots:=sl}
 free:∀b o,h.get? b=some o->H b=none->H' b=none
 hok:iX P w H' B
 ef:H' e=none
 tups:∀b xs,H b=some (.tup xs)->H' b=some (.tup xs)
 frzs:∀b o u,H b=some (.frz o u)->H' b=some (.frz o u)
 tbls:∀b ps,H b=some (.tbl ps)->∃more,H' b=some (.tbl<|ps++more)
section
variable {l:List Env} {h'' B:Heap} {e C:Addr} {a0:Value}
theorem Fl.un(x:Fl P w l H h e C a0 B H' h'):Un (frs l) [] H H' h h' where
 keep:=λb o q n hb _=>by
  let⟨o',a,c⟩:=x.stay b o q hb;rw[c n]at a;exact x.fly.1 b o a
 slot:=λb o q n hb _=>x.slot b o q n hb
 free:=λb o q n _=>x.free b o q n
 there:=λb o q _=>by
  by_cases hb:b∈frs l
  ·let⟨_,o',c,_⟩:=x.fly.2.2.1.mem hb;exact#[o',c]
  ·let⟨o',a,_⟩:=x.stay b o q hb;exact#[o',x.fly.1 b o' a]
 tups:=x.tups
 frzs:=x.frzs
 tbls:=x.tbls
theorem Fl.okH(x:Fl P w l H h e C a0 B H' h'):iX P w H' h':=x.hok.kept x.fly.1
theorem Fl.step(x:Fl P w l H h e C a0 B H' h')(f:Heap.FlyingW B l e (.ref C) a0 h'')(u:h'.UpToSlots h''):Fl P w l H h e C a0 B H' h'':=
 #[f,x.stay,λb o q n hb=>by
  let⟨sl,h1⟩:=x.slot b o q n hb;let⟨_,d,h2,hd⟩:=x.fly.2.2.1.mem hb;rw[h1]at h2;cases h2;let⟨a,c⟩:=u b _ h1 hd;exact#[a,c],x.free,x.hok,x.ef,x.tups,x.frzs,x.tbls]
end
noncomputable def pU(P:Program)(w:World):WX:=λouter H s E e s'=>∃(ea C:Addr)(a0:Value)(B:Heap)(H':Hp),e=.ref ea/\s'.os=s.os/\AllBare s'.gens/\Fl P w outer H s.heap ea C a0 B H' s'.heap/\E (.ref C) none H'
structure GI(X:Cx):Prop where
 stk:X.stack=X.env::X.outer
 ex:X.ex=[]
 fr:X.env.frame=some X.env.locals
 new:X.s₀.heap.get? X.env.locals=none
section
variable {Hc:Hp} {sc:Shared} {B h'':Heap} {e C:Addr} {a0:Value}
theorem GI.frs(b:GI X):frs X.stack=X.env.locals::L2.frs X.outer:=by
 rw[b.stk];show(X.env::X.outer).filterMap (·.frame)=_;rw[oK,b.fr];rfl
theorem Fl.up(b:GI X)(I:Inv X aI σ Hc sc)(x:Fl X.prog X.w X.stack Hc sc.heap e C a0 B H' s'.heap)(f:Heap.FlyingW B X.outer e (.ref C) a0 h'')(u:s'.heap.UpToSlots h''):
 Fl X.prog X.w X.outer X.H₀ X.s₀.heap e C a0 B H' h'':=by
 let nex:∀c:Addr,c∉X.ex:=λc z=>by rw[b.ex]at z;cases z
 let nL:∀c o,X.s₀.heap.get? c=some o->c≠X.env.locals:=λc o hc z=>by rw[z,b.new]at hc;cases hc
 refine#[f,λc o hc hn=>?_,λc o hc a hn=>?_,λc o hc a=>?_,x.hok,x.ef,λc xs q=>x.tups _ _<|I.base.tups _ _ q,λc o v q=>x.frzs _ _ _<|I.base.frzs _ _ _ q,λc ps q=>?_]
 ·let⟨d,h1⟩:=I.base.there c o hc<|nex c;let⟨o',i,j⟩:=x.stay c d h1 (by rw[b.frs];calc λz=>(bJ.mp z).elim (nL c o hc) hn);calc#[o',i,λa=>?_];let h2:=I.base.keep c o hc a hn<|nex c;rw[h1]at h2;cases h2;exact j<|I.base.free c o hc a<|nex c
 ·let⟨sl,h1⟩:=I.base.slot c o hc a hn<|nex c;let hm:c∈L2.frs X.stack:=by rw[b.frs];exact aX _ hn
  let⟨k,h2⟩:=x.slot c _ h1 (I.base.free c o hc a<|nex c) hm;let⟨_,r,h,hd⟩:=x.fly.2.2.1.mem hm;rw[h2]at h;cases h;let⟨g,l⟩:=u c _ h2 hd;exact#[g,l]
 ·let⟨d,h1⟩:=I.base.there c o hc<|nex c;exact x.free c d h1<|I.base.free c o hc a<|nex c
 ·let⟨m1,m⟩:=I.base.tbls _ _ q;let⟨n,p⟩:=x.tbls _ _ m;exact#[m1++n,by rw[p,DD]]
theorem Fl.made(b:GI X)(I:Inv X aI σ H s){vs:List Value}{t:Addr}(hx:Heap.MadeExcOf s.heap s'.heap e (.ref C) vs)
 (f:Heap.FlyingW (W.hideAll s.heap<|L2.frs X.stack) X.outer e (.ref C) (.ref t) h'') (u:s'.heap.UpToSlots h''):
 Fl X.prog X.w X.outer X.H₀ X.s₀.heap e C (.ref t) (W.hideAll s.heap<|L2.frs X.stack) H h'':=by
 let nex:∀c:Addr,c∉X.ex:=λc z=>by rw[b.ex]at z;cases z
 let nL:∀c o,X.s₀.heap.get? c=some o->c≠X.env.locals:=λc o hc z=>by rw[z,b.new]at hc;cases hc
 let ok:iX X.prog X.w H (W.hideAll s.heap<|L2.frs X.stack):=λa o ha=>by
  calc(I.hok a o ha).stay (λc v hc q=>sP _ q λz=>?_) (λ_ q=>q) (λ_ _ q=>q);let hz:=I.stkFree c z;rcases hc with rfl |hc
  ·rw[ha]at hz;cases hz
  ·rw[hc]at hz;cases hz
 refine#[f,λc o hc hn=>?_,λc o hc d hn=>?_,λc o hc d=>I.base.free c o hc d<|nex c,ok,?_,I.base.tups,I.base.frzs,I.base.tbls]
 ·let⟨j,h1⟩:=I.base.there c o hc<|nex c;calc#[j,sP _ h1 (by rw[b.frs];calc λz=>(bJ.mp z).elim (nL c o hc) hn),λd=>?_];let h2:=I.base.keep c o hc d hn<|nex c;rw[h1]at h2;cases h2;rfl
 ·let⟨sl,h1⟩:=I.base.slot c o hc d hn<|nex c;let hm:c∈L2.frs X.stack:=by rw[b.frs];exact aX _ hn
  let⟨_,l,h,hd⟩:=I.stack.mem hm;rw[h1]at h;cases h;let⟨g,k⟩:=u c _ (hx.keeps c _ h1) hd;exact#[g,k]
 ·cases q:H e with
  |none=>rfl
  |some o=>
   let⟨o',i⟩:=(I.hok e o q).there;rw[hx.new]at i;cases i
end
section
variable {scope:Scope} {E:XK}
theorem KA:GI (jX CX P w K mg base N qual scope f cd A outer s₀ H₀ E):=#[rfl,rfl,rfl,GR<|aG _]
def OD(C:Addr)(E:XK)(t:TA):TS:=λ_ σ H=>t σ H λvs H1=>vs.length<=sizeLine/\E (.ref C) none H1
theorem PJ{x:Str}{C:Addr}{bm:List Value}{B newId initId:String}{e₀:Expr}{gY:List Expr}{t:TA}{np gA pos:Pos}
 (O:OwnCls x C bm newId mg base) (FB:ExcBaseFacts B newId initId bm) (hg:Gl (jX (pU P w) P w K mg base N qual scope f cd A outer s₀ H₀ E) x) (hm:mg x=some (.ref C))
 (ha:PA (jX (pU P w) P w K mg base N qual scope f cd A outer s₀ H₀ E) (e₀::gY) t)
 (he:autoParam (starEach (e₀::gY) (envOfC qual scope s₀.heap.objs.size f cd)=(false,eval e₀<|envOfC qual scope s₀.heap.objs.size f cd)::starEach gY (envOfC qual scope s₀.heap.objs.size f cd)) a1._auto_1)
 (iK:autoParam ((backTo gA<|starEach gY<|envOfC qual scope s₀.heap.objs.size f cd).any (·.1)=false) a1._auto_1) (hd:autoParam ((x==("__debug__":Str))=false) a2._auto_1):
 PS (jX (pU P w) P w K mg base N qual scope f cd A outer s₀ H₀ E) (.Raise (some<|.Call (.Name x np) (e₀::gY) [] gA) none pos) (OD C E t):=by
 intro aI s σ H D I h;let⟨tl,N',nm,q,bs,hdct,sn,sub,ab,col,dd,k0,k1,k2,k3,k5,mN,g,i,c,T⟩:=O.obj;refine wpAny_Raise_call_subT (C:=C) (nm:=nm) (q:=q) (N:=N') (bs:=bs) (bm:=tl) (hdct:=hdct) (sn:=sn) (sub:=sub) (ab:=ab) (col:=col) (dd:=dd) (k0:=k0) (k1:=k1) (k2:=k2)
  (k3:=k3) (k5:=k5) FB (mN:=mN) (T.hasType FB.hasBase) (I.ok.hd rfl) ?_ c (vQ I hg hm #[rfl,?_] hd)
 ·show(backTo gA<|starEach (e₀::gY)<|envOfC qual scope s₀.heap.objs.size f cd).any (·.1)=false;rw[he];show(false ||(backTo gA<|starEach gY<|envOfC qual scope s₀.heap.objs.size f cd).any (·.1))=false;rw[iK];rfl
 let d:wpAny (model P w) (A.deeper<|envOfC qual scope s₀.heap.objs.size f cd) (spliced<|backTo gA<|starEach (e₀::gY)<|envOfC qual scope s₀.heap.objs.size f cd) _ _ s:=ha gA aI s σ H _ I h;show wpAny (model P w) (A.deeper<|envOfC qual scope s₀.heap.objs.size f cd) (evalArgs (.ref C) true (backTo gA<|starEach (e₀::gY)<|envOfC qual scope s₀.heap.objs.size f cd) []) _ _ s;rw[he]at d⊢;calc lE (eM d (λus s2 z=>?_) λ_ _ y=>y);let⟨vs,H1,a,r,hl,j⟩:=z;calc#[rfl,by rw[←r.length];exact hl,a.bk _ _ g,i.keeps a.bk,T.keeps a.bk,λh' e hm=>?_];refine wpAny_leaves_madeW (base:=W.hideAll s2.heap<|frs (envOfC qual scope s₀.heap.objs.size f cd::outer)) (h:=s2.heap) a.ok.frames rfl (λb o q=>W.of_hideAll _ q)
  (W.funFrames_hide a.stack λenv he b hb=>gQ.mpr #[env,he,hb]) hm λh2 t k _ _ l=>?_
 exact#[e,C,.ref t,_,H1,rfl,a.os,a.bare,Fl.made (s':={s2 with heap:=h'}) KA a hm k l,j]
theorem ij:wE (pU P w) (jX (pU P w) P w K mg base N qual scope f cd A outer s₀ H₀ E) E:=λaI σ H s e s' I h=>by
 let⟨a,C,a0,B,H',rfl,os,bare,x,q⟩:=h;exact wpAny_leaves_onW I.ok.frames rfl x.fly λh2 b c=>#[a,C,a0,B,H',rfl,os.trans I.os,bare,Fl.up (s':=s') KA I x b c,q]
end
theorem fR.okX{x:Str}{k:Nat}(F:fR K x qual st f fd)(S:bP N ps (zF st))(len:∀vs H Q E,sp vs H Q E->vs.length=ps.length)
 (hbody:∀(eP:Value)(A:Around)(outer:List Env)(s:Shared)(H:Hp)(vs:List V)(Q:VK)(E:XK),fV k (A.deeper<|envOfC qual (zF st) s.heap.objs.size f eP)->sp vs H Q E->
  ∃t,sU (jX (pU P w) P w K mg base N qual (zF st) f eP A outer s H E) (yS st) t/\t {nx:=λ_ H'=>Q .non H',rt:=Q} (uU N vs) H):cW P w K mg base (pU P w) (k+1) f fd ps sp:=by
 let⟨oc,od,kV,doc,pm,an,eP,ct,osl,rfl,c,a⟩:=F.ex;exact ir c a S len λA outer s H vs Q E hr b=>hbody eP A outer s H vs Q E hr b
structure oE(P:Program)(w:World)(K:W.Frag)(mg:Str->Option Value)(base:Heap)(k:Nat)(x:Str)(ps:List Str)(sp:Sp):Prop where
 ex:∃f fd,cW P w K mg base (pU P w) k f fd ps sp/\Binds K fd ps []/\W.keepIn K (.ref f)=true/\mg x=some (.ref f)
theorem uN{x:Str}{k:Nat}(F:fR K x qual st f fd)(h:cW P w K mg base (pU P w) k f fd ps sp)(b:Binds K fd ps [])(m:mg x=some (.ref f)):oE P w K mg base k x ps sp:=#[f,fd,h,b,F.kp,m]
theorem qY{scope:Scope}{E:XK}
 {k:Nat} {x:Str} {t:TA} {p pos:Pos} (h:oE P w K mg base k x ps sp) (hr:fV k (A.deeper<|envOfC qual scope s₀.heap.objs.size f cd))
 (hg:Gl (jX (pU P w) P w K mg base N qual scope f cd A outer s₀ H₀ E) x) (ha:PA (jX (pU P w) P w K mg base N qual scope f cd A outer s₀ H₀ E) (e::es) t) (hdb:autoParam ((x==("__debug__":Str))=false) a2._auto_1)
 (he:autoParam (starEach (e::es) (envOfC qual scope s₀.heap.objs.size f cd)=(false,eval e<|envOfC qual scope s₀.heap.objs.size f cd)::starEach es (envOfC qual scope s₀.heap.objs.size f cd)) a1._auto_1)
 (iK:autoParam ((backTo pos<|starEach es<|envOfC qual scope s₀.heap.objs.size f cd).any (·.1)=false) a1._auto_1):
 PE (jX (pU P w) P w K mg base N qual scope f cd A outer s₀ H₀ E) (.Call (.Name x p) (e::es) [] pos) (JG sp [] E t):=by
 let⟨a,fd,F,b,kp,m⟩:=h.ex;exact IA F hr hg m kp b .nil ij ha hdb he iK
abbrev TX:=(St->Hp->Prop)->(Addr->Hp->Prop)->St->Hp->Prop
def XP(X:Cx)(aI:List (Addr×Obj))(σ:St)(Qx:Addr->Hp->Prop)(e:Value)(s':Shared):Prop:=
 ∃(Hc:Hp)(sc:Shared)(ea C:Addr)(a0:Value)(B:Heap)(H':Hp),e=.ref ea/\Inv X aI σ Hc sc/\s'.os=sc.os/\AllBare s'.gens/\Fl X.prog X.w X.stack Hc sc.heap ea C a0 B H' s'.heap/\Qx C H'
def PX(X:Cx)(st:List Stmt)(t:TX):Prop:=
 ∀(aI:List (Addr×Obj)) (s:Shared) (σ:St) (H:Hp) (Qn:St->Hp->Prop) (Qx:Addr->Hp->Prop),Inv X aI σ H s->t Qn Qx σ H->
  wpAny (model X.prog X.w) X.A (execs st X.env) (λf s1=>f=.next/\∃σ' H',Inv X aI σ' H' s1/\Qn σ' H') (XP X aI σ Qx) s
section
variable {k:Nat} {x y:Str} {p pos pos2:Pos} {t:TA}
noncomputable def f7(i:Nat)(sp:Sp)(t:TA):TX:=λQn Qx σ H=>t σ H λvs H1=>sp vs H1 (λv H2=>Qn (σ.set i<|some v) H2) λc _ H2=>∃C,c=.ref C/\Qx C H2
theorem lw(hxe:X.xe=λ_ _=>False)(h:oE X.prog X.w X.K X.mg X.base k x ps sp)(hr:fV k X.A)(hg:Gl X x)(hN:X.N.Nodup)(hi:X.N[i]?=some y)(hy:Loc X.env.scope y)(ha:PA X (e::es) t)
 (hs:autoParam (swapsWith (.Call (.Name x p) (e::es) [] pos) (some<|.Name y pos') pos2.line X.env=pure false) a1._auto_1) (hf:X.fn y=true\/X.env.scope.names.lookup y=some .local:=by first |exact .inl rfl |exact .inr rfl |assumption)
 (hdb:autoParam ((x==("__debug__":Str))=false) a2._auto_1)
 (he:autoParam (starEach (e::es) X.env=(false,eval e X.env)::starEach es X.env) a1._auto_1) (iK:autoParam ((backTo pos<|starEach es X.env).any (·.1)=false) a1._auto_1):
 PX X [.Assign [.Name y pos'] (.Call (.Name x p) (e::es) [] pos) pos2] (f7 i sp t):=by
 intro aI s σ H Qn Qx I hq;let⟨f,fd,F,hb,hk,hm⟩:=h.ex;let d:=ha pos aI s σ H _ I hq;rw[hxe]at d;refine wpAny_execs_cons (eM (Q:=λb s1=>b=.next/\∃σ' H',Inv X aI σ' H' s1/\Qn σ' H') ?_ (λb s1 z=>?_) λ_ _ z=>z)
 ·refine wpAny_Assign_Name (eM (Q:=EP X aI σ λv H2=>Qn (σ.set i<|some v) H2) ?_ (λv s1 z=>?_) λ_ _ z=>z) hs
  ·calc eW<|vQ I hg hm ?_ hdb;calc lM (h₀:=X.base) I.ok.mod.kin hk (eM d (λus s1 z=>?_) λ_ _ z=>z.elim) he iK;let⟨vs,H1,a,r,q⟩:=z;calc#[a.kIn,?_];let hl:us.length=ps.length:=by rw[←r.length];exact F.len _ _ _ _ q
   let c:=hb s1 us a.kIn (by rw[cE];calc hl);rw[cE]at c;calc wpAny_call (nO (F.run X.A X.stack s1 H1 #[us,[]] us vs _ _ hr a.env0 c r q) λg s2 z=>?_);cases g with
   |error ev=>
    let⟨j,C,a0,B,H',rfl,os,bare,b,D,eC,l⟩:=z;cases eC;exact#[H1,s1,j,C,a0,B,H',rfl,a,os,bare,b,l]
   |ok b=>
    cases b with
    |ret u=>exact a.after z
    |next=>exact False.elim z
    |brk=>exact False.elim z
    |cont=>exact False.elim z
  ·let⟨v',H1,a,m,n⟩:=z;exact uZ a hN hi hy m (λs2 o=>#[rfl,_,H1,o,n]) hf
 ·let⟨rfl,z⟩:=z;exact mL #[rfl,z]
end
noncomputable def xO(e C:Addr):HO:=.ext λh=>∃o vs,h.get? e=some o/\o.cls=.ref C/\o.data=.fields vs
abbrev Cx.held(X:Cx)(e:Addr):Cx:={X with A:=X.A.mark (some<|.ref e),calm:=false}
theorem Inv.held(I:Inv X aI σ H s)(e:Addr):Inv (X.held e) aI σ H s:=
 #[#[I.ok.mod,I.ok.kind,I.ok.glob,I.ok.blt,I.ok.above,I.ok.inj,I.ok.has,I.ok.cab,(λz=>nomatch z),I.ok.frames,I.ok.stk,I.ok.exf,I.ok.bs,I.ok.bsz,I.ok.noex,I.ok.exfs,I.ok.funs,I.ok.frf],I.os,I.bare,I.base,I.loc,I.cell,I.free,I.freeC,I.pin,I.hok,I.len]
theorem Inv.unheld{e:Addr}(ok:X.Ok)(I:Inv (X.held e) aI σ H s):Inv X aI σ H s:=#[ok,I.os,I.bare,I.base,I.loc,I.cell,I.free,I.freeC,I.pin,I.hok,I.len]
theorem Inv.gone{x:Str}{pos:Pos}{Q:Unit->Shared->Prop}(I:Inv X aI σ H s)(hN:X.N.Nodup)(hi:X.N[i]?=some x)(hk:X.env.scope.names.lookup x=some .local)
 (h:∀s',Inv X aI (σ.set i none) H s'->Q Unit.unit s'):wpAny M A (do bindName X.env x .none;unbindBehindTheSuite X.env x pos) Q E s:=by
 let⟨m,hn,hl⟩:=id I.loc;let f:(X.env.scope.kind==.class ||(X.env.scope.kind==.module&&X.env.locals !=X.env.globals))=false:=by rw[I.ok.kind];rfl
 let hiσ:i<σ.length:=by rw[I.len];exact(aC.mp hi).1
 let cne:=I.cne;let neL:∀b o,X.s₀.heap.get? b=some o->b≠X.env.locals:=λb o e=>bL<|bQ (bA e) I.ok.above
 refine wpAny_nameGoes_keeps hk hn f λh' v l hs=>?_
 let ok:iX X.prog X.w H h':=λb u e=>by
  refine(I.hok b u e).stay (λc t hc q=>(hs.2 c ?_).trans q) (λ_ q=>q) λ_ _ q=>q
  rintro rfl;have :=I.free;rcases hc with rfl |hc
  ·rw[this]at e;cases e
  ·rw[this]at hc;cases hc
 refine h _ #[I.ok,I.os,I.bare,#[λb o e n hb hx=>(hs.2 b<|neL b o e).trans (I.base.keep b o e n hb hx),λb o e n hb hx=>?_,I.base.free,λb o e hx=>?_,I.base.tups,I.base.frzs,I.base.tbls],#[_,l,λj y v' a g B=>?_],λy c e=>?_,I.free,I.freeC,λp hp=>?_,ok,by simpa using I.len]
 ·let⟨sl,a⟩:=I.base.slot b o e n hb hx;exact#[sl,(hs.2 b<|neL b o e).trans a]
 ·let⟨o',a⟩:=I.base.there b o e hx;exact#[o',(hs.2 b<|neL b o e).trans a]
 ·by_cases r:j=i
  ·subst r;rw[eX hiσ]at g;cases g
  ·rw[dZ<|bX r]at g;let⟨C,D,q⟩:=hl j y v' a g B;calc#[C,D,?_];rcases q with⟨k,e⟩ |⟨k,c,e,z⟩
   ·calc .inl #[k,?_];have :y≠x:=λe=>r<|YW hN a<|e▸hi
    simp[this,e]
   ·exact .inr #[k,c,e,z.sameBut hs<|cne y c e]
 ·let⟨t,z⟩:=I.cell y c e;exact#[t,z.sameBut hs<|cne y c e]
 ·let⟨e,n,ne,F,d⟩:=I.pin p hp;exact#[(hs.2 p.1 ne).trans e,n,ne,F,d]
noncomputable def tG(K:W.Frag)(C:Addr)(v:Value):Option Bool:=
 if W.ktsIn K C "BaseException"=true then
  match K.lookup C with
  |some ⟨_,_,.cls k,_⟩=>some<|k.mro.contains v
  |_=>none
 else none
theorem GW{C:Addr}{v:Value}{b:Bool}(X:K.In h)(q:tG K C v=some b):∃nm qn N bs bm hdct sn sub ab col dd k0 k1 k2 k3 k5 newId,
 h.get? C=some (excClassObj nm qn C N bs bm hdct sn sub ab col dd k0 k1 k2 k3 k5 newId)/\bm.contains (.type "BaseException")=true/\(Value.ref C::bm).contains v=b:=by
 unfold tG at q;split at q
 ·rename_i hk
  let⟨nm,qn,N,bs,bm,hdct,sn,sub,ab,col,dd,k0,k1,k2,k3,k5,newId,a,c,_⟩:=W.kts_cls X hk;calc#[nm,qn,N,bs,bm,hdct,sn,sub,ab,col,dd,k0,k1,k2,k3,k5,newId,a,c,?_];split at q
  ·rename_i d
   let z:=(X _ _ d).symm.trans a;simp only[pG,Obj.mk.injEq,Data.cls.injEq]at z;let⟨_,_,rfl,_⟩:=z;exact bY q
  ·cases q
 ·cases q
section
variable {nm q nm' q':Str} {C N D N':Addr} {bs bm bs' bm':List Value} {hdct hdct':Bool} {sn sn':List Str} {sub sub':List Value} {ab ab':Bool} {col col':Option Bool} {dd dd':Option Addr} {k0 k1 k2 k3 k5 j0 j1 j2 j3 j5:Option Value} {newId newId':String}
theorem MD{g:Array GenState}{d:Drawn}{t:Nat}{os:OsState}{e:Addr}{oe:Obj}{Q:Bool->Shared->Prop}{b:Bool}
 (hC:h.get? C=some (excClassObj nm q C N bs bm hdct sn sub ab col dd k0 k1 k2 k3 k5 newId)) (hD:h.get? D=some (excClassObj nm' q' D N' bs' bm' hdct' sn' sub' ab' col' dd' j0 j1 j2 j3 j5 newId'))
 (he:h.get? e=some oe) (hcls:oe.cls=.ref C) (hbase:bm'.contains (.type "BaseException")=true) (hb:(Value.ref C::bm).contains (.ref D)=b) (hq:Q b #[h,g,d,t,os]):
 wpAny M A (excMatches (.ref e)<|.ref D) Q E #[h,g,d,t,os]:=by
 let a:(Value.ref D::bm').contains (.type "BaseException")=true:=by rw[List.contains_cons,hbase,Bool.or_true]
 let fT:=tc_notTuple;unfold excMatches
 repeat (first
  |(with_reducible refine wpAny_loadPart_at he ?_
    rw[hcls])
  |with_reducible refine wpAny_loadPart_at hD ?_
  |(with_reducible refine wpAny_isSubtype_exc hD ?_
    rw[a])
  |(with_reducible refine wpAny_isSubtype_exc hC ?_
    rw[hb])
  |wp_step)
 cases b<;>(wp_walk;calc hq)
end
theorem l9{x:Str}{C:Addr}{bmB:List Value}{newId:String}(X:K.In h)(hm:mg x=some (.ref C))(q:W.excIn K C bmB newId=true):OwnCls x C bmB newId mg h:=by
 calc#[hm,?_];unfold W.excIn at q;split at q
 rotate_left
 ·cases q
 rename_i dict klass slots look
 split at q
 rotate_left
 ·cases q
 rename_i C2 tail a0 e f g nid i b es
 simp only[cI,bU,GU]at q;let⟨⟨⟨⟨⟨j,k⟩,c⟩,m⟩,a⟩,d⟩:=q;subst j k;let⟨nm,bs,mro,ns,n,hd,sn,sub,ab,col,del⟩:=klass;let⟨l⟩:=slots;dsimp only at b es c a d;subst b c es;exact#[tail,ns,nm,n,bs,hd,sn,sub,ab,col,dict,a0,e,f,g,i,_,X _ _ look,.of_isNs<|W.isNs_of_in X a,
  W.nsMap_none_of_in X a d,W.tail_of_in X m]
section
variable {y n:Str} {D0:Addr} {bD:Bool} {tb:TX} {th:TS} {suite:List Stmt} {b₀:Stmt} {np hpos pos:Pos}
def tTry(i:Nat)(cat:Addr->Prop)(tb:TX)(th:TS):TS:=λD σ H=>tb D.nx (λC H'=>cat C/\∀ea,H' ea=none->
 th {nx:=λσ' H2=>D.nx (σ'.set i none) H2,rt:=λ_ _=>False} (σ.set i<|some<|.ref ea) (upd H' ea<|xO ea C)) σ H
theorem ly(B:GI X)(hN:X.N.Nodup)(hi:X.N[i]?=some n)(hn:X.env.scope.names.lookup n=some .local)(hg:Gl X y)(hm:X.mg y=some (.ref D0))(hD:tG X.K D0 (.type "BaseException")=some bD)
 (hxe:X.xe=λ_ _=>False) (hb:PX X body tb) (hh:∀ea,sU (X.held ea) (b₀::suite) th) (hd:autoParam ((y==("__debug__":Str))=false) a2._auto_1):
 PS X (.Try body [.ExceptHandler (some<|.Name y np) (some n) (b₀::suite) hpos] [] [] pos) (tTry i (λC=>tG X.K C (.ref D0)=some true) tb th):=by
 intro aI s σ H D I h;refine wpAny_Try_except (eM (hb aI s σ H _ _ I h) (λf s1 z=>?_) λe s1 z=>?_)
 ·let⟨rfl,σ',H',I',q⟩:=z;exact mL #[σ',H',I',q]
 let⟨Hc,sc,ea,C,a0,Bs,H',rfl,Ic,os,bare,x,g,q⟩:=z;let G:X.A.frames=some (X.env::X.outer):=by rw[←B.stk];exact I.ok.frames
 let J:Heap.FlyingW Bs (X.env::X.outer) ea (.ref C) a0 s1.heap:=by rw[←B.stk];exact x.fly
 refine wpAny_looks_onW G B.fr J λE d u4=>?_
 refine wpAny_landsW d λL j u5=>?_
 let F:Fl X.prog X.w X.stack Hc sc.heap ea C a0 Bs H' L:=x.step (by rw[B.stk];calc j)<|u4.trans u5;let M:Inv X aI σ H' {s1 with heap:=L}:=Ic.call' (s':={s1 with heap:=L}) (ch:=[]) os F.un F.okH bare (λb z=>by cases z);calc wpAny_handleBy_cons (codeAny_handlers_test<|vQ (M.held ea) hg hm ?_ hd) (by intro q;cases q);let⟨nm,qn,N,bs,bm,hdct,sn,sub,ab,col,dd,k0,k1,k2,k3,k5,newId,hC,hCB,O⟩:=GW M.kIn g;let⟨nm',qn',N',bs',bm',hdct',sn',sub',ab',col',dd',j0,j1,j2,j3,j5,newId',P,Q,_⟩:=GW M.kIn hD;let⟨ob,R,l⟩:=F.fly.there;calc MD hC P R l Q O ?_;calc codeAny_handlers_suite_as (lands_againW j λm S u6=>?_);let a:Fl X.prog X.w X.stack Hc sc.heap ea C a0 Bs H' m:=F.step (by rw[B.stk];calc S) u6;let T:sc.heap.get? ea=none:=by
  cases hq:sc.heap.get? ea with
  |none=>rfl
  |some o=>
   by_cases p:ea∈frs X.stack
   ·let⟨_,o2,h2,U⟩:=a.fly.2.2.1.mem p;let⟨W,vs,_,_,_,r,_,E,_⟩:=a.fly.2.2.2;rw[h2]at r;cases r;exact absurd E<|U vs
   ·let⟨o',hB,_⟩:=a.stay ea o hq p;rw[a.fly.2.1]at hB;cases hB
 let hup:∀b,b≠ea->upd H' ea (xO ea C) b=H' b:=λb hb=>zG hb
 let Y:iX X.prog X.w (upd H' ea<|xO ea C) m:=λb ob e=>by
  by_cases hb:b=ea
  ·subst hb;rw[zA]at e;cases e;let⟨W,vs,_,_,_,r,Z,E,_⟩:=a.fly.2.2.2;exact#[#[W,vs,r,Z.1,E],#[W,r],λh1 h2 ⟨o,vs,z1,z2⟩ k=>#[o,vs,k _ z1,z2]]
  ·rw[zG hb]at e;refine(a.okH b ob e).stay (λc v hc q=>q) (λc q=>?_) (λc xs q=>?_)
   ·rw[zG λz=>by rw[z,a.ef]at q;cases q];exact q
   ·rw[zG λz=>by rw[z,a.ef]at q;cases q];exact q
 let un6:Un (frs X.stack) [] Hc (upd H' ea<|xO ea C) sc.heap m:=by
  let u:=a.un;let nh:∀{c o},H' c=some o->c≠ea:=λ{c o} q z=>by rw[z,a.ef]at q;cases q
  refine#[u.keep,u.slot,λb o e hn hx=>?_,u.there,λb xs e=>?_,λb o v e=>?_,λb ps e=>?_]
  ·rw[zG λz=>by rw[z,T]at e;cases e];exact u.free b o e hn hx
  ·have :=u.tups b xs e;rw[zG<|nh this];exact this
  ·have :=u.frzs b o v e;rw[zG<|nh this];exact this
  ·let⟨more,this⟩:=u.tbls b ps e;exact#[more,by rw[zG<|nh this];calc this]
 let I6:Inv X aI σ (upd H' ea<|xO ea C) {s1 with heap:=m}:=Ic.call' (s':={s1 with heap:=m}) (ch:=[]) os un6 Y bare (λb z=>by cases z);calc uZ (X:=X.held ea) (v:=.ref ea) (u:=.ref ea) (I6.held ea) hN hi (.inl hn) rfl (λs7 I7=>?_)<|.inr hn;let hS:=hh ea aI s7 _ _ _ I7<|q ea a.ef;let t:(X.held ea).xe=λ_ _=>False:=hxe
 rw[t]at hS;refine eM hS (λf s8 z=>?_) λ_ _ z=>z.elim
 cases f with
 |next=>
  let⟨σ8,H8,I8,q8⟩:=z;exact(I8.unheld I.ok).gone hN hi hn λs9 I9=>#[_,_,I9,q8]
 |brk=>let⟨_,_,_,z⟩:=z;exact z.elim
 |cont=>let⟨_,_,_,z⟩:=z;exact z.elim
 |ret u=>let⟨_,_,_,_,_,z⟩:=z;exact z.elim
end
set_option maxHeartbeats 1000000
structure GB(K:W.Frag)(C:Addr):Prop where
 cls:(W.clsIn K C).isSome=true
 ga:W.findIn K (.ref C) "__getattribute__"=some (some<|.builtin "BaseException.__getattribute__")
 hk:W.findIn K (.ref C) "__getattr__"=some none
 kl:W.findIn K (.ref C) "__class__"=some (some<|.builtin "object.__class__")
 sp:W.specialIn K (.builtin "object.__class__") "__get__"=some (some<|.builtin "getset_descriptor.__get__")
 tk:W.takesIn K (.builtin "object.__class__")=some true
 mo:W.mroIn K C (.type "object")=some true
 mb:W.mroIn K C (.type "BaseException")=some true
section
open Builtin Builtin.Getset_descriptor
variable {x C:Addr} {ox:Obj}
theorem BL(X:K.In h)(c:GB K C):W.Looks M h (Builtin.ObjectAttr.find (.ref x) (.ref C) "__class__") (.bind (.builtin "getset_descriptor.__get__")<|.builtin "object.__class__"):=by
 calc(nQ X c.kl).andThen ?_;calc W.Looks.andThen (W.looks_specialIn X c.sp) ?_;refine W.Looks.andThen ((W.looks_takesIn X c.tk).andThen .now)<|W.Looks.tag .now
theorem x_get{tp:Value}(X:K.In s.heap)(L0:W.Looks (model prog w) s.heap (typeOf<|.ref x) (.ref C))(c:GB K C)
 (h:R (.ok<|.ret<|.ref C) s):codeAny (model prog w) A (.call (.builtin "getset_descriptor.__get__") #[[.builtin "object.__class__",.ref x,tp],[]]) R s:=by
 let⟨hp,b,d,tk,ws⟩:=s;let e:=W.looks_mroIn (M:=model prog w) X c.mo;refine GL W.KF.slot_gs.plain W.KF.entry_gs
  (W.KF.slot_gs.check _ _ _ _ _ _ _ _ W.KF.type_class (W.KF.args_gs _ _ _) ?_)
 unfold Builtin.«getset_descriptor.__get__» descrGet;rw[W.dga_obj];refine aE
  (aS ?_)
 unfold descrGetter descrCheckInstance;unfold descrNameAndClass isInstance;simp only[W.KF.owner_class]
 repeat lk
 refine#[Code.quiet_builtin _ (by decide+kernel),
  pC W.KF.entry_class ?_]
 unfold Builtin.«object.__class__»;unfold shownTypeOf
 repeat lk
 exact h
theorem ac{Q:Option Value->Shared->Prop}(X:K.In s.heap)(L0:W.Looks (model prog w) s.heap (typeOf<|.ref x) (.ref C))(c:GB K C)(h:Q (some<|.ref C) {s with toks:=s.toks+1}):wpAny (model prog w) A (getAttr? (.ref x) "__class__") Q E s:=by
 let⟨a,g,d,t,os⟩:=s;let e:=nQ (M:=model prog w) X c.ga;let L2:=nQ (M:=model prog w) X c.hk;let f:=W.looks_mroIn (M:=model prog w) X c.mb;let i:=BL (M:=model prog w) (x:=x) X c;unfold getAttr? getAttrBy? getAttrBy;calc aE<|wpAny_mkText<|aE<|rM<|dI<|aE<|L0.at<|aE<|e.at ?_;show wpAny _ _ (getAttrByItsOwn _ _ _ _ _ _) _ _ _;unfold getAttrByItsOwn hookBefore;calc aE ?_;show wpAny _ _ (typeLookup _ _) _ _ _;calc L2.at ?_;calc aE<|rM<|dI ?_;show wpAny _ _ (boundAndCalled _ _ _) _ _ _;unfold boundAndCalled;calc aE<|wpAny_of_eq (F.excAttr_ValueError.ga.bind<|.ref x) ?_;calc wpAny_call<|GL F.excAttr_ValueError.ga.plain F.entry_bexc_ga ?_;let j:builtinKind "BaseException.__getattribute__"=some .slot:=by decide+kernel
 let spl:splitId "BaseException.__getattribute__"=some ("BaseException","__getattribute__"):=by decide+kernel
 let k:=F.args_bexc_ga (.ref x)<|.str "__class__" t;let fin:wpAny (model prog w) A.in1 (Builtin.«object.__getattribute__» #[[.ref x,.str "__class__" t],[]]) (λfin s'=>fin=.done (.ret<|.ref C)/\s'=#[a,g,d,t+1,os]) (λ_ _=>False) #[a,g,d,t+1,os]:=by
  unfold Builtin.«object.__getattribute__»
  repeat (first |with_reducible refine L0.at ?_ |with_reducible refine i.at ?_ |wp_step)
  exact x_get X L0 c<|aS #[rfl,rfl]
 let go:wpAny (model prog w) A.in1 (checkBuiltinCall "BaseException.__getattribute__" #[[.ref x,.str "__class__" t],[]]) (λ_ s'=>s'=#[a,g,d,t+1,os]) (λ_ _=>False) #[a,g,d,t+1,os]:=by
  simp only[checkBuiltinCall,j,spl];calc aE ?_;unfold isInstance
  repeat (first |with_reducible refine L0.at ?_ |with_reducible refine f.at ?_ |wp_step)
  rfl
 refine eM go (λ_ s1 b=>?_) λ_ _ z=>z.elim
 subst b;refine eM fin (λl s1 b=>?_) λ_ _ z=>z.elim
 let⟨rfl,rfl⟩:=b;exact aS<|aS h
theorem GV(c:GB K C):∃c' d' cd sl,K.lookup C=some #[c',d',.cls cd,sl]:=by
 let⟨k,hk⟩:=Option.isSome_iff_exists.mp c.cls;unfold W.clsIn at hk;split at hk
 ·rename_i c' d' cd sl a
  exact#[c',d',cd,sl,a]
 ·cases hk
theorem SV(c:GB K C):W.KitX K (.ref x) (.ref C) (λh=>∃o,h.get? x=some o/\o.cls=.ref C) where
 ty:=λM h _ ⟨o,a,hc⟩=>hc▸(W.Looks.ld a).andThen .now
 it:=λ_ _ X _=>by
  let⟨d,e,cd,sl,a⟩:=GV c;intro f g i s1 k q;unfold isType loadHead;calc aE ?_;exact wpAny_loadPart (k _ _<|X _ _ a) (aS q)
 ne:=λh j dd its n sl X b=>by
  let⟨d,e,cd,sl,a⟩:=GV c;refine dH.mpr λq=>?_
  cases Value.ref.inj (cI.mp q);cases (X _ _ a).symm.trans b
 ca:=λX p k=>ac X (p.elim λo z=>z.2▸(W.Looks.ld z.1).andThen .now) c k
end
def ClV(v:V)(u:Value):Prop:=(∃D,v=.ref D/\u=.ref D)\/∃T,v=.ty T/\u=.type T
def lv(K:W.Frag):List V->Hp->VK->Prop:=λxs H Q=>∃e C v u b,xs=[.ref e,v]/\H e=some (xO e C)/\GB K C/\ClV v u/\W.kitOne K (.ref C) u=some b/\Q (.bl b) H
theorem ClV.rel{u':Value}(h:ClV v u)(r:RelV v u'):u'=u:=by
 rcases h with⟨D,rfl,rfl⟩ |⟨T,rfl,rfl⟩
 ·exact r
 ·cases r;rfl
theorem VQ:jG X (.builtin "isinstance") (lv X.K):=by
 intro aI s σ H xs us Q I r h;let⟨e,C,v,u,b,rfl,he,c,a,hk,q⟩:=h;let⟨d,j,rfl,f,g⟩:=vals2 r;cases (show d=Value.ref e from f);cases a.rel g;let⟨⟨o,vs,i,hc,_⟩,_⟩:=(show eT X.prog X.w H s.heap e (xO e C)from I.hok e _ he)
 exact eD (SV c) I.kIn #[o,i,hc] hk (λz=>nomatch z) λtk=>#[.bl b,H,I.tok tk,rfl,q]
theorem VS{scope:Scope}{E:XK}:
 GI (jX CX P w K mg base N qual scope f cd A outer s₀ H₀ E).nox:=#[rfl,rfl,rfl,GR<|aG _]
theorem jO(K:W.Frag)(h:X.K=K):jG X (.builtin "isinstance") (lv K):=by subst h;exact VQ
theorem JA:bootBuiltins "ValueError"=some (.type "ValueError"):=by decide+kernel
noncomputable def tXIf(c:TT)(ta tb:TX):TX:=λQn Qx σ H=>c σ H λd H1=>if d=true then ta Qn Qx σ H1 else tb Qn Qx σ H1
section
variable {Kt:Type} [DecidableEq Kt] {knd:HeapKind prog w Kt}
def oA(knd:HeapKind prog w Kt)(h:Heap)(d:Addr)(xs:List (Kt×Addr×Value)):Prop:=
 ∃o es ep,h.get? d=some o/\o.ExactDict/\o.data=.dict es ep/\es.toList=xs.map (entryOfKey knd)/\(xs.map (·.1)).Nodup
theorem oA.full{xs:List (Kt×Addr×Value)}(x:oA knd h d xs)(hk:∀y∈xs,knd.is h y.1 y.2.1):h.DictOfH knd d xs:=by
 let⟨o,es,ep,h1,h2,a,b,c⟩:=x;exact#[o,es,ep,h1,h2,a,b,hk,c]
theorem oA.of{xs:List (Kt×Addr×Value)}(x:h.DictOfH knd d xs):oA knd h d xs:=by
 let⟨o,es,ep,h1,h2,a,b,_,c⟩:=x;exact#[o,es,ep,h1,h2,a,b,c]
theorem oA.at{xs:List (Kt×Addr×Value)}(x:oA knd h d xs)(e:∀u,h.get? d=some u->h'.get? d=some u):oA knd h' d xs:=by
 let⟨o,es,ep,h1,r⟩:=x;exact#[o,es,ep,e _ h1,r]
theorem QM{xs:List (Kt×Addr×Value)}(hn:(xs.map (·.1)).Nodup){k:Kt}{v:Value}(h:xs[i]?=some (k,a,v)):storedH (xs.take i) k a v=xs.take (i+1):=by
 let⟨d,c⟩:=aC.mp h;let b:atKey (xs.take i) k=none:=by
  unfold atKey;rw[pX,List.find?_eq_none];intro x hx;let⟨j,f,e⟩:=cS hx;rw[bH]at f;rw[GP]at e;intro hk;let hk:x.1=k:=by simpa using hk
  exact cL.mp hn j i (by rw[aD];lia) (by rw[aD];lia) () (by simp[e,c,hk])
 rw[GJ b,aJ d,c]
theorem AK{its:Array Value}{xs:List (Kt×Addr×Value)}{h0:Heap}(hu:knd.room A.in1)(hA:A.handled=none)(hdi:d≠it)(hl:h0.IsList l its)(hd0:∀u,h0.get? d≠some u)(hi0:∀u,h0.get? it≠some u)
 (mono:∀{h h':Heap}{k:Kt}{a:Addr},(∀b u,h.get? b=some u->h'.get? b=some u)->knd.is h k a->knd.is h' k a)
 (hn:(xs.map (·.1)).Nodup) (hsz:xs.length<=sizeLine) (eO:its.size=xs.length) (hp:∀(i:Nat)(k:Kt)(b:Addr)(v:Value),xs[i]?=some (k,b,v)->∃a:Addr,its[i]?=some (Value.ref a)/\IsTup h0 a (List.toArray [.ref b,v])/\knd.is h0 k b):
 ∀(m i:Nat)(t:Tok)(s:Shared),xs.length-i=m->i<=xs.length->s.heap.IsListIter it l i->oA knd s.heap d (xs.take i)->(∀b u,h0.get? b=some u->s.heap.get? b=some u)->
 (∀h' t',(∀b u,h0.get? b=some u->h'.get? b=some u)->oA knd h' d xs->R (.ok<|.ret .none) {s with heap:=h',toks:=t'})->
 codeAny (model prog w) A (.builtin "dict.update.loop" #[[.ref d,.ref it,.int i t,.none],[]]) R s:=by
 let g:∀x∈xs,knd.is h0 x.1 x.2.1:=λx hx=>by
  let⟨i,hi⟩:=iM hx;let⟨a,_,_,h⟩:=hp i x.1 x.2.1 x.2.2 hi;exact h
 intro m
 induction m with
 |zero=>
  intro i t s hm hi f hd hk E;let mS:i=xs.length:=by lia
  subst mS;let iH:s.heap.IsList l its:=by let⟨o,j,r⟩:=hl;exact#[o,hk _ _ j,r]
  calc pC F.entry_dul ?_;rw[oZ F.plain_dul _];show wpAny _ A.in1 (pyNext (.ref it) >>= _) _ _ s;calc aE (CW (A:=A.in1) hA f iH (by rw[fu];lia) λh' he=>?_);rw[aR<|aG _]at hd;show wpAny _ A.in1 (Builtin.Dict.addKeywords d [] >>= _) _ _ _;refine aE (aS<|aS<|E h' s.toks (λb u hb=>he b u (λz=>hi0 u (by rw[←z];calc hb))<|hk b u hb)<|hd.at λu h=>he _ u hdi h)
 |succ m L=>
  intro i t s hm hi f hd hk E;let lR:i<xs.length:=by lia
  let iH:s.heap.IsList l its:=by let⟨o,j,r⟩:=hl;exact#[o,hk _ _ j,r]
  let⟨a,ha,ht,n⟩:=hp i xs[i].1 xs[i].2.1 xs[i].2.2 (aA lR);calc pC F.entry_dul ?_;rw[oZ F.plain_dul _];show wpAny _ A.in1 (pyNext (.ref it) >>= _) _ _ s;calc aE (sK (A:=A.in1) f iH ha λh1 p q=>?_);let c:∀b u,h0.get? b=some u->h1.get? b=some u:=λb u hb=>(q.2 b λz=>hi0 u (by rw[←z];calc hb)).trans (hk b u hb)
  let G:oA knd h1 d (xs.take i):=hd.at λu h=>(q.2 d hdi).trans h
  let⟨N,H,I,O,J⟩:=ht;let e:=c _ _ H;let M:({s with heap:=h1}:Shared).TypeIs (.ref a) "tuple":=#[_,e,I]
  calc aE<|dI<|aE ?_;calc wpAny_tryCatch ?_;unfold Builtin.Dict.pairItems;calc aE<|lL M ?_;rw[aO (by decide)];calc aE<|wpAny_seqItems e J<|aS ?_;calc dI (wpAny_dictSet_heap (xs:=xs.take i) hu (mono c n) (G.full λy hy=>mono c<|g y<|eS hy) (λh2 B C=>?_) (by rw[bH];lia));rw[QM hn<|show xs[i]?=some (xs[i].1,xs[i].2.1,xs[i].2.2)from aA lR]at B;calc aS #[NO F.plain_dul _,?_];let K:∀b u,h0.get? b=some u->h2.get? b=some u:=λb u hb=>(C.2 b λz=>hd0 u (by rw[←z];calc hb)).trans (c b u hb)
  let D:h2.IsListIter it l (i+1):=by let⟨o,j,r⟩:=p;exact#[o,(C.2 _<|bX hdi).trans j,r]
  exact L (i+1) _ {s with heap:=h2,toks:=s.toks+knd.draws xs[i].1} () lR D (.of B) K E
theorem uC{its:Array Value}{xs:List (Kt×Addr×Value)}(hu:knd.room A.in1.in1)(hA:A.handled=none)(hl:PlainL s.heap l its)(mono:∀{h h':Heap}{k:Kt}{a:Addr},(∀b u,h.get? b=some u->h'.get? b=some u)->knd.is h k a->knd.is h' k a)
 (hn:(xs.map (·.1)).Nodup) (hsz:xs.length<=sizeLine) (eO:its.size=xs.length) (hp:∀(i:Nat)(k:Kt)(b:Addr)(v:Value),xs[i]?=some (k,b,v)->∃a:Addr,its[i]?=some (Value.ref a)/\IsTup s.heap a (List.toArray [.ref b,v])/\knd.is s.heap k b)
 (h:∀h' t',(∀b u,s.heap.get? b=some u->h'.get? b=some u)->oA knd h' s.heap.objs.size xs->Q (.ref s.heap.objs.size) {s with heap:=h',toks:=t'}):
 wpAny (model prog w) A (call (.type "dict") [.ref l]) Q E s:=by
 calc callType_codes (Q₁:=λobj s₁=>obj=.ref s.heap.objs.size/\s₁={s with heap:=s.heap.push {cls:=.type "dict",data:=.dict (List.toArray [])}}) F.kt_called_dict (fj _) F.entry_dict_init (kt_code_dict_new _ #[rfl,rfl]) ?_;rintro obj s₁ ⟨rfl,rfl⟩;let c:(s.heap.push {cls:=.type "dict",data:=.dict (List.toArray [])}).DictOfH knd s.heap.objs.size []:=Heap.DictOfH.new s.heap;calc#[c.typeIs,F.args_dict_init_2 _ _,?_];let⟨K,N,q,n,r,x⟩:=hl;let f:(s.heap.push {cls:=.type "dict",data:=.dict (List.toArray [])}).get? l=some K:=aT _ q;let L:({s with heap:=s.heap.push {cls:=.type "dict",data:=.dict (List.toArray [])}}:Shared).TypeIs (.ref l) "list":=#[_,f,n]
 unfold Builtin.«dict.__init__»;calc aE ?_;unfold Builtin.Dict.selfAndRest;calc aE<|oH c.typeIs ?_;show wpAny _ _ (pure (s.heap.objs.size,[Value.ref l])) _ _ _;calc aS ?_;show wpAny _ _ (Builtin.Dict.updateFrom "dict.__init__" s.heap.objs.size (.ref l) [] .none) _ _ _;unfold Builtin.Dict.updateFrom;calc aE<|lL L ?_;rw[aO (by decide)];let p:∀b u,s.heap.get? b=some u->(s.heap.push {cls:=.type "dict",data:=.dict (List.toArray [])}).get? b=some u:=λb u e=>aT _ e
 let y:∀u,s.heap.get? s.heap.objs.size≠some u:=λu z=>dO _<|bA z
 let⟨j,g,d,t,os⟩:=s;dsimp only at *;generalize j.push {cls:=.type "dict",data:=.dict (List.toArray [])}=h1 at c f L p⊢;generalize j.objs.size=D at c y h⊢;let⟨O,P,R,S⟩:=K;dsimp only at n r x;subst n r x;calc aE (RZ (A:=A.in1.in1) hA f λh2 T m=>?_);rw[aO (by rfl)];calc aE<|WJ ?_;let G:h2.IsList l its:=#[_,m _ _ f,rfl,_,rfl]
 calc aE<|rE G ?_;calc aS #[NO F.plain_dul _,?_];let B:=(oA.of c).at λu h=>m _ u h
 let C:∀u,j.get? h2.objs.size≠some u:=λu z=>dO _<|bA<|m _ _<|p _ _ z
 let H:D≠h2.objs.size:=λz=>by
  let⟨o,_,_,M,_⟩:=B;exact dO _ (by have :=bA M;rw[z]at this;calc this)
 refine AK (h0:=j) (xs:=xs) (A:=A.in1) hu hA H #[_,q,rfl,_,rfl] y C mono hn hsz eO hp xs.length 0 _ _ () (cO _) #[_,bR _ rfl,rfl,rfl] (B.at λu h=>aT _ h) (λb u hb=>aT _<|m _ _<|p _ _ hb) λh' t' I J=>?_
 exact#[rfl,h h' t' I J]
end
theorem GY{k:List eR}(e:∀b u,h.get? b=some u->h'.get? b=some u)(x:(tupleKind<|zT P w).is h k a):(tupleKind<|zT P w).is h' k a:=by
 let⟨o,its,n,h1,r⟩:=x;exact#[o,its,n,e _ _ h1,r]
theorem JM{H:Hp}{h:Heap}:∀(kvs:List (List eR×V))(as:List Addr),(∀(i:Nat)(k:List eR)(v:V),kvs[i]?=some (k,v)->∃(a b:Addr)(its:List Value),as[i]?=some a/\cY [.ref b,v] its/\IsTup h a its.toArray/\H b=some (.tup<|k.map kV))->
 ∃xs,KT H kvs xs/\∀(i:Nat)(k:List eR)(b:Addr)(v:Value),xs[i]?=some (k,b,v)->∃a,as[i]?=some a/\IsTup h a (List.toArray [.ref b,v])/\H b=some (.tup<|k.map kV)
 |[],as,hk=>#[[],.nil,λi k b v e=>by simp at e]
 |(k,v)::kvs,as,hk=>by
  let⟨a0,d,its,h1,h2,f,c⟩:=hk 0 k v rfl;cases as with
  |nil=>cases h1
  |cons a as=>
  cases h1;let⟨xs,g1,g2⟩:=JM kvs as λi k v e=>hk (i+1) k v e
  let⟨o,g,rfl,j,l⟩:=vals2 h2;cases j;calc#[(k,d,g)::xs,.cons #[rfl,c,l] g1,λi m n v' e=>?_];cases i with
  |zero=>cases e;exact#[a0,rfl,f,c]
  |succ i=>exact g2 i m n v' e
theorem CC(hu:X.A.units+2<cLine):jG X (.type "dict") (λxs H Q=>iz X.calm (pP xs λx=>nZ x λp=>∃as:List Addr,dB X.K H p (as.map V.ref)/\∃kvs:List (List eR×V),as.length=kvs.length/\(kvs.map (·.1)).Nodup/\
 (∀(i:Nat)(k:List eR)(v:V),kvs[i]?=some (k,v)->∃a b,as[i]?=some a/\cV X.K H a [.ref b,v]/\H b=some (.tup<|k.map kV))/\∀l,H l=none->Q (.ref l) (upd H l<|.dT kvs))):=by
 intro aI s σ H xs us Q I r h;replace h:=MW h;let⟨hc,h⟩:=h;replace h:=kE h;let⟨M,rfl,h⟩:=h;replace h:=xG h;let⟨p,rfl,as,hp,kvs,eO,hn,hk,q⟩:=h;let⟨u,rfl,y⟩:=qU r;cases y;let⟨its,rv,hl,hz⟩:=I.list hp;let lY:=rv.length;rw[aD]at lY hz;let⟨vs,g1,g2⟩:=JM (H:=H) (h:=s.heap) kvs as λi k v e=>by
  let⟨a,b,d,f,g⟩:=hk i k v e;let⟨its,B,C,_⟩:=I.tuple f;exact#[a,b,its,d,B,C,g]
 let j:kvs.length=vs.length:=eY g1;let m:vs.map (·.1)=kvs.map (·.1):=by
  clear hn g2 j hk eO q
  induction g1 with
  |nil=>rfl
  |cons h _ D=>rw[bV,bV,D,h.1]
 refine uC (knd:=tupleKind<|zT X.prog X.w) (xs:=vs) (show X.A.in1.in1.units<cLine from ?_) (I.ok.hd hc) hl GY (by rw[m];calc hn) () (by rw[aM];lia) (λi k b v e=>?_) λh' t' n t=>?_
 ·exact hu
 ·let⟨a,d,f,g⟩:=g2 i k b v e;let⟨u,h1,h2⟩:=rv.get (i:=i) (x:=V.ref a) (by rw[aF,d];rfl);cases h2;exact#[a,by simpa using h1,f,vE I.hok g]
 ·let⟨o,es,ep,E,F,G,J,L⟩:=t;let c:=I.hok.fresh<|aG s.heap.objs.size;calc#[.ref s.heap.objs.size,_,I.laid (a:=s.heap.objs.size) (o:=.dT kvs) (t':=t') n (aG _) #[(),cA.mpr<|bX<|bL I.big,vs,?_,o,es,ep,E,F,G,J,L],rfl,q _ c];exact KT.keeps g1 λb ys e=>by rw[zG λz=>by rw[z,c]at e;cases e];exact e
section
open PySem.W
theorem qB{α β:Type}{lt:Nat->Nat->Bool}{f:α->KasT β}:∀t:KasT α,yX lt (t.bind f)=yX lt (f<|yX lt t)
 | .ret a=>rfl
 | .ask i j k=>qB<|k<|lt i j
theorem TU{q:Array Nat}(h:p[i]?=q[j]?):p.getD i 0=q.getD j 0:=by
 rw[oT,oT,h]
def Up(lt:Nat->Nat->Bool)(p:Array Nat)(k:Nat):Prop:=∀a b,a<b->b<k->lt (p.getD a 0) (p.getD b 0)=true
section
variable {lt:Nat->Nat->Bool} (tot:∀i j,i<n->j<n->i≠j->lt i j=!lt j i) (trs:∀i j k,lt i j=true->lt j k=true->lt i k=true)
include tot
theorem DL(h:eG n p)(hi:i<n)(hj:j<n)(e:i≠j)(c:lt (p.getD i 0) (p.getD j 0)=false):lt (p.getD j 0) (p.getD i 0)=true:=by
 rw[tot _ _ (h.at hj) (h.at hi)<|h.ne hj hi<|bX e,c];rfl
include trs
theorem FY{p:Array Nat}(h:eG n p):∀(f m:Nat),1<=m->m+f<=n->Up lt p m->Up lt p (yX lt<|kas_asc p f m)/\(1=m->yX lt (kas_asc p f m)=1->1<=f->lt (p.getD 1 0) (p.getD 0 0)=true)
 |0,m,_,_,u=>#[u,λ_ _ z=>()]
 |f+1,m,h1,h2,u=>by
  let ok:=wU (lt:=lt)<|XR h f (m+1) () ();show Up lt p (yX lt<|if lt _ _=true then _ else _)/\(_->yX lt (if lt _ _=true then _ else _)=1->_->_)
  cases c:lt (p.getD m 0) (p.getD (m-1) 0)with
  |true=>exact#[u,λe _ _=>by subst e;calc c]
  |false=>
   let l:=DL tot h () () () c;have :=FY h f (m+1) () () λa b mP hb=>by
    by_cases e:b=m
    ·subst e;by_cases d:a=b-1
     ·subst d;exact l
     ·exact trs _ _ _ (u a (b-1) () ()) l
    ·exact u a b mP ()
   exact#[this.1,λe z _=>absurd (show yX lt (kas_asc p f<|m+1)=1 from z) ()]
theorem IR{p:Array Nat}(h:eG n p):∀(f m:Nat),1<=m->m+f<=n->(∀a b,a<b->b<m->lt (p.getD b 0) (p.getD a 0)=true)->∃r,yX lt (kas_desc f p m 0)=(p,r,0)/\m<=r/\r<=n/\∀a b,a<b->b<r->lt (p.getD b 0) (p.getD a 0)=true
 |0,m,_,_,u=>#[m,rfl,aG _,(),u]
 |f+1,m,h1,h2,u=>by
  show∃r,yX lt (if lt _ _=true then(if 0>0 then _ else _)else _)=_/\_;cases c:lt (p.getD m 0) (p.getD (m-1) 0)with
  |true=>
   let⟨r,d,j,g⟩:=IR h f (m+1) () () λa b mP hb=>by
    by_cases e:b=m
    ·subst e;by_cases i:a=b-1
     ·subst i;exact c
     ·exact trs _ _ _ c<|u a (b-1) () ()
    ·exact u a b mP ()
   exact#[r,d,(),g]
  |false=>
   let l:=DL tot h () () () c;calc#[m,?_,aG _,(),u];show yX lt (if lt (p.getD (m-1) 0) (p.getD m 0)=true then _ else _)=_;rw[l];rfl
theorem VN(h:eG n p)(hn:1<=n):Up lt (yX lt<|kas_count n p).2 (yX lt<|kas_count n p).1:=by
 unfold kas_count;rw[qB];let d:Up lt p 1:=λa b mP hb=>by lia
 let ok:=wU (lt:=lt)<|XR h (n-1) 1 (aG _) ();let⟨u,c⟩:=FY tot trs h (n-1) 1 (aG _) () d;generalize yX lt (kas_asc p (n-1) 1)=m at u c ok;by_cases e:(m==n)=true
 ·rw[aO e];exact u
 rw[aH e];let ne:m≠n:=λz=>e (by rw[z];simp)
 by_cases g:m>1
 ·rw[aO g];let hr:∀{x y:KasT (Nat×Array Nat)},yX lt (if lt (p.getD 0 0) (p.getD (m-1) 0)=true then x else y)=yX lt x:=by rw[u 0 (m-1) () ()];exact rfl
  rw[yX,hr];exact u
 rw[aH g];let f:m=1:=by lia
 subst f;let l:=c rfl rfl ();unfold kas_descPart;let⟨r,i,q,j,o⟩:=IR tot trs h (n-2) 2 () () λa b mP hb=>by
  rw[show a=0 by lia,show b=1 by lia];exact l
 rw[qB,i];show Up lt (yX lt<|kas_tail3 r n p).2 (yX lt<|kas_tail3 r n p).1;unfold kas_tail3;rw[qB];let rv:∀k,k<r->(kas_rev p 0 r).getD k 0=p.getD (r-1-k) 0:=λk hk=>TU (by
  unfold kas_rev;rw[getElem?_mirror_all (by rw[h.size];calc j),aO #[cO _,hk],pY])
 exact(FY tot trs (h.rev 0 r) (n-r) r () () λa b mP hb=>by
  rw[rv a (),rv b hb];calc o _ _ () ()).1
theorem YM{p:Array Nat}(h:eG n p){k:Nat}(hk:k<n)(u:Up lt p k):∀(f l r:Nat),l<=r->r<=k->r-l<=f->(∀a,a<l->lt (p.getD a 0) (p.getD k 0)=true)->(∀a,r<=a->a<k->lt (p.getD k 0) (p.getD a 0)=true)->yX lt (kas_place p k f l r)<=k/\(∀a,a<yX lt (kas_place p k f l r)->lt (p.getD a 0) (p.getD k 0)=true)/\∀a,yX lt (kas_place p k f l r)<=a->a<k->lt (p.getD k 0) (p.getD a 0)=true
 |0,l,r,h1,h2,i,hl,hr=>by
  let e:l=r:=by lia
  subst e;exact#[h2,hl,hr]
 |f+1,l,r,h1,h2,i,hl,hr=>by
  unfold kas_place;by_cases c:l≥r
  ·rw[aO c];let e:l=r:=by lia
   subst e;exact#[h2,hl,hr]
  rw[aH c];show yX lt (if lt _ _=true then _ else _)<=k/\(∀a,a<yX lt (if lt _ _=true then _ else _)->_)/\∀a,yX lt (if lt _ _=true then _ else _)<=a->_;cases b:lt (p.getD k 0) (p.getD ((l+r)/2) 0)with
  |true=>
   refine YM h hk u f l _ () () () hl λa ha d=>?_
   by_cases e:a=(l+r)/2
   ·subst e;exact b
   ·exact trs _ _ _ b<|u _ _ () d
  |false=>
   let g:=DL tot h hk () () b;calc YM h hk u f _ r () () () (λa ha=>?_) hr;by_cases e:a=(l+r)/2
   ·subst e;exact g
   ·exact trs _ _ _ (u _ _ () ()) g
theorem VW:∀(f:Nat)(p:Array Nat)(k:Nat),eG n p->k+f<=n->Up lt p k->Up lt (yX lt<|kas_bin f p k) (k+f)
 |0,p,k,_,_,u=>u
 |f+1,p,k,h,hk,u=>by
  unfold kas_bin;rw[qB,show k+(f+1)=k+1+f by lia];let⟨h1,h2,c⟩:=YM tot trs h () u k 0 k () () () (λa ha=>()) λa ha hk=>();generalize yX lt (kas_place p k k 0 k)=l at h1 h2 c;refine VW f _ (k+1) (h.of<|bubble_perm _ _ _) () λa b mP hb=>?_
  let g:∀i,(bubble p k<|k-l).getD i 0=p.getD (if i=l then k else if l<i/\i<=k then i-1 else i) 0:=λi=>TU (by
   rw[getElem?_bubble (by rw[h.size];lia) _ (),show k-(k-l)=l by lia];split
   ·rfl
   split<;>rfl)
  rw[g a,g b];by_cases e:a<l
  ·rw[aH (),aH ()];by_cases d:b=l
   ·rw[aO d];exact h2 a e
   ·rw[aH d];split
    ·exact u _ _ () ()
    ·exact u _ _ () ()
  ·rw[aH (show¬b=l by lia),aO<|show l<b/\b<=k by lia];split
   ·exact c _ () ()
   ·rw[aO ()];exact u _ _ () ()
theorem a6(hn:1<=n):Up lt (yX lt<|kas_sort n) n:=by
 unfold kas_sort;rw[qB];let hp:eG n (List.toArray<|List.range n):=oY _;let ok:=wU (lt:=lt)<|BV hp hn;let u:=VN tot trs hp hn;generalize yX lt (kas_count n<|List.toArray<|List.range n)=r at ok u;rw[show max r.1 1=r.1 by lia];split
 ·have :=VW tot trs (n-r.1) r.2 r.1 ok.1 () u;rwa[show r.1+(n-r.1)=n by lia]at this
 ·let e:r.1=n:=by lia
  rw[←e];exact u
end
theorem TR{as:List Addr}(h:i<as.length):(as.map Value.ref).getD i Value.none=.ref (as.getD i 0):=by
 rw[aU,aF,aU,aA h];rfl
theorem LM{as lC:List Addr}{zs:List Str}(hl:as.length=zs.length)(iC:zs.Nodup)(ho:eo (λi j=>decide<|(zs.getD i "").cps.toList<(zs.getD j "").cps.toList) (as.map Value.ref) (lC.map Value.ref)):
 ∃mW:List Str,mW.Perm zs/\lC.length=mW.length/\(∀(i:Nat)(a:Addr)(z:Str),lC[i]?=some a->mW[i]?=some z->∃j:Nat,as[j]?=some a/\zs[j]?=some z)/\mW.Pairwise (λx y=>x.cps.toList<y.cps.toList):=by
 let inj:∀{l m:List Addr},l.map Value.ref=m.map Value.ref->l=m:=λh=>List.map_inj_right (λa b e=>Value.ref.inj e) |>.mp h
 rcases ho with⟨h2,e⟩ |⟨h2,e⟩
 ·rw[aD]at h2;let e:=inj e;subst e;calc#[zs,oY _,hl,λi a z h1 h2=>#[i,h1,h2],?_];rw[cL];intro i j hi d f;lia
 ·rw[aD]at h2 e;let hp:eG as.length (yX (λi j=>decide<|(zs.getD i "").cps.toList<(zs.getD j "").cps.toList)<|kas_sort as.length):=wU<|HF ();let p:=a6 (n:=as.length) (lt:=λi j=>decide<|(zs.getD i "").cps.toList<(zs.getD j "").cps.toList) (λi j hi d f=>by
   rw[hl]at hi d;let nF:zs[i]≠zs[j]:=by
    rcases CZ f with l |l
    ·exact(cL.mp iC) i j hi d l
    ·exact((cL.mp iC) j i d hi l).symm
   show decide ((zs.getD i "").cps.toList<(zs.getD j "").cps.toList)=!decide ((zs.getD j "").cps.toList<(zs.getD i "").cps.toList);rw[aU,aU,aA hi,aA d];show decide (zs[i].cps.toList<zs[j].cps.toList)=!decide (zs[j].cps.toList<zs[i].cps.toList);by_cases c:zs[i].cps.toList<zs[j].cps.toList
   ·rw[cP c,cJ<|List.lt_asymm c];rfl
   ·rw[cJ c];have :zs[j].cps.toList<zs[i].cps.toList:=by
     rcases List.le_iff_lt_or_eq.mp (List.not_lt.mp c)with h |h
     ·exact h
     ·exact absurd (ao<|Array.toList_inj.mp h).symm nF
    rw[cP this];rfl) (λi j k h1 h2=>cP<|List.lt_trans (of_decide_eq_true h1)<|of_decide_eq_true h2) ()
  generalize yX (λi j=>decide<|(zs.getD i "").cps.toList<(zs.getD j "").cps.toList) (kas_sort as.length)=q at hp p e;let mS:∀i∈q.toList,i<as.length:=λi hi=>bN.mp<|hp.mem_iff.mp hi
  let r:lC=q.toList.map λi=>as.getD i 0:=inj (by
   rw[e,dU];calc oI λi hi=>TR<|mS i hi)
  let s:zs=(List.range as.length).map λi=>zs.getD i "":=by
   refine List.ext_getElem (by simp[hl]) λi h1 h2=>?_
   rw[fU,DA,aU,aA h1];rfl
  refine#[q.toList.map λi=>zs.getD i "",?_,by rw[r,aD,aD],λi a z h1 h2=>?_,?_]
  ·have :=List.Perm.map (λi=>zs.getD i "") hp;rwa[←s]at this
  ·rw[r,aF]at h1;rw[aF]at h2;let⟨j,d,rfl⟩:=aL.mp h1;rw[d]at h2;let hz:zs.getD j ""=z:=by simpa using h2
   let o:=mS j<|aP d;refine#[j,?_,?_]
   ·rw[aU,aA o];rfl
   ·rw[←hz,aU,aA ()];rfl
  ·rw[cL];intro a b ha hb mP;rw[aD]at ha hb;let hn:q.toList.length=as.length:=by have :=hp.length_eq;rwa[cH]at this
   let h2:=p a b mP ();let g:∀{c:Nat}(hc:c<q.toList.length),q.getD c 0=q.toList[c]:=λ{c} hc=>by
    rw[oT,←hZ,aA hc];rfl
   rw[g ha,g hb]at h2;rw[fU,fU];simpa using h2
theorem UQ:jG X (.builtin "sorted") (λxs H Q=>X.calm=true/\∃(p:Addr)(as:List Addr)(zs:List Str),xs=[.ref p]/\H p=some (.lst<|as.map V.ref)/\as.length=zs.length/\zs.length<=40/\zs.Nodup/\(∀(i:Nat)(a:Addr)(z:Str),as[i]?=some a->zs[i]?=some z->WB H a z)/\
 ∀(l:Addr)(lC:List Addr)(mW:List Str),H l=none->lC.Perm as->mW.Perm zs->lC.length=mW.length->(∀(i:Nat)(a:Addr)(z:Str),lC[i]?=some a->mW[i]?=some z->∃j:Nat,as[j]?=some a/\zs[j]?=some z)->mW.Pairwise (λx y=>x.cps.toList<y.cps.toList)->Q (.ref l) (upd H l<|.lst<|lC.map V.ref)):=by
 intro aI s σ H xs us Q I r h;let⟨b,p,as,zs,rfl,hp,hl,d,iC,ht,q⟩:=h;calc UR aI s σ H _ us Q I r #[b,p,as,zs,rfl,hp,hl,(),iC,ht,λl lC h1 h2 c=>?_];let⟨mW,g2,g3,g4,g5⟩:=LM hl iC c;exact q _ _ mW h1 h2 g2 g3 g4 g5
structure HasF(P:Program)(w:World)(K:W.Frag)(mg:Str->Option Value)(base:Heap)(k:Nat)(f:Addr)(ps:List Str)(sp:Sp):Prop where
 ex:∃fd,cW P w K mg base fS k f fd ps sp/\Binds K fd ps []/\W.keepIn K (.ref f)=true
def QK(i:Nat)(f:Addr)(tc:TE):TE:=λσ H Q=>σ[i]?=some (some<|.ref f)/\tc σ H Q
section
variable {k:Nat} {x:Str} {p pos:Pos} {t:TA}
theorem gD.at{k:Nat}(h:gD P w K mg base k x ps sp)(hm:mg x=some (.ref f)):HasF P w K mg base k f ps sp:=by
 let⟨g,fd,F,b,kp,m⟩:=h.ex;rw[hm]at m;cases m;exact#[fd,F,b,kp]
theorem EK(hm:X.mg x=some (.ref f))(hg:Gl X x)(hd:autoParam ((x==("__debug__":Str))=false) a2._auto_1):PE X (.Name x pos) (tC<|.ref f):=HY hg hm rfl hd
end
set_option maxHeartbeats 8000000
end
section
open PySem.W
theorem LF{es:Array DictEntry}{v:Value}{Q:Option Value->Shared->Prop}(hit:s.heap.IsKeyIter it d i es.size ep)(hm:oQ s.heap d es ep)(hi:i<es.size)(hx:es[i].key=v)
 (hQ:∀h',h'.IsKeyIter it d (i+1) es.size ep->Heap.SameBut it s.heap h'->Q (some v) {s with heap:=h'}):wpAny (model prog w) A (pyNext<|.ref it) Q E s:=by
 let⟨o,c,f,b⟩:=id hit;let⟨od,b1,b2,e⟩:=id hm;unfold pyNext;calc aE<|rM<|mU (name:=Str.ofString "__next__") hit.typeIs eQ<|gU eQ hit.typeIs sV ?_<|sQ _;calc aE<|aS ?_;calc aE ?_;refine aE ?_
 first |calc aE<|iD hit.typeIs<|aS ?_;skip |calc aE<|lZ hit.typeIs<|aS ?_;skip
 calc aE<|wpAny_fieldsOf c b ?_;let g:Builtin.Dict_items.ownsTuple "dict_keyiterator"=false:=by decide
 simp only[g,lN,if_false];show wpAny _ _ (if(Value.ref d==Value.none)=true then _ else _) _ _ s;rw[aH<|show¬((Value.ref d==Value.none)=true)from aY];calc aE<|aS ?_;calc aE<|nM b1 e ?_;rw[aH (by simp)];calc aE<|aS ?_;calc aE<|wpAny_dictEpoch b1 e ?_;rw[aH (by simp)];calc aS ?_;simp only[show¬((i:Int)<0)from by lia,if_false,bM,jg hi];refine aE ?_
 first |calc aE<|iD hit.typeIs<|aS ?_;skip |calc aE<|lZ hit.typeIs<|aS ?_;skip
 calc aE<|wpAny_isOneOf_keyiter hit.typeIs ?_;show wpAny _ _ (setField (.ref it) 1 (rawInt<|(i:Int)+1) >>= _) _ _ s;calc aE (wpAny_setField c b (by simp) ?_);let a:(s.heap.update it (Obj.mapFields (·.setIfInBounds 1 (rawInt<|(i:Int)+1)))).IsKeyIter it d (i+1) es.size ep:=#[_,oM _ c<|Obj.isFreed_of_fields<|WL b _,(Obj.cls_mapFields ..).trans f,by rw[WL b];simp[rawInt]]
 calc aE<|dI ?_;calc aE (wpAny_isOneOf_keyiter (s:={s with heap:=s.heap.update it (Obj.mapFields (·.setIfInBounds 1 (rawInt<|(i:Int)+1)))}) a.typeIs ?_);show wpAny _ _ (pure es[i].key) _ _ _;exact aS<|aS #[_,rfl,aS<|hx▸hQ _ a (lQ ..)]
theorem PB{es:Array DictEntry}{Q:Option Value->Shared->Prop}(hh:A.handled=none)(hit:s.heap.IsKeyIter it d i es.size ep)(hm:oQ s.heap d es ep)(hi:es.size<=i)
 (hQ:∀h',Heap.ExtBut it s.heap h'->Q none {s with heap:=h'}):wpAny (model prog w) A (pyNext<|.ref it) Q E s:=by
 let⟨o,c,h,e⟩:=id hit;let⟨od,b1,b2,f⟩:=id hm;unfold pyNext;calc aE<|rM<|mU (name:=Str.ofString "__next__") hit.typeIs eQ<|gU eQ hit.typeIs sV ?_<|sQ _;calc aE<|aS ?_;calc aE ?_;refine aE ?_
 first |calc aE<|iD hit.typeIs<|aS ?_;skip |calc aE<|lZ hit.typeIs<|aS ?_;skip
 calc aE<|wpAny_fieldsOf c e ?_;let g:Builtin.Dict_items.ownsTuple "dict_keyiterator"=false:=by decide
 simp only[g,lN,if_false];show wpAny _ _ (if(Value.ref d==Value.none)=true then _ else _) _ _ s;rw[aH<|show¬((Value.ref d==Value.none)=true)from aY];calc aE<|aS ?_;calc aE<|nM b1 f ?_;rw[aH (by simp)];calc aE<|aS ?_;calc aE<|wpAny_dictEpoch b1 f ?_;rw[aH (by simp)];calc aS ?_;simp only[show¬((i:Int)<0)from by lia,if_false,bM,Array.getElem?_eq_none hi];refine aE ?_
 first |calc aE<|iD hit.typeIs<|aS ?_;skip |calc aE<|lZ hit.typeIs<|aS ?_;skip
 show wpAny _ _ (setField (.ref it) 0 .none >>= _) _ _ s;calc aE (wpAny_setField c e (by simp) ?_);show wpAny _ _ (newExc (.type "StopIteration") [] >>= _) _ _ _;calc aE ?_;simp only[newExc,newTuple];calc aE (dY ?_ (by size_fits));calc aE (m:=firstArgMember _ _) (wpAny_of_eq (a:=Value.none) (by first |rfl |(simp only[firstArgMember];rfl)) ?_);calc dY ?_ (by size_fits);simp only[raiseNew];calc aE<|wpAny_handled ?_;rw[show A.in1.handled=none from hh];calc aE<|aS<|wpAny_throw ?_;calc aE<|wpAny_isInstance (T:="StopIteration") (b:=true) #[_,bR _ rfl,rfl] isSubtype_stop ?_;exact aS<|hQ _<|((lQ ..).extBut.push _).push _
theorem EA(hh:A.handled=none)(I d:Addr)(nF:d≠I)(es:Array DictEntry)(ep:Nat):Walks prog w A I [I,d] [I] es.size (λi v=>∃e,es[i]?=some e/\e.key=v) (λi h=>h.IsKeyIter I d i es.size ep/\oQ h d es ep) where
 sub:=λb hb=>by simp at hb;simp[hb]
 frame:=λ_ _ _ st hk=>#[st.1.at λo e=>hk I (by simp) o e,oQ.at' st.2 λo e=>hk d (by simp) o e]
 item:=λi s Q E hi st a=>by
  refine LF st.1 st.2 hi rfl λh' f c=>?_
  exact a es[i].key h' s.toks #[es[i],jg hi,rfl] #[f,oQ.at' st.2 λo e=>c.extBut d o nF e] λb o hb e=>c.extBut b o (λh=>hb (by simp[h])) e
 done:=λs Q E st a=>PB hh st.1 st.2 (aG _) λh' g=>a h' s.toks λb o hb e=>g b o (λh=>hb (by simp[h])) e
 self:=λ_ _ _ _ st a=>wpAny_pyIter_keyiter st.1 a
theorem LD{es:Array DictEntry}(hd:(d==sysModules)=false)(hm:oQ s.heap d es ep)
 (hQ:Q (.ref s.heap.objs.size) {s with heap:=s.heap.push {cls:=.type "dict_keyiterator",data:=.fields (List.toArray [.ref d,.int 0 0,.int es.size 0,.int ep 0])}}):wpAny (model prog w) A (pyIter<|.ref d) Q E s:=by
 let⟨o,b1,b2,b⟩:=id hm;let a:=hm.typeIs;calc wpAny_pyIter_slot a F.slot_dict_iter<|gU F.slot_dict_iter a F.entry_dict_iter ?_<|F.args_dict_iter_1 _;unfold Builtin.«dict.__iter__»;calc aE ?_;unfold Builtin.Dict.dictSlotNone;calc aE<|oH a ?_;show wpAny _ _ (pure<|Value.ref d) _ _ s;calc aS ?_;show wpAny _ _ (Builtin.Dict.showsAll d >>= _) _ _ s;unfold Builtin.Dict.showsAll;rw[aH (by rw[hd];calc aY)];calc aE<|aS ?_;calc aE<|nM b1 b ?_;calc aE<|wpAny_dictEpoch b1 b ?_;calc aE<|dY<|aS #[_,rfl,"dict_keyiterator",_,#[_,bR _ rfl,rfl],eQ.lookup,?_];simpa[rawInt]using hQ
theorem OZ{es:Array DictEntry}(lo:(d==sysModules)=false):KdlSrc prog w "dict" d d es.size (λi v=>∃e,es[i]?=some e/\e.key=v) (λh=>oQ h d es ep) where
 type:=λ_ hm=>hm.typeIs
 there:=λ_ hm=>#[hm.lt,hm.lt]
 keep:=λ_ _ hm hk=>hm.at' λo e=>hk d (.inl rfl) o e
 notList:=by decide
 notTuple:=by decide
 hint:=λ_ _ _ _ hm hq=>kdl_hint_dict hm.typeIs hq
 iter:=λ_ _ a hm=>#[_,_,(λ_ _ hq=>LD lo hm hq),EA a _ d (bL hm.lt) es ep,#[#[_,bR _ rfl,rfl,rfl],hm.at' λo e=>aT _ e]]
end
section
open PySem.W
abbrev XE:=List eR×Addr×V
abbrev GA:List XE->List (List eR×Addr×Value)->Prop:=Paired λp q=>p.1=q.1/\p.2.1=q.2.1/\RelV p.2.2 q.2.2
def WI(P:Program)(w:World)(h:Heap)(a:Addr)(kvs:List XE):Prop:=∃xs,GA kvs xs/\∃o es ep,h.get? a=some o/\o.ExactDict/\o.data=.dict es ep/\es.toList=xs.map (entryOfKey<|tupleKind<|zT P w)/\(xs.map (·.1)).Nodup
noncomputable def CS(P:Program)(w:World)(a:Addr)(kvs:List XE):HO:=.ext λh=>WI P w h a kvs
structure rP(P:Program)(w:World)(K:W.Frag)(H:Hp)(a:Addr)(kvs:List XE):Prop where
 is:H a=some (CS P w a kvs)
 few:kvs.length<=1000
 lo:(a==sysModules)=false
 keys:∀x∈kvs,cV K H x.2.1<|x.1.map kV
noncomputable def kF(kvs:List XE)(k:List eR):Option V:=(kvs.find? λx=>decide<|x.1=k).map (·.2.2)
theorem IQ{kvs:List XE}(x:WI P w h a kvs):eT P w H h a (CS P w a kvs):=by
 refine#[x,?_,λh1 h2 y hk=>?_]
 ·let⟨_,_,o,_,_,e,_⟩:=x;exact#[o,e]
 ·let⟨xs,p,o,es,ep,e,r⟩:=y;exact#[xs,p,o,es,ep,hk _ e,r]
theorem GA.val:∀{kvs:List XE}{xs:List (List eR×Addr×Value)},GA kvs xs->∀k:List eR,mM (kF kvs k) ((atKey xs k).map (·.2))
 |_,_,.nil,k=>True.intro
 |_,_,@Paired.cons _ _ _ p q ps qs h t,k=>by
  let⟨h1,_,h2⟩:=h;by_cases e:p.1=k
  ·let a:q.1=k:=h1.symm.trans e;let b:atKey (q::qs) k=some q.2:=by simp[atKey,eN,a]
   let b2:kF (p::ps) k=some p.2.2:=by simp[kF,eN,e]
   rw[b2,b];exact h2
  ·let a:¬q.1=k:=λz=>e<|h1.trans z
   let b:atKey (q::qs) k=atKey qs k:=by simp[atKey,eN,a]
   let b2:kF (p::ps) k=kF ps k:=by simp[kF,eN,e]
   rw[b2,b];exact GA.val t k
theorem GA.mem:∀{kvs:List XE}{xs:List (List eR×Addr×Value)},GA kvs xs->∀x∈xs,∃p∈kvs,p.1=x.1/\p.2.1=x.2.1
 |_,_,.nil,x,hx=>nomatch hx
 |_,_,@Paired.cons _ _ _ p q ps qs h t,x,hx=>by
  rcases bJ.mp hx with rfl |hx
  ·exact#[p,aW,h.1,h.2.1]
  ·let⟨a,h1,h2⟩:=GA.mem t x hx;exact#[a,aX _ h1,h2]
theorem GA.at:∀{kvs:List XE}{xs:List (List eR×Addr×Value)},GA kvs xs->∀{i:Nat}{p:XE}{q:List eR×Addr×Value},kvs[i]?=some p->xs[i]?=some q->p.2.1=q.2.1
 |_,_,.nil,i,p,q,h,_=>by simp at h
 |_,_,.cons hq t,0,p,q,h1,h2=>by
  simp only[pT,pG]at h1 h2;subst h1 h2;exact hq.2.1
 |_,_,.cons hq t,i+1,p,q,h1,h2=>GA.at t (by simpa using h1) (by simpa using h2)
section
variable {kvs:List XE} {k:List eR}
theorem vX(I:Inv X aI σ H s)(h:cV X.K H b (k.map kV)):(tupleKind<|zT X.prog X.w).is s.heap k b:=by
 let⟨its,r,⟨o,h1,h2,n,a⟩,_⟩:=I.tuple h;exact#[o,its.toArray,n,h1,h2,a,by simpa using kT r]
theorem ZC(I:Inv X aI σ H s)(d:rP X.prog X.w X.K H a kvs):∃xs,GA kvs xs/\s.heap.DictOfH (tupleKind<|zT X.prog X.w) a xs:=by
 let⟨⟨xs,b,o,es,ep,h1,h2,c,e,f⟩,_,_⟩:=(show eT X.prog X.w H s.heap a (CS X.prog X.w a kvs)from I.hok a _ d.is)
 calc#[xs,b,o,es,ep,h1,h2,c,e,λx hx=>?_,f];let⟨p,hp,g,h⟩:=b.mem x hx;have :=vX I<|d.keys p hp;rw[g,h]at this;exact this
end
def rNiX(P:Program)(w:World)(K:W.Frag):R2:=λx y H Q=>∃a kvs b k,y=.ref a/\rP P w K H a kvs/\x=.ref b/\cV K H b (k.map kV)/\Q (.bl<|!(kF kvs k).isSome) H
theorem LN(hu:X.A.units+1<cLine):oC X (compareOp .NotIn) (rNiX X.prog X.w X.K):=by
 intro aI s σ H x y v u Q I c f h;let⟨a,kvs,b,k,rfl,d,rfl,hk,q⟩:=h;cases c;cases f;let⟨xs,g,dd⟩:=ZC I d;calc wpAny_notIn_heap (eF hu) (vX I hk) d.lo dd ?_;let e:=(g.val k).isSome_eq;rw[mB]at e;rw[←e];exact#[.bl _,H,I.tok _,rfl,q]
theorem JW:jG X (.builtin "len") (λxs H Q=>pP xs λx=>nZ x λa=>∃kvs,rP X.prog X.w X.K H a kvs/\Q (.int kvs.length) H):=by
 intro aI s σ H xs us Q I r h;replace h:=kE h;let⟨x,rfl,h⟩:=h;replace h:=xG h;let⟨a,rfl,kvs,d,q⟩:=h;let⟨u,rfl,b⟩:=qU r;cases b;let⟨xs,c,e,es,ep,f,g,i,j,k,l⟩:=ZC I d;let raw:oQ s.heap a es ep:=#[e,f,g,i]
 let eO:es.size=kvs.length:=by
  rw[←dQ,j,aD];exact(eY c).symm
 let hs:sizeLine=16777216:=dJ;let hz:=d.few;calc call_len_slot (n:=(es.size:Int)) raw.typeIs F.slot_dict_len (λm hq=>sL F.slot_dict_len raw.typeIs F.entry_dict_len (F.args_dict_len_1 _) (bf a d.lo) #[es,ep,raw,hq]) () () ?_;rw[eO];exact#[.int kvs.length,H,(I.tok _),#[_,rfl],q]
def tDGX(P:Program)(w:World)(K:W.Frag)(td ty:TE):TE:=λσ H Q=>td σ H λx H1=>ty σ H1 λy H2=>∃a kvs b k v,x=.ref a/\rP P w K H2 a kvs/\y=.ref b/\cV K H2 b (k.map kV)/\kF kvs k=some v/\Q v H2
theorem RA{i:Expr}{pos:Pos}{td ty:TE}(hu:X.A.units+1<cLine)(ho:PE X o td)(hi:PE X i ty)(hs:o0 i):PE X (.Subscript o i pos) (tDGX X.prog X.w X.K td ty):=by
 intro aI s σ H Q I h;calc HB ja.lookup hs (eI (ho aI s σ H _ I h) λu s1 ⟨x,H1,g,j,l⟩=>eI (hi aI s1 σ H1 _ g l) λz s2 z=>?_);let⟨y,H2,c,m,e⟩:=z;let⟨a,kvs,b,k,v,ex,d,n,hk,q,e⟩:=e;subst ex n;cases j;cases m;let⟨xs,r,dd⟩:=ZC c d;let⟨B,t,f⟩:=mM.some_of (v:=v) (o:=(atKey xs k).map (·.2)) (by rw[←q];calc r.val k);let⟨p,hp,mK⟩:=aL.mp t;calc#[dd.typeIs,wpAny_getItem_heap (eF hu) (vX c hk) dd hp ?_];rw[mK];exact#[v,H2,c.tok _,f,e]
def sDPX(P:Program)(w:World)(K:W.Frag)(td ty tv:TE):TS:=λD σ H=>tv σ H λv H1=>td σ H1 λx H2=>ty σ H2 λy H3=>∃a kvs b k,x=.ref a/\rP P w K H3 a kvs/\y=.ref b/\cV K H3 b (k.map kV)/\kF kvs k=none/\D.nx σ (upd H3 a<|CS P w a<|kvs++[(k,b,v)])
theorem GA.snoc{kvs:List XE}{xs:List (List eR×Addr×Value)}(h:GA kvs xs){k:List eR}(r:RelV v u):GA (kvs++[(k,b,v)]) (xs++[(k,b,u)]):=Paired.snoc h #[rfl,rfl,r]
theorem PL{i value:Expr}{pos:Pos}{td ty tv:TE}(hu:X.A.units+1<cLine)(ho:PE X o td)(hi:PE X i ty)(hv:PE X value tv)(hs:swapsWith value (some<|.Subscript o i pos') pos.line X.env=pure false):
 PS X (.Assign [.Subscript o i pos'] value pos) (sDPX X.prog X.w X.K td ty tv):=by
 intro aI s σ H D I h;calc wpAny_Assign_Subscript (eI (hv aI s σ H _ I h) λr s1 ⟨v,H1,p,rv,q⟩=>eI (ho aI s1 σ H1 _ p q) λu s2 ⟨x,H2,t,z,B⟩=>eI (hi aI s2 σ H2 _ t B) λL M u=>?_) hs;let⟨y,N,f,C,g⟩:=u;let⟨a,kvs,b,k,ex,d,E,hk,hn,g⟩:=g;subst ex E;cases z;cases C;let⟨xs,j,dd⟩:=ZC f d;let hz:xs.length<=sizeLine:=by
  rw[←eY j,dJ];have :=d.few;lia
 refine wpAny_setItem_heap (hsz:=hz) (eF hu) (vX f hk) dd λh' dd' l=>?_
 let m:atKey xs k=none:=by
  let e:=(j.val k).isSome_eq;rw[hn,mB]at e;cases c:atKey xs k with
  |none=>rfl
  |some _=>rw[c]at e;cases e
 rw[GJ m]at dd';let⟨n,es,ep,hq,h2,F,G,_,J⟩:=dd';exact#[σ,_,wY f (by rw[d.is];calc True.intro) l #[n,hq]<|IQ #[_,j.snoc rv,n,es,ep,hq,h2,F,G,J],g]
def tLX(P:Program)(w:World)(K:W.Frag)(to:TE):TE:=λσ H Q=>to σ H λx H1=>∃a kvs,x=.ref a/\rP P w K H1 a kvs/\∀l,H1 l=none->Q (.ref l) (upd H1 l<|.lst<|kvs.map λx=>V.ref x.2.1)
theorem PV{to:TE}{p pos:Pos}(hg:Gl X "list")(hm:X.mg "list"=none)(hc:X.calm=true)(ho:PE X o to)
 (he:autoParam (starEach [o] X.env=[(false,eval o X.env)]) a1._auto_1):PE X (.Call (.Name "list" p) [o] [] pos) (tLX X.prog X.w X.K to):=by
 intro aI s σ H Q I h;calc eW (uL I hg hm vR ?_ (by decide) (by decide));calc dS ?_ he (by rfl);rw[he];show wpAny _ _ (spliced [(false,_)]) _ _ s;calc fL (eI (ho aI s σ H _ I h) λv s1 ⟨x,H1,c,l,a,kvs,e,d,q⟩=>iV ?_);subst e;cases l;let⟨xs,g,m,es,ep,n,r,t,j,J,L⟩:=ZC c d;let raw:oQ s1.heap a es ep:=#[m,n,r,t]
 let eO:es.size=kvs.length:=by
  rw[←dQ,j,aD];exact(eY g).symm
 let hs:sizeLine=16777216:=dJ;let hz:=d.few;refine kdl_call (OZ (d:=a) (es:=es) (ep:=ep) d.lo) (I.ok.hd hc) raw () λh' tk acc z hk A b=>?_
 let vals:cY (kvs.map λx=>V.ref x.2.1) acc.toList:=by
  let f:acc.toList.length=es.size:=by rw[dQ];exact b.1
  refine ZN (by rw[aD,f,eO]) λi y u hy hu=>?_
  rw[hZ]at hu;let⟨M,k,B⟩:=b.2 i u hu;rw[←hZ,j,aF]at k;let⟨C,D,E⟩:=aL.mp k;rw[aF]at hy;let⟨F,G,p2⟩:=aL.mp hy;have :=g.at G D;rw[←B,←E,←p2];show Value.ref C.2.1=Value.ref F.2.1;rw[this]
 exact#[.ref _,_,c.laid (a:=_) (o:=.lst<|kvs.map λx=>V.ref x.2.1) (t':=tk) hk (aG _) #[by rw[aD];lia,acc.toList,z,vals,by rw[rS];calc A],rfl,q _<|c.hok.fresh<|aG _]
def tDX1(P:Program)(w:World)(K:W.Frag)(tk tv:TE):TE:=λσ H Q=>∀p,H p=none->(p==sysModules)=false->tk σ (upd H p<|CS P w p []) λx H1=>tv σ H1 λy H2=>∃b k,x=.ref b/\cV K H2 b (k.map kV)/\H2 p=some (CS P w p [])/\Q (.ref p) (upd H2 p<|CS P w p [(k,b,y)])
theorem PZ{ke ve:Expr}{pos:Pos}{tk tv:TE}(hu:X.A.units+1<cLine)(hk:PE X ke tk)(hv:PE X ve tv):PE X (.Dict [some ke] [ve] pos) (tDX1 X.prog X.w X.K tk tv):=by
 intro aI s σ H Q I q;let hn:=I.hok.fresh<|aG s.heap.objs.size;let c:(s.heap.objs.size==sysModules)=false:=cA.mpr<|bX<|bL I.big;let e:WI X.prog X.w (s.heap.push {cls:=.type "dict",data:=.dict (List.toArray [])}) s.heap.objs.size []:=#[[],.nil,_,(List.toArray []),0,bR _ rfl,#[rfl,rfl,rfl],rfl,rfl,fq]
 let i:=I.laid (a:=s.heap.objs.size) (o:=CS X.prog X.w s.heap.objs.size []) (h':=s.heap.push {cls:=.type "dict",data:=.dict (List.toArray [])}) (t':=s.toks) (λ_ _ q=>aT _ q) (aG _)<|IQ e;calc wpAny_Dict_any rfl rfl (by simp) (by show 1<=15;decide) (pairTrees_cons_walk<|eI (hk aI _ σ _ _ i<|q _ hn c) λu s1 ⟨x,H1,j,l,m⟩=>eI (hv aI s1 σ H1 _ j m) λB s2 ⟨y,H2,f,n,b,k,ex,hb,hp,p⟩=>pairTrees_nil_walk ?_);subst ex;cases l;let d:rP X.prog X.w X.K H2 s.heap.objs.size []:=#[hp,by decide,c,λx hx=>nomatch hx]
 let⟨xs,r,dd⟩:=ZC f d;cases r;unfold storeAll;rw[List.forIn_cons];calc aE (aE<|wpAny_dictSet_heap (knd:=tupleKind<|zT X.prog X.w) (show X.A.units<cLine by lia) (vX f hb) dd (λh' dd' g=>aS ?_) (by rw[dJ];decide));let⟨h,es,ep,hq,h2,t,v,_,z⟩:=dd';show wpAny _ _ (forIn [] PUnit.unit _) _ _ _;rw[List.forIn_nil];exact aS #[.ref s.heap.objs.size,_,wY f (by rw[hp];calc True.intro) g #[h,hq]<|IQ #[_,Paired.cons #[rfl,rfl,n] .nil,h,es,ep,hq,h2,t,v,z],rfl,p]
end
section
open PySem.W
theorem JL{h:Heap}:∀(kvs:List XE)(as:List Addr),(∀(i:Nat)(x:XE),kvs[i]?=some x->∃(a:Addr)(its:List Value),as[i]?=some a/\cY [.ref x.2.1,x.2.2] its/\IsTup h a its.toArray)->
 ∃xs,GA kvs xs/\∀(i:Nat)(k:List eR)(b:Addr)(v:Value),xs[i]?=some (k,b,v)->∃a,as[i]?=some a/\IsTup h a (List.toArray [.ref b,v])/\∃x,kvs[i]?=some x/\x.1=k/\x.2.1=b
 |[],as,hk=>#[[],.nil,λi k b v e=>by simp at e]
 |x::kvs,as,hk=>by
  let⟨a0,its,h1,h2,c⟩:=hk 0 x rfl;cases as with
  |nil=>cases h1
  |cons a as=>
  cases h1;let⟨xs,g1,g2⟩:=JL kvs as λi y e=>hk (i+1) y e
  let⟨m,d,rfl,f,g⟩:=vals2 h2;cases f;calc#[(x.1,x.2.1,d)::xs,.cons #[rfl,rfl,g] g1,λi j l v' e=>?_];cases i with
  |zero=>cases e;exact#[a0,rfl,c,x,rfl,rfl,rfl]
  |succ i=>exact g2 i j l v' e
theorem CB(hu:X.A.units+2<cLine):jG X (.type "dict") (λxs H Q=>iz X.calm (pP xs λx=>nZ x λp=>∃as:List Addr,dB X.K H p (as.map V.ref)/\∃kvs:List XE,as.length=kvs.length/\(kvs.map (·.1)).Nodup/\
 (∀(i:Nat)(x:XE),kvs[i]?=some x->∃a,as[i]?=some a/\cV X.K H a [.ref x.2.1,x.2.2]/\cV X.K H x.2.1 (x.1.map kV))/\∀l,H l=none->(l==sysModules)=false->Q (.ref l) (upd H l<|CS X.prog X.w l kvs))):=by
 intro aI s σ H xs us Q I r h;replace h:=MW h;let⟨hc,h⟩:=h;replace h:=kE h;let⟨M,rfl,h⟩:=h;replace h:=xG h;let⟨p,rfl,as,hp,kvs,eO,hn,hk,q⟩:=h;let⟨u,rfl,y⟩:=qU r;cases y;let⟨its,rv,hl,hz⟩:=I.list hp;let lY:=rv.length;rw[aD]at lY hz;let⟨vs,g1,g2⟩:=JL (h:=s.heap) kvs as λi x e=>by
  let⟨a,c,d,t⟩:=hk i x e;let⟨its,z,B,_⟩:=I.tuple d;exact#[a,its,c,z,B]
 let f:kvs.length=vs.length:=eY g1;let g:vs.map (·.1)=kvs.map (·.1):=by
  clear hn g2 f hk eO q
  induction g1 with
  |nil=>rfl
  |cons h _ C=>rw[bV,bV,C,h.1]
 refine uC (knd:=tupleKind<|zT X.prog X.w) (xs:=vs) (show X.A.in1.in1.units<cLine from ?_) (I.ok.hd hc) hl GY (by rw[g];calc hn) () (by rw[aM];lia) (λi k b v e=>?_) λh' t' j m=>?_
 ·exact hu
 ·let⟨a,c,d,x,t,rfl,rfl⟩:=g2 i k b v e;let⟨u,h1,h2⟩:=rv.get (i:=i) (x:=V.ref a) (by rw[aF,c];rfl);cases h2;let⟨_,_,_,D⟩:=hk i x t;exact#[a,by simpa using h1,d,vX I D]
 ·let⟨o,es,ep,E,F,G,J,L⟩:=m;let n:=I.hok.fresh<|aG s.heap.objs.size;exact#[.ref s.heap.objs.size,_,I.laid (a:=s.heap.objs.size) (o:=CS X.prog X.w s.heap.objs.size kvs) (t':=t') j (aG _)<|IQ #[vs,g1,o,es,ep,E,F,G,J,L],rfl,q _ n<|cA.mpr<|bX<|bL I.big]
def OE(P:Program)(w:World)(K:W.Frag)(td ty:TE):TE:=λσ H Q=>td σ H λx H1=>∃a kvs0,x=.ref a/\rP P w K H1 a kvs0/\ty σ H1 λy H2=>∃kvs b k,rP P w K H2 a kvs/\y=.ref b/\cV K H2 b (k.map kV)/\Q ((kF kvs k).getD .non) H2
theorem bv{gA:Pos}{td ty:TE}(hu:X.A.units+1<cLine)(ho:PE X o td)(he:PE X e ty)(m:M1 X o "get" lP e gA):PE X (.Call (.Attribute o "get" lP) [e] [] gA) (OE X.prog X.w X.K td ty):=by
 intro aI s σ H Q I h;calc fh m.base m.few m.line pR hV F.type_dict_get (eI (ho aI s σ H _ I h) λu s1 z0=>?_);let⟨x,H1,j,n,f⟩:=z0;let⟨a,l,ex,p,f⟩:=f;subst ex;obtain rfl:u=Value.ref a:=n;let⟨q,r,c⟩:=ZC j p;calc#[c.typeIs,(λC ho=>by cases ho;let⟨o',_,_,h1,h2,D,_⟩:=c;calc#[o',h1,h2.2.1]),?_];rw[m.trees];calc iF rfl (lE<|fL<|eI (he aI s1 σ H1 _ j f) λt s2 ⟨y,H2,g,v,i⟩=>iV ?_);let⟨kvs,b,k,d,z,hk,i⟩:=i;subst z;cases (show t=Value.ref b from v);let⟨xs,B,dd⟩:=ZC g d;exact sL hV dd.typeIs pW (F.args_dict_get_2 _ _) (meetsH_dict_get (tupleKind<|zT X.prog X.w) a b d.lo) #[eF hu,k,_,vX g hk,dd,#[(kF kvs k).getD .non,H2,g.tok _,(B.val k).getD (d:=.non) rfl,i]]
section
variable {c:Value} {b:Bool}
end
theorem cW.calm{k:Nat}(F:cW P w K mg base (pU P w) k f fd ps sp):cW P w K mg base fS k f fd ps (λvs H Q _=>sp vs H Q E0):=
 #[λvs H Q E h=>F.len vs H Q E0 h,λA outer s H args us vs Q E hr a hb b h=>nO (F.run A outer s H args us vs Q E0 hr a hb b h) λr s' hr=>by
  cases r with
  |error e=>
   let⟨d,C,a0,B,H',_,_,_,_,q⟩:=hr;exact q.elim
  |ok c=>cases c<;>calc hr]
structure rX(P:Program)(w:World)(K:W.Frag)(mg:Str->Option Value)(base:Heap)(k:Nat)(f:Addr)(ps:List Str)(sp:Sp):Prop where
 ex:∃fd,cW P w K mg base (pU P w) k f fd ps sp/\Binds K fd ps []/\W.keepIn K (.ref f)=true
theorem oE.at{k:Nat}{x:Str}(h:oE P w K mg base k x ps sp)(hm:mg x=some (.ref f)):rX P w K mg base k f ps sp:=by
 let⟨g,fd,F,b,kp,m⟩:=h.ex;rw[hm]at m;cases m;exact#[fd,F,b,kp]
theorem oE.mono{k:Nat}{x:Str}(h:oE P w K mg base j x ps sp)(hk:j<=k):oE P w K mg base k x ps sp:=by
 let⟨g,fd,F,b,kp,m⟩:=h.ex;exact#[g,fd,F.mono hk,b,kp,m]
theorem JJ{scope:Scope}{f':Addr}{E:XK}
 {k:Nat} {x:Str} {t:TA} {p pos:Pos} (h:rX P w K mg base k f' ps sp) (hr:fV k (A.deeper<|envOfC qual scope s₀.heap.objs.size f cd))
 (ha:PA (jX (pU P w) P w K mg base N qual scope f cd A outer s₀ H₀ E) (e::es) t) (hN:autoParam (N[i]?=some x) a1._auto_1) (hv:Vis (jX (pU P w) P w K mg base N qual scope f cd A outer s₀ H₀ E).env.scope x:=by first |exact Or.inl rfl |exact Or.inr (Or.inl rfl) |exact Or.inr<|Or.inr rfl)
 (hdb:autoParam ((x==("__debug__":Str))=false) a2._auto_1) (hcd:autoParam ((x==("__classdict__":Str))=false) a2._auto_1)
 (he:autoParam (starEach (e::es) (envOfC qual scope s₀.heap.objs.size f cd)=(false,eval e<|envOfC qual scope s₀.heap.objs.size f cd)::starEach es (envOfC qual scope s₀.heap.objs.size f cd)) a1._auto_1)
 (iK:autoParam ((backTo pos<|starEach es<|envOfC qual scope s₀.heap.objs.size f cd).any (·.1)=false) a1._auto_1):
 PE (jX (pU P w) P w K mg base N qual scope f cd A outer s₀ H₀ E) (.Call (.Name x p) (e::es) [] pos) (QK i f'<|JG sp [] E t):=by
 let⟨fd,F,b,kp⟩:=h.ex;intro aI s σ H Q I h;let⟨h1,h2⟩:=h;calc eW (eI (PR (X:=jX (pU P w) P w K mg base N qual scope f cd A outer s₀ H₀ E) hN hv hdb hcd aI s σ H (λv H'=>v=.ref f'/\H'=H) I (by show asV _ _;rw[h1];calc#[rfl,rfl])) λu s1 z=>?_);let⟨v,H1,c,r,d,g⟩:=z;subst d g;obtain rfl:u=.ref f':=r;calc lM (h₀:=base) I.ok.mod.kin kp (eI (ha pos aI s1 σ H1 _ c h2) λus s2 ⟨vs,H2,a,r,q⟩=>#[a.kIn,?_]) he iK;exact DX F hr b .nil ij a r q
end
section
open PySem.SeqAt
end
end L2
namespace HT
open PySem PyProof.Rows
noncomputable def lexLe:List Int->List Int->Bool
 |[],[]=>true
 |[],_::_=>true
 |_::_,[]=>false
 |x::xs,y::ys=>if x=y then lexLe xs ys else decide (x<=y)
theorem lexLe_cons(x y:Int)(xs ys:List Int):lexLe (x::xs) (y::ys)=if x=y then lexLe xs ys else decide (x<=y):=rfl
theorem XX:lexLe [] []=true:=rfl
theorem YY(y:Int)(ys:List Int):lexLe [] (y::ys)=true:=rfl
theorem YZ(x:Int)(xs:List Int):lexLe (x::xs) []=false:=rfl
theorem OY(A:Around)(s:Shared)(a:Int)(t:Tok)(c:Int)(u:Tok)(prog:Program)(w:World)(E:Value->Shared->Prop)(Q:Value->Shared->Prop)(h:Q (.bool<|decide<|a<=c) s):
 wpAny (model prog w) A (richCompare .LtE (.int a t)<|.int c u) Q E s:=
 (PyProof.Rows.le_int h:wpAny (model prog w) A (compareOp .LtE (.int a t)<|.int c u) Q E s)
section
open PySem.SeqAt
open PySem.AutoSeq1 (wpAny_loadPart')
open PySem.MeetsSeq PySem.MeetsSeq2 PySem.MeetsSeq3
theorem XS(l b:Addr)(cT gK:Array Value)(n n2:Nat)(dd dd2:Option Addr)(sl sl2:Array (Option Value))(ns ms:List Int)(hi:IntsAre cT.toList ns)(hj:IntsAre gK.toList ms):
 Meets (Builtin.«tuple.__le__» #[[.ref l,.ref b],[]])
  (λ_ R s=>s.heap.get? l=some {cls:=.type "tuple",dict:=dd,data:=.seq cT n,slots:=sl}/\s.heap.get? b=some {cls:=.type "tuple",dict:=dd2,data:=.seq gK n2,slots:=sl2}/\
   R (.ok<|.ret<|.bool<|lexLe ns ms) s):=
 .of_wp λprog w A R s h=>by
  let⟨hp,g,d,tk,os⟩:=s;let⟨hl,hb,h⟩:=h;let F:=AutoSeq1.sub_tuple_tuple;let G:cT.size=ns.length:=by rw[←hi.length];simp
  let H:gK.size=ms.length:=by rw[←hj.length];simp
  wp_walk using wpAny_loadPart' hl,wpAny_loadPart' hb,wpAny_forIn_list _ (λgY b s'=>b.1=none/\s'=#[hp,g,d,tk,os]/\∃(vs ws:List Value)(f i:List Int),gY=vs.zip ws/\
   IntsAre vs f/\IntsAre ws i/\f.length+gK.size=i.length+cT.size/\R (.ok<|.ret<|.bool<|lexLe f i) #[hp,g,d,tk,os]) _
  case turn=>
   rintro⟨y,x⟩ gY b s' ⟨o,rfl,vs,ws,f,i,hz,p,j,eO,k⟩;cases p with
   |nil=>rw[List.zip_nil_left]at hz;cases hz
   |cons a t v=>
    cases j with
    |nil=>rw[List.zip_nil_right]at hz;cases hz
    |cons c u z=>
     rw[List.zip_cons_cons]at hz;injection hz with B r
     injection B with hy hx
     subst hy hx;rw[lexLe_cons]at k;simp only[bC]at eO;let⟨e,he,m⟩:=VE A.in1 #[hp,g,d,tk,os] a t c u;calc aE<|he prog w _ _ ?_;cases e with
     |true=>
      rw[aO<|m.mp rfl]at k
      wp_walk
      exact#[rfl,rfl,_,_,_,_,r,v,z,by lia,k]
     |false=>
      rw[aH λq=>absurd (m.mpr q) aY]at k;let C:=OY A.in1 #[hp,g,d,tk,os] a t c u prog w
      wp_walk using C
      exact#[_,rfl,by simpa using k]
  case fin=>
   rintro⟨b1,b2⟩ s' ⟨o,rfl,vs,ws,f,i,hz,p,j,eO,k⟩;simp only at o;subst o;let D:lexLe f i=decide (cT.size<=gK.size):=by
    cases p with
    |nil=>
     cases j with
     |nil=>
      simp only[gX]at eO;rw[XX];exact(cP (by lia)).symm
     |cons c u E=>
      simp only[gX,bC]at eO;rw[YY];exact(cP (by lia)).symm
    |cons a t D=>
     cases j with
     |nil=>
      simp only[gX,bC]at eO;rw[YZ];exact(cJ (by lia)).symm
     |cons c u E=>
      rw[List.zip_cons_cons]at hz;cases hz
   rw[D]at k
   wp_walk
   exact#[_,rfl,by simpa[Builtin.Tuple.tupleCompareSizes]using k]
  case h=>
   exact#[rfl,rfl,cT.toList,gK.toList,ns,ms,rfl,hi,hj,by lia,h]
end
section
variable {prog:Program} {w:World} {A:Around} {E:Value->Shared->Prop} {s:Shared}
theorem le_tupInts{l b:Addr}{cT gK:Array Value}{ns ms:List Int}{Q:Value->Shared->Prop}(hl:IsTup s.heap l cT)(hb:IsTup s.heap b gK)(hi:IntsAre cT.toList ns)(hj:IntsAre gK.toList ms)
 (hu:A.units<cLine) (h:Q (.bool<|lexLe ns ms) s):wpAny (model prog w) A (compareOp .LtE (.ref l)<|.ref b) Q E s:=by
 let⟨⟨cls,dd,data,sl⟩,g,hc,n,hd⟩:=id hl;let⟨⟨i,e,data2,f⟩,a,c,j,d⟩:=id hb;simp only at hc hd c d;subst hc hd c d;exact richCompare_meets_room (op:=.LtE) #[_,g,rfl] #[_,a,rfl] PySem.F.slot_tuple_le PySem.F.entry_tuple_le (PySem.F.args_tuple_le_2 _ _) (XS l b cT gK n j dd e sl f ns ms hi hj)
  #[g,a,show Value.bool (lexLe ns ms)≠Value.notImplemented/\Q (.bool<|lexLe ns ms) s from#[(λx=>nomatch x),h]] hu
end
end HT
namespace L2
open PySem PySem.Spec PyProof.Rows PySem.W
variable {X:Cx}
local macro_rules | `(()) => `(by lia)
def rLeT(K:W.Frag):R2:=λx y H Q=>∃a b ns ms,x=.ref a/\y=.ref b/\cV K H a (ns.map V.int)/\cV K H b (ms.map V.int)/\Q (.bl<|HT.lexLe ns ms) H
theorem mf(K:W.Frag)(hu:X.A.units<cLine)(h:autoParam (X.K=K) a1._auto_1):oC X (compareOp .LtE) (rLeT K):=by
 subst h;intro aI s σ H x y v u Q I d e h;let⟨a,b,ns,ms,rfl,rfl,ha,hb,q⟩:=h;cases d;cases e;let⟨its,f,g,_⟩:=I.tuple ha;let⟨c,i,p2,_⟩:=I.tuple hb;exact HT.le_tupInts g p2 (XF f) (XF i) hu #[.bl<|HT.lexLe ns ms,H,I,rfl,q]
theorem JR:∀ns ms:List Int,HT.lexLe ns ms=!HT.lexLt ms ns
 |[],[]=>rfl
 |[],_::_=>rfl
 |_::_,[]=>rfl
 |x::xs,y::ys=>by
  rw[HT.lexLe_cons,HT.lexLt_cons];by_cases e:x=y
  ·rw[aO e,aO e.symm];exact JR xs ys
  ·rw[aH e,aH<|bX e,←decide_not];exact decide_eq_decide.mpr ()
end L2
namespace C
open PySem L2
seal PE PT PW PA PS sU PG ou PI PO ek KL
variable {CU d f lg p:Addr} {fd:FuncData} {base:Heap} {H H' J:Hp} {kvs:List (List eR×V)} {vs:List (List Nat)} {ps:List (Nat×Nat)} {L:List (Tm×Nat)} {qs:List Addr} {ls:List Ln} {R:List Ln->Prop} {sp xs:List Nat} {rows:List Rw} {zs:List Str} {ts:List Tm} {us:List V} {as:List Wt} {l:Ln} {a b i j n:Nat} {U:Nat->Nat->Prop} {P:Program} {K:W.Frag} {r:Rw} {S:Str->List Nat} {mg:Str->Option Value} {s:Tm×Tm} {v:V} {w:World}
local macro_rules|`(tactic|dsimp! [$ts,*])=>do let f:=λs=>(String.splitOn s " ").toArray.map λs=>Lean.mkIdent s.toName;let x:=f "OC tFor_eq tLC_eq iRng1 iRng2 iq iTup tIfS tRet tRetN tNext QL uV tVar tC tOp WP rI tTest tB rEq rNe JG tCons tNil tCB tLst tTup tAnd tOr tNot tAndV tOrV tNotV tIf tDrop tSl tPart QI jo tUn rU uU cx_K bk_K cx_calm bk_calm Option.join Bool.not_true Bool.not_false List.length_cons List.length_nil mapC mapN List.replicate List.cons_append List.nil_append List.getElem?_cons_zero List.getElem?_cons_succ List.set_cons_zero List.set_cons_succ Nat.reduceSub Nat.reduceAdd tBM tBM0 QU rIxL rIxT rIxS rSlL rSlT rCat cx_w bk_w tDGet jn cx_P asI_i asR_i asB_i asS_i asV_i asC_i as1_i as2_i as0_i asT_i";let y:=f "asI_e asR_e asB_e asS_e asV_e asC_e as1_e as2_e as0_e asT_e lenV_str and_assoc List.length_map List.length_append decide_eq_true_eq Bool.false_eq_true if_false if_true Bool.not_eq_true' decide_eq_false_iff_not Bool.true_eq_false List.append_nil Option.some.injEq V.int.injEq V.str.injEq V.bl.injEq V.ref.injEq List.cons.injEq and_true true_and exists_eq_left' exists_eq_left exists_and_left exists_eq_right exists_const List.map_cons List.map_nil";`(tactic|(try dsimp only[$[$x:ident],*,$ts,*];try simp only[$[$y:ident],*,$[$x:ident],*,$ts,*]))
def ff1(h z o:Lean.Term)(x:Array Lean.Term)(s:String):Lean.Term:=let w:=(s.splitOn " ").map λs=>if s=="?" then h else if s=="!" then z else if s=="_" then o else if s.front=='#' then x[(s.drop 1).toNat!]! else if s.isNat then Lean.quote s.toNat! else Lean.mkIdent s.toName;Lean.Syntax.mkApp w.head! w.tail.toArray
def ff2(x:Array Lean.Term)(s:String):Lean.MacroM (Array (Lean.TSyntax `Lean.Parser.Tactic.tacticSeq)):=do let h<-`(?_);let z<-`(‹_›);let o<-`(_);let l:=(s.splitOn "|").flatMap λs=>if s.contains '@' then (List.range 12).map λn=>s.replace "@" (toString n) else [s];l.toArray.mapM (λs=>if s.front=='=' then `(tacticSeq|exact $(ff1 h z o x (s.drop 1).toString)) else `(tacticSeq|refine' $(ff1 h z o x s)))
def ff3(s:String):Lean.MacroM Lean.Term:=do let a<-ff2 (.mk []) s;`(by first $[|$a]*)
def ff4(x:Array Lean.Term)(s:String):Lean.MacroM (Lean.TSyntax `Lean.Parser.Tactic.tacticSeq):=do let h<-`(?_);let z<-`(‹_›);let o<-`(_);let w:=s.splitOn ";";let a<-ff2 x w.tail.head!;`(tacticSeq|(show $(ff1 h z o x w.head!);first $[|$a]*))
local macro_rules|`(#[])=>do let x<-List.mapM id [`(.Name _ _),(ff3 "=mh|=RJ|=b7|=EQ|=RH|=me|=ma|=md|=EU"),(ff3 "=jj|=DI"),(ff3 "=ID|=RI|=IC|=RK|=im|=io"),`(yP _),`(Bi.len ‹_›),(ff3 "=fV.m !|=!"),`(qL ?_ ?_),`(EC ?_ ?_),`(.Assign _ _ _),`(Bi.range ‹_›)];let a<-("PA _ _ _;=zJ|zE ? ?~PE _ #0 _;=pv @~PE _ _ _;=zW|=uH|zV kS ? ?|jZ #1 ? ?|jL ?|EJ ?|=IB|=vV|PU #2 ?|uI #3 ? ? #4|zM CA rfl #5 UU ?|zQ ! #6 rfl ?|xN ! ! #6 ? ?|qZ cM dN dM xX ? ?|PY ? rfl~PT _ _ _;yG #3 ? ? #4|jK ?|PW.pt #7|PW.pt #8|xL ?~PW _ _ _;qL ? ?|EB ?|EC ? ?|HU ?~sU _ _ _;=zO|zH ?|zC ? ?~PS _ #9 _;xI @ ! ?~PS _ _ _;zS ?|=bp|yD ? ? ?|xE ?|yC bO rfl ? ? ?~PG _ #0 _;=yI @ !~PG _ _ _;EG rfl ?~ou _ _ _;yE ? ?|=jR~PI _ _ _ _;LL rfl #10 ?|LK rfl #10 ?|bq rfl ! ?|vO ?".splitOn "~").mapM (ff4 (.mk x));let a:=a.toArray;`(by repeat' (first $[|$a]*))
local macro_rules | `(tactic| rfl') => `(tactic| exact #[rfl, rfl, rfl, by decide +kernel, rfl, by decide +kernel, by decide +kernel])
local macro_rules | `(()) => `(by first | decide +kernel | lia)
noncomputable def top(i:Nat):Stmt:=PySem.Challenge.pw_clashbook_k31_judge_of_forty_rows.main.body.getD i<|.Pass #[0,0,0,0]
abbrev s_Z:Stmt:=top 21
theorem sc_Z:bP ["n"] ["n"] (zF s_Z):=by rfl'
abbrev s_M:Stmt:=top 22
theorem sc_M:bP ["n","bound"] ["n","bound"] (zF s_M):=by rfl'
abbrev vJ(H:Hp)(ls:List Ln)(us:List V):Prop:=bK H (ls.map n6) us
abbrev KG(H:Hp)(as:List Wt)(us:List V):Prop:=bK H (as.map dWt) us
theorem xJ{α:Type}{f:α->Dt}{xs:List α}(h:bK H (xs.map f) us)(hv:us[i]?=some v):∃x,xs[i]?=some x/\eE H (f x) v:=by
 let hl:=bK.length h;rw[aD]at hl;let hi:i<xs.length:=by rw[←hl];exact(aC.mp hv).1
 let⟨u,h1,h2⟩:=bK.get (d:=f xs[i]) h (by rw[aF,aA hi];rfl);rw[hv]at h1;cases h1;exact#[_,aA hi,h2]
theorem xM{α:Type}{f:α->Dt}{xs:List α}(h:bK H (xs.map f) us):us.length=xs.length:=by
 let hl:=bK.length h;rwa[aD]at hl
theorem LnAt.out(h:eE H (n6 l) v):∃a b us,v=.ref a/\H a=some (.tup [.int l.i,.int l.j,.ref b])/\H b=some (.tup (.str l.w::us))/\KG H l.as us:=by
 let⟨a,vs,d,e,f,p,g,h1,k,q,m,h2,r,n,o,⟨b,ws,g1,g2,x,y,g3,g4,g5⟩,c⟩:=h;let h1:f=.int l.i:=h1;let h2:k=.int l.j:=h2;let c:n=[]:=c;let g4:x=.str l.w:=g4;subst c o m g h1 h2 g1 g3 g4;exact#[a,b,y,d,e,g2,g5]
noncomputable def rwV:Rw->List V
 | .no=>[.str "none"]
 | .nm y=>[.str "name",.str y]
 | .bo i j=>[.str "both",.int i,.int j]
def Tw(K:W.Frag)(H:Hp)(a:Addr)(xs:List V):Prop:=
 H a=some (.tup xs)\/∃(o:Obj)(its:Array Value)(n:Nat),K.lookup a=some o/\o.cls=.type "tuple"/\o.data=.seq its n/\its.size<=sizeLine/\cY xs its.toList
theorem Tw.sq{a:Addr}{xs:List V}(h:Tw K H a xs):cV K H a xs:=h.elim cV.of .inr
theorem Tw.tups{a:Addr}{xs:List V}(h:Tw K H a xs)(e:cX H H'):Tw K H' a xs:=h.elim (λz=>.inl<|e _ _ z) .inr
theorem Tw.same{a:Addr}{xs:List V}(h:Tw K H a xs)(e:aZ H H'):Tw K H' a xs:=h.elim (λz=>.inl<|e _ _ z) .inr
def GD(K:W.Frag)(H:Hp)(r:Rw)(v:V):Prop:=∃a,v=.ref a/\Tw K H a (rwV r)
def fX(K:W.Frag)(H:Hp):List Rw->List V->Prop
 |[],us=>us=[]
 |r::rs,us=>∃v vs,us=v::vs/\GD K H r v/\fX K H rs vs
theorem fX.go{K:W.Frag}{H H':Hp}(e:aZ H H'):∀{rs:List Rw}{us:List V},fX K H rs us->fX K H' rs us
 |[],_,h=>h
 |r::rs,us,⟨v,vs,b,⟨a,c,d⟩,f⟩=>#[v,vs,b,#[a,c,d.same e],fX.go e f]
theorem fX.same{rs:List Rw}(h:fX K H rs us)(e:aZ H H'):fX K H' rs us:=fX.go e h
theorem fX.len{K:W.Frag}{H:Hp}:∀{rs:List Rw}{us:List V},fX K H rs us->us.length=rs.length
 |[],_,h=>by cases (show _=[]from h);rfl
 |r::rs,us,⟨v,vs,a,_,b⟩=>by rw[a,bC,bC,fX.len b]
theorem fX.get{K:W.Frag}{H:Hp}:∀{rs:List Rw}{us:List V}{i:Nat}{v:V},fX K H rs us->us[i]?=some v->∃r,rs[i]?=some r/\GD K H r v
 |[],_,i,v,h,a=>by cases (show _=[]from h);simp at a
 |r::rs,us,0,v,⟨v',vs,b,c,d⟩,a=>by subst b;cases a;exact#[r,rfl,c]
 |r::rs,us,i+1,v,⟨v',vs,b,c,d⟩,a=>by
  subst b;let⟨e,g1,g2⟩:=fX.get (i:=i) d (by simpa using a);exact#[e,by simpa using g1,g2]
theorem GD.out(h:GD K H r v):∃a x us,v=.ref a/\Tw K H a (.str x::us)/\(match r with | .no=>x="none"/\us=[] | .nm y=>x="name"/\us=[.str y] | .bo i j=>x="both"/\us=[.int i,.int j]):=by
 let⟨a,b,c⟩:=h;cases r<;>exact#[a,_,_,b,c,rfl,rfl]
noncomputable def ptsR:Rw->List Int
 | .bo i j=>[i,j]
 |_=>[]
theorem wP{n:Int}(h:n % 2=0)(hr:rows[(n/2).toNat]?=some r):oO rows n=ptsR r:=by
 unfold oO;rw[aO h,hr];cases r<;>rfl
theorem OP{k:Nat}{i:Int}(h:0<=i/\i<(k:Int))(hl:ls[i.toNat]?=some l):jA ls k (.n i)=some (l.i,l.j):=by
 show(if 0<=i/\i<(k:Int)then(ls[i.toNat]?).map λl=>(l.i,l.j)else none)=_;rw[aO h,hl];rfl
theorem OQ{k:Nat}{i:Int}(h:¬(0<=i/\i<(k:Int))):jA ls k (.n i)=none:=by
 show(if 0<=i/\i<(k:Int)then(ls[i.toNat]?).map λl=>(l.i,l.j)else none)=_;rw[aH h]
noncomputable def isN:Wt->Bool
 | .n _=>true
 | .ps _=>false
def jq:Sp:=λvs H Q _=>∃(v:V)(x:Wt),vs=[v]/\eE H (dWt x) v/\Q (.bl<|isN x) H
def OO:Sp:=λvs H Q _=>∃(v:V)(x:Wt)(b:Int),vs=[v,.int b]/\eE H (dWt x) v/\Q (.bl<|JB b x) H
theorem AY(bi:Bi mg)(F:fR K "is_whole" "is_whole" s_Z f fd):cW P w K mg base fS 1 f fd ["n"] jq:=by
 refine F.okz sc_Z λeP A outer s H vs Q E hr h=>?_
 let⟨v,x,rfl,b,q⟩:=h;calc#[_,have nd:=sc_Z.nd;zH<|zS<|kK (zM (xC (T:="int")) rfl bi.isinstance zL<|zE #[]<|zE (qX bi.int FV rfl) zJ)<|kJ<|EI<|zM (xC (T:="bool")) rfl bi.isinstance zL<|zE #[]<|zE (qX bi.bool IZ rfl) zJ,?_];cases x with
 |n i=>
  let e:v=.int i:=b;subst e;dsimp![];exact#[_,.int i,true,xQ,iteT #[_,.int i,false,SW,q]]
 |ps l=>
  let⟨a,us,rfl,ha,hu⟩:=b;dsimp![];exact#[_,.tup ha,false,mv,iteF q]
theorem AZ(bi:Bi mg)(h_Z:gD P w K mg base 1 "is_whole" ["n"] jq)(F:fR K "is_below" "is_below" s_M f fd):cW P w K mg base fS 2 f fd ["n","bound"] OO:=by
 refine F.okz sc_M λeP A outer s H vs Q E hr h=>?_
 let⟨v,x,b,rfl,a,q⟩:=h;calc#[_,have nd:=sc_M.nd;zH<|zS<|kK #[]<|kJ<|RD RK IC zW #[] #[],?_];dsimp![jq];calc#[x,a,?_];cases x with
 |n i=>
  let e:v=.int i:=a;subst e;rw[show isN (.n i)=true from rfl,aO rfl];let q:Q (.bl<|decide (0<=i)&&decide (i<b)) H:=q;calc#[i,rfl,?_];split
  ·rename_i h
   rw[cP h,pM]at q;exact#[i,rfl,q]
  ·rename_i h
   rw[cJ h,fI]at q;exact q
 |ps l=>
  rw[show isN (.ps l)=false from rfl,aH aY];exact q
theorem n0(p q:Pr):iS (NH p) (NH q)=(p==q):=by
 let⟨a,b⟩:=p;let⟨c,d⟩:=q;simp only[NH,iS,vH,tE];rfl
theorem ny(n:Nat)(p:Pr):jY (n+1) (NH p):=#[by simp,λd hd=>by
 simp only[bJ,fC,or_false]at hd;rcases hd with rfl |rfl<;>(cases n<;>trivial)]
theorem l7{p:Pr}(h:eE H (NH p) v):∃a,v=.ref a/\H a=some (.tup [.int p.1,.int p.2]):=by
 let⟨a,vs,c,d,e,k,f,h1,g,i,j,h2,b⟩:=h;let h1:e=.int p.1:=h1;let h2:g=.int p.2:=h2;let b:i=[]:=b;subst b j f h1 h2;exact#[a,c,d]
theorem nrAt{r:zZ}(h:eE H (ix r) v):∃a l b us,v=.ref a/\H a=some (.tup [.ref l,.ref b])/\H l=some (.lst us)/\bK H (r.1.map NH) us/\H b=some (.tup [.int r.2.1,.int r.2.2]):=by
 let⟨a,vs,d,e,j,k,f,⟨l,us,g1,g2,g3⟩,m,g,i,h2,c⟩:=h;let⟨b,g4,g5⟩:=l7 h2;let c:g=[]:=c;subst c i f g1 g4;exact#[a,l,b,us,d,e,g2,g3,g5]
theorem ln{rules:List zZ}{k:Nat}{r:Int}{ps:List Int}(h:l.as=[.n r,.ps ps]):vA rules ls k l=if 0<=r/\r<rules.length then(match rules[r.toNat]? with |some q=>(l.i,l.j)==q.2&&(ps.map λp=>jA ls k<|.n p)==q.1.map some |none=>false)else false:=by
 unfold vA;rw[h]<;>rfl
def qK(rows:List Rw):Prop:=∀(k:Nat)(i j:Int),rows[k]?=some (.bo i j)->(0<=i/\i<2*(k:Int))/\0<=j/\j<2*(k:Int)
def RowB(r:Rw)(n:Int):Prop:=∀i j,r=.bo i j->(0<=i/\i<n)/\0<=j/\j<n
theorem VB(n:Nat)(r:Rw):jY (n+1) (sE r):=by
 cases r with
 |no=>exact#[by simp,λd hd=>by simp at hd;subst hd;cases n<;>trivial]
 |nm x=>exact#[by simp,λd hd=>by simp at hd;rcases hd with rfl |rfl<;>(cases n<;>trivial)]
 |bo i j=>exact#[by simp,λd hd=>by simp at hd;rcases hd with rfl |rfl |rfl<;>(cases n<;>trivial)]
abbrev s_l:Stmt:=qO (top 34) 0
theorem sc_l:bP ["self","many"] ["self","many"] (zF s_l):=by rfl'
abbrev s_f:Stmt:=qO (top 34) 1
theorem sc_f:bP ["self","i","j"] ["self","i","j"] (zF s_f):=by rfl'
abbrev s_I:Stmt:=qO (top 34) 2
theorem sc_I:bP ["self","i","j"] ["self","i","j"] (zF s_I):=by rfl'
abbrev s_t:Stmt:=qO (top 34) 3
theorem sc_t:bP ["self","i","j","why"] ["self","i","j","why"] (zF s_t):=by rfl'
abbrev s_L:Stmt:=top 3
theorem sc_L:bP ["mask","bits","rest","low"] ["mask"] (zF s_L):=by rfl'
abbrev nV(n:Nat):V:=.int (n:Int)
inductive rZ (vs:List V) (H:Hp) (Q:VK) (E:XK):Prop
 |mk (m:Nat) (xs:List Nat) (_:vs=[.int m]) (_:rK m xs) (_:(∀x∈xs,x<300)) (_:∀p H',aZ H H'->H p=none->H' p=some (.lst<|xs.map nV)->Q (.ref p) H')
theorem CL{m:Nat}(h:rK m xs)(hx:∀x∈xs,x<300):xs.length<=300:=by
 have :∀(xs:List Nat)(b:Nat),xs.Pairwise (· < ·)->(∀x∈xs,b<=x/\x<300)->xs.length+b<=300\/xs=[]:=by
  intro xs
  induction xs with
  |nil=>intro b _ _;exact .inr rfl
  |cons x xs d=>
   intro b hp hb;let a:=List.pairwise_cons.mp hp;let hx:=hb x aW;rcases d (x+1) a.2 (λy hy=>#[a.1 y hy,(hb y<|aX _ hy).2])with h |h
   ·left;rw[bC];lia
   ·subst h;left;rw[bC,gX];lia
 rcases this xs 0 h.1 (λx c=>#[cO _,hx x c])with h |h
 ·lia
 ·subst h;simp
theorem FE(bi:Bi mg)(F:fR K "bits_of" "bits_of" s_L f fd):cW P w K mg base fS 1 f fd ["mask"] rZ:=by
 refine F.okz sc_L λeP A outer s H vs Q E hr h=>?_
 let⟨m,xs,rfl,hb,hx,q⟩:=h;let u:=CL hb hx;calc#[_,have nd:=sc_L.nd;zC #[]<|zC #[]<|zC (tY bO (PF #[] λ_=>rfl)<|zC #[]<|zC (xE<|qZ cM dN dM xX #[]<|zE (jZ RH (l8 PySem.F.plainAttrs_int PySem.F.slot_int_bit_length PySem.F.type_int_bit_length XW #[]) zW) zJ)<|zH<|QW (i:=2) nd rfl (Or.inl rfl) #[] m6) #[],?_];refine zD λN a=>?_
 dsimp![];calc#[zI (by simp),λp hp=>a _ _ ?_];clear a;refine zD λN a=>?_
 dsimp![];calc a _ _ ?_;clear a;let s1:=zB hp<|.lst [];let k1:upd H p (.lst []) p=some (.lst<|(xs.take 0).map nV):=zA;generalize upd H p (.lst [])=H1 at s1 k1⊢;refine zP (λσ H'=>∃(n t:Option V),aZ H H'/\H' p=some (.lst<|xs.map nV)/\σ=[some<|V.int m,some<|V.ref p,n,t]) (λN a=>?_) λσ H' h=>?_
 ·dsimp![DO];calc#[λk σ H'=>∃(i r:Nat)(o:Option V),k=xs.length-i/\i<=xs.length/\aZ H H'/\H' p=some (.lst<|(xs.take i).map nV)/\rK r (xs.drop i)/\σ=[some<|V.int m,some<|V.ref p,some<|V.int r,o],#[_,0,m,_,rfl,cO _,s1,k1,hb,rfl],λk σ H' h=>?_];let⟨i,r,o,rfl,hi,s2,k2,iG,rfl⟩:=h;dsimp![];calc#[_,rfl,?_];cases hd:xs.drop i with
  |nil=>
   rw[hd]at iG;let v:=iG.nil;subst v;rw[aH ()];let lY:xs.length<=i:=by
    have :=cQ List.length hd;rw[cZ,gX]at this;lia
   rw[aR lY]at k2;exact a _ _ #[_,_,s2,k2,rfl]
  |cons x gY=>
   rw[hd]at iG;let c:r.testBit x=true:=by rw[iG.2];simp
   let⟨d,hl,g⟩:=iG.cons;rw[aO (by simp;lia)];let lY:i<xs.length:=by
    have :=cQ List.length hd;rw[cZ,bC]at this;lia
   let j:xs[i]?=some x:=by
    have :=cQ (·[0]?) hd;simpa using this
   let l:xs.drop (i+1)=gY:=by
    have :=cQ (List.drop 1) hd;rw[List.drop_drop]at this;simpa using this
   refine#[λσ' b=>∃(o:Option V),aZ H b/\b p=some (.lst<|(xs.take<|i+1).map nV)/\σ'=[some<|V.int m,some<|V.ref p,some<|V.int ((r&&&(r-1):Nat):Int),o],λσ' b h=>?_,?_]
   ·let⟨o',y,z,rfl⟩:=h;exact#[xs.length-(i+1),(),i+1,rfl,(),y,z,_,by rw[l];exact g,_,rfl]
   let elow:Builtin.bitAnd (r:Int) (-(r:Int))=((2^x:Nat):Int):=by rw[SN d,hl]
   dsimp![OG,TH,HS];rw[elow,VV];calc#[.inl #[rfl,_,dB.of k2],rfl,_,k2,xW (by rw[aD,bH];lia),s2.upd hp,?_,WZ hl c,_,rfl];let e:(((x+1:Nat):Int)-1)=(x:Int):=by lia
   let⟨_,B⟩:=aC.mp j;rw[zA,e,aJ lY,B,aQ];rfl
 let⟨n,t,s2,k2,rfl⟩:=h;dsimp![];exact q _ _ s2 hp k2
def OW(as:List Wt):Prop:=as.length<=3/\∀ps,Wt.ps ps∈as->ps.length<=300
noncomputable def zK(ls:List Ln)(i j:Int):Bool:=ls.any λl=>l.i==i&&l.j==j
theorem fE{i j:Int}:zK ls i j=true↔∃(p:Nat)(l:Ln),ls[p]?=some l/\l.i=i/\l.j=j:=by
 unfold zK;rw[fD];constructor
 ·rintro⟨l,hl,h⟩;rw[bU,cI,cI]at h;let⟨p,hp,e⟩:=cS hl;exact#[p,l,by rw[aA hp,e],h.1,h.2]
 ·rintro⟨p,l,hl,h1,h2⟩;exact#[l,aP hl,by rw[h1,h2];simp]
theorem vF(ls t:List Ln)(i j:Int):zK (ls++t) i j=(zK ls i j ||zK t i j):=by
 unfold zK;rw[List.any_append]
theorem XG(l:Ln)(i j:Int):zK [l] i j=(l.i==i&&l.j==j):=by
 unfold zK;simp
noncomputable def yU(i j:Int):List eR:=[.inl i,.inl j]
noncomputable def rN:List Ln->Nat->List (List eR×V)
 |[],_=>[]
 |l::ls,k=>(yU l.i l.j,.int k)::rN ls (k+1)
theorem HX:∀(ls:List Ln)(k:Nat),(rN ls k).length=ls.length
 |[],_=>rfl
 |l::ls,k=>by show(rN ls<|k+1).length+1=_;rw[HX ls<|k+1];rfl
theorem AD(l:Ln):∀(ls:List Ln)(k:Nat),rN (ls++[l]) k=rN ls k++[(yU l.i l.j,.int ((k+ls.length:Nat):Int))]
 |[],k=>rfl
 |l'::ls,k=>by
  show _::rN (ls++[l]) (k+1)=_;rw[AD l ls<|k+1,bC];show _=_::_++_;rw[show k+1+ls.length=k+(ls.length+1) by lia];rfl
theorem SX{i j i' j':Int}(h:yU i j=yU i' j'):i=i'/\j=j':=by
 unfold yU at h;injection h with h1 h2
 injection h2 with h2 a
 exact#[Sum.inl.inj h1,Sum.inl.inj h2]
theorem ZT{i j:Int}:∀(ls:List Ln)(k:Nat),(zK ls i j=false/\zY (rN ls k) (yU i j)=none)\/∃(p:Nat)(l:Ln),ls[p]?=some l/\l.i=i/\l.j=j/\zY (rN ls k) (yU i j)=some (.int ((k+p:Nat):Int))
 |[],k=>.inl #[rfl,rfl]
 |l::ls,k=>by
  by_cases h:l.i=i/\l.j=j
  ·calc .inr #[0,l,rfl,h.1,h.2,?_];show zY ((yU l.i l.j,V.int k)::rN ls (k+1)) (yU i j)=_;rw[h.1,h.2,qD rfl];rfl
  ·let e:zY (rN (l::ls) k) (yU i j)=zY (rN ls<|k+1) (yU i j):=jT λz=>h<|SX z;rcases ZT ls (k+1)with⟨h1,h2⟩ |⟨p,l',h1,h2,a,b⟩
   ·left
    calc#[?_,by rw[e];calc h2];show((l.i==i&&l.j==j) ||zK ls i j)=false;rw[h1,sZ];rw[dH];intro z;rw[bU,cI,cI]at z;exact h z
   ·right
    calc#[p+1,l',h1,h2,a,?_];rw[e,b]
    congr 2
    lia
theorem vM{κ:Type} [DecidableEq κ] {kvs:List (κ×V)} {k:κ} (h:zY kvs k=none):qQ kvs k v=kvs++[(k,v)]:=by
 unfold qQ;rw[aH];intro z;let⟨x,hx,hk⟩:=fD.mp z;unfold zY at h;rw[pX,List.find?_eq_none]at h;exact h x hx hk
theorem OR{t:List Ln}{k:Nat}(h:k<=ls.length)(x:Wt):jA (ls++t) k x=jA ls k x:=by
 cases x with
 |ps l=>rfl
 |n i=>
  show(if 0<=i/\i<(k:Int)then((ls++t)[i.toNat]?).map λl=>(l.i,l.j)else none)=(if 0<=i/\i<(k:Int)then(ls[i.toNat]?).map λl=>(l.i,l.j)else none)
  by_cases hi:0<=i/\i<(k:Int)
  ·rw[aO hi,aO hi,bE ()]
  ·rw[aH hi,aH hi]
theorem tQ{rules:List zZ}{t:List Ln}{k:Nat}(h:k<=ls.length):xV rows rules (ls++t) k l=xV rows rules ls k l:=by
 let e:jA (ls++t) k=jA ls k:=funext λx=>OR h x
 unfold xV vA;rw[e]
theorem qV{rules:List zZ}{k:Nat}(h:xV rows rules ls k l=true):(0<=l.i/\l.i<2*(rows.length:Int))/\0<=l.j/\l.j<2*(rows.length:Int):=by
 unfold xV at h;split at h
 ·cases h
 ·rename_i hn
  simp only[not_or,Classical.not_not]at hn;exact hn
structure NA(rows:List Rw)(rules:List zZ)(ls:List Ln):Prop where
 snd:∀(k:Nat)(l:Ln),ls[k]?=some l->xV rows rules ls k l=true
 dis:∀(a b:Nat)(x y:Ln),ls[a]?=some x->ls[b]?=some y->x.i=y.i->x.j=y.j->a=b
 siz:∀l∈ls,OW l.as
theorem NA.put{rules:List zZ}(h:NA rows rules ls)(hn:zK ls l.i l.j=false)(hs:xV rows rules ls ls.length l=true)(ho:OW l.as):NA rows rules (ls++[l]):=by
 let no:∀(a:Nat)(x:Ln),ls[a]?=some x->x.i=l.i->x.j=l.j->False:=λa x hx h1 h2=>by
  have :=fE.mpr #[a,x,hx,h1,h2];rw[hn]at this;cases this
 let sp:∀(a:Nat)(x:Ln),(ls++[l])[a]?=some x->ls[a]?=some x\/a=ls.length/\x=l:=λa x hx=>by
  by_cases ha:a<ls.length
  ·rw[bE ha]at hx;exact .inl hx
  ·let f:=(aC.mp hx).1;rw[aK,cC]at f;let e:a=ls.length:=by lia
   subst e;rw[bI<|aG _,gO]at hx;cases hx;exact .inr #[rfl,rfl]
 refine#[λk x hx=>?_,λa b x y hx hy h1 h2=>?_,λx hx=>?_]
 ·rcases sp k x hx with hx |⟨rfl,rfl⟩
  ·let hk:=(aC.mp hx).1;rw[tQ ()];exact h.snd k x hx
  ·rw[tQ<|aG _];exact hs
 ·rcases sp a x hx with d |⟨n,ex⟩
  ·rcases sp b y hy with c |⟨g,m⟩
   ·exact h.dis a b x y d c h1 h2
   ·rw[m]at h1 h2;exact(no a x d h1 h2).elim
  ·rcases sp b y hy with c |⟨g,m⟩
   ·rw[ex]at h1 h2;exact(no b y c h1.symm h2.symm).elim
   ·rw[n,g]
 ·rcases cD.mp hx with hx |hx
  ·exact h.siz x hx
  ·rw[aV.mp hx];exact ho
theorem YV:∀{l m:List Int},l.Nodup->(∀x∈l,x∈m)->l.length<=m.length
 |[],m,_,_=>cO _
 |x::l,m,hn,hs=>by
  let hx:x∈m:=hs x aW;let a:=fZ.mp hn;have :=YV (l:=l) (m:=m.erase x) a.2 λy hy=>by
   let b:=hs y<|aX _ hy;let nF:y≠x:=λe=>a.1 (by rw[←e];calc hy)
   exact(List.mem_erase_of_ne nF).mpr b
  rw[List.length_erase_of_mem hx]at this;have :=rB hx;rw[bC];lia
theorem NA.len{rules:List zZ}(h:NA rows rules ls):ls.length<=(2*rows.length)*(2*rows.length):=by
 let hr:∀l∈ls,(0<=l.i/\l.i<2*(rows.length:Int))/\0<=l.j/\l.j<2*(rows.length:Int):=λl hl=>by
  let⟨p,hp,e⟩:=cS hl;exact qV (h.snd p l (by rw[aA hp,e]))
 generalize hn:2*rows.length=n;let d:2*(rows.length:Int)=(n:Int):=by lia
 rw[d]at hr;have :=YV (l:=ls.map λl=>l.i*n+l.j) (m:=(List.range<|n*n).map λi:Nat=>(i:Int)) ?_ λx hx=>?_
 ·rwa[aD,aD,cH]at this
 ·refine cL.mpr λa b ha hb mP e=>?_
  rw[aD]at ha hb;rw[fU,fU]at e;let c:=hr _<|bW ha;let f:=hr _<|bW hb;let hi:ls[a].i=ls[b].i:=by
   let g:(ls[a].i*n+ls[a].j)/n=ls[a].i:=by
    rw[Int.add_comm,Int.add_mul_ediv_right _ _ (),Int.ediv_eq_zero_of_lt c.2.1 c.2.2,GQ]
   let k:(ls[b].i*n+ls[b].j)/n=ls[b].i:=by
    rw[Int.add_comm,Int.add_mul_ediv_right _ _ (),Int.ediv_eq_zero_of_lt f.2.1 f.2.2,GQ]
   rw[←g,e,k]
  let o:ls[a].j=ls[b].j:=by rw[hi]at e;lia
  have :=h.dis a b _ _ (aA ha) (aA hb) hi o;lia
 ·let⟨l,hl,rfl⟩:=bF.mp hx;let c:=hr l hl;let b1:l.i*n+l.j<n*n:=by
   have :l.i*n<=(n-1)*n:=Int.mul_le_mul_of_nonneg_right () ();rw[Int.sub_mul,Int.one_mul]at this;lia
  let q:0<=l.i*n:=Int.mul_nonneg c.1.1 ();rw[bF];exact#[(l.i*n+l.j).toNat,by rw[bN];lia,()]
structure MkA(n:Nat)(hp:Nat->Nat->Bool)(as:List Nat):Prop where
 len:as.length=n
 bit:∀(a c:Nat),as[a]?=some c->∀b,c.testBit b=hp a b
theorem MkA.put{c:Nat}{hp hp':Nat->Nat->Bool}{as:List Nat}(h:MkA n hp as)(hc:as[a]?=some c)(e:∀x y,hp' x y=(hp x y ||(x==a&&y==b))):MkA n hp' (as.set a<|c|||2^b):=by
 let la:=(aC.mp hc).1;calc#[by rw[gW];exact h.len,λx d hx y=>?_];rw[e];by_cases ex:a=x
 ·subst ex;rw[eX la]at hx;cases hx;rw[rQ,h.bit a c hc,iW];simp only[dE,pM]
  congr 1
  rw[bZ,bS,cI];exact eq_comm
 ·rw[dZ ex]at hx;have :(x==a)=false:=cA.mpr<|bX ex;rw[h.bit x d hx,this,fI,sZ]
structure oW where
 r:Addr
 la:Addr
 pa:Addr
 aa:Addr
 ba:Addr
noncomputable def rD(g:oW):List (Str×V):=[("lines",.ref g.la),("places",.ref g.pa),("above",.ref g.aa),("below",.ref g.ba)]
structure NL(K:W.Frag)(C:Addr):Prop where
 cl:KM K C
 nL:iZ K C "lines"
 nP:iZ K C "places"
 nA:iZ K C "above"
 nB:iZ K C "below"
theorem MO(g:oW):(rD g).lookup ("lines":Str)=some (.ref g.la):=by
 unfold rD;rw[bG,show(("lines":Str)=="lines")=true by decide+kernel]
theorem nc(g:oW):(rD g).lookup ("places":Str)=some (.ref g.pa):=by
 unfold rD;rw[bG,show(("places":Str)=="lines")=false by decide+kernel,bG,show(("places":Str)=="places")=true by decide+kernel]
theorem TM(g:oW):(rD g).lookup ("above":Str)=some (.ref g.aa):=by
 unfold rD;rw[bG,show(("above":Str)=="lines")=false by decide+kernel,bG,show(("above":Str)=="places")=false by decide+kernel,bG,show(("above":Str)=="above")=true by decide+kernel]
theorem ng(g:oW):(rD g).lookup ("below":Str)=some (.ref g.ba):=by
 unfold rD;rw[bG,show(("below":Str)=="lines")=false by decide+kernel,bG,show(("below":Str)=="places")=false by decide+kernel,bG,show(("below":Str)=="above")=false by decide+kernel,bG,show(("below":Str)=="below")=true by decide+kernel]
theorem qP(g:oW){x:Str}(h1:(x==("lines":Str))=false)(h2:(x==("places":Str))=false)(h3:(x==("above":Str))=false)(h4:(x==("below":Str))=false):(rD g).lookup x=none:=by
 unfold rD;rw[bG,h1,bG,h2,bG,h3,bG,h4];rfl
structure lK(C:Addr)(H:Hp)(g:oW)(rows:List Rw)(rules:List zZ)(ls:List Ln):Prop where
 ins:∃dx,H g.r=some (.ins C dx<|rD g)
 lin:∃ws,H g.la=some (.lst ws)/\vJ H ls ws
 plc:H g.pa=some (.dT<|rN ls 0)
 abv:∃as,H g.aa=some (.lst<|as.map nV)/\MkA (2*rows.length) (λa b=>zK ls a b) as
 blw:∃as,H g.ba=some (.lst<|as.map nV)/\MkA (2*rows.length) (λa b=>zK ls b a) as
 ne:g.la≠g.aa/\g.la≠g.ba/\g.aa≠g.ba
 ok:NA rows rules ls
def fQ(g:oW)(H H':Hp):Prop:=∀b o,H b=some o->b≠g.la->b≠g.pa->b≠g.aa->b≠g.ba->H' b=some o
theorem fQ.trans{g:oW}{H1 H2:Hp}(a:fQ g H H1)(b:fQ g H1 H2):fQ g H H2:=λc o h d e f i=>b c o (a c o h d e f i) d e f i
theorem aZ.g{g:oW}(a:aZ H H'):fQ g H H':=λc o h _ _ _ _=>a c o h
theorem lK.same{C:Addr}{g:oW}{rules:List zZ}(e:aZ H H')(h:lK C H g rows rules ls):lK C H' g rows rules ls:=by
 let⟨⟨dx,h1⟩,⟨ws,h2,b⟩,c,⟨as,d,f⟩,⟨bs,i,j⟩,k,a⟩:=h;exact#[#[dx,e _ _ h1],#[ws,e _ _ h2,bK.same e b],e _ _ c,#[as,e _ _ d,f],#[bs,e _ _ i,j],k,a]
theorem lK.tups{C:Addr}{g:oW}{rules:List zZ}(h:lK C H g rows rules ls)(e:fQ g H H'):cX H H':=λb xs hb=>by
 let⟨ws,h2,_⟩:=h.lin;let⟨as,a,_⟩:=h.abv;let⟨bs,c,_⟩:=h.blw;exact e b _ hb (jH hb h2 (by intro z;cases z)) (jH hb h.plc (by intro z;cases z)) (jH hb a (by intro z;cases z)) (jH hb c (by intro z;cases z))
theorem psAt{ps:List Int}(h:eE H (dWt<|.ps ps) v):∃a,v=.ref a/\H a=some (.tup<|ps.map V.int):=by
 let⟨a,us,c,b,d⟩:=h;let go:∀{ps:List Int}{us:List V},bK H (ps.map Dt.int) us->us=ps.map V.int:=λ{ps}=>by
  induction ps with
  |nil=>exact λh=>h
  |cons n ns e=>
   intro us h;let⟨v,r,c,b,d⟩:=h;let b:v=.int n:=b;rw[c,b,e d];rfl
 rw[go d]at b;exact#[a,c,b]
theorem atPs{a:Addr}{ps:List Int}(h:H a=some (.tup<|ps.map V.int)):eE H (dWt<|.ps ps) (.ref a):=by
 calc#[a,_,rfl,h,?_];clear h
 induction ps with
 |nil=>rfl
 |cons n ns b=>exact#[_,_,rfl,rfl,b]
theorem whyAt{x:Str}(h:eE H (XY x as) v):∃a us,v=.ref a/\H a=some (.tup (.str x::us))/\KG H as us:=by
 let⟨a,vs,b,c,u,r,d,h1,h2⟩:=h;let h1:u=.str x:=h1;subst h1 d;exact#[a,r,b,c,h2]
theorem mr(h:eE H (n6 l) v):∃a u,v=.ref a/\H a=some (.tup [.int l.i,.int l.j,u])/\eE H (XY l.w l.as) u:=by
 let⟨a,vs,e,f,g,p,rfl,b,k,q,rfl,c,m,n,rfl,o,d⟩:=h;let b:g=.int l.i:=b;let c:k=.int l.j:=c;let d:n=[]:=d;subst b c d;exact#[a,m,e,f,o]
theorem atLn{i j:Int}{x:Str}{a:Addr}{u:V}(h:H a=some (.tup [.int i,.int j,u]))(hu:eE H (XY x as) u):eE H (n6 #[i,j,x,as]) (.ref a):=
 #[a,_,rfl,h,_,_,rfl,rfl,_,_,rfl,rfl,_,_,rfl,hu,rfl]
theorem YA{H H':Hp}(e:cX H H'):∀{as:List Wt}{us:List V},KG H as us->KG H' as us
 |[],us,h=>h
 | .n i::as,us,h=>by
   let⟨v,r,b,c,d⟩:=h;exact#[v,r,b,c,YA e d]
 | .ps l::as,us,h=>by
   let⟨v,r,b,c,d⟩:=h;let⟨a,rfl,g2⟩:=psAt c;exact#[_,r,b,atPs<|e _ _ g2,YA e d]
theorem tH(e:cX H H'){x:Str}(h:eE H (XY x as) v):eE H' (XY x as) v:=by
 let⟨b,us,rfl,a,c⟩:=whyAt h;exact#[b,_,rfl,e _ _ a,_,_,rfl,rfl,YA e c]
theorem dj(e:cX H H')(h:eE H (n6 l) v):eE H' (n6 l) v:=by
 let⟨a,u,rfl,h1,h2⟩:=mr h;exact atLn (e _ _ h1)<|tH e h2
theorem vC{H H':Hp}(e:cX H H'):∀{ls:List Ln}{us:List V},vJ H ls us->vJ H' ls us
 |[],us,h=>h
 |l::ls,us,h=>by
  let⟨v,r,a,b,c⟩:=h;exact#[v,r,a,dj e b,vC e c]
theorem uM{p:Nat}(h:p<n):TB n (p:Int)=some p:=by
 unfold TB;rw[aO (),aO (),bM]
inductive KY (C:Addr) (vs:List V) (H:Hp) (Q:VK) (E:XK):Prop
 |mk (g:oW) (rows:List Rw) (rules:List zZ) (ls:List Ln) (i j:Int) (_:vs=[.ref g.r,.int i,.int j]) (_:lK C H g rows rules ls) (_:zK ls i j=true) (_:∀(p:Nat)(l:Ln) H',aZ H H'->ls[p]?=some l->l.i=i->l.j=j->Q (.int p) H')
inductive ay (C:Addr) (vs:List V) (H:Hp) (Q:VK) (E:XK):Prop
 |mk (g:oW) (rows:List Rw) (rules:List zZ) (ls:List Ln) (i j:Int) (_:vs=[.ref g.r,.int i,.int j]) (_:lK C H g rows rules ls) (_:∀H',aZ H H'->Q (.bl<|zK ls i j) H')
def et(C:Addr)(H:Hp)(g:oW)(rows:List Rw)(rules:List zZ)(ls:List Ln)(H':Hp):Prop:=fQ g H H'/\∃t,lK C H' g rows rules<|ls++t
def lU(C:Addr)(H:Hp)(g:oW)(rows:List Rw)(rules:List zZ)(ls:List Ln)(R:List Ln->Prop)(H':Hp):Prop:=fQ g H H'/\∃t,lK C H' g rows rules (ls++t)/\R (ls++t)
inductive rY (C:Addr) (vs:List V) (H:Hp) (Q:VK) (E:XK):Prop
 |mk (g:oW) (rows:List Rw) (rules:List zZ) (ls:List Ln) (i j:Nat) (wv:V) (x:Str) (as:List Wt) (_:vs=[.ref g.r,.int i,.int j,wv]) (_:lK C H g rows rules ls) (_:rows.length<=100) (_:eE H (XY x as) wv) (_:xV rows rules ls ls.length #[i,j,x,as]=true) (_:OW as) (_:∀H',lU C H g rows rules ls (λL=>zK L i j=true) H'->Q .non H')
theorem FA{C:Addr}(T:NL K C)(F:fR K "line_of" "Growth.line_of" s_f f fd):cW P w K mg base fS 1 f fd ["self","i","j"] (KY C):=by
 refine F.okz sc_f λeP A outer s H vs Q E hr h=>?_
 let⟨g,rows,rules,ls,i,j,rfl,a,c,q⟩:=h;let⟨dx,hi⟩:=a.ins;calc#[_,have nd:=sc_f.nd;zH<|zS<|QY (xY hr) #[] #[] λ_ _=>rfl,?_];dsimp![xZ];calc#[C,dx,_,hi,T.cl,T.nP,_,nc g,zI (by simp),λp hp=>?_];let s1:=zB hp<|.tup [.int i,.int j];rcases ZT (i:=i) (j:=j) ls 0 with⟨h1,_⟩ |⟨d,l,h1,h2,e,b⟩
 ·rw[c]at h1;cases h1
 rw[pY]at b;exact#[g.pa,rfl,_,.inr #[_,yU i j,p,.inl<|s1 _ _ a.plc,rfl,zA,b.symm],q d l _ s1 h1 h2 e]
theorem mn{C:Addr}(T:NL K C)(F:fR K "has" "Growth.has" s_I f fd):cW P w K mg base fS 1 f fd ["self","i","j"] (ay C):=by
 refine F.okz sc_I λeP A outer s H vs Q E hr h=>?_
 let⟨g,rows,rules,ls,i,j,rfl,a,q⟩:=h;let⟨dx,hi⟩:=a.ins;calc#[_,have nd:=sc_I.nd;zH<|zS<|RC (YO (xY hr) #[] #[]) (by with_unfolding_all rfl),?_];dsimp![xZ,DQ];calc#[zI (by simp),λp hp=>?_];let s1:=zB hp<|.tup [.int i,.int j];calc#[C,dx,_,s1 _ _ hi,T.cl,T.nP,_,nc g,g.pa,rfl,_,.inr #[_,yU i j,p,.inl<|s1 _ _ a.plc,rfl,zA,rfl],?_];let e:(zY (rN ls 0)<|yU i j).isSome=zK ls i j:=by
  rcases ZT (i:=i) (j:=j) ls 0 with⟨h1,h2⟩ |⟨b,l,h1,h2,c,d⟩
  ·rw[h1,h2];rfl
  ·rw[d,fE.mpr #[b,l,h1,h2,c]];rfl
 rw[e];exact q _ s1
theorem cr{C:Addr}(T:NL K C)(bi:Bi mg)(h_I:lT P w K mg base 1 C "has" ["self","i","j"] (ay C))(F:fR K "grow" "Growth.grow" s_t f fd):cW P w K mg base fS 2 f fd ["self","i","j","why"] (rY C):=by
 refine F.okz sc_t λeP A outer s H vs Q E hr h=>?_
 let⟨g,rows,rules,ls,i,j,wv,x,as,rfl,D,h30,S,W,how,q⟩:=h;let fP:=T.cl;let⟨dx,hi⟩:=D.ins;let eO:=D.ok.len;let M:ls.length<=40000:=by
  have :2*rows.length*(2*rows.length)<=200*200:=fm () ();lia
 let⟨⟨i0,i1⟩,j0,j1⟩:=qV W;let i1:(i:Int)<2*(rows.length:Int):=i1;let j1:(j:Int)<2*(rows.length:Int):=j1;calc#[_,have nd:=sc_t.nd;zC #[]<|zC (QV (xY hr) #[] #[] #[] rfl)<|zC #[]<|zC (ZR #[] #[] wV #[] BO qG)<|zH<|ZR #[] #[] wV #[] BO qG,?_];refine zD λN u=>?_
 dsimp![yK];calc#[_,_,hi,qP g () () () (),?_];calc#[g,rows,rules,ls,i,j,rfl,D,λH1 s1=>#[_,rfl,?_]];cases hb:zK ls i j with
 |true=>
  rw[aO rfl];exact q _ #[aZ.g s1,[],by rw[cE];calc#[D.same s1,hb]]
 |false=>
  rw[aH aY];calc u _ _ ?_;clear u;replace D:=D.same s1;replace hi:=s1 _ _ hi;replace S:=eE.same s1 S;let h4':=D.plc;let⟨⟨_,_⟩,⟨ws,h2,X⟩,d,⟨bs,k,h6⟩,⟨cs,e,h8⟩,⟨n1,n2,n3⟩,h10⟩:=D;let hwl:=xM X;let Y:g.pa≠g.r:=jH d hi (by intro z;cases z);let Z:g.la≠g.r:=jH h2 hi (by intro z;cases z);let haar:g.aa≠g.r:=jH k hi (by intro z;cases z);let hbar:g.ba≠g.r:=jH e hi (by intro z;cases z);let G:g.pa≠g.la:=jH d h2 (by intro z;cases z);let I:g.pa≠g.aa:=jH d k (by intro z;cases z);let J:g.pa≠g.ba:=jH d e (by intro z;cases z);refine zD λN u=>?_
  dsimp![xZ,HH];let sz:∀{n:Nat},n<=40000->n<sizeLine:=λh=>fA (m:=100000) () ()
  calc#[C,dx,_,hi,T.cl,T.nL,_,MO g,ws.length,.inl #[_,dB.of h2,rfl],C,dx,_,hi,T.cl,T.nP,_,nc g,zI (by simp),λp hp=>?_];let s2:=zB hp<|.tup [.int (i:Int),.int (j:Int)];let kp:upd H1 p (.tup [.int (i:Int),.int (j:Int)]) p=some (.tup [.int (i:Int),.int (j:Int)]):=zA;generalize upd H1 p (.tup [.int (i:Int),.int (j:Int)])=H2 at s2 kp⊢;calc#[g.pa,rfl,_,.inr #[_,yU i j,p,s2 _ _ d,rfl,kp,by rw[HX];exact sz M,rfl],u _ _ ?_];clear u;let vn:zY (rN ls 0) (yU i j)=none:=by
   rcases ZT (i:=i) (j:=j) ls 0 with⟨_,h⟩ |⟨p',l,g1,g2,g3,_⟩
   ·exact h
   ·have :=fE.mpr #[p',l,g1,g2,g3];rw[hb]at this;cases this
  rw[vM vn];let ep:rN ls 0++[(yU i j,V.int (ws.length:Int))]=rN (ls++[#[i,j,x,as]]) 0:=by rw[AD,pY,hwl]
  rw[ep];let g3:fQ g H1 (upd H2 g.pa<|.dT<|rN (ls++[#[i,j,x,as]]) 0):=λb o hb _ n _ _=>by rw[zG n];exact s2 _ _ hb
  let c:∀{b:Addr}{o:HO},H1 b=some o->b≠g.pa->upd H2 g.pa (.dT<|rN (ls++[#[i,j,x,as]]) 0) b=some o:=λhb n=>by rw[zG n];exact s2 _ _ hb
  replace hi:=c hi<|bX Y;replace h2:=c h2<|bX G;replace k:=c k<|bX I;replace e:=c e<|bX J;clear c;replace d:upd H2 g.pa (.dT<|rN (ls++[#[i,j,x,as]]) 0) g.pa=some (.dT<|rN (ls++[#[i,j,x,as]]) 0):=zA;let t:cX H1 (upd H2 g.pa<|.dT<|rN (ls++[#[i,j,x,as]]) 0):=λb xs hb=>by
   let hb2:=s2 _ _ hb;rw[zG<|jH hb h4' (by intro z;cases z)];exact hb2
  generalize upd H2 g.pa (.dT<|rN (ls++[#[i,j,x,as]]) 0)=H3 at g3 hi h2 k e d t⊢;replace X:=vC t X;replace S:=tH t S;clear kp s2 hp vn ep t;refine zD λN u=>?_
  dsimp![xZ];calc#[C,dx,_,hi,T.cl,T.nL,_,MO g,.inl #[rfl,_,dB.of h2],zI (by simp),λpt hpt=>?_];let s2:=zB hpt<|.tup [.int (i:Int),.int (j:Int),wv];let kt:upd H3 pt (.tup [.int (i:Int),.int (j:Int),wv]) pt=some (.tup [.int (i:Int),.int (j:Int),wv]):=zA;generalize upd H3 pt (.tup [.int (i:Int),.int (j:Int),wv])=O at s2 kt⊢;calc#[g.la,rfl,_,s2 _ _ h2,sz (),u _ _ ?_];clear u;let c:∀{b:Addr}{o:HO},H3 b=some o->b≠g.la->upd O g.la (.lst<|ws++[.ref pt]) b=some o:=λhb n=>by rw[zG n];exact s2 _ _ hb
  let g4:fQ g H3 (upd O g.la<|.lst<|ws++[.ref pt]):=λb o hb n _ _ _=>c hb n
  let t:cX O (upd O g.la<|.lst<|ws++[.ref pt]):=(cX.refl _).upd_lst (s2 _ _ h2);let y:vJ (upd O g.la<|.lst<|ws++[.ref pt]) (ls++[#[i,j,x,as]]) (ws++[.ref pt]):=by
   calc vC t ?_;unfold vJ;rw[aQ];exact bK.append (bK.same s2 X)<|bK.one<|atLn kt<|eE.same s2 S
  replace hi:=c hi<|bX Z;replace d:=c d G;replace k:=c k<|bX n1;replace e:=c e<|bX n2;let B:upd O g.la (.lst<|ws++[.ref pt]) g.la=some (.lst<|ws++[.ref pt]):=zA;replace g3:=g3.trans g4;generalize upd O g.la (.lst<|ws++[.ref pt])=L at g3 hi d k e B y⊢;clear c g4 t kt s2 hpt h2 X S;let li:i<bs.length:=by rw[h6.len];lia
  let lj:j<cs.length:=by rw[h8.len];lia
  let gi:=aA li;let gj:=aA lj;generalize bs[i]=R at gi;generalize cs[j]=cj at gj;let mset:∀(cs:List Nat)(i v:Nat),(cs.map nV).set i (V.int (v:Int))=(cs.set i v).map nV:=λcs i v=>(GO (f:=nV) (l:=cs) (i:=i) (a:=v)).symm
  refine zD λN u=>?_
  dsimp![HA,xZ,HQ,TH,JI];calc#[C,dx,_,hi,T.cl,T.nA,_,TM g,g.aa,rfl,_,i,rfl,k,nV R,by rw[aF,gi];rfl,#[(),(),()],_,rfl,g.aa,rfl,_,k,i,uM (by rw[aD];calc li),u _ _ ?_];clear u;rw[vL j,wQ,mset];let bc:∀a b:Nat,(((a:Nat):Int)==((b:Nat):Int))=(b==a):=λa b=>by
   rw[bZ,cI,cI];lia
  let c:∀{b:Addr}{o:HO},L b=some o->b≠g.aa->upd L g.aa (.lst<|(bs.set i<|R|||2^j).map nV) b=some o:=λhb n=>by rw[zG n];exact hb
  let g4:fQ g L (upd L g.aa<|.lst<|(bs.set i<|R|||2^j).map nV):=λb o hb _ _ n _=>c hb n
  let t:cX L (upd L g.aa<|.lst<|(bs.set i<|R|||2^j).map nV):=(cX.refl _).upd_lst k;replace y:=vC t y;replace hi:=c hi<|bX haar;replace d:=c d I;replace B:=c B n1;replace e:=c e<|bX n3;let h5':upd L g.aa (.lst<|(bs.set i<|R|||2^j).map nV) g.aa=some (.lst<|(bs.set i<|R|||2^j).map nV):=zA;replace g3:=g3.trans g4;generalize upd L g.aa (.lst<|(bs.set i<|R|||2^j).map nV)=U at g3 hi d h5' e B y⊢;clear c g4 t k;dsimp![HA,xZ,HQ,TH,JI];calc#[C,dx,_,hi,T.cl,T.nB,_,ng g,g.ba,rfl,_,j,rfl,e,nV cj,by rw[aF,gj];rfl,#[(),(),()],_,rfl,g.ba,rfl,_,e,j,uM (by rw[aD];calc lj),?_];rw[vL i,wQ,mset];let c:∀{b:Addr}{o:HO},U b=some o->b≠g.ba->upd U g.ba (.lst<|(cs.set j<|cj|||2^i).map nV) b=some o:=λhb n=>by rw[zG n];exact hb
  let g4:fQ g U (upd U g.ba<|.lst<|(cs.set j<|cj|||2^i).map nV):=λb o hb _ _ _ n=>c hb n
  let t:cX U (upd U g.ba<|.lst<|(cs.set j<|cj|||2^i).map nV):=(cX.refl _).upd_lst e;refine q _ #[((aZ.g s1).trans g3).trans g4,[#[i,j,x,as]],#[#[#[dx,c hi<|bX hbar],#[_,c B n2,vC t y],c d J,#[_,c h5' n3,h6.put gi λa b=>?_],#[_,zA,h8.put gj λa b=>?_],#[n1,n2,n3],h10.put hb W how],by show zK (ls++[#[i,j,x,as]]) i j=true;rw[vF,XG];simp]]
  ·rw[vF,XG];show(zK ls a b ||(((i:Nat):Int)==((a:Nat):Int)&&((j:Nat):Int)==((b:Nat):Int)))=_;rw[bc,bc]
  ·rw[vF,XG];show(zK ls b a ||(((i:Nat):Int)==((b:Nat):Int)&&((j:Nat):Int)==((a:Nat):Int)))=_;rw[bc,bc,Bool.and_comm]
theorem YK(m:Nat):(List.replicate m [V.int 0]).flatten=(List.replicate m 0).map nV:=by
 induction m with
 |zero=>rfl
 |succ m a=>
  rw[fN,mG,a,fN,bV];rfl
theorem SJ(n:Nat)(hp:Nat->Nat->Bool)(h:∀a b,hp a b=false):MkA n hp (List.replicate n 0):=#[fW ..,λa c hc b=>by
 let⟨_,e⟩:=aC.mp hc;rw[List.getElem_replicate]at e;subst e;rw[h];simp]
inductive jz (C:Addr) (vs:List V) (H:Hp) (Q:VK) (E:XK):Prop
 |mk (r dx:Addr) (rows:List Rw) (rules:List zZ) (_:vs=[.ref r,.int ((2*rows.length:Nat):Int)]) (_:H r=some (.ins C dx [])) (_:rows.length<=100) (_:∀(g:oW) H',g.r=r->fJ r H H'->H g.la=none->H g.pa=none->H g.aa=none->H g.ba=none->lK C H' g rows rules []->Q .non H')
theorem xD{r l:Addr}{o:HO}(e:fJ r H H')(h:H l=none):fJ r H (upd H' l o):=λb u hb n=>by
 have :b≠l:=λz=>by rw[z,h]at hb;cases hb
 rw[zG this];exact e b u hb n
theorem qH{r l:Addr}(e:fJ r H H')(h:H' l=none)(n:l≠r):H l=none:=by
 cases hl:H l with
 |none=>rfl
 |some o=>have :=e l o hl n;rw[h]at this;cases this
theorem RQ{C:Addr}(T:NL K C)(F:fR K "__init__" "Growth.__init__" s_l f fd):cW P w K mg base fS 1 f fd ["self","many"] (jz C):=by
 refine F.okz sc_l λeP A outer s H vs Q E hr h=>?_
 let⟨r,dx,rows,rules,rfl,iG,h30,q⟩:=h;generalize hn:2*rows.length=n at q;let n60:n<=200:=by lia
 let step:∀{H':Hp}{b:Addr}{u:HO},H' r=some u->H' b=none->b≠r:=λh1 h2 z=>by rw[z,h1]at h2;cases h2
 calc#[_,have nd:=sc_l.nd;zC (kH #[] #[] rfl)<|zC (kH #[] AG rfl)<|zC (kH #[] (jZ YR #[] #[]) rfl)<|zH<|kH #[] (jZ YR #[] #[]) rfl,?_];refine zD λN m=>?_
 dsimp![DW];calc#[zI (by simp),λla v=>?_];let nla:=step iG v;calc#[C,dx,[],by rw[zG<|bX nla];exact iG,T.cl,T.nL,(),m _ _ ?_];clear m;let x1:fJ r H (upd (upd H la<|.lst []) r<|.ins C dx<|yO "lines" (.ref la) []):=fJ.upd<|xD (fJ.refl r H) v;let k1:upd (upd H la<|.lst []) r (.ins C dx<|yO "lines" (.ref la) []) r=some (.ins C dx<|yO "lines" (.ref la) []):=zA;let l1:upd (upd H la<|.lst []) r (.ins C dx<|yO "lines" (.ref la) []) la=some (.lst []):=by rw[zG nla];exact zA
 generalize upd (upd H la<|.lst []) r (.ins C dx<|yO "lines" (.ref la) [])=H1 at x1 k1 l1⊢;refine zD λN m=>?_
 dsimp![DW,DP];refine λpa mZ=>?_
 let npa:=step k1 mZ;let o:=qH x1 mZ npa;calc#[C,dx,_,by rw[zG<|bX npa];exact k1,T.cl,T.nP,by show 1<1000;decide,m _ _ ?_];clear m;let npl:pa≠la:=λz=>by rw[z,l1]at mZ;cases mZ
 let R:fJ r H (upd (upd H1 pa<|.dT []) r<|.ins C dx<|yO "places" (.ref pa)<|yO "lines" (.ref la) []):=fJ.upd<|xD x1 o;let k2:upd (upd H1 pa<|.dT []) r (.ins C dx<|yO "places" (.ref pa)<|yO "lines" (.ref la) []) r=some (.ins C dx<|yO "places" (.ref pa)<|yO "lines" (.ref la) []):=zA;let S:upd (upd H1 pa<|.dT []) r (.ins C dx<|yO "places" (.ref pa)<|yO "lines" (.ref la) []) la=some (.lst []):=by rw[zG nla,zG<|bX npl];exact l1
 let p2:upd (upd H1 pa<|.dT []) r (.ins C dx<|yO "places" (.ref pa)<|yO "lines" (.ref la) []) pa=some (.dT []):=by rw[zG npa];exact zA
 generalize upd (upd H1 pa<|.dT []) r (.ins C dx<|yO "places" (.ref pa)<|yO "lines" (.ref la) [])=H2 at R k2 S p2⊢;refine zD λN m=>?_
 dsimp![DW,PD];calc#[zI (by simp),λj i=>#[[V.int 0],zA,(),(),zI (by simp;lia),λaa d=>?_]];let B:=step k2 i;let D:aa≠j:=λz=>by rw[z,zA]at d;cases d
 rw[zG D]at d;let naa:=step k2 d;calc#[C,dx,_,by rw[zG<|bX naa,zG<|bX B];exact k2,T.cl,T.nA,by show 2<1000;decide,m _ _ ?_];clear m;rw[bM,YK];let nal:aa≠la:=λz=>by rw[z,S]at d;cases d
 let nap:aa≠pa:=λz=>by rw[z,p2]at d;cases d
 let n0l:j≠la:=λz=>by rw[z,S]at i;cases i
 let n0p:j≠pa:=λz=>by rw[z,p2]at i;cases i
 let p:=qH R d naa;let G:=qH R i B;generalize I:yO "above" (V.ref aa) (yO "places" (V.ref pa)<|yO "lines" (V.ref la) [])=g;let U:fJ r H (upd (upd (upd H2 j<|.lst [.int 0]) aa<|.lst<|(List.replicate n 0).map nV) r<|.ins C dx g):=fJ.upd<|xD (xD R G) p;let k3:upd (upd (upd H2 j<|.lst [.int 0]) aa<|.lst<|(List.replicate n 0).map nV) r (.ins C dx g) r=some (.ins C dx g):=zA;let W:upd (upd (upd H2 j<|.lst [.int 0]) aa<|.lst<|(List.replicate n 0).map nV) r (.ins C dx g) la=some (.lst []):=by rw[zG nla,zG<|bX nal,zG<|bX n0l];exact S
 let X:upd (upd (upd H2 j<|.lst [.int 0]) aa<|.lst<|(List.replicate n 0).map nV) r (.ins C dx g) pa=some (.dT []):=by rw[zG npa,zG<|bX nap,zG<|bX n0p];exact p2
 let Y:upd (upd (upd H2 j<|.lst [.int 0]) aa<|.lst<|(List.replicate n 0).map nV) r (.ins C dx g) aa=some (.lst<|(List.replicate n 0).map nV):=by rw[zG naa];exact zA
 generalize upd (upd (upd H2 j<|.lst [.int 0]) aa<|.lst<|(List.replicate n 0).map nV) r (.ins C dx g)=H3 at U k3 W X Y⊢;dsimp![DW,PD];calc#[zI (by simp),λZ e=>#[[V.int 0],zA,(),(),zI (by simp;lia),λba c=>?_]];let J:=step k3 e;let L:ba≠Z:=λz=>by rw[z,zA]at c;cases c
 rw[zG L]at c;let nba:=step k3 c;calc#[C,dx,_,by rw[zG<|bX nba,zG<|bX J];exact k3,T.cl,T.nB,by rw[←I];show 3<1000;decide,?_];rw[bM,YK];let nbl:ba≠la:=λz=>by rw[z,W]at c;cases c
 let nbp:ba≠pa:=λz=>by rw[z,X]at c;cases c
 let M:ba≠aa:=λz=>by rw[z,Y]at c;cases c
 let n1l:Z≠la:=λz=>by rw[z,W]at e;cases e
 let n1p:Z≠pa:=λz=>by rw[z,X]at e;cases e
 let n1a:Z≠aa:=λz=>by rw[z,Y]at e;cases e
 let t:=qH U c nba;let O:=qH U e J;rw[←I];refine q #[r,la,pa,aa,ba] _ rfl (fJ.upd<|xD (xD U O) t) v o p t #[#[dx,zA],#[[],?_,rfl],?_,#[_,?_,SJ _ _ λa b=>rfl],#[_,?_,SJ _ _ λa b=>rfl],#[bX nal,bX nbl,bX M],#[λk l h=>(by cases h),λa b x y h=>(by cases h),λl h=>(by cases h)]]
 ·show upd _ r _ la=_;rw[zG nla,zG<|bX nbl,zG<|bX n1l];exact W
 ·show upd _ r _ pa=_;rw[zG npa,zG<|bX nbp,zG<|bX n1p];exact X
 ·show upd _ r _ aa=_;rw[zG naa,zG<|bX M,zG<|bX n1a,hn];exact Y
 ·show upd _ r _ ba=_;rw[zG nba,zA,hn]
abbrev kc:Stmt:=top 35
theorem gg:bP ["growth","sheet","n","k","row"] ["growth","sheet"] (zF kc):=by rfl'
abbrev s_q:Stmt:=top 36
theorem sc_q:bP ["sheet","boths","k","row"] ["sheet"] (zF s_q):=by rfl'
abbrev s_g:Stmt:=top 37
theorem sc_g:bP ["rules","waiting","r","rule","premise"] ["rules"] (zF s_g):=by rfl'
theorem et.then{C:Addr}{H'':Hp}{g:oW}{rules:List zZ}{t:List Ln}(h:fQ g H H')(h':et C H' g rows rules (ls++t) H''):et C H g rows rules ls H'':=by
 let⟨h1,t',h2⟩:=h';exact#[h.trans h1,t++t',by rw[←dA];calc h2]
theorem lU.to{C:Addr}{g:oW}{rules:List zZ}(h:lU C H g rows rules ls R H'):et C H g rows rules ls H':=by
 let⟨h1,t,h2,_⟩:=h;exact#[h1,t,h2]
theorem lU.same{C:Addr}{H'':Hp}{g:oW}{rules:List zZ}(h:lU C H g rows rules ls R H')(e:aZ H' H''):lU C H g rows rules ls R H'':=by
 let⟨h1,t,h2,a⟩:=h;exact#[h1.trans<|aZ.g e,t,h2.same e,a]
theorem lU.pre{C:Addr}{H'':Hp}{g:oW}{rules:List zZ}(e:aZ H H')(h:lU C H' g rows rules ls R H''):lU C H g rows rules ls R H'':=by
 let⟨h1,h2⟩:=h;exact#[(aZ.g e).trans h1,h2]
theorem lU.refl{C:Addr}{g:oW}{rules:List zZ}(h:lK C H g rows rules ls)(hR:R ls):lU C H g rows rules ls R H:=#[λ_ _ hb _ _ _ _=>hb,[],by rw[cE];calc#[h,hR]]
def Le(ls L:List Ln):Prop:=∃t,L=ls++t
theorem Le.refl(ls:List Ln):Le ls ls:=#[[],(cE _).symm]
theorem Le.trans{a b c:List Ln}(h:Le a b)(h':Le b c):Le a c:=by
 let⟨t,rfl⟩:=h;let⟨t',rfl⟩:=h';exact#[t++t',by rw[dA]]
theorem Le.has{a b:List Ln}(h:Le a b){i j:Int}(hh:zK a i j=true):zK b i j=true:=by
 let⟨t,rfl⟩:=h;rw[vF,hh,GS]
theorem lU.then{C:Addr}{H'':Hp}{g:oW}{rules:List zZ}{t:List Ln}{R':List Ln->Prop}(h:fQ g H H')(h':lU C H' g rows rules (ls++t) R H'')(i:∀L,Le (ls++t) L->R L->R' L):lU C H g rows rules ls R' H'':=by
 let⟨h1,t',h2,a⟩:=h';rw[dA]at h2 a;exact#[h.trans h1,t++t',h2,i _ #[t',by rw[dA]] a]
def JC(g:oW)(a:Addr):Prop:=a≠g.la/\a≠g.pa/\a≠g.aa/\a≠g.ba
theorem fQ.out{g:oW}{a:Addr}{o:HO}(e:fQ g H H')(n:JC g a)(h:H a=some o):H' a=some o:=e a o h n.1 n.2.1 n.2.2.1 n.2.2.2
theorem OH{rules:List zZ}{x:Str}(hi:i<2*rows.length)(hj:j<2*rows.length)(hx:x≠"rule")(hn:II x=some 0)(h:yN rows i j x []=true):xV rows rules ls ls.length #[i,j,x,[]]=true:=by
 unfold xV;rw[aH (by
  intro z;rcases z with z |z
  ·exact z #[by show(0:Int)<=(i:Int);lia,by show(i:Int)<_;lia]
  ·calc z #[by show(0:Int)<=(j:Int);lia,by show(j:Int)<_;lia]),aH hx,aO #[hn,rfl]]
 exact h
theorem ow0:OW []:=#[by simp,λps h=>by cases h]
theorem wA{C:Addr}{H2:Hp}{g:oW}{rules:List zZ}{t:List Ln}(hs:fQ g H H')(hg:lK C H' g rows rules (ls++t))(gL:rows.length<=100)(e:aZ H' H2){x:Str}{wv:V}(hw:eE H2 (XY x as) wv)(hst:xV rows rules (ls++t) (ls++t).length #[i,j,x,as]=true)(ho:OW as){Q:VK}{E:XK}(hR:∀L,Le (ls++t) L->zK L i j=true->R L)(q:∀v H3,lU C H g rows rules ls R H3->Q v H3):
 rY C [.ref g.r,.int i,.int j,wv] H2 Q E:=
 #[g,rows,rules,_,i,j,wv,x,as,rfl,hg.same e,gL,hw,hst,ho,λH3 g3=>q _ _<|lU.then (hs.trans<|aZ.g e) g3 hR]
theorem vG{C:Addr}{g:oW}{rules:List zZ}{t:List Ln}(hs:fQ g H H')(hg:lK C H' g rows rules (ls++t))(gL:rows.length<=100)(hi:i<2*rows.length)(hj:j<2*rows.length){x:Str}(hx:x≠"rule")(hn:II x=some 0)(hst:yN rows i j x []=true)(hp:H' p=none){Q:VK}{E:XK}(hR:∀L,Le (ls++t) L->zK L i j=true->R L)(q:∀v H2,lU C H g rows rules ls R H2->Q v H2):
 rY C [.ref g.r,.int i,.int j,.ref p] (upd H' p<|.tup [.str x]) Q E:=
 wA hs hg gL (zB hp _) (x:=x) (as:=[]) #[p,_,rfl,zA,_,_,rfl,rfl,rfl] (OH hi hj hx hn hst) ow0 hR q
structure Pl(rows:List Rw)(n m:Nat)(L:List Ln):Prop where
 same:∀x:Nat,x<n->zK L x x=true
 low:∀x:Nat,x<n->zK L 0 x=true
 high:∀x:Nat,x<n->zK L x 1=true
 part:∀(k:Nat)(a b:Int),k<m->rows[k]?=some (.bo a b)->zK L ((2*k:Nat):Int) a=true/\zK L ((2*k:Nat):Int) b=true
theorem Pl.le{m:Nat}{L L':List Ln}(h:Pl rows n m L)(e:Le L L'):Pl rows n m L':=#[λx hx=>e.has<|h.same x hx,λx hx=>e.has<|h.low x hx,λx hx=>e.has<|h.high x hx,λk a b hk hr=>#[e.has (h.part k a b hk hr).1,e.has (h.part k a b hk hr).2]]
inductive spBe (K:W.Frag) (C:Addr) (vs:List V) (H:Hp) (Q:VK) (E:XK):Prop
 |mk (g:oW) (sa:Addr) (us:List V) (rows:List Rw) (rules:List zZ) (_:vs=[.ref g.r,.ref sa]) (_:lK C H g rows rules []) (_:rows.length<=100) (_:H sa=some (.lst us)) (_:fX K H rows us) (_:JC g sa) (_:qK rows) (_:∀H',lU C H g rows rules [] (Pl rows (2*rows.length) rows.length) H'->Q .non H')
theorem RX{C:Addr}(T:NL K C)(bi:Bi mg)(be:mg "enumerate"=none)(h_t:lT P w K mg base 2 C "grow" ["self","i","j","why"] (rY C))(F:fR K "begin" "begin" kc f fd):cW P w K mg base fS 3 f fd ["growth","sheet"] (spBe K C):=by
 refine F.okz gg λeP A outer s H vs Q E hr h=>?_
 let⟨g,sa,us,rows,rules,rfl,hg,gL,X,Y,O,mS,q⟩:=h;let Z:=Y.len;let fP:=T.cl;let lk:(rD g).lookup ("grow":Str)=none:=qP g () () () ();calc#[_,have nd:=gg.nd;#[],?_];refine zP (λσ H'=>∃(S U W:Option V),lU C H g rows rules [] (Pl rows (2*rows.length) 0) H'/\σ=[some<|V.ref g.r,some<|V.ref sa,S,U,W]) (λN hN=>?_) λσ H' h=>?_
 ·dsimp![];calc#[us.length,.inl #[_,dB.of X,rfl],.inl #[(),()],(),(),?_];refine qJ (n:=(2*(us.length:Int)).toNat) (λi σ H'=>∃(S U W:Option V),lU C H g rows rules [] (Pl rows i 0) H'/\σ=[some<|V.ref g.r,some<|V.ref sa,S,U,W]) #[_,_,_,lU.refl hg #[λx hx=>(),λx hx=>(),λx hx=>(),λk a b hk=>()],rfl] (λi σ H' hi h M hM=>?_) λσ H' h=>?_
  rotate_left
  ·rw[show(2*(us.length:Int)).toNat=2*rows.length by lia]at h;exact hN _ _ h
  let⟨S,U,W,⟨u,t,gt,G⟩,rfl⟩:=h;let I:i<2*rows.length:=by lia
  let e0:(0:Int)+(i:Int)=((i:Nat):Int):=by lia
  show OC _ _ _ _ _;refine zD λN2 v=>?_
  dsimp![yK];rw[e0];let⟨dx,eJ⟩:=gt.ins;calc#[_,_,eJ,lk,zI (by simp),λp hp=>vG u gt gL I I (x:="same") () rfl (by unfold yN;rw[aO rfl];simp) hp (R:=λL=>Pl rows i 0 L/\zK L i i=true) (λL e h=>#[G.le e,h]) λ_ H2 g2=>v _ _ ?_];clear v eJ u gt;let⟨u,t,gt,G,lX⟩:=g2;let⟨dx,eJ⟩:=gt.ins;refine zD λN2 v=>?_
  dsimp![yK];calc#[_,_,eJ,lk,zI (by simp),λp hp=>vG (i:=0) u gt gL () I (x:="edge") () rfl (by unfold yN;rw[aH (),aO rfl];simp) hp (R:=λL=>Pl rows i 0 L/\zK L i i=true/\zK L 0 i=true) (λL e h=>#[G.le e,e.has lX,h]) λ_ H2 g2=>v _ _ ?_];clear v eJ u gt;let⟨u,t,gt,G,lX,mK⟩:=g2;let⟨dx,eJ⟩:=gt.ins;dsimp![yK];refine#[_,_,eJ,lk,zI (by simp),λp hp=>vG (j:=1) u gt gL I () (x:="edge") () rfl (by unfold yN;rw[aH (),aO rfl];simp) hp (R:=Pl rows (i+1) 0) (λL e h=>?_) λ_ H2 g2=>?_]
  ·let c:∀{x:Nat},x<i+1->x<i\/x=i:=λh=>by lia
   let l:=G.le e;exact#[λx hx=>(c hx).elim (l.same x) λz=>z▸e.has lX,λx hx=>(c hx).elim (l.low x) λz=>z▸e.has mK,λx hx=>(c hx).elim (l.high x) λz=>z▸h,λk a b hk=>()]
  exact hM _ _ #[_,_,_,g2,rfl]
 let⟨S,U,W,d,rfl⟩:=h;let hsa':=d.to.1.out O X;dsimp![vU];calc#[_,hsa',?_];refine ZX (xs:=us) (λk σ H'=>∃(S U W:Option V),lU C H g rows rules [] (Pl rows (2*rows.length) k) H'/\σ=[some<|V.ref g.r,some<|V.ref sa,S,U,W]) #[_,_,_,d,rfl] (λk σ H' h=>?_) (λk x σ H' p hx h hp M hM=>?_) λσ H' h=>?_
 ·let⟨_,_,_,h,_⟩:=h;exact h.to.1.out O X
 ·let⟨S,U,W,d,rfl⟩:=h;let hk:k<rows.length:=by rw[←Z];exact(aC.mp hx).1
  let⟨r,J,hr2⟩:=Y.get hx;let tu:=hg.tups d.to.1;let⟨B,x',vs,rfl,lW,o⟩:=GD.out hr2;let hxa0:=lW;replace lW:=lW.tups tu;replace d:=d.same<|zB hp<|.tup [.int k,.ref B];let D:=lW.same<|zB hp<|.tup [.int k,.ref B];let kp:upd H' p (.tup [.int k,.ref B]) p=some (.tup [.int k,.ref B]):=zA;generalize upd H' p (.tup [.int k,.ref B])=H2 at d D kp⊢;dsimp![uO,jI,uX,yK];calc#[[.int k,.ref B],cV.of kp,rfl,.int k,[.ref B],rfl,.ref B,[],rfl,rfl,B,rfl,_,D.sq,_,gG,rfl,?_];let nob:∀{L:List Ln},(∀a b,r≠.bo a b)->Pl rows (2*rows.length) k L->Pl rows (2*rows.length) (k+1) L:=λhno h=>#[h.same,h.low,h.high,λm a b hm iG=>by
   rcases gP (mD hm)with z |z
   ·exact h.part m a b z iG
   ·subst z;rw[J]at iG;cases iG;calc absurd rfl<|hno a b]
  let weak:∀{R R':List Ln->Prop}{H'},(∀L,R L->R' L)->lU C H g rows rules [] R H'->lU C H g rows rules [] R' H':=λw h=>by
   let⟨h1,t,h2,h3⟩:=h;exact#[h1,t,h2,w _ h3]
  cases r with
  |no=>
   let⟨rfl,rfl⟩:=o;rw[aH (by intro z;calc absurd (V.str.inj z) ())];exact hM _ _ #[_,_,_,weak (λL=>nob λa b z=>by cases z) d,rfl]
  |nm y=>
   let⟨rfl,rfl⟩:=o;rw[aH (by intro z;calc absurd (V.str.inj z) ())];exact hM _ _ #[_,_,_,weak (λL=>nob λa b z=>by cases z) d,rfl]
  |bo i j=>
   let⟨rfl,rfl⟩:=o;rw[aO rfl];let⟨⟨b1,b2⟩,b3,b4⟩:=mS k i j J;obtain⟨a,rfl⟩:∃a:Nat,i=(a:Int):=#[i.toNat,()]
   obtain⟨b,rfl⟩:∃b:Nat,j=(b:Int):=#[j.toNat,()]
   let e2:(2:Int)*(k:Int)=((2*k:Nat):Int):=by lia
   let hpt:oO rows ((2*k:Nat):Int)=[(a:Int),(b:Int)]:=wP (r:=.bo a b) () (by rw[show(((2*k:Nat):Int)/2).toNat=k by lia];calc J);let hst:∀c:Nat,(c=a\/c=b)->yN rows ((2*k:Nat):Int) c "part" []=true:=λc hc=>by
    unfold yN;rw[aH (),aH (),aO rfl,hpt];rcases hc with rfl |rfl<;>simp
   let at2:∀{a b c:V},pO [a,b,c] 2=some c:=zU (j:=2) rfl;let⟨u,t,gt,G⟩:=d;let⟨dx,eJ⟩:=gt.ins;calc#[_,_,eJ,lk,_,rfl,.inl #[(),()],B,rfl,_,D.sq,_,mV,zI (by simp),λp1 lX=>?_];rw[e2];refine vG (i:=2*k) (j:=a) u gt gL () () (x:="part") () rfl (hst a<|.inl rfl) lX (R:=λL=>Pl rows (2*rows.length) k L/\zK L ((2*k:Nat):Int) a=true) (λL e h=>#[G.le e,h]) λ_ H3 g3=>?_
   let hxa3:=hxa0.tups<|hg.tups g3.1;let⟨u,t,gt,G,mZ⟩:=g3;let⟨dx,eJ⟩:=gt.ins;calc#[_,_,eJ,lk,_,rfl,.inl #[(),()],B,rfl,_,hxa3.sq,_,at2,zI (by simp),λp2 mK=>?_];rw[e2];refine vG (i:=2*k) (j:=b) u gt gL () () (x:="part") () rfl (hst b<|.inr rfl) mK (R:=Pl rows (2*rows.length)<|k+1) (λL e h=>?_) λ_ H4 g4=>hM _ _ #[_,_,_,g4,rfl]
   let l:=G.le e;calc#[l.same,l.low,l.high,λm a' b' hm iG=>?_];rcases gP (mD hm)with z |z
   ·exact l.part m a' b' z iG
   ·subst z;rw[J]at iG;cases iG;exact#[e.has mZ,h]
 ·let⟨_,_,_,h,rfl⟩:=h;rw[Z]at h;exact q _ h
def WC(rows:List Rw)(H:Hp)(v:V):Prop:=∃(t:Addr)(k:Nat)(a b:Int),v=.ref t/\H t=some (.tup [.int<|2*(k:Int),.int a,.int b])/\rows[k]?=some (.bo a b)
theorem WC.tups(e:cX H H')(h:WC rows H v):WC rows H' v:=by
 let⟨t,k,a,b,h1,h2,c⟩:=h;exact#[t,k,a,b,h1,e _ _ h2,c]
def NC(rows:List Rw)(H:Hp)(qs:List Addr)(n:Nat):Prop:=∀q∈qs,∃us,H q=some (.lst us)/\us.length<=n/\∀v∈us,WC rows H v
theorem NC.same(e:aZ H H')(h:NC rows H qs n):NC rows H' qs n:=λq hq=>by
 let⟨us,h1,h2,a⟩:=h q hq;exact#[us,e _ _ h1,h2,λv b=>(a v b).tups e.tups]
theorem NC.put{q:Addr}(h:NC rows H qs n)(hq:H q=some (.lst us))(hl:us.length<=n)(iO:∀v∈us,WC rows H v)(hv:WC rows H v):NC rows (upd H q<|.lst<|us++[v]) qs (n+1):=λq' a=>by
 let b:cX H (upd H q<|.lst<|us++[v]):=(cX.refl _).upd_lst hq;by_cases e:q'=q
 ·subst e;calc#[us++[v],zA,by simp;lia,λx hx=>?_];rcases cD.mp hx with hx |hx
  ·exact(iO x hx).tups b
  ·rw[aV.mp hx];exact hv.tups b
 ·let⟨us',h1,h2,c⟩:=h q' a;exact#[us',by rw[zG e];exact h1,(),λx hx=>(c x hx).tups b]
def WV(H:Hp)(q:Addr)(m:Nat)(a b:Int):Prop:=∃(us:List V)(t:Addr),H q=some (.lst us)/\V.ref t∈us/\H t=some (.tup [.int<|2*(m:Int),.int a,.int b])
theorem WV.same{q:Addr}{m:Nat}{a b:Int}(e:aZ H H')(h:WV H q m a b):WV H' q m a b:=by
 let⟨us,t,h1,h2,c⟩:=h;exact#[us,t,e _ _ h1,h2,e _ _ c]
theorem WV.upd{q:Addr}{m:Nat}{a b:Int}(h:WV H q m a b){q1:Addr}{us1:List V}(hq:H q1=some (.lst us1)):WV (upd H q1<|.lst<|us1++[v]) q m a b:=by
 let⟨us,t,h1,h2,d⟩:=h;let c:=(cX.refl H).upd_lst (o:=.lst<|us1++[v]) hq _ _ d;by_cases e:q=q1
 ·subst e;rw[hq]at h1;cases h1;exact#[_,t,zA,cG _ h2,c]
 ·exact#[us,t,(zG e).trans h1,h2,c]
def NM(rows:List Rw)(H:Hp)(qs:List Addr)(k:Nat):Prop:=∀(m:Nat)(a b:Int),m<k->rows[m]?=some (.bo a b)->∀(x:Nat)(q:Addr),((x:Int)=a\/(x:Int)=b)->qs[x]?=some q->WV H q m a b
theorem NM.same{k:Nat}(e:aZ H H')(h:NM rows H qs k):NM rows H' qs k:=λm a b hm hr x q hx hq=>(h m a b hm hr x q hx hq).same e
theorem NM.upd{k:Nat}(h:NM rows H qs k){q1:Addr}{us1:List V}(hq1:H q1=some (.lst us1)):NM rows (upd H q1<|.lst<|us1++[v]) qs k:=λm a b hm hr x q hx hq=>(h m a b hm hr x q hx hq).upd hq1
theorem NM.succ{k:Nat}(h:NM rows H qs k)(hk:∀(a b:Int),rows[k]?=some (.bo a b)->∀(x:Nat)(q:Addr),((x:Int)=a\/(x:Int)=b)->qs[x]?=some q->WV H q k a b):NM rows H qs (k+1):=λm a b hm hr x q hx hq=>by
 rcases gP (mD hm)with z |z
 ·exact h m a b z hr x q hx hq
 ·subst z;exact hk a b hr x q hx hq
inductive spBo (K:W.Frag) (vs:List V) (H:Hp) (Q:VK) (E:XK):Prop
 |mk (sa:Addr) (us:List V) (rows:List Rw) (_:vs=[.ref sa]) (_:H sa=some (.lst us)) (_:fX K H rows us) (_:rows.length<=100) (_:qK rows) (_:∀(p:Addr)(qs:List Addr)(n:Nat)(H':Hp),aZ H H'->H p=none->(∀q∈qs,H q=none)->H' p=some (.lst<|qs.map V.ref)->qs.length=2*rows.length->NC rows H' qs n->NM rows H' qs rows.length->Q (.ref p) H')
def NJ(m:Nat)(H0 H:Hp)(kvs:List (List eR×V))(n:Nat):Prop:=∀kv∈kvs,∃(q:Addr)(ns:List Nat),kv.2=.ref q/\H q=some (.lst<|ns.map nV)/\H0 q=none/\ns.length<=n/\∀x∈ns,x<m
theorem NJ.same{m:Nat}{H0:Hp}(e:aZ H H')(h:NJ m H0 H kvs n):NJ m H0 H' kvs n:=λkv hkv=>by
 let⟨q,ns,h1,h2,a⟩:=h kv hkv;exact#[q,ns,h1,e _ _ h2,a]
theorem NJ.upd{m:Nat}{H0:Hp}{q:Addr}{ns:List Nat}{r:Nat}(h:NJ m H0 H kvs n)(hl:ns.length<=n)(hns:∀x∈ns,x<m)(hr:r<m)(hq:H0 q=none):NJ m H0 (upd H q<|.lst<|ns.map nV++[nV r]) kvs (n+1):=λkv hkv=>by
 let⟨q',a,h1,h2,b,d,c⟩:=h kv hkv;by_cases e:q'=q
 ·subst e;calc#[q',ns++[r],h1,by rw[zA,aQ];rfl,hq,by simp;lia,λx hx=>?_];rcases cD.mp hx with hx |hx
  ·exact hns x hx
  ·rw[aV.mp hx];exact hr
 ·exact#[q',a,h1,(zG e).trans h2,b,(),c]
theorem tI{κ:Type} [DecidableEq κ] {kvs:List (κ×V)} {k:κ} (h:zY kvs k=some v):∃kv∈kvs,kv.2=v:=by
 unfold zY at h;let⟨x,hx,e⟩:=aL.mp h;exact#[x,List.mem_of_find?_eq_some hx,e]
theorem NQ{κ:Type} [DecidableEq κ] {kvs t:List (κ×V)} {k:κ} (h:zY kvs k=some v):zY (kvs++t) k=some v:=by
 unfold zY at h⊢;let⟨x,hx,e⟩:=aL.mp h;rw[List.find?_append,hx];exact cQ some e
theorem NR{κ:Type} [DecidableEq κ] {kvs:List (κ×V)} {k:κ} (h:zY kvs k=none):zY (kvs++[(k,v)]) k=some v:=by
 unfold zY at h⊢;rw[pX]at h;rw[List.find?_append,h];simp
theorem FG:∀{a b:List Nat},a.map nV=b.map nV->a=b
 |[],[],_=>rfl
 |[],_::_,h=>by cases h
 |_::_,[],h=>by cases h
 |x::a,y::b,h=>by
  injection h with h1 h2
  let d:=V.int.inj h1;let c:x=y:=by lia
  rw[c,FG h2]
def KH(H:Hp)(kvs:List (List eR×V))(pr:Pr)(r:Nat):Prop:=∃(q:Addr)(ns:List Nat),zY kvs (yU pr.1 pr.2)=some (.ref q)/\H q=some (.lst<|ns.map nV)/\r∈ns
theorem KH.same{pr:Pr}{r:Nat}(e:aZ H H')(h:KH H kvs pr r):KH H' kvs pr r:=by
 let⟨q,ns,h1,h2,a⟩:=h;exact#[q,ns,h1,e _ _ h2,a]
theorem KH.app{t:List (List eR×V)}{pr:Pr}{r:Nat}(h:KH H kvs pr r):KH H (kvs++t) pr r:=by
 let⟨q,ns,h1,h2,a⟩:=h;exact#[q,ns,NQ h1,h2,a]
theorem KH.upd{pr:Pr}{r:Nat}(h:KH H kvs pr r){q1:Addr}{ns1:List Nat}{x:Nat}(hq:H q1=some (.lst<|ns1.map nV)):KH (upd H q1<|.lst<|ns1.map nV++[nV x]) kvs pr r:=by
 let⟨q,ns,h1,h2,a⟩:=h;by_cases e:q=q1
 ·subst e;rw[hq]at h2;let b:ns1=ns:=by
   have :=HO.lst.inj<|bY h2;exact FG this
  subst b;exact#[q,ns1++[x],h1,by rw[zA,aQ];rfl,cG _ a]
 ·exact#[q,ns,h1,(zG e).trans h2,a]
theorem KH.dic{pr:Pr}{r:Nat}(h:KH H kvs pr r){kvs0:List (List eR×V)}{o:HO}(hp:H p=some (.dT kvs0)):KH (L2.upd H p o) kvs pr r:=by
 let⟨q,ns,h1,h2,a⟩:=h;exact#[q,ns,h1,(zG λz=>by rw[z,hp]at h2;cases h2).trans h2,a]
def WaC(rules:List zZ)(H:Hp)(kvs:List (List eR×V))(k m:Nat):Prop:=∀(r:Nat)(q:zZ)(x:Nat)(pr:Pr),rules[r]?=some q->q.1[x]?=some pr->(r<k\/r=k/\x<m)->KH H kvs pr r
inductive spWa (vs:List V) (H:Hp) (Q:VK) (E:XK):Prop
 |mk (ra:Addr) (us:List V) (rules:List zZ) (_:vs=[.ref ra]) (_:H ra=some (.lst us)) (_:bK H (rules.map ix) us) (_:rules.length<=100) (_:(∀r∈rules,r.1.length<=100)) (_:∀(p:Addr)(kvs:List (List eR×V))(n:Nat)(H':Hp),aZ H H'->H p=none->H' p=some (.dT kvs)->NJ rules.length H H' kvs n->WaC rules H' kvs rules.length 0->Q (.ref p) H')
theorem RW(bi:Bi mg)(be:mg "enumerate"=none)(F:fR K "boths_by_part" "boths_by_part" s_q f fd):cW P w K mg base fS 1 f fd ["sheet"] (spBo K):=by
 refine F.okz sc_q λeP A outer s H vs Q E hr h=>?_
 let⟨sa,us,rows,rfl,T,hrw,gL,mS,q⟩:=h;let hul:=hrw.len;calc#[_,have nd:=sc_q.nd;zC (ZQ (i:=1) ["n"] [] [] nd rfl #[] (λ_ _ _ _ nd=>yI 0 nd) (λ_ _ _ _=>yA) λ_ _ _ _=>#[])<|zC (yC bO rfl #[] #[]<|zH<|yD #[] (zC (xE<|qZ cM dN dM xX (zV yB #[] #[]) #[])<|zH<|xE<|qZ cM dN dM xX (zV yB #[] #[]) #[]) zO) #[],?_];refine zD λN hN=>?_
 dsimp![];calc#[us.length,.inl #[_,dB.of T,rfl],.inl #[(),()],(),(),?_];refine BM (lo:=0) (n:=(2*(us.length:Int)).toNat) (λi ys σ H'=>aZ H H'/\(∃qs:List Addr,ys=qs.map V.ref/\qs.length=i/\(∀q∈qs,H q=none)/\NC rows H' qs 0)/\∃o,σ=[o]) #[aZ.refl _,#[[],rfl,rfl,(λq z=>by cases z),λq z=>by cases z],_,rfl] (zI ()) (λi ys σ H' e=>?_) (λi ys σ H' C hi e hC=>?_) λys σ H' e p hp=>hN _ _ ?_
 ·let⟨_,⟨qs,rfl,hl,_⟩,_⟩:=e;rw[aD];lia
 ·let⟨es,⟨qs,rfl,hl,L,B⟩,o,rfl⟩:=e;dsimp![];refine#[zI (by simp),λq0 U=>hC _ _ _ #[es.trans<|zB U _,#[qs++[q0],by rw[aQ];rfl,by simp[hl],λq hq=>?_,λq hq=>?_],_,rfl]]
  ·rcases cD.mp hq with hq |hq
   ·exact L q hq
   ·rw[aV.mp hq];exact es.free U
  ·rcases cD.mp hq with hq |hq
   ·exact NC.same (zB U _) B q hq
   ·rw[aV.mp hq];exact#[[],zA,aG _,λv z=>by cases z]
 let⟨es,⟨qs,rfl,hl,L,B⟩,o,rfl⟩:=e;clear hN;let s1:=zB hp<|.lst<|qs.map V.ref;let k1:upd H' p (.lst<|qs.map V.ref) p=some (.lst<|qs.map V.ref):=zA;let hp0:=es.free hp;let hpq:p∉qs:=λz=>by
  let⟨_,h1,_⟩:=B p z;rw[hp]at h1;cases h1
 replace B:=B.same s1;replace es:=es.trans s1;generalize upd H' p (.lst<|qs.map V.ref)=H1 at k1 B es⊢;let hql:qs.length=2*rows.length:=by lia
 clear s1 hp hl;refine zP (λσ H'=>∃(o1 o2:Option V)(n:Nat),aZ H H'/\H' p=some (.lst<|qs.map V.ref)/\NC rows H' qs n/\NM rows H' qs rows.length/\σ=[some<|V.ref sa,some<|V.ref p,o1,o2]) (λN hN=>?_) λσ H' h=>?_
 ·dsimp![vU];calc#[_,es _ _ T,?_];refine ZX (xs:=us) (λk σ H'=>∃(o1 o2:Option V),aZ H H'/\H' p=some (.lst<|qs.map V.ref)/\NC rows H' qs (2*k)/\NM rows H' qs k/\σ=[some<|V.ref sa,some<|V.ref p,o1,o2]) #[_,_,es,k1,B,(λm a b hm=>()),rfl] (λk σ H' h=>?_) (λk x σ H' pe hx h hpe M hM=>?_) λσ H' h=>?_
  ·let⟨_,_,h,_⟩:=h;exact h _ _ T
  ·let⟨o1,o2,s2,k2,c,d,rfl⟩:=h;let hk:k<rows.length:=by rw[←hul];exact(aC.mp hx).1
   let⟨r,I,hr2⟩:=hrw.get hx;let⟨R,x',vs,rfl,lW,D⟩:=GD.out hr2;let g:=zB hpe<|.tup [.int k,.ref R];let kp:upd H' pe (.tup [.int k,.ref R]) pe=some (.tup [.int k,.ref R]):=zA;generalize upd H' pe (.tup [.int k,.ref R])=H2 at g kp⊢;replace s2:=s2.trans g;replace k2:=g _ _ k2;replace c:=c.same g;replace d:=d.same g;replace lW:=lW.same s2;clear g hpe;let more:∀{a b:Nat},a<=b->NC rows H2 qs a->NC rows H2 qs b:=λmP h q hq=>by
    let⟨us,h1,h2,h3⟩:=h q hq;exact#[us,h1,(),h3]
   dsimp![uO,jI,uX];calc#[[.int k,.ref R],cV.of kp,rfl,.int k,[.ref R],rfl,.ref R,[],rfl,rfl,R,rfl,_,lW.sq,_,gG,rfl,?_];cases r with
   |no=>
    let⟨rfl,rfl⟩:=D;rw[aH (by intro z;calc absurd (V.str.inj z) ())];exact hM _ _ #[_,_,s2,k2,more () c,d.succ (λa b z=>by rw[I]at z;cases z),rfl]
   |nm y=>
    let⟨rfl,rfl⟩:=D;rw[aH (by intro z;calc absurd (V.str.inj z) ())];exact hM _ _ #[_,_,s2,k2,more () c,d.succ (λa b z=>by rw[I]at z;cases z),rfl]
   |bo i j=>
    let⟨rfl,rfl⟩:=D;rw[aO rfl];let⟨⟨b1,b2⟩,b3,b4⟩:=mS k i j I;let hgx:∀(x:Int),0<=x->x<2*(rows.length:Int)->∃q,q∈qs/\pO (qs.map V.ref) x=some (V.ref q)/\qs[x.toNat]?=some q:=λx hx0 W=>by
     let⟨m,rfl⟩:=dW hx0;let hm:m<qs.length:=by lia
     calc#[qs[m],bW hm,?_];exact#[zU (by rw[aF,aA hm];rfl),by rw[bM];calc aA hm]
    let⟨S,X,ha1,W⟩:=hgx i b1 ();let⟨q2,Y,ha2,hx2⟩:=hgx j b3 ();let⟨G,t,hl1,O⟩:=c S X;calc#[_,rfl,_,lW.sq,_,mV,_,rfl,_,dB.of k2,_,ha1,.inl #[rfl,_,dB.of t],_,rfl,.inl #[(),()],_,rfl,_,lW.sq,_,mV,_,rfl,_,lW.sq,_,rfl,zI (),λl ht=>?_];let g:=zB ht<|.tup [.int<|2*(k:Int),.int i,.int j];let tr:WC rows (upd H2 l<|.tup [.int<|2*(k:Int),.int i,.int j]) (.ref l):=#[l,k,i,j,rfl,zA,I]
    let J:upd H2 l (.tup [.int<|2*(k:Int),.int i,.int j]) l=some (.tup [.int<|2*(k:Int),.int i,.int j]):=zA;generalize upd H2 l (.tup [.int<|2*(k:Int),.int i,.int j])=H3 at g tr J⊢;replace k2:=g _ _ k2;replace lW:=lW.same g;replace t:=g _ _ t;replace O:∀v∈G,WC rows H3 v:=λv hv=>(O v hv).tups g.tups
    replace c:=(c.same g).put t hl1 O tr;replace d:=(d.same g).upd (v:=.ref l) t;let in1:WV (upd H3 S<|.lst<|G++[V.ref l]) S k i j:=#[_,l,zA,by simp,(cX.refl H3).upd_lst t _ _ J]
    calc#[S,rfl,G,t,xW (),?_];replace s2:=(s2.trans g).upd (o:=.lst<|G++[V.ref l]) (L S X);let n2:p≠S:=λz=>hpq<|z▸X
    replace lW:=lW.tups<|(cX.refl H3).upd_lst (o:=.lst<|G++[V.ref l]) t;replace k2:upd H3 S (.lst<|G++[V.ref l]) p=_:=(zG n2).trans k2;clear J t hl1 O tr g ht more;generalize upd H3 S (.lst<|G++[V.ref l])=H4 at s2 lW k2 c d in1⊢;let⟨Z,u,hl2,ht2⟩:=c q2 Y;calc#[_,rfl,_,lW.sq,_,rfl,_,rfl,_,dB.of k2,_,ha2,.inl #[rfl,_,dB.of u],_,rfl,.inl #[(),()],_,rfl,_,lW.sq,_,mV,_,rfl,_,lW.sq,_,rfl,zI (),λl ht=>?_];let g:=zB ht<|.tup [.int<|2*(k:Int),.int i,.int j];let tr:WC rows (upd H4 l<|.tup [.int<|2*(k:Int),.int i,.int j]) (.ref l):=#[l,k,i,j,rfl,zA,I]
    let J:upd H4 l (.tup [.int<|2*(k:Int),.int i,.int j]) l=some (.tup [.int<|2*(k:Int),.int i,.int j]):=zA;generalize upd H4 l (.tup [.int<|2*(k:Int),.int i,.int j])=H5 at g tr J⊢;replace k2:=g _ _ k2;replace u:=g _ _ u;replace ht2:∀v∈Z,WC rows H5 v:=λv hv=>(ht2 v hv).tups g.tups
    replace c:=(c.same g).put u hl2 ht2 tr;replace d:=(d.same g).upd (v:=.ref l) u;replace in1:=(in1.same g).upd (v:=.ref l) u;let in2:WV (upd H5 q2<|.lst<|Z++[V.ref l]) q2 k i j:=#[_,l,zA,by simp,(cX.refl H5).upd_lst u _ _ J]
    let n2:p≠q2:=λz=>hpq<|z▸Y
    calc#[q2,rfl,Z,u,xW (),hM _ _ #[_,_,(s2.trans g).upd (L q2 Y),(zG n2).trans k2,c,d.succ λa b z x q' hx hq'=>?_,rfl]];rw[I]at z;cases z;rcases hx with hx |hx
    ·rw[←hx,bM,hq']at W;cases W;exact in1
    ·rw[←hx,bM,hq']at hx2;cases hx2;exact in2
  ·let⟨o1,o2,s2,k2,c,d,rfl⟩:=h;rw[hul]at d;exact hN _ _ #[_,_,_,s2,k2,c,d,rfl]
 let⟨o1,o2,n,s2,k2,c,d,rfl⟩:=h;dsimp![];exact q p qs n _ s2 hp0 L k2 hql c d
theorem vT(bi:Bi mg)(be:mg "enumerate"=none)(F:fR K "rules_by_premise" "rules_by_premise" s_g f fd):cW P w K mg base fS 1 f fd ["rules"] spWa:=by
 refine F.okz sc_g λeP A outer s H vs Q E hr h=>?_
 let⟨ra,us,rules,rfl,R,S,gL,hpr,q⟩:=h;let T:=xM S;calc#[_,have nd:=sc_g.nd;zC (xI 1 nd AG)<|zC (yC bO rfl #[] #[]<|zH<|yC bO rfl #[] #[]<|zH<|xE<|qZ cM dN dM xX (br (xY hr) #[] #[] #[] #[rfl,rfl,rfl,rfl]) #[]) #[],?_];refine zD λN hN=>?_
 dsimp![DP];refine λp hp=>hN _ _ ?_
 clear hN;let s1:=zB hp<|.dT [];let k1:upd H p (.dT []) p=some (.dT []):=zA;generalize upd H p (.dT [])=H1 at s1 k1⊢;let sz:∀{n:Nat},n<=40000->n<sizeLine:=λh=>fA (m:=100000) () ()
 refine zP (λσ H'=>∃(I J L:Option V)(kvs:List (List eR×V))(n:Nat),aZ H H'/\H' p=some (.dT kvs)/\NJ rules.length H H' kvs n/\WaC rules H' kvs rules.length 0/\σ=[some<|V.ref ra,some<|V.ref p,I,J,L]) (λN hN=>?_) λσ H' h=>?_
 ·dsimp![vU];calc#[_,s1 _ _ R,?_];refine ZX (xs:=us) (λk σ H'=>∃(I J L:Option V)(kvs:List (List eR×V)),aZ H H'/\H' p=some (.dT kvs)/\kvs.length<=100*k/\NJ rules.length H H' kvs (100*k)/\WaC rules H' kvs k 0/\σ=[some<|V.ref ra,some<|V.ref p,I,J,L]) #[_,_,_,_,s1,k1,aG _,(λkv z=>by cases z),(λr q x l _ _ hz=>()),rfl] (λk σ H' h=>?_) (λk x σ H' pe hx h U M hM=>?_) λσ H' h=>?_
  ·let⟨_,_,_,_,h,_⟩:=h;exact h _ _ R
  ·let⟨I,J,L,kvs,s2,k2,hkl,b,a,rfl⟩:=h;let hk:k<rules.length:=by rw[←T];exact(aC.mp hx).1
   let⟨r,t,hr2⟩:=xJ S hx;let hrl:=hpr r<|aP t;let⟨y,xl,xb,ps,rfl,lW,W,X,hxb⟩:=nrAt hr2;let iK:=xM X;let O:=zB U<|.tup [.int k,.ref y];let kp:upd H' pe (.tup [.int k,.ref y]) pe=some (.tup [.int k,.ref y]):=zA;generalize upd H' pe (.tup [.int k,.ref y])=H2 at O kp⊢;replace s2:=s2.trans O;replace k2:=O _ _ k2;replace b:=b.same O;replace a:WaC rules H2 kvs k 0:=λr q x l h1 h2 B=>(a r q x l h1 h2 B).same O
   replace lW:=s2 _ _ lW;clear O U;dsimp![uO,jI,uX];calc#[[.int k,.ref y],cV.of kp,rfl,.int k,[.ref y],rfl,.ref y,[],rfl,rfl,?_];let Y:=s2 _ _ W;calc#[_,rfl,_,cV.of lW,_,gG,_,rfl,#[_,dB.of Y],?_];refine xS (xs:=ps) (λm σ H'=>∃(o:Option V)(kvs:List (List eR×V)),aZ H H'/\H' p=some (.dT kvs)/\kvs.length<=100*k+m/\NJ rules.length H H' kvs (100*k+m)/\WaC rules H' kvs k m/\σ=[some<|V.ref ra,some<|V.ref p,some<|V.int k,some<|V.ref y,o]) #[_,_,s2,k2,hkl,b,a,rfl] (λm σ H' _ h=>?_) (λm x σ H' hm h M2 Z=>?_) λσ H' h=>?_
   ·let⟨_,_,h,_⟩:=h;exact dB.of<|h _ _ W
   ·let⟨o,kvs,C,k4,hl4,e,u,rfl⟩:=h;let hmp:m<ps.length:=(aC.mp hm).1;let⟨l,hpm,hpx⟩:=xJ X hm;let⟨xp,_,rfl,g,_,_,rfl,hv1,_,_,rfl,hv2,hv3⟩:=hpx;cases hv1;cases hv2;cases hv3;replace g:=C _ _ g;dsimp![f8,tBM];calc#[.inr #[_,.inl k4],cO _,λD lX=>?_];let n1:p≠D:=λz=>by rw[z,lX]at k4;cases k4
    let n2:xp≠D:=λz=>by rw[z,lX]at g;cases g
    let d:=zB lX<|.lst [];refine#[kvs,d _ _ k4,[.inl l.1,.inl l.2],d _ _ g,sz (),λv G=>?_,λG=>?_]
    ·let⟨kv,hkv,rfl⟩:=tI G;let⟨q',i,h1,h2,B,h4,h5⟩:=e kv hkv;let n3:p≠q':=λz=>by rw[z,h2]at k4;cases k4
     rw[h1];calc#[.inl #[rfl,_,dB.of<|d _ _ h2],q',rfl,_,d _ _ h2,sz (by rw[aD];lia),Z _ _ #[_,kvs,(C.trans d).upd B,(zG n3).trans (d _ _ k4),(),NJ.upd (e.same d) h4 h5 hk B,?_,rfl]];intro c q0 x j g1 g2 g3;by_cases g4:c<k\/c=k/\x<m
     ·exact((u c q0 x j g1 g2 g4).same d).upd (d _ _ h2)
     ·obtain⟨rfl,rfl⟩:c=k/\x=m:=by lia
      rw[t]at g1;cases g1;rw[hpm]at g2;cases g2;exact#[q',i++[c],by rw[←h1];exact G,by rw[zA,aQ];rfl,by simp]
    ·let e1:upd (upd H' D<|.lst []) p (.dT<|qQ kvs [.inl l.1,.inl l.2]<|V.ref D) D=some (.lst []):=(zG n1.symm).trans zA;refine#[.inl #[rfl,_,dB.of e1],[],e1,sz (by simp),Z _ _ #[_,_,((C.trans d).upd hp).upd (C.free lX),(zG n1).trans zA,?_,?_,?_,rfl]]
     ·rw[vM G,aK,cC];lia
     ·calc NJ.upd (ns:=[]) (n:=100*k+m) (λkv hkv=>?_) (cO _) (λx z=>by cases z) hk<|C.free lX;rw[vM G]at hkv;rcases cD.mp hkv with hkv |hkv
      ·let⟨q',i,h1,h2,B,h4,h5⟩:=e kv hkv;let n3:q'≠p:=λz=>by rw[←z,h2]at k4;cases k4
       exact#[q',i,h1,(zG n3).trans (d _ _ h2),B,h4,h5]
      ·rw[aV.mp hkv];exact#[D,[],rfl,e1,C.free lX,cO _,λx z=>by cases z]
     ·intro c q0 x j g1 g2 g3;by_cases g4:c<k\/c=k/\x<m
      ·let w:=(((u c q0 x j g1 g2 g4).same d).dic (d _ _ k4) (o:=.dT<|qQ kvs [.inl l.1,.inl l.2]<|V.ref D)).upd (ns1:=[]) (x:=k) e1;rw[vM G]at w⊢;exact w.app
      ·obtain⟨rfl,rfl⟩:c=k/\x=m:=by lia
       rw[t]at g1;cases g1;rw[hpm]at g2;cases g2;exact#[D,[c],by rw[vM G];exact NR G,by rw[zA];rfl,by simp]
   ·let⟨o,kvs,C,k4,hl4,e,u,rfl⟩:=h;refine hM _ _ #[_,_,_,_,C,k4,(),λkv hkv=>?_,λc q0 x j g1 g2 g3=>u c q0 x j g1 g2 ?_,rfl]
    rotate_left
    ·rcases gP (show c<=k by lia)with z |z
     ·exact .inl z
     ·calc .inr #[z,?_];rw[z,t]at g1;cases g1;rw[iK];exact(aC.mp g2).1
    let⟨q',i,h1,h2,B,h4,h5⟩:=e kv hkv;exact#[q',i,h1,h2,B,(),h5]
  ·let⟨I,J,L,kvs,s2,k2,_,b,a,rfl⟩:=h;rw[T]at a;exact hN _ _ #[_,_,_,_,_,s2,k2,b,a,rfl]
 let⟨I,J,L,kvs,n,s2,k2,b,a,rfl⟩:=h;dsimp![];exact q p kvs n _ s2 hp k2 b a
abbrev s_z:Stmt:=top 38
theorem sc_z:bP ["growth","i","j"] ["growth","i","j"] (zF s_z):=by rfl'
abbrev s_p:Stmt:=top 39
theorem sc_p:bP ["growth","i","j","line","m","h"] ["growth","i","j"] (zF s_p):=by rfl'
abbrev s_r:Stmt:=top 40
theorem sc_r:bP ["growth","i","boths","n","a","b"] ["growth","i","boths"] (zF s_r):=by rfl'
abbrev s_o:Stmt:=top 41
theorem sc_o:bP ["growth","i","j","n"] ["growth","i","j"] (zF s_o):=by rfl'
theorem uE{p:Nat}(h:ls[p]?=some l):jA ls ls.length (.n (p:Int))=some (l.i,l.j):=by
 let hp:=(aC.mp h).1;show(if 0<=(p:Int)/\(p:Int)<(ls.length:Int)then(ls[(p:Int).toNat]?).map λl=>(l.i,l.j)else none)=_;rw[aO #[(),()],bM,h];rfl
theorem QN{rules:List zZ}{x:Str}{prs:List Pr}(hi:i<2*rows.length)(hj:j<2*rows.length)(hx:x≠"rule")(hn:II x=some (as.length:Int))(hs:as.map (jA ls ls.length)=prs.map some)(h:yN rows i j x prs=true):xV rows rules ls ls.length #[i,j,x,as]=true:=by
 let b:(as.all λa=>(jA ls ls.length a).isSome)=true:=by
  have :(as.map<|jA ls ls.length).all (λo=>o.isSome)=true:=by rw[hs];simp
  rw[gR]at this;exact this
 let c:as.filterMap (jA ls ls.length)=prs:=by
  have :(as.map<|jA ls ls.length).filterMap id=prs:=by rw[hs];simp[DB]
  rw[DB]at this;exact this
 unfold xV;rw[aH (by
  intro z;rcases z with z |z
  ·exact z #[by show(0:Int)<=(i:Int);lia,by show(i:Int)<_;lia]
  ·calc z #[by show(0:Int)<=(j:Int);lia,by show(j:Int)<_;lia]),aH hx,aO #[hn,b],c]
 exact h
theorem NA.rng{rules:List zZ}(h:NA rows rules ls)(hh:zK ls i j=true):i<2*rows.length/\j<2*rows.length:=by
 let⟨p,l,hl,h1,h2⟩:=fE.mp hh;have :=qV<|h.snd p l hl;lia
noncomputable def lF(n:Nat):Nat:=n+1-2*(n % 2)
theorem qE(n:Nat):rO (n:Int)=((lF n:Nat):Int):=by
 unfold rO lF;lia
theorem vK(n:Nat):lF (lF n)=n:=by
 unfold lF;lia
theorem YD{m:Nat}(h:n<2*m):lF n<2*m:=by
 unfold lF;lia
theorem zN{t:List Ln}{i j:Int}(h:zK ls i j=true):zK (ls++t) i j=true:=by
 rw[vF,h,GS]
theorem ow_n(h:as.length<=3)(hn:∀ps,Wt.ps ps∈as->False):OW as:=#[h,λps z=>(hn ps z).elim]
theorem aq{rules:List zZ}{p:Nat}(hi:i<2*rows.length)(hj:j<2*rows.length)(hl:ls[p]?=some l)(h1:l.i=i)(h2:l.j=j):xV rows rules ls ls.length #[(lF j:Nat),(lF i:Nat),"turn",[.n p]]=true:=by
 refine QN (prs:=[((i:Int),(j:Int))]) (YD hj) (YD hi) () rfl ?_ ?_
 ·show [jA ls ls.length<|.n (p:Int)]=_;rw[uE hl,h1,h2];rfl
 ·unfold yN;rw[aH (),aH (),aH (),aH (),aO rfl,qE,qE,vK,vK];exact dE _
theorem OI{rules:List zZ}{p:Nat}(hi:i<2*rows.length)(hn:n<2*rows.length)(hj:(j:Int)=rO i)(hl:ls[p]?=some l)(h1:l.i=i)(h2:l.j=j):xV rows rules ls ls.length #[i,n,"clash",[.n p]]=true:=by
 refine QN (prs:=[((i:Int),(j:Int))]) hi hn () rfl ?_ ?_
 ·show [jA ls ls.length<|.n (p:Int)]=_;rw[uE hl,h1,h2];rfl
 ·unfold yN;rw[aH (),aH (),aH (),aH (),aH (),aH (),hj];exact dE _
theorem tR{rules:List zZ}{m p p':Nat}{l':Ln}(hi:i<2*rows.length)(hm:m<2*rows.length)(hl:ls[p]?=some l)(h1:l.i=i)(h2:l.j=j)(iH:ls[p']?=some l')(h1':l'.i=j)(h2':l'.j=m):xV rows rules ls ls.length #[i,m,"chain",[.n p,.n p']]=true:=by
 refine QN (prs:=[((i:Int),(j:Int)),((j:Int),(m:Int))]) hi hm () rfl ?_ ?_
 ·show [jA ls ls.length<|.n (p:Int),jA ls ls.length<|.n (p':Int)]=_;rw[uE hl,h1,h2,uE iH,h1',h2'];rfl
 ·unfold yN;rw[aH (),aH (),aH (),aH (),aH (),aO rfl];simp
theorem au{rules:List zZ}{p p':Nat}{a b:Int}{l':Ln}(hi:i<2*rows.length)(hn:n<2*rows.length)(hpt:oO rows (n:Int)=[a,b])(hl:ls[p]?=some l)(h1:l.i=i)(h2:l.j=a)(iH:ls[p']?=some l')(h1':l'.i=i)(h2':l'.j=b):xV rows rules ls ls.length #[i,n,"both",[.n p,.n p']]=true:=by
 refine QN (prs:=[((i:Int),a),((i:Int),b)]) hi hn () rfl ?_ ?_
 ·show [jA ls ls.length<|.n (p:Int),jA ls ls.length<|.n (p':Int)]=_;rw[uE hl,h1,h2,uE iH,h1',h2'];rfl
 ·unfold yN;rw[aH (),aH (),aH (),aO rfl,hpt];exact dE _
theorem RF{p:Nat}:OW [.n p]:=ow_n (by simp) (λps z=>by simp at z)
theorem EM{p q:Nat}:OW [.n p,.n q]:=ow_n (by simp) (λps z=>by simp at z)
theorem GX{x:Str}:eE (upd H p<|.tup [.str x,.int n]) (XY x [.n n]) (.ref p):=#[p,_,rfl,zA,_,_,rfl,rfl,_,_,rfl,rfl,rfl]
theorem QE{x:Str}{m:Nat}:eE (upd H p<|.tup [.str x,.int n,.int m]) (XY x [.n n,.n m]) (.ref p):=#[p,_,rfl,zA,_,_,rfl,rfl,_,_,rfl,rfl,_,_,rfl,rfl,rfl]
theorem tO:∀(n a b:Nat),a<=n->∃d,a=(a&&&b)+d/\∀x,d.testBit x=(a.testBit x&&!b.testBit x)
 |0,a,b,h=>by
  let e:a=0:=by lia
  subst e;exact#[0,by simp,λx=>by simp]
 |n+1,a,b,h=>by
  let⟨d,h1,h2⟩:=tO n (a/2) (b/2) ();let g:(a&&&b)/2=a/2&&&b/2:=nU λi=>by
   rw[gI,lG,lG,gI,gI]
  let f:decide ((a&&&b) % 2=1)=(decide (a % 2=1)&&decide (b % 2=1)):=by
   rw[←iP,←iP,←iP,lG]
  rw[←g]at h1;refine#[2*d+(if a % 2=1/\¬b % 2=1 then 1 else 0),?_,λx=>?_]
  ·let j:(a&&&b) % 2=1↔(a % 2=1/\b % 2=1):=by
    rw[bZ,bS,bU,bS,bS]at f;exact f
   clear g f h2;generalize a&&&b=c at h1 j⊢;split<;>lia
  ·cases x with
   |zero=>
    rw[iP,iP,iP];by_cases ha:a % 2=1<;>by_cases hb:b % 2=1<;>simp[ha,hb]<;>lia
   |succ x=>
    let k:(2*d+(if a % 2=1/\¬b % 2=1 then 1 else 0))/2=d:=by split<;>lia
    rw[←gI,k,h2,gI,gI]
theorem JP(h:∀x,a.testBit x=true->x<300):∃(m:Nat)(xs:List Nat),Builtin.bitAnd (a:Int) (Builtin.bitNot (b:Int))=(m:Int)/\rK m xs/\(∀x∈xs,x<300/\a.testBit x=true)/\∀x,a.testBit x=true->x∈xs\/b.testBit x=true:=by
 let⟨d,h1,h2⟩:=tO a a b<|aG _;let hd:∀x,d.testBit x=true->a.testBit x=true:=λx hx=>by
  rw[h2,bU]at hx;exact hx.1
 refine#[d,(List.range 300).filter λx=>d.testBit x,?_,#[fH _ dF,λi=>?_],λx hx=>?_,λx hx=>?_]
 ·unfold Builtin.bitAnd;rw[not_not,cP (show(0:Int)<=(a:Int) by lia),cJ (show¬(0:Int)<=Builtin.bitNot (b:Int) by unfold Builtin.bitNot;lia)];show(a:Int)-(((a:Int).toNat&&&(b:Int).toNat:Nat):Int)=_;rw[bM,bM];lia
 ·rw[bZ,bS,cN,bN];exact#[λz=>#[h _<|hd _ z,z],λz=>z.2]
 ·let⟨c,e⟩:=cN.mp hx;exact#[bN.mp c,hd _ e]
 ·cases hb:b.testBit x with
  |true=>exact .inr rfl
  |false=>
   left
   rw[cN,bN];exact#[h x hx,by rw[h2,hx,hb];rfl]
theorem lK.out{C:Addr}{g:oW}{rules:List zZ}(h:lK C H g rows rules ls)(hp:H p=none):JC g p:=by
 let⟨ws,h2,_⟩:=h.lin;let⟨as,b,_⟩:=h.abv;let⟨bs,c,_⟩:=h.blw;let go:∀{a:Addr}{o:HO},H a=some o->p≠a:=λha z=>by rw[z,ha]at hp;cases hp
 exact#[go h2,go h.plc,go b,go c]
def i5(_rows:List Rw)(_ls L:List Ln)(i j:Nat):Prop:=zK L ((lF j:Nat):Int) ((lF i:Nat):Int)=true
def WF(_rows:List Rw)(ls L:List Ln)(i j:Nat):Prop:=(∀m:Nat,zK ls j m=true->zK L i m=true)/\∀h:Nat,zK ls h i=true->zK L h j=true
def WE(rows:List Rw)(_ls L:List Ln)(i j:Nat):Prop:=(j:Int)=rO i->∀n:Nat,n<2*rows.length->zK L i n=true
def KI(H:Hp)(us:List V)(ls L:List Ln)(i:Nat):Prop:=∀(t:Addr)(m:Nat)(a b:Int),V.ref t∈us->H t=some (.tup [.int<|2*(m:Int),.int a,.int b])->zK ls i a=true->zK ls i b=true->zK L i ((2*m:Nat):Int)=true
inductive rT (R:List Rw->List Ln->List Ln->Nat->Nat->Prop) (C:Addr) (vs:List V) (H:Hp) (Q:VK) (E:XK):Prop
 |mk (g:oW) (rows:List Rw) (rules:List zZ) (ls:List Ln) (i j:Nat) (_:vs=[.ref g.r,.int i,.int j]) (_:lK C H g rows rules ls) (_:rows.length<=100) (_:zK ls i j=true) (_:∀H',lU C H g rows rules ls (λL=>R rows ls L i j) H'->Q .non H')
inductive spGB (C:Addr) (vs:List V) (H:Hp) (Q:VK) (E:XK):Prop
 |mk (g:oW) (rows:List Rw) (rules:List zZ) (ls:List Ln) (i:Nat) (q:Addr) (us:List V) (_:vs=[.ref g.r,.int i,.ref q]) (_:lK C H g rows rules ls) (_:rows.length<=100) (_:i<2*rows.length) (_:H q=some (.lst us)) (_:JC g q) (_:(∀v∈us,WC rows H v)) (_:qK rows) (_:∀H',lU C H g rows rules ls (λL=>KI H us ls L i) H'->Q .non H')
theorem cc{C:Addr}(T:NL K C)(h_f:lT P w K mg base 1 C "line_of" ["self","i","j"] (KY C))(h_t:lT P w K mg base 2 C "grow" ["self","i","j","why"] (rY C))(F:fR K "grow_by_turn" "grow_by_turn" s_z f fd):cW P w K mg base fS 3 f fd ["growth","i","j"] (rT i5 C):=by
 refine F.okz sc_z λeP A outer s H vs Q E hr h=>?_
 let⟨g,rows,rules,ls,i,j,rfl,a,gL,c,q⟩:=h;let fP:=T.cl;let d:(rD g).lookup ("grow":Str)=none:=qP g () () () ();let b:(rD g).lookup ("line_of":Str)=none:=qP g () () () ();let⟨dx,eJ⟩:=a.ins;calc#[_,have nd:=sc_z.nd;#[],?_];dsimp![yK];let⟨hi,k⟩:=a.ok.rng c;calc#[_,_,eJ,d,_,_,eJ,b,g,rows,rules,ls,i,j,rfl,a,c,λp l H1 s1 hl h1 h2=>#[zI (),λm lX=>?_]];rw[tF,tF,qE,qE];exact wA (t:=[]) (aZ.g s1) (by rw[cE];calc a.same s1) gL (zB lX _) GX (by rw[cE];calc aq hi k hl h1 h2) RF (λL e h=>h) λ_ n g3=>q _ g3
theorem RV{C:Addr}(T:NL K C)(bi:Bi mg)(h_L:gD P w K mg base 1 "bits_of" ["mask"] rZ)(h_f:lT P w K mg base 1 C "line_of" ["self","i","j"] (KY C))(h_t:lT P w K mg base 2 C "grow" ["self","i","j","why"] (rY C))(F:fR K "grow_by_chain" "grow_by_chain" s_p f fd):cW P w K mg base fS 3 f fd ["growth","i","j"] (rT WF C):=by
 refine F.okz sc_p λeP A outer s H vs Q E hr h=>?_
 let⟨g,rows,rules,ls,i,j,rfl,hg,gL,hh,q⟩:=h;let fP:=T.cl;let lk:(rD g).lookup ("grow":Str)=none:=qP g () () () ();let S:(rD g).lookup ("line_of":Str)=none:=qP g () () () ();let⟨dx,eJ⟩:=hg.ins;calc#[_,have nd:=sc_p.nd;zC #[]<|zC (yC bO rfl (vO<|zQ h_L hr.m rfl<|zE (jZ EU (zV yB #[] #[])<|PU DI<|zV yB #[] #[]) zJ) #[] #[])<|zH<|yC bO rfl (vO<|zQ h_L hr.m rfl<|zE (jZ EU (zV yB #[] #[])<|PU DI<|zV yB #[] #[]) zJ) #[] #[],?_];refine zD λN hN=>?_
 dsimp![yK];let⟨hi,hj⟩:=hg.ok.rng hh;calc#[_,_,eJ,S,g,rows,rules,ls,i,j,rfl,hg,hh,λp l H1 s1 hl h1 h2=>hN _ _ ?_];clear hN;refine zP (λσ H'=>∃(O R:Option V),lU C H g rows rules ls (λL=>∀m:Nat,zK ls j m=true->zK L i m=true) H'/\σ=[some<|V.ref g.r,some<|V.int i,some<|V.int j,some<|V.int p,O,R]) (λN hN=>?_) λσ H' h=>?_
 ·dsimp![yK,xZ];let U:=hg.same s1;let⟨dx,eJ⟩:=U.ins;let⟨as,mP,c⟩:=U.abv;let lY:i<as.length:=by rw[c.len];exact hi
  let d:j<as.length:=by rw[c.len];exact hj
  let a:=c.bit j as[j] (aA d);let n:∀x,as[j].testBit x=true->x<2*rows.length:=λx hx=>(hg.ok.rng (i:=j) (by rw[←a x];calc hx)).2
  let⟨m,xs,em,W,o,lW⟩:=JP (b:=as[i]) λx hx=>bQ (n x hx) ()
  let u:∀{k:Nat}(hk:k<as.length),pO (as.map nV) (k:Int)=some (V.int ((as[k]:Nat):Int)):=λ{k} hk=>zU (by rw[aF,aA hk];rfl)
  calc#[_,_,_,eJ,T.cl,T.nA,_,TM g,_,rfl,_,dB.of mP,_,u d,_,_,_,eJ,T.cl,T.nA,_,TM g,_,rfl,_,dB.of mP,_,u lY,_,rfl,_,rfl,?_];rw[em];calc#[m,xs,rfl,W,λx hx=>(o x hx).1,λpb H2 s2 v y=>?_];let ho:JC g pb:=U.out v;replace s1:=s1.trans s2;let X:=hg.same s1;calc#[_,rfl,#[_,dB.of y],?_];refine xS (xs:=xs.map nV) (λk σ H'=>∃(O R:Option V),lU C H2 g rows rules ls (λL=>∀x∈xs.take k,zK L i x=true) H'/\σ=[some<|V.ref g.r,some<|V.int i,some<|V.int j,some<|V.int p,O,R]) #[_,_,lU.refl X (λx z=>by cases z),rfl] (λk σ H' _ h=>?_) (λk x σ H' hx h M hM=>?_) λσ H' h=>?_
  ·let⟨_,_,h,_⟩:=h;exact dB.of<|h.to.1.out ho y
  ·let⟨O,R,⟨gs,t,gt,hP⟩,rfl⟩:=h;rw[aF]at hx;let⟨B,D,rfl⟩:=aL.mp hx;let⟨_,G⟩:=o B<|aP D;let Y:zK ls j B=true:=by rw[←a B];exact G
   let Z:=n B G;let⟨dx,eJ⟩:=gt.ins;dsimp![yK];calc#[_,_,eJ,lk,_,_,eJ,S,g,rows,rules,_,j,B,rfl,gt,zN Y,λp' l' H4 s4 iH I J=>#[zI (),λp1 lX=>?_]];refine wA (gs.trans<|aZ.g s4) (gt.same s4) gL (zB lX _) QE (tR hi Z (by rw[bE (aC.mp hl).1];calc hl) h1 h2 iH I J) EM (λL e h x hx9=>?_) λ_ H3 g3=>hM _ _ #[_,_,g3,rfl]
   let⟨hkl,hke⟩:=aC.mp D;rw[aJ hkl,hke]at hx9;rcases cD.mp hx9 with hx9 |hx9
   ·exact e.has<|hP x hx9
   ·rw[aV.mp hx9];exact h
  ·let⟨O,R,h,rfl⟩:=h;let⟨I,t,J,h3'⟩:=h;rw[aD,aR<|aG _]at h3';calc hN _ _ #[_,_,lU.pre s1 #[I,t,J,λm hm=>?_],rfl];rw[←a m]at hm;rcases lW m hm with z |z
   ·exact h3' m z
   ·rw[c.bit i as[i] (aA lY)]at z;exact zN z
 let⟨O,R,⟨gs,t,gt,hP1⟩,rfl⟩:=h;let hl0:(ls++t)[p]?=some l:=by rw[bE (aC.mp hl).1];exact hl
 let hh0:zK (ls++t) i j=true:=zN hh;dsimp![yK,xZ];let⟨dx,eJ⟩:=gt.ins;let⟨as,mP,c⟩:=gt.blw;let lY:i<as.length:=by rw[c.len];exact hi
 let d:j<as.length:=by rw[c.len];exact hj
 let a:=c.bit i as[i] (aA lY);let n:∀x,as[i].testBit x=true->x<2*rows.length:=λx hx=>(gt.ok.rng (j:=i) (by rw[←a x];calc hx)).1
 let⟨m,xs,em,W,o,lW⟩:=JP (b:=as[j]) λx hx=>bQ (n x hx) ()
 let u:∀{k:Nat}(hk:k<as.length),pO (as.map nV) (k:Int)=some (V.int ((as[k]:Nat):Int)):=λ{k} hk=>zU (by rw[aF,aA hk];rfl)
 calc#[_,_,_,eJ,T.cl,T.nB,_,ng g,_,rfl,_,dB.of mP,_,u lY,_,_,_,eJ,T.cl,T.nB,_,ng g,_,rfl,_,dB.of mP,_,u d,_,rfl,_,rfl,?_];rw[em];calc#[m,xs,rfl,W,λx hx=>(o x hx).1,λpb H2 s2 v y=>?_];let ho:JC g pb:=gt.out v;let X:=gt.same s2;replace gs:=gs.trans<|aZ.g s2;calc#[_,rfl,#[_,dB.of y],?_];refine xS (xs:=xs.map nV) (λk σ H'=>∃(O R:Option V),lU C H2 g rows rules (ls++t) (λL=>∀x∈xs.take k,zK L x j=true) H'/\σ=[some<|V.ref g.r,some<|V.int i,some<|V.int j,some<|V.int p,O,R]) #[_,_,lU.refl X (λx z=>by cases z),rfl] (λk σ H' _ h=>?_) (λk x σ H' hx h M hM=>?_) λσ H' h=>?_
 ·let⟨_,_,h,_⟩:=h;exact dB.of<|h.to.1.out ho y
 ·let⟨O,R,⟨gs',t',gt',hP⟩,rfl⟩:=h;rw[aF]at hx;let⟨B,D,rfl⟩:=aL.mp hx;let⟨_,G⟩:=o B<|aP D;let Y:zK (ls++t) B i=true:=by rw[←a B];exact G
  let Z:=n B G;let⟨dx,eJ⟩:=gt'.ins;dsimp![yK];calc#[_,_,eJ,lk,_,_,eJ,S,g,rows,rules,_,B,i,rfl,gt',zN Y,λp' l' H4 s4 iH I J=>#[zI (),λp1 lX=>?_]];refine wA (gs'.trans<|aZ.g s4) (gt'.same s4) gL (zB lX _) QE (tR Z hj iH I J (by rw[bE (aC.mp hl0).1];calc hl0) h1 h2) EM (λL e h x hx9=>?_) λ_ H3 g3=>hM _ _ #[_,_,g3,rfl]
  let⟨hkl,hke⟩:=aC.mp D;rw[aJ hkl,hke]at hx9;rcases cD.mp hx9 with hx9 |hx9
  ·exact e.has<|hP x hx9
  ·rw[aV.mp hx9];exact h
 ·let⟨O,R,h,rfl⟩:=h;calc q _ (lU.then gs h λL e hL=>#[λm hm=>e.has<|hP1 m hm,λh0 hh0=>?_]);rw[aD,aR<|aG _]at hL;let hm:as[i].testBit h0=true:=by rw[a h0];exact zN hh0
  rcases lW h0 hm with z |z
  ·exact hL h0 z
  ·rw[c.bit j as[j] (aA d)]at z;exact e.has z
theorem cw{C:Addr}(T:NL K C)(h_f:lT P w K mg base 1 C "line_of" ["self","i","j"] (KY C))(h_I:lT P w K mg base 1 C "has" ["self","i","j"] (ay C))(h_t:lT P w K mg base 2 C "grow" ["self","i","j","why"] (rY C))(F:fR K "grow_by_both" "grow_by_both" s_r f fd):cW P w K mg base fS 3 f fd ["growth","i","boths"] (spGB C):=by
 refine F.okz sc_r λeP A outer s H vs Q E hr h=>?_
 let⟨g,rows,rules,ls,i,qa,us,rfl,hg,gL,hi,u,v,R,mS,q⟩:=h;let fP:=T.cl;let lk:(rD g).lookup ("grow":Str)=none:=qP g () () () ();let y:(rD g).lookup ("line_of":Str)=none:=qP g () () () ();let B:(rD g).lookup ("has":Str)=none:=qP g () () () ();calc#[_,have nd:=sc_r.nd;#[],?_];dsimp![yK];calc#[#[_,dB.of u],?_];refine xS (xs:=us) (λk σ H'=>∃(o1 o2 o3:Option V),lU C H g rows rules ls (λL=>KI H (us.take k) ls L i) H'/\σ=[some<|V.ref g.r,some<|V.int i,some<|V.ref qa,o1,o2,o3]) #[_,_,_,lU.refl hg (λt m a b z=>by cases z),rfl] (λk σ H' _ h=>?_) (λk x σ H' hx h M S=>?_) λσ H' h=>?_
 ·let⟨_,_,_,h,_⟩:=h;exact dB.of<|h.to.1.out v u
 ·let⟨o1,o2,o3,D,rfl⟩:=h;let⟨xa,c,a,b,rfl,lW,n⟩:=R x<|aP hx;let⟨⟨b1,b2⟩,b3,b4⟩:=mS c a b n;let G:=hg.tups D.to.1 _ _ lW;dsimp![uO,jI,uX,yK];let⟨d,t,gt,hP⟩:=D;let nxt:∀{L:List Ln},Le (ls++t) L->(zK ls i a=true->zK ls i b=true->zK L i ((2*c:Nat):Int)=true)->KI H (us.take<|k+1) ls L i:=λ{L} e hL t0 m a0 b0 hm o I J=>by
   let⟨U,W⟩:=aC.mp hx;rw[aJ U,W]at hm;rcases cD.mp hm with hm |hm
   ·exact e.has<|hP t0 m a0 b0 hm o I J
   ·let e1:=V.ref.inj<|aV.mp hm;subst e1;rw[lW]at o;let X:=HO.tup.inj<|bY o;injection X with e3 e4
    injection e4 with Y e6
    injection e6 with Z _
    let e3:=V.int.inj e3;let Y:=V.int.inj Y;let Z:=V.int.inj Z;subst Y Z;rw[show m=c by lia];exact hL I J
  let⟨dx,eJ⟩:=gt.ins;calc#[_,cV.of G,rfl,_,_,rfl,_,_,rfl,_,_,rfl,rfl,_,_,eJ,B,g,rows,rules,_,i,a,rfl,gt,λH1 s1=>#[_,rfl,?_]];let ge1:zK (ls++t) i a=false->lU C H g rows rules ls (λL=>KI H (us.take<|k+1) ls L i) H1:=λz=>#[d.trans<|aZ.g s1,t,gt.same s1,nxt (Le.refl _) λha _=>by rw[zN ha]at z;cases z]
  by_cases N:zK (ls++t) i a=true
  ·rw[aO N];replace d:=d.trans<|aZ.g s1;replace gt:=gt.same s1;let⟨dx,eJ⟩:=gt.ins;calc#[_,_,eJ,B,g,rows,rules,_,i,b,rfl,gt,λH2 s2=>#[_,rfl,?_]];replace d:=d.trans<|aZ.g s2;replace gt:=gt.same s2;by_cases O:zK (ls++t) i b=true
   ·rw[aO O];let⟨dx,eJ⟩:=gt.ins;let hk1:c<rows.length:=(aC.mp n).1;let X:(2:Int)*(c:Int)=((2*c:Nat):Int):=by lia
    let hpt:oO rows ((2*c:Nat):Int)=[a,b]:=wP (r:=.bo a b) () (by rw[show(((2*c:Nat):Int)/2).toNat=c by lia];calc n);calc#[_,_,eJ,lk,_,_,eJ,y,g,rows,rules,_,i,a,rfl,gt,N,λp l H3 s3 hl h1 h2=>?_];replace d:=d.trans<|aZ.g s3;replace gt:=gt.same s3;let⟨dx,eJ⟩:=gt.ins;calc#[_,_,eJ,y,g,rows,rules,_,i,b,rfl,gt,O,λp' l' H4 s4 iH h1' h2'=>#[zI (),λp1 lX=>?_]];rw[X];exact wA (d.trans<|aZ.g s4) (gt.same s4) gL (zB lX _) QE (au hi () hpt hl h1 h2 iH h1' h2') EM (λL e h=>nxt e λ_ _=>h) λ_ H3 g3=>S _ _ #[_,_,_,g3,rfl]
   ·rw[aH O];exact S _ _ #[_,_,_,#[d,t,gt,nxt (Le.refl _) λ_ hb=>absurd (zN hb) O],rfl]
  ·rw[aH N];exact S _ _ #[_,_,_,ge1<|dH.mpr N,rfl]
 ·let⟨_,_,_,h,rfl⟩:=h;rw[aR<|aG _]at h;exact q _ h
theorem RU{C:Addr}(T:NL K C)(bi:Bi mg)(h_f:lT P w K mg base 1 C "line_of" ["self","i","j"] (KY C))(h_t:lT P w K mg base 2 C "grow" ["self","i","j","why"] (rY C))(F:fR K "grow_by_clash" "grow_by_clash" s_o f fd):cW P w K mg base fS 3 f fd ["growth","i","j"] (rT WE C):=by
 refine F.okz sc_o λeP A outer s H vs Q E hr h=>?_
 let⟨g,rows,rules,ls,i,j,rfl,b,gL,m,q⟩:=h;let fP:=T.cl;let u:(rD g).lookup ("grow":Str)=none:=qP g () () () ();let c:(rD g).lookup ("line_of":Str)=none:=qP g () () () ();let⟨dx,eJ⟩:=b.ins;calc#[_,have nd:=sc_o.nd;#[],?_];dsimp![yK,xZ];calc#[rfl,?_];let⟨hi,G⟩:=b.ok.rng m;by_cases e:(j:Int)=Builtin.bitXor (i:Int) 1
 ·rw[aO e];rw[tF]at e;let⟨as,mP,a⟩:=b.abv;calc#[_,_,_,eJ,T.cl,T.nA,_,TM g,as.length,.inl #[_,dB.of mP,by simp],(),by have :=a.len;lia,?_];refine qJ (n:=(as.length:Int).toNat) (λk σ H'=>∃(o:Option V),lU C H g rows rules ls (λL=>∀n:Nat,n<k->zK L i n=true) H'/\σ=[some<|V.ref g.r,some<|V.int i,some<|V.int j,o]) #[_,lU.refl b λn z=>(),rfl] (λk σ H' hk h M v=>?_) λσ H' h=>?_
  ·let⟨o,⟨x,t,gt,y⟩,rfl⟩:=h;let d:k<2*rows.length:=by have :=a.len;lia
   let B:(0:Int)+(k:Int)=((k:Nat):Int):=by lia
   let⟨dx,eJ⟩:=gt.ins;dsimp![yK];rw[B];calc#[_,_,eJ,u,_,_,eJ,c,g,rows,rules,_,i,j,rfl,gt,zN m,λp l H1 s1 hl h1 h2=>#[zI (),λI lX=>?_]];refine wA (x.trans<|aZ.g s1) (gt.same s1) gL (zB lX _) GX (OI hi d e hl h1 h2) RF (λL e h n hn=>?_) λ_ J g3=>v _ _ #[_,g3,rfl]
   rcases gP (mD hn)with z |z
   ·exact e.has<|y n z
   ·rw[z];exact h
  ·let⟨_,⟨h1,t,h2,D⟩,rfl⟩:=h;exact q _ #[h1,t,h2,λ_ n hn=>D n (by have :=a.len;lia)]
 ·rw[aH e];exact q _ (lU.refl b λz=>absurd (by rw[tF];calc z) e)
abbrev s_w:Stmt:=top 42
theorem sc_w:bP ["growth","rules","r","premises","pair","lines"] ["growth","rules","r"] (zF s_w):=by rfl'
theorem ar{rules:List zZ}{r:Nat}{q:zZ}{ps:List Int}(hi:i<2*rows.length)(hj:j<2*rows.length)(hr:rules[r]?=some q)(hq:q.2=((i:Int),(j:Int)))(hp:(ps.map λp=>jA ls ls.length<|.n p)=q.1.map some):xV rows rules ls ls.length #[i,j,"rule",[.n r,.ps ps]]=true:=by
 let a:=(aC.mp hr).1;unfold xV;rw[aH (by
  intro z;rcases z with z |z
  ·exact z #[by show(0:Int)<=(i:Int);lia,by show(i:Int)<_;lia]
  ·calc z #[by show(0:Int)<=(j:Int);lia,by show(j:Int)<_;lia]),aO rfl,ln rfl,aO #[(),()],bM,hr]
 show(((i:Int),(j:Int))==q.2&&_==_)=true;rw[hq,hp,bU];exact#[dE _,dE _]
def InR(rows:List Rw)(q:zZ):Prop:=(0<=q.2.1/\q.2.1<2*(rows.length:Int))/\(0<=q.2.2/\q.2.2<2*(rows.length:Int))
def i6(rows:List Rw)(rules:List zZ)(ls L:List Ln)(r:Nat):Prop:=∀q:zZ,rules[r]?=some q->InR rows q->(∀p∈q.1,zK ls p.1 p.2=true)->zK L q.2.1 q.2.2=true
inductive spGR (C:Addr) (vs:List V) (H:Hp) (Q:VK) (E:XK):Prop
 |mk (g:oW) (rows:List Rw) (rules:List zZ) (ls:List Ln) (ra:Addr) (us:List V) (r:Nat) (_:vs=[.ref g.r,.ref ra,.int r]) (_:lK C H g rows rules ls) (_:rows.length<=100) (_:H ra=some (.lst us)) (_:bK H (rules.map ix) us) (_:r<rules.length) (_:(∀r∈rules,r.1.length<=100)) (_:∀H',lU C H g rows rules ls (λL=>i6 rows rules ls L r) H'->Q .non H')
theorem cg{C:Addr}(T:NL K C)(bi:Bi mg)(h_M:gD P w K mg base 2 "is_below" ["n","bound"] OO)(h_f:lT P w K mg base 1 C "line_of" ["self","i","j"] (KY C))(h_I:lT P w K mg base 1 C "has" ["self","i","j"] (ay C))(h_t:lT P w K mg base 2 C "grow" ["self","i","j","why"] (rY C))(F:fR K "grow_by_rule" "grow_by_rule" s_w f fd):cW P w K mg base fS 3 f fd ["growth","rules","r"] (spGR C):=by
 refine F.okz sc_w λeP A outer s H vs Q E hr h=>?_
 let⟨g,rows,rules,ls,ra,us,r,rfl,Y,gL,Z,hru,hrl,hpr,q⟩:=h;let hul:=xM hru;let fP:=T.cl;let lk:(rD g).lookup ("grow":Str)=none:=qP g () () () ();let lk2:(rD g).lookup ("line_of":Str)=none:=qP g () () () ();let lk3:(rD g).lookup ("has":Str)=none:=qP g () () () ();let⟨dx,eJ⟩:=Y.ins;let B:rules[r]?=some rules[r]:=aA hrl;let hq1:=hpr _<|bW hrl;generalize rules[r]=nr at B hq1;let⟨rv,hrv,hrd⟩:=bK.get (d:=ix nr) hru (by rw[aF,B];rfl);let⟨xa,xl,xb,ps,rfl,lW,hxl,hps,O⟩:=nrAt hrd;let iK:=xM hps;calc#[_,have nd:=sc_w.nd;zC (xI 3 nd<|zV kS (zV yB #[] #[]) zW)<|zC (xI 4 nd<|zV kS (zV yB #[] #[]) zW)<|zC (yD (jK<|xL<|zM jF rfl bi.all uR<|zE (zX ["n"] ["growth"] [0] (kI #[]) (λ_ _ _ _ nd=>yI 0 nd) (λ_ _ _ _=>yA) λ_ _ _ _=>(zQ h_M hr.m rfl<|zE #[]<|zE (zM (MT K) rfl bi.len UU<|zE (HZ K #[] rfl) zJ) zJ)) zJ) #[] zO)<|zH<|yD (xL<|zM jF rfl bi.all uR<|zE (zX ["i","j"] ["growth"] [0] #[] (λ_ _ _ _ nd=>qN (K:=K) (n:=2) rfl<|yE (yI 0 nd)<|yE (yI 1 nd) jR) (λ_ _ _ _=>yA) λ_ _ _ _=>(xN h_I fP hr.m #[] #[])) zJ) (zC (xI 5 nd<|jM XZ rfl bi.tuple vI<|zE (zX ["i","j"] ["growth"] [0] #[] (λ_ _ _ _ nd=>qN (K:=K) (n:=2) rfl<|yE (yI 0 nd)<|yE (yI 1 nd) jR) (λ_ _ _ _=>yA) λ_ _ _ _=>(xN h_f fP hr.m #[] #[])) zJ) #[]) zO,?_];refine zD λN J=>?_
 dsimp![];calc#[_,dB.of Z,_,zU hrv,xa,rfl,_,cV.of lW,_,gG,J _ _ ?_];clear J;refine zD λN J=>?_
 dsimp![];calc#[_,dB.of Z,_,zU hrv,xa,rfl,_,cV.of lW,_,mV,J _ _ ?_];clear J;let⟨as,mP,hmk⟩:=Y.abv;let eO:=hmk.len;refine zD λN J=>?_
 dsimp![];calc#[#[_,cV.of O],?_];refine FK (xs:=[.int nr.2.1,.int nr.2.2]) (λi ys σ H'=>aZ H H'/\ys=(([nr.2.1,nr.2.2].take i).map λx=>JB as.length<|.n x).map V.bl/\∃o,σ=[o,some<|V.ref g.r]) #[aZ.refl _,rfl,_,rfl] (zI (by simp)) (λi ys σ H' e=>?_) (λi ys σ H' e=>cV.of<|e.1 _ _ O) (λi x ys σ H' D hx e hD=>?_) λys σ H' e p hp=>?_
 ·let⟨_,rfl,_⟩:=e;rw[aD,aD,bH];lia
 ·let⟨es,rfl,o,rfl⟩:=e;let u:=Y.same es;let⟨dx,eJ⟩:=u.ins;let hx':∃n,x=V.int n/\[nr.2.1,nr.2.2][i]?=some n:=by
   match i,hx with
   |0,hx=>cases hx;exact#[_,rfl,rfl]
   |1,hx=>cases hx;exact#[_,rfl,rfl]
  let⟨n,rfl,hn⟩:=hx';let⟨lY,hn2⟩:=aC.mp hn;dsimp![xZ,OO];calc#[C,dx,_,eJ,T.cl,T.nA,_,TM g,as.length,.inl #[_,dB.of<|es _ _ mP,by simp],.n n,rfl,hD _ _ _ #[es,?_,_,rfl]];rw[aJ lY,hn2,aQ,aQ];rfl
 let⟨es,rfl,o,rfl⟩:=e;calc#[p,rfl,_,dB.of zA,?_];let s1:=es.trans (zB hp<|.lst<|(([nr.2.1,nr.2.2].take 2).map λx=>JB as.length<|.n x).map V.bl)
 change (if([JB as.length<|.n nr.2.1,JB as.length<|.n nr.2.2].all id)=false then Q V.non (upd H' p<|.lst<|(([nr.2.1,nr.2.2].take 2).map λx=>JB as.length<|.n x).map V.bl)else N _ (upd H' p<|.lst<|(([nr.2.1,nr.2.2].take 2).map λx=>JB as.length<|.n x).map V.bl))
 generalize upd H' p (.lst<|(([nr.2.1,nr.2.2].take 2).map λx=>JB as.length<|.n x).map V.bl)=H1 at s1⊢;clear hp es eJ;let hg1:=Y.same s1;by_cases hB:(0<=nr.2.1/\nr.2.1<2*(rows.length:Int))/\(0<=nr.2.2/\nr.2.2<2*(rows.length:Int))
 case neg=>
  rw[aO]
  ·exact q _ ((lU.refl Y λq' c iG _=>by rw[B]at c;cases c;calc absurd iG hB).same s1)
  ·rw[dH];intro z;simp[JB]at z;exact hB ()
 rw[aH (by simp[JB];lia)];calc J _ _ ?_;clear J;let⟨⟨b1,b2⟩,b3,b4⟩:=hB;let⟨i,hi⟩:=dW b1;let⟨j,hj⟩:=dW b3;let y:=bK.same s1 hps;let a:=s1 _ _ hxl;let b:=s1 _ _ O;clear mP hmk eO;dsimp![];calc#[#[_,dB.of a],?_];refine yR (xs:=ps) (λk ys σ H'=>aZ H1 H'/\ys=((nr.1.take k).map λx=>zK ls x.1 x.2).map V.bl/\∃R S,σ=[R,S,some<|V.ref g.r]) #[aZ.refl _,rfl,_,_,rfl] (zI ()) (λk ys σ H' e=>?_) (λi ys σ H' e=>dB.of<|e.1 _ _ a) (λk x ys σ H' D hx e hD=>?_) λys σ H' e p hp=>?_
 ·let⟨_,rfl,_⟩:=e;rw[aD,aD,bH];lia
 ·let⟨es,rfl,R,S,rfl⟩:=e;let u:=hg1.same es;let⟨dx,eJ⟩:=u.ins;let⟨pr,G,U⟩:=xJ y hx;let⟨xp,rfl,v⟩:=l7 U;replace v:=es _ _ v;let⟨W,X⟩:=aC.mp G;dsimp![uO,jI,uX,yK];calc#[_,cV.of v,rfl,_,_,rfl,_,_,rfl,rfl,_,_,eJ,lk3,g,rows,rules,ls,_,_,rfl,u,λH3 M=>hD _ _ _ #[es.trans M,?_,_,_,rfl]];rw[aJ W,X,aQ,aQ];rfl
 let⟨es,rfl,R,S,rfl⟩:=e;calc#[p,rfl,_,dB.of zA,?_];rw[aR ()];let s2:=es.trans (zB hp<|.lst<|(nr.1.map λx=>zK ls x.1 x.2).map V.bl);generalize upd H' p (.lst<|(nr.1.map λx=>zK ls x.1 x.2).map V.bl)=H2 at s2⊢;clear hp es;let hg2:=hg1.same s2;replace a:=s2 _ _ a;replace b:=s2 _ _ b;replace y:=bK.same s2 y;by_cases hA:(nr.1.map λx=>zK ls x.1 x.2).all id=true
 case neg=>
  rw[aH hA];exact q _ ((lU.refl Y λq' c _ hp'=>absurd (by rw[B]at c;cases c;rw[gR,cF];calc λp hp=>hp' p hp) hA).same (s1.trans s2))
 rw[aO hA];rw[gR,cF]at hA;calc#[#[_,dB.of a],?_];refine yR (xs:=ps) (λk ys σ H'=>aZ H2 H'/\(∃ns:List Int,ys=ns.map V.int/\ns.length=k/\(ns.map λp=>jA ls ls.length<|.n p)=(nr.1.take k).map some)/\∃R S,σ=[R,S,some<|V.ref g.r]) #[aZ.refl _,#[[],rfl,rfl,rfl],_,_,rfl] (zI ()) (λk ys σ H' e=>?_) (λi ys σ H' e=>dB.of<|e.1 _ _ a) (λk x ys σ H' D hx e hD=>?_) λys σ H' e p hp=>?_
 ·let⟨_,⟨ns,rfl,hl,_⟩,_⟩:=e;rw[aD];lia
 ·let⟨es,⟨ns,rfl,hl,I⟩,R,S,rfl⟩:=e;let u:=hg2.same es;let⟨dx,eJ⟩:=u.ins;let⟨pr,G,U⟩:=xJ y hx;let⟨xp,rfl,v⟩:=l7 U;replace v:=es _ _ v;let⟨W,X⟩:=aC.mp G;dsimp![uO,jI,uX,yK];calc#[_,cV.of v,rfl,_,_,rfl,_,_,rfl,rfl,_,_,eJ,lk2,g,rows,rules,ls,_,_,rfl,u,hA pr<|aP G,λp l H3 M hl1 h1 h2=>hD _ _ _ #[es.trans M,#[ns++[(p:Int)],by rw[aQ];rfl,by simp[hl],?_],_,_,rfl]];rw[aJ W,X,aQ,aQ,I];show _++[jA ls ls.length<|.n (p:Int)]=_;rw[uE hl1,h1,h2];rfl
 let⟨es,⟨ns,rfl,hl,I⟩,R,S,rfl⟩:=e;rw[aR ()]at I;calc#[p,rfl,_,.inl #[dB.of zA,λl iH=>?_]];let M:=(es.trans<|zB hp<|.lst<|ns.map V.int).trans (zB iH<|.tup<|ns.map V.int);let kl:upd (upd H' p<|.lst<|ns.map V.int) l (.tup<|ns.map V.int) l=some (.tup<|ns.map V.int):=zA;generalize upd (upd H' p<|.lst<|ns.map V.int) l (.tup<|ns.map V.int)=H3 at M kl⊢;replace b:=M _ _ b;let hg3:=hg2.same M;let⟨dx,eJ⟩:=hg3.ins;dsimp![yK];calc#[_,_,eJ,lk,_,cV.of b,_,gG,_,cV.of b,_,mV,zI (),λp2 mK=>?_];rw[hi,hj];refine wA (t:=[]) (aZ.g<|(s1.trans s2).trans M) (by rw[cE];calc hg3) gL (zB mK _) (x:="rule") (as:=[.n r,.ps ns]) #[p2,_,rfl,zA,_,_,rfl,rfl,_,_,rfl,rfl,_,_,rfl,atPs<|zB mK _ _ _ kl,rfl] ?_ #[by simp,λps' h=>?_] (λL e h q' c _ _=>by rw[B]at c;cases c;rw[hi,hj];calc h) λ_ H4 g4=>q _ g4
 ·rw[cE];exact ar () () B (Prod.ext hi hj) I
 ·simp at h;subst h;lia
abbrev ki:Stmt:=top 43
theorem gp:bP ["sheet","rules","growth","boths","waiting","r","k","i","j"] ["sheet","rules"] (zF ki):=by rfl'
theorem Le.back{L L':List Ln}(e:Le L L')(ha:a<L.length)(h:L'[a]?=some l):L[a]?=some l:=by
 let⟨t,rfl⟩:=e;rw[bE ha]at h;exact h
structure Cl(rows:List Rw)(rules:List zZ)(k:Nat)(L:List Ln):Prop where
 turn:∀(a:Nat)(l:Ln)(i j:Nat),a<k->L[a]?=some l->l.i=i->l.j=j->zK L ((lF j:Nat):Int) ((lF i:Nat):Int)=true
 clash:∀(a:Nat)(l:Ln)(i j:Nat),a<k->L[a]?=some l->l.i=i->l.j=j->(j:Int)=rO i->∀n:Nat,n<2*rows.length->zK L i n=true
 chain:∀(a b:Nat)(l l':Ln)(i j m:Nat),a<k->b<k->L[a]?=some l->L[b]?=some l'->l.i=i->l.j=j->l'.i=j->l'.j=m->zK L i m=true
 both:∀(a b:Nat)(l l':Ln)(i n:Nat)(x y:Int),a<k->b<k->L[a]?=some l->L[b]?=some l'->l.i=i->l.j=x->l'.i=i->l'.j=y->rows[n]?=some (.bo x y)->zK L i ((2*n:Nat):Int)=true
 rule:∀(r:Nat)(q:zZ),rules[r]?=some q->InR rows q->(∀p∈q.1,∃(a:Nat)(l:Ln),a<k/\L[a]?=some l/\l.i=p.1/\l.j=p.2)->zK L q.2.1 q.2.2=true
theorem Cl.le{rules:List zZ}{k:Nat}{L L':List Ln}(h:Cl rows rules k L)(hk:k<=L.length)(e:Le L L'):Cl rows rules k L':=by
 let b:∀{a:Nat}{l:Ln},a<k->L'[a]?=some l->L[a]?=some l:=λha hl=>e.back () hl
 refine#[λa l i j ha hl h1 h2=>e.has<|h.turn a l i j ha (b ha hl) h1 h2,λa l i j ha hl h1 h2 c n hn=>e.has<|h.clash a l i j ha (b ha hl) h1 h2 c n hn,λa d l l' i j m ha hb hl iH h1 h2 c f=>e.has<|h.chain a d l l' i j m ha hb (b ha hl) (b hb iH) h1 h2 c f,
  λa d l l' i n x y ha hb hl iH h1 h2 c f hr=>e.has<|h.both a d l l' i n x y ha hb (b ha hl) (b hb iH) h1 h2 c f hr,λr q hr hi hp=>e.has<|h.rule r q hr hi λp g=>?_]
 let⟨a,l,ha,hl,h1,h2⟩:=hp p g;exact#[a,l,ha,b ha hl,h1,h2]
theorem Cl.step{rules:List zZ}{k:Nat}{L L':List Ln}(h:Cl rows rules k L)(e:Le L L'){l0:Ln}(hk:L[k]?=some l0)(hi:l0.i=i)(hj:l0.j=j)
 (h1:zK L' ((lF j:Nat):Int) ((lF i:Nat):Int)=true) (h2:∀m:Nat,zK L j m=true->zK L' i m=true) (h3:∀m:Nat,zK L m i=true->zK L' m j=true)
 (h4:∀(n:Nat)(x y:Int),rows[n]?=some (.bo x y)->((j:Int)=x\/(j:Int)=y)->zK L i x=true->zK L i y=true->zK L' i ((2*n:Nat):Int)=true)
 (h5:(j:Int)=rO i->∀n:Nat,n<2*rows.length->zK L' i n=true)
 (h6:∀(r:Nat)(q:zZ),rules[r]?=some q->InR rows q->((i:Int),(j:Int))∈q.1->(∀p∈q.1,zK L p.1 p.2=true)->zK L' q.2.1 q.2.2=true):Cl rows rules (k+1) L':=by
 let D:=(aC.mp hk).1;let hc:=h.le () e;let b:∀{a:Nat}{l:Ln},a<k+1->L'[a]?=some l->L[a]?=some l:=λha hl=>e.back () hl
 let z:∀{a:Nat},a<k+1->a<k\/a=k:=λha=>by lia
 let t:∀{a:Nat}{l:Ln},a=k->a<k+1->L'[a]?=some l->l=l0:=λE ha hl=>by
  have :=b ha hl;rw[E,hk]at this;exact(bY this).symm
 let hs:∀{a:Nat}{l:Ln},a<k+1->L'[a]?=some l->zK L l.i l.j=true:=λha hl=>fE.mpr #[_,_,b ha hl,rfl,rfl]
 refine#[λa l c f ha hl g1 g2=>?_,λa l c f ha hl g1 g2 g3 n hn=>?_,λa B l l' c f m ha hb hl iH g1 g2 g3 g4=>?_,λa B l l' c n x y ha hb hl iH g1 g2 g3 g4 hr=>?_,λr q hr A hp=>?_]
 ·rcases z ha with za |za
  ·exact hc.turn a l c f za hl g1 g2
  ·let d:=t za ha hl;subst d;let g:c=i:=by lia
   let u:f=j:=by lia
   rw[g,u];exact h1
 ·rcases z ha with za |za
  ·exact hc.clash a l c f za hl g1 g2 g3 n hn
  ·let d:=t za ha hl;subst d;let g:c=i:=by lia
   let u:f=j:=by lia
   subst g u;exact h5 g3 n hn
 ·rcases z ha with za |za
  ·rcases z hb with zb |zb
   ·exact hc.chain a B l l' c f m za zb hl iH g1 g2 g3 g4
   ·let d:=t zb hb iH;subst d;let u:f=i:=by lia
    let F:m=j:=by lia
    have :=hs ha hl;rw[g1,g2,u]at this;rw[F];exact h3 c this
  ·let d:=t za ha hl;subst d;let g:c=i:=by lia
   let u:f=j:=by lia
   have :=hs hb iH;rw[g3,g4,u]at this;rw[g];exact h2 m this
 ·let v:=hs ha hl;let w:=hs hb iH;rw[g1,g2]at v;rw[g3,g4]at w;rcases z ha with za |za
  ·rcases z hb with zb |zb
   ·exact hc.both a B l l' c n x y za zb hl iH g1 g2 g3 g4 hr
   ·let d:=t zb hb iH;subst d;let g:c=i:=by lia
    subst g;exact h4 n x y hr (.inr ()) v w
  ·let d:=t za ha hl;subst d;let g:c=i:=by lia
   subst g;exact h4 n x y hr (.inl ()) v w
 ·by_cases s:∀p∈q.1,∃(a:Nat)(l:Ln),a<k/\L'[a]?=some l/\l.i=p.1/\l.j=p.2
  ·exact hc.rule r q hr A s
  ·refine h6 r q hr A (pE λC=>s λp o=>?_) λp o=>?_
   ·let⟨a,l,ha,hl,g1,g2⟩:=hp p o;rcases z ha with za |za
    ·exact#[a,l,za,hl,g1,g2]
    ·let d:=t za ha hl;subst d;let ep:p=((i:Int),(j:Int)):=Prod.ext (by rw[←g1,hi]) (by rw[←g2,hj]);exact absurd (ep▸o) C
   ·let⟨a,l,ha,hl,g1,g2⟩:=hp p o;have :=hs ha hl;rw[g1,g2]at this;exact this
inductive gc (K:W.Frag) (vs:List V) (H:Hp) (Q:VK) (E:XK):Prop
 |mk (sa ra:Addr) (us vs':List V) (rows:List Rw) (rules:List zZ) (_:vs=[.ref sa,.ref ra]) (_:H sa=some (.lst us)) (_:fX K H rows us) (_:H ra=some (.lst vs')) (_:bK H (rules.map ix) vs') (_:rows.length<=100) (_:qK rows) (_:rules.length<=100) (_:(∀r∈rules,r.1.length<=100)) (_:∀(la:Addr)(ws:List V)(ls:List Ln) H',aZ H H'->H' la=some (.lst ws)->vJ H' ls ws->NA rows rules ls->Pl rows (2*rows.length) rows.length ls->Cl rows rules ls.length ls->Q (.ref la) H')
theorem fQ.same{g:oW}{H2:Hp}(s:aZ H H2)(e:fQ g H2 H')(h1:H g.la=none)(h2:H g.pa=none)(h3:H g.aa=none)(h4:H g.ba=none):aZ H H':=λb o hb=>by
 let go:∀{a:Addr},H a=none->b≠a:=λha z=>by rw[z,ha]at hb;cases hb
 exact e b o (s b o hb) (go h1) (go h2) (go h3)<|go h4
theorem FD{C:Addr}(T:NL K C)(bi:Bi mg)(h_l:WH P w K mg base 1 C "Growth" ["self","many"] (jz C))(h_q:gD P w K mg base 1 "boths_by_part" ["sheet"] (spBo K))(h_g:gD P w K mg base 1 "rules_by_premise" ["rules"] spWa)(h_bf:gD P w K mg base 3 "begin" ["growth","sheet"] (spBe K C))(h_z:gD P w K mg base 3 "grow_by_turn" ["growth","i","j"] (rT i5 C))(h_p:gD P w K mg base 3 "grow_by_chain" ["growth","i","j"] (rT WF C))(h_r:gD P w K mg base 3 "grow_by_both" ["growth","i","boths"] (spGB C))(h_o:gD P w K mg base 3 "grow_by_clash" ["growth","i","j"] (rT WE C))(h_w:gD P w K mg base 3 "grow_by_rule" ["growth","rules","r"] (spGR C))(F:fR K "closing" "closing" ki f fd):cW P w K mg base fS 4 f fd ["sheet","rules"] (gc K):=by
 refine F.okz gp λeP A outer s H vs Q E hr h=>?_
 let⟨sa,ra,us,vs',rows,rules,rfl,hsa,hrw,hra,hru,gL,mS,hr100,hpr,q⟩:=h;let hul:=hrw.len;let hvl:=xM hru;let fP:=T.cl;calc#[_,have nd:=gp.nd;zC (xI 2 nd<|AF h_l hr.m rfl #[])<|zC #[]<|zC #[]<|zC #[]<|zC #[]<|zC #[]<|zC (tY bO #[]<|zC (xI 7 nd<|zV kS (zV yB #[] #[]) zW)<|zC (xI 8 nd<|zV kS (zV yB #[] #[]) zW)<|zC #[]<|zC #[]<|zC (xE<|zQ h_r hr.m rfl<|zE #[]<|zE #[]<|zE (zV yB #[] #[]) zJ)<|zC #[]<|zC (yC bO rfl (vO<|RB (xY hr) #[] #[] #[] #[rfl,rfl,rfl,rfl]) #[] #[])<|zH<|QW (i:=6) nd rfl (Or.inl rfl) zW m8) #[],?_];refine zD λN O=>?_
 dsimp![GZ];calc#[us.length,.inl #[_,dB.of hsa,rfl],.inl #[(),()],λx dx hx hdx nF=>?_];let s1:aZ H (upd (upd H dx<|.own x) x<|.ins C dx []):=((aZ.refl H).upd hdx).upd hx;let k1:upd (upd H dx<|.own x) x (.ins C dx []) x=some (.ins C dx []):=zA;generalize upd (upd H dx<|.own x) x (.ins C dx [])=H1 at s1 k1⊢;let e2:(2:Int)*(us.length:Int)=((2*rows.length:Nat):Int):=by rw[hul];lia
 rw[e2];calc#[x,dx,rows,rules,rfl,k1,gL,λg H2 hgr x2 hla mZ haa hba hg=>#[rfl,O _ _ ?_]];subst hgr;clear O;let s2:aZ H H2:=λb o hb=>x2 b o (s1 _ _ hb) (λz=>by rw[z,hx]at hb;cases hb)
 replace hla:=s1.free hla;replace mZ:=s1.free mZ;replace haa:=s1.free haa;replace hba:=s1.free hba;let outH:∀{a:Addr}{o:HO},H a=some o->JC g a:=λ{a o} ha=>by
  let go:∀{b:Addr},H b=none->a≠b:=λhb z=>by rw[z,hb]at ha;cases ha
  exact#[go hla,go mZ,go haa,go hba]
 clear x2 k1 s1;refine zD λN O=>?_
 dsimp![];calc#[sa,us,rows,rfl,s2 _ _ hsa,hrw.same s2,gL,mS,λpb qs n H3 s3 hpb0 hqs0 hpb hql hbo hbc=>O _ _ ?_];clear O;let outb:=hg.out hpb0;let outq:∀q∈qs,JC g q:=λq hq=>hg.out<|hqs0 q hq
 replace hg:=hg.same s3;replace s2:=s2.trans s3;clear s3 hqs0 hpb0;refine zD λN O=>?_
 dsimp![];calc#[ra,vs',rules,rfl,s2 _ _ hra,bK.same s2 hru,hr100,hpr,λpw kvs n' H4 s4 hpw0 hpw hwa hwc=>O _ _ ?_];clear O;let outw:=hg.out hpw0;let hwa':∀kv∈kvs,∃(q:Addr)(ns:List Nat),kv.2=.ref q/\H4 q=some (.lst<|ns.map nV)/\JC g q/\∀x∈ns,x<rules.length:=λkv hkv=>by
  let⟨q',ns',h1,h2,h3,h4,h5⟩:=hwa kv hkv;exact#[q',ns',h1,h2,hg.out h3,h5]
 clear hwa;replace hg:=hg.same s4;replace s2:=s2.trans s4;replace hpb:=s4 _ _ hpb;replace hbo:=hbo.same s4;replace hbc:=hbc.same s4;clear s4 hpw0;let SS:∀{H'},fQ g H4 H'->aZ H H':=λe=>fQ.same s2 e hla mZ haa hba
 refine zD λN O=>?_
 dsimp![];calc#[g,sa,us,rows,rules,rfl,hg,gL,s2 _ _ hsa,hrw.same s2,outH hsa,mS,λH5 g5=>O _ _ ?_];clear O;let np:∀{r:Nat}{ls L L':List Ln},i6 rows rules ls L r->Le L L'->∀q:zZ,rules[r]?=some q->InR rows q->q.1=[]->zK L' q.2.1 q.2.2=true:=λh e q hq hi h0=>e.has (h q hq hi λp hp=>by rw[h0]at hp;cases hp)
 refine zP (λσ H'=>∃(I o2 R S:Option V),lU C H4 g rows rules [] (λL=>Pl rows (2*rows.length) rows.length L/\Cl rows rules 0 L) H'/\σ=[some<|V.ref sa,some<|V.ref ra,some<|V.ref g.r,some<|V.ref pb,some<|V.ref pw,I,o2,R,S]) (λN O=>?_) λσ H' h=>?_
 ·dsimp![];calc#[vs'.length,.inl #[_,dB.of<|SS g5.to.1 _ _ hra,rfl],(),(),?_];refine qJ (n:=(vs'.length:Int).toNat) (λi σ H'=>∃(I o2 R S:Option V),lU C H4 g rows rules [] (λL=>Pl rows (2*rows.length) rows.length L/\∀r:Nat,r<i->∀q:zZ,rules[r]?=some q->InR rows q->q.1=[]->zK L q.2.1 q.2.2=true) H'/\σ=[some<|V.ref sa,some<|V.ref ra,some<|V.ref g.r,some<|V.ref pb,some<|V.ref pw,I,o2,R,S]) #[_,_,_,_,(by
   let⟨h1,t,h2,h3⟩:=g5;calc#[h1,t,h2,h3,λr hr=>()]),rfl] (λi σ H' hi h M hM=>?_) λσ H' h=>?_
  rotate_left
  ·let⟨I,o2,R,S,⟨h1,t,h2,h3,h4⟩,rfl⟩:=h;calc O _ _ #[_,_,_,_,#[h1,t,h2,h3,#[λa l i j ha=>(),λa l i j ha=>(),λa b l l' i j m ha=>(),λa b l l' i n x y ha=>(),λr q hr hir hp=>?_]],rfl];calc h4 r (by have :=(aC.mp hr).1;lia) q hr hir ?_;cases hq:q.1 with
   |nil=>rfl
   |cons p ps=>
    let⟨a,l,ha,_⟩:=hp p (by rw[hq];calc aW);lia
  let⟨I,o2,R,S,⟨G,t,gt,hP,hR⟩,rfl⟩:=h;let e0:(0:Int)+(i:Int)=((i:Nat):Int):=by lia
  dsimp![];rw[e0];calc#[g,rows,rules,_,ra,vs',i,rfl,gt,gL,SS G _ _ hra,bK.same (SS G) hru,(),hpr,λH6 g6=>?_];calc hM _ _ #[_,_,_,_,lU.then G g6 λL e h=>#[hP.le e,λr hr=>?_],rfl];rcases gP (mD hr)with z |z
  ·exact λq hq hi h0=>e.has<|hR r z q hq hi h0
  ·rw[z];exact np h<|Le.refl _
 let⟨I,o2,R,S,⟨G,t,gt,hP,hC⟩,rfl⟩:=h;rw[List.nil_append]at gt hP hC;refine zD λN O=>?_
 dsimp![];calc O _ _ ?_;clear O;refine zP (λσ H'=>∃(I o2 R S:Option V)(t:List Ln),fQ g H4 H'/\lK C H' g rows rules t/\Pl rows (2*rows.length) rows.length t/\Cl rows rules t.length t/\σ=[some<|V.ref sa,some<|V.ref ra,some<|V.ref g.r,some<|V.ref pb,some<|V.ref pw,I,o2,R,S]) (λN O=>?_) λσ H' h=>?_
 ·calc ji (λm σ H'=>∃(k:Nat)(t:List Ln)(I R S:Option V),m=(2*rows.length)*(2*rows.length)-k/\k<=t.length/\fQ g H4 H'/\lK C H' g rows rules t/\Pl rows (2*rows.length) rows.length t/\Cl rows rules k t/\σ=[some<|V.ref sa,some<|V.ref ra,some<|V.ref g.r,some<|V.ref pb,some<|V.ref pw,I,some<|V.int k,R,S]) #[_,0,t,_,_,_,rfl,cO _,G,gt,hP,hC,rfl] λm σ H' h B hB=>?_;clear hP hC;let⟨k,t,I,R,S,rfl,hk,G,gt,hP,hC,rfl⟩:=h;let htl:=gt.ok.len;let⟨dx,eJ⟩:=gt.ins;let⟨ws,hl,Y⟩:=gt.lin;let hwl:=xM Y;dsimp![xZ];calc#[_,_,_,eJ,T.cl,T.nL,_,MO g,ws.length,.inl #[_,dB.of hl,rfl],?_];by_cases hkl:k<t.length
  case neg=>
   rw[aH ()];rw[show k=t.length by lia]at hC;exact O _ _ #[_,_,_,_,t,G,gt,hP,hC,rfl]
  rw[aO ()];let Z:t[k]?=some t[k]:=aA hkl;let U:=qV<|gt.ok.snd k _ Z;generalize t[k]=l0 at Z U;obtain⟨i,hi⟩:∃i:Nat,l0.i=(i:Int):=dW U.1.1;obtain⟨j,hj⟩:∃j:Nat,l0.j=(j:Int):=dW U.2.1;let⟨v,hv,hvd⟩:=bK.get (d:=n6 l0) Y (by rw[aF,Z];rfl);let⟨xa,u,rfl,lW,_⟩:=mr hvd;rw[hi,hj]at lW U;let hh:zK t i j=true:=fE.mpr #[k,l0,Z,hi,hj];refine hB _ (λσ' H''=>∃(t':List Ln)(I R S:Option V),k+1<=t'.length/\fQ g H4 H''/\lK C H'' g rows rules t'/\Pl rows (2*rows.length) rows.length t'/\Cl rows rules (k+1) t'/\σ'=[some<|V.ref sa,some<|V.ref ra,some<|V.ref g.r,some<|V.ref pb,some<|V.ref pw,I,some<|V.int ((k+1:Nat):Int),R,S]) (λσ' H'' h=>?_) λM hM=>?_
  ·let⟨t',I,R,S,h1,h2,h3,h4,h5,rfl⟩:=h;exact#[_,(),k+1,t',_,_,_,rfl,h1,h2,h3,h4,h5,rfl]
  refine zD λN1 D=>?_
  dsimp![xZ];calc#[_,_,_,eJ,T.cl,T.nL,_,MO g,_,rfl,_,dB.of hl,_,zU hv,_,rfl,_,cV.of lW,_,gG,D _ _ ?_];clear D;refine zD λN1 D=>?_
  dsimp![xZ];calc#[_,_,_,eJ,T.cl,T.nL,_,MO g,_,rfl,_,dB.of hl,_,zU hv,_,rfl,_,cV.of lW,_,mV,D _ _ ?_];clear D;refine zD λN1 D=>?_
  dsimp![];calc#[g,rows,rules,t,i,j,rfl,gt,gL,hh,λH6 g6=>D _ _ ?_];clear D;let⟨gs6,X,gt6,rt⟩:=g6;replace G:=G.trans gs6;refine zD λN1 D=>?_
  dsimp![];calc#[g,rows,rules,_,i,j,rfl,gt6,gL,zN hh,λH7 g7=>D _ _ ?_];clear D;let⟨gs7,t7,gt7,rc⟩:=g7;replace G:=G.trans gs7;let hjl:j<qs.length:=by lia
  let⟨us1,hu1,_,ht1⟩:=hbo qs[j] (bW hjl);let tu:=hg.tups G;refine zD λN1 D=>?_
  dsimp![];calc#[_,dB.of<|G.out outb hpb,_,zU (by rw[aF,aA hjl];rfl),?_];calc#[g,rows,rules,_,i,qs[j],us1,rfl,gt7,gL,(),G.out (outq _<|bW hjl) hu1,outq _<|bW hjl,λv hv=>(ht1 v hv).tups tu,mS,λH8 g8=>D _ _ ?_];clear D;let⟨gs8,t8,gt8,rb⟩:=g8;replace G:=G.trans gs8;refine zD λN1 D=>?_
  dsimp![];calc#[g,rows,rules,_,i,j,rfl,gt8,gL,zN<|zN<|zN hh,λH9 g9=>D _ _ ?_];clear D;let⟨gs9,t9,gt9,rx⟩:=g9;replace G:=G.trans gs9;let hk9:k+1<=((((t++X)++t7)++t8)++t9).length:=by simp only[aK];lia
  let h1:zK ((((t++X)++t7)++t8)++t9) ((lF j:Nat):Int) ((lF i:Nat):Int)=true:=zN<|zN<|zN rt;let h2:∀m:Nat,zK t j m=true->zK ((((t++X)++t7)++t8)++t9) i m=true:=λm hm=>zN<|zN<|rc.1 m<|zN hm
  let h3:∀m:Nat,zK t m i=true->zK ((((t++X)++t7)++t8)++t9) m j=true:=λm hm=>zN<|zN<|rc.2 m<|zN hm
  let h4:∀(n:Nat)(x y:Int),rows[n]?=some (.bo x y)->((j:Int)=x\/(j:Int)=y)->zK t i x=true->zK t i y=true->zK ((((t++X)++t7)++t8)++t9) i ((2*n:Nat):Int)=true:=λn x y hn hxy hx hy=>by
   let⟨us',t',g1,g2,g3⟩:=hbc n x y (aC.mp hn).1 hn j qs[j] hxy (aA hjl);rw[hu1]at g1;cases g1;exact zN<|rb t' n x y g2 (tu _ _ g3) (zN<|zN hx)<|zN<|zN hy
  let h5:(j:Int)=rO i->∀n:Nat,n<2*rows.length->zK ((((t++X)++t7)++t8)++t9) i n=true:=rx;let ett:Le t ((((t++X)++t7)++t8)++t9):=#[X++(t7++(t8++t9)),by simp[dA]]
  generalize (((t++X)++t7)++t8)++t9=tt at gt9 hk9 h1 h2 h3 h4 h5 ett;clear rt rc rb rx;clear gs6 gt6 gs7 gt7 gs8 gt8 gs9 tu eJ hl Y htl gt;refine zD λN1 D=>?_
  dsimp![OF];let hpw9:=G.out outw hpw;calc#[.inr #[_,.inl hpw9],zI (),λp hp=>#[cO _,λp1 lX=>?_]];let W:=(zB hp<|.tup [V.int i,V.int j]).trans (zB lX<|.lst []);let kp:upd (upd H9 p<|.tup [V.int i,V.int j]) p1 (.lst []) p=some (.tup [V.int i,V.int j]):=zB lX (.lst []) _ _ zA;let kp1:upd (upd H9 p<|.tup [V.int i,V.int j]) p1 (.lst []) p1=some (.lst []):=zA;let op1:=(gt9.same<|zB hp<|.tup [V.int i,V.int j]).out lX;generalize upd (upd H9 p<|.tup [V.int i,V.int j]) p1 (.lst [])=H10 at W kp kp1⊢;let hq:∃(q:Addr)(ns:List Nat),(zY kvs<|yU i j).getD (.ref p1)=.ref q/\H10 q=some (.lst<|ns.map nV)/\JC g q/\(∀x∈ns,x<rules.length)/\∀r,KH H4 kvs ((i:Int),(j:Int)) r->r∈ns:=by
   cases hv:zY kvs (yU i j)with
   |none=>exact#[p1,[],rfl,kp1,op1,(λx z=>by cases z),λr z0=>by let⟨q,ns,g1,_⟩:=z0;rw[show zY kvs (yU (i:Int) (j:Int))=none from hv]at g1;cases g1]
   |some v=>
    let⟨kv,hkv,rfl⟩:=tI hv;let⟨q',ns',g1,g2,g3,g4⟩:=hwa' kv hkv;calc#[q',ns',g1,W _ _<|G.out g3 g2,g3,g4,λr z1=>?_];let⟨q,ns,w1,w2,w3⟩:=z1;rw[show zY kvs (yU (i:Int) (j:Int))=some kv.2 from hv,g1]at w1;let e1:=V.ref.inj<|bY w1;subst e1;rw[g2]at w2;rw[FG<|HO.lst.inj<|bY w2];exact w3
  let⟨qa,ns,hqa1,hqa2,hqa3,hqa4,hqa5⟩:=hq;calc#[_,.inr #[_,yU i j,p,.inl<|W _ _ hpw9,rfl,kp,rfl],qa,hqa1,#[_,dB.of hqa2],?_];replace G:=G.trans<|aZ.g W;replace gt9:=gt9.same W;clear W kp kp1 hp lX op1 hqa1;refine xS (xs:=ns.map nV) (λm σ H'=>∃(I:Option V)(t':List Ln),k+1<=t'.length/\fQ g H4 H'/\fQ g H10 H'/\lK C H' g rows rules t'/\Le tt t'/\(∀r∈ns.take m,∀q:zZ,rules[r]?=some q->InR rows q->(∀p∈q.1,zK tt p.1 p.2=true)->zK t' q.2.1 q.2.2=true)/\σ=[some<|V.ref sa,some<|V.ref ra,some<|V.ref g.r,some<|V.ref pb,some<|V.ref pw,I,some<|V.int k,some<|V.int i,some<|V.int j]) #[_,tt,hk9,G,aZ.g<|aZ.refl _,gt9,Le.refl _,(λr z=>by cases z),rfl] (λm σ H' _ h=>?_) (λm x σ H' hx h M hM=>?_) λσ H' h=>?_
  ·let⟨_,_,_,_,h,_⟩:=h;exact dB.of<|h.out hqa3 hqa2
  ·let⟨I,t',hk',gs',gs2',gt',J,hR,rfl⟩:=h;rw[aF]at hx;let⟨x',hx',rfl⟩:=aL.mp hx;dsimp![];calc#[g,rows,rules,_,ra,vs',x',rfl,gt',gL,SS gs' _ _ hra,bK.same (SS gs') hru,hqa4 _<|aP hx',hpr,λH6 g6=>?_];let⟨gs6,X,gt6,rr⟩:=g6;calc hM _ _ #[_,t'++X,by rw[aK];lia,gs'.trans gs6,gs2'.trans gs6,gt6,J.trans #[X,rfl],λr hr q hq hi0 hp0=>?_,rfl];let⟨hkl',hke⟩:=aC.mp hx';rw[aJ hkl',hke]at hr;rcases cD.mp hr with hr |hr
   ·exact zN<|hR r hr q hq hi0 hp0
   ·rw[aV.mp hr]at hq;exact rr q hq hi0 λp hp=>J.has<|hp0 p hp
  ·let⟨I,t',hk',gs',gs2',gt',J,hR,rfl⟩:=h;rw[aD,aR<|aG _]at hR;let e9:=ett.trans J;let hC':Cl rows rules (k+1) t':=hC.step e9 Z hi hj (J.has h1) (λm hm=>J.has<|h2 m hm) (λm hm=>J.has<|h3 m hm) (λn x y a b c d=>J.has<|h4 n x y a b c d) (λa n b=>J.has<|h5 a n b) λr q hr hir hin' hp=>?_
   ·calc D _ _ ?_;dsimp![OG,TH];exact hM _ _ #[t',_,_,_,hk',gs',gt',hP.le e9,hC',by rw[Int.natCast_add];rfl]
   ·let⟨x,hx⟩:=iM hin';exact hR r (hqa5 r<|hwc r q x _ hr hx<|.inl (aC.mp hr).1) q hr hir λp hpq=>ett.has<|hp p hpq
 let⟨I,o2,R,S,t,G,gt,hP,hC,rfl⟩:=h;let⟨dx,eJ⟩:=gt.ins;let⟨ws,hl,Y⟩:=gt.lin;dsimp![xZ];exact#[_,_,_,eJ,T.cl,T.nL,_,MO g,q g.la ws t _ (SS G) hl Y gt.ok hP hC]
noncomputable def pH(n:Nat):Nat:=n+1-2*(n % 2)
noncomputable def iY(e:Bool)(n:Nat):Nat:=if e then pH n else n
noncomputable def oN(rows:List Rw)(r:Rw):Option Nat:=rows.findIdx? λx=>iS (sE x)<|sE r
noncomputable def yZ(rows:List Rw)(r:Rw):List Rw×Nat:=match oN rows r with
 |some k=>(rows,2*k)
 |none=>(rows++[r],2*rows.length)
mutual
noncomputable def num(rows:List Rw):Tm->Option Nat
 | .name x=>(oN rows<|.nm x).map (2* ·)
 | .node w ts=>if w="none" then some 0 else if w="all" then some 1 else if w="not" then(uJ rows false ts).map pH else(uJ rows (decide<|w="either") ts).map (iY<|decide<|w="either")
noncomputable def uJ(rows:List Rw)(e:Bool):List Tm->Option Nat
 |[]=>none
 |t::ts=>(num rows t).bind λm=>uW rows e (iY e m) ts
noncomputable def uW(rows:List Rw)(e:Bool):Nat->List Tm->Option Nat
 |m,[]=>some m
 |m,t::ts=>(num rows t).bind λn=>(oN rows<|.bo (m:Int) (iY e n:Nat)).bind λk=>uW rows e (2*k) ts
end
mutual
noncomputable def dG:Tm->List Rw->List Rw×Nat
 | .name x,rows=>yZ rows<|.nm x
 | .node w ts,rows=>if w="none" then(rows,0)else if w="all" then(rows,1)else if w="not" then((jB false ts rows).1,pH (jB false ts rows).2)else((jB (decide<|w="either") ts rows).1,iY (decide<|w="either") (jB (decide<|w="either") ts rows).2)
noncomputable def jB(e:Bool):List Tm->List Rw->List Rw×Nat
 |[],rows=>(rows,0)
 |t::ts,rows=>yJ e ts (dG t rows).1 (iY e (dG t rows).2)
noncomputable def yJ(e:Bool):List Tm->List Rw->Nat->List Rw×Nat
 |[],rows,m=>(rows,m)
 |t::ts,rows,m=>yJ e ts (yZ (dG t rows).1 (.bo (m:Int) (iY e (dG t rows).2:Nat))).1 (yZ (dG t rows).1 (.bo (m:Int) (iY e (dG t rows).2:Nat))).2
end
theorem QS{k:Nat}(xs:List Rw)(h:oN rows r=some k):oN (rows++xs) r=some k:=by
 unfold oN at h⊢;rw[List.findIdx?_append,h];rfl
theorem YJ(h:oN rows r=none):oN (rows++[r]) r=some rows.length:=by
 unfold oN at h⊢;rw[List.findIdx?_append,h];simp[List.findIdx?_cons,yT]
theorem qW(rows:List Rw)(r:Rw):∃xs,(yZ rows r).1=rows++xs:=by
 unfold yZ;split
 ·exact#[[],(cE _).symm]
 ·exact#[[r],rfl]
theorem HL(rows:List Rw)(r:Rw):∃k,oN (yZ rows r).1 r=some k/\(yZ rows r).2=2*k:=by
 unfold yZ;split
 ·rename_i k h
  exact#[k,h,rfl]
 ·rename_i h
  exact#[_,YJ h,rfl]
mutual
theorem wR(rows xs:List Rw):∀(t:Tm)(n:Nat),num rows t=some n->num (rows++xs) t=some n
 | .name x,n,h=>by
   rw[num]at h⊢;let⟨k,hk,e⟩:=aL.mp h;rw[QS xs hk];exact cQ some e
 | .node w ts,n,h=>by
   rw[num]at h⊢;split
   ·rename_i c
    rwa[aO c]at h
   ·rename_i c
    rw[aH c]at h;split
    ·rename_i c
     rwa[aO c]at h
    ·rename_i c
     rw[aH c]at h;split
     ·rename_i c
      rw[aO c]at h;let⟨k,hk,e⟩:=aL.mp h;rw[BF rows xs _ ts k hk];exact cQ some e
     ·rename_i c
      rw[aH c]at h;let⟨k,hk,e⟩:=aL.mp h;rw[BF rows xs _ ts k hk];exact cQ some e
theorem BF(rows xs:List Rw)(e:Bool):∀(ts:List Tm)(n:Nat),uJ rows e ts=some n->uJ (rows++xs) e ts=some n
 |[],n,h=>by rw[uJ]at h;cases h
 |t::ts,n,h=>by
  rw[uJ]at h⊢;let⟨m,hm,h⟩:=cU.mp h;rw[wR rows xs t m hm];exact BD rows xs e ts _ n h
theorem BD(rows xs:List Rw)(e:Bool):∀(ts:List Tm)(m n:Nat),uW rows e m ts=some n->uW (rows++xs) e m ts=some n
 |[],m,n,h=>by rw[uW]at h⊢;exact h
 |t::ts,m,n,h=>by
  rw[uW]at h⊢;let⟨a,ha,h⟩:=cU.mp h;let⟨b,hb,h⟩:=cU.mp h;rw[wR rows xs t a ha];show(oN (rows++xs) _).bind _=_;rw[QS xs hb];exact BD rows xs e ts _ n h
end
mutual
theorem kC:∀(t:Tm)(rows:List Rw),∃xs,(dG t rows).1=rows++xs
 | .name x,rows=>by rw[dG];exact qW _ _
 | .node w ts,rows=>by
   rw[dG];split
   ·exact#[[],(cE _).symm]
   ·split
    ·exact#[[],(cE _).symm]
    ·split
     ·exact CJ _ ts rows
     ·exact CJ _ ts rows
theorem CJ(e:Bool):∀(ts:List Tm)(rows:List Rw),∃xs,(jB e ts rows).1=rows++xs
 |[],rows=>by rw[jB];exact#[[],(cE _).symm]
 |t::ts,rows=>by
  rw[jB];let⟨xs,hx⟩:=kC t rows;let⟨ys,hy⟩:=xR e ts (dG t rows).1 (iY e (dG t rows).2);exact#[xs++ys,by rw[hy,hx,dA]]
theorem xR(e:Bool):∀(ts:List Tm)(rows:List Rw)(m:Nat),∃xs,(yJ e ts rows m).1=rows++xs
 |[],rows,m=>by rw[yJ];exact#[[],(cE _).symm]
 |t::ts,rows,m=>by
  rw[yJ];let⟨xs,hx⟩:=kC t rows;let⟨ys,hy⟩:=qW (dG t rows).1 (.bo (m:Int) (iY e (dG t rows).2:Nat));let⟨zs,hz⟩:=xR e ts (yZ (dG t rows).1 (.bo (m:Int) (iY e (dG t rows).2:Nat))).1 (yZ (dG t rows).1 (.bo (m:Int) (iY e (dG t rows).2:Nat))).2;exact#[xs++(ys++zs),by rw[hz,hy,hx,dA,dA]]
end
mutual
theorem kA:∀(t:Tm)(n:Nat)(rows:List Rw),fY n t->num (dG t rows).1 t=some (dG t rows).2
 | .name x,n,rows,_=>by
   rw[dG,num];let⟨k,h1,h2⟩:=HL rows<|.nm x;rw[h1,h2];rfl
 | .node w ts,n,rows,h=>by
   let hf:∀t∈ts,∃m,fY m t:=λt ht=>by
    cases n with
    |zero=>unfold fY at h;rw[h.2]at ht;cases ht
    |succ n=>unfold fY at h;exact#[n,h.2 t ht]
   let hs:Sh w ts.length:=by cases n<;>(unfold fY at h;calc h.1)
   rw[dG,num];split
   ·rfl
   ·split
    ·rfl
    ·rename_i a b
     let nF:ts≠[]:=λz=>by
      subst z;rcases hs with h |h |h |h |h
      ·exact a h.1
      ·exact b h.1
      ·cases h.2
      ·exact absurd h.2 ()
      ·exact absurd h.2 ()
     split
     ·show(uJ (jB false ts rows).1 false ts).map pH=_;rw[CH false ts rows hf nF];rfl
     ·show(uJ (jB _ ts rows).1 _ ts).map _=_;rw[CH _ ts rows hf nF];rfl
theorem CH(e:Bool):∀(ts:List Tm)(rows:List Rw),(∀t∈ts,∃m,fY m t)->ts≠[]->uJ (jB e ts rows).1 e ts=some (jB e ts rows).2
 |[],rows,_,h=>absurd rfl h
 |t::ts,rows,hf,_=>by
  rw[jB,uJ];let⟨m,hm⟩:=hf t aW;let⟨ys,hy⟩:=xR e ts (dG t rows).1 (iY e (dG t rows).2);let h1:=CG e ts (dG t rows).1 (iY e (dG t rows).2) (λu hu=>hf u<|aX _ hu);let h2:=wR _ ys t _<|kA t m rows hm;rw[←hy]at h2;rw[h2];exact h1
theorem CG(e:Bool):∀(ts:List Tm)(rows:List Rw)(m:Nat),(∀t∈ts,∃m,fY m t)->uW (yJ e ts rows m).1 e m ts=some (yJ e ts rows m).2
 |[],rows,m,_=>by rw[yJ,uW]
 |t::ts,rows,m,hf=>by
  let⟨a,ha⟩:=hf t aW;let h1:=kA t a rows ha;let⟨ys,hy⟩:=qW (dG t rows).1 (.bo (m:Int) (iY e (dG t rows).2:Nat));let⟨k,hk,b⟩:=HL (dG t rows).1 (.bo (m:Int) (iY e (dG t rows).2:Nat));let⟨zs,hz⟩:=xR e ts (yZ (dG t rows).1 (.bo (m:Int) (iY e (dG t rows).2:Nat))).1 (yZ (dG t rows).1 (.bo (m:Int) (iY e (dG t rows).2:Nat))).2;let f:=CG e ts (yZ (dG t rows).1 (.bo (m:Int) (iY e (dG t rows).2:Nat))).1 (yZ (dG t rows).1 (.bo (m:Int) (iY e (dG t rows).2:Nat))).2 (λu hu=>hf u<|aX _ hu);rw[yJ,uW];let c:=wR _ (ys++zs) t _ h1;rw[←dA,←hy,←hz]at c;let d:=QS zs hk;rw[←hz]at d;rw[c];show(oN _<|.bo (m:Int) (iY e (dG t rows).2:Nat)).bind _=_;rw[d];show uW _ e (2*k) ts=_;rw[←b];exact f
end
structure pA(rows:List Rw):Prop where
 in_:∀(k:Nat)(i j:Int),rows[k]?=some (.bo i j)->(0<=i/\i<2*(k:Int))/\0<=j/\j<2*(k:Int)
 hd:rows[0]?=some .no
 few:∀k,rows[k]?=some .no->k=0
 nm:∀(k:Nat)(x:Str),rows[k]?=some (.nm x)->Nm x
theorem pA.pos(h:pA rows):1<=rows.length:=(aC.mp h.hd).1
theorem pA.one:pA [.no]:=by
 let o:∀(k:Nat)(r:Rw),([Rw.no]:List Rw)[k]?=some r->k=0/\r=.no:=λk r h=>by
  cases k with
  |zero=>simp at h;exact#[rfl,h.symm]
  |succ k=>simp at h
 exact#[λk i j h=>(by cases (o k _ h).2),rfl,λk h=>(o k _ h).1,λk x h=>(by cases (o k _ h).2)]
def i7(n:Nat):Rw->Prop
 | .no=>False
 | .nm x=>Nm x
 | .bo i j=>(0<=i/\i<2*(n:Int))/\0<=j/\j<2*(n:Int)
theorem pA.snoc(h:pA rows)(hr:i7 rows.length r):pA (rows++[r]):=by
 let o:∀(k:Nat)(q:Rw),(rows++[r])[k]?=some q->rows[k]?=some q\/(k=rows.length/\q=r):=λk q hq=>by
  by_cases c:k<rows.length
  ·rw[bE c]at hq;exact .inl hq
  ·have :=(aC.mp hq).1;rw[aK,cC]at this;let e:k=rows.length:=by lia
   subst e;rw[bI<|aG _]at hq;simp at hq;exact .inr #[rfl,hq.symm]
 refine#[λk i j hk=>?_,?_,λk hk=>?_,λk x hk=>?_]
 ·rcases o k _ hk with h1 |⟨rfl,rfl⟩
  ·exact h.in_ k i j h1
  ·exact hr
 ·rw[bE (by have :=h.pos;lia)];exact h.hd
 ·rcases o k _ hk with h1 |⟨rfl,rfl⟩
  ·exact h.few k h1
  ·exact hr.elim
 ·rcases o k _ hk with h1 |⟨rfl,rfl⟩
  ·exact h.nm k x h1
  ·exact hr
def Grw(rows:List Rw)(m:Nat)(p:List Rw×Nat):Prop:=pA p.1/\rows.length<=p.1.length/\p.1.length<=rows.length+m/\p.2<2*p.1.length
theorem NY{m:Nat}(h:n<2*m):pH n<2*m:=by unfold pH;lia
theorem YE{e:Bool}{m:Nat}(h:n<2*m):iY e n<2*m:=by
 cases e
 ·exact h
 ·exact NY h
theorem OX{k:Nat}(h:oN rows r=some k):k<rows.length:=by
 unfold oN at h;exact(eV.mp h).1
theorem tT(h:pA rows)(hr:i7 rows.length r):Grw rows 1 (yZ rows r):=by
 unfold yZ;split
 ·rename_i k hk
  have :=OX hk;exact#[h,aG _,nT _,by show 2*k<2*rows.length;lia]
 ·refine#[h.snoc hr,?_,?_,?_]
  ·simp
  ·simp
  ·show 2*rows.length<2*(rows++[r]).length;rw[aK,cC];lia
mutual
theorem uS:∀(t:Tm)(n:Nat)(rows:List Rw),fY n t->pA rows->Grw rows (2*wt t-1) (dG t rows)
 | .name x,n,rows,hf,h=>by
   rw[dG,wt];exact tT h (by unfold fY at hf;calc hf)
 | .node w ts,n,rows,hf,h=>by
   let a:∀t∈ts,∃m,fY m t:=λt ht=>by
    cases n with
    |zero=>unfold fY at hf;rw[hf.2]at ht;cases ht
    |succ n=>unfold fY at hf;exact#[n,hf.2 t ht]
   let hp:=h.pos;rw[dG,wt];split
   ·exact#[h,aG _,by show rows.length<=_;lia,by show 0<2*rows.length;lia]
   ·split
    ·exact#[h,aG _,by show rows.length<=_;lia,by show 1<2*rows.length;lia]
    ·split
     ·let⟨h1,h2,c,b⟩:=CI false ts rows a h;exact#[h1,h2,by show(jB false ts rows).1.length<=_;lia,NY b]
     ·let⟨h1,h2,c,b⟩:=CI (decide<|w="either") ts rows a h;exact#[h1,h2,by show(jB _ ts rows).1.length<=_;lia,YE b]
theorem CI(e:Bool):∀(ts:List Tm)(rows:List Rw),(∀t∈ts,∃m,fY m t)->pA rows->Grw rows (2*lI ts) (jB e ts rows)
 |[],rows,_,h=>by
  rw[jB];have :=h.pos;exact#[h,aG _,Nat.le_add_right _ _,by show 0<2*rows.length;lia]
 |t::ts,rows,hf,h=>by
  rw[jB,lI];let⟨m,hm⟩:=hf t aW;let⟨a,d,f,b⟩:=uS t m rows hm h;let⟨b1,b2,g,c⟩:=XQ e ts (dG t rows).1 (iY e (dG t rows).2) (λu hu=>hf u<|aX _ hu) a (YE b);let i:=DH t;exact#[b1,(),(),c]
theorem XQ(e:Bool):∀(ts:List Tm)(rows:List Rw)(m:Nat),(∀t∈ts,∃m,fY m t)->pA rows->m<2*rows.length->Grw rows (2*lI ts) (yJ e ts rows m)
 |[],rows,m,_,h,hm=>by
  rw[yJ];exact#[h,aG _,Nat.le_add_right _ _,hm]
 |t::ts,rows,m,hf,h,hm=>by
  rw[yJ,lI];let⟨n,hn⟩:=hf t aW;let⟨a,g,i,b⟩:=uS t n rows hn h;let j:=YE (e:=e) b;let⟨c,k,l,d⟩:=tT (r:=.bo (m:Int) (iY e (dG t rows).2:Nat)) a #[#[(),()],(),()];let⟨b1,b2,o,f⟩:=XQ e ts _ _ (λu hu=>hf u<|aX _ hu) c d;let p:=DH t;exact#[b1,(),(),f]
end
abbrev s_H:Stmt:=top 25
theorem sc_H:bP ["places","row"] ["places","row"] (zF s_H):=by rfl'
abbrev s_R:Stmt:=top 24
theorem sc_R:bP ["places","row","place"] ["places","row"] (zF s_R):=by rfl'
abbrev s_K:Stmt:=top 23
theorem sc_K:bP ["sheet"] ["sheet"] (zF s_K):=by rfl'
abbrev s_F:Stmt:=top 26
theorem sc_F:bP ["n","turn"] ["n","turn"] (zF s_F):=by rfl'
abbrev s_c:Stmt:=top 27
theorem j9:bP ["row_number","places","t"] ["row_number","places","t"] (zF s_c):=by rfl'
abbrev s_a:Stmt:=top 28
theorem sc_a:bP ["row_number","places","t","turn","whole","part","last"] ["row_number","places","t"] (zF s_a):=by rfl'
theorem TJ{A:Around}{k:Nat}(hr:fV k A):A.units+2<cLine:=fA (Nat.add_le_add_left (by decide:2<=64) _) hr.units
theorem ZO(e:Bool)(n:Nat):Builtin.bitXor (n:Int) (if e=true then 1 else 0)=((iY e n:Nat):Int):=by
 cases e with
 |false=>exact PyProof.Rows.bitXor_zero _
 |true=>
  rw[aO rfl,tF];unfold rO iY pH;rw[aO rfl];lia
noncomputable def jU:Rw->List eR
 | .no=>[.inr "none"]
 | .nm x=>[.inr "name",.inr x]
 | .bo i j=>[.inr "both",.inl i,.inl j]
theorem BN{q:Rw}(h:jU r=jU q):r=q:=by
 cases r<;>cases q<;>simp[jU]at h⊢ <;>first |exact h |exact h.elim
theorem UK(r q:Rw):iS (sE r) (sE q)=true↔r=q:=by
 constructor
 ·intro h;cases r<;>cases q<;>simp[sE,iS,vH]at h⊢ <;>first |exact h |exact h.elim |exact absurd h.1 () |exact absurd h () |skip
 ·rintro rfl;exact yT _
def sI:Nat->Tm->Prop
 |0,_=>False
 |n+1,t=>fY n t
theorem sI.node{wd:Str}(h:sI (n+1) (.node wd ts)):Sh wd ts.length/\∀t∈ts,sI n t:=by
 let h:fY n (.node wd ts):=h;cases n with
 |zero=>unfold fY at h;exact#[h.1,λt ht=>by rw[h.2]at ht;cases ht]
 |succ n=>unfold fY at h;exact h
theorem UI(a b:Str):iS (.str a) (.str b)=decide (a=b):=by
 rw[bZ,bS];simp[iS]
theorem IW(x y:V)(xs:List V):uQ (x::y::xs) (some 2) none=xs:=by
 unfold uQ;let e:HT.sIx (x::y::xs).length 0 (some 2)=2:=by
  unfold HT.sIx;simp only[bC];rw[aH ()];lia
 rw[e,HT.sIx_none,aR (by simp)];rfl
noncomputable def rC:List Rw->List Addr->Nat->List XE
 |r::rows,a::as,k=>(jU r,a,V.int (k:Nat))::rC rows as (k+1)
 |_,_,_=>[]
theorem wM:∀(rows:List Rw)(as:List Addr)(k:Nat),as.length=rows.length->(rC rows as k).length=rows.length
 |[],[],_,_=>rfl
 |[],_::_,_,h=>by cases h
 |_::_,[],_,h=>by cases h
 |r::rows,a::as,k,h=>cQ (· +1)<|wM rows as (k+1)<|mC h
theorem HV:∀(rows:List Rw)(as:List Addr)(k:Nat)(x:XE),x∈rC rows as k->∃(i:Nat)(r:Rw)(a:Addr),rows[i]?=some r/\as[i]?=some a/\x.1=jU r/\x.2.1=a
 |[],_,_,_,h=>by unfold rC at h;cases h
 |_::_,[],_,_,h=>by unfold rC at h;cases h
 |r::rows,a::as,k,x,h=>by
  unfold rC at h;rcases bJ.mp h with rfl |h
  ·exact#[0,r,a,rfl,rfl,rfl,rfl]
  ·let⟨i,b,c,h1,h2,d⟩:=HV rows as (k+1) x h;exact#[i+1,b,c,h1,h2,d]
theorem wL(r:Rw):∀(rows:List Rw)(as:List Addr)(k:Nat),as.length=rows.length->kF (rC rows as k) (jU r)=(oN rows r).map λi=>V.int ((k+i:Nat):Int)
 |[],[],_,_=>rfl
 |[],_::_,_,h=>by cases h
 |_::_,[],_,h=>by cases h
 |q::rows,a::as,k,h=>by
  let b:=wL r rows as (k+1)<|mC h;unfold kF oN at b⊢;rw[rC,eN,List.findIdx?_cons];by_cases c:q=r
  ·subst c;rw[cP rfl,yT];rfl
  ·rw[cJ λz=>c<|BN z,dH.mpr λz=>c<|(UK q r).mp z];show Option.map _ (List.find? _<|rC rows as<|k+1)=_;rw[b];cases List.findIdx? (λx=>iS (sE x)<|sE r) rows with
   |none=>rfl
   |some i=>show some (V.int ((k+1+i:Nat):Int))=some (V.int ((k+(i+1):Nat):Int));rw[show k+1+i=k+(i+1) by lia]
theorem AA(r:Rw)(b:Addr):∀(rows:List Rw)(as:List Addr)(k:Nat),as.length=rows.length->rC (rows++[r]) (as++[b]) k=rC rows as k++[(jU r,b,V.int ((k+rows.length:Nat):Int))]
 |[],[],k,_=>rfl
 |[],_::_,_,h=>by cases h
 |_::_,[],_,h=>by cases h
 |q::rows,a::as,k,h=>by
  show(jU q,a,V.int (k:Nat))::rC (rows++[r]) (as++[b]) (k+1)=_;rw[AA r b rows as (k+1)<|mC h,show k+1+rows.length=k+(q::rows).length by rw[bC];lia];rfl
theorem AB:∀(rows:List Rw)(as:List Addr)(k:Nat),as.length=rows.length->((rC rows as k).map λx=>V.ref x.2.1)=as.map V.ref
 |[],[],_,_=>rfl
 |[],_::_,_,h=>by cases h
 |_::_,[],_,h=>by cases h
 |q::rows,a::as,k,h=>cQ (V.ref a:: ·)<|AB rows as (k+1)<|mC h
structure Px(P:Program)(w:World)(K:W.Frag)(H J:Hp)(pa:Addr)(rows:List Rw)(as:List Addr):Prop where
 eq:H=upd J pa (CS P w pa<|rC rows as 0)
 no:J pa=none
 len:as.length=rows.length
 few:rows.length<=40
 lo:(pa==sysModules)=false
 keys:∀(i:Nat)(r:Rw)(a:Addr),rows[i]?=some r->as[i]?=some a->Tw K J a ((jU r).map kV)
section
variable {pa:Addr} {as:List Addr}
theorem Px.at(h:Px P w K H J pa rows as):H pa=some (CS P w pa<|rC rows as 0):=by rw[h.eq];exact zA
theorem Px.sub(h:Px P w K H J pa rows as):aZ J H:=by rw[h.eq];exact zB h.no _
theorem Px.dx(h:Px P w K H J pa rows as):rP P w K H pa (rC rows as 0):=by
 calc#[h.at,by rw[wM _ _ _ h.len];have :=h.few;lia,h.lo,λx hx=>?_];let⟨i,r,a,h1,h2,b,c⟩:=HV rows as 0 x hx;rw[b,c];exact((h.keys i r a h1 h2).same h.sub).sq
theorem Px.free(h:Px P w K H J pa rows as)(hp:H p=none):J p=none:=h.sub.free hp
theorem Px.ext(h:Px P w K H J pa rows as)(e:aZ H H'):∃J',Px P w K H' J' pa rows as/\aZ J J':=by
 let sJ:aZ J (λb=>if b=pa then none else H' b):=λb o hb=>by
  let nF:b≠pa:=λz=>by rw[z,h.no]at hb;cases hb
  show(if b=pa then none else H' b)=some o;rw[aH nF];exact e _ _<|h.sub _ _ hb
 refine#[λb=>if b=pa then none else H' b,#[?_,aO rfl,h.len,h.few,h.lo,λi r a h1 h2=>(h.keys i r a h1 h2).same sJ],sJ]
 funext b
 by_cases hb:b=pa
 ·subst hb;rw[zA];exact e _ _ h.at
 ·rw[zG hb];exact(aH hb).symm
theorem Px.tup{p:Addr}{vs:List V}(h:Px P w K H J pa rows as)(hp:H p=some (.tup vs)):J p=some (.tup vs):=by
 let hn:p≠pa:=λz=>by rw[z,h.at]at hp;cases hp
 rw[h.eq,zG hn]at hp;exact hp
theorem Px.new(h:Px P w K H J pa rows as)(hp:H p=none)(o:HO):Px P w K (upd H p o) (upd J p o) pa rows as:=by
 let nF:p≠pa:=λz=>by rw[z,h.at]at hp;cases hp
 calc#[?_,by rw[zG<|bX nF];exact h.no,h.len,h.few,h.lo,λi r a h1 h2=>(h.keys i r a h1 h2).same (zB (h.free hp) o)];rw[h.eq]
 funext b
 by_cases h1:b=p
 ·subst h1;rw[zA,zG nF,zA]
 ·rw[zG h1];by_cases h2:b=pa
  ·subst h2;rw[zA,zA]
  ·rw[zG h2,zG h2,zG h1]
end
theorem HJ(r:Rw):(jU r).map kV=rwV r:=by cases r<;>rfl
def NB(gr:Bool)(rows fin:List Rw):Prop:=gr=false->fin=rows
theorem NB.mid{gr:Bool}{mid fin:List Rw}(h1:∃xs,mid=rows++xs)(h2:∃ys,fin=mid++ys)(h:NB gr rows fin):NB gr rows mid/\NB gr mid fin:=by
 let⟨xs,rfl⟩:=h1;let⟨ys,rfl⟩:=h2;refine#[λa=>?_,λa=>?_]
 all_goals
  have :=cQ List.length<|h a;rw[aK,aK]at this
 ·have :xs=[]:=fM.mp ();rw[this,cE]
 ·have :ys=[]:=fM.mp ();rw[this,cE]
def Fo(P:Program)(w:World)(K:W.Frag)(CU:Addr)(gr:Bool)(rows:List Rw)(J:Hp)(pa:Addr)(p:List Rw×Nat)(Q:VK)(E:XK):Prop:=
 NB gr rows p.1/\(p.1.length<=40->∀(H' J':Hp)(lC:List Addr),aZ J J'->Px P w K H' J' pa p.1 lC->Q (.int (p.2:Nat)) H')/\(40<p.1.length->∀H',aZ J H'->E (.ref CU) none H')
theorem wT{a b:List Rw}(h:∃xs,b=a++xs)(l:40<a.length):40<b.length:=by
 let⟨xs,rfl⟩:=h;rw[aK];lia
inductive KW (P:Program) (w:World) (K:W.Frag) (CU:Addr) (gr:Bool) (vs:List V) (H:Hp) (Q:VK) (E:XK):Prop
 |mk (pa b:Addr) (J:Hp) (rows:List Rw) (as:List Addr) (r:Rw) (_:vs=[.ref pa,.ref b]) (_:Px P w K H J pa rows as) (_:J b=some (.tup<|(jU r).map kV)) (_:Fo P w K CU gr rows J pa (yZ rows r) Q E)
inductive OL (vs:List V) (H:Hp) (Q:VK) (E:XK):Prop
 |mk (n:Nat) (e:Bool) (_:vs=[.int n,.int<|if e then 1 else 0]) (_:Q (.int (iY e n:Nat)) H)
inductive DR (P:Program) (w:World) (K:W.Frag) (CU:Addr) (gr:Bool) (ff:Addr) (n:Nat) (vs:List V) (H:Hp) (Q:VK) (E:XK):Prop
 |mk (pa:Addr) (v:V) (J:Hp) (rows:List Rw) (as:List Addr) (t:Tm) (_:vs=[.ref ff,.ref pa,v]) (_:Px P w K H J pa rows as) (_:hU J t v) (_:sI n t) (_:Fo P w K CU gr rows J pa (dG t rows) Q E)
inductive spNb (P:Program) (w:World) (K:W.Frag) (ff:Addr) (n:Nat) (vs:List V) (H:Hp) (Q:VK) (E:XK):Prop
 |mk (pa:Addr) (v:V) (J:Hp) (rows:List Rw) (as:List Addr) (t:Tm) (_:vs=[.ref ff,.ref pa,v]) (_:Px P w K H J pa rows as) (_:hU J t v) (_:sI n t) (_:(dG t rows).1=rows) (_:∀(H' J':Hp)(lC:List Addr),aZ J J'->Px P w K H' J' pa rows lC->Q (.int ((dG t rows).2:Nat)) H')
inductive spJn (P:Program) (w:World) (K:W.Frag) (CU:Addr) (gr:Bool) (ff:Addr) (n:Nat) (vs:List V) (H:Hp) (Q:VK) (E:XK):Prop
 |mk (pa ta:Addr) (us:List V) (J:Hp) (rows:List Rw) (as:List Addr) (e:Bool) (ts:List Tm) (_:vs=[.ref ff,.ref pa,.ref ta]) (_:Px P w K H J pa rows as) (_:J ta=some (.tup (.str (if e then"either" else"both")::us))) (_:fF J ts us) (_:(∀t∈ts,sI n t)) (_:ts≠[]) (_:Fo P w K CU gr rows J pa ((jB e ts rows).1,iY e (jB e ts rows).2) Q E)
section
variable {ff:Addr} {k:Nat} {gr:Bool} {C_TooMuch:Addr} {bm:List Value} {bn nid iid:String}
theorem LQ(bi:Bi mg)(F:fR K "turned" "turned" s_F f fd):cW P w K mg base fS 1 f fd ["n","turn"] OL:=by
 refine F.okz sc_F λeP A outer s H vs Q E hr h=>?_
 let⟨n,e,rfl,q⟩:=h;calc#[_,have nd:=sc_F.nd;zH<|zS<|wO (yG ER #[] vV<|yP _) vV #[],?_];dsimp![];rw[aH (λz=>by cases z),ZO];exact q
theorem LR(O_TooMuch:PyProof.Rows.OwnCls "TooMuch" C_TooMuch bm nid mg base)(FB_TooMuch:ExcBaseFacts bn nid iid bm)(mQ:mg "TooMuch"=some (.ref C_TooMuch))(g_MOST_ROWS:Gc mg "MOST_ROWS" (.int 40))(bi:Bi mg)(F:fR K "put_in" "put_in" s_H f fd):cW P w K mg base (pU P w) 1 f fd ["places","row"] (KW P w K C_TooMuch true):=by
 refine F.okX sc_H (λvs H Q E h=>?_) λeP A outer s H vs Q E hr h=>?_
 ·let⟨pa,b,J,rows,as,r,rfl,_⟩:=h;rfl
 let⟨pa,b,J,rows,as,r,rfl,d,hb,n,q,l⟩:=h;calc#[_,have nd:=sc_H.nd;zC (yD (yG (LN<|xY hr) #[] #[] (by with_unfolding_all rfl)) (zC (yD (yG ID (zM JW rfl bi.len UU #[]) (kY g_MOST_ROWS rfl)<|yP _) (zH<|PJ O_TooMuch FB_TooMuch rfl mQ #[]) zO)<|zH<|PL (xY hr) #[] #[] (zM JW rfl bi.len UU #[]) rfl) zO)<|zH<|zS<|jZ EQ zW<|RA (xY hr) #[] #[] λ_ _=>rfl,?_];refine zD λN o=>?_
 dsimp![rNiX];let j:=d.few;calc#[_,d.dx,jU r,cV.of<|d.sub _ _ hb,?_];rw[wL r rows as 0 d.len];let fin:∀(lB:List Rw)(lC:List Addr)(G:Hp)(k:Nat),Px P w K G J pa lB lC->oN lB r=some k->Q (.int ((2*k:Nat):Int)) G->N [some<|V.ref pa,some<|V.ref b] G:=λlB lC G k e hk q'=>o _ _ (by
  dsimp![tDGX];calc#[_,e.dx,jU r,cV.of<|e.sub _ _ hb,V.int ((0+k:Nat):Int),by rw[wL r lB lC 0 e.len,hk];rfl,?_];calc#[_,rfl,.inl #[(),()],?_];rw[show(2:Int)*((0+k:Nat):Int)=((2*k:Nat):Int) by lia];calc q')
 unfold yZ at q l;cases c:oN rows r with
 |some k=>
  rw[c]at q l;rw[aH<|show¬((Option.map (λi:Nat=>V.int ((0+i:Nat):Int))<|some k).isSome=false)from λz=>by cases z];exact fin rows as H k d c<|q j H J as (aZ.refl _) d
 |none=>
  rw[c]at q l;rw[aO<|show(Option.map (λi:Nat=>V.int ((0+i:Nat):Int)) none).isSome=false from rfl];calc#[_,d.dx,rfl,?_];rw[wM _ _ _ d.len];by_cases p:rows.length=40
  ·rw[aO ()];dsimp![OD];exact#[zI (),l (by show 40<(rows++[r]).length;rw[aK,cC];lia) H d.sub]
  ·rw[aH ()];dsimp![sDPX];calc#[_,d.dx,_,d.dx,jU r,cV.of<|d.sub _ _ hb,by rw[wL r rows as 0 d.len,c];rfl,?_];let g:Px P w K (upd H pa<|CS P w pa<|rC rows as 0++[(jU r,b,V.int ((rC rows as 0).length:Nat))]) J pa (rows++[r]) (as++[b]):=by
    refine#[?_,d.no,by rw[aK,aK,d.len];rfl,by rw[aK,cC];lia,d.lo,λi q a h1 h2=>?_]
    ·rw[AA r b rows as 0 d.len,wM _ _ _ d.len,pY,d.eq,QG]
    ·by_cases hi:i<rows.length
     ·rw[bE hi]at h1;rw[bE (by rw[d.len];calc hi)]at h2;exact d.keys i q a h1 h2
     ·let m:=(aC.mp h1).1;rw[aK,cC]at m;let t:i=rows.length:=by lia
      subst t;rw[bI<|aG _,gO]at h1;rw[bI (by rw[d.len];calc aG _),d.len,gO]at h2;cases h1;cases h2;exact .inl hb
   exact fin _ _ _ _ g (YJ c)<|q g.few _ J _ (aZ.refl _) g
theorem RS(bi:Bi mg)(F:fR K "found" "found" s_R f fd):cW P w K mg base fS 1 f fd ["places","row"] (KW P w K CU false):=by
 refine F.okz sc_R λeP A outer s H vs Q E hr h=>?_
 let⟨pa,b,J,rows,as,r,rfl,d,hb,a,q,g⟩:=h;calc#[_,have nd:=sc_R.nd;zC (xI 2 nd<|bv (xY hr) #[] #[] #[rfl,rfl,rfl,rfl])<|zH<|zS<|wO (yG ER #[] vV<|yP _) vV #[],?_];refine zD λN e=>?_
 dsimp![OE];calc#[_,d.dx,_,d.dx,jU r,cV.of<|d.sub _ _ hb,e _ _ ?_];clear e;rw[wL r rows as 0 d.len];dsimp![];unfold yZ at q a;cases c:oN rows r with
 |none=>
  rw[c]at a;have :=cQ List.length<|a rfl;rw[aK,cC]at this;lia
 |some k=>
  rw[c]at q;rw[aH λz=>by cases z];calc#[_,rfl,.inl #[(),()],?_];rw[show(2:Int)*((0+k:Nat):Int)=((2*k:Nat):Int) by lia];exact q d.few H J as (aZ.refl _) d
end
section
variable {ff:Addr} {k:Nat} {gr:Bool}
theorem LX(eU:rX P w K mg base 1 ff ["places","row"] (KW P w K CU gr))(h_F:gD P w K mg base 1 "turned" ["n","turn"] OL)(h_c:oE P w K mg base (k+1) "number_by" ["row_number","places","t"] (DR P w K CU gr ff n))(F:fR K "joined_number" "joined_number" s_a f fd):cW P w K mg base (pU P w) (k+2) f fd ["row_number","places","t"] (spJn P w K CU gr ff n):=by
 refine F.okX sc_a (λvs H Q E h=>?_) λeP A outer s H vs Q E hr h=>?_
 ·let⟨pa,ta,us,J,rows,as,e,ts,rfl,_⟩:=h;rfl
 let⟨pa,ta,us,J,rows,as,e,ts,rfl,px,R,hts,hf,nF,S,q,O⟩:=h;calc#[_,have nd:=sc_a.nd;zC (xI 3 nd<|wO (yG (kM hr.units) #[] uH<|yP _) zW zW)<|zC (xI 4 nd<|zQ h_F hr.m rfl<|zE (qY h_c hr.m rfl #[]) #[])<|zC (yC PassesOwn.leaving rfl (kI<|jE a7 #[] (jQ zW) qM) #[]<|zC (xI 6 nd<|zQ h_F hr.m rfl<|zE (qY h_c hr.m rfl #[]) #[])<|zH<|xI 4 nd<|JJ (i:=0) eU hr.m #[]) #[],?_];obtain⟨t0,a,rfl⟩:∃t0 a,ts=t0::a:=by
  cases ts with
  |nil=>exact absurd rfl nF
  |cons t0 a=>exact#[t0,a,rfl]
 let⟨u0,us',rfl,mO,iO⟩:=hts;rw[jB]at q O S;let⟨fi1,o⟩:=S.mid (kC t0 rows)<|xR e a _ _;let hul:us'.length=a.length:=by have :=bK.length iO;rwa[aD]at this
 let d:=px.sub _ _ R;refine zD λN g=>?_
 dsimp![bh];let cont:N [some<|V.ref ff,some<|V.ref pa,some<|V.ref ta,some (V.int<|if e then 1 else 0),none,none,none] H:=g _ _ (by
  clear g;refine zD λN g=>?_
  dsimp![];calc#[_,cV.of d,_,zU (j:=1) rfl,pa,u0,J,rows,as,t0,rfl,px,mO,hf t0 aW,fi1,λr H1 J1 pP s1 u=>?_,λr H' s'=>O (wT (xR e a _ _) r) H' s'];calc#[_,e,rfl,g _ _ ?_];clear g;generalize (dG t0 rows).1=rows1 at u q O o r;generalize iY e (dG t0 rows).2=m1 at q O o⊢;refine zP (λσ G=>∃(J':Hp)(lC:List Addr)(v y:Option V),aZ J J'/\Px P w K G J' pa (yJ e a rows1 m1).1 lC/\σ=[some<|V.ref ff,some<|V.ref pa,some<|V.ref ta,some (V.int<|if e then 1 else 0),some<|V.int ((yJ e a rows1 m1).2:Nat),v,y]) (λN g=>?_) λσ G h=>?_
  ·dsimp![rSlG];calc#[_,(s1.trans u.sub) _ _ R,λp H2 s2 kp=>?_];rw[IW]at kp;let⟨J2,T,U⟩:=u.ext s2;let kp2:=T.tup kp;calc#[#[_,cV.of kp],?_];refine TW (xs:=us') (λi σ G=>∃(J':Hp)(lC:List Addr)(lB:List Rw)(c:Nat)(v y:Option V),aZ J2 J'/\Px P w K G J' pa lB lC/\yJ e (a.drop i) lB c=yJ e a rows1 m1/\NB gr lB (yJ e a rows1 m1).1/\σ=[some<|V.ref ff,some<|V.ref pa,some<|V.ref ta,some (V.int<|if e then 1 else 0),some<|V.int (c:Nat),v,y]) #[J2,pP,rows1,m1,_,_,aZ.refl _,T,by rw[rR],o,rfl] (λi σ G _ h=>by let⟨_,_,_,_,_,_,sg,pg,_⟩:=h;calc cV.of<|pg.sub _ _<|sg _ _ kp2) (λi x σ G hx h M hM=>?_) λσ G h=>?_
   ·let⟨J3,z,lA,c,v,y,s3,B,b,W,rfl⟩:=h;let⟨t,X,hx'⟩:=xJ (f:=tL) iO hx;let⟨lY,hie⟩:=aC.mp X;rw[iU lY,hie,yJ]at b;let C:=W;rw[←b]at C;let⟨fi5,Y⟩:=C.mid (mid:=(dG t lA).1) (kC t lA) (by
     let⟨xs,hx⟩:=qW (dG t lA).1 (.bo (c:Int) (iY e (dG t lA).2:Nat));let⟨ys,hy⟩:=xR e (a.drop<|i+1) (yZ (dG t lA).1 (.bo (c:Int) (iY e (dG t lA).2:Nat))).1 (yZ (dG t lA).1 (.bo (c:Int) (iY e (dG t lA).2:Nat))).2;calc#[xs++ys,by rw[←dA,←hx];calc hy])
    let⟨D,l⟩:=Y.mid (qW _ _)<|xR e (a.drop<|i+1) (yZ (dG t lA).1 (.bo (c:Int) (iY e (dG t lA).2:Nat))).1 (yZ (dG t lA).1 (.bo (c:Int) (iY e (dG t lA).2:Nat))).2;rw[b]at l;clear C Y;let sA:=s1.trans<|U.trans s3;refine zD λN g=>?_
    dsimp![];calc#[pa,x,J3,lA,z,t,rfl,B,eE.same sA hx',hf t<|aX _<|aP X,fi5,λI H4 J4 as4 s4 L=>?_,λI H' s'=>O (by rw[←b];calc wT (xR e _ _ _)<|wT (qW _ _) I) H'<|sA.trans s'];calc#[_,e,rfl,g _ _ ?_];clear g;generalize (dG t lA).1=rows4 at L b D l I;generalize iY e (dG t lA).2=Z at b D l⊢;dsimp![QK];calc#[zI (),λp2 mK=>?_];let px5:=L.new mK<|.tup [V.str "both",V.int (c:Int),V.int (Z:Int)];let s5:=zB (L.free mK)<|.tup [V.str "both",V.int (c:Int),V.int (Z:Int)];let k5:upd J4 p2 (.tup [V.str "both",V.int (c:Int),V.int (Z:Int)]) p2=some (.tup<|(jU<|.bo (c:Int) (Z:Int)).map kV):=zA;calc#[pa,p2,_,rows4,as4,.bo (c:Int) (Z:Int),rfl,px5,k5,D,λh42 H6 J6 as6 s6 px6=>?_,λh42 H' s'=>O (by rw[←b];calc wT (xR e _ _ _) h42) H'<|sA.trans<|s4.trans<|s5.trans s'];exact hM _ _ #[J6,as6,_,_,_,_,s3.trans<|s4.trans<|s5.trans s6,px6,b,l,rfl]
   ·let⟨J3,z,lA,c,v,y,s3,B,b,W,rfl⟩:=h;rw[hul,List.drop_length,yJ]at b;refine g _ _ #[J3,z,v,y,s1.trans<|U.trans s3,?_,?_]
    ·rw[←b];exact B
    ·rw[←b]
  let⟨J',lC,v,y,sJ,px',rfl⟩:=h;dsimp![];calc#[_,e,rfl,q px'.few _ J' lC sJ px'])
 cases e with
 |true=>exact#[_,cV.of d,_,gG,0,.str "either",rfl,.str "either",rfl,trivial,(),by rw[yT,aO rfl];calc cont]
 |false=>exact#[_,cV.of d,_,gG,0,.str "both",rfl,.str "either",rfl,trivial,(),by rw[show iS (.str "both") (.str "either")=false from by simp[iS];decide,aH ()];calc cont]
theorem LV(eU:rX P w K mg base 1 ff ["places","row"] (KW P w K CU gr))(h_F:gD P w K mg base 1 "turned" ["n","turn"] OL)(h_c:oE P w K mg base (k+2) "number_by" ["row_number","places","t"] (DR P w K CU gr ff n))(h_a:oE P w K mg base (k+2) "joined_number" ["row_number","places","t"] (spJn P w K CU gr ff n))(F:fR K "number_by" "number_by" s_c f fd):cW P w K mg base (pU P w) (k+3) f fd ["row_number","places","t"] (DR P w K CU gr ff<|n+1):=by
 refine F.okX j9 (λvs H Q E h=>?_) λeP A outer s H vs Q E hr h=>?_
 ·let⟨pa,v,J,rows,as,t,rfl,_⟩:=h;rfl
 let⟨pa,v,J,rows,as,t,rfl,l,U,hf,b,q,o⟩:=h;calc#[_,have nd:=j9.nd;zC (yD (yG (kM hr.units) #[] uH<|yP _) #[] zO)<|zC (yD (yG (kM hr.units) #[] uH<|yP _) #[] zO)<|zC (yD (yG (kM hr.units) #[] uH<|yP _) (zH<|zS<|JJ (i:=0) eU hr.m #[]) zO)<|zC (yD (yG (kM hr.units) #[] uH<|yP _) (zH<|zS<|zQ h_F hr.m rfl<|zE (qY h_c hr.m rfl #[]) #[]) zO)<|zH<|zS<|qY h_a hr.m rfl #[],?_];cases t with
 |name x=>
  let⟨a,vs,rfl,ha,L,Z,rfl,h1,X,Y,rfl,h2,M⟩:=U;let h1:L=.str "name":=h1;let h2:X=.str x:=h2;let M:Y=[]:=M;subst h1 h2 M;replace ha:=l.sub _ _ ha;dsimp![bh,QK];rw[dG]at q o b;calc#[_,cV.of ha,_,gG,0,.str "name",rfl,.str "none",rfl,trivial,(),?_];rw[UI,aH ()];calc#[_,cV.of ha,_,gG,0,.str "name",rfl,.str "all",rfl,trivial,(),?_];rw[UI,aH ()];calc#[_,cV.of ha,_,gG,0,.str "name",rfl,.str "name",rfl,trivial,(),?_];rw[UI,aO ()];calc#[_,cV.of ha,_,mV,zI (),λp2 mK=>?_];let N:=l.new mK<|.tup [V.str "name",V.str x];let W:=zB (l.free mK)<|.tup [V.str "name",V.str x];let k5:upd J p2 (.tup [V.str "name",V.str x]) p2=some (.tup<|(jU<|.nm x).map kV):=zA;exact#[pa,p2,_,rows,as,.nm x,rfl,N,k5,b,λg O R p S y=>q g O R p (W.trans S) y,λg H' s'=>o g H'<|W.trans s']
 |node wd ts=>
  let⟨a,vs,rfl,ha,L,us,rfl,h1,iO⟩:=U;let h1:L=.str wd:=h1;subst h1;let⟨hs,C⟩:=hf.node;let D:=l.sub _ _ ha;let step:∀{c:Str}{A B:Prop},(wd=c->A)->(wd≠c->B)->∃x,cV K H a x/\∃x_1,pO x 0=some x_1/\∃n_1 d,eE H d x_1/\∃x,eE H x (V.str c)/\jY (n_1+1) d/\n_1<=60/\if iS d x=true then A else B:=λ{c A B} h1 h2=>by
   calc#[_,cV.of D,_,gG,0,.str wd,rfl,.str c,rfl,trivial,(),?_];rw[UI];by_cases e:wd=c
   ·rw[aO<|cP e];exact h1 e
   ·rw[aH (by simp[e])];exact h2 e
  dsimp![bh,QK];rw[dG]at q o b;refine step (λe=>?_) λG=>step (λe=>?_) λI=>step (λe=>?_) λe3=>step (λe=>?_) λT=>?_
  ·rw[aO e]at q;exact q l.few H J as (aZ.refl _) l
  ·rw[aH G,aO e]at q;exact q l.few H J as (aZ.refl _) l
  ·subst e;rcases hs with h |h |h |h |h<;>exact absurd h.1 ()
  ·subst e;rw[aH G,aH I,aO rfl]at q o b;let hl:ts.length=1:=by
    rcases hs with h |h |h |h |h
    ·exact absurd h.1 ()
    ·exact absurd h.1 ()
    ·exact h.2
    ·exact absurd h.1 ()
    ·exact absurd h.1 ()
   obtain⟨t,rfl⟩:∃t,ts=[t]:=by
    cases ts with
    |nil=>simp at hl
    |cons t r=>
     cases r with
     |nil=>exact#[t,rfl]
     |cons _ _=>simp at hl
   let⟨u,r,rfl,hu,_⟩:=iO;rw[jB,yJ]at q o b;exact#[_,cV.of D,_,zU (j:=1) rfl,pa,u,J,rows,as,t,rfl,l,hu,C t aW,b,λg O R p S y=>#[_,true,rfl,q g O R p S y],o]
  ·rw[aH G,aH I,aH T]at q o b;refine#[pa,a,us,J,rows,as,decide<|wd="either",ts,rfl,l,?_,(by rw[YC]at iO;calc iO),C,λz=>?_,b,q,o]
   ·rw[ha];rcases hs with h |h |h |h |h
    ·exact absurd h.1 G
    ·exact absurd h.1 I
    ·exact absurd h.1 T
    ·rw[h.1];rfl
    ·rw[h.1];rfl
   ·subst z;rcases hs with h |h |h |h |h
    ·exact absurd h.1 G
    ·exact absurd h.1 I
    ·exact absurd h.1 T
    ·exact absurd h.2 ()
    ·exact absurd h.2 ()
theorem EX(F:fR K "number_by" "number_by" s_c f fd)(eU:rX P w K mg base 1 ff ["places","row"] (KW P w K CU gr))(h_F:gD P w K mg base 1 "turned" ["n","turn"] OL):cW P w K mg base (pU P w) 1 f fd ["row_number","places","t"] (DR P w K CU gr ff 0):=by
 refine F.okX j9 (λvs H Q E h=>?_) λeP A outer s H vs Q E hr h=>?_
 ·let⟨pa,v,J,rows,as,t,rfl,_⟩:=h;rfl
 ·let⟨pa,v,J,rows,as,t,rfl,a,b,hf,_⟩:=h;exact hf.elim
theorem vZ{g:Addr}{gd:FuncData}(eU:rX P w K mg base 1 ff ["places","row"] (KW P w K CU gr))(h_F:gD P w K mg base 1 "turned" ["n","turn"] OL)(F:fR K "number_by" "number_by" s_c f fd)(b:Binds K fd ["row_number","places","t"] [])(m:mg "number_by"=some (.ref f))(G:fR K "joined_number" "joined_number" s_a g gd)(bg:Binds K gd ["row_number","places","t"] [])(mgg:mg "joined_number"=some (.ref g)):∀n,oE P w K mg base (2*n+2) "number_by" ["row_number","places","t"]<|DR P w K CU gr ff n
 |0=>(uN F (EX F eU h_F) b m).mono ()
 |n+1=>by
  let a:=vZ eU h_F F b m G bg mgg n;let c:=uN G (LX (k:=2*n+1) eU h_F a G) bg mgg;exact uN F (LV (k:=2*n+1) eU h_F (a.mono ()) c F) b m
end
theorem cW.loud{k:Nat}{ps:List Str}{sp:Sp}(F:cW P w K mg base fS k f fd ps sp):cW P w K mg base (pU P w) k f fd ps sp:=
 #[F.len,λA outer s H args us vs Q E hr a hb b h=>nO (F.run A outer s H args us vs Q E hr a hb b h) λr s' hr=>by
  cases r with
  |error e=>exact hr.elim
  |ok c=>cases c<;>calc hr]
theorem oE.found{k:Nat}{ff:Addr}(h:oE P w K mg base k "number_by" ["row_number","places","t"] (DR P w K CU false ff n)):gD P w K mg base k "number_by" ["row_number","places","t"] (spNb P w K ff n):=by
 let⟨g,fd,F,b,kp,m⟩:=h.ex;let G:=F.calm;refine#[g,fd,#[λvs H Q E h=>?_,λA outer s H args us vs Q E hr c hb d h=>G.run A outer s H args us vs Q E hr c hb d ?_],b,kp,m]
 ·let⟨pa,v,J,rows,as,t,rfl,_⟩:=h;rfl
 ·let⟨pa,v,J,rows,as,t,rfl,a,h1,h2,e,q⟩:=h;exact#[pa,v,J,rows,as,t,rfl,a,h1,h2,λ_=>e,λ_=>by rw[e];exact q,λl=>absurd l (by rw[e];have :=a.few;lia)]
abbrev s_n:Stmt:=top 29
theorem sc_n:bP ["terms","places","t"] ["terms"] (zF s_n):=by rfl'
noncomputable def yQ:List Tm->List Rw->List Rw
 |[],rows=>rows
 |t::ts,rows=>yQ ts (dG t rows).1
theorem XO:∀(ts:List Tm)(rows:List Rw),∃xs,yQ ts rows=rows++xs
 |[],rows=>#[[],(cE _).symm]
 |t::ts,rows=>by
  let⟨xs,hx⟩:=kC t rows;let⟨ys,hy⟩:=XO ts (dG t rows).1;exact#[xs++ys,by rw[yQ,hy,hx,dA]]
inductive spSo (K:W.Frag) (CU:Addr) (vs:List V) (H:Hp) (Q:VK) (E:XK):Prop
 |mk (ta:Addr) (us:List V) (ts:List Tm) (_:vs=[.ref ta]) (_:H ta=some (.lst us)) (_:fF H ts us) (_:(∀t∈ts,sI 21 t)) (_:(40<(yQ ts [.no]).length->∀H',aZ H H'->E (.ref CU) none H')) (_:((yQ ts [.no]).length<=40->∀(p:Addr)(ws:List V)(H':Hp),aZ H H'->H' p=some (.lst ws)->fX K H' (yQ ts [.no]) ws->Q (.ref p) H'))
theorem OS{K:W.Frag}{H:Hp}:∀(rows:List Rw)(as:List Addr),as.length=rows.length->(∀(i:Nat)(r:Rw)(a:Addr),rows[i]?=some r->as[i]?=some a->Tw K H a ((jU r).map kV))->fX K H rows (as.map V.ref)
 |[],[],_,_=>rfl
 |[],_::_,h,_=>by cases h
 |_::_,[],h,_=>by cases h
 |r::rows,a::as,h,hk=>#[_,_,rfl,#[a,rfl,by rw[←HJ];calc hk 0 r a rfl rfl],OS rows as (mC h) λi b c h1 h2=>hk (i+1) b c h1 h2]
section
variable {ff aN:Addr}
theorem AQ(g_NONE_ROW:Gc mg "NONE_ROW" (.ref aN))(hNo:∀H,Tw K H aN [.str "none"])(mf_put_in:mg "put_in"=some (.ref ff))(bi:Bi mg)(h_c:oE P w K mg base 44 "number_by" ["row_number","places","t"] (DR P w K CU true ff 21))(F:fR K "sheet_of" "sheet_of" s_n f fd):cW P w K mg base (pU P w) 45 f fd ["terms"] (spSo K CU):=by
 refine F.okX sc_n (λvs H Q E h=>?_) λeP A outer s H vs Q E hr h=>?_
 ·let⟨ta,us,ts,rfl,_⟩:=h;rfl
 let⟨ta,us,ts,rfl,e,g,hf,B,q⟩:=h;let o:us.length=ts.length:=by have :=bK.length g;rwa[aD]at this
 calc#[_,have nd:=sc_n.nd;zC (xI 1 nd<|PZ (xY hr) (kY g_NONE_ROW rfl) zW)<|zC (yC PassesOwn.leaving rfl #[] #[]<|zH<|xE<|qY h_c hr.m rfl<|zE (EK mf_put_in rfl) #[])<|zH<|zS<|PV rfl bi.list rfl #[],?_];refine zD λN n=>?_
 dsimp![tDX1];refine λpa mZ p=>#[jU .no,(hNo _).sq,zA,n _ _ ?_]
 clear n;let c:Px P w K (upd (upd H pa<|CS P w pa []) pa<|CS P w pa [(jU .no,aN,V.int 0)]) H pa [.no] [aN]:=by
  calc#[by rw[QG];rfl,mZ,rfl,(),p,λi r a h1 h2=>?_];cases i with
  |zero=>cases h1;cases h2;exact hNo _
  |succ i=>cases h1
 generalize upd (upd H pa<|CS P w pa []) pa (CS P w pa [(jU .no,aN,V.int 0)])=H0 at c⊢;refine zP (λσ G=>∃(J:Hp)(as:List Addr)(d:Option V),aZ H J/\Px P w K G J pa (yQ ts [.no]) as/\σ=[some<|V.ref ta,some<|V.ref pa,d]) (λN n=>?_) λσ G h=>?_
 ·dsimp![];calc#[#[_,dB.of<|c.sub _ _ e],?_];refine xS (xs:=us) (λi σ G=>∃(J:Hp)(as:List Addr)(rows:List Rw)(d:Option V),aZ H J/\Px P w K G J pa rows as/\yQ (ts.drop i) rows=yQ ts [.no]/\σ=[some<|V.ref ta,some<|V.ref pa,d]) #[H,_,_,_,aZ.refl _,c,by rw[rR],rfl] (λi σ G _ h=>by let⟨_,_,_,_,C,pg,_⟩:=h;calc dB.of<|pg.sub _ _<|C _ _ e) (λi x σ G hx h M D=>?_) λσ G h=>?_
  ·let⟨J,as,rows,d,sJ,b,hb,rfl⟩:=h;let⟨t,j,u⟩:=xJ (f:=tL) g hx;let⟨lY,v⟩:=aC.mp j;rw[iU lY,v,yQ]at hb;dsimp![];calc#[pa,x,J,rows,as,t,rfl,b,eE.same sJ u,hf t<|aP j,(λz=>by cases z),λk H1 I pP s1 y=>?_,λk H' s'=>B (by rw[←hb];calc wT (XO _ _) k) H'<|sJ.trans s'];exact D _ _ #[I,pP,_,_,sJ.trans s1,y,hb,rfl]
  ·let⟨J,as,rows,d,sJ,b,hb,rfl⟩:=h;rw[o,List.drop_length,yQ]at hb;exact n _ _ #[J,as,d,sJ,by rw[←hb];exact b,rfl]
 let⟨J,as,d,sJ,b,rfl⟩:=h;dsimp![tLX];calc#[_,b.dx,λl hl=>?_];rw[AB _ _ _ b.len];let sl:=zB hl<|.lst<|as.map V.ref;exact q b.few l _ _ (sJ.trans<|b.sub.trans sl) zA (OS _ _ b.len λi r a h1 h2=>(b.keys i r a h1 h2).same (b.sub.trans sl))
end
abbrev kz:Stmt:=top 17
theorem gy:bP ["book","saying","terms","rule","premise"] ["book","saying"] (zF kz):=by rfl'
abbrev mX:=List (Tm×Tm)×(Tm×Tm)
noncomputable def iN(p:Tm×Tm):List Tm:=[p.1,p.2]
noncomputable def yV(ps:List (Tm×Tm)):List Tm:=ps.flatMap iN
noncomputable def NG(r:mX):List Tm:=yV r.1++iN r.2
noncomputable def gS(rs:List mX):List Tm:=rs.flatMap NG
theorem KR{ps:List (Tm×Tm)}{p:Tm×Tm}(h:ps[i]?=some p):yV (ps.take<|i+1)=yV (ps.take i)++iN p:=by
 let⟨a,b⟩:=aC.mp h;unfold yV;rw[aJ a,b,fO];simp
theorem tM{rs:List mX}{r:mX}(h:rs[i]?=some r):gS (rs.take<|i+1)=gS (rs.take i)++NG r:=by
 let⟨a,b⟩:=aC.mp h;unfold gS;rw[aJ a,b,fO];simp
theorem KU(rs:List mX)(i:Nat):(gS<|rs.take i).length<=(gS rs).length:=by
 have :gS rs=gS (rs.take i)++gS (rs.drop i):=by
  unfold gS;rw[←fO,dR]
 rw[this,aK];lia
theorem DN(ps:List (Tm×Tm))(i:Nat):(yV<|ps.take i).length<=(yV ps).length:=by
 have :yV ps=yV (ps.take i)++yV (ps.drop i):=by
  unfold yV;rw[←fO,dR]
 rw[this,aK];lia
abbrev iJ(H:Hp)(rs:List mX)(vs:List V):Prop:=bK H (rs.map VL) vs
theorem iJ.length{rs:List mX}{vs:List V}(h:iJ H rs vs):vs.length=rs.length:=by
 have :=bK.length h;rw[aD]at this;exact this
theorem iJ.getV{rs:List mX}{vs:List V}(h:iJ H rs vs)(hv:vs[i]?=some v):∃r,rs[i]?=some r/\WS H r v:=by
 let hi:i<rs.length:=by rw[←h.length];exact(aC.mp hv).1
 let⟨u,h1,h2⟩:=bK.get (d:=VL rs[i]) h (by rw[aF,aA hi];rfl);rw[hv]at h1;cases h1;exact#[_,aA hi,h2]
theorem iJ.snoc{rs:List mX}{vs:List V}{r:mX}(ht:rs[i]?=some r)(h:iJ H (rs.take i) vs)(h1:WS H r v):iJ H (rs.take<|i+1) (vs++[v]):=by
 let⟨hi,e⟩:=aC.mp ht;unfold iJ;rw[aJ hi,e,aQ];exact bK.append h<|bK.one h1
theorem oB.two{p:Tm×Tm}(h:oB H p v):∃a us,v=.ref a/\H a=some (.tup us)/\fF H (iN p) us/\us.length=2:=by
 let⟨a,b,c,d,e,f,g⟩:=oB.out h;exact#[a,_,d,e,#[b,_,rfl,f,c,_,rfl,g,rfl],rfl]
theorem wI{o:HO}(e:aZ H H')(hp:H p=none):aZ H (upd H' p o):=e.upd hp
inductive spTI (vs:List V) (H:Hp) (Q:VK) (E:XK):Prop
 |mk (a:Addr) (sv:V) (bs:List V) (rs:List mX) (s:Tm×Tm) (_:vs=[.ref a,sv]) (_:H a=some (.lst bs)) (_:iJ H rs bs) (_:oB H s sv) (_:(gS rs).length<=1000) (_:∀p us H',aZ H H'->H' p=some (.lst us)->fF H' (gS rs++iN s) us->Q (.ref p) H')
theorem AN(bi:Bi mg)(F:fR K "terms_in" "terms_in" kz f fd):cW P w K mg base fS 1 f fd ["book","saying"] spTI:=by
 refine F.okz gy λeP A outer s H vs Q E hr h=>?_
 let⟨a,sv,bs,rs,s,rfl,ha,iG,hs,hz,q⟩:=h;let J:=iG.length;calc#[_,have nd:=gy.nd;zC #[]<|zC (yC bO rfl #[] #[]<|zC (yC bO rfl #[] #[]<|zH<|xE<|qZ cM gC lD vW #[] #[])<|zH<|xE<|qZ cM gC lD vW #[] #[])<|zC (xE<|qZ cM gC lD vW #[] #[]) #[],?_];refine zD λN k=>?_
 dsimp![];calc#[zI (),λp hp=>k _ _ ?_];refine zP (λσ H'=>aZ H H'/\(∃us,H' p=some (.lst us)/\fF H (gS rs) us)/\∃n c,σ=[some<|V.ref a,some sv,some<|V.ref p,n,c]) (λN k=>?_) λσ H' h=>?_
 ·dsimp![];calc#[#[_,dB.of<|zB hp _ _ _ ha],?_];refine xS (xs:=bs) (λi σ H'=>aZ H H'/\(∃us,H' p=some (.lst us)/\fF H (gS<|rs.take i) us)/\∃n c,σ=[some<|V.ref a,some sv,some<|V.ref p,n,c]) ?_ (λi σ H' _ h=>dB.of<|h.1 _ _ ha) (λi x σ H' hx h M L=>?_) λσ H' h=>?_
  ·exact#[zB hp _,#[[],zA,rfl],_,_,rfl]
  ·let⟨es,⟨us,iO,b⟩,n,c,rfl⟩:=h;let⟨r,o,z⟩:=iG.getV hx;let⟨ra,l,O,vs,rfl,t,hl,u,B⟩:=WS.out z;let R:vs.length=r.1.length:=lS.length u;let C:=KU rs<|i+1;rw[tM o,aK]at C;let S:(NG r).length=(yV r.1).length+2:=by unfold NG;rw[aK];rfl
   show OC _ _ _ _ _;refine zP (λσ H'=>aZ H H'/\(∃us,H' p=some (.lst us)/\fF H (gS (rs.take i)++yV r.1) us)/\∃c,σ=[some<|V.ref a,some sv,some<|V.ref p,some<|V.ref ra,c]) (λN k=>?_) λσ H' h=>?_
   ·dsimp![];calc#[_,cV.of<|es _ _ t,.ref l,gG,_,rfl,#[_,dB.of<|es _ _ hl],?_];refine xS (xs:=vs) (λj σ H'=>aZ H H'/\(∃us,H' p=some (.lst us)/\fF H (gS (rs.take i)++yV (r.1.take j)) us)/\∃c,σ=[some<|V.ref a,some sv,some<|V.ref p,some<|V.ref ra,c]) ?_ (λj σ H' _ h=>dB.of<|h.1 _ _ hl) (λj y σ H' hy h M2 D=>?_) λσ H' h=>?_
    ·exact#[es,#[us,iO,by simpa[yV]using b],_,rfl]
    ·let⟨es,⟨us,iO,b⟩,c,rfl⟩:=h;let⟨U,G,I⟩:=lS.getV u hy;let⟨sa,ws,rfl,d,e,v⟩:=oB.two I;let g:=b.length;let T:=DN r.1 j;rw[aK]at g;dsimp![wJ];calc#[.inl #[rfl,_,dB.of iO],_,iO,_,cV.of<|es _ _ d,bT (m:=1000000) () (),?_];calc D _ _ #[wI es hp,#[_,zA,?_],_,rfl];rw[KR G,←dA];exact fF.append b e
    ·let⟨es,⟨us,iO,b⟩,c,rfl⟩:=h;rw[show r.1.take vs.length=r.1 from aR ()]at b;exact k _ _ #[es,#[us,iO,b],_,rfl]
   ·let⟨es,⟨us,iO,b⟩,c,rfl⟩:=h;let⟨sa,ws,rfl,d,e,v⟩:=oB.two B;let g:=b.length;rw[aK]at g;dsimp![wJ];calc#[.inl #[rfl,_,dB.of iO],_,cV.of<|es _ _ t,.ref sa,mV,sa,rfl,_,iO,_,cV.of<|es _ _ d,bT (m:=1000000) () (),?_];calc L _ _ #[wI es hp,#[_,zA,?_],_,_,rfl];rw[tM o];unfold NG;rw[←dA];exact fF.append b e
  ·let⟨es,⟨us,iO,b⟩,n,c,rfl⟩:=h;rw[aR ()]at b;exact k _ _ #[es,#[us,iO,b],_,_,rfl]
 ·let⟨es,⟨us,iO,b⟩,n,c,rfl⟩:=h;let⟨sa,ws,rfl,d,e,v⟩:=oB.two hs;let g:=b.length;refine zD λN k=>?_
  dsimp![wJ];calc#[.inl #[rfl,_,dB.of iO],_,iO,_,cV.of<|es _ _ d,bT (m:=1000000) () (),k _ _ ?_];dsimp![];exact q p _ _ (wI es hp) zA<|bK.same (wI es hp)<|fF.append b e
abbrev s_T:Stmt:=top 30
theorem sc_T:bP ["places","saying"] ["places","saying"] (zF s_T):=by rfl'
abbrev s_k:Stmt:=top 31
theorem sc_k:bP ["places","rule"] ["places","rule"] (zF s_k):=by rfl'
abbrev s_V:Stmt:=top 32
theorem sc_V:bP ["sheet","book","places"] ["sheet","book"] (zF s_V):=by rfl'
theorem HI{K:W.Frag}{H:Hp}:∀(rows:List Rw)(us:List V),fX K H rows us->∃as:List Addr,us=as.map V.ref/\as.length=rows.length/\∀(i:Nat)(r:Rw)(a:Addr),rows[i]?=some r->as[i]?=some a->Tw K H a ((jU r).map kV)
 |[],us,h=>#[[],h,rfl,λi r a h=>by simp at h]
 |r::rows,us,⟨v,vs,b,⟨a,c,d⟩,e⟩=>by
  let⟨as,g1,g2,g3⟩:=HI rows vs e;subst b c g1;calc#[a::as,rfl,cQ (· +1) g2,λi f g h1 h2=>?_];cases i with
  |zero=>cases h1;cases h2;rw[HJ];exact d
  |succ i=>exact g3 i f g (by simpa using h1) (by simpa using h2)
theorem HW:∀(rows:List Rw)(as:List Addr)(k i:Nat)(x:XE),(rC rows as k)[i]?=some x->∃r a,rows[i]?=some r/\as[i]?=some a/\x=(jU r,a,V.int ((k+i:Nat):Int))
 |[],_,_,_,_,h=>by unfold rC at h;simp at h
 |_::_,[],_,_,_,h=>by unfold rC at h;simp at h
 |r::rows,a::as,k,0,x,h=>by cases h;exact#[r,a,rfl,rfl,rfl]
 |r::rows,a::as,k,i+1,x,h=>by
  let⟨b,c,h1,h2,d⟩:=HW rows as (k+1) i x (by simpa[rC]using h);exact#[b,c,by simpa using h1,by simpa using h2,by rw[d,show k+1+i=k+(i+1) by lia]]
theorem AC:∀(rows:List Rw)(as:List Addr)(k:Nat),as.length=rows.length->(rC rows as k).map (·.1)=rows.map jU
 |[],[],_,_=>rfl
 |[],_::_,_,h=>by cases h
 |_::_,[],_,h=>by cases h
 |q::rows,a::as,k,h=>cQ (jU q:: ·)<|AC rows as (k+1)<|mC h
inductive ju (P:Program) (w:World) (K:W.Frag) (vs:List V) (H:Hp) (Q:VK) (E:XK):Prop
 |mk (sa:Addr) (us:List V) (rows:List Rw) (_:vs=[.ref sa]) (_:H sa=some (.lst us)) (_:fX K H rows us) (_:rows.Nodup) (_:rows.length<=40) (_:∀pa as J H',aZ H J->Px P w K H' J pa rows as->Q (.ref pa) H')
noncomputable def nS(rows:List Rw)(s:Tm×Tm):Pr:=(((dG s.1 rows).2:Nat),((dG s.2 rows).2:Nat))
noncomputable def nR(rows:List Rw)(r:List (Tm×Tm)×(Tm×Tm)):zZ:=(r.1.map<|nS rows,nS rows r.2)
def fc(rows:List Rw)(t:Tm):Prop:=fY 20 t/\(dG t rows).1=rows
def WW(rows:List Rw)(s:Tm×Tm):Prop:=fc rows s.1/\fc rows s.2
def o9(rows:List Rw)(r:List (Tm×Tm)×(Tm×Tm)):Prop:=r.1.length<=5/\(∀s∈r.1,WW rows s)/\WW rows r.2
inductive jv (P:Program) (w:World) (K:W.Frag) (vs:List V) (H:Hp) (Q:VK) (E:XK):Prop
 |mk (pa:Addr) (v:V) (rows:List Rw) (as:List Addr) (s:Tm×Tm) (J:Hp) (_:vs=[.ref pa,v]) (_:Px P w K H J pa rows as) (_:oB J s v) (_:WW rows s) (_:∀p J' H' lC,aZ J J'->Px P w K H' J' pa rows lC->J' p=some (.tup [.int (nS rows s).1,.int (nS rows s).2])->Q (.ref p) H')
inductive spNr (P:Program) (w:World) (K:W.Frag) (vs:List V) (H:Hp) (Q:VK) (E:XK):Prop
 |mk (pa:Addr) (v:V) (rows:List Rw) (as:List Addr) (r:List (Tm×Tm)×(Tm×Tm)) (J:Hp) (_:vs=[.ref pa,v]) (_:Px P w K H J pa rows as) (_:WS J r v) (_:o9 rows r) (_:∀v' J' H' lC,aZ J J'->Px P w K H' J' pa rows lC->eE J' (ix<|nR rows r) v'->Q v' H')
inductive spNm (K:W.Frag) (vs:List V) (H:Hp) (Q:VK) (E:XK):Prop
 |mk (sa ba:Addr) (us bs:List V) (rows:List Rw) (b:List (List (Tm×Tm)×(Tm×Tm))) (_:vs=[.ref sa,.ref ba]) (_:H sa=some (.lst us)) (_:fX K H rows us) (_:rows.Nodup) (_:rows.length<=40) (_:H ba=some (.lst bs)) (_:iJ H b bs) (_:b.length<=100) (_:(∀r∈b,o9 rows r)) (_:∀p ws H',aZ H H'->H' p=some (.lst ws)->bK H' ((b.map<|nR rows).map ix) ws->Q (.ref p) H')
section
variable {ff:Addr}
theorem LS(bi:Bi mg)(be:mg "enumerate"=none)(F:fR K "places_of" "places_of" s_K f fd):cW P w K mg base fS 1 f fd ["sheet"] (ju P w K):=by
 refine F.okz sc_K λeP A outer s H vs Q E hr h=>?_
 let⟨sa,us,rows,rfl,m,t,iC,u,q⟩:=h;let⟨bs,rfl,g,o⟩:=HI _ _ t;calc#[_,have nd:=sc_K.nd;zH<|zS<|jM (CB<|TJ hr) rfl bi.dict ZY<|zE (zX ["k","row"] [] [] #[] (λ_ _ _ _ nd=>qN (K:=K) (n:=2) rfl<|yE (yI 0 nd)<|yE (yI 1 nd) jR) (λ_ _ _ _=>yA) λ_ _ _ _=>#[]) zJ,?_];dsimp![vU];calc#[_,m,?_];refine dn (xs:=bs.map V.ref) (λi ys σ H'=>aZ H H'/\(∃as:List Addr,ys=as.map V.ref/\as.length=i/\∀(j:Nat)(a b:Addr),as[j]?=some a->bs[j]?=some b->H' a=some (.tup [.ref b,.int (j:Nat)]))/\∃v y,σ=[v,y]) #[aZ.refl _,#[[],rfl,rfl,λj a r h=>by simp at h],_,_,rfl] (zI (by rw[aD];lia)) (λi ys σ H' e=>?_) (λi ys σ H' e=>e.1 _ _ m) (λi x ys σ H' p C hx e hp L=>?_) λys σ H' e p hp=>?_
 ·let⟨_,⟨as,rfl,h1,_⟩,_⟩:=e;rw[aD,h1];exact aG _
 ·let⟨es,⟨as,rfl,h1,B⟩,v,y,rfl⟩:=e;rw[aF]at hx;let⟨b,hb,rfl⟩:=aL.mp hx;let c:=zB hp<|.tup [V.int i,V.ref b];dsimp![uO,jI,uX];calc#[_,cV.of zA,rfl,_,_,rfl,_,_,rfl,rfl,?_];generalize upd H' p (.tup [V.int i,V.ref b])=H1 at c⊢;calc#[zI (),λM D=>L _ _ _ ?_];let J:=zB D<|.tup [V.ref b,V.int i];calc#[es.trans<|c.trans J,#[as++[M],by rw[aQ];rfl,by rw[aK,h1];rfl,λj a N ha l=>?_],_,_,rfl];by_cases O:j<i
  ·rw[bE ()]at ha;exact(c.trans J) _ _ (B j a N ha l)
  ·let G:j=i:=by
    have :=(aC.mp ha).1;rw[aK]at this;simp at this;lia
   rw[G,←h1,bI<|aG _]at ha;simp at ha;subst ha;rw[G,hb]at l;cases l;rw[G];exact zA
 let⟨es,⟨as,rfl,h1,B⟩,v,y,rfl⟩:=e;rw[aD]at h1;let c:=zB hp<|.lst<|as.map V.ref;refine#[p,rfl,as,dB.of zA,rC rows bs 0,by rw[wM _ _ _ g];lia,by rw[AC _ _ _ g];exact mE.mpr (iC.imp λnF z=>nF<|BN z),λi x hi=>?_,λd hd I=>?_]
 ·let⟨r,b,g1,g2,rfl⟩:=HW _ _ _ _ _ hi;let lY:=(aC.mp g1).1;let k1:=B i (as[i]'()) b (aA ()) g2;exact#[_,aA (),cV.of (c _ _ (by rw[pY];calc k1)),((o i r b g1 g2).same (es.trans c)).sq]
 ·exact q d bs _ _ (es.trans c) #[rfl,hd,g,u,I,λi r a g1 g2=>(o i r a g1 g2).same (es.trans c)]
theorem EW(mf_found:mg "found"=some (.ref ff))(h_c:gD P w K mg base 44 "number_by" ["row_number","places","t"] (spNb P w K ff 21))(F:fR K "pair_of" "pair_of" s_T f fd):cW P w K mg base fS 45 f fd ["places","saying"] (jv P w K):=by
 refine F.okz sc_T λeP A outer s H vs Q E hr h=>?_
 let⟨pa,v,rows,as,s,J,rfl,d,e,⟨⟨g,i⟩,j,k⟩,q⟩:=h;let⟨a,l,n,rfl,ha,o,r⟩:=e.out;calc#[_,have nd:=sc_T.nd;zH<|zS<|jL<|zE (zQ h_c hr.m rfl<|zE (EK mf_found rfl) #[])<|zE (zQ h_c hr.m rfl<|zE (EK mf_found rfl) #[]) zJ,?_];dsimp![];calc#[_,cV.of<|d.sub _ _ ha,_,gG,pa,l,J,rows,as,s.1,rfl,d,o,g,i,λH1 u pP s1 b=>?_];calc#[_,cV.of<|b.sub _ _<|s1 _ _ ha,_,mV,pa,n,u,rows,pP,s.2,rfl,b,eE.same s1 r,j,k,λH2 x WR s2 c=>#[zI (),λp hp=>?_]];exact q p _ _ WR (s1.trans<|s2.trans<|zB (c.free hp) _) (c.new hp _) zA
theorem kN(h_T:gD P w K mg base 45 "pair_of" ["places","saying"] (jv P w K))(F:fR K "numbered_rule" "numbered_rule" s_k f fd):cW P w K mg base fS 46 f fd ["places","rule"] (spNr P w K):=by
 refine F.okz sc_k λeP A outer s H vs Q E hr h=>?_
 let⟨pa,v,rows,as,r,J,rfl,B,X,⟨hl,D,hc⟩,q⟩:=h;let⟨a,l,u,vs,rfl,ha,j,c,I⟩:=X.out;let L:=c.length;calc#[_,have nd:=sc_k.nd;zH<|zS<|jL<|zE (zX ["premise"] ["places"] [0] #[] (λ_ _ _ _ nd=>yI 0 nd) (λ_ _ _ _=>yA) λ_ _ _ _=>(zQ h_T hr.m rfl #[])) #[],?_];dsimp![];calc#[_,cV.of<|B.sub _ _ ha,_,gG,l,rfl,#[_,dB.of<|B.sub _ _ j],?_];refine yR (xs:=vs) (λi ys σ G=>∃J' lC,aZ J J'/\Px P w K G J' pa rows lC/\bK J' ((r.1.take i).map λs=>NH<|nS rows s) ys/\∃o,σ=[o,some<|V.ref pa]) #[J,as,aZ.refl _,B,rfl,_,rfl] (zI ()) (λi ys σ G e=>?_) (λi ys σ G e=>?_) (λi x ys σ G C hx e Y=>?_) λys σ G e p hp=>?_
 ·let⟨J',_,_,_,hd,_⟩:=e;have :=bK.length hd;rw[aD,bH]at this;lia
 ·let⟨J',lC,sJ,d,_⟩:=e;exact dB.of<|d.sub _ _<|sJ _ _ j
 ·let⟨J',lC,sJ,d,hd,o,rfl⟩:=e;let⟨s1,k,M⟩:=c.getV hx;let⟨lY,N⟩:=aC.mp k;dsimp![];calc#[pa,x,rows,lC,s1,J',rfl,d,eE.same sJ M,D s1<|aP k,λp O Z WR T b hp=>Y _ _ _ #[O,WR,sJ.trans T,b,?_,_,rfl]];rw[aJ lY,N,aQ];exact bK.append (bK.same T hd)<|bK.one #[p,_,rfl,hp,_,_,rfl,rfl,_,_,rfl,rfl,rfl]
 let⟨U,pP,s1,n,hd,o,rfl⟩:=e;let b:=n.new hp<|.lst ys;let s2:=zB (n.free hp)<|.lst ys;let kp:upd U p (.lst ys) p=some (.lst ys):=zA;generalize upd U p (.lst ys)=O at b s2 kp;generalize upd G p (.lst ys)=Z at b⊢;let g:=s1.trans s2;calc#[_,cV.of<|b.sub _ _<|g _ _ ha,_,mV,pa,u,rows,pP,r.2,O,rfl,b,eE.same g I,hc,λW J3 G3 R S t h3=>#[zI (),λp4 y=>?_]];let z:=zB (t.free y)<|.tup [V.ref p,V.ref W];calc q _ _ _ R (g.trans<|S.trans z) (t.new y _) #[p4,_,rfl,zA,_,_,rfl,#[p,ys,rfl,(S.trans z) _ _ kp,?_],_,_,rfl,#[W,_,rfl,z _ _ h3,_,_,rfl,rfl,_,_,rfl,rfl,rfl],rfl];show bK _ ((r.1.map<|nS rows).map NH) ys;rw[dU];rw[L,aR<|aG _]at hd;exact bK.same (s2.trans<|S.trans z) hd
theorem AT(bi:Bi mg)(h_K:gD P w K mg base 1 "places_of" ["sheet"] (ju P w K))(h_k:gD P w K mg base 46 "numbered_rule" ["places","rule"] (spNr P w K))(F:fR K "numbered" "numbered" s_V f fd):cW P w K mg base fS 47 f fd ["sheet","book"] (spNm K):=by
 refine F.okz sc_V λeP A outer s H vs Q E hr h=>?_
 let⟨sa,ba,us,bs,rows,b,rfl,k,l,iC,n,t,hb,M,u,q⟩:=h;let v:bs.length=b.length:=by have :=bK.length hb;rwa[aD]at this
 calc#[_,have nd:=sc_V.nd;zC (qI (i:=2) nd rfl (Or.inr rfl) #[])<|zH<|zS<|zX ["rule"] ["places"] [2] #[] (λ_ _ _ _ nd=>yI 0 nd) (λ_ _ _ _=>yA) λ_ _ _ _=>(zQ h_k hr.m rfl #[]),?_];refine zD λN D=>?_
 dsimp![];calc#[sa,us,rows,rfl,k,l,iC,n,λd as J H1 s1 I=>D _ _ ?_];clear D;dsimp![];let a:=s1 _ _ t;calc#[#[_,dB.of<|I.sub _ _ a],?_];refine yR (xs:=bs) (λi ys σ G=>∃J' lC,aZ J J'/\Px P w K G J' d rows lC/\bK J' ((b.take i).map λr=>ix<|nR rows r) ys/\∃o,σ=[o,some<|V.ref d]) #[J,as,aZ.refl _,I,rfl,_,rfl] (zI ()) (λi ys σ G e=>?_) (λi ys σ G e=>?_) (λi x ys σ G C hx e O=>?_) λys σ G e p hp=>?_
 ·let⟨J',_,_,_,hd,_⟩:=e;have :=bK.length hd;rw[aD,bH]at this;lia
 ·let⟨J',lC,sJ,c,_⟩:=e;exact dB.of<|c.sub _ _<|sJ _ _ a
 ·let⟨J',lC,sJ,c,hd,o,rfl⟩:=e;let⟨r,g,y⟩:=xJ hb hx;let⟨lY,z⟩:=aC.mp g;dsimp![];calc#[d,x,rows,lC,r,J',rfl,c,eE.same (s1.trans sJ) y,u r<|aP g,λv' R T WR L B S=>O _ _ _ #[R,WR,sJ.trans L,B,?_,_,rfl]];rw[aJ lY,z,aQ];exact bK.append (bK.same L hd)<|bK.one S
 let⟨U,pP,sJ,j,hd,o,rfl⟩:=e;rw[v,aR<|aG _]at hd;let sp:=zB hp<|.lst ys;calc q p ys _ (s1.trans<|sJ.trans<|j.sub.trans sp) zA ?_;rw[dU];exact bK.same (j.sub.trans sp) hd
end
abbrev kj:Stmt:=top 2
theorem gq:bP ["numbers","mask","n"] ["numbers"] (zF kj):=by rfl'
abbrev s_u:Stmt:=qO (top 45) 0
theorem sc_u:bP ["self","many","clashes","a","b"] ["self","many","clashes"] (zF s_u):=by rfl'
abbrev s_i:Stmt:=qO (top 45) 1
theorem sc_i:bP ["self","sets","common","spots"] ["self","sets"] (zF s_i):=by rfl'
abbrev s_h:Stmt:=qO (top 45) 2
theorem sc_h:bP ["self","spots"] ["self","spots"] (zF s_h):=by rfl'
def jP(m:Nat)(ns:List Nat):Prop:=∀i,m.testBit i=decide (i∈ns)
def DS(K:W.Frag):Sp:=λvs H Q _=>∃(a:Addr)(ns:List Nat),vs=[.ref a]/\dB K H a (ns.map nV)/\(∀n∈ns,n<100)/\∀m:Nat,jP m ns->Q (.int m) H
theorem SK{m:Nat}{ns:List Nat}(h:jP m ns):jP (m|||2^n) (ns++[n]):=λi=>by
 rw[rQ,h,iW];by_cases e:n=i
 ·subst e;simp
 ·simp[e,bX e]
theorem EY(bi:Bi mg)(F:fR K "mask_of" "mask_of" kj f fd):cW P w K mg base fS 1 f fd ["numbers"] (DS K):=by
 refine F.okz gq λeP A outer s H vs Q E hr h=>?_
 let⟨a,ns,rfl,ha,hn,q⟩:=h;calc#[_,have nd:=gq.nd;zC #[]<|zC (yC bO rfl #[] #[]<|zH<|QW (i:=1) nd rfl (Or.inl rfl) #[] BO) #[],?_];refine zD λN c=>?_
 dsimp![];calc c _ _ ?_;clear c;refine zP (λσ H'=>H'=H/\∃(m:Nat)(o:Option V),jP m ns/\σ=[some<|V.ref a,some<|V.int m,o]) (λN c=>?_) λσ H' h=>?_
 ·dsimp![];calc#[#[_,ha],?_];refine uP (xs:=ns.map nV) (λi σ H'=>H'=H/\∃(m:Nat)(o:Option V),jP m (ns.take i)/\σ=[some<|V.ref a,some<|V.int m,o]) #[rfl,0,_,λi=>by simp,rfl] (λi σ H' _ h=>by rw[h.1];calc ha) (λi x σ H' hx h=>?_) λσ H' h=>?_
  ·let⟨rfl,m,o,hm,rfl⟩:=h;rw[aF]at hx;cases b:ns[i]? with
   |none=>rw[b]at hx;cases hx
   |some n=>
    rw[b]at hx;cases hx;let d:=hn n<|aP b;dsimp![OG,TH];refine#[#[(),(),()],m|||2^n,?_,?_,_,rfl]
    ·let⟨hi,e⟩:=aC.mp b;rw[aJ hi,e];exact SK hm
    ·rw[vL,wQ]
  ·let⟨rfl,m,o,hm,rfl⟩:=h;rw[aD,aR<|aG _]at hm;exact c _ _ #[rfl,m,o,hm,rfl]
 let⟨rfl,m,o,hm,rfl⟩:=h;dsimp![];exact q m hm
noncomputable def yY(ps:List (Nat×Nat))(a b:Nat):Bool:=ps.any λp=>(p.1==a&&p.2==b) ||(p.1==b&&p.2==a)
theorem JV(ps:List (Nat×Nat))(a b:Nat):yY ps a b=yY ps b a:=by
 unfold yY
 congr 1
 funext p
 rw[Bool.or_comm]
theorem JU(ps:List (Nat×Nat))(p:Nat×Nat)(a b:Nat):yY (ps++[p]) a b=(yY ps a b ||((p.1==a&&p.2==b) ||(p.1==b&&p.2==a))):=by
 unfold yY;rw[List.any_append];simp
noncomputable def DF(p:Nat×Nat):Dt:=.tup [.int p.1,.int p.2]
def i8(m:Nat)(ps:List (Nat×Nat)):Prop:=∀p∈ps,p.1<p.2/\p.2<m
theorem bx{p:Nat×Nat}(h:eE H (DF p) v):∃a,v=.ref a/\H a=some (.tup [nV p.1,nV p.2]):=by
 let⟨a,vs,c,d,e,k,f,h1,g,i,j,h2,b⟩:=h;let h1:e=nV p.1:=h1;let h2:g=nV p.2:=h2;let b:i=[]:=b;subst b j f h1 h2;exact#[a,c,d]
noncomputable def cnt(m:Nat)(ps:List (Nat×Nat))(sp:List Nat):List Nat:=(List.range m).filter λi=>sp.all λa=>yY ps a i
theorem pJ{m:Nat}:i∈cnt m ps sp↔i<m/\(sp.all λa=>yY ps a i)=true:=by
 unfold cnt;rw[cN,bN]
theorem wZ(m:Nat)(ps:List (Nat×Nat))(sp:List Nat):(cnt m ps sp).Pairwise (· < ·):=fH _ dF
theorem MX{ys:List Nat}(h:∀x,x∈xs↔x∈ys)(f:Nat->Bool):xs.all f=ys.all f:=by
 rw[bZ,cF,cF];exact#[λg x hx=>g x<|(h x).mpr hx,λg x hx=>g x<|(h x).mp hx]
theorem kW{m:Nat}{ys:List Nat}(h:∀x,x∈xs↔x∈ys):cnt m ps xs=cnt m ps ys:=by
 unfold cnt
 congr 1
 funext i
 exact MX h _
theorem UW(m:Nat)(ns:List Nat)(h:jP m ns):∃xs,rK m xs/\∀x,x∈xs↔x∈ns:=by
 refine#[(List.range<|m+1).filter λi=>m.testBit i,#[fH _ dF,λi=>?_],λx=>?_]
 ·rw[bZ,bS,cN,bN];constructor
  ·intro hb;have :=jb hb;have :=Nat.lt_two_pow_self (n:=i);exact#[(),hb]
  ·exact λhb=>hb.2
 ·rw[cN,bN,h x,bS];constructor
  ·exact λhb=>hb.2
  ·intro hb;let a:m.testBit x=true:=by rw[h x];simpa using hb
   have :=jb a;have :=Nat.lt_two_pow_self (n:=x);exact#[(),hb]
structure FlC(K:W.Frag)(C:Addr):Prop where
 cl:KM K C
 nE:iZ K C "everywhere"
 nC:iZ K C "clashing"
noncomputable def DE(e:Nat)(l:Addr):List (Str×V):=[("everywhere",nV e),("clashing",.ref l)]
theorem fl_e(e:Nat)(l:Addr):(DE e l).lookup ("everywhere":Str)=some (nV e):=by
 unfold DE;rw[bG,show(("everywhere":Str)=="everywhere")=true by decide+kernel]
theorem nw(e:Nat)(l:Addr):(DE e l).lookup ("clashing":Str)=some (.ref l):=by
 unfold DE;rw[bG,show(("clashing":Str)=="everywhere")=false by decide+kernel,bG,show(("clashing":Str)=="clashing")=true by decide+kernel]
structure Msk(m:Nat)(ps:List (Nat×Nat))(cs:List Nat):Prop where
 len:cs.length=m
 bit:∀(a c:Nat),cs[a]?=some c->∀i,c.testBit i=yY ps a i
def CO(C:Addr)(H:Hp)(r:Addr)(m:Nat)(ps:List (Nat×Nat)):Prop:=∃dx l cs,H r=some (.ins C dx<|DE (2^m-1) l)/\H l=some (.lst<|cs.map nV)/\Msk m ps cs
theorem CO.same{C:Addr}{r:Addr}{m:Nat}(e:aZ H H')(h:CO C H r m ps):CO C H' r m ps:=by
 let⟨dx,l,cs,h1,h2,a⟩:=h;exact#[dx,l,cs,e _ _ h1,e _ _ h2,a]
theorem dh(m:Nat):Msk m [] (List.replicate m 0):=#[fW ..,λa c h i=>by
 let⟨_,e⟩:=aC.mp h;rw[List.getElem_replicate]at e;subst e;simp[yY]]
theorem dg{m:Nat}{cs:List Nat}{ca cb:Nat}(h:Msk m ps cs)(mP:a≠b)(ha:cs[a]?=some ca)(hb:cs[b]?=some cb):Msk m (ps++[(a,b)]) ((cs.set a<|ca|||2^b).set b (cb|||2^a)):=by
 calc#[by rw[gW,gW];exact h.len,λx c hx i=>?_];let la:=(aC.mp ha).1;let f:=(aC.mp hb).1;rw[JU];by_cases d:b=x
 ·subst d;rw[eX (by rw[gW];calc f)]at hx;cases hx;rw[rQ,h.bit b cb hb,iW];have :(a==b)=false:=cA.mpr mP;simp only[this,fI,tD,dE,tE]
  congr 1
 ·rw[dZ d]at hx;by_cases e:a=x
  ·subst e;rw[eX la]at hx;cases hx;rw[rQ,h.bit a ca ha,iW];have :(b==a)=false:=cA.mpr<|bX mP;simp only[this,mH,sZ,dE,pM]
   congr 1
  ·rw[dZ e]at hx;rw[h.bit x c hx];let g:(a==x)=false:=cA.mpr e;let j:(b==x)=false:=cA.mpr d;simp[g,j]
inductive j4 (C:Addr) (vs:List V) (H:Hp) (Q:VK) (E:XK):Prop
 |mk (r dx ca:Addr) (m:Nat) (us:List V) (ps:List (Nat×Nat)) (_:vs=[.ref r,.int m,.ref ca]) (_:H r=some (.ins C dx [])) (_:ca≠r) (_:H ca=some (.lst us)) (_:bK H (ps.map DF) us) (_:i8 m ps) (_:m<=90) (_:∀H',fJ r H H'->CO C H' r m ps->Q .non H')
inductive j6 (K:W.Frag) (C:Addr) (vs:List V) (H:Hp) (Q:VK) (E:XK):Prop
 |mk (r sa:Addr) (m:Nat) (ps:List (Nat×Nat)) (ms:List Nat) (_:vs=[.ref r,.ref sa]) (_:CO C H r m ps) (_:dB K H sa (ms.map nV)) (_:ms.length<=1000) (_:∀c:Nat,(∀i,c.testBit i=(decide (i<m)&&ms.all λx=>x.testBit i))->Q (.int c) H)
inductive spCn (C:Addr) (vs:List V) (H:Hp) (Q:VK) (E:XK):Prop
 |mk (r:Addr) (m s:Nat) (ps:List (Nat×Nat)) (xs:List Nat) (_:vs=[.ref r,.int s]) (_:CO C H r m ps) (_:m<=90) (_:rK s xs) (_:(∀x∈xs,x<m)) (_:∀(c:Nat) H',aZ H H'->jP c (cnt m ps xs)->Q (.int c) H')
theorem LY{C:Addr}(T:FlC K C)(F:fR K "common_of" "Floor.common_of" s_i f fd):cW P w K mg base fS 1 f fd ["self","sets"] (j6 K C):=by
 refine F.okz sc_i λeP A outer s H vs Q E hr h=>?_
 let⟨r,sa,m,ps,ms,rfl,⟨dx,l,cs,iG,hl,hm⟩,hs,d,q⟩:=h;calc#[_,have nd:=sc_i.nd;zC #[]<|zC (yC bO rfl #[] #[]<|zH<|QW (i:=2) nd rfl (Or.inl rfl) #[] m7) #[],?_];refine zD λN b=>?_
 dsimp![xZ];calc#[C,dx,_,iG,T.cl,T.nE,_,fl_e _ _,b _ _ ?_];clear b;refine zP (λσ H'=>H'=H/\∃(c:Nat)(o:Option V),(∀i,c.testBit i=(decide (i<m)&&ms.all λx=>x.testBit i))/\σ=[some<|V.ref r,some<|V.ref sa,some<|nV c,o]) (λN b=>?_) λσ H' h=>?_
 ·dsimp![];calc#[#[_,hs],?_];refine uP (xs:=ms.map nV) (λk σ H'=>H'=H/\∃(c:Nat)(o:Option V),(∀i,c.testBit i=(decide (i<m)&&(ms.take k).all λx=>x.testBit i))/\σ=[some<|V.ref r,some<|V.ref sa,some<|nV c,o]) #[rfl,2^m-1,_,λi=>by rw[oS];simp,rfl] (λi σ H' _ h=>by rw[h.1];calc hs) (λk x σ H' hx h=>?_) λσ H' h=>?_
  ·let⟨rfl,c,o,hc,rfl⟩:=h;rw[aF]at hx;cases a:ms[k]? with
   |none=>rw[a]at hx;cases hx
   |some n=>
    rw[a]at hx;cases hx;dsimp![OG,TH];calc#[c&&&n,λi=>?_,CN c n,_,rfl];let⟨hk,e⟩:=aC.mp a;rw[lG,hc,aJ hk,e,List.all_append,Bool.and_assoc];simp
  ·let⟨rfl,c,o,hc,rfl⟩:=h;rw[aD,aR<|aG _]at hc;exact b _ _ #[rfl,c,o,hc,rfl]
 let⟨rfl,c,o,hc,rfl⟩:=h;dsimp![];exact q c hc
theorem ZB(e:Nat)(l:Addr){x:Str}(h1:(x==("everywhere":Str))=false)(h2:(x==("clashing":Str))=false):(DE e l).lookup x=none:=by
 unfold DE;rw[bG,h1,bG,h2];rfl
theorem nu(e:Nat)(l:Addr):yO "clashing" (.ref l) (yO "everywhere" (nV e) [])=DE e l:=by
 unfold DE;rfl
theorem WA(m:Nat):(1:Int)*2^(m:Int).toNat-1=((2^m-1:Nat):Int):=by
 rw[vL];have :=WM m;lia
theorem RT{C:Addr}(T:FlC K C)(F:fR K "__init__" "Floor.__init__" s_u f fd):cW P w K mg base fS 1 f fd ["self","many","clashes"] (j4 C):=by
 refine F.okz sc_u λeP A outer s H vs Q E hr h=>?_
 let⟨r,dx,ca,m,us,ps,rfl,iG,u,y,B,hok,hm,q⟩:=h;let D:us.length=ps.length:=by have :=bK.length B;rwa[aD]at this
 calc#[_,have nd:=sc_u.nd;zC (kH #[] #[] rfl)<|zC (kH #[] (jZ YR #[] #[]) rfl)<|zH<|yC bO rfl #[] #[]<|zC (ZR #[] #[] wV #[] BO qG)<|zH<|ZR #[] #[] wV #[] BO qG,?_];refine zD λN G=>?_
 dsimp![DW];calc#[#[(),(),()],C,dx,[],iG,T.cl,T.nE,(),G _ _ ?_];clear G;rw[WA];refine zD λN G=>?_
 dsimp![DW,PD];calc#[zI (by simp),λj e=>#[[V.int 0],zA,(),(),zI (by simp;lia),λl hl=>?_]];let n:j≠r:=λz=>by rw[z,zA]at e;cases e
 let I:H j=none:=by rw[zG n]at e;exact e
 let J:l≠j:=λz=>by rw[z,zA]at hl;cases hl
 rw[zG J]at hl;let g:l≠r:=λz=>by rw[z,zA]at hl;cases hl
 rw[zG g]at hl;let kr:upd (upd (upd H r<|.ins C dx<|yO "everywhere" (nV<|2^m-1) []) j<|.lst [.int 0]) l (.lst<|(List.replicate (m:Int).toNat [V.int 0]).flatten) r=some (.ins C dx<|yO "everywhere" (nV<|2^m-1) []):=by
  rw[zG<|bX g,zG<|bX n,zA]
 calc#[C,dx,_,kr,T.cl,T.nC,by show 1<1000;decide,G _ _ ?_];clear G;rw[nu];let X:fJ r H (upd (upd (upd (upd H r<|.ins C dx<|yO "everywhere" (nV<|2^m-1) []) j<|.lst [.int 0]) l<|.lst<|(List.replicate (m:Int).toNat [V.int 0]).flatten) r<|.ins C dx<|DE (2^m-1) l):=fJ.upd<|xD (xD (fJ.upd<|fJ.refl r H) I) hl;let x2:upd (upd (upd (upd H r<|.ins C dx<|yO "everywhere" (nV<|2^m-1) []) j<|.lst [.int 0]) l<|.lst<|(List.replicate (m:Int).toNat [V.int 0]).flatten) r (.ins C dx<|DE (2^m-1) l) r=some (.ins C dx<|DE (2^m-1) l):=zA;let x3:upd (upd (upd (upd H r<|.ins C dx<|yO "everywhere" (nV<|2^m-1) []) j<|.lst [.int 0]) l<|.lst<|(List.replicate (m:Int).toNat [V.int 0]).flatten) r (.ins C dx<|DE (2^m-1) l) l=some (.lst<|(List.replicate m 0).map nV):=by
  rw[zG g,zA,bM,YK]
 generalize upd (upd (upd (upd H r<|.ins C dx<|yO "everywhere" (nV<|2^m-1) []) j<|.lst [.int 0]) l<|.lst<|(List.replicate (m:Int).toNat [V.int 0]).flatten) r (.ins C dx<|DE (2^m-1) l)=H1 at X x2 x3⊢;clear kr n J e I;dsimp![];calc#[#[_,dB.of<|X _ _ y u],?_];refine xS (xs:=us) (λk σ H'=>∃(R S:Option V)(cs:List Nat),fJ r H H'/\H' r=some (.ins C dx<|DE (2^m-1) l)/\H' l=some (.lst<|cs.map nV)/\Msk m (ps.take k) cs/\σ=[some<|V.ref r,some<|V.int m,some<|V.ref ca,R,S]) #[_,_,_,X,x2,x3,dh m,rfl] (λk σ H' _ h=>?_) (λk x σ H' hx h M U=>?_) λσ H' h=>?_
 ·let⟨R,S,cs,h1,_⟩:=h;exact dB.of<|h1 _ _ y u
 ·let⟨R,S,cs,h1,h2,W,p,rfl⟩:=h;let hk:k<ps.length:=by rw[←D];exact(aC.mp hx).1
  let⟨v,L,Y⟩:=bK.get (d:=DF ps[k]) B (by rw[aF,aA hk];rfl);rw[hx]at L;cases L;let mP:=hok _<|bW hk;let⟨t,rfl,ht⟩:=bx Y;let Z:t≠r:=λz=>by rw[z,iG]at ht;cases ht
  let ht':=h1 _ _ ht Z;let e4:ps.take (k+1)=ps.take k++[(ps[k].1,ps[k].2)]:=by rw[aJ hk]
  rw[e4]at U;clear e4;generalize ps[k].1=a at ht' mP U;generalize ps[k].2=b at ht' mP U;let la:a<cs.length:=by rw[p.len];lia
  let lb:b<cs.length:=by rw[p.len];lia
  let ga:=aA la;let gb:=aA lb;generalize cs[a]=c at ga;generalize cs[b]=O at gb;dsimp![uO,jI,uX,HA,xZ,HQ,TH,JI];calc#[[nV a,nV b],cV.of ht',rfl,nV a,[nV b],rfl,nV b,[],rfl,rfl,?_];let mset:∀(cs:List Nat)(i v:Nat),(cs.map nV).set i (V.int (v:Int))=(cs.set i v).map nV:=λcs i v=>(GO (f:=nV) (l:=cs) (i:=i) (a:=v)).symm
  calc#[C,dx,_,h2,T.cl,T.nC,_,nw _ _,l,rfl,_,a,rfl,W,nV c,by rw[aF,ga];rfl,_,rfl,#[(),(),()],_,rfl,l,rfl,_,rfl,_,W,a,uM (by rw[aD];calc la),?_];rw[vL b,wQ,mset];let gb':(cs.set a<|c|||2^b)[b]?=some O:=by rw[dZ ()];exact gb
  let lb':b<(cs.set a<|c|||2^b).length:=by rw[gW];exact lb
  let j1:upd H' l (.lst<|(cs.set a<|c|||2^b).map nV) r=some (.ins C dx<|DE (2^m-1) l):=by rw[zG<|bX g];exact h2
  let j2:upd H' l (.lst<|(cs.set a<|c|||2^b).map nV) l=some (.lst<|(cs.set a<|c|||2^b).map nV):=zA;let j3:=xD (o:=.lst<|(cs.set a<|c|||2^b).map nV) h1 hl;generalize upd H' l (.lst<|(cs.set a<|c|||2^b).map nV)=H2 at j1 j2 j3⊢;calc#[C,dx,_,j1,T.cl,T.nC,_,nw _ _,l,rfl,_,b,rfl,j2,nV O,by rw[aF,gb'];rfl,_,rfl,#[(),(),()],_,rfl,l,rfl,_,rfl,_,j2,b,uM (by rw[aD];calc lb'),?_];rw[vL a,wQ,mset];exact U _ _ #[_,_,_,xD j3 hl,by rw[zG<|bX g];exact j1,zA,dg p () ga gb,rfl]
 ·let⟨R,S,cs,h1,h2,W,p,rfl⟩:=h;rw[D,aR<|aG _]at p;exact q _ h1 #[dx,l,cs,h2,W,p]
theorem XU{C:Addr}(T:FlC K C)(bi:Bi mg)(h_L:gD P w K mg base 1 "bits_of" ["mask"] rZ)(h_i:lT P w K mg base 1 C "common_of" ["self","sets"] (j6 K C))(F:fR K "counter_of" "Floor.counter_of" s_h f fd):cW P w K mg base fS 2 f fd ["self","spots"] (spCn C):=by
 refine F.okz sc_h λeP A outer s H vs Q E hr h=>?_
 let⟨r,m,s',ps,xs,rfl,u,z,hb,t,q⟩:=h;let v:=u;let⟨dx,l,cs,iG,hl,hm⟩:=v;let b:∀x∈xs,x<100:=λx hx=>by have :=t x hx;lia
 let D:=CL hb λx hx=>Nat.lt_trans (b x hx) ();let gE:=T.cl;calc#[_,have nd:=sc_h.nd;zH<|zS<|xN h_i gE hr.m #[]<|zE (zX ["a"] ["self"] [0] #[] (λ_ _ _ _ nd=>yI 0 nd) (λ_ _ _ _=>yA) λ_ _ _ _=>(zV (uA K) (HZ K #[] rfl) #[])) zJ,?_];dsimp![yK,xZ];calc#[_,_,iG,ZB _ _ () (),?_];calc#[s',xs,rfl,hb,(λx hx=>Nat.lt_trans (b x hx) ()),λp H1 s1 hp k1=>#[p,rfl,#[_,dB.of k1],?_]];refine yR (xs:=xs.map nV) (λi ys σ H'=>H'=H1/\ys=((xs.take i).map λa=>cs.getD a 0).map nV/\∃o,σ=[o,some<|V.ref r]) #[rfl,rfl,_,rfl] (zI (by rw[aD];lia)) (λi ys σ H' e=>?_) (λi ys σ H' e=>by rw[e.1];calc dB.of k1) (λi x ys σ H' J hx e G=>?_) λys σ H' e I y=>?_
 ·let⟨_,rfl,_⟩:=e;rw[aD,aD,bH];lia
 ·let⟨rfl,rfl,o,rfl⟩:=e;rw[aF]at hx;cases d:xs[i]? with
  |none=>rw[d]at hx;cases hx
  |some n=>
   rw[d]at hx;cases hx;let hn:=t n<|aP d;let g:n<cs.length:=by rw[hm.len];exact hn
   dsimp![xZ];refine#[C,dx,_,s1 _ _ iG,T.cl,T.nC,_,nw _ _,l,rfl,_,dB.of<|s1 _ _ hl,nV<|cs.getD n 0,?_,G _ _ _ #[rfl,?_,_,rfl]]
   ·calc zU (j:=n) ?_;rw[aF,aU,aA g];rfl
   ·let⟨hi,e⟩:=aC.mp d;rw[aJ hi,e,aQ,aQ];rfl
 let⟨rfl,rfl,o,rfl⟩:=e;rw[aD,aR<|aG _];let B:=zB y (.lst<|(xs.map λa=>cs.getD a 0).map nV);calc#[r,I,m,ps,xs.map λa=>cs.getD a 0,rfl,CO.same (s1.trans B) u,dB.of zA,by rw[aD];lia,λc hc=>q c _ (s1.trans B) λi=>?_];rw[hc,bZ,bS,pJ,bU,bS,gR];refine and_congr_right λ_=>?_
 rw[cF,cF];let k:∀x∈xs,(cs.getD x 0).testBit i=yY ps x i:=λx hx=>by
  let g:x<cs.length:=by rw[hm.len];exact t x hx
  rw[aU,aA g];exact hm.bit x _ (aA g) i
 constructor
 ·intro h x hx;rw[←k x hx];exact h x hx
 ·intro h x hx;show(cs.getD x 0).testBit i=true;rw[k x hx];exact h x hx
theorem YQ{H H':Hp}(e:cX H H'):∀{ps:List (Nat×Nat)}{us:List V},bK H (ps.map DF) us->bK H' (ps.map DF) us
 |[],us,h=>h
 |p::ps,us,h=>by
  let⟨v,r,b,c,d⟩:=h;let⟨a,g1,g2⟩:=bx c;exact#[v,r,b,#[a,_,g1,e _ _ g2,_,_,rfl,rfl,_,_,rfl,rfl,rfl],YQ e d]
mutual
noncomputable def oV:Tm->List Str
 | .name x=>[x]
 | .node _ ts=>xP ts
noncomputable def xP:List Tm->List Str
 |[]=>[]
 |t::ts=>oV t++xP ts
end
theorem pI{x:Str}:∀{ts:List Tm},x∈xP ts↔∃t∈ts,x∈oV t
 |[]=>by simp[xP]
 |t::ts=>by rw[xP,cD,pI (ts:=ts)];simp
theorem BI:∀ts us:List Tm,xP (ts++us)=xP ts++xP us
 |[],us=>by simp[xP]
 |t::ts,us=>by rw[List.cons_append,xP,xP,BI ts us,dA]
theorem JO{t:Tm}(h:ts[i]?=some t):xP (ts.take<|i+1)=xP (ts.take i)++oV t:=by
 let⟨a,b⟩:=aC.mp h;rw[aJ a,b,BI];show _++(oV t++xP [])=_;rw[xP,cE]
mutual
theorem de:∀t:Tm,(oV t).length<=wt t
 | .name _=>by rw[oV,wt];exact aG _
 | .node _ ts=>by
   rw[oV,wt];have :=wS ts;lia
theorem wS:∀ts:List Tm,(xP ts).length<=lI ts
 |[]=>by rw[xP,lI];exact aG _
 |t::ts=>by
  rw[xP,lI,aK];have :=de t;have :=wS ts;lia
end
abbrev kx:Stmt:=top 13
theorem gx:bP ["t"] ["t"] (zF kx):=by rfl'
noncomputable def sS:Tm->List Tm
 | .name _=>[]
 | .node _ ts=>ts
def jt:Sp:=λvs H Q _=>∃(v:V)(t:Tm),vs=[v]/\hU H t v/\(∀w ts,t=.node w ts->Wrd w)/\∀p us H',aZ H H'->H' p=some (.tup us)->fF H' (sS t) us->Q (.ref p) H'
abbrev s_d:Stmt:=top 14
theorem sc_d:bP ["t","found","part"] ["t","found"] (zF s_d):=by rfl'
abbrev s_y:Stmt:=top 15
theorem sc_y:bP ["terms","found","t"] ["terms"] (zF s_y):=by rfl'
abbrev lc:Stmt:=top 16
theorem ia:bP ["t"] ["t"] (zF lc):=by rfl'
noncomputable def ZL(zs:List Str)(x:Str):List Str:=if x∈zs then zs else zs++[x]
noncomputable def yM(zs:List Str)(xs:List Str):List Str:=xs.foldl ZL zs
theorem wD(zs xs ys:List Str):yM zs (xs++ys)=yM (yM zs xs) ys:=by unfold yM;rw[List.foldl_append]
theorem uT:∀(xs zs:List Str),(yM zs xs).length<=zs.length+xs.length
 |[],zs=>by simp[yM]
 |x::xs,zs=>by
  have :=uT xs<|ZL zs x;let h2:(ZL zs x).length<=zs.length+1:=by unfold ZL;split<;>simp
  show(yM (ZL zs x) xs).length<=_;rw[bC];lia
noncomputable def dz(zs:List Str):List (eR×V):=zs.map λx=>(.inr x,.bl true)
theorem bj(zs:List Str)(x:Str):qQ (dz zs) (.inr x:eR) (.bl true)=dz (ZL zs x):=by
 let e:((dz zs).any λkv=>decide<|kv.1=(.inr x:eR))=decide (x∈zs):=by
  rw[bZ,fD,bS];unfold dz;constructor
  ·rintro⟨p,hp,h⟩;let⟨y,hy,rfl⟩:=bF.mp hp;let h:(Sum.inr y:eR)=.inr x:=by simpa using h
   rw[←pF h];exact hy
  ·intro h;exact#[_,bF.mpr #[x,h,rfl],by simp]
 unfold qQ ZL;rw[e];by_cases h:x∈zs
 ·rw[aO (by simpa using h),aO h];unfold dz;rw[dU];apply oI;intro y hy;simp only[Function.comp];split<;>rfl
 ·rw[aH (by simpa using h),aH h];unfold dz;rw[aQ];rfl
def gF(d:Addr)(H H':Hp):Prop:=∀b o,H b=some o->b≠d->H' b=some o
theorem gF.refl(d:Addr)(H:Hp):gF d H H:=λ_ _ h _=>h
theorem gF.trans{H1 H2:Hp}(a:gF d H H1)(b:gF d H1 H2):gF d H H2:=λc o h n=>b c o (a c o h n) n
theorem gF.of(a:aZ H H'):gF d H H':=λc o h _=>a c o h
theorem gF.upd{H1:Hp}{o:HO}(a:gF d H H1):gF d H (L2.upd H1 d o):=λc o' h n=>by
 rw[zG n];exact a c o' h n
theorem gF.tups{kvs:List (eR×V)}(a:gF d H H')(h:H d=some (.dK kvs)):cX H H':=λb xs e=>a b _ e (jH e h (by intro z;cases z))
noncomputable def WQ:Tm->List Str
 | .name x=>[x]
 | .node _ _=>[]
def az:Nat->Sp
 |0=>λ_ _ _ _=>False
 |1=>λ_ _ _ _=>False
 |n+2=>λvs H Q _=>∃(v:V)(d:Addr)(t:Tm)(zs:List Str),vs=[v,.ref d]/\hU H t v/\fY n t/\wt t<=900/\H d=some (.dK<|dz zs)/\zs.length+wt t<=100000/\∀H',gF d H H'->H' d=some (.dK<|dz<|yM zs<|oV t)->Q .non H'
def jx:Sp:=λvs H Q _=>∃(a:Addr)(us:List V)(ts:List Tm),vs=[.ref a]/\H a=some (.lst us)/\fF H ts us/\(∀t∈ts,fY 20 t/\wt t<=900)/\lI ts<=20000/\(yM []<|xP ts).length<64/\
 ∀p mW H',aZ H H'->H' p=some (.lst<|mW.map V.str)->mW.Perm (yM []<|xP ts)->PyProof.Rows.sortedS mW=true->Q (.ref p) H'
inductive spNO (vs:List V) (H:Hp) (Q:VK) (E:XK):Prop
 |mk (v:V) (t:Tm) (_:vs=[v]) (_:hU H t v) (_:fY 20 t) (_:wt t<=900) (_:(yM []<|oV t).length<64) (_:∀p mW H',aZ H H'->H' p=some (.lst<|mW.map V.str)->mW.Perm (yM []<|oV t)->PyProof.Rows.sortedS mW=true->Q (.ref p) H')
theorem AS(bi:Bi mg)(F:fR K "parts_of" "parts_of" kx f fd):cW P w K mg base fS 1 f fd ["t"] jt:=by
 refine F.okz gx λeP A outer s H vs Q E hr h=>?_
 let⟨v,t,rfl,ht,b,q⟩:=h;calc#[_,have nd:=gx.nd;zH<|zS<|wO #[] #[]<|jE YG #[] (jQ zW) qM,?_];cases t with
 |name x=>
  let⟨a,rfl,ha⟩:=hU.name ht;dsimp![];calc#[_,cV.of ha,.str "name",gG,rfl,?_];rw[aO rfl];exact#[zI (),λp hp=>q _ [] _ (zB hp _) zA rfl]
 |node wd ts=>
  let⟨a,us,rfl,ha,hu⟩:=hU.node ht;dsimp![];calc#[_,cV.of ha,.str wd,gG,rfl,?_];rw[aH λe=>(b wd ts rfl).ne (V.str.inj e)];calc#[_,cV.of ha,qF _ _,λp hp=>?_];rw[uB];exact q p us _ (zB hp _) zA<|fF.tups (zB hp _).tups hu
theorem ZI(bi:Bi mg)(h_ae:gD P w K mg base 1 "parts_of" ["t"] jt)(F:fR K "gather_names" "gather_names" s_d f fd)(b:Binds K fd ["t","found"] [])(m:mg "gather_names"=some (.ref f)):∀n,cW P w K mg base fS n f fd ["t","found"] (az n):=by
 calc QT F b m (λvs H Q E h=>h) λn h_d=>?_;cases n with
 |zero=>exact#[λvs H Q E h=>h.elim,λA outer s H args us vs Q E _ _ _ _ h=>h.elim]
 |succ n=>
 refine F.okz sc_d λeP A outer s H vs Q E hr h=>?_
 let⟨v,d,t,zs,rfl,ht,hf,U,hd,hz,q⟩:=h;calc#[_,have nd:=sc_d.nd;zC (yD #[] (zH<|QV (xY hr) #[] #[] IB rfl) zO)<|zH<|yC bO rfl (kI #[]) #[] #[],?_];let B:oV t=WQ t++xP (sS t):=by
  cases t with
  |name x=>rw[oV,WQ,sS,xP];rfl
  |node wd ts=>rw[oV,WQ,sS];rfl
 let M:lI (sS t)<=wt t/\(WQ t).length+lI (sS t)<=wt t:=by
  cases t with
  |name x=>rw[sS,lI,WQ,wt];exact#[(),by simp]
  |node wd ts=>rw[sS,wt,WQ];exact#[(),by simp]
 let C:∀w ts,t=.node w ts->Wrd w:=λw ts e=>by subst e;exact hf.wrd
 let part:∀(i:Nat)(u:Tm),(sS t)[i]?=some u->∃m,n=m+1/\fY m u/\wt u<=lI (sS t):=λi u hi=>by
  let hm:=aP hi;have :=wF hm;cases t with
  |name x=>cases hm
  |node wd ts=>
   let hm:u∈ts:=hm;cases n with
   |zero=>rw[hf.2]at hm;cases hm
   |succ n=>exact#[n,rfl,hf.part hm,this]
 refine zP (λσ H'=>gF d H H'/\H' d=some (.dK<|dz<|yM zs<|WQ t)/\∃o,σ=[some v,some<|V.ref d,o]) (λN J=>?_) λσ H' h=>?_
 ·dsimp![HH];cases t with
  |name x=>
   let⟨a,rfl,ha⟩:=hU.name ht;calc#[_,rfl,_,cV.of ha,.str "name",gG,rfl,?_];rw[aO rfl];calc#[_,rfl,_,cV.of ha,.str x,mV,_,CT.k (k:=.inr x) hd (fA (show(dz zs).length<=1000000 by unfold dz;rw[aD];lia) ()),J _ _ ?_];rw[bj];exact#[(gF.refl d H).upd,zA,_,rfl]
  |node wd ts=>
   let⟨a,us,rfl,ha,hu⟩:=hU.node ht;calc#[_,rfl,_,cV.of ha,.str wd,gG,rfl,?_];rw[aH λe=>hf.wrd.ne<|V.str.inj e];exact J _ _ #[gF.refl d H,hd,_,rfl]
 ·let⟨es,j,o,rfl⟩:=h;let D:=hU.tups (es.tups hd) ht;dsimp![jt];calc#[t,D,C,λp us H2 y hp hu=>#[#[_,cV.of hp],?_]];let hl:=hu.length;let G:p≠d:=jH hp (y _ _ j) (by intro z;cases z);refine nq (xs:=us) (λi σ H'=>gF d H2 H'/\H' p=some (.tup us)/\H' d=some (.dK<|dz<|yM (yM zs<|WQ t)<|xP<|(sS t).take i)/\∃o,σ=[some v,some<|V.ref d,o]) ?_ (λi σ H' _ h=>cV.of h.2.1) (λi x σ H' hx h=>?_) λσ H' h=>?_
  ·exact#[gF.refl _ _,hp,y _ _ j,_,rfl]
  ·let⟨c,r,g,o',rfl⟩:=h;let⟨u,l,I⟩:=hu.getV hx;let⟨W,rfl,O,X⟩:=part i u l;let Y:=uT (WQ t) zs;let Z:=uT (xP<|(sS t).take i)<|yM zs<|WQ t;let l3:=wS<|(sS t).take i;let l4:lI ((sS t).take (i+1))<=lI (sS t):=by
    have :=cQ lI<|dR (i+1)<|sS t;rw[jJ]at this;lia
   let l5:lI ((sS t).take (i+1))=lI ((sS t).take i)+wt u:=by
    let⟨R,S⟩:=aC.mp l;rw[aJ R,S,jJ];show _+(wt u+lI [])=_;rw[lI];lia
   dsimp![az];calc#[u,hU.tups (c.tups<|y _ _ j) I,O,(),_,g,(),λH4 L T=>#[c.trans L,L _ _ r G,?_,_,rfl]];rw[JO l,wD];exact T
  ·let⟨c,r,g,o',rfl⟩:=h;rw[aR ()]at g;calc q _ ((es.trans<|gF.of y).trans c) ?_;rw[B,wD];exact g
theorem ZH(bi:Bi mg)(h_d:gD P w K mg base 22 "gather_names" ["t","found"] (az 22))(F:fR K "names_of_all" "names_of_all" s_y f fd):cW P w K mg base fS 23 f fd ["terms"] jx:=by
 refine F.okz sc_y λeP A outer s H vs Q E hr h=>?_
 let⟨a,us,ts,rfl,ha,hu,hf,D,n,q⟩:=h;let hl:=hu.length;let y:=ZM ts;calc#[_,have nd:=sc_y.nd;zC (xI 1 nd AH)<|zC #[]<|zH<|zS<|zM US rfl bi.sorted JX #[],?_];refine zD λN p=>?_
 dsimp![];refine λd iC=>p _ _ ?_
 let k:=zB iC<|.dK [];let h1:upd H d (.dK []) d=some (.dK<|dz []):=zA;generalize upd H d (.dK [])=H1 at k h1⊢;let r:a≠d:=yW ha iC;refine zP (λσ H'=>gF d H1 H'/\H' d=some (.dK<|dz<|yM []<|xP ts)/\∃g j,σ=[g,some<|V.ref d,j]) (λN p=>?_) λσ H' h=>?_
 ·dsimp![];calc#[#[_,dB.of<|k _ _ ha],?_];refine uP (xs:=us) (λi σ H'=>gF d H1 H'/\H' d=some (.dK<|dz<|yM []<|xP<|ts.take i)/\∃g j,σ=[g,some<|V.ref d,j]) ?_ (λi σ H' _ h=>dB.of<|h.1 _ _ (k _ _ ha) r) (λi x σ H' hx h=>?_) λσ H' h=>?_
  ·exact#[gF.refl _ _,h1,_,_,rfl]
  ·let⟨c,e,g,j,rfl⟩:=h;let⟨u,m,v⟩:=hu.getV hx;let hm:=aP m;let G:=wF hm;let z:=uT (xP<|ts.take i) [];let I:=wS<|ts.take i;let J:lI (ts.take i)<=lI ts:=by
    have :=cQ lI<|dR i ts;rw[jJ]at this;lia
   dsimp![az];calc#[u,hU.tups (k.tups.trans<|c.tups h1) v,(hf u hm).1,(hf u hm).2,_,e,by simp at z;lia,λL B C=>#[c.trans B,?_,_,rfl]];rw[JO m,wD];exact C
  ·let⟨c,e,g,j,rfl⟩:=h;rw[aR ()]at e;exact p _ _ #[c,e,_,_,rfl]
 ·let⟨c,e,g,j,rfl⟩:=h;dsimp![];calc#[_,e,yM []<|xP ts,by unfold dz;rw[dU];rfl,n,λl mW iH hp hs=>?_];let es:aZ H H':=λb o hb=>c b o (k _ _ hb)<|yW hb iC
  exact q _ _ _ (es.trans<|zB iH _) zA hp hs
theorem AU(bi:Bi mg)(h_y:gD P w K mg base 23 "names_of_all" ["terms"] jx)(F:fR K "names_of" "names_of" lc f fd):cW P w K mg base fS 24 f fd ["t"] spNO:=by
 refine F.okz ia λeP A outer s H vs Q E hr h=>?_
 let⟨v,t,rfl,ht,hf,c,b,q⟩:=h;calc#[_,have nd:=ia.nd;#[],?_];dsimp![jx];refine#[zI (),λp hp=>#[[v],zA,[t],fF.one<|hU.tups (zB hp _).tups ht,λu hu=>?_,?_,?_,λp2 mW H' e h2 a hs=>?_]]
 ·rw[aV.mp hu];exact#[hf,c]
 ·show wt t+0<=20000;lia
 ·rw[xP,xP,cE];exact b
 ·rw[xP,xP,cE]at a;exact q _ _ _ ((zB hp _).trans e) h2 a hs
abbrev s_b:Stmt:=qO (top 45) 4
theorem sc_b:bP ["self","sets","t","values"] ["self","sets","t"] (zF s_b):=by rfl'
abbrev s_X:Stmt:=top 46
theorem sc_X:bP ["world","names","sets","name"] ["world","names"] (zF s_X):=by rfl'
abbrev kf:Stmt:=top 47
theorem gh:bP ["world","t","sets"] ["world","t"] (zF kf):=by rfl'
noncomputable def cmn(m:Nat)(vs:List (List Nat)):List Nat:=(List.range m).filter λi=>vs.all λv=>decide<|i∈v
noncomputable def xU(m:Nat)(ps:List (Nat×Nat))(w:Str)(vs:List (List Nat)):List Nat:=
 if w="none" then []else if w="all" then List.range m else if w="not" then cnt m ps (vs.headD [])else if w="both" then cmn m vs else cnt m ps (cmn m<|vs.map<|cnt m ps)
mutual
noncomputable def val(m:Nat)(ps:List (Nat×Nat))(S:Str->List Nat):Tm->List Nat
 | .name x=>S x
 | .node w ts=>xU m ps w<|vals m ps S ts
noncomputable def vals(m:Nat)(ps:List (Nat×Nat))(S:Str->List Nat):List Tm->List (List Nat)
 |[]=>[]
 |t::ts=>val m ps S t::vals m ps S ts
end
theorem qT(m:Nat)(ps:List (Nat×Nat))(S:Str->List Nat):∀ts:List Tm,vals m ps S ts=ts.map (val m ps S)
 |[]=>rfl
 |t::ts=>by rw[vals,qT m ps S ts,bV]
theorem FT{m:Nat}(h:i∈cnt m ps sp):i<m:=(pJ.mp h).1
theorem UN{m:Nat}(h:i∈cmn m vs):i<m:=bN.mp (cN.mp h).1
theorem ag{m:Nat}{w:Str}(h:i∈xU m ps w vs):i<m:=by
 unfold xU at h;split at h
 ·cases h
 split at h
 ·exact bN.mp h
 split at h
 ·exact FT h
 split at h
 ·exact UN h
 ·exact FT h
theorem YB{m:Nat}(hS:∀x,∀i∈S x,i<m):∀(t:Tm){i:Nat},i∈val m ps S t->i<m
 | .name x,i,h=>by rw[val]at h;exact hS x i h
 | .node w ts,i,h=>by rw[val]at h;exact ag h
theorem BX(m:Nat)(vs:List (List Nat)):(cmn m vs).Pairwise (· < ·):=fH _ dF
theorem wG{m:Nat}(hS:∀x,(S x).Pairwise (· < ·)):∀t:Tm,(val m ps S t).Pairwise (· < ·)
 | .name x=>by rw[val];exact hS x
 | .node w ts=>by
   rw[val];unfold xU;split
   ·exact .nil
   split
   ·exact dF
   split
   ·exact wZ ..
   split
   ·exact BX ..
   ·exact wZ ..
theorem eh{x:Str}(h:zs.Nodup):(ZL zs x).Nodup:=by
 unfold ZL;split
 ·exact h
 ·rename_i hx
  rw[mF];calc#[h,by simp,λa ha b hb e=>?_];rw[aV.mp hb]at e;exact hx<|e▸ha
theorem QD:∀(xs zs:List Str),zs.Nodup->(yM zs xs).Nodup
 |[],zs,h=>h
 |x::xs,zs,h=>QD xs (ZL zs x)<|eh h
theorem wC:∀(xs zs:List Str){y:Str},y∈yM zs xs->y∈zs\/y∈xs
 |[],zs,y,h=>.inl h
 |x::xs,zs,y,h=>by
  rcases wC xs (ZL zs x) h with h |h
  ·unfold ZL at h;split at h
   ·exact .inl h
   ·rcases cD.mp h with h |h
    ·exact .inl h
    ·exact .inr (by rw[aV.mp h];calc aW)
  ·exact .inr<|aX _ h
theorem uK{α:Type} [DecidableEq α]:∀{l m:List α},l.Nodup->(∀x∈l,x∈m)->l.length<=m.length
 |[],m,_,_=>cO _
 |x::l,m,hn,hs=>by
  let hx:x∈m:=hs x aW;let a:=fZ.mp hn;have :=uK (l:=l) (m:=m.erase x) a.2 λy hy=>by
   let b:=hs y<|aX _ hy;let nF:y≠x:=λe=>a.1 (by rw[←e];calc hy)
   exact(List.mem_erase_of_ne nF).mpr b
  rw[List.length_erase_of_mem hx]at this;have :=rB hx;rw[bC];lia
def pL(cs:List Nat)(vs:List (List Nat)):Prop:=cs.length=vs.length/\∀(i:Nat)(c:Nat)(v:List Nat),cs[i]?=some c->vs[i]?=some v->jP c v
theorem pL.snoc{cs:List Nat}{c:Nat}{v:List Nat}(h:pL cs vs)(hc:jP c v):pL (cs++[c]) (vs++[v]):=by
 calc#[by rw[aK,aK,h.1];rfl,λi a v' h1 h2=>?_];by_cases hi:i<cs.length
 ·rw[bE hi]at h1;rw[bE (by rw[←h.1];calc hi)]at h2;exact h.2 i a v' h1 h2
 ·have :i=cs.length:=by
   have :=(aC.mp h1).1;rw[aK,cC]at this;lia
  subst this;rw[bI<|aG _,gO]at h1;rw[bI (by rw[h.1];calc aG _),h.1,gO]at h2;simp at h1 h2;subst h1 h2;exact hc
theorem pL.cmn{m:Nat}{cs:List Nat}(h:pL cs vs){c:Nat}(hc:∀i,c.testBit i=(decide (i<m)&&cs.all λx=>x.testBit i)):jP c (C.cmn m vs):=λi=>by
 rw[hc,bZ,bS,bU,bS,cF];unfold C.cmn;rw[cN,bN,cF];refine and_congr_right λ_=>#[λg v d=>?_,λg x hx=>?_]
 ·let⟨j,b,e⟩:=cS d;let a:j<cs.length:=by rw[h.1];exact b
  have :=g cs[j] (bW a);rw[h.2 j cs[j] v (aA a) (by rw[aA b,e]) i]at this;exact this
 ·let⟨j,b,e⟩:=cS hx;let a:j<vs.length:=by rw[←h.1];exact b
  rw[h.2 j x vs[j] (by rw[aA b,e]) (aA a) i];exact g vs[j] (bW a)
theorem HN{P:Program}{w:World}{K:W.Frag}{mg:Str->Option Value}{base:Heap}{C:Addr}{x:Str}{ps:List Str}{f:Addr}{fd:FuncData}{sp:Nat->Sp}(b:Binds K fd ps [])(m:MZ K C x f)
 (h0:∀vs H Q E,¬sp 0 vs H Q E) (step:∀n,lT P w K mg base n C x ps (sp n)->cW P w K mg base fS (n+1) f fd ps (sp<|n+1)):∀n,cW P w K mg base fS n f fd ps<|sp n
 |0=>#[λvs H Q E h=>(h0 vs H Q E h).elim,λA outer s H args us vs Q E _ _ _ _ h=>(h0 vs H Q E h).elim]
 |n+1=>step n #[f,fd,HN b m h0 step n,b,m]
def aw(C:Addr):Nat->Sp
 |0=>λ_ _ _ _=>False
 |1=>λ_ _ _ _=>False
 |2=>λ_ _ _ _=>False
 |n+3=>λvs H Q _=>∃(r d:Addr)(v:V)(t:Tm)(m:Nat)(ps:List (Nat×Nat))(kvs:List (eR×V))(S:Str->List Nat),vs=[.ref r,.ref d,v]/\CO C H r m ps/\m<=90/\hU H t v/\fY n t/\wt t<=900/\H d=some (.dK kvs)/\(∀x∈oV t,∃c:Nat,zY kvs (.inr x)=some (nV c)/\jP c (S x))/\(∀x,∀i∈S x,i<m)/\∀(c:Nat) H',aZ H H'->jP c (val m ps S t)->Q (.int c) H'
theorem SD{ps:List Str}{sp:Sp}(h:∀vs H Q E,¬sp vs H Q E):cW P w K mg base fS n f fd ps sp:=#[λvs H Q E g=>(h vs H Q E g).elim,λA outer s H args us vs Q E _ _ _ _ g=>(h vs H Q E g).elim]
structure nH(H:Hp)(la:Addr)(zs:List Str)(Ss:List (List Nat))(m:Nat):Prop where
 ex:∃(as ls:List Addr),H la=some (.lst<|as.map V.ref)/\as.length=zs.length/\ls.length=zs.length/\∀(i:Nat)(z:Str)(sp:List Nat),zs[i]?=some z->Ss[i]?=some sp->∃a l,as[i]?=some a/\ls[i]?=some l/\H a=some (.tup [.str z,.ref l])/\H l=some (.lst<|sp.map nV)
 len:Ss.length=zs.length
 low:∀sp∈Ss,(∀i∈sp,i<m)/\sp.Pairwise (· < ·)
theorem nH.same{la:Addr}{Ss:List (List Nat)}{m:Nat}(e:aZ H H')(h:nH H la zs Ss m):nH H' la zs Ss m:=by
 let⟨⟨as,ls,h1,h2,b,c⟩,d,f⟩:=h;calc#[#[as,ls,e _ _ h1,h2,b,λi z sp hz hs=>?_],d,f];let⟨a,l,g1,g2,g3,g4⟩:=c i z sp hz hs;exact#[a,l,g1,g2,e _ _ g3,e _ _ g4]
theorem nH.mono{la:Addr}{Ss:List (List Nat)}{m:Nat}(h:nH H la zs Ss m)(hm:m<=n):nH H la zs Ss n:=#[h.ex,h.len,λsp a=>#[λi hi=>bQ ((h.low sp a).1 i hi) hm,(h.low sp a).2]]
noncomputable def zc(zs:List Str)(cs:List Nat):List (eR×V):=(zs.zip cs).map λp=>(.inr p.1,nV p.2)
theorem DG:∀{zs:List Str}{cs:List Nat}{i:Nat}{x:Str}{c:Nat},zs.Nodup->zs[i]?=some x->cs[i]?=some c->zY (zc zs cs) (.inr x)=some (nV c)
 |z::zs,d::cs,0,x,c,_,h1,h2=>by
  simp only[pT,pG]at h1 h2;subst h1 h2;exact qD rfl
 |z::zs,d::cs,i+1,x,c,hn,h1,h2=>by
  simp only[List.getElem?_cons_succ]at h1 h2;let a:=fZ.mp hn;let e:zY (zc (z::zs) (d::cs)) (.inr x)=zY (zc zs cs) (.inr x):=jT (λe=>a.1 (by rw[show z=x from pF e];calc aP h1));rw[e];exact DG a.2 h1 h2
 |[],_,i,x,c,_,h1,_=>by simp at h1
 |_,[],i,x,c,_,_,h2=>by simp at h2
inductive jr (K:W.Frag) (vs:List V) (H:Hp) (Q:VK) (E:XK):Prop
 |mk (wa:Addr) (v:V) (t:Tm) (m:Nat) (ca:Addr) (us:List V) (ps:List (Nat×Nat)) (la:Addr) (zs:List Str) (Ss:List (List Nat)) (S:Str->List Nat) (_:vs=[.ref wa,v]) (_:H wa=some (.tup [nV m,.ref ca,.ref la])) (_:H ca=some (.lst us)) (_:bK H (ps.map DF) us) (_:i8 m ps) (_:m<=90) (_:nH H la zs Ss m) (_:(zs.Nodup/\zs.length<=40)) (_:hU H t v) (_:fY 20 t) (_:wt t<=900) (_:(∀x∈oV t,x∈zs)) (_:(∀(i:Nat)(z:Str),zs[i]?=some z->Ss[i]?=some (S z))) (_:(∀z,(∀i∈S z,i<m)/\(S z).Pairwise (· < ·))) (_:∀(p:Addr)(H':Hp),aZ H H'->H p=none->H' p=some (.lst<|(val m ps S t).map nV)->Q (.ref p) H')
inductive spSF (K:W.Frag) (vs:List V) (H:Hp) (Q:VK) (E:XK):Prop
 |mk (wa na:Addr) (ys:List Str) (m:Nat) (cps:V) (la:Addr) (zs:List Str) (Ss:List (List Nat)) (_:vs=[.ref wa,.ref na]) (_:H wa=some (.tup [nV m,cps,.ref la])) (_:nH H la zs Ss 90) (_:H na=some (.lst<|ys.map V.str)) (_:(∀y∈ys,y∈zs)) (_:(zs.Nodup/\zs.length<=40)) (_:∀p cs H',aZ H H'->H' p=some (.dK<|zc zs cs)->pL cs Ss->Q (.ref p) H')
theorem AM{C:Addr}(T:FlC K C)(bi:Bi mg)(h_i:lT P w K mg base 1 C "common_of" ["self","sets"] (j6 K C))(h_h:lT P w K mg base 2 C "counter_of" ["self","spots"] (spCn C))(F:fR K "value_of" "Floor.value_of" s_b f fd)(b:Binds K fd ["self","sets","t"] [])(mt:MZ K C "value_of" f):∀n,cW P w K mg base fS n f fd ["self","sets","t"] (aw C n):=by
 refine HN b mt (λvs H Q E h=>h) (λn h_b=>?_)
 match n with
 |0=>exact SD λvs H Q E h=>h
 |1=>exact SD λvs H Q E h=>h
 |n+2=>
 refine F.okz sc_b λeP A outer s H vs Q E hr h=>?_
 let⟨r,d,v,t,m,ps,kvs,S,rfl,u,p,ht,hf,hw,hd,hS,Y,q⟩:=h;let Z:=u;let⟨dx,lx,cs,iG,iH,hmk⟩:=Z;let gE:=T.cl;calc#[_,have nd:=sc_b.nd;zC #[]<|zC #[]<|zC (yD #[] (zH<|zS<|QY (xY hr) #[] #[] λ_ _=>rfl) zO)<|zC (ZQ (i:=3) ["part"] ["sets","self"] [1,0] nd rfl (kI<|jE YG #[] (jQ zW) qM) (λ_ _ _ _ nd=>yI 0 nd) (λ_ _ _ _=>yA) λ_ _ _ _=>(xN h_b gE hr.m #[] #[]))<|zC (yD #[] (zH<|zS<|xN h_h gE hr.m #[]<|zE (zV yB #[] zW) zJ) zO)<|zC #[]<|zH<|zS<|xN h_h gE hr.m #[]<|zE (xN h_i gE hr.m #[]<|zE (zX ["spots"] ["self"] [0] #[] (λ_ _ _ _ nd=>yI 0 nd) (λ_ _ _ _=>yA) λ_ _ _ _=>(xN h_h gE hr.m #[] #[])) zJ) zJ,?_];cases t with
 |name x=>
  let⟨a,rfl,ha⟩:=hU.name ht;let⟨c,hc1,hc2⟩:=hS x (by rw[oV];calc aV.mpr rfl);dsimp![yK,xZ];calc#[_,cV.of ha,.str "name",gG,rfl,?_];rw[aH (by intro z;calc absurd (V.str.inj z) ())];calc#[_,cV.of ha,.str "name",gG,rfl,?_];rw[aH (by intro z;calc absurd (V.str.inj z) ())];calc#[_,cV.of ha,.str "name",gG,rfl,?_];rw[aO rfl];calc#[_,cV.of ha,.str x,mV,_,hc1▸nK.k (k:=.inr x) hd,?_];exact q c _ (aZ.refl _) (by rw[val];calc hc2)
 |node wd ts=>
  let⟨a,us,rfl,ha,hu⟩:=hU.node ht;let hwd:=hf.wrd;let hsh:=hf.sh;let hl:=hu.length;let hll:=ZM ts;rw[wt]at hw;let hwr:val m ps S (.node wd ts)=xU m ps wd (ts.map<|val m ps S):=by rw[val,qT]
  rw[hwr]at q;let hSm':∀t∈ts,∀x∈oV t,∃c:Nat,zY kvs (.inr x)=some (nV c)/\jP c (S x):=λt ht x hx=>hS x (by rw[oV];calc pI.mpr #[t,ht,hx])
  refine zD λN g=>?_
  dsimp![yK,xZ];calc#[_,cV.of ha,.str wd,gG,rfl,?_];by_cases L:wd="none"
  ·rw[aO (by rw[L])];let e:xU m ps wd (ts.map<|val m ps S)=[]:=by unfold xU;rw[aO L]
   rw[e]at q;exact q 0 _ (aZ.refl _) λi=>by simp
  rw[aH λz=>L<|V.str.inj z];calc g _ _ ?_;clear g;refine zD λN g=>?_
  dsimp![yK,xZ];calc#[_,cV.of ha,.str wd,gG,rfl,?_];by_cases O:wd="all"
  ·rw[aO (by rw[O])];let e:xU m ps wd (ts.map<|val m ps S)=List.range m:=by unfold xU;rw[aH L,aO O]
   rw[e]at q;exact#[C,dx,_,iG,T.cl,T.nE,_,fl_e _ _,q (2^m-1) _ (aZ.refl _) λi=>by rw[oS];simp]
  rw[aH λz=>O<|V.str.inj z];calc g _ _ ?_;clear g;refine zD λN g=>?_
  dsimp![yK,xZ];calc#[_,cV.of ha,.str wd,gG,rfl,?_];rw[aH λz=>hwd.ne<|V.str.inj z];calc g _ _ ?_;clear g;refine zD λN g=>?_
  dsimp![yK,xZ];calc#[_,cV.of ha,qF _ _,λp2 mK=>?_];rw[uB];let s2:=zB mK<|.tup us;let k2:upd H p2 (.tup us) p2=some (.tup us):=zA;generalize upd H p2 (.tup us)=H2 at s2 k2⊢;calc#[#[_,cV.of k2],?_];refine FK (xs:=us) (λi ys σ H'=>aZ H2 H'/\(∃cs:List Nat,ys=cs.map nV/\cs.length=i/\pL cs ((ts.map<|val m ps S).take i))/\∃o,σ=[o,some<|V.ref d,some<|V.ref r]) #[aZ.refl _,#[[],rfl,rfl,rfl,λi c v h=>by simp at h],_,rfl] (zI ()) (λi ys σ H' e=>?_) (λi ys σ H' e=>cV.of<|e.1 _ _ k2) (λi x ys σ H' C' hx e hC=>?_) λys σ H' e p3 hp3=>g _ _ ?_
  ·let⟨_,⟨cs,rfl,h1,_⟩,_⟩:=e;rw[aD,h1];exact aG _
  ·let⟨es,⟨cs,rfl,hcl,mT⟩,o,rfl⟩:=e;let⟨t,ht',hx'⟩:=hu.getV hx;cases n with
   |zero=>have :=hf.2;subst this;simp at ht'
   |succ n=>
    let hm:=aP ht';let hmt:=wF hm;let j:=s2.trans es;dsimp![yK,xZ,aw];calc#[_,_,j _ _ iG,ZB _ _ () (),t,m,ps,u.same j,p,hU.tups j.tups hx',hf.part hm,(),kvs,j _ _ hd,S,hSm' t hm,Y,λc H3 e3 hc=>hC _ _ _ #[es.trans e3,#[cs++[c],by rw[aQ];rfl,by rw[aK,hcl];rfl,?_],_,rfl]];let⟨lY,R⟩:=aC.mp (show(ts.map<|val m ps S)[i]?=some (val m ps S t) by rw[aF,ht'];rfl);rw[aJ lY,R];exact mT.snoc hc
  clear g;let⟨es,⟨cs,rfl,hcl,mT⟩,o,rfl⟩:=e;rw[show(ts.map<|val m ps S).take us.length=ts.map (val m ps S)from aR (by rw[aD];lia)]at mT;let j:=(s2.trans es).trans (zB hp3<|.lst<|cs.map nV);let k3:upd H' p3 (.lst<|cs.map nV) p3=some (.lst<|cs.map nV):=zA;generalize upd H' p3 (.lst<|cs.map nV)=H3 at j k3⊢;let M:=u.same j;let lR:∀(i:Nat)(v:List Nat),(ts.map<|val m ps S)[i]?=some v->∀x∈v,x<m:=λi v hv x hx=>by
   rw[aF]at hv;let⟨t,ht,rfl⟩:=aL.mp hv;exact YB Y t hx
  let hvl:(ts.map<|val m ps S).length=ts.length:=aD _;generalize hvs:ts.map (val m ps S)=vs at mT q lR hvl;refine zD λN g=>?_
  dsimp![yK,xZ];calc#[_,cV.of<|j _ _ ha,.str wd,gG,rfl,?_];by_cases U:wd="not"
  ·rw[aO (by rw[U])];let h1:ts.length=1:=by
    rcases hsh with h |h |h |h |h
    ·exact absurd h.1 L
    ·exact absurd h.1 O
    ·exact h.2
    ·rw[U]at h;exact absurd h.1 ()
    ·rw[U]at h;exact absurd h.1 ()
   obtain⟨G,rfl⟩:∃G,vs=[G]:=by
    match vs,(show vs.length=1 by lia)with
    |[G],_=>exact#[G,rfl]
   obtain⟨y,rfl⟩:∃y,cs=[y]:=by
    match cs,(show cs.length=1 by rw[mT.1];rfl)with
    |[y],_=>exact#[y,rfl]
   let e:xU m ps wd [G]=cnt m ps G:=by unfold xU;rw[aH L,aH O,aO U];rfl
   rw[e]at q;let⟨xs,B,l⟩:=UW y G<|mT.2 0 y G rfl rfl;calc#[_,_,j _ _ iG,ZB _ _ () (),_,dB.of k3,nV y,gG,?_];calc#[r,m,y,ps,xs,rfl,M,p,B,λx hx=>lR 0 G rfl x<|(l x).mp hx,λc H4 I hc=>q c _ (j.trans I) ?_];rw[kW l]at hc;exact hc
  rw[aH λz=>U<|V.str.inj z];calc g _ _ ?_;clear g;refine zD λN g=>?_
  dsimp![yK,xZ];calc#[_,cV.of<|j _ _ ha,.str wd,gG,rfl,?_];by_cases c4:wd="both"
  ·rw[aO (by rw[c4])];let e:xU m ps wd vs=cmn m vs:=by unfold xU;rw[aH L,aH O,aH U,aO c4]
   rw[e]at q;calc#[_,_,j _ _ iG,ZB _ _ () (),?_];exact#[r,p3,m,ps,cs,rfl,M,dB.of k3,(),λc hc=>q c _ j<|mT.cmn hc]
  rw[aH λz=>c4<|V.str.inj z];calc g _ _ ?_;clear g;let e:xU m ps wd vs=cnt m ps (cmn m<|vs.map<|cnt m ps):=by unfold xU;rw[aH L,aH O,aH U,aH c4]
  rw[e]at q;dsimp![yK,xZ];calc#[_,_,j _ _ iG,ZB _ _ () (),_,_,j _ _ iG,ZB _ _ () (),#[_,dB.of k3],?_];refine yR (xs:=cs.map nV) (λi ys σ H'=>aZ H3 H'/\(∃ds:List Nat,ys=ds.map nV/\ds.length=i/\pL ds ((vs.map<|cnt m ps).take i))/\∃o,σ=[o,some<|V.ref r]) #[aZ.refl _,#[[],rfl,rfl,rfl,λi c v h=>by simp at h],_,rfl] (zI (by rw[aD];lia)) (λi ys σ H' e=>?_) (λi ys σ H' e=>dB.of<|e.1 _ _ k3) (λi x ys σ H' C' hx e hC=>?_) λys σ H' e p4 hp4=>?_
  ·let⟨_,⟨ds,rfl,h1,_⟩,_⟩:=e;rw[aD,h1];exact aG _
  ·let⟨J,⟨ds,rfl,W,D⟩,o,rfl⟩:=e;rw[aF]at hx;let⟨y,hc0,rfl⟩:=aL.mp hx;let hiv:i<vs.length:=by rw[←mT.1];exact(aC.mp hc0).1
   let X:vs[i]?=some vs[i]:=aA hiv;let⟨xs,B,l⟩:=UW y vs[i] (mT.2 i y _ hc0 X);let I:=j.trans J;dsimp![yK,xZ];calc#[_,_,I _ _ iG,ZB _ _ () (),r,m,y,ps,xs,rfl,u.same I,p,B,λx hx=>lR i _ X x<|(l x).mp hx,λc H4 s5 hc=>hC _ _ _ #[J.trans s5,#[ds++[c],by rw[aQ];rfl,by rw[aK,W];rfl,?_],_,rfl]];rw[kW l]at hc;let⟨lY,R⟩:=aC.mp (show(vs.map<|cnt m ps)[i]?=some (cnt m ps vs[i]) by rw[aF,X];rfl);rw[aJ lY,R];exact D.snoc hc
  let⟨J,⟨ds,rfl,W,D⟩,o,rfl⟩:=e;rw[aD]at D W;rw[show(vs.map<|cnt m ps).take cs.length=vs.map (cnt m ps)from aR (by rw[aD,mT.1];calc aG _)]at D;let I:=(j.trans J).trans (zB hp4<|.lst<|ds.map nV);let k4:upd H' p4 (.lst<|ds.map nV) p4=some (.lst<|ds.map nV):=zA;generalize upd H' p4 (.lst<|ds.map nV)=H4 at I k4⊢;calc#[r,p4,m,ps,ds,rfl,u.same I,dB.of k4,(),λc hc=>?_];let hm1:=D.cmn hc;let⟨xs,B,l⟩:=UW c _ hm1;calc#[r,m,c,ps,xs,rfl,u.same I,p,B,λx hx=>UN<|(l x).mp hx,λc' H5 s5 hc'=>q c' _ (I.trans s5) ?_];rw[kW l]at hc';exact hc'
theorem AR(bi:Bi mg)(h_ba:gD P w K mg base 1 "mask_of" ["numbers"] (DS K))(F:fR K "sets_for" "sets_for" s_X f fd):cW P w K mg base fS 2 f fd ["world","names"] (spSF K):=by
 refine F.okz sc_X λeP A outer s H vs Q E hr h=>?_
 let⟨wa,na,ys,m,cps,la,zs,Ss,rfl,U,W,C,D,iC,q⟩:=h;calc#[_,have nd:=sc_X.nd;zC (xI 2 nd<|jM XL rfl bi.dict ZY<|zE (zX ["name","spots"] [] [] #[] (λ_ _ _ _ nd=>qN (K:=K) (n:=2) rfl<|yE (yI 0 nd)<|yE (yI 1 nd) jR) (λ_ _ _ _=>yA) λ_ _ _ _=>(jL<|zE #[]<|zE (zQ h_ba hr.m rfl #[]) zJ)) zJ)<|zC (yC bO rfl #[] #[]<|zH<|yD (YL (JK (xY hr) #[] #[]) (by with_unfolding_all rfl)) (zH PK) zO) #[],?_];refine zD λN S=>?_
 dsimp![];let at2:∀{a b c:V},pO [a,b,c] 2=some c:=zU (j:=2) rfl;let⟨⟨as,ls,h1,h2,h3,h4⟩,h5,h6⟩:=W;calc#[_,cV.of U,.ref la,at2,la,rfl,#[_,dB.of h1],?_];refine yR (xs:=as.map V.ref) (λi ys σ H'=>aZ H H'/\(∃(bs:List Addr)(cs:List Nat),ys=bs.map V.ref/\bs.length=i/\pL cs (Ss.take i)/\∀(j:Nat)(z:Str)(c:Nat),(zs.take i)[j]?=some z->cs[j]?=some c->∃b,bs[j]?=some b/\H' b=some (.tup [.str z,nV c]))/\∃X Y,σ=[X,Y]) #[aZ.refl _,#[[],[],rfl,rfl,#[rfl,λi c v h=>by simp at h],λj z c h=>by simp at h],_,_,rfl] (zI (by rw[aD];lia)) (λi ys σ H' e=>?_) (λi ys σ H' e=>dB.of<|e.1 _ _ h1) (λi x ys σ H' C' hx e hC=>?_) λys σ H' e G I=>?_
 ·let⟨_,⟨bs,cs,rfl,h1,_⟩,_⟩:=e;rw[aD,h1];exact aG _
 ·let⟨es,⟨bs,cs,rfl,r,mT,g⟩,X,Y,rfl⟩:=e;rw[aF]at hx;let⟨a,ha,rfl⟩:=aL.mp hx;let hia:=(aC.mp ha).1;let J:i<zs.length:=by lia
  let B:i<Ss.length:=by lia
  let⟨a',l,g1,g2,g3,g4⟩:=h4 i zs[i] Ss[i] (aA J) (aA B);rw[ha]at g1;cases g1;let L:=h6 Ss[i] (bW B);dsimp![uO,jI,uX,DS];refine#[_,cV.of<|es _ _ g3,rfl,_,_,rfl,_,_,rfl,rfl,l,rfl,Ss[i],dB.of<|es _ _ g4,λn hn=>by have :=L.1 n hn;lia,λc hc=>#[zI (),λp hp=>hC _ _ _ #[es.trans<|zB hp _,#[bs++[p],cs++[c],by rw[aQ];rfl,by rw[aK,r];rfl,?_,λj z c' hz d=>?_],_,_,rfl]]]
  ·rw[aJ B];exact mT.snoc hc
  ·let M:cs.length=i:=by rw[mT.1,bH];lia
   let Z:=(aC.mp d).1;rw[aK,cC]at Z;by_cases hj:j<i
   ·rw[bE ()]at d;rw[eL ()]at hz;let⟨b,O,R⟩:=g j z c' (by rw[eL hj];calc hz) d;exact#[b,by rw[bE ()];exact O,zB hp _ _ _ R]
   ·let hji:j=i:=by lia
    subst hji;rw[eL (),aA J]at hz;rw[bI (),M,gO]at d;simp at d;cases hz;subst d;exact#[p,by rw[bI (),r];simp,zA]
 let⟨es,⟨bs,cs,rfl,r,mT,g⟩,X,Y,rfl⟩:=e;rw[aD]at r mT g;rw[aR ()]at mT g;let M:cs.length=zs.length:=by rw[mT.1];lia
 let s3:=es.trans<|zB I<|.lst<|bs.map V.ref;let k3:upd H' G (.lst<|bs.map V.ref) G=some (.lst<|bs.map V.ref):=zA;let t:∀(j:Nat)(z:Str)(c:Nat),zs[j]?=some z->cs[j]?=some c->∃b,bs[j]?=some b/\upd H' G (.lst<|bs.map V.ref) b=some (.tup [.str z,nV c]):=λj z c hz hc=>by
  let⟨b,O,R⟩:=g j z c hz hc;exact#[b,O,zB I _ _ _ R]
 generalize upd H' G (.lst<|bs.map V.ref)=H3 at s3 k3 t⊢;let hkl:(zc zs cs).length=zs.length:=by
  unfold zc;rw[aD,List.length_zip];lia
 refine#[G,rfl,bs,dB.of k3,zc zs cs,(),?_,λi k u hi=>?_,λl hl=>S _ _ ?_]
 ·let e:(zc zs cs).map (·.1)=zs.map Sum.inr:=by
   unfold zc;rw[dU];have :((λx:eR×V=>x.1) ∘ λp:Str×Nat=>((.inr p.1:eR),nV p.2))=Sum.inr ∘ Prod.fst:=rfl;rw[this,←dU,List.map_fst_zip ()]
  rw[e];exact List.Pairwise.map _ (λa b h e=>h<|pF e) iC.1
 ·unfold zc at hi;rw[aF]at hi;let⟨y,hy,ey⟩:=aL.mp hi;let⟨y1,y2⟩:=jd.mp hy;cases ey;let⟨b,O,R⟩:=t i y.1 y.2 y1 y2;exact#[b,O,cV.of R]
 clear S;let T:=s3.trans<|zB hl<|.dK<|zc zs cs;let k4:upd H3 l (.dK<|zc zs cs) l=some (.dK<|zc zs cs):=zA;generalize upd H3 l (.dK<|zc zs cs)=H4 at T k4⊢;refine zP (λσ H'=>H'=H4/\∃o,σ=[some<|V.ref wa,some<|V.ref na,some<|V.ref l,o]) (λN S=>?_) λσ H' h=>?_
 ·dsimp![];calc#[#[_,dB.of<|T _ _ C],?_];calc uP (xs:=ys.map V.str) (λi σ H'=>H'=H4/\∃o,σ=[some<|V.ref wa,some<|V.ref na,some<|V.ref l,o]) #[rfl,_,rfl] (λi σ H' _ h=>by rw[h.1];calc dB.of<|T _ _ C) (λi x σ H' hx h=>?_) λσ H' h=>S _ _ h;let⟨rfl,o,rfl⟩:=h;rw[aF]at hx;let⟨y,hy,rfl⟩:=aL.mp hx;let⟨j,hj,e⟩:=cS<|D y<|aP hy;dsimp![QJ];calc#[_,nK.k (k:=.inr y) k4,?_];let hv:=DG iC.1 (show zs[j]?=some y by rw[aA hj,e]) (aA<|show j<cs.length by lia);rw[hv,aH (by simp)];exact#[_,rfl]
 let⟨rfl,o,rfl⟩:=h;dsimp![];exact q _ _ _ T k4 mT
theorem RO{C:Addr}(T:FlC K C)(bi:Bi mg)(h_X:gD P w K mg base 2 "sets_for" ["world","names"] (spSF K))(h_ac:gD P w K mg base 24 "names_of" ["t"] spNO)(h_L:gD P w K mg base 1 "bits_of" ["mask"] rZ)(h_u:WH P w K mg base 1 C "Floor" ["self","many","clashes"] (j4 C))(h_b:lT P w K mg base 23 C "value_of" ["self","sets","t"] (aw C 23))(F:fR K "value" "value" kf f fd):cW P w K mg base fS 25 f fd ["world","t"] (jr K):=by
 refine F.okz gh λeP A outer s H vs Q E hr h=>?_
 let⟨wa,v,t,m,ca,us,ps,la,zs,Ss,S,rfl,n,R,U,B,d,D,iC,ht,hf,hw,g,W,r,q⟩:=h;let gE:=T.cl;calc#[_,have nd:=gh.nd;zC #[]<|zH<|zS<|zQ h_L hr.m rfl<|zE (xN h_b gE hr.m (AF h_u hr.m rfl #[]) #[]) zJ,?_];refine zD λN hN=>?_
 dsimp![];let hal:(yM []<|oV t).length<=zs.length:=uK (QD _ _ .nil) λy hy=>by
  rcases wC _ _ hy with h |h
  ·cases h
  ·exact g y h
 calc#[v,t,rfl,ht,hf,hw,(),λpn mW H1 s1 k1 u _=>?_];refine#[wa,pn,mW,m,.ref ca,la,zs,Ss,rfl,s1 _ _ n,(D.same s1).mono d,k1,λy hy=>?_,iC,λpd cs H2 s2 k2 mT=>hN _ _ ?_]
 ·rcases wC _ _ (u.mem_iff.mp hy)with h |h
  ·cases h
  ·exact g y h
 clear hN;replace s2:=s1.trans s2;dsimp![yK,GZ];let G:∀{a b c:V},pO [a,b,c] 1=some b:=zU (j:=1) rfl;calc#[_,cV.of<|s2 _ _ n,_,gG,_,cV.of<|s2 _ _ n,_,G,λx dx hx X nF=>?_];let O:aZ H2 (upd (upd H2 dx<|.own x) x<|.ins C dx []):=((aZ.refl H2).upd X).upd hx;let k3:upd (upd H2 dx<|.own x) x (.ins C dx []) x=some (.ins C dx []):=zA;generalize upd (upd H2 dx<|.own x) x (.ins C dx [])=H3 at O k3⊢;let k:=s2 _ _ R;let Y:ca≠x:=λz=>by rw[z,hx]at k;cases k
 calc#[x,dx,ca,m,us,ps,rfl,k3,Y,O _ _ k,bK.same (s2.trans O) U,B,d,λH4 s4 I=>?_];let J:aZ H2 H4:=λb o hb=>s4 b o (O _ _ hb) (λz=>by rw[z,hx]at hb;cases hb)
 let L:=I;let⟨dx',l,cs',iG,_,_⟩:=L;let Z:=s2.trans J;calc#[rfl,_,_,iG,ZB _ _ () (),?_];refine#[x,pd,v,t,m,ps,zc zs cs,S,rfl,I,d,hU.tups Z.tups ht,hf,hw,J _ _ k2,λy hy=>?_,λy i hi=>(r y).1 i hi,λc H6 s6 hc=>?_]
 ·let⟨j,hj,e⟩:=cS<|g y hy;let hz:zs[j]?=some y:=by rw[aA hj,e]
  let M:j<cs.length:=by rw[mT.1,D.len];exact hj
  exact#[cs[j],DG iC.1 hz<|aA M,mT.2 j _ _ (aA M)<|W j y hz]
 ·refine#[c,val m ps S t,rfl,#[wG (λy=>(r y).2) t,hc],λy hy=>by have :=YB (λy i hi=>(r y).1 i hi) t hy;lia,λp H7 s7 hp k7=>q p H7 ((Z.trans s6).trans s7) ((Z.trans s6).free hp) k7]
abbrev kq:Stmt:=top 55
theorem gw:bP ["many","pairs"] ["many","pairs"] (zF kq):=by rfl'
abbrev s_J:Stmt:=top 56
theorem sc_J:bP ["spots","pairs","clashes","a","i"] ["spots","pairs"] (zF s_J):=by rfl'
abbrev s_A:Stmt:=top 57
theorem sc_A:bP ["spots","pairs","n"] ["spots","pairs","n"] (zF s_A):=by rfl'
theorem kP{a:Addr}{xs:List V}{ns:List Str}{js:List Nat}{g:TG}{tc:TT}{te:TE}{σ:St}{Q:VK}(Pv:Nat->List V->St->Hp->Prop)(h0:Pv 0 [] (kQ ns js σ) H)(hz:xs.length<=sizeLine)(hl:∀i ys σ H,Pv i ys σ H->ys.length<=i)
 (hK:∀i ys σ H,Pv i ys σ H->H a=some (.lst xs))
 (hs:∀(i:Nat) x ys σ H p (C:V->St->Hp->Prop) (D:St->Hp->Prop),xs[i]?=some x->Pv i ys σ H->H p=none->(∀y σ2 H3,Pv (i+1) (ys++[y]) σ2 H3->C y σ2 H3)->(∀σ2 H3,Pv (i+1) ys σ2 H3->D σ2 H3)->
  g (.ref p) σ (upd H p<|.tup [.int i,x]) λσ2 H2=>tc σ2 H2 λb H3=>if b=true then te σ2 H3 λy H4=>C y σ2 H4 else D σ2 H3)
 (hd:∀ys σ H,Pv xs.length ys σ H->∀p,H p=none->Q (.ref p) (upd H p<|.lst ys)):
 WU (Ite a) ns js g (some tc) te σ H Q:=by
 calc#[λi m ys σ H=>m=xs.length-i/\i<=xs.length/\Pv i ys σ H,#[xs.length,(),cO _,h0],λi m ys σ1 H1 z=>?_];let⟨hm,hi,hp⟩:=z;let k1:=hK i ys σ1 H1 hp;by_cases h:i<xs.length
 ·refine .inr #[#[xs,xs[i],k1,aA h],?_,λx H' ⟨p,y,c,d,f,j⟩=>?_]
  ·have :=hl i ys σ1 H1 hp;lia
  ·subst c;subst f;exact hs i y ys σ1 H1 p _ _ (j xs k1) hp d (λy σ2 H3 q=>#[xs.length-(i+1),(),rfl,(),q]) λσ2 H3 q=>#[xs.length-(i+1),(),rfl,(),q]
 ·let e:i=xs.length:=by lia
  subst e;exact .inl #[#[xs,k1,aG _],hd ys σ1 H1 hp]
noncomputable def rV(ls:List Ln):List (List eR×V):=ls.map λl=>(yU l.i l.j,V.bl true)
noncomputable def rl(ls:List Ln)(i j:Nat):Bool:=zK ls i j
theorem ZU(ls:List Ln)(i j:Int):(zY (rV ls)<|yU i j).isSome=zK ls i j:=by
 induction ls with
 |nil=>rfl
 |cons l ls b=>
  unfold zK;rw[hG];by_cases e:yU l.i l.j=yU i j
  ·let h:zY (rV (l::ls)) (yU i j)=some (V.bl true):=qD e;rw[h];let a:l.i=i/\l.j=j:=by
    unfold yU at e;simp only[WO,Sum.inl.injEq,and_true]at e;exact e
   simp[a.1,a.2]
  ·let h:zY (rV (l::ls)) (yU i j)=zY (rV ls) (yU i j):=jT e;rw[h,b];let a:(l.i==i&&l.j==j)=false:=by
    rw[dH];intro z;simp only[bU,cI]at z;exact e (by rw[z.1,z.2])
   rw[a,tD];rfl
theorem dgB{i j:Int}(hd:H d=some (.dT<|rV ls))(es:aZ H H')(hp:H' p=some (.tup [V.int i,V.int j])):nK H' d (.ref p) (zY (rV ls)<|yU i j):=nK.t (k:=yU i j) (es _ _ hd) hp
noncomputable def yF(m:Nat)(R:Nat->Nat->Bool):List Nat:=(List.range m).filter λn=>!R n (lF n)
noncomputable def jC(sp:List Nat)(R:Nat->Nat->Bool)(n:Nat):List Nat:=(List.range sp.length).filter λa=>R (sp.getD a 0) n
noncomputable def uY(sp:List Nat)(R:Nat->Nat->Bool):List (Nat×Nat):=(List.range sp.length).flatMap λa=>((List.range sp.length).filter λb=>decide (a<b)&&R (sp.getD a 0) (lF<|sp.getD b 0)).map λb=>(a,b)
inductive spSb (vs:List V) (H:Hp) (Q:VK) (E:XK):Prop
 |mk (m:Nat) (d:Addr) (ls:List Ln) (_:vs=[.int m,.ref d]) (_:m<=200) (_:H d=some (.dT<|rV ls)) (_:∀p H',aZ H H'->H p=none->H' p=some (.lst<|(yF m<|rl ls).map nV)->Q (.ref p) H')
inductive spSu (vs:List V) (H:Hp) (Q:VK) (E:XK):Prop
 |mk (sa d:Addr) (sp:List Nat) (ls:List Ln) (n:Nat) (_:vs=[.ref sa,.ref d,.int n]) (_:H sa=some (.lst<|sp.map nV)) (_:sp.length<=200) (_:H d=some (.dT<|rV ls)) (_:∀p H',aZ H H'->H p=none->H' p=some (.lst<|(jC sp (rl ls) n).map nV)->Q (.ref p) H')
inductive spCb (vs:List V) (H:Hp) (Q:VK) (E:XK):Prop
 |mk (sa d:Addr) (sp:List Nat) (ls:List Ln) (_:vs=[.ref sa,.ref d]) (_:H sa=some (.lst<|sp.map nV)) (_:sp.length<=80) (_:(∀x∈sp,x<200)) (_:H d=some (.dT<|rV ls)) (_:∀p us H',aZ H H'->H p=none->H' p=some (.lst us)->bK H' ((uY sp<|rl ls).map DF) us->Q (.ref p) H')
theorem AO(bi:Bi mg)(F:fR K "spots_by" "spots_by" kq f fd):cW P w K mg base fS 1 f fd ["many","pairs"] spSb:=by
 refine F.okz gw λeP A outer s H vs Q E hr h=>?_
 let⟨m,d,ls,rfl,hm,hd,q⟩:=h;calc#[_,have nd:=gw.nd;zH<|zS<|zX ["n"] ["pairs"] [1] #[] (λ_ _ _ _ nd=>yI 0 nd) (λ_ _ _ _=>vN<|YL (JK (xY hr) #[] #[]) (by with_unfolding_all rfl)) λ_ _ _ _=>#[],?_];dsimp![];calc#[(),(),?_];refine XA (n:=(m:Int).toNat) (λi ys σ H'=>aZ H H'/\ys=((List.range i).filter λn=>!rl ls n (lF n)).map nV/\∃o,σ=[o,some<|V.ref d]) #[aZ.refl _,rfl,_,rfl] (zI ()) (λi ys σ H' e=>?_) (λi ys σ H' C D hi e b g=>?_) λys σ H' e p hp=>?_
 ·let⟨_,rfl,_⟩:=e;rw[aD];exact bT (eK _ _) (by rw[cH];calc aG _)
 ·let⟨es,rfl,o,rfl⟩:=e;dsimp![QJ];rw[show(0:Int)+(i:Int)=(i:Int) by lia,tF,qE];calc#[zI (),λp hp=>#[_,dgB hd (es.trans<|zB hp _) zA,?_]];let a:=es.trans<|zB hp<|.tup [V.int (i:Int),V.int ((lF i:Nat):Int)];rw[show(zY (rV ls)<|yU (i:Int) ((lF i:Nat):Int)).isSome=rl ls i (lF i)from ZU ls _ _];cases c:rl ls i (lF i)with
  |false=>
   rw[aO rfl];exact b _ _ _ #[a,by rw[dL,eA,aQ];simp[c],_,rfl]
  |true=>
   rw[aH ()];exact g _ _ #[a,by rw[dL,eA,aQ];simp[c],_,rfl]
 ·let⟨es,rfl,o,rfl⟩:=e;exact q p _ (es.trans<|zB hp _) (es.free hp) (by rw[zA];rfl)
theorem YS(bi:Bi mg)(be:mg "enumerate"=none)(F:fR K "spots_under" "spots_under" s_A f fd):cW P w K mg base fS 1 f fd ["spots","pairs","n"] spSu:=by
 refine F.okz sc_A λeP A outer s H vs Q E hr h=>?_
 let⟨sa,d,sp,ls,n,rfl,hs,hl,hd,q⟩:=h;calc#[_,have nd:=sc_A.nd;zH<|zS<|zX ["a","i"] ["pairs","n"] [1,2] #[] (λ_ _ _ _ nd=>qN (K:=K) (n:=2) rfl<|yE (yI 0 nd)<|yE (yI 1 nd) jR) (λ_ _ _ _=>vN<|YL (YO (xY hr) #[] #[]) (by with_unfolding_all rfl)) λ_ _ _ _=>#[],?_];dsimp![vU];calc#[sp.map nV,hs,?_];refine kP (xs:=sp.map nV) (λi ys σ H'=>aZ H H'/\ys=((List.range i).filter λa=>rl ls (sp.getD a 0) n).map nV/\∃g j,σ=[g,j,some<|V.ref d,some<|V.int n]) #[aZ.refl _,rfl,_,_,rfl] (zI (by rw[aD];lia)) (λi ys σ H' e=>?_) (λi ys σ H' e=>e.1 _ _ hs) (λi x ys σ H' p C D hx e hp m o=>?_) λys σ H' e p hp=>?_
 ·let⟨_,rfl,_⟩:=e;rw[aD];exact bT (eK _ _) (by rw[cH];calc aG _)
 ·let⟨es,rfl,g,j,rfl⟩:=e;rw[aF]at hx;let⟨y,hy,rfl⟩:=aL.mp hx;let k:sp.getD i 0=y:=by rw[aU,hy];rfl
  let b:=es.trans<|zB hp<|.tup [V.int i,nV y];dsimp![uO,jI,uX,DQ];calc#[_,cV.of zA,rfl,_,_,rfl,_,_,rfl,rfl,?_];generalize upd H' p (.tup [V.int i,nV y])=H1 at b⊢;calc#[zI (),λp2 mK=>#[_,dgB hd (b.trans<|zB mK _) zA,?_]];let l:=b.trans<|zB mK<|.tup [V.int y,V.int n];rw[show(zY (rV ls)<|yU (y:Int) (n:Int)).isSome=rl ls y n from ZU ls _ _];cases c:rl ls y n with
  |true=>
   rw[aO rfl];exact m _ _ _ #[l,by rw[dL,eA,aQ,iR,k,c];rfl,_,_,rfl]
  |false=>
   rw[aH ()];exact o _ _ #[l,by rw[dL,eA,aQ,iR,k,c];simp,_,_,rfl]
 ·let⟨es,rfl,_⟩:=e;exact q p _ (es.trans<|zB hp _) (es.free hp) (by rw[zA,aD];rfl)
theorem XV(bi:Bi mg)(be:mg "enumerate"=none)(F:fR K "clashes_by" "clashes_by" s_J f fd):cW P w K mg base fS 1 f fd ["spots","pairs"] spCb:=by
 refine F.okz sc_J λeP A outer s H vs Q E hr h=>?_
 let⟨sa,d,sp,ls,rfl,hs,hl,lR,hd,q⟩:=h;calc#[_,have nd:=sc_J.nd;zC #[]<|zC (yC bO rfl #[] (EG rfl<|yE (wN (i:=3) nd rfl<|Or.inr rfl)<|yE (wN (i:=4) nd rfl<|Or.inr rfl) jR)<|zH<|xE<|qZ cM gC lD MC #[]<|zE (zX ["b","j"] ["a","pairs","i"] [3,1,4] #[] (λ_ _ _ _ nd=>qN (K:=K) (n:=2) rfl<|yE (yI 0 nd)<|yE (yI 1 nd) jR) (λ_ _ _ _=>vN<|PW.pt<|EC #[]<|HU<|YL (YO (xY hr) #[] #[]) (by with_unfolding_all rfl)) λ_ _ _ _=>#[]) zJ) #[],?_];refine zD λN O=>?_
 dsimp![];calc#[zI (),λp hp=>O _ _ ?_];clear O;let R:=zB hp<|.lst [];let k0:upd H p (.lst []) p=some (.lst []):=zA;generalize upd H p (.lst [])=H0 at R k0⊢;refine zP (λσ H'=>∃(us:List V)(r t:Option V),aZ H H'/\H' p=some (.lst us)/\bK H' ((uY sp<|rl ls).map DF) us/\σ=[some<|V.ref sa,some<|V.ref d,some<|V.ref p,r,t]) (λN O=>?_) λσ H' h=>?_
 ·dsimp![vU];calc#[sp.map nV,R _ _ hs,?_];refine ZX (xs:=sp.map nV) (λi σ H'=>∃(us:List V)(r t:Option V),aZ H H'/\H' p=some (.lst us)/\bK H' (((List.range i).flatMap λa=>((List.range sp.length).filter λb=>decide (a<b)&&rl ls (sp.getD a 0) (lF<|sp.getD b 0)).map λb=>(a,b)).map DF) us/\us.length<=80*i/\σ=[some<|V.ref sa,some<|V.ref d,some<|V.ref p,r,t]) #[[],_,_,R,k0,rfl,aG _,rfl] (λi σ H' h=>by let⟨_,_,_,e,_⟩:=h;calc e _ _ hs) (λi x σ H' Z hx h lX M hM=>?_) λσ H' h=>?_
  ·let⟨us,r,t,es,kp,g,hul,rfl⟩:=h;rw[aF]at hx;let⟨y,hy,rfl⟩:=aL.mp hx;let ey:sp.getD i 0=y:=by rw[aU,hy];rfl
   let hi:=(aC.mp hy).1;let B:=zB lX<|.tup [V.int i,nV y];dsimp![uO,jI,uX,vU,HR];calc#[_,cV.of zA,rfl,_,_,rfl,_,_,rfl,rfl,.inl #[rfl,_,dB.of<|B _ _ kp],sp.map nV,(es.trans B) _ _ hs,?_];replace kp:=B _ _ kp;replace g:=bK.same B g;replace es:=es.trans B;generalize upd H' Z (.tup [V.int i,nV y])=H1 at kp g es⊢;refine kP (xs:=sp.map nV) (λj ys σ H2=>aZ H1 H2/\bK H2 ((((List.range j).filter λb=>decide (i<b)&&rl ls y (lF<|sp.getD b 0)).map λb=>(i,b)).map DF) ys/\ys.length<=j/\∃S T,σ=[S,T,some<|V.int i,some<|V.ref d,some<|V.int y]) #[aZ.refl _,rfl,aG _,_,_,rfl] (zI (by rw[aD];lia)) (λj ys σ H2 e=>e.2.2.1) (λj ys σ H2 e=>(es.trans e.1) _ _ hs) (λj x ys σ H2 p2 C D hx e mK hC hD=>?_) λys σ H2 e p2 mK=>?_
   ·let⟨G,k,I,S,T,rfl⟩:=e;rw[aF]at hx;let⟨u,hu,rfl⟩:=aL.mp hx;let X:sp.getD j 0=u:=by rw[aU,hu];rfl
    let l:=G.trans<|zB mK<|.tup [V.int j,nV u];replace k:=bK.same (zB mK<|.tup [V.int j,nV u]) k;dsimp![uO,jI,uX,DQ];calc#[_,cV.of zA,rfl,_,_,rfl,_,_,rfl,rfl,?_];generalize upd H2 p2 (.tup [V.int j,nV u])=H3 at l k⊢;let no:(decide (i<j)&&rl ls y (lF<|sp.getD j 0))=false->∀U,aZ H3 U->D [some<|V.int j,some<|V.int u,some<|V.int i,some<|V.ref d,some<|V.int y] U:=λc U v=>hD _ _ #[l.trans v,by rw[dL,eA,iR,c];simpa using bK.same v k,(),_,_,rfl]
    calc#[_,rfl,?_];by_cases Y:i<j
    ·rw[aO ()];calc#[_,rfl,?_];rw[tF,qE];calc#[zI (),λp3 J=>#[_,dgB hd ((es.trans l).trans (zB J _)) zA,?_]];let v:=zB J<|.tup [V.int y,V.int ((lF u:Nat):Int)];rw[show(zY (rV ls)<|yU (y:Int) ((lF u:Nat):Int)).isSome=rl ls y (lF u)from ZU ls _ _];cases c:rl ls y (lF u)with
     |true=>
      rw[aO rfl];calc#[zI (),λp4 L=>hC _ _ _ #[(l.trans v).trans (zB L _),?_,by rw[aK];simp;lia,_,_,rfl]];rw[dL,eA,iR,X,c,cP Y,aQ,aQ];exact bK.append (bK.same (v.trans<|zB L _) k)<|bK.one #[p4,_,rfl,zA,_,_,rfl,rfl,_,_,rfl,rfl,rfl]
     |false=>
      rw[aH ()];exact no (by rw[X,c,mH]) _ v
    ·rw[aH ()];exact no (by rw[cJ Y,fI]) _<|aZ.refl _
   ·let⟨G,k,I,S,T,rfl⟩:=e;rw[aD]at k I;let o:=G _ _ kp;let n2:p2≠p:=λz=>by rw[z,o]at mK;cases mK
    let l:=zB mK<|.lst ys;calc#[p2,rfl,us,l _ _ o,ys,zA,bT (m:=1000000) () (),?_];let W:=l _ _ o;let tsm:cX (upd H2 p2<|.lst ys) (upd (upd H2 p2<|.lst ys) p<|.lst<|us++ys):=(cX.refl _).upd_lst W;calc hM _ _ #[us++ys,_,_,((es.trans G).trans l).upd hp,zA,?_,by rw[aK];lia,rfl];rw[dL,fO,aQ];calc bK.append (YQ (G.tups.trans<|l.tups.trans tsm) g) ?_;rw[List.flatMap_cons,List.flatMap_nil,cE,ey];exact YQ (l.tups.trans tsm) k
  ·let⟨us,r,t,es,kp,g,_,rfl⟩:=h;rw[aD]at g;exact O _ _ #[us,_,_,es,kp,g,rfl]
 let⟨us,r,t,es,kp,g,rfl⟩:=h;dsimp![];exact q p us _ es hp kp g
abbrev lh:Stmt:=top 58
theorem ic:bP ["sheet","lines","pairs","spots","names"] ["sheet","lines"] (zF lh):=by rfl'
theorem AE{α β:Type}{f:α->β}{l' l:List β}(h:l'.Perm l):∀T:List α,l=T.map f->∃T':List α,T'.Perm T/\l'=T'.map f:=by
 induction h with
 |nil=>intro T e;exact#[T,oY _,e]
 |cons x _ j=>
  intro T e;cases T with
  |nil=>cases e
  |cons t b=>
   rw[bV]at e;let⟨c,a⟩:=sY e;let⟨T',p,d⟩:=j b a;exact#[t::T',p.cons _,by rw[bV,c,d]]
 |swap x y l=>
  intro T e;cases T with
  |nil=>cases e
  |cons k T=>
   cases T with
   |nil=>cases (sY e).2
   |cons m b=>
    rw[bV,bV]at e;let⟨c,a⟩:=sY e;let⟨a,d⟩:=sY a;exact#[m::k::b,List.Perm.swap ..,by rw[bV,bV,c,a,d]]
 |trans _ _ g i=>
  intro T e;let⟨b,n,c⟩:=i T e;let⟨o,p2,a⟩:=g b c;exact#[o,p2.trans n,a]
noncomputable def SE(rows:List Rw)(k:Nat):Option Str:=match rows[k]? with |some (.nm x)=>some x |_=>none
noncomputable def FF(rows:List Rw):List (Str×Nat):=(List.range rows.length).filterMap λk=>(SE rows k).map λx=>(x,k)
abbrev Ro:=Addr×Str×Addr×List Nat
def GC(H:Hp)(m:Nat)(T:List Ro):Prop:=∀e∈T,H e.1=some (.tup [.str e.2.1,.ref e.2.2.1])/\H e.2.2.1=some (.lst<|e.2.2.2.map nV)/\(∀i∈e.2.2.2,i<m)/\e.2.2.2.Pairwise (· < ·)
theorem GC.same{m:Nat}{T:List Ro}(e:aZ H H')(h:GC H m T):GC H' m T:=λr hr=>let ⟨h1,h2,a⟩:=h r hr;#[e _ _ h1,e _ _ h2,a]
structure WoAt(H0 H:Hp)(wa:Addr)(sp:List Nat)(rows:List Rw)(ls:List Ln)(T:List Ro)(ca la:Addr)(us:List V):Prop where
 tup:H wa=some (.tup [nV sp.length,.ref ca,.ref la])
 cl:H ca=some (.lst us)
 dat:bK H ((uY sp<|rl ls).map DF) us
 lst:H la=some (.lst ((T.map (·.1)).map V.ref))
 tr:GC H sp.length T
 is:∀e∈T,∃k,(e.2.1,k)∈FF rows/\e.2.2.2=jC sp (rl ls) (2*k)
 perm:(T.map (·.2.1)).Perm ((FF rows).map (·.1))
 srt:(T.map (·.2.1)).Pairwise (λx y=>x.cps.toList<y.cps.toList)
inductive OJ (K:W.Frag) (vs:List V) (H:Hp) (Q:VK) (E:XK):Prop
 |mk (sa la:Addr) (us ws:List V) (rows:List Rw) (ls:List Ln) (_:vs=[.ref sa,.ref la]) (_:H sa=some (.lst us)) (_:fX K H rows us) (_:rows.length<=40) (_:(FF rows).length<=40) (_:((FF rows).map (·.1)).Nodup) (_:H la=some (.lst ws)) (_:vJ H ls ws) (_:ls.length<=10000) (_:(ls.map λl=>yU l.i l.j).Nodup) (_:(zK ls 1 0=true->∀H',aZ H H'->Q .non H')) (_:(zK ls 1 0=false->∀wa T ca ra vs H',aZ H H'->WoAt H H' wa (yF (2*rows.length)<|rl ls) rows ls T ca ra vs->Q (.ref wa) H'))
theorem AL(bi:Bi mg)(be:mg "enumerate"=none)(h_af:gD P w K mg base 1 "spots_by" ["many","pairs"] spSb)(h_A:gD P w K mg base 1 "spots_under" ["spots","pairs","n"] spSu)(h_J:gD P w K mg base 1 "clashes_by" ["spots","pairs"] spCb)(F:fR K "world_of" "world_of" lh f fd):cW P w K mg base fS 2 f fd ["sheet","lines"] (OJ K):=by
 refine F.okz ic λeP A outer s H vs Q E hr h=>?_
 let⟨sa,la,us,ws,rows,ls,rfl,O,Z,hrl,hn3,hnn,hla,hls,hll,hkn,qn,qw⟩:=h;calc#[_,have nd:=ic.nd;zC (qI (i:=2) nd rfl (Or.inr rfl)<|jM (CC<|TJ hr) rfl bi.dict ZY<|zE (zX ["line"] [] [] #[] (λ_ _ _ _ nd=>yI 0 nd) (λ_ _ _ _=>yA) λ_ _ _ _=>(jL<|zE (jL<|zE (zV (jS K) #[] zW)<|zE (zV (jS K) #[] zW) zJ) #[])) zJ)<|zC (yD (YL (YO (xY hr) #[] #[]) (by with_unfolding_all rfl)) #[] zO)<|zC (qI (i:=3) nd rfl (Or.inr rfl) #[])<|zC (ZQ (i:=4) ["k","row"] ["spots","pairs"] [3,2] nd rfl #[] (λ_ _ _ _ nd=>qN (K:=K) (n:=2) rfl<|yE (yI 0 nd)<|yE (yI 1 nd) jR) (λ_ _ _ _=>vN<|yG ID (zV (jS K) #[] zW) uH<|yP _) λ_ _ _ _=>(jL<|zE (zV (jS K) #[] zW)<|zE (zQ h_A hr.m rfl #[]) zJ))<|zH<|zS<|jL<|zE #[]<|zE #[]<|zE (zM UQ rfl bi.sorted JX #[]) zJ,?_];refine zD λN B=>?_
 dsimp![];let hwl:ws.length=ls.length:=by have :=bK.length hls;rwa[aD]at this
 calc#[#[_,dB.of hla],?_];refine yR (xs:=ws) (λi ys σ H'=>aZ H H'/\(∃as bs:List Addr,ys=as.map V.ref/\as.length=i/\bs.length=i/\∀(j:Nat)(a b:Addr)(l:Ln),as[j]?=some a->bs[j]?=some b->ls[j]?=some l->H' a=some (.tup [.ref b,.bl true])/\H' b=some (.tup<|(yU l.i l.j).map kV))/\∃o,σ=[o]) #[aZ.refl _,#[[],[],rfl,rfl,rfl,λj a b l h=>by simp at h],_,rfl] (bT (m:=1000000) () ()) (λi ys σ H' e=>?_) (λi ys σ H' e=>dB.of<|e.1 _ _ hla) (λi x ys σ H' C hx e hC=>?_) λys σ H' e p hp=>?_
 ·let⟨_,⟨as,bs,rfl,h1,_⟩,_⟩:=e;rw[aD,h1];exact aG _
 ·let⟨es,⟨as,bs,rfl,h1,h2,G⟩,o,rfl⟩:=e;let⟨l,hl,hx'⟩:=xJ hls hx;let⟨a0,b0,us0,rfl,g1,_⟩:=LnAt.out hx';replace g1:=es _ _ g1;dsimp![];calc#[_,cV.of g1,_,gG,_,cV.of g1,_,zU (j:=1) rfl,zI (),λb' hb'=>#[zI (),λa' ha'=>hC _ _ _ ?_]];let g:=zB hb'<|.tup [V.int l.i,V.int l.j];let e2:=zB ha'<|.tup [V.ref b',V.bl true];calc#[es.trans<|g.trans e2,#[as++[a'],bs++[b'],by rw[aQ];rfl,by rw[aK,h1];rfl,by rw[aK,h2];rfl,λj a b l' ha hb iH=>?_],_,rfl];by_cases hj:j<i
  ·rw[bE ()]at ha hb;let⟨k1,k2⟩:=G j a b l' ha hb iH;exact#[(g.trans e2) _ _ k1,(g.trans e2) _ _ k2]
  ·let ej:j=i:=by
    have :=(aC.mp ha).1;rw[aK]at this;simp at this;lia
   rw[ej,←h1,bI<|aG _]at ha;rw[ej,←h2,bI<|aG _]at hb;simp at ha hb;subst ha hb;rw[ej,hl]at iH;cases iH;exact#[zA,e2 _ _ zA]
 let⟨es,⟨as,bs,rfl,h1,h2,G⟩,o,rfl⟩:=e;let g:=zB hp<|.lst<|as.map V.ref;refine#[p,rfl,as,dB.of zA,rV ls,by unfold rV;rw[aD];lia,by unfold rV;rw[dU];exact hkn,λi k v hi=>?_,λd hd=>B _ _ ?_]
 ·unfold rV at hi;rw[aF]at hi;let⟨l,hl,el⟩:=aL.mp hi;cases el;let lY:=(aC.mp hl).1;let⟨k1,k2⟩:=G i as[i] bs[i] l (aA ()) (aA ()) hl;exact#[_,aA (),_,cV.of<|g _ _ k1,g _ _ k2]
 clear B G;let s1:=(es.trans g).trans (zB hd<|.dT<|rV ls);let I:upd (upd H' p<|.lst<|as.map V.ref) d (.dT<|rV ls) d=some (.dT<|rV ls):=zA;generalize upd (upd H' p<|.lst<|as.map V.ref) d (.dT<|rV ls)=H1 at s1 I⊢;clear es g hp hd h1 h2;refine zD λN B=>?_
 dsimp![DQ];calc#[zI (),λp hp=>#[_,dgB I (zB hp _) zA,?_]];replace s1:=s1.trans<|zB hp<|.tup [V.int 1,V.int 0];replace I:=zB hp (.tup [V.int 1,V.int 0]) _ _ I;rw[ZU];generalize upd H1 p (.tup [V.int 1,V.int 0])=H2 at s1 I⊢;cases c:zK ls 1 0 with
 |true=>
  rw[aO rfl];exact qn c _ s1
 |false=>
 rw[aH ()];calc B _ _ ?_;clear B qn hp;let qw:=qw c;refine zD λN B=>?_
 dsimp![];let hul:=Z.len;calc#[us.length,.inl #[_,dB.of<|s1 _ _ O,rfl],.inl #[(),()],2*rows.length,d,ls,by rw[hul];rfl,(),I,λps H3 s3 fps J=>B _ _ ?_];clear B;replace s1:=s1.trans s3;replace I:=s3 _ _ I;clear fps;refine zD λN B=>?_
 dsimp![vU];let L:(yF (2*rows.length)<|rl ls).length<=80:=bT (eK _ _) (by rw[cH];lia);let hsl:∀x∈yF (2*rows.length) (rl ls),x<200:=λx hx=>by have :=bN.mp (cN.mp hx).1;lia
 let hud:∀n,(∀i∈jC (yF (2*rows.length)<|rl ls) (rl ls) n,i<(yF (2*rows.length)<|rl ls).length)/\(jC (yF (2*rows.length)<|rl ls) (rl ls) n).Pairwise (· < ·):=λn=>#[λi hi=>bN.mp (cN.mp hi).1,fH _ dF]
 let e0:∀{q:Nat->Option (Str×Nat)}{i:Nat},(List.range<|i+1).filterMap q=(List.range i).filterMap q++(q i).toList:=λ{q i}=>by
  rw[dL,List.filterMap_append];cases h:q i<;>simp[h]
 generalize yF (2*rows.length) (rl ls)=sp at J qw L hsl hud;calc#[us,s1 _ _ O,?_];refine kP (xs:=us) (λi ys σ H'=>aZ H3 H'/\(∃T:List Ro,ys=(T.map (·.1)).map V.ref/\T.length<=i/\GC H' sp.length T/\(T.map λe=>(e.2.1,e.2.2.2))=((List.range i).filterMap λk=>(SE rows k).map λx=>(x,k)).map (λq=>(q.1,jC sp (rl ls)<|2*q.2))/\(∀e∈T,H3 e.2.2.1=none)/\(T.map (·.2.2.1)).Nodup)/\∃o1 o2,σ=[o1,o2,some<|V.ref ps,some<|V.ref d]) #[aZ.refl _,#[[],rfl,aG _,(λe he=>by cases he),rfl,(λe he=>by cases he),.nil],_,_,rfl] (zI ()) (λi ys σ H' e=>?_) (λi ys σ H' e=>(s1.trans e.1) _ _ O) (λi x ys σ H' p C D hx e hp hC hD=>?_) λys σ H' e p hp=>B _ _ ?_
 ·let⟨_,⟨T,rfl,h1,_⟩,_⟩:=e;rw[aD,aD];exact h1
 ·let⟨es,⟨T,rfl,h1,h2,G,h4,h5⟩,o1,o2,rfl⟩:=e;let⟨r,R,hr1⟩:=Z.get hx;let⟨ra,x,us',rfl,g1,g2⟩:=GD.out hr1;let g:=zB hp<|.tup [V.int i,V.ref ra];let S:=g1.same<|s1.trans<|es.trans g;replace h2:=h2.same g;replace es:=es.trans g;dsimp![uO,jI,uX];calc#[_,cV.of zA,rfl,_,_,rfl,_,_,rfl,rfl,?_];generalize upd H' p (.tup [V.int i,V.ref ra])=H4 at es S h2⊢;let no:SE rows i=none->D [some<|V.int i,some<|V.ref ra,some<|V.ref ps,some<|V.ref d] H4:=λhn=>hD _ _ #[es,#[T,rfl,(),h2,by rw[e0,hn];simpa using G,h4,h5],_,_,rfl]
  calc#[_,rfl,_,S.sq,_,gG,rfl,?_];cases r with
  |no=>
   let⟨rfl,rfl⟩:=g2;rw[aH ()];exact no (by unfold SE;rw[R])
  |bo i' j'=>
   let⟨rfl,rfl⟩:=g2;rw[aH ()];exact no (by unfold SE;rw[R])
  |nm y=>
  let⟨rfl,rfl⟩:=g2;rw[aO rfl];let hn:SE rows i=some y:=by unfold SE;rw[R]
  calc#[ra,rfl,_,S.sq,_,mV,_,rfl,.inl #[(),()],ps,d,sp,ls,2*i,by rw[show(2:Int)*(i:Int)=((2*i:Nat):Int) by lia],es _ _ J,(),es _ _ I,λpl H5 Y fpl kpl=>#[zI (),λp4 hp4=>hC _ _ _ ?_]];let e5:=zB hp4<|.tup [V.str y,V.ref pl];refine#[es.trans<|Y.trans e5,#[T++[(p4,y,pl,jC sp (rl ls)<|2*i)],by rw[aQ,aQ];rfl,by rw[aK];simp;lia,λe he=>?_,?_,λe he=>?_,?_],_,_,rfl]
  ·rcases cD.mp he with he |he
   ·exact(h2.same<|Y.trans e5) e he
   ·rw[aV.mp he];exact#[zA,e5 _ _ kpl,hud _]
  ·rw[e0,hn,aQ,aQ,G];rfl
  ·rcases cD.mp he with he |he
   ·exact h4 e he
   ·rw[aV.mp he];exact es.free fpl
  ·rw[aQ,mF];calc#[h5,by simp,λa ha b hb e=>?_];rw[bV,rA,aV]at hb;let⟨t,ht,rfl⟩:=bF.mp ha;have :=(h2 t ht).2.1;rw[e,hb,fpl]at this;cases this
 clear B;let⟨es,⟨T,rfl,h1,h2,G,h4,h5⟩,o1,o2,rfl⟩:=e;let g:=zB hp (.lst ((T.map (·.1)).map V.ref));let k4:upd H' p (.lst ((T.map (·.1)).map V.ref)) p=some (.lst ((T.map (·.1)).map V.ref)):=zA;replace h2:=h2.same g;replace es:=es.trans g;generalize upd H' p (.lst ((T.map (·.1)).map V.ref))=H4 at es k4 h2⊢;rw[hul]at G;let U:T.map (·.2.1)=(FF rows).map (·.1):=by
  have :=cQ (List.map Prod.fst) G;rwa[dU,dU]at this
 dsimp![];calc#[sp.length,.inl #[_,dB.of<|es _ _ J,(aD _).symm],ps,d,sp,ls,rfl,es _ _ J,L,hsl,es _ _ I,λca vs H5 Y fca kca hdc=>?_];let W:=h2.same Y;refine#[T.map (·.1),Y _ _ k4,T.map (·.2.1),by rw[aD,aD],by rw[U,aD];exact hn3,by rw[U];exact hnn,λi a z ha hz=>?_,λl lC mW hl mZ hpz hal hco hso=>#[zI (),λwa hwa=>?_]]
 ·rw[aF]at ha hz;let⟨t,ht,rfl⟩:=aL.mp ha;rw[ht]at hz;cases hz;exact#[_,(W t<|aP ht).1]
 let⟨T',hT,rfl⟩:=AE mZ T rfl;let ez:mW=T'.map (·.2.1):=by
  refine List.ext_getElem? λi=>?_
  rw[aF];rw[aD]at hal;cases hi:T'[i]? with
  |none=>
   rw[jf]at hi;rw[Option.map_none,jf];lia
  |some t=>
   let lY:=(aC.mp hi).1;let hz:mW[i]?=some mW[i]:=aA ();let⟨j,hj1,X⟩:=hco i t.1 mW[i] (by rw[aF,hi];rfl) hz;rw[aF]at hj1 X;let⟨u,hu,eu⟩:=aL.mp hj1;rw[hu]at X;let a1:=(W u<|aP hu).1;let a2:=(W t<|hT.mem_iff.mp<|aP hi).1;rw[eu,a2]at a1;have :t.2.1=u.2.1:=by
    have :=bY a1;injection this with this
    injection this with this _
    injection this
   rw[hz,Option.map_some,this];exact X.symm
 subst ez;let el:=zB hl (.lst ((T'.map (·.1)).map V.ref));let ew:=zB hwa<|.tup [V.int sp.length,V.ref ca,V.ref l];let elw:=el.trans ew;let M:aZ H4 (upd (upd H5 l (.lst ((T'.map (·.1)).map V.ref))) wa<|.tup [V.int sp.length,V.ref ca,V.ref l]):=Y.trans elw;refine qw wa T' ca l vs _ ((s1.trans es).trans M) #[zA,elw _ _ kca,bK.same elw hdc,ew _ _ zA,λe he=>(h2.same M) e<|hT.mem_iff.mp he,λe he=>?_,?_,hso]
 ·have :(e.2.1,e.2.2.2)∈T.map λe=>(e.2.1,e.2.2.2):=bF.mpr #[e,hT.mem_iff.mp he,rfl]
  rw[G]at this;let⟨q,hq,eq⟩:=bF.mp this;injection eq with q1 q2
  exact#[q.2,by rw[←q1];exact hq,q2.symm]
 ·rw[←U];exact hT.map _
theorem kD{α:Type}{xs:List α}{n:Int}{x:α}(h0:0<=n)(h:xs[n.toNat]?=some x):pO xs n=some x:=by
 obtain⟨m,rfl⟩:∃m:Nat,n=(m:Int):=#[n.toNat,()]
 exact zU (by simpa using h)
abbrev s_Q:Stmt:=top 50
abbrev s_W:Stmt:=top 51
theorem sc_W:bP ["lines","i","j","k","line"] ["lines","i","j"] (zF s_W):=by rfl'
abbrev s_S:Stmt:=top 52
abbrev ka:Stmt:=top 53
theorem gf:bP ["lines","i","j","k","kept","places"] ["lines","i","j"] (zF ka):=by rfl'
theorem j8(h:n<=100000):n<sizeLine:=fA h ()
theorem smB(h:n<=100000):n<=sizeLine:=pZ<|j8 h
def FP(ls:List Ln)(i j:Int)(r:V):Prop:=(r=.non/\∀l∈ls,¬(l.i=i/\l.j=j))\/∃(k:Nat)(l:Ln),r=.int k/\ls[k]?=some l/\(l.i=i/\l.j=j)/\∀(m:Nat)(l':Ln),m<k->ls[m]?=some l'->¬(l'.i=i/\l'.j=j)
inductive f9 (vs:List V) (H:Hp) (Q:VK) (E:XK):Prop
 |mk (la:Addr) (ws:List V) (ls:List Ln) (i j:Int) (_:vs=[.ref la,.int i,.int j]) (_:H la=some (.lst ws)) (_:vJ H ls ws) (_:∀r H',aZ H H'->FP ls i j r->Q r H')
theorem AV(bi:Bi mg)(be:mg "enumerate"=none)(F:fR K "line_for" "line_for" s_W f fd):cW P w K mg base fS 1 f fd ["lines","i","j"] f9:=by
 refine F.okz sc_W λeP A outer s H vs Q E hr h=>?_
 let⟨la,ws,ls,i,j,rfl,g,k,q⟩:=h;let y:=xM k;calc#[_,have nd:=sc_W.nd;zC (yC bO rfl #[] #[]<|zH<|yD (yG (kM hr.units) #[] #[]<|yP _) #[] zO) #[],?_];refine zP (λσ H'=>∃(c d:Option V),aZ H H'/\(∀l∈ls,¬(l.i=i/\l.j=j))/\σ=[some<|V.ref la,some<|V.int i,some<|V.int j,c,d]) (λN B=>?_) λσ H' h=>?_
 ·dsimp![vU];calc#[_,g,?_];refine IN (xs:=ws) (λn σ H'=>∃(c d:Option V),aZ H H'/\(∀(m:Nat)(l':Ln),m<n->ls[m]?=some l'->¬(l'.i=i/\l'.j=j))/\σ=[some<|V.ref la,some<|V.int i,some<|V.int j,c,d]) #[_,_,aZ.refl _,(λm l z=>by cases z),rfl] (λn σ H' h=>?_) (λn x σ H' p hx h hp=>?_) λσ H' h=>?_
  ·let⟨c,d,s1,_⟩:=h;exact s1 _ _ g
  ·let⟨c,d,s1,a,rfl⟩:=h;let⟨l,o,r⟩:=xJ k hx;let⟨b,u,rfl,hb,_⟩:=mr r;let s2:=zB hp<|.tup [.int n,.ref b];let k2:upd H' p (.tup [.int n,.ref b]) p=some (.tup [.int n,.ref b]):=zA;replace s1:=s1.trans s2;generalize upd H' p (.tup [.int n,.ref b])=H2 at s1 k2⊢;replace hb:=s1 _ _ hb;dsimp![uO,jI,uX];calc#[[.int n,.ref b],cV.of k2,rfl,.int n,[.ref b],rfl,.ref b,[],rfl,rfl,?_];calc#[b,rfl,_,cV.of hb,_,gG,b,rfl,_,cV.of hb,_,mV,smB (by simp),λC D=>#[smB (by simp),λG I=>?_]];let v:=zB D<|.tup [.int l.i,.int l.j];let t:=zB I<|.tup [.int i,.int j];calc#[0,NH (l.i,l.j),#[C,_,rfl,t _ _ zA,_,_,rfl,rfl,_,_,rfl,rfl,rfl],NH (i,j),#[G,_,rfl,zA,_,_,rfl,rfl,_,_,rfl,rfl,rfl],ny 0 _,(),_,rfl,?_];rw[n0];by_cases e:l.i=i/\l.j=j
   ·rw[aO (by rw[e.1,e.2];simp)];exact q _ _ (s1.trans<|v.trans t)<|.inr #[n,l,rfl,o,e,a]
   ·rw[aH (by simpa using e)];calc#[s1.trans<|v.trans t,λm l' hm iH=>?_,_,rfl];by_cases J:m=n
    ·subst J;rw[o]at iH;cases iH;exact e
    ·exact a m l' () iH
  ·let⟨c,d,s1,a,rfl⟩:=h;calc B _ _ #[c,d,s1,λl hl=>?_,rfl];let⟨m,hm,e⟩:=cS hl;exact a m l () (by rw[aA hm,e])
 let⟨c,d,s1,a,rfl⟩:=h;dsimp![];exact q _ _ s1<|.inl #[rfl,a]
structure Rl(M:Nat)(R:Nat->Nat->Bool):Prop where
 refl:∀x,x<M->R x x=true
 turn:∀i j,R i j=true->R (lF j) (lF i)=true
 trans:∀i j k,R i j=true->R j k=true->R i k=true
 all:∀i n,R i (lF i)=true->n<M->R i n=true
 ev:∃h,M=2*h
theorem Rl.of{rules:List zZ}(hp:Pl rows (2*rows.length) rows.length ls)(hc:Cl rows rules ls.length ls):Rl (2*rows.length) (rl ls):=by
 let lt:∀{p:Nat}{l:Ln},ls[p]?=some l->p<ls.length:=λh=>(aC.mp h).1
 refine#[λx hx=>hp.same x hx,λi j h=>?_,λi j k h1 h2=>?_,λi n h hn=>?_,_,rfl]
 ·let⟨p,l,g1,g2,g3⟩:=fE.mp h;exact hc.turn p l i j (lt g1) g1 g2 g3
 ·let⟨p,l,g1,g2,g3⟩:=fE.mp h1;let⟨d,l',a,b,c⟩:=fE.mp h2;exact hc.chain p d l l' i j k (lt g1) (lt a) g1 a g2 g3 b c
 ·let⟨p,l,g1,g2,g3⟩:=fE.mp h;exact hc.clash p l i (lF i) (lt g1) g1 g2 g3 (qE i).symm n hn
section
variable {M:Nat} {R:Nat->Nat->Bool}
theorem Rl.sym(h:Rl M R)(g:R i (lF j)=true):R j (lF i)=true:=by
 have :=h.turn _ _ g;rwa[vK]at this
theorem Rl.lt(h:Rl M R)(hn:n<M):lF n<M:=by
 let⟨k,hk⟩:=h.ev;rw[hk]at hn⊢;exact YD hn
theorem oU{x:Nat}:x∈yF M R↔x<M/\R x (lF x)=false:=by
 unfold yF;rw[cN,bN];simp
theorem QO(ha:a<(yF M R).length):(yF M R).getD a 0∈yF M R:=by
 rw[aU,aA ha];exact bW ha
theorem lJ:a∈jC sp R n↔a<sp.length/\R (sp.getD a 0) n=true:=by
 unfold jC;rw[cN,bN]
theorem sF{p:Nat×Nat}:p∈uY sp R↔p.1<sp.length/\p.2<sp.length/\p.1<p.2/\R (sp.getD p.1 0) (lF<|sp.getD p.2 0)=true:=by
 unfold uY;rw[dP];constructor
 ·rintro⟨a,ha,hp⟩;let⟨b,hb,rfl⟩:=bF.mp hp;rw[cN,bN]at hb;simp only[bU,bS]at hb;exact#[bN.mp ha,hb.1,hb.2.1,hb.2.2]
 ·rintro⟨h1,h2,c,d⟩;calc#[p.1,bN.mpr h1,bF.mpr #[p.2,?_,rfl]];rw[cN,bN];simp only[bU,bS];exact#[h2,c,d]
theorem VP:yY ps a b=true↔(a,b)∈ps\/(b,a)∈ps:=by
 unfold yY;rw[fD];constructor
 ·rintro⟨p,hp,h⟩;simp only[lH,bU,cI]at h;rcases h with⟨h1,h2⟩ |⟨h1,h2⟩
  ·exact .inl (by rw[←h1,←h2];calc hp)
  ·exact .inr (by rw[←h1,←h2];calc hp)
 ·rintro(h |h)
  ·exact#[_,h,by simp]
  ·exact#[_,h,by simp]
theorem iy(h:Rl M R)(ha:a<(yF M R).length)(hb:b<(yF M R).length):yY (uY (yF M R) R) a b=R ((yF M R).getD a 0) (lF<|(yF M R).getD b 0):=by
 rw[bZ,VP,sF,sF];constructor
 ·rintro(⟨_,_,_,g⟩ |⟨_,_,_,g⟩)
  ·exact g
  ·exact h.sym g
 ·intro g;rcases Nat.lt_trichotomy a b with l |e |l
  ·exact .inl #[ha,hb,l,g]
  ·subst e;have :=(oU.mp<|QO ha).2;rw[this]at g;cases g
  ·exact .inr #[hb,ha,l,h.sym g]
theorem UM(h:Rl M R)(hn:n<M):cnt (yF M R).length (uY (yF M R) R) (jC (yF M R) R n)=jC (yF M R) R (lF n):=by
 unfold cnt;show _=(List.range (yF M R).length).filter λa=>R ((yF M R).getD a 0)<|lF n
 refine List.filter_congr λi hi=>?_
 let hi:=bN.mp hi;let d:=oU.mp<|QO hi;rw[bZ,cF];constructor
 ·intro g;by_cases c:R n (lF n)=true
  ·exact h.sym<|h.all n _ c<|h.lt d.1
  ·let hm:n∈yF M R:=oU.mpr #[hn,dH.mpr c];let⟨a,ha⟩:=iM hm;let e:(yF M R).getD a 0=n:=by rw[aU,ha];rfl
   let b:=(aC.mp ha).1;have :=g a (lJ.mpr #[b,by rw[e];calc h.refl n hn]);rw[iy h b hi,e]at this;exact h.sym this
 ·intro g a ha;let⟨b,hr⟩:=lJ.mp ha;rw[iy h b hi];exact h.sym<|h.trans _ _ _ g<|h.turn _ _ hr
theorem BW(h:Rl M R)(hn:n<M):cnt (yF M R).length (uY (yF M R) R) (cnt (yF M R).length (uY (yF M R) R) (jC (yF M R) R n))=jC (yF M R) R n:=by
 rw[UM h hn,UM h<|h.lt hn,vK]
theorem UO(sp:List Nat):i8 sp.length (uY sp R):=λp hp=>let ⟨_,h2,a,_⟩:=sF.mp hp;#[a,h2]
theorem BR{α β:Type}(f:α->List β)(n:Nat):∀xs:List α,(∀x∈xs,(f x).length<=n)->(xs.flatMap f).length<=xs.length*n
 |[],_=>by simp
 |x::xs,h=>by
  let a:=BR f n xs λy hy=>h y<|aX _ hy
  let b:=h x aW;rw[List.flatMap_cons,aK,bC,Nat.add_mul,Nat.one_mul];lia
theorem d8(sp:List Nat):(uY sp R).length<=sp.length*sp.length:=by
 have :=BR (λa=>((List.range sp.length).filter λb=>decide (a<b)&&R (sp.getD a 0) (lF<|sp.getD b 0)).map λb=>(a,b)) sp.length (List.range sp.length) λx _=>by
  rw[aD];exact bT (eK _ _) (by rw[cH];calc aG _)
 rw[cH]at this;exact this
theorem HD:(yF M R).length<=M:=bT (eK _ _) (by rw[cH];calc aG _)
theorem av(hM:2<=M)(h:R 1 0=false):1<=(yF M R).length:=rB (oU.mpr #[(),h]:1∈yF M R)
end
theorem UD{x:Str}{k:Nat}(h:(x,k)∈FF rows):rows[k]?=some (.nm x)/\k<rows.length:=by
 unfold FF at h;let⟨q,hq,e⟩:=gQ.mp h;unfold SE at e;split at e
 ·rename_i y hy
  cases e;exact#[hy,bN.mp hq]
 ·cases e
section
variable {M:Nat} {R:Nat->Nat->Bool}
theorem NT(h:Rl M R)(low:∀x,x<M->R 0 x=true):jC (yF M R) R 0=[]:=by
 unfold jC;refine List.filter_eq_nil_iff.mpr λa ha hr=>?_
 let⟨h1,h2⟩:=oU.mp<|QO<|bN.mp ha;have :=h.trans _ _ _ hr<|low _<|h.lt h1;rw[h2]at this;cases this
theorem NW(h:Rl M R)(hi:R n i=true)(hj:R n j=true)(hb:∀x,R x i=true->R x j=true->R x n=true):(jC sp R i).filter (λa=>decide<|a∈jC sp R j)=jC sp R n:=by
 unfold jC;rw[List.filter_filter];refine List.filter_congr λa ha=>?_
 let b:=bN.mp ha;rw[bZ,bU,bS];constructor
 ·rintro⟨h1,h2⟩;exact hb _ h2 (lJ.mp h1).2
 ·intro g;exact#[lJ.mpr #[b,h.trans _ _ _ g hj],h.trans _ _ _ g hi]
theorem KN(h:Rl M R)(hi:i<M)(hj:j<M):((jC (yF M R) R i).all λa=>decide<|a∈jC (yF M R) R j)=R i j:=by
 rw[bZ,cF];constructor
 ·intro g;by_cases c:R i (lF i)=true
  ·exact h.all i j c hj
  ·let hm:i∈yF M R:=oU.mpr #[hi,dH.mpr c];let⟨a,ha⟩:=iM hm;let d:(yF M R).getD a 0=i:=by rw[aU,ha];rfl
   let b:=(aC.mp ha).1;have :=g a (lJ.mpr #[b,by rw[d];calc h.refl i hi]);have :=(lJ.mp<|of_decide_eq_true this).2;rwa[d]at this
 ·intro g a ha;let⟨h1,h2⟩:=lJ.mp ha;exact cP<|lJ.mpr #[h1,h.trans _ _ _ h2 g]
end
abbrev In2(n:Nat)(p:Pr):Prop:=(0<=p.1/\p.1<(n:Int))/\0<=p.2/\p.2<(n:Int)
structure Clo(rows:List Rw)(rules:List zZ)(X:Int->Int->Prop):Prop where
 same:∀n:Nat,n<2*rows.length->X n n
 low:∀n:Nat,n<2*rows.length->X 0 n
 high:∀n:Nat,n<2*rows.length->X n 1
 part:∀(k:Nat)(x y:Int),rows[k]?=some (.bo x y)->X ((2*k:Nat):Int) x/\X ((2*k:Nat):Int) y
 clash:∀i j:Nat,i<2*rows.length->j<2*rows.length->X i (rO i)->X i j
 both:∀(i k:Nat)(x y:Int),i<2*rows.length->rows[k]?=some (.bo x y)->X i x->X i y->X i ((2*k:Nat):Int)
 chain:∀i m j:Nat,i<2*rows.length->m<2*rows.length->j<2*rows.length->X i m->X m j->X i j
 turn:∀i j:Nat,i<2*rows.length->j<2*rows.length->X i j->X (rO j) (rO i)
 rule:∀q∈rules,(∀p∈q.1,X p.1 p.2)->X q.2.1 q.2.2
theorem AI{x:Int}(h:x∈oO rows n):∃(k:Nat)(a b:Int),n=2*k/\rows[k]?=some (.bo a b)/\oO rows n=[a,b]:=by
 unfold oO at h⊢;by_cases h2:(n:Int) % 2=0
 ·rw[aO h2]at h⊢;let e:((n:Int)/2).toNat=n/2:=by lia
  rw[e]at h⊢;cases hr:rows[n/2]? with
  |none=>rw[hr]at h;cases h
  |some r=>
   rw[hr]at h;cases r with
   |no=>cases h
   |nm y=>cases h
   |bo a b=>exact#[n/2,a,b,(),hr,rfl]
 ·rw[aH h2]at h;cases h
theorem SQ{rules:List zZ}{X:Int->Int->Prop}(c:Clo rows rules X)(h:NA rows rules ls):∀(k:Nat)(l:Ln),ls[k]?=some l->X l.i l.j:=by
 intro k
 induction k using Nat.strongRecOn with
 |ind k F=>
  intro l hl;let hs:=h.snd k l hl;let hr:=qV hs;let w:∀(a:Wt)(p:Pr),jA ls k a=some p->In2 (2*rows.length) p/\X p.1 p.2:=λa p hp=>by
   cases a with
   |ps _=>cases hp
   |n i=>
    by_cases hi:0<=i/\i<(k:Int)
    ·cases hq:ls[i.toNat]? with
     |none=>
      have :jA ls k (.n i)=none:=by
       show(if 0<=i/\i<(k:Int)then(ls[i.toNat]?).map λl=>(l.i,l.j)else none)=_;rw[aO hi,hq];rfl
      rw[this]at hp;cases hp
     |some l'=>
      rw[OP hi hq]at hp;cases hp;let iG:=qV<|h.snd _ l' hq;exact#[#[#[iG.1.1,by have :=iG.1.2;show l'.i<_;lia],iG.2.1,by have :=iG.2.2;show l'.j<_;lia],F _ () l' hq]
    ·rw[OQ hi]at hp;cases hp
  let⟨⟨y,A⟩,B,C⟩:=hr;unfold xV at hs;rw[aH (by rintro(z |z);calc z #[y,A];calc z #[B,C])]at hs;split at hs
  ·unfold vA at hs;split at hs
   ·rename_i r ps _
    split at hs
    ·rename_i G
     split at hs
     ·rename_i q hq
      rw[bU,cI,cI]at hs;let g:l.i=q.2.1:=cQ Prod.fst hs.1;let o:l.j=q.2.2:=cQ Prod.snd hs.1;rw[g,o];refine c.rule q (aP hq) λp hp=>?_
      let hm:some p∈ps.map λp=>jA ls k (.n p):=by rw[hs.2];exact bF.mpr #[p,hp,rfl]
      let⟨x,_,hx⟩:=bF.mp hm;exact(w _ p hx).2
     ·cases hs
    ·cases hs
   ·cases hs
  ·split at hs
   ·let d:∀p∈l.as.filterMap (jA ls k),In2 (2*rows.length) p/\X p.1 p.2:=λp hp=>by
     let⟨a,_,ha⟩:=gQ.mp hp;exact w a p ha
    generalize l.as.filterMap (jA ls k)=ps at hs d;obtain⟨i,hi⟩:∃i:Nat,l.i=(i:Int):=dW y;obtain⟨j,H⟩:∃j:Nat,l.j=(j:Int):=dW B;rw[hi]at A hs⊢;rw[H]at C hs⊢;let f:i<2*rows.length:=by lia
    let s:j<2*rows.length:=by lia
    unfold yN at hs;split at hs
    ·rw[cI]at hs;rw[←hs];exact c.same i f
    split at hs
    ·rw[lH,cI,cI]at hs;rcases hs with e |e
     ·rw[e];exact c.low j s
     ·rw[e];exact c.high i f
    split at hs
    ·rw[fD]at hs;let⟨x,hx,e⟩:=hs;rw[cI]at e;let⟨m,a,b,g,o,t⟩:=AI hx;rw[t]at hx;have :=c.part m a b o;rw[g,←e];simp only[bJ,fC,or_false]at hx;rcases hx with rfl |rfl
     ·exact this.1
     ·exact this.2
    split at hs
    ·split at hs
     ·rename_i a b hp
      rw[cI]at hs;let⟨m,J,K,g,o,t⟩:=AI (show a∈oO rows j by rw[hp];calc aW);rw[hp]at t;cases t;let u:=(d (i,a) (by rw[hs];simp)).2;let I:=(d (i,b) (by rw[hs];simp)).2;rw[g];exact c.both i m a b f o u I
     ·cases hs
    split at hs
    ·rw[cI]at hs;let u:=(d (rO j,rO i) (by rw[hs];simp)).2;rw[qE,qE]at u;have :=c.turn (lF j) (lF i) (YD s) (YD f) u;rw[qE,qE,vK,vK]at this;exact this
    split at hs
    ·split at hs
     ·rename_i p q
      rw[bU,bU,cI,cI,cI]at hs;let⟨D,p2⟩:=d p (by simp);let⟨L,E⟩:=d q (by simp);obtain⟨m,hm⟩:∃m:Nat,p.2=(m:Int):=dW D.2.1;let v:=D.2.2;rw[hm]at v;rw[hs.1.1,hm]at p2;rw[←hs.1.2,hs.2,hm]at E;exact c.chain i m j f () s p2 E
     ·cases hs
    ·rw[cI]at hs;exact c.clash i j f s (d (i,rO i) (by rw[hs];simp)).2
   ·cases hs
def pp(m:Nat)(ps:List (Nat×Nat))(A:Nat->Prop)(a:Nat):Prop:=a<m/\∀b,A b->yY ps b a=true
structure Fw(m:Nat)(ps:List (Nat×Nat))(S:Str->List Nat):Prop where
 irr:∀a,yY ps a a=false
 full:∀x a,a∈S x↔a∈cnt m ps (cnt m ps<|S x)
theorem TD{m:Nat}(h:i8 m ps)(a:Nat):yY ps a a=false:=by
 rw[dH];intro z;unfold yY at z;let⟨p,hp,e⟩:=fD.mp z;have :=(h p hp).1;simp only[lH,bU,cI]at e;lia
theorem oP{m:Nat}{v:List Nat}:a∈cnt m ps v↔pp m ps (· ∈v) a:=by
 rw[pJ,cF];rfl
theorem jD{m:Nat}{A B:Nat->Prop}(h:∀a,A a↔B a)(a:Nat):pp m ps A a↔pp m ps B a:=by
 unfold pp;exact and_congr_right λ_=>forall_congr' λb=>by rw[h b]
def tU(S:Str->List Nat)(U:Nat->Nat->Prop):Rw->Nat->Prop
 | .no,_=>False
 | .nm x,a=>a∈S x
 | .bo i j,a=>U i.toNat a/\U j.toNat a
structure Vw(m:Nat)(ps:List (Nat×Nat))(S:Str->List Nat)(rows:List Rw)(U:Nat->Nat->Prop):Prop where
 row:∀(k:Nat)(r:Rw),rows[k]?=some r->∀a,U (2*k) a↔tU S U r a
 odd:∀k,k<rows.length->∀a,U (2*k+1) a↔pp m ps (U<|2*k) a
section
variable {m:Nat}
theorem DY{V:Nat->Nat->Prop}(hr:RowB r (2*(n:Int)))(h:∀k,k<2*n->∀a,U k a↔V k a)(a:Nat):tU S U r a↔tU S V r a:=by
 cases r with
 |no=>exact Iff.rfl
 |nm x=>exact Iff.rfl
 |bo i j=>
  let⟨⟨h1,h2⟩,b,c⟩:=hr i j rfl;exact and_congr (h _ () a)<|h _ () a
theorem vw_ex(mS:qK rows):∃U,Vw m ps S rows U:=by
 let go:∀k,k<=rows.length->∃U:Nat->Nat->Prop,(∀(j:Nat)(r:Rw),j<k->rows[j]?=some r->∀a,U (2*j) a↔tU S U r a)/\∀j,j<k->∀a,U (2*j+1) a↔pp m ps (U<|2*j) a:=by
  intro k
  induction k with
  |zero=>exact λ_=>#[λ_ _=>False,λj r h=>absurd h (),λj h=>absurd h ()]
  |succ k f=>
   intro hk;let⟨U,h1,h2⟩:=f ();let d:rows[k]?=some rows[k]:=aA ();generalize rows[k]=r at d;let low:∀n,n<2*k->∀a,(if n<2*k then U n a else if n=2*k then tU S U r a else pp m ps (tU S U r) a)↔U n a:=λn hn a=>by rw[aO hn]
   let g:∀(j:Nat)(q:Rw),rows[j]?=some q->RowB q (2*(j:Int)):=λj q hq i l e=>by subst e;exact mS j i l hq
   refine#[λn a=>if n<2*k then U n a else if n=2*k then tU S U r a else pp m ps (tU S U r) a,λj q o hq a=>?_,λj o a=>?_]
   ·rw[DY (V:=U) (g j q hq) λn hn a=>low n () a];by_cases c:j<k
    ·show(if 2*j<2*k then _ else _)↔_;rw[aO ()];exact h1 j q c hq a
    ·let e:j=k:=by lia
     subst e;rw[d]at hq;cases hq;show(if 2*j<2*j then _ else if 2*j=2*j then _ else _)↔_;rw[aH (),aO rfl]
   ·by_cases c:j<k
    ·show(if 2*j+1<2*k then _ else _)↔pp m ps (λa=>if 2*j<2*k then _ else _) a;rw[aO ()];calc(h2 j c a).trans (jD (λb=>?_) a);rw[aO ()]
    ·let e:j=k:=by lia
     subst e;show(if 2*j+1<2*j then _ else if 2*j+1=2*j then _ else _)↔pp m ps (λa=>if 2*j<2*j then _ else if 2*j=2*j then _ else _) a;rw[aH (),aH ()];calc jD (λb=>?_) a;rw[aH (),aO rfl]
 let⟨U,h1,h2⟩:=go rows.length<|aG _;exact#[U,λk r hr=>h1 k r (aC.mp hr).1 hr,h2]
theorem Vw.turn(f:Fw m ps S)(v:Vw m ps S rows U)(mS:qK rows):∀n,n<2*rows.length->∀a,U (pH n) a↔pp m ps (U n) a:=by
 intro n
 induction n using Nat.strongRecOn with
 |ind n k=>
  intro hn a;let hk:n/2<rows.length:=by lia
  by_cases c:n % 2=0
  ·let e:pH n=2*(n/2)+1:=by unfold pH;lia
   let g:n=2*(n/2):=by lia
   rw[e,v.odd _ hk];rw[←g]
  ·let e:pH n=2*(n/2):=by unfold pH;lia
   let g:n=2*(n/2)+1:=by lia
   rw[e];let hr:rows[n/2]?=some rows[n/2]:=aA hk;generalize rows[n/2]=r at hr;let o:∀b,U n b↔pp m ps (U<|2*(n/2)) b:=λb=>by
    have :=v.odd _ hk b;rwa[←g]at this
   rw[jD o];let d:=v.row _ r hr;cases r with
   |no=>
    calc#[λz=>((d a).mp z).elim,λz=>?_];have :=z.2 a #[z.1,λb hb=>((d b).mp hb).elim];rw[f.irr]at this;cases this
   |nm x=>
    rw[d a];calc(f.full x a).trans ?_;rw[oP];exact jD (λb=>oP.trans<|jD (λc=>(d c).symm) b) a
   |bo i j=>
    let⟨⟨b1,b2⟩,l,p⟩:=mS _ i j hr;let h:∀q:Int,0<=q->q<2*((n/2:Nat):Int)->∀b,U q.toNat b↔pp m ps (pp m ps<|U q.toNat) b:=λq u h1 b=>by
     let s:q.toNat<n:=by lia
     let t:pH q.toNat<n:=by unfold pH;lia
     let g1:=k _ t () b;rw[show pH (pH q.toNat)=q.toNat by unfold pH;lia]at g1;exact g1.trans (jD (λc=>k _ s () c) b)
    rw[d a];constructor
    ·rintro⟨g1,g2⟩;calc#[((h i b1 b2 a).mp g1).1,λb hb=>?_];rw[JV];exact hb.2 a<|(d a).mpr #[g1,g2]
    ·intro z;refine#[(h i b1 b2 a).mpr #[z.1,λb hb=>z.2 b #[hb.1,λc hc=>hb.2 c ((d c).mp hc).1]],(h j l p a).mpr #[z.1,λb hb=>z.2 b #[hb.1,λc hc=>hb.2 c ((d c).mp hc).2]]]
theorem Vw.lt(f:Fw m ps S)(v:Vw m ps S rows U)(mS:qK rows)(hn:n<2*rows.length)(h:U n a):a<m:=by
 have :=v.turn f mS (pH n) (by unfold pH;lia) a;rw[show pH (pH n)=n by unfold pH;lia]at this;exact(this.mp h).1
theorem QR{k:Nat}(h:oN rows r=some k):rows[k]?=some r:=by
 unfold oN at h;let⟨hk,e,_⟩:=eV.mp h;rw[aA hk,(UK _ _).mp e]
theorem IX:a∈cmn m vs↔a<m/\∀v∈vs,a∈v:=by
 unfold cmn;rw[cN,bN,cF];exact and_congr_right λ_=>forall_congr' λv=>forall_congr' λ_=>decide_eq_true_iff
def NV(m:Nat)(ps:List (Nat×Nat))(S:Str->List Nat)(rows:List Rw)(U:Nat->Nat->Prop)(t:Tm):Prop:=∀n,num rows t=some n->n<2*rows.length/\∀a,a∈val m ps S t↔U n a
def tv(m:Nat)(ps:List (Nat×Nat))(e:Bool)(v:List Nat)(a:Nat):Prop:=if e then a∈cnt m ps v else a∈v
theorem fz(f:Fw m ps S)(v:Vw m ps S rows U)(mS:qK rows){e:Bool}{w:List Nat}(hn:n<2*rows.length)(h:∀a,a∈w↔U n a)(a:Nat):U (iY e n) a↔tv m ps e w a:=by
 unfold tv iY;cases e with
 |false=>rw[aH (),aH ()];exact(h a).symm
 |true=>rw[aO rfl,aO rfl,v.turn f mS n hn,oP];exact jD (λb=>(h b).symm) a
theorem BB(f:Fw m ps S)(v:Vw m ps S rows U)(mS:qK rows)(e:Bool):∀(ts:List Tm)(m0 n:Nat)(A:Nat->Prop),(∀t∈ts,NV m ps S rows U t)->uW rows e m0 ts=some n->m0<2*rows.length->(∀a,U m0 a↔A a)->n<2*rows.length/\∀a,U n a↔A a/\∀t∈ts,tv m ps e (val m ps S t) a
 |[],m0,n,A,_,h,hm,b=>by
  rw[uW]at h;cases h;exact#[hm,λa=>(b a).trans #[λz=>#[z,λt ht=>by cases ht],And.left]]
 |t::ts,m0,n,A,c,h,hm,b=>by
  rw[uW]at h;let⟨d,g1,h⟩:=cU.mp h;let⟨k,g2,h⟩:=cU.mp h;let⟨g,i⟩:=c t aW d g1;let hk:=QR g2;let j:=(aC.mp hk).1;let⟨l,o⟩:=BB f v mS e ts (2*k) n (λa=>A a/\tv m ps e (val m ps S t) a) (λt ht=>c t<|aX _ ht) h () (λa=>by
   rw[v.row k _ hk a];show U (m0:Int).toNat a/\U ((iY e d:Nat):Int).toNat a↔_;rw[bM,bM,b a,fz f v mS g i])
  calc#[l,λa=>(o a).trans ?_];rw[and_assoc];refine and_congr_right λ_=>#[λz t' ht'=>?_,λz=>#[z t aW,λt' ht'=>z t'<|aX _ ht']]
  rcases bJ.mp ht' with rfl |ht'
  ·exact z.1
  ·exact z.2 t' ht'
theorem YT(f:Fw m ps S)(v:Vw m ps S rows U)(mS:qK rows)(e:Bool)(ih:∀t∈ts,NV m ps S rows U t)(h:uJ rows e ts=some n):n<2*rows.length/\∀a,U n a↔∀t∈ts,tv m ps e (val m ps S t) a:=by
 cases ts with
 |nil=>rw[uJ]at h;cases h
 |cons t ts=>
  rw[uJ]at h;let⟨c,g1,h⟩:=cU.mp h;let⟨b,d⟩:=ih t aW c g1;let⟨g,i⟩:=BB f v mS e ts _ n _ (λt ht=>ih t<|aX _ ht) h (YE b)<|fz f v mS b d;calc#[g,λa=>(i a).trans #[λz t' ht'=>?_,λz=>#[z t aW,λt' ht'=>z t'<|aX _ ht']]];rcases bJ.mp ht' with rfl |ht'
  ·exact z.1
  ·exact z.2 t' ht'
theorem db(f:Fw m ps S)(v:Vw m ps S rows U)(mS:qK rows)(h0:rows[0]?=some .no):∀(d:Nat)(t:Tm),sI d t->NV m ps S rows U t:=by
 let hl:0<rows.length:=(aC.mp h0).1;let p:∀a,¬U 0 a:=λa z=>((v.row 0 _ h0 a).mp z).elim
 intro d
 induction d with
 |zero=>exact λt h=>h.elim
 |succ d q=>
  intro t ht n hn;cases t with
  |name x=>
   rw[num]at hn;let⟨k,hk,rfl⟩:=aL.mp hn;let l:=QR hk;have :=(aC.mp l).1;calc#[(),λa=>?_];rw[v.row k _ l a,val];exact Iff.rfl
  |node w ts=>
   let⟨hs,o⟩:=ht.node;let c:∀t∈ts,NV m ps S rows U t:=λt h=>q t<|o t h
   let s:∀{u:List Nat}{a:Nat},(∀t∈ts,val m ps S t=u->True)->True:=λ_=>trivial
   rw[num]at hn;let cases5:=hs;rcases hs with⟨e,hz⟩ |⟨e,hz⟩ |⟨e,hz⟩ |⟨e,hz⟩ |⟨e,hz⟩
   ·subst e;rw[aO rfl]at hn;cases hn;calc#[(),λa=>?_];rw[val,xU,aO rfl];exact#[λz=>(nomatch z),λz=>(p a z).elim]
   ·subst e;rw[aH (),aO rfl]at hn;cases hn;calc#[(),λa=>?_];rw[val,xU,aH (),aO rfl,bN,v.odd 0 hl a];exact#[λz=>#[z,λb hb=>(p b hb).elim],λz=>z.1]
   ·subst e;rw[aH (),aH (),aO rfl]at hn;let⟨g,h1,rfl⟩:=aL.mp hn;let⟨i,j⟩:=YT f v mS false c h1;obtain⟨t,rfl⟩:∃t,ts=[t]:=by
     cases ts with
     |nil=>simp at hz
     |cons t r=>
      cases r with
      |nil=>exact#[t,rfl]
      |cons _ _=>simp at hz
    calc#[by unfold pH;lia,λa=>?_];rw[val,xU,aH (),aH (),aO rfl,qT,v.turn f mS g i];show a∈cnt m ps (val m ps S t)↔_;rw[oP];calc jD (λb=>?_) a;rw[j b];exact#[λz t' ht'=>by cases aV.mp ht';exact z,λz=>z t aW]
   ·subst e;rw[aH (),aH (),aH (),show decide (("both":Str)="either")=false from cJ ()]at hn;let⟨g,h1,rfl⟩:=aL.mp hn;let⟨i,j⟩:=YT f v mS false c h1;calc#[i,λa=>?_];rw[val,xU,aH (),aH (),aH (),aO rfl,qT,IX];show _↔U g a;constructor
    ·rintro⟨_,z⟩;exact(j a).mpr λt ht=>z _<|bF.mpr #[t,ht,rfl]
    ·intro z;calc#[v.lt f mS i z,λu hu=>?_];let⟨t,ht,rfl⟩:=bF.mp hu;exact(j a).mp z t ht
   ·subst e;rw[aH (),aH (),aH (),show decide (("either":Str)="either")=true from cP rfl]at hn;let⟨g,h1,rfl⟩:=aL.mp hn;let⟨i,j⟩:=YT f v mS true c h1;calc#[by show pH g<_;unfold pH;lia,λa=>?_];rw[val,xU,aH (),aH (),aH (),aH (),qT,oP];show _↔U (pH g) a;rw[v.turn f mS g i];calc jD (λb=>?_) a;rw[IX,dU];constructor
    ·rintro⟨_,z⟩;exact(j b).mpr λt ht=>z _<|bF.mpr #[t,ht,rfl]
    ·intro z;calc#[v.lt f mS i z,λu hu=>?_];let⟨t,ht,rfl⟩:=bF.mp hu;exact(j b).mp z t ht
end
theorem HK(h:rows.Nodup):(yZ rows r).1.Nodup:=by
 unfold yZ;split
 ·exact h
 ·rename_i hn
  calc mF.mpr #[h,by simp,λa ha b hb e=>?_];rw[aV.mp hb]at e;subst e;unfold oN at hn;have :=List.findIdx?_eq_none_iff.mp hn a ha;rw[yT]at this;cases this
mutual
theorem FW:∀(t:Tm)(rows:List Rw),rows.Nodup->(dG t rows).1.Nodup
 | .name x,rows,h=>by rw[dG];exact HK h
 | .node w ts,rows,h=>by
   rw[dG];split
   ·exact h
   ·split
    ·exact h
    ·split
     ·exact KD _ ts rows h
     ·exact KD _ ts rows h
theorem KD(e:Bool):∀(ts:List Tm)(rows:List Rw),rows.Nodup->(jB e ts rows).1.Nodup
 |[],rows,h=>by rw[jB];exact h
 |t::ts,rows,h=>by
  rw[jB];exact KC e ts _ _<|FW t rows h
theorem KC(e:Bool):∀(ts:List Tm)(rows:List Rw)(m:Nat),rows.Nodup->(yJ e ts rows m).1.Nodup
 |[],rows,m,h=>by rw[yJ];exact h
 |t::ts,rows,m,h=>by
  rw[yJ];exact KC e ts _ _<|HK<|FW t rows h
end
mutual
theorem UA:∀(t:Tm)(rows:List Rw)(n:Nat),num rows t=some n->dG t rows=(rows,n)
 | .name x,rows,n,h=>by
   rw[num]at h;let⟨k,hk,rfl⟩:=aL.mp h;rw[dG,yZ,hk]
 | .node w ts,rows,n,h=>by
   rw[num]at h;rw[dG];split at h
   ·rename_i c;rw[aO c];cases h;rfl
   ·rename_i c
    rw[aH c];split at h
    ·rename_i c;rw[aO c];cases h;rfl
    ·rename_i c
     rw[aH c];split at h
     ·rename_i c
      rw[aO c];let⟨k,hk,rfl⟩:=aL.mp h;rw[BE _ ts rows k hk]
     ·rename_i c
      rw[aH c];let⟨k,hk,rfl⟩:=aL.mp h;rw[BE _ ts rows k hk]
theorem BE(e:Bool):∀(ts:List Tm)(rows:List Rw)(n:Nat),uJ rows e ts=some n->jB e ts rows=(rows,n)
 |[],rows,n,h=>by rw[uJ]at h;cases h
 |t::ts,rows,n,h=>by
  rw[uJ]at h;let⟨k,hk,h⟩:=cU.mp h;rw[jB,UA t rows k hk];exact BC e ts rows _ n h
theorem BC(e:Bool):∀(ts:List Tm)(rows:List Rw)(m n:Nat),uW rows e m ts=some n->yJ e ts rows m=(rows,n)
 |[],rows,m,n,h=>by rw[uW]at h;cases h;rw[yJ]
 |t::ts,rows,m,n,h=>by
  rw[uW]at h;let⟨k,hk,h⟩:=cU.mp h;let⟨q,hq,h⟩:=cU.mp h;rw[yJ,UA t rows k hk];show yJ e ts (yZ rows<|.bo (m:Int) (iY e k:Nat)).1 (yZ rows<|.bo (m:Int) (iY e k:Nat)).2=_;rw[yZ,hq];exact BC e ts rows _ n h
end
theorem CF:∀(ts:List Tm)(rows:List Rw),(∀t∈ts,fY 20 t)->pA rows->rows.Nodup->pA (yQ ts rows)/\(yQ ts rows).Nodup
 |[],rows,_,h1,h2=>#[h1,h2]
 |t::ts,rows,hf,h1,h2=>by
  rw[yQ];exact CF ts _ (λt ht=>hf t<|aX _ ht) (uS t 20 rows (hf t aW) h1).1 (FW t rows h2)
theorem XM:∀(ts:List Tm)(rows:List Rw),(∀t∈ts,fY 20 t)->∀t∈ts,∃n,num (yQ ts rows) t=some n
 |[],_,_,t,h=>by cases h
 |t0::ts,rows,hf,t,h=>by
  rw[yQ];rcases bJ.mp h with rfl |h
  ·let⟨xs,hx⟩:=XO ts (dG t rows).1;rw[hx];exact#[_,wR _ _ _ _<|kA t 20 rows<|hf t aW]
  ·exact XM ts _ (λt ht=>hf t<|aX _ ht) t h
theorem TV{t:Tm}(hf:fY 20 t)(h:∃n,num rows t=some n):fc rows t:=by
 let⟨n,hn⟩:=h;exact#[hf,by rw[UA t rows n hn]]
theorem fc.num{t:Tm}(h:fc rows t):num rows t=some (dG t rows).2:=by
 have :=kA t 20 rows h.1;rwa[h.2]at this
def Hs(m:Nat)(ps:List (Nat×Nat))(S:Str->List Nat)(s:Tm×Tm):Prop:=∀a,a∈val m ps S s.1->a∈val m ps S s.2
def Hr(m:Nat)(ps:List (Nat×Nat))(S:Str->List Nat)(r:mX):Prop:=(∀s∈r.1,Hs m ps S s)->Hs m ps S r.2
section
variable {m:Nat} {book:List mX}
theorem fc.val(f:Fw m ps S)(v:Vw m ps S rows U)(hs:pA rows){t:Tm}(h:fc rows t):(dG t rows).2<2*rows.length/\∀a,a∈val m ps S t↔U (dG t rows).2 a:=db f v hs.in_ hs.hd 21 t h.1 _ h.num
theorem WW.hs(f:Fw m ps S)(v:Vw m ps S rows U)(hs:pA rows)(h:WW rows s):Hs m ps S s↔∀a,U (dG s.1 rows).2 a->U (dG s.2 rows).2 a:=by
 unfold Hs;exact forall_congr' λa=>by rw[(h.1.val f v hs).2 a,(h.2.val f v hs).2 a]
theorem QH(n:Nat):rO (n:Int)=((pH n:Nat):Int):=by unfold rO pH;lia
theorem n8(f:Fw m ps S)(v:Vw m ps S rows U)(hs:pA rows)(hg:∀r∈book,o9 rows r)(hr:∀r∈book,Hr m ps S r):Clo rows (book.map<|nR rows) (λi j=>∀a,U i.toNat a->U j.toNat a):=by
 let tn:=v.turn f hs.in_;let hl:=hs.pos;let g:∀a,¬U 0 a:=λa z=>((v.row 0 _ hs.hd a).mp z).elim
 let bo:∀{k:Nat}{x y:Int},rows[k]?=some (.bo x y)->∀a,U (2*k) a↔U x.toNat a/\U y.toNat a:=λh a=>v.row _ _ h a
 refine#[λn hn a h=>h,λn hn a h=>(g a h).elim,λn hn a h=>?_,λk x y h=>?_,λi j hi l h a ha=>?_,λi k x y hi h h1 h2 a ha=>?_,λi n j _ _ _ h1 h2 a ha=>h2 a<|h1 a ha,λi j hi l h a ha=>?_,λq hq h=>?_]
 ·show U 1 a;exact(v.odd 0 hl a).mpr #[v.lt f hs.in_ hn (by simpa using h),λb hb=>(g b hb).elim]
 ·constructor<;>intro a ha
  all_goals
   rw[bM]at ha
  ·exact((bo h a).mp ha).1
  ·exact((bo h a).mp ha).2
 ·have :=h a ha;rw[QH,bM]at this;let e:U i a:=by simpa using ha
  have :=((tn i hi a).mp this).2 a e;rw[f.irr]at this;cases this
 ·rw[bM];exact(bo h a).mpr #[h1 a ha,h2 a ha]
 ·rw[QH,bM]at ha⊢;have :=(tn j l a).mp ha;exact(tn i hi a).mpr #[this.1,λb hb=>this.2 b (by simpa using h b (by simpa using hb))]
 ·let⟨r,c,rfl⟩:=bF.mp hq;let⟨_,g1,g2⟩:=hg r c;have :=(g2.hs f v hs).mp (hr r c λs d=>(g1 s d |>.hs f v hs).mpr λa ha=>by
   have :=h (nS rows s) (bF.mpr #[s,d,rfl]) a (by show U ((dG s.1 rows).2:Int).toNat a;simpa using ha);let this:U ((dG s.2 rows).2:Int).toNat a:=this;simpa using this)
  intro a ha;let ha:U ((dG r.2.1 rows).2:Int).toNat a:=ha;show U ((dG r.2.2 rows).2:Int).toNat a;rw[bM]at ha⊢;exact this a ha
theorem sound(f:Fw m ps S)(hs:pA rows)(hg:∀r∈book,o9 rows r)(hr:∀r∈book,Hr m ps S r)(gk:NA rows (book.map<|nR rows) ls)(g:WW rows s)(h:zK ls (nS rows s).1 (nS rows s).2=true):Hs m ps S s:=by
 let⟨U,v⟩:=vw_ex (m:=m) (ps:=ps) (S:=S) hs.in_;let⟨p,l,h1,h2,b⟩:=fE.mp h;have :=SQ (n8 f v hs hg hr) gk p l h1;rw[h2,b]at this;refine(g.hs f v hs).mpr λa ha=>?_
 have :=this a (by show U ((dG s.1 rows).2:Int).toNat a;simpa using ha);let this:U ((dG s.2 rows).2:Int).toNat a:=this;simpa using this
end
noncomputable def NK(rows:List Rw)(R:Nat->Nat->Bool)(x:Str):List Nat:=match oN rows (.nm x)with
 |some k=>jC (yF (2*rows.length) R) R<|2*k
 |none=>[]
section
variable {rules:List zZ} {book:List mX}
theorem XH(hs:pA rows)(hp:Pl rows (2*rows.length) rows.length ls)(hc:Cl rows rules ls.length ls):Fw (yF (2*rows.length)<|rl ls).length (uY (yF (2*rows.length)<|rl ls)<|rl ls) (NK rows<|rl ls):=by
 let h:=Rl.of hp hc;calc#[TD<|UO _,λx a=>?_];unfold NK;cases c:oN rows (.nm x)with
 |some k=>
  have :=OX c;rw[BW h ()]
 |none=>
  calc#[λz=>(nomatch z),λz=>?_];rw[oP]at z;have :=z.2 a (oP.mpr #[z.1,λb hb=>(nomatch hb)]);rw[TD<|UO _]at this;cases this
theorem QF(hs:pA rows)(iC:rows.Nodup)(hp:Pl rows (2*rows.length) rows.length ls)(hc:Cl rows rules ls.length ls):Vw (yF (2*rows.length)<|rl ls).length (uY (yF (2*rows.length)<|rl ls)<|rl ls) (NK rows<|rl ls) rows (λn a=>a∈jC (yF (2*rows.length)<|rl ls) (rl ls) n):=by
 let h:=Rl.of hp hc;refine#[λk r hr a=>?_,λk hk a=>?_]
 ·let c:=(aC.mp hr).1;cases r with
  |no=>
   let e:=hs.few k hr;subst e;show a∈jC _ _ 0↔False;rw[NT h hp.low];exact#[λz=>(nomatch z),False.elim]
  |nm x=>
   show _↔a∈NK rows (rl ls) x;let e:oN rows (.nm x)=some k:=by
    unfold oN;refine eV.mpr #[c,?_,λj q=>?_]
    ·rw[(aC.mp hr).2];exact yT _
    ·intro z;let z:=(UK _ _).mp z;let d:=(aC.mp hr).2;rw[←d]at z;exact absurd ((iQ iC).mp z) ()
   unfold NK;rw[e]
  |bo i j=>
   let⟨⟨b1,b2⟩,f,s⟩:=hs.in_ k i j hr;let⟨g,p2⟩:=hp.part k i j c hr;let hb:∀x,rl ls x i.toNat=true->rl ls x j.toNat=true->rl ls x (2*k)=true:=λx h1 h2=>by
    let⟨a,l,g1,g2,g3⟩:=fE.mp h1;let⟨b,l',g4,g5,m⟩:=fE.mp h2;exact hc.both a b l l' x k i j (aC.mp g1).1 (aC.mp g4).1 g1 g4 g2 (by rw[g3];lia) g5 (by rw[m];lia) hr
   let o:rl ls (2*k) i.toNat=true:=by unfold rl;rw[sR b1];exact g
   let p:rl ls (2*k) j.toNat=true:=by unfold rl;rw[sR f];exact p2
   have :=NW (sp:=yF (2*rows.length)<|rl ls) h o p hb;show a∈jC _ _ (2*k)↔a∈jC _ _ i.toNat/\a∈jC _ _ j.toNat;rw[←this,cN,bS]
 ·show a∈jC _ _ (2*k+1)↔_;have :=UM h (n:=2*k) ();rw[show lF (2*k)=2*k+1 by unfold lF;lia]at this;rw[←this,oP]
theorem FN(hs:pA rows)(iC:rows.Nodup)(hp:Pl rows (2*rows.length) rows.length ls)(hc:Cl rows rules ls.length ls)(g:WW rows s):Hs (yF (2*rows.length)<|rl ls).length (uY (yF (2*rows.length)<|rl ls)<|rl ls) (NK rows<|rl ls) s↔zK ls (nS rows s).1 (nS rows s).2=true:=by
 let f:=XH hs hp hc;let v:=QF hs iC hp hc;rw[g.hs f v hs];have :=KN (Rl.of hp hc) (g.1.val f v hs).1 (g.2.val f v hs).1;show _↔rl ls (dG s.1 rows).2 (dG s.2 rows).2=true;rw[←this,cF];exact forall_congr' λa=>forall_congr' λ_=>decide_eq_true_iff.symm
theorem m9(hs:pA rows)(iC:rows.Nodup)(hp:Pl rows (2*rows.length) rows.length ls)(hc:Cl rows (book.map<|nR rows) ls.length ls)(hg:∀r∈book,o9 rows r):∀r∈book,Hr (yF (2*rows.length)<|rl ls).length (uY (yF (2*rows.length)<|rl ls)<|rl ls) (NK rows<|rl ls) r:=λr hr h=>by
 let⟨_,g1,g2⟩:=hg r hr;let f:=XH hs hp hc;let v:=QF hs iC hp hc;calc(FN hs iC hp hc g2).mpr ?_;let⟨k,hk⟩:=iM (bF.mpr #[r,hr,rfl]:nR rows r∈book.map (nR rows));let i:=(g2.1.val f v hs).1;let j:=(g2.2.val f v hs).1;refine hc.rule k (nR rows r) hk #[#[Int.natCast_nonneg _,?_],Int.natCast_nonneg _,?_] λp c=>?_
 ·show((dG r.2.1 rows).2:Int)<_;lia
 ·show((dG r.2.2 rows).2:Int)<_;lia
 ·let⟨s,b,rfl⟩:=bF.mp c;let⟨a,l,d,e,g⟩:=fE.mp<|(FN hs iC hp hc<|g1 s b).mp (h s b);exact#[a,l,(aC.mp d).1,d,e,g]
end
theorem FL{a:Addr}{xs:List V}{ns:List Str}{js:List Nat}{g:TG}{tc:TT}{te:TE}{σ:St}{Q:VK}(Pv:Nat->List V->St->Hp->Prop)(h0:Pv 0 [] (kQ ns js σ) H)(hz:xs.length<=sizeLine)(hl:∀i ys σ H,Pv i ys σ H->ys.length<=i)
 (hK:∀i ys σ H,Pv i ys σ H->dB K H a xs)
 (hs:∀(i:Nat) x ys σ H (C:V->St->Hp->Prop) (D:St->Hp->Prop),xs[i]?=some x->Pv i ys σ H->(∀y σ2 H3,Pv (i+1) (ys++[y]) σ2 H3->C y σ2 H3)->(∀σ2 H3,Pv (i+1) ys σ2 H3->D σ2 H3)->
  g x σ H λσ2 H2=>tc σ2 H2 λb H3=>if b=true then te σ2 H3 λy H4=>C y σ2 H4 else D σ2 H3)
 (hd:∀ys σ H,Pv xs.length ys σ H->∀p,H p=none->Q (.ref p) (upd H p<|.lst ys)):
 WU (er K a) ns js g (some tc) te σ H Q:=by
 calc#[λi m ys σ H=>m=xs.length-i/\i<=xs.length/\Pv i ys σ H,#[xs.length,(),cO _,h0],λi m ys σ1 H1 z=>?_];let⟨hm,hi,hp⟩:=z;by_cases h:i<xs.length
 ·refine .inr #[#[xs,xs[i],hK i ys σ1 H1 hp,aA h],?_,λx H' ⟨e,hx⟩=>?_]
  ·have :=hl i ys σ1 H1 hp;lia
  ·subst e;exact hs i x ys σ1 _ _ _ (hx xs<|hK i ys σ1 _ hp) hp (λy σ2 H3 q=>#[xs.length-(i+1),(),rfl,(),q]) λσ2 H3 q=>#[xs.length-(i+1),(),rfl,(),q]
 ·let e:i=xs.length:=by lia
  subst e;exact .inl #[#[xs,hK _ ys σ1 H1 hp,aG _],hd ys σ1 H1 hp]
theorem UE(xs:List Nat)(a:Nat):((xs.map λ(x:Nat)=>Dt.int (x:Int)).any λe=>iS e<|.int (a:Int))=decide (a∈xs):=by
 rw[bZ,fD,bS];constructor
 ·rintro⟨d,hd,h⟩;let⟨x,hx,rfl⟩:=bF.mp hd;have :(x:Int)=(a:Int):=by simpa[iS]using h
  rw[show a=x by lia];exact hx
 ·intro h;exact#[.int (a:Int),bF.mpr #[a,h,rfl],yT _]
theorem vP{a:Addr}(h:H a=some (.lst<|xs.map nV)):eE H (.lst<|xs.map λ(x:Nat)=>Dt.int (x:Int)) (.ref a):=by
 calc#[a,_,rfl,h,?_];clear h
 induction xs with
 |nil=>rfl
 |cons x xs b=>exact#[_,_,rfl,rfl,b]
theorem NA.keys{rules:List zZ}(h:NA rows rules ls):(ls.map λl=>yU l.i l.j).Nodup:=by
 rw[List.Nodup,mE,cL];intro a b ha hb mP e;unfold yU at e;simp only[WO,Sum.inl.injEq,and_true]at e;have :=h.dis a b ls[a] ls[b] (aA ha) (aA hb) e.1 e.2;lia
abbrev s_x:Stmt:=top 60
theorem sc_x:bP ["world","saying","beyond"] ["world","saying"] (zF s_x):=by rfl'
abbrev s_N:Stmt:=top 61
theorem sc_N:bP ["sheet","book","saying","lines","pair","found","world"] ["sheet","book","saying"] (zF s_N):=by rfl'
abbrev km:Stmt:=top 62
theorem gu:bP ["book","saying"] ["book","saying"] (zF km):=by rfl'
structure Wx(H:Hp)(wa:Addr)(m:Nat)(ps:List (Nat×Nat))(zs:List Str)(S:Str->List Nat):Prop where
 ex:∃(ca:Addr)(us:List V)(la:Addr)(Ss:List (List Nat)),H wa=some (.tup [nV m,.ref ca,.ref la])/\H ca=some (.lst us)/\bK H (ps.map DF) us/\nH H la zs Ss m/\∀(i:Nat)(z:Str),zs[i]?=some z->Ss[i]?=some (S z)
 ok2:i8 m ps
 m90:m<=90
 nd:zs.Nodup
 zl:zs.length<=40
 sr:∀z,(∀i∈S z,i<m)/\(S z).Pairwise (· < ·)
theorem Wx.same{wa:Addr}{m:Nat}(e:aZ H H')(h:Wx H wa m ps zs S):Wx H' wa m ps zs S:=by
 let⟨⟨ca,us,la,Ss,h1,h2,a,b,c⟩,d,f,g,i,j⟩:=h;exact#[#[ca,us,la,Ss,e _ _ h1,e _ _ h2,bK.same e a,b.same e,c],d,f,g,i,j]
inductive spSg (vs:List V) (H:Hp) (Q:VK) (E:XK):Prop
 |mk (wa:Addr) (v:V) (s:Tm×Tm) (m:Nat) (ps:List (Nat×Nat)) (zs:List Str) (S:Str->List Nat) (_:vs=[.ref wa,v]) (_:Wx H wa m ps zs S) (_:oB H s v) (_:(fY 20 s.1/\wt s.1<=900)) (_:(fY 20 s.2/\wt s.2<=900)) (_:(∀x∈oV s.1++oV s.2,x∈zs)) (_:¬Hs m ps S s) (_:∀(n:Nat) H',aZ H H'->n∈val m ps S s.1->n∉val m ps S s.2->Q (.int n) H')
theorem NS{m:Nat}(h:xs.Pairwise (· < ·))(hm:∀x∈xs,x<m):xs.length<=m:=by
 have :=uK (h.imp λh=>bL h) (m:=List.range m) λx hx=>bN.mpr (hm x hx)
 rwa[cH]at this
theorem IF{rows:List Rw}{e:Bool}:∀{ts:List Tm}{m n:Nat},uW rows e m ts=some n->∀t∈ts,∃k,num rows t=some k
 |[],_,_,_,t,h=>by cases h
 |t0::ts,m,n,h,t,ht=>by
  rw[uW]at h;let⟨k,hk,h⟩:=cU.mp h;let⟨q,_,h⟩:=cU.mp h;rcases bJ.mp ht with rfl |ht
  ·exact#[k,hk]
  ·exact IF h t ht
theorem UB{e:Bool}(h:uJ rows e ts=some n):∀t∈ts,∃k,num rows t=some k:=by
 cases ts with
 |nil=>rw[uJ]at h;cases h
 |cons t0 ts=>
  rw[uJ]at h;let⟨k,hk,h⟩:=cU.mp h;intro t ht;rcases bJ.mp ht with rfl |ht
  ·exact#[k,hk]
  ·exact IF h t ht
theorem IE:∀(d:Nat)(t:Tm),sI d t->∀n,num rows t=some n->∀x∈oV t,∃k,oN rows (.nm x)=some k:=by
 intro d
 induction d with
 |zero=>exact λt h=>h.elim
 |succ d c=>
  intro t ht n hn x hx;cases t with
  |name y=>
   rw[oV,aV]at hx;subst hx;rw[num]at hn;let⟨k,hk,_⟩:=aL.mp hn;exact#[k,hk]
  |node w ts=>
   let⟨hs,b⟩:=ht.node;rw[oV]at hx;let⟨t,a,hx⟩:=pI.mp hx;let go:(∃k,num rows t=some k)->∃k,oN rows (.nm x)=some k:=λ⟨k,hk⟩=>c t (b t a) k hk x hx
   let ne:∀{p:Prop},ts.length=0->p:=λh=>by rw[fM.mp h]at a;cases a
   rw[num]at hn;rcases hs with h |h |h |h |h
   ·exact ne h.2
   ·exact ne h.2
   ·let⟨e,_⟩:=h;subst e;rw[aH (),aH (),aO rfl]at hn;let⟨k,hk,_⟩:=aL.mp hn;exact go<|UB hk t a
   ·let⟨e,_⟩:=h;subst e;rw[aH (),aH (),aH ()]at hn;let⟨k,hk,_⟩:=aL.mp hn;exact go<|UB hk t a
   ·let⟨e,_⟩:=h;subst e;rw[aH (),aH (),aH ()]at hn;let⟨k,hk,_⟩:=aL.mp hn;exact go<|UB hk t a
theorem IH{x:Str}{k:Nat}(h:rows[k]?=some (.nm x)):(x,k)∈FF rows:=by
 unfold FF;calc gQ.mpr #[k,bN.mpr (aC.mp h).1,?_];unfold SE;rw[h];rfl
theorem SF(iC:rows.Nodup):((FF rows).map (·.1)).Nodup:=by
 calc mE.mpr ?_;unfold FF;calc List.pairwise_filterMap.mpr (dF.imp λ{a b} mP p hp q hq e=>?_);let g:∀{k:Nat}{p:Str×Nat},(SE rows k).map (λx=>(x,k))=some p->rows[k]?=some (.nm p.1):=λ{k p} h=>by
  let⟨x,hx,rfl⟩:=aL.mp h;unfold SE at hx;split at hx
  ·rename_i y hy;cases hx;exact hy
  ·cases hx
 let h1:=g hp;let h2:=g hq;rw[←e,←h1]at h2;let hb:=(aC.mp h1).1;have :=(List.getElem?_inj hb iC).mp h2.symm;lia
def jw:Sp:=λ_ _ _ _=>False
inductive spPn (vs:List V) (H:Hp) (Q:VK) (E:XK):Prop
 |mk (la:Addr) (ws:List V) (ls:List Ln) (i j:Int) (_:vs=[.ref la,.int i,.int j]) (_:H la=some (.lst ws)) (_:vJ H ls ws) (_:(∀l∈ls,¬(l.i=i/\l.j=j))) (_:∀H',aZ H H'->Q .non H')
theorem OV(iC:rows.Nodup){k:Nat}(hr:rows[k]?=some r):oN rows r=some k:=by
 unfold oN;let a:=(aC.mp hr).2;refine eV.mpr #[(aC.mp hr).1,?_,λj b=>?_]
 ·rw[a];exact yT _
 ·intro z;let z:=(UK _ _).mp z;exact absurd ((iQ iC).mp (z.trans a.symm)) ()
theorem NU(sp:List Nat)(R:Nat->Nat->Bool)(n:Nat):(jC sp R n).Pairwise (· < ·):=fH _ dF
theorem wx_of{H0:Hp}{wa ca ra:Addr}{T:List Ro}{vw:List V}(iC:rows.Nodup)(hrl:rows.length<=40)(hn3:(FF rows).length<=40)(wo:WoAt H0 H wa (yF (2*rows.length)<|rl ls) rows ls T ca ra vw):Wx H wa (yF (2*rows.length)<|rl ls).length (uY (yF (2*rows.length)<|rl ls)<|rl ls) (T.map (·.2.1)) (NK rows<|rl ls):=by
 let b:(yF (2*rows.length)<|rl ls).length<=2*rows.length:=HD;refine#[#[ca,vw,ra,T.map (·.2.2.2),wo.tup,wo.cl,wo.dat,#[#[T.map (·.1),T.map (·.2.2.1),wo.lst,by simp,by simp,λi z sp hz hs=>?_],by simp,λsp a=>?_],λi z hz=>?_],UO _,(),wo.perm.nodup_iff.mpr<|SF iC,?_,λz=>?_]
 ·rw[aF]at hz hs;let⟨e,he,rfl⟩:=aL.mp hz;rw[he]at hs;cases hs;let⟨k1,k2,_⟩:=wo.tr e<|aP he;exact#[e.1,e.2.2.1,by rw[aF,he];rfl,by rw[aF,he];rfl,k1,k2]
 ·let⟨e,he,rfl⟩:=bF.mp a;let⟨_,_,k3,k4⟩:=wo.tr e he;exact#[k3,k4]
 ·rw[aF]at hz;let⟨e,he,rfl⟩:=aL.mp hz;let⟨k,k1,k2⟩:=wo.is e<|aP he;rw[aF,he];show some e.2.2.2=some (NK rows (rl ls) e.2.1);unfold NK;rw[OV iC (UD k1).1,k2]
 ·rw[wo.perm.length_eq,aD];lia
 ·unfold NK;cases oN rows (.nm z)with
  |none=>exact#[λi hi=>(nomatch hi),.nil]
  |some k=>exact#[λi hi=>(lJ.mp hi).1,NU _ _ _]
theorem ZG(bi:Bi mg)(h_be:gD P w K mg base 25 "value" ["world","t"] (jr K))(F:fR K "spot_against" "spot_against" s_x f fd):cW P w K mg base fS 26 f fd ["world","saying"] spSg:=by
 refine F.okz sc_x λeP A outer s H vs Q E hr h=>?_
 let⟨wa,v,s,m,ps,zs,S,rfl,d,L,⟨M,O⟩,⟨R,T⟩,b,g,q⟩:=h;let⟨a,v1,v2,rfl,ha,U,W⟩:=L.out;calc#[_,have nd:=sc_x.nd;zC (qI (i:=2) nd rfl (Or.inr rfl) #[])<|zH<|zS<|zV yB (zX ["spot"] ["beyond"] [2] #[] (λ_ _ _ _ nd=>yI 0 nd) (λ_ _ _ _=>vN<|yG (kL hr.units) #[] #[] (by with_unfolding_all rfl)) λ_ _ _ _=>#[]) zW,?_];refine zD λN G=>?_
 dsimp![];let I:∀{J:Hp}{u:V}{t:Tm}{j:VK},aZ H J->hU H t u->fY 20 t->wt t<=900->(∀x∈oV t,x∈zs)->(∀(p:Addr)(H':Hp),aZ J H'->J p=none->H' p=some (.lst<|(val m ps S t).map nV)->j (.ref p) H')->jr K [.ref wa,u] J j E0:=λ{J u t j} e g1 g2 g3 g4 g5=>by
  let⟨⟨ca,us,la,Ss,k1,k2,k3,k4,k5⟩,X,Y,Z,r4,r5⟩:=d.same e;exact#[wa,u,t,m,ca,us,ps,la,zs,Ss,S,rfl,k1,k2,k3,X,Y,k4,#[Z,r4],eE.same e g1,g2,g3,g4,k5,r5,g5]
 calc#[_,cV.of ha,_,mV,I (aZ.refl _) W R T (λx hx=>b x<|bB _ hx) λpb H1 s1 _ kb=>G _ _ ?_];clear G;dsimp![];calc#[_,cV.of<|s1 _ _ ha,_,gG,I s1 U M O (λx hx=>b x<|cG _ hx) λpv H2 s2 _ kv=>?_];calc#[pv,rfl,#[_,dB.of kv],?_];let k:∀t:Tm,(val m ps S t).length<=90:=λt=>bT (NS (wG (λx=>(d.sr x).2) t) λx hx=>YB (λx=>(d.sr x).1) t hx) d.m90
 refine FL (xs:=(val m ps S s.1).map nV) (λn ys σ Hx=>aZ H2 Hx/\ys=(((val m ps S s.1).take n).filter λa=>!decide (a∈val m ps S s.2)).map nV/\∃o,σ=[o,some<|V.ref pb]) #[aZ.refl _,rfl,_,rfl] (zI (by rw[aD];have :=k s.1;lia)) (λn ys σ Hx e=>?_) (λn ys σ Hx e=>dB.of<|e.1 _ _ kv) (λn x ys σ Hx C D hx e hC hD=>?_) λys σ Hx e p hp=>?_
 ·rw[e.2.1,aD];exact bT (eK _ _) (by rw[bH];lia)
 ·let⟨ex,rfl,o,rfl⟩:=e;rw[aF]at hx;let⟨y,hy,rfl⟩:=aL.mp hx;let⟨l,c⟩:=aC.mp hy;dsimp![LH];calc#[1,.int y,rfl,_,.inl<|vP<|(s2.trans ex) _ _ kb,(λe he=>by let⟨_,_,rfl⟩:=bF.mp he;trivial),(),?_];rw[UE,Bool.true_xor];let ht:=aJ l;by_cases hc:y∈val m ps S s.2
  ·rw[aH (by simp[hc])];calc hD _ _ #[ex,?_,_,rfl];rw[ht,c,eA,aQ];simp[hc]
  ·rw[aO (by simp[hc])];calc hC _ _ _ #[ex,?_,_,rfl];rw[ht,c,eA,aQ];simp[hc,nV]
 let⟨ex,rfl,o,rfl⟩:=e;rw[aD,aR<|aG _];obtain⟨x,r,B⟩:∃x,x∈val m ps S s.1/\x∉val m ps S s.2:=pE λz=>g λa h1=>pE λh2=>z #[a,h1,h2]
 let hm:x∈(val m ps S s.1).filter λa=>!decide (a∈val m ps S s.2):=cN.mpr #[r,by simp[B]]
 cases hf:(val m ps S s.1).filter λa=>!decide (a∈val m ps S s.2)with
 |nil=>rw[hf]at hm;cases hm
 |cons y ys=>
  let hy:=cN.mp (show y∈(val m ps S s.1).filter λa=>!decide (a∈val m ps S s.2) by rw[hf];calc aW);exact#[p,rfl,_,dB.of zA,_,gG,q y _ (s1.trans<|s2.trans<|ex.trans<|zB hp _) hy.1 (by simpa using hy.2)]
theorem SH{k:Nat}{ps:List Str}:cW P w K mg base fS k f fd ps jw:=#[λ_ _ _ _ h=>h.elim,λ_ _ _ _ _ _ _ _ _ _ _ _ _ h=>h.elim]
theorem LU(bi:Bi mg)(be:mg "enumerate"=none)(h_W:gD P w K mg base 1 "line_for" ["lines","i","j"] f9)(h_S:gD P w K mg base 2 "hung_on" ["lines","k"] jw)(h_Q:gD P w K mg base 1 "renamed" ["why","places"] jw)(F:fR K "paper" "paper" ka f fd):cW P w K mg base fS 3 f fd ["lines","i","j"] spPn:=by
 refine F.okz gf λeP A outer s H vs Q E hr h=>?_
 let⟨la,ws,ls,i,j,rfl,a,b,c,q⟩:=h;calc#[_,have nd:=gf.nd;zC #[]<|zC (yD (yG ER #[] vV<|yP _) #[] zO)<|zC #[]<|zC (qI (i:=5) nd rfl (Or.inr rfl)<|jM XL rfl bi.dict ZY<|zE (zX ["place","n"] [] [] #[] (λ_ _ _ _ nd=>qN (K:=K) (n:=2) rfl<|yE (yI 0 nd)<|yE (yI 1 nd) jR) (λ_ _ _ _=>yA) λ_ _ _ _=>#[]) zJ)<|zH<|zS<|zX ["n"] ["places","lines"] [5,0] #[] (λ_ _ _ _ nd=>yI 0 nd) (λ_ _ _ _=>yA) λ_ _ _ _=>(jL<|zE (zV (jS K) (zV (uA K) #[] #[]) zW)<|zE (zV (jS K) (zV (uA K) #[] #[]) zW)<|zE (zQ h_Q hr.m rfl<|zE (zV (jS K) (zV (uA K) #[] #[]) zW) #[]) zJ),?_];refine zD λN d=>?_
 dsimp![];calc#[la,ws,ls,i,j,rfl,a,b,λr H1 s1 e=>d _ _ ?_];clear d;rcases e with⟨rfl,_⟩ |⟨k,l,_,hk,g,_⟩
 ·refine zD λN d=>?_
  dsimp![];exact q H1 s1
 ·exact absurd g<|c l<|aP hk
def Vo(b:List mX)(s:Tm×Tm):Prop:=∃m ps S,Fw m ps S/\(∀r∈b,Hr m ps S r)/\¬Hs m ps S s
def SM(p q:Nat×Nat):Prop:=p.1<q.1\/(p.1=q.1/\p.2<q.2)
theorem VO{R:Nat->Nat->Bool}(sp:List Nat):(uY sp R).Pairwise SM:=by
 unfold uY;rw[List.pairwise_flatMap];refine#[λa _=>?_,?_]
 ·rw[mE];exact(fH _ dF).imp λh=>.inr #[rfl,h]
 ·refine dF.imp λ{a b} h x hx y hy=>?_
  let⟨_,_,rfl⟩:=bF.mp hx;let⟨_,_,rfl⟩:=bF.mp hy;exact .inl h
structure oy(H:Hp)(rows:List Rw)(b:List mX)(s:Tm×Tm)(wa ca la:Addr)(n m:Nat)(ps:List (Nat×Nat))(T:List Ro)(us:List V)(S:Str->List Nat):Prop where
 tup:H wa=some (.tup [nV m,.ref ca,.ref la])
 cl:H ca=some (.lst us)
 dat:bK H (ps.map DF) us
 lst:H la=some (.lst ((T.map (·.1)).map V.ref))
 tr:GC H m T
 m1:1<=m
 m80:m<=80
 ok2:i8 m ps
 srt:ps.Pairwise SM
 pl:ps.length<=6400
 tl:T.length<=40
 zrt:(T.map (·.2.1)).Pairwise (λx y=>x.cps.toList<y.cps.toList)
 nm:∀e∈T,Nm e.2.1
 ful:∀e∈T,cnt m ps (cnt m ps e.2.2.2)=e.2.2.2
 is:∀e∈T,e.2.2.2=S e.2.1
 all:∀(x:Str)(k:Nat),rows[k]?=some (Rw.nm x)->x∈T.map (·.2.1)
 fw:Fw m ps S
 sr:∀z,(∀i∈S z,i<m)/\(S z).Pairwise (· < ·)
 hr:∀r∈b,Hr m ps S r
 in1:n∈val m ps S s.1
 no2:n∉val m ps S s.2
inductive spJo (K:W.Frag) (vs:List V) (H:Hp) (Q:VK) (E:XK):Prop
 |mk (sa ba:Addr) (v:V) (us bs:List V) (rows:List Rw) (b:List mX) (s:Tm×Tm) (_:vs=[.ref sa,.ref ba,v]) (_:H sa=some (.lst us)) (_:fX K H rows us) (_:pA rows) (_:rows.Nodup) (_:rows.length<=40) (_:(FF rows).length<=40) (_:H ba=some (.lst bs)) (_:iJ H b bs) (_:b.length<=100) (_:(∀r∈b,o9 rows r)) (_:oB H s v) (_:WW rows s) (_:wt s.1<=900) (_:wt s.2<=900) (_:Vo b s) (_:∀(p wa ca la:Addr)(n m:Nat)(ps:List (Nat×Nat))(T:List Ro)(us':List V)(S:Str->List Nat) H',aZ H H'->H' p=some (.tup [.str "open",.ref wa,.int n])->oy H' rows b s wa ca la n m ps T us' S->Q (.ref p) H')
theorem oy.same{b:List mX}{wa ca la:Addr}{m:Nat}{T:List Ro}(h:oy H rows b s wa ca la n m ps T us S)(e:aZ H H'):oy H' rows b s wa ca la n m ps T us S:=
 #[e _ _ h.tup,e _ _ h.cl,bK.same e h.dat,e _ _ h.lst,h.tr.same e,h.m1,h.m80,h.ok2,h.srt,h.pl,h.tl,h.zrt,h.nm,h.ful,h.is,h.all,h.fw,h.sr,h.hr,h.in1,h.no2]
theorem AX(bi:Bi mg)(h_bb:gD P w K mg base 4 "closing" ["sheet","rules"] (gc K))(h_V:gD P w K mg base 47 "numbered" ["sheet","book"] (spNm K))(h_T:gD P w K mg base 45 "pair_of" ["places","saying"] (jv P w K))(h_K:gD P w K mg base 1 "places_of" ["sheet"] (ju P w K))(h_bg:gD P w K mg base 3 "paper" ["lines","i","j"] spPn)(h_aa:gD P w K mg base 2 "world_of" ["sheet","lines"] (OJ K))(h_x:gD P w K mg base 26 "spot_against" ["world","saying"] spSg)(F:fR K "judge_on" "judge_on" s_N f fd):cW P w K mg base fS 48 f fd ["sheet","book","saying"] (spJo K):=by
 refine F.okz sc_N λeP A outer s H vs Q E hr h=>?_
 let⟨sa,ba,v,us,bs,rows,b,s,rfl,y,B,hs,iC,L,M,X,hb,Y,U,hv,C,w1,w2,⟨m0,ps0,S0,Z,hr0,hs0⟩,q⟩:=h;calc#[_,have nd:=sc_N.nd;zC #[]<|zC #[]<|zC #[]<|zC (yD (yG b6 #[] vV<|yP _) #[] zO) #[],?_];refine zD λN c=>?_
 dsimp![];calc#[sa,ba,us,bs,rows,b,rfl,y,B,iC,(),X,hb,Y,U,λpn ws H1 s1 kn hn=>?_];let G:∀r∈b.map (nR rows),r.1.length<=100:=λr hr=>by
  let⟨r',iG,rfl⟩:=bF.mp hr;show(r'.1.map _).length<=100;rw[aD];have :=(U r' iG).1;lia
 calc#[sa,pn,us,ws,rows,b.map<|nR rows,rfl,s1 _ _ y,B.same s1,kn,hn,(),hs.in_,by rw[aD];lia,G,λla W ls H2 s2 kl d gk iK a=>c _ _ ?_];clear c;replace s2:=s1.trans s2;clear s1 kn hn;let hh:zK ls (nS rows s).1 (nS rows s).2=false:=by
  rw[dH];exact λz=>hs0<|sound Z hs U hr0 gk C z
 refine zD λN c=>?_
 dsimp![];calc#[sa,us,rows,rfl,s2 _ _ y,B.same s2,iC,(),λpa as J H3 s3 px=>?_];calc#[pa,v,rows,as,s,J,rfl,px,eE.same (s2.trans s3) hv,C,λpp J4 H4 as4 s4 I kp=>c _ _ ?_];clear c;let D:aZ H2 H4:=s3.trans<|s4.trans I.sub;replace kp:=I.sub _ _ kp;clear px I s3 s4;replace kl:=D _ _ kl;replace d:vJ H4 ls W:=bK.same D d;replace s2:=s2.trans D;clear D;refine zD λN c=>?_
 dsimp![];let hll:ls.length<=6400:=bT gk.len (by
  have :2*rows.length<=80:=by lia
  calc fm this this)
 let hno:∀l∈ls,¬(l.i=(nS rows s).1/\l.j=(nS rows s).2):=λl hl e=>by
  let⟨i,hi,e2⟩:=cS hl;have :=fE.mpr #[i,l,by rw[aA hi,e2],e.1,e.2];rw[hh]at this;cases this
 calc#[_,cV.of kp,_,gG,_,cV.of kp,_,mV,la,W,ls,_,_,rfl,kl,d,hno,λH5 s5=>c _ _ ?_];clear c;replace s2:=s2.trans s5;replace kl:=s5 _ _ kl;replace d:vJ H5 ls W:=bK.same s5 d;clear kp;refine zD λN c=>?_
 dsimp![];rw[aH (by simp)];calc c _ _ ?_;clear c;let R:=Rl.of iK a;let l1:=(C.1.val (XH hs iK a) (QF hs iC iK a) hs).1;let l2:=(C.2.val (XH hs iK a) (QF hs iC iK a) hs).1;let O:zK ls 1 0=false:=by
  rw[dH];intro z;let e1:rl ls 1 (dG s.2 rows).2=true:=R.all 1 _ z l2;let e2:rl ls (dG s.1 rows).2 1=true:=iK.high _ l1;have :=R.trans _ _ _ e2 e1;let this:zK ls (nS rows s).1 (nS rows s).2=true:=this;rw[hh]at this;cases this
 refine zD λN c=>?_
 dsimp![];calc#[sa,la,us,W,rows,ls,rfl,s2 _ _ y,B.same s2,L,M,SF iC,kl,d,(),gk.keys,(λz=>by rw[O]at z;cases z),λ_ wa T ca ra vw H6 s6 o=>c _ _ ?_];clear c;dsimp![];let hz:∀x∈oV s.1++oV s.2,x∈T.map (·.2.1):=λx hx=>by
  let go:∀{t:Tm},fc rows t->x∈oV t->x∈T.map (·.2.1):=λ{t} g hx=>by
   let⟨k,hk⟩:=IE 21 t g.1 _ g.num x hx;exact o.perm.mem_iff.mpr<|bF.mpr #[(x,k),IH<|QR hk,rfl]
  rcases cD.mp hx with h |h
  ·exact go C.1 h
  ·exact go C.2 h
 let hns:¬Hs _ _ _ s:=λz=>by
  have :=(FN hs iC iK a C).mp z;rw[hh]at this;cases this
 let wx:=wx_of iC L M o;calc#[wa,v,s,_,_,_,_,rfl,wx,eE.same (s2.trans s6) hv,#[C.1.1,w1],#[C.2.1,w2],hz,hns,λn H7 s7 in1 no2=>#[zI (),λp hp=>?_]];let hT:T.length<=40:=by
  have :=o.perm.length_eq;rw[aD,aD]at this;lia
 let u:∀e∈T,∃k,k<rows.length/\e.2.2.2=jC (yF (2*rows.length)<|rl ls) (rl ls) (2*k)/\rows[k]?=some (.nm e.2.1):=λe he=>by
  let⟨k,k1,k2⟩:=o.is e he;exact#[k,(UD k1).2,k2,(UD k1).1]
 let S:=d8 (R:=rl ls)<|yF (2*rows.length)<|rl ls;let hsl:(yF (2*rows.length)<|rl ls).length<=2*rows.length:=HD;let m:=s7.trans<|zB hp<|.tup [.str "open",.ref wa,.int n];refine q p wa ca ra n _ _ T vw _ _ ((s2.trans s6).trans m) zA #[m _ _ o.tup,m _ _ o.cl,bK.same m o.dat,m _ _ o.lst,o.tr.same m,av (by have :=hs.pos;lia) O,(),UO _,VO _,bT S (bT (fm (show _<=80 by lia)<|show _<=80 by lia) ()),hT,o.srt,λe he=>?_,λe he=>?_,λe he=>?_,λx k hk=>o.perm.mem_iff.mpr<|bF.mpr #[(x,k),IH hk,rfl],XH hs iK a,wx.sr,m9 hs iC iK a U,in1,no2]
 ·let⟨k,_,_,k3⟩:=u e he;exact hs.nm k _ k3
 ·let⟨k,k1,k2,_⟩:=u e he;rw[k2];exact BW R ()
 ·let⟨k,k1,k2,k3⟩:=u e he;rw[k2];unfold NK;rw[OV iC k3]
inductive spJu (K:W.Frag) (CU:Addr) (vs:List V) (H:Hp) (Q:VK) (E:XK):Prop
 |mk (ba:Addr) (v:V) (bs:List V) (b:List mX) (s:Tm×Tm) (_:vs=[.ref ba,v]) (_:H ba=some (.lst bs)) (_:iJ H b bs) (_:oB H s v) (_:b.length<=20) (_:(∀r∈b,r.1.length<=5)) (_:(∀t∈gS b++iN s,fY 20 t/\wt t<=120)) (_:Vo b s) (_:(40<(yQ (gS b++iN s) [.no]).length->∀H',aZ H H'->E (.ref CU) none H')) (_:((yQ (gS b++iN s) [.no]).length<=40->∀(p wa ca la:Addr)(n m:Nat)(ps:List (Nat×Nat))(T:List Ro)(us':List V)(S:Str->List Nat) H',aZ H H'->H' p=some (.tup [.str "open",.ref wa,.int n])->oy H' (yQ (gS b++iN s) [.no]) b s wa ca la n m ps T us' S->Q (.ref p) H'))
theorem ai{r:mX}(h:r.1.length<=5):(NG r).length<=12:=by
 have :∀ps:List (Tm×Tm),(yV ps).length=2*ps.length:=λps=>by
  induction ps with
  |nil=>rfl
  |cons p ps a=>
   show(iN p++yV ps).length=_;rw[aK,a,bC];show 2+_=_;lia
 unfold NG;rw[aK,this];show _+2<=12;lia
theorem wH:∀{b:List mX},(∀r∈b,r.1.length<=5)->(gS b).length<=12*b.length
 |[],_=>aG _
 |r::b,h=>by
  show(NG r++gS b).length<=_;rw[aK,bC];have :=ai<|h r aW;have :=wH (b:=b) λq hq=>h q (aX _ hq)
  lia
theorem dv{b:List mX}(hf:∀t∈gS b++iN s,fY 20 t)(hp:∀r∈b,r.1.length<=5):(∀r∈b,o9 (yQ (gS b++iN s) [.no]) r)/\WW (yQ (gS b++iN s) [.no]) s:=by
 let a:=XM (gS b++iN s) [.no] hf;let d:∀t∈gS b++iN s,fc (yQ (gS b++iN s) [.no]) t:=λt ht=>TV (hf t ht)<|a t ht
 let c:∀{p:Tm×Tm},(∀t∈iN p,t∈gS b++iN s)->WW (yQ (gS b++iN s) [.no]) p:=λ{p} h=>#[d _ (h _ (by simp[iN])),d _<|h _ (by simp[iN])]
 refine#[λr hr=>#[hp r hr,λp hp=>c λt ht=>?_,c λt ht=>?_],c λt ht=>bB _ ht]
 ·exact cG _<|dP.mpr #[r,hr,cG _<|dP.mpr #[p,hp,ht]]
 ·exact cG _<|dP.mpr #[r,hr,bB _ ht]
theorem df(rows:List Rw):(FF rows).length<=rows.length:=by
 unfold FF;exact bT (List.length_filterMap_le _ _) (by rw[cH];calc aG _)
theorem RP(bi:Bi mg)(h_N:gD P w K mg base 48 "judge_on" ["sheet","book","saying"] (spJo K))(h_n:oE P w K mg base 45 "sheet_of" ["terms"] (spSo K CU))(h_ad:gD P w K mg base 1 "terms_in" ["book","saying"] spTI)(F:fR K "judge" "judge" km f fd):cW P w K mg base (pU P w) 49 f fd ["book","saying"] (spJu K CU):=by
 refine F.okX gu (λvs H Q E h=>?_) λeP A outer s H vs Q E hr h=>?_
 ·let⟨ba,v,bs,b,s,rfl,_⟩:=h;rfl
 let⟨ba,v,bs,b,s,rfl,d,hb,j,k,iK,c,e,o,q⟩:=h;let hf:=λt ht=>(c t ht).1
 calc#[_,have nd:=gu.nd;zH<|zS<|zQ h_N hr.m rfl<|zE (qY h_n hr.m rfl #[]) #[],?_];dsimp![];let r:=wH iK;let⟨g,iC⟩:=CF (gS b++iN s) [.no] hf pA.one (by simp);let⟨u,x⟩:=dv hf iK;let C:=(c s.1<|bB _ (by simp[iN])).2;let D:=(c s.2<|bB _ (by simp[iN])).2;calc#[ba,v,bs,b,s,rfl,d,hb,j,(),λpt y H1 s1 z ht=>?_];calc#[pt,y,gS b++iN s,rfl,z,ht,hf,λl H' s'=>o l H'<|s1.trans s',λa p ws H2 s2 kp i=>?_];replace s2:=s1.trans s2;exact#[p,ba,v,ws,bs,_,b,s,rfl,kp,i,g,iC,a,bT (df _) a,s2 _ _ d,bK.same s2 hb,(),u,eE.same s2 j,x,(),(),e,λB wa ca la n m ps T us' S H' s'=>q a B wa ca la n m ps T us' S H'<|s2.trans s']
abbrev ko:Stmt:=top 64
theorem gv:bP ["script","k","cell","mixed"] ["script","k"] (zF ko):=by rfl'
theorem ik:(0:Int)<10^Int.toNat 60:=by show(0:Int)<10^60;simp
theorem idxI(zs:List Int)(k:Int)(h0:0<=k)(h1:k<zs.length):∃z,pO (zs.map V.int) k=some (.int z):=by
 let hk:k.toNat<zs.length:=by lia
 exact#[zs[k.toNat],kD h0 (by rw[aF,aA hk];rfl)]
def spDr(K:W.Frag):Sp:=λvs H Q _=>∃(a:Addr)(ns:List Int)(k:Nat),vs=[.ref a,.int k]/\dB K H a (ns.map V.int)/\ns.length<=63/\k<=100/\∀z:Int,0<=z->Q (.int z) H
noncomputable def wd(rs:List Nat):Str:=#[(rs.map (97+ ·)).toArray]
theorem MH(n:Nat)(h:n<26):pO ("abcdefghijklmnopqrstuvwxyz":Str).cps.toList (n:Int)=some (97+n):=by
 let h2:∀k:Fin 26,("abcdefghijklmnopqrstuvwxyz":Str).cps.toList[k.val]?=some (97+k.val):=by decide+kernel
 exact zU<|h2 #[n,h]
theorem cu(bi:Bi mg)(F:fR K "_law_draw" "_law_draw" ko f fd):cW P w K mg base fS 1 f fd ["script","k"] (spDr K):=by
 refine F.okz gv λeP A outer s H vs Q E hr h=>?_
 let⟨a,ns,k,rfl,d,hl,hk,q⟩:=h;calc#[_,have nd:=gv.nd;zC #[]<|zC (xI 2 nd<|jZ RJ (zV yB #[] #[]) #[]) #[],?_];refine zD λN c=>?_
 dsimp![];calc#[_,.inl #[_,d,rfl],rfl,?_];rw[aD];by_cases i:ns.length=0
 ·rw[aO ()];exact q 0 ()
 rw[aH ()];calc c _ _ ?_;clear c;refine zD λN c=>?_
 dsimp![];let e:0<=(k:Int) % (ns.length:Int):=oG _ ();let g:(k:Int) % (ns.length:Int)<ns.length:=DC _ ();let⟨z,hz⟩:=idxI ns ((k:Int) % (ns.length:Int)) e g;calc#[ns.length,.inl #[_,d,by rw[aD]],(),_,d,_,hz,#[(),(),()],_,rfl,ik,c _ _ ?_];clear c;let hc:=oG z (b:=10^Int.toNat 60)<|Int.ne_of_gt ik;generalize z % 10^Int.toNat 60=cell at hc;refine zD λN c=>?_
 dsimp![];calc#[ns.length,.inl #[_,d,by rw[aD]],?_];split
 ·exact q cell hc
 calc c _ _ ?_;clear c;refine zD λN c=>?_
 dsimp![];calc#[.inl #[(),()],.inl #[(),()],(),c _ _ ?_];clear c;let h1:=oG (cell+7919*(k:Int)*(k:Int)+1) (b:=2147483647) ();let h2:=DC (cell+7919*(k:Int)*(k:Int)+1) (b:=2147483647) ();generalize (cell+7919*(k:Int)*(k:Int)+1) % 2147483647=mixed at h1 h2;dsimp![];refine#[.inl #[(),()],(),q _<|oG _ ()]
theorem VM(xs:List V)(k:Nat)(h1:1<=k)(h:k<=xs.length):uQ xs none (some (-(k:Int)))=xs.take (xs.length-k):=by
 unfold uQ;let e:HT.sIx xs.length xs.length (some (-(k:Int)))=xs.length-k:=by
  unfold HT.sIx;simp only;rw[aO ()];lia
 rw[e,HT.sIx_none,rR,Nat.sub_zero]
theorem oB.tups(e:cX H H'){p:Tm×Tm}(h:oB H p v):oB H' p v:=by
 let⟨a,b,c,rfl,ha,h1,h2⟩:=oB.out h;exact#[a,_,rfl,e _ _ ha,_,_,rfl,hU.tups e h1,_,_,rfl,hU.tups e h2,rfl]
theorem lS.tups{H H':Hp}(e:cX H H'):∀{ps:List (Tm×Tm)}{vs:List V},lS H ps vs->lS H' ps vs
 |[],vs,h=>h
 |p::ps,vs,h=>by
  let⟨v,r,rfl,h1,h2⟩:=h;exact#[v,r,rfl,oB.tups e h1,lS.tups e h2]
abbrev kh:Stmt:=top 70
theorem gn:bP ["rows","row"] ["rows","row"] (zF kh):=by rfl'
abbrev s_j:Stmt:=top 71
theorem sc_j:bP ["rows","t","flip","made","part","other"] ["rows","t"] (zF s_j):=by rfl'
abbrev s_Y:Stmt:=top 72
theorem sc_Y:bP ["rows","saying","one"] ["rows","saying"] (zF s_Y):=by rfl'
abbrev s_s:Stmt:=top 73
theorem sc_s:bP ["book","saying","rows","premises","one","premise"] ["book","saying"] (zF s_s):=by rfl'
structure RL(H J:Hp)(ra:Addr)(rows:List Rw):Prop where
 no:J ra=none
 sub:aZ J H
 ex:∃us,H ra=some (.lst us)/\bK J (rows.map sE) us
theorem RL.new{ra:Addr}{o:HO}(h:RL H J ra rows)(hp:H p=none):RL (upd H p o) (upd J p o) ra rows:=by
 let⟨us,h1,h2⟩:=h.ex;let b:ra≠p:=λe=>by rw[e,hp]at h1;cases h1
 let c:J p=none:=h.sub.free hp;calc#[by rw[zG b];exact h.no,λa x hx=>?_,us,by rw[zG b];exact h1,bK.same (zB c _) h2];by_cases e:a=p
 ·subst e;rw[zA]at hx⊢;exact hx
 ·rw[zG e]at hx⊢;exact h.sub _ _ hx
inductive spRo (vs:List V) (H:Hp) (Q:VK) (E:XK):Prop
 |mk (ra:Addr) (v:V) (J:Hp) (rows:List Rw) (r:Rw) (_:vs=[.ref ra,v]) (_:RL H J ra rows) (_:eE J (sE r) v) (_:rows.length<=90000) (_:∀H',RL H' J ra (yZ rows r).1->Q (.int ((yZ rows r).2:Nat)) H')
theorem oq(rows:List Rw)(r:Rw):((rows.map sE).any λe=>iS e<|sE r)=(oN rows r).isSome:=by
 unfold oN;rw[List.any_map,List.findIdx?_isSome];rfl
theorem mj(F:fR K "_law_row" "_law_row" kh f fd):cW P w K mg base fS 1 f fd ["rows","row"] spRo:=by
 refine F.okz gn λeP A outer s H vs Q E hr h=>?_
 let⟨ra,v,J,rows,r,rfl,rl,j,hl,q⟩:=h;calc#[_,have nd:=gn.nd;zC (yD (yG (kL hr.units) #[] #[] (by with_unfolding_all rfl)) #[] zO)<|zH<|zS<|jZ EQ zW<|qZ cM PySem.F.slot_list_index PySem.F.type_list_index (MB hr.units) #[] #[],?_];let⟨us,iO,b⟩:=rl.ex;let y:us.length=rows.length:=by have :=bK.length b;rwa[aD]at this
 refine zD λN t=>?_
 dsimp![LH];let g:∀e∈rows.map sE,jY 2 e:=λe he=>by
  let⟨z,_,rfl⟩:=bF.mp he;exact VB 1 z
 calc#[2,sE r,eE.same rl.sub j,rows.map sE,.inl #[ra,us,rfl,iO,bK.same rl.sub b],g,(),?_];rw[oq];let key:∀(H':Hp)(us':List V)(lB:List Rw)(k:Nat),aZ J H'->H' ra=some (.lst us')->bK J (lB.map sE) us'->lB.length<=90001->oN lB r=some k->yZ rows r=(lB,2*k)->N [some<|.ref ra,some v] H':=λH' us' lB k l m u G B x=>t _ _ (by
  clear t;dsimp![HP];let c:=eV.mp B;let d:∀e∈lB.map sE,jY 2 e:=λe he=>by
   let⟨z,_,rfl⟩:=bF.mp he;exact VB 1 z
  refine#[.inl #[rfl,_,dB.of m],_,m,lB.map sE,bK.same l u,sE r,eE.same l j,2,d,(),by rw[aD];lia,k,#[_,by rw[aF,aA c.1];rfl,c.2.1],λC I n i=>?_,?_]
  ·rw[aF]at i;let⟨L,p,rfl⟩:=aL.mp i;let⟨hl,he⟩:=aC.mp p;have :=c.2.2 C n;rw[he]at this;simpa using this
  ·calc#[.inl #[(),()],?_];have :=q H' (by rw[x];calc#[rl.no,l,us',m,u]);rw[x]at this;calc this)
 cases hx:oN rows r with
 |some k=>
  rw[aH (by simp)];exact key H us rows k rl.sub iO b () hx (by unfold yZ;rw[hx])
 |none=>
  rw[aO (by simp)];let D:aZ J (upd H ra<|.lst<|us++[v]):=λa o ha=>by
   rw[zG λe=>by rw[e,rl.no]at ha;cases ha];exact rl.sub _ _ ha
  exact#[.inl #[rfl,_,dB.of iO],us,iO,j8 (),key _ (us++[v]) (rows++[r]) rows.length D zA (by rw[aQ];calc bK.append b<|bK.one j) (by rw[aK,cC];lia) (YJ hx) (by unfold yZ;rw[hx])]
def CP:Nat->Tm->Prop
 |0,_=>False
 |1,_=>False
 |n+2,t=>fY n t
theorem CP.part{wd:Str}(h:CP (n+1) (.node wd ts)):∀t∈ts,CP n t:=by
 match n,h with
 |0,h=>exact h.elim
 |1,h=>exact λt ht=>by rw[(show fY 0 (.node wd ts)from h).2]at ht;cases ht
 |n+2,h=>exact λt ht=>fY.part (show fY (n+1) (.node wd ts)from h) ht
theorem CP.sh{wd:Str}(h:CP n (.node wd ts)):Sh wd ts.length:=by
 match n,h with
 |0,h=>exact h.elim
 |1,h=>exact h.elim
 |2,h=>exact(show fY 0 (.node wd ts)from h).1
 |n+3,h=>exact(show fY (n+1) (.node wd ts)from h).1
theorem CP.ex{t:Tm}(h:CP n t):∃m,fY m t:=by
 match n,h with
 |0,h=>exact h.elim
 |1,h=>exact h.elim
 |n+2,h=>exact#[n,h]
theorem JY(e:Bool)(t:Tm):∀(ts:List Tm)(rows:List Rw)(m:Nat),yJ e (ts++[t]) rows m=yZ (dG t (yJ e ts rows m).1).1 (.bo ((yJ e ts rows m).2:Nat) (iY e (dG t (yJ e ts rows m).1).2:Nat))
 |[],rows,m=>by
  show yJ e [t] rows m=_;rw[yJ,yJ,yJ]
 |u::ts,rows,m=>by
  show yJ e (u::(ts++[t])) rows m=_;rw[yJ,JY e t ts,yJ]
theorem sIx2(n:Nat):HT.sIx (n+1+1) 0 (some 2)=2:=by
 unfold HT.sIx;simp only;rw[aH ()];lia
inductive spLd (n:Nat) (vs:List V) (H:Hp) (Q:VK) (E:XK):Prop
 |mk (ra:Addr) (v:V) (J:Hp) (rows:List Rw) (t:Tm) (_:vs=[.ref ra,v]) (_:RL H J ra rows) (_:pA rows) (_:hU J t v) (_:CP n t) (_:rows.length+2*wt t<=80000) (_:∀J' H',aZ J J'->RL H' J' ra (dG t rows).1->Q (.int ((dG t rows).2:Nat)) H')
theorem cp(bi:Bi mg)(h_bc:gD P w K mg base 1 "_law_row" ["rows","row"] spRo)(F:fR K "_law_laid" "_law_laid" s_j f fd)(b:Binds K fd ["rows","t"] [])(m:mg "_law_laid"=some (.ref f)):∀n,cW P w K mg base fS n f fd ["rows","t"] (spLd n):=by
 calc QT F b m (λvs H Q E h=>by let⟨_,_,_,_,_,_,_,_,_,h,_⟩:=h;calc h) λn h_j=>?_;cases n with
 |zero=>exact#[λvs H Q E h=>by let⟨_,_,_,_,_,_,_,_,_,h,_⟩:=h;exact h.elim,λA outer s H args us vs Q E _ _ _ _ h=>by let⟨_,_,_,_,_,_,_,_,_,h,_⟩:=h;calc h.elim]
 |succ n=>
 refine F.okz sc_j λeP A outer s H vs Q E hr h=>?_
 let⟨ra,v,J,rows,t,rfl,rl,C,ht,hf,hl,q⟩:=h;calc#[_,have nd:=sc_j.nd;zC #[]<|zC #[]<|zC #[]<|zC #[]<|zC (xI 2 nd<|jM MU rfl bi.int FV #[])<|zC #[]<|zC (yC bO rfl (kI<|jE YG #[] (jQ zW) qM) #[] #[]) #[],?_];cases t with
 |name x=>
  let⟨a,rfl,ha⟩:=hU.name ht;refine zD λN g=>?_
  dsimp![];calc#[_,cV.of<|rl.sub _ _ ha,.str "name",gG,rfl,?_];rw[aH ()];calc g _ _ ?_;clear g;refine zD λN g=>?_
  dsimp![];calc#[_,cV.of<|rl.sub _ _ ha,.str "name",gG,rfl,?_];rw[aH ()];calc g _ _ ?_;clear g;refine zD λN g=>?_
  dsimp![];calc#[_,cV.of<|rl.sub _ _ ha,.str "name",gG,rfl,?_];rw[aO rfl];calc#[ra,_,J,rows,.nm x,rfl,rl,ht,(),λH' r=>?_];have :=q J H' (aZ.refl J) (by rw[dG];calc r);rw[dG]at this;exact this
 |node wd ts=>
  let⟨a,us,rfl,ha,hu⟩:=hU.node ht;let j:=rl.sub _ _ ha;let⟨m0,I⟩:=hf.ex;let hul:us.length=ts.length:=by have :=bK.length hu;rwa[aD]at this
  refine zD λN g=>?_
  dsimp![];calc#[_,cV.of j,.str wd,gG,rfl,?_];by_cases k:wd="none"
  ·rw[aO (by rw[k])];have :=q J H (aZ.refl J) (by rw[dG,aO k];calc rl);rw[dG,aO k]at this;exact this
  rw[aH λz=>k<|V.str.inj z];calc g _ _ ?_;clear g;refine zD λN g=>?_
  dsimp![];calc#[_,cV.of j,.str wd,gG,rfl,?_];by_cases l:wd="all"
  ·rw[aO (by rw[l])];have :=q J H (aZ.refl J) (by rw[dG,aH k,aO l];calc rl);rw[dG,aH k,aO l]at this;exact this
  rw[aH λz=>l<|V.str.inj z];calc g _ _ ?_;clear g;refine zD λN g=>?_
  dsimp![];calc#[_,cV.of j,.str wd,gG,rfl,?_];rw[aH λe=>I.wrd.ne<|V.str.inj e];calc g _ _ ?_;clear g;obtain⟨t0,d,rfl⟩:∃t0 d,ts=t0::d:=by
   cases ts with
   |nil=>
    rcases hf.sh with h |h |h |h |h
    ·exact(k h.1).elim
    ·exact(l h.1).elim
    ·cases h.2
    ·exact absurd h.2 ()
    ·exact absurd h.2 ()
   |cons t0 d=>exact#[t0,d,rfl]
  let⟨u0,us',rfl,mO,iO⟩:=hu;let hw:wt (.node wd (t0::d))=1+(wt t0+lI d):=by rw[wt,lI]
  let⟨m1,W⟩:=(hf.part t0 aW).ex;refine zD λN g=>?_
  dsimp![];calc#[_,cV.of j,.str wd,gG,rfl,?_];by_cases y:wd="not"
  ·rw[aO (by rw[y])];let e0:d=[]:=by
    rcases hf.sh with h |h |h |h |h
    ·exact(k h.1).elim
    ·exact(l h.1).elim
    ·let h2:=h.2;rw[bC]at h2;exact fM.mp ()
    ·exact absurd (y.symm.trans h.1) ()
    ·exact absurd (y.symm.trans h.1) ()
   subst e0;let S:dG (.node wd [t0]) rows=((dG t0 rows).1,pH (dG t0 rows).2):=by rw[dG,aH k,aH l,aO y,jB,yJ];rfl
   calc#[_,cV.of j,_,mV,ra,u0,J,rows,t0,rfl,rl,C,mO,hf.part t0 aW,(),λJ' H' s' r'=>?_];calc#[_,rfl,?_];rw[tF,QH];rw[S]at q;exact q J' H' s' r'
  rw[aH λz=>y<|V.str.inj z];calc g _ _ ?_;clear g;refine zD λN g=>?_
  dsimp![];calc#[_,cV.of j,_,gG,rfl,g _ _ ?_];clear g;let efl:(if V.str wd=V.str "either" then(1:Int)else 0)=if decide (wd="either")=true then 1 else 0:=by
   by_cases c:wd="either"
   ·rw[aO (by rw[c]),aO (by rw[c];rfl)]
   ·rw[aH λz=>c<|V.str.inj z,aH (by simpa using c)]
  rw[efl];let S:dG (.node wd (t0::d)) rows=((yJ (decide<|wd="either") d (dG t0 rows).1 (iY (decide<|wd="either") (dG t0 rows).2)).1,iY (decide<|wd="either") (yJ (decide<|wd="either") d (dG t0 rows).1 (iY (decide<|wd="either") (dG t0 rows).2)).2):=by
   rw[dG,aH k,aH l,aH y,jB]
  rw[S]at q;generalize decide (wd="either")=e at q⊢;clear efl S;let⟨g1,g2,g3,g4⟩:=uS t0 m1 rows W C;refine zD λN g=>?_
  dsimp![];calc#[_,cV.of j,_,mV,ra,u0,J,rows,t0,rfl,rl,C,mO,hf.part t0 aW,(),λJ1 H1 s1 T=>#[_,rfl,g _ _ ?_]];clear g;rw[ZO];refine zD λN g=>?_
  dsimp![];let B:=T.sub _ _<|s1 _ _ ha;calc#[_,cV.of B,λz=>absurd z.1 (by rw[bC,bC,sIx2];decide),λp hp=>?_];rw[IW];calc#[#[_,cV.of zA],?_];let X:=T.new (o:=.tup us') hp;let s2:=s1.trans<|zB (T.sub.free hp)<|.tup us';let kp:upd J1 p (HO.tup us') p=some (.tup us'):=zA;clear B j rl s1 T;generalize upd J1 p (.tup us')=J2 at X s2 kp;generalize upd H1 p (.tup us')=H2 at X;refine TW (xs:=us') (λi σ H'=>∃(J':Hp)(Y Z:Option V),aZ J2 J'/\RL H' J' ra (yJ e (d.take i) (dG t0 rows).1 (iY e (dG t0 rows).2)).1/\σ=[some<|.ref ra,some<|.ref a,some (.int<|if e=true then 1 else 0),some<|.int ((yJ e (d.take i) (dG t0 rows).1 (iY e (dG t0 rows).2)).2:Nat),Y,Z]) #[J2,_,_,aZ.refl _,by rw[List.take_zero,yJ];exact X,by rw[List.take_zero,yJ]] (λi σ H' _ h=>by let⟨J',_,_,h1,h2,_⟩:=h;calc cV.of<|h2.sub _ _<|h1 _ _ kp) (λi x σ H' hx h M hM=>?_) λσ H' h=>?_
  ·let⟨J3,Y,Z,U,L,rfl⟩:=h;let⟨t,D,hx3⟩:=fF.getV iO hx;let O:=aP D;let⟨m3,hf3⟩:=(hf.part t<|aX _ O).ex;let lY:=(aC.mp D).1;let etk:d.take (i+1)=d.take i++[t]:=by rw[aJ lY,(aC.mp D).2]
   let hwt:lI (d.take i)+wt t<=lI d:=by
    have :=cQ lI<|dR (i+1) d;rw[jJ,etk,jJ,lI,lI]at this;lia
   let⟨k,l,y,c4⟩:=XQ e (d.take i) (dG t0 rows).1 (iY e (dG t0 rows).2) (λu hu=>(hf.part u<|aX _<|eS hu).ex) g1 (YE g4);rw[etk,JY]at hM;generalize yJ e (d.take i) (dG t0 rows).1 (iY e (dG t0 rows).2)=G at L k l y c4 hM⊢;let⟨d1,d2,d3,d4⟩:=uS t m3 G.1 hf3 k;refine zD λN g=>?_
   dsimp![];calc#[ra,x,J3,G.1,t,rfl,L,k,eE.same (s2.trans U) hx3,hf.part t<|aX _ O,(),λJ4 H4 s4 r4=>#[_,rfl,g _ _ ?_]];clear g;rw[ZO];dsimp![];calc#[zI (),λp5 R=>?_];let r5:=r4.new (o:=.tup [.str "both",.int (G.2:Nat),.int (iY e (dG t G.1).2:Nat)]) R;refine#[ra,.ref p5,_,(dG t G.1).1,.bo (G.2:Nat) (iY e (dG t G.1).2:Nat),rfl,r5,#[p5,_,rfl,zA,_,_,rfl,rfl,_,_,rfl,rfl,_,_,rfl,rfl,rfl],(),λH6 r6=>hM _ _ #[_,_,_,U.trans<|s4.trans<|zB (r4.sub.free R) _,r6,rfl]]
  ·let⟨J3,Y,Z,U,L,rfl⟩:=h;rw[aR (by have :=bK.length iO;rw[aD]at this;lia)]at L⊢;calc g _ _ ?_;clear g;dsimp![];rw[ZO];exact q J3 H' (s2.trans U) L
inductive spPr (n:Nat) (vs:List V) (H:Hp) (Q:VK) (E:XK):Prop
 |mk (ra:Addr) (v:V) (J:Hp) (rows:List Rw) (s:Tm×Tm) (_:vs=[.ref ra,v]) (_:RL H J ra rows) (_:pA rows) (_:oB J s v) (_:fY n s.1) (_:fY n s.2) (_:rows.length+2*(wt s.1+wt s.2)<=80000) (_:∀p J' H',aZ J J'->RL H' J' ra (dG s.2 (dG s.1 rows).1).1->J' p=some (.tup [.int ((dG s.1 rows).2:Nat),.int ((dG s.2 (dG s.1 rows).1).2:Nat)])->Q (.ref p) H')
inductive j7 (vs:List V) (H:Hp) (Q:VK) (E:XK):Prop
 |mk (ba:Addr) (v:V) (bs:List V) (b:List mX) (s:Tm×Tm) (_:vs=[.ref ba,v]) (_:H ba=some (.lst bs)) (_:iJ H b bs) (_:oB H s v) (_:b.length<=20) (_:(∀r∈b,r.1.length<=5)) (_:(∀t∈gS b++iN s,fY 20 t/\wt t<=120)) (_:∀ra J H',aZ H J->RL H' J ra (yQ (gS b++iN s) [.no])->Q (.ref ra) H')
theorem uD:∀(a b:List Tm)(rows:List Rw),yQ (a++b) rows=yQ b (yQ a rows)
 |[],b,rows=>rfl
 |t::a,b,rows=>uD a b _
theorem NZ(ps:List (Tm×Tm)):(yV ps).length=2*ps.length:=by
 induction ps with
 |nil=>rfl
 |cons p ps a=>
  show(iN p++yV ps).length=_;rw[aK,a,bC];show 2+_=_;lia
theorem XN:∀(ts:List Tm)(rows:List Rw),(∀t∈ts,fY 20 t/\wt t<=120)->pA rows->pA (yQ ts rows)/\(yQ ts rows).length<=rows.length+240*ts.length
 |[],rows,_,h=>#[h,aG _]
 |t::ts,rows,hf,h=>by
  let⟨g1,g2,g3,g4⟩:=uS t 20 rows (hf t aW).1 h;let b:=(hf t aW).2;let⟨a,c⟩:=XN ts (dG t rows).1 (λu hu=>hf u<|aX _ hu) g1;calc#[a,?_];show(yQ ts (dG t rows).1).length<=_;rw[bC];lia
theorem KS{b:List mX}{r:mX}(h:b[i]?=some r):gS (b.take<|i+1)=gS (b.take i)++yV (r.1++[r.2]):=by
 let⟨hi,e⟩:=aC.mp h;rw[aJ hi,e];simp[gS,NG,yV]
theorem DM{ps:List (Tm×Tm)}{p:Tm×Tm}(h:ps[i]?=some p):yV (ps.take<|i+1)=yV (ps.take i)++iN p:=by
 let⟨hi,e⟩:=aC.mp h;rw[aJ hi,e];simp[yV]
theorem ck(h_j:gD P w K mg base 22 "_law_laid" ["rows","t"] (spLd 22))(F:fR K "_law_pair" "_law_pair" s_Y f fd):cW P w K mg base fS 23 f fd ["rows","saying"] (spPr 20):=by
 refine F.okz sc_Y λeP A outer s H vs Q E hr h=>?_
 let⟨ra,v,J,rows,s,rfl,rl,b,k,d,l,hl,q⟩:=h;calc#[_,have nd:=sc_Y.nd;#[],?_];let⟨a,us,rfl,ha,x,n,rfl,hx,y,c,rfl,hy,e⟩:=k;cases (show c=[]from e);let⟨g1,g2,g3,g4⟩:=uS s.1 20 rows d b;refine zD λN g=>?_
 dsimp![];calc#[_,cV.of<|rl.sub _ _ ha,_,gG,ra,x,J,rows,s.1,rfl,rl,b,hx,d,(),λm H1 s1 i=>g _ _ ?_];clear g;dsimp![];refine#[_,cV.of<|i.sub _ _<|s1 _ _ ha,_,mV,ra,y,m,_,s.2,rfl,i,g1,eE.same s1 hy,l,(),λo H2 s2 j=>#[zI (),λp hp=>q p _ _ (s1.trans<|s2.trans<|zB (j.sub.free hp) _) (j.new hp) zA]]
theorem BA(h_Y:gD P w K mg base 23 "_law_pair" ["rows","saying"] (spPr 20))(F:fR K "_law_all_rows" "_law_all_rows" s_s f fd):cW P w K mg base fS 24 f fd ["book","saying"] j7:=by
 refine F.okz sc_s λeP A outer s H vs Q E hr h=>?_
 let⟨ba,v,bs,b,s,rfl,hba,hb,hv,hbl,iK,hf,q⟩:=h;calc#[_,have nd:=sc_s.nd;zC #[]<|zC (yC bO rfl #[] #[]<|zH<|yC bO rfl (vO<|jZ ET #[] #[]) #[] #[]) #[],?_];let hbsl:bs.length=b.length:=by have :=bK.length hb;rwa[aD]at this
 refine zD λN k=>?_
 dsimp![];calc#[zI (),λl C=>#[zI (),λra m=>k _ _ ?_]];clear k;let D:=zB C<|.tup [.str "none"];let U:RL (upd (upd H l<|.tup [.str "none"]) ra<|.lst [.ref l]) (upd H l<|.tup [.str "none"]) ra [.no]:=#[m,zB m _,_,zA,_,_,rfl,#[l,_,rfl,zA,_,_,rfl,rfl,rfl],rfl]
 clear m C;generalize upd (upd H l<|.tup [.str "none"]) ra (.lst [.ref l])=H1 at U;generalize upd H l (.tup [.str "none"])=z at D U;let g:=D _ _ hba;let hb1:iJ z b bs:=bK.same D hb;let hv1:=eE.same D hv;let htl:=wH iK;let fitB:∀{xs:List Tm},(∀t∈xs,t∈gS b++iN s)->xs.length<=260->pA (yQ xs [.no])/\(yQ xs [.no]).length<=65000:=λ{xs} h hl=>by
  let⟨e1,e2⟩:=XN xs [.no] (λt ht=>hf t<|h t ht) pA.one;rw[cC]at e2;exact#[e1,()]
 refine zP (λσ H'=>∃(J':Hp)(n u y:Option V),aZ z J'/\RL H' J' ra (yQ (gS b) [.no])/\σ=[some<|.ref ba,some v,some<|.ref ra,n,u,y]) (λN k=>?_) λσ H' h=>?_
 ·dsimp![];calc#[#[_,dB.of<|U.sub _ _ g],?_];refine xS (xs:=bs) (λi σ H'=>∃(J':Hp)(n u y:Option V),aZ z J'/\RL H' J' ra (yQ (gS<|b.take i) [.no])/\σ=[some<|.ref ba,some v,some<|.ref ra,n,u,y]) #[z,_,_,_,aZ.refl _,U,rfl] (λi σ H' _ h=>by let⟨J',_,_,_,h1,h2,_⟩:=h;calc dB.of<|h2.sub _ _<|h1 _ _ g) (λi x σ H' hx h M hM=>?_) λσ H' h=>?_
  ·let⟨B,n,u,y,s2,c,rfl⟩:=h;let⟨r,G,hr2⟩:=iJ.getV hb1 hx;let I:=aP G;rw[KS G,uD]at hM;dsimp![uO,jI,uX];let⟨ta,us,rfl,hta,x1,r1,rfl,⟨la,ws,rfl,hla,J⟩,a,r',rfl,hx2,e⟩:=hr2;cases (show r'=[]from e);let hwl:ws.length=r.1.length:=by have :=bK.length J;rwa[aD]at this
   let hrl:=iK r I;calc#[ta,rfl,_,cV.of<|c.sub _ _<|s2 _ _ hta,rfl,_,_,rfl,_,_,rfl,rfl,zI (),λp hp=>#[la,rfl,ws,zB hp _ _ _<|c.sub _ _<|s2 _ _ hla,_,zA,smB (by rw[cC];lia),λW lX=>#[#[_,dB.of zA],?_]]];let L:=(c.new (o:=.lst [a]) hp).new (o:=.lst<|ws++[a]) lX;let O:=s2.trans<|(zB (c.sub.free hp)<|.lst [a]).trans (zB ((c.new (o:=.lst [a]) hp).sub.free lX)<|.lst<|ws++[a]);let kp:upd (upd B p<|.lst [a]) W (.lst<|ws++[a]) W=some (.lst<|ws++[a]):=zA;let hss:lS z (r.1++[r.2]) (ws++[a]):=by
    show bK z ((r.1++[r.2]).map MR) _;rw[aQ];exact bK.append J<|bK.one hx2
   clear hp lX c s2;generalize upd (upd B p<|.lst [a]) W (.lst<|ws++[a])=X at L O kp;generalize upd (upd H' p<|.lst [a]) W (.lst<|ws++[a])=H3 at L;let mS:∀{ps:List (Tm×Tm)},(∀p∈ps,p∈r.1++[r.2])->∀t∈yV ps,t∈gS b++iN s:=λ{ps} h t ht=>by
    let⟨p,hp,ht⟩:=dP.mp ht;calc cG _<|dP.mpr #[r,I,?_];rcases cD.mp (h p hp)with h |h
    ·exact cG _<|dP.mpr #[p,h,ht]
    ·rw[aV.mp h]at ht;exact bB _ ht
   let R:∀t∈gS (b.take i),t∈gS b++iN s:=λt ht=>by
    let⟨r,hr,ht⟩:=dP.mp ht;exact cG _<|dP.mpr #[r,eS hr,ht]
   let hlB:(gS<|b.take i).length<=240:=by
    let h1:=wH (b:=b.take i) λr hr=>iK r<|eS hr
    let h2:(b.take i).length<=b.length:=by rw[bH];lia
    lia
   refine xS (xs:=ws++[a]) (λj σ H'=>∃(J':Hp)(o:Option V),aZ X J'/\RL H' J' ra (yQ (yV<|(r.1++[r.2]).take j)<|yQ (gS<|b.take i) [.no])/\σ=[some<|.ref ba,some v,some<|.ref ra,some<|.ref la,some a,o]) #[X,_,aZ.refl _,L,rfl] (λi σ H' _ h=>by let⟨J',_,h1,h2,_⟩:=h;calc dB.of<|h2.sub _ _<|h1 _ _ kp) (λj x σ H4 hx h M2 S=>?_) λσ H4 h=>?_
   ·let⟨J4,o,Y,Z,rfl⟩:=h;let⟨q1,T,hq2⟩:=lS.getV hss hx;let hqm:=aP T;rw[DM T,uD<|yV _]at S;dsimp![];let d:=fitB (xs:=gS (b.take i)++yV ((r.1++[r.2]).take j)) (λt ht=>by
     rcases cD.mp ht with h |h
     ·exact R t h
     ·calc mS (λp hp=>eS hp) t h) (by
     have :((r.1++[r.2]).take j).length<=(r.1++[r.2]).length:=by rw[bH];lia
     rw[aK,cC]at this;rw[aK,NZ];lia)
    rw[uD]at d;let hq:=mS (ps:=[q1]) (λp hp=>by rw[aV.mp hp];calc hqm);let hqa:=hf q1.1 (hq _ (by simp[yV,iN]));let hqb:=hf q1.2 (hq _ (by simp[yV,iN]));exact#[ra,x,J4,_,q1,rfl,Z,d.1,eE.same (O.trans Y) hq2,hqa.1,hqb.1,(),λp J5 H5 s5 r5 _=>S _ _ #[J5,_,Y.trans s5,r5,rfl]]
   ·let⟨J4,o,Y,Z,rfl⟩:=h;rw[aR (by rw[aK,aK];simp;lia)]at Z;exact hM _ _ #[J4,_,_,_,O.trans Y,Z,rfl]
  ·let⟨B,n,u,y,s2,c,rfl⟩:=h;rw[aR ()]at c;exact k _ _ #[B,n,u,y,s2,c,rfl]
 ·let⟨B,n,u,y,s2,c,rfl⟩:=h;refine zD λN k=>?_
  dsimp![];let d:=fitB (xs:=gS b) (λt ht=>cG _ ht) ();let h1:=hf s.1 (bB _ (by simp[iN]));let h2:=hf s.2 (bB _ (by simp[iN]));calc#[ra,v,B,_,s,rfl,c,d.1,eE.same s2 hv1,h1.1,h2.1,(),λp X H3 O L _=>k _ _ ?_];clear k;dsimp![];calc q ra X H3 (D.trans<|s2.trans O) ?_;rw[uD];exact L
abbrev s_G:Stmt:=top 65
theorem sc_G:bP ["found_v"] ["found_v"] (zF s_G):=by rfl'
abbrev s_P:Stmt:=top 66
theorem sc_P:bP ["many","pairs","near","a","b"] ["many","pairs"] (zF s_P):=by rfl'
abbrev s_m:Stmt:=top 67
theorem sc_m:bP ["near","spots","found_v","spot"] ["near","spots"] (zF s_m):=by rfl'
inductive jp (vs:List V) (H:Hp) (Q:VK) (E:XK):Prop
 |mk (i:Int) (_:vs=[.int i]) (_:Q (.bl true) H)
theorem RN(bi:Bi mg)(F:fR K "_law_whole" "_law_whole" s_G f fd):cW P w K mg base fS 1 f fd ["found_v"] jp:=by
 refine F.okz sc_G λeP A outer s H vs Q E hr h=>?_
 let⟨i,rfl,q⟩:=h;calc#[_,have nd:=sc_G.nd;zH<|zS<|kK (zM (xC (T:="int")) rfl bi.isinstance zL<|zE #[]<|zE (qX bi.int FV rfl) zJ)<|kJ<|EI<|zM (xC (T:="bool")) rfl bi.isinstance zL<|zE #[]<|zE (qX bi.bool IZ rfl) zJ,?_];dsimp![];exact#[_,.int i,true,xQ,iteT #[_,.int i,false,SW,q]]
noncomputable def uF(m:Nat)(ps:List (Nat×Nat))(a:Nat):List V:=(List.range m).map λb=>V.bl<|yY ps a b
def GG(H:Hp)(p:Addr)(m:Nat)(ps:List (Nat×Nat)):Prop:=∃rs:List Addr,H p=some (.lst<|rs.map V.ref)/\rs.length=m/\∀(a:Nat)(r:Addr),rs[a]?=some r->H r=some (.lst<|uF m ps a)
theorem GG.same{m:Nat}(e:aZ H H')(h:GG H p m ps):GG H' p m ps:=by
 let⟨rs,h1,h2,b⟩:=h;exact#[rs,e _ _ h1,h2,λa r hr=>e _ _<|b a r hr]
theorem HM{m:Nat}(f:Nat->Bool)(hb:b<m):((List.range m).map λj=>V.bl<|f j).set b (V.bl true)=(List.range m).map λj=>V.bl (f j ||(b==j)):=by
 apply List.ext_getElem?;intro i;by_cases hi:b=i
 ·subst hi;rw[eX (by rw[aD,cH];calc hb),aF,oJ hb];simp
 ·rw[dZ hi,aF,aF];cases h:(List.range m)[i]? with
  |none=>rfl
  |some j=>
   have :j=i:=by
    have :=aC.mp h;let⟨h1,h2⟩:=this;rw[DA]at h2;exact h2.symm
   subst this;have :(b==j)=false:=cA.mpr hi;simp[this]
theorem YI{m x:Nat}(mP:a≠b):uF m (ps++[(a,b)]) x=(List.range m).map λj=>V.bl (if x=a then yY ps a j ||(b==j)else if x=b then yY ps b j ||(a==j)else yY ps x j):=by
 unfold uF;refine oI λj _=>?_
 rw[JU]
 congr 1
 by_cases h1:x=a
 ·subst h1;rw[aO rfl];have :(b==x)=false:=cA.mpr<|bX mP;simp[this]
 ·rw[aH h1];let c:(a==x)=false:=cA.mpr<|bX h1;by_cases h2:x=b
  ·subst h2;rw[aO rfl];simp[c]
  ·rw[aH h2];let d:(b==x)=false:=cA.mpr<|bX h2;simp[c,d]
theorem lr{m:Nat}(mP:a≠b):uF m (ps++[(a,b)]) a=(List.range m).map λj=>V.bl (yY ps a j ||(b==j)):=by
 rw[YI mP];simp only[if_true]
theorem lq{m:Nat}(mP:a≠b):uF m (ps++[(a,b)]) b=(List.range m).map λj=>V.bl (yY ps b j ||(a==j)):=by
 rw[YI mP];simp only[aH<|bX mP,if_true]
theorem lp{m x:Nat}(mP:a≠b)(h1:x≠a)(h2:x≠b):uF m (ps++[(a,b)]) x=uF m ps x:=by
 rw[YI mP];simp only[aH h1,aH h2];rfl
theorem LB(m:Nat)(a:Nat):(List.replicate m [V.bl false]).flatten=uF m [] a:=by
 unfold uF yY
 induction m with
 |zero=>rfl
 |succ m b=>
  rw[dL,aQ,←b,nW,List.flatten_append];rfl
inductive OM (vs:List V) (H:Hp) (Q:VK) (E:XK):Prop
 |mk (m:Nat) (pa:Addr) (us:List V) (ps:List (Nat×Nat)) (_:vs=[.int m,.ref pa]) (_:m<=90) (_:H pa=some (.lst us)) (_:bK H (ps.map DF) us) (_:i8 m ps) (_:∀p H',aZ H H'->GG H' p m ps->Q (.ref p) H')
inductive jy (K:W.Frag) (vs:List V) (H:Hp) (Q:VK) (E:XK):Prop
 |mk (na sa:Addr) (m:Nat) (ps:List (Nat×Nat)) (sp:List Nat) (_:vs=[.ref na,.ref sa]) (_:m<=90) (_:GG H na m ps) (_:dB K H sa (sp.map nV)) (_:(∀x∈sp,x<m)) (_:sp.length<=1000) (_:∀p H',aZ H H'->H p=none->H' p=some (.lst<|(cnt m ps sp).map nV)->Q (.ref p) H')
theorem cn(bi:Bi mg)(F:fR K "_law_near" "_law_near" s_P f fd):cW P w K mg base fS 1 f fd ["many","pairs"] OM:=by
 refine F.okz sc_P λeP A outer s H vs Q E hr h=>?_
 let⟨m,pa,us,ps,rfl,hm,mZ,G,hok,q⟩:=h;let I:us.length=ps.length:=by have :=bK.length G;rwa[aD]at this
 calc#[_,have nd:=sc_P.nd;zC (ZQ (i:=2) ["a"] ["many"] [0] nd rfl #[] (λ_ _ _ _ nd=>yI 0 nd) (λ_ _ _ _=>yA) λ_ _ _ _=>(jZ YR #[] #[]))<|zC (yC bO rfl #[] #[]<|zC (ED IB<|EH (zV yB #[] #[]) #[] qG)<|zH<|ED IB<|EH (zV yB #[] #[]) #[] qG) #[],?_];refine zD λN M=>?_
 dsimp![];calc#[(),(),?_];refine BM (lo:=0) (n:=(m:Int).toNat) (λi ys σ H'=>aZ H H'/\(∃rs:List Addr,ys=rs.map V.ref/\rs.length=i/\rs.Nodup/\(∀r∈rs,H r=none)/\∀r∈rs,H' r=some (.lst<|uF m [] 0))/\∃o,σ=[o,some<|V.int m]) #[aZ.refl _,#[[],rfl,rfl,fq,(λr z=>by cases z),λr z=>by cases z],_,rfl] (zI ()) (λi ys σ H' e=>?_) (λi ys σ H' C hi e hC=>?_) λys σ H' e p hp=>M _ _ ?_
 ·let⟨_,⟨rs,rfl,hl,_⟩,_⟩:=e;rw[aD];lia
 ·let⟨es,⟨rs,rfl,hl,iC,l,c⟩,o,rfl⟩:=e;dsimp![PD];calc#[zI (by simp),λp0 R=>#[[V.bl false],zA,(),(),zI (by simp;lia),λr iG=>hC _ _ _ ?_]];let s1:=zB R<|.lst [V.bl false];let s2:=zB iG<|.lst<|(List.replicate (m:Int).toNat [V.bl false]).flatten;let kr:upd (upd H' p0<|.lst [V.bl false]) r (.lst<|(List.replicate (m:Int).toNat [V.bl false]).flatten) r=some (.lst<|uF m [] 0):=by rw[zA,bM,LB m 0]
  let S:r∉rs:=λz=>by
   have :=s1 _ _<|c r z;rw[iG]at this;cases this
  generalize upd (upd H' p0<|.lst [V.bl false]) r (.lst<|(List.replicate (m:Int).toNat [V.bl false]).flatten)=H2 at s2 kr⊢;let ss:=s1.trans s2;refine#[es.trans ss,#[rs++[r],by rw[aQ];rfl,by simp[hl],mF.mpr #[iC,by simp,λx hx y hy e=>S (by rw[aV.mp hy]at e;rw[←e];calc hx)],λx hx=>?_,λx hx=>?_],_,rfl]
  ·rcases cD.mp hx with hx |hx
   ·exact l x hx
   ·rw[aV.mp hx];exact(es.trans s1).free iG
  ·rcases cD.mp hx with hx |hx
   ·exact ss _ _<|c x hx
   ·rw[aV.mp hx];exact kr
 let⟨es,⟨rs,rfl,hl,iC,l,c⟩,o,rfl⟩:=e;clear M;let s1:=zB hp<|.lst<|rs.map V.ref;let k1:upd H' p (.lst<|rs.map V.ref) p=some (.lst<|rs.map V.ref):=zA;let J:p∉rs:=λz=>by
  have :=c p z;rw[hp]at this;cases this
 generalize upd H' p (.lst<|rs.map V.ref)=H1 at s1 k1⊢;let s2:=es.trans s1;let T:rs.length=m:=by lia
 let U:∀(a:Nat)(r:Addr),rs[a]?=some r->H1 r=some (.lst<|uF m [] a):=λa r iG=>by
  have :=s1 _ _<|c r<|aP iG;exact this
 clear c hl s1;refine zP (λσ H'=>∃(B D:Option V),aZ H H'/\H' p=some (.lst<|rs.map V.ref)/\(∀(a:Nat)(r:Addr),rs[a]?=some r->H' r=some (.lst<|uF m ps a))/\σ=[some<|V.int m,some<|V.ref pa,some<|V.ref p,B,D]) (λN M=>?_) λσ H' h=>?_
 ·dsimp![];calc#[#[_,dB.of<|s2 _ _ mZ],?_];refine uP (xs:=us) (λk σ H'=>∃(B D:Option V),aZ H H'/\H' p=some (.lst<|rs.map V.ref)/\(∀(a:Nat)(r:Addr),rs[a]?=some r->H' r=some (.lst<|uF m (ps.take k) a))/\σ=[some<|V.int m,some<|V.ref pa,some<|V.ref p,B,D]) #[_,_,s2,k1,U,rfl] (λk σ H' _ h=>?_) (λk x σ H' hx h=>?_) λσ H' h=>?_
  ·let⟨B,D,h1,_⟩:=h;exact dB.of<|h1 _ _ mZ
  ·let⟨B,D,h1,h2,u,rfl⟩:=h;let hk:k<ps.length:=by rw[←I];exact(aC.mp hx).1
   let⟨v,L,W⟩:=bK.get (d:=DF ps[k]) G (by rw[aF,aA hk];rfl);rw[hx]at L;cases L;let mP:=hok _<|bW hk;let⟨t,rfl,ht⟩:=bx W;let ht':=h1 _ _ ht;let e4:ps.take (k+1)=ps.take k++[(ps[k].1,ps[k].2)]:=by rw[aJ hk]
   rw[e4];clear e4;generalize ps[k].1=a at ht' mP;generalize ps[k].2=b at ht' mP;generalize ps.take k=qs at u⊢;let la:a<rs.length:=by lia
   let X:b<rs.length:=by lia
   let ga:=aA la;let gb:=aA X;let nF:rs[a]≠rs[b]:=λz=>by
    have :=(iQ iC).mp z;lia
   let ra:=u a _ ga;let rb:=u b _ gb;let fa:=l _<|bW la;let fb:=l _<|bW X;let npa:p≠rs[a]:=λz=>J (by rw[z];calc bW la)
   let npb:p≠rs[b]:=λz=>J (by rw[z];calc bW X)
   dsimp![uO,jI,uX,nk,JI];calc#[[nV a,nV b],cV.of ht',rfl,nV a,[nV b],rfl,nV b,[],rfl,rfl,?_];let rl:∀x,(uF m qs x).length=m:=λx=>by unfold uF;rw[aD,cH]
   calc#[_,rfl,_,dB.of h2,_,zU (j:=a) (by rw[aF,ga];rfl),rs[a],rfl,_,rfl,_,ra,b,uM (by rw[rl];lia),_,rfl,_,dB.of (by rw[zG npa];calc h2),_,zU (j:=b) (by rw[aF,gb];rfl),rs[b],rfl,_,rfl,_,by rw[zG<|bX nF];exact rb,a,uM (by rw[rl];lia),(h1.upd fa).upd fb,by rw[zG npb,zG npa];exact h2,λx r iG=>?_,_,rfl];let g:a≠b:=by lia
   let O:r=rs[x]'(aC.mp iG).1:=(aC.mp iG).2.symm;let lx:=(aC.mp iG).1;by_cases Y:x=b
   ·subst Y;rw[O,zA,lq g];unfold uF;rw[HM (λj=>yY qs x j) ()]
   ·let n1:r≠rs[b]:=λz=>by
     rw[O]at z;exact Y<|(iQ iC).mp z
    rw[zG n1];by_cases Z:x=a
    ·subst Z;rw[O,zA,lr g];unfold uF;rw[HM (λj=>yY qs x j) ()]
    ·let n2:r≠rs[a]:=λz=>by
      rw[O]at z;exact Z<|(iQ iC).mp z
     rw[zG n2,lp g Z Y];exact u x r iG
  ·let⟨B,D,h1,h2,u,rfl⟩:=h;rw[I,aR<|aG _]at u;exact M _ _ #[_,_,h1,h2,u,rfl]
 let⟨B,D,h1,h2,u,rfl⟩:=h;dsimp![];exact q p _ h1 #[rs,h2,T,u]
theorem AW(bi:Bi mg)(F:fR K "_law_counter" "_law_counter" s_m f fd):cW P w K mg base fS 1 f fd ["near","spots"] (jy K):=by
 refine F.okz sc_m λeP A outer s H vs Q E hr h=>?_
 let⟨na,sa,m,ps,sp,rfl,hm,u,hs,v,I,q⟩:=h;let⟨rs,hn,y,z⟩:=u;calc#[_,have nd:=sc_m.nd;zC #[]<|zC (yC bO rfl #[] (wN (i:=3) nd rfl<|Or.inr rfl)<|zH<|yD (xL<|zM jF rfl bi.all uR<|zE (zX ["other"] ["near","spot"] [0,3] #[] (λ_ _ _ _ nd=>yI 0 nd) (λ_ _ _ _=>yA) λ_ _ _ _=>(zV (uA K) (zV (uA K) #[] #[]) #[])) zJ) #[] zO) #[],?_];refine zD λN t=>?_
 dsimp![];calc#[zI (by simp),λp hp=>t _ _ ?_];clear t;let s1:=zB hp<|.lst [];let k1:upd H p (.lst []) p=some (.lst []):=zA;generalize upd H p (.lst [])=H1 at s1 k1⊢;refine zP (λσ H'=>∃(o:Option V),aZ H H'/\H' p=some (.lst<|(cnt m ps sp).map nV)/\σ=[some<|V.ref na,some<|V.ref sa,some<|V.ref p,o]) (λN t=>?_) λσ H' h=>?_
 ·dsimp![];calc#[_,.inl #[_,dB.of<|s1 _ _ hn,rfl],by rw[aD];lia,by rw[aD];lia,?_];rw[aD,y];refine TY (n:=(m:Int).toNat) (λi σ H'=>∃(o:Option V),aZ H H'/\H' p=some (.lst<|((List.range i).filter λi=>sp.all λa=>yY ps a i).map nV)/\σ=[some<|V.ref na,some<|V.ref sa,some<|V.ref p,o]) #[_,s1,k1,rfl] (λi σ H' hi h=>?_) λσ H' h=>?_
  ·let⟨o,s2,k2,rfl⟩:=h;let J:i<m:=by lia
   let g:i<rs.length:=by lia
   let L:(0:Int)+(i:Int)=((i:Nat):Int):=by lia
   dsimp![];rw[L];calc#[#[_,aZ.seq s2 hs],?_];refine yR (xs:=sp.map nV) (λk ys σ c=>c=H'/\ys=((sp.take k).map λa=>yY ps i a).map V.bl/\∃o,σ=[o,some<|V.ref na,some<|V.int i]) #[rfl,rfl,_,rfl] (zI (by rw[aD];lia)) (λk ys σ c e=>?_) (λk ys σ c e=>by rw[e.1];calc aZ.seq s2 hs) (λk x ys σ c C hx e M=>?_) λys σ c e O B=>?_
   ·let⟨_,rfl,_⟩:=e;rw[aD,aD,bH];lia
   ·let⟨rfl,rfl,o,rfl⟩:=e;rw[aF]at hx;cases d:sp[k]? with
    |none=>rw[d]at hx;cases hx
    |some n=>
     rw[d]at hx;cases hx;let D:=v n<|aP d;let gr:=z i _<|aA g;dsimp![];refine#[_,dB.of<|s2 _ _ hn,_,zU (j:=i) (by rw[aF,aA g];rfl),rs[i],rfl,_,dB.of<|s2 _ _ gr,V.bl<|yY ps i n,zU (j:=n) ?_,M _ _ _ #[rfl,?_,_,rfl]]
     ·unfold uF;rw[aF,oJ D];rfl
     ·let⟨hi,e⟩:=aC.mp d;rw[aJ hi,e,aQ,aQ];rfl
   let⟨rfl,rfl,S,rfl⟩:=e;rw[aD,aR<|aG _];let l:=zB B (.lst<|(sp.map λa=>yY ps i a).map V.bl);calc#[O,rfl,_,dB.of zA,?_];let R:((sp.map λa=>yY ps i a).all id)=(sp.all λa=>yY ps a i):=by
    rw[gR]
    congr 1
    funext a
    exact JV ps i a
   rw[R];let r:∀b:Bool,(sp.all λa=>yY ps a i)=b->(List.range<|i+1).filter (λi=>sp.all λa=>yY ps a i)=(List.range i).filter (λi=>sp.all λa=>yY ps a i)++(if b=true then [i]else []):=λb hb=>by
    rw[dL,eA,iR,List.filter_nil,hb]
   let G:((List.range i).filter (λi=>sp.all λa=>yY ps a i)).length<=i:=by
    have :=eK (λi=>sp.all λa=>yY ps a i)<|List.range i;rwa[cH]at this
   cases hb:(sp.all λa=>yY ps a i)with
   |false=>
    rw[aH aY];calc#[s2.trans l,?_,_,rfl];rw[r false hb,aH aY,cE];exact l _ _ k2
   |true=>
    rw[aO rfl];calc#[.inl #[rfl,_,dB.of<|l _ _ k2],_,l _ _ k2,xW (by rw[aD];lia),(s2.trans l).upd hp,?_,_,rfl];rw[zA,r true hb,aO rfl,aQ];rfl
  ·let⟨o,s2,k2,rfl⟩:=h;rw[bM]at k2;exact t _ _ #[_,s2,k2,rfl]
 let⟨o,s2,k2,rfl⟩:=h;dsimp![];exact q p _ s2 hp k2
abbrev s_e:Stmt:=top 69
theorem sc_e:bP ["near","sets","t","parts","kept"] ["near","sets","t"] (zF s_e):=by rfl'
theorem vB{m:Nat}(h1:xs.Pairwise (· < ·))(h2:∀x∈xs,x<m):xs.length<=m:=by
 have :=uK (l:=xs) (m:=List.range m) (h1.imp λh=>bL h) λx hx=>bN.mpr (h2 x hx)
 rwa[cH]at this
def nI(H:Hp)(qs:List Addr)(vs:List (List Nat)):Prop:=qs.length=vs.length/\∀(i:Nat)(p:Addr)(v:List Nat),qs[i]?=some p->vs[i]?=some v->H p=some (.lst<|v.map nV)
theorem nI.same(e:aZ H H')(h:nI H qs vs):nI H' qs vs:=#[h.1,λi p v h1 h2=>e _ _<|h.2 i p v h1 h2]
theorem nI.snoc{v:List Nat}(h:nI H qs vs)(hp:H p=some (.lst<|v.map nV)):nI H (qs++[p]) (vs++[v]):=by
 calc#[by rw[aK,aK,h.1];rfl,λi a v' h1 h2=>?_];by_cases hi:i<qs.length
 ·rw[bE hi]at h1;rw[bE (by rw[←h.1];calc hi)]at h2;exact h.2 i a v' h1 h2
 ·have :i=qs.length:=by
   have :=(aC.mp h1).1;rw[aK,cC]at this;lia
  subst this;rw[bI<|aG _,gO]at h1;rw[bI (by rw[h.1];calc aG _),h.1,gO]at h2;simp at h1 h2;subst h1 h2;exact hp
theorem TZ(l:List Nat):(l.map nV).all wW=true:=by
 rw[cF];intro x hx;let⟨y,_,rfl⟩:=bF.mp hx;rfl
theorem dq{l:List Nat}:inV (V.int i) (l.map nV)=decide (i∈l):=by
 rw[bZ,bS];unfold inV;rw[List.any_map,fD];constructor
 ·rintro⟨y,hy,e⟩;let e:((y:Int)==(i:Int))=true:=e;let e:y=i:=by have :=eq_of_beq e;lia
  rw[←e];exact hy
 ·intro h;exact#[i,h,show((i:Int)==(i:Int))=true by simp]
def ax(K:W.Frag):Nat->Sp
 |0=>λ_ _ _ _=>False
 |1=>λ_ _ _ _=>False
 |n+2=>λvs H Q _=>∃(na d:Addr)(v:V)(t:Tm)(m:Nat)(ps:List (Nat×Nat))(kvs:List (eR×V))(S:Str->List Nat),vs=[.ref na,.ref d,v]/\GG H na m ps/\m<=90/\hU H t v/\fY n t/\wt t<=900/\H d=some (.dK kvs)/\(∀x∈oV t,∃l,zY kvs (.inr x)=some (.ref l)/\H l=some (.lst<|(S x).map nV))/\(∀z,(∀i∈S z,i<m)/\(S z).Pairwise (· < ·))/\∀(p:Addr) H',aZ H H'->H p=none->H' p=some (.lst<|(val m ps S t).map nV)->Q (.ref p) H'
theorem LW(bi:Bi mg)(h_m:gD P w K mg base 1 "_law_counter" ["near","spots"] (jy K))(F:fR K "_law_worth" "_law_worth" s_e f fd)(b:Binds K fd ["near","sets","t"] [])(m:mg "_law_worth"=some (.ref f)):∀n,cW P w K mg base fS n f fd ["near","sets","t"] (ax K n):=by
 refine QT F b m (λvs H Q E h=>h) (λn h_e=>?_)
 match n with
 |0=>exact SD λvs H Q E h=>h
 |n+1=>
 refine F.okz sc_e λeP A outer s H vs Q E hr h=>?_
 let⟨na,d,v,t,m,ps,kvs,S,rfl,G,B,ht,hf,hw,hd,hS,Z,q⟩:=h;let hNl:∀{J:Hp},aZ H J->∃xs:List V,dB K J na xs/\xs.length=m:=λsJ=>by
  let⟨us,h1,h2,_⟩:=G;exact#[_,dB.of<|sJ _ _ h1,by rw[aD,h2]]
 calc#[_,have nd:=sc_e.nd;zC #[]<|zC (yD #[] (zH<|zS<|QX rfl bi.list rfl bi.range rfl #[]) zO)<|zC (yD #[] (zH<|zS<|jM UT rfl bi.list vR<|zE (QY (xY hr) #[] #[] λ_ _=>rfl) zJ) zO)<|zC (qI (i:=3) nd rfl (Or.inr rfl)<|zX ["part"] ["near","sets"] [0,1] (kI<|jE YG #[] (jQ zW) qM) (λ_ _ _ _ nd=>yI 0 nd) (λ_ _ _ _=>yA) λ_ _ _ _=>(zQ h_e hr rfl #[]))<|zC (yD #[] (zH<|zS<|zQ h_m hr.m rfl<|zE #[]<|zE (zV yB #[] zW) zJ) zO)<|zC (yD #[] (zH<|qI (i:=3) nd rfl (Or.inr rfl)<|zX ["part"] ["near"] [0] #[] (λ_ _ _ _ nd=>yI 0 nd) (λ_ _ _ _=>yA) λ_ _ _ _=>(zQ h_m hr.m rfl #[])) zO)<|zC (PM (i:=4) "spot" ["spot"] ["parts"] [3] nd rfl #[] (λ_ _ _ _ nd=>wN (i:=0) nd rfl<|Or.inr rfl) (λ_ _ _ _=>vN<|xL<|zM (MV K) rfl bi.all uR<|zE (by calc(zX ["part"] ["spot"] [0] (PP K #[]) (λ_ _ _ _ nd=>yI 0 nd) (λ_ _ _ _=>yA) λ_ _ _ _=>(uI (ES K) #[] #[] (by with_unfolding_all rfl)))) zJ) λ_ _ _ _=>#[]) #[],?_];cases t with
 |name x=>
  let⟨a,rfl,ha⟩:=hU.name ht;let⟨l,hl1,hl2⟩:=hS x (by rw[oV];calc aV.mpr rfl);refine zD λN g=>?_
  dsimp![];calc#[_,cV.of ha,.str "name",gG,rfl,?_];rw[aH (by intro z;calc absurd (V.str.inj z) ())];calc g _ _ ?_;clear g;refine zD λN g=>?_
  dsimp![];calc#[_,cV.of ha,.str "name",gG,rfl,?_];rw[aH (by intro z;calc absurd (V.str.inj z) ())];calc g _ _ ?_;clear g;refine zD λN g=>?_
  dsimp![];calc#[_,cV.of ha,.str "name",gG,rfl,?_];rw[aO rfl];calc#[_,cV.of ha,.str x,mV,_,hl1▸nK.k (k:=.inr x) hd,?_];calc#[l,rfl,_,.inl<|dB.of hl2,λp hp=>q p _ (zB hp _) hp ?_];rw[val];exact zA
 |node wd ts=>
  let⟨a,us,rfl,ha,hu⟩:=hU.node ht;let hwd:=hf.wrd;let hsh:=hf.sh;let hl:=hu.length;let hll:=ZM ts;rw[wt]at hw;let hwr:val m ps S (.node wd ts)=xU m ps wd (ts.map<|val m ps S):=by rw[val,qT]
  rw[hwr]at q;let hSm':∀t∈ts,∀x∈oV t,∃l,zY kvs (.inr x)=some (.ref l)/\H l=some (.lst<|(S x).map nV):=λt ht x hx=>hS x (by rw[oV];calc pI.mpr #[t,ht,hx])
  refine zD λN g=>?_
  dsimp![];calc#[_,cV.of ha,.str wd,gG,rfl,?_];by_cases Y:wd="none"
  ·rw[aO (by rw[Y])];let e:xU m ps wd (ts.map<|val m ps S)=[]:=by unfold xU;rw[aO Y]
   rw[e]at q;exact#[zI (),λp hp=>q p _ (zB hp _) hp zA]
  rw[aH λz=>Y<|V.str.inj z];calc g _ _ ?_;clear g;refine zD λN g=>?_
  dsimp![];calc#[_,cV.of ha,.str wd,gG,rfl,?_];by_cases c2:wd="all"
  ·rw[aO (by rw[c2])];let e:xU m ps wd (ts.map<|val m ps S)=List.range m:=by unfold xU;rw[aH Y,aO c2]
   rw[e]at q;let⟨xs,hx1,hx2⟩:=hNl<|aZ.refl _;dsimp![tLRg];calc#[m,.inl #[xs,hx1,hx2.symm],m,rfl,(),λp hp=>q p _ (zB hp _) hp ?_];rw[zA]
  rw[aH λz=>c2<|V.str.inj z];calc g _ _ ?_;clear g;refine zD λN g=>?_
  dsimp![];calc#[_,cV.of ha,.str wd,gG,rfl,?_];rw[aH λz=>hwd.ne<|V.str.inj z];calc g _ _ ?_;clear g;refine zD λN g=>?_
  dsimp![];calc#[_,cV.of ha,qF _ _,λp2 mK=>?_];rw[uB];let s2:=zB mK<|.tup us;let k2:upd H p2 (.tup us) p2=some (.tup us):=zA;generalize upd H p2 (.tup us)=H2 at s2 k2⊢;calc#[#[_,cV.of k2],?_];refine FK (xs:=us) (λi ys σ H'=>aZ H2 H'/\(∃qs:List Addr,ys=qs.map V.ref/\qs.length=i/\nI H' qs ((ts.map<|val m ps S).take i))/\∃o,σ=[o,some<|V.ref na,some<|V.ref d]) #[aZ.refl _,#[[],rfl,rfl,rfl,λi c v h=>by simp at h],_,rfl] (zI ()) (λi ys σ H' e=>?_) (λi ys σ H' e=>cV.of<|e.1 _ _ k2) (λi x ys σ H' C' hx e hC=>?_) λys σ H' e p3 hp3=>g _ _ ?_
  ·let⟨_,⟨qs,rfl,h1,_⟩,_⟩:=e;rw[aD,h1];exact aG _
  ·let⟨es,⟨qs,rfl,hcl,mT⟩,o,rfl⟩:=e;let⟨t,ht',hx'⟩:=hu.getV hx;cases n with
   |zero=>have :=hf.2;subst this;simp at ht'
   |succ n=>
    let hm:=aP ht';let hmt:=wF hm;let D:=s2.trans es;dsimp![];refine#[na,d,x,t,m,ps,kvs,S,rfl,G.same D,B,hU.tups D.tups hx',hf.2 t hm,(),D _ _ hd,λx hx=>?_,Z,λp H3 e3 hp k3=>hC _ _ _ #[es.trans e3,#[qs++[p],by rw[aQ];rfl,by rw[aK,hcl];rfl,?_],_,rfl]]
    ·let⟨l,q1,q2⟩:=hSm' t hm x hx;exact#[l,q1,D _ _ q2]
    let⟨lY,hi2⟩:=aC.mp (show(ts.map<|val m ps S)[i]?=some (val m ps S t) by rw[aF,ht'];rfl);rw[aJ lY,hi2];exact(mT.same e3).snoc k3
  clear g;let⟨es,⟨qs,rfl,hcl,mT⟩,o,rfl⟩:=e;rw[show(ts.map<|val m ps S).take us.length=ts.map (val m ps S)from aR (by rw[aD];lia)]at mT;let D:=(s2.trans es).trans (zB hp3<|.lst<|qs.map V.ref);replace mT:=mT.same<|zB hp3<|.lst<|qs.map V.ref;let k3:upd H' p3 (.lst<|qs.map V.ref) p3=some (.lst<|qs.map V.ref):=zA;generalize upd H' p3 (.lst<|qs.map V.ref)=H3 at D k3 mT⊢;let lR:∀v∈ts.map (val m ps S),(∀x∈v,x<m)/\v.length<=m:=λv hv=>by
   let⟨t,ht,rfl⟩:=bF.mp hv;let h1:∀x∈val m ps S t,x<m:=λx hx=>YB (λy i hi=>(Z y).1 i hi) t hx
   exact#[h1,vB (wG (λy=>(Z y).2) t) h1]
  let hvl:(ts.map<|val m ps S).length=ts.length:=aD _;generalize hvs:ts.map (val m ps S)=vs at mT q lR hvl;refine zD λN g=>?_
  dsimp![];calc#[_,cV.of<|D _ _ ha,.str wd,gG,rfl,?_];by_cases c3:wd="not"
  ·rw[aO (by rw[c3])];let h1:ts.length=1:=by
    rcases hsh with h |h |h |h |h
    ·exact absurd h.1 Y
    ·exact absurd h.1 c2
    ·exact h.2
    ·rw[c3]at h;exact absurd h.1 ()
    ·rw[c3]at h;exact absurd h.1 ()
   obtain⟨U,rfl⟩:∃U,vs=[U]:=by
    match vs,(show vs.length=1 by lia)with
    |[U],_=>exact#[U,rfl]
   obtain⟨I,rfl⟩:∃I,qs=[I]:=by
    match qs,(show qs.length=1 by rw[mT.1];rfl)with
    |[c0],_=>exact#[c0,rfl]
   let e:xU m ps wd [U]=cnt m ps U:=by unfold xU;rw[aH Y,aH c2,aO c3];rfl
   rw[e]at q;let W:=lR U aW;calc#[_,dB.of k3,.ref I,gG,?_];exact#[na,I,m,ps,U,rfl,B,G.same D,dB.of<|mT.2 0 I U rfl rfl,W.1,(),λp H4 s4 hp k4=>q p H4 (D.trans s4) (D.free hp) k4]
  rw[aH λz=>c3<|V.str.inj z];calc g _ _ ?_;clear g;refine zP (λσ H'=>∃(p4:Addr)(qs':List Addr),aZ H3 H'/\H' p4=some (.lst<|qs'.map V.ref)/\nI H' qs' (if wd="either" then vs.map (cnt m ps)else vs)/\σ=[some<|V.ref na,some<|V.ref d,some<|V.ref a,some<|V.ref p4,none]) (λN g=>?_) λσ H4 h=>?_
  ·dsimp![];calc#[_,cV.of<|D _ _ ha,.str wd,gG,rfl,?_];by_cases r:wd="either"
   ·rw[aO (by rw[r])];calc#[#[_,dB.of k3],?_];refine yR (xs:=qs.map V.ref) (λi ys σ H'=>aZ H3 H'/\(∃rs:List Addr,ys=rs.map V.ref/\rs.length=i/\nI H' rs ((vs.map<|cnt m ps).take i))/\∃o,σ=[o,some<|V.ref na]) #[aZ.refl _,#[[],rfl,rfl,rfl,λi c v h=>by simp at h],_,rfl] (zI (by rw[aD,mT.1];lia)) (λi ys σ H' e=>?_) (λi ys σ H' e=>dB.of<|e.1 _ _ k3) (λi x ys σ H' C' hx e hC=>?_) λys σ H' e p4 hp4=>g _ _ ?_
    ·let⟨_,⟨rs,rfl,h1,_⟩,_⟩:=e;rw[aD,h1];exact aG _
    ·let⟨j,⟨rs,rfl,hdl,L⟩,o,rfl⟩:=e;rw[aF]at hx;let⟨I,M,rfl⟩:=aL.mp hx;let O:i<vs.length:=by rw[←mT.1];exact(aC.mp M).1
     let W:vs[i]?=some vs[i]:=aA O;let hlv:=lR vs[i] (bW O);let s4:=D.trans j;dsimp![];calc#[na,I,m,ps,vs[i],rfl,B,G.same s4,dB.of<|j _ _<|mT.2 i I _ M W,hlv.1,(),λp H4 X hp k5=>hC _ _ _ #[j.trans X,#[rs++[p],by rw[aQ];rfl,by rw[aK,hdl];rfl,?_],_,rfl]];let⟨lY,hi2⟩:=aC.mp (show(vs.map<|cnt m ps)[i]?=some (cnt m ps vs[i]) by rw[aF,W];rfl);rw[aJ lY,hi2];exact(L.same X).snoc k5
    let⟨j,⟨rs,rfl,hdl,L⟩,o,rfl⟩:=e;rw[aD]at L hdl;rw[show(vs.map<|cnt m ps).take qs.length=vs.map (cnt m ps)from aR (by rw[aD,mT.1];calc aG _)]at L;calc#[p4,rs,j.trans<|zB hp4 _,zA,?_,rfl];rw[aO r];exact L.same<|zB hp4 _
   ·rw[aH λz=>r<|V.str.inj z];calc g _ _ #[p3,qs,aZ.refl _,k3,?_,rfl];rw[aH r];exact mT
  let⟨p4,rs,s34,k4,R,rfl⟩:=h;let s4:=D.trans s34;let hlt':(if wd="either" then vs.map (cnt m ps)else vs).length<=900:=by
   split
   ·rw[aD];lia
   ·lia
  let hlt2:∀v∈(if wd="either" then vs.map (cnt m ps)else vs),v.length<=m:=λv hv=>by
   split at hv
   ·let⟨u,_,rfl⟩:=bF.mp hv;exact vB (wZ ..) λx hx=>FT hx
   ·exact(lR v hv).2
  generalize hws:(if wd="either" then vs.map (cnt m ps)else vs)=ws at R hlt' hlt2;let hval:xU m ps wd vs=if wd="either" then cnt m ps (cmn m ws)else cmn m ws:=by
   unfold xU;rw[aH Y,aH c2,aH c3,←hws];by_cases r:wd="either"
   ·rw[aO r,aO r,aH (by rw[r];decide+kernel)]
   ·rw[aH r,aH r,aO];rcases hsh with h |h |h |h |h
    ·exact absurd h.1 Y
    ·exact absurd h.1 c2
    ·exact absurd h.1 c3
    ·exact h.1
    ·exact absurd h.1 r
  rw[hval]at q;refine zD λN g=>?_
  dsimp![];let⟨xs,hx1,hx2⟩:=hNl s4;calc#[m,.inl #[xs,hx1,hx2.symm],(),(),?_];refine XA (n:=(m:Int).toNat) (λi ys σ H'=>aZ H4 H'/\ys=((List.range i).filter λi=>ws.all λv=>decide<|i∈v).map nV/\∃o,σ=[o,some<|V.ref p4]) #[aZ.refl _,rfl,_,rfl] (zI ()) (λi ys σ H' e=>?_) (λi ys σ H' C' D' hi e hC hD=>?_) λys σ H' e p5 hp5=>g _ _ ?_
  ·rw[e.2.1,aD];exact bT (eK _ _) (by rw[cH];calc aG _)
  ·let⟨j,rfl,o,rfl⟩:=e;let e0:(0:Int)+(i:Int)=((i:Nat):Int):=by lia
   dsimp![];rw[e0];calc#[#[_,dB.of<|j _ _ k4],?_];refine yR (xs:=rs.map V.ref) (λk ys σ T=>T=H'/\ys=((ws.take k).map λv=>decide<|i∈v).map V.bl/\∃o,σ=[o,some<|V.int i]) #[rfl,rfl,_,rfl] (zI (by rw[aD,R.1];lia)) (λk ys σ T e=>?_) (λk ys σ T e=>by rw[e.1];calc dB.of<|j _ _ k4) (λk x ys σ T C hx e hC'=>?_) λys σ T e p6 hp6=>?_
   ·let⟨_,rfl,_⟩:=e;rw[aD,aD,bH];lia
   ·let⟨rfl,rfl,o,rfl⟩:=e;rw[aF]at hx;let⟨I,M,rfl⟩:=aL.mp hx;let O:k<ws.length:=by rw[←R.1];exact(aC.mp M).1
    dsimp![];calc#[I,_,rfl,.inl<|dB.of<|j _ _<|R.2 k I _ M<|aA O,rfl,TZ _,?_];rw[aH aY,dq];calc hC' _ _ _ #[rfl,?_,_,rfl];rw[aJ O,aQ,aQ];rfl
   let⟨rfl,rfl,oo,rfl⟩:=e;rw[aD,aR (by rw[R.1];calc aG _)];let s6:=zB hp6 (.lst<|(ws.map λv=>decide<|i∈v).map V.bl);calc#[p6,rfl,_,dB.of zA,?_];let ea:((ws.map λv=>decide<|i∈v).all id)=(ws.all λv=>decide<|i∈v):=by
    rw[gR];rfl
   rw[ea];let hfl:(List.range<|i+1).filter (λi=>ws.all λv=>decide<|i∈v)=(List.range i).filter (λi=>ws.all λv=>decide<|i∈v)++(if(ws.all λv=>decide<|i∈v)=true then [i]else []):=by
    rw[dL,eA,iR,List.filter_nil]
   by_cases hb:(ws.all λv=>decide<|i∈v)=true
   ·rw[aO hb];calc hC _ _ _ #[j.trans s6,?_,_,rfl];rw[hfl,aO hb,aQ];rfl
   ·rw[aH hb];calc hD _ _ #[j.trans s6,?_,_,rfl];rw[hfl,aH hb,cE]
  clear g;let⟨j,rfl,o,rfl⟩:=e;rw[bM];let X:=(s4.trans j).trans (zB hp5<|.lst<|((List.range m).filter λi=>ws.all λv=>decide<|i∈v).map nV);let k5:upd H' p5 (.lst<|((List.range m).filter λi=>ws.all λv=>decide<|i∈v).map nV) p5=some (.lst<|(cmn m ws).map nV):=zA;let hfr:H p5=none:=(s4.trans j).free hp5;generalize upd H' p5 (.lst<|((List.range m).filter λi=>ws.all λv=>decide<|i∈v).map nV)=H5 at X k5⊢;refine zD λN g=>?_
  dsimp![];calc#[_,cV.of<|X _ _ ha,.str wd,gG,rfl,?_];by_cases r:wd="either"
  ·rw[aO (by rw[r])];rw[aO r]at q;exact#[na,p5,m,ps,cmn m ws,rfl,B,G.same X,dB.of k5,λx hx=>UN hx,by have :=vB (BX m ws) λx hx=>UN hx;lia,λp H6 s6 hp k6=>q p H6 (X.trans s6) (X.free hp) k6]
  ·rw[aH λz=>r<|V.str.inj z];rw[aH r]at q;calc g _ _ ?_;clear g;dsimp![];exact q p5 H5 X hfr k5
theorem ig:∀{T:List Ro}{x:Str},x∉T.map (·.2.1)->zY (T.map λe=>((.inr e.2.1:eR),V.ref e.2.2.1)) (.inr x)=none
 |[],x,_=>rfl
 |e::T,x,h=>by
  rw[bV]at h;let h1:=List.ne_of_not_mem_cons h;let a:zY ((e::T).map λe=>((.inr e.2.1:eR),V.ref e.2.2.1)) (.inr x)=zY (T.map λe=>((.inr e.2.1:eR),V.ref e.2.2.1)) (.inr x):=jT λz=>h1 (pF z).symm;rw[a];exact ig<|List.not_mem_of_not_mem_cons h
theorem DZ:∀{T:List Ro}{e:Ro},(T.map (·.2.1)).Nodup->e∈T->zY (T.map λe=>((.inr e.2.1:eR),V.ref e.2.2.1)) (.inr e.2.1)=some (.ref e.2.2.1)
 |r::T,e,hn,h=>by
  rw[bV]at hn;let a:=fZ.mp hn;rcases bJ.mp h with h |h
  ·subst h;exact qD rfl
  ·let b:zY ((r::T).map λe=>((.inr e.2.1:eR),V.ref e.2.2.1)) (.inr e.2.1)=zY (T.map λe=>((.inr e.2.1:eR),V.ref e.2.2.1)) (.inr e.2.1):=jT λz=>a.1<|bF.mpr #[e,h,(pF z).symm];rw[b];exact DZ a.2 h
abbrev s_v:Stmt:=top 68
theorem sc_v:bP ["world","most","last","pair","near","word","one"] ["world","most"] (zF s_v):=by rfl'
theorem SI(n:Nat)(xs:List Nat)(h:xs.length<=1000):jY (n+1) (.lst<|xs.map λ(x:Nat)=>Dt.int (x:Int)):=#[by rw[aD];exact h,λd hd=>by let⟨x,_,rfl⟩:=bF.mp hd;cases n<;>trivial]
theorem di{p q:Nat×Nat}(h:SM p q):HT.lexLt [(p.1:Int),p.2] [(q.1:Int),q.2]=true:=by
 rw[HT.lexLt_cons];by_cases e:(p.1:Int)=q.1
 ·rw[aO e,HT.lexLt_cons,aH (by unfold SM at h;lia)];exact cP (by unfold SM at h;lia)
 ·rw[aH e];exact cP (by unfold SM at h;lia)
inductive ON (K:W.Frag) (vs:List V) (H:Hp) (Q:VK) (E:XK):Prop
 |mk (wa ca la:Addr) (m mo:Nat) (ps:List (Nat×Nat)) (T:List Ro) (us:List V) (_:vs=[.ref wa,.int mo]) (_:H wa=some (.tup [nV m,.ref ca,.ref la])) (_:H ca=some (.lst us)) (_:bK H (ps.map DF) us) (_:H la=some (.lst ((T.map (·.1)).map V.ref))) (_:GC H m T) (_:1<=m) (_:m<=80) (_:m<=mo) (_:i8 m ps) (_:ps.Pairwise SM) (_:ps.length<=6400) (_:T.length<=40) (_:(T.map (·.2.1)).Pairwise (λx y=>x.cps.toList<y.cps.toList)) (_:(∀e∈T,Nm e.2.1)) (_:(∀e∈T,cnt m ps (cnt m ps e.2.2.2)=e.2.2.2)) (_:∀H',aZ H H'->Q (.bl true) H')
theorem QZ(bi:Bi mg)(h_G:gD P w K mg base 1 "_law_whole" ["found_v"] jp)(h_P:gD P w K mg base 1 "_law_near" ["many","pairs"] OM)(h_m:gD P w K mg base 1 "_law_counter" ["near","spots"] (jy K))(F:fR K "_law_is_world" "_law_is_world" s_v f fd):cW P w K mg base fS 3 f fd ["world","most"] (ON K):=by
 refine F.okz sc_v λeP A outer s H vs Q E hr h=>?_
 let⟨wa,ca,la,m,mo,ps,T,us,rfl,g,hc,hd,hl,ht,hm1,D,hmo,hok,Y,iK,hT,Z,hnm,hcn,q⟩:=h;calc#[_,have nd:=sc_v.nd;zC (yD (PW.pt<|qL (jK<|xL<|zM (xC (T:="tuple")) rfl bi.isinstance zL<|zE #[]<|zE (qX bi.tuple vI rfl) zJ) #[]) #[] zO)<|zC (yD (PW.pt<|qL #[]<|qL #[]<|qL (jK<|xL<|zM (xC (T:="list")) rfl bi.isinstance zL<|zE #[]<|zE (qX bi.list vR rfl) zJ)<|EB<|jK<|xL<|zM (xC (T:="list")) rfl bi.isinstance zL<|zE #[]<|zE (qX bi.list vR rfl) zJ) #[] zO)<|zC #[]<|zC (yC bO rfl #[] #[]<|zC (yD (PW.pt<|qL (jK<|xL<|zM (xC (T:="tuple")) rfl bi.isinstance zL<|zE #[]<|zE (qX bi.tuple vI rfl) zJ) #[]) #[] zO)<|zC (yD (PW.pt<|qL (yG (mf K hr.units0) #[] #[]<|yP _) #[]) #[] zO) #[])<|zC #[]<|zC #[]<|zC (yC bO rfl #[] #[]<|zC (yD (PW.pt<|qL (jK<|xL<|zM (xC (T:="tuple")) rfl bi.isinstance zL<|zE #[]<|zE (qX bi.tuple vI rfl) zJ)<|qL #[]<|qL (jK<|xL<|zM (xC (T:="str")) rfl bi.isinstance zL<|zE #[]<|zE (qX bi.str n9 rfl) zJ)<|EB<|yG LO #[] #[]<|yP _) #[] zO)<|zC (yD (jK<|xL<|zM (xC (T:="list")) rfl bi.isinstance zL<|zE #[]<|zE (qX bi.list vR rfl) zJ) #[] zO)<|zC (yD (jK<|xL<|zM jF rfl bi.all uR<|zE (zX ["spot"] ["world"] [0] #[] (λ_ _ _ _ nd=>yI 0 nd) (λ_ _ _ _=>yA) λ_ _ _ _=>(kK (zQ h_G hr.m rfl #[])<|kK #[]<|kJ<|uI IC #[] (zV (jS K) #[] zW)<|yP _)) zJ) #[] zO)<|zC (yD (yG (EO hr.units) #[] #[]<|yP _) #[] zO) #[]) #[],?_];let a0:∀{a b c:V},pO [a,b,c] 0=some a:=zU (j:=0) rfl;let a1:∀{a b c:V},pO [a,b,c] 1=some b:=zU (j:=1) rfl;let a2:∀{a b c:V},pO [a,b,c] 2=some c:=zU (j:=2) rfl;refine zD λN d=>?_
 dsimp![];calc#[_,.tup g,_,xQ,?_];rw[aH ()];calc#[3,.inr #[_,cV.of g,rfl],rfl,?_];rw[aH ()];calc#[_,cV.of g,_,a0,_,rfl,_,rfl,?_];rw[aH ()];calc d _ _ ?_;clear d;refine zD λN d=>?_
 dsimp![];calc#[_,cV.of g,_,a0,_,rfl,?_];rw[aH ()];calc#[_,cV.of g,_,a0,_,rfl,?_];rw[aH ()];calc#[_,cV.of g,_,a1,_,.lst hc,_,xQ,?_];rw[aH ()];calc#[_,cV.of g,_,a2,_,.lst hl,_,xQ,?_];rw[aH ()];calc d _ _ ?_;clear d;refine zD λN d=>?_
 dsimp![];calc#[zI (),λS hp0=>d _ _ ?_];clear d;let U:=zB hp0<|.tup [V.int 0,V.int 0];let k0:upd H S (.tup [V.int 0,V.int 0]) S=some (.tup [V.int 0,V.int 0]):=zA;generalize upd H S (.tup [V.int 0,V.int 0])=H0 at U k0⊢;let hul:us.length=ps.length:=by have :=bK.length hd;rwa[aD]at this
 refine zP (λσ H'=>∃(o2 t:Option V),aZ H H'/\σ=[some<|V.ref wa,some<|V.int mo,o2,t,none,none,none]) (λN d=>?_) λσ H' h=>?_
 ·dsimp![];calc#[_,cV.of<|U _ _ g,_,a1,ca,rfl,#[_,dB.of<|U _ _ hc],?_];refine uP (xs:=us) (λi σ H'=>∃(pl:Addr)(x y:Nat)(t:Option V),aZ H H'/\H' pl=some (.tup [nV x,nV y])/\(∀p∈ps.drop i,SM (x,y) p)/\σ=[some<|V.ref wa,some<|V.int mo,some<|V.ref pl,t,none,none,none]) #[S,0,0,_,U,k0,λp hp=>?_,rfl] (λi σ H' _ h=>by let⟨_,_,_,_,e,_⟩:=h;calc dB.of<|e _ _ hc) (λi x σ H' hx h=>?_) λσ H' h=>?_
  ·have :=hok p<|fG hp;unfold SM;lia
  ·let⟨pl,G,y0,t,es,kpl,lR,rfl⟩:=h;let⟨p,I,hx'⟩:=xJ hd hx;let⟨pa,rfl,mZ⟩:=bx hx';replace mZ:=es _ _ mZ;let hw':=es _ _ g;let⟨lY,u⟩:=aC.mp I;let k:ps.drop i=p::ps.drop (i+1):=by rw[←u];exact iU lY
   let hok':=hok p<|aP I;let hlp:=lR p (by rw[k];calc aW);refine zD λN d=>?_
   dsimp![];calc#[_,.tup mZ,_,xQ,?_];rw[aH ()];calc#[2,.inr #[_,cV.of mZ,rfl],rfl,?_];rw[aH ()];calc#[_,cV.of mZ,_,gG,_,rfl,_,rfl,?_];rw[aH ()];calc#[_,cV.of mZ,_,mV,_,rfl,_,rfl,?_];rw[aH ()];calc d _ _ ?_;clear d;refine zD λN d=>?_
   dsimp![rLeT];calc#[[(p.1:Int),p.2],cV.of mZ,[(G:Int),y0],cV.of kpl,?_];rw[aH (by rw[JR,di (p:=(G,y0)) hlp];decide)];calc#[_,cV.of mZ,_,gG,_,rfl,?_];rw[aH ()];calc#[_,cV.of mZ,_,gG,_,cV.of mZ,_,mV,_,rfl,_,rfl,?_];rw[aH ()];calc#[_,cV.of mZ,_,mV,_,cV.of hw',_,a0,_,rfl,_,rfl,?_];rw[aH ()];calc d _ _ ?_;clear d;dsimp![];let J:∀q∈ps.drop (i+1),SM p q:=λq hq=>by
    have :=(List.pairwise_append.mp (by rw[dR];calc Y:(ps.take i++ps.drop i).Pairwise SM)).2.1;rw[k]at this;exact jc this hq
   exact#[es,pa,p.1,p.2,mZ,J,rfl,_,rfl]
  ·let⟨pl,G,y0,t,es,kpl,_,rfl⟩:=h;exact d _ _ #[_,_,es,rfl]
 let⟨o2,t,es,rfl⟩:=h;refine zD λN d=>?_
 dsimp![];calc#[_,cV.of<|es _ _ g,_,a0,_,cV.of<|es _ _ g,_,a1,m,ca,us,ps,rfl,(),es _ _ hc,bK.same es hd,hok,λnr H1 s1 L=>d _ _ ?_];clear d;replace es:=es.trans s1;refine zD λN d=>?_
 dsimp![];calc d _ _ ?_;clear d;refine zP (λσ H'=>aZ H H') (λN d=>?_) λσ H' h=>?_
 ·dsimp![];calc#[_,cV.of<|es _ _ g,_,a2,la,rfl,#[_,dB.of<|es _ _ hl],?_];refine uP (xs:=(T.map (·.1)).map V.ref) (λi σ H'=>∃(x:Str)(o6:Option V),aZ H1 H'/\(∀e∈T.drop i,x.cps.toList<e.2.1.cps.toList)/\σ=[some<|V.ref wa,some<|V.int mo,o2,t,some<|V.ref nr,some<|V.str x,o6]) #["",_,aZ.refl _,λe he=>?_,rfl] (λi σ H' _ h=>by let⟨_,_,e,_⟩:=h;calc dB.of<|(es.trans e) _ _ hl) (λi x σ H' hx h=>?_) λσ H' h=>?_
  ·have :=(hnm e<|fG he).pos;rw[show(Str.ofString "").cps.toList=[]from by decide+kernel];let h1:1<=e.2.1.cps.toList.length:=by simpa[Str.length]using this
   cases hq:e.2.1.cps.toList with
   |nil=>rw[hq]at h1;exact absurd h1 ()
   |cons a l=>exact List.nil_lt_cons _ _
  ·let⟨G,o6,v,lR,rfl⟩:=h;let e2:=es.trans v;rw[aF,aF]at hx;let⟨ta,hta,rfl⟩:=aL.mp hx;let⟨e,M,rfl⟩:=aL.mp hta;let⟨lY,u⟩:=aC.mp M;let r:=aP M;let k:T.drop i=e::T.drop (i+1):=by rw[←u];exact iU lY
   let⟨n,O,t3,t4⟩:=(ht.same e2) e r;let hle:=lR e (by rw[k];calc aW);refine zD λN d=>?_
   dsimp![];calc#[_,.tup n,_,xQ,?_];rw[aH ()];calc#[2,.inr #[_,cV.of n,rfl],rfl,?_];rw[aH ()];calc#[_,cV.of n,_,gG,_,.str _,_,xQ,?_];rw[aH ()];calc#[_,cV.of n,_,gG,_,rfl,?_];rw[aH λz=>z hle];calc d _ _ ?_;clear d;refine zD λN d=>?_
   dsimp![];calc#[_,cV.of n,_,mV,_,.lst O,_,xQ,?_];rw[aH ()];calc d _ _ ?_;clear d;refine zD λN d=>?_
   dsimp![];calc#[_,cV.of n,_,mV,_,rfl,#[_,dB.of O],?_];let hel:e.2.2.2.length<=80:=bT (vB t4 t3) D;refine yR (xs:=e.2.2.2.map nV) (λj ys σ H2=>aZ H' H2/\ys=(List.replicate j true).map V.bl/\∃o,σ=[o,some<|V.ref wa]) #[aZ.refl _,rfl,_,rfl] (zI (by rw[aD];lia)) (λj ys σ H2 h=>?_) (λj ys σ H2 h=>dB.of<|h.1 _ _ O) (λj y ys σ H2 C hy h hC=>?_) λys σ H2 h p hp=>?_
   ·rw[h.2.1,aD,fW];exact aG _
   ·let⟨W,rfl,o,rfl⟩:=h;rw[aF]at hy;let⟨z,hz,rfl⟩:=aL.mp hy;let hz':=t3 z<|aP hz;dsimp![];calc#[_,rfl,_,rfl,?_];rw[aO rfl,aO ()];calc#[_,cV.of<|(e2.trans W) _ _ g,_,a0,_,rfl,?_];rw[cP ()];exact hC _ _ _ #[W,by rw[nW,aQ];rfl,_,rfl]
   let⟨W,rfl,o,rfl⟩:=h;calc#[p,rfl,_,dB.of zA,?_];let eall:(List.replicate (e.2.2.2.map nV).length true).all id=true:=cF.mpr λx hx=>(List.mem_replicate.mp hx).2
   rw[eall,aH ()];calc d _ _ ?_;clear d;let B:=W.trans<|zB hp<|.lst<|(List.replicate (e.2.2.2.map nV).length true).map V.bl;generalize upd H2 p (.lst<|(List.replicate (e.2.2.2.map nV).length true).map V.bl)=H3 at B⊢;refine zD λN d=>?_
   dsimp![];let R:∀l:List Nat,(∀x∈cnt m ps l,x<m)/\(cnt m ps l).length<=80:=λl=>#[λx hx=>(pJ.mp hx).1,bT (vB (wZ m ps l) λx hx=>(pJ.mp hx).1) D]
   calc#[_,cV.of<|B _ _ n,_,mV,nr,_,m,ps,e.2.2.2,rfl,(),L.same<|v.trans B,dB.of<|B _ _ O,t3,(),λp5 H5 s5 _ k5=>?_];calc#[nr,p5,m,ps,cnt m ps e.2.2.2,rfl,(),L.same<|v.trans<|B.trans s5,dB.of k5,(R _).1,by have :=(R e.2.2.2).2;lia,λp6 H6 s6 _ k6=>?_];let X:=B.trans<|s5.trans s6;rw[hcn e r]at k6;calc#[_,cV.of<|X _ _ n,_,mV,1,_,vP k6,_,vP<|X _ _ O,SI 1 _ (),(),?_];rw[yT];calc#[_,rfl,?_];rw[aH ()];calc d _ _ ?_;clear d;dsimp![];calc#[_,cV.of<|X _ _ n,_,gG,v.trans X,e.2.1,λe' he'=>?_,rfl,_,rfl];let lX:=mE.mp Z;have :=(List.pairwise_append.mp (by rw[dR];calc lX:(T.take i++T.drop i).Pairwise _)).2.1;rw[k]at this;exact jc this he'
  ·let⟨G,o6,v,_,rfl⟩:=h;exact d _ _<|es.trans v
 dsimp![];exact q _ h
abbrev kg:Stmt:=top 75
theorem gm:bP ["near","sets","saying","other"] ["near","sets","saying"] (zF kg):=by rfl'
abbrev s_O:Stmt:=top 76
theorem sc_O:bP ["near","sets","rule"] ["near","sets","rule"] (zF s_O):=by rfl'
abbrev lf:Stmt:=top 77
theorem ib:bP ["answer","book","saying","near","sets","name","spots","inner"] ["answer","book","saying"] (zF lf):=by rfl'
theorem at2{x y z:V}{xs:List V}:pO (x::y::z::xs) 2=some z:=kD () rfl
structure VA(H:Hp)(na d:Addr)(m:Nat)(ps:List (Nat×Nat))(S:Str->List Nat)(zs:List Str):Prop where
 nr:GG H na m ps
 m90:m<=90
 ex:∃kvs,H d=some (.dK kvs)/\∀x∈zs,∃l,zY kvs (.inr x)=some (.ref l)/\H l=some (.lst<|(S x).map nV)
 sr:∀z,(∀i∈S z,i<m)/\(S z).Pairwise (· < ·)
theorem VA.same{na:Addr}{m:Nat}(h:VA H na d m ps S zs)(e:aZ H H'):VA H' na d m ps S zs:=by
 let⟨kvs,h1,h2⟩:=h.ex;exact#[h.nr.same e,h.m90,#[kvs,e _ _ h1,λx hx=>let ⟨l,g1,g2⟩:=h2 x hx;#[l,g1,e _ _ g2]],h.sr]
def i3(zs:List Str)(t:Tm):Prop:=(fY 20 t/\wt t<=120)/\∀x∈oV t,x∈zs
noncomputable def TK(m:Nat)(ps:List (Nat×Nat))(S:Str->List Nat)(s:Tm×Tm):Bool:=(val m ps S s.1).all λa=>decide<|a∈val m ps S s.2
noncomputable def hrB(m:Nat)(ps:List (Nat×Nat))(S:Str->List Nat)(r:mX):Bool:=TK m ps S r.2 ||!r.1.all (TK m ps S)
theorem sD{m:Nat}:TK m ps S s=true↔Hs m ps S s:=by
 unfold TK Hs;rw[cF];exact forall_congr' λa=>forall_congr' λ_=>decide_eq_true_iff
theorem dt{m:Nat}{r:mX}:hrB m ps S r=true↔Hr m ps S r:=by
 unfold hrB Hr;rw[lH,sD,GU,←Bool.not_eq_true,cF];constructor
 ·rintro(h |h) h2
  ·exact h
  ·exact(h λs hs=>sD.mpr<|h2 s hs).elim
 ·intro h;by_cases c:∀s∈r.1,TK m ps S s=true
  ·exact .inl (h λs hs=>sD.mp<|c s hs)
  ·exact .inr c
inductive spIn (vs:List V) (H:Hp) (Q:VK) (E:XK):Prop
 |mk (na d:Addr) (v:V) (m:Nat) (ps:List (Nat×Nat)) (S:Str->List Nat) (zs:List Str) (s:Tm×Tm) (_:vs=[.ref na,.ref d,v]) (_:VA H na d m ps S zs) (_:oB H s v) (_:i3 zs s.1) (_:i3 zs s.2) (_:∀H',aZ H H'->Q (.bl<|TK m ps S s) H')
inductive spKp (vs:List V) (H:Hp) (Q:VK) (E:XK):Prop
 |mk (na d:Addr) (v:V) (m:Nat) (ps:List (Nat×Nat)) (S:Str->List Nat) (zs:List Str) (r:mX) (_:vs=[.ref na,.ref d,v]) (_:VA H na d m ps S zs) (_:WS H r v) (_:(∀t∈NG r,i3 zs t)) (_:r.1.length<=5) (_:∀H',aZ H H'->Q (.bl<|hrB m ps S r) H')
theorem VA.worth{na:Addr}{m:Nat}(h:VA H na d m ps S zs){t:Tm}{Q:VK}(ht:hU H t v)(hq:i3 zs t)(q:∀(p:Addr) H',aZ H H'->H' p=some (.lst<|(val m ps S t).map nV)->Q (.ref p) H'):ax K 22 [.ref na,.ref d,v] H Q E0:=by
 let⟨kvs,h1,h2⟩:=h.ex;exact#[na,d,v,t,m,ps,kvs,S,rfl,h.nr,h.m90,ht,hq.1.1,by have :=hq.1.2;lia,h1,λx hx=>h2 x<|hq.2 x hx,h.sr,λp H' e _ k=>q p H' e k]
theorem VA.len{na:Addr}{m:Nat}(h:VA H na d m ps S zs)(t:Tm):(val m ps S t).length<=90:=bT (NS (wG (λx=>(h.sr x).2) t) λx hx=>YB (λx=>(h.sr x).1) t hx) h.m90
theorem ok_in(bi:Bi mg)(h_e:gD P w K mg base 22 "_law_worth" ["near","sets","t"] (ax K 22))(F:fR K "_law_in" "_law_in" kg f fd):cW P w K mg base fS 23 f fd ["near","sets","saying"] spIn:=by
 refine F.okz gm λeP A outer s H vs Q E hr h=>?_
 let⟨na,d,v,m,ps,S,zs,s,rfl,b,k,l,n,q⟩:=h;calc#[_,have nd:=gm.nd;zC (qI (i:=3) nd rfl (Or.inr rfl) #[])<|zH<|zS<|zM jF rfl bi.all uR<|zE (zX ["spot"] ["other"] [3] #[] (λ_ _ _ _ nd=>yI 0 nd) (λ_ _ _ _=>yA) λ_ _ _ _=>(uI (RM hr.units) #[] #[] (by with_unfolding_all rfl))) zJ,?_];let⟨a,D,I,rfl,ha,r,u⟩:=k.out;refine zD λN j=>?_
 dsimp![];calc#[_,cV.of ha,_,mV,b.worth u n λp2 H1 s1 k1=>j _ _ ?_];clear j;dsimp![];calc#[_,cV.of<|s1 _ _ ha,_,gG,(b.same s1).worth (eE.same s1 r) l λz H2 s2 k2=>?_];calc#[z,rfl,#[_,dB.of k2],?_];let hl:=b.len s.1;refine yR (xs:=(val m ps S s.1).map nV) (λi ys σ G=>H2=G/\ys=((val m ps S s.1).take i).map (λa=>V.bl<|decide<|a∈val m ps S s.2)/\∃o,σ=[o,some<|.ref p2]) #[rfl,rfl,_,rfl] (zI (by rw[aD];lia)) (λi ys σ G e=>?_) (λi ys σ G e=>by rw[←e.1];calc dB.of k2) (λi x ys σ G C hx e B=>?_) λys σ G e p hp=>?_
 ·rw[e.2.1,aD,bH];lia
 ·let⟨rfl,rfl,o,rfl⟩:=e;rw[aF]at hx;let⟨y,hy,rfl⟩:=aL.mp hx;let⟨c,g⟩:=aC.mp hy;dsimp![LH];calc#[1,.int y,rfl,_,.inl<|vP<|s2 _ _ k1,(λe he=>by let⟨_,_,rfl⟩:=bF.mp he;trivial),(),?_];rw[UE,Bool.false_xor];exact B _ _ _ #[rfl,by rw[aJ c,g,aQ];rfl,_,rfl]
 ·let⟨rfl,rfl,o,rfl⟩:=e;rw[aD,aR<|aG _];calc#[p,rfl,(val m ps S s.1).map (λa=>decide<|a∈val m ps S s.2),dB.of (by rw[zA,dU];rfl),?_];have :=q _ (s1.trans<|s2.trans<|zB hp<|.lst<|((val m ps S s.1)).map (λa=>V.bl<|decide<|a∈val m ps S s.2));unfold TK at this;rw[gR];exact this
theorem cq(bi:Bi mg)(h_bd:gD P w K mg base 23 "_law_in" ["near","sets","saying"] spIn)(F:fR K "_law_kept" "_law_kept" s_O f fd):cW P w K mg base fS 24 f fd ["near","sets","rule"] spKp:=by
 refine F.okz sc_O λeP A outer s H vs Q E hr h=>?_
 let⟨na,d,v,m,ps,S,zs,r,rfl,z,L,ht,iK,q⟩:=h;calc#[_,have nd:=sc_O.nd;zC #[]<|zH<|zS<|EI<|zM jF rfl bi.all uR<|zE (zX ["one"] ["near","sets"] [0,1] #[] (λ_ _ _ _ nd=>yI 0 nd) (λ_ _ _ _=>yA) λ_ _ _ _=>(zQ h_bd hr.m rfl #[])) zJ,?_];let⟨a,l,u,ws,rfl,ha,g,b,k⟩:=L.out;let M:=b.length;let B:∀p∈r.1++[r.2],i3 zs p.1/\i3 zs p.2:=λp hp=>by
  let hm:∀t∈iN p,t∈NG r:=λt ht=>by
   rcases cD.mp hp with h |h
   ·exact cG _<|dP.mpr #[p,h,ht]
   ·rw[aV.mp h]at ht;exact bB _ ht
  exact#[ht _ (hm _ (by simp[iN])),ht _<|hm _ (by simp[iN])]
 let D:=B r.2<|bB _<|aV.mpr rfl;refine zD λN I=>?_
 dsimp![];calc#[_,cV.of ha,_,mV,na,d,u,m,ps,S,zs,r.2,rfl,z,k,D.1,D.2,λH1 s1=>#[_,rfl,?_]];by_cases c:TK m ps S r.2=true
 ·rw[aO c];have :=q H1 s1;unfold hrB at this;rw[c,GS]at this;exact this
 rw[aH c];calc I _ _ ?_;clear I;dsimp![];calc#[_,cV.of<|s1 _ _ ha,_,gG,l,rfl,#[_,dB.of<|s1 _ _ g],?_];refine yR (xs:=ws) (λi ys σ G=>aZ H1 G/\ys=(r.1.take i).map (λp=>V.bl<|TK m ps S p)/\∃o,σ=[o,some<|.ref na,some<|.ref d]) #[aZ.refl _,rfl,_,rfl] (zI ()) (λi ys σ G e=>?_) (λi ys σ G e=>dB.of<|e.1 _ _<|s1 _ _ g) (λi x ys σ G C hx e O=>?_) λys σ G e p hp=>?_
 ·rw[e.2.1,aD,bH];lia
 ·let⟨j,rfl,o,rfl⟩:=e;let⟨p,lX,mK⟩:=b.getV hx;let⟨n,y⟩:=aC.mp lX;let J:=B p<|cG _<|aP lX;dsimp![];exact#[na,d,x,m,ps,S,zs,p,rfl,z.same<|s1.trans j,eE.same (s1.trans j) mK,J.1,J.2,λH2 s2=>O _ _ _ #[j.trans s2,by rw[aJ n,y,aQ];rfl,_,rfl]]
 ·let⟨j,rfl,o,rfl⟩:=e;rw[aR ()];calc#[p,rfl,r.1.map<|TK m ps S,dB.of (by rw[zA,dU];rfl),?_];have :=q _ (s1.trans<|j.trans<|zB hp<|.lst<|r.1.map λp=>V.bl<|TK m ps S p);unfold hrB at this;rw[Bool.not_eq_true]at c;rw[c,tD]at this;rw[gR];exact this
structure Bks(zs:List Str)(b:List mX)(s:Tm×Tm):Prop where
 bl:b.length<=20
 pl:∀r∈b,r.1.length<=5
 fit:∀t∈gS b++iN s,i3 zs t
abbrev tS(b:List mX)(s:Tm×Tm):List Rw:=yQ (gS b++iN s) [.no]
inductive spOn (vs:List V) (H:Hp) (Q:VK) (E:XK):Prop
 |mk (pa ba wa ca la:Addr) (v:V) (bs us:List V) (zs:List Str) (b:List mX) (s:Tm×Tm) (n m:Nat) (ps:List (Nat×Nat)) (T:List Ro) (S:Str->List Nat) (_:vs=[.ref pa,.ref ba,v]) (_:H pa=some (.tup [.str "open",.ref wa,.int n])) (_:H ba=some (.lst bs)) (_:iJ H b bs) (_:oB H s v) (_:Bks zs b s) (_:oy H (tS b s) b s wa ca la n m ps T us S) (_:∀H',aZ H H'->Q (.bl true) H')
theorem cm(bi:Bi mg)(h_v:gD P w K mg base 3 "_law_is_world" ["world","most"] (ON K))(h_P:gD P w K mg base 1 "_law_near" ["many","pairs"] OM)(h_s:gD P w K mg base 24 "_law_all_rows" ["book","saying"] j7)(h_O:gD P w K mg base 24 "_law_kept" ["near","sets","rule"] spKp)(h_G:gD P w K mg base 1 "_law_whole" ["found_v"] jp)(h_e:gD P w K mg base 22 "_law_worth" ["near","sets","t"] (ax K 22))(F:fR K "_law_open" "_law_open" lf f fd):cW P w K mg base fS 25 f fd ["answer","book","saying"] spOn:=by
 refine F.okz ib λeP A outer s H vs Q E hr h=>?_
 let⟨pa,ba,wa,ca,la,v,bs,us,zs,b,s,n,m,ps,T,S,rfl,mZ,I,hb,hv,bk,c,q⟩:=h;calc#[_,have nd:=ib.nd;zC #[]<|zC (qI (i:=3) nd rfl (Or.inr rfl) #[])<|zC (qI (i:=4) nd rfl (Or.inr rfl) AH)<|zC (yC bO rfl #[] #[]<|zH<|QV (xY hr) #[] #[] #[] rfl)<|zC (yD (jK<|xL<|zM jF rfl bi.all uR<|zE (zX ["row"] ["sets"] [4] #[] (λ_ _ _ _ nd=>yI 0 nd) (λ_ _ _ _=>yA) λ_ _ _ _=>(pe_or (uI RI (zV (jS K) #[] zW) uH<|yP _)<|kJ<|RC (YO (xY hr) (zV (jS K) #[] zW) #[]) (by with_unfolding_all rfl))) zJ) #[] zO)<|zC (yD (PW.pt<|qL (jK<|xL<|zM jF rfl bi.all uR<|zE (zX ["rule"] ["near","sets"] [3,4] #[] (λ_ _ _ _ nd=>yI 0 nd) (λ_ _ _ _=>yA) λ_ _ _ _=>(zQ h_O hr.m rfl #[])) zJ) #[]) #[] zO)<|zC #[]<|zH<|zS<|kK (uI (RM hr.units) #[] #[] (by with_unfolding_all rfl))<|kJ<|uI (kL hr.units) #[] #[] (by with_unfolding_all rfl),?_];let D:=c.m80;let htl:=c.tl;refine zD λN l=>?_
 dsimp![];calc#[_,cV.of mZ,_,mV,wa,ca,la,m,80,ps,T,us,rfl,c.tup,c.cl,c.dat,c.lst,c.tr,c.m1,D,D,c.ok2,c.srt,c.pl,(),c.zrt,c.nm,c.ful,λH1 s1=>#[true,rfl,?_]];rw[aH ()];calc l _ _ ?_;clear l;refine zD λN l=>?_
 dsimp![];replace c:=c.same s1;calc#[_,cV.of<|s1 _ _ mZ,_,mV,wa,rfl,_,cV.of c.tup,_,gG,_,cV.of<|s1 _ _ mZ,_,mV,wa,rfl,_,cV.of c.tup,_,mV,m,ca,us,ps,rfl,(),c.cl,c.dat,c.ok2,λna H2 s2 L=>l _ _ ?_];clear l;replace c:=c.same s2;replace s2:=s1.trans s2;clear s1;refine zD λN l=>?_
 dsimp![];refine λd hd=>l _ _ ?_
 clear l;let s3:=zB hd<|.dK [];let k3:upd H2 d (.dK []) d=some (.dK<|(T.take 0).map λe=>((.inr e.2.1:eR),V.ref e.2.2.1)):=zA;generalize upd H2 d (.dK [])=H3 at s3 k3⊢;let iC:(T.map (·.2.1)).Nodup:=c.zrt.imp λh e=>absurd h (by rw[e];calc List.lt_irrefl _)
 refine zP (λσ H'=>∃(O R U:Option V),aZ H2 H'/\H' d=some (.dK<|T.map λe=>((.inr e.2.1:eR),V.ref e.2.2.1))/\σ=[some<|.ref pa,some<|.ref ba,some v,some<|.ref na,some<|.ref d,O,R,U]) (λN l=>?_) λσ H' h=>?_
 ·dsimp![];calc#[_,cV.of<|(s2.trans s3) _ _ mZ,_,mV,wa,rfl,_,cV.of<|s3 _ _ c.tup,_,at2,la,rfl,#[_,dB.of<|s3 _ _ c.lst],?_];refine xS (xs:=(T.map (·.1)).map V.ref) (λk σ H'=>aZ H2 H'/\H' d=some (.dK<|(T.take k).map λe=>((.inr e.2.1:eR),V.ref e.2.2.1))/\∃O R U,σ=[some<|.ref pa,some<|.ref ba,some v,some<|.ref na,some<|.ref d,O,R,U]) #[s3,k3,_,_,_,rfl] (λk σ H' _ h=>dB.of<|h.1 _ _ c.lst) (λk x σ H' hx h M hM=>?_) λσ H' h=>?_
  ·let⟨g,k4,O,R,U,rfl⟩:=h;rw[aF,aF]at hx;let⟨a,ha,rfl⟩:=aL.mp hx;let⟨e,he,rfl⟩:=aL.mp ha;let htr:=c.tr e<|aP he;let⟨lY,hie⟩:=aC.mp he;let hno:zY ((T.take k).map λe=>((.inr e.2.1:eR),V.ref e.2.2.1)) (.inr e.2.1)=none:=by
    refine ig λhm=>?_
    let⟨e',he',hh⟩:=bF.mp hm;let⟨j,hj,rfl⟩:=cS he';rw[bH]at hj;rw[GP]at hh;calc cL.mp iC j k (by rw[aD];lia) (by rw[aD];lia) () ?_;rw[fU,fU,hie];exact hh
   dsimp![uO,jI,uX,HH];refine#[_,cV.of<|g _ _ htr.1,rfl,_,_,rfl,_,_,rfl,rfl,_,CT.k (k:=.inr e.2.1) k4 (j8 (by rw[aD,bH];lia)),hM _ _ #[λx o hx=>?_,?_,_,_,_,rfl]]
   ·rw[zG λz=>by rw[z,hd]at hx;cases hx];exact g _ _ hx
   ·rw[zA,vM hno,aJ lY,hie,aQ];rfl
  ·let⟨g,k4,O,R,U,rfl⟩:=h;rw[aD,aD,aR<|aG _]at k4;exact l _ _ #[O,R,U,g,k4,rfl]
 ·let⟨O,R,U,g,k4,rfl⟩:=h;replace c:=c.same g;replace L:=L.same g;replace g:=s2.trans g;clear s2 s3 k3;let W:VA H' na d m ps S (T.map (·.2.1)):=#[L,(),#[_,k4,λx hx=>by
   let⟨e,he,rfl⟩:=bF.mp hx;calc#[e.2.2.1,DZ iC he,by rw[←c.is e he];calc(c.tr e he).2.1]],c.sr]
  let hgd:=XM (gS b++iN s) [.no] λt ht=>(bk.fit t ht).1.1;let tq:∀t∈gS b++iN s,i3 (T.map (·.2.1)) t:=λt ht=>#[(bk.fit t ht).1,λx hx=>by
   let⟨n,hn⟩:=hgd t ht;let⟨k,hk⟩:=IE 21 t (bk.fit t ht).1.1 n hn x hx;calc c.all x k<|QR hk]
  refine zD λN l=>?_
  dsimp![DQ];calc#[ba,v,bs,b,s,rfl,g _ _ I,bK.same g hb,eE.same g hv,bk.bl,bk.pl,(λt ht=>(bk.fit t ht).1),λra J H5 s5 X=>?_];let⟨ys,ky,hy⟩:=X.ex;let Y:=s5.trans X.sub;calc#[ra,rfl,#[_,dB.of ky],?_];let hyl:=xM hy;let hrl:(tS b s).length<=70000:=by
   let h1:=(XN (gS b++iN s) [.no] (λt ht=>(bk.fit t ht).1) pA.one).2;let h2:=wH bk.pl;let h3:=bk.bl;rw[aK,cC]at h1;let h4:(iN s).length=2:=rfl;rw[h4]at h1;show(yQ (gS b++iN s) [.no]).length<=70000;lia
  refine yR (xs:=ys) (λi mW σ G=>H5=G/\mW=(List.replicate i true).map V.bl/\∃o,σ=[o,some<|.ref d]) #[rfl,rfl,_,rfl] (smB (by rw[hyl];calc bT hrl ())) (λi ys σ G e=>by rw[e.2.1,aD,fW];calc aG _) (λi ys σ G e=>by rw[←e.1];calc dB.of ky) (λi x mW σ G C hx e hC=>?_) λmW σ G e p hp=>?_
  ·let⟨rfl,rfl,o,rfl⟩:=e;let⟨r,Z,B⟩:=xJ hy hx;let done:C (.bl true) [some x,some<|.ref d] H5:=hC _ _ _ #[rfl,by rw[nW,aQ];rfl,_,rfl];dsimp![DQ];cases r with
   |no=>
    let⟨xa,us',rfl,lW,z1,q1,rfl,u,e2⟩:=B;cases (show z1=.str "none" from u);calc#[xa,rfl,_,cV.of<|X.sub _ _ lW,_,gG,rfl,?_];rw[aO ()];exact done
   |bo i' j'=>
    let⟨xa,us',rfl,lW,z1,q1,rfl,u,e2⟩:=B;cases (show z1=.str "both" from u);calc#[xa,rfl,_,cV.of<|X.sub _ _ lW,_,gG,rfl,?_];rw[aO ()];exact done
   |nm y=>
    let⟨xa,us',rfl,lW,z1,q1,rfl,u,z2,q2,rfl,e2,e3⟩:=B;cases (show z1=.str "name" from u);cases (show z2=.str y from e2);calc#[xa,rfl,_,cV.of<|X.sub _ _ lW,_,gG,rfl,?_];rw[aH λz=>z rfl];let⟨e,he,rfl⟩:=bF.mp<|c.all y i Z;calc#[xa,rfl,_,cV.of<|X.sub _ _ lW,_,mV,_,nK.k (k:=.inr e.2.1)<|Y _ _ k4,?_];rw[DZ iC he];exact done
  ·let⟨rfl,rfl,o,rfl⟩:=e;calc#[p,rfl,_,dB.of zA,?_];rw[aH (by simp)];calc l _ _ ?_;clear l;let s6:=Y.trans<|zB hp<|.lst<|(List.replicate ys.length true).map V.bl;generalize upd H5 p (.lst<|(List.replicate ys.length true).map V.bl)=H6 at s6⊢;replace c:=c.same s6;replace W:=W.same s6;replace g:=g.trans s6;clear s6 Y s5 X ky hp;refine zD λN l=>?_
   dsimp![];let hb6:iJ H6 b bs:=bK.same g hb;let hbsl:=xM hb;let hbl:=bk.bl;calc#[#[_,dB.of<|g _ _ I],?_];refine yR (xs:=bs) (λi mW σ G=>aZ H6 G/\mW=(List.replicate i true).map V.bl/\∃o,σ=[o,some<|.ref na,some<|.ref d]) #[aZ.refl _,rfl,_,rfl] (zI ()) (λi ys σ G e=>by rw[e.2.1,aD,fW];calc aG _) (λi ys σ G e=>dB.of<|e.1 _ _<|g _ _ I) (λi x mW σ G C hx e hC=>?_) λmW σ G e p hp=>?_
   ·let⟨u,rfl,o,rfl⟩:=e;let⟨r,Z,B⟩:=iJ.getV hb6 hx;let hrm:=aP Z;dsimp![];calc#[na,d,x,m,ps,S,_,r,rfl,W.same u,eE.same u B,(λt ht=>tq t<|cG _<|dP.mpr #[r,hrm,ht]),bk.pl r hrm,λH7 s7=>?_];rw[dt.mpr<|c.hr r hrm];exact hC _ _ _ #[u.trans s7,by rw[nW,aQ];rfl,_,rfl]
   ·let⟨u,rfl,o,rfl⟩:=e;calc#[p,rfl,_,dB.of zA,?_];rw[aH (by simp)];let s7:=u.trans<|zB hp<|.lst<|(List.replicate bs.length true).map V.bl;generalize upd G p (.lst<|(List.replicate bs.length true).map V.bl)=H7 at s7⊢;replace c:=c.same s7;replace W:=W.same s7;replace g:=g.trans s7;clear s7 u hp hb6;calc#[_,cV.of<|g _ _ mZ,_,at2,n,rfl,true,rfl,?_];rw[aH ()];calc l _ _ ?_;clear l;let⟨a,v1,v2,rfl,ha,t1,t2⟩:=hv.out;let q1:=tq s.1 (bB _ (by simp[iN]));let q2:=tq s.2 (bB _ (by simp[iN]));refine zD λN l=>?_
    dsimp![];calc#[_,cV.of<|g _ _ ha,_,gG,W.worth (eE.same g t1) q1 λp8 H8 s8 k8=>l _ _ ?_];clear l;dsimp![LH];let ft:∀t:Tm,∀e∈(val m ps S t).map (λ(x:Nat)=>Dt.int (x:Int)),jY 1 e:=λt e he=>by let⟨_,_,rfl⟩:=bF.mp he;trivial
    calc#[_,cV.of<|(g.trans s8) _ _ mZ,_,at2,1,.int n,rfl,_,.inl<|vP k8,ft s.1,(),?_];rw[UE,cP c.in1,aO ()];calc#[_,cV.of<|(g.trans s8) _ _ mZ,_,at2,_,cV.of<|(g.trans s8) _ _ ha,_,mV,(W.same s8).worth (eE.same (g.trans s8) t2) q2 λp9 H9 s9 k9=>?_];calc#[1,.int n,rfl,_,.inl<|vP k9,ft s.2,(),?_];rw[UE,cJ c.no2];exact q H9<|g.trans<|s8.trans s9
noncomputable def pN(a b:Int)(k:Nat):Str:=(#[(List.toArray [97+((a+k) % 26).toNat])]:Str)++#[(List.toArray [97+((b+(k:Int)/26) % 26).toNat])]
theorem IG(a b:Int)(k:Nat):(pN a b k).cps.toList=[97+((a+k) % 26).toNat,97+((b+(k:Int)/26) % 26).toNat]:=by
 unfold pN;rw[d7];rfl
theorem ZV{a b:Int}(hi:i<42)(hj:j<42)(h:pN a b i=pN a b j):i=j:=by
 let h:=cQ (λx:Str=>x.cps.toList) h;simp only[IG,WO,and_true]at h;lia
theorem mq(a b:Int)(k:Nat):Nm (pN a b k):=by
 let e:=IG a b k;let l:(pN a b k).length=2:=by
  unfold pN;rw[dm];rfl
 refine#[(),(),λc hc=>?_,λz=>?_,λz=>?_]
 ·rw[e]at hc;rcases bJ.mp hc with rfl |hc
  ·lia
  ·rw[aV.mp hc];lia
 ·rw[z]at l;exact absurd l ()
 ·rw[z]at l;exact absurd l ()
theorem JQ(c:Int):pO ("abcdefghijklmnopqrstuvwxyz":Str).cps.toList (c % 26)=some (97+(c % 26).toNat):=by
 let h:=MH (c % 26).toNat ();rwa[show(((c % 26).toNat:Nat):Int)=c % 26 by lia]at h
inductive Gt:Nat->Nat->Tm->Prop
 |nm {x:Str}:Nm x->Gt 0 0 (.name x)
 |no {d c:Nat} {t:Tm}:Gt d c t->Gt (d+1) c (.node "not" [t])
 |bo {d c:Nat} {t:Tm}:Gt d c t->Gt (d+1) (c+1) (.node "both" [t,.node "not" [t]])
theorem VC{t:Tm}(h:fY n t):fY (n+1) (.node "not" [t]):=by
 unfold fY;exact#[.inr<|.inr<|.inl #[rfl,rfl],λu hu=>by rw[aV.mp hu];calc h]
theorem Gt.fit{d c:Nat}{t:Tm}(h:Gt d c t):fY (2*d) t:=by
 induction h with
 |nm h=>unfold fY;exact h
 |no _ a=>exact(VC a).up
 |bo _ a=>
  rw[show∀d,2*(d+1)=2*d+1+1 from λd=>by lia];unfold fY;calc#[.inr<|.inr<|.inr<|.inl #[rfl,aG _],λu hu=>?_];rcases bJ.mp hu with rfl |hu
  ·exact a.up
  ·rw[aV.mp hu];exact VC a
theorem Gt.wt{d c:Nat}{t:Tm}(h:Gt d c t):wt t+2<=3*2^d:=by
 induction h with
 |nm h=>rw[L2.wt];decide
 |no _ a=>rw[L2.wt,lI,lI,Nat.pow_succ];lia
 |bo _ a=>rw[L2.wt,lI,lI,lI,L2.wt,lI,lI,Nat.pow_succ];lia
theorem VU(t:Tm)(rows:List Rw):(dG (.node "not" [t]) rows).1=(dG t rows).1:=by
 rw[dG,aH (),aH (),aO rfl,jB,yJ]
theorem YH(rows:List Rw)(r:Rw):(yZ rows r).1.length<=rows.length+1:=by
 unfold yZ;split
 ·exact nT _
 ·rw[aK];exact aG _
theorem Gt.row{d c:Nat}{t:Tm}(h:Gt d c t):d<=10->∀rows:List Rw,(dG t rows).1.length<=rows.length+c+1:=by
 induction h with
 |nm h=>intro _ rows;rw[dG];exact YH _ _
 |no _ a=>intro hd rows;rw[VU];exact a () rows
 |@bo d c t h a=>
  intro hd rows;let g:=(TV (rows:=(dG t rows).1) (h.fit.mono (by lia:2*d<=20)) #[_,kA t _ rows h.fit]).2;rw[dG,aH (),aH (),aH (),jB,yJ,yJ,VU,g];let h1:=a () rows;let h2:=YH (dG t rows).1 (.bo ((iY (decide<|("both":Str)="either") (dG t rows).2:Nat):Int) (iY (decide<|("both":Str)="either") (dG (.node "not" [t]) (dG t rows).1).2:Nat));show(yZ (dG t rows).1 _).1.length<=_;lia
theorem KB:∀(L:List (Tm×Nat))(rows:List Rw),(∀p∈L,∃d,d<=10/\Gt d p.2 p.1)->(yQ (L.map (·.1)) rows).length<=rows.length+L.length+(L.map (·.2)).sum
 |[],rows,_=>by show rows.length<=rows.length+0+0;lia
 |p::L,rows,h=>by
  let⟨d,hd,g⟩:=h p aW;let h1:=g.row hd rows;let h2:=KB L (dG p.1 rows).1 λq hq=>h q<|aX _ hq
  rw[bV,bV,List.sum_cons,bC,yQ];lia
theorem sum_set:∀(L:List (Tm×Nat))(j:Nat)(p u:Tm×Nat),L[j]?=some p->((L.set j u).map (·.2)).sum+p.2=(L.map (·.2)).sum+u.2
 |[],_,_,_,h=>by simp at h
 |q::L,0,p,u,h=>by
  cases h;simp only[List.set_cons_zero,bV,List.sum_cons];lia
 |q::L,j+1,p,u,h=>by
  let a:=sum_set L j p u (by simpa using h);simp only[List.set_cons_succ,bV,List.sum_cons];lia
structure Tq(a b:Int)(n k:Nat)(L:List (Tm×Nat)):Prop where
 len:L.length=n
 gt:∀p∈L,∃d,d<=k/\Gt d p.2 p.1
 pl:∀i,i<n->(i % 12<2\/36<=i)->L[i]?=some (.name<|pN a b i,0)
 sm:∃q,q<=k/\(∀p∈L,p.2<=q)/\(L.map (·.2)).sum<=q*(1+k-q)
theorem HG{q k:Nat}(h:q<=k):q*(1+k-q)+1<=(q+1)*(1+(k+1)-(q+1))/\q*(1+k-q)+q=q*(1+(k+1)-q):=by
 obtain⟨d,rfl⟩:∃d,k=q+d:=#[k-q,()]
 rw[show 1+(q+d)-q=d+1 by lia,show 1+(q+d+1)-(q+1)=d+1 by lia,show 1+(q+d+1)-q=d+1+1 by lia,Nat.succ_mul,Nat.mul_succ q<|d+1];lia
theorem Tq.idle{a b:Int}{k:Nat}(h:Tq a b n k L):Tq a b n (k+1) L:=by
 let⟨q,h1,h2,c⟩:=h.sm;exact#[h.len,λp hp=>let ⟨d,g1,g2⟩:=h.gt p hp;#[d,(),g2],h.pl,q,(),h2,by have :=(HG h1).2;lia]
theorem Tq.step{a b:Int}{k:Nat}(h:Tq a b n k L){p u:Tm×Nat}(hp:L[j]?=some p)(hj:2<=j % 12)(hj2:j<36)(hu:u=(.node "not" [p.1],p.2)\/u=(.node "both" [p.1,.node "not" [p.1]],p.2+1)\/u∈L):Tq a b n (k+1) (L.set j u):=by
 let⟨q,h1,h2,l⟩:=h.sm;let hm:=aP hp;let⟨d,g1,g2⟩:=h.gt p hm;let c:=sum_set L j p u hp;let st:=HG h1;let e:=h2 p hm;refine#[by rw[gW];exact h.len,λr hr=>?_,λi hi hc=>?_,?_]
 ·rcases iT hr with hr |rfl
  ·let⟨d,g,f⟩:=h.gt r hr;exact#[d,(),f]
  ·rcases hu with rfl |rfl |hu
   ·exact#[d+1,(),g2.no]
   ·exact#[d+1,(),g2.bo]
   ·let⟨d,g,f⟩:=h.gt r hu;exact#[d,(),f]
 ·rw[dZ ()];exact h.pl i hi hc
 ·rcases hu with rfl |rfl |hu
  ·calc#[q,(),λr hr=>?_,by let c:_+p.2=_+p.2:=c;lia];rcases iT hr with hr |rfl
   ·exact h2 r hr
   ·exact e
  ·calc#[q+1,(),λr hr=>?_,by let c:_+p.2=_+(p.2+1):=c;lia];rcases iT hr with hr |rfl
   ·have :=h2 r hr;lia
   ·show p.2+1<=_;lia
  ·let hq:=h2 u hu;calc#[q,(),λr hr=>?_,()];rcases iT hr with hr |rfl
   ·exact h2 r hr
   ·exact hq
noncomputable def ak(a b:Int)(n:Nat):List (Tm×Nat):=(List.range n).map λi=>(.name<|pN a b i,0)
theorem OA(a b:Int)(n:Nat):(ak a b<|n+1).map (·.1)=(ak a b n).map (·.1)++[.name<|pN a b n]:=by
 unfold ak;rw[dL,aQ,aQ];rfl
theorem aj(a b:Int)(n:Nat):(ak a b n).length=n:=by
 unfold ak;rw[aD,cH]
theorem Tq.init(a b:Int)(n:Nat):Tq a b n 0 (ak a b n):=by
 unfold ak;refine#[by simp,λp hp=>?_,λi hi _=>?_,0,aG _,λp hp=>?_,?_]
 ·let⟨i,_,rfl⟩:=bF.mp hp;exact#[0,aG _,.nm<|mq a b i]
 ·rw[aF,oJ hi];rfl
 ·let⟨i,_,rfl⟩:=bF.mp hp;exact aG _
 ·rw[dU];have :∀m:Nat,((List.range m).map ((λx:Tm×Nat=>x.2) ∘ λi=>(Tm.name<|pN a b i,0))).sum=0:=λm=>by
   induction m with
   |zero=>rfl
   |succ m c=>rw[dL,aQ,List.sum_append,c];rfl
  rw[this];exact cO _
noncomputable def prs:List Tm->List (Tm×Tm)
 |t::u::r=>(t,u)::prs r
 |_=>[]
theorem ZS:∀(i:Nat)(ts:List Tm)(t u:Tm),ts[2*i]?=some t->ts[2*i+1]?=some u->(prs ts)[i]?=some (t,u)
 |0,t::u::r,_,_,h1,h2=>by cases h1;cases h2;rfl
 |0,[t],_,_,h1,h2=>by cases h2
 |_,[],_,_,h1,_=>by simp at h1
 |i+1,[t],_,_,h1,_=>by simp at h1
 |i+1,t::u::r,t',a,h1,h2=>ZS i r t' a h1 h2
theorem wK:∀ts:List Tm,(prs ts).length=ts.length/2
 |[]=>by simp[prs]
 |[_]=>by simp[prs]
 |t::u::r=>by
  show(prs r).length+1=(r.length+1+1)/2;rw[wK r];lia
theorem EE:∀ts:List Tm,yV (prs ts)=ts.take (2*(ts.length/2))
 |[]=>by simp[prs,yV]
 |[_]=>by simp[prs,yV]
 |t::u::r=>by
  show t::u::yV (prs r)=(t::u::r).take (2*((r.length+1+1)/2));rw[EE r,show 2*((r.length+1+1)/2)=2*(r.length/2)+1+1 by lia];rfl
theorem tZ:∀(k:Nat)(ts:List Tm),(prs ts).drop k=prs (ts.drop<|2*k)
 |0,_=>rfl
 |k+1,[]=>by rw[List.drop_nil];rfl
 |k+1,[_]=>by
  rw[show 2*(k+1)=2*k+1+1 by lia];show([]:List (Tm×Tm)).drop (k+1)=prs (([]:List Tm).drop (2*k+1));rw[List.drop_nil,List.drop_nil];rfl
 |k+1,t::u::r=>tZ k r
noncomputable def d9(ss:List (Tm×Tm)):mX:=((ss.take 6).take ((ss.take 6).length-1),(ss.take 6).getD ((ss.take 6).length-1) (.name "",.name ""))
noncomputable def NI:Nat->List (Tm×Tm)->List mX
 |0,_=>[]
 |n+1,ss=>d9 ss::NI n (ss.drop 6)
theorem vS:∀(n:Nat)(ss:List (Tm×Tm)),(NI n ss).length=n
 |0,_=>rfl
 |n+1,ss=>cQ (· +1)<|vS n<|ss.drop 6
theorem ZZ:∀(n i:Nat)(ss:List (Tm×Tm)),i<n->(NI n ss)[i]?=some (d9<|ss.drop<|6*i)
 |0,_,_,h=>by lia
 |n+1,0,ss,_=>rfl
 |n+1,i+1,ss,h=>by
  show(NI n<|ss.drop 6)[i]?=_;rw[ZZ n i _ (),List.drop_drop,show 6+6*i=6*(i+1) by lia]
theorem JF{α:Type}{l:List α}{d:α}(h:l≠[]):l.take (l.length-1)++[l.getD (l.length-1) d]=l:=by
 let hl:=List.length_pos_iff.mpr h;let e:l.getD (l.length-1) d=l[l.length-1]:=by rw[aU,aA ()];rfl
 rw[e,←aJ (),aR ()]
theorem FX:∀(n:Nat)(ss:List (Tm×Tm)),ss.length<=6*n->6*n<ss.length+6->gS (NI n ss)=yV ss
 |0,ss,h,_=>by rw[fM.mp<|show ss.length=0 by lia];rfl
 |n+1,ss,h1,h2=>by
  let nF:ss.take 6≠[]:=λz=>by
   have :=cQ List.length z;rw[bH,gX]at this;lia
  show NG (d9 ss)++gS (NI n<|ss.drop 6)=_;rw[FX n (ss.drop 6) (by rw[cZ];lia) (by
   rw[cZ];by_cases c:6<=ss.length
   ·lia
   ·have :n=0:=by lia
    subst this;lia)]
  show(yV (d9 ss).1++iN (d9 ss).2)++_=_;let e:yV (d9 ss).1++iN (d9 ss).2=yV (ss.take 6):=by
   rw[←congrArg yV (JF (d:=(Tm.name "",Tm.name "")) nF)]
   unfold yV;rw[fO];simp[d9]
  rw[e];unfold yV;rw[←fO,dR]
abbrev sT(ts:List Tm):List mX:=NI ((ts.length/2+5)/6)<|prs ts
noncomputable def S1(ys:List Str)(x:Str):List Nat:=if x∈ys then [0]else []
theorem fw1(ys:List Str):Fw 1 [] (S1 ys):=by
 calc#[λa=>rfl,λx a=>?_];unfold S1;split
 ·exact Iff.of_eq (cQ (a∈ ·)<|show [0]=cnt 1 [] (cnt 1 [] [0]) by decide)
 ·exact Iff.of_eq (cQ (a∈ ·)<|show []=cnt 1 [] (cnt 1 [] []) by decide)
theorem af(m:Nat)(ps:List (Nat×Nat))(S:Str->List Nat):val m ps S (.node "all" [])=List.range m:=by
 rw[val,xU,aH (),aO rfl]
theorem NP(m:Nat)(ps:List (Nat×Nat))(S:Str->List Nat):val m ps S (.node "none" [])=[]:=by
 rw[val,xU,aO rfl]
section
variable {a b:Int} {k:Nat}
theorem Tq.at(h:Tq a b n k L)(hi:i<n)(hc:i % 12<2\/36<=i):(L.map (·.1))[i]?=some (.name<|pN a b i):=by
 rw[aF,h.pl i hi hc];rfl
abbrev jh(a b:Int)(n:Nat):List Str:=[pN a b 0,pN a b 12,pN a b 24,pN a b<|n-1]
theorem SA(hi:i<n)(h42:n<=41)(h:i≠0/\i≠12/\i≠24/\i≠n-1):S1 (jh a b n) (pN a b i)=[]:=by
 refine aH λhm=>?_
 simp only[bJ,fC,or_false]at hm;rcases hm with e |e |e |e
 ·exact h.1<|ZV () () e
 ·exact h.2.1<|ZV () () e
 ·exact h.2.2.1<|ZV () () e
 ·exact h.2.2.2<|ZV () () e
theorem Tq.rules(h:Tq a b n k L)(h36:36<=n)(h41:n<=41):∀r∈sT (L.map (·.1)),Hr 1 [] (S1<|jh a b n) r:=by
 intro r hr;let hl:(L.map (·.1)).length=n:=by rw[aD];exact h.len
 let⟨i,hi,e⟩:=cS hr;let hb:=vS (((L.map (·.1)).length/2+5)/6) (prs (L.map (·.1)));let d:i<((L.map (·.1)).length/2+5)/6:=by rw[←hb];exact hi
 let f:(sT (L.map (·.1)))[i]?=some r:=by rw[aA hi,e]
 rw[ZZ _ i _ d]at f;let f:=bY f;rw[hl]at d;let iK:=wK (L.map (·.1));rw[hl]at iK;let g:∀x,val 1 [] (S1<|jh a b n) (.name x)=S1 (jh a b n) x:=λx=>by rw[val]
 by_cases c:i<3
 ·intro hp;let l:=ZS (6*i) _ _ _ (by rw[show 2*(6*i)=12*i by lia];calc h.at () ()) (by rw[show 2*(6*i)+1=12*i+1 by lia];calc h.at () ());let hm:(Tm.name<|pN a b<|12*i,Tm.name<|pN a b<|12*i+1)∈r.1:=by
   rw[←f];calc aP (i:=0) ?_;let j:(((prs (L.map (·.1))).drop (6*i)).take 6).length=6:=by
    rw[bH,cZ,iK];lia
   show((((prs (L.map (·.1))).drop (6*i)).take 6).take ((((prs (L.map (·.1))).drop (6*i)).take 6).length-1))[0]?=_;rw[j,eL (),eL (),List.getElem?_drop];exact l
  have :=hp _ hm 0 (by
   show 0∈val 1 [] _ (.name<|pN a b<|12*i);rw[g];unfold S1;rw[aO (by
    rcases(show i=0\/i=1\/i=2 by lia)with rfl |rfl |rfl<;>simp)]
   simp)
  let this:0∈val 1 [] _ (.name<|pN a b<|12*i+1):=this;rw[g,SA () h41 ()]at this;cases this
 ·let m:i=3:=by lia
  subst m;intro _ x hx;let j:(((prs (L.map (·.1))).drop (6*3)).take 6).length=n/2-18:=by
   rw[bH,cZ,iK];lia
  let o:(prs (L.map (·.1)))[n/2-1]?=some r.2:=by
   let lR:n/2-1<(prs (L.map (·.1))).length:=by rw[iK];lia
   rw[aA lR,←f];show _=some ((((prs (L.map (·.1))).drop (6*3)).take 6).getD ((((prs (L.map (·.1))).drop (6*3)).take 6).length-1) _);rw[j,aU,eL (),List.getElem?_drop,show 6*3+(n/2-18-1)=n/2-1 by lia,aA lR];rfl
  obtain⟨u,hu⟩:∃u,(L.map (·.1))[2*(n/2-1)+1]?=some u:=#[_,aA (by rw[hl];lia)]
  let p2:=ZS (n/2-1) _ _ _ (h.at (i:=2*(n/2-1)) () ()) hu;rw[o]at p2;rw[bY p2]at hx;let hx:x∈val 1 [] _ (.name<|pN a b<|2*(n/2-1)):=hx;rw[g,SA () h41 ()]at hx;cases hx
noncomputable def QQ(L:List (Tm×Nat))(n:Nat):Tm×Tm:=if n % 2=1 then((L.map (·.1)).getD (n-1) (.name ""),.node "none" [])else(.node "all" [],.node "none" [])
theorem Tq.say(h:Tq a b n k L)(h36:36<=n):QQ L n=(if n % 2=1 then(.name<|pN a b<|n-1,.node "none" [])else(.node "all" [],.node "none" [])):=by
 unfold QQ;split
 ·rw[aU,h.at () ()];rfl
 ·rfl
theorem Tq.vo(h:Tq a b n k L)(h36:36<=n)(h41:n<=41){bk:List mX}(hb:∀r∈bk,r∈sT (L.map (·.1))):Vo bk (QQ L n):=by
 calc#[1,[],S1<|jh a b n,fw1 _,λr hr=>h.rules h36 h41 r<|hb r hr,λz=>?_];rw[h.say h36]at z;let go:∀t,0∈val 1 [] (S1<|jh a b n) t->¬Hs 1 [] (S1<|jh a b n) (t,.node "none" []):=λt ht z=>by
  have :=z 0 ht;let this:0∈val 1 [] _ (.node "none" []):=this;rw[NP]at this;cases this
 split at z
 ·calc go _ ?_ z;rw[val];unfold S1;rw[aO (by simp)];simp
 ·calc go _ ?_ z;rw[af];simp
theorem Tq.fits(h:Tq a b n k L)(hk:k<=5)(h36:36<=n){bk:List mX}(hb:∀t∈gS bk,t∈L.map (·.1)):∀t∈gS bk++iN (QQ L n),fY 20 t/\wt t<=120:=by
 intro t ht;let go:∀t∈L.map (·.1),fY 20 t/\wt t<=120:=λt ht=>by
  let⟨p,hp,rfl⟩:=bF.mp ht;let⟨d,h1,h2⟩:=h.gt p hp;calc#[h2.fit.mono (),?_];let e:=h2.wt;have :2^d<=2^5:=Nat.pow_le_pow_right () ();lia
 let c:∀x:Str,x="all"\/x="none"->fY 20 (.node x [])/\wt (.node x [])<=120:=λx hx=>by
  calc#[?_,by rw[wt,lI];decide];unfold fY;calc#[?_,λt ht=>by cases ht];rcases hx with rfl |rfl
  ·exact .inr<|.inl #[rfl,rfl]
  ·exact .inl #[rfl,rfl]
 rcases cD.mp ht with ht |ht
 ·exact go t<|hb t ht
 ·rw[h.say h36]at ht;split at ht
  ·let ht:t∈[Tm.name<|pN a b<|n-1,.node "none" []]:=ht;rcases bJ.mp ht with rfl |ht
   ·refine go _<|aP<|h.at (i:=n-1) () ()
   ·rw[aV.mp ht];exact c _<|.inr rfl
  ·let ht:t∈[Tm.node "all" [],.node "none" []]:=ht;rcases bJ.mp ht with rfl |ht
   ·exact c _<|.inl rfl
   ·rw[aV.mp ht];exact c _<|.inr rfl
theorem og(h:Tq a b n k L):gS (sT (L.map (·.1)))=(L.map (·.1)).take (2*(n/2)):=by
 let hl:(L.map (·.1)).length=n:=by rw[aD];exact h.len
 let hp:=wK (L.map (·.1));rw[FX _ _ (by rw[hp];lia) (by rw[hp];lia),EE,hl]
theorem CK(h:Tq a b n k L)(h36:36<=n):gS ((sT (L.map (·.1))).drop 1)=((L.drop 12).take (2*((n-12)/2))).map (·.1):=by
 let hl:(L.map (·.1)).length=n:=by rw[aD];exact h.len
 let hp:=wK (L.map (·.1));obtain⟨m,hm⟩:∃m,((L.map (·.1)).length/2+5)/6=m+1:=#[((L.map (·.1)).length/2+5)/6-1,()]
 show gS ((NI (((L.map (·.1)).length/2+5)/6) (prs (L.map (·.1)))).drop 1)=_;rw[hm];show gS (NI m ((prs (L.map (·.1))).drop 6))=_;rw[FX _ _ (by rw[cZ,hp];lia) (by rw[cZ,hp];lia),tZ,EE,cZ,hl,sW,sX]
theorem Tq.few(h:Tq a b n k L)(hk:k<=5)(h36:36<=n)(h41:n<=41):(yQ (gS ((sT (L.map (·.1))).drop 1)++iN (QQ L n)) [.no]).length<=40:=by
 rw[CK h h36];let⟨q,f,g,j⟩:=h.sm;let m:q*(1+k-q)<=9:=by
  let h1:q*(1+k-q)<=q*(6-q):=Nat.mul_le_mul_left _ ();let h2:q*(6-q)<=9:=by
   have :∀q:Fin 6,q.val*(6-q.val)<=9:=by decide
   exact this #[q,()]
  lia
 let sub:∀(l:List (Tm×Nat))(i:Nat),((l.take i).map (·.2)).sum<=(l.map (·.2)).sum/\((l.drop i).map (·.2)).sum<=(l.map (·.2)).sum:=λl i=>by
  let e:(l.map (·.2)).sum=((l.take i).map (·.2)).sum+((l.drop i).map (·.2)).sum:=by
   rw[←List.sum_append,←aQ,dR]
  lia
 let s1:=(sub (L.drop 12)<|2*((n-12)/2)).1;let s2:=(sub L 12).2;let o:((L.drop 12).take (2*((n-12)/2))).length<=2*((n-12)/2):=by rw[bH];lia
 let h1:=KB ((L.drop 12).take (2*((n-12)/2))) [.no] λp hp=>by
  let⟨d,r,c⟩:=h.gt p<|fG<|eS hp;exact#[d,(),c]
 rw[uD];generalize yQ (((L.drop 12).take (2*((n-12)/2))).map (·.1)) [.no]=R at h1;rw[h.say h36];let h1:R.length<=1+_+_:=h1;let bn:∀rows,(dG (.node "none" []) rows).1=rows:=λrows=>by rw[dG,aO rfl]
 let ba:∀rows,(dG (.node "all" []) rows).1=rows:=λrows=>by rw[dG,aH (),aO rfl]
 split
 ·show(dG (.node "none" []) (dG (.name<|pN a b<|n-1) R).1).1.length<=40;rw[bn,dG];have :=YH R<|.nm<|pN a b<|n-1;lia
 ·show(dG (.node "none" []) (dG (.node "all" []) R).1).1.length<=40;rw[bn,ba];lia
end
structure Ov(H J:Hp)(lg:Addr)(us:List V):Prop where
 eq:H=upd J lg (.lst us)
 no:J lg=none
theorem Ov.at(h:Ov H J lg us):H lg=some (.lst us):=by rw[h.eq];exact zA
theorem Ov.sub(h:Ov H J lg us):aZ J H:=by rw[h.eq];exact zB h.no _
theorem Ov.ne(h:Ov H J lg us)(hp:H p=none):p≠lg:=λz=>by
 rw[z,h.at]at hp;cases hp
theorem Ov.free(h:Ov H J lg us)(hp:H p=none):J p=none:=h.sub.free hp
theorem Ov.new(h:Ov H J lg us)(hp:H p=none)(o:HO):Ov (upd H p o) (upd J p o) lg us:=by
 let nF:=h.ne hp;calc#[?_,by rw[zG<|bX nF];calc h.no];rw[h.eq]
 funext b
 by_cases h1:b=p
 ·subst h1;rw[zA,zG nF,zA]
 ·rw[zG h1];by_cases h2:b=lg
  ·subst h2;rw[zA,zA]
  ·rw[zG h2,zG h2,zG h1]
theorem Ov.set(h:Ov H J lg us)(vs:List V):Ov (upd H lg<|.lst vs) J lg vs:=#[by rw[h.eq,QG],h.no]
theorem Ov.mk0(h:H lg=none):Ov (upd H lg<|.lst []) H lg []:=#[rfl,h]
theorem Ov.ext(h:Ov H J lg us)(e:aZ H H'):∃J',Ov H' J' lg us/\aZ J J':=by
 refine#[λb=>if b=lg then none else H' b,#[?_,aO rfl],λb o hb=>?_]
 ·funext b
  by_cases hb:b=lg
  ·subst hb;rw[zA];exact e _ _ h.at
  ·rw[zG hb];exact(aH hb).symm
 ·let nF:b≠lg:=λz=>by rw[z,h.no]at hb;cases hb
  show(if b=lg then none else H' b)=some o;rw[aH nF];exact e _ _<|h.sub _ _ hb
abbrev s_D:Stmt:=top 78
theorem sc_D:bP ["t","way","other"] ["t","way","other"] (zF s_D):=by rfl'
abbrev s_U:Stmt:=top 79
theorem sc_U:bP ["terms","sayings","k","book","some"] ["terms"] (zF s_U):=by rfl'
abbrev s_E:Stmt:=top 80
theorem sc_E:bP ["book","saying","kinds","answer","e"] ["book","saying"] (zF s_E):=by rfl'
abbrev s_B:Stmt:=top 81
theorem sc_B:bP ["found_v","book","saying"] ["found_v","book","saying"] (zF s_B):=by rfl'
theorem d6(xs:List V)(k:Nat):uQ xs (some ((6*k:Nat):Int)) (some ((6*k+6:Nat):Int))=(xs.drop<|6*k).take 6:=by
 unfold uQ;rw[HT.sIx_nat,HT.sIx_nat];by_cases c:6*k<=xs.length
 ·rw[Nat.min_eq_left c,List.take_eq_take_iff,cZ];lia
 ·rw[Nat.min_eq_right (a:=6*k) (),List.drop_of_length_le (i:=xs.length)<|aG _,List.drop_of_length_le (),List.take_nil,List.take_nil]
theorem uB(xs:List V)(h:1<=xs.length):uQ xs (some 1) none=xs.drop 1:=by
 unfold uQ;rw[show(1:Int)=((1:Nat):Int)from rfl,HT.sIx_nat,HT.sIx_none,Nat.min_eq_left h,aR (by rw[cZ];calc aG _)]
theorem VY{α:Type}{xs:List α}{v:α}(h:xs[xs.length-1]?=some v):pO xs (-1)=some v:=by
 let hl:1<=xs.length:=by have :=(aC.mp h).1;lia
 let e:=JF (l:=xs) (d:=v) (λz=>by rw[z]at hl;cases hl);rw[aU,h,Option.getD_some]at e;rw[←e];exact VZ _ _
theorem wX{H:Hp}:∀(k:Nat){ds:List Dt}{us:List V},bK H ds us->bK H (ds.take k) (us.take k)/\bK H (ds.drop k) (us.drop k)
 |0,_,_,h=>#[rfl,h]
 |k+1,[],us,h=>by cases (show us=[]from h);exact#[rfl,rfl]
 |k+1,d::ds,us,h=>by
  let⟨u,us',rfl,h1,h2⟩:=h;let⟨g1,g2⟩:=wX k h2;exact#[#[u,_,rfl,h1,g1],g2]
theorem BU{H:Hp}{d:Dt}{x:V}(h:eE H d x):∀(j:Nat){ds:List Dt}{us:List V},bK H ds us->bK H (ds.set j d) (us.set j x)
 |_,[],us,g=>by cases (show us=[]from g);exact rfl
 |0,_::ds,us,g=>by
  let⟨u,us',rfl,h1,h2⟩:=g;exact#[x,_,rfl,h,h2]
 |j+1,e::ds,us,g=>by
  let⟨u,us',rfl,h1,h2⟩:=g;exact#[u,_,rfl,h1,BU h j h2]
theorem Ov.tups(h:Ov H J lg us):cX H J:=λb xs hb=>by
 let nF:b≠lg:=λz=>by rw[z,h.at]at hb;cases hb
 rw[h.eq,zG nF]at hb;exact hb
theorem oB.mk2{t1 t2:Tm}{v1 v2:V}(h1:hU H t1 v1)(h2:hU H t2 v2)(hp:H p=some (.tup [v1,v2])):oB H (t1,t2) (.ref p):=#[p,_,rfl,hp,_,_,rfl,h1,_,_,rfl,h2,rfl]
theorem WS.mk2{ps:List (Tm×Tm)}{l:Addr}(hl:H l=some (.lst us))(h:lS H ps us)(hs:oB H s v)(hp:H p=some (.tup [.ref l,v])):WS H (ps,s) (.ref p):=#[p,_,rfl,hp,_,_,rfl,#[l,us,rfl,hl,h],_,_,rfl,hs,rfl]
theorem OB{t:Tm}(h:hU H t v)(hp:H p=some (.tup [.str "not",v])):hU H (.node "not" [t]) (.ref p):=#[p,_,rfl,hp,_,_,rfl,rfl,_,_,rfl,h,rfl]
noncomputable def al(way:Int)(t o:Tm):Tm:=if way=0 then .node "not" [t]else if way=1 then .node "both" [t,.node "not" [t]]else o
inductive spTd (vs:List V) (H:Hp) (Q:VK) (E:XK):Prop
 |mk (v u:V) (way:Int) (t o:Tm) (_:vs=[v,.int way,u]) (_:hU H t v) (_:hU H o u) (_:∀x H',aZ H H'->hU H' (al way t o) x->Q x H')
inductive spBk (vs:List V) (H:Hp) (Q:VK) (E:XK):Prop
 |mk (ta:Addr) (us:List V) (ts:List Tm) (_:vs=[.ref ta]) (_:H ta=some (.lst us)) (_:fF H ts us) (_:ts.length<=41) (_:∀p ws H',aZ H H'->H' p=some (.lst ws)->iJ H' (sT ts) ws->Q (.ref p) H')
theorem EZ(F:fR K "_law_turned" "_law_turned" s_D f fd):cW P w K mg base fS 1 f fd ["t","way","other"] spTd:=by
 refine F.okz sc_D λeP A outer s H vs Q E hr h=>?_
 let⟨v,u,way,t,o,rfl,b,hu,q⟩:=h;unfold al at q;calc#[_,have nd:=sc_D.nd;#[],?_];refine zD λN a=>?_
 dsimp![];calc#[rfl,?_];by_cases c:way=0
 ·rw[aO c]at q⊢;exact#[zI (),λp hp=>q _ _ (zB hp _)<|OB (eE.same (zB hp _) b) zA]
 rw[aH c]at q⊢;calc a _ _ ?_;clear a;refine zD λN a=>?_
 dsimp![];calc#[rfl,?_];by_cases c:way=1
 ·rw[aO c]at q⊢;calc#[zI (),λp hp=>#[zI (),λp2 mK=>?_]];let s1:=zB hp<|.tup [.str "not",v];let s2:=zB mK<|.tup [.str "both",v,.ref p];exact q _ _ (s1.trans s2) #[p2,_,rfl,zA,_,_,rfl,rfl,_,_,rfl,eE.same (s1.trans s2) b,_,_,rfl,eE.same s2<|OB (eE.same s1 b) zA,rfl]
 rw[aH c]at q⊢;calc a _ _ ?_;dsimp![];exact q _ _ (aZ.refl _) hu
theorem cy(bi:Bi mg)(F:fR K "_law_book" "_law_book" s_U f fd):cW P w K mg base fS 1 f fd ["terms"] spBk:=by
 refine F.okz sc_U λeP A outer s H vs Q E hr h=>?_
 let⟨ta,us,ts,rfl,I,u,h41,q⟩:=h;let hul:us.length=ts.length:=xM u;let iK:=wK ts;calc#[_,have nd:=sc_U.nd;zC #[]<|zC (yC bO rfl #[] #[]<|zH<|xE<|qZ cM dN dM xX #[]<|zE (jL<|zE (zV yB #[] #[])<|zE (zV yB #[] #[]) zJ) zJ)<|zC #[]<|zC (yC bO rfl #[] #[]<|zC (xI 4 nd<|jE ZP #[] (jQ #[])<|jQ #[])<|zH<|xE<|qZ cM dN dM xX #[]<|zE (jL<|zE (jE ZP #[] qM<|jQ #[])<|zE (zV yB #[] #[]) zJ) zJ) #[],?_];refine zD λN k=>?_
 dsimp![];calc#[zI (),λx T=>k _ _ ?_];clear k;let e:=Ov.mk0 T;generalize upd H x (.lst [])=G1 at e⊢;refine zP (λσ G=>∃(J:Hp)(ws:List V)(o:Option V),Ov G J x ws/\aZ H J/\lS J (prs ts) ws/\σ=[some<|V.ref ta,some<|V.ref x,o,none,none]) (λN k=>?_) λσ G h=>?_
 ·dsimp![];calc#[us.length,.inl #[_,dB.of<|e.sub _ _ I,rfl],#[(),()],(),(),?_];refine qJ (n:=((us.length:Int)/2).toNat) (λi σ G=>∃(J:Hp)(ws:List V)(o:Option V),Ov G J x ws/\aZ H J/\lS J ((prs ts).take i) ws/\σ=[some<|V.ref ta,some<|V.ref x,o,none,none]) #[H,[],_,e,aZ.refl _,rfl,rfl] (λi σ G hi h M U=>?_) λσ G h=>?_
  ·let⟨J,ws,o,a,sJ,b,rfl⟩:=h;dsimp![];obtain⟨t1,g1⟩:∃t,ts[2*i]?=some t:=#[_,aA ()]
   obtain⟨t2,g2⟩:∃t,ts[2*i+1]?=some t:=#[_,aA ()]
   let⟨X,a1,b1⟩:=bK.get (d:=tL t1) u (by rw[aF,g1];rfl);let⟨Y,a2,b2⟩:=bK.get (d:=tL t2) u (by rw[aF,g2];rfl);let kt:=a.sub _ _<|sJ _ _ I;let Z:ws.length<=i:=by
    have :=b.length;rw[bH]at this;lia
   calc#[.inl #[rfl,_,dB.of a.at],.inl #[(),()],_,dB.of kt,X,kD () (by rw[show(2*(0+(i:Int))).toNat=2*i by lia];calc a1),.inl #[(),()],_,dB.of kt,Y,kD () (by rw[show(2*(0+(i:Int))+1).toNat=2*i+1 by lia];calc a2),zI (),λp hp=>?_];let g:=a.new hp<|.tup [X,Y];let s2:=zB (a.free hp)<|.tup [X,Y];refine#[_,g.at,xW (),U _ _ #[_,_,_,g.set _,sJ.trans s2,lS.snoc (ZS i ts t1 t2 g1 g2) (bK.same s2 b)<|oB.mk2 (eE.same (sJ.trans s2) b1) (eE.same (sJ.trans s2) b2) zA,rfl]]
  ·let⟨J,ws,o,a,sJ,b,rfl⟩:=h;rw[aR ()]at b;exact k _ _ #[J,ws,_,a,sJ,b,rfl]
 let⟨J,ws,o,a,sJ,b,rfl⟩:=h;let Z:=b.length;let sG:aZ H G:=sJ.trans a.sub;let kb:=a.at;replace b:lS G (prs ts) ws:=bK.same a.sub b;clear a sJ;refine zD λN k=>?_
 dsimp![];calc#[zI (),λC hpk=>k _ _ ?_];clear k;let e:=Ov.mk0 hpk;generalize upd G C (.lst [])=G2 at e⊢;refine zP (λσ r=>∃(J:Hp)(ks:List V)(o D:Option V),Ov r J C ks/\aZ G J/\iJ J (sT ts) ks/\σ=[some<|V.ref ta,some<|V.ref x,o,some<|V.ref C,D]) (λN k=>?_) λσ r h=>?_
 ·dsimp![];calc#[ws.length,.inl #[_,dB.of<|e.sub _ _ kb,rfl],#[(),()],(),(),?_];let en:(((ws.length:Int)+5)/6).toNat=(ts.length/2+5)/6:=by lia
  let bl:=vS ((ts.length/2+5)/6)<|prs ts;refine qJ (n:=(((ws.length:Int)+5)/6).toNat) (λi σ r=>∃(J:Hp)(ks:List V)(o D:Option V),Ov r J C ks/\aZ G J/\iJ J ((sT ts).take i) ks/\σ=[some<|V.ref ta,some<|V.ref x,o,some<|V.ref C,D]) #[G,[],_,_,e,aZ.refl _,rfl,rfl] (λi σ r hi h M U=>?_) λσ r h=>?_
  ·let⟨J,ks,o,D,a,sJ,c,rfl⟩:=h;let hkl:ks.length<=i:=by
    have :=c.length;rw[bH]at this;lia
   refine zD λN k=>?_
   dsimp![];calc#[.inl #[(),()],.inl #[(),()],_,dB.of<|a.sub _ _<|sJ _ _ kb,λp hp=>?_];rw[show(6:Int)*(0+(i:Int))=((6*i:Nat):Int) by lia,show((6*i:Nat):Int)+6=((6*i+6:Nat):Int) by lia,d6];calc k _ _ ?_;clear k;let⟨m,_⟩:=wX 6 (wX (6*i) b).2;rw[←sX,←sW]at m;let z:=ZZ ((ts.length/2+5)/6) i (prs ts) ();let nF:1<=(((prs ts).drop (6*i)).take 6).length:=by rw[bH,cZ];lia
   let j:=a.new hp<|.lst<|(ws.drop<|6*i).take 6;let s1:=zB (a.free hp)<|.lst<|(ws.drop<|6*i).take 6;replace m:=bK.same (sJ.trans s1) m;replace c:iJ _ _ ks:=bK.same s1 c;replace sJ:=sJ.trans s1;let kp:upd J p (.lst<|(ws.drop<|6*i).take 6) p=some (.lst<|(ws.drop<|6*i).take 6):=zA;generalize upd r p (.lst<|(ws.drop<|6*i).take 6)=G3 at j⊢;generalize upd J p (.lst<|(ws.drop<|6*i).take 6)=J3 at j m c sJ kp;unfold d9 at z;generalize ((prs ts).drop (6*i)).take 6=B at m nF z;generalize (ws.drop<|6*i).take 6=W at m kp;let hW:W.length=B.length:=xM m;clear s1 a hp;dsimp![];calc#[.inl #[rfl,_,dB.of j.at],_,dB.of<|j.sub _ _ kp,λl hl=>?_];rw[show(-1:Int)= -((1:Nat):Int)from rfl,VM W 1 (aG _) ()];obtain⟨v,hv⟩:∃v,W[W.length-1]?=some v:=#[_,aA ()]
   let⟨y,L,hy2⟩:=xJ m hv;let g:=j.new hl<|.lst<|W.take<|W.length-1;let s2:=zB (j.free hl)<|.lst<|W.take<|W.length-1;calc#[_,dB.of<|g.sub _ _<|s2 _ _ kp,v,VY hv,zI (),λp4 O=>?_];let R:=g.new O<|.tup [.ref l,v];let S:=zB (g.free O)<|.tup [.ref l,v];let c2:=(wX (W.length-1) m).1;rw[←sW]at c2;rw[hW]at L;calc#[_,R.at,xW (),U _ _ #[_,_,_,_,R.set _,sJ.trans<|s2.trans S,iJ.snoc z (bK.same (s2.trans S) c) ?_,rfl]];rw[aU,L];exact WS.mk2 (S _ _ zA) (hW▸bK.same (s2.trans S) c2) (eE.same (s2.trans S) hy2) zA
  ·let⟨J,ks,o,D,a,sJ,c,rfl⟩:=h;rw[aR (by show(NI _ _).length<=_;lia)]at c;exact k _ _ #[J,ks,_,_,a,sJ,c,rfl]
 let⟨J,ks,o,D,a,sJ,c,rfl⟩:=h;dsimp![];exact q C ks r (sG.trans<|sJ.trans a.sub) a.at<|bK.same a.sub c
structure Errs(K:W.Frag)(mg:Str->Option Value)(CE CU C1 C2 C3 C4 C5:Addr):Prop where
 ce:mg "ClashError"=some (.ref CE)
 cb:tG K CE (.type "BaseException")=some true
 ct:tG K CU (.ref CE)=some true
 xc:GB K CU
 ve:mg "ValueError"=none
 g0:Gc mg "TooMuch" (.ref CU)
 g1:Gc mg "NoText" (.ref C1)
 g2:Gc mg "NoName" (.ref C2)
 g3:Gc mg "NoRule" (.ref C3)
 g4:Gc mg "NoRow" (.ref C4)
 g5:Gc mg "NoMiddle" (.ref C5)
 kv:W.kitOne K (.ref CU) (.type "ValueError")=some true
 k0:W.kitOne K (.ref CU) (.ref CU)=some true
 k1:W.kitOne K (.ref CU) (.ref C1)=some false
 k2:W.kitOne K (.ref CU) (.ref C2)=some false
 k3:W.kitOne K (.ref CU) (.ref C3)=some false
 k4:W.kitOne K (.ref CU) (.ref C4)=some false
 k5:W.kitOne K (.ref CU) (.ref C5)=some false
def ND(H:Hp)(p:Addr)(b:List mX)(s:Tm×Tm):Prop:=∃(l pa wa ca la:Addr)(n m:Nat)(ps:List (Nat×Nat))(T:List Ro)(us:List V)(S:Str->List Nat),H p=some (.tup [.ref l,.ref pa])/\H l=some (.lst [])/\H pa=some (.tup [.str "open",.ref wa,.int n])/\oy H (tS b s) b s wa ca la n m ps T us S
theorem ND.same{b:List mX}(e:aZ H H')(h:ND H p b s):ND H' p b s:=by
 let⟨l,pa,wa,ca,la,n,m,ps,T,us,S,h1,h2,a,c⟩:=h;exact#[l,pa,wa,ca,la,n,m,ps,T,us,S,e _ _ h1,e _ _ h2,e _ _ a,c.same e]
abbrev dc:List V:=[.bl true,.bl true,.bl false,.bl false,.bl false,.bl false,.bl false]
inductive spAw (vs:List V) (H:Hp) (Q:VK) (E:XK):Prop
 |mk (ba:Addr) (v:V) (bs:List V) (b:List mX) (s:Tm×Tm) (_:vs=[.ref ba,v]) (_:H ba=some (.lst bs)) (_:iJ H b bs) (_:oB H s v) (_:b.length<=20) (_:(∀r∈b,r.1.length<=5)) (_:(∀t∈gS b++iN s,fY 20 t/\wt t<=120)) (_:Vo b s) (_:(40<(tS b s).length->∀p l H',aZ H H'->H' p=some (.tup [.ref l,.non])->H' l=some (.lst dc)->Q (.ref p) H')) (_:((tS b s).length<=40->∀p H',aZ H H'->ND H' p b s->Q (.ref p) H'))
inductive spIo (vs:List V) (H:Hp) (Q:VK) (E:XK):Prop
 |mk (p ba:Addr) (v:V) (bs:List V) (b:List mX) (s:Tm×Tm) (_:vs=[.ref p,.ref ba,v]) (_:H ba=some (.lst bs)) (_:iJ H b bs) (_:oB H s v) (_:b.length<=20) (_:(∀r∈b,r.1.length<=5)) (_:(∀t∈gS b++iN s,fY 20 t/\wt t<=120)) (_:ND H p b s) (_:∀H',aZ H H'->Q (.bl true) H')
section
variable {CE C1 C2 C3 C4 C5:Addr}
theorem LZ(Er:Errs K mg CE CU C1 C2 C3 C4 C5)(bi:Bi mg)(hx_judge:oE P w K mg base 49 "judge" ["book","saying"] (spJu K CU))(F:fR K "_law_answer" "_law_answer" s_E f fd):cW P w K mg base fS 50 f fd ["book","saying"] spAw:=by
 let m_ClashError:=Er.ce;let xb_ClashError:=Er.cb;let bz_ValueError:=Er.ve;let g_TooMuch:=Er.g0;let g_NoText:=Er.g1;let g_NoName:=Er.g2;let g_NoRule:=Er.g3;let g_NoRow:=Er.g4;let g_NoMiddle:=Er.g5;refine F.okz sc_E λeP A outer s H vs Q E hr h=>?_
 let⟨ba,v,bs,b,O,rfl,o,r,hs,t,iK,x,y,R,q⟩:=h;calc#[_,have nd:=sc_E.nd;zC #[]<|zC #[]<|zC (ly (i:=4) VS nd rfl rfl rfl m_ClashError xb_ClashError rfl (lw (i:=3) rfl hx_judge hr.m rfl nd rfl (Or.inl rfl) #[]) λ_=>(zC (xI 2 nd<|EJ<|zE (zM (jO K rfl) rfl bi.isinstance zL<|zE #[]<|zE (kY g_TooMuch rfl) zJ)<|zE (zM (jO K rfl) rfl bi.isinstance zL<|zE #[]<|zE (qX bz_ValueError JA rfl) zJ)<|zE (zM (jO K rfl) rfl bi.isinstance zL<|zE #[]<|zE (kY g_NoText rfl) zJ)<|zE (zM (jO K rfl) rfl bi.isinstance zL<|zE #[]<|zE (kY g_NoRule rfl) zJ) zJ)<|zH<|xI 2 nd<|jZ ET #[]<|EJ<|zE (zM (jO K rfl) rfl bi.isinstance zL<|zE #[]<|zE (kY g_NoRow rfl) zJ)<|zE (zM (jO K rfl) rfl bi.isinstance zL<|zE #[]<|zE (kY g_NoMiddle rfl) zJ)<|zE (zM (jO K rfl) rfl bi.isinstance zL<|zE #[]<|zE (kY g_NoName rfl) zJ) zJ)) #[],?_];refine zD λN c=>?_
 dsimp![];calc#[zI (),λk hk=>c _ _ ?_];clear c;let s1:=zB hk<|.lst [];let k1:upd H k (.lst []) k=some (.lst []):=zA;generalize upd H k (.lst [])=H1 at s1 k1⊢;refine zD λN c=>?_
 dsimp![];calc c _ _ ?_;clear c;refine zD λN c=>?_
 let good:∀{J:Hp}{z:Addr}{u:V},(∀(p:Addr) H',aZ J H'->H' p=some (.tup [.ref z,u])->Q (.ref p) H')->N [some<|.ref ba,some v,some<|.ref z,some u,none] J:=λ{J z u} hq=>c _ _ (by
  dsimp![];calc#[zI (),λp hp=>hq p _ (zB hp _) zA])
 clear c;dsimp![tTry,tXIf,f7,lv];refine#[ba,v,bs,b,O,rfl,s1 _ _ o,bK.same s1 r,eE.same s1 hs,t,iK,x,y,λB H2 s2=>?_,λB pa wa ca la n m ps T us S H2 s2 kp U=>?_]
 ·calc#[CU,rfl,Er.ct,λd C=>?_];let L:=zB C<|xO d CU;let g:upd H2 d (xO d CU) d=some (xO d CU):=zA;generalize upd H2 d (xO d CU)=M at L g⊢;calc#[CU,g,Er.xc,_,.inl #[_,rfl,rfl],_,Er.k0,CU,g,Er.xc,_,.inr #[_,rfl,rfl],_,Er.kv,CU,g,Er.xc,_,.inl #[_,rfl,rfl],_,Er.k1,CU,g,Er.xc,_,.inl #[_,rfl,rfl],_,Er.k3,zI (),λD lX=>?_];let e:=zB lX<|.lst [V.bl true,V.bl true,V.bl false,V.bl false];let j:upd M D (.lst [V.bl true,V.bl true,V.bl false,V.bl false]) D=some (.lst [V.bl true,V.bl true,V.bl false,V.bl false]):=zA;let a:=e _ _ g;generalize upd M D (.lst [V.bl true,V.bl true,V.bl false,V.bl false])=X at e j a⊢;calc#[CU,a,Er.xc,_,.inl #[_,rfl,rfl],_,Er.k4,CU,a,Er.xc,_,.inl #[_,rfl,rfl],_,Er.k5,CU,a,Er.xc,_,.inl #[_,rfl,rfl],_,Er.k2,zI (),λp2 mK=>?_];let l:=zB mK<|.lst [V.bl false,V.bl false,V.bl false];calc#[_,l _ _ j,_,zA,zI (),λW G=>?_];let I:=zB G<|.lst dc;exact good λp H' sH h1=>R B p W H' ((s1.trans s2).trans (((L.trans e).trans (l.trans I)).trans sH)) h1<|sH _ _ zA
 ·exact good λp H' sH h1=>q B p H' ((s1.trans s2).trans sH) #[k,pa,wa,ca,la,n,m,ps,T,us,S,h1,(s2.trans sH) _ _ k1,sH _ _ kp,U.same sH]
theorem FC(bi:Bi mg)(h_ab:gD P w K mg base 25 "_law_open" ["answer","book","saying"] spOn)(F:fR K "_law_is_open" "_law_is_open" s_B f fd):cW P w K mg base fS 26 f fd ["found_v","book","saying"] spIo:=by
 refine F.okz sc_B λeP A outer s H vs Q E hr h=>?_
 let⟨p,ba,v,bs,b,i,rfl,a,c,hs,e,iK,g,⟨l,pa,wa,ca,la,n,m,ps,T,us,S,h1,h2,k,o⟩,q⟩:=h;calc#[_,have nd:=sc_B.nd;zC (yD (PW.pt<|qL (yG (EO hr.units) #[] #[]<|yP _)<|qL (jK<|xL<|zM (xC (T:="tuple")) rfl bi.isinstance zL<|zE #[]<|zE (qX bi.tuple vI rfl) zJ) #[]) #[] zO) #[],?_];refine zD λN j=>?_
 dsimp![lu];calc#[_,cV.of h1,_,gG,zI (),λp2 mK=>?_];let s2:=zB mK<|.lst [];calc#[1,.lst [],#[l,[],rfl,s2 _ _ h2,rfl],.lst [],#[p2,[],rfl,zA,rfl],#[(),λd hd=>by cases hd],(),?_];rw[yT,aH ()];let k1:=s2 _ _ h1;let k3:=s2 _ _ k;calc#[_,cV.of k1,_,mV,_,.tup k3,true,xQ,?_];rw[aH ()];calc#[_,cV.of k1,_,mV,_,.inr #[_,cV.of k3,rfl],rfl,?_];rw[aH λz=>z rfl];calc#[_,cV.of k1,_,mV,pa,rfl,_,cV.of k3,_,gG,rfl,?_];rw[aH λz=>z rfl];calc j _ _ ?_;clear j;dsimp![];exact#[_,cV.of k1,_,mV,pa,ba,wa,ca,la,v,bs,us,(gS b++iN i).flatMap oV,b,i,n,m,ps,T,S,rfl,k3,s2 _ _ a,bK.same s2 c,eE.same s2 hs,#[e,iK,λt ht=>#[g t ht,λx hx=>dP.mpr #[t,ht,hx]]],o.same s2,λr u=>q r<|s2.trans u]
end
abbrev a9:Stmt:=top 82
theorem sc_C:bP ["script","letters","first","terms","k","cell","at","book","saying","found_v"] ["script"] (zF a9):=by rfl'
theorem VT(H:Hp):∀bs:List Bool,bK H (bs.map Dt.bl)<|bs.map V.bl
 |[]=>rfl
 |_::bs=>#[_,_,rfl,rfl,VT H bs]
inductive HE (K:W.Frag) (vs:List V) (H:Hp) (Q:VK) (E:XK):Prop
 |mk (a:Addr) (ns:List Int) (_:vs=[.ref a]) (_:dB K H a (ns.map V.int)) (_:ns.length<=63) (_:∀H',Q (.bl true) H')
theorem ml(bi:Bi mg)(h_ag:gD P w K mg base 1 "_law_draw" ["script","k"] (spDr K))(h_D:gD P w K mg base 1 "_law_turned" ["t","way","other"] spTd)(h_U:gD P w K mg base 1 "_law_book" ["terms"] spBk)(h_E:gD P w K mg base 50 "_law_answer" ["book","saying"] spAw)(h_s:gD P w K mg base 24 "_law_all_rows" ["book","saying"] j7)(h_B:gD P w K mg base 26 "_law_is_open" ["found_v","book","saying"] spIo)(F:fR K "law" "law" a9 f fd):cW P w K mg base fS 65 f fd ["script"] (HE K):=by
 refine F.okz sc_C λeP A outer s H vs Q E hr h=>?_
 let⟨a,ns,rfl,hS,hl,q⟩:=h;calc#[_,have nd:=sc_C.nd;zC #[]<|zC #[]<|zC #[]<|zC (yC bO rfl #[] #[]<|zH<|xE<|qZ cM dN dM xX #[]<|zE (jL<|zE uH<|zE (jZ EV (zV SZ #[] #[])<|zV SZ #[] #[]) zJ) zJ)<|zC (yC bO rfl #[] #[]<|zC #[]<|zC #[]<|zH<|yD #[] (zH<|ED (zQ h_D hr.m rfl<|zE (zV yB #[] #[])<|zE #[]<|zE (zV yB #[] #[]) zJ)<|EH #[] #[] qG) zO)<|zC #[]<|zC #[]<|zC (yD #[] (zH<|xI 8 nd<|jL<|zE (zV yB #[] #[]) #[]) zO)<|zC #[]<|zC (yD #[] (zH<|yD (yG (EO hr.units) #[] (jZ ET #[]<|jZ YR #[] zW)<|yP _) #[] zO) #[])<|zC (xI 9 nd<|zQ h_E hr.m rfl<|zE (jE ZP #[] (jQ zW) qM) #[])<|zH<|zS<|zQ h_B hr.m rfl<|zE #[]<|zE (jE ZP #[] (jQ zW) qM) #[],?_];refine zD λN b=>?_
 dsimp![];calc b _ _ ?_;clear b;refine zD λN b=>?_
 dsimp![];calc#[a,ns,0,rfl,hS,hl,(),λz hz=>b _ _ ?_];clear b;refine zD λN b=>?_
 dsimp![];calc#[zI (),λpt hpt=>b _ _ ?_];clear b;let ov0:=Ov.mk0 hpt;generalize upd H pt (.lst [])=G1 at ov0⊢;obtain⟨n,hn,I,h41⟩:∃n:Nat,36+z % 6=(n:Int)/\36<=n/\n<=41:=#[(36+z % 6).toNat,(),(),()]
 refine zP (λσ G=>∃(J:Hp)(us:List V)(o:Option V),Ov G J pt us/\aZ H J/\fF J ((ak (z/6) (z/156) n).map (·.1)) us/\σ=[some<|V.ref a,some<|V.str "abcdefghijklmnopqrstuvwxyz",some<|V.int z,some<|V.ref pt,o,none,none,none,none,none]) (λN b=>?_) λσ G h=>?_
 ·dsimp![];rw[hn];calc#[(),(),(),?_];refine qJ (n:=(n:Int).toNat) (λi σ G=>∃(J:Hp)(us:List V)(o:Option V),Ov G J pt us/\aZ H J/\fF J ((ak (z/6) (z/156) i).map (·.1)) us/\σ=[some<|V.ref a,some<|V.str "abcdefghijklmnopqrstuvwxyz",some<|V.int z,some<|V.ref pt,o,none,none,none,none,none]) #[H,[],_,ov0,aZ.refl _,rfl,rfl] (λi σ G hi h M hM=>?_) λσ G h=>?_
  ·let⟨J,us,o,g,sJ,iO,rfl⟩:=h;let hul:us.length=i:=by have :=xM iO;rwa[aD,aj]at this
   dsimp![];calc#[.inl #[rfl,_,dB.of g.at],#[(),()],(),zI (),_,by rw[GQ];exact JQ _,#[(),()],#[(),()],(),zI (),_,by rw[GQ];exact JQ _,(by show 1+1<=sizeLine;decide),zI (),λp hp=>?_];let ov2:=g.new hp<|.tup [V.str "name",V.str<|pN (z/6) (z/156) i];let s2:=zB (g.free hp)<|.tup [V.str "name",V.str<|pN (z/6) (z/156) i];calc#[us,ov2.at,xW (),hM _ _ #[_,_,_,ov2.set _,sJ.trans s2,?_,rfl]];rw[OA];exact fF.append (bK.same s2 iO)<|fF.one #[p,_,rfl,zA,_,_,rfl,rfl,_,_,rfl,rfl,rfl]
  ·let⟨J,us,o,g,sJ,iO,rfl⟩:=h;exact b _ _ #[J,us,_,g,sJ,iO,rfl]
 let⟨J,us,o,g,sJ,iO,rfl⟩:=h;let tq0:=Tq.init (z/6) (z/156) n;refine zP (λσ G=>∃(J:Hp)(us:List V)(L:List (Tm×Nat))(R S T:Option V),Ov G J pt us/\aZ H J/\fF J (L.map (·.1)) us/\Tq (z/6) (z/156) n 5 L/\σ=[some<|V.ref a,some<|V.str "abcdefghijklmnopqrstuvwxyz",some<|V.int z,some<|V.ref pt,R,S,T,none,none,none]) (λN b=>?_) λσ G h=>?_
 ·dsimp![];calc#[(),(),(),(),?_];calc qJ (n:=(6-1:Int).toNat) (λi σ G=>∃(J:Hp)(us:List V)(L:List (Tm×Nat))(R S T:Option V),Ov G J pt us/\aZ H J/\fF J (L.map (·.1)) us/\Tq (z/6) (z/156) n i L/\σ=[some<|V.ref a,some<|V.str "abcdefghijklmnopqrstuvwxyz",some<|V.int z,some<|V.ref pt,R,S,T,none,none,none]) #[J,us,_,_,_,_,g,sJ,iO,tq0,rfl] (λi σ G hi h M hM=>?_) λσ G h=>b _ _ h;clear g sJ iO tq0 us J;let⟨J,us,L,R,S,T,g,sJ,iO,D,rfl⟩:=h;let hul:us.length=n:=by have :=xM iO;rwa[aD,D.len]at this
  let hi:i<5:=hi;refine zD λN b=>?_
  dsimp![];calc#[a,ns,1+i,by simp,aZ.seq (sJ.trans g.sub) hS,hl,(),λc hc=>b _ _ ?_];clear b;refine zD λN b=>?_
  dsimp![];calc#[#[(),()],(),.inl #[(),()],#[(),()],(),b _ _ ?_];clear b;obtain⟨j,hj,hj1,hj2⟩:∃j:Nat,12*(c/4 % 3)+2+c/12 % 10=(j:Int)/\2<=j % 12/\j<36:=#[12*(c/4 % 3).toNat+2+(c/12 % 10).toNat,(),(),()]
  rw[hj];dsimp![];calc#[(),?_];by_cases c3:c % 4<3
  ·rw[aO c3];let en:c/120 % (us.length:Int)=((c/120 % (us.length:Int)).toNat:Nat):=(sR<|oG _ ()).symm;let en2:=DC (c/120) (show(0:Int)<us.length by lia);generalize (c/120 % (us.length:Int)).toNat=e at en;let ks:=g.at;obtain⟨p,hp⟩:∃p,L[j]?=some p:=#[_,aA (by rw[D.len];lia)]
   obtain⟨p',hp'⟩:∃p,L[e]?=some p:=#[_,aA (by rw[D.len];lia)]
   let⟨v,hv1,hv2⟩:=bK.get (d:=tL p.1) iO (by rw[aF,aF,hp];rfl);let⟨v',hv1',hv2'⟩:=bK.get (d:=tL p'.1) iO (by rw[aF,aF,hp'];rfl);calc#[_,dB.of ks,v,zU hv1,(),#[(),()],us.length,.inl #[_,dB.of ks,rfl],(),_,dB.of ks,v',by rw[en];exact zU hv1',v,v',c % 4,p.1,p'.1,rfl,eE.same g.sub hv2,eE.same g.sub hv2',λx H1 s1 hx=>?_];let⟨J',ov',sJ'⟩:=g.ext s1;dsimp![nk,JI];refine#[us,ov'.at,j,uM (),hM _ _ #[J',_,L.set j (al (c % 4) p.1 p'.1,if c % 4=0 then p.2 else if c % 4=1 then p.2+1 else p'.2),_,_,_,ov'.set _,sJ.trans sJ',?_,D.step hp hj1 hj2 ?_,rfl]]
   ·unfold fF;rw[GO,GO];exact BU (hU.tups ov'.tups hx) j<|bK.same sJ' iO
   ·unfold al;rcases(show c % 4=0\/c % 4=1\/c % 4=2 by lia)with e |e |e<;>rw[e]
    ·exact .inl rfl
    ·exact .inr<|.inl rfl
    ·exact .inr<|.inr<|aP hp'
  ·rw[aH c3];exact hM _ _ #[J,us,L,_,_,_,g,sJ,iO,D.idle,rfl]
 clear tq0 g sJ iO;let⟨J,us,L,R,S,T,g,sJ,iO,D,rfl⟩:=h;let sG:aZ H G:=sJ.trans g.sub;let kt:=g.at;replace iO:fF G (L.map (·.1)) us:=bK.same g.sub iO;let hll:(L.map (·.1)).length=n:=by rw[aD];exact D.len
 let hul:us.length=n:=by have :=xM iO;rw[this];exact hll
 clear g sJ;refine zD λN b=>?_
 dsimp![];calc#[pt,us,L.map (·.1),rfl,kt,iO,(),λpb bs H2 s2 U hb=>b _ _ ?_];clear b;replace kt:=s2 _ _ kt;replace iO:fF H2 (L.map (·.1)) us:=bK.same s2 iO;clear sG s2;let pre:∀r∈sT (L.map (·.1)),r.1.length<=5:=λr hr=>by
  let⟨i,hi,e⟩:=cS hr;let hb:=vS (((L.map (·.1)).length/2+5)/6) (prs (L.map (·.1)));let e2:(sT (L.map (·.1)))[i]?=some r:=by rw[aA hi,e]
  rw[ZZ _ i _ (by rw[←hb];calc hi)]at e2;rw[←bY e2];show(((prs (L.map (·.1))).drop (6*i)).take 6 |>.take _).length<=5;rw[bH,bH];lia
 let bl:(sT (L.map (·.1))).length<=20:=by
  show(NI _ _).length<=20;rw[vS,hll];lia
 let b1:1<=(sT (L.map (·.1))).length:=by
  show 1<=(NI _ _).length;rw[vS,hll];lia
 let ft:=D.fits (bk:=sT (L.map (·.1))) () I λt ht=>by
  rw[og D]at ht;exact eS ht
 let W:=D.fits (bk:=(sT (L.map (·.1))).drop 1) () I λt ht=>by
  rw[CK D I,sW,sX]at ht;exact fG<|eS ht
 let vo:=D.vo I h41 (bk:=sT (L.map (·.1))) λr hr=>hr
 let vo1:=D.vo I h41 (bk:=(sT (L.map (·.1))).drop 1) λr hr=>fG hr
 let few:=D.few () I h41;let lst:us[us.length-1]?=us[n-1]?:=by rw[hul]
 obtain⟨v,hv⟩:∃v,us[n-1]?=some v:=#[_,aA ()]
 let⟨tl,ht1,ht2⟩:=xJ (f:=tL) (xs:=L.map (·.1)) iO hv;let sd:∀(G:Hp) u,n % 2=1->oB G (tl,.node "none" []) u->oB G (QQ L n) u:=λG u c h=>by
  unfold QQ;rw[aO c,aU,ht1];exact h
 let sc:n % 2≠1->QQ L n=(.node "all" [],.node "none" []):=λc=>aH c
 generalize sT (L.map (·.1))=B at hb pre bl b1 ft W vo vo1 few;generalize QQ L n=O at ft W vo vo1 few sc sd;refine zP (λσ G=>∃(sv:V),aZ H2 G/\(n % 2≠1->oB G O sv)/\σ=[some<|V.ref a,some<|V.str "abcdefghijklmnopqrstuvwxyz",some<|V.int z,some<|V.ref pt,R,S,T,some<|V.ref pb,some sv,none]) (λN b=>?_) λσ G h=>?_
 ·dsimp![];calc#[zI (),λp1 h1=>#[zI (),λp2 h2=>#[zI (),λp3 h3=>b _ _ #[_,((zB h1 _).trans (zB h2 _)).trans (zB h3 _),λc=>?_,rfl]]]];rw[sc c];exact oB.mk2 #[p1,_,rfl,((zB h2 _).trans (zB h3 _)) _ _ zA,_,_,rfl,rfl,rfl] #[p2,_,rfl,(zB h3 _) _ _ zA,_,_,rfl,rfl,rfl] zA
 let⟨sv,X,y,rfl⟩:=h;refine zP (λσ G'=>∃(sv:V),aZ H2 G'/\oB G' O sv/\σ=[some<|V.ref a,some<|V.str "abcdefghijklmnopqrstuvwxyz",some<|V.int z,some<|V.ref pt,R,S,T,some<|V.ref pb,some sv,none]) (λN b=>?_) λσ G' h=>?_
 ·dsimp![];calc#[us.length,.inl #[_,dB.of<|X _ _ kt,rfl],(),rfl,?_];by_cases c:n % 2=1
  ·rw[aO ()];calc#[_,dB.of<|X _ _ kt,v,VY (by rw[lst];calc hv),zI (),λp1 h1=>#[zI (),λp2 h2=>b _ _ #[_,X.trans<|(zB h1 _).trans (zB h2 _),?_,rfl]]];let s4:=X.trans<|(zB h1<|.tup [V.str "none"]).trans (zB h2<|.tup [v,.ref p1]);exact sd _ _ c<|oB.mk2 (eE.same s4 ht2) #[p1,_,rfl,(zB h2 _) _ _ zA,_,_,rfl,rfl,rfl] zA
  ·rw[aH ()];exact b _ _ #[sv,X,y c,rfl]
 clear X y sv;let⟨sv,X,y,rfl⟩:=h;replace U:=X _ _ U;replace hb:iJ G' B bs:=bK.same X hb;refine zD λN b=>?_
 dsimp![];let gY:∀(p:Addr)(Y:Hp),aZ G' Y->(40<(tS B O).length->∃l,Y p=some (.tup [.ref l,.non])/\Y l=some (.lst dc))->((tS B O).length<=40->ND Y p B O)->N [some<|V.ref a,some<|V.str "abcdefghijklmnopqrstuvwxyz",some<|V.int z,some<|V.ref pt,R,S,T,some<|V.ref pb,some sv,some<|.ref p] Y:=λp Y s4 no ys=>b _ _ (by
  replace U:=s4 _ _ U;replace hb:iJ Y B bs:=bK.same s4 hb;replace y:=eE.same s4 y;clear b;refine zD λN b=>?_
  let two:∀H5,aZ Y H5->N [some<|V.ref a,some<|V.str "abcdefghijklmnopqrstuvwxyz",some<|V.int z,some<|V.ref pt,R,S,T,some<|V.ref pb,some sv,some<|.ref p] H5:=λH5 C=>b _ _ (by
   clear b;refine zD λN b=>?_
   dsimp![];let hb1:iJ Y (B.drop 1) (bs.drop 1):=by
    have :=(wX 1 hb).2;rwa[←sX]at this
   let hbl:=hb.length;calc#[_,dB.of<|C _ _ U,λp1 lX=>?_];rw[uB bs ()];let s6:=zB lX<|.lst<|bs.drop 1;calc#[p1,sv,bs.drop 1,B.drop 1,O,rfl,zA,bK.same (C.trans s6) hb1,eE.same (C.trans s6) y,by rw[cZ];lia,(λr hr=>pre r<|fG hr),W,vo1,(λz=>absurd few<|Nat.not_le_of_lt z),λ_ p2 H7 Z an=>b _ _ ?_];clear b;replace Z:=C.trans<|s6.trans Z;dsimp![];calc#[_,dB.of<|Z _ _ U,λp3 hp3=>?_];rw[uB bs ()];let s8:=zB hp3<|.lst<|bs.drop 1;calc#[p2,p3,sv,bs.drop 1,B.drop 1,O,rfl,zA,bK.same (Z.trans s8) hb1,eE.same (Z.trans s8) y,by rw[cZ];lia,(λr hr=>pre r<|fG hr),W,an.same s8,λH' _=>q H'])
  dsimp![lu];calc#[pb,sv,bs,B,O,rfl,U,hb,y,bl,pre,ft,λra J5 H5 C rl=>?_];let⟨us5,k5,h5⟩:=rl.ex;let hl5:us5.length=(tS B O).length:=xM h5;replace C:=C.trans rl.sub;calc#[us5.length,.inl #[_,dB.of k5,rfl],?_];by_cases c:40<us5.length
  ·rw[aO ()];let⟨l,n1,n2⟩:=no ();calc#[_,cV.of<|C _ _ n1,_,gG,zI (),λp1 lX=>#[zI (),λp2 mK=>?_]];let s6:=zB lX<|.lst [V.bl true,V.bl true];let Z:=zB mK<|.lst [V.bl false];calc#[_,zA,(),(),zI (),λp3 hp3=>#[p3,rfl,?_]];let s8:=zB hp3<|.lst (List.replicate (Int.toNat 5) [V.bl false]).flatten;calc#[_,(Z.trans s8) _ _ zA,_,zA,zI (),λp4 hp4=>?_];let s9:=s6.trans<|Z.trans<|s8.trans<|zB hp4<|.lst dc;refine#[1,.lst<|[true,true,false,false,false,false,false].map Dt.bl,#[l,_,rfl,(C.trans s9) _ _ n2,VT _ _],.lst<|[true,true,false,false,false,false,false].map Dt.bl,#[p4,_,rfl,zA,VT _ [true,true,false,false,false,false,false]],#[(),λd hd=>?_],(),?_]
   ·let⟨_,_,rfl⟩:=bF.mp hd
    trivial
   rw[yT,aH ()];exact two _<|C.trans s9
  ·rw[aH ()];calc#[p,pb,sv,bs,B,O,rfl,C _ _ U,bK.same C hb,eE.same C y,bl,pre,ft,(ys ()).same C,λH6 s6=>#[true,rfl,two H6<|C.trans s6]])
 exact#[pb,sv,bs,B,O,rfl,U,hb,y,bl,pre,ft,vo,λl p q H' s' h1 h2=>gY p H' s' (λ_=>#[q,h1,h2]) λz=>absurd z (),λl p H' s' an=>gY p H' s' (λz=>absurd z ()) λ_=>an]
theorem ln0{us:List Value}(h:us.length=0):us=[]:=fM.mp h
theorem lnS{us:List Value}(h:us.length=n+1):∃(u:Value)(r:List Value),us=u::r/\r.length=n:=by
 cases us with
 |nil=>cases h
 |cons u r=>exact#[u,r,rfl,mC h]
theorem ln1{us:List Value}(h:us.length=1):∃a,us=[a]:=by
 let⟨a,r,rfl,g⟩:=lnS h;cases ln0 g;exact#[a,rfl]
theorem ln2{us:List Value}(h:us.length=2):∃a b,us=[a,b]:=by
 let⟨a,r,rfl,g⟩:=lnS h;let⟨b,rfl⟩:=ln1 g;exact#[a,b,rfl]
theorem ln3{us:List Value}(h:us.length=3):∃a b c,us=[a,b,c]:=by
 let⟨a,r,rfl,g⟩:=lnS h;let⟨b,c,rfl⟩:=ln2 g;exact#[a,b,c,rfl]
theorem ln4{us:List Value}(h:us.length=4):∃a b c d,us=[a,b,c,d]:=by
 let⟨a,r,rfl,g⟩:=lnS h;let⟨b,c,d,rfl⟩:=ln3 g;exact#[a,b,c,d,rfl]
theorem bz{x qual:Str}{st:Stmt}(F:fR K x qual st f fd)(ps:List Str)
 (h:∀(kV doc pm:Value)(an:Option Addr)(eP ct:Value)(us:List Value),us.length=ps.length->bindArgs (W.fnOf x qual (xK st) (yS st) (zF st) .none kV doc pm an eP ct) #[us,[]]=pure (ps.zip us):=by intro _ _ _ _ _ _ us hl;first |(let⟨_,rfl⟩:=ln1 hl;rfl) |(let⟨_,_,rfl⟩:=ln2 hl;rfl) |(let⟨_,_,_,rfl⟩:=ln3 hl;rfl) |(let⟨_,_,_,_,rfl⟩:=ln4 hl;rfl)):Binds K fd ps []:=F.binds h
structure iA(K:W.Frag)(x:Str)(st:Stmt)(f:Addr)(fd:FuncData):Prop where
 a:W.nsIn K mainGlobals x=some (some<|.ref f)
 F:fR K x x st f fd
theorem fQq{x:Str}{st:Stmt}{oc:Value}{od an:Option Addr}{osl:Array (Option Value)}{kV doc pm eP ct:Value}(a:W.nsIn K mainGlobals x=some (some<|.ref f))(l:K.lookup f=some #[oc,od,.func<|W.fnOf x x (xK st) (yS st) (zF st) .none kV doc pm an eP ct,osl])
 (c:W.codeIn K eP x=true) (k:W.keepIn K (.ref f)=true):iA K x st f (W.fnOf x x (xK st) (yS st) (zF st) .none kV doc pm an eP ct):=#[a,FR l c k]
structure WT(K:W.Frag)(C:Addr)(m q:Str)(st:Stmt)(f:Addr)(fd:FuncData):Prop where
 a:W.findIn K (.ref C) m=some (some<|.ref f)
 i:W.isFn K (.ref f)=true
 k:W.keepIn K (.ref f)=true
 F:fR K m q st f fd
theorem mQq{C:Addr}{m q:Str}{st:Stmt}{oc:Value}{od an:Option Addr}{osl:Array (Option Value)}{kV doc pm eP ct:Value}(a:W.findIn K (.ref C) m=some (some<|.ref f))(i:W.isFn K (.ref f)=true)(l:K.lookup f=some #[oc,od,.func<|W.fnOf m q (xK st) (yS st) (zF st) .none kV doc pm an eP ct,osl])
 (c:W.codeIn K eP q=true) (k:W.keepIn K (.ref f)=true):WT K C m q st f (W.fnOf m q (xK st) (yS st) (zF st) .none kV doc pm an eP ct):=#[a,i,k,FR l c k]
structure En(P:Program)(w:World)(K:W.Frag)(mg:Str->Option Value)(base:Heap):Prop where
 h:∃h,K.In h/\h.Ns mainGlobals mg
theorem hz{x:Str}{st:Stmt}{k:Nat}{ps:List Str}{sp:Sp}(E:En P w K mg base)(i:iA K x st f fd)(o:cW P w K mg base fS k f fd ps sp)
 (h:∀(kV doc pm:Value)(an:Option Addr)(eP ct:Value)(us:List Value),us.length=ps.length->bindArgs (W.fnOf x x (xK st) (yS st) (zF st) .none kV doc pm an eP ct) #[us,[]]=pure (ps.zip us):=by intro _ _ _ _ _ _ us hl;first |(let⟨_,rfl⟩:=ln1 hl;rfl) |(let⟨_,_,rfl⟩:=ln2 hl;rfl) |(let⟨_,_,_,rfl⟩:=ln3 hl;rfl) |(let⟨_,_,_,_,rfl⟩:=ln4 hl;rfl)):gD P w K mg base k x ps sp:=by
 let⟨_,X,G⟩:=E.h;exact vY i.F o (bz i.F ps h)<|cK X G i.a
theorem mz{D:Addr}{x q:Str}{st:Stmt}{k:Nat}{ps:List Str}{sp:Sp}(_:En P w K mg base)(i:WT K D x q st f fd)(o:cW P w K mg base fS k f fd ps sp)
 (h:∀(kV doc pm:Value)(an:Option Addr)(eP ct:Value)(us:List Value),us.length=ps.length->bindArgs (W.fnOf x q (xK st) (yS st) (zF st) .none kV doc pm an eP ct) #[us,[]]=pure (ps.zip us):=by intro _ _ _ _ _ _ us hl;first |(let⟨_,rfl⟩:=ln1 hl;rfl) |(let⟨_,_,rfl⟩:=ln2 hl;rfl) |(let⟨_,_,_,rfl⟩:=ln3 hl;rfl) |(let⟨_,_,_,_,rfl⟩:=ln4 hl;rfl)):lT P w K mg base k D x ps sp:=#[_,_,o,bz i.F ps h,i.a,i.i,i.k]
theorem all_mk{f_l f_f f_I f_t f_u f_i f_h f_b f_ba f_L f_ae f_d f_y f_ac f_ad f_Z f_M f_K f_R f_H f_F f_c f_a f_n f_T f_k f_V f_bf f_q f_g f_z f_p f_r f_o f_w f_bb f_X f_be f_Q f_W f_S f_bg f_af f_J f_A f_aa f_x f_N f_ah f_ag f_G f_P f_m f_e f_v f_bc f_j f_Y f_s f_bd f_O f_ab f_D f_U f_E f_B:Addr}{d_Growth_init d_Growth_line_of d_Growth_has d_Growth_grow d_Floor_init d_Floor_common_of d_Floor_counter_of d_Floor_value_of d_mask_of d_bits_of d_parts_of d_gather_names d_names_of_all d_names_of d_terms_in d_is_whole d_is_below d_places_of d_found d_put_in d_turned d_number_by d_joined_number d_sheet_of d_pair_of d_numbered_rule d_numbered d_begin d_boths_by_part d_rules_by_premise d_grow_by_turn d_grow_by_chain d_grow_by_both d_grow_by_clash d_grow_by_rule d_closing d_sets_for d_value d_renamed d_line_for d_hung_on d_paper d_spots_by d_clashes_by d_spots_under d_world_of d_spot_against d_judge_on d_judge d_law_draw d_law_whole d_law_near d_law_counter d_law_worth d_law_is_world d_law_row d_law_laid d_law_pair d_law_all_rows d_law_in d_law_kept d_law_open d_law_turned d_law_book d_law_answer d_law_is_open:FuncData}{l:W.OpenLaw}{h:Heap}{fa:Addr}(X:K.In h)(G:h.Ns mainGlobals mg)(hfa:mg "law"=some (.ref fa))
 {C_Growth:Addr} (aC_Growth:W.nsIn K mainGlobals "Growth"=some (some<|.ref C_Growth))
 (mJ:WT K C_Growth "__init__" "Growth.__init__" s_l f_l d_Growth_init)
 (mR:WT K C_Growth "line_of" "Growth.line_of" s_f f_f d_Growth_line_of)
 (j_Growth_has:WT K C_Growth "has" "Growth.has" s_I f_I d_Growth_has)
 (j_Growth_grow:WT K C_Growth "grow" "Growth.grow" s_t f_t d_Growth_grow)
 (pg_Growth:W.plainGet K C_Growth Str.empty=true) (hd_Growth:W.hasDictIn K C_Growth=true) (po_Growth:W.plainOver K C_Growth=true) (sa_Growth:W.findIn K (.ref C_Growth) "__setattr__"=some (some<|.builtin "object.__setattr__")) (mk_Growth:W.makesIn K C_Growth=true) (kc_Growth:W.keepIn K (.ref C_Growth)=true) (n_Growth_lines:W.findIn K (.ref C_Growth) "lines"=some none) (n_Growth_places:W.findIn K (.ref C_Growth) "places"=some none) (n_Growth_above:W.findIn K (.ref C_Growth) "above"=some none) (n_Growth_below:W.findIn K (.ref C_Growth) "below"=some none)
 {C_Floor:Addr} (aC_Floor:W.nsIn K mainGlobals "Floor"=some (some<|.ref C_Floor))
 (mY:WT K C_Floor "__init__" "Floor.__init__" s_u f_u d_Floor_init)
 (lV:WT K C_Floor "common_of" "Floor.common_of" s_i f_i d_Floor_common_of)
 (lO:WT K C_Floor "counter_of" "Floor.counter_of" s_h f_h d_Floor_counter_of)
 (gH:WT K C_Floor "value_of" "Floor.value_of" s_b f_b d_Floor_value_of)
 (pg_Floor:W.plainGet K C_Floor Str.empty=true) (hd_Floor:W.hasDictIn K C_Floor=true) (po_Floor:W.plainOver K C_Floor=true) (sa_Floor:W.findIn K (.ref C_Floor) "__setattr__"=some (some<|.builtin "object.__setattr__")) (mk_Floor:W.makesIn K C_Floor=true) (kc_Floor:W.keepIn K (.ref C_Floor)=true) (n_Floor_everywhere:W.findIn K (.ref C_Floor) "everywhere"=some none) (n_Floor_clashing:W.findIn K (.ref C_Floor) "clashing"=some none)
 (i_ba:iA K "mask_of" kj f_ba d_mask_of)
 (i_L:iA K "bits_of" s_L f_L d_bits_of)
 (i_ae:iA K "parts_of" kx f_ae d_parts_of)
 (i_d:iA K "gather_names" s_d f_d d_gather_names)
 (i_y:iA K "names_of_all" s_y f_y d_names_of_all)
 (i_ac:iA K "names_of" lc f_ac d_names_of)
 (i_ad:iA K "terms_in" kz f_ad d_terms_in)
 (i_Z:iA K "is_whole" s_Z f_Z d_is_whole)
 (i_M:iA K "is_below" s_M f_M d_is_below)
 (i_K:iA K "places_of" s_K f_K d_places_of)
 (i_R:iA K "found" s_R f_R d_found)
 (i_H:iA K "put_in" s_H f_H d_put_in)
 (i_F:iA K "turned" s_F f_F d_turned)
 (i_c:iA K "number_by" s_c f_c d_number_by)
 (i_a:iA K "joined_number" s_a f_a d_joined_number)
 (i_n:iA K "sheet_of" s_n f_n d_sheet_of)
 (i_T:iA K "pair_of" s_T f_T d_pair_of)
 (i_k:iA K "numbered_rule" s_k f_k d_numbered_rule)
 (i_V:iA K "numbered" s_V f_V d_numbered)
 (i_bf:iA K "begin" kc f_bf d_begin)
 (i_q:iA K "boths_by_part" s_q f_q d_boths_by_part)
 (i_g:iA K "rules_by_premise" s_g f_g d_rules_by_premise)
 (i_z:iA K "grow_by_turn" s_z f_z d_grow_by_turn)
 (i_p:iA K "grow_by_chain" s_p f_p d_grow_by_chain)
 (i_r:iA K "grow_by_both" s_r f_r d_grow_by_both)
 (i_o:iA K "grow_by_clash" s_o f_o d_grow_by_clash)
 (i_w:iA K "grow_by_rule" s_w f_w d_grow_by_rule)
 (i_bb:iA K "closing" ki f_bb d_closing)
 (i_X:iA K "sets_for" s_X f_X d_sets_for)
 (i_be:iA K "value" kf f_be d_value)
 (i_Q:iA K "renamed" s_Q f_Q d_renamed)
 (i_W:iA K "line_for" s_W f_W d_line_for)
 (i_S:iA K "hung_on" s_S f_S d_hung_on)
 (i_bg:iA K "paper" ka f_bg d_paper)
 (i_af:iA K "spots_by" kq f_af d_spots_by)
 (i_J:iA K "clashes_by" s_J f_J d_clashes_by)
 (i_A:iA K "spots_under" s_A f_A d_spots_under)
 (i_aa:iA K "world_of" lh f_aa d_world_of)
 (i_x:iA K "spot_against" s_x f_x d_spot_against)
 (i_N:iA K "judge_on" s_N f_N d_judge_on)
 (i_ah:iA K "judge" km f_ah d_judge)
 (i_ag:iA K "_law_draw" ko f_ag d_law_draw)
 (i_G:iA K "_law_whole" s_G f_G d_law_whole)
 (i_P:iA K "_law_near" s_P f_P d_law_near)
 (i_m:iA K "_law_counter" s_m f_m d_law_counter)
 (i_e:iA K "_law_worth" s_e f_e d_law_worth)
 (i_v:iA K "_law_is_world" s_v f_v d_law_is_world)
 (i_bc:iA K "_law_row" kh f_bc d_law_row)
 (i_j:iA K "_law_laid" s_j f_j d_law_laid)
 (i_Y:iA K "_law_pair" s_Y f_Y d_law_pair)
 (i_s:iA K "_law_all_rows" s_s f_s d_law_all_rows)
 (i_bd:iA K "_law_in" kg f_bd d_law_in)
 (i_O:iA K "_law_kept" s_O f_O d_law_kept)
 (i_ab:iA K "_law_open" lf f_ab d_law_open)
 (i_D:iA K "_law_turned" s_D f_D d_law_turned)
 (i_U:iA K "_law_book" s_U f_U d_law_book)
 (i_E:iA K "_law_answer" s_E f_E d_law_answer)
 (i_B:iA K "_law_is_open" s_B f_B d_law_is_open)
 {od_C an_C:Option Addr} {sl_C:Array (Option Value)} {oc_C kV_C dc_C pm_C cd_C ct_C:Value} (a_C:W.nsIn K mainGlobals "law"=some (some<|.ref f_C)) (l_C:K.lookup f_C=some #[oc_C,od_C,.func<|W.fnOf "law" "law" (xK a9) (yS a9) (zF a9) .none kV_C dc_C pm_C an_C cd_C ct_C,sl_C]) (c_C:W.codeIn K cd_C "law"=true) (k_C:W.keepIn K (.ref f_C)=true)
  (z_enumerate:W.nsIn K mainGlobals "enumerate"=some none)
 {nG:Addr} {d_NONE_ROW:Option Addr} {n_NONE_ROW:Nat} {sl_NONE_ROW:Array (Option Value)} {t_N1:Tok} (g_NONE_ROW:W.nsIn K mainGlobals "NONE_ROW"=some (some<|.ref nG)) (o_NONE_ROW:K.lookup nG=some #[.type "tuple",d_NONE_ROW,.seq (List.toArray [.str "none" t_N1]) n_NONE_ROW,sl_NONE_ROW])
 {t_MOST_ROWS:Tok} (g_MOST_ROWS:W.nsIn K mainGlobals "MOST_ROWS"=some (some<|.int 40 t_MOST_ROWS))
  (z_ValueError:W.nsIn K mainGlobals "ValueError"=some none)
 {C_ClashError:Addr} (a_ClashError:W.nsIn K mainGlobals "ClashError"=some (some<|.ref C_ClashError))
 {C_NoText:Addr} (a_NoText:W.nsIn K mainGlobals "NoText"=some (some<|.ref C_NoText))
 {C_NoName:Addr} (a_NoName:W.nsIn K mainGlobals "NoName"=some (some<|.ref C_NoName))
 {C_NoRule:Addr} (a_NoRule:W.nsIn K mainGlobals "NoRule"=some (some<|.ref C_NoRule))
 {C_NoRow:Addr} (a_NoRow:W.nsIn K mainGlobals "NoRow"=some (some<|.ref C_NoRow))
 {C_NoMiddle:Addr} (a_NoMiddle:W.nsIn K mainGlobals "NoMiddle"=some (some<|.ref C_NoMiddle))
 {C_TooMuch:Addr} (a_TooMuch:W.nsIn K mainGlobals "TooMuch"=some (some<|.ref C_TooMuch))
  (ei_TooMuch:W.excIn K C_TooMuch [.type "ValueError",.type "Exception",.type "BaseException",.type "object"] "ValueError.__new__"=true) (x1_TooMuch:(W.clsIn K C_TooMuch).isSome=true) (x2_TooMuch:W.findIn K (.ref C_TooMuch) "__getattribute__"=some (some<|.builtin "BaseException.__getattribute__")) (x3_TooMuch:W.findIn K (.ref C_TooMuch) "__getattr__"=some none) (x4_TooMuch:W.findIn K (.ref C_TooMuch) "__class__"=some (some<|.builtin "object.__class__")) (x5_TooMuch:W.specialIn K (.builtin "object.__class__") "__get__"=some (some<|.builtin "getset_descriptor.__get__")) (x6_TooMuch:W.takesIn K (.builtin "object.__class__")=some true) (x7_TooMuch:W.mroIn K C_TooMuch (.type "object")=some true) (x8_TooMuch:W.mroIn K C_TooMuch (.type "BaseException")=some true) (xb_TooMuch:tG K C_ClashError (.type "BaseException")=some true) (xt_TooMuch:tG K C_TooMuch (.ref C_ClashError)=some true) (kv_TooMuch:W.kitOne K (.ref C_TooMuch) (.type "ValueError")=some true)
  (ko_TooMuch_TooMuch:W.kitOne K (.ref C_TooMuch) (.ref C_TooMuch)=some true)
  (ko_TooMuch_NoText:W.kitOne K (.ref C_TooMuch) (.ref C_NoText)=some false)
  (ko_TooMuch_NoName:W.kitOne K (.ref C_TooMuch) (.ref C_NoName)=some false)
  (ko_TooMuch_NoRule:W.kitOne K (.ref C_TooMuch) (.ref C_NoRule)=some false)
  (ko_TooMuch_NoRow:W.kitOne K (.ref C_TooMuch) (.ref C_NoRow)=some false)
  (ko_TooMuch_NoMiddle:W.kitOne K (.ref C_TooMuch) (.ref C_NoMiddle)=some false)
 (z_all:W.nsIn K mainGlobals "all"=some none)
 (z_bool:W.nsIn K mainGlobals "bool"=some none)
 (z_dict:W.nsIn K mainGlobals "dict"=some none)
 (z_int:W.nsIn K mainGlobals "int"=some none)
 (z_isinstance:W.nsIn K mainGlobals "isinstance"=some none)
 (z_len:W.nsIn K mainGlobals "len"=some none)
 (z_list:W.nsIn K mainGlobals "list"=some none)
 (z_max:W.nsIn K mainGlobals "max"=some none)
 (z_range:W.nsIn K mainGlobals "range"=some none)
 (z_set:W.nsIn K mainGlobals "set"=some none)
 (z_sorted:W.nsIn K mainGlobals "sorted"=some none)
 (z_str:W.nsIn K mainGlobals "str"=some none)
 (z_sum:W.nsIn K mainGlobals "sum"=some none)
 (z_tuple:W.nsIn K mainGlobals "tuple"=some none):
 ∃fd:FuncData,(∀(s:Shared)(v:Value),BindsTo s fd #[[v],[]] [("script",v)])/\∀base:Heap,K.In base->base.Ns mainGlobals mg->cW l.prog w K mg base fS 65 fa fd ["script"] (HE K):=by
 let e:=hfa.symm.trans<|cK X G a_C;cases e;let fP:KM K C_Growth:=#[pg_Growth,hd_Growth,po_Growth,sa_Growth]
 let mC_Growth:=cK X G aC_Growth;let F_l:=mJ.F;let b_l:=bz F_l ["self","many"];let gE:KM K C_Floor:=#[pg_Floor,hd_Floor,po_Floor,sa_Floor]
 let mC_Floor:=cK X G aC_Floor;let F_u:=mY.F;let b_u:=bz F_u ["self","many","clashes"];let F_b:=gH.F;let b_b:=bz F_b ["self","sets","t"];let t_b:MZ K C_Floor "value_of" f_b:=#[gH.a,gH.i,gH.k]
 let F_d:=i_d.F;let b_d:=bz F_d ["t","found"];let m_d:=cK X G i_d.a;let F_R:=i_R.F;let b_R:=bz F_R ["places","row"];let m_R:=cK X G i_R.a;let F_H:=i_H.F;let b_H:=bz F_H ["places","row"];let m_H:=cK X G i_H.a;let F_c:=i_c.F;let b_c:=bz F_c ["row_number","places","t"];let m_c:=cK X G i_c.a;let F_a:=i_a.F;let b_a:=bz F_a ["row_number","places","t"];let m_a:=cK X G i_a.a;let F_n:=i_n.F;let b_n:=bz F_n ["terms"];let m_n:=cK X G i_n.a;let F_Q:=i_Q.F;let b_Q:=bz F_Q ["why","places"];let m_Q:=cK X G i_Q.a;let F_S:=i_S.F;let b_S:=bz F_S ["lines","k"];let m_S:=cK X G i_S.a;let F_ah:=i_ah.F;let b_ah:=bz F_ah ["book","saying"];let m_ah:=cK X G i_ah.a;let F_e:=i_e.F;let b_e:=bz F_e ["near","sets","t"];let m_e:=cK X G i_e.a;let F_j:=i_j.F;let b_j:=bz F_j ["rows","t"];let m_j:=cK X G i_j.a;let F_C:=FR (st:=a9) l_C c_C k_C;let b:Bi mg:=#[cR X G z_len,cR X G z_range,cR X G z_isinstance,cR X G z_max,cR X G z_sum,cR X G z_all,cR X G z_tuple,cR X G z_list,cR X G z_sorted,cR X G z_set,cR X G z_int,cR X G z_bool,cR X G z_str,cR X G z_dict]
 calc#[W.fnOf "law" "law" (xK a9) (yS a9) (zF a9) .none kV_C dc_C pm_C an_C cd_C ct_C,λs v=>.of_eq rfl,λbase Xb Gb=>?_];let Ev:En l.prog w K mg base:=#[_,X,G]
 let mQ:=cK X G a_TooMuch;let Er:Errs K mg C_ClashError C_TooMuch C_NoText C_NoName C_NoRule C_NoRow C_NoMiddle:=#[cK X G a_ClashError,xb_TooMuch,xt_TooMuch,#[x1_TooMuch,x2_TooMuch,x3_TooMuch,x4_TooMuch,x5_TooMuch,x6_TooMuch,x7_TooMuch,x8_TooMuch],cR X G z_ValueError,#[_,mQ,rfl],#[_,cK X G a_NoText,rfl],#[_,cK X G a_NoName,rfl],#[_,cK X G a_NoRule,rfl],#[_,cK X G a_NoRow,rfl],#[_,cK X G a_NoMiddle,rfl],kv_TooMuch,ko_TooMuch_TooMuch,ko_TooMuch_NoText,ko_TooMuch_NoName,ko_TooMuch_NoRule,ko_TooMuch_NoRow,ko_TooMuch_NoMiddle]
 let O_TooMuch:=l9 (x:="TooMuch") (mg:=mg) Xb mQ ei_TooMuch;let c:mg "enumerate"=none:=cR X G z_enumerate;let T:NL K C_Growth:=#[fP,n_Growth_lines,n_Growth_places,n_Growth_above,n_Growth_below]
 let Y:=hz Ev i_Z<|AY b i_Z.F;let h1:=hz Ev i_M<|AZ b Y i_M.F;let h2:=hz Ev i_L<|FE b i_L.F;let g0:WH l.prog w K mg base 1 C_Growth "Growth" ["self","many"] (jz C_Growth):=#[_,_,RQ T F_l,b_l,#[mk_Growth,mJ.a,mJ.i,kc_Growth],mC_Growth]
 let g1:=mz Ev mR<|FA T mR.F;let g2:=mz Ev j_Growth_has<|mn T j_Growth_has.F;let g3:=mz Ev j_Growth_grow<|cr T b g2 j_Growth_grow.F;let Z:=hz Ev i_bf<|RX T b c g3 i_bf.F;let c2:=hz Ev i_q<|RW b c i_q.F;let c3:=hz Ev i_g<|vT b c i_g.F;let c4:=hz Ev i_z<|cc T g1 g3 i_z.F;let c5:=hz Ev i_p<|RV T b h2 g1 g3 i_p.F;let c6:=hz Ev i_r<|cw T g1 g2 g3 i_r.F;let c7:=hz Ev i_o<|RU T b g1 g3 i_o.F;let c8:=hz Ev i_w<|cg T b h1 g1 g2 g3 i_w.F;let c9:=hz Ev i_bb<|FD T b g0 c2 c3 Z c4 c5 c6 c7 c8 i_bb.F;let v1:=hz Ev i_af<|AO b i_af.F;let v2:=hz Ev i_A<|YS b c i_A.F;let v3:=hz Ev i_J<|XV b c i_J.F;let v4:=hz Ev i_aa<|AL b c v1 v2 v3 i_aa.F;let p3:=hz Ev i_W<|AV b c i_W.F;let p2:=vY F_Q (SH (P:=l.prog) (w:=w) (base:=base) (k:=1)) b_Q m_Q;let p4:=vY F_S (SH (P:=l.prog) (w:=w) (base:=base) (k:=2)) b_S m_S;let p5:=hz Ev i_bg<|LU b c p3 p4 p2 i_bg.F;let TF:FlC K C_Floor:=#[gE,n_Floor_everywhere,n_Floor_clashing]
 let f1:=hz Ev i_ba<|EY b i_ba.F;let f3:WH l.prog w K mg base 1 C_Floor "Floor" ["self","many","clashes"] (j4 C_Floor):=#[_,_,RT TF F_u,b_u,#[mk_Floor,mY.a,mY.i,kc_Floor],mC_Floor]
 let M:=mz Ev lV<|LY TF lV.F;let f5:=mz Ev lO<|XU TF b h2 M lO.F;let f6:lT l.prog w K mg base 23 C_Floor "value_of" ["self","sets","t"] (aw C_Floor 23):=#[_,_,AM TF b M f5 F_b b_b t_b 23,b_b,t_b]
 let g:=hz Ev i_ae<|AS b i_ae.F;let j:=vY F_d (ZI b g F_d b_d m_d 22) b_d m_d;let m:=hz Ev i_y<|ZH b j i_y.F;let n:=hz Ev i_ac<|AU b m i_ac.F;let o:=hz Ev i_X<|AR b f1 i_X.F;let p:=hz Ev i_be<|RO TF b o n h2 f3 f6 i_be.F;let gM:Gc mg "MOST_ROWS" (.int 40):=#[_,cK X G g_MOST_ROWS,#[_,rfl]]
 let gN:Gc mg "NONE_ROW" (.ref nG):=#[_,cK X G g_NONE_ROW,rfl]
 let sN:∀H,Tw K H nG [.str "none"]:=λH=>.inr #[_,_,_,o_NONE_ROW,rfl,rfl,(by show 1<=sizeLine;decide),.cons #[_,rfl] .nil]
 let s1:=uN F_H (LR (P:=l.prog) (w:=w) O_TooMuch F.excBase_ValueError mQ gM b F_H) b_H m_H;let s2:=uN F_R (cW.loud<|RS (P:=l.prog) (w:=w) (base:=base) (CU:=C_TooMuch) b F_R) b_R m_R;let N:=hz Ev i_F<|LQ b i_F.F;let s4:=vZ (s1.at m_H) N F_c b_c m_c F_a b_a m_a 21;let s5:=oE.found<|vZ (s2.at m_R) N F_c b_c m_c F_a b_a m_a 21;let s6:=uN F_n (AQ gN sN m_H b s4 F_n) b_n m_n;let O:=hz Ev i_K<|LS b c i_K.F;let Q:=hz Ev i_T<|EW m_R s5 i_T.F;let s9:=hz Ev i_k<|kN Q i_k.F;let q:=hz Ev i_V<|AT b O s9 i_V.F;let r:=hz Ev i_ad<|AN b i_ad.F;let j1:=hz Ev i_x<|ZG b p i_x.F;let j2:=hz Ev i_N<|AX b c9 q Q O p5 v4 j1 i_N.F;let j3:=uN F_ah (RP b j2 s6 r F_ah) b_ah m_ah;let w1:=hz Ev i_ag<|cu b i_ag.F;let R:=hz Ev i_P<|cn b i_P.F;let S:=hz Ev i_m<|AW b i_m.F;let U:=vY F_e (LW b S F_e b_e m_e 22) b_e m_e;let d:=hz Ev i_G<|RN b i_G.F;let u:=hz Ev i_v<|QZ b d R S i_v.F;let y:=hz Ev i_bc<|mj i_bc.F;let z:=vY F_j (cp b y F_j b_j m_j 22) b_j m_j;let A:=hz Ev i_Y<|ck z i_Y.F;let f:=hz Ev i_s<|BA A i_s.F;let B:=hz Ev i_bd<|ok_in b U i_bd.F;let C:=hz Ev i_O<|cq b B i_O.F;let D:=hz Ev i_ab<|cm b u R f C d U i_ab.F;let E:=hz Ev i_D<|EZ i_D.F;let I:=hz Ev i_U<|cy b i_U.F;let J:=hz Ev i_E<|LZ Er b j3 i_E.F;let L:=hz Ev i_B<|FC b D i_B.F;exact ml b w1 E I J f L F_C
theorem walk{l:W.OpenLaw}{q:Program}{loose:List Str}{XP:(Str->Option Value)->Heap->Prop}{YP:World->Heap->Prop}{d:DefRec}{K:Params->W.Frag}(hn:l.most=some 63)(hdf:d.params.defaults=[])
 (hY:∀(w:World)(h:Heap),YP w h->(K w.params).In h)
 (F:∀(w:World)(mg:Str->Option Value)(fa:Addr)(h:Heap),(K w.params).In h->h.Ns mainGlobals mg->mg d.name=some (.ref fa)->
  ∃fd:FuncData,(∀(s:Shared)(u:Value),BindsTo s fd #[[u],[]] [("script",u)])/\∀base:Heap,(K w.params).In base->base.Ns mainGlobals mg->cW l.prog w (K w.params) mg base fS 65 fa fd ["script"] (HE<|K w.params)):
 W.WalkO q loose XP YP l.row.toRowW d [] (λf vs=>PySem.call f vs):=
 L2.walk_of (n:=63) (k:=65) (x:="script") (CX:=λ_=>fS) (sp:=λw=>HE<|K w.params) hn () hdf #[rfl,(),()] hY F (λ_ _ a ns hl _ b=>#[a,ns,rfl,b,hl,λ_=>rfl]) λ_ _ _ _ _ z=>z
end C
open PySem PySem.W PyProof.Rows
set_option maxRecDepth 100000 in
set_option maxHeartbeats 0 in
theorem PySem.Challenge.cw_clashbook_k31_judge_of_forty_rows_holds : PySem.Challenge.rw_clashbook_k31_judge_of_forty_rows.Holds := by
 w_on;o_law;k_head;(case hw=>w_witness2)
 k_fill
 refine C.walk (l:=PySem.Challenge.rw_clashbook_k31_judge_of_forty_rows) rfl rfl (fun w h Y=>PySem.W.kIn_of Y) ?F
 case F=>
  intro w mg fa h KX G hmg;refine' C.all_mk KX G hmg ?_ ?_ ?_ ?_ ?_ ?_ ?_ ?_ ?_ ?_ ?_ ?_ ?_ ?_ ?_ ?_ ?_ ?_ ?_ ?_ ?_ ?_ ?_ ?_ ?_ ?_ ?_ ?_ ?_ ?_ ?_ ?_ ?_ ?_ ?_ ?_ ?_ ?_ ?_ ?_ ?_ ?_ ?_ ?_ ?_ ?_ ?_ ?_ ?_ ?_ ?_ ?_ ?_ ?_ ?_ ?_ ?_ ?_ ?_ ?_ ?_ ?_ ?_ ?_ ?_ ?_ ?_ ?_ ?_ ?_ ?_ ?_ ?_ ?_ ?_ ?_ ?_ ?_ ?_ ?_ ?_ ?_ ?_ ?_ ?_ ?_ ?_ ?_ ?_ ?_ ?_ ?_ ?_ ?_ ?_ ?_ ?_ ?_ ?_ ?_ ?_ ?_ ?_ ?_ ?_ ?_ ?_ ?_ ?_ ?_ ?_ ?_ ?_ ?_ ?_ ?_ ?_ ?_ ?_ ?_ ?_ ?_ ?_ ?_ ?_ ?_ ?_ ?_ ?_ ?_ ?_ ?_ ?_ ?_
  all_goals try first |(refine' C.fQq ?_ ?_ ?_ ?_<;>try k_is) |(refine' C.mQq ?_ ?_ ?_ ?_ ?_<;>try k_is) |k_is |kernel_rfl
