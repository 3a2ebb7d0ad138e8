import PyProof.Rows.All
import Wide.All
import OpenK.AllK
import Wide.FinOn
import PySem.Challenge.RW_clashbook_k39_whole_each_set_on_one_side
set_option maxHeartbeats 4000000
set_option compiler.extract_closed false
set_option bootstrap.genMatcherCode false
set_option genSizeOf false
noncomputable section
theorem a1(h:True:=by rfl):True:=h
theorem a2(h:True:=by decide):True:=h
namespace PySem.W.Fast
variable(x:Prop)
def tw1863262578174553039:=x
def tw5000665767957019632:=x
def tw2242801888435043497:=x
def tw5076964987379805677:=x
def tw11832393406583546137:=x
def tw7368953548607310997:=x
def tw8422553685372726010:=x
def tw10432696675863484118:=x
def tw14057199087010075110:=x
def tw2741309199131362395:=x
def tw2223928668170411440:=x
def tw9763131255243511594:=x
def tw6642396297252542176:=x
def tw13360709113141980698:=x
def tw2611696109460096547:=x
def tw13673909427638500165:=x
def tw4167403705632609315:=x
def tw1085774856388686164:=x
def tw13378668705183443315:=x
def tw16436114651957086545:=x
def tw13047285200372715468:=x
def tw12809303539852518519:=x
def tw18090672552005645204:=x
def tw3677342465074756835:=x
def tw18196365557472227109:=x
def tw14393485530398102502:=x
def tw10102279104147857158:=x
def tw14523184827735658466:=x
def tw16045664402069263897:=x
def tw17178754561582866602:=x
def tw15750184848441897572:=x
def tw18274382766839495265:=x
def tw14320266617290121866:=x
def tw6467471701641279646:=x
def tw17747967474061880272:=x
def tw6227290395005424701:=x
def tw11246494527949425410:=x
def tw4342734884012762772:=x
def tw16686379985601736329:=x
def tw8956641365823888368:=x
def tw15504704603960465228:=x
def tw11187302017580360760:=x
def tw1801331855838169673:=x
def tw13396281648366838548:=x
def tw14251294187543405002:=x
def tw17042405737460643277:=x
def tw14975624552969507026:=x
def tw5706176080763648133:=x
def tw17603097211958100712:=x
def tw13056030999533346274:=x
def tw17456294115242594826:=x
def tw11013048808888110972:=x
def tw16578482544937359232:=x
def tw18374713034529004569:=x
def tw4215959143534695992:=x
def tw2334436229434840243:=x
def tw5427933178385507908:=x
def tw16152646023707597556:=x
def tw17160856482481053984:=x
def tw10680147396812717399:=x
def tw1879770492278097091:=x
def tw836344706601108810:=x
def tw9046468225291416955:=x
def tw14544825400505672918:=x
def tw1727494506365801099:=x
def tw1420890591281901944:=x
def tw6747094513148646259:=x
def tw11600509331736203083:=x
def tw10154133317312502882:=x
def tw9510833503757959298:=x
def tw8461158063688973991:=x
def tw11387727485810927191:=x
def tw212377627007167013:=x
def tw6884524907346884612:=x
def tw1268695843902482437:=x
def tw9636131126370363397:=x
def tw333775763651408084:=x
def tw15232753035139119685:=x
def tw8474808600166548676:=x
def tw2307105931905834852:=x
def tw15916925295091650810:=x
def tw15793452971747040968:=x
def tw5518591976630008449:=x
def tw10261639751271296084:=x
def tw8993871024207171214:=x
def tw4968051944526246052:=x
def tw8284583581539523323:=x
def tw2721880135331216823:=x
def tw11073152618009189527:=x
def tw18040852574884721764:=x
def tw7471802411141481335:=x
def tw5335751610279020063:=x
def tw7839432100532940044:=x
def tw2924755600835891247:=x
def tw4471063878370600754:=x
def tw15184294680846812814:=x
def tw10168139913186215271:=x
def tw14692911449372613202:=x
def tw14089050629368447461:=x
def tw1351816373370184329:=x
def tw4036246703468420630:=x
def tw7560481654341030974:=x
def tw12616203487686866156:=x
def tw10586914324923003520:=x
def tw13368789491681374388:=x
def tw17912542250417001317:=x
def tw11554914218626828553:=x
def tw12031349595079733760:=x
def tw1414664474367744628:=x
def tw12843248796293975685:=x
def tw3469606803950270656:=x
def tw11240707746206992328:=x
def tw14767309765559199893:=x
def tw11112050662936073468:=x
def tw5398119997982844291:=x
def tw13334736673921563207:=x
def tw7065471052246244359:=x
def tw18185419309524905076:=x
def tw2952834197952350941:=x
def tw15001967977776798970:=x
def tw4492930068796580872:=x
def tw9608627887917738133:=x
def tw18368220665462474217:=x
def tw3199750083517322375:=x
def tw9439915993761934480:=x
def tw18269430057980800488:=x
def tw13247494942120804952:=x
def tw9240776618710869458:=x
def tw1404518027518294438:=x
def tw65400399881397069:=x
def tw4313240080785005546:=x
def tw9447068403218173264:=x
def tw6146535379361145594:=x
def tw14585510811039752811:=x
def tw1390068984898321231:=x
def tw5418226997774677975:=x
def tw9873704393460881250:=x
def tw17769186357784740388:=x
def tw4434245266944257040:=x
def tw4111650630223616604:=x
def tw10327881098184527669:=x
def tw4380419503191185139:=x
def tw14957086087051729276:=x
def tw6292830856078568726:=x
def tw6057733948194395588:=x
def tw3259985472912999260:=x
def tw7825650342885168384:=x
def tw12971272061996544059:=x
def tw7983575837891254933:=x
def tw1669623212318310848:=x
def tw10956420908299898621:=x
def tw10769847066555595829:=x
def tw2474598224358617902:=x
def tw17357891927509456046:=x
def tw17606242361735809947:=x
def tw1756025023010551549:=x
def tw10789206303823276629:=x
def tw5532763175557964350:=x
def tw11872337384796535679:=x
def tw17783861638532290182:=x
def tw13432069656653546881:=x
def tw16494082934280715059:=x
def tw14600585521486706565:=x
def tw578517130510323598:=x
def tw16384520688530813977:=x
def tw17158024621136986453:=x
def tw11131571715032968209:=x
def tw8555330631425285241:=x
def tw12769441587316039369:=x
def tw6851598770820266437:=x
def tw6491709083211406553:=x
def tw17430418449922276923:=x
def tw4042158531374172028:=x
def tw4185284657776556846:=x
def tw172293987918189017:=x
def tw12676948426685684459:=x
def tw9434234344811220545:=x
def tw5864018704090346016:=x
def tw2101876680182024829:=x
def tw16467510962641688313:=x
def tw12484691550508167340:=x
def tw12121669692216754925:=x
def tw16803542137830905828:=x
def tw7915904530240686142:=x
def tw1309153661853026526:=x
def tw8346113705619925842:=x
def tw14892926971852170458:=x
def tw13271741340355853473:=x
def tw14822304491976499530:=x
def tw9454345141463933095:=x
def tw12838155844666678501:=x
def tw14408167326671197577:=x
def tw11868775854136856987:=x
def tw18153744558543712397:=x
def tw14268097743632799555:=x
def tw16436404207096407126:=x
def tw11335204986218655919:=x
def tw17815596820476276635:=x
def tw12833254229957623053:=x
def tw12026184045506098003:=x
def tw14515260913324865565:=x
def tw12796033924997586434:=x
def tw13429647230845243588:=x
def tw14636036191488466973:=x
def tw12459839227509294180:=x
def tw17392373738156378008:=x
def tw15315011851860779875:=x
def tw16319134831896797341:=x
def tw3171343512168568464:=x
def tw16361495516689105192:=x
def tw15642958772352491985:=x
def tw14151582724862653169:=x
def tw11058976876682119833:=x
def tw376576702171590714:=x
def tw13445776182905265628:=x
def tw2745638105867498796:=x
def tw10883811982578467069:=x
def tw16234600853532851398:=x
def tw10132556793332638068:=x
def tw376501496272590868:=x
def tw17269981567956040742:=x
def tw6714960321096183038:=x
def tw6245437981679226437:=x
def tw11010455226066346740:=x
def tw13996163310980523002:=x
def tw13845189761437953087:=x
def tw7704510748317889709:=x
def tw1547988075614956106:=x
def tw13435002315742962684:=x
def tw13083718958922167895:=x
def tw11282924507036621425:=x
def tw6832661198990429074:=x
def tw8007164742244329170:=x
def tw4869649167666235758:=x
def tw10357883664048863880:=x
def tw18178274228643789045:=x
def tw5686239502858744745:=x
def tw6210220787521326997:=x
def tw12037842689420418428:=x
def tw13375167600402103261:=x
def tw10957804665586920484:=x
def tw17097041279578348015:=x
def tw12738023672473981612:=x
def tw9858128438993013785:=x
def tw6954345989948896921:=x
def tw12640782262741788062:=x
def tw7100317338337137122:=x
def tw3559509538367676614:=x
def tw18177752335799225965:=x
def tw16887722860072795054:=x
def tw16038257937437413852:=x
def tw8532569093869584813:=x
def tw3845665248849955598:=x
def tw18332325878956254335:=x
def tw16529646068163094371:=x
def tw13992758194719884263:=x
def tw2004914071029772023:=x
def tw13670172900987884761:=x
def tw10599139635662454003:=x
def tw8465098018572397146:=x
def tw5029929820707258343:=x
def tw4346848323286133851:=x
def tw424156106416964573:=x
def tw3923814035404791208:=x
def tw3595570060711763999:=x
def tw2786658406792538323:=x
def tw1932515976401088682:=x
def tw17391999017788367594:=x
def tw10020524256041332084:=x
def tw16145340667618695792:=x
def tw623430267141472049:=x
def tw15984822458737692414:=x
def tw14556341161497555810:=x
def tw13875455606284880600:=x
def tw11747449805408365187:=x
def tw11781212392083091973:=x
end PySem.W.Fast
set_option Elab.async false
set_option linter.all false
set_option maxRecDepth 100000
abbrev aI:=@if_neg
abbrev aL:=@if_pos
abbrev bH:=@decide_eq_true_eq
abbrev cJ:=@decide_eq_false
abbrev cP:=@beq_iff_eq
abbrev cR:=@beq_eq_false_iff_ne
abbrev dA:=@decide_eq_true
abbrev dE:=@congrArg
abbrev dJ:=@if_false
abbrev dN:=@beq_self_eq_true
open Array renaming length_toList->bR,getElem?_toList->cC,toList_append->cL,toList_extract->fE,toArray_toList->lE,toList_reverse->oI,size_extract->pN,perm_iff_toList_perm->lu,getElem?_eq_none_iff->lw,getElem?_eq_getElem->qf
open Bool renaming false_eq_true->bP,eq_iff_iff->bY,and_eq_true->cD,false_ne_true->cG,eq_false_iff->dY,false_and->fS,true_and->nZ,or_eq_true->oQ,and_false->pM,not_true->rE,or_false->AJ,not_eq_true'->IM
open Classical renaming byContradiction->gX
open Int renaming toNat_natCast->bS,eq_ofNat_of_zero_le->dZ,le_refl->hV,zero_add->pE,emod_lt_of_pos->pK,le_of_lt->sC,emod_nonneg->sL,natCast_nonneg->ES,le_trans->IL
open List renaming getElem?_eq_getElem->aA,getElem?_eq_some_iff->aC,length_map->aD,length_append->aH,getElem?_map->aJ,take_succ_eq_append_getElem->aP,take_of_length_le->aQ,mem_of_getElem?->aR,mem_singleton->aS,map_append->aT,size_toArray->aU,getElem?_append_left->aZ,mem_append_right->bA,mem_cons_of_mem->bB,mem_cons_self->bD,mem_append->bE,length_take->bF,mem_cons->bG,getElem?_append_right->bI,length_cons->bJ,mem_range->bL,mem_filter->bM,lookup_cons->bQ,mem_map->bV,getD_eq_getElem?_getD->bW,length_singleton->cA,map_cons->cI,append_nil->cK,append_assoc->cM,getElem_mem->cO,mem_append_left->cS,all_eq_true->cW,filter_append->dF,length_range->dG,getElem_of_mem->dI,pairwise_lt_range->dL,length_filter_le->dM,any_eq_true->dO,pairwise_iff_getElem->dQ,extract_eq_take_drop->dR,map_map->dX,mem_filterMap->eD,length_drop->eG,drop_eq_getElem_cons->eK,take_append_drop->eU,find?_cons->eX,mem_of_mem_take->fQ,pairwise_map->fW,range_succ->fY,replicate_succ->gA,not_mem_nil->gJ,filter_cons->gK,findIdx?_eq_some_iff_getElem->gS,getElem_toArray->gZ,getElem?_set_ne->hJ,flatMap_append->iG,getElem?_set_self->iO,nodup_cons->iR,mem_iff_getElem?->iV,getElem?_of_mem->lD,getElem?_zip_eq_some->lI,getElem?_take_of_lt->lS,length_set->lW,filterMap_map->mC,length_eq_zero_iff->mG,nodup_append->mS,flatten_cons->mT,drop_eq_nil_of_le->mU,mem_flatMap->nM,any_cons->nY,eq_nil_of_length_eq_zero->oH,of_mem_zip->oO,length_nil->oP,filterMap_cons->oS,map_nil->pA,all_map->pC,drop_zero->pJ,getElem_inj->rP,length_pos_of_mem->rY,filter_eq_nil_iff->rZ,perm_append_comm->sQ,length_replicate->sR,getElem?_eq_none->sS,filterMap_append->sT,reverse_reverse->tH,drop_drop->tI,toList_toArray->AA,reverse_append->AB,pairwise_cons->ER,reverse_perm->IJ,getElem_take->IK,nil_append->dj
open List.Pairwise renaming filter->fR
open List.Perm renaming refl->tJ
open List.cons renaming inj->AI
open Nat renaming le_refl->aG,le_trans->bU,zero_le->bZ,lt_of_lt_of_le->cF,ne_of_lt->cH,lt_irrefl->dP,sub_self->fJ,lt_of_le_of_lt->fN,zero_add->gG,testBit_div_two->iF,lt_or_eq_of_le->iN,testBit_zero->lG,testBit_two_pow->lM,testBit_and->lV,le_of_lt_succ->mR,eq_of_testBit_eq->oG,testBit_two_pow_sub_one->oZ,lt_succ_of_lt->pY,add_sub_cancel_left->rO,ne_of_gt->rW,le_of_lt->rX,testBit_or->tE,pow_le_pow_right->tF,le_succ->tG,le_succ_of_le->II,lt_succ_self->PF,two_pow_pos->dh,min_eq_left->di,ge_two_pow_of_testBit->qd
open Nat.succ renaming inj->lH
open Ne renaming symm->cE
open Option renaming map_eq_some_iff->aM,bind_eq_some_iff->cZ,isSome_map->gY,map_eq_none_iff->rV
open Option.some renaming inj->cU
open PyProof.Rows renaming wpS_bind->aY,wpS_pure->bK,callWith_type1->dW,slot_tuple_getitem->eC,wpS_forRange->eL,wpS_mono->gD,wpS_modify->mX,wpS_get->rH,listUpdate_at->rK,wpS_lift->rQ,entry_list_sort->dc,slot_list_sort->qb
open PySem renaming wpAny_bind->aF,wpAny_pure->aV,sizeLine_eq->cQ,tupleKind_room_in1->eJ,wpAny_holding->eM,mem_of_lookup->eQ,wpAny_newObj_type->eY,wpAny_Call_Name_kw->fH,wpAny_truthy_bool->fL,wpAny_loadPart'->fP,wpAny_call_entry->gW,wpAny_rule->iK,wpAny_mono->iL,wpAny_typeNameOfWhole_keyiter->iW,wpAny_typeOf->iZ,wpAny_passesOwn->lC,wpAny_attempt->lF,wpAny_typeNameOf_keyiter->mP,codeAny_builtin->mY,wpAny_callSpecial?_slot->nI,wpAny_pyIter_list->oC,wpAny_dictEntries->oE,wpAny_notOrdered_dict->oR,wpAny_newList->pF,plainId_quiet->pG,atKey_none_of_get->sK,wpAny_pyNext_list_item->tV,codeAny_mono->tW,call_meetsIn->tX,wpAny_execs_nil->AG,wpAny_pyNext_list_end->EQ,storedH_new->IG,call_meets->de,builtinLookup_eq_fast->dy,wpAny_Call_method->lq
open PySem.Around renaming under_plainId->iI
open PySem.AutoSeq1 renaming wpAny_loadPart'->PD
open PySem.Calls renaming spliced_cons->fV,callWith_builtin->lA,spliced_nil->lJ,evalArgs_plain->pL,call_function_entry->sD
open PySem.F renaming plainAttrs_list->cY,type_list_append->dS,slot_list_append->dU,slot_dict_keyiterator_next->fA,slot_list_extend->hZ,slot_list_getattribute->iH,slot_dict_get->iU,type_list_extend->lR,args_tuple_add_2->rD,plainAttrs_dict->rM,entry_tuple_add->rN,slot_tuple_add->rS,entry_dict_get->rT,args_dict_keyiterator_next_1->tZ,entry_dict_keyiterator_next->AH,slot_dict_setdefault->df,kt_typeCall_dict_1->lr,slot_dict_getitem->qc
open PySem.Heap renaming get?_push_of_some->aO,lt_size->bC,get?_push_size->bO,get?_update_other->eT,get?_update_self->oT
open PySem.Heap.SameBut renaming update->mH
open PySem.MeetsSeq3 renaming plain_eq_loop->mV
open PySem.Obj renaming data_mapFields->dg
open PySem.Paired renaming length->fD
open PySem.PassesOwn renaming never->bX
open PySem.SeqAt.EqAt renaming same->qe
open PySem.W renaming mg_none_of->cV,kia_one->eW,mg_of->fI,callWith_K->pI,plainGet_of->tY
open Sum.inl renaming inj->tD
open Sum.inr renaming inj->PR
open Lean in
local macro_rules|`(tactic|let $d:letDecl)=>do
 let n:=Syntax.node .none;let e:=d.raw[0];let q x:= `Lean.Parser.Tactic++x;if e.getKind== `Lean.Parser.Term.letPatDecl then
  let p:TSyntax `rcasesPat:=⟨e[0].rewriteBottomUp λs=>if s.getKind== `Lean.Parser.Term.anonymousCtor then n (q `rcasesPat.tuple) #[s[0],n `null (s[1].getArgs.map λx=>if x.isAtom then x else n (q `rcasesPatLo) #[n (q `rcasesPatMed) #[n `null #[if x.isIdent then n (q `rcasesPat.one) #[x] else x]],n `null #[]]),s[2]] else if s.getKind== `Lean.Parser.Term.hole then n (q `rcasesPat.ignore) #[s[0]] else s⟩
  let v:Term:=⟨e[4]⟩
  `(tactic|obtain $p:rcasesPat:=$v)
 else `(tactic|have $d:letDecl)
local macro_rules | `(#[$xs,*]) => `(⟨$xs,*⟩)
local macro_rules | `(tactic| calc $e:term) => `(tactic| refine $e)
namespace L2
open PySem PySem.Spec PyProof.Rows
variable {a b f it:Addr} {A:Around} {CX:p7} {op:CmpOp} {X:Cx} {D:tU} {c e o tg:Expr} {fd:FuncData} {base h h':Heap} {H H':Hp} {aK:List (Addr×Obj)} {kw:List (Str×Value)} {ch fp:List Addr} {outer:List Env} {es:List Expr} {N ns:List Str} {vs xs:List V} {its us:List Value} {M:Model} {i j n t':Nat} {mF p pos':Pos} {P prog:Program} {K:W.Frag} {R:Result->Shared->Prop} {s:Shared} {sp:Sp} {σ:St} {qual:Str} {mA mg:Str->Option Value} {T:String} {ta te:TE} {tb:TS} {α:Type} {v y:V} {u:Value} {E Q:Value->Shared->Prop} {w:World}
local macro_rules | `(()) => `(by lia)
abbrev fC:=Sum Int Str
noncomputable def ZS:fC->Value->Bool
 | .inl k,v=>Value.isInt k v
 | .inr x,v=>Value.isStrOf x v
noncomputable def keyH(w:World):fC->Int
 | .inl k=>hashInt k
 | .inr x=>hashStr w x
theorem yF:∀{k:fC}{v:Value},ZS k v=true->(∃i t,k=Sum.inl i/\v=Value.int i t)\/(∃x t,k=Sum.inr x/\v=Value.str x t)
 | .inl i,v,h=>by
   let⟨t,e⟩:=Value.isInt_shape (k:=i) (v:=v) h;exact .inl #[i,t,rfl,e]
 | .inr x,v,h=>by
   let⟨t,e⟩:=Value.isStrOf_shape (x:=x) (v:=v) h;exact .inr #[x,t,rfl,e]
theorem OF(i:Int)(t:Tok):ZS (.inl i) (.int i t)=true:=by simp[ZS,Value.isInt]
theorem OE(x:Str)(t:Tok):ZS (.inr x) (.str x t)=true:=by simp[ZS,Value.isStrOf]
theorem vj(a b:Int):decide ((Sum.inl a:fC)=Sum.inl b)=(a==b):=by
 by_cases e:a=b
 ·subst e;simp
 ·let h:¬(Sum.inl a:fC)=Sum.inl b:=λq=>e<|tD q
  rw[cJ h];exact(cR.mpr e).symm
theorem vg(a b:Str):decide ((Sum.inr a:fC)=Sum.inr b)=decide (a=b):=by
 by_cases e:a=b
 ·subst e;simp
 ·let h:¬(Sum.inr a:fC)=Sum.inr b:=λq=>e<|PR q
  rw[cJ h,cJ e]
theorem vi(a:Int)(b:Str):decide ((Sum.inl a:fC)=Sum.inr b)=false:=cJ λq=>nomatch q
theorem vh(a:Str)(b:Int):decide ((Sum.inr a:fC)=Sum.inl b)=false:=cJ λq=>nomatch q
noncomputable def zR(prog:Program)(w:World):PySem.KeyKind prog w fC where
 is:=ZS
 hash:=keyH w
 inj:=λv a b ha hb=>by
  rcases yF ha with⟨i,t,rfl,rfl⟩ |⟨x,t,rfl,rfl⟩
  ·rcases yF hb with⟨j,u,rfl,e⟩ |⟨y,u,rfl,e⟩
   ·injection e with e1 _;rw[e1]
   ·exact nomatch e
  ·rcases yF hb with⟨j,u,rfl,e⟩ |⟨y,u,rfl,e⟩
   ·exact nomatch e
   ·injection e with e1 _;rw[e1]
 byValue:=λk v h=>by
  rcases yF h with⟨i,t,rfl,rfl⟩ |⟨x,t,rfl,rfl⟩<;>rfl
 pyHash:=λhv h=>by
  rcases yF hv with⟨i,t,rfl,rfl⟩ |⟨x,t,rfl,rfl⟩
  ·exact wpAny_pyHash_int h
  ·exact wpAny_pyHash_str h
 eqBool:=λhu hv h=>by
  rcases yF hu with⟨i,t,rfl,rfl⟩ |⟨x,t,rfl,rfl⟩
  ·rcases yF hv with⟨j,u,rfl,rfl⟩ |⟨y,u,rfl,rfl⟩
   ·rw[vj]at h;exact wpAny_eqBool_int h
   ·rw[vi]at h;exact SeqAt.EqAt.int_str i t y u _ _ _ _ h
  ·rcases yF hv with⟨j,u,rfl,rfl⟩ |⟨y,u,rfl,rfl⟩
   ·rw[vh]at h;exact SeqAt.EqAt.str_int x t j u _ _ _ _ h
   ·rw[vg]at h;exact wpAny_eqBool_str h
 «strs»:=λk x t v h=>by
  rcases yF h with⟨i,u,rfl,e⟩ |⟨y,u,rfl,e⟩
  ·exact nomatch e
  ·injection e with e1 _
   subst e1;cases v<;>rfl
theorem CW(prog:Program)(w:World)(i:Int)(t:Tok):(zR prog w).is (.inl i) (.int i t)=true:=OF i t
theorem CV(prog:Program)(w:World)(x:Str)(t:Tok):(zR prog w).is (.inr x) (.str x t)=true:=OE x t
inductive V where
 |non |bl (b:Bool) |int (i:Int) |str (x:Str) |byt (b:Array UInt8) |flt (b:UInt64) |ref (a:Addr) |ty (n:String)
 deriving DecidableEq
def RelV:V->Value->Prop
 | .non,u=>u=Value.none
 | .bl b,u=>u=Value.bool b
 | .int i,u=>∃t,u=Value.int i t
 | .str x,u=>∃t,u=Value.str x t
 | .byt b,u=>∃t,u=Value.bytes b t
 | .flt b,u=>∃t,u=Value.float b t
 | .ref a,u=>u=Value.ref a
 | .ty n,u=>u=Value.type n
abbrev dD:List V->List Value->Prop:=Paired RelV
theorem dD.length(r:dD xs us):xs.length=us.length:=fD r
theorem dD.get:∀{xs:List V}{us:List Value}{i:Nat}{x:V},dD xs us->xs[i]?=some x->∃u,us[i]?=some u/\RelV x u
 |_,_,_,_,.nil,e=>by simp at e
 |_,_,0,_,.cons r _,e=>by simp at e;subst e;exact#[_,rfl,r]
 |_,_,i+1,x,.cons _ t,e=>by
  let⟨u,h1,h2⟩:=dD.get (i:=i) (x:=x) t (by simpa using e);exact#[u,by simpa using h1,h2]
theorem dD.set{x:V}{u:Value}(r:RelV x u):∀{xs:List V}{us:List Value}(i:Nat),dD xs us->dD (xs.set i x) (us.set i u)
 |_,_,_,.nil=>.nil
 |_,_,0,.cons _ t=>.cons r t
 |_,_,i+1,.cons q t=>.cons q<|dD.set r i t
theorem dD.append:∀{xs ys:List V}{us ws:List Value},dD xs us->dD ys ws->dD (xs++ys) (us++ws)
 |_,_,_,_,.nil,s=>s
 |_,_,_,_,.cons r t,s=>.cons r<|dD.append t s
theorem dD.take:∀{xs:List V}{us:List Value}(n:Nat),dD xs us->dD (xs.take n) (us.take n)
 |_,_,0,_=>.nil
 |_,_,_+1,.nil=>.nil
 |_,_,n+1,.cons r t=>.cons r<|dD.take n t
theorem dD.drop:∀{xs:List V}{us:List Value}(n:Nat),dD xs us->dD (xs.drop n) (us.drop n)
 |_,_,0,r=>r
 |_,_,_+1,.nil=>.nil
 |_,_,n+1,.cons _ t=>dD.drop n t
def mZ:Option V->Option Value->Prop
 |some v,some u=>RelV v u
 |none,none=>True
 |_,_=>False
def KV{κ:Type}:List (κ×V)->List (κ×Value)->Prop:=Paired λ(p:κ×V)(q:κ×Value)=>p.1=q.1/\RelV p.2 q.2
noncomputable def kV:fC->V
 | .inl i=>.int i
 | .inr x=>.str x
inductive HO where
 |lst (xs:List V)
 |tup (xs:List V)
 |dK (kvs:List (fC×V)) |dT (kvs:List (List fC×V))
 |set (S:Int->Bool) (n:Nat)
 |ins (C dx:Addr) (fs:List (Str×V))
 |own (x:Addr)
 |xd (fs:List (Str×V))
 |met (f x:Addr)
 |rng (lo hi:Int)
 |frz (o:Obj) (u:HO)
 |tbl (ps:Array Value)
 |ext (φ:Heap->Prop)
abbrev Hp:=Addr->Option HO
noncomputable def upd(H:Hp)(a:Addr)(o:HO):Hp:=λb=>if b=a then some o else H b
theorem zA{o:HO}:upd H a o a=some o:=by unfold upd;rw[aL rfl]
theorem zE{o:HO}(h:b≠a):upd H a o b=H b:=by unfold upd;rw[aI h]
theorem vS{o u:HO}:upd (upd H a o) a u=upd H a u:=by
 funext b;unfold upd;split<;>rfl
theorem jI{o u:HO}(h:H a=some o)(h':H b=some u)(d:o≠u):a≠b:=by
 intro e;subst e;rw[h]at h';exact d<|cU h'
theorem yR{o:HO}(h:H a=some o)(h':H b=none):a≠b:=by
 intro e;subst e;rw[h]at h';cases h'
section
variable (P:Program) (w:World)
def fF(H:Hp)(h:Heap)(a:Addr):HO->Prop
 | .lst xs=>xs.length<=sizeLine/\∃(its:List Value)(n:Nat),dD xs its/\h.get? a=some {cls:=.type "list",data:=.seq its.toArray n}
 | .tup xs=>xs.length<=sizeLine/\∃its:List Value,dD xs its/\IsTup h a its.toArray
 | .dK kvs=>kvs.length<=sizeLine/\(a==sysModules)=false/\∃vs,KV kvs vs/\h.DictOf (zR P w) a vs
 | .dT kvs=>kvs.length<=sizeLine/\(a==sysModules)=false/\∃xs:List (List fC×Addr×Value),
  Paired (λ(p:List fC×V) (q:List fC×Addr×Value)=>p.1=q.1/\H q.2.1=some (.tup<|p.1.map kV)/\RelV p.2 q.2.2) kvs xs/\
  ∃o es ep,h.get? a=some o/\o.ExactDict/\o.data=.dict es ep/\es.toList=xs.map (entryOfKey<|tupleKind<|zR P w)/\(xs.map (·.1)).Nodup
 | .set S n=>h.SetOf (intKind P w) a S n
 | .ins C dx fs=>H dx=some (.own a)/\fs.length<=1000/\dx≠a/\h.get? a=some (W.instObj C dx)/\
  ∃mA,h.Ns1 dx mA/\(∀f,mZ (fs.lookup f)<|mA f)/\PySem.Within mA (fs.map (·.1))
 | .own _=>∃o,h.get? a=some o
 | .xd fs=>∃mA,h.Ns1 a mA/\∀f,mZ (fs.lookup f)<|mA f
 | .rng lo hi=>∃t u v,h.get? a=some {cls:=.type "range",data:=.fields (List.toArray [.int lo t,.int hi u,.int 1 v])}
 | .frz o u=>h.get? a=some o/\fF H h a u
 | .tbl ps=>h.get? a=some {cls:=.none,data:=.fields ps}
 | .met f x=>h.get? a=some (W.methodObj (.ref f)<|.ref x)
 | .ext φ=>φ h/\(∃o,h.get? a=some o)/\∀h1 h2:Heap,φ h1->(∀o,h1.get? a=some o->h2.get? a=some o)->φ h2
def mL(H:Hp)(h:Heap):Prop:=∀a o,H a=some o->fF P w H h a o
end
section
variable {o:HO}
theorem fF.lt(x:fF P w H h a o):a<h.objs.size:=by
 cases o with
 |lst xs=>let⟨_,_,_,_,e⟩:=x;exact bC e
 |tup xs=>let⟨_,_,_,p⟩:=x;exact p.lt
 |dK kvs=>let⟨_,_,_,_,o,_,_,e,_⟩:=x;exact bC e
 |dT kvs=>let⟨_,_,_,_,o,_,_,e,_⟩:=x;exact bC e
 |set S n=>let⟨o,_,_,_,e,_⟩:=x;exact bC e
 |ins C dx fs=>let⟨_,_,_,e,_⟩:=x;exact bC e
 |own y=>let⟨_,e⟩:=x;exact bC e
 |xd fs=>let⟨_,⟨_,_,_,e,_⟩,_⟩:=x;exact bC e
 |rng lo hi=>let⟨_,_,_,e⟩:=x;exact bC e
 |frz b u=>let⟨e,_⟩:=x;exact bC e
 |tbl ps=>exact bC (show h.get? a=some _ from x)
 |met f y=>exact bC (show h.get? a=some _ from x)
 |ext φ=>let⟨_,⟨_,e⟩,_⟩:=x;exact bC e
theorem Paired.mapP{α β:Type}{F G:α->β->Prop}:∀{l₁:List α}{l₂:List β},Paired F l₁ l₂->(∀a b,F a b->G a b)->Paired G l₁ l₂
 |_,_,.nil,_=>.nil
 |_,_,.cons r t,f=>.cons (f _ _ r)<|Paired.mapP t f
theorem fF.stay(x:fF P w H h a o)(k:∀b u,(b=a\/H b=some (.own a))->h.get? b=some u->h'.get? b=some u)
 (ho:∀b,H b=some (.own a)->H' b=some (.own a)) (ht:∀b xs,H b=some (.tup xs)->H' b=some (.tup xs)):fF P w H' h' a o:=by
 induction o with
 |lst xs=>let⟨z,its,n,r,e⟩:=x;exact#[z,its,n,r,k _ _ (.inl rfl) e]
 |tup xs=>let⟨z,its,r,g,e,c⟩:=x;exact#[z,its,r,g,k _ _ (.inl rfl) e,c]
 |dK kvs=>let⟨z,y,vs,r,g,es,ep,e,c⟩:=x;exact#[z,y,vs,r,g,es,ep,k _ _ (.inl rfl) e,c]
 |dT kvs=>
  let⟨z,y,xs,r,g,es,ep,e,c⟩:=x;exact#[z,y,xs,Paired.mapP r λp q z=>#[z.1,ht _ _ z.2.1,z.2.2],g,es,ep,k _ _ (.inl rfl) e,c]
 |set S n=>let⟨g,es,ep,t,e,c⟩:=x;exact#[g,es,ep,t,k _ _ (.inl rfl) e,c]
 |ins C dx fs=>
  let⟨d,z,ne,e,mA,⟨od,es,ep,i,c⟩,r⟩:=x;exact#[ho _ d,z,ne,k _ _ (.inl rfl) e,mA,#[od,es,ep,k _ _ (.inr d) i,c],r]
 |own y=>let⟨g,e⟩:=x;exact#[g,k _ _ (.inl rfl) e]
 |xd fs=>let⟨mA,⟨od,es,ep,e,c⟩,r⟩:=x;exact#[mA,#[od,es,ep,k _ _ (.inl rfl) e,c],r]
 |rng lo hi=>let⟨t,u,v,e⟩:=x;exact#[t,u,v,k _ _ (.inl rfl) e]
 |frz g u j=>let⟨e,q⟩:=x;exact#[k _ _ (.inl rfl) e,j q]
 |tbl ps=>
  let e:h.get? a=some {cls:=.none,data:=.fields ps}:=x;show h'.get? a=some {cls:=.none,data:=.fields ps};exact k a _ (.inl rfl) e
 |met f y=>
  let e:h.get? a=some (W.methodObj (.ref f)<|.ref y):=x;show h'.get? a=some (W.methodObj (.ref f)<|.ref y);exact k a _ (.inl rfl) e
 |ext φ=>let⟨p,⟨o,e⟩,st⟩:=x;exact#[st _ _ p λo q=>k _ _ (.inl rfl) q,#[o,k _ _ (.inl rfl) e],st]
theorem mL.lt(x:mL P w H h)(e:H a=some o):a<h.objs.size:=(x a o e).lt
theorem mL.fresh(x:mL P w H h)(e:h.objs.size<=a):H a=none:=by
 cases q:H a with
 |none=>rfl
 |some u=>exact absurd (cF (x.lt q) e)<|dP _
theorem mL.kept(x:mL P w H h)(k:∀b u,h.get? b=some u->h'.get? b=some u):mL P w H h':=λa o e=>
 (x a o e).stay (λb u _ q=>k b u q) (λ_ q=>q) λ_ _ q=>q
theorem mL.laid(x:mL P w H h)(k:∀b u,h.get? b=some u->h'.get? b=some u)(hp:h.objs.size<=a)(new:fF P w (upd H a o) h' a o):mL P w (upd H a o) h':=λb u e=>by
 let hn:=x.fresh hp;by_cases hb:b=a
 ·subst hb;rw[zA]at e;cases e;exact new
 ·rw[zE hb]at e;exact(x b u e).stay (λc v _ q=>k c v q) (λc q=>by rw[zE<|yR q hn];calc q) λc xs q=>by rw[zE<|yR q hn];exact q
end
def Rd(H:Hp)(a:Addr)(u:HO):Prop:=H a=some u\/∃o,H a=some (.frz o u)
theorem Rd.ok{u:HO}(r:Rd H a u)(x:mL P w H h):fF P w H h a u:=by
 rcases r with r |⟨o,r⟩
 ·exact x a u r
 ·let⟨_,q⟩:=x a _ r;exact q
def Mut:Option HO->Prop
 |some (.lst _)=>True
 |some (.dK _)=>True
 |some (.dT _)=>True
 |some (.set _ _)=>True
 |some (.ins _ _ _)=>True
 |some (.ext _)=>True
 |_=>False
section
variable {x e:Addr} {o':HO}
theorem mL.write(ok:mL P w H h)(mu:Mut (H x))(he:e=x\/H e=some (.own x))(k:∀b u,b≠e->h.get? b=some u->h'.get? b=some u)(heo:∃u,h'.get? e=some u)
 (new:fF P w (upd H x o') h' x o'):mL P w (upd H x o') h':=λb u q=>by
 let nown:∀c y,H c=some (.own y)->c≠x:=λc y r z=>by subst z;rw[r]at mu;exact mu
 let ntup:∀c xs,H c=some (.tup xs)->c≠x:=λc xs r z=>by subst z;rw[r]at mu;exact mu
 by_cases hb:b=x
 ·subst hb;rw[zA]at q;cases q;exact new
 ·rw[zE hb]at q;by_cases a:b=e
  ·let d:H b=some (.own x):=by
    rcases he with z |z
    ·exact absurd (a.trans z) hb
    ·rw[a];exact z
   rw[q]at d;cases d;let⟨v,hv⟩:=heo;exact#[v,by rw[a];calc hv]
  ·refine(ok b u q).stay (λc v hc r=>k c v ?_ r) (λc r=>by rw[zE<|nown c b r];calc r) λc xs r=>by rw[zE<|ntup c xs r];exact r
   rcases hc with rfl |hc
   ·exact a
   ·rintro rfl;rcases he with z |z
    ·exact nown c b hc z
    ·rw[hc]at z;cases z;exact hb rfl
end
structure Un(fs ex:List Addr)(H H':Hp)(h h':Heap):Prop where
 keep:∀b o,h.get? b=some o->H b=none->b∉fs->b∉ex->h'.get? b=some o
 slot:∀b o,h.get? b=some o->H b=none->b∈fs->b∉ex->∃sl,h'.get? b=some {o with slots:=sl}
 free:∀b o,h.get? b=some o->H b=none->b∉ex->H' b=none
 there:∀b o,h.get? b=some o->b∉ex->∃o',h'.get? b=some o'
 tups:∀b xs,H b=some (.tup xs)->H' b=some (.tup xs)
 frzs:∀b o u,H b=some (.frz o u)->H' b=some (.frz o u)
 tbls:∀b ps,H b=some (.tbl ps)->∃more,H' b=some (.tbl<|ps++more)
section
variable {fs fs' ex ex':List Addr} {H1 H2:Hp} {h1 h2:Heap} {x e:Addr} {o:HO}
theorem Un.any(u:Un fs ex H H1 h h1){ob:Obj}(q:h.get? b=some ob)(n:H b=none)(hx:b∉ex):∃sl,h1.get? b=some {ob with slots:=sl}:=by
 by_cases hb:b∈fs
 ·exact u.slot b ob q n hb hx
 ·exact#[ob.slots,u.keep b ob q n hb hx]
theorem Un.kept(k:∀b u,h.get? b=some u->h'.get? b=some u):Un fs ex H H h h':=
 #[λb a q _ _ _=>k b a q,λb a q _ _ _=>#[a.slots,k b a q],λ_ _ _ n _=>n,λb a q _=>#[a,k b a q],λ_ _ q=>q,λ_ _ _ q=>q,λ_ ps q=>#[(List.toArray []),by rw[q];simp]]
theorem Un.refl:Un fs ex H H h h:=Un.kept λ_ _ q=>q
theorem Un.laid(k:∀b u,h.get? b=some u->h'.get? b=some u)(hp:h.objs.size<=a)(hn:H a=none):Un fs ex H (upd H a o) h h' where
 keep:=λb u q _ _ _=>k b u q
 slot:=λb u q _ _ _=>#[u.slots,k b u q]
 free:=λb u q n _=>by rw[zE<|cH<|cF (bC q) hp];exact n
 there:=λb u q _=>#[u,k b u q]
 tups:=λb xs q=>by rw[zE<|yR q hn];exact q
 frzs:=λb u xs q=>by rw[zE<|yR q hn];exact q
 tbls:=λb ps q=>#[(List.toArray []),by rw[zE<|yR q hn,q];simp]
theorem Un.write(mu:Mut (H x))(he:e=x\/H e=some (.own x))(k:∀b u,b≠e->h.get? b=some u->h'.get? b=some u)(heo:∃u,h'.get? e=some u):Un fs ex H (upd H x o) h h':=by
 let hx:∀b,H b=none->b≠x:=λb n z=>by subst z;rw[n]at mu;exact mu
 let hb:∀b,H b=none->b≠e:=λb n z=>by
  subst z;rcases he with r |r
  ·exact hx b n r
  ·rw[n]at r;cases r
 let hm:∀b u,H b=some u->¬Mut (some u)->b≠x:=λb u q nm z=>by subst z;rw[q]at mu;exact nm mu
 refine#[λb u q n _ _=>k b u (hb b n) q,λb u q n _ _=>#[u.slots,k b u (hb b n) q],λb u q n _=>by rw[zE<|hx b n];exact n,λb u q _=>?_,
  λb xs q=>by rw[zE<|hm b _ q λz=>z];exact q,λb u xs q=>by rw[zE<|hm b _ q λz=>z];exact q,λb ps q=>#[(List.toArray []),by rw[zE (hm b _ q λz=>z),q];simp]]
 by_cases a:b=e
 ·subst a;exact heo
 ·exact#[u,k b u a q]
end
noncomputable def trk(h:Heap)(H:Hp):List Addr:=(List.range h.objs.size).filter λa=>(H a).isSome
noncomputable def VO(h:Heap)(H:Hp):Heap:=W.hideAll h<|trk h H
theorem OI(h:Heap)(H:Hp):(VO h H).objs.size=h.objs.size:=W.hideAll_size _ _
theorem a8{o:Obj}(e:h.get? b=some o)(n:H b=none):(VO h H).get? b=some o:=
 W.hideAll_get _ e λhm=>by
  let q:(H b).isSome=true:=(bM.mp hm).2;rw[n]at q;simp at q
theorem i9{o:Obj}(e:(VO h H).get? b=some o):h.get? b=some o/\H b=none:=by
 let a:h.get? b=some o:=W.of_hideAll (trk h H) e;calc#[a,?_];cases q:H b with
 |none=>rfl
 |some x=>
  let hm:b∈trk h H:=bM.mpr #[bL.mpr<|bC a,by simp[q]];let z:(VO h H).get? b=none:=W.hideAll_none (trk h H) hm;rw[z]at e;cases e
structure Mod(K:W.Frag)(mg:Str->Option Value)(base:Heap):Prop where
 kin:K.In base
 glob:base.Ns mainGlobals mg
 blt:∃mb,base.Ns builtinsNs mb/\∀x:Str,x≠"__name__"->mb x=bootBuiltins x
 nolimit:base.NoLimit
structure Cx where
 prog:Program
 w:World
 K:W.Frag
 mg:Str->Option Value
 base:Heap
 A:Around
 N:List Str
 s₀:Shared
 H₀:Hp
 env:Env
 outer:List Env
 stack:List Env
 ex:List Addr
 fn:Str->Bool
 calm:Bool
 pn:List (Addr×Obj)
 xe:Value->Shared->Prop
noncomputable def HN(l:List Env):List Addr:=l.filterMap (·.frame)
abbrev Cx.fs(X:Cx):List Addr:=HN X.outer
def Vis(sc:Scope)(x:Str):Prop:=sc.names.lookup x=some .local\/sc.names.lookup x=some .cell\/sc.names.lookup x=some .free
def Loc(sc:Scope)(x:Str):Prop:=sc.names.lookup x=some .local\/sc.names.lookup x=some .cell
def Look(env:Env)(h:Heap)(m:Str->Option Value)(x:Str)(u:Value):Prop:=
 (env.kindOf x=some .local/\m x=some u)\/((env.kindOf x=some .cell\/env.kindOf x=some .free)/\∃c,env.cells.lookup x=some c/\h.IsCell c (some u))
structure Cx.Ok(X:Cx):Prop where
 mod:Mod X.K X.mg X.base
 kind:X.env.scope.kind=.function
 glob:X.env.globals=mainGlobals
 blt:X.env.builtins=builtinsNs
 above:X.s₀.heap.objs.size<=X.env.locals
 inj:∀x y c,X.env.cells.lookup x=some c->X.env.cells.lookup y=some c->x=y
 has:∀x,(X.env.kindOf x=some .cell\/X.env.kindOf x=some .free)->∃c,X.env.cells.lookup x=some c
 cab:∀x c,X.fn x=true->X.env.cells.lookup x=some c->X.s₀.heap.objs.size<=c
 hd:X.calm=true->X.A.handled=none
 frames:X.A.frames=some X.stack
 stk:X.stack=X.outer\/(X.stack=X.env::X.outer/\X.env.frame=some X.env.locals)
 exf:∀b∈X.ex,b≠X.env.locals/\∀x c,X.env.cells.lookup x=some c->c≠b
 bs:∀b o,X.base.get? b=some o->X.s₀.heap.get? b=some o/\X.H₀ b=none
 bsz:X.base.objs.size<=X.s₀.heap.objs.size
 noex:∀b o,X.base.get? b=some o->b∉X.ex
 exfs:∀b∈X.ex,b∉X.fs
 funs:X.s₀.heap.FunFrames X.base X.outer
 frf:∀b∈X.fs,X.H₀ b=none
structure Inv(X:Cx)(aK:List (Addr×Obj))(σ:List (Option V))(H:Hp)(s:Shared):Prop where
 ok:X.Ok
 os:s.os=X.s₀.os
 bare:AllBare s.gens
 base:Un X.fs X.ex X.H₀ H X.s₀.heap s.heap
 loc:∃m,s.heap.Ns X.env.locals m/\∀(i:Nat)(x:Str)(v:V),X.N[i]?=some x->σ[i]?=some (some v)->Vis X.env.scope x->∃u,RelV v u/\Look X.env s.heap m x u
 cell:∀x c,X.env.cells.lookup x=some c->∃v,s.heap.IsCell c v
 free:H X.env.locals=none
 freeC:∀x c,X.env.cells.lookup x=some c->H c=none
 pin:∀p∈X.pn++aK,s.heap.get? p.1=some p.2/\H p.1=none/\p.1≠X.env.locals/\p.1∉X.fs/\∀v,p.2.data≠.cell v
 hok:mL X.prog X.w H s.heap
 len:σ.length=X.N.length
section
variable {σ:List (Option V)}
theorem Cx.Ok.nofr(ok:X.Ok){o:Obj}(e:X.base.get? b=some o):b∉X.fs:=λhb=>by
 have :=(ok.funs.mem hb).1;rw[e]at this;cases this
theorem Inv.bs(I:Inv X aK σ H s):∀b o,X.base.get? b=some o->s.heap.get? b=some o/\H b=none:=λb o e=>
 #[I.base.keep b o (I.ok.bs b o e).1 (I.ok.bs b o e).2 (I.ok.nofr e) (I.ok.noex b o e),I.base.free b o (I.ok.bs b o e).1 (I.ok.bs b o e).2 (I.ok.noex b o e)]
theorem Inv.bk(I:Inv X aK σ H s):∀b o,X.base.get? b=some o->s.heap.get? b=some o:=λb o e=>(I.bs b o e).1
theorem Inv.mod(I:Inv X aK σ H s):Mod X.K X.mg X.base:=I.ok.mod
theorem Inv.kIn(I:Inv X aK σ H s):X.K.In s.heap:=I.ok.mod.kin.keeps I.bk
theorem Inv.lt(I:Inv X aK σ H s):X.env.locals<s.heap.objs.size:=let ⟨_,hn,_⟩:=I.loc;hn.lt
theorem Inv.sz(I:Inv X aK σ H s):X.s₀.heap.objs.size<=s.heap.objs.size:=bU I.ok.above<|rX I.lt
theorem Inv.nofs(I:Inv X aK σ H s)(h:s.heap.objs.size<=a):a∉X.fs:=λhb=>by
 let⟨_,o,b,_⟩:=I.ok.funs.mem hb;exact absurd (cF (bC b)<|bU I.sz h)<|dP _
theorem Inv.cne(I:Inv X aK σ H s):∀x c,X.env.cells.lookup x=some c->c≠X.env.locals:=λx c e z=>by
 let⟨v,o,d,hd⟩:=I.cell x c e;let⟨m,⟨o',es,ep,a,b,_⟩,_⟩:=I.loc;rw[z,a]at d;cases d;rw[b]at hd;cases hd
theorem Inv.funs(I:Inv X aK σ H s):s.heap.FunFrames X.base X.outer:=by
 let all:∀(l:List Env),(∀b∈HN l,b∈X.fs)->X.s₀.heap.FunFrames X.base l->s.heap.FunFrames X.base l:=by
  intro l
  induction l with
  |nil=>intro _ _;trivial
  |cons env r c=>
   intro hs hl;let⟨hk,⟨L,o,hf,hn,d,hd⟩,hr⟩:=hl;let a:L∈X.fs:=hs L (by unfold HN;rw[oS,hf];calc bD);let⟨sl,e⟩:=I.base.slot L o d (I.ok.frf L a) a λz=>I.ok.exfs L z a
   exact#[hk,#[L,_,hf,hn,e,hd],c (λb hb=>hs b (by unfold HN;rw[oS,hf];calc bB _ hb)) hr]
 exact all X.outer (λ_ hb=>hb) I.ok.funs
theorem Inv.stack(I:Inv X aK σ H s):s.heap.FunFrames X.base X.stack:=by
 rcases I.ok.stk with e |⟨e,hf⟩
 ·rw[e];exact I.funs
 ·rw[e];let⟨m,hn,_⟩:=I.loc;calc .cons (by rw[I.ok.kind];decide) hf hn ?_ I.funs;exact Heap.get?_none_of_le<|bU I.ok.bsz I.ok.above
theorem Inv.stkSub(I:Inv X aK σ H s):∀b∈HN X.stack,b∈X.env.locals::X.fs:=λb hb=>by
 rcases I.ok.stk with e |⟨e,hf⟩
 ·rw[e]at hb;exact bB _ hb
 ·rw[e]at hb;unfold HN at hb;rw[oS,hf]at hb;exact hb
theorem Inv.stkFree(I:Inv X aK σ H s):∀b∈HN X.stack,H b=none:=λb hb=>by
 rcases bG.mp (I.stkSub b hb)with e |hb
 ·rw[e];exact I.free
 ·let⟨_,o,a,_⟩:=I.ok.funs.mem hb;exact I.base.free b o a (I.ok.frf b hb) λz=>I.ok.exfs b z hb
theorem Inv.step{g':Array GenState}{d':Drawn}(I:Inv X aK σ H s)
 (hch:∀b∈ch,(b∈X.ex\/X.s₀.heap.objs.size<=b)/\b≠X.env.locals/\(∀x c,X.env.cells.lookup x=some c->c≠b)/\∀p∈X.pn++aK,p.1≠b)
 (keep:∀b o,b≠X.env.locals->b∉X.fs->b∉ch->s.heap.get? b=some o->H b=none->h'.get? b=some o)
 (slot:∀b o,b≠X.env.locals->b∈X.fs->b∉ch->s.heap.get? b=some o->H b=none->∃sl,h'.get? b=some {o with slots:=sl}) (free:∀b o,b∉ch->s.heap.get? b=some o->H b=none->H' b=none)
 (there:∀b o,b∉ch->s.heap.get? b=some o->∃o',h'.get? b=some o')
 (tups:∀b xs,H b=some (.tup xs)->H' b=some (.tup xs)) (frzs:∀b o u,H b=some (.frz o u)->H' b=some (.frz o u)) (tbls:∀b ps,H b=some (.tbl ps)->∃more,H' b=some (.tbl<|ps++more))
 (ns:∀m,s.heap.Ns X.env.locals m->h'.Ns X.env.locals m) (hok:mL X.prog X.w H' h') (hg:AllBare g'):
 Inv X aK σ H' {s with heap:=h',gens:=g',drawn:=d',toks:=t'}:=by
 let neL:∀b o,X.s₀.heap.get? b=some o->b≠X.env.locals:=λb o e=>cH<|cF (bC e) I.ok.above
 let neC:∀b o,X.s₀.heap.get? b=some o->b∉X.ex->b∉ch:=λb o e hx hb=>by
  rcases(hch b hb).1 with z |z
  ·exact hx z
  ·exact absurd (cF (bC e) z)<|dP _
 let cellK:∀x c,X.env.cells.lookup x=some c->∀v,s.heap.IsCell c v->h'.IsCell c v:=λx c e v z0=>by
  let⟨o,f,hd⟩:=z0
  let nch:c∉ch:=λz=>(hch c z).2.2.1 x c e rfl
  by_cases hc:c∈X.fs
  ·let⟨sl,q⟩:=slot c o (I.cne x c e) hc nch f<|I.freeC x c e;exact#[_,q,hd]
  ·exact#[o,keep c o (I.cne x c e) hc nch f<|I.freeC x c e,hd]
 refine#[I.ok,I.os,hg,#[λb o e n hb hx=>?_,λb o e n hb hx=>?_,λb o e n hx=>?_,λb o e hx=>?_,λb xs e=>tups b xs<|I.base.tups b xs e,λb o xs e=>frzs b o xs<|I.base.frzs b o xs e,λb ps e=>?_],?_,λx c e=>?_,?_,λx c e=>?_,λp hp=>?_,hok,I.len]
 ·exact keep b o (neL b o e) hb (neC b o e hx) (I.base.keep b o e n hb hx)<|I.base.free b o e n hx
 ·let⟨sl,a⟩:=I.base.slot b o e n hb hx;let⟨h,g⟩:=slot b _ (neL b o e) hb (neC b o e hx) a<|I.base.free b o e n hx;exact#[h,g]
 ·let⟨o',a⟩:=I.base.there b o e hx;exact free b o' (neC b o e hx) a<|I.base.free b o e n hx
 ·let⟨o',a⟩:=I.base.there b o e hx;exact there b o' (neC b o e hx) a
 ·let⟨j,a⟩:=I.base.tbls b ps e;let⟨t,g⟩:=tbls b _ a;exact#[j++t,by rw[g,Array.append_assoc]]
 ·let⟨m,hn,hl⟩:=I.loc;calc#[m,ns m hn,λi x v a g y=>?_];let⟨u,r,l⟩:=hl i x v a g y;calc#[u,r,?_];rcases l with l |⟨k,c,e,z⟩
  ·exact .inl l
  ·exact .inr #[k,c,e,cellK x c e _ z]
 ·let⟨v,z⟩:=I.cell x c e;exact#[v,cellK x c e v z]
 ·let⟨m,⟨o,_,_,f,_⟩,_⟩:=I.loc;exact free _ o (λz=>(hch _ z).2.1 rfl) f I.free
 ·let⟨v,o,f,hd⟩:=I.cell x c e;exact free c o (λz=>(hch c z).2.2.1 x c e rfl) f<|I.freeC x c e
 ·let⟨e,n,ne,nf,d⟩:=I.pin p hp;let nch:p.1∉ch:=λz=>(hch p.1 z).2.2.2 p hp rfl
  exact#[keep p.1 p.2 ne nf nch e n,free p.1 p.2 nch e n,ne,nf,d]
theorem Inv.un(I:Inv X aK σ H s)(u:Un X.fs [] H H' s.heap h')(hok:mL X.prog X.w H' h'):Inv X aK σ H' {s with heap:=h',toks:=t'}:=by
 let⟨m,⟨o,es,ep,f,r⟩,_⟩:=id I.loc;let⟨sl,g⟩:=u.any f I.free (by simp);exact I.step (g':=s.gens) (d':=s.drawn) (ch:=[]) (λ_ z=>nomatch z) (λb o _ hb _ e n=>u.keep b o e n hb (by simp)) (λb o _ hb _ e n=>u.slot b o e n hb (by simp)) (λb o _ e n=>u.free b o e n (by simp)) (λb o _ e=>u.there b o e (by simp)) u.tups u.frzs u.tbls (λi hm=>by
  let⟨o',c,d,a,h⟩:=hm;rw[f]at a;cases a;calc#[_,c,d,g,h]) hok I.bare
theorem Inv.call{g':Array GenState}{d':Drawn}(I:Inv X aK σ H s)(u:Un (HN X.stack) ch H H' s.heap h')(hok:mL X.prog X.w H' h')(hg:AllBare g')
 (hch:∀b∈ch,(b∈X.ex\/X.s₀.heap.objs.size<=b)/\b≠X.env.locals/\(∀x c,X.env.cells.lookup x=some c->c≠b)/\∀p∈X.pn++aK,p.1≠b):
 Inv X aK σ H' {s with heap:=h',gens:=g',drawn:=d',toks:=t'}:=by
 let⟨m,⟨o,es,ep,h,r⟩,_⟩:=id I.loc;let⟨sl,d⟩:=u.any h I.free λz=>(hch _ z).2.1 rfl
 exact I.step (ch:=ch) hch (λb o d hb hc e n=>u.keep b o e n (λz=>(bG.mp<|I.stkSub b z).elim d hb) hc) (λb o _ _ hc e n=>u.any e n hc) (λb o hc e n=>u.free b o e n hc) (λb o hc e=>u.there b o e hc) u.tups u.frzs u.tbls (λj hm=>by
  let⟨o',f,g,a,i⟩:=hm;rw[h]at a;cases a;calc#[_,f,g,d,i]) hok hg
theorem Inv.turned(I:Inv X aK σ H s)(k:∀b o,b≠it->s.heap.get? b=some o->h'.get? b=some o)(hn:H it=none)(hL:it≠X.env.locals)
 (h1:it∈X.ex\/X.s₀.heap.objs.size<=it) (h2:∀x c,X.env.cells.lookup x=some c->c≠it) (h3:∀p∈X.pn++aK,p.1≠it):Inv X aK σ H {s with heap:=h',toks:=t'}:=by
 let nit:∀b u,H b=some u->b≠it:=λb u e z=>by rw[z,hn]at e;cases e
 refine I.step (g':=s.gens) (d':=s.drawn) (ch:=[it]) (λb hb=>?_) (λb o _ _ hc e _=>k b o (λz=>hc (by simp[z])) e) (λb o _ _ hc e _=>#[o.slots,k b o (λz=>hc (by simp[z])) e]) (λ_ _ _ _ n=>n)
  (λb o hc e=>#[o,k b o (λz=>hc (by simp[z])) e]) (λ_ _ e=>e) (λ_ _ _ e=>e) (λb ps e=>#[(List.toArray []),by rw[e];simp]) (λm hm=>?_) (λb u e=>?_) I.bare
 ·let e:b=it:=by simpa using hb
  subst e;exact#[h1,hL,h2,h3]
 ·let⟨o,es,ep,a,r⟩:=hm;exact#[o,es,ep,k _ o (cE hL) a,r]
 ·refine(I.hok b u e).stay (λc v hc q=>k c v ?_ q) (λ_ q=>q) λ_ _ q=>q
  rcases hc with z |z
  ·rw[z];exact nit b u e
  ·exact nit c _ z
theorem Inv.tok(I:Inv X aK σ H s)(t:Nat):Inv X aK σ H {s with toks:=t}:=I.un (h':=s.heap) (t':=t) Un.refl I.hok
theorem Inv.kept(I:Inv X aK σ H s)(k:∀b u,s.heap.get? b=some u->h'.get? b=some u):Inv X aK σ H {s with heap:=h',toks:=t'}:=I.un (Un.kept k)<|I.hok.kept k
theorem Inv.laid{o:HO}(I:Inv X aK σ H s)(k:∀b u,s.heap.get? b=some u->h'.get? b=some u)(hp:s.heap.objs.size<=a)(new:fF X.prog X.w (upd H a o) h' a o):
 Inv X aK σ (upd H a o) {s with heap:=h',toks:=t'}:=I.un (Un.laid k hp<|I.hok.fresh hp)<|I.hok.laid k hp new
theorem Inv.write{x e:Addr}{o:HO}(I:Inv X aK σ H s)(mu:Mut (H x))(he:e=x\/H e=some (.own x))(k:∀b u,b≠e->s.heap.get? b=some u->h'.get? b=some u)(heo:∃u,h'.get? e=some u)
 (new:fF X.prog X.w (upd H x o) h' x o):Inv X aK σ (upd H x o) {s with heap:=h',toks:=t'}:=I.un (Un.write mu he k heo)<|I.hok.write mu he k heo new
theorem Inv.pins_of{pins':List (Addr×Obj)}(I:Inv X aK σ H s)(h:∀p∈pins',s.heap.get? p.1=some p.2/\H p.1=none/\p.1≠X.env.locals/\p.1∉X.fs/\∀v,p.2.data≠.cell v):Inv X pins' σ H s:=
 #[I.ok,I.os,I.bare,I.base,I.loc,I.cell,I.free,I.freeC,λp hp=>(bE.mp hp).elim (λz=>I.pin p<|cS _ z) (h p),I.hok,I.len]
theorem CS(hN:N.Nodup){x:Str}(a:N[i]?=some x)(b:N[j]?=some x):i=j:=by
 let⟨h1,c⟩:=aC.mp a;let⟨h2,d⟩:=aC.mp b;exact(rP hN).mp (c.trans d.symm)
theorem QA{x:Str}{Q:Unit->Shared->Prop}(I:Inv X aK σ H s)(hN:X.N.Nodup)(hi:X.N[i]?=some x)(hx:Loc X.env.scope x)(r:RelV v u)
 (h:∀s',Inv X aK (σ.set i<|some v) H s'->(∃a,Heap.SameBut a s.heap s'.heap/\(a=X.env.locals\/X.env.cells.lookup x=some a))->Q Unit.unit s') (hf:X.fn x=true\/X.env.scope.names.lookup x=some .local:=by first |exact .inl rfl |exact .inr rfl |assumption):wpAny M A (storeName X.env x u) Q E s:=by
 let⟨m,hn,hl⟩:=id I.loc;let C:(X.env.scope.kind==.class ||(X.env.scope.kind==.module&&X.env.locals !=X.env.globals))=false:=by rw[I.ok.kind];rfl
 let hiσ:i<σ.length:=by rw[I.len];exact(aC.mp hi).1
 let cne:=I.cne;let tracked:∀{a:Addr}{h':Heap},(∃o,s.heap.get? a=some o/\H a=none)->Heap.SameBut a s.heap h'->mL X.prog X.w H h':=λ{a h'} ha hs b U e=>by
  let⟨_,_,g⟩:=ha;refine(I.hok b U e).stay (λc K hc q=>(hs.2 c ?_).trans q) (λ_ q=>q) λ_ _ q=>q
  rintro rfl;rcases hc with rfl |hc
  ·rw[g]at e;cases e
  ·rw[g]at hc;cases hc
 rcases hx with hk |hk
 ·calc wpAny_storeName_local hk hn (λh' O hs=>?_) C;let⟨oL,_,_,P,_⟩:=id hn;refine h _ #[I.ok,I.os,I.bare,#[λb o e n hb hx=>?_,λb o e n hb hx=>?_,I.base.free,λb o e hx=>?_,I.base.tups,I.base.frzs,I.base.tbls],#[_,O,λj y v' f l R=>?_],λy c e=>?_,I.free,I.freeC,λp hp=>?_,tracked #[oL,P,I.free] hs,by simpa using I.len] #[_,hs,.inl rfl]
  ·exact(hs.2 b<|cH<|cF (bC e) I.ok.above).trans (I.base.keep b o e n hb hx)
  ·let⟨sl,f⟩:=I.base.slot b o e n hb hx;exact#[sl,(hs.2 b<|cH<|cF (bC e) I.ok.above).trans f]
  ·let⟨o',f⟩:=I.base.there b o e hx;exact#[o',(hs.2 b<|cH<|cF (bC e) I.ok.above).trans f]
  ·by_cases t:j=i
   ·subst t;rw[hi]at f;cases f;rw[iO hiσ]at l;cases l;exact#[u,r,.inl #[hk,by simp]]
   ·rw[hJ<|cE t]at l;let⟨S,T,q⟩:=hl j y v' f l R;calc#[S,T,?_];rcases q with⟨k,e⟩ |⟨k,c,e,z⟩
    ·calc .inl #[k,?_];have :y≠x:=λe=>t<|CS hN f<|e▸hi
     simp[this,e]
    ·exact .inr #[k,c,e,z.sameBut hs<|cne y c e]
  ·let⟨K,z⟩:=I.cell y c e;exact#[K,z.sameBut hs<|cne y c e]
  ·let⟨e,n,ne,nf,d⟩:=I.pin p hp;exact#[(hs.2 p.1 ne).trans e,n,ne,nf,d]
 ·let B:X.fn x=true:=by
   rcases hf with z |z
   ·exact z
   ·rw[z]at hk;cases hk
  let⟨c,hc⟩:=I.ok.has x<|.inl hk;let⟨K,z⟩:=I.cell x c hc;calc wpAny_storeName_cell I.ok.kind hk hc z λh' D hs=>?_;let⟨oc,F,G⟩:=id z;refine h {s with heap:=h'} #[I.ok,I.os,I.bare,#[λb o e n hb hx=>?_,λb o e n hb hx=>?_,I.base.free,λb o e hx=>?_,I.base.tups,I.base.frzs,I.base.tbls],#[m,hn.sameBut hs<|cE<|cne x c hc,λj y v' f l R=>?_],λy L e=>?_,I.free,I.freeC,λp hp=>?_,tracked #[oc,F,I.freeC x c hc] hs,by simpa using I.len] #[c,hs,.inr hc]
  ·exact(hs.2 b<|cH<|cF (bC e)<|I.ok.cab x c B hc).trans (I.base.keep b o e n hb hx)
  ·let⟨sl,f⟩:=I.base.slot b o e n hb hx;exact#[sl,(hs.2 b<|cH<|cF (bC e)<|I.ok.cab x c B hc).trans f]
  ·let⟨o',f⟩:=I.base.there b o e hx;exact#[o',(hs.2 b<|cH<|cF (bC e)<|I.ok.cab x c B hc).trans f]
  ·by_cases t:j=i
   ·subst t;rw[hi]at f;cases f;rw[iO hiσ]at l;cases l;exact#[u,r,.inr #[.inl hk,c,hc,D]]
   ·rw[hJ<|cE t]at l;let⟨S,T,q⟩:=hl j y v' f l R;calc#[S,T,?_];rcases q with q |⟨k,L,e,W⟩
    ·exact .inl q
    ·calc .inr #[k,L,e,W.sameBut hs ?_];rintro rfl;exact t<|CS hN f<|I.ok.inj _ _ _ e hc▸hi
  ·by_cases J:L=c
   ·subst J;exact#[_,D]
   ·let⟨Y,Z⟩:=I.cell y L e;exact#[Y,Z.sameBut hs J]
  ·let⟨e,n,ne,nf,d⟩:=I.pin p hp;calc#[(hs.2 p.1 ?_).trans e,n,ne,nf,d];intro q;rw[q,F]at e;let q':oc=p.2:=cU e;exact d K (by rw[←q'];calc G)
theorem XA{x:Str}{Q:Unit->Shared->Prop}(I:Inv X aK σ H s)(hN:X.N.Nodup)(hi:X.N[i]?=some x)(hx:Loc X.env.scope x)(r:RelV v u)
 (h:∀s',Inv X aK (σ.set i<|some v) H s'->Q Unit.unit s') (hf:X.fn x=true\/X.env.scope.names.lookup x=some .local:=by first |exact .inl rfl |exact .inr rfl |assumption):wpAny M A (storeName X.env x u) Q E s:=
 QA I hN hi hx r (λs' a _=>h s' a) hf
theorem Inv.call'{s':Shared}(I:Inv X aK σ H s)(ho:s'.os=s.os)(u:Un (HN X.stack) ch H H' s.heap s'.heap)(hok:mL X.prog X.w H' s'.heap)(hg:AllBare s'.gens)
 (hch:∀b∈ch,(b∈X.ex\/X.s₀.heap.objs.size<=b)/\b≠X.env.locals/\(∀x c,X.env.cells.lookup x=some c->c≠b)/\∀p∈X.pn++aK,p.1≠b):Inv X aK σ H' s':=by
 let⟨h',g',d',t',o'⟩:=s';let e:o'=s.os:=ho;subst e;exact I.call (g':=g') (t':=t') (d':=d') u hok hg hch
end
abbrev XK:=Value->Option Addr->Hp->Prop
abbrev St:=List<|Option V
abbrev VK:=V->Hp->Prop
abbrev TE:=St->Hp->VK->Prop
abbrev TT:=St->Hp->(Bool->Hp->Prop)->Prop
abbrev TA:=St->Hp->(List V->Hp->Prop)->Prop
structure tU where
 nx:St->Hp->Prop
 rt:VK
 bk:St->Hp->Prop:=λ_ _=>False
 ct:St->Hp->Prop:=λ_ _=>False
abbrev TS:=tU->St->Hp->Prop
def EP(X:Cx)(aK:List (Addr×Obj))(σ:St)(Q:VK)(u:Value)(s':Shared):Prop:=∃v H',Inv X aK σ H' s'/\RelV v u/\Q v H'
def TP(X:Cx)(aK:List (Addr×Obj))(σ:St)(Q:Bool->Hp->Prop)(b:Bool)(s':Shared):Prop:=∃H',Inv X aK σ H' s'/\Q b H'
def AP(X:Cx)(aK:List (Addr×Obj))(σ:St)(Q:List V->Hp->Prop)(us:List Value)(s':Shared):Prop:=∃vs H',Inv X aK σ H' s'/\dD vs us/\Q vs H'
def SP(X:Cx)(aK:List (Addr×Obj))(D:tU)(f:Flow)(s':Shared):Prop:=
 match f with
 | .next=>∃σ' H',Inv X aK σ' H' s'/\D.nx σ' H'
 | .brk=>∃σ' H',Inv X aK σ' H' s'/\D.bk σ' H'
 | .cont=>∃σ' H',Inv X aK σ' H' s'/\D.ct σ' H'
 | .ret u=>∃v σ' H',Inv X aK σ' H' s'/\RelV v u/\D.rt v H'
def PE(X:Cx)(e:Expr)(t:TE):Prop:=
 ∀(aK:List (Addr×Obj))(s:Shared)(σ:St)(H:Hp)(Q:VK),Inv X aK σ H s->t σ H Q->wpAny (model X.prog X.w) X.A (eval e X.env) (EP X aK σ Q) X.xe s
def PT(X:Cx)(e:Expr)(t:TT):Prop:=
 ∀(aK:List (Addr×Obj))(s:Shared)(σ:St)(H:Hp)(Q:Bool->Hp->Prop),Inv X aK σ H s->t σ H Q->wpAny (model X.prog X.w) X.A (isTrue e X.env<|eval e X.env) (TP X aK σ Q) X.xe s
def PW(X:Cx)(e:Expr)(t:TT):Prop:=
 ∀(whole:Sem Value)(aK:List (Addr×Obj))(s:Shared)(σ:St)(H:Hp)(Q:Bool->Hp->Prop),Inv X aK σ H s->t σ H Q->wpAny (model X.prog X.w) X.A (isTrue e X.env whole) (TP X aK σ Q) X.xe s
theorem PW.pt{t:TT}(h:PW X e t):PT X e t:=h _
def PA(X:Cx)(es:List Expr)(t:TA):Prop:=
 ∀(pos:Pos)(aK:List (Addr×Obj))(s:Shared)(σ:St)(H:Hp)(Q:List V->Hp->Prop),Inv X aK σ H s->t σ H Q->wpAny (model X.prog X.w) X.A (spliced<|backTo pos<|starEach es X.env) (AP X aK σ Q) X.xe s
def PS(X:Cx)(st:Stmt)(t:TS):Prop:=
 ∀(aK:List (Addr×Obj))(s:Shared)(σ:St)(H:Hp)(D:tU),Inv X aK σ H s->t D σ H->wpAny (model X.prog X.w) X.A (exec st X.env) (SP X aK D) X.xe s
def EU(X:Cx)(st:List Stmt)(t:TS):Prop:=
 ∀(aK:List (Addr×Obj))(s:Shared)(σ:St)(H:Hp)(D:tU),Inv X aK σ H s->t D σ H->wpAny (model X.prog X.w) X.A (execs st X.env) (SP X aK D) X.xe s
theorem eP{t:Sem α}{Q Q':α->Shared->Prop}(h:wpAny M A t Q E s)(hQ:∀a s,Q a s->Q' a s):wpAny M A t Q' E s:=iL h hQ λ_ _ x=>x
def AE(x:V)(k:Int->Prop):Prop:=match x with | .int i=>k i |_=>False
def mJ(x:V)(k:Addr->Prop):Prop:=match x with | .ref i=>k i |_=>False
def oz(x:V)(k:Bool->Prop):Prop:=match x with | .bl i=>k i |_=>False
def asS(x:V)(k:Str->Prop):Prop:=match x with | .str i=>k i |_=>False
def asV(x:Option (Option V))(k:V->Prop):Prop:=match x with |some (some i)=>k i |_=>False
def asC(x:List V)(k:V->List V->Prop):Prop:=match x with |v::r=>k v r |_=>False
def pW(x:List V)(k:V->Prop):Prop:=match x with |[v]=>k v |_=>False
def ki(x:List V)(k:V->V->Prop):Prop:=match x with |[v,u]=>k v u |_=>False
def as0(x:List V)(k:Prop):Prop:=match x with |[]=>k |_=>False
def dr(x:Bool)(k:Prop):Prop:=match x with |true=>k |false=>False
theorem jS{x:V}{k:Int->Prop}(h:AE x k):∃i,x=.int i/\k i:=by cases x<;>first |exact#[_,rfl,h] |exact h.elim
theorem yS{x:V}{k:Addr->Prop}(h:mJ x k):∃i,x=.ref i/\k i:=by cases x<;>first |exact#[_,rfl,h] |exact h.elim
theorem HZ{x:V}{k:Bool->Prop}(h:oz x k):∃i,x=.bl i/\k i:=by cases x<;>first |exact#[_,rfl,h] |exact h.elim
theorem xh{x:V}{k:Str->Prop}(h:asS x k):∃i,x=.str i/\k i:=by cases x<;>first |exact#[_,rfl,h] |exact h.elim
theorem xg{x:Option (Option V)}{k:V->Prop}(h:asV x k):∃i,x=some (some i)/\k i:=by
 rcases x with _ |_ |i
 ·exact h.elim
 ·exact h.elim
 ·exact#[i,rfl,h]
theorem asC_{x:List V}{k:V->List V->Prop}(h:asC x k):∃v r,x=v::r/\k v r:=by
 cases x
 ·exact h.elim
 ·exact#[_,_,rfl,h]
theorem vQ{x:List V}{k:V->Prop}(h:pW x k):∃v,x=[v]/\k v:=by
 rcases x with _ |⟨v,_ |_⟩
 ·exact h.elim
 ·exact#[_,rfl,h]
 ·exact h.elim
theorem as2_{x:List V}{k:V->V->Prop}(h:ki x k):∃v u,x=[v,u]/\k v u:=by
 rcases x with _ |⟨v,_ |⟨u,_ |_⟩⟩
 ·exact h.elim
 ·exact h.elim
 ·exact#[_,_,rfl,h]
 ·exact h.elim
theorem as0_{x:List V}{k:Prop}(h:as0 x k):x=[]/\k:=by
 cases x
 ·exact#[rfl,h]
 ·exact h.elim
theorem EJ{x:Bool}{k:Prop}(h:dr x k):x=true/\k:=by
 cases x
 ·exact h.elim
 ·exact#[rfl,h]
theorem asT_e{x:Bool}{k:Prop}:dr x k=(x=true/\k):=propext #[EJ,by rintro⟨rfl,h⟩;calc h]
theorem asT_i{k:Prop}:dr true k=k:=rfl
theorem mapC{β:Type}{f:α->β}{a:α}{l:List α}:List.map f (a::l)=f a::List.map f l:=rfl
theorem mapN{β:Type}{f:α->β}:List.map f []=[]:=rfl
theorem asI_e{x:V}{k:Int->Prop}:AE x k=∃i,x=.int i/\k i:=propext #[jS,by rintro⟨i,rfl,h⟩;calc h]
theorem asR_e{x:V}{k:Addr->Prop}:mJ x k=∃i,x=.ref i/\k i:=propext #[yS,by rintro⟨i,rfl,h⟩;calc h]
theorem asB_e{x:V}{k:Bool->Prop}:oz x k=∃i,x=.bl i/\k i:=propext #[HZ,by rintro⟨i,rfl,h⟩;calc h]
theorem asS_e{x:V}{k:Str->Prop}:asS x k=∃i,x=.str i/\k i:=propext #[xh,by rintro⟨i,rfl,h⟩;calc h]
theorem asV_e{x:Option (Option V)}{k:V->Prop}:asV x k=∃i,x=some (some i)/\k i:=propext #[xg,by rintro⟨i,rfl,h⟩;calc h]
theorem asC_e{x:List V}{k:V->List V->Prop}:asC x k=∃v r,x=v::r/\k v r:=propext #[asC_,by rintro⟨v,r,rfl,h⟩;calc h]
theorem as1_e{x:List V}{k:V->Prop}:pW x k=∃v,x=[v]/\k v:=propext #[vQ,by rintro⟨v,rfl,h⟩;calc h]
theorem as2_e{x:List V}{k:V->V->Prop}:ki x k=∃v u,x=[v,u]/\k v u:=propext #[as2_,by rintro⟨v,u,rfl,h⟩;calc h]
theorem as0_e{x:List V}{k:Prop}:as0 x k=(x=[]/\k):=propext #[as0_,by rintro⟨rfl,h⟩;calc h]
theorem asI_i{i:Int}{k:Int->Prop}:AE (.int i) k=k i:=rfl
theorem asR_i{i:Addr}{k:Addr->Prop}:mJ (.ref i) k=k i:=rfl
theorem asB_i{i:Bool}{k:Bool->Prop}:oz (.bl i) k=k i:=rfl
theorem asS_i{i:Str}{k:Str->Prop}:asS (.str i) k=k i:=rfl
theorem asV_i{i:V}{k:V->Prop}:asV (some<|some i) k=k i:=rfl
theorem asC_i{r:List V}{k:V->List V->Prop}:asC (v::r) k=k v r:=rfl
theorem as1_i{k:V->Prop}:pW [v] k=k v:=rfl
theorem as2_i{u:V}{k:V->V->Prop}:ki [v,u] k=k v u:=rfl
theorem as0_i{k:Prop}:as0 [] k=k:=rfl
section
def eo(i:Nat):TE:=λσ H Q=>asV σ[i]? λv=>Q v H
def tC(v:V):TE:=λ_ H Q=>Q v H
theorem TB{x:Str}{pos:Pos}(hN:X.N[i]?=some x)(hv:Vis X.env.scope x)(hd:autoParam ((x==("__debug__":Str))=false) a2._auto_1)(hcd:autoParam ((x==("__classdict__":Str))=false) a2._auto_1):PE X (.Name x pos) (eo i):=by
 intro aK s σ H Q I h;replace h:=xg h;let⟨v,e,h⟩:=h;let⟨m,hn,hl⟩:=I.loc;let⟨u,r,l⟩:=hl i x v hN e hv;let fin:EP X aK σ Q u s:=#[v,H,I,r,h]
 rcases l with⟨hk,hm⟩ |⟨hk,c,hc,a⟩
 ·exact wpAny_Name (wpAny_loadName_local I.ok.kind hk hn hm fin) hd
 ·rcases hk with hk |hk
  ·exact wpAny_Name (wpAny_loadName_cell I.ok.kind hk hc a fin) hd
  ·exact wpAny_Name (wpAny_loadName_free I.ok.kind hk hc a fin hcd) hd
theorem zJ{i j pos}:PE X (.Constant (.int i) j pos) (tC<|.int i):=λ_ _ _ H _ I h=>wpAny_Constant_int #[.int i,H,I.tok _,#[_,rfl],h]
theorem KR{b j pos}:PE X (.Constant (.bool b) j pos) (tC<|.bl b):=λ_ _ _ H _ I h=>Constant_bool #[.bl b,H,I,rfl,h]
theorem wK{j pos}:PE X (.Constant .none j pos) (tC .non):=λ_ _ _ H _ I h=>Constant_none #[.non,H,I,rfl,h]
theorem xX{x j pos}:PE X (.Constant (.str x) j pos) (tC<|.str x):=λ_ _ _ H _ I h=>Calls.Constant_str #[.str x,H,I.tok _,#[_,rfl],h]
def Gl(X:Cx)(x:Str):Prop:=X.env.kindOf x=some .globalImplicit
theorem VG{x:Str}{pos:Pos}(I:Inv X aK σ H s)(hg:Gl X x)(hm:X.mg x=some u)(h:Q u s)
 (hd:autoParam ((x==("__debug__":Str))=false) a2._auto_1):wpAny (model X.prog X.w) X.A (eval (.Name x pos) X.env) Q E s:=
 Calls.Name_function_global I.ok.kind hg (Calls.loadGlobal_global (by rw[I.ok.glob];calc I.mod.glob.keeps I.bk) hm h) hd
theorem qR{x:Str}{pos:Pos}(I:Inv X aK σ H s)(hg:Gl X x)(hm:X.mg x=none)(hv:bootBuiltins x=some u)(h:Q u s)
 (hn:autoParam (x≠"__name__") a2._auto_1) (hd:autoParam ((x==("__debug__":Str))=false) a2._auto_1):wpAny (model X.prog X.w) X.A (eval (.Name x pos) X.env) Q E s:=by
 let⟨mb,h1,h2⟩:=I.mod.blt;exact Calls.Name_function_global I.ok.kind hg (Calls.loadGlobal_builtin (by rw[I.ok.glob];calc I.mod.glob.keeps I.bk) hm (by rw[I.ok.blt];calc h1.keeps I.bk) ((h2 x hn).trans hv) h) hd
theorem KP{x:Str}{pos:Pos}(hg:Gl X x)(hm:X.mg x=some u)(r:RelV v u)(hd:autoParam ((x==("__debug__":Str))=false) a2._auto_1):PE X (.Name x pos) (tC v):=
 λ_ _ _ H _ I h=>VG I hg hm #[v,H,I,r,h] hd
theorem ik{x:Str}{pos:Pos}(hg:Gl X x)(hm:X.mg x=none)(hv:bootBuiltins x=some u)(r:RelV v u)(hn:autoParam (x≠"__name__") a2._auto_1)(hd:autoParam ((x==("__debug__":Str))=false) a2._auto_1):PE X (.Name x pos) (tC v):=
 λ_ _ _ H _ I h=>qR I hg hm hv #[v,H,I,r,h] hn hd
variable {a b:Expr} {tb:TE} {pos:Pos}
def PC(X:Cx)(op:CmpOp)(a b:Expr)(t:TE):Prop:=
 ∀(aK:List (Addr×Obj)) (s:Shared) (σ:St) (H:Hp) (Q:VK),Inv X aK σ H s->t σ H Q->
  wpAny (model X.prog X.w) X.A (eval a X.env) (λv s₁=>wpAny (model X.prog X.w) X.A (eval b X.env) (λu s₂=>wpAny (model X.prog X.w) X.A (compareOp op v u) (EP X aK σ Q) X.xe s₂) X.xe s₁) X.xe s
theorem CT(b:Expr)(h:op≠.In)(h2:op≠.NotIn):behindInMarks op b=false:=by
 let a:(op==CmpOp.In)=false:=by cases op<;>first |rfl |exact absurd rfl h
 let c:(op==CmpOp.NotIn)=false:=by cases op<;>first |rfl |exact absurd rfl h2
 cases b<;>simp[behindInMarks,a,c]
def tB(t:TE):TT:=λσ H Q=>t σ H λx H1=>oz x λc=>Q c H1
theorem uo{t:TE}(h:PC X op a b t)(h1:behindInMarks op b=false:=by first |exact CT _ (by decide) (by decide) |rfl):PE X (.Compare a [op] [b] pos) t:=λaK s σ H Q I c=>wpAny_Compare1 (h aK s σ H Q I c) h1
theorem ZA{t:TE}(h:PC X op a b t)(h1:behindInMarks op b=false:=by first |exact CT _ (by decide) (by decide) |rfl):PT X (.Compare a [op] [b] pos) (tB t):=by
 intro aK s σ H Q I f;calc wpAny_isTrue_Compare1 (eP (h aK s σ H _ I f) λv s1 h1=>eP h1 λu s2 h2=>eP h2 λc i z=>?_) h1;let⟨x,H1,g,r1,e⟩:=z;replace e:=HZ e;let⟨d,rfl,q⟩:=e;cases r1;exact fL #[H1,g,q]
theorem kZ{t:TE}(h:PE X e t)(he:∀whole,isTrue e X.env whole=(do let v ←whole;standAt e.pos;holding [v]<|truthy v):=by intro _;rfl):PT X e (tB t):=by
 intro aK s σ H Q I b;calc isTrue_plain (eP (h aK s σ H _ I b) λv s1 z=>?_)<|he _;let⟨x,H1,c,r1,a⟩:=z;replace a:=HZ a;let⟨d,rfl,q⟩:=a;cases r1;exact fL #[H1,c,q]
variable {tA tB':TT} {rest:List Expr}
def tAnd(t u:TT):TT:=λσ H Q=>t σ H λc H1=>if c=true then u σ H1 Q else Q false H1
def tOr(t u:TT):TT:=λσ H Q=>t σ H λc H1=>if c=true then Q true H1 else u σ H1 Q
def tNot(t:TT):TT:=λσ H Q=>t σ H λc H1=>Q (!c) H1
theorem UV(ha:PT X a tA):PW X (.BoolOp .And [a] pos) tA:=by
 intro b aK s σ H Q I h;calc isTrue_and (eP (ha aK s σ H Q I h) λc s1 e=>?_);cases c with
 |true=>exact isTrue_and_nil e
 |false=>exact e
theorem ui(ha:PT X a tA):PW X (.BoolOp .Or [a] pos) tA:=by
 intro b aK s σ H Q I h;calc isTrue_or (eP (ha aK s σ H Q I h) λc s1 e=>?_);cases c with
 |false=>exact isTrue_or_nil e
 |true=>exact e
theorem XI(ha:PT X a tA)(hb:PW X (.BoolOp .And (b::rest) pos) tB'):PW X (.BoolOp .And (a::b::rest) pos) (tAnd tA tB'):=by
 intro f aK s σ H Q I h;calc isTrue_and (eP (ha aK s σ H _ I h) λc s1 z=>?_);let⟨H1,d,e⟩:=z;cases c with
 |true=>exact hb f aK s1 σ H1 Q d e
 |false=>exact#[H1,d,e]
theorem n0(ha:PT X a tA)(hb:PW X (.BoolOp .Or (b::rest) pos) tB'):PW X (.BoolOp .Or (a::b::rest) pos) (tOr tA tB'):=by
 intro f aK s σ H Q I h;calc isTrue_or (eP (ha aK s σ H _ I h) λc s1 z=>?_);let⟨H1,d,e⟩:=z;cases c with
 |true=>exact#[H1,d,e]
 |false=>exact hb f aK s1 σ H1 Q d e
theorem SV(ha:PT X a tA):PT X (.UnaryOp .Not a pos) (tNot tA):=by
 intro aK s σ H Q I h;exact isTrue_not (ha aK s σ H (λc H1=>Q (!c) H1) I h)
def tAndV(ta tb:TE):TE:=λσ H Q=>ta σ H λx H1=>oz x λc=>if c=true then tb σ H1 Q else Q (.bl false) H1
def tNotV(ta:TE):TE:=λσ H Q=>ta σ H λx H1=>oz x λc=>Q (.bl<|!c) H1
theorem TH{op}{t:TE}(h:PE X a t):PE X (.BoolOp op [a] pos) t:=λaK s σ H Q I b=>BoolOp_one<|h aK s σ H Q I b
theorem TV(ha:PE X a ta)(hb:PE X (.BoolOp .And (b::rest) pos) tb):PE X (.BoolOp .And (a::b::rest) pos) (tAndV ta tb):=by
 intro aK s σ H Q I h;calc BoolOp_and (eP (ha aK s σ H _ I h) λv s1 z=>?_);let⟨x,H1,e,r1,d⟩:=z;replace d:=HZ d;let⟨c,rfl,d⟩:=d;cases r1;calc fL ?_;cases c with
 |true=>exact hb aK s1 σ H1 Q e d
 |false=>exact#[.bl false,H1,e,rfl,d]
theorem um(ha:PE X a ta):PE X (.UnaryOp .Not a pos) (tNotV ta):=by
 intro aK s σ H Q I h;calc UnaryOp_ (eP (ha aK s σ H _ I h) λv s1 z=>?_);let⟨x,H1,d,r1,b⟩:=z;replace b:=HZ b;let⟨c,rfl,b⟩:=b;cases r1;exact not_of<|fL #[.bl<|!c,H1,d,rfl,b]
def tIf(t:TT)(ta tb:TE):TE:=λσ H Q=>t σ H λc H1=>if c=true then ta σ H1 Q else tb σ H1 Q
theorem qX(hc:PT X c tA)(ha:PE X a ta)(hb:PE X b tb):PE X (.IfExp c a b pos) (tIf tA ta tb):=by
 intro aK s σ H Q I h;calc wpAny_IfExp (eP (hc aK s σ H _ I h) λd s1 z=>?_);let⟨H1,e,f⟩:=z;cases d with
 |true=>exact ha aK s1 σ H1 Q e f
 |false=>exact hb aK s1 σ H1 Q e f
end
def cX(K:W.Frag)(H:Hp)(a:Addr)(xs:List V):Prop:=
 Rd H a (.lst xs)\/
  ∃(o:Obj)(its:Array Value)(n:Nat),K.lookup a=some o/\o.cls=.type "list"/\o.dict=none/\o.data=.seq its n/\its.size<=sizeLine/\dD xs its.toList
def dH(K:W.Frag)(H:Hp)(a:Addr)(xs:List V):Prop:=
 Rd H a (.tup xs)\/
  ∃(o:Obj)(its:Array Value)(n:Nat),K.lookup a=some o/\o.cls=.type "tuple"/\o.data=.seq its n/\its.size<=sizeLine/\dD xs its.toList
noncomputable def absV:Value->Option V
 | .none=>some .non
 | .bool b=>some<|.bl b
 | .int i _=>some<|.int i
 | .str x _=>some<|.str x
 | .bytes b _=>some<|.byt b
 | .float b _=>some<|.flt b
 | .ref a=>some<|.ref a
 | .type n=>some<|.ty n
 |_=>none
theorem RelV.abs{x:V}(r:RelV x u):absV u=some x:=by
 cases x with
 |non=>cases r;rfl
 |bl _=>cases r;rfl
 |int _=>let⟨t,rfl⟩:=r;rfl
 |str _=>let⟨t,rfl⟩:=r;rfl
 |byt _=>let⟨t,rfl⟩:=r;rfl
 |flt _=>let⟨t,rfl⟩:=r;rfl
 |ref _=>cases r;rfl
 |ty _=>cases r;rfl
theorem RelV.inj{x:V}(r:RelV x u)(q:RelV y u):x=y:=cU<|r.abs.symm.trans q.abs
theorem dD.inj:∀{xs ys:List V}{us:List Value},dD xs us->dD ys us->xs=ys
 |_,_,_,.nil,.nil=>rfl
 |_,_,_,.cons r t,.cons a t'=>by rw[r.inj a,dD.inj t t']
section
variable {ys:List V}
theorem cX.of(h:H a=some (.lst xs)):cX K H a xs:=.inl<|.inl h
theorem dH.of(h:H a=some (.tup xs)):dH K H a xs:=.inl<|.inl h
theorem Inv.list(I:Inv X aK σ H s)(h:cX X.K H a xs):∃its:List Value,dD xs its/\PlainL s.heap a its.toArray/\xs.length<=sizeLine:=by
 rcases h with h |⟨o,its,n,hk,hc,hd,hs,hz,r⟩
 ·let⟨z,its,n,r,e⟩:=h.ok I.hok;exact#[its,r,#[_,n,e,rfl,rfl,rfl],z]
 ·calc#[its.toList,r,#[o,n,I.kIn a o hk,hc,hd,by simpa using hs],?_];let e:=r.length;simp only[bR]at e;lia
theorem Inv.tuple(I:Inv X aK σ H s)(h:dH X.K H a xs):∃its:List Value,dD xs its/\IsTup s.heap a its.toArray/\xs.length<=sizeLine:=by
 rcases h with h |⟨o,its,n,hk,hc,hs,hz,r⟩
 ·let⟨z,its,r,p⟩:=h.ok I.hok;exact#[its,r,p,z]
 ·calc#[its.toList,r,#[o,I.kIn a o hk,hc,n,by simpa using hs],?_];let e:=r.length;simp only[bR]at e;lia
theorem Inv.list_inj(I:Inv X aK σ H s)(h:cX X.K H a xs)(h':cX X.K H a ys):xs=ys:=by
 let⟨its,r,⟨o,n,e,_,_,d⟩,_⟩:=I.list h;let⟨its',f,⟨o',i,b,_,_,c⟩,_⟩:=I.list h';rw[e]at b;cases b;rw[d]at c;injection c with g _
 have :its=its':=by simpa using dE Array.toList g
 subst this;exact r.inj f
theorem Inv.tuple_inj(I:Inv X aK σ H s)(h:dH X.K H a xs)(h':dH X.K H a ys):xs=ys:=by
 let⟨its,r,⟨o,e,_,n,d⟩,_⟩:=I.tuple h;let⟨its',f,⟨o',b,_,i,c⟩,_⟩:=I.tuple h';rw[e]at b;cases b;rw[d]at c;injection c with g _
 have :its=its':=by simpa using dE Array.toList g
 subst this;exact r.inj f
end
abbrev Cx.wish(X:Cx)(E:Value->Shared->Prop):Cx:={X with xe:=E}
abbrev Cx.nox(X:Cx):Cx:=X.wish λ_ _=>False
theorem Cx.Ok.wish(ok:X.Ok)(E:Value->Shared->Prop):(X.wish E).Ok:=
 #[ok.mod,ok.kind,ok.glob,ok.blt,ok.above,ok.inj,ok.has,ok.cab,ok.hd,ok.frames,ok.stk,ok.exf,ok.bs,ok.bsz,ok.noex,ok.exfs,ok.funs,ok.frf]
theorem Cx.Ok.unwish(ok:(X.wish E).Ok):X.Ok:=
 #[ok.mod,ok.kind,ok.glob,ok.blt,ok.above,ok.inj,ok.has,ok.cab,ok.hd,ok.frames,ok.stk,ok.exf,ok.bs,ok.bsz,ok.noex,ok.exfs,ok.funs,ok.frf]
theorem Inv.wish(I:Inv X aK σ H s)(E:Value->Shared->Prop):Inv (X.wish E) aK σ H s:=#[I.ok.wish E,I.os,I.bare,I.base,I.loc,I.cell,I.free,I.freeC,I.pin,I.hok,I.len]
theorem Inv.unwish(I:Inv (X.wish E) aK σ H s):Inv X aK σ H s:=#[I.ok.unwish,I.os,I.bare,I.base,I.loc,I.cell,I.free,I.freeC,I.pin,I.hok,I.len]
theorem SP.unwish{f:Flow}{s':Shared}(h:SP (X.wish E) aK D f s'):SP X aK D f s':=by
 cases f with
 |next=>let⟨σ',H',I,q⟩:=h;exact#[σ',H',I.unwish,q]
 |brk=>let⟨σ',H',I,q⟩:=h;exact#[σ',H',I.unwish,q]
 |cont=>let⟨σ',H',I,q⟩:=h;exact#[σ',H',I.unwish,q]
 |ret u=>let⟨v,σ',H',I,r,q⟩:=h;exact#[v,σ',H',I.unwish,r,q]
theorem EU.nox{st:List Stmt}{t:TS}(h:EU X.nox st t):EU X st t:=λaK s σ H D I a=>
 iL (h aK s σ H D (I.wish _) a) (λ_ _ q=>q.unwish) λ_ _ z=>False.elim z
section
variable {st:Stmt} {rest:List Stmt} {t u:TS} {pos:Pos}
def tNext:TS:=λD σ H=>D.nx σ H
def RI(t u:TS):TS:=λD σ H=>t {D with nx:=u D} σ H
theorem zS:EU X [] tNext:=λ_ _ σ H _ I h=>AG #[σ,H,I,h]
theorem zC(h1:PS X st t)(h2:EU X rest u):EU X (st::rest) (RI t u):=by
 intro aK s σ H D I h;calc wpAny_execs_cons (eP (h1 aK s σ H {D with nx:=u D} I h) λf s1 q=>?_);cases f with
 |next=>
  let⟨σ',H',a,q⟩:=q;exact h2 aK s1 σ' H' D a q
 |ret v=>exact q
 |brk=>exact q
 |cont=>exact q
theorem zH(h1:PS X st t):EU X [st] t:=by
 intro aK s σ H D I h;calc wpAny_execs_cons (eP (h1 aK s σ H D I h) λf s1 q=>?_);cases f with
 |next=>exact AG q
 |ret v=>exact q
 |brk=>exact q
 |cont=>exact q
theorem Inv.quiet(I:Inv X aK σ H s):interactive X.env=false:=by simp[interactive,I.ok.kind]
def tDrop(te:TE):TS:=λD σ H=>te σ H λ_ H1=>D.nx σ H1
theorem xA(he:PE X e te)(hs:autoParam (swapsWith e none pos.line X.env=pure false) a1._auto_1):PS X (.Expr e pos) (tDrop te):=by
 intro aK s σ H D I h;exact wpAny_Expr_any (eP (he aK s σ H _ I h) λv s1 ⟨x,H1,a,r1,b⟩=>#[σ,H1,a,b]) I.quiet hs
def tRet(te:TE):TS:=λD σ H=>te σ H D.rt
theorem zP(he:PE X e te):PS X (.Return (some e) pos) (tRet te):=by
 intro aK s σ H D I h;exact wpAny_Return_some (eP (he aK s σ H _ I h) λv s1 ⟨x,H1,a,r1,b⟩=>#[x,σ,H1,a,r1,b])
def tRetN:TS:=λD _ H=>D.rt .non H
theorem gh:PS X (.Return none pos) tRetN:=λ_ _ σ H _ I h=>wpAny_Return_none #[.non,σ,H,I,rfl,h]
def qm(c:TT)(t u:TS):TS:=λD σ H=>c σ H λb H1=>if b=true then t D σ H1 else u D σ H1
theorem yK{a b:List Stmt}{tc:TT}(hc:PT X c tc)(ha:EU X a t)(hb:EU X b u):PS X (.If c a b pos) (qm tc t u):=by
 intro aK s σ H D I h;calc wpAny_If (eP (hc aK s σ H _ I h) λd s1 z=>?_);let⟨H1,e,f⟩:=z;cases d with
 |true=>exact ha aK s1 σ H1 D e f
 |false=>exact hb aK s1 σ H1 D e f
def ql:TS:=λ_ _ _=>False
theorem XJ:PS X st ql:=λ_ _ _ _ _ _ h=>h.elim
end
abbrev TG:=V->St->Hp->(St->Hp->Prop)->Prop
abbrev pf:=List V->St->Hp->(St->Hp->Prop)->Prop
def PG(X:Cx)(target:Expr)(t:TG):Prop:=
 ∀(aK:List (Addr×Obj)) (s:Shared) (σ:St) (H:Hp) (v:V) (u:Value) (Q:St->Hp->Prop),Inv X aK σ H s->RelV v u->t v σ H Q->
  wpAny (model X.prog X.w) X.A (assign target X.env u) (λ_ s'=>∃σ' H',Inv X aK σ' H' s'/\Q σ' H') X.xe s
def xr(X:Cx)(ts:List Expr)(t:pf):Prop:=
 ∀(aK:List (Addr×Obj)) (s:Shared) (σ:St) (H:Hp) (vs:List V) (us:List Value) (Q:St->Hp->Prop),Inv X aK σ H s->dD vs us->t vs σ H Q->
  wpAny (model X.prog X.w) X.A (assignInOrder ((assignEach ts X.env).map (·.2)) us) (λ_ s'=>∃σ' H',Inv X aK σ' H' s'/\Q σ' H') X.xe s
abbrev xn:=V->V->V->Hp->(Hp->Prop)->Prop
def xq(X:Cx)(t:xn):Prop:=
 ∀(aK:List (Addr×Obj)) (s:Shared) (σ:St) (H:Hp) (o i v:V) (ov iv u:Value) (Q:Hp->Prop),Inv X aK σ H s->RelV o ov->RelV i iv->RelV v u->t o i v H Q->
  wpAny (model X.prog X.w) X.A (setItem ov iv u) (λ_ s'=>∃H',Inv X aK σ H' s'/\Q H') X.xe s
abbrev TIp:=V->V->Hp->VK->Prop
def PIp(X:Cx)(op:Operator)(t:TIp):Prop:=
 ∀(aK:List (Addr×Obj)) (s:Shared) (σ:St) (H:Hp) (x y:V) (v u:Value) (Q:VK),Inv X aK σ H s->RelV x v->RelV y u->t x y H Q->
  wpAny (model X.prog X.w) X.A (inplaceOp op v u) (EP X aK σ Q) X.xe s
section
variable {pos:Pos}
def vL(i:Nat):TG:=λv σ H Q=>Q (σ.set i<|some v) H
theorem kE{x:Str}(hN:X.N.Nodup)(hi:X.N[i]?=some x)(hx:Loc X.env.scope x)(hf:X.fn x=true\/X.env.scope.names.lookup x=some .local:=by first |exact .inl rfl |exact .inr rfl |assumption):PG X (.Name x pos) (vL i):=by
 intro aK s σ H v u Q I r h;exact wpAny_assign_Name (XA I hN hi hx r (λs' a=>#[_,H,a,h]) hf)
def vK:pf:=λvs σ H Q=>vs=[]/\Q σ H
def jK(t:TG)(u:pf):pf:=λvs σ H Q=>asC vs λv r=>t v σ H λσ' H'=>u r σ' H' Q
theorem xW:xr X [] vK:=by
 intro aK s σ H vs us Q I r h;let⟨e,h⟩:=h;subst e;cases r;exact assignInOrder_nil #[σ,H,I,h]
theorem zV{t:TG}{u:pf}(h1:PG X e t)(h2:xr X es u)
 (hs:autoParam ((assignEach (e::es) X.env).map (·.2)=assign e X.env::(assignEach es X.env).map (·.2)) a1._auto_1):xr X (e::es) (jK t u):=by
 intro aK s σ H vs us Q I r h;replace h:=asC_ h;let⟨v,f,a,h⟩:=h;subst a;cases r with
 |cons r b=>
  rw[hs];calc assignInOrder_cons (eP (h1 aK s σ H _ _ _ I r h) λ_ s1 z=>?_);let⟨σ1,H1,c,d⟩:=z;exact h2 aK s1 σ1 H1 _ _ Q c b d
def uP(K:W.Frag)(n:Nat)(t:pf):TG:=λv σ H Q=>mJ v λa=>∃xs,dH K H a xs/\xs.length=n/\t xs σ H Q
theorem FW{k:Nat}{t:pf}(hc:X.calm=true)(h:xr X es t)
 (hn:autoParam ((assignEach es X.env).length=n) a1._auto_1) (hst:autoParam ((assignEach es X.env).findIdx? (·.1)=none) a1._auto_1):PG X (.Tuple es k pos) (uP X.K n t):=by
 intro aK s σ H v u Q I r c;replace c:=yS c;let⟨a,d,xs,hq,hl,c⟩:=c;subst d;cases r;let⟨its,rv,ht,hz⟩:=I.tuple hq;refine assign_Tuple_tuple (I.ok.hd hc) ht (by simp[hn,←hl,rv.length]) hst λh' hx=>?_
 let f:Inv X aK σ H {s with heap:=h'}:=I.kept (t':=s.toks) λb o e=>hx b o (cH<|bC e) e
 exact h aK _ σ H xs _ Q f (by simpa using rv) c
def et(te:TE)(g:TG):TS:=λD σ H=>te σ H λx H1=>g x σ H1 D.nx
theorem uY{x:Str}(hN:X.N.Nodup)(hi:X.N[i]?=some x)(hx:Loc X.env.scope x)(he:PE X e te)(hs:autoParam (swapsWith e (some<|.Name x pos') pos.line X.env=pure false) a1._auto_1)(hf:X.fn x=true\/X.env.scope.names.lookup x=some .local:=by first |exact .inl rfl |exact .inr rfl |assumption):
 PS X (.Assign [.Name x pos'] e pos) (et te<|vL i):=by
 intro aK s σ H D I h;calc wpAny_Assign_Name (eP (he aK s σ H _ I h) λv s1 z=>?_) hs;let⟨y,H1,a,r1,b⟩:=z;exact XA a hN hi hx r1 (λs2 c=>#[_,H1,c,b]) hf
def RM(i:Nat)(te:TE)(ti:TIp):TS:=λD σ H=>asV σ[i]? λx=>te σ H λy H1=>ti x y H1 λz H2=>D.nx (σ.set i<|some z) H2
theorem UY{x:Str}{op:Operator}{ti:TIp}(hN:X.N.Nodup)(hi:X.N[i]?=some x)(hx:Loc X.env.scope x)(he:PE X e te)(ho:PIp X op ti)(hf:X.fn x=true\/X.env.scope.names.lookup x=some .local:=by first |exact .inl rfl |exact .inr rfl |assumption):
 PS X (.AugAssign (.Name x pos') op e pos) (RM i te ti):=by
 intro aK s σ H D I h;replace h:=xg h;let⟨v,d,h⟩:=h;let⟨m,hn,hl⟩:=I.loc;let b:Vis X.env.scope x:=by rcases hx with k |k;calc .inl k;exact .inr<|.inl k
 let⟨u,r,l⟩:=hl i x v hi d b;calc wpAny_AugAssign_Name ?_;let go:wpAny (model X.prog X.w) X.A (eval e X.env) (λw s₂=>wpAny (model X.prog X.w) X.A (inplaceOp op u w) (λr s₃=>wpAny (model X.prog X.w) X.A (storeName X.env x r) (λ_=>SP X aK D .next) X.xe s₃) X.xe s₂) X.xe s:=by
  refine eP (he aK s σ H _ I h) λw s1 z=>?_;let⟨y,H1,f,r1,g⟩:=z
  refine eP (ho aK s1 σ H1 v y u w _ f r r1 g) λz s2 t=>?_;let⟨q,H2,j,n,o⟩:=t
  exact XA j hN hi hx n (λt p=>#[_,H2,p,o]) hf
 rcases l with⟨hk,hm⟩ |⟨hk,c,hc,a⟩
 ·exact wpAny_loadName_local I.ok.kind hk hn hm go
 ·rcases hk with hk |hk
  ·exact wpAny_loadName_cell I.ok.kind hk hc a go
  ·rcases hx with k |k
   ·have :X.env.scope.names.lookup x=some .free:=hk;rw[k]at this;cases this
   ·have :X.env.scope.names.lookup x=some .free:=hk;rw[k]at this;cases this
def IU(to ti te:TE)(tget:V->V->Hp->VK->Prop)(tip:TIp)(tset:xn):TS:=λD σ H=>to σ H λo H1=>ti σ H1 λi H2=>tget o i H2 λx H3=>te σ H3 λy H4=>tip x y H4 λz H5=>tset o i z H5 λH6=>D.nx σ H6
def PGet(X:Cx)(t:V->V->Hp->VK->Prop):Prop:=
 ∀(aK:List (Addr×Obj)) (s:Shared) (σ:St) (H:Hp) (o i:V) (ov iv:Value) (Q:VK),Inv X aK σ H s->RelV o ov->RelV i iv->t o i H Q->
  wpAny (model X.prog X.w) X.A (getItem ov iv) (EP X aK σ Q) X.xe s
theorem YJ{i:Expr}{to ti:TE}{tget:V->V->Hp->VK->Prop}{tip:TIp}{tset:xn}{op:Operator}{tpos:Pos}(ho:PE X o to)(hi:PE X i ti)(hg:PGet X tget)(he:PE X e te)(hp:PIp X op tip)(hs:xq X tset)
 (ha:∀ov iv new,augStore i ov iv new=(do holding [new,ov,iv] (setItem ov iv new);release [new,ov,iv] [];pure .next):=by intros;rfl):PS X (.AugAssign (.Subscript o i tpos) op e pos) (IU to ti te tget tip tset):=by
 intro aK s σ H D I h;calc wpAny_AugAssign_SubscriptAny (eP (ho aK s σ H _ I h) λov s1 z0=>?_) ha;let⟨x1,H1,b,r1,c⟩:=z0;refine eP (hi aK s1 σ H1 _ b c) λiv s2 z1=>?_;let⟨x2,H2,d,a,f⟩:=z1
 refine eP (hg aK s2 σ H2 x1 x2 ov iv _ d r1 a f) λold g z2=>?_;let⟨j,k,l,m,n⟩:=z2
 refine eP (he aK g σ k _ l n) λv p z3=>?_;let⟨q,r,t,u,w⟩:=z3
 refine eP (hp aK p σ r j q old v _ t m u w) λnew x z4=>?_;let⟨y,z,A,B,C⟩:=z4
 exact eP (hs aK x σ z x1 x2 y ov iv new _ A r1 a B C) λ_ J ⟨E,F,G⟩=>#[σ,E,F,G]
def ay(f:Int->Int->Int):TIp:=λx y H Q=>AE x λi=>AE y λj=>Q (.int<|f i j) H
theorem vv:PIp X .Add (ay λi j=>i+j):=by
 intro aK s σ H x y v u Q I r1 a h;replace h:=jS h;let⟨i,b,h⟩:=h;replace h:=jS h;let⟨j,c,q⟩:=h;subst b;subst c;let⟨t,rfl⟩:=r1;let⟨t',rfl⟩:=a;exact iadd_int #[.int _,H,I.tok _,#[_,rfl],q]
end
section
variable {pos:Pos}
def FG(c:TT)(tb:TS):TS:=λD σ H=>∃W:Nat->St->Hp->Prop,(∃m,W m σ H)/\∀m σ H,W m σ H->
 c σ H λb H1=>if b=true then∃N:St->Hp->Prop,(∀σ' H',N σ' H'->∃m',m'<m/\W m' σ' H')/\tb {D with nx:=N,ct:=N,bk:=D.nx} σ H1 else D.nx σ H1
theorem BC{body:List Stmt}{tc:TT}(hp:PassesOwn (model X.prog X.w) X.A X.env X.xe)(hc:PT X c tc)(hb:EU X body tb):PS X (.While c body [] pos) (FG tc tb):=by
 intro aK s σ H D I h;let⟨W,⟨o,p⟩,turn⟩:=h;calc wpAny_While (codeAny_whileLoop (λn s'=>∃σ' H',Inv X aK σ' H' s'/\W n σ' H') ?_ o #[σ,H,I,p]);rintro n s1 ⟨σ1,H1,q,r⟩;calc lC hp (eP (hc aK s1 σ1 H1 _ q<|turn n σ1 H1 r) λb s2 z=>?_);let⟨H2,l,d⟩:=z;cases b with
 |true=>
  let⟨N,m,d⟩:=d;rw[aL rfl];calc lC hp (eP (hb aK s2 σ1 H2 _ l d) λf t e=>?_);cases f with
  |next=>
   let⟨σ3,a,g,i⟩:=e;let⟨j,hm,k⟩:=m σ3 a i;exact#[j,hm,σ3,a,g,k]
  |cont=>
   let⟨σ3,a,g,i⟩:=e;let⟨j,hm,k⟩:=m σ3 a i;exact#[j,hm,σ3,a,g,k]
  |brk=>exact e
  |ret v=>exact e
 |false=>
  rw[aI cG];exact AG #[σ1,H2,l,d]
end
structure It where
 go:Nat->Hp->Prop
 yld:Nat->Hp->V->Hp->Prop
 stop:Nat->Hp->Prop
def wU(X:Cx)(aK:List (Addr×Obj))(H:Hp)(b:Addr):Prop:=
 H b=none/\b≠X.env.locals/\b∉X.fs/\(b∈X.ex\/X.s₀.heap.objs.size<=b)/\(∀x c,X.env.cells.lookup x=some c->c≠b)/\∀p∈X.pn++aK,p.1≠b
theorem Inv.fpOk(I:Inv X aK σ H s)(hb:s.heap.objs.size<=b)(hn:H' b=none):wU X aK H' b:=by
 refine#[hn,rW<|cF I.lt hb,I.nofs hb,.inr<|bU I.sz hb,λx c e z=>?_,λp hp z=>?_]
 ·let⟨v,q⟩:=I.cell x c e;exact absurd (cF q.lt (by rw[z];calc hb))<|dP _
 ·exact absurd (cF (bC (I.pin p hp).1) (by rw[z];calc hb))<|dP _
structure OX(P:Program)(w:World)(K:W.Frag)(tg:Expr)(J:It)(fp:List Addr)(it:Addr)(tn:Nat->Heap->Prop):Prop where
 mem:it∈fp
 obj:∀i h,tn i h->∀b∈fp,∃o,h.get? b=some o/\∀v,o.data≠.cell v
 keep:∀i h h',tn i h->(∀b∈fp,∀o,h.get? b=some o->h'.get? b=some o)->tn i h'
 item:∀(X:Cx),X.prog=P->X.w=w->X.K=K->X.calm=true->∀(i:Nat)(aK:List (Addr×Obj))(s:Shared)(σ:St)(H:Hp)(E:Value->Shared->Prop),Inv X aK σ H s->(∀b∈fp,wU X aK H b)->tn i s.heap->J.go i H->
  wpAny (model P w) X.A (pyNext<|.ref it) (λr s1=>∃u,r=some u/\
   wpAny (model P w) X.A (letOwnedTupleGo tg (.ref it) u) (λ_ s2=>∃x H',Inv X aK σ H' s2/\RelV x u/\J.yld i H x H'/\tn (i+1) s2.heap/\∀b∈fp,H' b=none) E s1) E s
 done:∀(X:Cx),X.prog=P->X.w=w->X.K=K->X.calm=true->∀(i:Nat)(aK:List (Addr×Obj))(s:Shared)(σ:St)(H:Hp)(E:Value->Shared->Prop),Inv X aK σ H s->(∀b∈fp,wU X aK H b)->tn i s.heap->J.stop i H->
  wpAny (model P w) X.A (pyNext<|.ref it) (λr s1=>r=none/\Inv X aK σ H s1) E s
 self:∀(A:Around)(i:Nat)(s:Shared)(Q:Value->Shared->Prop)(E:Value->Shared->Prop),tn i s.heap->Q (.ref it) s->wpAny (model P w) A (pyIter<|.ref it) Q E s
abbrev TI:=St->Hp->(It->Hp->Prop)->Prop
def PIE(X:Cx)(aK:List (Addr×Obj))(σ:St)(tg:Expr)(R:It->Hp->Prop)(itv:Value)(s2:Shared):Prop:=
 ∃(it:Addr)(fp:List Addr)(tn:Nat->Heap->Prop)(J:It)(H':Hp),itv=.ref it/\Inv X aK σ H' s2/\OX X.prog X.w X.K tg J fp it tn/\tn 0 s2.heap/\(∀b∈fp,wU X aK H' b)/\R J H'
def PI(X:Cx)(tg iter:Expr)(wi:TI):Prop:=
 ∀(aK:List (Addr×Obj)) (s:Shared) (σ:St) (H:Hp) (R:It->Hp->Prop),Inv X aK σ H s->wi σ H R->
  wpAny (model X.prog X.w) X.A (eval iter X.env) (λv s1=>wpAny (model X.prog X.w) X.A (pyIter v) (PIE X aK σ tg R) X.xe s1) X.xe s
theorem LU{o:Obj}{n:String}{vs:Array Value}{Q:Unit->Shared->Prop}(ho:s.heap.get? it=some o)(hc:o.cls=.type n)(hd:o.data=.fields vs)
 (hn:["enumerate","zip","dict_itemiterator","dict_reverseitemiterator","odict_iterator","itertools.zip_longest","itertools.pairwise"].contains n=false) (hQ:Q Unit.unit s):wpAny M A (letOwnedTupleGo tg (.ref it) u) Q E s:=by
 unfold letOwnedTupleGo;cases tg<;>first
  |exact aV hQ
  |(cases u<;>first
   |exact aV hQ
   |(refine aF<|wpAny_load ho ?_
     rw[hc,hd];show wpAny M A (if(["enumerate","zip","dict_itemiterator","dict_reverseitemiterator","odict_iterator","itertools.zip_longest","itertools.pairwise"].contains n&&vs[0]?==some (rawInt _))=true then _ else _) Q E s;rw[aI (by intro h;rw[hn,fS]at h;cases h)];calc aV hQ))
def cw(K:W.Frag)(a:Addr):It:=
 #[λi H=>∃xs x,cX K H a xs/\xs[i]?=some x,λi H x H'=>H'=H/\∀xs,cX K H a xs->xs[i]?=some x,λi H=>∃xs,cX K H a xs/\xs.length<=i]
def pz(K:W.Frag)(a:Addr):It:=
 #[λi H=>∃xs x,dH K H a xs/\xs[i]?=some x,λi H x H'=>H'=H/\∀xs,dH K H a xs->xs[i]?=some x,λi H=>∃xs,dH K H a xs/\xs.length<=i]
def du(lo:Int)(n:Nat):It:=#[λi _=>i<n,λi H x H'=>H'=H/\x=.int (lo+i),λi _=>n<=i]
theorem MW(a it:Addr):OX P w K tg (cw K a) [it] it (λi h=>h.IsListIter it a i) where
 mem:=by simp
 obj:=λi h st b hb=>by
  let e:b=it:=by simpa using hb
  subst e;let⟨o,e,c,d⟩:=st;exact#[o,e,λv z=>by rw[d]at z;cases z]
 keep:=λi h h' st k=>st.at λo e=>k it (by simp) o e
 item:=by
  intro X f g j hc i aK s σ H E I hf st l;subst f g j;let⟨xs,x,hq,hx⟩:=l;let⟨its,rv,p,hz⟩:=I.list hq;let⟨u,y,A⟩:=rv.get hx;let⟨m,n,B,q,r,t⟩:=hf it (by simp);refine tV st p.isList (x:=u) (by simpa using y) λh' cN sb=>?_
  let C:Inv X aK σ H {s with heap:=h'}:=I.turned (t':=s.toks) (λb o hb e=>(sb.2 b hb).trans e) m n q r t;let⟨o,e,c,d⟩:=id cN;exact#[u,rfl,LU (s:={s with heap:=h'}) e c d (by decide) #[x,H,C,A,#[rfl,λys hy=>by rw[I.list_inj hy hq];calc hx],cN,λb hb=>(hf b hb).1]]
 done:=by
  intro X f g j hc i aK s σ H E I hf st l;subst f g j;let⟨xs,hq,hx⟩:=l;let⟨its,rv,p,hz⟩:=I.list hq;let⟨m,n,B,q,r,t⟩:=hf it (by simp);let hl:=rv.length;exact EQ (I.ok.hd hc) st p.isList (by simp;lia) λh' D=>#[rfl,I.turned (t':=s.toks) (λb o hb e=>D b o hb e) m n q r t]
 self:=λ_ _ _ _ _ st h=>wpAny_pyIter_listiter st h
theorem FB(a it:Addr):OX P w K tg (pz K a) [it] it (λi h=>h.IsTupleIter it a i) where
 mem:=by simp
 obj:=λi h st b hb=>by
  let e:b=it:=by simpa using hb
  subst e;let⟨o,e,c,d⟩:=st;exact#[o,e,λv z=>by rw[d]at z;cases z]
 keep:=λi h h' st k=>st.at λo e=>k it (by simp) o e
 item:=by
  intro X f g j hc i aK s σ H E I hf st l;subst f g j;let⟨xs,x,hq,hx⟩:=l;let⟨its,rv,p,hz⟩:=I.tuple hq;let⟨u,y,A⟩:=rv.get hx;let⟨m,n,B,q,r,t⟩:=hf it (by simp);refine wpAny_pyNext_tuple_item st (show s.heap.IsTuple a its.toArray from p) (x:=u) (by simpa using y) λh' cN sb=>?_
  let C:Inv X aK σ H {s with heap:=h'}:=I.turned (t':=s.toks) (λb o hb e=>(sb.2 b hb).trans e) m n q r t;let⟨o,e,c,d⟩:=id cN;exact#[u,rfl,LU (s:={s with heap:=h'}) e c d (by decide) #[x,H,C,A,#[rfl,λys hy=>by rw[I.tuple_inj hy hq];calc hx],cN,λb hb=>(hf b hb).1]]
 done:=by
  intro X f g j hc i aK s σ H E I hf st l;subst f g j;let⟨xs,hq,hx⟩:=l;let⟨its,rv,p,hz⟩:=I.tuple hq;let⟨m,n,B,q,r,t⟩:=hf it (by simp);let hl:=rv.length;exact wpAny_pyNext_tuple_end (I.ok.hd hc) st (show s.heap.IsTuple a its.toArray from p) (by simp;lia) λh' D=>#[rfl,I.turned (t':=s.toks) (λb o hb e=>D b o hb e) m n q r t]
 self:=λ_ _ _ _ _ st h=>wpAny_pyIter_tupleiter st h
theorem FC(it:Addr)(lo:Int)(n:Nat):OX P w K tg (du lo n) [it] it (λi h=>IsRangeIter h it (lo+(i:Nat)*1) ((n:Int)-(i:Nat)) 1) where
 mem:=by simp
 obj:=λi h st b hb=>by
  let e:b=it:=by simpa using hb
  subst e;exact#[_,st,λv z=>by
   let q:Data.fields _=Data.cell v:=z;cases q]
 keep:=λi h h' st k=>k it (by simp) _ st
 item:=by
  intro X a c d hc i aK s σ H E I hf st f;subst a c d;let⟨g,j,r,l,m,p⟩:=hf it (by simp);let W:=Walks.range (prog:=X.prog) (w:=X.w) (I.ok.hd hc) it lo 1 n;refine W.item i s _ _ f st λv h' tk hv cN u=>?_
  let⟨t,rfl⟩:=hv;let x:Inv X aK σ H {s with heap:=h',toks:=tk}:=I.turned (λb o hb e=>u b o (by simpa using hb) e) g j l m p;calc#[_,rfl,LU (s:={s with heap:=h',toks:=tk}) (n:="range_iterator") cN rfl rfl (by decide) #[.int<|lo+i,H,x,#[t,?_],#[rfl,rfl],cN,λb hb=>(hf b hb).1]];rw[Int.mul_one]
 done:=by
  intro X a c d hc i aK s σ H E I hf st f;subst a c d;let⟨g,j,r,l,m,p⟩:=hf it (by simp);exact wpAny_pyNext_range_end (I.ok.hd hc) st (by have :n<=i:=f;lia) λh' y=>#[rfl,I.turned (t':=s.toks) (λb o hb e=>y b o hb e) g j l m p]
 self:=λ_ _ _ _ _ st h=>wpAny_pyIter_rangeiter st h
def iList(K:W.Frag)(tl:TE):TI:=λσ H R=>tl σ H λx H1=>mJ x λa=>(∃xs,cX K H1 a xs)/\R (cw K a) H1
def iTup(K:W.Frag)(tl:TE):TI:=λσ H R=>tl σ H λx H1=>mJ x λa=>(∃xs,dH K H1 a xs)/\R (pz K a) H1
theorem YM{l:Expr}{tl:TE}(hl:PE X l tl):PI X tg l (iList X.K tl):=by
 intro aK s σ H R I h;refine eP (hl aK s σ H _ I h) λv s1 z=>?_;let⟨x,H1,c,r1,d⟩:=z
 replace d:=yS d;let⟨a,e,⟨xs,hq⟩,q⟩:=d;subst e;cases r1;let⟨its,rv,p,hz⟩:=c.list hq;calc oC p.isList ?_;calc#[s1.heap.objs.size,[s1.heap.objs.size],_,_,H1,rfl,c.kept (t':=s1.toks) λb o e=>aO _ e,MW a _,#[_,bO _ rfl,rfl,rfl],λb hb=>?_,q];let e:b=s1.heap.objs.size:=by simpa using hb
 subst e;exact c.fpOk (aG _)<|c.hok.fresh<|aG _
theorem wJ{l:Expr}{tl:TE}(hl:PE X l tl):PI X tg l (iTup X.K tl):=by
 intro aK s σ H R I h;refine eP (hl aK s σ H _ I h) λv s1 z=>?_;let⟨x,H1,c,r1,d⟩:=z
 replace d:=yS d;let⟨a,e,⟨xs,hq⟩,q⟩:=d;subst e;cases r1;let⟨its,rv,p,hz⟩:=c.tuple hq;calc wpAny_pyIter_tuple (show s1.heap.IsTuple a its.toArray from p) ?_;calc#[s1.heap.objs.size,[s1.heap.objs.size],_,_,H1,rfl,c.kept (t':=s1.toks) λb o e=>aO _ e,FB a _,#[_,bO _ rfl,rfl,rfl],λb hb=>?_,q];let e:b=s1.heap.objs.size:=by simpa using hb
 subst e;exact c.fpOk (aG _)<|c.hok.fresh<|aG _
theorem SN{R:It->Hp->Prop}{lo hi:Int}{t u v:Tok}{tk:Nat}(I:Inv X aK σ H s)(h1: -(2^62)<=lo)(h2:lo<2^62)(h3: -(2^62)<=hi)(h4:hi<2^62)
 (q:R (du lo (hi-lo).toNat) H):wpAny (model X.prog X.w) X.A (pyIter<|.ref s.heap.objs.size) (PIE X aK σ tg R) E {s with heap:=s.heap.push {cls:=.type "range",data:=.fields (List.toArray [.int lo t,.int hi u,.int 1 v])},toks:=tk}:=by
 calc wpAny_pyIter_range (IsRange.new ..) (small_one h1 h2 h3 h4) ?_;let a:Inv X aK σ H {s with heap:=s.heap.push {cls:=.type "range",data:=.fields (List.toArray [.int lo t,.int hi u,.int 1 v])},toks:=tk}:=I.kept λb o e=>aO _ e
 refine#[(s.heap.push {cls:=.type "range",data:=.fields (List.toArray [.int lo t,.int hi u,.int 1 v])}).objs.size,[(s.heap.push {cls:=.type "range",data:=.fields (List.toArray [.int lo t,.int hi u,.int 1 v])}).objs.size],_,_,H,rfl,
  a.kept (t':=tk) λb o e=>aO _ e,FC _ lo (hi-lo).toNat,?_,λb hb=>?_,q]
 ·let c:lo+((0:Nat):Int)*1=lo:=by simp
  let d:(((hi-lo).toNat:Nat):Int)-((0:Nat):Int)=Builtin.Range.rangeSize lo hi 1:=by rw[rangeSize_one];split<;>lia
  show IsRangeIter _ _ (lo+((0:Nat):Int)*1) ((((hi-lo).toNat:Nat):Int)-((0:Nat):Int)) 1;rw[c,d];exact bO _ rfl
 ·let e:b=(s.heap.push {cls:=.type "range",data:=.fields (List.toArray [.int lo t,.int hi u,.int 1 v])}).objs.size:=by simpa using hb
  subst e;exact a.fpOk (aG _)<|a.hok.fresh<|aG _
def iRng1(ta:TA):TI:=λσ H R=>ta σ H λvs H1=>pW vs λx=>AE x λj=> -(2^62)<=j/\j<2^62/\R (du 0 j.toNat) H1
theorem NQ{a:Expr}{ta:TA}{pos:Pos}(hg:Gl X "range")(hm:X.mg "range"=none)(ha:PA X [a] ta)(hs:autoParam (starEach [a] X.env=[(false,eval a X.env)]) a1._auto_1):PI X tg (.Call (.Name "range" p) [a] [] pos) (iRng1 ta):=by
 intro aK s σ H R I h;calc Call_ (qR I hg hm boot_range<|dW (eP (ha pos aK s σ H _ I h) λus s1 z=>?_) hs rfl);let⟨vs,H1,c,r1,b⟩:=z;replace b:=vQ b;let⟨x,e,b⟩:=b;replace b:=jS b;let⟨j,rfl,b,d,q⟩:=b;subst e;cases r1 with
 |cons r f=>
  cases f;let⟨t,rfl⟩:=r;exact call_range_1 (SN c () () b d (by simpa using q))
def tFor(wi:TI)(g:TG)(tb:TS):TS:=λD σ H=>wi σ H λJ H1=>∃W:Nat->Nat->St->Hp->Prop,(∃m,W 0 m σ H1)/\∀i m σ H,W i m σ H->
 (J.stop i H/\D.nx σ H)\/(J.go i H/\∃N:St->Hp->Prop,(∀σ' H',N σ' H'->∃m',m'<m/\W (i+1) m' σ' H')/\∀x H',J.yld i H x H'->g x σ H' λσ2 H2=>tb {D with nx:=N,ct:=N,bk:=D.nx} σ2 H2)
noncomputable def qQ(fp:List Addr)(h:Heap):List (Addr×Obj):=fp.filterMap λb=>(h.get? b).map λo=>(b,o)
theorem jD{o:Obj}(hb:b∈fp)(e:h.get? b=some o):(b,o)∈qQ fp h:=eD.mpr #[b,hb,by rw[e];rfl]
theorem QJ{p:Addr×Obj}(hp:p∈qQ fp h):p.1∈fp/\h.get? p.1=some p.2:=by
 let⟨b,hb,e⟩:=eD.mp hp;cases q:h.get? b with
 |none=>rw[q]at e;cases e
 |some o=>
  rw[q]at e;let a:(b,o)=p:=cU e;subst a;exact#[hb,q]
theorem Inv.pinned(I:Inv X aK σ H s)(hf:∀b∈fp,wU X aK H b)(ho:∀b∈fp,∃o,s.heap.get? b=some o/\∀v,o.data≠.cell v):Inv X (aK++qQ fp s.heap) σ H s:=
 I.pins_of λp hp=>(bE.mp hp).elim (λz=>I.pin p<|bA _ z) λz=>by
  let⟨hb,e⟩:=QJ z;let⟨c,f,g,_⟩:=hf p.1 hb;let⟨o,a,d⟩:=ho p.1 hb;rw[e]at a;cases a;exact#[e,c,f,g,d]
theorem Inv.unpinned{pl:List (Addr×Obj)}(I:Inv X (aK++pl) σ H s):Inv X aK σ H s:=I.pins_of λp hp=>I.pin p<|bA _<|cS _ hp
theorem yC{iter:Expr}{body:List Stmt}{wi:TI}{g:TG}{pos:Pos}(hp:PassesOwn (model X.prog X.w) X.A X.env X.xe)(hc:X.calm=true)(hi:PI X tg iter wi)(hg:PG X tg g)(hb:EU X body tb)
 (hs:∀x,foldedSetIterable iter X.env x=pure x:=by intro _;rfl):PS X (.For tg iter body [] pos) (tFor wi g tb):=by
 intro aK s σ H D I h;calc wpAny_For (eP (hi aK s σ H _ I h) λv s1 h1=>eP h1 λitv s2 h2=>?_) hs;let⟨it,fp,tn,J,H2,e,M,T,y,E,W,⟨O,P⟩,turn⟩:=h2;subst e;let stat:∀{H':Hp},(∀b∈fp,H' b=none)->∀b∈fp,wU X aK H' b:=λhn b hb=>#[hn b hb,(E b hb).2]
 calc codeAny_forLoop_any (λn s'=>∃i σ' H',Inv X aK σ' H' s'/\tn i s'.heap/\(∀b∈fp,H' b=none)/\W i n σ' H') ?_ O #[0,σ,H2,M,y,λb hb=>(E b hb).1,P];rintro n F ⟨i,σ3,t,G,l,p,Q⟩;rcases turn i n σ3 t Q with⟨stop,R⟩ |⟨go,N,S,step⟩
 ·calc lC hp (eP (T.done X rfl rfl rfl hc i aK F σ3 t X.xe G (stat p) l stop) λr U r=>?_);let⟨hr,Y⟩:=r;subst hr;exact AG #[σ3,t,Y,R]
 ·calc lC hp (eP (T.item X rfl rfl rfl hc i aK F σ3 t X.xe G (stat p) l go) λr U z0=>?_);let⟨u,hr,Z⟩:=z0;subst hr;calc lC hp (eP Z λ_ K z1=>?_);let⟨x,L,I5,r5,y5,k,z⟩:=z1;let B:=I5.pinned (stat z)<|T.obj _ _ k;calc lC hp (eP (hg _ K σ3 L x u _ B r5<|step x L y5) λ_ s6 z2=>?_);let⟨σ6,H6,I6,q6⟩:=z2;calc lC hp (eP (hb _ s6 σ6 H6 _ I6 q6) λf C j=>?_);let again:∀{σ7:St}{a:Hp},Inv X (aK++qQ fp K.heap) σ7 a C->N σ7 a->∃m,m<n/\∃i σ' H',Inv X aK σ' H' C/\tn i C.heap/\(∀b∈fp,H' b=none)/\W i m σ' H':=λ{σ7 a} c q=>by
   let⟨m',hm,w7⟩:=S σ7 a q;calc#[m',hm,i+1,σ7,a,c.unpinned,T.keep _ _ _ k λb hb o e=>(c.pin (b,o)<|bA _<|bA _<|jD hb e).1,λb hb=>?_,w7];let⟨o,e,d⟩:=T.obj _ _ k b hb;exact(c.pin (b,o)<|bA _<|bA _<|jD hb e).2.1
  cases f with
  |next=>let⟨σ7,a,c,q⟩:=j;exact again c q
  |cont=>let⟨σ7,a,c,q⟩:=j;exact again c q
  |brk=>let⟨σ7,a,c,j⟩:=j;exact#[σ7,a,c.unpinned,j]
  |ret v=>let⟨x7,σ7,a,c,r7,j⟩:=j;exact#[x7,σ7,a,c.unpinned,r7,j]
theorem DM{g:TG}(Pv:Nat->St->Hp->Prop)(h0:Pv 0 σ H)(hl:∀i σ H,i<=xs.length->Pv i σ H->cX K H a xs)
 (hs:∀i x σ H,xs[i]?=some x->Pv i σ H->g x σ H λσ2 H2=>tb {D with nx:=Pv (i+1),ct:=Pv (i+1),bk:=D.nx} σ2 H2) (hd:∀σ H,Pv xs.length σ H->D.nx σ H):
 ∃W:Nat->Nat->St->Hp->Prop,(∃m,W 0 m σ H)/\∀i m σ H,W i m σ H->
  ((cw K a).stop i H/\D.nx σ H)\/((cw K a).go i H/\∃N:St->Hp->Prop,(∀σ' H',N σ' H'->∃m',m'<m/\W (i+1) m' σ' H')/\∀x H',(cw K a).yld i H x H'->g x σ H' λσ2 H2=>tb {D with nx:=N,ct:=N,bk:=D.nx} σ2 H2):=by
 calc#[λi m σ H=>m=xs.length-i/\i<=xs.length/\Pv i σ H,#[xs.length,by simp,bZ _,h0],?_];rintro i m σ H ⟨rfl,hi,p⟩;let q:=hl i σ H hi p;by_cases lT:i<xs.length
 ·calc .inr #[#[xs,xs[i],q,by simp[lT]],Pv<|i+1,λσ' H' b=>#[xs.length-(i+1),(),rfl,lT,b],λx H' y=>?_];let⟨e,y⟩:=y;subst e;exact hs i x σ _ (y xs q) p
 ·let e:i=xs.length:=by lia
  subst e;exact .inl #[#[xs,q,aG _],hd σ H p]
theorem LY{g:TG}(Pv:Nat->St->Hp->Prop)(h0:Pv 0 σ H)(hl:∀i σ H,i<=xs.length->Pv i σ H->dH K H a xs)
 (hs:∀i x σ H,xs[i]?=some x->Pv i σ H->g x σ H λσ2 H2=>tb {D with nx:=Pv (i+1),ct:=Pv (i+1),bk:=D.nx} σ2 H2) (hd:∀σ H,Pv xs.length σ H->D.nx σ H):
 ∃W:Nat->Nat->St->Hp->Prop,(∃m,W 0 m σ H)/\∀i m σ H,W i m σ H->
  ((pz K a).stop i H/\D.nx σ H)\/((pz K a).go i H/\∃N:St->Hp->Prop,(∀σ' H',N σ' H'->∃m',m'<m/\W (i+1) m' σ' H')/\∀x H',(pz K a).yld i H x H'->g x σ H' λσ2 H2=>tb {D with nx:=N,ct:=N,bk:=D.nx} σ2 H2):=by
 calc#[λi m σ H=>m=xs.length-i/\i<=xs.length/\Pv i σ H,#[xs.length,by simp,bZ _,h0],?_];rintro i m σ H ⟨rfl,hi,p⟩;let q:=hl i σ H hi p;by_cases lT:i<xs.length
 ·calc .inr #[#[xs,xs[i],q,by simp[lT]],Pv<|i+1,λσ' H' b=>#[xs.length-(i+1),(),rfl,lT,b],λx H' y=>?_];let⟨e,y⟩:=y;subst e;exact hs i x σ _ (y xs q) p
 ·let e:i=xs.length:=by lia
  subst e;exact .inl #[#[xs,q,aG _],hd σ H p]
theorem QQ{lo:Int}{g:TG}(Pv:Nat->St->Hp->Prop)(h0:Pv 0 σ H)
 (hs:∀i σ H,i<n->Pv i σ H->g (.int<|lo+i) σ H λσ2 H2=>tb {D with nx:=Pv (i+1),ct:=Pv (i+1),bk:=D.nx} σ2 H2) (hd:∀σ H,Pv n σ H->D.nx σ H):
 ∃W:Nat->Nat->St->Hp->Prop,(∃m,W 0 m σ H)/\∀i m σ H,W i m σ H->
  ((du lo n).stop i H/\D.nx σ H)\/((du lo n).go i H/\∃N:St->Hp->Prop,(∀σ' H',N σ' H'->∃m',m'<m/\W (i+1) m' σ' H')/\∀x H',(du lo n).yld i H x H'->g x σ H' λσ2 H2=>tb {D with nx:=N,ct:=N,bk:=D.nx} σ2 H2):=by
 calc#[λi m σ H=>m=n-i/\i<=n/\Pv i σ H,#[n,by simp,bZ _,h0],?_];rintro i m σ H ⟨rfl,hi,p⟩;by_cases lT:i<n
 ·calc .inr #[lT,Pv<|i+1,λσ' H' a=>#[n-(i+1),(),rfl,lT,a],λx H' y=>?_];let⟨e,y⟩:=y;subst e y;exact hs i σ _ lT p
 ·let e:i=n:=by lia
  subst e;exact .inl #[aG _,hd σ H p]
abbrev R2:=V->V->Hp->VK->Prop
def pR(X:Cx)(f:Value->Value->Sem Value)(r:R2):Prop:=
 ∀(aK:List (Addr×Obj)) (s:Shared) (σ:St) (H:Hp) (x y:V) (v u:Value) (Q:VK),Inv X aK σ H s->RelV x v->RelV y u->r x y H Q->
  wpAny (model X.prog X.w) X.A (f v u) (EP X aK σ Q) X.xe s
def UnR(X:Cx)(f:Value->Sem Value)(r:V->Hp->VK->Prop):Prop:=
 ∀(aK:List (Addr×Obj)) (s:Shared) (σ:St) (H:Hp) (x:V) (v:Value) (Q:VK),Inv X aK σ H s->RelV x v->r x H Q->
  wpAny (model X.prog X.w) X.A (f v) (EP X aK σ Q) X.xe s
def jL(X:Cx)(f:Value)(r:List V->Hp->VK->Prop):Prop:=
 ∀(aK:List (Addr×Obj)) (s:Shared) (σ:St) (H:Hp) (xs:List V) (us:List Value) (Q:VK),Inv X aK σ H s->dD xs us->r xs H Q->
  wpAny (model X.prog X.w) X.A (call f us) (EP X aK σ Q) X.xe s
def TruR(X:Cx)(r:V->Hp->(Bool->Hp->Prop)->Prop):Prop:=
 ∀(aK:List (Addr×Obj)) (s:Shared) (σ:St) (H:Hp) (x:V) (v:Value) (Q:Bool->Hp->Prop),Inv X aK σ H s->RelV x v->r x H Q->
  wpAny (model X.prog X.w) X.A (truthy v) (TP X aK σ Q) X.xe s
def tOp(r:R2)(ta tb:TE):TE:=λσ H Q=>ta σ H λx H1=>tb σ H1 λy H2=>r x y H2 Q
def tUn(r:V->Hp->VK->Prop)(ta:TE):TE:=λσ H Q=>ta σ H λx H1=>r x H1 Q
def rI(C:Int->Int->Prop)(g:Int->Int->V):R2:=λx y H Q=>AE x λi=>AE y λj=>C i j/\Q (g i j) H
def gf(g:Int->Int->V):R2:=λx y H Q=>AE x λi=>AE y λj=>Q (g i j) H
def rU(g:Int->V):V->Hp->VK->Prop:=λx H Q=>AE x λi=>Q (g i) H
section
variable {a b:Expr} {tb tc:TE} {pos:Pos}
theorem wz(ha:PE X a ta)(hb:PE X b tb){R:V->V->Hp->Prop}(I:Inv X aK σ H s)
 (h:ta σ H λx H1=>tb σ H1 λy H2=>R x y H2) {f:Value->Value->Sem Value}
 (hf:∀v u s2 x y H2,Inv X aK σ H2 s2->RelV x v->RelV y u->R x y H2->wpAny (model X.prog X.w) X.A (f v u) Q X.xe s2):
 wpAny (model X.prog X.w) X.A (eval a X.env) (λv s₁=>wpAny (model X.prog X.w) X.A (eval b X.env) (λu s₂=>wpAny (model X.prog X.w) X.A (f v u) Q X.xe s₂) X.xe s₁) X.xe s:=by
 refine eP (ha aK s σ H _ I h) λv s1 z=>?_;let⟨x,H1,c,r1,d⟩:=z
 refine eP (hb aK s1 σ H1 _ c d) λu s2 t=>?_;let⟨y,H2,e,g,i⟩:=t
 exact hf v u s2 x y H2 e r1 g i
theorem jO{op:Operator}{r:R2}(ho:pR X (binaryOp op) r)(ha:PE X a ta)(hb:PE X b tb):PE X (.BinOp a op b pos) (tOp r ta tb):=by
 intro aK s σ H Q I h;exact wpAny_BinOp (wz ha hb I h λv u s2 x y H2 c d e q=>ho aK s2 σ H2 x y v u Q c d e q)
theorem TC{op:UnaryOp}{r:V->Hp->VK->Prop}(ho:UnR X (unaryOp op) r)(ha:PE X a ta):PE X (.UnaryOp op a pos) (tUn r ta):=by
 intro aK s σ H Q I h;exact UnaryOp_ (eP (ha aK s σ H _ I h) λv s1 ⟨x,H1,b,r1,c⟩=>ho aK s1 σ H1 x v Q b r1 c)
theorem opI{f:Value->Value->Sem Value}{C:Int->Int->Prop}{g:Int->Int->Int}
 (rule:∀(i j:Int)(t u:Tok)(s:Shared)(Q:Value->Shared->Prop)(E:Value->Shared->Prop),C i j->Q (.int (g i j) s.toks) {s with toks:=s.toks+1}->wpAny (model X.prog X.w) X.A (f (.int i t)<|.int j u) Q E s):
 pR X f (rI C λi j=>.int<|g i j):=by
 intro aK s σ H x y v u Q I a b h;replace h:=jS h;let⟨i,rfl,h⟩:=h;replace h:=jS h;let⟨j,rfl,hc,q⟩:=h;let⟨t,rfl⟩:=a;let⟨t',rfl⟩:=b;exact rule i j t t' s _ _ hc #[.int<|g i j,H,I.tok _,#[_,rfl],q]
theorem ir{f:Value->Value->Sem Value}{g:Int->Int->Int}
 (rule:∀(i j:Int)(t u:Tok)(s:Shared)(Q:Value->Shared->Prop)(E:Value->Shared->Prop),Q (.int (g i j) s.toks) {s with toks:=s.toks+1}->wpAny (model X.prog X.w) X.A (f (.int i t)<|.int j u) Q E s):
 pR X f (gf λi j=>.int<|g i j):=by
 intro aK s σ H x y v u Q I a b h;replace h:=jS h;let⟨i,rfl,h⟩:=h;replace h:=jS h;let⟨j,rfl,q⟩:=h;let⟨t,rfl⟩:=a;let⟨t',rfl⟩:=b;exact rule i j t t' s _ _ #[.int<|g i j,H,I.tok _,#[_,rfl],q]
theorem u4{f:Value->Value->Sem Value}{g:Int->Int->Bool}
 (rule:∀(i j:Int)(t u:Tok)(s:Shared)(Q:Value->Shared->Prop)(E:Value->Shared->Prop),Q (.bool<|g i j) s->wpAny (model X.prog X.w) X.A (f (.int i t)<|.int j u) Q E s):
 pR X f (gf λi j=>.bl<|g i j):=by
 intro aK s σ H x y v u Q I a b h;replace h:=jS h;let⟨i,rfl,h⟩:=h;replace h:=jS h;let⟨j,rfl,q⟩:=h;let⟨t,rfl⟩:=a;let⟨t',rfl⟩:=b;exact rule i j t t' s _ _ #[.bl<|g i j,H,I,rfl,q]
def CDiv(i j:Int):Prop:=0<j/\j<1073741824
def CPow(i j:Int):Prop:=0<=j/\j<=1000000/\i.natAbs<2^64
def x8(i j:Int):Prop:=(-(2^64)<i/\i<2^64)\/(-(2^64)<j/\j<2^64)
theorem x8.ok{i j:Int}(h:x8 i j):IntMulOk i j:=by
 rcases h with⟨h1,h2⟩ |⟨h1,h2⟩
 ·exact .of_left<|intBits_le_64 h1 h2
 ·exact .of_right<|intBits_le_64 h1 h2
theorem uz:pR X (binaryOp .Add) (gf λi j=>.int<|i+j):=ir λ_ _ _ _ _ _ _ q=>add_int q
theorem TY:pR X (binaryOp .Sub) (gf λi j=>.int<|i-j):=ir λ_ _ _ _ _ _ _ q=>sub_int q
theorem TZ:pR X (binaryOp .Mult) (rI x8 λi j=>.int<|i*j):=opI λ_ _ _ _ _ _ _ hc q=>mul_int q hc.ok
theorem io:pR X (binaryOp .FloorDiv) (rI CDiv λi j=>.int<|i/j):=opI λi j _ _ _ _ _ hc q=>by
 let h1:(0:Int)<j:=hc.1;let h2:j<1073741824:=hc.2;exact floordiv_int () (by rw[Int.fdiv_eq_ediv_of_nonneg i ()];calc q)<|.inl<|PyProof.noPylong_small ()
theorem uw:pR X (binaryOp .Mod) (rI (λ_ j=>0<j) λi j=>.int<|i % j):=opI λi j _ _ _ _ _ hc q=>by
 let h1:(0:Int)<j:=hc;exact mod_int' () (by rw[Int.fmod_eq_emod_of_nonneg i ()];calc q)
theorem uv:pR X (binaryOp .Pow) (rI CPow λi j=>.int<|i^j.toNat):=opI λ_ _ _ _ _ _ _ hc q=>pow_int_small hc.1 hc.2.1 hc.2.2 q
theorem uu:pR X (binaryOp .LShift) (rI CPow λi j=>.int<|i*2^j.toNat):=opI λ_ _ _ _ _ _ _ hc q=>lshift_int_small hc.1 hc.2.1 hc.2.2 q
theorem GD:pR X (binaryOp .BitAnd) (gf λi j=>.int<|Builtin.bitAnd i j):=ir λ_ _ _ _ _ _ _ q=>and_int q
theorem ur:pR X (binaryOp .BitXor) (gf λi j=>.int<|Builtin.bitXor i j):=ir λ_ _ _ _ _ _ _ q=>xor_int q
theorem unI{f:Value->Sem Value}{g:Int->Int}
 (rule:∀(i:Int)(t:Tok)(s:Shared)(Q:Value->Shared->Prop)(E:Value->Shared->Prop),Q (.int (g i) s.toks) {s with toks:=s.toks+1}->wpAny (model X.prog X.w) X.A (f<|.int i t) Q E s):
 UnR X f (rU λi=>.int<|g i):=by
 intro aK s σ H x v Q I a h;replace h:=jS h;let⟨i,rfl,q⟩:=h;let⟨t,rfl⟩:=a;exact rule i t s _ _ #[.int<|g i,H,I.tok _,#[_,rfl],q]
theorem qi:UnR X (unaryOp .USub) (rU λi=>.int (-i)):=unI λ_ _ _ _ _ q=>neg_int q
theorem FA:UnR X (unaryOp .Invert) (rU λi=>.int<|Builtin.bitNot i):=unI λ_ _ _ _ _ q=>invert_int q
end
noncomputable def scal:V->V->Bool
 | .non,.non=>true | .non,.int _=>true | .int _,.non=>true | .non,.bl _=>true | .bl _,.non=>true | .non,.str _=>true | .str _,.non=>true
 | .int _,.int _=>true | .bl _,.bl _=>true | .str _,.str _=>true | .byt _,.byt _=>true
 | .int _,.str _=>true | .str _,.int _=>true | .bl _,.str _=>true | .str _,.bl _=>true
 |_,_=>false
def rEq:R2:=λx y H Q=>scal x y=true/\Q (.bl<|decide<|x=y) H
theorem j5{i j:Int}:decide (V.int i=V.int j)=(i==j):=by
 rw[bY];simp
theorem wm{i j:Bool}:decide (V.bl i=V.bl j)=(i==j):=by
 rw[bY];simp
theorem j4{i j:Str}:decide (V.str i=V.str j)=(i==j):=by
 rw[bY];simp
theorem j6{i j:Array UInt8}:decide (V.byt i=V.byt j)=(i.toList==j.toList):=by
 rw[bY];cases i;cases j;simp
section
variable {a b:Expr} {tb tc:TE} {pos:Pos}
theorem yM{Q:VK}{k k':Bool}(I:Inv X aK σ H s)(q:Q (.bl k) H)(e:k=k'):EP X aK σ Q (.bool k') s:=by
 subst e;exact#[.bl k,H,I,rfl,q]
theorem ZP:pR X (compareOp .Eq) rEq:=by
 intro aK s σ H x y v u Q I b a h;let⟨hs,q⟩:=h;cases x with
 |non=>
  cases b;cases y with
  |non=>cases a;exact PySem.EqNone.eq_none_none (yM I q (by simp))
  |bl j=>cases a;exact PySem.EqNone.eq_none_bool (yM I q (by simp))
  |int j=>let⟨t',rfl⟩:=a;exact PySem.EqNone.eq_none_int (yM I q (by simp))
  |str j=>let⟨t',rfl⟩:=a;exact PySem.EqNone.eq_none_str (yM I q (by simp))
  |_=>exact absurd (show false=true from hs) cG
 |bl i=>
  cases b;cases y with
  |non=>cases a;exact PySem.EqNone.eq_bool_none (yM I q (by simp))
  |bl j=>cases a;exact eq_bool<|yM I q wm
  |str j=>let⟨t',rfl⟩:=a;exact PySem.EqMixed.eq_bool_str (yM I q (by simp))
  |_=>exact absurd (show false=true from hs) cG
 |int i=>
  let⟨t,rfl⟩:=b;cases y with
  |non=>cases a;exact PySem.EqNone.eq_int_none (yM I q (by simp))
  |int j=>let⟨t',rfl⟩:=a;exact eq_int<|yM I q j5
  |str j=>let⟨t',rfl⟩:=a;exact PySem.EqMixed.eq_int_str (yM I q (by simp))
  |_=>exact absurd (show false=true from hs) cG
 |str i=>
  let⟨t,rfl⟩:=b;cases y with
  |non=>cases a;exact PySem.EqNone.eq_str_none (yM I q (by simp))
  |bl j=>cases a;exact PySem.EqMixed.eq_str_bool (yM I q (by simp))
  |int j=>let⟨t',rfl⟩:=a;exact PySem.EqMixed.eq_str_int (yM I q (by simp))
  |str j=>let⟨t',rfl⟩:=a;exact eq_str<|yM I q j4
  |_=>exact absurd (show false=true from hs) cG
 |byt i=>
  let⟨t,rfl⟩:=b;cases y with
  |byt j=>let⟨t',rfl⟩:=a;exact W.eq_bytes<|yM I q j6
  |_=>exact absurd (show false=true from hs) cG
 |_=>cases y<;>exact absurd (show false=true from hs) cG
theorem KW:pR X (compareOp .Lt) (gf λi j=>.bl<|decide<|i<j):=u4 λ_ _ _ _ _ _ _ q=>lt_int q
theorem WF:pR X (compareOp .LtE) (gf λi j=>.bl<|decide<|i<=j):=u4 λ_ _ _ _ _ _ _ q=>le_int q
theorem WG:pR X (compareOp .Gt) (gf λi j=>.bl<|decide<|j<i):=u4 λ_ _ _ _ _ _ _ q=>gt_int q
theorem GB:pR X (compareOp .Is) (λx y H Q=>y=.non/\Q (.bl<|decide<|x=.non) H):=by
 intro aK s σ H x y v u Q I a b h;let⟨rfl,q⟩:=h;cases b;calc is_none_gen<|yM I q ?_;cases x<;>first
  |(cases a;rfl)
  |(let⟨t,rfl⟩:=a;rfl)
theorem im:pR X (compareOp .IsNot) (λx y H Q=>y=.non/\Q (.bl<|!decide (x=.non)) H):=by
 intro aK s σ H x y v u Q I a b h;let⟨rfl,q⟩:=h;cases b;calc isnot_none_gen<|yM I q ?_;cases x<;>first
  |(cases a;rfl)
  |(let⟨t,rfl⟩:=a;rfl)
theorem yL(b:Expr)(h:autoParam (op≠.In) a2._auto_1)(h2:autoParam (op≠.NotIn) a2._auto_1):behindInMarks op b=false:=by
 let a:(op==CmpOp.In)=false:=by cases op<;>first |rfl |exact absurd rfl h
 let c:(op==CmpOp.NotIn)=false:=by cases op<;>first |rfl |exact absurd rfl h2
 cases b<;>simp[behindInMarks,a,c]
theorem vV{r:R2}(ho:pR X (compareOp op) r)(ha:PE X a ta)(hb:PE X b tb)(hm:behindInMarks op b=false):PE X (.Compare a [op] [b] pos) (tOp r ta tb):=by
 intro aK s σ H Q I h;exact wpAny_Compare1 (wz ha hb I h λv u s2 x y H2 c d e q=>ho aK s2 σ H2 x y v u Q c d e q) hm
def tTest(t:TE):TT:=λσ H Q=>t σ H λx H'=>oz x λk=>Q k H'
theorem yG{r:R2}(ho:pR X (compareOp op) r)(ha:PE X a ta)(hb:PE X b tb)(hm:behindInMarks op b=false):PT X (.Compare a [op] [b] pos) (tTest<|tOp r ta tb):=by
 intro aK s σ H Q I h;refine wpAny_isTrue_Compare1 (eP (ha aK s σ H _ I h) λv s1 ⟨x,H1,e,r1,f⟩=>eP (hb aK s1 σ H1 _ e f) λu s2 ⟨y,H2,g,i,j⟩=>
  eP (ho aK s2 σ H2 x y v u _ g r1 i j) λc o w=>?_) hm;let⟨z,l,m,n,d⟩:=w
 replace d:=HZ d;let⟨k,rfl,d⟩:=d;cases n;exact fL #[l,m,d]
def qp(r r':R2)(ta tb tc:TE):TE:=λσ H Q=>ta σ H λx H1=>tb σ H1 λy H2=>r x y H2 λz H3=>oz z λk=>(if k=true then tc σ H3 λw' H4=>r' y w' H4 Q else Q (.bl false) H3)
theorem TU{op':CmpOp}{r r':R2}(ho:pR X (compareOp op) r)(ho':pR X (compareOp op') r')(ha:PE X a ta)(hb:PE X b tb)(hc:PE X c tc)
 (hm:lastMarks [op,op'] [b,c]=false:=by with_unfolding_all rfl):PE X (.Compare a [op,op'] [b,c] pos) (qp r r' ta tb tc):=by
 intro aK s σ H Q I h;refine Compare_chain (eP (ha aK s σ H _ I h) λv s1 ⟨x,H1,j,r1,l⟩=>chain_link (eP (hb aK s1 σ H1 _ j l) λu s2 ⟨y,H2,m,f,n⟩=>
  eP (ho aK s2 σ H2 x y v u _ m r1 f n) λd o d=>?_)) hm;let⟨z,g,i,p,e⟩:=d
 replace e:=HZ e;let⟨k,rfl,e⟩:=e;cases p;calc fL ?_;cases k with
 |false=>exact ite_ff #[.bl false,g,i,rfl,e]
 |true=>exact ite_tt (chain_last<|eP (hc aK o σ g _ i e) λq t ⟨w,A,B,C,D⟩=>ho' aK t σ A y w u q Q B f C D)
def TruV(K:W.Frag)(x:V)(H:Hp)(k:Bool):Prop:=
 match x with
 | .non=>k=false
 | .bl b=>k=b
 | .int i=>k=(i !=0)
 | .str y=>y.length<=sizeLine/\k=((y.length:Int) !=0)
 | .byt y=>y.size<=sizeLine/\k=((y.size:Int) !=0)
 | .ref p=>(∃xs,cX K H p xs/\k=!xs.isEmpty)\/(∃xs,dH K H p xs/\k=!xs.isEmpty)\/∃kvs,H p=some (.dK kvs)/\k=!kvs.isEmpty
 |_=>False
theorem HH{κ:Type}{kvs:List (κ×V)}{vs:List (κ×Value)}(r:KV kvs vs):(!vs.isEmpty)=!kvs.isEmpty:=by
 cases r<;>rfl
theorem XZ(r:dD xs its):(!its.toArray.isEmpty)=!xs.isEmpty:=by
 cases r<;>simp
theorem ZF:(sizeLine:Nat)<2^63:=by rw[cQ];decide
theorem qj:TruR X (λx H Q=>∃k,TruV X.K x H k/\Q k H):=by
 intro aK s σ H x v Q I c h;let⟨k,e,q⟩:=h;let hl:=ZF;let hs:sizeLine=16777216:=cQ;cases x with
 |non=>
  cases c;let a:k=false:=e;subst a;exact truthy_none #[H,I,q]
 |bl b=>
  cases c;let a:k=b:=e;subst a;exact fL #[H,I,q]
 |int i=>
  let⟨t,rfl⟩:=c;let a:k=(i !=0):=e;subst a;exact PySem.P.truthy_int #[H,I,q]
 |str y=>
  let⟨t,rfl⟩:=c;obtain⟨hy,a⟩:y.length<=sizeLine/\k=((y.length:Int) !=0):=e;subst a;exact PySem.P.truthy_str () #[H,I.tok _,q]
 |byt y=>
  let⟨t,rfl⟩:=c;obtain⟨hy,a⟩:y.size<=sizeLine/\k=((y.size:Int) !=0):=e;subst a;exact W.truthy_bytes () #[H,I.tok _,q]
 |ref p=>
  cases c;let a:(∃xs,cX X.K H p xs/\k=!xs.isEmpty)\/(∃xs,dH X.K H p xs/\k=!xs.isEmpty)\/∃kvs,H p=some (.dK kvs)/\k=!kvs.isEmpty:=e;rcases a with⟨xs,hx,a⟩ |⟨xs,hx,a⟩ |⟨kvs,hx,a⟩
  ·subst a;let⟨its,r,pl,hz⟩:=I.list hx;let eR:=r.length;exact wpAny_truthy_list pl.isList (by simp only[aU];lia) #[H,I.tok _,by rw[XZ r];calc q]
  ·subst a;let⟨its,r,pl,hz⟩:=I.tuple hx;let eR:=r.length;exact truthy_tuple pl (by simp only[aU];lia) #[H,I.tok _,by rw[XZ r];calc q]
  ·subst a;obtain⟨hz,d,vs,r,m⟩:kvs.length<=sizeLine/\(p==sysModules)=false/\∃vs,KV kvs vs/\s.heap.DictOf (zR X.prog X.w) p vs:=I.hok p _ hx;let eR:kvs.length=vs.length:=fD r;exact wpAny_truthy_dict d m () #[H,I.tok _,by rw[HH r];calc q]
 |_=>exact(show False from e).elim
theorem SU(ha:PE X a ta)(he:∀whole,isTrue a X.env whole=(do let v ←whole;standAt a.pos;holding [v]<|truthy v)):
 PT X a (λσ H Q=>ta σ H λx H'=>∃k,TruV X.K x H' k/\Q k H'):=by
 intro aK s σ H Q I h;exact isTrue_plain (eP (ha aK s σ H _ I h) λv s1 ⟨x,H1,b,r1,c⟩=>qj aK s1 σ H1 x v Q b r1 c)<|he _
theorem uG:pR X (binaryOp .Add) (λx y H Q=>∃i j,x=.str i/\y=.str j/\i.length+j.length<=sizeLine/\Q (.str<|i++j) H):=by
 intro aK s σ H x y v u Q I a b h;let⟨i,j,rfl,rfl,hz,q⟩:=h;let⟨t,rfl⟩:=a;let⟨t',rfl⟩:=b;exact add_str (λt' tk=>#[.str<|i++j,H,I.tok _,#[_,rfl],q]) hz
theorem jN{x:V}(r:dD [x] us):∃u,us=[u]/\RelV x u:=by
 cases r with
 |cons r1 a=>cases a;exact#[_,rfl,r1]
theorem vals2{x:V}(r:dD [x,y] us):∃u w',us=[u,w']/\RelV x u/\RelV y w':=by
 cases r with
 |cons r1 a=>
  cases a with
  |cons b c=>cases c;exact#[_,_,rfl,r1,b]
def lh(K:W.Frag)(x:V)(H:Hp)(n:Nat):Prop:=
 match x with
 | .str y=>y.length<=sizeLine/\n=y.length
 | .byt y=>y.size<=sizeLine/\n=y.size
 | .ref p=>(∃xs,cX K H p xs/\n=xs.length)\/∃xs,dH K H p xs/\n=xs.length
 |_=>False
theorem kP:jL X (.builtin "len") (λxs H Q=>pW xs λx=>∃n,lh X.K x H n/\Q (.int n) H):=by
 intro aK s σ H xs us Q I r h;replace h:=vQ h;let⟨x,rfl,n,e,q⟩:=h;let⟨u,rfl,b⟩:=jN r;let hl:=ZF;let hs:sizeLine=16777216:=cQ;cases x with
 |str y=>
  let⟨t,rfl⟩:=b;obtain⟨hy,a⟩:y.length<=sizeLine/\n=y.length:=e;subst a;exact len_str () #[.int _,H,I.tok _,#[_,rfl],q]
 |byt y=>
  let⟨t,rfl⟩:=b;obtain⟨hy,a⟩:y.size<=sizeLine/\n=y.size:=e;subst a;exact W.len_bytes () #[.int _,H,I.tok _,#[_,rfl],q]
 |ref p=>
  cases b;let a:(∃xs,cX X.K H p xs/\n=xs.length)\/∃xs,dH X.K H p xs/\n=xs.length:=e;rcases a with⟨xs,hx,a⟩ |⟨xs,hx,a⟩
  ·subst a;let⟨its,c,pl,hz⟩:=I.list hx;let eR:=c.length;exact Calls.call_len_list pl.isList (by simp only[aU];lia) #[.int xs.length,H,I.tok _,#[_,by simp only[aU];rw[eR]],q]
  ·subst a;let⟨its,c,pl,hz⟩:=I.tuple hx;let eR:=c.length;exact len_tuple pl (by simp only[aU];lia) #[.int xs.length,H,I.tok _,#[_,by simp only[aU];rw[eR]],q]
 |_=>exact(show False from e).elim
end
structure IE(h:Heap)(x dx C:Addr)(mA:Str->Option Value):Prop where
 obj:h.get? x=some (W.instObj C dx)
 ns:h.Ns1 dx mA
 ne:dx≠x
theorem OD{dx:Addr}(n:h.Ns1 dx mA):∃od,h.get? dx=some od/\∀name,W.lookIn name od=some (mA name):=by
 let⟨o,es,ep,c,hd,hk,_,hm⟩:=n;calc#[o,c,λname=>?_];let e:=hm name;unfold nsFind findBy at e;rw[←Array.find?_toList]at e;unfold W.lookIn;rw[hd];dsimp only;split
 ·rename_i y q
  rw[q]at e;exact dE some e
 ·rename_i q
  rw[q]at e;let a:es.toList.any (·.refKey)=false:=by
   rw[List.any_eq_false];intro y hy;let⟨z,t,b⟩:=hk y<|Array.mem_toList_iff.mp hy;simp[DictEntry.refKey,b]
  let d:¬es.toList.any (·.refKey)=true:=by rw[a];exact cG
  rw[aI d];exact dE some e
theorem IE.look{x dx C:Addr}(I:IE h x dx C mA):∃od,W.InstAt h x (W.instObj C dx) C (some od)/\∀name,W.lookIn name od=some (mA name):=
 let ⟨od,a,hl⟩:=OD I.ns
 #[od,#[I.obj,rfl,rfl,a],hl]
section
variable {x dx C:Addr} {name:Str} {v:Value}
theorem jw{expr:Bool}(X:K.In s.heap)(I:IE s.heap x dx C mA)(hg:W.plainGet K C name=true)(hh:W.hasDictIn K C=true)
 (ha:W.findIn K (.ref C) name=some none) (hv:mA name=some v) (hv':W.handedIn v=true) (h:Q v {s with toks:=s.toks+1}):
 wpAny (model prog w) A (getAttr (.ref x) name expr) Q E s:=by
 let⟨od,J,hl⟩:=I.look;exact W.get_value X J (tY hg).1 (W.findObj_own hh ha rfl (by rw[hl,hv])) hv' h
theorem bb{pl:Sem Bool}{Q:Value×List Value->Shared->Prop}(X:K.In s.heap)(I:IE s.heap x dx C mA)(hg:W.plainGet K C name=true)
 (hf:W.findIn K (.ref C) name=some (some<|.ref f)) (ht:W.isFn K (.ref f)=true) (hv:mA name=none) (h:Q (.ref f,[.ref x]) s):
 wpAny (model prog w) A (getMethod (.ref x) name pl) Q E s:=by
 let⟨od,J,hl⟩:=I.look;exact W.method_fn X J (tY hg).1 (tY hg).2 hf (cP.mp ht) (by show(W.lookIn name od).map (·.isSome)=some false;rw[hl,hv];rfl) h
theorem fy{Q:Unit->Shared->Prop}(X:K.In s.heap)(I:IE s.heap x dx C mA)
 (hs:W.findIn K (.ref C) "__setattr__"=some (some<|.builtin "object.__setattr__")) (hp:W.plainOver K C=true) (ht:W.takerIn K C name=some none) (hh:W.hasDictIn K C=true)
 (hw:PySem.Within mA ns) (hsz:ns.length<=sizeLine)
 (h:∀h',IE h' x dx C (λy=>if y=name then some v else mA y)->Heap.SameBut dx s.heap h'->Q Unit.unit {s with heap:=h',toks:=s.toks+2}):
 wpAny (model prog w) A (setAttr (.ref x) name v) Q E s:=by
 let⟨od,J,hl⟩:=I.look;calc W.set_plain X J hs (W.osa_open (s:={s with toks:=s.toks+1}) (r:=none) X J hp ht λb=>?_);let⟨j,hc,e⟩:=W.any_some hh;let hx:s.heap.get? x=some #[.ref C,some dx,.plain,(List.toArray [])]:=I.obj;calc aF<|aV<|aF<|aF<|wpAny_loadPart hx<|aF<|W.Looks.here (s:={s with toks:=s.toks+1}) (W.looks_clsIn X hc) ?_;rw[e];calc aV (a:=some dx)<|aF<|aV<|aF ?_;refine wpAny_nsSet1 (s:={s with toks:=s.toks+1}) I.ns λh' c d=>?_
 let⟨oD,esD,epD,f,g,i⟩:=c.count<|PySem.Within.cons name v hw;calc aF (wpAny_lookBehind f (by rw[g];calc pastItsLine_dict<|bU i (by rw[bJ];lia)) ?_);exact aV<|h _ #[(d.2 _<|cE I.ne).trans I.obj,c,I.ne] d
theorem WZ{vs:List Value}(X:K.In s.heap)(hm:W.makesIn K C=true)
 (hi:W.findIn K (.ref C) "__init__"=some (some<|.ref f)) (hf:W.typeIn K (.ref f)=some (.type "function"))
 (h:codeAny (model prog w) (A.under<|.builtin "type.__call__" #[.ref C::vs,kw]) (.call (.ref f) #[.ref (s.heap.objs.size+1)::vs,kw]) (W.InitBack (s.heap.objs.size+1) R)
  {s with heap:=(s.heap.push W.emptyDict).push (W.instObj C s.heap.objs.size)}):
 codeAny (model prog w) A (.call (.ref C) #[vs,kw]) R s:=by
 let⟨a,g,d,t,os⟩:=s;exact W.make_core (W.makes_of X hm) (W.looks_findIn X hi) (λself=>W.bind_fn X self hf) (.inl rfl) h
end
noncomputable def yP(f:Str)(v:V):List (Str×V)->List (Str×V)
 |[]=>[(f,v)]
 |(g,x)::r=>if g=f then(g,v)::r else(g,x)::yP f v r
theorem ZQ(f g:Str)(v:V):∀fs:List (Str×V),(yP f v fs).lookup g=if g=f then some v else fs.lookup g
 |[]=>by
  show List.lookup g [(f,v)]=_;by_cases h:g=f
  ·let hb:(g==f)=true:=cP.mpr h;simp only[List.lookup,hb,aL h]
  ·let hb:(g==f)=false:=cR.mpr h;simp only[List.lookup,hb,aI h]
 |(k,x)::r=>by
  let a:=ZQ f g v r;rw[show yP f v ((k,x)::r)=(if k=f then(k,v)::r else(k,x)::yP f v r)from rfl];by_cases hk:k=f
  ·rw[aL hk];by_cases h:g=k
   ·let hb:(g==k)=true:=cP.mpr h;simp only[List.lookup,hb,aL<|h.trans hk]
   ·let hb:(g==k)=false:=cR.mpr h;simp only[List.lookup,hb,aI λe:g=f=>h<|e.trans hk.symm]
  ·rw[aI hk];by_cases h:g=k
   ·let hb:(g==k)=true:=cP.mpr h;simp only[List.lookup,hb,aI λe:g=f=>hk<|h.symm.trans e]
   ·let hb:(g==k)=false:=cR.mpr h;simp only[List.lookup,hb];exact a
theorem ZH(f:Str)(v:V):∀fs:List (Str×V),f∈(yP f v fs).map (·.1)/\∀g,g∈fs.map (·.1)->g∈(yP f v fs).map (·.1)
 |[]=>#[by simp[yP],λg h=>by simp at h]
 |(k,x)::r=>by
  let⟨a,b⟩:=ZH f v r;rw[show yP f v ((k,x)::r)=(if k=f then(k,v)::r else(k,x)::yP f v r)from rfl];by_cases hk:k=f
  ·rw[aL hk];subst hk;exact#[by simp,λg h=>by simpa using h]
  ·rw[aI hk];refine#[?_,λg h=>?_]
   ·rw[cI];exact bB _ a
   ·rw[cI]at h⊢;rcases bG.mp h with e |e
    ·exact bG.mpr<|.inl e
    ·exact bB _<|b g e
theorem ZR(f:Str)(v:V):∀fs:List (Str×V),(yP f v fs).length<=fs.length+1
 |[]=>by simp[yP]
 |(k,x)::r=>by
  let a:=ZR f v r;rw[show yP f v ((k,x)::r)=(if k=f then(k,v)::r else(k,x)::yP f v r)from rfl];by_cases hk:k=f
  ·rw[aL hk,bJ,bJ];lia
  ·rw[aI hk,bJ,bJ];lia
theorem mZ.some_of{o:Option Value}(r:mZ (some v) o):∃u,o=some u/\RelV v u:=by
 cases o with
 |none=>exact(show False from r).elim
 |some u=>exact#[u,rfl,r]
theorem mZ.none_of{o:Option Value}(r:mZ none o):o=none:=by
 cases o with
 |none=>rfl
 |some u=>exact(show False from r).elim
theorem OJ(r:RelV v u):W.handedIn u=true:=by
 cases v with
 |non=>cases (show u=Value.none from r);rfl
 |bl b=>cases (show u=Value.bool b from r);rfl
 |int i=>let⟨t,e⟩:=(show∃t,u=Value.int i t from r);cases e;rfl
 |str x=>let⟨t,e⟩:=(show∃t,u=Value.str x t from r);cases e;rfl
 |byt b=>let⟨t,e⟩:=(show∃t,u=Value.bytes b t from r);cases e;rfl
 |flt b=>let⟨t,e⟩:=(show∃t,u=Value.float b t from r);cases e;rfl
 |ref a=>cases (show u=Value.ref a from r);rfl
 |ty n=>cases (show u=Value.type n from r);rfl
section
variable {C dx:Addr} {fs fs':List (Str×V)}
theorem YS(hok:mL P w H h)(e:H a=some (.ins C dx fs)):∃mA,IE h a dx C mA/\(∀f,mZ (fs.lookup f)<|mA f)/\PySem.Within mA (fs.map (·.1))/\fs.length<=1000/\H dx=some (.own a):=by
 let⟨d,z,ne,b,mA,n,r,q⟩:=(show fF P w H h a (.ins C dx fs)from hok a _ e)
 exact#[mA,#[b,n,ne],r,q,z,d]
end
structure MT(K:W.Frag)(C:Addr):Prop where
 pg:W.plainGet K C Str.empty=true
 hd:W.hasDictIn K C=true
 po:W.plainOver K C=true
 sa:W.findIn K (.ref C) "__setattr__"=some (some<|.builtin "object.__setattr__")
theorem MT.get{C:Addr}(c:MT K C)(f:Str):W.plainGet K C f=true:=c.pg
def lP(K:W.Frag)(C:Addr)(f:Str):Prop:=W.findIn K (.ref C) f=some none
theorem lP.taker{C:Addr}{f:Str}(n:lP K C f):W.takerIn K C f=some none:=by
 unfold W.takerIn;rw[show W.findIn K (.ref C) f=some none from n];rfl
structure OY(K:W.Frag)(C:Addr)(m:Str)(f:Addr):Prop where
 at_:W.findIn K (.ref C) m=some (some<|.ref f)
 fn:W.isFn K (.ref f)=true
 kp:W.keepIn K (.ref f)=true
section
variable {C dx:Addr} {fs:List (Str×V)} {f:Str}
theorem HK{b:Bool}(I:Inv X aK σ H s)(e:H a=some (.ins C dx fs))(c:MT X.K C)(n:lP X.K C f)(l:fs.lookup f=some v)
 (h:∀u s',Inv X aK σ H s'->RelV v u->Q u s'):wpAny (model X.prog X.w) A (getAttr (.ref a) f b) Q E s:=by
 let⟨mA,O,r,_,_,_⟩:=YS I.hok e;let⟨u,g,d⟩:=mZ.some_of (v:=v) (o:=mA f) (by rw[←l];calc r f);exact jw I.kIn O (c.get f) c.hd n g (OJ d)<|h u _ (I.tok _) d
theorem HJ{m:Str}{g:Addr}{pl:Sem Bool}{Q:Value×List Value->Shared->Prop}(I:Inv X aK σ H s)(e:H a=some (.ins C dx fs))(c:MT X.K C)(k:OY X.K C m g)(l:fs.lookup m=none)
 (h:Q (.ref g,[.ref a]) s):wpAny (model X.prog X.w) A (getMethod (.ref a) m pl) Q E s:=by
 let⟨mA,O,r,_,_,_⟩:=YS I.hok e;let hn:mA m=none:=mZ.none_of (by rw[←l];calc r m);exact bb I.kIn O (c.get m) k.at_ k.fn hn h
theorem FN{Q:Unit->Shared->Prop}(I:Inv X aK σ H s)(e:H a=some (.ins C dx fs))(c:MT X.K C)(n:lP X.K C f)(hl:fs.length<1000)(ry:RelV y u)
 (h:∀s',Inv X aK σ (upd H a<|.ins C dx<|yP f y fs) s'->Q Unit.unit s'):wpAny (model X.prog X.w) A (setAttr (.ref a) f u) Q E s:=by
 let⟨mA,O,r,wi,_,i⟩:=YS I.hok e;let hz:(fs.map (·.1)).length<=sizeLine:=by rw[aD,cQ];lia
 refine fy I.kIn O c.sa c.po n.taker c.hd wi hz λh' d sb=>h _ ?_
 let hd:∃o,h'.get? dx=some o:=let ⟨o,_,_,j,_⟩:=d.ns;#[o,j];calc I.write (x:=a) (e:=dx) (by rw[e];calc True.intro) (.inr i) (λb q hb z=>(sb.2 b hb).trans z) hd ?_;refine#[by rw[zE O.ne];exact i,?_,O.ne,d.obj,_,d.ns,λg=>?_,λg k=>?_]
 ·have :=ZR f y fs;lia
 ·show mZ ((yP f y fs).lookup g) (if g=f then some u else mA g);rw[ZQ];by_cases q:g=f
  ·rw[aL q,aL q];exact ry
  ·rw[aI q,aI q];exact r g
 ·by_cases q:g=f
  ·rw[q];exact(ZH f y fs).1
  ·calc(ZH f y fs).2 g (wi g λz=>k ?_);show(if g=f then some u else mA g)=none;rw[aI q];exact z
theorem Inv.made(I:Inv X aK σ H s):Inv X aK σ (upd (upd H s.heap.objs.size<|.own<|s.heap.objs.size+1) (s.heap.objs.size+1)<|.ins C s.heap.objs.size [])
 {s with heap:=(s.heap.push W.emptyDict).push (W.instObj C s.heap.objs.size)}:=by
 let c:(s.heap.push W.emptyDict).get? s.heap.objs.size=some W.emptyDict:=bO s.heap rfl;let d:((s.heap.push W.emptyDict).push (W.instObj C s.heap.objs.size)).get? (s.heap.objs.size+1)=some (W.instObj C s.heap.objs.size):=by
  have :=bO (s.heap.push W.emptyDict) (o:=W.instObj C s.heap.objs.size) rfl;rwa[Heap.size_push]at this
 let f:(s.heap.push W.emptyDict).Ns s.heap.objs.size (λ_=>none):=#[W.emptyDict,(List.toArray []),_,c,rfl,(λe he=>absurd he (by simp)),λ_=>rfl]
 let g:=I.laid (a:=s.heap.objs.size) (o:=.own<|s.heap.objs.size+1) (h':=s.heap.push W.emptyDict) (t':=s.toks) (λb u q=>aO _ q) (aG _) #[_,c];calc g.laid (a:=s.heap.objs.size+1) (o:=.ins C s.heap.objs.size []) (t':=s.toks) (λb u q=>aO _ q) (Nat.le_of_eq<|Heap.size_push _ _) ?_;let ne:s.heap.objs.size≠s.heap.objs.size+1:=cH<|PF _;refine#[by rw[zE ne,zA],bZ _,ne,d,λ_=>none,(Heap.Ns1.of_empty f).at λo q=>aO _ q,λ_=>True.intro,λy hy=>absurd rfl hy]
theorem kg{env:Env}{f:Str}{pos:Pos}(hb:attributeBase e f env (eval e env)=eval e env)
 (h:wpAny (model prog w) A (eval e env) (λo s₁=>wpAny (model prog w) A (getAttr o f true) Q E s₁) E s):wpAny (model prog w) A (eval (.Attribute e f pos) env) Q E s:=
 Attribute_any_ h (by rw[arm_eval_Attribute,hb])
end
def xS(K:W.Frag)(ta:TE)(f:Str):TE:=λσ H Q=>ta σ H λx H1=>mJ x λa=>∃C dx fs,H1 a=some (.ins C dx fs)/\MT K C/\lP K C f/\∃v,fs.lookup f=some v/\Q v H1
def FQ(K:W.Frag)(ta tv:TE)(f:Str):TS:=λD σ H=>tv σ H λy H1=>ta σ H1 λx H2=>mJ x λa=>∃C dx fs,H2 a=some (.ins C dx fs)/\MT K C/\lP K C f/\fs.length<1000/\
 D.nx σ (upd H2 a<|.ins C dx<|yP f y fs)
section
variable {value:Expr} {f:Str} {pos tpos:Pos} {tv:TE}
theorem TL(he:PE X e ta)(hb:attributeBase e f X.env (eval e X.env)=eval e X.env):PE X (.Attribute e f pos) (xS X.K ta f):=by
 intro aK s σ H Q I h;calc kg hb (eP (he aK s σ H _ I h) λu s1 z=>?_);let⟨x,H1,b,d,q⟩:=z;replace q:=yS q;let⟨a,rfl,C,dx,fs,g,c,n,v,l,q⟩:=q;obtain rfl:u=Value.ref a:=d;exact HK b g c n l λk s2 i j=>#[v,H1,i,j,q]
theorem ZB(ha:PE X o ta)(hv:PE X value tv)(hs:swapsWith value (some<|.Attribute o f pos') pos.line X.env=pure false):PS X (.Assign [.Attribute o f pos'] value pos) (FQ X.K ta tv f):=by
 intro aK s σ H D I h;calc plainObj_wpAny_Assign_Attribute (eP (hv aK s σ H _ I h) λu s1 ⟨y,H1,d,e,q⟩=>eP (ha aK s1 σ H1 _ d q) λg s2 z=>?_) hs;let⟨x,H2,i,j,b⟩:=z;replace b:=yS b;let⟨a,rfl,C,dx,fs,k,c,n,l,b⟩:=b;obtain rfl:g=Value.ref a:=j;exact FN i k c n l e λp m=>#[σ,_,m,b]
end
section
variable {c:Value} {b:Bool}
inductive rF (K:W.Frag) (H:Hp):V->Value->Prop where
 |non:rF K H .non (.type "NoneType")
 |bl (x:Bool):rF K H (.bl x) (.type "bool")
 |int (i:Int):rF K H (.int i) (.type "int")
 |str (x:Str):rF K H (.str x) (.type "str")
 |flt (x:UInt64):rF K H (.flt x) (.type "float")
 |lst {a:Addr} {xs:List V} (e:H a=some (.lst xs)):rF K H (.ref a) (.type "list")
 |frz {a:Addr} {o:Obj} {xs:List V} (e:H a=some (.frz o<|.lst xs)):rF K H (.ref a) (.type "list")
 |tup {a:Addr} {xs:List V} (e:H a=some (.tup xs)):rF K H (.ref a) (.type "tuple")
 |dK {a:Addr} {kvs:List (fC×V)} (e:H a=some (.dK kvs)):rF K H (.ref a) (.type "dict")
 |dT {a:Addr} {kvs:List (List fC×V)} (e:H a=some (.dT kvs)):rF K H (.ref a) (.type "dict")
 |ins {a C dx:Addr} {fs:List (Str×V)} (e:H a=some (.ins C dx fs)) (cl:MT K C) (ha:W.findIn K (.ref C) "__class__"=some (some<|.builtin "object.__class__"))
  (hn:W.specialIn K (.builtin "object.__class__") "__get__"=some (some<|.builtin "getset_descriptor.__get__")) (htk:W.takesIn K (.builtin "object.__class__")=some true)
  (hm:W.mroIn K C (.type "object")=some true):rF K H (.ref a) (.ref C)
theorem OG{x:V}{t:Value}(I:Inv X aK σ H s)(rx:RelV x u)(ty:rF X.K H x t)(e:W.kitOne X.K t c=some b)(h:∀tk,Q (.bool b) {s with toks:=tk}):
 wpAny (model X.prog X.w) A (call (.builtin "isinstance") [u,c]) Q E s:=by
 cases ty with
 |non=>cases (show u=Value.none from rx);exact eW W.kitx_none I.kIn True.intro e (λz=>nomatch z) h
 |bl y=>cases (show u=Value.bool y from rx);exact eW W.kitx_bool I.kIn True.intro e (λz=>nomatch z) h
 |int i=>let⟨t,q⟩:=(show∃t,u=Value.int i t from rx);cases q;exact eW W.kitx_int I.kIn True.intro e (λz=>nomatch z) h
 |str y=>let⟨t,q⟩:=(show∃t,u=Value.str y t from rx);cases q;exact eW W.kitx_str I.kIn True.intro e (λz=>nomatch z) h
 |flt y=>let⟨t,q⟩:=(show∃t,u=Value.float y t from rx);cases q;exact eW W.kitx_float I.kIn True.intro e (λz=>nomatch z) h
 |@lst a xs d=>
  cases (show u=Value.ref a from rx);let⟨_,_,n,_,h1⟩:=(show fF X.prog X.w H s.heap a (.lst xs)from I.hok a _ d)
  exact eW W.kitx_list I.kIn #[_,h1,rfl] e (λz=>nomatch z) h
 |@frz a f xs d=>
  cases (show u=Value.ref a from rx);let⟨_,_,_,n,_,h1⟩:=(show fF X.prog X.w H s.heap a (.frz f<|.lst xs)from I.hok a _ d)
  exact eW W.kitx_list I.kIn #[_,h1,rfl] e (λz=>nomatch z) h
 |@tup a xs d=>
  cases (show u=Value.ref a from rx);let⟨_,_,_,p⟩:=(show fF X.prog X.w H s.heap a (.tup xs)from I.hok a _ d)
  let⟨o,h1,h2,_⟩:=p;exact eW W.kitx_tuple I.kIn #[o,h1,h2] e (λz=>nomatch z) h
 |@dK a kvs d=>
  cases (show u=Value.ref a from rx);let⟨_,_,vs,_,p⟩:=(show fF X.prog X.w H s.heap a (.dK kvs)from I.hok a _ d)
  let⟨o,es,ep,h1,h2,_⟩:=p;exact eW W.kitx_dict I.kIn #[o,h1,h2.1] e (λz=>nomatch z) h
 |@dT a kvs d=>
  cases (show u=Value.ref a from rx);let⟨_,_,xs,_,o,es,ep,h1,h2,_⟩:=(show fF X.prog X.w H s.heap a (.dT kvs)from I.hok a _ d)
  exact eW W.kitx_dict I.kIn #[o,h1,h2.1] e (λz=>nomatch z) h
 |@ins a C dx fs d cl ha hn htk hm=>
  cases (show u=Value.ref a from rx);let⟨mA,O,_⟩:=YS I.hok d;let⟨od,J,_⟩:=O.look;exact eW (W.kitx_own (cl.get _) cl.hd ha hn htk hm) I.kIn J e (λz=>nomatch z) h
end
structure gE(k:Nat)(A:Around):Prop where
 hd:A.handled=none
 dp:A.depth+3*k+5<recursionLimit
 un:A.units+16*k+200<cLine
theorem gE.mono{k:Nat}(r:gE k A)(h:j<=k):gE j A:=#[r.hd,by have :=r.dp;lia,by have :=r.un;lia]
theorem gE.deeper{k:Nat}(r:gE (k+1) A)(env:Env):gE k (A.deeper env):=
 #[r.hd,by have :=r.dp;show A.depth+1+3*k+5<_;lia,by have :=r.un;show A.units+3+16*k+200<_;lia]
theorem gE.in1{k:Nat}(r:gE (k+1) A):gE k A.in1:=
 #[r.hd,by have :=r.dp;show A.depth+3*k+5<_;lia,by have :=r.un;show A.units+1+16*k+200<_;lia]
theorem HD{C:Addr}:(A.under<|.builtin "type.__call__" #[.ref C::us,kw]).depth=A.depth+1:=by
 first |rfl |simp[Around.under,Code.weight,Code.isCreation,Code.isGuard,Code.isCaller,Code.frames,Code.isFrame,guardIds]
theorem HC{C:Addr}:(A.under<|.builtin "type.__call__" #[.ref C::us,kw]).units=A.units+1:=by
 first |rfl |simp[Around.under,Code.cUnits,Code.frames,Code.isFrame]
theorem gE.make{k:Nat}(r:gE (k+1) A)(C:Addr)(us:List Value)(kw:List (Str×Value)):gE k (A.under<|.builtin "type.__call__" #[.ref C::us,kw]):=
 #[r.hd,by have :=r.dp;rw[HD];lia,by have :=r.un;rw[HC];lia]
theorem gE.depth{k:Nat}(r:gE k A):A.depth<recursionLimit:=by have :=r.dp;lia
theorem gE.units{k:Nat}(r:gE k A):A.units+64<cLine:=by have :=r.un;lia
def tNil:TA:=λ_ H Q=>Q [] H
def me(ta:TE)(tr:TA):TA:=λσ H Q=>ta σ H λx H1=>tr σ H1 λxs H2=>Q (x::xs) H2
section
variable {t:TA} {pos:Pos}
theorem zI:PA X [] tNil:=λ_ _ _ _ H Q I h=>lJ #[[],H,I,.nil,h]
theorem zG(ha:PE X e te)(hr:PA X es t)(hs:autoParam (starEach (e::es) X.env=(false,eval e X.env)::starEach es X.env) a1._auto_1):PA X (e::es) (me te t):=by
 intro pos aK s σ H Q I h;rw[hs];show wpAny _ _ (spliced ((false,eval e X.env)::backTo pos (starEach es X.env))) _ _ s;calc fV (eP (ha aK s σ H _ I h) λu s1 z=>?_);let⟨x,H1,a,r1,b⟩:=z;exact eP (hr pos aK s1 σ H1 _ a b) λus s2 ⟨xs,H2,c,d,f⟩=>#[x::xs,H2,c,.cons r1 d,f]
def tTup(t:TA):TE:=λσ H Q=>t σ H λxs H1=>xs.length<=sizeLine/\∀p,H1 p=none->Q (.ref p) (upd H1 p<|.tup xs)
def tLst(t:TA):TE:=λσ H Q=>t σ H λxs H1=>xs.length<=sizeLine/\∀p,H1 p=none->Q (.ref p) (upd H1 p<|.lst xs)
theorem yI{x1}(h:PA X es t):PE X (.Tuple es x1 pos) (tTup t):=by
 intro aK s σ H Q I hq;calc wpAny_Tuple_spliced (eP (h pos aK s σ H _ I hq) λus s1 ⟨xs,H1,a,r,z,q⟩=>#[by rw[←r.length];exact z,?_]);let hf:H1 s1.heap.objs.size=none:=a.hok.fresh<|aG _;calc#[.ref s1.heap.objs.size,upd H1 s1.heap.objs.size<|.tup xs,a.laid (t':=s1.toks) (λb u e=>aO _ e) (aG _) ?_,rfl,q _ hf];exact#[z,us,r,#[_,bO _ rfl,rfl,_,rfl]]
theorem FX(h:PA X es t):PE X (.List es pos) (tLst t):=by
 intro aK s σ H Q I hq;calc wpAny_List_spliced (eP (h pos aK s σ H _ I hq) λus s1 ⟨xs,H1,a,r,z,q⟩=>#[by rw[←r.length];exact z,?_]);let hf:H1 s1.heap.objs.size=none:=a.hok.fresh<|aG _;calc#[.ref s1.heap.objs.size,upd H1 s1.heap.objs.size<|.lst xs,a.laid (t':=s1.toks) (λb u e=>aO _ e) (aG _) ?_,rfl,q _ hf];exact#[z,us,0,r,bO _ rfl]
end
abbrev Sp:=List V->Hp->VK->XK->Prop
abbrev p7:=List Env->Hp->Shared->XK->Value->Shared->Prop
structure sY(P:Program)(w:World)(K:W.Frag)(mg:Str->Option Value)(base:Heap)(A:Around)(outer:List Env)(s:Shared)(H:Hp):Prop where
 frames:A.frames=some outer
 mod:Mod K mg base
 bs:∀b o,base.get? b=some o->s.heap.get? b=some o/\H b=none
 bsz:base.objs.size<=s.heap.objs.size
 funs:s.heap.FunFrames base outer
 frf:∀b∈HN outer,H b=none
 hok:mL P w H s.heap
 bare:AllBare s.gens
def CE(outer:List Env)(P:Program)(w:World)(H:Hp)(s:Shared)(Q:VK)(u:Value)(s':Shared):Prop:=
 ∃v H',s'.os=s.os/\AllBare s'.gens/\Un (HN outer) [] H H' s.heap s'.heap/\mL P w H' s'.heap/\RelV v u/\Q v H'
def CR(CX:p7)(outer:List Env)(P:Program)(w:World)(H:Hp)(s:Shared)(Q:VK)(E:XK)(r:Result)(s':Shared):Prop:=
 match r with
 | .ok (.ret u)=>CE outer P w H s Q u s'
 | .ok _=>False
 | .error e=>CX outer H s E e s'
structure dC(P:Program)(w:World)(K:W.Frag)(mg:Str->Option Value)(base:Heap)(CX:p7)(k:Nat)(f:Addr)(fd:FuncData)(ps:List Str)(sp:Sp):Prop where
 len:∀vs H Q E,sp vs H Q E->vs.length=ps.length
 run:∀(A:Around)(outer:List Env)(s:Shared)(H:Hp)(args:Args)(us:List Value)(vs:List V)(Q:VK)(E:XK),gE k A->sY P w K mg base A outer s H->BindsTo s fd args (ps.zip us)->dD vs us->sp vs H Q E->
  codeAny (model P w) A (.call (.ref f) args) (CR CX outer P w H s Q E) s
theorem dC.mono{k:Nat}{ps:List Str}(F:dC P w K mg base CX j f fd ps sp)(h:j<=k):
 dC P w K mg base CX k f fd ps sp:=#[F.len,λA outer s H args us vs Q E hr=>F.run A outer s H args us vs Q E<|hr.mono h]
theorem sY.make(e:sY P w K mg base A outer s H)(C:Addr)(us:List Value)(kw:List (Str×Value)):
 sY P w K mg base (A.under<|.builtin "type.__call__" #[.ref C::us,kw]) outer s H:=#[by first |exact e.frames |(simpa[Around.under,Code.envs,Code.isFrame,pushEnvs]using e.frames),e.mod,e.bs,e.bsz,e.funs,e.frf,e.hok,e.bare]
theorem sY.in1(e:sY P w K mg base A outer s H):
 sY P w K mg base A.in1 outer s H:=#[e.frames,e.mod,e.bs,e.bsz,e.funs,e.frf,e.hok,e.bare]
section
variable {s':Shared}
theorem Inv.env0(I:Inv X aK σ H s):sY X.prog X.w X.K X.mg X.base X.A X.stack s H:=
 #[I.ok.frames,I.ok.mod,I.bs,bU I.ok.bsz I.sz,I.stack,I.stkFree,I.hok,I.bare]
theorem Inv.after{Q:VK}(I:Inv X aK σ H s)(h:CE X.stack X.prog X.w H s Q u s'):EP X aK σ Q u s':=by
 let⟨v,H',os,bare,un,hok,r,q⟩:=h;let⟨c,g,d,t,a⟩:=s';obtain rfl:a=s.os:=os;exact#[v,H',I.call (h':=c) (g':=g) (d':=d) (t':=t) (ch:=[]) un hok bare (λb z=>absurd z (by simp)),r,q]
end
def RL(sp:Sp)(dvs:List V)(E:XK)(t:TA):TE:=λσ H Q=>t σ H λvs H1=>sp (vs++dvs) H1 Q E
def yJ(C:Addr)(m:Str)(sp:Sp)(dvs:List V)(E:XK)(ta:TE)(t:TA):TE:=λσ H Q=>ta σ H λx H1=>mJ x λa=>∃dx fs,H1 a=some (.ins C dx fs)/\fs.lookup m=none/\
 t σ H1 λvs H2=>sp (x::(vs++dvs)) H2 Q E
def IT(C:Addr)(sp:Sp)(dvs:List V)(E:XK)(t:TA):TE:=λσ H Q=>t σ H λvs H1=>∀x dx,H1 x=none->H1 dx=none->dx≠x->
 sp (.ref x::(vs++dvs)) (upd (upd H1 dx<|.own x) x<|.ins C dx []) (λv H2=>v=.non/\Q (.ref x) H2) E
def Binds(K:W.Frag)(fd:FuncData)(ps:List Str)(ds:List Value):Prop:=
 ∀(s:Shared)(us:List Value),K.In s.heap->(us++ds).length=ps.length->BindsTo s fd #[us,[]] (ps.zip<|us++ds)
theorem Binds.all{ps:List Str}(h:∀us:List Value,us.length=ps.length->bindArgs fd #[us,[]]=pure (ps.zip us)):Binds K fd ps []:=λs us _ hl=>by
 rw[cK]at hl⊢;exact .of_eq<|h us hl
def ZN(CX:p7)(X:Cx)(E:XK):Prop:=∀(aK:List (Addr×Obj))(σ:St)(H:Hp)(s:Shared)(e:Value)(s':Shared),Inv X aK σ H s->CX X.stack H s E e s'->X.xe e s'
section
variable {k:Nat} {C:Addr} {ps:List Str} {dvs:List V} {ds:List Value} {E:XK} {x m:Str} {pos:Pos} {t:TA}
theorem FR{Q:VK}(F:dC X.prog X.w X.K X.mg X.base CX k f fd ps sp)(hr:gE k X.A)(hb:Binds X.K fd ps ds)(hd:dD dvs ds)(hx:ZN CX X E)
 (I:Inv X aK σ H s) (r:dD vs us) (h:sp (vs++dvs) H Q E):wpAny (model X.prog X.w) X.A (call (.ref f) us) (EP X aK σ Q) X.xe s:=by
 let a:dD (vs++dvs) (us++ds):=r.append hd;let hl:(us++ds).length=ps.length:=by rw[←a.length];exact F.len _ _ _ _ h
 calc wpAny_call (tW (F.run X.A X.stack s H #[us,[]] (us++ds) (vs++dvs) Q E hr I.env0 (hb s us I.kIn hl) a h) λr s' hq=>?_);cases r with
 |error e=>exact hx aK σ H s e s' I hq
 |ok fl=>
  cases fl with
  |ret u=>exact I.after hq
  |next=>exact False.elim hq
  |brk=>exact False.elim hq
  |cont=>exact False.elim hq
theorem ij(F:dC X.prog X.w X.K X.mg X.base CX k f fd ps sp)(hr:gE k X.A)(hg:Gl X x)(hm:X.mg x=some (.ref f))(hk:W.keepIn X.K (.ref f)=true)(hb:Binds X.K fd ps ds)(hd:dD dvs ds)(hx:ZN CX X E)
 (ha:PA X (e::es) t) (hdb:autoParam ((x==("__debug__":Str))=false) a2._auto_1) (he:autoParam (starEach (e::es) X.env=(false,eval e X.env)::starEach es X.env) a1._auto_1) (hpl:autoParam ((backTo pos<|starEach es X.env).any (·.1)=false) a1._auto_1):
 PE X (.Call (.Name x p) (e::es) [] pos) (RL sp dvs E t):=by
 intro aK s σ H Q I h;calc fH<|VG I hg hm ?_ hdb;calc pI (h₀:=X.base) I.ok.mod.kin hk (eP (ha pos aK s σ H _ I h) λus s1 ⟨vs,H1,a,r,q⟩=>#[a.kIn,?_]) he hpl;exact FR F hr hb hd hx a r q
theorem gy{pl:Sem Bool}(he:PE X o ta)(c:MT X.K C)(hm:OY X.K C m f)(F:dC X.prog X.w X.K X.mg X.base CX k f fd ps sp)(hr:gE k X.A)(hb:Binds X.K fd ps ds)(hd:dD dvs ds)(hx:ZN CX X E)(ha:PA X (e::es) t)
 (hst:autoParam (starEach (e::es) X.env=(false,eval e X.env)::starEach es X.env) a1._auto_1) (hpl:autoParam ((backTo pos<|starEach es X.env).any (·.1)=false) a1._auto_1)
 (ht:autoParam (eval (.Call (.Attribute o m mF) (e::es) [] pos) X.env=(do
  let ov ←eval o X.env
  standAt mF.atName
  let (f,first) ←holding [ov] (getMethod ov m pl)
  callWith pos f first (backTo pos<|starEach (e::es) X.env) (backToKw pos<|keywordEach [] X.env))) a1._auto_1):
 PE X (.Call (.Attribute o m mF) (e::es) [] pos) (yJ C m sp dvs E ta t):=by
 intro aK s σ H Q I h;calc W.methodCall_KW (pl:=pl) (eP (he aK s σ H _ I h) λu s1 z=>?_) ht;let⟨x,H1,b,g,q⟩:=z;replace q:=yS q;let⟨a,rfl,dx,fs,i,l,q⟩:=q;obtain rfl:u=Value.ref a:=g;calc HJ b i c hm l ?_;calc pI (first:=[.ref a]) (h₀:=X.base) I.ok.mod.kin hm.kp (eP (ha pos aK s1 σ H1 _ b q) λus s2 ⟨vs,H2,d,r,j⟩=>#[d.kIn,?_]) hst hpl;exact FR (us:=.ref a::us) (vs:=.ref a::vs) F hr hb hd hx d (.cons rfl r) j
structure Mk(K:W.Frag)(C f:Addr):Prop where
 makes:W.makesIn K C=true
 init:W.findIn K (.ref C) "__init__"=some (some<|.ref f)
 fn:W.isFn K (.ref f)=true
 kp:W.keepIn K (.ref C)=true
theorem SF{Q:VK}(M:Mk X.K C f)(F:dC X.prog X.w X.K X.mg X.base CX k f fd ps sp)(hr:gE (k+1) X.A)(hb:Binds X.K fd ps ds)(hd:dD dvs ds)
 (hx:ZN CX X E) (I:Inv X aK σ H s) (r:dD vs us)
 (h:∀x dx,H x=none->H dx=none->dx≠x->sp (.ref x::(vs++dvs)) (upd (upd H dx<|.own x) x<|.ins C dx []) (λv H2=>v=.non/\Q (.ref x) H2) E):
 wpAny (model X.prog X.w) X.A (call (.ref C) us) (EP X aK σ Q) X.xe s:=by
 let hq:=h (s.heap.objs.size+1) s.heap.objs.size (I.hok.fresh<|tG _) (I.hok.fresh<|aG _)<|cH<|PF _;let b:=Inv.made (C:=C) I;let c:dD (V.ref (s.heap.objs.size+1)::(vs++dvs)) (Value.ref (s.heap.objs.size+1)::(us++ds)):=.cons rfl<|r.append hd;let hl:(Value.ref (s.heap.objs.size+1)::us++ds).length=ps.length:=by
  let e:=c.length;rw[F.len _ _ _ _ hq]at e;exact e.symm
 refine wpAny_call (WZ (f:=f) I.kIn M.makes M.init (cP.mp M.fn) (tW (F.run _ X.stack _ _ #[Value.ref (s.heap.objs.size+1)::us,[]] (Value.ref (s.heap.objs.size+1)::(us++ds)) _ _ E (hr.make C us [])
  (b.env0.make C us []) (hb _ (Value.ref (s.heap.objs.size+1)::us) b.kIn hl) c hq) λr s' a=>?_))
 cases r with
 |error e=>exact hx aK σ _ _ e s' b a
 |ok fl=>
  cases fl with
  |ret u=>
   let⟨v,H',d,rv,ev,g⟩:=b.after a;subst ev;exact#[rv,#[V.ref<|s.heap.objs.size+1,H',d,rfl,g]]
  |next=>exact False.elim a
  |brk=>exact False.elim a
  |cont=>exact False.elim a
theorem ic(M:Mk X.K C f)(F:dC X.prog X.w X.K X.mg X.base CX k f fd ps sp)(hr:gE (k+1) X.A)(hg:Gl X x)(hm:X.mg x=some (.ref C))(hb:Binds X.K fd ps ds)(hd:dD dvs ds)(hx:ZN CX X E)
 (ha:PA X (e::es) t) (hdb:autoParam ((x==("__debug__":Str))=false) a2._auto_1) (he:autoParam (starEach (e::es) X.env=(false,eval e X.env)::starEach es X.env) a1._auto_1) (hpl:autoParam ((backTo pos<|starEach es X.env).any (·.1)=false) a1._auto_1):
 PE X (.Call (.Name x p) (e::es) [] pos) (IT C sp dvs E t):=by
 intro aK s σ H Q I h;calc fH<|VG I hg hm ?_ hdb;calc pI (h₀:=X.base) I.ok.mod.kin M.kp (eP (ha pos aK s σ H _ I h) λus s1 ⟨vs,H1,a,r,q⟩=>#[a.kIn,?_]) he hpl;exact SF M F hr hb hd hx a r q
end
def PK(X:Cx)(kws:List Keyword)(t:TA):Prop:=
 ∀(pos:Pos)(aK:List (Addr×Obj))(s:Shared)(σ:St)(H:Hp)(Q:List V->Hp->Prop),Inv X aK σ H s->t σ H Q->wpAny (model X.prog X.w) X.A (evalAll ((backToKw pos<|keywordEach kws X.env).map (·.2))) (AP X aK σ Q) X.xe s
section
variable {k:Nat} {C:Addr} {ps ks:List Str} {E:XK} {x m:Str} {pos kpos:Pos} {kws:List Keyword} {t tk:TA} {nm:Option Str}
theorem ul:PK X [] tNil:=λ_ _ _ _ H Q I h=>wpAny_evalAll_nil #[[],H,I,.nil,h]
theorem gu(ha:PE X e te)(hr:PK X kws t):PK X (#[nm,e,kpos]::kws) (me te t):=by
 intro pos aK s σ H Q I h;show wpAny _ _ (evalAll ((do let v ←eval e X.env;standAt pos;pure v)::(backToKw pos<|keywordEach kws X.env).map (·.2))) _ _ s;calc wpAny_evalAll_cons (aF<|eP (ha aK s σ H _ I h) λu s1 ⟨x,H1,a,r1,b⟩=>aF<|wpAny_standAt<|aV ?_);exact eP (hr pos aK s1 σ H1 _ a b) λus s2 ⟨xs,H2,c,d,f⟩=>#[x::xs,H2,c,.cons r1 d,f]
variable {g:List Value->List Value->List Value} {gV:List V->List V->List V}
end
structure bT(N P:List Str)(sc:Scope):Prop where
 kind:sc.kind=.function
 co:sc.isCoroutine=false
 gen:sc.isGenerator=false
 nd:N.Nodup
 pre:N.take P.length=P
 par:∀x∈P,sc.names.lookup x=some .local\/sc.names.lookup x=some .cell
 nofree:∀y∈sc.names,y.2≠.free
theorem QV{kindOf:Str->Option NameKind}{x:Str}:∀{binds:List (Str×Value)}{m:Str->Option Value},(∀v,(x,v)∉binds)->bindL kindOf binds m x=m x
 |[],_,_=>rfl
 |(n,v)::r,m,h=>by
  unfold bindL;rw[QV λw a=>h w<|bB _ a];split
  ·have :x≠n:=by rintro rfl;exact h v bD
   simp[this]
  ·rfl
theorem QX{kindOf:Str->Option NameKind}{x:Str}:∀{binds:List (Str×Value)}{m:Str->Option Value},(∀v,(x,v)∉binds)->bindC kindOf binds m x=m x
 |[],_,_=>rfl
 |(n,v)::r,m,h=>by
  unfold bindC;rw[QX λw a=>h w<|bB _ a];split
  ·rfl
  ·have :x≠n:=by rintro rfl;exact h v bD
   simp[this]
theorem QW{kindOf:Str->Option NameKind}{x:Str}{v:Value}:∀{P:List Str}{vs:List Value}{i:Nat}{m:Str->Option Value},P.Nodup->P[i]?=some x->vs[i]?=some v->kindOf x=some .local->
 bindL kindOf (P.zip vs) m x=some v
 |[],_,_,_,_,h,_,_=>by simp at h
 |_::_,[],_,_,_,_,h,_=>by simp at h
 |p::P,w::vs,0,m,nd,h1,h2,hk=>by
  simp at h1 h2;subst h1;subst h2;show bindL kindOf ((p,w)::P.zip vs) m p=_;unfold bindL;rw[QV λv hv=>(iR.mp nd).1 (oO hv).1,aL hk];simp
 |p::P,w::vs,i+1,m,nd,h1,h2,hk=>by
  show bindL kindOf ((p,w)::P.zip vs) m x=_;unfold bindL;exact QW (i:=i) (iR.mp nd).2 (by simpa using h1) (by simpa using h2) hk
theorem QY{kindOf:Str->Option NameKind}{x:Str}{v:Value}:∀{P:List Str}{vs:List Value}{i:Nat}{m:Str->Option Value},P.Nodup->P[i]?=some x->vs[i]?=some v->kindOf x≠some .local->
 bindC kindOf (P.zip vs) m x=some v
 |[],_,_,_,_,h,_,_=>by simp at h
 |_::_,[],_,_,_,_,h,_=>by simp at h
 |p::P,w::vs,0,m,nd,h1,h2,hk=>by
  simp at h1 h2;subst h1;subst h2;show bindC kindOf ((p,w)::P.zip vs) m p=_;unfold bindC;rw[QX λv hv=>(iR.mp nd).1 (oO hv).1,aI hk];simp
 |p::P,w::vs,i+1,m,nd,h1,h2,hk=>by
  show bindC kindOf ((p,w)::P.zip vs) m x=_;unfold bindC;exact QY (i:=i) (iR.mp nd).2 (by simpa using h1) (by simpa using h2) hk
noncomputable def uU(N:List Str)(vs:List V):St:=vs.map some++List.replicate (N.length-vs.length) none
noncomputable def JF(CX:p7)(P:Program)(w:World)(K:W.Frag)(mg:Str->Option Value)(base:Heap)(N:List Str)(qual:Str)(scope:Scope)(f:Addr)(cd:Value)(A:Around)(outer:List Env)(s:Shared)(H:Hp)(E:XK):Cx where
 prog:=P
 w:=w
 K:=K
 mg:=mg
 base:=base
 A:=A.deeper (envOfC qual scope s.heap.objs.size f cd)
 N:=N
 s₀:=s
 H₀:=H
 env:=envOfC qual scope s.heap.objs.size f cd
 outer:=outer
 stack:=envOfC qual scope s.heap.objs.size f cd::outer
 ex:=[]
 calm:=true
 fn:=λ_=>true
 pn:=[]
 xe:=λe s'=>wpAny (model P w) (A.deeper<|envOfC qual scope s.heap.objs.size f cd) (leaving (envOfC qual scope s.heap.objs.size f cd) e) (λ_ s''=>CX outer H s E e s'') (λe' s''=>CX outer H s E e' s'') s'
theorem DS{sc:Scope}{x:Str}(h:sc.names.lookup x=some .cell):∃c,(cellsFrom n sc.names []).lookup x=some c:=by
 let q:=W.cellsFrom_some sc.names n []<|.inl h;exact Option.isSome_iff_exists.mp q
theorem OH{ps:List Str}{scope:Scope}{cd:Value}{s1:Shared}{E:XK}
 (S:bT N ps scope) (hd:A.handled=none) (e0:sY P w K mg base A outer s H) (hl:vs.length=ps.length) (r:dD vs us)
 (x:InCallC s s.heap.objs.size (bindL (envOfC qual scope s.heap.objs.size f cd).kindOf (ps.zip us) λ_=>none) (cellsFrom (s.heap.objs.size+1) scope.names []) (bindC (envOfC qual scope s.heap.objs.size f cd).kindOf (ps.zip us) λ_=>none) s1):
 Inv (JF CX P w K mg base N qual scope f cd A outer s H E) [] (uU N vs) H s1:=by
 let g:ps.length<=N.length:=by have :=dE List.length S.pre;rw[bF]at this;lia
 let⟨h1,tk,rfl,hk⟩:=x.done;let noA:∀b:Addr,b∉(JF CX P w K mg base N qual scope f cd A outer s H E).ex:=λb z=>absurd (show b∈([]:List Addr)from z) (by simp)
 refine#[#[e0.mod,S.kind,rfl,rfl,aG _,λy z c h1 h2=>?_,λy hy=>?_,λy c _ h=>?_,λ_=>hd,Around.frames_deeper e0.frames,.inr #[rfl,rfl],λb z=>absurd z<|noA b,e0.bs,e0.bsz,λb _ _=>noA b,λb z=>absurd z<|noA b,e0.funs,e0.frf],
  rfl,e0.bare,Un.kept hk,#[_,x.toInCall.ns,λi y v h1 h2 j=>?_],λy c h=>#[_,x.cell y c h],e0.hok.fresh<|aG _,λy c h=>?_,λp hp=>absurd (show p∈([]:List (Addr×Obj))from hp) (by simp),e0.hok.kept hk,?_]
 ·exact name_of_addr x.apart (eQ h1)<|eQ h2
 ·let hy:scope.names.lookup y=some .cell\/scope.names.lookup y=some .free:=hy;rcases hy with hy |hy
  ·exact DS hy
  ·exact absurd rfl<|S.nofree _<|eQ hy
 ·exact rX<|x.above y c<|eQ h
 ·let hi:i<vs.length:=by
   unfold uU at h2;by_cases hi:i<vs.length
   ·exact hi
   ·rw[bI (by simpa using hi)]at h2;rw[List.getElem?_replicate]at h2;split at h2<;>cases h2
  let ha:vs[i]?=some v:=by
   unfold uU at h2;rw[aZ (by simpa using hi),aJ]at h2;cases e:vs[i]? with
   |none=>rw[e]at h2;cases h2
   |some a=>rw[e]at h2;cases h2;rfl
  let⟨u,d,rv⟩:=r.get ha;let hp:ps[i]?=some y:=by
   rw[←S.pre,lS ()];exact h1
  let ndP:ps.Nodup:=by rw[←S.pre];exact S.nd.sublist<|List.take_sublist _ _
  calc#[u,rv,?_];rcases S.par y (aR hp)with k |k
  ·exact .inl #[k,QW ndP hp d k]
  ·let⟨c,e⟩:=DS (n:=s.heap.objs.size+1) k;calc .inr #[.inl k,c,e,?_];let q:=x.cell y c e;rw[QY ndP hp d (by show scope.names.lookup y≠_;rw[k];decide)]at q;exact q
 ·exact e0.hok.fresh<|rX<|x.above y c<|eQ h
 ·unfold uU;show _=N.length;rw[aH,aD,sR];lia
theorem fn_of{k:Nat}{name:Str}{params:Arguments}{body:List Stmt}{scope:Scope}{dV kV doc pm eZ ct oc:Value}{an od:Option Addr}
 {osl:Array (Option Value)} {ps:List Str} (lk:K.lookup f=some #[oc,od,.func<|W.fnOf name qual params body scope dV kV doc pm an eZ ct,osl]) (hcd:W.codeIn K eZ qual=true) (S:bT N ps scope)
 (len:∀vs H Q E,sp vs H Q E->vs.length=ps.length)
 (hbody:∀(A:Around)(outer:List Env)(s:Shared)(H:Hp)(vs:List V)(Q:VK)(E:XK),gE k (A.deeper<|envOfC qual scope s.heap.objs.size f eZ)->sp vs H Q E->
  ∃t,EU (JF CX P w K mg base N qual scope f eZ A outer s H E) body t/\t {nx:=λ_ H'=>Q .non H',rt:=Q} (uU N vs) H):
 dC P w K mg base CX (k+1) f (W.fnOf name qual params body scope dV kV doc pm an eZ ct) ps sp:=by
 calc#[len,λA outer s H args us vs Q E hr c hb r d=>?_];let hl:=len _ _ _ _ d;let KX:K.In s.heap:=c.mod.kin.keeps λb o e=>(c.bs b o e).1
 let lim:s.heap.NoLimit:=c.mod.nolimit.keeps λb o e=>(c.bs b o e).1
 let a:∀y∈ps.zip us,scope.names.lookup y.1=some .local\/(scope.names.lookup y.1=some .cell/\((cellsFrom (s.heap.objs.size+1) scope.names []).lookup y.1).isSome=true):=λz hy=>by
  let⟨n,v⟩:=z
  rcases S.par n (oO hy).1 with q |q
  ·exact .inl q
  ·exact .inr #[q,W.cellsFrom_some _ _ _<|.inl q]
 calc codeAny_call_function hr.depth (KX _ _ lk) rfl S.co S.gen rfl (W.codeRec_of KX hcd)<|hb _ _ _ _ ?_;refine wpAny_newFunctionEnv_cells S.kind a λenv he s1 x=>?_
 subst he;calc#[lim.keeps x.toInCall.keep,codeAny_func ?_];let⟨t,ht,hq⟩:=hbody A outer s H vs Q E (hr.deeper _) d;let I:Inv (JF CX P w K mg base N qual scope f eZ A outer s H E) [] (uU N vs) H s1:=OH S hr.hd c hl r x;refine iL (ht [] s1 (uU N vs) H _ I hq) (λfl s' hs=>?_) λe s' hs=>hs
 let fin:∀{σ':St}{H':Hp}{v:V}{u:Value},Inv (JF CX P w K mg base N qual scope f eZ A outer s H E) [] σ' H' s'->RelV v u->Q v H'->CE outer P w H s Q u s':=
  λ{σ' H' v u} J rv q=>#[v,H',J.os,J.bare,J.base,J.hok,rv,q]
 cases fl with
 |ret u=>
  let⟨v,σ',H',J,rv,q⟩:=hs;exact fin J rv q
 |next=>
  let⟨σ',H',J,q⟩:=hs;exact fin (v:=V.non) (u:=Value.none) J rfl q
 |brk=>
  let⟨_,_,_,q⟩:=hs;exact False.elim q
 |cont=>
  let⟨_,_,_,q⟩:=hs;exact False.elim q
section
variable {x:Str} {pos:Pos} {t:TA} {id:String} {r:List V->Hp->VK->Prop}
def tCB(r:List V->Hp->VK->Prop)(t:TA):TE:=λσ H Q=>t σ H λvs H1=>r vs H1 Q
theorem yH(hc:jL X (.builtin id) r)(hg:Gl X x)(hm:X.mg x=none)(hv:bootBuiltins x=some (.builtin id))(ha:PA X (e::es) t)(hn:autoParam (x≠"__name__") a2._auto_1)(hdb:autoParam ((x==("__debug__":Str))=false) a2._auto_1)
 (he:autoParam (starEach (e::es) X.env=(false,eval e X.env)::starEach es X.env) a1._auto_1) (hpl:autoParam ((backTo pos<|starEach es X.env).any (·.1)=false) a1._auto_1):PE X (.Call (.Name x p) (e::es) [] pos) (tCB r t):=by
 intro aK s σ H Q I h;calc fH<|qR I hg hm hv ?_ hn hdb;exact PyProof.Rows.callWith_builtin1 (eP (ha pos aK s σ H _ I h) λus s1 ⟨vs,H1,a,r1,b⟩=>hc aK s1 σ H1 vs us Q a r1 b) he hpl
theorem yY(hc:jL X (.type T) r)(hg:Gl X x)(hm:X.mg x=none)(hv:bootBuiltins x=some (.type T))(ha:PA X (e::es) t)(hn:autoParam (x≠"__name__") a2._auto_1)(hdb:autoParam ((x==("__debug__":Str))=false) a2._auto_1)
 (he:autoParam (starEach (e::es) X.env=(false,eval e X.env)::starEach es X.env) a1._auto_1) (hpl:autoParam ((backTo pos<|starEach es X.env).any (·.1)=false) a1._auto_1):PE X (.Call (.Name x p) (e::es) [] pos) (tCB r t):=by
 intro aK s σ H Q I h;calc fH<|qR I hg hm hv ?_ hn hdb;exact dW (eP (ha pos aK s σ H _ I h) λus s1 ⟨vs,H1,a,r1,b⟩=>hc aK s1 σ H1 vs us Q a r1 b) he hpl
end
end L2
namespace HT
open PySem PyProof.Rows
noncomputable def kL:List Int->List Int->Bool
 |[],[]=>false
 |[],_::_=>true
 |_::_,[]=>false
 |x::xs,y::ys=>if x=y then kL xs ys else decide (x<y)
theorem HF(x y:Int)(xs ys:List Int):kL (x::xs) (y::ys)=if x=y then kL xs ys else decide (x<y):=rfl
theorem bm(A:Around)(s:Shared)(a:Int)(t:Tok)(c:Int)(u:Tok):∃e,SeqAt.EqAt A s (.int a t) (.int c u) e/\(e=true↔a=c):=
 #[(a==c),SeqAt.EqAt.int_int a t c u,by simp]
theorem SJ(A:Around)(s:Shared)(a:Int)(t:Tok)(c:Int)(u:Tok)(prog:Program)(w:World)(E:Value->Shared->Prop)(Q:Value->Shared->Prop)(h:Q (.bool<|decide<|a<c) s):
 wpAny (model prog w) A (richCompare .Lt (.int a t)<|.int c u) Q E s:=
 (PyProof.Rows.lt_int h:wpAny (model prog w) A (compareOp .Lt (.int a t)<|.int c u) Q E s)
section
open PySem.SeqAt
open PySem.AutoSeq1 (wpAny_loadPart')
open PySem.MeetsSeq PySem.MeetsSeq2 PySem.MeetsSeq3
end
section
variable {prog:Program} {w:World} {A:Around} {E:Value->Shared->Prop} {s:Shared}
theorem cat_tup{t b:Addr}{vs ws:List Value}{Q:Value->Shared->Prop}(ht:IsTup s.heap t vs.toArray)(hb:IsTup s.heap b ws.toArray)(hv:vs≠[])
 (h1:ws=[]->Q (.ref t) s) (h2:ws≠[]->Q (.ref s.heap.objs.size) {s with heap:=s.heap.push {cls:=.type "tuple",data:=.seq (vs++ws).toArray}})
 (hsz:vs.length+ws.length<=sizeLine):wpAny (model prog w) A (binaryOp .Add (.ref t)<|.ref b) Q E s:=by
 let⟨⟨cls,i,data,sl⟩,g,hc,n,hd⟩:=id ht;let⟨⟨j,c,data2,d⟩,a,nQ,k,f⟩:=id hb;simp only at hc hd nQ f;subst hc hd nQ f;let e:vs.toArray++ws.toArray=(vs++ws).toArray:=by simp
 by_cases h:ws=[]
 ·exact concat_meets #[_,g,rfl] #[_,a,rfl] noFill_tuple_add seq_tuple_add rS rN (rD _ _)
   (tuple_addW1 t b vs.toArray ws.toArray n k i c sl d (by simpa using hv) (by simp[h])) #[g,a,h1 h]
 ·refine concat_meets #[_,g,rfl] #[_,a,rfl] noFill_tuple_add seq_tuple_add rS rN (rD _ _)
   (tuple_addW2 t b vs.toArray ws.toArray n k i c sl d (by simpa using hv) (by simpa using h) (by rw[aU,aU];calc hsz)) #[g,a,?_]
  rw[e];exact h2 h
noncomputable def sIx(n d:Nat):Option Int->Nat
 |none=>d
 |some v=>if v<0 then(v+(n:Int)).toNat else min v.toNat n
theorem sIx_none(n d:Nat):sIx n d none=d:=rfl
theorem sIx_nat(n d k:Nat):sIx n d (some (k:Int))=min k n:=by
 show(if(k:Int)<0 then((k:Int)+(n:Int)).toNat else min (k:Int).toNat n)=min k n;rw[aI (by lia),bS]
theorem uc(n d:Nat)(hd:d<=n)(o:Option Int):sIx n d o<=n:=by
 cases o with
 |none=>exact hd
 |some v=>
  show(if v<0 then(v+(n:Int)).toNat else min v.toNat n)<=n;by_cases hv:v<0
  ·rw[aL hv];lia
  ·rw[aI hv];exact Nat.min_le_right _ _
theorem MI(v:Int)(n d:Nat):(if v<0 then max (v+(n:Int)) 0 else min v (n:Int))=((sIx n d (some v):Nat):Int):=by
 show(if v<0 then max (v+(n:Int)) 0 else min v (n:Int))=(((if v<0 then(v+(n:Int)).toNat else min v.toNat n):Nat):Int)
 by_cases hv:v<0
 ·simp only[aL hv];lia
 ·simp only[aI hv];lia
theorem IA(lo hi:Option Int)(n:Nat):Builtin.Slice.sliceAdjust lo hi 1 (n:Int)=(((sIx n 0 lo:Nat):Int),((sIx n n hi:Nat):Int)):=by
 let h1:¬((1:Int)<0):=by lia
 unfold Builtin.Slice.sliceAdjust;simp only[h1,dJ];refine Prod.ext ?_ ?_
 ·cases lo with
  |none=>rfl
  |some v=>exact MI v n 0
 ·cases hi with
  |none=>rfl
  |some v=>exact MI v n n
theorem FV(i j:Nat):Builtin.Slice.slicePlaces (i:Int) (j:Int) 1=j-i:=by
 unfold Builtin.Slice.slicePlaces;let h1:(1:Int)>0:=by lia
 simp only[h1,if_true,Int.ediv_one];split<;>lia
theorem XB{v:Value}{o:Option Int}{Q:Option Int->Shared->Prop}(p:IsPart v o)(h:Q o s):wpAny (model prog w) A (Builtin.Slice.slicePartIndex v) Q E s:=by
 cases p with
 |none=>exact slicePart_none h
 |int i t=>exact slicePart_int h
theorem sliceApplied_gen{sl:Addr}{vl vu:Value}{lo hi:Option Int}{n:Nat}{Q:Int×Int×Nat->Shared->Prop}(hs:s.heap.IsSliceOf sl vl vu .none)(pl:IsPart vl lo)(pu:IsPart vu hi)
 (h:Q (((sIx n 0 lo:Nat):Int),1,sIx n n hi-sIx n 0 lo) s):wpAny (model prog w) A (Builtin.Slice.sliceApplied (.ref sl)<|pure (n:Int)) Q E s:=by
 let⟨os,a,c,b⟩:=id hs;unfold Builtin.Slice.sliceApplied Builtin.Slice.sliceFields;calc aF<|aF<|wpAny_field a b (x:=vl) rfl<|aF<|wpAny_field a b (x:=vu) rfl<|aF<|wpAny_field a b (x:=.none) rfl<|aV ?_;calc aF<|slicePart_none ?_;show wpAny _ _ (if((1:Int)==0)=true then _ else _) _ _ s;rw[aI (by decide)];calc aF<|XB pl<|aF<|XB pu<|aF<|aV ?_;show wpAny _ _ (match Builtin.Slice.sliceAdjust lo hi 1 (n:Int)with |(lo,hi)=>pure (lo,(1:Int),Builtin.Slice.slicePlaces lo hi 1)) _ _ s;rw[IA lo hi n];show wpAny _ _ (pure (((sIx n 0 lo:Nat):Int),(1:Int),Builtin.Slice.slicePlaces ((sIx n 0 lo:Nat):Int) ((sIx n n hi:Nat):Int) 1)) _ _ s;rw[FV];exact aV h
theorem SZ(xs:Array Value)(i k:Nat):((List.range k).filterMap λ(m:Nat)=>xs[((i:Int)+(m:Int)*1).toNat]?).toArray=((xs.toList.drop i).take k).toArray:=by
 let e:(λ(m:Nat)=>xs[((i:Int)+(m:Int)*1).toNat]?)=λm=>xs[i+m]?:=by
  funext m
  have :((i:Int)+(m:Int)*1).toNat=i+m:=by lia
  rw[this]
 rw[e];have :=pick_run xs i k;rw[mC]at this;let a:((λx=>xs[x]?) ∘ λx=>i+x)=λm=>xs[i+m]?:=rfl
 rw[a]at this;rw[this]
theorem getItem_tuple_cut{t sl:Addr}{cT:Array Value}{vl vu:Value}{lo hi:Option Int}{Q:Value->Shared->Prop}(ht:IsTup s.heap t cT)(hs:s.heap.IsSliceOf sl vl vu .none)(pl:IsPart vl lo)(pu:IsPart vu hi)
 (hw:¬(sIx cT.size 0 lo=0/\sIx cT.size cT.size hi=cT.size))
 (h:Q (.ref s.heap.objs.size) {s with heap:=s.heap.push {cls:=.type "tuple",data:=.seq ((cT.toList.drop<|sIx cT.size 0 lo).take (sIx cT.size cT.size hi-sIx cT.size 0 lo)).toArray}})
 (hsz:cT.size<=sizeLine):wpAny (model prog w) A (getItem (.ref t)<|.ref sl) Q E s:=by
 let a:sizeOk (.seq ((cT.toList.drop<|sIx cT.size 0 lo).take (sIx cT.size cT.size hi-sIx cT.size 0 lo)).toArray):=by
  show((cT.toList.drop<|sIx cT.size 0 lo).take (sIx cT.size cT.size hi-sIx cT.size 0 lo)).toArray.size<=sizeLine;rw[aU,bF,eG,bR];lia
 let g:sIx cT.size cT.size hi<=cT.size:=uc _ _ (aG _) hi;let⟨os,b,c,f⟩:=id hs;let d:s.TypeIs (.ref sl) "slice":=#[os,b,c]
 unfold getItem
 try with_reducible refine eM ?_
 first |refine aF (aV ?_) |skip
 calc aF (wpAny_sequenceKey ht.typeIs (by decide) ?_);refine aF (nI (name:=Str.ofString "__getitem__") ht.typeIs eC
  (gW eC ht.typeIs entry_tuple_getitem ?_<|args_tuple_getitem _ _))
 show wpAny _ _ (Builtin.Tuple.tupleItemsOf (.ref t) >>= _) _ _ s;calc aF<|tupleItemsOf_ ht ?_;calc aF<|iZ d ?_;rw[aL (by decide)];calc aF<|sliceApplied_gen hs pl pu ?_;let e:¬((((sIx cT.size 0 lo:Nat):Int)==0&&(1:Int)==1&&(sIx cT.size cT.size hi-sIx cT.size 0 lo)==cT.size)=true):=by
  intro q;rw[cD,cD]at q;let i:((sIx cT.size 0 lo:Nat):Int)=0:=eq_of_beq q.1.1;let j:sIx cT.size cT.size hi-sIx cT.size 0 lo=cT.size:=eq_of_beq q.2;exact hw #[by lia,by lia]
 show wpAny _ _ (if(((sIx cT.size 0 lo:Nat):Int)==0&&(1:Int)==1&&(sIx cT.size cT.size hi-sIx cT.size 0 lo)==cT.size)=true then _ else _) _ _ s;rw[aI e,SZ]
 first
  |exact aF (m:=Builtin.Tuple.tupleExact _)<|eY (aV #[_,rfl,aV h]) a
  |exact aF (m:=Builtin.Tuple.tupleExact _)<|eY (aF<|aV<|aV #[_,rfl,aV h]) a
  |exact aF<|aF (m:=Builtin.Tuple.tupleExact _)<|eY (aV<|aV #[_,rfl,aV h]) a
  |exact aF<|aF (m:=Builtin.Tuple.tupleExact _)<|eY (aV #[_,rfl,aV h]) a
end
end HT
namespace L2
open PySem PySem.Spec PyProof.Rows
variable {a b l:Addr} {A:Around} {X:Cx} {e o:Expr} {h h':Heap} {H H':Hp} {aK:List (Addr×Obj)} {kvs:List (List fC×V)} {es:List Expr} {xs:List V} {its its' us:List Value} {j n t':Nat} {mF pos':Pos} {P prog:Program} {s:Shared} {σ:St} {T:String} {ta te:TE} {α:Type} {v y:V} {u:Value} {E Q:Value->Shared->Prop} {w:World}
local macro_rules | `(()) => `(by lia)
abbrev TO:=St->Hp->(Option Int->Hp->Prop)->Prop
def PO(X:Cx)(e:Option Expr)(t:TO):Prop:=
 ∀(aK:List (Addr×Obj)) (s:Shared) (σ:St) (H:Hp) (Q:Option Int->Hp->Prop),Inv X aK σ H s->t σ H Q->
  wpAny (model X.prog X.w) X.A (evalPart e X.env) (λu s'=>∃o H',Inv X aK σ H' s'/\IsPart u o/\Q o H') X.xe s
def UH:TO:=λ_ H Q=>Q none H
def tPart(t:TE):TO:=λσ H Q=>t σ H λx H1=>AE x λi=>Q (some i) H1
theorem JA{ns:List Int}:∀{us:List Value},dD (ns.map V.int) us->IntsAre us ns:=by
 induction ns with
 |nil=>intro us r;rw[pA]at r;cases r;exact .nil
 |cons n ns a=>
  intro us r;rw[cI]at r;cases r with
  |cons r1 b=>
   let⟨t,e⟩:=r1;subst e;exact .cons n t<|a b
section
variable {lo hi:Option Expr} {tl th:TO} {pos p2:Pos}
theorem jP:PO X none UH:=by
 intro aK s σ H Q I h;rw[evalPart_none];exact aV #[none,H,I,.none,h]
theorem xV(h:PE X e te):PO X (some e) (tPart te):=by
 intro aK s σ H Q I b;rw[evalPart_some];refine eP (h aK s σ H _ I b) λu s1 z=>?_;let⟨x,H1,c,r1,a⟩:=z
 replace a:=jS a;let⟨i,rfl,q⟩:=a;let⟨t,rfl⟩:=r1;exact#[some i,H1,c,.int i t,q]
def SlR(X:Cx)(r:V->Option Int->Option Int->Hp->VK->Prop):Prop:=
 ∀(aK:List (Addr×Obj)) (s:Shared) (σ:St) (H:Hp) (x:V) (v vl vu:Value) (lo hi:Option Int) (sl:Addr) (Q:VK),Inv X aK σ H s->RelV x v->s.heap.IsSliceOf sl vl vu .none->IsPart vl lo->IsPart vu hi->r x lo hi H Q->
  ∃T id,typeLookup (.type T) "__getitem__"=pure (some<|.builtin id)/\s.TypeIs v T/\wpAny (model X.prog X.w) X.A (getItem v<|.ref sl) (EP X aK σ Q) X.xe s
def tSl(r:V->Option Int->Option Int->Hp->VK->Prop)(te:TE)(tl th:TO):TE:=λσ H Q=>te σ H λx H1=>tl σ H1 λl H2=>th σ H2 λu H3=>r x l u H3 Q
theorem xL{r:V->Option Int->Option Int->Hp->VK->Prop}(hr:SlR X r)(he:PE X e te)(hl:PO X lo tl)(hu:PO X hi th):PE X (.Subscript e (.Slice lo hi none p2) pos) (tSl r te tl th):=by
 intro aK s σ H Q I h;calc Subscript_ (eP (he aK s σ H _ I h) λv s1 b=>?_);let⟨x,H1,g,r1,i⟩:=b;calc wpAny_Slice (eP (hl aK s1 σ H1 _ g i) λc s2 ⟨l,H2,j,pl,k⟩=>eP (hu aK s2 σ H2 _ j k) λd a z0=>?_);let⟨u,f,m,n,o⟩:=z0;rw[evalPart_none];calc aV ?_;let p:Inv X aK σ f {a with heap:=a.heap.push {cls:=.type "slice",data:=.fields (List.toArray [c,d,.none])}}:=m.kept (t':=a.toks) λb z q=>aO _ q
 let⟨T,id,t,ht,y⟩:=hr aK {a with heap:=a.heap.push {cls:=.type "slice",data:=.fields (List.toArray [c,d,.none])}} σ f x v c d l u a.heap.objs.size Q p r1 (Heap.IsSliceOf.new ..) pl n o;show wpAny (model X.prog X.w) X.A (subscriptTail e (.Slice lo hi none p2) v<|.ref a.heap.objs.size) (EP X aK σ Q) X.xe {a with heap:=a.heap.push {cls:=.type "slice",data:=.fields (List.toArray [c,d,.none])}};exact tail_any (ops:=[.ref a.heap.objs.size,v]) ht t y (by with_unfolding_all rfl)
noncomputable def qI(xs:List V)(lo hi:Option Int):List V:=(xs.drop<|HT.sIx xs.length 0 lo).take (HT.sIx xs.length xs.length hi-HT.sIx xs.length 0 lo)
theorem vN(xs:List V)(lo hi:Option Int):(qI xs lo hi).length<=xs.length:=by
 unfold qI;rw[bF,eG];lia
def rSlT(K:W.Frag):V->Option Int->Option Int->Hp->VK->Prop:=λx lo hi H Q=>mJ x λa=>∃xs,dH K H a xs/\
 ¬(HT.sIx xs.length 0 lo=0/\HT.sIx xs.length xs.length hi=xs.length)/\∀p,H p=none->Q (.ref p) (upd H p<|.tup<|qI xs lo hi)
theorem FL:SlR X (rSlT X.K):=by
 intro aK s σ H x v f g lo hi sl Q I c hs pl d h;replace h:=yS h;let⟨a,rfl,xs,hx,e,q⟩:=h;cases c;let⟨its,r,ht,hz⟩:=I.tuple hx;let eR:its.toArray.size=xs.length:=by rw[aU];exact r.length.symm
 calc#["tuple",_,eC.lookup,ht.typeIs,?_];calc HT.getItem_tuple_cut ht hs pl d (by rw[eR];calc e) ?_ (by rw[eR];calc hz);rw[eR];calc#[.ref s.heap.objs.size,_,I.laid (t':=s.toks) (o:=.tup<|qI xs lo hi) (λb i q=>aO _ q) (aG _) ?_,rfl,q _<|I.hok.fresh<|aG _];exact#[bU (vN xs lo hi) hz,_,(r.drop<|HT.sIx xs.length 0 lo).take (HT.sIx xs.length xs.length hi-HT.sIx xs.length 0 lo),IsTup.new _ _]
def rCatT(K:W.Frag):R2:=λx y H Q=>mJ x λa=>mJ y λb=>∃xs,dH K H a xs/\∃ys,dH K H b ys/\xs≠[]/\xs.length+ys.length<=sizeLine/\
 (ys=[]->Q (.ref a) H)/\(ys≠[]->∀p,H p=none->Q (.ref p) (upd H p<|.tup<|xs++ys))
theorem dD.nil_iff(r:dD xs us):us=[]↔xs=[]:=by
 cases r with
 |nil=>simp
 |cons _ _=>simp
theorem ip:pR X (binaryOp .Add) (rCatT X.K):=by
 intro aK s σ H x y v u Q I e f h;replace h:=yS h;let⟨a,rfl,h⟩:=h;replace h:=yS h;let⟨b,rfl,xs,ha,ys,hb,hx,hz,g,i⟩:=h;cases e;cases f;let⟨its,r1,j,_⟩:=I.tuple ha;let⟨d,c,p2,_⟩:=I.tuple hb;calc HT.cat_tup j p2 (λz=>hx<|r1.nil_iff.mp z) (λz=>#[.ref a,H,I,rfl,g<|c.nil_iff.mp z]) (λz=>?_) (by rw[←r1.length,←c.length];calc hz);calc#[.ref s.heap.objs.size,_,I.laid (t':=s.toks) (o:=.tup<|xs++ys) (λb k q=>aO _ q) (aG _) ?_,rfl,i (λw=>z<|c.nil_iff.mpr w) _<|I.hok.fresh<|aG _];exact#[by rw[aH];exact hz,_,r1.append c,IsTup.new _ _]
end
noncomputable def av(n:Nat)(i:Int):Option Nat:=if 0<=i then(if i<n then some i.toNat else none)else if -(n:Int)<=i then some (i+n).toNat else none
noncomputable def pU{α:Type}(xs:List α)(i:Int):Option α:=(av xs.length i).bind λj=>xs[j]?
theorem LM{i:Int}(h:av n i=some j):seqIndex? i n=some j/\j<n/\ -(n:Int)<=i/\i<n:=by
 unfold av at h;by_cases h0:0<=i
 ·rw[aL h0]at h;by_cases h1:i<n
  ·rw[aL h1]at h;let e:i.toNat=j:=cU h;exact#[by rw[seqIndex_of h0 h1,e],(),(),h1]
  ·rw[aI h1]at h;cases h
 ·rw[aI h0]at h;by_cases h1: -(n:Int)<=i
  ·rw[aL h1]at h;let e:(i+n).toNat=j:=cU h;exact#[by rw[seqIndex_neg () h1,e],(),h1,()]
  ·rw[aI h1]at h;cases h
theorem WE{xs:List α}{i:Int}{v:α}(h:pU xs i=some v):∃j,seqIndex? i xs.length=some j/\xs[j]?=some v/\j<xs.length/\ -(xs.length:Int)<=i/\i<xs.length:=by
 unfold pU at h;cases e:av xs.length i with
 |none=>rw[e]at h;cases h
 |some j=>
  rw[e]at h;let⟨h1,h2,a,b⟩:=LM e;exact#[j,h1,h,h2,a,b]
theorem zN{xs:List α}{v:α}(h:xs[j]?=some v):pU xs (j:Int)=some v:=by
 let a:j<xs.length:=(aC.mp h).1;let e:av xs.length (j:Int)=some j:=by
  unfold av;rw[aL (),aL ()];simp
 unfold pU;rw[e];exact h
def MQ(b:Expr):Prop:=∀o i,subscripted b false o i=operate [o,i] (getItem o i)
def xx(X:Cx)(r:R2):Prop:=
 ∀(value slice:Expr) (aK:List (Addr×Obj)) (s:Shared) (σ:St) (H:Hp) (x y:V) (v u:Value) (Q:VK),Inv X aK σ H s->RelV x v->RelV y u->r x y H Q->
  subscripted slice false v u=operate [v,u] (getItem v u)->wpAny (model X.prog X.w) X.A (subscriptTail value slice v u) (EP X aK σ Q) X.xe s
def MtR(X:Cx)(id:String)(r:V->List V->Hp->VK->Prop):Prop:=
 ∀(aK:List (Addr×Obj)) (s:Shared) (σ:St) (H:Hp) (x:V) (xs:List V) (v:Value) (us:List Value) (Q:VK),Inv X aK σ H s->RelV x v->dD xs us->r x xs H Q->
  wpAny (model X.prog X.w) X.A (call (.builtin id) (v::us)) (EP X aK σ Q) X.xe s
section
variable {a b:Expr} {tb:TE} {pos:Pos}
theorem pe_ix{r:R2}(hr:xx X r)(ha:PE X a ta)(hb:PE X b tb)(hs:MQ b):PE X (.Subscript a b pos) (tOp r ta tb):=by
 intro aK s σ H Q I h;exact Subscript_ (wz ha hb I h λv u s2 x y H2 c d e q=>hr a b aK s2 σ H2 x y v u Q c d e q<|hs _ _)
def rIxL(K:W.Frag):R2:=λx y H Q=>mJ x λp=>AE y λi=>∃xs,cX K H p xs/\∃v,pU xs i=some v/\Q v H
def uh(K:W.Frag):R2:=λx y H Q=>mJ x λp=>AE y λi=>∃xs,dH K H p xs/\∃v,pU xs i=some v/\Q v H
def rIxS:R2:=λx y H Q=>asS x λz=>AE y λi=>z.length<=sizeLine/\∃c,pU z.cps.toList i=some c/\Q (.str #[(List.toArray [c])]) H
theorem zQ:xx X (rIxL X.K):=by
 intro value slice aK s σ H x y v u Q I d e h hs;replace h:=yS h;let⟨p,rfl,h⟩:=h;replace h:=jS h;let⟨i,rfl,xs,hq,z,he,q⟩:=h;cases d;let⟨t,rfl⟩:=e;let⟨its,r,pl,hz⟩:=I.list hq;let⟨j,h1,h2,k,f,g⟩:=WE he;let⟨w,c,a⟩:=r.get h2;let hl:=r.length;let hn:=ZF;let fin:EP X aK σ Q w s:=#[z,H,I,a,q]
 by_cases h0:0<=i
 ·let b:i.toNat=j:=by
   rw[seqIndex_of h0 g]at h1;exact cU h1
  exact item_listR pl.isList h0 () (by rw[b];simpa using c) fin hs
 ·let b:(i+(its.toArray.size:Int)).toNat=j:=by
   rw[seqIndex_neg () f]at h1;rw[aU,←hl];exact cU h1
  exact subscriptTail_builtinR (x:=w) pl.isList.typeIs slot_list_getitem.lookup
   (wpAny_getItem_list_neg (Q:=λr s'=>r=w/\EP X aK σ Q r s') pl.isList () (by rw[aU]<;>lia) () (by rw[b];simpa using c) #[rfl,fin]) hs
theorem xP:xx X (uh X.K):=by
 intro value slice aK s σ H x y v u Q I b c h hs;replace h:=yS h;let⟨p,rfl,h⟩:=h;replace h:=jS h;let⟨i,rfl,xs,hq,z,he,q⟩:=h;cases b;let⟨t,rfl⟩:=c;let⟨its,r,pl,hz⟩:=I.tuple hq;let⟨j,h1,h2,e,f,g⟩:=WE he;let⟨w,d,a⟩:=r.get h2;let hl:=r.length;let hn:=ZF;let fin:EP X aK σ Q w s:=#[z,H,I,a,q]
 exact subscriptTail_builtinR (x:=w) pl.typeIs slot_tuple_getitem.lookup
  (getItem_tuple (j:=j) (Q:=λr s'=>r=w/\EP X aK σ Q r s') pl () () (by rw[aU,←hl];calc h1) (by simpa using d) #[rfl,fin]) hs
theorem au:xx X rIxS:=by
 intro value slice aK s σ H x y v u Q I a b h hs;replace h:=xh h;let⟨z,rfl,h⟩:=h;replace h:=jS h;let⟨i,rfl,hz,c,he,q⟩:=h;let⟨t,rfl⟩:=a;let⟨t',rfl⟩:=b;let⟨j,h1,h2,k,d,e⟩:=WE he;let hl:z.cps.toList.length=z.length:=by simp[Str.length]
 rw[hl]at h1 d e;let hn:=ZF;exact tail_any (typeIs_str s z t) slot_str_getitem.lookup (getItem_str (c:=c) (by
  let f:decide (i< -(2^63:Int))=false:=cJ ();let g:decide (i≥2^63)=false:=cJ ();rw[f,g,AJ]) (by rw[h1];simpa using h2) #[.str #[(List.toArray [c])],H,I.tok _,#[_,rfl],q]) hs
theorem HB(its:List Value)(n j:Nat)(u:Value):Obj.mapSeq (·.setIfInBounds j u) {cls:=.type "list",data:=.seq its.toArray n}={cls:=.type "list",data:=.seq (its.set j u).toArray n}:=by
 simp[Obj.mapSeq]
theorem Inv.lst{aK:List (Addr×Obj)}{σ:St}{H:Hp}{s:Shared}{p:Addr}{xs:List V}(I:Inv X aK σ H s)(h:H p=some (.lst xs)):
 ∃(its:List Value)(n:Nat),dD xs its/\s.heap.get? p=some {cls:=.type "list",data:=.seq its.toArray n}/\xs.length<=sizeLine:=by
 let⟨z,its,n,r,e⟩:=I.hok p _ h;exact#[its,n,r,e,z]
theorem Inv.lstUpd{p:Addr}{ys:List V}{n':Nat}{f:Obj->Obj}(I:Inv X aK σ H s)(h:H p=some (.lst xs))
 (ho:s.heap.get? p=some {cls:=.type "list",data:=.seq its.toArray n}) (hf:f {cls:=.type "list",data:=.seq its.toArray n}={cls:=.type "list",data:=.seq its'.toArray n'}) (r:dD ys its') (hz:ys.length<=sizeLine) (t:Nat):
 Inv X aK σ (upd H p<|.lst ys) {s with heap:=s.heap.update p f,toks:=t}:=by
 let e:(s.heap.update p f).get? p=some {cls:=.type "list",data:=.seq its'.toArray n'}:=by
  rw[oT f ho (by rw[hf]<;>rfl),hf]
 calc I.write (x:=p) (e:=p) (by rw[h];trivial) (.inl rfl) (λb u hb q=>(eT _ _<|cE hb).trans q) #[_,e] ?_;exact#[hz,its',n',r,e]
def KH:V->V->V->Hp->(Hp->Prop)->Prop:=λo i v H Q=>mJ o λp=>AE i λk=>∃xs,H p=some (.lst xs)/\∃j,av xs.length k=some j/\Q (upd H p<|.lst<|xs.set j v)
theorem wW:xq X KH:=by
 intro aK s σ H o i v l m u Q I e f rv h;replace h:=yS h;let⟨p,rfl,h⟩:=h;replace h:=jS h;let⟨k,rfl,xs,hp,j,g,q⟩:=h;cases e;let⟨t,rfl⟩:=f;let⟨its,n,r,a,hz⟩:=I.lst hp;let⟨h1,h2,b,c⟩:=LM g;let hl:=r.length;let hn:=ZF;let d:Inv X aK σ (upd H p<|.lst<|xs.set j v) {s with heap:=s.heap.update p (Obj.mapSeq (·.setIfInBounds j u))}:=
  I.lstUpd hp a (HB its n j u) (r.set rv j) (by rw[lW];calc hz) s.toks
 by_cases h0:0<=k
 ·let hk:k.toNat=j:=by
   rw[seqIndex_of h0 c]at h1;exact cU h1
  exact W.ki_setAt a h0 () (by rw[aU,←hl];calc c) (by rw[hk];calc#[_,d,q])
 ·let hk:(k+(its.toArray.size:Int)).toNat=j:=by
   rw[seqIndex_neg () b]at h1;rw[aU,←hl];exact cU h1
  exact W.ki_setBack a () (by rw[aU,←hl];calc b) () (by rw[hk];calc#[_,d,q])
theorem UP(lo hi:Option Int)(n:Nat):(sliceBounds lo hi none n).1=((HT.sIx n 0 lo:Nat):Int)/\(sliceBounds lo hi none n).2.1=((HT.sIx n n hi:Nat):Int)/\(sliceBounds lo hi none n).2.2=1:=by
 refine#[?_,?_,rfl]
 ·cases lo with
  |none=>simp[sliceBounds,HT.sIx]
  |some i=>
   simp only[sliceBounds,HT.sIx,Option.getD_none,show(1:Int)>0 by decide,if_true];by_cases h:i<0
   ·simp only[h,if_true]<;>lia
   ·simp only[h,dJ]<;>lia
 ·cases hi with
  |none=>simp[sliceBounds,HT.sIx]
  |some i=>
   simp only[sliceBounds,HT.sIx,Option.getD_none,show(1:Int)>0 by decide,if_true];by_cases h:i<0
   ·simp only[h,if_true]<;>lia
   ·simp only[h,dJ]<;>lia
theorem JP(its:List Value)(lo hi:Option Int):slicePick its.toArray lo hi none=((its.drop<|HT.sIx its.length 0 lo).take (HT.sIx its.length its.length hi-HT.sIx its.length 0 lo)).toArray:=by
 let⟨h1,h2,a⟩:=UP lo hi its.toArray.size;unfold slicePick;rw[h1,h2,a];simp only[sliceRange_one,pick_run,aU]<;>rfl
def rSlL(K:W.Frag):V->Option Int->Option Int->Hp->VK->Prop:=λx lo hi H Q=>mJ x λa=>∃xs,cX K H a xs/\∀p,H p=none->Q (.ref p) (upd H p<|.lst<|qI xs lo hi)
theorem UQ:SlR X (rSlL X.K):=by
 intro aK s σ H x v e f lo hi sl Q I c hs pl d h;replace h:=yS h;let⟨a,rfl,xs,hx,q⟩:=h;cases c;let⟨its,r,ht,hz⟩:=I.list hx;let eR:=r.length;calc#["list",_,slot_list_getitem.lookup,ht.isList.typeIs,?_];calc wpAny_getItem_list_slice ht.isList hs pl d .none (by simp) ?_ (by rw[aU]<;>lia);rw[JP,←eR];calc#[.ref s.heap.objs.size,_,I.laid (t':=s.toks) (o:=.lst<|qI xs lo hi) (λb g q=>aO _ q) (aG _) ?_,rfl,q _<|I.hok.fresh<|aG _];exact#[bU (vN xs lo hi) hz,_,0,(r.drop<|HT.sIx xs.length 0 lo).take (HT.sIx xs.length xs.length hi-HT.sIx xs.length 0 lo),bO _ rfl]
theorem uL:jL X (.type "list") (λxs H Q=>pW xs λx=>mJ x λp=>∃ys,(cX X.K H p ys\/dH X.K H p ys)/\∀l,H l=none->Q (.ref l) (upd H l<|.lst ys)):=by
 intro aK s σ H xs us Q I r h;replace h:=vQ h;let⟨x,rfl,h⟩:=h;replace h:=yS h;let⟨p,rfl,ys,hq,q⟩:=h;let⟨u,rfl,f⟩:=jN r;cases f;let fin:∀(its:List Value),dD ys its->ys.length<=sizeLine->∀(h':Heap)(a:Nat),(∀b o',s.heap.get? b=some o'->h'.get? b=some o')->
  h'.get? s.heap.objs.size=some {cls:=.type "list",dict:=none,data:=.seq its.toArray a,slots:= (List.toArray [])}->EP X aK σ Q (.ref s.heap.objs.size) {s with heap:=h'}:=λits c hz h' a kp e=>
  #[.ref s.heap.objs.size,_,I.laid (t':=s.toks) kp (aG _) (show fF X.prog X.w _ h' _ (.lst ys)from#[hz,its,a,c,e]),rfl,q _<|I.hok.fresh<|aG _]
 rcases hq with hq |hq
 ·let⟨its,c,pl,hz⟩:=I.list hq;let eR:=c.length;let⟨o,d,hc,n,hd⟩:=pl.isList;exact call_list_seq p (.inl rfl) d hc hd (λh' a kp e=>fin its c hz h' a kp e) (by simp only[aU]<;>lia)
 ·let⟨its,c,pl,hz⟩:=I.tuple hq;let eR:=c.length;let⟨o,d,hc,n,hd⟩:=pl;exact call_list_seq p (.inr rfl) d hc hd (λh' a kp e=>fin its c hz h' a kp e) (by simp only[aU]<;>lia)
theorem qS:jL X (.type "tuple") (λxs H Q=>∃p ys,xs=[.ref p]/\((cX X.K H p ys/\∀l,H l=none->Q (.ref l) (upd H l<|.tup ys))\/(dH X.K H p ys/\Q (.ref p) H))):=by
 intro aK s σ H xs us Q I r h;let⟨p,ys,rfl,h⟩:=h;let⟨u,rfl,d⟩:=jN r;cases d;rcases h with⟨hq,q⟩ |⟨hq,q⟩
 ·let⟨its,a,pl,hz⟩:=I.list hq;let eR:=a.length;calc call_tuple_list pl.isList (λh' kp=>?_) (by simp only[aU]<;>lia);let c:Inv X aK σ H {s with heap:=h'}:=I.kept (t':=s.toks) kp;let f:Inv X aK σ (upd H h'.objs.size<|.tup ys) {s with heap:=h'.push {cls:=.type "tuple",data:=.seq its.toArray}}:=
   c.laid (t':=s.toks) (λb o e=>aO _ e) (aG _) (show fF X.prog X.w _ _ _ (.tup ys)from#[hz,its,a,IsTup.new _ _])
  exact#[.ref h'.objs.size,_,f,rfl,q _<|c.hok.fresh<|aG _]
 ·let⟨its,a,pl,hz⟩:=I.tuple hq;exact call_tuple_same pl #[.ref p,H,I,rfl,q]
def tyV(K:W.Frag)(T:String)(x:V)(H:Hp):Prop:=match x with
 | .str _=>T="str"
 | .int _=>T="int"
 | .ref p=>(T="list"/\∃xs,cX K H p xs)\/(T="tuple"/\∃o,K.lookup p=some o/\o.cls=.type "tuple"/\o.dict=none)\/
  (T="dict"/\((∃kvs,H p=some (.dK kvs))\/∃kvs,H p=some (.dT kvs)))\/(T="set"/\∃S n,H p=some (.set S n))
 |_=>False
theorem RD{x:V}{v:Value}(I:Inv X aK σ H s)(r:RelV x v)(ty:tyV X.K T x H):
 s.TypeIs v T/\∀a,v=.ref a->∃ob,s.heap.get? a=some ob/\ob.dict=none:=by
 cases x with
 |str z=>
  let⟨t,rfl⟩:=r;cases (show T="str" from ty);exact#[typeIs_str s z t,λ_ e=>nomatch e]
 |int i=>
  let⟨t,rfl⟩:=r;cases (show T="int" from ty);exact#[typeIs_int s i t,λ_ e=>nomatch e]
 |ref p=>
  cases r;rcases ty with⟨rfl,xs,hq⟩ |⟨rfl,o,hk,hc,hd⟩ |⟨rfl,hk⟩ |⟨rfl,S,n,hk⟩
  ·let⟨its,_,pl,_⟩:=I.list hq;calc#[pl.isList.typeIs,λa e=>?_];cases e;let⟨o,n,e,c,hd,_⟩:=pl;exact#[o,e,hd]
  ·calc#[#[o,I.kIn p o hk,hc],λa e=>?_];cases e;exact#[o,I.kIn _ o hk,hd]
  ·let z:∃o,s.heap.get? p=some o/\o.ExactDict:=by
    rcases hk with⟨kvs,hk⟩ |⟨kvs,hk⟩
    ·let⟨_,_,_,_,o,_,_,e,ex,_⟩:=I.hok p _ hk;exact#[o,e,ex]
    ·let⟨_,_,_,_,o,_,_,e,ex,_⟩:=I.hok p _ hk;exact#[o,e,ex]
   let⟨o,e,ex⟩:=z;calc#[#[o,e,ex.1],λa b=>?_];cases b;exact#[o,e,ex.2.1]
  ·let⟨o,_,_,_,e,ex,_⟩:=I.hok p _ hk;calc#[#[o,e,ex.1],λa b=>?_];cases b;exact#[o,e,ex.2.1]
 |_=>exact False.elim ty
def tBM0(K:W.Frag)(T:String)(r:V->List V->Hp->VK->Prop)(to:TE):TE:=λσ H Q=>to σ H λx H1=>tyV K T x H1/\r x [] H1 Q
def tBM(K:W.Frag)(T:String)(r:V->List V->Hp->VK->Prop)(to:TE)(t:TA):TE:=λσ H Q=>to σ H λx H1=>tyV K T x H1/\t σ H1 λxs H2=>r x xs H2 Q
variable {to:TE} {t:TA} {name:Str} {lB:Pos} {id:String} {r:V->List V->Hp->VK->Prop}
theorem uq(pa:PlainAttrs T)(slot:Slot T name id)(hty:typeOf (.builtin id)=pure (.type "method_descriptor"))(hm:MtR X id r)(ho:PE X o to)
 (hbase:autoParam (attributeBase o name X.env (eval o X.env)=eval o X.env) a1._auto_1) (hline:autoParam ((mF.endLine==lB.line)=true) a1._auto_1):PE X (.Call (.Attribute o name mF) [] [] lB) (tBM0 X.K T r to):=by
 intro aK s σ H Q I h;calc wpAny_Call_method0_late hbase hline (eP (ho aK s σ H _ I h) λv s1 z=>?_);let⟨x,H1,a,r1,ty,b⟩:=z;let⟨h1,h2⟩:=RD a r1 ty;exact#[T,id,pa,slot,hty,h1,h2,lA rfl<|PySem.evalArgs_none<|hm aK s1 σ H1 x [] v [] Q a r1 .nil b]
theorem uN(pa:PlainAttrs T)(slot:Slot T name id)(hty:typeOf (.builtin id)=pure (.type "method_descriptor"))(hm:MtR X id r)(ho:PE X o to)(ha:PA X (e::es) t)
 (hbase:autoParam (attributeBase o name X.env (eval o X.env)=eval o X.env) a1._auto_1)
 (hfew:autoParam (((backTo lB<|starEach (e::es) X.env).all (λx=>!x.1)&&(backToKw lB<|keywordEach [] X.env).all (λx=>x.1.isSome)
  &&decide ((e::es).length+([]:List Keyword).length+(if([]:List Keyword).isEmpty then 0 else 1)<30))=true) a1._auto_1)
 (hline:autoParam ((mF.endLine==lB.line)=true) a1._auto_1) (hs:autoParam (starEach (e::es) X.env=(false,eval e X.env)::starEach es X.env) a1._auto_1) (hplain:autoParam ((backTo lB<|starEach es X.env).any (·.1)=false) a1._auto_1):
 PE X (.Call (.Attribute o name mF) (e::es) [] lB) (tBM X.K T r to t):=by
 intro aK s σ H Q I h;calc wpAny_Call_method_late hbase hfew hline rfl (eP (ho aK s σ H _ I h) λv s1 z=>?_);let⟨x,H1,a,r1,ty,c⟩:=z;let⟨h1,h2⟩:=RD a r1 ty;calc#[T,id,pa,slot,hty,h1,h2,?_];let b:=ha lB aK s1 σ H1 _ a c;rw[hs]at b⊢;calc lA (by show(false ||(backTo lB<|starEach es X.env).any (·.1))=false;rw[hplain]<;>rfl)<|pL ?_;exact eP b λus s2 ⟨vs,H2,d,f,g⟩=>hm aK s2 σ H2 x vs v us Q d r1 f g
end
def MtM(X:Cx)(id:String)(r:V->List V->Hp->VK->Prop):Prop:=
 ∀(aK:List (Addr×Obj)) (s:Shared) (σ:St) (H:Hp) (x:V) (xs:List V) (v:Value) (us:List Value) (Q:VK),Inv X aK σ H s->RelV x v->dD xs us->r x xs H Q->
  wpAny (model X.prog X.w) X.A (call (.builtin id) (v::us)) (EP X aK σ Q) X.xe s
theorem dD.one{x:V}(h:dD [x] us):∃u,us=[u]/\RelV x u:=jN h
theorem dD.two{x:V}(h:dD [x,y] us):∃u v,us=[u,v]/\RelV x u/\RelV y v:=vals2 h
theorem dD.rep{xs:List V}{us:List Value}(h:dD xs us):∀k:Nat,dD (List.replicate k xs).flatten (List.replicate k us).flatten
 |0=>.nil
 |k+1=>by
  rw[gA,gA,mT,mT];exact dD.append h<|dD.rep h k
theorem QR(its:List Value):∀(k:Nat)(acc:List Value),
 List.foldl (λx1 x2=>x1++x2) acc.toArray (List.replicate k its.toArray)=(acc++(List.replicate k its).flatten).toArray
 |0,acc=>by simp
 |k+1,acc=>by
  let e:acc.toArray++its.toArray=(acc++its).toArray:=by simp
  let a:(acc++its)++(List.replicate k its).flatten=acc++(List.replicate (k+1) its).flatten:=by
   rw[gA,mT,cM]
  rw[←a,←QR its k (acc++its),←e,gA,List.foldl_cons]
section
variable {ys zs:List V}
theorem Inv.lset{f:Array Value->Array Value}(I:Inv X aK σ H s)(hH:H l=some (.lst xs))
 (e:s.heap.get? l=some {cls:=.type "list",data:=.seq its.toArray n}) (hf:f its.toArray=its'.toArray) (hv:dD ys its') (hz:ys.length<=sizeLine):
 Inv X aK σ (upd H l<|.lst ys) {s with heap:=s.heap.update l (Obj.mapSeq f),toks:=t'}:=by
 let q:=PySem.IsL.update e f;rw[hf]at q;calc I.write (x:=l) (e:=l) (by rw[hH];calc trivial) (.inl rfl) (λb u hb a=>(eT s.heap (Obj.mapSeq f)<|cE hb).trans a) #[_,q] ?_;exact#[hz,its',_,hv,q]
theorem Inv.lnew(I:Inv X aK σ H s)(hv:dD ys its)(hz:ys.length<=sizeLine):
 Inv X aK σ (upd H s.heap.objs.size<|.lst ys) {s with heap:=s.heap.push {cls:=.type "list",data:=.seq its.toArray},toks:=t'}:=
 I.laid (λ_ _ q=>aO _ q) (aG _) #[hz,its,0,hv,bO _ rfl]
theorem Inv.fresh(I:Inv X aK σ H s):H s.heap.objs.size=none:=I.hok.fresh<|aG _
theorem Inv.lstM(I:Inv X aK σ H s)(hH:H l=some (.lst xs)):xs.length<=sizeLine/\∃(its:List Value)(n:Nat),dD xs its/\xs.length=its.length/\s.heap.get? l=some {cls:=.type "list",data:=.seq its.toArray n}:=by
 let⟨z,its,n,r,e⟩:=I.hok l _ hH;exact#[z,its,n,r,r.length,e]
theorem XT(h:n<=sizeLine):Builtin.List.listTooLong n=false:=by
 unfold Builtin.List.listTooLong;exact cJ ()
end
def UU:V->List V->Hp->VK->Prop:=λx vs H Q=>mJ x λl=>pW vs λy=>∃xs,H l=some (.lst xs)/\xs.length<sizeLine/\Q .non (upd H l<|.lst<|xs++[y])
theorem xQ:MtM X "list.append" UU:=by
 intro aK s σ H x vs v us Q I b rv h;replace h:=yS h;let⟨l,rfl,h⟩:=h;replace h:=vQ h;let⟨y,rfl,xs,a,hz,q⟩:=h;cases b;let⟨u,rfl,c⟩:=rv.one;let⟨z,its,n,r,hl,e⟩:=I.lstM a;calc de F.slot_list_append #[_,e,rfl] F.entry_list_append (F.args_list_append_2 _ _) (PySem.list_append l its.toArray n u (by rw[aU];lia)) #[e,?_];calc#[.non,_,I.lset (its':=its++[u]) a e (by simp) (r.append<|.cons c .nil) ?_,rfl,q];rw[aH,cA];lia
def KJ:V->List V->Hp->VK->Prop:=λx vs H Q=>mJ x λl=>pW vs λz=>mJ z λb=>∃xs,H l=some (.lst xs)/\∃zs,H b=some (.lst zs)/\xs.length+zs.length<=sizeLine/\Q .non (upd H l<|.lst<|xs++zs)
theorem OC:MtM X "list.extend" KJ:=by
 intro aK s σ H x vs v us Q I g rv h;replace h:=yS h;let⟨l,rfl,h⟩:=h;replace h:=vQ h;let⟨x,rfl,h⟩:=h;replace h:=yS h;let⟨b,rfl,xs,f,zs,i,hz,q⟩:=h;cases g;let⟨u,rfl,j⟩:=rv.one;cases j;let⟨z,its,n,r,hl,e⟩:=I.lstM f;let⟨t,a,k,m,o,p⟩:=I.lstM i;let d:its.toArray.size+a.toArray.size<=sizeLine:=by rw[aU,aU];lia
 let c:¬(!its.toArray.isEmpty&&Builtin.List.listTooLong (its.toArray.size+a.toArray.size))=true:=by
  rw[XT d,pM];exact cG
 refine de F.slot_list_extend #[_,e,rfl] F.entry_list_extend (F.args_list_extend_2 _ _)
  (AutoSeq1.list_extend_list_list_0 l its.toArray n b a.toArray k c (by rw[aU];lia) ()) #[e,p,?_]
 calc#[.non,_,I.lset (its':=its++a) f e (by simp) (r.append m) ?_,rfl,q];rw[aH];lia
def rCat:R2:=λx y H Q=>mJ x λl=>mJ y λb=>∃xs,H l=some (.lst xs)/\∃zs,H b=some (.lst zs)/\xs.length+zs.length<=sizeLine/\∀p,H p=none->Q (.ref p) (upd H p<|.lst<|xs++zs)
theorem GC:pR X (binaryOp .Add) rCat:=by
 intro aK s σ H x y v u Q I c d h;replace h:=yS h;let⟨l,rfl,h⟩:=h;replace h:=yS h;let⟨b,rfl,xs,f,zs,g,hz,q⟩:=h;cases c;cases d;let⟨z,its,n,r,hl,e⟩:=I.lstM f;let⟨o,a,p,i,j,k⟩:=I.lstM g;calc PySem.P.add_list e k ?_ (by rw[aU,aU];lia);let m:its.toArray++a.toArray=(its++a).toArray:=by simp
 rw[m];exact#[.ref _,_,I.lnew (t':=s.toks) (r.append i) (by rw[aH];lia),rfl,q _ I.fresh]
def gc:R2:=λx y H Q=>mJ x λl=>AE y λk=>∃xs,H l=some (.lst xs)/\ -(2^63)<=k/\k<2^63/\xs.length*k.toNat<=sizeLine/\
 ∀p,H p=none->Q (.ref p) (upd H p<|.lst (List.replicate k.toNat xs).flatten)
theorem jo(xs:List α)(k:Nat):(List.replicate k xs).flatten.length=k*xs.length:=by
 induction k with
 |zero=>simp
 |succ k a=>rw[gA,mT,aH,a,Nat.succ_mul,Nat.add_comm]
theorem GA:pR X (binaryOp .Mult) gc:=by
 intro aK s σ H x y v u Q I g i h;replace h:=yS h;let⟨l,rfl,h⟩:=h;replace h:=jS h;let⟨k,rfl,xs,j,h1,h2,hz,q⟩:=h;cases g;let⟨t,rfl⟩:=i;let⟨z,its,n,r,hl,e⟩:=I.lstM j;let eR:its.toArray.size*k.toNat<=sizeLine:=by rw[aU,←hl];exact hz
 let c:¬its.toArray.size*k.toNat>(2^63-1)/8:=by
  have :(sizeLine:Nat)<=(2^63-1)/8:=by decide
  lia
 let d:¬(!Builtin.List.listFitsIndex k)=true:=by
  rw[fitsIndex_both h1 h2];exact cG
 let b:¬Builtin.List.listTooLong (its.toArray.size*k.toNat)=true:=by
  rw[XT eR];exact cG
 let f:List.foldl (λx1 x2=>x1++x2) (List.toArray []) (List.replicate (if its.toArray.isEmpty=true then 0 else k.toNat) its.toArray)=(List.replicate k.toNat its).flatten.toArray:=by
  let o:∀m:Nat,List.foldl (λx1 x2=>x1++x2) (List.toArray []) (List.replicate m its.toArray)=(List.replicate m its).flatten.toArray:=λm=>by
   have :=QR its m [];rw[dj]at this;exact this
  rw[o];cases its with
  |nil=>simp
  |cons a p=>rw[aI (by simp)]
 refine wpAny_binaryOp_repeat_ref (T:="list") (U:="int") (by decide) #[_,e,rfl] (λs'=>typeIs_int s' k t) noFill_list_mul F.fills_int_mul F.slot_int_rmul repeat_list F.slot_int_index.lookup
  (de F.slot_int_rmul (typeIs_int s k t) F.entry_int_rmul (F.args_int_rmul_2 _ _) (int___rmul___int_list k t l its.toArray n)
   #[e,rfl,#[_,e,rfl],de F.slot_list_mul #[_,e,rfl] F.entry_list_mul (F.args_list_mul_2 _ _) (AutoListH.list___mul___list_int_3 l its.toArray n k t d c b) #[e,?_]])
 rw[f];exact#[.ref _,_,I.lnew (t':=s.toks) (r.rep k.toNat) (by rw[jo,Nat.mul_comm];calc hz),rfl,q _ I.fresh]
section
variable {κ:Type} [DecidableEq κ]
noncomputable def yB(kvs:List (κ×V))(k:κ):Option V:=(kvs.find? λkv=>decide<|kv.1=k).map (·.2)
noncomputable def jC(kvs:List (κ×V))(k:κ)(v:V):List (κ×V):=
 if(kvs.any λkv=>decide<|kv.1=k)=true then kvs.map (λkv=>if kv.1=k then(kv.1,v)else kv)else kvs++[(k,v)]
theorem jU{p:κ×V}{r:List (κ×V)}{k:κ}(e:p.1=k):yB (p::r) k=some p.2:=by simp[yB,eX,e]
theorem jV{p:κ×V}{r:List (κ×V)}{k:κ}(e:¬p.1=k):yB (p::r) k=yB r k:=by simp[yB,eX,e]
theorem AN(k:κ):∀kvs:List (κ×V),(kvs.any λkv=>decide<|kv.1=k)=(yB kvs k).isSome
 |[]=>rfl
 |p::r=>by
  rw[nY];by_cases e:p.1=k
  ·simp only[jU e,dA e,Bool.true_or,Option.isSome_some]
  ·rw[jV e,cJ e,Bool.false_or];exact AN k r
theorem qM(kvs:List (κ×V))(k:κ)(v:V):(jC kvs k v).length<=kvs.length+1:=by
 unfold jC;split
 ·rw[aD];lia
 ·rw[aH,bJ,oP];lia
theorem mZ.isSome_eq{o:Option V}{u:Option Value}(r:mZ o u):o.isSome=u.isSome:=by
 cases o with
 |none=>cases u with
  |none=>rfl
  |some _=>exact(show False from r).elim
 |some _=>cases u with
  |none=>exact(show False from r).elim
  |some _=>rfl
theorem mZ.getD{o:Option V}{u:Option Value}{d:V}{d':Value}(r:mZ o u)(rd:RelV d d'):RelV (o.getD d) (u.getD d'):=by
 cases o with
 |none=>cases u with
  |none=>exact rd
  |some _=>exact(show False from r).elim
 |some _=>cases u with
  |none=>exact(show False from r).elim
  |some _=>exact r
theorem KV.val{kvs:List (κ×V)}{vs:List (κ×Value)}(r:KV kvs vs)(k:κ):mZ (yB kvs k) (valueAt vs k):=by
 unfold KV at r
 induction r with
 |nil=>exact True.intro
 |@cons p q ps qs h t c=>
  let⟨h1,h2⟩:=h;by_cases e:p.1=k
  ·let a:q.1=k:=h1.symm.trans e;let b:valueAt (q::qs) k=some q.2:=by simp[valueAt,eX,a]
   rw[jU e,b];exact h2
  ·let a:¬q.1=k:=λz=>e<|h1.trans z
   let b:valueAt (q::qs) k=valueAt qs k:=by simp[valueAt,eX,a]
   rw[jV e,b];exact c
theorem KV.any{kvs:List (κ×V)}{vs:List (κ×Value)}(r:KV kvs vs)(k:κ):(kvs.any λkv=>decide<|kv.1=k)=vs.any λkv=>decide (kv.1=k):=by
 unfold KV at r
 induction r with
 |nil=>rfl
 |cons h t a=>rw[nY,nY,a,h.1]
theorem KV.repl{kvs:List (κ×V)}{vs:List (κ×Value)}(r:KV kvs vs)(k:κ)(ry:RelV y u):
 KV (kvs.map λkv=>if kv.1=k then(kv.1,y)else kv) (vs.map λkv=>if kv.1=k then(kv.1,u)else kv):=by
 unfold KV at r⊢
 induction r with
 |nil=>exact .nil
 |@cons p q ps qs h t a=>
  rw[cI,cI];calc .cons ?_ a;let⟨h1,h2⟩:=h;by_cases e:p.1=k
  ·rw[aL e,aL<|h1.symm.trans e];exact#[h1,ry]
  ·rw[aI e,aI λz=>e<|h1.trans z];exact#[h1,h2]
theorem KV.put{kvs:List (κ×V)}{vs:List (κ×Value)}(r:KV kvs vs)(k:κ)(ry:RelV y u):KV (jC kvs k y) (stored vs k u):=by
 unfold jC stored;rw[r.any k];by_cases e:(vs.any λa=>decide<|a.1=k)=true
 ·rw[aL e,aL e];exact r.repl k ry
 ·rw[aI e,aI e];exact Paired.snoc r #[rfl,ry]
theorem KV.length{kvs:List (κ×V)}{vs:List (κ×Value)}(r:KV kvs vs):kvs.length=vs.length:=fD r
end
theorem ZT{k:fC}(r:RelV (kV k) u):(zR P w).is k u=true:=by
 cases k with
 |inl i=>let⟨t,e⟩:=(show∃t,u=Value.int i t from r);subst e;exact CW P w i t
 |inr x=>let⟨t,e⟩:=(show∃t,u=Value.str x t from r);subst e;exact CV P w x t
theorem ZI{P:Program}{w:World}:∀{ks:List fC}{us:List Value},dD (ks.map kV) us->ItemsAre (zR P w) ks us
 |[],_,r=>by rw[pA]at r;cases r;exact .nil
 |k::ks,_,r=>by
  rw[cI]at r;cases r with
  |cons h t=>exact .cons (ZT h)<|ZI t
abbrev KT(H:Hp):List (List fC×V)->List (List fC×Addr×Value)->Prop:=Paired λp q=>p.1=q.1/\H q.2.1=some (.tup<|p.1.map kV)/\RelV p.2 q.2.2
theorem KT.val{xs:List (List fC×Addr×Value)}(r:KT H kvs xs)(k:List fC):mZ (yB kvs k) ((atKey xs k).map (·.2)):=by
 induction r with
 |nil=>exact True.intro
 |@cons p q ps qs h t c=>
  let⟨h1,_,h2⟩:=h;by_cases e:p.1=k
  ·let a:q.1=k:=h1.symm.trans e;let b:atKey (q::qs) k=some q.2:=by simp[atKey,eX,a]
   rw[jU e,b];exact h2
  ·let a:¬q.1=k:=λz=>e<|h1.trans z
   let b:atKey (q::qs) k=atKey qs k:=by simp[atKey,eX,a]
   rw[jV e,b];exact c
theorem KT.repl{xs:List (List fC×Addr×Value)}(r:KT H kvs xs)(k:List fC)(ry:RelV y u):
 KT H (kvs.map λkv=>if kv.1=k then(kv.1,y)else kv) (xs.map<|putAt k u):=by
 induction r with
 |nil=>exact .nil
 |@cons p q ps qs h t a=>
  rw[cI,cI];calc .cons ?_ a;let⟨h1,h2,b⟩:=h;unfold putAt;by_cases e:p.1=k
  ·rw[aL e,aL<|h1.symm.trans e];exact#[h1,h2,ry]
  ·rw[aI e,aI λz=>e<|h1.trans z];exact#[h1,h2,b]
theorem KT.put{xs:List (List fC×Addr×Value)}(r:KT H kvs xs)(k:List fC)(hb:H b=some (.tup<|k.map kV))(ry:RelV y u):
 KT H (jC kvs k y) (storedH xs k b u):=by
 let e:(kvs.any λa=>decide<|a.1=k)=(atKey xs k).isSome:=by
  rw[AN,(r.val k).isSome_eq,gY]
 unfold jC storedH;rw[e];by_cases q:(atKey xs k).isSome=true
 ·rw[aL q,aL q];exact r.repl k ry
 ·rw[aI q,aI q];exact Paired.snoc r #[rfl,hb,ry]
theorem KT.keeps{xs:List (List fC×Addr×Value)}(r:KT H kvs xs)(ht:∀b ys,H b=some (.tup ys)->H' b=some (.tup ys)):KT H' kvs xs:=
 Paired.mapP r λ_ _ z=>#[z.1,ht _ _ z.2.1,z.2.2]
theorem nw{u:HO}(ok:mL P w H h)(e:Rd H a u):fF P w H h a u:=e.ok ok
theorem kN{kvs:List (fC×V)}(ok:mL P w H h)(e:Rd H a (.dK kvs)):kvs.length<=sizeLine/\(a==sysModules)=false/\∃vs,KV kvs vs/\h.DictOf (zR P w) a vs:=
 show fF P w H h a (.dK kvs)from nw ok e
theorem ou{kvs:List (fC×V)}(ok:mL P w H h)(e:H a=some (.dK kvs)):kvs.length<=sizeLine/\(a==sysModules)=false/\∃vs,KV kvs vs/\h.DictOf (zR P w) a vs:=kN ok<|.inl e
theorem vE{ks:List fC}(ok:mL P w H h)(e:H a=some (.tup<|ks.map kV)):(tupleKind<|zR P w).is h ks a:=by
 let⟨_,its,r,o,h1,h2,n,b⟩:=(show fF P w H h a (.tup<|ks.map kV)from ok a _ e)
 exact#[o,its.toArray,n,h1,h2,b,by simpa using ZI r]
theorem JE(ok:mL P w H h)(e:Rd H a (.dT kvs)):kvs.length<=sizeLine/\(a==sysModules)=false/\
 ∃xs,KT H kvs xs/\h.DictOfH (tupleKind<|zR P w) a xs:=by
 let⟨z,y,xs,r,o,es,ep,h1,h2,b,c,d⟩:=(show fF P w H h a (.dT kvs)from nw ok e)
 calc#[z,y,xs,r,o,es,ep,h1,h2,b,c,λx hx=>?_,d];let all:∀{l:List (List fC×V)}{m:List (List fC×Addr×Value)},KT H l m->∀x∈m,(tupleKind<|zR P w).is h x.1 x.2.1:=by
  intro l m q
  induction q with
  |nil=>intro x hx;exact nomatch hx
  |@cons p q ps qs hq t f=>
   intro x hx;rcases bG.mp hx with e |hx
   ·subst e;exact vE ok (by rw[←hq.1];calc hq.2.1)
   ·exact f x hx
 exact all r x hx
theorem oq(ok:mL P w H h)(e:H a=some (.dT kvs)):kvs.length<=sizeLine/\(a==sysModules)=false/\
 ∃xs,KT H kvs xs/\h.DictOfH (tupleKind<|zR P w) a xs:=JE ok<|.inl e
def oY(H:Hp)(a:Addr)(y:V)(r:Option V):Prop:=
 (∃kvs k,Rd H a (.dK kvs)/\y=kV k/\r=yB kvs k)\/∃kvs k b,Rd H a (.dT kvs)/\y=.ref b/\H b=some (.tup<|k.map kV)/\r=yB kvs k
def IF(H:Hp)(a:Addr)(y v:V)(H':Hp):Prop:=
 (∃kvs k,H a=some (.dK kvs)/\y=kV k/\kvs.length<sizeLine/\H'=upd H a (.dK<|jC kvs k v))\/
 ∃kvs k b,H a=some (.dT kvs)/\y=.ref b/\H b=some (.tup<|k.map kV)/\kvs.length<sizeLine/\H'=upd H a (.dT<|jC kvs k v)
theorem oY.k{kvs:List (fC×V)}{k:fC}(e:H a=some (.dK kvs)):oY H a (kV k) (yB kvs k):=.inl #[kvs,k,.inl e,rfl,rfl]
theorem oY.t{k:List fC}(e:H a=some (.dT kvs))(eb:H b=some (.tup<|k.map kV)):oY H a (.ref b) (yB kvs k):=.inr #[kvs,k,b,.inl e,rfl,eb,rfl]
theorem IF.k{kvs:List (fC×V)}{k:fC}(e:H a=some (.dK kvs))(hl:kvs.length<sizeLine):IF H a (kV k) v (upd H a<|.dK<|jC kvs k v):=.inl #[kvs,k,e,rfl,hl,rfl]
theorem IF.t{k:List fC}(e:H a=some (.dT kvs))(eb:H b=some (.tup<|k.map kV))(hl:kvs.length<sizeLine):
 IF H a (.ref b) v (upd H a<|.dT<|jC kvs k v):=.inr #[kvs,k,b,e,rfl,eb,hl,rfl]
section
variable {r:Value} {o:Option V}
theorem Inv.big(I:Inv X aK σ H s):sysModules<s.heap.objs.size:=by
 let h:mainGlobals<s.heap.objs.size:=(I.mod.glob.keeps I.bk).lt;exact Nat.lt_trans (by decide) h
theorem OP(hu:A.units+1<cLine)(I:Inv X aK σ H s)(g:oY H a y (some v))(ry:RelV y u)(h:∀w' s',Inv X aK σ H s'->RelV v w'->Q w' s'):
 wpAny (model X.prog X.w) A (getItem (.ref a) u) Q E s:=by
 rcases g with⟨kvs,k,e,d,l⟩ |⟨kvs,k,b,e,d,j,l⟩
 ·subst d;let⟨z,hd,vs,rel,f⟩:=kN I.hok e;let⟨w',i,c⟩:=mZ.some_of (v:=v) (o:=valueAt vs k) (by rw[l];calc rel.val k);exact wpAny_getItem_of (ZT ry) f.mapOf i<|h w' _ (I.tok _) c
 ·subst d;cases (show u=Value.ref b from ry);let⟨z,hd,xs,rel,f⟩:=JE I.hok e;let⟨w',i,c⟩:=mZ.some_of (v:=v) (o:=(atKey xs k).map (·.2)) (by rw[l];calc rel.val k);let⟨p,hp,mE⟩:=aM.mp i;calc wpAny_getItem_heap (eJ hu) (vE I.hok j) f hp ?_;rw[mE];exact h w' _ (I.tok _) c
theorem d_in(hu:A.units+1<cLine)(I:Inv X aK σ H s)(g:oY H a y o)(ry:RelV y u)(h:∀s',Inv X aK σ H s'->Q (.bool o.isSome) s'):
 wpAny (model X.prog X.w) A (compareOp .In u<|.ref a) Q E s:=by
 rcases g with⟨kvs,k,e,c,l⟩ |⟨kvs,k,b,e,c,f,l⟩
 ·subst c;let⟨z,hd,vs,rel,d⟩:=kN I.hok e;calc wpAny_in_of (ZT ry) hd d.mapOf ?_;rw[←(rel.val k).isSome_eq,←l];exact h _<|I.tok _
 ·subst c;cases (show u=Value.ref b from ry);let⟨z,hd,xs,rel,d⟩:=JE I.hok e;calc wpAny_in_heap (eJ hu) (vE I.hok f) hd d ?_;let q:=(rel.val k).isSome_eq;rw[gY]at q;rw[←q,←l];exact h _<|I.tok _
theorem j7(hu:A.units+1<cLine)(I:Inv X aK σ H s)(g:oY H a y o)(ry:RelV y u)(h:∀s',Inv X aK σ H s'->Q (.bool<|!o.isSome) s'):
 wpAny (model X.prog X.w) A (compareOp .NotIn u<|.ref a) Q E s:=by
 rcases g with⟨kvs,k,e,c,l⟩ |⟨kvs,k,b,e,c,f,l⟩
 ·subst c;let⟨z,hd,vs,rel,d⟩:=kN I.hok e;calc wpAny_notIn_of (ZT ry) hd d.mapOf ?_;rw[←(rel.val k).isSome_eq,←l];exact h _<|I.tok _
 ·subst c;cases (show u=Value.ref b from ry);let⟨z,hd,xs,rel,d⟩:=JE I.hok e;calc wpAny_notIn_heap (eJ hu) (vE I.hok f) hd d ?_;let q:=(rel.val k).isSome_eq;rw[gY]at q;rw[←q,←l];exact h _<|I.tok _
theorem vY{ob:HO}(I:Inv X aK σ H s)(mu:Mut (H a))(hs:Heap.SameBut a s.heap h')(he:∃q,h'.get? a=some q)(new:fF X.prog X.w (upd H a ob) h' a ob):
 Inv X aK σ (upd H a ob) {s with heap:=h',toks:=t'}:=
 I.write (x:=a) (e:=a) mu (.inl rfl) (λb q hb z=>(hs.2 b hb).trans z) he new
theorem HR{kvs:List (fC×V)}{vs:List (fC×Value)}(z:kvs.length<=sizeLine)(hd:(a==sysModules)=false)(rel:KV kvs vs)(dd:h'.DictOf (zR P w) a vs):
 fF P w H' h' a (.dK kvs):=#[z,hd,vs,rel,dd]
theorem OO{Q:Unit->Shared->Prop}(hu:A.units+1<cLine)(I:Inv X aK σ H s)(g:IF H a y v H')(ry:RelV y u)(rv:RelV v r)(h:∀s',Inv X aK σ H' s'->Q Unit.unit s'):
 wpAny (model X.prog X.w) A (setItem (.ref a) u r) Q E s:=by
 rcases g with⟨kvs,k,e,f,l,eH⟩ |⟨kvs,k,b,e,f,j,l,eH⟩
 ·subst f eH;let⟨z,hd,vs,rel,i⟩:=ou I.hok e;let hz:vs.length<=sizeLine:=by rw[←rel.length];exact z
  let hl:(jC kvs k v).length<=sizeLine:=by have :=qM kvs k v;lia
  refine wpAny_setItem_pairs (hsz:=hz) (ZT ry) i λh' d hs=>h _ ?_
  let he:∃q,h'.get? a=some q:=let ⟨q,_,_,hq,_⟩:=d;#[q,hq];exact vY I (by rw[e];calc True.intro) hs he<|HR hl hd (rel.put k rv) d
 ·subst f eH;cases (show u=Value.ref b from ry);let⟨z,hd,xs,rel,i⟩:=oq I.hok e;let hz:xs.length<=sizeLine:=by rw[←fD rel];exact z
  let hl:(jC kvs k v).length<=sizeLine:=by have :=qM kvs k v;lia
  refine wpAny_setItem_heap (hsz:=hz) (eJ hu) (vE I.hok j) i λh' d hs=>h _ ?_
  let⟨q,es,ep,hq,h2,n,o,_,p⟩:=d;calc vY I (by rw[e];calc True.intro) hs #[q,hq] #[hl,hd,_,(rel.put k j rv).keeps λc ys m=>?_,q,es,ep,hq,h2,n,o,p];rw[zE<|jI m e λz=>nomatch z];exact m
end
section
variable {kvs:List (fC×V)} {k:fC}
end
def xv(i:Expr):Prop:=∀ov iv,subscripted i false ov iv=operate [ov,iv] (getItem ov iv)
theorem IV{env:Env}{value slice:Expr}{pos:Pos}{id:String}
 (hl:typeLookup (.type T) "__getitem__"=pure (some<|.builtin id)) (hs:xv slice)
 (h:wpAny (model prog w) A (eval value env) (λo s₁=>wpAny (model prog w) A (eval slice env) (λi s₂=>s₂.TypeIs o T/\wpAny (model prog w) A (getItem o i) Q E s₂) E s₁) E s):
 wpAny (model prog w) A (eval (.Subscript value slice pos) env) Q E s:=by
 calc Subscript_ (iL h (λo s₁ h₁=>iL h₁ (λi s₂ h₂=>?_) λ_ _ x=>x) λ_ _ x=>x);let⟨a,h₂⟩:=h₂;unfold subscriptTail;calc aF ?_;rw[getitemInPython_of_ne a.not_modules];calc aF<|wpAny_specialOf a hl ?_;let fin:wpAny (model prog w) A (subscripted slice false o i) (λr s₃=>wpAny (model prog w) A (letTemporaryGo value o r >>= λ_=>pure r) Q E s₃) E s₂:=by
  rw[hs o i];exact wpAny_operating (iL h₂ (λr s₃ h₃=>aF<|wpAny_letTemporaryGo<|aV h₃) λ_ _ x=>x)
 first
  |exact aV<|aF fin
  |exact aF<|aV<|aF fin
  |exact aF fin
theorem DO{o:Option V}(I:Inv X aK σ H s)(g:oY H a y o):s.TypeIs (.ref a) "dict":=by
 rcases g with⟨kvs,k,e,_,_⟩ |⟨kvs,k,b,e,_,_,_⟩
 ·let⟨_,_,vs,_,c⟩:=kN I.hok e;exact c.typeIs
 ·let⟨_,_,xs,_,c⟩:=JE I.hok e;exact c.typeIs
def tDGet(td ty:TE):TE:=λσ H Q=>td σ H λx H1=>ty σ H1 λy H2=>mJ x λa=>∃v,oY H2 a y (some v)/\Q v H2
def NC(ty td:TE):TE:=λσ H Q=>ty σ H λy H1=>td σ H1 λx H2=>mJ x λa=>∃o,oY H2 a y o/\Q (.bl o.isSome) H2
def UI(ty td:TE):TE:=λσ H Q=>ty σ H λy H1=>td σ H1 λx H2=>mJ x λa=>∃o,oY H2 a y o/\Q (.bl<|!o.isSome) H2
def IY(td ty tv:TE):TS:=λD σ H=>tv σ H λv H1=>td σ H1 λx H2=>ty σ H2 λy H3=>mJ x λa=>∃H4,IF H3 a y v H4/\D.nx σ H4
section
variable {i value:Expr} {pos tpos:Pos} {td ty tv:TE}
theorem YN(hu:X.A.units+1<cLine)(ho:PE X o td)(hi:PE X i ty)(hs:xv i):PE X (.Subscript o i pos) (tDGet td ty):=by
 intro aK s σ H Q I h;calc IV qc.lookup hs (eP (ho aK s σ H _ I h) λu s1 ⟨x,H1,e,f,j⟩=>eP (hi aK s1 σ H1 _ e j) λm s2 z=>?_);let⟨y,H2,d,k,b⟩:=z;replace b:=yS b;let⟨a,rfl,v,g,b⟩:=b;obtain rfl:u=Value.ref a:=f;exact#[DO d g,OP hu d g k λn p l c=>#[v,H2,l,c,b]]
theorem XM(hu:X.A.units+1<cLine)(hi:PE X i ty)(ho:PE X o td):PC X .In i o (NC ty td):=by
 intro aK s σ H Q I h;refine eP (hi aK s σ H _ I h) λm s1 ⟨y,H1,c,d,e⟩=>eP (ho aK s1 σ H1 _ c e) λu s2 z=>?_;let⟨x,H2,f,j,b⟩:=z
 replace b:=yS b;let⟨a,rfl,k,g,b⟩:=b;obtain rfl:u=Value.ref a:=j;exact d_in hu f g d λn l=>#[.bl k.isSome,H2,l,rfl,b]
theorem QF(hu:X.A.units+1<cLine)(hi:PE X i ty)(ho:PE X o td):PC X .NotIn i o (UI ty td):=by
 intro aK s σ H Q I h;refine eP (hi aK s σ H _ I h) λm s1 ⟨y,H1,c,d,e⟩=>eP (ho aK s1 σ H1 _ c e) λu s2 z=>?_;let⟨x,H2,f,j,b⟩:=z
 replace b:=yS b;let⟨a,rfl,k,g,b⟩:=b;obtain rfl:u=Value.ref a:=j;exact j7 hu f g d λn l=>#[.bl<|!k.isSome,H2,l,rfl,b]
theorem UX(hu:X.A.units+1<cLine)(ho:PE X o td)(hi:PE X i ty)(hv:PE X value tv)(hs:swapsWith value (some<|.Subscript o i pos') pos.line X.env=pure false):
 PS X (.Assign [.Subscript o i pos'] value pos) (IY td ty tv):=by
 intro aK s σ H D I h;calc wpAny_Assign_Subscript (eP (hv aK s σ H _ I h) λr s1 ⟨v,H1,c,rv,d⟩=>eP (ho aK s1 σ H1 _ c d) λu s2 ⟨x,H2,e,f,j⟩=>eP (hi aK s2 σ H2 _ e j) λp q z=>?_) hs;let⟨y,t,k,l,b⟩:=z;replace b:=yS b;let⟨a,rfl,m,g,b⟩:=b;obtain rfl:u=Value.ref a:=f;exact OO hu k g l rv λw n=>#[σ,m,n,b]
end
theorem DN(h:Heap)(hb:sysModules<h.objs.size):fF P w H (h.push {cls:=.type "dict",data:=.dict (List.toArray [])}) h.objs.size (.dK []):=
 #[bZ _,cR.mpr<|cE<|cH hb,[],.nil,Heap.DictOf.new h]
theorem bn(h:Heap)(hb:sysModules<h.objs.size):fF P w H (h.push {cls:=.type "dict",data:=.dict (List.toArray [])}) h.objs.size (.dT []):=
 #[bZ _,cR.mpr<|cE<|cH hb,[],.nil,_,(List.toArray []),0,bO _ rfl,#[rfl,rfl,rfl],rfl,rfl,List.nodup_nil]
def qo:TE:=λ_ H Q=>∀p,H p=none->Q (.ref p) (upd H p<|.dK [])
def FH:TE:=λ_ H Q=>∀p,H p=none->Q (.ref p) (upd H p<|.dT [])
section
variable {pos:Pos}
theorem TM:PE X (.Dict [] [] pos) qo:=λaK s σ H Q I h=>
 wpAny_Dict_empty #[.ref s.heap.objs.size,_,I.laid (a:=s.heap.objs.size) (o:=.dK []) (t':=s.toks) (λ_ _ q=>aO _ q) (aG _)<|DN s.heap I.big,rfl,h _<|I.hok.fresh<|aG _]
theorem BL:PE X (.Dict [] [] pos) FH:=λaK s σ H Q I h=>
 wpAny_Dict_empty #[.ref s.heap.objs.size,_,I.laid (a:=s.heap.objs.size) (o:=.dT []) (t':=s.toks) (λ_ _ q=>aO _ q) (aG _)<|bn s.heap I.big,rfl,h _<|I.hok.fresh<|aG _]
end
def YZ:List (TE×TE)->St->Hp->(List (V×V)->Hp->Prop)->Prop
 |[],_,H,Q=>Q [] H
 |(tk,tv)::r,σ,H,Q=>tk σ H λx H1=>tv σ H1 λy H2=>YZ r σ H2 λps H3=>Q ((x,y)::ps) H3
abbrev VV:List (V×V)->List (Value×Value)->Prop:=Paired λp q=>RelV p.1 q.1/\RelV p.2 q.2
def PPs(X:Cx)(pos:Pos)(keys:List (Option Expr))(values:List Expr)(trs:List (TE×TE)):Prop:=
 ∀(aK:List (Addr×Obj)) (s:Shared) (σ:St) (H:Hp) (Q:List (V×V)->Hp->Prop),Inv X aK σ H s->YZ trs σ H Q->
  wpAny (model X.prog X.w) X.A (evalPairs<|pairTrees keys values X.env pos) (λvs s'=>∃ps H',Inv X aK σ H' s'/\VV ps vs/\Q ps H') X.xe s
theorem gn{pos:Pos}:PPs X pos [] [] []:=λaK s σ H Q I h=>pairTrees_nil_walk #[[],H,I,.nil,h]
theorem SY{pos:Pos}{k v:Expr}{ks:List (Option Expr)}{vs:List Expr}{tk tv:TE}{trs:List (TE×TE)}(hk:PE X k tk)(hv:PE X v tv)(hr:PPs X pos ks vs trs):
 PPs X pos (some k::ks) (v::vs) ((tk,tv)::trs):=λaK s σ H Q I h=>
 pairTrees_cons_walk (eP (hk aK s σ H _ I h) λu s1 ⟨x,H1,a,b,c⟩=>eP (hv aK s1 σ H1 _ a c) λl s2 ⟨y,H2,d,e,f⟩=>
  eP (hr aK s2 σ H2 _ d f) λws m ⟨ps,g,i,rel,j⟩=>#[(x,y)::ps,g,i,.cons #[b,e] rel,j])
noncomputable def vC(kvs more:List (fC×V)):List (fC×V):=more.foldl (λacc kv=>jC acc kv.1 kv.2) kvs
theorem KV.merge:∀{more:List (fC×V)}{rs:List (fC×Value)}{kvs:List (fC×V)}{vs:List (fC×Value)},KV more rs->KV kvs vs->KV (vC kvs more) (merged vs rs):=by
 intro more rs kvs vs r;unfold KV at r
 induction r generalizing kvs vs with
 |nil=>intro q;exact q
 |@cons p q ps qs h t a=>
  intro b;let e:KV (jC kvs p.1 p.2) (stored vs q.1 q.2):=by
   have :=b.put p.1 h.2;rw[←h.1];exact this
  exact a e
theorem wE:∀(more kvs:List (fC×V)),(vC kvs more).length<=kvs.length+more.length
 |[],kvs=>by show kvs.length<=kvs.length+0;lia
 |p::r,kvs=>by
  let h1:=wE r<|jC kvs p.1 p.2;let h2:=qM kvs p.1 p.2;show(vC (jC kvs p.1 p.2) r).length<=_;rw[bJ];lia
theorem JH{P:Program}{w:World}:∀{kvs:List (fC×V)}{ws:List (Value×Value)},VV (kvs.map λkv=>(kV kv.1,kv.2)) ws->∃rs,Carries (zR P w) ws rs/\KV kvs rs
 |[],_,r=>by rw[pA]at r;cases r;exact#[[],True.intro,.nil]
 |p::kvs,_,r=>by
  rw[cI]at r;cases r with
  |@cons a b as bs h t=>
   let⟨rs,c,q⟩:=JH (P:=P) (w:=w) t;let⟨b1,b2⟩:=b;exact#[(p.1,b2)::rs,#[ZT h.1,rfl,c],.cons #[rfl,h.2] q]
def tDisp(trs:List (TE×TE)):TE:=λσ H Q=>∀p,H p=none->YZ trs σ (upd H p<|.dK []) λps H2=>H2 p=some (.dK [])/\∃kvs:List (fC×V),ps=kvs.map (λkv=>(kV kv.1,kv.2))/\kvs.length<=15/\Q (.ref p) (upd H2 p<|.dK<|vC [] kvs)
theorem ii{pos:Pos}{keys:List (Option Expr)}{values:List Expr}{trs:List (TE×TE)}(h:PPs X pos keys values trs)(nT:keys.all (·.isSome)=true)(hl:keys.length=values.length)(h0:keys≠[])
 (h15:keys.length<=15):PE X (.Dict keys values pos) (tDisp trs):=by
 intro aK s σ H Q I q;let hn:=I.hok.fresh<|aG s.heap.objs.size;let f:=I.laid (a:=s.heap.objs.size) (o:=.dK []) (h':=s.heap.push {cls:=.type "dict",data:=.dict (List.toArray [])}) (t':=s.toks) (λ_ _ q=>aO _ q) (aG _)<|DN s.heap I.big;calc wpAny_Dict_walk (knd:=zR X.prog X.w) nT hl h0 h15 (eP (h aK _ σ _ _ f<|q _ hn) λws s2 y=>?_);let⟨ps,H2,d,rel,e,kvs,ep,m,g⟩:=y;subst ep;let⟨rs,c,i⟩:=JH (P:=X.prog) (w:=X.w) rel;let⟨z,hd,j,k,l⟩:=ou d.hok e;cases k;calc#[rs,c,l,λh' b hs=>#[.ref s.heap.objs.size,_,?_,rfl,g]];let hz:(vC [] kvs).length<=sizeLine:=by
  let h1:=wE kvs [];rw[oP]at h1;rw[cQ];lia
 let he:∃q,h'.get? s.heap.objs.size=some q:=let ⟨q,_,_,hq,_⟩:=b;#[q,hq];exact vY d (by rw[e];calc True.intro) hs he<|HR hz hd (i.merge .nil) b
structure M1(X:Cx)(o:Expr)(m:Str)(mF:Pos)(e:Expr)(lB:Pos):Prop where
 base:attributeBase o m X.env (eval o X.env)=eval o X.env
 few:((backTo lB<|starEach [e] X.env).all (λx=>!x.1)&&(backToKw lB<|keywordEach [] X.env).all (λx=>x.1.isSome)
  &&decide (([e]:List Expr).length+([]:List Keyword).length+(if([]:List Keyword).isEmpty then 0 else 1)<30))=true
 line:(mF.endLine==lB.line)=true
 trees:backTo lB (starEach [e] X.env)=[(false,eval e X.env)]
structure M2(X:Cx)(o:Expr)(m:Str)(mF:Pos)(e f:Expr)(lB:Pos):Prop where
 base:attributeBase o m X.env (eval o X.env)=eval o X.env
 few:((backTo lB<|starEach [e,f] X.env).all (λx=>!x.1)&&(backToKw lB<|keywordEach [] X.env).all (λx=>x.1.isSome)
  &&decide (([e,f]:List Expr).length+([]:List Keyword).length+(if([]:List Keyword).isEmpty then 0 else 1)<30))=true
 line:(mF.endLine==lB.line)=true
 trees:backTo lB (starEach [e,f] X.env)=[(false,eval e X.env),(false,eval f X.env)]
def IsD(H:Hp)(a:Addr):Prop:=(∃kvs,Rd H a<|.dK kvs)\/∃kvs,Rd H a<|.dT kvs
theorem aw(I:Inv X aK σ H s)(d:IsD H a):
 s.TypeIs (.ref a) "dict"/\(∀b,Value.ref a=.ref b->∃ob,s.heap.get? b=some ob/\ob.dict=none)/\(a==sysModules)=false:=by
 rcases d with⟨kvs,e⟩ |⟨kvs,e⟩
 ·let⟨_,hd,vs,_,c⟩:=kN I.hok e;calc#[c.typeIs,λb q=>?_,hd];cases q;let⟨ob,_,_,h1,h2,_⟩:=c;exact#[ob,h1,h2.2.1]
 ·let⟨_,hd,xs,_,c⟩:=JE I.hok e;calc#[c.typeIs,λb q=>?_,hd];cases q;let⟨ob,_,_,h1,h2,_⟩:=c;exact#[ob,h1,h2.2.1]
section
variable {d:V} {r:Value} {o:Option V}
theorem wn(hu:A.units+1<cLine)(I:Inv X aK σ H s)(g:oY H a y o)(ry:RelV y u)(rd:RelV d r)(h:∀w' s',Inv X aK σ H s'->RelV (o.getD d) w'->Q w' s'):
 wpAny (model X.prog X.w) A (call (.builtin "dict.get") [.ref a,u,r]) Q E s:=by
 rcases g with⟨kvs,k,e,f,l⟩ |⟨kvs,k,b,e,f,i,l⟩
 ·subst f;let⟨z,hd,vs,rel,c⟩:=kN I.hok e;calc tX iU c.typeIs rT (F.args_dict_get_3 _ _ _) (meets_dict_get_default (zR X.prog X.w) a (ZT ry) hd r) #[_,c.mapOf,h _ _ (I.tok _) ?_];rw[l];exact(rel.val k).getD rd
 ·subst f;cases (show u=Value.ref b from ry);let⟨z,hd,xs,rel,c⟩:=JE I.hok e;calc tX iU c.typeIs rT (F.args_dict_get_3 _ _ _) (meetsH_dict_get_default (tupleKind<|zR X.prog X.w) a b hd r) #[eJ hu,k,xs,vE I.hok i,c,h _ _ (I.tok _) ?_];rw[l];exact(rel.val k).getD rd
end
def RK(td ty tx:TE):TE:=λσ H Q=>td σ H λx H1=>mJ x λa=>IsD H1 a/\ty σ H1 λy H2=>tx σ H2 λz H3=>∃o,oY H3 a y o/\Q (o.getD z) H3
section
variable {f:Expr} {lB:Pos} {td ty tx:TE}
theorem TR(hu:X.A.units+1<cLine)(ho:PE X o td)(he:PE X e ty)(hf:PE X f tx)(m:M2 X o "get" mF e f lB):PE X (.Call (.Attribute o "get" mF) [e,f] [] lB) (RK td ty tx):=by
 intro aK s σ H Q I h;calc lq m.base m.few m.line rM iU F.type_dict_get (eP (ho aK s σ H _ I h) λu s1 w=>?_);let⟨x,H1,i,j,b⟩:=w;replace b:=yS b;let⟨a,rfl,d,b⟩:=b;obtain rfl:u=Value.ref a:=j;let⟨t1,t2,_⟩:=aw i d;calc#[t1,t2,?_];rw[m.trees];refine lA rfl (pL (fV (eP (he aK s1 σ H1 _ i b) λv s2 ⟨y,H2,k,l,n⟩=>
  fV (eP (hf aK s2 σ H2 _ k n) λw B ⟨z,p,q,rz,C,g,r⟩=>lJ ?_))))
 exact wn hu q g l rz λD E t c=>#[_,p,t,c,r]
end
section
variable {kvs:List (fC×V)}
end
end L2
namespace Att
open PySem PySem.W PySem.Calls PyProof.Rows
theorem YC{P:Params}{h:Heap}:∀(ns:List Int)(vs:List Value),WellAll P h vs (ns.map WData.int)->IntsAre vs ns:=by
 intro ns
 induction ns with
 |nil=>
  intro vs w;rw[pA]at w;cases w;exact .nil
 |cons n ns c=>
  intro vs w;rw[cI]at w;cases w with
  |cons a b=>
   cases a;exact .cons _ _<|c _ b
theorem NH{l:OpenLaw}{n:Nat}(hn:l.most=some n){P:Params}{h:Heap}{args:List WData}{vals:List Value}
 (hpre:l.row.toRowW.claim.pre args=true) (hwl:WellAll P h vals args):
 ∃a vs ns,vals=[Value.ref a]/\args=[WData.list<|ns.map WData.int]/\h.get? a=some {cls:=.type "list",data:=.seq vs.toArray}/\IntsAre vs ns/\ns.length<=n:=by
 let e:WShape.hasAll [] args [.list .int]=true:=(pre_splitW hpre).1;let hc:l.pre.holds [] {args:=args}=true:=(pre_splitW hpre).2;let⟨d,r,rfl,h1,h2⟩:=hasAllW_cons e;obtain rfl:=hasAllW_nil h2;let⟨xs,rfl,f⟩:=hasW_list h1;let⟨ns,rfl⟩:=items_int f;let eR:ns.length<=n:=by
  unfold OpenLaw.pre at hc;let b:(WTm.not<|.lt (.lit<|.int (n:Int))<|.len<|.arg 0).holds [] {args:=[.list<|ns.map .int]}=true:=by
   let b:=(holds_andW hc).1;rw[hn]at b;exact b
  let c:=condW_of b<|w_not<|w_lt w_lit<|w_len_list<|w_arg rfl;rw[aD]at c;refine Nat.le_of_not_lt λq=>?_
  let g:(n:Int)<((ns.length:Nat):Int):=by lia
  first
   |(rw[dA g]at c;calc absurd c (by decide))
   |(simp at c;lia)
 cases hwl with
 |cons i j=>
  cases j;cases i with
  |list k nT=>exact#[_,_,ns,rfl,rfl,k,YC ns _ nT,eR]
theorem NP(l:OpenLaw)(args:List WData):l.row.toRowW.claim.post args (.bool true) args=true:=
 postW_of (r:=l.row.toRowW) (X:=(true==true))
  (show WShape.has [] (.bool true) .bool=true by first |rfl |decide |simp[WShape.has,WShape.arms,WShape.armsAll])
  (show(WTm.eq .res<|.lit<|.bool true).value [] {args:=args,res:=some (.bool true),after:=args}=some (.bool<|true==true)from w_eq_bool (w_res rfl) w_lit) rfl
theorem attach_call{l:OpenLaw}{n:Nat}{q:Program}{loose:List Str}{XP:(Str->Option Value)->Heap->Prop}{YP:World->Heap->Prop}{d:DefRec}
 (hn:l.most=some n) (hdf:d.params.defaults=[])
 (call:∀(w:World)(s₀ s₁:Shared)(mg mb:Str->Option Value)(fa:Addr)(o:Obj)(pm cd doc:Value)(a:Addr)(vs:List Value)(ns:List Int),
  Ground q loose [] XP w s₀ mg mb s₁.heap->YP w s₁.heap->
  s₁.heap.get? fa=some o->o.data=.func (docDef d.name d.params d.body d.scope pm cd doc)->s₁.heap.CodeRec cd d.name->mg d.name=some (.ref fa)->
  s₁.heap.get? a=some {cls:=.type "list",data:=.seq vs.toArray}->IntsAre vs ns->ns.length<=n->s₁.gens= (List.toArray [])->
  codeAny (model l.prog w) callerA (.call (.ref fa) #[[.ref a],[]]) (λr s'=>r=.ok (.ret<|.bool true)/\OldK s₁.heap s'.heap/\s'.os=s₁.os/\AllBare s'.gens) s₁):
 WalkO q loose XP YP l.row.toRowW d [] (λf vs=>PySem.call f vs):=by
 intro w s₀ s₁ mg mb G Y fa o pm cd doc dV kV m hd g j h p args vals as c k s i t;obtain rfl:dV=.none:=Dflts.none j hdf;obtain rfl:kV=.none:=Dflts.noKw j;let⟨a,vs,ns,rfl,rfl,e,b,eR⟩:=NH hn c i;calc enter_call (tW (call w s₀ s₁ mg mb fa o pm cd doc a vs ns G Y m (fd_plain hd) g h e b eR p) λr s' hq=>?_);let⟨rfl,h2,u,v⟩:=hq;exact#[.inl #[.bool true,.bool true,[],rfl,λ_=>rfl,.bool true,NP l _,λ_=>#[List.Pairwise.nil,λ_ hm=>(nomatch hm)]],h2,u,v]
section
variable {prog:Program} {w:World} {A:Around} {E:Value->Shared->Prop} {s:Shared} {K:Frag}
end
end Att
namespace L2
open PySem PySem.Spec PyProof.Rows
variable {a d f it l:Addr} {A:Around} {G:Array GenState->Array GenState->Prop} {CX:p7} {X:Cx} {D:tU} {c e o tg:Expr} {fd:FuncData} {base h h':Heap} {H H':Hp} {aK:List (Addr×Obj)} {fp:List Addr} {outer:List Env} {es:List Expr} {js:List Nat} {N ns ys:List Str} {ts:List Tm} {vs xs:List V} {its its':List Value} {M:Model} {i j n:Nat} {mF p pos':Pos} {P prog:Program} {K:W.Frag} {R:Result->Shared->Prop} {s:Shared} {sp:Sp} {σ:St} {qual:Str} {mg:Str->Option Value} {T:String} {ta te:TE} {tb:TS} {α:Type} {v:V} {u:Value} {E Q:Value->Shared->Prop} {w:World}
local macro_rules | `(()) => `(by lia)
theorem JY:∀{vs:List Value}{ns:List Int},IntsAre vs ns->dD (ns.map V.int) vs
 |_,_,.nil=>.nil
 |_,_,.cons n t h=>.cons #[t,rfl]<|JY h
def xt(H:Hp):Prop:=∀b,H b=none\/∃o xs,H b=some (.frz o<|.lst xs)
theorem ak{mb:Str->Option Value}{k:Nat}{fa:Addr}{x:Str}{s₁:Shared}{vs:List Value}{ns:List Int}
 (KX:K.In s₁.heap) (hns:s₁.heap.Ns mainGlobals mg) (hb:s₁.heap.Ns builtinsNs mb) (hbb:∀x:Str,x≠"__name__"->mb x=bootBuiltins x) (hlim:s₁.heap.NoLimit) (hg:s₁.gens= (List.toArray []))
 (ha:s₁.heap.get? a=some {cls:=.type "list",data:=.seq vs.toArray}) (hi:IntsAre vs ns) (hl:ns.length<=sizeLine) (hr:gE k callerA)
 (F:∀base:Heap,K.In base->base.Ns mainGlobals mg->dC P w K mg base CX k fa fd [x] sp) (hbind:∀(s:Shared)(u:Value),BindsTo s fd #[[u],[]] [(x,u)])
 (hsp:∀H:Hp,xt H->cX K H a (ns.map V.int)->sp [.ref a] H (λv _=>v=.bl true) λ_ _ _=>False)
 (hCX:∀H e s',CX [] H s₁ (λ_ _ _=>False) e s'->False):
 codeAny (model P w) callerA (.call (.ref fa) #[[.ref a],[]]) (λr s'=>r=.ok (.ret<|.bool true)/\OldK s₁.heap s'.heap/\s'.os=s₁.os/\AllBare s'.gens) s₁:=by
 let rv:=JY hi;let lenV:=hi.length;let core:∀H:Hp,xt H->cX K H a (ns.map V.int)->mL P w H s₁.heap->(∀b,H b≠none->b=a)->(H a≠none->K.lookup a=none)->
  codeAny (model P w) callerA (.call (.ref fa) #[[.ref a],[]]) (λr s'=>r=.ok (.ret<|.bool true)/\OldK s₁.heap s'.heap/\s'.os=s₁.os/\AllBare s'.gens) s₁:=by
  intro H j t hok l y;let base_of:∀{b:Addr}{o:Obj},s₁.heap.get? b=some o->H b=none->(VO s₁.heap H).get? b=some o:=λe n=>a8 e n
  let noA:∀{b:Addr}{o:Obj}{es:Array DictEntry}{ep:Nat},s₁.heap.get? b=some o->o.data=.dict es ep->H b=none:=λ{b o es ep} e d=>by
   cases q:H b with
   |none=>rfl
   |some u=>
    let i:b=a:=l b (by rw[q];simp);subst i;rw[ha]at e;cases e;let A:Data.seq vs.toArray _=Data.dict es ep:=d;cases A
  let nsK:∀{b:Addr}{m:Str->Option Value},s₁.heap.Ns b m->(VO s₁.heap H).Ns b m:=λ{b m} ⟨o,es,ep,e,d,r⟩=>#[o,es,ep,base_of e<|noA e d,d,r]
  let c:K.In (VO s₁.heap H):=λb o e=>base_of (KX b o e) (by
   cases q:H b with
   |none=>rfl
   |some u=>
    let i:b=a:=l b (by rw[q];simp);subst i;rw[y (by rw[q];simp)]at e;cases e)
  let B:Mod K mg (VO s₁.heap H):=#[c,nsK hns,#[mb,nsK hb,hbb],let ⟨C,h1,h2⟩:=hlim;#[C,nsK h1,h2]]
  let D:sY P w K mg (VO s₁.heap H) callerA [] s₁ H:=#[rfl,B,λb o e=>i9 e,Nat.le_of_eq<|OI _ _,trivial,λb hb=>absurd (show b∈([]:List Addr)from hb) (by simp),hok,.of_eq hg]
  refine tW ((F _ c<|nsK hns).run callerA [] s₁ H #[[.ref a],[]] [.ref a] [.ref a] _ _ hr D (hbind s₁<|.ref a) (.cons rfl .nil) (hsp H j t)) λr s' h=>?_
  cases r with
  |error e=>exact(hCX H e s' h).elim
  |ok fl=>
   cases fl with
   |next=>exact False.elim h
   |brk=>exact False.elim h
   |cont=>exact False.elim h
   |ret u=>
    let⟨v,H',os,bare,un,f,E,q⟩:=h;let G:v=.bl true:=q;subst G;obtain rfl:u=Value.bool true:=E;calc#[rfl,OldK.of_keep λb o e=>?_,os,bare];cases q:H b with
    |none=>exact un.keep b o e q (by intro z;calc absurd (show b∈([]:List Addr)from z) (by simp)) (by simp)
    |some u=>
     rcases j b with z |⟨I,xs,z⟩
     ·rw[q]at z;cases z
     ·let J:=un.frzs b I _ z;let⟨p,_⟩:=hok b _ z;let⟨L,_⟩:=f b _ J;rw[e]at p;cases p;exact L
 cases hk:K.lookup a with
 |some o=>
  let e:=KX a o hk;rw[ha]at e;cases e;refine core (λ_=>none) (λ_=>.inl rfl) (.inr #[_,vs.toArray,_,hk,rfl,rfl,rfl,by rw[aU,lenV];exact hl,by simpa using rv]) (λb u z=>by let g:(none:Option HO)=some u:=z;cases g) (λb z=>absurd rfl z) λz=>absurd rfl z
 |none=>
  refine core (λb=>if b=a then some (.frz {cls:=.type "list",data:=.seq vs.toArray} (.lst<|ns.map V.int))else none) (λb=>?_) (.inl<|.inr #[{cls:=.type "list",data:=.seq vs.toArray},aL rfl]) (λb u z=>?_) (λb z=>?_) λ_=>hk
  ·by_cases hb:b=a
   ·exact .inr #[_,_,aL hb]
   ·exact .inl<|aI hb
  ·by_cases hb:b=a
   ·let g:=(aL hb).symm.trans z;cases g;subst hb;exact#[ha,by rw[aD];exact hl,vs,_,rv,ha]
   ·let g:=(aI hb).symm.trans z;cases g
  ·by_cases hb:b=a
   ·exact hb
   ·exact absurd (aI hb) z
theorem walk_of{l:W.OpenLaw}{k:Nat}{q:Program}{loose:List Str}{XP:(Str->Option Value)->Heap->Prop}{YP:World->Heap->Prop}{d:DefRec}{K:Params->W.Frag}{CX:World->p7}{sp:World->Sp}{x:Str}
 (hn:l.most=some n) (hn2:n<=sizeLine) (hdf:d.params.defaults=[]) (hr:gE k callerA)
 (hY:∀(w:World)(h:Heap),YP w h->(K w.params).In h)
 (F:∀(w:World)(mg:Str->Option Value)(fa:Addr)(h:Heap),(K w.params).In h->h.Ns mainGlobals mg->mg d.name=some (.ref fa)->
  ∃fd:FuncData,(∀(s:Shared) (u:Value),BindsTo s fd #[[u],[]] [(x,u)])/\
   ∀base:Heap,(K w.params).In base->base.Ns mainGlobals mg->dC l.prog w (K w.params) mg base (CX w) k fa fd [x] (sp w))
 (hsp:∀(w:World)(H:Hp)(a:Addr)(ns:List Int),ns.length<=n->xt H->cX (K w.params) H a (ns.map V.int)->sp w [.ref a] H (λv _=>v=.bl true) λ_ _ _=>False)
 (hCX:∀(w:World)(H:Hp)(s:Shared)(e:Value)(s':Shared),CX w [] H s (λ_ _ _=>False) e s'->False):
 W.WalkO q loose XP YP l.row.toRowW d [] (λf vs=>PySem.call f vs):=by
 refine Att.attach_call hn hdf λw s₀ s₁ mg mb fa o pm z doc a vs ns G Y A hd m j i c eR p=>?_
 let KX:=hY w _ Y;let⟨fd,hb,r⟩:=F w mg fa _ KX G.T.g j;exact ak KX G.T.g G.T.b G.T.builtins G.T.nolimit p i c (bU eR hn2) hr r hb (λH t y=>hsp w H a ns eR t y) λH e s'=>hCX w H s₁ e s'
noncomputable def qN(s:Stmt)(j:Nat):Stmt:=match s with
 | .ClassDef _ _ _ body _ _ _ _ _ _ _=>body.getD j<|.Pass #[0,0,0,0]
 |_=>.Pass #[0,0,0,0]
noncomputable def xI(s:Stmt):Arguments:=match s with
 | .FunctionDef _ a _ _ _ _ _ _ _ _=>a
 |_=>{posonlyargs:=[],args:=[],vararg:=none,kwonlyargs:=[],kw_defaults:=[],kwarg:=none,defaults:=[]}
noncomputable def yV(s:Stmt):List Stmt:=match s with
 | .FunctionDef _ _ b _ _ _ _ _ _ _=>b
 |_=>[]
noncomputable def zF(s:Stmt):Scope:=match s with
 | .FunctionDef _ _ _ _ _ _ sc _ _ _=>sc
 |_=>{kind:=.function,names:=[],isGenerator:=false,isCoroutine:=false}
abbrev fU:p7:=λ_ _ _ _ _ _=>False
abbrev E0:XK:=λ_ _ _=>False
theorem KS:ZN fU X E0:=λ_ _ _ _ _ _ _ h=>h.elim
structure gF(K:W.Frag)(x qual:Str)(st:Stmt)(f:Addr)(fd:FuncData):Prop where
 ex:∃(oc:Value)(od:Option Addr)(kV doc pm:Value)(an:Option Addr)(eZ ct:Value)(osl:Array (Option Value)),
  fd=W.fnOf x qual (xI st) (yV st) (zF st) .none kV doc pm an eZ ct/\K.lookup f=some #[oc,od,.func fd,osl]/\W.codeIn K eZ qual=true
 kp:W.keepIn K (.ref f)=true
theorem gF.ok{x:Str}{st:Stmt}{ps:List Str}{k:Nat}(F:gF K x qual st f fd)(S:bT N ps (zF st))(len:∀vs H Q E,sp vs H Q E->vs.length=ps.length)
 (hbody:∀(eZ:Value)(A:Around)(outer:List Env)(s:Shared)(H:Hp)(vs:List V)(Q:VK)(E:XK),gE k (A.deeper<|envOfC qual (zF st) s.heap.objs.size f eZ)->sp vs H Q E->
  ∃t,EU (JF fU P w K mg base N qual (zF st) f eZ A outer s H E).nox (yV st) t/\t {nx:=λ_ H'=>Q .non H',rt:=Q} (uU N vs) H):dC P w K mg base fU (k+1) f fd ps sp:=by
 let⟨oc,od,kV,doc,pm,an,eZ,ct,osl,rfl,c,a⟩:=F.ex;refine fn_of c a S len λA outer s H vs Q E hr b=>?_
 let⟨t,h,q⟩:=hbody eZ A outer s H vs Q E hr b;exact#[t,h.nox,q]
theorem gF.binds{x:Str}{st:Stmt}{ps:List Str}(F:gF K x qual st f fd)
 (h:∀(kV doc pm:Value)(an:Option Addr)(eZ ct:Value)(us:List Value),us.length=ps.length->bindArgs (W.fnOf x qual (xI st) (yV st) (zF st) .none kV doc pm an eZ ct) #[us,[]]=pure (ps.zip us)):Binds K fd ps []:=by
 let⟨oc,od,kV,doc,pm,an,eZ,ct,osl,rfl,b,a⟩:=F.ex;exact .all<|h kV doc pm an eZ ct
theorem HM{x:Str}{st:Stmt}{oc:Value}{od an:Option Addr}{osl:Array (Option Value)}{kV doc pm eZ ct:Value}(l:K.lookup f=some #[oc,od,.func<|W.fnOf x qual (xI st) (yV st) (zF st) .none kV doc pm an eZ ct,osl])
 (c:W.codeIn K eZ qual=true) (k:W.keepIn K (.ref f)=true):gF K x qual st f (W.fnOf x qual (xI st) (yV st) (zF st) .none kV doc pm an eZ ct):=#[#[oc,od,kV,doc,pm,an,eZ,ct,osl,rfl,l,c],k]
theorem xO{k:Nat}(hr:gE k A):A.units+1<cLine:=fN (Nat.add_le_add_left (by decide:1<=64) _) hr.units
theorem vU(h:n<=1000):n<sizeLine:=fN h (by decide)
theorem pv(i:Nat){x:Str}{pos:Pos}(hN:autoParam (X.N[i]?=some x) a1._auto_1)(hv:Vis X.env.scope x:=by first |exact Or.inl rfl |exact Or.inr (Or.inl rfl) |exact Or.inr<|Or.inr rfl)(hd:autoParam ((x==("__debug__":Str))=false) a2._auto_1)
 (hcd:autoParam ((x==("__classdict__":Str))=false) a2._auto_1):PE X (.Name x pos) (eo i):=TB hN hv hd hcd
theorem iteF{A B:Prop}(h:B):if false=true then A else B:=by
 rw[aI cG];exact h
theorem iteT{A B:Prop}(h:A):if true=true then A else B:=by
 rw[aL rfl];exact h
def aW(H H':Hp):Prop:=∀b o,H b=some o->H' b=some o
theorem aW.refl(H:Hp):aW H H:=λ_ _ h=>h
theorem aW.trans{H1 H2:Hp}(a:aW H H1)(b:aW H1 H2):aW H H2:=λc o h=>b c o<|a c o h
theorem aW.free(e:aW H H')(h:H' l=Option.none):H l=Option.none:=by
 cases q:H l with
 |none=>rfl
 |some o=>
  rw[e l o q]at h;cases h
theorem aW.seq(e:aW H H')(h:cX K H a xs):cX K H' a xs:=by
 rcases h with(h |⟨o,h⟩) |h
 ·exact .inl<|.inl<|e _ _ h
 ·exact .inl<|.inr #[o,e _ _ h]
 ·exact .inr h
section
variable {κ:Type} [DecidableEq κ]
end
noncomputable def jB(env:Env):List (Str×NameKind)->List (Str×Addr)->List (Str×Addr)
 |[],cs=>cs
 |(n,k)::r,cs=>if(k==NameKind.free)=true then jB env r ((n,(env.cells.lookup n).getD 0)::cs)else jB env r cs
theorem wF{scope:Scope}{env:Env}(h:∀x∈scope.names,x.2=.free->∃c,env.cells.lookup x.1=some c):closureFor scope env=pure (jB env scope.names []):=by
 unfold closureFor;let go:∀(l:List (Str×NameKind))(cs:List (Str×Addr)),(∀x∈l,x.2=.free->∃c,env.cells.lookup x.1=some c)->
  (forIn l cs λ(x:Str×NameKind) (r:List (Str×Addr))=>(match x with
   |(name,kind)=>if(kind==NameKind.free)=true then do let a ←cellOf env name;pure (ForInStep.yield ((name,a)::r))else pure (ForInStep.yield r):Sem (ForInStep<|List<|Str×Addr)))=(pure (jB env l cs):Sem (List<|Str×Addr)):=by
  intro l
  induction l with
  |nil=>intro cs _;rfl
  |cons x r b=>
   intro cs hl;let⟨n,k⟩:=x;rw[List.forIn_cons];by_cases hk:(k==NameKind.free)=true
   ·let⟨c,hc⟩:=hl (n,k) bD (by simpa using hk);let e:cellOf env n=pure c:=by unfold cellOf;rw[hc]
    simp only[hk,if_true,e,pure_bind];rw[b _ λy hy=>hl y<|bB _ hy];rw[jB,aL hk,hc];rfl
   ·simp only[hk,dJ,bP,pure_bind];rw[b _ λy hy=>hl y<|bB _ hy];rw[jB,aI hk]
 let q:=go scope.names [] h;simp only[pure_bind,bind_pure]at q⊢;exact q
theorem uK{env:Env}{y:Str}{c:Addr}:∀(l:List (Str×NameKind))(cs:List (Str×Addr)),(∀x∈l,x.2=.free->∃c,env.cells.lookup x.1=some c)->
 (∀z d,cs.lookup z=some d->env.cells.lookup z=some d)->(jB env l cs).lookup y=some c->env.cells.lookup y=some c
 |[],cs,_,hc,e=>hc _ _ e
 |(n,k)::r,cs,h,hc,e=>by
  let hr:∀x∈r,x.2=.free->∃c,env.cells.lookup x.1=some c:=λx hx=>h x<|bB _ hx
  by_cases hk:(k==NameKind.free)=true
  ·rw[jB,aL hk]at e;calc uK r _ hr (λz d a=>?_) e;let⟨j,f⟩:=h (n,k) bD (by simpa using hk);rw[bQ]at a;cases hz:z==n with
   |true=>
    rw[hz]at a;let g:z=n:=eq_of_beq hz;subst g;let i:(env.cells.lookup z).getD 0=d:=cU a;let b:env.cells.lookup z=some j:=f;rw[b]at i⊢;exact dE some i
   |false=>rw[hz]at a;exact hc z d a
  ·rw[jB,aI hk]at e;exact uK r cs hr hc e
theorem vZ{env:Env}{y:Str}:∀(l:List (Str×NameKind))(cs:List (Str×Addr)),((y,NameKind.free)∈l\/∃c,cs.lookup y=some c)->∃c,(jB env l cs).lookup y=some c
 |[],cs,h=>h.elim (λz=>nomatch z) λz=>z
 |(n,k)::r,cs,h=>by
  by_cases hk:(k==NameKind.free)=true
  ·rw[jB,aL hk];calc vZ r _ ?_;rcases h with h |⟨c,h⟩
   ·rcases bG.mp h with h |h
    ·cases h;exact .inr #[_,by rw[bQ,dN]]
    ·exact .inl h
   ·cases hz:y==n with
    |true=>exact .inr #[_,by rw[bQ,hz]]
    |false=>exact .inr #[c,by rw[bQ,hz];calc h]
  ·rw[jB,aI hk];calc vZ r _ ?_;rcases h with h |h
   ·rcases bG.mp h with h |h
    ·cases h;exact absurd rfl hk
    ·exact .inl h
   ·exact .inr h
theorem qA{env:Env}:∀{names:List (Str×NameKind)}{x:Str}{k':NameKind},
 (names.map λ(n,k)=>if(k==NameKind.free&&env.scope.kind==.function&&env.kindOf n==some .cell)then(n,NameKind.cell)else(n,k)).lookup x=some k'->
 names.lookup x=some k'\/(names.lookup x=some .free/\k'=.cell)
 |[],_,_,h=>by simp at h
 |(n,k)::r,x,k',h=>by
  let a:=@qA env r x k';let h:List.lookup x ((if(k==NameKind.free&&env.scope.kind==.function&&env.kindOf n==some .cell)=true then(n,NameKind.cell)else(n,k))::_)=some k':=h;rw[bQ];by_cases hc:(k==NameKind.free&&env.scope.kind==.function&&env.kindOf n==some .cell)=true
  ·rw[aL hc,bQ]at h;cases hx:x==n with
   |true=>
    rw[hx]at h;let b:NameKind.cell=k':=cU h;simp only[cD]at hc;exact .inr #[dE some<|eq_of_beq hc.1.1,b.symm]
   |false=>rw[hx]at h;exact a h
  ·rw[aI hc,bQ]at h;cases hx:x==n with
   |true=>rw[hx]at h;exact .inl h
   |false=>rw[hx]at h;exact a h
theorem wY{env:Env}:∀{names:List (Str×NameKind)}{x:Str},names.lookup x=some .free->
 (names.map λ(n,k)=>if(k==NameKind.free&&env.scope.kind==.function&&env.kindOf n==some .cell)then(n,NameKind.cell)else(n,k)).lookup x=some .cell\/
 (names.map λ(n,k)=>if(k==NameKind.free&&env.scope.kind==.function&&env.kindOf n==some .cell)then(n,NameKind.cell)else(n,k)).lookup x=some .free
 |[],_,h=>by simp at h
 |(n,k)::r,x,h=>by
  let a:=@wY env r x;show List.lookup x ((if(k==NameKind.free&&env.scope.kind==.function&&env.kindOf n==some .cell)=true then(n,NameKind.cell)else(n,k))::_)=_\/List.lookup x ((if(k==NameKind.free&&env.scope.kind==.function&&env.kindOf n==some .cell)=true then(n,NameKind.cell)else(n,k))::_)=_;rw[bQ]at h;by_cases hc:(k==NameKind.free&&env.scope.kind==.function&&env.kindOf n==some .cell)=true
  ·rw[aL hc,bQ];cases hx:x==n with
   |true=>exact .inl rfl
   |false=>rw[hx]at h;exact a h
  ·rw[aI hc,bQ];cases hx:x==n with
   |true=>rw[hx]at h;exact .inr h
   |false=>rw[hx]at h;exact a h
structure oB(xs ys:List Str)(scope around:Scope):Prop where
 kind:scope.kind=.function
 nd:(xs++ys).Nodup
 own:∀x∈xs,scope.names.lookup x=some .local
 cap:∀y∈ys,scope.names.lookup y=some .free/\(around.names.lookup y=some .cell\/around.names.lookup y=some .free)
 nocell:∀y∈scope.names,y.2≠.cell
 names:∀y∈scope.names,y.2=.local->scope.names.lookup y.1=some .local
 free:∀y∈scope.names,y.2=.free->y.1∈ys
noncomputable def yD(X:Cx)(xs ys:List Str)(scope:Scope)(C:Addr)(s₀:Shared)(H₀:Hp)(fp:List Addr):Cx where
 prog:=X.prog
 w:=X.w
 K:=X.K
 mg:=X.mg
 base:=X.base
 A:=X.A
 N:=xs++ys
 s₀:=s₀
 H₀:=H₀
 env:=compEnvC scope (jB X.env scope.names []) C X.env
 outer:=X.stack
 stack:=X.stack
 ex:=fp
 fn:=λ_=>false
 calm:=X.calm
 pn:=[]
 xe:=λ_ _=>False
noncomputable def XY(xs:List Str)(js:List Nat)(σ:St):St:=xs.map (λ_=>none)++js.map λj=>(σ[j]?).join
def PN(J:It)(n:List Str)(js:List Nat)(g:TG)(tc:Option TT)(te:TE)(σ:St)(H1:Hp)(Q:VK):Prop:=∃W:Nat->Nat->List V->St->Hp->Prop,(∃m,W 0 m [] (XY n js σ) H1)/\∀i m ys σ1 H,W i m ys σ1 H->
 (J.stop i H/\∀p,H p=none->Q (.ref p) (upd H p<|.lst ys))\/
 (J.go i H/\ys.length<sizeLine/\∀x H',J.yld i H x H'->g x σ1 H' λσ2 H2=>match tc with
  |none=>te σ2 H2 λy H3=>∃m',m'<m/\W (i+1) m' (ys++[y]) σ2 H3
  |some c=>c σ2 H2 λb H3=>if b=true then te σ2 H3 λy H4=>∃m',m'<m/\W (i+1) m' (ys++[y]) σ2 H4 else∃m',m'<m/\W (i+1) m' ys σ2 H3)
def tLC(n:List Str)(js:List Nat)(wi:TI)(g:TG)(tc:Option TT)(te:TE):TE:=λσ H Q=>wi σ H λJ H1=>PN J n js g tc te σ H1 Q
def lc(X:Cx)(ifs:List Expr)(tc:Option TT):Prop:=match ifs,tc with
 |[],none=>True
 |[c],some t=>PT X c t
 |_,_=>False
section
variable {xs:List Str} {scope:Scope} {C D:Addr}
def db(X:Cx)(ys:List Str)(js:List Nat):Prop:=js.length=ys.length/\∀(i:Nat)(y:Str)(j:Nat),ys[i]?=some y->js[i]?=some j->X.N[j]?=some y
theorem VZ(I:Inv X aK σ H s)(S:oB xs ys scope X.env.scope):∀x∈scope.names,x.2=.free->∃c,X.env.cells.lookup x.1=some c:=λx hx hf=>
 I.ok.has x.1 ((S.cap x.1<|S.free x hx hf).2.elim .inl .inr)
theorem OS(I:Inv X aK σ H s)(S:oB xs ys scope X.env.scope){y:Str}{c:Addr}(e:(jB X.env scope.names []).lookup y=some c):X.env.cells.lookup y=some c:=
 uK scope.names [] (VZ I S) (λ_ _ z=>nomatch z) e
theorem DX(I:Inv X aK σ H s)(S:oB xs ys scope X.env.scope)(hj:db X ys js)(f2:∀b∈fp,wU X aK H b)(fo:∀b∈fp,b<s.heap.objs.size)
 {h₁:Heap} {m:Str->Option Value} {tk:Nat} {oD:Obj} (hC:s.heap.objs.size<=C) (hD:s.heap.objs.size<=D) (hDC:D≠C) (hn:h₁.Ns C m) (hd:h₁.get? D=some oD) (hdd:∀v,oD.data≠.cell v)
 (old:∀b o,s.heap.get? b=some o->h₁.get? b=some o):
 Inv (yD X xs ys scope C s H fp) [(D,oD)] (XY xs js σ) H {s with heap:=h₁,toks:=tk}:=by
 let cl:=λy c=>OS (y:=y) (c:=c) I S
 let nC:H C=none:=I.hok.fresh hC;let nD:H D=none:=I.hok.fresh hD;let lt_of:∀{b:Addr},b<s.heap.objs.size->b≠C:=λhb=>cH<|cF hb hC
 let fsub:∀b,b∈HN X.stack->b∈X.env.locals::X.fs:=I.stkSub;refine#[#[I.ok.mod,?_,I.ok.glob,I.ok.blt,hC,λx y c h1 h2=>I.ok.inj x y c (cl x c h1)<|cl y c h2,λx hx=>?_,(λx c h=>nomatch h),I.ok.hd,I.ok.frames,.inl rfl,λb hb=>#[lt_of<|fo b hb,λx c h=>(f2 b hb).2.2.2.2.1 x c (cl x c h)],I.bs,
  bU I.ok.bsz I.sz,λb o e hb=>?_,λb hb hf=>?_,I.stack,I.stkFree],
  rfl,I.bare,Un.kept old,#[m,hn,λi x v l a r=>?_],λx c h=>?_,nC,λx c h=>I.freeC x c<|cl x c h,λp hp=>?_,I.hok.kept old,?_]
 ·show scope.kind=_;exact S.kind
 ·let hx:(relabel scope X.env).names.lookup x=some .cell\/(relabel scope X.env).names.lookup x=some .free:=hx;let hm:(x,NameKind.free)∈scope.names:=by
   rcases hx with hx |hx
   ·rcases qA hx with z |z
    ·exact absurd rfl<|S.nocell _<|eQ z
    ·exact eQ z.1
   ·rcases qA hx with z |z
    ·exact eQ z
    ·exact nomatch z.2
  exact vZ scope.names []<|.inl hm
 ·rcases(f2 b hb).2.2.2.1 with z |z
  ·exact I.ok.noex b o e z
  ·exact absurd (cF (bC e)<|bU I.ok.bsz z)<|dP _
 ·rcases bG.mp (fsub b hf)with z |z
  ·exact(f2 b hb).2.1 z
  ·exact(f2 b hb).2.2.1 z
 ·let l:(xs++ys)[i]?=some x:=l;let a:(xs.map (λ_=>(none:Option V))++js.map λj=>(σ[j]?).join)[i]?=some (some v):=a;by_cases hi:i<xs.length
  ·rw[aZ (by simpa using hi),aJ]at a;cases q:xs[i]? with
   |none=>rw[q]at a;cases a
   |some z=>rw[q]at a;cases a
  ·rw[bI (by simpa using hi),aD,aJ]at a;rw[bI (by simpa using hi)]at l;cases q:js[i-xs.length]? with
   |none=>rw[q]at a;cases a
   |some j=>
    rw[q]at a;let d:(σ[j]?).join=some v:=cU a;let hy:=hj.2 _ _ _ l q;let hσ:σ[j]?=some (some v):=by
     cases z:σ[j]? with
     |none=>rw[z]at d;cases d
     |some t=>rw[z]at d;exact dE some d
    let A:x∈ys:=aR l;let⟨w,ca⟩:=S.cap x A;let⟨B,_,hl⟩:=I.loc;let⟨u,E,F⟩:=hl j x v hy hσ (ca.elim (λz=>.inr<|.inl z) λz=>.inr<|.inr z);refine#[u,E,.inr #[?_,?_]]
    ·exact wY (env:=X.env) w
    ·rcases F with⟨k,_⟩ |⟨_,c,G,zc⟩
     ·let k:X.env.scope.names.lookup x=some .local:=k;rcases ca with z |z<;> ·rw[k]at z;cases z
     ·let⟨J,n⟩:=vZ (env:=X.env) (y:=x) scope.names []<|.inl<|eQ w;let r:=cl x J n;rw[G]at r;cases r;let⟨o,f,g⟩:=zc;exact#[_,n,o,old _ _ f,g]
 ·let⟨v,o,f,g⟩:=I.cell x c<|cl x c h;exact#[v,o,old _ _ f,g]
 ·let hp:p∈[(D,oD)]:=by simpa[yD]using hp
  let e:=aS.mp hp;subst e;calc#[hd,nD,hDC,λhf=>?_,hdd];let hf:D∈HN X.stack:=hf;obtain⟨o,f⟩:∃o,s.heap.get? D=some o:=by
   rcases bG.mp (fsub D hf)with z |z
   ·let⟨B,⟨o,_,_,f,_⟩,_⟩:=I.loc;let z:D=X.env.locals:=z;exact#[o,z▸f]
   ·exact absurd z<|I.nofs hD
  exact absurd (bC f)<|Nat.not_lt.mpr hD
 ·show(xs.map (λ_=>(none:Option V))++js.map λj=>(σ[j]?).join).length=(xs++ys).length;rw[aH,aH,aD,aD,hj.1]
end
section
variable {xs:List Str} {scope:Scope} {iter elt:Expr} {ifs:List Expr} {pos:Pos} {wi:TI} {g:TG} {tc:Option TT}
theorem JX{t:Sem α}{Q:α->Shared->Prop}(h:wpAny M A t Q (λ_ _=>False) s):wpAny M A t Q E s:=iL h (λ_ _ x=>x) λ_ _ z=>z.elim
theorem VX{it acc:Value}{env:Env}(J:Nat->Shared->Prop)
 (turn:∀n s,J n s->wpAny (model prog w) A (pyNext it) (λr s₁=>match r with
  |none=>R (.ok .next) s₁
  |some v=>wpAny (model prog w) A (letOwnedTupleGo tg it v) (λ_ s1'=>wpAny (model prog w) A (assign tg env v) (λ_ s₂=>
   wpAny (model prog w) A (forIn ifs true λc r=>if r=true then do let ok ←isTrue c env (eval c env);pure (ForInStep.yield ok)else pure (ForInStep.yield r)) (λok s₃=>
    if ok=true then wpAny (model prog w) A (eval elt env) (λx s₄=>
     wpAny (model prog w) A (call (.builtin "list.append") [acc,x]) (λ_ s₅=>∃m,m<n/\J m s₅) (λ_ _=>False) s₄) (λ_ _=>False) s₃
    else∃m,m<n/\J m s₃) (λ_ _=>False) s₂) (λ_ _=>False) s1') (λ_ _=>False) s₁) (λ_ _=>False) s)
 (n:Nat) (h:J n s):codeAny (model prog w) A (.compLoop (.ListComp elt [#[tg,iter,ifs,0]] scope pos) 0 it acc env) R s:=by
 calc codeAny_loop rfl J (λn s a=>?_) n h;show wpAny _ A ((compTurn (.ListComp elt [#[tg,iter,ifs,0]] scope pos) 0 it acc env).onRaise (λx=>do noteFrame x env;theTreesLotGoes x)) _ _ s;calc wpAny_noted ?_;rw[compTurn_list];calc aF (wpAny_standAt<|aF<|JX<|eP (turn n s a) λr s₁ h₁=>?_);cases r with
 |none=>exact aV h₁
 |some v=>
  calc aF (JX<|eP h₁ λ_ s1' h₁'=>aF<|JX<|eP h₁' λ_ s₂ h₂=>aF<|JX<|eP h₂ λok s₃ h₃=>?_);cases ok with
  |false=>exact aV #[rfl,h₃]
  |true=>exact aF (aF<|JX<|eP h₃ λx s₄ h₄=>aF<|JX<|eP h₄ λ_ s₅ h₅=>aV<|aV #[rfl,h₅])
structure MR(X:Cx)(aK:List (Addr×Obj))(σ:St)(C:Addr)(H':Hp)(s':Shared):Prop where
 inv:Inv X aK σ H' s'
 ns:∃m,s'.heap.Ns C m
 free:H' C=none
 ne:C≠X.env.locals
 up:X.s₀.heap.objs.size<=C
 cells:∀x c,X.env.cells.lookup x=some c->c≠C
 pin:∀p∈X.pn++aK,p.1≠C
theorem MR.gone{C:Addr}{s':Shared}(L:MR X aK σ C H' s')(hs:Heap.SameBut C s'.heap h'):Inv X aK σ H' {s' with heap:=h'}:=
 L.inv.turned (t':=s'.toks) (λb o hb e=>hs.extBut b o hb e) L.free L.ne (.inr L.up) L.cells L.pin
theorem LJ(hc:X.calm=true)(S:oB xs ys scope X.env.scope)(hj:db X ys js)(hi:PI X tg iter wi)
 (hg:∀C s₀ H₀ fp,PG (yD X xs ys scope C s₀ H₀ fp) tg g) (hif:∀C s₀ H₀ fp,lc (yD X xs ys scope C s₀ H₀ fp) ifs tc) (he:∀C s₀ H₀ fp,PE (yD X xs ys scope C s₀ H₀ fp) elt te)
 {RR:Value->Addr->Result->Shared->Prop} {Q:VK} (I:Inv X aK σ H s) (h:tLC xs js wi g tc te σ H Q)
 (fin:∀D C H' s',MR X aK σ C H' s'->Q (.ref D) H'->RR (.ref D) C (.ok .next) s'):
 wpAny (model X.prog X.w) X.A (eval iter X.env) (λx s₁=>wpAny (model X.prog X.w) X.A (pyIter x) (λit s₂=>wpAny (model X.prog X.w) X.A (newList []) (λacc s₃=>
  wpAny (model X.prog X.w) X.A (newFunctionEnv scope X.env.globals (jB X.env scope.names []) [] X.env.qual none .none<|some X.env) (λcenv s₄=>
   codeAny (model X.prog X.w) X.A (.compStart (.ListComp elt [#[tg,iter,ifs,0]] scope pos) 0 it acc {cenv with scope:=relabel scope X.env}) (RR acc cenv.locals) s₄) X.xe s₃) X.xe s₂) X.xe s₁) X.xe s:=by
 refine eP (hi aK s σ H _ I h) λv s1 h1=>eP h1 λitv s2 h2=>?_
 let⟨it,fp,tn,J,H2,e,I2,T,st2,f2,W,⟨m0,w0⟩,turn⟩:=h2;subst e;let fo:∀b∈fp,b<s2.heap.objs.size:=λb hb=>let ⟨o,e,_⟩:=T.obj _ _ st2 b hb;bC e
 calc eY (wpAny_newFunctionEnv S.nocell (by intro y hy;simp at hy) (λh₁ l k=>?_) S.kind);dsimp only at l k⊢;generalize Y:s2.heap.push {cls:=.type "list",dict:=none,data:=.seq ([]:List Value).toArray}=G at l k⊢;let hC:G.objs.size=s2.heap.objs.size+1:=by rw[←Y,Heap.size_push]
 let Z:s2.heap.objs.size≠G.objs.size:=by rw[hC];exact cH<|PF _
 let O:s2.heap.objs.size<=G.objs.size:=by rw[hC];exact tG _
 let below:∀b,b<s2.heap.objs.size->b≠G.objs.size/\b≠s2.heap.objs.size:=λb hb=>#[by rw[hC];exact cH<|pY hb,cH hb]
 let old:∀b o,s2.heap.get? b=some o->h₁.get? b=some o:=λb o e=>k.extBut b o (below b<|bC e).1 (aO _<|Y▸aO _ e)
 let hacc:h₁.get? s2.heap.objs.size=some (LCg.lst []):=k.extBut _ _ Z<|aO _<|Y▸bO _ rfl;let st1:tn 0 h₁:=T.keep _ _ _ st2 λb _ o e=>old b o e
 let I3:=DX (C:=G.objs.size) (D:=s2.heap.objs.size) (tk:=s2.toks+([]:List (Str×Value)).length) I2 S hj f2 fo O (aG _) Z l hacc (by intro v hv;cases hv) old;generalize j:yD X xs ys scope G.objs.size s2 H2 fp=B at I3;let pB:B.prog=X.prog:=by rw[←j];rfl
 let wB:B.w=X.w:=by rw[←j];rfl
 let kB:B.K=X.K:=by rw[←j];rfl
 let aB:B.A=X.A:=by rw[←j];rfl
 let eB:B.env=compEnvC scope (jB X.env scope.names []) G.objs.size X.env:=by rw[←j];rfl
 let cB:B.calm=true:=by rw[←j];exact hc
 let xB:B.xe=λ_ _=>False:=by rw[←j];rfl
 let gB:PG B tg g:=by rw[←j];exact hg _ _ _ _
 let iB:lc B ifs tc:=by rw[←j];exact hif _ _ _ _
 let elB:PE B elt te:=by rw[←j];exact he _ _ _ _
 let sB:B.s₀=s2:=by rw[←j];rfl
 let hB:B.H₀=H2:=by rw[←j];rfl
 let fB:B.fs=HN X.stack:=by rw[←j];rfl
 let exB:B.ex=fp:=by rw[←j];rfl
 let pnB:B.pn=[]:=by rw[←j];rfl
 let statB:∀{H':Hp}{oD:Obj}{σ':St}{s':Shared},Inv B [(s2.heap.objs.size,oD)] σ' H' s'->(∀b∈fp,H' b=none)->∀b∈fp,wU B [(s2.heap.objs.size,oD)] H' b:=λ{H' oD σ' s'} P hn b hb=>
  #[hn b hb,(P.ok.exf b<|exB▸hb).1,P.ok.exfs b<|exB▸hb,.inl<|exB▸hb,(P.ok.exf b<|exB▸hb).2,λp hp=>by
   rw[pnB]at hp;let e:=aS.mp (show p∈[(s2.heap.objs.size,oD)]from hp);subst e;calc rW<|fo b hb]
 let loop:∀s₃:Shared,s₃={s2 with heap:=h₁,toks:=s2.toks+([]:List (Str×Value)).length}->
  codeAny (model X.prog X.w) X.A (.compLoop (.ListComp elt [#[tg,iter,ifs,0]] scope pos) 0 (.ref it) (.ref s2.heap.objs.size)<|compEnvC scope (jB X.env scope.names []) G.objs.size X.env) (RR (.ref s2.heap.objs.size) G.objs.size) s₃:=by
  rintro s₃ rfl;refine VX (λn s'=>∃i ys its σ1 H',Inv B [(s2.heap.objs.size,LCg.lst its)] σ1 H' s'/\dD ys its/\tn i s'.heap/\(∀b∈fp,H' b=none)/\ys.length<=sizeLine/\W i n ys σ1 H') ?_ m0
   #[0,[],[],_,H2,I3,.nil,st1,λb hb=>(f2 b hb).1,bZ _,w0]
  rintro n s' ⟨i,a,its,σ1,H',P,rv,cN,fr',hz,w'⟩;let rl:=rv.length;rcases turn i n a σ1 H' w' with⟨stop,qn⟩ |⟨go,hz',step⟩
  ·let q:=T.done B pB wB kB cB i _ s' σ1 H' (λ_ _=>False) P (statB P fr') cN stop;rw[aB]at q;refine eP q λr s4 r=>?_;let⟨hr,I4⟩:=r
   subst hr;let pD:=(I4.pin (s2.heap.objs.size,LCg.lst its)<|bA _ bD)
   let hDn:H' s2.heap.objs.size=none:=pD.2.1;let R:=I4.base;rw[fB,exB,hB,sB]at R;let neD:∀{b:Addr}{o:HO},H' b=some o->b≠s2.heap.objs.size:=λe z=>by rw[z,hDn]at e;cases e
   let upk:∀{b:Addr}{o:HO},H' b=some o->upd H' s2.heap.objs.size (.lst a) b=some o:=λe=>by rw[zE<|neD e];exact e
   let u:Un (HN X.stack) fp H2 (upd H' s2.heap.objs.size<|.lst a) s2.heap s4.heap:=
    #[R.keep,R.slot,λb o e n hx=>by rw[zE (below b<|bC e).2];exact R.free b o e n hx,R.there,λb zs e=>upk<|R.tups b zs e,λb o zs e=>upk<|R.frzs b o zs e,λb ps e=>let ⟨more,q⟩:=R.tbls b ps e;#[more,upk q]]
   let hok4:mL X.prog X.w H' s4.heap:=by have :=I4.hok;rw[pB,wB]at this;exact this
   let hok:mL X.prog X.w (upd H' s2.heap.objs.size<|.lst a) s4.heap:=λb o e=>by
    by_cases hb:b=s2.heap.objs.size
    ·subst hb;rw[zA]at e;cases e;exact#[hz,its,its.length,rv,pD.1]
    ·rw[zE hb]at e;exact(hok4 b o e).stay (λ_ _ _ q=>q) (λ_ q=>upk q) λ_ _ q=>upk q
   let I5:Inv X aK σ (upd H' s2.heap.objs.size<|.lst a) s4:=I2.call' (ch:=fp) (by rw[I4.os,sB]) u hok I4.bare λb hb=>let f:=f2 b hb;#[f.2.2.2.1,f.2.1,f.2.2.2.2.1,f.2.2.2.2.2]
   refine fin s2.heap.objs.size G.objs.size _ s4 #[I5,?_,?_,?_,bU I2.sz O,λx c e z=>?_,λp hp z=>?_]<|qn _ hDn
   ·let⟨m,hn,_⟩:=I4.loc;rw[eB]at hn;exact#[m,hn]
   ·let fr:=I4.free;rw[eB]at fr;rw[zE<|cE Z];exact fr
   ·exact cE (below _ I2.lt).1
   ·let⟨_,o,ho,_⟩:=I2.cell x c e;exact(below c<|bC ho).1 z
   ·exact(below p.1<|bC (I2.pin p hp).1).1 z
  ·let q:=T.item B pB wB kB cB i _ s' σ1 H' (λ_ _=>False) P (statB P fr') cN go;rw[aB]at q;refine eP q λr s4 z0=>?_;let⟨u,hr,h4⟩:=z0
   subst hr;refine eP h4 λ_ s5 z5=>?_
   let⟨x,H5,I5,r5,y5,E,fr5⟩:=z5;let I5':=I5.pinned (statB I5 fr5)<|T.obj _ _ E;let q5:=gB _ s5 σ1 H5 x u _ I5' r5<|step x H5 y5;rw[pB,wB,aB,eB,xB]at q5;refine eP q5 λ_ s6 z1=>?_;let⟨σ6,H6,I6,q6⟩:=z1
   let last:∀{F:Shared}{L:Hp},Inv B ([(s2.heap.objs.size,LCg.lst its)]++qQ fp s5.heap) σ6 L F->(te σ6 L λy H8=>∃M,M<n/\W (i+1) M (a++[y]) σ6 H8)->
    wpAny (model X.prog X.w) X.A (eval elt<|compEnvC scope (jB X.env scope.names []) G.objs.size X.env) (λx s₄=>
     wpAny (model X.prog X.w) X.A (call (.builtin "list.append") [.ref s2.heap.objs.size,x]) (λ_ s₅=>∃m,m<n/\
      ∃i ys its σ1 H',Inv B [(s2.heap.objs.size,LCg.lst its)] σ1 H' s₅/\dD ys its/\tn i s₅.heap/\(∀b∈fp,H' b=none)/\ys.length<=sizeLine/\W i m ys σ1 H') (λ_ _=>False) s₄) (λ_ _=>False) F:=λ{F L} U N=>by
    let q8:=elB _ F σ6 L _ U N;rw[pB,wB,aB,eB,xB]at q8;refine eP q8 λuy s8 z8=>?_
    let⟨y,H8,I8,r8,M,hm',w8⟩:=z8;let pD:=(I8.pin (s2.heap.objs.size,LCg.lst its)<|bA _<|cS _ bD)
    calc append_at (its:=its.toArray) (n:=its.length) pD.1 (λh9 hs9 hd9=>?_) (by rw[aU,←rl];calc hz);let dropped:Inv B (qQ fp s5.heap) σ6 H8 s8:=I8.pins_of λp hp=>I8.pin p<|bA _<|bA _ hp
    let apart:∀p∈B.pn++qQ fp s5.heap,p.1≠s2.heap.objs.size:=λp hp=>by
     rw[pnB]at hp;exact cH (fo _ (QJ<|show p∈qQ fp s5.heap from hp).1)
    let I9:Inv B (qQ fp s5.heap) σ6 H8 {s8 with heap:=h9}:=dropped.turned (t':=s8.toks) (λb o hb e=>hs9.extBut b o hb e) pD.2.1 pD.2.2.1 (.inr (by rw[sB];calc aG _)) (λx c e=>by
     intro z;let⟨v,o,ho,hd⟩:=I8.cell x c e;rw[z,pD.1]at ho;cases ho;cases hd) apart
    let I9':Inv B [(s2.heap.objs.size,LCg.lst<|its++[uy])] σ6 H8 {s8 with heap:=h9}:=I9.pins_of λp hp=>by
     let e:=aS.mp hp;subst e;exact#[hd9.trans<|dE some<|LCg.lst_snoc its uy,pD.2.1,pD.2.2.1,pD.2.2.2.1,by intro v hv;cases hv]
    refine#[M,hm',i+1,a++[y],its++[uy],σ6,H8,I9',dD.append rv<|.cons r8 .nil,T.keep _ _ _ E λb hb o e=>?_,λb hb=>?_,by rw[aH];exact hz',w8]
    ·exact(I9.pin (b,o)<|bA _<|jD hb e).1
    ·let⟨o,e,d⟩:=T.obj _ _ E b hb;exact(I9.pin (b,o)<|bA _<|jD hb e).2.1
   let again:∀{F:Shared}{L:Hp},Inv B ([(s2.heap.objs.size,LCg.lst its)]++qQ fp s5.heap) σ6 L F->(∃M,M<n/\W (i+1) M a σ6 L)->∃m,m<n/\
    ∃i ys its σ1 H',Inv B [(s2.heap.objs.size,LCg.lst its)] σ1 H' F/\dD ys its/\tn i F.heap/\(∀b∈fp,H' b=none)/\ys.length<=sizeLine/\W i m ys σ1 H':=λ{F L} U ⟨M,hm',w7⟩=>by
    calc#[M,hm',i+1,a,its,σ6,L,U.unpinned,rv,T.keep _ _ _ E λb hb o e=>(U.pin (b,o)<|bA _<|bA _<|jD hb e).1,λb hb=>?_,hz,w7];let⟨o,e,d⟩:=T.obj _ _ E b hb;exact(U.pin (b,o)<|bA _<|bA _<|jD hb e).2.1
   match ifs,tc,iB,q6 with
   |[],none,_,q6=>
    calc wpAny_tests_nil ?_;rw[aL rfl];exact last I6 q6
   |[c],some t,iB,q6=>
    let iB:PT B c t:=iB;let N:=iB _ s6 σ6 H6 _ I6 q6;rw[pB,wB,aB,eB,xB]at N;calc wpAny_tests_one (eP N λb F z2=>?_);let⟨L,U,N⟩:=z2;cases b with
    |true=>rw[aL rfl]at N⊢;exact last U N
    |false=>rw[aI cG]at N⊢;exact again U N
 exact codeAny_compStart_list (loop _ rfl)<|T.self _ 0 _ _ _ st1<|loop _ rfl
theorem pe_lc(hc:X.calm=true)(S:oB xs ys scope X.env.scope)(hj:db X ys js)(hi:PI X tg iter wi)
 (hg:∀C s₀ H₀ fp,PG (yD X xs ys scope C s₀ H₀ fp) tg g) (hif:∀C s₀ H₀ fp,lc (yD X xs ys scope C s₀ H₀ fp) ifs tc) (he:∀C s₀ H₀ fp,PE (yD X xs ys scope C s₀ H₀ fp) elt te)
 (hs:∀x,foldedSetIterable iter X.env x=pure x:=by intro _;rfl):PE X (.ListComp elt [#[tg,iter,ifs,0]] scope pos) (tLC xs js wi g tc te):=by
 intro aK s σ H Q I h;rw[eval_ListComp];calc wpAny_comprehension_free (use:=none) rfl hs (wF<|VZ I S) S.kind S.names ?_;refine LJ (RR:=λacc C=>compPost (model X.prog X.w) X.A X.xe none (EP X aK σ Q) acc C) hc S hj hi hg hif he I h λD C H' s' L q=>?_
 let⟨m,hn⟩:=L.ns;exact#[m,hn,λb a=>#[.ref D,H',L.gone a,rfl,q]]
theorem SW{x:Str}{p':Pos}(hN:X.N.Nodup)(hx:X.N[i]?=some x)(hl:X.env.scope.names.lookup x=some .local)(hc:X.calm=true)(S:oB xs ys scope X.env.scope)(hj:db X ys js)(hi:PI X tg iter wi)
 (hg:∀C s₀ H₀ fp,PG (yD X xs ys scope C s₀ H₀ fp) tg g) (hif:∀C s₀ H₀ fp,lc (yD X xs ys scope C s₀ H₀ fp) ifs tc) (he:∀C s₀ H₀ fp,PE (yD X xs ys scope C s₀ H₀ fp) elt te)
 (hsw:autoParam (swapsWith (.ListComp elt [#[tg,iter,ifs,0]] scope pos) (some<|.Name x p') p.line X.env=pure true) a1._auto_1)
 (hs:∀x,foldedSetIterable iter X.env x=pure x:=by intro _;rfl):PS X (.Assign [.Name x p'] (.ListComp elt [#[tg,iter,ifs,0]] scope pos) p) (et (tLC xs js wi g tc te)<|vL i):=by
 intro aK s σ H D I h;rw[exec_Assign_Name_used _ _ _ _ hsw];calc aF<|wpAny_standAt<|aF ?_;show wpAny _ X.A (do let _ ←comprehension (.ListComp elt [#[tg,iter,ifs,0]] scope pos) scope X.env _ (newList []) false (eval iter X.env) (some<|assign (.Name x p') X.env)) _ _ s;calc aF (iL (wpAny_comprehension_free (use:=some<|assign (.Name x p') X.env) (Q:=λ_ s'=>SP X aK D .next s') rfl hs (wF<|VZ I S) S.kind S.names ?_) (λ_ s' hq=>aV<|aV hq) λ_ _ e=>e);refine LJ (Q:=λv H'=>vL i v σ H' D.nx) (RR:=λacc C=>compPost (model X.prog X.w) X.A X.xe (some<|assign (.Name x p') X.env) (λ_ s'=>SP X aK D .next s') acc C) hc S hj hi hg hif he I h λA C H' s' L q=>?_
 show wpAny _ X.A (assign (.Name x p') X.env<|.ref A) _ _ _;calc wpAny_assign_Name (QA (v:=.ref A) L.inv hN hx (.inl hl) rfl (λf d y=>?_)<|.inr hl);let⟨a,sb,ha⟩:=y;let cne:∀{b:Addr},(b=X.env.locals\/X.env.cells.lookup x=some b)->C≠b:=λz e=>by
  rcases z with z |z
  ·exact L.ne<|e.trans z
  ·exact L.cells x _ z e.symm
 let⟨m,hn⟩:=L.ns;calc#[m,hn.sameBut sb<|cne ha,λj c=>#[_,_,?_,q]];exact MR.gone #[d,#[m,hn.sameBut sb<|cne ha],L.free,L.ne,L.up,L.cells,L.pin] c
end
def rSlS:V->Option Int->Option Int->Hp->VK->Prop:=λx lo hi H Q=>asS x λz=>z.length<=sizeLine/\Q (.str<|Txt.slice z lo hi) H
theorem part_of{v:Value}{o:Option Int}(p:IsPart v o):∃l:Option (Int×Tok),v=partValue l/\o=l.map (·.1):=by
 cases p with
 |none=>exact#[none,rfl,rfl]
 |int i t=>exact#[some (i,t),rfl,rfl]
open PySem.Builtin PySem.Builtin.Str in
theorem rg:SlR X rSlS:=by
 intro aK s σ H x v c d lo hi sl Q I a hs pl b h;replace h:=xh h;let⟨z,rfl,hz,q⟩:=h;let⟨t,rfl⟩:=a;let⟨l,rfl,rfl⟩:=part_of pl;let⟨u,rfl,rfl⟩:=part_of b;let key:(sliceMade z t l u none).post (EP X aK σ Q) s:=by
  let e:Txt.slice z (l.map (·.1)) (u.map (·.1))=if((1:Int)==1&&(strSliceIndices (l.map (·.1)) (u.map (·.1)) 1 z.length).length==z.length)=true then z else#[((strSliceIndices (l.map (·.1)) (u.map (·.1)) 1 z.length).filterMap (z.cps[·]?)).toArray]:=rfl
  let h1:=bU (Txt.slice_le z (l.map (·.1)) (u.map (·.1))) hz;rw[e]at h1 q;show(if((1:Int)==1&&(strSliceIndices (l.map (·.1)) (u.map (·.1)) 1 z.length).length==z.length)=true then Made.val (.str z t)else Made.str #[((strSliceIndices (l.map (·.1)) (u.map (·.1)) 1 z.length).filterMap (z.cps[·]?)).toArray]).post _ _;exact post_val_or_str #[h1,λt' k=>#[.str (if((1:Int)==1&&(strSliceIndices (l.map (·.1)) (u.map (·.1)) 1 z.length).length==z.length)=true then z else#[((strSliceIndices (l.map (·.1)) (u.map (·.1)) 1 z.length).filterMap (z.cps[·]?)).toArray]),H,I.tok k,#[t',rfl],q]]
 exact#["str",_,F.slot_str_getitem.lookup,typeIs_str _ _ _,wpAny_getItem_str_slice (l:=l) (u:=u) (st:=none) hs rfl key]
theorem JK:jL X (.builtin "all") (λxs H Q=>dr X.calm (pW xs λx=>mJ x λp=>∃bs:List Bool,cX X.K H p (bs.map V.bl)/\Q (.bl<|bs.all id) H)):=by
 intro aK s σ H xs us Q I r h;replace h:=EJ h;let⟨hc,h⟩:=h;replace h:=vQ h;let⟨l,rfl,h⟩:=h;replace h:=yS h;let⟨p,rfl,bs,hp,q⟩:=h;let⟨u,rfl,f⟩:=jN r;cases f;let⟨its,rv,hl,hz⟩:=I.list hp;let lT:p<s.heap.objs.size:=by let⟨_,e,_⟩:=hl.isList;exact bC e
 let eR:=rv.length;rw[aD]at eR;calc call_all_walk<|oC hl.isList ?_;refine#[_,_,_,_,_,_,λi=>bs.getD i false,rfl,Walks.list (A:=X.A.in1) (I.ok.hd hc) s.heap.objs.size p (cH lT) its.toArray,#[#[_,bO _ rfl,rfl,rfl],hl.isList.push _],λi v s' m n hv g=>?_,λh' tk k=>?_]
 ·let hv:its[i]?=some v:=by simpa using hv
  let hi:i<bs.length:=by
   have :=(aC.mp hv).1;lia
  let⟨t,c,d⟩:=rv.get (i:=i) (x:=.bl bs[i]) (by rw[aJ,aA hi];rfl);rw[hv]at c;cases c;let e:v=Value.bool bs[i]:=d;subst e;calc fL ?_;let j:bs.getD i false=bs[i]:=by rw[bW,aA hi];rfl
  rw[←j];exact g
 ·refine#[.bl<|bs.all id,H,?_,?_,q]
  ·exact I.kept (h':=h') (t':=tk) λb o e=>k b o (by intro hm;have :=aS.mp hm;calc absurd (this▸bC e)<|dP _)<|aO _ e
  ·let e:(List.range its.toArray.size).all (λi=>bs.getD i false)=bs.all id:=by
    rw[aU,←eR];rw[bY,cW,cW];constructor
    ·intro a b hb;let⟨i,hi,rfl⟩:=dI hb;have :=a i<|bL.mpr hi;rw[bW,aA hi]at this;exact this
    ·intro a i hi;let hi:=bL.mp hi;rw[bW,aA hi];exact a _<|cO hi
   show Value.bool _=_;rw[e]
theorem DT:jL X (.builtin "isinstance") (λxs H Q=>∃x t b,xs=[x,.ty T]/\rF X.K H x t/\W.kitOne X.K t (.type T)=some b/\Q (.bl b) H):=by
 intro aK s σ H xs us Q I r h;let⟨x,t,b,rfl,ty,e,q⟩:=h;let⟨u,d,rfl,c,a⟩:=vals2 r;cases a;exact OG I c ty e λtk=>#[.bl b,H,I.tok tk,rfl,q]
structure fZ(P:Program)(w:World)(K:W.Frag)(mg:Str->Option Value)(base:Heap)(k:Nat)(x:Str)(ps:List Str)(sp:Sp):Prop where
 ex:∃f fd,dC P w K mg base fU k f fd ps sp/\Binds K fd ps []/\W.keepIn K (.ref f)=true/\mg x=some (.ref f)
def Gc(mg:Str->Option Value)(x:Str)(v:V):Prop:=∃u,mg x=some u/\RelV v u
section
variable {k:Nat} {x:Str} {ps:List Str} {pos:Pos} {t:TA}
theorem fZ.mono{k:Nat}(h:fZ P w K mg base j x ps sp)(hk:j<=k):fZ P w K mg base k x ps sp:=by
 let⟨f,fd,F,r⟩:=h.ex;exact#[f,fd,F.mono hk,r]
theorem zU(h:fZ X.prog X.w X.K X.mg X.base k x ps sp)(hr:gE k X.A)(hg:Gl X x)(ha:PA X (e::es) t)(hdb:autoParam ((x==("__debug__":Str))=false) a2._auto_1)
 (he:autoParam (starEach (e::es) X.env=(false,eval e X.env)::starEach es X.env) a1._auto_1) (hpl:autoParam ((backTo pos<|starEach es X.env).any (·.1)=false) a1._auto_1):PE X (.Call (.Name x p) (e::es) [] pos) (RL sp [] E0 t):=by
 let⟨f,fd,F,b,kp,m⟩:=h.ex;exact ij F hr hg m kp b .nil KS ha hdb he hpl
theorem TK(h:Gc X.mg x v)(hg:Gl X x)(hd:autoParam ((x==("__debug__":Str))=false) a2._auto_1):PE X (.Name x pos) (tC v):=by
 let⟨u,m,r⟩:=h;exact KP hg m r hd
theorem n5(hm:X.mg x=none)(hv:bootBuiltins x=some (.type T))(hg:Gl X x)(hn:autoParam (x≠"__name__") a2._auto_1)(hd:autoParam ((x==("__debug__":Str))=false) a2._auto_1):PE X (.Name x pos) (tC<|.ty T):=
 ik hg hm hv rfl hn hd
end
theorem zW:lc X [] none:=trivial
theorem jG{t:TT}(h:PT X c t):lc X [c] (some t):=h
noncomputable def tN(xs ys:List Str)(scope around:Scope):Bool:=
 (scope.kind==.function)&&decide (xs++ys).Nodup&&xs.all (λx=>scope.names.lookup x==some .local)&&
 ys.all (λy=>(scope.names.lookup y==some .free)&&((around.names.lookup y==some .cell) ||(around.names.lookup y==some .free)))&&
 scope.names.all (λy=>(y.2 !=.cell)&&((y.2 !=.local) ||(scope.names.lookup y.1==some .local))&&((y.2 !=.free) ||ys.contains y.1))
theorem tN.scope{xs:List Str}{scope around:Scope}(h:tN xs ys scope around=true):oB xs ys scope around:=by
 unfold tN at h;simp only[cD,cP,bH,cW,oQ,bne_iff_ne,List.contains_iff_mem]at h;let⟨⟨⟨⟨h1,h2⟩,b⟩,c⟩,a⟩:=h;exact#[h1,h2,b,c,λy hy=>(a y hy).1.1,λy hy hl=>(a y hy).1.2.resolve_left (λz=>z hl),λy hy hf=>(a y hy).2.resolve_left (λz=>z hf)]
noncomputable def sP(N ys:List Str)(js:List Nat):Bool:=(js.length==ys.length)&&(ys.zip js).all λp=>N[p.2]?==some p.1
theorem sP.caps(h:sP X.N ys js=true):db X ys js:=by
 unfold sP at h;simp only[cD,cP,cW]at h;calc#[h.1,λi y j hy a=>?_];calc h.2 (y,j)<|aR (i:=i) ?_;rw[lI];exact#[hy,a]
section
variable {xs:List Str} {scope:Scope} {iter elt:Expr} {ifs:List Expr} {pos:Pos} {wi:TI} {g:TG} {tc:Option TT}
theorem zT(xs ys:List Str)(js:List Nat)(hi:PI X tg iter wi)
 (hg:∀C s₀ H₀ fp,(xs++ys).Nodup->PG (yD X xs ys scope C s₀ H₀ fp) tg g) (hif:∀C s₀ H₀ fp,lc (yD X xs ys scope C s₀ H₀ fp) ifs tc) (he:∀C s₀ H₀ fp,PE (yD X xs ys scope C s₀ H₀ fp) elt te)
 (hc:autoParam (X.calm=true) a1._auto_1) (S:autoParam (tN xs ys scope X.env.scope=true) a1._auto_1) (hj:autoParam (sP X.N ys js=true) a1._auto_1)
 (hs:∀x,foldedSetIterable iter X.env x=pure x:=by intro _;rfl):PE X (.ListComp elt [#[tg,iter,ifs,0]] scope pos) (tLC xs js wi g tc te):=
 pe_lc hc (tN.scope S) (sP.caps hj) hi (λC s₀ H₀ fp=>hg C s₀ H₀ fp (tN.scope S).nd) hif he hs
theorem qL{x:Str}{p':Pos}(xs ys:List Str)(js:List Nat)(hN:X.N.Nodup)(hx:X.N[i]?=some x)(hi:PI X tg iter wi)
 (hg:∀C s₀ H₀ fp,(xs++ys).Nodup->PG (yD X xs ys scope C s₀ H₀ fp) tg g) (hif:∀C s₀ H₀ fp,lc (yD X xs ys scope C s₀ H₀ fp) ifs tc) (he:∀C s₀ H₀ fp,PE (yD X xs ys scope C s₀ H₀ fp) elt te)
 (hl:autoParam (X.env.scope.names.lookup x=some .local) a1._auto_1) (hc:autoParam (X.calm=true) a1._auto_1) (S:autoParam (tN xs ys scope X.env.scope=true) a1._auto_1) (hj:autoParam (sP X.N ys js=true) a1._auto_1)
 (hsw:autoParam (swapsWith (.ListComp elt [#[tg,iter,ifs,0]] scope pos) (some<|.Name x p') p.line X.env=pure true) a1._auto_1)
 (hs:∀x,foldedSetIterable iter X.env x=pure x:=by intro _;rfl):PS X (.Assign [.Name x p'] (.ListComp elt [#[tg,iter,ifs,0]] scope pos) p) (et (tLC xs js wi g tc te)<|vL i):=
 SW hN hx hl hc (tN.scope S) (sP.caps hj) hi (λC s₀ H₀ fp=>hg C s₀ H₀ fp (tN.scope S).nd) hif he hsw hs
end
theorem wR:bootBuiltins "len"=some (.builtin "len"):=by decide+kernel
theorem wG:bootBuiltins "isinstance"=some (.builtin "isinstance"):=by decide+kernel
theorem HV:bootBuiltins "all"=some (.builtin "all"):=by decide+kernel
theorem wA:bootBuiltins "sorted"=some (.builtin "sorted"):=by decide+kernel
theorem b8:bootBuiltins "range"=some (.type "range"):=by decide+kernel
theorem JL:bootBuiltins "tuple"=some (.type "tuple"):=by decide+kernel
theorem kQ:bootBuiltins "list"=some (.type "list"):=by decide+kernel
theorem wx:bootBuiltins "int"=some (.type "int"):=by decide+kernel
theorem j9:bootBuiltins "bool"=some (.type "bool"):=by decide+kernel
theorem YV:bootBuiltins "dict"=some (.type "dict"):=by decide+kernel
theorem cx_K{scope:Scope}{cd:Value}{E:XK}:(JF CX P w K mg base N qual scope f cd A outer s H E).K=K:=rfl
theorem cx_calm{scope:Scope}{cd:Value}{E:XK}:(JF CX P w K mg base N qual scope f cd A outer s H E).calm=true:=rfl
theorem bk_calm{xs:List Str}{scope:Scope}{C:Addr}{s₀:Shared}{H₀:Hp}:(yD X xs ys scope C s₀ H₀ fp).calm=X.calm:=rfl
theorem lenV_str{y:Str}:lh K (.str y) H n↔(y.length<=sizeLine/\n=y.length):=Iff.rfl
theorem bk_K{xs:List Str}{scope:Scope}{C:Addr}{s₀:Shared}{H₀:Hp}:(yD X xs ys scope C s₀ H₀ fp).K=X.K:=rfl
theorem vp{ns:List Int}{k:Nat}(h:(k:Int)<ns.length):pU (ns.map V.int) (k:Int)=some (.int<|ns.getD k 0):=by
 calc zN ?_;let h':k<ns.length:=by lia
 rw[aJ,aA h',bW,aA h'];rfl
theorem LK{J:It}{g:TG}{Q:VK}(Pv:Nat->List V->St->Hp->Prop)(h0:Pv 0 [] (XY ns js σ) H)(hn:n<=sizeLine)(hl:∀i ys σ H,Pv i ys σ H->ys.length<=i)
 (hgo:∀i ys σ H,i<n->Pv i ys σ H->J.go i H) (hst:∀ys σ H,Pv n ys σ H->J.stop n H)
 (hs:∀i ys σ H x H' (C:V->St->Hp->Prop),i<n->Pv i ys σ H->J.yld i H x H'->(∀y σ2 H3,Pv (i+1) (ys++[y]) σ2 H3->C y σ2 H3)->g x σ H' λσ2 H2=>te σ2 H2 λy H3=>C y σ2 H3)
 (hd:∀ys σ H,Pv n ys σ H->∀p,H p=none->Q (.ref p) (upd H p<|.lst ys)):
 PN J ns js g none te σ H Q:=by
 calc#[λi m ys σ H=>i+m=n/\Pv i ys σ H,#[n,(),h0],λi m ys σ H z=>?_];let⟨e,w⟩:=z;by_cases hi:i<n
 ·calc .inr #[hgo i ys σ H hi w,fN (hl _ _ _ _ w) (),λx H' hy=>?_];exact hs i ys σ H x H' (λy σ2 H3=>∃a,a<m/\i+1+a=n/\Pv (i+1) (ys++[y]) σ2 H3) hi w hy λy σ2 H3 q=>#[m-1,(),(),q]
 ·have :i=n:=by lia
  subst this;exact .inl #[hst ys σ H w,hd ys σ H w]
theorem XX{lo:Int}{g:TG}{Q:VK}(Pv:Nat->List V->St->Hp->Prop)(h0:Pv 0 [] (XY ns js σ) H)(hz:n<=sizeLine)(hl:∀i ys σ H,Pv i ys σ H->ys.length<=i)
 (hs:∀(i:Nat) ys σ H (C:V->St->Hp->Prop),i<n->Pv i ys σ H->(∀y σ2 H3,Pv (i+1) (ys++[y]) σ2 H3->C y σ2 H3)->g (.int<|lo+i) σ H λσ2 H2=>te σ2 H2 λy H3=>C y σ2 H3)
 (hd:∀ys σ H,Pv n ys σ H->∀p,H p=none->Q (.ref p) (upd H p<|.lst ys)):
 PN (du lo n) ns js g none te σ H Q:=
 LK (n:=n) Pv h0 hz hl (λ_ _ _ _ h _=>h) (λ_ _ _ _=>aG _) (λi ys σ H x H' C hi w z a=>by let⟨e,hx⟩:=z;subst e;subst hx;calc hs i ys σ _ C hi w a) hd
theorem VH{g:TG}{Q:VK}(Pv:Nat->List V->St->Hp->Prop)(h0:Pv 0 [] (XY ns js σ) H)(hz:xs.length<=sizeLine)(hl:∀i ys σ H,Pv i ys σ H->ys.length<=i)
 (hK:∀i ys σ H,Pv i ys σ H->dH K H a xs)
 (hs:∀(i:Nat) x ys σ H (C:V->St->Hp->Prop),xs[i]?=some x->Pv i ys σ H->(∀y σ2 H3,Pv (i+1) (ys++[y]) σ2 H3->C y σ2 H3)->g x σ H λσ2 H2=>te σ2 H2 λy H3=>C y σ2 H3)
 (hd:∀ys σ H,Pv xs.length ys σ H->∀p,H p=none->Q (.ref p) (upd H p<|.lst ys)):
 PN (pz K a) ns js g none te σ H Q:=
 LK (n:=xs.length) Pv h0 hz hl (λi ys σ H hi w=>#[xs,xs[i],hK i ys σ H w,aA hi]) (λys σ H w=>#[xs,hK _ ys σ H w,aG _])
  (λi ys σ H x H' C hi w z b=>by let⟨e,hx⟩:=z;subst e;calc hs i x ys σ _ C (hx xs<|hK i ys σ _ w) w b) hd
theorem yT{g:TG}{Q:VK}(Pv:Nat->List V->St->Hp->Prop)(h0:Pv 0 [] (XY ns js σ) H)(hz:xs.length<=sizeLine)(hl:∀i ys σ H,Pv i ys σ H->ys.length<=i)
 (hK:∀i ys σ H,Pv i ys σ H->cX K H a xs)
 (hs:∀(i:Nat) x ys σ H (C:V->St->Hp->Prop),xs[i]?=some x->Pv i ys σ H->(∀y σ2 H3,Pv (i+1) (ys++[y]) σ2 H3->C y σ2 H3)->g x σ H λσ2 H2=>te σ2 H2 λy H3=>C y σ2 H3)
 (hd:∀ys σ H,Pv xs.length ys σ H->∀p,H p=none->Q (.ref p) (upd H p<|.lst ys)):
 PN (cw K a) ns js g none te σ H Q:=
 LK (n:=xs.length) Pv h0 hz hl (λi ys σ H hi w=>#[xs,xs[i],hK i ys σ H w,aA hi]) (λys σ H w=>#[xs,hK _ ys σ H w,aG _])
  (λi ys σ H x H' C hi w z b=>by let⟨e,hx⟩:=z;subst e;calc hs i x ys σ _ C (hx xs<|hK i ys σ _ w) w b) hd
def JW(J:It)(g:TG)(tb:TS)(D:tU)(σ:St)(H:Hp):Prop:=∃W:Nat->Nat->St->Hp->Prop,(∃m,W 0 m σ H)/\∀i m σ H,W i m σ H->
 (J.stop i H/\D.nx σ H)\/(J.go i H/\∃N:St->Hp->Prop,(∀σ' H',N σ' H'->∃m',m'<m/\W (i+1) m' σ' H')/\∀x H',J.yld i H x H'->g x σ H' λσ2 H2=>tb {D with nx:=N,ct:=N,bk:=D.nx} σ2 H2)
theorem tFor_eq{wi:TI}{g:TG}:tFor wi g tb D σ H=wi σ H λJ H1=>JW J g tb D σ H1:=rfl
theorem tLC_eq{n:List Str}{wi:TI}{g:TG}{tc:Option TT}{Q:VK}:tLC n js wi g tc te σ H Q=wi σ H λJ H1=>PN J n js g tc te σ H1 Q:=rfl
theorem YU{g:TG}(Pv:Nat->St->Hp->Prop)(h0:Pv 0 σ H)(hl:∀i σ H,i<=xs.length->Pv i σ H->cX K H a xs)
 (hs:∀i x σ H,xs[i]?=some x->Pv i σ H->g x σ H λσ2 H2=>tb {D with nx:=Pv (i+1),ct:=Pv (i+1),bk:=D.nx} σ2 H2) (hd:∀σ H,Pv xs.length σ H->D.nx σ H):JW (cw K a) g tb D σ H:=DM Pv h0 hl hs hd
theorem bf{g:TG}(Pv:Nat->St->Hp->Prop)(h0:Pv 0 σ H)(hl:∀i σ H,i<=xs.length->Pv i σ H->dH K H a xs)
 (hs:∀i x σ H,xs[i]?=some x->Pv i σ H->g x σ H λσ2 H2=>tb {D with nx:=Pv (i+1),ct:=Pv (i+1),bk:=D.nx} σ2 H2) (hd:∀σ H,Pv xs.length σ H->D.nx σ H):JW (pz K a) g tb D σ H:=LY Pv h0 hl hs hd
theorem bh{lo:Int}{g:TG}(Pv:Nat->St->Hp->Prop)(h0:Pv 0 σ H)
 (hs:∀i σ H,i<n->Pv i σ H->g (.int<|lo+i) σ H λσ2 H2=>tb {D with nx:=Pv (i+1),ct:=Pv (i+1),bk:=D.nx} σ2 H2) (hd:∀σ H,Pv n σ H->D.nx σ H):JW (du lo n) g tb D σ H:=QQ Pv h0 hs hd
theorem xH{g:TG}(Pv:Nat->St->Hp->Prop)(h0:Pv 0 σ H)(hl:∀i σ H,i<=xs.length->Pv i σ H->cX K H a xs)
 (hs:∀i x σ H,xs[i]?=some x->Pv i σ H->∀N:St->Hp->Prop,(∀σ H,Pv (i+1) σ H->N σ H)->g x σ H λσ2 H2=>tb {D with nx:=N,ct:=N,bk:=D.nx} σ2 H2) (hd:∀σ H,Pv xs.length σ H->D.nx σ H):JW (cw K a) g tb D σ H:=DM Pv h0 hl (λi x σ H a b=>hs i x σ H a b _ λ_ _ z=>z) hd
theorem wb{g:TG}(Pv:Nat->St->Hp->Prop)(h0:Pv 0 σ H)(hl:∀i σ H,i<=xs.length->Pv i σ H->dH K H a xs)
 (hs:∀i x σ H,xs[i]?=some x->Pv i σ H->∀N:St->Hp->Prop,(∀σ H,Pv (i+1) σ H->N σ H)->g x σ H λσ2 H2=>tb {D with nx:=N,ct:=N,bk:=D.nx} σ2 H2) (hd:∀σ H,Pv xs.length σ H->D.nx σ H):JW (pz K a) g tb D σ H:=LY Pv h0 hl (λi x σ H a b=>hs i x σ H a b _ λ_ _ z=>z) hd
theorem qY{lo:Int}{g:TG}(Pv:Nat->St->Hp->Prop)(h0:Pv 0 σ H)
 (hs:∀i σ H,i<n->Pv i σ H->∀N:St->Hp->Prop,(∀σ H,Pv (i+1) σ H->N σ H)->g (.int<|lo+i) σ H λσ2 H2=>tb {D with nx:=N,ct:=N,bk:=D.nx} σ2 H2) (hd:∀σ H,Pv n σ H->D.nx σ H):JW (du lo n) g tb D σ H:=QQ Pv h0 (λi σ H a b=>hs i σ H a b _ λ_ _ z=>z) hd
theorem qg{c:TT}(W:Nat->St->Hp->Prop)(h0:∃m,W m σ H)(hs:∀m σ H,W m σ H->∀B:Hp->Prop,(∀H1 (N:St->Hp->Prop),(∀σ' H',N σ' H'->∃m',m'<m/\W m' σ' H')->(∀M:St->Hp->Prop,(∀σ H,N σ H->M σ H)->tb {D with nx:=M,ct:=M,bk:=D.nx} σ H1)->B H1)->c σ H λb H1=>if b=true then B H1 else D.nx σ H1):FG c tb D σ H:=
 #[W,h0,λm σ H h=>hs m σ H h _ λ_ N a ht=>#[N,a,ht N λ_ _ z=>z]]
theorem gF.okz{x:Str}{st:Stmt}{ps:List Str}{k:Nat}(F:gF K x qual st f fd)(S:bT N ps (zF st))
 (hbody:∀(eZ:Value)(A:Around)(outer:List Env)(s:Shared)(H:Hp)(vs:List V)(Q:VK)(E:XK),gE k (A.deeper<|envOfC qual (zF st) s.heap.objs.size f eZ)->sp vs H Q E->
  ∃t,EU (JF fU P w K mg base N qual (zF st) f eZ A outer s H E).nox (yV st) t/\t {nx:=λ_ H'=>Q .non H',rt:=Q} (uU N vs) H)
 (len:∀vs H Q E,sp vs H Q E->vs.length=ps.length:=by intro vs H Q E h;first |(cases h;calc dE List.length ‹vs=_›) |(repeat first |(let⟨rfl,_⟩:=h;rfl) |(let⟨_,h⟩:=h))):dC P w K mg base fU (k+1) f fd ps sp:=F.ok S len hbody
theorem gE.m{k:Nat}(r:gE k A)(h:j<=k:=by lia):gE j A:=r.mono h
theorem yW(i:Nat){x:Str}{pos:Pos}(hN:X.N.Nodup)(he:PE X e te)(hi:autoParam (X.N[i]?=some x) a1._auto_1)(hx:Loc X.env.scope x:=by calc Or.inl rfl)(hs:autoParam (swapsWith e (some<|.Name x pos') pos.line X.env=pure false) a1._auto_1)(hf:X.fn x=true\/X.env.scope.names.lookup x=some .local:=by first |exact .inl rfl |exact .inr rfl |assumption):PS X (.Assign [.Name x pos'] e pos) (et te<|vL i):=uY hN hi hx he hs hf
theorem zZ(i:Nat){x:Str}{pos:Pos}(hN:X.N.Nodup)(hi:autoParam (X.N[i]?=some x) a1._auto_1)(hx:Loc X.env.scope x:=by calc Or.inl rfl)(hf:X.fn x=true\/X.env.scope.names.lookup x=some .local:=by first |exact .inl rfl |exact .inr rfl |assumption):PG X (.Name x pos) (vL i):=kE hN hi hx hf
theorem zL{a b:Expr}{tb:TE}{pos:Pos}{r:R2}(hr:xx X r)(ha:PE X a ta)(hb:PE X b tb)(hs:MQ b:=by calc λ_ _=>rfl):PE X (.Subscript a b pos) (tOp r ta tb):=pe_ix hr ha hb hs
theorem zD{t u:TS}(h:∀N:St->Hp->Prop,(∀σ H,u D σ H->N σ H)->t {D with nx:=N} σ H):RI t u D σ H:=h (u D) λ_ _ z=>z
theorem zM{t u:TS}(J:St->Hp->Prop)(h1:∀N:St->Hp->Prop,(∀σ H,J σ H->N σ H)->t {D with nx:=N} σ H)(h2:∀σ H,J σ H->u D σ H):RI t u D σ H:=h1 (u D) h2
structure Bi(mg:Str->Option Value):Prop where
 len:mg "len"=none
 range:mg "range"=none
 isinstance:mg "isinstance"=none
 max:mg "max"=none
 sum:mg "sum"=none
 all:mg "all"=none
 tuple:mg "tuple"=none
 list:mg "list"=none
 sorted:mg "sorted"=none
 set:mg "set"=none
 int:mg "int"=none
 bool:mg "bool"=none
 str:mg "str"=none
 dict:mg "dict"=none
theorem ZJ{k:Nat}{x:Str}{ps:List Str}{st:Stmt}(F:gF K x x st f fd)(ok:dC P w K mg base fU k f fd ps sp)(b:Binds K fd ps [])
 (m:mg x=some (.ref f)):fZ P w K mg base k x ps sp:=#[f,fd,ok,b,F.kp,m]
inductive Dt where
 |non |bl (b:Bool) |int (i:Int) |str (x:Str) |tup (ds:List Dt) |lst (ds:List Dt)
mutual
def eE(H:Hp):Dt->V->Prop
 | .non,v=>v=.non
 | .bl b,v=>v=.bl b
 | .int i,v=>v=.int i
 | .str x,v=>v=.str x
 | .tup ds,v=>∃a vs,v=.ref a/\H a=some (.tup vs)/\bN H ds vs
 | .lst ds,v=>∃a vs,v=.ref a/\H a=some (.lst vs)/\bN H ds vs
def bN(H:Hp):List Dt->List V->Prop
 |[],vs=>vs=[]
 |d::ds,vs=>∃v r,vs=v::r/\eE H d v/\bN H ds r
end
mutual
theorem eE.same{H H':Hp}(e:aW H H'):∀{d:Dt}{v:V},eE H d v->eE H' d v
 | .non,_,h=>h
 | .bl _,_,h=>h
 | .int _,_,h=>h
 | .str _,_,h=>h
 | .tup ds,v,h=>by
   let⟨a,vs,b,c,f⟩:=h;exact#[a,vs,b,e _ _ c,bN.same e f]
 | .lst ds,v,h=>by
   let⟨a,vs,b,c,f⟩:=h;exact#[a,vs,b,e _ _ c,bN.same e f]
theorem bN.same{H H':Hp}(e:aW H H'):∀{ds:List Dt}{vs:List V},bN H ds vs->bN H' ds vs
 |[],_,h=>h
 |d::ds,vs,h=>by
  let⟨v,r,a,b,c⟩:=h;exact#[v,r,a,eE.same e b,bN.same e c]
end
theorem bN.length{H:Hp}:∀{ds:List Dt}{vs:List V},bN H ds vs->vs.length=ds.length
 |[],vs,h=>by
  let h:vs=[]:=h;rw[h];rfl
 |d::ds,vs,h=>by
  let⟨v,r,a,c,b⟩:=h;rw[a,bJ,bJ,bN.length b]
theorem bN.get{H:Hp}:∀{ds:List Dt}{vs:List V}{i:Nat}{d:Dt},bN H ds vs->ds[i]?=some d->∃v,vs[i]?=some v/\eE H d v
 |[],vs,i,d,_,e=>by simp at e
 |d::ds,vs,0,f,h,e=>by
  let⟨v,r,a,b,c⟩:=h;simp at e;subst e;subst a;exact#[v,rfl,b]
 |d::ds,vs,i+1,f,h,e=>by
  let⟨v,r,a,b,c⟩:=h;subst a;simp at e;let⟨u,h1,h2⟩:=bN.get c e;exact#[u,by simpa using h1,h2]
theorem bN.append{H:Hp}:∀{ds es:List Dt}{vs us:List V},bN H ds vs->bN H es us->bN H (ds++es) (vs++us)
 |[],es,vs,us,h,h'=>by
  let h:vs=[]:=h;subst h;exact h'
 |d::ds,es,vs,us,h,h'=>by
  let⟨v,r,a,b,c⟩:=h;subst a;exact#[v,r++us,rfl,b,bN.append c h']
theorem bN.one{d:Dt}(h:eE H d v):bN H [d] [v]:=#[v,[],rfl,h,rfl]
def kX:Nat->Dt->Prop
 |n+1,.tup ds=>ds.length<=1000/\∀d∈ds,kX n d
 |n+1,.lst ds=>ds.length<=1000/\∀d∈ds,kX n d
 |0,.tup _=>False
 |0,.lst _=>False
 |_,_=>True
inductive Tm where
 |name (x:Str)
 |node (w:Str) (ts:List Tm)
mutual
noncomputable def FE:Tm->Dt
 | .name x=>.tup [.str "name",.str x]
 | .node w ts=>.tup (.str w::eg ts)
noncomputable def eg:List Tm->List Dt
 |[]=>[]
 |t::ts=>FE t::eg ts
end
theorem YX:∀ts:List Tm,eg ts=ts.map FE
 |[]=>rfl
 |t::ts=>by rw[eg,YX ts,cI]
theorem AO(w:Str)(ts:List Tm):FE (.node w ts)=.tup (.str w::ts.map FE):=by rw[FE,YX]
abbrev gQ(H:Hp)(t:Tm)(v:V):Prop:=eE H (FE t) v
abbrev eI(H:Hp)(ts:List Tm)(vs:List V):Prop:=bN H (ts.map FE) vs
theorem gQ.name{x:Str}(h:gQ H (.name x) v):∃a,v=.ref a/\H a=some (.tup [.str "name",.str x]):=by
 let⟨a,vs,e,f,u,r,g,b,i⟩:=h;let⟨j,k,l,c,d⟩:=i;let b:u=.str "name":=b;let c:j=.str x:=c;let d:k=[]:=d;subst g;subst b;subst l;subst c;subst d;exact#[a,e,f]
theorem gQ.mkName{x:Str}(h:H a=some (.tup [.str "name",.str x])):gQ H (.name x) (.ref a):=
 #[a,_,rfl,h,_,_,rfl,rfl,_,_,rfl,rfl,rfl]
theorem gQ.node{w:Str}(h:gQ H (.node w ts) v):∃a vs,v=.ref a/\H a=some (.tup (.str w::vs))/\eI H ts vs:=by
 unfold gQ at h;rw[AO]at h;let⟨a,vs,c,d,u,r,e,b,f⟩:=h;let b:u=.str w:=b;subst e;subst b;exact#[a,r,c,d,f]
theorem gQ.mkNode{w:Str}(h:H a=some (.tup (.str w::vs)))(hs:eI H ts vs):gQ H (.node w ts) (.ref a):=by
 unfold gQ;rw[AO];exact#[a,_,rfl,h,_,_,rfl,rfl,hs]
def Wrd(w:Str):Prop:=w="none"\/w="all"\/w="not"\/w="both"\/w="either"
theorem Wrd.ne{w:Str}(h:Wrd w):w≠"name":=by
 rcases h with rfl |rfl |rfl |rfl |rfl<;>decide+kernel
def Sh(w:Str)(n:Nat):Prop:=(w="none"/\n=0)\/(w="all"/\n=0)\/(w="not"/\n=1)\/(w="both"/\2<=n)\/(w="either"/\2<=n)
theorem Sh.wrd{w:Str}(h:Sh w n):Wrd w:=by
 rcases h with h |h |h |h |h
 ·exact .inl h.1
 ·exact .inr<|.inl h.1
 ·exact .inr<|.inr<|.inl h.1
 ·exact .inr<|.inr<|.inr<|.inl h.1
 ·exact .inr<|.inr<|.inr<|.inr h.1
structure Nm(x:Str):Prop where
 pos:1<=x.length
 most:x.length<=8
 low:∀c∈x.cps.toList,97<=c/\c<=122
 nn:x≠"none"
 na:x≠"all"
def iJ:Nat->Tm->Prop
 |_,.name x=>Nm x
 |0,.node w ts=>Sh w ts.length/\ts=[]
 |n+1,.node w ts=>Sh w ts.length/\∀t∈ts,iJ n t
theorem iJ.up:∀{n:Nat}{t:Tm},iJ n t->iJ (n+1) t
 |n,.name _,h=>by unfold iJ at h⊢;exact h
 |0,.node w ts,h=>by
  unfold iJ at h;let⟨h1,h2⟩:=h;subst h2;exact#[h1,λ_ z=>nomatch z]
 |n+1,.node w ts,h=>by
  unfold iJ at h⊢;exact#[h.1,λt ht=>iJ.up<|h.2 t ht]
theorem iJ.mono{m:Nat}{t:Tm}(h:iJ n t)(hm:n<=m):iJ m t:=by
 let⟨k,rfl⟩:=Nat.le.dest hm
 induction k with
 |zero=>exact h
 |succ k a=>exact iJ.up<|a ()
theorem iJ.sh{w:Str}(h:iJ n (.node w ts)):Sh w ts.length:=by
 cases n with
 |zero=>exact h.1
 |succ n=>exact h.1
theorem iJ.wrd{w:Str}(h:iJ n (.node w ts)):Wrd w:=h.sh.wrd
theorem iJ.part{w:Str}{t:Tm}(h:iJ (n+1) (.node w ts))(ht:t∈ts):iJ n t:=h.2 t ht
mutual
noncomputable def wt:Tm->Nat
 | .name _=>1
 | .node _ ts=>1+oM ts
noncomputable def oM:List Tm->Nat
 |[]=>0
 |t::ts=>wt t+oM ts
end
theorem EX:∀t:Tm,1<=wt t
 | .name _=>by rw[wt];lia
 | .node _ _=>by rw[wt];lia
theorem UB:∀ts:List Tm,ts.length<=oM ts
 |[]=>by simp
 |t::ts=>by
  have :=UB ts;have :=EX t;rw[oM,bJ];lia
theorem YF:∀{ts:List Tm}{t:Tm},t∈ts->wt t<=oM ts
 |u::ts,t,h=>by
  rw[oM];rcases bG.mp h with h |h
  ·subst h;lia
  ·have :=YF h;lia
theorem uC:∀ts us:List Tm,oM (ts++us)=oM ts+oM us
 |[],us=>by simp[oM]
 |t::ts,us=>by rw[List.cons_append,oM,oM,uC ts us];lia
theorem zB{p:Addr}(h:H p=none)(o:HO):aW H (upd H p o):=λb u q=>by rw[zE<|yR q h];exact q
theorem YO(p q:Str):(p++q).length=p.length+q.length:=by
 show(p.cps++q.cps).size=p.cps.size+q.cps.size;rw[Array.size_append]
theorem VW(p q:Str):(p++q).cps.toList=p.cps.toList++q.cps.toList:=by
 show(p.cps++q.cps).toList=_;rw[cL]
theorem small(h:n<=1000):n<=sizeLine:=rX<|vU h
theorem eI.one{t:Tm}(h:gQ H t v):eI H [t] [v]:=bN.one h
theorem eI.append{us:List Tm}{ws:List V}(h:eI H ts vs)(h':eI H us ws):eI H (ts++us) (vs++ws):=by
 unfold eI;rw[aT];exact bN.append h h'
theorem eI.length(h:eI H ts vs):vs.length=ts.length:=by
 have :=bN.length h;rw[aD]at this;exact this
theorem eI.get{t:Tm}(h:eI H ts vs)(ht:ts[i]?=some t):∃v,vs[i]?=some v/\gQ H t v:=
 bN.get (d:=FE t) h (by rw[aJ,ht];rfl)
theorem eI.getV(h:eI H ts vs)(hv:vs[i]?=some v):∃t,ts[i]?=some t/\gQ H t v:=by
 let hi:i<ts.length:=by rw[←h.length];exact(aC.mp hv).1
 let⟨u,h1,h2⟩:=h.get<|aA hi;rw[hv]at h1;cases h1;exact#[_,aA hi,h2]
def dB(H H':Hp):Prop:=∀b xs,H b=some (.tup xs)->H' b=some (.tup xs)
theorem dB.refl(H:Hp):dB H H:=λ_ _ h=>h
theorem dB.trans{H1 H2:Hp}(a:dB H H1)(b:dB H1 H2):dB H H2:=λc o h=>b c o<|a c o h
theorem aW.tups(e:aW H H'):dB H H':=λb xs h=>e b _ h
theorem dB.upd_lst{o:HO}(e:dB H H')(h:H' a=some (.lst xs)):dB H (upd H' a o):=λb ys hb=>by
 rw[zE<|jI (e _ _ hb) h (by intro z;cases z)];exact e _ _ hb
theorem aW.upd{H1:Hp}{o:HO}(e:aW H H1)(h:H a=none):aW H (upd H1 a o):=λb u hb=>by
 rw[zE<|yR hb h];exact e _ _ hb
mutual
theorem gQ.tups{H H':Hp}(e:dB H H'):∀{t:Tm}{v:V},gQ H t v->gQ H' t v
 | .name x,v,h=>by
   let⟨a,b,h2⟩:=gQ.name h;subst b;exact gQ.mkName<|e _ _ h2
 | .node w ts,v,h=>by
   let⟨a,vs,b,h2,hs⟩:=gQ.node h;subst b;exact gQ.mkNode (e _ _ h2)<|eI.tups e hs
theorem eI.tups{H H':Hp}(e:dB H H'):∀{ts:List Tm}{vs:List V},eI H ts vs->eI H' ts vs
 |[],vs,h=>h
 |t::ts,vs,h=>by
  let⟨v,r,a,b,c⟩:=h;exact#[v,r,a,gQ.tups e b,eI.tups e c]
end
theorem cx_w{scope:Scope}{cd:Value}{E:XK}:(JF CX P w K mg base N qual scope f cd A outer s H E).w=w:=rfl
theorem bk_w{xs:List Str}{scope:Scope}{C:Addr}{s₀:Shared}{H₀:Hp}:(yD X xs ys scope C s₀ H₀ fp).w=X.w:=rfl
theorem am:W.kitOne K (.type T) (.type T)=some true:=by
 unfold W.kitOne;rw[aL (by simp)]
noncomputable def kitF(S T:String):Bool:=!(Value.type S==Value.type T)&&W.kitMeta T&&((PySem.fastBuiltinMro S).map (·.contains (.type T))==some false)
theorem oe{S:String}(h:kitF S T=true):W.kitOne K (.type S) (.type T)=some false:=by
 unfold kitF at h;simp only[cD,IM,cP]at h;unfold W.kitOne;rw[aI (by rw[h.1.1];decide)];show(if W.kitMeta T=true then W.subIn K (.type S) (.type T)else none)=_;rw[aL h.1.2];exact h.2
theorem vd:W.kitOne K (.type "tuple") (.type "int")=some false:=oe (by decide+kernel)
theorem vf:W.kitOne K (.type "int") (.type "bool")=some false:=oe (by decide+kernel)
theorem SI{P:Program}{w:World}{K:W.Frag}{mg:Str->Option Value}{base:Heap}{x:Str}{ps:List Str}{st:Stmt}{f:Addr}{fd:FuncData}{sp:Nat->Sp}(F:gF K x x st f fd)(b:Binds K fd ps [])(m:mg x=some (.ref f))
 (h0:∀vs H Q E,¬sp 0 vs H Q E) (step:∀n,fZ P w K mg base n x ps (sp n)->dC P w K mg base fU (n+1) f fd ps (sp<|n+1)):∀n,dC P w K mg base fU n f fd ps<|sp n
 |0=>#[λvs H Q E h=>(h0 vs H Q E h).elim,λA outer s H args us vs Q E _ _ _ _ h=>(h0 vs H Q E h).elim]
 |n+1=>step n<|ZJ F (SI F b m h0 step n) b m
theorem kO(x:V)(xs:List V):qI (x::xs) (some 1) none=xs:=by
 unfold qI;let e:HT.sIx (x::xs).length 0 (some ((1:Nat):Int))=1:=by rw[HT.sIx_nat,bJ];lia
 let e:HT.sIx (x::xs).length 0 (some 1)=1:=e;rw[e,HT.sIx_none,List.drop_one,List.tail_cons,aQ (by rw[bJ];lia)]
theorem uT(x:V)(xs:List V):¬(HT.sIx (x::xs).length 0 (some 1)=0/\HT.sIx (x::xs).length (x::xs).length none=(x::xs).length):=by
 let e:HT.sIx (x::xs).length 0 (some ((1:Nat):Int))=1:=by rw[HT.sIx_nat,bJ];lia
 let e:HT.sIx (x::xs).length 0 (some 1)=1:=e;rw[e];lia
theorem aW.tup{K:W.Frag}{H H':Hp}{a:Addr}{xs:List V}(e:aW H H')(h:dH K H a xs):dH K H' a xs:=by
 rcases h with(h |⟨o,h⟩) |h
 ·exact .inl<|.inl<|e _ _ h
 ·exact .inl<|.inr #[o,e _ _ h]
 ·exact .inr h
theorem lN{x:α}{xs:List α}:pU (x::xs) 0=some x:=zN (j:=0) (xs:=x::xs) rfl
theorem pV{x y:α}{xs:List α}:pU (x::y::xs) 1=some y:=zN (j:=1) (xs:=x::y::xs) rfl
noncomputable def OQ(p:Tm×Tm):Dt:=.tup [FE p.1,FE p.2]
noncomputable def DP(r:List (Tm×Tm)×(Tm×Tm)):Dt:=.tup [.lst<|r.1.map OQ,OQ r.2]
abbrev pX(H:Hp)(p:Tm×Tm)(v:V):Prop:=eE H (OQ p) v
abbrev tR(H:Hp)(ps:List (Tm×Tm))(vs:List V):Prop:=bN H (ps.map OQ) vs
abbrev MP(H:Hp)(r:List (Tm×Tm)×(Tm×Tm))(v:V):Prop:=eE H (DP r) v
theorem pX.out{p:Tm×Tm}(h:pX H p v):∃a v1 v2,v=.ref a/\H a=some (.tup [v1,v2])/\gQ H p.1 v1/\gQ H p.2 v2:=by
 let⟨a,vs,c,d,u,r,e,h1,f,g,i,h2,b⟩:=h;let b:g=[]:=b;subst b;subst i;subst e;exact#[a,u,f,c,d,h1,h2]
theorem MP.out{r:List (Tm×Tm)×(Tm×Tm)}(h:MP H r v):∃a l s vs,v=.ref a/\H a=some (.tup [.ref l,s])/\H l=some (.lst vs)/\tR H r.1 vs/\pX H r.2 s:=by
 let⟨a,vs,c,d,u,q,e,⟨l,ws,f,g,h1⟩,i,j,k,h2,b⟩:=h;let b:j=[]:=b;subst b;subst k;subst e;subst f;exact#[a,l,i,ws,c,d,g,h1,h2]
theorem tR.length{ps:List (Tm×Tm)}(h:tR H ps vs):vs.length=ps.length:=by
 have :=bN.length h;rw[aD]at this;exact this
theorem tR.getV{ps:List (Tm×Tm)}(h:tR H ps vs)(hv:vs[i]?=some v):∃p,ps[i]?=some p/\pX H p v:=by
 let hi:i<ps.length:=by rw[←h.length];exact(aC.mp hv).1
 let⟨u,h1,h2⟩:=bN.get (d:=OQ ps[i]) h (by rw[aJ,aA hi];rfl);rw[hv]at h1;cases h1;exact#[_,aA hi,h2]
section
variable (K:W.Frag)
theorem qD(h:autoParam (X.K=K) a1._auto_1):xx X (rIxL K):=by subst h;exact zQ
theorem yQ(h:autoParam (X.K=K) a1._auto_1):xx X (uh K):=by subst h;exact xP
theorem QU(h:autoParam (X.K=K) a1._auto_1):jL X (.builtin "len") (λxs H Q=>pW xs λx=>∃n,lh K x H n/\Q (.int n) H):=by subst h;exact kP
theorem JT(h:autoParam (X.K=K) a1._auto_1):jL X (.type "list") (λxs H Q=>pW xs λx=>mJ x λp=>∃ys,(cX K H p ys\/dH K H p ys)/\∀l,H l=none->Q (.ref l) (upd H l<|.lst ys)):=by subst h;exact uL
end
section
open PySem.Builtin PySem.Builtin.Str PySem.StrLaws
end
section
open PySem.Builtin PySem.Builtin.Str
structure mK(P:Program)(w:World)(K:W.Frag)(mg:Str->Option Value)(base:Heap)(k:Nat)(C:Addr)(m:Str)(ps:List Str)(sp:Sp):Prop where
 ex:∃f fd,dC P w K mg base fU k f fd ps sp/\Binds K fd ps []/\OY K C m f
structure cz(P:Program)(w:World)(K:W.Frag)(mg:Str->Option Value)(base:Heap)(k:Nat)(C:Addr)(x:Str)(ps:List Str)(sp:Sp):Prop where
 ex:∃f fd,dC P w K mg base fU k f fd ps sp/\Binds K fd ps []/\Mk K C f/\mg x=some (.ref C)
section
variable {k:Nat} {C:Addr} {x m:Str} {ps:List Str} {pos:Pos} {t:TA}
theorem xM{pl:Sem Bool}(h:mK X.prog X.w X.K X.mg X.base k C m ps sp)(c:MT X.K C)(hr:gE k X.A)(he:PE X o ta)(ha:PA X (e::es) t)
 (hst:autoParam (starEach (e::es) X.env=(false,eval e X.env)::starEach es X.env) a1._auto_1) (hpl:autoParam ((backTo pos<|starEach es X.env).any (·.1)=false) a1._auto_1)
 (ht:autoParam (eval (.Call (.Attribute o m mF) (e::es) [] pos) X.env=(do
  let ov ←eval o X.env
  standAt mF.atName
  let (f,first) ←holding [ov] (getMethod ov m pl)
  callWith pos f first (backTo pos<|starEach (e::es) X.env) (backToKw pos<|keywordEach [] X.env))) a1._auto_1):
 PE X (.Call (.Attribute o m mF) (e::es) [] pos) (yJ C m sp [] E0 ta t):=by
 let⟨f,fd,F,b,a⟩:=h.ex;exact gy (pl:=pl) he c a F hr b .nil KS ha hst hpl ht
theorem BK(h:cz X.prog X.w X.K X.mg X.base k C x ps sp)(hr:gE (k+1) X.A)(hg:Gl X x)(ha:PA X (e::es) t)(hdb:autoParam ((x==("__debug__":Str))=false) a2._auto_1)
 (he:autoParam (starEach (e::es) X.env=(false,eval e X.env)::starEach es X.env) a1._auto_1) (hpl:autoParam ((backTo pos<|starEach es X.env).any (·.1)=false) a1._auto_1):
 PE X (.Call (.Name x p) (e::es) [] pos) (IT C sp [] E0 t):=by
 let⟨f,fd,F,b,M,m⟩:=h.ex;exact ic M F hr hg m b .nil KS ha hdb he hpl
end
def hW(r:Addr)(H H':Hp):Prop:=∀b o,H b=some o->b≠r->H' b=some o
theorem hW.refl(r:Addr)(H:Hp):hW r H H:=λ_ _ h _=>h
theorem aW.x{r:Addr}(a:aW H H'):hW r H H':=λc o h _=>a c o h
theorem hW.upd{r:Addr}{H1:Hp}{o:HO}(a:hW r H H1):hW r H (L2.upd H1 r o):=λc o' h n=>by
 rw[zE n];exact a c o' h n
theorem F.lk_list_keys:typeLookup (.type "list") "keys"=pure none:=by rw[typeLookup_type,dy];kernel_rfl
theorem F.lk_list_ga:typeLookup (.type "list") "__getattr__"=pure none:=by rw[typeLookup_type,dy];kernel_rfl
theorem F.sub_ae:isSubtype (.type "AttributeError") (.type "AttributeError")=pure true:=by rw[isSubtype_type];kernel_rfl
def lp(h h':Heap)(e:Addr):Prop:=(∀b u,h.get? b=some u->h'.get? b=some u)/\∃o,h'.get? e=some o/\o.cls=.type "AttributeError"
section
variable {its:Array Value} {sl:Array (Option Value)}
theorem NN{o:Value}{name msg:Str}{Q:α->Shared->Prop}(hA:A.handled=none)(hm:msg.length<=sizeLine)
 (hq:∀h' t' e,lp s.heap h' e->E (.ref e) {s with heap:=h',toks:=t'}):wpAny (model prog w) A (raiseAttrError o name msg:Sem α) Q E s:=by
 unfold raiseAttrError;calc aF<|wpAny_mkStr (aF ?_) hm;unfold newExc newTuple;calc aF (eY ?_ (by size_fits));refine aF (m:=firstArgMember _ _) (wpAny_of_eq (a:=Value.none) (by
  simp only[firstArgMember];rw[show((Manifest.find? "AttributeError").elim false λt=>t.mro.contains "StopIteration" ||t.mro.contains "SystemExit")=false by decide+kernel];rfl) ?_)
 calc eY ?_ (by size_fits);calc aF<|wpAny_mkText ?_;calc aF ?_;let⟨h,g,d,t,os⟩:=s;dsimp only at hq⊢;let c:∀b u,h.get? b=some u->(h.push {cls:=Value.type "tuple",data:=Data.seq (List.toArray [Value.str msg t])}).get? b=some u:=λb u e=>aO _ e
 generalize h.push {cls:=Value.type "tuple",data:=Data.seq (List.toArray [Value.str msg t])}=h1 at c⊢;let f:=bO h1 (o:={cls:=Value.type "AttributeError",data:=Data.fields ((List.toArray [Value.ref h.objs.size,Value.none,Value.none,Value.none,Value.bool false,Value.none])++ownMembersOf (Value.type "AttributeError") [Value.str msg t])}) rfl;let i:∀b u,h1.get? b=some u->(h1.push {cls:=Value.type "AttributeError",data:=Data.fields ((List.toArray [Value.ref h.objs.size,Value.none,Value.none,Value.none,Value.bool false,Value.none])++ownMembersOf (Value.type "AttributeError") [Value.str msg t])}).get? b=some u:=λb u e=>aO _ e
 let mO:∀b u,h1.get? b=some u->b≠h1.objs.size:=λb u e=>cH<|bC e
 generalize h1.push {cls:=Value.type "AttributeError",data:=Data.fields ((List.toArray [Value.ref h.objs.size,Value.none,Value.none,Value.none,Value.bool false,Value.none])++ownMembersOf (Value.type "AttributeError") [Value.str msg t])}=h2 at f i⊢;generalize h1.objs.size=e at f mO⊢;let j:(#[h2,g,d,t+1+1,os]:Shared).TypeIs (.ref e) "AttributeError":=#[_,f,rfl]
 let k:=F.sub_ae;unfold noteAttr;dsimp only;calc aF ?_;unfold lacksNameAndObj;dsimp only;calc aF<|wpAny_isInstance j k ?_;rw[aI (by decide)];calc aF<|wpAny_load f ?_;dsimp only;rw[aI (by simp[ownMembersOf,unsetMember,rawInt]),aI (by simp[ownMembersOf,unsetMember,doubtfulMember,rawInt])];calc aV ?_;rw[aL rfl];calc aF<|iK ?_;calc aF<|iZ j ?_;dsimp only;unfold layMembers;calc aF<|wpAny_load f ?_;dsimp only;calc wpAny_update f ?_;calc wpAny_raiseNew_none hA (hq _ _ _ #[λb u hb=>?_,#[_,oT _ f<|Obj.isFreed_of_fields<|dg rfl _,Obj.cls_mapFields _ _]]);exact(eT _ _<|cE<|mO b u<|c b u hb).trans (i b u<|c b u hb)
end
section
variable {g:Array GenState} {d:Drawn} {t:Nat} {os:OsState} {its:Array Value} {sl:Array (Option Value)}
theorem VE{tk:Tok}{Q:PySem.Fin->Shared->Prop}(hA:A.handled=none)(hx:h.get? a=some #[.type "list",none,.seq its n,sl])
 (hq:∀h' t' e,lp h h' e->E (.ref e) #[h',g,d,t',os]):
 wpAny (model prog w) A (Builtin.«object.__getattribute__» #[[.ref a,.str "keys" tk],[]]) Q E #[h,g,d,t,os]:=by
 let b:(#[h,g,d,t,os]:Shared).TypeIs (.ref a) "list":=#[_,hx,rfl]
 let c:=F.lk_list_keys
 repeat (any_goals (first |assumption |wp_step))
 exact NN hA (by decide+kernel) hq
theorem CQ{tk:Tok}(hA:A.handled=none)(hx:h.get? a=some #[.type "list",none,.seq its n,sl])
 (hq:∀h' t' e,lp h h' e->R (.error<|.ref e) #[h',g,d,t',os]):
 codeAny (model prog w) A (.call (.builtin "list.__getattribute__") #[[.ref a,.str "keys" tk],[]]) R #[h,g,d,t,os]:=
 codeAny_call_builtin iH.plain F.entry_list_ga (iH.check _ _ _ _ _ _ _ _ (show(#[h,g,d,t,os]:Shared).TypeIs (.ref a) "list" from#[_,hx,rfl]) (F.args_list_getattribute_2 _ _)<|VE hA hx hq)
theorem OB{tk:Tok}(hA:A.handled=none)(hx:h.get? a=some #[.type "list",none,.seq its n,sl])
 (hq:∀h' t' e,lp h h' e->E (.ref e) #[h',g,d,t',os]):wpAny (model prog w) A (getAttrBy (.ref a) (.str "keys" tk) false) Q E #[h,g,d,t,os]:=by
 let f:(#[h,g,d,t,os]:Shared).TypeIs (.ref a) "list":=#[_,hx,rfl]
 let i:=iH.lookup;let j:=iH.bind<|.ref a;let k:=F.lk_list_ga;let l:=F.sub_ae
 repeat (any_goals (first |assumption |wp_step))
 refine CQ hA hx λh' t' e b=>?_
 let c:(#[h',g,d,t',os]:Shared).TypeIs (.ref e) "AttributeError":=b.2
 repeat (any_goals (first |assumption |exact hq _ _ _ b |wp_step))
theorem WU{Q:Option Value->Shared->Prop}(hA:A.handled=none)(hx:h.get? a=some #[.type "list",none,.seq its n,sl])
 (hq:∀h' t',(∀b u,h.get? b=some u->h'.get? b=some u)->Q none #[h',g,d,t',os]):wpAny (model prog w) A (getAttr? (.ref a) "keys") Q E #[h,g,d,t,os]:=by
 unfold getAttr? getAttrBy?;calc aF (wpAny_mkText<|aF<|lF<|OB hA hx λh' t' e f=>?_);dsimp only;let c:(#[h',g,d,t',os]:Shared).TypeIs (.ref e) "AttributeError":=f.2;calc aF<|wpAny_isInstance c F.sub_ae ?_;rw[aL rfl];exact aV<|hq _ _ f.1
end
theorem F.plain_dul:plainId "dict.update.loop"=true:=by decide+kernel
theorem F.entry_dul:entryFor table "dict.update.loop"=some Builtin.«dict.update.loop»:=entryFor_of_tree (by kernel_rfl)
section
variable {Kt:Type} [DecidableEq Kt] {knd:KeyKind prog w Kt}
theorem AT{kvs:List (Kt×Value)}(hn:(kvs.map (·.1)).Nodup){k:Kt}{v:Value}(h:kvs[i]?=some (k,v)):stored (kvs.take i) k v=kvs.take (i+1):=by
 let⟨c,b⟩:=aC.mp h;let a:(kvs.take i).any (λd=>d.1=k)=false:=by
  rw[dY];intro z;let⟨x,hx,hk⟩:=dO.mp z;let hk:x.1=k:=by simpa using hk
  let⟨j,f,e⟩:=dI hx;rw[bF]at f;rw[IK]at e;exact dQ.mp hn j i (by rw[aD];lia) (by rw[aD];lia) () (by simp[e,b,hk])
 unfold stored;rw[a,aP c,b];rfl
theorem FY{its:Array Value}{kvs:List (Kt×Value)}{h0:Heap}(hA:A.handled=none)(hdi:d≠it)(hl:h0.IsList l its)(hd0:∀u,h0.get? d≠some u)(hi0:∀u,h0.get? it≠some u)
 (hn:(kvs.map (·.1)).Nodup) (hsz:kvs.length<=sizeLine) (eR:its.size=kvs.length) (hp:∀(i:Nat)(k:Kt)(v:Value),kvs[i]?=some (k,v)->∃(a:Addr)(key:Value),its[i]?=some (Value.ref a)/\IsTup h0 a (List.toArray [key,v])/\knd.is k key=true):
 ∀(m i:Nat)(t:Tok)(s:Shared),kvs.length-i=m->i<=kvs.length->s.heap.IsListIter it l i->s.heap.DictOf knd d (kvs.take i)->(∀b u,h0.get? b=some u->s.heap.get? b=some u)->
 (∀h' t',(∀b u,h0.get? b=some u->h'.get? b=some u)->h'.DictOf knd d kvs->R (.ok<|.ret .none) {s with heap:=h',toks:=t'})->
 codeAny (model prog w) A (.builtin "dict.update.loop" #[[.ref d,.ref it,.int i t,.none],[]]) R s:=by
 intro m
 induction m with
 |zero=>
  intro i t s hm hi e hd hk y;let hin:i=kvs.length:=by lia
  subst hin;let iT:s.heap.IsList l its:=by let⟨o,f,r⟩:=hl;exact#[o,hk _ _ f,r]
  calc mY F.entry_dul ?_;rw[iI F.plain_dul _];show wpAny _ A.in1 (pyNext (.ref it) >>= _) _ _ s;calc aF (EQ (A:=A.in1) hA e iT (by rw[lw];lia) λh' he=>?_);rw[aQ<|aG _]at hd;show wpAny _ A.in1 (Builtin.Dict.addKeywords d [] >>= _) _ _ _;refine aF (aV<|aV<|y h' s.toks (λb u hb=>he b u (λz=>hi0 u (by rw[←z];calc hb))<|hk b u hb)<|hd.extBut he hdi)
 |succ m H=>
  intro i t s hm hi e hd hk y;let lT:i<kvs.length:=by lia
  let iT:s.heap.IsList l its:=by let⟨o,f,r⟩:=hl;exact#[o,hk _ _ f,r]
  let⟨a,key,ha,ht,g⟩:=hp i kvs[i].1 kvs[i].2 (aA lT);calc mY F.entry_dul ?_;rw[iI F.plain_dul _];show wpAny _ A.in1 (pyNext (.ref it) >>= _) _ _ s;calc aF (tV (A:=A.in1) e iT ha λh1 h j=>?_);let n:∀b u,h0.get? b=some u->h1.get? b=some u:=λb u hb=>(j.2 b λz=>hi0 u (by rw[←z];calc hb)).trans (hk b u hb)
  let B:h1.DictOf knd d (kvs.take i):=hd.sameBut j hdi;let⟨J,C,D,K,E⟩:=ht;let c:=n _ _ C;let I:({s with heap:=h1}:Shared).TypeIs (.ref a) "tuple":=#[_,c,D]
  calc aF<|eM<|aF ?_;calc wpAny_tryCatch ?_;unfold Builtin.Dict.pairItems;calc aF<|iZ I ?_;rw[aL (by decide)];calc aF<|wpAny_seqItems c E<|aV ?_;calc eM (wpAny_dictSet_pairs (kvs:=kvs.take i) g B (λh2 p q=>?_) (by rw[bF];lia));rw[AT hn<|show kvs[i]?=some (kvs[i].1,kvs[i].2)from aA lT]at p;calc aV #[pG F.plain_dul _,?_];let G:∀b u,h0.get? b=some u->h2.get? b=some u:=λb u hb=>(q.2 b λz=>hd0 u (by rw[←z];calc hb)).trans (n b u hb)
  let x:h2.IsListIter it l (i+1):=by let⟨o,f,r⟩:=h;exact#[o,(q.2 _<|cE hdi).trans f,r]
  exact H (i+1) _ {s with heap:=h2,toks:=s.toks+1} () lT x p G y
theorem YD{its:Array Value}{kvs:List (Kt×Value)}(hA:A.handled=none)(hl:PlainL s.heap l its)
 (hn:(kvs.map (·.1)).Nodup) (hsz:kvs.length<=sizeLine) (eR:its.size=kvs.length) (hp:∀(i:Nat)(k:Kt)(v:Value),kvs[i]?=some (k,v)->∃(a:Addr)(key:Value),its[i]?=some (Value.ref a)/\IsTup s.heap a (List.toArray [key,v])/\knd.is k key=true)
 (h:∀h' t',(∀b u,s.heap.get? b=some u->h'.get? b=some u)->h'.DictOf knd s.heap.objs.size kvs->Q (.ref s.heap.objs.size) {s with heap:=h',toks:=t'}):
 wpAny (model prog w) A (call (.type "dict") [.ref l]) Q E s:=by
 calc callType_codes (Q₁:=λobj s₁=>obj=.ref s.heap.objs.size/\s₁={s with heap:=s.heap.push {cls:=.type "dict",data:=.dict (List.toArray [])}}) F.kt_called_dict (lr _) F.entry_dict_init (kt_code_dict_new _ #[rfl,rfl]) ?_;rintro obj s₁ ⟨rfl,rfl⟩;let c:(s.heap.push {cls:=.type "dict",data:=.dict (List.toArray [])}).DictOf knd s.heap.objs.size []:=Heap.DictOf.new s.heap;calc#[c.typeIs,F.args_dict_init_2 _ _,?_];let⟨ol,M,q,n,r,x⟩:=hl;let f:(s.heap.push {cls:=.type "dict",data:=.dict (List.toArray [])}).get? l=some ol:=aO _ q;let K:({s with heap:=s.heap.push {cls:=.type "dict",data:=.dict (List.toArray [])}}:Shared).TypeIs (.ref l) "list":=#[_,f,n]
 unfold Builtin.«dict.__init__»;calc aF ?_;unfold Builtin.Dict.selfAndRest;calc aF<|oR c.typeIs ?_;show wpAny _ _ (pure (s.heap.objs.size,[Value.ref l])) _ _ _;calc aV ?_;show wpAny _ _ (Builtin.Dict.updateFrom "dict.__init__" s.heap.objs.size (.ref l) [] .none) _ _ _;unfold Builtin.Dict.updateFrom;calc aF<|iZ K ?_;rw[aL (by decide)];let p:∀b u,s.heap.get? b=some u->(s.heap.push {cls:=.type "dict",data:=.dict (List.toArray [])}).get? b=some u:=λb u e=>aO _ e
 let y:∀u,s.heap.get? s.heap.objs.size≠some u:=λu z=>dP _<|bC z
 let⟨j,g,d,t,os⟩:=s;dsimp only at *;generalize j.push {cls:=.type "dict",data:=.dict (List.toArray [])}=h1 at c f K p⊢;generalize j.objs.size=D at c y h⊢;let⟨N,O,P,R⟩:=ol;dsimp only at n r x;subst n r x;calc aF (WU (A:=A.in1.in1) hA f λh2 t2 m=>?_);rw[aL (by rfl)];calc aF<|iK ?_;let G:h2.IsList l its:=#[_,m _ _ f,rfl,_,rfl]
 calc aF<|oC G ?_;calc aV #[pG F.plain_dul _,?_];let B:=c.keep m;let C:∀u,j.get? h2.objs.size≠some u:=λu z=>dP _<|bC<|m _ _<|p _ _ z
 let H:D≠h2.objs.size:=λz=>by
  let⟨o,_,_,L,_⟩:=B;exact dP _ (by have :=bC L;rw[z]at this;calc this)
 refine FY (h0:=j) (kvs:=kvs) (A:=A.in1) hA H #[_,q,rfl,_,rfl] y C hn hsz eR hp kvs.length 0 _ _ () (bZ _) #[_,bO _ rfl,rfl,rfl] (B.push _) (λb u hb=>aO _<|m _ _<|p _ _ hb) λh' t' I J=>?_
 exact#[rfl,h h' t' I J]
end
theorem BQ{P:Program}{w:World}{h:Heap}:∀(kvs:List (fC×V))(as:List Addr),(∀(i:Nat)(k:fC)(v:V),kvs[i]?=some (k,v)->∃a its,as[i]?=some a/\dD [kV k,v] its/\IsTup h a its.toArray)->
 ∃vs:List (fC×Value),KV kvs vs/\∀(i:Nat)(k:fC)(v:Value),vs[i]?=some (k,v)->∃(a:Addr)(key:Value),as[i]?=some a/\IsTup h a (List.toArray [key,v])/\(zR P w).is k key=true
 |[],as,_=>#[[],.nil,λi k v e=>by simp at e]
 |(k,v)::kvs,as,d=>by
  let⟨a,its,h1,h2,f⟩:=d 0 k v rfl;cases as with
  |nil=>simp at h1
  |cons g as=>
   simp at h1;subst h1;let⟨j,l,rfl,m,rv⟩:=h2.two;let⟨vs,n,o⟩:=BQ (P:=P) (w:=w) kvs as λi k v e=>by
    let⟨a,its,b,c⟩:=d (i+1) k v (by simpa using e);exact#[a,its,by simpa using b,c]
   calc#[(k,l)::vs,.cons #[rfl,rv] n,λi p v' e=>?_];cases i with
   |zero=>
    simp at e;let⟨rfl,rfl⟩:=e;exact#[g,j,rfl,f,ZT m]
   |succ i=>
    let⟨a,key,b,c⟩:=o i p v' (by simpa using e);exact#[a,key,by simpa using b,c]
theorem YQ{κ:Type}:∀{kvs:List (κ×V)}{vs:List (κ×Value)},KV kvs vs->vs.map (·.1)=kvs.map (·.1)
 |_,_,.nil=>rfl
 |_,_,.cons h r=>by rw[cI,cI,YQ r,h.1]
theorem JJ:jL X (.type "dict") (λxs H Q=>dr X.calm (pW xs λx=>mJ x λp=>∃as:List Addr,cX X.K H p (as.map V.ref)/\∃kvs:List (fC×V),as.length=kvs.length/\(kvs.map (·.1)).Nodup/\
 (∀(i:Nat)(k:fC)(v:V),kvs[i]?=some (k,v)->∃a,as[i]?=some a/\dH X.K H a [kV k,v])/\∀l,H l=none->Q (.ref l) (upd H l<|.dK kvs))):=by
 intro aK s σ H xs us Q I r h;replace h:=EJ h;let⟨hc,h⟩:=h;replace h:=vQ h;let⟨z,rfl,h⟩:=h;replace h:=yS h;let⟨p,rfl,as,hp,kvs,eR,hn,hk,q⟩:=h;let⟨u,rfl,j⟩:=jN r;cases j;let⟨its,rv,hl,hz⟩:=I.list hp;let nO:=rv.length;rw[aD]at nO hz;let⟨vs,b,m⟩:=BQ (P:=X.prog) (w:=X.w) (h:=s.heap) kvs as λi k v e=>by
  let⟨a,c,d⟩:=hk i k v e;let⟨its,n,t2,_⟩:=I.tuple d;exact#[a,its,c,n,t2]
 let t:kvs.length=vs.length:=fD b;refine YD (knd:=zR X.prog X.w) (kvs:=vs) (I.ok.hd hc) hl (by rw[YQ b];calc hn) () (by rw[aU];lia) (λi k v e=>?_) λh' t' f g=>?_
 ·let⟨a,key,c,d,y⟩:=m i k v e;let⟨u,h1,h2⟩:=rv.get (i:=i) (x:=V.ref a) (by rw[aJ,c];rfl);cases h2;exact#[a,key,by simpa using h1,d,y]
 ·exact#[.ref s.heap.objs.size,_,I.laid (a:=s.heap.objs.size) (o:=.dK kvs) (t':=t') f (aG _)<|HR () (cR.mpr<|cE<|cH I.big) b g,rfl,q _<|I.hok.fresh<|aG _]
end
section
open PySem.W
section
variable {r:Addr} {P:Nat->Value->Prop} {OK:Heap->Prop}
theorem IW:∀{vs:List Value}{ss:List Str},vs.length=ss.length->(∀(i:Nat)(v:Value)(x:Str),vs[i]?=some v->ss[i]?=some x->∃t,v=.str x t)->StrsAre vs ss
 |[],[],_,_=>.nil
 |[],_::_,h,_=>by simp at h
 |_::_,[],h,_=>by simp at h
 |v::vs,x::ss,h,a=>by
  let⟨t,rfl⟩:=a 0 v x rfl rfl;exact .cons x t (IW (by simpa using h) λi v' b h1 h2=>a (i+1) v' b (by simpa using h1) (by simpa using h2))
theorem JZ:∀{vs:List Value}{ss:List Str},StrsAre vs ss->dD (ss.map V.str) vs
 |_,_,.nil=>.nil
 |_,_,.cons y t h=>.cons #[t,rfl]<|JZ h
theorem FK(K:KdlSrc prog w T r d n P OK)(hh:A.handled=none)(hok:OK s.heap)(hn:n<64){ss:List Str}(hl:ss.length=n)(hP:∀(i:Nat)(v:Value)(x:Str),P i v->ss[i]?=some x->∃t,v=.str x t)
 (h:∀(h1 h':Heap)(tk:Nat)(vs':List Value)(ss':List Str)(e:Nat),(∀b o,s.heap.get? b=some o->h1.get? b=some o)->(∀b o,h1.get? b=some o->h'.get? b=some o)->h'.get? h1.objs.size=some {cls:=.type "list",data:=.seq vs'.toArray e}->StrsAre vs' ss'->ss'.Perm ss->sortedS ss'=true->Q (.ref h1.objs.size) {s with heap:=h',toks:=tk}):
 wpAny (model prog w) A (call (.builtin "sorted") [.ref r]) Q E s:=by
 let hs:sizeLine=16777216:=cQ;calc sD kind_sorted plain_sorted entry_sorted (args_sorted1 _) ?_;unfold Builtin.«sorted»;calc aF (m:=checkCount "sorted" 1 1 _)<|aV ?_;calc aF (kdu_collect (A:=A.in1) K hh hok () λh' tk acc hk a=>?_);let j:acc.toList.length=n:=by rw[bR];exact a.1
 let g:StrsAre acc.toList ss:=IW () λi v x h1 h2=>hP i v x (a.2 i v (by rw[←cC];calc h1)) h2
 generalize acc.toList=vs at j g;calc aF<|pF ?_ ();let c:(h'.push<|seqObj "list" vs.toArray 0).get? h'.objs.size=some (seqObj "list" vs.toArray 0):=bO _ rfl;show wpAny _ _ _ _ _ {s with heap:=h'.push (seqObj "list" vs.toArray 0),toks:=tk};calc aF (eM<|gW qb #[_,c,rfl] dc (list_sort_treeK (A:=A.in1.in1) strKind_oneLt c g.keysOf (λv₁ v₂ rest e=>keyKind_strs (by rw[←e];calc g)) () λcN k l=>#[_,rfl,?_])<|args_list_sort _);let⟨ss',h1,h2,p⟩:=sorted_out_str g k l;let⟨e,he⟩:=sortedHeap_at (out:=(arrOf cN).map (·.2)) c;calc aV #[_,rfl,h h' _ tk _ ss' e hk (λb o f=>?_) (by rw[lE];calc he) h1 h2 p];let lT:=bC f;rw[sortedHeap_old (cH lT) (by rw[size_push'];calc pY lT)];exact aO _ f
end
theorem WB:jL X (.builtin "sorted") (λxs H Q=>dr X.calm (pW xs λx=>mJ x λp=>∃kvs:List (fC×V),H p=some (.dK kvs)/\∃zs:List Str,kvs.map (·.1)=zs.map Sum.inr/\zs.length<64/\
 ∀l zs',H l=none->zs'.Perm zs->sortedS zs'=true->Q (.ref l) (upd H l<|.lst<|zs'.map V.str))):=by
 intro aK s σ H xs us Q I r h;replace h:=EJ h;let⟨hc,h⟩:=h;replace h:=vQ h;let⟨L,rfl,h⟩:=h;replace h:=yS h;let⟨p,rfl,kvs,hp,zs,hk,m,q⟩:=h;let⟨u,rfl,n⟩:=jN r;cases n;let⟨z,hd,vs,rel,A⟩:=kN I.hok<|.inl hp;let⟨ep,d⟩:=A.dictAt;let B:kvs.length=vs.length:=fD rel;let C:kvs.length=zs.length:=by have :=dE List.length hk;rwa[aD,aD]at this
 let b:vs.map (·.1)=zs.map Sum.inr:=(YQ rel).trans hk;refine FK (kdl_dict (knd:=zR X.prog X.w) (kvs:=vs) (ep:=ep) hd) (I.ok.hd hc) d () (ss:=zs) () (λi v x D hx=>?_) λh1 h' tk vs' c e E F G J mE f=>?_
 ·let⟨k,y,h1,h2⟩:=D;let g:(vs.map (·.1))[i]?=some k:=by rw[aJ,h1];rfl
  rw[b,aJ,hx]at g;cases g;let h2:ZS (.inr x) v=true:=h2;rcases yF h2 with⟨_,_,e,_⟩ |⟨M,t,e,K⟩
  ·cases e
  ·cases e;exact#[t,K]
 ·let j:Inv X aK σ H {s with heap:=h1,toks:=tk}:=I.kept E;let eR:c.length=zs.length:=mE.length_eq;exact#[.ref h1.objs.size,_,j.laid (a:=h1.objs.size) (o:=.lst<|c.map V.str) (t':=tk) F (aG _) #[by rw[aD,cQ];lia,vs',e,JZ J,G],rfl,q _ _ (j.hok.fresh<|aG _) mE f]
theorem HP(l:Addr)(cT:Array Value)(n:Nat)(b:Addr)(dd:Option Addr)(sl:Array (Option Value))(gH:Array Value)(n2:Nat)(hs0:¬(!cT.isEmpty&&Builtin.List.listTooLong (cT.size+gH.size))=true)(hs1:cT.size<=sizeLine)(hs2:cT.size+gH.size<=sizeLine+1):
 Meets (Builtin.«list.extend» #[[.ref l,.ref b],[]]) (λ_ R s=>s.heap.get? l=some {cls:=.type "list",dict:=none,data:=.seq cT n,slots:= (List.toArray [])}/\s.heap.get? b=some #[.type "tuple",dd,.seq gH n2,sl]/\R (.ok<|.ret Value.none) {s with heap:=s.heap.update l (Obj.mapSeq λx=>x++gH),toks:=s.toks}):=
 .of_wp λprog w A R s h=>by
  let⟨hp,g,d,tk,os⟩:=s;let⟨hl,hb,h⟩:=h;let c:=PySem.AutoSeq1.sub_tuple_tuple;let e:=PySem.AutoSeq1.sub_tuple_list;let a:(cT++gH).size<=sizeLine+1:=by rw[Array.size_append];exact hs2
  wp_walk using(wpAny_updateSeq hl rfl (hz:=hs1) (_hz':=a)),PD hl,PD hb
  exact#[_,rfl,h]
def wZ(K:W.Frag):V->List V->Hp->VK->Prop:=λx vs H Q=>mJ x λl=>pW vs λz=>mJ z λb=>∃xs,H l=some (.lst xs)/\∃zs,dH K H b zs/\xs.length+zs.length<=sizeLine/\Q .non (upd H l<|.lst<|xs++zs)
theorem wM:MtM X "list.extend" (wZ X.K):=by
 intro aK s σ H x vs v us Q I k rv h;replace h:=yS h;let⟨l,rfl,h⟩:=h;replace h:=vQ h;let⟨x,rfl,h⟩:=h;replace h:=yS h;let⟨b,rfl,xs,f,zs,m,hz,q⟩:=h;cases k;let⟨u,rfl,o⟩:=rv.one;cases o;let⟨z,its,n,r,hl,e⟩:=I.lstM f;let⟨a,g,⟨o2,p,i,t,j⟩,B⟩:=I.tuple m;let⟨C,w,D,y⟩:=o2;dsimp only at i j;subst i j;let A:=g.length;let d:its.toArray.size+a.toArray.size<=sizeLine:=by rw[aU,aU];lia
 let c:¬(!its.toArray.isEmpty&&Builtin.List.listTooLong (its.toArray.size+a.toArray.size))=true:=by
  rw[XT d,pM];exact cG
 refine de hZ #[_,e,rfl] F.entry_list_extend (F.args_list_extend_2 _ _)
  (HP l its.toArray n b w y a.toArray t c (by rw[aU];lia) ()) #[e,p,?_]
 calc#[.non,_,I.lset (its':=its++a) f e (by simp) (r.append g) ?_,rfl,q];rw[aH];lia
end
section
variable {I:Addr} {wr:List Addr} {P:Nat->Value->Prop} {St:Nat->Shared->Prop}
end
section
open PySem.SeqAt
mutual
noncomputable def mI:Dt->Dt->Bool
 | .non,.non=>true
 | .bl a,.bl b=>a==b
 | .int a,.int b=>a==b
 | .bl a,.int b=>(if a then 1 else 0)==b
 | .int a,.bl b=>a==(if b then 1 else 0)
 | .str a,.str b=>a==b
 | .tup xs,.tup ys=>uJ xs ys
 | .lst xs,.lst ys=>uJ xs ys
 |_,_=>false
noncomputable def uJ:List Dt->List Dt->Bool
 |[],[]=>true
 |x::xs,y::ys=>mI x y&&uJ xs ys
 |_,_=>false
end
mutual
theorem xE:∀d:Dt,mI d d=true
 | .non=>rfl
 | .bl a=>by simp[mI]
 | .int a=>by simp[mI]
 | .str a=>by simp[mI]
 | .tup ds=>by rw[mI];exact ZK ds
 | .lst ds=>by rw[mI];exact ZK ds
theorem ZK:∀ds:List Dt,uJ ds ds=true
 |[]=>rfl
 |d::ds=>by rw[uJ,xE d,ZK ds];rfl
end
noncomputable def HQ(xs ys:List Dt)(j:Nat):Bool:=
 match xs[j]?,ys[j]? with
 |some x,some y=>mI x y
 |_,_=>false
theorem vM:∀xs ys:List Dt,((List.range<|min xs.length ys.length).all (HQ xs ys)&&xs.length==ys.length)=uJ xs ys
 |[],[]=>rfl
 |[],y::ys=>by simp[uJ]
 |x::xs,[]=>by simp[uJ]
 |x::xs,y::ys=>by
  rw[uJ,←vM xs ys,bJ,bJ,Nat.succ_min_succ,List.range_succ_eq_map,List.all_cons,pC];let a:HQ (x::xs) (y::ys) 0=mI x y:=rfl;let b:HQ (x::xs) (y::ys) ∘ Nat.succ=HQ xs ys:=by funext j;simp[HQ]
  rw[a,b,Bool.and_assoc]
  congr 2
  rw[bY];simp
mutual
theorem eE.one_of{H:Hp}:∀{d d':Dt}{v:V},eE H d v->eE H d' v->d=d'
 |d,.non,v,h,h'=>by let h':v=.non:=h';subst h';cases d<;>simp_all [eE]
 |d,.bl b,v,h,h'=>by let h':v=.bl b:=h';subst h';cases d<;>simp_all [eE]
 |d,.int b,v,h,h'=>by let h':v=.int b:=h';subst h';cases d<;>simp_all [eE]
 |d,.str b,v,h,h'=>by let h':v=.str b:=h';subst h';cases d<;>simp_all [eE]
 |d,.tup i,v,h,h'=>by
  let⟨a,vs,rfl,g,j⟩:=h';cases d with
  |tup ds=>
   let⟨k,vs',e,c,f⟩:=h;cases e;rw[g]at c;cases c;rw[bN.one_of f j]
  |lst ds=>
   let⟨k,vs',e,c,f⟩:=h;cases e;rw[g]at c;cases c
  |_=>cases h
 |d,.lst i,v,h,h'=>by
  let⟨a,vs,rfl,g,j⟩:=h';cases d with
  |lst ds=>
   let⟨k,vs',e,c,f⟩:=h;cases e;rw[g]at c;cases c;rw[bN.one_of f j]
  |tup ds=>
   let⟨k,vs',e,c,f⟩:=h;cases e;rw[g]at c;cases c
  |_=>cases h
theorem bN.one_of{H:Hp}:∀{ds ds':List Dt}{vs:List V},bN H ds vs->bN H ds' vs->ds=ds'
 |ds,[],vs,h,h'=>by
  let h':vs=[]:=h';subst h';cases ds with
  |nil=>rfl
  |cons d ds=>let⟨v,r,e,_⟩:=h;cases e
 |ds,g::ds',vs,h,h'=>by
  let⟨v,r,rfl,c,f⟩:=h';cases ds with
  |nil=>cases h
  |cons d ds=>
   let⟨v',i,e,a,b⟩:=h;cases e;rw[eE.one_of a c,bN.one_of b f]
end
theorem bN.tup_of(ok:mL P w H s.heap)(h:H a=some (.tup vs)):∃its:List Value,dD vs its/\s.heap.IsTuple a its.toArray:=by
 let⟨z,its,r,p⟩:=ok a _ h;exact#[its,r,p]
theorem bN.lst_of(ok:mL P w H s.heap)(h:H a=some (.lst vs)):∃its:List Value,dD vs its/\s.heap.IsList a its.toArray:=by
 let⟨z,its,n,r,p⟩:=ok a _ h;exact#[its,r,_,p,rfl,n,rfl]
theorem qJ:∀{xs:List V}{us:List Value}{i:Nat}{x:V}{u:Value},dD xs us->xs[i]?=some x->us[i]?=some u->RelV x u
 |_,_,_,_,_,.nil,h,_=>by simp at h
 |_,_,0,_,_,.cons r q,h,h'=>by
  simp at h h';subst h;subst h';exact r
 |_,_,i+1,_,_,.cons r q,h,h'=>qJ q (by simpa using h) (by simpa using h')
theorem BB(ok:mL P w H s.heap)(ih:∀{A:Around}{d d':Dt}{v v':V}{u u':Value},eE H d v->eE H d' v'->RelV v u->RelV v' u'->kX n d->A.units+n<cLine->EqAt A s u u' (mI d d'))
 {l':Addr} {ds ds':List Dt} {vs':List V} (hs:bN H ds vs) (iA:bN H ds' vs') (rv:dD vs its) (rv':dD vs' its') (hl:s.heap.IsList l its.toArray) (iT:s.heap.IsList l' its'.toArray)
 (f:∀d∈ds,kX n d) (hu:A.units+(n+1)<cLine):RcAt A s (.ref l) (.ref l') (uJ ds ds'):=by
 let i:=hs.length;let k:=iA.length;let m:=rv.length;let o:=rv'.length;by_cases hz:ds.length=ds'.length
 ·let key:=RcAt.lists (A:=A) (e:=HQ ds ds') hl iT (by rw[aU,aU];lia) () λj h1 h2=>?_
  ·rw[←vM,hz,Nat.min_self,dN,Bool.and_true];rw[aU]at key;rw[show ds'.length=its.length by lia];exact key
  ·rw[aU]at h1 h2;let b:j<ds.length:=by lia
   let a:j<ds'.length:=by lia
   let⟨x,x1,x2⟩:=hs.get<|aA b;let⟨y,c,g⟩:=iA.get<|aA a;let h:HQ ds ds' j=mI ds[j] ds'[j]:=by unfold HQ;rw[aA b,aA a]
   rw[h];refine ih x2 g ?_ ?_ (f _<|cO b) (by show A.units+1+n<cLine;lia)
   ·exact qJ rv x1 (by rw[gZ];calc aA h1)
   ·exact qJ rv' c (by rw[gZ];calc aA h2)
 ·let hf:uJ ds ds'=false:=by rw[←vM,show(ds.length==ds'.length)=false by simpa using hz,pM]
  rw[hf];exact RcAt.lists_lengths hl iT (by rw[aU,aU];simp;lia) ()
theorem bp(ok:mL P w H s.heap){d:Dt}{u':Value}(h:eE H d v)(r:RelV v u)(r':RelV v u'):EqAt A s u u' true:=by
 cases d with
 |non=>have h:v=.non:=h;subst h;cases r;cases r';exact qe _
 |bl a=>have h:v=.bl a:=h;subst h;cases r;cases r';exact qe _
 |int a=>
  let h:v=.int a:=h;subst h;let⟨t,rfl⟩:=r;let⟨t',rfl⟩:=r';have :=EqAt.int_int (A:=A) (s:=s) a t a t';rwa[dN]at this
 |str a=>
  let h:v=.str a:=h;subst h;let⟨t,rfl⟩:=r;let⟨t',rfl⟩:=r';have :=EqAt.str_str (A:=A) (s:=s) a t a t';rwa[dN]at this
 |tup ds=>let⟨l,vs,rfl,_⟩:=h;cases r;cases r';exact qe _
 |lst ds=>let⟨l,vs,rfl,_⟩:=h;cases r;cases r';exact qe _
inductive x6 (H:Hp) (h:Heap):Dt->Value->Prop
 |non:x6 H h .non .none
 |bl (b:Bool):x6 H h (.bl b) (.bool b)
 |int (i:Int) (t:Tok):x6 H h (.int i) (.int i t)
 |str (x:Str) (t:Tok):x6 H h (.str x) (.str x t)
 |tup (l:Addr) (ds:List Dt) (vs:List V) (its:List Value) (hs:bN H ds vs) (rv:dD vs its) (hl:h.IsTuple l its.toArray):x6 H h (.tup ds) (.ref l)
 |lst (l:Addr) (ds:List Dt) (vs:List V) (its:List Value) (hs:bN H ds vs) (rv:dD vs its) (hl:h.IsList l its.toArray):x6 H h (.lst ds) (.ref l)
theorem dsh(ok:mL P w H s.heap){d:Dt}(h:eE H d v)(r:RelV v u):x6 H s.heap d u:=by
 cases d with
 |non=>cases (show v=.non from h);cases r;exact .non
 |bl b=>cases (show v=.bl b from h);cases r;exact .bl b
 |int i=>cases (show v=.int i from h);let⟨t,rfl⟩:=r;exact .int i t
 |str x=>cases (show v=.str x from h);let⟨t,rfl⟩:=r;exact .str x t
 |tup ds=>
  let⟨l,vs,rfl,e,hs⟩:=h;cases r;let⟨its,rv,hl⟩:=bN.tup_of ok e;exact .tup l ds vs its hs rv hl
 |lst ds=>
  let⟨l,vs,rfl,e,hs⟩:=h;cases r;let⟨its,rv,hl⟩:=bN.lst_of ok e;exact .lst l ds vs its hs rv hl
set_option maxHeartbeats 2000000 in
theorem VS(ok:mL P w H s.heap){d d':Dt}{v':V}{u':Value}(h:eE H d v)(h':eE H d' v')(r:RelV v u)(r':RelV v' u')(hu:A.units<cLine)(hk:∀ds ds',¬(d=.tup ds/\d'=.tup ds')/\¬(d=.lst ds/\d'=.lst ds')):EqAt A s u u' (mI d d'):=by
 cases dsh ok h r<;>cases dsh ok h' r'<;>simp only[mI]<;>first |exact absurd #[rfl,rfl] (hk _ _).1 |exact absurd #[rfl,rfl] (hk _ _).2 |with_reducible first |exact qe _ |exact EqAt.none_bool _ |exact EqAt.none_int _ _ |exact EqAt.none_str _ _ |exact EqAt.none_tuple ‹_› hu |exact EqAt.none_list ‹_› hu |exact EqAt.bool_none _ |exact EqAt.bool_bool _ _ |exact EqAt.bool_int _ _ _ |exact EqAt.bool_str _ _ _ |exact EqAt.bool_tuple _ ‹_› hu |exact EqAt.bool_list _ ‹_› hu |exact EqAt.int_none _ _ |exact EqAt.int_bool _ _ _ |exact EqAt.int_int _ _ _ _ |exact EqAt.int_str _ _ _ _ |exact EqAt.int_tuple _ _ ‹_› hu |exact EqAt.int_list _ _ ‹_› hu |exact EqAt.str_none _ _ |exact EqAt.str_bool _ _ _ |exact EqAt.str_int _ _ _ _ |exact EqAt.str_str _ _ _ _ |exact EqAt.str_tuple _ _ ‹_› hu |exact EqAt.str_list _ _ ‹_› hu |exact EqAt.tuple_none ‹_› hu |exact EqAt.tuple_bool _ ‹_› hu |exact EqAt.tuple_int _ _ ‹_› hu |exact EqAt.tuple_str _ _ ‹_› hu |exact EqAt.tuple_list ‹_› ‹_› hu |exact EqAt.list_none ‹_› hu |exact EqAt.list_bool _ ‹_› hu |exact EqAt.list_int _ _ ‹_› hu |exact EqAt.list_str _ _ ‹_› hu |exact EqAt.list_tuple ‹_› ‹_› hu
theorem VU(ok:mL P w H s.heap):∀(n:Nat){A:Around}{d d':Dt}{v v':V}{u u':Value},eE H d v->eE H d' v'->RelV v u->RelV v' u'->kX n d->A.units+n<cLine->EqAt A s u u' (mI d d'):=by
 intro n
 induction n with
 |zero=>
  intro A d d' v v' u u' h h' r c f k;exact VS ok h h' r c k λds a=>#[λe=>by rw[e.1]at f;exact f,λe=>by rw[e.1]at f;calc f]
 |succ n p=>
  intro A d d' v v' u u' h h' r c f k;by_cases g:v=v'
  ·subst g;rw[eE.one_of h h',xE];let hd:d=d':=eE.one_of h h';subst hd;let hx:=bp ok (A:=A) h r c;exact hx
  cases d with
  |tup ds=>
   cases d' with
   |tup a=>
    let⟨l,vs,rfl,e,hs⟩:=h;let⟨l',vs',rfl,m,iA⟩:=h';cases r;cases c;let⟨its,rv,hl⟩:=bN.tup_of ok e;let⟨its',b,iT⟩:=bN.tup_of ok m;let q:=hs.length;let t:=iA.length;let B:=rv.length;let C:=b.length;let key:=RcAt.tuples (A:=A) (e:=HQ ds a) hl iT () λj h1 h2=>?_
    ·simp only[mI];rw[←vM];calc EqAt.of_refs (λz=>g (by rw[z])) ?_;rw[aU,aU]at key;rw[←q,←t,B,C];exact key
    ·rw[aU]at h1 h2;let o:j<ds.length:=by lia
     let i:j<a.length:=by lia
     let⟨x,x1,x2⟩:=hs.get<|aA o;let⟨y,D,E⟩:=iA.get<|aA i;let F:HQ ds a j=mI ds[j] a[j]:=by unfold HQ;rw[aA o,aA i]
     rw[F];refine p x2 E ?_ ?_ (f.2 _<|cO o) (by show A.units+1+n<cLine;lia)
     ·exact qJ rv x1 (by rw[gZ];calc aA h1)
     ·exact qJ b D (by rw[gZ];calc aA h2)
   |_=>exact VS ok h h' r c () λds a=>#[λe=>(by cases e.2),λe=>(by cases e.1)]
  |lst ds=>
   cases d' with
   |lst a=>
    let⟨l,vs,rfl,e,hs⟩:=h;let⟨l',vs',rfl,m,iA⟩:=h';cases r;cases c;let⟨its,rv,hl⟩:=bN.lst_of ok e;let⟨its',b,iT⟩:=bN.lst_of ok m;simp only[mI];exact EqAt.of_refs (λz=>g (by rw[z]))<|BB ok p hs iA rv b hl iT f.2 k
   |_=>exact VS ok h h' r c () λds a=>#[λe=>(by cases e.1),λe=>(by cases e.2)]
  |_=>exact VS ok h h' r c () λds a=>#[λe=>(by cases e.1),λe=>(by cases e.1)]
end
section
open PySem.SeqAt
theorem cx_P{scope:Scope}{cd:Value}{E:XK}:(JF CX P w K mg base N qual scope f cd A outer s H E).prog=P:=rfl
end
end L2
namespace L2
open PySem PySem.Spec PyProof.Rows PySem.SeqAt
variable {a d l:Addr} {A:Around} {G:Array GenState->Array GenState->Prop} {X:Cx} {D:tU} {c e tg:Expr} {h':Heap} {H:Hp} {aK:List (Addr×Obj)} {ch fp:List Addr} {es:List Expr} {js:List Nat} {ns:List Str} {vs xs:List V} {its its':List Value} {n t':Nat} {p:Pos} {P prog:Program} {K:W.Frag} {R:Result->Shared->Prop} {s:Shared} {σ:St} {T:String} {ta te:TE} {tb:TS} {v:V} {u:Value} {E Q:Value->Shared->Prop} {w:World}
local macro_rules | `(()) => `(by lia)
theorem f8(ok:mL P w H s.heap)(ih:∀{A:Around}{d d':Dt}{v v':V}{u u':Value},eE H d v->eE H d' v'->RelV v u->RelV v' u'->kX n d->A.units+n<cLine->EqAt A s u u' (mI d d'))
 {l':Addr} {ds ds':List Dt} {vs':List V} (hs:bN H ds vs) (iA:bN H ds' vs') (rv:dD vs its) (rv':dD vs' its') (hl:s.heap.IsTuple l its.toArray) (iT:s.heap.IsTuple l' its'.toArray)
 (f:∀d∈ds,kX n d) (hu:A.units+(n+1)<cLine):RcAt A s (.ref l) (.ref l') (uJ ds ds'):=by
 let c:=hs.length;let g:=iA.length;let h:=rv.length;let i:=rv'.length;let at_:∀j (h1:j<its.toArray.size) (h2:j<its'.toArray.size),EqAt A.in1 s its.toArray[j] its'.toArray[j] (HQ ds ds' j):=λj h1 h2=>by
  rw[aU]at h1 h2;let b:j<ds.length:=by lia
  let a:j<ds'.length:=by lia
  let⟨x,x1,x2⟩:=hs.get<|aA b;let⟨y,k,m⟩:=iA.get<|aA a;let o:HQ ds ds' j=mI ds[j] ds'[j]:=by unfold HQ;rw[aA b,aA a]
  rw[o];refine ih x2 m ?_ ?_ (f _<|cO b) (by show A.units+1+n<cLine;lia)
  ·exact qJ rv x1 (by rw[gZ];calc aA h1)
  ·exact qJ rv' k (by rw[gZ];calc aA h2)
 let key:=RcAt.tuples (A:=A) (e:=HQ ds ds') hl iT () at_;rw[aU,aU]at key;rw[←vM,←c,←g,h,i];exact key
set_option maxHeartbeats 2000000 in
theorem rc_at(ok:mL P w H s.heap){d d':Dt}{v':V}{u':Value}(h:eE H d v)(h':eE H d' v')(r:RelV v u)(r':RelV v' u')(f:kX (n+1) d)(hu:A.units+(n+1)<cLine):RcAt A s u u' (mI d d'):=by
 let a:A.units<cLine:=by lia
 cases dsh ok h r<;>cases dsh ok h' r'<;>simp only[mI,Bool.not_false,rE]<;>first |exact f8 ok (VU ok n) ‹_› ‹_› ‹_› ‹_› ‹_› ‹_› f.2 hu |exact BB ok (VU ok n) ‹_› ‹_› ‹_› ‹_› ‹_› ‹_› f.2 hu |with_reducible first |exact RcAt.none_none |exact RcAt.none_bool _ |exact RcAt.none_int _ _ |exact RcAt.none_str _ _ |exact RcAt.none_tuple ‹_› a |exact RcAt.none_list ‹_› a |exact RcAt.bool_none _ |exact RcAt.bool_bool _ _ |exact RcAt.bool_int _ _ _ |exact RcAt.bool_str _ _ _ |exact RcAt.bool_tuple _ ‹_› a |exact RcAt.bool_list _ ‹_› a |exact RcAt.int_none _ _ |exact RcAt.int_bool _ _ _ |exact RcAt.int_int _ _ _ _ |exact RcAt.int_str _ _ _ _ |exact RcAt.int_tuple _ _ ‹_› a |exact RcAt.int_list _ _ ‹_› a |exact RcAt.str_none _ _ |exact RcAt.str_bool _ _ _ |exact RcAt.str_int _ _ _ _ |exact RcAt.str_str _ _ _ _ |exact RcAt.str_tuple _ _ ‹_› a |exact RcAt.str_list _ _ ‹_› a |exact RcAt.tuple_none ‹_› a |exact RcAt.tuple_bool _ ‹_› a |exact RcAt.tuple_int _ _ ‹_› a |exact RcAt.tuple_str _ _ ‹_› a |exact RcAt.tuple_list ‹_› ‹_› a |exact RcAt.list_none ‹_› a |exact RcAt.list_bool _ ‹_› a |exact RcAt.list_int _ _ ‹_› a |exact RcAt.list_str _ _ ‹_› a |exact RcAt.list_tuple ‹_› ‹_› a
def NO:R2:=λx y H Q=>∃n d,eE H d x/\∃d',eE H d' y/\kX (n+1) d/\n<=60/\Q (.bl<|mI d d') H
theorem vA(hu:X.A.units+64<cLine):pR X (compareOp .Eq) NO:=by
 intro aK s σ H x y v u Q I a b h;let⟨n,d,h1,c,h2,f,hn,q⟩:=h;exact rc_at I.hok h1 h2 a b f () X.prog X.w _ _<|yM I q rfl
def SQ(neg:Bool):R2:=λx y H Q=>∃n d,eE H d x/\∃ds,(eE H (.lst ds) y\/eE H (.tup ds) y)/\(∀e∈ds,kX n e)/\n<=60/\Q (.bl<|neg^^ds.any λe=>mI e d) H
open Classical in
theorem VM{ds:List Dt}{d:Dt}(hs:bN H ds vs)(rv:dD vs its)(e:Value->Bool)(he:∀y,e y=decide (∃d' v',eE H d' v'/\RelV v' y/\mI d' d=true)):its.toArray.any e=ds.any λe=>mI e d:=by
 rw[List.any_toArray]
 induction ds generalizing vs its with
 |nil=>
  let hs:vs=[]:=hs;subst hs;cases rv;rfl
 |cons c ds f=>
  let⟨v,r,rfl,a,g⟩:=hs;cases rv with
  |cons b rt=>
   rename_i u us
   rw[nY,nY,f g rt,he]
   congr 1
   rw[bY,bH];constructor
   ·rintro⟨d',v',h,i,j⟩;have :=RelV.inj i b;subst this;rw[eE.one_of a h];exact j
   ·intro q;exact#[c,v,a,b,q]
open Classical in
theorem LO(ok:mL P w H s.heap){ds:List Dt}{d:Dt}{x:V}(hs:bN H ds vs)(rv:dD vs its)(hx:eE H d x)(ru:RelV x u)(f:∀e∈ds,kX n e)(hu:A.units+(n+1)<cLine)
 (y:Value) (hy:y∈its.toArray):EqAt A.in1 s y u (decide (∃d' v',eE H d' v'/\RelV v' y/\mI d' d=true)):=by
 let⟨j,c,e⟩:=dI (show y∈its by simpa using hy);let k:=hs.length;let l:=rv.length;let a:j<ds.length:=by lia
 let⟨v,v1,v2⟩:=hs.get<|aA a;let b:RelV v y:=qJ rv v1 (by rw[aA c,e]);have :decide (∃d' v',eE H d' v'/\RelV v' y/\mI d' d=true)=mI ds[j] d:=by
  rw[bY,bH];constructor
  ·rintro⟨d',v',g,h,i⟩;have :=RelV.inj h b;subst this;rw[eE.one_of v2 g];exact i
  ·intro q;exact#[_,v,v2,b,q]
 rw[this];exact VU ok n v2 hx b ru (f _<|cO a) (by show A.units+1+n<cLine;lia)
theorem ux(hu:X.A.units+64<cLine):pR X (compareOp .In) (SQ false):=by
 intro aK s σ H x y v u Q I a b h;let⟨n,d,hx,ds,hy,f,hn,q⟩:=h;rw[Bool.false_xor]at q;rcases hy with⟨l,vs,rfl,e,hs⟩ |⟨l,vs,rfl,e,hs⟩
 ·cases b;let⟨its,rv,hl⟩:=bN.lst_of I.hok e;calc in_listAt _ hl (LO I.hok hs rv hx a f ())<|yM I q ?_;exact(VM hs rv _ λ_=>rfl).symm
 ·cases b;let⟨its,rv,hl⟩:=bN.tup_of I.hok e;calc in_tupleAt _ hl (LO I.hok hs rv hx a f ())<|yM I q ?_;exact(VM hs rv _ λ_=>rfl).symm
theorem QI(hu:X.A.units+64<cLine):pR X (compareOp .NotIn) (SQ true):=by
 intro aK s σ H x y v u Q I a b h;let⟨n,d,hx,ds,hy,f,hn,q⟩:=h;rw[Bool.true_xor]at q;rcases hy with⟨l,vs,rfl,e,hs⟩ |⟨l,vs,rfl,e,hs⟩
 ·cases b;let⟨its,rv,hl⟩:=bN.lst_of I.hok e;calc notIn_listAt _ hl (LO I.hok hs rv hx a f ())<|yM I q ?_;rw[VM hs rv _ λ_=>rfl]
 ·cases b;let⟨its,rv,hl⟩:=bN.tup_of I.hok e;calc notIn_tupleAt _ hl (LO I.hok hs rv hx a f ())<|yM I q ?_;rw[VM hs rv _ λ_=>rfl]
section
open PySem.SeqAt
theorem Inv.turnedL(I:Inv X aK σ H s)(k:∀b o,b∉ch->s.heap.get? b=some o->h'.get? b=some o)(hf:∀b∈ch,wU X aK H b):Inv X aK σ H {s with heap:=h',toks:=t'}:=by
 let nit:∀b u,H b=some u->b∉ch:=λb u e z=>by rw[(hf b z).1]at e;cases e
 let a:X.env.locals∉ch:=λz=>(hf _ z).2.1 rfl
 refine I.step (g':=s.gens) (d':=s.drawn) (ch:=ch) (λb hb=>?_) (λb o _ _ hc e _=>k b o hc e) (λb o _ _ hc e _=>#[o.slots,k b o hc e]) (λ_ _ _ _ n=>n) (λb o hc e=>#[o,k b o hc e]) (λ_ _ e=>e) (λ_ _ _ e=>e) (λb ps e=>#[(List.toArray []),by rw[e];simp]) (λm hm=>?_) (λb u e=>?_) I.bare
 ·let⟨j,d,l,f,g,h⟩:=hf b hb;exact#[f,d,g,h]
 ·let⟨o,es,ep,i,r⟩:=hm;exact#[o,es,ep,k _ o a i,r]
 ·refine(I.hok b u e).stay (λc v hc q=>k c v ?_ q) (λ_ q=>q) λ_ _ q=>q
  rcases hc with z |z
  ·rw[z];exact nit b u e
  ·exact nit c _ z
theorem Inv.turnedN{p:Addr}{o:HO}(I:Inv X aK σ H s)(k:∀b o,b∉ch->s.heap.get? b=some o->h'.get? b=some o)(hf:∀b∈ch,wU X aK H b)(hp:s.heap.objs.size<=p)(new:fF X.prog X.w (upd H p o) h' p o):
 Inv X aK σ (upd H p o) {s with heap:=h',toks:=t'}:=by
 let nit:∀b u,H b=some u->b∉ch:=λb u e z=>by rw[(hf b z).1]at e;cases e
 let a:X.env.locals∉ch:=λz=>(hf _ z).2.1 rfl
 let hn:=I.hok.fresh hp;let nep:∀{b:Addr}{u:HO},H b=some u->b≠p:=λe z=>by rw[z,hn]at e;cases e
 refine I.step (g':=s.gens) (d':=s.drawn) (ch:=ch) (λb hb=>?_) (λb o _ _ hc e _=>k b o hc e) (λb o _ _ hc e _=>#[o.slots,k b o hc e]) (λb u _ e n=>?_) (λb o hc e=>#[o,k b o hc e]) (λ_ _ e=>by rw[zE<|nep e];calc e) (λ_ _ _ e=>by rw[zE<|nep e];calc e) (λb ps e=>#[(List.toArray []),by rw[zE<|nep e,e];simp]) (λm hm=>?_) (λb u e=>?_) I.bare
 ·let⟨j,d,l,f,g,h⟩:=hf b hb;exact#[f,d,g,h]
 ·rw[zE<|cH<|cF (bC e) hp];exact n
 ·let⟨o,es,ep,i,r⟩:=hm;exact#[o,es,ep,k _ o a i,r]
 ·by_cases hb:b=p
  ·subst hb;rw[zA]at e;cases e;exact new
  ·rw[zE hb]at e;refine(I.hok b u e).stay (λc v hc q=>k c v ?_ q) (λc q=>by rw[zE<|nep q];calc q) λc _ q=>by rw[zE<|nep q];exact q
   rcases hc with z |z
   ·rw[z];exact nit b u e
   ·exact nit c _ z
end
section
open PySem.SeqAt
theorem HG{lo:Int}{g:TG}{tc:TT}{Q:VK}(Pv:Nat->List V->St->Hp->Prop)(h0:Pv 0 [] (XY ns js σ) H)(hz:n<=sizeLine)(hl:∀i ys σ H,Pv i ys σ H->ys.length<=i)
 (hs:∀(i:Nat) ys σ H (C:V->St->Hp->Prop) (D:St->Hp->Prop),i<n->Pv i ys σ H->(∀y σ2 H3,Pv (i+1) (ys++[y]) σ2 H3->C y σ2 H3)->(∀σ2 H3,Pv (i+1) ys σ2 H3->D σ2 H3)->
  g (.int<|lo+i) σ H λσ2 H2=>tc σ2 H2 λb H3=>if b=true then te σ2 H3 λy H4=>C y σ2 H4 else D σ2 H3)
 (hd:∀ys σ H,Pv n ys σ H->∀p,H p=none->Q (.ref p) (upd H p<|.lst ys)):
 PN (du lo n) ns js g (some tc) te σ H Q:=by
 calc#[λi m ys σ H=>m=n-i/\i<=n/\Pv i ys σ H,#[n,(),bZ _,h0],λi m ys σ1 H1 z=>?_];let⟨hm,hi,hp⟩:=z;by_cases h:i<n
 ·refine .inr #[h,?_,λx H' ⟨e,hx⟩=>?_]
  ·have :=hl i ys σ1 H1 hp;lia
  ·subst e;subst hx;exact hs i ys σ1 _ _ _ h hp (λy σ2 H3 q=>#[n-(i+1),(),rfl,(),q]) λσ2 H3 q=>#[n-(i+1),(),rfl,(),q]
 ·let e:i=n:=by lia
  subst e;exact .inl #[aG _,hd ys σ1 H1 hp]
end
section
open PySem.SeqAt
inductive Rw where
 |no |nm (x:Str) |bo (i j:Int)
noncomputable def wp:Rw->Dt
 | .no=>.tup [.str "none"]
 | .nm x=>.tup [.str "name",.str x]
 | .bo i j=>.tup [.str "both",.int i,.int j]
abbrev Pr:=Int×Int
noncomputable def PJ(p:Pr):Dt:=.tup [.int p.1,.int p.2]
abbrev xK:=List Pr×Pr
noncomputable def ox(r:xK):Dt:=.tup [.lst<|r.1.map PJ,PJ r.2]
inductive Wt where
 |n (i:Int) |ps (l:List Int)
noncomputable def dWt:Wt->Dt
 | .n i=>.int i
 | .ps l=>.tup<|l.map .int
structure Ln where
 i:Int
 j:Int
 w:Str
 as:List Wt
noncomputable def ZL(w:Str)(as:List Wt):Dt:=.tup (.str w::as.map dWt)
noncomputable def MG(l:Ln):Dt:=.tup [.int l.i,.int l.j,ZL l.w l.as]
noncomputable def JU(b:Int):Wt->Bool
 | .n i=>decide (0<=i)&&decide (i<b)
 | .ps _=>false
noncomputable def uZ(aE:List Rw)(n:Int):List Int:=if n % 2=0 then(match aE[(n/2).toNat]? with |some (.bo i j)=>[i,j] |_=>[])else []
noncomputable def xC(ls:List Ln)(k:Nat):Wt->Option Pr
 | .n i=>if 0<=i/\i<k then(ls[i.toNat]?).map λl=>(l.i,l.j)else none
 | .ps _=>none
noncomputable def sW(n:Int):Int:=n+1-2*(n % 2)
noncomputable def QL(w:Str):Option Int:=
 if w="same" then some 0 else if w="edge" then some 0 else if w="part" then some 0 else if w="both" then some 2 else if w="turn" then some 1 else if w="chain" then some 2 else if w="clash" then some 1 else none
noncomputable def yO(aE:List Rw)(i j:Int)(w:Str)(sd:List Pr):Bool:=
 if w="same" then i==j
 else if w="edge" then i==0 ||j==1
 else if w="part" then(uZ aE i).any λx=>x==j
 else if w="both" then(match uZ aE j with |[a,b]=>sd==[(i,a),(i,b)] |_=>false)
 else if w="turn" then sd==[(sW j,sW i)]
 else if w="chain" then(match sd with |[p,q]=>p.1==i&&p.2==q.1&&q.2==j |_=>false)
 else sd==[(i,sW i)]
noncomputable def jY(aX:List xK)(ls:List Ln)(k:Nat)(l:Ln):Bool:=
 match l.as with
 |[.n r,.ps ps]=>if 0<=r/\r<aX.length then(match aX[r.toNat]? with |some q=>(l.i,l.j)==q.2&&(ps.map λp=>xC ls k<|.n p)==q.1.map some |none=>false)else false
 |_=>false
noncomputable def yZ(aE:List Rw)(aX:List xK)(ls:List Ln)(k:Nat)(l:Ln):Bool:=
 if¬(0<=l.i/\l.i<2*aE.length)\/¬(0<=l.j/\l.j<2*aE.length)then false
 else if l.w="rule" then jY aX ls k l
 else if QL l.w=some (l.as.length:Int)/\(l.as.all λa=>(xC ls k a).isSome)=true then yO aE l.i l.j l.w (l.as.filterMap<|xC ls k)
 else false
theorem EW(n:Int):Builtin.bitXor n 1=sW n:=by
 rw[bitXor_and];unfold sW;rw[bitAnd_m1]
end
section
open PySem.SeqAt
theorem MZ{t sl:Addr}{cT:Array Value}{vl vu:Value}{lo hi:Option Int}(ht:IsTup s.heap t cT)(hs:s.heap.IsSliceOf sl vl vu .none)(pl:IsPart vl lo)(pu:IsPart vu hi)
 (hw:HT.sIx cT.size 0 lo=0/\HT.sIx cT.size cT.size hi=cT.size) (h:Q (.ref t) s):wpAny (model prog w) A (getItem (.ref t)<|.ref sl) Q E s:=by
 let⟨os,b,c,e⟩:=id hs;let d:s.TypeIs (.ref sl) "slice":=#[os,b,c]
 unfold getItem
 try with_reducible refine eM ?_
 first |refine aF (aV ?_) |skip
 calc aF (wpAny_sequenceKey ht.typeIs (by decide)<|aF<|nI (name:=Str.ofString "__getitem__") ht.typeIs eC<|gW eC ht.typeIs entry_tuple_getitem ?_<|args_tuple_getitem _ _);calc aF (m:=Builtin.Tuple.tupleItemsOf<|.ref t)<|tupleItemsOf_ ht<|aF<|iZ d ?_;rw[aL (by decide)];calc aF<|HT.sliceApplied_gen hs pl pu ?_;let a:((((HT.sIx cT.size 0 lo:Nat):Int)==0&&(1:Int)==1&&(HT.sIx cT.size cT.size hi-HT.sIx cT.size 0 lo)==cT.size)=true):=by
  rw[hw.1,hw.2];simp
 show wpAny _ _ (if(((HT.sIx cT.size 0 lo:Nat):Int)==0&&(1:Int)==1&&(HT.sIx cT.size cT.size hi-HT.sIx cT.size 0 lo)==cT.size)=true then _ else _) _ _ s;rw[aL a];let f:=ht.typeIs
 wp_walk
 exact#[_,rfl,aV h]
def SO:V->Option Int->Option Int->Hp->VK->Prop:=λx lo hi H Q=>mJ x λa=>∃xs,H a=some (.tup xs)/\∀p H',aW H H'->H' p=some (.tup<|qI xs lo hi)->Q (.ref p) H'
theorem YG:SlR X SO:=by
 intro aK s σ H x v f g lo hi sl Q I c hs pl d h;replace h:=yS h;let⟨a,rfl,xs,hx,q⟩:=h;by_cases b:HT.sIx xs.length 0 lo=0/\HT.sIx xs.length xs.length hi=xs.length
 ·cases c;let⟨its,r,ht,hz⟩:=I.tuple<|dH.of hx;let eR:its.toArray.size=xs.length:=by rw[aU];exact r.length.symm
  calc#["tuple",_,eC.lookup,ht.typeIs,?_];calc MZ ht hs pl d (by rw[eR];calc b) #[.ref a,H,I,rfl,q a H (aW.refl H) ?_];let e:qI xs lo hi=xs:=by
   unfold qI;rw[b.1,b.2,pJ,Nat.sub_zero,aQ<|aG _]
  rw[e];exact hx
 ·exact FL aK s σ H _ v f g lo hi sl Q I c hs pl d #[xs,dH.of hx,b,λp hp=>q p _ (zB hp _) zA]
def SR:R2:=λx y H Q=>mJ x λa=>mJ y λb=>∃xs,H a=some (.tup xs)/\∃ys,H b=some (.tup ys)/\xs.length+ys.length<=sizeLine/\∀p H',aW H H'->H' p=some (.tup<|xs++ys)->Q (.ref p) H'
theorem iq:pR X (binaryOp .Add) SR:=by
 intro aK s σ H x y v u Q I j k h;replace h:=yS h;let⟨a,rfl,h⟩:=h;replace h:=yS h;let⟨b,rfl,xs,ha,ys,hb,hz,q⟩:=h;by_cases hx:xs=[]
 ·subst hx;cases j;cases k;let⟨its,r1,o,_⟩:=I.tuple<|dH.of ha;let⟨c,w,p2,_⟩:=I.tuple<|dH.of hb;let hv:its=[]:=r1.nil_iff.mpr rfl;let⟨⟨cls,r,data,sl⟩,l,hc,n,hd⟩:=id o;let⟨⟨m,g,data2,i⟩,d,nQ,t,f⟩:=id p2;simp only at hc hd nQ f;subst hc hd nQ f;exact concat_meets #[_,l,rfl] #[_,d,rfl] noFill_tuple_add seq_tuple_add rS rN (rD _ _) (tuple_addW0 a b its.toArray c.toArray n t r g sl i (by simp[hv])) #[l,d,#[.ref b,H,I,rfl,q b H (aW.refl H) hb]]
 ·calc ip aK s σ H _ _ v u Q I j k #[xs,dH.of ha,ys,dH.of hb,hx,hz,λe=>?_,λ_ p hp=>q p _ (zB hp _) zA];subst e;exact q a H (aW.refl H) (by rw[cK];calc ha)
end
section
open PySem.SeqAt
end
section
variable {I:Addr} {wr:List Addr} {P:Nat->Value->Prop} {St:Nat->Shared->Prop}
end
theorem DH:∀{vs:List Value}{ss:List Int},vs.length=ss.length->(∀(i:Nat)(v:Value)(x:Int),vs[i]?=some v->ss[i]?=some x->∃t,v=.int x t)->IntsAre vs ss
 |[],[],_,_=>.nil
 |[],_::_,h,_=>by simp at h
 |_::_,[],h,_=>by simp at h
 |v::vs,x::ss,h,a=>by
  let⟨t,rfl⟩:=a 0 v x rfl rfl;exact .cons x t (DH (by simpa using h) λi v' b h1 h2=>a (i+1) v' b (by simpa using h1) (by simpa using h2))
section
open PySem.SeqAt PySem.W
theorem QP:∀{vs:List Value}{ss:List Int},IntsAre vs ss->dD (ss.map V.int) vs
 |_,_,.nil=>.nil
 |_,_,.cons y t h=>.cons #[t,rfl]<|QP h
section
variable {r:Addr} {P:Nat->Value->Prop} {OK:Heap->Prop}
end
end
section
open PySem.SeqAt
def Ite(a:Addr):It:=
 #[λi H=>∃xs x,H a=some (.lst xs)/\xs[i]?=some x,
  λi H v H'=>∃p x,v=.ref p/\H p=none/\H'=upd H p (.tup [.int i,x])/\∀xs,H a=some (.lst xs)->xs[i]?=some x,
  λi H=>∃xs,H a=some (.lst xs)/\xs.length<=i]
def Eat(e it l:Addr)(i:Nat)(h:Heap):Prop:=(∃old,IsEnum h e it i old)/\h.IsListIter it l i
theorem MX{elts:List Expr}{cx:_}{tp:Pos}(e it l:Addr)(ne:e≠it):
 OX P w K (.Tuple elts cx tp) (Ite l) [e,it] e (Eat e it l) where
 mem:=by simp
 obj:=λi h st b hb=>by
  let⟨⟨old,ge⟩,⟨o2,a,_,y⟩⟩:=st;simp only[bG,gJ,or_false]at hb;rcases hb with rfl |rfl
  ·exact#[_,ge,λv e=>by cases e]
  ·exact#[_,a,λv e=>by rw[y]at e;cases e]
 keep:=λi h h' st k=>by
  let⟨⟨old,ge⟩,⟨o2,a,A⟩⟩:=st;exact#[#[old,k _ (by simp) _ ge],#[o2,k _ (by simp) _ a,A]]
 item:=by
  intro X c d f hc i aK s σ H E I hf st g;subst c d f;let⟨xs,x,ha,hx⟩:=g;let⟨its,rv,t1⟩:=bN.lst_of I.hok ha;let⟨u,B,C⟩:=rv.get hx;let⟨⟨old,ge⟩,r1⟩:=st;refine wpAny_pyNext_enum_item ge r1 t1 (by simpa using B) ne λh1 b1 b2 D N F=>?_
  calc#[_,rfl,wpAny_letOwnedTupleGo_enum (s:={s with heap:=h1,toks:=s.toks+1}) b1 λh2 G s2=>?_];let be:e<s.heap.objs.size:=bC ge;let J:it<s.heap.objs.size:=by let⟨_,z,_⟩:=r1;exact bC z
  let keep2:∀b o,b∉[e,it]->s.heap.get? b=some o->h2.get? b=some o:=λb o hb q=>by
   simp only[bG,gJ,or_false,not_or]at hb;exact s2.extBut b o hb.1<|F b o hb.1 hb.2 q
  let j:H s.heap.objs.size=none:=I.hok.fresh<|aG _;let gT:=s2.extBut _ _ (rW be) D;refine#[.ref s.heap.objs.size,_,I.turnedN (t':=s.toks+1) (p:=s.heap.objs.size) (o:=.tup [.int i,x]) keep2 hf (aG _) #[small (by simp),[.int i s.toks,u],.cons #[_,rfl]<|.cons C .nil,#[_,gT,rfl,_,rfl]],rfl,#[_,x,rfl,j,rfl,λL t=>?_],?_,λb hb=>?_]
  ·rw[ha]at t;cases t;exact hx
  ·let⟨o2,m,n⟩:=b2;exact#[#[_,G],#[o2,s2.extBut _ _ (cE ne) m,n]]
  ·let r:b<s.heap.objs.size:=by
    simp only[bG,gJ,or_false]at hb;rcases hb with rfl |rfl
    ·exact be
    ·exact J
   rw[zE<|cH r];exact(hf b hb).1
 done:=by
  intro X c d f hc i aK s σ H E I hf st g;subst c d f;let⟨xs,ha,hl⟩:=g;let⟨its,rv,t1⟩:=bN.lst_of I.hok ha;let O:=rv.length;let⟨⟨old,ge⟩,r1⟩:=st;refine wpAny_pyNext_enum_end (I.ok.hd hc) ge r1 t1 (by simp;lia) λh1 M=>#[rfl,?_]
  calc I.turnedL (ch:=[it]) (t':=s.toks) (λb o hb q=>?_) (λb hb=>hf b (by simp only[bG,gJ,or_false]at hb⊢;calc .inr hb));simp only[bG,gJ,or_false]at hb;exact M b o hb q
 self:=λ_ _ _ _ _ st h=>by
  let⟨⟨old,ge⟩,_⟩:=st;exact wpAny_pyIter_enum ge h
def vH(ta:TA):TI:=λσ H R=>ta σ H λvs H1=>pW vs λx=>mJ x λa=>∃xs,H1 a=some (.lst xs)/\R (Ite a) H1
theorem gv{elts:List Expr}{cx:_}{tp:Pos}{a:Expr}{ta:TA}{pos:Pos}(hg:Gl X "enumerate")(hm:X.mg "enumerate"=none)(ha:PA X [a] ta)(hs:autoParam (starEach [a] X.env=[(false,eval a X.env)]) a1._auto_1):
 PI X (.Tuple elts cx tp) (.Call (.Name "enumerate" p) [a] [] pos) (vH ta):=by
 intro aK s σ H R I h;calc Call_ (qR I hg hm boot_enumerate<|dW (eP (ha pos aK s σ H _ I h) λus s1 z=>?_) (by rw[hs];rfl) (by rfl));let⟨vs,H1,d,r1,c⟩:=z;replace c:=vQ c;let⟨x,e,c⟩:=c;replace c:=yS c;let⟨i,rfl,xs,h1,q⟩:=c;subst e;cases r1 with
 |cons r j=>
  cases j;cases r;let⟨f,k,t1⟩:=bN.lst_of d.hok h1;refine call_enumerate_list t1 λh' g l _ m=>?_
  calc wpAny_pyIter_enum (s:={s1 with heap:=h'}) g ?_;let n:∀b,s1.heap.objs.size<=b->wU X aK H1 b:=λb hb=>d.fpOk hb<|d.hok.fresh hb
  calc#[_,[s1.heap.objs.size+1,s1.heap.objs.size],_,_,H1,rfl,d.kept (t':=s1.toks) m,MX _ _ i<|Nat.succ_ne_self _,#[#[_,g],l],λb hb=>?_,q];simp only[bG,gJ,or_false]at hb;rcases hb with rfl |rfl<;>exact n _ ()
theorem LX{g:TG}(Pv:Nat->St->Hp->Prop)(h0:Pv 0 σ H)(hl:∀i σ H,Pv i σ H->H a=some (.lst xs))
 (hs:∀(i:Nat) x σ H p,xs[i]?=some x->Pv i σ H->H p=none->g (.ref p) σ (upd H p<|.tup [.int i,x]) λσ2 H2=>tb {D with nx:=Pv (i+1),ct:=Pv (i+1),bk:=D.nx} σ2 H2)
 (hd:∀σ H,Pv xs.length σ H->D.nx σ H):JW (Ite a) g tb D σ H:=by
 calc#[λi m σ H=>m=xs.length-i/\i<=xs.length/\Pv i σ H,#[_,by rfl,bZ _,h0],λi m σ1 H1 z=>?_];let⟨hm,hi,hp⟩:=z;let b:=hl i σ1 H1 hp;by_cases h:i<xs.length
 ·refine .inr #[#[xs,_,b,aA h],Pv<|i+1,λσ' H' q=>#[_,?_,rfl,(),q],λv H' ⟨p,x,c,d,f,j⟩=>?_]
  ·lia
  ·subst c;subst f;exact hs i x σ1 H1 p (j xs b) hp d
 ·let e:i=xs.length:=by lia
  subst e;exact .inl #[#[xs,b,aG _],hd σ1 H1 hp]
theorem YT{g:TG}(Pv:Nat->St->Hp->Prop)(h0:Pv 0 σ H)(hl:∀i σ H,Pv i σ H->H a=some (.lst xs))
 (hs:∀(i:Nat) x σ H p,xs[i]?=some x->Pv i σ H->H p=none->∀N:St->Hp->Prop,(∀σ H,Pv (i+1) σ H->N σ H)->g (.ref p) σ (upd H p<|.tup [.int i,x]) λσ2 H2=>tb {D with nx:=N,ct:=N,bk:=D.nx} σ2 H2)
 (hd:∀σ H,Pv xs.length σ H->D.nx σ H):JW (Ite a) g tb D σ H:=LX Pv h0 hl (λi x σ H p a b c=>hs i x σ H p a b c _ λ_ _ z=>z) hd
theorem LI{g:TG}{Q:VK}(Pv:Nat->List V->St->Hp->Prop)(h0:Pv 0 [] (XY ns js σ) H)(hz:xs.length<=sizeLine)(hl:∀i ys σ H,Pv i ys σ H->ys.length<=i)
 (hK:∀i ys σ H,Pv i ys σ H->H a=some (.lst xs))
 (hs:∀(i:Nat) x ys σ H p (C:V->St->Hp->Prop),xs[i]?=some x->Pv i ys σ H->H p=none->(∀y σ2 H3,Pv (i+1) (ys++[y]) σ2 H3->C y σ2 H3)->g (.ref p) σ (upd H p<|.tup [.int i,x]) λσ2 H2=>te σ2 H2 λy H3=>C y σ2 H3)
 (hd:∀ys σ H,Pv xs.length ys σ H->∀p,H p=none->Q (.ref p) (upd H p<|.lst ys)):
 PN (Ite a) ns js g none te σ H Q:=
 LK (n:=xs.length) Pv h0 hz hl (λi ys σ H hi w=>#[xs,xs[i],hK i ys σ H w,aA hi]) (λys σ H w=>#[xs,hK _ ys σ H w,aG _])
  (λi ys σ H x H' C hi w z f=>by let⟨p,y,b,c,d,e⟩:=z;subst b;subst d;calc hs i y ys σ H p C (e xs<|hK i ys σ H w) w c f) hd
def Itd(hi:Int)(n:Nat):It:=#[λi _=>i<n,λi H x H'=>H'=H/\x=.int (hi-i),λi _=>n<=i]
theorem MY(it:Addr)(hi:Int)(n:Nat):OX P w K tg (Itd hi n) [it] it (λi h=>IsRangeIter h it (hi+(i:Nat)*(-1)) ((n:Int)-(i:Nat)) (-1)) where
 mem:=by simp
 obj:=λi h st b hb=>by
  let e:b=it:=by simpa using hb
  subst e;exact#[_,st,λv z=>by
   let q:Data.fields _=Data.cell v:=z;cases q]
 keep:=λi h h' st k=>k it (by simp) _ st
 item:=by
  intro X a c d hc i aK s σ H E I hf st f;subst a c d;let⟨g,j,r,l,m,p⟩:=hf it (by simp);let W:=Walks.range (prog:=X.prog) (w:=X.w) (I.ok.hd hc) it hi (-1) n;refine W.item i s _ _ f st λv h' tk hv cN u=>?_
  let⟨t,rfl⟩:=hv;let x:Inv X aK σ H {s with heap:=h',toks:=tk}:=I.turned (λb o hb e=>u b o (by simpa using hb) e) g j l m p;calc#[_,rfl,LU (s:={s with heap:=h',toks:=tk}) (n:="range_iterator") cN rfl rfl (by decide) #[.int<|hi-i,H,x,#[t,?_],#[rfl,rfl],cN,λb hb=>(hf b hb).1]];let e:hi-(i:Int)=hi+(i:Int)*(-1):=by lia
  rw[e]
 done:=by
  intro X a c d hc i aK s σ H E I hf st f;subst a c d;let⟨g,j,r,l,m,p⟩:=hf it (by simp);exact wpAny_pyNext_range_end (I.ok.hd hc) st (by have :n<=i:=f;lia) λh' y=>#[rfl,I.turned (t':=s.toks) (λb o hb e=>y b o hb e) g j l m p]
 self:=λ_ _ _ _ _ st h=>wpAny_pyIter_rangeiter st h
theorem QC(a:Int)(h:0<=a):Builtin.Range.rangeSize a (-1) (-1)=a+1:=by
 unfold Builtin.Range.rangeSize;rw[aI (by decide),aL ()];simp
theorem small_down{a:Int}(h:0<=a)(h2:a<2^62):Builtin.Range.small a (-1) (-1)=true:=by
 unfold Builtin.Range.small;rw[QC a h];simp only[Builtin.Range.rangeFitsLong,cD,oQ,bH,cP,show¬((-1:Int)>0) by decide,dJ];lia
def oh(ta:TA):TI:=λσ H R=>ta σ H λvs H1=>∃a:Nat,vs=[.int a,.int (-1),.int (-1)]/\a<100000/\R (Itd a<|a+1) H1
theorem gw{a b:Expr}{ta:TA}{pos:Pos}(hg:Gl X "range")(hm:X.mg "range"=none)(ha:PA X [a,b,c] ta)(hs:autoParam (starEach [a,b,c] X.env=[(false,eval a X.env),(false,eval b X.env),(false,eval c X.env)]) a1._auto_1)(hs2:autoParam (starEach [b,c] X.env=[(false,eval b X.env),(false,eval c X.env)]) a1._auto_1):
 PI X tg (.Call (.Name "range" p) [a,b,c] [] pos) (oh ta):=by
 intro aK s σ H R I h;calc Call_ (qR I hg hm boot_range<|dW (eP (ha pos aK s σ H _ I h) λus s1 z=>?_) (by rw[hs,hs2]) (by rw[hs2];rfl));let⟨vs,H1,j,r1,k⟩:=z;let⟨n,e,hn,q⟩:=k;subst e;cases r1 with
 |cons r f=>
  cases f with
  |cons l f=>
   cases f with
   |cons g f=>
    cases f;let⟨t,rfl⟩:=r;let⟨t',rfl⟩:=l;let⟨d,rfl⟩:=g;calc call_range_3 (by decide) ?_ (Or.inl<|PyProof.noPylong_small (by decide));calc wpAny_pyIter_range (IsRange.new ..) (small_down () ()) ?_;let i:Inv X aK σ H1 {s1 with heap:=s1.heap.push {cls:=.type "range",data:=.fields (List.toArray [.int n t,.int (-1) t',.int (-1) d])},toks:=s1.toks}:=j.kept λb o e=>aO _ e
    refine#[(s1.heap.push {cls:=.type "range",data:=.fields (List.toArray [.int n t,.int (-1) t',.int (-1) d])}).objs.size,[(s1.heap.push {cls:=.type "range",data:=.fields (List.toArray [.int n t,.int (-1) t',.int (-1) d])}).objs.size],_,_,H1,rfl,
     i.kept (t':=s1.toks) λb o e=>aO _ e,MY _ n<|n+1,?_,λb hb=>?_,q]
    ·let m:(n:Int)+((0:Nat):Int)*(-1)=n:=by simp
     let u:(((n+1:Nat):Nat):Int)-((0:Nat):Int)=Builtin.Range.rangeSize n (-1) (-1):=by rw[QC n ()];lia
     show IsRangeIter _ _ ((n:Int)+((0:Nat):Int)*(-1)) ((((n+1:Nat):Nat):Int)-((0:Nat):Int)) (-1);rw[m,u];exact bO _ rfl
    ·let e:b=(s1.heap.push {cls:=.type "range",data:=.fields (List.toArray [.int n t,.int (-1) t',.int (-1) d])}).objs.size:=by simpa using hb
     subst e;exact i.fpOk (aG _)<|i.hok.fresh<|aG _
theorem jx{hi:Int}{g:TG}(Pv:Nat->St->Hp->Prop)(h0:Pv 0 σ H)
 (hs:∀i σ H,i<n->Pv i σ H->g (.int<|hi-i) σ H λσ2 H2=>tb {D with nx:=Pv (i+1),ct:=Pv (i+1),bk:=D.nx} σ2 H2) (hd:∀σ H,Pv n σ H->D.nx σ H):JW (Itd hi n) g tb D σ H:=by
 calc#[λi m σ H=>m=n-i/\i<=n/\Pv i σ H,#[_,by rfl,bZ _,h0],λi m σ1 H1 z=>?_];let⟨hm,a,hp⟩:=z;by_cases h:i<n
 ·refine .inr #[h,Pv<|i+1,λσ' H' q=>#[_,?_,rfl,(),q],λv H' ⟨b,c⟩=>?_]
  ·lia
  ·subst b;subst c;exact hs i σ1 _ h hp
 ·let e:i=n:=by lia
  subst e;exact .inl #[aG _,hd σ1 H1 hp]
theorem jQ{k:Nat}{t:pf}{pos:Pos}(hc:X.calm=true)(h:xr X es t)(hK:autoParam (X.K=K) a1._auto_1)
 (hn:autoParam ((assignEach es X.env).length=n) a1._auto_1) (hst:autoParam ((assignEach es X.env).findIdx? (·.1)=none) a1._auto_1):PG X (.Tuple es k pos) (uP K n t):=by
 subst hK;exact FW hc h hn hst
end
theorem WT:∀n:Nat,0<n->∃t m,n=2^t*(2*m+1):=by
 intro n
 induction n using Nat.strongRecOn with
 |_ n a=>
  intro h;by_cases b:n % 2=1
  ·exact#[0,n/2,()]
  ·let⟨t,m,e⟩:=a (n/2) () ();calc#[t+1,m,?_];rw[Nat.pow_succ,Nat.mul_assoc,Nat.mul_left_comm,←e];lia
theorem ah(h:0<n):∃t,n.testBit t=true/\(∀i,i<t->n.testBit i=false)/\n-(n&&&(n-1))=2^t/\∀i,(n&&&(n-1)).testBit i=(n.testBit i&&decide (i≠t)):=by
 let⟨t,m,e⟩:=WT n h;let d:n=2^t*(2*m+1)+0:=by lia
 let hp:0<2^t:=dh t;let b:n-1=2^t*(2*m)+(2^t-1):=by
  rw[e,Nat.mul_add,Nat.mul_one];lia
 let b1:∀i,n.testBit i=if i<t then false else(2*m+1).testBit (i-t):=λi=>by
  rw[e,Nat.testBit_two_pow_mul];by_cases hi:i<t
  ·rw[aL hi,cJ (),fS]
  ·rw[aI hi,dA (),nZ]
 let b2:∀i,(n-1).testBit i=if i<t then true else(2*m).testBit (i-t):=λi=>by
  rw[b,Nat.testBit_two_pow_mul_add _ ()];by_cases hi:i<t
  ·rw[aL hi,aL hi,oZ,dA hi]
  ·rw[aI hi,aI hi]
 let ev:∀j,(2*m).testBit j=((2*m+1).testBit j&&decide (j≠0)):=λj=>by
  cases j with
  |zero=>simp
  |succ j=>
   rw[Nat.testBit_succ,Nat.testBit_succ];have :(2*m+1)/2=2*m/2:=by lia
   rw[this];simp
 let a:∀i,(n&&&(n-1)).testBit i=(n.testBit i&&decide (i≠t)):=λi=>by
  rw[lV,b1,b2];by_cases hi:i<t
  ·rw[aL hi,fS,fS]
  ·rw[aI hi,aI hi,ev];have :decide (i-t≠0)=decide (i≠t):=by
    rw[decide_eq_decide];lia
   rw[this];cases (2*m+1).testBit (i-t)<;>simp
 let c:n&&&(n-1)=2^t*(2*m):=by
  apply oG;intro i;rw[a,b1,Nat.testBit_two_pow_mul];by_cases hi:i<t
  ·rw[aL hi,show decide (i≥t)=false from cJ (),fS,fS]
  ·rw[aI hi,show decide (i≥t)=true from dA (),nZ,ev];have :decide (i-t≠0)=decide (i≠t):=by
    rw[decide_eq_decide];lia
   rw[this]
 refine#[t,?_,λi hi=>?_,?_,a]
 ·rw[b1,aI (),fJ];simp
 ·rw[b1,aL hi]
 ·rw[c,e,Nat.mul_add,Nat.mul_one];lia
def rR(n:Nat)(xs:List Nat):Prop:=xs.Pairwise (· < ·)/\∀i,n.testBit i=decide (i∈xs)
theorem rR.nil(h:rR n []):n=0:=oG λi=>by rw[h.2];simp
theorem rR.cons{n x:Nat}{xs:List Nat}(h:rR n (x::xs)):0<n/\n-(n&&&(n-1))=2^x/\rR (n&&&(n-1)) xs:=by
 let hx:n.testBit x=true:=by rw[h.2];simp
 let hn:0<n:=Nat.pos_of_ne_zero λz=>by rw[z]at hx;simp at hx
 let⟨t,t1,t2,a,b⟩:=ah hn;let hp:=ER.mp h.1;let e:t=x:=by
  rw[h.2,bH]at t1;rcases bG.mp t1 with e |e
  ·exact e
  ·have :=hp.1 t e;rw[t2 x this]at hx;cases hx
 subst e;calc#[hn,a,hp.2,λi=>?_];rw[b,h.2];by_cases hi:i=t
 ·subst hi;have :i∉xs:=λz=>dP _<|hp.1 i z
  simp[this]
 ·simp[hi]
section
open PySem.SeqAt
theorem DF:PIp X .BitOr (ay λi j=>Builtin.bitOr i j):=by
 intro aK s σ H x y v u Q I r1 a h;replace h:=jS h;let⟨i,b,h⟩:=h;replace h:=jS h;let⟨j,c,q⟩:=h;subst b;subst c;let⟨t,rfl⟩:=r1;let⟨t',rfl⟩:=a;exact ior_int #[.int _,H,I.tok _,#[_,rfl],q]
theorem vt:PIp X .BitAnd (ay λi j=>Builtin.bitAnd i j):=by
 intro aK s σ H x y v u Q I r1 a h;replace h:=jS h;let⟨i,b,h⟩:=h;replace h:=jS h;let⟨j,c,q⟩:=h;subst b;subst c;let⟨t,rfl⟩:=r1;let⟨t',rfl⟩:=a;exact iand_int #[.int _,H,I.tok _,#[_,rfl],q]
theorem vq:PIp X .BitXor (ay λi j=>Builtin.bitXor i j):=by
 intro aK s σ H x y v u Q I r1 a h;replace h:=jS h;let⟨i,b,h⟩:=h;replace h:=jS h;let⟨j,c,q⟩:=h;subst b;subst c;let⟨t,rfl⟩:=r1;let⟨t',rfl⟩:=a;exact ixor_int #[.int _,H,I.tok _,#[_,rfl],q]
def KI:V->V->Hp->VK->Prop:=λx y H Q=>mJ x λp=>∃(xs:List V)(i:Nat),y=.int i/\H p=some (.lst xs)/\∃v,xs[i]?=some v/\Q v H
theorem kM:PGet X KI:=by
 intro aK s σ H o i f g Q I b c h;replace h:=yS h;let⟨p,rfl,xs,k,rfl,hp,v,hk,q⟩:=h;cases b;let⟨t,rfl⟩:=c;let⟨its,r,pl,hz⟩:=I.list<|cX.of hp;let⟨w,d,a⟩:=r.get hk;let hl:=r.length;let e:=(aC.mp hk).1;let hs:=cQ;exact wpAny_getItem_list pl.isList () () (by simpa using d) #[v,H,I,a,q]
def KL:V->List V->Hp->VK->Prop:=λx vs H Q=>AE x λi=>as0 vs<|Q (.int<|Builtin.Int.intBits i) H
theorem JS:MtR X "int.bit_length" KL:=by
 intro aK s σ H x xs v us Q I a rv h;replace h:=jS h;let⟨i,rfl,h⟩:=h;replace h:=as0_ h;let⟨rfl,q⟩:=h;cases rv;let⟨t,rfl⟩:=a;exact call_int_bit_length #[.int _,H,I.tok _,#[_,rfl],q]
theorem KQ(K:W.Frag){f:Str}{pos:Pos}(he:PE X e ta)(hb:attributeBase e f X.env (eval e X.env)=eval e X.env)(hK:autoParam (X.K=K) a1._auto_1):PE X (.Attribute e f pos) (xS K ta f):=by
 subst hK;exact TL he hb
theorem not_not(x:Int):Builtin.bitNot (Builtin.bitNot x)=x:=by unfold Builtin.bitNot;lia
theorem kG(m n:Nat):Builtin.bitOr (m:Int) (n:Int)=((m|||n:Nat):Int):=by
 unfold Builtin.bitOr;rw[bitAnd_nn (by unfold Builtin.bitNot;lia) (by unfold Builtin.bitNot;lia),not_not,not_not,not_not];simp
theorem EK(m n:Nat):Builtin.bitAnd (m:Int) (n:Int)=((m&&&n:Nat):Int):=by
 rw[bitAnd_pp () ()];simp
theorem ag(h:0<n):Builtin.bitAnd (n:Int) (-(n:Int))=((n-(n&&&(n-1)):Nat):Int):=by
 rw[bitAnd_pn () ()];let e:(Builtin.bitNot (-(n:Int))).toNat=n-1:=by unfold Builtin.bitNot;lia
 rw[e,bS];have :=Nat.and_le_left (n:=n) (m:=n-1);lia
theorem d6{x:Nat}(h:n-(n&&&(n-1))=2^x)(hb:n.testBit x=true):Builtin.bitXor (n:Int) ((2^x:Nat):Int)=((n&&&(n-1):Nat):Int):=by
 rw[bitXor_and,EK];let e:n&&&2^x=2^x:=by
  apply oG;intro i;rw[lV,lM];by_cases hi:x=i
  ·subst hi;simp[hb]
  ·simp[hi]
 rw[e];have :=Nat.and_le_left (n:=n) (m:=n-1);lia
theorem b9(x:Nat):Builtin.Int.intBits ((2^x:Nat):Int)=x+1:=by
 unfold Builtin.Int.intBits;let hp:0<2^x:=dh x;rw[aI (by rw[cP];lia),Int.natAbs_natCast,Nat.log2_two_pow]
theorem uE(x:Nat):(1:Int)*2^(x:Int).toNat=((2^x:Nat):Int):=by
 rw[Int.one_mul,bS];simp
end
end L2
namespace L2
open PySem PySem.Spec PyProof.Rows PySem.SeqAt
variable {a b d f it l:Addr} {nf:Addr->List Int} {A:Around} {arr a₀:Array Keyed} {X:Cx} {e o:Expr} {base h h':Heap} {H:Hp} {z:Keyed} {κ:Keyed->Int} {S:Keyed->Prop} {aK:List (Addr×Obj)} {fp:List Addr} {es:List Expr} {M:Model} {ac bc ep i ia ib j n na nb t':Nat} {mF p pos':Pos} {P prog:Program} {K:W.Frag} {R:Result->Shared->Prop} {s:Shared} {kd:SortKind} {st st0:SortSt} {sp:Sp} {σ:St} {mg:Str->Option Value} {T:String} {α:Type} {v:V} {u:Value} {E Q:Value->Shared->Prop} {w:World}
local macro_rules | `(()) => `(by lia)
section
variable {K:Type} [DecidableEq K] {knd:HeapKind prog w K} {k:K} {xs:List (K×Addr×Value)}
theorem NG{v:Value}(hu:knd.room A)(hkey:knd.is s.heap k a)(hm:s.heap.DictOfH knd d xs)
 (h1:∀p,atKey xs k=some p->Q p.2 {s with toks:=s.toks+knd.draws k})
 (h2:atKey xs k=none->∀h',h'.DictOfH knd d (storedH xs k a v)->Heap.SameBut d s.heap h'->Q v {s with heap:=h',toks:=s.toks+knd.draws k})
 (hsz:xs.length<=sizeLine):wpAny (model prog w) A (dictSetDefault d (.ref a) v) Q E s:=by
 let⟨o,es,ep,c,hc,hd,he,f,hn⟩:=hm;unfold dictSetDefault
 try with_reducible refine eM ?_
 calc aF<|knd.pyHash hu hkey ?_;refine aF<|wpAny_dictFind_heap (s:={s with toks:=s.toks+knd.draws k}) hu hkey c hd he f hn ?_ ?_
 ·intro b;let g:k∉xs.map (·.1):=not_mem_keys_of_get b;refine aF (iK (aF (wpAny_updateDictKeys (hz:=by let e:=size_of_entries he;lia) (s:={s with toks:=s.toks+knd.draws k}) c hd (aV (h2 (sK b) _ #[_,_,ep+1,oT _ c<|Obj.isFreed_of_dict<|Obj.data_mapDictKeys hd _,
   hc.mapDictKeys _,Obj.data_mapDictKeys hd _,?_,?_,?_]<|mH ..)))))
  ·rw[IG<|sK b];simp[he,entryOfKey]
  ·rw[IG<|sK b];intro x hx;rcases bE.mp hx with hx |hx
   ·exact knd.keeps (f x hx) c hd<|mH ..
   ·simp only[aS]at hx;subst hx;exact knd.keeps hkey c hd<|mH ..
  ·rw[IG<|sK b];rw[aT,mS];calc#[hn,by simp,?_];intro x hx y hy;simp only[cI,pA,aS]at hy;subst hy;exact λe=>g<|e▸hx
 ·intro j p h;calc aF<|oE (s:={s with toks:=s.toks+knd.draws k}) c hd ?_;rw[entry_at he j,h];exact aF<|iK<|aV<|h1 p<|atKey_of_get hn h
theorem FO(hd:(d==sysModules)=false)(dflt:Value):
 MeetsIn prog w (Builtin.«dict.setdefault» #[[.ref d,.ref a,dflt],[]]) (λA R s=>knd.room A.in1/\∃k xs,knd.is s.heap k a/\s.heap.DictOfH knd d xs/\xs.length<=sizeLine/\
  (∀p,atKey xs k=some p->R (.ok<|.ret p.2) {s with toks:=s.toks+knd.draws k})/\
  (atKey xs k=none->∀h',h'.DictOfH knd d (storedH xs k a dflt)->Heap.SameBut d s.heap h'->R (.ok<|.ret dflt) {s with heap:=h',toks:=s.toks+knd.draws k})):=
 .of_wp λA R s z=>by
  let⟨e,k,xs,b,hm,hz,h1,h2⟩:=z
  unfold Builtin.«dict.setdefault»;calc aF ?_;unfold Builtin.Dict.keyAndDefault;calc aF<|oR hm.typeIs ?_;show wpAny _ _ (pure (d,Value.ref a,some dflt)) _ _ s;calc aV ?_;show wpAny _ _ (if(d==sysModules)=true then _ else(dictSetDefault d (.ref a) dflt >>= _)) _ _ s;rw[aI (by rw[hd];calc cG)];exact aF (NG e b hm (λp hp=>aV #[p.2,rfl,h1 p hp]) (λhn h' c iA=>aV #[dflt,rfl,h2 hn h' c iA]) hz)
end
theorem NJ(h:mZ (some v) (some u)):RelV v u:=h
def md(td ty tx:TE):TE:=λσ H Q=>td σ H λx H1=>∃a,x=.ref a/\IsD H1 a/\ty σ H1 λy H2=>tx σ H2 λz H3=>∃(kvs:List (List fC×V))(k:List fC)(b:Addr),H3 a=some (.dT kvs)/\y=.ref b/\H3 b=some (.tup<|k.map kV)/\kvs.length<sizeLine/\
 (∀v,yB kvs k=some v->Q v H3)/\(yB kvs k=none->Q z (upd H3 a<|.dT<|jC kvs k z))
section
variable {f:Expr} {lB:Pos} {td ty tx:TE}
theorem gx(hu:X.A.units+1<cLine)(ho:PE X o td)(he:PE X e ty)(hf:PE X f tx)(m:M2 X o "setdefault" mF e f lB):PE X (.Call (.Attribute o "setdefault" mF) [e,f] [] lB) (md td ty tx):=by
 intro aK s σ H Q I h;calc lq m.base m.few m.line rM df F.type_dict_setdefault (eP (ho aK s σ H _ I h) λu s1 p=>?_);let⟨x,H1,j,C,a,ex,d,D⟩:=p;subst ex;obtain rfl:u=Value.ref a:=C;let⟨t1,t2,_⟩:=aw j d;calc#[t1,t2,?_];rw[m.trees];refine lA rfl (pL (fV (eP (he aK s1 σ H1 _ j D) λE s2 ⟨y,H2,G,J,K⟩=>
  fV (eP (hf aK s2 σ H2 _ G K) λL U ⟨z,n,g,rz,kvs,k,b,e,M,r,l,N,O⟩=>lJ ?_))))
 subst M;cases (show E=Value.ref b from J);let⟨P,hd,xs,rel,t⟩:=oq g.hok e;let hz:xs.length<=sizeLine:=by rw[←fD rel];exact P
 let hl:(jC kvs k z).length<=sizeLine:=by have :=qM kvs k z;lia
 refine tX df t.typeIs F.entry_dict_setdefault (F.args_dict_setdefault_3 _ _ _) (FO (knd:=tupleKind<|zR X.prog X.w) hd L) #[eJ hu,k,xs,vE g.hok r,t,hz,λp hp=>?_,λhn h' i hs=>?_]
 ·let rv:=rel.val k;rw[hp]at rv;cases hv:yB kvs k with
  |none=>rw[hv]at rv;cases rv
  |some v=>
   rw[hv]at rv;exact#[v,n,g.tok _,NJ rv,N v hv]
 ·let rv:=rel.val k;rw[hn]at rv;let hv:yB kvs k=none:=by
   cases hv:yB kvs k with
   |none=>rfl
   |some v=>rw[hv]at rv;cases rv
  let⟨q,es,ep,hq,h2,R,S,_,T⟩:=i;calc#[z,upd n a<|.dT<|jC kvs k z,vY g (by rw[e];calc True.intro) hs #[q,hq] #[hl,hd,_,(rel.put k r rz).keeps λc ys B=>?_,q,es,ep,hq,h2,R,S,T],rz,O hv];rw[zE<|jI B e λz=>nomatch z];exact B
end
section
open PySem.W
def oW(h:Heap)(d:Addr)(es:Array DictEntry)(ep:Nat):Prop:=∃o,h.get? d=some o/\o.ExactDict/\o.data=.dict es ep
theorem oW.typeIs{es:Array DictEntry}(x:oW s.heap d es ep):s.TypeIs (.ref d) "dict":=let ⟨o,a,hc,_⟩:=x;#[o,a,hc.1]
theorem oW.at'{es:Array DictEntry}(x:oW h d es ep)(e:∀o,h.get? d=some o->h'.get? d=some o):oW h' d es ep:=let ⟨o,a,r⟩:=x;#[o,e _ a,r]
theorem oW.lt{es:Array DictEntry}(x:oW h d es ep):d<h.objs.size:=let ⟨_,a,_⟩:=x;bC a
theorem f9(d:Addr)(hd:(d==sysModules)=false):MeetsIn prog w (Builtin.«dict.__len__» #[[.ref d],[]]) (λ_ R s=>∃es ep,oW s.heap d es ep/\R (.ok<|.ret<|.int es.size s.toks) {s with toks:=s.toks+1}):=
 .of_wp λA R s z=>by
  let⟨es,ep,hm,h⟩:=z
  let⟨o,a,c,b⟩:=id hm;show wpAny _ _ (dictSize d >>= _) _ _ s;unfold dictSize;calc aF<|aF<|oE a b<|aV ?_;show wpAny _ _ (Builtin.Dict.pendingCount d >>= _) _ _ s;calc aF<|wpAny_pendingCount_other hd ?_;calc wpAny_ret_mkInt ?_;rw[Nat.add_zero];exact h
theorem UE:∀{ys:List V}{us:List Value},ys.length=us.length->(∀(i:Nat)(y:V)(u:Value),ys[i]?=some y->us[i]?=some u->RelV y u)->dD ys us
 |[],[],_,_=>.nil
 |[],_::_,h,_=>by simp at h
 |_::_,[],h,_=>by simp at h
 |y::ys,u::us,h,a=>.cons (a 0 y u rfl rfl) (UE (by simpa using h) λi b c h1 h2=>a (i+1) b c (by simpa using h1) (by simpa using h2))
end
section
open PySem.W
section
variable {J:Addr} {wr:List Addr} {P:Nat->Value->Prop} {St:Nat->Heap->Prop}
end
theorem wy:bootBuiltins "any"=some (.builtin "any"):=by decide+kernel
theorem b7:jL X (.builtin "any") (λxs H Q=>X.calm=true/\∃(p:Addr)(bs:List Bool),xs=[.ref p]/\cX X.K H p (bs.map V.bl)/\Q (.bl<|bs.any id) H):=by
 intro aK s σ H xs us Q I r h;let⟨hc,p,bs,rfl,hp,q⟩:=h;let⟨u,rfl,d⟩:=jN r;cases d;let⟨its,rv,hl,hz⟩:=I.list hp;let lT:p<s.heap.objs.size:=by let⟨_,e,_⟩:=hl.isList;exact bC e
 let eR:=rv.length;rw[aD]at eR;calc call_any_walk<|oC hl.isList ?_;refine#[_,_,_,_,_,_,λi=>bs.getD i false,rfl,Walks.list (A:=X.A.in1) (I.ok.hd hc) s.heap.objs.size p (cH lT) its.toArray,#[#[_,bO _ rfl,rfl,rfl],hl.isList.push _],λi v s' j l hv f=>?_,λh' tk k=>?_]
 ·let hv:its[i]?=some v:=by simpa using hv
  let hi:i<bs.length:=by
   have :=(aC.mp hv).1;lia
  let⟨m,a,c⟩:=rv.get (i:=i) (x:=.bl bs[i]) (by rw[aJ,aA hi];rfl);rw[hv]at a;cases a;let e:v=Value.bool bs[i]:=c;subst e;calc fL ?_;let g:bs.getD i false=bs[i]:=by rw[bW,aA hi];rfl
  rw[←g];exact f
 ·refine#[.bl<|bs.any id,H,?_,?_,q]
  ·exact I.kept (h':=h') (t':=tk) λb o e=>k b o (by intro hm;have :=aS.mp hm;calc absurd (this▸bC e)<|dP _)<|aO _ e
  ·let e:(List.range its.toArray.size).any (λi=>bs.getD i false)=bs.any id:=by
    rw[aU,←eR];rw[bY,dO,dO];constructor
    ·rintro⟨i,hi,h⟩;let hi:=bL.mp hi;rw[bW,aA hi]at h;exact#[_,cO hi,h]
    ·rintro⟨b,hb,h⟩;let⟨i,hi,rfl⟩:=dI hb;calc#[i,bL.mpr hi,?_];rw[bW,aA hi];exact h
   show Value.bool _=_;rw[e]
end
section
open PySem.W
end
section
open PySem.W
def tLRg(ta:TA):TE:=λσ H Q=>ta σ H λvs H1=>∃n:Nat,vs=[.int n]/\n<=100000/\∀l,H1 l=none->Q (.ref l) (upd H1 l<|.lst ((List.range n).map λi:Nat=>V.int i))
theorem UZ{ta:TA}{p' ap pos:Pos}(hg:Gl X "list")(hm:X.mg "list"=none)(hg':Gl X "range")(hm':X.mg "range"=none)(hc:X.calm=true)(ha:PA X [o] ta)(hs:autoParam (starEach [o] X.env=[(false,eval o X.env)]) a1._auto_1)
 (he:autoParam (starEach [Expr.Call (.Name "range" p') [o] [] ap] X.env=[(false,eval (.Call (.Name "range" p') [o] [] ap) X.env)]) a1._auto_1):PE X (.Call (.Name "list" p) [.Call (.Name "range" p') [o] [] ap] [] pos) (tLRg ta):=by
 intro aK s σ H Q I h;calc fH (qR I hg hm kQ ?_ (by decide) (by decide));calc dW ?_ he (by rfl);rw[he];show wpAny _ _ (spliced [(false,_)]) _ _ s;calc fV ?_;calc fH (qR I hg' hm' b8 ?_ (by decide) (by decide));calc dW (eP (ha ap aK s σ H _ I h) λus s1 z=>?_) (by rw[hs];rfl) (by rfl);let⟨vs,H1,k,r1,n,e,hn,q⟩:=z;subst e;let⟨u,rfl,t,rfl⟩:=jN r1;calc call_range_1 ?_;calc lJ ?_;let d:Builtin.Range.rangeSize 0 (n:Int) 1=((n:Nat):Int):=by rw[rangeSize_one];split<;>lia
 refine call_list_range (n:=n) (I.ok.hd hc) (IsRange.new ..) (small_one () () () ()) d () λh' tk acc l hk m c=>?_
 let j:Inv X aK σ H1 {s1 with heap:=s1.heap.push {cls:=Value.type "range",data:=Data.fields (List.toArray [Value.int 0 s1.toks,Value.int (n:Int) t,Value.int 1<|s1.toks+1])},toks:=s1.toks+1+1}:=k.kept λb o e=>aO _ e
 let f:acc.toList.length=n:=by rw[bR];exact c.1
 let vals:dD ((List.range n).map λi:Nat=>V.int i) acc.toList:=by
  refine UE (by rw[aD,dG,f]) λi y u hy g=>?_
  let hi:=(aC.mp g).1;rw[cC]at g;let⟨r,e⟩:=c.2 i u g;rw[aJ,List.getElem?_range ()]at hy;let hy:V.int (i:Int)=y:=cU hy;subst hy e;exact#[r,by simp]
 exact#[.ref _,_,j.laid (a:=_) (o:=.lst ((List.range n).map λi:Nat=>V.int i)) (t':=tk) hk (aG _) #[by rw[aD,dG,cQ];lia,acc.toList,l,vals,by rw[lE];calc m],rfl,q _<|j.hok.fresh<|aG _]
end
section
open PySem.SeqAt
section
variable {b1 b2:Bool}
end
end
section
open PySem.W
section
variable {Kt:Type} [DecidableEq Kt] {knd:HeapKind prog w Kt}
def oJ(knd:HeapKind prog w Kt)(h:Heap)(d:Addr)(xs:List (Kt×Addr×Value)):Prop:=
 ∃o es ep,h.get? d=some o/\o.ExactDict/\o.data=.dict es ep/\es.toList=xs.map (entryOfKey knd)/\(xs.map (·.1)).Nodup
theorem oJ.full{xs:List (Kt×Addr×Value)}(x:oJ knd h d xs)(hk:∀y∈xs,knd.is h y.1 y.2.1):h.DictOfH knd d xs:=by
 let⟨o,es,ep,h1,h2,a,b,c⟩:=x;exact#[o,es,ep,h1,h2,a,b,hk,c]
theorem oJ.of{xs:List (Kt×Addr×Value)}(x:h.DictOfH knd d xs):oJ knd h d xs:=by
 let⟨o,es,ep,h1,h2,a,b,_,c⟩:=x;exact#[o,es,ep,h1,h2,a,b,c]
theorem oJ.at{xs:List (Kt×Addr×Value)}(x:oJ knd h d xs)(e:∀u,h.get? d=some u->h'.get? d=some u):oJ knd h' d xs:=by
 let⟨o,es,ep,h1,r⟩:=x;exact#[o,es,ep,e _ h1,r]
theorem UK{xs:List (Kt×Addr×Value)}(hn:(xs.map (·.1)).Nodup){k:Kt}{v:Value}(h:xs[i]?=some (k,a,v)):storedH (xs.take i) k a v=xs.take (i+1):=by
 let⟨d,c⟩:=aC.mp h;let b:atKey (xs.take i) k=none:=by
  unfold atKey;rw[rV,List.find?_eq_none];intro x hx;let⟨j,f,e⟩:=dI hx;rw[bF]at f;rw[IK]at e;intro hk;let hk:x.1=k:=by simpa using hk
  exact dQ.mp hn j i (by rw[aD];lia) (by rw[aD];lia) () (by simp[e,c,hk])
 rw[IG b,aP d,c]
theorem BR{its:Array Value}{xs:List (Kt×Addr×Value)}{h0:Heap}(hu:knd.room A.in1)(hA:A.handled=none)(hdi:d≠it)(hl:h0.IsList l its)(hd0:∀u,h0.get? d≠some u)(hi0:∀u,h0.get? it≠some u)
 (mono:∀{h h':Heap}{k:Kt}{a:Addr},(∀b u,h.get? b=some u->h'.get? b=some u)->knd.is h k a->knd.is h' k a)
 (hn:(xs.map (·.1)).Nodup) (hsz:xs.length<=sizeLine) (eR:its.size=xs.length) (hp:∀(i:Nat)(k:Kt)(b:Addr)(v:Value),xs[i]?=some (k,b,v)->∃a:Addr,its[i]?=some (Value.ref a)/\IsTup h0 a (List.toArray [.ref b,v])/\knd.is h0 k b):
 ∀(m i:Nat)(t:Tok)(s:Shared),xs.length-i=m->i<=xs.length->s.heap.IsListIter it l i->oJ knd s.heap d (xs.take i)->(∀b u,h0.get? b=some u->s.heap.get? b=some u)->
 (∀h' t',(∀b u,h0.get? b=some u->h'.get? b=some u)->oJ knd h' d xs->R (.ok<|.ret .none) {s with heap:=h',toks:=t'})->
 codeAny (model prog w) A (.builtin "dict.update.loop" #[[.ref d,.ref it,.int i t,.none],[]]) R s:=by
 let nT:∀x∈xs,knd.is h0 x.1 x.2.1:=λx hx=>by
  let⟨i,hi⟩:=lD hx;let⟨a,_,_,h⟩:=hp i x.1 x.2.1 x.2.2 hi;exact h
 intro m
 induction m with
 |zero=>
  intro i t s hm hi f hd hk D;let hin:i=xs.length:=by lia
  subst hin;let iT:s.heap.IsList l its:=by let⟨o,g,r⟩:=hl;exact#[o,hk _ _ g,r]
  calc mY F.entry_dul ?_;rw[iI F.plain_dul _];show wpAny _ A.in1 (pyNext (.ref it) >>= _) _ _ s;calc aF (EQ (A:=A.in1) hA f iT (by rw[lw];lia) λh' he=>?_);rw[aQ<|aG _]at hd;show wpAny _ A.in1 (Builtin.Dict.addKeywords d [] >>= _) _ _ _;refine aF (aV<|aV<|D h' s.toks (λb u hb=>he b u (λz=>hi0 u (by rw[←z];calc hb))<|hk b u hb)<|hd.at λu h=>he _ u hdi h)
 |succ m K=>
  intro i t s hm hi f hd hk D;let lT:i<xs.length:=by lia
  let iT:s.heap.IsList l its:=by let⟨o,g,r⟩:=hl;exact#[o,hk _ _ g,r]
  let⟨a,ha,ht,j⟩:=hp i xs[i].1 xs[i].2.1 xs[i].2.2 (aA lT);calc mY F.entry_dul ?_;rw[iI F.plain_dul _];show wpAny _ A.in1 (pyNext (.ref it) >>= _) _ _ s;calc aF (tV (A:=A.in1) f iT ha λh1 n p=>?_);let c:∀b u,h0.get? b=some u->h1.get? b=some u:=λb u hb=>(p.2 b λz=>hi0 u (by rw[←z];calc hb)).trans (hk b u hb)
  let E:oJ knd h1 d (xs.take i):=hd.at λu h=>(p.2 d hdi).trans h
  let⟨M,G,H,N,I⟩:=ht;let e:=c _ _ G;let L:({s with heap:=h1}:Shared).TypeIs (.ref a) "tuple":=#[_,e,H]
  calc aF<|eM<|aF ?_;calc wpAny_tryCatch ?_;unfold Builtin.Dict.pairItems;calc aF<|iZ L ?_;rw[aL (by decide)];calc aF<|wpAny_seqItems e I<|aV ?_;calc eM (wpAny_dictSet_heap (xs:=xs.take i) hu (mono c j) (E.full λy hy=>mono c<|nT y<|fQ hy) (λh2 q B=>?_) (by rw[bF];lia));rw[UK hn<|show xs[i]?=some (xs[i].1,xs[i].2.1,xs[i].2.2)from aA lT]at q;calc aV #[pG F.plain_dul _,?_];let J:∀b u,h0.get? b=some u->h2.get? b=some u:=λb u hb=>(B.2 b λz=>hd0 u (by rw[←z];calc hb)).trans (c b u hb)
  let C:h2.IsListIter it l (i+1):=by let⟨o,g,r⟩:=n;exact#[o,(B.2 _<|cE hdi).trans g,r]
  exact K (i+1) _ {s with heap:=h2,toks:=s.toks+knd.draws xs[i].1} () lT C (.of q) J D
theorem qZ{its:Array Value}{xs:List (Kt×Addr×Value)}(hu:knd.room A.in1.in1)(hA:A.handled=none)(hl:PlainL s.heap l its)(mono:∀{h h':Heap}{k:Kt}{a:Addr},(∀b u,h.get? b=some u->h'.get? b=some u)->knd.is h k a->knd.is h' k a)
 (hn:(xs.map (·.1)).Nodup) (hsz:xs.length<=sizeLine) (eR:its.size=xs.length) (hp:∀(i:Nat)(k:Kt)(b:Addr)(v:Value),xs[i]?=some (k,b,v)->∃a:Addr,its[i]?=some (Value.ref a)/\IsTup s.heap a (List.toArray [.ref b,v])/\knd.is s.heap k b)
 (h:∀h' t',(∀b u,s.heap.get? b=some u->h'.get? b=some u)->oJ knd h' s.heap.objs.size xs->Q (.ref s.heap.objs.size) {s with heap:=h',toks:=t'}):
 wpAny (model prog w) A (call (.type "dict") [.ref l]) Q E s:=by
 calc callType_codes (Q₁:=λobj s₁=>obj=.ref s.heap.objs.size/\s₁={s with heap:=s.heap.push {cls:=.type "dict",data:=.dict (List.toArray [])}}) F.kt_called_dict (lr _) F.entry_dict_init (kt_code_dict_new _ #[rfl,rfl]) ?_;rintro obj s₁ ⟨rfl,rfl⟩;let c:(s.heap.push {cls:=.type "dict",data:=.dict (List.toArray [])}).DictOfH knd s.heap.objs.size []:=Heap.DictOfH.new s.heap;calc#[c.typeIs,F.args_dict_init_2 _ _,?_];let⟨ol,M,q,n,r,x⟩:=hl;let f:(s.heap.push {cls:=.type "dict",data:=.dict (List.toArray [])}).get? l=some ol:=aO _ q;let K:({s with heap:=s.heap.push {cls:=.type "dict",data:=.dict (List.toArray [])}}:Shared).TypeIs (.ref l) "list":=#[_,f,n]
 unfold Builtin.«dict.__init__»;calc aF ?_;unfold Builtin.Dict.selfAndRest;calc aF<|oR c.typeIs ?_;show wpAny _ _ (pure (s.heap.objs.size,[Value.ref l])) _ _ _;calc aV ?_;show wpAny _ _ (Builtin.Dict.updateFrom "dict.__init__" s.heap.objs.size (.ref l) [] .none) _ _ _;unfold Builtin.Dict.updateFrom;calc aF<|iZ K ?_;rw[aL (by decide)];let p:∀b u,s.heap.get? b=some u->(s.heap.push {cls:=.type "dict",data:=.dict (List.toArray [])}).get? b=some u:=λb u e=>aO _ e
 let y:∀u,s.heap.get? s.heap.objs.size≠some u:=λu z=>dP _<|bC z
 let⟨j,g,d,t,os⟩:=s;dsimp only at *;generalize j.push {cls:=.type "dict",data:=.dict (List.toArray [])}=h1 at c f K p⊢;generalize j.objs.size=D at c y h⊢;let⟨N,O,P,R⟩:=ol;dsimp only at n r x;subst n r x;calc aF (WU (A:=A.in1.in1) hA f λh2 t2 m=>?_);rw[aL (by rfl)];calc aF<|iK ?_;let G:h2.IsList l its:=#[_,m _ _ f,rfl,_,rfl]
 calc aF<|oC G ?_;calc aV #[pG F.plain_dul _,?_];let B:=(oJ.of c).at λu h=>m _ u h
 let C:∀u,j.get? h2.objs.size≠some u:=λu z=>dP _<|bC<|m _ _<|p _ _ z
 let H:D≠h2.objs.size:=λz=>by
  let⟨o,_,_,L,_⟩:=B;exact dP _ (by have :=bC L;rw[z]at this;calc this)
 refine BR (h0:=j) (xs:=xs) (A:=A.in1) hu hA H #[_,q,rfl,_,rfl] y C mono hn hsz eR hp xs.length 0 _ _ () (bZ _) #[_,bO _ rfl,rfl,rfl] (B.at λu h=>aO _ h) (λb u hb=>aO _<|m _ _<|p _ _ hb) λh' t' I J=>?_
 exact#[rfl,h h' t' I J]
end
theorem IR{k:List fC}(e:∀b u,h.get? b=some u->h'.get? b=some u)(x:(tupleKind<|zR P w).is h k a):(tupleKind<|zR P w).is h' k a:=by
 let⟨o,its,n,h1,r⟩:=x;exact#[o,its,n,e _ _ h1,r]
theorem QH{H:Hp}{h:Heap}:∀(kvs:List (List fC×V))(as:List Addr),(∀(i:Nat)(k:List fC)(v:V),kvs[i]?=some (k,v)->∃(a b:Addr)(its:List Value),as[i]?=some a/\dD [.ref b,v] its/\IsTup h a its.toArray/\H b=some (.tup<|k.map kV))->
 ∃xs,KT H kvs xs/\∀(i:Nat)(k:List fC)(b:Addr)(v:Value),xs[i]?=some (k,b,v)->∃a,as[i]?=some a/\IsTup h a (List.toArray [.ref b,v])/\H b=some (.tup<|k.map kV)
 |[],as,hk=>#[[],.nil,λi k b v e=>by simp at e]
 |(k,v)::kvs,as,hk=>by
  let⟨d,b0,its,h1,h2,f,c⟩:=hk 0 k v rfl;cases as with
  |nil=>cases h1
  |cons a as=>
  cases h1;let⟨xs,g,j⟩:=QH kvs as λi k v e=>hk (i+1) k v e
  let⟨p,l,rfl,r1,m⟩:=vals2 h2;cases r1;calc#[(k,b0,l)::xs,.cons #[rfl,c,m] g,λi n o v' e=>?_];cases i with
  |zero=>cases e;exact#[d,rfl,f,c]
  |succ i=>exact j i n o v' e
theorem DV(hu:X.A.units+2<cLine):jL X (.type "dict") (λxs H Q=>dr X.calm (pW xs λx=>mJ x λp=>∃as:List Addr,cX X.K H p (as.map V.ref)/\∃kvs:List (List fC×V),as.length=kvs.length/\(kvs.map (·.1)).Nodup/\
 (∀(i:Nat)(k:List fC)(v:V),kvs[i]?=some (k,v)->∃a b,as[i]?=some a/\dH X.K H a [.ref b,v]/\H b=some (.tup<|k.map kV))/\∀l,H l=none->Q (.ref l) (upd H l<|.dT kvs))):=by
 intro aK s σ H xs us Q I r h;replace h:=EJ h;let⟨hc,h⟩:=h;replace h:=vQ h;let⟨N,rfl,h⟩:=h;replace h:=yS h;let⟨p,rfl,as,hp,kvs,eR,hn,hk,q⟩:=h;let⟨u,rfl,C⟩:=jN r;cases C;let⟨its,rv,hl,hz⟩:=I.list hp;let nO:=rv.length;rw[aD]at nO hz;let⟨vs,d,B⟩:=QH (H:=H) (h:=s.heap) kvs as λi k v e=>by
  let⟨a,b,f,g,j⟩:=hk i k v e;let⟨its,D,t2,_⟩:=I.tuple g;exact#[a,b,its,f,D,t2,j]
 let m:kvs.length=vs.length:=fD d;let n:vs.map (·.1)=kvs.map (·.1):=by
  clear hn B m hk eR q
  induction d with
  |nil=>rfl
  |cons h _ E=>rw[cI,cI,E,h.1]
 refine qZ (knd:=tupleKind<|zR X.prog X.w) (xs:=vs) (show X.A.in1.in1.units<cLine from ?_) (I.ok.hd hc) hl IR (by rw[n];calc hn) () (by rw[aU];lia) (λi k b v e=>?_) λh' t' t y=>?_
 ·exact hu
 ·let⟨a,f,g,j⟩:=B i k b v e;let⟨u,h1,h2⟩:=rv.get (i:=i) (x:=V.ref a) (by rw[aJ,f];rfl);cases h2;exact#[a,by simpa using h1,g,vE I.hok j]
 ·let⟨o,es,ep,F,G,J,L,M⟩:=y;let c:=I.hok.fresh<|aG s.heap.objs.size;calc#[.ref s.heap.objs.size,_,I.laid (a:=s.heap.objs.size) (o:=.dT kvs) (t':=t') t (aG _) #[(),cR.mpr<|cE<|cH I.big,vs,?_,o,es,ep,F,G,J,L,M],rfl,q _ c];exact KT.keeps d λb ys e=>by rw[zE λz=>by rw[z,c]at e;cases e];exact e
structure tS(P:Program)(w:World)(K:W.Frag)(mg:Str->Option Value)(base:Heap)(k:Nat)(f:Addr)(ps:List Str)(sp:Sp):Prop where
 ex:∃fd,dC P w K mg base fU k f fd ps sp/\Binds K fd ps []/\W.keepIn K (.ref f)=true
def UJ(i:Nat)(f:Addr)(tc:TE):TE:=λσ H Q=>σ[i]?=some (some<|.ref f)/\tc σ H Q
section
variable {k:Nat} {x:Str} {ps:List Str} {pos:Pos} {t:TA}
theorem fZ.at{k:Nat}(h:fZ P w K mg base k x ps sp)(hm:mg x=some (.ref f)):tS P w K mg base k f ps sp:=by
 let⟨g,fd,F,b,kp,m⟩:=h.ex;rw[hm]at m;cases m;exact#[fd,F,b,kp]
theorem BM(h:tS X.prog X.w X.K X.mg X.base k f ps sp)(hr:gE k X.A)(ha:PA X (e::es) t)(hN:autoParam (X.N[i]?=some x) a1._auto_1)(hv:Vis X.env.scope x:=by first |exact Or.inl rfl |exact Or.inr (Or.inl rfl) |exact Or.inr<|Or.inr rfl)
 (hdb:autoParam ((x==("__debug__":Str))=false) a2._auto_1) (hcd:autoParam ((x==("__classdict__":Str))=false) a2._auto_1)
 (he:autoParam (starEach (e::es) X.env=(false,eval e X.env)::starEach es X.env) a1._auto_1) (hpl:autoParam ((backTo pos<|starEach es X.env).any (·.1)=false) a1._auto_1):PE X (.Call (.Name x p) (e::es) [] pos) (UJ i f<|RL sp [] E0 t):=by
 let⟨fd,F,b,kp⟩:=h.ex;intro aK s σ H Q I h;let⟨h1,h2⟩:=h;calc fH (eP (TB hN hv hdb hcd aK s σ H (λv H'=>v=.ref f/\H'=H) I (by show asV _ _;rw[h1];calc#[rfl,rfl])) λu s1 z=>?_);let⟨v,H1,c,r,d,g⟩:=z;subst d g;obtain rfl:u=.ref f:=r;calc pI (h₀:=X.base) I.ok.mod.kin kp (eP (ha pos aK s1 σ H1 _ c h2) λus s2 ⟨vs,H2,a,r,q⟩=>#[a.kIn,?_]) he hpl;exact FR F hr b .nil KS a r q
theorem VA(hm:X.mg x=some (.ref f))(hg:Gl X x)(hd:autoParam ((x==("__debug__":Str))=false) a2._auto_1):PE X (.Name x pos) (tC<|.ref f):=KP hg hm rfl hd
end
set_option maxHeartbeats 8000000
end
section
open PySem.W
theorem NL{es:Array DictEntry}{v:Value}{Q:Option Value->Shared->Prop}(hit:s.heap.IsKeyIter it d i es.size ep)(hm:oW s.heap d es ep)(hi:i<es.size)(hx:es[i].key=v)
 (hQ:∀h',h'.IsKeyIter it d (i+1) es.size ep->Heap.SameBut it s.heap h'->Q (some v) {s with heap:=h'}):wpAny (model prog w) A (pyNext<|.ref it) Q E s:=by
 let⟨o,c,f,b⟩:=id hit;let⟨od,b1,b2,e⟩:=id hm;unfold pyNext;calc aF<|lF<|nI (name:=Str.ofString "__next__") hit.typeIs fA<|gW fA hit.typeIs AH ?_<|tZ _;calc aF<|aV ?_;calc aF ?_;refine aF ?_
 first |calc aF<|iW hit.typeIs<|aV ?_;skip |calc aF<|mP hit.typeIs<|aV ?_;skip
 calc aF<|wpAny_fieldsOf c b ?_;let g:Builtin.Dict_items.ownsTuple "dict_keyiterator"=false:=by decide
 simp only[g,bP,dJ];show wpAny _ _ (if(Value.ref d==Value.none)=true then _ else _) _ _ s;rw[aI<|show¬((Value.ref d==Value.none)=true)from cG];calc aF<|aV ?_;calc aF<|oE b1 e ?_;rw[aI (by simp)];calc aF<|aV ?_;calc aF<|wpAny_dictEpoch b1 e ?_;rw[aI (by simp)];calc aV ?_;simp only[show¬((i:Int)<0)from by lia,dJ,bS,qf hi];refine aF ?_
 first |calc aF<|iW hit.typeIs<|aV ?_;skip |calc aF<|mP hit.typeIs<|aV ?_;skip
 calc aF<|wpAny_isOneOf_keyiter hit.typeIs ?_;show wpAny _ _ (setField (.ref it) 1 (rawInt<|(i:Int)+1) >>= _) _ _ s;calc aF (wpAny_setField c b (by simp) ?_);let a:(s.heap.update it (Obj.mapFields (·.setIfInBounds 1 (rawInt<|(i:Int)+1)))).IsKeyIter it d (i+1) es.size ep:=#[_,oT _ c<|Obj.isFreed_of_fields<|dg b _,(Obj.cls_mapFields ..).trans f,by rw[dg b];simp[rawInt]]
 calc aF<|eM ?_;calc aF (wpAny_isOneOf_keyiter (s:={s with heap:=s.heap.update it (Obj.mapFields (·.setIfInBounds 1 (rawInt<|(i:Int)+1)))}) a.typeIs ?_);show wpAny _ _ (pure es[i].key) _ _ _;exact aV<|aV #[_,rfl,aV<|hx▸hQ _ a (mH ..)]
theorem SL{es:Array DictEntry}{Q:Option Value->Shared->Prop}(hh:A.handled=none)(hit:s.heap.IsKeyIter it d i es.size ep)(hm:oW s.heap d es ep)(hi:es.size<=i)
 (hQ:∀h',Heap.ExtBut it s.heap h'->Q none {s with heap:=h'}):wpAny (model prog w) A (pyNext<|.ref it) Q E s:=by
 let⟨o,c,h,e⟩:=id hit;let⟨od,b1,b2,f⟩:=id hm;unfold pyNext;calc aF<|lF<|nI (name:=Str.ofString "__next__") hit.typeIs fA<|gW fA hit.typeIs AH ?_<|tZ _;calc aF<|aV ?_;calc aF ?_;refine aF ?_
 first |calc aF<|iW hit.typeIs<|aV ?_;skip |calc aF<|mP hit.typeIs<|aV ?_;skip
 calc aF<|wpAny_fieldsOf c e ?_;let g:Builtin.Dict_items.ownsTuple "dict_keyiterator"=false:=by decide
 simp only[g,bP,dJ];show wpAny _ _ (if(Value.ref d==Value.none)=true then _ else _) _ _ s;rw[aI<|show¬((Value.ref d==Value.none)=true)from cG];calc aF<|aV ?_;calc aF<|oE b1 f ?_;rw[aI (by simp)];calc aF<|aV ?_;calc aF<|wpAny_dictEpoch b1 f ?_;rw[aI (by simp)];calc aV ?_;simp only[show¬((i:Int)<0)from by lia,dJ,bS,Array.getElem?_eq_none hi];refine aF ?_
 first |calc aF<|iW hit.typeIs<|aV ?_;skip |calc aF<|mP hit.typeIs<|aV ?_;skip
 show wpAny _ _ (setField (.ref it) 0 .none >>= _) _ _ s;calc aF (wpAny_setField c e (by simp) ?_);show wpAny _ _ (newExc (.type "StopIteration") [] >>= _) _ _ _;calc aF ?_;simp only[newExc,newTuple];calc aF (eY ?_ (by size_fits));calc aF (m:=firstArgMember _ _) (wpAny_of_eq (a:=Value.none) (by first |rfl |(simp only[firstArgMember];rfl)) ?_);calc eY ?_ (by size_fits);simp only[raiseNew];calc aF<|wpAny_handled ?_;rw[show A.in1.handled=none from hh];calc aF<|aV<|wpAny_throw ?_;calc aF<|wpAny_isInstance (T:="StopIteration") (b:=true) #[_,bO _ rfl,rfl] isSubtype_stop ?_;exact aV<|hQ _<|((mH ..).extBut.push _).push _
theorem FU(hh:A.handled=none)(I d:Addr)(mO:d≠I)(es:Array DictEntry)(ep:Nat):Walks prog w A I [I,d] [I] es.size (λi v=>∃e,es[i]?=some e/\e.key=v) (λi h=>h.IsKeyIter I d i es.size ep/\oW h d es ep) where
 sub:=λb hb=>by simp at hb;simp[hb]
 frame:=λ_ _ _ st hk=>#[st.1.at λo e=>hk I (by simp) o e,oW.at' st.2 λo e=>hk d (by simp) o e]
 item:=λi s Q E hi st a=>by
  refine NL st.1 st.2 hi rfl λh' c iA=>?_
  exact a es[i].key h' s.toks #[es[i],qf hi,rfl] #[c,oW.at' st.2 λo e=>iA.extBut d o mO e] λb o hb e=>iA.extBut b o (λh=>hb (by simp[h])) e
 done:=λs Q E st a=>SL hh st.1 st.2 (aG _) λh' f=>a h' s.toks λb o hb e=>f b o (λh=>hb (by simp[h])) e
 self:=λ_ _ _ _ st a=>wpAny_pyIter_keyiter st.1 a
theorem NK{es:Array DictEntry}(hd:(d==sysModules)=false)(hm:oW s.heap d es ep)
 (hQ:Q (.ref s.heap.objs.size) {s with heap:=s.heap.push {cls:=.type "dict_keyiterator",data:=.fields (List.toArray [.ref d,.int 0 0,.int es.size 0,.int ep 0])}}):wpAny (model prog w) A (pyIter<|.ref d) Q E s:=by
 let⟨o,b1,b2,b⟩:=id hm;let a:=hm.typeIs;calc wpAny_pyIter_slot a F.slot_dict_iter<|gW F.slot_dict_iter a F.entry_dict_iter ?_<|F.args_dict_iter_1 _;unfold Builtin.«dict.__iter__»;calc aF ?_;unfold Builtin.Dict.dictSlotNone;calc aF<|oR a ?_;show wpAny _ _ (pure<|Value.ref d) _ _ s;calc aV ?_;show wpAny _ _ (Builtin.Dict.showsAll d >>= _) _ _ s;unfold Builtin.Dict.showsAll;rw[aI (by rw[hd];calc cG)];calc aF<|aV ?_;calc aF<|oE b1 b ?_;calc aF<|wpAny_dictEpoch b1 b ?_;calc aF<|eY<|aV #[_,rfl,"dict_keyiterator",_,#[_,bO _ rfl,rfl],fA.lookup,?_];simpa[rawInt]using hQ
theorem SK{es:Array DictEntry}(lo:(d==sysModules)=false):KdlSrc prog w "dict" d d es.size (λi v=>∃e,es[i]?=some e/\e.key=v) (λh=>oW h d es ep) where
 type:=λ_ hm=>hm.typeIs
 there:=λ_ hm=>#[hm.lt,hm.lt]
 keep:=λ_ _ hm hk=>hm.at' λo e=>hk d (.inl rfl) o e
 notList:=by decide
 notTuple:=by decide
 hint:=λ_ _ _ _ hm hq=>kdl_hint_dict hm.typeIs hq
 iter:=λ_ _ a hm=>#[_,_,(λ_ _ hq=>NK lo hm hq),FU a _ d (cH hm.lt) es ep,#[#[_,bO _ rfl,rfl,rfl],hm.at' λo e=>aO _ e]]
end
section
open PySem.W
abbrev XE:=List fC×Addr×V
abbrev IB:List XE->List (List fC×Addr×Value)->Prop:=Paired λp q=>p.1=q.1/\p.2.1=q.2.1/\RelV p.2.2 q.2.2
def da(P:Program)(w:World)(h:Heap)(a:Addr)(kvs:List XE):Prop:=∃xs,IB kvs xs/\∃o es ep,h.get? a=some o/\o.ExactDict/\o.data=.dict es ep/\es.toList=xs.map (entryOfKey<|tupleKind<|zR P w)/\(xs.map (·.1)).Nodup
noncomputable def EO(P:Program)(w:World)(a:Addr)(kvs:List XE):HO:=.ext λh=>da P w h a kvs
structure sZ(P:Program)(w:World)(K:W.Frag)(H:Hp)(a:Addr)(kvs:List XE):Prop where
 is:H a=some (EO P w a kvs)
 few:kvs.length<=1000
 lo:(a==sysModules)=false
 keys:∀x∈kvs,dH K H x.2.1<|x.1.map kV
noncomputable def kY(kvs:List XE)(k:List fC):Option V:=(kvs.find? λx=>decide<|x.1=k).map (·.2.2)
theorem MD{kvs:List XE}(x:da P w h a kvs):fF P w H h a (EO P w a kvs):=by
 refine#[x,?_,λh1 h2 y hk=>?_]
 ·let⟨_,_,o,_,_,e,_⟩:=x;exact#[o,e]
 ·let⟨xs,p,o,es,ep,e,r⟩:=y;exact#[xs,p,o,es,ep,hk _ e,r]
theorem IB.val:∀{kvs:List XE}{xs:List (List fC×Addr×Value)},IB kvs xs->∀k:List fC,mZ (kY kvs k) ((atKey xs k).map (·.2))
 |_,_,.nil,k=>True.intro
 |_,_,@Paired.cons _ _ _ p q ps qs h t,k=>by
  let⟨h1,_,h2⟩:=h;by_cases e:p.1=k
  ·let a:q.1=k:=h1.symm.trans e;let b:atKey (q::qs) k=some q.2:=by simp[atKey,eX,a]
   let b2:kY (p::ps) k=some p.2.2:=by simp[kY,eX,e]
   rw[b2,b];exact h2
  ·let a:¬q.1=k:=λz=>e<|h1.trans z
   let b:atKey (q::qs) k=atKey qs k:=by simp[atKey,eX,a]
   let b2:kY (p::ps) k=kY ps k:=by simp[kY,eX,e]
   rw[b2,b];exact IB.val t k
theorem IB.mem:∀{kvs:List XE}{xs:List (List fC×Addr×Value)},IB kvs xs->∀x∈xs,∃p∈kvs,p.1=x.1/\p.2.1=x.2.1
 |_,_,.nil,x,hx=>nomatch hx
 |_,_,@Paired.cons _ _ _ p q ps qs h t,x,hx=>by
  rcases bG.mp hx with rfl |hx
  ·exact#[p,bD,h.1,h.2.1]
  ·let⟨a,h1,h2⟩:=IB.mem t x hx;exact#[a,bB _ h1,h2]
theorem IB.at:∀{kvs:List XE}{xs:List (List fC×Addr×Value)},IB kvs xs->∀{i:Nat}{p:XE}{q:List fC×Addr×Value},kvs[i]?=some p->xs[i]?=some q->p.2.1=q.2.1
 |_,_,.nil,i,p,q,h,_=>by simp at h
 |_,_,.cons hq t,0,p,q,h1,h2=>by
  simp only[List.getElem?_cons_zero,Option.some.injEq]at h1 h2;subst h1 h2;exact hq.2.1
 |_,_,.cons hq t,i+1,p,q,h1,h2=>IB.at t (by simpa using h1) (by simpa using h2)
section
variable {kvs:List XE} {k:List fC}
theorem wN(I:Inv X aK σ H s)(h:dH X.K H b (k.map kV)):(tupleKind<|zR X.prog X.w).is s.heap k b:=by
 let⟨its,r,⟨o,h1,h2,n,a⟩,_⟩:=I.tuple h;exact#[o,its.toArray,n,h1,h2,a,by simpa using ZI r]
theorem ZW(I:Inv X aK σ H s)(d:sZ X.prog X.w X.K H a kvs):∃xs,IB kvs xs/\s.heap.DictOfH (tupleKind<|zR X.prog X.w) a xs:=by
 let⟨⟨xs,b,o,es,ep,h1,h2,c,e,f⟩,_,_⟩:=(show fF X.prog X.w H s.heap a (EO X.prog X.w a kvs)from I.hok a _ d.is)
 calc#[xs,b,o,es,ep,h1,h2,c,e,λx hx=>?_,f];let⟨p,hp,g,h⟩:=b.mem x hx;have :=wN I<|d.keys p hp;rw[g,h]at this;exact this
end
def rNiX(P:Program)(w:World)(K:W.Frag):R2:=λx y H Q=>∃a kvs b k,y=.ref a/\sZ P w K H a kvs/\x=.ref b/\dH K H b (k.map kV)/\Q (.bl<|!(kY kvs k).isSome) H
theorem NS(hu:X.A.units+1<cLine):pR X (compareOp .NotIn) (rNiX X.prog X.w X.K):=by
 intro aK s σ H x y v u Q I c f h;let⟨a,kvs,b,k,rfl,d,rfl,hk,q⟩:=h;cases c;cases f;let⟨xs,g,i⟩:=ZW I d;calc wpAny_notIn_heap (eJ hu) (wN I hk) d.lo i ?_;let e:=(g.val k).isSome_eq;rw[gY]at e;rw[←e];exact#[.bl _,H,I.tok _,rfl,q]
theorem QT:jL X (.builtin "len") (λxs H Q=>pW xs λx=>mJ x λa=>∃kvs,sZ X.prog X.w X.K H a kvs/\Q (.int kvs.length) H):=by
 intro aK s σ H xs us Q I r h;replace h:=vQ h;let⟨x,rfl,h⟩:=h;replace h:=yS h;let⟨a,rfl,kvs,d,q⟩:=h;let⟨u,rfl,b⟩:=jN r;cases b;let⟨xs,c,e,es,ep,o1,o2,f,g,i,j⟩:=ZW I d;let raw:oW s.heap a es ep:=#[e,o1,o2,f]
 let eR:es.size=kvs.length:=by
  rw[←bR,g,aD];exact(fD c).symm
 let hs:sizeLine=16777216:=cQ;let hz:=d.few;calc call_len_slot (n:=(es.size:Int)) raw.typeIs F.slot_dict_len (λk hq=>tX F.slot_dict_len raw.typeIs F.entry_dict_len (F.args_dict_len_1 _) (f9 a d.lo) #[es,ep,raw,hq]) () () ?_;rw[eR];exact#[.int kvs.length,H,(I.tok _),#[_,rfl],q]
def tDGX(P:Program)(w:World)(K:W.Frag)(td ty:TE):TE:=λσ H Q=>td σ H λx H1=>ty σ H1 λy H2=>∃a kvs b k v,x=.ref a/\sZ P w K H2 a kvs/\y=.ref b/\dH K H2 b (k.map kV)/\kY kvs k=some v/\Q v H2
theorem TQ{i:Expr}{pos:Pos}{td ty:TE}(hu:X.A.units+1<cLine)(ho:PE X o td)(hi:PE X i ty)(hs:xv i):PE X (.Subscript o i pos) (tDGX X.prog X.w X.K td ty):=by
 intro aK s σ H Q I h;calc IV qc.lookup hs (eP (ho aK s σ H _ I h) λu s1 ⟨x,H1,j,l,m⟩=>eP (hi aK s1 σ H1 _ j m) λz s2 z=>?_);let⟨y,H2,c,n,e⟩:=z;let⟨a,kvs,b,k,v,ex,d,q,hk,hv,e⟩:=e;subst ex q;cases l;cases n;let⟨xs,r,g⟩:=ZW c d;let⟨B,t,f⟩:=mZ.some_of (v:=v) (o:=(atKey xs k).map (·.2)) (by rw[←hv];calc r.val k);let⟨p,hp,mE⟩:=aM.mp t;calc#[g.typeIs,wpAny_getItem_heap (eJ hu) (wN c hk) g hp ?_];rw[mE];exact#[v,H2,c.tok _,f,e]
def sDPX(P:Program)(w:World)(K:W.Frag)(td ty tv:TE):TS:=λD σ H=>tv σ H λv H1=>td σ H1 λx H2=>ty σ H2 λy H3=>∃a kvs b k,x=.ref a/\sZ P w K H3 a kvs/\y=.ref b/\dH K H3 b (k.map kV)/\kY kvs k=none/\D.nx σ (upd H3 a<|EO P w a<|kvs++[(k,b,v)])
theorem IB.snoc{kvs:List XE}{xs:List (List fC×Addr×Value)}(h:IB kvs xs){k:List fC}(r:RelV v u):IB (kvs++[(k,b,v)]) (xs++[(k,b,u)]):=Paired.snoc h #[rfl,rfl,r]
theorem SX{i value:Expr}{pos:Pos}{td ty tv:TE}(hu:X.A.units+1<cLine)(ho:PE X o td)(hi:PE X i ty)(hv:PE X value tv)(hs:swapsWith value (some<|.Subscript o i pos') pos.line X.env=pure false):
 PS X (.Assign [.Subscript o i pos'] value pos) (sDPX X.prog X.w X.K td ty tv):=by
 intro aK s σ H D I h;calc wpAny_Assign_Subscript (eP (hv aK s σ H _ I h) λr s1 ⟨v,H1,p,rv,q⟩=>eP (ho aK s1 σ H1 _ p q) λu s2 ⟨x,H2,t,z,B⟩=>eP (hi aK s2 σ H2 _ t B) λM N u=>?_) hs;let⟨y,O,g,C,j⟩:=u;let⟨a,kvs,b,k,ex,d,E,hk,hn,j⟩:=j;subst ex E;cases z;cases C;let⟨xs,l,F⟩:=ZW g d;let hz:xs.length<=sizeLine:=by
  rw[←fD l,cQ];have :=d.few;lia
 refine wpAny_setItem_heap (hsz:=hz) (eJ hu) (wN g hk) F λh' f iA=>?_
 let m:atKey xs k=none:=by
  let e:=(l.val k).isSome_eq;rw[hn,gY]at e;cases c:atKey xs k with
  |none=>rfl
  |some _=>rw[c]at e;cases e
 rw[IG m]at f;let⟨n,es,ep,hq,h2,G,J,_,L⟩:=f;exact#[σ,_,vY g (by rw[d.is];calc True.intro) iA #[n,hq]<|MD #[_,l.snoc rv,n,es,ep,hq,h2,G,J,L],j]
def tLX(P:Program)(w:World)(K:W.Frag)(to:TE):TE:=λσ H Q=>to σ H λx H1=>∃a kvs,x=.ref a/\sZ P w K H1 a kvs/\∀l,H1 l=none->Q (.ref l) (upd H1 l<|.lst<|kvs.map λx=>V.ref x.2.1)
theorem TJ{to:TE}{pos:Pos}(hg:Gl X "list")(hm:X.mg "list"=none)(hc:X.calm=true)(ho:PE X o to)
 (he:autoParam (starEach [o] X.env=[(false,eval o X.env)]) a1._auto_1):PE X (.Call (.Name "list" p) [o] [] pos) (tLX X.prog X.w X.K to):=by
 intro aK s σ H Q I h;calc fH (qR I hg hm kQ ?_ (by decide) (by decide));calc dW ?_ he (by rfl);rw[he];show wpAny _ _ (spliced [(false,_)]) _ _ s;calc fV (eP (ho aK s σ H _ I h) λv s1 ⟨x,H1,c,r1,a,kvs,e,d,q⟩=>lJ ?_);subst e;cases r1;let⟨xs,g,m,es,ep,o1,o2,n,j,F,G⟩:=ZW c d;let raw:oW s1.heap a es ep:=#[m,o1,o2,n]
 let eR:es.size=kvs.length:=by
  rw[←bR,j,aD];exact(fD g).symm
 let hs:sizeLine=16777216:=cQ;let hz:=d.few;refine kdl_call (SK (d:=a) (es:=es) (ep:=ep) d.lo) (I.ok.hd hc) raw () λh' tk acc r hk t b=>?_
 let vals:dD (kvs.map λx=>V.ref x.2.1) acc.toList:=by
  let f:acc.toList.length=es.size:=by rw[bR];exact b.1
  refine UE (by rw[aD,f,eR]) λi y u hy k=>?_
  rw[cC]at k;let⟨J,l,z⟩:=b.2 i u k;rw[←cC,j,aJ]at l;let⟨A,B,C⟩:=aM.mp l;rw[aJ]at hy;let⟨D,E,p2⟩:=aM.mp hy;have :=g.at E B;rw[←z,←C,←p2];show Value.ref A.2.1=Value.ref D.2.1;rw[this]
 exact#[.ref _,_,c.laid (a:=_) (o:=.lst<|kvs.map λx=>V.ref x.2.1) (t':=tk) hk (aG _) #[by rw[aD];lia,acc.toList,r,vals,by rw[lE];calc t],rfl,q _<|c.hok.fresh<|aG _]
def tDX1(P:Program)(w:World)(K:W.Frag)(tk tv:TE):TE:=λσ H Q=>∀p,H p=none->(p==sysModules)=false->tk σ (upd H p<|EO P w p []) λx H1=>tv σ H1 λy H2=>∃b k,x=.ref b/\dH K H2 b (k.map kV)/\H2 p=some (EO P w p [])/\Q (.ref p) (upd H2 p<|EO P w p [(k,b,y)])
theorem TN{ke ve:Expr}{pos:Pos}{tk tv:TE}(hu:X.A.units+1<cLine)(hk:PE X ke tk)(hv:PE X ve tv):PE X (.Dict [some ke] [ve] pos) (tDX1 X.prog X.w X.K tk tv):=by
 intro aK s σ H Q I q;let hn:=I.hok.fresh<|aG s.heap.objs.size;let c:(s.heap.objs.size==sysModules)=false:=cR.mpr<|cE<|cH I.big;let e:da X.prog X.w (s.heap.push {cls:=.type "dict",data:=.dict (List.toArray [])}) s.heap.objs.size []:=#[[],.nil,_,(List.toArray []),0,bO _ rfl,#[rfl,rfl,rfl],rfl,rfl,List.nodup_nil]
 let i:=I.laid (a:=s.heap.objs.size) (o:=EO X.prog X.w s.heap.objs.size []) (h':=s.heap.push {cls:=.type "dict",data:=.dict (List.toArray [])}) (t':=s.toks) (λ_ _ q=>aO _ q) (aG _)<|MD e;calc wpAny_Dict_any rfl rfl (by simp) (by show 1<=15;decide) (pairTrees_cons_walk<|eP (hk aK _ σ _ _ i<|q _ hn c) λu s1 ⟨x,H1,j,l,m⟩=>eP (hv aK s1 σ H1 _ j m) λC s2 ⟨y,H2,f,n,b,k,ex,hb,hp,p⟩=>pairTrees_nil_walk ?_);subst ex;cases l;let d:sZ X.prog X.w X.K H2 s.heap.objs.size []:=#[hp,by decide,c,λx hx=>nomatch hx]
 let⟨xs,r,t⟩:=ZW f d;cases r;unfold storeAll;rw[List.forIn_cons];calc aF (aF<|wpAny_dictSet_heap (knd:=tupleKind<|zR X.prog X.w) (show X.A.units<cLine by lia) (wN f hb) t (λh' g iA=>aV ?_) (by rw[cQ];decide));let⟨h,es,ep,hq,h2,v,z,_,B⟩:=g;show wpAny _ _ (forIn [] PUnit.unit _) _ _ _;rw[List.forIn_nil];exact aV #[.ref s.heap.objs.size,_,vY f (by rw[hp];calc True.intro) iA #[h,hq]<|MD #[_,Paired.cons #[rfl,rfl,n] .nil,h,es,ep,hq,h2,v,z,B],rfl,p]
end
section
open PySem.W
theorem QG{h:Heap}:∀(kvs:List XE)(as:List Addr),(∀(i:Nat)(x:XE),kvs[i]?=some x->∃(a:Addr)(its:List Value),as[i]?=some a/\dD [.ref x.2.1,x.2.2] its/\IsTup h a its.toArray)->
 ∃xs,IB kvs xs/\∀(i:Nat)(k:List fC)(b:Addr)(v:Value),xs[i]?=some (k,b,v)->∃a,as[i]?=some a/\IsTup h a (List.toArray [.ref b,v])/\∃x,kvs[i]?=some x/\x.1=k/\x.2.1=b
 |[],as,hk=>#[[],.nil,λi k b v e=>by simp at e]
 |x::kvs,as,hk=>by
  let⟨c,its,h1,h2,d⟩:=hk 0 x rfl;cases as with
  |nil=>cases h1
  |cons a as=>
  cases h1;let⟨xs,f,g⟩:=QG kvs as λi y e=>hk (i+1) y e
  let⟨o,j,rfl,r1,l⟩:=vals2 h2;cases r1;calc#[(x.1,x.2.1,j)::xs,.cons #[rfl,rfl,l] f,λi m n v' e=>?_];cases i with
  |zero=>cases e;exact#[c,rfl,d,x,rfl,rfl,rfl]
  |succ i=>exact g i m n v' e
theorem DU(hu:X.A.units+2<cLine):jL X (.type "dict") (λxs H Q=>dr X.calm (pW xs λx=>mJ x λp=>∃as:List Addr,cX X.K H p (as.map V.ref)/\∃kvs:List XE,as.length=kvs.length/\(kvs.map (·.1)).Nodup/\
 (∀(i:Nat)(x:XE),kvs[i]?=some x->∃a,as[i]?=some a/\dH X.K H a [.ref x.2.1,x.2.2]/\dH X.K H x.2.1 (x.1.map kV))/\∀l,H l=none->(l==sysModules)=false->Q (.ref l) (upd H l<|EO X.prog X.w l kvs))):=by
 intro aK s σ H xs us Q I r h;replace h:=EJ h;let⟨hc,h⟩:=h;replace h:=vQ h;let⟨N,rfl,h⟩:=h;replace h:=yS h;let⟨p,rfl,as,hp,kvs,eR,hn,hk,q⟩:=h;let⟨u,rfl,B⟩:=jN r;cases B;let⟨its,rv,hl,hz⟩:=I.list hp;let nO:=rv.length;rw[aD]at nO hz;let⟨vs,c,y⟩:=QG (h:=s.heap) kvs as λi x e=>by
  let⟨a,d,f,z⟩:=hk i x e;let⟨its,C,t2,_⟩:=I.tuple f;exact#[a,its,d,C,t2]
 let g:kvs.length=vs.length:=fD c;let j:vs.map (·.1)=kvs.map (·.1):=by
  clear hn y g hk eR q
  induction c with
  |nil=>rfl
  |cons h _ D=>rw[cI,cI,D,h.1]
 refine qZ (knd:=tupleKind<|zR X.prog X.w) (xs:=vs) (show X.A.in1.in1.units<cLine from ?_) (I.ok.hd hc) hl IR (by rw[j];calc hn) () (by rw[aU];lia) (λi k b v e=>?_) λh' t' m n=>?_
 ·exact hu
 ·let⟨a,d,f,x,z,rfl,rfl⟩:=y i k b v e;let⟨u,h1,h2⟩:=rv.get (i:=i) (x:=V.ref a) (by rw[aJ,d];rfl);cases h2;let⟨_,_,_,E⟩:=hk i x z;exact#[a,by simpa using h1,f,wN I E]
 ·let⟨o,es,ep,F,G,J,L,M⟩:=n;let t:=I.hok.fresh<|aG s.heap.objs.size;exact#[.ref s.heap.objs.size,_,I.laid (a:=s.heap.objs.size) (o:=EO X.prog X.w s.heap.objs.size kvs) (t':=t') m (aG _)<|MD #[vs,c,o,es,ep,F,G,J,L,M],rfl,q _ t<|cR.mpr<|cE<|cH I.big]
def RJ(P:Program)(w:World)(K:W.Frag)(td ty:TE):TE:=λσ H Q=>td σ H λx H1=>∃a kvs0,x=.ref a/\sZ P w K H1 a kvs0/\ty σ H1 λy H2=>∃kvs b k,sZ P w K H2 a kvs/\y=.ref b/\dH K H2 b (k.map kV)/\Q ((kY kvs k).getD .non) H2
theorem ig{lB:Pos}{td ty:TE}(hu:X.A.units+1<cLine)(ho:PE X o td)(he:PE X e ty)(m:M1 X o "get" mF e lB):PE X (.Call (.Attribute o "get" mF) [e] [] lB) (RJ X.prog X.w X.K td ty):=by
 intro aK s σ H Q I h;calc lq m.base m.few m.line rM iU F.type_dict_get (eP (ho aK s σ H _ I h) λu s1 z0=>?_);let⟨x,H1,j,p,f⟩:=z0;let⟨a,l,ex,q,f⟩:=f;subst ex;obtain rfl:u=Value.ref a:=p;let⟨r,t,c⟩:=ZW j q;calc#[c.typeIs,(λD ho=>by cases ho;let⟨o',_,_,h1,h2,E,_⟩:=c;calc#[o',h1,h2.2.1]),?_];rw[m.trees];calc lA rfl (pL<|fV<|eP (he aK s1 σ H1 _ j f) λv s2 ⟨y,H2,g,z,i⟩=>lJ ?_);let⟨kvs,b,k,d,B,hk,i⟩:=i;subst B;cases (show v=Value.ref b from z);let⟨xs,C,n⟩:=ZW g d;exact tX iU n.typeIs rT (F.args_dict_get_2 _ _) (meetsH_dict_get (tupleKind<|zR X.prog X.w) a b d.lo) #[eJ hu,k,_,wN g hk,n,#[(kY kvs k).getD .non,H2,g.tok _,(C.val k).getD (d:=.non) rfl,i]]
set_option autoImplicit false
end
abbrev SM:=StateT SortSt Sem
noncomputable def kf(l:Bool)(key:Keyed)(arr:Array Keyed)(base i:Nat):SM (Option Bool):=
 elem' arr (base+i) >>= λx=>if l=true then lt' x key else lt' key x >>= λo=>pure (Option.map (λx=>!x) o)
noncomputable def bd(be:Nat->SM (Option Bool))(n lo hi:Nat):SM (Option Nat):=
 (forIn [:n] ((none,lo,hi):Option (Option Nat)×Nat×Nat) λ_ c=>
   if c.2.1≥c.2.2 then pure (ForInStep.done (none,c.2.1,c.2.2))
   else be (c.2.1+(c.2.2-c.2.1)/2) >>= λo=>match o with
    |some b=>if b=true then pure (ForInStep.yield (none,c.2.1+(c.2.2-c.2.1)/2+1,c.2.2))else pure (ForInStep.yield (none,c.2.1,c.2.1+(c.2.2-c.2.1)/2))
    |_=>pure<|ForInStep.done (some none,c.2.1,c.2.2)) >>= λc=>match c.1 with
  |some r=>pure r
  |none=>pure<|some c.2.2
noncomputable def DL(be:Nat->SM (Option Bool))(n mx:Nat)(f:Bool->Bool)(g:Nat->Nat):SM (Option (Option Nat)×Nat×Nat):=
 forIn [:n] ((none,0,1):Option (Option Nat)×Nat×Nat) λ_ c=>
  if c.2.2≥mx then pure (ForInStep.done (none,c.2.1,c.2.2))
  else be (g c.2.2) >>= λo=>match o with
   |some b=>if f b=true then pure (ForInStep.done (none,c.2.1,c.2.2))else pure (ForInStep.yield (none,c.2.2,2*c.2.2+1))
   |_=>pure<|ForInStep.done (some none,c.2.1,c.2.2)
noncomputable def jH:Bool->Keyed->Array Keyed->Nat->Nat->Nat->SM (Option Nat):=sortPriv% PySem.Builtin.gallop
theorem HL(l:Bool)(key:Keyed)(arr:Array Keyed)(base n hint:Nat):jH l key arr base n hint=
 (kf l key arr base hint >>= λo=>match o with
  |some right=>if right=true then DL (kf l key arr base) n (n-hint) (λb=>!b) (λo=>hint+o) >>= λc=>(match c.1 with
   |some r=>pure r
   |none=>bd (kf l key arr base) n (hint+c.2.1+1)<|hint+min c.2.2 (n-hint))
   else DL (kf l key arr base) n (hint+1) (λb=>b) (λo=>hint-o) >>= λc=>(match c.1 with
    |some r=>pure r
    |none=>bd (kf l key arr base) n (hint+1-min c.2.2 (hint+1))<|hint-c.2.1)
  |_=>pure none):=by
 unfold DL bd kf;show(_ >>= _:SM _)=_
 congr 1
 funext o
 cases o with
 |none=>rfl
 |some right=>
  cases right
  ·show(_ >>= _:SM _)=_;simp only[bP,dJ]
   congr 1
   funext c
   let⟨r,u,v⟩:=c;cases r
   ·show(_ >>= _:SM _)=_
    congr 1
    funext c
    let⟨r,u,v⟩:=c;cases r<;>rfl
   ·rfl
  ·show(_ >>= _:SM _)=_;simp only[if_true]
   congr 1
   funext c
   let⟨r,u,v⟩:=c;cases r
   ·show(_ >>= _:SM _)=_
    congr 1
    funext c
    let⟨r,u,v⟩:=c;cases r<;>rfl
   ·rfl
section
variable {be:Nat->SM (Option Bool)} {P:Nat->Bool}
theorem LV{lo hi:Nat}{Q:Option Nat->SortSt->Prop}(hbe:∀i,i<n->∀Q:Option Bool->SortSt->Prop,Q (some<|P i) st->wpS M A E s (be i) Q st)
 (hm:∀i j,i<=j->j<n->P j=true->P i=true) (h1:lo<=hi) (h2:hi<=n) (hlo:∀i,i<lo->P i=true) (hhi:∀i,hi<=i->i<n->P i=false)
 (h:∀r,r<=n->(∀i,i<r->P i=true)->(∀i,r<=i->i<n->P i=false)->Q (some r) st):wpS M A E s (bd be n lo hi) Q st:=by
 unfold bd;refine aY (gD (eL
  (I:=λx c cN=>cN=st/\∃l r,c=(none,l,r)/\l<=r/\r<=n/\r-l<=n-x/\(∀i,i<l->P i=true)/\(∀i,r<=i->i<n->P i=false))
  (Q:=λc cN=>cN=st/\∃l r,c=(none,l,r)/\r<=n/\(∀i,i<r->P i=true)/\(∀i,r<=i->i<n->P i=false)) ?step ?fin ?init) ?post)
 case init=>exact#[rfl,lo,hi,rfl,h1,h2,(),hlo,hhi]
 case fin=>
  rintro c cN ⟨rfl,l,r,rfl,f,d,g,a,b⟩;have :l=r:=by lia
  subst this;exact#[rfl,l,l,rfl,d,a,b]
 case post=>
  rintro c cN ⟨rfl,l,r,rfl,d,a,b⟩;exact bK<|h r d a b
 case step=>
  rintro x c cN _ hx ⟨rfl,l,r,rfl,f,d,g,a,b⟩;dsimp only;by_cases e:l≥r
  ·rw[aL e];have :l=r:=by lia
   subst this;exact bK #[rfl,l,l,rfl,d,a,b]
  ·rw[aI e];calc aY<|hbe _ () _ ?_;cases hp:P (l+(r-l)/2)
   ·simp only[bP,dJ];calc bK #[rfl,_,_,rfl,(),(),(),a,λi b1 b2=>?_];cases hi:P i
    ·rfl
    ·rw[hm _ _ b1 b2 hi]at hp;exact absurd hp (by simp)
   ·simp only[if_true];refine bK #[rfl,_,_,rfl,(),(),(),λi b1=>hm i _ () () hp,b]
theorem LW{l:Bool}{key:Keyed}{base hint:Nat}{Q:Option Nat->SortSt->Prop}(hbe:∀i,i<n->∀Q:Option Bool->SortSt->Prop,Q (some<|P i) st->wpS M A E s (kf l key arr base i) Q st)
 (hm:∀i j,i<=j->j<n->P j=true->P i=true) (hh:hint<n)
 (h:∀r,r<=n->(∀i,i<r->P i=true)->(∀i,r<=i->i<n->P i=false)->Q (some r) st):wpS M A E s (jH l key arr base n hint) Q st:=by
 rw[HL];calc aY<|hbe hint hh _ ?_;dsimp only;let hf:∀i j,i<=j->j<n->P i=false->P j=false:=by
  intro i j a b c;cases p:P j
  ·rfl
  ·rw[hm i j a b p]at c;exact absurd c (by simp)
 cases hp:P hint
 ·simp only[bP,dJ];unfold DL;refine aY (gD (eL
   (I:=λx c cN=>cN=st/\∃u v,c=(none,u,v)/\u<v/\x+1<=v/\u<=hint/\P (hint-u)=false)
   (Q:=λc cN=>cN=st/\∃u v,c=(none,u,v)/\u<v/\u<=hint/\P (hint-u)=false/\(v≥hint+1\/v<=hint/\P (hint-v)=true)) ?step ?fin ?init) ?post)
  case init=>exact#[rfl,0,1,rfl,(),(),(),hp]
  case fin=>
   rintro c cN ⟨rfl,u,v,rfl,g,m,f,e⟩;exact#[rfl,u,v,rfl,g,f,e,.inl ()]
  case step=>
   rintro x c cN _ hx ⟨rfl,u,v,rfl,g,m,f,e⟩;dsimp only;by_cases d:v≥hint+1
   ·rw[aL d];exact bK #[rfl,u,v,rfl,g,f,e,.inl d]
   ·rw[aI d];calc aY<|hbe _ () _ ?_;cases hv:P (hint-v)
    ·simp only[bP,dJ];exact bK #[rfl,_,_,rfl,(),(),(),hv]
    ·simp only[if_true];exact bK #[rfl,u,v,rfl,g,f,e,.inr #[(),hv]]
  case post=>
   rintro c cN ⟨rfl,u,v,rfl,g,f,e,k⟩;dsimp only;calc LV hbe hm () () (λi hi=>?_) (λi h1 h2=>hf _ _ h1 h2 e) h;rcases k with k |⟨k,o⟩
   ·lia
   ·exact hm i _ () () o
 ·simp only[if_true];unfold DL;refine aY (gD (eL
   (I:=λx c cN=>cN=st/\∃u v,c=(none,u,v)/\u<v/\x+1<=v/\hint+u<n/\P (hint+u)=true)
   (Q:=λc cN=>cN=st/\∃u v,c=(none,u,v)/\u<v/\hint+u<n/\P (hint+u)=true/\(v≥n-hint\/hint+v<n/\P (hint+v)=false)) ?step ?fin ?init) ?post)
  case init=>exact#[rfl,0,1,rfl,(),(),(),hp]
  case fin=>
   rintro c cN ⟨rfl,u,v,rfl,g,m,f,e⟩;exact#[rfl,u,v,rfl,g,f,e,.inl ()]
  case step=>
   rintro x c cN _ hx ⟨rfl,u,v,rfl,g,m,f,e⟩;dsimp only;by_cases d:v≥n-hint
   ·rw[aL d];exact bK #[rfl,u,v,rfl,g,f,e,.inl d]
   ·rw[aI d];calc aY<|hbe _ () _ ?_;cases hv:P (hint+v)
    ·simp only[Bool.not_false,if_true];exact bK #[rfl,u,v,rfl,g,f,e,.inr #[(),hv]]
    ·simp only[rE,bP,dJ];exact bK #[rfl,_,_,rfl,(),(),(),hv]
  case post=>
   rintro c cN ⟨rfl,u,v,rfl,g,f,e,k⟩;dsimp only;calc LV hbe hm () () (λi hi=>hm i _ () f e) (λi h1 h2=>?_) h;rcases k with k |⟨k,o⟩
   ·lia
   ·exact hf _ _ () h2 o
end
structure iY(M:Model)(A:Around)(E:Value->Shared->Prop)(s:Shared)(kd:SortKind)(S:Keyed->Prop)(κ:Keyed->Int):Prop where
 lt:∀{x y:Keyed}{st:SortSt}{Q:Option Bool->SortSt->Prop},S x->S y->kindOf st=kd->Q (some<|decide<|κ x<κ y) st->wpS M A E s (lt' x y) Q st
noncomputable def eF(κ:Keyed->Int)(xs:Array Keyed)(i:Nat):Int:=match xs[i]? with
 |some p=>κ p
 |none=>0
theorem zY{xs:Array Keyed}{p:Keyed}(h:xs[i]?=some p):eF κ xs i=κ p:=by unfold eF;rw[h]
theorem qC{xs ys:Array Keyed}(h:xs[i]?=ys[j]?):eF κ xs i=eF κ ys j:=by unfold eF;rw[h]
def xJ(κ:Keyed->Int)(xs:Array Keyed)(i j:Nat):Prop:=∀p q,i<=p->p<=q->q<j->eF κ xs p<=eF κ xs q
theorem zX{p:Keyed}{Q:Keyed->SortSt->Prop}(hp:arr[i]?=some p)(h:Q p st):wpS M A E s (elem' arr i) Q st:=by
 rw[elem'_eq,hp];exact bK h
theorem xR(h:i<arr.size):∃p,arr[i]?=some p/\p∈arr.toList:=#[arr[i],getElem?_pos _ i h,by simp]
theorem VP{key:Keyed}{base hint:Nat}{Q:Option Nat->SortSt->Prop}(C:iY M A E s kd S κ)(hk:kindOf st=kd)(hS:∀p,p∈arr.toList->S p)(hK:S key)
 (hb:base+n<=arr.size) (hs:xJ κ arr base (base+n)) (hh:hint<n)
 (h:∀r,r<=n->(∀i,i<r->eF κ arr (base+i)<=κ key)->(∀i,r<=i->i<n->κ key<eF κ arr (base+i))->Q (some r) st):wpS M A E s (jH false key arr base n hint) Q st:=by
 refine LW (P:=λi=>!decide (κ key<eF κ arr (base+i))) (λi hi Q a=>?_) (λi j b d=>?_) hh λr h1 h2 c=>h r h1 (λi hi=>?_) λi ha hb=>?_
 ·let⟨p,e,hm⟩:=xR (arr:=arr) (i:=base+i) ();unfold kf;calc aY<|zX e ?_;simp only[bP,dJ];calc aY<|C.lt hK (hS p hm) hk ?_;rw[←zY (κ:=κ) e];exact bK a
 ·have :=hs (base+i) (base+j) () () ();simp only[IM,decide_eq_false_iff_not];lia
 ·have :=h2 i hi;simp only[IM,decide_eq_false_iff_not]at this;lia
 ·simpa using c i ha hb
theorem VQ{key:Keyed}{base hint:Nat}{Q:Option Nat->SortSt->Prop}(C:iY M A E s kd S κ)(hk:kindOf st=kd)(hS:∀p,p∈arr.toList->S p)(hK:S key)
 (hb:base+n<=arr.size) (hs:xJ κ arr base (base+n)) (hh:hint<n)
 (h:∀r,r<=n->(∀i,i<r->eF κ arr (base+i)<κ key)->(∀i,r<=i->i<n->κ key<=eF κ arr (base+i))->Q (some r) st):wpS M A E s (jH true key arr base n hint) Q st:=by
 refine LW (P:=λi=>decide<|eF κ arr (base+i)<κ key) (λi hi Q a=>?_) (λi j b d=>?_) hh λr h1 h2 c=>h r h1 (λi hi=>?_) λi ha hb=>?_
 ·let⟨p,e,hm⟩:=xR (arr:=arr) (i:=base+i) ();unfold kf;calc aY<|zX e ?_;simp only[if_true];calc C.lt (hS p hm) hK hk ?_;rw[←zY (κ:=κ) e];exact a
 ·have :=hs (base+i) (base+j) () () ();simp only[bH];lia
 ·simpa using h2 i hi
 ·have :=c i ha hb;simp only[decide_eq_false_iff_not]at this;lia
structure rA(κ:Keyed->Int)(la lb ol:List Keyed)(ia ib:Nat):Prop where
 perm:ol.Perm (la.take ia++lb.take ib)
 srt:ol.Pairwise λx y=>κ x<=κ y
 la:∀x∈ol,∀y∈la.drop ia,κ x<=κ y
 lb:∀x∈ol,∀y∈lb.drop ib,κ x<=κ y
section
variable {la lb ol:List Keyed}
theorem rA.swap(h:rA κ la lb ol ia ib):rA κ lb la ol ib ia:=#[h.perm.trans sQ,h.srt,h.lb,h.la]
theorem rA.addA(h:rA κ la lb ol ia ib)(k:Nat)(hs:la.Pairwise λx y=>κ x<=κ y)(hb:∀x∈(la.drop ia).take k,∀y∈lb.drop ib,κ x<=κ y):rA κ la lb (ol++(la.drop ia).take k) (ia+k) ib:=by
 let hd:la.drop ia=(la.drop ia).take k++la.drop (ia+k):=by rw[←tI];exact(eU _ _).symm
 let hp:(la.drop ia).Pairwise λx y=>κ x<=κ y:=hs.sublist<|List.drop_sublist _ _
 rw[hd,List.pairwise_append]at hp;refine#[?_,?_,?_,?_]
 ·rw[List.take_add];calc(h.perm.append_right _).trans ?_;rw[cM,cM];exact List.Perm.append_left _ sQ
 ·rw[List.pairwise_append];exact#[h.srt,hp.1,λx hx y hy=>h.la x hx y<|fQ hy]
 ·intro x hx y hy;rcases bE.mp hx with hx |hx
  ·exact h.la x hx y (by rw[hd];calc bA _ hy)
  ·exact hp.2.2 x hx y hy
 ·intro x hx y hy;rcases bE.mp hx with hx |hx
  ·exact h.lb x hx y hy
  ·exact hb x hx y hy
theorem rA.addB(h:rA κ la lb ol ia ib)(k:Nat)(hs:lb.Pairwise λx y=>κ x<=κ y)(hb:∀x∈(lb.drop ib).take k,∀y∈la.drop ia,κ x<=κ y):rA κ la lb (ol++(lb.drop ib).take k) ia (ib+k):=(h.swap.addA k hs hb).swap
theorem rA.nil:rA κ la lb [] 0 0:=#[by simp,.nil,by simp,by simp]
def Mgd(κ:Keyed->Int)(la lb ol:List Keyed):Prop:=ol.Perm (la++lb)/\ol.Pairwise λx y=>κ x<=κ y
theorem rA.fin(h:rA κ la lb ol ia ib)(h1:la.length<=ia)(h2:lb.length<=ib):Mgd κ la lb ol:=by
 calc#[?_,h.srt];have :=h.perm;rwa[aQ h1,aQ h2]at this
theorem rA.endA(h:rA κ la lb ol ia ib)(hs:la.Pairwise λx y=>κ x<=κ y)(h2:lb.length<=ib):Mgd κ la lb (ol++la.drop ia):=by
 have :=h.addA la.length hs (by rw[mU h2];simp);rw[aQ (by simp)]at this;exact this.fin () h2
theorem rA.endB(h:rA κ la lb ol ia ib)(hs:lb.Pairwise λx y=>κ x<=κ y)(h1:la.length<=ia):Mgd κ la lb (ol++lb.drop ib):=by
 have :=h.swap.endA hs h1;exact#[this.1.trans sQ,this.2]
theorem vX{l:List Keyed}{k:Nat}{y:Keyed}(h:y∈(l.drop i).take k):∃j,i<=j/\j<i+k/\j<l.length/\l[j]?=some y:=by
 let⟨j,a,e⟩:=List.mem_iff_getElem.mp h;rw[bF,eG]at a;calc#[i+j,(),(),(),?_];rw[IK,List.getElem_drop]at e;rw[←e];exact aA ()
theorem HA{l:List Keyed}{y:Keyed}(h:y∈l.drop i):∃j,i<=j/\j<l.length/\l[j]?=some y:=by
 let⟨j,a,e⟩:=List.mem_iff_getElem.mp h;rw[eG]at a;calc#[i+j,(),(),?_];rw[List.getElem_drop]at e;rw[←e];exact aA ()
theorem vG{a:Array Keyed}{y:Keyed}(h:a.toList[j]?=some y):κ y=eF κ a j:=(zY (by rw[←cC];calc h)).symm
theorem qP{a:Array Keyed}(h:xJ κ a 0 a.size):a.toList.Pairwise λx y=>κ x<=κ y:=by
 rw[dQ];intro i j hi b c;have :=h i j () () (by simpa using b);rwa[←vG (aA hi),←vG (aA b)]at this
end
noncomputable def RY:Nat->SM Unit:=sortPriv% PySem.Builtin.setMinGallop
abbrev UR(st:SortSt)(g:Nat):SortSt:=SortSt.mk' (kindOf st) (arrOf st) (pendingOf st) g<|failedOf st
theorem YH(g:Nat):RY g=modify λs=>UR s g:=rfl
structure iS(st cN:SortSt):Prop where
 kind:kindOf cN=kindOf st
 arr:arrOf cN=arrOf st
 pend:pendingOf cN=pendingOf st
 fail:failedOf cN=failedOf st
theorem iS.rfl':iS st st:=#[rfl,rfl,rfl,rfl]
theorem iS.gal{cN:SortSt}(h:iS st cN)(g:Nat):iS st (UR cN g):=#[h.kind,h.arr,h.pend,h.fail]
noncomputable def dm(a b out:Array Keyed)(ia ib:Nat):Array Keyed:=out++a.extract ia a.size++b.extract ib b.size
noncomputable def lsL(a b out:Array Keyed)(ia ib:Nat):Array Keyed:=out++b.extract ib b.size++a.extract ia a.size
abbrev LoA:=Option (Array Keyed)×Array Keyed×Nat×Nat×Nat×Nat
abbrev xw:=Option (Array Keyed)×Array Keyed×Nat×Nat×Nat×Nat×Nat
abbrev LoC:=Option (Array Keyed)×Array Keyed×Nat×Nat×Nat
noncomputable def lo1(a b:Array Keyed)(mg:Nat)(c:LoA):SM (ForInStep LoA):=
 elem' b c.2.2.2.1 >>= λy=>elem' a c.2.2.1 >>= λx=>lt' y x >>= λo=>match o with
  |some w=>if w=true then elem' b c.2.2.2.1 >>= λz=>
   if(c.2.2.2.1+1==b.size)=true then pure (ForInStep.done (some<|dm a b (c.2.1.push z) c.2.2.1<|c.2.2.2.1+1,c.2.1.push z,c.2.2.1,c.2.2.2.1+1,0,c.2.2.2.2.2+1))
   else if c.2.2.2.2.2+1≥mg then pure (ForInStep.done (none,c.2.1.push z,c.2.2.1,c.2.2.2.1+1,0,c.2.2.2.2.2+1))
   else pure (ForInStep.yield (none,c.2.1.push z,c.2.2.1,c.2.2.2.1+1,0,c.2.2.2.2.2+1))
   else elem' a c.2.2.1 >>= λz=>
    if(c.2.2.1+1+1==a.size)=true then pure (ForInStep.done (some<|lsL a b (c.2.1.push z) (c.2.2.1+1) c.2.2.2.1,c.2.1.push z,c.2.2.1+1,c.2.2.2.1,c.2.2.2.2.1+1,0))
    else if c.2.2.2.2.1+1≥mg then pure (ForInStep.done (none,c.2.1.push z,c.2.2.1+1,c.2.2.2.1,c.2.2.2.2.1+1,0))
    else pure (ForInStep.yield (none,c.2.1.push z,c.2.2.1+1,c.2.2.2.1,c.2.2.2.2.1+1,0))
  |_=>pure<|ForInStep.done (some<|dm a b c.2.1 c.2.2.1 c.2.2.2.1,c.2.1,c.2.2.1,c.2.2.2.1,c.2.2.2.2.1,c.2.2.2.2.2)
noncomputable def jk(a b:Array Keyed)(mg:Nat)(out:Array Keyed)(ia ib ac bc:Nat):SM (ForInStep xw):=
 elem' a ia >>= λz=>if(ia+1+1==a.size)=true then pure (ForInStep.done (some<|lsL a b (out.push z) (ia+1) ib,out.push z,ia+1,ib,mg,ac,bc))
  else if(decide (ac<7)&&decide (bc<7))=true then pure (ForInStep.done (none,out.push z,ia+1,ib,mg,ac,bc))
  else pure (ForInStep.yield (none,out.push z,ia+1,ib,mg,ac,bc))
noncomputable def jl(a b:Array Keyed)(mg:Nat)(out:Array Keyed)(ia ib ac bc:Nat):SM (ForInStep xw):=
 elem' b ib >>= λz=>if(ib+1==b.size)=true then pure (ForInStep.done (some<|dm a b (out.push z) ia<|ib+1,out.push z,ia,ib+1,mg,ac,bc))
  else elem' a ia >>= λx=>jH true x b (ib+1) (b.size-(ib+1)) 0 >>= λo=>match o with
   |some k=>if k>0 then(if(ib+1+k==b.size)=true then pure (ForInStep.done (some<|dm a b (out.push z++b.extract (ib+1) (ib+1+k)) ia<|ib+1+k,out.push z++b.extract (ib+1) (ib+1+k),ia,ib+1+k,mg,ac,k))
    else jk a b mg (out.push z++b.extract (ib+1) (ib+1+k)) ia (ib+1+k) ac k)
    else jk a b mg (out.push z) ia (ib+1) ac k
   |_=>pure<|ForInStep.done (some<|dm a b (out.push z) ia<|ib+1,out.push z,ia,ib+1,mg,ac,bc)
noncomputable def jm(a b:Array Keyed)(mg:Nat)(out:Array Keyed)(ia ib ac bc:Nat):SM (ForInStep xw):=
 RY mg >>= λ_=>elem' b ib >>= λy=>jH false y a ia (a.size-ia) 0 >>= λo=>match o with
  |some k=>if k>0 then(if(ia+k+1==a.size)=true then pure (ForInStep.done (some<|lsL a b (out++a.extract ia (ia+k)) (ia+k) ib,out++a.extract ia (ia+k),ia+k,ib,mg,k,bc))
   else if(ia+k==a.size)=true then pure (ForInStep.done (some<|dm a b (out++a.extract ia (ia+k)) (ia+k) ib,out++a.extract ia (ia+k),ia+k,ib,mg,k,bc))
   else jl a b mg (out++a.extract ia (ia+k)) (ia+k) ib k bc)
   else jl a b mg out ia ib k bc
  |_=>pure<|ForInStep.done (some<|dm a b out ia ib,out,ia,ib,mg,ac,bc)
noncomputable def lo2(a b:Array Keyed)(c:xw):SM (ForInStep xw):=
 if c.2.2.2.2.1>1 then jm a b (c.2.2.2.2.1-1) c.2.1 c.2.2.1 c.2.2.2.1 c.2.2.2.2.2.1 c.2.2.2.2.2.2 else jm a b c.2.2.2.2.1 c.2.1 c.2.2.1 c.2.2.2.1 c.2.2.2.2.2.1 c.2.2.2.2.2.2
noncomputable def lo3(a b:Array Keyed)(c:LoC):SM (ForInStep LoC):=
 (forIn [:a.size+b.size] ((none,c.2.1,c.2.2.1,c.2.2.2.1,0,0):LoA) λ_ d=>lo1 a b c.2.2.2.2 d) >>= λd=>match d.1 with
  |some r=>pure<|ForInStep.done (some r,d.2.1,d.2.2.1,d.2.2.2.1,c.2.2.2.2)
  |none=>liftM (rule "list.sort.gallop") >>= λ_=>(forIn [:a.size+b.size] ((none,d.2.1,d.2.2.1,d.2.2.2.1,c.2.2.2.2+1,d.2.2.2.2.1,d.2.2.2.2.2):xw) λ_ e=>lo2 a b e) >>= λe=>match e.1 with
   |some r=>pure<|ForInStep.done (some r,e.2.1,e.2.2.1,e.2.2.2.1,e.2.2.2.2.1)
   |none=>RY (e.2.2.2.2.1+1) >>= λ_=>pure<|ForInStep.yield (none,e.2.1,e.2.2.1,e.2.2.2.1,e.2.2.2.2.1+1)
noncomputable def XU:Array Keyed->Array Keyed->SM (Array Keyed):=sortPriv% PySem.Builtin.mergeLo
theorem CY(a b:Array Keyed):XU a b=(liftM (rule "list.sort.merge-lo") >>= λ_=>elem' b 0 >>= λz=>
 if(1==b.size)=true then pure (dm a b (List.toArray [z]) 0 1)else if(0+1==a.size)=true then pure (lsL a b (List.toArray [z]) 0 1)
 else get >>= λst=>(forIn [:a.size+b.size] ((none,(List.toArray [z]),0,1,gallopOf st):LoC) λ_ c=>lo3 a b c) >>= λc=>match c.1 with
  |some r=>pure r
  |none=>liftM<|unsupported "internal:list.sort.merge-bound"):=by
 show(_ >>= _:SM _)=_
 congr 1;funext u
 show(_ >>= _:SM _)=_
 congr 1;funext z
 by_cases h:(1==b.size)=true
 ·exact(aL h).trans (aL h).symm
 ·calc(aI h).trans (Eq.trans ?_ (aI h).symm);by_cases h2:(0+1==a.size)=true
  ·exact(aL h2).trans (aL h2).symm
  ·calc(aI h2).trans (Eq.trans ?_ (aI h2).symm);show(_ >>= _:SM _)=_
   congr 1;funext st
   show(_ >>= _:SM _)=_
   congr 1
   ·congr 1;funext x c
    delta lo3
    show(_ >>= _:SM _)=_
    congr 1;funext d
    let⟨r,d⟩:=d;cases r
    ·show(_ >>= _:SM _)=_
     congr 1;funext v
     show(_ >>= _:SM _)=_
     congr 1;funext d
     let⟨r,d⟩:=d;cases r<;>rfl
    ·rfl
   ·funext c
    let⟨r,d⟩:=c;cases r<;>rfl
structure rG(S:Keyed->Prop)(κ:Keyed->Int)(a b:Array Keyed):Prop where
 sa:xJ κ a 0 a.size
 sb:xJ κ b 0 b.size
 ma:∀p,p∈a.toList->S p
 mb:∀p,p∈b.toList->S p
 na:1<=a.size
 nb:1<=b.size
 b0:∀i,i<a.size->eF κ b 0<eF κ a i
 al:∀j,j<b.size->eF κ b j<eF κ a (a.size-1)
section
variable {a b out:Array Keyed}
abbrev oX(κ:Keyed->Int)(a b out:Array Keyed)(ia ib:Nat):Prop:=rA κ a.toList b.toList out.toList ia ib
abbrev AF(κ:Keyed->Int)(a b out:Array Keyed):Prop:=Mgd κ a.toList b.toList out.toList
theorem MA(a:Array Keyed)(i k:Nat):(a.extract i<|i+k).toList=(a.toList.drop i).take k:=by
 rw[fE,dR,rO]
theorem MC(a:Array Keyed)(i:Nat):(a.extract i a.size).toList=a.toList.drop i:=by
 rw[fE,dR,aQ (by simp)]
theorem WH{l:List Keyed}(h:l[i]?=some z):[z]=(l.drop i).take 1:=by
 let⟨hi,e⟩:=aC.mp h;rw[eK hi,e];rfl
theorem oX.appA(H:rG S κ a b)(h:oX κ a b out ia ib){k:Nat}(hq:∀i,ia<=i->i<ia+k->∀j,ib<=j->j<b.size->eF κ a i<=eF κ b j):oX κ a b (out++a.extract ia (ia+k)) (ia+k) ib:=by
 have :=rA.addA h k (qP H.sa) λx hx y hy=>by
  let⟨i,h1,h2,g,c⟩:=vX hx;let⟨j,d,e,f⟩:=HA hy;rw[vG (κ:=κ) c,vG (κ:=κ) f];exact hq i h1 h2 j d (by simpa using e)
 rw[oX,cL,MA];exact this
theorem oX.appB(H:rG S κ a b)(h:oX κ a b out ia ib){k:Nat}(hq:∀j,ib<=j->j<ib+k->∀i,ia<=i->i<a.size->eF κ b j<=eF κ a i):oX κ a b (out++b.extract ib (ib+k)) ia (ib+k):=by
 have :=rA.addB h k (qP H.sb) λx hx y hy=>by
  let⟨i,h1,h2,g,c⟩:=vX hx;let⟨j,d,e,f⟩:=HA hy;rw[vG (κ:=κ) c,vG (κ:=κ) f];exact hq i h1 h2 j d (by simpa using e)
 rw[oX,cL,MA];exact this
theorem UW(o:Array Keyed)(z:Keyed):(o.push z).toList=o.toList++[z]:=by simp
theorem oX.pushA(H:rG S κ a b)(h:oX κ a b out ia ib)(hz:a[ia]?=some z)(hq:∀j,ib<=j->j<b.size->κ z<=eF κ b j):oX κ a b (out.push z) (ia+1) ib:=by
 let c:a.toList[ia]?=some z:=by rw[cC];exact hz
 have :=h.appA H (k:=1) λi h1 h2 j d e=>by
  have :i=ia:=by lia
  subst this;rw[zY hz];exact hq j d e
 rw[oX,cL,MA,←WH c]at this;rw[oX,UW];exact this
theorem oX.pushB(H:rG S κ a b)(h:oX κ a b out ia ib)(hz:b[ib]?=some z)(hq:∀i,ia<=i->i<a.size->κ z<=eF κ a i):oX κ a b (out.push z) ia (ib+1):=by
 let c:b.toList[ib]?=some z:=by rw[cC];exact hz
 have :=h.appB H (k:=1) λi h1 h2 j d e=>by
  have :i=ib:=by lia
  subst this;rw[zY hz];exact hq j d e
 rw[oX,cL,MA,←WH c]at this;rw[oX,UW];exact this
theorem oX.dn(H:rG S κ a b)(h:oX κ a b out ia ib)(hb:ib=b.size):AF κ a b (dm a b out ia ib):=by
 have :=rA.endA h (qP H.sa) (by simp;lia);rw[AF,dm,cL,cL,MC,MC,mU (as:=b.toList) (by simp;lia),cK];exact this
theorem oX.ls(H:rG S κ a b)(h:oX κ a b out ia ib)(ha:ia+1=a.size):AF κ a b (lsL a b out ia ib):=by
 let h1:=rA.addB h b.size (qP H.sb) λx hx y hy=>by
  let⟨i,h1,h2,c,d⟩:=vX hx;let⟨j,g,e,f⟩:=HA hy;rw[vG (κ:=κ) d,vG (κ:=κ) f];have :j=a.size-1:=by simp at e;lia
  subst this;exact sC (H.al i (by simpa using c))
 rw[aQ (l:=b.toList.drop ib) (by simp)]at h1;have :=h1.endA (qP H.sa) (by simp);rw[AF,lsL,cL,cL,MC,MC];exact this
end
def cv(κ:Keyed->Int)(a b:Array Keyed)(N:Nat)(r:Option (Array Keyed))(out:Array Keyed)(ia ib:Nat):Prop:=
 r=none/\oX κ a b out ia ib/\ia+1<a.size/\ib<b.size/\N<=ia+ib
def LoG(κ:Keyed->Int)(a b:Array Keyed)(N:Nat)(r:Option (Array Keyed))(out:Array Keyed)(ia ib:Nat):Prop:=
 (∃x,r=some x/\AF κ a b x)\/cv κ a b N r out ia ib
theorem u9{a b out:Array Keyed}{N:Nat}(h1:oX κ a b out ia ib)(h2:ia+1<a.size)(h3:ib<b.size)(h4:N<=ia+ib):cv κ a b N none out ia ib:=#[rfl,h1,h2,h3,h4]
section
variable {a b:Array Keyed}
theorem vc(C:iY M A E s kd S κ)(H:rG S κ a b)(hk:kindOf st=kd){N mg:Nat}{out:Array Keyed}(h:cv κ a b N none out ia ib):
 wpS M A E s (lo1 a b mg (none,out,ia,ib,ac,bc)) (λr cN=>cN=st/\match r with
  | .done c=>LoG κ a b (N+1) c.1 c.2.1 c.2.2.1 c.2.2.2.1
  | .yield c=>cv κ a b (N+1) c.1 c.2.1 c.2.2.1 c.2.2.2.1) st:=by
 obtain⟨-,h1,h2,g,j⟩:=h;let⟨x,ex,hx⟩:=xR (arr:=a) (i:=ia) ();let⟨y,d,hy⟩:=xR (arr:=b) (i:=ib) ();unfold lo1;calc aY<|zX d<|aY<|zX ex<|aY<|C.lt (H.mb y hy) (H.ma x hx) hk ?_;let k:=zY (κ:=κ) ex;let l:=zY (κ:=κ) d;by_cases hl:κ y<κ x
 ·simp only[hl,decide_true,if_true];calc aY<|zX d ?_;let hn:oX κ a b (out.push y) ia (ib+1):=h1.pushB H d λi e f=>by
   have :=H.sa ia i () e f;lia
  by_cases he:ib+1=b.size
  ·rw[aL (by simpa using he)];exact bK #[rfl,.inl #[_,rfl,hn.dn H he]]
  ·rw[aI (by simpa using he)];split
   ·exact bK #[rfl,.inr (u9 (N:=N+1) hn (h2) () () :)]
   ·exact bK #[rfl,(u9 (N:=N+1) hn (h2) () () :)]
 ·simp only[hl,decide_false,bP,dJ];calc aY<|zX ex ?_;let hn:oX κ a b (out.push x) (ia+1) ib:=h1.pushA H ex λi e f=>by
   have :=H.sb ib i () e f;lia
  by_cases he:ia+1+1=a.size
  ·rw[aL (by simpa using he)];exact bK #[rfl,.inl #[_,rfl,hn.ls H he]]
  ·rw[aI (by simpa using he)];split
   ·exact bK #[rfl,.inr (u9 (N:=N+1) hn () () () :)]
   ·exact bK #[rfl,(u9 (N:=N+1) hn () () () :)]
abbrev lf(κ:Keyed->Int)(a b:Array Keyed)(N:Nat)(st:SortSt)(r:ForInStep xw)(cN:SortSt):Prop:=iS st cN/\match r with
 | .done c=>LoG κ a b N c.1 c.2.1 c.2.2.1 c.2.2.2.1
 | .yield c=>cv κ a b N c.1 c.2.1 c.2.2.1 c.2.2.2.1
theorem LF(H:rG S κ a b){N mg:Nat}{out:Array Keyed}(hs:iS st0 st)(h1:oX κ a b out ia ib)(h2:ia+1<a.size)(h3:ib<b.size)(h4:N<=ia+ib)
 (hq:∀j,ib<=j->j<b.size->eF κ a ia<=eF κ b j):wpS M A E s (jk a b mg out ia ib ac bc) (lf κ a b N st0) st:=by
 let⟨x,ex,hx⟩:=xR (arr:=a) (i:=ia) ();unfold jk;calc aY<|zX ex ?_;let c:=zY (κ:=κ) ex;let hn:oX κ a b (out.push x) (ia+1) ib:=h1.pushA H ex λi d e=>by rw[←c];exact hq i d e
 by_cases he:ia+1+1=a.size
 ·rw[aL (by simpa using he)];exact bK #[hs,.inl #[_,rfl,hn.ls H he]]
 ·rw[aI (by simpa using he)];split
  ·exact bK #[hs,.inr (u9 (N:=N) hn () () () :)]
  ·exact bK #[hs,(u9 (N:=N) hn () () () :)]
theorem LG(C:iY M A E s kd S κ)(H:rG S κ a b)(hk:kindOf st=kd){N mg:Nat}{out:Array Keyed}(hs:iS st0 st)(h1:oX κ a b out ia ib)(h2:ia+1<a.size)(h3:ib<b.size)(h4:N<=ia+ib)
 (hq:∀i,ia<=i->i<a.size->eF κ b ib<=eF κ a i):wpS M A E s (jl a b mg out ia ib ac bc) (lf κ a b N st0) st:=by
 let⟨y,c,hy⟩:=xR (arr:=b) (i:=ib) ();let⟨x,ex,hx⟩:=xR (arr:=a) (i:=ia) ();unfold jl;calc aY<|zX c ?_;let h:=zY (κ:=κ) c;let n:=zY (κ:=κ) ex;let hn:oX κ a b (out.push y) ia (ib+1):=h1.pushB H c λi f d=>by rw[←h];exact hq i f d
 by_cases he:ib+1=b.size
 ·rw[aL (by simpa using he)];exact bK #[hs,.inl #[_,rfl,hn.dn H he]]
 ·rw[aI (by simpa using he)];calc aY<|zX ex ?_;calc aY (VQ C hk H.mb (H.ma x hx) () (λp q r1 e g=>H.sb p q () e ()) () λk f d l=>?_);dsimp only;let hm:oX κ a b (out.push y++b.extract (ib+1) (ib+1+k)) ia (ib+1+k):=hn.appB H λj r1 e i g m=>by
   have :=d (j-(ib+1)) ();rw[show ib+1+(j-(ib+1))=j by lia]at this;have :=H.sa ia i () g m;lia
  let hr:∀j,ib+1+k<=j->j<b.size->eF κ a ia<=eF κ b j:=λj r1 e=>by
   have :=l (j-(ib+1)) () ();rw[show ib+1+(j-(ib+1))=j by lia]at this;lia
  by_cases hz:k>0
  ·rw[aL hz];by_cases he:ib+1+k=b.size
   ·rw[aL (by simpa using he)];exact bK #[hs,.inl #[_,rfl,hm.dn H he]]
   ·rw[aI (by simpa using he)];exact LF H hs hm h2 () () hr
  ·rw[aI hz];have :k=0:=by lia
   subst this;exact LF H hs hn h2 () () hr
theorem LH(C:iY M A E s kd S κ)(H:rG S κ a b)(hk:kindOf st=kd){N mg:Nat}{out:Array Keyed}(hs:iS st0 st)(h1:oX κ a b out ia ib)(h2:ia+1<a.size)(h3:ib<b.size)(h4:N<=ia+ib):
 wpS M A E s (jm a b mg out ia ib ac bc) (lf κ a b N st0) st:=by
 let⟨y,e,hy⟩:=xR (arr:=b) (i:=ib) ();unfold jm;rw[YH];calc aY<|mX<|aY<|zX e ?_;let iA:=hs.gal mg;let c:kindOf (UR st mg)=kd:=hk;let n:=zY (κ:=κ) e;calc aY (VP C c H.ma (H.mb y hy) () (λp q r1 d f=>H.sa p q () d ()) () λk o g h=>?_);dsimp only;let hl:=H.al ib h3;let l:ia+k<a.size:=by
  by_cases hc:ia+k<a.size
  ·exact hc
  ·have :=g (a.size-1-ia) ();rw[show ia+(a.size-1-ia)=a.size-1 by lia]at this;lia
 let hm:oX κ a b (out++a.extract ia (ia+k)) (ia+k) ib:=h1.appA H λj r1 d i f m=>by
  have :=g (j-ia) ();rw[show ia+(j-ia)=j by lia]at this;have :=H.sb ib i () f m;lia
 let hr:∀j,ia+k<=j->j<a.size->eF κ b ib<=eF κ a j:=λj r1 d=>by
  have :=h (j-ia) () ();rw[show ia+(j-ia)=j by lia]at this;lia
 by_cases hz:k>0
 ·rw[aL hz];by_cases he:ia+k+1=a.size
  ·rw[aL (by simpa using he)];exact bK #[iA,.inl #[_,rfl,hm.ls H he]]
  ·rw[aI (by simpa using he),aI (by simp;lia)];exact LG C H c iA hm () h3 () hr
 ·rw[aI hz];have :k=0:=by lia
  subst this;exact LG C H c iA h1 () h3 () hr
theorem vb(C:iY M A E s kd S κ)(H:rG S κ a b)(hk:kindOf st=kd){N mg:Nat}{out:Array Keyed}(hs:iS st0 st)(h:cv κ a b N none out ia ib):
 wpS M A E s (lo2 a b (none,out,ia,ib,mg,ac,bc)) (lf κ a b N st0) st:=by
 obtain⟨-,h1,h2,c,d⟩:=h;unfold lo2;dsimp only;split
 ·exact LH C H hk hs h1 h2 c d
 ·exact LH C H hk hs h1 h2 c d
theorem va(C:iY M A E s kd S κ)(H:rG S κ a b)(hk0:kindOf st0=kd){N mg:Nat}{out:Array Keyed}(hs:iS st0 st)(h:cv κ a b N none out ia ib):
 wpS M A E s (lo3 a b (none,out,ia,ib,mg)) (λr cN=>iS st0 cN/\match r with
  | .done c=>∃x,c.1=some x/\AF κ a b x
  | .yield c=>cv κ a b (N+1) c.1 c.2.1 c.2.2.1 c.2.2.2.1) st:=by
 unfold lo3;dsimp only;refine aY (gD (eL
  (I:=λx c cN=>cN=st/\cv κ a b (N+x) c.1 c.2.1 c.2.2.1 c.2.2.2.1)
  (Q:=λc cN=>cN=st/\LoG κ a b (N+1) c.1 c.2.1 c.2.2.1 c.2.2.2.1) ?step ?fin #[rfl,h]) ?post)
 case fin=>
  rintro c cN ⟨rfl,h1,h2,e,f,l⟩;have :=H.na;exact#[rfl,.inr #[h1,h2,e,f,()]]
 case step=>
  rintro x ⟨r,out,ia,ib,ac,bc⟩ cN _ hx ⟨rfl,hc⟩;let hr:r=none:=hc.1;subst hr;calc gD (vc C H (hs.kind.trans hk0) hc) ?_;rintro(c |c) gO ⟨rfl,h'⟩
  ·calc#[rfl,?_];rcases h' with h' |⟨g,i,j,k,m⟩
   ·exact .inl h'
   ·exact .inr #[g,i,j,k,()]
  ·exact#[rfl,h']
 case post=>
  rintro⟨r,out,ia,ib,ac,bc⟩ cN ⟨rfl,hc⟩;rcases hc with⟨x,hx,d⟩ |hc
  ·let hx:r=some x:=hx;subst hx;exact bK #[hs,x,rfl,d]
  ·let hr:r=none:=hc.1;subst hr;dsimp only;calc aY<|rQ<|iK #[rfl,?_];refine aY (gD (eL
    (I:=λx c cN=>iS st0 cN/\cv κ a b (N+1) c.1 c.2.1 c.2.2.1 c.2.2.2.1)
    (Q:=λc cN=>iS st0 cN/\LoG κ a b (N+1) c.1 c.2.1 c.2.2.1 c.2.2.2.1) ?_ ?_ #[hs,hc]) ?_)
   ·rintro x ⟨r,out,ia,ib,mg,ac,bc⟩ cN _ hx ⟨iA,hc⟩;let hr:r=none:=hc.1;subst hr;calc gD (vb C H (iA.kind.trans hk0) iA hc) ?_;rintro(c |c) gO h'<;>exact h'
   ·rintro c cN ⟨h1,h2⟩;exact#[h1,.inr h2]
   ·rintro⟨r,out,ia,ib,mg,ac,bc⟩ cN ⟨iA,hc⟩;rcases hc with⟨x,hx,d⟩ |hc
    ·let hx:r=some x:=hx;subst hx;exact bK #[iA,x,rfl,d]
    ·let hr:r=none:=hc.1;subst hr;dsimp only;rw[YH];exact aY<|mX<|bK #[iA.gal _,hc]
theorem GX(C:iY M A E s kd S κ)(H:rG S κ a b)(hk:kindOf st=kd){Q:Array Keyed->SortSt->Prop}(h:∀out cN,iS st cN->AF κ a b out->Q out cN):wpS M A E s (XU a b) Q st:=by
 let h0:=H.na;let f:=H.nb;let⟨y,e,hy⟩:=xR (arr:=b) (i:=0) ();rw[CY];calc aY<|rQ<|iK #[rfl,?_];calc aY<|zX e ?_;let k:=zY (κ:=κ) e;let hn:oX κ a b (List.toArray [y]) 0 1:=by
  have :=oX.pushB (out:= (List.toArray [])) H rA.nil e λi l g=>by
   have :=H.b0 i g;lia
  simpa using this
 by_cases he:1=b.size
 ·rw[aL (by simpa using he)];exact bK<|h _ _ .rfl'<|hn.dn H he
 ·rw[aI (by simpa using he)];by_cases d:0+1=a.size
  ·rw[aL (by simpa using d)];exact bK<|h _ _ .rfl'<|hn.ls H d
  ·rw[aI (by simpa using d)];calc aY<|rH ?_;refine aY (gD (eL
    (I:=λx c cN=>iS st cN/\cv κ a b (x+1) c.1 c.2.1 c.2.2.1 c.2.2.2.1)
    (Q:=λc cN=>iS st cN/\∃x,c.1=some x/\AF κ a b x) ?_ ?_ #[.rfl',(u9 (N:=0+1) hn () () () :)]) ?_)
   ·rintro x ⟨r,out,ia,ib,mg⟩ cN _ hx ⟨iA,hc⟩;let hr:r=none:=hc.1;subst hr;calc gD (va C H hk iA hc) ?_;rintro(c |c) gO ⟨h1,h2⟩
    ·exact#[h1,h2]
    ·exact#[h1,h2]
   ·rintro c cN ⟨h1,-,h2,m,n,o⟩;lia
   ·rintro⟨r,c⟩ cN ⟨h1,x,hx,j⟩;let hx:r=some x:=hx;subst hx;exact bK<|h _ _ h1 j
end
noncomputable def dq(a b out:Array Keyed)(na nb:Nat):Array Keyed:=a.extract 0 na++b.extract 0 nb++out.reverse
noncomputable def fsH(a b out:Array Keyed)(na nb:Nat):Array Keyed:=b.extract 0 nb++a.extract 0 na++out.reverse
abbrev HiA:=Option (Array Keyed)×Nat×Nat×Array Keyed×Nat×Nat
abbrev xy:=Option (Array Keyed)×Nat×Nat×Array Keyed×Nat×Nat×Nat
abbrev HiC:=Option (Array Keyed)×Nat×Nat×Array Keyed×Nat
noncomputable def hi1(a b:Array Keyed)(mg:Nat)(c:HiA):SM (ForInStep HiA):=
 elem' b (c.2.2.1-1) >>= λy=>elem' a (c.2.1-1) >>= λx=>lt' y x >>= λo=>match o with
  |some w=>if w=true then elem' a (c.2.1-1) >>= λz=>
   if(c.2.1-1==0)=true then pure (ForInStep.done (some<|dq a b (c.2.2.2.1.push z) (c.2.1-1) c.2.2.1,c.2.1-1,c.2.2.1,c.2.2.2.1.push z,c.2.2.2.2.1+1,0))
   else if c.2.2.2.2.1+1≥mg then pure (ForInStep.done (none,c.2.1-1,c.2.2.1,c.2.2.2.1.push z,c.2.2.2.2.1+1,0))
   else pure (ForInStep.yield (none,c.2.1-1,c.2.2.1,c.2.2.2.1.push z,c.2.2.2.2.1+1,0))
   else elem' b (c.2.2.1-1) >>= λz=>
    if(c.2.2.1-1==1)=true then pure (ForInStep.done (some<|fsH a b (c.2.2.2.1.push z) c.2.1<|c.2.2.1-1,c.2.1,c.2.2.1-1,c.2.2.2.1.push z,0,c.2.2.2.2.2+1))
    else if c.2.2.2.2.2+1≥mg then pure (ForInStep.done (none,c.2.1,c.2.2.1-1,c.2.2.2.1.push z,0,c.2.2.2.2.2+1))
    else pure (ForInStep.yield (none,c.2.1,c.2.2.1-1,c.2.2.2.1.push z,0,c.2.2.2.2.2+1))
  |_=>pure<|ForInStep.done (some<|dq a b c.2.2.2.1 c.2.1 c.2.2.1,c.2.1,c.2.2.1,c.2.2.2.1,c.2.2.2.2.1,c.2.2.2.2.2)
noncomputable def jt(a b:Array Keyed)(mg:Nat)(out:Array Keyed)(na nb ac bc:Nat):SM (ForInStep xy):=
 elem' a (na-1) >>= λz=>if(na-1==0)=true then pure (ForInStep.done (some<|dq a b (out.push z) (na-1) nb,na-1,nb,out.push z,mg,ac,bc))
  else if(decide (ac<7)&&decide (bc<7))=true then pure (ForInStep.done (none,na-1,nb,out.push z,mg,ac,bc))
  else pure (ForInStep.yield (none,na-1,nb,out.push z,mg,ac,bc))
noncomputable def ju(a b:Array Keyed)(mg:Nat)(out:Array Keyed)(na nb ac bc:Nat):SM (ForInStep xy):=
 elem' b (nb-1) >>= λz=>if(nb-1==1)=true then pure (ForInStep.done (some<|fsH a b (out.push z) na<|nb-1,na,nb-1,out.push z,mg,ac,bc))
  else elem' a (na-1) >>= λx=>jH true x b 0 (nb-1) (nb-1-1) >>= λo=>match o with
   |some k=>if nb-1-k>0 then(if(k==1)=true then pure (ForInStep.done (some<|fsH a b (out.push z++(b.extract k<|nb-1).reverse) na k,na,k,out.push z++(b.extract k<|nb-1).reverse,mg,ac,nb-1-k))
    else if(k==0)=true then pure (ForInStep.done (some<|dq a b (out.push z++(b.extract k<|nb-1).reverse) na k,na,k,out.push z++(b.extract k<|nb-1).reverse,mg,ac,nb-1-k))
    else jt a b mg (out.push z++(b.extract k<|nb-1).reverse) na k ac (nb-1-k))
    else jt a b mg (out.push z) na (nb-1) ac (nb-1-k)
   |_=>pure<|ForInStep.done (some<|dq a b (out.push z) na<|nb-1,na,nb-1,out.push z,mg,ac,bc)
noncomputable def jv(a b:Array Keyed)(mg:Nat)(out:Array Keyed)(na nb ac bc:Nat):SM (ForInStep xy):=
 RY mg >>= λ_=>elem' b (nb-1) >>= λy=>jH false y a 0 na (na-1) >>= λo=>match o with
  |some k=>if na-k>0 then(if(k==0)=true then pure (ForInStep.done (some<|dq a b (out++(a.extract k na).reverse) k nb,k,nb,out++(a.extract k na).reverse,mg,na-k,bc))
   else ju a b mg (out++(a.extract k na).reverse) k nb (na-k) bc)
   else ju a b mg out na nb (na-k) bc
  |_=>pure<|ForInStep.done (some<|dq a b out na nb,na,nb,out,mg,ac,bc)
noncomputable def hi2(a b:Array Keyed)(c:xy):SM (ForInStep xy):=
 if c.2.2.2.2.1>1 then jv a b (c.2.2.2.2.1-1) c.2.2.2.1 c.2.1 c.2.2.1 c.2.2.2.2.2.1 c.2.2.2.2.2.2 else jv a b c.2.2.2.2.1 c.2.2.2.1 c.2.1 c.2.2.1 c.2.2.2.2.2.1 c.2.2.2.2.2.2
noncomputable def hi3(a b:Array Keyed)(c:HiC):SM (ForInStep HiC):=
 (forIn [:a.size+b.size] ((none,c.2.1,c.2.2.1,c.2.2.2.1,0,0):HiA) λ_ d=>hi1 a b c.2.2.2.2 d) >>= λd=>match d.1 with
  |some r=>pure<|ForInStep.done (some r,d.2.1,d.2.2.1,d.2.2.2.1,c.2.2.2.2)
  |none=>liftM (rule "list.sort.gallop") >>= λ_=>(forIn [:a.size+b.size] ((none,d.2.1,d.2.2.1,d.2.2.2.1,c.2.2.2.2+1,d.2.2.2.2.1,d.2.2.2.2.2):xy) λ_ e=>hi2 a b e) >>= λe=>match e.1 with
   |some r=>pure<|ForInStep.done (some r,e.2.1,e.2.2.1,e.2.2.2.1,e.2.2.2.2.1)
   |none=>RY (e.2.2.2.2.1+1) >>= λ_=>pure<|ForInStep.yield (none,e.2.1,e.2.2.1,e.2.2.2.1,e.2.2.2.2.1+1)
noncomputable def XV:Array Keyed->Array Keyed->SM (Array Keyed):=sortPriv% PySem.Builtin.mergeHi
theorem CZ(a b:Array Keyed):XV a b=(liftM (rule "list.sort.merge-hi") >>= λ_=>elem' a (a.size-1) >>= λz=>
 if(a.size-1==0)=true then pure (dq a b (List.toArray [z]) (a.size-1) b.size)else if(b.size==1)=true then pure (fsH a b (List.toArray [z]) (a.size-1) b.size)
 else get >>= λst=>(forIn [:a.size+b.size] ((none,a.size-1,b.size,(List.toArray [z]),gallopOf st):HiC) λ_ c=>hi3 a b c) >>= λc=>match c.1 with
  |some r=>pure r
  |none=>liftM<|unsupported "internal:list.sort.merge-bound"):=by
 show(_ >>= _:SM _)=_
 congr 1;funext u
 show(_ >>= _:SM _)=_
 congr 1;funext z
 by_cases h:(a.size-1==0)=true
 ·exact(aL h).trans (aL h).symm
 ·calc(aI h).trans (Eq.trans ?_ (aI h).symm);by_cases h2:(b.size==1)=true
  ·exact(aL h2).trans (aL h2).symm
  ·calc(aI h2).trans (Eq.trans ?_ (aI h2).symm);show(_ >>= _:SM _)=_
   congr 1;funext st
   show(_ >>= _:SM _)=_
   congr 1
   ·congr 1;funext x c
    delta hi3
    show(_ >>= _:SM _)=_
    congr 1;funext d
    let⟨r,d⟩:=d;cases r
    ·show(_ >>= _:SM _)=_
     congr 1;funext v
     show(_ >>= _:SM _)=_
     congr 1;funext d
     let⟨r,d⟩:=d;cases r<;>rfl
    ·rfl
   ·funext c
    let⟨r,d⟩:=c;cases r<;>rfl
abbrev pS(κ:Keyed->Int)(a b out:Array Keyed)(na nb:Nat):Prop:=rA (λx=> - κ x) a.toList.reverse b.toList.reverse out.toList (a.size-na)<|b.size-nb
section
variable {a b out:Array Keyed}
theorem XG{l:List Keyed}(h:l.Pairwise λx y=>κ x<=κ y):l.reverse.Pairwise λx y=> - κ x<= - κ y:=by
 rw[List.pairwise_reverse];exact h.imp λh=>by lia
theorem uX{l:List Keyed}(h:n<=l.length):l.reverse.drop (l.length-n)=(l.take n).reverse:=by
 rw[List.drop_reverse,show l.length-(l.length-n)=n by lia]
theorem KF{l:List Keyed}{k:Nat}(h:n<=l.length)(hk:k<=n):(l.reverse.drop<|l.length-n).take (n-k)=((l.drop k).take (n-k)).reverse:=by
 rw[uX h,List.take_reverse,bF,show min n l.length-(n-k)=k by lia,List.drop_take]
theorem SH{a:Array Keyed}{k:Nat}(h:n<=a.size)(hk:k<=n):((a.extract k n).reverse).toList=(a.toList.reverse.drop<|a.size-n).take (n-k):=by
 rw[oI,fE,dR,←bR,KF (by simpa using h) hk]
theorem BA{a:Array Keyed}{k:Nat}{x:Keyed}(h:n<=a.size)(hk:k<=n)(hx:x∈(a.toList.reverse.drop<|a.size-n).take (n-k)):∃i,k<=i/\i<n/\κ x=eF κ a i:=by
 rw[←bR,KF (by simpa using h) hk,List.mem_reverse]at hx;let⟨i,h1,h2,c,b⟩:=vX hx;exact#[i,h1,(),vG b]
theorem YI{a:Array Keyed}{x:Keyed}(h:n<=a.size)(hx:x∈a.toList.reverse.drop (a.size-n)):∃i,i<n/\κ x=eF κ a i:=by
 rw[←bR,uX (by simpa using h),List.mem_reverse]at hx;rw[show a.toList.take n=(a.toList.drop 0).take n by simp]at hx;let⟨i,h1,h2,c,b⟩:=vX hx;exact#[i,(),vG b]
theorem pS.appA(H:rG S κ a b)(ha:na<=a.size)(hb:nb<=b.size)(h:pS κ a b out na nb){k:Nat}(hk:k<=na)(hq:∀i,k<=i->i<na->∀j,j<nb->eF κ b j<=eF κ a i):pS κ a b (out++(a.extract k na).reverse) k nb:=by
 have :=rA.addA h (na-k) (XG<|qP H.sa) λx hx y hy=>by
  let⟨i,h1,h2,d⟩:=BA (κ:=κ) ha hk hx;let⟨j,c,e⟩:=YI (κ:=κ) hb hy;have :=hq i h1 h2 j c;show - κ x<= - κ y;lia
 rw[←SH ha hk,←cL,show a.size-na+(na-k)=a.size-k by lia]at this;exact this
theorem pS.appB(H:rG S κ a b)(ha:na<=a.size)(hb:nb<=b.size)(h:pS κ a b out na nb){k:Nat}(hk:k<=nb)(hq:∀j,k<=j->j<nb->∀i,i<na->eF κ a i<=eF κ b j):pS κ a b (out++(b.extract k nb).reverse) na k:=by
 have :=rA.addB h (nb-k) (XG<|qP H.sb) λx hx y hy=>by
  let⟨i,h1,h2,d⟩:=BA (κ:=κ) hb hk hx;let⟨j,c,e⟩:=YI (κ:=κ) ha hy;have :=hq i h1 h2 j c;show - κ x<= - κ y;lia
 rw[←SH hb hk,←cL,show b.size-nb+(nb-k)=b.size-k by lia]at this;exact this
theorem KY{a:Array Keyed}(h1:1<=n)(hz:a[n-1]?=some z):(a.extract (n-1) n).reverse.toList=[z]:=by
 let b:a.toList[n-1]?=some z:=by rw[cC];exact hz
 rw[oI,fE,dR,show n-(n-1)=1 by lia,←WH b];rfl
theorem pS.pushA(H:rG S κ a b)(ha:na<=a.size)(hb:nb<=b.size)(h:pS κ a b out na nb)(h1:1<=na)(hz:a[na-1]?=some z)(hq:∀j,j<nb->eF κ b j<=κ z):pS κ a b (out.push z) (na-1) nb:=by
 have :=h.appA H ha hb (k:=na-1) () λi d e j c=>by
  have :i=na-1:=by lia
  subst this;rw[zY hz];exact hq j c
 rw[pS,cL,KY h1 hz,←UW]at this;exact this
theorem pS.pushB(H:rG S κ a b)(ha:na<=a.size)(hb:nb<=b.size)(h:pS κ a b out na nb)(h1:1<=nb)(hz:b[nb-1]?=some z)(hq:∀j,j<na->eF κ a j<=κ z):pS κ a b (out.push z) na (nb-1):=by
 have :=h.appB H ha hb (k:=nb-1) () λi d e j c=>by
  have :i=nb-1:=by lia
  subst this;rw[zY hz];exact hq j c
 rw[pS,cL,KY h1 hz,←UW]at this;exact this
theorem LC{la lb ol:List Keyed}(h:Mgd (λx=> - κ x) la.reverse lb.reverse ol):Mgd κ la lb ol.reverse:=by
 refine#[?_,?_]
 ·exact(IJ _).trans (h.1.trans<|(IJ _).append (IJ _))
 ·rw[List.pairwise_reverse];exact h.2.imp λh=>by dsimp only at h;lia
theorem UG{a:Array Keyed}:(a.extract 0 n).toList=a.toList.take n:=by simp
theorem pS.dn(H:rG S κ a b)(hb:nb<=b.size)(h:pS κ a b out na nb)(h0:na=0):AF κ a b (dq a b out na nb):=by
 subst h0;have :=LC (h.endB (XG<|qP H.sb) (by simp));rw[←bR (xs:=b),uX (by simpa using hb),AB,tH]at this;rw[AF,dq,cL,cL,UG,UG,oI,List.take_zero,dj];exact this
theorem pS.fs(H:rG S κ a b)(ha:na<=a.size)(h:pS κ a b out na nb)(h0:nb=1):AF κ a b (fsH a b out na nb):=by
 subst h0;let h1:=rA.addA h a.size (XG<|qP H.sa) λx hx y hy=>by
  let⟨i,h1,h2⟩:=YI (κ:=κ) ha<|fQ hx;let⟨j,e,f⟩:=YI (κ:=κ) H.nb hy;have :j=0:=by lia
  subst this;have :=H.b0 i ();show - κ x<= - κ y;lia
 rw[aQ (l:=a.toList.reverse.drop<|a.size-na) (by simp)]at h1;have :=LC (h1.endB (XG<|qP H.sb) (by simp));let c:a.toList.reverse.drop (a.size-na)=(a.toList.take na).reverse:=by rw[←bR,uX (by simpa using ha)]
 let d:b.toList.reverse.drop (b.size-1)=(b.toList.take 1).reverse:=by rw[←bR,uX (by simpa using H.nb)]
 rw[c,d,AB,AB,tH,tH,←cM]at this;rw[AF,fsH,cL,cL,UG,UG,oI];exact this
end
def cy(κ:Keyed->Int)(a b:Array Keyed)(N:Nat)(r:Option (Array Keyed))(out:Array Keyed)(na nb:Nat):Prop:=
 r=none/\pS κ a b out na nb/\1<=na/\2<=nb/\na<=a.size/\nb<=b.size/\na+nb+N<=a.size+b.size
def HiG(κ:Keyed->Int)(a b:Array Keyed)(N:Nat)(r:Option (Array Keyed))(out:Array Keyed)(na nb:Nat):Prop:=
 (∃x,r=some x/\AF κ a b x)\/cy κ a b N r out na nb
theorem hin{a b out:Array Keyed}{N:Nat}(h1:pS κ a b out na nb)(h2:1<=na)(h3:2<=nb)(h4:na<=a.size)(h5:nb<=b.size)(h6:na+nb+N<=a.size+b.size):cy κ a b N none out na nb:=#[rfl,h1,h2,h3,h4,h5,h6]
section
variable {a b:Array Keyed}
theorem v6(C:iY M A E s kd S κ)(H:rG S κ a b)(hk:kindOf st=kd){N mg:Nat}{out:Array Keyed}(h:cy κ a b N none out na nb):
 wpS M A E s (hi1 a b mg (none,na,nb,out,ac,bc)) (λr cN=>cN=st/\match r with
  | .done c=>HiG κ a b (N+1) c.1 c.2.2.2.1 c.2.1 c.2.2.1
  | .yield c=>cy κ a b (N+1) c.1 c.2.2.2.1 c.2.1 c.2.2.1) st:=by
 obtain⟨-,h1,h2,j,e,f,k⟩:=h;let⟨x,ex,hx⟩:=xR (arr:=a) (i:=na-1) ();let⟨y,d,hy⟩:=xR (arr:=b) (i:=nb-1) ();unfold hi1;calc aY<|zX d<|aY<|zX ex<|aY<|C.lt (H.mb y hy) (H.ma x hx) hk ?_;let l:=zY (κ:=κ) ex;let m:=zY (κ:=κ) d;by_cases hl:κ y<κ x
 ·simp only[hl,decide_true,if_true];calc aY<|zX ex ?_;let hn:pS κ a b (out.push x) (na-1) nb:=h1.pushA H e f h2 ex λi g=>by
   have :=H.sb i (nb-1) () () ();lia
  by_cases he:na-1=0
  ·rw[aL (by simpa using he)];exact bK #[rfl,.inl #[_,rfl,hn.dn H f he]]
  ·rw[aI (by simpa using he)];split
   ·exact bK #[rfl,.inr (hin (N:=N+1) hn () () () () () :)]
   ·exact bK #[rfl,(hin (N:=N+1) hn () () () () () :)]
 ·simp only[hl,decide_false,bP,dJ];calc aY<|zX d ?_;let hn:pS κ a b (out.push y) na (nb-1):=h1.pushB H e f () d λi g=>by
   have :=H.sa i (na-1) () () ();lia
  by_cases he:nb-1=1
  ·rw[aL (by simpa using he)];exact bK #[rfl,.inl #[_,rfl,hn.fs H e he]]
  ·rw[aI (by simpa using he)];split
   ·exact bK #[rfl,.inr (hin (N:=N+1) hn () () () () () :)]
   ·exact bK #[rfl,(hin (N:=N+1) hn () () () () () :)]
abbrev lm(κ:Keyed->Int)(a b:Array Keyed)(N:Nat)(st:SortSt)(r:ForInStep xy)(cN:SortSt):Prop:=iS st cN/\match r with
 | .done c=>HiG κ a b N c.1 c.2.2.2.1 c.2.1 c.2.2.1
 | .yield c=>cy κ a b N c.1 c.2.2.2.1 c.2.1 c.2.2.1
theorem LQ(H:rG S κ a b){N mg:Nat}{out:Array Keyed}(hs:iS st0 st)(h1:pS κ a b out na nb)(h2:1<=na)(h3:2<=nb)(h4:na<=a.size)(h5:nb<=b.size)(h6:na+nb+N<=a.size+b.size)
 (hq:∀j,j<nb->eF κ b j<=eF κ a (na-1)):wpS M A E s (jt a b mg out na nb ac bc) (lm κ a b N st0) st:=by
 let⟨x,ex,hx⟩:=xR (arr:=a) (i:=na-1) ();unfold jt;calc aY<|zX ex ?_;let c:=zY (κ:=κ) ex;let hn:pS κ a b (out.push x) (na-1) nb:=h1.pushA H h4 h5 h2 ex λi d=>by rw[←c];exact hq i d
 by_cases he:na-1=0
 ·rw[aL (by simpa using he)];exact bK #[hs,.inl #[_,rfl,hn.dn H h5 he]]
 ·rw[aI (by simpa using he)];split
  ·exact bK #[hs,.inr (hin (N:=N) hn () () () () () :)]
  ·exact bK #[hs,(hin (N:=N) hn () () () () () :)]
theorem LR(C:iY M A E s kd S κ)(H:rG S κ a b)(hk:kindOf st=kd){N mg:Nat}{out:Array Keyed}(hs:iS st0 st)(h1:pS κ a b out na nb)(h2:1<=na)(h3:2<=nb)(h4:na<=a.size)(h5:nb<=b.size)(h6:na+nb+N<=a.size+b.size)
 (hq:∀i,i<na->eF κ a i<=eF κ b (nb-1)):wpS M A E s (ju a b mg out na nb ac bc) (lm κ a b N st0) st:=by
 let⟨y,c,hy⟩:=xR (arr:=b) (i:=nb-1) ();let⟨x,ex,hx⟩:=xR (arr:=a) (i:=na-1) ();unfold ju;calc aY<|zX c ?_;let h:=zY (κ:=κ) c;let n:=zY (κ:=κ) ex;let hn:pS κ a b (out.push y) na (nb-1):=h1.pushB H h4 h5 () c λi d=>by rw[←h];exact hq i d
 by_cases he:nb-1=1
 ·rw[aL (by simpa using he)];exact bK #[hs,.inl #[_,rfl,hn.fs H h4 he]]
 ·rw[aI (by simpa using he)];calc aY<|zX ex ?_;calc aY (VQ C hk H.mb (H.ma x hx) () (λp q r1 f l=>H.sb p q () f ()) () λk d g e=>?_);dsimp only;simp only[gG]at g e;let m:1<=k:=by
   by_cases hc:1<=k
   ·exact hc
   ·have :=e 0 () ();have :=H.b0 (na-1) ();lia
  let hm:pS κ a b (out.push y++(b.extract k<|nb-1).reverse) na k:=hn.appB H h4 () d λj r1 f i l=>by
   have :=e j () ();have :=H.sa i (na-1) () () ();lia
  let hr:∀j,j<k->eF κ b j<=eF κ a (na-1):=λj r1=>by
   have :=g j r1;lia
  by_cases hz:nb-1-k>0
  ·rw[aL hz];by_cases he:k=1
   ·rw[aL (by simpa using he)];exact bK #[hs,.inl #[_,rfl,hm.fs H h4 he]]
   ·rw[aI (by simpa using he),aI (by simp;lia)];exact LQ H hs hm h2 () h4 () () hr
  ·rw[aI hz];have :k=nb-1:=by lia
   subst this;exact LQ H hs hn h2 () h4 () () hr
theorem LS(C:iY M A E s kd S κ)(H:rG S κ a b)(hk:kindOf st=kd){N mg:Nat}{out:Array Keyed}(hs:iS st0 st)(h1:pS κ a b out na nb)(h2:1<=na)(h3:2<=nb)(h4:na<=a.size)(h5:nb<=b.size)(h6:na+nb+N<=a.size+b.size):
 wpS M A E s (jv a b mg out na nb ac bc) (lm κ a b N st0) st:=by
 let⟨y,d,hy⟩:=xR (arr:=b) (i:=nb-1) ();unfold jv;rw[YH];calc aY<|mX<|aY<|zX d ?_;let iA:=hs.gal mg;let c:kindOf (UR st mg)=kd:=hk;let m:=zY (κ:=κ) d;calc aY (VP C c H.ma (H.mb y hy) () (λp q r1 e h=>H.sa p q () e ()) () λk l f g=>?_);dsimp only;simp only[gG]at f g;let hm:pS κ a b (out++(a.extract k na).reverse) k nb:=h1.appA H h4 h5 l λj r1 e i h=>by
  have :=g j () ();have :=H.sb i (nb-1) () () ();lia
 let hr:∀j,j<k->eF κ a j<=eF κ b (nb-1):=λj r1=>by
  have :=f j r1;lia
 by_cases hz:na-k>0
 ·rw[aL hz];by_cases he:k=0
  ·rw[aL (by simpa using he)];exact bK #[iA,.inl #[_,rfl,hm.dn H h5 he]]
  ·rw[aI (by simpa using he)];exact LR C H c iA hm () h3 () h5 () hr
 ·rw[aI hz];have :k=na:=by lia
  subst this;exact LR C H c iA h1 h2 h3 h4 h5 () hr
theorem v5(C:iY M A E s kd S κ)(H:rG S κ a b)(hk:kindOf st=kd){N mg:Nat}{out:Array Keyed}(hs:iS st0 st)(h:cy κ a b N none out na nb):
 wpS M A E s (hi2 a b (none,na,nb,out,mg,ac,bc)) (lm κ a b N st0) st:=by
 obtain⟨-,h1,h2,c,d,e,f⟩:=h;unfold hi2;dsimp only;split
 ·exact LS C H hk hs h1 h2 c d e f
 ·exact LS C H hk hs h1 h2 c d e f
theorem vz(C:iY M A E s kd S κ)(H:rG S κ a b)(hk0:kindOf st0=kd){N mg:Nat}{out:Array Keyed}(hs:iS st0 st)(h:cy κ a b N none out na nb):
 wpS M A E s (hi3 a b (none,na,nb,out,mg)) (λr cN=>iS st0 cN/\match r with
  | .done c=>∃x,c.1=some x/\AF κ a b x
  | .yield c=>cy κ a b (N+1) c.1 c.2.2.2.1 c.2.1 c.2.2.1) st:=by
 unfold hi3;dsimp only;refine aY (gD (eL
  (I:=λx c cN=>cN=st/\cy κ a b (N+x) c.1 c.2.2.2.1 c.2.1 c.2.2.1)
  (Q:=λc cN=>cN=st/\HiG κ a b (N+1) c.1 c.2.2.2.1 c.2.1 c.2.2.1) ?step ?fin #[rfl,h]) ?post)
 case fin=>
  rintro c cN ⟨rfl,h1,h2,e,f,g,i,p⟩;have :=H.na;exact#[rfl,.inr #[h1,h2,e,f,g,i,()]]
 case step=>
  rintro x ⟨r,na,nb,out,ac,bc⟩ cN _ hx ⟨rfl,hc⟩;let hr:r=none:=hc.1;subst hr;calc gD (v6 C H (hs.kind.trans hk0) hc) ?_;rintro(c |c) gO ⟨rfl,h'⟩
  ·calc#[rfl,?_];rcases h' with h' |⟨j,k,l,m,n,o,q⟩
   ·exact .inl h'
   ·exact .inr #[j,k,l,m,n,o,()]
  ·exact#[rfl,h']
 case post=>
  rintro⟨r,na,nb,out,ac,bc⟩ cN ⟨rfl,hc⟩;rcases hc with⟨x,hx,d⟩ |hc
  ·let hx:r=some x:=hx;subst hx;exact bK #[hs,x,rfl,d]
  ·let hr:r=none:=hc.1;subst hr;dsimp only;calc aY<|rQ<|iK #[rfl,?_];refine aY (gD (eL
    (I:=λx c cN=>iS st0 cN/\cy κ a b (N+1) c.1 c.2.2.2.1 c.2.1 c.2.2.1)
    (Q:=λc cN=>iS st0 cN/\HiG κ a b (N+1) c.1 c.2.2.2.1 c.2.1 c.2.2.1) ?_ ?_ #[hs,hc]) ?_)
   ·rintro x ⟨r,na,nb,out,mg,ac,bc⟩ cN _ hx ⟨iA,hc⟩;let hr:r=none:=hc.1;subst hr;calc gD (v5 C H (iA.kind.trans hk0) iA hc) ?_;rintro(c |c) gO h'<;>exact h'
   ·rintro c cN ⟨h1,h2⟩;exact#[h1,.inr h2]
   ·rintro⟨r,na,nb,out,mg,ac,bc⟩ cN ⟨iA,hc⟩;rcases hc with⟨x,hx,d⟩ |hc
    ·let hx:r=some x:=hx;subst hx;exact bK #[iA,x,rfl,d]
    ·let hr:r=none:=hc.1;subst hr;dsimp only;rw[YH];exact aY<|mX<|bK #[iA.gal _,hc]
theorem GY(C:iY M A E s kd S κ)(H:rG S κ a b)(hk:kindOf st=kd){Q:Array Keyed->SortSt->Prop}(h:∀out cN,iS st cN->AF κ a b out->Q out cN):wpS M A E s (XV a b) Q st:=by
 let h0:=H.na;let f:=H.nb;let⟨x,ex,hx⟩:=xR (arr:=a) (i:=a.size-1) ();rw[CZ];calc aY<|rQ<|iK #[rfl,?_];calc aY<|zX ex ?_;let k:=zY (κ:=κ) ex;let hn:pS κ a b (List.toArray [x]) (a.size-1) b.size:=by
  let e:pS κ a b (List.toArray []) a.size b.size:=by
   show rA _ _ _ _ _ _;rw[fJ,fJ];exact rA.nil
  have :=e.pushA H (aG _) (aG _) h0 ex λi g=>by
   have :=H.al i g;lia
  simpa using this
 by_cases he:a.size-1=0
 ·rw[aL (by simpa using he)];exact bK<|h _ _ .rfl'<|hn.dn H (aG _) he
 ·rw[aI (by simpa using he)];by_cases d:b.size=1
  ·rw[aL (by simpa using d)];exact bK<|h _ _ .rfl'<|hn.fs H () d
  ·rw[aI (by simpa using d)];calc aY<|rH ?_;refine aY (gD (eL
    (I:=λx c cN=>iS st cN/\cy κ a b (x+1) c.1 c.2.2.2.1 c.2.1 c.2.2.1)
    (Q:=λc cN=>iS st cN/\∃x,c.1=some x/\AF κ a b x) ?_ ?_ #[.rfl',(hin (N:=0+1) hn () () () () () :)]) ?_)
   ·rintro x ⟨r,na,nb,out,mg⟩ cN _ hx ⟨iA,hc⟩;let hr:r=none:=hc.1;subst hr;calc gD (vz C H hk iA hc) ?_;rintro(c |c) gO ⟨h1,h2⟩
    ·exact#[h1,h2]
    ·exact#[h1,h2]
   ·rintro c cN ⟨h1,-,h2,l,m,n,o,p⟩;lia
   ·rintro⟨r,c⟩ cN ⟨h1,x,hx,j⟩;let hx:r=some x:=hx;subst hx;exact bK<|h _ _ h1 j
end
noncomputable def PH(sa:Nat)(l:List (Keyed×Nat))(xs:Array Keyed):Array Keyed:=l.foldl (λa x=>a.setIfInBounds (sa+x.2) x.1) xs
theorem EY(sa:Nat):∀(ms:List Keyed)(n:Nat)(xs:Array Keyed),sa+n+ms.length<=xs.size->∀k,(PH sa (ms.zipIdx n) xs)[k]?=if sa+n<=k/\k<sa+n+ms.length then ms[k-(sa+n)]? else xs[k]?
 |[],n,xs,h,k=>by
  rw[aI (by simp only[oP];lia)];rfl
 |m::ms,n,xs,h,k=>by
  rw[List.zipIdx_cons];show(PH sa (ms.zipIdx<|n+1)<|xs.setIfInBounds (sa+n) m)[k]?=_;simp only[bJ]at h⊢;rw[EY sa ms (n+1) _ (by rw[Array.size_setIfInBounds];lia) k,Array.getElem?_setIfInBounds];by_cases h1:sa+n=k
  ·rw[aI (),aL h1,aL (),aL ()];rw[show k-(sa+n)=0 by lia];rfl
  ·rw[aI h1];by_cases h2:sa+(n+1)<=k/\k<sa+(n+1)+ms.length
   ·rw[aL h2,aL (),show k-(sa+n)=(k-(sa+(n+1)))+1 by lia];rfl
   ·rw[aI h2,aI ()]
theorem wrF_l{sa:Nat}{ms:List Keyed}{xs:Array Keyed}(h:sa+ms.length<=xs.size):(PH sa ms.zipIdx xs).toList=xs.toList.take sa++ms++xs.toList.drop (sa+ms.length):=by
 apply List.ext_getElem?;intro k;rw[cC,EY sa ms 0 xs () k];simp only[Nat.add_zero];let hl:(xs.toList.take sa).length=sa:=by rw[bF,bR];lia
 by_cases h1:k<sa
 ·rw[aI (),cM,aZ (),List.getElem?_take,aL h1,cC]
 ·by_cases h2:k<sa+ms.length
  ·rw[aL (),aZ (by rw[aH];lia),bI (),hl]
  ·rw[aI (),bI (by rw[aH];lia),aH,hl,List.getElem?_drop,cC]
   congr 1;lia
theorem PV{sa:Nat}{ms:List Keyed}{xs:Array Keyed}(h:sa+ms.length<=xs.size)(hp:ms.Perm ((xs.toList.drop sa).take ms.length)):(PH sa ms.zipIdx xs).toList.Perm xs.toList:=by
 rw[wrF_l h];let e:xs.toList=xs.toList.take sa++(xs.toList.drop sa).take ms.length++xs.toList.drop (sa+ms.length):=by
  rw[cM,←tI,eU,eU]
 exact((hp.append_left _).append_right _).trans (by rw[←e])
structure SB(kd:SortKind)(a₀:Array Keyed)(st:SortSt):Prop where
 perm:(arrOf st).toList.Perm a₀.toList
 kind:kindOf st=kd
 fail:failedOf st=none
theorem SB.size(h:SB kd a₀ st):(arrOf st).size=a₀.size:=by
 have :=h.perm.length_eq;simpa using this
theorem SB.mem(h:SB kd a₀ st)(h0:∀p,p∈a₀.toList->S p):∀p,p∈(arrOf st).toList->S p:=λp hp=>h0 p<|h.perm.mem_iff.mp hp
theorem SB.setArr(h:SB kd a₀ st){xs:Array Keyed}(hp:xs.toList.Perm (arrOf st).toList):SB kd a₀ (setArr st xs):=#[hp.trans h.perm,h.kind,h.fail]
theorem d7{cN:SortSt}{Q:PUnit->SortSt->Prop}(h:Q ⟨⟩ cN):wpS M A E s (set cN:SM PUnit) Q st:=by
 unfold wpS;rw[StateT.run_set];exact aV #[rfl,h]
noncomputable def mgC(sa:Nat)(ms:Array Keyed):SM Bool:=modify (λs=>setArr s<|PH sa ms.toList.zipIdx<|arrOf s) >>= λ_=>get >>= λs=>pure (failedOf s).isNone
noncomputable def mgB(st:SortSt)(sa na sb nb:Nat):SM Bool:=
 if(na==0)=true then pure true else elem' (arrOf st) (sa+na-1) >>= λkey=>jH true key (arrOf st) sb nb (nb-1) >>= λo=>match o with
  |some nb=>if(nb==0)=true then pure true else if na<=nb then XU ((arrOf st).extract sa sb) ((arrOf st).extract sb (sb+nb)) >>= λm=>mgC sa m else XV ((arrOf st).extract sa sb) ((arrOf st).extract sb (sb+nb)) >>= λm=>mgC sa m
  |_=>pure false
noncomputable def mgA(st:SortSt)(i sa na pw sb nb:Nat):SM Bool:=
 set (setPending st<|((pendingOf st).setIfInBounds i (sa,na+nb,pw)).eraseIdxIfInBounds (i+1)) >>= λ_=>elem' (arrOf st) sb >>= λkey=>jH false key (arrOf st) sa na 0 >>= λo=>match o with
  |some k=>mgB st (sa+k) (na-k) sb nb
  |_=>pure false
theorem DA(i:Nat):mergeAt' i=(get >>= λst=>match((pendingOf st)[i]?,(pendingOf st)[i+1]?)with
 |(some (sa,na,pw),some (sb,nb,_))=>mgA st i sa na pw sb nb
 |_=>liftM<|unsupported "internal:list.sort.pending"):=rfl
theorem wg{xs:Array Keyed}{k:Nat}(h:i+k<j):(xs.extract i j)[k]?=xs[i+k]?:=by
 rw[Array.getElem?_extract];split
 ·rfl
 ·next h1=>rw[Array.getElem?_eq_none ()]
theorem ZV{xs:Array Keyed}{k:Nat}(h:i+k<j):eF κ (xs.extract i j) k=eF κ xs (i+k):=qC<|wg h
theorem LZ{xs:Array Keyed}{p:Keyed}(h:p∈(xs.extract i j).toList):p∈xs.toList:=by
 rw[fE,dR]at h;exact List.mem_of_mem_drop<|fQ h
theorem MB{xs:Array Keyed}(hj:j<=xs.size){p:Keyed}(h:p∈(xs.extract i j).toList):∃t,i<=t/\t<j/\κ p=eF κ xs t:=by
 rw[fE,dR]at h;let⟨t,h1,h2,b,a⟩:=vX h;exact#[t,h1,(),vG a]
theorem u8{cN:SortSt}{sa sb k n2:Nat}{ms:Array Keyed}{Q:Bool->SortSt->Prop}(hB:SB kd a₀ cN)(harr:arrOf cN=arrOf st)
 (hsb:sb=sa+na) (hle:sb+nb<=(arrOf st).size) (hsA:xJ κ (arrOf st) sa (sa+na)) (hsB:xJ κ (arrOf st) sb (sb+nb)) (hk:k<na) (hn2:n2<=nb) (hn0:0<n2)
 (hg1:∀i,i<k->eF κ (arrOf st) (sa+i)<=eF κ (arrOf st) sb) (hg2:∀i,n2<=i->i<nb->eF κ (arrOf st) (sb-1)<=eF κ (arrOf st) (sb+i))
 (hm:AF κ ((arrOf st).extract (sa+k) sb) ((arrOf st).extract sb (sb+n2)) ms)
 (h:∀gO,SB kd a₀ gO->pendingOf gO=pendingOf cN->xJ κ (arrOf gO) sa (sb+nb)->(∀j,j<sa\/sb+nb<=j->(arrOf gO)[j]?=(arrOf st)[j]?)->Q true gO):wpS M A E s (mgC (sa+k) ms) Q cN:=by
 unfold mgC;let eR:ms.toList.length=na-k+n2:=by
  rw[hm.1.length_eq,aH,bR,bR,pN,pN];lia
 let u:ms.toList.Perm (((arrOf st).toList.drop (sa+k)).take ms.toList.length):=by
  calc hm.1.trans<|List.Perm.of_eq ?_;rw[eR,fE,fE,dR,dR,List.take_add,tI,show sa+k+(na-k)=sb by lia,show sb-(sa+k)=na-k by lia,rO]
 let d:(sa+k)+ms.toList.length<=(arrOf st).size:=by lia
 calc aY<|mX ?_;calc aY<|rH ?_;let f:SB kd a₀ (setArr cN<|PH (sa+k) ms.toList.zipIdx<|arrOf cN):=hB.setArr (by rw[harr];calc PV d u);let hf:(failedOf<|setArr cN<|PH (sa+k) ms.toList.zipIdx<|arrOf cN).isNone=true:=by rw[f.fail];rfl
 rw[hf];let a:=EY (sa+k) ms.toList 0 (arrOf st) ();simp only[Nat.add_zero,eR]at a;let g:∀p,sa+k<=p->p<sb+n2->∃t,sa+k<=t/\t<sb+n2/\eF κ (PH (sa+k) ms.toList.zipIdx<|arrOf st) p=eF κ (arrOf st) t:=by
  intro p h1 h2;let e:=a p;rw[aL ()]at e;let lT:p-(sa+k)<ms.toList.length:=by lia
  rw[aA lT]at e;let hin:ms.toList[p-(sa+k)]∈ms.toList:=cO _;rw[hm.1.mem_iff,bE]at hin;rw[zY e];rcases hin with hin |hin
  ·let⟨t,b1,b2,b⟩:=MB (κ:=κ) () hin;exact#[t,b1,(),b]
  ·let⟨t,b1,b2,b⟩:=MB (κ:=κ) () hin;exact#[t,(),b2,b]
 let l:∀p,p<sa+k\/sb+n2<=p->(PH (sa+k) ms.toList.zipIdx<|arrOf st)[p]?=(arrOf st)[p]?:=λp hp=>by rw[a,aI ()]
 let hok:∀p,p<sa+k\/sb+n2<=p->eF κ (PH (sa+k) ms.toList.zipIdx<|arrOf st) p=eF κ (arrOf st) p:=λp hp=>qC<|l p hp
 let m:∀p t,sa<=p->p<sa+k->p<=t->t<sb+nb->eF κ (arrOf st) p<=eF κ (arrOf st) t:=by
  intro p t h1 h2 c o;by_cases ht:t<sb
  ·exact hsA p t h1 c ()
  ·have :=hg1 (p-sa) ();rw[show sa+(p-sa)=p by lia]at this;have :=hsB sb t () () o;lia
 let n:∀t q,sa<=t->t<=q->sb+n2<=q->q<sb+nb->eF κ (arrOf st) t<=eF κ (arrOf st) q:=by
  intro t q h1 h2 c o;by_cases ht:t<sb
  ·have :=hsA t (sb-1) h1 () ();have :=hg2 (q-sb) () ();rw[show sb+(q-sb)=q by lia]at this;lia
  ·exact hsB t q () h2 o
 refine bK<|h _ f rfl ?_ ?_
 ·show xJ κ (PH (sa+k) ms.toList.zipIdx<|arrOf cN) sa (sb+nb);rw[harr];intro p q h1 h2 c;by_cases hp:p<sa+k
  ·rw[hok p<|.inl hp];by_cases hq:sa+k<=q/\q<sb+n2
   ·let⟨t,b1,b2,b⟩:=g q hq.1 hq.2;rw[b];exact m p t h1 hp () ()
   ·rw[hok q ()];exact m p q h1 hp h2 c
  ·by_cases hq:sb+n2<=q
   ·rw[hok q<|.inr hq];by_cases mE:sb+n2<=p
    ·rw[hok p<|.inr mE];exact n p q h1 h2 hq c
    ·let⟨t,b1,b2,b⟩:=g p () ();rw[b];exact n t q () () hq c
   ·let ep:=a p;let eq:=a q;rw[aL (),aA ()]at ep eq;rw[zY ep,zY eq];by_cases r:p=q
    ·subst r;exact hV _
    ·exact(dQ.mp hm.2) _ _ _ _ ()
 ·intro j v;show(PH (sa+k) ms.toList.zipIdx<|arrOf cN)[j]?=_;rw[harr];exact l j ()
theorem GZ{sa pw sb w:Nat}{Q:Bool->SortSt->Prop}(C:iY M A E s kd S κ)(h0:∀p,p∈a₀.toList->S p)(hB:SB kd a₀ st)
 (h1:(pendingOf st)[i]?=some (sa,na,pw)) (h2:(pendingOf st)[i+1]?=some (sb,nb,w)) (hna:1<=na) (hnb:1<=nb)
 (hsb:sb=sa+na) (hle:sb+nb<=a₀.size) (hsA:xJ κ (arrOf st) sa (sa+na)) (hsB:xJ κ (arrOf st) sb (sb+nb))
 (h:∀cN,SB kd a₀ cN->pendingOf cN=((pendingOf st).setIfInBounds i (sa,na+nb,pw)).eraseIdxIfInBounds (i+1)->xJ κ (arrOf cN) sa (sb+nb)->(∀j,j<sa\/sb+nb<=j->(arrOf cN)[j]?=(arrOf st)[j]?)->Q true cN):
 wpS M A E s (mergeAt' i) Q st:=by
 let u:=hB.size;rw[DA];calc aY<|rH ?_;rw[h1,h2];dsimp only;unfold mgA;calc aY<|d7 ?_;let a:SB kd a₀ (setPending st<|((pendingOf st).setIfInBounds i (sa,na+nb,pw)).eraseIdxIfInBounds (i+1)):=#[hB.perm,hB.kind,hB.fail]
 let⟨y,o,hy⟩:=xR (arr:=arrOf st) (i:=sb) ();let v:=zY (κ:=κ) o;calc aY<|zX o ?_;calc aY (VP C a.kind (hB.mem h0) (hB.mem h0 y hy) () hsA () λk G g r=>?_);dsimp only;unfold mgB;by_cases hk:na-k=0
 ·rw[aL (by simpa using hk)];calc bK (h _ a rfl ?_ λj _=>rfl);intro p q b1 b2 b;show eF κ (arrOf st) p<=eF κ (arrOf st) q;by_cases hq:q<sb
  ·exact hsA p q b1 b2 ()
  ·by_cases hp:p<sb
   ·have :=g (p-sa) ();rw[show sa+(p-sa)=p by lia]at this;have :=hsB sb q () () b;lia
   ·exact hsB p q () b2 b
 ·rw[aI (by simpa using hk)];let⟨x,ex,hx⟩:=xR (arr:=arrOf st) (i:=sa+k+(na-k)-1) ();let z:=zY (κ:=κ) ex;let B:sa+k+(na-k)-1=sb-1:=by lia
  calc aY<|zX ex ?_;calc aY (VQ C a.kind (hB.mem h0) (hB.mem h0 x hx) () hsB () λd D t l=>?_);dsimp only;rw[←z,B]at t l;rw[←v]at g r;by_cases hn:d=0
  ·rw[aL (by simpa using hn)];calc bK (h _ a rfl ?_ λj _=>rfl);intro p q b1 b2 b;show eF κ (arrOf st) p<=eF κ (arrOf st) q;by_cases hq:q<sb
   ·exact hsA p q b1 b2 ()
   ·by_cases hp:p<sb
    ·have :=hsA p (sb-1) b1 () ();have :=l (q-sb) () ();rw[show sb+(q-sb)=q by lia]at this;lia
    ·exact hsB p q () b2 b
  ·rw[aI (by simpa using hn)];let c:((arrOf st).extract (sa+k) sb).size=na-k:=by rw[pN];lia
   let e:((arrOf st).extract sb (sb+d)).size=d:=by rw[pN];lia
   let H:rG S κ ((arrOf st).extract (sa+k) sb) ((arrOf st).extract sb (sb+d)):=by
    refine#[?_,?_,λp hp=>hB.mem h0 p<|LZ hp,λp hp=>hB.mem h0 p<|LZ hp,(),(),?_,?_]
    ·intro p q b1 b2 b;rw[c]at b;rw[ZV (),ZV ()];exact hsA _ _ () () ()
    ·intro p q b1 b2 b;rw[e]at b;rw[ZV (),ZV ()];exact hsB _ _ () () ()
    ·intro j f;rw[c]at f;rw[ZV (),ZV ()];have :=r (k+j) () ();rw[show sa+(k+j)=sa+k+j by lia]at this;simpa using this
    ·intro j f;rw[e]at f;rw[c,ZV (),ZV (),show sa+k+(na-k-1)=sb-1 by lia];exact t j f
   let fin:∀out cN,iS (setPending st<|((pendingOf st).setIfInBounds i (sa,na+nb,pw)).eraseIdxIfInBounds (i+1)) cN->AF κ ((arrOf st).extract (sa+k) sb) ((arrOf st).extract sb (sb+d)) out->wpS M A E s (mgC (sa+k) out) Q cN:=by
    intro out cN hs hm;refine u8 (st:=st) (na:=na) (nb:=nb) #[by rw[hs.arr];exact hB.perm,by rw[hs.kind];exact hB.kind,by rw[hs.fail];calc hB.fail] hs.arr hsb () hsA hsB () D () g l hm λgO b1 b2 b F=>h gO b1 (b2.trans hs.pend) b F
   split
   ·exact aY (GX C H a.kind λout cN m n=>fin out cN m n)
   ·exact aY (GY C H a.kind λout cN m n=>fin out cN m n)
def NiB(κ:Keyed->Int)(xs:Array Keyed)(i j:Nat):Prop:=∀p q,i<=p->p<=q->q<j->eF κ xs q<=eF κ xs p
abbrev AsT:=Option (Option Nat)×Nat
abbrev DsT:=Option (Option Nat)×Nat×Nat
noncomputable def kh(lo a fM:Nat):SM AsT:=forIn [a:fM] ((none,a):AsT) λ_ c=>ltAt' (lo+c.2) (lo+c.2-1) >>= λo=>match o with
 |some b=>if b=true then pure (ForInStep.done (none,c.2))else pure (ForInStep.yield (none,c.2+1))
 |_=>pure<|ForInStep.done (some none,c.2)
noncomputable def AR(lo n fM:Nat):SM (Option Nat):=reverseSlice' lo (lo+n) >>= λ_=>kh lo n fM >>= λc=>match c.1 with
 |some r=>pure r
 |none=>pure<|some c.2
noncomputable def wj(lo n fM:Nat):SM DsT:=forIn [n:fM] ((none,n,0):DsT) λ_ c=>ltAt' (lo+c.2.1) (lo+c.2.1-1) >>= λo=>match o with
 |some b=>if b=true then(if c.2.2>0 then reverseSlice' (lo+c.2.1-(c.2.2+1)) (lo+c.2.1) >>= λ_=>pure (ForInStep.yield (none,c.2.1+1,0))else pure (ForInStep.yield (none,c.2.1+1,0)))
  else ltAt' (lo+c.2.1-1) (lo+c.2.1) >>= λo=>match o with
   |some b=>if b=true then pure (ForInStep.done (none,c.2.1,c.2.2))else pure (ForInStep.yield (none,c.2.1+1,c.2.2+1))
   |_=>pure<|ForInStep.done (some none,c.2.1,c.2.2)
 |_=>pure<|ForInStep.done (some none,c.2.1,c.2.2)
noncomputable def ON(lo n fM:Nat):SM (Option Nat):=liftM (rule "list.sort.descending-run") >>= λ_=>wj lo (n+1) fM >>= λc=>match c.1 with
 |some r=>pure r
 |none=>if c.2.2>0 then reverseSlice' (lo+c.2.1-(c.2.2+1)) (lo+c.2.1) >>= λ_=>AR lo c.2.1 fM else AR lo c.2.1 fM
theorem OR(lo fM:Nat):countRun' lo fM=(kh lo 1 fM >>= λc=>match c.1 with
 |some r=>pure r
 |none=>if(c.2==fM)=true then pure (some c.2)else if c.2>1 then(ltAt' lo (lo+c.2-1) >>= λo=>match o with
  |some b=>if b=true then pure (some c.2)else reverseSlice' lo (lo+c.2) >>= λ_=>ON lo c.2 fM
  |_=>pure none)else ON lo c.2 fM):=by
 rw[countRun'_eq];show(_ >>= _:SM _)=_
 congr 1;funext c
 let⟨r,n⟩:=c;cases r with
 |some r=>rfl
 |none=>
  dsimp only;split
  ·rfl
  ·split
   ·congr 1;funext x
    cases x with
    |none=>rfl
    |some rose=>
     dsimp only;split
     ·rfl
     ·congr 1;funext _
      unfold ON
      congr 1;funext _
      show(_ >>= _:SM _)=_
      congr 1;funext c
      let⟨r,m,q⟩:=c;cases r with
      |some r=>rfl
      |none=>
       dsimp only;split
       ·congr 1;funext _
        unfold AR
        congr 1;funext _
        show(_ >>= _:SM _)=_
        congr 1;funext c
        let⟨r,m⟩:=c;cases r<;>rfl
       ·unfold AR
        congr 1;funext _
        show(_ >>= _:SM _)=_
        congr 1;funext c
        let⟨r,m⟩:=c;cases r<;>rfl
   ·unfold ON
    congr 1;funext _
    show(_ >>= _:SM _)=_
    congr 1;funext c
    let⟨r,m,q⟩:=c;cases r with
    |some r=>rfl
    |none=>
     dsimp only;split
     ·congr 1;funext _
      unfold AR
      congr 1;funext _
      show(_ >>= _:SM _)=_
      congr 1;funext c
      let⟨r,m⟩:=c;cases r<;>rfl
     ·unfold AR
      congr 1;funext _
      show(_ >>= _:SM _)=_
      congr 1;funext c
      let⟨r,m⟩:=c;cases r<;>rfl
structure sV(kd:SortKind)(a₀:Array Keyed)(lo:Nat)(st0 st:SortSt):Prop where
 sb:SB kd a₀ st
 pend:pendingOf st=pendingOf st0
 out:∀j,j<lo->(arrOf st)[j]?=(arrOf st0)[j]?
theorem VJ{xs:Array Keyed}(hj:j<=xs.size)(k:Nat):eF κ (mirror xs i j<|(j-i)/2) k=if i<=k/\k<j then eF κ xs (i+j-1-k)else eF κ xs k:=by
 let e:=getElem?_mirror_all (i:=i) hj k;by_cases h1:i<=k/\k<j
 ·rw[aL h1]at e⊢;exact qC e
 ·rw[aI h1]at e⊢;exact qC e
theorem vF{xs:Array Keyed}(hj:j<=xs.size)(heq:∀k,i<=k->k<j->eF κ xs k=eF κ xs (j-1))(k:Nat):eF κ (mirror xs i j<|(j-i)/2) k=eF κ xs k:=by
 rw[VJ hj];split
 ·rw[heq _ () (),heq k () ()]
 ·rfl
theorem LL{xs:Array Keyed}{src d:Nat}(hs:src<xs.size)(hd:d<=src)(k:Nat):eF κ (bubble xs src d) k=if k=src-d then eF κ xs src else if src-d<k/\k<=src then eF κ xs (k-1)else eF κ xs k:=by
 let e:=getElem?_bubble hs d hd k;by_cases h1:k=src-d
 ·rw[aL h1]at e⊢;exact qC e
 ·rw[aI h1]at e⊢;by_cases h2:src-d<k/\k<=src
  ·rw[aL h2]at e⊢;exact qC e
  ·rw[aI h2]at e⊢;exact qC e
section
variable {lo:Nat}
theorem sV.mir(h:sV kd a₀ lo st0 st){d:Nat}(hi:lo<=i)(hj:j<=(arrOf st).size)(hd:d=(j-i)/2):sV kd a₀ lo st0 (setArr st<|mirror (arrOf st) i j d):=by
 subst hd;calc#[h.sb.setArr<|lu.mp<|mirror_perm _ _ _ _,h.pend,λk hk=>?_];show(mirror (arrOf st) i j _)[k]?=_;rw[getElem?_mirror_all hj,aI ()];exact h.out k hk
theorem sV.bub(h:sV kd a₀ lo st0 st){src d:Nat}(hs:src<(arrOf st).size)(hd:lo+d<=src):sV kd a₀ lo st0 (setArr st<|bubble (arrOf st) src d):=by
 calc#[h.sb.setArr<|lu.mp<|bubble_perm _ _ _,h.pend,λk hk=>?_];show(bubble (arrOf st) src d)[k]?=_;rw[getElem?_bubble hs d (),aI (),aI ()];exact h.out k hk
theorem kK{Q:Option Bool->SortSt->Prop}(C:iY M A E s kd S κ)(h0:∀p,p∈a₀.toList->S p)(hB:SB kd a₀ st)(hi:i<a₀.size)(hj:j<a₀.size)
 (h:Q (some<|decide<|eF κ (arrOf st) i<eF κ (arrOf st) j) st):wpS M A E s (ltAt' i j) Q st:=by
 let hz:=hB.size;let⟨x,ex,hx⟩:=xR (arr:=arrOf st) (i:=i) ();let⟨y,a,hy⟩:=xR (arr:=arrOf st) (i:=j) ();rw[ltAt'_eq];calc aY<|rH ?_;show wpS _ _ _ _ (elem' (arrOf st) i >>= λx=>elem' (arrOf st) j >>= λy=>lt' x y) Q st;calc aY<|zX ex<|aY<|zX a<|C.lt (hB.mem h0 x hx) (hB.mem h0 y hy) hB.kind ?_;rw[←zY (κ:=κ) ex,←zY (κ:=κ) a];exact h
theorem UT{Q:Unit->SortSt->Prop}(h:Q Unit.unit (setArr st<|mirror (arrOf st) i j<|(j-i)/2)):wpS M A E s (reverseSlice' i j) Q st:=by
 rw[reverseSlice'_eq];exact mX h
theorem MM{a fM:Nat}{Q:AsT->SortSt->Prop}(C:iY M A E s kd S κ)(h0:∀p,p∈a₀.toList->S p)(hn:lo+fM<=a₀.size)(ha:1<=a)(han:a<=fM)(hB:SB kd a₀ st)
 (hs:xJ κ (arrOf st) lo (lo+a))
 (h:∀n,a<=n->n<=fM->xJ κ (arrOf st) lo (lo+n)->(n=fM\/eF κ (arrOf st) (lo+n)<eF κ (arrOf st) (lo+n-1))->Q (none,n) st):
 wpS M A E s (kh lo a fM) Q st:=by
 unfold kh;refine eL (I:=λx c cN=>cN=st/\c=(none,x)/\xJ κ (arrOf st) lo (lo+x)) ?step ?fin #[rfl,rfl,hs]
 case fin=>
  rintro c cN ⟨rfl,rfl,iA⟩;rw[show max a fM=fM by lia]at iA⊢;exact h fM han (aG _) iA<|.inl rfl
 case step=>
  rintro x c cN b k ⟨rfl,rfl,iA⟩;dsimp only;calc aY<|kK C h0 hB () () ?_;by_cases hl:eF κ (arrOf cN) (lo+x)<eF κ (arrOf cN) (lo+x-1)
  ·simp only[hl,decide_true,if_true];exact bK<|h x b () iA<|.inr hl
  ·simp only[hl,decide_false,bP,dJ];calc bK #[rfl,rfl,λi j hi d l=>?_];by_cases e:j<lo+x
   ·exact iA i j hi d e
   ·let f:j=lo+x:=by lia
    subst f;by_cases g:i=lo+x
    ·subst g;exact hV _
    ·exact IL (iA i (lo+x-1) hi () ())<|Int.not_lt.mp hl
theorem IS{fM:Nat}{Q:Option Nat->SortSt->Prop}(C:iY M A E s kd S κ)(h0:∀p,p∈a₀.toList->S p)(hn:lo+fM<=a₀.size)(h1:1<=n)(hnn:n<=fM)(hB:sV kd a₀ lo st0 st)
 (hs:NiB κ (arrOf st) lo (lo+n)) (h:∀m cN,sV kd a₀ lo st0 cN->1<=m->m<=fM->xJ κ (arrOf cN) lo (lo+m)->Q (some m) cN):
 wpS M A E s (AR lo n fM) Q st:=by
 unfold AR;let a:lo+n<=(arrOf st).size:=by rw[hB.sb.size];lia
 calc aY<|UT ?_;let b:=hB.mir (i:=lo) (j:=lo+n) (aG _) a rfl;calc aY (MM C h0 hn h1 hnn b.sb ?_ λm e c d _=>bK<|h m _ b () c d);intro i j hi f g;show eF κ (mirror (arrOf st) lo (lo+n) _) i<=eF κ (mirror (arrOf st) lo (lo+n) _) j;rw[VJ a,VJ a,aL (),aL ()];exact hs _ _ () () ()
theorem jy{fM:Nat}{Q:DsT->SortSt->Prop}(C:iY M A E s kd S κ)(h0:∀p,p∈a₀.toList->S p)(hn:lo+fM<=a₀.size)(h1:1<=n)(hnn:n<=fM)(hB:sV kd a₀ lo st0 st)
 (hs:NiB κ (arrOf st) lo (lo+n))
 (h:∀m q cN,sV kd a₀ lo st0 cN->n<=m->m<=fM->NiB κ (arrOf cN) lo (lo+m)->q+1<=m->(∀i,lo+m-(q+1)<=i->i<lo+m->eF κ (arrOf cN) i=eF κ (arrOf cN) (lo+m-1))->Q (none,m,q) cN):
 wpS M A E s (wj lo n fM) Q st:=by
 unfold wj;refine eL (I:=λx c cN=>∃q,c=(none,x,q)/\sV kd a₀ lo st0 cN/\NiB κ (arrOf cN) lo (lo+x)/\q+1<=x/\
  (∀i,lo+x-(q+1)<=i->i<lo+x->eF κ (arrOf cN) i=eF κ (arrOf cN) (lo+x-1))) ?step ?fin #[0,rfl,hB,hs,(),λi h1 h2=>by congr 1;lia]
 case fin=>
  rintro c cN ⟨q,rfl,a,iA,hq,he⟩;rw[show max n fM=fM by lia]at iA hq he⊢;exact h fM q cN a hnn (aG _) iA hq he
 case step=>
  rintro x c cN l t ⟨q,rfl,a,iA,hq,he⟩;dsimp only;let g:lo+x<=(arrOf cN).size:=by rw[a.sb.size];lia
  calc aY<|kK C h0 a.sb () () ?_;by_cases hl:eF κ (arrOf cN) (lo+x)<eF κ (arrOf cN) (lo+x-1)
  ·simp only[hl,decide_true,if_true];let step1:∀xs:Array Keyed,(∀k,eF κ xs k=eF κ (arrOf cN) k)->NiB κ xs lo (lo+(x+1)):=by
    intro xs hk i j hi b u;rw[hk,hk];by_cases d:j<lo+x
    ·exact iA i j hi b d
    ·let e:j=lo+x:=by lia
     subst e;by_cases f:i=lo+x
     ·subst f;exact hV _
     ·exact IL (sC hl)<|iA i (lo+x-1) hi () ()
   by_cases hz:q>0
   ·rw[aL hz];refine aY (UT<|bK #[0,rfl,a.mir () g rfl,step1 _<|vF g he,(),λi h1 h2=>by congr 1;lia])
   ·rw[aI hz];exact bK #[0,rfl,a,step1 _ λ_=>rfl,(),λi h1 h2=>by congr 1;lia]
  ·simp only[hl,decide_false,bP,dJ];calc aY<|kK C h0 a.sb () () ?_;by_cases r:eF κ (arrOf cN) (lo+x-1)<eF κ (arrOf cN) (lo+x)
   ·simp only[r,decide_true,if_true];exact bK<|h x q cN a l () iA hq he
   ·simp only[r,decide_false,bP,dJ];let hx:eF κ (arrOf cN) (lo+x)=eF κ (arrOf cN) (lo+x-1):=by lia
    refine bK #[q+1,rfl,a,λi j hi b u=>?_,(),λi h1 h2=>?_]
    ·by_cases d:j<lo+x
     ·exact iA i j hi b d
     ·let e:j=lo+x:=by lia
      subst e;by_cases f:i=lo+x
      ·subst f;exact hV _
      ·rw[hx];exact iA i (lo+x-1) hi () ()
    ·rw[show lo+(x+1)-1=lo+x by lia];by_cases o:i=lo+x
     ·subst o;rfl
     ·rw[hx];exact he i () ()
theorem ME{fM:Nat}{Q:Option Nat->SortSt->Prop}(C:iY M A E s kd S κ)(h0:∀p,p∈a₀.toList->S p)(hn:lo+fM<=a₀.size)(hnn:n+1<=fM)(hB:sV kd a₀ lo st0 st)
 (hs:NiB κ (arrOf st) lo (lo+(n+1))) (h:∀m cN,sV kd a₀ lo st0 cN->1<=m->m<=fM->xJ κ (arrOf cN) lo (lo+m)->Q (some m) cN):
 wpS M A E s (ON lo n fM) Q st:=by
 unfold ON;calc aY<|rQ<|iK #[rfl,?_];calc aY (jy C h0 hn () hnn hB hs λm q cN a e c iA hq he=>?_);dsimp only;let b:lo+m<=(arrOf cN).size:=by rw[a.sb.size];lia
 by_cases hz:q>0
 ·rw[aL hz];calc aY<|UT<|IS C h0 hn () c (a.mir () b rfl) ?_ h;intro i j hi d f;show eF κ (mirror (arrOf cN) _ _ _) j<=eF κ (mirror (arrOf cN) _ _ _) i;rw[vF b he,vF b he];exact iA i j hi d f
 ·rw[aI hz];exact IS C h0 hn () c a iA h
theorem DQ{fM:Nat}{Q:Option Nat->SortSt->Prop}(C:iY M A E s kd S κ)(h0:∀p,p∈a₀.toList->S p)(hn:lo+fM<=a₀.size)(h1:1<=fM)(hB:sV kd a₀ lo st0 st)
 (h:∀m cN,sV kd a₀ lo st0 cN->1<=m->m<=fM->xJ κ (arrOf cN) lo (lo+m)->Q (some m) cN):
 wpS M A E s (countRun' lo fM) Q st:=by
 rw[OR];calc aY (MM C h0 hn (aG 1) h1 hB.sb (λi j hi e x=>by have :i=j:=();subst this;calc hV _) λn f g a r=>?_);dsimp only;by_cases b:n=fM
 ·rw[aL (by simpa using b)];exact bK<|h n st hB f g a
 ·rw[aI (by simpa using b)];let lT:=r.resolve_left b;by_cases l:n>1
  ·rw[aL l];calc aY<|kK C h0 hB.sb () () ?_;by_cases hr:eF κ (arrOf st) lo<eF κ (arrOf st) (lo+n-1)
   ·simp only[hr,decide_true,if_true];exact bK<|h n st hB f g a
   ·simp only[hr,decide_false,bP,dJ];let c:lo+n<=(arrOf st).size:=by rw[hB.sb.size];lia
    let nT:∀k,lo<=k->k<lo+n->eF κ (arrOf st) k=eF κ (arrOf st) (lo+n-1):=by
     intro k o hk;let y:=a lo k () o hk;let z:=a k (lo+n-1) o () ();lia
    calc aY<|UT<|ME C h0 hn () (hB.mir (aG _) c rfl) ?_ h;intro i j hi e x;show eF κ (mirror (arrOf st) _ _ _) j<=eF κ (mirror (arrOf st) _ _ _) i;rw[vF c nT,vF c nT];by_cases t:j<lo+n
    ·rw[nT i () (),nT j () t];exact hV _
    ·let u:j=lo+n:=by lia
     subst u;by_cases d:i=lo+n
     ·subst d;exact hV _
     ·rw[nT i () ()];exact sC lT
  ·rw[aI l];let q:n=1:=by lia
   subst q;calc ME C h0 hn () hB ?_ h;intro i j hi e x;by_cases d:i=j
   ·subst d;exact hV _
   ·let v:i=lo:=by lia
    let w:j=lo+1:=by lia
    subst v;subst w;rw[Nat.add_sub_cancel]at lT;exact sC lT
theorem HY{ok:Nat}{Q:Bool->SortSt->Prop}(C:iY M A E s kd S κ)(h0:∀p,p∈a₀.toList->S p)(hn:lo+n<=a₀.size)(hok:ok<=n)(hB:sV kd a₀ lo st0 st)(hs:xJ κ (arrOf st) lo (lo+ok))
 (h:∀cN,sV kd a₀ lo st0 cN->xJ κ (arrOf cN) lo (lo+n)->Q true cN):wpS M A E s (binarySort' lo n ok) Q st:=by
 rw[binarySort'_eq];refine aY (gD (eL (I:=λk c cN=>c=(none,Unit.unit)/\sV kd a₀ lo st0 cN/\xJ κ (arrOf cN) lo (lo+min k n))
  (Q:=λc cN=>c=(none,Unit.unit)/\sV kd a₀ lo st0 cN/\xJ κ (arrOf cN) lo (lo+n)) ?step ?fin ?init) ?post)
 case post=>
  rintro c cN ⟨rfl,a,iA⟩;exact bK<|h cN a iA
 case init=>
  calc#[rfl,hB,λi j hi g u=>?_];by_cases h1:ok=0
  ·have :i=j:=by lia
   subst this;exact hV _
  ·exact hs i j hi g ()
 case fin=>
  rintro c cN ⟨hc,a,iA⟩;calc#[hc,a,?_];rwa[show min (max (max ok 1) n) n=n by lia]at iA
 case step=>
  rintro k c cN v w ⟨rfl,a,iA⟩;rw[show min k n=k by lia]at iA;let hk:lo+k<a₀.size:=by lia
  refine aY (gD (eL (I:=λx c gO=>gO=cN/\∃l r,c=(none,l,r)/\l<=r/\r<=k/\r-l<=k-x/\
   (∀i,i<l->eF κ (arrOf cN) (lo+i)<=eF κ (arrOf cN) (lo+k))/\(∀i,r<=i->i<k->eF κ (arrOf cN) (lo+k)<eF κ (arrOf cN) (lo+i)))
   (Q:=λc gO=>gO=cN/\∃l r,c=(none,l,r)/\l<=k/\
    (∀i,i<l->eF κ (arrOf cN) (lo+i)<=eF κ (arrOf cN) (lo+k))/\(∀i,l<=i->i<k->eF κ (arrOf cN) (lo+k)<eF κ (arrOf cN) (lo+i))) ?istep ?ifin ?iinit) ?ipost)
  case iinit=>exact#[rfl,0,k,rfl,(),(),(),λi hi=>(),λi h1 h2=>()]
  case ifin=>
   rintro c gO ⟨rfl,l,r,rfl,t,e,hm,b,d⟩;have :l=r:=by lia
   subst this;exact#[rfl,l,l,rfl,e,b,d]
  case istep=>
   rintro x c gO _ y ⟨rfl,l,r,rfl,t,e,hm,b,d⟩;dsimp only;by_cases m:l≥r
   ·rw[aL m];have :l=r:=by lia
    subst this;exact bK #[rfl,l,l,rfl,e,b,d]
   ·rw[aI m];calc aY<|kK C h0 a.sb hk () ?_;by_cases hl:eF κ (arrOf gO) (lo+k)<eF κ (arrOf gO) (lo+(l+r)/2)
    ·simp only[hl,decide_true,if_true];calc bK #[rfl,l,(l+r)/2,rfl,(),(),(),b,λi h1 h2=>?_];exact Int.lt_of_lt_of_le hl<|iA _ _ () () ()
    ·simp only[hl,decide_false,bP,dJ];calc bK #[rfl,(l+r)/2+1,r,rfl,(),(),(),λi h1=>?_,d];exact IL (iA (lo+i) (lo+(l+r)/2) () () ())<|Int.not_lt.mp hl
  case ipost=>
   rintro c gO ⟨rfl,l,r,rfl,z,b,d⟩;show wpS _ _ _ _ (moveDown' (lo+k) (lo+l) >>= λ_=>pure<|ForInStep.yield (none,Unit.unit)) _ _;rw[moveDown'_eq];let f:lo+k<(arrOf gO).size:=by rw[a.sb.size];exact hk
   calc aY<|mX<|bK #[rfl,a.bub f (),?_];rw[show min (k+1) n=k+1 by lia];intro i j hi g u;show eF κ (bubble (arrOf gO) (lo+k)<|lo+k-(lo+l)) i<=eF κ (bubble (arrOf gO) (lo+k)<|lo+k-(lo+l)) j;let o:∀i,lo<=i->i<lo+l->eF κ (arrOf gO) i<=eF κ (arrOf gO) (lo+k):=λi h1 h2=>by
    have :=b (i-lo) ();rwa[show lo+(i-lo)=i by lia]at this
   let q:∀i,lo+l<=i->i<lo+k->eF κ (arrOf gO) (lo+k)<=eF κ (arrOf gO) i:=λi h1 h2=>by
    have :=d (i-lo) () ();rw[show lo+(i-lo)=i by lia]at this;exact sC this
   rw[LL f (),LL f (),show lo+k-(lo+k-(lo+l))=lo+l by lia]
   repeat' split
   all_goals first
    |(exfalso;lia)
    |exact hV _
    |exact o _ () ()
    |exact q _ () ()
    |exact iA _ _ () () ()
end
abbrev JO:=Nat×Nat×Nat
def oK(κ:Keyed->Int)(xs:Array Keyed):Nat->List JO->Nat->Prop
 |s,[],e=>s=e
 |s,x::l,e=>x.1=s/\1<=x.2.1/\xJ κ xs s (s+x.2.1)/\oK κ xs (s+x.2.1) l e
section
variable {xs ys:Array Keyed}
theorem oK.le:∀{l:List JO}{s e:Nat},oK κ xs s l e->s+l.length<=e
 |[],s,e,h=>by let h:s=e:=h;simp[h]
 |x::l,s,e,⟨h1,h2,b,a⟩=>by
  have :=oK.le a;simp only[bJ];lia
theorem oK.app:∀{l1 l2:List JO}{s e:Nat},oK κ xs s (l1++l2) e->∃m,oK κ xs s l1 m/\oK κ xs m l2 e
 |[],l2,s,e,h=>#[s,rfl,h]
 |x::l1,l2,s,e,⟨h1,h2,a,b⟩=>by
  let⟨m,c,d⟩:=oK.app b;exact#[m,#[h1,h2,a,c],d]
theorem oK.join:∀{l1 l2:List JO}{s m e:Nat},oK κ xs s l1 m->oK κ xs m l2 e->oK κ xs s (l1++l2) e
 |[],l2,s,m,e,h,h'=>by let h:s=m:=h;subst h;exact h'
 |x::l1,l2,s,m,e,⟨h1,h2,a,b⟩,h'=>#[h1,h2,a,oK.join b h']
theorem oK.cg:∀{l:List JO}{s e:Nat},oK κ xs s l e->(∀j,s<=j->j<e->ys[j]?=xs[j]?)->oK κ ys s l e
 |[],s,e,h,_=>h
 |x::l,s,e,⟨h1,h2,d,c⟩,hc=>by
  let f:=oK.le c;calc#[h1,h2,λp q g i k=>?_,oK.cg c λj a b=>hc j () b];rw[qC<|hc p () (),qC<|hc q () ()];exact d p q g i k
theorem oK.mod:∀{l:List JO}{s e:Nat}(i:Nat)(f:JO->JO),(∀x,(f x).1=x.1/\(f x).2.1=x.2.1)->oK κ xs s l e->oK κ xs s (l.modify i f) e
 |[],s,e,i,f,_,h=>by simpa using h
 |x::l,s,e,0,f,hf,⟨h1,h2,c,d⟩=>by
  show oK κ xs s (f x::l) e;let⟨a,b⟩:=hf x;refine#[a.trans h1,?_,?_,?_]<;>rw[b]<;>assumption
 |x::l,s,e,i+1,f,hf,⟨h1,h2,c,d⟩=>by
  show oK κ xs s (x::l.modify i f) e;exact#[h1,h2,c,oK.mod i f hf d]
theorem l_two{l:List JO}(h:i+1<l.length):∃l1 a b l2,l=l1++a::b::l2/\l1.length=i/\l[i]?=some a/\l[i+1]?=some b:=by
 calc#[l.take i,l[i],l[i+1],l.drop<|i+2,?_,by rw[bF];lia,aA _,aA _];let c:l.drop i=l[i]::l.drop (i+1):=eK ();let d:l.drop (i+1)=l[i+1]::l.drop (i+2):=eK ();rw[←d,←c,eU]
theorem jq(l1 l2:List JO)(a b x:JO):((l1++a::b::l2).set l1.length x).eraseIdx (l1.length+1)=l1++x::l2:=by
 rw[List.set_append_right _ _<|aG _,fJ,List.set_cons_zero,List.eraseIdx_append_of_length_le (),rO];rfl
end
theorem QM{e:Nat}{Q:Bool->SortSt->Prop}(C:iY M A E s kd S κ)(h0:∀p,p∈a₀.toList->S p)(hB:SB kd a₀ st)(hc:oK κ (arrOf st) 0 (pendingOf st).toList e)(he:e<=a₀.size)(hi:i+1<(pendingOf st).size)
 (h:∀cN,SB kd a₀ cN->oK κ (arrOf cN) 0 (pendingOf cN).toList e->(pendingOf cN).size+1=(pendingOf st).size->(∀j,e<=j->(arrOf cN)[j]?=(arrOf st)[j]?)->Q true cN):wpS M A E s (mergeAt' i) Q st:=by
 let⟨v,⟨sa,na,c⟩,⟨sb,nb,w⟩,x,d,y,z,B⟩:=l_two (l:=(pendingOf st).toList) (by simpa using hi);let a:=hc;rw[d]at a;let⟨m,n,o,q,r,b,t,u,f⟩:=a.app;dsimp only at o q r b t u f;let hl:=f.le;let hm:=n.le;subst o;refine GZ C h0 hB (by rw[←cC];calc z) (by rw[←cC];calc B) q t b () r (by rw[b];calc u) λcN b1 b2 D g=>?_
 let hp:(pendingOf cN).toList=v++(sa,na+nb,c)::x:=by
  rw[b2];have :(((pendingOf st).setIfInBounds i (sa,na+nb,c)).eraseIdxIfInBounds (i+1)).toList=((pendingOf st).toList.set i (sa,na+nb,c)).eraseIdx (i+1):=by simp
  rw[this,d,←y,jq]
 refine h cN b1 ?_ ?_ λj k=>g j ()
 ·rw[hp];refine(n.cg λj _ k=>g j<|.inl k).join #[rfl,by dsimp only;lia,?_,?_]
  ·dsimp only;rw[←Nat.add_assoc,←b];exact D
  ·dsimp only;rw[←Nat.add_assoc];exact f.cg λj k _=>g j<|.inr ()
 ·rw[←bR,←bR,hp,d];simp only[aH,bJ];lia
theorem bj{β:Type}{lo mr size:Nat}{dn X Y:SM β}{Q:β->SortSt->Prop}(C:iY M A E s kd S κ)(h0:∀p,p∈a₀.toList->S p)(hsz:size=a₀.size)(hB:sV kd a₀ lo st0 st)(h1:1<=n)(hn:lo+n<=size)(hs:xJ κ (arrOf st) lo (lo+n))
 (hX:∀n',n'=min (size-lo) mr->∀cN,sV kd a₀ lo st0 cN->1<=n'->lo+n'<=size->xJ κ (arrOf cN) lo (lo+n')->wpS M A E s X Q cN)
 (hY:∀n',n'=n->∀cN,sV kd a₀ lo st0 cN->1<=n'->lo+n'<=size->xJ κ (arrOf cN) lo (lo+n')->wpS M A E s Y Q cN):
 wpS M A E s (if n<mr then(liftM (rule "list.sort.binary-insertion") >>= λ_=>binarySort' lo (min (size-lo) mr) n >>= λb=>if(!b)=true then dn else X)else Y) Q st:=by
 by_cases lT:n<mr
 ·rw[aL lT];calc aY<|rQ<|iK #[rfl,?_];calc aY (HY C h0 () () hB hs λcN b1 b2=>?_);simp only[rE,bP,dJ];exact hX _ rfl cN b1 () () b2
 ·rw[aI lT];exact hY n rfl st hB h1 hn hs
theorem ZO{Q:Unit->SortSt->Prop}(C:iY M A E s kd S κ)(h0:∀p,p∈a₀.toList->S p)(hB:SB kd a₀ st)(hp:pendingOf st= (List.toArray []))
 (h:∀cN,SB kd a₀ cN->xJ κ (arrOf cN) 0 a₀.size->Q Unit.unit cN):wpS M A E s sortRuns' Q st:=by
 rw[sortRuns'_eq];calc aY<|rH ?_;dsimp only;simp only[hB.size];generalize minRun' a₀.size a₀.size 0=mr;refine aY (gD (eL
  (I:=λx c cN=>∃lo,c=(none,lo)/\x<=lo/\lo<=a₀.size/\SB kd a₀ cN/\oK κ (arrOf cN) 0 (pendingOf cN).toList lo)
  (Q:=λc cN=>c=(none,a₀.size)/\SB kd a₀ cN/\oK κ (arrOf cN) 0 (pendingOf cN).toList a₀.size) ?step ?fin #[0,rfl,aG _,bZ _,hB,by rw[hp];rfl]) ?post)
 case fin=>
  rintro c cN ⟨lo,rfl,X,P,u,v⟩;have :lo=a₀.size:=by lia
  subst this;exact#[rfl,u,v]
 case step=>
  rintro x c cN _ hx ⟨lo,rfl,X,P,u,v⟩;dsimp only;by_cases g:lo≥a₀.size
  ·rw[aL g];have :lo=a₀.size:=by lia
   subst this;exact bK #[rfl,u,v]
  ·rw[aI g];calc aY (DQ (st0:=cN) C h0 () () #[u,rfl,λ_ _=>rfl] λm Y w z Z B=>?_);dsimp only;refine bj C h0 rfl w z () B (λn hn b d i k f=>?_) λn hn b d i k f=>?_
   all_goals
    rw[←hn];let l:oK κ (arrOf b) 0 (pendingOf b).toList lo:=by rw[d.pend];exact v.cg λj _ hj=>d.out j hj
    let fin:∀(nJ:SortSt),SB kd a₀ nJ->oK κ (arrOf nJ) 0 (pendingOf nJ).toList lo->xJ κ (arrOf nJ) lo (lo+n)->
     ∃e,(none,lo+n)=((none,e):Option Unit×Nat)/\x+1<=e/\e<=a₀.size/\SB kd a₀ (setPending nJ<|(pendingOf nJ).push (lo,n,0))/\oK κ (arrOf<|setPending nJ<|(pendingOf nJ).push (lo,n,0)) 0 (pendingOf<|setPending nJ<|(pendingOf nJ).push (lo,n,0)).toList e:=by
     intro nJ b1 b2 a;calc#[lo+n,rfl,(),k,#[b1.perm,b1.kind,b1.fail],?_];show oK κ (arrOf nJ) 0 ((pendingOf nJ).push (lo,n,0)).toList (lo+n);rw[Array.toList_push];exact b2.join #[rfl,i,a,rfl]
    calc aY<|rH ?_;cases hb:(pendingOf b).back? with
    |none=>
     dsimp only;exact aY<|mX<|bK<|fin b d.sb l f
    |some r=>
     let⟨s1,D,p1⟩:=r;dsimp only;generalize power' a₀.size (2*s1+D) (2*s1+D+D+n) a₀.size=pw;refine aY (gD (eL
      (I:=λ_ c nJ=>c=(none,Unit.unit)/\SB kd a₀ nJ/\oK κ (arrOf nJ) 0 (pendingOf nJ).toList lo/\xJ κ (arrOf nJ) lo (lo+n))
      (Q:=λc nJ=>c=(none,Unit.unit)/\SB kd a₀ nJ/\oK κ (arrOf nJ) 0 (pendingOf nJ).toList lo/\xJ κ (arrOf nJ) lo (lo+n)) ?_ (λ_ _ hh=>hh) #[rfl,d.sb,l,f]) ?_)
     ·rintro y c nJ _ _ ⟨rfl,b1,b2,a⟩;refine aY (rH ?_)
      skip
      by_cases hz:(pendingOf nJ).size>1
      ·rw[aL hz];rw[getElem?_pos (pendingOf nJ) ((pendingOf nJ).size-2) ()];generalize (pendingOf nJ)[(pendingOf nJ).size-2]=r;let⟨r1,r2,older⟩:=r;dsimp only;by_cases R:older<=pw
       ·rw[aL R];exact bK #[rfl,b1,b2,a]
       ·rw[aI R];calc aY (QM C h0 b1 b2 P () λF G H d3 J=>?_);simp only[rE,bP,dJ];calc bK #[rfl,G,H,λp q K T U=>?_];rw[qC<|J p K,qC<|J q ()];exact a p q K T U
      ·rw[aI hz];exact bK #[rfl,b1,b2,a]
     ·rintro c nJ ⟨rfl,b1,b2,a⟩;dsimp only;calc aY<|mX ?_;calc aY<|mX<|bK<|fin (setPending nJ _) #[b1.perm,b1.kind,b1.fail] ?_ a;show oK κ (arrOf nJ) 0 ((pendingOf nJ).modify _ _).toList lo;rw[Array.toList_modify];exact b2.mod _ _ λ_=>#[rfl,rfl]
 case post=>
  rintro c cN ⟨rfl,L,o⟩;dsimp only;let N:=o.le;rw[bR]at N;refine aY (gD (eL
   (I:=λx c gO=>c=(none,Unit.unit)/\SB kd a₀ gO/\oK κ (arrOf gO) 0 (pendingOf gO).toList a₀.size/\(pendingOf gO).size<=a₀.size-x+1)
   (Q:=λc gO=>c=(none,Unit.unit)/\SB kd a₀ gO/\oK κ (arrOf gO) 0 (pendingOf gO).toList a₀.size/\(pendingOf gO).size<=1) ?_ ?_ #[rfl,L,o,()]) ?_)
  ·rintro x c nJ _ hx ⟨rfl,b1,b2,a⟩;refine aY (rH ?_)
   skip
   by_cases hz:(pendingOf nJ).size<=1
   ·rw[aL hz];exact bK #[rfl,b1,b2,hz]
   ·rw[aI hz];refine aY (QM C h0 b1 b2 (aG _) ?_ λF G H d3 J=>?_)
    ·by_cases t:(pendingOf nJ).size-2>0
     ·rw[aL t];split<;>lia
     ·rw[aI t];simp only[Option.any_none,bP,dJ];lia
    ·simp only[rE,bP,dJ];exact bK #[rfl,G,H,()]
  ·rintro c nJ ⟨rfl,b1,b2,a⟩;exact#[rfl,b1,b2,()]
  ·rintro c nJ ⟨rfl,b1,b2,a⟩;calc bK<|h nJ b1 ?_;rw[←bR]at a
   match hl:(pendingOf nJ).toList,b2,a with
   |[],b2,_=>
    let b2:0=a₀.size:=b2;intro p q K T U;lia
   |[x],⟨c1,c2,W,O⟩,_=>
    let O:0+x.2.1=a₀.size:=O;rw[O]at W;exact W
section
open PySem.SeqAt PySem.W
theorem PU:∀vs:List Value,vs.zip vs=vs.map λv=>(v,v)
 |[]=>rfl
 |v::vs=>by rw[List.zip_cons_cons,PU vs];rfl
theorem ZC{β:Type}(g:α->β){l1 l2:List β}(h:l1.Perm l2):∀l:List α,l2=l.map g->∃m:List α,m.Perm l/\l1=m.map g:=by
 induction h with
 |nil=>
  intro l e;cases l with
  |nil=>exact#[[],.refl _,rfl]
  |cons a l=>cases e
 |cons x _ j=>
  intro l e;cases l with
  |nil=>cases e
  |cons a l=>
   injection e with c d
   let⟨m,h1,rfl⟩:=j l d;exact#[a::m,h1.cons a,by rw[c];rfl]
 |swap x y p=>
  intro l e
  match l,e with
  |a::b::l,e=>
   injection e with c e
   injection e with d k
   exact#[b::a::l,.swap a b l,by rw[c,d,k];rfl]
 |trans _ _ f i=>
  intro l e;let⟨n,h2,d⟩:=i l e;let⟨o,h1,c⟩:=f n d;exact#[o,h1.trans h2,c]
theorem XW{vs:List Value}{P:PySem.Fin->Shared->Prop}(ho:s.heap.get? a=some (seqObj "list" vs.toArray n))(hbig:vs.length<100000)
 (hk:∀(s':Shared)(Q:SortKind->Shared->Prop),2<=vs.length->(∀b o,b≠a->s.heap.get? b=some o->s'.heap.get? b=some o)->Q kd s'->wpAny (model prog w) A (keyKind' vs.toArray) Q E s')
 (hc:∀s':Shared,(∀b o,b≠a->s.heap.get? b=some o->s'.heap.get? b=some o)->iY (model prog w) A E s' kd S κ) (hS:∀v∈vs,S (v,v))
 (h:∀out:List Value,out.Perm vs->out.Pairwise (λx y=>κ (x,x)<=κ (y,y))->P (.done<|.ret .none) {s with heap:=sortedHeap s.heap a vs out.toArray}):wpAny (model prog w) A (Builtin.«list.sort» #[[.ref a],[]]) P E s:=by
 rw[list_sort_plain];let ha:a<s.heap.objs.size:=bC ho;let f:vs.toArray.size=vs.length:=by simp
 calc aF<|listItems_at ho rfl ?_;calc aF (rK ho rfl ?_ (by rw[f,cQ];lia)<|bZ _);obtain⟨g,d⟩:∃g,(s.heap.update a<|Obj.mapSeq λ_=> (List.toArray [])).get? a=some (seqObj "list" (List.toArray []) g):=#[_,get?_update_seq ho λ_=> (List.toArray [])]
 calc aF<|seqEpoch_at d rfl ?_;calc aF (wpAny_newTuple ?_ (by show vs.length<=_;rw[cQ];lia));calc aF<|pF ?_<|bZ _;calc eM ?_;let keep:∀b o,b≠a->s.heap.get? b=some o->(((s.heap.update a<|Obj.mapSeq λ_=> (List.toArray [])).push (seqObj "tuple" vs.toArray 0)).push (seqObj "list" (List.toArray []) 0)).get? b=some o:=λb o hb e=>aO _<|aO _<|(eT _ _<|cE hb).trans e
 let c:(((s.heap.update a<|Obj.mapSeq λ_=> (List.toArray [])).push (seqObj "tuple" vs.toArray 0)).push (seqObj "list" (List.toArray []) 0)).get? a=some (seqObj "list" (List.toArray []) g):=aO _<|aO _ d;show wpAny (model prog w) A _ P E {s with heap:=((s.heap.update a<|Obj.mapSeq λ_=> (List.toArray [])).push (seqObj "tuple" vs.toArray 0)).push (seqObj "list" (List.toArray []) 0)};generalize H:((s.heap.update a<|Obj.mapSeq λ_=> (List.toArray [])).push (seqObj "tuple" vs.toArray 0)).push (seqObj "list" (List.toArray []) 0)=G at c keep⊢;dsimp only;let push:∀F:SortKind->Sem PySem.Fin,(∀k,(2<=vs.length->k=kd)->wpAny (model prog w) A (F k) P E {s with heap:=G})->wpAny (model prog w) A (if vs.toArray.size<2 then pure general' >>= F else keyKind' vs.toArray >>= F) P E {s with heap:=G}:=λF t=>by
  by_cases h2:vs.toArray.size<2
  ·rw[aL h2];exact aF (aV<|t _ λz=>())
  ·rw[aI h2];exact aF (hk _ _ () keep<|t _ λ_=>rfl)
 refine push _ λk l=>?_
 refine aF (iL (show wpAny _ _ _ (λr s'=>s'={s with heap:=G}/\(arrOf r.2).toList.Perm (vs.zip vs)/\xJ κ (arrOf r.2) 0 vs.length/\failedOf r.2=none) _ _ from ?_) (λr s' hq=>?_) λ_ _ e=>e)
 ·by_cases h2:vs.toArray.size<2
  ·rw[aL h2,StateT.run_pure];refine aV #[rfl,by show(vs.toArray.zip vs.toArray).toList.Perm _;simp,λi j h1 L M=>by rw[show i=j by lia];exact hV _,rfl]
  ·rw[aI h2,l ()];refine iL (ZO (s:={s with heap:=G}) (a₀:=pairsOf vs) (st:=SortSt.mk' kd (vs.toArray.zip vs.toArray) (List.toArray []) 7 none) (Q:=λ_ cN=>SB kd (pairsOf vs) cN/\xJ κ (arrOf cN) 0 (pairsOf vs).size) (hc _ keep) (λp hp=>?_) #[tJ _,rfl,rfl] rfl λcN b1 b2=>#[b1,b2]) (λr s' hq=>?_) λ_ _ e=>e
   ·rw[pairsOf_toList]at hp;let⟨x,y⟩:=p;let⟨e,hm⟩:=mem_zip_self hp;let e:x=y:=e;subst e;exact hS x hm
   ·let⟨e,u,hs⟩:=hq;rw[pairsOf_size]at hs;exact#[e,by rw[←pairsOf_toList];exact u.perm,hs,u.fail]
 obtain⟨⟨⟩,cN⟩:=r;let⟨rfl,hl,hs,hf⟩:=hq;dsimp only at hl hs hf⊢;let⟨m,B,C⟩:=ZC (λv:Value=>(v,v)) hl vs<|PU vs;let D:(arrOf cN).map (·.2)=m.toArray:=by
  apply Array.toList_inj.mp;rw[Array.toList_map,C,dX];exact List.map_id m
 let I:=B.length_eq;calc aF<|seqEpoch_at c rfl ?_;calc aF (rK c rfl ?_ (bZ _) (by rw[D,aU,cQ];lia));rw[hf];simp only[bne_self_eq_false,bP,dJ];have :=h m B (dQ.mpr λi j hi J K=>?_)
 ·unfold sortedHeap at this;rw[H]at this;rw[D];exact aV this
 ·let q:=hs i j (bZ _) () ();let at_:∀(i:Nat)(hi:i<m.length),eF κ (arrOf cN) i=κ (m[i],m[i]):=λi hi=>zY (by rw[←cC,C,aJ,aA hi];rfl)
  rwa[at_ i hi,at_ j J]at q
theorem fu{vs:List Value}(hl:s.heap.IsList l vs.toArray)(hbig:vs.length<100000)
 (hk:∀(s':Shared)(E:Value->Shared->Prop)(Q:SortKind->Shared->Prop),2<=vs.length->(∀b o,s.heap.get? b=some o->s'.heap.get? b=some o)->Q kd s'->wpAny (model prog w) A.in1.in1 (keyKind' vs.toArray) Q E s')
 (hc:∀(s':Shared)(E:Value->Shared->Prop),(∀b o,s.heap.get? b=some o->s'.heap.get? b=some o)->iY (model prog w) A.in1.in1 E s' kd S κ) (hS:∀v∈vs,S (v,v))
 (h:∀(h':Heap)(e:Nat)(out:List Value),out.Perm vs->(∀b o,s.heap.get? b=some o->h'.get? b=some o)->h'.get? (s.heap.objs.size+1)=some (seqObj "list" out.toArray e)->Q (.ref<|s.heap.objs.size+1) {s with heap:=h'}):
 wpAny (model prog w) A (call (.builtin "sorted") [.ref l]) Q E s:=by
 calc sD kind_sorted plain_sorted entry_sorted (args_sorted1 _) ?_;unfold Builtin.«sorted»;calc aF (m:=checkCount "sorted" 1 1 _)<|aV ?_;calc aF (collect_list hl ?_ (by rw[cQ];lia));calc aF (pF ?_ (by rw[cQ];lia));generalize d:(s.heap.push<|seqObj "list" (List.toArray []) 0).update s.heap.objs.size (Obj.mapSeq (· ++vs.toArray))=G;let a:G.objs.size=s.heap.objs.size+1:=by rw[←d,Heap.size_update,size_push']
 let c:(G.push<|seqObj "list" vs.toArray 0).get? G.objs.size=some (seqObj "list" vs.toArray 0):=bO _ rfl;let keep:∀b o,s.heap.get? b=some o->(G.push<|seqObj "list" vs.toArray 0).get? b=some o:=λb o hb=>by
  rw[←d];exact aO _<|(eT _ _<|rW<|bC hb).trans (aO _ hb)
 let nb:∀{b:Addr}{o:Obj},s.heap.get? b=some o->b≠G.objs.size:=λq=>by rw[a];exact cH<|pY<|bC q
 show wpAny _ _ _ _ _ {s with heap:=G.push (seqObj "list" vs.toArray 0)};calc aF (eM<|gW qb #[_,c,rfl] dc (XW (A:=A.in1.in1) c hbig (λs' f h2 kp hq=>hk s' _ f h2 (λb o e=>kp b o (nb e)<|keep b o e) hq) (λs' kp=>hc s' _ λb o e=>kp b o (nb e)<|keep b o e) hS λout hp _=>#[_,rfl,?_])<|args_list_sort _);let⟨e,he⟩:=sortedHeap_at (out:=out.toArray) c;rw[a]at he;calc aV #[_,rfl,?_];rw[a];calc h _ e out hp (λb o q=>?_) he;rw[←a,sortedHeap_old (nb q)<|bC<|keep b o q];exact keep b o q
theorem vR:∀l:List Addr,dD (l.map V.ref)<|l.map Value.ref
 |[]=>.nil
 |_::l=>.cons rfl<|vR l
theorem jT:∀{l:List Addr}{us:List Value},dD (l.map V.ref) us->us=l.map Value.ref
 |[],_,h=>by cases h;rfl
 |a::l,_,h=>by
  cases h with
  |cons r t=>rw[show _=Value.ref a from r,jT t];rfl
noncomputable def rnk(zs:List Str)(z:Str):Nat:=zs.countP λy=>decide<|y.cps.toList<z.cps.toList
theorem JG{α:Type}{p q:α->Bool}{x:α}(hp:p x=false)(hq:q x=true):∀{l:List α},(∀z∈l,p z=true->q z=true)->x∈l->l.countP p<l.countP q
 |[],_,h=>by cases h
 |a::l,hs,h=>by
  let hm:=List.countP_mono_left (l:=l) λz hz=>hs z<|bB _ hz
  rw[List.countP_cons,List.countP_cons];rcases bG.mp h with rfl |h
  ·rw[hp,hq];simp only[bP,dJ,if_true];lia
  ·have :=JG hp hq (λz hz=>hs z<|bB _ hz) h;let h0:=hs a bD;cases e:p a with
   |true=>rw[h0 e];lia
   |false=>simp only[bP,dJ];split<;>lia
theorem uf{zs:List Str}{x y:Str}(hx:x∈zs):decide (x.cps.toList<y.cps.toList)=decide ((rnk zs x:Int)<rnk zs y):=by
 by_cases h:x.cps.toList<y.cps.toList
 ·rw[dA h,dA];exact Int.ofNat_lt.mpr (JG (p:=λu:Str=>decide<|u.cps.toList<x.cps.toList) (q:=λu:Str=>decide<|u.cps.toList<y.cps.toList) (x:=x) (cJ<|List.lt_irrefl _) (dA h) (λz _ hz=>dA<|List.lt_trans (of_decide_eq_true hz) h) hx)
 ·rw[cJ h,cJ];intro z;let z:=Int.ofNat_lt.mp z;calc absurd z (Nat.not_lt.mpr<|List.countP_mono_left λu _ a=>dA ?_);exact gX λw=>h<|List.lt_of_le_of_lt (List.not_lt.mp w)<|of_decide_eq_true a
def tQ(H:Hp)(a:Addr)(z:Str):Prop:=∃r,H a=some (.tup (.str z::r))
theorem tQ.raw{z:Str}(ok:mL P w H h)(t:tQ H a z):∃o xs n tk r,h.get? a=some o/\o.cls=.type "tuple"/\o.data=.seq xs n/\xs=(Value.str z tk::r).toArray:=by
 let⟨r,ht⟩:=t;let⟨_,its,b,o,h1,h2,n,c⟩:=(show fF P w H h a (.tup (.str z::r))from ok a _ ht)
 cases b with
 |cons r1 d=>
  let⟨tk,rfl⟩:=r1;exact#[o,_,n,tk,_,h1,h2,c,rfl]
theorem VI{h:Heap}{R:Value->Prop}:∀{as:List Addr},(∀a∈as,∃o xs n f,h.get? a=some o/\o.cls=.type "tuple"/\o.data=.seq xs n/\xs[0]?=some f/\R f)->∃fs,KatTups h (as.map Value.ref) fs/\fs.length=as.length/\∀f∈fs,R f
 |[],_=>#[[],trivial,rfl,λ_ h=>nomatch h]
 |a::as,ht=>by
  let⟨fs,h1,h2,b⟩:=VI λc hc=>ht c<|bB _ hc
  let⟨o,xs,n,f,d,e,g,i,j⟩:=ht a bD;calc#[f::fs,#[#[a,o,xs,n,rfl,d,e,g,i],h1],by simp[h2],λk hf=>?_];rcases bG.mp hf with rfl |hf
  ·exact j
  ·exact b k hf
noncomputable def κS(H:Hp)(zs:List Str)(p:Keyed):Int:=match p.1 with
 | .ref a=>(match H a with |some (.tup (.str z::_))=>(rnk zs z:Int) |_=>0)
 |_=>0
theorem ly{zs:List Str}{z:Str}{v:Value}(h:tQ H a z):κS H zs (.ref a,v)=rnk zs z:=by
 let⟨r,e⟩:=h;unfold κS;dsimp only;rw[e]
theorem DE{prog:Program}{w:World}{A:Around}{s:Shared}{b fin:Bool}{Q:Bool->Shared->Prop}(h:Q fin s):∀(l:List Value)(i:Nat),KatLex prog w A b fin Q (l.zip l) i s
 |[],_=>kat_nil h
 |v::l,i=>kat_cons<|qe v _ _ _ _<|kat_yes<|DE h l<|i+1
theorem WA:jL X (.builtin "sorted") (λxs H Q=>dr X.calm (pW xs λx=>mJ x λp=>∃as:List Addr,H p=some (.lst<|as.map V.ref)/\∃zs:List Str,as.length=zs.length/\zs.length<64/\zs.Nodup/\(∀(i:Nat)(a:Addr)(z:Str),as[i]?=some a->zs[i]?=some z->tQ H a z)/\
 ∀(l:Addr)(iQ:List Addr),H l=none->iQ.Perm as->Q (.ref l) (upd H l<|.lst<|iQ.map V.ref))):=by
 intro aK s σ H xs us Q I r h;replace h:=EJ h;let⟨C,h⟩:=h;replace h:=vQ h;let⟨x0,rfl,h⟩:=h;replace h:=yS h;let⟨p,rfl,as,hp,zs,hl,L,lO,ht,q⟩:=h;let⟨u,rfl,M⟩:=jN r;cases M;let⟨hz,its,nn,rv,o1⟩:=(show fF X.prog X.w H s.heap p (.lst<|as.map V.ref)from I.hok p _ hp)
 obtain rfl:=jT rv;let D:∀a∈as,∃z∈zs,tQ H a z:=λa ha=>by
  let⟨i,hi⟩:=iV.mp ha;let nO:i<zs.length:=by rw[←hl];exact(aC.mp hi).1
  exact#[zs[i],cO nO,ht i a _ hi<|aA nO]
 let un:∀a∈as,∀c∈as,∀z,tQ H a z->tQ H c z->a=c:=λa ha c hc z h1 h2=>by
  let⟨i,hi⟩:=iV.mp ha;let⟨j,B⟩:=iV.mp hc;let nO:i<zs.length:=by rw[←hl];exact(aC.mp hi).1
  let F:j<zs.length:=by rw[←hl];exact(aC.mp B).1
  let e:∀{a:Addr}{x y:Str},tQ H a x->tQ H a y->x=y:=λz0 z1=>by let⟨r,k⟩:=z0;let⟨N,b⟩:=z1;rw[k]at b;cases b;rfl
  let k:=e (ht i a _ hi<|aA nO) h1;let b:=e (ht j c _ B<|aA F) h2;have :=(rP lO).mp (k.trans b.symm);subst this;rw[hi]at B;exact cU B
 refine fu (kd:=tuples' true) (S:=λp=>∃a∈as,p=(.ref a,.ref a)) (κ:=κS H zs) #[_,o1,rfl,nn,rfl] (by rw[aD];lia) (λs' O Q' h2 kp hq=>?_) (λs' O kp=>#[λ{x y st Q} hx hy hk h=>?_]) (λv hv=>?_) λh' e out m kp P=>?_
 ·let⟨fs,U,k2,W⟩:=VI (h:=s'.heap) (R:=λf=>∃z tk,f=Value.str z tk) λa ha=>by
   let⟨z,_,hz⟩:=D a ha;let⟨o,xs,n,tk,r,Y,Z,g3,g4⟩:=hz.raw I.hok;exact#[o,xs,n,_,kp _ _ Y,Z,g3,by rw[g4];rfl,z,tk,rfl]
  rw[aD]at h2;calc kat_kind (T:=.type "str") U () (λv hv=>?_) (by decide) hq;let⟨z,tk,rfl⟩:=W v hv;exact λA Q E s _ q=>iZ (typeIs_str s z tk) q
 ·let⟨a,ha,rfl⟩:=hx;let⟨c,hc,rfl⟩:=hy;let⟨z,G,d⟩:=D a ha;let⟨y,hy1,g⟩:=D c hc;let⟨oi,xi,ni,ti,ri,J,a2,K,a4⟩:=d.raw I.hok;let⟨oj,xj,nj,tj,rj,b1,b2,b3,b4⟩:=g.raw I.hok;rw[ly d,ly g,←uf G]at h;rw[lt'_eq];calc aY<|rH ?_;rw[hk];subst a4;by_cases t:a=c
  ·subst t;let e:y=z:=by
    let⟨r,k⟩:=d;let⟨N,b⟩:=g;rw[k]at b;cases b;rfl
   rw[e,cJ<|List.lt_irrefl _]at h;calc aY<|rQ<|lF<|kat_lt (kp _ _ J) K (kp _ _ J) K<|DE #[rfl,?_] _ 0;rw[cJ<|dP _];exact bK h
  ·subst b4;calc aY<|rQ<|lF<|kat_lt (kp _ _ J) K (kp _ _ b1) b3 ?_;show KatLex _ _ _ _ _ _ ((Value.str z ti,Value.str y tj)::ri.zip rj) 0 s';calc kat_cons<|wpAny_eqBool_str ?_;rw[cJ λe:z=y=>t<|un a ha c hc z d (by rw[e];calc g)];calc kat_no ?_;show wpAny _ _ (oneLt' true _ _) _ _ _;exact oneLt_str #[rfl,bK h]
 ·let⟨a,ha,rfl⟩:=bV.mp hv;exact#[a,ha,rfl]
 ·let⟨iQ,b,rfl⟩:=ZC Value.ref m as rfl;let iT:=b.length_eq;exact#[.ref<|s.heap.objs.size+1,_,I.laid (a:=s.heap.objs.size+1) (o:=.lst<|iQ.map V.ref) (t':=s.toks) kp (tG _) #[by rw[aD,cQ];lia,_,e,vR iQ,P],rfl,q _ _ (I.hok.fresh<|tG _) b]
end
section
open PySem.SeqAt PySem.W
abbrev κI(p:Keyed):Int:=numOf p.1
theorem cmpI:iY (model prog w) A E s oneType' (λp=>∃n t,p.1=.int n t) κI:=by
 calc#[λ{x y st Q} hx hy hk h=>?_];let⟨n,t,ex⟩:=hx;let⟨m,u,a⟩:=hy;rw[lt'_eq];calc aY<|rH ?_;rw[hk,keyLt'_oneType,ex,a];calc aY<|rQ<|lF<|oneLt_int #[rfl,?_];let e:decide (κI x<κI y)=decide (n<m):=by show decide (numOf x.1<numOf y.1)=_;rw[ex,a];rfl
 rw[e]at h;exact bK h
theorem HE{vs:List Value}{ns:List Int}{P:PySem.Fin->Shared->Prop}(ho:s.heap.get? a=some (seqObj "list" vs.toArray n))(hI:IntsAre vs ns)(hbig:vs.length<100000)
 (h:∀(out:Array Value)(ns':List Int),IntsAre out.toList ns'->ns'.Perm ns->ns'.Pairwise (· <= ·)->P (.done<|.ret .none) {s with heap:=sortedHeap s.heap a vs out}):wpAny (model prog w) A (Builtin.«list.sort» #[[.ref a],[]]) P E s:=by
 refine XW (κ:=κI) ho hbig (λs' Q h2 _ hq=>?_) (λs' _=>cmpI) (λv hv=>hI.all v hv) λout hp b=>?_
 ·rw[show keyKind' vs.toArray=pure oneType' from ksk_kind (kz:=ns) hI (by simpa using h2)];exact aV hq
 ·calc h out.toArray (out.map numOf) (intsAre_map _ λv hv=>hI.all v<|hp.mem_iff.mp hv) ?_<|fW.mpr b;rw[←hI.nums];exact hp.map _
section
variable {r:Addr} {P:Nat->Value->Prop} {OK:Heap->Prop}
theorem UO(K:KdlSrc prog w T r d n P OK)(hh:A.handled=none)(hok:OK s.heap)(hn:n<100000){ss:List Int}(hl:ss.length=n)(hP:∀(i:Nat)(v:Value)(x:Int),P i v->ss[i]?=some x->∃t,v=.int x t)
 (h:∀(h1 h':Heap)(tk:Nat)(vs':List Value)(ss':List Int)(e:Nat),(∀b o,s.heap.get? b=some o->h1.get? b=some o)->(∀b o,h1.get? b=some o->h'.get? b=some o)->h'.get? h1.objs.size=some {cls:=.type "list",data:=.seq vs'.toArray e}->IntsAre vs' ss'->ss'.Perm ss->ss'.Pairwise (· <= ·)->Q (.ref h1.objs.size) {s with heap:=h',toks:=tk}):
 wpAny (model prog w) A (call (.builtin "sorted") [.ref r]) Q E s:=by
 let hs:sizeLine=16777216:=cQ;calc sD kind_sorted plain_sorted entry_sorted (args_sorted1 _) ?_;unfold Builtin.«sorted»;calc aF (m:=checkCount "sorted" 1 1 _)<|aV ?_;calc aF (kdu_collect (A:=A.in1) K hh hok () λh' tk acc hk a=>?_);let g:acc.toList.length=n:=by rw[bR];exact a.1
 let j:IntsAre acc.toList ss:=DH () λi v x h1 h2=>hP i v x (a.2 i v (by rw[←cC];calc h1)) h2
 generalize acc.toList=vs at g j;calc aF<|pF ?_ ();let c:(h'.push<|seqObj "list" vs.toArray 0).get? h'.objs.size=some (seqObj "list" vs.toArray 0):=bO _ rfl;show wpAny _ _ _ _ _ {s with heap:=h'.push (seqObj "list" vs.toArray 0),toks:=tk};calc aF (eM<|gW qb #[_,c,rfl] dc (HE (A:=A.in1.in1) c j () λout ss' k l p=>#[_,rfl,?_])<|args_list_sort _);let⟨e,he⟩:=sortedHeap_at (out:=out) c;calc aV #[_,rfl,h h' _ tk _ ss' e hk (λb o f=>?_) (by rw[lE];calc he) k l p];let lT:=bC f;rw[sortedHeap_old (cH lT) (by rw[size_push'];calc pY lT)];exact aO _ f
end
theorem JI:jL X (.builtin "sorted") (λxs H Q=>dr X.calm (pW xs λx=>mJ x λp=>∃kvs:List (fC×V),H p=some (.dK kvs)/\∃zs:List Int,kvs.map (·.1)=zs.map Sum.inl/\zs.length<100000/\
 ∀(l:Addr)(zs':List Int),H l=none->zs'.Perm zs->zs'.Pairwise (· <= ·)->Q (.ref l) (upd H l<|.lst<|zs'.map V.int))):=by
 intro aK s σ H xs us Q I r h;replace h:=EJ h;let⟨hc,h⟩:=h;replace h:=vQ h;let⟨L,rfl,h⟩:=h;replace h:=yS h;let⟨p,rfl,kvs,hp,zs,hk,m,q⟩:=h;let⟨u,rfl,n⟩:=jN r;cases n;let⟨z,hd,vs,rel,A⟩:=kN I.hok<|.inl hp;let⟨ep,d⟩:=A.dictAt;let B:kvs.length=vs.length:=fD rel;let C:kvs.length=zs.length:=by have :=dE List.length hk;rwa[aD,aD]at this
 let b:vs.map (·.1)=zs.map Sum.inl:=(YQ rel).trans hk;refine UO (kdl_dict (knd:=zR X.prog X.w) (kvs:=vs) (ep:=ep) hd) (I.ok.hd hc) d () (ss:=zs) () (λi v x D hx=>?_) λh1 h' tk vs' c e E F G J mE f=>?_
 ·let⟨k,y,h1,h2⟩:=D;let g:(vs.map (·.1))[i]?=some k:=by rw[aJ,h1];rfl
  rw[b,aJ,hx]at g;cases g;let h2:ZS (.inl x) v=true:=h2;rcases yF h2 with⟨M,t,e,K⟩ |⟨_,_,e,_⟩
  ·cases e;exact#[t,K]
  ·cases e
 ·let j:Inv X aK σ H {s with heap:=h1,toks:=tk}:=I.kept E;let eR:c.length=zs.length:=mE.length_eq;exact#[.ref h1.objs.size,_,j.laid (a:=h1.objs.size) (o:=.lst<|c.map V.int) (t':=tk) F (aG _) #[by rw[aD,cQ];lia,vs',e,QP J,G],rfl,q _ _ (j.hok.fresh<|aG _) mE f]
end
section
open PySem.SeqAt PySem.W HT
section
open PySem.AutoSeq1 (wpAny_loadPart')
open PySem.MeetsSeq PySem.MeetsSeq2 PySem.MeetsSeq3 PySem.SeqRoads2
theorem ab(l b:Addr)(cT gH:Array Value)(n n2:Nat)(dd dd2:Option Addr)(sl sl2:Array (Option Value))(ns ms:List Int)(hi:IntsAre cT.toList ns)(hj:IntsAre gH.toList ms)(hsz:ns.length=ms.length)(k:Nat):
 ∀i:Nat,ns.length-i=k->Meets (Builtin.«list.__eq__.loop» #[[.ref l,.ref b,rawInt i,rawInt 0],[]])
  (λA R s=>s.heap.get? l=some {cls:=.type "list",dict:=dd,data:=.seq cT n,slots:=sl}/\s.heap.get? b=some {cls:=.type "list",dict:=dd2,data:=.seq gH n2,slots:=sl2}/\
   R (.ok<|.ret<|.bool<|kL (ns.drop i)<|ms.drop i) s):=by
 let o:cT.size=ns.length:=by rw[←hi.length];simp
 let p:gH.size=ms.length:=by rw[←hj.length];simp
 induction k with
 |zero=>
  intro i hk prog w A R s h;let⟨hp,g,d,tk,os⟩:=s;let⟨hl,hb,h⟩:=h
  wp_walk using fP hl,fP hb
  let hi1:cT[((i:Nat):Int).toNat]?=none:=by simp;lia
  let hi2:gH[((i:Nat):Int).toNat]?=none:=by simp;lia
  rw[mU (),mU ()]at h;rw[hi1,hi2]
  wp_walk using fP hl,fP hb
  show R (.ok<|.ret<|.bool<|decide<|cT.size<gH.size) _;rw[cJ ()];exact h
 |succ k j=>
  intro i hk prog w A R s h;let⟨hp,g,d,tk,os⟩:=s;let⟨hl,hb,h⟩:=h
  wp_walk using fP hl,fP hb
  let lT:i<ns.length:=by lia
  let a:i<ms.length:=by lia
  let⟨t,ht⟩:=hi.get i ns[i] (aA lT);let⟨u,m⟩:=hj.get i ms[i] (aA a);let hi1:cT[((i:Nat):Int).toNat]?=some (.int ns[i] t):=by rw[bS,←cC];exact ht
  let hi2:gH[((i:Nat):Int).toNat]?=some (.int ms[i] u):=by rw[bS,←cC];exact m
  let hc:((i:Int)+1)=((i+1:Nat):Int):=by push_cast;rfl
  rw[eK lT,eK a,HF]at h;rw[hi1,hi2];let⟨e,he,c⟩:=bm A.in1 #[hp,g,d,tk,os] ns[i] t ms[i] u;calc aF<|he prog w _ _ ?_;cases e with
  |true=>
   rw[aL<|c.mp rfl]at h
   wp_walk
   rw[hc];exact#[pG mV _,mY entry_eq_loop (by
    rw[iI mV _];calc j (i+1) () prog w A R _ #[hl,hb,h])]
  |false=>
   rw[aI λq=>absurd (c.mpr q) cG]at h
   wp_walk using fP hl,fP hb
   rw[hi1,hi2];let f:=SJ A.in1 #[hp,g,d,tk,os] ns[i] t ms[i] u prog w
   wp_walk using f
   exact h
theorem VF(l b:Addr)(cT gH:Array Value)(n n2:Nat)(dd dd2:Option Addr)(sl sl2:Array (Option Value))(ns ms:List Int)(hi:IntsAre cT.toList ns)(hj:IntsAre gH.toList ms)(hsz:ns.length=ms.length):
 Meets (Builtin.«list.__lt__» #[[.ref l,.ref b],[]])
  (λA R s=>s.heap.get? l=some {cls:=.type "list",dict:=dd,data:=.seq cT n,slots:=sl}/\s.heap.get? b=some {cls:=.type "list",dict:=dd2,data:=.seq gH n2,slots:=sl2}/\
   R (.ok<|.ret<|.bool<|kL ns ms) s):=by
 intro prog w A R s h;let⟨hp,g,d,tk,os⟩:=s;let⟨hl,hb,h⟩:=h;let a:=AutoSeq1.sub_list_list
 wp_walk using fP hl,fP hb
 exact#[pG mV _,mY entry_eq_loop (by
  rw[iI mV _];calc ab l b cT gH n n2 dd dd2 sl sl2 ns ms hi hj hsz _ 0 rfl prog w A R _ #[hl,hb,h])]
end
theorem af{cT gH:Array Value}{ns ms:List Int}(hl:s.heap.IsList l cT)(hb:s.heap.IsList b gH)(hi:IntsAre cT.toList ns)(hj:IntsAre gH.toList ms)(hsz:ns.length=ms.length)
 (hu:A.units<cLine) (h:Q (.bool<|kL ns ms) s):wpAny (model prog w) A (compareOp .Lt (.ref l)<|.ref b) Q E s:=by
 let⟨⟨cls,i,data,sl⟩,f,hc,n,hd⟩:=id hl;let⟨⟨g,d,data2,e⟩,a,nQ,j,c⟩:=id hb;simp only at hc hd nQ c;subst hc hd nQ c;exact richCompare_meets_room (op:=.Lt) #[_,f,rfl] #[_,a,rfl] F.slot_list_lt F.entry_list_lt (F.args_list_lt_2 _ _) (VF l b cT gH n j i d sl e ns ms hi hj hsz)
  #[f,a,show Value.bool (kL ns ms)≠Value.notImplemented/\Q (.bool<|kL ns ms) s from#[(λx=>nomatch x),h]] hu
noncomputable def jj(xs ys:List Int):Bool:=if xs.length=ys.length then(!decide (xs=ys))&&kL xs ys else decide (xs.length<ys.length)
theorem QS:∀xs ys:List Int,uJ (xs.map Dt.int) (ys.map Dt.int)=decide (xs=ys)
 |[],[]=>rfl
 |[],_::_=>rfl
 |_::_,[]=>rfl
 |x::xs,y::ys=>by
  rw[cI,cI,uJ,QS xs ys,mI];by_cases h:x=y<;>simp[h]
theorem LN:∀{ns:List Int},H a=some (.lst<|ns.map V.int)->eE H (.lst<|ns.map Dt.int) (.ref a):=λ{ns} h=>by
 calc#[a,_,rfl,h,?_];clear h
 induction ns with
 |nil=>rfl
 |cons x xs b=>exact#[_,_,rfl,rfl,b]
def KyL(H:Hp)(nf:Addr->List Int)(k x:Addr):Prop:=H k=some (.tup [.int ((nf x).length:Nat),.ref x])/\H x=some (.lst<|(nf x).map V.int)/\(nf x).length<=1000
theorem KyL.lie(ok:mL P w H s.heap){k x:Addr}(h:KyL H nf k x):∃(o:Obj)(n:Nat)(t:Tok),s.heap.get? k=some o/\o.cls=.type "tuple"/\o.data=.seq (List.toArray [.int ((nf x).length:Nat) t,.ref x]) n:=by
 let⟨_,its,a,o,b,c,n,d⟩:=(show fF P w H s.heap k (.tup [.int ((nf x).length:Nat),.ref x])from ok k _ h.1)
 cases a with
 |cons r1 e=>
  cases e with
  |cons f g=>
   cases g;let⟨t1,rfl⟩:=r1;obtain rfl:=(show _=Value.ref x from f)
   exact#[o,n,t1,b,c,d]
noncomputable def κL(κ:List Int->Int)(nf:Addr->List Int)(p:Keyed):Int:=match p.2 with
 | .ref a=>κ<|nf a
 |_=>0
theorem cmpL(ok:mL P w H s.heap)(hu:A.units+8<cLine){κ:List Int->Int}{S:Addr->Addr->Prop}(hS:∀k x,S k x->KyL H nf k x)(hκ:∀k x l y,S k x->S l y->jj (nf x) (nf y)=decide (κ (nf x)<κ (nf y))):
 iY (model P w) A E s (tuples' true) (λp=>∃k x,S k x/\p=(.ref k,.ref x)) (κL κ nf):=by
 calc#[λ{x y st Q} hx hy hk h=>?_];let⟨k,a,s1,rfl⟩:=hx;let⟨l,b,s2,rfl⟩:=hy;let c:=hS k a s1;let f:=hS l b s2;let⟨oa,na,t1,n,r,o⟩:=c.lie ok;let⟨t,nb,t2,b1,b2,q⟩:=f.lie ok;rw[lt'_eq];calc aY<|rH ?_;rw[hk];let e:decide (κL κ nf (Value.ref k,Value.ref a)<κL κ nf (Value.ref l,Value.ref b))=jj (nf a) (nf b):=(hκ k a l b s1 s2).symm;rw[e]at h;unfold jj at h;calc aY<|rQ<|lF<|kat_lt n o b1 q ?_;show KatLex _ _ _ _ _ _ ((Value.int ((nf a).length:Nat) t1,Value.int ((nf b).length:Nat) t2)::(Value.ref a,Value.ref b)::[]) 0 s;calc kat_cons<|wpAny_eqBool_int ?_;by_cases g:(nf a).length=(nf b).length
 ·rw[aL g]at h;rw[show(((nf a).length:Int)==((nf b).length:Int))=true by rw[cP];lia];refine kat_yes (kat_cons<|VU ok 1 (LN c.2.1) (LN f.2.1) rfl rfl #[by rw[aD];exact c.2.2,λd hd=>?_] () _ _ _ _ ?_)
  ·let⟨i,_,rfl⟩:=bV.mp hd
   trivial
  ·rw[mI,QS];by_cases m:nf a=nf b
   ·rw[dA m]at h⊢;exact kat_yes<|kat_nil #[rfl,bK h]
   ·rw[cJ m]at h⊢;calc kat_no ?_;show wpAny _ _ (oneLt' false _ _) _ _ _;let⟨its,rv,hl⟩:=bN.lst_of ok c.2.1;let⟨its',j,iT⟩:=bN.lst_of ok f.2.1;calc kat_one _ _<|af hl iT (JA rv) (JA j) g () ?_;exact#[rfl,bK h]
 ·rw[aI g]at h;rw[show(((nf a).length:Int)==((nf b).length:Int))=false by rw[cR];lia];calc kat_no ?_;show wpAny _ _ (oneLt' true _ _) _ _ _;calc oneLt_int #[rfl,?_];rw[show decide (((nf a).length:Int)<((nf b).length:Int))=decide ((nf a).length<(nf b).length)from decide_eq_decide.mpr ()];exact bK h
def QB:Sp:=λvs H Q _=>∃(a:Addr)(ns:List Int),vs=[.ref a]/\H a=some (.lst<|ns.map V.int)/\∀p,H p=none->Q (.ref p) (upd H p<|.tup [.int (ns.length:Nat),.ref a])
section
variable {k:Nat} {pn:Str}
theorem Inv.come{ys:List V}(I:Inv X aK σ H s)(fa:wU X aK H a)(hs:∀b o,b≠a->s.heap.get? b=some o->h'.get? b=some o)(new:fF X.prog X.w (upd H a<|.lst ys) h' a (.lst ys)):Inv X aK σ (upd H a<|.lst ys) {s with heap:=h',toks:=t'}:=by
 let⟨hn,d,_,h1,h2,f⟩:=fa;let nit:∀b u,H b=some u->b≠a:=λb u e z=>by rw[z,hn]at e;cases e
 refine I.step (g':=s.gens) (d':=s.drawn) (ch:=[a]) (λb hb=>?_) (λb o _ _ hc e _=>hs b o (λz=>hc (by simp[z])) e) (λb o _ _ hc e _=>#[o.slots,hs b o (λz=>hc (by simp[z])) e]) (λb _ hc _ n=>by rw[zE λz=>hc (by simp[z])];calc n)
  (λb o hc e=>#[o,hs b o (λz=>hc (by simp[z])) e]) (λb _ e=>by rw[zE<|nit b _ e];calc e) (λb _ _ e=>by rw[zE<|nit b _ e];calc e) (λb ps e=>#[(List.toArray []),by rw[zE<|nit b _ e,e];simp]) (λm hm=>?_) (λb u e=>?_) I.bare
 ·let e:b=a:=by simpa using hb
  subst e;exact#[h1,d,h2,f]
 ·let⟨o,es,ep,g,r⟩:=hm;exact#[o,es,ep,hs _ o (cE d) g,r]
 ·by_cases hb:b=a
  ·subst hb;rw[zA]at e;cases e;exact new
  ·rw[zE hb]at e;refine(I.hok b u e).stay (λc v hc q=>hs c v ?_ q) (λc q=>by rw[zE<|nit c _ q];calc q) λc xs q=>by rw[zE<|nit c _ q];exact q
   rcases hc with z |z
   ·rw[z];exact hb
   ·exact nit c _ z
theorem b6{x:Addr}{ns:List Int}(I:Inv X aK σ H s)(h:tS X.prog X.w X.K X.mg X.base k f [pn] QB)(hr:gE k X.A.in1.in1)(hx:H x=some (.lst<|ns.map V.int)):
 wpAny (model X.prog X.w) X.A.in1.in1 (call (.ref f) [.ref x]) (λu s'=>∃p,u=.ref p/\H p=none/\Inv X aK σ (upd H p<|.tup [.int (ns.length:Nat),.ref x]) s') (λ_ _=>False) s:=by
 let⟨fd,F,b,kp⟩:=h.ex;calc wpAny_call (tW (F.run X.A.in1.in1 X.stack s H #[[.ref x],[]] [.ref x] [.ref x] (λv H'=>∃p,v=.ref p/\H p=none/\H'=upd H p (.tup [.int (ns.length:Nat),.ref x])) E0 hr I.env0.in1.in1 (b s [.ref x] I.kIn rfl) (.cons rfl .nil) #[x,ns,rfl,hx,λp hp=>#[p,rfl,hp,rfl]]) λr s' hq=>?_);cases r with
 |error e=>exact hq.elim
 |ok fl=>
  cases fl with
  |ret u=>
   let⟨v,H',a,r,p,rfl,hp,rfl⟩:=I.after hq;exact#[p,r,hp,a]
  |next=>exact False.elim hq
  |brk=>exact False.elim hq
  |cont=>exact False.elim hq
theorem wV(ks as:List Addr):((ks.map Value.ref).toArray.zip (as.map Value.ref).toArray).toList=(ks.zip as).map λp=>(Value.ref p.1,Value.ref p.2):=by
 rw[ksk_zip,AA,List.zip_map];rfl
theorem ao{kS:Addr}{e1:Nat}{ks:List Addr}{P:PySem.Fin->Shared->Prop}(I:Inv X (aK++[(a,seqObj "list" (List.toArray []) e1)]) σ (upd H kS<|.lst<|ks.map V.ref) s)(hk:H kS=none)(fa:wU X aK (upd H kS<|.lst<|ks.map V.ref) a)(hkl:ks.length<=1000)
 (m:List (Addr×Addr)) (hm:(arrOf st).toList=m.map λp=>(Value.ref p.1,Value.ref p.2)) (hml:m.length<=1000) (hfl:failedOf st=none)
 (h:∀H' s',aW H H'->H a=none->Inv X aK σ (upd H' a (.lst ((m.map (·.2)).map V.ref))) s'->P (.done<|.ret .none) s'):wpAny (model X.prog X.w) A (ksk_tail a false e1 (.ref kS) st) P E s:=by
 let⟨_,its,n,rv,_,t⟩:=I.lstM zA;obtain rfl:=jT rv;let⟨fn,fa⟩:=fa;let g:a≠kS:=λz=>by rw[z,zA]at fn;cases fn
 let i:H a=none:=by rwa[zE g]at fn
 let j:((ks.map Value.ref).toArray).size=ks.length:=by simp
 let k:=I.lset (f:=λ_=> (List.toArray [])) (its':=[]) (ys:=[]) (t':=s.toks) zA t rfl .nil<|bZ _;rw[vS]at k;let l:(s.heap.update kS<|Obj.mapSeq λ_=>((List.toArray []):Array Value)).get? a=some (seqObj "list" (List.toArray []) e1):=(k.pin (a,seqObj "list" (List.toArray []) e1) (by simp)).1;let d:((arrOf st).map (·.2)).toList=(m.map (·.2)).map Value.ref:=by
  rw[Array.toList_map,hm,dX,dX];rfl
 unfold ksk_tail;dsimp only;generalize ((arrOf st).map (·.2))=out at d⊢;let q:out.size=m.length:=by rw[←bR,d,aD,aD]
 calc aF (rK t rfl ?_ (by rw[j,cQ];lia)<|bZ _);calc aF<|wpAny_letGo ?_;calc aF<|seqEpoch_at l rfl ?_;simp only[bP,dJ];let r:out.size<=sizeLine+1:=by rw[q,cQ];lia
 calc aF<|rK l rfl ?_ (bZ _) r;rw[hfl];simp only[bne_self_eq_false,bP,dJ];let u:Inv X aK σ (upd H kS<|.lst []) {s with heap:=s.heap.update kS (Obj.mapSeq λ_=> (List.toArray [])),toks:=s.toks}:=k.unpinned;obtain⟨c,hc⟩:∃c,((s.heap.update kS<|Obj.mapSeq λ_=>((List.toArray []):Array Value)).update a (Obj.mapSeq λ_=>out)).get? a=some (seqObj "list" out c):=#[_,get?_update_seq l λ_=>out]
 let v:=u.come (a:=a) (t':=s.toks) (h':=(s.heap.update kS<|Obj.mapSeq λ_=>((List.toArray []):Array Value)).update a (Obj.mapSeq λ_=>out)) (ys:=(m.map (·.2)).map V.ref) #[by rw[zE g];exact i,fa] (λb o hb e=>(eT _ _<|cE hb).trans e) #[by rw[aD,aD,cQ];lia,_,c,vR _,by rw[←d,lE];calc hc];exact aV<|h _ _ (zB hk _) i v
theorem RV{as:List Addr}{κ:List Int->Int}{P:PySem.Fin->Shared->Prop}(I:Inv X aK σ H s)(hf:tS X.prog X.w X.K X.mg X.base k f [pn] QB)(hr:gE k X.A.in1.in1)(fa:wU X aK H a)
 (ho:s.heap.get? a=some (seqObj "list" (as.map Value.ref).toArray n)) (hl:as.length<=1000) (hA:∀x∈as,H x=some (.lst<|(nf x).map V.int)/\(nf x).length<=1000) (hκ:∀x∈as,∀y∈as,jj (nf x) (nf y)=decide (κ (nf x)<κ (nf y)))
 (h:∀(iQ:List Addr) H' s',iQ.Perm as->iQ.Pairwise (λx y=>κ (nf x)<=κ (nf y))->aW H H'->H a=none->Inv X aK σ (upd H' a<|.lst<|iQ.map V.ref) s'->P (.done<|.ret .none) s'):
 wpAny (model X.prog X.w) X.A.in1.in1 (ksk_tree a (.ref f) false) P E s:=by
 let F:(as.map Value.ref).toArray.size=as.length:=by simp
 let W:X.A.in1.in1.units+8<cLine:=by have :=hr.units;lia
 unfold ksk_tree;calc aF<|listItems_at ho rfl ?_;calc aF (rK ho rfl ?_ (by rw[F,cQ];lia)<|bZ _);obtain⟨C,L⟩:∃C,(s.heap.update a<|Obj.mapSeq λ_=> (List.toArray [])).get? a=some (seqObj "list" (List.toArray []) C):=#[_,get?_update_seq ho λ_=> (List.toArray [])]
 calc aF<|seqEpoch_at L rfl ?_;calc aF (wpAny_newTuple ?_ (by rw[AA,aD,cQ];lia));calc aF<|pF ?_<|bZ _;calc eM ?_;let Y:=I.turned (t':=s.toks) (it:=a) (h':=s.heap.update a<|Obj.mapSeq λ_=> (List.toArray [])) (λb o hb e=>(eT _ _<|cE hb).trans e) fa.1 fa.2.1 fa.2.2.2.1 fa.2.2.2.2.1 fa.2.2.2.2.2;let I2:Inv X (aK++[(a,seqObj "list" (List.toArray []) C)]) σ H _:=Y.pins_of λp hp=>(bE.mp hp).elim (λz=>Y.pin p<|bA _ z) λz=>by
  rw[aS.mp z];exact#[L,fa.1,fa.2.1,fa.2.2.1,λv e=>by cases e]
 let Z:=I2.kept (t':=s.toks) (h':=(s.heap.update a<|Obj.mapSeq λ_=> (List.toArray [])).push (seqObj "tuple" (as.map Value.ref).toArray 0)) λb u e=>aO _ e
 let g:=Z.fresh;let U:=Z.lnew (t':=s.toks) (ys:=[]) (its:=[]) .nil<|bZ _;let fak:∀{H':Hp}{s':Shared},Inv X (aK++[(a,seqObj "list" (List.toArray []) C)]) σ H' s'->wU X aK H' a:=λI'=>#[(I'.pin (a,seqObj "list" (List.toArray []) C) (by simp)).2.1,fa.2]
 revert g U
 show∀_:_,∀_:Inv X _ _ _ {s with heap:=((s.heap.update a<|Obj.mapSeq λ_=> (List.toArray [])).push (seqObj "tuple" (as.map Value.ref).toArray 0)).push (seqObj "list" (List.toArray []) 0),toks:=s.toks},wpAny _ _ (ksk_rest a (.ref f) false _ C<|.ref ((s.heap.update a<|Obj.mapSeq λ_=> (List.toArray [])).push (seqObj "tuple" (as.map Value.ref).toArray 0)).objs.size) _ _ _;intro g U;generalize ((s.heap.update a<|Obj.mapSeq λ_=> (List.toArray [])).push (seqObj "tuple" (as.map Value.ref).toArray 0)).objs.size=kS at g U⊢;clear Y I2 Z;unfold ksk_rest;calc aF<|iK ?_;rw[List.forIn_toArray];refine aF (ksk_fold (λi s'=>∃(Hi:Hp)(ks:List Addr),Inv X (aK++[(a,seqObj "list" (List.toArray []) C)]) σ (upd Hi kS<|.lst<|ks.map V.ref) s'/\Hi kS=none/\aW H Hi/\ks.length=i/\∀p∈ks.zip as,KyL Hi nf p.1 p.2) (as.map Value.ref) 0 _ #[H,[],U,g,aW.refl _,rfl,λp hp=>by rw[List.zip_nil_left]at hp;cases hp] ?_ ?_)
 ·rintro j v s' hv ⟨Hi,ks,Ii,c,sH,d,G⟩;rw[gG]at d⊢;rw[aJ]at hv;let⟨x,hx,rfl⟩:=aM.mp hv;let hj:=(aC.mp hx).1;let⟨kx,klen⟩:=hA x<|aR hx;let r:=sH _ _ kx;let hxk:x≠kS:=λz=>by rw[z,c]at r;cases r
  calc aF (lF<|iL (b6 Ii hf hr (ns:=nf x) (by rw[zE hxk];calc r)) (λu s2 hu=>?_) λ_ _ z=>z.elim);let⟨p,rfl,hp,I5⟩:=hu;let B:p≠kS:=λz=>by rw[z,zA]at hp;cases hp
  rw[zE B]at hp;let ec:∀o o':HO,upd (upd Hi kS o) p o'=upd (upd Hi p o') kS o:=λo o'=>by
   funext b
   by_cases h1:b=p
   ·rw[h1,zA,zE B,zA]
   ·by_cases h2:b=kS
    ·rw[h2,zE<|cE B,zA,zA]
    ·rw[zE h1,zE h2,zE h2,zE h1]
  rw[ec]at I5;let⟨_,its,nn,rv,_,D⟩:=I5.lstM zA;obtain rfl:=jT rv;let I6:=I5.lset (f:=(·.push (.ref p))) (its':=(ks++[p]).map Value.ref) (ys:=(ks++[p]).map V.ref) (t':=s2.toks) zA D (by simp) (vR _) (by rw[aD,aH,cA,cQ];lia);rw[vS]at I6;let M:((ks.map Value.ref).toArray).size=ks.length:=by simp
  calc aF (rK D rfl ?_ (by rw[M,cQ];lia) (by rw[Array.size_push,M,cQ];lia));let sp:=zB hp<|.tup [.int ((nf x).length:Nat),.ref x];calc aV #[rfl,_,ks++[p],I6,by rw[zE<|cE B];exact c,sH.trans sp,by rw[aH,d];rfl,λq hq=>?_];let⟨i,hi⟩:=iV.mp hq;let⟨J,N⟩:=lI.mp hi;by_cases O:i<ks.length
  ·rw[aZ O]at J;let⟨D,g2,g3⟩:=G q<|aR<|lI.mpr #[J,N];exact#[sp _ _ D,sp _ _ g2,g3]
  ·have :i=j:=by
    have :=(aC.mp J).1;rw[aH,cA]at this;lia
   subst this;rw[bI (),d,fJ]at J;cases J;rw[hx]at N;cases N;exact#[zA,sp _ _ r,klen]
 ·rintro s' ⟨Hi,ks,Ii,c,sH,d,G⟩;rw[gG,aD]at d;let⟨_,its,nn,rv,_,D⟩:=Ii.lstM zA;obtain rfl:=jT rv;calc aF<|listItems_at D rfl ?_;let zl:(ks.zip as).length=as.length:=by rw[List.length_zip];lia
  let fin:∀(m:List (Addr×Addr))(st:SortSt),m.Perm (ks.zip as)->(m.Pairwise λx y=>κ (nf x.2)<=κ (nf y.2))->((arrOf st).toList=m.map λp=>(Value.ref p.1,Value.ref p.2))->failedOf st=none->wpAny (model X.prog X.w) X.A.in1.in1 (ksk_tail a false C (.ref kS) st) P E s':=λm st p1 p2 p3 p4=>by
   refine ao Ii c (fak Ii) () m p3 (by rw[p1.length_eq,zl];calc hl) p4 λH' s2 k1 k2 k3=>h (m.map (·.2)) H' s2 ?_ ?_ (sH.trans k1) fa.1 k3
   ·have :=p1.map λp:Addr×Addr=>p.2;rwa[List.map_snd_zip ()]at this
   ·exact fW.mpr p2
  unfold ksk_end
  try dsimp only
  simp only[bP,dJ];by_cases h2:(as.map Value.ref).toArray.size<2
  ·rw[aL h2,aL h2];calc aF<|aV ?_;rw[StateT.run_pure];calc aF<|aV ?_;dsimp only;calc fin (ks.zip as) _ (.refl _) ?_ (wV ks as) rfl;rw[F]at h2
   match hz:ks.zip as with
   |[]=>exact .nil
   |[x]=>exact List.pairwise_singleton _ _
   |x::y::l=>rw[hz]at zl;simp at zl;lia
  ·rw[aI h2,aI h2];rw[F]at h2;let hS:∀k x,(k,x)∈ks.zip as->KyL (upd Hi kS<|.lst<|ks.map V.ref) nf k x:=λk x hp=>by
    let⟨J,N,q3⟩:=G _ hp;exact#[(zB c _) _ _ J,(zB c _) _ _ N,q3]
   let⟨fs,k1,k2,k3⟩:=VI (h:=s'.heap) (as:=ks) (R:=λf=>∃z tk,f=Value.int z tk) λk hk=>by
    rw[←List.map_fst_zip (l₁:=ks) (l₂:=as) ()]at hk;let⟨p,hp,rfl⟩:=bV.mp hk;let⟨o,n',t,D,g2,g3⟩:=(hS p.1 p.2 hp).lie Ii.hok;exact#[o,_,n',_,D,g2,g3,rfl,_,t,rfl]
   refine aF (kat_kind (T:=.type "int") k1 () (λv hv=>?_) (by decide) ?_)
   ·let⟨z,tk,rfl⟩:=k3 v hv;exact λA Q E s _ q=>iZ (typeIs_int s z tk) q
   refine aF (iL (ZO (s:=s') (a₀:=(ks.map Value.ref).toArray.zip (as.map Value.ref).toArray) (st:=SortSt.mk' (tuples' true) ((ks.map Value.ref).toArray.zip (as.map Value.ref).toArray) (List.toArray []) 7 none)
    (Q:=λ_ cN=>SB (tuples' true) ((ks.map Value.ref).toArray.zip (as.map Value.ref).toArray) cN/\xJ (κL κ nf) (arrOf cN) 0 ((ks.map Value.ref).toArray.zip (as.map Value.ref).toArray).size) (cmpL Ii.hok W (κ:=κ) (S:=λk x=>(k,x)∈ks.zip as) hS λk x l y h1 h2=>hκ x (oO h1).2 y (oO h2).2) (λp hp=>by
     rw[wV]at hp;let⟨b,hb,e⟩:=bV.mp hp;calc#[b.1,b.2,hb,e.symm]) #[tJ _,rfl,rfl] rfl λcN b1 b2=>#[b1,b2]) ?_ λ_ _ e=>e)
   rintro⟨⟨⟩,cN⟩ s2 ⟨rfl,hB,hs⟩;dsimp only;let⟨m,m1,m2⟩:=ZC (λp:Addr×Addr=>(Value.ref p.1,Value.ref p.2)) hB.perm (ks.zip as)<|wV ks as;calc fin m cN m1 ?_ m2 hB.fail;rw[dQ];intro i j hi hj O;let hz:((ks.map Value.ref).toArray.zip (as.map Value.ref).toArray).size=m.length:=by rw[←bR,wV,aD,m1.length_eq]
   have :=hs i j (bZ _) () (by rw[hz];calc hj);let at_:∀(i:Nat)(hi:i<m.length),eF (κL κ nf) (arrOf cN) i=κ (nf m[i].2):=λi hi=>by
    let e4:(arrOf cN)[i]?=some (Value.ref m[i].1,Value.ref m[i].2):=by rw[←cC,m2,aJ,aA hi];rfl
    rw[zY e4];rfl
   rw[at_ i hi,at_ j hj]at this;exact this
theorem HU{as:List Addr}{κ:List Int->Int}{Q:VK}(I:Inv X aK σ H s)(hf:tS X.prog X.w X.K X.mg X.base k f [pn] QB)(hr:gE (k+2) X.A)(hp:H l=some (.lst<|as.map V.ref))(hl:as.length<=1000)
 (hA:∀x∈as,H x=some (.lst<|(nf x).map V.int)/\(nf x).length<=1000) (hκ:∀x∈as,∀y∈as,jj (nf x) (nf y)=decide (κ (nf x)<κ (nf y)))
 (q:∀(p:Addr)(iQ:List Addr)(H':Hp),aW H H'->H p=none->H' p=some (.lst<|iQ.map V.ref)->iQ.Perm as->iQ.Pairwise (λx y=>κ (nf x)<=κ (nf y))->Q (.ref p) H'):
 wpAny (model X.prog X.w) X.A (call (.builtin "sorted") [.ref l] [(Str.ofString "key",.ref f)]) (EP X aK σ Q) X.xe s:=by
 let⟨hz,its,nn,rv,o1⟩:=(show fF X.prog X.w H s.heap l (.lst<|as.map V.ref)from I.hok l _ hp)
 obtain rfl:=jT rv;let eR:(as.map Value.ref).length=as.length:=aD _;let hs:sizeLine=16777216:=cQ;calc call_function_entry_kw kind_sorted plain_sorted entry_sorted (ksk_s1 _ _) ?_;unfold Builtin.«sorted»;calc aF (m:=checkCount "sorted" 1 1 _)<|aV ?_;calc aF (collect_list (vs:=as.map Value.ref) #[_,o1,rfl,nn,rfl] ?_ (by rw[eR];lia));calc aF (pF ?_ (by rw[eR];lia));generalize d:(s.heap.push<|seqObj "list" (List.toArray []) 0).update s.heap.objs.size (Obj.mapSeq (· ++(as.map Value.ref).toArray))=G;let h:G.objs.size=s.heap.objs.size+1:=by rw[←d,Heap.size_update,size_push']
 let keep:∀b o,s.heap.get? b=some o->G.get? b=some o:=λb o hb=>by
  rw[←d];exact(eT _ _<|rW<|bC hb).trans (aO _ hb)
 let a:(G.push<|seqObj "list" (as.map Value.ref).toArray 0).get? G.objs.size=some (seqObj "list" (as.map Value.ref).toArray 0):=bO _ rfl;let c:s.heap.objs.size<=G.objs.size:=by lia
 let i:=I.kept (t':=s.toks) (h':=G.push<|seqObj "list" (as.map Value.ref).toArray 0) λb o hb=>aO _<|keep b o hb
 show wpAny _ _ _ _ _ {s with heap:=G.push (seqObj "list" (as.map Value.ref).toArray 0)};calc aF<|eM<|wpAny_call_entry_kw qb #[_,a,rfl] dc ?_<|ksk_l1 _ _;show wpAny (model X.prog X.w) X.A.in1.in1 (Builtin.«list.sort» #[[.ref G.objs.size],[(Str.ofString "key",.ref f)]]) _ _ _;rw[ksk_t1];refine RV i hf hr.in1.in1 (I.fpOk c<|I.hok.fresh c) a hl hA hκ λiQ H' s' j p2 n g r=>#[_,rfl,aV #[_,rfl,.ref G.objs.size,_,r,rfl,q _ iQ _ (λb o e=>?_) g zA j p2]]
 rw[zE<|yR e g];exact n _ _ e
def RH(t:TA):TE:=λσ H Q=>t σ H λvs H1=>pW vs λx=>mJ x λl=>∃(as:List Addr)(nf:Addr->List Int)(κ:List Int->Int),H1 l=some (.lst<|as.map V.ref)/\as.length<=1000/\(∀x∈as,H1 x=some (.lst<|(nf x).map V.int)/\(nf x).length<=1000)/\(∀x∈as,∀y∈as,jj (nf x) (nf y)=decide (κ (nf x)<κ (nf y)))/\
 ∀(p:Addr)(iQ:List Addr)(H':Hp),aW H1 H'->H1 p=none->H' p=some (.lst<|iQ.map V.ref)->iQ.Perm as->iQ.Pairwise (λx y=>κ (nf x)<=κ (nf y))->Q (.ref p) H'
theorem TD{t:TA}{pos p2 kpos:Pos}{g:Str}(h:fZ X.prog X.w X.K X.mg X.base k g [pn] QB)(hr:gE (k+2) X.A)(hs:Gl X "sorted")(hm:X.mg "sorted"=none)(hg:Gl X g)(ha:PA X [e] t)(hd:autoParam ((g==("__debug__":Str))=false) a2._auto_1)
 (he:autoParam (backTo pos (starEach [e] X.env)=(false,eval e X.env)::backTo pos (starEach [] X.env)) a1._auto_1) (hpl:autoParam ((backTo pos<|starEach [e] X.env).any (·.1)=false) a1._auto_1) (nT:autoParam ((backToKw pos<|keywordEach [#[some "key",.Name g p2,kpos]] X.env).all (·.1.isSome)=true) a1._auto_1)
 (hks:autoParam ((backToKw pos<|keywordEach [#[some "key",.Name g p2,kpos]] X.env).filterMap (·.1)=[Str.ofString "key"]) a1._auto_1) (hkw:autoParam ((backToKw pos<|keywordEach [#[some "key",.Name g p2,kpos]] X.env).any (·.1.isNone)=false) a1._auto_1):
 PE X (.Call (.Name "sorted" p) [e] [#[some "key",.Name g p2,kpos]] pos) (RH t):=by
 let⟨f,fd,F,b,kp,d⟩:=h.ex;intro aK s σ H Q I hq;calc fH (qR I hs hm wA ?_ (by decide) (by decide));calc callWith_kw (eP (ha pos aK s σ H _ I hq) λus s1 z=>?_) he hpl nT hkw;let⟨vs,H1,i,r1,a⟩:=z;refine eP (gu (VA d hg hd) ul pos aK s1 σ H1 (λzs H2=>zs=[.ref f]/\H2=H1) i #[rfl,rfl]) λws s2 z0=>?_;let⟨zs,H2,j,rz,m,n⟩:=z0
 subst m n;let⟨u,rfl,c⟩:=jN rz;obtain rfl:=(show u=Value.ref f from c)
 rw[hks];replace a:=vQ a;let⟨y,rfl,a⟩:=a;replace a:=yS a;let⟨l,rfl,as,nf,κ,o,q,r,v,x⟩:=a;let⟨u,rfl,c⟩:=jN r1;obtain rfl:=(show u=Value.ref l from c)
 exact HU j #[fd,F,b,kp] hr o q r v x
end
end
end L2
namespace C
open PySem L2
seal PE PT PW PA PS EU PG xr PI PPs PO xq lc
variable {a f lg p:Addr} {fd:FuncData} {base:Heap} {H H' J:Hp} {nm:Int->List Int} {kvs:List (List fC×V)} {O S lU vs:List (List Nat)} {as qs:List Addr} {ks:List Int} {R:List Ln->Prop} {aX:List xK} {sp:List Nat} {b:List lK} {aE:List Rw} {zs:List Str} {ts:List Tm} {us xs:List V} {l:Ln} {d i j n:Nat} {U:Nat->Nat->Prop} {P:Program} {K:W.Frag} {r:Rw} {mg:Str->Option Value} {s:Tm×Tm} {v:V} {w:World}
local macro_rules|`(tactic|dsimp! [$ts,*])=>do let f:=λs=>(String.splitOn s " ").toArray.map λs=>Lean.mkIdent s.toName;let x:=f "RI tFor_eq tLC_eq iRng1 iList iTup qm tRet tRetN tNext et vL eo tC tOp gf rI tTest tB rEq RL me tNil tCB tLst tTup tAnd tOr tNot tAndV tNotV tIf tDrop tSl tPart UH qp tUn rU uU cx_K bk_K cx_calm bk_calm Option.join Bool.not_true Bool.not_false List.length_cons List.length_nil mapC mapN List.replicate List.cons_append List.nil_append List.getElem?_cons_zero List.getElem?_cons_succ List.set_cons_zero List.set_cons_succ Nat.reduceSub Nat.reduceAdd tBM tBM0 UU rIxL uh rIxS rSlL rSlT rSlS rCat rCatT cx_w bk_w tDGet tDisp YZ qo cx_P asI_i asR_i asB_i asS_i asV_i asC_i as1_i as2_i as0_i asT_i";let y:=f "asI_e asR_e asB_e asS_e asV_e asC_e as1_e as2_e as0_e asT_e lenV_str and_assoc List.length_map List.length_append decide_eq_true_eq Bool.false_eq_true if_false if_true Bool.not_eq_true' decide_eq_false_iff_not Bool.true_eq_false List.append_nil Option.some.injEq V.int.injEq V.str.injEq V.bl.injEq V.ref.injEq List.cons.injEq and_true true_and exists_eq_left' exists_eq_left exists_and_left exists_eq_right exists_const List.map_cons List.map_nil";`(tactic|(try dsimp only[$[$x:ident],*,$ts,*];try simp only[$[$y:ident],*,$[$x:ident],*,$ts,*]))
def ff1(h z o:Lean.Term)(x:Array Lean.Term)(s:String):Lean.Term:=let w:=(s.splitOn " ").map λs=>if s=="?" then h else if s=="!" then z else if s=="_" then o else if s.front=='#' then x[(s.drop 1).toNat!]! else if s.isNat then Lean.quote s.toNat! else Lean.mkIdent s.toName;Lean.Syntax.mkApp w.head! w.tail.toArray
def ff2(x:Array Lean.Term)(s:String):Lean.MacroM (Array (Lean.TSyntax `Lean.Parser.Tactic.tacticSeq)):=do let h<-`(?_);let z<-`(‹_›);let o<-`(_);let l:=(s.splitOn "|").flatMap λs=>if s.contains '@' then (List.range 12).map λn=>s.replace "@" (toString n) else [s];l.toArray.mapM (λs=>if s.front=='=' then `(tacticSeq|exact $(ff1 h z o x (s.drop 1).toString)) else `(tacticSeq|refine' $(ff1 h z o x s)))
def ff3(s:String):Lean.MacroM Lean.Term:=do let a<-ff2 (.mk []) s;`(by first $[|$a]*)
def ff4(x:Array Lean.Term)(s:String):Lean.MacroM (Lean.TSyntax `Lean.Parser.Tactic.tacticSeq):=do let h<-`(?_);let z<-`(‹_›);let o<-`(_);let w:=s.splitOn ";";let a<-ff2 x w.tail.head!;`(tacticSeq|(show $(ff1 h z o x w.head!);first $[|$a]*))
local macro_rules|`(#[])=>do let x<-List.mapM id [`(.Name _ _),(ff3 "=uz|=uw|=io|=TZ|=TY|=uv|=ur|=uu|=GD"),(ff3 "=qi|=FA"),(ff3 "=ZP|=KW|=WF|=WG"),`(yL _),`(Bi.len ‹_›),(ff3 "=gE.m !|=!"),`(n0 ?_ ?_),`(XI ?_ ?_),`(.Assign _ _ _),`(Bi.range ‹_›)];let a<-("PA _ _ _;=zI|zG ? ?~PE _ #0 _;=pv @~PE _ _ _;=zJ|=xX|zL xP ? ?|jO #1 ? ?|yI ?|FX ?|=KR|=wK|TC #2 ?|vV #3 ? ? #4|yH kP rfl #5 wR ?|zU ! #6 rfl ?|xM ! ! #6 ? ?|uN cY dU dS xQ ? ?|TL ? rfl~PT _ _ _;yG #3 ? ? #4|SV ?|PW.pt #7|PW.pt #8|kZ ?~PW _ _ _;n0 ? ?|ui ?|XI ? ?|UV ?~EU _ _ _;=zS|zH ?|zC ? ?~PS _ #9 _;yW @ ! ?~PS _ _ _;zP ?|=gh|yK ? ? ?|xA ?|yC bX rfl ? ? ?~PG _ #0 _;=zZ @ !~PG _ _ _;FW rfl ?~xr _ _ _;zV ? ?|=xW~PI _ _ _ _;NQ rfl #10 ?|gv rfl ! ?|YM ?".splitOn "~").mapM (ff4 (.mk x));let a:=a.toArray;`(by repeat' (first $[|$a]*))
local macro_rules | `(tactic| rfl') => `(tactic| exact #[rfl, rfl, rfl, by decide +kernel, rfl, by decide +kernel, by decide +kernel])
local macro_rules | `(()) => `(by first | decide +kernel | lia)
noncomputable def top(i:Nat):Stmt:=PySem.Challenge.pw_clashbook_k39_whole_each_set_on_one_side.main.body.getD i<|.Pass #[0,0,0,0]
abbrev s_X:Stmt:=top 17
theorem sc_X:bT ["n"] ["n"] (zF s_X):=by rfl'
abbrev s_Q:Stmt:=top 18
theorem sc_Q:bT ["n","bound"] ["n","bound"] (zF s_Q):=by rfl'
abbrev uB(H:Hp)(ls:List Ln)(us:List V):Prop:=bN H (ls.map MG) us
abbrev UA(H:Hp)(as:List Wt)(us:List V):Prop:=bN H (as.map dWt) us
theorem xG{α:Type}{f:α->Dt}{xs:List α}(h:bN H (xs.map f) us)(hv:us[i]?=some v):∃x,xs[i]?=some x/\eE H (f x) v:=by
 let hl:=bN.length h;rw[aD]at hl;let hi:i<xs.length:=by rw[←hl];exact(aC.mp hv).1
 let⟨u,h1,h2⟩:=bN.get (d:=f xs[i]) h (by rw[aJ,aA hi];rfl);rw[hv]at h1;cases h1;exact#[_,aA hi,h2]
theorem jM{α:Type}{f:α->Dt}{xs:List α}(h:bN H (xs.map f) us):us.length=xs.length:=by
 let hl:=bN.length h;rwa[aD]at hl
theorem ji{α:Type}{f:α->Dt}{xs:List α}{x:α}(hx:xs[i]?=some x)(h:bN H ((xs.take i).map f) us)(h1:eE H (f x) v):bN H ((xs.take<|i+1).map f) (us++[v]):=by
 let⟨hi,e⟩:=aC.mp hx;rw[aP hi,e,aT];exact bN.append h<|bN.one h1
theorem LnAt.out(h:eE H (MG l) v):∃a b us,v=.ref a/\H a=some (.tup [.int l.i,.int l.j,.ref b])/\H b=some (.tup (.str l.w::us))/\UA H l.as us:=by
 let⟨a,vs,e,f,g,r1,k,h1,m,u,n,h2,z,o,p,⟨b,ws,q,r,x,y,s,c,t⟩,d⟩:=h;let h1:g=.int l.i:=h1;let h2:m=.int l.j:=h2;let d:o=[]:=d;let c:x=.str l.w:=c;subst d p n k h1 h2 q s c;exact#[a,b,y,e,f,r,t]
noncomputable def rwV:Rw->List V
 | .no=>[.str "none"]
 | .nm y=>[.str "name",.str y]
 | .bo i j=>[.str "both",.int i,.int j]
def Tw(K:W.Frag)(H:Hp)(a:Addr)(xs:List V):Prop:=
 H a=some (.tup xs)\/∃(o:Obj)(its:Array Value)(n:Nat),K.lookup a=some o/\o.cls=.type "tuple"/\o.data=.seq its n/\its.size<=sizeLine/\dD xs its.toList
theorem Tw.sq(h:Tw K H a xs):dH K H a xs:=h.elim dH.of .inr
theorem Tw.tups(h:Tw K H a xs)(e:dB H H'):Tw K H' a xs:=h.elim (λz=>.inl<|e _ _ z) .inr
theorem Tw.same(h:Tw K H a xs)(e:aW H H'):Tw K H' a xs:=h.elim (λz=>.inl<|e _ _ z) .inr
def ID(K:W.Frag)(H:Hp)(r:Rw)(v:V):Prop:=∃a,v=.ref a/\Tw K H a (rwV r)
def gU(K:W.Frag)(H:Hp):List Rw->List V->Prop
 |[],us=>us=[]
 |r::rs,us=>∃v vs,us=v::vs/\ID K H r v/\gU K H rs vs
theorem gU.go{K:W.Frag}{H H':Hp}(e:aW H H'):∀{rs:List Rw}{us:List V},gU K H rs us->gU K H' rs us
 |[],_,h=>h
 |r::rs,us,⟨v,vs,b,⟨a,c,d⟩,f⟩=>#[v,vs,b,#[a,c,d.same e],gU.go e f]
theorem gU.same{rs:List Rw}(h:gU K H rs us)(e:aW H H'):gU K H' rs us:=gU.go e h
theorem gU.len{K:W.Frag}{H:Hp}:∀{rs:List Rw}{us:List V},gU K H rs us->us.length=rs.length
 |[],_,h=>by cases (show _=[]from h);rfl
 |r::rs,us,⟨v,vs,a,_,b⟩=>by rw[a,bJ,bJ,gU.len b]
theorem gU.get{K:W.Frag}{H:Hp}:∀{rs:List Rw}{us:List V}{i:Nat}{v:V},gU K H rs us->us[i]?=some v->∃r,rs[i]?=some r/\ID K H r v
 |[],_,i,v,h,hv=>by cases (show _=[]from h);simp at hv
 |r::rs,us,0,v,⟨v',vs,a,b,c⟩,hv=>by subst a;cases hv;exact#[r,rfl,b]
 |r::rs,us,i+1,v,⟨v',vs,a,b,c⟩,hv=>by
  subst a;let⟨d,e,f⟩:=gU.get (i:=i) c (by simpa using hv);exact#[d,by simpa using e,f]
theorem ID.out(h:ID K H r v):∃a x us,v=.ref a/\Tw K H a (.str x::us)/\(match r with | .no=>x="none"/\us=[] | .nm y=>x="name"/\us=[.str y] | .bo i j=>x="both"/\us=[.int i,.int j]):=by
 let⟨a,b,c⟩:=h;cases r<;>exact#[a,_,_,b,c,rfl,rfl]
noncomputable def ptsR:Rw->List Int
 | .bo i j=>[i,j]
 |_=>[]
theorem kF{n:Int}(h:n % 2=0)(hr:aE[(n/2).toNat]?=some r):uZ aE n=ptsR r:=by
 unfold uZ;rw[aL h,hr];cases r<;>rfl
theorem RZ{ls:List Ln}{k:Nat}{i:Int}(h:0<=i/\i<(k:Int))(hl:ls[i.toNat]?=some l):xC ls k (.n i)=some (l.i,l.j):=by
 show(if 0<=i/\i<(k:Int)then(ls[i.toNat]?).map λl=>(l.i,l.j)else none)=_;rw[aL h,hl];rfl
theorem SA{ls:List Ln}{k:Nat}{i:Int}(h:¬(0<=i/\i<(k:Int))):xC ls k (.n i)=none:=by
 show(if 0<=i/\i<(k:Int)then(ls[i.toNat]?).map λl=>(l.i,l.j)else none)=_;rw[aI h]
noncomputable def isN:Wt->Bool
 | .n _=>true
 | .ps _=>false
def qq:Sp:=λvs H Q _=>∃(v:V)(x:Wt),vs=[v]/\eE H (dWt x) v/\Q (.bl<|isN x) H
def RU:Sp:=λvs H Q _=>∃(v:V)(x:Wt)(b:Int),vs=[v,.int b]/\eE H (dWt x) v/\Q (.bl<|JU b x) H
theorem CI(bi:Bi mg)(F:gF K "is_whole" "is_whole" s_X f fd):dC P w K mg base fU 1 f fd ["n"] qq:=by
 refine F.okz sc_X λeZ A outer s H vs Q E hr h=>?_
 let⟨v,x,rfl,hv,q⟩:=h;calc#[_,have nd:=sc_X.nd;zH<|zP<|TV (yH (DT (T:="int")) rfl bi.isinstance wG<|zG #[]<|zG (n5 bi.int wx rfl) zI)<|TH<|um<|yH (DT (T:="bool")) rfl bi.isinstance wG<|zG #[]<|zG (n5 bi.bool j9 rfl) zI,?_];cases x with
 |n i=>
  let e:v=.int i:=hv;subst e;dsimp![];exact#[_,.int i,true,am,iteT #[_,.int i,false,vf,q]]
 |ps l=>
  let⟨a,us,rfl,ha,b⟩:=hv;dsimp![];exact#[_,.tup ha,false,vd,iteF q]
theorem CJ(bi:Bi mg)(h_X:fZ P w K mg base 1 "is_whole" ["n"] qq)(F:gF K "is_below" "is_below" s_Q f fd):dC P w K mg base fU 2 f fd ["n","bound"] RU:=by
 refine F.okz sc_Q λeZ A outer s H vs Q E hr h=>?_
 let⟨v,x,b,rfl,hv,q⟩:=h;calc#[_,have nd:=sc_Q.nd;zH<|zP<|TV #[]<|TH<|TU WF KW zJ #[] #[],?_];dsimp![qq];calc#[x,hv,?_];cases x with
 |n i=>
  let e:v=.int i:=hv;subst e;rw[show isN (.n i)=true from rfl,aL rfl];let q:Q (.bl<|decide (0<=i)&&decide (i<b)) H:=q;calc#[i,rfl,?_];split
  ·rename_i h
   rw[dA h,nZ]at q;exact#[i,rfl,q]
  ·rename_i h
   rw[cJ h,fS]at q;exact q
 |ps l=>
  rw[show isN (.ps l)=false from rfl,aI cG];exact q
theorem wk(p q:Pr):mI (PJ p) (PJ q)=(p==q):=by
 let⟨a,b⟩:=p;let⟨c,d⟩:=q;simp only[PJ,mI,uJ,Bool.and_true];rfl
theorem wf(n:Nat)(p:Pr):kX (n+1) (PJ p):=#[by simp,λd hd=>by
 simp only[bG,gJ,or_false]at hd;rcases hd with rfl |rfl<;>(cases n<;>trivial)]
theorem uk{p:Pr}(h:eE H (PJ p) v):∃a,v=.ref a/\H a=some (.tup [.int p.1,.int p.2]):=by
 let⟨a,vs,c,d,e,r1,f,h1,g,i,j,h2,b⟩:=h;let h1:e=.int p.1:=h1;let h2:g=.int p.2:=h2;let b:i=[]:=b;subst b j f h1 h2;exact#[a,c,d]
theorem nrAt{r:xK}(h:eE H (ox r) v):∃a l b us,v=.ref a/\H a=some (.tup [.ref l,.ref b])/\H l=some (.lst us)/\bN H (r.1.map PJ) us/\H b=some (.tup [.int r.2.1,.int r.2.2]):=by
 let⟨a,vs,d,e,p,r1,f,⟨l,us,g,i,j⟩,q,k,m,h2,c⟩:=h;let⟨b,n,o⟩:=uk h2;let c:k=[]:=c;subst c m f g n;exact#[a,l,b,us,d,e,i,j,o]
theorem ud{ls:List Ln}{k:Nat}{r:Int}{ps:List Int}(h:l.as=[.n r,.ps ps]):jY aX ls k l=if 0<=r/\r<aX.length then(match aX[r.toNat]? with |some q=>(l.i,l.j)==q.2&&(ps.map λp=>xC ls k<|.n p)==q.1.map some |none=>false)else false:=by
 unfold jY;rw[h]<;>rfl
def qH(aE:List Rw):Prop:=∀(k:Nat)(i j:Int),aE[k]?=some (.bo i j)->(0<=i/\i<2*(k:Int))/\0<=j/\j<2*(k:Int)
def RowB(r:Rw)(n:Int):Prop:=∀i j,r=.bo i j->(0<=i/\i<n)/\0<=j/\j<n
abbrev s_l:Stmt:=qN (top 30) 0
theorem sc_l:bT ["self","many"] ["self","many"] (zF s_l):=by rfl'
abbrev s_e:Stmt:=qN (top 30) 1
theorem sc_e:bT ["self","i","j"] ["self","i","j"] (zF s_e):=by rfl'
abbrev s_F:Stmt:=qN (top 30) 2
theorem sc_F:bT ["self","i","j"] ["self","i","j"] (zF s_F):=by rfl'
abbrev s_s:Stmt:=qN (top 30) 3
theorem sc_s:bT ["self","i","j","why"] ["self","i","j","why"] (zF s_s):=by rfl'
abbrev s_E:Stmt:=top 7
theorem sc_E:bT ["mask","bits","rest","low"] ["mask"] (zF s_E):=by rfl'
abbrev nV(n:Nat):V:=.int (n:Int)
inductive sM (vs:List V) (H:Hp) (Q:VK) (E:XK):Prop
 |mk (m:Nat) (xs:List Nat) (_:vs=[.int m]) (_:rR m xs) (_:(∀x∈xs,x<300)) (_:∀p H',aW H H'->H p=none->H' p=some (.lst<|xs.map nV)->Q (.ref p) H')
theorem EF{m:Nat}{xs:List Nat}(h:rR m xs)(hx:∀x∈xs,x<300):xs.length<=300:=by
 have :∀(xs:List Nat)(b:Nat),xs.Pairwise (· < ·)->(∀x∈xs,b<=x/\x<300)->xs.length+b<=300\/xs=[]:=by
  intro xs
  induction xs with
  |nil=>intro b _ _;exact .inr rfl
  |cons x xs d=>
   intro b hp hb;let a:=ER.mp hp;let hx:=hb x bD;rcases d (x+1) a.2 (λy hy=>#[a.1 y hy,(hb y<|bB _ hy).2])with h |h
   ·left;rw[bJ];lia
   ·subst h;left;rw[bJ,oP];lia
 rcases this xs 0 h.1 (λx c=>#[bZ _,hx x c])with h |h
 ·lia
 ·subst h;simp
theorem GQ(bi:Bi mg)(F:gF K "bits_of" "bits_of" s_E f fd):dC P w K mg base fU 1 f fd ["mask"] sM:=by
 refine F.okz sc_E λeZ A outer s H vs Q E hr h=>?_
 let⟨m,xs,rfl,hb,hx,q⟩:=h;let u:=EF hb hx;calc#[_,have nd:=sc_E.nd;zC #[]<|zC #[]<|zC (BC bX (SU #[] λ_=>rfl)<|zC #[]<|zC (xA<|uN cY dU dS xQ #[]<|zG (jO TY (uq PySem.F.plainAttrs_int PySem.F.slot_int_bit_length PySem.F.type_int_bit_length JS #[]) zJ) zI)<|zH<|UY (i:=2) nd rfl (Or.inl rfl) #[] vq) #[],?_];refine zD λN a=>?_
 dsimp![];calc#[small (by simp),λp hp=>a _ _ ?_];clear a;refine zD λN a=>?_
 dsimp![];calc a _ _ ?_;clear a;let s1:=zB hp<|.lst [];let t:upd H p (.lst []) p=some (.lst<|(xs.take 0).map nV):=zA;generalize upd H p (.lst [])=H1 at s1 t⊢;refine zM (λσ H'=>∃(o1 o2:Option V),aW H H'/\H' p=some (.lst<|xs.map nV)/\σ=[some<|V.int m,some<|V.ref p,o1,o2]) (λN a=>?_) λσ H' h=>?_
 ·dsimp![FG];calc#[λk σ H'=>∃(i r:Nat)(o:Option V),k=xs.length-i/\i<=xs.length/\aW H H'/\H' p=some (.lst<|(xs.take i).map nV)/\rR r (xs.drop i)/\σ=[some<|V.int m,some<|V.ref p,some<|V.int r,o],#[_,0,m,_,rfl,bZ _,s1,t,hb,rfl],λk σ H' h=>?_];let⟨i,r,o,rfl,hi,s2,c,lL,rfl⟩:=h;dsimp![];calc#[_,rfl,?_];cases hd:xs.drop i with
  |nil=>
   rw[hd]at lL;let v:=lL.nil;subst v;rw[aI ()];let nO:xs.length<=i:=by
    have :=dE List.length hd;rw[eG,oP]at this;lia
   rw[aQ nO]at c;exact a _ _ #[_,_,s2,c,rfl]
  |cons x rest=>
   rw[hd]at lL;let d:r.testBit x=true:=by rw[lL.2];simp
   let⟨g,hl,j⟩:=lL.cons;rw[aL (by simp;lia)];let nO:i<xs.length:=by
    have :=dE List.length hd;rw[eG,bJ]at this;lia
   let l:xs[i]?=some x:=by
    have :=dE (·[0]?) hd;simpa using this
   let n:xs.drop (i+1)=rest:=by
    have :=dE (List.drop 1) hd;rw[tI]at this;simpa using this
   refine#[λσ' b=>∃(o:Option V),aW H b/\b p=some (.lst<|(xs.take<|i+1).map nV)/\σ'=[some<|V.int m,some<|V.ref p,some<|V.int ((r&&&(r-1):Nat):Int),o],λσ' b h=>?_,?_]
   ·let⟨o',y,z,rfl⟩:=h;exact#[xs.length-(i+1),(),i+1,rfl,(),y,z,_,by rw[n];exact j,_,rfl]
   let elow:Builtin.bitAnd (r:Int) (-(r:Int))=((2^x:Nat):Int):=by rw[ag g,hl]
   dsimp![RM,ay,KL];rw[elow,b9];calc#[.inl #[rfl,_,cX.of c],rfl,_,c,vU (by rw[aD,bF];lia),s2.upd hp,?_,d6 hl d,_,rfl];let e:(((x+1:Nat):Int)-1)=(x:Int):=by lia
   let⟨_,B⟩:=aC.mp l;rw[zA,e,aP nO,B,aT];rfl
 let⟨o1,o2,s2,c,rfl⟩:=h;dsimp![];exact q _ _ s2 hp c
def OW(as:List Wt):Prop:=as.length<=3/\∀ps,Wt.ps ps∈as->ps.length<=300
noncomputable def zK(ls:List Ln)(i j:Int):Bool:=ls.any λl=>l.i==i&&l.j==j
theorem fK{ls:List Ln}{i j:Int}:zK ls i j=true↔∃(p:Nat)(l:Ln),ls[p]?=some l/\l.i=i/\l.j=j:=by
 unfold zK;rw[dO];constructor
 ·rintro⟨l,hl,h⟩;rw[cD,cP,cP]at h;let⟨p,hp,e⟩:=dI hl;exact#[p,l,by rw[aA hp,e],h.1,h.2]
 ·rintro⟨p,l,hl,h1,h2⟩;exact#[l,aR hl,by rw[h1,h2];simp]
theorem vI(ls t:List Ln)(i j:Int):zK (ls++t) i j=(zK ls i j ||zK t i j):=by
 unfold zK;rw[List.any_append]
theorem JC(l:Ln)(i j:Int):zK [l] i j=(l.i==i&&l.j==j):=by
 unfold zK;simp
noncomputable def yU(i j:Int):List fC:=[.inl i,.inl j]
noncomputable def sU:List Ln->Nat->List (List fC×V)
 |[],_=>[]
 |l::ls,k=>(yU l.i l.j,.int k)::sU ls (k+1)
theorem KO:∀(ls:List Ln)(k:Nat),(sU ls k).length=ls.length
 |[],_=>rfl
 |l::ls,k=>by show(sU ls<|k+1).length+1=_;rw[KO ls<|k+1];rfl
theorem BG(l:Ln):∀(ls:List Ln)(k:Nat),sU (ls++[l]) k=sU ls k++[(yU l.i l.j,.int ((k+ls.length:Nat):Int))]
 |[],k=>rfl
 |l'::ls,k=>by
  show _::sU (ls++[l]) (k+1)=_;rw[BG l ls<|k+1,bJ];show _=_::_++_;rw[show k+1+ls.length=k+(ls.length+1) by lia];rfl
theorem aq{i j i' j':Int}(h:yU i j=yU i' j'):i=i'/\j=j':=by
 unfold yU at h;injection h with h1 h2
 injection h2 with h2 a
 exact#[tD h1,tD h2]
theorem YK{i j:Int}:∀(ls:List Ln)(k:Nat),(zK ls i j=false/\yB (sU ls k) (yU i j)=none)\/∃(p:Nat)(l:Ln),ls[p]?=some l/\l.i=i/\l.j=j/\yB (sU ls k) (yU i j)=some (.int ((k+p:Nat):Int))
 |[],k=>.inl #[rfl,rfl]
 |l::ls,k=>by
  by_cases h:l.i=i/\l.j=j
  ·calc .inr #[0,l,rfl,h.1,h.2,?_];show yB ((yU l.i l.j,V.int k)::sU ls (k+1)) (yU i j)=_;rw[h.1,h.2,jU rfl];rfl
  ·let e:yB (sU (l::ls) k) (yU i j)=yB (sU ls<|k+1) (yU i j):=jV λz=>h<|aq z;rcases YK ls (k+1)with⟨h1,h2⟩ |⟨p,l',h1,h2,a,b⟩
   ·left
    calc#[?_,by rw[e];calc h2];show((l.i==i&&l.j==j) ||zK ls i j)=false;rw[h1,AJ];rw[dY];intro z;rw[cD,cP,cP]at z;exact h z
   ·right
    calc#[p+1,l',h1,h2,a,?_];rw[e,b]
    congr 2
    lia
theorem kA{κ:Type} [DecidableEq κ] {kvs:List (κ×V)} {k:κ} (h:yB kvs k=none):jC kvs k v=kvs++[(k,v)]:=by
 unfold jC;rw[aI];intro z;let⟨x,hx,hk⟩:=dO.mp z;unfold yB at h;rw[rV,List.find?_eq_none]at h;exact h x hx hk
theorem SD{ls t:List Ln}{k:Nat}(h:k<=ls.length)(x:Wt):xC (ls++t) k x=xC ls k x:=by
 cases x with
 |ps l=>rfl
 |n i=>
  show(if 0<=i/\i<(k:Int)then((ls++t)[i.toNat]?).map λl=>(l.i,l.j)else none)=(if 0<=i/\i<(k:Int)then(ls[i.toNat]?).map λl=>(l.i,l.j)else none)
  by_cases hi:0<=i/\i<(k:Int)
  ·rw[aL hi,aL hi,aZ ()]
  ·rw[aI hi,aI hi]
theorem AU{ls t:List Ln}{k:Nat}(h:k<=ls.length):yZ aE aX (ls++t) k l=yZ aE aX ls k l:=by
 let e:xC (ls++t) k=xC ls k:=funext λx=>SD h x
 unfold yZ jY;rw[e]
theorem qW{ls:List Ln}{k:Nat}(h:yZ aE aX ls k l=true):(0<=l.i/\l.i<2*(aE.length:Int))/\0<=l.j/\l.j<2*(aE.length:Int):=by
 unfold yZ at h;split at h
 ·cases h
 ·rename_i hn
  simp only[not_or,Classical.not_not]at hn;exact hn
structure MS(aE:List Rw)(aX:List xK)(ls:List Ln):Prop where
 snd:∀(k:Nat)(l:Ln),ls[k]?=some l->yZ aE aX ls k l=true
 dis:∀(a b:Nat)(x y:Ln),ls[a]?=some x->ls[b]?=some y->x.i=y.i->x.j=y.j->a=b
 siz:∀l∈ls,OW l.as
theorem MS.put{ls:List Ln}(h:MS aE aX ls)(hn:zK ls l.i l.j=false)(hs:yZ aE aX ls ls.length l=true)(ho:OW l.as):MS aE aX (ls++[l]):=by
 let no:∀(a:Nat)(x:Ln),ls[a]?=some x->x.i=l.i->x.j=l.j->False:=λa x hx h1 h2=>by
  have :=fK.mpr #[a,x,hx,h1,h2];rw[hn]at this;cases this
 let sp:∀(a:Nat)(x:Ln),(ls++[l])[a]?=some x->ls[a]?=some x\/a=ls.length/\x=l:=λa x hx=>by
  by_cases ha:a<ls.length
  ·rw[aZ ha]at hx;exact .inl hx
  ·let f:=(aC.mp hx).1;rw[aH,cA]at f;let e:a=ls.length:=by lia
   subst e;rw[bI<|aG _,fJ]at hx;cases hx;exact .inr #[rfl,rfl]
 refine#[λk x hx=>?_,λa b x y hx hy h1 h2=>?_,λx hx=>?_]
 ·rcases sp k x hx with hx |⟨rfl,rfl⟩
  ·let hk:=(aC.mp hx).1;rw[AU ()];exact h.snd k x hx
  ·rw[AU<|aG _];exact hs
 ·rcases sp a x hx with d |⟨n,ex⟩
  ·rcases sp b y hy with c |⟨g,m⟩
   ·exact h.dis a b x y d c h1 h2
   ·rw[m]at h1 h2;exact(no a x d h1 h2).elim
  ·rcases sp b y hy with c |⟨g,m⟩
   ·rw[ex]at h1 h2;exact(no b y c h1.symm h2.symm).elim
   ·rw[n,g]
 ·rcases bE.mp hx with hx |hx
  ·exact h.siz x hx
  ·rw[aS.mp hx];exact ho
theorem wL:∀{l m:List Int},l.Nodup->(∀x∈l,x∈m)->l.length<=m.length
 |[],m,_,_=>bZ _
 |x::l,m,hn,hs=>by
  let hx:x∈m:=hs x bD;let a:=iR.mp hn;have :=wL (l:=l) (m:=m.erase x) a.2 λy hy=>by
   let b:=hs y<|bB _ hy;let mO:y≠x:=λe=>a.1 (by rw[←e];calc hy)
   exact(List.mem_erase_of_ne mO).mpr b
  rw[List.length_erase_of_mem hx]at this;have :=rY hx;rw[bJ];lia
theorem MS.len{ls:List Ln}(h:MS aE aX ls):ls.length<=(2*aE.length)*(2*aE.length):=by
 let hr:∀l∈ls,(0<=l.i/\l.i<2*(aE.length:Int))/\0<=l.j/\l.j<2*(aE.length:Int):=λl hl=>by
  let⟨p,hp,e⟩:=dI hl;exact qW (h.snd p l (by rw[aA hp,e]))
 generalize hn:2*aE.length=n;let c:2*(aE.length:Int)=(n:Int):=by lia
 rw[c]at hr;have :=wL (l:=ls.map λl=>l.i*n+l.j) (m:=(List.range<|n*n).map λi:Nat=>(i:Int)) ?_ λx hx=>?_
 ·rwa[aD,aD,dG]at this
 ·refine dQ.mpr λa b ha hb f e=>?_
  rw[aD]at ha hb;rw[List.getElem_map,List.getElem_map]at e;let r1:=hr _<|cO ha;let d:=hr _<|cO hb;let hi:ls[a].i=ls[b].i:=by
   let g:(ls[a].i*n+ls[a].j)/n=ls[a].i:=by
    rw[Int.add_comm,Int.add_mul_ediv_right _ _ (),Int.ediv_eq_zero_of_lt r1.2.1 r1.2.2,pE]
   let k:(ls[b].i*n+ls[b].j)/n=ls[b].i:=by
    rw[Int.add_comm,Int.add_mul_ediv_right _ _ (),Int.ediv_eq_zero_of_lt d.2.1 d.2.2,pE]
   rw[←g,e,k]
  let o:ls[a].j=ls[b].j:=by rw[hi]at e;lia
  have :=h.dis a b _ _ (aA ha) (aA hb) hi o;lia
 ·let⟨l,hl,rfl⟩:=bV.mp hx;let r1:=hr l hl;let b1:l.i*n+l.j<n*n:=by
   have :l.i*n<=(n-1)*n:=Int.mul_le_mul_of_nonneg_right () ();rw[Int.sub_mul,Int.one_mul]at this;lia
  let b0:0<=l.i*n:=Int.mul_nonneg r1.1.1 ();rw[bV];exact#[(l.i*n+l.j).toNat,by rw[bL];lia,()]
structure MkA(n:Nat)(hp:Nat->Nat->Bool)(as:List Nat):Prop where
 len:as.length=n
 bit:∀(a c:Nat),as[a]?=some c->∀b,c.testBit b=hp a b
theorem MkA.put{a b c:Nat}{hp hp':Nat->Nat->Bool}{as:List Nat}(h:MkA n hp as)(hc:as[a]?=some c)(e:∀x y,hp' x y=(hp x y ||(x==a&&y==b))):MkA n hp' (as.set a<|c|||2^b):=by
 let la:=(aC.mp hc).1;calc#[by rw[lW];exact h.len,λx d hx y=>?_];rw[e];by_cases ex:a=x
 ·subst ex;rw[iO la]at hx;cases hx;rw[tE,h.bit a c hc,lM];simp only[dN,nZ]
  congr 1
  rw[bY,bH,cP];exact eq_comm
 ·rw[hJ ex]at hx;have :(x==a)=false:=cR.mpr<|cE ex;rw[h.bit x d hx,this,fS,AJ]
structure pH where
 r:Addr
 la:Addr
 pa:Addr
 aa:Addr
 ba:Addr
noncomputable def sF(g:pH):List (Str×V):=[("lines",.ref g.la),("places",.ref g.pa),("above",.ref g.aa),("below",.ref g.ba)]
structure PP(K:W.Frag)(C:Addr):Prop where
 cl:MT K C
 nL:lP K C "lines"
 nP:lP K C "places"
 nA:lP K C "above"
 nB:lP K C "below"
theorem OL(g:pH):(sF g).lookup ("lines":Str)=some (.ref g.la):=by
 unfold sF;rw[bQ,show(("lines":Str)=="lines")=true by decide+kernel]
theorem v7(g:pH):(sF g).lookup ("places":Str)=some (.ref g.pa):=by
 unfold sF;rw[bQ,show(("places":Str)=="lines")=false by decide+kernel,bQ,show(("places":Str)=="places")=true by decide+kernel]
theorem a9(g:pH):(sF g).lookup ("above":Str)=some (.ref g.aa):=by
 unfold sF;rw[bQ,show(("above":Str)=="lines")=false by decide+kernel,bQ,show(("above":Str)=="places")=false by decide+kernel,bQ,show(("above":Str)=="above")=true by decide+kernel]
theorem v8(g:pH):(sF g).lookup ("below":Str)=some (.ref g.ba):=by
 unfold sF;rw[bQ,show(("below":Str)=="lines")=false by decide+kernel,bQ,show(("below":Str)=="places")=false by decide+kernel,bQ,show(("below":Str)=="above")=false by decide+kernel,bQ,show(("below":Str)=="below")=true by decide+kernel]
theorem qO(g:pH){x:Str}(h1:(x==("lines":Str))=false)(h2:(x==("places":Str))=false)(h3:(x==("above":Str))=false)(h4:(x==("below":Str))=false):(sF g).lookup x=none:=by
 unfold sF;rw[bQ,h1,bQ,h2,bQ,h3,bQ,h4];rfl
structure mB(C:Addr)(H:Hp)(g:pH)(aE:List Rw)(aX:List xK)(ls:List Ln):Prop where
 ins:∃dx,H g.r=some (.ins C dx<|sF g)
 lin:∃ws,H g.la=some (.lst ws)/\uB H ls ws
 plc:H g.pa=some (.dT<|sU ls 0)
 abv:∃as,H g.aa=some (.lst<|as.map nV)/\MkA (2*aE.length) (λa b=>zK ls a b) as
 blw:∃as,H g.ba=some (.lst<|as.map nV)/\MkA (2*aE.length) (λa b=>zK ls b a) as
 ne:g.la≠g.aa/\g.la≠g.ba/\g.aa≠g.ba
 ok:MS aE aX ls
def gL(g:pH)(H H':Hp):Prop:=∀b o,H b=some o->b≠g.la->b≠g.pa->b≠g.aa->b≠g.ba->H' b=some o
theorem gL.trans{g:pH}{H1 H2:Hp}(a:gL g H H1)(b:gL g H1 H2):gL g H H2:=λc o h d e f i=>b c o (a c o h d e f i) d e f i
theorem aW.g{g:pH}(a:aW H H'):gL g H H':=λc o h _ _ _ _=>a c o h
theorem mB.same{C:Addr}{g:pH}{ls:List Ln}(e:aW H H')(h:mB C H g aE aX ls):mB C H' g aE aX ls:=by
 let⟨⟨dx,h1⟩,⟨ws,h2,b⟩,c,⟨as,d,f⟩,⟨bs,i,j⟩,k,a⟩:=h;exact#[#[dx,e _ _ h1],#[ws,e _ _ h2,bN.same e b],e _ _ c,#[as,e _ _ d,f],#[bs,e _ _ i,j],k,a]
theorem mB.tups{C:Addr}{g:pH}{ls:List Ln}(h:mB C H g aE aX ls)(e:gL g H H'):dB H H':=λb xs hb=>by
 let⟨ws,h2,_⟩:=h.lin;let⟨as,a,_⟩:=h.abv;let⟨bs,c,_⟩:=h.blw;exact e b _ hb (jI hb h2 (by intro z;cases z)) (jI hb h.plc (by intro z;cases z)) (jI hb a (by intro z;cases z)) (jI hb c (by intro z;cases z))
theorem uj{ps:List Int}(h:eE H (dWt<|.ps ps) v):∃a,v=.ref a/\H a=some (.tup<|ps.map V.int):=by
 let⟨a,us,c,b,d⟩:=h;let go:∀{ps:List Int}{us:List V},bN H (ps.map Dt.int) us->us=ps.map V.int:=λ{ps}=>by
  induction ps with
  |nil=>exact λh=>h
  |cons n ns e=>
   intro us h;let⟨v,r,c,b,d⟩:=h;let b:v=.int n:=b;rw[c,b,e d];rfl
 rw[go d]at b;exact#[a,c,b]
theorem xc{ps:List Int}(h:H a=some (.tup<|ps.map V.int)):eE H (dWt<|.ps ps) (.ref a):=by
 calc#[a,_,rfl,h,?_];clear h
 induction ps with
 |nil=>rfl
 |cons n ns b=>exact#[_,_,rfl,rfl,b]
theorem PX{x:Str}{as:List Wt}(h:eE H (ZL x as) v):∃a us,v=.ref a/\H a=some (.tup (.str x::us))/\UA H as us:=by
 let⟨a,vs,b,c,u,r,d,h1,h2⟩:=h;let h1:u=.str x:=h1;subst h1 d;exact#[a,r,b,c,h2]
theorem ai(h:eE H (MG l) v):∃a u,v=.ref a/\H a=some (.tup [.int l.i,.int l.j,u])/\eE H (ZL l.w l.as) u:=by
 let⟨a,vs,e,f,g,r1,rfl,b,k,p,rfl,c,m,n,rfl,o,d⟩:=h;let b:g=.int l.i:=b;let c:k=.int l.j:=c;let d:n=[]:=d;subst b c d;exact#[a,m,e,f,o]
theorem xf{i j:Int}{x:Str}{as:List Wt}{u:V}(h:H a=some (.tup [.int i,.int j,u]))(hu:eE H (ZL x as) u):eE H (MG #[i,j,x,as]) (.ref a):=
 #[a,_,rfl,h,_,_,rfl,rfl,_,_,rfl,rfl,_,_,rfl,hu,rfl]
theorem YW{H H':Hp}(e:dB H H'):∀{as:List Wt}{us:List V},UA H as us->UA H' as us
 |[],us,h=>h
 | .n i::as,us,h=>by
   let⟨v,r,b,c,d⟩:=h;exact#[v,r,b,c,YW e d]
 | .ps l::as,us,h=>by
   let⟨v,r,b,c,d⟩:=h;let⟨a,rfl,f⟩:=uj c;exact#[_,r,b,xc<|e _ _ f,YW e d]
theorem AK(e:dB H H'){x:Str}{as:List Wt}(h:eE H (ZL x as) v):eE H' (ZL x as) v:=by
 let⟨b,us,rfl,a,c⟩:=PX h;exact#[b,_,rfl,e _ _ a,_,_,rfl,rfl,YW e c]
theorem jn(e:dB H H')(h:eE H (MG l) v):eE H' (MG l) v:=by
 let⟨a,u,rfl,h1,h2⟩:=ai h;exact xf (e _ _ h1)<|AK e h2
theorem vD{H H':Hp}(e:dB H H'):∀{ls:List Ln}{us:List V},uB H ls us->uB H' ls us
 |[],us,h=>h
 |l::ls,us,h=>by
  let⟨v,r,a,b,c⟩:=h;exact#[v,r,a,jn e b,vD e c]
theorem YR{p:Nat}(h:p<n):av n (p:Int)=some p:=by
 unfold av;rw[aL (),aL (),bS]
inductive NF (C:Addr) (vs:List V) (H:Hp) (Q:VK) (E:XK):Prop
 |mk (g:pH) (aE:List Rw) (aX:List xK) (ls:List Ln) (i j:Int) (_:vs=[.ref g.r,.int i,.int j]) (_:mB C H g aE aX ls) (_:zK ls i j=true) (_:∀(p:Nat)(l:Ln) H',aW H H'->ls[p]?=some l->l.i=i->l.j=j->Q (.int p) H')
inductive fq (C:Addr) (vs:List V) (H:Hp) (Q:VK) (E:XK):Prop
 |mk (g:pH) (aE:List Rw) (aX:List xK) (ls:List Ln) (i j:Int) (_:vs=[.ref g.r,.int i,.int j]) (_:mB C H g aE aX ls) (_:∀H',aW H H'->Q (.bl<|zK ls i j) H')
def GrTo(C:Addr)(H:Hp)(g:pH)(aE:List Rw)(aX:List xK)(ls:List Ln)(H':Hp):Prop:=gL g H H'/\∃t,mB C H' g aE aX<|ls++t
def mM(C:Addr)(H:Hp)(g:pH)(aE:List Rw)(aX:List xK)(ls:List Ln)(R:List Ln->Prop)(H':Hp):Prop:=gL g H H'/\∃t,mB C H' g aE aX (ls++t)/\R (ls++t)
inductive tM (C:Addr) (vs:List V) (H:Hp) (Q:VK) (E:XK):Prop
 |mk (g:pH) (aE:List Rw) (aX:List xK) (ls:List Ln) (i j:Nat) (wv:V) (x:Str) (as:List Wt) (_:vs=[.ref g.r,.int i,.int j,wv]) (_:mB C H g aE aX ls) (_:aE.length<=100) (_:eE H (ZL x as) wv) (_:yZ aE aX ls ls.length #[i,j,x,as]=true) (_:OW as) (_:∀H',mM C H g aE aX ls (λL=>zK L i j=true) H'->Q .non H')
theorem GK{C:Addr}(T:PP K C)(F:gF K "line_of" "Growth.line_of" s_e f fd):dC P w K mg base fU 1 f fd ["self","i","j"] (NF C):=by
 refine F.okz sc_e λeZ A outer s H vs Q E hr h=>?_
 let⟨g,aE,aX,ls,i,j,rfl,a,c,q⟩:=h;let⟨dx,hi⟩:=a.ins;calc#[_,have nd:=sc_e.nd;zH<|zP<|YN (xO hr) #[] #[] λ_ _=>rfl,?_];dsimp![xS];calc#[C,dx,_,hi,T.cl,T.nP,_,v7 g,small (by simp),λp hp=>?_];let s1:=zB hp<|.tup [.int i,.int j];rcases YK (i:=i) (j:=j) ls 0 with⟨h1,_⟩ |⟨d,l,h1,h2,e,b⟩
 ·rw[c]at h1;cases h1
 rw[gG]at b;exact#[g.pa,rfl,_,.inr #[_,yU i j,p,.inl<|s1 _ _ a.plc,rfl,zA,b.symm],q d l _ s1 h1 h2 e]
theorem u6{C:Addr}(T:PP K C)(F:gF K "has" "Growth.has" s_F f fd):dC P w K mg base fU 1 f fd ["self","i","j"] (fq C):=by
 refine F.okz sc_F λeZ A outer s H vs Q E hr h=>?_
 let⟨g,aE,aX,ls,i,j,rfl,a,q⟩:=h;let⟨dx,hi⟩:=a.ins;calc#[_,have nd:=sc_F.nd;zH<|zP<|uo (XM (xO hr) #[] #[]) (by with_unfolding_all rfl),?_];dsimp![xS,NC];calc#[small (by simp),λp hp=>?_];let s1:=zB hp<|.tup [.int i,.int j];calc#[C,dx,_,s1 _ _ hi,T.cl,T.nP,_,v7 g,g.pa,rfl,_,.inr #[_,yU i j,p,.inl<|s1 _ _ a.plc,rfl,zA,rfl],?_];let e:(yB (sU ls 0)<|yU i j).isSome=zK ls i j:=by
  rcases YK (i:=i) (j:=j) ls 0 with⟨h1,h2⟩ |⟨b,l,h1,h2,c,d⟩
  ·rw[h1,h2];rfl
  ·rw[d,fK.mpr #[b,l,h1,h2,c]];rfl
 rw[e];exact q _ s1
theorem i4{C:Addr}(T:PP K C)(bi:Bi mg)(h_F:mK P w K mg base 1 C "has" ["self","i","j"] (fq C))(F:gF K "grow" "Growth.grow" s_s f fd):dC P w K mg base fU 2 f fd ["self","i","j","why"] (tM C):=by
 refine F.okz sc_s λeZ A outer s H vs Q E hr h=>?_
 let⟨g,aE,aX,ls,i,j,wv,x,as,rfl,G,h30,W,Y,how,q⟩:=h;let gI:=T.cl;let⟨dx,hi⟩:=G.ins;let eR:=G.ok.len;let O:ls.length<=40000:=by
  have :2*aE.length*(2*aE.length)<=200*200:=Nat.mul_le_mul () ();lia
 let⟨⟨i0,i1⟩,j0,j1⟩:=qW Y;let i1:(i:Int)<2*(aE.length:Int):=i1;let j1:(j:Int)<2*(aE.length:Int):=j1;calc#[_,have nd:=sc_s.nd;zC #[]<|zC (UX (xO hr) #[] #[] #[] rfl)<|zC #[]<|zC (YJ #[] #[] kM #[] DF wW)<|zH<|YJ #[] #[] kM #[] DF wW,?_];refine zD λN u=>?_
 dsimp![yJ];calc#[_,_,hi,qO g () () () (),?_];calc#[g,aE,aX,ls,i,j,rfl,G,λH1 s1=>#[_,rfl,?_]];cases hb:zK ls i j with
 |true=>
  rw[aL rfl];exact q _ #[aW.g s1,[],by rw[cK];calc#[G.same s1,hb]]
 |false=>
  rw[aI cG];calc u _ _ ?_;clear u;replace G:=G.same s1;replace hi:=s1 _ _ hi;replace W:=eE.same s1 W;let h4':=G.plc;let⟨⟨_,_⟩,⟨ws,h2,Z⟩,d,⟨bs,k,h6⟩,⟨cs,e,h8⟩,⟨n1,n2,n3⟩,h10⟩:=G;let hwl:=jM Z;let hpar:g.pa≠g.r:=jI d hi (by intro z;cases z);let hlar:g.la≠g.r:=jI h2 hi (by intro z;cases z);let haar:g.aa≠g.r:=jI k hi (by intro z;cases z);let hbar:g.ba≠g.r:=jI e hi (by intro z;cases z);let I:g.pa≠g.la:=jI d h2 (by intro z;cases z);let J:g.pa≠g.aa:=jI d k (by intro z;cases z);let L:g.pa≠g.ba:=jI d e (by intro z;cases z);refine zD λN u=>?_
  dsimp![xS,IY];let sz:∀{n:Nat},n<=40000->n<sizeLine:=λh=>fN (m:=100000) () ()
  calc#[C,dx,_,hi,T.cl,T.nL,_,OL g,ws.length,.inl #[_,cX.of h2,rfl],C,dx,_,hi,T.cl,T.nP,_,v7 g,small (by simp),λp hp=>?_];let s2:=zB hp<|.tup [.int (i:Int),.int (j:Int)];let kp:upd H1 p (.tup [.int (i:Int),.int (j:Int)]) p=some (.tup [.int (i:Int),.int (j:Int)]):=zA;generalize upd H1 p (.tup [.int (i:Int),.int (j:Int)])=H2 at s2 kp⊢;calc#[g.pa,rfl,_,.inr #[_,yU i j,p,s2 _ _ d,rfl,kp,by rw[KO];exact sz O,rfl],u _ _ ?_];clear u;let vn:yB (sU ls 0) (yU i j)=none:=by
   rcases YK (i:=i) (j:=j) ls 0 with⟨_,h⟩ |⟨p',l,g1,g2,D,_⟩
   ·exact h
   ·have :=fK.mpr #[p',l,g1,g2,D];rw[hb]at this;cases this
  rw[kA vn];let ep:sU ls 0++[(yU i j,V.int (ws.length:Int))]=sU (ls++[#[i,j,x,as]]) 0:=by rw[BG,gG,hwl]
  rw[ep];let D:gL g H1 (upd H2 g.pa<|.dT<|sU (ls++[#[i,j,x,as]]) 0):=λb o hb _ n _ _=>by rw[zE n];exact s2 _ _ hb
  let c:∀{b:Addr}{o:HO},H1 b=some o->b≠g.pa->upd H2 g.pa (.dT<|sU (ls++[#[i,j,x,as]]) 0) b=some o:=λhb n=>by rw[zE n];exact s2 _ _ hb
  replace hi:=c hi<|cE hpar;replace h2:=c h2<|cE I;replace k:=c k<|cE J;replace e:=c e<|cE L;clear c;replace d:upd H2 g.pa (.dT<|sU (ls++[#[i,j,x,as]]) 0) g.pa=some (.dT<|sU (ls++[#[i,j,x,as]]) 0):=zA;let t:dB H1 (upd H2 g.pa<|.dT<|sU (ls++[#[i,j,x,as]]) 0):=λb xs hb=>by
   let hb2:=s2 _ _ hb;rw[zE<|jI hb h4' (by intro z;cases z)];exact hb2
  generalize upd H2 g.pa (.dT<|sU (ls++[#[i,j,x,as]]) 0)=H3 at D hi h2 k e d t⊢;replace Z:=vD t Z;replace W:=AK t W;clear kp s2 hp vn ep t;refine zD λN u=>?_
  dsimp![xS];calc#[C,dx,_,hi,T.cl,T.nL,_,OL g,.inl #[rfl,_,cX.of h2],small (by simp),λpt hpt=>?_];let s2:=zB hpt<|.tup [.int (i:Int),.int (j:Int),wv];let kt:upd H3 pt (.tup [.int (i:Int),.int (j:Int),wv]) pt=some (.tup [.int (i:Int),.int (j:Int),wv]):=zA;generalize upd H3 pt (.tup [.int (i:Int),.int (j:Int),wv])=R at s2 kt⊢;calc#[g.la,rfl,_,s2 _ _ h2,sz (),u _ _ ?_];clear u;let c:∀{b:Addr}{o:HO},H3 b=some o->b≠g.la->upd R g.la (.lst<|ws++[.ref pt]) b=some o:=λhb n=>by rw[zE n];exact s2 _ _ hb
  let S:gL g H3 (upd R g.la<|.lst<|ws++[.ref pt]):=λb o hb n _ _ _=>c hb n
  let t:dB R (upd R g.la<|.lst<|ws++[.ref pt]):=(dB.refl _).upd_lst (s2 _ _ h2);let y:uB (upd R g.la<|.lst<|ws++[.ref pt]) (ls++[#[i,j,x,as]]) (ws++[.ref pt]):=by
   calc vD t ?_;unfold uB;rw[aT];exact bN.append (bN.same s2 Z)<|bN.one<|xf kt<|eE.same s2 W
  replace hi:=c hi<|cE hlar;replace d:=c d I;replace k:=c k<|cE n1;replace e:=c e<|cE n2;let B:upd R g.la (.lst<|ws++[.ref pt]) g.la=some (.lst<|ws++[.ref pt]):=zA;replace D:=D.trans S;generalize upd R g.la (.lst<|ws++[.ref pt])=M at D hi d k e B y⊢;clear c S t kt s2 hpt h2 Z W;let li:i<bs.length:=by rw[h6.len];lia
  let lj:j<cs.length:=by rw[h8.len];lia
  let gi:=aA li;let gj:=aA lj;generalize bs[i]=U at gi;generalize cs[j]=cj at gj;let mset:∀(cs:List Nat)(i v:Nat),(cs.map nV).set i (V.int (v:Int))=(cs.set i v).map nV:=λcs i v=>(List.map_set (f:=nV) (l:=cs) (i:=i) (a:=v)).symm
  refine zD λN u=>?_
  dsimp![IU,xS,KI,ay,KH];calc#[C,dx,_,hi,T.cl,T.nA,_,a9 g,g.aa,rfl,_,i,rfl,k,nV U,by rw[aJ,gi];rfl,#[(),(),()],_,rfl,g.aa,rfl,_,k,i,YR (by rw[aD];calc li),u _ _ ?_];clear u;rw[uE j,kG,mset];let bc:∀a b:Nat,(((a:Nat):Int)==((b:Nat):Int))=(b==a):=λa b=>by
   rw[bY,cP,cP];lia
  let c:∀{b:Addr}{o:HO},M b=some o->b≠g.aa->upd M g.aa (.lst<|(bs.set i<|U|||2^j).map nV) b=some o:=λhb n=>by rw[zE n];exact hb
  let S:gL g M (upd M g.aa<|.lst<|(bs.set i<|U|||2^j).map nV):=λb o hb _ _ n _=>c hb n
  let t:dB M (upd M g.aa<|.lst<|(bs.set i<|U|||2^j).map nV):=(dB.refl _).upd_lst k;replace y:=vD t y;replace hi:=c hi<|cE haar;replace d:=c d J;replace B:=c B n1;replace e:=c e<|cE n3;let h5':upd M g.aa (.lst<|(bs.set i<|U|||2^j).map nV) g.aa=some (.lst<|(bs.set i<|U|||2^j).map nV):=zA;replace D:=D.trans S;generalize upd M g.aa (.lst<|(bs.set i<|U|||2^j).map nV)=X at D hi d h5' e B y⊢;clear c S t k;dsimp![IU,xS,KI,ay,KH];calc#[C,dx,_,hi,T.cl,T.nB,_,v8 g,g.ba,rfl,_,j,rfl,e,nV cj,by rw[aJ,gj];rfl,#[(),(),()],_,rfl,g.ba,rfl,_,e,j,YR (by rw[aD];calc lj),?_];rw[uE i,kG,mset];let c:∀{b:Addr}{o:HO},X b=some o->b≠g.ba->upd X g.ba (.lst<|(cs.set j<|cj|||2^i).map nV) b=some o:=λhb n=>by rw[zE n];exact hb
  let S:gL g X (upd X g.ba<|.lst<|(cs.set j<|cj|||2^i).map nV):=λb o hb _ _ _ n=>c hb n
  let t:dB X (upd X g.ba<|.lst<|(cs.set j<|cj|||2^i).map nV):=(dB.refl _).upd_lst e;refine q _ #[((aW.g s1).trans D).trans S,[#[i,j,x,as]],#[#[#[dx,c hi<|cE hbar],#[_,c B n2,vD t y],c d L,#[_,c h5' n3,h6.put gi λa b=>?_],#[_,zA,h8.put gj λa b=>?_],#[n1,n2,n3],h10.put hb Y how],by show zK (ls++[#[i,j,x,as]]) i j=true;rw[vI,JC];simp]]
  ·rw[vI,JC];show(zK ls a b ||(((i:Nat):Int)==((a:Nat):Int)&&((j:Nat):Int)==((b:Nat):Int)))=_;rw[bc,bc]
  ·rw[vI,JC];show(zK ls b a ||(((i:Nat):Int)==((b:Nat):Int)&&((j:Nat):Int)==((a:Nat):Int)))=_;rw[bc,bc,Bool.and_comm]
theorem XH(m:Nat):(List.replicate m [V.int 0]).flatten=(List.replicate m 0).map nV:=by
 induction m with
 |zero=>rfl
 |succ m a=>
  rw[gA,mT,a,gA,cI];rfl
theorem WX(n:Nat)(hp:Nat->Nat->Bool)(h:∀a b,hp a b=false):MkA n hp (List.replicate n 0):=#[sR ..,λa c hc b=>by
 let⟨_,e⟩:=aC.mp hc;rw[List.getElem_replicate]at e;subst e;rw[h];simp]
inductive q9 (C:Addr) (vs:List V) (H:Hp) (Q:VK) (E:XK):Prop
 |mk (r dx:Addr) (aE:List Rw) (aX:List xK) (_:vs=[.ref r,.int ((2*aE.length:Nat):Int)]) (_:H r=some (.ins C dx [])) (_:aE.length<=100) (_:∀(g:pH) H',g.r=r->hW r H H'->H g.la=none->H g.pa=none->H g.aa=none->H g.ba=none->mB C H' g aE aX []->Q .non H')
theorem yX{r l:Addr}{o:HO}(e:hW r H H')(h:H l=none):hW r H (upd H' l o):=λb u hb n=>by
 have :b≠l:=λz=>by rw[z,h]at hb;cases hb
 rw[zE this];exact e b u hb n
theorem jX{r l:Addr}(e:hW r H H')(h:H' l=none)(n:l≠r):H l=none:=by
 cases hl:H l with
 |none=>rfl
 |some o=>have :=e l o hl n;rw[h]at this;cases this
theorem WL{C:Addr}(T:PP K C)(F:gF K "__init__" "Growth.__init__" s_l f fd):dC P w K mg base fU 1 f fd ["self","many"] (q9 C):=by
 refine F.okz sc_l λeZ A outer s H vs Q E hr h=>?_
 let⟨r,dx,aE,aX,rfl,lL,h30,q⟩:=h;generalize hn:2*aE.length=n at q;let n60:n<=200:=by lia
 let step:∀{H':Hp}{b:Addr}{u:HO},H' r=some u->H' b=none->b≠r:=λh1 h2 z=>by rw[z,h1]at h2;cases h2
 calc#[_,have nd:=sc_l.nd;zC (ZB #[] #[] rfl)<|zC (ZB #[] BL rfl)<|zC (ZB #[] (jO GA #[] #[]) rfl)<|zH<|ZB #[] (jO GA #[] #[]) rfl,?_];refine zD λN o=>?_
 dsimp![FQ];calc#[small (by simp),λla B=>?_];let nla:=step lL B;calc#[C,dx,[],by rw[zE<|cE nla];exact lL,T.cl,T.nL,(),o _ _ ?_];clear o;let x1:hW r H (upd (upd H la<|.lst []) r<|.ins C dx<|yP "lines" (.ref la) []):=hW.upd<|yX (hW.refl r H) B;let k1:upd (upd H la<|.lst []) r (.ins C dx<|yP "lines" (.ref la) []) r=some (.ins C dx<|yP "lines" (.ref la) []):=zA;let l1:upd (upd H la<|.lst []) r (.ins C dx<|yP "lines" (.ref la) []) la=some (.lst []):=by rw[zE nla];exact zA
 generalize upd (upd H la<|.lst []) r (.ins C dx<|yP "lines" (.ref la) [])=H1 at x1 k1 l1⊢;refine zD λN o=>?_
 dsimp![FQ,FH];refine λpa j=>?_
 let npa:=step k1 j;let p:=jX x1 j npa;calc#[C,dx,_,by rw[zE<|cE npa];exact k1,T.cl,T.nP,by show 1<1000;decide,o _ _ ?_];clear o;let npl:pa≠la:=λz=>by rw[z,l1]at j;cases j
 let x2:hW r H (upd (upd H1 pa<|.dT []) r<|.ins C dx<|yP "places" (.ref pa)<|yP "lines" (.ref la) []):=hW.upd<|yX x1 p;let S:upd (upd H1 pa<|.dT []) r (.ins C dx<|yP "places" (.ref pa)<|yP "lines" (.ref la) []) r=some (.ins C dx<|yP "places" (.ref pa)<|yP "lines" (.ref la) []):=zA;let U:upd (upd H1 pa<|.dT []) r (.ins C dx<|yP "places" (.ref pa)<|yP "lines" (.ref la) []) la=some (.lst []):=by rw[zE nla,zE<|cE npl];exact l1
 let p2:upd (upd H1 pa<|.dT []) r (.ins C dx<|yP "places" (.ref pa)<|yP "lines" (.ref la) []) pa=some (.dT []):=by rw[zE npa];exact zA
 generalize upd (upd H1 pa<|.dT []) r (.ins C dx<|yP "places" (.ref pa)<|yP "lines" (.ref la) [])=H2 at x2 S U p2⊢;refine zD λN o=>?_
 dsimp![FQ,gc];calc#[small (by simp),λm i=>#[[V.int 0],zA,(),(),small (by simp;lia),λaa d=>?_]];let D:=step S i;let G:aa≠m:=λz=>by rw[z,zA]at d;cases d
 rw[zE G]at d;let naa:=step S d;calc#[C,dx,_,by rw[zE<|cE naa,zE<|cE D];exact S,T.cl,T.nA,by show 2<1000;decide,o _ _ ?_];clear o;rw[bS,XH];let nal:aa≠la:=λz=>by rw[z,U]at d;cases d
 let nap:aa≠pa:=λz=>by rw[z,p2]at d;cases d
 let n0l:m≠la:=λz=>by rw[z,U]at i;cases i
 let n0p:m≠pa:=λz=>by rw[z,p2]at i;cases i
 let t:=jX x2 d naa;let I:=jX x2 i D;generalize J:yP "above" (V.ref aa) (yP "places" (V.ref pa)<|yP "lines" (V.ref la) [])=g;let W:hW r H (upd (upd (upd H2 m<|.lst [.int 0]) aa<|.lst<|(List.replicate n 0).map nV) r<|.ins C dx g):=hW.upd<|yX (yX x2 I) t;let X:upd (upd (upd H2 m<|.lst [.int 0]) aa<|.lst<|(List.replicate n 0).map nV) r (.ins C dx g) r=some (.ins C dx g):=zA;let Y:upd (upd (upd H2 m<|.lst [.int 0]) aa<|.lst<|(List.replicate n 0).map nV) r (.ins C dx g) la=some (.lst []):=by rw[zE nla,zE<|cE nal,zE<|cE n0l];exact U
 let Z:upd (upd (upd H2 m<|.lst [.int 0]) aa<|.lst<|(List.replicate n 0).map nV) r (.ins C dx g) pa=some (.dT []):=by rw[zE npa,zE<|cE nap,zE<|cE n0p];exact p2
 let a3:upd (upd (upd H2 m<|.lst [.int 0]) aa<|.lst<|(List.replicate n 0).map nV) r (.ins C dx g) aa=some (.lst<|(List.replicate n 0).map nV):=by rw[zE naa];exact zA
 generalize upd (upd (upd H2 m<|.lst [.int 0]) aa<|.lst<|(List.replicate n 0).map nV) r (.ins C dx g)=H3 at W X Y Z a3⊢;dsimp![FQ,gc];calc#[small (by simp),λq0 e=>#[[V.int 0],zA,(),(),small (by simp;lia),λba c=>?_]];let L:=step X e;let M:ba≠q0:=λz=>by rw[z,zA]at c;cases c
 rw[zE M]at c;let nba:=step X c;calc#[C,dx,_,by rw[zE<|cE nba,zE<|cE L];exact X,T.cl,T.nB,by rw[←J];show 3<1000;decide,?_];rw[bS,XH];let nbl:ba≠la:=λz=>by rw[z,Y]at c;cases c
 let nbp:ba≠pa:=λz=>by rw[z,Z]at c;cases c
 let O:ba≠aa:=λz=>by rw[z,a3]at c;cases c
 let n1l:q0≠la:=λz=>by rw[z,Y]at e;cases e
 let n1p:q0≠pa:=λz=>by rw[z,Z]at e;cases e
 let n1a:q0≠aa:=λz=>by rw[z,a3]at e;cases e
 let v:=jX W c nba;let R:=jX W e L;rw[←J];refine q #[r,la,pa,aa,ba] _ rfl (hW.upd<|yX (yX W R) v) B p t v #[#[dx,zA],#[[],?_,rfl],?_,#[_,?_,WX _ _ λa b=>rfl],#[_,?_,WX _ _ λa b=>rfl],#[cE nal,cE nbl,cE O],#[λk l h=>(by cases h),λa b x y h=>(by cases h),λl h=>(by cases h)]]
 ·show upd _ r _ la=_;rw[zE nla,zE<|cE nbl,zE<|cE n1l];exact Y
 ·show upd _ r _ pa=_;rw[zE npa,zE<|cE nbp,zE<|cE n1p];exact Z
 ·show upd _ r _ aa=_;rw[zE naa,zE<|cE O,zE<|cE n1a,hn];exact a3
 ·show upd _ r _ ba=_;rw[zE nba,zA,hn]
abbrev rq:Stmt:=top 31
theorem mn:bT ["growth","sheet","n","k","row"] ["growth","sheet"] (zF rq):=by rfl'
abbrev s_n:Stmt:=top 32
theorem sc_n:bT ["sheet","boths","k","row"] ["sheet"] (zF s_n):=by rfl'
abbrev s_g:Stmt:=top 33
theorem sc_g:bT ["rules","waiting","r","rule","premise"] ["rules"] (zF s_g):=by rfl'
theorem mM.to{C:Addr}{g:pH}{ls:List Ln}(h:mM C H g aE aX ls R H'):GrTo C H g aE aX ls H':=by
 let⟨h1,t,h2,_⟩:=h;exact#[h1,t,h2]
theorem mM.same{C:Addr}{H'':Hp}{g:pH}{ls:List Ln}(h:mM C H g aE aX ls R H')(e:aW H' H''):mM C H g aE aX ls R H'':=by
 let⟨h1,t,h2,a⟩:=h;exact#[h1.trans<|aW.g e,t,h2.same e,a]
theorem mM.pre{C:Addr}{H'':Hp}{g:pH}{ls:List Ln}(e:aW H H')(h:mM C H' g aE aX ls R H''):mM C H g aE aX ls R H'':=by
 let⟨h1,h2⟩:=h;exact#[(aW.g e).trans h1,h2]
theorem mM.refl{C:Addr}{g:pH}{ls:List Ln}(h:mB C H g aE aX ls)(hR:R ls):mM C H g aE aX ls R H:=#[λ_ _ hb _ _ _ _=>hb,[],by rw[cK];calc#[h,hR]]
def Le(ls L:List Ln):Prop:=∃t,L=ls++t
theorem Le.refl(ls:List Ln):Le ls ls:=#[[],(cK _).symm]
theorem Le.trans{a b c:List Ln}(h:Le a b)(h':Le b c):Le a c:=by
 let⟨t,rfl⟩:=h;let⟨t',rfl⟩:=h';exact#[t++t',by rw[cM]]
theorem Le.has{a b:List Ln}(h:Le a b){i j:Int}(hh:zK a i j=true):zK b i j=true:=by
 let⟨t,rfl⟩:=h;rw[vI,hh,Bool.true_or]
theorem mM.then{C:Addr}{H'':Hp}{g:pH}{ls t:List Ln}{R':List Ln->Prop}(h:gL g H H')(h':mM C H' g aE aX (ls++t) R H'')(i:∀L,Le (ls++t) L->R L->R' L):mM C H g aE aX ls R' H'':=by
 let⟨h1,t',h2,a⟩:=h';rw[cM]at h2 a;exact#[h.trans h1,t++t',h2,i _ #[t',by rw[cM]] a]
def JV(g:pH)(a:Addr):Prop:=a≠g.la/\a≠g.pa/\a≠g.aa/\a≠g.ba
theorem gL.out{g:pH}{o:HO}(e:gL g H H')(n:JV g a)(h:H a=some o):H' a=some o:=e a o h n.1 n.2.1 n.2.2.1 n.2.2.2
theorem RN{ls:List Ln}{x:Str}(hi:i<2*aE.length)(hj:j<2*aE.length)(hx:x≠"rule")(hn:QL x=some 0)(h:yO aE i j x []=true):yZ aE aX ls ls.length #[i,j,x,[]]=true:=by
 unfold yZ;rw[aI (by
  intro z;rcases z with z |z
  ·exact z #[by show(0:Int)<=(i:Int);lia,by show(i:Int)<_;lia]
  ·calc z #[by show(0:Int)<=(j:Int);lia,by show(j:Int)<_;lia]),aI hx,aL #[hn,rfl]]
 exact h
theorem ow0:OW []:=#[by simp,λps h=>by cases h]
theorem wP{C:Addr}{H2:Hp}{g:pH}{ls t:List Ln}(hs:gL g H H')(hg:mB C H' g aE aX (ls++t))(iM:aE.length<=100)(e:aW H' H2){x:Str}{as:List Wt}{wv:V}(hw:eE H2 (ZL x as) wv)(hst:yZ aE aX (ls++t) (ls++t).length #[i,j,x,as]=true)(ho:OW as){Q:VK}{E:XK}(hR:∀L,Le (ls++t) L->zK L i j=true->R L)(q:∀v H3,mM C H g aE aX ls R H3->Q v H3):
 tM C [.ref g.r,.int i,.int j,wv] H2 Q E:=
 #[g,aE,aX,_,i,j,wv,x,as,rfl,hg.same e,iM,hw,hst,ho,λH3 a=>q _ _<|mM.then (hs.trans<|aW.g e) a hR]
theorem vJ{C:Addr}{g:pH}{ls t:List Ln}(hs:gL g H H')(hg:mB C H' g aE aX (ls++t))(iM:aE.length<=100)(hi:i<2*aE.length)(hj:j<2*aE.length){x:Str}(hx:x≠"rule")(hn:QL x=some 0)(hst:yO aE i j x []=true)(hp:H' p=none){Q:VK}{E:XK}(hR:∀L,Le (ls++t) L->zK L i j=true->R L)(q:∀v H2,mM C H g aE aX ls R H2->Q v H2):
 tM C [.ref g.r,.int i,.int j,.ref p] (upd H' p<|.tup [.str x]) Q E:=
 wP hs hg iM (zB hp _) (x:=x) (as:=[]) #[p,_,rfl,zA,_,_,rfl,rfl,rfl] (RN hi hj hx hn hst) ow0 hR q
structure Pl(aE:List Rw)(n m:Nat)(L:List Ln):Prop where
 same:∀x:Nat,x<n->zK L x x=true
 low:∀x:Nat,x<n->zK L 0 x=true
 high:∀x:Nat,x<n->zK L x 1=true
 part:∀(k:Nat)(a b:Int),k<m->aE[k]?=some (.bo a b)->zK L ((2*k:Nat):Int) a=true/\zK L ((2*k:Nat):Int) b=true
theorem Pl.le{m:Nat}{L L':List Ln}(h:Pl aE n m L)(e:Le L L'):Pl aE n m L':=#[λx hx=>e.has<|h.same x hx,λx hx=>e.has<|h.low x hx,λx hx=>e.has<|h.high x hx,λk a b hk hr=>#[e.has (h.part k a b hk hr).1,e.has (h.part k a b hk hr).2]]
inductive spBe (K:W.Frag) (C:Addr) (vs:List V) (H:Hp) (Q:VK) (E:XK):Prop
 |mk (g:pH) (sa:Addr) (us:List V) (aE:List Rw) (aX:List xK) (_:vs=[.ref g.r,.ref sa]) (_:mB C H g aE aX []) (_:aE.length<=100) (_:H sa=some (.lst us)) (_:gU K H aE us) (_:JV g sa) (_:qH aE) (_:∀H',mM C H g aE aX [] (Pl aE (2*aE.length) aE.length) H'->Q .non H')
theorem WS{C:Addr}(T:PP K C)(bi:Bi mg)(be:mg "enumerate"=none)(h_s:mK P w K mg base 2 C "grow" ["self","i","j","why"] (tM C))(F:gF K "begin" "begin" rq f fd):dC P w K mg base fU 3 f fd ["growth","sheet"] (spBe K C):=by
 refine F.okz mn λeZ A outer s H vs Q E hr h=>?_
 let⟨g,sa,us,aE,aX,rfl,hg,iM,W,X,S,hin,q⟩:=h;let nF:=X.len;let gI:=T.cl;let Y:(sF g).lookup ("grow":Str)=none:=qO g () () () ();calc#[_,have nd:=mn.nd;#[],?_];refine zM (λσ H'=>∃(o1 o2 U:Option V),mM C H g aE aX [] (Pl aE (2*aE.length) 0) H'/\σ=[some<|V.ref g.r,some<|V.ref sa,o1,o2,U]) (λN hN=>?_) λσ H' h=>?_
 ·dsimp![];calc#[us.length,.inl #[_,cX.of W,rfl],.inl #[(),()],(),(),?_];refine qY (n:=(2*(us.length:Int)).toNat) (λi σ H'=>∃(o1 o2 U:Option V),mM C H g aE aX [] (Pl aE i 0) H'/\σ=[some<|V.ref g.r,some<|V.ref sa,o1,o2,U]) #[_,_,_,mM.refl hg #[λx hx=>(),λx hx=>(),λx hx=>(),λk a b hk=>()],rfl] (λi σ H' hi h M Z=>?_) λσ H' h=>?_
  rotate_left
  ·rw[show(2*(us.length:Int)).toNat=2*aE.length by lia]at h;exact hN _ _ h
  let⟨o1,o2,U,⟨u,t,gt,I⟩,rfl⟩:=h;let J:i<2*aE.length:=by lia
  let e0:(0:Int)+(i:Int)=((i:Nat):Int):=by lia
  show RI _ _ _ _ _;refine zD λN2 v=>?_
  dsimp![yJ];rw[e0];let⟨dx,eS⟩:=gt.ins;calc#[_,_,eS,Y,small (by simp),λp hp=>vJ u gt iM J J (x:="same") () rfl (by unfold yO;rw[aL rfl];simp) hp (R:=λL=>Pl aE i 0 L/\zK L i i=true) (λL e h=>#[I.le e,h]) λ_ H2 g2=>v _ _ ?_];clear v eS u gt;let⟨u,t,gt,I,B⟩:=g2;let⟨dx,eS⟩:=gt.ins;refine zD λN2 v=>?_
  dsimp![yJ];calc#[_,_,eS,Y,small (by simp),λp hp=>vJ (i:=0) u gt iM () J (x:="edge") () rfl (by unfold yO;rw[aI (),aL rfl];simp) hp (R:=λL=>Pl aE i 0 L/\zK L i i=true/\zK L 0 i=true) (λL e h=>#[I.le e,e.has B,h]) λ_ H2 g2=>v _ _ ?_];clear v eS u gt;let⟨u,t,gt,I,B,mE⟩:=g2;let⟨dx,eS⟩:=gt.ins;dsimp![yJ];refine#[_,_,eS,Y,small (by simp),λp hp=>vJ (j:=1) u gt iM J () (x:="edge") () rfl (by unfold yO;rw[aI (),aL rfl];simp) hp (R:=Pl aE (i+1) 0) (λL e h=>?_) λ_ H2 g2=>?_]
  ·let c:∀{x:Nat},x<i+1->x<i\/x=i:=λh=>by lia
   let l:=I.le e;exact#[λx hx=>(c hx).elim (l.same x) λz=>z▸e.has B,λx hx=>(c hx).elim (l.low x) λz=>z▸e.has mE,λx hx=>(c hx).elim (l.high x) λz=>z▸h,λk a b hk=>()]
  exact Z _ _ #[_,_,_,g2,rfl]
 let⟨o1,o2,U,d,rfl⟩:=h;let hsa':=d.to.1.out S W;dsimp![vH];calc#[_,hsa',?_];refine YT (xs:=us) (λk σ H'=>∃(o1 o2 U:Option V),mM C H g aE aX [] (Pl aE (2*aE.length) k) H'/\σ=[some<|V.ref g.r,some<|V.ref sa,o1,o2,U]) #[_,_,_,d,rfl] (λk σ H' h=>?_) (λk x σ H' p hx h hp M Z=>?_) λσ H' h=>?_
 ·let⟨_,_,_,h,_⟩:=h;exact h.to.1.out S W
 ·let⟨o1,o2,U,d,rfl⟩:=h;let hk:k<aE.length:=by rw[←nF];exact(aC.mp hx).1
  let⟨r,nG,hr2⟩:=X.get hx;let tu:=hg.tups d.to.1;let⟨D,x',vs,rfl,O,o⟩:=ID.out hr2;let hxa0:=O;replace O:=O.tups tu;replace d:=d.same<|zB hp<|.tup [.int k,.ref D];let G:=O.same<|zB hp<|.tup [.int k,.ref D];let kp:upd H' p (.tup [.int k,.ref D]) p=some (.tup [.int k,.ref D]):=zA;generalize upd H' p (.tup [.int k,.ref D])=H2 at d G kp⊢;dsimp![uP,jK,vK,yJ];calc#[[.int k,.ref D],dH.of kp,rfl,.int k,[.ref D],rfl,.ref D,[],rfl,rfl,D,rfl,_,G.sq,_,lN,rfl,?_];let nob:∀{L:List Ln},(∀a b,r≠.bo a b)->Pl aE (2*aE.length) k L->Pl aE (2*aE.length) (k+1) L:=λhno h=>#[h.same,h.low,h.high,λm a b hm lL=>by
   rcases iN (mR hm)with z |z
   ·exact h.part m a b z lL
   ·subst z;rw[nG]at lL;cases lL;calc absurd rfl<|hno a b]
  let weak:∀{R R':List Ln->Prop}{H'},(∀L,R L->R' L)->mM C H g aE aX [] R H'->mM C H g aE aX [] R' H':=λw h=>by
   let⟨h1,t,h2,h3⟩:=h;exact#[h1,t,h2,w _ h3]
  cases r with
  |no=>
   let⟨rfl,rfl⟩:=o;rw[aI (by intro z;calc absurd (V.str.inj z) ())];exact Z _ _ #[_,_,_,weak (λL=>nob λa b z=>by cases z) d,rfl]
  |nm y=>
   let⟨rfl,rfl⟩:=o;rw[aI (by intro z;calc absurd (V.str.inj z) ())];exact Z _ _ #[_,_,_,weak (λL=>nob λa b z=>by cases z) d,rfl]
  |bo i j=>
   let⟨rfl,rfl⟩:=o;rw[aL rfl];let⟨⟨b1,b2⟩,b3,b4⟩:=hin k i j nG;obtain⟨a,rfl⟩:∃a:Nat,i=(a:Int):=#[i.toNat,()]
   obtain⟨b,rfl⟩:∃b:Nat,j=(b:Int):=#[j.toNat,()]
   let e2:(2:Int)*(k:Int)=((2*k:Nat):Int):=by lia
   let hpt:uZ aE ((2*k:Nat):Int)=[(a:Int),(b:Int)]:=kF (r:=.bo a b) () (by rw[show(((2*k:Nat):Int)/2).toNat=k by lia];calc nG);let hst:∀c:Nat,(c=a\/c=b)->yO aE ((2*k:Nat):Int) c "part" []=true:=λc hc=>by
    unfold yO;rw[aI (),aI (),aL rfl,hpt];rcases hc with rfl |rfl<;>simp
   let at2:∀{a b c:V},pU [a,b,c] 2=some c:=zN (j:=2) rfl;let⟨u,t,gt,I⟩:=d;let⟨dx,eS⟩:=gt.ins;calc#[_,_,eS,Y,_,rfl,.inl #[(),()],D,rfl,_,G.sq,_,pV,small (by simp),λp1 B=>?_];rw[e2];refine vJ (i:=2*k) (j:=a) u gt iM () () (x:="part") () rfl (hst a<|.inl rfl) B (R:=λL=>Pl aE (2*aE.length) k L/\zK L ((2*k:Nat):Int) a=true) (λL e h=>#[I.le e,h]) λ_ H3 g3=>?_
   let hxa3:=hxa0.tups<|hg.tups g3.1;let⟨u,t,gt,I,hpa⟩:=g3;let⟨dx,eS⟩:=gt.ins;calc#[_,_,eS,Y,_,rfl,.inl #[(),()],D,rfl,_,hxa3.sq,_,at2,small (by simp),λp2 mE=>?_];rw[e2];refine vJ (i:=2*k) (j:=b) u gt iM () () (x:="part") () rfl (hst b<|.inr rfl) mE (R:=Pl aE (2*aE.length)<|k+1) (λL e h=>?_) λ_ H4 g4=>Z _ _ #[_,_,_,g4,rfl]
   let l:=I.le e;calc#[l.same,l.low,l.high,λm a' b' hm lL=>?_];rcases iN (mR hm)with z |z
   ·exact l.part m a' b' z lL
   ·subst z;rw[nG]at lL;cases lL;exact#[e.has hpa,h]
 ·let⟨_,_,_,h,rfl⟩:=h;rw[nF]at h;exact q _ h
def cn(aE:List Rw)(H:Hp)(v:V):Prop:=∃(t:Addr)(k:Nat)(a b:Int),v=.ref t/\H t=some (.tup [.int<|2*(k:Int),.int a,.int b])/\aE[k]?=some (.bo a b)
theorem cn.tups(e:dB H H')(h:cn aE H v):cn aE H' v:=by
 let⟨t,k,a,b,h1,h2,c⟩:=h;exact#[t,k,a,b,h1,e _ _ h2,c]
def PB(aE:List Rw)(H:Hp)(qs:List Addr)(n:Nat):Prop:=∀q∈qs,∃us,H q=some (.lst us)/\us.length<=n/\∀v∈us,cn aE H v
theorem PB.same(e:aW H H')(h:PB aE H qs n):PB aE H' qs n:=λq hq=>by
 let⟨us,h1,h2,a⟩:=h q hq;exact#[us,e _ _ h1,h2,λv hv=>(a v hv).tups e.tups]
theorem PB.put{q:Addr}(h:PB aE H qs n)(hq:H q=some (.lst us))(hl:us.length<=n)(hus:∀v∈us,cn aE H v)(hv:cn aE H v):PB aE (upd H q<|.lst<|us++[v]) qs (n+1):=λd a=>by
 let b:dB H (upd H q<|.lst<|us++[v]):=(dB.refl _).upd_lst hq;by_cases e:d=q
 ·subst e;calc#[us++[v],zA,by simp;lia,λx hx=>?_];rcases bE.mp hx with hx |hx
  ·exact(hus x hx).tups b
  ·rw[aS.mp hx];exact hv.tups b
 ·let⟨c,h1,h2,f⟩:=h d a;exact#[c,by rw[zE e];exact h1,(),λx hx=>(f x hx).tups b]
def dv(H:Hp)(q:Addr)(m:Nat)(a b:Int):Prop:=∃(us:List V)(t:Addr),H q=some (.lst us)/\V.ref t∈us/\H t=some (.tup [.int<|2*(m:Int),.int a,.int b])
theorem dv.same{q:Addr}{m:Nat}{a b:Int}(e:aW H H')(h:dv H q m a b):dv H' q m a b:=by
 let⟨us,t,h1,h2,c⟩:=h;exact#[us,t,e _ _ h1,h2,e _ _ c]
theorem dv.upd{q:Addr}{m:Nat}{a b:Int}(h:dv H q m a b){q1:Addr}{us1:List V}(hq:H q1=some (.lst us1)):dv (upd H q1<|.lst<|us1++[v]) q m a b:=by
 let⟨us,t,h1,h2,d⟩:=h;let c:=(dB.refl H).upd_lst (o:=.lst<|us1++[v]) hq _ _ d;by_cases e:q=q1
 ·subst e;rw[hq]at h1;cases h1;exact#[_,t,zA,cS _ h2,c]
 ·exact#[us,t,(zE e).trans h1,h2,c]
def PQ(aE:List Rw)(H:Hp)(qs:List Addr)(k:Nat):Prop:=∀(m:Nat)(a b:Int),m<k->aE[m]?=some (.bo a b)->∀(x:Nat)(q:Addr),((x:Int)=a\/(x:Int)=b)->qs[x]?=some q->dv H q m a b
theorem PQ.same{k:Nat}(e:aW H H')(h:PQ aE H qs k):PQ aE H' qs k:=λm a b hm hr x q hx hq=>(h m a b hm hr x q hx hq).same e
theorem PQ.upd{k:Nat}(h:PQ aE H qs k){q1:Addr}{us1:List V}(hq1:H q1=some (.lst us1)):PQ aE (upd H q1<|.lst<|us1++[v]) qs k:=λm a b hm hr x q hx hq=>(h m a b hm hr x q hx hq).upd hq1
theorem PQ.succ{k:Nat}(h:PQ aE H qs k)(hk:∀(a b:Int),aE[k]?=some (.bo a b)->∀(x:Nat)(q:Addr),((x:Int)=a\/(x:Int)=b)->qs[x]?=some q->dv H q k a b):PQ aE H qs (k+1):=λm a b hm hr x q hx hq=>by
 rcases iN (mR hm)with z |z
 ·exact h m a b z hr x q hx hq
 ·subst z;exact hk a b hr x q hx hq
inductive spBo (K:W.Frag) (vs:List V) (H:Hp) (Q:VK) (E:XK):Prop
 |mk (sa:Addr) (us:List V) (aE:List Rw) (_:vs=[.ref sa]) (_:H sa=some (.lst us)) (_:gU K H aE us) (_:aE.length<=100) (_:qH aE) (_:∀(p:Addr)(qs:List Addr)(n:Nat)(H':Hp),aW H H'->H p=none->(∀q∈qs,H q=none)->H' p=some (.lst<|qs.map V.ref)->qs.length=2*aE.length->PB aE H' qs n->PQ aE H' qs aE.length->Q (.ref p) H')
def PM(m:Nat)(H0 H:Hp)(kvs:List (List fC×V))(n:Nat):Prop:=∀kv∈kvs,∃(q:Addr)(ns:List Nat),kv.2=.ref q/\H q=some (.lst<|ns.map nV)/\H0 q=none/\ns.length<=n/\∀x∈ns,x<m
theorem PM.same{m:Nat}{H0:Hp}(e:aW H H')(h:PM m H0 H kvs n):PM m H0 H' kvs n:=λa hkv=>by
 let⟨q,ns,h1,h2,b⟩:=h a hkv;exact#[q,ns,h1,e _ _ h2,b]
theorem PM.upd{m:Nat}{H0:Hp}{q:Addr}{ns:List Nat}{r:Nat}(h:PM m H0 H kvs n)(hl:ns.length<=n)(hns:∀x∈ns,x<m)(hr:r<m)(hq:H0 q=none):PM m H0 (upd H q<|.lst<|ns.map nV++[nV r]) kvs (n+1):=λc hkv=>by
 let⟨a,b,h1,h2,d,g,f⟩:=h c hkv;by_cases e:a=q
 ·subst e;calc#[a,ns++[r],h1,by rw[zA,aT];rfl,hq,by simp;lia,λx hx=>?_];rcases bE.mp hx with hx |hx
  ·exact hns x hx
  ·rw[aS.mp hx];exact hr
 ·exact#[a,b,h1,(zE e).trans h2,d,(),f]
theorem AM{κ:Type} [DecidableEq κ] {kvs:List (κ×V)} {k:κ} (h:yB kvs k=some v):∃kv∈kvs,kv.2=v:=by
 unfold yB at h;let⟨x,hx,e⟩:=aM.mp h;exact#[x,List.mem_of_find?_eq_some hx,e]
theorem PY{κ:Type} [DecidableEq κ] {kvs t:List (κ×V)} {k:κ} (h:yB kvs k=some v):yB (kvs++t) k=some v:=by
 unfold yB at h⊢;let⟨x,hx,e⟩:=aM.mp h;rw[List.find?_append,hx];exact dE some e
theorem PZ{κ:Type} [DecidableEq κ] {kvs:List (κ×V)} {k:κ} (h:yB kvs k=none):yB (kvs++[(k,v)]) k=some v:=by
 unfold yB at h⊢;rw[rV]at h;rw[List.find?_append,h];simp
theorem GV:∀{a b:List Nat},a.map nV=b.map nV->a=b
 |[],[],_=>rfl
 |[],_::_,h=>by cases h
 |_::_,[],h=>by cases h
 |x::a,y::b,h=>by
  injection h with h1 h2
  let d:=V.int.inj h1;let c:x=y:=by lia
  rw[c,GV h2]
def MN(H:Hp)(kvs:List (List fC×V))(pr:Pr)(r:Nat):Prop:=∃(q:Addr)(ns:List Nat),yB kvs (yU pr.1 pr.2)=some (.ref q)/\H q=some (.lst<|ns.map nV)/\r∈ns
theorem MN.same{pr:Pr}{r:Nat}(e:aW H H')(h:MN H kvs pr r):MN H' kvs pr r:=by
 let⟨q,ns,h1,h2,a⟩:=h;exact#[q,ns,h1,e _ _ h2,a]
theorem MN.app{t:List (List fC×V)}{pr:Pr}{r:Nat}(h:MN H kvs pr r):MN H (kvs++t) pr r:=by
 let⟨q,ns,h1,h2,a⟩:=h;exact#[q,ns,PY h1,h2,a]
theorem MN.upd{pr:Pr}{r:Nat}(h:MN H kvs pr r){q1:Addr}{ns1:List Nat}{x:Nat}(hq:H q1=some (.lst<|ns1.map nV)):MN (upd H q1<|.lst<|ns1.map nV++[nV x]) kvs pr r:=by
 let⟨q,ns,h1,h2,a⟩:=h;by_cases e:q=q1
 ·subst e;rw[hq]at h2;let b:ns1=ns:=by
   have :=HO.lst.inj<|cU h2;exact GV this
  subst b;exact#[q,ns1++[x],h1,by rw[zA,aT];rfl,cS _ a]
 ·exact#[q,ns,h1,(zE e).trans h2,a]
theorem MN.dic{pr:Pr}{r:Nat}(h:MN H kvs pr r){kvs0:List (List fC×V)}{o:HO}(hp:H p=some (.dT kvs0)):MN (L2.upd H p o) kvs pr r:=by
 let⟨q,ns,h1,h2,a⟩:=h;exact#[q,ns,h1,(zE λz=>by rw[z,hp]at h2;cases h2).trans h2,a]
def WaC(aX:List xK)(H:Hp)(kvs:List (List fC×V))(k m:Nat):Prop:=∀(r:Nat)(q:xK)(x:Nat)(pr:Pr),aX[r]?=some q->q.1[x]?=some pr->(r<k\/r=k/\x<m)->MN H kvs pr r
inductive spWa (vs:List V) (H:Hp) (Q:VK) (E:XK):Prop
 |mk (ra:Addr) (us:List V) (aX:List xK) (_:vs=[.ref ra]) (_:H ra=some (.lst us)) (_:bN H (aX.map ox) us) (_:aX.length<=100) (_:(∀r∈aX,r.1.length<=100)) (_:∀(p:Addr)(kvs:List (List fC×V))(n:Nat)(H':Hp),aW H H'->H p=none->H' p=some (.dT kvs)->PM aX.length H H' kvs n->WaC aX H' kvs aX.length 0->Q (.ref p) H')
theorem WR(bi:Bi mg)(be:mg "enumerate"=none)(F:gF K "boths_by_part" "boths_by_part" s_n f fd):dC P w K mg base fU 1 f fd ["sheet"] (spBo K):=by
 refine F.okz sc_n λeZ A outer s H vs Q E hr h=>?_
 let⟨sa,us,aE,rfl,S,hrw,iM,hin,q⟩:=h;let nF:=hrw.len;calc#[_,have nd:=sc_n.nd;zC (qL (i:=1) ["n"] [] [] nd rfl #[] (λ_ _ _ _ nd=>zZ 0 nd) (λ_ _ _ _=>zW) λ_ _ _ _=>#[])<|zC (yC bX rfl #[] #[]<|zH<|yK #[] (zC (xA<|uN cY dU dS xQ (zL zQ #[] #[]) #[])<|zH<|xA<|uN cY dU dS xQ (zL zQ #[] #[]) #[]) zS) #[],?_];refine zD λN hN=>?_
 dsimp![];calc#[us.length,.inl #[_,cX.of S,rfl],.inl #[(),()],(),(),?_];refine XX (lo:=0) (n:=(2*(us.length:Int)).toNat) (λi ys σ H'=>aW H H'/\(∃qs:List Addr,ys=qs.map V.ref/\qs.length=i/\(∀q∈qs,H q=none)/\PB aE H' qs 0)/\∃o,σ=[o]) #[aW.refl _,#[[],rfl,rfl,(λq z=>by cases z),λq z=>by cases z],_,rfl] (small ()) (λi ys σ H' e=>?_) (λi ys σ H' C hi e hC=>?_) λys σ H' e p hp=>hN _ _ ?_
 ·let⟨_,⟨qs,rfl,hl,_⟩,_⟩:=e;rw[aD];lia
 ·let⟨es,⟨qs,rfl,hl,J,B⟩,o,rfl⟩:=e;dsimp![];refine#[small (by simp),λq0 T=>hC _ _ _ #[es.trans<|zB T _,#[qs++[q0],by rw[aT];rfl,by simp[hl],λq hq=>?_,λq hq=>?_],_,rfl]]
  ·rcases bE.mp hq with hq |hq
   ·exact J q hq
   ·rw[aS.mp hq];exact es.free T
  ·rcases bE.mp hq with hq |hq
   ·exact PB.same (zB T _) B q hq
   ·rw[aS.mp hq];exact#[[],zA,aG _,λv z=>by cases z]
 let⟨es,⟨qs,rfl,hl,J,B⟩,o,rfl⟩:=e;clear hN;let s1:=zB hp<|.lst<|qs.map V.ref;let k1:upd H' p (.lst<|qs.map V.ref) p=some (.lst<|qs.map V.ref):=zA;let hp0:=es.free hp;let hpq:p∉qs:=λz=>by
  let⟨_,h1,_⟩:=B p z;rw[hp]at h1;cases h1
 replace B:=B.same s1;replace es:=es.trans s1;generalize upd H' p (.lst<|qs.map V.ref)=H1 at k1 B es⊢;let hql:qs.length=2*aE.length:=by lia
 clear s1 hp hl;refine zM (λσ H'=>∃(o1 o2:Option V)(n:Nat),aW H H'/\H' p=some (.lst<|qs.map V.ref)/\PB aE H' qs n/\PQ aE H' qs aE.length/\σ=[some<|V.ref sa,some<|V.ref p,o1,o2]) (λN hN=>?_) λσ H' h=>?_
 ·dsimp![vH];calc#[_,es _ _ S,?_];refine YT (xs:=us) (λk σ H'=>∃(o1 o2:Option V),aW H H'/\H' p=some (.lst<|qs.map V.ref)/\PB aE H' qs (2*k)/\PQ aE H' qs k/\σ=[some<|V.ref sa,some<|V.ref p,o1,o2]) #[_,_,es,k1,B,(λm a b hm=>()),rfl] (λk σ H' h=>?_) (λk x σ H' pe hx h hpe M hM=>?_) λσ H' h=>?_
  ·let⟨_,_,h,_⟩:=h;exact h _ _ S
  ·let⟨o1,o2,s2,t,c,nQ,rfl⟩:=h;let hk:k<aE.length:=by rw[←nF];exact(aC.mp hx).1
   let⟨r,nG,hr2⟩:=hrw.get hx;let⟨O,x',vs,rfl,d,D⟩:=ID.out hr2;let g:=zB hpe<|.tup [.int k,.ref O];let kp:upd H' pe (.tup [.int k,.ref O]) pe=some (.tup [.int k,.ref O]):=zA;generalize upd H' pe (.tup [.int k,.ref O])=H2 at g kp⊢;replace s2:=s2.trans g;replace t:=g _ _ t;replace c:=c.same g;replace nQ:=nQ.same g;replace d:=d.same s2;clear g hpe;let more:∀{a b:Nat},a<=b->PB aE H2 qs a->PB aE H2 qs b:=λhab h q hq=>by
    let⟨us,h1,h2,h3⟩:=h q hq;exact#[us,h1,(),h3]
   dsimp![uP,jK,vK];calc#[[.int k,.ref O],dH.of kp,rfl,.int k,[.ref O],rfl,.ref O,[],rfl,rfl,O,rfl,_,d.sq,_,lN,rfl,?_];cases r with
   |no=>
    let⟨rfl,rfl⟩:=D;rw[aI (by intro z;calc absurd (V.str.inj z) ())];exact hM _ _ #[_,_,s2,t,more () c,nQ.succ (λa b z=>by rw[nG]at z;cases z),rfl]
   |nm y=>
    let⟨rfl,rfl⟩:=D;rw[aI (by intro z;calc absurd (V.str.inj z) ())];exact hM _ _ #[_,_,s2,t,more () c,nQ.succ (λa b z=>by rw[nG]at z;cases z),rfl]
   |bo i j=>
    let⟨rfl,rfl⟩:=D;rw[aL rfl];let⟨⟨b1,b2⟩,b3,b4⟩:=hin k i j nG;let hgx:∀(x:Int),0<=x->x<2*(aE.length:Int)->∃q,q∈qs/\pU (qs.map V.ref) x=some (V.ref q)/\qs[x.toNat]?=some q:=λx hx0 U=>by
     let⟨m,rfl⟩:=dZ hx0;let hm:m<qs.length:=by lia
     calc#[qs[m],cO hm,?_];exact#[zN (by rw[aJ,aA hm];rfl),by rw[bS];calc aA hm]
    let⟨R,W,ha1,U⟩:=hgx i b1 ();let⟨q2,X,ha2,hx2⟩:=hgx j b3 ();let⟨G,l,hl1,L⟩:=c R W;calc#[_,rfl,_,d.sq,_,pV,_,rfl,_,cX.of t,_,ha1,.inl #[rfl,_,cX.of l],_,rfl,.inl #[(),()],_,rfl,_,d.sq,_,pV,_,rfl,_,d.sq,_,rfl,small (),λt1 ht=>?_];let g:=zB ht<|.tup [.int<|2*(k:Int),.int i,.int j];let tr:cn aE (upd H2 t1<|.tup [.int<|2*(k:Int),.int i,.int j]) (.ref t1):=#[t1,k,i,j,rfl,zA,nG]
    let I:upd H2 t1 (.tup [.int<|2*(k:Int),.int i,.int j]) t1=some (.tup [.int<|2*(k:Int),.int i,.int j]):=zA;generalize upd H2 t1 (.tup [.int<|2*(k:Int),.int i,.int j])=H3 at g tr I⊢;replace t:=g _ _ t;replace d:=d.same g;replace l:=g _ _ l;replace L:∀v∈G,cn aE H3 v:=λv hv=>(L v hv).tups g.tups
    replace c:=(c.same g).put l hl1 L tr;replace nQ:=(nQ.same g).upd (v:=.ref t1) l;let in1:dv (upd H3 R<|.lst<|G++[V.ref t1]) R k i j:=#[_,t1,zA,by simp,(dB.refl H3).upd_lst l _ _ I]
    calc#[R,rfl,G,l,vU (),?_];replace s2:=(s2.trans g).upd (o:=.lst<|G++[V.ref t1]) (J R W);let n2:p≠R:=λz=>hpq<|z▸W
    replace d:=d.tups<|(dB.refl H3).upd_lst (o:=.lst<|G++[V.ref t1]) l;replace t:upd H3 R (.lst<|G++[V.ref t1]) p=_:=(zE n2).trans t;clear I l hl1 L tr g ht more;generalize upd H3 R (.lst<|G++[V.ref t1])=H4 at s2 d t c nQ in1⊢;let⟨Y,u,hl2,Z⟩:=c q2 X;calc#[_,rfl,_,d.sq,_,rfl,_,rfl,_,cX.of t,_,ha2,.inl #[rfl,_,cX.of u],_,rfl,.inl #[(),()],_,rfl,_,d.sq,_,pV,_,rfl,_,d.sq,_,rfl,small (),λt1 ht=>?_];let g:=zB ht<|.tup [.int<|2*(k:Int),.int i,.int j];let tr:cn aE (upd H4 t1<|.tup [.int<|2*(k:Int),.int i,.int j]) (.ref t1):=#[t1,k,i,j,rfl,zA,nG]
    let I:upd H4 t1 (.tup [.int<|2*(k:Int),.int i,.int j]) t1=some (.tup [.int<|2*(k:Int),.int i,.int j]):=zA;generalize upd H4 t1 (.tup [.int<|2*(k:Int),.int i,.int j])=H5 at g tr I⊢;replace t:=g _ _ t;replace u:=g _ _ u;replace Z:∀v∈Y,cn aE H5 v:=λv hv=>(Z v hv).tups g.tups
    replace c:=(c.same g).put u hl2 Z tr;replace nQ:=(nQ.same g).upd (v:=.ref t1) u;replace in1:=(in1.same g).upd (v:=.ref t1) u;let in2:dv (upd H5 q2<|.lst<|Y++[V.ref t1]) q2 k i j:=#[_,t1,zA,by simp,(dB.refl H5).upd_lst u _ _ I]
    let n2:p≠q2:=λz=>hpq<|z▸X
    calc#[q2,rfl,Y,u,vU (),hM _ _ #[_,_,(s2.trans g).upd (J q2 X),(zE n2).trans t,c,nQ.succ λa b z x q' hx hq'=>?_,rfl]];rw[nG]at z;cases z;rcases hx with hx |hx
    ·rw[←hx,bS,hq']at U;cases U;exact in1
    ·rw[←hx,bS,hq']at hx2;cases hx2;exact in2
  ·let⟨o1,o2,s2,t,c,nQ,rfl⟩:=h;rw[nF]at nQ;exact hN _ _ #[_,_,_,s2,t,c,nQ,rfl]
 let⟨o1,o2,n,s2,t,c,nQ,rfl⟩:=h;dsimp![];exact q p qs n _ s2 hp0 J t hql c nQ
theorem wD(bi:Bi mg)(be:mg "enumerate"=none)(F:gF K "rules_by_premise" "rules_by_premise" s_g f fd):dC P w K mg base fU 1 f fd ["rules"] spWa:=by
 refine F.okz sc_g λeZ A outer s H vs Q E hr h=>?_
 let⟨ra,us,aX,rfl,U,W,iM,hpr,q⟩:=h;let nF:=jM W;calc#[_,have nd:=sc_g.nd;zC (yW 1 nd BL)<|zC (yC bX rfl #[] #[]<|zH<|yC bX rfl #[] #[]<|zH<|xA<|uN cY dU dS xQ (gx (xO hr) #[] #[] #[] #[rfl,rfl,rfl,rfl]) #[]) #[],?_];refine zD λN hN=>?_
 dsimp![FH];refine λp hp=>hN _ _ ?_
 clear hN;let s1:=zB hp<|.dT [];let k1:upd H p (.dT []) p=some (.dT []):=zA;generalize upd H p (.dT [])=H1 at s1 k1⊢;let sz:∀{n:Nat},n<=40000->n<sizeLine:=λh=>fN (m:=100000) () ()
 refine zM (λσ H'=>∃(o1 o2 R:Option V)(kvs:List (List fC×V))(n:Nat),aW H H'/\H' p=some (.dT kvs)/\PM aX.length H H' kvs n/\WaC aX H' kvs aX.length 0/\σ=[some<|V.ref ra,some<|V.ref p,o1,o2,R]) (λN hN=>?_) λσ H' h=>?_
 ·dsimp![vH];calc#[_,s1 _ _ U,?_];refine YT (xs:=us) (λk σ H'=>∃(o1 o2 R:Option V)(kvs:List (List fC×V)),aW H H'/\H' p=some (.dT kvs)/\kvs.length<=100*k/\PM aX.length H H' kvs (100*k)/\WaC aX H' kvs k 0/\σ=[some<|V.ref ra,some<|V.ref p,o1,o2,R]) #[_,_,_,_,s1,k1,aG _,(λS z=>by cases z),(λr q x y _ _ hz=>()),rfl] (λk σ H' h=>?_) (λk x σ H' pe hx h X M hM=>?_) λσ H' h=>?_
  ·let⟨_,_,_,_,h,_⟩:=h;exact h _ _ U
  ·let⟨o1,o2,R,kvs,s2,L,hkl,a,nQ,rfl⟩:=h;let hk:k<aX.length:=by rw[←nF];exact(aC.mp hx).1
   let⟨r,nG,hr2⟩:=xG W hx;let hrl:=hpr r<|aR nG;let⟨C,xl,xb,ps,rfl,O,Y,Z,hxb⟩:=nrAt hr2;let hpl:=jM Z;let T:=zB X<|.tup [.int k,.ref C];let kp:upd H' pe (.tup [.int k,.ref C]) pe=some (.tup [.int k,.ref C]):=zA;generalize upd H' pe (.tup [.int k,.ref C])=H2 at T kp⊢;replace s2:=s2.trans T;replace L:=T _ _ L;replace a:=a.same T;replace nQ:WaC aX H2 kvs k 0:=λr q x y h1 h2 D=>(nQ r q x y h1 h2 D).same T
   replace O:=s2 _ _ O;clear T X;dsimp![uP,jK,vK];calc#[[.int k,.ref C],dH.of kp,rfl,.int k,[.ref C],rfl,.ref C,[],rfl,rfl,?_];let hxl2:=s2 _ _ Y;calc#[_,rfl,_,dH.of O,_,lN,_,rfl,#[_,cX.of hxl2],?_];refine xH (xs:=ps) (λm σ H'=>∃(o:Option V)(kvs:List (List fC×V)),aW H H'/\H' p=some (.dT kvs)/\kvs.length<=100*k+m/\PM aX.length H H' kvs (100*k+m)/\WaC aX H' kvs k m/\σ=[some<|V.ref ra,some<|V.ref p,some<|V.int k,some<|V.ref C,o]) #[_,_,s2,L,hkl,a,nQ,rfl] (λm σ H' _ h=>?_) (λm x σ H' hm h M2 hM2=>?_) λσ H' h=>?_
   ·let⟨_,_,h,_⟩:=h;exact cX.of<|h _ _ Y
   ·let⟨o,kvs,G,e,hl4,g,B,rfl⟩:=h;let hmp:m<ps.length:=(aC.mp hm).1;let⟨y,hpm,hpx⟩:=xG Z hm;let⟨xp,_,rfl,i,_,_,rfl,hv1,_,_,rfl,hv2,hv3⟩:=hpx;cases hv1;cases hv2;cases hv3;replace i:=G _ _ i;dsimp![md,tBM];calc#[.inr #[_,.inl e],bZ _,λI c=>?_];let n1:p≠I:=λz=>by rw[z,c]at e;cases e
    let n2:xp≠I:=λz=>by rw[z,c]at i;cases i
    let d:=zB c<|.lst [];refine#[kvs,d _ _ e,[.inl y.1,.inl y.2],d _ _ i,sz (),λv hv=>?_,λhv=>?_]
    ·let⟨S,hkv,rfl⟩:=AM hv;let⟨J,j,h1,h2,D,h4,h5⟩:=g S hkv;let n3:p≠J:=λz=>by rw[z,h2]at e;cases e
     rw[h1];calc#[.inl #[rfl,_,cX.of<|d _ _ h2],J,rfl,_,d _ _ h2,sz (by rw[aD];lia),hM2 _ _ #[_,kvs,(G.trans d).upd D,(zE n3).trans (d _ _ e),(),PM.upd (g.same d) h4 h5 hk D,?_,rfl]];intro b q0 x l t u g3;by_cases g4:b<k\/b=k/\x<m
     ·exact((B b q0 x l t u g4).same d).upd (d _ _ h2)
     ·obtain⟨rfl,rfl⟩:b=k/\x=m:=by lia
      rw[nG]at t;cases t;rw[hpm]at u;cases u;exact#[J,j++[b],by rw[←h1];exact hv,by rw[zA,aT];rfl,by simp]
    ·let e1:upd (upd H' I<|.lst []) p (.dT<|jC kvs [.inl y.1,.inl y.2]<|V.ref I) I=some (.lst []):=(zE n1.symm).trans zA;refine#[.inl #[rfl,_,cX.of e1],[],e1,sz (by simp),hM2 _ _ #[_,_,((G.trans d).upd hp).upd (G.free c),(zE n1).trans zA,?_,?_,?_,rfl]]
     ·rw[kA hv,aH,cA];lia
     ·calc PM.upd (ns:=[]) (n:=100*k+m) (λS hkv=>?_) (bZ _) (λx z=>by cases z) hk<|G.free c;rw[kA hv]at hkv;rcases bE.mp hkv with hkv |hkv
      ·let⟨J,j,h1,h2,D,h4,h5⟩:=g S hkv;let n3:J≠p:=λz=>by rw[←z,h2]at e;cases e
       exact#[J,j,h1,(zE n3).trans (d _ _ h2),D,h4,h5]
      ·rw[aS.mp hkv];exact#[I,[],rfl,e1,G.free c,bZ _,λx z=>by cases z]
     ·intro b q0 x l t u g3;by_cases g4:b<k\/b=k/\x<m
      ·let w:=(((B b q0 x l t u g4).same d).dic (d _ _ e) (o:=.dT<|jC kvs [.inl y.1,.inl y.2]<|V.ref I)).upd (ns1:=[]) (x:=k) e1;rw[kA hv]at w⊢;exact w.app
      ·obtain⟨rfl,rfl⟩:b=k/\x=m:=by lia
       rw[nG]at t;cases t;rw[hpm]at u;cases u;exact#[I,[b],by rw[kA hv];exact PZ hv,by rw[zA];rfl,by simp]
   ·let⟨o,kvs,G,e,hl4,g,B,rfl⟩:=h;refine hM _ _ #[_,_,_,_,G,e,(),λS hkv=>?_,λb q0 x l t u g3=>B b q0 x l t u ?_,rfl]
    rotate_left
    ·rcases iN (show b<=k by lia)with z |z
     ·exact .inl z
     ·calc .inr #[z,?_];rw[z,nG]at t;cases t;rw[hpl];exact(aC.mp u).1
    let⟨J,j,h1,h2,D,h4,h5⟩:=g S hkv;exact#[J,j,h1,h2,D,(),h5]
  ·let⟨o1,o2,R,kvs,s2,L,_,a,nQ,rfl⟩:=h;rw[nF]at nQ;exact hN _ _ #[_,_,_,_,_,s2,L,a,nQ,rfl]
 let⟨o1,o2,R,kvs,n,s2,L,a,nQ,rfl⟩:=h;dsimp![];exact q p kvs n _ s2 hp L a nQ
abbrev s_x:Stmt:=top 34
theorem sc_x:bT ["growth","i","j"] ["growth","i","j"] (zF s_x):=by rfl'
abbrev s_m:Stmt:=top 35
theorem sc_m:bT ["growth","i","j","line","m","h"] ["growth","i","j"] (zF s_m):=by rfl'
abbrev s_q:Stmt:=top 36
theorem sc_q:bT ["growth","i","boths","n","a","b"] ["growth","i","boths"] (zF s_q):=by rfl'
abbrev s_o:Stmt:=top 37
theorem sc_o:bT ["growth","i","j","n"] ["growth","i","j"] (zF s_o):=by rfl'
theorem uF{ls:List Ln}{p:Nat}(h:ls[p]?=some l):xC ls ls.length (.n (p:Int))=some (l.i,l.j):=by
 let hp:=(aC.mp h).1;show(if 0<=(p:Int)/\(p:Int)<(ls.length:Int)then(ls[(p:Int).toNat]?).map λl=>(l.i,l.j)else none)=_;rw[aL #[(),()],bS,h];rfl
theorem UL{ls:List Ln}{x:Str}{as:List Wt}{prs:List Pr}(hi:i<2*aE.length)(hj:j<2*aE.length)(hx:x≠"rule")(hn:QL x=some (as.length:Int))(hs:as.map (xC ls ls.length)=prs.map some)(h:yO aE i j x prs=true):yZ aE aX ls ls.length #[i,j,x,as]=true:=by
 let b:(as.all λa=>(xC ls ls.length a).isSome)=true:=by
  have :(as.map<|xC ls ls.length).all (λo=>o.isSome)=true:=by rw[hs];simp
  rw[pC]at this;exact this
 let c:as.filterMap (xC ls ls.length)=prs:=by
  have :(as.map<|xC ls ls.length).filterMap id=prs:=by rw[hs];simp[mC]
  rw[mC]at this;exact this
 unfold yZ;rw[aI (by
  intro z;rcases z with z |z
  ·exact z #[by show(0:Int)<=(i:Int);lia,by show(i:Int)<_;lia]
  ·calc z #[by show(0:Int)<=(j:Int);lia,by show(j:Int)<_;lia]),aI hx,aL #[hn,b],c]
 exact h
theorem MS.rng{ls:List Ln}(h:MS aE aX ls)(hh:zK ls i j=true):i<2*aE.length/\j<2*aE.length:=by
 let⟨p,l,hl,h1,h2⟩:=fK.mp hh;have :=qW<|h.snd p l hl;lia
noncomputable def lY(n:Nat):Nat:=n+1-2*(n % 2)
theorem jW(n:Nat):sW (n:Int)=((lY n:Nat):Int):=by
 unfold sW lY;lia
theorem vT(n:Nat):lY (lY n)=n:=by
 unfold lY;lia
theorem YY{m:Nat}(h:n<2*m):lY n<2*m:=by
 unfold lY;lia
theorem zO{ls t:List Ln}{i j:Int}(h:zK ls i j=true):zK (ls++t) i j=true:=by
 rw[vI,h,Bool.true_or]
theorem ow_n{as:List Wt}(h:as.length<=3)(hn:∀ps,Wt.ps ps∈as->False):OW as:=#[h,λps z=>(hn ps z).elim]
theorem fe{ls:List Ln}{p:Nat}(hi:i<2*aE.length)(hj:j<2*aE.length)(hl:ls[p]?=some l)(h1:l.i=i)(h2:l.j=j):yZ aE aX ls ls.length #[(lY j:Nat),(lY i:Nat),"turn",[.n p]]=true:=by
 refine UL (prs:=[((i:Int),(j:Int))]) (YY hj) (YY hi) () rfl ?_ ?_
 ·show [xC ls ls.length<|.n (p:Int)]=_;rw[uF hl,h1,h2];rfl
 ·unfold yO;rw[aI (),aI (),aI (),aI (),aL rfl,jW,jW,vT,vT];exact dN _
theorem RO{ls:List Ln}{p:Nat}(hi:i<2*aE.length)(hn:n<2*aE.length)(hj:(j:Int)=sW i)(hl:ls[p]?=some l)(h1:l.i=i)(h2:l.j=j):yZ aE aX ls ls.length #[i,n,"clash",[.n p]]=true:=by
 refine UL (prs:=[((i:Int),(j:Int))]) hi hn () rfl ?_ ?_
 ·show [xC ls ls.length<|.n (p:Int)]=_;rw[uF hl,h1,h2];rfl
 ·unfold yO;rw[aI (),aI (),aI (),aI (),aI (),aI (),hj];exact dN _
theorem AV{ls:List Ln}{m p p':Nat}{l':Ln}(hi:i<2*aE.length)(hm:m<2*aE.length)(hl:ls[p]?=some l)(h1:l.i=i)(h2:l.j=j)(iT:ls[p']?=some l')(h1':l'.i=j)(h2':l'.j=m):yZ aE aX ls ls.length #[i,m,"chain",[.n p,.n p']]=true:=by
 refine UL (prs:=[((i:Int),(j:Int)),((j:Int),(m:Int))]) hi hm () rfl ?_ ?_
 ·show [xC ls ls.length<|.n (p:Int),xC ls ls.length<|.n (p':Int)]=_;rw[uF hl,h1,h2,uF iT,h1',h2'];rfl
 ·unfold yO;rw[aI (),aI (),aI (),aI (),aI (),aL rfl];simp
theorem fh{ls:List Ln}{p p':Nat}{a b:Int}{l':Ln}(hi:i<2*aE.length)(hn:n<2*aE.length)(hpt:uZ aE (n:Int)=[a,b])(hl:ls[p]?=some l)(h1:l.i=i)(h2:l.j=a)(iT:ls[p']?=some l')(h1':l'.i=i)(h2':l'.j=b):yZ aE aX ls ls.length #[i,n,"both",[.n p,.n p']]=true:=by
 refine UL (prs:=[((i:Int),a),((i:Int),b)]) hi hn () rfl ?_ ?_
 ·show [xC ls ls.length<|.n (p:Int),xC ls ls.length<|.n (p':Int)]=_;rw[uF hl,h1,h2,uF iT,h1',h2'];rfl
 ·unfold yO;rw[aI (),aI (),aI (),aL rfl,hpt];exact dN _
theorem TW{p:Nat}:OW [.n p]:=ow_n (by simp) (λps z=>by simp at z)
theorem FZ{p q:Nat}:OW [.n p,.n q]:=ow_n (by simp) (λps z=>by simp at z)
theorem IN{x:Str}:eE (upd H p<|.tup [.str x,.int n]) (ZL x [.n n]) (.ref p):=#[p,_,rfl,zA,_,_,rfl,rfl,_,_,rfl,rfl,rfl]
theorem UC{x:Str}{m:Nat}:eE (upd H p<|.tup [.str x,.int n,.int m]) (ZL x [.n n,.n m]) (.ref p):=#[p,_,rfl,zA,_,_,rfl,rfl,_,_,rfl,rfl,_,_,rfl,rfl,rfl]
theorem AS:∀(n a b:Nat),a<=n->∃d,a=(a&&&b)+d/\∀x,d.testBit x=(a.testBit x&&!b.testBit x)
 |0,a,b,h=>by
  let e:a=0:=by lia
  subst e;exact#[0,by simp,λx=>by simp]
 |n+1,a,b,h=>by
  let⟨d,h1,h2⟩:=AS n (a/2) (b/2) ();let g:(a&&&b)/2=a/2&&&b/2:=oG λi=>by
   rw[iF,lV,lV,iF,iF]
  let f:decide ((a&&&b) % 2=1)=(decide (a % 2=1)&&decide (b % 2=1)):=by
   rw[←lG,←lG,←lG,lV]
  rw[←g]at h1;refine#[2*d+(if a % 2=1/\¬b % 2=1 then 1 else 0),?_,λx=>?_]
  ·let j:(a&&&b) % 2=1↔(a % 2=1/\b % 2=1):=by
    rw[bY,bH,cD,bH,bH]at f;exact f
   clear g f h2;generalize a&&&b=c at h1 j⊢;split<;>lia
  ·cases x with
   |zero=>
    rw[lG,lG,lG];by_cases ha:a % 2=1<;>by_cases hb:b % 2=1<;>simp[ha,hb]<;>lia
   |succ x=>
    let k:(2*d+(if a % 2=1/\¬b % 2=1 then 1 else 0))/2=d:=by split<;>lia
    rw[←iF,k,h2,iF,iF]
theorem QN{a b:Nat}(h:∀x,a.testBit x=true->x<300):∃(m:Nat)(xs:List Nat),Builtin.bitAnd (a:Int) (Builtin.bitNot (b:Int))=(m:Int)/\rR m xs/\(∀x∈xs,x<300/\a.testBit x=true)/\∀x,a.testBit x=true->x∈xs\/b.testBit x=true:=by
 let⟨d,h1,h2⟩:=AS a a b<|aG _;let hd:∀x,d.testBit x=true->a.testBit x=true:=λx hx=>by
  rw[h2,cD]at hx;exact hx.1
 refine#[d,(List.range 300).filter λx=>d.testBit x,?_,#[fR _ dL,λi=>?_],λx hx=>?_,λx hx=>?_]
 ·unfold Builtin.bitAnd;rw[not_not,dA (show(0:Int)<=(a:Int) by lia),cJ (show¬(0:Int)<=Builtin.bitNot (b:Int) by unfold Builtin.bitNot;lia)];show(a:Int)-(((a:Int).toNat&&&(b:Int).toNat:Nat):Int)=_;rw[bS,bS];lia
 ·rw[bY,bH,bM,bL];exact#[λz=>#[h _<|hd _ z,z],λz=>z.2]
 ·let⟨c,e⟩:=bM.mp hx;exact#[bL.mp c,hd _ e]
 ·cases hb:b.testBit x with
  |true=>exact .inr rfl
  |false=>
   left
   rw[bM,bL];exact#[h x hx,by rw[h2,hx,hb];rfl]
theorem mB.out{C:Addr}{g:pH}{ls:List Ln}(h:mB C H g aE aX ls)(hp:H p=none):JV g p:=by
 let⟨ws,h2,_⟩:=h.lin;let⟨as,b,_⟩:=h.abv;let⟨bs,c,_⟩:=h.blw;let go:∀{a:Addr}{o:HO},H a=some o->p≠a:=λha z=>by rw[z,ha]at hp;cases hp
 exact#[go h2,go h.plc,go b,go c]
def ph(_rows:List Rw)(_ls L:List Ln)(i j:Nat):Prop:=zK L ((lY j:Nat):Int) ((lY i:Nat):Int)=true
def cu(_rows:List Rw)(ls L:List Ln)(i j:Nat):Prop:=(∀m:Nat,zK ls j m=true->zK L i m=true)/\∀h:Nat,zK ls h i=true->zK L h j=true
def cr(aE:List Rw)(_ls L:List Ln)(i j:Nat):Prop:=(j:Int)=sW i->∀n:Nat,n<2*aE.length->zK L i n=true
def MO(H:Hp)(us:List V)(ls L:List Ln)(i:Nat):Prop:=∀(t:Addr)(m:Nat)(a b:Int),V.ref t∈us->H t=some (.tup [.int<|2*(m:Int),.int a,.int b])->zK ls i a=true->zK ls i b=true->zK L i ((2*m:Nat):Int)=true
inductive tK (R:List Rw->List Ln->List Ln->Nat->Nat->Prop) (C:Addr) (vs:List V) (H:Hp) (Q:VK) (E:XK):Prop
 |mk (g:pH) (aE:List Rw) (aX:List xK) (ls:List Ln) (i j:Nat) (_:vs=[.ref g.r,.int i,.int j]) (_:mB C H g aE aX ls) (_:aE.length<=100) (_:zK ls i j=true) (_:∀H',mM C H g aE aX ls (λL=>R aE ls L i j) H'->Q .non H')
inductive spGB (C:Addr) (vs:List V) (H:Hp) (Q:VK) (E:XK):Prop
 |mk (g:pH) (aE:List Rw) (aX:List xK) (ls:List Ln) (i:Nat) (q:Addr) (us:List V) (_:vs=[.ref g.r,.int i,.ref q]) (_:mB C H g aE aX ls) (_:aE.length<=100) (_:i<2*aE.length) (_:H q=some (.lst us)) (_:JV g q) (_:(∀v∈us,cn aE H v)) (_:qH aE) (_:∀H',mM C H g aE aX ls (λL=>MO H us ls L i) H'->Q .non H')
theorem iu{C:Addr}(T:PP K C)(h_e:mK P w K mg base 1 C "line_of" ["self","i","j"] (NF C))(h_s:mK P w K mg base 2 C "grow" ["self","i","j","why"] (tM C))(F:gF K "grow_by_turn" "grow_by_turn" s_x f fd):dC P w K mg base fU 3 f fd ["growth","i","j"] (tK ph C):=by
 refine F.okz sc_x λeZ A outer s H vs Q E hr h=>?_
 let⟨g,aE,aX,ls,i,j,rfl,a,iM,d,q⟩:=h;let gI:=T.cl;let k:(sF g).lookup ("grow":Str)=none:=qO g () () () ();let b:(sF g).lookup ("line_of":Str)=none:=qO g () () () ();let⟨dx,eS⟩:=a.ins;calc#[_,have nd:=sc_x.nd;#[],?_];dsimp![yJ];let⟨hi,m⟩:=a.ok.rng d;calc#[_,_,eS,k,_,_,eS,b,g,aE,aX,ls,i,j,rfl,a,d,λp l H1 s1 hl h1 h2=>#[small (),λo c=>?_]];rw[EW,EW,jW,jW];exact wP (t:=[]) (aW.g s1) (by rw[cK];calc a.same s1) iM (zB c _) IN (by rw[cK];calc fe hi m hl h1 h2) TW (λL e h=>h) λ_ r n=>q _ n
theorem WQ{C:Addr}(T:PP K C)(bi:Bi mg)(h_E:fZ P w K mg base 1 "bits_of" ["mask"] sM)(h_e:mK P w K mg base 1 C "line_of" ["self","i","j"] (NF C))(h_s:mK P w K mg base 2 C "grow" ["self","i","j","why"] (tM C))(F:gF K "grow_by_chain" "grow_by_chain" s_m f fd):dC P w K mg base fU 3 f fd ["growth","i","j"] (tK cu C):=by
 refine F.okz sc_m λeZ A outer s H vs Q E hr h=>?_
 let⟨g,aE,aX,ls,i,j,rfl,hg,iM,hh,q⟩:=h;let gI:=T.cl;let lk:(sF g).lookup ("grow":Str)=none:=qO g () () () ();let R:(sF g).lookup ("line_of":Str)=none:=qO g () () () ();let⟨dx,eS⟩:=hg.ins;calc#[_,have nd:=sc_m.nd;zC #[]<|zC (yC bX rfl (YM<|zU h_E hr.m rfl<|zG (jO GD (zL zQ #[] #[])<|TC FA<|zL zQ #[] #[]) zI) #[] #[])<|zH<|yC bX rfl (YM<|zU h_E hr.m rfl<|zG (jO GD (zL zQ #[] #[])<|TC FA<|zL zQ #[] #[]) zI) #[] #[],?_];refine zD λN hN=>?_
 dsimp![yJ];let⟨hi,hj⟩:=hg.ok.rng hh;calc#[_,_,eS,R,g,aE,aX,ls,i,j,rfl,hg,hh,λp l H1 s1 hl h1 h2=>hN _ _ ?_];clear hN;refine zM (λσ H'=>∃(o1 o2:Option V),mM C H g aE aX ls (λL=>∀m:Nat,zK ls j m=true->zK L i m=true) H'/\σ=[some<|V.ref g.r,some<|V.int i,some<|V.int j,some<|V.int p,o1,o2]) (λN hN=>?_) λσ H' h=>?_
 ·dsimp![yJ,xS];let S:=hg.same s1;let⟨dx,eS⟩:=S.ins;let⟨as,d,c⟩:=S.abv;let nO:i<as.length:=by rw[c.len];exact hi
  let n:j<as.length:=by rw[c.len];exact hj
  let a:=c.bit j as[j] (aA n);let o:∀x,as[j].testBit x=true->x<2*aE.length:=λx hx=>(hg.ok.rng (i:=j) (by rw[←a x];calc hx)).2
  let⟨m,xs,em,U,u,W⟩:=QN (b:=as[i]) λx hx=>cF (o x hx) ()
  let v:∀{k:Nat}(hk:k<as.length),pU (as.map nV) (k:Int)=some (V.int ((as[k]:Nat):Int)):=λ{k} hk=>zN (by rw[aJ,aA hk];rfl)
  calc#[_,_,_,eS,T.cl,T.nA,_,a9 g,_,rfl,_,cX.of d,_,v n,_,_,_,eS,T.cl,T.nA,_,a9 g,_,rfl,_,cX.of d,_,v nO,_,rfl,_,rfl,?_];rw[em];calc#[m,xs,rfl,U,λx hx=>(u x hx).1,λpb H2 s2 y B=>?_];let ho:JV g pb:=S.out y;replace s1:=s1.trans s2;let X:=hg.same s1;calc#[_,rfl,#[_,cX.of B],?_];refine xH (xs:=xs.map nV) (λk σ H'=>∃(o1 o2:Option V),mM C H2 g aE aX ls (λL=>∀x∈xs.take k,zK L i x=true) H'/\σ=[some<|V.ref g.r,some<|V.int i,some<|V.int j,some<|V.int p,o1,o2]) #[_,_,mM.refl X (λx z=>by cases z),rfl] (λk σ H' _ h=>?_) (λk x σ H' hx h M hM=>?_) λσ H' h=>?_
  ·let⟨_,_,h,_⟩:=h;exact cX.of<|h.to.1.out ho B
  ·let⟨o1,o2,⟨gs,t,gt,hP⟩,rfl⟩:=h;rw[aJ]at hx;let⟨D,G,rfl⟩:=aM.mp hx;let⟨_,I⟩:=u D<|aR G;let Y:zK ls j D=true:=by rw[←a D];exact I
   let Z:=o D I;let⟨dx,eS⟩:=gt.ins;dsimp![yJ];calc#[_,_,eS,lk,_,_,eS,R,g,aE,aX,_,j,D,rfl,gt,zO Y,λp' l' H4 s4 iT J O=>#[small (),λp1 hp1=>?_]];refine wP (gs.trans<|aW.g s4) (gt.same s4) iM (zB hp1 _) UC (AV hi Z (by rw[aZ (aC.mp hl).1];calc hl) h1 h2 iT J O) FZ (λL e h x hx9=>?_) λ_ H3 g3=>hM _ _ #[_,_,g3,rfl]
   let⟨hkl,hke⟩:=aC.mp G;rw[aP hkl,hke]at hx9;rcases bE.mp hx9 with hx9 |hx9
   ·exact e.has<|hP x hx9
   ·rw[aS.mp hx9];exact h
  ·let⟨o1,o2,h,rfl⟩:=h;let⟨J,t,O,h3'⟩:=h;rw[aD,aQ<|aG _]at h3';calc hN _ _ #[_,_,mM.pre s1 #[J,t,O,λm hm=>?_],rfl];rw[←a m]at hm;rcases W m hm with z |z
   ·exact h3' m z
   ·rw[c.bit i as[i] (aA nO)]at z;exact zO z
 let⟨o1,o2,⟨gs,t,gt,hP1⟩,rfl⟩:=h;let hl0:(ls++t)[p]?=some l:=by rw[aZ (aC.mp hl).1];exact hl
 let hh0:zK (ls++t) i j=true:=zO hh;dsimp![yJ,xS];let⟨dx,eS⟩:=gt.ins;let⟨as,d,c⟩:=gt.blw;let nO:i<as.length:=by rw[c.len];exact hi
 let n:j<as.length:=by rw[c.len];exact hj
 let a:=c.bit i as[i] (aA nO);let o:∀x,as[i].testBit x=true->x<2*aE.length:=λx hx=>(gt.ok.rng (j:=i) (by rw[←a x];calc hx)).1
 let⟨m,xs,em,U,u,W⟩:=QN (b:=as[j]) λx hx=>cF (o x hx) ()
 let v:∀{k:Nat}(hk:k<as.length),pU (as.map nV) (k:Int)=some (V.int ((as[k]:Nat):Int)):=λ{k} hk=>zN (by rw[aJ,aA hk];rfl)
 calc#[_,_,_,eS,T.cl,T.nB,_,v8 g,_,rfl,_,cX.of d,_,v nO,_,_,_,eS,T.cl,T.nB,_,v8 g,_,rfl,_,cX.of d,_,v n,_,rfl,_,rfl,?_];rw[em];calc#[m,xs,rfl,U,λx hx=>(u x hx).1,λpb H2 s2 y B=>?_];let ho:JV g pb:=gt.out y;let X:=gt.same s2;replace gs:=gs.trans<|aW.g s2;calc#[_,rfl,#[_,cX.of B],?_];refine xH (xs:=xs.map nV) (λk σ H'=>∃(o1 o2:Option V),mM C H2 g aE aX (ls++t) (λL=>∀x∈xs.take k,zK L x j=true) H'/\σ=[some<|V.ref g.r,some<|V.int i,some<|V.int j,some<|V.int p,o1,o2]) #[_,_,mM.refl X (λx z=>by cases z),rfl] (λk σ H' _ h=>?_) (λk x σ H' hx h M hM=>?_) λσ H' h=>?_
 ·let⟨_,_,h,_⟩:=h;exact cX.of<|h.to.1.out ho B
 ·let⟨o1,o2,⟨gs',t',gt',hP⟩,rfl⟩:=h;rw[aJ]at hx;let⟨D,G,rfl⟩:=aM.mp hx;let⟨_,I⟩:=u D<|aR G;let Y:zK (ls++t) D i=true:=by rw[←a D];exact I
  let Z:=o D I;let⟨dx,eS⟩:=gt'.ins;dsimp![yJ];calc#[_,_,eS,lk,_,_,eS,R,g,aE,aX,_,D,i,rfl,gt',zO Y,λp' l' H4 s4 iT J O=>#[small (),λp1 hp1=>?_]];refine wP (gs'.trans<|aW.g s4) (gt'.same s4) iM (zB hp1 _) UC (AV Z hj iT J O (by rw[aZ (aC.mp hl0).1];calc hl0) h1 h2) FZ (λL e h x hx9=>?_) λ_ H3 g3=>hM _ _ #[_,_,g3,rfl]
  let⟨hkl,hke⟩:=aC.mp G;rw[aP hkl,hke]at hx9;rcases bE.mp hx9 with hx9 |hx9
  ·exact e.has<|hP x hx9
  ·rw[aS.mp hx9];exact h
 ·let⟨o1,o2,h,rfl⟩:=h;calc q _ (mM.then gs h λL e hL=>#[λm hm=>e.has<|hP1 m hm,λh0 hh0=>?_]);rw[aD,aQ<|aG _]at hL;let hm:as[i].testBit h0=true:=by rw[a h0];exact zO hh0
  rcases W h0 hm with z |z
  ·exact hL h0 z
  ·rw[c.bit j as[j] (aA n)]at z;exact e.has z
theorem i7{C:Addr}(T:PP K C)(h_e:mK P w K mg base 1 C "line_of" ["self","i","j"] (NF C))(h_F:mK P w K mg base 1 C "has" ["self","i","j"] (fq C))(h_s:mK P w K mg base 2 C "grow" ["self","i","j","why"] (tM C))(F:gF K "grow_by_both" "grow_by_both" s_q f fd):dC P w K mg base fU 3 f fd ["growth","i","boths"] (spGB C):=by
 refine F.okz sc_q λeZ A outer s H vs Q E hr h=>?_
 let⟨g,aE,aX,ls,i,qa,us,rfl,hg,iM,hi,u,v,S,hin,q⟩:=h;let gI:=T.cl;let lk:(sF g).lookup ("grow":Str)=none:=qO g () () () ();let y:(sF g).lookup ("line_of":Str)=none:=qO g () () () ();let B:(sF g).lookup ("has":Str)=none:=qO g () () () ();calc#[_,have nd:=sc_q.nd;#[],?_];dsimp![yJ];calc#[#[_,cX.of u],?_];refine xH (xs:=us) (λk σ H'=>∃(o1 o2 o3:Option V),mM C H g aE aX ls (λL=>MO H (us.take k) ls L i) H'/\σ=[some<|V.ref g.r,some<|V.int i,some<|V.ref qa,o1,o2,o3]) #[_,_,_,mM.refl hg (λt m a b z=>by cases z),rfl] (λk σ H' _ h=>?_) (λk x σ H' hx h M U=>?_) λσ H' h=>?_
 ·let⟨_,_,_,h,_⟩:=h;exact cX.of<|h.to.1.out v u
 ·let⟨o1,o2,o3,D,rfl⟩:=h;let⟨xa,c,a,b,rfl,G,n⟩:=S x<|aR hx;let⟨⟨b1,b2⟩,b3,b4⟩:=hin c a b n;let I:=hg.tups D.to.1 _ _ G;dsimp![uP,jK,vK,yJ];let⟨d,t,gt,hP⟩:=D;let nxt:∀{L:List Ln},Le (ls++t) L->(zK ls i a=true->zK ls i b=true->zK L i ((2*c:Nat):Int)=true)->MO H (us.take<|k+1) ls L i:=λ{L} e hL t0 m a0 b0 hm o J N=>by
   let⟨W,X⟩:=aC.mp hx;rw[aP W,X]at hm;rcases bE.mp hm with hm |hm
   ·exact e.has<|hP t0 m a0 b0 hm o J N
   ·let e1:=V.ref.inj<|aS.mp hm;subst e1;rw[G]at o;let Y:=HO.tup.inj<|cU o;injection Y with e3 e4
    injection e4 with Z e6
    injection e6 with e7 _
    let e3:=V.int.inj e3;let Z:=V.int.inj Z;let e7:=V.int.inj e7;subst Z e7;rw[show m=c by lia];exact hL J N
  let⟨dx,eS⟩:=gt.ins;calc#[_,dH.of I,rfl,_,_,rfl,_,_,rfl,_,_,rfl,rfl,_,_,eS,B,g,aE,aX,_,i,a,rfl,gt,λH1 s1=>#[_,rfl,?_]];let ge1:zK (ls++t) i a=false->mM C H g aE aX ls (λL=>MO H (us.take<|k+1) ls L i) H1:=λz=>#[d.trans<|aW.g s1,t,gt.same s1,nxt (Le.refl _) λha _=>by rw[zO ha]at z;cases z]
  by_cases O:zK (ls++t) i a=true
  ·rw[aL O];replace d:=d.trans<|aW.g s1;replace gt:=gt.same s1;let⟨dx,eS⟩:=gt.ins;calc#[_,_,eS,B,g,aE,aX,_,i,b,rfl,gt,λH2 s2=>#[_,rfl,?_]];replace d:=d.trans<|aW.g s2;replace gt:=gt.same s2;by_cases R:zK (ls++t) i b=true
   ·rw[aL R];let⟨dx,eS⟩:=gt.ins;let hk1:c<aE.length:=(aC.mp n).1;let Y:(2:Int)*(c:Int)=((2*c:Nat):Int):=by lia
    let hpt:uZ aE ((2*c:Nat):Int)=[a,b]:=kF (r:=.bo a b) () (by rw[show(((2*c:Nat):Int)/2).toNat=c by lia];calc n);calc#[_,_,eS,lk,_,_,eS,y,g,aE,aX,_,i,a,rfl,gt,O,λp l H3 s3 hl h1 h2=>?_];replace d:=d.trans<|aW.g s3;replace gt:=gt.same s3;let⟨dx,eS⟩:=gt.ins;calc#[_,_,eS,y,g,aE,aX,_,i,b,rfl,gt,R,λp' l' H4 s4 iT h1' h2'=>#[small (),λp1 hp1=>?_]];rw[Y];exact wP (d.trans<|aW.g s4) (gt.same s4) iM (zB hp1 _) UC (fh hi () hpt hl h1 h2 iT h1' h2') FZ (λL e h=>nxt e λ_ _=>h) λ_ H3 g3=>U _ _ #[_,_,_,g3,rfl]
   ·rw[aI R];exact U _ _ #[_,_,_,#[d,t,gt,nxt (Le.refl _) λ_ hb=>absurd (zO hb) R],rfl]
  ·rw[aI O];exact U _ _ #[_,_,_,ge1<|dY.mpr O,rfl]
 ·let⟨_,_,_,h,rfl⟩:=h;rw[aQ<|aG _]at h;exact q _ h
theorem WP{C:Addr}(T:PP K C)(bi:Bi mg)(h_e:mK P w K mg base 1 C "line_of" ["self","i","j"] (NF C))(h_s:mK P w K mg base 2 C "grow" ["self","i","j","why"] (tM C))(F:gF K "grow_by_clash" "grow_by_clash" s_o f fd):dC P w K mg base fU 3 f fd ["growth","i","j"] (tK cr C):=by
 refine F.okz sc_o λeZ A outer s H vs Q E hr h=>?_
 let⟨g,aE,aX,ls,i,j,rfl,b,iM,u,q⟩:=h;let gI:=T.cl;let v:(sF g).lookup ("grow":Str)=none:=qO g () () () ();let c:(sF g).lookup ("line_of":Str)=none:=qO g () () () ();let⟨dx,eS⟩:=b.ins;calc#[_,have nd:=sc_o.nd;#[],?_];dsimp![yJ,xS];calc#[rfl,?_];let⟨hi,J⟩:=b.ok.rng u;by_cases e:(j:Int)=Builtin.bitXor (i:Int) 1
 ·rw[aL e];rw[EW]at e;let⟨as,d,a⟩:=b.abv;calc#[_,_,_,eS,T.cl,T.nA,_,a9 g,as.length,.inl #[_,cX.of d,by simp],(),by have :=a.len;lia,?_];refine qY (n:=(as.length:Int).toNat) (λk σ H'=>∃(o1:Option V),mM C H g aE aX ls (λL=>∀n:Nat,n<k->zK L i n=true) H'/\σ=[some<|V.ref g.r,some<|V.int i,some<|V.int j,o1]) #[_,mM.refl b λn z=>(),rfl] (λk σ H' hk h M x=>?_) λσ H' h=>?_
  ·let⟨o1,⟨y,t,gt,B⟩,rfl⟩:=h;let m:k<2*aE.length:=by have :=a.len;lia
   let D:(0:Int)+(k:Int)=((k:Nat):Int):=by lia
   let⟨dx,eS⟩:=gt.ins;dsimp![yJ];rw[D];calc#[_,_,eS,v,_,_,eS,c,g,aE,aX,_,i,j,rfl,gt,zO u,λp l H1 s1 hl h1 h2=>#[small (),λN o=>?_]];refine wP (y.trans<|aW.g s1) (gt.same s1) iM (zB o _) IN (RO hi m e hl h1 h2) TW (λL e h n hn=>?_) λ_ O G=>x _ _ #[_,G,rfl]
   rcases iN (mR hn)with z |z
   ·exact e.has<|B n z
   ·rw[z];exact h
  ·let⟨_,⟨h1,t,h2,I⟩,rfl⟩:=h;exact q _ #[h1,t,h2,λ_ n hn=>I n (by have :=a.len;lia)]
 ·rw[aI e];exact q _ (mM.refl b λz=>absurd (by rw[EW];calc z) e)
abbrev s_y:Stmt:=top 38
theorem sc_y:bT ["growth","rules","r","premises","pair","lines"] ["growth","rules","r"] (zF s_y):=by rfl'
theorem fg{ls:List Ln}{r:Nat}{q:xK}{ps:List Int}(hi:i<2*aE.length)(hj:j<2*aE.length)(hr:aX[r]?=some q)(hq:q.2=((i:Int),(j:Int)))(hp:(ps.map λp=>xC ls ls.length<|.n p)=q.1.map some):yZ aE aX ls ls.length #[i,j,"rule",[.n r,.ps ps]]=true:=by
 let a:=(aC.mp hr).1;unfold yZ;rw[aI (by
  intro z;rcases z with z |z
  ·exact z #[by show(0:Int)<=(i:Int);lia,by show(i:Int)<_;lia]
  ·calc z #[by show(0:Int)<=(j:Int);lia,by show(j:Int)<_;lia]),aL rfl,ud rfl,aL #[(),()],bS,hr]
 show(((i:Int),(j:Int))==q.2&&_==_)=true;rw[hq,hp,cD];exact#[dN _,dN _]
def InR(aE:List Rw)(q:xK):Prop:=(0<=q.2.1/\q.2.1<2*(aE.length:Int))/\(0<=q.2.2/\q.2.2<2*(aE.length:Int))
def pq(aE:List Rw)(aX:List xK)(ls L:List Ln)(r:Nat):Prop:=∀q:xK,aX[r]?=some q->InR aE q->(∀p∈q.1,zK ls p.1 p.2=true)->zK L q.2.1 q.2.2=true
inductive spGR (C:Addr) (vs:List V) (H:Hp) (Q:VK) (E:XK):Prop
 |mk (g:pH) (aE:List Rw) (aX:List xK) (ls:List Ln) (ra:Addr) (us:List V) (r:Nat) (_:vs=[.ref g.r,.ref ra,.int r]) (_:mB C H g aE aX ls) (_:aE.length<=100) (_:H ra=some (.lst us)) (_:bN H (aX.map ox) us) (_:r<aX.length) (_:(∀r∈aX,r.1.length<=100)) (_:∀H',mM C H g aE aX ls (λL=>pq aE aX ls L r) H'->Q .non H')
theorem iy{C:Addr}(T:PP K C)(bi:Bi mg)(h_Q:fZ P w K mg base 2 "is_below" ["n","bound"] RU)(h_e:mK P w K mg base 1 C "line_of" ["self","i","j"] (NF C))(h_F:mK P w K mg base 1 C "has" ["self","i","j"] (fq C))(h_s:mK P w K mg base 2 C "grow" ["self","i","j","why"] (tM C))(F:gF K "grow_by_rule" "grow_by_rule" s_y f fd):dC P w K mg base fU 3 f fd ["growth","rules","r"] (spGR C):=by
 refine F.okz sc_y λeZ A outer s H vs Q E hr h=>?_
 let⟨g,aE,aX,ls,ra,us,r,rfl,W,iM,X,Y,Z,hpr,q⟩:=h;let nF:=jM Y;let gI:=T.cl;let lk:(sF g).lookup ("grow":Str)=none:=qO g () () () ();let lk2:(sF g).lookup ("line_of":Str)=none:=qO g () () () ();let lk3:(sF g).lookup ("has":Str)=none:=qO g () () () ();let⟨dx,eS⟩:=W.ins;let nG:aX[r]?=some aX[r]:=aA Z;let hq1:=hpr _<|cO Z;generalize aX[r]=a at nG hq1;let⟨rv,hrv,hrd⟩:=bN.get (d:=ox a) Y (by rw[aJ,nG];rfl);let⟨xa,xl,xb,ps,rfl,hxa,hxl,hps,O⟩:=nrAt hrd;let hpl:=jM hps;calc#[_,have nd:=sc_y.nd;zC (yW 3 nd<|zL xP (zL zQ #[] #[]) zJ)<|zC (yW 4 nd<|zL xP (zL zQ #[] #[]) zJ)<|zC (yK (SV<|kZ<|yH JK rfl bi.all HV<|zG (zT ["n"] ["growth"] [0] (wJ #[]) (λ_ _ _ _ nd=>zZ 0 nd) (λ_ _ _ _=>zW) λ_ _ _ _=>(zU h_Q hr.m rfl<|zG #[]<|zG (yH (QU K) rfl bi.len wR<|zG (KQ K #[] rfl) zI) zI)) zI) #[] zS)<|zH<|yK (kZ<|yH JK rfl bi.all HV<|zG (zT ["i","j"] ["growth"] [0] #[] (λ_ _ _ _ nd=>jQ (K:=K) (n:=2) rfl<|zV (zZ 0 nd)<|zV (zZ 1 nd) xW) (λ_ _ _ _=>zW) λ_ _ _ _=>(xM h_F gI hr.m #[] #[])) zI) (zC (yW 5 nd<|yY qS rfl bi.tuple JL<|zG (zT ["i","j"] ["growth"] [0] #[] (λ_ _ _ _ nd=>jQ (K:=K) (n:=2) rfl<|zV (zZ 0 nd)<|zV (zZ 1 nd) xW) (λ_ _ _ _=>zW) λ_ _ _ _=>(xM h_e gI hr.m #[] #[])) zI) #[]) zS,?_];refine zD λN J=>?_
 dsimp![];calc#[_,cX.of X,_,zN hrv,xa,rfl,_,dH.of hxa,_,lN,J _ _ ?_];clear J;refine zD λN J=>?_
 dsimp![];calc#[_,cX.of X,_,zN hrv,xa,rfl,_,dH.of hxa,_,pV,J _ _ ?_];clear J;let⟨as,hab,hmk⟩:=W.abv;let eR:=hmk.len;refine zD λN J=>?_
 dsimp![];calc#[#[_,dH.of O],?_];refine VH (xs:=[.int a.2.1,.int a.2.2]) (λi ys σ H'=>aW H H'/\ys=(([a.2.1,a.2.2].take i).map λx=>JU as.length<|.n x).map V.bl/\∃o,σ=[o,some<|V.ref g.r]) #[aW.refl _,rfl,_,rfl] (small (by simp)) (λi ys σ H' e=>?_) (λi ys σ H' e=>dH.of<|e.1 _ _ O) (λi x ys σ H' D hx e hD=>?_) λys σ H' e p hp=>?_
 ·let⟨_,rfl,_⟩:=e;rw[aD,aD,bF];lia
 ·let⟨es,rfl,o,rfl⟩:=e;let v:=W.same es;let⟨dx,eS⟩:=v.ins;let hx':∃n,x=V.int n/\[a.2.1,a.2.2][i]?=some n:=by
   match i,hx with
   |0,hx=>cases hx;exact#[_,rfl,rfl]
   |1,hx=>cases hx;exact#[_,rfl,rfl]
  let⟨n,rfl,hn⟩:=hx';let⟨nO,hn2⟩:=aC.mp hn;dsimp![xS,RU];calc#[C,dx,_,eS,T.cl,T.nA,_,a9 g,as.length,.inl #[_,cX.of<|es _ _ hab,by simp],.n n,rfl,hD _ _ _ #[es,?_,_,rfl]];rw[aP nO,hn2,aT,aT];rfl
 let⟨es,rfl,o,rfl⟩:=e;calc#[p,rfl,_,cX.of zA,?_];let s1:=es.trans (zB hp<|.lst<|(([a.2.1,a.2.2].take 2).map λx=>JU as.length<|.n x).map V.bl)
 change (if([JU as.length<|.n a.2.1,JU as.length<|.n a.2.2].all id)=false then Q V.non (upd H' p<|.lst<|(([a.2.1,a.2.2].take 2).map λx=>JU as.length<|.n x).map V.bl)else N _ (upd H' p<|.lst<|(([a.2.1,a.2.2].take 2).map λx=>JU as.length<|.n x).map V.bl))
 generalize upd H' p (.lst<|(([a.2.1,a.2.2].take 2).map λx=>JU as.length<|.n x).map V.bl)=H1 at s1⊢;clear hp es eS;let hg1:=W.same s1;by_cases hB:(0<=a.2.1/\a.2.1<2*(aE.length:Int))/\(0<=a.2.2/\a.2.2<2*(aE.length:Int))
 case neg=>
  rw[aL]
  ·exact q _ ((mM.refl W λq' u lL _=>by rw[nG]at u;cases u;calc absurd lL hB).same s1)
  ·rw[dY];intro z;simp[JU]at z;exact hB ()
 rw[aI (by simp[JU];lia)];calc J _ _ ?_;clear J;let⟨⟨b1,b2⟩,b3,b4⟩:=hB;let⟨i,hi⟩:=dZ b1;let⟨j,hj⟩:=dZ b3;let B:=bN.same s1 hps;let b:=s1 _ _ hxl;let c:=s1 _ _ O;clear hab hmk eR;dsimp![];calc#[#[_,cX.of b],?_];refine yT (xs:=ps) (λk ys σ H'=>aW H1 H'/\ys=((a.1.take k).map λx=>zK ls x.1 x.2).map V.bl/\∃o1 o2,σ=[o1,o2,some<|V.ref g.r]) #[aW.refl _,rfl,_,_,rfl] (small ()) (λk ys σ H' e=>?_) (λi ys σ H' e=>cX.of<|e.1 _ _ b) (λk x ys σ H' D hx e hD=>?_) λys σ H' e p hp=>?_
 ·let⟨_,rfl,_⟩:=e;rw[aD,aD,bF];lia
 ·let⟨es,rfl,o1,o2,rfl⟩:=e;let v:=hg1.same es;let⟨dx,eS⟩:=v.ins;let⟨pr,G,R⟩:=xG B hx;let⟨xp,rfl,y⟩:=uk R;replace y:=es _ _ y;let⟨S,U⟩:=aC.mp G;dsimp![uP,jK,vK,yJ];calc#[_,dH.of y,rfl,_,_,rfl,_,_,rfl,rfl,_,_,eS,lk3,g,aE,aX,ls,_,_,rfl,v,λH3 M=>hD _ _ _ #[es.trans M,?_,_,_,rfl]];rw[aP S,U,aT,aT];rfl
 let⟨es,rfl,o1,o2,rfl⟩:=e;calc#[p,rfl,_,cX.of zA,?_];rw[aQ ()];let s2:=es.trans (zB hp<|.lst<|(a.1.map λx=>zK ls x.1 x.2).map V.bl);generalize upd H' p (.lst<|(a.1.map λx=>zK ls x.1 x.2).map V.bl)=H2 at s2⊢;clear hp es;let hg2:=hg1.same s2;replace b:=s2 _ _ b;replace c:=s2 _ _ c;replace B:=bN.same s2 B;by_cases hA:(a.1.map λx=>zK ls x.1 x.2).all id=true
 case neg=>
  rw[aI hA];exact q _ ((mM.refl W λq' u _ hp'=>absurd (by rw[nG]at u;cases u;rw[pC,cW];calc λp hp=>hp' p hp) hA).same (s1.trans s2))
 rw[aL hA];rw[pC,cW]at hA;calc#[#[_,cX.of b],?_];refine yT (xs:=ps) (λk ys σ H'=>aW H2 H'/\(∃ns:List Int,ys=ns.map V.int/\ns.length=k/\(ns.map λp=>xC ls ls.length<|.n p)=(a.1.take k).map some)/\∃o1 o2,σ=[o1,o2,some<|V.ref g.r]) #[aW.refl _,#[[],rfl,rfl,rfl],_,_,rfl] (small ()) (λk ys σ H' e=>?_) (λi ys σ H' e=>cX.of<|e.1 _ _ b) (λk x ys σ H' D hx e hD=>?_) λys σ H' e p hp=>?_
 ·let⟨_,⟨ns,rfl,hl,_⟩,_⟩:=e;rw[aD];lia
 ·let⟨es,⟨ns,rfl,hl,I⟩,o1,o2,rfl⟩:=e;let v:=hg2.same es;let⟨dx,eS⟩:=v.ins;let⟨pr,G,R⟩:=xG B hx;let⟨xp,rfl,y⟩:=uk R;replace y:=es _ _ y;let⟨S,U⟩:=aC.mp G;dsimp![uP,jK,vK,yJ];calc#[_,dH.of y,rfl,_,_,rfl,_,_,rfl,rfl,_,_,eS,lk2,g,aE,aX,ls,_,_,rfl,v,hA pr<|aR G,λp l H3 M hl1 h1 h2=>hD _ _ _ #[es.trans M,#[ns++[(p:Int)],by rw[aT];rfl,by simp[hl],?_],_,_,rfl]];rw[aP S,U,aT,aT,I];show _++[xC ls ls.length<|.n (p:Int)]=_;rw[uF hl1,h1,h2];rfl
 let⟨es,⟨ns,rfl,hl,I⟩,o1,o2,rfl⟩:=e;rw[aQ ()]at I;calc#[p,rfl,_,.inl #[cX.of zA,λl iT=>?_]];let M:=(es.trans<|zB hp<|.lst<|ns.map V.int).trans (zB iT<|.tup<|ns.map V.int);let kl:upd (upd H' p<|.lst<|ns.map V.int) l (.tup<|ns.map V.int) l=some (.tup<|ns.map V.int):=zA;generalize upd (upd H' p<|.lst<|ns.map V.int) l (.tup<|ns.map V.int)=H3 at M kl⊢;replace c:=M _ _ c;let hg3:=hg2.same M;let⟨dx,eS⟩:=hg3.ins;dsimp![yJ];calc#[_,_,eS,lk,_,dH.of c,_,lN,_,dH.of c,_,pV,small (),λp2 mE=>?_];rw[hi,hj];refine wP (t:=[]) (aW.g<|(s1.trans s2).trans M) (by rw[cK];calc hg3) iM (zB mE _) (x:="rule") (as:=[.n r,.ps ns]) #[p2,_,rfl,zA,_,_,rfl,rfl,_,_,rfl,rfl,_,_,rfl,xc<|zB mE _ _ _ kl,rfl] ?_ #[by simp,λps' h=>?_] (λL e h q' u _ _=>by rw[nG]at u;cases u;rw[hi,hj];calc h) λ_ H4 g4=>q _ g4
 ·rw[cK];exact fg () () nG (Prod.ext hi hj) I
 ·simp at h;subst h;lia
abbrev si:Stmt:=top 39
theorem mw:bT ["sheet","rules","growth","boths","waiting","r","k","i","j"] ["sheet","rules"] (zF si):=by rfl'
theorem Le.back{L L':List Ln}(e:Le L L'){a:Nat}(ha:a<L.length)(h:L'[a]?=some l):L[a]?=some l:=by
 let⟨t,rfl⟩:=e;rw[aZ ha]at h;exact h
structure Cl(aE:List Rw)(aX:List xK)(k:Nat)(L:List Ln):Prop where
 turn:∀(a:Nat)(l:Ln)(i j:Nat),a<k->L[a]?=some l->l.i=i->l.j=j->zK L ((lY j:Nat):Int) ((lY i:Nat):Int)=true
 clash:∀(a:Nat)(l:Ln)(i j:Nat),a<k->L[a]?=some l->l.i=i->l.j=j->(j:Int)=sW i->∀n:Nat,n<2*aE.length->zK L i n=true
 chain:∀(a b:Nat)(l l':Ln)(i j m:Nat),a<k->b<k->L[a]?=some l->L[b]?=some l'->l.i=i->l.j=j->l'.i=j->l'.j=m->zK L i m=true
 both:∀(a b:Nat)(l l':Ln)(i n:Nat)(x y:Int),a<k->b<k->L[a]?=some l->L[b]?=some l'->l.i=i->l.j=x->l'.i=i->l'.j=y->aE[n]?=some (.bo x y)->zK L i ((2*n:Nat):Int)=true
 rule:∀(r:Nat)(q:xK),aX[r]?=some q->InR aE q->(∀p∈q.1,∃(a:Nat)(l:Ln),a<k/\L[a]?=some l/\l.i=p.1/\l.j=p.2)->zK L q.2.1 q.2.2=true
theorem Cl.le{k:Nat}{L L':List Ln}(h:Cl aE aX k L)(hk:k<=L.length)(e:Le L L'):Cl aE aX k L':=by
 let b:∀{a:Nat}{l:Ln},a<k->L'[a]?=some l->L[a]?=some l:=λha hl=>e.back () hl
 refine#[λa l i j ha hl h1 h2=>e.has<|h.turn a l i j ha (b ha hl) h1 h2,λa l i j ha hl h1 h2 c n hn=>e.has<|h.clash a l i j ha (b ha hl) h1 h2 c n hn,λa d l l' i j m ha hb hl iT h1 h2 c f=>e.has<|h.chain a d l l' i j m ha hb (b ha hl) (b hb iT) h1 h2 c f,
  λa d l l' i n x y ha hb hl iT h1 h2 c f hr=>e.has<|h.both a d l l' i n x y ha hb (b ha hl) (b hb iT) h1 h2 c f hr,λr q hr hi hp=>e.has<|h.rule r q hr hi λp g=>?_]
 let⟨a,l,ha,hl,h1,h2⟩:=hp p g;exact#[a,l,ha,b ha hl,h1,h2]
theorem Cl.step{k:Nat}{L L':List Ln}(h:Cl aE aX k L)(e:Le L L'){l0:Ln}(hk:L[k]?=some l0)(hi:l0.i=i)(hj:l0.j=j)
 (h1:zK L' ((lY j:Nat):Int) ((lY i:Nat):Int)=true) (h2:∀m:Nat,zK L j m=true->zK L' i m=true) (h3:∀m:Nat,zK L m i=true->zK L' m j=true)
 (h4:∀(n:Nat)(x y:Int),aE[n]?=some (.bo x y)->((j:Int)=x\/(j:Int)=y)->zK L i x=true->zK L i y=true->zK L' i ((2*n:Nat):Int)=true)
 (h5:(j:Int)=sW i->∀n:Nat,n<2*aE.length->zK L' i n=true)
 (h6:∀(r:Nat)(q:xK),aX[r]?=some q->InR aE q->((i:Int),(j:Int))∈q.1->(∀p∈q.1,zK L p.1 p.2=true)->zK L' q.2.1 q.2.2=true):Cl aE aX (k+1) L':=by
 let G:=(aC.mp hk).1;let hc:=h.le () e;let b:∀{a:Nat}{l:Ln},a<k+1->L'[a]?=some l->L[a]?=some l:=λha hl=>e.back () hl
 let z:∀{a:Nat},a<k+1->a<k\/a=k:=λha=>by lia
 let v:∀{a:Nat}{l:Ln},a=k->a<k+1->L'[a]?=some l->l=l0:=λH ha hl=>by
  have :=b ha hl;rw[H,hk]at this;exact(cU this).symm
 let hs:∀{a:Nat}{l:Ln},a<k+1->L'[a]?=some l->zK L l.i l.j=true:=λha hl=>fK.mpr #[_,_,b ha hl,rfl,rfl]
 refine#[λa l f o ha hl c d=>?_,λa l f o ha hl c d u n hn=>?_,λa E l l' f o m ha hb hl iT c d u C=>?_,λa E l l' f n x y ha hb hl iT c d u C hr=>?_,λr q hr D hp=>?_]
 ·rcases z ha with za |za
  ·exact hc.turn a l f o za hl c d
  ·let g:=v za ha hl;subst g;let s:f=i:=by lia
   let w:o=j:=by lia
   rw[s,w];exact h1
 ·rcases z ha with za |za
  ·exact hc.clash a l f o za hl c d u n hn
  ·let g:=v za ha hl;subst g;let s:f=i:=by lia
   let w:o=j:=by lia
   subst s w;exact h5 u n hn
 ·rcases z ha with za |za
  ·rcases z hb with zb |zb
   ·exact hc.chain a E l l' f o m za zb hl iT c d u C
   ·let g:=v zb hb iT;subst g;let w:o=i:=by lia
    let em:m=j:=by lia
    have :=hs ha hl;rw[c,d,w]at this;rw[em];exact h3 f this
  ·let g:=v za ha hl;subst g;let s:f=i:=by lia
   let w:o=j:=by lia
   have :=hs hb iT;rw[u,C,w]at this;rw[s];exact h2 m this
 ·let A:=hs ha hl;let B:=hs hb iT;rw[c,d]at A;rw[u,C]at B;rcases z ha with za |za
  ·rcases z hb with zb |zb
   ·exact hc.both a E l l' f n x y za zb hl iT c d u C hr
   ·let g:=v zb hb iT;subst g;let s:f=i:=by lia
    subst s;exact h4 n x y hr (.inr ()) A B
  ·let g:=v za ha hl;subst g;let s:f=i:=by lia
   subst s;exact h4 n x y hr (.inl ()) A B
 ·by_cases nT:∀p∈q.1,∃(a:Nat)(l:Ln),a<k/\L'[a]?=some l/\l.i=p.1/\l.j=p.2
  ·exact hc.rule r q hr D nT
  ·refine h6 r q hr D (gX λF=>nT λp t=>?_) λp t=>?_
   ·let⟨a,l,ha,hl,c,d⟩:=hp p t;rcases z ha with za |za
    ·exact#[a,l,za,hl,c,d]
    ·let g:=v za ha hl;subst g;let ep:p=((i:Int),(j:Int)):=Prod.ext (by rw[←c,hi]) (by rw[←d,hj]);exact absurd (ep▸t) F
   ·let⟨a,l,ha,hl,c,d⟩:=hp p t;have :=hs ha hl;rw[c,d]at this;exact this
inductive mj (K:W.Frag) (vs:List V) (H:Hp) (Q:VK) (E:XK):Prop
 |mk (sa ra:Addr) (us vs':List V) (aE:List Rw) (aX:List xK) (_:vs=[.ref sa,.ref ra]) (_:H sa=some (.lst us)) (_:gU K H aE us) (_:H ra=some (.lst vs')) (_:bN H (aX.map ox) vs') (_:aE.length<=100) (_:qH aE) (_:aX.length<=100) (_:(∀r∈aX,r.1.length<=100)) (_:∀(la:Addr)(ws:List V)(ls:List Ln) H',aW H H'->H' la=some (.lst ws)->uB H' ls ws->MS aE aX ls->Pl aE (2*aE.length) aE.length ls->Cl aE aX ls.length ls->Q (.ref la) H')
theorem gL.same{g:pH}{H2:Hp}(s:aW H H2)(e:gL g H2 H')(h1:H g.la=none)(h2:H g.pa=none)(h3:H g.aa=none)(h4:H g.ba=none):aW H H':=λb o hb=>by
 let go:∀{a:Addr},H a=none->b≠a:=λha z=>by rw[z,ha]at hb;cases hb
 exact e b o (s b o hb) (go h1) (go h2) (go h3)<|go h4
theorem GP{C:Addr}(T:PP K C)(bi:Bi mg)(h_l:cz P w K mg base 1 C "Growth" ["self","many"] (q9 C))(h_n:fZ P w K mg base 1 "boths_by_part" ["sheet"] (spBo K))(h_g:fZ P w K mg base 1 "rules_by_premise" ["rules"] spWa)(h_ca:fZ P w K mg base 3 "begin" ["growth","sheet"] (spBe K C))(h_x:fZ P w K mg base 3 "grow_by_turn" ["growth","i","j"] (tK ph C))(h_m:fZ P w K mg base 3 "grow_by_chain" ["growth","i","j"] (tK cu C))(h_q:fZ P w K mg base 3 "grow_by_both" ["growth","i","boths"] (spGB C))(h_o:fZ P w K mg base 3 "grow_by_clash" ["growth","i","j"] (tK cr C))(h_y:fZ P w K mg base 3 "grow_by_rule" ["growth","rules","r"] (spGR C))(F:gF K "closing" "closing" si f fd):dC P w K mg base fU 4 f fd ["sheet","rules"] (mj K):=by
 refine F.okz mw λeZ A outer s H vs Q E hr h=>?_
 let⟨sa,ra,us,vs',aE,aX,rfl,hsa,hrw,hra,hru,iM,hin,hr100,hpr,q⟩:=h;let nF:=hrw.len;let hvl:=jM hru;let gI:=T.cl;calc#[_,have nd:=mw.nd;zC (yW 2 nd<|BK h_l hr.m rfl #[])<|zC #[]<|zC #[]<|zC #[]<|zC #[]<|zC #[]<|zC (BC bX #[]<|zC (yW 7 nd<|zL xP (zL zQ #[] #[]) zJ)<|zC (yW 8 nd<|zL xP (zL zQ #[] #[]) zJ)<|zC #[]<|zC #[]<|zC (xA<|zU h_q hr.m rfl<|zG #[]<|zG #[]<|zG (zL zQ #[] #[]) zI)<|zC #[]<|zC (yC bX rfl (YM<|TR (xO hr) #[] #[] #[] #[rfl,rfl,rfl,rfl]) #[] #[])<|zH<|UY (i:=6) nd rfl (Or.inl rfl) zJ vv) #[],?_];refine zD λN J=>?_
 dsimp![IT];calc#[us.length,.inl #[_,cX.of hsa,rfl],.inl #[(),()],λx dx hx hdx mO=>?_];let s1:aW H (upd (upd H dx<|.own x) x<|.ins C dx []):=((aW.refl H).upd hdx).upd hx;let k1:upd (upd H dx<|.own x) x (.ins C dx []) x=some (.ins C dx []):=zA;generalize upd (upd H dx<|.own x) x (.ins C dx [])=H1 at s1 k1⊢;let e2:(2:Int)*(us.length:Int)=((2*aE.length:Nat):Int):=by rw[nF];lia
 rw[e2];calc#[x,dx,aE,aX,rfl,k1,iM,λg H2 hgr x2 hla hpa haa hba hg=>#[rfl,J _ _ ?_]];subst hgr;clear J;let s2:aW H H2:=λb o hb=>x2 b o (s1 _ _ hb) (λz=>by rw[z,hx]at hb;cases hb)
 replace hla:=s1.free hla;replace hpa:=s1.free hpa;replace haa:=s1.free haa;replace hba:=s1.free hba;let outH:∀{a:Addr}{o:HO},H a=some o->JV g a:=λ{a o} ha=>by
  let go:∀{b:Addr},H b=none->a≠b:=λhb z=>by rw[z,hb]at ha;cases ha
  exact#[go hla,go hpa,go haa,go hba]
 clear x2 k1 s1;refine zD λN J=>?_
 dsimp![];calc#[sa,us,aE,rfl,s2 _ _ hsa,hrw.same s2,iM,hin,λpb qs n H3 s3 hpb0 hqs0 hpb hql hbo hbc=>J _ _ ?_];clear J;let outb:=hg.out hpb0;let outq:∀q∈qs,JV g q:=λq hq=>hg.out<|hqs0 q hq
 replace hg:=hg.same s3;replace s2:=s2.trans s3;clear s3 hqs0 hpb0;refine zD λN J=>?_
 dsimp![];calc#[ra,vs',aX,rfl,s2 _ _ hra,bN.same s2 hru,hr100,hpr,λpw kvs n' H4 s4 hpw0 hpw hwa hwc=>J _ _ ?_];clear J;let outw:=hg.out hpw0;let hwa':∀kv∈kvs,∃(q:Addr)(ns:List Nat),kv.2=.ref q/\H4 q=some (.lst<|ns.map nV)/\JV g q/\∀x∈ns,x<aX.length:=λkv hkv=>by
  let⟨q',ns',h1,h2,h3,h4,h5⟩:=hwa kv hkv;exact#[q',ns',h1,h2,hg.out h3,h5]
 clear hwa;replace hg:=hg.same s4;replace s2:=s2.trans s4;replace hpb:=s4 _ _ hpb;replace hbo:=hbo.same s4;replace hbc:=hbc.same s4;clear s4 hpw0;let SS:∀{H'},gL g H4 H'->aW H H':=λe=>gL.same s2 e hla hpa haa hba
 refine zD λN J=>?_
 dsimp![];calc#[g,sa,us,aE,aX,rfl,hg,iM,s2 _ _ hsa,hrw.same s2,outH hsa,hin,λH5 g5=>J _ _ ?_];clear J;let np:∀{r:Nat}{ls L L':List Ln},pq aE aX ls L r->Le L L'->∀q:xK,aX[r]?=some q->InR aE q->q.1=[]->zK L' q.2.1 q.2.2=true:=λh e q hq hi h0=>e.has (h q hq hi λp hp=>by rw[h0]at hp;cases hp)
 refine zM (λσ H'=>∃(o1 o2 O R:Option V),mM C H4 g aE aX [] (λL=>Pl aE (2*aE.length) aE.length L/\Cl aE aX 0 L) H'/\σ=[some<|V.ref sa,some<|V.ref ra,some<|V.ref g.r,some<|V.ref pb,some<|V.ref pw,o1,o2,O,R]) (λN J=>?_) λσ H' h=>?_
 ·dsimp![];calc#[vs'.length,.inl #[_,cX.of<|SS g5.to.1 _ _ hra,rfl],(),(),?_];refine qY (n:=(vs'.length:Int).toNat) (λi σ H'=>∃(o1 o2 O R:Option V),mM C H4 g aE aX [] (λL=>Pl aE (2*aE.length) aE.length L/\∀r:Nat,r<i->∀q:xK,aX[r]?=some q->InR aE q->q.1=[]->zK L q.2.1 q.2.2=true) H'/\σ=[some<|V.ref sa,some<|V.ref ra,some<|V.ref g.r,some<|V.ref pb,some<|V.ref pw,o1,o2,O,R]) #[_,_,_,_,(by
   let⟨h1,t,h2,h3⟩:=g5;calc#[h1,t,h2,h3,λr hr=>()]),rfl] (λi σ H' hi h M hM=>?_) λσ H' h=>?_
  rotate_left
  ·let⟨o1,o2,O,R,⟨h1,t,h2,h3,h4⟩,rfl⟩:=h;calc J _ _ #[_,_,_,_,#[h1,t,h2,h3,#[λa l i j ha=>(),λa l i j ha=>(),λa b l l' i j m ha=>(),λa b l l' i n x y ha=>(),λr q hr hir hp=>?_]],rfl];calc h4 r (by have :=(aC.mp hr).1;lia) q hr hir ?_;cases hq:q.1 with
   |nil=>rfl
   |cons p ps=>
    let⟨a,l,ha,_⟩:=hp p (by rw[hq];calc bD);lia
  let⟨o1,o2,O,R,⟨G,t,gt,hP,hR⟩,rfl⟩:=h;let e0:(0:Int)+(i:Int)=((i:Nat):Int):=by lia
  dsimp![];rw[e0];calc#[g,aE,aX,_,ra,vs',i,rfl,gt,iM,SS G _ _ hra,bN.same (SS G) hru,(),hpr,λH6 g6=>?_];calc hM _ _ #[_,_,_,_,mM.then G g6 λL e h=>#[hP.le e,λr hr=>?_],rfl];rcases iN (mR hr)with z |z
  ·exact λq hq hi h0=>e.has<|hR r z q hq hi h0
  ·rw[z];exact np h<|Le.refl _
 let⟨o1,o2,O,R,⟨G,t,gt,hP,hC⟩,rfl⟩:=h;rw[dj]at gt hP hC;refine zD λN J=>?_
 dsimp![];calc J _ _ ?_;clear J;refine zM (λσ H'=>∃(o1 o2 O R:Option V)(t:List Ln),gL g H4 H'/\mB C H' g aE aX t/\Pl aE (2*aE.length) aE.length t/\Cl aE aX t.length t/\σ=[some<|V.ref sa,some<|V.ref ra,some<|V.ref g.r,some<|V.ref pb,some<|V.ref pw,o1,o2,O,R]) (λN J=>?_) λσ H' h=>?_
 ·calc qg (λm σ H'=>∃(k:Nat)(t:List Ln)(o1 O R:Option V),m=(2*aE.length)*(2*aE.length)-k/\k<=t.length/\gL g H4 H'/\mB C H' g aE aX t/\Pl aE (2*aE.length) aE.length t/\Cl aE aX k t/\σ=[some<|V.ref sa,some<|V.ref ra,some<|V.ref g.r,some<|V.ref pb,some<|V.ref pw,o1,some<|V.int k,O,R]) #[_,0,t,_,_,_,rfl,bZ _,G,gt,hP,hC,rfl] λm σ H' h B hB=>?_;clear hP hC;let⟨k,t,o1,O,R,rfl,hk,G,gt,hP,hC,rfl⟩:=h;let htl:=gt.ok.len;let⟨dx,eS⟩:=gt.ins;let⟨ws,hl,X⟩:=gt.lin;let hwl:=jM X;dsimp![xS];calc#[_,_,_,eS,T.cl,T.nL,_,OL g,ws.length,.inl #[_,cX.of hl,rfl],?_];by_cases hkl:k<t.length
  case neg=>
   rw[aI ()];rw[show k=t.length by lia]at hC;exact J _ _ #[_,_,_,_,t,G,gt,hP,hC,rfl]
  rw[aL ()];let Y:t[k]?=some t[k]:=aA hkl;let S:=qW<|gt.ok.snd k _ Y;generalize t[k]=l0 at Y S;obtain⟨i,hi⟩:∃i:Nat,l0.i=(i:Int):=dZ S.1.1;obtain⟨j,hj⟩:∃j:Nat,l0.j=(j:Int):=dZ S.2.1;let⟨v,hv,hvd⟩:=bN.get (d:=MG l0) X (by rw[aJ,Y];rfl);let⟨xa,u,rfl,hxa,_⟩:=ai hvd;rw[hi,hj]at hxa S;let hh:zK t i j=true:=fK.mpr #[k,l0,Y,hi,hj];refine hB _ (λσ' H''=>∃(t':List Ln)(o1 O R:Option V),k+1<=t'.length/\gL g H4 H''/\mB C H'' g aE aX t'/\Pl aE (2*aE.length) aE.length t'/\Cl aE aX (k+1) t'/\σ'=[some<|V.ref sa,some<|V.ref ra,some<|V.ref g.r,some<|V.ref pb,some<|V.ref pw,o1,some<|V.int ((k+1:Nat):Int),O,R]) (λσ' H'' h=>?_) λM hM=>?_
  ·let⟨t',o1,O,R,h1,h2,h3,h4,h5,rfl⟩:=h;exact#[_,(),k+1,t',_,_,_,rfl,h1,h2,h3,h4,h5,rfl]
  refine zD λN1 D=>?_
  dsimp![xS];calc#[_,_,_,eS,T.cl,T.nL,_,OL g,_,rfl,_,cX.of hl,_,zN hv,_,rfl,_,dH.of hxa,_,lN,D _ _ ?_];clear D;refine zD λN1 D=>?_
  dsimp![xS];calc#[_,_,_,eS,T.cl,T.nL,_,OL g,_,rfl,_,cX.of hl,_,zN hv,_,rfl,_,dH.of hxa,_,pV,D _ _ ?_];clear D;refine zD λN1 D=>?_
  dsimp![];calc#[g,aE,aX,t,i,j,rfl,gt,iM,hh,λH6 g6=>D _ _ ?_];clear D;let⟨Z,W,gt6,rt⟩:=g6;replace G:=G.trans Z;refine zD λN1 D=>?_
  dsimp![];calc#[g,aE,aX,_,i,j,rfl,gt6,iM,zO hh,λH7 g7=>D _ _ ?_];clear D;let⟨gs7,t7,gt7,rc⟩:=g7;replace G:=G.trans gs7;let hjl:j<qs.length:=by lia
  let⟨us1,hu1,_,ht1⟩:=hbo qs[j] (cO hjl);let tu:=hg.tups G;refine zD λN1 D=>?_
  dsimp![];calc#[_,cX.of<|G.out outb hpb,_,zN (by rw[aJ,aA hjl];rfl),?_];calc#[g,aE,aX,_,i,qs[j],us1,rfl,gt7,iM,(),G.out (outq _<|cO hjl) hu1,outq _<|cO hjl,λv hv=>(ht1 v hv).tups tu,hin,λH8 g8=>D _ _ ?_];clear D;let⟨gs8,t8,gt8,rb⟩:=g8;replace G:=G.trans gs8;refine zD λN1 D=>?_
  dsimp![];calc#[g,aE,aX,_,i,j,rfl,gt8,iM,zO<|zO<|zO hh,λH9 g9=>D _ _ ?_];clear D;let⟨gs9,t9,gt9,rx⟩:=g9;replace G:=G.trans gs9;let hk9:k+1<=((((t++W)++t7)++t8)++t9).length:=by simp only[aH];lia
  let h1:zK ((((t++W)++t7)++t8)++t9) ((lY j:Nat):Int) ((lY i:Nat):Int)=true:=zO<|zO<|zO rt;let h2:∀m:Nat,zK t j m=true->zK ((((t++W)++t7)++t8)++t9) i m=true:=λm hm=>zO<|zO<|rc.1 m<|zO hm
  let h3:∀m:Nat,zK t m i=true->zK ((((t++W)++t7)++t8)++t9) m j=true:=λm hm=>zO<|zO<|rc.2 m<|zO hm
  let h4:∀(n:Nat)(x y:Int),aE[n]?=some (.bo x y)->((j:Int)=x\/(j:Int)=y)->zK t i x=true->zK t i y=true->zK ((((t++W)++t7)++t8)++t9) i ((2*n:Nat):Int)=true:=λn x y hn hxy hx hy=>by
   let⟨us',t',g1,g2,g3⟩:=hbc n x y (aC.mp hn).1 hn j qs[j] hxy (aA hjl);rw[hu1]at g1;cases g1;exact zO<|rb t' n x y g2 (tu _ _ g3) (zO<|zO hx)<|zO<|zO hy
  let h5:(j:Int)=sW i->∀n:Nat,n<2*aE.length->zK ((((t++W)++t7)++t8)++t9) i n=true:=rx;let ett:Le t ((((t++W)++t7)++t8)++t9):=#[W++(t7++(t8++t9)),by simp[cM]]
  generalize (((t++W)++t7)++t8)++t9=tt at gt9 hk9 h1 h2 h3 h4 h5 ett;clear rt rc rb rx;clear Z gt6 gs7 gt7 gs8 gt8 gs9 tu eS hl X htl gt;refine zD λN1 D=>?_
  dsimp![RK];let hpw9:=G.out outw hpw;calc#[.inr #[_,.inl hpw9],small (),λp hp=>#[bZ _,λp1 hp1=>?_]];let U:=(zB hp<|.tup [V.int i,V.int j]).trans (zB hp1<|.lst []);let kp:upd (upd H9 p<|.tup [V.int i,V.int j]) p1 (.lst []) p=some (.tup [V.int i,V.int j]):=zB hp1 (.lst []) _ _ zA;let kp1:upd (upd H9 p<|.tup [V.int i,V.int j]) p1 (.lst []) p1=some (.lst []):=zA;let op1:=(gt9.same<|zB hp<|.tup [V.int i,V.int j]).out hp1;generalize upd (upd H9 p<|.tup [V.int i,V.int j]) p1 (.lst [])=H10 at U kp kp1⊢;let hq:∃(q:Addr)(ns:List Nat),(yB kvs<|yU i j).getD (.ref p1)=.ref q/\H10 q=some (.lst<|ns.map nV)/\JV g q/\(∀x∈ns,x<aX.length)/\∀r,MN H4 kvs ((i:Int),(j:Int)) r->r∈ns:=by
   cases hv:yB kvs (yU i j)with
   |none=>exact#[p1,[],rfl,kp1,op1,(λx z=>by cases z),λr z0=>by let⟨q,ns,g1,_⟩:=z0;rw[show yB kvs (yU (i:Int) (j:Int))=none from hv]at g1;cases g1]
   |some v=>
    let⟨kv,hkv,rfl⟩:=AM hv;let⟨q',ns',g1,g2,g3,g4⟩:=hwa' kv hkv;calc#[q',ns',g1,U _ _<|G.out g3 g2,g3,g4,λr z1=>?_];let⟨q,ns,w1,w2,w3⟩:=z1;rw[show yB kvs (yU (i:Int) (j:Int))=some kv.2 from hv,g1]at w1;let e1:=V.ref.inj<|cU w1;subst e1;rw[g2]at w2;rw[GV<|HO.lst.inj<|cU w2];exact w3
  let⟨qa,ns,hqa1,hqa2,hqa3,hqa4,hqa5⟩:=hq;calc#[_,.inr #[_,yU i j,p,.inl<|U _ _ hpw9,rfl,kp,rfl],qa,hqa1,#[_,cX.of hqa2],?_];replace G:=G.trans<|aW.g U;replace gt9:=gt9.same U;clear U kp kp1 hp hp1 op1 hqa1;refine xH (xs:=ns.map nV) (λm σ H'=>∃(o1:Option V)(t':List Ln),k+1<=t'.length/\gL g H4 H'/\gL g H10 H'/\mB C H' g aE aX t'/\Le tt t'/\(∀r∈ns.take m,∀q:xK,aX[r]?=some q->InR aE q->(∀p∈q.1,zK tt p.1 p.2=true)->zK t' q.2.1 q.2.2=true)/\σ=[some<|V.ref sa,some<|V.ref ra,some<|V.ref g.r,some<|V.ref pb,some<|V.ref pw,o1,some<|V.int k,some<|V.int i,some<|V.int j]) #[_,tt,hk9,G,aW.g<|aW.refl _,gt9,Le.refl _,(λr z=>by cases z),rfl] (λm σ H' _ h=>?_) (λm x σ H' hx h M hM=>?_) λσ H' h=>?_
  ·let⟨_,_,_,_,h,_⟩:=h;exact cX.of<|h.out hqa3 hqa2
  ·let⟨o1,t',hk',gs',gs2',gt',I,hR,rfl⟩:=h;rw[aJ]at hx;let⟨x',hx',rfl⟩:=aM.mp hx;dsimp![];calc#[g,aE,aX,_,ra,vs',x',rfl,gt',iM,SS gs' _ _ hra,bN.same (SS gs') hru,hqa4 _<|aR hx',hpr,λH6 g6=>?_];let⟨Z,W,gt6,rr⟩:=g6;calc hM _ _ #[_,t'++W,by rw[aH];lia,gs'.trans Z,gs2'.trans Z,gt6,I.trans #[W,rfl],λr hr q hq hi0 hp0=>?_,rfl];let⟨hkl',hke⟩:=aC.mp hx';rw[aP hkl',hke]at hr;rcases bE.mp hr with hr |hr
   ·exact zO<|hR r hr q hq hi0 hp0
   ·rw[aS.mp hr]at hq;exact rr q hq hi0 λp hp=>I.has<|hp0 p hp
  ·let⟨o1,t',hk',gs',gs2',gt',I,hR,rfl⟩:=h;rw[aD,aQ<|aG _]at hR;let e9:=ett.trans I;let hC':Cl aE aX (k+1) t':=hC.step e9 Y hi hj (I.has h1) (λm hm=>I.has<|h2 m hm) (λm hm=>I.has<|h3 m hm) (λn x y a b c d=>I.has<|h4 n x y a b c d) (λa n b=>I.has<|h5 a n b) λr q hr hir hin' hp=>?_
   ·calc D _ _ ?_;dsimp![RM,ay];exact hM _ _ #[t',_,_,_,hk',gs',gt',hP.le e9,hC',by rw[Int.natCast_add];rfl]
   ·let⟨x,hx⟩:=lD hin';exact hR r (hqa5 r<|hwc r q x _ hr hx<|.inl (aC.mp hr).1) q hr hir λp hpq=>ett.has<|hp p hpq
 let⟨o1,o2,O,R,t,G,gt,hP,hC,rfl⟩:=h;let⟨dx,eS⟩:=gt.ins;let⟨ws,hl,X⟩:=gt.lin;dsimp![xS];exact#[_,_,_,eS,T.cl,T.nL,_,OL g,q g.la ws t _ (SS G) hl X gt.ok hP hC]
noncomputable def pT(n:Nat):Nat:=n+1-2*(n % 2)
noncomputable def lZ(e:Bool)(n:Nat):Nat:=if e then pT n else n
noncomputable def pQ(aE:List Rw)(r:Rw):Option Nat:=aE.findIdx? λx=>mI (wp x)<|wp r
noncomputable def xF(aE:List Rw)(r:Rw):List Rw×Nat:=match pQ aE r with
 |some k=>(aE,2*k)
 |none=>(aE++[r],2*aE.length)
mutual
noncomputable def num(aE:List Rw):Tm->Option Nat
 | .name x=>(pQ aE<|.nm x).map (2* ·)
 | .node w ts=>if w="none" then some 0 else if w="all" then some 1 else if w="not" then(uH aE false ts).map pT else(uH aE (decide<|w="either") ts).map (lZ<|decide<|w="either")
noncomputable def uH(aE:List Rw)(e:Bool):List Tm->Option Nat
 |[]=>none
 |t::ts=>(num aE t).bind λm=>uO aE e (lZ e m) ts
noncomputable def uO(aE:List Rw)(e:Bool):Nat->List Tm->Option Nat
 |m,[]=>some m
 |m,t::ts=>(num aE t).bind λn=>(pQ aE<|.bo (m:Int) (lZ e n:Nat)).bind λk=>uO aE e (2*k) ts
end
mutual
noncomputable def eV:Tm->List Rw->List Rw×Nat
 | .name x,aE=>xF aE<|.nm x
 | .node w ts,aE=>if w="none" then(aE,0)else if w="all" then(aE,1)else if w="not" then((jA false ts aE).1,pT (jA false ts aE).2)else((jA (decide<|w="either") ts aE).1,lZ (decide<|w="either") (jA (decide<|w="either") ts aE).2)
noncomputable def jA(e:Bool):List Tm->List Rw->List Rw×Nat
 |[],aE=>(aE,0)
 |t::ts,aE=>xT e ts (eV t aE).1 (lZ e (eV t aE).2)
noncomputable def xT(e:Bool):List Tm->List Rw->Nat->List Rw×Nat
 |[],aE,m=>(aE,m)
 |t::ts,aE,m=>xT e ts (xF (eV t aE).1 (.bo (m:Int) (lZ e (eV t aE).2:Nat))).1 (xF (eV t aE).1 (.bo (m:Int) (lZ e (eV t aE).2:Nat))).2
end
theorem US{k:Nat}(xs:List Rw)(h:pQ aE r=some k):pQ (aE++xs) r=some k:=by
 unfold pQ at h⊢;rw[List.findIdx?_append,h];rfl
theorem XF(h:pQ aE r=none):pQ (aE++[r]) r=some aE.length:=by
 unfold pQ at h⊢;rw[List.findIdx?_append,h];simp[List.findIdx?_cons,xE]
theorem uW(aE:List Rw)(r:Rw):∃xs,(xF aE r).1=aE++xs:=by
 unfold xF;split
 ·exact#[[],(cK _).symm]
 ·exact#[[r],rfl]
theorem KC(aE:List Rw)(r:Rw):∃k,pQ (xF aE r).1 r=some k/\(xF aE r).2=2*k:=by
 unfold xF;split
 ·rename_i k h
  exact#[k,h,rfl]
 ·rename_i h
  exact#[_,XF h,rfl]
mutual
theorem vW(aE xs:List Rw):∀(t:Tm)(n:Nat),num aE t=some n->num (aE++xs) t=some n
 | .name x,n,h=>by
   rw[num]at h⊢;let⟨k,hk,e⟩:=aM.mp h;rw[US xs hk];exact dE some e
 | .node w ts,n,h=>by
   rw[num]at h⊢;split
   ·rename_i c
    rwa[aL c]at h
   ·rename_i c
    rw[aI c]at h;split
    ·rename_i c
     rwa[aL c]at h
    ·rename_i c
     rw[aI c]at h;split
     ·rename_i c
      rw[aL c]at h;let⟨k,hk,e⟩:=aM.mp h;rw[CP aE xs _ ts k hk];exact dE some e
     ·rename_i c
      rw[aI c]at h;let⟨k,hk,e⟩:=aM.mp h;rw[CP aE xs _ ts k hk];exact dE some e
theorem CP(aE xs:List Rw)(e:Bool):∀(ts:List Tm)(n:Nat),uH aE e ts=some n->uH (aE++xs) e ts=some n
 |[],n,h=>by rw[uH]at h;cases h
 |t::ts,n,h=>by
  rw[uH]at h⊢;let⟨m,hm,h⟩:=cZ.mp h;rw[vW aE xs t m hm];exact CN aE xs e ts _ n h
theorem CN(aE xs:List Rw)(e:Bool):∀(ts:List Tm)(m n:Nat),uO aE e m ts=some n->uO (aE++xs) e m ts=some n
 |[],m,n,h=>by rw[uO]at h⊢;exact h
 |t::ts,m,n,h=>by
  rw[uO]at h⊢;let⟨a,ha,h⟩:=cZ.mp h;let⟨b,hb,h⟩:=cZ.mp h;rw[vW aE xs t a ha];show(pQ (aE++xs) _).bind _=_;rw[US xs hb];exact CN aE xs e ts _ n h
end
mutual
theorem kT:∀(t:Tm)(aE:List Rw),∃xs,(eV t aE).1=aE++xs
 | .name x,aE=>by rw[eV];exact uW _ _
 | .node w ts,aE=>by
   rw[eV];split
   ·exact#[[],(cK _).symm]
   ·split
    ·exact#[[],(cK _).symm]
    ·split
     ·exact EE _ ts aE
     ·exact EE _ ts aE
theorem EE(e:Bool):∀(ts:List Tm)(aE:List Rw),∃xs,(jA e ts aE).1=aE++xs
 |[],aE=>by rw[jA];exact#[[],(cK _).symm]
 |t::ts,aE=>by
  rw[jA];let⟨xs,hx⟩:=kT t aE;let⟨ys,hy⟩:=qF e ts (eV t aE).1 (lZ e (eV t aE).2);exact#[xs++ys,by rw[hy,hx,cM]]
theorem qF(e:Bool):∀(ts:List Tm)(aE:List Rw)(m:Nat),∃xs,(xT e ts aE m).1=aE++xs
 |[],aE,m=>by rw[xT];exact#[[],(cK _).symm]
 |t::ts,aE,m=>by
  rw[xT];let⟨xs,hx⟩:=kT t aE;let⟨ys,hy⟩:=uW (eV t aE).1 (.bo (m:Int) (lZ e (eV t aE).2:Nat));let⟨zs,hz⟩:=qF e ts (xF (eV t aE).1 (.bo (m:Int) (lZ e (eV t aE).2:Nat))).1 (xF (eV t aE).1 (.bo (m:Int) (lZ e (eV t aE).2:Nat))).2;exact#[xs++(ys++zs),by rw[hz,hy,hx,cM,cM]]
end
mutual
theorem kR:∀(t:Tm)(n:Nat)(aE:List Rw),iJ n t->num (eV t aE).1 t=some (eV t aE).2
 | .name x,n,aE,_=>by
   rw[eV,num];let⟨k,h1,h2⟩:=KC aE<|.nm x;rw[h1,h2];rfl
 | .node w ts,n,aE,h=>by
   let hf:∀t∈ts,∃m,iJ m t:=λt ht=>by
    cases n with
    |zero=>unfold iJ at h;rw[h.2]at ht;cases ht
    |succ n=>unfold iJ at h;exact#[n,h.2 t ht]
   let hs:Sh w ts.length:=by cases n<;>(unfold iJ at h;calc h.1)
   rw[eV,num];split
   ·rfl
   ·split
    ·rfl
    ·rename_i a b
     let mO:ts≠[]:=λz=>by
      subst z;rcases hs with h |h |h |h |h
      ·exact a h.1
      ·exact b h.1
      ·cases h.2
      ·exact absurd h.2 ()
      ·exact absurd h.2 ()
     split
     ·show(uH (jA false ts aE).1 false ts).map pT=_;rw[EC false ts aE hf mO];rfl
     ·show(uH (jA _ ts aE).1 _ ts).map _=_;rw[EC _ ts aE hf mO];rfl
theorem EC(e:Bool):∀(ts:List Tm)(aE:List Rw),(∀t∈ts,∃m,iJ m t)->ts≠[]->uH (jA e ts aE).1 e ts=some (jA e ts aE).2
 |[],aE,_,h=>absurd rfl h
 |t::ts,aE,hf,_=>by
  rw[jA,uH];let⟨m,hm⟩:=hf t bD;let⟨ys,hy⟩:=qF e ts (eV t aE).1 (lZ e (eV t aE).2);let h1:=EA e ts (eV t aE).1 (lZ e (eV t aE).2) (λu a=>hf u<|bB _ a);let h2:=vW _ ys t _<|kR t m aE hm;rw[←hy]at h2;rw[h2];exact h1
theorem EA(e:Bool):∀(ts:List Tm)(aE:List Rw)(m:Nat),(∀t∈ts,∃m,iJ m t)->uO (xT e ts aE m).1 e m ts=some (xT e ts aE m).2
 |[],aE,m,_=>by rw[xT,uO]
 |t::ts,aE,m,hf=>by
  let⟨a,ha⟩:=hf t bD;let h1:=kR t a aE ha;let⟨ys,hy⟩:=uW (eV t aE).1 (.bo (m:Int) (lZ e (eV t aE).2:Nat));let⟨k,hk,b⟩:=KC (eV t aE).1 (.bo (m:Int) (lZ e (eV t aE).2:Nat));let⟨zs,hz⟩:=qF e ts (xF (eV t aE).1 (.bo (m:Int) (lZ e (eV t aE).2:Nat))).1 (xF (eV t aE).1 (.bo (m:Int) (lZ e (eV t aE).2:Nat))).2;let f:=EA e ts (xF (eV t aE).1 (.bo (m:Int) (lZ e (eV t aE).2:Nat))).1 (xF (eV t aE).1 (.bo (m:Int) (lZ e (eV t aE).2:Nat))).2 (λu g=>hf u<|bB _ g);rw[xT,uO];let c:=vW _ (ys++zs) t _ h1;rw[←cM,←hy,←hz]at c;let d:=US zs hk;rw[←hz]at d;rw[c];show(pQ _<|.bo (m:Int) (lZ e (eV t aE).2:Nat)).bind _=_;rw[d];show uO _ e (2*k) ts=_;rw[←b];exact f
end
structure sI(aE:List Rw):Prop where
 in_:∀(k:Nat)(i j:Int),aE[k]?=some (.bo i j)->(0<=i/\i<2*(k:Int))/\0<=j/\j<2*(k:Int)
 hd:aE[0]?=some .no
 few:∀k,aE[k]?=some .no->k=0
 nm:∀(k:Nat)(x:Str),aE[k]?=some (.nm x)->Nm x
theorem sI.pos(h:sI aE):1<=aE.length:=(aC.mp h.hd).1
theorem sI.one:sI [.no]:=by
 let o:∀(k:Nat)(r:Rw),([Rw.no]:List Rw)[k]?=some r->k=0/\r=.no:=λk r h=>by
  cases k with
  |zero=>simp at h;exact#[rfl,h.symm]
  |succ k=>simp at h
 exact#[λk i j h=>(by cases (o k _ h).2),rfl,λk h=>(o k _ h).1,λk x h=>(by cases (o k _ h).2)]
def py(n:Nat):Rw->Prop
 | .no=>False
 | .nm x=>Nm x
 | .bo i j=>(0<=i/\i<2*(n:Int))/\0<=j/\j<2*(n:Int)
theorem sI.snoc(h:sI aE)(hr:py aE.length r):sI (aE++[r]):=by
 let o:∀(k:Nat)(q:Rw),(aE++[r])[k]?=some q->aE[k]?=some q\/(k=aE.length/\q=r):=λk q hq=>by
  by_cases c:k<aE.length
  ·rw[aZ c]at hq;exact .inl hq
  ·have :=(aC.mp hq).1;rw[aH,cA]at this;let e:k=aE.length:=by lia
   subst e;rw[bI<|aG _]at hq;simp at hq;exact .inr #[rfl,hq.symm]
 refine#[λk i j hk=>?_,?_,λk hk=>?_,λk x hk=>?_]
 ·rcases o k _ hk with h1 |⟨rfl,rfl⟩
  ·exact h.in_ k i j h1
  ·exact hr
 ·rw[aZ (by have :=h.pos;lia)];exact h.hd
 ·rcases o k _ hk with h1 |⟨rfl,rfl⟩
  ·exact h.few k h1
  ·exact hr.elim
 ·rcases o k _ hk with h1 |⟨rfl,rfl⟩
  ·exact h.nm k x h1
  ·exact hr
def Grw(aE:List Rw)(m:Nat)(p:List Rw×Nat):Prop:=sI p.1/\aE.length<=p.1.length/\p.1.length<=aE.length+m/\p.2<2*p.1.length
theorem RF{m:Nat}(h:n<2*m):pT n<2*m:=by unfold pT;lia
theorem UF{e:Bool}{m:Nat}(h:n<2*m):lZ e n<2*m:=by
 cases e
 ·exact h
 ·exact RF h
theorem SG{k:Nat}(h:pQ aE r=some k):k<aE.length:=by
 unfold pQ at h;exact(gS.mp h).1
theorem AX(h:sI aE)(hr:py aE.length r):Grw aE 1 (xF aE r):=by
 unfold xF;split
 ·rename_i k hk
  have :=SG hk;exact#[h,aG _,tG _,by show 2*k<2*aE.length;lia]
 ·refine#[h.snoc hr,?_,?_,?_]
  ·simp
  ·simp
  ·show 2*aE.length<2*(aE++[r]).length;rw[aH,cA];lia
mutual
theorem WC:∀(t:Tm)(n:Nat)(aE:List Rw),iJ n t->sI aE->Grw aE (2*wt t-1) (eV t aE)
 | .name x,n,aE,hf,h=>by
   rw[eV,wt];exact AX h (by unfold iJ at hf;calc hf)
 | .node w ts,n,aE,hf,h=>by
   let a:∀t∈ts,∃m,iJ m t:=λt ht=>by
    cases n with
    |zero=>unfold iJ at hf;rw[hf.2]at ht;cases ht
    |succ n=>unfold iJ at hf;exact#[n,hf.2 t ht]
   let hp:=h.pos;rw[eV,wt];split
   ·exact#[h,aG _,by show aE.length<=_;lia,by show 0<2*aE.length;lia]
   ·split
    ·exact#[h,aG _,by show aE.length<=_;lia,by show 1<2*aE.length;lia]
    ·split
     ·let⟨h1,h2,c,b⟩:=ED false ts aE a h;exact#[h1,h2,by show(jA false ts aE).1.length<=_;lia,RF b]
     ·let⟨h1,h2,c,b⟩:=ED (decide<|w="either") ts aE a h;exact#[h1,h2,by show(jA _ ts aE).1.length<=_;lia,UF b]
theorem ED(e:Bool):∀(ts:List Tm)(aE:List Rw),(∀t∈ts,∃m,iJ m t)->sI aE->Grw aE (2*oM ts) (jA e ts aE)
 |[],aE,_,h=>by
  rw[jA];have :=h.pos;exact#[h,aG _,Nat.le_add_right _ _,by show 0<2*aE.length;lia]
 |t::ts,aE,hf,h=>by
  rw[jA,oM];let⟨m,hm⟩:=hf t bD;let⟨a,f,g,b⟩:=WC t m aE hm h;let⟨b1,b2,i,c⟩:=EB e ts (eV t aE).1 (lZ e (eV t aE).2) (λu d=>hf u<|bB _ d) a (UF b);let j:=EX t;exact#[b1,(),(),c]
theorem EB(e:Bool):∀(ts:List Tm)(aE:List Rw)(m:Nat),(∀t∈ts,∃m,iJ m t)->sI aE->m<2*aE.length->Grw aE (2*oM ts) (xT e ts aE m)
 |[],aE,m,_,h,hm=>by
  rw[xT];exact#[h,aG _,Nat.le_add_right _ _,hm]
 |t::ts,aE,m,hf,h,hm=>by
  rw[xT,oM];let⟨n,hn⟩:=hf t bD;let⟨a,i,j,b⟩:=WC t n aE hn h;let k:=UF (e:=e) b;let⟨c,l,o,d⟩:=AX (r:=.bo (m:Int) (lZ e (eV t aE).2:Nat)) a #[#[(),()],(),()];let⟨b1,b2,p,f⟩:=EB e ts _ _ (λu g=>hf u<|bB _ g) c d;let q:=EX t;exact#[b1,(),(),f]
end
abbrev sm:Stmt:=top 21
theorem m6:bT ["places","row"] ["places","row"] (zF sm):=by rfl'
abbrev se:Stmt:=top 20
theorem mv:bT ["places","row","place"] ["places","row"] (zF se):=by rfl'
abbrev s_I:Stmt:=top 19
theorem sc_I:bT ["sheet"] ["sheet"] (zF s_I):=by rfl'
abbrev s_K:Stmt:=top 22
theorem sc_K:bT ["n","turn"] ["n","turn"] (zF s_K):=by rfl'
abbrev s_d:Stmt:=top 23
theorem rm:bT ["row_number","places","t"] ["row_number","places","t"] (zF s_d):=by rfl'
abbrev s_b:Stmt:=top 24
theorem sc_b:bT ["row_number","places","t","turn","whole","part","last"] ["row_number","places","t"] (zF s_b):=by rfl'
theorem az{A:Around}{k:Nat}(hr:gE k A):A.units+2<cLine:=fN (Nat.add_le_add_left (by decide:2<=64) _) hr.units
theorem eh(e:Bool)(n:Nat):Builtin.bitXor (n:Int) (if e=true then 1 else 0)=((lZ e n:Nat):Int):=by
 cases e with
 |false=>exact PyProof.Rows.bitXor_zero _
 |true=>
  rw[aL rfl,EW];unfold sW lZ pT;rw[aL rfl];lia
noncomputable def jJ:Rw->List fC
 | .no=>[.inr "none"]
 | .nm x=>[.inr "name",.inr x]
 | .bo i j=>[.inr "both",.inl i,.inl j]
theorem DD{q:Rw}(h:jJ r=jJ q):r=q:=by
 cases r<;>cases q<;>simp[jJ]at h⊢ <;>first |exact h |exact h.elim
theorem VT(r q:Rw):mI (wp r) (wp q)=true↔r=q:=by
 constructor
 ·intro h;cases r<;>cases q<;>simp[wp,mI,uJ]at h⊢ <;>first |exact h |exact h.elim |exact absurd h.1 () |exact absurd h () |skip
 ·rintro rfl;exact xE _
def EN:Nat->Tm->Prop
 |0,_=>False
 |n+1,t=>iJ n t
theorem EN.node{wd:Str}(h:EN (n+1) (.node wd ts)):Sh wd ts.length/\∀t∈ts,EN n t:=by
 let h:iJ n (.node wd ts):=h;cases n with
 |zero=>unfold iJ at h;exact#[h.1,λt ht=>by rw[h.2]at ht;cases ht]
 |succ n=>unfold iJ at h;exact h
theorem VR(a b:Str):mI (.str a) (.str b)=decide (a=b):=by
 rw[bY,bH];simp[mI]
theorem j8(x y:V)(xs:List V):qI (x::y::xs) (some 2) none=xs:=by
 unfold qI;let e:HT.sIx (x::y::xs).length 0 (some 2)=2:=by
  unfold HT.sIx;simp only[bJ];rw[aI ()];lia
 rw[e,HT.sIx_none,aQ (by simp)];rfl
noncomputable def sE:List Rw->List Addr->Nat->List XE
 |r::aE,a::as,k=>(jJ r,a,V.int (k:Nat))::sE aE as (k+1)
 |_,_,_=>[]
theorem kD:∀(aE:List Rw)(as:List Addr)(k:Nat),as.length=aE.length->(sE aE as k).length=aE.length
 |[],[],_,_=>rfl
 |[],_::_,_,h=>by cases h
 |_::_,[],_,h=>by cases h
 |r::aE,a::as,k,h=>dE (· +1)<|kD aE as (k+1)<|lH h
theorem KM:∀(aE:List Rw)(as:List Addr)(k:Nat)(x:XE),x∈sE aE as k->∃(i:Nat)(r:Rw)(a:Addr),aE[i]?=some r/\as[i]?=some a/\x.1=jJ r/\x.2.1=a
 |[],_,_,_,h=>by unfold sE at h;cases h
 |_::_,[],_,_,h=>by unfold sE at h;cases h
 |r::aE,a::as,k,x,h=>by
  unfold sE at h;rcases bG.mp h with rfl |h
  ·exact#[0,r,a,rfl,rfl,rfl,rfl]
  ·let⟨i,b,c,h1,h2,d⟩:=KM aE as (k+1) x h;exact#[i+1,b,c,h1,h2,d]
theorem kC(r:Rw):∀(aE:List Rw)(as:List Addr)(k:Nat),as.length=aE.length->kY (sE aE as k) (jJ r)=(pQ aE r).map λi=>V.int ((k+i:Nat):Int)
 |[],[],_,_=>rfl
 |[],_::_,_,h=>by cases h
 |_::_,[],_,h=>by cases h
 |q::aE,a::as,k,h=>by
  let b:=kC r aE as (k+1)<|lH h;unfold kY pQ at b⊢;rw[sE,eX,List.findIdx?_cons];by_cases c:q=r
  ·subst c;rw[dA rfl,xE];rfl
  ·rw[cJ λz=>c<|DD z,dY.mpr λz=>c<|(VT q r).mp z];show Option.map _ (List.find? _<|sE aE as<|k+1)=_;rw[b];cases List.findIdx? (λx=>mI (wp x)<|wp r) aE with
   |none=>rfl
   |some i=>show some (V.int ((k+1+i:Nat):Int))=some (V.int ((k+(i+1):Nat):Int));rw[show k+1+i=k+(i+1) by lia]
theorem BD(r:Rw)(b:Addr):∀(aE:List Rw)(as:List Addr)(k:Nat),as.length=aE.length->sE (aE++[r]) (as++[b]) k=sE aE as k++[(jJ r,b,V.int ((k+aE.length:Nat):Int))]
 |[],[],k,_=>rfl
 |[],_::_,_,h=>by cases h
 |_::_,[],_,h=>by cases h
 |q::aE,a::as,k,h=>by
  show(jJ q,a,V.int (k:Nat))::sE (aE++[r]) (as++[b]) (k+1)=_;rw[BD r b aE as (k+1)<|lH h,show k+1+aE.length=k+(q::aE).length by rw[bJ];lia];rfl
theorem BE:∀(aE:List Rw)(as:List Addr)(k:Nat),as.length=aE.length->((sE aE as k).map λx=>V.ref x.2.1)=as.map V.ref
 |[],[],_,_=>rfl
 |[],_::_,_,h=>by cases h
 |_::_,[],_,h=>by cases h
 |q::aE,a::as,k,h=>dE (V.ref a:: ·)<|BE aE as (k+1)<|lH h
structure Px(P:Program)(w:World)(K:W.Frag)(H J:Hp)(pa:Addr)(aE:List Rw)(as:List Addr):Prop where
 eq:H=upd J pa (EO P w pa<|sE aE as 0)
 no:J pa=none
 len:as.length=aE.length
 few:aE.length<=40
 lo:(pa==sysModules)=false
 keys:∀(i:Nat)(r:Rw)(a:Addr),aE[i]?=some r->as[i]?=some a->Tw K J a ((jJ r).map kV)
section
variable {pa:Addr}
theorem Px.at(h:Px P w K H J pa aE as):H pa=some (EO P w pa<|sE aE as 0):=by rw[h.eq];exact zA
theorem Px.sub(h:Px P w K H J pa aE as):aW J H:=by rw[h.eq];exact zB h.no _
theorem Px.dx(h:Px P w K H J pa aE as):sZ P w K H pa (sE aE as 0):=by
 calc#[h.at,by rw[kD _ _ _ h.len];have :=h.few;lia,h.lo,λx hx=>?_];let⟨i,r,a,h1,h2,b,c⟩:=KM aE as 0 x hx;rw[b,c];exact((h.keys i r a h1 h2).same h.sub).sq
theorem Px.free(h:Px P w K H J pa aE as)(hp:H p=none):J p=none:=h.sub.free hp
theorem Px.ext(h:Px P w K H J pa aE as)(e:aW H H'):∃J',Px P w K H' J' pa aE as/\aW J J':=by
 let sJ:aW J (λb=>if b=pa then none else H' b):=λb o hb=>by
  let mO:b≠pa:=λz=>by rw[z,h.no]at hb;cases hb
  show(if b=pa then none else H' b)=some o;rw[aI mO];exact e _ _<|h.sub _ _ hb
 refine#[λb=>if b=pa then none else H' b,#[?_,aL rfl,h.len,h.few,h.lo,λi r a h1 h2=>(h.keys i r a h1 h2).same sJ],sJ]
 funext b
 by_cases hb:b=pa
 ·subst hb;rw[zA];exact e _ _ h.at
 ·rw[zE hb];exact(aI hb).symm
theorem Px.tup{p:Addr}{vs:List V}(h:Px P w K H J pa aE as)(hp:H p=some (.tup vs)):J p=some (.tup vs):=by
 let hn:p≠pa:=λz=>by rw[z,h.at]at hp;cases hp
 rw[h.eq,zE hn]at hp;exact hp
theorem Px.new(h:Px P w K H J pa aE as)(hp:H p=none)(o:HO):Px P w K (upd H p o) (upd J p o) pa aE as:=by
 let mO:p≠pa:=λz=>by rw[z,h.at]at hp;cases hp
 calc#[?_,by rw[zE<|cE mO];exact h.no,h.len,h.few,h.lo,λi r a h1 h2=>(h.keys i r a h1 h2).same (zB (h.free hp) o)];rw[h.eq]
 funext b
 by_cases h1:b=p
 ·subst h1;rw[zA,zE mO,zA]
 ·rw[zE h1];by_cases h2:b=pa
  ·subst h2;rw[zA,zA]
  ·rw[zE h2,zE h2,zE h1]
end
theorem KA(r:Rw):(jJ r).map kV=rwV r:=by cases r<;>rfl
def OZ(gr:Bool)(aE fin:List Rw):Prop:=(gr=false->fin=aE)/\fin.length<=40
theorem OZ.mid{gr:Bool}{mid fin:List Rw}(h1:∃xs,mid=aE++xs)(h2:∃ys,fin=mid++ys)(h:OZ gr aE fin):OZ gr aE mid/\OZ gr mid fin:=by
 let⟨xs,rfl⟩:=h1;let⟨ys,rfl⟩:=h2;let hl:=h.2;rw[aH]at hl;refine#[#[λa=>?_,()],λa=>?_,h.2]
 all_goals
  have :=dE List.length<|h.1 a;rw[aH,aH]at this
 ·have :xs=[]:=mG.mp ();rw[this,cK]
 ·have :ys=[]:=mG.mp ();rw[this,cK]
def Fo(P:Program)(w:World)(K:W.Frag)(gr:Bool)(aE:List Rw)(J:Hp)(pa:Addr)(p:List Rw×Nat)(Q:VK):Prop:=
 OZ gr aE p.1/\∀(H' J':Hp)(iQ:List Addr),aW J J'->Px P w K H' J' pa p.1 iQ->Q (.int (p.2:Nat)) H'
inductive NE (P:Program) (w:World) (K:W.Frag) (gr:Bool) (vs:List V) (H:Hp) (Q:VK) (E:XK):Prop
 |mk (pa b:Addr) (J:Hp) (aE:List Rw) (as:List Addr) (r:Rw) (_:vs=[.ref pa,.ref b]) (_:Px P w K H J pa aE as) (_:J b=some (.tup<|(jJ r).map kV)) (_:Fo P w K gr aE J pa (xF aE r) Q)
inductive RS (vs:List V) (H:Hp) (Q:VK) (E:XK):Prop
 |mk (n:Nat) (e:Bool) (_:vs=[.int n,.int<|if e then 1 else 0]) (_:Q (.int (lZ e n:Nat)) H)
inductive FI (P:Program) (w:World) (K:W.Frag) (gr:Bool) (ff:Addr) (n:Nat) (vs:List V) (H:Hp) (Q:VK) (E:XK):Prop
 |mk (pa:Addr) (v:V) (J:Hp) (aE:List Rw) (as:List Addr) (t:Tm) (_:vs=[.ref ff,.ref pa,v]) (_:Px P w K H J pa aE as) (_:gQ J t v) (_:EN n t) (_:Fo P w K gr aE J pa (eV t aE) Q)
inductive spJn (P:Program) (w:World) (K:W.Frag) (gr:Bool) (ff:Addr) (n:Nat) (vs:List V) (H:Hp) (Q:VK) (E:XK):Prop
 |mk (pa ta:Addr) (us:List V) (J:Hp) (aE:List Rw) (as:List Addr) (e:Bool) (ts:List Tm) (_:vs=[.ref ff,.ref pa,.ref ta]) (_:Px P w K H J pa aE as) (_:J ta=some (.tup (.str (if e then"either" else"both")::us))) (_:eI J ts us) (_:(∀t∈ts,EN n t)) (_:ts≠[]) (_:Fo P w K gr aE J pa ((jA e ts aE).1,lZ e (jA e ts aE).2) Q)
section
variable {ff:Addr} {k:Nat} {gr:Bool}
theorem NT(bi:Bi mg)(F:gF K "turned" "turned" s_K f fd):dC P w K mg base fU 1 f fd ["n","turn"] RS:=by
 refine F.okz sc_K λeZ A outer s H vs Q E hr h=>?_
 let⟨n,e,rfl,q⟩:=h;calc#[_,have nd:=sc_K.nd;zH<|zP<|qX (yG GB #[] wK<|yL _) wK #[],?_];dsimp![];rw[aI (λz=>by cases z),eh];exact q
theorem NW(g_MOST_ROWS:Gc mg "MOST_ROWS" (.int 40))(bi:Bi mg)(F:gF K "put_in" "put_in" sm f fd):dC P w K mg base fU 1 f fd ["places","row"] (NE P w K true):=by
 refine F.okz m6 λeZ A outer s H vs Q E hr h=>?_
 let⟨pa,b,J,aE,as,r,rfl,d,hb,e,q⟩:=h;calc#[_,have nd:=m6.nd;zC (yK (yG (NS<|xO hr) #[] #[] (by with_unfolding_all rfl)) (zC (yK (yG ZP (yH QT rfl bi.len wR #[]) (TK g_MOST_ROWS rfl)<|yL _) (zH XJ) zS)<|zH<|SX (xO hr) #[] #[] (yH QT rfl bi.len wR #[]) rfl) zS)<|zH<|zP<|jO TZ zJ<|TQ (xO hr) #[] #[] λ_ _=>rfl,?_];refine zD λN n=>?_
 dsimp![rNiX];let m:=d.few;calc#[_,d.dx,jJ r,dH.of<|d.sub _ _ hb,?_];rw[kC r aE as 0 d.len];let fin:∀(rows':List Rw)(iQ:List Addr)(G:Hp)(k:Nat),Px P w K G J pa rows' iQ->pQ rows' r=some k->Q (.int ((2*k:Nat):Int)) G->N [some<|V.ref pa,some<|V.ref b] G:=λrows' iQ G k g hk o=>n _ _ (by
  dsimp![tDGX];calc#[_,g.dx,jJ r,dH.of<|g.sub _ _ hb,V.int ((0+k:Nat):Int),by rw[kC r rows' iQ 0 g.len,hk];rfl,?_];calc#[_,rfl,.inl #[(),()],?_];rw[show(2:Int)*((0+k:Nat):Int)=((2*k:Nat):Int) by lia];calc o)
 unfold xF at q e;cases c:pQ aE r with
 |some k=>
  rw[c]at q e;rw[aI<|show¬((Option.map (λi:Nat=>V.int ((0+i:Nat):Int))<|some k).isSome=false)from λz=>by cases z];exact fin aE as H k d c<|q H J as (aW.refl _) d
 |none=>
  rw[c]at q e;rw[aL<|show(Option.map (λi:Nat=>V.int ((0+i:Nat):Int)) none).isSome=false from rfl];calc#[_,d.dx,rfl,?_];rw[kD _ _ _ d.len];let l:=e.2;rw[show(aE++[r]).length=aE.length+1 by rw[aH];rfl]at l
  ·rw[aI ()];dsimp![sDPX];calc#[_,d.dx,_,d.dx,jJ r,dH.of<|d.sub _ _ hb,by rw[kC r aE as 0 d.len,c];rfl,?_];let j:Px P w K (upd H pa<|EO P w pa<|sE aE as 0++[(jJ r,b,V.int ((sE aE as 0).length:Nat))]) J pa (aE++[r]) (as++[b]):=by
    refine#[?_,d.no,by rw[aH,aH,d.len];rfl,by rw[aH,cA];lia,d.lo,λi q a h1 h2=>?_]
    ·rw[BD r b aE as 0 d.len,kD _ _ _ d.len,gG,d.eq,vS]
    ·by_cases hi:i<aE.length
     ·rw[aZ hi]at h1;rw[aZ (by rw[d.len];calc hi)]at h2;exact d.keys i q a h1 h2
     ·let hi2:=(aC.mp h1).1;rw[aH,cA]at hi2;let p:i=aE.length:=by lia
      subst p;rw[bI<|aG _,fJ]at h1;rw[bI (by rw[d.len];calc aG _),d.len,fJ]at h2;cases h1;cases h2;exact .inl hb
   exact fin _ _ _ _ j (XF c)<|q _ J _ (aW.refl _) j
theorem WM(bi:Bi mg)(F:gF K "found" "found" se f fd):dC P w K mg base fU 1 f fd ["places","row"] (NE P w K false):=by
 refine F.okz mv λeZ A outer s H vs Q E hr h=>?_
 let⟨pa,b,J,aE,as,r,rfl,d,hb,a,q⟩:=h;calc#[_,have nd:=mv.nd;zC (yW 2 nd<|ig (xO hr) #[] #[] #[rfl,rfl,rfl,rfl])<|zH<|zP<|qX (yG GB #[] wK<|yL _) wK #[],?_];refine zD λN e=>?_
 dsimp![RJ];calc#[_,d.dx,_,d.dx,jJ r,dH.of<|d.sub _ _ hb,e _ _ ?_];clear e;rw[kC r aE as 0 d.len];dsimp![];unfold xF at q a;cases c:pQ aE r with
 |none=>
  rw[c]at a;have :=dE List.length<|a.1 rfl;rw[aH,cA]at this;lia
 |some k=>
  rw[c]at q;rw[aI λz=>by cases z];calc#[_,rfl,.inl #[(),()],?_];rw[show(2:Int)*((0+k:Nat):Int)=((2*k:Nat):Int) by lia];exact q H J as (aW.refl _) d
end
section
variable {ff:Addr} {k:Nat} {gr:Bool}
theorem NZ(fG:tS P w K mg base 1 ff ["places","row"] (NE P w K gr))(h_K:fZ P w K mg base 1 "turned" ["n","turn"] RS)(h_d:fZ P w K mg base (k+1) "number_by" ["row_number","places","t"] (FI P w K gr ff n))(F:gF K "joined_number" "joined_number" s_b f fd):dC P w K mg base fU (k+2) f fd ["row_number","places","t"] (spJn P w K gr ff n):=by
 refine F.okz sc_b λeZ A outer s H vs Q E hr h=>?_
 let⟨pa,ta,us,J,aE,as,e,ts,rfl,px,I,hts,hf,mO,L,q⟩:=h;calc#[_,have nd:=sc_b.nd;zC (yW 3 nd<|qX (yG (vA hr.units) #[] xX<|yL _) zJ zJ)<|zC #[]<|zC (yC bX rfl (wJ<|xL YG #[] (xV zJ) jP) #[]<|zC #[]<|zH<|yW 4 nd<|BM (i:=0) fG hr.m #[]) #[],?_];obtain⟨t0,a,rfl⟩:∃t0 a,ts=t0::a:=by
  cases ts with
  |nil=>exact absurd rfl mO
  |cons t0 a=>exact#[t0,a,rfl]
 let⟨u0,O,rfl,hu0,R⟩:=hts;rw[jA]at q L;let⟨fi1,o⟩:=L.mid (kT t0 aE)<|qF e a _ _;let nF:O.length=a.length:=by have :=bN.length R;rwa[aD]at this
 let d:=px.sub _ _ I;refine zD λN g=>?_
 dsimp![NO];let cont:N [some<|V.ref ff,some<|V.ref pa,some<|V.ref ta,some (V.int<|if e then 1 else 0),none,none,none] H:=g _ _ (by
  clear g;refine zD λN g=>?_
  dsimp![];calc#[_,dH.of d,_,zN (j:=1) rfl,pa,u0,J,aE,as,t0,rfl,px,hu0,hf t0 bD,fi1,λH1 J1 pW s1 r=>?_];calc#[_,e,rfl,g _ _ ?_];clear g;generalize (eV t0 aE).1=rows1 at r q o;generalize lZ e (eV t0 aE).2=S at q o⊢;refine zM (λσ G=>∃(J':Hp)(iQ:List Addr)(u v:Option V),aW J J'/\Px P w K G J' pa (xT e a rows1 S).1 iQ/\σ=[some<|V.ref ff,some<|V.ref pa,some<|V.ref ta,some (V.int<|if e then 1 else 0),some<|V.int ((xT e a rows1 S).2:Nat),u,v]) (λN g=>?_) λσ G h=>?_
  ·dsimp![SO];calc#[_,(s1.trans r.sub) _ _ I,λp H2 s2 kp=>?_];rw[j8]at kp;let⟨J2,T,U⟩:=r.ext s2;let kp2:=T.tup kp;calc#[#[_,dH.of kp],?_];refine wb (xs:=O) (λi σ G=>∃(J':Hp)(iQ:List Addr)(rows':List Rw)(c:Nat)(u v:Option V),aW J2 J'/\Px P w K G J' pa rows' iQ/\xT e (a.drop i) rows' c=xT e a rows1 S/\OZ gr rows' (xT e a rows1 S).1/\σ=[some<|V.ref ff,some<|V.ref pa,some<|V.ref ta,some (V.int<|if e then 1 else 0),some<|V.int (c:Nat),u,v]) #[J2,pW,rows1,S,_,_,aW.refl _,T,by rw[pJ],o,rfl] (λi σ G _ h=>by let⟨_,_,_,_,_,_,sg,pg,_⟩:=h;calc dH.of<|pg.sub _ _<|sg _ _ kp2) (λi x σ G hx h M hM=>?_) λσ G h=>?_
   ·let⟨J3,y,lQ,c,u,v,s3,z,b,W,rfl⟩:=h;let⟨t,X,hx'⟩:=xG (f:=FE) R hx;let⟨nO,hie⟩:=aC.mp X;rw[eK nO,hie,xT]at b;let B:=W;rw[←b]at B;let⟨fi5,Y⟩:=B.mid (mid:=(eV t lQ).1) (kT t lQ) (by
     let⟨xs,hx⟩:=uW (eV t lQ).1 (.bo (c:Int) (lZ e (eV t lQ).2:Nat));let⟨ys,hy⟩:=qF e (a.drop<|i+1) (xF (eV t lQ).1 (.bo (c:Int) (lZ e (eV t lQ).2:Nat))).1 (xF (eV t lQ).1 (.bo (c:Int) (lZ e (eV t lQ).2:Nat))).2;calc#[xs++ys,by rw[←cM,←hx];calc hy])
    let⟨C,l⟩:=Y.mid (uW _ _)<|qF e (a.drop<|i+1) (xF (eV t lQ).1 (.bo (c:Int) (lZ e (eV t lQ).2:Nat))).1 (xF (eV t lQ).1 (.bo (c:Int) (lZ e (eV t lQ).2:Nat))).2;rw[b]at l;clear B Y;let sA:=s1.trans<|U.trans s3;refine zD λN g=>?_
    dsimp![];calc#[pa,x,J3,lQ,y,t,rfl,z,eE.same sA hx',hf t<|bB _<|aR X,fi5,λH4 J4 as4 s4 D=>?_];calc#[_,e,rfl,g _ _ ?_];clear g;generalize (eV t lQ).1=rows4 at D b C l;generalize lZ e (eV t lQ).2=Z at b C l⊢;dsimp![UJ];calc#[small (),λp2 mE=>?_];let px5:=D.new mE<|.tup [V.str "both",V.int (c:Int),V.int (Z:Int)];let s5:=zB (D.free mE)<|.tup [V.str "both",V.int (c:Int),V.int (Z:Int)];let k5:upd J4 p2 (.tup [V.str "both",V.int (c:Int),V.int (Z:Int)]) p2=some (.tup<|(jJ<|.bo (c:Int) (Z:Int)).map kV):=zA;calc#[pa,p2,_,rows4,as4,.bo (c:Int) (Z:Int),rfl,px5,k5,C,λH6 J6 as6 s6 px6=>?_];exact hM _ _ #[J6,as6,_,_,_,_,s3.trans<|s4.trans<|s5.trans s6,px6,b,l,rfl]
   ·let⟨J3,y,lQ,c,u,v,s3,z,b,W,rfl⟩:=h;rw[nF,List.drop_length,xT]at b;refine g _ _ #[J3,y,u,v,s1.trans<|U.trans s3,?_,?_]
    ·rw[←b];exact z
    ·rw[←b]
  let⟨J',iQ,u,v,sJ,px',rfl⟩:=h;dsimp![];calc#[_,e,rfl,q _ J' iQ sJ px'])
 cases e with
 |true=>exact#[_,dH.of d,_,lN,0,.str "either",rfl,.str "either",rfl,trivial,(),by rw[xE,aL rfl];calc cont]
 |false=>exact#[_,dH.of d,_,lN,0,.str "both",rfl,.str "either",rfl,trivial,(),by rw[show mI (.str "both") (.str "either")=false from by simp[mI];decide,aI ()];calc cont]
theorem NY(fG:tS P w K mg base 1 ff ["places","row"] (NE P w K gr))(h_K:fZ P w K mg base 1 "turned" ["n","turn"] RS)(h_d:fZ P w K mg base (k+2) "number_by" ["row_number","places","t"] (FI P w K gr ff n))(h_b:fZ P w K mg base (k+2) "joined_number" ["row_number","places","t"] (spJn P w K gr ff n))(F:gF K "number_by" "number_by" s_d f fd):dC P w K mg base fU (k+3) f fd ["row_number","places","t"] (FI P w K gr ff<|n+1):=by
 refine F.okz rm λeZ A outer s H vs Q E hr h=>?_
 let⟨pa,v,J,aE,as,t,rfl,g,hv,hf,b,q⟩:=h;calc#[_,have nd:=rm.nd;zC (yK (yG (vA hr.units) #[] xX<|yL _) #[] zS)<|zC (yK (yG (vA hr.units) #[] xX<|yL _) #[] zS)<|zC (yK (yG (vA hr.units) #[] xX<|yL _) (zH<|zP<|BM (i:=0) fG hr.m #[]) zS)<|zC (yK (yG (vA hr.units) #[] xX<|yL _) #[] zS) #[],?_];cases t with
 |name x=>
  let⟨a,vs,rfl,ha,L,r1,rfl,h1,U,W,rfl,h2,M⟩:=hv;let h1:L=.str "name":=h1;let h2:U=.str x:=h2;let M:W=[]:=M;subst h1 h2 M;replace ha:=g.sub _ _ ha;dsimp![NO,UJ];rw[eV]at q b;calc#[_,dH.of ha,_,lN,0,.str "name",rfl,.str "none",rfl,trivial,(),?_];rw[VR,aI ()];calc#[_,dH.of ha,_,lN,0,.str "name",rfl,.str "all",rfl,trivial,(),?_];rw[VR,aI ()];calc#[_,dH.of ha,_,lN,0,.str "name",rfl,.str "name",rfl,trivial,(),?_];rw[VR,aL ()];calc#[_,dH.of ha,_,pV,small (),λp2 mE=>?_];let N:=g.new mE<|.tup [V.str "name",V.str x];let X:=zB (g.free mE)<|.tup [V.str "name",V.str x];let Y:upd J p2 (.tup [V.str "name",V.str x]) p2=some (.tup<|(jJ<|.nm x).map kV):=zA;exact#[pa,p2,_,aE,as,.nm x,rfl,N,Y,b,λO R l S o=>q O R l (X.trans S) o]
 |node y ts=>
  let⟨a,vs,rfl,ha,L,us,rfl,h1,p⟩:=hv;let h1:L=.str y:=h1;subst h1;let⟨hs,C⟩:=hf.node;let D:=g.sub _ _ ha;let step:∀{c:Str}{A B:Prop},(y=c->A)->(y≠c->B)->∃x,dH K H a x/\∃x_1,pU x 0=some x_1/\∃n_1 d,eE H d x_1/\∃x,eE H x (V.str c)/\kX (n_1+1) d/\n_1<=60/\if mI d x=true then A else B:=λ{c A B} h1 h2=>by
   calc#[_,dH.of D,_,lN,0,.str y,rfl,.str c,rfl,trivial,(),?_];rw[VR];by_cases e:y=c
   ·rw[aL<|dA e];exact h1 e
   ·rw[aI (by simp[e])];exact h2 e
  dsimp![NO,UJ];rw[eV]at q b;refine step (λe=>?_) λG=>step (λe=>?_) λI=>step (λe=>?_) λe3=>step (λe=>?_) λT=>?_
  ·rw[aL e]at q;exact q H J as (aW.refl _) g
  ·rw[aI G,aL e]at q;exact q H J as (aW.refl _) g
  ·subst e;rcases hs with h |h |h |h |h<;>exact absurd h.1 ()
  ·subst e;rw[aI G,aI I,aL rfl]at q b;let hl:ts.length=1:=by
    rcases hs with h |h |h |h |h
    ·exact absurd h.1 ()
    ·exact absurd h.1 ()
    ·exact h.2
    ·exact absurd h.1 ()
    ·exact absurd h.1 ()
   obtain⟨t,rfl⟩:∃t,ts=[t]:=by
    cases ts with
    |nil=>simp at hl
    |cons t r=>
     cases r with
     |nil=>exact#[t,rfl]
     |cons _ _=>simp at hl
   let⟨u,r,rfl,Z,_⟩:=p;rw[jA,xT]at q b;exact#[_,dH.of D,_,zN (j:=1) rfl,pa,u,J,aE,as,t,rfl,g,Z,C t bD,b,λO R l S o=>#[_,true,rfl,q O R l S o]]
  ·rw[aI G,aI I,aI T]at q b;refine#[pa,a,us,J,aE,as,decide<|y="either",ts,rfl,g,?_,(by rw[YX]at p;calc p),C,λz=>?_,b,q]
   ·rw[ha];rcases hs with h |h |h |h |h
    ·exact absurd h.1 G
    ·exact absurd h.1 I
    ·exact absurd h.1 T
    ·rw[h.1];rfl
    ·rw[h.1];rfl
   ·subst z;rcases hs with h |h |h |h |h
    ·exact absurd h.1 G
    ·exact absurd h.1 I
    ·exact absurd h.1 T
    ·exact absurd h.2 ()
    ·exact absurd h.2 ()
theorem GI(F:gF K "number_by" "number_by" s_d f fd)(fG:tS P w K mg base 1 ff ["places","row"] (NE P w K gr))(h_K:fZ P w K mg base 1 "turned" ["n","turn"] RS):dC P w K mg base fU 1 f fd ["row_number","places","t"] (FI P w K gr ff 0):=by
 refine F.okz rm λeZ A outer s H vs Q E hr h=>?_
 ·let⟨pa,v,J,aE,as,t,rfl,a,hv,hf,_⟩:=h;exact hf.elim
theorem wO{g:Addr}{gd:FuncData}(fG:tS P w K mg base 1 ff ["places","row"] (NE P w K gr))(h_K:fZ P w K mg base 1 "turned" ["n","turn"] RS)(F:gF K "number_by" "number_by" s_d f fd)(b:Binds K fd ["row_number","places","t"] [])(m:mg "number_by"=some (.ref f))(G:gF K "joined_number" "joined_number" s_b g gd)(bg:Binds K gd ["row_number","places","t"] [])(mgg:mg "joined_number"=some (.ref g)):∀n,fZ P w K mg base (2*n+2) "number_by" ["row_number","places","t"]<|FI P w K gr ff n
 |0=>(ZJ F (GI F fG h_K) b m).mono ()
 |n+1=>by
  let a:=wO fG h_K F b m G bg mgg n;let c:=ZJ G (NZ (k:=2*n+1) fG h_K a G) bg mgg;exact ZJ F (NY (k:=2*n+1) fG h_K (a.mono ()) c F) b m
end
abbrev ua:Stmt:=top 25
theorem nv:bT ["terms","places","t"] ["terms"] (zF ua):=by rfl'
noncomputable def qT:List Tm->List Rw->List Rw
 |[],aE=>aE
 |t::ts,aE=>qT ts (eV t aE).1
theorem JM:∀(ts:List Tm)(aE:List Rw),∃xs,qT ts aE=aE++xs
 |[],aE=>#[[],(cK _).symm]
 |t::ts,aE=>by
  let⟨xs,hx⟩:=kT t aE;let⟨ys,hy⟩:=JM ts (eV t aE).1;exact#[xs++ys,by rw[qT,hy,hx,cM]]
inductive spSo (K:W.Frag) (vs:List V) (H:Hp) (Q:VK) (E:XK):Prop
 |mk (ta:Addr) (us:List V) (ts:List Tm) (_:vs=[.ref ta]) (_:H ta=some (.lst us)) (_:eI H ts us) (_:(∀t∈ts,EN 21 t)) (_:(qT ts [.no]).length<=40) (_:∀(p:Addr)(ws:List V)(H':Hp),aW H H'->H' p=some (.lst ws)->gU K H' (qT ts [.no]) ws->Q (.ref p) H')
theorem SE{K:W.Frag}{H:Hp}:∀(aE:List Rw)(as:List Addr),as.length=aE.length->(∀(i:Nat)(r:Rw)(a:Addr),aE[i]?=some r->as[i]?=some a->Tw K H a ((jJ r).map kV))->gU K H aE (as.map V.ref)
 |[],[],_,_=>rfl
 |[],_::_,h,_=>by cases h
 |_::_,[],h,_=>by cases h
 |r::aE,a::as,h,hk=>#[_,_,rfl,#[a,rfl,by rw[←KA];calc hk 0 r a rfl rfl],SE aE as (lH h) λi b c h1 h2=>hk (i+1) b c h1 h2]
section
variable {ff aN:Addr}
theorem BX(g_NONE_ROW:Gc mg "NONE_ROW" (.ref aN))(hNo:∀H,Tw K H aN [.str "none"])(mf_put_in:mg "put_in"=some (.ref ff))(bi:Bi mg)(h_d:fZ P w K mg base 44 "number_by" ["row_number","places","t"] (FI P w K true ff 21))(F:gF K "sheet_of" "sheet_of" ua f fd):dC P w K mg base fU 45 f fd ["terms"] (spSo K):=by
 refine F.okz nv λeZ A outer s H vs Q E hr h=>?_
 let⟨ta,us,ts,rfl,d,e,hf,g,q⟩:=h;let nF:us.length=ts.length:=by have :=bN.length e;rwa[aD]at this
 calc#[_,have nd:=nv.nd;zC (yW 1 nd<|TN (xO hr) (TK g_NONE_ROW rfl) zJ)<|zC (yC bX rfl #[] #[]<|zH<|xA<|zU h_d hr.m rfl<|zG (VA mf_put_in rfl) #[])<|zH<|zP<|TJ rfl bi.list rfl #[],?_];refine zD λN k=>?_
 dsimp![tDX1];refine λpa n o=>#[jJ .no,(hNo _).sq,zA,k _ _ ?_]
 clear k;let c:Px P w K (upd (upd H pa<|EO P w pa []) pa<|EO P w pa [(jJ .no,aN,V.int 0)]) H pa [.no] [aN]:=by
  calc#[by rw[vS];rfl,n,rfl,(),o,λi r a h1 h2=>?_];cases i with
  |zero=>cases h1;cases h2;exact hNo _
  |succ i=>cases h1
 generalize upd (upd H pa<|EO P w pa []) pa (EO P w pa [(jJ .no,aN,V.int 0)])=H0 at c⊢;refine zM (λσ G=>∃(J:Hp)(as:List Addr)(o2:Option V),aW H J/\Px P w K G J pa (qT ts [.no]) as/\σ=[some<|V.ref ta,some<|V.ref pa,o2]) (λN k=>?_) λσ G h=>?_
 ·dsimp![];calc#[#[_,cX.of<|c.sub _ _ d],?_];refine xH (xs:=us) (λi σ G=>∃(J:Hp)(as:List Addr)(aE:List Rw)(o2:Option V),aW H J/\Px P w K G J pa aE as/\qT (ts.drop i) aE=qT ts [.no]/\σ=[some<|V.ref ta,some<|V.ref pa,o2]) #[H,_,_,_,aW.refl _,c,by rw[pJ],rfl] (λi σ G _ h=>by let⟨_,_,_,_,y,pg,_⟩:=h;calc cX.of<|pg.sub _ _<|y _ _ d) (λi x σ G hx h M B=>?_) λσ G h=>?_
  ·let⟨J,as,aE,o2,sJ,b,hb,rfl⟩:=h;let⟨t,j,p⟩:=xG (f:=FE) e hx;let⟨nO,u⟩:=aC.mp j;rw[eK nO,u,qT]at hb;dsimp![];calc#[pa,x,J,aE,as,t,rfl,b,eE.same sJ p,hf t<|aR j,#[(λz=>by cases z),by let⟨ys,hy⟩:=JM (ts.drop<|i+1) (eV t aE).1;rw[←hb,hy,aH]at g;lia],λH1 J1 pW s1 v=>?_];exact B _ _ #[J1,pW,_,_,sJ.trans s1,v,hb,rfl]
  ·let⟨J,as,aE,o2,sJ,b,hb,rfl⟩:=h;rw[nF,List.drop_length,qT]at hb;exact k _ _ #[J,as,o2,sJ,by rw[←hb];exact b,rfl]
 let⟨J,as,o2,sJ,b,rfl⟩:=h;dsimp![tLX];calc#[_,b.dx,λl hl=>?_];rw[BE _ _ _ b.len];let sl:=zB hl<|.lst<|as.map V.ref;exact q l _ _ (sJ.trans<|b.sub.trans sl) zA (SE _ _ b.len λi r a h1 h2=>(b.keys i r a h1 h2).same (b.sub.trans sl))
end
abbrev s_Z:Stmt:=top 13
theorem sc_Z:bT ["book","saying","terms","rule","premise"] ["book","saying"] (zF s_Z):=by rfl'
abbrev lK:=List (Tm×Tm)×(Tm×Tm)
noncomputable def pO(p:Tm×Tm):List Tm:=[p.1,p.2]
noncomputable def uS(ps:List (Tm×Tm)):List Tm:=ps.flatMap pO
noncomputable def RG(r:lK):List Tm:=uS r.1++pO r.2
noncomputable def pP(rs:List lK):List Tm:=rs.flatMap RG
theorem NA{ps:List (Tm×Tm)}{p:Tm×Tm}(h:ps[i]?=some p):uS (ps.take<|i+1)=uS (ps.take i)++pO p:=by
 let⟨a,b⟩:=aC.mp h;unfold uS;rw[aP a,b,iG];simp
theorem AQ{rs:List lK}{r:lK}(h:rs[i]?=some r):pP (rs.take<|i+1)=pP (rs.take i)++RG r:=by
 let⟨a,b⟩:=aC.mp h;unfold pP;rw[aP a,b,iG];simp
theorem NB(rs:List lK)(i:Nat):(pP<|rs.take i).length<=(pP rs).length:=by
 have :pP rs=pP (rs.take i)++pP (rs.drop i):=by
  unfold pP;rw[←iG,eU]
 rw[this,aH];lia
theorem FF(ps:List (Tm×Tm))(i:Nat):(uS<|ps.take i).length<=(uS ps).length:=by
 have :uS ps=uS (ps.take i)++uS (ps.drop i):=by
  unfold uS;rw[←iG,eU]
 rw[this,aH];lia
abbrev fT(H:Hp)(rs:List lK)(vs:List V):Prop:=bN H (rs.map DP) vs
theorem fT.length{rs:List lK}{vs:List V}(h:fT H rs vs):vs.length=rs.length:=by
 have :=bN.length h;rw[aD]at this;exact this
theorem fT.getV{rs:List lK}{vs:List V}(h:fT H rs vs)(hv:vs[i]?=some v):∃r,rs[i]?=some r/\MP H r v:=by
 let hi:i<rs.length:=by rw[←h.length];exact(aC.mp hv).1
 let⟨u,h1,h2⟩:=bN.get (d:=DP rs[i]) h (by rw[aJ,aA hi];rfl);rw[hv]at h1;cases h1;exact#[_,aA hi,h2]
theorem pX.two{p:Tm×Tm}(h:pX H p v):∃a us,v=.ref a/\H a=some (.tup us)/\eI H (pO p) us/\us.length=2:=by
 let⟨a,v1,v2,b,c,d,e⟩:=pX.out h;exact#[a,_,b,c,#[v1,_,rfl,d,v2,_,rfl,e,rfl],rfl]
theorem wX{o:HO}(e:aW H H')(hp:H p=none):aW H (upd H' p o):=e.upd hp
inductive spTI (vs:List V) (H:Hp) (Q:VK) (E:XK):Prop
 |mk (a:Addr) (sv:V) (bs:List V) (rs:List lK) (s:Tm×Tm) (_:vs=[.ref a,sv]) (_:H a=some (.lst bs)) (_:fT H rs bs) (_:pX H s sv) (_:(pP rs).length<=1000) (_:∀p us H',aW H H'->H' p=some (.lst us)->eI H' (pP rs++pO s) us->Q (.ref p) H')
theorem BV(bi:Bi mg)(F:gF K "terms_in" "terms_in" s_Z f fd):dC P w K mg base fU 1 f fd ["book","saying"] spTI:=by
 refine F.okz sc_Z λeZ A outer s H vs Q E hr h=>?_
 let⟨a,sv,bs,rs,s,rfl,ha,lL,hs,hz,q⟩:=h;let I:=lL.length;calc#[_,have nd:=sc_Z.nd;zC #[]<|zC (yC bX rfl #[] #[]<|zC (yC bX rfl #[] #[]<|zH<|xA<|uN cY hZ lR wM #[] #[])<|zH<|xA<|uN cY hZ lR wM #[] #[])<|zC (xA<|uN cY hZ lR wM #[] #[]) #[],?_];refine zD λN k=>?_
 dsimp![];calc#[small (),λp hp=>k _ _ ?_];refine zM (λσ H'=>aW H H'/\(∃us,H' p=some (.lst us)/\eI H (pP rs) us)/\∃o1 o2,σ=[some<|V.ref a,some sv,some<|V.ref p,o1,o2]) (λN k=>?_) λσ H' h=>?_
 ·dsimp![];calc#[#[_,cX.of<|zB hp _ _ _ ha],?_];refine xH (xs:=bs) (λi σ H'=>aW H H'/\(∃us,H' p=some (.lst us)/\eI H (pP<|rs.take i) us)/\∃o1 o2,σ=[some<|V.ref a,some sv,some<|V.ref p,o1,o2]) ?_ (λi σ H' _ h=>cX.of<|h.1 _ _ ha) (λi x σ H' hx h M J=>?_) λσ H' h=>?_
  ·exact#[zB hp _,#[[],zA,rfl],_,_,rfl]
  ·let⟨es,⟨us,c,b⟩,o1,o2,rfl⟩:=h;let⟨r,n,v⟩:=lL.getV hx;let⟨ra,l,L,vs,rfl,o,hl,t,z⟩:=MP.out v;let O:vs.length=r.1.length:=tR.length t;let B:=NB rs<|i+1;rw[AQ n,aH]at B;let R:(RG r).length=(uS r.1).length+2:=by unfold RG;rw[aH];rfl
   show RI _ _ _ _ _;refine zM (λσ H'=>aW H H'/\(∃us,H' p=some (.lst us)/\eI H (pP (rs.take i)++uS r.1) us)/\∃o2,σ=[some<|V.ref a,some sv,some<|V.ref p,some<|V.ref ra,o2]) (λN k=>?_) λσ H' h=>?_
   ·dsimp![];calc#[_,dH.of<|es _ _ o,.ref l,lN,_,rfl,#[_,cX.of<|es _ _ hl],?_];refine xH (xs:=vs) (λj σ H'=>aW H H'/\(∃us,H' p=some (.lst us)/\eI H (pP (rs.take i)++uS (r.1.take j)) us)/\∃o2,σ=[some<|V.ref a,some sv,some<|V.ref p,some<|V.ref ra,o2]) ?_ (λj σ H' _ h=>cX.of<|h.1 _ _ hl) (λj y σ H' hy h M2 C=>?_) λσ H' h=>?_
    ·exact#[es,#[us,c,by simpa[uS]using b],_,rfl]
    ·let⟨es,⟨us,c,b⟩,o2,rfl⟩:=h;let⟨T,D,G⟩:=tR.getV t hy;let⟨sa,ws,rfl,d,e,u⟩:=pX.two G;let g:=b.length;let S:=FF r.1 j;rw[aH]at g;dsimp![wZ];calc#[.inl #[rfl,_,cX.of c],_,c,_,dH.of<|es _ _ d,bU (m:=1000000) () (),?_];calc C _ _ #[wX es hp,#[_,zA,?_],_,rfl];rw[NA D,←cM];exact eI.append b e
    ·let⟨es,⟨us,c,b⟩,o2,rfl⟩:=h;rw[show r.1.take vs.length=r.1 from aQ ()]at b;exact k _ _ #[es,#[us,c,b],_,rfl]
   ·let⟨es,⟨us,c,b⟩,o2,rfl⟩:=h;let⟨sa,ws,rfl,d,e,u⟩:=pX.two z;let g:=b.length;rw[aH]at g;dsimp![wZ];calc#[.inl #[rfl,_,cX.of c],_,dH.of<|es _ _ o,.ref sa,pV,sa,rfl,_,c,_,dH.of<|es _ _ d,bU (m:=1000000) () (),?_];calc J _ _ #[wX es hp,#[_,zA,?_],_,_,rfl];rw[AQ n];unfold RG;rw[←cM];exact eI.append b e
  ·let⟨es,⟨us,c,b⟩,o1,o2,rfl⟩:=h;rw[aQ ()]at b;exact k _ _ #[es,#[us,c,b],_,_,rfl]
 ·let⟨es,⟨us,c,b⟩,o1,o2,rfl⟩:=h;let⟨sa,ws,rfl,d,e,u⟩:=pX.two hs;let g:=b.length;refine zD λN k=>?_
  dsimp![wZ];calc#[.inl #[rfl,_,cX.of c],_,c,_,dH.of<|es _ _ d,bU (m:=1000000) () (),k _ _ ?_];dsimp![];exact q p _ _ (wX es hp) zA<|bN.same (wX es hp)<|eI.append b e
abbrev s_T:Stmt:=top 26
theorem sc_T:bT ["places","saying"] ["places","saying"] (zF s_T):=by rfl'
abbrev s_k:Stmt:=top 27
theorem sc_k:bT ["places","rule"] ["places","rule"] (zF s_k):=by rfl'
abbrev sw:Stmt:=top 28
theorem m9:bT ["sheet","book","places"] ["sheet","book"] (zF sw):=by rfl'
theorem IZ{K:W.Frag}{H:Hp}:∀(aE:List Rw)(us:List V),gU K H aE us->∃as:List Addr,us=as.map V.ref/\as.length=aE.length/\∀(i:Nat)(r:Rw)(a:Addr),aE[i]?=some r->as[i]?=some a->Tw K H a ((jJ r).map kV)
 |[],us,h=>#[[],h,rfl,λi r a h=>by simp at h]
 |r::aE,us,⟨v,vs,b,⟨a,c,d⟩,e⟩=>by
  let⟨as,f,g,j⟩:=IZ aE vs e;subst b c f;calc#[a::as,rfl,dE (· +1) g,λi k l h1 h2=>?_];cases i with
  |zero=>cases h1;cases h2;rw[KA];exact d
  |succ i=>exact j i k l (by simpa using h1) (by simpa using h2)
theorem KN:∀(aE:List Rw)(as:List Addr)(k i:Nat)(x:XE),(sE aE as k)[i]?=some x->∃r a,aE[i]?=some r/\as[i]?=some a/\x=(jJ r,a,V.int ((k+i:Nat):Int))
 |[],_,_,_,_,h=>by unfold sE at h;simp at h
 |_::_,[],_,_,_,h=>by unfold sE at h;simp at h
 |r::aE,a::as,k,0,x,h=>by cases h;exact#[r,a,rfl,rfl,rfl]
 |r::aE,a::as,k,i+1,x,h=>by
  let⟨b,c,h1,h2,d⟩:=KN aE as (k+1) i x (by simpa[sE]using h);exact#[b,c,by simpa using h1,by simpa using h2,by rw[d,show k+1+i=k+(i+1) by lia]]
theorem BF:∀(aE:List Rw)(as:List Addr)(k:Nat),as.length=aE.length->(sE aE as k).map (·.1)=aE.map jJ
 |[],[],_,_=>rfl
 |[],_::_,_,h=>by cases h
 |_::_,[],_,h=>by cases h
 |q::aE,a::as,k,h=>dE (jJ q:: ·)<|BF aE as (k+1)<|lH h
inductive qu (P:Program) (w:World) (K:W.Frag) (vs:List V) (H:Hp) (Q:VK) (E:XK):Prop
 |mk (sa:Addr) (us:List V) (aE:List Rw) (_:vs=[.ref sa]) (_:H sa=some (.lst us)) (_:gU K H aE us) (_:aE.Nodup) (_:aE.length<=40) (_:∀pa as J H',aW H J->Px P w K H' J pa aE as->Q (.ref pa) H')
noncomputable def nS(aE:List Rw)(s:Tm×Tm):Pr:=(((eV s.1 aE).2:Nat),((eV s.2 aE).2:Nat))
noncomputable def nR(aE:List Rw)(r:List (Tm×Tm)×(Tm×Tm)):xK:=(r.1.map<|nS aE,nS aE r.2)
def ln(aE:List Rw)(t:Tm):Prop:=iJ 20 t/\(eV t aE).1=aE
def dw(aE:List Rw)(s:Tm×Tm):Prop:=ln aE s.1/\ln aE s.2
def xz(aE:List Rw)(r:List (Tm×Tm)×(Tm×Tm)):Prop:=r.1.length<=5/\(∀s∈r.1,dw aE s)/\dw aE r.2
inductive qv (P:Program) (w:World) (K:W.Frag) (vs:List V) (H:Hp) (Q:VK) (E:XK):Prop
 |mk (pa:Addr) (v:V) (aE:List Rw) (as:List Addr) (s:Tm×Tm) (J:Hp) (_:vs=[.ref pa,v]) (_:Px P w K H J pa aE as) (_:pX J s v) (_:dw aE s) (_:∀p J' H' iQ,aW J J'->Px P w K H' J' pa aE iQ->J' p=some (.tup [.int (nS aE s).1,.int (nS aE s).2])->Q (.ref p) H')
inductive spNr (P:Program) (w:World) (K:W.Frag) (vs:List V) (H:Hp) (Q:VK) (E:XK):Prop
 |mk (pa:Addr) (v:V) (aE:List Rw) (as:List Addr) (r:List (Tm×Tm)×(Tm×Tm)) (J:Hp) (_:vs=[.ref pa,v]) (_:Px P w K H J pa aE as) (_:MP J r v) (_:xz aE r) (_:∀v' J' H' iQ,aW J J'->Px P w K H' J' pa aE iQ->eE J' (ox<|nR aE r) v'->Q v' H')
inductive spNm (K:W.Frag) (vs:List V) (H:Hp) (Q:VK) (E:XK):Prop
 |mk (sa ba:Addr) (us bs:List V) (aE:List Rw) (b:List (List (Tm×Tm)×(Tm×Tm))) (_:vs=[.ref sa,.ref ba]) (_:H sa=some (.lst us)) (_:gU K H aE us) (_:aE.Nodup) (_:aE.length<=40) (_:H ba=some (.lst bs)) (_:fT H b bs) (_:b.length<=100) (_:(∀r∈b,xz aE r)) (_:∀p ws H',aW H H'->H' p=some (.lst ws)->bN H' ((b.map<|nR aE).map ox) ws->Q (.ref p) H')
section
variable {ff:Addr}
theorem NX(bi:Bi mg)(be:mg "enumerate"=none)(F:gF K "places_of" "places_of" s_I f fd):dC P w K mg base fU 1 f fd ["sheet"] (qu P w K):=by
 refine F.okz sc_I λeZ A outer s H vs Q E hr h=>?_
 let⟨sa,us,aE,rfl,m,v,lO,y,q⟩:=h;let⟨bs,rfl,g,o⟩:=IZ _ _ v;calc#[_,have nd:=sc_I.nd;zH<|zP<|yY (DU<|az hr) rfl bi.dict YV<|zG (zT ["k","row"] [] [] #[] (λ_ _ _ _ nd=>jQ (K:=K) (n:=2) rfl<|zV (zZ 0 nd)<|zV (zZ 1 nd) xW) (λ_ _ _ _=>zW) λ_ _ _ _=>#[]) zI,?_];dsimp![vH];calc#[_,m,?_];refine LI (xs:=bs.map V.ref) (λi ys σ H'=>aW H H'/\(∃as:List Addr,ys=as.map V.ref/\as.length=i/\∀(j:Nat)(a b:Addr),as[j]?=some a->bs[j]?=some b->H' a=some (.tup [.ref b,.int (j:Nat)]))/\∃o1 o2,σ=[o1,o2]) #[aW.refl _,#[[],rfl,rfl,λj a r h=>by simp at h],_,_,rfl] (small (by rw[aD];lia)) (λi ys σ H' e=>?_) (λi ys σ H' e=>e.1 _ _ m) (λi x ys σ H' p C hx e hp L=>?_) λys σ H' e p hp=>?_
 ·let⟨_,⟨as,rfl,h1,_⟩,_⟩:=e;rw[aD,h1];exact aG _
 ·let⟨es,⟨as,rfl,h1,B⟩,o1,o2,rfl⟩:=e;rw[aJ]at hx;let⟨b,hb,rfl⟩:=aM.mp hx;let c:=zB hp<|.tup [V.int i,V.ref b];dsimp![uP,jK,vK];calc#[_,dH.of zA,rfl,_,_,rfl,_,_,rfl,rfl,?_];generalize upd H' p (.tup [V.int i,V.ref b])=H1 at c⊢;calc#[small (),λM D=>L _ _ _ ?_];let J:=zB D<|.tup [V.ref b,V.int i];calc#[es.trans<|c.trans J,#[as++[M],by rw[aT];rfl,by rw[aH,h1];rfl,λj a N ha l=>?_],_,_,rfl];by_cases R:j<i
  ·rw[aZ ()]at ha;exact(c.trans J) _ _ (B j a N ha l)
  ·let G:j=i:=by
    have :=(aC.mp ha).1;rw[aH]at this;simp at this;lia
   rw[G,←h1,bI<|aG _]at ha;simp at ha;subst ha;rw[G,hb]at l;cases l;rw[G];exact zA
 let⟨es,⟨as,rfl,h1,B⟩,o1,o2,rfl⟩:=e;rw[aD]at h1;let c:=zB hp<|.lst<|as.map V.ref;refine#[p,rfl,as,cX.of zA,sE aE bs 0,by rw[kD _ _ _ g];lia,by rw[BF _ _ _ g];exact fW.mpr (lO.imp λmO z=>mO<|DD z),λi x hi=>?_,λd hd I=>?_]
 ·let⟨r,b,t,u,rfl⟩:=KN _ _ _ _ _ hi;let nO:=(aC.mp t).1;let O:=B i (as[i]'()) b (aA ()) u;exact#[_,aA (),dH.of (c _ _ (by rw[gG];calc O)),((o i r b t u).same (es.trans c)).sq]
 ·exact q d bs _ _ (es.trans c) #[rfl,hd,g,y,I,λi r a t u=>(o i r a t u).same (es.trans c)]
theorem GH(mf_found:mg "found"=some (.ref ff))(h_d:fZ P w K mg base 44 "number_by" ["row_number","places","t"] (FI P w K false ff 21))(F:gF K "pair_of" "pair_of" s_T f fd):dC P w K mg base fU 45 f fd ["places","saying"] (qv P w K):=by
 refine F.okz sc_T λeZ A outer s H vs Q E hr h=>?_
 let⟨pa,v,aE,as,s,J,rfl,d,hv,⟨⟨i,e⟩,j,g⟩,q⟩:=h;let⟨a,v1,v2,rfl,ha,t1,t2⟩:=hv.out;calc#[_,have nd:=sc_T.nd;zH<|zP<|yI<|zG (zU h_d hr.m rfl<|zG (VA mf_found rfl) #[])<|zG (zU h_d hr.m rfl<|zG (VA mf_found rfl) #[]) zI,?_];dsimp![];calc#[_,dH.of<|d.sub _ _ ha,_,lN,pa,v1,J,aE,as,s.1,rfl,d,t1,i,#[λ_=>e,by rw[e];calc d.few],λH1 J1 pW s1 b=>?_];rw[e]at b;calc#[_,dH.of<|b.sub _ _<|s1 _ _ ha,_,pV,pa,v2,J1,aE,pW,s.2,rfl,b,eE.same s1 t2,j,#[λ_=>g,by rw[g];calc d.few],λH2 k ki s2 c=>#[small (),λp hp=>?_]];rw[g]at c;exact q p _ _ ki (s1.trans<|s2.trans<|zB (c.free hp) _) (c.new hp _) zA
theorem ZE(h_T:fZ P w K mg base 45 "pair_of" ["places","saying"] (qv P w K))(F:gF K "numbered_rule" "numbered_rule" s_k f fd):dC P w K mg base fU 46 f fd ["places","rule"] (spNr P w K):=by
 refine F.okz sc_k λeZ A outer s H vs Q E hr h=>?_
 let⟨pa,v,aE,as,r,J,rfl,B,hv,⟨hl,D,hc⟩,q⟩:=h;let⟨a,l,u,vs,rfl,ha,j,c,nQ⟩:=hv.out;let I:=c.length;calc#[_,have nd:=sc_k.nd;zH<|zP<|yI<|zG (zT ["premise"] ["places"] [0] #[] (λ_ _ _ _ nd=>zZ 0 nd) (λ_ _ _ _=>zW) λ_ _ _ _=>(zU h_T hr.m rfl #[])) #[],?_];dsimp![];calc#[_,dH.of<|B.sub _ _ ha,_,lN,l,rfl,#[_,cX.of<|B.sub _ _ j],?_];refine yT (xs:=vs) (λi ys σ G=>∃J' iQ,aW J J'/\Px P w K G J' pa aE iQ/\bN J' ((r.1.take i).map λs=>PJ<|nS aE s) ys/\∃o,σ=[o,some<|V.ref pa]) #[J,as,aW.refl _,B,rfl,_,rfl] (small ()) (λi ys σ G e=>?_) (λi ys σ G e=>?_) (λi x ys σ G C hx e U=>?_) λys σ G e p hp=>?_
 ·let⟨J',_,_,_,hd,_⟩:=e;have :=bN.length hd;rw[aD,bF]at this;lia
 ·let⟨J',iQ,sJ,d,_⟩:=e;exact cX.of<|d.sub _ _<|sJ _ _ j
 ·let⟨J',iQ,sJ,d,hd,o,rfl⟩:=e;let⟨s1,k,L⟩:=c.getV hx;let⟨nO,M⟩:=aC.mp k;dsimp![];calc#[pa,x,aE,iQ,s1,J',rfl,d,eE.same sJ L,D s1<|aR k,λp N W ki S b hp=>U _ _ _ #[N,ki,sJ.trans S,b,?_,_,rfl]];rw[aP nO,M,aT];exact bN.append (bN.same S hd)<|bN.one #[p,_,rfl,hp,_,_,rfl,rfl,_,_,rfl,rfl,rfl]
 let⟨J1,pW,s1,n,hd,o,rfl⟩:=e;let b:=n.new hp<|.lst ys;let s2:=zB (n.free hp)<|.lst ys;let kp:upd J1 p (.lst ys) p=some (.lst ys):=zA;generalize upd J1 p (.lst ys)=N at b s2 kp;generalize upd G p (.lst ys)=W at b⊢;let g:=s1.trans s2;calc#[_,dH.of<|b.sub _ _<|g _ _ ha,_,pV,pa,u,aE,pW,r.2,N,rfl,b,eE.same g nQ,hc,λT Z G3 O R t X=>#[small (),λY y=>?_]];let z:=zB (t.free y)<|.tup [V.ref p,V.ref T];calc q _ _ _ O (g.trans<|R.trans z) (t.new y _) #[Y,_,rfl,zA,_,_,rfl,#[p,ys,rfl,(R.trans z) _ _ kp,?_],_,_,rfl,#[T,_,rfl,z _ _ X,_,_,rfl,rfl,_,_,rfl,rfl,rfl],rfl];show bN _ ((r.1.map<|nS aE).map PJ) ys;rw[dX];rw[I,aQ<|aG _]at hd;exact bN.same (s2.trans<|R.trans z) hd
theorem CB(bi:Bi mg)(h_I:fZ P w K mg base 1 "places_of" ["sheet"] (qu P w K))(h_k:fZ P w K mg base 46 "numbered_rule" ["places","rule"] (spNr P w K))(F:gF K "numbered" "numbered" sw f fd):dC P w K mg base fU 47 f fd ["sheet","book"] (spNm K):=by
 refine F.okz m9 λeZ A outer s H vs Q E hr h=>?_
 let⟨sa,ba,us,bs,aE,b,rfl,j,k,lO,l,n,hb,L,t,q⟩:=h;let u:bs.length=b.length:=by have :=bN.length hb;rwa[aD]at this
 calc#[_,have nd:=m9.nd;zC (uY (i:=2) nd rfl (Or.inr rfl) #[])<|zH<|zP<|zT ["rule"] ["places"] [2] #[] (λ_ _ _ _ nd=>zZ 0 nd) (λ_ _ _ _=>zW) λ_ _ _ _=>(zU h_k hr.m rfl #[]),?_];refine zD λN B=>?_
 dsimp![];calc#[sa,us,aE,rfl,j,k,lO,l,λd as J H1 s1 D=>B _ _ ?_];clear B;dsimp![];let a:=s1 _ _ n;calc#[#[_,cX.of<|D.sub _ _ a],?_];refine yT (xs:=bs) (λi ys σ G=>∃J' iQ,aW J J'/\Px P w K G J' d aE iQ/\bN J' ((b.take i).map λr=>ox<|nR aE r) ys/\∃o,σ=[o,some<|V.ref d]) #[J,as,aW.refl _,D,rfl,_,rfl] (small ()) (λi ys σ G e=>?_) (λi ys σ G e=>?_) (λi x ys σ G C hx e M=>?_) λys σ G e p hp=>?_
 ·let⟨J',_,_,_,hd,_⟩:=e;have :=bN.length hd;rw[aD,bF]at this;lia
 ·let⟨J',iQ,sJ,c,_⟩:=e;exact cX.of<|c.sub _ _<|sJ _ _ a
 ·let⟨J',iQ,sJ,c,hd,o,rfl⟩:=e;let⟨r,nG,v⟩:=xG hb hx;let⟨nO,y⟩:=aC.mp nG;dsimp![];calc#[d,x,aE,iQ,r,J',rfl,c,eE.same (s1.trans sJ) v,t r<|aR nG,λv' O R ki I z hv=>M _ _ _ #[O,ki,sJ.trans I,z,?_,_,rfl]];rw[aP nO,y,aT];exact bN.append (bN.same I hd)<|bN.one hv
 let⟨J1,pW,sJ,g,hd,o,rfl⟩:=e;rw[u,aQ<|aG _]at hd;let sp:=zB hp<|.lst ys;calc q p ys _ (s1.trans<|sJ.trans<|g.sub.trans sp) zA ?_;rw[dX];exact bN.same (g.sub.trans sp) hd
end
abbrev so:Stmt:=top 6
theorem m8:bT ["numbers","mask","n"] ["numbers"] (zF so):=by rfl'
abbrev s_u:Stmt:=qN (top 41) 0
theorem sc_u:bT ["self","many","clashes","a","b"] ["self","many","clashes"] (zF s_u):=by rfl'
abbrev s_h:Stmt:=qN (top 41) 1
theorem sc_h:bT ["self","sets","common","spots"] ["self","sets"] (zF s_h):=by rfl'
abbrev s_f:Stmt:=qN (top 41) 2
theorem sc_f:bT ["self","spots"] ["self","spots"] (zF s_f):=by rfl'
def jF(m:Nat)(ns:List Nat):Prop:=∀i,m.testBit i=decide (i∈ns)
def FJ(K:W.Frag):Sp:=λvs H Q _=>∃(a:Addr)(ns:List Nat),vs=[.ref a]/\cX K H a (ns.map nV)/\(∀n∈ns,n<100)/\∀m:Nat,jF m ns->Q (.int m) H
theorem WY{m:Nat}{ns:List Nat}(h:jF m ns):jF (m|||2^n) (ns++[n]):=λi=>by
 rw[tE,h,lM];by_cases e:n=i
 ·subst e;simp
 ·simp[e,cE e]
theorem GJ(bi:Bi mg)(F:gF K "mask_of" "mask_of" so f fd):dC P w K mg base fU 1 f fd ["numbers"] (FJ K):=by
 refine F.okz m8 λeZ A outer s H vs Q E hr h=>?_
 let⟨a,ns,rfl,ha,hn,q⟩:=h;calc#[_,have nd:=m8.nd;zC #[]<|zC (yC bX rfl #[] #[]<|zH<|UY (i:=1) nd rfl (Or.inl rfl) #[] DF) #[],?_];refine zD λN c=>?_
 dsimp![];calc c _ _ ?_;clear c;refine zM (λσ H'=>H'=H/\∃(m:Nat)(o:Option V),jF m ns/\σ=[some<|V.ref a,some<|V.int m,o]) (λN c=>?_) λσ H' h=>?_
 ·dsimp![];calc#[#[_,ha],?_];refine YU (xs:=ns.map nV) (λi σ H'=>H'=H/\∃(m:Nat)(o:Option V),jF m (ns.take i)/\σ=[some<|V.ref a,some<|V.int m,o]) #[rfl,0,_,λi=>by simp,rfl] (λi σ H' _ h=>by rw[h.1];calc ha) (λi x σ H' hx h=>?_) λσ H' h=>?_
  ·let⟨rfl,m,o,hm,rfl⟩:=h;rw[aJ]at hx;cases b:ns[i]? with
   |none=>rw[b]at hx;cases hx
   |some n=>
    rw[b]at hx;cases hx;let d:=hn n<|aR b;dsimp![RM,ay];refine#[#[(),(),()],m|||2^n,?_,?_,_,rfl]
    ·let⟨hi,e⟩:=aC.mp b;rw[aP hi,e];exact WY hm
    ·rw[uE,kG]
  ·let⟨rfl,m,o,hm,rfl⟩:=h;rw[aD,aQ<|aG _]at hm;exact c _ _ #[rfl,m,o,hm,rfl]
 let⟨rfl,m,o,hm,rfl⟩:=h;dsimp![];exact q m hm
noncomputable def uQ(ps:List (Nat×Nat))(a b:Nat):Bool:=ps.any λp=>(p.1==a&&p.2==b) ||(p.1==b&&p.2==a)
theorem OU(ps:List (Nat×Nat))(a b:Nat):uQ ps a b=uQ ps b a:=by
 unfold uQ
 congr 1
 funext p
 rw[Bool.or_comm]
theorem OT(ps:List (Nat×Nat))(p:Nat×Nat)(a b:Nat):uQ (ps++[p]) a b=(uQ ps a b ||((p.1==a&&p.2==b) ||(p.1==b&&p.2==a))):=by
 unfold uQ;rw[List.any_append];simp
noncomputable def PL(p:Nat×Nat):Dt:=.tup [.int p.1,.int p.2]
def Ok2(m:Nat)(ps:List (Nat×Nat)):Prop:=∀p∈ps,p.1<p.2/\p.2<m
theorem p2At{p:Nat×Nat}(h:eE H (PL p) v):∃a,v=.ref a/\H a=some (.tup [nV p.1,nV p.2]):=by
 let⟨a,vs,c,d,e,r1,f,h1,g,i,j,h2,b⟩:=h;let h1:e=nV p.1:=h1;let h2:g=nV p.2:=h2;let b:i=[]:=b;subst b j f h1 h2;exact#[a,c,d]
noncomputable def cnt(m:Nat)(ps:List (Nat×Nat))(sp:List Nat):List Nat:=(List.range m).filter λi=>sp.all λa=>uQ ps a i
theorem tO{m:Nat}{ps:List (Nat×Nat)}:i∈cnt m ps sp↔i<m/\(sp.all λa=>uQ ps a i)=true:=by
 unfold cnt;rw[bM,bL]
theorem DR(m:Nat)(ps:List (Nat×Nat))(sp:List Nat):(cnt m ps sp).Pairwise (· < ·):=fR _ dL
theorem OV{xs ys:List Nat}(h:∀x,x∈xs↔x∈ys)(f:Nat->Bool):xs.all f=ys.all f:=by
 rw[bY,cW,cW];exact#[λg x hx=>g x<|(h x).mpr hx,λg x hx=>g x<|(h x).mp hx]
theorem ZM{m:Nat}{ps:List (Nat×Nat)}{xs ys:List Nat}(h:∀x,x∈xs↔x∈ys):cnt m ps xs=cnt m ps ys:=by
 unfold cnt
 congr 1
 funext i
 exact OV h _
theorem WD(m:Nat)(ns:List Nat)(h:jF m ns):∃xs,rR m xs/\∀x,x∈xs↔x∈ns:=by
 refine#[(List.range<|m+1).filter λi=>m.testBit i,#[fR _ dL,λi=>?_],λx=>?_]
 ·rw[bY,bH,bM,bL];constructor
  ·intro hb;have :=qd hb;have :=Nat.lt_two_pow_self (n:=i);exact#[(),hb]
  ·exact λhb=>hb.2
 ·rw[bM,bL,h x,bH];constructor
  ·exact λhb=>hb.2
  ·intro hb;let a:m.testBit x=true:=by rw[h x];simpa using hb
   have :=qd a;have :=Nat.lt_two_pow_self (n:=x);exact#[(),hb]
structure FlC(K:W.Frag)(C:Addr):Prop where
 cl:MT K C
 nE:lP K C "everywhere"
 nC:lP K C "clashing"
noncomputable def ET(e:Nat)(l:Addr):List (Str×V):=[("everywhere",nV e),("clashing",.ref l)]
theorem fl_e(e:Nat)(l:Addr):(ET e l).lookup ("everywhere":Str)=some (nV e):=by
 unfold ET;rw[bQ,show(("everywhere":Str)=="everywhere")=true by decide+kernel]
theorem we(e:Nat)(l:Addr):(ET e l).lookup ("clashing":Str)=some (.ref l):=by
 unfold ET;rw[bQ,show(("clashing":Str)=="everywhere")=false by decide+kernel,bQ,show(("clashing":Str)=="clashing")=true by decide+kernel]
structure Msk(m:Nat)(ps:List (Nat×Nat))(cs:List Nat):Prop where
 len:cs.length=m
 bit:∀(a c:Nat),cs[a]?=some c->∀i,c.testBit i=uQ ps a i
def EM(C:Addr)(H:Hp)(r:Addr)(m:Nat)(ps:List (Nat×Nat)):Prop:=∃dx l cs,H r=some (.ins C dx<|ET (2^m-1) l)/\H l=some (.lst<|cs.map nV)/\Msk m ps cs
theorem EM.same{C:Addr}{r:Addr}{m:Nat}{ps:List (Nat×Nat)}(e:aW H H')(h:EM C H r m ps):EM C H' r m ps:=by
 let⟨dx,l,cs,h1,h2,a⟩:=h;exact#[dx,l,cs,e _ _ h1,e _ _ h2,a]
theorem jh(m:Nat):Msk m [] (List.replicate m 0):=#[sR ..,λa c h i=>by
 let⟨_,e⟩:=aC.mp h;rw[List.getElem_replicate]at e;subst e;simp[uQ]]
theorem jg{m:Nat}{ps:List (Nat×Nat)}{cs:List Nat}{a b ca cb:Nat}(h:Msk m ps cs)(hab:a≠b)(ha:cs[a]?=some ca)(hb:cs[b]?=some cb):Msk m (ps++[(a,b)]) ((cs.set a<|ca|||2^b).set b (cb|||2^a)):=by
 calc#[by rw[lW,lW];exact h.len,λx c hx i=>?_];let la:=(aC.mp ha).1;let lb:=(aC.mp hb).1;rw[OT];by_cases d:b=x
 ·subst d;rw[iO (by rw[lW];calc lb)]at hx;cases hx;rw[tE,h.bit b cb hb,lM];have :(a==b)=false:=cR.mpr hab;simp only[this,fS,Bool.false_or,dN,Bool.and_true]
  congr 1
 ·rw[hJ d]at hx;by_cases e:a=x
  ·subst e;rw[iO la]at hx;cases hx;rw[tE,h.bit a ca ha,lM];have :(b==a)=false:=cR.mpr<|cE hab;simp only[this,pM,AJ,dN,nZ]
   congr 1
  ·rw[hJ e]at hx;rw[h.bit x c hx];let t1:(a==x)=false:=cR.mpr e;let t2:(b==x)=false:=cR.mpr d;simp[t1,t2]
inductive re (C:Addr) (vs:List V) (H:Hp) (Q:VK) (E:XK):Prop
 |mk (r dx ca:Addr) (m:Nat) (us:List V) (ps:List (Nat×Nat)) (_:vs=[.ref r,.int m,.ref ca]) (_:H r=some (.ins C dx [])) (_:ca≠r) (_:H ca=some (.lst us)) (_:bN H (ps.map PL) us) (_:Ok2 m ps) (_:m<=90) (_:∀H',hW r H H'->EM C H' r m ps->Q .non H')
inductive rf (K:W.Frag) (C:Addr) (vs:List V) (H:Hp) (Q:VK) (E:XK):Prop
 |mk (r sa:Addr) (m:Nat) (ps:List (Nat×Nat)) (ms:List Nat) (_:vs=[.ref r,.ref sa]) (_:EM C H r m ps) (_:cX K H sa (ms.map nV)) (_:ms.length<=1000) (_:∀c:Nat,(∀i,c.testBit i=(decide (i<m)&&ms.all λx=>x.testBit i))->Q (.int c) H)
inductive spCn (C:Addr) (vs:List V) (H:Hp) (Q:VK) (E:XK):Prop
 |mk (r:Addr) (m s:Nat) (ps:List (Nat×Nat)) (xs:List Nat) (_:vs=[.ref r,.int s]) (_:EM C H r m ps) (_:m<=90) (_:rR s xs) (_:(∀x∈xs,x<m)) (_:∀(c:Nat) H',aW H H'->jF c (cnt m ps xs)->Q (.int c) H')
theorem OA{C:Addr}(T:FlC K C)(F:gF K "common_of" "Floor.common_of" s_h f fd):dC P w K mg base fU 1 f fd ["self","sets"] (rf K C):=by
 refine F.okz sc_h λeZ A outer s H vs Q E hr h=>?_
 let⟨r,sa,m,ps,ms,rfl,⟨dx,l,cs,lL,hl,hm⟩,hs,d,q⟩:=h;calc#[_,have nd:=sc_h.nd;zC #[]<|zC (yC bX rfl #[] #[]<|zH<|UY (i:=2) nd rfl (Or.inl rfl) #[] vt) #[],?_];refine zD λN b=>?_
 dsimp![xS];calc#[C,dx,_,lL,T.cl,T.nE,_,fl_e _ _,b _ _ ?_];clear b;refine zM (λσ H'=>H'=H/\∃(c:Nat)(o:Option V),(∀i,c.testBit i=(decide (i<m)&&ms.all λx=>x.testBit i))/\σ=[some<|V.ref r,some<|V.ref sa,some<|nV c,o]) (λN b=>?_) λσ H' h=>?_
 ·dsimp![];calc#[#[_,hs],?_];refine YU (xs:=ms.map nV) (λk σ H'=>H'=H/\∃(c:Nat)(o:Option V),(∀i,c.testBit i=(decide (i<m)&&(ms.take k).all λx=>x.testBit i))/\σ=[some<|V.ref r,some<|V.ref sa,some<|nV c,o]) #[rfl,2^m-1,_,λi=>by rw[oZ];simp,rfl] (λi σ H' _ h=>by rw[h.1];calc hs) (λk x σ H' hx h=>?_) λσ H' h=>?_
  ·let⟨rfl,c,o,hc,rfl⟩:=h;rw[aJ]at hx;cases a:ms[k]? with
   |none=>rw[a]at hx;cases hx
   |some n=>
    rw[a]at hx;cases hx;dsimp![RM,ay];calc#[c&&&n,λi=>?_,EK c n,_,rfl];let⟨hk,e⟩:=aC.mp a;rw[lV,hc,aP hk,e,List.all_append,Bool.and_assoc];simp
  ·let⟨rfl,c,o,hc,rfl⟩:=h;rw[aD,aQ<|aG _]at hc;exact b _ _ #[rfl,c,o,hc,rfl]
 let⟨rfl,c,o,hc,rfl⟩:=h;dsimp![];exact q c hc
theorem ZU(e:Nat)(l:Addr){x:Str}(h1:(x==("everywhere":Str))=false)(h2:(x==("clashing":Str))=false):(ET e l).lookup x=none:=by
 unfold ET;rw[bQ,h1,bQ,h2];rfl
theorem wc(e:Nat)(l:Addr):yP "clashing" (.ref l) (yP "everywhere" (nV e) [])=ET e l:=by
 unfold ET;rfl
theorem ck(m:Nat):(1:Int)*2^(m:Int).toNat-1=((2^m-1:Nat):Int):=by
 rw[uE];have :=dh m;lia
theorem WN{C:Addr}(T:FlC K C)(F:gF K "__init__" "Floor.__init__" s_u f fd):dC P w K mg base fU 1 f fd ["self","many","clashes"] (re C):=by
 refine F.okz sc_u λeZ A outer s H vs Q E hr h=>?_
 let⟨r,dx,ca,m,us,ps,rfl,lL,u,y,B,hok,hm,q⟩:=h;let nF:us.length=ps.length:=by have :=bN.length B;rwa[aD]at this
 calc#[_,have nd:=sc_u.nd;zC (ZB #[] #[] rfl)<|zC (ZB #[] (jO GA #[] #[]) rfl)<|zH<|yC bX rfl #[] #[]<|zC (YJ #[] #[] kM #[] DF wW)<|zH<|YJ #[] #[] kM #[] DF wW,?_];refine zD λN D=>?_
 dsimp![FQ];calc#[#[(),(),()],C,dx,[],lL,T.cl,T.nE,(),D _ _ ?_];clear D;rw[ck];refine zD λN D=>?_
 dsimp![FQ,gc];calc#[small (by simp),λj e=>#[[V.int 0],zA,(),(),small (by simp;lia),λl hl=>?_]];let n:j≠r:=λz=>by rw[z,zA]at e;cases e
 let G:H j=none:=by rw[zE n]at e;exact e
 let I:l≠j:=λz=>by rw[z,zA]at hl;cases hl
 rw[zE I]at hl;let g:l≠r:=λz=>by rw[z,zA]at hl;cases hl
 rw[zE g]at hl;let kr:upd (upd (upd H r<|.ins C dx<|yP "everywhere" (nV<|2^m-1) []) j<|.lst [.int 0]) l (.lst<|(List.replicate (m:Int).toNat [V.int 0]).flatten) r=some (.ins C dx<|yP "everywhere" (nV<|2^m-1) []):=by
  rw[zE<|cE g,zE<|cE n,zA]
 calc#[C,dx,_,kr,T.cl,T.nC,by show 1<1000;decide,D _ _ ?_];clear D;rw[wc];let x1:hW r H (upd (upd (upd (upd H r<|.ins C dx<|yP "everywhere" (nV<|2^m-1) []) j<|.lst [.int 0]) l<|.lst<|(List.replicate (m:Int).toNat [V.int 0]).flatten) r<|.ins C dx<|ET (2^m-1) l):=hW.upd<|yX (yX (hW.upd<|hW.refl r H) G) hl;let x2:upd (upd (upd (upd H r<|.ins C dx<|yP "everywhere" (nV<|2^m-1) []) j<|.lst [.int 0]) l<|.lst<|(List.replicate (m:Int).toNat [V.int 0]).flatten) r (.ins C dx<|ET (2^m-1) l) r=some (.ins C dx<|ET (2^m-1) l):=zA;let x3:upd (upd (upd (upd H r<|.ins C dx<|yP "everywhere" (nV<|2^m-1) []) j<|.lst [.int 0]) l<|.lst<|(List.replicate (m:Int).toNat [V.int 0]).flatten) r (.ins C dx<|ET (2^m-1) l) l=some (.lst<|(List.replicate m 0).map nV):=by
  rw[zE g,zA,bS,XH]
 generalize upd (upd (upd (upd H r<|.ins C dx<|yP "everywhere" (nV<|2^m-1) []) j<|.lst [.int 0]) l<|.lst<|(List.replicate (m:Int).toNat [V.int 0]).flatten) r (.ins C dx<|ET (2^m-1) l)=H1 at x1 x2 x3⊢;clear kr n I e G;dsimp![];calc#[#[_,cX.of<|x1 _ _ y u],?_];refine xH (xs:=us) (λk σ H'=>∃(o1 o2:Option V)(cs:List Nat),hW r H H'/\H' r=some (.ins C dx<|ET (2^m-1) l)/\H' l=some (.lst<|cs.map nV)/\Msk m (ps.take k) cs/\σ=[some<|V.ref r,some<|V.int m,some<|V.ref ca,o1,o2]) #[_,_,_,x1,x2,x3,jh m,rfl] (λk σ H' _ h=>?_) (λk x σ H' hx h M R=>?_) λσ H' h=>?_
 ·let⟨o1,o2,cs,h1,_⟩:=h;exact cX.of<|h1 _ _ y u
 ·let⟨o1,o2,cs,h1,h2,S,p,rfl⟩:=h;let hk:k<ps.length:=by rw[←nF];exact(aC.mp hx).1
  let⟨v,J,U⟩:=bN.get (d:=PL ps[k]) B (by rw[aJ,aA hk];rfl);rw[hx]at J;cases J;let L:=hok _<|cO hk;let⟨t,rfl,ht⟩:=p2At U;let W:t≠r:=λz=>by rw[z,lL]at ht;cases ht
  let ht':=h1 _ _ ht W;let e4:ps.take (k+1)=ps.take k++[(ps[k].1,ps[k].2)]:=by rw[aP hk]
  rw[e4]at R;clear e4;generalize ps[k].1=a at ht' L R;generalize ps[k].2=b at ht' L R;let la:a<cs.length:=by rw[p.len];lia
  let lb:b<cs.length:=by rw[p.len];lia
  let X:=aA la;let Y:=aA lb;generalize cs[a]=c at X;generalize cs[b]=O at Y;dsimp![uP,jK,vK,IU,xS,KI,ay,KH];calc#[[nV a,nV b],dH.of ht',rfl,nV a,[nV b],rfl,nV b,[],rfl,rfl,?_];let mset:∀(cs:List Nat)(i v:Nat),(cs.map nV).set i (V.int (v:Int))=(cs.set i v).map nV:=λcs i v=>(List.map_set (f:=nV) (l:=cs) (i:=i) (a:=v)).symm
  calc#[C,dx,_,h2,T.cl,T.nC,_,we _ _,l,rfl,_,a,rfl,S,nV c,by rw[aJ,X];rfl,_,rfl,#[(),(),()],_,rfl,l,rfl,_,rfl,_,S,a,YR (by rw[aD];calc la),?_];rw[uE b,kG,mset];let Z:(cs.set a<|c|||2^b)[b]?=some O:=by rw[hJ ()];exact Y
  let lb':b<(cs.set a<|c|||2^b).length:=by rw[lW];exact lb
  let j1:upd H' l (.lst<|(cs.set a<|c|||2^b).map nV) r=some (.ins C dx<|ET (2^m-1) l):=by rw[zE<|cE g];exact h2
  let j2:upd H' l (.lst<|(cs.set a<|c|||2^b).map nV) l=some (.lst<|(cs.set a<|c|||2^b).map nV):=zA;let j3:=yX (o:=.lst<|(cs.set a<|c|||2^b).map nV) h1 hl;generalize upd H' l (.lst<|(cs.set a<|c|||2^b).map nV)=H2 at j1 j2 j3⊢;calc#[C,dx,_,j1,T.cl,T.nC,_,we _ _,l,rfl,_,b,rfl,j2,nV O,by rw[aJ,Z];rfl,_,rfl,#[(),(),()],_,rfl,l,rfl,_,rfl,_,j2,b,YR (by rw[aD];calc lb'),?_];rw[uE a,kG,mset];exact R _ _ #[_,_,_,yX j3 hl,by rw[zE<|cE g];exact j1,zA,jg p () X Y,rfl]
 ·let⟨o1,o2,cs,h1,h2,S,p,rfl⟩:=h;rw[nF,aQ<|aG _]at p;exact q _ h1 #[dx,l,cs,h2,S,p]
theorem JQ{C:Addr}(T:FlC K C)(bi:Bi mg)(h_E:fZ P w K mg base 1 "bits_of" ["mask"] sM)(h_h:mK P w K mg base 1 C "common_of" ["self","sets"] (rf K C))(F:gF K "counter_of" "Floor.counter_of" s_f f fd):dC P w K mg base fU 2 f fd ["self","spots"] (spCn C):=by
 refine F.okz sc_f λeZ A outer s H vs Q E hr h=>?_
 let⟨r,m,s',ps,xs,rfl,u,z,hb,t,q⟩:=h;let v:=u;let⟨dx,l,cs,lL,hl,hm⟩:=v;let b:∀x∈xs,x<100:=λx hx=>by have :=t x hx;lia
 let G:=EF hb λx hx=>Nat.lt_trans (b x hx) ();let iC:=T.cl;calc#[_,have nd:=sc_f.nd;zH<|zP<|xM h_h iC hr.m #[]<|zG (zT ["a"] ["self"] [0] #[] (λ_ _ _ _ nd=>zZ 0 nd) (λ_ _ _ _=>zW) λ_ _ _ _=>(zL (qD K) (KQ K #[] rfl) #[])) zI,?_];dsimp![yJ,xS];calc#[_,_,lL,ZU _ _ () (),?_];calc#[s',xs,rfl,hb,(λx hx=>Nat.lt_trans (b x hx) ()),λp H1 s1 hp B=>#[p,rfl,#[_,cX.of B],?_]];refine yT (xs:=xs.map nV) (λi ys σ H'=>H'=H1/\ys=((xs.take i).map λa=>cs.getD a 0).map nV/\∃o,σ=[o,some<|V.ref r]) #[rfl,rfl,_,rfl] (small (by rw[aD];lia)) (λi ys σ H' e=>?_) (λi ys σ H' e=>by rw[e.1];calc cX.of B) (λi x ys σ H' L hx e I=>?_) λys σ H' e J y=>?_
 ·let⟨_,rfl,_⟩:=e;rw[aD,aD,bF];lia
 ·let⟨rfl,rfl,o,rfl⟩:=e;rw[aJ]at hx;cases d:xs[i]? with
  |none=>rw[d]at hx;cases hx
  |some n=>
   rw[d]at hx;cases hx;let hn:=t n<|aR d;let g:n<cs.length:=by rw[hm.len];exact hn
   dsimp![xS];refine#[C,dx,_,s1 _ _ lL,T.cl,T.nC,_,we _ _,l,rfl,_,cX.of<|s1 _ _ hl,nV<|cs.getD n 0,?_,I _ _ _ #[rfl,?_,_,rfl]]
   ·calc zN (j:=n) ?_;rw[aJ,bW,aA g];rfl
   ·let⟨hi,e⟩:=aC.mp d;rw[aP hi,e,aT,aT];rfl
 let⟨rfl,rfl,o,rfl⟩:=e;rw[aD,aQ<|aG _];let D:=zB y (.lst<|(xs.map λa=>cs.getD a 0).map nV);calc#[r,J,m,ps,xs.map λa=>cs.getD a 0,rfl,EM.same (s1.trans D) u,cX.of zA,by rw[aD];lia,λc hc=>q c _ (s1.trans D) λi=>?_];rw[hc,bY,bH,tO,cD,bH,pC];refine and_congr_right λ_=>?_
 rw[cW,cW];let k:∀x∈xs,(cs.getD x 0).testBit i=uQ ps x i:=λx hx=>by
  let g:x<cs.length:=by rw[hm.len];exact t x hx
  rw[bW,aA g];exact hm.bit x _ (aA g) i
 constructor
 ·intro h x hx;rw[←k x hx];exact h x hx
 ·intro h x hx;show(cs.getD x 0).testBit i=true;rw[k x hx];exact h x hx
theorem XN{H H':Hp}(e:dB H H'):∀{ps:List (Nat×Nat)}{us:List V},bN H (ps.map PL) us->bN H' (ps.map PL) us
 |[],us,h=>h
 |p::ps,us,h=>by
  let⟨v,r,b,c,d⟩:=h;let⟨a,f,g⟩:=p2At c;exact#[v,r,b,#[a,_,f,e _ _ g,_,_,rfl,rfl,_,_,rfl,rfl,rfl],XN e d]
mutual
noncomputable def nms:Tm->List Str
 | .name x=>[x]
 | .node _ ts=>xN ts
noncomputable def xN:List Tm->List Str
 |[]=>[]
 |t::ts=>nms t++xN ts
end
theorem sO{x:Str}:∀{ts:List Tm},x∈xN ts↔∃t∈ts,x∈nms t
 |[]=>by simp[xN]
 |t::ts=>by rw[xN,bE,sO (ts:=ts)];simp
theorem MV(j:Int)(h:0<=j/\j<2):∃w:Str,(w="both"\/w="either")/\pU [V.str "both",V.str "either"] j=some (.str w):=by
 have :j=0\/j=1:=by lia
 rcases this with rfl |rfl
 ·exact#["both",.inl rfl,rfl]
 ·exact#["either",.inr rfl,rfl]
theorem rh{w:Str}{k:Nat}(hw:w="both"\/w="either")(hk:2<=k):Sh w k:=by
 rcases hw with h |h
 ·exact .inr<|.inr<|.inr<|.inl #[h,hk]
 ·exact .inr<|.inr<|.inr<|.inr #[h,hk]
theorem CU:∀ts us:List Tm,xN (ts++us)=xN ts++xN us
 |[],us=>by simp[xN]
 |t::ts,us=>by rw[List.cons_append,xN,xN,CU ts us,cM]
theorem QK{t:Tm}(h:ts[i]?=some t):xN (ts.take<|i+1)=xN (ts.take i)++nms t:=by
 let⟨a,b⟩:=aC.mp h;rw[aP a,b,CU];show _++(nms t++xN [])=_;rw[xN,cK]
mutual
theorem jd:∀t:Tm,(nms t).length<=wt t
 | .name _=>by rw[nms,wt];exact aG _
 | .node _ ts=>by
   rw[nms,wt];have :=kI ts;lia
theorem kI:∀ts:List Tm,(xN ts).length<=oM ts
 |[]=>by rw[xN,oM];exact aG _
 |t::ts=>by
  rw[xN,oM,aH];have :=jd t;have :=kI ts;lia
end
abbrev tq:Stmt:=top 9
theorem nq:bT ["t"] ["t"] (zF tq):=by rfl'
noncomputable def AD:Tm->List Tm
 | .name _=>[]
 | .node _ ts=>ts
def qt:Sp:=λvs H Q _=>∃(v:V)(t:Tm),vs=[v]/\gQ H t v/\(∀w ts,t=.node w ts->Wrd w)/\∀p us H',aW H H'->H' p=some (.tup us)->eI H' (AD t) us->Q (.ref p) H'
abbrev s_c:Stmt:=top 10
theorem sc_c:bT ["t","found","part"] ["t","found"] (zF s_c):=by rfl'
abbrev s_v:Stmt:=top 11
theorem sc_v:bT ["terms","found","t"] ["terms"] (zF s_v):=by rfl'
abbrev sy:Stmt:=top 12
theorem ng:bT ["t"] ["t"] (zF sy):=by rfl'
noncomputable def YE(zs:List Str)(x:Str):List Str:=if x∈zs then zs else zs++[x]
noncomputable def yN(zs:List Str)(xs:List Str):List Str:=xs.foldl YE zs
theorem wT(zs xs ys:List Str):yN zs (xs++ys)=yN (yN zs xs) ys:=by unfold yN;rw[List.foldl_append]
theorem uM:∀(xs zs:List Str),(yN zs xs).length<=zs.length+xs.length
 |[],zs=>by simp[yN]
 |x::xs,zs=>by
  have :=uM xs<|YE zs x;let h2:(YE zs x).length<=zs.length+1:=by unfold YE;split<;>simp
  show(yN (YE zs x) xs).length<=_;rw[bJ];lia
noncomputable def dz(zs:List Str):List (fC×V):=zs.map λx=>(.inr x,.bl true)
theorem gg(zs:List Str)(x:Str):jC (dz zs) (.inr x:fC) (.bl true)=dz (YE zs x):=by
 let e:((dz zs).any λa=>decide<|a.1=(.inr x:fC))=decide (x∈zs):=by
  rw[bY,dO,bH];unfold dz;constructor
  ·rintro⟨p,hp,h⟩;let⟨y,hy,rfl⟩:=bV.mp hp;let h:(Sum.inr y:fC)=.inr x:=by simpa using h
   rw[←PR h];exact hy
  ·intro h;exact#[_,bV.mpr #[x,h,rfl],by simp]
 unfold jC YE;rw[e];by_cases h:x∈zs
 ·rw[aL (by simpa using h),aL h];unfold dz;rw[dX];apply List.map_congr_left;intro y hy;simp only[Function.comp];split<;>rfl
 ·rw[aI (by simpa using h),aI h];unfold dz;rw[aT];rfl
def iD(d:Addr)(H H':Hp):Prop:=∀b o,H b=some o->b≠d->H' b=some o
theorem iD.refl(d:Addr)(H:Hp):iD d H H:=λ_ _ h _=>h
theorem iD.trans{d:Addr}{H1 H2:Hp}(a:iD d H H1)(b:iD d H1 H2):iD d H H2:=λc o h n=>b c o (a c o h n) n
theorem iD.of{d:Addr}(a:aW H H'):iD d H H':=λc o h _=>a c o h
theorem iD.upd{d:Addr}{H1:Hp}{o:HO}(a:iD d H H1):iD d H (L2.upd H1 d o):=λc o' h n=>by
 rw[zE n];exact a c o' h n
theorem iD.tups{d:Addr}{kvs:List (fC×V)}(a:iD d H H')(h:H d=some (.dK kvs)):dB H H':=λb xs e=>a b _ e (jI e h (by intro z;cases z))
noncomputable def dk:Tm->List Str
 | .name x=>[x]
 | .node _ _=>[]
def ft:Nat->Sp
 |0=>λ_ _ _ _=>False
 |1=>λ_ _ _ _=>False
 |n+2=>λvs H Q _=>∃(v:V)(d:Addr)(t:Tm)(zs:List Str),vs=[v,.ref d]/\gQ H t v/\iJ n t/\wt t<=900/\H d=some (.dK<|dz zs)/\zs.length+wt t<=100000/\∀H',iD d H H'->H' d=some (.dK<|dz<|yN zs<|nms t)->Q .non H'
def qy:Sp:=λvs H Q _=>∃(a:Addr)(us:List V)(ts:List Tm),vs=[.ref a]/\H a=some (.lst us)/\eI H ts us/\(∀t∈ts,iJ 20 t/\wt t<=900)/\oM ts<=20000/\(yN []<|xN ts).length<64/\
 ∀p zs' H',aW H H'->H' p=some (.lst<|zs'.map V.str)->zs'.Perm (yN []<|xN ts)->PyProof.Rows.sortedS zs'=true->Q (.ref p) H'
inductive spNO (vs:List V) (H:Hp) (Q:VK) (E:XK):Prop
 |mk (v:V) (t:Tm) (_:vs=[v]) (_:gQ H t v) (_:iJ 20 t) (_:wt t<=900) (_:(yN []<|nms t).length<64) (_:∀p zs' H',aW H H'->H' p=some (.lst<|zs'.map V.str)->zs'.Perm (yN []<|nms t)->PyProof.Rows.sortedS zs'=true->Q (.ref p) H')
theorem BZ(bi:Bi mg)(F:gF K "parts_of" "parts_of" tq f fd):dC P w K mg base fU 1 f fd ["t"] qt:=by
 refine F.okz nq λeZ A outer s H vs Q E hr h=>?_
 let⟨v,t,rfl,ht,c,q⟩:=h;calc#[_,have nd:=nq.nd;zH<|zP<|qX #[] #[]<|xL FL #[] (xV zJ) jP,?_];cases t with
 |name x=>
  let⟨a,rfl,ha⟩:=gQ.name ht;dsimp![];calc#[_,dH.of ha,.str "name",lN,rfl,?_];rw[aL rfl];exact#[small (),λp hp=>q _ [] _ (zB hp _) zA rfl]
 |node b ts=>
  let⟨a,us,rfl,ha,d⟩:=gQ.node ht;dsimp![];calc#[_,dH.of ha,.str b,lN,rfl,?_];rw[aI λe=>(c b ts rfl).ne (V.str.inj e)];calc#[_,dH.of ha,uT _ _,λp hp=>?_];rw[kO];exact q p us _ (zB hp _) zA<|eI.tups (zB hp _).tups d
theorem YB(bi:Bi mg)(h_ac:fZ P w K mg base 1 "parts_of" ["t"] qt)(F:gF K "gather_names" "gather_names" s_c f fd)(b:Binds K fd ["t","found"] [])(m:mg "gather_names"=some (.ref f)):∀n,dC P w K mg base fU n f fd ["t","found"] (ft n):=by
 calc SI F b m (λvs H Q E h=>h) λn h_c=>?_;cases n with
 |zero=>exact#[λvs H Q E h=>h.elim,λA outer s H args us vs Q E _ _ _ _ h=>h.elim]
 |succ n=>
 refine F.okz sc_c λeZ A outer s H vs Q E hr h=>?_
 let⟨v,d,t,zs,rfl,ht,hf,X,hd,hz,q⟩:=h;calc#[_,have nd:=sc_c.nd;zC (yK #[] (zH<|UX (xO hr) #[] #[] KR rfl) zS)<|zH<|yC bX rfl (wJ #[]) #[] #[],?_];let C:nms t=dk t++xN (AD t):=by
  cases t with
  |name x=>rw[nms,dk,AD,xN];rfl
  |node y ts=>rw[nms,dk,AD];rfl
 let R:oM (AD t)<=wt t/\(dk t).length+oM (AD t)<=wt t:=by
  cases t with
  |name x=>rw[AD,oM,dk,wt];exact#[(),by simp]
  |node y ts=>rw[AD,wt,dk];exact#[(),by simp]
 let D:∀w ts,t=.node w ts->Wrd w:=λw ts e=>by subst e;exact hf.wrd
 let part:∀(i:Nat)(u:Tm),(AD t)[i]?=some u->∃m,n=m+1/\iJ m u/\wt u<=oM (AD t):=λi u hi=>by
  let hm:=aR hi;have :=YF hm;cases t with
  |name x=>cases hm
  |node y ts=>
   let hm:u∈ts:=hm;cases n with
   |zero=>rw[hf.2]at hm;cases hm
   |succ n=>exact#[n,rfl,hf.part hm,this]
 refine zM (λσ H'=>iD d H H'/\H' d=some (.dK<|dz<|yN zs<|dk t)/\∃o,σ=[some v,some<|V.ref d,o]) (λN M=>?_) λσ H' h=>?_
 ·dsimp![IY];cases t with
  |name x=>
   let⟨a,rfl,ha⟩:=gQ.name ht;calc#[_,rfl,_,dH.of ha,.str "name",lN,rfl,?_];rw[aL rfl];calc#[_,rfl,_,dH.of ha,.str x,pV,_,IF.k (k:=.inr x) hd (fN (show(dz zs).length<=1000000 by unfold dz;rw[aD];lia) ()),M _ _ ?_];rw[gg];exact#[(iD.refl d H).upd,zA,_,rfl]
  |node y ts=>
   let⟨a,us,rfl,ha,G⟩:=gQ.node ht;calc#[_,rfl,_,dH.of ha,.str y,lN,rfl,?_];rw[aI λe=>hf.wrd.ne<|V.str.inj e];exact M _ _ #[iD.refl d H,hd,_,rfl]
 ·let⟨es,j,o,rfl⟩:=h;let I:=gQ.tups (es.tups hd) ht;dsimp![qt];calc#[t,I,D,λp us H2 B hp G=>#[#[_,dH.of hp],?_]];let hl:=G.length;let J:p≠d:=jI hp (B _ _ j) (by intro z;cases z);refine bf (xs:=us) (λi σ H'=>iD d H2 H'/\H' p=some (.tup us)/\H' d=some (.dK<|dz<|yN (yN zs<|dk t)<|xN<|(AD t).take i)/\∃o,σ=[some v,some<|V.ref d,o]) ?_ (λi σ H' _ h=>dH.of h.2.1) (λi x σ H' hx h=>?_) λσ H' h=>?_
  ·exact#[iD.refl _ _,hp,B _ _ j,_,rfl]
  ·let⟨c,r,g,o',rfl⟩:=h;let⟨u,l,L⟩:=G.getV hx;let⟨Y,rfl,S,Z⟩:=part i u l;let l1:=uM (dk t) zs;let l2:=uM (xN<|(AD t).take i)<|yN zs<|dk t;let l3:=kI<|(AD t).take i;let l4:oM ((AD t).take (i+1))<=oM (AD t):=by
    have :=dE oM<|eU (i+1)<|AD t;rw[uC]at this;lia
   let l5:oM ((AD t).take (i+1))=oM ((AD t).take i)+wt u:=by
    let⟨T,U⟩:=aC.mp l;rw[aP T,U,uC];show _+(wt u+oM [])=_;rw[oM];lia
   dsimp![ft];calc#[u,gQ.tups (c.tups<|B _ _ j) L,S,(),_,g,(),λH4 O W=>#[c.trans O,O _ _ r J,?_,_,rfl]];rw[QK l,wT];exact W
  ·let⟨c,r,g,o',rfl⟩:=h;rw[aQ ()]at g;calc q _ ((es.trans<|iD.of B).trans c) ?_;rw[C,wT];exact g
theorem YA(bi:Bi mg)(h_c:fZ P w K mg base 22 "gather_names" ["t","found"] (ft 22))(F:gF K "names_of_all" "names_of_all" s_v f fd):dC P w K mg base fU 23 f fd ["terms"] qy:=by
 refine F.okz sc_v λeZ A outer s H vs Q E hr h=>?_
 let⟨a,us,ts,rfl,ha,r,hf,C,k,q⟩:=h;let hl:=r.length;let v:=UB ts;calc#[_,have nd:=sc_v.nd;zC (yW 1 nd TM)<|zC #[]<|zH<|zP<|yH WB rfl bi.sorted wA #[],?_];refine zD λN m=>?_
 dsimp![];refine λd lO=>m _ _ ?_
 let g:=zB lO<|.dK [];let h1:upd H d (.dK []) d=some (.dK<|dz []):=zA;generalize upd H d (.dK [])=H1 at g h1⊢;let n:a≠d:=yR ha lO;refine zM (λσ H'=>iD d H1 H'/\H' d=some (.dK<|dz<|yN []<|xN ts)/\∃o1 o2,σ=[o1,some<|V.ref d,o2]) (λN m=>?_) λσ H' h=>?_
 ·dsimp![];calc#[#[_,cX.of<|g _ _ ha],?_];refine YU (xs:=us) (λi σ H'=>iD d H1 H'/\H' d=some (.dK<|dz<|yN []<|xN<|ts.take i)/\∃o1 o2,σ=[o1,some<|V.ref d,o2]) ?_ (λi σ H' _ h=>cX.of<|h.1 _ _ (g _ _ ha) n) (λi x σ H' hx h=>?_) λσ H' h=>?_
  ·exact#[iD.refl _ _,h1,_,_,rfl]
  ·let⟨c,e,o1,o2,rfl⟩:=h;let⟨u,j,p⟩:=r.getV hx;let hm:=aR j;let D:=YF hm;let y:=uM (xN<|ts.take i) [];let G:=kI<|ts.take i;let I:oM (ts.take i)<=oM ts:=by
    have :=dE oM<|eU i ts;rw[uC]at this;lia
   dsimp![ft];calc#[u,gQ.tups (g.tups.trans<|c.tups h1) p,(hf u hm).1,(hf u hm).2,_,e,by simp at y;lia,λJ z B=>#[c.trans z,?_,_,rfl]];rw[QK j,wT];exact B
  ·let⟨c,e,o1,o2,rfl⟩:=h;rw[aQ ()]at e;exact m _ _ #[c,e,_,_,rfl]
 ·let⟨c,e,o1,o2,rfl⟩:=h;dsimp![];calc#[_,e,yN []<|xN ts,by unfold dz;rw[dX];rfl,k,λl zs' iT hp hs=>?_];let es:aW H H':=λb o hb=>c b o (g _ _ hb)<|yR hb lO
  exact q _ _ _ (es.trans<|zB iT _) zA hp hs
theorem CC(bi:Bi mg)(h_v:fZ P w K mg base 23 "names_of_all" ["terms"] qy)(F:gF K "names_of" "names_of" sy f fd):dC P w K mg base fU 24 f fd ["t"] spNO:=by
 refine F.okz ng λeZ A outer s H vs Q E hr h=>?_
 let⟨v,t,rfl,ht,hf,c,b,q⟩:=h;calc#[_,have nd:=ng.nd;#[],?_];dsimp![qy];refine#[small (),λp hp=>#[[v],zA,[t],eI.one<|gQ.tups (zB hp _).tups ht,λu d=>?_,?_,?_,λp2 zs' H' e h2 a hs=>?_]]
 ·rw[aS.mp d];exact#[hf,c]
 ·show wt t+0<=20000;lia
 ·rw[xN,xN,cK];exact b
 ·rw[xN,xN,cK]at a;exact q _ _ _ ((zB hp _).trans e) h2 a hs
abbrev s_a:Stmt:=qN (top 41) 4
theorem sc_a:bT ["self","sets","t","values"] ["self","sets","t"] (zF s_a):=by rfl'
abbrev t5:Stmt:=top 42
theorem nu:bT ["world","names","sets","name"] ["world","names"] (zF t5):=by rfl'
abbrev rp:Stmt:=top 43
theorem ml:bT ["world","t","sets"] ["world","t"] (zF rp):=by rfl'
noncomputable def cmn(m:Nat)(vs:List (List Nat)):List Nat:=(List.range m).filter λi=>vs.all λv=>decide<|i∈v
noncomputable def qU(m:Nat)(ps:List (Nat×Nat))(w:Str)(vs:List (List Nat)):List Nat:=
 if w="none" then []else if w="all" then List.range m else if w="not" then cnt m ps (vs.headD [])else if w="both" then cmn m vs else cnt m ps (cmn m<|vs.map<|cnt m ps)
mutual
noncomputable def val(m:Nat)(ps:List (Nat×Nat))(S:Str->List Nat):Tm->List Nat
 | .name x=>S x
 | .node w ts=>qU m ps w<|vals m ps S ts
noncomputable def vals(m:Nat)(ps:List (Nat×Nat))(S:Str->List Nat):List Tm->List (List Nat)
 |[]=>[]
 |t::ts=>val m ps S t::vals m ps S ts
end
theorem uR(m:Nat)(ps:List (Nat×Nat))(S:Str->List Nat):∀ts:List Tm,vals m ps S ts=ts.map (val m ps S)
 |[]=>rfl
 |t::ts=>by rw[vals,uR m ps S ts,cI]
theorem JG{m:Nat}{ps:List (Nat×Nat)}(h:i∈cnt m ps sp):i<m:=(tO.mp h).1
theorem bv{m:Nat}(h:i∈cmn m vs):i<m:=bL.mp (bM.mp h).1
theorem d8{m:Nat}{ps:List (Nat×Nat)}{w:Str}(h:i∈qU m ps w vs):i<m:=by
 unfold qU at h;split at h
 ·cases h
 split at h
 ·exact bL.mp h
 split at h
 ·exact JG h
 split at h
 ·exact bv h
 ·exact JG h
theorem EZ{m:Nat}{ps:List (Nat×Nat)}{S:Str->List Nat}(hS:∀x,∀i∈S x,i<m):∀(t:Tm){i:Nat},i∈val m ps S t->i<m
 | .name x,i,h=>by rw[val]at h;exact hS x i h
 | .node w ts,i,h=>by rw[val]at h;exact d8 h
theorem bu(m:Nat)(vs:List (List Nat)):(cmn m vs).Pairwise (· < ·):=fR _ dL
theorem AL{m:Nat}{ps:List (Nat×Nat)}{S:Str->List Nat}(hS:∀x,(S x).Pairwise (· < ·)):∀t:Tm,(val m ps S t).Pairwise (· < ·)
 | .name x=>by rw[val];exact hS x
 | .node w ts=>by
   rw[val];unfold qU;split
   ·exact .nil
   split
   ·exact dL
   split
   ·exact DR ..
   split
   ·exact bu ..
   ·exact DR ..
theorem km{x:Str}(h:zs.Nodup):(YE zs x).Nodup:=by
 unfold YE;split
 ·exact h
 ·rename_i hx
  rw[mS];calc#[h,by simp,λa ha b hb e=>?_];rw[aS.mp hb]at e;exact hx<|e▸ha
theorem QZ:∀(xs zs:List Str),zs.Nodup->(yN zs xs).Nodup
 |[],zs,h=>h
 |x::xs,zs,h=>QZ xs (YE zs x)<|km h
theorem wS:∀(xs zs:List Str){y:Str},y∈yN zs xs->y∈zs\/y∈xs
 |[],zs,y,h=>.inl h
 |x::xs,zs,y,h=>by
  rcases wS xs (YE zs x) h with h |h
  ·unfold YE at h;split at h
   ·exact .inl h
   ·rcases bE.mp h with h |h
    ·exact .inl h
    ·exact .inr (by rw[aS.mp h];calc bD)
  ·exact .inr<|bB _ h
theorem jZ{α:Type} [DecidableEq α]:∀{l m:List α},l.Nodup->(∀x∈l,x∈m)->l.length<=m.length
 |[],m,_,_=>bZ _
 |x::l,m,hn,hs=>by
  let hx:x∈m:=hs x bD;let a:=iR.mp hn;have :=jZ (l:=l) (m:=m.erase x) a.2 λy hy=>by
   let b:=hs y<|bB _ hy;let mO:y≠x:=λe=>a.1 (by rw[←e];calc hy)
   exact(List.mem_erase_of_ne mO).mpr b
  rw[List.length_erase_of_mem hx]at this;have :=rY hx;rw[bJ];lia
def rB(cs:List Nat)(vs:List (List Nat)):Prop:=cs.length=vs.length/\∀(i:Nat)(c:Nat)(v:List Nat),cs[i]?=some c->vs[i]?=some v->jF c v
theorem rB.snoc{cs:List Nat}{c:Nat}{v:List Nat}(h:rB cs vs)(hc:jF c v):rB (cs++[c]) (vs++[v]):=by
 calc#[by rw[aH,aH,h.1];rfl,λi a v' h1 h2=>?_];by_cases hi:i<cs.length
 ·rw[aZ hi]at h1;rw[aZ (by rw[←h.1];calc hi)]at h2;exact h.2 i a v' h1 h2
 ·have :i=cs.length:=by
   have :=(aC.mp h1).1;rw[aH,cA]at this;lia
  subst this;rw[bI<|aG _,fJ]at h1;rw[bI (by rw[h.1];calc aG _),h.1,fJ]at h2;simp at h1 h2;subst h1 h2;exact hc
theorem rB.cmn{m:Nat}{cs:List Nat}(h:rB cs vs){c:Nat}(hc:∀i,c.testBit i=(decide (i<m)&&cs.all λx=>x.testBit i)):jF c (C.cmn m vs):=λi=>by
 rw[hc,bY,bH,cD,bH,cW];unfold C.cmn;rw[bM,bL,cW];refine and_congr_right λ_=>#[λg v hv=>?_,λg x hx=>?_]
 ·let⟨j,b,e⟩:=dI hv;let a:j<cs.length:=by rw[h.1];exact b
  have :=g cs[j] (cO a);rw[h.2 j cs[j] v (aA a) (by rw[aA b,e]) i]at this;exact this
 ·let⟨j,b,e⟩:=dI hx;let a:j<vs.length:=by rw[←h.1];exact b
  rw[h.2 j x vs[j] (by rw[aA b,e]) (aA a) i];exact g vs[j] (cO a)
theorem KG{P:Program}{w:World}{K:W.Frag}{mg:Str->Option Value}{base:Heap}{C:Addr}{x:Str}{ps:List Str}{f:Addr}{fd:FuncData}{sp:Nat->Sp}(b:Binds K fd ps [])(m:OY K C x f)
 (h0:∀vs H Q E,¬sp 0 vs H Q E) (step:∀n,mK P w K mg base n C x ps (sp n)->dC P w K mg base fU (n+1) f fd ps (sp<|n+1)):∀n,dC P w K mg base fU n f fd ps<|sp n
 |0=>#[λvs H Q E h=>(h0 vs H Q E h).elim,λA outer s H args us vs Q E _ _ _ _ h=>(h0 vs H Q E h).elim]
 |n+1=>step n #[f,fd,KG b m h0 step n,b,m]
def fk(C:Addr):Nat->Sp
 |0=>λ_ _ _ _=>False
 |1=>λ_ _ _ _=>False
 |2=>λ_ _ _ _=>False
 |n+3=>λvs H Q _=>∃(r d:Addr)(v:V)(t:Tm)(m:Nat)(ps:List (Nat×Nat))(kvs:List (fC×V))(S:Str->List Nat),vs=[.ref r,.ref d,v]/\EM C H r m ps/\m<=90/\gQ H t v/\iJ n t/\wt t<=900/\H d=some (.dK kvs)/\(∀x∈nms t,∃c:Nat,yB kvs (.inr x)=some (nV c)/\jF c (S x))/\(∀x,∀i∈S x,i<m)/\∀(c:Nat) H',aW H H'->jF c (val m ps S t)->Q (.int c) H'
theorem n8{ps:List Str}{sp:Sp}(h:∀vs H Q E,¬sp vs H Q E):dC P w K mg base fU n f fd ps sp:=#[λvs H Q E g=>(h vs H Q E g).elim,λA outer s H args us vs Q E _ _ _ _ g=>(h vs H Q E g).elim]
structure oA(H:Hp)(la:Addr)(zs:List Str)(Ss:List (List Nat))(m:Nat):Prop where
 ex:∃(as ls:List Addr),H la=some (.lst<|as.map V.ref)/\as.length=zs.length/\ls.length=zs.length/\∀(i:Nat)(z:Str)(sp:List Nat),zs[i]?=some z->Ss[i]?=some sp->∃a l,as[i]?=some a/\ls[i]?=some l/\H a=some (.tup [.str z,.ref l])/\H l=some (.lst<|sp.map nV)
 len:Ss.length=zs.length
 low:∀sp∈Ss,(∀i∈sp,i<m)/\sp.Pairwise (· < ·)
theorem oA.same{la:Addr}{Ss:List (List Nat)}{m:Nat}(e:aW H H')(h:oA H la zs Ss m):oA H' la zs Ss m:=by
 let⟨⟨as,ls,h1,h2,b,c⟩,d,f⟩:=h;calc#[#[as,ls,e _ _ h1,h2,b,λi z sp hz hs=>?_],d,f];let⟨a,l,g,j,k,n⟩:=c i z sp hz hs;exact#[a,l,g,j,e _ _ k,e _ _ n]
theorem oA.mono{la:Addr}{Ss:List (List Nat)}{m:Nat}(h:oA H la zs Ss m)(hm:m<=n):oA H la zs Ss n:=#[h.ex,h.len,λsp a=>#[λi hi=>cF ((h.low sp a).1 i hi) hm,(h.low sp a).2]]
noncomputable def zc(zs:List Str)(cs:List Nat):List (fC×V):=(zs.zip cs).map λp=>(.inr p.1,nV p.2)
theorem EV:∀{zs:List Str}{cs:List Nat}{i:Nat}{x:Str}{c:Nat},zs.Nodup->zs[i]?=some x->cs[i]?=some c->yB (zc zs cs) (.inr x)=some (nV c)
 |z::zs,d::cs,0,x,c,_,h1,h2=>by
  simp only[List.getElem?_cons_zero,Option.some.injEq]at h1 h2;subst h1 h2;exact jU rfl
 |z::zs,d::cs,i+1,x,c,hn,h1,h2=>by
  simp only[List.getElem?_cons_succ]at h1 h2;let a:=iR.mp hn;let e:yB (zc (z::zs) (d::cs)) (.inr x)=yB (zc zs cs) (.inr x):=jV (λe=>a.1 (by rw[show z=x from PR e];calc aR h1));rw[e];exact EV a.2 h1 h2
 |[],_,i,x,c,_,h1,_=>by simp at h1
 |_,[],i,x,c,_,_,h2=>by simp at h2
inductive qr (K:W.Frag) (vs:List V) (H:Hp) (Q:VK) (E:XK):Prop
 |mk (wa:Addr) (v:V) (t:Tm) (m:Nat) (ca:Addr) (us:List V) (ps:List (Nat×Nat)) (la:Addr) (zs:List Str) (Ss:List (List Nat)) (S:Str->List Nat) (_:vs=[.ref wa,v]) (_:H wa=some (.tup [nV m,.ref ca,.ref la])) (_:H ca=some (.lst us)) (_:bN H (ps.map PL) us) (_:Ok2 m ps) (_:m<=90) (_:oA H la zs Ss m) (_:(zs.Nodup/\zs.length<=8)) (_:gQ H t v) (_:iJ 20 t) (_:wt t<=900) (_:(∀x∈nms t,x∈zs)) (_:(∀(i:Nat)(z:Str),zs[i]?=some z->Ss[i]?=some (S z))) (_:(∀z,(∀i∈S z,i<m)/\(S z).Pairwise (· < ·))) (_:∀(p:Addr)(H':Hp),aW H H'->H p=none->H' p=some (.lst<|(val m ps S t).map nV)->Q (.ref p) H')
inductive spSF (K:W.Frag) (vs:List V) (H:Hp) (Q:VK) (E:XK):Prop
 |mk (wa na:Addr) (ys:List Str) (m:Nat) (cps:V) (la:Addr) (zs:List Str) (Ss:List (List Nat)) (_:vs=[.ref wa,.ref na]) (_:H wa=some (.tup [nV m,cps,.ref la])) (_:oA H la zs Ss 90) (_:H na=some (.lst<|ys.map V.str)) (_:(∀y∈ys,y∈zs)) (_:(zs.Nodup/\zs.length<=8)) (_:∀p cs H',aW H H'->H' p=some (.dK<|zc zs cs)->rB cs Ss->Q (.ref p) H')
theorem BU{C:Addr}(T:FlC K C)(bi:Bi mg)(h_h:mK P w K mg base 1 C "common_of" ["self","sets"] (rf K C))(h_f:mK P w K mg base 2 C "counter_of" ["self","spots"] (spCn C))(F:gF K "value_of" "Floor.value_of" s_a f fd)(b:Binds K fd ["self","sets","t"] [])(mt:OY K C "value_of" f):∀n,dC P w K mg base fU n f fd ["self","sets","t"] (fk C n):=by
 refine KG b mt (λvs H Q E h=>h) (λn h_a=>?_)
 match n with
 |0=>exact n8 λvs H Q E h=>h
 |1=>exact n8 λvs H Q E h=>h
 |n+2=>
 refine F.okz sc_a λeZ A outer s H vs Q E hr h=>?_
 let⟨r,d,v,t,m,ps,kvs,S,rfl,B,y,ht,hf,hw,hd,hS,Z,q⟩:=h;let hfl':=B;let⟨dx,lx,cs,lL,iT,hmk⟩:=hfl';let iC:=T.cl;calc#[_,have nd:=sc_a.nd;zC #[]<|zC #[]<|zC (yK #[] (zH<|zP<|YN (xO hr) #[] #[] λ_ _=>rfl) zS)<|zC (qL (i:=3) ["part"] ["sets","self"] [1,0] nd rfl (wJ<|xL FL #[] (xV zJ) jP) (λ_ _ _ _ nd=>zZ 0 nd) (λ_ _ _ _=>zW) λ_ _ _ _=>(xM h_a iC hr.m #[] #[]))<|zC (yK #[] (zH<|zP<|xM h_f iC hr.m #[]<|zG (zL zQ #[] zJ) zI) zS)<|zC #[]<|zH<|zP<|xM h_f iC hr.m #[]<|zG (xM h_h iC hr.m #[]<|zG (zT ["spots"] ["self"] [0] #[] (λ_ _ _ _ nd=>zZ 0 nd) (λ_ _ _ _=>zW) λ_ _ _ _=>(xM h_f iC hr.m #[] #[])) zI) zI,?_];cases t with
 |name x=>
  let⟨a,rfl,ha⟩:=gQ.name ht;let⟨c,hc1,nQ⟩:=hS x (by rw[nms];calc aS.mpr rfl);dsimp![yJ,xS];calc#[_,dH.of ha,.str "name",lN,rfl,?_];rw[aI (by intro z;calc absurd (V.str.inj z) ())];calc#[_,dH.of ha,.str "name",lN,rfl,?_];rw[aI (by intro z;calc absurd (V.str.inj z) ())];calc#[_,dH.of ha,.str "name",lN,rfl,?_];rw[aL rfl];calc#[_,dH.of ha,.str x,pV,_,hc1▸oY.k (k:=.inr x) hd,?_];exact q c _ (aW.refl _) (by rw[val];calc nQ)
 |node u ts=>
  let⟨a,us,rfl,ha,hu⟩:=gQ.node ht;let hwd:=hf.wrd;let hsh:=hf.sh;let hl:=hu.length;let hll:=UB ts;rw[wt]at hw;let hwr:val m ps S (.node u ts)=qU m ps u (ts.map<|val m ps S):=by rw[val,uR]
  rw[hwr]at q;let hSm':∀t∈ts,∀x∈nms t,∃c:Nat,yB kvs (.inr x)=some (nV c)/\jF c (S x):=λt ht x hx=>hS x (by rw[nms];calc sO.mpr #[t,ht,hx])
  refine zD λN j=>?_
  dsimp![yJ,xS];calc#[_,dH.of ha,.str u,lN,rfl,?_];by_cases O:u="none"
  ·rw[aL (by rw[O])];let e:qU m ps u (ts.map<|val m ps S)=[]:=by unfold qU;rw[aL O]
   rw[e]at q;exact q 0 _ (aW.refl _) λi=>by simp
  rw[aI λz=>O<|V.str.inj z];calc j _ _ ?_;clear j;refine zD λN j=>?_
  dsimp![yJ,xS];calc#[_,dH.of ha,.str u,lN,rfl,?_];by_cases U:u="all"
  ·rw[aL (by rw[U])];let e:qU m ps u (ts.map<|val m ps S)=List.range m:=by unfold qU;rw[aI O,aL U]
   rw[e]at q;exact#[C,dx,_,lL,T.cl,T.nE,_,fl_e _ _,q (2^m-1) _ (aW.refl _) λi=>by rw[oZ];simp]
  rw[aI λz=>U<|V.str.inj z];calc j _ _ ?_;clear j;refine zD λN j=>?_
  dsimp![yJ,xS];calc#[_,dH.of ha,.str u,lN,rfl,?_];rw[aI λz=>hwd.ne<|V.str.inj z];calc j _ _ ?_;clear j;refine zD λN j=>?_
  dsimp![yJ,xS];calc#[_,dH.of ha,uT _ _,λp2 mE=>?_];rw[kO];let s2:=zB mE<|.tup us;let k2:upd H p2 (.tup us) p2=some (.tup us):=zA;generalize upd H p2 (.tup us)=H2 at s2 k2⊢;calc#[#[_,dH.of k2],?_];refine VH (xs:=us) (λi ys σ H'=>aW H2 H'/\(∃cs:List Nat,ys=cs.map nV/\cs.length=i/\rB cs ((ts.map<|val m ps S).take i))/\∃o,σ=[o,some<|V.ref d,some<|V.ref r]) #[aW.refl _,#[[],rfl,rfl,rfl,λi c v h=>by simp at h],_,rfl] (small ()) (λi ys σ H' e=>?_) (λi ys σ H' e=>dH.of<|e.1 _ _ k2) (λi x ys σ H' C' hx e hC=>?_) λys σ H' e p3 hp3=>j _ _ ?_
  ·let⟨_,⟨cs,rfl,h1,_⟩,_⟩:=e;rw[aD,h1];exact aG _
  ·let⟨es,⟨cs,rfl,hcl,g⟩,o,rfl⟩:=e;let⟨t,ht',hx'⟩:=hu.getV hx;cases n with
   |zero=>have :=hf.2;subst this;simp at ht'
   |succ n=>
    let hm:=aR ht';let hmt:=YF hm;let l:=s2.trans es;dsimp![yJ,xS,fk];calc#[_,_,l _ _ lL,ZU _ _ () (),t,m,ps,B.same l,y,gQ.tups l.tups hx',hf.part hm,(),kvs,l _ _ hd,S,hSm' t hm,Z,λc H3 e3 hc=>hC _ _ _ #[es.trans e3,#[cs++[c],by rw[aT];rfl,by rw[aH,hcl];rfl,?_],_,rfl]];let⟨nO,hi2⟩:=aC.mp (show(ts.map<|val m ps S)[i]?=some (val m ps S t) by rw[aJ,ht'];rfl);rw[aP nO,hi2];exact g.snoc hc
  clear j;let⟨es,⟨cs,rfl,hcl,g⟩,o,rfl⟩:=e;rw[show(ts.map<|val m ps S).take us.length=ts.map (val m ps S)from aQ (by rw[aD];lia)]at g;let l:=(s2.trans es).trans (zB hp3<|.lst<|cs.map nV);let k3:upd H' p3 (.lst<|cs.map nV) p3=some (.lst<|cs.map nV):=zA;generalize upd H' p3 (.lst<|cs.map nV)=H3 at l k3⊢;let R:=B.same l;let lT:∀(i:Nat)(v:List Nat),(ts.map<|val m ps S)[i]?=some v->∀x∈v,x<m:=λi v hv x hx=>by
   rw[aJ]at hv;let⟨t,ht,rfl⟩:=aM.mp hv;exact EZ Z t hx
  let hvl:(ts.map<|val m ps S).length=ts.length:=aD _;generalize hvs:ts.map (val m ps S)=vs at g q lT hvl;refine zD λN j=>?_
  dsimp![yJ,xS];calc#[_,dH.of<|l _ _ ha,.str u,lN,rfl,?_];by_cases W:u="not"
  ·rw[aL (by rw[W])];let h1:ts.length=1:=by
    rcases hsh with h |h |h |h |h
    ·exact absurd h.1 O
    ·exact absurd h.1 U
    ·exact h.2
    ·rw[W]at h;exact absurd h.1 ()
    ·rw[W]at h;exact absurd h.1 ()
   obtain⟨J,rfl⟩:∃J,vs=[J]:=by
    match vs,(show vs.length=1 by lia)with
    |[J],_=>exact#[J,rfl]
   obtain⟨D,rfl⟩:∃D,cs=[D]:=by
    match cs,(show cs.length=1 by rw[g.1];rfl)with
    |[D],_=>exact#[D,rfl]
   let e:qU m ps u [J]=cnt m ps J:=by unfold qU;rw[aI O,aI U,aL W];rfl
   rw[e]at q;let⟨xs,G,p⟩:=WD D J<|g.2 0 D J rfl rfl;calc#[_,_,l _ _ lL,ZU _ _ () (),_,cX.of k3,nV D,lN,?_];calc#[r,m,D,ps,xs,rfl,R,y,G,λx hx=>lT 0 J rfl x<|(p x).mp hx,λc H4 L hc=>q c _ (l.trans L) ?_];rw[ZM p]at hc;exact hc
  rw[aI λz=>W<|V.str.inj z];calc j _ _ ?_;clear j;refine zD λN j=>?_
  dsimp![yJ,xS];calc#[_,dH.of<|l _ _ ha,.str u,lN,rfl,?_];by_cases c4:u="both"
  ·rw[aL (by rw[c4])];let e:qU m ps u vs=cmn m vs:=by unfold qU;rw[aI O,aI U,aI W,aL c4]
   rw[e]at q;calc#[_,_,l _ _ lL,ZU _ _ () (),?_];exact#[r,p3,m,ps,cs,rfl,R,cX.of k3,(),λc hc=>q c _ l<|g.cmn hc]
  rw[aI λz=>c4<|V.str.inj z];calc j _ _ ?_;clear j;let e:qU m ps u vs=cnt m ps (cmn m<|vs.map<|cnt m ps):=by unfold qU;rw[aI O,aI U,aI W,aI c4]
  rw[e]at q;dsimp![yJ,xS];calc#[_,_,l _ _ lL,ZU _ _ () (),_,_,l _ _ lL,ZU _ _ () (),#[_,cX.of k3],?_];refine yT (xs:=cs.map nV) (λi ys σ H'=>aW H3 H'/\(∃ds:List Nat,ys=ds.map nV/\ds.length=i/\rB ds ((vs.map<|cnt m ps).take i))/\∃o,σ=[o,some<|V.ref r]) #[aW.refl _,#[[],rfl,rfl,rfl,λi c v h=>by simp at h],_,rfl] (small (by rw[aD];lia)) (λi ys σ H' e=>?_) (λi ys σ H' e=>cX.of<|e.1 _ _ k3) (λi x ys σ H' C' hx e hC=>?_) λys σ H' e p4 hp4=>?_
  ·let⟨_,⟨ds,rfl,h1,_⟩,_⟩:=e;rw[aD,h1];exact aG _
  ·let⟨M,⟨ds,rfl,X,I⟩,o,rfl⟩:=e;rw[aJ]at hx;let⟨D,hc0,rfl⟩:=aM.mp hx;let hiv:i<vs.length:=by rw[←g.1];exact(aC.mp hc0).1
   let Y:vs[i]?=some vs[i]:=aA hiv;let⟨xs,G,p⟩:=WD D vs[i] (g.2 i D _ hc0 Y);let L:=l.trans M;dsimp![yJ,xS];calc#[_,_,L _ _ lL,ZU _ _ () (),r,m,D,ps,xs,rfl,B.same L,y,G,λx hx=>lT i _ Y x<|(p x).mp hx,λc H4 s5 hc=>hC _ _ _ #[M.trans s5,#[ds++[c],by rw[aT];rfl,by rw[aH,X];rfl,?_],_,rfl]];rw[ZM p]at hc;let⟨nO,hi2⟩:=aC.mp (show(vs.map<|cnt m ps)[i]?=some (cnt m ps vs[i]) by rw[aJ,Y];rfl);rw[aP nO,hi2];exact I.snoc hc
  let⟨M,⟨ds,rfl,X,I⟩,o,rfl⟩:=e;rw[aD]at I X;rw[show(vs.map<|cnt m ps).take cs.length=vs.map (cnt m ps)from aQ (by rw[aD,g.1];calc aG _)]at I;let L:=(l.trans M).trans (zB hp4<|.lst<|ds.map nV);let k4:upd H' p4 (.lst<|ds.map nV) p4=some (.lst<|ds.map nV):=zA;generalize upd H' p4 (.lst<|ds.map nV)=H4 at L k4⊢;calc#[r,p4,m,ps,ds,rfl,B.same L,cX.of k4,(),λc hc=>?_];let hm1:=I.cmn hc;let⟨xs,G,p⟩:=WD c _ hm1;calc#[r,m,c,ps,xs,rfl,B.same L,y,G,λx hx=>bv<|(p x).mp hx,λc' H5 s5 hc'=>q c' _ (L.trans s5) ?_];rw[ZM p]at hc';exact hc'
theorem BY(bi:Bi mg)(h_ba:fZ P w K mg base 1 "mask_of" ["numbers"] (FJ K))(F:gF K "sets_for" "sets_for" t5 f fd):dC P w K mg base fU 2 f fd ["world","names"] (spSF K):=by
 refine F.okz nu λeZ A outer s H vs Q E hr h=>?_
 let⟨wa,na,ys,m,cps,la,zs,Ss,rfl,W,X,D,G,lO,q⟩:=h;calc#[_,have nd:=nu.nd;zC (yW 2 nd<|yY JJ rfl bi.dict YV<|zG (zT ["name","spots"] [] [] #[] (λ_ _ _ _ nd=>jQ (K:=K) (n:=2) rfl<|zV (zZ 0 nd)<|zV (zZ 1 nd) xW) (λ_ _ _ _=>zW) λ_ _ _ _=>(yI<|zG #[]<|zG (zU h_ba hr.m rfl #[]) zI)) zI)<|zC (yC bX rfl #[] #[]<|zH<|yK (ZA (QF (xO hr) #[] #[]) (by with_unfolding_all rfl)) (zH XJ) zS) #[],?_];refine zD λN T=>?_
 dsimp![];let Y:∀{a b c:V},pU [a,b,c] 2=some c:=zN (j:=2) rfl;let⟨⟨as,ls,h1,h2,h3,h4⟩,h5,h6⟩:=X;calc#[_,dH.of W,.ref la,Y,la,rfl,#[_,cX.of h1],?_];refine yT (xs:=as.map V.ref) (λi ys σ H'=>aW H H'/\(∃(bs:List Addr)(cs:List Nat),ys=bs.map V.ref/\bs.length=i/\rB cs (Ss.take i)/\∀(j:Nat)(z:Str)(c:Nat),(zs.take i)[j]?=some z->cs[j]?=some c->∃b,bs[j]?=some b/\H' b=some (.tup [.str z,nV c]))/\∃o1 o2,σ=[o1,o2]) #[aW.refl _,#[[],[],rfl,rfl,#[rfl,λi c v h=>by simp at h],λj z c h=>by simp at h],_,_,rfl] (small (by rw[aD];lia)) (λi ys σ H' e=>?_) (λi ys σ H' e=>cX.of<|e.1 _ _ h1) (λi x ys σ H' C' hx e hC=>?_) λys σ H' e I J=>?_
 ·let⟨_,⟨bs,cs,rfl,h1,_⟩,_⟩:=e;rw[aD,h1];exact aG _
 ·let⟨es,⟨bs,cs,rfl,t,d,r⟩,o1,o2,rfl⟩:=e;rw[aJ]at hx;let⟨a,ha,rfl⟩:=aM.mp hx;let hia:=(aC.mp ha).1;let L:i<zs.length:=by lia
  let C:i<Ss.length:=by lia
  let⟨a',l,g1,g2,g3,g4⟩:=h4 i zs[i] Ss[i] (aA L) (aA C);rw[ha]at g1;cases g1;let M:=h6 Ss[i] (cO C);dsimp![uP,jK,vK,FJ];refine#[_,dH.of<|es _ _ g3,rfl,_,_,rfl,_,_,rfl,rfl,l,rfl,Ss[i],cX.of<|es _ _ g4,λn hn=>by have :=M.1 n hn;lia,λc hc=>#[small (),λp hp=>hC _ _ _ #[es.trans<|zB hp _,#[bs++[p],cs++[c],by rw[aT];rfl,by rw[aH,t];rfl,?_,λj z c' hz g=>?_],_,_,rfl]]]
  ·rw[aP C];exact d.snoc hc
  ·let O:cs.length=i:=by rw[d.1,bF];lia
   let Z:=(aC.mp g).1;rw[aH,cA]at Z;by_cases hj:j<i
   ·rw[aZ ()]at g;rw[lS ()]at hz;let⟨b,R,S⟩:=r j z c' (by rw[lS hj];calc hz) g;exact#[b,by rw[aZ ()];exact R,zB hp _ _ _ S]
   ·let hji:j=i:=by lia
    subst hji;rw[lS (),aA L]at hz;rw[bI (),O,fJ]at g;simp at g;cases hz;subst g;exact#[p,by rw[bI (),t];simp,zA]
 let⟨es,⟨bs,cs,rfl,t,d,r⟩,o1,o2,rfl⟩:=e;rw[aD]at t d r;rw[aQ ()]at d r;let O:cs.length=zs.length:=by rw[d.1];lia
 let s3:=es.trans<|zB J<|.lst<|bs.map V.ref;let k3:upd H' I (.lst<|bs.map V.ref) I=some (.lst<|bs.map V.ref):=zA;let B:∀(j:Nat)(z:Str)(c:Nat),zs[j]?=some z->cs[j]?=some c->∃b,bs[j]?=some b/\upd H' I (.lst<|bs.map V.ref) b=some (.tup [.str z,nV c]):=λj z c hz hc=>by
  let⟨b,R,S⟩:=r j z c hz hc;exact#[b,R,zB J _ _ _ S]
 generalize upd H' I (.lst<|bs.map V.ref)=H3 at s3 k3 B⊢;let hkl:(zc zs cs).length=zs.length:=by
  unfold zc;rw[aD,List.length_zip];lia
 refine#[I,rfl,bs,cX.of k3,zc zs cs,(),?_,λi k u hi=>?_,λl hl=>T _ _ ?_]
 ·let e:(zc zs cs).map (·.1)=zs.map Sum.inr:=by
   unfold zc;rw[dX];have :((λx:fC×V=>x.1) ∘ λp:Str×Nat=>((.inr p.1:fC),nV p.2))=Sum.inr ∘ Prod.fst:=rfl;rw[this,←dX,List.map_fst_zip ()]
  rw[e];exact List.Pairwise.map _ (λa b h e=>h<|PR e) lO.1
 ·unfold zc at hi;rw[aJ]at hi;let⟨y,hy,ey⟩:=aM.mp hi;let⟨y1,y2⟩:=lI.mp hy;cases ey;let⟨b,R,S⟩:=B i y.1 y.2 y1 y2;exact#[b,R,dH.of S]
 clear T;let U:=s3.trans<|zB hl<|.dK<|zc zs cs;let k4:upd H3 l (.dK<|zc zs cs) l=some (.dK<|zc zs cs):=zA;generalize upd H3 l (.dK<|zc zs cs)=H4 at U k4⊢;refine zM (λσ H'=>H'=H4/\∃o,σ=[some<|V.ref wa,some<|V.ref na,some<|V.ref l,o]) (λN T=>?_) λσ H' h=>?_
 ·dsimp![];calc#[#[_,cX.of<|U _ _ D],?_];calc YU (xs:=ys.map V.str) (λi σ H'=>H'=H4/\∃o,σ=[some<|V.ref wa,some<|V.ref na,some<|V.ref l,o]) #[rfl,_,rfl] (λi σ H' _ h=>by rw[h.1];calc cX.of<|U _ _ D) (λi x σ H' hx h=>?_) λσ H' h=>T _ _ h;let⟨rfl,o,rfl⟩:=h;rw[aJ]at hx;let⟨y,hy,rfl⟩:=aM.mp hx;let⟨j,hj,e⟩:=dI<|G y<|aR hy;dsimp![UI];calc#[_,oY.k (k:=.inr y) k4,?_];let hv:=EV lO.1 (show zs[j]?=some y by rw[aA hj,e]) (aA<|show j<cs.length by lia);rw[hv,aI (by simp)];exact#[_,rfl]
 let⟨rfl,o,rfl⟩:=h;dsimp![];exact q _ _ _ U k4 d
theorem WI{C:Addr}(T:FlC K C)(bi:Bi mg)(h_ab:fZ P w K mg base 2 "sets_for" ["world","names"] (spSF K))(h_af:fZ P w K mg base 24 "names_of" ["t"] spNO)(h_E:fZ P w K mg base 1 "bits_of" ["mask"] sM)(h_u:cz P w K mg base 1 C "Floor" ["self","many","clashes"] (re C))(h_a:mK P w K mg base 23 C "value_of" ["self","sets","t"] (fk C 23))(F:gF K "value" "value" rp f fd):dC P w K mg base fU 25 f fd ["world","t"] (qr K):=by
 refine F.okz ml λeZ A outer s H vs Q E hr h=>?_
 let⟨wa,v,t,m,ca,us,ps,la,zs,Ss,S,rfl,n,U,W,B,d,D,lO,ht,hf,hw,g,X,r,q⟩:=h;let iC:=T.cl;calc#[_,have nd:=ml.nd;zC #[]<|zH<|zP<|zU h_E hr.m rfl<|zG (xM h_a iC hr.m (BK h_u hr.m rfl #[]) #[]) zI,?_];refine zD λN hN=>?_
 dsimp![];let hal:(yN []<|nms t).length<=zs.length:=jZ (QZ _ _ .nil) λy hy=>by
  rcases wS _ _ hy with h |h
  ·cases h
  ·exact g y h
 calc#[v,t,rfl,ht,hf,hw,(),λpn zs' H1 s1 k1 u _=>?_];refine#[wa,pn,zs',m,.ref ca,la,zs,Ss,rfl,s1 _ _ n,(D.same s1).mono d,k1,λy hy=>?_,lO,λpd cs H2 s2 k2 G=>hN _ _ ?_]
 ·rcases wS _ _ (u.mem_iff.mp hy)with h |h
  ·cases h
  ·exact g y h
 clear hN;replace s2:=s1.trans s2;dsimp![yJ,IT];let I:∀{a b c:V},pU [a,b,c] 1=some b:=zN (j:=1) rfl;calc#[_,dH.of<|s2 _ _ n,_,lN,_,dH.of<|s2 _ _ n,_,I,λx dx hx Y mO=>?_];let R:aW H2 (upd (upd H2 dx<|.own x) x<|.ins C dx []):=((aW.refl H2).upd Y).upd hx;let k3:upd (upd H2 dx<|.own x) x (.ins C dx []) x=some (.ins C dx []):=zA;generalize upd (upd H2 dx<|.own x) x (.ins C dx [])=H3 at R k3⊢;let k:=s2 _ _ U;let Z:ca≠x:=λz=>by rw[z,hx]at k;cases k
 calc#[x,dx,ca,m,us,ps,rfl,k3,Z,R _ _ k,bN.same (s2.trans R) W,B,d,λH4 s4 J=>?_];let L:aW H2 H4:=λb o hb=>s4 b o (R _ _ hb) (λz=>by rw[z,hx]at hb;cases hb)
 let M:=J;let⟨dx',l,cs',lL,_,_⟩:=M;let s5:=s2.trans L;calc#[rfl,_,_,lL,ZU _ _ () (),?_];refine#[x,pd,v,t,m,ps,zc zs cs,S,rfl,J,d,gQ.tups s5.tups ht,hf,hw,L _ _ k2,λy hy=>?_,λy i hi=>(r y).1 i hi,λc H6 s6 hc=>?_]
 ·let⟨j,hj,e⟩:=dI<|g y hy;let hz:zs[j]?=some y:=by rw[aA hj,e]
  let O:j<cs.length:=by rw[G.1,D.len];exact hj
  exact#[cs[j],EV lO.1 hz<|aA O,G.2 j _ _ (aA O)<|X j y hz]
 ·refine#[c,val m ps S t,rfl,#[AL (λy=>(r y).2) t,hc],λy hy=>by have :=EZ (λy i hi=>(r y).1 i hi) t hy;lia,λp H7 s7 hp k7=>q p H7 ((s5.trans s6).trans s7) ((s5.trans s6).free hp) k7]
abbrev s_U:Stmt:=top 52
theorem sc_U:bT ["many","pairs"] ["many","pairs"] (zF s_U):=by rfl'
abbrev s_H:Stmt:=top 53
theorem sc_H:bT ["spots","pairs","clashes","a","i"] ["spots","pairs"] (zF s_H):=by rfl'
abbrev s_A:Stmt:=top 54
theorem sc_A:bT ["spots","pairs","n"] ["spots","pairs","n"] (zF s_A):=by rfl'
theorem ZG{ns:List Str}{js:List Nat}{g:TG}{tc:TT}{te:TE}{σ:St}{Q:VK}(Pv:Nat->List V->St->Hp->Prop)(h0:Pv 0 [] (XY ns js σ) H)(hz:xs.length<=sizeLine)(hl:∀i ys σ H,Pv i ys σ H->ys.length<=i)
 (hK:∀i ys σ H,Pv i ys σ H->H a=some (.lst xs))
 (hs:∀(i:Nat) x ys σ H p (C:V->St->Hp->Prop) (D:St->Hp->Prop),xs[i]?=some x->Pv i ys σ H->H p=none->(∀y σ2 H3,Pv (i+1) (ys++[y]) σ2 H3->C y σ2 H3)->(∀σ2 H3,Pv (i+1) ys σ2 H3->D σ2 H3)->
  g (.ref p) σ (upd H p<|.tup [.int i,x]) λσ2 H2=>tc σ2 H2 λb H3=>if b=true then te σ2 H3 λy H4=>C y σ2 H4 else D σ2 H3)
 (hd:∀ys σ H,Pv xs.length ys σ H->∀p,H p=none->Q (.ref p) (upd H p<|.lst ys)):
 PN (Ite a) ns js g (some tc) te σ H Q:=by
 calc#[λi m ys σ H=>m=xs.length-i/\i<=xs.length/\Pv i ys σ H,#[xs.length,(),bZ _,h0],λi m ys σ1 H1 z=>?_];let⟨hm,hi,hp⟩:=z;let c:=hK i ys σ1 H1 hp;by_cases h:i<xs.length
 ·refine .inr #[#[xs,xs[i],c,aA h],?_,λx H' ⟨p,y,d,f,j,k⟩=>?_]
  ·have :=hl i ys σ1 H1 hp;lia
  ·subst d;subst j;exact hs i y ys σ1 H1 p _ _ (k xs c) hp f (λy σ2 H3 q=>#[xs.length-(i+1),(),rfl,(),q]) λσ2 H3 q=>#[xs.length-(i+1),(),rfl,(),q]
 ·let e:i=xs.length:=by lia
  subst e;exact .inl #[#[xs,c,aG _],hd ys σ1 H1 hp]
noncomputable def tL(ls:List Ln):List (List fC×V):=ls.map λl=>(yU l.i l.j,V.bl true)
noncomputable def rl(ls:List Ln)(i j:Nat):Bool:=zK ls i j
theorem YL(ls:List Ln)(i j:Int):(yB (tL ls)<|yU i j).isSome=zK ls i j:=by
 induction ls with
 |nil=>rfl
 |cons l ls b=>
  unfold zK;rw[nY];by_cases e:yU l.i l.j=yU i j
  ·let h:yB (tL (l::ls)) (yU i j)=some (V.bl true):=jU e;rw[h];let a:l.i=i/\l.j=j:=by
    unfold yU at e;simp only[List.cons.injEq,Sum.inl.injEq,and_true]at e;exact e
   simp[a.1,a.2]
  ·let h:yB (tL (l::ls)) (yU i j)=yB (tL ls) (yU i j):=jV e;rw[h,b];let a:(l.i==i&&l.j==j)=false:=by
    rw[dY];intro z;simp only[cD,cP]at z;exact e (by rw[z.1,z.2])
   rw[a,Bool.false_or];rfl
theorem dgB{d:Addr}{ls:List Ln}{i j:Int}(hd:H d=some (.dT<|tL ls))(es:aW H H')(hp:H' p=some (.tup [V.int i,V.int j])):oY H' d (.ref p) (yB (tL ls)<|yU i j):=oY.t (k:=yU i j) (es _ _ hd) hp
noncomputable def yE(m:Nat)(R:Nat->Nat->Bool):List Nat:=(List.range m).filter λn=>!R n (lY n)
noncomputable def xZ(sp:List Nat)(R:Nat->Nat->Bool)(n:Nat):List Nat:=(List.range sp.length).filter λa=>R (sp.getD a 0) n
noncomputable def wQ(sp:List Nat)(R:Nat->Nat->Bool):List (Nat×Nat):=(List.range sp.length).flatMap λa=>((List.range sp.length).filter λb=>decide (a<b)&&R (sp.getD a 0) (lY<|sp.getD b 0)).map λb=>(a,b)
inductive spSb (vs:List V) (H:Hp) (Q:VK) (E:XK):Prop
 |mk (m:Nat) (d:Addr) (ls:List Ln) (_:vs=[.int m,.ref d]) (_:m<=200) (_:H d=some (.dT<|tL ls)) (_:∀p H',aW H H'->H p=none->H' p=some (.lst<|(yE m<|rl ls).map nV)->Q (.ref p) H')
inductive spSu (vs:List V) (H:Hp) (Q:VK) (E:XK):Prop
 |mk (sa d:Addr) (sp:List Nat) (ls:List Ln) (n:Nat) (_:vs=[.ref sa,.ref d,.int n]) (_:H sa=some (.lst<|sp.map nV)) (_:sp.length<=200) (_:H d=some (.dT<|tL ls)) (_:∀p H',aW H H'->H p=none->H' p=some (.lst<|(xZ sp (rl ls) n).map nV)->Q (.ref p) H')
inductive spCb (vs:List V) (H:Hp) (Q:VK) (E:XK):Prop
 |mk (sa d:Addr) (sp:List Nat) (ls:List Ln) (_:vs=[.ref sa,.ref d]) (_:H sa=some (.lst<|sp.map nV)) (_:sp.length<=60) (_:(∀x∈sp,x<200)) (_:H d=some (.dT<|tL ls)) (_:∀p us H',aW H H'->H p=none->H' p=some (.lst us)->bN H' ((wQ sp<|rl ls).map PL) us->Q (.ref p) H')
theorem BW(bi:Bi mg)(F:gF K "spots_by" "spots_by" s_U f fd):dC P w K mg base fU 1 f fd ["many","pairs"] spSb:=by
 refine F.okz sc_U λeZ A outer s H vs Q E hr h=>?_
 let⟨m,d,ls,rfl,hm,hd,q⟩:=h;calc#[_,have nd:=sc_U.nd;zH<|zP<|zT ["n"] ["pairs"] [1] #[] (λ_ _ _ _ nd=>zZ 0 nd) (λ_ _ _ _=>jG<|ZA (QF (xO hr) #[] #[]) (by with_unfolding_all rfl)) λ_ _ _ _=>#[],?_];dsimp![];calc#[(),(),?_];refine HG (n:=(m:Int).toNat) (λi ys σ H'=>aW H H'/\ys=((List.range i).filter λn=>!rl ls n (lY n)).map nV/\∃o,σ=[o,some<|V.ref d]) #[aW.refl _,rfl,_,rfl] (small ()) (λi ys σ H' e=>?_) (λi ys σ H' C D hi e b g=>?_) λys σ H' e p hp=>?_
 ·let⟨_,rfl,_⟩:=e;rw[aD];exact bU (dM _ _) (by rw[dG];calc aG _)
 ·let⟨es,rfl,o,rfl⟩:=e;dsimp![UI];rw[show(0:Int)+(i:Int)=(i:Int) by lia,EW,jW];calc#[small (),λp hp=>#[_,dgB hd (es.trans<|zB hp _) zA,?_]];let a:=es.trans<|zB hp<|.tup [V.int (i:Int),V.int ((lY i:Nat):Int)];rw[show(yB (tL ls)<|yU (i:Int) ((lY i:Nat):Int)).isSome=rl ls i (lY i)from YL ls _ _];cases c:rl ls i (lY i)with
  |false=>
   rw[aL rfl];exact b _ _ _ #[a,by rw[fY,dF,aT];simp[c],_,rfl]
  |true=>
   rw[aI ()];exact g _ _ #[a,by rw[fY,dF,aT];simp[c],_,rfl]
 ·let⟨es,rfl,o,rfl⟩:=e;exact q p _ (es.trans<|zB hp _) (es.free hp) (by rw[zA];rfl)
theorem XO(bi:Bi mg)(be:mg "enumerate"=none)(F:gF K "spots_under" "spots_under" s_A f fd):dC P w K mg base fU 1 f fd ["spots","pairs","n"] spSu:=by
 refine F.okz sc_A λeZ A outer s H vs Q E hr h=>?_
 let⟨sa,d,sp,ls,n,rfl,hs,hl,hd,q⟩:=h;calc#[_,have nd:=sc_A.nd;zH<|zP<|zT ["a","i"] ["pairs","n"] [1,2] #[] (λ_ _ _ _ nd=>jQ (K:=K) (n:=2) rfl<|zV (zZ 0 nd)<|zV (zZ 1 nd) xW) (λ_ _ _ _=>jG<|ZA (XM (xO hr) #[] #[]) (by with_unfolding_all rfl)) λ_ _ _ _=>#[],?_];dsimp![vH];calc#[sp.map nV,hs,?_];refine ZG (xs:=sp.map nV) (λi ys σ H'=>aW H H'/\ys=((List.range i).filter λa=>rl ls (sp.getD a 0) n).map nV/\∃o1 o2,σ=[o1,o2,some<|V.ref d,some<|V.int n]) #[aW.refl _,rfl,_,_,rfl] (small (by rw[aD];lia)) (λi ys σ H' e=>?_) (λi ys σ H' e=>e.1 _ _ hs) (λi x ys σ H' p C D hx e hp k l=>?_) λys σ H' e p hp=>?_
 ·let⟨_,rfl,_⟩:=e;rw[aD];exact bU (dM _ _) (by rw[dG];calc aG _)
 ·let⟨es,rfl,o1,o2,rfl⟩:=e;rw[aJ]at hx;let⟨y,hy,rfl⟩:=aM.mp hx;let g:sp.getD i 0=y:=by rw[bW,hy];rfl
  let b:=es.trans<|zB hp<|.tup [V.int i,nV y];dsimp![uP,jK,vK,NC];calc#[_,dH.of zA,rfl,_,_,rfl,_,_,rfl,rfl,?_];generalize upd H' p (.tup [V.int i,nV y])=H1 at b⊢;calc#[small (),λp2 mE=>#[_,dgB hd (b.trans<|zB mE _) zA,?_]];let j:=b.trans<|zB mE<|.tup [V.int y,V.int n];rw[show(yB (tL ls)<|yU (y:Int) (n:Int)).isSome=rl ls y n from YL ls _ _];cases c:rl ls y n with
  |true=>
   rw[aL rfl];exact k _ _ _ #[j,by rw[fY,dF,aT,gK,g,c];rfl,_,_,rfl]
  |false=>
   rw[aI ()];exact l _ _ #[j,by rw[fY,dF,aT,gK,g,c];simp,_,_,rfl]
 ·let⟨es,rfl,_⟩:=e;exact q p _ (es.trans<|zB hp _) (es.free hp) (by rw[zA,aD];rfl)
theorem JR(bi:Bi mg)(be:mg "enumerate"=none)(F:gF K "clashes_by" "clashes_by" s_H f fd):dC P w K mg base fU 1 f fd ["spots","pairs"] spCb:=by
 refine F.okz sc_H λeZ A outer s H vs Q E hr h=>?_
 let⟨sa,d,sp,ls,rfl,hs,hl,lT,hd,q⟩:=h;calc#[_,have nd:=sc_H.nd;zC #[]<|zC (yC bX rfl #[] (FW rfl<|zV (kE (i:=3) nd rfl<|Or.inr rfl)<|zV (kE (i:=4) nd rfl<|Or.inr rfl) xW)<|zH<|xA<|uN cY hZ lR OC #[]<|zG (zT ["b","j"] ["a","pairs","i"] [3,1,4] #[] (λ_ _ _ _ nd=>jQ (K:=K) (n:=2) rfl<|zV (zZ 0 nd)<|zV (zZ 1 nd) xW) (λ_ _ _ _=>jG<|PW.pt<|XI #[]<|UV<|ZA (XM (xO hr) #[] #[]) (by with_unfolding_all rfl)) λ_ _ _ _=>#[]) zI) #[],?_];refine zD λN O=>?_
 dsimp![];calc#[small (),λp hp=>O _ _ ?_];clear O;let R:=zB hp<|.lst [];let W:upd H p (.lst []) p=some (.lst []):=zA;generalize upd H p (.lst [])=H0 at R W⊢;refine zM (λσ H'=>∃(us:List V)(r t:Option V),aW H H'/\H' p=some (.lst us)/\bN H' ((wQ sp<|rl ls).map PL) us/\σ=[some<|V.ref sa,some<|V.ref d,some<|V.ref p,r,t]) (λN O=>?_) λσ H' h=>?_
 ·dsimp![vH];calc#[sp.map nV,R _ _ hs,?_];refine YT (xs:=sp.map nV) (λi σ H'=>∃(us:List V)(r t:Option V),aW H H'/\H' p=some (.lst us)/\bN H' (((List.range i).flatMap λa=>((List.range sp.length).filter λb=>decide (a<b)&&rl ls (sp.getD a 0) (lY<|sp.getD b 0)).map λb=>(a,b)).map PL) us/\us.length<=60*i/\σ=[some<|V.ref sa,some<|V.ref d,some<|V.ref p,r,t]) #[[],_,_,R,W,rfl,aG _,rfl] (λi σ H' h=>by let⟨_,_,_,e,_⟩:=h;calc e _ _ hs) (λi x σ H' Z hx h S M hM=>?_) λσ H' h=>?_
  ·let⟨us,r,t,es,kp,g,nF,rfl⟩:=h;rw[aJ]at hx;let⟨y,hy,rfl⟩:=aM.mp hx;let ey:sp.getD i 0=y:=by rw[bW,hy];rfl
   let hi:=(aC.mp hy).1;let B:=zB S<|.tup [V.int i,nV y];dsimp![uP,jK,vK,vH,KJ];calc#[_,dH.of zA,rfl,_,_,rfl,_,_,rfl,rfl,.inl #[rfl,_,cX.of<|B _ _ kp],sp.map nV,(es.trans B) _ _ hs,?_];replace kp:=B _ _ kp;replace g:=bN.same B g;replace es:=es.trans B;generalize upd H' Z (.tup [V.int i,nV y])=H1 at kp g es⊢;refine ZG (xs:=sp.map nV) (λj ys σ H2=>aW H1 H2/\bN H2 ((((List.range j).filter λb=>decide (i<b)&&rl ls y (lY<|sp.getD b 0)).map λb=>(i,b)).map PL) ys/\ys.length<=j/\∃o1 o2,σ=[o1,o2,some<|V.int i,some<|V.ref d,some<|V.int y]) #[aW.refl _,rfl,aG _,_,_,rfl] (small (by rw[aD];lia)) (λj ys σ H2 e=>e.2.2.1) (λj ys σ H2 e=>(es.trans e.1) _ _ hs) (λj x ys σ H2 p2 C D hx e mE hC hD=>?_) λys σ H2 e p2 mE=>?_
   ·let⟨G,k,I,o1,o2,rfl⟩:=e;rw[aJ]at hx;let⟨u,hu,rfl⟩:=aM.mp hx;let X:sp.getD j 0=u:=by rw[bW,hu];rfl
    let l:=G.trans<|zB mE<|.tup [V.int j,nV u];replace k:=bN.same (zB mE<|.tup [V.int j,nV u]) k;dsimp![uP,jK,vK,NC];calc#[_,dH.of zA,rfl,_,_,rfl,_,_,rfl,rfl,?_];generalize upd H2 p2 (.tup [V.int j,nV u])=H3 at l k⊢;let no:(decide (i<j)&&rl ls y (lY<|sp.getD j 0))=false->∀T,aW H3 T->D [some<|V.int j,some<|V.int u,some<|V.int i,some<|V.ref d,some<|V.int y] T:=λc T v=>hD _ _ #[l.trans v,by rw[fY,dF,gK,c];simpa using bN.same v k,(),_,_,rfl]
    calc#[_,rfl,?_];by_cases Y:i<j
    ·rw[aL ()];calc#[_,rfl,?_];rw[EW,jW];calc#[small (),λp3 J=>#[_,dgB hd ((es.trans l).trans (zB J _)) zA,?_]];let v:=zB J<|.tup [V.int y,V.int ((lY u:Nat):Int)];rw[show(yB (tL ls)<|yU (y:Int) ((lY u:Nat):Int)).isSome=rl ls y (lY u)from YL ls _ _];cases c:rl ls y (lY u)with
     |true=>
      rw[aL rfl];calc#[small (),λp4 L=>hC _ _ _ #[(l.trans v).trans (zB L _),?_,by rw[aH];simp;lia,_,_,rfl]];rw[fY,dF,gK,X,c,dA Y,aT,aT];exact bN.append (bN.same (v.trans<|zB L _) k)<|bN.one #[p4,_,rfl,zA,_,_,rfl,rfl,_,_,rfl,rfl,rfl]
     |false=>
      rw[aI ()];exact no (by rw[X,c,pM]) _ v
    ·rw[aI ()];exact no (by rw[cJ Y,fS]) _<|aW.refl _
   ·let⟨G,k,I,o1,o2,rfl⟩:=e;rw[aD]at k I;let o:=G _ _ kp;let n2:p2≠p:=λz=>by rw[z,o]at mE;cases mE
    let l:=zB mE<|.lst ys;calc#[p2,rfl,us,l _ _ o,ys,zA,bU (m:=1000000) () (),?_];let U:=l _ _ o;let tsm:dB (upd H2 p2<|.lst ys) (upd (upd H2 p2<|.lst ys) p<|.lst<|us++ys):=(dB.refl _).upd_lst U;calc hM _ _ #[us++ys,_,_,((es.trans G).trans l).upd hp,zA,?_,by rw[aH];lia,rfl];rw[fY,iG,aT];calc bN.append (XN (G.tups.trans<|l.tups.trans tsm) g) ?_;rw[List.flatMap_cons,List.flatMap_nil,cK,ey];exact XN (l.tups.trans tsm) k
  ·let⟨us,r,t,es,kp,g,_,rfl⟩:=h;rw[aD]at g;exact O _ _ #[us,_,_,es,kp,g,rfl]
 let⟨us,r,t,es,kp,g,rfl⟩:=h;dsimp![];exact q p us _ es hp kp g
abbrev s_Y:Stmt:=top 55
theorem sc_Y:bT ["sheet","lines","pairs","spots","names"] ["sheet","lines"] (zF s_Y):=by rfl'
theorem BJ{α β:Type}{f:α->β}{l' l:List β}(h:l'.Perm l):∀T:List α,l=T.map f->∃T':List α,T'.Perm T/\l'=T'.map f:=by
 induction h with
 |nil=>intro T e;exact#[T,tJ _,e]
 |cons x _ j=>
  intro T e;cases T with
  |nil=>cases e
  |cons t b=>
   rw[cI]at e;let⟨c,a⟩:=AI e;let⟨T',p,d⟩:=j b a;exact#[t::T',p.cons _,by rw[cI,c,d]]
 |swap x y l=>
  intro T e;cases T with
  |nil=>cases e
  |cons t1 T=>
   cases T with
   |nil=>cases (AI e).2
   |cons t2 b=>
    rw[cI,cI]at e;let⟨c,a⟩:=AI e;let⟨a,d⟩:=AI a;exact#[t2::t1::b,List.Perm.swap ..,by rw[cI,cI,c,a,d]]
 |trans _ _ g i=>
  intro T e;let⟨b,k,c⟩:=i T e;let⟨m,p2,a⟩:=g b c;exact#[m,p2.trans k,a]
noncomputable def WV(aE:List Rw)(k:Nat):Option Str:=match aE[k]? with |some (.nm x)=>some x |_=>none
noncomputable def LB(aE:List Rw):List (Str×Nat):=(List.range aE.length).filterMap λk=>(WV aE k).map λx=>(x,k)
abbrev Ro:=Addr×Str×Addr×List Nat
def cp(H:Hp)(m:Nat)(T:List Ro):Prop:=∀e∈T,H e.1=some (.tup [.str e.2.1,.ref e.2.2.1])/\H e.2.2.1=some (.lst<|e.2.2.2.map nV)/\(∀i∈e.2.2.2,i<m)/\e.2.2.2.Pairwise (· < ·)
theorem cp.same{m:Nat}{T:List Ro}(e:aW H H')(h:cp H m T):cp H' m T:=λr hr=>let ⟨h1,h2,a⟩:=h r hr;#[e _ _ h1,e _ _ h2,a]
structure WoAt(H0 H:Hp)(wa:Addr)(sp:List Nat)(aE:List Rw)(ls:List Ln)(T:List Ro)(ca la:Addr)(us:List V):Prop where
 tup:H wa=some (.tup [nV sp.length,.ref ca,.ref la])
 cl:H ca=some (.lst us)
 dat:bN H ((wQ sp<|rl ls).map PL) us
 lst:H la=some (.lst ((T.map (·.1)).map V.ref))
 tr:cp H sp.length T
 is:∀e∈T,∃k,(e.2.1,k)∈LB aE/\e.2.2.2=xZ sp (rl ls) (2*k)
 perm:(T.map (·.2.1)).Perm ((LB aE).map (·.1))
inductive RQ (K:W.Frag) (vs:List V) (H:Hp) (Q:VK) (E:XK):Prop
 |mk (sa la:Addr) (us ws:List V) (aE:List Rw) (ls:List Ln) (_:vs=[.ref sa,.ref la]) (_:H sa=some (.lst us)) (_:gU K H aE us) (_:aE.length<=30) (_:(LB aE).length<=8) (_:((LB aE).map (·.1)).Nodup) (_:H la=some (.lst ws)) (_:uB H ls ws) (_:ls.length<=10000) (_:(ls.map λl=>yU l.i l.j).Nodup) (_:(zK ls 1 0=true->∀H',aW H H'->Q .non H')) (_:(zK ls 1 0=false->∀wa T ca ra vs H',aW H H'->WoAt H H' wa (yE (2*aE.length)<|rl ls) aE ls T ca ra vs->Q (.ref wa) H'))
theorem BS(bi:Bi mg)(be:mg "enumerate"=none)(h_U:fZ P w K mg base 1 "spots_by" ["many","pairs"] spSb)(h_A:fZ P w K mg base 1 "spots_under" ["spots","pairs","n"] spSu)(h_H:fZ P w K mg base 1 "clashes_by" ["spots","pairs"] spCb)(F:gF K "world_of" "world_of" s_Y f fd):dC P w K mg base fU 2 f fd ["sheet","lines"] (RQ K):=by
 refine F.okz sc_Y λeZ A outer s H vs Q E hr h=>?_
 let⟨sa,la,us,ws,aE,ls,rfl,J,U,hrl,hn3,hnn,W,X,hll,hkn,qn,qw⟩:=h;calc#[_,have nd:=sc_Y.nd;zC (uY (i:=2) nd rfl (Or.inr rfl)<|yY (DV<|az hr) rfl bi.dict YV<|zG (zT ["line"] [] [] #[] (λ_ _ _ _ nd=>zZ 0 nd) (λ_ _ _ _=>zW) λ_ _ _ _=>(yI<|zG (yI<|zG (zL (yQ K) #[] zJ)<|zG (zL (yQ K) #[] zJ) zI) #[])) zI)<|zC (yK (ZA (XM (xO hr) #[] #[]) (by with_unfolding_all rfl)) #[] zS)<|zC (uY (i:=3) nd rfl (Or.inr rfl) #[])<|zC (qL (i:=4) ["k","row"] ["spots","pairs"] [3,2] nd rfl #[] (λ_ _ _ _ nd=>jQ (K:=K) (n:=2) rfl<|zV (zZ 0 nd)<|zV (zZ 1 nd) xW) (λ_ _ _ _=>jG<|yG ZP (zL (yQ K) #[] zJ) xX<|yL _) λ_ _ _ _=>(yI<|zG (zL (yQ K) #[] zJ)<|zG (zU h_A hr.m rfl #[]) zI))<|zH<|zP<|yI<|zG #[]<|zG #[]<|zG (yH WA rfl bi.sorted wA #[]) zI,?_];refine zD λN u=>?_
 dsimp![];let hwl:ws.length=ls.length:=by have :=bN.length X;rwa[aD]at this
 calc#[#[_,cX.of W],?_];refine yT (xs:=ws) (λi ys σ H'=>aW H H'/\(∃as bs:List Addr,ys=as.map V.ref/\as.length=i/\bs.length=i/\∀(j:Nat)(a b:Addr)(l:Ln),as[j]?=some a->bs[j]?=some b->ls[j]?=some l->H' a=some (.tup [.ref b,.bl true])/\H' b=some (.tup<|(yU l.i l.j).map kV))/\∃o,σ=[o]) #[aW.refl _,#[[],[],rfl,rfl,rfl,λj a b l h=>by simp at h],_,rfl] (bU (m:=1000000) () ()) (λi ys σ H' e=>?_) (λi ys σ H' e=>cX.of<|e.1 _ _ W) (λi x ys σ H' C hx e hC=>?_) λys σ H' e p hp=>?_
 ·let⟨_,⟨as,bs,rfl,h1,_⟩,_⟩:=e;rw[aD,h1];exact aG _
 ·let⟨es,⟨as,bs,rfl,h1,h2,B⟩,o,rfl⟩:=e;let⟨l,hl,hx'⟩:=xG X hx;let⟨a0,b0,us0,rfl,R,_⟩:=LnAt.out hx';replace R:=es _ _ R;dsimp![];calc#[_,dH.of R,_,lN,_,dH.of R,_,zN (j:=1) rfl,small (),λb' hb'=>#[small (),λa' ha'=>hC _ _ _ ?_]];let g:=zB hb'<|.tup [V.int l.i,V.int l.j];let e2:=zB ha'<|.tup [V.ref b',V.bl true];calc#[es.trans<|g.trans e2,#[as++[a'],bs++[b'],by rw[aT];rfl,by rw[aH,h1];rfl,by rw[aH,h2];rfl,λj a b l' ha hb iT=>?_],_,rfl];by_cases hj:j<i
  ·rw[aZ ()]at ha hb;let⟨k1,k2⟩:=B j a b l' ha hb iT;exact#[(g.trans e2) _ _ k1,(g.trans e2) _ _ k2]
  ·let ej:j=i:=by
    have :=(aC.mp ha).1;rw[aH]at this;simp at this;lia
   rw[ej,←h1,bI<|aG _]at ha;rw[ej,←h2,bI<|aG _]at hb;simp at ha hb;subst ha hb;rw[ej,hl]at iT;cases iT;exact#[zA,e2 _ _ zA]
 let⟨es,⟨as,bs,rfl,h1,h2,B⟩,o,rfl⟩:=e;let g:=zB hp<|.lst<|as.map V.ref;refine#[p,rfl,as,cX.of zA,tL ls,by unfold tL;rw[aD];lia,by unfold tL;rw[dX];exact hkn,λi k v hi=>?_,λd hd=>u _ _ ?_]
 ·unfold tL at hi;rw[aJ]at hi;let⟨l,hl,el⟩:=aM.mp hi;cases el;let nO:=(aC.mp hl).1;let⟨k1,k2⟩:=B i as[i] bs[i] l (aA ()) (aA ()) hl;exact#[_,aA (),_,dH.of<|g _ _ k1,g _ _ k2]
 clear u B;let s1:=(es.trans g).trans (zB hd<|.dT<|tL ls);let kd:upd (upd H' p<|.lst<|as.map V.ref) d (.dT<|tL ls) d=some (.dT<|tL ls):=zA;generalize upd (upd H' p<|.lst<|as.map V.ref) d (.dT<|tL ls)=H1 at s1 kd⊢;clear es g hp hd h1 h2;refine zD λN u=>?_
 dsimp![NC];calc#[small (),λp hp=>#[_,dgB kd (zB hp _) zA,?_]];replace s1:=s1.trans<|zB hp<|.tup [V.int 1,V.int 0];replace kd:=zB hp (.tup [V.int 1,V.int 0]) _ _ kd;rw[YL];generalize upd H1 p (.tup [V.int 1,V.int 0])=H2 at s1 kd⊢;cases c:zK ls 1 0 with
 |true=>
  rw[aL rfl];exact qn c _ s1
 |false=>
 rw[aI ()];calc u _ _ ?_;clear u qn hp;let qw:=qw c;refine zD λN u=>?_
 dsimp![];let nF:=U.len;calc#[us.length,.inl #[_,cX.of<|s1 _ _ J,rfl],.inl #[(),()],2*aE.length,d,ls,by rw[nF];rfl,(),kd,λps H3 s3 fps G=>u _ _ ?_];clear u;replace s1:=s1.trans s3;replace kd:=s3 _ _ kd;clear fps;refine zD λN u=>?_
 dsimp![vH];let I:(yE (2*aE.length)<|rl ls).length<=60:=bU (dM _ _) (by rw[dG];lia);let Y:∀x∈yE (2*aE.length) (rl ls),x<200:=λx hx=>by have :=bL.mp (bM.mp hx).1;lia
 let Z:∀n,(∀i∈xZ (yE (2*aE.length)<|rl ls) (rl ls) n,i<(yE (2*aE.length)<|rl ls).length)/\(xZ (yE (2*aE.length)<|rl ls) (rl ls) n).Pairwise (· < ·):=λn=>#[λi hi=>bL.mp (bM.mp hi).1,fR _ dL]
 let e0:∀{q:Nat->Option (Str×Nat)}{i:Nat},(List.range<|i+1).filterMap q=(List.range i).filterMap q++(q i).toList:=λ{q i}=>by
  rw[fY,sT];cases h:q i<;>simp[h]
 generalize yE (2*aE.length) (rl ls)=sp at G qw I Y Z;calc#[us,s1 _ _ J,?_];refine ZG (xs:=us) (λi ys σ H'=>aW H3 H'/\(∃T:List Ro,ys=(T.map (·.1)).map V.ref/\T.length<=i/\cp H' sp.length T/\(T.map λe=>(e.2.1,e.2.2.2))=((List.range i).filterMap λk=>(WV aE k).map λx=>(x,k)).map (λq=>(q.1,xZ sp (rl ls)<|2*q.2))/\(∀e∈T,H3 e.2.2.1=none)/\(T.map (·.2.2.1)).Nodup)/\∃o1 o2,σ=[o1,o2,some<|V.ref ps,some<|V.ref d]) #[aW.refl _,#[[],rfl,aG _,(λe he=>by cases he),rfl,(λe he=>by cases he),.nil],_,_,rfl] (small ()) (λi ys σ H' e=>?_) (λi ys σ H' e=>(s1.trans e.1) _ _ J) (λi x ys σ H' p C D hx e hp hC hD=>?_) λys σ H' e p hp=>u _ _ ?_
 ·let⟨_,⟨T,rfl,h1,_⟩,_⟩:=e;rw[aD,aD];exact h1
 ·let⟨es,⟨T,rfl,h1,h2,B,h4,h5⟩,o1,o2,rfl⟩:=e;let⟨r,L,nG⟩:=U.get hx;let⟨ra,x,us',rfl,R,g2⟩:=ID.out nG;let g:=zB hp<|.tup [V.int i,V.ref ra];let M:=R.same<|s1.trans<|es.trans g;replace h2:=h2.same g;replace es:=es.trans g;dsimp![uP,jK,vK];calc#[_,dH.of zA,rfl,_,_,rfl,_,_,rfl,rfl,?_];generalize upd H' p (.tup [V.int i,V.ref ra])=H4 at es M h2⊢;let no:WV aE i=none->D [some<|V.int i,some<|V.ref ra,some<|V.ref ps,some<|V.ref d] H4:=λhn=>hD _ _ #[es,#[T,rfl,(),h2,by rw[e0,hn];simpa using B,h4,h5],_,_,rfl]
  calc#[_,rfl,_,M.sq,_,lN,rfl,?_];cases r with
  |no=>
   let⟨rfl,rfl⟩:=g2;rw[aI ()];exact no (by unfold WV;rw[L])
  |bo i' j'=>
   let⟨rfl,rfl⟩:=g2;rw[aI ()];exact no (by unfold WV;rw[L])
  |nm y=>
  let⟨rfl,rfl⟩:=g2;rw[aL rfl];let hn:WV aE i=some y:=by unfold WV;rw[L]
  calc#[ra,rfl,_,M.sq,_,pV,_,rfl,.inl #[(),()],ps,d,sp,ls,2*i,by rw[show(2:Int)*(i:Int)=((2*i:Nat):Int) by lia],es _ _ G,(),es _ _ kd,λpl H5 S fpl kpl=>#[small (),λp4 hp4=>hC _ _ _ ?_]];let e5:=zB hp4<|.tup [V.str y,V.ref pl];refine#[es.trans<|S.trans e5,#[T++[(p4,y,pl,xZ sp (rl ls)<|2*i)],by rw[aT,aT];rfl,by rw[aH];simp;lia,λe he=>?_,?_,λe he=>?_,?_],_,_,rfl]
  ·rcases bE.mp he with he |he
   ·exact(h2.same<|S.trans e5) e he
   ·rw[aS.mp he];exact#[zA,e5 _ _ kpl,Z _]
  ·rw[e0,hn,aT,aT,B];rfl
  ·rcases bE.mp he with he |he
   ·exact h4 e he
   ·rw[aS.mp he];exact es.free fpl
  ·rw[aT,mS];calc#[h5,by simp,λa ha b hb e=>?_];rw[cI,pA,aS]at hb;let⟨t,ht,rfl⟩:=bV.mp ha;have :=(h2 t ht).2.1;rw[e,hb,fpl]at this;cases this
 clear u;let⟨es,⟨T,rfl,h1,h2,B,h4,h5⟩,o1,o2,rfl⟩:=e;let g:=zB hp (.lst ((T.map (·.1)).map V.ref));let k4:upd H' p (.lst ((T.map (·.1)).map V.ref)) p=some (.lst ((T.map (·.1)).map V.ref)):=zA;replace h2:=h2.same g;replace es:=es.trans g;generalize upd H' p (.lst ((T.map (·.1)).map V.ref))=H4 at es k4 h2⊢;rw[nF]at B;let O:T.map (·.2.1)=(LB aE).map (·.1):=by
  have :=dE (List.map Prod.fst) B;rwa[dX,dX]at this
 dsimp![];calc#[sp.length,.inl #[_,cX.of<|es _ _ G,(aD _).symm],ps,d,sp,ls,rfl,es _ _ G,I,Y,es _ _ kd,λca vs H5 S fca kca hdc=>?_];let h2':=h2.same S;refine#[T.map (·.1),S _ _ k4,T.map (·.2.1),by rw[aD,aD],by rw[O,aD];lia,by rw[O];exact hnn,λi a z ha hz=>?_,λl iQ hl hpa=>#[small (),λwa hwa=>?_]]
 ·rw[aJ]at ha hz;let⟨t,ht,rfl⟩:=aM.mp ha;rw[ht]at hz;cases hz;exact#[_,(h2' t<|aR ht).1]
 let⟨T',hT,rfl⟩:=BJ hpa T rfl;let el:=zB hl (.lst ((T'.map (·.1)).map V.ref));let ew:=zB hwa<|.tup [V.int sp.length,V.ref ca,V.ref l];let elw:=el.trans ew;let nT:aW H4 (upd (upd H5 l (.lst ((T'.map (·.1)).map V.ref))) wa<|.tup [V.int sp.length,V.ref ca,V.ref l]):=S.trans elw;refine qw wa T' ca l vs _ ((s1.trans es).trans nT) #[zA,elw _ _ kca,bN.same elw hdc,ew _ _ zA,λe he=>(h2.same nT) e<|hT.mem_iff.mp he,λe he=>?_,?_]
 ·have :(e.2.1,e.2.2.2)∈T.map λe=>(e.2.1,e.2.2.2):=bV.mpr #[e,hT.mem_iff.mp he,rfl]
  rw[B]at this;let⟨q,hq,eq⟩:=bV.mp this;injection eq with q1 q2
  exact#[q.2,by rw[←q1];exact hq,q2.symm]
 ·rw[←O];exact hT.map _
theorem EI{α:Type}{xs:List α}{n:Int}{x:α}(h0:0<=n)(h:xs[n.toNat]?=some x):pU xs n=some x:=by
 obtain⟨m,rfl⟩:∃m:Nat,n=(m:Int):=#[n.toNat,()]
 exact zN (by simpa using h)
def GW(x:Str)(as:List Wt):Prop:=(x≠"rule"/\∃ns:List Int,as=ns.map .n/\ns.length<=2)\/(x="rule"/\∃r ps,as=[.n r,.ps ps]/\ps.length<=100)
theorem u7{H:Hp}:∀{ns:List Int}{us:List V},UA H (ns.map .n) us->us=ns.map V.int
 |[],us,h=>h
 |n::ns,us,h=>by
  let⟨v,r,b,a,c⟩:=h;let a:v=.int n:=a;rw[b,a,u7 c];rfl
theorem atNs(H:Hp):∀ns:List Int,UA H (ns.map .n)<|ns.map V.int
 |[]=>rfl
 |n::ns=>#[_,_,rfl,rfl,atNs H ns]
theorem gwN(x:Str)(h:x≠"rule")(ns:List Int)(hn:ns.length<=2):GW x (ns.map .n):=.inl #[h,ns,rfl,hn]
noncomputable def plc(x:Str)(as:List Wt):List Int:=if x="rule" then(match as with |[_,.ps ps]=>ps |_=>[])else as.filterMap λa=>match a with | .n i=>some i | .ps _=>none
def GL(n:Nat)(x:Str)(as:List Wt):Prop:=GW x as/\∀p∈plc x as,0<=p/\p<(n:Int)
theorem gq{x:Str}(h:x≠"rule")(ns:List Int):plc x (ns.map .n)=ns:=by
 unfold plc;rw[aI h,mC]
 induction ns with
 |nil=>rfl
 |cons n ns a=>simp[a]
theorem gp(r:Wt)(ps:List Int):plc "rule" [r,.ps ps]=ps:=by
 unfold plc;rw[aL rfl]
theorem glN(n:Nat)(x:Str)(h:x≠"rule")(ns:List Int)(hn:ns.length<=2)(hp:∀p∈ns,0<=p/\p<(n:Int)):GL n x (ns.map .n):=#[gwN x h ns hn,by rw[gq h];calc hp]
theorem glR(n:Nat)(r:Int)(ps:List Int)(hl:ps.length<=100)(hp:∀p∈ps,0<=p/\p<(n:Int)):GL n "rule" [.n r,.ps ps]:=#[.inr #[rfl,r,ps,rfl,hl],by rw[gp];calc hp]
abbrev s_z:Stmt:=top 45
theorem sc_z:bT ["why"] ["why"] (zF s_z):=by rfl'
abbrev sn:Stmt:=top 46
theorem m7:bT ["why","places"] ["why","places"] (zF sn):=by rfl'
abbrev s_V:Stmt:=top 47
theorem sc_V:bT ["lines","i","j","k","line"] ["lines","i","j"] (zF s_V):=by rfl'
abbrev sj:Stmt:=top 48
theorem my:bT ["lines","k","needed","n","p"] ["lines","k"] (zF sj):=by rfl'
abbrev r9:Stmt:=top 49
theorem mq:bT ["lines","i","j","k","kept","places"] ["lines","i","j"] (zF r9):=by rfl'
noncomputable def xY(ks ps:List Int):List Int:=ps.foldl (λks p=>if p∈ks then ks else ks++[p]) ks
theorem ZX(ks:List Int)(p:Int)(ps:List Int):xY ks (p::ps)=xY (if p∈ks then ks else ks++[p]) ps:=rfl
theorem EL(ks ps:List Int)(p:Int):xY ks (ps++[p])=if p∈xY ks ps then xY ks ps else xY ks ps++[p]:=by
 unfold xY;rw[List.foldl_append];rfl
theorem jE(z:Int):∀(ps ks:List Int),z∈xY ks ps↔z∈ks\/z∈ps
 |[],ks=>by simp[xY]
 |p::ps,ks=>by
  rw[ZX,jE z ps];by_cases h:p∈ks
  ·rw[aL h,bG];constructor
   ·rintro(h1 |h1)
    ·exact .inl h1
    ·exact .inr<|.inr h1
   ·rintro(h1 |rfl |h1)
    ·exact .inl h1
    ·exact .inl h
    ·exact .inr h1
  ·rw[aI h,bE,aS,bG];constructor
   ·rintro((h1 |h1) |h1)
    ·exact .inl h1
    ·exact .inr<|.inl h1
    ·exact .inr<|.inr h1
   ·rintro(h1 |h1 |h1)
    ·exact .inl<|.inl h1
    ·exact .inl<|.inr h1
    ·exact .inr h1
theorem GR{p:Int}(h:ks.Nodup)(hp:p∉ks):(ks++[p]).Nodup:=
 mS.mpr #[h,by simp,λa ha b hb e=>hp (by rw[aS.mp hb]at e;rw[←e];calc ha)]
theorem jR:∀(ps ks:List Int),ks.Nodup->(xY ks ps).Nodup
 |[],ks,h=>h
 |p::ps,ks,h=>by
  rw[ZX];by_cases hp:p∈ks
  ·rw[aL hp];exact jR ps ks h
  ·rw[aI hp];exact jR ps _<|GR h hp
noncomputable def back(nm:Int->List Int)(k:Nat):Nat->List Int
 |0=>[(k:Int)]
 |i+1=>if((k:Int)-i)∈back nm k i then xY (back nm k i) (nm<|(k:Int)-i)else back nm k i
theorem uA{k:Nat}(h:((k:Int)-i)∈back nm k i):back nm k (i+1)=xY (back nm k i) (nm<|(k:Int)-i):=by
 show(if _ then _ else _)=_;rw[aL h]
theorem vO{k:Nat}(h:((k:Int)-i)∉back nm k i):back nm k (i+1)=back nm k i:=by
 show(if _ then _ else _)=_;rw[aI h]
theorem qG(nm:Int->List Int)(k:Nat):∀i,(back nm k i).Nodup
 |0=>by simp[back]
 |i+1=>by
  by_cases h:((k:Int)-i)∈back nm k i
  ·rw[uA h];exact jR _ _<|qG nm k i
  ·rw[vO h];exact qG nm k i
theorem kU{nm:Int->List Int}{k:Nat}(hn:∀n:Int,0<=n->n<=k->∀p∈nm n,0<=p/\p<n):∀i,i<=k+1->∀p∈back nm k i,0<=p/\p<=(k:Int)
 |0,_,p,hp=>by
  rw[aS.mp hp];lia
 |i+1,hi,p,hp=>by
  by_cases h:((k:Int)-i)∈back nm k i
  ·rw[uA h,jE]at hp;rcases hp with hp |hp
   ·exact kU hn i () p hp
   ·have :=hn _ () () p hp;lia
  ·rw[vO h]at hp;exact kU hn i () p hp
theorem EH{k:Nat}{p:Int}(hp:p∈back nm k i):p∈back nm k (i+1):=by
 by_cases h:((k:Int)-i)∈back nm k i
 ·rw[uA h,jE];exact .inl hp
 ·rw[vO h];exact hp
theorem vP{nm:Int->List Int}{k:Nat}(hn:∀n:Int,0<=n->n<=k->∀p∈nm n,0<=p/\p<n):∀i,i<=k+1->∀n∈back nm k i,(k:Int)-i<n->∀p∈nm n,p∈back nm k i
 |0,_,n,hm,lT,p,hp=>by
  rw[aS.mp hm]at lT;lia
 |i+1,hi,n,hm,lT,p,hp=>by
  by_cases h:((k:Int)-i)∈back nm k i
  ·let a:=hm;rw[uA h,jE]at hm;by_cases e:n=(k:Int)-i
   ·subst e;rw[uA h,jE];exact .inr hp
   ·rcases hm with hm |hm
    ·exact EH<|vP hn i () n hm () p hp
    ·have :=hn _ () () n hm;lia
  ·rw[vO h]at hm;let e:n≠(k:Int)-i:=λz=>h<|z▸hm
   exact EH<|vP hn i () n hm () p hp
noncomputable def uI(ls:List Ln)(n:Int):List Int:=match ls[n.toNat]? with |some l=>plc l.w l.as |none=>[]
def wH(ls:List Ln):Prop:=∀(i:Nat)(l:Ln),ls[i]?=some l->GL i l.w l.as
theorem n9{ls:List Ln}{n:Int}(h:ls[n.toNat]?=some l):uI ls n=plc l.w l.as:=by
 unfold uI;rw[h]
theorem vB{ls:List Ln}(h:wH ls):∀n:Int,0<=n->∀p∈uI ls n,0<=p/\p<n:=by
 intro n h0 p hp;unfold uI at hp;cases e:ls[n.toNat]? with
 |none=>rw[e]at hp;cases hp
 |some l=>
  rw[e]at hp;have :=(h _ l e).2 p hp;lia
noncomputable def DK(ls:List Ln)(k:Nat):List Int:=back (uI ls) k<|k+1
theorem JB(ls:List Ln)(k:Nat):(DK ls k).Nodup:=qG _ _ _
theorem VN{ls:List Ln}(h:wH ls)(k:Nat):∀p∈DK ls k,0<=p/\p<=(k:Int):=kU (λn h0 _=>vB h n h0) (k+1)<|aG _
theorem DJ{ls:List Ln}(h:wH ls)(k:Nat):∀n∈DK ls k,∀p∈uI ls n,p∈DK ls k:=λn hn p hp=>
 vP (λn h0 _=>vB h n h0) (k+1) (aG _) n hn (by have :=VN h k n hn;lia) p hp
theorem VL{l:List Int}{k:Nat}(hn:l.Nodup)(h:∀p∈l,0<=p/\p<=(k:Int)):l.length<=k+1:=by
 have :=wL (m:=(List.range<|k+1).map λi:Nat=>(i:Int)) hn λx hx=>by
  have :=h x hx;rw[bV];exact#[x.toNat,by rw[bL];lia,()]
 rwa[aD,dG]at this
structure Kept(ls:List Ln)(k:Nat)(ks:List Int):Prop where
 perm:ks.Perm (DK ls k)
 rise:ks.Pairwise (· <= ·)
theorem Kept.nodup{ls:List Ln}{k:Nat}(h:Kept ls k ks):ks.Nodup:=h.perm.nodup_iff.mpr<|JB ls k
theorem Kept.inn{ls:List Ln}{k:Nat}(h:Kept ls k ks)(ha:wH ls):∀p∈ks,0<=p/\p<=(k:Int):=λp hp=>VN ha k p<|h.perm.mem_iff.mp hp
theorem Kept.closed{ls:List Ln}{k:Nat}(h:Kept ls k ks)(ha:wH ls):∀n∈ks,∀p∈uI ls n,p∈ks:=λn hn p hp=>h.perm.mem_iff.mpr<|DJ ha k n (h.perm.mem_iff.mp hn) p hp
noncomputable def wC(p:Int):List Int->Nat
 |[]=>0
 |x::xs=>if x=p then 0 else wC p xs+1
noncomputable def wI:List Int->Nat->List (fC×V)
 |[],_=>[]
 |n::ns,i=>(.inl n,.int i)::wI ns (i+1)
theorem BH:∀(ns:List Int)(i:Nat),(wI ns i).length=ns.length
 |[],_=>rfl
 |n::ns,i=>by show(wI ns<|i+1).length+1=_;rw[BH ns<|i+1];rfl
theorem QE:∀(ns:List Int)(i:Nat),(wI ns i).map (·.1)=ns.map Sum.inl
 |[],_=>rfl
 |n::ns,i=>by show _::(wI ns<|i+1).map (·.1)=_;rw[QE ns<|i+1];rfl
theorem BI:∀{ns:List Int}{i j:Nat}{k:fC}{v:V},(wI ns i)[j]?=some (k,v)->∃n,ns[j]?=some n/\k=.inl n/\v=.int ((i+j:Nat):Int)
 |[],i,j,k,v,h=>by cases h
 |n::ns,i,0,k,v,h=>by
  cases h;exact#[n,rfl,rfl,rfl]
 |n::ns,i,j+1,k,v,h=>by
  let⟨m,h1,h2,a⟩:=BI (ns:=ns) (i:=i+1) (j:=j) h;exact#[m,h1,h2,by rw[a];congr 2;lia]
theorem XL{p:Int}:∀{ns:List Int}(i:Nat),p∈ns->yB (wI ns i) (.inl p)=some (.int ((i+wC p ns:Nat):Int))
 |[],i,h=>by cases h
 |n::ns,i,h=>by
  by_cases e:n=p
  ·subst e;show yB ((Sum.inl n,V.int i)::wI ns (i+1)) (.inl n)=_;rw[jU rfl];simp[wC]
  ·show yB ((Sum.inl n,V.int i)::wI ns (i+1)) (.inl p)=_;rw[jV λz=>e<|tD z,XL (i+1)<|(bG.mp h).resolve_left (cE e)];let ep:wC p (n::ns)=wC p ns+1:=by
    show(if n=p then 0 else wC p ns+1)=_;rw[aI e]
   rw[ep]
   congr 2
   lia
noncomputable def NI(ks:List Int)(l:Ln):Ln:=
 if l.w="rule" then#[l.i,l.j,"rule",[l.as.headD<|.n 0,.ps<|(plc l.w l.as).map λp=>(wC p ks:Int)]]
 else#[l.i,l.j,l.w,((plc l.w l.as).map λp=>(wC p ks:Int)).map .n]
theorem AZ{r:Int}{ps:List Int}(hw:l.w="rule")(ha:l.as=[.n r,.ps ps]):NI ks l=#[l.i,l.j,"rule",[.n r,.ps<|ps.map λp=>(wC p ks:Int)]]:=by
 unfold NI;rw[aL hw,ha,hw,gp];rfl
theorem KD{ns:List Int}(hw:l.w≠"rule")(ha:l.as=ns.map .n):NI ks l=#[l.i,l.j,l.w,(ns.map λp=>(wC p ks:Int)).map .n]:=by
 unfold NI;rw[aI hw,ha,gq hw]
noncomputable def BP(ls:List Ln)(ks:List Int)(i:Nat):List Ln:=(ks.take i).filterMap λn=>(ls[n.toNat]?).map (NI ks)
theorem NR{ls:List Ln}{n:Int}(hn:ks[i]?=some n)(hl:ls[n.toNat]?=some l):BP ls ks (i+1)=BP ls ks i++[NI ks l]:=by
 let⟨hi,e⟩:=aC.mp hn;unfold BP;rw[aP hi,e,sT]
 congr 1
 simp[hl]
theorem BO(ls:List Ln)(ks:List Int)(i:Nat):(BP ls ks i).length<=i:=by
 unfold BP;calc bU (List.length_filterMap_le _ _) ?_;rw[bF];lia
noncomputable def FD(ks:List Int):List (fC×V):=ks.map λn=>(.inl n,.bl true)
theorem ef(ks:List Int)(p:Int):jC (FD ks) (.inl p) (.bl true)=FD (if p∈ks then ks else ks++[p]):=by
 unfold jC;let e:((FD ks).any λa=>decide<|a.1=(.inl p:fC))=decide (p∈ks):=by
  unfold FD;rw[List.any_map,bY,dO,bH];constructor
  ·rintro⟨x,hx,h⟩;let h:x=p:=by simpa using h
   exact h▸hx
  ·intro h;exact#[p,h,by simp]
 rw[e];by_cases h:p∈ks
 ·rw[aL (by simpa using h),aL h];unfold FD;rw[dX];refine List.map_congr_left λx _=>?_
  show(if(Sum.inl x:fC)=.inl p then _ else _)=_;split<;>rfl
 ·rw[aI (by simpa using h),aI h];unfold FD;rw[aT];rfl
theorem d9(ks:List Int)(p:Int):(yB (FD ks)<|.inl p).isSome=decide (p∈ks):=by
 unfold yB FD;rw[gY,List.find?_map,gY,bY,List.find?_isSome,bH];constructor
 ·rintro⟨x,hx,h⟩;let h:x=p:=by simpa using h
  exact h▸hx
 ·intro h;exact#[p,h,by simp]
theorem RE(ks:List Int):(FD ks).map (·.1)=ks.map Sum.inl:=by
 unfold FD;rw[dX];rfl
theorem cut_1(x:V)(xs:List V):qI (x::xs) none (some 1)=[x]:=by
 show qI (x::xs) none (some ((1:Nat):Int))=[x]
 unfold qI;rw[HT.sIx_nat,HT.sIx_none,bJ,di (),pJ,Nat.sub_zero,List.take_succ_cons,List.take_zero]
theorem smB1(h:n<=100000):n<sizeLine:=fN h ()
theorem RW(h:n<=100000):n<=sizeLine:=rX<|smB1 h
inductive spLN (vs:List V) (H:Hp) (Q:VK) (E:XK):Prop
 |mk (v:V) (x:Str) (as:List Wt) (_:vs=[v]) (_:eE H (ZL x as) v) (_:GW x as) (_:∀p H',aW H H'->H' p=some (.tup<|(plc x as).map V.int)->Q (.ref p) H')
inductive spRn (vs:List V) (H:Hp) (Q:VK) (E:XK):Prop
 |mk (v:V) (d:Addr) (l:Ln) (ks:List Int) (_:vs=[v,.ref d]) (_:eE H (ZL l.w l.as) v) (_:GW l.w l.as) (_:H d=some (.dK<|wI ks 0)) (_:(∀p∈plc l.w l.as,p∈ks)) (_:∀v' H',aW H H'->eE H' (ZL (NI ks l).w (NI ks l).as) v'->Q v' H')
def FP(ls:List Ln)(i j:Int)(r:V):Prop:=(r=.non/\∀l∈ls,¬(l.i=i/\l.j=j))\/∃(k:Nat)(l:Ln),r=.int k/\ls[k]?=some l/\(l.i=i/\l.j=j)/\∀(m:Nat)(l':Ln),m<k->ls[m]?=some l'->¬(l'.i=i/\l'.j=j)
inductive mh (vs:List V) (H:Hp) (Q:VK) (E:XK):Prop
 |mk (la:Addr) (ws:List V) (ls:List Ln) (i j:Int) (_:vs=[.ref la,.int i,.int j]) (_:H la=some (.lst ws)) (_:uB H ls ws) (_:∀r H',aW H H'->FP ls i j r->Q r H')
theorem XQ(bi:Bi mg)(F:gF K "lines_named" "lines_named" s_z f fd):dC P w K mg base fU 1 f fd ["why"] spLN:=by
 refine F.okz sc_z λeZ A outer s H vs Q E hr h=>?_
 let⟨v,x,as,rfl,hv,m,q⟩:=h;let g:∀{a b c:V},pU [a,b,c] 2=some c:=zN (j:=2) rfl;let⟨a,us,rfl,ha,d⟩:=PX hv;calc#[_,have nd:=sc_z.nd;zH<|zP<|qX #[] #[]<|xL YG #[] (xV zJ) jP,?_];dsimp![SO];calc#[_,dH.of ha,_,lN,rfl,?_];rcases m with⟨k,ns,rfl,_⟩ |⟨rfl,r,ps,rfl,_⟩
 ·rw[aI λe=>k<|V.str.inj e];let e:=u7 d;subst e;calc#[_,ha,λp H' s1 l=>q p H' s1 ?_];rw[kO]at l;rw[gq k];exact l
 ·rw[aL rfl];let⟨v1,r1,n,y,v2,o,t,u,i⟩:=d;let i:o=[]:=i;subst i t n;let⟨b,rfl,hb⟩:=uj u;calc#[_,dH.of ha,_,g,q b H (aW.refl H) ?_];rw[gp];exact hb
theorem GF(bi:Bi mg)(F:gF K "renamed" "renamed" sn f fd):dC P w K mg base fU 1 f fd ["why","places"] spRn:=by
 refine F.okz m7 λeZ A outer s H vs Q E hr h=>?_
 let⟨v,d,l,ks,rfl,hv,X,hd,hin,q⟩:=h;let z:∀{a b c:V},pU [a,b,c] 2=some c:=zN (j:=2) rfl;let⟨a,us,rfl,ha,k⟩:=PX hv;calc#[_,have nd:=m7.nd;zC (yK #[] (zH<|zP<|yI<|zG xX<|zG #[]<|zG (yY qS rfl bi.tuple JL<|zG (zT ["p"] ["places"] [1] (wJ #[]) (λ_ _ _ _ nd=>zZ 0 nd) (λ_ _ _ _=>zW) λ_ _ _ _=>(YN (xO hr) #[] #[] λ_ _=>rfl)) zI) zI) zS)<|zH<|zP<|jO iq (xL YG #[] jP<|xV zJ)<|yY qS rfl bi.tuple JL<|zG (zT ["p"] ["places"] [1] (wJ<|xL YG #[] (xV zJ) jP) (λ_ _ _ _ nd=>zZ 0 nd) (λ_ _ _ _=>zW) λ_ _ _ _=>(YN (xO hr) #[] #[] λ_ _=>rfl)) zI,?_];refine zD λN Y=>?_
 dsimp![SO,SR];calc#[_,dH.of ha,_,lN,rfl,?_];rcases X with⟨m,ns,has,Z⟩ |⟨m,r,ps,has,B⟩
 ·rw[aI λe=>m<|V.str.inj e];calc Y _ _ ?_;rw[has]at k;let e:=u7 k;subst e;rw[has,gq m]at hin;rw[KD m has]at q;dsimp![SO,SR];calc#[_,ha,λp1 H1 s1 T=>?_];rw[cut_1]at T;calc#[_,s1 _ _ ha,λp2 H2 s2 D=>?_];rw[kO]at D;calc#[#[_,dH.of D],?_];refine VH (xs:=ns.map V.int) (λi ys σ H'=>aW H2 H'/\ys=((ns.take i).map λp=>(wC p ks:Int)).map V.int/\∃o,σ=[o,some<|V.ref d]) #[aW.refl _,rfl,_,rfl] (RW (by rw[aD];lia)) (λi ys σ H' e=>?_) (λi ys σ H' e=>dH.of<|e.1 _ _ D) (λi x ys σ H' C hx e G=>?_) λys σ H' e I t=>?_
  ·let⟨_,rfl,_⟩:=e;rw[aD,aD,bF];lia
  ·let⟨es,rfl,o,rfl⟩:=e;rw[aJ]at hx;cases g:ns[i]? with
   |none=>rw[g]at hx;cases hx
   |some n=>
    rw[g]at hx;cases hx;dsimp![];calc#[_,.inl #[_,.inl n,.inl<|es _ _<|s2 _ _<|s1 _ _ hd,rfl,(XL 0<|hin n<|aR g).symm],G _ _ _ #[es,?_,_,rfl]];let⟨hi,e⟩:=aC.mp g;rw[aP hi,e,aT,aT,gG];rfl
  let⟨es,rfl,o,rfl⟩:=e;rw[aD,aQ<|aG _];calc#[I,rfl,_,.inl #[cX.of zA,λU u=>?_]];let J:=zB t (.lst<|(ns.map λp=>(wC p ks:Int)).map V.int);let L:=zB u (.tup<|(ns.map λp=>(wC p ks:Int)).map V.int);let W:=(s2.trans es).trans (J.trans L);calc#[_,W _ _ T,_,zA,RW (by simp;lia),λM H5 y k5=>?_];refine q _ _ ((s1.trans W).trans y) #[M,_,rfl,k5,_,_,rfl,rfl,atNs _ _]
 ·rw[aL<|dE V.str m];rw[has]at k;let⟨v1,r1,e1,O,v2,r2,e3,e4,R⟩:=k;let R:r2=[]:=R;let O:v1=.int r:=O;subst R e3 e1 O;let⟨b,rfl,hb⟩:=uj e4;rw[m,has,gp]at hin;rw[AZ m has]at q;calc#[_,dH.of ha,_,pV,_,dH.of ha,_,z,b,rfl,#[_,dH.of hb],?_];refine VH (xs:=ps.map V.int) (λi ys σ H'=>aW H H'/\ys=((ps.take i).map λp=>(wC p ks:Int)).map V.int/\∃o,σ=[o,some<|V.ref d]) #[aW.refl _,rfl,_,rfl] (RW (by rw[aD];lia)) (λi ys σ H' e=>?_) (λi ys σ H' e=>dH.of<|e.1 _ _ hb) (λi x ys σ H' C hx e G=>?_) λys σ H' e I t=>?_
  ·let⟨_,rfl,_⟩:=e;rw[aD,aD,bF];lia
  ·let⟨es,rfl,o,rfl⟩:=e;rw[aJ]at hx;cases g:ps[i]? with
   |none=>rw[g]at hx;cases hx
   |some n=>
    rw[g]at hx;cases hx;dsimp![];calc#[_,.inl #[_,.inl n,.inl<|es _ _ hd,rfl,(XL 0<|hin n<|aR g).symm],G _ _ _ #[es,?_,_,rfl]];let⟨hi,e⟩:=aC.mp g;rw[aP hi,e,aT,aT,gG];rfl
  let⟨es,rfl,o,rfl⟩:=e;rw[aD,aQ<|aG _];calc#[I,rfl,_,.inl #[cX.of zA,λU u=>#[RW (by simp),λM S=>?_]]];let J:=zB t (.lst<|(ps.map λp=>(wC p ks:Int)).map V.int);let L:=zB u (.tup<|(ps.map λp=>(wC p ks:Int)).map V.int);let y:=zB S<|.tup [.str "rule",.int r,.ref U];refine q _ _ ((es.trans<|J.trans L).trans y) #[M,_,rfl,zA,_,_,rfl,rfl,_,_,rfl,rfl,_,_,rfl,xc<|y _ _ zA,rfl]
theorem CD(bi:Bi mg)(be:mg "enumerate"=none)(F:gF K "line_for" "line_for" s_V f fd):dC P w K mg base fU 1 f fd ["lines","i","j"] mh:=by
 refine F.okz sc_V λeZ A outer s H vs Q E hr h=>?_
 let⟨la,ws,ls,i,j,rfl,c,d,q⟩:=h;let v:=jM d;calc#[_,have nd:=sc_V.nd;zC (yC bX rfl #[] #[]<|zH<|yK (yG (vA hr.units) #[] #[]<|yL _) #[] zS) #[],?_];refine zM (λσ H'=>∃(o1 o2:Option V),aW H H'/\(∀l∈ls,¬(l.i=i/\l.j=j))/\σ=[some<|V.ref la,some<|V.int i,some<|V.int j,o1,o2]) (λN y=>?_) λσ H' h=>?_
 ·dsimp![vH];calc#[_,c,?_];refine LX (xs:=ws) (λn σ H'=>∃(o1 o2:Option V),aW H H'/\(∀(m:Nat)(l':Ln),m<n->ls[m]?=some l'->¬(l'.i=i/\l'.j=j))/\σ=[some<|V.ref la,some<|V.int i,some<|V.int j,o1,o2]) #[_,_,aW.refl _,(λm l z=>by cases z),rfl] (λn σ H' h=>?_) (λn x σ H' p hx h hp=>?_) λσ H' h=>?_
  ·let⟨o1,o2,s1,_⟩:=h;exact s1 _ _ c
  ·let⟨o1,o2,s1,a,rfl⟩:=h;let⟨l,g,k⟩:=xG d hx;let⟨b,u,rfl,hb,_⟩:=ai k;let s2:=zB hp<|.tup [.int n,.ref b];let r:upd H' p (.tup [.int n,.ref b]) p=some (.tup [.int n,.ref b]):=zA;replace s1:=s1.trans s2;generalize upd H' p (.tup [.int n,.ref b])=H2 at s1 r⊢;replace hb:=s1 _ _ hb;dsimp![uP,jK,vK];calc#[[.int n,.ref b],dH.of r,rfl,.int n,[.ref b],rfl,.ref b,[],rfl,rfl,?_];calc#[b,rfl,_,dH.of hb,_,lN,b,rfl,_,dH.of hb,_,pV,RW (by simp),λB C=>#[RW (by simp),λD G=>?_]];let t:=zB C<|.tup [.int l.i,.int l.j];let o:=zB G<|.tup [.int i,.int j];calc#[0,PJ (l.i,l.j),#[B,_,rfl,o _ _ zA,_,_,rfl,rfl,_,_,rfl,rfl,rfl],PJ (i,j),#[D,_,rfl,zA,_,_,rfl,rfl,_,_,rfl,rfl,rfl],wf 0 _,(),_,rfl,?_];rw[wk];by_cases e:l.i=i/\l.j=j
   ·rw[aL (by rw[e.1,e.2];simp)];exact q _ _ (s1.trans<|t.trans o)<|.inr #[n,l,rfl,g,e,a]
   ·rw[aI (by simpa using e)];calc#[s1.trans<|t.trans o,λm l' hm iT=>?_,_,rfl];by_cases em:m=n
    ·subst em;rw[g]at iT;cases iT;exact e
    ·exact a m l' () iT
  ·let⟨o1,o2,s1,a,rfl⟩:=h;calc y _ _ #[o1,o2,s1,λl hl=>?_,rfl];let⟨m,hm,e⟩:=dI hl;exact a m l () (by rw[aA hm,e])
 let⟨o1,o2,s1,a,rfl⟩:=h;dsimp![];exact q _ _ s1<|.inl #[rfl,a]
inductive spHu (vs:List V) (H:Hp) (Q:VK) (E:XK):Prop
 |mk (la:Addr) (ws:List V) (ls:List Ln) (k:Nat) (_:vs=[.ref la,.int k]) (_:H la=some (.lst ws)) (_:uB H ls ws) (_:wH ls) (_:k<ls.length) (_:ls.length<=40000) (_:∀p ks H',aW H H'->H' p=some (.lst<|ks.map V.int)->Kept ls k ks->Q (.ref p) H')
def PapAt(H:Hp)(ls:List Ln)(i j:Int)(r:V):Prop:=(r=.non/\∀l∈ls,¬(l.i=i/\l.j=j))\/
 ∃(k:Nat)(l:Ln)(ks:List Int),ls[k]?=some l/\(l.i=i/\l.j=j)/\(∀(m:Nat)(l':Ln),m<k->ls[m]?=some l'->¬(l'.i=i/\l'.j=j))/\Kept ls k ks/\eE H (.lst<|(BP ls ks ks.length).map MG) r
inductive spPa (vs:List V) (H:Hp) (Q:VK) (E:XK):Prop
 |mk (la:Addr) (ws:List V) (ls:List Ln) (i j:Int) (_:vs=[.ref la,.int i,.int j]) (_:H la=some (.lst ws)) (_:uB H ls ws) (_:wH ls) (_:ls.length<=40000) (_:∀r H',aW H H'->PapAt H' ls i j r->Q r H')
theorem DI{ls:List Ln}(h:wH ls){k:Nat}(hk:k<ls.length)(h63:ls.length<=40000):(DK ls k).length<=40000:=by
 have :=VL (JB ls k)<|VN h k;lia
theorem ce{ls:List Ln}(h:wH ls){k:Nat}(hi:i<=k+1):(back (uI ls) k i).length<=k+1:=VL (qG _ _ _) (kU (λn h0 _=>vB h n h0) i hi)
theorem GO(bi:Bi mg)(h_z:fZ P w K mg base 1 "lines_named" ["why"] spLN)(F:gF K "hung_on" "hung_on" sj f fd):dC P w K mg base fU 2 f fd ["lines","k"] spHu:=by
 refine F.okz my λeZ A outer s H vs Q E hr h=>?_
 let⟨la,ws,ls,k,rfl,R,y,g,hk,S,q⟩:=h;let hwl:=jM y;let T:∀{a b c:V},pU [a,b,c] 2=some c:=zN (j:=2) rfl;calc#[_,have nd:=my.nd;zC (yW 2 nd<|ii (SY #[] KR gn) rfl rfl (by simp) ())<|zC (yC bX rfl (gw rfl bi.range #[]) #[]<|zH<|yK (ZA (XM (xO hr) #[] #[]) (by with_unfolding_all rfl)) (zH<|yC bX rfl (wJ<|zU h_z hr.m rfl<|zG (zL xP (zL zQ #[] #[]) zJ) zI) #[]<|zH<|UX (xO hr) #[] #[] KR rfl) zS)<|zH<|zP<|yH JI rfl bi.sorted wA #[],?_];refine zD λN M=>?_
 dsimp![];refine λnd lO=>#[zA,[(.inl (k:Int),.bl true)],rfl,by simp,M _ _ ?_]
 clear M;let s1:aW H (upd (upd H nd<|.dK []) nd<|.dK<|vC [] [(.inl (k:Int),V.bl true)]):=((aW.refl H).upd lO).upd lO;let k1:upd (upd H nd<|.dK []) nd (.dK<|vC [] [(.inl (k:Int),V.bl true)]) nd=some (.dK<|FD<|back (uI ls) k 0):=zA;generalize upd (upd H nd<|.dK []) nd (.dK<|vC [] [(.inl (k:Int),V.bl true)])=H1 at s1 k1⊢;refine zM (λσ H'=>∃(o1 o2:Option V),aW H H'/\H' nd=some (.dK<|FD<|DK ls k)/\σ=[some<|V.ref la,some<|V.int k,some<|V.ref nd,o1,o2]) (λN M=>?_) λσ H' h=>?_
 ·dsimp![oh];calc#[k,rfl,(),?_];refine jx (n:=k+1) (hi:=(k:Int)) (λi σ H'=>∃(o1 o2:Option V),aW H H'/\H' nd=some (.dK<|FD<|back (uI ls) k i)/\σ=[some<|V.ref la,some<|V.int k,some<|V.ref nd,o1,o2]) #[_,_,s1,k1,rfl] (λi σ H' hi h=>?_) λσ H' h=>?_
  ·let⟨o1,o2,s2,r,rfl⟩:=h;let hbl:=ce g (i:=i) (k:=k) ();dsimp![NC];calc#[_,.inl #[_,.inl<|(k:Int)-i,.inl r,rfl,rfl],?_];rw[d9];by_cases hin:((k:Int)-i)∈back (uI ls) k i
   rotate_left
   ·rw[aI (by simpa using hin)];calc#[s2,?_,_,rfl];rw[vO hin];exact r
   rw[aL (by simpa using hin)];let B:((k:Int)-i).toNat<ls.length:=by lia
   let⟨v,U,C⟩:=bN.get (d:=MG ls[((k:Int)-i).toNat]) y (by rw[aJ,aA B];rfl);let D:=aA B;let G:=g _ _ D;let I:=n9 D;generalize ls[((k:Int)-i).toNat]=l at C G I;let⟨b,u,rfl,hb,hu⟩:=ai C;calc#[_,cX.of<|s2 _ _ R,_,EI () U,b,rfl,_,dH.of<|s2 _ _ hb,_,T,?_];calc#[u,l.w,l.as,rfl,eE.same s2 hu,G.1,λpt H3 s3 J=>?_];rw[←I]at J;let L:=s3 _ _ r;let nn:pt≠nd:=λz=>by rw[z,L]at J;cases J
   calc#[pt,rfl,#[_,dH.of J],?_];rw[uA hin];let W:∀p∈uI ls ((k:Int)-i),0<=p/\p<=(k:Int):=λp hp=>by
    have :=vB g _ () p hp;lia
   refine bf (xs:=(uI ls<|(k:Int)-i).map V.int) (λm σ H'=>∃(o:Option V),aW H H'/\H' pt=some (.tup<|(uI ls<|(k:Int)-i).map V.int)/\H' nd=some (.dK<|FD<|xY (back (uI ls) k i)<|(uI ls<|(k:Int)-i).take m)/\σ=[some<|V.ref la,some<|V.int k,some<|V.ref nd,some<|V.int<|(k:Int)-i,o]) #[_,s2.trans s3,J,L,rfl] (λm σ H' _ h=>?_) (λm x σ H' hx h=>?_) λσ H' h=>?_
   ·let⟨o,_,h2,_⟩:=h;exact dH.of h2
   ·let⟨o,X,k4,O,rfl⟩:=h;rw[aJ]at hx;cases t:(uI ls<|(k:Int)-i)[m]? with
    |none=>rw[t]at hx;cases hx
    |some p=>
     rw[t]at hx;cases hx;dsimp![IY];let hal:(xY (back (uI ls) k i)<|(uI ls<|(k:Int)-i).take m).length<=k+1:=by
      refine VL (jR _ _<|qG _ _ _) λz hz=>?_
      rcases(jE z _ _).mp hz with hz |hz
      ·exact kU (λn h0 _=>vB g n h0) i () z hz
      ·exact W z<|fQ hz
     let⟨hm,e⟩:=aC.mp t;refine#[_,.inl #[_,.inl p,O,rfl,?_,rfl],X.upd lO,by rw[zE nn];exact k4,?_,_,rfl]
     ·unfold FD;rw[aD];exact smB1 ()
     rw[zA,ef,aP hm,e,EL]
   ·let⟨o,X,k4,O,rfl⟩:=h;rw[aD,aQ<|aG _]at O;exact#[X,O,_,_,rfl]
  ·let⟨o1,o2,s2,r,rfl⟩:=h;exact M _ _ #[_,_,s2,r,rfl]
 let⟨o1,o2,s2,r,rfl⟩:=h;dsimp![];let hl:=DI g hk S;calc#[_,r,DK ls k,RE _,(),λp ks hp Y Z=>?_];exact q _ ks _ (s2.trans<|zB hp _) zA #[Y,Z]
theorem WK(bi:Bi mg)(be:mg "enumerate"=none)(h_V:fZ P w K mg base 1 "line_for" ["lines","i","j"] mh)(h_be:fZ P w K mg base 2 "hung_on" ["lines","k"] spHu)(h_bb:fZ P w K mg base 1 "renamed" ["why","places"] spRn)(F:gF K "paper" "paper" r9 f fd):dC P w K mg base fU 3 f fd ["lines","i","j"] spPa:=by
 refine F.okz mq λeZ A outer s H vs Q E hr h=>?_
 let⟨la,ws,ls,i,j,rfl,g,t,G,h63,q⟩:=h;let hwl:=jM t;let at2:∀{a b c:V},pU [a,b,c] 2=some c:=zN (j:=2) rfl;calc#[_,have nd:=mq.nd;zC #[]<|zC (yK (yG GB #[] wK<|yL _) #[] zS)<|zC #[]<|zC (uY (i:=5) nd rfl (Or.inr rfl)<|yY JJ rfl bi.dict YV<|zG (zT ["place","n"] [] [] #[] (λ_ _ _ _ nd=>jQ (K:=K) (n:=2) rfl<|zV (zZ 0 nd)<|zV (zZ 1 nd) xW) (λ_ _ _ _=>zW) λ_ _ _ _=>#[]) zI)<|zH<|zP<|zT ["n"] ["places","lines"] [5,0] #[] (λ_ _ _ _ nd=>zZ 0 nd) (λ_ _ _ _=>zW) λ_ _ _ _=>(yI<|zG (zL (yQ K) (zL (qD K) #[] #[]) zJ)<|zG (zL (yQ K) (zL (qD K) #[] #[]) zJ)<|zG (zU h_bb hr.m rfl<|zG (zL (yQ K) (zL (qD K) #[] #[]) zJ) #[]) zI),?_];refine zD λN D=>?_
 dsimp![];calc#[la,ws,ls,i,j,rfl,g,t,λr H1 s1 nG=>D _ _ ?_];replace g:=s1 _ _ g;replace t:=bN.same s1 t;clear D;refine zD λN D=>?_
 dsimp![];rcases nG with⟨rfl,O⟩ |⟨k,l,rfl,X,hij,O⟩
 ·rw[aL rfl];exact q _ _ s1<|.inl #[rfl,O]
 rw[aI (by intro z;cases z)];calc D _ _ ?_;clear D;let hk:=(aC.mp X).1;refine zD λN D=>?_
 dsimp![];calc#[la,ws,ls,k,rfl,g,t,G,hk,h63,λpk ks H2 s2 T I=>D _ _ ?_];replace g:=s2 _ _ g;replace t:=bN.same s2 t;replace s1:=s1.trans s2;clear D;let Y:=I.nodup;let Z:=I.inn G;let hkl:=VL Y Z;refine zD λN D=>?_
 dsimp![vH];calc#[_,T,?_];refine LI (xs:=ks.map V.int) (λi ys σ H'=>aW H2 H'/\(∃as:List Addr,ys=as.map V.ref/\as.length=i/\∀(m:Nat)(a:Addr),as[m]?=some a->∃n,ks[m]?=some n/\H' a=some (.tup [.int n,.int m]))/\∃o1 o2,σ=[o1,o2]) #[aW.refl _,#[[],rfl,rfl,λm a z=>by cases z],_,_,rfl] (RW (by rw[aD];lia)) (λi ys σ H' e=>?_) (λi ys σ H' e=>e.1 _ _ T) (λi x ys σ H' p C hx e hp hC=>?_) λys σ H' e p3 hp3=>?_
 ·let⟨_,⟨as,rfl,hl,_⟩,_⟩:=e;rw[aD];lia
 ·let⟨es,⟨as,rfl,B,has⟩,o1,o2,rfl⟩:=e;rw[aJ]at hx;cases y:ks[i]? with
  |none=>rw[y]at hx;cases hx
  |some n=>
   rw[y]at hx;cases hx;let M:=zB hp<|.tup [.int i,.int n];let U:upd H' p (.tup [.int i,.int n]) p=some (.tup [.int i,.int n]):=zA;generalize upd H' p (.tup [.int i,.int n])=H3 at M U⊢;dsimp![uP,jK,vK];calc#[[.int i,.int n],dH.of U,rfl,.int i,[.int n],rfl,.int n,[],rfl,rfl,RW (by simp),λp4 hp4=>hC _ _ _ ?_];let s4:=zB hp4<|.tup [.int n,.int i];calc#[(es.trans M).trans s4,#[as++[p4],by rw[aT];rfl,by simp[B],λm a hm=>?_],_,_,rfl];by_cases lT:m<as.length
   ·rw[aZ lT]at hm;let⟨n',h1,h2⟩:=has m a hm;exact#[n',h1,s4 _ _<|M _ _ h2]
   ·let hm2:=(aC.mp hm).1;rw[aH,cA]at hm2;let em:m=as.length:=by lia
    subst em;rw[bI<|aG _,fJ]at hm;cases hm;calc#[n,by rw[B];exact y,?_];rw[B];exact zA
 let⟨es,⟨as,rfl,B,has⟩,o1,o2,rfl⟩:=e;rw[aD]at B;let M:=zB hp3<|.lst<|as.map V.ref;let U:upd H' p3 (.lst<|as.map V.ref) p3=some (.lst<|as.map V.ref):=zA;generalize upd H' p3 (.lst<|as.map V.ref)=H3 at M U⊢;refine#[p3,rfl,as,cX.of U,wI ks 0,by rw[BH];exact B,?_,λm kk v hm=>?_,λd hd=>D _ _ ?_]
 ·rw[QE];exact fW.mpr (List.Pairwise.imp (λmO e=>mO<|tD e) Y)
 ·let⟨n,h1,rfl,rfl⟩:=BI hm;let hm':m<as.length:=by rw[B];exact(aC.mp h1).1
  let⟨n',h2,h3⟩:=has m as[m] (aA hm');rw[h1]at h2;cases h2;exact#[as[m],aA hm',dH.of (by rw[gG];calc M _ _ h3)]
 clear D;let s4:=zB hd<|.dK<|wI ks 0;let k4:upd H3 d (.dK<|wI ks 0) d=some (.dK<|wI ks 0):=zA;let W:=(es.trans M).trans s4;generalize upd H3 d (.dK<|wI ks 0)=H4 at W k4⊢;replace s1:=s1.trans W;replace g:=W _ _ g;replace t:=bN.same W t;replace T:=W _ _ T;clear W s4 M es U has hd hp3;dsimp![];calc#[#[_,cX.of T],?_];refine yT (xs:=ks.map V.int) (λi ys σ H'=>aW H4 H'/\bN H' ((BP ls ks i).map MG) ys/\∃o,σ=[o,some<|V.ref d,some<|V.ref la]) #[aW.refl _,rfl,_,rfl] (RW (by rw[aD];lia)) (λi ys σ H' e=>?_) (λi ys σ H' e=>cX.of<|e.1 _ _ T) (λi x ys σ H' C hx e hC=>?_) λys σ H' e p5 hp5=>?_
 ·have :=bN.length e.2.1;rw[aD]at this;have :=BO ls ks i;lia
 ·let⟨es,J,o,rfl⟩:=e;rw[aJ]at hx;cases y:ks[i]? with
  |none=>rw[y]at hx;cases hx
  |some n=>
   rw[y]at hx;cases hx;let hnk:=aR y;let hn:=Z n hnk;let hn0:n.toNat<ls.length:=by lia
   let⟨v,hv1,hv2⟩:=bN.get (d:=MG ls[n.toNat]) t (by rw[aJ,aA hn0];rfl);let L:=aA hn0;let hgl:=G _ _ L;let R:=I.closed G n hnk;rw[n9 L]at R;generalize ls[n.toNat]=l' at hv2 hgl R L;let⟨b,u,rfl,hb,hu⟩:=ai hv2;let S:pU ws n=some (.ref b):=EI hn.1 hv1;dsimp![];calc#[_,cX.of<|es _ _ g,_,S,b,rfl,_,dH.of<|es _ _ hb,_,lN,_,cX.of<|es _ _ g,_,S,b,rfl,_,dH.of<|es _ _ hb,_,pV,_,cX.of<|es _ _ g,_,S,b,rfl,_,dH.of<|es _ _ hb,_,at2,?_];calc#[u,d,l',ks,rfl,eE.same es hu,hgl.1,es _ _ k4,R,λv' H5 s5 hv'=>#[RW (by simp),λp6 hp6=>hC _ _ _ ?_]];let s6:=zB hp6<|.tup [.int l'.i,.int l'.j,v'];calc#[(es.trans s5).trans s6,?_,_,rfl];rw[NR y L,aT];calc bN.append (bN.same (s5.trans s6) J)<|bN.one ?_;let er:MG (NI ks l')=MG #[l'.i,l'.j,(NI ks l').w,(NI ks l').as]:=by
    unfold NI;split<;>rfl
   rw[er];exact xf zA<|eE.same s6 hv'
 let⟨es,J,o,rfl⟩:=e;let s5:=zB hp5<|.lst ys;rw[aD]at J;exact q _ _ (s1.trans<|es.trans s5)<|.inr #[k,l,ks,X,hij,O,I,#[p5,_,rfl,zA,bN.same s5 J]]
structure Rl(M:Nat)(R:Nat->Nat->Bool):Prop where
 refl:∀x,x<M->R x x=true
 turn:∀i j,R i j=true->R (lY j) (lY i)=true
 trans:∀i j k,R i j=true->R j k=true->R i k=true
 all:∀i n,R i (lY i)=true->n<M->R i n=true
 ev:∃h,M=2*h
theorem Rl.of{ls:List Ln}(hp:Pl aE (2*aE.length) aE.length ls)(hc:Cl aE aX ls.length ls):Rl (2*aE.length) (rl ls):=by
 let lt:∀{p:Nat}{l:Ln},ls[p]?=some l->p<ls.length:=λh=>(aC.mp h).1
 refine#[λx hx=>hp.same x hx,λi j h=>?_,λi j k h1 h2=>?_,λi n h hn=>?_,_,rfl]
 ·let⟨p,l,a,b,c⟩:=fK.mp h;exact hc.turn p l i j (lt a) a b c
 ·let⟨p,l,a,b,c⟩:=fK.mp h1;let⟨g,l',d,e,f⟩:=fK.mp h2;exact hc.chain p g l l' i j k (lt a) (lt d) a d b c e f
 ·let⟨p,l,a,b,c⟩:=fK.mp h;exact hc.clash p l i (lY i) (lt a) a b c (jW i).symm n hn
section
variable {M:Nat} {R:Nat->Nat->Bool}
theorem Rl.sym(h:Rl M R)(g:R i (lY j)=true):R j (lY i)=true:=by
 have :=h.turn _ _ g;rwa[vT]at this
theorem Rl.lt(h:Rl M R)(hn:n<M):lY n<M:=by
 let⟨k,hk⟩:=h.ev;rw[hk]at hn⊢;exact YY hn
theorem pZ{x:Nat}:x∈yE M R↔x<M/\R x (lY x)=false:=by
 unfold yE;rw[bM,bL];simp
theorem UM{a:Nat}(ha:a<(yE M R).length):(yE M R).getD a 0∈yE M R:=by
 rw[bW,aA ha];exact cO ha
theorem lX{a:Nat}:a∈xZ sp R n↔a<sp.length/\R (sp.getD a 0) n=true:=by
 unfold xZ;rw[bM,bL]
theorem tP{p:Nat×Nat}:p∈wQ sp R↔p.1<sp.length/\p.2<sp.length/\p.1<p.2/\R (sp.getD p.1 0) (lY<|sp.getD p.2 0)=true:=by
 unfold wQ;rw[nM];constructor
 ·rintro⟨a,ha,hp⟩;let⟨b,hb,rfl⟩:=bV.mp hp;rw[bM,bL]at hb;simp only[cD,bH]at hb;exact#[bL.mp ha,hb.1,hb.2.1,hb.2.2]
 ·rintro⟨h1,h2,c,d⟩;calc#[p.1,bL.mpr h1,bV.mpr #[p.2,?_,rfl]];rw[bM,bL];simp only[cD,bH];exact#[h2,c,d]
theorem bw{ps:List (Nat×Nat)}{a b:Nat}:uQ ps a b=true↔(a,b)∈ps\/(b,a)∈ps:=by
 unfold uQ;rw[dO];constructor
 ·rintro⟨p,hp,h⟩;simp only[oQ,cD,cP]at h;rcases h with⟨h1,h2⟩ |⟨h1,h2⟩
  ·exact .inl (by rw[←h1,←h2];calc hp)
  ·exact .inr (by rw[←h1,←h2];calc hp)
 ·rintro(h |h)
  ·exact#[_,h,by simp]
  ·exact#[_,h,by simp]
theorem oy(h:Rl M R){a b:Nat}(ha:a<(yE M R).length)(hb:b<(yE M R).length):uQ (wQ (yE M R) R) a b=R ((yE M R).getD a 0) (lY<|(yE M R).getD b 0):=by
 rw[bY,bw,tP,tP];constructor
 ·rintro(⟨_,_,_,g⟩ |⟨_,_,_,g⟩)
  ·exact g
  ·exact h.sym g
 ·intro g;rcases Nat.lt_trichotomy a b with l |e |l
  ·exact .inl #[ha,hb,l,g]
  ·subst e;have :=(pZ.mp<|UM ha).2;rw[this]at g;cases g
  ·exact .inr #[hb,ha,l,h.sym g]
theorem VY(h:Rl M R)(hn:n<M):cnt (yE M R).length (wQ (yE M R) R) (xZ (yE M R) R n)=xZ (yE M R) R (lY n):=by
 unfold cnt;show _=(List.range (yE M R).length).filter λa=>R ((yE M R).getD a 0)<|lY n
 refine List.filter_congr λi hi=>?_
 let hi:=bL.mp hi;let d:=pZ.mp<|UM hi;rw[bY,cW];constructor
 ·intro g;by_cases c:R n (lY n)=true
  ·exact h.sym<|h.all n _ c<|h.lt d.1
  ·let hm:n∈yE M R:=pZ.mpr #[hn,dY.mpr c];let⟨a,ha⟩:=lD hm;let e:(yE M R).getD a 0=n:=by rw[bW,ha];rfl
   let b:=(aC.mp ha).1;have :=g a (lX.mpr #[b,by rw[e];calc h.refl n hn]);rw[oy h b hi,e]at this;exact h.sym this
 ·intro g a ha;let⟨b,hr⟩:=lX.mp ha;rw[oy h b hi];exact h.sym<|h.trans _ _ _ g<|h.turn _ _ hr
theorem bt(h:Rl M R)(hn:n<M):cnt (yE M R).length (wQ (yE M R) R) (cnt (yE M R).length (wQ (yE M R) R) (xZ (yE M R) R n))=xZ (yE M R) R n:=by
 rw[VY h hn,VY h<|h.lt hn,vT]
theorem HS(sp:List Nat):Ok2 sp.length (wQ sp R):=λp hp=>let ⟨_,h2,a,_⟩:=tP.mp hp;#[a,h2]
theorem fj:(yE M R).length<=M:=bU (dM _ _) (by rw[dG];calc aG _)
end
theorem LA{x:Str}{k:Nat}(h:(x,k)∈LB aE):aE[k]?=some (.nm x)/\k<aE.length:=by
 unfold LB at h;let⟨q,hq,e⟩:=eD.mp h;unfold WV at e;split at e
 ·rename_i y hy
  cases e;exact#[hy,bL.mp hq]
 ·cases e
section
variable {M:Nat} {R:Nat->Nat->Bool}
theorem RA(h:Rl M R)(low:∀x,x<M->R 0 x=true):xZ (yE M R) R 0=[]:=by
 unfold xZ;refine rZ.mpr λa ha hr=>?_
 let⟨h1,h2⟩:=pZ.mp<|UM<|bL.mp ha;have :=h.trans _ _ _ hr<|low _<|h.lt h1;rw[h2]at this;cases this
theorem RC(h:Rl M R)(hi:R n i=true)(hj:R n j=true)(hb:∀x,R x i=true->R x j=true->R x n=true):(xZ sp R i).filter (λa=>decide<|a∈xZ sp R j)=xZ sp R n:=by
 unfold xZ;rw[List.filter_filter];refine List.filter_congr λa ha=>?_
 let b:=bL.mp ha;rw[bY,cD,bH];constructor
 ·rintro⟨h1,h2⟩;exact hb _ h2 (lX.mp h1).2
 ·intro g;exact#[lX.mpr #[b,h.trans _ _ _ g hj],h.trans _ _ _ g hi]
theorem MU(h:Rl M R)(hi:i<M)(hj:j<M):((xZ (yE M R) R i).all λa=>decide<|a∈xZ (yE M R) R j)=R i j:=by
 rw[bY,cW];constructor
 ·intro g;by_cases c:R i (lY i)=true
  ·exact h.all i j c hj
  ·let hm:i∈yE M R:=pZ.mpr #[hi,dY.mpr c];let⟨a,ha⟩:=lD hm;let d:(yE M R).getD a 0=i:=by rw[bW,ha];rfl
   let b:=(aC.mp ha).1;have :=g a (lX.mpr #[b,by rw[d];calc h.refl i hi]);have :=(lX.mp<|of_decide_eq_true this).2;rwa[d]at this
 ·intro g a ha;let⟨h1,h2⟩:=lX.mp ha;exact dA<|lX.mpr #[h1,h.trans _ _ _ h2 g]
end
abbrev In2(n:Nat)(p:Pr):Prop:=(0<=p.1/\p.1<(n:Int))/\0<=p.2/\p.2<(n:Int)
structure Clo(aE:List Rw)(aX:List xK)(X:Int->Int->Prop):Prop where
 same:∀n:Nat,n<2*aE.length->X n n
 low:∀n:Nat,n<2*aE.length->X 0 n
 high:∀n:Nat,n<2*aE.length->X n 1
 part:∀(k:Nat)(x y:Int),aE[k]?=some (.bo x y)->X ((2*k:Nat):Int) x/\X ((2*k:Nat):Int) y
 clash:∀i j:Nat,i<2*aE.length->j<2*aE.length->X i (sW i)->X i j
 both:∀(i k:Nat)(x y:Int),i<2*aE.length->aE[k]?=some (.bo x y)->X i x->X i y->X i ((2*k:Nat):Int)
 chain:∀i m j:Nat,i<2*aE.length->m<2*aE.length->j<2*aE.length->X i m->X m j->X i j
 turn:∀i j:Nat,i<2*aE.length->j<2*aE.length->X i j->X (sW j) (sW i)
 rule:∀q∈aX,(∀p∈q.1,X p.1 p.2)->X q.2.1 q.2.2
theorem BN{x:Int}(h:x∈uZ aE n):∃(k:Nat)(a b:Int),n=2*k/\aE[k]?=some (.bo a b)/\uZ aE n=[a,b]:=by
 unfold uZ at h⊢;by_cases h2:(n:Int) % 2=0
 ·rw[aL h2]at h⊢;let e:((n:Int)/2).toNat=n/2:=by lia
  rw[e]at h⊢;cases hr:aE[n/2]? with
  |none=>rw[hr]at h;cases h
  |some r=>
   rw[hr]at h;cases r with
   |no=>cases h
   |nm y=>cases h
   |bo a b=>exact#[n/2,a,b,(),hr,rfl]
 ·rw[aI h2]at h;cases h
theorem aj{ls:List Ln}{X:Int->Int->Prop}(c:Clo aE aX X)(h:MS aE aX ls):∀(k:Nat)(l:Ln),ls[k]?=some l->X l.i l.j:=by
 intro k
 induction k using Nat.strongRecOn with
 |ind k D=>
  intro l hl;let hs:=h.snd k l hl;let hr:=qW hs;let v:∀(a:Wt)(p:Pr),xC ls k a=some p->In2 (2*aE.length) p/\X p.1 p.2:=λa p hp=>by
   cases a with
   |ps _=>cases hp
   |n i=>
    by_cases hi:0<=i/\i<(k:Int)
    ·cases hq:ls[i.toNat]? with
     |none=>
      have :xC ls k (.n i)=none:=by
       show(if 0<=i/\i<(k:Int)then(ls[i.toNat]?).map λl=>(l.i,l.j)else none)=_;rw[aL hi,hq];rfl
      rw[this]at hp;cases hp
     |some l'=>
      rw[RZ hi hq]at hp;cases hp;let lL:=qW<|h.snd _ l' hq;exact#[#[#[lL.1.1,by have :=lL.1.2;show l'.i<_;lia],lL.2.1,by have :=lL.2.2;show l'.j<_;lia],D _ () l' hq]
    ·rw[SA hi]at hp;cases hp
  let⟨⟨r1,w⟩,y,A⟩:=hr;unfold yZ at hs;rw[aI (by rintro(z |z);calc z #[r1,w];calc z #[y,A])]at hs;split at hs
  ·unfold jY at hs;split at hs
   ·rename_i r ps _
    split at hs
    ·rename_i E
     split at hs
     ·rename_i q hq
      rw[cD,cP,cP]at hs;let g:l.i=q.2.1:=dE Prod.fst hs.1;let o:l.j=q.2.2:=dE Prod.snd hs.1;rw[g,o];refine c.rule q (aR hq) λp hp=>?_
      let hm:some p∈ps.map λp=>xC ls k (.n p):=by rw[hs.2];exact bV.mpr #[p,hp,rfl]
      let⟨x,_,hx⟩:=bV.mp hm;exact(v _ p hx).2
     ·cases hs
    ·cases hs
   ·cases hs
  ·split at hs
   ·let d:∀p∈l.as.filterMap (xC ls k),In2 (2*aE.length) p/\X p.1 p.2:=λp hp=>by
     let⟨a,_,ha⟩:=eD.mp hp;exact v a p ha
    generalize l.as.filterMap (xC ls k)=ps at hs d;obtain⟨i,hi⟩:∃i:Nat,l.i=(i:Int):=dZ r1;obtain⟨j,F⟩:∃j:Nat,l.j=(j:Int):=dZ y;rw[hi]at w hs⊢;rw[F]at A hs⊢;let f:i<2*aE.length:=by lia
    let s:j<2*aE.length:=by lia
    unfold yO at hs;split at hs
    ·rw[cP]at hs;rw[←hs];exact c.same i f
    split at hs
    ·rw[oQ,cP,cP]at hs;rcases hs with e |e
     ·rw[e];exact c.low j s
     ·rw[e];exact c.high i f
    split at hs
    ·rw[dO]at hs;let⟨x,hx,e⟩:=hs;rw[cP]at e;let⟨m,a,b,g,o,t⟩:=BN hx;rw[t]at hx;have :=c.part m a b o;rw[g,←e];simp only[bG,gJ,or_false]at hx;rcases hx with rfl |rfl
     ·exact this.1
     ·exact this.2
    split at hs
    ·split at hs
     ·rename_i a b hp
      rw[cP]at hs;let⟨m,G,H,g,o,t⟩:=BN (show a∈uZ aE j by rw[hp];calc bD);rw[hp]at t;cases t;let x1:=(d (i,a) (by rw[hs];simp)).2;let x2:=(d (i,b) (by rw[hs];simp)).2;rw[g];exact c.both i m a b f o x1 x2
     ·cases hs
    split at hs
    ·rw[cP]at hs;let x1:=(d (sW j,sW i) (by rw[hs];simp)).2;rw[jW,jW]at x1;have :=c.turn (lY j) (lY i) (YY s) (YY f) x1;rw[jW,jW,vT,vT]at this;exact this
    split at hs
    ·split at hs
     ·rename_i p q
      rw[cD,cD,cP,cP,cP]at hs;let⟨B,p2⟩:=d p (by simp);let⟨I,C⟩:=d q (by simp);obtain⟨m,hm⟩:∃m:Nat,p.2=(m:Int):=dZ B.2.1;let u:=B.2.2;rw[hm]at u;rw[hs.1.1,hm]at p2;rw[←hs.1.2,hs.2,hm]at C;exact c.chain i m j f () s p2 C
     ·cases hs
    ·rw[cP]at hs;exact c.clash i j f s (d (i,sW i) (by rw[hs];simp)).2
   ·cases hs
def pp(m:Nat)(ps:List (Nat×Nat))(A:Nat->Prop)(a:Nat):Prop:=a<m/\∀b,A b->uQ ps b a=true
structure Fw(m:Nat)(ps:List (Nat×Nat))(S:Str->List Nat):Prop where
 irr:∀a,uQ ps a a=false
 full:∀x a,a∈S x↔a∈cnt m ps (cnt m ps<|S x)
theorem ax{m:Nat}{ps:List (Nat×Nat)}(h:Ok2 m ps)(a:Nat):uQ ps a a=false:=by
 rw[dY];intro z;unfold uQ at z;let⟨p,hp,e⟩:=dO.mp z;have :=(h p hp).1;simp only[oQ,cD,cP]at e;lia
theorem oV{m:Nat}{ps:List (Nat×Nat)}{v:List Nat}{a:Nat}:a∈cnt m ps v↔pp m ps (· ∈v) a:=by
 rw[tO,cW];rfl
theorem xU{m:Nat}{ps:List (Nat×Nat)}{A B:Nat->Prop}(h:∀a,A a↔B a)(a:Nat):pp m ps A a↔pp m ps B a:=by
 unfold pp;exact and_congr_right λ_=>forall_congr' λb=>by rw[h b]
def AY(S:Str->List Nat)(U:Nat->Nat->Prop):Rw->Nat->Prop
 | .no,_=>False
 | .nm x,a=>a∈S x
 | .bo i j,a=>U i.toNat a/\U j.toNat a
structure Vw(m:Nat)(ps:List (Nat×Nat))(S:Str->List Nat)(aE:List Rw)(U:Nat->Nat->Prop):Prop where
 row:∀(k:Nat)(r:Rw),aE[k]?=some r->∀a,U (2*k) a↔AY S U r a
 odd:∀k,k<aE.length->∀a,U (2*k+1) a↔pp m ps (U<|2*k) a
section
variable {m:Nat} {ps:List (Nat×Nat)} {S:Str->List Nat}
theorem FS{V:Nat->Nat->Prop}(hr:RowB r (2*(n:Int)))(h:∀k,k<2*n->∀a,U k a↔V k a)(a:Nat):AY S U r a↔AY S V r a:=by
 cases r with
 |no=>exact Iff.rfl
 |nm x=>exact Iff.rfl
 |bo i j=>
  let⟨⟨h1,h2⟩,b,c⟩:=hr i j rfl;exact and_congr (h _ () a)<|h _ () a
theorem vw_ex(hin:qH aE):∃U,Vw m ps S aE U:=by
 let go:∀k,k<=aE.length->∃U:Nat->Nat->Prop,(∀(j:Nat)(r:Rw),j<k->aE[j]?=some r->∀a,U (2*j) a↔AY S U r a)/\∀j,j<k->∀a,U (2*j+1) a↔pp m ps (U<|2*j) a:=by
  intro k
  induction k with
  |zero=>exact λ_=>#[λ_ _=>False,λj r h=>absurd h (),λj h=>absurd h ()]
  |succ k f=>
   intro hk;let⟨U,h1,h2⟩:=f ();let d:aE[k]?=some aE[k]:=aA ();generalize aE[k]=r at d;let low:∀n,n<2*k->∀a,(if n<2*k then U n a else if n=2*k then AY S U r a else pp m ps (AY S U r) a)↔U n a:=λn hn a=>by rw[aL hn]
   let g:∀(j:Nat)(q:Rw),aE[j]?=some q->RowB q (2*(j:Int)):=λj q hq i l e=>by subst e;exact hin j i l hq
   refine#[λn a=>if n<2*k then U n a else if n=2*k then AY S U r a else pp m ps (AY S U r) a,λj q o hq a=>?_,λj o a=>?_]
   ·rw[FS (V:=U) (g j q hq) λn hn a=>low n () a];by_cases c:j<k
    ·show(if 2*j<2*k then _ else _)↔_;rw[aL ()];exact h1 j q c hq a
    ·let e:j=k:=by lia
     subst e;rw[d]at hq;cases hq;show(if 2*j<2*j then _ else if 2*j=2*j then _ else _)↔_;rw[aI (),aL rfl]
   ·by_cases c:j<k
    ·show(if 2*j+1<2*k then _ else _)↔pp m ps (λa=>if 2*j<2*k then _ else _) a;rw[aL ()];calc(h2 j c a).trans (xU (λb=>?_) a);rw[aL ()]
    ·let e:j=k:=by lia
     subst e;show(if 2*j+1<2*j then _ else if 2*j+1=2*j then _ else _)↔pp m ps (λa=>if 2*j<2*j then _ else if 2*j=2*j then _ else _) a;rw[aI (),aI ()];calc xU (λb=>?_) a;rw[aI (),aL rfl]
 let⟨U,h1,h2⟩:=go aE.length<|aG _;exact#[U,λk r hr=>h1 k r (aC.mp hr).1 hr,h2]
theorem Vw.turn(f:Fw m ps S)(v:Vw m ps S aE U)(hin:qH aE):∀n,n<2*aE.length->∀a,U (pT n) a↔pp m ps (U n) a:=by
 intro n
 induction n using Nat.strongRecOn with
 |ind n l=>
  intro hn a;let hk:n/2<aE.length:=by lia
  by_cases c:n % 2=0
  ·let g:pT n=2*(n/2)+1:=by unfold pT;lia
   let h:n=2*(n/2):=by lia
   rw[g,v.odd _ hk];rw[←h]
  ·let g:pT n=2*(n/2):=by unfold pT;lia
   let h:n=2*(n/2)+1:=by lia
   rw[g];let hr:aE[n/2]?=some aE[n/2]:=aA hk;generalize aE[n/2]=r at hr;let o:∀b,U n b↔pp m ps (U<|2*(n/2)) b:=λb=>by
    have :=v.odd _ hk b;rwa[←h]at this
   rw[xU o];let d:=v.row _ r hr;cases r with
   |no=>
    calc#[λz=>((d a).mp z).elim,λz=>?_];have :=z.2 a #[z.1,λb hb=>((d b).mp hb).elim];rw[f.irr]at this;cases this
   |nm x=>
    rw[d a];calc(f.full x a).trans ?_;rw[oV];exact xU (λb=>oV.trans<|xU (λc=>(d c).symm) b) a
   |bo i j=>
    let⟨⟨b1,b2⟩,p,s⟩:=hin _ i j hr;let k:∀q:Int,0<=q->q<2*((n/2:Nat):Int)->∀b,U q.toNat b↔pp m ps (pp m ps<|U q.toNat) b:=λq h0 h1 b=>by
     let t:q.toNat<n:=by lia
     let u:pT q.toNat<n:=by unfold pT;lia
     let e:=l _ u () b;rw[show pT (pT q.toNat)=q.toNat by unfold pT;lia]at e;exact e.trans (xU (λc=>l _ t () c) b)
    rw[d a];constructor
    ·rintro⟨e,w⟩;calc#[((k i b1 b2 a).mp e).1,λb hb=>?_];rw[OU];exact hb.2 a<|(d a).mpr #[e,w]
    ·intro z;refine#[(k i b1 b2 a).mpr #[z.1,λb hb=>z.2 b #[hb.1,λc hc=>hb.2 c ((d c).mp hc).1]],(k j p s a).mpr #[z.1,λb hb=>z.2 b #[hb.1,λc hc=>hb.2 c ((d c).mp hc).2]]]
theorem Vw.lt(f:Fw m ps S)(v:Vw m ps S aE U)(hin:qH aE){a:Nat}(hn:n<2*aE.length)(h:U n a):a<m:=by
 have :=v.turn f hin (pT n) (by unfold pT;lia) a;rw[show pT (pT n)=n by unfold pT;lia]at this;exact(this.mp h).1
theorem FT{k:Nat}(h:pQ aE r=some k):aE[k]?=some r:=by
 unfold pQ at h;let⟨hk,e,_⟩:=gS.mp h;rw[aA hk,(VT _ _).mp e]
theorem MH{a:Nat}:a∈cmn m vs↔a<m/\∀v∈vs,a∈v:=by
 unfold cmn;rw[bM,bL,cW];exact and_congr_right λ_=>forall_congr' λv=>forall_congr' λ_=>decide_eq_true_iff
def NV(m:Nat)(ps:List (Nat×Nat))(S:Str->List Nat)(aE:List Rw)(U:Nat->Nat->Prop)(t:Tm):Prop:=∀n,num aE t=some n->n<2*aE.length/\∀a,a∈val m ps S t↔U n a
def tv(m:Nat)(ps:List (Nat×Nat))(e:Bool)(v:List Nat)(a:Nat):Prop:=if e then a∈cnt m ps v else a∈v
theorem l7(f:Fw m ps S)(v:Vw m ps S aE U)(hin:qH aE){e:Bool}{w:List Nat}(hn:n<2*aE.length)(h:∀a,a∈w↔U n a)(a:Nat):U (lZ e n) a↔tv m ps e w a:=by
 unfold tv lZ;cases e with
 |false=>rw[aI (),aI ()];exact(h a).symm
 |true=>rw[aL rfl,aL rfl,v.turn f hin n hn,oV];exact xU (λb=>(h b).symm) a
theorem CL(f:Fw m ps S)(v:Vw m ps S aE U)(hin:qH aE)(e:Bool):∀(ts:List Tm)(m0 n:Nat)(A:Nat->Prop),(∀t∈ts,NV m ps S aE U t)->uO aE e m0 ts=some n->m0<2*aE.length->(∀a,U m0 a↔A a)->n<2*aE.length/\∀a,U n a↔A a/\∀t∈ts,tv m ps e (val m ps S t) a
 |[],m0,n,A,_,h,hm,b=>by
  rw[uO]at h;cases h;exact#[hm,λa=>(b a).trans #[λz=>#[z,λt ht=>by cases ht],And.left]]
 |t::ts,m0,n,A,c,h,hm,b=>by
  rw[uO]at h;let⟨d,g,h⟩:=cZ.mp h;let⟨k,i,h⟩:=cZ.mp h;let⟨j,l⟩:=c t bD d g;let hk:=FT i;let o:=(aC.mp hk).1;let⟨p,q⟩:=CL f v hin e ts (2*k) n (λa=>A a/\tv m ps e (val m ps S t) a) (λt ht=>c t<|bB _ ht) h () (λa=>by
   rw[v.row k _ hk a];show U (m0:Int).toNat a/\U ((lZ e d:Nat):Int).toNat a↔_;rw[bS,bS,b a,l7 f v hin j l])
  calc#[p,λa=>(q a).trans ?_];rw[and_assoc];refine and_congr_right λ_=>#[λz t' ht'=>?_,λz=>#[z t bD,λt' ht'=>z t'<|bB _ ht']]
  rcases bG.mp ht' with rfl |ht'
  ·exact z.1
  ·exact z.2 t' ht'
theorem XS(f:Fw m ps S)(v:Vw m ps S aE U)(hin:qH aE)(e:Bool)(ih:∀t∈ts,NV m ps S aE U t)(h:uH aE e ts=some n):n<2*aE.length/\∀a,U n a↔∀t∈ts,tv m ps e (val m ps S t) a:=by
 cases ts with
 |nil=>rw[uH]at h;cases h
 |cons t ts=>
  rw[uH]at h;let⟨c,d,h⟩:=cZ.mp h;let⟨b,g⟩:=ih t bD c d;let⟨i,j⟩:=CL f v hin e ts _ n _ (λt ht=>ih t<|bB _ ht) h (UF b)<|l7 f v hin b g;calc#[i,λa=>(j a).trans #[λz t' ht'=>?_,λz=>#[z t bD,λt' ht'=>z t'<|bB _ ht']]];rcases bG.mp ht' with rfl |ht'
  ·exact z.1
  ·exact z.2 t' ht'
theorem ja(f:Fw m ps S)(v:Vw m ps S aE U)(hin:qH aE)(h0:aE[0]?=some .no):∀(d:Nat)(t:Tm),EN d t->NV m ps S aE U t:=by
 let hl:0<aE.length:=(aC.mp h0).1;let q:∀a,¬U 0 a:=λa z=>((v.row 0 _ h0 a).mp z).elim
 intro d
 induction d with
 |zero=>exact λt h=>h.elim
 |succ d s=>
  intro t ht n hn;cases t with
  |name x=>
   rw[num]at hn;let⟨k,hk,rfl⟩:=aM.mp hn;let l:=FT hk;have :=(aC.mp l).1;calc#[(),λa=>?_];rw[v.row k _ l a,val];exact Iff.rfl
  |node w ts=>
   let⟨hs,o⟩:=ht.node;let c:∀t∈ts,NV m ps S aE U t:=λt h=>s t<|o t h
   let y:∀{u:List Nat}{a:Nat},(∀t∈ts,val m ps S t=u->True)->True:=λ_=>trivial
   rw[num]at hn;let cases5:=hs;rcases hs with⟨e,hz⟩ |⟨e,hz⟩ |⟨e,hz⟩ |⟨e,hz⟩ |⟨e,hz⟩
   ·subst e;rw[aL rfl]at hn;cases hn;calc#[(),λa=>?_];rw[val,qU,aL rfl];exact#[λz=>(nomatch z),λz=>(q a z).elim]
   ·subst e;rw[aI (),aL rfl]at hn;cases hn;calc#[(),λa=>?_];rw[val,qU,aI (),aL rfl,bL,v.odd 0 hl a];exact#[λz=>#[z,λb hb=>(q b hb).elim],λz=>z.1]
   ·subst e;rw[aI (),aI (),aL rfl]at hn;let⟨g,h1,rfl⟩:=aM.mp hn;let⟨i,j⟩:=XS f v hin false c h1;obtain⟨t,rfl⟩:∃t,ts=[t]:=by
     cases ts with
     |nil=>simp at hz
     |cons t r=>
      cases r with
      |nil=>exact#[t,rfl]
      |cons _ _=>simp at hz
    calc#[by unfold pT;lia,λa=>?_];rw[val,qU,aI (),aI (),aL rfl,uR,v.turn f hin g i];show a∈cnt m ps (val m ps S t)↔_;rw[oV];calc xU (λb=>?_) a;rw[j b];exact#[λz t' ht'=>by cases aS.mp ht';exact z,λz=>z t bD]
   ·subst e;rw[aI (),aI (),aI (),show decide (("both":Str)="either")=false from cJ ()]at hn;let⟨g,h1,rfl⟩:=aM.mp hn;let⟨i,j⟩:=XS f v hin false c h1;calc#[i,λa=>?_];rw[val,qU,aI (),aI (),aI (),aL rfl,uR,MH];show _↔U g a;constructor
    ·rintro⟨_,z⟩;exact(j a).mpr λt ht=>z _<|bV.mpr #[t,ht,rfl]
    ·intro z;calc#[v.lt f hin i z,λu p=>?_];let⟨t,ht,rfl⟩:=bV.mp p;exact(j a).mp z t ht
   ·subst e;rw[aI (),aI (),aI (),show decide (("either":Str)="either")=true from dA rfl]at hn;let⟨g,h1,rfl⟩:=aM.mp hn;let⟨i,j⟩:=XS f v hin true c h1;calc#[by show pT g<_;unfold pT;lia,λa=>?_];rw[val,qU,aI (),aI (),aI (),aI (),uR,oV];show _↔U (pT g) a;rw[v.turn f hin g i];calc xU (λb=>?_) a;rw[MH,dX];constructor
    ·rintro⟨_,z⟩;exact(j b).mpr λt ht=>z _<|bV.mpr #[t,ht,rfl]
    ·intro z;calc#[v.lt f hin i z,λu p=>?_];let⟨t,ht,rfl⟩:=bV.mp p;exact(j b).mp z t ht
end
theorem KB(h:aE.Nodup):(xF aE r).1.Nodup:=by
 unfold xF;split
 ·exact h
 ·rename_i hn
  calc mS.mpr #[h,by simp,λa ha b hb e=>?_];rw[aS.mp hb]at e;subst e;unfold pQ at hn;have :=List.findIdx?_eq_none_iff.mp hn a ha;rw[xE]at this;cases this
mutual
theorem HW:∀(t:Tm)(aE:List Rw),aE.Nodup->(eV t aE).1.Nodup
 | .name x,aE,h=>by rw[eV];exact KB h
 | .node w ts,aE,h=>by
   rw[eV];split
   ·exact h
   ·split
    ·exact h
    ·split
     ·exact MK _ ts aE h
     ·exact MK _ ts aE h
theorem MK(e:Bool):∀(ts:List Tm)(aE:List Rw),aE.Nodup->(jA e ts aE).1.Nodup
 |[],aE,h=>by rw[jA];exact h
 |t::ts,aE,h=>by
  rw[jA];exact MJ e ts _ _<|HW t aE h
theorem MJ(e:Bool):∀(ts:List Tm)(aE:List Rw)(m:Nat),aE.Nodup->(xT e ts aE m).1.Nodup
 |[],aE,m,h=>by rw[xT];exact h
 |t::ts,aE,m,h=>by
  rw[xT];exact MJ e ts _ _<|KB<|HW t aE h
end
mutual
theorem VC:∀(t:Tm)(aE:List Rw)(n:Nat),num aE t=some n->eV t aE=(aE,n)
 | .name x,aE,n,h=>by
   rw[num]at h;let⟨k,hk,rfl⟩:=aM.mp h;rw[eV,xF,hk]
 | .node w ts,aE,n,h=>by
   rw[num]at h;rw[eV];split at h
   ·rename_i c;rw[aL c];cases h;rfl
   ·rename_i c
    rw[aI c];split at h
    ·rename_i c;rw[aL c];cases h;rfl
    ·rename_i c
     rw[aI c];split at h
     ·rename_i c
      rw[aL c];let⟨k,hk,rfl⟩:=aM.mp h;rw[CO _ ts aE k hk]
     ·rename_i c
      rw[aI c];let⟨k,hk,rfl⟩:=aM.mp h;rw[CO _ ts aE k hk]
theorem CO(e:Bool):∀(ts:List Tm)(aE:List Rw)(n:Nat),uH aE e ts=some n->jA e ts aE=(aE,n)
 |[],aE,n,h=>by rw[uH]at h;cases h
 |t::ts,aE,n,h=>by
  rw[uH]at h;let⟨k,hk,h⟩:=cZ.mp h;rw[jA,VC t aE k hk];exact CM e ts aE _ n h
theorem CM(e:Bool):∀(ts:List Tm)(aE:List Rw)(m n:Nat),uO aE e m ts=some n->xT e ts aE m=(aE,n)
 |[],aE,m,n,h=>by rw[uO]at h;cases h;rw[xT]
 |t::ts,aE,m,n,h=>by
  rw[uO]at h;let⟨k,hk,h⟩:=cZ.mp h;let⟨q,hq,h⟩:=cZ.mp h;rw[xT,VC t aE k hk];show xT e ts (xF aE<|.bo (m:Int) (lZ e k:Nat)).1 (xF aE<|.bo (m:Int) (lZ e k:Nat)).2=_;rw[xF,hq];exact CM e ts aE _ n h
end
theorem DY:∀(ts:List Tm)(aE:List Rw),(∀t∈ts,iJ 20 t)->sI aE->aE.Nodup->sI (qT ts aE)/\(qT ts aE).Nodup
 |[],aE,_,h1,h2=>#[h1,h2]
 |t::ts,aE,hf,h1,h2=>by
  rw[qT];exact DY ts _ (λt ht=>hf t<|bB _ ht) (WC t 20 aE (hf t bD) h1).1 (HW t aE h2)
theorem DZ:∀(ts:List Tm)(aE:List Rw),(∀t∈ts,iJ 20 t)->∀t∈ts,∃n,num (qT ts aE) t=some n
 |[],_,_,t,h=>by cases h
 |t0::ts,aE,hf,t,h=>by
  rw[qT];rcases bG.mp h with rfl |h
  ·let⟨xs,hx⟩:=JM ts (eV t aE).1;rw[hx];exact#[_,vW _ _ _ _<|kR t 20 aE<|hf t bD]
  ·exact DZ ts _ (λt ht=>hf t<|bB _ ht) t h
theorem v9{t:Tm}(hf:iJ 20 t)(h:∃n,num aE t=some n):ln aE t:=by
 let⟨n,hn⟩:=h;exact#[hf,by rw[VC t aE n hn]]
theorem ln.num{t:Tm}(h:ln aE t):num aE t=some (eV t aE).2:=by
 have :=kR t 20 aE h.1;rwa[h.2]at this
def Hs(m:Nat)(ps:List (Nat×Nat))(S:Str->List Nat)(s:Tm×Tm):Prop:=∀a,a∈val m ps S s.1->a∈val m ps S s.2
def Hr(m:Nat)(ps:List (Nat×Nat))(S:Str->List Nat)(r:lK):Prop:=(∀s∈r.1,Hs m ps S s)->Hs m ps S r.2
section
variable {m:Nat} {ps:List (Nat×Nat)} {S:Str->List Nat} {book:List lK} {ls:List Ln}
theorem ln.val(f:Fw m ps S)(v:Vw m ps S aE U)(hs:sI aE){t:Tm}(h:ln aE t):(eV t aE).2<2*aE.length/\∀a,a∈val m ps S t↔U (eV t aE).2 a:=ja f v hs.in_ hs.hd 21 t h.1 _ h.num
theorem dw.hs(f:Fw m ps S)(v:Vw m ps S aE U)(hs:sI aE)(h:dw aE s):Hs m ps S s↔∀a,U (eV s.1 aE).2 a->U (eV s.2 aE).2 a:=by
 unfold Hs;exact forall_congr' λa=>by rw[(h.1.val f v hs).2 a,(h.2.val f v hs).2 a]
theorem IP(n:Nat):sW (n:Int)=((pT n:Nat):Int):=by unfold sW pT;lia
theorem ww(f:Fw m ps S)(v:Vw m ps S aE U)(hs:sI aE)(hg:∀r∈book,xz aE r)(hr:∀r∈book,Hr m ps S r):Clo aE (book.map<|nR aE) (λi j=>∀a,U i.toNat a->U j.toNat a):=by
 let tn:=v.turn f hs.in_;let hl:=hs.pos;let e:∀a,¬U 0 a:=λa z=>((v.row 0 _ hs.hd a).mp z).elim
 let bo:∀{k:Nat}{x y:Int},aE[k]?=some (.bo x y)->∀a,U (2*k) a↔U x.toNat a/\U y.toNat a:=λh a=>v.row _ _ h a
 refine#[λn hn a h=>h,λn hn a h=>(e a h).elim,λn hn a h=>?_,λk x y h=>?_,λi j hi g h a ha=>?_,λi k x y hi h h1 h2 a ha=>?_,λi n j _ _ _ h1 h2 a ha=>h2 a<|h1 a ha,λi j hi g h a ha=>?_,λq hq h=>?_]
 ·show U 1 a;exact(v.odd 0 hl a).mpr #[v.lt f hs.in_ hn (by simpa using h),λb hb=>(e b hb).elim]
 ·constructor<;>intro a ha
  all_goals
   rw[bS]at ha
  ·exact((bo h a).mp ha).1
  ·exact((bo h a).mp ha).2
 ·have :=h a ha;rw[IP,bS]at this;let d:U i a:=by simpa using ha
  have :=((tn i hi a).mp this).2 a d;rw[f.irr]at this;cases this
 ·rw[bS];exact(bo h a).mpr #[h1 a ha,h2 a ha]
 ·rw[IP,bS]at ha⊢;have :=(tn j g a).mp ha;exact(tn i hi a).mpr #[this.1,λb hb=>this.2 b (by simpa using h b (by simpa using hb))]
 ·let⟨r,nG,rfl⟩:=bV.mp hq;let⟨_,l,o⟩:=hg r nG;have :=(o.hs f v hs).mp (hr r nG λs c=>(l s c |>.hs f v hs).mpr λa ha=>by
   have :=h (nS aE s) (bV.mpr #[s,c,rfl]) a (by show U ((eV s.1 aE).2:Int).toNat a;simpa using ha);let this:U ((eV s.2 aE).2:Int).toNat a:=this;simpa using this)
  intro a ha;let ha:U ((eV r.2.1 aE).2:Int).toNat a:=ha;show U ((eV r.2.2 aE).2:Int).toNat a;rw[bS]at ha⊢;exact this a ha
theorem sound(f:Fw m ps S)(hs:sI aE)(hg:∀r∈book,xz aE r)(hr:∀r∈book,Hr m ps S r)(gk:MS aE (book.map<|nR aE) ls)(g:dw aE s)(h:zK ls (nS aE s).1 (nS aE s).2=true):Hs m ps S s:=by
 let⟨U,v⟩:=vw_ex (m:=m) (ps:=ps) (S:=S) hs.in_;let⟨p,l,h1,h2,b⟩:=fK.mp h;have :=aj (ww f v hs hg hr) gk p l h1;rw[h2,b]at this;refine(g.hs f v hs).mpr λa ha=>?_
 have :=this a (by show U ((eV s.1 aE).2:Int).toNat a;simpa using ha);let this:U ((eV s.2 aE).2:Int).toNat a:=this;simpa using this
end
noncomputable def cq(aE:List Rw)(R:Nat->Nat->Bool)(x:Str):List Nat:=match pQ aE (.nm x)with
 |some k=>xZ (yE (2*aE.length) R) R<|2*k
 |none=>[]
section
variable {book:List lK} {ls:List Ln}
theorem JD(hs:sI aE)(hp:Pl aE (2*aE.length) aE.length ls)(hc:Cl aE aX ls.length ls):Fw (yE (2*aE.length)<|rl ls).length (wQ (yE (2*aE.length)<|rl ls)<|rl ls) (cq aE<|rl ls):=by
 let h:=Rl.of hp hc;calc#[ax<|HS _,λx a=>?_];unfold cq;cases c:pQ aE (.nm x)with
 |some k=>
  have :=SG c;rw[bt h ()]
 |none=>
  calc#[λz=>(nomatch z),λz=>?_];rw[oV]at z;have :=z.2 a (oV.mpr #[z.1,λb hb=>(nomatch hb)]);rw[ax<|HS _]at this;cases this
theorem UD(hs:sI aE)(lO:aE.Nodup)(hp:Pl aE (2*aE.length) aE.length ls)(hc:Cl aE aX ls.length ls):Vw (yE (2*aE.length)<|rl ls).length (wQ (yE (2*aE.length)<|rl ls)<|rl ls) (cq aE<|rl ls) aE (λn a=>a∈xZ (yE (2*aE.length)<|rl ls) (rl ls) n):=by
 let h:=Rl.of hp hc;refine#[λk r hr a=>?_,λk hk a=>?_]
 ·let c:=(aC.mp hr).1;cases r with
  |no=>
   let e:=hs.few k hr;subst e;show a∈xZ _ _ 0↔False;rw[RA h hp.low];exact#[λz=>(nomatch z),False.elim]
  |nm x=>
   show _↔a∈cq aE (rl ls) x;let e:pQ aE (.nm x)=some k:=by
    unfold pQ;refine gS.mpr #[c,?_,λj w=>?_]
    ·rw[(aC.mp hr).2];exact xE _
    ·intro z;let z:=(VT _ _).mp z;let g:=(aC.mp hr).2;rw[←g]at z;exact absurd ((rP lO).mp z) ()
   unfold cq;rw[e]
  |bo i j=>
   let⟨⟨b1,b2⟩,m,y⟩:=hs.in_ k i j hr;let⟨o,p2⟩:=hp.part k i j c hr;let hb:∀x,rl ls x i.toNat=true->rl ls x j.toNat=true->rl ls x (2*k)=true:=λx h1 h2=>by
    let⟨a,l,d,p,q⟩:=fK.mp h1;let⟨b,l',f,s,t⟩:=fK.mp h2;exact hc.both a b l l' x k i j (aC.mp d).1 (aC.mp f).1 d f p (by rw[q];lia) s (by rw[t];lia) hr
   let u:rl ls (2*k) i.toNat=true:=by unfold rl;rw[Int.toNat_of_nonneg b1];exact o
   let v:rl ls (2*k) j.toNat=true:=by unfold rl;rw[Int.toNat_of_nonneg m];exact p2
   have :=RC (sp:=yE (2*aE.length)<|rl ls) h u v hb;show a∈xZ _ _ (2*k)↔a∈xZ _ _ i.toNat/\a∈xZ _ _ j.toNat;rw[←this,bM,bH]
 ·show a∈xZ _ _ (2*k+1)↔_;have :=VY h (n:=2*k) ();rw[show lY (2*k)=2*k+1 by unfold lY;lia]at this;rw[←this,oV]
theorem HI(hs:sI aE)(lO:aE.Nodup)(hp:Pl aE (2*aE.length) aE.length ls)(hc:Cl aE aX ls.length ls)(g:dw aE s):Hs (yE (2*aE.length)<|rl ls).length (wQ (yE (2*aE.length)<|rl ls)<|rl ls) (cq aE<|rl ls) s↔zK ls (nS aE s).1 (nS aE s).2=true:=by
 let f:=JD hs hp hc;let v:=UD hs lO hp hc;rw[g.hs f v hs];have :=MU (Rl.of hp hc) (g.1.val f v hs).1 (g.2.val f v hs).1;show _↔rl ls (eV s.1 aE).2 (eV s.2 aE).2=true;rw[←this,cW];exact forall_congr' λa=>forall_congr' λ_=>decide_eq_true_iff.symm
theorem vy(hs:sI aE)(lO:aE.Nodup)(hp:Pl aE (2*aE.length) aE.length ls)(hc:Cl aE (book.map<|nR aE) ls.length ls)(hg:∀r∈book,xz aE r):∀r∈book,Hr (yE (2*aE.length)<|rl ls).length (wQ (yE (2*aE.length)<|rl ls)<|rl ls) (cq aE<|rl ls) r:=λr hr h=>by
 let⟨_,g,c⟩:=hg r hr;let f:=JD hs hp hc;let v:=UD hs lO hp hc;calc(HI hs lO hp hc c).mpr ?_;let⟨k,hk⟩:=lD (bV.mpr #[r,hr,rfl]:nR aE r∈book.map (nR aE));let m:=(c.1.val f v hs).1;let n:=(c.2.val f v hs).1;refine hc.rule k (nR aE r) hk #[#[ES _,?_],ES _,?_] λp d=>?_
 ·show((eV r.2.1 aE).2:Int)<_;lia
 ·show((eV r.2.2 aE).2:Int)<_;lia
 ·let⟨s,b,rfl⟩:=bV.mp d;let⟨a,l,e,i,j⟩:=fK.mp<|(HI hs lO hp hc<|g s b).mp (h s b);exact#[a,l,(aC.mp e).1,e,i,j]
end
theorem WW{x:Str}{n:Int}(h:QL x=some n):n<=2:=by
 unfold QL at h
 repeat' split at h
 all_goals first |(cases h;done) |(cases h;lia)
theorem rn(ls:List Ln)(k:Nat)(p:Int):xC ls k (.n p)=if 0<=p/\p<(k:Int)then(ls[p.toNat]?).map λl=>(l.i,l.j)else none:=rfl
theorem QD{ls:List Ln}{k:Nat}{p:Int}(h:(xC ls k<|.n p).isSome=true):0<=p/\p<(k:Int):=by
 by_cases c:0<=p/\p<(k:Int)
 ·exact c
 ·rw[rn,aI c]at h;cases h
theorem o0{ls:List Ln}{k:Nat}:∀{as:List Wt},(as.all λa=>(xC ls k a).isSome)=true->∃ns:List Int,as=ns.map .n/\∀p∈ns,0<=p/\p<(k:Int)
 |[],_=>#[[],rfl,λp z=>by cases z]
 |a::as,h=>by
  rw[List.all_cons,cD]at h;let⟨ns,e,hn⟩:=o0 h.2;cases a with
  |n i=>exact#[i::ns,by rw[e];rfl,λp hp=>by
     rcases bG.mp hp with rfl |hp
     ·exact QD h.1
     ·calc hn p hp]
  |ps q=>exact absurd h.1 (by simp[xC])
theorem fc{ls:List Ln}{k:Nat}(h:yZ aE aX ls k l=true)(hr:∀r∈aX,r.1.length<=100):GL k l.w l.as:=by
 unfold yZ at h;split at h
 ·cases h
 split at h
 ·next a=>
  unfold jY at h;split at h
  ·next r ps e=>
   split at h
   ·split at h
    ·next q hq=>
     rw[cD]at h;let h2:(ps.map λp=>xC ls k<|.n p)=q.1.map some:=by simpa using h.2
     let eR:ps.length=q.1.length:=by
      have :=dE List.length h2;simpa using this
     let b:=hr q<|aR hq;rw[a,e];refine glR k r ps () λp hp=>?_
     let hm:xC ls k (.n p)∈q.1.map some:=by
      rw[←h2];exact bV.mpr #[p,hp,rfl]
     let⟨y,_,c⟩:=bV.mp hm;exact QD (by rw[←c];rfl)
    ·cases h
   ·cases h
  ·cases h
 ·next a=>
  split at h
  ·next hc=>
   let⟨ns,e,hn⟩:=o0 hc.2;have :=WW hc.1;rw[e];rw[e,aD]at this;exact glN k l.w a ns () hn
  ·cases h
theorem JN{ls:List Ln}(h:MS aE aX ls)(hr:∀r∈aX,r.1.length<=100):wH ls:=λk l hl=>fc (h.snd k l hl) hr
theorem qB{ns:List Str}{js:List Nat}{g:TG}{tc:TT}{te:TE}{σ:St}{Q:VK}(Pv:Nat->List V->St->Hp->Prop)(h0:Pv 0 [] (XY ns js σ) H)(hz:xs.length<=sizeLine)(hl:∀i ys σ H,Pv i ys σ H->ys.length<=i)
 (hK:∀i ys σ H,Pv i ys σ H->cX K H a xs)
 (hs:∀(i:Nat) x ys σ H (C:V->St->Hp->Prop) (D:St->Hp->Prop),xs[i]?=some x->Pv i ys σ H->(∀y σ2 H3,Pv (i+1) (ys++[y]) σ2 H3->C y σ2 H3)->(∀σ2 H3,Pv (i+1) ys σ2 H3->D σ2 H3)->
  g x σ H λσ2 H2=>tc σ2 H2 λb H3=>if b=true then te σ2 H3 λy H4=>C y σ2 H4 else D σ2 H3)
 (hd:∀ys σ H,Pv xs.length ys σ H->∀p,H p=none->Q (.ref p) (upd H p<|.lst ys)):
 PN (cw K a) ns js g (some tc) te σ H Q:=by
 calc#[λi m ys σ H=>m=xs.length-i/\i<=xs.length/\Pv i ys σ H,#[xs.length,(),bZ _,h0],λi m ys σ1 H1 z=>?_];let⟨hm,hi,hp⟩:=z;by_cases h:i<xs.length
 ·refine .inr #[#[xs,xs[i],hK i ys σ1 H1 hp,aA h],?_,λx H' ⟨e,hx⟩=>?_]
  ·have :=hl i ys σ1 H1 hp;lia
  ·subst e;exact hs i x ys σ1 _ _ _ (hx xs<|hK i ys σ1 _ hp) hp (λy σ2 H3 q=>#[xs.length-(i+1),(),rfl,(),q]) λσ2 H3 q=>#[xs.length-(i+1),(),rfl,(),q]
 ·let e:i=xs.length:=by lia
  subst e;exact .inl #[#[xs,hK _ ys σ1 H1 hp,aG _],hd ys σ1 H1 hp]
theorem GU(xs:List Nat)(a:Nat):((xs.map λ(x:Nat)=>Dt.int (x:Int)).any λe=>mI e<|.int (a:Int))=decide (a∈xs):=by
 rw[bY,dO,bH];constructor
 ·rintro⟨d,hd,h⟩;let⟨x,hx,rfl⟩:=bV.mp hd;have :(x:Int)=(a:Int):=by simpa[mI]using h
  rw[show a=x by lia];exact hx
 ·intro h;exact#[.int (a:Int),bV.mpr #[a,h,rfl],xE _]
theorem kJ{xs:List Nat}(h:H a=some (.lst<|xs.map nV)):eE H (.lst<|xs.map λ(x:Nat)=>Dt.int (x:Int)) (.ref a):=by
 calc#[a,_,rfl,h,?_];clear h
 induction xs with
 |nil=>rfl
 |cons x xs b=>exact#[_,_,rfl,rfl,b]
theorem MS.keys{ls:List Ln}(h:MS aE aX ls):(ls.map λl=>yU l.i l.j).Nodup:=by
 rw[List.Nodup,fW,dQ];intro a b ha hb c e;unfold yU at e;simp only[List.cons.injEq,Sum.inl.injEq,and_true]at e;have :=h.dis a b ls[a] ls[b] (aA ha) (aA hb) e.1 e.2;lia
abbrev s_w:Stmt:=top 57
theorem sc_w:bT ["world","saying","beyond"] ["world","saying"] (zF s_w):=by rfl'
abbrev s_P:Stmt:=top 58
theorem sc_P:bT ["sheet","book","saying","lines","pair","found","world"] ["sheet","book","saying"] (zF s_P):=by rfl'
structure Wx(H:Hp)(wa:Addr)(m:Nat)(ps:List (Nat×Nat))(zs:List Str)(S:Str->List Nat):Prop where
 ex:∃(ca:Addr)(us:List V)(la:Addr)(Ss:List (List Nat)),H wa=some (.tup [nV m,.ref ca,.ref la])/\H ca=some (.lst us)/\bN H (ps.map PL) us/\oA H la zs Ss m/\∀(i:Nat)(z:Str),zs[i]?=some z->Ss[i]?=some (S z)
 ok2:Ok2 m ps
 m90:m<=90
 nd:zs.Nodup
 zl:zs.length<=8
 sr:∀z,(∀i∈S z,i<m)/\(S z).Pairwise (· < ·)
theorem Wx.same{wa:Addr}{m:Nat}{ps:List (Nat×Nat)}{S:Str->List Nat}(e:aW H H')(h:Wx H wa m ps zs S):Wx H' wa m ps zs S:=by
 let⟨⟨ca,us,la,Ss,h1,h2,a,b,c⟩,r1,d,f,g,i⟩:=h;exact#[#[ca,us,la,Ss,e _ _ h1,e _ _ h2,bN.same e a,b.same e,c],r1,d,f,g,i]
inductive spSg (vs:List V) (H:Hp) (Q:VK) (E:XK):Prop
 |mk (wa:Addr) (v:V) (s:Tm×Tm) (m:Nat) (ps:List (Nat×Nat)) (zs:List Str) (S:Str->List Nat) (_:vs=[.ref wa,v]) (_:Wx H wa m ps zs S) (_:pX H s v) (_:(iJ 20 s.1/\wt s.1<=900)) (_:(iJ 20 s.2/\wt s.2<=900)) (_:(∀x∈nms s.1++nms s.2,x∈zs)) (_:¬Hs m ps S s) (_:∀(n:Nat) H',aW H H'->Q (.int n) H')
theorem qh{m:Nat}{xs:List Nat}(h:xs.Pairwise (· < ·))(hm:∀x∈xs,x<m):xs.length<=m:=by
 have :=jZ (h.imp λh=>cH h) (m:=List.range m) λx hx=>bL.mpr (hm x hx)
 rwa[dG]at this
theorem KZ{aE:List Rw}{e:Bool}:∀{ts:List Tm}{m n:Nat},uO aE e m ts=some n->∀t∈ts,∃k,num aE t=some k
 |[],_,_,_,t,h=>by cases h
 |t0::ts,m,n,h,t,ht=>by
  rw[uO]at h;let⟨k,hk,h⟩:=cZ.mp h;let⟨q,_,h⟩:=cZ.mp h;rcases bG.mp ht with rfl |ht
  ·exact#[k,hk]
  ·exact KZ h t ht
theorem VD{e:Bool}(h:uH aE e ts=some n):∀t∈ts,∃k,num aE t=some k:=by
 cases ts with
 |nil=>rw[uH]at h;cases h
 |cons t0 ts=>
  rw[uH]at h;let⟨k,hk,h⟩:=cZ.mp h;intro t ht;rcases bG.mp ht with rfl |ht
  ·exact#[k,hk]
  ·exact KZ h t ht
theorem jc:∀(d:Nat)(t:Tm),EN d t->∀n,num aE t=some n->∀x∈nms t,∃k,pQ aE (.nm x)=some k:=by
 intro d
 induction d with
 |zero=>exact λt h=>h.elim
 |succ d c=>
  intro t ht n hn x hx;cases t with
  |name y=>
   rw[nms,aS]at hx;subst hx;rw[num]at hn;let⟨k,hk,_⟩:=aM.mp hn;exact#[k,hk]
  |node w ts=>
   let⟨hs,b⟩:=ht.node;rw[nms]at hx;let⟨t,a,hx⟩:=sO.mp hx;let go:(∃k,num aE t=some k)->∃k,pQ aE (.nm x)=some k:=λ⟨k,hk⟩=>c t (b t a) k hk x hx
   let ne:∀{p:Prop},ts.length=0->p:=λh=>by rw[mG.mp h]at a;cases a
   rw[num]at hn;rcases hs with h |h |h |h |h
   ·exact ne h.2
   ·exact ne h.2
   ·let⟨e,_⟩:=h;subst e;rw[aI (),aI (),aL rfl]at hn;let⟨k,hk,_⟩:=aM.mp hn;exact go<|VD hk t a
   ·let⟨e,_⟩:=h;subst e;rw[aI (),aI (),aI ()]at hn;let⟨k,hk,_⟩:=aM.mp hn;exact go<|VD hk t a
   ·let⟨e,_⟩:=h;subst e;rw[aI (),aI (),aI ()]at hn;let⟨k,hk,_⟩:=aM.mp hn;exact go<|VD hk t a
theorem je{x:Str}{k:Nat}(h:aE[k]?=some (.nm x)):(x,k)∈LB aE:=by
 unfold LB;calc eD.mpr #[k,bL.mpr (aC.mp h).1,?_];unfold WV;rw[h];rfl
theorem GS(lO:aE.Nodup):((LB aE).map (·.1)).Nodup:=by
 calc fW.mpr ?_;unfold LB;calc List.pairwise_filterMap.mpr (dL.imp λ{a b} c p hp q hq e=>?_);let g:∀{k:Nat}{p:Str×Nat},(WV aE k).map (λx=>(x,k))=some p->aE[k]?=some (.nm p.1):=λ{k p} h=>by
  let⟨x,hx,rfl⟩:=aM.mp h;unfold WV at hx;split at hx
  ·rename_i y hy;cases hx;exact hy
  ·cases hx
 let h1:=g hp;let h2:=g hq;rw[←e,←h1]at h2;let hb:=(aC.mp h1).1;have :=(List.getElem?_inj hb lO).mp h2.symm;lia
def xk(fl:Bool)(b:List lK)(s:Tm×Tm):Prop:=match fl with
 |true=>∀m ps S,Fw m ps S->(∀r∈b,Hr m ps S r)->Hs m ps S s
 |false=>∃m ps S,Fw m ps S/\(∀r∈b,Hr m ps S r)/\¬Hs m ps S s
theorem xk.one{x y:Bool}{c:List lK}(h1:xk x b s)(h2:xk y c s)(h:∀m ps S,Fw m ps S->((∀r∈b,Hr m ps S r)↔∀r∈c,Hr m ps S r)):x=y:=by
 cases x<;>cases y
 ·rfl
 ·let⟨m,ps,S,f,a,d⟩:=h1;exact(d<|h2 m ps S f<|(h m ps S f).mp a).elim
 ·let⟨m,ps,S,f,a,d⟩:=h2;exact(d<|h1 m ps S f<|(h m ps S f).mpr a).elim
 ·rfl
def LnR(n:Nat)(l:Ln):Prop:=GW l.w l.as/\(l.w="rule"->∃(r:Nat)(ps:List Int),l.as=[.n r,.ps ps]/\r<n)
def PaR(H:Hp)(v:V)(n:Nat):Prop:=∃(a:Addr)(us:List V)(ls:List Ln),v=.ref a/\H a=some (.lst us)/\uB H ls us/\ls.length<=40000/\∀l∈ls,LnR n l
theorem f7{ls:List Ln}{k:Nat}(h:yZ aE aX ls k l=true)(hw:l.w="rule"):∃(r:Nat)(ps:List Int),l.as=[.n r,.ps ps]/\r<aX.length:=by
 unfold yZ at h;split at h
 ·cases h
 ·unfold jY at h;split at h
  ·next r ps e=>
   split at h
   ·next hr=>
    split at h
    ·next q hq=>exact#[r.toNat,ps,by rw[e];congr 2;lia,(aC.mp hq).1]
    ·cases h
   ·cases h
  ·cases h
theorem rnw_R(h:LnR n l):LnR n (NI ks l):=by
 let⟨c,hr⟩:=h;by_cases a:l.w="rule"
 ·let⟨r,ps,ha,hn⟩:=hr a;rw[AZ a ha];calc#[.inr #[rfl,r,_,rfl,?_],λ_=>#[r,_,rfl,hn]];rcases c with⟨h,_⟩ |⟨_,e,d,b,hp⟩
  ·exact(h a).elim
  ·rw[ha]at b;cases b;rw[aD];exact hp
 ·rcases c with⟨_,ns,ha,hn⟩ |⟨h,_⟩
  ·rw[KD a ha];exact#[.inl #[a,_,rfl,by rw[aD];calc hn],λz=>(a z).elim]
  ·exact(a h).elim
inductive spJo (K:W.Frag) (vs:List V) (H:Hp) (Q:VK) (E:XK):Prop
 |mk (sa ba:Addr) (v:V) (us bs:List V) (aE:List Rw) (b:List lK) (s:Tm×Tm) (_:vs=[.ref sa,.ref ba,v]) (_:H sa=some (.lst us)) (_:gU K H aE us) (_:sI aE) (_:aE.Nodup) (_:aE.length<=30) (_:(LB aE).length<=8) (_:H ba=some (.lst bs)) (_:fT H b bs) (_:b.length<=100) (_:(∀r∈b,xz aE r)) (_:pX H s v) (_:dw aE s) (_:wt s.1<=900) (_:wt s.2<=900) (_:∀(p:Addr)(fl:Bool)(x1 x2:V) H',aW H H'->H' p=some (.tup [.str (if fl then"follows" else"open"),x1,x2])->xk fl b s->(fl=true->PaR H' x2 b.length)->Q (.ref p) H')
theorem ug(lO:aE.Nodup){k:Nat}(hr:aE[k]?=some r):pQ aE r=some k:=by
 unfold pQ;let a:=(aC.mp hr).2;refine gS.mpr #[(aC.mp hr).1,?_,λj b=>?_]
 ·rw[a];exact xE _
 ·intro z;let z:=(VT _ _).mp z;exact absurd ((rP lO).mp (z.trans a.symm)) ()
theorem RB(sp:List Nat)(R:Nat->Nat->Bool)(n:Nat):(xZ sp R n).Pairwise (· < ·):=fR _ dL
theorem wx_of{H0:Hp}{wa ca ra:Addr}{ls:List Ln}{T:List Ro}{vw:List V}(lO:aE.Nodup)(hrl:aE.length<=30)(hn3:(LB aE).length<=8)(wo:WoAt H0 H wa (yE (2*aE.length)<|rl ls) aE ls T ca ra vw):Wx H wa (yE (2*aE.length)<|rl ls).length (wQ (yE (2*aE.length)<|rl ls)<|rl ls) (T.map (·.2.1)) (cq aE<|rl ls):=by
 let d:(yE (2*aE.length)<|rl ls).length<=2*aE.length:=fj;refine#[#[ca,vw,ra,T.map (·.2.2.2),wo.tup,wo.cl,wo.dat,#[#[T.map (·.1),T.map (·.2.2.1),wo.lst,by simp,by simp,λi z sp hz hs=>?_],by simp,λsp a=>?_],λi z hz=>?_],HS _,(),wo.perm.nodup_iff.mpr<|GS lO,?_,λz=>?_]
 ·rw[aJ]at hz hs;let⟨e,he,rfl⟩:=aM.mp hz;rw[he]at hs;cases hs;let⟨b,c,_⟩:=wo.tr e<|aR he;exact#[e.1,e.2.2.1,by rw[aJ,he];rfl,by rw[aJ,he];rfl,b,c]
 ·let⟨e,he,rfl⟩:=bV.mp a;let⟨_,_,f,g⟩:=wo.tr e he;exact#[f,g]
 ·rw[aJ]at hz;let⟨e,he,rfl⟩:=aM.mp hz;let⟨k,b,c⟩:=wo.is e<|aR he;rw[aJ,he];show some e.2.2.2=some (cq aE (rl ls) e.2.1);unfold cq;rw[ug lO (LA b).1,c]
 ·rw[wo.perm.length_eq,aD];lia
 ·unfold cq;cases pQ aE (.nm z)with
  |none=>exact#[λi hi=>(nomatch hi),.nil]
  |some k=>exact#[λi hi=>(lX.mp hi).1,RB _ _ _]
theorem ZZ(bi:Bi mg)(h_cb:fZ P w K mg base 25 "value" ["world","t"] (qr K))(F:gF K "spot_against" "spot_against" s_w f fd):dC P w K mg base fU 26 f fd ["world","saying"] spSg:=by
 refine F.okz sc_w λeZ A outer s H vs Q E hr h=>?_
 let⟨wa,v,s,m,ps,zs,S,rfl,d,hv,⟨M,O⟩,⟨R,T⟩,b,g,q⟩:=h;let⟨a,v1,v2,rfl,ha,t1,t2⟩:=hv.out;calc#[_,have nd:=sc_w.nd;zC (uY (i:=2) nd rfl (Or.inr rfl) #[])<|zH<|zP<|zL zQ (zT ["spot"] ["beyond"] [2] #[] (λ_ _ _ _ nd=>zZ 0 nd) (λ_ _ _ _=>jG<|yG (QI hr.units) #[] #[] (by with_unfolding_all rfl)) λ_ _ _ _=>#[]) zJ,?_];refine zD λN G=>?_
 dsimp![];let I:∀{J:Hp}{u:V}{t:Tm}{j:VK},aW H J->gQ H t u->iJ 20 t->wt t<=900->(∀x∈nms t,x∈zs)->(∀(p:Addr)(H':Hp),aW J H'->J p=none->H' p=some (.lst<|(val m ps S t).map nV)->j (.ref p) H')->qr K [.ref wa,u] J j E0:=λ{J u t j} e U W X Y Z=>by
  let⟨⟨ca,us,la,Ss,k1,k2,k3,k4,k5⟩,r1,r2,r3,r4,r5⟩:=d.same e;exact#[wa,u,t,m,ca,us,ps,la,zs,Ss,S,rfl,k1,k2,k3,r1,r2,k4,#[r3,r4],eE.same e U,W,X,Y,k5,r5,Z]
 calc#[_,dH.of ha,_,pV,I (aW.refl _) t2 R T (λx hx=>b x<|bA _ hx) λpb H1 s1 _ kb=>G _ _ ?_];clear G;dsimp![];calc#[_,dH.of<|s1 _ _ ha,_,lN,I s1 t1 M O (λx hx=>b x<|cS _ hx) λpv H2 s2 _ L=>?_];calc#[pv,rfl,#[_,cX.of L],?_];let k:∀t:Tm,(val m ps S t).length<=90:=λt=>bU (qh (AL (λx=>(d.sr x).2) t) λx hx=>EZ (λx=>(d.sr x).1) t hx) d.m90
 refine qB (xs:=(val m ps S s.1).map nV) (λn ys σ Hx=>aW H2 Hx/\ys=(((val m ps S s.1).take n).filter λa=>!decide (a∈val m ps S s.2)).map nV/\∃o,σ=[o,some<|V.ref pb]) #[aW.refl _,rfl,_,rfl] (small (by rw[aD];have :=k s.1;lia)) (λn ys σ Hx e=>?_) (λn ys σ Hx e=>cX.of<|e.1 _ _ L) (λn x ys σ Hx C D hx e hC hD=>?_) λys σ Hx e p hp=>?_
 ·rw[e.2.1,aD];exact bU (dM _ _) (by rw[bF];lia)
 ·let⟨ex,rfl,o,rfl⟩:=e;rw[aJ]at hx;let⟨y,hy,rfl⟩:=aM.mp hx;let⟨l,c⟩:=aC.mp hy;dsimp![SQ];calc#[1,.int y,rfl,_,.inl<|kJ<|(s2.trans ex) _ _ kb,(λe he=>by let⟨_,_,rfl⟩:=bV.mp he;trivial),(),?_];rw[GU,Bool.true_xor];let ht:=aP l;by_cases hc:y∈val m ps S s.2
  ·rw[aI (by simp[hc])];calc hD _ _ #[ex,?_,_,rfl];rw[ht,c,dF,aT];simp[hc]
  ·rw[aL (by simp[hc])];calc hC _ _ _ #[ex,?_,_,rfl];rw[ht,c,dF,aT];simp[hc,nV]
 let⟨ex,rfl,o,rfl⟩:=e;rw[aD,aQ<|aG _];obtain⟨x,r,B⟩:∃x,x∈val m ps S s.1/\x∉val m ps S s.2:=gX λz=>g λa h1=>gX λh2=>z #[a,h1,h2]
 let hm:x∈(val m ps S s.1).filter λa=>!decide (a∈val m ps S s.2):=bM.mpr #[r,by simp[B]]
 cases hf:(val m ps S s.1).filter λa=>!decide (a∈val m ps S s.2)with
 |nil=>rw[hf]at hm;cases hm
 |cons y ys=>
  exact#[p,rfl,_,cX.of zA,_,lN,q y _<|s1.trans<|s2.trans<|ex.trans<|zB hp _]
theorem CH(bi:Bi mg)(h_bf:fZ P w K mg base 4 "closing" ["sheet","rules"] (mj K))(h_ah:fZ P w K mg base 47 "numbered" ["sheet","book"] (spNm K))(h_T:fZ P w K mg base 45 "pair_of" ["places","saying"] (qv P w K))(h_I:fZ P w K mg base 1 "places_of" ["sheet"] (qu P w K))(h_bh:fZ P w K mg base 3 "paper" ["lines","i","j"] spPa)(h_Y:fZ P w K mg base 2 "world_of" ["sheet","lines"] (RQ K))(h_w:fZ P w K mg base 26 "spot_against" ["world","saying"] spSg)(F:gF K "judge_on" "judge_on" s_P f fd):dC P w K mg base fU 48 f fd ["sheet","book","saying"] (spJo K):=by
 refine F.okz sc_P λeZ A outer s H vs Q E hr h=>?_
 let⟨sa,ba,v,us,bs,aE,b,s,rfl,B,C,hs,lO,O,U,hba,hb,hbl,Z,hv,D,w1,w2,q⟩:=h;calc#[_,have nd:=sc_P.nd;zC #[]<|zC #[]<|zC #[]<|zC (yK (yG im #[] wK<|yL _) #[] zS) #[],?_];refine zD λN o=>?_
 dsimp![];calc#[sa,ba,us,bs,aE,b,rfl,B,C,lO,(),hba,hb,hbl,Z,λpn ws H1 s1 kn hn=>?_];let a:∀r∈b.map (nR aE),r.1.length<=100:=λr hr=>by
  let⟨r',lL,rfl⟩:=bV.mp hr;show(r'.1.map _).length<=100;rw[aD];have :=(Z r' lL).1;lia
 calc#[sa,pn,us,ws,aE,b.map<|nR aE,rfl,s1 _ _ B,C.same s1,kn,hn,(),hs.in_,by rw[aD];lia,a,λla wl ls H2 s2 M u I c d=>o _ _ ?_];clear o;replace s2:=s1.trans s2;clear s1 kn hn;refine zD λN o=>?_
 dsimp![];calc#[sa,us,aE,rfl,s2 _ _ B,C.same s2,lO,(),λpa as J H3 s3 px=>?_];calc#[pa,v,aE,as,s,J,rfl,px,eE.same (s2.trans s3) hv,D,λpp J4 H4 as4 s4 L kp=>o _ _ ?_];clear o;let G:aW H2 H4:=s3.trans<|s4.trans L.sub;replace kp:=L.sub _ _ kp;clear px L s3 s4;replace M:=G _ _ M;replace u:uB H4 ls wl:=bN.same G u;replace s2:=s2.trans G;clear G;refine zD λN o=>?_
 dsimp![];let hll:ls.length<=3600:=bU I.len (by
  have :2*aE.length<=60:=by lia
  calc Nat.mul_le_mul this this)
 calc#[_,dH.of kp,_,lN,_,dH.of kp,_,pV,la,wl,ls,_,_,rfl,M,u,JN I a,(),λr H5 s5 y=>o _ _ ?_];clear o;replace s2:=s2.trans s5;replace M:=s5 _ _ M;replace u:uB H5 ls wl:=bN.same s5 u;clear kp;refine zD λN o=>?_
 dsimp![];rcases y with⟨rfl,hno⟩ |⟨k,l,ks,hk,W,_,hkp,y⟩
 ·rw[aI λz=>z rfl];calc o _ _ ?_;clear o;let hh:zK ls (nS aE s).1 (nS aE s).2=false:=by
   rw[dY];intro z;let⟨p,l,g1,g2,g3⟩:=fK.mp z;exact hno l (aR g1) #[g2,g3]
  let R:=Rl.of c d;let l1:=(D.1.val (JD hs c d) (UD hs lO c d) hs).1;let l2:=(D.2.val (JD hs c d) (UD hs lO c d) hs).1;let h10:zK ls 1 0=false:=by
   rw[dY];intro z;let e1:rl ls 1 (eV s.2 aE).2=true:=R.all 1 _ z l2;let e2:rl ls (eV s.1 aE).2 1=true:=c.high _ l1;have :=R.trans _ _ _ e2 e1;let this:zK ls (nS aE s).1 (nS aE s).2=true:=this;rw[hh]at this;cases this
  refine zD λN o=>?_
  dsimp![];calc#[sa,la,us,wl,aE,ls,rfl,s2 _ _ B,C.same s2,O,U,GS lO,M,u,(),I.keys,(λz=>by rw[h10]at z;cases z),λ_ wa T ca ra vw H6 s6 wo=>o _ _ ?_];clear o;dsimp![];let hz:∀x∈nms s.1++nms s.2,x∈T.map (·.2.1):=λx hx=>by
   let go:∀{t:Tm},ln aE t->x∈nms t->x∈T.map (·.2.1):=λ{t} g hx=>by
    let⟨k,hk⟩:=jc 21 t g.1 _ g.num x hx;exact wo.perm.mem_iff.mpr<|bV.mpr #[(x,k),je<|FT hk,rfl]
   rcases bE.mp hx with h |h
   ·exact go D.1 h
   ·exact go D.2 h
  let X:¬Hs _ _ _ s:=λz=>by
   have :=(HI hs lO c d D).mp z;rw[hh]at this;cases this
  calc#[wa,v,s,_,_,_,_,rfl,wx_of lO O U wo,eE.same (s2.trans s6) hv,#[D.1.1,w1],#[D.2.1,w2],hz,X,λn H7 s7=>#[small (),λp hp=>?_]];exact q p false _ _ _ ((s2.trans s6).trans (s7.trans<|zB hp _)) zA #[_,_,_,JD hs c d,vy hs lO c d Z,X] λz=>by cases z
 ·let⟨a',us',rfl,ka',Y⟩:=y;rw[aL λz=>by cases z];calc#[small (),λp hp=>q p true _ _ _ (s2.trans<|zB hp _) zA (λm ps S f hr=>sound f hs Z hr I D<|fK.mpr #[k,l,hk,W.1,W.2]) λ_=>?_];let e:=zB hp<|.tup [V.str "follows",V.ref sa,V.ref a'];refine#[a',us',_,rfl,e _ _ ka',bN.same e Y,?_,λx hx=>?_]
  ·exact bU (BO _ _ _) (by rw[hkp.perm.length_eq];calc DI (JN I a) (aC.mp hk).1 ())
  ·unfold BP at hx;let⟨n,_,e⟩:=eD.mp hx;let⟨l',iT,rfl⟩:=aM.mp e;calc rnw_R #[(JN I a _ l' iT).1,λhw=>?_];let⟨r,ps,h1,h2⟩:=f7 (I.snd _ l' iT) hw;exact#[r,ps,h1,by rwa[aD]at h2]
def inG(zs:List Str)(G:List Tm):Nat->Tm->Prop
 |0,_=>False
 |_+1,.name x=>x∈zs
 |d+1,.node w ts=>(w="none"\/w="all")\/(w="not"/\∃t,ts=[t]/\inG zs G d t)\/((w="both"\/w="either")/\.node w ts∈G/\(∃n,iJ n<|.node w ts)/\∃a b,ts=[a,b]/\inG zs G d a/\inG zs G d b)
structure rC(zs:List Str)(G:List Tm)(aE:List Rw):Prop where
 r1:1<=aE.length
 of:∀k,1<=k->k<aE.length->∃u∈zs.map Tm.name++G,∃n,num aE u=some n/\n/2=k
 nm:∀(k:Nat)(x:Str),aE[k]?=some (.nm x)->x∈zs
section
variable {G:List Tm}
theorem rC.put(h:rC zs G aE)(hn:∀x,r=.nm x->x∈zs)(hu:pQ aE r=none->∃u∈zs.map Tm.name++G,∃n,num (aE++[r]) u=some n/\n/2=aE.length):rC zs G (xF aE r).1:=by
 unfold xF;split
 ·exact h
 ·rename_i hr
  refine#[by show 1<=(aE++[r]).length;rw[aH];have :=h.r1;lia,λk h1 h2=>?_,λk x hk=>?_]
  ·let h2:k<(aE++[r]).length:=h2;rw[aH,cA]at h2;by_cases c:k<aE.length
   ·let⟨u,a,n,b,d⟩:=h.of k h1 c;exact#[u,a,n,vW _ _ _ _ b,d]
   ·rw[show k=aE.length by lia];exact hu hr
  ·let hk:(aE++[r])[k]?=some (.nm x):=hk;by_cases c:k<aE.length
   ·rw[aZ c]at hk;exact h.nm k x hk
   ·let h2:=(aC.mp hk).1;rw[aH,cA]at h2;rw[show k=aE.length by lia,bI<|aG _,fJ]at hk;cases hk;exact hn x rfl
theorem jr:∀(d:Nat)(t:Tm)(aE:List Rw),inG zs G d t->rC zs G aE->rC zs G (eV t aE).1:=by
 intro d
 induction d with
 |zero=>exact λt aE h=>h.elim
 |succ d i=>
  intro t aE ht h;cases t with
  |name x=>
   rw[eV];refine h.put (λy e=>by cases e;calc ht) λhr=>#[.name x,cS _<|bV.mpr #[x,ht,rfl],2*aE.length,?_,()]
   rw[num,XF hr];rfl
  |node w ts=>
   rcases ht with(e |e) |⟨e,t,rfl,ht⟩ |⟨e,k,⟨nf,f⟩,a,b,rfl,ha,hb⟩
   ·rw[eV,aL e];exact h
   ·subst e;rw[eV,aI (),aL rfl];exact h
   ·subst e;rw[eV,aI (),aI (),aL rfl,jA,xT];exact i t aE ht h
   ·let j:w≠"none"/\w≠"all"/\w≠"not":=by rcases e with rfl |rfl<;>decide
    let c:=kR _ nf aE f;let l:eV (.node w [a,b]) aE=((xF (eV b (eV a aE).1).1 (.bo ((lZ (decide<|w="either") (eV a aE).2:Nat):Int) (lZ (decide<|w="either") (eV b (eV a aE).1).2:Nat))).1,lZ (decide<|w="either") (xF (eV b (eV a aE).1).1 (.bo ((lZ (decide<|w="either") (eV a aE).2:Nat):Int) (lZ (decide<|w="either") (eV b (eV a aE).1).2:Nat))).2):=by
     rw[eV,aI j.1,aI j.2.1,aI j.2.2,jA,xT,xT]
    rw[l]at c⊢;let h2:=i b _ hb<|i a aE ha h;generalize (eV b (eV a aE).1).1=rows2 at c h2⊢;let g:∀x,(Rw.bo ((lZ (decide<|w="either") (eV a aE).2:Nat):Int) (lZ (decide<|w="either") (eV b (eV a aE).1).2:Nat))=.nm x->x∈zs:=λx e=>by cases e
    generalize (Rw.bo ((lZ (decide<|w="either") (eV a aE).2:Nat):Int) (lZ (decide<|w="either") (eV b (eV a aE).1).2:Nat))=r at c g⊢;refine h2.put (r:=r) g λhr=>#[.node w [a,b],bA _ k,lZ (decide<|w="either")<|2*rows2.length,?_,?_]
    ·unfold xF at c;rw[hr]at c;exact c
    ·cases decide (w="either")with
     |false=>show 2*rows2.length/2=_;lia
     |true=>show pT (2*rows2.length)/2=_;unfold pT;lia
theorem DG{d:Nat}:∀(ts:List Tm)(aE:List Rw),(∀t∈ts,inG zs G d t)->rC zs G aE->rC zs G (qT ts aE)
 |[],aE,_,h=>h
 |t::ts,aE,ht,h=>DG ts _ (λt h=>ht t<|bB _ h)<|jr d t aE (ht t bD) h
theorem rC.one:rC zs G [.no]:=#[aG _,λk h1 h2=>by simp at h2;lia,λk x h=>by
 cases k with
 |zero=>cases h
 |succ k=>simp at h]
theorem rC.len(h:rC zs G aE):aE.length<=1+(zs.length+G.length):=by
 let hr:=h.r1;let d:∀k:Nat,∃u:Tm,k+1<aE.length->u∈zs.map Tm.name++G/\∃n,num aE u=some n/\n/2=k+1:=λk=>by
  by_cases c:k+1<aE.length
  ·let⟨u,j,l⟩:=h.of (k+1) () c;exact#[u,λ_=>#[j,l]]
  ·exact#[.name "",λz=>(c z).elim]
 obtain⟨g,f⟩:∃g:Nat->Tm,∀k,k+1<aE.length->g k∈zs.map Tm.name++G/\∃n,num aE (g k)=some n/\n/2=k+1:=#[λk=>(d k).choose,λk=>(d k).choose_spec]
 let lO:((List.range<|aE.length-1).map g).Nodup:=by
  calc fW.mpr (List.Pairwise.imp_of_mem (R:=(· < ·)) (λ{a b} ha hb o e=>?_) dL);rw[bL]at ha hb;let⟨_,r,i,p2⟩:=f a ();let⟨_,s,p,t⟩:=f b ();rw[e,p]at i;cases i;lia
 letI:DecidableEq Tm:=λa b=>Classical.propDecidable<|a=b
 have :=jZ lO (m:=zs.map Tm.name++G) λu q=>by
  let⟨k,hk,rfl⟩:=bV.mp q;rw[bL]at hk;exact(f k ()).1
 rw[aD,dG,aH,aD]at this;lia
theorem rC.nms(h:rC zs G aE)(lO:aE.Nodup):(LB aE).length<=zs.length:=by
 have :=jZ (GS lO) (m:=zs) λx hx=>by
  let⟨p,hp,rfl⟩:=bV.mp hx;exact h.nm p.2 p.1 (LA hp).1
 rwa[aD]at this
end
structure Jb(zs:List Str)(G:List Tm)(b:List lK)(s:Tm×Tm):Prop where
 bl:b.length<=20
 pl:∀r∈b,r.1.length<=5
 fit:∀t∈pP b++pO s,iJ 20 t/\wt t<=900
 inn:∀t∈pP b++pO s,inG zs G 21 t
 zl:zs.length<=8
 gl:G.length<=20
theorem ek{r:lK}(h:r.1.length<=5):(RG r).length<=12:=by
 have :∀ps:List (Tm×Tm),(uS ps).length=2*ps.length:=λps=>by
  induction ps with
  |nil=>rfl
  |cons p ps a=>
   show(pO p++uS ps).length=_;rw[aH,a,bJ];show 2+_=_;lia
 unfold RG;rw[aH,this];show _+2<=12;lia
theorem IQ:∀{b:List lK},(∀r∈b,r.1.length<=5)->(pP b).length<=12*b.length
 |[],_=>aG _
 |r::b,h=>by
  show(RG r++pP b).length<=_;rw[aH,bJ];have :=ek<|h r bD;have :=IQ (b:=b) λq hq=>h q (bB _ hq)
  lia
abbrev s_i:Stmt:=top 69
theorem sc_i:bT ["script","k"] ["script","k"] (zF s_i):=by rfl'
abbrev s_D:Stmt:=top 70
theorem sc_D:bT ["cell","size","letters","made","rest","k"] ["cell","size"] (zF s_D):=by rfl'
abbrev sx:Stmt:=top 71
theorem nc:bT ["script","one","two","three","pool"] ["script"] (zF sx):=by rfl'
def uD(K:W.Frag):Sp:=λvs H Q _=>∃(a:Addr)(ns:List Int)(k:Nat),vs=[.ref a,.int k]/\cX K H a (ns.map V.int)/\Q (.int<|ns.getD k 0) H
def UN:Sp:=λvs H Q _=>∃c n:Int,vs=[.int c,.int n]/\∀x:Str,Nm x->Q (.str x) H
def kq(K:W.Frag)(H:Hp)(p:Addr):Prop:=∃x y z:Str,Nm x/\Nm y/\Nm z/\H p=some (.lst [.str x,.str y,.str z])
inductive RT (K:W.Frag) (vs:List V) (H:Hp) (Q:VK) (E:XK):Prop
 |mk (a:Addr) (ns:List Int) (_:vs=[.ref a]) (_:cX K H a (ns.map V.int)) (_:∀p H',aW H H'->kq K H' p->Q (.ref p) H')
noncomputable def whole:List Tm->Tm
 |[t]=>t
 |ts=>.node "both" ts
theorem i6(bi:Bi mg)(F:gF K "_law_cell_at" "_law_cell_at" s_i f fd):dC P w K mg base fU 1 f fd ["script","k"] (uD K):=by
 refine F.okz sc_i λeZ A outer s H vs Q E hr h=>?_
 let⟨a,ns,k,rfl,b,q⟩:=h;calc#[_,have nd:=sc_i.nd;zC (yK #[] (zH<|zP<|zL zQ #[] #[]) zS) #[],?_];dsimp![];calc#[_,.inl #[_,b,rfl],?_];split
 ·rename_i hk
  rw[aD]at hk;exact#[_,b,_,vp hk,q]
 ·rename_i hk
  rw[aD]at hk;rw[bW,sS ()]at q;exact q
theorem QO(c:Int):∃d:Nat,pU ("abcdefghijklmnopqrstuvwxyz":Str).cps.toList (c % 26)=some d/\97<=d/\d<=122:=by
 let h:∀k:Fin 26,∃d:Nat,("abcdefghijklmnopqrstuvwxyz":Str).cps.toList[k.val]?=some d/\97<=d/\d<=122:=by decide+kernel
 let h1:0<=c % 26:=sL _ ();let h2:c % 26<26:=pK _ ();let e:c % 26=((c % 26).toNat:Nat):=by lia
 let⟨d,a,b⟩:=h #[(c % 26).toNat,()];calc#[d,?_,b];rw[e];exact zN a
theorem i3(bi:Bi mg)(F:gF K "_law_name_by" "_law_name_by" s_D f fd):dC P w K mg base fU 1 f fd ["cell","size"] UN:=by
 refine F.okz sc_D λeZ A outer s H vs Q E hr h=>?_
 let⟨c,n,rfl,q⟩:=h;calc#[_,have nd:=sc_D.nd;zC #[]<|zC #[]<|zC #[]<|zC (yC bX rfl #[] #[]<|zC (yW 3 nd<|jO uG #[]<|zL au #[] #[]) #[])<|zC (yK #[] (zH<|yW 3 nd<|jO uG #[] xX) zS) #[],?_];refine zD λN g=>?_
 dsimp![];calc g _ _ ?_;refine zD λN g=>?_
 dsimp![];calc g _ _ ?_;refine zD λN g=>?_
 dsimp![];calc#[#[(),(),()],(),g _ _ ?_];generalize c % 26^Int.toNat 8=v;let hm:0<=n % 8/\n % 8<8:=by lia
 let p:("":Str).cps.toList=[]:=by decide+kernel
 refine zM (λσ H'=>H'=H/\∃(z:Str)(a b:Option V),z.length=1+(n % 8).toNat/\(∀d∈z.cps.toList,97<=d/\d<=122)/\σ=[some<|V.int c,some<|V.int n,some<|V.str "abcdefghijklmnopqrstuvwxyz",some<|V.str z,a,b]) (λN g=>?_) λσ H' h=>?_
 ·dsimp![];refine#[(),(),(),bh (n:=(1+n % 8).toNat) (λi σ H'=>H'=H/\∃(z:Str)(r:Int)(o:Option V),z.length=i/\(∀d∈z.cps.toList,97<=d/\d<=122)/\σ=[some<|V.int c,some<|V.int n,some<|V.str "abcdefghijklmnopqrstuvwxyz",some<|V.str z,some<|V.int r,o])
   #[rfl,_,_,_,rfl,(λd hd=>by rw[p]at hd;cases hd),rfl] (λi σ H' hi e=>?_) (λσ H' e=>?_)]
  ·let⟨rfl,z,r,o,hz,hl,rfl⟩:=e;let⟨d,hd,l⟩:=QO r;dsimp![];let t:(#[(List.toArray [d])]:Str).length=1:=rfl;refine#[(),small (),d,hd,small (),#[(),()],_,?_,?_,rfl,_,rfl]
   ·rw[YO,hz,t]
   ·intro m j;rw[VW]at j;rcases bE.mp j with h |h
    ·exact hl m h
    ·let h:m∈[d]:=h;rw[aS.mp h];exact l
  ·let⟨rfl,z,r,o,hz,hl,rfl⟩:=e;exact g _ _ #[rfl,z,_,_,(),hl,rfl]
 ·let⟨rfl,z,a,b,hz,hl,rfl⟩:=h;refine zM (λσ k=>k=H'/\∃(z:Str)(a b:Option V),Nm z/\σ=[some<|V.int c,some<|V.int n,some<|V.str "abcdefghijklmnopqrstuvwxyz",some<|V.str z,a,b]) (λN g=>?_) λσ k h=>?_
  ·dsimp![];calc#[rfl,?_];let fin:∀z:Str,Nm z->N [some<|V.int c,some<|V.int n,some<|V.str "abcdefghijklmnopqrstuvwxyz",some<|V.str z,a,b] H':=λz h=>g _ _ #[rfl,z,_,_,h,rfl]
   split
   ·rename_i e
    subst e;calc#[small (),fin _ ?_];exact#[(),(),(),(),()]
   ·rename_i e
    calc#[rfl,?_];split
    ·rename_i e
     subst e;calc#[small (),fin _ ?_];exact#[(),(),(),(),()]
    ·rename_i u
     exact fin z #[(),(),hl,e,u]
  ·let⟨rfl,z,a,b,hz,rfl⟩:=h;dsimp![];exact q z hz
theorem iz(bi:Bi mg)(h_i:fZ P w K mg base 1 "_law_cell_at" ["script","k"] (uD K))(h_D:fZ P w K mg base 1 "_law_name_by" ["cell","size"] UN)
 (F:gF K "_law_pool" "_law_pool" sx f fd):dC P w K mg base fU 2 f fd ["script"] (RT K):=by
 refine F.okz nc λeZ A outer s H vs Q E hr h=>?_
 let⟨a,ns,rfl,n,q⟩:=h;calc#[_,have nd:=nc.nd;#[],?_];refine zD λN i=>?_
 dsimp![uD];calc#[ns,0,rfl,n,i _ _ ?_];refine zD λN i=>?_
 dsimp![uD];calc#[ns,1,rfl,n,i _ _ ?_];refine zD λN i=>?_
 dsimp![uD];calc#[ns,2,rfl,n,i _ _ ?_];generalize ns.getD 0 0=t;generalize ns.getD 1 0=x1;generalize ns.getD 2 0=x2;refine zD λN i=>?_
 dsimp![UN];calc#[#[(),()],(),λl o=>#[#[(),()],(),λm r=>#[small (),λp hp=>i _ _ ?_]]];refine zM (λσ H'=>aW H H'/\kq K H' p/\∃a b c d:Option V,σ=[a,b,c,d,some<|V.ref p]) (λN i=>?_) λσ H' h=>?_
 ·dsimp![UN];let fin:∀g:Str,Nm g->aW H (upd (upd H p<|HO.lst [V.str l,V.str m]) p<|HO.lst<|[V.str l,V.str m]++[V.str g])/\kq K (upd (upd H p<|HO.lst [V.str l,V.str m]) p<|HO.lst<|[V.str l,V.str m]++[V.str g]) p:=λg j=>by
   rw[vS];exact#[zB hp _,l,m,g,o,r,j,zA]
  let ty:tyV K "list" (V.ref p) (upd H p<|HO.lst [V.str l,V.str m]):=.inl #[rfl,_,cX.of zA];calc#[(),rfl,?_];split
  ·calc#[ty,#[(),()],(),λg j=>?_];exact#[_,zA,(by show 2<sizeLine;decide),i _ _ #[(fin g j).1,(fin g j).2,_,_,_,_,rfl]]
  ·calc#[ty,#[(),()],#[(),()],(),λg j=>?_];exact#[_,zA,(by show 2<sizeLine;decide),i _ _ #[(fin g j).1,(fin g j).2,_,_,_,_,rfl]]
 ·let⟨e,mE,u,b,c,d,rfl⟩:=h;dsimp![];exact q p H' e mE
structure Ov(H J:Hp)(lg:Addr)(us:List V):Prop where
 eq:H=upd J lg (.lst us)
 no:J lg=none
theorem Ov.at(h:Ov H J lg us):H lg=some (.lst us):=by rw[h.eq];exact zA
theorem Ov.sub(h:Ov H J lg us):aW J H:=by rw[h.eq];exact zB h.no _
theorem Ov.ne(h:Ov H J lg us)(hp:H p=none):p≠lg:=λz=>by
 rw[z,h.at]at hp;cases hp
theorem Ov.free(h:Ov H J lg us)(hp:H p=none):J p=none:=h.sub.free hp
theorem Ov.new(h:Ov H J lg us)(hp:H p=none)(o:HO):Ov (upd H p o) (upd J p o) lg us:=by
 let mO:=h.ne hp;calc#[?_,by rw[zE<|cE mO];calc h.no];rw[h.eq]
 funext b
 by_cases h1:b=p
 ·subst h1;rw[zA,zE mO,zA]
 ·rw[zE h1];by_cases h2:b=lg
  ·subst h2;rw[zA,zA]
  ·rw[zE h2,zE h2,zE h1]
theorem Ov.set(h:Ov H J lg us)(vs:List V):Ov (upd H lg<|.lst vs) J lg vs:=#[by rw[h.eq,vS],h.no]
theorem Ov.mk0(h:H lg=none):Ov (upd H lg<|.lst []) H lg []:=#[rfl,h]
theorem Ov.put{q:Addr}(h:Ov H J lg us)(hq:q≠lg)(o:HO):Ov (upd H q o) (upd J q o) lg us:=by
 calc#[?_,by rw[zE<|cE hq];calc h.no];rw[h.eq]
 funext b
 by_cases h1:b=q
 ·subst h1;rw[zA,zE hq,zA]
 ·rw[zE h1];by_cases h2:b=lg
  ·subst h2;rw[zA,zA]
  ·rw[zE h2,zE h2,zE h1]
theorem Ov.ext(h:Ov H J lg us)(e:aW H H'):∃J',Ov H' J' lg us/\aW J J':=by
 refine#[λb=>if b=lg then none else H' b,#[?_,aL rfl],λb o hb=>?_]
 ·funext b
  by_cases hb:b=lg
  ·subst hb;rw[zA];exact e _ _ h.at
  ·rw[zE hb];exact(aI hb).symm
 ·let mO:b≠lg:=λz=>by rw[z,h.no]at hb;cases hb
  show(if b=lg then none else H' b)=some o;rw[aI mO];exact e _ _<|h.sub _ _ hb
abbrev s_J:Stmt:=top 72
theorem sc_J:bT ["cell","terms","one"] ["cell","terms"] (zF s_J):=by rfl'
abbrev s_M:Stmt:=top 73
theorem sc_M:bT ["script","pool","many","terms","name","k","cell","low"] ["script","pool","many"] (zF s_M):=by rfl'
def Sd(ts:List Tm)(t:Tm):Prop:=t∈ts\/∃u∈ts,t=.node "not" [u]
structure xm(zs:List Str)(g n d m:Nat)(ts:List Tm):Prop where
 len:ts.length=n
 fit:∀t∈ts,iJ d t/\wt t<=m
 ex:∃G:List Tm,G.length<=g/\∀t∈ts,inG zs G (d+1) t
theorem qE{zs:List Str}{G G':List Tm}(hG:∀t∈G,t∈G'):∀{d d':Nat}{t:Tm},inG zs G d t->d<=d'->inG zs G' d' t
 |0,_,_,h,_=>h.elim
 |d+1,0,_,_,h=>absurd h ()
 |d+1,d'+1,.name x,h,_=>h
 |d+1,d'+1,.node w ts,h,hd=>by
  rcases h with h |⟨e,t,c,h⟩ |⟨e,h1,h2,a,b,c,f,g⟩
  ·exact .inl h
  ·exact .inr<|.inl #[e,t,c,qE hG h ()]
  ·exact .inr<|.inr #[e,hG _ h1,h2,a,b,c,qE hG f (),qE hG g ()]
theorem Sd.fit{t:Tm}{m:Nat}(h:Sd ts t)(hf:∀t∈ts,iJ d t/\wt t<=m):iJ (d+1) t/\wt t<=m+1:=by
 rcases h with h |⟨u,h,rfl⟩
 ·exact#[(hf t h).1.up,II (hf t h).2]
 ·refine#[?_,?_]
  ·unfold iJ;exact#[.inr<|.inr<|.inl #[rfl,rfl],λt ht=>by rw[aS.mp ht];calc(hf u h).1]
  ·have :=(hf u h).2;simp only[wt,oM];lia
theorem Sd.inG{G:List Tm}{t:Tm}(h:Sd ts t)(hf:∀t∈ts,inG zs G (d+1) t):inG zs G (d+2) t:=by
 rcases h with h |⟨u,h,rfl⟩
 ·exact qE (λ_ z=>z) (hf t h) ()
 ·exact .inr<|.inl #[rfl,u,rfl,hf u h]
theorem fit2{w:Str}{a b:Tm}(hw:w="both"\/w="either")(ha:iJ d a)(hb:iJ d b):iJ (d+1) (.node w [a,b]):=by
 unfold iJ;calc#[rh hw<|aG _,λt ht=>?_];rcases bG.mp ht with rfl |ht
 ·exact ha
 ·rw[aS.mp ht];exact hb
theorem xm.step{g m:Nat}{w:Str}{a b:Tm}(h:xm zs g n d m ts)(hw:w="both"\/w="either")(ha:Sd ts a)(hb:Sd ts b):xm zs (g+1) (n+1) (d+2) (2*m+3) (ts++[.node w [a,b]]):=by
 let⟨G,j,e⟩:=h.ex;let f:=ha.fit h.fit;let i:=hb.fit h.fit;let c:=fit2 hw f.1 i.1;refine#[by rw[aH,h.len];rfl,λt ht=>?_,G++[.node w [a,b]],by rw[aH,cA];lia,λt ht=>?_]
 ·rcases bE.mp ht with ht |ht
  ·exact#[(h.fit t ht).1.up.up,by have :=(h.fit t ht).2;lia]
  ·rw[aS.mp ht];calc#[c,?_];simp only[wt,oM];lia
 ·let up:∀{t:Tm}{k:Nat},inG zs G k t->k<=d+2->inG zs (G++[.node w [a,b]]) (d+2) t:=λh hk=>qE (λ_ z=>cS _ z) h hk
  rcases bE.mp ht with ht |ht
  ·exact qE (λ_ z=>z) (up (e t ht) ()) ()
  ·rw[aS.mp ht];exact .inr<|.inr #[hw,bA _<|aS.mpr rfl,#[_,c],a,b,rfl,up (ha.inG e)<|aG _,up (hb.inG e)<|aG _]
theorem eI.len(h:eI H ts us):us.length=ts.length:=by have :=bN.length h;rwa[aD]at this
theorem eI.snoc{t:Tm}(h:eI H ts us)(e:aW H H')(ht:gQ H' t v):eI H' (ts++[t]) (us++[v]):=by
 unfold eI;rw[aT];exact bN.append (bN.same e h)<|bN.one ht
theorem Ov.tups(h:Ov H J lg us):dB H J:=λb xs hb=>by
 let mO:b≠lg:=λz=>by rw[z,h.at]at hb;cases hb
 rw[h.eq,zE mO]at hb;exact hb
inductive fm (vs:List V) (H:Hp) (Q:VK) (E:XK):Prop
 |mk (c:Int) (ta:Addr) (us:List V) (ts:List Tm) (_:vs=[.int c,.ref ta]) (_:H ta=some (.lst us)) (_:eI H ts us) (_:ts≠[]) (_:ts.length<=20) (_:∀v t H',aW H H'->gQ H' t v->Sd ts t->Q v H')
inductive spTs (K:W.Frag) (vs:List V) (H:Hp) (Q:VK) (E:XK):Prop
 |mk (a pa:Addr) (ns:List Int) (zs:List Str) (_:vs=[.ref a,.ref pa,.int 2]) (_:cX K H a (ns.map V.int)) (_:ns.length<=63) (_:H pa=some (.lst<|zs.map V.str)) (_:zs.length=3) (_:(∀z∈zs,Nm z)) (_:∀p us ts H',aW H H'->H' p=some (.lst us)->eI H' ts us->xm zs 2 7 4 13 ts->Q (.ref p) H')
theorem n6:(0:Int)<10^Int.toNat 12:=by show(0:Int)<10^12;simp
theorem p1015:(0:Int)<10^Int.toNat 15:=by show(0:Int)<10^15;simp
theorem iw(bi:Bi mg)(F:gF K "_law_side" "_law_side" s_J f fd):dC P w K mg base fU 1 f fd ["cell","terms"] fm:=by
 refine F.okz sc_J λeZ A outer s H vs Q E hr h=>?_
 let⟨c,ta,us,ts,rfl,b,d,mO,hl,q⟩:=h;calc#[_,have nd:=sc_J.nd;zC (yW 2 nd<|zL zQ #[] #[]) #[],?_];let nF:us.length=ts.length:=by have :=bN.length d;rwa[aD]at this
 let j:0<us.length:=by rw[nF];exact List.length_pos_iff.mpr mO
 refine zD λN k=>?_
 dsimp![];obtain⟨m,hm⟩:∃m:Nat,c/2 % (us.length:Int)=(m:Int):=#[(c/2 % (us.length:Int)).toNat,by have :=sL (c/2) (show(us.length:Int)≠0 by lia);lia]
 let g:m<us.length:=by have :=pK (c/2) (show(0:Int)<us.length by lia);lia
 let⟨t,ht,i⟩:=xG (f:=FE) d<|aA g;let a:=aR ht;calc#[#[(),()],us.length,.inl #[_,cX.of b,rfl],(),_,cX.of b,us[m],by rw[hm];exact zN<|aA g,k _ _ ?_];clear k;dsimp![];calc#[(),rfl,?_];by_cases l:c % 2=1
 ·rw[aL l];calc#[small (),λp hp=>?_];let e:=zB hp<|.tup [V.str "not",us[m]];exact q _ (.node "not" [t]) _ e #[p,_,rfl,zA,_,_,rfl,rfl,_,_,rfl,eE.same e i,rfl]<|.inr #[t,a,rfl]
 ·rw[aI l];exact q _ _ _ (aW.refl _) i<|.inl a
theorem WJ(bi:Bi mg)(h_i:fZ P w K mg base 1 "_law_cell_at" ["script","k"] (uD K))(h_J:fZ P w K mg base 1 "_law_side" ["cell","terms"] fm)(F:gF K "_law_terms" "_law_terms" s_M f fd):dC P w K mg base fU 2 f fd ["script","pool","many"] (spTs K):=by
 refine F.okz sc_M λeZ A outer s H vs Q E hr h=>?_
 let⟨a,pa,ns,zs,rfl,hS,hl,B,hz,U,q⟩:=h;calc#[_,have nd:=sc_M.nd;zC #[]<|zC #[]<|zC (yC bX rfl #[] #[]<|zC #[]<|zC #[]<|zH<|xA<|uN cY dU dS xQ #[]<|zG (yI<|zG (zL zQ #[] #[]) #[]) zI) #[],?_];refine zD λN d=>?_
 dsimp![];calc#[small (),λg h0=>#[small (),λj h1=>#[small (),λpt C=>d _ _ ?_]]];clear d;let e0:=zB h0<|.tup [V.str "none"];let W:=zB h1<|.tup [V.str "all"];let t0:eI (upd (upd H g<|.tup [V.str "none"]) j<|.tup [V.str "all"]) [.node "none" [],.node "all" []] [V.ref g,V.ref j]:=#[_,_,rfl,#[g,_,rfl,W _ _ zA,_,_,rfl,rfl,rfl],_,_,rfl,#[j,_,rfl,zA,_,_,rfl,rfl,rfl],rfl]
 let b:Ov (upd (upd (upd H g<|.tup [V.str "none"]) j<|.tup [V.str "all"]) pt<|.lst [V.ref g,V.ref j]) (upd (upd H g<|.tup [V.str "none"]) j<|.tup [V.str "all"]) pt [V.ref g,V.ref j]:=#[rfl,C]
 let sJ:=e0.trans W;generalize upd (upd H g<|.tup [V.str "none"]) j (.tup [V.str "all"])=J0 at t0 b sJ;generalize upd J0 pt (.lst [V.ref g,V.ref j])=H1 at b⊢;clear e0 W h0 h1 C;refine zM (λσ G=>∃(J:Hp)(us:List V)(c:Option V),Ov G J pt us/\aW H J/\eI J (.node "none" []::.node "all" []::zs.map Tm.name) us/\σ=[some<|V.ref a,some<|V.ref pa,some<|V.int 2,some<|V.ref pt,c,none,none,none]) (λN d=>?_) λσ G h=>?_
 ·dsimp![];calc#[#[_,cX.of<|b.sub _ _<|sJ _ _ B],?_];refine xH (xs:=zs.map V.str) (λi σ G=>∃(J:Hp)(us:List V)(c:Option V),Ov G J pt us/\aW H J/\eI J (.node "none" []::.node "all" []::(zs.take i).map Tm.name) us/\σ=[some<|V.ref a,some<|V.ref pa,some<|V.int 2,some<|V.ref pt,c,none,none,none]) #[J0,_,_,b,sJ,t0,rfl] (λi σ G _ h=>by let⟨J,us,c,b,sJ,_⟩:=h;calc cX.of<|b.sub _ _<|sJ _ _ B) (λi x σ G hx h M X=>?_) λσ G h=>?_
  ·let⟨J,us,c,b,sJ,ht,rfl⟩:=h;rw[aJ]at hx;let⟨z,l,rfl⟩:=aM.mp hx;let⟨nO,Y⟩:=aC.mp l;dsimp![];let nF:=eI.len ht;simp only[bJ,aD,bF]at nF;calc#[.inl #[rfl,_,cX.of b.at],small (),λp hp=>?_];let e:=b.new hp<|.tup [V.str "name",V.str z];let e2:=zB (b.free hp)<|.tup [V.str "name",V.str z];calc#[us,e.at,small (),X _ _ #[_,_,_,e.set<|us++[.ref p],sJ.trans e2,?_,rfl]];rw[aP nO,Y,aT];exact eI.snoc ht e2 #[p,_,rfl,zA,_,_,rfl,rfl,_,_,rfl,rfl,rfl]
  ·let⟨J,us,c,b,sJ,ht,rfl⟩:=h;rw[aD,aQ<|aG _]at ht;exact d _ _ #[J,us,c,b,sJ,ht,rfl]
 let⟨J,us,c,b,sJ,ht,rfl⟩:=h;let base0:xm zs 0 5 0 1 (.node "none" []::.node "all" []::zs.map Tm.name):=by
  refine#[by simp[hz],λt ht=>?_,[],aG _,λt ht=>?_]
  all_goals
   simp only[bG,bV]at ht;rcases ht with rfl |rfl |⟨z,l,rfl⟩
  ·exact#[#[.inl #[rfl,rfl],rfl],()]
  ·exact#[#[.inr<|.inl #[rfl,rfl],rfl],()]
  ·exact#[U z l,by simp[wt]]
  ·exact .inl<|.inl rfl
  ·exact .inl<|.inr rfl
  ·exact l
 refine zM (λσ G=>∃(J:Hp)(us:List V)(ts:List Tm)(c r u y:Option V),Ov G J pt us/\aW H J/\eI J ts us/\xm zs 2 7 4 13 ts/\σ=[some<|V.ref a,some<|V.ref pa,some<|V.int 2,some<|V.ref pt,c,r,u,y]) (λN d=>?_) λσ G h=>?_
 ·dsimp![];calc#[(),(),?_];refine qY (n:=2) (λi σ G=>∃(J:Hp)(us:List V)(ts:List Tm)(c r u y:Option V),Ov G J pt us/\aW H J/\eI J ts us/\xm zs i (5+i) (2*i) (4*2^i-3) ts/\σ=[some<|V.ref a,some<|V.ref pa,some<|V.int 2,some<|V.ref pt,c,r,u,y]) #[J,us,_,_,_,_,_,b,sJ,ht,base0,rfl] (λi σ G hi h M X=>?_) λσ G h=>?_
  ·let⟨J,us,ts,c,r,u,y,b,sJ,ht,tg,rfl⟩:=h;refine zD λN d=>?_
   dsimp![];calc#[a,ns,3+i,by simp,aW.seq (sJ.trans b.sub) hS,#[#[(),(),()],_,rfl,n6,d _ _ ?_]];clear d;generalize ns.getD (3+i) 0 % 10^Int.toNat 12=cell;refine zD λN d=>?_
   dsimp![];calc#[#[(),()],.inr #[(),()],(),#[(),()],d _ _ ?_];clear d;generalize cell/2*48271 % 2147483647/16=low;dsimp![];let nF:=eI.len ht;rw[tg.len]at nF;let mO:ts≠[]:=λz=>by have :=tg.len;rw[z]at this;simp at this;lia
   let⟨S,Z,hat⟩:=MV (cell % 2) ();calc#[.inl #[rfl,_,cX.of b.at],small (),λp hp=>#[(),_,cX.of zA,_,hat,?_]];let m:=b.new hp<|.lst [V.str "both",V.str "either"];let s1:=zB (b.free hp)<|.lst [V.str "both",V.str "either"];calc#[low,pt,us,ts,rfl,m.at,bN.same (s1.trans m.sub) ht,mO,by rw[tg.len];lia,λv1 t1 H2 s2 ht1 sd1=>#[#[(),()],?_]];let⟨J2,e,D⟩:=m.ext s2;calc#[low/64,pt,us,ts,rfl,e.at,bN.same (s1.trans<|m.sub.trans s2) ht,mO,by rw[tg.len];lia,λv2 t2 H3 s3 ht2 sd2=>#[small (),λp3 I=>?_]];let L:=eE.same s3 ht1;let⟨J3,o,O⟩:=e.ext s3;let R:=o.new I<|.tup [V.str S,v1,v2];let T:=zB (o.free I)<|.tup [V.str S,v1,v2];let sA:=s1.trans<|D.trans<|O.trans T;let q1:gQ J3 t1 v1:=gQ.tups o.tups L;let q2:gQ J3 t2 v2:=gQ.tups o.tups ht2;calc#[us,R.at,small (),X _ _ #[_,_,ts++[.node S [t1,t2]],_,_,_,_,R.set<|us++[.ref p3],sJ.trans sA,eI.snoc (t:=.node S [t1,t2]) (v:=.ref p3) (bN.same (s1.trans<|D.trans O) ht) T #[p3,_,rfl,zA,_,_,rfl,rfl,_,_,rfl,eE.same T q1,_,_,rfl,eE.same T q2,rfl],?_,rfl]];have :=tg.step Z sd1 sd2;let hi2:i=0\/i=1:=by lia
   rcases hi2 with rfl |rfl<;>exact this
  ·let⟨J,us,ts,c,r,u,y,b,sJ,ht,tg,rfl⟩:=h;exact d _ _ #[J,us,ts,_,_,_,_,b,sJ,ht,tg,rfl]
 let⟨J,us,ts,c,r,u,y,b,sJ,ht,tg,rfl⟩:=h;dsimp![];exact q pt us ts _ (sJ.trans b.sub) b.at (bN.same b.sub ht) tg
abbrev s_O:Stmt:=top 74
theorem sc_O:bT ["cells","terms","most","book","last","raw","cell","low","one","other"] ["cells","terms","most"] (zF s_O):=by rfl'
def x9(H0 G:Hp)(pb:Addr)(b0:List lK)(r:lK)(J J1:Hp)(us vs:List V)(a la:Addr)(c:V):Prop:=Ov G J pb (us++[.ref a])/\Ov J J1 la vs/\aW H0 J1/\fT J1 b0 us/\J1 a=some (.tup [.ref la,c])/\tR J1 r.1 vs/\pX J1 r.2 c
def Bk(H0 G:Hp)(pb:Addr)(b:List lK):Prop:=(b=[]/\∃J,Ov G J pb []/\aW H0 J)\/∃b0 r J J1 us vs a la c,b=b0++[r]/\x9 H0 G pb b0 r J J1 us vs a la c
section
variable {H0 G G':Hp} {pb:Addr}
theorem Bk.sub(h:Bk H0 G pb b):aW H0 G:=by
 rcases h with⟨_,J,d,s⟩ |⟨b0,r,J,J1,us,vs,a,la,c,_,o1,o2,s,_⟩
 ·exact s.trans d.sub
 ·exact s.trans<|o2.sub.trans o1.sub
theorem fT.one{b0:List lK}{r:lK}(h:fT H b0 us)(hr:MP H r v):fT H (b0++[r]) (us++[v]):=by
 unfold fT;rw[aT];exact bN.append h<|bN.one hr
theorem x9.whole{b0:List lK}{r:lK}{J1:Hp}{vs:List V}{la:Addr}{c:V}(h:x9 H0 G pb b0 r J J1 us vs a la c):fT J (b0++[r]) (us++[.ref a]):=by
 let⟨o1,o2,s,h1,h2,b,d⟩:=h;exact fT.one (bN.same o2.sub h1) #[a,_,rfl,o2.sub _ _ h2,_,_,rfl,#[la,vs,rfl,o2.at,bN.same o2.sub b],_,_,rfl,eE.same o2.sub d,rfl]
theorem Bk.at(h:Bk H0 G pb b):∃J us,Ov G J pb us/\us.length=b.length/\fT J b us/\aW H0 J:=by
 rcases h with⟨rfl,J,d,s⟩ |⟨b0,r,J,J1,us,vs,a,la,c,rfl,h⟩
 ·exact#[J,[],d,rfl,rfl,s]
 ·exact#[J,_,h.1,by have :=fT.length h.whole;exact this,h.whole,h.2.2.1.trans h.2.1.sub]
theorem Bk.ext(h:Bk H0 G pb b)(e:aW G G'):Bk H0 G' pb b:=by
 rcases h with⟨rfl,J,j,s⟩ |⟨b0,r,J,J1,us,vs,a,la,c,rfl,o1,o2,s,h1,h2,k,l⟩
 ·let⟨J',d,s'⟩:=j.ext e;exact .inl #[rfl,J',d,s.trans s']
 ·let⟨J',f,s1⟩:=o1.ext e;let⟨g,i,s2⟩:=o2.ext s1;exact .inr #[b0,r,J',g,us,vs,a,la,c,rfl,f,i,s.trans s2,bN.same s2 h1,s2 _ _ h2,bN.same s2 k,eE.same s2 l]
theorem pX.mk2{t1 t2:Tm}{v1 v2:V}(h1:gQ H t1 v1)(h2:gQ H t2 v2)(hp:H p=some (.tup [v1,v2])):pX H (t1,t2) (.ref p):=#[p,_,rfl,hp,_,_,rfl,h1,_,_,rfl,h2,rfl]
theorem x9.prem{b0:List lK}{r:lK}{J1:Hp}{vs:List V}{la:Addr}{c v1 v2:V}{t1 t2:Tm}(h:x9 H0 G pb b0 r J J1 us vs a la c)(hp:G p=none)(h1:gQ G t1 v1)(h2:gQ G t2 v2):
 Bk H0 (upd (upd G p<|.tup [v1,v2]) la<|.lst<|vs++[.ref p]) pb (b0++[(r.1++[(t1,t2)],r.2)]):=by
 let⟨o1,o2,s,f,g,i,j⟩:=h;let b:=o1.free hp;let d:=o2.free b;let mO:la≠pb:=λz=>by have :=o2.at;rw[z,o1.no]at this;cases this
 let k:=(o1.new hp<|.tup [v1,v2]).put (q:=la) mO (.lst<|vs++[.ref p]);let l:=(o2.new b<|.tup [v1,v2]).set (vs++[.ref p]);let e:=zB d<|.tup [v1,v2];let T:dB G J1:=o1.tups.trans o2.tups;calc .inr #[b0,(r.1++[(t1,t2)],r.2),_,_,us,vs++[.ref p],a,la,c,rfl,k,l,s.trans e,bN.same e f,e _ _ g,?_,eE.same e j];show bN _ ((r.1++[(t1,t2)]).map OQ) _;rw[aT];exact bN.append (bN.same e i)<|bN.one<|pX.mk2 (eE.same e<|gQ.tups T h1) (eE.same e<|gQ.tups T h2) zA
theorem x9.copy{b0:List lK}{r:lK}{J1:Hp}{vs:List V}{la l2 p2:Addr}{c:V}(h:x9 H0 G pb b0 r J J1 us vs a la c)(hl:G l2=none)(hp:upd G l2 (.lst vs) p2=none):
 Bk H0 (upd (upd (upd G l2<|.lst vs) p2<|.tup [.ref l2,c]) pb<|.lst<|us++[.ref a]++[.ref p2]) pb (b0++[r]++[r]):=by
 let i:=h.whole;let⟨o1,o2,s,n,o,j,k⟩:=h;let d:=o1.free hl;let f:=o1.new hl<|.lst vs;let g:Ov (upd J l2<|.lst vs) J l2 vs:=#[rfl,d]
 let b:=f.free hp;let l:=(f.new hp<|.tup [.ref l2,c]).set (us++[.ref a]++[.ref p2]);let m:=g.new b<|.tup [.ref l2,c];let e:=zB (g.free b)<|.tup [.ref l2,c];exact .inr #[b0++[r],r,_,_,us++[.ref a],vs,p2,l2,c,rfl,l,m,s.trans<|o2.sub.trans e,bN.same e i,zA,bN.same (o2.sub.trans e) j,eE.same (o2.sub.trans e) k]
theorem Bk.new{l2 pc p2:Addr}{v1 v2:V}{t1 t2:Tm}(o1:Ov G J pb us)(hr:fT J b us)(s:aW H0 J)(h1:gQ G t1 v1)(h2:gQ G t2 v2)(hl:G l2=none)(hc:upd G l2 (.lst []) pc=none)(hp:upd (upd G l2<|.lst []) pc (.tup [v1,v2]) p2=none):
 Bk H0 (upd (upd (upd (upd G l2<|.lst []) pc<|.tup [v1,v2]) p2<|.tup [.ref l2,.ref pc]) pb<|.lst<|us++[.ref p2]) pb (b++[([],(t1,t2))]):=by
 let a:=o1.new hl<|.lst [];let d:Ov (upd J l2<|.lst []) J l2 []:=#[rfl,o1.free hl]
 let c:=a.new hc<|.tup [v1,v2];let f:=d.new (a.free hc)<|.tup [v1,v2];let h:=(c.new hp<|.tup [.ref l2,.ref pc]).set (us++[.ref p2]);let i:=f.new (c.free hp)<|.tup [.ref l2,.ref pc];let j:=zB (d.free<|a.free hc)<|.tup [v1,v2];let g:=zB (f.free<|c.free hp)<|.tup [.ref l2,.ref pc];let e:=j.trans g;exact .inr #[b,([],(t1,t2)),_,_,us,[],p2,l2,.ref pc,rfl,h,i,s.trans e,bN.same e hr,zA,rfl,pX.mk2 (eE.same e<|gQ.tups o1.tups h1) (eE.same e<|gQ.tups o1.tups h2)<|g _ _ zA]
end
def ko(Pt:Tm->Prop)(r:lK):Prop:=r.1.length<=2/\∀t∈RG r,Pt t
theorem ML{k:Nat}(h1:1<=k)(h:k<=xs.length):pU xs (-(k:Int))=xs[xs.length-k]?:=by
 let e:av xs.length (-(k:Int))=some (xs.length-k):=by
  unfold av;rw[aI (),aL ()]
  congr 1
  lia
 unfold pU;rw[e];rfl
theorem LP{tt:TT}{tb te:TS}{D:tU}{σ:St}(h:∀N:St->Hp->Prop,(∀σ H,te D σ H->N σ H)->qm tt tb (λ_ σ H=>N σ H) D σ H):qm tt tb te D σ H:=h (te D) λ_ _ z=>z
theorem XD{r:lK}(h:∀r∈b,ko (Sd ts) r)(hr:ko (Sd ts) r):∀q∈b++[r],ko (Sd ts) q:=λq hq=>by
 rcases bE.mp hq with h1 |h1
 ·exact h q h1
 ·rw[aS.mp h1];exact hr
theorem kW(us:List V)(v:V):pU (us++[v]) (-1)=some v:=by
 have :=ML (xs:=us++[v]) (k:=1) (aG _) (by simp);rw[show(-((1:Nat):Int))= -1 from rfl]at this;rw[this];simp
inductive spBk (K:W.Frag) (vs:List V) (H:Hp) (Q:VK) (E:XK):Prop
 |mk (ca ta:Addr) (cs:List Int) (m:Nat) (us:List V) (ts:List Tm) (_:vs=[.ref ca,.ref ta,.int m]) (_:cX K H ca (cs.map V.int)) (_:cs.length<=63) (_:m<=10) (_:H ta=some (.lst us)) (_:eI H ts us) (_:ts.length=7) (_:∀p bs b H',aW H H'->H' p=some (.lst bs)->fT H' b bs->b.length<=m->(∀r∈b,ko (Sd ts) r)->Q (.ref p) H')
theorem i8(bi:Bi mg)(h_J:fZ P w K mg base 1 "_law_side" ["cell","terms"] fm)(F:gF K "_law_book" "_law_book" s_O f fd):dC P w K mg base fU 2 f fd ["cells","terms","most"] (spBk K):=by
 refine F.okz sc_O λeZ A outer s H vs Q E hr h=>?_
 let⟨ca,ta,cs,m,us,ts,rfl,hS,hl,hm,R,C,h7,q⟩:=h;let nF:=eI.len C;rw[h7]at nF;let mO:ts≠[]:=λz=>by rw[z]at h7;cases h7
 calc#[_,have nd:=sc_O.nd;zC #[]<|zC (yW 4 nd<|zL zQ #[] zJ)<|zC (yC bX rfl #[] #[]<|zC #[]<|zC #[]<|zC #[]<|zC #[]<|zC #[]<|zH<|yK (PW.pt<|XI #[]<|XI #[]<|UV<|yG KW (yH kP rfl bi.len wR<|zG (zL xP (zL zQ #[] #[]) zJ) zI) zJ<|yL _) (zH<|xA<|uN cY dU dS xQ (zL xP (zL zQ #[] #[]) zJ) #[])<|zH<|yK #[] (zH<|xA<|uN cY dU dS xQ #[]<|zG (yI<|zG (yY uL rfl bi.list kQ<|zG (zL xP (zL zQ #[] #[]) zJ) zI)<|zG (zL xP (zL zQ #[] #[]) zJ) zI) zI) #[]) #[],?_];refine zD λN c=>?_
 dsimp![];calc#[small (),λpb hpb=>c _ _ ?_];clear c;let v:Bk H (upd H pb<|.lst []) pb []:=.inl #[rfl,H,Ov.mk0 hpb,aW.refl _];generalize upd H pb (.lst [])=G0 at v⊢;clear hpb;refine zD λN c=>?_
 dsimp![];obtain⟨u2,hu2⟩:∃u,us[2]?=some u:=#[us[2]'(),aA ()]
 let⟨t2,y,htt2⟩:=xG (f:=FE) C hu2;calc#[_,cX.of<|v.sub _ _ R,u2,zN (j:=2) hu2,c _ _ ?_];clear c;refine zM (λσ G=>∃(b:List lK)(o4 Z o6 o7 o8 o9:Option V),Bk H G pb b/\b.length<=m/\(∀r∈b,ko (Sd ts) r)/\σ=[some<|V.ref ca,some<|V.ref ta,some<|V.int m,some<|V.ref pb,o4,Z,o6,o7,o8,o9]) (λN c=>?_) λσ G h=>?_
 ·dsimp![];calc#[#[_,aW.seq v.sub hS],?_];refine xH (xs:=cs.map V.int) (λi σ G=>∃(b:List lK)(tl:Tm)(o:V)(Z o6 o7 o8 o9:Option V),Bk H G pb b/\b.length<=m/\(∀r∈b,ko (Sd ts) r)/\gQ G tl o/\Sd ts tl/\σ=[some<|V.ref ca,some<|V.ref ta,some<|V.int m,some<|V.ref pb,some o,Z,o6,o7,o8,o9]) #[[],t2,u2,_,_,_,_,_,v,bZ _,(λr hr=>by cases hr),eE.same v.sub htt2,.inl<|aR y,rfl] (λi σ G _ h=>by let⟨_,_,_,_,_,_,_,_,bk,_⟩:=h;calc aW.seq bk.sub hS) (λi x σ G hx h M hM=>?_) λσ G h=>?_
  ·let⟨b,tl,o,Z,o6,o7,o8,o9,bk,l,d,g,B,rfl⟩:=h;rw[aJ]at hx;let⟨raw,_,rfl⟩:=aM.mp hx;refine zD λN c=>?_
   dsimp![];calc#[#[(),(),()],p1015,c _ _ ?_];clear c;generalize raw % 10^Int.toNat 15=cell;refine zD λN c=>?_
   dsimp![];calc#[#[(),()],.inr #[(),()],(),#[(),()],c _ _ ?_];clear c;generalize cell/8*39373 % 2147483629/16=low;refine zD λN c=>?_
   dsimp![];calc#[low,ta,us,ts,rfl,bk.sub _ _ R,bN.same bk.sub C,mO,(),λv1 t1 G1 s1 n D=>c _ _ ?_];clear c;replace bk:=bk.ext s1;replace g:=eE.same s1 g;refine zD λN c=>?_
   dsimp![];calc#[#[(),()],low/64,ta,us,ts,rfl,bk.sub _ _ R,bN.same bk.sub C,mO,(),λv2 t2 G2 s2 y S=>c _ _ ?_];clear c;replace bk:=bk.ext s2;replace g:=eE.same s2 g;replace n:=eE.same s2 n;clear s1 s2;refine zM (λσ G'=>G'=G2/\∃(v1:V)(t1:Tm),gQ G2 t1 v1/\Sd ts t1/\σ=[some<|V.ref ca,some<|V.ref ta,some<|V.int m,some<|V.ref pb,some o,some<|V.int raw,some<|V.int cell,some<|V.int low,some v1,some v2]) (λN c=>?_) λσ G' h=>?_
   ·dsimp![];calc#[(),?_];by_cases c1:cell % 8<4
    ·rw[aL c1];exact c _ _ #[rfl,o,tl,g,B,rfl]
    ·rw[aI c1];exact c _ _ #[rfl,v1,t1,n,D,rfl]
   let⟨rfl,v1,t1,n,D,rfl⟩:=h;let⟨J,U,O,I,hrs,sJ⟩:=bk.at;let stay:M [some<|V.ref ca,some<|V.ref ta,some<|V.int m,some<|V.ref pb,some o,some<|V.int raw,some<|V.int cell,some<|V.int low,some v1,some v2] G':=hM _ _ #[b,tl,o,_,_,_,_,_,bk,l,d,g,B,rfl];let lb:lh K (V.ref pb) G' U.length:=.inl #[_,cX.of O.at,rfl];refine LP λE1 T=>?_
   let L:=T [some<|V.ref ca,some<|V.ref ta,some<|V.int m,some<|V.ref pb,some o,some<|V.int raw,some<|V.int cell,some<|V.int low,some v1,some v2] G' (by
    clear T;refine LP λE2 W=>?_
    let X:=W [some<|V.ref ca,some<|V.ref ta,some<|V.int m,some<|V.ref pb,some o,some<|V.int raw,some<|V.int cell,some<|V.int low,some v1,some v2] G' (by
     clear W;dsimp![];calc#[U.length,lb,?_];by_cases hm2:((U.length:Nat):Int)<m
     ·rw[aL hm2];calc#[.inl #[rfl,_,cX.of O.at],small (),λl2 hl=>#[small (),λpc hc=>#[small (),λp2 hp=>?_]]];let ov3:=((O.new hl<|.lst []).new hc (.tup [v1,v2])).new hp (.tup [V.ref l2,V.ref pc]);let nb:=Bk.new O hrs sJ n y hl hc hp;let e:=(zB hl<|.lst []).trans ((zB hc<|.tup [v1,v2]).trans (zB hp<|.tup [V.ref l2,V.ref pc]));refine#[U,ov3.at,small (),hM _ _ #[_,t2,v2,_,_,_,_,_,nb,by rw[aH,cA];lia,XD d #[bZ _,λt ht=>?_],?_,S,rfl]]
      ·let ht:t∈[t1,t2]:=ht;rcases bG.mp ht with rfl |ht
       ·exact D
       ·rw[aS.mp ht];exact S
      ·exact gQ.tups ((dB.refl _).upd_lst ov3.at)<|eE.same e y
     ·rw[aI hm2];calc stay)
    clear W;dsimp![];calc#[(),rfl,?_];by_cases c6:cell % 8=6
    ·rw[aL c6];calc#[U.length,lb,?_];rcases bk with⟨rfl,_⟩ |⟨b0,r,J0,J1,us0,k,Y,la,cc,rfl,a⟩
     ·let hU0:U.length=0:=I;rw[aI ()];exact X
     ·let hU:U.length=b0.length+1:=by rw[I,aH];rfl
      rw[aL ()];calc#[U.length,lb,?_];by_cases cm:((U.length:Nat):Int)<(m:Int)
      ·rw[aL cm];let o1:=a.1;let o2:=a.2.1;let ka:G' Y=some (.tup [.ref la,cc]):=(o2.sub.trans o1.sub) _ _ a.2.2.2.2.1;let kl:G' la=some (.lst k):=o1.sub _ _ o2.at;calc#[.inl #[rfl,_,cX.of O.at],_,cX.of o1.at,_,kW _ _,Y,rfl,_,dH.of ka,_,lN,la,rfl,k,.inl<|cX.of kl,λl2 hl=>?_];let L:=zB hl<|.lst k;calc#[_,cX.of<|L _ _ o1.at,_,kW _ _,Y,rfl,_,dH.of<|L _ _ ka,_,pV,small (),λp2 hp=>?_];let X:=zB hp<|.tup [V.ref l2,cc];refine#[_,X _ _<|L _ _ o1.at,small (by rw[fT.length a.whole];lia),hM _ _ #[_,tl,o,_,_,_,_,_,a.copy hl hp,by rw[aH,aH,cA];lia,XD d (d r (by simp)),gQ.tups ((dB.refl _).upd_lst (X _ _<|L _ _ o1.at))<|eE.same (L.trans X) g,B,rfl]]
      ·rw[aI cm];exact X
    ·rw[aI c6];calc X)
   clear T;dsimp![];calc#[(),rfl,?_];by_cases c7:cell % 8=7
   ·rw[aL c7];calc#[U.length,lb,?_];rcases bk with⟨rfl,_⟩ |⟨b0,r,J0,J1,us0,k,Y,la,cc,rfl,a⟩
    ·let hU0:U.length=0:=I;rw[aI ()];exact L
    ·let hU:U.length=b0.length+1:=by rw[I,aH];rfl
     rw[aL ()];let o1:=a.1;let o2:=a.2.1;let ka:G' Y=some (.tup [.ref la,cc]):=(o2.sub.trans o1.sub) _ _ a.2.2.2.2.1;let kl:G' la=some (.lst k):=o1.sub _ _ o2.at;calc#[_,cX.of o1.at,_,kW _ _,Y,rfl,_,dH.of ka,_,lN,k.length,.inl #[_,cX.of kl,rfl],?_];let hpl:k.length=r.1.length:=by have :=bN.length a.2.2.2.2.2.1;rwa[aD]at this
     by_cases c2:((k.length:Nat):Int)<2
     ·rw[aL c2];calc#[_,cX.of o1.at,_,kW _ _,Y,rfl,_,dH.of ka,_,lN,.inl #[rfl,_,cX.of kl],small (),λp hp=>?_];let hrr:=d r (by simp);refine#[la,rfl,k,zB hp _ _ _ kl,small (),hM _ _ #[_,tl,o,_,_,_,_,_,a.prem hp y n,by rw[aH]at l⊢;exact l,XD (λq hq=>d q<|cS _ hq) #[?_,λt ht=>?_],gQ.tups ((dB.refl _).upd_lst (zB hp _ _ _ kl))<|eE.same (zB hp _) g,B,rfl]]
      ·show(r.1++[(t2,t1)]).length<=2;rw[aH,cA];lia
      ·let ht:t∈uS (r.1++[(t2,t1)])++pO r.2:=ht;rcases bE.mp ht with ht |ht
       ·let ht:t∈(r.1++[(t2,t1)]).flatMap pO:=ht;rw[iG]at ht;rcases bE.mp ht with ht |ht
        ·exact hrr.2 t<|cS _ ht
        ·let ht:t∈[t2,t1]:=by simpa[pO]using ht
         rcases bG.mp ht with rfl |ht
         ·exact S
         ·rw[aS.mp ht];exact D
       ·exact hrr.2 t<|bA _ ht
     ·rw[aI c2];exact L
   ·rw[aI c7];exact L
  ·let⟨b,tl,o,Z,o6,o7,o8,o9,bk,l,d,g,B,rfl⟩:=h;exact c _ _ #[b,_,_,_,_,_,_,bk,l,d,rfl]
 let⟨b,o4,Z,o6,o7,o8,o9,bk,l,d,rfl⟩:=h;dsimp![];let⟨J,bs,O,_,hb,sJ⟩:=bk.at;exact q pb bs b _ bk.sub O.at (bN.same O.sub hb) l d
abbrev s_G:Stmt:=top 75
theorem sc_G:bT ["script","terms","book","cell","low","one","other"] ["script","terms","book"] (zF s_G):=by rfl'
def Sa(ts:List Tm)(t:Tm):Prop:=Sd ts t\/∃u,Sd ts u/\t=.node "not" [u]
inductive spSy (K:W.Frag) (vs:List V) (H:Hp) (Q:VK) (E:XK):Prop
 |mk (a ta ba:Addr) (ns:List Int) (us bs:List V) (ts:List Tm) (b:List lK) (_:vs=[.ref a,.ref ta,.ref ba]) (_:cX K H a (ns.map V.int)) (_:H ta=some (.lst us)) (_:eI H ts us) (_:ts.length=7) (_:H ba=some (.lst bs)) (_:fT H b bs) (_:b.length<=10) (_:(∀r∈b,ko (Sd ts) r)) (_:∀v s H',aW H H'->pX H' s v->Sa ts s.1->Sa ts s.2->Q v H')
theorem gQ.not1{t:Tm}(h:gQ H t v)(hp:H p=some (.tup [.str "not",v])):gQ H (.node "not" [t]) (.ref p):=#[p,_,rfl,hp,_,_,rfl,rfl,_,_,rfl,h,rfl]
theorem MP.mk2{ps:List (Tm×Tm)}{l:Addr}(hl:H l=some (.lst us))(h:tR H ps us)(hs:pX H s v)(hp:H p=some (.tup [.ref l,v])):MP H (ps,s) (.ref p):=#[p,_,rfl,hp,_,_,rfl,#[l,us,rfl,hl,h],_,_,rfl,hs,rfl]
theorem NU(bi:Bi mg)(h_i:fZ P w K mg base 1 "_law_cell_at" ["script","k"] (uD K))(h_J:fZ P w K mg base 1 "_law_side" ["cell","terms"] fm)(F:gF K "_law_saying" "_law_saying" s_G f fd):dC P w K mg base fU 2 f fd ["script","terms","book"] (spSy K):=by
 refine F.okz sc_G λeZ A outer s H vs Q E hr h=>?_
 let⟨a,ta,ba,ns,us,bs,ts,b,rfl,hS,D,I,X,i,hb,hbl,S,q⟩:=h;let mO:ts≠[]:=λz=>by rw[z]at X;cases X
 let hbs:=fT.length hb;calc#[_,have nd:=sc_G.nd;zC #[]<|zC #[]<|zC #[]<|zC #[]<|zC (yK #[] (zH<|yW 5 nd<|zL xP (zL xP (zL zQ #[] zJ) zJ) zJ) zS)<|zC (yK #[] (zH<|yW 6 nd<|zL xP (zL xP (zL zQ #[] #[]) zJ) zJ) zS) #[],?_];refine zD λN d=>?_
 dsimp![];calc#[a,ns,1,rfl,hS,#[#[(),(),()],_,rfl,n6,d _ _ ?_]];clear d;generalize ns.getD 1 0 % 10^Int.toNat 12=cell;refine zD λN d=>?_
 dsimp![];calc#[#[(),()],.inr #[(),()],(),#[(),()],d _ _ ?_];clear d;generalize cell/4*45991 % 2147483587/16=low;refine zD λN d=>?_
 dsimp![];calc#[low,ta,us,ts,rfl,D,I,mO,(),λv1 t1 H1 s1 g m=>d _ _ ?_];clear d;refine zD λN d=>?_
 dsimp![];calc#[#[(),()],low/64,ta,us,ts,rfl,s1 _ _ D,bN.same s1 I,mO,(),λv2 t2 H2 s2 n o=>d _ _ ?_];clear d;replace g:=eE.same s2 g;replace s1:=s1.trans s2;clear s2;let rule:∀(k:Nat)(u:V),bs[k]?=some u->∃(x c:Addr)(lv y B:V)(r:lK),u=.ref x/\H2 x=some (.tup [lv,.ref c])/\H2 c=some (.tup [y,B])/\gQ H2 r.2.1 y/\gQ H2 r.2.2 B/\ko (Sd ts) r:=λk u hu=>by
  let⟨r,nG,T⟩:=fT.getV hb hu;let⟨x,l,c',vs',t,J,_,_,R⟩:=T.out;let⟨c,y,B,C,L,k6,k7⟩:=R.out;subst t C;exact#[x,c,.ref l,y,B,r,rfl,s1 _ _ J,s1 _ _ L,eE.same s1 k6,eE.same s1 k7,S r<|aR nG]
 refine zM (λσ G=>G=H2/\∃(v1:V)(t1:Tm),gQ H2 t1 v1/\Sd ts t1/\σ=[some<|V.ref a,some<|V.ref ta,some<|V.ref ba,some<|V.int cell,some<|V.int low,some v1,some v2]) (λN d=>?_) λσ G h=>?_
 ·dsimp![];let keep:=d _ _ #[rfl,v1,t1,g,m,rfl];calc#[bs.length,.inl #[_,cX.of<|s1 _ _ i,rfl],?_];by_cases M:(0:Int)<(bs.length:Int)
  ·rw[aL M];calc#[(),?_];by_cases v:0<cell % 4
   ·rw[aL v];let h0:bs[0]?=some (bs[0]'()):=aA ();let⟨x,c,lv,y,B,r,t,J,U,Y,R,L⟩:=rule 0 _ h0;exact#[_,cX.of<|s1 _ _ i,_,zN (j:=0) h0,x,t,_,dH.of J,_,pV,c,rfl,_,dH.of U,_,lN,d _ _ #[rfl,y,r.2.1,Y,L.2 _ (bA _ (by simp[pO])),rfl]]
   ·rw[aI v];exact keep
  ·rw[aI M];exact keep
 let⟨rfl,v1,t1,g,m,rfl⟩:=h;refine zM (λσ G'=>G'=G/\∃(v2:V)(t2:Tm),gQ G t2 v2/\Sd ts t2/\σ=[some<|V.ref a,some<|V.ref ta,some<|V.ref ba,some<|V.int cell,some<|V.int low,some v1,some v2]) (λN d=>?_) λσ G' h=>?_
 ·dsimp![];let keep:=d _ _ #[rfl,v2,t2,n,o,rfl];calc#[bs.length,.inl #[_,cX.of<|s1 _ _ i,rfl],?_];by_cases M:(0:Int)<(bs.length:Int)
  ·rw[aL M];calc#[(),?_];by_cases v:1<cell % 4
   ·rw[aL v];let h0:bs[bs.length-1]?=some (bs[bs.length-1]'()):=aA ();let h1:=ML (xs:=bs) (k:=1) (aG _) ();rw[h0]at h1;let⟨x,c,lv,y,B,r,t,J,U,Y,R,L⟩:=rule _ _ h0;exact#[_,cX.of<|s1 _ _ i,_,h1,x,t,_,dH.of J,_,pV,c,rfl,_,dH.of U,_,pV,d _ _ #[rfl,B,r.2.2,R,L.2 _ (bA _ (by simp[pO])),rfl]]
   ·rw[aI v];exact keep
  ·rw[aI M];exact keep
 let⟨rfl,v2,t2,n,o,rfl⟩:=h;refine zD λN d=>?_
 dsimp![];calc#[#[(),()],(),rfl,?_];by_cases v:low/4096 % 2=1
 ·rw[aL v];calc#[small (),λp hp=>#[small (),λZ W=>#[small (),λp2 mE=>?_]]];let t:=zB hp<|.tup [V.str "not",v2];let C:=zB W<|.tup [V.str "not",v1];let O:=zB mE<|.tup [V.ref p,V.ref Z];let n1:=gQ.not1 (eE.same (t.trans<|C.trans O) n)<|(C.trans O) _ _<|zA (H:=G') (a:=p);let n2:=gQ.not1 (eE.same (t.trans<|C.trans O) g)<|O _ _<|zA (a:=Z);exact q _ (_,_) _ (s1.trans<|t.trans<|C.trans O) (pX.mk2 n1 n2 zA) (.inr #[t2,o,rfl])<|.inr #[t1,m,rfl]
 ·rw[aI v];calc d _ _ ?_;clear d;dsimp![];calc#[small (),λp hp=>?_];let e:=zB hp<|.tup [v1,v2];exact q _ (t1,t2) _ (s1.trans e) (pX.mk2 (eE.same e g) (eE.same e n) zA) (.inl m)<|.inl o
noncomputable def EG(m:Nat):List Nat:=(List.range 6).filter λi=>m.testBit i
noncomputable def yA(n:Nat):List (List Nat):=(List.range<|2^n).map EG
noncomputable def oU(x y:List Nat):Bool:=x.all λk=>decide<|k∈y
theorem iX{x y:List Nat}:oU x y=true↔∀k∈x,k∈y:=by
 unfold oU;rw[cW];exact#[λh k hk=>bH.mp<|h k hk,λh k hk=>bH.mpr<|h k hk]
theorem HX{m:Nat}(h:m<64):rR m (EG m):=by
 calc#[fR _ dL,λi=>?_];unfold EG;rw[bY,bH,bM,bL];calc#[λz=>#[?_,z],λz=>z.2];by_cases c:i<6
 ·exact c
 ·rw[Nat.testBit_lt_two_pow<|cF h<|tF (n:=2) ()<|show 6<=i by lia]at z;cases z
theorem FM:∀k,k<6->yA (k+1)=yA k++(yA k).map (· ++[k]):=by decide+kernel
theorem fw:∀n,n<7->(yA n).Nodup:=by decide+kernel
theorem qK:∀n,n<7->∀x∈yA n,(x.length<=6/\oU x (List.range n)=true):=by decide+kernel
theorem AW:∀n,n<7->List.range n∈yA n/\[]∈yA n:=by decide+kernel
theorem fx:∀x∈yA 6,∀y∈yA 6,oU x y=true->y.length<=x.length->x=y:=by decide+kernel
theorem uV:∀n,n<7->∀x∈yA n,x∈yA 6:=by decide+kernel
noncomputable def ar(l:List Int):Int:=((64*l.length+64-(l.map λx=>2^(5-x.toNat)).sum:Nat):Int)
abbrev AC(x:List Nat):List Int:=x.map λ(i:Nat)=>(i:Int)
theorem vk:∀x∈yA 6,∀y∈yA 6,jj (AC x) (AC y)=decide (ar (AC x)<ar (AC y)):=by decide+kernel
theorem vo:∀x∈yA 6,ar (AC x)<=ar (AC [])->x=[]:=by decide+kernel
noncomputable def ND(b:List lK)(x:List Nat):List lK:=x.filterMap λi=>b[i]?
def tT(b:List lK)(s:Tm×Tm)(x:List Nat):Prop:=xk true (ND b x) s
theorem tT.mono{x y:List Nat}(h:tT b s x)(hs:∀k∈x,k∈y):tT b s y:=λm ps S f hr=>h m ps S f λr lL=>by
 let⟨i,hi,e⟩:=eD.mp lL;exact hr r<|eD.mpr #[i,hs i hi,e]
theorem tT.no{x:List Nat}(h:xk false (ND b x) s):¬tT b s x:=λz=>by
 have :=xk.one h z λ_ _ _ _=>Iff.rfl
 cases this
structure Rs(b:List lK)(s:Tm×Tm)(lU:List (List Nat))(i:Nat)(S O:List (List Nat)):Prop where
 sf:∀x∈S,tT b s x
 of:∀x∈O,¬tT b s x
 sub:O.Sublist (lU.take i)
 all:∀x∈lU.take i,(∃y∈S,oU y x=true)\/x∈O
 z:i=0->S=[]
 sl:S.length<=i
 fst:1<=i->tT b s []->S=[[]]
section
variable {x:List Nat}
theorem Rs.zero:Rs b s lU 0 [] []:=#[(λx h=>nomatch h),(λx h=>nomatch h),(by simp),(λx h=>by simp at h),(λ_=>rfl),aG _,(λh=>())]
theorem qV(hx:lU[i]?=some x):lU.take (i+1)=lU.take i++[x]:=by
 let⟨hi,e⟩:=aC.mp hx;rw[aP hi,e]
theorem Rs.skip(h:Rs b s lU i S O)(hx:lU[i]?=some x)(hs:∃y∈S,oU y x=true):Rs b s lU (i+1) S O:=by
 refine#[h.sf,h.of,?_,λy hy=>?_,λz=>(),II h.sl,λ_ z=>h.fst ?_ z]
 ·rw[qV hx];exact h.sub.trans<|List.sublist_append_left _ _
 ·rw[qV hx]at hy;rcases bE.mp hy with hy |hy
  ·exact h.all y hy
  ·rw[aS.mp hy];exact .inl hs
 ·rcases Nat.eq_zero_or_pos i with c |c
  ·let⟨y,hy,_⟩:=hs;rw[h.z c]at hy;cases hy
  ·exact c
theorem Rs.sup(h:Rs b s lU i S O)(hd:lU[0]?=some [])(hx:lU[i]?=some x)(hn:¬∃y∈S,oU y x=true)(hf:tT b s x):Rs b s lU (i+1) (S++[x]) O:=by
 refine#[λy hy=>?_,h.of,?_,λy hy=>?_,λz=>(),by rw[aH];exact Nat.succ_le_succ h.sl,λ_ z=>?_]
 ·rcases bE.mp hy with hy |hy
  ·exact h.sf y hy
  ·rw[aS.mp hy];exact hf
 ·rw[qV hx];exact h.sub.trans<|List.sublist_append_left _ _
 ·rw[qV hx]at hy;rcases bE.mp hy with hy |hy
  ·rcases h.all y hy with⟨a,h1,h2⟩ |h1
   ·exact .inl #[a,cS _ h1,h2]
   ·exact .inr h1
  ·rw[aS.mp hy];exact .inl #[x,by simp,iX.mpr λ_ z=>z]
 ·rcases Nat.eq_zero_or_pos i with c |c
  ·rw[h.z c];subst c;rw[hd]at hx;cases hx;rfl
  ·exact absurd #[[],by rw[h.fst c z];simp,rfl] hn
theorem Rs.opn(h:Rs b s lU i S O)(hx:lU[i]?=some x)(hf:¬tT b s x):Rs b s lU (i+1) S (O++[x]):=by
 refine#[h.sf,λy hy=>?_,?_,λy hy=>?_,λz=>(),II h.sl,λ_ z=>absurd (z.mono (y:=x) λk hk=>by cases hk) hf]
 ·rcases bE.mp hy with hy |hy
  ·exact h.of y hy
  ·rw[aS.mp hy];exact hf
 ·rw[qV hx];exact h.sub.append<|List.Sublist.refl _
 ·rw[qV hx]at hy;rcases bE.mp hy with hy |hy
  ·rcases h.all y hy with h1 |h1
   ·exact .inl h1
   ·exact .inr<|cS _ h1
  ·exact .inr<|bA _ hy
noncomputable def grt(O:List (List Nat)):List (List Nat):=O.filter λx=>decide<|(O.filter<|oU x).length=1
theorem LD:∀{l:List (List Nat)},l≠[]->∃z∈l,∀y∈l,y.length<=z.length
 |[],h=>absurd rfl h
 |a::l,_=>by
  by_cases hl:l=[]
  ·subst hl;exact#[a,by simp,λy hy=>by rw[aS.mp hy];calc aG _]
  ·let⟨z,hz,hm⟩:=LD hl;by_cases c:a.length<=z.length
   ·exact#[z,bB _ hz,λy hy=>by
     rcases bG.mp hy with rfl |hy
     ·exact c
     ·calc hm y hy]
   ·exact#[a,bD,λy hy=>by
     rcases bG.mp hy with rfl |hy
     ·exact aG _
     ·have :=hm y hy;lia]
theorem one_of{l:List (List Nat)}{z:List Nat}(hn:l.Nodup)(hz:z∈l)(h:∀y∈l,y=z):l=[z]:=by
 match l,hn,hz,h with
 |[a],_,_,h=>rw[h a (by simp)]
 |a::c::l,hn,_,h=>
  let e:a=c:=(h a (by simp)).trans (h c (by simp)).symm;rw[e]at hn;simp at hn
theorem jp{l:List (List Nat)}{z y:List Nat}(h:l.length=1)(hz:z∈l)(hy:y∈l):y=z:=by
 match l,h with
 |[a],_=>rw[aS.mp hz,aS.mp hy]
structure Rz(b:List lK)(s:Tm×Tm)(S G:List (List Nat)):Prop where
 sl:S.length<=64
 gl:G.length<=64
 sin:∀x∈S,x∈yA b.length
 gin:∀x∈G,x∈yA b.length
 hv:∀x∈yA b.length,((∃y∈S,oU y x=true)↔tT b s x)
 wi:∀x∈yA b.length,((∃y∈G,oU x y=true)↔¬tT b s x)
 no:S=[]->G=[List.range b.length]
 nn:S=[[]]↔G=[]
theorem Rs.rz(h:Rs b s lU lU.length S O)(hs:∀x∈S,x∈lU)(hp:lU.Perm (yA b.length))(hb:b.length<7)(hl:lU.length<=64):Rz b s S (grt O):=by
 let ht:=h.all;let a:=h.sub;rw[List.take_length]at ht a;let nd:O.Nodup:=a.nodup<|hp.nodup_iff.mpr<|fw _ hb;let c:∀x∈O,x∈yA b.length:=λx hx=>hp.mem_iff.mp<|a.mem hx
 let d:∀x∈grt O,x∈O:=λx hx=>(bM.mp hx).1
 let hv:∀x∈yA b.length,((∃y∈S,oU y x=true)↔tT b s x):=λx hx=>by
  calc#[λ⟨y,h1,h2⟩=>(h.sf y h1).mono (iX.mp h2),λz=>?_];rcases ht x (hp.mem_iff.mpr hx)with h1 |h1
  ·exact h1
  ·exact absurd z<|h.of x h1
 let wi:∀x∈yA b.length,((∃y∈grt O,oU x y=true)↔¬tT b s x):=λx hx=>by
  calc#[λ⟨y,h1,h2⟩ z=>h.of y (d y h1)<|z.mono<|iX.mp h2,λz=>?_];let p:x∈O:=by
   rcases ht x (hp.mem_iff.mpr hx)with h1 |h1
   ·exact absurd ((hv x hx).mp h1) z
   ·exact h1
  let⟨y,h1,h2⟩:=LD (l:=O.filter<|oU x) λe=>by
   have :x∈O.filter (oU x):=bM.mpr #[p,iX.mpr λ_ z=>z];rw[e]at this;cases this
  let⟨f,j⟩:=bM.mp h1;calc#[y,bM.mpr #[f,dA ?_],j];rw[one_of (l:=O.filter<|oU y) (z:=y) (nd.filter _) (bM.mpr #[f,iX.mpr λ_ z=>z]) λw q=>?_]
  ·rfl
  ·let⟨m,n⟩:=bM.mp q;exact(fx y (uV _ hb _<|c y f) w (uV _ hb _<|c w m) n<|h2 w<|bM.mpr #[m,iX.mpr λk hk=>iX.mp n k<|iX.mp j k hk]).symm
 let⟨g,o⟩:=AW _ hb;refine#[bU h.sl hl,bU (dM _ _)<|bU a.length_le hl,λx hx=>hp.mem_iff.mp<|hs x hx,λx hx=>c x<|d x hx,hv,wi,λe=>?_,λe=>?_,λe=>?_]
 ·let no:∀x∈yA b.length,¬tT b s x:=λx hx z=>by
   let⟨y,hy,_⟩:=(hv x hx).mpr z;rw[e]at hy;cases hy
  let fO:List.range b.length∈O:=by
   rcases ht _ (hp.mem_iff.mpr g)with⟨y,hy,_⟩ |h1
   ·rw[e]at hy;cases hy
   ·exact h1
  let only:∀y∈grt O,y=List.range b.length:=λy hy=>by
   let⟨h1,h2⟩:=bM.mp hy;exact jp (bH.mp h2) (bM.mpr #[fO,(qK _ hb y<|c y h1).2]) (bM.mpr #[h1,iX.mpr λ_ z=>z])
  let⟨y,h1,h2⟩:=(wi _ g).mpr (no _ g);exact one_of (nd.filter _) (only y h1▸h1) only
 ·let i:tT b s []:=h.sf [] (by rw[e];simp);refine List.eq_nil_iff_forall_not_mem.mpr λy hy=>h.of y (d y hy) (i.mono λk hk=>by cases hk)
 ·let i:tT b s []:=gX λz=>by
   let⟨y,hy,_⟩:=(wi _ o).mpr z;rw[e]at hy;cases hy
  calc h.fst ?_ i;have :=rY<|hp.mem_iff.mpr o;lia
end
abbrev s_R:Stmt:=top 61
theorem sc_R:bT ["places"] ["places"] (zF s_R):=by rfl'
abbrev s_j:Stmt:=top 62
theorem sc_j:bT ["many"] ["many"] (zF s_j):=by rfl'
abbrev s_S:Stmt:=top 63
theorem sc_S:bT ["some","places"] ["some","places"] (zF s_S):=by rfl'
abbrev s_C:Stmt:=top 64
theorem sc_C:bT ["supports","places"] ["supports","places"] (zF s_C):=by rfl'
abbrev s_r:Stmt:=top 65
theorem sc_r:bT ["opens","places"] ["opens","places"] (zF s_r):=by rfl'
abbrev s_W:Stmt:=top 66
theorem sc_W:bT ["opens"] ["opens"] (zF s_W):=by rfl'
abbrev s_p:Stmt:=top 50
theorem sc_p:bT ["lines","numbers"] ["lines","numbers"] (zF s_p):=by rfl'
def IC(H:Hp)(x:List Nat)(v:V):Prop:=∃(a p:Addr)(x1 x2:V),v=.ref a/\H a=some (.tup [.ref p,x1,x2])/\H p=some (.lst<|x.map nV)
def fX(H:Hp):List (List Nat)->List V->Prop
 |[],us=>us=[]
 |x::xs,us=>∃v r,us=v::r/\IC H x v/\fX H xs r
theorem IC.same{x:List Nat}(e:aW H H')(h:IC H x v):IC H' x v:=by
 let⟨a,p,x1,x2,rfl,h1,h2⟩:=h;exact#[a,p,x1,x2,rfl,e _ _ h1,e _ _ h2]
theorem fX.same{H H':Hp}(e:aW H H'):∀{xs:List (List Nat)}{us:List V},fX H xs us->fX H' xs us
 |[],_,h=>h
 |_::_,_,⟨v,r,a,h1,h2⟩=>#[v,r,a,h1.same e,fX.same e h2]
theorem fX.len{H:Hp}:∀{xs:List (List Nat)}{us:List V},fX H xs us->us.length=xs.length
 |[],us,h=>by rw[show us=[]from h];rfl
 |_::_,_,⟨v,r,a,_,h2⟩=>by rw[a,bJ,bJ,fX.len h2]
theorem fX.get{H:Hp}:∀{xs:List (List Nat)}{us:List V}{i:Nat}{v:V},fX H xs us->us[i]?=some v->∃x,xs[i]?=some x/\IC H x v
 |[],us,i,v,h,hv=>by rw[show us=[]from h]at hv;cases hv
 |x::xs,_,0,v,⟨v',r,a,h1,h2⟩,hv=>by
  rw[a]at hv;cases hv;exact#[x,rfl,h1]
 |x::xs,_,i+1,v,⟨v',r,a,h1,h2⟩,hv=>by
  rw[a]at hv;exact fX.get (xs:=xs) h2 hv
theorem fX.put{H:Hp}{x:List Nat}{v:V}(hx:IC H x v):∀{xs:List (List Nat)}{us:List V},fX H xs us->fX H (xs++[x]) (us++[v])
 |[],us,h=>by rw[show us=[]from h];exact#[v,[],rfl,hx,rfl]
 |_::_,_,⟨v',r,a,h1,h2⟩=>#[v',r++[v],by rw[a];rfl,h1,fX.put hx h2]
theorem xD{α:Type}{l:List α}{x:α}(h:l[i]?=some x):l.take (i+1)=l.take i++[x]:=by
 let⟨hi,e⟩:=aC.mp h;rw[aP hi,e]
theorem jf(n:Nat)(xs:List Nat):∀e∈xs.map λ(x:Nat)=>Dt.int (x:Int),kX n e:=λe he=>by
 let⟨i,_,rfl⟩:=bV.mp he;cases n<;>trivial
inductive qz (vs:List V) (H:Hp) (Q:VK) (E:XK):Prop
 |mk (a p:Addr) (x y:List Nat) (_:vs=[.ref a,.ref p]) (_:H a=some (.lst<|x.map nV)) (_:H p=some (.lst<|y.map nV)) (_:x.length<=100) (_:∀H',aW H H'->Q (.bl<|oU x y) H')
inductive mf (vs:List V) (H:Hp) (Q:VK) (E:XK):Prop
 |mk (a p:Addr) (xs:List (List Nat)) (y:List Nat) (us:List V) (_:vs=[.ref a,.ref p]) (_:H a=some (.lst us)) (_:fX H xs us) (_:xs.length<=100) (_:(∀x∈xs,x.length<=100)) (_:H p=some (.lst<|y.map nV)) (_:∀H',aW H H'->Q (.bl<|xs.any λx=>oU x y) H')
inductive spTa (vs:List V) (H:Hp) (Q:VK) (E:XK):Prop
 |mk (a p:Addr) (xs:List (List Nat)) (y:List Nat) (us:List V) (_:vs=[.ref a,.ref p]) (_:H a=some (.lst us)) (_:fX H xs us) (_:xs.length<=100) (_:H p=some (.lst<|y.map nV)) (_:y.length<=100) (_:∀l ws H',aW H H'->H' l=some (.lst ws)->ws.length=(xs.filter<|oU y).length->Q (.ref l) H')
inductive spGr (vs:List V) (H:Hp) (Q:VK) (E:XK):Prop
 |mk (a:Addr) (xs:List (List Nat)) (us:List V) (_:vs=[.ref a]) (_:H a=some (.lst us)) (_:fX H xs us) (_:xs.length<=100) (_:(∀x∈xs,x.length<=100)) (_:∀l ws H',aW H H'->H' l=some (.lst ws)->fX H' (grt xs) ws->Q (.ref l) H')
inductive spWr (vs:List V) (H:Hp) (Q:VK) (E:XK):Prop
 |mk (p:Addr) (v:V) (x:List Nat) (_:vs=[v,.ref p]) (_:H p=some (.lst<|x.map nV)) (_:PaR H v x.length) (_:∀l H',aW H H'->Q (.ref l) H')
theorem CA(bi:Bi mg)(F:gF K "order_of" "order_of" s_R f fd):dC P w K mg base fU 1 f fd ["places"] QB:=by
 refine F.okz sc_R λeZ A outer s H vs Q E hr h=>?_
 let⟨a,ns,rfl,ha,q⟩:=h;calc#[_,have nd:=sc_R.nd;#[],?_];dsimp![];calc#[_,.inl #[_,cX.of ha,rfl],small (),λp hp=>?_];have :=q p hp;rwa[aD]
theorem GN(bi:Bi mg)(F:gF K "lies_in" "lies_in" s_S f fd):dC P w K mg base fU 1 f fd ["some","places"] qz:=by
 refine F.okz sc_S λeZ A outer s H vs Q E hr h=>?_
 let⟨a,p,x,y,rfl,ha,hp,hl,q⟩:=h;calc#[_,have nd:=sc_S.nd;zH<|zP<|yH JK rfl bi.all HV<|zG (zT ["place"] ["places"] [1] #[] (λ_ _ _ _ nd=>zZ 0 nd) (λ_ _ _ _=>zW) λ_ _ _ _=>(vV (ux hr.units) #[] #[] (by with_unfolding_all rfl))) zI,?_];dsimp![];calc#[#[_,cX.of ha],?_];refine yT (xs:=x.map nV) (λi ys σ H'=>aW H H'/\ys=((x.take i).map λk=>decide<|k∈y).map V.bl/\∃o,σ=[o,some<|V.ref p]) #[aW.refl _,rfl,_,rfl] (small (by rw[aD];lia)) (λi ys σ H' e=>?_) (λi ys σ H' e=>cX.of<|e.1 _ _ ha) (λi v ys σ H' C hv e b=>?_) λys σ H' e l hl=>?_
 ·rw[e.2.1,aD,aD,bF];lia
 ·let⟨ex,rfl,o,rfl⟩:=e;rw[aJ]at hv;let⟨k,hk,rfl⟩:=aM.mp hv;dsimp![SQ];calc#[1,.int k,rfl,_,.inl<|kJ<|ex _ _ hp,jf _ _,(),?_];rw[GU,Bool.false_xor];calc b _ _ _ #[ex,?_,_,rfl];rw[xD hk,aT,aT];rfl
 let⟨ex,rfl,o,rfl⟩:=e;rw[aD,aQ<|aG _];calc#[l,rfl,_,cX.of zA,?_];have :=q _ (ex.trans<|zB hl<|.lst<|(x.map λk=>decide<|k∈y).map V.bl);rwa[pC]
theorem XR(bi:Bi mg)(ban:mg "any"=none)(h_S:fZ P w K mg base 1 "lies_in" ["some","places"] qz)(F:gF K "has_support" "has_support" s_C f fd):dC P w K mg base fU 2 f fd ["supports","places"] mf:=by
 refine F.okz sc_C λeZ A outer s H vs Q E hr h=>?_
 let⟨a,p,xs,y,us,rfl,ha,d,hl,hx,hp,q⟩:=h;let nF:=d.len;calc#[_,have nd:=sc_C.nd;zH<|zP<|yH b7 rfl ban wy<|zG (zT ["support"] ["places"] [1] #[] (λ_ _ _ _ nd=>zZ 0 nd) (λ_ _ _ _=>zW) λ_ _ _ _=>(zU h_S hr.m rfl<|zG (zL (yQ K) #[] zJ) #[])) zI,?_];dsimp![];calc#[#[_,cX.of ha],?_];refine yT (xs:=us) (λi ys σ H'=>aW H H'/\ys=((xs.take i).map λx=>oU x y).map V.bl/\∃o,σ=[o,some<|V.ref p]) #[aW.refl _,rfl,_,rfl] (small ()) (λi ys σ H' e=>?_) (λi ys σ H' e=>cX.of<|e.1 _ _ ha) (λi v ys σ H' C hv e g=>?_) λys σ H' e l hl=>?_
 ·rw[e.2.1,aD,aD,bF];lia
 ·let⟨ex,rfl,o,rfl⟩:=e;let⟨x,b,c⟩:=d.get hv;let⟨r,j,t,u,rfl,k,n⟩:=c.same ex;dsimp![];calc#[_,dH.of k,_,lN,j,p,x,y,rfl,n,ex _ _ hp,hx x<|aR b,λH2 s2=>g _ _ _ #[ex.trans s2,?_,_,rfl]];rw[xD b,aT,aT];rfl
 let⟨ex,rfl,o,rfl⟩:=e;rw[nF,aQ<|aG _];have :=q _ (ex.trans<|zB hl<|.lst<|(xs.map λx=>oU x y).map V.bl);calc#[l,rfl,_,cX.of zA,?_];rwa[List.any_map]
theorem ZY(bi:Bi mg)(h_S:fZ P w K mg base 1 "lies_in" ["some","places"] qz)(F:gF K "those_around" "those_around" s_r f fd):dC P w K mg base fU 2 f fd ["opens","places"] spTa:=by
 refine F.okz sc_r λeZ A outer s H vs Q E hr h=>?_
 let⟨a,p,xs,y,us,rfl,ha,k,hl,hp,hy,q⟩:=h;let nF:=k.len;calc#[_,have nd:=sc_r.nd;zH<|zP<|zT ["one"] ["places"] [1] #[] (λ_ _ _ _ nd=>zZ 0 nd) (λ_ _ _ _=>jG<|kZ<|zU h_S hr.m rfl<|zG #[]<|zG (zL (yQ K) #[] zJ) zI) λ_ _ _ _=>#[],?_];dsimp![];calc#[#[_,cX.of ha],?_];refine qB (xs:=us) (λi ys σ H'=>aW H H'/\ys.length=((xs.take i).filter (oU y)).length/\∃o,σ=[o,some<|V.ref p]) #[aW.refl _,rfl,_,rfl] (small ()) (λi ys σ H' e=>?_) (λi ys σ H' e=>cX.of<|e.1 _ _ ha) (λi v ys σ H' C D hv e n r=>?_) λys σ H' e l hl=>?_
 ·rw[e.2.1];exact bU (dM _ _) (by rw[bF];lia)
 ·let⟨ex,b,o,rfl⟩:=e;let⟨x,g,j⟩:=k.get hv;let⟨B,t,G,I,rfl,u,z⟩:=j.same ex;dsimp![];calc#[_,dH.of u,_,lN,p,t,y,x,rfl,ex _ _ hp,z,hy,λH2 s2=>?_];let d:((xs.take<|i+1).filter (oU y)).length=((xs.take i).filter (oU y)).length+(if oU y x=true then 1 else 0):=by
   rw[xD g,dF,aH]
   congr 1
   rw[gK];split<;>rfl
  by_cases c:oU y x=true
  ·rw[aL c]at d;calc#[_,rfl,?_];rw[aL c];exact n _ _ _ #[ex.trans s2,by rw[aH,b,d];rfl,_,rfl]
  ·rw[aI c]at d;calc#[_,rfl,?_];rw[aI c];exact r _ _ #[ex.trans s2,by rw[b,d];rfl,_,rfl]
 let⟨ex,b,o,rfl⟩:=e;rw[nF,aQ<|aG _]at b;exact q l _ _ (ex.trans<|zB hl _) zA b
theorem CK(bi:Bi mg)(h_r:fZ P w K mg base 2 "those_around" ["opens","places"] spTa)(F:gF K "greatest" "greatest" s_W f fd):dC P w K mg base fU 3 f fd ["opens"] spGr:=by
 refine F.okz sc_W λeZ A outer s H vs Q E hr h=>?_
 let⟨a,xs,us,rfl,ha,j,hl,hx,q⟩:=h;let nF:=j.len;calc#[_,have nd:=sc_W.nd;zH<|zP<|zT ["one"] ["opens"] [0] #[] (λ_ _ _ _ nd=>zZ 0 nd) (λ_ _ _ _=>jG<|yG ZP (yH (QU K) rfl bi.len wR<|zG (zU h_r hr.m rfl<|zG #[]<|zG (zL (yQ K) #[] zJ) zI) zI) zJ<|yL _) λ_ _ _ _=>#[],?_];dsimp![];calc#[#[_,cX.of ha],?_];refine qB (xs:=us) (λi ys σ H'=>aW H H'/\fX H' ((xs.take i).filter λx=>decide<|(xs.filter<|oU x).length=1) ys/\∃o,σ=[o,some<|V.ref a]) #[aW.refl _,rfl,_,rfl] (small ()) (λi ys σ H' e=>?_) (λi ys σ H' e=>cX.of<|e.1 _ _ ha) (λi v ys σ H' C D hv e z B=>?_) λys σ H' e l hl=>?_
 ·rw[e.2.1.len];exact bU (dM _ _) (by rw[bF];lia)
 ·let⟨ex,g,o,rfl⟩:=e;let⟨x,b,k⟩:=j.get hv;let d:=k.same ex;let⟨p,r,G,I,rfl,t,u⟩:=d;dsimp![];calc#[_,dH.of t,_,lN,a,r,xs,x,us,rfl,ex _ _ ha,j.same ex,hl,u,hx x<|aR b,λl ws H2 s2 J L=>#[_,.inl #[_,cX.of J,rfl],rfl,?_]];let hn:ws.length=(xs.filter<|oU x).length:=L;let go:fX H2 (((xs.take i).filter λx=>decide<|(xs.filter<|oU x).length=1)) ys:=g.same s2;let n:IC H2 x (.ref p):=#[p,r,G,I,rfl,s2 _ _ t,s2 _ _ u]
  by_cases c:(ws.length:Int)=1
  ·rw[aL c];calc z _ _ _ #[ex.trans s2,?_,_,rfl];rw[xD b,dF,gK,aL<|dA ()];exact fX.put n go
  ·rw[aI c];calc B _ _ #[ex.trans s2,?_,_,rfl];rw[xD b,dF,gK,aI (by rw[bH];lia),List.filter_nil,cK];exact go
 let⟨ex,g,o,rfl⟩:=e;rw[nF,aQ<|aG _]at g;let y:=zB hl<|.lst ys;exact q l _ _ (ex.trans y) zA<|g.same y
theorem ZD(bi:Bi mg)(F:gF K "with_rules_as" "with_rules_as" s_p f fd):dC P w K mg base fU 1 f fd ["lines","numbers"] spWr:=by
 refine F.okz sc_p λeZ A outer s H vs Q E hr h=>?_
 let⟨p,v,x,rfl,hp,⟨a,us,ls,rfl,ha,I,hl,lL⟩,q⟩:=h;let nF:us.length=ls.length:=by have :=bN.length I;rwa[aD]at this
 calc#[_,have nd:=sc_p.nd;zH<|zP<|zT ["i","j","why"] ["numbers"] [1] #[] (λ_ _ _ _ nd=>jQ (K:=K) (n:=3) rfl<|zV (zZ 0 nd)<|zV (zZ 1 nd)<|zV (zZ 2 nd) xW) (λ_ _ _ _=>zW) λ_ _ _ _=>(yI<|zG #[]<|zG #[]<|zG (qX (yG ZP (zL (yQ K) #[] zJ) xX<|yL _) (yI<|zG xX<|zG (zL (qD K) #[]<|zL (yQ K) #[] zJ)<|zG (zL (yQ K) #[] zJ) zI) #[]) zI),?_];dsimp![];calc#[#[_,cX.of ha],?_];refine yT (xs:=us) (λi ys σ H'=>aW H H'/\ys.length=i/\∃o1 o2 d,σ=[o1,o2,d,some<|V.ref p]) #[aW.refl _,rfl,_,_,_,rfl] (RW ()) (λi ys σ H' e=>?_) (λi ys σ H' e=>cX.of<|e.1 _ _ ha) (λi v ys σ H' C hv e J=>?_) λys σ H' e l hl=>?_
 ·rw[e.2.1];exact aG _
 ·let⟨ex,g,o1,o2,d,rfl⟩:=e;let⟨l,k,m⟩:=xG (f:=MG) I hv;let⟨la,lb,ws,rfl,M,o,L⟩:=LnAt.out m;let⟨O,t⟩:=lL l<|aR k;let u:∀{a b c:V},pU [a,b,c] 2=some c:=zN (j:=2) rfl;dsimp![uP,jK,vK];calc#[_,dH.of<|ex _ _ M,rfl,_,_,rfl,_,_,rfl,_,_,rfl,rfl,lb,rfl,_,dH.of<|ex _ _ o,_,lN,rfl,?_];by_cases y:l.w="rule"
  ·rw[aL (by rw[y])];let⟨r,ps,B,hn⟩:=t y;rw[B]at L;let⟨v1,r1,rfl,D,v2,N,rfl,R,G⟩:=L;let G:N=[]:=G;subst G;let D:v1=.int r:=D;subst D;refine#[lb,rfl,_,dH.of<|ex _ _ o,_,pV,_,rfl,_,cX.of<|ex _ _ hp,_,zN (by rw[aJ,aA hn];rfl),lb,rfl,_,dH.of<|ex _ _ o,_,u,small (),λS h1=>#[small (),λp2 h2=>J _ _ _ #[ex.trans<|(zB h1 _).trans (zB h2 _),by rw[aH,g];rfl,_,_,_,rfl]]]
  ·rw[aI λz=>y<|V.str.inj z];exact#[small (),λp2 h2=>J _ _ _ #[ex.trans<|zB h2 _,by rw[aH,g];rfl,_,_,_,rfl]]
 let⟨ex,g,o1,o2,d,rfl⟩:=e;exact q l _<|ex.trans<|zB hl _
noncomputable def bx(H:Hp)(a:Addr):List Nat:=match H a with
 |some (.lst vs)=>vs.filterMap λv=>match v with | .int i=>some i.toNat |_=>none
 |_=>[]
theorem DW{x:List Nat}(h:H a=some (.lst<|x.map nV)):bx H a=x:=by
 unfold bx;rw[h];show(x.map nV).filterMap _=x;rw[mC];exact(show x.filterMap some=x by simp)
theorem qk(x:List Nat):(AC x).map V.int=x.map nV:=by
 rw[dX];rfl
def gC(H:Hp)(lU:List (List Nat))(as:List Addr):Prop:=as.length=lU.length/\∀(i:Nat)(a:Addr)(x:List Nat),as[i]?=some a->lU[i]?=some x->H a=some (.lst<|x.map nV)
theorem gC.same(e:aW H H')(h:gC H lU as):gC H' lU as:=#[h.1,λi a x h1 h2=>e _ _<|h.2 i a x h1 h2]
theorem gC.app{S':List (List Nat)}{iQ:List Addr}(h:gC H S as)(h':gC H S' iQ):gC H (S++S') (as++iQ):=by
 let hl:=h.1;calc#[by rw[aH,aH,h.1,h'.1],λi c y hc hy=>?_];by_cases a:i<as.length
 ·rw[aZ a]at hc;rw[aZ ()]at hy;exact h.2 i c y hc hy
 ·rw[bI ()]at hc;rw[bI (),←hl]at hy;exact h'.2 _ c y hc hy
theorem gC.put{x:List Nat}(h:gC H S as)(k:H a=some (.lst<|x.map nV)):gC H (S++[x]) (as++[a]):=h.app #[rfl,λi c y hc hy=>by
 cases i with
 |zero=>cases hc;cases hy;exact k
 |succ i=>cases hc]
theorem OM{l:List (List Nat)}(hp:l.Perm (yA n))(hn:n<7)(hw:l.Pairwise λx y=>ar (AC x)<=ar (AC y)):l[0]?=some []:=by
 let h0:[]∈l:=hp.mem_iff.mpr (AW n hn).2;cases l with
 |nil=>cases h0
 |cons a l=>
  rcases bG.mp h0 with e |h0
  ·rw[←e];rfl
  ·have :=vo a (uV n hn a<|hp.mem_iff.mp bD)<|(ER.mp hw).1 _ h0;rw[this];rfl
def Rise(l:List (List Nat)):Prop:=l.Pairwise λx y=>ar (AC x)<=ar (AC y)
theorem RP{B:List (List Nat)}{l:Addr}{Q:VK}(hn:n<7)(hl:H l=some (.lst<|as.map V.ref))(ha:gC H B as)(hb:B.length<=64)(hB:∀x∈B,x∈yA n)
 (q:∀(p:Addr)(iQ:List Addr)(T:List (List Nat))(H':Hp),aW H H'->H p=none->H' p=some (.lst<|iQ.map V.ref)->gC H' T iQ->T.Perm B->Rise T->(∀a∈iQ,a∈as)->Q (.ref p) H'):
 ∃as0:List Addr,H l=some (.lst<|as0.map V.ref)/\as0.length<=1000/\∃nf:Addr->List Int,(∀x∈as0,H x=some (.lst<|(nf x).map V.int)/\(nf x).length<=1000)/\∃κ:List Int->Int,(∀x∈as0,∀y∈as0,jj (nf x) (nf y)=decide (κ (nf x)<κ (nf y)))/\
  ∀(p:Addr)(iQ:List Addr)(H':Hp),aW H H'->H p=none->H' p=some (.lst<|iQ.map V.ref)->iQ.Perm as0->iQ.Pairwise (λx y=>κ (nf x)<=κ (nf y))->Q (.ref p) H':=by
 let d:=ha.1;let in_:∀a∈as,∃x,H a=some (.lst<|x.map nV)/\x∈yA n:=λa h=>by
  let⟨j,g⟩:=iV.mp h;obtain⟨x,hx⟩:∃x,B[j]?=some x:=#[_,aA (by rw[←d];calc(aC.mp g).1)]
  exact#[x,ha.2 j a x g hx,hB x<|aR hx]
 refine#[as,hl,(),λa=>AC<|bx H a,λa h=>?_,ar,λa h c hc=>?_,λp iQ H' s' hf k hp o=>?_]
 ·let⟨x,b,f⟩:=in_ a h;show H a=some (.lst<|(AC<|bx H a).map V.int)/\(AC<|bx H a).length<=1000;rw[DW b,qk,aD];exact#[b,by have :=(qK n hn x f).1;lia]
 ·let⟨x,b,f⟩:=in_ a h;let⟨y,r,s⟩:=in_ c hc;show jj (AC<|bx H a) (AC<|bx H c)=decide (ar (AC<|bx H a)<ar (AC<|bx H c));rw[DW b,DW r];exact vk x (uV n hn x f) y<|uV n hn y s
 ·refine q p iQ (iQ.map<|bx H) H' s' hf k #[by rw[aD],λi a x h1 h2=>?_] ?_ (fW.mpr o) λa h=>hp.mem_iff.mp h
  ·rw[aJ,h1]at h2;cases h2;let⟨x,m,t⟩:=in_ a<|hp.mem_iff.mp<|aR h1;rw[DW m];exact s' _ _ m
  ·let e:as.map (bx H)=B:=by
    refine List.ext_getElem? λj=>?_
    rw[aJ];by_cases c:j<as.length
    ·rw[aA c,aA<|show j<B.length by lia];exact dE some<|DW<|ha.2 j _ _ (aA c)<|aA ()
    ·rw[sS (),sS ()];rfl
   rw[←e];exact hp.map _
inductive spSP (vs:List V) (H:Hp) (Q:VK) (E:XK):Prop
 |mk (n:Nat) (_:vs=[.int n]) (_:n<7) (_:∀p as lU H',aW H H'->H' p=some (.lst<|as.map V.ref)->gC H' lU as->lU.Perm (yA n)->lU[0]?=some []->(∀a∈as,H a=none)->H p=none->Q (.ref p) H')
theorem kH(bi:Bi mg)(h_E:fZ P w K mg base 1 "bits_of" ["mask"] sM)(h_R:fZ P w K mg base 1 "order_of" ["places"] QB)(F:gF K "sets_of_places" "sets_of_places" s_j f fd):dC P w K mg base fU 4 f fd ["many"] spSP:=by
 refine F.okz sc_j λeZ A outer s H vs Q E hr h=>?_
 let⟨n,rfl,hn,q⟩:=h;let c:2^n<=64:=tF (n:=2) () (show n<=6 by lia);calc#[_,have nd:=sc_j.nd;zH<|zP<|TD h_R hr.m rfl bi.sorted rfl<|zG (zT ["mask"] [] [] #[] (λ_ _ _ _ nd=>zZ 0 nd) (λ_ _ _ _=>zW) λ_ _ _ _=>(zU h_E hr.m rfl #[])) zI,?_];dsimp![RH];rw[uE,bS];calc#[#[(),(),()],IL ()<|ES _,Int.lt_of_le_of_lt (Int.ofNat_le.mpr c) (),?_];refine XX (n:=2^n) (λi ys σ H'=>aW H H'/\(∃as:List Addr,ys=as.map V.ref/\gC H' ((List.range i).map EG) as/\∀a∈as,H a=none)/\∃o,σ=[o]) #[aW.refl _,#[[],rfl,#[rfl,λi a x h=>by cases h],λa h=>by cases h],_,rfl] (small ()) (λi ys σ H' e=>?_) (λi ys σ H' C hi e r=>?_) λys σ H' e p hp=>?_
 ·let⟨_,⟨as,rfl,⟨h1,_⟩,_⟩,_⟩:=e;rw[aD,h1,aD,dG];exact aG _
 ·let⟨ex,⟨as,rfl,⟨h1,h2⟩,b⟩,o,rfl⟩:=e;dsimp![];refine#[i,EG i,by simp,HX (),λx hx=>?_,λp H2 s2 hp kp=>r _ _ _ #[ex.trans s2,#[as++[p],by rw[aT];rfl,?_,λa ha=>(bE.mp ha).elim (b a) λz=>by rw[aS.mp z];calc ex.free hp],_,rfl]]
  ·have :=bL.mp (bM.mp hx).1;lia
  ·rw[fY,aT];exact gC.put (gC.same s2 #[h1,h2]) kp
 let⟨ex,⟨as,rfl,⟨h1,h2⟩,b⟩,o,rfl⟩:=e;let g:=zB hp<|.lst<|as.map V.ref;exact#[p,rfl,RP hn zA (gC.same g #[h1,h2]) (by rw[aD,dG];calc c) (λx hx=>hx) λt iQ T j s' hf u k d lL l=>q t iQ T j (ex.trans<|g.trans s') u k d (OM d hn lL) (λa ha=>b a<|l a ha)<|(ex.trans g).free hf]
abbrev sk:Stmt:=top 67
theorem m5:bT ["book","saying","sheet","supports","opens","places","answer"] ["book","saying"] (zF sk):=by rfl'
structure sX(H0 G:Hp)(sa oa:Addr)(S O:List (List Nat))(us ws:List V)(J1 J:Hp):Prop where
 o1:Ov G J1 oa ws
 o2:Ov J1 J sa us
 sub:aW H0 J
 su:fX J S us
 op:fX J O ws
section
variable {H0 G G':Hp} {sa oa:Addr} {ws:List V} {J1:Hp}
theorem sX.all(h:sX H0 G sa oa S O us ws J1 J):aW J G:=h.o2.sub.trans h.o1.sub
theorem sX.ne(h:sX H0 G sa oa S O us ws J1 J):sa≠oa:=λz=>by
 have :=h.o2.at;rw[z,h.o1.no]at this;cases this
theorem sX.ext(h:sX H0 G sa oa S O us ws J1 J)(e:aW G G'):∃J1' J',sX H0 G' sa oa S O us ws J1' J':=by
 let⟨J1',o1,s1⟩:=h.o1.ext e;let⟨J',o2,s2⟩:=h.o2.ext s1;exact#[J1',J',o1,o2,h.sub.trans s2,h.su.same s2,h.op.same s2]
theorem sX.new(h:sX H0 G sa oa S O us ws J1 J)(hp:G p=none)(o:HO):sX H0 (upd G p o) sa oa S O us ws (upd J1 p o) (upd J p o):=by
 let h1:=h.o1.free hp;let e:=zB (h.o2.free h1) o;exact#[h.o1.new hp o,h.o2.new h1 o,h.sub.trans e,h.su.same e,h.op.same e]
theorem sX.down(h:sX H0 G sa oa S O us ws J1 J){o:HO}(hs:a≠sa)(ho:a≠oa)(k:G a=some o):J a=some o:=by
 rw[h.o1.eq,zE ho,h.o2.eq,zE hs]at k;exact k
theorem sX.ps(h:sX H0 G sa oa S O us ws J1 J){x:List Nat}{x1 x2:V}(kp:J p=some (.tup [.ref a,x1,x2]))(ka:H0 a=some (.lst<|x.map nV)):sX H0 (upd G sa<|.lst<|us++[.ref p]) sa oa (S++[x]) O (us++[.ref p]) ws (upd J1 sa<|.lst<|us++[.ref p]) J:=
 #[h.o1.put h.ne _,h.o2.set _,h.sub,fX.put #[p,a,x1,x2,rfl,kp,h.sub _ _ ka] h.su,h.op]
theorem sX.po(h:sX H0 G sa oa S O us ws J1 J){x:List Nat}{x1 x2:V}(kp:J p=some (.tup [.ref a,x1,x2]))(ka:H0 a=some (.lst<|x.map nV)):sX H0 (upd G oa<|.lst<|ws++[.ref p]) sa oa S (O++[x]) us (ws++[.ref p]) J1 J:=
 #[h.o1.set _,h.o2,h.sub,h.su,fX.put #[p,a,x1,x2,rfl,kp,h.sub _ _ ka] h.op]
end
theorem Rs.lens(h:Rs b s lU i S O):O.length<=lU.length:=by
 have :=h.sub.length_le;rw[bF]at this;lia
theorem XC(h:lU.Perm (yA n))(hn:n<7):lU.length<=64:=by
 rw[h.length_eq];unfold yA;rw[aD,dG];exact tF (n:=2) () (show n<=6 by lia)
inductive spRs (vs:List V) (H:Hp) (Q:VK) (E:XK):Prop
 |mk (ba:Addr) (v:V) (bs:List V) (zs:List Str) (G:List Tm) (b:List lK) (s:Tm×Tm) (_:vs=[.ref ba,v]) (_:H ba=some (.lst bs)) (_:fT H b bs) (_:pX H s v) (_:Jb zs G b s) (_:b.length<7) (_:∀(p sa oa:Addr)(us ws:List V)(S O:List (List Nat))(H':Hp),aW H H'->H' p=some (.tup [.ref sa,.ref oa])->H' sa=some (.lst us)->fX H' S us->H' oa=some (.lst ws)->fX H' O ws->Rz b s S O->Q (.ref p) H')
theorem GG(bi:Bi mg)(nU:Gc mg "MOST_RULES" (.int 6))(h_aa:fZ P w K mg base 45 "sheet_of" ["terms"] (spSo K))(h_Z:fZ P w K mg base 1 "terms_in" ["book","saying"] spTI)(h_P:fZ P w K mg base 48 "judge_on" ["sheet","book","saying"] (spJo K))(h_j:fZ P w K mg base 4 "sets_of_places" ["many"] spSP)(h_C:fZ P w K mg base 2 "has_support" ["supports","places"] mf)(h_W:fZ P w K mg base 3 "greatest" ["opens"] spGr)(h_p:fZ P w K mg base 1 "with_rules_as" ["lines","numbers"] spWr)(F:gF K "reasons" "reasons" sk f fd):dC P w K mg base fU 49 f fd ["book","saying"] spRs:=by
 refine F.okz m5 λeZ A outer s H vs Q E hr h=>?_
 let⟨ba,v,bs,zs,G,b,s,rfl,hba,hb,hv,jb,T,q⟩:=h;calc#[_,have nd:=m5.nd;zC (yK (yG WG #[] (TK nU rfl)<|yL _) (zH XJ) zS)<|zC #[]<|zC #[]<|zC #[]<|zC (yC bX rfl #[] #[]<|zH<|yK #[] (zC (yW 6 nd<|zU h_P hr.m rfl<|zG (yY uL rfl bi.list kQ #[])<|zG (zT ["place"] ["book"] [0] #[] (λ_ _ _ _ nd=>zZ 0 nd) (λ_ _ _ _=>zW) λ_ _ _ _=>(zL (qD K) #[] #[])) #[]) #[]) zS) #[],?_];let hbl:=fT.length hb;let htl:=IQ jb.pl;let f20:∀t∈pP b++pO s,iJ 20 t:=λt ht=>(jb.fit t ht).1
 let Y:=DG (zs:=zs) (G:=G) (d:=21) (pP b++pO s) [.no] jb.inn rC.one;let⟨hsh,lO⟩:=DY (pP b++pO s) [.no] f20 sI.one (by simp);let hnum:=DZ (pP b++pO s) [.no] f20;let hl:=Y.len;let hz:=jb.zl;let hG:=jb.gl;let gd:∀t∈pP b++pO s,ln (qT (pP b++pO s) [.no]) t:=λt ht=>v9 (f20 t ht)<|hnum t ht
 let gs:∀{p:Tm×Tm},(∀t∈pO p,t∈pP b++pO s)->dw (qT (pP b++pO s) [.no]) p:=λ{p} h=>#[gd _ (h _ (by simp[pO])),gd _<|h _ (by simp[pO])]
 let gr:∀r∈b,xz (qT (pP b++pO s) [.no]) r:=λr hr=>by
  refine#[jb.pl r hr,λp hp=>gs λt ht=>?_,gs λt ht=>?_]
  ·exact cS _<|nM.mpr #[r,hr,cS _<|nM.mpr #[p,hp,ht]]
  ·exact cS _<|nM.mpr #[r,hr,bA _ ht]
 let g0:dw (qT (pP b++pO s) [.no]) s:=gs λt ht=>bA _ ht
 let hn8:=bU (Y.nms lO) hz;clear gs gd hnum;generalize Z:qT (pP b++pO s) [.no]=aE at hsh lO hl g0 gr hn8;clear Y;refine zD λN U=>?_
 dsimp![];calc#[_,.inl #[_,cX.of hba,rfl],?_];rw[aI ()];calc U _ _ ?_;clear U;refine zD λN U=>?_
 dsimp![];calc#[ba,v,bs,b,s,rfl,hba,hb,hv,(),λpt ut H1 s1 kt ht=>?_];calc#[pt,ut,pP b++pO s,rfl,kt,ht,f20,by rw[Z];lia,λpr rs H2 s2 kr hrw=>U _ _ ?_];clear U;rw[Z]at hrw;replace s2:=s1.trans s2;clear s1 kt ht;refine zD λN U=>?_
 dsimp![];calc#[small (),λsa hsa=>U _ _ ?_];clear U;refine zD λN U=>?_
 dsimp![];calc#[small (),λoa hoa=>U _ _ ?_];clear U;let I:sX H2 (upd (upd H2 sa<|.lst []) oa<|.lst []) sa oa [] [] [] [] (upd H2 sa<|.lst []) H2:=#[Ov.mk0 hoa,Ov.mk0 hsa,aW.refl _,rfl,rfl]
 generalize upd (upd H2 sa<|.lst []) oa (.lst [])=G2 at I⊢;generalize upd H2 sa (.lst [])=J2 at I;clear hsa hoa;refine zM (λσ G=>∃(S O:List (List Nat))(us ws:List V)(J1 J:Hp)(lU:List (List Nat))(o5 o6:Option V),sX H2 G sa oa S O us ws J1 J/\Rs b s lU lU.length S O/\(∀x∈S,x∈lU)/\lU.Perm (yA b.length)/\σ=[some<|V.ref ba,some v,some<|V.ref pr,some<|V.ref sa,some<|V.ref oa,o5,o6]) (λN U=>?_) λσ G h=>?_
 ·dsimp![];calc#[_,.inl #[_,cX.of<|(s2.trans I.all) _ _ hba,rfl],b.length,by rw[hbl],T,λpl as lU H3 s3 kl hns u hhd hfa hfp=>#[pl,rfl,#[_,cX.of kl],?_]];let⟨J3,J0,L⟩:=I.ext s3;let nl:∀{a:Addr}{o:HO},G2 a=none->H3 a=some o->J0 a=some o:=λ{a o} hn k=>L.down (λz=>by rw[z,I.o1.sub _ _ I.o2.at]at hn;cases hn) (λz=>by rw[z,I.o1.at]at hn;cases hn) k
  let kl0:=nl hfp kl;let hns0:gC J0 lU as:=#[hns.1,λi a x h1 h2=>nl (hfa a<|aR h1)<|hns.2 i a x h1 h2]
  refine xH (xs:=as.map V.ref) (λi σ G=>∃(S O:List (List Nat))(us ws:List V)(J1 J:Hp)(o5 o6:Option V),sX J0 G sa oa S O us ws J1 J/\Rs b s lU i S O/\(∀x∈S,x∈lU)/\σ=[some<|V.ref ba,some v,some<|V.ref pr,some<|V.ref sa,some<|V.ref oa,o5,o6]) #[[],[],[],[],J3,J0,_,_,#[L.o1,L.o2,aW.refl _,rfl,rfl],Rs.zero,(λx hx=>nomatch hx),rfl] (λi σ G _ h=>by let⟨_,_,_,_,_,_,_,_,g,_⟩:=h;calc cX.of<|(g.sub.trans g.all) _ _ kl0) (λi x σ G hx h M hM=>?_) λσ G h=>?_
  ·let⟨S,O,us,ws,J1,J,o5,o6,g,B,hS,rfl⟩:=h;rw[aJ]at hx;let⟨a,hia,rfl⟩:=aM.mp hx;obtain⟨x,W⟩:∃x,lU[i]?=some x:=#[_,aA (by rw[←hns.1];calc(aC.mp hia).1)]
   let ka:=hns0.2 i a x hia W;let sJG:=g.sub.trans g.all;dsimp![];let hbd:∀x∈lU,x.length<=6/\oU x (List.range b.length)=true:=λx hx=>qK _ T x<|u.mem_iff.mp hx
   let hxm:=aR W;let nO:i<lU.length:=(aC.mp W).1;let hsl:=B.sl;let hbl64:=XC u T;let hOl:=B.lens;calc#[sa,a,S,x,us,rfl,g.o1.sub _ _ g.o2.at,g.su.same g.all,(),λy hy=>bU (hbd y<|hS y hy).1 (),sJG _ _ ka,λH4 s4=>#[_,rfl,?_]];let⟨J14,J4,tw4⟩:=g.ext s4;by_cases c:(S.any λy=>oU y x)=true
   ·rw[aI (by rw[c];calc Bool.noConfusion)];exact hM _ _ #[S,O,us,ws,_,_,_,_,tw4,B.skip W<|dO.mp c,hS,rfl]
   rw[aL (by simpa using c)];let hn:¬∃y∈S,oU y x=true:=λz=>c<|dO.mpr z
   clear c;let sB:aW H2 H4:=L.sub.trans<|tw4.sub.trans tw4.all;calc#[rs,.inl<|cX.of<|sB _ _ kr,λpl2 hpl2=>?_];let tw5:=tw4.new hpl2<|.lst rs;let e5:=zB hpl2<|.lst rs;let kpl:upd H4 pl2 (.lst rs) pl2=some (.lst rs):=zA;generalize upd H4 pl2 (.lst rs)=H5 at tw5 e5 kpl⊢;replace sB:=sB.trans e5;calc#[#[_,cX.of<|(s4.trans e5) _ _<|sJG _ _ ka],?_];refine yT (xs:=x.map nV) (λn ys σ Hx=>aW H5 Hx/\fT H5 (ND b<|x.take n) ys/\ys.length=n/\∃o,σ=[o,some<|V.ref ba]) #[aW.refl _,rfl,rfl,_,rfl] (small (by rw[aD];have :=(hbd x hxm).1;lia)) (λn ys σ Hx e=>by rw[e.2.2.1];calc aG _) (λn ys σ Hx e=>cX.of<|e.1 _ _<|(s4.trans e5) _ _<|sJG _ _ ka) (λn y ys σ Hx C hy e hC=>?_) λys σ Hx e pb hpb=>?_
   ·let⟨ex,X,hyl,o,rfl⟩:=e;rw[aJ]at hy;let⟨k,hk,rfl⟩:=aM.mp hy;let hkb:=bL.mp<|iX.mp (hbd x hxm).2 k (aR hk);let hku:bs[k]?=some (bs[k]'()):=aA ();let⟨r,nG,hr2⟩:=fT.getV hb hku;dsimp![];calc#[_,cX.of<|(s2.trans<|sB.trans ex) _ _ hba,_,zN hku,hC _ _ _ #[ex,?_,by rw[aH,hyl];rfl,_,rfl]];unfold ND;rw[xD hk,sT,oS,nG,List.filterMap_nil];exact fT.one X<|eE.same (s2.trans sB) hr2
   let⟨ex,X,hyl,o,rfl⟩:=e;rw[aD]at X hyl;rw[aQ<|aG _]at X;let e6:=ex.trans<|zB hpb<|.lst ys;let sb6:=sB.trans e6;let hwt:=jb.fit;let hxl:=(hbd x hxm).1;let hsl2:=fT.length X;refine#[pl2,pb,v,rs,ys,aE,ND b x,s,rfl,e6 _ _ kpl,hrw.same sb6,hsh,lO,(),hn8,zA,bN.same e6 X,(),λr hr=>?_,eE.same (s2.trans sb6) hv,g0,(jb.fit _<|bA _ (by simp[pO])).2,(jb.fit _<|bA _ (by simp[pO])).2,λpj fl x1 x2 H7 s7 kj ver hpa=>#[pj,rfl,_,dH.of kj,_,lN,rfl,?_]]
   ·let⟨k,_,hk⟩:=eD.mp hr;exact gr r<|aR hk
   let at2:∀{a b c:V},pU [a,b,c] 2=some c:=zN (j:=2) rfl;let⟨J17,J7,R⟩:=tw5.ext<|e6.trans s7;let sJ7:=R.sub.trans R.all;cases fl with
   |true=>
    rw[aL rfl];refine#[.inl #[rfl,_,cX.of<|R.o1.sub _ _ R.o2.at],pj,rfl,_,dH.of kj,_,pV,pj,rfl,_,dH.of kj,_,at2,a,x2,x,rfl,sJ7 _ _ ka,?_,λpw H8 s8=>?_]
    ·have :=hpa rfl;rwa[show(ND b x).length=x.length by lia]at this
    let⟨J18,J8,tw8⟩:=R.ext s8;calc#[small (),λp9 hp9=>?_];let D:=tw8.new hp9<|.tup [V.ref a,x1,V.ref pw];let nF:=D.su.len;exact#[us,D.o1.sub _ _ D.o2.at,small (),hM _ _ #[S++[x],O,_,ws,_,_,_,_,D.ps zA ka,B.sup hhd W hn ver,(λy hy=>(bE.mp hy).elim (hS y) λz=>by rw[aS.mp z];calc hxm),rfl]]
   |false=>
    rw[aI λz=>absurd (V.str.inj z) ()];calc#[.inl #[rfl,_,cX.of R.o1.at],pj,rfl,_,dH.of kj,_,pV,pj,rfl,_,dH.of kj,_,at2,small (),λpn hpn=>?_];let D:=R.new hpn<|.tup [V.ref a,x1,x2];let hwl:=D.op.len;exact#[ws,D.o1.at,small (),hM _ _ #[S,O++[x],us,_,_,_,_,_,D.po zA ka,B.opn W<|tT.no ver,hS,rfl]]
  ·let⟨S,O,us,ws,J1,J,o5,o6,g,B,hS,rfl⟩:=h;rw[aD,hns.1]at B;exact U _ _ #[S,O,us,ws,J1,J,lU,_,_,#[g.o1,g.o2,L.sub.trans g.sub,g.su,g.op],B,hS,u,rfl]
 let⟨S,O,us,ws,J1,J,lU,o5,o6,L,rs',hS,u,rfl⟩:=h;dsimp![];let hbl64:=XC u T;let hOl:=rs'.lens;let hm:∀x∈O,x.length<=100:=λx hx=>by
  have :=(qK _ T x<|u.mem_iff.mp<|fQ<|rs'.sub.mem hx).1;lia
 calc#[oa,O,ws,rfl,L.o1.at,L.op.same L.all,(),hm,λl ls H5 s5 kl hg=>#[small (),λp hp=>?_]];let e6:=zB hp<|.tup [V.ref sa,V.ref l];exact q p sa l us ls S (grt O) _ (s2.trans<|L.sub.trans<|L.all.trans<|s5.trans e6) zA ((s5.trans e6) _ _<|L.o1.sub _ _ L.o2.at) (L.su.same<|L.all.trans<|s5.trans e6) (e6 _ _ kl) (hg.same e6)<|rs'.rz hS u T hbl64
def xu(zs:List Str)(G:List Tm)(t:Tm):Prop:=(iJ 20 t/\wt t<=900)/\inG zs G 21 t
def OkR(zs:List Str)(G:List Tm)(r:lK):Prop:=r.1.length<=5/\∀t∈RG r,xu zs G t
section
variable {G G':List Tm}
def Lv(zs:List Str)(G:List Tm)(d m:Nat)(t:Tm):Prop:=iJ d t/\wt t<=m/\inG zs G (d+1) t
theorem Lv.ok{t:Tm}{m:Nat}(h:Lv zs G d m t)(hd:d<=20)(hm:m<=900):xu zs G t:=#[#[iJ.mono h.1 hd,by have :=h.2.1;lia],qE (λ_ z=>z) h.2.2 ()]
theorem Lv.not{t:Tm}{m:Nat}(h:Lv zs G d m t):Lv zs G (d+1) (m+1) (.node "not" [t]):=by
 refine#[?_,?_,.inr<|.inl #[rfl,t,rfl,h.2.2]]
 ·unfold iJ;exact#[.inr<|.inr<|.inl #[rfl,rfl],λu a=>by rw[aS.mp a];calc h.1]
 ·have :=h.2.1;simp only[wt,oM];lia
theorem Sd.lv{t:Tm}(h:Sd ts t)(hf:∀t∈ts,iJ 4 t/\wt t<=13)(hG:∀t∈ts,C.inG zs G 5 t):Lv zs G 5 14 t:=#[(h.fit hf).1,(h.fit hf).2,h.inG hG]
theorem ue{r:lK}(h:ko (Sd ts) r)(hf:∀t∈ts,iJ 4 t/\wt t<=13)(hG:∀t∈ts,inG zs G 5 t):OkR zs G r:=#[by have :=h.1;lia,λt ht=>((h.2 t ht).lv hf hG).ok () ()]
theorem Sa.ok{t:Tm}(h:Sa ts t)(hf:∀t∈ts,iJ 4 t/\wt t<=13)(hG:∀t∈ts,inG zs G 5 t):xu zs G t:=by
 rcases h with h |⟨u,h,rfl⟩
 ·exact(h.lv hf hG).ok () ()
 ·exact((h.lv hf hG).not).ok () ()
end
theorem og{G:List Tm}(hb:b.length<=20)(hr:∀r∈b,OkR zs G r)(h1:xu zs G s.1)(h2:xu zs G s.2)(hz:zs.length<=8)(hG:G.length<=20):Jb zs G b s:=by
 let all:∀t∈pP b++pO s,xu zs G t:=λt ht=>by
  rcases bE.mp ht with ht |ht
  ·let⟨r,nG,ht⟩:=nM.mp ht;exact(hr r nG).2 t ht
  ·let ht:t∈[s.1,s.2]:=ht;rcases bG.mp ht with rfl |ht
   ·exact h1
   ·rw[aS.mp ht];exact h2
 exact#[hb,λr h=>(hr r h).1,λt ht=>(all t ht).1,λt ht=>(all t ht).2,hz,hG]
theorem bq(ns:List Int)(lo hi:Option Int):∃cs:List Int,qI (ns.map V.int) lo hi=cs.map V.int/\cs.length<=ns.length:=by
 let hl:=vN (ns.map V.int) lo hi;rw[aD]at hl;refine#[(ns.drop<|HT.sIx (ns.map V.int).length 0 lo).take (HT.sIx (ns.map V.int).length (ns.map V.int).length hi-HT.sIx (ns.map V.int).length 0 lo),?_,?_]
 ·unfold qI;rw[List.map_take,List.map_drop]
 ·rw[bF,eG];lia
abbrev tf:Stmt:=top 78
theorem nh:bT ["book"] ["book"] (zF tf):=by rfl'
inductive spCp (vs:List V) (H:Hp) (Q:VK) (E:XK):Prop
 |mk (ba:Addr) (bs:List V) (b:List lK) (_:vs=[.ref ba]) (_:H ba=some (.lst bs)) (_:fT H b bs) (_:b.length<=100) (_:(∀r∈b,r.1.length<=5)) (_:∀p us H',aW H H'->H' p=some (.lst us)->fT H' b us->Q (.ref p) H')
theorem i5(bi:Bi mg)(F:gF K "_law_copy" "_law_copy" tf f fd):dC P w K mg base fU 1 f fd ["book"] spCp:=by
 refine F.okz nh λeZ A outer s H vs Q E hr h=>?_
 let⟨ba,bs,b,rfl,d,hb,t,g,q⟩:=h;calc#[_,have nd:=nh.nd;zH<|zP<|zT ["rule"] [] [] #[] (λ_ _ _ _ nd=>zZ 0 nd) (λ_ _ _ _=>zW) λ_ _ _ _=>(yI<|zG (yY (JT K) rfl bi.list kQ<|zG (zL (yQ K) #[] zJ) zI)<|zG (zL (yQ K) #[] zJ) zI),?_];let n:=jM hb;dsimp![];calc#[#[_,cX.of d],?_];refine yT (xs:=bs) (λi ys σ G=>aW H G/\bN G ((b.take i).map DP) ys/\∃o,σ=[o]) #[aW.refl _,rfl,_,rfl] (small ()) (λi ys σ G e=>?_) (λi ys σ G e=>cX.of<|e.1 _ _ d) (λi x ys σ G C hx e v=>?_) λys σ G e p hp=>?_
 ·have :=jM e.2.1;rw[bF]at this;lia
 ·let⟨sG,hd,o,rfl⟩:=e;let⟨r,nG,j⟩:=fT.getV hb hx;let⟨a,l,u,ws,rfl,ha,k,c,nQ⟩:=j.out;let y:=g r<|aR nG;let z:=c.length;dsimp![];calc#[_,dH.of<|sG _ _ ha,_,lN,l,rfl,ws,.inl<|cX.of<|sG _ _ k,λl' iT=>#[_,dH.of<|zB iT _ _ _<|sG _ _ ha,_,pV,small (),λp hp=>v _ _ _ ?_]];let s1:=zB iT<|.lst ws;let s2:=zB hp<|.tup [.ref l',u];let m:=sG.trans<|s1.trans s2;exact#[m,ji nG (bN.same (s1.trans s2) hd) #[p,_,rfl,zA,_,_,rfl,#[l',ws,rfl,s2 _ _ zA,bN.same m c],_,_,rfl,eE.same m nQ,rfl],_,rfl]
 ·let⟨sG,hd,o,rfl⟩:=e;rw[aQ ()]at hd;exact q p ys _ (sG.trans<|zB hp _) zA<|bN.same (zB hp _) hd
abbrev s_N:Stmt:=top 76
theorem sc_N:bT ["script","pool","many","letters","first","names","book","k","cell","rule","at"] ["script","pool","many"] (zF s_N):=by rfl'
abbrev s_L:Stmt:=top 77
theorem sc_L:bT ["script","many","terms","book"] ["script","many"] (zF s_L):=by rfl'
def BkOk(b:List lK)(s:Tm×Tm):Prop:=b.length<7/\∃(zs:List Str)(G:List Tm),Jb zs G b s
def spDr(K:W.Frag)(n:Nat):Sp:=λvs H Q _=>∃(a:Addr)(ns:List Int),vs=[.ref a,.int n]/\n<=5/\cX K H a (ns.map V.int)/\ns.length<=63/\∀p pb sv bs b s H',aW H H'->H' p=some (.tup [.ref pb,sv])->H' pb=some (.lst bs)->fT H' b bs->pX H' s sv->BkOk b s->Q (.ref p) H'
inductive spCh (K:W.Frag) (vs:List V) (H:Hp) (Q:VK) (E:XK):Prop
 |mk (a pa:Addr) (ns:List Int) (m:Nat) (_:vs=[.ref a,.ref pa,.int m]) (_:cX K H a (ns.map V.int)) (_:kq K H pa) (_:(5<=m/\m<=6)) (_:∀p pb sv bs b s H',aW H H'->H' p=some (.tup [.ref pb,sv])->H' pb=some (.lst bs)->fT H' b bs->pX H' s sv->BkOk b s->Q (.ref p) H')
def xo(zs:List Str)(r:lK):Prop:=r.1.length<=1/\∀t∈RG r,∃z∈zs,t=.name z
theorem okN(hz:∀z∈zs,Nm z){t:Tm}(h:∃z∈zs,t=.name z):xu zs [] t:=by
 let⟨z,h1,rfl⟩:=h;exact#[#[hz z h1,by simp[wt]],h1]
section
variable {G:Hp} {pb l pc p2:Addr} {v1 v2 c:V} {t1 t2:Tm}
theorem KU(ov:Ov G J pb us)(hl:G l=none)(hc:upd G l (.lst []) pc=none)(hp:upd (upd G l<|.lst []) pc (.tup [v1,v2]) p2=none)(h1:gQ J t1 v1)(h2:gQ J t2 v2):
 ∃J',Ov (upd (upd (upd G l<|.lst []) pc<|.tup [v1,v2]) p2<|.tup [.ref l,.ref pc]) J' pb us/\aW J J'/\MP J' ([],(t1,t2)) (.ref p2):=by
 let o1:=ov.new hl<|.lst [];let o2:=o1.new hc<|.tup [v1,v2];let d:=zB (ov.free hl)<|.lst [];let c:=zB (o1.free hc)<|.tup [v1,v2];let b:=zB (o2.free hp)<|.tup [.ref l,.ref pc];let e:=d.trans<|c.trans b;exact#[_,o2.new hp _,e,MP.mk2 ((c.trans b) _ _<|zA (a:=l)) rfl (pX.mk2 (eE.same e h1) (eE.same e h2)<|b _ _<|zA (a:=pc)) zA]
theorem TX(ov:Ov G J pb us)(hc:G pc=none)(hl:upd G pc (.tup [v1,v2]) l=none)(hp:upd (upd G pc<|.tup [v1,v2]) l (.lst [.ref pc]) p2=none)(h1:gQ J t1 v1)(h2:gQ J t2 v2)(hs:pX J s c):
 ∃J',Ov (upd (upd (upd G pc<|.tup [v1,v2]) l<|.lst [.ref pc]) p2<|.tup [.ref l,c]) J' pb us/\aW J J'/\MP J' ([(t1,t2)],s) (.ref p2):=by
 let o1:=ov.new hc<|.tup [v1,v2];let o2:=o1.new hl<|.lst [.ref pc];let f:=zB (ov.free hc)<|.tup [v1,v2];let d:=zB (o1.free hl)<|.lst [.ref pc];let b:=zB (o2.free hp)<|.tup [.ref l,c];let e:=f.trans<|d.trans b;exact#[_,o2.new hp _,e,MP.mk2 (b _ _<|zA (a:=l)) #[_,_,rfl,pX.mk2 (eE.same e h1) (eE.same e h2)<|(d.trans b) _ _<|zA (a:=pc),rfl] (eE.same e hs) zA]
end
theorem br(us:List V)(h:j<=us.length):qI us (some (j:Int)) none=us.drop j:=by
 unfold qI;rw[HT.sIx_nat,HT.sIx_none,di h,aQ (by rw[eG];calc aG _)]
theorem wu(us:List V)(h:j<=us.length):qI us none (some (j:Int))=us.take j:=by
 unfold qI;rw[HT.sIx_nat,HT.sIx_none,di h,pJ,Nat.sub_zero]
theorem MF{H:Hp}:∀(k:Nat){ds:List Dt}{us:List V},bN H ds us->bN H (ds.take k) (us.take k)/\bN H (ds.drop k) (us.drop k)
 |0,_,_,h=>#[rfl,h]
 |k+1,[],us,h=>by cases (show us=[]from h);exact#[rfl,rfl]
 |k+1,d::ds,us,h=>by
  let⟨u,a,rfl,h1,h2⟩:=h;let⟨b,c⟩:=MF k h2;exact#[#[u,_,rfl,h1,b],c]
theorem NM(k:Nat)(h:fT H b us):fT H (b.drop k++b.take k) (us.drop k++us.take k):=by
 let⟨a,c⟩:=MF k (show bN H (b.map DP) us from h);unfold fT;rw[aT,List.map_drop,List.map_take];exact bN.append c a
theorem ruN0{x y:Str}(hx:x∈zs)(hy:y∈zs):xo zs ([],(.name x,.name y)):=#[bZ _,λt ht=>by
 let ht:t∈[Tm.name x,Tm.name y]:=ht;rcases bG.mp ht with rfl |ht
 ·exact#[x,hx,rfl]
 ·rw[aS.mp ht];calc#[y,hy,rfl]]
theorem ruN1{x y:Str}{r:lK}(hx:x∈zs)(hy:y∈zs)(hr:xo zs r):xo zs ([(.name x,.name y)],r.2):=#[aG _,λt ht=>by
 let ht:t∈Tm.name x::Tm.name y::pO r.2:=ht;rcases bG.mp ht with rfl |ht
 ·exact#[x,hx,rfl]
 ·rcases bG.mp ht with rfl |ht
  ·exact#[y,hy,rfl]
  ·calc hr.2 t<|bA _ ht]
open PySem.Builtin PySem.Builtin.Str in
theorem ix6:∀n,n<9->(strSliceIndices none (some 6) 1 n).length<=6:=by decide+kernel
open PySem.Builtin PySem.Builtin.Str in
theorem sl6{x:Str}(h:x.length<=8):(Txt.slice x none<|some 6).length<=6/\∀c∈(Txt.slice x none<|some 6).cps.toList,c∈x.cps.toList:=by
 let a:=ix6 x.length ();unfold Txt.slice;split
 ·rename_i e
  simp only[dN,nZ,cP]at e;exact#[(),λc z=>z]
 ·refine#[?_,λc hc=>?_]
  ·show(List.filterMap _ _).toArray.size<=6;rw[aU];exact bU (List.length_filterMap_le _ _) a
  ·rw[AA]at hc;let⟨i,_,e⟩:=eD.mp hc;rw[←cC]at e;exact aR e
theorem nmQ{y:Str}(hd:97<=d/\d<=122)(hl:y.length<=6)(hy:∀c∈y.cps.toList,97<=c/\c<=122):Nm (#[(List.toArray [d])]++"q"++y):=by
 let e:((#[(List.toArray [d])]:Str)++"q"++y).cps.toList=d::113::y.cps.toList:=by
  rw[VW,VW];rfl
 let a:((#[(List.toArray [d])]:Str)++"q"++y).length=2+y.length:=by
  rw[YO,YO];rfl
 refine#[(),(),λc hc=>?_,λz=>?_,λz=>?_]
 ·rw[e]at hc;rcases bG.mp hc with rfl |hc
  ·exact hd
  ·rcases bG.mp hc with rfl |hc
   ·decide
   ·exact hy c hc
 ·rw[z]at e;exact absurd (show("none":Str).cps.toList[1]?=some 113 from dE (λl=>l[1]?) e) ()
 ·rw[z]at e;exact absurd (show("all":Str).cps.toList[1]?=some 113 from dE (λl=>l[1]?) e) ()
theorem VB(bi:Bi mg)(h_i:fZ P w K mg base 1 "_law_cell_at" ["script","k"] (uD K))(F:gF K "_law_chain" "_law_chain" s_N f fd):dC P w K mg base fU 2 f fd ["script","pool","many"] (spCh K):=by
 refine F.okz sc_N λeZ A outer s H vs Q E hr h=>?_
 let⟨a,pa,ns,m,rfl,hS,⟨x,y,z,nx,ny,nz,kp⟩,hm,q⟩:=h;calc#[_,have nd:=sc_N.nd;zC (uY (i:=3) nd rfl (Or.inr rfl) xX)<|zC (uY (i:=4) nd rfl (Or.inr rfl) #[])<|zC (qL (i:=5) ["k"] ["letters","pool","first"] [3,1,4] nd rfl #[] (λ_ _ _ _ nd=>zZ 0 nd) (λ_ _ _ _=>zW) λ_ _ _ _=>(yI<|zG xX<|zG (jO uG (jO uG (zL au #[] #[]) xX)<|xL rg (zL (qD K) #[] zJ) jP<|xV zJ) zI))<|zC #[]<|zC (yC bX rfl #[] #[]<|zC #[]<|zC (yW 9 nd<|yI<|zG #[]<|zG (yI<|zG (zL zQ #[] #[])<|zG (zL zQ #[] #[]) zI) zI)<|zC (yK #[] (zH<|yW 9 nd<|yI<|zG #[]<|zG (yI<|zG (zL zQ #[] #[])<|zG (zL zQ #[] #[]) zI) zI) zS)<|zC (yK #[] (zH<|yW 9 nd<|yI<|zG (FX<|zG (yI<|zG (zL zQ #[] #[])<|zG (zL zQ #[] #[]) zI) zI) #[]) zS) #[])<|zC #[]<|zH<|zP<|yI<|zG (jO GC (xL UQ #[] (xV #[]) jP)<|xL UQ #[] jP<|xV #[])<|zG (yI<|zG (zL zQ #[] zJ)<|zG (zL zQ #[] #[]) zI) zI,?_];refine zD λN v=>?_
 dsimp![];calc v _ _ ?_;clear v;refine zD λN v=>?_
 dsimp![];calc#[a,ns,3,rfl,hS,_,rfl,(),v _ _ ?_];clear v;generalize ns.getD 3 0 % 26=first
 refine zD λN v=>?_
 dsimp![];calc#[(),(),?_];refine XX (n:=(m+1:Int).toNat) (λi ys σ G=>aW H G/\(∃zs:List Str,zs.length=i/\(∀z∈zs,Nm z)/\eI G (zs.map Tm.name) ys)/\∃o,σ=[o,some<|V.str "abcdefghijklmnopqrstuvwxyz",some<|V.ref pa,some<|V.int first]) #[aW.refl _,#[[],rfl,(λz h=>nomatch h),rfl],_,rfl] (small ()) (λi ys σ G e=>?_) (λi ys σ G C hi e hC=>?_) λys σ G e pn hpn=>v _ _ ?_
 ·let⟨_,⟨zs,h1,_,W⟩,_⟩:=e;rw[eI.len W,aD];lia
 ·let⟨sG,⟨zs,h1,h2,W⟩,o,rfl⟩:=e;dsimp![];let⟨d,hd,hd2⟩:=QO<|first+(0+(i:Int));let⟨l6,c6⟩:=sl6 nx.most;let lx:=nx.most;refine#[(),small (),d,hd,small (by show 1+1<=1000;decide),_,cX.of<|sG _ _ kp,_,lN,x,rfl,small (),small ?_,small (),λp hp=>hC _ _ _ #[sG.trans<|zB hp _,#[zs++[#[(List.toArray [d])]++"q"++Txt.slice x none (some 6)],by rw[aH,h1];rfl,λz hz=>?_,?_],_,rfl]]
  ·rw[YO];show 1+1+_<=_;lia
  ·rcases bE.mp hz with hz |hz
   ·exact h2 z hz
   ·rw[aS.mp hz];exact nmQ hd2 l6 λc hc=>nx.low c<|c6 c hc
  ·rw[aT];exact eI.snoc W (zB hp _) #[p,_,rfl,zA,_,_,rfl,rfl,_,_,rfl,rfl,rfl]
 clear v;let⟨sG,⟨zs,h1,h2,W⟩,o,rfl⟩:=e;let eN:=zB hpn<|.lst ys;let kn:upd G pn (.lst ys) pn=some (.lst ys):=zA;replace W:eI (upd G pn<|.lst ys) (zs.map Tm.name) ys:=bN.same eN W;replace sG:=sG.trans eN;generalize upd G pn (.lst ys)=H1 at kn W sG⊢;let hzl:zs.length=m+1:=by lia
 let hyl:ys.length=m+1:=by rw[eI.len W,aD];exact hzl
 clear hpn eN h1 o;let nam:∀{G:Hp}(k:Nat),aW H1 G->k<m+1->∃(u:V)(z:Str),ys[k]?=some u/\z∈zs/\gQ G (.name z) u:=λ{G} k e hk=>by
  let⟨t,g1,g2⟩:=xG (f:=FE) W (aA<|show k<ys.length by lia);rw[aJ]at g1;let⟨z,g3,rfl⟩:=aM.mp g1;exact#[_,z,aA (),aR g3,eE.same e g2]
 refine zD λN v=>?_
 dsimp![];calc#[small (),λpb hpb=>v _ _ ?_];clear v;let ov0:=Ov.mk0 hpb;generalize upd H1 pb (.lst [])=G1 at ov0⊢;refine zM (λσ G=>∃(J:Hp)(us:List V)(b:List lK)(o7 o8 o9:Option V),Ov G J pb us/\aW H1 J/\fT J b us/\b.length=m/\(∀r∈b,xo zs r)/\σ=[some<|V.ref a,some<|V.ref pa,some<|V.int m,some<|V.str "abcdefghijklmnopqrstuvwxyz",some<|V.int first,some<|V.ref pn,some<|V.ref pb,o7,o8,o9,none]) (λN v=>?_) λσ G h=>?_
 ·dsimp![];calc#[(),(),?_];refine qY (n:=(m:Int).toNat) (λi σ G=>∃(J:Hp)(us:List V)(b:List lK)(o7 o8 o9:Option V),Ov G J pb us/\aW H1 J/\fT J b us/\b.length=i/\(∀r∈b,xo zs r)/\σ=[some<|V.ref a,some<|V.ref pa,some<|V.int m,some<|V.str "abcdefghijklmnopqrstuvwxyz",some<|V.int first,some<|V.ref pn,some<|V.ref pb,o7,o8,o9,none]) #[H1,[],[],_,_,_,ov0,aW.refl _,rfl,rfl,(λr h=>nomatch h),rfl] (λi σ G hi h M hM=>?_) λσ G h=>?_
  ·let⟨J,us,b,o7,o8,o9,L,sJ,hb,hbl,O,rfl⟩:=h;refine zD λN v=>?_
   dsimp![];calc#[a,ns,5+i,by simp,aW.seq (sG.trans<|sJ.trans L.sub) hS,#[#[(),(),()],_,rfl,by show(0:Int)<10^9;simp,v _ _ ?_]];clear v;generalize ns.getD (5+i) 0 % 10^Int.toNat 9=cell;let hmi:i<m:=by lia
   let ix:∀{J:Hp}(c:Int),aW H1 J->∃(u:V)(z:Str)(k:Nat),c % (m:Int)=k/\k<m/\ys[k]?=some u/\z∈zs/\gQ J (.name z) u:=λ{J} c e=>by
    let h1:=sL c (show(m:Int)≠0 by lia);let h2:=pK c (show(0:Int)<m by lia);let⟨u,z,g⟩:=nam (c % m).toNat e ();exact#[u,z,(c % m).toNat,(),(),g]
   refine zD λN v=>?_
   dsimp![];let⟨U,z1,X,Y,t1⟩:=nam i sJ ();let⟨u2,z2,a2,m2,t2⟩:=nam (i+1) sJ ();calc#[small (),λl hl=>?_];let B:=zB hl (.lst []) _ _<|L.sub _ _<|sJ _ _ kn;calc#[_,cX.of B,U,by rw[pE];exact zN X,_,cX.of B,u2,by rw[pE];exact zN a2,small (),λpc D=>#[small (),λp2 mE=>v _ _ ?_]];clear v B;let⟨J',S,sJ',hra⟩:=KU L hl D mE t1 t2;let hru:=ruN0 Y m2;generalize upd (upd (upd G l<|.lst []) pc<|.tup [U,u2]) p2 (.tup [V.ref l,V.ref pc])=G' at S⊢;replace hb:fT J' b us:=bN.same sJ' hb;replace sJ:=sJ.trans sJ';clear hl D mE t1 t2 Y m2 X a2 L sJ';generalize (([],(Tm.name z1,Tm.name z2)):lK)=r at hra hru;refine zM (λσ G=>∃(J:Hp)(r:lK)(p2:Addr),Ov G J pb us/\aW H1 J/\fT J b us/\MP J r (.ref p2)/\xo zs r/\σ=[some<|V.ref a,some<|V.ref pa,some<|V.int m,some<|V.str "abcdefghijklmnopqrstuvwxyz",some<|V.int first,some<|V.ref pn,some<|V.ref pb,some<|V.int<|0+(i:Int),some<|V.int cell,some<|V.ref p2,none]) (λN v=>?_) λσ G h=>?_
   ·dsimp![];calc#[(),rfl,?_];by_cases c1:cell % 4=1
    ·rw[aL c1];let⟨U,z1,k1,e1,l1,X,Y,t1⟩:=ix (cell/4) sJ;let⟨u2,z2,k2,e2,l2,_⟩:=ix (cell/32) sJ;let⟨u3,z3,a3,m3,t3⟩:=nam (1+k2) sJ ();calc#[small (),λl hl=>#[#[(),()],(),?_]];let B:=zB hl (.lst []) _ _<|S.sub _ _<|sJ _ _ kn;calc#[_,cX.of B,U,by rw[e1];exact zN X,#[(),()],(),_,cX.of B,u3,by rw[e2];exact zN a3,small (),λpc D=>#[small (),λp3 hp3=>?_]];let⟨J2,R,s2,I⟩:=KU S hl D hp3 t1 t3;exact v _ _ #[J2,_,p3,R,sJ.trans s2,bN.same s2 hb,I,ruN0 Y m3,rfl]
    ·rw[aI c1];exact v _ _ #[J',r,p2,S,sJ,hb,hra,hru,rfl]
   let⟨J2,r2,p3,R,T,hb2,I,Z,rfl⟩:=h;clear hb hra hru S sJ;refine zM (λσ G=>∃(J:Hp)(r:lK)(p2:Addr),Ov G J pb us/\aW H1 J/\fT J b us/\MP J r (.ref p2)/\xo zs r/\σ=[some<|V.ref a,some<|V.ref pa,some<|V.int m,some<|V.str "abcdefghijklmnopqrstuvwxyz",some<|V.int first,some<|V.ref pn,some<|V.ref pb,some<|V.int<|0+(i:Int),some<|V.int cell,some<|V.ref p2,none]) (λN v=>?_) λσ G h=>?_
   ·dsimp![];calc#[(),rfl,?_];by_cases c1:cell % 4=2
    ·rw[aL c1];let⟨U,z1,k1,e1,l1,X,Y,t1⟩:=ix (cell/4) T;let⟨u3,z3,a3,m3,t3⟩:=nam i T ();let⟨x3,lx,cx,vx,e3,k3,k4,k5,k6⟩:=I.out;cases e3;let B:=R.sub _ _<|T _ _ kn;calc#[#[(),()],(),_,cX.of B,U,by rw[e1];exact zN X,_,cX.of B,u3,by rw[pE];exact zN a3,small (),λpc D=>#[small (),λl hl=>?_]];let k3':=(zB D<|.tup [U,u3]).trans (zB hl<|.lst [V.ref pc]) _ _ (R.sub _ _ k3);calc#[_,dH.of k3',_,pV,small (),λp5 hp5=>?_];let⟨J4,ov4,s4,hra4⟩:=TX R D hl hp5 t1 t3 k6;exact v _ _ #[J4,_,p5,ov4,T.trans s4,bN.same s4 hb2,hra4,ruN1 Y m3 Z,rfl]
    ·rw[aI c1];exact v _ _ #[J2,r2,p3,R,T,hb2,I,Z,rfl]
   let⟨J3,r3,p4,ov3,sJ3,hb3,hra3,hru3,rfl⟩:=h;let nF:=fT.length hb3;dsimp![];refine#[.inl #[rfl,_,cX.of ov3.at],us,ov3.at,small (),hM _ _ #[J3,_,b++[r3],_,_,_,ov3.set _,sJ3,fT.one hb3 hra3,by rw[aH,hbl];rfl,(λq hq=>(bE.mp hq).elim (O q) λz=>by rw[aS.mp z];calc hru3),rfl]]
  ·let⟨J,us,b,o7,o8,o9,L,sJ,hb,hbl,O,rfl⟩:=h;exact v _ _ #[J,us,b,_,_,_,L,sJ,hb,(),O,rfl]
 let⟨J,us,b,o7,o8,o9,L,sJ,hb,hbl,O,rfl⟩:=h;refine zD λN v=>?_
 dsimp![];calc#[a,ns,2,rfl,aW.seq (sG.trans<|sJ.trans L.sub) hS,_,rfl,#[(),()],(),v _ _ ?_];clear v;obtain⟨j,hj,hjm⟩:∃j:Nat,ns.getD 2 0/32 % (m:Int)=j/\j<=m:=by
  let h1:=sL (ns.getD 2 0/32) (show(m:Int)≠0 by lia);let h2:=pK (ns.getD 2 0/32) (show(0:Int)<m by lia);exact#[(ns.getD 2 0/32 % (m:Int)).toNat,(),()]
 rw[hj];let nF:=fT.length hb;dsimp![];calc#[us,cX.of L.at,λp1 h1=>?_];rw[br us ()];let e1:=zB h1<|.lst<|us.drop j;calc#[us,cX.of<|e1 _ _ L.at,λp2 mE=>?_];rw[wu us ()];let e2:=zB mE<|.lst<|us.take j;calc#[_,e2 _ _ zA,_,zA,small (by rw[eG,bF];lia),λp3 h3'=>?_];let e3:=zB h3'<|.lst<|us.drop j++us.take j;let eA:=e1.trans<|e2.trans e3;let B:=eA _ _<|L.sub _ _<|sJ _ _ kn;let⟨U,z1,X,Y,t1⟩:=nam 0 (aW.refl H1) ();let⟨u2,z2,a2,m2,t2⟩:=nam m (aW.refl H1) ();calc#[_,cX.of B,U,zN X,_,cX.of B,u2,zN a2,small (),λp4 h4=>#[small (),λp5 h5=>?_]];let e4:=zB h4<|.tup [U,u2];let e5:=zB h5<|.tup [V.ref p3,V.ref p4];let eB:=(sJ.trans L.sub).trans (eA.trans<|e4.trans e5);refine q p5 p3 _ _ (b.drop j++b.take j) (.name z1,.name z2) _ (sG.trans eB) zA ((e4.trans e5) _ _ zA) (bN.same (L.sub.trans<|eA.trans<|e4.trans e5)<|NM j hb) (pX.mk2 (eE.same eB t1) (eE.same eB t2)<|e5 _ _ zA) #[?_,zs,[],og ?_ (λr hr=>?_) (okN h2 #[z1,Y,rfl]) (okN h2 #[z2,m2,rfl]) ()<|bZ _]
 ·rw[aH,eG,bF];lia
 ·rw[aH,eG,bF];lia
 ·let hm':r∈b:=(bE.mp hr).elim List.mem_of_mem_drop fQ;exact#[bU (O r hm').1 (),λt ht=>okN h2<|(O r hm').2 t ht]
theorem WO(bi:Bi mg)(h_i:fZ P w K mg base 1 "_law_cell_at" ["script","k"] (uD K))(h_ag:fZ P w K mg base 2 "_law_pool" ["script"] (RT K))(h_M:fZ P w K mg base 2 "_law_terms" ["script","pool","many"] (spTs K))(h_O:fZ P w K mg base 2 "_law_book" ["cells","terms","most"] (spBk K))(h_G:fZ P w K mg base 2 "_law_saying" ["script","terms","book"] (spSy K))(h_N:fZ P w K mg base 2 "_law_chain" ["script","pool","many"] (spCh K))(F:gF K "_law_drawn" "_law_drawn" s_L f fd):dC P w K mg base fU 3 f fd ["script","many"] (spDr K 4):=by
 refine F.okz sc_L λeZ A outer s H vs Q E hr h=>?_
 let⟨a,ns,rfl,_,e,hl,q⟩:=h;calc#[_,have nd:=sc_L.nd;zC #[]<|zC #[]<|zC (yW 3 nd<|zU h_O hr.m rfl<|zG (xL UQ #[] (xV zJ)<|xV zJ) #[]) #[],?_];refine zD λN g=>?_
 dsimp![];calc#[a,ns,4,rfl,e,_,rfl,(),rfl,?_];by_cases c:ns.getD 4 0 % 16=5
 ·rw[aL c];calc#[a,ns,rfl,e,λpp H1 s1 d=>#[a,ns,4,rfl,aW.seq s1 e,_,rfl,#[(),()],(),?_]];obtain⟨m,hm,C⟩:∃m:Nat,5+ns.getD 4 0/16 % 2=(m:Int)/\(5<=m/\m<=6):=#[(5+ns.getD 4 0/16 % 2).toNat,(),()]
  rw[hm];exact#[a,pp,ns,m,rfl,aW.seq s1 e,d,C,λp pb sv bs b s H' s'=>q p pb sv bs b s H'<|s1.trans s']
 rw[aI c];calc g _ _ ?_;clear g c;refine zD λN g=>?_
 dsimp![];calc#[a,ns,rfl,e,λpp H1 s1 d=>?_];let⟨x,y,z,nx,R,S,kp⟩:=d;calc#[a,pp,ns,[x,y,z],rfl,aW.seq s1 e,hl,kp,rfl,by simp[nx,R,S],λpt us ts H2 s2 u ht tg=>g _ _ ?_];clear g;replace s2:=s1.trans s2;clear s1;refine zD λN g=>?_
 dsimp![];let⟨cs,l,D⟩:=bq ns (some 5)<|some 63;let⟨T,U,i⟩:=tg.ex;calc#[_,aW.seq s2 e,λpc n=>?_];rw[l];let j:=zB n<|.lst<|cs.map V.int;calc#[a,ns,2,rfl,aW.seq (s2.trans j) e,_,rfl,#[(),()],(),?_];obtain⟨W,o,M⟩:∃k:Nat,ns.getD 2 0/3 % (((4:Nat):Int)+1)=(k:Int)/\k<=4:=#[(ns.getD 2 0/3 % (((4:Nat):Int)+1)).toNat,(),()]
 rw[o];calc#[pc,pt,cs,W,us,ts,rfl,cX.of zA,(),(),j _ _ u,bN.same j ht,tg.len,λpb bs b X v O hb Y t=>g _ _ ?_];clear g o;replace s2:=s2.trans<|j.trans v;replace u:=v _ _<|j _ _ u;replace ht:eI X ts us:=bN.same (j.trans v) ht;clear j v n l D;dsimp![];calc#[a,pt,pb,ns,us,bs,ts,b,rfl,aW.seq s2 e,u,ht,tg.len,O,hb,(),t,λsv s Z G I J L=>#[small (),λp hp=>?_]];let B:=zB hp<|.tup [V.ref pb,sv];exact q p pb sv bs b s _ (s2.trans<|G.trans B) zA ((G.trans B) _ _ O) (bN.same (G.trans B) hb) (eE.same B I) #[(),[x,y,z],T,og () (λr hr=>ue (t r hr) tg.fit i) (J.ok tg.fit i) (L.ok tg.fit i) (by show 3<=8;decide) ()]
abbrev s_t:Stmt:=top 79
theorem sc_t:bT ["one","other"] ["one","other"] (zF s_t):=by rfl'
abbrev tm:Stmt:=top 80
theorem nk:bT ["many","rows","k"] ["many"] (zF tm):=by rfl'
abbrev fz:Stmt:=top 81
theorem sc_B:bT ["script","drawn","book","found_v","supports","opens","row","having","within"] ["script"] (zF fz):=by rfl'
inductive spLl (vs:List V) (H:Hp) (Q:VK) (E:XK):Prop
 |mk (a p:Addr) (x y:List Nat) (_:vs=[.ref a,.ref p]) (_:H a=some (.lst<|x.map nV)) (_:H p=some (.lst<|y.map nV)) (_:x.length<=100) (_:∀H',aW H H'->Q (.bl<|oU x y) H')
inductive spLs (vs:List V) (H:Hp) (Q:VK) (E:XK):Prop
 |mk (n:Nat) (_:vs=[.int n]) (_:n<7) (_:∀p as H',aW H H'->H' p=some (.lst<|as.map V.ref)->gC H' (yA n) as->Q (.ref p) H')
inductive IX (K:W.Frag) (vs:List V) (H:Hp) (Q:VK) (E:XK):Prop
 |mk (a:Addr) (ns:List Int) (_:vs=[.ref a]) (_:cX K H a (ns.map V.int)) (_:ns.length<=63) (_:∀H',Q (.bl true) H')
noncomputable def wq(x:List Nat):Dt:=.lst (x.map λ(i:Nat)=>Dt.int (i:Int))
theorem gC.dat{H:Hp}:∀{S:List (List Nat)}{as:List Addr},gC H S as->bN H (S.map wq) (as.map V.ref)
 |[],[],_=>rfl
 |[],_::_,h=>by cases h.1
 |_::_,[],h=>by cases h.1
 |x::S,a::as,h=>#[_,_,rfl,kJ<|h.2 0 a x rfl rfl,gC.dat #[lH h.1,λi b y h1 h2=>h.2 (i+1) b y h1 h2]]
theorem jz(S:List (List Nat)):uJ (S.map wq) [.lst []]=decide (S=[[]]):=by
 match S with
 |[]=>rfl
 |[x]=>
  cases x with
  |nil=>rfl
  |cons k x=>simp[wq,uJ,mI]
 |x::y::S=>simp[uJ]
theorem DC{i:Addr}{σ:St}{Q:VK}(hi:H i=some (.lst us))(hu:fX H S us)(hl:S.length<=64)(q:∀p as H',aW H H'->H' p=some (.lst<|as.map V.ref)->gC H' S as->Q (.ref p) H'):
 PN (cw K i) ["one"] [] (vL 0) none (tOp (uh K) (eo 0)<|tC<|V.int 0) σ H Q:=by
 let nF:=hu.len;refine yT (xs:=us) (λj ys σ G=>aW H G/\(∃as:List Addr,ys=as.map V.ref/\gC H (S.take j) as)/\∃o,σ=[o]) #[aW.refl _,#[[],rfl,rfl,λm a x h=>nomatch h],_,rfl] (small ()) (λj ys σ G e=>?_) (λj ys σ G e=>cX.of<|e.1 _ _ hi) (λj v ys σ G C hv e b=>?_) λys σ G e p hp=>?_
 ·let⟨_,⟨as,rfl,h1,_⟩,_⟩:=e;rw[aD,h1,bF];lia
 ·let⟨ex,⟨as,rfl,hn⟩,o,rfl⟩:=e;let⟨x,hx,a,p,f,g,rfl,c,d⟩:=hu.get hv;dsimp![];exact#[_,dH.of<|ex _ _ c,_,lN,b _ _ _ #[ex,#[as++[p],by rw[aT];rfl,by rw[xD hx];calc hn.put d],_,rfl]]
 ·let⟨ex,⟨as,rfl,hn⟩,o,rfl⟩:=e;rw[nF,aQ<|aG _]at hn;let e:=ex.trans<|zB hp<|.lst<|as.map V.ref;exact q p as _ e zA<|hn.same e
theorem DB{i r:Addr}{tt:TT}{σ:St}{Q:VK}{g:List Nat->Bool}(hj:XY ["one"] [j] σ=[none,some<|.ref r])(hi:H i=some (.lst<|as.map V.ref))(hn:gC H S as)(hl:S.length<=64)
 (ht:∀(a:Addr)(x:List Nat)(G:Hp)(R:Bool->Hp->Prop),x∈S->aW H G->H a=some (.lst<|x.map nV)->(∀G',aW G G'->R (g x) G')->tt [some<|.ref a,some<|.ref r] G R)
 (q:∀p us H',aW H H'->H' p=some (.lst us)->us.length=(S.filter g).length->Q (.ref p) H'):
 PN (cw K i) ["one"] [j] (vL 0) (some tt) (eo 0) σ H Q:=by
 let b:=hn.1;refine qB (xs:=as.map V.ref) (λn ys σ G=>aW H G/\ys.length=((S.take n).filter g).length/\∃o,σ=[o,some<|V.ref r]) #[aW.refl _,rfl,none,hj] (small (by rw[aD];lia)) (λn ys σ G e=>?_) (λn ys σ G e=>cX.of<|e.1 _ _ hi) (λn v ys σ G C D hv e h k=>?_) λys σ G e p hp=>?_
 ·rw[e.2.1];exact bU (dM _ _) (by rw[bF];lia)
 ·let⟨ex,d,o,rfl⟩:=e;rw[aJ]at hv;let⟨a,ha,rfl⟩:=aM.mp hv;obtain⟨x,hx⟩:∃x,S[n]?=some x:=#[_,aA (by rw[←b];calc(aC.mp ha).1)]
  let f:((S.take<|n+1).filter g).length=((S.take n).filter g).length+(if g x=true then 1 else 0):=by
   rw[xD hx,dF,aH]
   congr 1
   rw[gK];split<;>rfl
  dsimp![];refine ht a x G _ (aR hx) ex (hn.2 n a x ha hx) λG' s'=>?_
  by_cases c:g x=true
  ·rw[aL c]at f⊢;exact h _ _ _ #[ex.trans s',by rw[aH,d,f];rfl,_,rfl]
  ·rw[aI c]at f⊢;exact k _ _ #[ex.trans s',by rw[d,f];rfl,_,rfl]
 ·let⟨ex,d,o,rfl⟩:=e;rw[aD,b,aQ<|aG _]at d;exact q p ys _ (ex.trans<|zB hp _) zA d
theorem RX(h:n<7):(yA n).length<=64:=XC (tJ _) h
theorem CG(bi:Bi mg)(F:gF K "_law_lies_in" "_law_lies_in" s_t f fd):dC P w K mg base fU 1 f fd ["one","other"] spLl:=by
 refine F.okz sc_t λeZ A outer s H vs Q E hr h=>?_
 let⟨a,p,x,y,rfl,ha,hp,hl,q⟩:=h;calc#[_,have nd:=sc_t.nd;zH<|zP<|vV ZP (yH kP rfl bi.len wR<|zG (zT ["k"] ["other"] [1] #[] (λ_ _ _ _ nd=>zZ 0 nd) (λ_ _ _ _=>jG<|yG (QI hr.units) #[] #[] (by with_unfolding_all rfl)) λ_ _ _ _=>#[]) zI) zJ<|yL _,?_];dsimp![];calc#[#[_,cX.of ha],?_];refine qB (xs:=x.map nV) (λn ys σ Hx=>aW H Hx/\ys=((x.take n).filter λk=>!decide (k∈y)).map nV/\∃o,σ=[o,some<|V.ref p]) #[aW.refl _,rfl,_,rfl] (small (by rw[aD];lia)) (λn ys σ Hx e=>?_) (λn ys σ Hx e=>cX.of<|e.1 _ _ ha) (λn v ys σ Hx C D hv e b c=>?_) λys σ Hx e l hl=>?_
 ·rw[e.2.1,aD];exact bU (dM _ _) (by rw[bF];lia)
 ·let⟨ex,rfl,o,rfl⟩:=e;rw[aJ]at hv;let⟨k,hk,rfl⟩:=aM.mp hv;dsimp![SQ];calc#[1,.int k,rfl,_,.inl<|kJ<|ex _ _ hp,jf _ _,(),?_];rw[GU,Bool.true_xor];by_cases hc:k∈y
  ·rw[aI (by simp[hc])];calc c _ _ #[ex,?_,_,rfl];rw[xD hk,dF,aT];simp[hc]
  ·rw[aL (by simp[hc])];calc b _ _ _ #[ex,?_,_,rfl];rw[xD hk,dF,aT];simp[hc,nV]
 let⟨ex,rfl,o,rfl⟩:=e;rw[aD,aQ<|aG _];calc#[_,.inl #[_,cX.of zA,rfl],rfl,?_];have :=q _ (ex.trans<|zB hl<|.lst<|(x.filter λk=>!decide (k∈y)).map nV);let e:decide (((((x.filter λk=>!decide (k∈y)).map nV).length:Nat):Int)=0)=oU x y:=by
  rw[bY,bH,iX,aD];constructor
  ·intro z k hk;let z:(x.filter λk=>!decide (k∈y))=[]:=oH ();have :=rZ.mp z k hk;simpa using this
  ·intro z;rw[rZ.mpr λk hk=>by simp[z k hk]];rfl
 rw[e];exact this
theorem CF(bi:Bi mg)(F:gF K "_law_sets" "_law_sets" tm f fd):dC P w K mg base fU 1 f fd ["many"] spLs:=by
 refine F.okz nk λeZ A outer s H vs Q E hr h=>?_
 let⟨n,rfl,hn,q⟩:=h;calc#[_,have nd:=nk.nd;zC #[]<|zC (yC bX rfl #[] (kE (i:=2) nd rfl<|Or.inr rfl)<|zH<|yW 1 nd<|jO GC #[]<|zT ["row"] ["k"] [2] #[] (λ_ _ _ _ nd=>zZ 0 nd) (λ_ _ _ _=>zW) λ_ _ _ _=>(jO GC #[] #[])) #[],?_];refine zD λN u=>?_
 dsimp![];calc#[small (),λD h0=>#[small (),λJ h1=>u _ _ ?_]];clear u;let L:=zB h0<|.lst [];let I:=zB h1<|.lst [V.ref D];refine zM (λσ G=>∃(p:Addr)(as:List Addr)(o:Option V),aW H G/\G p=some (.lst<|as.map V.ref)/\gC G (yA n) as/\σ=[some<|V.int n,some<|V.ref p,o]) (λN u=>?_) λσ G h=>?_
 ·dsimp![];calc#[(),(),?_];refine qY (n:=(n:Int).toNat) (λi σ G=>∃(p:Addr)(as:List Addr)(o:Option V),aW H G/\G p=some (.lst<|as.map V.ref)/\gC G (yA i) as/\σ=[some<|V.int n,some<|V.ref p,o]) #[J,[D],_,L.trans I,zA,#[rfl,λi a x h1 h2=>?_],rfl] (λi σ G hi h M O=>?_) λσ G h=>?_
  ·cases i with
   |zero=>cases h1;cases h2;exact I _ _ zA
   |succ i=>cases h1
  ·let⟨p,as,o,sG,kp,b,rfl⟩:=h;dsimp![];let hin:i<6:=by lia
   let t:=b.1;let R:=RX (n:=i) ();calc#[#[_,cX.of kp],?_];refine yT (xs:=as.map V.ref) (λj ys σ G'=>aW G G'/\(∃cs:List Addr,ys=cs.map V.ref/\gC G' (((yA i).take j).map (· ++[i])) cs)/\∃o,σ=[o,some<|V.int<|0+(i:Int)]) #[aW.refl _,#[[],rfl,rfl,λm c x h=>nomatch h],_,rfl] (small (by rw[aD];lia)) (λj ys σ G' e=>?_) (λj ys σ G' e=>cX.of<|e.1 _ _ kp) (λj v ys σ G' C hv e S=>?_) λys σ G' e l hl=>?_
   ·let⟨_,⟨cs,rfl,d⟩,_⟩:=e;rw[aD,d.1,aD,bF];lia
   ·let⟨ex,⟨cs,rfl,d⟩,o,rfl⟩:=e;rw[aJ]at hv;let⟨a,ha,rfl⟩:=aM.mp hv;obtain⟨x,hx⟩:∃x,(yA i)[j]?=some x:=#[_,aA (by rw[←t];calc(aC.mp ha).1)]
    let T:=ex _ _<|b.2 j a x ha hx;let U:=(qK i () x<|aR hx).1;dsimp![];calc#[small (),λp2 mE=>?_];let g:=zB mE<|.lst [V.int<|0+(i:Int)];calc#[_,g _ _ T,_,zA,small (by rw[aD];show _+1<=_;lia),λy z=>?_];let r:=zB z<|.lst<|x.map nV++[V.int<|0+(i:Int)];exact S _ _ _ #[ex.trans<|g.trans r,#[cs++[y],by rw[aT];rfl,by rw[xD hx,aT];calc(d.same<|g.trans r).put (by rw[aT,zA,pE];rfl)],_,rfl]
   let⟨ex,⟨cs,rfl,d⟩,o,rfl⟩:=e;rw[aD,t,aQ<|aG _]at d;let B:=d.1;rw[aD]at B;let g:=zB hl<|.lst<|cs.map V.ref;calc#[l,rfl,_,(ex.trans g) _ _ kp,_,zA,small (by rw[aD,aD];lia),λy W=>?_];let r:=zB W<|.lst<|as.map V.ref++cs.map V.ref;rw[←aT]at r⊢;exact O _ _ #[y,as++cs,_,sG.trans<|ex.trans<|g.trans r,zA,by rw[FM i hin];exact(b.same<|ex.trans<|g.trans r).app (d.same<|g.trans r),rfl]
  ·let⟨p,as,o,sG,kp,b,rfl⟩:=h;rw[bS]at b;exact u _ _ #[p,as,_,sG,kp,b,rfl]
 let⟨p,as,o,sG,kp,b,rfl⟩:=h;dsimp![];exact q p as _ sG kp b
theorem u5(bi:Bi mg)(h_L:fZ P w K mg base 3 "_law_drawn" ["script","many"] (spDr K 4))(h_ae:fZ P w K mg base 1 "_law_copy" ["book"] spCp)(h_bd:fZ P w K mg base 49 "reasons" ["book","saying"] spRs)(h_t:fZ P w K mg base 1 "_law_lies_in" ["one","other"] spLl)(h_ad:fZ P w K mg base 1 "_law_sets" ["many"] spLs)(F:gF K "law" "law" fz f fd):dC P w K mg base fU 65 f fd ["script"] (IX K):=by
 refine F.okz sc_B λeZ A outer s H vs Q E hr h=>?_
 let⟨a,ns,rfl,hS,hl,q⟩:=h;calc#[_,have nd:=sc_B.nd;zC #[]<|zC #[]<|zC #[]<|zC (qL (i:=4) ["one"] [] [] nd rfl #[] (λ_ _ _ _ nd=>zZ 0 nd) (λ_ _ _ _=>zW) λ_ _ _ _=>(zL (yQ K) #[] zJ))<|zC (qL (i:=5) ["one"] [] [] nd rfl #[] (λ_ _ _ _ nd=>zZ 0 nd) (λ_ _ _ _=>zW) λ_ _ _ _=>(zL (yQ K) #[] zJ))<|zC (yC bX rfl #[] (kE (i:=6) nd rfl<|Or.inr rfl)<|zC (qL (i:=7) ["one"] ["row"] [6] nd rfl #[] (λ_ _ _ _ nd=>zZ 0 nd) (λ_ _ _ _=>jG<|kZ<|zU h_t hr.m rfl #[]) λ_ _ _ _=>#[])<|zC (qL (i:=8) ["one"] ["row"] [6] nd rfl #[] (λ_ _ _ _ nd=>zZ 0 nd) (λ_ _ _ _=>jG<|kZ<|zU h_t hr.m rfl #[]) λ_ _ _ _=>#[]) #[])<|zC (yK #[] (zH<|zP<|vV (vA hr.units) #[] (FX<|zG (UZ rfl bi.list rfl bi.range rfl #[]) zI)<|yL _) zS)<|zH<|zP<|vV ZP (vV (vA hr.units) #[] #[]<|yL _) #[]<|yL _,?_];refine zD λN j=>?_
 dsimp![];calc#[a,ns,rfl,(),hS,hl,λpd pb sv bs b s H1 s1 kd kb hb X hok=>j _ _ ?_];clear j;let⟨k,zs,G,jb⟩:=hok;refine zD λN j=>?_
 dsimp![];calc#[_,dH.of kd,_,lN,j _ _ ?_];clear j;refine zD λN j=>?_
 dsimp![];calc#[pb,bs,b,rfl,kb,hb,(),jb.pl,λpc us H2 s2 D hc=>#[_,dH.of<|s2 _ _ kd,_,pV,pc,sv,us,zs,G,b,s,rfl,D,hc,eE.same s2 X,jb,k,λpr sa oa us' ws S O H3 s3 kr ksa Y koa Z rz=>j _ _ ?_]];clear j;let o:=(s2.trans s3) _ _ kb;let hbl:=fT.length hb;clear s1 kd hb X D hc s2 s3 kb jb;refine zD λN j=>?_
 dsimp![];calc#[_,dH.of kr,_,lN,sa,rfl,#[_,cX.of ksa],DC ksa Y rz.sl λp4 as4 H4 I J n=>j _ _ ?_];clear j;refine zD λN j=>?_
 dsimp![];calc#[_,dH.of<|I _ _ kr,_,pV,oa,rfl,#[_,cX.of<|I _ _ koa],DC (I _ _ koa) (Z.same I) rz.gl λp5 as5 H5 s5 k5 u=>j _ _ ?_];clear j;replace J:=s5 _ _ J;replace n:=n.same s5;replace o:=(I.trans s5) _ _ o;clear I s5 kr ksa Y koa Z;refine zM (λσ G=>∃(L T U:Option V),aW H5 G/\σ=[some<|V.ref a,some<|V.ref pd,some<|V.ref pb,some<|V.ref pr,some<|V.ref p4,some<|V.ref p5,L,T,U]) (λN j=>?_) λσ G h=>?_
 ·dsimp![];calc#[_,.inl #[_,cX.of o,rfl],b.length,by rw[hbl],k,λp6 as6 H6 s6 k6 hn6=>#[p6,rfl,#[_,cX.of k6],?_]];refine xH (xs:=as6.map V.ref) (λi σ G=>∃(L T U:Option V),aW H6 G/\σ=[some<|V.ref a,some<|V.ref pd,some<|V.ref pb,some<|V.ref pr,some<|V.ref p4,some<|V.ref p5,L,T,U]) #[_,_,_,aW.refl _,rfl] (λi σ G _ h=>by let⟨_,_,_,B,_⟩:=h;calc cX.of<|B _ _ k6) (λi v σ G hv h M hM=>?_) λσ G h=>?_
  ·let⟨L,T,U,B,rfl⟩:=h;rw[aJ]at hv;let⟨ra,hra,rfl⟩:=aM.mp hv;obtain⟨x,hx⟩:∃x,(yA b.length)[i]?=some x:=#[_,aA (by rw[←hn6.1];calc(aC.mp hra).1)]
   let kx:=B _ _<|hn6.2 i ra x hra hx;let r:=s6.trans B;let t:=aR hx;let hxl:=(qK _ k x t).1;let ll:∀{x:List Nat},x∈yA b.length->x.length<=100:=λhx=>bU (qK _ k _ hx).1 ()
   refine zD λN j=>?_
   dsimp![];refine#[#[_,cX.of<|r _ _ J],DB (g:=λy=>oU y x) rfl (r _ _ J) (n.same r) rz.sl (λc y G' R hy e D hR=>?_) λp8 us8 H8 s8 k8 l8=>j _ _ ?_]
   ·dsimp![];exact#[c,ra,y,x,rfl,e _ _ D,e _ _ kx,ll<|rz.sin y hy,λG2 s2=>#[_,rfl,hR G2 s2]]
   clear j;refine zD λN j=>?_
   dsimp![];let C:=r.trans s8;refine#[#[_,cX.of<|C _ _ k5],DB (g:=oU x) rfl (C _ _ k5) (u.same C) rz.gl (λc y G' R hy e D hR=>?_) λp9 us9 H9 s9 k9 l9=>j _ _ ?_]
   ·dsimp![];exact#[ra,c,x,y,rfl,(s8.trans e) _ _ kx,e _ _ D,ll t,λG2 s2=>#[_,rfl,hR G2 s2]]
   clear j;dsimp![];calc#[_,.inl #[_,cX.of<|s9 _ _ k8,rfl],_,.inl #[_,cX.of k9,rfl],rfl,?_];rw[l8,l9,aI ?_]
   ·exact hM _ _ #[_,_,_,B.trans<|s8.trans s9,rfl]
   let pos:∀(l:List (List Nat))(g:List Nat->Bool),(0:Int)<((l.filter g).length:Nat)↔∃y∈l,g y=true:=λl g=>by
    rw[Int.natCast_pos,List.length_pos_iff_exists_mem];exact#[λ⟨y,hy⟩=>#[y,bM.mp hy],λ⟨y,h1,h2⟩=>#[y,bM.mpr #[h1,h2]]]
   rw[decide_eq_decide,pos,pos,rz.hv x t,rz.wi x t];exact λz=>(Classical.em<|tT b s x).elim (λh=>z.mp h h) λh=>h<|z.mpr h
  ·let⟨L,T,U,B,rfl⟩:=h;exact j _ _ #[_,_,_,s6.trans B,rfl]
 let⟨L,T,U,sG,rfl⟩:=h;refine zD λN j=>?_
 dsimp![tLRg,NO];calc#[_,.inl #[_,cX.of<|sG _ _ J,rfl],rfl,?_];rw[aD,n.1];by_cases c:((S.length:Nat):Int)=0
 ·rw[aL c];let eO:=rz.no<|oH ();calc#[_,.inl #[_,cX.of<|sG _ _ o,rfl],b.length,by rw[hbl],(),λl hl=>#[small (),λp hp=>?_]];let e1:=zB hl (.lst ((List.range b.length).map λi:Nat=>V.int i));let W:=zB hp<|.lst [V.ref l];let hd:=(u.same<|sG.trans<|e1.trans W).dat;rw[eO]at hd;refine#[1,.lst [wq<|List.range b.length],#[p5,_,rfl,(sG.trans<|e1.trans W) _ _ k5,hd],.lst [wq<|List.range b.length],#[p,_,rfl,zA,_,_,rfl,kJ<|W _ _ zA,rfl],#[by show 1<=1000;decide,λd hd=>?_],(),?_]
  ·rw[aS.mp hd];exact#[by rw[aD,dG];lia,jf _ _]
  ·rw[xE];exact q _
 rw[aI c];calc j _ _ ?_;clear j;dsimp![NO];calc#[small (),λl hl=>#[small (),λp hp=>?_]];let e1:=zB hl<|.lst [];let W:=zB hp<|.lst [V.ref l];let eA:=sG.trans<|e1.trans W;refine#[1,.lst<|S.map wq,#[p4,_,rfl,eA _ _ J,(n.same eA).dat],.lst [.lst []],#[p,_,rfl,zA,_,_,rfl,#[l,[],rfl,W _ _ zA,rfl],rfl],#[by rw[aD];have :=rz.sl;lia,λd hd=>?_],(),_,.inl #[_,cX.of<|eA _ _ k5,rfl],rfl,rfl,?_]
 ·let⟨x,hx,rfl⟩:=bV.mp hd;exact#[by rw[aD];have :=(qK _ k x<|rz.sin x hx).1;lia,jf _ _]
 ·let e:decide (mI (.lst<|S.map wq) (.lst [.lst []])=decide ((((as5.map V.ref).length:Nat):Int)=0))=true:=by
   rw[bH,mI,jz,decide_eq_decide,rz.nn,aD,u.1];exact#[λz=>by rw[z];rfl,λz=>oH ()]
  rw[e];exact q _
theorem ln0{us:List Value}(h:us.length=0):us=[]:=mG.mp h
theorem lnS{us:List Value}(h:us.length=n+1):∃(u:Value)(r:List Value),us=u::r/\r.length=n:=by
 cases us with
 |nil=>cases h
 |cons u r=>exact#[u,r,rfl,lH h]
theorem ln1{us:List Value}(h:us.length=1):∃a,us=[a]:=by
 let⟨a,r,rfl,g⟩:=lnS h;cases ln0 g;exact#[a,rfl]
theorem ln2{us:List Value}(h:us.length=2):∃a b,us=[a,b]:=by
 let⟨a,r,rfl,g⟩:=lnS h;let⟨b,rfl⟩:=ln1 g;exact#[a,b,rfl]
theorem ln3{us:List Value}(h:us.length=3):∃a b c,us=[a,b,c]:=by
 let⟨a,r,rfl,g⟩:=lnS h;let⟨b,c,rfl⟩:=ln2 g;exact#[a,b,c,rfl]
theorem ln4{us:List Value}(h:us.length=4):∃a b c d,us=[a,b,c,d]:=by
 let⟨a,r,rfl,g⟩:=lnS h;let⟨b,c,d,rfl⟩:=ln3 g;exact#[a,b,c,d,rfl]
theorem bz{x qual:Str}{st:Stmt}(F:gF K x qual st f fd)(ps:List Str)
 (h:∀(kV doc pm:Value)(an:Option Addr)(eZ ct:Value)(us:List Value),us.length=ps.length->bindArgs (W.fnOf x qual (xI st) (yV st) (zF st) .none kV doc pm an eZ ct) #[us,[]]=pure (ps.zip us):=by intro _ _ _ _ _ _ us hl;first |(let⟨_,rfl⟩:=ln1 hl;rfl) |(let⟨_,_,rfl⟩:=ln2 hl;rfl) |(let⟨_,_,_,rfl⟩:=ln3 hl;rfl) |(let⟨_,_,_,_,rfl⟩:=ln4 hl;rfl)):Binds K fd ps []:=F.binds h
structure iP(K:W.Frag)(x:Str)(st:Stmt)(f:Addr)(fd:FuncData):Prop where
 a:W.nsIn K mainGlobals x=some (some<|.ref f)
 F:gF K x x st f fd
theorem fQq{x:Str}{st:Stmt}{oc:Value}{od an:Option Addr}{osl:Array (Option Value)}{kV doc pm eZ ct:Value}(a:W.nsIn K mainGlobals x=some (some<|.ref f))(l:K.lookup f=some #[oc,od,.func<|W.fnOf x x (xI st) (yV st) (zF st) .none kV doc pm an eZ ct,osl])
 (c:W.codeIn K eZ x=true) (k:W.keepIn K (.ref f)=true):iP K x st f (W.fnOf x x (xI st) (yV st) (zF st) .none kV doc pm an eZ ct):=#[a,HM l c k]
structure dt(K:W.Frag)(C:Addr)(m q:Str)(st:Stmt)(f:Addr)(fd:FuncData):Prop where
 a:W.findIn K (.ref C) m=some (some<|.ref f)
 i:W.isFn K (.ref f)=true
 k:W.keepIn K (.ref f)=true
 F:gF K m q st f fd
theorem mQq{C:Addr}{m q:Str}{st:Stmt}{oc:Value}{od an:Option Addr}{osl:Array (Option Value)}{kV doc pm eZ ct:Value}(a:W.findIn K (.ref C) m=some (some<|.ref f))(i:W.isFn K (.ref f)=true)(l:K.lookup f=some #[oc,od,.func<|W.fnOf m q (xI st) (yV st) (zF st) .none kV doc pm an eZ ct,osl])
 (c:W.codeIn K eZ q=true) (k:W.keepIn K (.ref f)=true):dt K C m q st f (W.fnOf m q (xI st) (yV st) (zF st) .none kV doc pm an eZ ct):=#[a,i,k,HM l c k]
structure En(P:Program)(w:World)(K:W.Frag)(mg:Str->Option Value)(base:Heap):Prop where
 h:∃h,K.In h/\h.Ns mainGlobals mg
theorem hz{x:Str}{st:Stmt}{k:Nat}{ps:List Str}{sp:Sp}(E:En P w K mg base)(i:iP K x st f fd)(o:dC P w K mg base fU k f fd ps sp)
 (h:∀(kV doc pm:Value)(an:Option Addr)(eZ ct:Value)(us:List Value),us.length=ps.length->bindArgs (W.fnOf x x (xI st) (yV st) (zF st) .none kV doc pm an eZ ct) #[us,[]]=pure (ps.zip us):=by intro _ _ _ _ _ _ us hl;first |(let⟨_,rfl⟩:=ln1 hl;rfl) |(let⟨_,_,rfl⟩:=ln2 hl;rfl) |(let⟨_,_,_,rfl⟩:=ln3 hl;rfl) |(let⟨_,_,_,_,rfl⟩:=ln4 hl;rfl)):fZ P w K mg base k x ps sp:=by
 let⟨_,X,G⟩:=E.h;exact ZJ i.F o (bz i.F ps h)<|fI X G i.a
theorem mz{D:Addr}{x q:Str}{st:Stmt}{k:Nat}{ps:List Str}{sp:Sp}(_:En P w K mg base)(i:dt K D x q st f fd)(o:dC P w K mg base fU k f fd ps sp)
 (h:∀(kV doc pm:Value)(an:Option Addr)(eZ ct:Value)(us:List Value),us.length=ps.length->bindArgs (W.fnOf x q (xI st) (yV st) (zF st) .none kV doc pm an eZ ct) #[us,[]]=pure (ps.zip us):=by intro _ _ _ _ _ _ us hl;first |(let⟨_,rfl⟩:=ln1 hl;rfl) |(let⟨_,_,rfl⟩:=ln2 hl;rfl) |(let⟨_,_,_,rfl⟩:=ln3 hl;rfl) |(let⟨_,_,_,_,rfl⟩:=ln4 hl;rfl)):mK P w K mg base k D x ps sp:=#[_,_,o,bz i.F ps h,i.a,i.i,i.k]
theorem all_mk{f_l f_e f_F f_s f_u f_h f_f f_a f_ba f_E f_ac f_c f_v f_af f_Z f_X f_Q f_I f_bg f_bc f_K f_d f_b f_aa f_T f_k f_ah f_ca f_n f_g f_x f_m f_q f_o f_y f_bf f_ab f_cb f_z f_bb f_V f_be f_bh f_U f_H f_A f_Y f_w f_p f_R f_j f_S f_C f_r f_W f_bd f_P f_i f_D f_ag f_J f_M f_O f_G f_N f_L f_ae f_t f_ad:Addr}{d_Growth_init d_Growth_line_of d_Growth_has d_Growth_grow d_Floor_init d_Floor_common_of d_Floor_counter_of d_Floor_value_of d_mask_of d_bits_of d_parts_of d_gather_names d_names_of_all d_names_of d_terms_in d_is_whole d_is_below d_places_of d_found d_put_in d_turned d_number_by d_joined_number d_sheet_of d_pair_of d_numbered_rule d_numbered d_begin d_boths_by_part d_rules_by_premise d_grow_by_turn d_grow_by_chain d_grow_by_both d_grow_by_clash d_grow_by_rule d_closing d_sets_for d_value d_lines_named d_renamed d_line_for d_hung_on d_paper d_spots_by d_clashes_by d_spots_under d_world_of d_spot_against d_with_rules_as d_order_of d_sets_of_places d_lies_in d_has_support d_those_around d_greatest d_reasons d_judge_on d_law_cell_at d_law_name_by d_law_pool d_law_side d_law_terms d_law_book d_law_saying d_law_chain d_law_drawn d_law_copy d_law_lies_in d_law_sets:FuncData}{l:W.OpenLaw}{h:Heap}{fa:Addr}(X:K.In h)(G:h.Ns mainGlobals mg)(hfa:mg "law"=some (.ref fa))
 {C_Growth:Addr} (aC_Growth:W.nsIn K mainGlobals "Growth"=some (some<|.ref C_Growth))
 (mW:dt K C_Growth "__init__" "Growth.__init__" s_l f_l d_Growth_init)
 (nH:dt K C_Growth "line_of" "Growth.line_of" s_e f_e d_Growth_line_of)
 (j_Growth_has:dt K C_Growth "has" "Growth.has" s_F f_F d_Growth_has)
 (j_Growth_grow:dt K C_Growth "grow" "Growth.grow" s_s f_s d_Growth_grow)
 (pg_Growth:W.plainGet K C_Growth Str.empty=true) (hd_Growth:W.hasDictIn K C_Growth=true) (po_Growth:W.plainOver K C_Growth=true) (sa_Growth:W.findIn K (.ref C_Growth) "__setattr__"=some (some<|.builtin "object.__setattr__")) (mk_Growth:W.makesIn K C_Growth=true) (kc_Growth:W.keepIn K (.ref C_Growth)=true) (n_Growth_lines:W.findIn K (.ref C_Growth) "lines"=some none) (n_Growth_places:W.findIn K (.ref C_Growth) "places"=some none) (n_Growth_above:W.findIn K (.ref C_Growth) "above"=some none) (n_Growth_below:W.findIn K (.ref C_Growth) "below"=some none)
 {C_Floor:Addr} (aC_Floor:W.nsIn K mainGlobals "Floor"=some (some<|.ref C_Floor))
 (nN:dt K C_Floor "__init__" "Floor.__init__" s_u f_u d_Floor_init)
 (mN:dt K C_Floor "common_of" "Floor.common_of" s_h f_h d_Floor_common_of)
 (mD:dt K C_Floor "counter_of" "Floor.counter_of" s_f f_f d_Floor_counter_of)
 (iE:dt K C_Floor "value_of" "Floor.value_of" s_a f_a d_Floor_value_of)
 (pg_Floor:W.plainGet K C_Floor Str.empty=true) (hd_Floor:W.hasDictIn K C_Floor=true) (po_Floor:W.plainOver K C_Floor=true) (sa_Floor:W.findIn K (.ref C_Floor) "__setattr__"=some (some<|.builtin "object.__setattr__")) (mk_Floor:W.makesIn K C_Floor=true) (kc_Floor:W.keepIn K (.ref C_Floor)=true) (n_Floor_everywhere:W.findIn K (.ref C_Floor) "everywhere"=some none) (n_Floor_clashing:W.findIn K (.ref C_Floor) "clashing"=some none)
 (i_ba:iP K "mask_of" so f_ba d_mask_of)
 (i_E:iP K "bits_of" s_E f_E d_bits_of)
 (i_ac:iP K "parts_of" tq f_ac d_parts_of)
 (i_c:iP K "gather_names" s_c f_c d_gather_names)
 (i_v:iP K "names_of_all" s_v f_v d_names_of_all)
 (i_af:iP K "names_of" sy f_af d_names_of)
 (i_Z:iP K "terms_in" s_Z f_Z d_terms_in)
 (i_X:iP K "is_whole" s_X f_X d_is_whole)
 (i_Q:iP K "is_below" s_Q f_Q d_is_below)
 (i_I:iP K "places_of" s_I f_I d_places_of)
 (i_bg:iP K "found" se f_bg d_found)
 (i_bc:iP K "put_in" sm f_bc d_put_in)
 (i_K:iP K "turned" s_K f_K d_turned)
 (i_d:iP K "number_by" s_d f_d d_number_by)
 (i_b:iP K "joined_number" s_b f_b d_joined_number)
 (i_aa:iP K "sheet_of" ua f_aa d_sheet_of)
 (i_T:iP K "pair_of" s_T f_T d_pair_of)
 (i_k:iP K "numbered_rule" s_k f_k d_numbered_rule)
 (i_ah:iP K "numbered" sw f_ah d_numbered)
 (i_ca:iP K "begin" rq f_ca d_begin)
 (i_n:iP K "boths_by_part" s_n f_n d_boths_by_part)
 (i_g:iP K "rules_by_premise" s_g f_g d_rules_by_premise)
 (i_x:iP K "grow_by_turn" s_x f_x d_grow_by_turn)
 (i_m:iP K "grow_by_chain" s_m f_m d_grow_by_chain)
 (i_q:iP K "grow_by_both" s_q f_q d_grow_by_both)
 (i_o:iP K "grow_by_clash" s_o f_o d_grow_by_clash)
 (i_y:iP K "grow_by_rule" s_y f_y d_grow_by_rule)
 (i_bf:iP K "closing" si f_bf d_closing)
 (i_ab:iP K "sets_for" t5 f_ab d_sets_for)
 (i_cb:iP K "value" rp f_cb d_value)
 (i_z:iP K "lines_named" s_z f_z d_lines_named)
 (i_bb:iP K "renamed" sn f_bb d_renamed)
 (i_V:iP K "line_for" s_V f_V d_line_for)
 (i_be:iP K "hung_on" sj f_be d_hung_on)
 (i_bh:iP K "paper" r9 f_bh d_paper)
 (i_U:iP K "spots_by" s_U f_U d_spots_by)
 (i_H:iP K "clashes_by" s_H f_H d_clashes_by)
 (i_A:iP K "spots_under" s_A f_A d_spots_under)
 (i_Y:iP K "world_of" s_Y f_Y d_world_of)
 (i_w:iP K "spot_against" s_w f_w d_spot_against)
 (i_p:iP K "with_rules_as" s_p f_p d_with_rules_as)
 (i_R:iP K "order_of" s_R f_R d_order_of)
 (i_j:iP K "sets_of_places" s_j f_j d_sets_of_places)
 (i_S:iP K "lies_in" s_S f_S d_lies_in)
 (i_C:iP K "has_support" s_C f_C d_has_support)
 (i_r:iP K "those_around" s_r f_r d_those_around)
 (i_W:iP K "greatest" s_W f_W d_greatest)
 (i_bd:iP K "reasons" sk f_bd d_reasons)
 (i_P:iP K "judge_on" s_P f_P d_judge_on)
 (i_i:iP K "_law_cell_at" s_i f_i d_law_cell_at)
 (i_D:iP K "_law_name_by" s_D f_D d_law_name_by)
 (i_ag:iP K "_law_pool" sx f_ag d_law_pool)
 (i_J:iP K "_law_side" s_J f_J d_law_side)
 (i_M:iP K "_law_terms" s_M f_M d_law_terms)
 (i_O:iP K "_law_book" s_O f_O d_law_book)
 (i_G:iP K "_law_saying" s_G f_G d_law_saying)
 (i_N:iP K "_law_chain" s_N f_N d_law_chain)
 (i_L:iP K "_law_drawn" s_L f_L d_law_drawn)
 (i_ae:iP K "_law_copy" tf f_ae d_law_copy)
 (i_t:iP K "_law_lies_in" s_t f_t d_law_lies_in)
 (i_ad:iP K "_law_sets" tm f_ad d_law_sets)
 {od_B an_B:Option Addr} {sl_B:Array (Option Value)} {oc_B kV_B dc_B pm_B cd_B ct_B:Value} (a_B:W.nsIn K mainGlobals "law"=some (some<|.ref f_B)) (l_B:K.lookup f_B=some #[oc_B,od_B,.func<|W.fnOf "law" "law" (xI fz) (yV fz) (zF fz) .none kV_B dc_B pm_B an_B cd_B ct_B,sl_B]) (c_B:W.codeIn K cd_B "law"=true) (k_B:W.keepIn K (.ref f_B)=true)
  (z_any:W.nsIn K mainGlobals "any"=some none)
  (z_enumerate:W.nsIn K mainGlobals "enumerate"=some none)
 {t_MOST_RULES:Tok} (nU:W.nsIn K mainGlobals "MOST_RULES"=some (some<|.int 6 t_MOST_RULES))
 {nW:Addr} {d_NONE_ROW:Option Addr} {n_NONE_ROW:Nat} {sl_NONE_ROW:Array (Option Value)} {t_N1:Tok} (g_NONE_ROW:W.nsIn K mainGlobals "NONE_ROW"=some (some<|.ref nW)) (o_NONE_ROW:K.lookup nW=some #[.type "tuple",d_NONE_ROW,.seq (List.toArray [.str "none" t_N1]) n_NONE_ROW,sl_NONE_ROW])
 {t_MOST_ROWS:Tok} (g_MOST_ROWS:W.nsIn K mainGlobals "MOST_ROWS"=some (some<|.int 40 t_MOST_ROWS))
 (z_all:W.nsIn K mainGlobals "all"=some none)
 (z_bool:W.nsIn K mainGlobals "bool"=some none)
 (z_dict:W.nsIn K mainGlobals "dict"=some none)
 (z_int:W.nsIn K mainGlobals "int"=some none)
 (z_isinstance:W.nsIn K mainGlobals "isinstance"=some none)
 (z_len:W.nsIn K mainGlobals "len"=some none)
 (z_list:W.nsIn K mainGlobals "list"=some none)
 (z_max:W.nsIn K mainGlobals "max"=some none)
 (z_range:W.nsIn K mainGlobals "range"=some none)
 (z_set:W.nsIn K mainGlobals "set"=some none)
 (z_sorted:W.nsIn K mainGlobals "sorted"=some none)
 (z_str:W.nsIn K mainGlobals "str"=some none)
 (z_sum:W.nsIn K mainGlobals "sum"=some none)
 (z_tuple:W.nsIn K mainGlobals "tuple"=some none):
 ∃fd:FuncData,(∀(s:Shared)(v:Value),BindsTo s fd #[[v],[]] [("script",v)])/\∀base:Heap,K.In base->base.Ns mainGlobals mg->dC l.prog w K mg base fU 65 fa fd ["script"] (IX K):=by
 let e:=hfa.symm.trans<|fI X G a_B;cases e;let gI:MT K C_Growth:=#[pg_Growth,hd_Growth,po_Growth,sa_Growth]
 let mC_Growth:=fI X G aC_Growth;let F_l:=mW.F;let b_l:=bz F_l ["self","many"];let iC:MT K C_Floor:=#[pg_Floor,hd_Floor,po_Floor,sa_Floor]
 let mC_Floor:=fI X G aC_Floor;let F_u:=nN.F;let b_u:=bz F_u ["self","many","clashes"];let F_a:=iE.F;let b_a:=bz F_a ["self","sets","t"];let t_a:OY K C_Floor "value_of" f_a:=#[iE.a,iE.i,iE.k]
 let F_c:=i_c.F;let b_c:=bz F_c ["t","found"];let m_c:=fI X G i_c.a;let m_bg:=fI X G i_bg.a;let m_bc:=fI X G i_bc.a;let F_d:=i_d.F;let b_d:=bz F_d ["row_number","places","t"];let m_d:=fI X G i_d.a;let F_b:=i_b.F;let b_b:=bz F_b ["row_number","places","t"];let m_b:=fI X G i_b.a;let F_B:=HM (st:=fz) l_B c_B k_B;let b:Bi mg:=#[cV X G z_len,cV X G z_range,cV X G z_isinstance,cV X G z_max,cV X G z_sum,cV X G z_all,cV X G z_tuple,cV X G z_list,cV X G z_sorted,cV X G z_set,cV X G z_int,cV X G z_bool,cV X G z_str,cV X G z_dict]
 calc#[W.fnOf "law" "law" (xI fz) (yV fz) (zF fz) .none kV_B dc_B pm_B an_B cd_B ct_B,λs v=>.of_eq rfl,λbase _ _=>?_];let Ev:En l.prog w K mg base:=#[_,X,G]
 let be:mg "enumerate"=none:=cV X G z_enumerate;let T:PP K C_Growth:=#[gI,n_Growth_lines,n_Growth_places,n_Growth_above,n_Growth_below]
 let h0:=hz Ev i_X<|CI b i_X.F;let h1:=hz Ev i_Q<|CJ b h0 i_Q.F;let h2:=hz Ev i_E<|GQ b i_E.F;let J:cz l.prog w K mg base 1 C_Growth "Growth" ["self","many"] (q9 C_Growth):=#[_,_,WL T F_l,b_l,#[mk_Growth,mW.a,mW.i,kc_Growth],mC_Growth]
 let d:=mz Ev nH<|GK T nH.F;let g:=mz Ev j_Growth_has<|u6 T j_Growth_has.F;let c:=mz Ev j_Growth_grow<|i4 T b g j_Growth_grow.F;let L:=hz Ev i_ca<|WS T b be c i_ca.F;let M:=hz Ev i_n<|WR b be i_n.F;let N:=hz Ev i_g<|wD b be i_g.F;let O:=hz Ev i_x<|iu T d c i_x.F;let P:=hz Ev i_m<|WQ T b h2 d c i_m.F;let Q:=hz Ev i_q<|i7 T d g c i_q.F;let R:=hz Ev i_o<|WP T b d c i_o.F;let S:=hz Ev i_y<|iy T b h1 d g c i_y.F;let U:=hz Ev i_bf<|GP T b J M N L O P Q R S i_bf.F;let v1:=hz Ev i_U<|BW b i_U.F;let v2:=hz Ev i_A<|XO b be i_A.F;let Y:=hz Ev i_H<|JR b be i_H.F;let Z:=hz Ev i_Y<|BS b be v1 v2 Y i_Y.F;let p1:=hz Ev i_z<|XQ b i_z.F;let p2:=hz Ev i_bb<|GF b i_bb.F;let p3:=hz Ev i_V<|CD b be i_V.F;let p4:=hz Ev i_be<|GO b p1 i_be.F;let p5:=hz Ev i_bh<|WK b be p3 p4 p2 i_bh.F;let TF:FlC K C_Floor:=#[iC,n_Floor_everywhere,n_Floor_clashing]
 let f1:=hz Ev i_ba<|GJ b i_ba.F;let f3:cz l.prog w K mg base 1 C_Floor "Floor" ["self","many","clashes"] (re C_Floor):=#[_,_,WN TF F_u,b_u,#[mk_Floor,nN.a,nN.i,kc_Floor],mC_Floor]
 let B:=mz Ev mN<|OA TF mN.F;let f5:=mz Ev mD<|JQ TF b h2 B mD.F;let f6:mK l.prog w K mg base 23 C_Floor "value_of" ["self","sets","t"] (fk C_Floor 23):=#[_,_,BU TF b B f5 F_a b_a t_a 23,b_a,t_a]
 let j:=hz Ev i_ac<|BZ b i_ac.F;let m:=ZJ F_c (YB b j F_c b_c m_c 22) b_c m_c;let n:=hz Ev i_v<|YA b m i_v.F;let o:=hz Ev i_af<|CC b n i_af.F;let p:=hz Ev i_ab<|BY b f1 i_ab.F;let q:=hz Ev i_cb<|WI TF b p o h2 f3 f6 i_cb.F;let gM:Gc mg "MOST_ROWS" (.int 40):=#[_,fI X G g_MOST_ROWS,#[_,rfl]]
 let gN:Gc mg "NONE_ROW" (.ref nW):=#[_,fI X G g_NONE_ROW,rfl]
 let sN:∀H,Tw K H nW [.str "none"]:=λH=>.inr #[_,_,_,o_NONE_ROW,rfl,rfl,(by show 1<=sizeLine;decide),.cons #[_,rfl] .nil]
 let s1:=hz Ev i_bc<|NW gM b i_bc.F;let s2:=hz Ev i_bg<|WM b i_bg.F;let C:=hz Ev i_K<|NT b i_K.F;let s4:=wO (s1.at m_bc) C F_d b_d m_d F_b b_b m_b 21;let s5:=wO (s2.at m_bg) C F_d b_d m_d F_b b_b m_b 21;let s6:=hz Ev i_aa<|BX gN sN m_bc b s4 i_aa.F;let D:=hz Ev i_I<|NX b be i_I.F;let E:=hz Ev i_T<|GH m_bg s5 i_T.F;let s9:=hz Ev i_k<|ZE E i_k.F;let r:=hz Ev i_ah<|CB b D s9 i_ah.F;let u:=hz Ev i_Z<|BV b i_Z.F;let j1:=hz Ev i_w<|ZZ b q i_w.F;let j2:=hz Ev i_P<|CH b U r E D p5 Z j1 i_P.F;let gR:Gc mg "MOST_RULES" (.int 6):=#[_,fI X G nU,#[_,rfl]]
 let r1:=hz Ev i_p<|ZD b i_p.F;let r2:=hz Ev i_R<|CA b i_R.F;let r3:=hz Ev i_j<|kH b h2 r2 i_j.F;let I:=hz Ev i_S<|GN b i_S.F;let r5:=hz Ev i_C<|XR b (cV X G z_any) I i_C.F;let r6:=hz Ev i_r<|ZY b I i_r.F;let r7:=hz Ev i_W<|CK b r6 i_W.F;let r8:=hz Ev i_bd<|GG b gR s6 u j2 r3 r5 r7 r1 i_bd.F;let f:=hz Ev i_i<|i6 b i_i.F;let w2:=hz Ev i_D<|i3 b i_D.F;let w3:=hz Ev i_ag<|iz b f w2 i_ag.F;let x:=hz Ev i_J<|iw b i_J.F;let w5:=hz Ev i_M<|WJ b f x i_M.F;let w6:=hz Ev i_O<|i8 b x i_O.F;let w7:=hz Ev i_G<|NU b f x i_G.F;let w8:=hz Ev i_N<|VB b f i_N.F;let w9:=hz Ev i_L<|WO b f w3 w5 w6 w7 w8 i_L.F;let y:=hz Ev i_ae<|i5 b i_ae.F;let z:=hz Ev i_t<|CG b i_t.F;let A:=hz Ev i_ad<|CF b i_ad.F;exact u5 b w9 y r8 z A F_B
theorem walk{l:W.OpenLaw}{q:Program}{loose:List Str}{XP:(Str->Option Value)->Heap->Prop}{YP:World->Heap->Prop}{d:DefRec}{K:Params->W.Frag}(hn:l.most=some 63)(hdf:d.params.defaults=[])
 (hY:∀(w:World)(h:Heap),YP w h->(K w.params).In h)
 (F:∀(w:World)(mg:Str->Option Value)(fa:Addr)(h:Heap),(K w.params).In h->h.Ns mainGlobals mg->mg d.name=some (.ref fa)->
  ∃fd:FuncData,(∀(s:Shared)(u:Value),BindsTo s fd #[[u],[]] [("script",u)])/\∀base:Heap,(K w.params).In base->base.Ns mainGlobals mg->dC l.prog w (K w.params) mg base fU 65 fa fd ["script"] (IX<|K w.params)):
 W.WalkO q loose XP YP l.row.toRowW d [] (λf vs=>PySem.call f vs):=
 L2.walk_of (n:=63) (k:=65) (x:="script") (CX:=λ_=>fU) (sp:=λw=>IX<|K w.params) hn () hdf #[rfl,(),()] hY F (λ_ _ a ns hl _ b=>#[a,ns,rfl,b,hl,λ_=>rfl]) λ_ _ _ _ _ z=>z
end C
open PySem PySem.W PyProof.Rows
set_option maxRecDepth 100000 in
set_option maxHeartbeats 0 in
theorem PySem.Challenge.cw_clashbook_k39_whole_each_set_on_one_side_holds : PySem.Challenge.rw_clashbook_k39_whole_each_set_on_one_side.Holds := by
 w_on;o_law;k_head;(case hw=>w_witness2)
 k_fill
 refine C.walk (l:=PySem.Challenge.rw_clashbook_k39_whole_each_set_on_one_side) rfl rfl (fun w h Y=>PySem.W.kIn_of Y) ?F
 case F=>
  intro w mg fa h KX G hmg;refine' C.all_mk KX G hmg ?_ ?_ ?_ ?_ ?_ ?_ ?_ ?_ ?_ ?_ ?_ ?_ ?_ ?_ ?_ ?_ ?_ ?_ ?_ ?_ ?_ ?_ ?_ ?_ ?_ ?_ ?_ ?_ ?_ ?_ ?_ ?_ ?_ ?_ ?_ ?_ ?_ ?_ ?_ ?_ ?_ ?_ ?_ ?_ ?_ ?_ ?_ ?_ ?_ ?_ ?_ ?_ ?_ ?_ ?_ ?_ ?_ ?_ ?_ ?_ ?_ ?_ ?_ ?_ ?_ ?_ ?_ ?_ ?_ ?_ ?_ ?_ ?_ ?_ ?_ ?_ ?_ ?_ ?_ ?_ ?_ ?_ ?_ ?_ ?_ ?_ ?_ ?_ ?_ ?_ ?_ ?_ ?_ ?_ ?_ ?_ ?_ ?_ ?_ ?_ ?_ ?_ ?_ ?_ ?_ ?_ ?_ ?_ ?_ ?_ ?_ ?_ ?_
  all_goals try first |(refine' C.fQq ?_ ?_ ?_ ?_<;>try k_is) |(refine' C.mQq ?_ ?_ ?_ ?_ ?_<;>try k_is) |k_is
