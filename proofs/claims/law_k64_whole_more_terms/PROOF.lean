import PyProof.Rows.All
import Wide.All
import OpenK.AllK
import Wide.FinOn
import PySem.Challenge.RW_clashbook_k64_whole_more_terms
namespace PySem.W.Fast
def tw14419294311903492208:=0
def tw11748129945933328066:=0
def tw17742695779814612847:=0
def tw6638543819337521062:=0
def tw16894806590515124583:=0
def tw4607058132156113429:=0
def tw13097033008362807300:=0
def tw17452921051988385044:=0
def tw14333819441679322659:=0
def tw17524211548970876401:=0
def tw5687039186185403544:=0
def tw7616986044227184206:=0
def tw1373787884990464372:=0
def tw9484114198422705337:=0
def tw15189258137803567810:=0
def tw13462973711281333308:=0
def tw10073181448551845361:=0
def tw2391656109933910816:=0
def tw5144471023068316581:=0
def tw10819880361755342251:=0
def tw10594191846721441121:=0
def tw8068520645339573004:=0
def tw3845815693206421388:=0
def tw18224296023387657855:=0
def tw11974917107325198059:=0
def tw3743541216413466422:=0
def tw9258453085314489703:=0
def tw6631514883971561110:=0
def tw2406115244203446238:=0
def tw11031474855179940287:=0
def tw14625943996337465904:=0
def tw8546219870150849382:=0
def tw11718158623800497406:=0
def tw17919348129143968587:=0
def tw2609757845372734259:=0
def tw4490165416960227865:=0
def tw14879765440398129852:=0
def tw8763143824391030344:=0
def tw17033998760233975119:=0
def tw8687905671060418693:=0
def tw11588483599553009867:=0
def tw12494549525923921972:=0
def tw9864797280092161956:=0
def tw2782957467363067223:=0
def tw1940458859255047782:=0
def tw10055969625380480784:=0
def tw16101025052441910048:=0
def tw11074410289888790258:=0
def tw7922835087357063948:=0
def tw7156872314087305728:=0
def tw1177509574966394883:=0
def tw17060450604050954466:=0
def tw13918035909118585842:=0
def tw11442238415715834321:=0
def tw16245267091508473001:=0
def tw8150189280530995924:=0
def tw14588949879188304388:=0
def tw12369581816092887416:=0
def tw4407983060137789317:=0
def tw13072564525544223189:=0
def tw10370245392090198137:=0
def tw17584965461220773894:=0
def tw13296323014996423341:=0
def tw8248872838305989399:=0
def tw14027640813351979255:=0
def tw4975670358524517079:=0
def tw14730852540186036153:=0
def tw14547323026870177327:=0
def tw16957624963705906086:=0
def tw17084222007037039158:=0
def tw644611140071344570:=0
def tw15740666523666562475:=0
def tw5078688189696391062:=0
def tw15882253562184181724:=0
def tw2565114533312626516:=0
def tw15562376407296478794:=0
def tw311630507509846569:=0
def tw4876953524229290949:=0
def tw2432255922078986336:=0
def tw17458581514185773968:=0
def tw15263304609135284059:=0
def tw13655819786384151873:=0
def tw11756861245915020598:=0
def tw4737915400219529365:=0
def tw7317603304571446257:=0
def tw14549679866544376321:=0
def tw6422697947050020166:=0
def tw4665681151992838598:=0
def tw2294098642199481038:=0
def tw6664179440244789870:=0
def tw12821653297379742683:=0
def tw207626163389473670:=0
def tw5606015425842292050:=0
def tw15487840236575672269:=0
def tw2281709337264686352:=0
def tw18361942255140788862:=0
def tw10221105860757883621:=0
def tw6590306600245908362:=0
def tw705333012660743029:=0
def tw16948603564265525343:=0
def tw4457640619574368658:=0
def tw17319439446325233322:=0
def tw9384197534435110743:=0
def tw1513411168778534075:=0
def tw5070191143320505269:=0
def tw18016413753310762331:=0
def tw12135225454793529378:=0
def tw642589956720576376:=0
def tw13264459587042761735:=0
def tw17275363846961525902:=0
def tw13747313211993855048:=0
def tw11195500842828586858:=0
def tw9036428592692135898:=0
def tw9268743714159516375:=0
def tw10582067460957865201:=0
def tw14934341153765906024:=0
def tw1254388447362545808:=0
def tw2502985457851082804:=0
def tw16441041054074762486:=0
def tw5341144708023398782:=0
def tw10391227986127616881:=0
def tw13100070470950619703:=0
def tw4279709265531624914:=0
def tw7985720333253827445:=0
def tw11184757852728789610:=0
def tw13737342394906380766:=0
def tw6630770106468701026:=0
def tw4948735337660908460:=0
def tw17842098878459902823:=0
def tw8809859856134244861:=0
def tw2953788735893453380:=0
def tw17715503307568958764:=0
def tw5965068977362062119:=0
def tw12372553067099864703:=0
def tw2401503444040944382:=0
def tw7353789439581802818:=0
def tw13793470577752679194:=0
def tw9114737655650916041:=0
def tw2298968719251986007:=0
def tw12620256690191755113:=0
def tw70303347475878811:=0
def tw10741297756570809603:=0
def tw10560984886596354283:=0
def tw11276271679481486227:=0
def tw8588289695765046570:=0
def tw7687028345234245704:=0
def tw16240974681258734631:=0
def tw80359375817897655:=0
def tw7901065886727457129:=0
def tw460876701505834178:=0
end PySem.W.Fast
set_option Elab.async false
set_option linter.all false
set_option maxRecDepth 100000
abbrev aH:=@if_neg
abbrev aL:=@if_pos
abbrev bQ:=@decide_eq_true_eq
abbrev cQ:=@beq_iff_eq
abbrev cV:=@beq_eq_false_iff_ne
abbrev dF:=@decide_eq_false
abbrev dH:=@congrArg
abbrev dP:=@if_false
abbrev dU:=@beq_self_eq_true
abbrev eC:=@decide_eq_true
open Array renaming length_toList->bR,toList_append->cN,getElem?_toList->cZ,toList_extract->eD,perm_iff_toList_perm->iV,toList_reverse->nM,size_extract->oN,toArray_toList->sD,getElem?_eq_none_iff->i3,getElem?_eq_getElem->j6
open Bool renaming not_false->bH,not_true->bK,false_eq_true->bV,and_eq_true->bY,eq_iff_iff->cE,false_ne_true->cI,eq_false_iff->dX,false_and->fN,or_eq_true->nU,and_false->oM,true_and->pC,or_false->tG,not_eq_true'->GY
open Classical renaming byContradiction->oS
open Int renaming toNat_natCast->cA,eq_ofNat_of_zero_le->dY,le_refl->iD,le_of_lt->pV,emod_nonneg->rD,emod_lt_of_pos->DI
open List renaming getElem?_eq_getElem->aA,getElem?_eq_some_iff->aC,length_map->aE,length_append->aI,getElem?_map->aK,take_succ_eq_append_getElem->aM,size_toArray->aQ,take_of_length_le->aS,mem_singleton->aT,map_append->aU,mem_of_getElem?->aX,mem_append_right->aZ,getElem?_append_left->bC,length_cons->bD,mem_cons_of_mem->bE,mem_cons_self->bF,mem_cons->bJ,getElem?_append_right->bL,lookup_cons->bN,mem_append->bO,mem_range->bP,getD_eq_getElem?_getD->bU,length_take->bX,length_singleton->cC,mem_map->cD,map_cons->cF,mem_append_left->cK,append_assoc->cL,append_nil->cM,getElem_mem->cW,mem_filter->cX,all_eq_true->dB,pairwise_iff_getElem->dJ,take_append_drop->dM,getElem_of_mem->dO,extract_eq_take_drop->dR,pairwise_lt_range->dS,map_map->eQ,find?_cons->eR,length_range->eY,not_mem_nil->fH,length_drop->fI,filter_append->fJ,any_eq_true->fK,replicate_succ->fQ,findIdx?_eq_some_iff_getElem->gA,drop_eq_getElem_cons->gF,range_succ->gG,getElem_toArray->gL,getElem?_set_ne->gO,flatMap_append->hV,getElem?_set_self->iG,nodup_cons->iI,length_filter_le->iM,mem_of_mem_take->iT,getElem?_of_mem->iU,filter_cons->iY,getElem?_take_of_lt->lJ,length_set->lN,mem_filterMap->lU,length_eq_zero_iff->lW,pairwise_map->mH,nodup_append->mI,flatten_cons->mJ,mem_flatMap->mV,any_cons->mY,length_nil->nT,filterMap_map->oJ,getElem?_cons_zero->pN,map_nil->pT,all_map->pU,perm_append_comm->rK,length_replicate->rL,reverse_reverse->rX,drop_zero->rY,drop_drop->rZ,reverse_append->sU,map_congr_left->sV,filterMap_cons->sW,reverse_perm->GV,getElem_take->GX,getElem_map->NP,getElem_inj->NQ,of_mem_zip->WU,nil_append->WV,getElem?_zip_eq_some->j5
open List.Pairwise renaming filter->gP
open List.Perm renaming refl->sC
open List.cons renaming inj->tF
open Nat renaming le_refl->aG,ne_of_lt->bS,zero_le->cG,lt_of_lt_of_le->cH,le_trans->cP,lt_irrefl->eE,lt_of_le_of_lt->fG,sub_self->fM,lt_succ_of_lt->gK,testBit_div_two->hJ,zero_add->iE,lt_or_eq_of_le->iF,testBit_zero->iX,testBit_two_pow->lC,testBit_and->lM,le_of_lt_succ->mG,eq_of_testBit_eq->nI,testBit_two_pow_sub_one->oB,add_sub_cancel_left->pM,le_of_lt->pS,testBit_or->rV,le_succ->rW,lt_succ_self->NO,two_pow_pos->WT,ge_two_pow_of_testBit->j4
open Nat.succ renaming inj->mF
open Ne renaming symm->cJ
open Option renaming map_eq_some_iff->aO,bind_eq_some_iff->cY,isSome_map->gJ,map_eq_none_iff->pR
open Option.some renaming inj->dC,injEq->GU
open PyProof.Rows renaming wpS_bind->aY,wpS_pure->bI,slot_tuple_getitem->dZ,wpS_forRange->eI,wpS_mono->fR,callWith_type1->fS,wpS_modify->mM,wpS_get->DG,listUpdate_at->DK,wpS_lift->jx,seqEpoch_at->jy
open PySem renaming wpAny_bind->aF,wpAny_pure->aR,sizeLine_eq->dE,tupleKind_room_in1->eG,mem_of_lookup->eJ,wpAny_newObj_type->eS,wpAny_holding->eV,wpAny_truthy_bool->fT,wpAny_call_entry->gE,wpAny_typeNameOfWhole_keyiter->iN,wpAny_rule->iO,wpAny_Call_Name_kw->iP,wpAny_passesOwn->iS,wpAny_mono->lH,wpAny_typeOf->lT,wpAny_typeNameOf_keyiter->mD,wpAny_callSpecial?_slot->mP,wpAny_dictEntries->nG,wpAny_notOrdered_dict->nW,wpAny_pyIter_list->rB,atKey_none_of_get->rC,wpAny_newList->rJ,wpAny_pyNext_list_item->sP,call_meetsIn->sQ,call_meets->sR,wpAny_execs_nil->sZ,codeAny_builtin->tD,wpAny_pyNext_list_end->DH,storedH_new->GR,wpAny_attempt->NY,plainId_quiet->NZ,builtinLookup_eq_fast->ak,wpAny_Call_method->ix,codeAny_mono->iy
open PySem.Around renaming under_plainId->oO
open PySem.AutoSeq1 renaming wpAny_loadPart'->NN
open PySem.Calls renaming spliced_cons->gQ,callWith_builtin->iQ,spliced_nil->nK,evalArgs_plain->oK,call_function_entry->pW
open PySem.F renaming plainAttrs_list->bW,type_list_append->cS,slot_list_append->cT,slot_dict_keyiterator_next->eT,slot_list_extend->gU,slot_list_getattribute->hW,slot_dict_get->iL,type_list_extend->lI,args_tuple_add_2->pA,plainAttrs_dict->pK,entry_tuple_add->pL,slot_tuple_add->pP,entry_dict_get->pQ,args_dict_keyiterator_next_1->sT,entry_dict_keyiterator_next->tE,slot_dict_setdefault->WR,kt_typeCall_dict_1->iz,slot_dict_getitem->jz
open PySem.Heap renaming get?_push_of_some->aP,lt_size->bA,get?_push_size->bT,get?_push_ne->iZ,get?_update_other->nJ,get?_update_self->nX,size_update->oC
open PySem.Heap.SameBut renaming update->lZ
open PySem.Obj renaming data_mapFields->WS
open PySem.Paired renaming length->eW
open PySem.PassesOwn renaming never->bM
open PySem.W renaming mg_of->aW,mg_none_of->dA,kia_one->eP,callWith_K->oI,plainGet_of->sS
open Sum.inl renaming inj->rT
open Sum.inr renaming inj->OA
namespace L2
open PySem PySem.Spec PyProof.Rows
variable {a b f it:Addr} {A:Around} {CX:jw} {op:CmpOp} {X:Cx} {D:sO} {c e o tg:Expr} {fd:FuncData} {base h h':Heap} {H H':Hp} {aJ:List (Addr×Obj)} {kw:List (Str×Value)} {ch fp:List Addr} {outer:List Env} {es:List Expr} {N ns ps:List Str} {vs xs:List V} {its us:List Value} {M:Model} {i j n t':Nat} {lV pos':Pos} {P prog:Program} {K:W.Frag} {R:Result->Shared->Prop} {s:Shared} {sp:Sp} {σ:St} {qual:Str} {mA mg:Str->Option Value} {T:String} {ta te:TE} {tb:TS} {α:Type} {v y:V} {u:Value} {E Q:Value->Shared->Prop} {w:World}
local macro_rules | `(()) => `(by lia)
abbrev eL:=Sum Int Str
def ZP:eL->Value->Bool
 | .inl k,v=>Value.isInt k v
 | .inr x,v=>Value.isStrOf x v
def keyH(w:World):eL->Int
 | .inl k=>hashInt k
 | .inr x=>hashStr w x
theorem yS:∀{k:eL}{v:Value},ZP k v=true->(∃i t,k=Sum.inl i/\v=Value.int i t)\/(∃x t,k=Sum.inr x/\v=Value.str x t)
 | .inl i,v,h=>by
   obtain⟨t,e⟩:=Value.isInt_shape (k:=i) (v:=v) h;exact .inl ⟨i,t,rfl,e⟩
 | .inr x,v,h=>by
   obtain⟨t,e⟩:=Value.isStrOf_shape (x:=x) (v:=v) h;exact .inr ⟨x,t,rfl,e⟩
theorem MS(i:Int)(t:Tok):ZP (.inl i) (.int i t)=true:=by simp[ZP,Value.isInt]
theorem MR(x:Str)(t:Tok):ZP (.inr x) (.str x t)=true:=by simp[ZP,Value.isStrOf]
theorem n5(a b:Int):decide ((Sum.inl a:eL)=Sum.inl b)=(a==b):=by
 by_cases e:a=b
 ·subst e;simp
 ·have h:¬(Sum.inl a:eL)=Sum.inl b:=fun q=>e (rT q)
  rw[dF h];exact(cV.mpr e).symm
theorem nv(a b:Str):decide ((Sum.inr a:eL)=Sum.inr b)=decide (a=b):=by
 by_cases e:a=b
 ·subst e;simp
 ·have h:¬(Sum.inr a:eL)=Sum.inr b:=fun q=>e (OA q)
  rw[dF h,dF e]
theorem n0(a:Int)(b:Str):decide ((Sum.inl a:eL)=Sum.inr b)=false:=dF (fun q=>nomatch q)
theorem nw(a:Str)(b:Int):decide ((Sum.inr a:eL)=Sum.inl b)=false:=dF (fun q=>nomatch q)
def yA(prog:Program)(w:World):PySem.KeyKind prog w eL where
 is:=ZP
 hash:=keyH w
 inj:=fun v a b ha hb=>by
  rcases yS ha with⟨i,t,rfl,rfl⟩ |⟨x,t,rfl,rfl⟩
  ·rcases yS hb with⟨j,u,rfl,e⟩ |⟨y,u,rfl,e⟩
   ·injection e with e1 _;rw[e1]
   ·exact nomatch e
  ·rcases yS hb with⟨j,u,rfl,e⟩ |⟨y,u,rfl,e⟩
   ·exact nomatch e
   ·injection e with e1 _;rw[e1]
 byValue:=fun k v h=>by
  rcases yS h with⟨i,t,rfl,rfl⟩ |⟨x,t,rfl,rfl⟩<;>rfl
 pyHash:=fun hv h=>by
  rcases yS hv with⟨i,t,rfl,rfl⟩ |⟨x,t,rfl,rfl⟩
  ·exact wpAny_pyHash_int h
  ·exact wpAny_pyHash_str h
 eqBool:=fun hu hv h=>by
  rcases yS hu with⟨i,t,rfl,rfl⟩ |⟨x,t,rfl,rfl⟩
  ·rcases yS hv with⟨j,u,rfl,rfl⟩ |⟨y,u,rfl,rfl⟩
   ·rw[n5]at h;exact wpAny_eqBool_int h
   ·rw[n0]at h;exact SeqAt.EqAt.int_str i t y u _ _ _ _ h
  ·rcases yS hv with⟨j,u,rfl,rfl⟩ |⟨y,u,rfl,rfl⟩
   ·rw[nw]at h;exact SeqAt.EqAt.str_int x t j u _ _ _ _ h
   ·rw[nv]at h;exact wpAny_eqBool_str h
 «strs»:=fun k x t v h=>by
  rcases yS h with⟨i,u,rfl,e⟩ |⟨y,u,rfl,e⟩
  ·exact nomatch e
  ·injection e with e1 _
   subst e1;cases v<;>rfl
theorem BQ(prog:Program)(w:World)(i:Int)(t:Tok):(yA prog w).is (.inl i) (.int i t)=true:=MS i t
theorem uZ(prog:Program)(w:World)(x:Str)(t:Tok):(yA prog w).is (.inr x) (.str x t)=true:=MR x t
inductive V where
 |non |bl (b:Bool) |int (i:Int) |str (x:Str) |byt (b:Array UInt8) |flt (b:UInt64) |ref (a:Addr) |ty (n:String)
 deriving DecidableEq
def RelV:V->Value->Prop
 | .non,u=>u=Value.none
 | .bl b,u=>u=Value.bool b
 | .int i,u=>∃t,u=Value.int i t
 | .str x,u=>∃t,u=Value.str x t
 | .byt b,u=>∃t,u=Value.bytes b t
 | .flt b,u=>∃t,u=Value.float b t
 | .ref a,u=>u=Value.ref a
 | .ty n,u=>u=Value.type n
abbrev dD:List V->List Value->Prop:=Paired RelV
theorem dD.length(r:dD xs us):xs.length=us.length:=eW r
theorem dD.get:∀{xs:List V}{us:List Value}{i:Nat}{x:V},dD xs us->xs[i]?=some x->∃u,us[i]?=some u/\RelV x u
 |_,_,_,_,.nil,e=>by simp at e
 |_,_,0,_,.cons r _,e=>by simp at e;subst e;exact⟨_,rfl,r⟩
 |_,_,i+1,x,.cons _ t,e=>by
  obtain⟨u,h1,h2⟩:=dD.get (i:=i) (x:=x) t (by simpa using e);exact⟨u,by simpa using h1,h2⟩
theorem dD.set{x:V}{u:Value}(r:RelV x u):∀{xs:List V}{us:List Value}(i:Nat),dD xs us->dD (xs.set i x) (us.set i u)
 |_,_,_,.nil=>.nil
 |_,_,0,.cons _ t=>.cons r t
 |_,_,i+1,.cons q t=>.cons q (dD.set r i t)
theorem dD.append:∀{xs ys:List V}{us ws:List Value},dD xs us->dD ys ws->dD (xs++ys) (us++ws)
 |_,_,_,_,.nil,s=>s
 |_,_,_,_,.cons r t,s=>.cons r (dD.append t s)
theorem dD.take:∀{xs:List V}{us:List Value}(n:Nat),dD xs us->dD (xs.take n) (us.take n)
 |_,_,0,_=>.nil
 |_,_,_+1,.nil=>.nil
 |_,_,n+1,.cons r t=>.cons r (dD.take n t)
theorem dD.drop:∀{xs:List V}{us:List Value}(n:Nat),dD xs us->dD (xs.drop n) (us.drop n)
 |_,_,0,r=>r
 |_,_,_+1,.nil=>.nil
 |_,_,n+1,.cons _ t=>dD.drop n t
def mN:Option V->Option Value->Prop
 |some v,some u=>RelV v u
 |none,none=>True
 |_,_=>False
def KV{κ:Type}:List (κ×V)->List (κ×Value)->Prop:=Paired fun(p:κ×V)(q:κ×Value)=>p.1=q.1/\RelV p.2 q.2
def kV:eL->V
 | .inl i=>.int i
 | .inr x=>.str x
inductive HO where
 |lst (xs:List V)
 |tup (xs:List V)
 |dK (kvs:List (eL×V)) |dT (kvs:List (List eL×V))
 |set (S:Int->Bool) (n:Nat)
 |ins (C dx:Addr) (fs:List (Str×V))
 |own (x:Addr)
 |xd (fs:List (Str×V))
 |met (f x:Addr)
 |rng (lo hi:Int)
 |frz (o:Obj) (u:HO)
 |tbl (ps:Array Value)
 |ext (φ:Heap->Prop)
abbrev Hp:=Addr->Option HO
def upd(H:Hp)(a:Addr)(o:HO):Hp:=fun b=>if b=a then some o else H b
theorem zB{o:HO}:upd H a o a=some o:=by unfold upd;rw[aL rfl]
theorem zJ{o:HO}(h:b≠a):upd H a o b=H b:=by unfold upd;rw[aH h]
theorem YD{o u:HO}:upd (upd H a o) a u=upd H a u:=by
 funext b;unfold upd;split<;>rfl
theorem jH{o u:HO}(h:H a=some o)(h':H b=some u)(d:o≠u):a≠b:=by
 intro e;subst e;rw[h]at h';exact d (dC h')
theorem xI{o:HO}(h:H a=some o)(h':H b=none):a≠b:=by
 intro e;subst e;rw[h]at h';cases h'
section
variable (P:Program) (w:World)
def fA(H:Hp)(h:Heap)(a:Addr):HO->Prop
 | .lst xs=>xs.length<=sizeLine/\∃(its:List Value)(n:Nat),dD xs its/\h.get? a=some {cls:=.type "list",data:=.seq its.toArray n}
 | .tup xs=>xs.length<=sizeLine/\∃its:List Value,dD xs its/\IsTup h a its.toArray
 | .dK kvs=>kvs.length<=sizeLine/\(a==sysModules)=false/\∃vs,KV kvs vs/\h.DictOf (yA P w) a vs
 | .dT kvs=>kvs.length<=sizeLine/\(a==sysModules)=false/\∃xs:List (List eL×Addr×Value),
  Paired (fun(p:List eL×V) (q:List eL×Addr×Value)=>p.1=q.1/\H q.2.1=some (.tup (p.1.map kV))/\RelV p.2 q.2.2) kvs xs/\
  ∃o es ep,h.get? a=some o/\o.ExactDict/\o.data=.dict es ep/\es.toList=xs.map (entryOfKey (tupleKind (yA P w)))/\(xs.map (·.1)).Nodup
 | .set S n=>h.SetOf (intKind P w) a S n
 | .ins C dx fs=>H dx=some (.own a)/\fs.length<=1000/\dx≠a/\h.get? a=some (W.instObj C dx)/\
  ∃mA,h.Ns1 dx mA/\(∀f,mN (fs.lookup f) (mA f))/\PySem.Within mA (fs.map (·.1))
 | .own _=>∃o,h.get? a=some o
 | .xd fs=>∃mA,h.Ns1 a mA/\∀f,mN (fs.lookup f) (mA f)
 | .rng lo hi=>∃t u v,h.get? a=some {cls:=.type "range",data:=.fields #[.int lo t,.int hi u,.int 1 v]}
 | .frz o u=>h.get? a=some o/\fA H h a u
 | .tbl ps=>h.get? a=some {cls:=.none,data:=.fields ps}
 | .met f x=>h.get? a=some (W.methodObj (.ref f) (.ref x))
 | .ext φ=>φ h/\(∃o,h.get? a=some o)/\∀h1 h2:Heap,φ h1->(∀o,h1.get? a=some o->h2.get? a=some o)->φ h2
def mO(H:Hp)(h:Heap):Prop:=∀a o,H a=some o->fA P w H h a o
end
section
variable {o:HO}
theorem fA.lt(x:fA P w H h a o):a<h.objs.size:=by
 cases o with
 |lst xs=>obtain⟨_,_,_,_,e⟩:=x;exact bA e
 |tup xs=>obtain⟨_,_,_,p⟩:=x;exact p.lt
 |dK kvs=>obtain⟨_,_,_,_,o,_,_,e,_⟩:=x;exact bA e
 |dT kvs=>obtain⟨_,_,_,_,o,_,_,e,_⟩:=x;exact bA e
 |set S n=>obtain⟨o,_,_,_,e,_⟩:=x;exact bA e
 |ins C dx fs=>obtain⟨_,_,_,e,_⟩:=x;exact bA e
 |own y=>obtain⟨_,e⟩:=x;exact bA e
 |xd fs=>obtain⟨_,⟨_,_,_,e,_⟩,_⟩:=x;exact bA e
 |rng lo hi=>obtain⟨_,_,_,e⟩:=x;exact bA e
 |frz ob u=>obtain⟨e,_⟩:=x;exact bA e
 |tbl ps=>exact bA (show h.get? a=some _ from x)
 |met f y=>exact bA (show h.get? a=some _ from x)
 |ext φ=>obtain⟨_,⟨_,e⟩,_⟩:=x;exact bA e
theorem Paired.mapP{α β:Type}{F G:α->β->Prop}:∀{l₁:List α}{l₂:List β},Paired F l₁ l₂->(∀a b,F a b->G a b)->Paired G l₁ l₂
 |_,_,.nil,_=>.nil
 |_,_,.cons r t,f=>.cons (f _ _ r) (Paired.mapP t f)
theorem fA.stay(x:fA P w H h a o)(k:∀b u,(b=a\/H b=some (.own a))->h.get? b=some u->h'.get? b=some u)
 (ho:∀b,H b=some (.own a)->H' b=some (.own a)) (ht:∀b xs,H b=some (.tup xs)->H' b=some (.tup xs)):fA P w H' h' a o:=by
 induction o with
 |lst xs=>obtain⟨z,its,n,r,e⟩:=x;exact⟨z,its,n,r,k _ _ (.inl rfl) e⟩
 |tup xs=>obtain⟨z,its,r,ob,e,c⟩:=x;exact⟨z,its,r,ob,k _ _ (.inl rfl) e,c⟩
 |dK kvs=>obtain⟨z,y,vs,r,ob,es,ep,e,c⟩:=x;exact⟨z,y,vs,r,ob,es,ep,k _ _ (.inl rfl) e,c⟩
 |dT kvs=>
  obtain⟨z,y,xs,r,ob,es,ep,e,c⟩:=x;exact⟨z,y,xs,Paired.mapP r fun p q z=>⟨z.1,ht _ _ z.2.1,z.2.2⟩,ob,es,ep,k _ _ (.inl rfl) e,c⟩
 |set S n=>obtain⟨ob,es,ep,t,e,c⟩:=x;exact⟨ob,es,ep,t,k _ _ (.inl rfl) e,c⟩
 |ins C dx fs=>
  obtain⟨d,z,ne,e,mA,⟨od,es,ep,e2,c⟩,r⟩:=x;exact⟨ho _ d,z,ne,k _ _ (.inl rfl) e,mA,⟨od,es,ep,k _ _ (.inr d) e2,c⟩,r⟩
 |own y=>obtain⟨ob,e⟩:=x;exact⟨ob,k _ _ (.inl rfl) e⟩
 |xd fs=>obtain⟨mA,⟨od,es,ep,e,c⟩,r⟩:=x;exact⟨mA,⟨od,es,ep,k _ _ (.inl rfl) e,c⟩,r⟩
 |rng lo hi=>obtain⟨t,u,v,e⟩:=x;exact⟨t,u,v,k _ _ (.inl rfl) e⟩
 |frz ob u ih=>obtain⟨e,q⟩:=x;exact⟨k _ _ (.inl rfl) e,ih q⟩
 |tbl ps=>
  have e:h.get? a=some {cls:=.none,data:=.fields ps}:=x;show h'.get? a=some {cls:=.none,data:=.fields ps};exact k a _ (.inl rfl) e
 |met f y=>
  have e:h.get? a=some (W.methodObj (.ref f) (.ref y)):=x;show h'.get? a=some (W.methodObj (.ref f) (.ref y));exact k a _ (.inl rfl) e
 |ext φ=>obtain⟨p,⟨o,e⟩,st⟩:=x;exact⟨st _ _ p fun o q=>k _ _ (.inl rfl) q,⟨o,k _ _ (.inl rfl) e⟩,st⟩
theorem mO.lt(x:mO P w H h)(e:H a=some o):a<h.objs.size:=(x a o e).lt
theorem mO.fresh(x:mO P w H h)(e:h.objs.size<=a):H a=none:=by
 cases q:H a with
 |none=>rfl
 |some u=>exact absurd (cH (x.lt q) e) (eE _)
theorem mO.kept(x:mO P w H h)(k:∀b u,h.get? b=some u->h'.get? b=some u):mO P w H h':=fun a o e=>
 (x a o e).stay (fun b u _ q=>k b u q) (fun _ q=>q) fun _ _ q=>q
theorem mO.laid(x:mO P w H h)(k:∀b u,h.get? b=some u->h'.get? b=some u)(hp:h.objs.size<=a)(new:fA P w (upd H a o) h' a o):mO P w (upd H a o) h':=fun b u e=>by
 have hn:=x.fresh hp;by_cases hb:b=a
 ·subst hb;rw[zB]at e;cases e;exact new
 ·rw[zJ hb]at e;exact(x b u e).stay (fun c v _ q=>k c v q) (fun c q=>by rw[zJ (xI q hn)];exact q) fun c xs q=>by rw[zJ (xI q hn)];exact q
end
def Rd(H:Hp)(a:Addr)(u:HO):Prop:=H a=some u\/∃o,H a=some (.frz o u)
theorem Rd.ok{u:HO}(r:Rd H a u)(x:mO P w H h):fA P w H h a u:=by
 rcases r with r |⟨o,r⟩
 ·exact x a u r
 ·obtain⟨_,q⟩:=x a _ r;exact q
def Mut:Option HO->Prop
 |some (.lst _)=>True
 |some (.dK _)=>True
 |some (.dT _)=>True
 |some (.set _ _)=>True
 |some (.ins _ _ _)=>True
 |some (.ext _)=>True
 |_=>False
section
variable {x e:Addr} {o':HO}
theorem mO.write(ok:mO P w H h)(mu:Mut (H x))(he:e=x\/H e=some (.own x))(k:∀b u,b≠e->h.get? b=some u->h'.get? b=some u)(heo:∃u,h'.get? e=some u)
 (new:fA P w (upd H x o') h' x o'):mO P w (upd H x o') h':=fun b u q=>by
 have nown:∀c y,H c=some (.own y)->c≠x:=fun c y r z=>by subst z;rw[r]at mu;exact mu
 have ntup:∀c xs,H c=some (.tup xs)->c≠x:=fun c xs r z=>by subst z;rw[r]at mu;exact mu
 by_cases hb:b=x
 ·subst hb;rw[zB]at q;cases q;exact new
 ·rw[zJ hb]at q;by_cases hbe:b=e
  ·have q':H b=some (.own x):=by
    rcases he with z |z
    ·exact absurd (hbe.trans z) hb
    ·rw[hbe];exact z
   rw[q]at q';cases q';obtain⟨v,hv⟩:=heo;exact⟨v,by rw[hbe];exact hv⟩
  ·refine(ok b u q).stay (fun c v hc r=>k c v ?_ r) (fun c r=>by rw[zJ (nown c b r)];exact r) fun c xs r=>by rw[zJ (ntup c xs r)];exact r
   rcases hc with rfl |hc
   ·exact hbe
   ·rintro rfl;rcases he with z |z
    ·exact nown c b hc z
    ·rw[hc]at z;cases z;exact hb rfl
end
structure Un(fs ex:List Addr)(H H':Hp)(h h':Heap):Prop where
 keep:∀b o,h.get? b=some o->H b=none->b∉fs->b∉ex->h'.get? b=some o
 slot:∀b o,h.get? b=some o->H b=none->b∈fs->b∉ex->∃sl,h'.get? b=some {o with slots:=sl}
 free:∀b o,h.get? b=some o->H b=none->b∉ex->H' b=none
 there:∀b o,h.get? b=some o->b∉ex->∃o',h'.get? b=some o'
 tups:∀b xs,H b=some (.tup xs)->H' b=some (.tup xs)
 frzs:∀b o u,H b=some (.frz o u)->H' b=some (.frz o u)
 tbls:∀b ps,H b=some (.tbl ps)->∃more,H' b=some (.tbl (ps++more))
section
variable {fs fs' ex ex':List Addr} {H1 H2:Hp} {h1 h2:Heap} {x e:Addr} {o:HO}
theorem Un.any(u:Un fs ex H H1 h h1){ob:Obj}(q:h.get? b=some ob)(n:H b=none)(hx:b∉ex):∃sl,h1.get? b=some {ob with slots:=sl}:=by
 by_cases hb:b∈fs
 ·exact u.slot b ob q n hb hx
 ·exact⟨ob.slots,u.keep b ob q n hb hx⟩
theorem Un.trans(a:Un fs ex H H1 h h1)(b:Un fs ex H1 H2 h1 h2):Un fs ex H H2 h h2 where
 keep:=fun c ob q n hc hx=>b.keep c ob (a.keep c ob q n hc hx) (a.free c ob q n hx) hc hx
 slot:=fun c ob q n hc hx=>by
  obtain⟨sl,e1⟩:=a.slot c ob q n hc hx;obtain⟨sl',e2⟩:=b.slot c _ e1 (a.free c ob q n hx) hc hx;exact⟨sl',e2⟩
 free:=fun c ob q n hx=>by
  obtain⟨o',e1⟩:=a.there c ob q hx;exact b.free c o' e1 (a.free c ob q n hx) hx
 there:=fun c ob q hx=>by
  obtain⟨o',e1⟩:=a.there c ob q hx;exact b.there c o' e1 hx
 tups:=fun c xs q=>b.tups c xs (a.tups c xs q)
 frzs:=fun c ob xs q=>b.frzs c ob xs (a.frzs c ob xs q)
 tbls:=fun c ps q=>by
  obtain⟨m1,e1⟩:=a.tbls c ps q;obtain⟨m2,e2⟩:=b.tbls c _ e1;exact⟨m1++m2,by rw[e2,Array.append_assoc]⟩
theorem Un.kept(k:∀b u,h.get? b=some u->h'.get? b=some u):Un fs ex H H h h':=
 ⟨fun b ob q _ _ _=>k b ob q,fun b ob q _ _ _=>⟨ob.slots,k b ob q⟩,fun _ _ _ n _=>n,fun b ob q _=>⟨ob,k b ob q⟩,fun _ _ q=>q,fun _ _ _ q=>q,fun _ ps q=>⟨#[],by rw[q];simp⟩⟩
theorem Un.refl:Un fs ex H H h h:=Un.kept fun _ _ q=>q
theorem Un.laid(k:∀b u,h.get? b=some u->h'.get? b=some u)(hp:h.objs.size<=a)(hn:H a=none):Un fs ex H (upd H a o) h h' where
 keep:=fun b u q _ _ _=>k b u q
 slot:=fun b u q _ _ _=>⟨u.slots,k b u q⟩
 free:=fun b u q n _=>by rw[zJ (bS (cH (bA q) hp))];exact n
 there:=fun b u q _=>⟨u,k b u q⟩
 tups:=fun b xs q=>by rw[zJ (xI q hn)];exact q
 frzs:=fun b u xs q=>by rw[zJ (xI q hn)];exact q
 tbls:=fun b ps q=>⟨#[],by rw[zJ (xI q hn),q];simp⟩
theorem Un.write(mu:Mut (H x))(he:e=x\/H e=some (.own x))(k:∀b u,b≠e->h.get? b=some u->h'.get? b=some u)(heo:∃u,h'.get? e=some u):Un fs ex H (upd H x o) h h':=by
 have hx:∀b,H b=none->b≠x:=fun b n z=>by subst z;rw[n]at mu;exact mu
 have hb:∀b,H b=none->b≠e:=fun b n z=>by
  subst z;rcases he with r |r
  ·exact hx b n r
  ·rw[n]at r;cases r
 have hm:∀b u,H b=some u->¬Mut (some u)->b≠x:=fun b u q nm z=>by subst z;rw[q]at mu;exact nm mu
 refine⟨fun b u q n _ _=>k b u (hb b n) q,fun b u q n _ _=>⟨u.slots,k b u (hb b n) q⟩,fun b u q n _=>by rw[zJ (hx b n)];exact n,fun b u q _=>?_,
  fun b xs q=>by rw[zJ (hm b _ q fun z=>z)];exact q,fun b u xs q=>by rw[zJ (hm b _ q fun z=>z)];exact q,fun b ps q=>⟨#[],by rw[zJ (hm b _ q fun z=>z),q];simp⟩⟩
 by_cases hbe:b=e
 ·subst hbe;exact heo
 ·exact⟨u,k b u hbe q⟩
end
def trk(h:Heap)(H:Hp):List Addr:=(List.range h.objs.size).filter fun a=>(H a).isSome
def UX(h:Heap)(H:Hp):Heap:=W.hideAll h (trk h H)
theorem MW(h:Heap)(H:Hp):(UX h H).objs.size=h.objs.size:=W.hideAll_size _ _
theorem TR{o:Obj}(e:h.get? b=some o)(n:H b=none):(UX h H).get? b=some o:=
 W.hideAll_get _ e fun hm=>by
  have q:(H b).isSome=true:=(cX.mp hm).2;rw[n]at q;simp at q
theorem d9{o:Obj}(e:(UX h H).get? b=some o):h.get? b=some o/\H b=none:=by
 have e':h.get? b=some o:=W.of_hideAll (trk h H) e;refine⟨e',?_⟩;cases q:H b with
 |none=>rfl
 |some x=>
  have hm:b∈trk h H:=cX.mpr ⟨bP.mpr (bA e'),by simp[q]⟩;have z:(UX h H).get? b=none:=W.hideAll_none (trk h H) hm;rw[z]at e;cases e
def gx(g h:Heap)(L:Addr):List (Addr×Obj):=(List.range h.objs.size).filterMap fun a=>if a=L\/(g.get? a).isSome=true then none else(h.get? a).map fun o=>(a,o)
def rest(g h:Heap)(L d:Addr):List (Addr×Obj):=(gx g h L).filter fun p=>decide (p.1≠d)
structure Mod(K:W.Frag)(mg:Str->Option Value)(base:Heap):Prop where
 kin:K.In base
 glob:base.Ns mainGlobals mg
 blt:∃mb,base.Ns builtinsNs mb/\∀x:Str,x≠"__name__"->mb x=bootBuiltins x
 nolimit:base.NoLimit
structure Cx where
 prog:Program
 w:World
 K:W.Frag
 mg:Str->Option Value
 base:Heap
 A:Around
 N:List Str
 s₀:Shared
 H₀:Hp
 env:Env
 outer:List Env
 stack:List Env
 ex:List Addr
 fn:Str->Bool
 calm:Bool
 pn:List (Addr×Obj)
 xe:Value->Shared->Prop
def FW(l:List Env):List Addr:=l.filterMap (·.frame)
abbrev Cx.fs(X:Cx):List Addr:=FW X.outer
def Vis(sc:Scope)(x:Str):Prop:=sc.names.lookup x=some .local\/sc.names.lookup x=some .cell\/sc.names.lookup x=some .free
def Loc(sc:Scope)(x:Str):Prop:=sc.names.lookup x=some .local\/sc.names.lookup x=some .cell
def Look(env:Env)(h:Heap)(m:Str->Option Value)(x:Str)(u:Value):Prop:=
 (env.kindOf x=some .local/\m x=some u)\/((env.kindOf x=some .cell\/env.kindOf x=some .free)/\∃c,env.cells.lookup x=some c/\h.IsCell c (some u))
structure Cx.Ok(X:Cx):Prop where
 mod:Mod X.K X.mg X.base
 kind:X.env.scope.kind=.function
 glob:X.env.globals=mainGlobals
 blt:X.env.builtins=builtinsNs
 above:X.s₀.heap.objs.size<=X.env.locals
 inj:∀x y c,X.env.cells.lookup x=some c->X.env.cells.lookup y=some c->x=y
 has:∀x,(X.env.kindOf x=some .cell\/X.env.kindOf x=some .free)->∃c,X.env.cells.lookup x=some c
 cab:∀x c,X.fn x=true->X.env.cells.lookup x=some c->X.s₀.heap.objs.size<=c
 hd:X.calm=true->X.A.handled=none
 frames:X.A.frames=some X.stack
 stk:X.stack=X.outer\/(X.stack=X.env::X.outer/\X.env.frame=some X.env.locals)
 exf:∀b∈X.ex,b≠X.env.locals/\∀x c,X.env.cells.lookup x=some c->c≠b
 bs:∀b o,X.base.get? b=some o->X.s₀.heap.get? b=some o/\X.H₀ b=none
 bsz:X.base.objs.size<=X.s₀.heap.objs.size
 noex:∀b o,X.base.get? b=some o->b∉X.ex
 exfs:∀b∈X.ex,b∉X.fs
 funs:X.s₀.heap.FunFrames X.base X.outer
 frf:∀b∈X.fs,X.H₀ b=none
structure Inv(X:Cx)(aJ:List (Addr×Obj))(σ:List (Option V))(H:Hp)(s:Shared):Prop where
 ok:X.Ok
 os:s.os=X.s₀.os
 bare:AllBare s.gens
 base:Un X.fs X.ex X.H₀ H X.s₀.heap s.heap
 loc:∃m,s.heap.Ns X.env.locals m/\∀(i:Nat)(x:Str)(v:V),X.N[i]?=some x->σ[i]?=some (some v)->Vis X.env.scope x->∃u,RelV v u/\Look X.env s.heap m x u
 cell:∀x c,X.env.cells.lookup x=some c->∃v,s.heap.IsCell c v
 free:H X.env.locals=none
 freeC:∀x c,X.env.cells.lookup x=some c->H c=none
 pin:∀p∈X.pn++aJ,s.heap.get? p.1=some p.2/\H p.1=none/\p.1≠X.env.locals/\p.1∉X.fs/\∀v,p.2.data≠.cell v
 hok:mO X.prog X.w H s.heap
 len:σ.length=X.N.length
section
variable {σ:List (Option V)}
theorem Cx.Ok.nofr(ok:X.Ok){o:Obj}(e:X.base.get? b=some o):b∉X.fs:=fun hb=>by
 have :=(ok.funs.mem hb).1;rw[e]at this;cases this
theorem Inv.bs(I:Inv X aJ σ H s):∀b o,X.base.get? b=some o->s.heap.get? b=some o/\H b=none:=fun b o e=>
 ⟨I.base.keep b o (I.ok.bs b o e).1 (I.ok.bs b o e).2 (I.ok.nofr e) (I.ok.noex b o e),I.base.free b o (I.ok.bs b o e).1 (I.ok.bs b o e).2 (I.ok.noex b o e)⟩
theorem Inv.bk(I:Inv X aJ σ H s):∀b o,X.base.get? b=some o->s.heap.get? b=some o:=fun b o e=>(I.bs b o e).1
theorem Inv.mod(I:Inv X aJ σ H s):Mod X.K X.mg X.base:=I.ok.mod
theorem Inv.kIn(I:Inv X aJ σ H s):X.K.In s.heap:=I.ok.mod.kin.keeps I.bk
theorem Inv.lt(I:Inv X aJ σ H s):X.env.locals<s.heap.objs.size:=let ⟨_,hn,_⟩:=I.loc;hn.lt
theorem Inv.sz(I:Inv X aJ σ H s):X.s₀.heap.objs.size<=s.heap.objs.size:=cP I.ok.above (pS I.lt)
theorem Inv.nofs(I:Inv X aJ σ H s)(h:s.heap.objs.size<=a):a∉X.fs:=fun hb=>by
 obtain⟨_,o,ho,_⟩:=I.ok.funs.mem hb;exact absurd (cH (bA ho) (cP I.sz h)) (eE _)
theorem Inv.cne(I:Inv X aJ σ H s):∀x c,X.env.cells.lookup x=some c->c≠X.env.locals:=fun x c e z=>by
 obtain⟨v,o,ho,hd⟩:=I.cell x c e;obtain⟨m,⟨o',es,ep,ho',hd',_⟩,_⟩:=I.loc;rw[z,ho']at ho;cases ho;rw[hd']at hd;cases hd
theorem Inv.funs(I:Inv X aJ σ H s):s.heap.FunFrames X.base X.outer:=by
 have all:∀(l:List Env),(∀b∈FW l,b∈X.fs)->X.s₀.heap.FunFrames X.base l->s.heap.FunFrames X.base l:=by
  intro l
  induction l with
  |nil=>intro _ _;trivial
  |cons env r ih=>
   intro hs hl;obtain⟨hk,⟨L,o,hf,hn,ho,hd⟩,hr⟩:=hl;have hL:L∈X.fs:=hs L (by unfold FW;rw[sW,hf];exact bF);obtain⟨sl,e⟩:=I.base.slot L o ho (I.ok.frf L hL) hL fun z=>I.ok.exfs L z hL
   exact⟨hk,⟨L,_,hf,hn,e,hd⟩,ih (fun b hb=>hs b (by unfold FW;rw[sW,hf];exact bE _ hb)) hr⟩
 exact all X.outer (fun _ hb=>hb) I.ok.funs
theorem Inv.stack(I:Inv X aJ σ H s):s.heap.FunFrames X.base X.stack:=by
 rcases I.ok.stk with e |⟨e,hf⟩
 ·rw[e];exact I.funs
 ·rw[e];obtain⟨m,hn,_⟩:=I.loc;refine .cons (by rw[I.ok.kind];decide) hf hn ?_ I.funs;exact Heap.get?_none_of_le (cP I.ok.bsz I.ok.above)
theorem Inv.stkSub(I:Inv X aJ σ H s):∀b∈FW X.stack,b∈X.env.locals::X.fs:=fun b hb=>by
 rcases I.ok.stk with e |⟨e,hf⟩
 ·rw[e]at hb;exact bE _ hb
 ·rw[e]at hb;unfold FW at hb;rw[sW,hf]at hb;exact hb
theorem Inv.stkFree(I:Inv X aJ σ H s):∀b∈FW X.stack,H b=none:=fun b hb=>by
 rcases bJ.mp (I.stkSub b hb)with e |hb
 ·rw[e];exact I.free
 ·obtain⟨_,o,ho,_⟩:=I.ok.funs.mem hb;exact I.base.free b o ho (I.ok.frf b hb) fun z=>I.ok.exfs b z hb
theorem Inv.step{g':Array GenState}{d':Drawn}(I:Inv X aJ σ H s)
 (hch:∀b∈ch,(b∈X.ex\/X.s₀.heap.objs.size<=b)/\b≠X.env.locals/\(∀x c,X.env.cells.lookup x=some c->c≠b)/\∀p∈X.pn++aJ,p.1≠b)
 (keep:∀b o,b≠X.env.locals->b∉X.fs->b∉ch->s.heap.get? b=some o->H b=none->h'.get? b=some o)
 (slot:∀b o,b≠X.env.locals->b∈X.fs->b∉ch->s.heap.get? b=some o->H b=none->∃sl,h'.get? b=some {o with slots:=sl}) (free:∀b o,b∉ch->s.heap.get? b=some o->H b=none->H' b=none)
 (there:∀b o,b∉ch->s.heap.get? b=some o->∃o',h'.get? b=some o')
 (tups:∀b xs,H b=some (.tup xs)->H' b=some (.tup xs)) (frzs:∀b o u,H b=some (.frz o u)->H' b=some (.frz o u)) (tbls:∀b ps,H b=some (.tbl ps)->∃more,H' b=some (.tbl (ps++more)))
 (ns:∀m,s.heap.Ns X.env.locals m->h'.Ns X.env.locals m) (hok:mO X.prog X.w H' h') (hg:AllBare g'):
 Inv X aJ σ H' {s with heap:=h',gens:=g',drawn:=d',toks:=t'}:=by
 have neL:∀b o,X.s₀.heap.get? b=some o->b≠X.env.locals:=fun b o e=>bS (cH (bA e) I.ok.above)
 have neC:∀b o,X.s₀.heap.get? b=some o->b∉X.ex->b∉ch:=fun b o e hx hb=>by
  rcases(hch b hb).1 with z |z
  ·exact hx z
  ·exact absurd (cH (bA e) z) (eE _)
 have cellK:∀x c,X.env.cells.lookup x=some c->∀v,s.heap.IsCell c v->h'.IsCell c v:=fun x c e v ⟨o,ho,hd⟩=>by
  have nch:c∉ch:=fun z=>(hch c z).2.2.1 x c e rfl
  by_cases hc:c∈X.fs
  ·obtain⟨sl,q⟩:=slot c o (I.cne x c e) hc nch ho (I.freeC x c e);exact⟨_,q,hd⟩
  ·exact⟨o,keep c o (I.cne x c e) hc nch ho (I.freeC x c e),hd⟩
 refine⟨I.ok,I.os,hg,⟨fun b o e n hb hx=>?_,fun b o e n hb hx=>?_,fun b o e n hx=>?_,fun b o e hx=>?_,fun b xs e=>tups b xs (I.base.tups b xs e),fun b o xs e=>frzs b o xs (I.base.frzs b o xs e),fun b ps e=>?_⟩,?_,fun x c e=>?_,?_,fun x c e=>?_,fun p hp=>?_,hok,I.len⟩
 ·exact keep b o (neL b o e) hb (neC b o e hx) (I.base.keep b o e n hb hx) (I.base.free b o e n hx)
 ·obtain⟨sl,e1⟩:=I.base.slot b o e n hb hx;obtain⟨sl',e2⟩:=slot b _ (neL b o e) hb (neC b o e hx) e1 (I.base.free b o e n hx);exact⟨sl',e2⟩
 ·obtain⟨o',e1⟩:=I.base.there b o e hx;exact free b o' (neC b o e hx) e1 (I.base.free b o e n hx)
 ·obtain⟨o',e1⟩:=I.base.there b o e hx;exact there b o' (neC b o e hx) e1
 ·obtain⟨m1,e1⟩:=I.base.tbls b ps e;obtain⟨m2,e2⟩:=tbls b _ e1;exact⟨m1++m2,by rw[e2,Array.append_assoc]⟩
 ·obtain⟨m,hn,hl⟩:=I.loc;refine⟨m,ns m hn,fun i x v e1 e2 e3=>?_⟩;obtain⟨u,r,l⟩:=hl i x v e1 e2 e3;refine⟨u,r,?_⟩;rcases l with l |⟨k,c,e,z⟩
  ·exact .inl l
  ·exact .inr ⟨k,c,e,cellK x c e _ z⟩
 ·obtain⟨v,z⟩:=I.cell x c e;exact⟨v,cellK x c e v z⟩
 ·obtain⟨m,⟨o,_,_,ho,_⟩,_⟩:=I.loc;exact free _ o (fun z=>(hch _ z).2.1 rfl) ho I.free
 ·obtain⟨v,o,ho,hd⟩:=I.cell x c e;exact free c o (fun z=>(hch c z).2.2.1 x c e rfl) ho (I.freeC x c e)
 ·obtain⟨e,n,ne,nf,d⟩:=I.pin p hp;have nch:p.1∉ch:=fun z=>(hch p.1 z).2.2.2 p hp rfl
  exact⟨keep p.1 p.2 ne nf nch e n,free p.1 p.2 nch e n,ne,nf,d⟩
theorem Inv.un(I:Inv X aJ σ H s)(u:Un X.fs [] H H' s.heap h')(hok:mO X.prog X.w H' h'):Inv X aJ σ H' {s with heap:=h',toks:=t'}:=by
 obtain⟨m,⟨o,es,ep,ho,r⟩,_⟩:=id I.loc;obtain⟨sl,hL⟩:=u.any ho I.free (by simp);exact I.step (g':=s.gens) (d':=s.drawn) (ch:=[]) (fun _ z=>nomatch z) (fun b o _ hb _ e n=>u.keep b o e n hb (by simp)) (fun b o _ hb _ e n=>u.slot b o e n hb (by simp)) (fun b o _ e n=>u.free b o e n (by simp)) (fun b o _ e=>u.there b o e (by simp)) u.tups u.frzs u.tbls (fun m' hm=>by
  obtain⟨o',es',ep',ho',r'⟩:=hm;rw[ho]at ho';cases ho';exact⟨_,es',ep',hL,r'⟩) hok I.bare
theorem Inv.call{g':Array GenState}{d':Drawn}(I:Inv X aJ σ H s)(u:Un (FW X.stack) ch H H' s.heap h')(hok:mO X.prog X.w H' h')(hg:AllBare g')
 (hch:∀b∈ch,(b∈X.ex\/X.s₀.heap.objs.size<=b)/\b≠X.env.locals/\(∀x c,X.env.cells.lookup x=some c->c≠b)/\∀p∈X.pn++aJ,p.1≠b):
 Inv X aJ σ H' {s with heap:=h',gens:=g',drawn:=d',toks:=t'}:=by
 obtain⟨m,⟨o,es,ep,ho,r⟩,_⟩:=id I.loc;obtain⟨sl,hL⟩:=u.any ho I.free fun z=>(hch _ z).2.1 rfl
 exact I.step (ch:=ch) hch (fun b o hL hb hc e n=>u.keep b o e n (fun z=>(bJ.mp (I.stkSub b z)).elim hL hb) hc) (fun b o _ _ hc e n=>u.any e n hc) (fun b o hc e n=>u.free b o e n hc) (fun b o hc e=>u.there b o e hc) u.tups u.frzs u.tbls (fun m' hm=>by
  obtain⟨o',es',ep',ho',r'⟩:=hm;rw[ho]at ho';cases ho';exact⟨_,es',ep',hL,r'⟩) hok hg
theorem Inv.turned(I:Inv X aJ σ H s)(k:∀b o,b≠it->s.heap.get? b=some o->h'.get? b=some o)(hn:H it=none)(hL:it≠X.env.locals)
 (h1:it∈X.ex\/X.s₀.heap.objs.size<=it) (h2:∀x c,X.env.cells.lookup x=some c->c≠it) (h3:∀p∈X.pn++aJ,p.1≠it):Inv X aJ σ H {s with heap:=h',toks:=t'}:=by
 have nit:∀b u,H b=some u->b≠it:=fun b u e z=>by rw[z,hn]at e;cases e
 refine I.step (g':=s.gens) (d':=s.drawn) (ch:=[it]) (fun b hb=>?_) (fun b o _ _ hc e _=>k b o (fun z=>hc (by simp[z])) e) (fun b o _ _ hc e _=>⟨o.slots,k b o (fun z=>hc (by simp[z])) e⟩) (fun _ _ _ _ n=>n)
  (fun b o hc e=>⟨o,k b o (fun z=>hc (by simp[z])) e⟩) (fun _ _ e=>e) (fun _ _ _ e=>e) (fun b ps e=>⟨#[],by rw[e];simp⟩) (fun m hm=>?_) (fun b u e=>?_) I.bare
 ·have e:b=it:=by simpa using hb
  subst e;exact⟨h1,hL,h2,h3⟩
 ·obtain⟨o,es,ep,ho,r⟩:=hm;exact⟨o,es,ep,k _ o (cJ hL) ho,r⟩
 ·refine(I.hok b u e).stay (fun c v hc q=>k c v ?_ q) (fun _ q=>q) fun _ _ q=>q
  rcases hc with z |z
  ·rw[z];exact nit b u e
  ·exact nit c _ z
theorem Inv.tok(I:Inv X aJ σ H s)(t:Nat):Inv X aJ σ H {s with toks:=t}:=I.un (h':=s.heap) (t':=t) Un.refl I.hok
theorem Inv.kept(I:Inv X aJ σ H s)(k:∀b u,s.heap.get? b=some u->h'.get? b=some u):Inv X aJ σ H {s with heap:=h',toks:=t'}:=I.un (Un.kept k) (I.hok.kept k)
theorem Inv.laid{o:HO}(I:Inv X aJ σ H s)(k:∀b u,s.heap.get? b=some u->h'.get? b=some u)(hp:s.heap.objs.size<=a)(new:fA X.prog X.w (upd H a o) h' a o):
 Inv X aJ σ (upd H a o) {s with heap:=h',toks:=t'}:=I.un (Un.laid k hp (I.hok.fresh hp)) (I.hok.laid k hp new)
theorem Inv.write{x e:Addr}{o:HO}(I:Inv X aJ σ H s)(mu:Mut (H x))(he:e=x\/H e=some (.own x))(k:∀b u,b≠e->s.heap.get? b=some u->h'.get? b=some u)(heo:∃u,h'.get? e=some u)
 (new:fA X.prog X.w (upd H x o) h' x o):Inv X aJ σ (upd H x o) {s with heap:=h',toks:=t'}:=I.un (Un.write mu he k heo) (I.hok.write mu he k heo new)
theorem Inv.pins_of{pins':List (Addr×Obj)}(I:Inv X aJ σ H s)(h:∀p∈pins',s.heap.get? p.1=some p.2/\H p.1=none/\p.1≠X.env.locals/\p.1∉X.fs/\∀v,p.2.data≠.cell v):Inv X pins' σ H s:=
 ⟨I.ok,I.os,I.bare,I.base,I.loc,I.cell,I.free,I.freeC,fun p hp=>(bO.mp hp).elim (fun z=>I.pin p (cK _ z)) (h p),I.hok,I.len⟩
theorem BN(hN:N.Nodup){x:Str}(a:N[i]?=some x)(b:N[j]?=some x):i=j:=by
 obtain⟨h1,e1⟩:=aC.mp a;obtain⟨h2,e2⟩:=aC.mp b;exact(NQ hN).mp (e1.trans e2.symm)
theorem JS{x:Str}{Q:Unit->Shared->Prop}(I:Inv X aJ σ H s)(hN:X.N.Nodup)(hi:X.N[i]?=some x)(hx:Loc X.env.scope x)(r:RelV v u)
 (h:∀s',Inv X aJ (σ.set i (some v)) H s'->(∃a,Heap.SameBut a s.heap s'.heap/\(a=X.env.locals\/X.env.cells.lookup x=some a))->Q Unit.unit s') (hf:X.fn x=true\/X.env.scope.names.lookup x=some .local:=by first |exact .inl rfl |exact .inr rfl |assumption):wpAny M A (storeName X.env x u) Q E s:=by
 obtain⟨m,hn,hl⟩:=id I.loc;have hcls:(X.env.scope.kind==.class ||(X.env.scope.kind==.module&&X.env.locals !=X.env.globals))=false:=by rw[I.ok.kind];rfl
 have hiσ:i<σ.length:=by rw[I.len];exact(aC.mp hi).1
 have cne:=I.cne;have tracked:∀{a:Addr}{h':Heap},(∃o,s.heap.get? a=some o/\H a=none)->Heap.SameBut a s.heap h'->mO X.prog X.w H h':=fun{a h'} ha hs b ob e=>by
  obtain⟨_,_,hfree⟩:=ha;refine(I.hok b ob e).stay (fun c w' hc q=>(hs.2 c ?_).trans q) (fun _ q=>q) fun _ _ q=>q
  rintro rfl;rcases hc with rfl |hc
  ·rw[hfree]at e;cases e
  ·rw[hfree]at hc;cases hc
 rcases hx with hk |hk
 ·refine wpAny_storeName_local hk hn (fun h' hn' hs=>?_) hcls;obtain⟨oL,_,_,hoL,_⟩:=id hn;refine h _ ⟨I.ok,I.os,I.bare,⟨fun b o e n hb hx=>?_,fun b o e n hb hx=>?_,I.base.free,fun b o e hx=>?_,I.base.tups,I.base.frzs,I.base.tbls⟩,⟨_,hn',fun j y v' e1 e2 e3=>?_⟩,fun y c e=>?_,I.free,I.freeC,fun p hp=>?_,tracked ⟨oL,hoL,I.free⟩ hs,by simpa using I.len⟩ ⟨_,hs,.inl rfl⟩
  ·exact(hs.2 b (bS (cH (bA e) I.ok.above))).trans (I.base.keep b o e n hb hx)
  ·obtain⟨sl,e1⟩:=I.base.slot b o e n hb hx;exact⟨sl,(hs.2 b (bS (cH (bA e) I.ok.above))).trans e1⟩
  ·obtain⟨o',e1⟩:=I.base.there b o e hx;exact⟨o',(hs.2 b (bS (cH (bA e) I.ok.above))).trans e1⟩
  ·by_cases hj:j=i
   ·subst hj;rw[hi]at e1;cases e1;rw[iG hiσ]at e2;cases e2;exact⟨u,r,.inl ⟨hk,by simp⟩⟩
   ·rw[gO (cJ hj)]at e2;obtain⟨u',r',q⟩:=hl j y v' e1 e2 e3;refine⟨u',r',?_⟩;rcases q with⟨k,e⟩ |⟨k,c,e,z⟩
    ·refine .inl ⟨k,?_⟩;have :y≠x:=fun e=>hj (BN hN e1 (e▸hi))
     simp[this,e]
    ·exact .inr ⟨k,c,e,z.sameBut hs (cne y c e)⟩
  ·obtain⟨w',z⟩:=I.cell y c e;exact⟨w',z.sameBut hs (cne y c e)⟩
  ·obtain⟨e,n,ne,nf,d⟩:=I.pin p hp;exact⟨(hs.2 p.1 ne).trans e,n,ne,nf,d⟩
 ·have hfn:X.fn x=true:=by
   rcases hf with z |z
   ·exact z
   ·rw[z]at hk;cases hk
  obtain⟨c,hc⟩:=I.ok.has x (.inl hk);obtain⟨w',z⟩:=I.cell x c hc;refine wpAny_storeName_cell I.ok.kind hk hc z (fun h' hc' hs=>?_);obtain⟨oc,hoc,hocd⟩:=id z;refine h {s with heap:=h'} ⟨I.ok,I.os,I.bare,⟨fun b o e n hb hx=>?_,fun b o e n hb hx=>?_,I.base.free,fun b o e hx=>?_,I.base.tups,I.base.frzs,I.base.tbls⟩,⟨m,hn.sameBut hs (cJ (cne x c hc)),fun j y v' e1 e2 e3=>?_⟩,fun y c' e=>?_,I.free,I.freeC,fun p hp=>?_,tracked ⟨oc,hoc,I.freeC x c hc⟩ hs,by simpa using I.len⟩ ⟨c,hs,.inr hc⟩
  ·exact(hs.2 b (bS (cH (bA e) (I.ok.cab x c hfn hc)))).trans (I.base.keep b o e n hb hx)
  ·obtain⟨sl,e1⟩:=I.base.slot b o e n hb hx;exact⟨sl,(hs.2 b (bS (cH (bA e) (I.ok.cab x c hfn hc)))).trans e1⟩
  ·obtain⟨o',e1⟩:=I.base.there b o e hx;exact⟨o',(hs.2 b (bS (cH (bA e) (I.ok.cab x c hfn hc)))).trans e1⟩
  ·by_cases hj:j=i
   ·subst hj;rw[hi]at e1;cases e1;rw[iG hiσ]at e2;cases e2;exact⟨u,r,.inr ⟨.inl hk,c,hc,hc'⟩⟩
   ·rw[gO (cJ hj)]at e2;obtain⟨u',r',q⟩:=hl j y v' e1 e2 e3;refine⟨u',r',?_⟩;rcases q with q |⟨k,c',e,z'⟩
    ·exact .inl q
    ·refine .inr ⟨k,c',e,z'.sameBut hs ?_⟩;rintro rfl;exact hj (BN hN e1 (I.ok.inj _ _ _ e hc▸hi))
  ·by_cases hcc:c'=c
   ·subst hcc;exact⟨_,hc'⟩
   ·obtain⟨w2,z2⟩:=I.cell y c' e;exact⟨w2,z2.sameBut hs hcc⟩
  ·obtain⟨e,n,ne,nf,d⟩:=I.pin p hp;refine⟨(hs.2 p.1 ?_).trans e,n,ne,nf,d⟩;intro q;rw[q,hoc]at e;have q':oc=p.2:=dC e;exact d w' (by rw[←q'];exact hocd)
theorem YY{x:Str}{Q:Unit->Shared->Prop}(I:Inv X aJ σ H s)(hN:X.N.Nodup)(hi:X.N[i]?=some x)(hx:Loc X.env.scope x)(r:RelV v u)
 (h:∀s',Inv X aJ (σ.set i (some v)) H s'->Q Unit.unit s') (hf:X.fn x=true\/X.env.scope.names.lookup x=some .local:=by first |exact .inl rfl |exact .inr rfl |assumption):wpAny M A (storeName X.env x u) Q E s:=
 JS I hN hi hx r (fun s' I' _=>h s' I') hf
theorem Inv.call'{s':Shared}(I:Inv X aJ σ H s)(ho:s'.os=s.os)(u:Un (FW X.stack) ch H H' s.heap s'.heap)(hok:mO X.prog X.w H' s'.heap)(hg:AllBare s'.gens)
 (hch:∀b∈ch,(b∈X.ex\/X.s₀.heap.objs.size<=b)/\b≠X.env.locals/\(∀x c,X.env.cells.lookup x=some c->c≠b)/\∀p∈X.pn++aJ,p.1≠b):Inv X aJ σ H' s':=by
 obtain⟨h',g',d',t',o'⟩:=s';have e:o'=s.os:=ho;subst e;exact I.call (g':=g') (t':=t') (d':=d') u hok hg hch
end
abbrev XK:=Value->Option Addr->Hp->Prop
abbrev St:=List (Option V)
abbrev VK:=V->Hp->Prop
abbrev TE:=St->Hp->VK->Prop
abbrev TT:=St->Hp->(Bool->Hp->Prop)->Prop
abbrev TA:=St->Hp->(List V->Hp->Prop)->Prop
structure sO where
 nx:St->Hp->Prop
 rt:VK
 bk:St->Hp->Prop:=fun _ _=>False
 ct:St->Hp->Prop:=fun _ _=>False
abbrev TS:=sO->St->Hp->Prop
def EP(X:Cx)(aJ:List (Addr×Obj))(σ:St)(Q:VK)(u:Value)(s':Shared):Prop:=∃v H',Inv X aJ σ H' s'/\RelV v u/\Q v H'
def TP(X:Cx)(aJ:List (Addr×Obj))(σ:St)(Q:Bool->Hp->Prop)(b:Bool)(s':Shared):Prop:=∃H',Inv X aJ σ H' s'/\Q b H'
def AP(X:Cx)(aJ:List (Addr×Obj))(σ:St)(Q:List V->Hp->Prop)(us:List Value)(s':Shared):Prop:=∃vs H',Inv X aJ σ H' s'/\dD vs us/\Q vs H'
def SP(X:Cx)(aJ:List (Addr×Obj))(D:sO)(f:Flow)(s':Shared):Prop:=
 match f with
 | .next=>∃σ' H',Inv X aJ σ' H' s'/\D.nx σ' H'
 | .brk=>∃σ' H',Inv X aJ σ' H' s'/\D.bk σ' H'
 | .cont=>∃σ' H',Inv X aJ σ' H' s'/\D.ct σ' H'
 | .ret u=>∃v σ' H',Inv X aJ σ' H' s'/\RelV v u/\D.rt v H'
def PE(X:Cx)(e:Expr)(t:TE):Prop:=
 ∀(aJ:List (Addr×Obj))(s:Shared)(σ:St)(H:Hp)(Q:VK),Inv X aJ σ H s->t σ H Q->wpAny (model X.prog X.w) X.A (eval e X.env) (EP X aJ σ Q) X.xe s
def PT(X:Cx)(e:Expr)(t:TT):Prop:=
 ∀(aJ:List (Addr×Obj))(s:Shared)(σ:St)(H:Hp)(Q:Bool->Hp->Prop),Inv X aJ σ H s->t σ H Q->wpAny (model X.prog X.w) X.A (isTrue e X.env (eval e X.env)) (TP X aJ σ Q) X.xe s
def PW(X:Cx)(e:Expr)(t:TT):Prop:=
 ∀(whole:Sem Value)(aJ:List (Addr×Obj))(s:Shared)(σ:St)(H:Hp)(Q:Bool->Hp->Prop),Inv X aJ σ H s->t σ H Q->wpAny (model X.prog X.w) X.A (isTrue e X.env whole) (TP X aJ σ Q) X.xe s
theorem PW.pt{t:TT}(h:PW X e t):PT X e t:=h _
def PA(X:Cx)(es:List Expr)(t:TA):Prop:=
 ∀(pos:Pos)(aJ:List (Addr×Obj))(s:Shared)(σ:St)(H:Hp)(Q:List V->Hp->Prop),Inv X aJ σ H s->t σ H Q->wpAny (model X.prog X.w) X.A (spliced (backTo pos (starEach es X.env))) (AP X aJ σ Q) X.xe s
def PS(X:Cx)(st:Stmt)(t:TS):Prop:=
 ∀(aJ:List (Addr×Obj))(s:Shared)(σ:St)(H:Hp)(D:sO),Inv X aJ σ H s->t D σ H->wpAny (model X.prog X.w) X.A (exec st X.env) (SP X aJ D) X.xe s
def GN(X:Cx)(st:List Stmt)(t:TS):Prop:=
 ∀(aJ:List (Addr×Obj))(s:Shared)(σ:St)(H:Hp)(D:sO),Inv X aJ σ H s->t D σ H->wpAny (model X.prog X.w) X.A (execs st X.env) (SP X aJ D) X.xe s
theorem eN{t:Sem α}{Q Q':α->Shared->Prop}(h:wpAny M A t Q E s)(hQ:∀a s,Q a s->Q' a s):wpAny M A t Q' E s:=lH h hQ fun _ _ x=>x
def sG(x:V)(k:Int->Prop):Prop:=match x with | .int i=>k i |_=>False
def mL(x:V)(k:Addr->Prop):Prop:=match x with | .ref i=>k i |_=>False
def gw(x:V)(k:Bool->Prop):Prop:=match x with | .bl i=>k i |_=>False
def asS(x:V)(k:Str->Prop):Prop:=match x with | .str i=>k i |_=>False
def asV(x:Option (Option V))(k:V->Prop):Prop:=match x with |some (some i)=>k i |_=>False
def asC(x:List V)(k:V->List V->Prop):Prop:=match x with |v::r=>k v r |_=>False
def pF(x:List V)(k:V->Prop):Prop:=match x with |[v]=>k v |_=>False
def ah(x:List V)(k:V->V->Prop):Prop:=match x with |[v,u]=>k v u |_=>False
def as0(x:List V)(k:Prop):Prop:=match x with |[]=>k |_=>False
def ag(x:Bool)(k:Prop):Prop:=match x with |true=>k |false=>False
theorem jY{x:V}{k:Int->Prop}(h:sG x k):∃i,x=.int i/\k i:=by cases x<;>first |exact⟨_,rfl,h⟩ |exact h.elim
theorem xJ{x:V}{k:Addr->Prop}(h:mL x k):∃i,x=.ref i/\k i:=by cases x<;>first |exact⟨_,rfl,h⟩ |exact h.elim
theorem GH{x:V}{k:Bool->Prop}(h:gw x k):∃i,x=.bl i/\k i:=by cases x<;>first |exact⟨_,rfl,h⟩ |exact h.elim
theorem asS_{x:V}{k:Str->Prop}(h:asS x k):∃i,x=.str i/\k i:=by cases x<;>first |exact⟨_,rfl,h⟩ |exact h.elim
theorem qi{x:Option (Option V)}{k:V->Prop}(h:asV x k):∃i,x=some (some i)/\k i:=by
 rcases x with _ |_ |i
 ·exact h.elim
 ·exact h.elim
 ·exact⟨i,rfl,h⟩
theorem asC_{x:List V}{k:V->List V->Prop}(h:asC x k):∃v r,x=v::r/\k v r:=by
 cases x
 ·exact h.elim
 ·exact⟨_,_,rfl,h⟩
theorem wD{x:List V}{k:V->Prop}(h:pF x k):∃v,x=[v]/\k v:=by
 rcases x with _ |⟨v,_ |_⟩
 ·exact h.elim
 ·exact⟨_,rfl,h⟩
 ·exact h.elim
theorem as2_{x:List V}{k:V->V->Prop}(h:ah x k):∃v u,x=[v,u]/\k v u:=by
 rcases x with _ |⟨v,_ |⟨u,_ |_⟩⟩
 ·exact h.elim
 ·exact h.elim
 ·exact⟨_,_,rfl,h⟩
 ·exact h.elim
theorem as0_{x:List V}{k:Prop}(h:as0 x k):x=[]/\k:=by
 cases x
 ·exact⟨rfl,h⟩
 ·exact h.elim
theorem DB{x:Bool}{k:Prop}(h:ag x k):x=true/\k:=by
 cases x
 ·exact h.elim
 ·exact⟨rfl,h⟩
theorem asT_e{x:Bool}{k:Prop}:ag x k=(x=true/\k):=propext ⟨DB,by rintro⟨rfl,h⟩;exact h⟩
theorem asT_i{k:Prop}:ag true k=k:=rfl
theorem mapC{β:Type}{f:α->β}{a:α}{l:List α}:List.map f (a::l)=f a::List.map f l:=rfl
theorem mapN{β:Type}{f:α->β}:List.map f []=[]:=rfl
theorem asI_e{x:V}{k:Int->Prop}:sG x k=∃i,x=.int i/\k i:=propext ⟨jY,by rintro⟨i,rfl,h⟩;exact h⟩
theorem asR_e{x:V}{k:Addr->Prop}:mL x k=∃i,x=.ref i/\k i:=propext ⟨xJ,by rintro⟨i,rfl,h⟩;exact h⟩
theorem asB_e{x:V}{k:Bool->Prop}:gw x k=∃i,x=.bl i/\k i:=propext ⟨GH,by rintro⟨i,rfl,h⟩;exact h⟩
theorem asS_e{x:V}{k:Str->Prop}:asS x k=∃i,x=.str i/\k i:=propext ⟨asS_,by rintro⟨i,rfl,h⟩;exact h⟩
theorem asV_e{x:Option (Option V)}{k:V->Prop}:asV x k=∃i,x=some (some i)/\k i:=propext ⟨qi,by rintro⟨i,rfl,h⟩;exact h⟩
theorem asC_e{x:List V}{k:V->List V->Prop}:asC x k=∃v r,x=v::r/\k v r:=propext ⟨asC_,by rintro⟨v,r,rfl,h⟩;exact h⟩
theorem as1_e{x:List V}{k:V->Prop}:pF x k=∃v,x=[v]/\k v:=propext ⟨wD,by rintro⟨v,rfl,h⟩;exact h⟩
theorem as2_e{x:List V}{k:V->V->Prop}:ah x k=∃v u,x=[v,u]/\k v u:=propext ⟨as2_,by rintro⟨v,u,rfl,h⟩;exact h⟩
theorem as0_e{x:List V}{k:Prop}:as0 x k=(x=[]/\k):=propext ⟨as0_,by rintro⟨rfl,h⟩;exact h⟩
theorem asI_i{i:Int}{k:Int->Prop}:sG (.int i) k=k i:=rfl
theorem asR_i{i:Addr}{k:Addr->Prop}:mL (.ref i) k=k i:=rfl
theorem asB_i{i:Bool}{k:Bool->Prop}:gw (.bl i) k=k i:=rfl
theorem asS_i{i:Str}{k:Str->Prop}:asS (.str i) k=k i:=rfl
theorem asV_i{i:V}{k:V->Prop}:asV (some (some i)) k=k i:=rfl
theorem asC_i{r:List V}{k:V->List V->Prop}:asC (v::r) k=k v r:=rfl
theorem as1_i{k:V->Prop}:pF [v] k=k v:=rfl
theorem as2_i{u:V}{k:V->V->Prop}:ah [v,u] k=k v u:=rfl
theorem as0_i{k:Prop}:as0 [] k=k:=rfl
section
def tVar(i:Nat):TE:=fun σ H Q=>asV σ[i]? fun v=>Q v H
def tC(v:V):TE:=fun _ H Q=>Q v H
theorem RM{x:Str}{pos:Pos}(hN:X.N[i]?=some x)(hv:Vis X.env.scope x)(hd:(x==("__debug__":Str))=false:=by decide)(hcd:(x==("__classdict__":Str))=false:=by decide):PE X (.Name x pos) (tVar i):=by
 intro aJ s σ H Q I h;replace h:=qi h;obtain⟨v,e,h⟩:=h;obtain⟨m,hn,hl⟩:=I.loc;obtain⟨u,r,l⟩:=hl i x v hN e hv;have fin:EP X aJ σ Q u s:=⟨v,H,I,r,h⟩
 rcases l with⟨hk,hm⟩ |⟨hk,c,hc,hcell⟩
 ·exact wpAny_Name (wpAny_loadName_local I.ok.kind hk hn hm fin) hd
 ·rcases hk with hk |hk
  ·exact wpAny_Name (wpAny_loadName_cell I.ok.kind hk hc hcell fin) hd
  ·exact wpAny_Name (wpAny_loadName_free I.ok.kind hk hc hcell fin hcd) hd
theorem zE{i j pos}:PE X (.Constant (.int i) j pos) (tC (.int i)):=fun _ _ _ H _ I h=>wpAny_Constant_int ⟨.int i,H,I.tok _,⟨_,rfl⟩,h⟩
theorem IH{b j pos}:PE X (.Constant (.bool b) j pos) (tC (.bl b)):=fun _ _ _ H _ I h=>Constant_bool ⟨.bl b,H,I,rfl,h⟩
theorem uC{j pos}:PE X (.Constant .none j pos) (tC .non):=fun _ _ _ H _ I h=>Constant_none ⟨.non,H,I,rfl,h⟩
theorem zR{x j pos}:PE X (.Constant (.str x) j pos) (tC (.str x)):=fun _ _ _ H _ I h=>Calls.Constant_str ⟨.str x,H,I.tok _,⟨_,rfl⟩,h⟩
def Gl(X:Cx)(x:Str):Prop:=X.env.kindOf x=some .globalImplicit
theorem UR{x:Str}{pos:Pos}(I:Inv X aJ σ H s)(hg:Gl X x)(hm:X.mg x=some u)(h:Q u s)
 (hd:(x==("__debug__":Str))=false:=by decide):wpAny (model X.prog X.w) X.A (eval (.Name x pos) X.env) Q E s:=
 Calls.Name_function_global I.ok.kind hg (Calls.loadGlobal_global (by rw[I.ok.glob];exact I.mod.glob.keeps I.bk) hm h) hd
theorem wN{x:Str}{pos:Pos}(I:Inv X aJ σ H s)(hg:Gl X x)(hm:X.mg x=none)(hv:bootBuiltins x=some u)(h:Q u s)
 (hn:x≠"__name__":=by decide) (hd:(x==("__debug__":Str))=false:=by decide):wpAny (model X.prog X.w) X.A (eval (.Name x pos) X.env) Q E s:=by
 obtain⟨mb,h1,h2⟩:=I.mod.blt;exact Calls.Name_function_global I.ok.kind hg (Calls.loadGlobal_builtin (by rw[I.ok.glob];exact I.mod.glob.keeps I.bk) hm (by rw[I.ok.blt];exact h1.keeps I.bk) ((h2 x hn).trans hv) h) hd
theorem IE{x:Str}{pos:Pos}(hg:Gl X x)(hm:X.mg x=some u)(r:RelV v u)(hd:(x==("__debug__":Str))=false:=by decide):PE X (.Name x pos) (tC v):=
 fun _ _ _ H _ I h=>UR I hg hm ⟨v,H,I,r,h⟩ hd
theorem dh{x:Str}{pos:Pos}(hg:Gl X x)(hm:X.mg x=none)(hv:bootBuiltins x=some u)(r:RelV v u)(hn:x≠"__name__":=by decide)(hd:(x==("__debug__":Str))=false:=by decide):PE X (.Name x pos) (tC v):=
 fun _ _ _ H _ I h=>wN I hg hm hv ⟨v,H,I,r,h⟩ hn hd
variable {a b:Expr} {tb:TE} {pos:Pos}
def PC(X:Cx)(op:CmpOp)(a b:Expr)(t:TE):Prop:=
 ∀(aJ:List (Addr×Obj)) (s:Shared) (σ:St) (H:Hp) (Q:VK),Inv X aJ σ H s->t σ H Q->
  wpAny (model X.prog X.w) X.A (eval a X.env) (fun v s₁=>wpAny (model X.prog X.w) X.A (eval b X.env) (fun u s₂=>wpAny (model X.prog X.w) X.A (compareOp op v u) (EP X aJ σ Q) X.xe s₂) X.xe s₁) X.xe s
theorem BO(b:Expr)(h:op≠.In)(h2:op≠.NotIn):behindInMarks op b=false:=by
 have e1:(op==CmpOp.In)=false:=by cases op<;>first |rfl |exact absurd rfl h
 have e2:(op==CmpOp.NotIn)=false:=by cases op<;>first |rfl |exact absurd rfl h2
 cases b<;>simp[behindInMarks,e1,e2]
def tB(t:TE):TT:=fun σ H Q=>t σ H fun x H1=>gw x fun c=>Q c H1
theorem mv{t:TE}(h:PC X op a b t)(h1:behindInMarks op b=false:=by first |exact BO _ (by decide) (by decide) |rfl):PE X (.Compare a [op] [b] pos) t:=fun aJ s σ H Q I hw=>wpAny_Compare1 (h aJ s σ H Q I hw) h1
theorem kT{t:TE}(h:PC X op a b t)(h1:behindInMarks op b=false:=by first |exact BO _ (by decide) (by decide) |rfl):PT X (.Compare a [op] [b] pos) (tB t):=by
 intro aJ s σ H Q I hw;refine wpAny_isTrue_Compare1 (eN (h aJ s σ H _ I hw) fun v s1 h1=>eN h1 fun u s2 h2=>eN h2 fun c s3 ⟨x,H1,I1,r1,q1⟩=>?_) h1;replace q1:=GH q1;obtain⟨d,rfl,q⟩:=q1;cases r1;exact fT ⟨H1,I1,q⟩
theorem XF{t:TE}(h:PE X e t)(he:∀whole,isTrue e X.env whole=(do let v ←whole;standAt e.pos;holding [v] (truthy v)):=by intro _;rfl):PT X e (tB t):=by
 intro aJ s σ H Q I hw;refine isTrue_plain (eN (h aJ s σ H _ I hw) fun v s1 ⟨x,H1,I1,r1,q1⟩=>?_) (he _);replace q1:=GH q1;obtain⟨d,rfl,q⟩:=q1;cases r1;exact fT ⟨H1,I1,q⟩
variable {tA tB':TT} {rest:List Expr}
def tAnd(t u:TT):TT:=fun σ H Q=>t σ H fun c H1=>if c=true then u σ H1 Q else Q false H1
def tOr(t u:TT):TT:=fun σ H Q=>t σ H fun c H1=>if c=true then Q true H1 else u σ H1 Q
def tNot(t:TT):TT:=fun σ H Q=>t σ H fun c H1=>Q (!c) H1
theorem vS(ha:PT X a tA):PW X (.BoolOp .And [a] pos) tA:=by
 intro wh aJ s σ H Q I h;refine isTrue_and (eN (ha aJ s σ H Q I h) fun c s1 e=>?_);cases c with
 |true=>exact isTrue_and_nil e
 |false=>exact e
theorem mh(ha:PT X a tA):PW X (.BoolOp .Or [a] pos) tA:=by
 intro wh aJ s σ H Q I h;refine isTrue_or (eN (ha aJ s σ H Q I h) fun c s1 e=>?_);cases c with
 |false=>exact isTrue_or_nil e
 |true=>exact e
theorem uT(ha:PT X a tA)(hb:PW X (.BoolOp .And (b::rest) pos) tB'):PW X (.BoolOp .And (a::b::rest) pos) (tAnd tA tB'):=by
 intro wh aJ s σ H Q I h;refine isTrue_and (eN (ha aJ s σ H _ I h) fun c s1 ⟨H1,I1,q1⟩=>?_);cases c with
 |true=>exact hb wh aJ s1 σ H1 Q I1 q1
 |false=>exact⟨H1,I1,q1⟩
theorem pw_or(ha:PT X a tA)(hb:PW X (.BoolOp .Or (b::rest) pos) tB'):PW X (.BoolOp .Or (a::b::rest) pos) (tOr tA tB'):=by
 intro wh aJ s σ H Q I h;refine isTrue_or (eN (ha aJ s σ H _ I h) fun c s1 ⟨H1,I1,q1⟩=>?_);cases c with
 |true=>exact⟨H1,I1,q1⟩
 |false=>exact hb wh aJ s1 σ H1 Q I1 q1
theorem mj(ha:PT X a tA):PT X (.UnaryOp .Not a pos) (tNot tA):=by
 intro aJ s σ H Q I h;exact isTrue_not (ha aJ s σ H (fun c H1=>Q (!c) H1) I h)
def tAndV(ta tb:TE):TE:=fun σ H Q=>ta σ H fun x H1=>gw x fun c=>if c=true then tb σ H1 Q else Q (.bl false) H1
def tOrV(ta tb:TE):TE:=fun σ H Q=>ta σ H fun x H1=>gw x fun c=>if c=true then Q (.bl true) H1 else tb σ H1 Q
def tNotV(ta:TE):TE:=fun σ H Q=>ta σ H fun x H1=>gw x fun c=>Q (.bl (!c)) H1
theorem EJ{op}{t:TE}(h:PE X a t):PE X (.BoolOp op [a] pos) t:=fun aJ s σ H Q I hw=>BoolOp_one (h aJ s σ H Q I hw)
theorem EL(ha:PE X a ta)(hb:PE X (.BoolOp .And (b::rest) pos) tb):PE X (.BoolOp .And (a::b::rest) pos) (tAndV ta tb):=by
 intro aJ s σ H Q I h;refine BoolOp_and (eN (ha aJ s σ H _ I h) fun v s1 ⟨x,H1,I1,r1,q1⟩=>?_);replace q1:=GH q1;obtain⟨c,rfl,q1⟩:=q1;cases r1;refine fT ?_;cases c with
 |true=>exact hb aJ s1 σ H1 Q I1 q1
 |false=>exact⟨.bl false,H1,I1,rfl,q1⟩
theorem mq(ha:PE X a ta):PE X (.UnaryOp .Not a pos) (tNotV ta):=by
 intro aJ s σ H Q I h;refine UnaryOp_ (eN (ha aJ s σ H _ I h) fun v s1 ⟨x,H1,I1,r1,q1⟩=>?_);replace q1:=GH q1;obtain⟨c,rfl,q1⟩:=q1;cases r1;exact not_of (fT ⟨.bl (!c),H1,I1,rfl,q1⟩)
def tIf(t:TT)(ta tb:TE):TE:=fun σ H Q=>t σ H fun c H1=>if c=true then ta σ H1 Q else tb σ H1 Q
theorem uV(hc:PT X c tA)(ha:PE X a ta)(hb:PE X b tb):PE X (.IfExp c a b pos) (tIf tA ta tb):=by
 intro aJ s σ H Q I h;refine wpAny_IfExp (eN (hc aJ s σ H _ I h) fun d s1 ⟨H1,I1,q1⟩=>?_);cases d with
 |true=>exact ha aJ s1 σ H1 Q I1 q1
 |false=>exact hb aJ s1 σ H1 Q I1 q1
end
def dL(K:W.Frag)(H:Hp)(a:Addr)(xs:List V):Prop:=
 Rd H a (.lst xs)\/
  ∃(o:Obj)(its:Array Value)(n:Nat),K.lookup a=some o/\o.cls=.type "list"/\o.dict=none/\o.data=.seq its n/\its.size<=sizeLine/\dD xs its.toList
def dN(K:W.Frag)(H:Hp)(a:Addr)(xs:List V):Prop:=
 Rd H a (.tup xs)\/
  ∃(o:Obj)(its:Array Value)(n:Nat),K.lookup a=some o/\o.cls=.type "tuple"/\o.data=.seq its n/\its.size<=sizeLine/\dD xs its.toList
def absV:Value->Option V
 | .none=>some .non
 | .bool b=>some (.bl b)
 | .int i _=>some (.int i)
 | .str x _=>some (.str x)
 | .bytes b _=>some (.byt b)
 | .float b _=>some (.flt b)
 | .ref a=>some (.ref a)
 | .type n=>some (.ty n)
 |_=>none
theorem RelV.abs{x:V}(r:RelV x u):absV u=some x:=by
 cases x with
 |non=>cases r;rfl
 |bl _=>cases r;rfl
 |int _=>obtain⟨t,rfl⟩:=r;rfl
 |str _=>obtain⟨t,rfl⟩:=r;rfl
 |byt _=>obtain⟨t,rfl⟩:=r;rfl
 |flt _=>obtain⟨t,rfl⟩:=r;rfl
 |ref _=>cases r;rfl
 |ty _=>cases r;rfl
theorem RelV.inj{x:V}(r:RelV x u)(q:RelV y u):x=y:=dC (r.abs.symm.trans q.abs)
theorem dD.inj:∀{xs ys:List V}{us:List Value},dD xs us->dD ys us->xs=ys
 |_,_,_,.nil,.nil=>rfl
 |_,_,_,.cons r t,.cons r' t'=>by rw[r.inj r',dD.inj t t']
section
variable {ys:List V}
theorem dL.of(h:H a=some (.lst xs)):dL K H a xs:=.inl (.inl h)
theorem dN.of(h:H a=some (.tup xs)):dN K H a xs:=.inl (.inl h)
theorem Inv.list(I:Inv X aJ σ H s)(h:dL X.K H a xs):∃its:List Value,dD xs its/\PlainL s.heap a its.toArray/\xs.length<=sizeLine:=by
 rcases h with h |⟨o,its,n,hk,hc,hd,hs,hz,r⟩
 ·obtain⟨z,its,n,r,e⟩:=h.ok I.hok;exact⟨its,r,⟨_,n,e,rfl,rfl,rfl⟩,z⟩
 ·refine⟨its.toList,r,⟨o,n,I.kIn a o hk,hc,hd,by simpa using hs⟩,?_⟩;have e:=r.length;simp only[bR]at e;lia
theorem Inv.tuple(I:Inv X aJ σ H s)(h:dN X.K H a xs):∃its:List Value,dD xs its/\IsTup s.heap a its.toArray/\xs.length<=sizeLine:=by
 rcases h with h |⟨o,its,n,hk,hc,hs,hz,r⟩
 ·obtain⟨z,its,r,p⟩:=h.ok I.hok;exact⟨its,r,p,z⟩
 ·refine⟨its.toList,r,⟨o,I.kIn a o hk,hc,n,by simpa using hs⟩,?_⟩;have e:=r.length;simp only[bR]at e;lia
theorem Inv.list_inj(I:Inv X aJ σ H s)(h:dL X.K H a xs)(h':dL X.K H a ys):xs=ys:=by
 obtain⟨its,r,⟨o,n,e,_,_,d⟩,_⟩:=I.list h;obtain⟨its',r',⟨o',n',e',_,_,d'⟩,_⟩:=I.list h';rw[e]at e';cases e';rw[d]at d';injection d' with d1 _
 have :its=its':=by simpa using dH Array.toList d1
 subst this;exact r.inj r'
theorem Inv.tuple_inj(I:Inv X aJ σ H s)(h:dN X.K H a xs)(h':dN X.K H a ys):xs=ys:=by
 obtain⟨its,r,⟨o,e,_,n,d⟩,_⟩:=I.tuple h;obtain⟨its',r',⟨o',e',_,n',d'⟩,_⟩:=I.tuple h';rw[e]at e';cases e';rw[d]at d';injection d' with d1 _
 have :its=its':=by simpa using dH Array.toList d1
 subst this;exact r.inj r'
end
abbrev Cx.wish(X:Cx)(E:Value->Shared->Prop):Cx:={X with xe:=E}
abbrev Cx.nox(X:Cx):Cx:=X.wish fun _ _=>False
theorem Cx.Ok.wish(ok:X.Ok)(E:Value->Shared->Prop):(X.wish E).Ok:=
 ⟨ok.mod,ok.kind,ok.glob,ok.blt,ok.above,ok.inj,ok.has,ok.cab,ok.hd,ok.frames,ok.stk,ok.exf,ok.bs,ok.bsz,ok.noex,ok.exfs,ok.funs,ok.frf⟩
theorem Cx.Ok.unwish(ok:(X.wish E).Ok):X.Ok:=
 ⟨ok.mod,ok.kind,ok.glob,ok.blt,ok.above,ok.inj,ok.has,ok.cab,ok.hd,ok.frames,ok.stk,ok.exf,ok.bs,ok.bsz,ok.noex,ok.exfs,ok.funs,ok.frf⟩
theorem Inv.wish(I:Inv X aJ σ H s)(E:Value->Shared->Prop):Inv (X.wish E) aJ σ H s:=⟨I.ok.wish E,I.os,I.bare,I.base,I.loc,I.cell,I.free,I.freeC,I.pin,I.hok,I.len⟩
theorem Inv.unwish(I:Inv (X.wish E) aJ σ H s):Inv X aJ σ H s:=⟨I.ok.unwish,I.os,I.bare,I.base,I.loc,I.cell,I.free,I.freeC,I.pin,I.hok,I.len⟩
theorem SP.unwish{f:Flow}{s':Shared}(h:SP (X.wish E) aJ D f s'):SP X aJ D f s':=by
 cases f with
 |next=>obtain⟨σ',H',I,q⟩:=h;exact⟨σ',H',I.unwish,q⟩
 |brk=>obtain⟨σ',H',I,q⟩:=h;exact⟨σ',H',I.unwish,q⟩
 |cont=>obtain⟨σ',H',I,q⟩:=h;exact⟨σ',H',I.unwish,q⟩
 |ret u=>obtain⟨v,σ',H',I,r,q⟩:=h;exact⟨v,σ',H',I.unwish,r,q⟩
theorem GN.nox{st:List Stmt}{t:TS}(h:GN X.nox st t):GN X st t:=fun aJ s σ H D I hw=>
 lH (h aJ s σ H D (I.wish _) hw) (fun _ _ q=>q.unwish) fun _ _ z=>False.elim z
section
variable {st:Stmt} {rest:List Stmt} {t u:TS} {pos:Pos}
def tNext:TS:=fun D σ H=>D.nx σ H
def ON(t u:TS):TS:=fun D σ H=>t {D with nx:=u D} σ H
theorem zW:GN X [] tNext:=fun _ _ σ H _ I h=>sZ ⟨σ,H,I,h⟩
theorem zF(h1:PS X st t)(h2:GN X rest u):GN X (st::rest) (ON t u):=by
 intro aJ s σ H D I h;refine wpAny_execs_cons (eN (h1 aJ s σ H {D with nx:=u D} I h) fun f s1 q=>?_);cases f with
 |next=>
  obtain⟨σ',H',I',q⟩:=q;exact h2 aJ s1 σ' H' D I' q
 |ret v=>exact q
 |brk=>exact q
 |cont=>exact q
theorem zG(h1:PS X st t):GN X [st] t:=by
 intro aJ s σ H D I h;refine wpAny_execs_cons (eN (h1 aJ s σ H D I h) fun f s1 q=>?_);cases f with
 |next=>exact sZ q
 |ret v=>exact q
 |brk=>exact q
 |cont=>exact q
theorem Inv.quiet(I:Inv X aJ σ H s):interactive X.env=false:=by simp[interactive,I.ok.kind]
def tDrop(te:TE):TS:=fun D σ H=>te σ H fun _ H1=>D.nx σ H1
theorem zX(he:PE X e te)(hs:swapsWith e none pos.line X.env=pure false:=by rfl):PS X (.Expr e pos) (tDrop te):=by
 intro aJ s σ H D I h;exact wpAny_Expr_any (eN (he aJ s σ H _ I h) fun v s1 ⟨x,H1,I1,r1,q1⟩=>⟨σ,H1,I1,q1⟩) I.quiet hs
def tRet(te:TE):TS:=fun D σ H=>te σ H D.rt
theorem zO(he:PE X e te):PS X (.Return (some e) pos) (tRet te):=by
 intro aJ s σ H D I h;exact wpAny_Return_some (eN (he aJ s σ H _ I h) fun v s1 ⟨x,H1,I1,r1,q1⟩=>⟨x,σ,H1,I1,r1,q1⟩)
def tRetN:TS:=fun D _ H=>D.rt .non H
theorem IA:PS X (.Return none pos) tRetN:=fun _ _ σ H _ I h=>wpAny_Return_none ⟨.non,σ,H,I,rfl,h⟩
def kf(c:TT)(t u:TS):TS:=fun D σ H=>c σ H fun b H1=>if b=true then t D σ H1 else u D σ H1
theorem yI{a b:List Stmt}{tc:TT}(hc:PT X c tc)(ha:GN X a t)(hb:GN X b u):PS X (.If c a b pos) (kf tc t u):=by
 intro aJ s σ H D I h;refine wpAny_If (eN (hc aJ s σ H _ I h) fun d s1 ⟨H1,I1,q1⟩=>?_);cases d with
 |true=>exact ha aJ s1 σ H1 D I1 q1
 |false=>exact hb aJ s1 σ H1 D I1 q1
def kc:TS:=fun _ _ _=>False
theorem AD:PS X st kc:=fun _ _ _ _ _ _ h=>h.elim
end
abbrev TG:=V->St->Hp->(St->Hp->Prop)->Prop
abbrev jp:=List V->St->Hp->(St->Hp->Prop)->Prop
def PG(X:Cx)(target:Expr)(t:TG):Prop:=
 ∀(aJ:List (Addr×Obj)) (s:Shared) (σ:St) (H:Hp) (v:V) (u:Value) (Q:St->Hp->Prop),Inv X aJ σ H s->RelV v u->t v σ H Q->
  wpAny (model X.prog X.w) X.A (assign target X.env u) (fun _ s'=>∃σ' H',Inv X aJ σ' H' s'/\Q σ' H') X.xe s
def PGs(X:Cx)(ts:List Expr)(t:jp):Prop:=
 ∀(aJ:List (Addr×Obj)) (s:Shared) (σ:St) (H:Hp) (vs:List V) (us:List Value) (Q:St->Hp->Prop),Inv X aJ σ H s->dD vs us->t vs σ H Q->
  wpAny (model X.prog X.w) X.A (assignInOrder ((assignEach ts X.env).map (·.2)) us) (fun _ s'=>∃σ' H',Inv X aJ σ' H' s'/\Q σ' H') X.xe s
abbrev qk:=V->V->V->Hp->(Hp->Prop)->Prop
def ql(X:Cx)(t:qk):Prop:=
 ∀(aJ:List (Addr×Obj)) (s:Shared) (σ:St) (H:Hp) (o i v:V) (ov iv u:Value) (Q:Hp->Prop),Inv X aJ σ H s->RelV o ov->RelV i iv->RelV v u->t o i v H Q->
  wpAny (model X.prog X.w) X.A (setItem ov iv u) (fun _ s'=>∃H',Inv X aJ σ H' s'/\Q H') X.xe s
abbrev TIp:=V->V->Hp->VK->Prop
def PIp(X:Cx)(op:Operator)(t:TIp):Prop:=
 ∀(aJ:List (Addr×Obj)) (s:Shared) (σ:St) (H:Hp) (x y:V) (v u:Value) (Q:VK),Inv X aJ σ H s->RelV x v->RelV y u->t x y H Q->
  wpAny (model X.prog X.w) X.A (inplaceOp op v u) (EP X aJ σ Q) X.xe s
section
variable {pos:Pos}
def kK(i:Nat):TG:=fun v σ H Q=>Q (σ.set i (some v)) H
theorem UN{x:Str}(hN:X.N.Nodup)(hi:X.N[i]?=some x)(hx:Loc X.env.scope x)(hf:X.fn x=true\/X.env.scope.names.lookup x=some .local:=by first |exact .inl rfl |exact .inr rfl |assumption):PG X (.Name x pos) (kK i):=by
 intro aJ s σ H v u Q I r h;exact wpAny_assign_Name (YY I hN hi hx r (fun s' I'=>⟨_,H,I',h⟩) hf)
def wC:jp:=fun vs σ H Q=>vs=[]/\Q σ H
def jU(t:TG)(u:jp):jp:=fun vs σ H Q=>asC vs fun v r=>t v σ H fun σ' H'=>u r σ' H' Q
theorem xH:PGs X [] wC:=by
 intro aJ s σ H vs us Q I r h;obtain⟨e,h⟩:=h;subst e;cases r;exact assignInOrder_nil ⟨σ,H,I,h⟩
theorem zY{t:TG}{u:jp}(h1:PG X e t)(h2:PGs X es u)
 (hs:(assignEach (e::es) X.env).map (·.2)=assign e X.env::(assignEach es X.env).map (·.2):=by rfl):PGs X (e::es) (jU t u):=by
 intro aJ s σ H vs us Q I r h;replace h:=asC_ h;obtain⟨v,vr,e1,h⟩:=h;subst e1;cases r with
 |cons r rr=>
  rw[hs];refine assignInOrder_cons (eN (h1 aJ s σ H _ _ _ I r h) fun _ s1 ⟨σ1,H1,I1,q1⟩=>?_);exact h2 aJ s1 σ1 H1 _ _ Q I1 rr q1
def vI(K:W.Frag)(n:Nat)(t:jp):TG:=fun v σ H Q=>mL v fun a=>∃xs,dN K H a xs/\xs.length=n/\t xs σ H Q
theorem uU{k:Nat}{t:jp}(hc:X.calm=true)(h:PGs X es t)
 (hn:(assignEach es X.env).length=n:=by rfl) (hst:(assignEach es X.env).findIdx? (·.1)=none:=by rfl):PG X (.Tuple es k pos) (vI X.K n t):=by
 intro aJ s σ H v u Q I r hw;replace hw:=xJ hw;obtain⟨a,e1,xs,hq,hl,hw⟩:=hw;subst e1;cases r;obtain⟨its,rv,ht,hz⟩:=I.tuple hq;refine assign_Tuple_tuple (I.ok.hd hc) ht (by simp[hn,←hl,rv.length]) hst fun h' hx=>?_
 have I1:Inv X aJ σ H {s with heap:=h'}:=I.kept (t':=s.toks) fun b o e=>hx b o (bS (bA e)) e
 exact h aJ _ σ H xs _ Q I1 (by simpa using rv) hw
def ax(te:TE)(g:TG):TS:=fun D σ H=>te σ H fun x H1=>g x σ H1 D.nx
theorem kU{x:Str}(hN:X.N.Nodup)(hi:X.N[i]?=some x)(hx:Loc X.env.scope x)(he:PE X e te)(hs:swapsWith e (some (.Name x pos')) pos.line X.env=pure false:=by rfl)(hf:X.fn x=true\/X.env.scope.names.lookup x=some .local:=by first |exact .inl rfl |exact .inr rfl |assumption):
 PS X (.Assign [.Name x pos'] e pos) (ax te (kK i)):=by
 intro aJ s σ H D I h;refine wpAny_Assign_Name (eN (he aJ s σ H _ I h) fun v s1 ⟨y,H1,I1,r1,q1⟩=>?_) hs;exact YY I1 hN hi hx r1 (fun s2 I2=>⟨_,H1,I2,q1⟩) hf
def OR(i:Nat)(te:TE)(ti:TIp):TS:=fun D σ H=>asV σ[i]? fun x=>te σ H fun y H1=>ti x y H1 fun z H2=>D.nx (σ.set i (some z)) H2
theorem UM{x:Str}{op:Operator}{ti:TIp}(hN:X.N.Nodup)(hi:X.N[i]?=some x)(hx:Loc X.env.scope x)(he:PE X e te)(ho:PIp X op ti)(hf:X.fn x=true\/X.env.scope.names.lookup x=some .local:=by first |exact .inl rfl |exact .inr rfl |assumption):
 PS X (.AugAssign (.Name x pos') op e pos) (OR i te ti):=by
 intro aJ s σ H D I h;replace h:=qi h;obtain⟨v,e1,h⟩:=h;obtain⟨m,hn,hl⟩:=I.loc;have vis:Vis X.env.scope x:=by rcases hx with k |k;exact .inl k;exact .inr (.inl k)
 obtain⟨u,r,l⟩:=hl i x v hi e1 vis;refine wpAny_AugAssign_Name ?_;have go:wpAny (model X.prog X.w) X.A (eval e X.env) (fun w s₂=>wpAny (model X.prog X.w) X.A (inplaceOp op u w) (fun r s₃=>wpAny (model X.prog X.w) X.A (storeName X.env x r) (fun _=>SP X aJ D .next) X.xe s₃) X.xe s₂) X.xe s:=by
  refine eN (he aJ s σ H _ I h) fun w s1 ⟨y,H1,I1,r1,q1⟩=>?_
  refine eN (ho aJ s1 σ H1 v y u w _ I1 r r1 q1) fun z s2 ⟨zv,H2,I2,r2,q2⟩=>?_
  exact YY I2 hN hi hx r2 (fun s3 I3=>⟨_,H2,I3,q2⟩) hf
 rcases l with⟨hk,hm⟩ |⟨hk,c,hc,hcell⟩
 ·exact wpAny_loadName_local I.ok.kind hk hn hm go
 ·rcases hk with hk |hk
  ·exact wpAny_loadName_cell I.ok.kind hk hc hcell go
  ·rcases hx with k |k
   ·have :X.env.scope.names.lookup x=some .free:=hk;rw[k]at this;cases this
   ·have :X.env.scope.names.lookup x=some .free:=hk;rw[k]at this;cases this
def HG(to ti te:TE)(tget:V->V->Hp->VK->Prop)(tip:TIp)(tset:qk):TS:=fun D σ H=>to σ H fun o H1=>ti σ H1 fun i H2=>tget o i H2 fun x H3=>te σ H3 fun y H4=>tip x y H4 fun z H5=>tset o i z H5 fun H6=>D.nx σ H6
def PGet(X:Cx)(t:V->V->Hp->VK->Prop):Prop:=
 ∀(aJ:List (Addr×Obj)) (s:Shared) (σ:St) (H:Hp) (o i:V) (ov iv:Value) (Q:VK),Inv X aJ σ H s->RelV o ov->RelV i iv->t o i H Q->
  wpAny (model X.prog X.w) X.A (getItem ov iv) (EP X aJ σ Q) X.xe s
theorem YH{i:Expr}{to ti:TE}{tget:V->V->Hp->VK->Prop}{tip:TIp}{tset:qk}{op:Operator}{tpos:Pos}(ho:PE X o to)(hi:PE X i ti)(hg:PGet X tget)(he:PE X e te)(hp:PIp X op tip)(hs:ql X tset)
 (ha:∀ov iv new,augStore i ov iv new=(do holding [new,ov,iv] (setItem ov iv new);release [new,ov,iv] [];pure .next):=by intros;rfl):PS X (.AugAssign (.Subscript o i tpos) op e pos) (HG to ti te tget tip tset):=by
 intro aJ s σ H D I h;refine wpAny_AugAssign_SubscriptAny (eN (ho aJ s σ H _ I h) fun ov s1 ⟨x1,H1,I1,r1,q1⟩=>?_) ha;refine eN (hi aJ s1 σ H1 _ I1 q1) fun iv s2 ⟨x2,H2,I2,r2,q2⟩=>?_
 refine eN (hg aJ s2 σ H2 x1 x2 ov iv _ I2 r1 r2 q2) fun old s3 ⟨x3,H3,I3,r3,q3⟩=>?_
 refine eN (he aJ s3 σ H3 _ I3 q3) fun v s4 ⟨x4,H4,I4,r4,q4⟩=>?_
 refine eN (hp aJ s4 σ H4 x3 x4 old v _ I4 r3 r4 q4) fun new s5 ⟨x5,H5,I5,r5,q5⟩=>?_
 exact eN (hs aJ s5 σ H5 x1 x2 x5 ov iv new _ I5 r1 r2 r5 q5) fun _ s6 ⟨H6,I6,q6⟩=>⟨σ,H6,I6,q6⟩
def TM(f:Int->Int->Int):TIp:=fun x y H Q=>sG x fun i=>sG y fun j=>Q (.int (f i j)) H
theorem oe:PIp X .Add (TM fun i j=>i+j):=by
 intro aJ s σ H x y v u Q I r1 r2 h;replace h:=jY h;obtain⟨i,e1,h⟩:=h;replace h:=jY h;obtain⟨j,e2,q⟩:=h;subst e1;subst e2;obtain⟨t,rfl⟩:=r1;obtain⟨t',rfl⟩:=r2;exact iadd_int ⟨.int _,H,I.tok _,⟨_,rfl⟩,q⟩
end
section
variable {pos:Pos}
def DT(c:TT)(tb:TS):TS:=fun D σ H=>∃W:Nat->St->Hp->Prop,(∃m,W m σ H)/\∀m σ H,W m σ H->
 c σ H fun b H1=>if b=true then∃N:St->Hp->Prop,(∀σ' H',N σ' H'->∃m',m'<m/\W m' σ' H')/\tb {D with nx:=N,ct:=N,bk:=D.nx} σ H1 else D.nx σ H1
theorem AC{body:List Stmt}{tc:TT}(hp:PassesOwn (model X.prog X.w) X.A X.env X.xe)(hc:PT X c tc)(hb:GN X body tb):PS X (.While c body [] pos) (DT tc tb):=by
 intro aJ s σ H D I h;obtain⟨W,⟨m0,w0⟩,turn⟩:=h;refine wpAny_While (codeAny_whileLoop (fun n s'=>∃σ' H',Inv X aJ σ' H' s'/\W n σ' H') ?_ m0 ⟨σ,H,I,w0⟩);rintro n s1 ⟨σ1,H1,I1,w1⟩;refine iS hp (eN (hc aJ s1 σ1 H1 _ I1 (turn n σ1 H1 w1)) fun b s2 ⟨H2,I2,q2⟩=>?_);cases b with
 |true=>
  obtain⟨N,hN,q2⟩:=q2;rw[aL rfl];refine iS hp (eN (hb aJ s2 σ1 H2 _ I2 q2) fun f s3 q3=>?_);cases f with
  |next=>
   obtain⟨σ3,H3,I3,n3⟩:=q3;obtain⟨m',hm,w3⟩:=hN σ3 H3 n3;exact⟨m',hm,σ3,H3,I3,w3⟩
  |cont=>
   obtain⟨σ3,H3,I3,n3⟩:=q3;obtain⟨m',hm,w3⟩:=hN σ3 H3 n3;exact⟨m',hm,σ3,H3,I3,w3⟩
  |brk=>exact q3
  |ret v=>exact q3
 |false=>
  rw[aH cI];exact sZ ⟨σ1,H2,I2,q2⟩
end
structure It where
 go:Nat->Hp->Prop
 yld:Nat->Hp->V->Hp->Prop
 stop:Nat->Hp->Prop
def JG(X:Cx)(aJ:List (Addr×Obj))(H:Hp)(b:Addr):Prop:=
 H b=none/\b≠X.env.locals/\b∉X.fs/\(b∈X.ex\/X.s₀.heap.objs.size<=b)/\(∀x c,X.env.cells.lookup x=some c->c≠b)/\∀p∈X.pn++aJ,p.1≠b
theorem Inv.fpOk(I:Inv X aJ σ H s)(hb:s.heap.objs.size<=b)(hn:H' b=none):JG X aJ H' b:=by
 refine⟨hn,Nat.ne_of_gt (cH I.lt hb),I.nofs hb,.inr (cP I.sz hb),fun x c e z=>?_,fun p hp z=>?_⟩
 ·obtain⟨v,q⟩:=I.cell x c e;exact absurd (cH q.lt (by rw[z];exact hb)) (eE _)
 ·exact absurd (cH (bA (I.pin p hp).1) (by rw[z];exact hb)) (eE _)
structure NJ(P:Program)(w:World)(K:W.Frag)(tg:Expr)(J:It)(fp:List Addr)(it:Addr)(tn:Nat->Heap->Prop):Prop where
 mem:it∈fp
 obj:∀i h,tn i h->∀b∈fp,∃o,h.get? b=some o/\∀v,o.data≠.cell v
 keep:∀i h h',tn i h->(∀b∈fp,∀o,h.get? b=some o->h'.get? b=some o)->tn i h'
 item:∀(X:Cx),X.prog=P->X.w=w->X.K=K->X.calm=true->∀(i:Nat)(aJ:List (Addr×Obj))(s:Shared)(σ:St)(H:Hp)(E:Value->Shared->Prop),Inv X aJ σ H s->(∀b∈fp,JG X aJ H b)->tn i s.heap->J.go i H->
  wpAny (model P w) X.A (pyNext (.ref it)) (fun r s1=>∃u,r=some u/\
   wpAny (model P w) X.A (letOwnedTupleGo tg (.ref it) u) (fun _ s2=>∃x H',Inv X aJ σ H' s2/\RelV x u/\J.yld i H x H'/\tn (i+1) s2.heap/\∀b∈fp,H' b=none) E s1) E s
 done:∀(X:Cx),X.prog=P->X.w=w->X.K=K->X.calm=true->∀(i:Nat)(aJ:List (Addr×Obj))(s:Shared)(σ:St)(H:Hp)(E:Value->Shared->Prop),Inv X aJ σ H s->(∀b∈fp,JG X aJ H b)->tn i s.heap->J.stop i H->
  wpAny (model P w) X.A (pyNext (.ref it)) (fun r s1=>r=none/\Inv X aJ σ H s1) E s
 self:∀(A:Around)(i:Nat)(s:Shared)(Q:Value->Shared->Prop)(E:Value->Shared->Prop),tn i s.heap->Q (.ref it) s->wpAny (model P w) A (pyIter (.ref it)) Q E s
abbrev TI:=St->Hp->(It->Hp->Prop)->Prop
def PIE(X:Cx)(aJ:List (Addr×Obj))(σ:St)(tg:Expr)(R:It->Hp->Prop)(itv:Value)(s2:Shared):Prop:=
 ∃(it:Addr)(fp:List Addr)(tn:Nat->Heap->Prop)(J:It)(H':Hp),itv=.ref it/\Inv X aJ σ H' s2/\NJ X.prog X.w X.K tg J fp it tn/\tn 0 s2.heap/\(∀b∈fp,JG X aJ H' b)/\R J H'
def PI(X:Cx)(tg iter:Expr)(wi:TI):Prop:=
 ∀(aJ:List (Addr×Obj)) (s:Shared) (σ:St) (H:Hp) (R:It->Hp->Prop),Inv X aJ σ H s->wi σ H R->
  wpAny (model X.prog X.w) X.A (eval iter X.env) (fun v s1=>wpAny (model X.prog X.w) X.A (pyIter v) (PIE X aJ σ tg R) X.xe s1) X.xe s
theorem KC{o:Obj}{n:String}{vs:Array Value}{Q:Unit->Shared->Prop}(ho:s.heap.get? it=some o)(hc:o.cls=.type n)(hd:o.data=.fields vs)
 (hn:["enumerate","zip","dict_itemiterator","dict_reverseitemiterator","odict_iterator","itertools.zip_longest","itertools.pairwise"].contains n=false) (hQ:Q Unit.unit s):wpAny M A (letOwnedTupleGo tg (.ref it) u) Q E s:=by
 unfold letOwnedTupleGo;cases tg<;>first
  |exact aR hQ
  |(cases u<;>first
   |exact aR hQ
   |(refine aF (wpAny_load ho ?_)
     rw[hc,hd];show wpAny M A (if(["enumerate","zip","dict_itemiterator","dict_reverseitemiterator","odict_iterator","itertools.zip_longest","itertools.pairwise"].contains n&&vs[0]?==some (rawInt _))=true then _ else _) Q E s;rw[aH (by intro h;rw[hn,fN]at h;cases h)];exact aR hQ))
def io(K:W.Frag)(a:Addr):It:=
 ⟨fun i H=>∃xs x,dL K H a xs/\xs[i]?=some x,fun i H x H'=>H'=H/\∀xs,dL K H a xs->xs[i]?=some x,fun i H=>∃xs,dL K H a xs/\xs.length<=i⟩
def jv(K:W.Frag)(a:Addr):It:=
 ⟨fun i H=>∃xs x,dN K H a xs/\xs[i]?=some x,fun i H x H'=>H'=H/\∀xs,dN K H a xs->xs[i]?=some x,fun i H=>∃xs,dN K H a xs/\xs.length<=i⟩
def WM(lo:Int)(n:Nat):It:=⟨fun i _=>i<n,fun i H x H'=>H'=H/\x=.int (lo+i),fun i _=>n<=i⟩
theorem LI(a it:Addr):NJ P w K tg (io K a) [it] it (fun i h=>h.IsListIter it a i) where
 mem:=by simp
 obj:=fun i h st b hb=>by
  have e:b=it:=by simpa using hb
  subst e;obtain⟨o,e,c,d⟩:=st;exact⟨o,e,fun v z=>by rw[d]at z;cases z⟩
 keep:=fun i h h' st k=>st.at fun o e=>k it (by simp) o e
 item:=by
  intro X hP hw hK hc i aJ s σ H E I hf st hg;subst hP hw hK;obtain⟨xs,x,hq,hx⟩:=hg;obtain⟨its,rv,p,hz⟩:=I.list hq;obtain⟨u,hu,ru⟩:=rv.get hx;obtain⟨f0,f1,f2,f3,f4,f5⟩:=hf it (by simp);refine sP st p.isList (x:=u) (by simpa using hu) fun h' cO sb=>?_
  have I1:Inv X aJ σ H {s with heap:=h'}:=I.turned (t':=s.toks) (fun b o hb e=>(sb.2 b hb).trans e) f0 f1 f3 f4 f5;obtain⟨o,e,c,d⟩:=id cO;exact⟨u,rfl,KC (s:={s with heap:=h'}) e c d (by decide) ⟨x,H,I1,ru,⟨rfl,fun ys hy=>by rw[I.list_inj hy hq];exact hx⟩,cO,fun b hb=>(hf b hb).1⟩⟩
 done:=by
  intro X hP hw hK hc i aJ s σ H E I hf st hg;subst hP hw hK;obtain⟨xs,hq,hx⟩:=hg;obtain⟨its,rv,p,hz⟩:=I.list hq;obtain⟨f0,f1,f2,f3,f4,f5⟩:=hf it (by simp);have hl:=rv.length;exact DH (I.ok.hd hc) st p.isList (by simp;lia) fun h' eb=>⟨rfl,I.turned (t':=s.toks) (fun b o hb e=>eb b o hb e) f0 f1 f3 f4 f5⟩
 self:=fun _ _ _ _ _ st h=>wpAny_pyIter_listiter st h
theorem DP(a it:Addr):NJ P w K tg (jv K a) [it] it (fun i h=>h.IsTupleIter it a i) where
 mem:=by simp
 obj:=fun i h st b hb=>by
  have e:b=it:=by simpa using hb
  subst e;obtain⟨o,e,c,d⟩:=st;exact⟨o,e,fun v z=>by rw[d]at z;cases z⟩
 keep:=fun i h h' st k=>st.at fun o e=>k it (by simp) o e
 item:=by
  intro X hP hw hK hc i aJ s σ H E I hf st hg;subst hP hw hK;obtain⟨xs,x,hq,hx⟩:=hg;obtain⟨its,rv,p,hz⟩:=I.tuple hq;obtain⟨u,hu,ru⟩:=rv.get hx;obtain⟨f0,f1,f2,f3,f4,f5⟩:=hf it (by simp);refine wpAny_pyNext_tuple_item st (show s.heap.IsTuple a its.toArray from p) (x:=u) (by simpa using hu) fun h' cO sb=>?_
  have I1:Inv X aJ σ H {s with heap:=h'}:=I.turned (t':=s.toks) (fun b o hb e=>(sb.2 b hb).trans e) f0 f1 f3 f4 f5;obtain⟨o,e,c,d⟩:=id cO;exact⟨u,rfl,KC (s:={s with heap:=h'}) e c d (by decide) ⟨x,H,I1,ru,⟨rfl,fun ys hy=>by rw[I.tuple_inj hy hq];exact hx⟩,cO,fun b hb=>(hf b hb).1⟩⟩
 done:=by
  intro X hP hw hK hc i aJ s σ H E I hf st hg;subst hP hw hK;obtain⟨xs,hq,hx⟩:=hg;obtain⟨its,rv,p,hz⟩:=I.tuple hq;obtain⟨f0,f1,f2,f3,f4,f5⟩:=hf it (by simp);have hl:=rv.length;exact wpAny_pyNext_tuple_end (I.ok.hd hc) st (show s.heap.IsTuple a its.toArray from p) (by simp;lia) fun h' eb=>⟨rfl,I.turned (t':=s.toks) (fun b o hb e=>eb b o hb e) f0 f1 f3 f4 f5⟩
 self:=fun _ _ _ _ _ st h=>wpAny_pyIter_tupleiter st h
theorem DQ(it:Addr)(lo:Int)(n:Nat):NJ P w K tg (WM lo n) [it] it (fun i h=>IsRangeIter h it (lo+(i:Nat)*1) ((n:Int)-(i:Nat)) 1) where
 mem:=by simp
 obj:=fun i h st b hb=>by
  have e:b=it:=by simpa using hb
  subst e;exact⟨_,st,fun v z=>by
   have z':Data.fields _=Data.cell v:=z;cases z'⟩
 keep:=fun i h h' st k=>k it (by simp) _ st
 item:=by
  intro X hP hw hK hc i aJ s σ H E I hf st hg;subst hP hw hK;obtain⟨f0,f1,f2,f3,f4,f5⟩:=hf it (by simp);have W:=Walks.range (prog:=X.prog) (w:=X.w) (I.ok.hd hc) it lo 1 n;refine W.item i s _ _ hg st fun v h' tk hv cO kk=>?_
  obtain⟨t,rfl⟩:=hv;have I1:Inv X aJ σ H {s with heap:=h',toks:=tk}:=I.turned (fun b o hb e=>kk b o (by simpa using hb) e) f0 f1 f3 f4 f5;refine⟨_,rfl,KC (s:={s with heap:=h',toks:=tk}) (n:="range_iterator") cO rfl rfl (by decide) ⟨.int (lo+i),H,I1,⟨t,?_⟩,⟨rfl,rfl⟩,cO,fun b hb=>(hf b hb).1⟩⟩;rw[Int.mul_one]
 done:=by
  intro X hP hw hK hc i aJ s σ H E I hf st hg;subst hP hw hK;obtain⟨f0,f1,f2,f3,f4,f5⟩:=hf it (by simp);exact wpAny_pyNext_range_end (I.ok.hd hc) st (by have :n<=i:=hg;lia) fun h' eb=>⟨rfl,I.turned (t':=s.toks) (fun b o hb e=>eb b o hb e) f0 f1 f3 f4 f5⟩
 self:=fun _ _ _ _ _ st h=>wpAny_pyIter_rangeiter st h
def iList(K:W.Frag)(tl:TE):TI:=fun σ H R=>tl σ H fun x H1=>mL x fun a=>(∃xs,dL K H1 a xs)/\R (io K a) H1
def iTup(K:W.Frag)(tl:TE):TI:=fun σ H R=>tl σ H fun x H1=>mL x fun a=>(∃xs,dN K H1 a xs)/\R (jv K a) H1
theorem yG{l:Expr}{tl:TE}(hl:PE X l tl):PI X tg l (iList X.K tl):=by
 intro aJ s σ H R I h;refine eN (hl aJ s σ H _ I h) fun v s1 ⟨x,H1,I1,r1,q1⟩=>?_
 replace q1:=xJ q1;obtain⟨a,e,⟨xs,hq⟩,q⟩:=q1;subst e;cases r1;obtain⟨its,rv,p,hz⟩:=I1.list hq;refine rB p.isList ?_;refine⟨s1.heap.objs.size,[s1.heap.objs.size],_,_,H1,rfl,I1.kept (t':=s1.toks) fun b o e=>aP _ e,LI a _,⟨_,bT _ rfl,rfl,rfl⟩,fun b hb=>?_,q⟩;have e:b=s1.heap.objs.size:=by simpa using hb
 subst e;exact I1.fpOk (aG _) (I1.hok.fresh (aG _))
theorem wK{l:Expr}{tl:TE}(hl:PE X l tl):PI X tg l (iTup X.K tl):=by
 intro aJ s σ H R I h;refine eN (hl aJ s σ H _ I h) fun v s1 ⟨x,H1,I1,r1,q1⟩=>?_
 replace q1:=xJ q1;obtain⟨a,e,⟨xs,hq⟩,q⟩:=q1;subst e;cases r1;obtain⟨its,rv,p,hz⟩:=I1.tuple hq;refine wpAny_pyIter_tuple (show s1.heap.IsTuple a its.toArray from p) ?_;refine⟨s1.heap.objs.size,[s1.heap.objs.size],_,_,H1,rfl,I1.kept (t':=s1.toks) fun b o e=>aP _ e,DP a _,⟨_,bT _ rfl,rfl,rfl⟩,fun b hb=>?_,q⟩;have e:b=s1.heap.objs.size:=by simpa using hb
 subst e;exact I1.fpOk (aG _) (I1.hok.fresh (aG _))
theorem RD{R:It->Hp->Prop}{lo hi:Int}{t u v:Tok}{tk:Nat}(I:Inv X aJ σ H s)(h1: -(2^62)<=lo)(h2:lo<2^62)(h3: -(2^62)<=hi)(h4:hi<2^62)
 (q:R (WM lo (hi-lo).toNat) H):wpAny (model X.prog X.w) X.A (pyIter (.ref s.heap.objs.size)) (PIE X aJ σ tg R) E {s with heap:=s.heap.push {cls:=.type "range",data:=.fields #[.int lo t,.int hi u,.int 1 v]},toks:=tk}:=by
 refine wpAny_pyIter_range (IsRange.new ..) (small_one h1 h2 h3 h4) ?_;have I1:Inv X aJ σ H {s with heap:=s.heap.push {cls:=.type "range",data:=.fields #[.int lo t,.int hi u,.int 1 v]},toks:=tk}:=I.kept fun b o e=>aP _ e
 refine⟨(s.heap.push {cls:=.type "range",data:=.fields #[.int lo t,.int hi u,.int 1 v]}).objs.size,[(s.heap.push {cls:=.type "range",data:=.fields #[.int lo t,.int hi u,.int 1 v]}).objs.size],_,_,H,rfl,
  I1.kept (t':=tk) fun b o e=>aP _ e,DQ _ lo (hi-lo).toNat,?_,fun b hb=>?_,q⟩
 ·have e1:lo+((0:Nat):Int)*1=lo:=by simp
  have e2:(((hi-lo).toNat:Nat):Int)-((0:Nat):Int)=Builtin.Range.rangeSize lo hi 1:=by rw[rangeSize_one];split<;>lia
  show IsRangeIter _ _ (lo+((0:Nat):Int)*1) ((((hi-lo).toNat:Nat):Int)-((0:Nat):Int)) 1;rw[e1,e2];exact bT _ rfl
 ·have e:b=(s.heap.push {cls:=.type "range",data:=.fields #[.int lo t,.int hi u,.int 1 v]}).objs.size:=by simpa using hb
  subst e;exact I1.fpOk (aG _) (I1.hok.fresh (aG _))
def iRng1(ta:TA):TI:=fun σ H R=>ta σ H fun vs H1=>pF vs fun x=>sG x fun j=> -(2^62)<=j/\j<2^62/\R (WM 0 j.toNat) H1
def iRng2(ta:TA):TI:=fun σ H R=>ta σ H fun vs H1=>ah vs fun x y=>sG x fun i=>sG y fun j=>(-(2^62)<=i/\i<2^62/\ -(2^62)<=j/\j<2^62)/\R (WM i (j-i).toNat) H1
theorem xY{a:Expr}{ta:TA}{p pos:Pos}(hg:Gl X "range")(hm:X.mg "range"=none)(ha:PA X [a] ta)(hs:starEach [a] X.env=[(false,eval a X.env)]:=by rfl):PI X tg (.Call (.Name "range" p) [a] [] pos) (iRng1 ta):=by
 intro aJ s σ H R I h;refine Call_ (wN I hg hm boot_range (fS (eN (ha pos aJ s σ H _ I h) fun us s1 ⟨vs,H1,I1,r1,q1⟩=>?_) hs rfl));replace q1:=wD q1;obtain⟨x,e,q1⟩:=q1;replace q1:=jY q1;obtain⟨j,rfl,q1,q2,q⟩:=q1;subst e;cases r1 with
 |cons r rr=>
  cases rr;obtain⟨t,rfl⟩:=r;exact call_range_1 (RD I1 () () q1 q2 (by simpa using q))
def tFor(wi:TI)(g:TG)(tb:TS):TS:=fun D σ H=>wi σ H fun J H1=>∃W:Nat->Nat->St->Hp->Prop,(∃m,W 0 m σ H1)/\∀i m σ H,W i m σ H->
 (J.stop i H/\D.nx σ H)\/(J.go i H/\∃N:St->Hp->Prop,(∀σ' H',N σ' H'->∃m',m'<m/\W (i+1) m' σ' H')/\∀x H',J.yld i H x H'->g x σ H' fun σ2 H2=>tb {D with nx:=N,ct:=N,bk:=D.nx} σ2 H2)
def qT(fp:List Addr)(h:Heap):List (Addr×Obj):=fp.filterMap fun b=>(h.get? b).map fun o=>(b,o)
theorem jK{o:Obj}(hb:b∈fp)(e:h.get? b=some o):(b,o)∈qT fp h:=lU.mpr ⟨b,hb,by rw[e];rfl⟩
theorem QB{p:Addr×Obj}(hp:p∈qT fp h):p.1∈fp/\h.get? p.1=some p.2:=by
 obtain⟨b,hb,e⟩:=lU.mp hp;cases q:h.get? b with
 |none=>rw[q]at e;cases e
 |some o=>
  rw[q]at e;have e':(b,o)=p:=dC e;subst e';exact⟨hb,q⟩
theorem Inv.pinned(I:Inv X aJ σ H s)(hf:∀b∈fp,JG X aJ H b)(ho:∀b∈fp,∃o,s.heap.get? b=some o/\∀v,o.data≠.cell v):Inv X (aJ++qT fp s.heap) σ H s:=
 I.pins_of fun p hp=>(bO.mp hp).elim (fun z=>I.pin p (aZ _ z)) fun z=>by
  obtain⟨hb,e⟩:=QB z;obtain⟨f0,f1,f2,_⟩:=hf p.1 hb;obtain⟨o,e',d⟩:=ho p.1 hb;rw[e]at e';cases e';exact⟨e,f0,f1,f2,d⟩
theorem Inv.unpinned{pl:List (Addr×Obj)}(I:Inv X (aJ++pl) σ H s):Inv X aJ σ H s:=I.pins_of fun p hp=>I.pin p (aZ _ (cK _ hp))
theorem yM{iter:Expr}{body:List Stmt}{wi:TI}{g:TG}{pos:Pos}(hp:PassesOwn (model X.prog X.w) X.A X.env X.xe)(hc:X.calm=true)(hi:PI X tg iter wi)(hg:PG X tg g)(hb:GN X body tb)
 (hs:∀x,foldedSetIterable iter X.env x=pure x:=by intro _;rfl):PS X (.For tg iter body [] pos) (tFor wi g tb):=by
 intro aJ s σ H D I h;refine wpAny_For (eN (hi aJ s σ H _ I h) fun v s1 h1=>eN h1 fun itv s2 h2=>?_) hs;obtain⟨it,fp,tn,J,H2,e,I2,T,st2,f2,W,⟨m0,w0⟩,turn⟩:=h2;subst e;have stat:∀{H':Hp},(∀b∈fp,H' b=none)->∀b∈fp,JG X aJ H' b:=fun hn b hb=>⟨hn b hb,(f2 b hb).2⟩
 refine codeAny_forLoop_any (fun n s'=>∃i σ' H',Inv X aJ σ' H' s'/\tn i s'.heap/\(∀b∈fp,H' b=none)/\W i n σ' H') ?_ m0 ⟨0,σ,H2,I2,st2,fun b hb=>(f2 b hb).1,w0⟩;rintro n s3 ⟨i,σ3,H3,I3,st3,fr3,w3⟩;rcases turn i n σ3 H3 w3 with⟨stop,qn⟩ |⟨go,N,hN,step⟩
 ·refine iS hp (eN (T.done X rfl rfl rfl hc i aJ s3 σ3 H3 X.xe I3 (stat fr3) st3 stop) fun r s4 ⟨hr,I4⟩=>?_);subst hr;exact sZ ⟨σ3,H3,I4,qn⟩
 ·refine iS hp (eN (T.item X rfl rfl rfl hc i aJ s3 σ3 H3 X.xe I3 (stat fr3) st3 go) fun r s4 ⟨u,hr,h4⟩=>?_);subst hr;refine iS hp (eN h4 fun _ s5 ⟨x,H5,I5,r5,y5,st5,fr5⟩=>?_);have I5':=I5.pinned (stat fr5) (T.obj _ _ st5);refine iS hp (eN (hg _ s5 σ3 H5 x u _ I5' r5 (step x H5 y5)) fun _ s6 ⟨σ6,H6,I6,q6⟩=>?_);refine iS hp (eN (hb _ s6 σ6 H6 _ I6 q6) fun f s7 q7=>?_);have again:∀{σ7:St}{H7:Hp},Inv X (aJ++qT fp s5.heap) σ7 H7 s7->N σ7 H7->∃m,m<n/\∃i σ' H',Inv X aJ σ' H' s7/\tn i s7.heap/\(∀b∈fp,H' b=none)/\W i m σ' H':=fun{σ7 H7} I7 n7=>by
   obtain⟨m',hm,w7⟩:=hN σ7 H7 n7;refine⟨m',hm,i+1,σ7,H7,I7.unpinned,T.keep _ _ _ st5 fun b hb o e=>(I7.pin (b,o) (aZ _ (aZ _ (jK hb e)))).1,fun b hb=>?_,w7⟩;obtain⟨o,e,d⟩:=T.obj _ _ st5 b hb;exact(I7.pin (b,o) (aZ _ (aZ _ (jK hb e)))).2.1
  cases f with
  |next=>obtain⟨σ7,H7,I7,n7⟩:=q7;exact again I7 n7
  |cont=>obtain⟨σ7,H7,I7,n7⟩:=q7;exact again I7 n7
  |brk=>obtain⟨σ7,H7,I7,q7⟩:=q7;exact⟨σ7,H7,I7.unpinned,q7⟩
  |ret v=>obtain⟨x7,σ7,H7,I7,r7,q7⟩:=q7;exact⟨x7,σ7,H7,I7.unpinned,r7,q7⟩
theorem CC{g:TG}(Pv:Nat->St->Hp->Prop)(h0:Pv 0 σ H)(hl:∀i σ H,i<=xs.length->Pv i σ H->dL K H a xs)
 (hs:∀i x σ H,xs[i]?=some x->Pv i σ H->g x σ H fun σ2 H2=>tb {D with nx:=Pv (i+1),ct:=Pv (i+1),bk:=D.nx} σ2 H2) (hd:∀σ H,Pv xs.length σ H->D.nx σ H):
 ∃W:Nat->Nat->St->Hp->Prop,(∃m,W 0 m σ H)/\∀i m σ H,W i m σ H->
  ((io K a).stop i H/\D.nx σ H)\/((io K a).go i H/\∃N:St->Hp->Prop,(∀σ' H',N σ' H'->∃m',m'<m/\W (i+1) m' σ' H')/\∀x H',(io K a).yld i H x H'->g x σ H' fun σ2 H2=>tb {D with nx:=N,ct:=N,bk:=D.nx} σ2 H2):=by
 refine⟨fun i m σ H=>m=xs.length-i/\i<=xs.length/\Pv i σ H,⟨xs.length,by simp,cG _,h0⟩,?_⟩;rintro i m σ H ⟨rfl,hi,p⟩;have q:=hl i σ H hi p;by_cases lS:i<xs.length
 ·refine .inr ⟨⟨xs,xs[i],q,by simp[lS]⟩,Pv (i+1),fun σ' H' p'=>⟨xs.length-(i+1),(),rfl,lS,p'⟩,fun x H' y=>?_⟩;obtain⟨e,y⟩:=y;subst e;exact hs i x σ _ (y xs q) p
 ·have e:i=xs.length:=by lia
  subst e;exact .inl ⟨⟨xs,q,aG _⟩,hd σ H p⟩
theorem KI{g:TG}(Pv:Nat->St->Hp->Prop)(h0:Pv 0 σ H)(hl:∀i σ H,i<=xs.length->Pv i σ H->dN K H a xs)
 (hs:∀i x σ H,xs[i]?=some x->Pv i σ H->g x σ H fun σ2 H2=>tb {D with nx:=Pv (i+1),ct:=Pv (i+1),bk:=D.nx} σ2 H2) (hd:∀σ H,Pv xs.length σ H->D.nx σ H):
 ∃W:Nat->Nat->St->Hp->Prop,(∃m,W 0 m σ H)/\∀i m σ H,W i m σ H->
  ((jv K a).stop i H/\D.nx σ H)\/((jv K a).go i H/\∃N:St->Hp->Prop,(∀σ' H',N σ' H'->∃m',m'<m/\W (i+1) m' σ' H')/\∀x H',(jv K a).yld i H x H'->g x σ H' fun σ2 H2=>tb {D with nx:=N,ct:=N,bk:=D.nx} σ2 H2):=by
 refine⟨fun i m σ H=>m=xs.length-i/\i<=xs.length/\Pv i σ H,⟨xs.length,by simp,cG _,h0⟩,?_⟩;rintro i m σ H ⟨rfl,hi,p⟩;have q:=hl i σ H hi p;by_cases lS:i<xs.length
 ·refine .inr ⟨⟨xs,xs[i],q,by simp[lS]⟩,Pv (i+1),fun σ' H' p'=>⟨xs.length-(i+1),(),rfl,lS,p'⟩,fun x H' y=>?_⟩;obtain⟨e,y⟩:=y;subst e;exact hs i x σ _ (y xs q) p
 ·have e:i=xs.length:=by lia
  subst e;exact .inl ⟨⟨xs,q,aG _⟩,hd σ H p⟩
theorem QH{lo:Int}{g:TG}(Pv:Nat->St->Hp->Prop)(h0:Pv 0 σ H)
 (hs:∀i σ H,i<n->Pv i σ H->g (.int (lo+i)) σ H fun σ2 H2=>tb {D with nx:=Pv (i+1),ct:=Pv (i+1),bk:=D.nx} σ2 H2) (hd:∀σ H,Pv n σ H->D.nx σ H):
 ∃W:Nat->Nat->St->Hp->Prop,(∃m,W 0 m σ H)/\∀i m σ H,W i m σ H->
  ((WM lo n).stop i H/\D.nx σ H)\/((WM lo n).go i H/\∃N:St->Hp->Prop,(∀σ' H',N σ' H'->∃m',m'<m/\W (i+1) m' σ' H')/\∀x H',(WM lo n).yld i H x H'->g x σ H' fun σ2 H2=>tb {D with nx:=N,ct:=N,bk:=D.nx} σ2 H2):=by
 refine⟨fun i m σ H=>m=n-i/\i<=n/\Pv i σ H,⟨n,by simp,cG _,h0⟩,?_⟩;rintro i m σ H ⟨rfl,hi,p⟩;by_cases lS:i<n
 ·refine .inr ⟨lS,Pv (i+1),fun σ' H' p'=>⟨n-(i+1),(),rfl,lS,p'⟩,fun x H' y=>?_⟩;obtain⟨e,y⟩:=y;subst e y;exact hs i σ _ lS p
 ·have e:i=n:=by lia
  subst e;exact .inl ⟨aG _,hd σ H p⟩
abbrev R2:=V->V->Hp->VK->Prop
def oQ(X:Cx)(f:Value->Value->Sem Value)(r:R2):Prop:=
 ∀(aJ:List (Addr×Obj)) (s:Shared) (σ:St) (H:Hp) (x y:V) (v u:Value) (Q:VK),Inv X aJ σ H s->RelV x v->RelV y u->r x y H Q->
  wpAny (model X.prog X.w) X.A (f v u) (EP X aJ σ Q) X.xe s
def UnR(X:Cx)(f:Value->Sem Value)(r:V->Hp->VK->Prop):Prop:=
 ∀(aJ:List (Addr×Obj)) (s:Shared) (σ:St) (H:Hp) (x:V) (v:Value) (Q:VK),Inv X aJ σ H s->RelV x v->r x H Q->
  wpAny (model X.prog X.w) X.A (f v) (EP X aJ σ Q) X.xe s
def qL(X:Cx)(f:Value)(r:List V->Hp->VK->Prop):Prop:=
 ∀(aJ:List (Addr×Obj)) (s:Shared) (σ:St) (H:Hp) (xs:List V) (us:List Value) (Q:VK),Inv X aJ σ H s->dD xs us->r xs H Q->
  wpAny (model X.prog X.w) X.A (call f us) (EP X aJ σ Q) X.xe s
def TruR(X:Cx)(r:V->Hp->(Bool->Hp->Prop)->Prop):Prop:=
 ∀(aJ:List (Addr×Obj)) (s:Shared) (σ:St) (H:Hp) (x:V) (v:Value) (Q:Bool->Hp->Prop),Inv X aJ σ H s->RelV x v->r x H Q->
  wpAny (model X.prog X.w) X.A (truthy v) (TP X aJ σ Q) X.xe s
def tOp(r:R2)(ta tb:TE):TE:=fun σ H Q=>ta σ H fun x H1=>tb σ H1 fun y H2=>r x y H2 Q
def tUn(r:V->Hp->VK->Prop)(ta:TE):TE:=fun σ H Q=>ta σ H fun x H1=>r x H1 Q
def rI(C:Int->Int->Prop)(g:Int->Int->V):R2:=fun x y H Q=>sG x fun i=>sG y fun j=>C i j/\Q (g i j) H
def cq(g:Int->Int->V):R2:=fun x y H Q=>sG x fun i=>sG y fun j=>Q (g i j) H
def rU(g:Int->V):V->Hp->VK->Prop:=fun x H Q=>sG x fun i=>Q (g i) H
section
variable {a b:Expr} {tb tc:TE} {pos:Pos}
theorem qf(ha:PE X a ta)(hb:PE X b tb){R:V->V->Hp->Prop}(I:Inv X aJ σ H s)
 (h:ta σ H fun x H1=>tb σ H1 fun y H2=>R x y H2) {f:Value->Value->Sem Value}
 (hf:∀v u s2 x y H2,Inv X aJ σ H2 s2->RelV x v->RelV y u->R x y H2->wpAny (model X.prog X.w) X.A (f v u) Q X.xe s2):
 wpAny (model X.prog X.w) X.A (eval a X.env) (fun v s₁=>wpAny (model X.prog X.w) X.A (eval b X.env) (fun u s₂=>wpAny (model X.prog X.w) X.A (f v u) Q X.xe s₂) X.xe s₁) X.xe s:=by
 refine eN (ha aJ s σ H _ I h) fun v s1 ⟨x,H1,I1,r1,q1⟩=>?_
 refine eN (hb aJ s1 σ H1 _ I1 q1) fun u s2 ⟨y,H2,I2,r2,q2⟩=>?_
 exact hf v u s2 x y H2 I2 r1 r2 q2
theorem zL{op:Operator}{r:R2}(ho:oQ X (binaryOp op) r)(ha:PE X a ta)(hb:PE X b tb):PE X (.BinOp a op b pos) (tOp r ta tb):=by
 intro aJ s σ H Q I h;exact wpAny_BinOp (qf ha hb I h fun v u s2 x y H2 I2 rx ry q=>ho aJ s2 σ H2 x y v u Q I2 rx ry q)
theorem wE{op:UnaryOp}{r:V->Hp->VK->Prop}(ho:UnR X (unaryOp op) r)(ha:PE X a ta):PE X (.UnaryOp op a pos) (tUn r ta):=by
 intro aJ s σ H Q I h;exact UnaryOp_ (eN (ha aJ s σ H _ I h) fun v s1 ⟨x,H1,I1,r1,q1⟩=>ho aJ s1 σ H1 x v Q I1 r1 q1)
theorem opI{f:Value->Value->Sem Value}{C:Int->Int->Prop}{g:Int->Int->Int}
 (rule:∀(i j:Int)(t u:Tok)(s:Shared)(Q:Value->Shared->Prop)(E:Value->Shared->Prop),C i j->Q (.int (g i j) s.toks) {s with toks:=s.toks+1}->wpAny (model X.prog X.w) X.A (f (.int i t) (.int j u)) Q E s):
 oQ X f (rI C fun i j=>.int (g i j)):=by
 intro aJ s σ H x y v u Q I rx ry h;replace h:=jY h;obtain⟨i,rfl,h⟩:=h;replace h:=jY h;obtain⟨j,rfl,hc,q⟩:=h;obtain⟨t,rfl⟩:=rx;obtain⟨t',rfl⟩:=ry;exact rule i j t t' s _ _ hc ⟨.int (g i j),H,I.tok _,⟨_,rfl⟩,q⟩
theorem dm{f:Value->Value->Sem Value}{g:Int->Int->Int}
 (rule:∀(i j:Int)(t u:Tok)(s:Shared)(Q:Value->Shared->Prop)(E:Value->Shared->Prop),Q (.int (g i j) s.toks) {s with toks:=s.toks+1}->wpAny (model X.prog X.w) X.A (f (.int i t) (.int j u)) Q E s):
 oQ X f (cq fun i j=>.int (g i j)):=by
 intro aJ s σ H x y v u Q I rx ry h;replace h:=jY h;obtain⟨i,rfl,h⟩:=h;replace h:=jY h;obtain⟨j,rfl,q⟩:=h;obtain⟨t,rfl⟩:=rx;obtain⟨t',rfl⟩:=ry;exact rule i j t t' s _ _ ⟨.int (g i j),H,I.tok _,⟨_,rfl⟩,q⟩
theorem m3{f:Value->Value->Sem Value}{g:Int->Int->Bool}
 (rule:∀(i j:Int)(t u:Tok)(s:Shared)(Q:Value->Shared->Prop)(E:Value->Shared->Prop),Q (.bool (g i j)) s->wpAny (model X.prog X.w) X.A (f (.int i t) (.int j u)) Q E s):
 oQ X f (cq fun i j=>.bl (g i j)):=by
 intro aJ s σ H x y v u Q I rx ry h;replace h:=jY h;obtain⟨i,rfl,h⟩:=h;replace h:=jY h;obtain⟨j,rfl,q⟩:=h;obtain⟨t,rfl⟩:=rx;obtain⟨t',rfl⟩:=ry;exact rule i j t t' s _ _ ⟨.bl (g i j),H,I,rfl,q⟩
def CDiv(i j:Int):Prop:=0<j/\j<1073741824
def CPow(i j:Int):Prop:=0<=j/\j<=1000000/\i.natAbs<2^64
def qt(i j:Int):Prop:=(-(2^64)<i/\i<2^64)\/(-(2^64)<j/\j<2^64)
theorem qt.ok{i j:Int}(h:qt i j):IntMulOk i j:=by
 rcases h with⟨h1,h2⟩ |⟨h1,h2⟩
 ·exact .of_left (intBits_le_64 h1 h2)
 ·exact .of_right (intBits_le_64 h1 h2)
theorem uX:oQ X (binaryOp .Add) (cq fun i j=>.int (i+j)):=dm fun _ _ _ _ _ _ _ q=>add_int q
theorem RW:oQ X (binaryOp .Sub) (cq fun i j=>.int (i-j)):=dm fun _ _ _ _ _ _ _ q=>sub_int q
theorem xQ:oQ X (binaryOp .Mult) (rI qt fun i j=>.int (i*j)):=opI fun _ _ _ _ _ _ _ hc q=>mul_int q hc.ok
theorem yK:oQ X (binaryOp .FloorDiv) (rI CDiv fun i j=>.int (i/j)):=opI fun i j _ _ _ _ _ hc q=>by
 have h1:(0:Int)<j:=hc.1;have h2:j<1073741824:=hc.2;exact floordiv_int () (by rw[Int.fdiv_eq_ediv_of_nonneg i ()];exact q) (.inl (PyProof.noPylong_small ()))
theorem yN:oQ X (binaryOp .Mod) (rI (fun _ j=>0<j) fun i j=>.int (i % j)):=opI fun i j _ _ _ _ _ hc q=>by
 have h1:(0:Int)<j:=hc;exact mod_int' () (by rw[Int.fmod_eq_emod_of_nonneg i ()];exact q)
theorem kZ:oQ X (binaryOp .Pow) (rI CPow fun i j=>.int (i^j.toNat)):=opI fun _ _ _ _ _ _ _ hc q=>pow_int_small hc.1 hc.2.1 hc.2.2 q
theorem kY:oQ X (binaryOp .LShift) (rI CPow fun i j=>.int (i*2^j.toNat)):=opI fun _ _ _ _ _ _ _ hc q=>lshift_int_small hc.1 hc.2.1 hc.2.2 q
theorem ES:oQ X (binaryOp .BitAnd) (cq fun i j=>.int (Builtin.bitAnd i j)):=dm fun _ _ _ _ _ _ _ q=>and_int q
theorem kX:oQ X (binaryOp .BitXor) (cq fun i j=>.int (Builtin.bitXor i j)):=dm fun _ _ _ _ _ _ _ q=>xor_int q
theorem unI{f:Value->Sem Value}{g:Int->Int}
 (rule:∀(i:Int)(t:Tok)(s:Shared)(Q:Value->Shared->Prop)(E:Value->Shared->Prop),Q (.int (g i) s.toks) {s with toks:=s.toks+1}->wpAny (model X.prog X.w) X.A (f (.int i t)) Q E s):
 UnR X f (rU fun i=>.int (g i)):=by
 intro aJ s σ H x v Q I rx h;replace h:=jY h;obtain⟨i,rfl,q⟩:=h;obtain⟨t,rfl⟩:=rx;exact rule i t s _ _ ⟨.int (g i),H,I.tok _,⟨_,rfl⟩,q⟩
theorem uM:UnR X (unaryOp .USub) (rU fun i=>.int (-i)):=unI fun _ _ _ _ _ q=>neg_int q
theorem OI:UnR X (unaryOp .Invert) (rU fun i=>.int (Builtin.bitNot i)):=unI fun _ _ _ _ _ q=>invert_int q
end
def scal:V->V->Bool
 | .non,.non=>true | .non,.int _=>true | .int _,.non=>true | .non,.bl _=>true | .bl _,.non=>true | .non,.str _=>true | .str _,.non=>true
 | .int _,.int _=>true | .bl _,.bl _=>true | .str _,.str _=>true | .byt _,.byt _=>true
 | .int _,.str _=>true | .str _,.int _=>true | .bl _,.str _=>true | .str _,.bl _=>true
 |_,_=>false
def rEq:R2:=fun x y H Q=>scal x y=true/\Q (.bl (decide (x=y))) H
def rNe:R2:=fun x y H Q=>scal x y=true/\Q (.bl (!decide (x=y))) H
theorem gf{i j:Int}:decide (V.int i=V.int j)=(i==j):=by
 rw[cE];simp
theorem p8{i j:Bool}:decide (V.bl i=V.bl j)=(i==j):=by
 rw[cE];simp
theorem gc{i j:Str}:decide (V.str i=V.str j)=(i==j):=by
 rw[cE];simp
theorem gg{i j:Array UInt8}:decide (V.byt i=V.byt j)=(i.toList==j.toList):=by
 rw[cE];cases i;cases j;simp
section
variable {a b:Expr} {tb tc:TE} {pos:Pos}
theorem yW{Q:VK}{k k':Bool}(I:Inv X aJ σ H s)(q:Q (.bl k) H)(e:k=k'):EP X aJ σ Q (.bool k') s:=by
 subst e;exact⟨.bl k,H,I,rfl,q⟩
theorem xG:oQ X (compareOp .Eq) rEq:=by
 intro aJ s σ H x y v u Q I rx ry h;obtain⟨hs,q⟩:=h;cases x with
 |non=>
  cases rx;cases y with
  |non=>cases ry;exact PySem.EqNone.eq_none_none (yW I q (by simp))
  |bl j=>cases ry;exact PySem.EqNone.eq_none_bool (yW I q (by simp))
  |int j=>obtain⟨t',rfl⟩:=ry;exact PySem.EqNone.eq_none_int (yW I q (by simp))
  |str j=>obtain⟨t',rfl⟩:=ry;exact PySem.EqNone.eq_none_str (yW I q (by simp))
  |_=>exact absurd (show false=true from hs) cI
 |bl i=>
  cases rx;cases y with
  |non=>cases ry;exact PySem.EqNone.eq_bool_none (yW I q (by simp))
  |bl j=>cases ry;exact eq_bool (yW I q p8)
  |str j=>obtain⟨t',rfl⟩:=ry;exact PySem.EqMixed.eq_bool_str (yW I q (by simp))
  |_=>exact absurd (show false=true from hs) cI
 |int i=>
  obtain⟨t,rfl⟩:=rx;cases y with
  |non=>cases ry;exact PySem.EqNone.eq_int_none (yW I q (by simp))
  |int j=>obtain⟨t',rfl⟩:=ry;exact eq_int (yW I q gf)
  |str j=>obtain⟨t',rfl⟩:=ry;exact PySem.EqMixed.eq_int_str (yW I q (by simp))
  |_=>exact absurd (show false=true from hs) cI
 |str i=>
  obtain⟨t,rfl⟩:=rx;cases y with
  |non=>cases ry;exact PySem.EqNone.eq_str_none (yW I q (by simp))
  |bl j=>cases ry;exact PySem.EqMixed.eq_str_bool (yW I q (by simp))
  |int j=>obtain⟨t',rfl⟩:=ry;exact PySem.EqMixed.eq_str_int (yW I q (by simp))
  |str j=>obtain⟨t',rfl⟩:=ry;exact eq_str (yW I q gc)
  |_=>exact absurd (show false=true from hs) cI
 |byt i=>
  obtain⟨t,rfl⟩:=rx;cases y with
  |byt j=>obtain⟨t',rfl⟩:=ry;exact W.eq_bytes (yW I q gg)
  |_=>exact absurd (show false=true from hs) cI
 |_=>cases y<;>exact absurd (show false=true from hs) cI
theorem ZM:oQ X (compareOp .Lt) (cq fun i j=>.bl (decide (i<j))):=m3 fun _ _ _ _ _ _ _ q=>lt_int q
theorem op_le:oQ X (compareOp .LtE) (cq fun i j=>.bl (decide (i<=j))):=m3 fun _ _ _ _ _ _ _ q=>le_int q
theorem QA:oQ X (compareOp .Gt) (cq fun i j=>.bl (decide (j<i))):=m3 fun _ _ _ _ _ _ _ q=>gt_int q
theorem ER:oQ X (compareOp .Is) (fun x y H Q=>y=.non/\Q (.bl (decide (x=.non))) H):=by
 intro aJ s σ H x y v u Q I rx ry h;obtain⟨rfl,q⟩:=h;cases ry;refine is_none_gen (yW I q ?_);cases x<;>first
  |(cases rx;rfl)
  |(obtain⟨t,rfl⟩:=rx;rfl)
theorem di:oQ X (compareOp .IsNot) (fun x y H Q=>y=.non/\Q (.bl (!decide (x=.non))) H):=by
 intro aJ s σ H x y v u Q I rx ry h;obtain⟨rfl,q⟩:=h;cases ry;refine isnot_none_gen (yW I q ?_);cases x<;>first
  |(cases rx;rfl)
  |(obtain⟨t,rfl⟩:=rx;rfl)
theorem zU(b:Expr)(h:op≠.In:=by decide)(h2:op≠.NotIn:=by decide):behindInMarks op b=false:=by
 have e1:(op==CmpOp.In)=false:=by cases op<;>first |rfl |exact absurd rfl h
 have e2:(op==CmpOp.NotIn)=false:=by cases op<;>first |rfl |exact absurd rfl h2
 cases b<;>simp[behindInMarks,e1,e2]
theorem IG{r:R2}(ho:oQ X (compareOp op) r)(ha:PE X a ta)(hb:PE X b tb)(hm:behindInMarks op b=false):PE X (.Compare a [op] [b] pos) (tOp r ta tb):=by
 intro aJ s σ H Q I h;exact wpAny_Compare1 (qf ha hb I h fun v u s2 x y H2 I2 rx ry q=>ho aJ s2 σ H2 x y v u Q I2 rx ry q) hm
def tTest(t:TE):TT:=fun σ H Q=>t σ H fun x H'=>gw x fun k=>Q k H'
theorem zQ{r:R2}(ho:oQ X (compareOp op) r)(ha:PE X a ta)(hb:PE X b tb)(hm:behindInMarks op b=false):PT X (.Compare a [op] [b] pos) (tTest (tOp r ta tb)):=by
 intro aJ s σ H Q I h;refine wpAny_isTrue_Compare1 (eN (ha aJ s σ H _ I h) fun v s1 ⟨x,H1,I1,r1,q1⟩=>eN (hb aJ s1 σ H1 _ I1 q1) fun u s2 ⟨y,H2,I2,r2,q2⟩=>
  eN (ho aJ s2 σ H2 x y v u _ I2 r1 r2 q2) fun c s3 ⟨z,H3,I3,r3,q3⟩=>?_) hm
 replace q3:=GH q3;obtain⟨k,rfl,q3⟩:=q3;cases r3;exact fT ⟨H3,I3,q3⟩
def kh(r r':R2)(ta tb tc:TE):TE:=fun σ H Q=>ta σ H fun x H1=>tb σ H1 fun y H2=>r x y H2 fun z H3=>gw z fun k=>(if k=true then tc σ H3 fun w' H4=>r' y w' H4 Q else Q (.bl false) H3)
theorem RT{op':CmpOp}{r r':R2}(ho:oQ X (compareOp op) r)(ho':oQ X (compareOp op') r')(ha:PE X a ta)(hb:PE X b tb)(hc:PE X c tc)
 (hm:lastMarks [op,op'] [b,c]=false:=by with_unfolding_all rfl):PE X (.Compare a [op,op'] [b,c] pos) (kh r r' ta tb tc):=by
 intro aJ s σ H Q I h;refine Compare_chain (eN (ha aJ s σ H _ I h) fun v s1 ⟨x,H1,I1,r1,q1⟩=>chain_link (eN (hb aJ s1 σ H1 _ I1 q1) fun u s2 ⟨y,H2,I2,r2,q2⟩=>
  eN (ho aJ s2 σ H2 x y v u _ I2 r1 r2 q2) fun d s3 ⟨z,H3,I3,r3,q3⟩=>?_)) hm
 replace q3:=GH q3;obtain⟨k,rfl,q3⟩:=q3;cases r3;refine fT ?_;cases k with
 |false=>exact ite_ff ⟨.bl false,H3,I3,rfl,q3⟩
 |true=>exact ite_tt (chain_last (eN (hc aJ s3 σ H3 _ I3 q3) fun w' s4 ⟨z',H4,I4,r4,q4⟩=>ho' aJ s4 σ H4 y z' u w' Q I4 r2 r4 q4))
def TruV(K:W.Frag)(x:V)(H:Hp)(k:Bool):Prop:=
 match x with
 | .non=>k=false
 | .bl b=>k=b
 | .int i=>k=(i !=0)
 | .str y=>y.length<=sizeLine/\k=((y.length:Int) !=0)
 | .byt y=>y.size<=sizeLine/\k=((y.size:Int) !=0)
 | .ref p=>(∃xs,dL K H p xs/\k=!xs.isEmpty)\/(∃xs,dN K H p xs/\k=!xs.isEmpty)\/∃kvs,H p=some (.dK kvs)/\k=!kvs.isEmpty
 |_=>False
theorem FO{κ:Type}{kvs:List (κ×V)}{vs:List (κ×Value)}(r:KV kvs vs):(!vs.isEmpty)=!kvs.isEmpty:=by
 cases r<;>rfl
theorem XT(r:dD xs its):(!its.toArray.isEmpty)=!xs.isEmpty:=by
 cases r<;>simp
theorem ZC:(sizeLine:Nat)<2^63:=by rw[dE];decide
theorem j9:TruR X (fun x H Q=>∃k,TruV X.K x H k/\Q k H):=by
 intro aJ s σ H x v Q I rx h;obtain⟨k,e,q⟩:=h;have hl:=ZC;have hs:sizeLine=16777216:=dE;cases x with
 |non=>
  cases rx;have e':k=false:=e;subst e';exact truthy_none ⟨H,I,q⟩
 |bl b=>
  cases rx;have e':k=b:=e;subst e';exact fT ⟨H,I,q⟩
 |int i=>
  obtain⟨t,rfl⟩:=rx;have e':k=(i !=0):=e;subst e';exact PySem.P.truthy_int ⟨H,I,q⟩
 |str y=>
  obtain⟨t,rfl⟩:=rx;obtain⟨hy,e'⟩:y.length<=sizeLine/\k=((y.length:Int) !=0):=e;subst e';exact PySem.P.truthy_str () ⟨H,I.tok _,q⟩
 |byt y=>
  obtain⟨t,rfl⟩:=rx;obtain⟨hy,e'⟩:y.size<=sizeLine/\k=((y.size:Int) !=0):=e;subst e';exact W.truthy_bytes () ⟨H,I.tok _,q⟩
 |ref p=>
  cases rx;have e':(∃xs,dL X.K H p xs/\k=!xs.isEmpty)\/(∃xs,dN X.K H p xs/\k=!xs.isEmpty)\/∃kvs,H p=some (.dK kvs)/\k=!kvs.isEmpty:=e;rcases e' with⟨xs,hx,e'⟩ |⟨xs,hx,e'⟩ |⟨kvs,hx,e'⟩
  ·subst e';obtain⟨its,r,pl,hz⟩:=I.list hx;have eO:=r.length;exact wpAny_truthy_list pl.isList (by simp only[aQ];lia) ⟨H,I.tok _,by rw[XT r];exact q⟩
  ·subst e';obtain⟨its,r,pl,hz⟩:=I.tuple hx;have eO:=r.length;exact truthy_tuple pl (by simp only[aQ];lia) ⟨H,I.tok _,by rw[XT r];exact q⟩
  ·subst e';obtain⟨hz,hS,vs,r,m⟩:kvs.length<=sizeLine/\(p==sysModules)=false/\∃vs,KV kvs vs/\s.heap.DictOf (yA X.prog X.w) p vs:=I.hok p _ hx;have eO:kvs.length=vs.length:=eW r;exact wpAny_truthy_dict hS m () ⟨H,I.tok _,by rw[FO r];exact q⟩
 |_=>exact(show False from e).elim
theorem RG(ha:PE X a ta)(he:∀whole,isTrue a X.env whole=(do let v ←whole;standAt a.pos;holding [v] (truthy v))):
 PT X a (fun σ H Q=>ta σ H fun x H'=>∃k,TruV X.K x H' k/\Q k H'):=by
 intro aJ s σ H Q I h;exact isTrue_plain (eN (ha aJ s σ H _ I h) fun v s1 ⟨x,H1,I1,r1,q1⟩=>j9 aJ s1 σ H1 x v Q I1 r1 q1) (he _)
theorem XL:oQ X (binaryOp .Add) (fun x y H Q=>∃i j,x=.str i/\y=.str j/\i.length+j.length<=sizeLine/\Q (.str (i++j)) H):=by
 intro aJ s σ H x y v u Q I rx ry h;obtain⟨i,j,rfl,rfl,hz,q⟩:=h;obtain⟨t,rfl⟩:=rx;obtain⟨t',rfl⟩:=ry;exact add_str (fun t' tk=>⟨.str (i++j),H,I.tok _,⟨_,rfl⟩,q⟩) hz
theorem uI{x:V}(r:dD [x] us):∃u,us=[u]/\RelV x u:=by
 cases r with
 |cons r1 r2=>cases r2;exact⟨_,rfl,r1⟩
theorem vals2{x:V}(r:dD [x,y] us):∃u w',us=[u,w']/\RelV x u/\RelV y w':=by
 cases r with
 |cons r1 r2=>
  cases r2 with
  |cons r3 r4=>cases r4;exact⟨_,_,rfl,r1,r3⟩
def im(K:W.Frag)(x:V)(H:Hp)(n:Nat):Prop:=
 match x with
 | .str y=>y.length<=sizeLine/\n=y.length
 | .byt y=>y.size<=sizeLine/\n=y.size
 | .ref p=>(∃xs,dL K H p xs/\n=xs.length)\/∃xs,dN K H p xs/\n=xs.length
 |_=>False
theorem yJ:qL X (.builtin "len") (fun xs H Q=>pF xs fun x=>∃n,im X.K x H n/\Q (.int n) H):=by
 intro aJ s σ H xs us Q I r h;replace h:=wD h;obtain⟨x,rfl,n,e,q⟩:=h;obtain⟨u,rfl,rx⟩:=uI r;have hl:=ZC;have hs:sizeLine=16777216:=dE;cases x with
 |str y=>
  obtain⟨t,rfl⟩:=rx;obtain⟨hy,e'⟩:y.length<=sizeLine/\n=y.length:=e;subst e';exact len_str () ⟨.int _,H,I.tok _,⟨_,rfl⟩,q⟩
 |byt y=>
  obtain⟨t,rfl⟩:=rx;obtain⟨hy,e'⟩:y.size<=sizeLine/\n=y.size:=e;subst e';exact W.len_bytes () ⟨.int _,H,I.tok _,⟨_,rfl⟩,q⟩
 |ref p=>
  cases rx;have e':(∃xs,dL X.K H p xs/\n=xs.length)\/∃xs,dN X.K H p xs/\n=xs.length:=e;rcases e' with⟨xs,hx,e'⟩ |⟨xs,hx,e'⟩
  ·subst e';obtain⟨its,r',pl,hz⟩:=I.list hx;have eO:=r'.length;exact Calls.call_len_list pl.isList (by simp only[aQ];lia) ⟨.int xs.length,H,I.tok _,⟨_,by simp only[aQ];rw[eO]⟩,q⟩
  ·subst e';obtain⟨its,r',pl,hz⟩:=I.tuple hx;have eO:=r'.length;exact len_tuple pl (by simp only[aQ];lia) ⟨.int xs.length,H,I.tok _,⟨_,by simp only[aQ];rw[eO]⟩,q⟩
 |_=>exact(show False from e).elim
end
structure GO(h:Heap)(x dx C:Addr)(mA:Str->Option Value):Prop where
 obj:h.get? x=some (W.instObj C dx)
 ns:h.Ns1 dx mA
 ne:dx≠x
theorem MP{dx:Addr}(n:h.Ns1 dx mA):∃od,h.get? dx=some od/\∀name,W.lookIn name od=some (mA name):=by
 obtain⟨o,es,ep,ho,hd,hk,_,hm⟩:=n;refine⟨o,ho,fun name=>?_⟩;have e:=hm name;unfold nsFind findBy at e;rw[←Array.find?_toList]at e;unfold W.lookIn;rw[hd];dsimp only;split
 ·rename_i y q
  rw[q]at e;exact dH some e
 ·rename_i q
  rw[q]at e;have a:es.toList.any (·.refKey)=false:=by
   rw[List.any_eq_false];intro y hy;obtain⟨z,t,hkey⟩:=hk y (Array.mem_toList_iff.mp hy);simp[DictEntry.refKey,hkey]
  have a':¬es.toList.any (·.refKey)=true:=by rw[a];exact cI
  rw[aH a'];exact dH some e
theorem GO.look{x dx C:Addr}(I:GO h x dx C mA):∃od,W.InstAt h x (W.instObj C dx) C (some od)/\∀name,W.lookIn name od=some (mA name):=
 let ⟨od,ho,hl⟩:=MP I.ns
 ⟨od,⟨I.obj,rfl,rfl,ho⟩,hl⟩
section
variable {x dx C:Addr} {name:Str} {v:Value}
theorem fz{expr:Bool}(X:K.In s.heap)(I:GO s.heap x dx C mA)(hg:W.plainGet K C name=true)(hh:W.hasDictIn K C=true)
 (ha:W.findIn K (.ref C) name=some none) (hv:mA name=some v) (hv':W.handedIn v=true) (h:Q v {s with toks:=s.toks+1}):
 wpAny (model prog w) A (getAttr (.ref x) name expr) Q E s:=by
 obtain⟨od,J,hl⟩:=I.look;exact W.get_value X J (sS hg).1 (W.findObj_own hh ha rfl (by rw[hl,hv])) hv' h
theorem TV{pl:Sem Bool}{Q:Value×List Value->Shared->Prop}(X:K.In s.heap)(I:GO s.heap x dx C mA)(hg:W.plainGet K C name=true)
 (hf:W.findIn K (.ref C) name=some (some (.ref f))) (ht:W.isFn K (.ref f)=true) (hv:mA name=none) (h:Q (.ref f,[.ref x]) s):
 wpAny (model prog w) A (getMethod (.ref x) name pl) Q E s:=by
 obtain⟨od,J,hl⟩:=I.look;exact W.method_fn X J (sS hg).1 (sS hg).2 hf (cQ.mp ht) (by show(W.lookIn name od).map (·.isSome)=some false;rw[hl,hv];rfl) h
theorem bn{Q:Unit->Shared->Prop}(X:K.In s.heap)(I:GO s.heap x dx C mA)
 (hs:W.findIn K (.ref C) "__setattr__"=some (some (.builtin "object.__setattr__"))) (hp:W.plainOver K C=true) (ht:W.takerIn K C name=some none) (hh:W.hasDictIn K C=true)
 (hw:PySem.Within mA ns) (hsz:ns.length<=sizeLine)
 (h:∀h',GO h' x dx C (fun y=>if y=name then some v else mA y)->Heap.SameBut dx s.heap h'->Q Unit.unit {s with heap:=h',toks:=s.toks+2}):
 wpAny (model prog w) A (setAttr (.ref x) name v) Q E s:=by
 obtain⟨od,J,hl⟩:=I.look;refine W.set_plain X J hs (W.osa_open (s:={s with toks:=s.toks+1}) (r:=none) X J hp ht fun b=>?_);obtain⟨cd,hc,hd'⟩:=W.any_some hh;have hx:s.heap.get? x=some ⟨.ref C,some dx,.plain,#[]⟩:=I.obj;refine aF (aR (aF (aF (wpAny_loadPart hx (aF (W.Looks.here (s:={s with toks:=s.toks+1}) (W.looks_clsIn X hc) ?_))))));rw[hd'];refine aR (a:=some dx) (aF (aR (aF ?_)));refine wpAny_nsSet1 (s:={s with toks:=s.toks+1}) I.ns fun h' hn2 hs2=>?_
 obtain⟨oD,esD,epD,hoD,hdD,hcD⟩:=hn2.count (PySem.Within.cons name v hw);refine aF (wpAny_lookBehind hoD (by rw[hdD];exact pastItsLine_dict (cP hcD (by rw[bD];lia))) ?_);exact aR (h _ ⟨(hs2.2 _ (cJ I.ne)).trans I.obj,hn2,I.ne⟩ hs2)
theorem SV{vs:List Value}(X:K.In s.heap)(hm:W.makesIn K C=true)
 (hi:W.findIn K (.ref C) "__init__"=some (some (.ref f))) (hf:W.typeIn K (.ref f)=some (.type "function"))
 (h:codeAny (model prog w) (A.under (.builtin "type.__call__" ⟨.ref C::vs,kw⟩)) (.call (.ref f) ⟨.ref (s.heap.objs.size+1)::vs,kw⟩) (W.InitBack (s.heap.objs.size+1) R)
  {s with heap:=(s.heap.push W.emptyDict).push (W.instObj C s.heap.objs.size)}):
 codeAny (model prog w) A (.call (.ref C) ⟨vs,kw⟩) R s:=by
 obtain⟨hh,g,d,t,os⟩:=s;exact W.make_core (W.makes_of X hm) (W.looks_findIn X hi) (fun self=>W.bind_fn X self hf) (.inl rfl) h
end
def xC(f:Str)(v:V):List (Str×V)->List (Str×V)
 |[]=>[(f,v)]
 |(g,x)::r=>if g=f then(g,v)::r else(g,x)::xC f v r
theorem ZN(f g:Str)(v:V):∀fs:List (Str×V),(xC f v fs).lookup g=if g=f then some v else fs.lookup g
 |[]=>by
  show List.lookup g [(f,v)]=_;by_cases h:g=f
  ·have hb:(g==f)=true:=cQ.mpr h;simp only[List.lookup,hb,aL h]
  ·have hb:(g==f)=false:=cV.mpr h;simp only[List.lookup,hb,aH h]
 |(k,x)::r=>by
  have ih:=ZN f g v r;rw[show xC f v ((k,x)::r)=(if k=f then(k,v)::r else(k,x)::xC f v r)from rfl];by_cases hk:k=f
  ·rw[aL hk];by_cases h:g=k
   ·have hb:(g==k)=true:=cQ.mpr h;simp only[List.lookup,hb,aL (h.trans hk)]
   ·have hb:(g==k)=false:=cV.mpr h;simp only[List.lookup,hb,aH (fun e:g=f=>h (e.trans hk.symm))]
  ·rw[aH hk];by_cases h:g=k
   ·have hb:(g==k)=true:=cQ.mpr h;simp only[List.lookup,hb,aH (fun e:g=f=>hk (h.symm.trans e))]
   ·have hb:(g==k)=false:=cV.mpr h;simp only[List.lookup,hb];exact ih
theorem ZE(f:Str)(v:V):∀fs:List (Str×V),f∈(xC f v fs).map (·.1)/\∀g,g∈fs.map (·.1)->g∈(xC f v fs).map (·.1)
 |[]=>⟨by simp[xC],fun g h=>by simp at h⟩
 |(k,x)::r=>by
  obtain⟨i1,i2⟩:=ZE f v r;rw[show xC f v ((k,x)::r)=(if k=f then(k,v)::r else(k,x)::xC f v r)from rfl];by_cases hk:k=f
  ·rw[aL hk];subst hk;exact⟨by simp,fun g h=>by simpa using h⟩
  ·rw[aH hk];refine⟨?_,fun g h=>?_⟩
   ·rw[cF];exact bE _ i1
   ·rw[cF]at h⊢;rcases bJ.mp h with e |e
    ·exact bJ.mpr (.inl e)
    ·exact bE _ (i2 g e)
theorem ZO(f:Str)(v:V):∀fs:List (Str×V),(xC f v fs).length<=fs.length+1
 |[]=>by simp[xC]
 |(k,x)::r=>by
  have ih:=ZO f v r;rw[show xC f v ((k,x)::r)=(if k=f then(k,v)::r else(k,x)::xC f v r)from rfl];by_cases hk:k=f
  ·rw[aL hk,bD,bD];lia
  ·rw[aH hk,bD,bD];lia
theorem mN.some_of{o:Option Value}(r:mN (some v) o):∃u,o=some u/\RelV v u:=by
 cases o with
 |none=>exact(show False from r).elim
 |some u=>exact⟨u,rfl,r⟩
theorem mN.none_of{o:Option Value}(r:mN none o):o=none:=by
 cases o with
 |none=>rfl
 |some u=>exact(show False from r).elim
theorem MX(r:RelV v u):W.handedIn u=true:=by
 cases v with
 |non=>cases (show u=Value.none from r);rfl
 |bl b=>cases (show u=Value.bool b from r);rfl
 |int i=>obtain⟨t,e⟩:=(show∃t,u=Value.int i t from r);cases e;rfl
 |str x=>obtain⟨t,e⟩:=(show∃t,u=Value.str x t from r);cases e;rfl
 |byt b=>obtain⟨t,e⟩:=(show∃t,u=Value.bytes b t from r);cases e;rfl
 |flt b=>obtain⟨t,e⟩:=(show∃t,u=Value.float b t from r);cases e;rfl
 |ref a=>cases (show u=Value.ref a from r);rfl
 |ty n=>cases (show u=Value.type n from r);rfl
section
variable {C dx:Addr} {fs fs':List (Str×V)}
theorem YN(hok:mO P w H h)(e:H a=some (.ins C dx fs)):∃mA,GO h a dx C mA/\(∀f,mN (fs.lookup f) (mA f))/\PySem.Within mA (fs.map (·.1))/\fs.length<=1000/\H dx=some (.own a):=by
 obtain⟨d,z,ne,ob,mA,n,r,q⟩:=(show fA P w H h a (.ins C dx fs)from hok a _ e)
 exact⟨mA,⟨ob,n,ne⟩,r,q,z,d⟩
end
structure LF(K:W.Frag)(C:Addr):Prop where
 pg:W.plainGet K C Str.empty=true
 hd:W.hasDictIn K C=true
 po:W.plainOver K C=true
 sa:W.findIn K (.ref C) "__setattr__"=some (some (.builtin "object.__setattr__"))
theorem LF.get{C:Addr}(c:LF K C)(f:Str):W.plainGet K C f=true:=c.pg
def lE(K:W.Frag)(C:Addr)(f:Str):Prop:=W.findIn K (.ref C) f=some none
theorem lE.taker{C:Addr}{f:Str}(n:lE K C f):W.takerIn K C f=some none:=by
 unfold W.takerIn;rw[show W.findIn K (.ref C) f=some none from n];rfl
structure Con(K:W.Frag)(C:Addr)(f:Str)(v:V)(u:Value):Prop where
 at_:W.findIn K (.ref C) f=some (some u)
 mT:RelV v u
 get:W.specialIn K u "__get__"=some none
 cp:W.copiedNames.contains f=false
structure pI(K:W.Frag)(C:Addr)(m:Str)(f:Addr):Prop where
 at_:W.findIn K (.ref C) m=some (some (.ref f))
 fn:W.isFn K (.ref f)=true
 kp:W.keepIn K (.ref f)=true
section
variable {C dx:Addr} {fs:List (Str×V)} {f:Str}
theorem FT{b:Bool}(I:Inv X aJ σ H s)(e:H a=some (.ins C dx fs))(c:LF X.K C)(n:lE X.K C f)(l:fs.lookup f=some v)
 (h:∀u s',Inv X aJ σ H s'->RelV v u->Q u s'):wpAny (model X.prog X.w) A (getAttr (.ref a) f b) Q E s:=by
 obtain⟨mA,O,r,_,_,_⟩:=YN I.hok e;obtain⟨u,hu,ru⟩:=mN.some_of (v:=v) (o:=mA f) (by rw[←l];exact r f);exact fz I.kIn O (c.get f) c.hd n hu (MX ru) (h u _ (I.tok _) ru)
theorem FS{m:Str}{g:Addr}{pl:Sem Bool}{Q:Value×List Value->Shared->Prop}(I:Inv X aJ σ H s)(e:H a=some (.ins C dx fs))(c:LF X.K C)(k:pI X.K C m g)(l:fs.lookup m=none)
 (h:Q (.ref g,[.ref a]) s):wpAny (model X.prog X.w) A (getMethod (.ref a) m pl) Q E s:=by
 obtain⟨mA,O,r,_,_,_⟩:=YN I.hok e;have hn:mA m=none:=mN.none_of (by rw[←l];exact r m);exact TV I.kIn O (c.get m) k.at_ k.fn hn h
theorem EA{Q:Unit->Shared->Prop}(I:Inv X aJ σ H s)(e:H a=some (.ins C dx fs))(c:LF X.K C)(n:lE X.K C f)(hl:fs.length<1000)(ry:RelV y u)
 (h:∀s',Inv X aJ σ (upd H a (.ins C dx (xC f y fs))) s'->Q Unit.unit s'):wpAny (model X.prog X.w) A (setAttr (.ref a) f u) Q E s:=by
 obtain⟨mA,O,r,wi,_,ho⟩:=YN I.hok e;have hz:(fs.map (·.1)).length<=sizeLine:=by rw[aE,dE];lia
 refine bn I.kIn O c.sa c.po n.taker c.hd wi hz fun h' O' sb=>h _ ?_
 have hd:∃o,h'.get? dx=some o:=let ⟨o,_,_,e',_⟩:=O'.ns;⟨o,e'⟩;refine I.write (x:=a) (e:=dx) (by rw[e];exact True.intro) (.inr ho) (fun b q hb z=>(sb.2 b hb).trans z) hd ?_;refine⟨by rw[zJ O.ne];exact ho,?_,O.ne,O'.obj,_,O'.ns,fun g=>?_,fun g hg=>?_⟩
 ·have :=ZO f y fs;lia
 ·show mN ((xC f y fs).lookup g) (if g=f then some u else mA g);rw[ZN];by_cases q:g=f
  ·rw[aL q,aL q];exact ry
  ·rw[aH q,aH q];exact r g
 ·by_cases q:g=f
  ·rw[q];exact(ZE f y fs).1
  ·refine(ZE f y fs).2 g (wi g fun z=>hg ?_);show(if g=f then some u else mA g)=none;rw[aH q];exact z
theorem Inv.made(I:Inv X aJ σ H s):Inv X aJ σ (upd (upd H s.heap.objs.size (.own (s.heap.objs.size+1))) (s.heap.objs.size+1) (.ins C s.heap.objs.size []))
 {s with heap:=(s.heap.push W.emptyDict).push (W.instObj C s.heap.objs.size)}:=by
 have e1:(s.heap.push W.emptyDict).get? s.heap.objs.size=some W.emptyDict:=bT s.heap rfl;have e2:((s.heap.push W.emptyDict).push (W.instObj C s.heap.objs.size)).get? (s.heap.objs.size+1)=some (W.instObj C s.heap.objs.size):=by
  have :=bT (s.heap.push W.emptyDict) (o:=W.instObj C s.heap.objs.size) rfl;rwa[Heap.size_push]at this
 have e3:(s.heap.push W.emptyDict).Ns s.heap.objs.size (fun _=>none):=⟨W.emptyDict,#[],_,e1,rfl,(fun e he=>absurd he (by simp)),fun _=>rfl⟩
 have I1:=I.laid (a:=s.heap.objs.size) (o:=.own (s.heap.objs.size+1)) (h':=s.heap.push W.emptyDict) (t':=s.toks) (fun b u q=>aP _ q) (aG _) ⟨_,e1⟩;refine I1.laid (a:=s.heap.objs.size+1) (o:=.ins C s.heap.objs.size []) (t':=s.toks) (fun b u q=>aP _ q) (Nat.le_of_eq (Heap.size_push _ _)) ?_;have ne:s.heap.objs.size≠s.heap.objs.size+1:=bS (NO _);refine⟨by rw[zJ ne,zB],cG _,ne,e2,fun _=>none,(Heap.Ns1.of_empty e3).at fun o q=>aP _ q,fun _=>True.intro,fun y hy=>absurd rfl hy⟩
theorem gu{env:Env}{f:Str}{pos:Pos}(hb:attributeBase e f env (eval e env)=eval e env)
 (h:wpAny (model prog w) A (eval e env) (fun o s₁=>wpAny (model prog w) A (getAttr o f true) Q E s₁) E s):wpAny (model prog w) A (eval (.Attribute e f pos) env) Q E s:=
 Attribute_any_ h (by rw[arm_eval_Attribute,hb])
end
def jA(K:W.Frag)(ta:TE)(f:Str):TE:=fun σ H Q=>ta σ H fun x H1=>mL x fun a=>∃C dx fs,H1 a=some (.ins C dx fs)/\LF K C/\lE K C f/\∃v,fs.lookup f=some v/\Q v H1
def ED(K:W.Frag)(ta tv:TE)(f:Str):TS:=fun D σ H=>tv σ H fun y H1=>ta σ H1 fun x H2=>mL x fun a=>∃C dx fs,H2 a=some (.ins C dx fs)/\LF K C/\lE K C f/\fs.length<1000/\
 D.nx σ (upd H2 a (.ins C dx (xC f y fs)))
section
variable {value:Expr} {f:Str} {pos tpos:Pos} {tv:TE}
theorem xD(he:PE X e ta)(hb:attributeBase e f X.env (eval e X.env)=eval e X.env):PE X (.Attribute e f pos) (jA X.K ta f):=by
 intro aJ s σ H Q I h;refine gu hb (eN (he aJ s σ H _ I h) fun u s1 ⟨x,H1,I1,rx,q⟩=>?_);replace q:=xJ q;obtain⟨a,rfl,C,dx,fs,ea,c,n,v,l,q⟩:=q;obtain rfl:u=Value.ref a:=rx;exact FT I1 ea c n l fun u' s2 I2 ru=>⟨v,H1,I2,ru,q⟩
theorem kW(ha:PE X o ta)(hv:PE X value tv)(hs:swapsWith value (some (.Attribute o f pos')) pos.line X.env=pure false):PS X (.Assign [.Attribute o f pos'] value pos) (ED X.K ta tv f):=by
 intro aJ s σ H D I h;refine plainObj_wpAny_Assign_Attribute (eN (hv aJ s σ H _ I h) fun u s1 ⟨y,H1,I1,ry,q⟩=>eN (ha aJ s1 σ H1 _ I1 q) fun ov s2 ⟨x,H2,I2,rx,q2⟩=>?_) hs;replace q2:=xJ q2;obtain⟨a,rfl,C,dx,fs,ea,c,n,l,q2⟩:=q2;obtain rfl:ov=Value.ref a:=rx;exact EA I2 ea c n l ry fun s3 I3=>⟨σ,_,I3,q2⟩
end
section
variable {c:Value} {b:Bool}
inductive pG (K:W.Frag) (H:Hp):V->Value->Prop where
 |non:pG K H .non (.type "NoneType")
 |bl (x:Bool):pG K H (.bl x) (.type "bool")
 |int (i:Int):pG K H (.int i) (.type "int")
 |str (x:Str):pG K H (.str x) (.type "str")
 |flt (x:UInt64):pG K H (.flt x) (.type "float")
 |lst {a:Addr} {xs:List V} (e:H a=some (.lst xs)):pG K H (.ref a) (.type "list")
 |frz {a:Addr} {o:Obj} {xs:List V} (e:H a=some (.frz o (.lst xs))):pG K H (.ref a) (.type "list")
 |tup {a:Addr} {xs:List V} (e:H a=some (.tup xs)):pG K H (.ref a) (.type "tuple")
 |dK {a:Addr} {kvs:List (eL×V)} (e:H a=some (.dK kvs)):pG K H (.ref a) (.type "dict")
 |dT {a:Addr} {kvs:List (List eL×V)} (e:H a=some (.dT kvs)):pG K H (.ref a) (.type "dict")
 |ins {a C dx:Addr} {fs:List (Str×V)} (e:H a=some (.ins C dx fs)) (cl:LF K C) (ha:W.findIn K (.ref C) "__class__"=some (some (.builtin "object.__class__")))
  (hn:W.specialIn K (.builtin "object.__class__") "__get__"=some (some (.builtin "getset_descriptor.__get__"))) (htk:W.takesIn K (.builtin "object.__class__")=some true)
  (hm:W.mroIn K C (.type "object")=some true):pG K H (.ref a) (.ref C)
theorem MU{x:V}{t:Value}(I:Inv X aJ σ H s)(rx:RelV x u)(ty:pG X.K H x t)(e:W.kitOne X.K t c=some b)(h:∀tk,Q (.bool b) {s with toks:=tk}):
 wpAny (model X.prog X.w) A (call (.builtin "isinstance") [u,c]) Q E s:=by
 cases ty with
 |non=>cases (show u=Value.none from rx);exact eP W.kitx_none I.kIn True.intro e (fun z=>nomatch z) h
 |bl y=>cases (show u=Value.bool y from rx);exact eP W.kitx_bool I.kIn True.intro e (fun z=>nomatch z) h
 |int i=>obtain⟨t,q⟩:=(show∃t,u=Value.int i t from rx);cases q;exact eP W.kitx_int I.kIn True.intro e (fun z=>nomatch z) h
 |str y=>obtain⟨t,q⟩:=(show∃t,u=Value.str y t from rx);cases q;exact eP W.kitx_str I.kIn True.intro e (fun z=>nomatch z) h
 |flt y=>obtain⟨t,q⟩:=(show∃t,u=Value.float y t from rx);cases q;exact eP W.kitx_float I.kIn True.intro e (fun z=>nomatch z) h
 |@lst a xs ea=>
  cases (show u=Value.ref a from rx);obtain⟨_,_,n,_,h1⟩:=(show fA X.prog X.w H s.heap a (.lst xs)from I.hok a _ ea)
  exact eP W.kitx_list I.kIn ⟨_,h1,rfl⟩ e (fun z=>nomatch z) h
 |@frz a ob xs ea=>
  cases (show u=Value.ref a from rx);obtain⟨_,_,_,n,_,h1⟩:=(show fA X.prog X.w H s.heap a (.frz ob (.lst xs))from I.hok a _ ea)
  exact eP W.kitx_list I.kIn ⟨_,h1,rfl⟩ e (fun z=>nomatch z) h
 |@tup a xs ea=>
  cases (show u=Value.ref a from rx);obtain⟨_,_,_,p⟩:=(show fA X.prog X.w H s.heap a (.tup xs)from I.hok a _ ea)
  obtain⟨o,h1,h2,_⟩:=p;exact eP W.kitx_tuple I.kIn ⟨o,h1,h2⟩ e (fun z=>nomatch z) h
 |@dK a kvs ea=>
  cases (show u=Value.ref a from rx);obtain⟨_,_,vs,_,p⟩:=(show fA X.prog X.w H s.heap a (.dK kvs)from I.hok a _ ea)
  obtain⟨o,es,ep,h1,h2,_⟩:=p;exact eP W.kitx_dict I.kIn ⟨o,h1,h2.1⟩ e (fun z=>nomatch z) h
 |@dT a kvs ea=>
  cases (show u=Value.ref a from rx);obtain⟨_,_,xs,_,o,es,ep,h1,h2,_⟩:=(show fA X.prog X.w H s.heap a (.dT kvs)from I.hok a _ ea)
  exact eP W.kitx_dict I.kIn ⟨o,h1,h2.1⟩ e (fun z=>nomatch z) h
 |@ins a C dx fs ea cl ha hn htk hm=>
  cases (show u=Value.ref a from rx);obtain⟨mA,O,_⟩:=YN I.hok ea;obtain⟨od,J,_⟩:=O.look;exact eP (W.kitx_own (cl.get _) cl.hd ha hn htk hm) I.kIn J e (fun z=>nomatch z) h
end
structure hZ(k:Nat)(A:Around):Prop where
 hd:A.handled=none
 dp:A.depth+3*k+5<recursionLimit
 un:A.units+16*k+200<cLine
theorem hZ.mono{k:Nat}(r:hZ k A)(h:j<=k):hZ j A:=⟨r.hd,by have :=r.dp;lia,by have :=r.un;lia⟩
theorem hZ.deeper{k:Nat}(r:hZ (k+1) A)(env:Env):hZ k (A.deeper env):=
 ⟨r.hd,by have :=r.dp;show A.depth+1+3*k+5<_;lia,by have :=r.un;show A.units+3+16*k+200<_;lia⟩
theorem FK{C:Addr}:(A.under (.builtin "type.__call__" ⟨.ref C::us,kw⟩)).depth=A.depth+1:=by
 first |rfl |simp[Around.under,Code.weight,Code.isCreation,Code.isGuard,Code.isCaller,Code.frames,Code.isFrame,guardIds]
theorem FJ{C:Addr}:(A.under (.builtin "type.__call__" ⟨.ref C::us,kw⟩)).units=A.units+1:=by
 first |rfl |simp[Around.under,Code.cUnits,Code.frames,Code.isFrame]
theorem hZ.make{k:Nat}(r:hZ (k+1) A)(C:Addr)(us:List Value)(kw:List (Str×Value)):hZ k (A.under (.builtin "type.__call__" ⟨.ref C::us,kw⟩)):=
 ⟨r.hd,by have :=r.dp;rw[FK];lia,by have :=r.un;rw[FJ];lia⟩
theorem hZ.depth{k:Nat}(r:hZ k A):A.depth<recursionLimit:=by have :=r.dp;lia
theorem hZ.units{k:Nat}(r:hZ k A):A.units+64<cLine:=by have :=r.un;lia
def tNil:TA:=fun _ H Q=>Q [] H
def tCons(ta:TE)(tr:TA):TA:=fun σ H Q=>ta σ H fun x H1=>tr σ H1 fun xs H2=>Q (x::xs) H2
section
variable {t:TA} {pos:Pos}
theorem zC:PA X [] tNil:=fun _ _ _ _ H Q I h=>nK ⟨[],H,I,.nil,h⟩
theorem zA(ha:PE X e te)(hr:PA X es t)(hs:starEach (e::es) X.env=(false,eval e X.env)::starEach es X.env:=by rfl):PA X (e::es) (tCons te t):=by
 intro pos aJ s σ H Q I h;rw[hs];show wpAny _ _ (spliced ((false,eval e X.env)::backTo pos (starEach es X.env))) _ _ s;refine gQ (eN (ha aJ s σ H _ I h) fun u s1 ⟨x,H1,I1,r1,q1⟩=>?_);exact eN (hr pos aJ s1 σ H1 _ I1 q1) fun us s2 ⟨xs,H2,I2,r2,q2⟩=>⟨x::xs,H2,I2,.cons r1 r2,q2⟩
def tTup(t:TA):TE:=fun σ H Q=>t σ H fun xs H1=>xs.length<=sizeLine/\∀p,H1 p=none->Q (.ref p) (upd H1 p (.tup xs))
def tLst(t:TA):TE:=fun σ H Q=>t σ H fun xs H1=>xs.length<=sizeLine/\∀p,H1 p=none->Q (.ref p) (upd H1 p (.lst xs))
theorem zN{x1}(h:PA X es t):PE X (.Tuple es x1 pos) (tTup t):=by
 intro aJ s σ H Q I hq;refine wpAny_Tuple_spliced (eN (h pos aJ s σ H _ I hq) fun us s1 ⟨xs,H1,I1,r,z,q⟩=>⟨by rw[←r.length];exact z,?_⟩);have hf:H1 s1.heap.objs.size=none:=I1.hok.fresh (aG _);refine⟨.ref s1.heap.objs.size,upd H1 s1.heap.objs.size (.tup xs),I1.laid (t':=s1.toks) (fun b u e=>aP _ e) (aG _) ?_,rfl,q _ hf⟩;exact⟨z,us,r,⟨_,bT _ rfl,rfl,_,rfl⟩⟩
theorem yV(h:PA X es t):PE X (.List es pos) (tLst t):=by
 intro aJ s σ H Q I hq;refine wpAny_List_spliced (eN (h pos aJ s σ H _ I hq) fun us s1 ⟨xs,H1,I1,r,z,q⟩=>⟨by rw[←r.length];exact z,?_⟩);have hf:H1 s1.heap.objs.size=none:=I1.hok.fresh (aG _);refine⟨.ref s1.heap.objs.size,upd H1 s1.heap.objs.size (.lst xs),I1.laid (t':=s1.toks) (fun b u e=>aP _ e) (aG _) ?_,rfl,q _ hf⟩;exact⟨z,us,0,r,bT _ rfl⟩
end
abbrev Sp:=List V->Hp->VK->XK->Prop
abbrev jw:=List Env->Hp->Shared->XK->Value->Shared->Prop
structure GP(P:Program)(w:World)(K:W.Frag)(mg:Str->Option Value)(base:Heap)(A:Around)(outer:List Env)(s:Shared)(H:Hp):Prop where
 frames:A.frames=some outer
 mod:Mod K mg base
 bs:∀b o,base.get? b=some o->s.heap.get? b=some o/\H b=none
 bsz:base.objs.size<=s.heap.objs.size
 funs:s.heap.FunFrames base outer
 frf:∀b∈FW outer,H b=none
 hok:mO P w H s.heap
 bare:AllBare s.gens
def CE(outer:List Env)(P:Program)(w:World)(H:Hp)(s:Shared)(Q:VK)(u:Value)(s':Shared):Prop:=
 ∃v H',s'.os=s.os/\AllBare s'.gens/\Un (FW outer) [] H H' s.heap s'.heap/\mO P w H' s'.heap/\RelV v u/\Q v H'
def CR(CX:jw)(outer:List Env)(P:Program)(w:World)(H:Hp)(s:Shared)(Q:VK)(E:XK)(r:Result)(s':Shared):Prop:=
 match r with
 | .ok (.ret u)=>CE outer P w H s Q u s'
 | .ok _=>False
 | .error e=>CX outer H s E e s'
structure dI(P:Program)(w:World)(K:W.Frag)(mg:Str->Option Value)(base:Heap)(CX:jw)(k:Nat)(f:Addr)(fd:FuncData)(ps:List Str)(sp:Sp):Prop where
 len:∀vs H Q E,sp vs H Q E->vs.length=ps.length
 run:∀(A:Around)(outer:List Env)(s:Shared)(H:Hp)(args:Args)(us:List Value)(vs:List V)(Q:VK)(E:XK),hZ k A->GP P w K mg base A outer s H->BindsTo s fd args (ps.zip us)->dD vs us->sp vs H Q E->
  codeAny (model P w) A (.call (.ref f) args) (CR CX outer P w H s Q E) s
theorem dI.mono{k:Nat}(F:dI P w K mg base CX j f fd ps sp)(h:j<=k):
 dI P w K mg base CX k f fd ps sp:=⟨F.len,fun A outer s H args us vs Q E hr=>F.run A outer s H args us vs Q E (hr.mono h)⟩
theorem GP.make(e:GP P w K mg base A outer s H)(C:Addr)(us:List Value)(kw:List (Str×Value)):
 GP P w K mg base (A.under (.builtin "type.__call__" ⟨.ref C::us,kw⟩)) outer s H:=⟨by first |exact e.frames |(simpa[Around.under,Code.envs,Code.isFrame,pushEnvs]using e.frames),e.mod,e.bs,e.bsz,e.funs,e.frf,e.hok,e.bare⟩
section
variable {s':Shared}
theorem Inv.env0(I:Inv X aJ σ H s):GP X.prog X.w X.K X.mg X.base X.A X.stack s H:=
 ⟨I.ok.frames,I.ok.mod,I.bs,cP I.ok.bsz I.sz,I.stack,I.stkFree,I.hok,I.bare⟩
theorem Inv.after{Q:VK}(I:Inv X aJ σ H s)(h:CE X.stack X.prog X.w H s Q u s'):EP X aJ σ Q u s':=by
 obtain⟨v,H',os,bare,un,hok,r,q⟩:=h;obtain⟨hh,g,d,t,os'⟩:=s';obtain rfl:os'=s.os:=os;exact⟨v,H',I.call (h':=hh) (g':=g) (d':=d) (t':=t) (ch:=[]) un hok bare (fun b z=>absurd z (by simp)),r,q⟩
end
def OQ(sp:Sp)(dvs:List V)(E:XK)(t:TA):TE:=fun σ H Q=>t σ H fun vs H1=>sp (vs++dvs) H1 Q E
def yT(C:Addr)(m:Str)(sp:Sp)(dvs:List V)(E:XK)(ta:TE)(t:TA):TE:=fun σ H Q=>ta σ H fun x H1=>mL x fun a=>∃dx fs,H1 a=some (.ins C dx fs)/\fs.lookup m=none/\
 t σ H1 fun vs H2=>sp (x::(vs++dvs)) H2 Q E
def HF(C:Addr)(sp:Sp)(dvs:List V)(E:XK)(t:TA):TE:=fun σ H Q=>t σ H fun vs H1=>∀x dx,H1 x=none->H1 dx=none->dx≠x->
 sp (.ref x::(vs++dvs)) (upd (upd H1 dx (.own x)) x (.ins C dx [])) (fun v H2=>v=.non/\Q (.ref x) H2) E
def Binds(K:W.Frag)(fd:FuncData)(ps:List Str)(ds:List Value):Prop:=
 ∀(s:Shared)(us:List Value),K.In s.heap->(us++ds).length=ps.length->BindsTo s fd ⟨us,[]⟩ (ps.zip (us++ds))
theorem Binds.all(h:∀us:List Value,us.length=ps.length->bindArgs fd ⟨us,[]⟩=pure (ps.zip us)):Binds K fd ps []:=fun s us _ hl=>by
 rw[cM]at hl⊢;exact .of_eq (h us hl)
def ZK(CX:jw)(X:Cx)(E:XK):Prop:=∀(aJ:List (Addr×Obj))(σ:St)(H:Hp)(s:Shared)(e:Value)(s':Shared),Inv X aJ σ H s->CX X.stack H s E e s'->X.xe e s'
section
variable {k:Nat} {C:Addr} {dvs:List V} {ds:List Value} {E:XK} {x m:Str} {p pos:Pos} {t:TA}
theorem EE{Q:VK}(F:dI X.prog X.w X.K X.mg X.base CX k f fd ps sp)(hr:hZ k X.A)(hb:Binds X.K fd ps ds)(hd:dD dvs ds)(hx:ZK CX X E)
 (I:Inv X aJ σ H s) (r:dD vs us) (h:sp (vs++dvs) H Q E):wpAny (model X.prog X.w) X.A (call (.ref f) us) (EP X aJ σ Q) X.xe s:=by
 have r2:dD (vs++dvs) (us++ds):=r.append hd;have hl:(us++ds).length=ps.length:=by rw[←r2.length];exact F.len _ _ _ _ h
 refine wpAny_call (iy (F.run X.A X.stack s H ⟨us,[]⟩ (us++ds) (vs++dvs) Q E hr I.env0 (hb s us I.kIn hl) r2 h) fun r s' hq=>?_);cases r with
 |error e=>exact hx aJ σ H s e s' I hq
 |ok fl=>
  cases fl with
  |ret u=>exact I.after hq
  |next=>exact False.elim hq
  |brk=>exact False.elim hq
  |cont=>exact False.elim hq
theorem dg(F:dI X.prog X.w X.K X.mg X.base CX k f fd ps sp)(hr:hZ k X.A)(hg:Gl X x)(hm:X.mg x=some (.ref f))(hk:W.keepIn X.K (.ref f)=true)(hb:Binds X.K fd ps ds)(hd:dD dvs ds)(hx:ZK CX X E)
 (ha:PA X (e::es) t) (hdb:(x==("__debug__":Str))=false:=by decide) (he:starEach (e::es) X.env=(false,eval e X.env)::starEach es X.env:=by rfl) (hpl:(backTo pos (starEach es X.env)).any (·.1)=false:=by rfl):
 PE X (.Call (.Name x p) (e::es) [] pos) (OQ sp dvs E t):=by
 intro aJ s σ H Q I h;refine iP (UR I hg hm ?_ hdb);refine oI (h₀:=X.base) I.ok.mod.kin hk (eN (ha pos aJ s σ H _ I h) fun us s1 ⟨vs,H1,I1,r,q⟩=>⟨I1.kIn,?_⟩) he hpl;exact EE F hr hb hd hx I1 r q
theorem db{pl:Sem Bool}(he:PE X o ta)(c:LF X.K C)(hm:pI X.K C m f)(F:dI X.prog X.w X.K X.mg X.base CX k f fd ps sp)(hr:hZ k X.A)(hb:Binds X.K fd ps ds)(hd:dD dvs ds)(hx:ZK CX X E)(ha:PA X (e::es) t)
 (hst:starEach (e::es) X.env=(false,eval e X.env)::starEach es X.env:=by rfl) (hpl:(backTo pos (starEach es X.env)).any (·.1)=false:=by rfl)
 (ht:eval (.Call (.Attribute o m lV) (e::es) [] pos) X.env=(do
  let ov ←eval o X.env
  standAt lV.atName
  let (f,first) ←holding [ov] (getMethod ov m pl)
  callWith pos f first (backTo pos (starEach (e::es) X.env)) (backToKw pos (keywordEach [] X.env))):=by rfl):
 PE X (.Call (.Attribute o m lV) (e::es) [] pos) (yT C m sp dvs E ta t):=by
 intro aJ s σ H Q I h;refine W.methodCall_KW (pl:=pl) (eN (he aJ s σ H _ I h) fun u s1 ⟨x,H1,I1,rx,q⟩=>?_) ht;replace q:=xJ q;obtain⟨a,rfl,dx,fs,ea,l,q⟩:=q;obtain rfl:u=Value.ref a:=rx;refine FS I1 ea c hm l ?_;refine oI (first:=[.ref a]) (h₀:=X.base) I.ok.mod.kin hm.kp (eN (ha pos aJ s1 σ H1 _ I1 q) fun us s2 ⟨vs,H2,I2,r,q2⟩=>⟨I2.kIn,?_⟩) hst hpl;exact EE (us:=.ref a::us) (vs:=.ref a::vs) F hr hb hd hx I2 (.cons rfl r) q2
structure Mk(K:W.Frag)(C f:Addr):Prop where
 makes:W.makesIn K C=true
 init:W.findIn K (.ref C) "__init__"=some (some (.ref f))
 fn:W.isFn K (.ref f)=true
 kp:W.keepIn K (.ref C)=true
theorem PR{Q:VK}(M:Mk X.K C f)(F:dI X.prog X.w X.K X.mg X.base CX k f fd ps sp)(hr:hZ (k+1) X.A)(hb:Binds X.K fd ps ds)(hd:dD dvs ds)
 (hx:ZK CX X E) (I:Inv X aJ σ H s) (r:dD vs us)
 (h:∀x dx,H x=none->H dx=none->dx≠x->sp (.ref x::(vs++dvs)) (upd (upd H dx (.own x)) x (.ins C dx [])) (fun v H2=>v=.non/\Q (.ref x) H2) E):
 wpAny (model X.prog X.w) X.A (call (.ref C) us) (EP X aJ σ Q) X.xe s:=by
 have hq:=h (s.heap.objs.size+1) s.heap.objs.size (I.hok.fresh (rW _)) (I.hok.fresh (aG _)) (bS (NO _));have I2:=Inv.made (C:=C) I;have r2:dD (V.ref (s.heap.objs.size+1)::(vs++dvs)) (Value.ref (s.heap.objs.size+1)::(us++ds)):=.cons rfl (r.append hd);have hl:(Value.ref (s.heap.objs.size+1)::us++ds).length=ps.length:=by
  have e:=r2.length;rw[F.len _ _ _ _ hq]at e;exact e.symm
 refine wpAny_call (SV (f:=f) I.kIn M.makes M.init (cQ.mp M.fn) (iy (F.run _ X.stack _ _ ⟨Value.ref (s.heap.objs.size+1)::us,[]⟩ (Value.ref (s.heap.objs.size+1)::(us++ds)) _ _ E (hr.make C us [])
  (I2.env0.make C us []) (hb _ (Value.ref (s.heap.objs.size+1)::us) I2.kIn hl) r2 hq) fun r s' hq'=>?_))
 cases r with
 |error e=>exact hx aJ σ _ _ e s' I2 hq'
 |ok fl=>
  cases fl with
  |ret u=>
   obtain⟨v,H',I3,rv,ev,q3⟩:=I2.after hq';subst ev;exact⟨rv,⟨V.ref (s.heap.objs.size+1),H',I3,rfl,q3⟩⟩
  |next=>exact False.elim hq'
  |brk=>exact False.elim hq'
  |cont=>exact False.elim hq'
theorem dc(M:Mk X.K C f)(F:dI X.prog X.w X.K X.mg X.base CX k f fd ps sp)(hr:hZ (k+1) X.A)(hg:Gl X x)(hm:X.mg x=some (.ref C))(hb:Binds X.K fd ps ds)(hd:dD dvs ds)(hx:ZK CX X E)
 (ha:PA X (e::es) t) (hdb:(x==("__debug__":Str))=false:=by decide) (he:starEach (e::es) X.env=(false,eval e X.env)::starEach es X.env:=by rfl) (hpl:(backTo pos (starEach es X.env)).any (·.1)=false:=by rfl):
 PE X (.Call (.Name x p) (e::es) [] pos) (HF C sp dvs E t):=by
 intro aJ s σ H Q I h;refine iP (UR I hg hm ?_ hdb);refine oI (h₀:=X.base) I.ok.mod.kin M.kp (eN (ha pos aJ s σ H _ I h) fun us s1 ⟨vs,H1,I1,r,q⟩=>⟨I1.kIn,?_⟩) he hpl;exact PR M F hr hb hd hx I1 r q
end
section
variable {k:Nat} {C:Addr} {ks:List Str} {E:XK} {x m:Str} {p pos kpos:Pos} {kws:List Keyword} {t tk:TA} {nm:Option Str}
structure KBinds(K:W.Frag)(fd:FuncData)(ps ks:List Str)(g:List Value->List Value->List Value)(gV:List V->List V->List V):Prop where
 to:∀(s:Shared)(us ws:List Value),K.In s.heap->(g us ws).length=ps.length->BindsTo s fd ⟨us,ks.zip ws⟩ (ps.zip (g us ws))
 mT:∀{vs:List V}{us:List Value}{zs:List V}{ws:List Value},dD vs us->dD zs ws->dD (gV vs zs) (g us ws)
variable {g:List Value->List Value->List Value} {gV:List V->List V->List V}
end
structure bZ(N P:List Str)(sc:Scope):Prop where
 kind:sc.kind=.function
 co:sc.isCoroutine=false
 gen:sc.isGenerator=false
 nd:N.Nodup
 pre:N.take P.length=P
 par:∀x∈P,sc.names.lookup x=some .local\/sc.names.lookup x=some .cell
 nofree:∀y∈sc.names,y.2≠.free
theorem QK{kindOf:Str->Option NameKind}{x:Str}:∀{binds:List (Str×Value)}{m:Str->Option Value},(∀v,(x,v)∉binds)->bindL kindOf binds m x=m x
 |[],_,_=>rfl
 |(n,v)::r,m,h=>by
  unfold bindL;rw[QK fun w hw=>h w (bE _ hw)];split
  ·have :x≠n:=by rintro rfl;exact h v bF
   simp[this]
  ·rfl
theorem QM{kindOf:Str->Option NameKind}{x:Str}:∀{binds:List (Str×Value)}{m:Str->Option Value},(∀v,(x,v)∉binds)->bindC kindOf binds m x=m x
 |[],_,_=>rfl
 |(n,v)::r,m,h=>by
  unfold bindC;rw[QM fun w hw=>h w (bE _ hw)];split
  ·rfl
  ·have :x≠n:=by rintro rfl;exact h v bF
   simp[this]
theorem QL{kindOf:Str->Option NameKind}{x:Str}{v:Value}:∀{P:List Str}{vs:List Value}{i:Nat}{m:Str->Option Value},P.Nodup->P[i]?=some x->vs[i]?=some v->kindOf x=some .local->
 bindL kindOf (P.zip vs) m x=some v
 |[],_,_,_,_,h,_,_=>by simp at h
 |_::_,[],_,_,_,_,h,_=>by simp at h
 |p::P,w::vs,0,m,nd,h1,h2,hk=>by
  simp at h1 h2;subst h1;subst h2;show bindL kindOf ((p,w)::P.zip vs) m p=_;unfold bindL;rw[QK fun v hv=>(iI.mp nd).1 (WU hv).1,aL hk];simp
 |p::P,w::vs,i+1,m,nd,h1,h2,hk=>by
  show bindL kindOf ((p,w)::P.zip vs) m x=_;unfold bindL;exact QL (i:=i) (iI.mp nd).2 (by simpa using h1) (by simpa using h2) hk
theorem QN{kindOf:Str->Option NameKind}{x:Str}{v:Value}:∀{P:List Str}{vs:List Value}{i:Nat}{m:Str->Option Value},P.Nodup->P[i]?=some x->vs[i]?=some v->kindOf x≠some .local->
 bindC kindOf (P.zip vs) m x=some v
 |[],_,_,_,_,h,_,_=>by simp at h
 |_::_,[],_,_,_,_,h,_=>by simp at h
 |p::P,w::vs,0,m,nd,h1,h2,hk=>by
  simp at h1 h2;subst h1;subst h2;show bindC kindOf ((p,w)::P.zip vs) m p=_;unfold bindC;rw[QM fun v hv=>(iI.mp nd).1 (WU hv).1,aH hk];simp
 |p::P,w::vs,i+1,m,nd,h1,h2,hk=>by
  show bindC kindOf ((p,w)::P.zip vs) m x=_;unfold bindC;exact QN (i:=i) (iI.mp nd).2 (by simpa using h1) (by simpa using h2) hk
def uP(N:List Str)(vs:List V):St:=vs.map some++List.replicate (N.length-vs.length) none
def XY(CX:jw)(P:Program)(w:World)(K:W.Frag)(mg:Str->Option Value)(base:Heap)(N:List Str)(qual:Str)(scope:Scope)(f:Addr)(cd:Value)(A:Around)(outer:List Env)(s:Shared)(H:Hp)(E:XK):Cx where
 prog:=P
 w:=w
 K:=K
 mg:=mg
 base:=base
 A:=A.deeper (envOfC qual scope s.heap.objs.size f cd)
 N:=N
 s₀:=s
 H₀:=H
 env:=envOfC qual scope s.heap.objs.size f cd
 outer:=outer
 stack:=envOfC qual scope s.heap.objs.size f cd::outer
 ex:=[]
 calm:=true
 fn:=fun _=>true
 pn:=[]
 xe:=fun e s'=>wpAny (model P w) (A.deeper (envOfC qual scope s.heap.objs.size f cd)) (leaving (envOfC qual scope s.heap.objs.size f cd) e) (fun _ s''=>CX outer H s E e s'') (fun e' s''=>CX outer H s E e' s'') s'
theorem CJ{sc:Scope}{x:Str}(h:sc.names.lookup x=some .cell):∃c,(cellsFrom n sc.names []).lookup x=some c:=by
 have q:=W.cellsFrom_some sc.names n [] (.inl h);exact Option.isSome_iff_exists.mp q
theorem MV{scope:Scope}{cd:Value}{s1:Shared}{E:XK}
 (S:bZ N ps scope) (hd:A.handled=none) (e0:GP P w K mg base A outer s H) (hl:vs.length=ps.length) (r:dD vs us)
 (x:InCallC s s.heap.objs.size (bindL (envOfC qual scope s.heap.objs.size f cd).kindOf (ps.zip us) fun _=>none) (cellsFrom (s.heap.objs.size+1) scope.names []) (bindC (envOfC qual scope s.heap.objs.size f cd).kindOf (ps.zip us) fun _=>none) s1):
 Inv (XY CX P w K mg base N qual scope f cd A outer s H E) [] (uP N vs) H s1:=by
 have hpl:ps.length<=N.length:=by have :=dH List.length S.pre;rw[bX]at this;lia
 obtain⟨h1,tk,rfl,hk⟩:=x.done;have noA:∀b:Addr,b∉(XY CX P w K mg base N qual scope f cd A outer s H E).ex:=fun b z=>absurd (show b∈([]:List Addr)from z) (by simp)
 refine⟨⟨e0.mod,S.kind,rfl,rfl,aG _,fun y z c h1 h2=>?_,fun y hy=>?_,fun y c _ h=>?_,fun _=>hd,Around.frames_deeper e0.frames,.inr ⟨rfl,rfl⟩,fun b z=>absurd z (noA b),e0.bs,e0.bsz,fun b _ _=>noA b,fun b z=>absurd z (noA b),e0.funs,e0.frf⟩,
  rfl,e0.bare,Un.kept hk,⟨_,x.toInCall.ns,fun i y v h1 h2 h3=>?_⟩,fun y c h=>⟨_,x.cell y c h⟩,e0.hok.fresh (aG _),fun y c h=>?_,fun p hp=>absurd (show p∈([]:List (Addr×Obj))from hp) (by simp),e0.hok.kept hk,?_⟩
 ·exact name_of_addr x.apart (eJ h1) (eJ h2)
 ·have hy:scope.names.lookup y=some .cell\/scope.names.lookup y=some .free:=hy;rcases hy with hy |hy
  ·exact CJ hy
  ·exact absurd rfl (S.nofree _ (eJ hy))
 ·exact pS (x.above y c (eJ h))
 ·have hi:i<vs.length:=by
   unfold uP at h2;by_cases hi:i<vs.length
   ·exact hi
   ·rw[bL (by simpa using hi)]at h2;rw[List.getElem?_replicate]at h2;split at h2<;>cases h2
  have ha:vs[i]?=some v:=by
   unfold uP at h2;rw[bC (by simpa using hi),aK]at h2;cases e:vs[i]? with
   |none=>rw[e]at h2;cases h2
   |some a=>rw[e]at h2;cases h2;rfl
  obtain⟨u,hu,rv⟩:=r.get ha;have hp:ps[i]?=some y:=by
   rw[←S.pre,lJ ()];exact h1
  have ndP:ps.Nodup:=by rw[←S.pre];exact S.nd.sublist (List.take_sublist _ _)
  refine⟨u,rv,?_⟩;rcases S.par y (aX hp)with k |k
  ·exact .inl ⟨k,QL ndP hp hu k⟩
  ·obtain⟨c,e⟩:=CJ (n:=s.heap.objs.size+1) k;refine .inr ⟨.inl k,c,e,?_⟩;have q:=x.cell y c e;rw[QN ndP hp hu (by show scope.names.lookup y≠_;rw[k];decide)]at q;exact q
 ·exact e0.hok.fresh (pS (x.above y c (eJ h)))
 ·unfold uP;show _=N.length;rw[aI,aE,rL];lia
theorem fn_of{k:Nat}{name:Str}{params:Arguments}{body:List Stmt}{scope:Scope}{dV kV doc pm fL ct oc:Value}{an od:Option Addr}
 {osl:Array (Option Value)} (lk:K.lookup f=some ⟨oc,od,.func (W.fnOf name qual params body scope dV kV doc pm an fL ct),osl⟩) (hcd:W.codeIn K fL qual=true) (S:bZ N ps scope)
 (len:∀vs H Q E,sp vs H Q E->vs.length=ps.length)
 (hbody:∀(A:Around)(outer:List Env)(s:Shared)(H:Hp)(vs:List V)(Q:VK)(E:XK),hZ k (A.deeper (envOfC qual scope s.heap.objs.size f fL))->sp vs H Q E->
  ∃t,GN (XY CX P w K mg base N qual scope f fL A outer s H E) body t/\t {nx:=fun _ H'=>Q .non H',rt:=Q} (uP N vs) H):
 dI P w K mg base CX (k+1) f (W.fnOf name qual params body scope dV kV doc pm an fL ct) ps sp:=by
 refine⟨len,fun A outer s H args us vs Q E hr e0 hb r hsp=>?_⟩;have hl:=len _ _ _ _ hsp;have KX:K.In s.heap:=e0.mod.kin.keeps fun b o e=>(e0.bs b o e).1
 have lim:s.heap.NoLimit:=e0.mod.nolimit.keeps fun b o e=>(e0.bs b o e).1
 have hkind:∀y∈ps.zip us,scope.names.lookup y.1=some .local\/(scope.names.lookup y.1=some .cell/\((cellsFrom (s.heap.objs.size+1) scope.names []).lookup y.1).isSome=true):=fun⟨n,v⟩ hy=>by
  rcases S.par n (WU hy).1 with q |q
  ·exact .inl q
  ·exact .inr ⟨q,W.cellsFrom_some _ _ _ (.inl q)⟩
 refine codeAny_call_function hr.depth (KX _ _ lk) rfl S.co S.gen rfl (W.codeRec_of KX hcd) (hb _ _ _ _ ?_);refine wpAny_newFunctionEnv_cells S.kind hkind fun env he s1 x=>?_
 subst he;refine⟨lim.keeps x.toInCall.keep,codeAny_func ?_⟩;obtain⟨t,ht,hq⟩:=hbody A outer s H vs Q E (hr.deeper _) hsp;have I:Inv (XY CX P w K mg base N qual scope f fL A outer s H E) [] (uP N vs) H s1:=MV S hr.hd e0 hl r x;refine lH (ht [] s1 (uP N vs) H _ I hq) (fun fl s' hs=>?_) fun e s' hs=>hs
 have fin:∀{σ':St}{H':Hp}{v:V}{u:Value},Inv (XY CX P w K mg base N qual scope f fL A outer s H E) [] σ' H' s'->RelV v u->Q v H'->CE outer P w H s Q u s':=
  fun{σ' H' v u} J rv q=>⟨v,H',J.os,J.bare,J.base,J.hok,rv,q⟩
 cases fl with
 |ret u=>
  obtain⟨v,σ',H',J,rv,q⟩:=hs;exact fin J rv q
 |next=>
  obtain⟨σ',H',J,q⟩:=hs;exact fin (v:=V.non) (u:=Value.none) J rfl q
 |brk=>
  obtain⟨_,_,_,q⟩:=hs;exact False.elim q
 |cont=>
  obtain⟨_,_,_,q⟩:=hs;exact False.elim q
section
variable {x:Str} {p pos:Pos} {t:TA} {id:String} {r:List V->Hp->VK->Prop}
def tCB(r:List V->Hp->VK->Prop)(t:TA):TE:=fun σ H Q=>t σ H fun vs H1=>r vs H1 Q
theorem yC(hc:qL X (.builtin id) r)(hg:Gl X x)(hm:X.mg x=none)(hv:bootBuiltins x=some (.builtin id))(ha:PA X (e::es) t)(hn:x≠"__name__":=by decide)(hdb:(x==("__debug__":Str))=false:=by decide)
 (he:starEach (e::es) X.env=(false,eval e X.env)::starEach es X.env:=by rfl) (hpl:(backTo pos (starEach es X.env)).any (·.1)=false:=by rfl):PE X (.Call (.Name x p) (e::es) [] pos) (tCB r t):=by
 intro aJ s σ H Q I h;refine iP (wN I hg hm hv ?_ hn hdb);exact PyProof.Rows.callWith_builtin1 (eN (ha pos aJ s σ H _ I h) fun us s1 ⟨vs,H1,I1,r1,q1⟩=>hc aJ s1 σ H1 vs us Q I1 r1 q1) he hpl
theorem xO(hc:qL X (.type T) r)(hg:Gl X x)(hm:X.mg x=none)(hv:bootBuiltins x=some (.type T))(ha:PA X (e::es) t)(hn:x≠"__name__":=by decide)(hdb:(x==("__debug__":Str))=false:=by decide)
 (he:starEach (e::es) X.env=(false,eval e X.env)::starEach es X.env:=by rfl) (hpl:(backTo pos (starEach es X.env)).any (·.1)=false:=by rfl):PE X (.Call (.Name x p) (e::es) [] pos) (tCB r t):=by
 intro aJ s σ H Q I h;refine iP (wN I hg hm hv ?_ hn hdb);exact fS (eN (ha pos aJ s σ H _ I h) fun us s1 ⟨vs,H1,I1,r1,q1⟩=>hc aJ s1 σ H1 vs us Q I1 r1 q1) he hpl
end
end L2
namespace HT
open PySem PyProof.Rows
section
open PySem.SeqAt
open PySem.AutoSeq1 (wpAny_loadPart')
open PySem.MeetsSeq PySem.MeetsSeq2 PySem.MeetsSeq3
end
section
variable {prog:Program} {w:World} {A:Around} {E:Value->Shared->Prop} {s:Shared}
theorem cat_tup{t b:Addr}{vs ws:List Value}{Q:Value->Shared->Prop}(ht:IsTup s.heap t vs.toArray)(hb:IsTup s.heap b ws.toArray)(hv:vs≠[])
 (h1:ws=[]->Q (.ref t) s) (h2:ws≠[]->Q (.ref s.heap.objs.size) {s with heap:=s.heap.push {cls:=.type "tuple",data:=.seq (vs++ws).toArray}})
 (hsz:vs.length+ws.length<=sizeLine):wpAny (model prog w) A (binaryOp .Add (.ref t) (.ref b)) Q E s:=by
 obtain⟨⟨cls,dd,data,sl⟩,ho,hc,n,hd⟩:=id ht;obtain⟨⟨cls2,dd2,data2,sl2⟩,ho2,hc2,n2,hd2⟩:=id hb;simp only at hc hd hc2 hd2;subst hc hd hc2 hd2;have e:vs.toArray++ws.toArray=(vs++ws).toArray:=by simp
 by_cases hw:ws=[]
 ·exact concat_meets ⟨_,ho,rfl⟩ ⟨_,ho2,rfl⟩ noFill_tuple_add seq_tuple_add pP pL (pA _ _)
   (tuple_addW1 t b vs.toArray ws.toArray n n2 dd dd2 sl sl2 (by simpa using hv) (by simp[hw])) ⟨ho,ho2,h1 hw⟩
 ·refine concat_meets ⟨_,ho,rfl⟩ ⟨_,ho2,rfl⟩ noFill_tuple_add seq_tuple_add pP pL (pA _ _)
   (tuple_addW2 t b vs.toArray ws.toArray n n2 dd dd2 sl sl2 (by simpa using hv) (by simpa using hw) (by rw[aQ,aQ];exact hsz)) ⟨ho,ho2,?_⟩
  rw[e];exact h2 hw
def sIx(n d:Nat):Option Int->Nat
 |none=>d
 |some v=>if v<0 then(v+(n:Int)).toNat else min v.toNat n
theorem sIx_none(n d:Nat):sIx n d none=d:=rfl
theorem sIx_nat(n d k:Nat):sIx n d (some (k:Int))=min k n:=by
 show(if(k:Int)<0 then((k:Int)+(n:Int)).toNat else min (k:Int).toNat n)=min k n;rw[aH (by lia),cA]
theorem md(n d:Nat)(hd:d<=n)(o:Option Int):sIx n d o<=n:=by
 cases o with
 |none=>exact hd
 |some v=>
  show(if v<0 then(v+(n:Int)).toNat else min v.toNat n)<=n;by_cases hv:v<0
  ·rw[aL hv];lia
  ·rw[aH hv];exact Nat.min_le_right _ _
theorem KR(v:Int)(n d:Nat):(if v<0 then max (v+(n:Int)) 0 else min v (n:Int))=((sIx n d (some v):Nat):Int):=by
 show(if v<0 then max (v+(n:Int)) 0 else min v (n:Int))=(((if v<0 then(v+(n:Int)).toNat else min v.toNat n):Nat):Int)
 by_cases hv:v<0
 ·simp only[aL hv];lia
 ·simp only[aH hv];lia
theorem GI(lo hi:Option Int)(n:Nat):Builtin.Slice.sliceAdjust lo hi 1 (n:Int)=(((sIx n 0 lo:Nat):Int),((sIx n n hi:Nat):Int)):=by
 have h1:¬((1:Int)<0):=by lia
 unfold Builtin.Slice.sliceAdjust;simp only[h1,dP];refine Prod.ext ?_ ?_
 ·cases lo with
  |none=>rfl
  |some v=>exact KR v n 0
 ·cases hi with
  |none=>rfl
  |some v=>exact KR v n n
theorem EI(i j:Nat):Builtin.Slice.slicePlaces (i:Int) (j:Int) 1=j-i:=by
 unfold Builtin.Slice.slicePlaces;have h1:(1:Int)>0:=by lia
 simp only[h1,if_true,Int.ediv_one];split<;>lia
theorem YZ{v:Value}{o:Option Int}{Q:Option Int->Shared->Prop}(p:IsPart v o)(h:Q o s):wpAny (model prog w) A (Builtin.Slice.slicePartIndex v) Q E s:=by
 cases p with
 |none=>exact slicePart_none h
 |int i t=>exact slicePart_int h
theorem sliceApplied_gen{sl:Addr}{vl vu:Value}{lo hi:Option Int}{n:Nat}{Q:Int×Int×Nat->Shared->Prop}(hs:s.heap.IsSliceOf sl vl vu .none)(pl:IsPart vl lo)(pu:IsPart vu hi)
 (h:Q (((sIx n 0 lo:Nat):Int),1,sIx n n hi-sIx n 0 lo) s):wpAny (model prog w) A (Builtin.Slice.sliceApplied (.ref sl) (pure (n:Int))) Q E s:=by
 obtain⟨os,hos,hcs,hds⟩:=id hs;unfold Builtin.Slice.sliceApplied Builtin.Slice.sliceFields;refine aF (aF (wpAny_field hos hds (x:=vl) rfl (aF (wpAny_field hos hds (x:=vu) rfl (aF (wpAny_field hos hds (x:=.none) rfl (aR ?_)))))));refine aF (slicePart_none ?_);show wpAny _ _ (if((1:Int)==0)=true then _ else _) _ _ s;rw[aH (by decide)];refine aF (YZ pl (aF (YZ pu (aF (aR ?_)))));show wpAny _ _ (match Builtin.Slice.sliceAdjust lo hi 1 (n:Int)with |(lo,hi)=>pure (lo,(1:Int),Builtin.Slice.slicePlaces lo hi 1)) _ _ s;rw[GI lo hi n];show wpAny _ _ (pure (((sIx n 0 lo:Nat):Int),(1:Int),Builtin.Slice.slicePlaces ((sIx n 0 lo:Nat):Int) ((sIx n n hi:Nat):Int) 1)) _ _ s;rw[EI];exact aR h
theorem RK(xs:Array Value)(i k:Nat):((List.range k).filterMap fun(m:Nat)=>xs[((i:Int)+(m:Int)*1).toNat]?).toArray=((xs.toList.drop i).take k).toArray:=by
 have e:(fun(m:Nat)=>xs[((i:Int)+(m:Int)*1).toNat]?)=fun m=>xs[i+m]?:=by
  funext m
  have :((i:Int)+(m:Int)*1).toNat=i+m:=by lia
  rw[this]
 rw[e];have :=pick_run xs i k;rw[oJ]at this;have e2:((fun x=>xs[x]?) ∘ fun x=>i+x)=fun m=>xs[i+m]?:=rfl
 rw[e2]at this;rw[this]
theorem getItem_tuple_cut{t sl:Addr}{dG:Array Value}{vl vu:Value}{lo hi:Option Int}{Q:Value->Shared->Prop}(ht:IsTup s.heap t dG)(hs:s.heap.IsSliceOf sl vl vu .none)(pl:IsPart vl lo)(pu:IsPart vu hi)
 (hw:¬(sIx dG.size 0 lo=0/\sIx dG.size dG.size hi=dG.size))
 (h:Q (.ref s.heap.objs.size) {s with heap:=s.heap.push {cls:=.type "tuple",data:=.seq ((dG.toList.drop (sIx dG.size 0 lo)).take (sIx dG.size dG.size hi-sIx dG.size 0 lo)).toArray}})
 (hsz:dG.size<=sizeLine):wpAny (model prog w) A (getItem (.ref t) (.ref sl)) Q E s:=by
 have htake:sizeOk (.seq ((dG.toList.drop (sIx dG.size 0 lo)).take (sIx dG.size dG.size hi-sIx dG.size 0 lo)).toArray):=by
  show((dG.toList.drop (sIx dG.size 0 lo)).take (sIx dG.size dG.size hi-sIx dG.size 0 lo)).toArray.size<=sizeLine;rw[aQ,bX,fI,bR];lia
 have hj:sIx dG.size dG.size hi<=dG.size:=md _ _ (aG _) hi;obtain⟨os,hos,hcs,hds⟩:=id hs;have hTs:s.TypeIs (.ref sl) "slice":=⟨os,hos,hcs⟩
 unfold getItem
 try with_reducible refine eV ?_
 first |refine aF (aR ?_) |skip
 refine aF (wpAny_sequenceKey ht.typeIs (by decide) ?_);refine aF (mP (name:=Str.ofString "__getitem__") ht.typeIs dZ
  (gE dZ ht.typeIs entry_tuple_getitem ?_ (args_tuple_getitem _ _)))
 show wpAny _ _ (Builtin.Tuple.tupleItemsOf (.ref t) >>= _) _ _ s;refine aF (tupleItemsOf_ ht ?_);refine aF (lT hTs ?_);rw[aL (by decide)];refine aF (sliceApplied_gen hs pl pu ?_);have hno:¬((((sIx dG.size 0 lo:Nat):Int)==0&&(1:Int)==1&&(sIx dG.size dG.size hi-sIx dG.size 0 lo)==dG.size)=true):=by
  intro q;rw[bY,bY]at q;have q1:((sIx dG.size 0 lo:Nat):Int)=0:=eq_of_beq q.1.1;have q2:sIx dG.size dG.size hi-sIx dG.size 0 lo=dG.size:=eq_of_beq q.2;exact hw ⟨by lia,by lia⟩
 show wpAny _ _ (if(((sIx dG.size 0 lo:Nat):Int)==0&&(1:Int)==1&&(sIx dG.size dG.size hi-sIx dG.size 0 lo)==dG.size)=true then _ else _) _ _ s;rw[aH hno,RK]
 first
  |exact aF (m:=Builtin.Tuple.tupleExact _) (eS (aR ⟨_,rfl,aR h⟩) htake)
  |exact aF (m:=Builtin.Tuple.tupleExact _) (eS (aF (aR (aR ⟨_,rfl,aR h⟩))) htake)
  |exact aF (aF (m:=Builtin.Tuple.tupleExact _) (eS (aR (aR ⟨_,rfl,aR h⟩)) htake))
  |exact aF (aF (m:=Builtin.Tuple.tupleExact _) (eS (aR ⟨_,rfl,aR h⟩) htake))
end
end HT
namespace L2
open PySem PySem.Spec PyProof.Rows
variable {a b l:Addr} {A:Around} {X:Cx} {e o:Expr} {h h':Heap} {H H':Hp} {aJ:List (Addr×Obj)} {kvs:List (List eL×V)} {es:List Expr} {xs:List V} {its its' us:List Value} {j n t':Nat} {lV pos':Pos} {P prog:Program} {s:Shared} {σ:St} {T:String} {ta te:TE} {α:Type} {v y:V} {u:Value} {E Q:Value->Shared->Prop} {w:World}
local macro_rules | `(()) => `(by lia)
abbrev TO:=St->Hp->(Option Int->Hp->Prop)->Prop
def PO(X:Cx)(e:Option Expr)(t:TO):Prop:=
 ∀(aJ:List (Addr×Obj)) (s:Shared) (σ:St) (H:Hp) (Q:Option Int->Hp->Prop),Inv X aJ σ H s->t σ H Q->
  wpAny (model X.prog X.w) X.A (evalPart e X.env) (fun u s'=>∃o H',Inv X aJ σ H' s'/\IsPart u o/\Q o H') X.xe s
def QW:TO:=fun _ H Q=>Q none H
def tPart(t:TE):TO:=fun σ H Q=>t σ H fun x H1=>sG x fun i=>Q (some i) H1
section
variable {lo hi:Option Expr} {tl th:TO} {pos p2:Pos}
theorem vT:PO X none QW:=by
 intro aJ s σ H Q I h;rw[evalPart_none];exact aR ⟨none,H,I,.none,h⟩
theorem qN(h:PE X e te):PO X (some e) (tPart te):=by
 intro aJ s σ H Q I hw;rw[evalPart_some];refine eN (h aJ s σ H _ I hw) fun u s1 ⟨x,H1,I1,r1,q1⟩=>?_
 replace q1:=jY q1;obtain⟨i,rfl,q⟩:=q1;obtain⟨t,rfl⟩:=r1;exact⟨some i,H1,I1,.int i t,q⟩
def SlR(X:Cx)(r:V->Option Int->Option Int->Hp->VK->Prop):Prop:=
 ∀(aJ:List (Addr×Obj)) (s:Shared) (σ:St) (H:Hp) (x:V) (v vl vu:Value) (lo hi:Option Int) (sl:Addr) (Q:VK),Inv X aJ σ H s->RelV x v->s.heap.IsSliceOf sl vl vu .none->IsPart vl lo->IsPart vu hi->r x lo hi H Q->
  ∃T id,typeLookup (.type T) "__getitem__"=pure (some (.builtin id))/\s.TypeIs v T/\wpAny (model X.prog X.w) X.A (getItem v (.ref sl)) (EP X aJ σ Q) X.xe s
def tSl(r:V->Option Int->Option Int->Hp->VK->Prop)(te:TE)(tl th:TO):TE:=fun σ H Q=>te σ H fun x H1=>tl σ H1 fun l H2=>th σ H2 fun u H3=>r x l u H3 Q
theorem qE{r:V->Option Int->Option Int->Hp->VK->Prop}(hr:SlR X r)(he:PE X e te)(hl:PO X lo tl)(hu:PO X hi th):PE X (.Subscript e (.Slice lo hi none p2) pos) (tSl r te tl th):=by
 intro aJ s σ H Q I h;refine Subscript_ (eN (he aJ s σ H _ I h) fun v s1 ⟨x,H1,I1,r1,q1⟩=>?_);refine wpAny_Slice (eN (hl aJ s1 σ H1 _ I1 q1) fun vl s2 ⟨l,H2,I2,pl,q2⟩=>eN (hu aJ s2 σ H2 _ I2 q2) fun vu s3 ⟨u,H3,I3,pu,q3⟩=>?_);rw[evalPart_none];refine aR ?_;have I4:Inv X aJ σ H3 {s3 with heap:=s3.heap.push {cls:=.type "slice",data:=.fields #[vl,vu,.none]}}:=I3.kept (t':=s3.toks) fun b ob q=>aP _ q
 obtain⟨T,id,hT,ht,hg⟩:=hr aJ {s3 with heap:=s3.heap.push {cls:=.type "slice",data:=.fields #[vl,vu,.none]}} σ H3 x v vl vu l u s3.heap.objs.size Q I4 r1 (Heap.IsSliceOf.new ..) pl pu q3;show wpAny (model X.prog X.w) X.A (subscriptTail e (.Slice lo hi none p2) v (.ref s3.heap.objs.size)) (EP X aJ σ Q) X.xe {s3 with heap:=s3.heap.push {cls:=.type "slice",data:=.fields #[vl,vu,.none]}};exact tail_any (ops:=[.ref s3.heap.objs.size,v]) ht hT hg (by with_unfolding_all rfl)
def qX(xs:List V)(lo hi:Option Int):List V:=(xs.drop (HT.sIx xs.length 0 lo)).take (HT.sIx xs.length xs.length hi-HT.sIx xs.length 0 lo)
theorem vL(xs:List V)(lo hi:Option Int):(qX xs lo hi).length<=xs.length:=by
 unfold qX;rw[bX,fI];lia
def rSlT(K:W.Frag):V->Option Int->Option Int->Hp->VK->Prop:=fun x lo hi H Q=>mL x fun a=>∃xs,dN K H a xs/\
 ¬(HT.sIx xs.length 0 lo=0/\HT.sIx xs.length xs.length hi=xs.length)/\∀p,H p=none->Q (.ref p) (upd H p (.tup (qX xs lo hi)))
theorem DZ:SlR X (rSlT X.K):=by
 intro aJ s σ H x v vl vu lo hi sl Q I rx hs pl pu h;replace h:=xJ h;obtain⟨a,rfl,xs,hx,hw,q⟩:=h;cases rx;obtain⟨its,r,ht,hz⟩:=I.tuple hx;have eO:its.toArray.size=xs.length:=by rw[aQ];exact r.length.symm
 refine⟨"tuple",_,dZ.lookup,ht.typeIs,?_⟩;refine HT.getItem_tuple_cut ht hs pl pu (by rw[eO];exact hw) ?_ (by rw[eO];exact hz);rw[eO];refine⟨.ref s.heap.objs.size,_,I.laid (t':=s.toks) (o:=.tup (qX xs lo hi)) (fun b ob q=>aP _ q) (aG _) ?_,rfl,q _ (I.hok.fresh (aG _))⟩;exact⟨cP (vL xs lo hi) hz,_,(r.drop (HT.sIx xs.length 0 lo)).take (HT.sIx xs.length xs.length hi-HT.sIx xs.length 0 lo),IsTup.new _ _⟩
def rCatT(K:W.Frag):R2:=fun x y H Q=>mL x fun a=>mL y fun b=>∃xs,dN K H a xs/\∃ys,dN K H b ys/\xs≠[]/\xs.length+ys.length<=sizeLine/\
 (ys=[]->Q (.ref a) H)/\(ys≠[]->∀p,H p=none->Q (.ref p) (upd H p (.tup (xs++ys))))
theorem dD.nil_iff(r:dD xs us):us=[]↔xs=[]:=by
 cases r with
 |nil=>simp
 |cons _ _=>simp
theorem dj:oQ X (binaryOp .Add) (rCatT X.K):=by
 intro aJ s σ H x y v u Q I rx ry h;replace h:=xJ h;obtain⟨a,rfl,h⟩:=h;replace h:=xJ h;obtain⟨b,rfl,xs,ha,ys,hb,hx,hz,q1,q2⟩:=h;cases rx;cases ry;obtain⟨its,r1,p1,_⟩:=I.tuple ha;obtain⟨its2,r2,p2,_⟩:=I.tuple hb;refine HT.cat_tup p1 p2 (fun z=>hx (r1.nil_iff.mp z)) (fun z=>⟨.ref a,H,I,rfl,q1 (r2.nil_iff.mp z)⟩) (fun z=>?_) (by rw[←r1.length,←r2.length];exact hz);refine⟨.ref s.heap.objs.size,_,I.laid (t':=s.toks) (o:=.tup (xs++ys)) (fun b ob q=>aP _ q) (aG _) ?_,rfl,q2 (fun w=>z (r2.nil_iff.mpr w)) _ (I.hok.fresh (aG _))⟩;exact⟨by rw[aI];exact hz,_,r1.append r2,IsTup.new _ _⟩
end
def MT(n:Nat)(i:Int):Option Nat:=if 0<=i then(if i<n then some i.toNat else none)else if -(n:Int)<=i then some (i+n).toNat else none
def oU{α:Type}(xs:List α)(i:Int):Option α:=(MT xs.length i).bind fun j=>xs[j]?
theorem IW{i:Int}(h:MT n i=some j):seqIndex? i n=some j/\j<n/\ -(n:Int)<=i/\i<n:=by
 unfold MT at h;by_cases h0:0<=i
 ·rw[aL h0]at h;by_cases h1:i<n
  ·rw[aL h1]at h;have e:i.toNat=j:=dC h;exact⟨by rw[seqIndex_of h0 h1,e],(),(),h1⟩
  ·rw[aH h1]at h;cases h
 ·rw[aH h0]at h;by_cases h1: -(n:Int)<=i
  ·rw[aL h1]at h;have e:(i+n).toNat=j:=dC h;exact⟨by rw[seqIndex_neg () h1,e],(),h1,()⟩
  ·rw[aH h1]at h;cases h
theorem VM{xs:List α}{i:Int}{v:α}(h:oU xs i=some v):∃j,seqIndex? i xs.length=some j/\xs[j]?=some v/\j<xs.length/\ -(xs.length:Int)<=i/\i<xs.length:=by
 unfold oU at h;cases e:MT xs.length i with
 |none=>rw[e]at h;cases h
 |some j=>
  rw[e]at h;obtain⟨h1,h2,h3,h4⟩:=IW e;exact⟨j,h1,h,h2,h3,h4⟩
theorem yE{xs:List α}{v:α}(h:xs[j]?=some v):oU xs (j:Int)=some v:=by
 have hj:j<xs.length:=(aC.mp h).1;have e:MT xs.length (j:Int)=some j:=by
  unfold MT;rw[aL (),aL ()];simp
 unfold oU;rw[e];exact h
theorem vO(xs:List α)(v:α):oU (xs++[v]) (-1)=some v:=by
 have hl:(xs++[v]).length=xs.length+1:=by simp
 have e:MT (xs++[v]).length (-1)=some xs.length:=by
  unfold MT;rw[hl,aH (by decide),aL ()]
  congr 1
  lia
 unfold oU;rw[e];show(xs++[v])[xs.length]?=some v;simp
def LB(b:Expr):Prop:=∀o i,subscripted b false o i=operate [o,i] (getItem o i)
def qq(X:Cx)(r:R2):Prop:=
 ∀(value slice:Expr) (aJ:List (Addr×Obj)) (s:Shared) (σ:St) (H:Hp) (x y:V) (v u:Value) (Q:VK),Inv X aJ σ H s->RelV x v->RelV y u->r x y H Q->
  subscripted slice false v u=operate [v,u] (getItem v u)->wpAny (model X.prog X.w) X.A (subscriptTail value slice v u) (EP X aJ σ Q) X.xe s
def MtR(X:Cx)(id:String)(r:V->List V->Hp->VK->Prop):Prop:=
 ∀(aJ:List (Addr×Obj)) (s:Shared) (σ:St) (H:Hp) (x:V) (xs:List V) (v:Value) (us:List Value) (Q:VK),Inv X aJ σ H s->RelV x v->dD xs us->r x xs H Q->
  wpAny (model X.prog X.w) X.A (call (.builtin id) (v::us)) (EP X aJ σ Q) X.xe s
section
variable {a b:Expr} {tb:TE} {pos:Pos}
theorem pe_ix{r:R2}(hr:qq X r)(ha:PE X a ta)(hb:PE X b tb)(hs:LB b):PE X (.Subscript a b pos) (tOp r ta tb):=by
 intro aJ s σ H Q I h;exact Subscript_ (qf ha hb I h fun v u s2 x y H2 I2 rx ry q=>hr a b aJ s2 σ H2 x y v u Q I2 rx ry q (hs _ _))
def rIxL(K:W.Frag):R2:=fun x y H Q=>mL x fun p=>sG y fun i=>∃xs,dL K H p xs/\∃v,oU xs i=some v/\Q v H
def rIxT(K:W.Frag):R2:=fun x y H Q=>mL x fun p=>sG y fun i=>∃xs,dN K H p xs/\∃v,oU xs i=some v/\Q v H
def rIxS:R2:=fun x y H Q=>asS x fun z=>sG y fun i=>z.length<=sizeLine/\∃c,oU z.cps.toList i=some c/\Q (.str ⟨#[c]⟩) H
theorem yH:qq X (rIxL X.K):=by
 intro value slice aJ s σ H x y v u Q I rx ry h hs;replace h:=xJ h;obtain⟨p,rfl,h⟩:=h;replace h:=jY h;obtain⟨i,rfl,xs,hq,z,he,q⟩:=h;cases rx;obtain⟨t,rfl⟩:=ry;obtain⟨its,r,pl,hz⟩:=I.list hq;obtain⟨j,h1,h2,h3,h4,h5⟩:=VM he;obtain⟨w,ew,rw'⟩:=r.get h2;have hl:=r.length;have hn:=ZC;have fin:EP X aJ σ Q w s:=⟨z,H,I,rw',q⟩
 by_cases h0:0<=i
 ·have hj:i.toNat=j:=by
   rw[seqIndex_of h0 h5]at h1;exact dC h1
  exact item_listR pl.isList h0 () (by rw[hj];simpa using ew) fin hs
 ·have hj:(i+(its.toArray.size:Int)).toNat=j:=by
   rw[seqIndex_neg () h4]at h1;rw[aQ,←hl];exact dC h1
  exact subscriptTail_builtinR (x:=w) pl.isList.typeIs slot_list_getitem.lookup
   (wpAny_getItem_list_neg (Q:=fun r s'=>r=w/\EP X aJ σ Q r s') pl.isList () (by rw[aQ]<;>lia) () (by rw[hj];simpa using ew) ⟨rfl,fin⟩) hs
theorem zP:qq X (rIxT X.K):=by
 intro value slice aJ s σ H x y v u Q I rx ry h hs;replace h:=xJ h;obtain⟨p,rfl,h⟩:=h;replace h:=jY h;obtain⟨i,rfl,xs,hq,z,he,q⟩:=h;cases rx;obtain⟨t,rfl⟩:=ry;obtain⟨its,r,pl,hz⟩:=I.tuple hq;obtain⟨j,h1,h2,h3,h4,h5⟩:=VM he;obtain⟨w,ew,rw'⟩:=r.get h2;have hl:=r.length;have hn:=ZC;have fin:EP X aJ σ Q w s:=⟨z,H,I,rw',q⟩
 exact subscriptTail_builtinR (x:=w) pl.typeIs slot_tuple_getitem.lookup
  (getItem_tuple (j:=j) (Q:=fun r s'=>r=w/\EP X aJ σ Q r s') pl () () (by rw[aQ,←hl];exact h1) (by simpa using ew) ⟨rfl,fin⟩) hs
theorem n6:qq X rIxS:=by
 intro value slice aJ s σ H x y v u Q I rx ry h hs;replace h:=asS_ h;obtain⟨z,rfl,h⟩:=h;replace h:=jY h;obtain⟨i,rfl,hz,c,he,q⟩:=h;obtain⟨t,rfl⟩:=rx;obtain⟨t',rfl⟩:=ry;obtain⟨j,h1,h2,h3,h4,h5⟩:=VM he;have hl:z.cps.toList.length=z.length:=by simp[Str.length]
 rw[hl]at h1 h4 h5;have hn:=ZC;exact tail_any (typeIs_str s z t) slot_str_getitem.lookup (getItem_str (c:=c) (by
  have e1:decide (i< -(2^63:Int))=false:=dF ();have e2:decide (i≥2^63)=false:=dF ();rw[e1,e2,tG]) (by rw[h1];simpa using h2) ⟨.str ⟨#[c]⟩,H,I.tok _,⟨_,rfl⟩,q⟩) hs
theorem FI(its:List Value)(n j:Nat)(u:Value):Obj.mapSeq (·.setIfInBounds j u) {cls:=.type "list",data:=.seq its.toArray n}={cls:=.type "list",data:=.seq (its.set j u).toArray n}:=by
 simp[Obj.mapSeq]
theorem Inv.lst{aJ:List (Addr×Obj)}{σ:St}{H:Hp}{s:Shared}{p:Addr}{xs:List V}(I:Inv X aJ σ H s)(h:H p=some (.lst xs)):
 ∃(its:List Value)(n:Nat),dD xs its/\s.heap.get? p=some {cls:=.type "list",data:=.seq its.toArray n}/\xs.length<=sizeLine:=by
 obtain⟨z,its,n,r,e⟩:=I.hok p _ h;exact⟨its,n,r,e,z⟩
theorem Inv.lstUpd{p:Addr}{ys:List V}{n':Nat}{f:Obj->Obj}(I:Inv X aJ σ H s)(h:H p=some (.lst xs))
 (ho:s.heap.get? p=some {cls:=.type "list",data:=.seq its.toArray n}) (hf:f {cls:=.type "list",data:=.seq its.toArray n}={cls:=.type "list",data:=.seq its'.toArray n'}) (r:dD ys its') (hz:ys.length<=sizeLine) (t:Nat):
 Inv X aJ σ (upd H p (.lst ys)) {s with heap:=s.heap.update p f,toks:=t}:=by
 have e:(s.heap.update p f).get? p=some {cls:=.type "list",data:=.seq its'.toArray n'}:=by
  rw[nX f ho (by rw[hf]<;>rfl),hf]
 refine I.write (x:=p) (e:=p) (by rw[h];trivial) (.inl rfl) (fun b u hb q=>(nJ _ _ (cJ hb)).trans q) ⟨_,e⟩ ?_;exact⟨hz,its',n',r,e⟩
def HV:V->V->V->Hp->(Hp->Prop)->Prop:=fun o i v H Q=>mL o fun p=>sG i fun k=>∃xs,H p=some (.lst xs)/\∃j,MT xs.length k=some j/\Q (upd H p (.lst (xs.set j v)))
theorem wV:ql X HV:=by
 intro aJ s σ H o i v ov iv u Q I ro ri rv h;replace h:=xJ h;obtain⟨p,rfl,h⟩:=h;replace h:=jY h;obtain⟨k,rfl,xs,hp,j,hj,q⟩:=h;cases ro;obtain⟨t,rfl⟩:=ri;obtain⟨its,n,r,ho,hz⟩:=I.lst hp;obtain⟨h1,h2,h3,h4⟩:=IW hj;have hl:=r.length;have hn:=ZC;have I':Inv X aJ σ (upd H p (.lst (xs.set j v))) {s with heap:=s.heap.update p (Obj.mapSeq (·.setIfInBounds j u))}:=
  I.lstUpd hp ho (FI its n j u) (r.set rv j) (by rw[lN];exact hz) s.toks
 by_cases h0:0<=k
 ·have hk:k.toNat=j:=by
   rw[seqIndex_of h0 h4]at h1;exact dC h1
  exact W.ki_setAt ho h0 () (by rw[aQ,←hl];exact h4) (by rw[hk];exact⟨_,I',q⟩)
 ·have hk:(k+(its.toArray.size:Int)).toNat=j:=by
   rw[seqIndex_neg () h3]at h1;rw[aQ,←hl];exact dC h1
  exact W.ki_setBack ho () (by rw[aQ,←hl];exact h3) () (by rw[hk];exact⟨_,I',q⟩)
theorem UE(lo hi:Option Int)(n:Nat):(sliceBounds lo hi none n).1=((HT.sIx n 0 lo:Nat):Int)/\(sliceBounds lo hi none n).2.1=((HT.sIx n n hi:Nat):Int)/\(sliceBounds lo hi none n).2.2=1:=by
 refine⟨?_,?_,rfl⟩
 ·cases lo with
  |none=>simp[sliceBounds,HT.sIx]
  |some i=>
   simp only[sliceBounds,HT.sIx,Option.getD_none,show(1:Int)>0 by decide,if_true];by_cases h:i<0
   ·simp only[h,if_true]<;>lia
   ·simp only[h,dP]<;>lia
 ·cases hi with
  |none=>simp[sliceBounds,HT.sIx]
  |some i=>
   simp only[sliceBounds,HT.sIx,Option.getD_none,show(1:Int)>0 by decide,if_true];by_cases h:i<0
   ·simp only[h,if_true]<;>lia
   ·simp only[h,dP]<;>lia
theorem JH(its:List Value)(lo hi:Option Int):slicePick its.toArray lo hi none=((its.drop (HT.sIx its.length 0 lo)).take (HT.sIx its.length its.length hi-HT.sIx its.length 0 lo)).toArray:=by
 obtain⟨h1,h2,h3⟩:=UE lo hi its.toArray.size;unfold slicePick;rw[h1,h2,h3];simp only[sliceRange_one,pick_run,aQ]<;>rfl
def rSlL(K:W.Frag):V->Option Int->Option Int->Hp->VK->Prop:=fun x lo hi H Q=>mL x fun a=>∃xs,dL K H a xs/\∀p,H p=none->Q (.ref p) (upd H p (.lst (qX xs lo hi)))
theorem bm:SlR X (rSlL X.K):=by
 intro aJ s σ H x v vl vu lo hi sl Q I rx hs pl pu h;replace h:=xJ h;obtain⟨a,rfl,xs,hx,q⟩:=h;cases rx;obtain⟨its,r,ht,hz⟩:=I.list hx;have eO:=r.length;refine⟨"list",_,slot_list_getitem.lookup,ht.isList.typeIs,?_⟩;refine wpAny_getItem_list_slice ht.isList hs pl pu .none (by simp) ?_ (by rw[aQ]<;>lia);rw[JH,←eO];refine⟨.ref s.heap.objs.size,_,I.laid (t':=s.toks) (o:=.lst (qX xs lo hi)) (fun b ob q=>aP _ q) (aG _) ?_,rfl,q _ (I.hok.fresh (aG _))⟩;exact⟨cP (vL xs lo hi) hz,_,0,(r.drop (HT.sIx xs.length 0 lo)).take (HT.sIx xs.length xs.length hi-HT.sIx xs.length 0 lo),bT _ rfl⟩
theorem kO:qL X (.type "list") (fun xs H Q=>pF xs fun x=>mL x fun p=>∃ys,(dL X.K H p ys\/dN X.K H p ys)/\∀l,H l=none->Q (.ref l) (upd H l (.lst ys))):=by
 intro aJ s σ H xs us Q I r h;replace h:=wD h;obtain⟨x,rfl,h⟩:=h;replace h:=xJ h;obtain⟨p,rfl,ys,hq,q⟩:=h;obtain⟨u,rfl,rx⟩:=uI r;cases rx;have fin:∀(its:List Value),dD ys its->ys.length<=sizeLine->∀(h':Heap)(c':Nat),(∀b o',s.heap.get? b=some o'->h'.get? b=some o')->
  h'.get? s.heap.objs.size=some {cls:=.type "list",dict:=none,data:=.seq its.toArray c',slots:= #[]}->EP X aJ σ Q (.ref s.heap.objs.size) {s with heap:=h'}:=fun its r' hz h' c' kp e=>
  ⟨.ref s.heap.objs.size,_,I.laid (t':=s.toks) kp (aG _) (show fA X.prog X.w _ h' _ (.lst ys)from⟨hz,its,c',r',e⟩),rfl,q _ (I.hok.fresh (aG _))⟩
 rcases hq with hq |hq
 ·obtain⟨its,r',pl,hz⟩:=I.list hq;have eO:=r'.length;obtain⟨o,ho,hc,n,hd⟩:=pl.isList;exact call_list_seq p (.inl rfl) ho hc hd (fun h' c' kp e=>fin its r' hz h' c' kp e) (by simp only[aQ]<;>lia)
 ·obtain⟨its,r',pl,hz⟩:=I.tuple hq;have eO:=r'.length;obtain⟨o,ho,hc,n,hd⟩:=pl;exact call_list_seq p (.inr rfl) ho hc hd (fun h' c' kp e=>fin its r' hz h' c' kp e) (by simp only[aQ]<;>lia)
theorem qV:qL X (.type "tuple") (fun xs H Q=>∃p ys,xs=[.ref p]/\((dL X.K H p ys/\∀l,H l=none->Q (.ref l) (upd H l (.tup ys)))\/(dN X.K H p ys/\Q (.ref p) H))):=by
 intro aJ s σ H xs us Q I r h;obtain⟨p,ys,rfl,h⟩:=h;obtain⟨u,rfl,rx⟩:=uI r;cases rx;rcases h with⟨hq,q⟩ |⟨hq,q⟩
 ·obtain⟨its,r',pl,hz⟩:=I.list hq;have eO:=r'.length;refine call_tuple_list pl.isList (fun h' kp=>?_) (by simp only[aQ]<;>lia);have I1:Inv X aJ σ H {s with heap:=h'}:=I.kept (t':=s.toks) kp;have I2:Inv X aJ σ (upd H h'.objs.size (.tup ys)) {s with heap:=h'.push {cls:=.type "tuple",data:=.seq its.toArray}}:=
   I1.laid (t':=s.toks) (fun b o e=>aP _ e) (aG _) (show fA X.prog X.w _ _ _ (.tup ys)from⟨hz,its,r',IsTup.new _ _⟩)
  exact⟨.ref h'.objs.size,_,I2,rfl,q _ (I1.hok.fresh (aG _))⟩
 ·obtain⟨its,r',pl,hz⟩:=I.tuple hq;exact call_tuple_same pl ⟨.ref p,H,I,rfl,q⟩
def tyV(K:W.Frag)(T:String)(x:V)(H:Hp):Prop:=match x with
 | .str _=>T="str"
 | .int _=>T="int"
 | .ref p=>(T="list"/\∃xs,dL K H p xs)\/(T="tuple"/\∃o,K.lookup p=some o/\o.cls=.type "tuple"/\o.dict=none)\/
  (T="dict"/\((∃kvs,H p=some (.dK kvs))\/∃kvs,H p=some (.dT kvs)))\/(T="set"/\∃S n,H p=some (.set S n))
 |_=>False
theorem OJ{x:V}{v:Value}(I:Inv X aJ σ H s)(r:RelV x v)(ty:tyV X.K T x H):
 s.TypeIs v T/\∀a,v=.ref a->∃ob,s.heap.get? a=some ob/\ob.dict=none:=by
 cases x with
 |str z=>
  obtain⟨t,rfl⟩:=r;cases (show T="str" from ty);exact⟨typeIs_str s z t,fun _ e=>nomatch e⟩
 |int i=>
  obtain⟨t,rfl⟩:=r;cases (show T="int" from ty);exact⟨typeIs_int s i t,fun _ e=>nomatch e⟩
 |ref p=>
  cases r;rcases ty with⟨rfl,xs,hq⟩ |⟨rfl,o,hk,hc,hd⟩ |⟨rfl,hk⟩ |⟨rfl,S,n,hk⟩
  ·obtain⟨its,_,pl,_⟩:=I.list hq;refine⟨pl.isList.typeIs,fun a e=>?_⟩;cases e;obtain⟨o,n,e,c,hd,_⟩:=pl;exact⟨o,e,hd⟩
  ·refine⟨⟨o,I.kIn p o hk,hc⟩,fun a e=>?_⟩;cases e;exact⟨o,I.kIn _ o hk,hd⟩
  ·have z:∃o,s.heap.get? p=some o/\o.ExactDict:=by
    rcases hk with⟨kvs,hk⟩ |⟨kvs,hk⟩
    ·obtain⟨_,_,_,_,o,_,_,e,ex,_⟩:=I.hok p _ hk;exact⟨o,e,ex⟩
    ·obtain⟨_,_,_,_,o,_,_,e,ex,_⟩:=I.hok p _ hk;exact⟨o,e,ex⟩
   obtain⟨o,e,ex⟩:=z;refine⟨⟨o,e,ex.1⟩,fun a e2=>?_⟩;cases e2;exact⟨o,e,ex.2.1⟩
  ·obtain⟨o,_,_,_,e,ex,_⟩:=I.hok p _ hk;refine⟨⟨o,e,ex.1⟩,fun a e2=>?_⟩;cases e2;exact⟨o,e,ex.2.1⟩
 |_=>exact False.elim ty
def tBM0(K:W.Frag)(T:String)(r:V->List V->Hp->VK->Prop)(to:TE):TE:=fun σ H Q=>to σ H fun x H1=>tyV K T x H1/\r x [] H1 Q
def tBM(K:W.Frag)(T:String)(r:V->List V->Hp->VK->Prop)(to:TE)(t:TA):TE:=fun σ H Q=>to σ H fun x H1=>tyV K T x H1/\t σ H1 fun xs H2=>r x xs H2 Q
variable {to:TE} {t:TA} {name:Str} {iR:Pos} {id:String} {r:V->List V->Hp->VK->Prop}
theorem my(pa:PlainAttrs T)(slot:Slot T name id)(hty:typeOf (.builtin id)=pure (.type "method_descriptor"))(hm:MtR X id r)(ho:PE X o to)
 (hbase:attributeBase o name X.env (eval o X.env)=eval o X.env:=by rfl) (hline:(lV.endLine==iR.line)=true:=by rfl):PE X (.Call (.Attribute o name lV) [] [] iR) (tBM0 X.K T r to):=by
 intro aJ s σ H Q I h;refine wpAny_Call_method0_late hbase hline (eN (ho aJ s σ H _ I h) fun v s1 ⟨x,H1,I1,r1,ty,q1⟩=>?_);obtain⟨h1,h2⟩:=OJ I1 r1 ty;exact⟨T,id,pa,slot,hty,h1,h2,iQ rfl (PySem.evalArgs_none (hm aJ s1 σ H1 x [] v [] Q I1 r1 .nil q1))⟩
theorem jS(pa:PlainAttrs T)(slot:Slot T name id)(hty:typeOf (.builtin id)=pure (.type "method_descriptor"))(hm:MtR X id r)(ho:PE X o to)(ha:PA X (e::es) t)
 (hbase:attributeBase o name X.env (eval o X.env)=eval o X.env:=by rfl)
 (hfew:((backTo iR (starEach (e::es) X.env)).all (fun x=>!x.1)&&(backToKw iR (keywordEach [] X.env)).all (fun x=>x.1.isSome)
  &&decide ((e::es).length+([]:List Keyword).length+(if([]:List Keyword).isEmpty then 0 else 1)<30))=true:=by rfl)
 (hline:(lV.endLine==iR.line)=true:=by rfl) (hs:starEach (e::es) X.env=(false,eval e X.env)::starEach es X.env:=by rfl) (hplain:(backTo iR (starEach es X.env)).any (·.1)=false:=by rfl):
 PE X (.Call (.Attribute o name lV) (e::es) [] iR) (tBM X.K T r to t):=by
 intro aJ s σ H Q I h;refine wpAny_Call_method_late hbase hfew hline rfl (eN (ho aJ s σ H _ I h) fun v s1 ⟨x,H1,I1,r1,ty,q1⟩=>?_);obtain⟨h1,h2⟩:=OJ I1 r1 ty;refine⟨T,id,pa,slot,hty,h1,h2,?_⟩;have hA:=ha iR aJ s1 σ H1 _ I1 q1;rw[hs]at hA⊢;refine iQ (by show(false ||(backTo iR (starEach es X.env)).any (·.1))=false;rw[hplain]<;>rfl) (oK ?_);exact eN hA fun us s2 ⟨vs,H2,I2,r2,q2⟩=>hm aJ s2 σ H2 x vs v us Q I2 r1 r2 q2
end
def MtM(X:Cx)(id:String)(r:V->List V->Hp->VK->Prop):Prop:=
 ∀(aJ:List (Addr×Obj)) (s:Shared) (σ:St) (H:Hp) (x:V) (xs:List V) (v:Value) (us:List Value) (Q:VK),Inv X aJ σ H s->RelV x v->dD xs us->r x xs H Q->
  wpAny (model X.prog X.w) X.A (call (.builtin id) (v::us)) (EP X aJ σ Q) X.xe s
theorem dD.one{x:V}(h:dD [x] us):∃u,us=[u]/\RelV x u:=uI h
theorem dD.two{x:V}(h:dD [x,y] us):∃u v,us=[u,v]/\RelV x u/\RelV y v:=vals2 h
theorem dD.dropLast(h:dD xs us):dD xs.dropLast us.dropLast:=by
 induction h with
 |nil=>exact .nil
 |cons r t ih=>
  cases t with
  |nil=>exact .nil
  |cons q t'=>exact .cons r ih
theorem dD.rep{xs:List V}{us:List Value}(h:dD xs us):∀k:Nat,dD (List.replicate k xs).flatten (List.replicate k us).flatten
 |0=>.nil
 |k+1=>by
  rw[fQ,fQ,mJ,mJ];exact dD.append h (dD.rep h k)
theorem QI(its:List Value):∀(k:Nat)(acc:List Value),
 List.foldl (fun x1 x2=>x1++x2) acc.toArray (List.replicate k its.toArray)=(acc++(List.replicate k its).flatten).toArray
 |0,acc=>by simp
 |k+1,acc=>by
  have e:acc.toArray++its.toArray=(acc++its).toArray:=by simp
  have e2:(acc++its)++(List.replicate k its).flatten=acc++(List.replicate (k+1) its).flatten:=by
   rw[fQ,mJ,cL]
  rw[←e2,←QI its k (acc++its),←e,fQ,List.foldl_cons]
section
variable {ys zs:List V}
theorem Inv.lset{f:Array Value->Array Value}(I:Inv X aJ σ H s)(hH:H l=some (.lst xs))
 (e:s.heap.get? l=some {cls:=.type "list",data:=.seq its.toArray n}) (hf:f its.toArray=its'.toArray) (hv:dD ys its') (hz:ys.length<=sizeLine):
 Inv X aJ σ (upd H l (.lst ys)) {s with heap:=s.heap.update l (Obj.mapSeq f),toks:=t'}:=by
 have q:=PySem.IsL.update e f;rw[hf]at q;refine I.write (x:=l) (e:=l) (by rw[hH];exact trivial) (.inl rfl) (fun b' u hb hu=>(nJ s.heap (Obj.mapSeq f) (cJ hb)).trans hu) ⟨_,q⟩ ?_;exact⟨hz,its',_,hv,q⟩
theorem Inv.lnew(I:Inv X aJ σ H s)(hv:dD ys its)(hz:ys.length<=sizeLine):
 Inv X aJ σ (upd H s.heap.objs.size (.lst ys)) {s with heap:=s.heap.push {cls:=.type "list",data:=.seq its.toArray},toks:=t'}:=
 I.laid (fun _ _ q=>aP _ q) (aG _) ⟨hz,its,0,hv,bT _ rfl⟩
theorem Inv.fresh(I:Inv X aJ σ H s):H s.heap.objs.size=none:=I.hok.fresh (aG _)
theorem Inv.lstM(I:Inv X aJ σ H s)(hH:H l=some (.lst xs)):xs.length<=sizeLine/\∃(its:List Value)(n:Nat),dD xs its/\xs.length=its.length/\s.heap.get? l=some {cls:=.type "list",data:=.seq its.toArray n}:=by
 obtain⟨z,its,n,r,e⟩:=I.hok l _ hH;exact⟨z,its,n,r,r.length,e⟩
theorem XQ(h:n<=sizeLine):Builtin.List.listTooLong n=false:=by
 unfold Builtin.List.listTooLong;exact dF ()
end
def UI:V->List V->Hp->VK->Prop:=fun x vs H Q=>mL x fun l=>pF vs fun y=>∃xs,H l=some (.lst xs)/\xs.length<sizeLine/\Q .non (upd H l (.lst (xs++[y])))
theorem yZ:MtM X "list.append" UI:=by
 intro aJ s σ H x vs v us Q I rx rv h;replace h:=xJ h;obtain⟨l,rfl,h⟩:=h;replace h:=wD h;obtain⟨y,rfl,xs,hH,hz,q⟩:=h;cases rx;obtain⟨u,rfl,ru⟩:=rv.one;obtain⟨z,its,n,r,hl,e⟩:=I.lstM hH;refine sR F.slot_list_append ⟨_,e,rfl⟩ F.entry_list_append (F.args_list_append_2 _ _) (PySem.list_append l its.toArray n u (by rw[aQ];lia)) ⟨e,?_⟩;refine⟨.non,_,I.lset (its':=its++[u]) hH e (by simp) (r.append (.cons ru .nil)) ?_,rfl,q⟩;rw[aI,cC];lia
def HY:V->List V->Hp->VK->Prop:=fun x vs H Q=>mL x fun l=>pF vs fun z=>mL z fun b=>∃xs,H l=some (.lst xs)/\∃zs,H b=some (.lst zs)/\xs.length+zs.length<=sizeLine/\Q .non (upd H l (.lst (xs++zs)))
theorem MN:MtM X "list.extend" HY:=by
 intro aJ s σ H x vs v us Q I rx rv h;replace h:=xJ h;obtain⟨l,rfl,h⟩:=h;replace h:=wD h;obtain⟨x,rfl,h⟩:=h;replace h:=xJ h;obtain⟨b,rfl,xs,hH,zs,hB,hz,q⟩:=h;cases rx;obtain⟨u,rfl,ru⟩:=rv.one;cases ru;obtain⟨z,its,n,r,hl,e⟩:=I.lstM hH;obtain⟨z2,its2,n2,r2,hl2,e2⟩:=I.lstM hB;have hsz:its.toArray.size+its2.toArray.size<=sizeLine:=by rw[aQ,aQ];lia
 have hlong:¬(!its.toArray.isEmpty&&Builtin.List.listTooLong (its.toArray.size+its2.toArray.size))=true:=by
  rw[XQ hsz,oM];exact cI
 refine sR F.slot_list_extend ⟨_,e,rfl⟩ F.entry_list_extend (F.args_list_extend_2 _ _)
  (AutoSeq1.list_extend_list_list_0 l its.toArray n b its2.toArray n2 hlong (by rw[aQ];lia) ()) ⟨e,e2,?_⟩
 refine⟨.non,_,I.lset (its':=its++its2) hH e (by simp) (r.append r2) ?_,rfl,q⟩;rw[aI];lia
def rPop:V->List V->Hp->VK->Prop:=fun x vs H Q=>mL x fun l=>as0 vs (∃xs,H l=some (.lst xs)/\∃y,xs[xs.length-1]?=some y/\Q y (upd H l (.lst xs.dropLast)))
def rCat:R2:=fun x y H Q=>mL x fun l=>mL y fun b=>∃xs,H l=some (.lst xs)/\∃zs,H b=some (.lst zs)/\xs.length+zs.length<=sizeLine/\∀p,H p=none->Q (.ref p) (upd H p (.lst (xs++zs)))
def ck:R2:=fun x y H Q=>mL x fun l=>sG y fun k=>∃xs,H l=some (.lst xs)/\ -(2^63)<=k/\k<2^63/\xs.length*k.toNat<=sizeLine/\
 ∀p,H p=none->Q (.ref p) (upd H p (.lst (List.replicate k.toNat xs).flatten))
theorem fk(xs:List α)(k:Nat):(List.replicate k xs).flatten.length=k*xs.length:=by
 induction k with
 |zero=>simp
 |succ k ih=>rw[fQ,mJ,aI,ih,Nat.succ_mul,Nat.add_comm]
theorem EQ:oQ X (binaryOp .Mult) ck:=by
 intro aJ s σ H x y v u Q I rx ry h;replace h:=xJ h;obtain⟨l,rfl,h⟩:=h;replace h:=jY h;obtain⟨k,rfl,xs,hH,h1,h2,hz,q⟩:=h;cases rx;obtain⟨t,rfl⟩:=ry;obtain⟨z,its,n,r,hl,e⟩:=I.lstM hH;have eO:its.toArray.size*k.toNat<=sizeLine:=by rw[aQ,←hl];exact hz
 have hcap:¬its.toArray.size*k.toNat>(2^63-1)/8:=by
  have :(sizeLine:Nat)<=(2^63-1)/8:=by decide
  lia
 have hfit:¬(!Builtin.List.listFitsIndex k)=true:=by
  rw[fitsIndex_both h1 h2];exact cI
 have hlong:¬Builtin.List.listTooLong (its.toArray.size*k.toNat)=true:=by
  rw[XQ eO];exact cI
 have hnew:List.foldl (fun x1 x2=>x1++x2) #[] (List.replicate (if its.toArray.isEmpty=true then 0 else k.toNat) its.toArray)=(List.replicate k.toNat its).flatten.toArray:=by
  have f0:∀m:Nat,List.foldl (fun x1 x2=>x1++x2) #[] (List.replicate m its.toArray)=(List.replicate m its).flatten.toArray:=fun m=>by
   have :=QI its m [];rw[WV]at this;exact this
  rw[f0];cases its with
  |nil=>simp
  |cons a r'=>rw[aH (by simp)]
 refine wpAny_binaryOp_repeat_ref (T:="list") (U:="int") (by decide) ⟨_,e,rfl⟩ (fun s'=>typeIs_int s' k t) noFill_list_mul F.fills_int_mul F.slot_int_rmul repeat_list F.slot_int_index.lookup
  (sR F.slot_int_rmul (typeIs_int s k t) F.entry_int_rmul (F.args_int_rmul_2 _ _) (int___rmul___int_list k t l its.toArray n)
   ⟨e,rfl,⟨_,e,rfl⟩,sR F.slot_list_mul ⟨_,e,rfl⟩ F.entry_list_mul (F.args_list_mul_2 _ _) (AutoListH.list___mul___list_int_3 l its.toArray n k t hfit hcap hlong) ⟨e,?_⟩⟩)
 rw[hnew];exact⟨.ref _,_,I.lnew (t':=s.toks) (r.rep k.toNat) (by rw[fk,Nat.mul_comm];exact hz),rfl,q _ I.fresh⟩
section
variable {κ:Type} [DecidableEq κ]
def yO(kvs:List (κ×V))(k:κ):Option V:=(kvs.find? fun kv=>decide (kv.1=k)).map (·.2)
def jJ(kvs:List (κ×V))(k:κ)(v:V):List (κ×V):=
 if(kvs.any fun kv=>decide (kv.1=k))=true then kvs.map (fun kv=>if kv.1=k then(kv.1,v)else kv)else kvs++[(k,v)]
def jl(kvs:List (κ×V))(k:κ):List (κ×V):=kvs.filter fun kv=>decide (kv.1≠k)
theorem jZ{p:κ×V}{r:List (κ×V)}{k:κ}(e:p.1=k):yO (p::r) k=some p.2:=by simp[yO,eR,e]
theorem qA{p:κ×V}{r:List (κ×V)}{k:κ}(e:¬p.1=k):yO (p::r) k=yO r k:=by simp[yO,eR,e]
theorem tL(k:κ):∀kvs:List (κ×V),(kvs.any fun kv=>decide (kv.1=k))=(yO kvs k).isSome
 |[]=>rfl
 |p::r=>by
  rw[mY];by_cases e:p.1=k
  ·simp only[jZ e,eC e,Bool.true_or,Option.isSome_some]
  ·rw[qA e,dF e,Bool.false_or];exact tL k r
theorem qP(kvs:List (κ×V))(k:κ)(v:V):(jJ kvs k v).length<=kvs.length+1:=by
 unfold jJ;split
 ·rw[aE];lia
 ·rw[aI,bD,nT];lia
theorem mN.isSome_eq{o:Option V}{u:Option Value}(r:mN o u):o.isSome=u.isSome:=by
 cases o with
 |none=>cases u with
  |none=>rfl
  |some _=>exact(show False from r).elim
 |some _=>cases u with
  |none=>exact(show False from r).elim
  |some _=>rfl
theorem mN.getD{o:Option V}{u:Option Value}{d:V}{d':Value}(r:mN o u)(rd:RelV d d'):RelV (o.getD d) (u.getD d'):=by
 cases o with
 |none=>cases u with
  |none=>exact rd
  |some _=>exact(show False from r).elim
 |some _=>cases u with
  |none=>exact(show False from r).elim
  |some _=>exact r
theorem KV.val{kvs:List (κ×V)}{vs:List (κ×Value)}(r:KV kvs vs)(k:κ):mN (yO kvs k) (valueAt vs k):=by
 unfold KV at r
 induction r with
 |nil=>exact True.intro
 |@cons p q ps qs h t ih=>
  obtain⟨h1,h2⟩:=h;by_cases e:p.1=k
  ·have e':q.1=k:=h1.symm.trans e;have b:valueAt (q::qs) k=some q.2:=by simp[valueAt,eR,e']
   rw[jZ e,b];exact h2
  ·have e':¬q.1=k:=fun z=>e (h1.trans z)
   have b:valueAt (q::qs) k=valueAt qs k:=by simp[valueAt,eR,e']
   rw[qA e,b];exact ih
theorem KV.any{kvs:List (κ×V)}{vs:List (κ×Value)}(r:KV kvs vs)(k:κ):(kvs.any fun kv=>decide (kv.1=k))=vs.any fun kv=>decide (kv.1=k):=by
 unfold KV at r
 induction r with
 |nil=>rfl
 |cons h t ih=>rw[mY,mY,ih,h.1]
theorem KV.repl{kvs:List (κ×V)}{vs:List (κ×Value)}(r:KV kvs vs)(k:κ)(ry:RelV y u):
 KV (kvs.map fun kv=>if kv.1=k then(kv.1,y)else kv) (vs.map fun kv=>if kv.1=k then(kv.1,u)else kv):=by
 unfold KV at r⊢
 induction r with
 |nil=>exact .nil
 |@cons p q ps qs h t ih=>
  rw[cF,cF];refine .cons ?_ ih;obtain⟨h1,h2⟩:=h;by_cases e:p.1=k
  ·rw[aL e,aL (h1.symm.trans e)];exact⟨h1,ry⟩
  ·rw[aH e,aH (fun z=>e (h1.trans z))];exact⟨h1,h2⟩
theorem KV.put{kvs:List (κ×V)}{vs:List (κ×Value)}(r:KV kvs vs)(k:κ)(ry:RelV y u):KV (jJ kvs k y) (stored vs k u):=by
 unfold jJ stored;rw[r.any k];by_cases e:(vs.any fun kv=>decide (kv.1=k))=true
 ·rw[aL e,aL e];exact r.repl k ry
 ·rw[aH e,aH e];exact Paired.snoc r ⟨rfl,ry⟩
theorem KV.drop{kvs:List (κ×V)}{vs:List (κ×Value)}(r:KV kvs vs)(k:κ):KV (jl kvs k) (without vs k):=by
 unfold KV at r⊢;unfold jl without
 induction r with
 |nil=>exact .nil
 |@cons p q ps qs h t ih=>
  obtain⟨h1,h2⟩:=h;rw[iY,iY];by_cases e:p.1=k
  ·have a:¬decide (p.1≠k)=true:=by simp[e]
   have b:¬decide (q.1≠k)=true:=by simp[h1.symm.trans e]
   rw[aH a,aH b];exact ih
  ·have e':¬q.1=k:=fun z=>e (h1.trans z)
   have a:decide (p.1≠k)=true:=by simp[e]
   have b:decide (q.1≠k)=true:=by simp[e']
   rw[aL a,aL b];exact .cons ⟨h1,h2⟩ ih
theorem KV.length{kvs:List (κ×V)}{vs:List (κ×Value)}(r:KV kvs vs):kvs.length=vs.length:=eW r
end
theorem ZQ{k:eL}(r:RelV (kV k) u):(yA P w).is k u=true:=by
 cases k with
 |inl i=>obtain⟨t,e⟩:=(show∃t,u=Value.int i t from r);subst e;exact BQ P w i t
 |inr x=>obtain⟨t,e⟩:=(show∃t,u=Value.str x t from r);subst e;exact uZ P w x t
theorem ZF{P:Program}{w:World}:∀{ks:List eL}{us:List Value},dD (ks.map kV) us->ItemsAre (yA P w) ks us
 |[],_,r=>by rw[pT]at r;cases r;exact .nil
 |k::ks,_,r=>by
  rw[cF]at r;cases r with
  |cons h t=>exact .cons (ZQ h) (ZF t)
abbrev KT(H:Hp):List (List eL×V)->List (List eL×Addr×Value)->Prop:=Paired fun p q=>p.1=q.1/\H q.2.1=some (.tup (p.1.map kV))/\RelV p.2 q.2.2
theorem KT.val{xs:List (List eL×Addr×Value)}(r:KT H kvs xs)(k:List eL):mN (yO kvs k) ((atKey xs k).map (·.2)):=by
 induction r with
 |nil=>exact True.intro
 |@cons p q ps qs h t ih=>
  obtain⟨h1,_,h2⟩:=h;by_cases e:p.1=k
  ·have e':q.1=k:=h1.symm.trans e;have b:atKey (q::qs) k=some q.2:=by simp[atKey,eR,e']
   rw[jZ e,b];exact h2
  ·have e':¬q.1=k:=fun z=>e (h1.trans z)
   have b:atKey (q::qs) k=atKey qs k:=by simp[atKey,eR,e']
   rw[qA e,b];exact ih
theorem KT.repl{xs:List (List eL×Addr×Value)}(r:KT H kvs xs)(k:List eL)(ry:RelV y u):
 KT H (kvs.map fun kv=>if kv.1=k then(kv.1,y)else kv) (xs.map (putAt k u)):=by
 induction r with
 |nil=>exact .nil
 |@cons p q ps qs h t ih=>
  rw[cF,cF];refine .cons ?_ ih;obtain⟨h1,h2,h3⟩:=h;unfold putAt;by_cases e:p.1=k
  ·rw[aL e,aL (h1.symm.trans e)];exact⟨h1,h2,ry⟩
  ·rw[aH e,aH (fun z=>e (h1.trans z))];exact⟨h1,h2,h3⟩
theorem KT.put{xs:List (List eL×Addr×Value)}(r:KT H kvs xs)(k:List eL)(hb:H b=some (.tup (k.map kV)))(ry:RelV y u):
 KT H (jJ kvs k y) (storedH xs k b u):=by
 have e:(kvs.any fun kv=>decide (kv.1=k))=(atKey xs k).isSome:=by
  rw[tL,(r.val k).isSome_eq,gJ]
 unfold jJ storedH;rw[e];by_cases q:(atKey xs k).isSome=true
 ·rw[aL q,aL q];exact r.repl k ry
 ·rw[aH q,aH q];exact Paired.snoc r ⟨rfl,hb,ry⟩
theorem KT.keeps{xs:List (List eL×Addr×Value)}(r:KT H kvs xs)(ht:∀b ys,H b=some (.tup ys)->H' b=some (.tup ys)):KT H' kvs xs:=
 Paired.mapP r fun _ _ z=>⟨z.1,ht _ _ z.2.1,z.2.2⟩
theorem ja{u:HO}(ok:mO P w H h)(e:Rd H a u):fA P w H h a u:=e.ok ok
theorem kL{kvs:List (eL×V)}(ok:mO P w H h)(e:Rd H a (.dK kvs)):kvs.length<=sizeLine/\(a==sysModules)=false/\∃vs,KV kvs vs/\h.DictOf (yA P w) a vs:=
 show fA P w H h a (.dK kvs)from ja ok e
theorem jm{kvs:List (eL×V)}(ok:mO P w H h)(e:H a=some (.dK kvs)):kvs.length<=sizeLine/\(a==sysModules)=false/\∃vs,KV kvs vs/\h.DictOf (yA P w) a vs:=kL ok (.inl e)
theorem vC{ks:List eL}(ok:mO P w H h)(e:H a=some (.tup (ks.map kV))):(tupleKind (yA P w)).is h ks a:=by
 obtain⟨_,its,r,o,h1,h2,n,h3⟩:=(show fA P w H h a (.tup (ks.map kV))from ok a _ e)
 exact⟨o,its.toArray,n,h1,h2,h3,by simpa using ZF r⟩
theorem XX(ok:mO P w H h)(e:Rd H a (.dT kvs)):kvs.length<=sizeLine/\(a==sysModules)=false/\
 ∃xs,KT H kvs xs/\h.DictOfH (tupleKind (yA P w)) a xs:=by
 obtain⟨z,y,xs,r,o,es,ep,h1,h2,h3,h4,h5⟩:=(show fA P w H h a (.dT kvs)from ja ok e)
 refine⟨z,y,xs,r,o,es,ep,h1,h2,h3,h4,fun x hx=>?_,h5⟩;have all:∀{l:List (List eL×V)}{m:List (List eL×Addr×Value)},KT H l m->∀x∈m,(tupleKind (yA P w)).is h x.1 x.2.1:=by
  intro l m q
  induction q with
  |nil=>intro x hx;exact nomatch hx
  |@cons p q ps qs hq t ih=>
   intro x hx;rcases bJ.mp hx with e |hx
   ·subst e;exact vC ok (by rw[←hq.1];exact hq.2.1)
   ·exact ih x hx
 exact all r x hx
theorem jk(ok:mO P w H h)(e:H a=some (.dT kvs)):kvs.length<=sizeLine/\(a==sysModules)=false/\
 ∃xs,KT H kvs xs/\h.DictOfH (tupleKind (yA P w)) a xs:=XX ok (.inl e)
def oA(H:Hp)(a:Addr)(y:V)(r:Option V):Prop:=
 (∃kvs k,Rd H a (.dK kvs)/\y=kV k/\r=yO kvs k)\/∃kvs k b,Rd H a (.dT kvs)/\y=.ref b/\H b=some (.tup (k.map kV))/\r=yO kvs k
def GQ(H:Hp)(a:Addr)(y v:V)(H':Hp):Prop:=
 (∃kvs k,H a=some (.dK kvs)/\y=kV k/\kvs.length<sizeLine/\H'=upd H a (.dK (jJ kvs k v)))\/
 ∃kvs k b,H a=some (.dT kvs)/\y=.ref b/\H b=some (.tup (k.map kV))/\kvs.length<sizeLine/\H'=upd H a (.dT (jJ kvs k v))
theorem oA.k{kvs:List (eL×V)}{k:eL}(e:H a=some (.dK kvs)):oA H a (kV k) (yO kvs k):=.inl ⟨kvs,k,.inl e,rfl,rfl⟩
theorem oA.t{k:List eL}(e:H a=some (.dT kvs))(eb:H b=some (.tup (k.map kV))):oA H a (.ref b) (yO kvs k):=.inr ⟨kvs,k,b,.inl e,rfl,eb,rfl⟩
theorem GQ.k{kvs:List (eL×V)}{k:eL}(e:H a=some (.dK kvs))(hl:kvs.length<sizeLine):GQ H a (kV k) v (upd H a (.dK (jJ kvs k v))):=.inl ⟨kvs,k,e,rfl,hl,rfl⟩
theorem GQ.t{k:List eL}(e:H a=some (.dT kvs))(eb:H b=some (.tup (k.map kV)))(hl:kvs.length<sizeLine):
 GQ H a (.ref b) v (upd H a (.dT (jJ kvs k v))):=.inr ⟨kvs,k,b,e,rfl,eb,hl,rfl⟩
section
variable {r:Value} {o:Option V}
theorem Inv.big(I:Inv X aJ σ H s):sysModules<s.heap.objs.size:=by
 have h:mainGlobals<s.heap.objs.size:=(I.mod.glob.keeps I.bk).lt;exact Nat.lt_trans (by decide) h
theorem NB(hu:A.units+1<cLine)(I:Inv X aJ σ H s)(g:oA H a y (some v))(ry:RelV y u)(h:∀w' s',Inv X aJ σ H s'->RelV v w'->Q w' s'):
 wpAny (model X.prog X.w) A (getItem (.ref a) u) Q E s:=by
 rcases g with⟨kvs,k,e,ey,l⟩ |⟨kvs,k,b,e,ey,eb,l⟩
 ·subst ey;obtain⟨z,hd,vs,mT,dd⟩:=kL I.hok e;obtain⟨w',hw,rw'⟩:=mN.some_of (v:=v) (o:=valueAt vs k) (by rw[l];exact mT.val k);exact wpAny_getItem_of (ZQ ry) dd.mapOf hw (h w' _ (I.tok _) rw')
 ·subst ey;cases (show u=Value.ref b from ry);obtain⟨z,hd,xs,mT,dd⟩:=XX I.hok e;obtain⟨w',hw,rw'⟩:=mN.some_of (v:=v) (o:=(atKey xs k).map (·.2)) (by rw[l];exact mT.val k);obtain⟨p,hp,mU⟩:=aO.mp hw;refine wpAny_getItem_heap (eG hu) (vC I.hok eb) dd hp ?_;rw[mU];exact h w' _ (I.tok _) rw'
theorem d_in(hu:A.units+1<cLine)(I:Inv X aJ σ H s)(g:oA H a y o)(ry:RelV y u)(h:∀s',Inv X aJ σ H s'->Q (.bool o.isSome) s'):
 wpAny (model X.prog X.w) A (compareOp .In u (.ref a)) Q E s:=by
 rcases g with⟨kvs,k,e,ey,l⟩ |⟨kvs,k,b,e,ey,eb,l⟩
 ·subst ey;obtain⟨z,hd,vs,mT,dd⟩:=kL I.hok e;refine wpAny_in_of (ZQ ry) hd dd.mapOf ?_;rw[←(mT.val k).isSome_eq,←l];exact h _ (I.tok _)
 ·subst ey;cases (show u=Value.ref b from ry);obtain⟨z,hd,xs,mT,dd⟩:=XX I.hok e;refine wpAny_in_heap (eG hu) (vC I.hok eb) hd dd ?_;have q:=(mT.val k).isSome_eq;rw[gJ]at q;rw[←q,←l];exact h _ (I.tok _)
theorem gh(hu:A.units+1<cLine)(I:Inv X aJ σ H s)(g:oA H a y o)(ry:RelV y u)(h:∀s',Inv X aJ σ H s'->Q (.bool (!o.isSome)) s'):
 wpAny (model X.prog X.w) A (compareOp .NotIn u (.ref a)) Q E s:=by
 rcases g with⟨kvs,k,e,ey,l⟩ |⟨kvs,k,b,e,ey,eb,l⟩
 ·subst ey;obtain⟨z,hd,vs,mT,dd⟩:=kL I.hok e;refine wpAny_notIn_of (ZQ ry) hd dd.mapOf ?_;rw[←(mT.val k).isSome_eq,←l];exact h _ (I.tok _)
 ·subst ey;cases (show u=Value.ref b from ry);obtain⟨z,hd,xs,mT,dd⟩:=XX I.hok e;refine wpAny_notIn_heap (eG hu) (vC I.hok eb) hd dd ?_;have q:=(mT.val k).isSome_eq;rw[gJ]at q;rw[←q,←l];exact h _ (I.tok _)
theorem vW{ob:HO}(I:Inv X aJ σ H s)(mu:Mut (H a))(hs:Heap.SameBut a s.heap h')(he:∃q,h'.get? a=some q)(new:fA X.prog X.w (upd H a ob) h' a ob):
 Inv X aJ σ (upd H a ob) {s with heap:=h',toks:=t'}:=
 I.write (x:=a) (e:=a) mu (.inl rfl) (fun b q hb z=>(hs.2 b hb).trans z) he new
theorem FZ{kvs:List (eL×V)}{vs:List (eL×Value)}(z:kvs.length<=sizeLine)(hd:(a==sysModules)=false)(mT:KV kvs vs)(dd:h'.DictOf (yA P w) a vs):
 fA P w H' h' a (.dK kvs):=⟨z,hd,vs,mT,dd⟩
theorem NA{Q:Unit->Shared->Prop}(hu:A.units+1<cLine)(I:Inv X aJ σ H s)(g:GQ H a y v H')(ry:RelV y u)(rv:RelV v r)(h:∀s',Inv X aJ σ H' s'->Q Unit.unit s'):
 wpAny (model X.prog X.w) A (setItem (.ref a) u r) Q E s:=by
 rcases g with⟨kvs,k,e,ey,l,eH⟩ |⟨kvs,k,b,e,ey,eb,l,eH⟩
 ·subst ey eH;obtain⟨z,hd,vs,mT,dd⟩:=jm I.hok e;have hz:vs.length<=sizeLine:=by rw[←mT.length];exact z
  have hl:(jJ kvs k v).length<=sizeLine:=by have :=qP kvs k v;lia
  refine wpAny_setItem_pairs (hsz:=hz) (ZQ ry) dd fun h' dd' hs=>h _ ?_
  have he:∃q,h'.get? a=some q:=let ⟨q,_,_,hq,_⟩:=dd';⟨q,hq⟩;exact vW I (by rw[e];exact True.intro) hs he (FZ hl hd (mT.put k rv) dd')
 ·subst ey eH;cases (show u=Value.ref b from ry);obtain⟨z,hd,xs,mT,dd⟩:=jk I.hok e;have hz:xs.length<=sizeLine:=by rw[←eW mT];exact z
  have hl:(jJ kvs k v).length<=sizeLine:=by have :=qP kvs k v;lia
  refine wpAny_setItem_heap (hsz:=hz) (eG hu) (vC I.hok eb) dd fun h' dd' hs=>h _ ?_
  obtain⟨q,es,ep,hq,h2,h3,h4,_,h5⟩:=dd';refine vW I (by rw[e];exact True.intro) hs ⟨q,hq⟩ ⟨hl,hd,_,(mT.put k eb rv).keeps fun c ys ec=>?_,q,es,ep,hq,h2,h3,h4,h5⟩;rw[zJ (jH ec e (fun z=>nomatch z))];exact ec
end
section
variable {kvs:List (eL×V)} {k:eL}
end
def qo(i:Expr):Prop:=∀ov iv,subscripted i false ov iv=operate [ov,iv] (getItem ov iv)
theorem HH{env:Env}{value slice:Expr}{pos:Pos}{id:String}
 (hl:typeLookup (.type T) "__getitem__"=pure (some (.builtin id))) (hs:qo slice)
 (h:wpAny (model prog w) A (eval value env) (fun o s₁=>wpAny (model prog w) A (eval slice env) (fun i s₂=>s₂.TypeIs o T/\wpAny (model prog w) A (getItem o i) Q E s₂) E s₁) E s):
 wpAny (model prog w) A (eval (.Subscript value slice pos) env) Q E s:=by
 refine Subscript_ (lH h (fun o s₁ h₁=>lH h₁ (fun i s₂ h₂=>?_) fun _ _ x=>x) fun _ _ x=>x);obtain⟨hT,h₂⟩:=h₂;unfold subscriptTail;refine aF ?_;rw[getitemInPython_of_ne hT.not_modules];refine aF (wpAny_specialOf hT hl ?_);have fin:wpAny (model prog w) A (subscripted slice false o i) (fun r s₃=>wpAny (model prog w) A (letTemporaryGo value o r >>= fun _=>pure r) Q E s₃) E s₂:=by
  rw[hs o i];exact wpAny_operating (lH h₂ (fun r s₃ h₃=>aF (wpAny_letTemporaryGo (aR h₃))) fun _ _ x=>x)
 first
  |exact aR (aF fin)
  |exact aF (aR (aF fin))
  |exact aF fin
theorem CF{o:Option V}(I:Inv X aJ σ H s)(g:oA H a y o):s.TypeIs (.ref a) "dict":=by
 rcases g with⟨kvs,k,e,_,_⟩ |⟨kvs,k,b,e,_,_,_⟩
 ·obtain⟨_,_,vs,_,dd⟩:=kL I.hok e;exact dd.typeIs
 ·obtain⟨_,_,xs,_,dd⟩:=XX I.hok e;exact dd.typeIs
def tDGet(td ty:TE):TE:=fun σ H Q=>td σ H fun x H1=>ty σ H1 fun y H2=>mL x fun a=>∃v,oA H2 a y (some v)/\Q v H2
def LO(ty td:TE):TE:=fun σ H Q=>ty σ H fun y H1=>td σ H1 fun x H2=>mL x fun a=>∃o,oA H2 a y o/\Q (.bl o.isSome) H2
def QX(ty td:TE):TE:=fun σ H Q=>ty σ H fun y H1=>td σ H1 fun x H2=>mL x fun a=>∃o,oA H2 a y o/\Q (.bl (!o.isSome)) H2
def HM(td ty tv:TE):TS:=fun D σ H=>tv σ H fun v H1=>td σ H1 fun x H2=>ty σ H2 fun y H3=>mL x fun a=>∃H4,GQ H3 a y v H4/\D.nx σ H4
section
variable {i value:Expr} {pos tpos:Pos} {td ty tv:TE}
theorem YK(hu:X.A.units+1<cLine)(ho:PE X o td)(hi:PE X i ty)(hs:qo i):PE X (.Subscript o i pos) (tDGet td ty):=by
 intro aJ s σ H Q I h;refine HH jz.lookup hs (eN (ho aJ s σ H _ I h) fun u s1 ⟨x,H1,I1,rx,q1⟩=>eN (hi aJ s1 σ H1 _ I1 q1) fun iv s2 ⟨y,H2,I2,ry,q2⟩=>?_);replace q2:=xJ q2;obtain⟨a,rfl,v,g,q2⟩:=q2;obtain rfl:u=Value.ref a:=rx;exact⟨CF I2 g,NB hu I2 g ry fun w' s3 I3 rw'=>⟨v,H2,I3,rw',q2⟩⟩
theorem XI(hu:X.A.units+1<cLine)(hi:PE X i ty)(ho:PE X o td):PC X .In i o (LO ty td):=by
 intro aJ s σ H Q I h;refine eN (hi aJ s σ H _ I h) fun iv s1 ⟨y,H1,I1,ry,q1⟩=>eN (ho aJ s1 σ H1 _ I1 q1) fun u s2 ⟨x,H2,I2,rx,q2⟩=>?_
 replace q2:=xJ q2;obtain⟨a,rfl,ov,g,q2⟩:=q2;obtain rfl:u=Value.ref a:=rx;exact d_in hu I2 g ry fun s3 I3=>⟨.bl ov.isSome,H2,I3,rfl,q2⟩
theorem JX(hu:X.A.units+1<cLine)(hi:PE X i ty)(ho:PE X o td):PC X .NotIn i o (QX ty td):=by
 intro aJ s σ H Q I h;refine eN (hi aJ s σ H _ I h) fun iv s1 ⟨y,H1,I1,ry,q1⟩=>eN (ho aJ s1 σ H1 _ I1 q1) fun u s2 ⟨x,H2,I2,rx,q2⟩=>?_
 replace q2:=xJ q2;obtain⟨a,rfl,ov,g,q2⟩:=q2;obtain rfl:u=Value.ref a:=rx;exact gh hu I2 g ry fun s3 I3=>⟨.bl (!ov.isSome),H2,I3,rfl,q2⟩
theorem UK(hu:X.A.units+1<cLine)(ho:PE X o td)(hi:PE X i ty)(hv:PE X value tv)(hs:swapsWith value (some (.Subscript o i pos')) pos.line X.env=pure false):
 PS X (.Assign [.Subscript o i pos'] value pos) (HM td ty tv):=by
 intro aJ s σ H D I h;refine wpAny_Assign_Subscript (eN (hv aJ s σ H _ I h) fun r s1 ⟨v,H1,I1,rv,q1⟩=>eN (ho aJ s1 σ H1 _ I1 q1) fun u s2 ⟨x,H2,I2,rx,q2⟩=>eN (hi aJ s2 σ H2 _ I2 q2) fun iv s3 ⟨y,H3,I3,ry,q3⟩=>?_) hs;replace q3:=xJ q3;obtain⟨a,rfl,H4,g,q3⟩:=q3;obtain rfl:u=Value.ref a:=rx;exact NA hu I3 g ry rv fun s4 I4=>⟨σ,H4,I4,q3⟩
end
theorem CD(h:Heap)(hb:sysModules<h.objs.size):fA P w H (h.push {cls:=.type "dict",data:=.dict #[]}) h.objs.size (.dK []):=
 ⟨cG _,cV.mpr (cJ (bS hb)),[],.nil,Heap.DictOf.new h⟩
theorem VN(h:Heap)(hb:sysModules<h.objs.size):fA P w H (h.push {cls:=.type "dict",data:=.dict #[]}) h.objs.size (.dT []):=
 ⟨cG _,cV.mpr (cJ (bS hb)),[],.nil,_,#[],0,bT _ rfl,⟨rfl,rfl,rfl⟩,rfl,rfl,List.nodup_nil⟩
def kg:TE:=fun _ H Q=>∀p,H p=none->Q (.ref p) (upd H p (.dK []))
def DU:TE:=fun _ H Q=>∀p,H p=none->Q (.ref p) (upd H p (.dT []))
section
variable {pos:Pos}
theorem RO:PE X (.Dict [] [] pos) kg:=fun aJ s σ H Q I h=>
 wpAny_Dict_empty ⟨.ref s.heap.objs.size,_,I.laid (a:=s.heap.objs.size) (o:=.dK []) (t':=s.toks) (fun _ _ q=>aP _ q) (aG _) (CD s.heap I.big),rfl,h _ (I.hok.fresh (aG _))⟩
theorem AN:PE X (.Dict [] [] pos) DU:=fun aJ s σ H Q I h=>
 wpAny_Dict_empty ⟨.ref s.heap.objs.size,_,I.laid (a:=s.heap.objs.size) (o:=.dT []) (t':=s.toks) (fun _ _ q=>aP _ q) (aG _) (VN s.heap I.big),rfl,h _ (I.hok.fresh (aG _))⟩
end
def YX:List (TE×TE)->St->Hp->(List (V×V)->Hp->Prop)->Prop
 |[],_,H,Q=>Q [] H
 |(tk,tv)::r,σ,H,Q=>tk σ H fun x H1=>tv σ H1 fun y H2=>YX r σ H2 fun ps H3=>Q ((x,y)::ps) H3
abbrev VV:List (V×V)->List (Value×Value)->Prop:=Paired fun p q=>RelV p.1 q.1/\RelV p.2 q.2
def PPs(X:Cx)(pos:Pos)(keys:List (Option Expr))(values:List Expr)(trs:List (TE×TE)):Prop:=
 ∀(aJ:List (Addr×Obj)) (s:Shared) (σ:St) (H:Hp) (Q:List (V×V)->Hp->Prop),Inv X aJ σ H s->YX trs σ H Q->
  wpAny (model X.prog X.w) X.A (evalPairs (pairTrees keys values X.env pos)) (fun vs s'=>∃ps H',Inv X aJ σ H' s'/\VV ps vs/\Q ps H') X.xe s
theorem cv{pos:Pos}:PPs X pos [] [] []:=fun aJ s σ H Q I h=>pairTrees_nil_walk ⟨[],H,I,.nil,h⟩
theorem RJ{pos:Pos}{k v:Expr}{ks:List (Option Expr)}{vs:List Expr}{tk tv:TE}{trs:List (TE×TE)}(hk:PE X k tk)(hv:PE X v tv)(hr:PPs X pos ks vs trs):
 PPs X pos (some k::ks) (v::vs) ((tk,tv)::trs):=fun aJ s σ H Q I h=>
 pairTrees_cons_walk (eN (hk aJ s σ H _ I h) fun u s1 ⟨x,H1,I1,rx,q1⟩=>eN (hv aJ s1 σ H1 _ I1 q1) fun w2 s2 ⟨y,H2,I2,ry,q2⟩=>
  eN (hr aJ s2 σ H2 _ I2 q2) fun ws s3 ⟨ps,H3,I3,mT,q3⟩=>⟨(x,y)::ps,H3,I3,.cons ⟨rx,ry⟩ mT,q3⟩)
def vA(kvs more:List (eL×V)):List (eL×V):=more.foldl (fun acc kv=>jJ acc kv.1 kv.2) kvs
theorem KV.merge:∀{more:List (eL×V)}{rs:List (eL×Value)}{kvs:List (eL×V)}{vs:List (eL×Value)},KV more rs->KV kvs vs->KV (vA kvs more) (merged vs rs):=by
 intro more rs kvs vs r;unfold KV at r
 induction r generalizing kvs vs with
 |nil=>intro q;exact q
 |@cons p q ps qs h t ih=>
  intro r0;have e:KV (jJ kvs p.1 p.2) (stored vs q.1 q.2):=by
   have :=r0.put p.1 h.2;rw[←h.1];exact this
  exact ih e
theorem wF:∀(more kvs:List (eL×V)),(vA kvs more).length<=kvs.length+more.length
 |[],kvs=>by show kvs.length<=kvs.length+0;lia
 |p::r,kvs=>by
  have h1:=wF r (jJ kvs p.1 p.2);have h2:=qP kvs p.1 p.2;show(vA (jJ kvs p.1 p.2) r).length<=_;rw[bD];lia
theorem XZ{P:Program}{w:World}:∀{kvs:List (eL×V)}{ws:List (Value×Value)},VV (kvs.map fun kv=>(kV kv.1,kv.2)) ws->∃rs,Carries (yA P w) ws rs/\KV kvs rs
 |[],_,r=>by rw[pT]at r;cases r;exact⟨[],True.intro,.nil⟩
 |p::kvs,_,r=>by
  rw[cF]at r;cases r with
  |@cons a b as bs h t=>
   obtain⟨rs,c,q⟩:=XZ (P:=P) (w:=w) t;obtain⟨b1,b2⟩:=b;exact⟨(p.1,b2)::rs,⟨ZQ h.1,rfl,c⟩,.cons ⟨rfl,h.2⟩ q⟩
def tDisp(trs:List (TE×TE)):TE:=fun σ H Q=>∀p,H p=none->YX trs σ (upd H p (.dK [])) fun ps H2=>H2 p=some (.dK [])/\∃kvs:List (eL×V),ps=kvs.map (fun kv=>(kV kv.1,kv.2))/\kvs.length<=15/\Q (.ref p) (upd H2 p (.dK (vA [] kvs)))
theorem df{pos:Pos}{keys:List (Option Expr)}{values:List Expr}{trs:List (TE×TE)}(h:PPs X pos keys values trs)(hall:keys.all (·.isSome)=true)(hl:keys.length=values.length)(h0:keys≠[])
 (h15:keys.length<=15):PE X (.Dict keys values pos) (tDisp trs):=by
 intro aJ s σ H Q I q;have hn:=I.hok.fresh (aG s.heap.objs.size);have I1:=I.laid (a:=s.heap.objs.size) (o:=.dK []) (h':=s.heap.push {cls:=.type "dict",data:=.dict #[]}) (t':=s.toks) (fun _ _ q=>aP _ q) (aG _) (CD s.heap I.big);refine wpAny_Dict_walk (knd:=yA X.prog X.w) hall hl h0 h15 (eN (h aJ _ σ _ _ I1 (q _ hn)) fun ws s2 ⟨ps,H2,I2,mT,e,kvs,ep,lk,q2⟩=>?_);subst ep;obtain⟨rs,c,rk⟩:=XZ (P:=X.prog) (w:=X.w) mT;obtain⟨z,hd,vs0,r0,dd⟩:=jm I2.hok e;cases r0;refine⟨rs,c,dd,fun h' dd' hs=>⟨.ref s.heap.objs.size,_,?_,rfl,q2⟩⟩;have hz:(vA [] kvs).length<=sizeLine:=by
  have h1:=wF kvs [];rw[nT]at h1;rw[dE];lia
 have he:∃q,h'.get? s.heap.objs.size=some q:=let ⟨q,_,_,hq,_⟩:=dd';⟨q,hq⟩;exact vW I2 (by rw[e];exact True.intro) hs he (FZ hz hd (rk.merge .nil) dd')
structure M1(X:Cx)(o:Expr)(m:Str)(lV:Pos)(e:Expr)(iR:Pos):Prop where
 base:attributeBase o m X.env (eval o X.env)=eval o X.env
 few:((backTo iR (starEach [e] X.env)).all (fun x=>!x.1)&&(backToKw iR (keywordEach [] X.env)).all (fun x=>x.1.isSome)
  &&decide (([e]:List Expr).length+([]:List Keyword).length+(if([]:List Keyword).isEmpty then 0 else 1)<30))=true
 line:(lV.endLine==iR.line)=true
 trees:backTo iR (starEach [e] X.env)=[(false,eval e X.env)]
structure M2(X:Cx)(o:Expr)(m:Str)(lV:Pos)(e f:Expr)(iR:Pos):Prop where
 base:attributeBase o m X.env (eval o X.env)=eval o X.env
 few:((backTo iR (starEach [e,f] X.env)).all (fun x=>!x.1)&&(backToKw iR (keywordEach [] X.env)).all (fun x=>x.1.isSome)
  &&decide (([e,f]:List Expr).length+([]:List Keyword).length+(if([]:List Keyword).isEmpty then 0 else 1)<30))=true
 line:(lV.endLine==iR.line)=true
 trees:backTo iR (starEach [e,f] X.env)=[(false,eval e X.env),(false,eval f X.env)]
def IsD(H:Hp)(a:Addr):Prop:=(∃kvs,Rd H a (.dK kvs))\/∃kvs,Rd H a (.dT kvs)
theorem TK(I:Inv X aJ σ H s)(d:IsD H a):
 s.TypeIs (.ref a) "dict"/\(∀b,Value.ref a=.ref b->∃ob,s.heap.get? b=some ob/\ob.dict=none)/\(a==sysModules)=false:=by
 rcases d with⟨kvs,e⟩ |⟨kvs,e⟩
 ·obtain⟨_,hd,vs,_,dd⟩:=kL I.hok e;refine⟨dd.typeIs,fun b q=>?_,hd⟩;cases q;obtain⟨ob,_,_,h1,h2,_⟩:=dd;exact⟨ob,h1,h2.2.1⟩
 ·obtain⟨_,hd,xs,_,dd⟩:=XX I.hok e;refine⟨dd.typeIs,fun b q=>?_,hd⟩;cases q;obtain⟨ob,_,_,h1,h2,_⟩:=dd;exact⟨ob,h1,h2.2.1⟩
section
variable {d:V} {r:Value} {o:Option V}
theorem p9(hu:A.units+1<cLine)(I:Inv X aJ σ H s)(g:oA H a y o)(ry:RelV y u)(rd:RelV d r)(h:∀w' s',Inv X aJ σ H s'->RelV (o.getD d) w'->Q w' s'):
 wpAny (model X.prog X.w) A (call (.builtin "dict.get") [.ref a,u,r]) Q E s:=by
 rcases g with⟨kvs,k,e,ey,l⟩ |⟨kvs,k,b,e,ey,eb,l⟩
 ·subst ey;obtain⟨z,hd,vs,mT,dd⟩:=kL I.hok e;refine sQ iL dd.typeIs pQ (F.args_dict_get_3 _ _ _) (meets_dict_get_default (yA X.prog X.w) a (ZQ ry) hd r) ⟨_,dd.mapOf,h _ _ (I.tok _) ?_⟩;rw[l];exact(mT.val k).getD rd
 ·subst ey;cases (show u=Value.ref b from ry);obtain⟨z,hd,xs,mT,dd⟩:=XX I.hok e;refine sQ iL dd.typeIs pQ (F.args_dict_get_3 _ _ _) (meetsH_dict_get_default (tupleKind (yA X.prog X.w)) a b hd r) ⟨eG hu,k,xs,vC I.hok eb,dd,h _ _ (I.tok _) ?_⟩;rw[l];exact(mT.val k).getD rd
end
def OP(td ty tx:TE):TE:=fun σ H Q=>td σ H fun x H1=>mL x fun a=>IsD H1 a/\ty σ H1 fun y H2=>tx σ H2 fun z H3=>∃o,oA H3 a y o/\Q (o.getD z) H3
section
variable {f:Expr} {iR:Pos} {td ty tx:TE}
theorem RS(hu:X.A.units+1<cLine)(ho:PE X o td)(he:PE X e ty)(hf:PE X f tx)(m:M2 X o "get" lV e f iR):PE X (.Call (.Attribute o "get" lV) [e,f] [] iR) (OP td ty tx):=by
 intro aJ s σ H Q I h;refine ix m.base m.few m.line pK iL F.type_dict_get (eN (ho aJ s σ H _ I h) fun u s1 ⟨x,H1,I1,rx,q1⟩=>?_);replace q1:=xJ q1;obtain⟨a,rfl,d,q1⟩:=q1;obtain rfl:u=Value.ref a:=rx;obtain⟨t1,t2,_⟩:=TK I1 d;refine⟨t1,t2,?_⟩;rw[m.trees];refine iQ rfl (oK (gQ (eN (he aJ s1 σ H1 _ I1 q1) fun iv s2 ⟨y,H2,I2,ry,q2⟩=>
  gQ (eN (hf aJ s2 σ H2 _ I2 q2) fun fv s3 ⟨z,H3,I3,rz,ov,g,q3⟩=>nK ?_))))
 exact p9 hu I3 g ry rz fun w' s4 I4 rw'=>⟨_,H3,I4,rw',q3⟩
end
section
variable {kvs:List (eL×V)}
end
end L2
namespace Att
open PySem PySem.W PySem.Calls PyProof.Rows
theorem ZZ{P:Params}{h:Heap}:∀(ns:List Int)(vs:List Value),WellAll P h vs (ns.map WData.int)->IntsAre vs ns:=by
 intro ns
 induction ns with
 |nil=>
  intro vs w;rw[pT]at w;cases w;exact .nil
 |cons n ns ih=>
  intro vs w;rw[cF]at w;cases w with
  |cons a b=>
   cases a;exact .cons _ _ (ih _ b)
theorem LR{l:OpenLaw}{n:Nat}(hn:l.most=some n){P:Params}{h:Heap}{args:List WData}{vals:List Value}
 (hpre:l.row.toRowW.claim.pre args=true) (hwl:WellAll P h vals args):
 ∃a vs ns,vals=[Value.ref a]/\args=[WData.list (ns.map WData.int)]/\h.get? a=some {cls:=.type "list",data:=.seq vs.toArray}/\IntsAre vs ns/\ns.length<=n:=by
 have hsh:WShape.hasAll [] args [.list .int]=true:=(pre_splitW hpre).1;have hc:l.pre.holds [] {args:=args}=true:=(pre_splitW hpre).2;obtain⟨d,r,rfl,h1,h2⟩:=hasAllW_cons hsh;obtain rfl:=hasAllW_nil h2;obtain⟨xs,rfl,h3⟩:=hasW_list h1;obtain⟨ns,rfl⟩:=items_int h3;have eO:ns.length<=n:=by
  unfold OpenLaw.pre at hc;have h4:(WTm.not (.lt (.lit (.int (n:Int))) (.len (.arg 0)))).holds [] {args:=[.list (ns.map .int)]}=true:=by
   have h4:=(holds_andW hc).1;rw[hn]at h4;exact h4
  have h5:=condW_of h4 (w_not (w_lt w_lit (w_len_list (w_arg rfl))));rw[aE]at h5;refine Nat.le_of_not_lt fun q=>?_
  have q':(n:Int)<((ns.length:Nat):Int):=by lia
  first
   |(rw[eC q']at h5;exact absurd h5 (by decide))
   |(simp at h5;lia)
 cases hwl with
 |cons w1 w2=>
  cases w2;cases w1 with
  |list ho hall=>exact⟨_,_,ns,rfl,rfl,ho,ZZ ns _ hall,eO⟩
theorem LZ(l:OpenLaw)(args:List WData):l.row.toRowW.claim.post args (.bool true) args=true:=
 postW_of (r:=l.row.toRowW) (X:=(true==true))
  (show WShape.has [] (.bool true) .bool=true by first |rfl |decide |simp[WShape.has,WShape.arms,WShape.armsAll])
  (show(WTm.eq .res (.lit (.bool true))).value [] {args:=args,res:=some (.bool true),after:=args}=some (.bool (true==true))from w_eq_bool (w_res rfl) w_lit) rfl
theorem attach_call{l:OpenLaw}{n:Nat}{q:Program}{loose:List Str}{XP:(Str->Option Value)->Heap->Prop}{YP:World->Heap->Prop}{d:DefRec}
 (hn:l.most=some n) (hdf:d.params.defaults=[])
 (call:∀(w:World)(s₀ s₁:Shared)(mg mb:Str->Option Value)(fa:Addr)(o:Obj)(pm cd doc:Value)(a:Addr)(vs:List Value)(ns:List Int),
  Ground q loose [] XP w s₀ mg mb s₁.heap->YP w s₁.heap->
  s₁.heap.get? fa=some o->o.data=.func (docDef d.name d.params d.body d.scope pm cd doc)->s₁.heap.CodeRec cd d.name->mg d.name=some (.ref fa)->
  s₁.heap.get? a=some {cls:=.type "list",data:=.seq vs.toArray}->IntsAre vs ns->ns.length<=n->s₁.gens= #[]->
  codeAny (model l.prog w) callerA (.call (.ref fa) ⟨[.ref a],[]⟩) (fun r s'=>r=.ok (.ret (.bool true))/\OldK s₁.heap s'.heap/\s'.os=s₁.os/\AllBare s'.gens) s₁):
 WalkO q loose XP YP l.row.toRowW d [] (fun f vs=>PySem.call f vs):=by
 intro w s₀ s₁ mg mb G Y fa o pm cd doc dV kV ho hd hcd hD hmg hg args vals as hpre hlay hrd hwl hlo;obtain rfl:dV=.none:=Dflts.none hD hdf;obtain rfl:kV=.none:=Dflts.noKw hD;obtain⟨a,vs,ns,rfl,rfl,hobj,hints,eO⟩:=LR hn hpre hwl;refine enter_call (iy (call w s₀ s₁ mg mb fa o pm cd doc a vs ns G Y ho (fd_plain hd) hcd hmg hobj hints eO hg) fun r s' hq=>?_);obtain⟨rfl,h2,h3,h4⟩:=hq;exact⟨.inl ⟨.bool true,.bool true,[],rfl,fun _=>rfl,.bool true,LZ l _,fun _=>⟨List.Pairwise.nil,fun _ hm=>(nomatch hm)⟩⟩,h2,h3,h4⟩
section
variable {prog:Program} {w:World} {A:Around} {E:Value->Shared->Prop} {s:Shared} {K:Frag}
end
end Att
namespace L2
open PySem PySem.Spec PyProof.Rows
variable {a d f it l r:Addr} {A:Around} {G:Array GenState->Array GenState->Prop} {CX:jw} {X:Cx} {D:sO} {c e o tg:Expr} {fd:FuncData} {base h h':Heap} {H H':Hp} {aJ:List (Addr×Obj)} {fp:List Addr} {outer:List Env} {es:List Expr} {js:List Nat} {N ns ps ys:List Str} {ts:List Tm} {vs xs:List V} {its its':List Value} {M:Model} {i j n:Nat} {lV pos':Pos} {P prog:Program} {K:W.Frag} {R:Result->Shared->Prop} {s:Shared} {sp:Sp} {σ:St} {qual:Str} {mg:Str->Option Value} {T:String} {ta te:TE} {tb:TS} {α:Type} {v:V} {u:Value} {E Q:Value->Shared->Prop} {w:World}
local macro_rules | `(()) => `(by lia)
theorem JQ:∀{vs:List Value}{ns:List Int},IntsAre vs ns->dD (ns.map V.int) vs
 |_,_,.nil=>.nil
 |_,_,.cons n t h=>.cons ⟨t,rfl⟩ (JQ h)
def qm(H:Hp):Prop:=∀b,H b=none\/∃o xs,H b=some (.frz o (.lst xs))
theorem TC{mb:Str->Option Value}{k:Nat}{fa:Addr}{x:Str}{s₁:Shared}{vs:List Value}{ns:List Int}
 (KX:K.In s₁.heap) (hns:s₁.heap.Ns mainGlobals mg) (hb:s₁.heap.Ns builtinsNs mb) (hbb:∀x:Str,x≠"__name__"->mb x=bootBuiltins x) (hlim:s₁.heap.NoLimit) (hg:s₁.gens= #[])
 (ha:s₁.heap.get? a=some {cls:=.type "list",data:=.seq vs.toArray}) (hi:IntsAre vs ns) (hl:ns.length<=sizeLine) (hr:hZ k callerA)
 (F:∀base:Heap,K.In base->base.Ns mainGlobals mg->dI P w K mg base CX k fa fd [x] sp) (hbind:∀(s:Shared)(u:Value),BindsTo s fd ⟨[u],[]⟩ [(x,u)])
 (hsp:∀H:Hp,qm H->dL K H a (ns.map V.int)->sp [.ref a] H (fun v _=>v=.bl true) fun _ _ _=>False)
 (hCX:∀H e s',CX [] H s₁ (fun _ _ _=>False) e s'->False):
 codeAny (model P w) callerA (.call (.ref fa) ⟨[.ref a],[]⟩) (fun r s'=>r=.ok (.ret (.bool true))/\OldK s₁.heap s'.heap/\s'.os=s₁.os/\AllBare s'.gens) s₁:=by
 have rv:=JQ hi;have lenV:=hi.length;have core:∀H:Hp,qm H->dL K H a (ns.map V.int)->mO P w H s₁.heap->(∀b,H b≠none->b=a)->(H a≠none->K.lookup a=none)->
  codeAny (model P w) callerA (.call (.ref fa) ⟨[.ref a],[]⟩) (fun r s'=>r=.ok (.ret (.bool true))/\OldK s₁.heap s'.heap/\s'.os=s₁.os/\AllBare s'.gens) s₁:=by
  intro H hO hS hok hA hK;have base_of:∀{b:Addr}{o:Obj},s₁.heap.get? b=some o->H b=none->(UX s₁.heap H).get? b=some o:=fun e n=>TR e n
  have noA:∀{b:Addr}{o:Obj}{es:Array DictEntry}{ep:Nat},s₁.heap.get? b=some o->o.data=.dict es ep->H b=none:=fun{b o es ep} e d=>by
   cases q:H b with
   |none=>rfl
   |some u=>
    have e':b=a:=hA b (by rw[q];simp);subst e';rw[ha]at e;cases e;have d':Data.seq vs.toArray _=Data.dict es ep:=d;cases d'
  have nsK:∀{b:Addr}{m:Str->Option Value},s₁.heap.Ns b m->(UX s₁.heap H).Ns b m:=fun{b m} ⟨o,es,ep,e,d,r⟩=>⟨o,es,ep,base_of e (noA e d),d,r⟩
  have hKb:K.In (UX s₁.heap H):=fun b o e=>base_of (KX b o e) (by
   cases q:H b with
   |none=>rfl
   |some u=>
    have e':b=a:=hA b (by rw[q];simp);subst e';rw[hK (by rw[q];simp)]at e;cases e)
  have hM:Mod K mg (UX s₁.heap H):=⟨hKb,nsK hns,⟨mb,nsK hb,hbb⟩,let ⟨mc,h1,h2⟩:=hlim;⟨mc,nsK h1,h2⟩⟩
  have e0:GP P w K mg (UX s₁.heap H) callerA [] s₁ H:=⟨rfl,hM,fun b o e=>d9 e,Nat.le_of_eq (MW _ _),trivial,fun b hb=>absurd (show b∈([]:List Addr)from hb) (by simp),hok,.of_eq hg⟩
  refine iy ((F _ hKb (nsK hns)).run callerA [] s₁ H ⟨[.ref a],[]⟩ [.ref a] [.ref a] _ _ hr e0 (hbind s₁ (.ref a)) (.cons rfl .nil) (hsp H hO hS)) fun r s' h=>?_
  cases r with
  |error e=>exact(hCX H e s' h).elim
  |ok fl=>
   cases fl with
   |next=>exact False.elim h
   |brk=>exact False.elim h
   |cont=>exact False.elim h
   |ret u=>
    obtain⟨v,H',os,bare,un,hok',r',q⟩:=h;have q':v=.bl true:=q;subst q';obtain rfl:u=Value.bool true:=r';refine⟨rfl,OldK.of_keep fun b o e=>?_,os,bare⟩;cases q:H b with
    |none=>exact un.keep b o e q (by intro z;exact absurd (show b∈([]:List Addr)from z) (by simp)) (by simp)
    |some u=>
     rcases hO b with z |⟨ob,xs,z⟩
     ·rw[q]at z;cases z
     ·have z2:=un.frzs b ob _ z;obtain⟨e1,_⟩:=hok b _ z;obtain⟨e2,_⟩:=hok' b _ z2;rw[e]at e1;cases e1;exact e2
 cases hk:K.lookup a with
 |some o=>
  have e:=KX a o hk;rw[ha]at e;cases e;refine core (fun _=>none) (fun _=>.inl rfl) (.inr ⟨_,vs.toArray,_,hk,rfl,rfl,rfl,by rw[aQ,lenV];exact hl,by simpa using rv⟩) (fun b u z=>by have z':(none:Option HO)=some u:=z;cases z') (fun b z=>absurd rfl z) fun z=>absurd rfl z
 |none=>
  refine core (fun b=>if b=a then some (.frz {cls:=.type "list",data:=.seq vs.toArray} (.lst (ns.map V.int)))else none) (fun b=>?_) (.inl (.inr ⟨{cls:=.type "list",data:=.seq vs.toArray},aL rfl⟩)) (fun b u z=>?_) (fun b z=>?_) fun _=>hk
  ·by_cases hb:b=a
   ·exact .inr ⟨_,_,aL hb⟩
   ·exact .inl (aH hb)
  ·by_cases hb:b=a
   ·have z':=(aL hb).symm.trans z;cases z';subst hb;exact⟨ha,by rw[aE];exact hl,vs,_,rv,ha⟩
   ·have z':=(aH hb).symm.trans z;cases z'
  ·by_cases hb:b=a
   ·exact hb
   ·exact absurd (aH hb) z
theorem walk_of{l:W.OpenLaw}{k:Nat}{q:Program}{loose:List Str}{XP:(Str->Option Value)->Heap->Prop}{YP:World->Heap->Prop}{d:DefRec}{K:Params->W.Frag}{CX:World->jw}{sp:World->Sp}{x:Str}
 (hn:l.most=some n) (hn2:n<=sizeLine) (hdf:d.params.defaults=[]) (hr:hZ k callerA)
 (hY:∀(w:World)(h:Heap),YP w h->(K w.params).In h)
 (F:∀(w:World)(mg:Str->Option Value)(fa:Addr)(h:Heap),(K w.params).In h->h.Ns mainGlobals mg->mg d.name=some (.ref fa)->
  ∃fd:FuncData,(∀(s:Shared) (u:Value),BindsTo s fd ⟨[u],[]⟩ [(x,u)])/\
   ∀base:Heap,(K w.params).In base->base.Ns mainGlobals mg->dI l.prog w (K w.params) mg base (CX w) k fa fd [x] (sp w))
 (hsp:∀(w:World)(H:Hp)(a:Addr)(ns:List Int),ns.length<=n->qm H->dL (K w.params) H a (ns.map V.int)->sp w [.ref a] H (fun v _=>v=.bl true) fun _ _ _=>False)
 (hCX:∀(w:World)(H:Hp)(s:Shared)(e:Value)(s':Shared),CX w [] H s (fun _ _ _=>False) e s'->False):
 W.WalkO q loose XP YP l.row.toRowW d [] (fun f vs=>PySem.call f vs):=by
 refine Att.attach_call hn hdf fun w s₀ s₁ mg mb fa o pm cd doc a vs ns G Y ho hd hcd hmg hobj hints eO hg=>?_
 have KX:=hY w _ Y;obtain⟨fd,hb,hF⟩:=F w mg fa _ KX G.T.g hmg;exact TC KX G.T.g G.T.b G.T.builtins G.T.nolimit hg hobj hints (cP eO hn2) hr hF hb (fun H hO hS=>hsp w H a ns eO hO hS) fun H e s'=>hCX w H s₁ e s'
def qQ(s:Stmt)(j:Nat):Stmt:=match s with
 | .ClassDef _ _ _ body _ _ _ _ _ _ _=>body.getD j (.Pass ⟨0,0,0,0⟩)
 |_=>.Pass ⟨0,0,0,0⟩
def jP(s:Stmt):Arguments:=match s with
 | .FunctionDef _ a _ _ _ _ _ _ _ _=>a
 |_=>{posonlyargs:=[],args:=[],vararg:=none,kwonlyargs:=[],kw_defaults:=[],kwarg:=none,defaults:=[]}
def xW(s:Stmt):List Stmt:=match s with
 | .FunctionDef _ _ b _ _ _ _ _ _ _=>b
 |_=>[]
def zK(s:Stmt):Scope:=match s with
 | .FunctionDef _ _ _ _ _ _ sc _ _ _=>sc
 |_=>{kind:=.function,names:=[],isGenerator:=false,isCoroutine:=false}
abbrev fY:jw:=fun _ _ _ _ _ _=>False
abbrev E0:XK:=fun _ _ _=>False
theorem II:ZK fY X E0:=fun _ _ _ _ _ _ _ h=>h.elim
structure gS(K:W.Frag)(x qual:Str)(st:Stmt)(f:Addr)(fd:FuncData):Prop where
 ex:∃(oc:Value)(od:Option Addr)(kV doc pm:Value)(an:Option Addr)(fL ct:Value)(osl:Array (Option Value)),
  fd=W.fnOf x qual (jP st) (xW st) (zK st) .none kV doc pm an fL ct/\K.lookup f=some ⟨oc,od,.func fd,osl⟩/\W.codeIn K fL qual=true
 kp:W.keepIn K (.ref f)=true
theorem gS.ok{x:Str}{st:Stmt}{k:Nat}(F:gS K x qual st f fd)(S:bZ N ps (zK st))(len:∀vs H Q E,sp vs H Q E->vs.length=ps.length)
 (hbody:∀(fL:Value)(A:Around)(outer:List Env)(s:Shared)(H:Hp)(vs:List V)(Q:VK)(E:XK),hZ k (A.deeper (envOfC qual (zK st) s.heap.objs.size f fL))->sp vs H Q E->
  ∃t,GN (XY fY P w K mg base N qual (zK st) f fL A outer s H E).nox (xW st) t/\t {nx:=fun _ H'=>Q .non H',rt:=Q} (uP N vs) H):dI P w K mg base fY (k+1) f fd ps sp:=by
 obtain⟨oc,od,kV,doc,pm,an,fL,ct,osl,rfl,lk,hcd⟩:=F.ex;refine fn_of lk hcd S len fun A outer s H vs Q E hr hsp=>?_
 obtain⟨t,h,q⟩:=hbody fL A outer s H vs Q E hr hsp;exact⟨t,h.nox,q⟩
theorem gS.binds{x:Str}{st:Stmt}(F:gS K x qual st f fd)
 (h:∀(kV doc pm:Value)(an:Option Addr)(fL ct:Value)(us:List Value),us.length=ps.length->bindArgs (W.fnOf x qual (jP st) (xW st) (zK st) .none kV doc pm an fL ct) ⟨us,[]⟩=pure (ps.zip us)):Binds K fd ps []:=by
 obtain⟨oc,od,kV,doc,pm,an,fL,ct,osl,rfl,lk,hcd⟩:=F.ex;exact .all (h kV doc pm an fL ct)
theorem FV{x:Str}{st:Stmt}{oc:Value}{od an:Option Addr}{osl:Array (Option Value)}{kV doc pm fL ct:Value}(l:K.lookup f=some ⟨oc,od,.func (W.fnOf x qual (jP st) (xW st) (zK st) .none kV doc pm an fL ct),osl⟩)
 (c:W.codeIn K fL qual=true) (k:W.keepIn K (.ref f)=true):gS K x qual st f (W.fnOf x qual (jP st) (xW st) (zK st) .none kV doc pm an fL ct):=⟨⟨oc,od,kV,doc,pm,an,fL,ct,osl,rfl,l,c⟩,k⟩
theorem xU{k:Nat}(hr:hZ k A):A.units+1<cLine:=fG (Nat.add_le_add_left (by decide:1<=64) _) hr.units
theorem vQ(h:n<=1000):n<sizeLine:=fG h (by decide)
theorem pv(i:Nat){x:Str}{pos:Pos}(hN:X.N[i]?=some x:=by rfl)(hv:Vis X.env.scope x:=by first |exact Or.inl rfl |exact Or.inr (Or.inl rfl) |exact Or.inr (Or.inr rfl))(hd:(x==("__debug__":Str))=false:=by decide)
 (hcd:(x==("__classdict__":Str))=false:=by decide):PE X (.Name x pos) (tVar i):=RM hN hv hd hcd
theorem iteF{A B:Prop}(h:B):if false=true then A else B:=by
 rw[aH cI];exact h
theorem iteT{A B:Prop}(h:A):if true=true then A else B:=by
 rw[aL rfl];exact h
def bB(H H':Hp):Prop:=∀b o,H b=some o->H' b=some o
theorem bB.refl(H:Hp):bB H H:=fun _ _ h=>h
theorem bB.trans{H1 H2:Hp}(a:bB H H1)(b:bB H1 H2):bB H H2:=fun c o h=>b c o (a c o h)
theorem bB.free(e:bB H H')(h:H' l=Option.none):H l=Option.none:=by
 cases q:H l with
 |none=>rfl
 |some o=>
  rw[e l o q]at h;cases h
theorem bB.seq(e:bB H H')(h:dL K H a xs):dL K H' a xs:=by
 rcases h with(h |⟨o,h⟩) |h
 ·exact .inl (.inl (e _ _ h))
 ·exact .inl (.inr ⟨o,e _ _ h⟩)
 ·exact .inr h
section
variable {κ:Type} [DecidableEq κ]
end
def jI(env:Env):List (Str×NameKind)->List (Str×Addr)->List (Str×Addr)
 |[],cs=>cs
 |(n,k)::r,cs=>if(k==NameKind.free)=true then jI env r ((n,(env.cells.lookup n).getD 0)::cs)else jI env r cs
theorem wG{scope:Scope}{env:Env}(h:∀x∈scope.names,x.2=.free->∃c,env.cells.lookup x.1=some c):closureFor scope env=pure (jI env scope.names []):=by
 unfold closureFor;have go:∀(l:List (Str×NameKind))(cs:List (Str×Addr)),(∀x∈l,x.2=.free->∃c,env.cells.lookup x.1=some c)->
  (forIn l cs fun(x:Str×NameKind) (r:List (Str×Addr))=>(match x with
   |(name,kind)=>if(kind==NameKind.free)=true then do let a ←cellOf env name;pure (ForInStep.yield ((name,a)::r))else pure (ForInStep.yield r):Sem (ForInStep (List (Str×Addr)))))=(pure (jI env l cs):Sem (List (Str×Addr))):=by
  intro l
  induction l with
  |nil=>intro cs _;rfl
  |cons x r ih=>
   intro cs hl;obtain⟨n,k⟩:=x;rw[List.forIn_cons];by_cases hk:(k==NameKind.free)=true
   ·obtain⟨c,hc⟩:=hl (n,k) bF (by simpa using hk);have e:cellOf env n=pure c:=by unfold cellOf;rw[hc]
    simp only[hk,if_true,e,pure_bind];rw[ih _ fun y hy=>hl y (bE _ hy)];rw[jI,aL hk,hc];rfl
   ·simp only[hk,dP,bV,pure_bind];rw[ih _ fun y hy=>hl y (bE _ hy)];rw[jI,aH hk]
 have q:=go scope.names [] h;simp only[pure_bind,bind_pure]at q⊢;exact q
theorem uG{env:Env}{y:Str}{c:Addr}:∀(l:List (Str×NameKind))(cs:List (Str×Addr)),(∀x∈l,x.2=.free->∃c,env.cells.lookup x.1=some c)->
 (∀z d,cs.lookup z=some d->env.cells.lookup z=some d)->(jI env l cs).lookup y=some c->env.cells.lookup y=some c
 |[],cs,_,hc,e=>hc _ _ e
 |(n,k)::r,cs,h,hc,e=>by
  have hr:∀x∈r,x.2=.free->∃c,env.cells.lookup x.1=some c:=fun x hx=>h x (bE _ hx)
  by_cases hk:(k==NameKind.free)=true
  ·rw[jI,aL hk]at e;refine uG r _ hr (fun z d ez=>?_) e;obtain⟨c',hc'⟩:=h (n,k) bF (by simpa using hk);rw[bN]at ez;cases hz:z==n with
   |true=>
    rw[hz]at ez;have hz':z=n:=eq_of_beq hz;subst hz';have e2:(env.cells.lookup z).getD 0=d:=dC ez;have hc'':env.cells.lookup z=some c':=hc';rw[hc'']at e2⊢;exact dH some e2
   |false=>rw[hz]at ez;exact hc z d ez
  ·rw[jI,aH hk]at e;exact uG r cs hr hc e
theorem vX{env:Env}{y:Str}:∀(l:List (Str×NameKind))(cs:List (Str×Addr)),((y,NameKind.free)∈l\/∃c,cs.lookup y=some c)->∃c,(jI env l cs).lookup y=some c
 |[],cs,h=>h.elim (fun z=>nomatch z) fun z=>z
 |(n,k)::r,cs,h=>by
  by_cases hk:(k==NameKind.free)=true
  ·rw[jI,aL hk];refine vX r _ ?_;rcases h with h |⟨c,h⟩
   ·rcases bJ.mp h with h |h
    ·cases h;exact .inr ⟨_,by rw[bN,dU]⟩
    ·exact .inl h
   ·cases hz:y==n with
    |true=>exact .inr ⟨_,by rw[bN,hz]⟩
    |false=>exact .inr ⟨c,by rw[bN,hz];exact h⟩
  ·rw[jI,aH hk];refine vX r _ ?_;rcases h with h |h
   ·rcases bJ.mp h with h |h
    ·cases h;exact absurd rfl hk
    ·exact .inl h
   ·exact .inr h
theorem qG{env:Env}:∀{names:List (Str×NameKind)}{x:Str}{k':NameKind},
 (names.map fun(n,k)=>if(k==NameKind.free&&env.scope.kind==.function&&env.kindOf n==some .cell)then(n,NameKind.cell)else(n,k)).lookup x=some k'->
 names.lookup x=some k'\/(names.lookup x=some .free/\k'=.cell)
 |[],_,_,h=>by simp at h
 |(n,k)::r,x,k',h=>by
  have ih:=@qG env r x k';have h:List.lookup x ((if(k==NameKind.free&&env.scope.kind==.function&&env.kindOf n==some .cell)=true then(n,NameKind.cell)else(n,k))::_)=some k':=h;rw[bN];by_cases hc:(k==NameKind.free&&env.scope.kind==.function&&env.kindOf n==some .cell)=true
  ·rw[aL hc,bN]at h;cases hx:x==n with
   |true=>
    rw[hx]at h;have e1:NameKind.cell=k':=dC h;simp only[bY]at hc;exact .inr ⟨dH some (eq_of_beq hc.1.1),e1.symm⟩
   |false=>rw[hx]at h;exact ih h
  ·rw[aH hc,bN]at h;cases hx:x==n with
   |true=>rw[hx]at h;exact .inl h
   |false=>rw[hx]at h;exact ih h
theorem wX{env:Env}:∀{names:List (Str×NameKind)}{x:Str},names.lookup x=some .free->
 (names.map fun(n,k)=>if(k==NameKind.free&&env.scope.kind==.function&&env.kindOf n==some .cell)then(n,NameKind.cell)else(n,k)).lookup x=some .cell\/
 (names.map fun(n,k)=>if(k==NameKind.free&&env.scope.kind==.function&&env.kindOf n==some .cell)then(n,NameKind.cell)else(n,k)).lookup x=some .free
 |[],_,h=>by simp at h
 |(n,k)::r,x,h=>by
  have ih:=@wX env r x;show List.lookup x ((if(k==NameKind.free&&env.scope.kind==.function&&env.kindOf n==some .cell)=true then(n,NameKind.cell)else(n,k))::_)=_\/List.lookup x ((if(k==NameKind.free&&env.scope.kind==.function&&env.kindOf n==some .cell)=true then(n,NameKind.cell)else(n,k))::_)=_;rw[bN]at h;by_cases hc:(k==NameKind.free&&env.scope.kind==.function&&env.kindOf n==some .cell)=true
  ·rw[aL hc,bN];cases hx:x==n with
   |true=>exact .inl rfl
   |false=>rw[hx]at h;exact ih h
  ·rw[aH hc,bN];cases hx:x==n with
   |true=>rw[hx]at h;exact .inr h
   |false=>rw[hx]at h;exact ih h
structure nF(xs ys:List Str)(scope around:Scope):Prop where
 kind:scope.kind=.function
 nd:(xs++ys).Nodup
 own:∀x∈xs,scope.names.lookup x=some .local
 cap:∀y∈ys,scope.names.lookup y=some .free/\(around.names.lookup y=some .cell\/around.names.lookup y=some .free)
 nocell:∀y∈scope.names,y.2≠.cell
 names:∀y∈scope.names,y.2=.local->scope.names.lookup y.1=some .local
 free:∀y∈scope.names,y.2=.free->y.1∈ys
def yQ(X:Cx)(xs ys:List Str)(scope:Scope)(C:Addr)(s₀:Shared)(H₀:Hp)(fp:List Addr):Cx where
 prog:=X.prog
 w:=X.w
 K:=X.K
 mg:=X.mg
 base:=X.base
 A:=X.A
 N:=xs++ys
 s₀:=s₀
 H₀:=H₀
 env:=compEnvC scope (jI X.env scope.names []) C X.env
 outer:=X.stack
 stack:=X.stack
 ex:=fp
 fn:=fun _=>false
 calm:=X.calm
 pn:=[]
 xe:=fun _ _=>False
def JL(xs:List Str)(js:List Nat)(σ:St):St:=xs.map (fun _=>none)++js.map fun j=>(σ[j]?).join
def ai(J:It)(n:List Str)(js:List Nat)(g:TG)(tc:Option TT)(te:TE)(σ:St)(H1:Hp)(Q:VK):Prop:=∃W:Nat->Nat->List V->St->Hp->Prop,(∃m,W 0 m [] (JL n js σ) H1)/\∀i m ys σ1 H,W i m ys σ1 H->
 (J.stop i H/\∀p,H p=none->Q (.ref p) (upd H p (.lst ys)))\/
 (J.go i H/\ys.length<sizeLine/\∀x H',J.yld i H x H'->g x σ1 H' fun σ2 H2=>match tc with
  |none=>te σ2 H2 fun y H3=>∃m',m'<m/\W (i+1) m' (ys++[y]) σ2 H3
  |some c=>c σ2 H2 fun b H3=>if b=true then te σ2 H3 fun y H4=>∃m',m'<m/\W (i+1) m' (ys++[y]) σ2 H4 else∃m',m'<m/\W (i+1) m' ys σ2 H3)
def tLC(n:List Str)(js:List Nat)(wi:TI)(g:TG)(tc:Option TT)(te:TE):TE:=fun σ H Q=>wi σ H fun J H1=>ai J n js g tc te σ H1 Q
def ii(X:Cx)(ifs:List Expr)(tc:Option TT):Prop:=match ifs,tc with
 |[],none=>True
 |[c],some t=>PT X c t
 |_,_=>False
section
variable {xs:List Str} {scope:Scope} {C D:Addr}
def WQ(X:Cx)(ys:List Str)(js:List Nat):Prop:=js.length=ys.length/\∀(i:Nat)(y:Str)(j:Nat),ys[i]?=some y->js[i]?=some j->X.N[j]?=some y
theorem VF(I:Inv X aJ σ H s)(S:nF xs ys scope X.env.scope):∀x∈scope.names,x.2=.free->∃c,X.env.cells.lookup x.1=some c:=fun x hx hf=>
 I.ok.has x.1 ((S.cap x.1 (S.free x hx hf)).2.elim .inl .inr)
theorem NF(I:Inv X aJ σ H s)(S:nF xs ys scope X.env.scope){y:Str}{c:Addr}(e:(jI X.env scope.names []).lookup y=some c):X.env.cells.lookup y=some c:=
 uG scope.names [] (VF I S) (fun _ _ z=>nomatch z) e
theorem CO(I:Inv X aJ σ H s)(S:nF xs ys scope X.env.scope)(hj:WQ X ys js)(f2:∀b∈fp,JG X aJ H b)(fo:∀b∈fp,b<s.heap.objs.size)
 {h₁:Heap} {m:Str->Option Value} {tk:Nat} {oD:Obj} (hC:s.heap.objs.size<=C) (hD:s.heap.objs.size<=D) (hDC:D≠C) (hn:h₁.Ns C m) (hd:h₁.get? D=some oD) (hdd:∀v,oD.data≠.cell v)
 (old:∀b o,s.heap.get? b=some o->h₁.get? b=some o):
 Inv (yQ X xs ys scope C s H fp) [(D,oD)] (JL xs js σ) H {s with heap:=h₁,toks:=tk}:=by
 have cl:=fun y c=>NF (y:=y) (c:=c) I S
 have nC:H C=none:=I.hok.fresh hC;have nD:H D=none:=I.hok.fresh hD;have lt_of:∀{b:Addr},b<s.heap.objs.size->b≠C:=fun hb=>bS (cH hb hC)
 have fsub:∀b,b∈FW X.stack->b∈X.env.locals::X.fs:=I.stkSub;refine⟨⟨I.ok.mod,?_,I.ok.glob,I.ok.blt,hC,fun x y c h1 h2=>I.ok.inj x y c (cl x c h1) (cl y c h2),fun x hx=>?_,(fun x c h=>nomatch h),I.ok.hd,I.ok.frames,.inl rfl,fun b hb=>⟨lt_of (fo b hb),fun x c h=>(f2 b hb).2.2.2.2.1 x c (cl x c h)⟩,I.bs,
  cP I.ok.bsz I.sz,fun b o e hb=>?_,fun b hb hf=>?_,I.stack,I.stkFree⟩,
  rfl,I.bare,Un.kept old,⟨m,hn,fun i x v e1 e2 e3=>?_⟩,fun x c h=>?_,nC,fun x c h=>I.freeC x c (cl x c h),fun p hp=>?_,I.hok.kept old,?_⟩
 ·show scope.kind=_;exact S.kind
 ·have hx:(relabel scope X.env).names.lookup x=some .cell\/(relabel scope X.env).names.lookup x=some .free:=hx;have hm:(x,NameKind.free)∈scope.names:=by
   rcases hx with hx |hx
   ·rcases qG hx with z |z
    ·exact absurd rfl (S.nocell _ (eJ z))
    ·exact eJ z.1
   ·rcases qG hx with z |z
    ·exact eJ z
    ·exact nomatch z.2
  exact vX scope.names [] (.inl hm)
 ·rcases(f2 b hb).2.2.2.1 with z |z
  ·exact I.ok.noex b o e z
  ·exact absurd (cH (bA e) (cP I.ok.bsz z)) (eE _)
 ·rcases bJ.mp (fsub b hf)with z |z
  ·exact(f2 b hb).2.1 z
  ·exact(f2 b hb).2.2.1 z
 ·have e1:(xs++ys)[i]?=some x:=e1;have e2:(xs.map (fun _=>(none:Option V))++js.map fun j=>(σ[j]?).join)[i]?=some (some v):=e2;by_cases hi:i<xs.length
  ·rw[bC (by simpa using hi),aK]at e2;cases q:xs[i]? with
   |none=>rw[q]at e2;cases e2
   |some z=>rw[q]at e2;cases e2
  ·rw[bL (by simpa using hi),aE,aK]at e2;rw[bL (by simpa using hi)]at e1;cases q:js[i-xs.length]? with
   |none=>rw[q]at e2;cases e2
   |some j=>
    rw[q]at e2;have e2':(σ[j]?).join=some v:=dC e2;have hy:=hj.2 _ _ _ e1 q;have hσ:σ[j]?=some (some v):=by
     cases z:σ[j]? with
     |none=>rw[z]at e2';cases e2'
     |some t=>rw[z]at e2';exact dH some e2'
    have ym:x∈ys:=aX e1;obtain⟨cf,ca⟩:=S.cap x ym;obtain⟨m0,_,hl⟩:=I.loc;obtain⟨u,ru,lk⟩:=hl j x v hy hσ (ca.elim (fun z=>.inr (.inl z)) fun z=>.inr (.inr z));refine⟨u,ru,.inr ⟨?_,?_⟩⟩
    ·exact wX (env:=X.env) cf
    ·rcases lk with⟨k,_⟩ |⟨_,c,ec,zc⟩
     ·have k:X.env.scope.names.lookup x=some .local:=k;rcases ca with z |z<;> ·rw[k]at z;cases z
     ·obtain⟨c',ec'⟩:=vX (env:=X.env) (y:=x) scope.names [] (.inl (eJ cf));have e3:=cl x c' ec';rw[ec]at e3;cases e3;obtain⟨o,ho,hod⟩:=zc;exact⟨_,ec',o,old _ _ ho,hod⟩
 ·obtain⟨v,o,ho,hod⟩:=I.cell x c (cl x c h);exact⟨v,o,old _ _ ho,hod⟩
 ·have hp:p∈[(D,oD)]:=by simpa[yQ]using hp
  have e:=aT.mp hp;subst e;refine⟨hd,nD,hDC,fun hf=>?_,hdd⟩;have hf:D∈FW X.stack:=hf;obtain⟨o,ho⟩:∃o,s.heap.get? D=some o:=by
   rcases bJ.mp (fsub D hf)with z |z
   ·obtain⟨m0,⟨o,_,_,ho,_⟩,_⟩:=I.loc;have z:D=X.env.locals:=z;exact⟨o,z▸ho⟩
   ·exact absurd z (I.nofs hD)
  exact absurd (bA ho) (Nat.not_lt.mpr hD)
 ·show(xs.map (fun _=>(none:Option V))++js.map fun j=>(σ[j]?).join).length=(xs++ys).length;rw[aI,aI,aE,aE,hj.1]
end
section
variable {xs:List Str} {scope:Scope} {iter elt:Expr} {ifs:List Expr} {pos:Pos} {wi:TI} {g:TG} {tc:Option TT}
theorem JP{t:Sem α}{Q:α->Shared->Prop}(h:wpAny M A t Q (fun _ _=>False) s):wpAny M A t Q E s:=lH h (fun _ _ x=>x) fun _ _ z=>z.elim
theorem VD{it acc:Value}{env:Env}(J:Nat->Shared->Prop)
 (turn:∀n s,J n s->wpAny (model prog w) A (pyNext it) (fun r s₁=>match r with
  |none=>R (.ok .next) s₁
  |some v=>wpAny (model prog w) A (letOwnedTupleGo tg it v) (fun _ s₁'=>wpAny (model prog w) A (assign tg env v) (fun _ s₂=>
   wpAny (model prog w) A (forIn ifs true fun c r=>if r=true then do let ok ←isTrue c env (eval c env);pure (ForInStep.yield ok)else pure (ForInStep.yield r)) (fun ok s₃=>
    if ok=true then wpAny (model prog w) A (eval elt env) (fun x s₄=>
     wpAny (model prog w) A (call (.builtin "list.append") [acc,x]) (fun _ s₅=>∃m,m<n/\J m s₅) (fun _ _=>False) s₄) (fun _ _=>False) s₃
    else∃m,m<n/\J m s₃) (fun _ _=>False) s₂) (fun _ _=>False) s₁') (fun _ _=>False) s₁) (fun _ _=>False) s)
 (n:Nat) (h:J n s):codeAny (model prog w) A (.compLoop (.ListComp elt [⟨tg,iter,ifs,0⟩] scope pos) 0 it acc env) R s:=by
 refine codeAny_loop rfl J (fun n s hI=>?_) n h;show wpAny _ A ((compTurn (.ListComp elt [⟨tg,iter,ifs,0⟩] scope pos) 0 it acc env).onRaise (fun x=>do noteFrame x env;theTreesLotGoes x)) _ _ s;refine wpAny_noted ?_;rw[compTurn_list];refine aF (wpAny_standAt (aF (JP (eN (turn n s hI) fun r s₁ h₁=>?_))));cases r with
 |none=>exact aR h₁
 |some v=>
  refine aF (JP (eN h₁ fun _ s₁' h₁'=>aF (JP (eN h₁' fun _ s₂ h₂=>aF (JP (eN h₂ fun ok s₃ h₃=>?_))))));cases ok with
  |false=>exact aR ⟨rfl,h₃⟩
  |true=>exact aF (aF (JP (eN h₃ fun x s₄ h₄=>aF (JP (eN h₄ fun _ s₅ h₅=>aR (aR ⟨rfl,h₅⟩))))))
structure LC(X:Cx)(aJ:List (Addr×Obj))(σ:St)(C:Addr)(H':Hp)(s':Shared):Prop where
 inv:Inv X aJ σ H' s'
 ns:∃m,s'.heap.Ns C m
 free:H' C=none
 ne:C≠X.env.locals
 up:X.s₀.heap.objs.size<=C
 cells:∀x c,X.env.cells.lookup x=some c->c≠C
 pin:∀p∈X.pn++aJ,p.1≠C
theorem LC.gone{C:Addr}{s':Shared}(L:LC X aJ σ C H' s')(hs:Heap.SameBut C s'.heap h'):Inv X aJ σ H' {s' with heap:=h'}:=
 L.inv.turned (t':=s'.toks) (fun b o hb e=>hs.extBut b o hb e) L.free L.ne (.inr L.up) L.cells L.pin
theorem IT(hc:X.calm=true)(S:nF xs ys scope X.env.scope)(hj:WQ X ys js)(hi:PI X tg iter wi)
 (hg:∀C s₀ H₀ fp,PG (yQ X xs ys scope C s₀ H₀ fp) tg g) (hif:∀C s₀ H₀ fp,ii (yQ X xs ys scope C s₀ H₀ fp) ifs tc) (he:∀C s₀ H₀ fp,PE (yQ X xs ys scope C s₀ H₀ fp) elt te)
 {RR:Value->Addr->Result->Shared->Prop} {Q:VK} (I:Inv X aJ σ H s) (h:tLC xs js wi g tc te σ H Q)
 (fin:∀D C H' s',LC X aJ σ C H' s'->Q (.ref D) H'->RR (.ref D) C (.ok .next) s'):
 wpAny (model X.prog X.w) X.A (eval iter X.env) (fun x s₁=>wpAny (model X.prog X.w) X.A (pyIter x) (fun it s₂=>wpAny (model X.prog X.w) X.A (newList []) (fun acc s₃=>
  wpAny (model X.prog X.w) X.A (newFunctionEnv scope X.env.globals (jI X.env scope.names []) [] X.env.qual none .none (some X.env)) (fun cenv s₄=>
   codeAny (model X.prog X.w) X.A (.compStart (.ListComp elt [⟨tg,iter,ifs,0⟩] scope pos) 0 it acc {cenv with scope:=relabel scope X.env}) (RR acc cenv.locals) s₄) X.xe s₃) X.xe s₂) X.xe s₁) X.xe s:=by
 refine eN (hi aJ s σ H _ I h) fun v s1 h1=>eN h1 fun itv s2 h2=>?_
 obtain⟨it,fp,tn,J,H2,e,I2,T,st2,f2,W,⟨m0,w0⟩,turn⟩:=h2;subst e;have fo:∀b∈fp,b<s2.heap.objs.size:=fun b hb=>let ⟨o,e,_⟩:=T.obj _ _ st2 b hb;bA e
 refine eS (wpAny_newFunctionEnv S.nocell (by intro y hy;simp at hy) (fun h₁ hns₁ hsb₁=>?_) S.kind);dsimp only at hns₁ hsb₁⊢;generalize hH2:s2.heap.push {cls:=.type "list",dict:=none,data:=.seq ([]:List Value).toArray}=G at hns₁ hsb₁⊢;have hC:G.objs.size=s2.heap.objs.size+1:=by rw[←hH2,Heap.size_push]
 have hDC:s2.heap.objs.size≠G.objs.size:=by rw[hC];exact bS (NO _)
 have hCle:s2.heap.objs.size<=G.objs.size:=by rw[hC];exact rW _
 have below:∀b,b<s2.heap.objs.size->b≠G.objs.size/\b≠s2.heap.objs.size:=fun b hb=>⟨by rw[hC];exact bS (gK hb),bS hb⟩
 have old:∀b o,s2.heap.get? b=some o->h₁.get? b=some o:=fun b o e=>hsb₁.extBut b o (below b (bA e)).1 (aP _ (hH2▸aP _ e))
 have hacc:h₁.get? s2.heap.objs.size=some (LCg.lst []):=hsb₁.extBut _ _ hDC (aP _ (hH2▸bT _ rfl));have st₁:tn 0 h₁:=T.keep _ _ _ st2 fun b _ o e=>old b o e
 have I3:=CO (C:=G.objs.size) (D:=s2.heap.objs.size) (tk:=s2.toks+([]:List (Str×Value)).length) I2 S hj f2 fo hCle (aG _) hDC hns₁ hacc (by intro v hv;cases hv) old;generalize hX:yQ X xs ys scope G.objs.size s2 H2 fp=B at I3;have pB:B.prog=X.prog:=by rw[←hX];rfl
 have wB:B.w=X.w:=by rw[←hX];rfl
 have kB:B.K=X.K:=by rw[←hX];rfl
 have aB:B.A=X.A:=by rw[←hX];rfl
 have eB:B.env=compEnvC scope (jI X.env scope.names []) G.objs.size X.env:=by rw[←hX];rfl
 have cB:B.calm=true:=by rw[←hX];exact hc
 have xB:B.xe=fun _ _=>False:=by rw[←hX];rfl
 have gB:PG B tg g:=by rw[←hX];exact hg _ _ _ _
 have iB:ii B ifs tc:=by rw[←hX];exact hif _ _ _ _
 have elB:PE B elt te:=by rw[←hX];exact he _ _ _ _
 have sB:B.s₀=s2:=by rw[←hX];rfl
 have hB:B.H₀=H2:=by rw[←hX];rfl
 have fB:B.fs=FW X.stack:=by rw[←hX];rfl
 have exB:B.ex=fp:=by rw[←hX];rfl
 have pnB:B.pn=[]:=by rw[←hX];rfl
 have statB:∀{H':Hp}{oD:Obj}{σ':St}{s':Shared},Inv B [(s2.heap.objs.size,oD)] σ' H' s'->(∀b∈fp,H' b=none)->∀b∈fp,JG B [(s2.heap.objs.size,oD)] H' b:=fun{H' oD σ' s'} I' hn b hb=>
  ⟨hn b hb,(I'.ok.exf b (exB▸hb)).1,I'.ok.exfs b (exB▸hb),.inl (exB▸hb),(I'.ok.exf b (exB▸hb)).2,fun p hp=>by
   rw[pnB]at hp;have e:=aT.mp (show p∈[(s2.heap.objs.size,oD)]from hp);subst e;exact Nat.ne_of_gt (fo b hb)⟩
 have loop:∀s₃:Shared,s₃={s2 with heap:=h₁,toks:=s2.toks+([]:List (Str×Value)).length}->
  codeAny (model X.prog X.w) X.A (.compLoop (.ListComp elt [⟨tg,iter,ifs,0⟩] scope pos) 0 (.ref it) (.ref s2.heap.objs.size) (compEnvC scope (jI X.env scope.names []) G.objs.size X.env)) (RR (.ref s2.heap.objs.size) G.objs.size) s₃:=by
  rintro s₃ rfl;refine VD (fun n s'=>∃i ys its σ1 H',Inv B [(s2.heap.objs.size,LCg.lst its)] σ1 H' s'/\dD ys its/\tn i s'.heap/\(∀b∈fp,H' b=none)/\ys.length<=sizeLine/\W i n ys σ1 H') ?_ m0
   ⟨0,[],[],_,H2,I3,.nil,st₁,fun b hb=>(f2 b hb).1,cG _,w0⟩
  rintro n s' ⟨i,ys',its,σ1,H',I',rv,cO,fr',hz,w'⟩;have rl:=rv.length;rcases turn i n ys' σ1 H' w' with⟨stop,qn⟩ |⟨go,hz',step⟩
  ·have q:=T.done B pB wB kB cB i _ s' σ1 H' (fun _ _=>False) I' (statB I' fr') cO stop;rw[aB]at q;refine eN q fun r s4 ⟨hr,I4⟩=>?_
   subst hr;have pD:=(I4.pin (s2.heap.objs.size,LCg.lst its) (aZ _ bF))
   have hDn:H' s2.heap.objs.size=none:=pD.2.1;have ub:=I4.base;rw[fB,exB,hB,sB]at ub;have neD:∀{b:Addr}{o:HO},H' b=some o->b≠s2.heap.objs.size:=fun e z=>by rw[z,hDn]at e;cases e
   have upk:∀{b:Addr}{o:HO},H' b=some o->upd H' s2.heap.objs.size (.lst ys') b=some o:=fun e=>by rw[zJ (neD e)];exact e
   have u:Un (FW X.stack) fp H2 (upd H' s2.heap.objs.size (.lst ys')) s2.heap s4.heap:=
    ⟨ub.keep,ub.slot,fun b o e n hx=>by rw[zJ (below b (bA e)).2];exact ub.free b o e n hx,ub.there,fun b zs e=>upk (ub.tups b zs e),fun b o zs e=>upk (ub.frzs b o zs e),fun b ps e=>let ⟨more,q⟩:=ub.tbls b ps e;⟨more,upk q⟩⟩
   have hok4:mO X.prog X.w H' s4.heap:=by have :=I4.hok;rw[pB,wB]at this;exact this
   have hok:mO X.prog X.w (upd H' s2.heap.objs.size (.lst ys')) s4.heap:=fun b o e=>by
    by_cases hb:b=s2.heap.objs.size
    ·subst hb;rw[zB]at e;cases e;exact⟨hz,its,its.length,rv,pD.1⟩
    ·rw[zJ hb]at e;exact(hok4 b o e).stay (fun _ _ _ q=>q) (fun _ q=>upk q) fun _ _ q=>upk q
   have I5:Inv X aJ σ (upd H' s2.heap.objs.size (.lst ys')) s4:=I2.call' (ch:=fp) (by rw[I4.os,sB]) u hok I4.bare fun b hb=>let f:=f2 b hb;⟨f.2.2.2.1,f.2.1,f.2.2.2.2.1,f.2.2.2.2.2⟩
   refine fin s2.heap.objs.size G.objs.size _ s4 ⟨I5,?_,?_,?_,cP I2.sz hCle,fun x c e z=>?_,fun p hp z=>?_⟩ (qn _ hDn)
   ·obtain⟨m,hn,_⟩:=I4.loc;rw[eB]at hn;exact⟨m,hn⟩
   ·have fr:=I4.free;rw[eB]at fr;rw[zJ (cJ hDC)];exact fr
   ·exact cJ (below _ I2.lt).1
   ·obtain⟨_,o,ho,_⟩:=I2.cell x c e;exact(below c (bA ho)).1 z
   ·exact(below p.1 (bA (I2.pin p hp).1)).1 z
  ·have q:=T.item B pB wB kB cB i _ s' σ1 H' (fun _ _=>False) I' (statB I' fr') cO go;rw[aB]at q;refine eN q fun r s4 ⟨u,hr,h4⟩=>?_
   subst hr;refine eN h4 fun _ s5 z5=>?_
   obtain⟨x,H5,I5,r5,y5,st5,fr5⟩:=z5;have I5':=I5.pinned (statB I5 fr5) (T.obj _ _ st5);have q5:=gB _ s5 σ1 H5 x u _ I5' r5 (step x H5 y5);rw[pB,wB,aB,eB,xB]at q5;refine eN q5 fun _ s6 ⟨σ6,H6,I6,q6⟩=>?_
   have last:∀{s7:Shared}{H7:Hp},Inv B ([(s2.heap.objs.size,LCg.lst its)]++qT fp s5.heap) σ6 H7 s7->(te σ6 H7 fun y H8=>∃m',m'<n/\W (i+1) m' (ys'++[y]) σ6 H8)->
    wpAny (model X.prog X.w) X.A (eval elt (compEnvC scope (jI X.env scope.names []) G.objs.size X.env)) (fun x s₄=>
     wpAny (model X.prog X.w) X.A (call (.builtin "list.append") [.ref s2.heap.objs.size,x]) (fun _ s₅=>∃m,m<n/\
      ∃i ys its σ1 H',Inv B [(s2.heap.objs.size,LCg.lst its)] σ1 H' s₅/\dD ys its/\tn i s₅.heap/\(∀b∈fp,H' b=none)/\ys.length<=sizeLine/\W i m ys σ1 H') (fun _ _=>False) s₄) (fun _ _=>False) s7:=fun{s7 H7} I7 q7=>by
    have q8:=elB _ s7 σ6 H7 _ I7 q7;rw[pB,wB,aB,eB,xB]at q8;refine eN q8 fun uy s8 z8=>?_
    obtain⟨y,H8,I8,r8,m',hm',w8⟩:=z8;have pD:=(I8.pin (s2.heap.objs.size,LCg.lst its) (aZ _ (cK _ bF)))
    refine append_at (its:=its.toArray) (n:=its.length) pD.1 (fun h9 hs9 hd9=>?_) (by rw[aQ,←rl];exact hz);have dropped:Inv B (qT fp s5.heap) σ6 H8 s8:=I8.pins_of fun p hp=>I8.pin p (aZ _ (aZ _ hp))
    have apart:∀p∈B.pn++qT fp s5.heap,p.1≠s2.heap.objs.size:=fun p hp=>by
     rw[pnB]at hp;exact bS (fo _ (QB (show p∈qT fp s5.heap from hp)).1)
    have I9:Inv B (qT fp s5.heap) σ6 H8 {s8 with heap:=h9}:=dropped.turned (t':=s8.toks) (fun b o hb e=>hs9.extBut b o hb e) pD.2.1 pD.2.2.1 (.inr (by rw[sB];exact aG _)) (fun x c e=>by
     intro z;obtain⟨v,o,ho,hd⟩:=I8.cell x c e;rw[z,pD.1]at ho;cases ho;cases hd) apart
    have I9':Inv B [(s2.heap.objs.size,LCg.lst (its++[uy]))] σ6 H8 {s8 with heap:=h9}:=I9.pins_of fun p hp=>by
     have e:=aT.mp hp;subst e;exact⟨hd9.trans (dH some (LCg.lst_snoc its uy)),pD.2.1,pD.2.2.1,pD.2.2.2.1,by intro v hv;cases hv⟩
    refine⟨m',hm',i+1,ys'++[y],its++[uy],σ6,H8,I9',dD.append rv (.cons r8 .nil),T.keep _ _ _ st5 fun b hb o e=>?_,fun b hb=>?_,by rw[aI];exact hz',w8⟩
    ·exact(I9.pin (b,o) (aZ _ (jK hb e))).1
    ·obtain⟨o,e,d⟩:=T.obj _ _ st5 b hb;exact(I9.pin (b,o) (aZ _ (jK hb e))).2.1
   have again:∀{s7:Shared}{H7:Hp},Inv B ([(s2.heap.objs.size,LCg.lst its)]++qT fp s5.heap) σ6 H7 s7->(∃m',m'<n/\W (i+1) m' ys' σ6 H7)->∃m,m<n/\
    ∃i ys its σ1 H',Inv B [(s2.heap.objs.size,LCg.lst its)] σ1 H' s7/\dD ys its/\tn i s7.heap/\(∀b∈fp,H' b=none)/\ys.length<=sizeLine/\W i m ys σ1 H':=fun{s7 H7} I7 ⟨m',hm',w7⟩=>by
    refine⟨m',hm',i+1,ys',its,σ6,H7,I7.unpinned,rv,T.keep _ _ _ st5 fun b hb o e=>(I7.pin (b,o) (aZ _ (aZ _ (jK hb e)))).1,fun b hb=>?_,hz,w7⟩;obtain⟨o,e,d⟩:=T.obj _ _ st5 b hb;exact(I7.pin (b,o) (aZ _ (aZ _ (jK hb e)))).2.1
   match ifs,tc,iB,q6 with
   |[],none,_,q6=>
    refine wpAny_tests_nil ?_;rw[aL rfl];exact last I6 q6
   |[c],some t,iB,q6=>
    have iB:PT B c t:=iB;have q7:=iB _ s6 σ6 H6 _ I6 q6;rw[pB,wB,aB,eB,xB]at q7;refine wpAny_tests_one (eN q7 fun b s7 ⟨H7,I7,q7⟩=>?_);cases b with
    |true=>rw[aL rfl]at q7⊢;exact last I7 q7
    |false=>rw[aH cI]at q7⊢;exact again I7 q7
 exact codeAny_compStart_list (loop _ rfl) (T.self _ 0 _ _ _ st₁ (loop _ rfl))
theorem pe_lc(hc:X.calm=true)(S:nF xs ys scope X.env.scope)(hj:WQ X ys js)(hi:PI X tg iter wi)
 (hg:∀C s₀ H₀ fp,PG (yQ X xs ys scope C s₀ H₀ fp) tg g) (hif:∀C s₀ H₀ fp,ii (yQ X xs ys scope C s₀ H₀ fp) ifs tc) (he:∀C s₀ H₀ fp,PE (yQ X xs ys scope C s₀ H₀ fp) elt te)
 (hs:∀x,foldedSetIterable iter X.env x=pure x:=by intro _;rfl):PE X (.ListComp elt [⟨tg,iter,ifs,0⟩] scope pos) (tLC xs js wi g tc te):=by
 intro aJ s σ H Q I h;rw[eval_ListComp];refine wpAny_comprehension_free (use:=none) rfl hs (wG (VF I S)) S.kind S.names ?_;refine IT (RR:=fun acc C=>compPost (model X.prog X.w) X.A X.xe none (EP X aJ σ Q) acc C) hc S hj hi hg hif he I h fun D C H' s' L q=>?_
 obtain⟨m,hn⟩:=L.ns;exact⟨m,hn,fun h'' hs''=>⟨.ref D,H',L.gone hs'',rfl,q⟩⟩
theorem RH{x:Str}{p' p:Pos}(hN:X.N.Nodup)(hx:X.N[i]?=some x)(hl:X.env.scope.names.lookup x=some .local)(hc:X.calm=true)(S:nF xs ys scope X.env.scope)(hj:WQ X ys js)(hi:PI X tg iter wi)
 (hg:∀C s₀ H₀ fp,PG (yQ X xs ys scope C s₀ H₀ fp) tg g) (hif:∀C s₀ H₀ fp,ii (yQ X xs ys scope C s₀ H₀ fp) ifs tc) (he:∀C s₀ H₀ fp,PE (yQ X xs ys scope C s₀ H₀ fp) elt te)
 (hsw:swapsWith (.ListComp elt [⟨tg,iter,ifs,0⟩] scope pos) (some (.Name x p')) p.line X.env=pure true:=by rfl)
 (hs:∀x,foldedSetIterable iter X.env x=pure x:=by intro _;rfl):PS X (.Assign [.Name x p'] (.ListComp elt [⟨tg,iter,ifs,0⟩] scope pos) p) (ax (tLC xs js wi g tc te) (kK i)):=by
 intro aJ s σ H D I h;rw[exec_Assign_Name_used _ _ _ _ hsw];refine aF (wpAny_standAt (aF ?_));show wpAny _ X.A (do let _ ←comprehension (.ListComp elt [⟨tg,iter,ifs,0⟩] scope pos) scope X.env _ (newList []) false (eval iter X.env) (some (assign (.Name x p') X.env))) _ _ s;refine aF (lH (wpAny_comprehension_free (use:=some (assign (.Name x p') X.env)) (Q:=fun _ s'=>SP X aJ D .next s') rfl hs (wG (VF I S)) S.kind S.names ?_) (fun _ s' hq=>aR (aR hq)) fun _ _ e=>e);refine IT (Q:=fun v H'=>kK i v σ H' D.nx) (RR:=fun acc C=>compPost (model X.prog X.w) X.A X.xe (some (assign (.Name x p') X.env)) (fun _ s'=>SP X aJ D .next s') acc C) hc S hj hi hg hif he I h fun A C H' s' L q=>?_
 show wpAny _ X.A (assign (.Name x p') X.env (.ref A)) _ _ _;refine wpAny_assign_Name (JS (v:=.ref A) L.inv hN hx (.inl hl) rfl (fun s'' I'' ⟨a,sb,ha⟩=>?_) (.inr hl));have cne:∀{b:Addr},(b=X.env.locals\/X.env.cells.lookup x=some b)->C≠b:=fun z e=>by
  rcases z with z |z
  ·exact L.ne (e.trans z)
  ·exact L.cells x _ z e.symm
 obtain⟨m,hn⟩:=L.ns;refine⟨m,hn.sameBut sb (cne ha),fun h'' hs''=>⟨_,_,?_,q⟩⟩;exact LC.gone ⟨I'',⟨m,hn.sameBut sb (cne ha)⟩,L.free,L.ne,L.up,L.cells,L.pin⟩ hs''
end
def Its(x:Str):It:=⟨fun i _=>i<x.cps.size,fun i H v H'=>H'=H/\∃c,x.cps[i]?=some c/\v=.str ⟨#[c]⟩,fun i _=>x.cps.size<=i⟩
def iStr(tl:TE):TI:=fun σ H R=>tl σ H fun x H1=>asS x fun z=>R (Its z) H1
def rSlS:V->Option Int->Option Int->Hp->VK->Prop:=fun x lo hi H Q=>asS x fun z=>z.length<=sizeLine/\Q (.str (Txt.slice z lo hi)) H
theorem CN:qL X (.builtin "all") (fun xs H Q=>ag X.calm (pF xs fun x=>mL x fun p=>∃bs:List Bool,dL X.K H p (bs.map V.bl)/\Q (.bl (bs.all id)) H)):=by
 intro aJ s σ H xs us Q I r h;replace h:=DB h;obtain⟨hc,h⟩:=h;replace h:=wD h;obtain⟨x0,rfl,h⟩:=h;replace h:=xJ h;obtain⟨p,rfl,bs,hp,q⟩:=h;obtain⟨u,rfl,ru⟩:=uI r;cases ru;obtain⟨its,rv,hl,hz⟩:=I.list hp;have lS:p<s.heap.objs.size:=by obtain⟨_,e,_⟩:=hl.isList;exact bA e
 have eO:=rv.length;rw[aE]at eO;refine call_all_walk (rB hl.isList ?_);refine⟨_,_,_,_,_,_,fun i=>bs.getD i false,rfl,Walks.list (A:=X.A.in1) (I.ok.hd hc) s.heap.objs.size p (bS lS) its.toArray,⟨⟨_,bT _ rfl,rfl,rfl⟩,hl.isList.push _⟩,fun i v s' Q' E' hv q'=>?_,fun h' tk k=>?_⟩
 ·have hv:its[i]?=some v:=by simpa using hv
  have hi:i<bs.length:=by
   have :=(aC.mp hv).1;lia
  obtain⟨u',hu',ru'⟩:=rv.get (i:=i) (x:=.bl bs[i]) (by rw[aK,aA hi];rfl);rw[hv]at hu';cases hu';have e:v=Value.bool bs[i]:=ru';subst e;refine fT ?_;have e2:bs.getD i false=bs[i]:=by rw[bU,aA hi];rfl
  rw[←e2];exact q'
 ·refine⟨.bl (bs.all id),H,?_,?_,q⟩
  ·exact I.kept (h':=h') (t':=tk) fun b o e=>k b o (by intro hm;have :=aT.mp hm;exact absurd (this▸bA e) (eE _)) (aP _ e)
  ·have e:(List.range its.toArray.size).all (fun i=>bs.getD i false)=bs.all id:=by
    rw[aQ,←eO];rw[cE,dB,dB];constructor
    ·intro a b hb;obtain⟨i,hi,rfl⟩:=dO hb;have :=a i (bP.mpr hi);rw[bU,aA hi]at this;exact this
    ·intro a i hi;have hi:=bP.mp hi;rw[bU,aA hi];exact a _ (cW hi)
   show Value.bool _=_;rw[e]
theorem CK:qL X (.builtin "isinstance") (fun xs H Q=>∃x t b,xs=[x,.ty T]/\pG X.K H x t/\W.kitOne X.K t (.type T)=some b/\Q (.bl b) H):=by
 intro aJ s σ H xs us Q I r h;obtain⟨x,t,b,rfl,ty,e,q⟩:=h;obtain⟨u,w',rfl,ru,rw'⟩:=vals2 r;cases rw';exact MU I ru ty e fun tk=>⟨.bl b,H,I.tok tk,rfl,q⟩
structure gR(P:Program)(w:World)(K:W.Frag)(mg:Str->Option Value)(base:Heap)(k:Nat)(x:Str)(ps:List Str)(sp:Sp):Prop where
 ex:∃f fd,dI P w K mg base fY k f fd ps sp/\Binds K fd ps []/\W.keepIn K (.ref f)=true/\mg x=some (.ref f)
def Gc(mg:Str->Option Value)(x:Str)(v:V):Prop:=∃u,mg x=some u/\RelV v u
section
variable {k:Nat} {x:Str} {p pos:Pos} {t:TA}
theorem gR.mono{k:Nat}(h:gR P w K mg base j x ps sp)(hk:j<=k):gR P w K mg base k x ps sp:=by
 obtain⟨f,fd,F,r⟩:=h.ex;exact⟨f,fd,F.mono hk,r⟩
theorem zI(h:gR X.prog X.w X.K X.mg X.base k x ps sp)(hr:hZ k X.A)(hg:Gl X x)(ha:PA X (e::es) t)(hdb:(x==("__debug__":Str))=false:=by decide)
 (he:starEach (e::es) X.env=(false,eval e X.env)::starEach es X.env:=by rfl) (hpl:(backTo pos (starEach es X.env)).any (·.1)=false:=by rfl):PE X (.Call (.Name x p) (e::es) [] pos) (OQ sp [] E0 t):=by
 obtain⟨f,fd,F,b,kp,m⟩:=h.ex;exact dg F hr hg m kp b .nil II ha hdb he hpl
theorem jd(h:Gc X.mg x v)(hg:Gl X x)(hd:(x==("__debug__":Str))=false:=by decide):PE X (.Name x pos) (tC v):=by
 obtain⟨u,m,r⟩:=h;exact IE hg m r hd
theorem jc(hm:X.mg x=none)(hv:bootBuiltins x=some (.type T))(hg:Gl X x)(hn:x≠"__name__":=by decide)(hd:(x==("__debug__":Str))=false:=by decide):PE X (.Name x pos) (tC (.ty T)):=
 dh hg hm hv rfl hn hd
end
theorem xE:ii X [] none:=trivial
theorem kD{t:TT}(h:PT X c t):ii X [c] (some t):=h
def sK(xs ys:List Str)(scope around:Scope):Bool:=
 (scope.kind==.function)&&decide (xs++ys).Nodup&&xs.all (fun x=>scope.names.lookup x==some .local)&&
 ys.all (fun y=>(scope.names.lookup y==some .free)&&((around.names.lookup y==some .cell) ||(around.names.lookup y==some .free)))&&
 scope.names.all (fun y=>(y.2 !=.cell)&&((y.2 !=.local) ||(scope.names.lookup y.1==some .local))&&((y.2 !=.free) ||ys.contains y.1))
theorem sK.scope{xs:List Str}{scope around:Scope}(h:sK xs ys scope around=true):nF xs ys scope around:=by
 unfold sK at h;simp only[bY,cQ,bQ,dB,nU,bne_iff_ne,List.contains_iff_mem]at h;obtain⟨⟨⟨⟨h1,h2⟩,h3⟩,h4⟩,h5⟩:=h;exact⟨h1,h2,h3,h4,fun y hy=>(h5 y hy).1.1,fun y hy hl=>(h5 y hy).1.2.resolve_left (fun z=>z hl),fun y hy hf=>(h5 y hy).2.resolve_left (fun z=>z hf)⟩
def rF(N ys:List Str)(js:List Nat):Bool:=(js.length==ys.length)&&(ys.zip js).all fun p=>N[p.2]?==some p.1
theorem rF.caps(h:rF X.N ys js=true):WQ X ys js:=by
 unfold rF at h;simp only[bY,cQ,dB]at h;refine⟨h.1,fun i y j hy hj=>?_⟩;refine h.2 (y,j) (aX (i:=i) ?_);rw[j5];exact⟨hy,hj⟩
section
variable {xs:List Str} {scope:Scope} {iter elt:Expr} {ifs:List Expr} {pos:Pos} {wi:TI} {g:TG} {tc:Option TT}
theorem yU(xs ys:List Str)(js:List Nat)(hi:PI X tg iter wi)
 (hg:∀C s₀ H₀ fp,(xs++ys).Nodup->PG (yQ X xs ys scope C s₀ H₀ fp) tg g) (hif:∀C s₀ H₀ fp,ii (yQ X xs ys scope C s₀ H₀ fp) ifs tc) (he:∀C s₀ H₀ fp,PE (yQ X xs ys scope C s₀ H₀ fp) elt te)
 (hc:X.calm=true:=by rfl) (S:sK xs ys scope X.env.scope=true:=by rfl) (hj:rF X.N ys js=true:=by rfl)
 (hs:∀x,foldedSetIterable iter X.env x=pure x:=by intro _;rfl):PE X (.ListComp elt [⟨tg,iter,ifs,0⟩] scope pos) (tLC xs js wi g tc te):=
 pe_lc hc (sK.scope S) (rF.caps hj) hi (fun C s₀ H₀ fp=>hg C s₀ H₀ fp (sK.scope S).nd) hif he hs
theorem UL{x:Str}{p' p:Pos}(xs ys:List Str)(js:List Nat)(hN:X.N.Nodup)(hx:X.N[i]?=some x)(hi:PI X tg iter wi)
 (hg:∀C s₀ H₀ fp,(xs++ys).Nodup->PG (yQ X xs ys scope C s₀ H₀ fp) tg g) (hif:∀C s₀ H₀ fp,ii (yQ X xs ys scope C s₀ H₀ fp) ifs tc) (he:∀C s₀ H₀ fp,PE (yQ X xs ys scope C s₀ H₀ fp) elt te)
 (hl:X.env.scope.names.lookup x=some .local:=by rfl) (hc:X.calm=true:=by rfl) (S:sK xs ys scope X.env.scope=true:=by rfl) (hj:rF X.N ys js=true:=by rfl)
 (hsw:swapsWith (.ListComp elt [⟨tg,iter,ifs,0⟩] scope pos) (some (.Name x p')) p.line X.env=pure true:=by rfl)
 (hs:∀x,foldedSetIterable iter X.env x=pure x:=by intro _;rfl):PS X (.Assign [.Name x p'] (.ListComp elt [⟨tg,iter,ifs,0⟩] scope pos) p) (ax (tLC xs js wi g tc te) (kK i)):=
 RH hN hx hl hc (sK.scope S) (rF.caps hj) hi (fun C s₀ H₀ fp=>hg C s₀ H₀ fp (sK.scope S).nd) hif he hsw hs
end
theorem yX:bootBuiltins "len"=some (.builtin "len"):=by decide+kernel
theorem wH:bootBuiltins "isinstance"=some (.builtin "isinstance"):=by decide+kernel
theorem VX:bootBuiltins "all"=some (.builtin "all"):=by decide+kernel
theorem ZJ:bootBuiltins "sorted"=some (.builtin "sorted"):=by decide+kernel
theorem JC:bootBuiltins "tuple"=some (.type "tuple"):=by decide+kernel
theorem VI:bootBuiltins "list"=some (.type "list"):=by decide+kernel
theorem qe:bootBuiltins "int"=some (.type "int"):=by decide+kernel
theorem gp:bootBuiltins "bool"=some (.type "bool"):=by decide+kernel
theorem YS:bootBuiltins "dict"=some (.type "dict"):=by decide+kernel
theorem cx_K{scope:Scope}{cd:Value}{E:XK}:(XY CX P w K mg base N qual scope f cd A outer s H E).K=K:=rfl
theorem cx_calm{scope:Scope}{cd:Value}{E:XK}:(XY CX P w K mg base N qual scope f cd A outer s H E).calm=true:=rfl
theorem bk_calm{xs:List Str}{scope:Scope}{C:Addr}{s₀:Shared}{H₀:Hp}:(yQ X xs ys scope C s₀ H₀ fp).calm=X.calm:=rfl
theorem lenV_str{y:Str}:im K (.str y) H n↔(y.length<=sizeLine/\n=y.length):=Iff.rfl
theorem bk_K{xs:List Str}{scope:Scope}{C:Addr}{s₀:Shared}{H₀:Hp}:(yQ X xs ys scope C s₀ H₀ fp).K=X.K:=rfl
theorem n8{ns:List Int}{k:Nat}(h:(k:Int)<ns.length):oU (ns.map V.int) (k:Int)=some (.int (ns.getD k 0)):=by
 refine yE ?_;have h':k<ns.length:=by lia
 rw[aK,aA h',bU,aA h'];rfl
theorem IU{J:It}{g:TG}{Q:VK}(Pv:Nat->List V->St->Hp->Prop)(h0:Pv 0 [] (JL ns js σ) H)(hn:n<=sizeLine)(hl:∀i ys σ H,Pv i ys σ H->ys.length<=i)
 (hgo:∀i ys σ H,i<n->Pv i ys σ H->J.go i H) (hst:∀ys σ H,Pv n ys σ H->J.stop n H)
 (hs:∀i ys σ H x H' (C:V->St->Hp->Prop),i<n->Pv i ys σ H->J.yld i H x H'->(∀y σ2 H3,Pv (i+1) (ys++[y]) σ2 H3->C y σ2 H3)->g x σ H' fun σ2 H2=>te σ2 H2 fun y H3=>C y σ2 H3)
 (hd:∀ys σ H,Pv n ys σ H->∀p,H p=none->Q (.ref p) (upd H p (.lst ys))):
 ai J ns js g none te σ H Q:=by
 refine⟨fun i m ys σ H=>i+m=n/\Pv i ys σ H,⟨n,(),h0⟩,fun i m ys σ H ⟨e,w⟩=>?_⟩;by_cases hi:i<n
 ·refine .inr ⟨hgo i ys σ H hi w,fG (hl _ _ _ _ w) (),fun x H' hy=>?_⟩;exact hs i ys σ H x H' (fun y σ2 H3=>∃m',m'<m/\i+1+m'=n/\Pv (i+1) (ys++[y]) σ2 H3) hi w hy fun y σ2 H3 q=>⟨m-1,(),(),q⟩
 ·have :i=n:=by lia
  subst this;exact .inl ⟨hst ys σ H w,hd ys σ H w⟩
theorem TB{lo:Int}{g:TG}{Q:VK}(Pv:Nat->List V->St->Hp->Prop)(h0:Pv 0 [] (JL ns js σ) H)(hz:n<=sizeLine)(hl:∀i ys σ H,Pv i ys σ H->ys.length<=i)
 (hs:∀(i:Nat) ys σ H (C:V->St->Hp->Prop),i<n->Pv i ys σ H->(∀y σ2 H3,Pv (i+1) (ys++[y]) σ2 H3->C y σ2 H3)->g (.int (lo+i)) σ H fun σ2 H2=>te σ2 H2 fun y H3=>C y σ2 H3)
 (hd:∀ys σ H,Pv n ys σ H->∀p,H p=none->Q (.ref p) (upd H p (.lst ys))):
 ai (WM lo n) ns js g none te σ H Q:=
 IU (n:=n) Pv h0 hz hl (fun _ _ _ _ h _=>h) (fun _ _ _ _=>aG _) (fun i ys σ H x H' C hi w ⟨e,hx⟩ hC=>by subst e;subst hx;exact hs i ys σ _ C hi w hC) hd
theorem US{g:TG}{Q:VK}(Pv:Nat->List V->St->Hp->Prop)(h0:Pv 0 [] (JL ns js σ) H)(hz:xs.length<=sizeLine)(hl:∀i ys σ H,Pv i ys σ H->ys.length<=i)
 (hK:∀i ys σ H,Pv i ys σ H->dN K H a xs)
 (hs:∀(i:Nat) x ys σ H (C:V->St->Hp->Prop),xs[i]?=some x->Pv i ys σ H->(∀y σ2 H3,Pv (i+1) (ys++[y]) σ2 H3->C y σ2 H3)->g x σ H fun σ2 H2=>te σ2 H2 fun y H3=>C y σ2 H3)
 (hd:∀ys σ H,Pv xs.length ys σ H->∀p,H p=none->Q (.ref p) (upd H p (.lst ys))):
 ai (jv K a) ns js g none te σ H Q:=
 IU (n:=xs.length) Pv h0 hz hl (fun i ys σ H hi w=>⟨xs,xs[i],hK i ys σ H w,aA hi⟩) (fun ys σ H w=>⟨xs,hK _ ys σ H w,aG _⟩)
  (fun i ys σ H x H' C hi w ⟨e,hx⟩ hC=>by subst e;exact hs i x ys σ _ C (hx xs (hK i ys σ _ w)) w hC) hd
theorem jX{g:TG}{Q:VK}(Pv:Nat->List V->St->Hp->Prop)(h0:Pv 0 [] (JL ns js σ) H)(hz:xs.length<=sizeLine)(hl:∀i ys σ H,Pv i ys σ H->ys.length<=i)
 (hK:∀i ys σ H,Pv i ys σ H->dL K H a xs)
 (hs:∀(i:Nat) x ys σ H (C:V->St->Hp->Prop),xs[i]?=some x->Pv i ys σ H->(∀y σ2 H3,Pv (i+1) (ys++[y]) σ2 H3->C y σ2 H3)->g x σ H fun σ2 H2=>te σ2 H2 fun y H3=>C y σ2 H3)
 (hd:∀ys σ H,Pv xs.length ys σ H->∀p,H p=none->Q (.ref p) (upd H p (.lst ys))):
 ai (io K a) ns js g none te σ H Q:=
 IU (n:=xs.length) Pv h0 hz hl (fun i ys σ H hi w=>⟨xs,xs[i],hK i ys σ H w,aA hi⟩) (fun ys σ H w=>⟨xs,hK _ ys σ H w,aG _⟩)
  (fun i ys σ H x H' C hi w ⟨e,hx⟩ hC=>by subst e;exact hs i x ys σ _ C (hx xs (hK i ys σ _ w)) w hC) hd
def JO(J:It)(g:TG)(tb:TS)(D:sO)(σ:St)(H:Hp):Prop:=∃W:Nat->Nat->St->Hp->Prop,(∃m,W 0 m σ H)/\∀i m σ H,W i m σ H->
 (J.stop i H/\D.nx σ H)\/(J.go i H/\∃N:St->Hp->Prop,(∀σ' H',N σ' H'->∃m',m'<m/\W (i+1) m' σ' H')/\∀x H',J.yld i H x H'->g x σ H' fun σ2 H2=>tb {D with nx:=N,ct:=N,bk:=D.nx} σ2 H2)
theorem tFor_eq{wi:TI}{g:TG}:tFor wi g tb D σ H=wi σ H fun J H1=>JO J g tb D σ H1:=rfl
theorem tLC_eq{n:List Str}{wi:TI}{g:TG}{tc:Option TT}{Q:VK}:tLC n js wi g tc te σ H Q=wi σ H fun J H1=>ai J n js g tc te σ H1 Q:=rfl
theorem YQ{g:TG}(Pv:Nat->St->Hp->Prop)(h0:Pv 0 σ H)(hl:∀i σ H,i<=xs.length->Pv i σ H->dL K H a xs)
 (hs:∀i x σ H,xs[i]?=some x->Pv i σ H->g x σ H fun σ2 H2=>tb {D with nx:=Pv (i+1),ct:=Pv (i+1),bk:=D.nx} σ2 H2) (hd:∀σ H,Pv xs.length σ H->D.nx σ H):JO (io K a) g tb D σ H:=CC Pv h0 hl hs hd
theorem TX{g:TG}(Pv:Nat->St->Hp->Prop)(h0:Pv 0 σ H)(hl:∀i σ H,i<=xs.length->Pv i σ H->dN K H a xs)
 (hs:∀i x σ H,xs[i]?=some x->Pv i σ H->g x σ H fun σ2 H2=>tb {D with nx:=Pv (i+1),ct:=Pv (i+1),bk:=D.nx} σ2 H2) (hd:∀σ H,Pv xs.length σ H->D.nx σ H):JO (jv K a) g tb D σ H:=KI Pv h0 hl hs hd
theorem TY{lo:Int}{g:TG}(Pv:Nat->St->Hp->Prop)(h0:Pv 0 σ H)
 (hs:∀i σ H,i<n->Pv i σ H->g (.int (lo+i)) σ H fun σ2 H2=>tb {D with nx:=Pv (i+1),ct:=Pv (i+1),bk:=D.nx} σ2 H2) (hd:∀σ H,Pv n σ H->D.nx σ H):JO (WM lo n) g tb D σ H:=QH Pv h0 hs hd
theorem jD{g:TG}(Pv:Nat->St->Hp->Prop)(h0:Pv 0 σ H)(hl:∀i σ H,i<=xs.length->Pv i σ H->dL K H a xs)
 (hs:∀i x σ H,xs[i]?=some x->Pv i σ H->∀N:St->Hp->Prop,(∀σ H,Pv (i+1) σ H->N σ H)->g x σ H fun σ2 H2=>tb {D with nx:=N,ct:=N,bk:=D.nx} σ2 H2) (hd:∀σ H,Pv xs.length σ H->D.nx σ H):JO (io K a) g tb D σ H:=CC Pv h0 hl (fun i x σ H a b=>hs i x σ H a b _ fun _ _ z=>z) hd
theorem pf{g:TG}(Pv:Nat->St->Hp->Prop)(h0:Pv 0 σ H)(hl:∀i σ H,i<=xs.length->Pv i σ H->dN K H a xs)
 (hs:∀i x σ H,xs[i]?=some x->Pv i σ H->∀N:St->Hp->Prop,(∀σ H,Pv (i+1) σ H->N σ H)->g x σ H fun σ2 H2=>tb {D with nx:=N,ct:=N,bk:=D.nx} σ2 H2) (hd:∀σ H,Pv xs.length σ H->D.nx σ H):JO (jv K a) g tb D σ H:=KI Pv h0 hl (fun i x σ H a b=>hs i x σ H a b _ fun _ _ z=>z) hd
theorem vJ{lo:Int}{g:TG}(Pv:Nat->St->Hp->Prop)(h0:Pv 0 σ H)
 (hs:∀i σ H,i<n->Pv i σ H->∀N:St->Hp->Prop,(∀σ H,Pv (i+1) σ H->N σ H)->g (.int (lo+i)) σ H fun σ2 H2=>tb {D with nx:=N,ct:=N,bk:=D.nx} σ2 H2) (hd:∀σ H,Pv n σ H->D.nx σ H):JO (WM lo n) g tb D σ H:=QH Pv h0 (fun i σ H a b=>hs i σ H a b _ fun _ _ z=>z) hd
theorem j7{c:TT}(W:Nat->St->Hp->Prop)(h0:∃m,W m σ H)(hs:∀m σ H,W m σ H->∀B:Hp->Prop,(∀H1 (N:St->Hp->Prop),(∀σ' H',N σ' H'->∃m',m'<m/\W m' σ' H')->(∀M:St->Hp->Prop,(∀σ H,N σ H->M σ H)->tb {D with nx:=M,ct:=M,bk:=D.nx} σ H1)->B H1)->c σ H fun b H1=>if b=true then B H1 else D.nx σ H1):DT c tb D σ H:=
 ⟨W,h0,fun m σ H h=>hs m σ H h _ fun _ N hN ht=>⟨N,hN,ht N fun _ _ z=>z⟩⟩
theorem gS.okz{x:Str}{st:Stmt}{k:Nat}(F:gS K x qual st f fd)(S:bZ N ps (zK st))
 (hbody:∀(fL:Value)(A:Around)(outer:List Env)(s:Shared)(H:Hp)(vs:List V)(Q:VK)(E:XK),hZ k (A.deeper (envOfC qual (zK st) s.heap.objs.size f fL))->sp vs H Q E->
  ∃t,GN (XY fY P w K mg base N qual (zK st) f fL A outer s H E).nox (xW st) t/\t {nx:=fun _ H'=>Q .non H',rt:=Q} (uP N vs) H)
 (len:∀vs H Q E,sp vs H Q E->vs.length=ps.length:=by intro vs H Q E h;first |(cases h;exact dH List.length ‹vs=_›) |(repeat first |(obtain⟨rfl,_⟩:=h;rfl) |(obtain⟨_,h⟩:=h))):dI P w K mg base fY (k+1) f fd ps sp:=F.ok S len hbody
theorem hZ.m{k:Nat}(r:hZ k A)(h:j<=k:=by lia):hZ j A:=r.mono h
theorem yD(i:Nat){x:Str}{pos:Pos}(hN:X.N.Nodup)(he:PE X e te)(hi:X.N[i]?=some x:=by rfl)(hx:Loc X.env.scope x:=by exact Or.inl rfl)(hs:swapsWith e (some (.Name x pos')) pos.line X.env=pure false:=by rfl)(hf:X.fn x=true\/X.env.scope.names.lookup x=some .local:=by first |exact .inl rfl |exact .inr rfl |assumption):PS X (.Assign [.Name x pos'] e pos) (ax te (kK i)):=kU hN hi hx he hs hf
theorem yF(i:Nat){x:Str}{pos:Pos}(hN:X.N.Nodup)(hi:X.N[i]?=some x:=by rfl)(hx:Loc X.env.scope x:=by exact Or.inl rfl)(hf:X.fn x=true\/X.env.scope.names.lookup x=some .local:=by first |exact .inl rfl |exact .inr rfl |assumption):PG X (.Name x pos) (kK i):=UN hN hi hx hf
theorem zM{a b:Expr}{tb:TE}{pos:Pos}{r:R2}(hr:qq X r)(ha:PE X a ta)(hb:PE X b tb)(hs:LB b:=by exact fun _ _=>rfl):PE X (.Subscript a b pos) (tOp r ta tb):=pe_ix hr ha hb hs
theorem zH{t u:TS}(h:∀N:St->Hp->Prop,(∀σ H,u D σ H->N σ H)->t {D with nx:=N} σ H):ON t u D σ H:=h (u D) fun _ _ z=>z
theorem yB{t u:TS}(J:St->Hp->Prop)(h1:∀N:St->Hp->Prop,(∀σ H,J σ H->N σ H)->t {D with nx:=N} σ H)(h2:∀σ H,J σ H->u D σ H):ON t u D σ H:=h1 (u D) h2
structure Bi(mg:Str->Option Value):Prop where
 len:mg "len"=none
 range:mg "range"=none
 isinstance:mg "isinstance"=none
 max:mg "max"=none
 sum:mg "sum"=none
 all:mg "all"=none
 tuple:mg "tuple"=none
 list:mg "list"=none
 sorted:mg "sorted"=none
 set:mg "set"=none
 int:mg "int"=none
 bool:mg "bool"=none
 str:mg "str"=none
 dict:mg "dict"=none
theorem zT{k:Nat}{x:Str}{st:Stmt}(F:gS K x x st f fd)(ok:dI P w K mg base fY k f fd ps sp)(b:Binds K fd ps [])
 (m:mg x=some (.ref f)):gR P w K mg base k x ps sp:=⟨f,fd,ok,b,F.kp,m⟩
inductive Dt where
 |non |bl (b:Bool) |int (i:Int) |str (x:Str) |tup (ds:List Dt) |lst (ds:List Dt)
mutual
def dW(H:Hp):Dt->V->Prop
 | .non,v=>v=.non
 | .bl b,v=>v=.bl b
 | .int i,v=>v=.int i
 | .str x,v=>v=.str x
 | .tup ds,v=>∃a vs,v=.ref a/\H a=some (.tup vs)/\bG H ds vs
 | .lst ds,v=>∃a vs,v=.ref a/\H a=some (.lst vs)/\bG H ds vs
def bG(H:Hp):List Dt->List V->Prop
 |[],vs=>vs=[]
 |d::ds,vs=>∃v r,vs=v::r/\dW H d v/\bG H ds r
end
mutual
theorem dW.same{H H':Hp}(e:bB H H'):∀{d:Dt}{v:V},dW H d v->dW H' d v
 | .non,_,h=>h
 | .bl _,_,h=>h
 | .int _,_,h=>h
 | .str _,_,h=>h
 | .tup ds,v,h=>by
   obtain⟨a,vs,e1,e2,e3⟩:=h;exact⟨a,vs,e1,e _ _ e2,bG.same e e3⟩
 | .lst ds,v,h=>by
   obtain⟨a,vs,e1,e2,e3⟩:=h;exact⟨a,vs,e1,e _ _ e2,bG.same e e3⟩
theorem bG.same{H H':Hp}(e:bB H H'):∀{ds:List Dt}{vs:List V},bG H ds vs->bG H' ds vs
 |[],_,h=>h
 |d::ds,vs,h=>by
  obtain⟨v,r,e1,e2,e3⟩:=h;exact⟨v,r,e1,dW.same e e2,bG.same e e3⟩
end
theorem bG.length{H:Hp}:∀{ds:List Dt}{vs:List V},bG H ds vs->vs.length=ds.length
 |[],vs,h=>by
  have h:vs=[]:=h;rw[h];rfl
 |d::ds,vs,h=>by
  obtain⟨v,r,e1,e2,e3⟩:=h;rw[e1,bD,bD,bG.length e3]
theorem bG.get{H:Hp}:∀{ds:List Dt}{vs:List V}{i:Nat}{d:Dt},bG H ds vs->ds[i]?=some d->∃v,vs[i]?=some v/\dW H d v
 |[],vs,i,d,_,e=>by simp at e
 |d::ds,vs,0,d',h,e=>by
  obtain⟨v,r,e1,e2,e3⟩:=h;simp at e;subst e;subst e1;exact⟨v,rfl,e2⟩
 |d::ds,vs,i+1,d',h,e=>by
  obtain⟨v,r,e1,e2,e3⟩:=h;subst e1;simp at e;obtain⟨u,h1,h2⟩:=bG.get e3 e;exact⟨u,by simpa using h1,h2⟩
theorem bG.append{H:Hp}:∀{ds es:List Dt}{vs us:List V},bG H ds vs->bG H es us->bG H (ds++es) (vs++us)
 |[],es,vs,us,h,h'=>by
  have h:vs=[]:=h;subst h;exact h'
 |d::ds,es,vs,us,h,h'=>by
  obtain⟨v,r,e1,e2,e3⟩:=h;subst e1;exact⟨v,r++us,rfl,e2,bG.append e3 h'⟩
theorem bG.take{H:Hp}:∀{ds:List Dt}{vs:List V}(n:Nat),bG H ds vs->bG H (ds.take n) (vs.take n)
 |ds,vs,0,_=>rfl
 |[],vs,n+1,h=>by
  have h:vs=[]:=h;subst h;rfl
 |d::ds,vs,n+1,h=>by
  obtain⟨v,r,e1,e2,e3⟩:=h;subst e1;exact⟨v,r.take n,rfl,e2,bG.take n e3⟩
theorem bG.drop{H:Hp}:∀{ds:List Dt}{vs:List V}(n:Nat),bG H ds vs->bG H (ds.drop n) (vs.drop n)
 |ds,vs,0,h=>by simpa using h
 |[],vs,n+1,h=>by
  have h:vs=[]:=h;subst h;rfl
 |d::ds,vs,n+1,h=>by
  obtain⟨v,r,e1,e2,e3⟩:=h;subst e1;simpa using bG.drop n e3
theorem bG.one{d:Dt}(h:dW H d v):bG H [d] [v]:=⟨v,[],rfl,h,rfl⟩
def ZL:Nat->Dt->Prop
 |n+1,.tup ds=>ds.length<=1000/\∀d∈ds,ZL n d
 |n+1,.lst ds=>ds.length<=1000/\∀d∈ds,ZL n d
 |0,.tup _=>False
 |0,.lst _=>False
 |_,_=>True
inductive Tm where
 |name (x:Str)
 |node (w:Str) (ts:List Tm)
mutual
def HA:Tm->Dt
 | .name x=>.tup [.str "name",.str x]
 | .node w ts=>.tup (.str w::au ts)
def au:List Tm->List Dt
 |[]=>[]
 |t::ts=>HA t::au ts
end
theorem YV:∀ts:List Tm,au ts=ts.map HA
 |[]=>rfl
 |t::ts=>by rw[au,YV ts,cF]
theorem tM(w:Str)(ts:List Tm):HA (.node w ts)=.tup (.str w::ts.map HA):=by rw[HA,YV]
abbrev fP(H:Hp)(t:Tm)(v:V):Prop:=dW H (HA t) v
abbrev dQ(H:Hp)(ts:List Tm)(vs:List V):Prop:=bG H (ts.map HA) vs
theorem fP.name{x:Str}(h:fP H (.name x) v):∃a,v=.ref a/\H a=some (.tup [.str "name",.str x]):=by
 obtain⟨a,vs,e1,e2,u,r,e3,e4,e5⟩:=h;obtain⟨u2,r2,e6,e7,e8⟩:=e5;have e4:u=.str "name":=e4;have e7:u2=.str x:=e7;have e8:r2=[]:=e8;subst e3;subst e4;subst e6;subst e7;subst e8;exact⟨a,e1,e2⟩
theorem fP.mkName{x:Str}(h:H a=some (.tup [.str "name",.str x])):fP H (.name x) (.ref a):=
 ⟨a,_,rfl,h,_,_,rfl,rfl,_,_,rfl,rfl,rfl⟩
theorem fP.node{w:Str}(h:fP H (.node w ts) v):∃a vs,v=.ref a/\H a=some (.tup (.str w::vs))/\dQ H ts vs:=by
 unfold fP at h;rw[tM]at h;obtain⟨a,vs,e1,e2,u,r,e3,e4,e5⟩:=h;have e4:u=.str w:=e4;subst e3;subst e4;exact⟨a,r,e1,e2,e5⟩
theorem fP.mkNode{w:Str}(h:H a=some (.tup (.str w::vs)))(hs:dQ H ts vs):fP H (.node w ts) (.ref a):=by
 unfold fP;rw[tM];exact⟨a,_,rfl,h,_,_,rfl,rfl,hs⟩
def Wrd(w:Str):Prop:=w="none"\/w="all"\/w="not"\/w="both"\/w="either"
theorem Wrd.ne{w:Str}(h:Wrd w):w≠"name":=by
 rcases h with rfl |rfl |rfl |rfl |rfl<;>decide+kernel
def Sh(w:Str)(n:Nat):Prop:=(w="none"/\n=0)\/(w="all"/\n=0)\/(w="not"/\n=1)\/(w="both"/\2<=n)\/(w="either"/\2<=n)
theorem Sh.wrd{w:Str}(h:Sh w n):Wrd w:=by
 rcases h with h |h |h |h |h
 ·exact .inl h.1
 ·exact .inr (.inl h.1)
 ·exact .inr (.inr (.inl h.1))
 ·exact .inr (.inr (.inr (.inl h.1)))
 ·exact .inr (.inr (.inr (.inr h.1)))
structure Nm(x:Str):Prop where
 pos:1<=x.length
 most:x.length<=8
 low:∀c∈x.cps.toList,97<=c/\c<=122
 nn:x≠"none"
 na:x≠"all"
def fX:Nat->Tm->Prop
 |_,.name x=>Nm x
 |0,.node w ts=>Sh w ts.length/\ts=[]
 |n+1,.node w ts=>Sh w ts.length/\∀t∈ts,fX n t
theorem fX.up:∀{n:Nat}{t:Tm},fX n t->fX (n+1) t
 |n,.name _,h=>by unfold fX at h⊢;exact h
 |0,.node w ts,h=>by
  unfold fX at h;obtain⟨h1,h2⟩:=h;subst h2;exact⟨h1,fun _ z=>nomatch z⟩
 |n+1,.node w ts,h=>by
  unfold fX at h⊢;exact⟨h.1,fun t ht=>fX.up (h.2 t ht)⟩
theorem fX.mono{m:Nat}{t:Tm}(h:fX n t)(hm:n<=m):fX m t:=by
 obtain⟨k,rfl⟩:=Nat.le.dest hm
 induction k with
 |zero=>exact h
 |succ k ih=>exact fX.up (ih ())
theorem fX.sh{w:Str}(h:fX n (.node w ts)):Sh w ts.length:=by
 cases n with
 |zero=>exact h.1
 |succ n=>exact h.1
theorem fX.wrd{w:Str}(h:fX n (.node w ts)):Wrd w:=h.sh.wrd
theorem fX.part{w:Str}{t:Tm}(h:fX (n+1) (.node w ts))(ht:t∈ts):fX n t:=h.2 t ht
mutual
def wt:Tm->Nat
 | .name _=>1
 | .node _ ts=>1+mQ ts
def mQ:List Tm->Nat
 |[]=>0
 |t::ts=>wt t+mQ ts
end
theorem DN:∀t:Tm,1<=wt t
 | .name _=>by rw[wt];lia
 | .node _ _=>by rw[wt];lia
theorem QP:∀ts:List Tm,ts.length<=mQ ts
 |[]=>by simp
 |t::ts=>by
  have :=QP ts;have :=DN t;rw[mQ,bD];lia
theorem YC:∀{ts:List Tm}{t:Tm},t∈ts->wt t<=mQ ts
 |u::ts,t,h=>by
  rw[mQ];rcases bJ.mp h with h |h
  ·subst h;lia
  ·have :=YC h;lia
theorem uA:∀ts us:List Tm,mQ (ts++us)=mQ ts+mQ us
 |[],us=>by simp[mQ]
 |t::ts,us=>by rw[List.cons_append,mQ,mQ,uA ts us];lia
theorem zD{p:Addr}(h:H p=none)(o:HO):bB H (upd H p o):=fun b u q=>by rw[zJ (xI q h)];exact q
theorem fm(p q:Str):(p++q).length=p.length+q.length:=by
 show(p.cps++q.cps).size=p.cps.size+q.cps.size;rw[Array.size_append]
theorem gn(p q:Str):(p++q).cps.toList=p.cps.toList++q.cps.toList:=by
 show(p.cps++q.cps).toList=_;rw[cN]
theorem small(h:n<=1000):n<=sizeLine:=pS (vQ h)
theorem dQ.one{t:Tm}(h:fP H t v):dQ H [t] [v]:=bG.one h
theorem dQ.append{us:List Tm}{ws:List V}(h:dQ H ts vs)(h':dQ H us ws):dQ H (ts++us) (vs++ws):=by
 unfold dQ;rw[aU];exact bG.append h h'
theorem dQ.take(n:Nat)(h:dQ H ts vs):dQ H (ts.take n) (vs.take n):=by
 unfold dQ;rw[List.map_take];exact bG.take n h
theorem dQ.drop(n:Nat)(h:dQ H ts vs):dQ H (ts.drop n) (vs.drop n):=by
 unfold dQ;rw[List.map_drop];exact bG.drop n h
theorem dQ.length(h:dQ H ts vs):vs.length=ts.length:=by
 have :=bG.length h;rw[aE]at this;exact this
theorem dQ.get{t:Tm}(h:dQ H ts vs)(ht:ts[i]?=some t):∃v,vs[i]?=some v/\fP H t v:=
 bG.get (d:=HA t) h (by rw[aK,ht];rfl)
theorem dQ.getV(h:dQ H ts vs)(hv:vs[i]?=some v):∃t,ts[i]?=some t/\fP H t v:=by
 have hi:i<ts.length:=by rw[←h.length];exact(aC.mp hv).1
 obtain⟨u,h1,h2⟩:=h.get (aA hi);rw[hv]at h1;cases h1;exact⟨_,aA hi,h2⟩
def cU(H H':Hp):Prop:=∀b xs,H b=some (.tup xs)->H' b=some (.tup xs)
theorem cU.refl(H:Hp):cU H H:=fun _ _ h=>h
theorem cU.trans{H1 H2:Hp}(a:cU H H1)(b:cU H1 H2):cU H H2:=fun c o h=>b c o (a c o h)
theorem bB.tups(e:bB H H'):cU H H':=fun b xs h=>e b _ h
theorem cU.upd_lst{o:HO}(e:cU H H')(h:H' a=some (.lst xs)):cU H (upd H' a o):=fun b ys hb=>by
 rw[zJ (jH (e _ _ hb) h (by intro z;cases z))];exact e _ _ hb
theorem bB.upd{H1:Hp}{o:HO}(e:bB H H1)(h:H a=none):bB H (upd H1 a o):=fun b u hb=>by
 rw[zJ (xI hb h)];exact e _ _ hb
mutual
theorem fP.tups{H H':Hp}(e:cU H H'):∀{t:Tm}{v:V},fP H t v->fP H' t v
 | .name x,v,h=>by
   obtain⟨a,e1,h2⟩:=fP.name h;subst e1;exact fP.mkName (e _ _ h2)
 | .node w ts,v,h=>by
   obtain⟨a,vs,e1,h2,hs⟩:=fP.node h;subst e1;exact fP.mkNode (e _ _ h2) (dQ.tups e hs)
theorem dQ.tups{H H':Hp}(e:cU H H'):∀{ts:List Tm}{vs:List V},dQ H ts vs->dQ H' ts vs
 |[],vs,h=>h
 |t::ts,vs,h=>by
  obtain⟨v,r,e1,e2,e3⟩:=h;exact⟨v,r,e1,fP.tups e e2,dQ.tups e e3⟩
end
structure KD(w:World)(K:W.Frag)(a:Addr)(kvs:List (eL×V)):Prop where
 dict:∀(P:Program)(h:Heap),K.In h->∃vs,KV kvs vs/\h.DictOf (yA P w) a vs
def tKGet(w:World)(K:W.Frag)(td ty:TE):TE:=fun σ H Q=>td σ H fun x H1=>ty σ H1 fun y H2=>∃a kvs k v,x=.ref a/\y=kV k/\KD w K a kvs/\yO kvs k=some v/\Q v H2
theorem cx_w{scope:Scope}{cd:Value}{E:XK}:(XY CX P w K mg base N qual scope f cd A outer s H E).w=w:=rfl
theorem bk_w{xs:List Str}{scope:Scope}{C:Addr}{s₀:Shared}{H₀:Hp}:(yQ X xs ys scope C s₀ H₀ fp).w=X.w:=rfl
theorem TD:W.kitOne K (.type T) (.type T)=some true:=by
 unfold W.kitOne;rw[aL (by simp)]
def kitF(S T:String):Bool:=!(Value.type S==Value.type T)&&W.kitMeta T&&((PySem.fastBuiltinMro S).map (·.contains (.type T))==some false)
theorem jg{S:String}(h:kitF S T=true):W.kitOne K (.type S) (.type T)=some false:=by
 unfold kitF at h;simp only[bY,GY,cQ]at h;unfold W.kitOne;rw[aH (by rw[h.1.1];decide)];show(if W.kitMeta T=true then W.subIn K (.type S) (.type T)else none)=_;rw[aL h.1.2];exact h.2
theorem nq:W.kitOne K (.type "tuple") (.type "int")=some false:=jg (by decide+kernel)
theorem nu:W.kitOne K (.type "int") (.type "bool")=some false:=jg (by decide+kernel)
theorem PZ{P:Program}{w:World}{K:W.Frag}{mg:Str->Option Value}{base:Heap}{x:Str}{ps:List Str}{st:Stmt}{f:Addr}{fd:FuncData}{sp:Nat->Sp}(F:gS K x x st f fd)(b:Binds K fd ps [])(m:mg x=some (.ref f))
 (h0:∀vs H Q E,¬sp 0 vs H Q E) (step:∀n,gR P w K mg base n x ps (sp n)->dI P w K mg base fY (n+1) f fd ps (sp (n+1))):∀n,dI P w K mg base fY n f fd ps (sp n)
 |0=>⟨fun vs H Q E h=>(h0 vs H Q E h).elim,fun A outer s H args us vs Q E _ _ _ _ h=>(h0 vs H Q E h).elim⟩
 |n+1=>step n (zT F (PZ F b m h0 step n) b m)
def mw(w:Str):Str:=if w="none" then"all" else if w="all" then"none" else if w="both" then"either" else if w="either" then"both" else w
mutual
def mir:Tm->Tm
 | .name x=>.name x
 | .node w ts=>.node (mw w) (mirs ts)
def mirs:List Tm->List Tm
 |[]=>[]
 |t::ts=>mir t::mirs ts
end
theorem Sh.mw{w:Str}(h:Sh w n):Sh (mw w) n/\L2.mw (L2.mw w)=w:=by
 rcases h with⟨rfl,h⟩ |⟨rfl,h⟩ |⟨rfl,h⟩ |⟨rfl,h⟩ |⟨rfl,h⟩
 ·exact⟨.inr (.inl ⟨by decide+kernel,h⟩),by decide+kernel⟩
 ·exact⟨.inl ⟨by decide+kernel,h⟩,by decide+kernel⟩
 ·exact⟨.inr (.inr (.inl ⟨by decide+kernel,h⟩)),by decide+kernel⟩
 ·exact⟨.inr (.inr (.inr (.inr ⟨by decide+kernel,h⟩))),by decide+kernel⟩
 ·exact⟨.inr (.inr (.inr (.inl ⟨by decide+kernel,h⟩))),by decide+kernel⟩
theorem kN(x:V)(xs:List V):qX (x::xs) (some 1) none=xs:=by
 unfold qX;have e:HT.sIx (x::xs).length 0 (some ((1:Nat):Int))=1:=by rw[HT.sIx_nat,bD];lia
 have e:HT.sIx (x::xs).length 0 (some 1)=1:=e;rw[e,HT.sIx_none,List.drop_one,List.tail_cons,aS (by rw[bD];lia)]
theorem uO(x:V)(xs:List V):¬(HT.sIx (x::xs).length 0 (some 1)=0/\HT.sIx (x::xs).length (x::xs).length none=(x::xs).length):=by
 have e:HT.sIx (x::xs).length 0 (some ((1:Nat):Int))=1:=by rw[HT.sIx_nat,bD];lia
 have e:HT.sIx (x::xs).length 0 (some 1)=1:=e;rw[e];lia
theorem dQ.snoc{t:Tm}(ht:ts[i]?=some t)(h:dQ H (ts.take i) vs)(h1:fP H t v):dQ H (ts.take (i+1)) (vs++[v]):=by
 obtain⟨hi,e⟩:=aC.mp ht;rw[aM hi,e];exact dQ.append h (dQ.one h1)
theorem bB.tup{K:W.Frag}{H H':Hp}{a:Addr}{xs:List V}(e:bB H H')(h:dN K H a xs):dN K H' a xs:=by
 rcases h with(h |⟨o,h⟩) |h
 ·exact .inl (.inl (e _ _ h))
 ·exact .inl (.inr ⟨o,e _ _ h⟩)
 ·exact .inr h
theorem mK{x:α}{xs:List α}:oU (x::xs) 0=some x:=yE (j:=0) (xs:=x::xs) rfl
theorem rG{x y:α}{xs:List α}:oU (x::y::xs) 1=some y:=yE (j:=1) (xs:=x::y::xs) rfl
def NC(p:Tm×Tm):Dt:=.tup [HA p.1,HA p.2]
def VP(r:List (Tm×Tm)×(Tm×Tm)):Dt:=.tup [.lst (r.1.map NC),NC r.2]
abbrev oE(H:Hp)(p:Tm×Tm)(v:V):Prop:=dW H (NC p) v
abbrev pO(H:Hp)(ps:List (Tm×Tm))(vs:List V):Prop:=bG H (ps.map NC) vs
abbrev WI(H:Hp)(r:List (Tm×Tm)×(Tm×Tm))(v:V):Prop:=dW H (VP r) v
theorem oE.out{p:Tm×Tm}(h:oE H p v):∃a v1 v2,v=.ref a/\H a=some (.tup [v1,v2])/\fP H p.1 v1/\fP H p.2 v2:=by
 obtain⟨a,vs,e1,e2,u,r,e3,h1,u2,r2,e4,h2,e5⟩:=h;have e5:r2=[]:=e5;subst e5;subst e4;subst e3;exact⟨a,u,u2,e1,e2,h1,h2⟩
theorem WI.out{r:List (Tm×Tm)×(Tm×Tm)}(h:WI H r v):∃a l s vs,v=.ref a/\H a=some (.tup [.ref l,s])/\H l=some (.lst vs)/\pO H r.1 vs/\oE H r.2 s:=by
 obtain⟨a,vs,e1,e2,u,q,e3,⟨l,ws,e6,e7,h1⟩,u2,r2,e4,h2,e5⟩:=h;have e5:r2=[]:=e5;subst e5;subst e4;subst e3;subst e6;exact⟨a,l,u2,ws,e1,e2,e7,h1,h2⟩
theorem pO.length{ps:List (Tm×Tm)}(h:pO H ps vs):vs.length=ps.length:=by
 have :=bG.length h;rw[aE]at this;exact this
theorem pO.getV{ps:List (Tm×Tm)}(h:pO H ps vs)(hv:vs[i]?=some v):∃p,ps[i]?=some p/\oE H p v:=by
 have hi:i<ps.length:=by rw[←h.length];exact(aC.mp hv).1
 obtain⟨u,h1,h2⟩:=bG.get (d:=NC ps[i]) h (by rw[aK,aA hi];rfl);rw[hv]at h1;cases h1;exact⟨_,aA hi,h2⟩
def cutI(ns:List Int)(lo hi:Option Int):List Int:=(ns.drop (HT.sIx ns.length 0 lo)).take (HT.sIx ns.length ns.length hi-HT.sIx ns.length 0 lo)
theorem CG(ns:List Int)(lo hi:Option Int):qX (ns.map V.int) lo hi=(cutI ns lo hi).map V.int:=by
 unfold qX cutI;rw[aE,List.map_take,List.map_drop]
section
variable (K:W.Frag)
theorem kI(h:X.K=K:=by rfl):qq X (rIxL K):=by subst h;exact yH
theorem uF(h:X.K=K:=by rfl):qq X (rIxT K):=by subst h;exact zP
theorem NH(h:X.K=K:=by rfl):qL X (.builtin "len") (fun xs H Q=>pF xs fun x=>∃n,im K x H n/\Q (.int n) H):=by subst h;exact yJ
end
abbrev Cs:=List Nat
def glue(j:Cs):List Cs->Cs
 |[]=>[]
 |[s]=>s
 |s::r::q=>s++j++glue j (r::q)
def jAnd:Cs:=[32,38,32]
def jOr:Cs:=[32,124,32]
def jOf(w:Str):Cs:=if w="both" then jAnd else jOr
def wrN(w:Str)(ss:List Cs):Cs:=if w="not" then 33::ss.headD []else if ss=[]then w.cps.toList else 40::(glue (jOf w) ss++[41])
mutual
def wr:Tm->Cs
 | .name x=>x.cps.toList
 | .node w ts=>wrN w (wrs ts)
def wrs:List Tm->List Cs
 |[]=>[]
 |t::ts=>wr t::wrs ts
end
def toS(s:Cs):Str:=⟨s.toArray⟩
section
open PySem.Builtin PySem.Builtin.Str PySem.StrLaws
structure Mark(y:Cs)(k m:Nat):Prop where
 at_:y[k]?=some m
 once:∀j,y[j]?=some m->j=k
def sM(n:Nat)(p:Tm×Tm):Prop:=fX n p.1/\fX n p.2
end
section
open PySem.Builtin PySem.Builtin.Str
structure lA(P:Program)(w:World)(K:W.Frag)(mg:Str->Option Value)(base:Heap)(k:Nat)(C:Addr)(m:Str)(ps:List Str)(sp:Sp):Prop where
 ex:∃f fd,dI P w K mg base fY k f fd ps sp/\Binds K fd ps []/\pI K C m f
structure WO(P:Program)(w:World)(K:W.Frag)(mg:Str->Option Value)(base:Heap)(k:Nat)(C:Addr)(x:Str)(ps:List Str)(sp:Sp):Prop where
 ex:∃f fd,dI P w K mg base fY k f fd ps sp/\Binds K fd ps []/\Mk K C f/\mg x=some (.ref C)
section
variable {k:Nat} {C:Addr} {x m:Str} {p pos:Pos} {t:TA}
theorem zZ{pl:Sem Bool}(h:lA X.prog X.w X.K X.mg X.base k C m ps sp)(c:LF X.K C)(hr:hZ k X.A)(he:PE X o ta)(ha:PA X (e::es) t)
 (hst:starEach (e::es) X.env=(false,eval e X.env)::starEach es X.env:=by rfl) (hpl:(backTo pos (starEach es X.env)).any (·.1)=false:=by rfl)
 (ht:eval (.Call (.Attribute o m lV) (e::es) [] pos) X.env=(do
  let ov ←eval o X.env
  standAt lV.atName
  let (f,first) ←holding [ov] (getMethod ov m pl)
  callWith pos f first (backTo pos (starEach (e::es) X.env)) (backToKw pos (keywordEach [] X.env))):=by rfl):
 PE X (.Call (.Attribute o m lV) (e::es) [] pos) (yT C m sp [] E0 ta t):=by
 obtain⟨f,fd,F,b,mm⟩:=h.ex;exact db (pl:=pl) he c mm F hr b .nil II ha hst hpl ht
theorem AM(h:WO X.prog X.w X.K X.mg X.base k C x ps sp)(hr:hZ (k+1) X.A)(hg:Gl X x)(ha:PA X (e::es) t)(hdb:(x==("__debug__":Str))=false:=by decide)
 (he:starEach (e::es) X.env=(false,eval e X.env)::starEach es X.env:=by rfl) (hpl:(backTo pos (starEach es X.env)).any (·.1)=false:=by rfl):
 PE X (.Call (.Name x p) (e::es) [] pos) (HF C sp [] E0 t):=by
 obtain⟨f,fd,F,b,M,m⟩:=h.ex;exact dc M F hr hg m b .nil II ha hdb he hpl
end
def rdF(x:Cs)(k:Nat):List (Str×V):=[("text",.str (toS x)),("at",.int k)]
def RdAt(C:Addr)(H:Hp)(r:Addr)(x:Cs)(k:Nat):Prop:=∃dx,H r=some (.ins C dx (rdF x k))
def fO(r:Addr)(H H':Hp):Prop:=∀b o,H b=some o->b≠r->H' b=some o
theorem fO.refl(r:Addr)(H:Hp):fO r H H:=fun _ _ h _=>h
theorem fO.trans{H1 H2:Hp}(a:fO r H H1)(b:fO r H1 H2):fO r H H2:=fun c o h n=>b c o (a c o h n) n
theorem bB.x(a:bB H H'):fO r H H':=fun c o h _=>a c o h
theorem fO.upd{H1:Hp}{o:HO}(a:fO r H H1):fO r H (L2.upd H1 r o):=fun c o' h n=>by
 rw[zJ n];exact a c o' h n
theorem fO.tups{C:Addr}{x:Cs}{k:Nat}(a:fO r H H')(h:RdAt C H r x k):cU H H':=fun b xs e=>by
 obtain⟨dx,h⟩:=h;exact a b _ e (jH e h (by intro z;cases z))
theorem F.lk_list_keys:typeLookup (.type "list") "keys"=pure none:=by rw[typeLookup_type,ak];kernel_rfl
theorem F.lk_list_ga:typeLookup (.type "list") "__getattr__"=pure none:=by rw[typeLookup_type,ak];kernel_rfl
theorem F.sub_ae:isSubtype (.type "AttributeError") (.type "AttributeError")=pure true:=by rw[isSubtype_type];kernel_rfl
def iw(h h':Heap)(e:Addr):Prop:=(∀b u,h.get? b=some u->h'.get? b=some u)/\∃o,h'.get? e=some o/\o.cls=.type "AttributeError"
section
variable {its:Array Value} {sl:Array (Option Value)}
theorem LY{o:Value}{name msg:Str}{Q:α->Shared->Prop}(hA:A.handled=none)(hm:msg.length<=sizeLine)
 (hq:∀h' t' e,iw s.heap h' e->E (.ref e) {s with heap:=h',toks:=t'}):wpAny (model prog w) A (raiseAttrError o name msg:Sem α) Q E s:=by
 unfold raiseAttrError;refine aF (wpAny_mkStr (aF ?_) hm);unfold newExc newTuple;refine aF (eS ?_ (by size_fits));refine aF (m:=firstArgMember _ _) (wpAny_of_eq (a:=Value.none) (by
  simp only[firstArgMember];rw[show((Manifest.find? "AttributeError").elim false fun t=>t.mro.contains "StopIteration" ||t.mro.contains "SystemExit")=false by decide+kernel];rfl) ?_)
 refine eS ?_ (by size_fits);refine aF (wpAny_mkText ?_);refine aF ?_;obtain⟨h,g,d,t,os⟩:=s;dsimp only at hq⊢;have hk1:∀b u,h.get? b=some u->(h.push {cls:=Value.type "tuple",data:=Data.seq #[Value.str msg t]}).get? b=some u:=fun b u e=>aP _ e
 generalize h.push {cls:=Value.type "tuple",data:=Data.seq #[Value.str msg t]}=h1 at hk1⊢;have hE:=bT h1 (o:={cls:=Value.type "AttributeError",data:=Data.fields (#[Value.ref h.objs.size,Value.none,Value.none,Value.none,Value.bool false,Value.none]++ownMembersOf (Value.type "AttributeError") [Value.str msg t])}) rfl;have hk2:∀b u,h1.get? b=some u->(h1.push {cls:=Value.type "AttributeError",data:=Data.fields (#[Value.ref h.objs.size,Value.none,Value.none,Value.none,Value.bool false,Value.none]++ownMembersOf (Value.type "AttributeError") [Value.str msg t])}).get? b=some u:=fun b u e=>aP _ e
 have lL:∀b u,h1.get? b=some u->b≠h1.objs.size:=fun b u e=>bS (bA e)
 generalize h1.push {cls:=Value.type "AttributeError",data:=Data.fields (#[Value.ref h.objs.size,Value.none,Value.none,Value.none,Value.bool false,Value.none]++ownMembersOf (Value.type "AttributeError") [Value.str msg t])}=h2 at hE hk2⊢;generalize h1.objs.size=e at hE lL⊢;have hT:(⟨h2,g,d,t+1+1,os⟩:Shared).TypeIs (.ref e) "AttributeError":=⟨_,hE,rfl⟩
 have f1:=F.sub_ae;unfold noteAttr;dsimp only;refine aF ?_;unfold lacksNameAndObj;dsimp only;refine aF (wpAny_isInstance hT f1 ?_);rw[aH (by decide)];refine aF (wpAny_load hE ?_);dsimp only;rw[aH (by simp[ownMembersOf,unsetMember,rawInt]),aH (by simp[ownMembersOf,unsetMember,doubtfulMember,rawInt])];refine aR ?_;rw[aL rfl];refine aF (iO ?_);refine aF (lT hT ?_);dsimp only;unfold layMembers;refine aF (wpAny_load hE ?_);dsimp only;refine wpAny_update hE ?_;refine wpAny_raiseNew_none hA (hq _ _ _ ⟨fun b u hb=>?_,⟨_,nX _ hE (Obj.isFreed_of_fields (WS rfl _)),Obj.cls_mapFields _ _⟩⟩);exact(nJ _ _ (cJ (lL b u (hk1 b u hb)))).trans (hk2 b u (hk1 b u hb))
end
section
variable {g:Array GenState} {d:Drawn} {t:Nat} {os:OsState} {its:Array Value} {sl:Array (Option Value)}
theorem UQ{tk:Tok}{Q:PySem.Fin->Shared->Prop}(hA:A.handled=none)(hx:h.get? a=some ⟨.type "list",none,.seq its n,sl⟩)
 (hq:∀h' t' e,iw h h' e->E (.ref e) ⟨h',g,d,t',os⟩):
 wpAny (model prog w) A (Builtin.«object.__getattribute__» ⟨[.ref a,.str "keys" tk],[]⟩) Q E ⟨h,g,d,t,os⟩:=by
 have hT:(⟨h,g,d,t,os⟩:Shared).TypeIs (.ref a) "list":=⟨_,hx,rfl⟩
 have f4:=F.lk_list_keys
 repeat (any_goals (first |assumption |wp_step))
 exact LY hA (by decide+kernel) hq
theorem BM{tk:Tok}(hA:A.handled=none)(hx:h.get? a=some ⟨.type "list",none,.seq its n,sl⟩)
 (hq:∀h' t' e,iw h h' e->R (.error (.ref e)) ⟨h',g,d,t',os⟩):
 codeAny (model prog w) A (.call (.builtin "list.__getattribute__") ⟨[.ref a,.str "keys" tk],[]⟩) R ⟨h,g,d,t,os⟩:=
 codeAny_call_builtin hW.plain F.entry_list_ga (hW.check _ _ _ _ _ _ _ _ (show(⟨h,g,d,t,os⟩:Shared).TypeIs (.ref a) "list" from⟨_,hx,rfl⟩) (F.args_list_getattribute_2 _ _) (UQ hA hx hq))
theorem ML{tk:Tok}(hA:A.handled=none)(hx:h.get? a=some ⟨.type "list",none,.seq its n,sl⟩)
 (hq:∀h' t' e,iw h h' e->E (.ref e) ⟨h',g,d,t',os⟩):wpAny (model prog w) A (getAttrBy (.ref a) (.str "keys" tk) false) Q E ⟨h,g,d,t,os⟩:=by
 have hT:(⟨h,g,d,t,os⟩:Shared).TypeIs (.ref a) "list":=⟨_,hx,rfl⟩
 have f2:=hW.lookup;have f3:=hW.bind (.ref a);have f5:=F.lk_list_ga;have f6:=F.sub_ae
 repeat (any_goals (first |assumption |wp_step))
 refine BM hA hx fun h' t' e ae=>?_
 have hT2:(⟨h',g,d,t',os⟩:Shared).TypeIs (.ref e) "AttributeError":=ae.2
 repeat (any_goals (first |assumption |exact hq _ _ _ ae |wp_step))
theorem SN{Q:Option Value->Shared->Prop}(hA:A.handled=none)(hx:h.get? a=some ⟨.type "list",none,.seq its n,sl⟩)
 (hq:∀h' t',(∀b u,h.get? b=some u->h'.get? b=some u)->Q none ⟨h',g,d,t',os⟩):wpAny (model prog w) A (getAttr? (.ref a) "keys") Q E ⟨h,g,d,t,os⟩:=by
 unfold getAttr? getAttrBy?;refine aF (wpAny_mkText (aF (NY (ML hA hx fun h' t' e ae=>?_))));dsimp only;have hT2:(⟨h',g,d,t',os⟩:Shared).TypeIs (.ref e) "AttributeError":=ae.2;refine aF (wpAny_isInstance hT2 F.sub_ae ?_);rw[aL rfl];exact aR (hq _ _ ae.1)
end
theorem F.plain_dul:plainId "dict.update.loop"=true:=by decide+kernel
theorem F.entry_dul:entryFor table "dict.update.loop"=some Builtin.«dict.update.loop»:=entryFor_of_tree (by kernel_rfl)
section
variable {Kt:Type} [DecidableEq Kt] {knd:KeyKind prog w Kt}
theorem tR{kvs:List (Kt×Value)}(hn:(kvs.map (·.1)).Nodup){k:Kt}{v:Value}(h:kvs[i]?=some (k,v)):stored (kvs.take i) k v=kvs.take (i+1):=by
 obtain⟨il,ie⟩:=aC.mp h;have hno:(kvs.take i).any (fun kv=>kv.1=k)=false:=by
  rw[dX];intro z;obtain⟨x,hx,hk⟩:=fK.mp z;have hk:x.1=k:=by simpa using hk
  obtain⟨j,hj,e⟩:=dO hx;rw[bX]at hj;rw[GX]at e;exact dJ.mp hn j i (by rw[aE];lia) (by rw[aE];lia) () (by simp[e,ie,hk])
 unfold stored;rw[hno,aM il,ie];rfl
theorem EN{its:Array Value}{kvs:List (Kt×Value)}{h0:Heap}(hA:A.handled=none)(hdi:d≠it)(hl:h0.IsList l its)(hd0:∀u,h0.get? d≠some u)(hi0:∀u,h0.get? it≠some u)
 (hn:(kvs.map (·.1)).Nodup) (hsz:kvs.length<=sizeLine) (eO:its.size=kvs.length) (hp:∀(i:Nat)(k:Kt)(v:Value),kvs[i]?=some (k,v)->∃(a:Addr)(key:Value),its[i]?=some (Value.ref a)/\IsTup h0 a #[key,v]/\knd.is k key=true):
 ∀(m i:Nat)(t:Tok)(s:Shared),kvs.length-i=m->i<=kvs.length->s.heap.IsListIter it l i->s.heap.DictOf knd d (kvs.take i)->(∀b u,h0.get? b=some u->s.heap.get? b=some u)->
 (∀h' t',(∀b u,h0.get? b=some u->h'.get? b=some u)->h'.DictOf knd d kvs->R (.ok (.ret .none)) {s with heap:=h',toks:=t'})->
 codeAny (model prog w) A (.builtin "dict.update.loop" ⟨[.ref d,.ref it,.int i t,.none],[]⟩) R s:=by
 intro m
 induction m with
 |zero=>
  intro i t s hm hi hit hd hk hR;have hin:i=kvs.length:=by lia
  subst hin;have fF:s.heap.IsList l its:=by obtain⟨o,ho,r⟩:=hl;exact⟨o,hk _ _ ho,r⟩
  refine tD F.entry_dul ?_;rw[oO F.plain_dul _];show wpAny _ A.in1 (pyNext (.ref it) >>= _) _ _ s;refine aF (DH (A:=A.in1) hA hit fF (by rw[i3];lia) fun h' he=>?_);rw[aS (aG _)]at hd;show wpAny _ A.in1 (Builtin.Dict.addKeywords d [] >>= _) _ _ _;refine aF (aR (aR (hR h' s.toks (fun b u hb=>he b u (fun z=>hi0 u (by rw[←z];exact hb)) (hk b u hb)) (hd.extBut he hdi))))
 |succ m ih=>
  intro i t s hm hi hit hd hk hR;have lS:i<kvs.length:=by lia
  have fF:s.heap.IsList l its:=by obtain⟨o,ho,r⟩:=hl;exact⟨o,hk _ _ ho,r⟩
  obtain⟨a,key,ha,ht,hkey⟩:=hp i kvs[i].1 kvs[i].2 (aA lS);refine tD F.entry_dul ?_;rw[oO F.plain_dul _];show wpAny _ A.in1 (pyNext (.ref it) >>= _) _ _ s;refine aF (sP (A:=A.in1) hit fF ha fun h1 hit1 hs1=>?_);have hk1:∀b u,h0.get? b=some u->h1.get? b=some u:=fun b u hb=>(hs1.2 b (fun z=>hi0 u (by rw[←z];exact hb))).trans (hk b u hb)
  have hd1:h1.DictOf knd d (kvs.take i):=hd.sameBut hs1 hdi;obtain⟨ot,hot,hct,nt,hdt⟩:=ht;have hot1:=hk1 _ _ hot;have hT:({s with heap:=h1}:Shared).TypeIs (.ref a) "tuple":=⟨_,hot1,hct⟩
  refine aF (eV (aF ?_));refine wpAny_tryCatch ?_;unfold Builtin.Dict.pairItems;refine aF (lT hT ?_);rw[aL (by decide)];refine aF (wpAny_seqItems hot1 hdt (aR ?_));refine eV (wpAny_dictSet_pairs (kvs:=kvs.take i) hkey hd1 (fun h2 hd2 hs2=>?_) (by rw[bX];lia));rw[tR hn (show kvs[i]?=some (kvs[i].1,kvs[i].2)from aA lS)]at hd2;refine aR ⟨NZ F.plain_dul _,?_⟩;have hk2:∀b u,h0.get? b=some u->h2.get? b=some u:=fun b u hb=>(hs2.2 b (fun z=>hd0 u (by rw[←z];exact hb))).trans (hk1 b u hb)
  have hit2:h2.IsListIter it l (i+1):=by obtain⟨o,ho,r⟩:=hit1;exact⟨o,(hs2.2 _ (cJ hdi)).trans ho,r⟩
  exact ih (i+1) _ {s with heap:=h2,toks:=s.toks+1} () lS hit2 hd2 hk2 hR
theorem YA{its:Array Value}{kvs:List (Kt×Value)}(hA:A.handled=none)(hl:PlainL s.heap l its)
 (hn:(kvs.map (·.1)).Nodup) (hsz:kvs.length<=sizeLine) (eO:its.size=kvs.length) (hp:∀(i:Nat)(k:Kt)(v:Value),kvs[i]?=some (k,v)->∃(a:Addr)(key:Value),its[i]?=some (Value.ref a)/\IsTup s.heap a #[key,v]/\knd.is k key=true)
 (h:∀h' t',(∀b u,s.heap.get? b=some u->h'.get? b=some u)->h'.DictOf knd s.heap.objs.size kvs->Q (.ref s.heap.objs.size) {s with heap:=h',toks:=t'}):
 wpAny (model prog w) A (call (.type "dict") [.ref l]) Q E s:=by
 refine callType_codes (Q₁:=fun obj s₁=>obj=.ref s.heap.objs.size/\s₁={s with heap:=s.heap.push {cls:=.type "dict",data:=.dict #[]}}) F.kt_called_dict (iz _) F.entry_dict_init (kt_code_dict_new _ ⟨rfl,rfl⟩) ?_;rintro obj s₁ ⟨rfl,rfl⟩;have hnew:(s.heap.push {cls:=.type "dict",data:=.dict #[]}).DictOf knd s.heap.objs.size []:=Heap.DictOf.new s.heap;refine⟨hnew.typeIs,F.args_dict_init_2 _ _,?_⟩;obtain⟨ol,nl,hol,hlc,hld,hls⟩:=hl;have hol1:(s.heap.push {cls:=.type "dict",data:=.dict #[]}).get? l=some ol:=aP _ hol;have hT:({s with heap:=s.heap.push {cls:=.type "dict",data:=.dict #[]}}:Shared).TypeIs (.ref l) "list":=⟨_,hol1,hlc⟩
 unfold Builtin.«dict.__init__»;refine aF ?_;unfold Builtin.Dict.selfAndRest;refine aF (nW hnew.typeIs ?_);show wpAny _ _ (pure (s.heap.objs.size,[Value.ref l])) _ _ _;refine aR ?_;show wpAny _ _ (Builtin.Dict.updateFrom "dict.__init__" s.heap.objs.size (.ref l) [] .none) _ _ _;unfold Builtin.Dict.updateFrom;refine aF (lT hT ?_);rw[aL (by decide)];have hkd:∀b u,s.heap.get? b=some u->(s.heap.push {cls:=.type "dict",data:=.dict #[]}).get? b=some u:=fun b u e=>aP _ e
 have hd0:∀u,s.heap.get? s.heap.objs.size≠some u:=fun u z=>eE _ (bA z)
 obtain⟨hp0,g,d,t,os⟩:=s;dsimp only at *;generalize hp0.push {cls:=.type "dict",data:=.dict #[]}=h1 at hnew hol1 hT hkd⊢;generalize hp0.objs.size=D at hnew hd0 h⊢;obtain⟨c1,c2,c3,c4⟩:=ol;dsimp only at hlc hld hls;subst hlc hld hls;refine aF (SN (A:=A.in1.in1) hA hol1 fun h2 t2 hk2=>?_);rw[aL (by rfl)];refine aF (iO ?_);have hl2:h2.IsList l its:=⟨_,hk2 _ _ hol1,rfl,_,rfl⟩
 refine aF (rB hl2 ?_);refine aR ⟨NZ F.plain_dul _,?_⟩;have hd2:=hnew.keep hk2;have hit0:∀u,hp0.get? h2.objs.size≠some u:=fun u z=>eE _ (bA (hk2 _ _ (hkd _ _ z)))
 have hDi:D≠h2.objs.size:=fun z=>by
  obtain⟨o,_,_,ho,_⟩:=hd2;exact eE _ (by have :=bA ho;rw[z]at this;exact this)
 refine EN (h0:=hp0) (kvs:=kvs) (A:=A.in1) hA hDi ⟨_,hol,rfl,_,rfl⟩ hd0 hit0 hn hsz eO hp kvs.length 0 _ _ () (cG _) ⟨_,bT _ rfl,rfl,rfl⟩ (hd2.push _) (fun b u hb=>aP _ (hk2 _ _ (hkd _ _ hb))) fun h' t' hk' hd'=>?_
 exact⟨rfl,h h' t' hk' hd'⟩
end
def HW:V->List V->Hp->VK->Prop:=fun x vs H Q=>∃(l:Addr)(xs:List V)(i:Nat)(y:V),x=.ref l/\vs=[.int i,y]/\H l=some (.lst xs)/\i<=xs.length/\xs.length<1000000/\Q .non (upd H l (.lst (xs.take i++y::xs.drop i)))
theorem FQ{its:Array Value}{x:Int}{t:Tok}(h1:(!Builtin.List.listFitsIndex x)=false)(hsz:its.size<=sizeLine)(e:s.heap.get? l=some {cls:=.type "list",data:=.seq its n})
 (q:Q .none {s with heap:=s.heap.update l (Obj.mapSeq fun xs=>have k:=if x<0 then(x+(xs.size:Int)).toNat else min x.toNat xs.size;(xs.extract 0 k).push u++xs.extract k),toks:=s.toks}):
 wpAny (model prog w) A (call (.builtin "list.insert") [.ref l,.int x t,u]) Q E s:=
 sR F.slot_list_insert ⟨_,e,rfl⟩ F.entry_list_insert (F.args_list_insert_3 _ _ _) (PySem.AutoSeq1.list_insert_list_int_val_1 l its n x t u (by rw[h1];decide) hsz) ⟨e,q⟩
theorem og(its:List Value)(i:Nat)(u:Value)(h:i<=its.length)(x:Int)(hx:x=i):(fun xs:Array Value=>have k:=if x<0 then(x+(xs.size:Int)).toNat else min x.toNat xs.size;(xs.extract 0 k).push u++xs.extract k) its.toArray=(its.take i++u::its.drop i).toArray:=by
 have e1:(if x<0 then(x+(its.toArray.size:Int)).toNat else min x.toNat its.toArray.size)=i:=by
  rw[aH (),aQ];lia
 show(its.toArray.extract 0 (if x<0 then(x+(its.toArray.size:Int)).toNat else min x.toNat its.toArray.size)).push u++its.toArray.extract (if x<0 then(x+(its.toArray.size:Int)).toNat else min x.toNat its.toArray.size)=_;rw[e1];apply Array.toList_inj.mp;simp[eD,List.extract_eq_drop_take];exact aS (by rw[fI];exact aG _)
theorem MM:MtM X "list.insert" HW:=by
 intro aJ s σ H x vs v us Q I rx rv h;obtain⟨l,xs,i,y,rfl,rfl,hH,hi,hz,q⟩:=h;cases rx;obtain⟨u1,u,rfl,ru1,ru⟩:=rv.two;obtain⟨t,rfl⟩:=ru1;obtain⟨z,its,n,r,hl,e⟩:=I.lstM hH;have hs:sizeLine=16777216:=dE;have hfit:(!Builtin.List.listFitsIndex (i:Int))=false:=by
  rw[fitsIndex_both () ()];rfl
 have hsz:its.toArray.size<=sizeLine:=by rw[aQ];lia
 have eO:(xs.take i++y::xs.drop i).length<=sizeLine:=by
  rw[aI,bD,bX,fI];lia
 have hil:i<=its.length:=by lia
 clear hs hz hi;obtain⟨x,hx⟩:∃x:Int,x=(i:Int):=⟨_,rfl⟩
 rw[←hx]at hfit⊢;exact FQ hfit hsz e ⟨.non,_,I.lset (its':=its.take i++u::its.drop i) hH e (og its i u hil x hx) ((r.take i).append (.cons ru (r.drop i))) eO,rfl,q⟩
theorem AR{P:Program}{w:World}{h:Heap}:∀(kvs:List (eL×V))(as:List Addr),(∀(i:Nat)(k:eL)(v:V),kvs[i]?=some (k,v)->∃a its,as[i]?=some a/\dD [kV k,v] its/\IsTup h a its.toArray)->
 ∃vs:List (eL×Value),KV kvs vs/\∀(i:Nat)(k:eL)(v:Value),vs[i]?=some (k,v)->∃(a:Addr)(key:Value),as[i]?=some a/\IsTup h a #[key,v]/\(yA P w).is k key=true
 |[],as,_=>⟨[],.nil,fun i k v e=>by simp at e⟩
 |(k,v)::kvs,as,hh=>by
  obtain⟨a,its,h1,h2,h3⟩:=hh 0 k v rfl;cases as with
  |nil=>simp at h1
  |cons a0 as=>
   simp at h1;subst h1;obtain⟨ku,vu,rfl,rk,rv⟩:=h2.two;obtain⟨vs,g1,g2⟩:=AR (P:=P) (w:=w) kvs as fun i k v e=>by
    obtain⟨a,its,e1,e2⟩:=hh (i+1) k v (by simpa using e);exact⟨a,its,by simpa using e1,e2⟩
   refine⟨(k,vu)::vs,.cons ⟨rfl,rv⟩ g1,fun i k' v' e=>?_⟩;cases i with
   |zero=>
    simp at e;obtain⟨rfl,rfl⟩:=e;exact⟨a0,ku,rfl,h3,ZQ rk⟩
   |succ i=>
    obtain⟨a,key,e1,e2⟩:=g2 i k' v' (by simpa using e);exact⟨a,key,by simpa using e1,e2⟩
theorem YL{κ:Type}:∀{kvs:List (κ×V)}{vs:List (κ×Value)},KV kvs vs->vs.map (·.1)=kvs.map (·.1)
 |_,_,.nil=>rfl
 |_,_,.cons h r=>by rw[cF,cF,YL r,h.1]
theorem JB:qL X (.type "dict") (fun xs H Q=>ag X.calm (pF xs fun x=>mL x fun p=>∃as:List Addr,dL X.K H p (as.map V.ref)/\∃kvs:List (eL×V),as.length=kvs.length/\(kvs.map (·.1)).Nodup/\
 (∀(i:Nat)(k:eL)(v:V),kvs[i]?=some (k,v)->∃a,as[i]?=some a/\dN X.K H a [kV k,v])/\∀l,H l=none->Q (.ref l) (upd H l (.dK kvs)))):=by
 intro aJ s σ H xs us Q I r h;replace h:=DB h;obtain⟨hc,h⟩:=h;replace h:=wD h;obtain⟨x0,rfl,h⟩:=h;replace h:=xJ h;obtain⟨p,rfl,as,hp,kvs,eO,hn,hk,q⟩:=h;obtain⟨u,rfl,ru⟩:=uI r;cases ru;obtain⟨its,rv,hl,hz⟩:=I.list hp;have hil:=rv.length;rw[aE]at hil hz;obtain⟨vs,g1,g2⟩:=AR (P:=X.prog) (w:=X.w) (h:=s.heap) kvs as fun i k v e=>by
  obtain⟨a,e1,e2⟩:=hk i k v e;obtain⟨its,r2,t2,_⟩:=I.tuple e2;exact⟨a,its,e1,r2,t2⟩
 have hvl:kvs.length=vs.length:=eW g1;refine YA (knd:=yA X.prog X.w) (kvs:=vs) (I.ok.hd hc) hl (by rw[YL g1];exact hn) () (by rw[aQ];lia) (fun i k v e=>?_) fun h' t' hk' hd'=>?_
 ·obtain⟨a,key,e1,e2,e3⟩:=g2 i k v e;obtain⟨u,h1,h2⟩:=rv.get (i:=i) (x:=V.ref a) (by rw[aK,e1];rfl);cases h2;exact⟨a,key,by simpa using h1,e2,e3⟩
 ·exact⟨.ref s.heap.objs.size,_,I.laid (a:=s.heap.objs.size) (o:=.dK kvs) (t':=t') hk' (aG _) (FZ () (cV.mpr (cJ (bS I.big))) g1 hd'),rfl,q _ (I.hok.fresh (aG _))⟩
end
section
open PySem.W
section
variable {P:Nat->Value->Prop} {OK:Heap->Prop}
theorem HI:∀{vs:List Value}{ss:List Str},vs.length=ss.length->(∀(i:Nat)(v:Value)(x:Str),vs[i]?=some v->ss[i]?=some x->∃t,v=.str x t)->StrsAre vs ss
 |[],[],_,_=>.nil
 |[],_::_,h,_=>by simp at h
 |_::_,[],h,_=>by simp at h
 |v::vs,x::ss,h,hh=>by
  obtain⟨t,rfl⟩:=hh 0 v x rfl rfl;exact .cons x t (HI (by simpa using h) fun i v' x' h1 h2=>hh (i+1) v' x' (by simpa using h1) (by simpa using h2))
theorem JR:∀{vs:List Value}{ss:List Str},StrsAre vs ss->dD (ss.map V.str) vs
 |_,_,.nil=>.nil
 |_,_,.cons y t h=>.cons ⟨t,rfl⟩ (JR h)
theorem DY(K:KdlSrc prog w T r d n P OK)(hh:A.handled=none)(hok:OK s.heap)(hn:n<64){ss:List Str}(hl:ss.length=n)(hP:∀(i:Nat)(v:Value)(x:Str),P i v->ss[i]?=some x->∃t,v=.str x t)
 (h:∀(h1 h':Heap)(tk:Nat)(iH:List Value)(ss':List Str)(e:Nat),(∀b o,s.heap.get? b=some o->h1.get? b=some o)->(∀b o,h1.get? b=some o->h'.get? b=some o)->h'.get? h1.objs.size=some {cls:=.type "list",data:=.seq iH.toArray e}->StrsAre iH ss'->ss'.Perm ss->sortedS ss'=true->Q (.ref h1.objs.size) {s with heap:=h',toks:=tk}):
 wpAny (model prog w) A (call (.builtin "sorted") [.ref r]) Q E s:=by
 have hs:sizeLine=16777216:=dE;refine pW kind_sorted plain_sorted entry_sorted (args_sorted1 _) ?_;unfold Builtin.«sorted»;refine aF (m:=checkCount "sorted" 1 1 _) (aR ?_);refine aF (kdu_collect (A:=A.in1) K hh hok () fun h' tk acc hk hacc=>?_);have hl2:acc.toList.length=n:=by rw[bR];exact hacc.1
 have hS:StrsAre acc.toList ss:=HI () fun i v x h1 h2=>hP i v x (hacc.2 i v (by rw[←cZ];exact h1)) h2
 generalize acc.toList=vs at hl2 hS;refine aF (rJ ?_ ());have hoL:(h'.push (seqObj "list" vs.toArray 0)).get? h'.objs.size=some (seqObj "list" vs.toArray 0):=bT _ rfl;show wpAny _ _ _ _ _ {s with heap:=h'.push (seqObj "list" vs.toArray 0),toks:=tk};refine aF (eV (gE slot_list_sort ⟨_,hoL,rfl⟩ entry_list_sort (list_sort_treeK (A:=A.in1.in1) strKind_oneLt hoL hS.keysOf (fun v₁ v₂ rest e=>keyKind_strs (by rw[←e];exact hS)) () fun cO a1 a2=>⟨_,rfl,?_⟩) (args_list_sort _)));obtain⟨ss',h1,h2,h3⟩:=sorted_out_str hS a1 a2;obtain⟨e,he⟩:=sortedHeap_at (out:=(arrOf cO).map (·.2)) hoL;refine aR ⟨_,rfl,h h' _ tk _ ss' e hk (fun b o hb'=>?_) (by rw[sD];exact he) h1 h2 h3⟩;have lS:=bA hb';rw[sortedHeap_old (bS lS) (by rw[size_push'];exact gK lS)];exact aP _ hb'
end
theorem VH:qL X (.builtin "sorted") (fun xs H Q=>ag X.calm (pF xs fun x=>mL x fun p=>∃kvs:List (eL×V),H p=some (.dK kvs)/\∃zs:List Str,kvs.map (·.1)=zs.map Sum.inr/\zs.length<64/\
 ∀l zs',H l=none->zs'.Perm zs->sortedS zs'=true->Q (.ref l) (upd H l (.lst (zs'.map V.str))))):=by
 intro aJ s σ H xs us Q I r h;replace h:=DB h;obtain⟨hc,h⟩:=h;replace h:=wD h;obtain⟨x0,rfl,h⟩:=h;replace h:=xJ h;obtain⟨p,rfl,kvs,hp,zs,hk,h64,q⟩:=h;obtain⟨u,rfl,ru⟩:=uI r;cases ru;obtain⟨z,hd,vs,mT,dd⟩:=kL I.hok (.inl hp);obtain⟨ep,hat⟩:=dd.dictAt;have hvl:kvs.length=vs.length:=eW mT;have hkl:kvs.length=zs.length:=by have :=dH List.length hk;rwa[aE,aE]at this
 have hkeys:vs.map (·.1)=zs.map Sum.inr:=(YL mT).trans hk;refine DY (kdl_dict (knd:=yA X.prog X.w) (kvs:=vs) (ep:=ep) hd) (I.ok.hd hc) hat () (ss:=zs) () (fun i v x hP hx=>?_) fun h1 h' tk iH ss' e k1 k2 hB hS mU hs2=>?_
 ·obtain⟨k,y,h1,h2⟩:=hP;have e1:(vs.map (·.1))[i]?=some k:=by rw[aK,h1];rfl
  rw[hkeys,aK,hx]at e1;cases e1;have h2:ZP (.inr x) v=true:=h2;rcases yS h2 with⟨_,_,e,_⟩ |⟨x',t,e,e2⟩
  ·cases e
  ·cases e;exact⟨t,e2⟩
 ·have I1:Inv X aJ σ H {s with heap:=h1,toks:=tk}:=I.kept k1;have eO:ss'.length=zs.length:=mU.length_eq;exact⟨.ref h1.objs.size,_,I1.laid (a:=h1.objs.size) (o:=.lst (ss'.map V.str)) (t':=tk) k2 (aG _) ⟨by rw[aE,dE];lia,iH,e,JR hS,hB⟩,rfl,q _ _ (I1.hok.fresh (aG _)) mU hs2⟩
theorem FX(l:Addr)(dG:Array Value)(n:Nat)(b:Addr)(dd:Option Addr)(sl:Array (Option Value))(items2:Array Value)(n2:Nat)(hs0:¬(!dG.isEmpty&&Builtin.List.listTooLong (dG.size+items2.size))=true)(hs1:dG.size<=sizeLine)(hs2:dG.size+items2.size<=sizeLine+1):
 Meets (Builtin.«list.extend» ⟨[.ref l,.ref b],[]⟩) (fun _ R s=>s.heap.get? l=some {cls:=.type "list",dict:=none,data:=.seq dG n,slots:= #[]}/\s.heap.get? b=some ⟨.type "tuple",dd,.seq items2 n2,sl⟩/\R (.ok (.ret Value.none)) {s with heap:=s.heap.update l (Obj.mapSeq fun x=>x++items2),toks:=s.toks}):=
 .of_wp fun prog w A R s h=>by
  obtain⟨hp,g,d,tk,os⟩:=s;obtain⟨hl,hb,h⟩:=h;have f2:=PySem.AutoSeq1.sub_tuple_tuple;have f4:=PySem.AutoSeq1.sub_tuple_list;have hz':(dG++items2).size<=sizeLine+1:=by rw[Array.size_append];exact hs2
  wp_walk using(wpAny_updateSeq hl rfl (hz:=hs1) (_hz':=hz')),NN hl,NN hb
  exact⟨_,rfl,h⟩
def wY(K:W.Frag):V->List V->Hp->VK->Prop:=fun x vs H Q=>mL x fun l=>pF vs fun z=>mL z fun b=>∃xs,H l=some (.lst xs)/\∃zs,dN K H b zs/\xs.length+zs.length<=sizeLine/\Q .non (upd H l (.lst (xs++zs)))
theorem wM:MtM X "list.extend" (wY X.K):=by
 intro aJ s σ H x vs v us Q I rx rv h;replace h:=xJ h;obtain⟨l,rfl,h⟩:=h;replace h:=wD h;obtain⟨x,rfl,h⟩:=h;replace h:=xJ h;obtain⟨b,rfl,xs,hH,zs,hB,hz,q⟩:=h;cases rx;obtain⟨u,rfl,ru⟩:=rv.one;cases ru;obtain⟨z,its,n,r,hl,e⟩:=I.lstM hH;obtain⟨its2,r2,⟨o2,e2,c2,n2,d2⟩,z2⟩:=I.tuple hB;obtain⟨k1,k2,k3,k4⟩:=o2;dsimp only at c2 d2;subst c2 d2;have hl2:=r2.length;have hsz:its.toArray.size+its2.toArray.size<=sizeLine:=by rw[aQ,aQ];lia
 have hlong:¬(!its.toArray.isEmpty&&Builtin.List.listTooLong (its.toArray.size+its2.toArray.size))=true:=by
  rw[XQ hsz,oM];exact cI
 refine sR gU ⟨_,e,rfl⟩ F.entry_list_extend (F.args_list_extend_2 _ _)
  (FX l its.toArray n b k2 k4 its2.toArray n2 hlong (by rw[aQ];lia) ()) ⟨e,e2,?_⟩
 refine⟨.non,_,I.lset (its':=its++its2) hH e (by simp) (r.append r2) ?_,rfl,q⟩;rw[aI];lia
end
section
variable {I:Addr} {wr:List Addr} {P:Nat->Value->Prop} {St:Nat->Shared->Prop}
end
section
open PySem.SeqAt
mutual
def eU:Dt->Dt->Bool
 | .non,.non=>true
 | .bl a,.bl b=>a==b
 | .int a,.int b=>a==b
 | .bl a,.int b=>(if a then 1 else 0)==b
 | .int a,.bl b=>a==(if b then 1 else 0)
 | .str a,.str b=>a==b
 | .tup xs,.tup ys=>kM xs ys
 | .lst xs,.lst ys=>kM xs ys
 |_,_=>false
def kM:List Dt->List Dt->Bool
 |[],[]=>true
 |x::xs,y::ys=>eU x y&&kM xs ys
 |_,_=>false
end
mutual
theorem xV:∀d:Dt,eU d d=true
 | .non=>rfl
 | .bl a=>by simp[eU]
 | .int a=>by simp[eU]
 | .str a=>by simp[eU]
 | .tup ds=>by rw[eU];exact ZG ds
 | .lst ds=>by rw[eU];exact ZG ds
theorem ZG:∀ds:List Dt,kM ds ds=true
 |[]=>rfl
 |d::ds=>by rw[kM,xV d,ZG ds];rfl
end
def FY(xs ys:List Dt)(j:Nat):Bool:=
 match xs[j]?,ys[j]? with
 |some x,some y=>eU x y
 |_,_=>false
theorem vK:∀xs ys:List Dt,((List.range (min xs.length ys.length)).all (FY xs ys)&&xs.length==ys.length)=kM xs ys
 |[],[]=>rfl
 |[],y::ys=>by simp[kM]
 |x::xs,[]=>by simp[kM]
 |x::xs,y::ys=>by
  rw[kM,←vK xs ys,bD,bD,Nat.succ_min_succ,List.range_succ_eq_map,List.all_cons,pU];have e1:FY (x::xs) (y::ys) 0=eU x y:=rfl;have e2:FY (x::xs) (y::ys) ∘ Nat.succ=FY xs ys:=by funext j;simp[FY]
  rw[e1,e2,Bool.and_assoc]
  congr 2
  rw[cE];simp
mutual
theorem dW.one_of{H:Hp}:∀{d d':Dt}{v:V},dW H d v->dW H d' v->d=d'
 |d,.non,v,h,h'=>by have h':v=.non:=h';subst h';cases d<;>simp_all [dW]
 |d,.bl b,v,h,h'=>by have h':v=.bl b:=h';subst h';cases d<;>simp_all [dW]
 |d,.int b,v,h,h'=>by have h':v=.int b:=h';subst h';cases d<;>simp_all [dW]
 |d,.str b,v,h,h'=>by have h':v=.str b:=h';subst h';cases d<;>simp_all [dW]
 |d,.tup iJ,v,h,h'=>by
  obtain⟨a,vs,rfl,e2,e3⟩:=h';cases d with
  |tup ds=>
   obtain⟨a',iH,e1',e2',e3'⟩:=h;cases e1';rw[e2]at e2';cases e2';rw[bG.one_of e3' e3]
  |lst ds=>
   obtain⟨a',iH,e1',e2',e3'⟩:=h;cases e1';rw[e2]at e2';cases e2'
  |_=>cases h
 |d,.lst iJ,v,h,h'=>by
  obtain⟨a,vs,rfl,e2,e3⟩:=h';cases d with
  |lst ds=>
   obtain⟨a',iH,e1',e2',e3'⟩:=h;cases e1';rw[e2]at e2';cases e2';rw[bG.one_of e3' e3]
  |tup ds=>
   obtain⟨a',iH,e1',e2',e3'⟩:=h;cases e1';rw[e2]at e2';cases e2'
  |_=>cases h
theorem bG.one_of{H:Hp}:∀{ds iJ:List Dt}{vs:List V},bG H ds vs->bG H iJ vs->ds=iJ
 |ds,[],vs,h,h'=>by
  have h':vs=[]:=h';subst h';cases ds with
  |nil=>rfl
  |cons d ds=>obtain⟨v,r,e,_⟩:=h;cases e
 |ds,d'::iJ,vs,h,h'=>by
  obtain⟨v,r,rfl,e2,e3⟩:=h';cases ds with
  |nil=>cases h
  |cons d ds=>
   obtain⟨v',r',e,e2',e3'⟩:=h;cases e;rw[dW.one_of e2' e2,bG.one_of e3' e3]
end
theorem bG.tup_of(ok:mO P w H s.heap)(h:H a=some (.tup vs)):∃its:List Value,dD vs its/\s.heap.IsTuple a its.toArray:=by
 obtain⟨z,its,r,p⟩:=ok a _ h;exact⟨its,r,p⟩
theorem bG.lst_of(ok:mO P w H s.heap)(h:H a=some (.lst vs)):∃its:List Value,dD vs its/\s.heap.IsList a its.toArray:=by
 obtain⟨z,its,n,r,p⟩:=ok a _ h;exact⟨its,r,_,p,rfl,n,rfl⟩
theorem qM:∀{xs:List V}{us:List Value}{i:Nat}{x:V}{u:Value},dD xs us->xs[i]?=some x->us[i]?=some u->RelV x u
 |_,_,_,_,_,.nil,h,_=>by simp at h
 |_,_,0,_,_,.cons r q,h,h'=>by
  simp at h h';subst h;subst h';exact r
 |_,_,i+1,_,_,.cons r q,h,h'=>qM q (by simpa using h) (by simpa using h')
theorem AB(ok:mO P w H s.heap)(ih:∀{A:Around}{d d':Dt}{v v':V}{u u':Value},dW H d v->dW H d' v'->RelV v u->RelV v' u'->ZL n d->A.units+n<cLine->EqAt A s u u' (eU d d'))
 {l':Addr} {ds iJ:List Dt} {iH:List V} (hs:bG H ds vs) (fC:bG H iJ iH) (rv:dD vs its) (rv':dD iH its') (hl:s.heap.IsList l its.toArray) (fF:s.heap.IsList l' its'.toArray)
 (f:∀d∈ds,ZL n d) (hu:A.units+(n+1)<cLine):RcAt A s (.ref l) (.ref l') (kM ds iJ):=by
 have k1:=hs.length;have k2:=fC.length;have k3:=rv.length;have k4:=rv'.length;by_cases hz:ds.length=iJ.length
 ·have key:=RcAt.lists (A:=A) (e:=FY ds iJ) hl fF (by rw[aQ,aQ];lia) () fun j h1 h2=>?_
  ·rw[←vK,hz,Nat.min_self,dU,Bool.and_true];rw[aQ]at key;rw[show iJ.length=its.length by lia];exact key
  ·rw[aQ]at h1 h2;have hj:j<ds.length:=by lia
   have hj':j<iJ.length:=by lia
   obtain⟨x,x1,x2⟩:=hs.get (aA hj);obtain⟨y,y1,y2⟩:=fC.get (aA hj');have e1:FY ds iJ j=eU ds[j] iJ[j]:=by unfold FY;rw[aA hj,aA hj']
   rw[e1];refine ih x2 y2 ?_ ?_ (f _ (cW hj)) (by show A.units+1+n<cLine;lia)
   ·exact qM rv x1 (by rw[gL];exact aA h1)
   ·exact qM rv' y1 (by rw[gL];exact aA h2)
 ·have hf:kM ds iJ=false:=by rw[←vK,show(ds.length==iJ.length)=false by simpa using hz,oM]
  rw[hf];exact RcAt.lists_lengths hl fF (by rw[aQ,aQ];simp;lia) ()
theorem VO(ok:mO P w H s.heap){d:Dt}{u':Value}(h:dW H d v)(r:RelV v u)(r':RelV v u'):EqAt A s u u' true:=by
 cases d with
 |non=>have h:v=.non:=h;subst h;cases r;cases r';exact EqAt.same _
 |bl a=>have h:v=.bl a:=h;subst h;cases r;cases r';exact EqAt.same _
 |int a=>
  have h:v=.int a:=h;subst h;obtain⟨t,rfl⟩:=r;obtain⟨t',rfl⟩:=r';have :=EqAt.int_int (A:=A) (s:=s) a t a t';rwa[dU]at this
 |str a=>
  have h:v=.str a:=h;subst h;obtain⟨t,rfl⟩:=r;obtain⟨t',rfl⟩:=r';have :=EqAt.str_str (A:=A) (s:=s) a t a t';rwa[dU]at this
 |tup ds=>obtain⟨l,vs,rfl,_⟩:=h;cases r;cases r';exact EqAt.same _
 |lst ds=>obtain⟨l,vs,rfl,_⟩:=h;cases r;cases r';exact EqAt.same _
theorem VB(ok:mO P w H s.heap){d d':Dt}{v':V}{u':Value}(h:dW H d v)(h':dW H d' v')(r:RelV v u)(r':RelV v' u')(hu:A.units<cLine)(hk:∀ds iJ,¬(d=.tup ds/\d'=.tup iJ)/\¬(d=.lst ds/\d'=.lst iJ)):EqAt A s u u' (eU d d'):=by
 cases d with
 |non=>
  have h:v=.non:=h;subst h;cases r;cases d' with
  |non=>
   have h':v'=.non:=h';subst h';cases r';simp only[eU];exact EqAt.same _
  |bl b=>
   have h':v'=.bl b:=h';subst h';cases r';simp only[eU];exact EqAt.none_bool _
  |int b=>
   have h':v'=.int b:=h';subst h';obtain⟨t',rfl⟩:=r';simp only[eU];exact EqAt.none_int _ _
  |str b=>
   have h':v'=.str b:=h';subst h';obtain⟨t',rfl⟩:=r';simp only[eU];exact EqAt.none_str _ _
  |tup iJ=>
   obtain⟨l',iH,rfl,e',fC⟩:=h';cases r';obtain⟨its',rv',fF⟩:=bG.tup_of ok e';simp only[eU];exact EqAt.none_tuple fF hu
  |lst iJ=>
   obtain⟨l',iH,rfl,e',fC⟩:=h';cases r';obtain⟨its',rv',fF⟩:=bG.lst_of ok e';simp only[eU];exact EqAt.none_list fF hu
 |bl a=>
  have h:v=.bl a:=h;subst h;cases r;cases d' with
  |non=>
   have h':v'=.non:=h';subst h';cases r';simp only[eU];exact EqAt.bool_none _
  |bl b=>
   have h':v'=.bl b:=h';subst h';cases r';simp only[eU];exact EqAt.bool_bool _ _
  |int b=>
   have h':v'=.int b:=h';subst h';obtain⟨t',rfl⟩:=r';simp only[eU];exact EqAt.bool_int _ _ _
  |str b=>
   have h':v'=.str b:=h';subst h';obtain⟨t',rfl⟩:=r';simp only[eU];exact EqAt.bool_str _ _ _
  |tup iJ=>
   obtain⟨l',iH,rfl,e',fC⟩:=h';cases r';obtain⟨its',rv',fF⟩:=bG.tup_of ok e';simp only[eU];exact EqAt.bool_tuple _ fF hu
  |lst iJ=>
   obtain⟨l',iH,rfl,e',fC⟩:=h';cases r';obtain⟨its',rv',fF⟩:=bG.lst_of ok e';simp only[eU];exact EqAt.bool_list _ fF hu
 |int a=>
  have h:v=.int a:=h;subst h;obtain⟨t,rfl⟩:=r;cases d' with
  |non=>
   have h':v'=.non:=h';subst h';cases r';simp only[eU];exact EqAt.int_none _ _
  |bl b=>
   have h':v'=.bl b:=h';subst h';cases r';simp only[eU];exact EqAt.int_bool _ _ _
  |int b=>
   have h':v'=.int b:=h';subst h';obtain⟨t',rfl⟩:=r';simp only[eU];exact EqAt.int_int _ _ _ _
  |str b=>
   have h':v'=.str b:=h';subst h';obtain⟨t',rfl⟩:=r';simp only[eU];exact EqAt.int_str _ _ _ _
  |tup iJ=>
   obtain⟨l',iH,rfl,e',fC⟩:=h';cases r';obtain⟨its',rv',fF⟩:=bG.tup_of ok e';simp only[eU];exact EqAt.int_tuple _ _ fF hu
  |lst iJ=>
   obtain⟨l',iH,rfl,e',fC⟩:=h';cases r';obtain⟨its',rv',fF⟩:=bG.lst_of ok e';simp only[eU];exact EqAt.int_list _ _ fF hu
 |str a=>
  have h:v=.str a:=h;subst h;obtain⟨t,rfl⟩:=r;cases d' with
  |non=>
   have h':v'=.non:=h';subst h';cases r';simp only[eU];exact EqAt.str_none _ _
  |bl b=>
   have h':v'=.bl b:=h';subst h';cases r';simp only[eU];exact EqAt.str_bool _ _ _
  |int b=>
   have h':v'=.int b:=h';subst h';obtain⟨t',rfl⟩:=r';simp only[eU];exact EqAt.str_int _ _ _ _
  |str b=>
   have h':v'=.str b:=h';subst h';obtain⟨t',rfl⟩:=r';simp only[eU];exact EqAt.str_str _ _ _ _
  |tup iJ=>
   obtain⟨l',iH,rfl,e',fC⟩:=h';cases r';obtain⟨its',rv',fF⟩:=bG.tup_of ok e';simp only[eU];exact EqAt.str_tuple _ _ fF hu
  |lst iJ=>
   obtain⟨l',iH,rfl,e',fC⟩:=h';cases r';obtain⟨its',rv',fF⟩:=bG.lst_of ok e';simp only[eU];exact EqAt.str_list _ _ fF hu
 |tup ds=>
  obtain⟨l,vs,rfl,e,hs⟩:=h;cases r;obtain⟨its,rv,hl⟩:=bG.tup_of ok e;cases d' with
  |non=>
   have h':v'=.non:=h';subst h';cases r';simp only[eU];exact EqAt.tuple_none hl hu
  |bl b=>
   have h':v'=.bl b:=h';subst h';cases r';simp only[eU];exact EqAt.tuple_bool _ hl hu
  |int b=>
   have h':v'=.int b:=h';subst h';obtain⟨t',rfl⟩:=r';simp only[eU];exact EqAt.tuple_int _ _ hl hu
  |str b=>
   have h':v'=.str b:=h';subst h';obtain⟨t',rfl⟩:=r';simp only[eU];exact EqAt.tuple_str _ _ hl hu
  |tup iJ=>exact absurd ⟨rfl,rfl⟩ (hk _ _).1
  |lst iJ=>
   obtain⟨l',iH,rfl,e',fC⟩:=h';cases r';obtain⟨its',rv',fF⟩:=bG.lst_of ok e';simp only[eU];exact EqAt.tuple_list hl fF hu
 |lst ds=>
  obtain⟨l,vs,rfl,e,hs⟩:=h;cases r;obtain⟨its,rv,hl⟩:=bG.lst_of ok e;cases d' with
  |non=>
   have h':v'=.non:=h';subst h';cases r';simp only[eU];exact EqAt.list_none hl hu
  |bl b=>
   have h':v'=.bl b:=h';subst h';cases r';simp only[eU];exact EqAt.list_bool _ hl hu
  |int b=>
   have h':v'=.int b:=h';subst h';obtain⟨t',rfl⟩:=r';simp only[eU];exact EqAt.list_int _ _ hl hu
  |str b=>
   have h':v'=.str b:=h';subst h';obtain⟨t',rfl⟩:=r';simp only[eU];exact EqAt.list_str _ _ hl hu
  |tup iJ=>
   obtain⟨l',iH,rfl,e',fC⟩:=h';cases r';obtain⟨its',rv',fF⟩:=bG.tup_of ok e';simp only[eU];exact EqAt.list_tuple hl fF hu
  |lst iJ=>exact absurd ⟨rfl,rfl⟩ (hk _ _).2
theorem GA(ok:mO P w H s.heap):∀(n:Nat){A:Around}{d d':Dt}{v v':V}{u u':Value},dW H d v->dW H d' v'->RelV v u->RelV v' u'->ZL n d->A.units+n<cLine->EqAt A s u u' (eU d d'):=by
 intro n
 induction n with
 |zero=>
  intro A d d' v v' u u' h h' r r' f hu;exact VB ok h h' r r' hu fun ds iJ=>⟨fun e=>by rw[e.1]at f;exact f,fun e=>by rw[e.1]at f;exact f⟩
 |succ n ih=>
  intro A d d' v v' u u' h h' r r' f hu;by_cases hvv:v=v'
  ·subst hvv;rw[dW.one_of h h',xV];have hd:d=d':=dW.one_of h h';subst hd;have hx:=VO ok (A:=A) h r r';exact hx
  cases d with
  |tup ds=>
   cases d' with
   |tup iJ=>
    obtain⟨l,vs,rfl,e,hs⟩:=h;obtain⟨l',iH,rfl,e',fC⟩:=h';cases r;cases r';obtain⟨its,rv,hl⟩:=bG.tup_of ok e;obtain⟨its',rv',fF⟩:=bG.tup_of ok e';have k1:=hs.length;have k2:=fC.length;have k3:=rv.length;have k4:=rv'.length;have key:=RcAt.tuples (A:=A) (e:=FY ds iJ) hl fF () fun j h1 h2=>?_
    ·simp only[eU];rw[←vK];refine EqAt.of_refs (fun z=>hvv (by rw[z])) ?_;rw[aQ,aQ]at key;rw[←k1,←k2,k3,k4];exact key
    ·rw[aQ]at h1 h2;have hj:j<ds.length:=by lia
     have hj':j<iJ.length:=by lia
     obtain⟨x,x1,x2⟩:=hs.get (aA hj);obtain⟨y,y1,y2⟩:=fC.get (aA hj');have e1:FY ds iJ j=eU ds[j] iJ[j]:=by unfold FY;rw[aA hj,aA hj']
     rw[e1];refine ih x2 y2 ?_ ?_ (f.2 _ (cW hj)) (by show A.units+1+n<cLine;lia)
     ·exact qM rv x1 (by rw[gL];exact aA h1)
     ·exact qM rv' y1 (by rw[gL];exact aA h2)
   |_=>exact VB ok h h' r r' () fun ds iJ=>⟨fun e=>(by cases e.2),fun e=>(by cases e.1)⟩
  |lst ds=>
   cases d' with
   |lst iJ=>
    obtain⟨l,vs,rfl,e,hs⟩:=h;obtain⟨l',iH,rfl,e',fC⟩:=h';cases r;cases r';obtain⟨its,rv,hl⟩:=bG.lst_of ok e;obtain⟨its',rv',fF⟩:=bG.lst_of ok e';simp only[eU];exact EqAt.of_refs (fun z=>hvv (by rw[z])) (AB ok ih hs fC rv rv' hl fF f.2 hu)
   |_=>exact VB ok h h' r r' () fun ds iJ=>⟨fun e=>(by cases e.1),fun e=>(by cases e.2)⟩
  |_=>exact VB ok h h' r r' () fun ds iJ=>⟨fun e=>(by cases e.1),fun e=>(by cases e.1)⟩
end
section
open PySem.SeqAt
theorem cx_P{scope:Scope}{cd:Value}{E:XK}:(XY CX P w K mg base N qual scope f cd A outer s H E).prog=P:=rfl
end
end L2
namespace L2
open PySem PySem.Spec PyProof.Rows PySem.SeqAt
variable {a b d f it l r:Addr} {A:Around} {G:Array GenState->Array GenState->Prop} {arr a₀:Array Keyed} {p:Array Nat} {X:Cx} {D:sO} {c e o tg:Expr} {base h h':Heap} {H:Hp} {z:Keyed} {κ:Keyed->Int} {S:Keyed->Prop} {aJ:List (Addr×Obj)} {ch fp:List Addr} {es:List Expr} {js:List Nat} {ns ps:List Str} {vs xs:List V} {its its':List Value} {M:Model} {ac bc ep i ia ib j n na nb t':Nat} {lV pos':Pos} {P prog:Program} {K:W.Frag} {R:Result->Shared->Prop} {s:Shared} {kd:SortKind} {st st0:SortSt} {sp:Sp} {σ:St} {mg:Str->Option Value} {T:String} {ta te:TE} {tb:TS} {α:Type} {v:V} {u:Value} {E Q:Value->Shared->Prop} {w:World}
local macro_rules | `(()) => `(by lia)
theorem b9(ok:mO P w H s.heap)(ih:∀{A:Around}{d d':Dt}{v v':V}{u u':Value},dW H d v->dW H d' v'->RelV v u->RelV v' u'->ZL n d->A.units+n<cLine->EqAt A s u u' (eU d d'))
 {l':Addr} {ds iJ:List Dt} {iH:List V} (hs:bG H ds vs) (fC:bG H iJ iH) (rv:dD vs its) (rv':dD iH its') (hl:s.heap.IsTuple l its.toArray) (fF:s.heap.IsTuple l' its'.toArray)
 (f:∀d∈ds,ZL n d) (hu:A.units+(n+1)<cLine):RcAt A s (.ref l) (.ref l') (kM ds iJ):=by
 have k1:=hs.length;have k2:=fC.length;have k3:=rv.length;have k4:=rv'.length;have at_:∀j (h1:j<its.toArray.size) (h2:j<its'.toArray.size),EqAt A.in1 s its.toArray[j] its'.toArray[j] (FY ds iJ j):=fun j h1 h2=>by
  rw[aQ]at h1 h2;have hj:j<ds.length:=by lia
  have hj':j<iJ.length:=by lia
  obtain⟨x,x1,x2⟩:=hs.get (aA hj);obtain⟨y,y1,y2⟩:=fC.get (aA hj');have e1:FY ds iJ j=eU ds[j] iJ[j]:=by unfold FY;rw[aA hj,aA hj']
  rw[e1];refine ih x2 y2 ?_ ?_ (f _ (cW hj)) (by show A.units+1+n<cLine;lia)
  ·exact qM rv x1 (by rw[gL];exact aA h1)
  ·exact qM rv' y1 (by rw[gL];exact aA h2)
 have key:=RcAt.tuples (A:=A) (e:=FY ds iJ) hl fF () at_;rw[aQ,aQ]at key;rw[←vK,←k1,←k2,k3,k4];exact key
theorem rc_at(ok:mO P w H s.heap){d d':Dt}{v':V}{u':Value}(h:dW H d v)(h':dW H d' v')(r:RelV v u)(r':RelV v' u')(f:ZL (n+1) d)(hu:A.units+(n+1)<cLine):RcAt A s u u' (eU d d'):=by
 have hu0:A.units<cLine:=by lia
 cases d with
 |non=>
  have h:v=.non:=h;subst h;cases r;cases d' with
  |non=>
   have h':v'=.non:=h';subst h';cases r';simp only[eU,bH,bK];exact RcAt.none_none
  |bl b=>
   have h':v'=.bl b:=h';subst h';cases r';simp only[eU,bH,bK];exact RcAt.none_bool _
  |int b=>
   have h':v'=.int b:=h';subst h';obtain⟨t',rfl⟩:=r';simp only[eU,bH,bK];exact RcAt.none_int _ _
  |str b=>
   have h':v'=.str b:=h';subst h';obtain⟨t',rfl⟩:=r';simp only[eU,bH,bK];exact RcAt.none_str _ _
  |tup iJ=>
   obtain⟨l',iH,rfl,e',fC⟩:=h';cases r';obtain⟨its',rv',fF⟩:=bG.tup_of ok e';simp only[eU,bH,bK];exact RcAt.none_tuple fF hu0
  |lst iJ=>
   obtain⟨l',iH,rfl,e',fC⟩:=h';cases r';obtain⟨its',rv',fF⟩:=bG.lst_of ok e';simp only[eU,bH,bK];exact RcAt.none_list fF hu0
 |bl a=>
  have h:v=.bl a:=h;subst h;cases r;cases d' with
  |non=>
   have h':v'=.non:=h';subst h';cases r';simp only[eU,bH,bK];exact RcAt.bool_none _
  |bl b=>
   have h':v'=.bl b:=h';subst h';cases r';simp only[eU,bH,bK];exact RcAt.bool_bool _ _
  |int b=>
   have h':v'=.int b:=h';subst h';obtain⟨t',rfl⟩:=r';simp only[eU,bH,bK];exact RcAt.bool_int _ _ _
  |str b=>
   have h':v'=.str b:=h';subst h';obtain⟨t',rfl⟩:=r';simp only[eU,bH,bK];exact RcAt.bool_str _ _ _
  |tup iJ=>
   obtain⟨l',iH,rfl,e',fC⟩:=h';cases r';obtain⟨its',rv',fF⟩:=bG.tup_of ok e';simp only[eU,bH,bK];exact RcAt.bool_tuple _ fF hu0
  |lst iJ=>
   obtain⟨l',iH,rfl,e',fC⟩:=h';cases r';obtain⟨its',rv',fF⟩:=bG.lst_of ok e';simp only[eU,bH,bK];exact RcAt.bool_list _ fF hu0
 |int a=>
  have h:v=.int a:=h;subst h;obtain⟨t,rfl⟩:=r;cases d' with
  |non=>
   have h':v'=.non:=h';subst h';cases r';simp only[eU,bH,bK];exact RcAt.int_none _ _
  |bl b=>
   have h':v'=.bl b:=h';subst h';cases r';simp only[eU,bH,bK];exact RcAt.int_bool _ _ _
  |int b=>
   have h':v'=.int b:=h';subst h';obtain⟨t',rfl⟩:=r';simp only[eU,bH,bK];exact RcAt.int_int _ _ _ _
  |str b=>
   have h':v'=.str b:=h';subst h';obtain⟨t',rfl⟩:=r';simp only[eU,bH,bK];exact RcAt.int_str _ _ _ _
  |tup iJ=>
   obtain⟨l',iH,rfl,e',fC⟩:=h';cases r';obtain⟨its',rv',fF⟩:=bG.tup_of ok e';simp only[eU,bH,bK];exact RcAt.int_tuple _ _ fF hu0
  |lst iJ=>
   obtain⟨l',iH,rfl,e',fC⟩:=h';cases r';obtain⟨its',rv',fF⟩:=bG.lst_of ok e';simp only[eU,bH,bK];exact RcAt.int_list _ _ fF hu0
 |str a=>
  have h:v=.str a:=h;subst h;obtain⟨t,rfl⟩:=r;cases d' with
  |non=>
   have h':v'=.non:=h';subst h';cases r';simp only[eU,bH,bK];exact RcAt.str_none _ _
  |bl b=>
   have h':v'=.bl b:=h';subst h';cases r';simp only[eU,bH,bK];exact RcAt.str_bool _ _ _
  |int b=>
   have h':v'=.int b:=h';subst h';obtain⟨t',rfl⟩:=r';simp only[eU,bH,bK];exact RcAt.str_int _ _ _ _
  |str b=>
   have h':v'=.str b:=h';subst h';obtain⟨t',rfl⟩:=r';simp only[eU,bH,bK];exact RcAt.str_str _ _ _ _
  |tup iJ=>
   obtain⟨l',iH,rfl,e',fC⟩:=h';cases r';obtain⟨its',rv',fF⟩:=bG.tup_of ok e';simp only[eU,bH,bK];exact RcAt.str_tuple _ _ fF hu0
  |lst iJ=>
   obtain⟨l',iH,rfl,e',fC⟩:=h';cases r';obtain⟨its',rv',fF⟩:=bG.lst_of ok e';simp only[eU,bH,bK];exact RcAt.str_list _ _ fF hu0
 |tup ds=>
  obtain⟨l,vs,rfl,e,hs⟩:=h;cases r;obtain⟨its,rv,hl⟩:=bG.tup_of ok e;cases d' with
  |non=>
   have h':v'=.non:=h';subst h';cases r';simp only[eU,bH,bK];exact RcAt.tuple_none hl hu0
  |bl b=>
   have h':v'=.bl b:=h';subst h';cases r';simp only[eU,bH,bK];exact RcAt.tuple_bool _ hl hu0
  |int b=>
   have h':v'=.int b:=h';subst h';obtain⟨t',rfl⟩:=r';simp only[eU,bH,bK];exact RcAt.tuple_int _ _ hl hu0
  |str b=>
   have h':v'=.str b:=h';subst h';obtain⟨t',rfl⟩:=r';simp only[eU,bH,bK];exact RcAt.tuple_str _ _ hl hu0
  |tup iJ=>
   obtain⟨l',iH,rfl,e',fC⟩:=h';cases r';obtain⟨its',rv',fF⟩:=bG.tup_of ok e';simp only[eU,bH,bK];exact b9 ok (GA ok n) hs fC rv rv' hl fF f.2 hu
  |lst iJ=>
   obtain⟨l',iH,rfl,e',fC⟩:=h';cases r';obtain⟨its',rv',fF⟩:=bG.lst_of ok e';simp only[eU,bH,bK];exact RcAt.tuple_list hl fF hu0
 |lst ds=>
  obtain⟨l,vs,rfl,e,hs⟩:=h;cases r;obtain⟨its,rv,hl⟩:=bG.lst_of ok e;cases d' with
  |non=>
   have h':v'=.non:=h';subst h';cases r';simp only[eU,bH,bK];exact RcAt.list_none hl hu0
  |bl b=>
   have h':v'=.bl b:=h';subst h';cases r';simp only[eU,bH,bK];exact RcAt.list_bool _ hl hu0
  |int b=>
   have h':v'=.int b:=h';subst h';obtain⟨t',rfl⟩:=r';simp only[eU,bH,bK];exact RcAt.list_int _ _ hl hu0
  |str b=>
   have h':v'=.str b:=h';subst h';obtain⟨t',rfl⟩:=r';simp only[eU,bH,bK];exact RcAt.list_str _ _ hl hu0
  |tup iJ=>
   obtain⟨l',iH,rfl,e',fC⟩:=h';cases r';obtain⟨its',rv',fF⟩:=bG.tup_of ok e';simp only[eU,bH,bK];exact RcAt.list_tuple hl fF hu0
  |lst iJ=>
   obtain⟨l',iH,rfl,e',fC⟩:=h';cases r';obtain⟨its',rv',fF⟩:=bG.lst_of ok e';simp only[eU,bH,bK];exact AB ok (GA ok n) hs fC rv rv' hl fF f.2 hu
def cr:R2:=fun x y H Q=>∃n d,dW H d x/\∃d',dW H d' y/\ZL (n+1) d/\n<=60/\Q (.bl (eU d d')) H
theorem ZA(hu:X.A.units+64<cLine):oQ X (compareOp .Eq) cr:=by
 intro aJ s σ H x y v u Q I rx ry h;obtain⟨n,d,h1,d',h2,f,hn,q⟩:=h;exact rc_at I.hok h1 h2 rx ry f () X.prog X.w _ _ (yW I q rfl)
def cn(neg:Bool):R2:=fun x y H Q=>∃n d,dW H d x/\∃ds,(dW H (.lst ds) y\/dW H (.tup ds) y)/\(∀e∈ds,ZL n e)/\n<=60/\Q (.bl (neg^^ds.any fun e=>eU e d)) H
open Classical in
theorem UV{ds:List Dt}{d:Dt}(hs:bG H ds vs)(rv:dD vs its)(e:Value->Bool)(he:∀y,e y=decide (∃d' v',dW H d' v'/\RelV v' y/\eU d' d=true)):its.toArray.any e=ds.any fun e=>eU e d:=by
 rw[List.any_toArray]
 induction ds generalizing vs its with
 |nil=>
  have hs:vs=[]:=hs;subst hs;cases rv;rfl
 |cons d0 ds ih=>
  obtain⟨v,r,rfl,e1,e2⟩:=hs;cases rv with
  |cons rr rt=>
   rename_i u us
   rw[mY,mY,ih e2 rt,he]
   congr 1
   rw[cE,bQ];constructor
   ·rintro⟨d',v',q1,q2,q3⟩;have :=RelV.inj q2 rr;subst this;rw[dW.one_of e1 q1];exact q3
   ·intro q;exact⟨d0,v,e1,rr,q⟩
open Classical in
theorem IX(ok:mO P w H s.heap){ds:List Dt}{d:Dt}{x:V}(hs:bG H ds vs)(rv:dD vs its)(hx:dW H d x)(ru:RelV x u)(f:∀e∈ds,ZL n e)(hu:A.units+(n+1)<cLine)
 (y:Value) (hy:y∈its.toArray):EqAt A.in1 s y u (decide (∃d' v',dW H d' v'/\RelV v' y/\eU d' d=true)):=by
 obtain⟨j,hj,e⟩:=dO (show y∈its by simpa using hy);have k1:=hs.length;have k2:=rv.length;have hjd:j<ds.length:=by lia
 obtain⟨v,v1,v2⟩:=hs.get (aA hjd);have rr:RelV v y:=qM rv v1 (by rw[aA hj,e]);have :decide (∃d' v',dW H d' v'/\RelV v' y/\eU d' d=true)=eU ds[j] d:=by
  rw[cE,bQ];constructor
  ·rintro⟨d',v',q1,q2,q3⟩;have :=RelV.inj q2 rr;subst this;rw[dW.one_of v2 q1];exact q3
  ·intro q;exact⟨_,v,v2,rr,q⟩
 rw[this];exact GA ok n v2 hx rr ru (f _ (cW hjd)) (by show A.units+1+n<cLine;lia)
theorem mz(hu:X.A.units+64<cLine):oQ X (compareOp .In) (cn false):=by
 intro aJ s σ H x y v u Q I rx ry h;obtain⟨n,d,hx,ds,hy,f,hn,q⟩:=h;rw[Bool.false_xor]at q;rcases hy with⟨l,vs,rfl,e,hs⟩ |⟨l,vs,rfl,e,hs⟩
 ·cases ry;obtain⟨its,rv,hl⟩:=bG.lst_of I.hok e;refine in_listAt _ hl (IX I.hok hs rv hx rx f ()) (yW I q ?_);exact(UV hs rv _ fun _=>rfl).symm
 ·cases ry;obtain⟨its,rv,hl⟩:=bG.tup_of I.hok e;refine in_tupleAt _ hl (IX I.hok hs rv hx rx f ()) (yW I q ?_);exact(UV hs rv _ fun _=>rfl).symm
theorem MD(hu:X.A.units+64<cLine):oQ X (compareOp .NotIn) (cn true):=by
 intro aJ s σ H x y v u Q I rx ry h;obtain⟨n,d,hx,ds,hy,f,hn,q⟩:=h;rw[Bool.true_xor]at q;rcases hy with⟨l,vs,rfl,e,hs⟩ |⟨l,vs,rfl,e,hs⟩
 ·cases ry;obtain⟨its,rv,hl⟩:=bG.lst_of I.hok e;refine notIn_listAt _ hl (IX I.hok hs rv hx rx f ()) (yW I q ?_);rw[UV hs rv _ fun _=>rfl]
 ·cases ry;obtain⟨its,rv,hl⟩:=bG.tup_of I.hok e;refine notIn_tupleAt _ hl (IX I.hok hs rv hx rx f ()) (yW I q ?_);rw[UV hs rv _ fun _=>rfl]
section
open PySem.SeqAt
structure Apt(z TI TO i1 i2 l1 l2:Addr):Prop where
 nd:[z,TI,TO,i1,i2].Nodup
 a1:l1≠z/\l1≠TO/\l1≠i1/\l1≠i2
 a2:l2≠z/\l2≠TO/\l2≠i1/\l2≠i2
theorem Inv.turnedL(I:Inv X aJ σ H s)(k:∀b o,b∉ch->s.heap.get? b=some o->h'.get? b=some o)(hf:∀b∈ch,JG X aJ H b):Inv X aJ σ H {s with heap:=h',toks:=t'}:=by
 have nit:∀b u,H b=some u->b∉ch:=fun b u e z=>by rw[(hf b z).1]at e;cases e
 have hL:X.env.locals∉ch:=fun z=>(hf _ z).2.1 rfl
 refine I.step (g':=s.gens) (d':=s.drawn) (ch:=ch) (fun b hb=>?_) (fun b o _ _ hc e _=>k b o hc e) (fun b o _ _ hc e _=>⟨o.slots,k b o hc e⟩) (fun _ _ _ _ n=>n) (fun b o hc e=>⟨o,k b o hc e⟩) (fun _ _ e=>e) (fun _ _ _ e=>e) (fun b ps e=>⟨#[],by rw[e];simp⟩) (fun m hm=>?_) (fun b u e=>?_) I.bare
 ·obtain⟨f0,f1,f2,f3,f4,f5⟩:=hf b hb;exact⟨f3,f1,f4,f5⟩
 ·obtain⟨o,es,ep,ho,r⟩:=hm;exact⟨o,es,ep,k _ o hL ho,r⟩
 ·refine(I.hok b u e).stay (fun c v hc q=>k c v ?_ q) (fun _ q=>q) fun _ _ q=>q
  rcases hc with z |z
  ·rw[z];exact nit b u e
  ·exact nit c _ z
theorem Inv.turnedN{p:Addr}{o:HO}(I:Inv X aJ σ H s)(k:∀b o,b∉ch->s.heap.get? b=some o->h'.get? b=some o)(hf:∀b∈ch,JG X aJ H b)(hp:s.heap.objs.size<=p)(new:fA X.prog X.w (upd H p o) h' p o):
 Inv X aJ σ (upd H p o) {s with heap:=h',toks:=t'}:=by
 have nit:∀b u,H b=some u->b∉ch:=fun b u e z=>by rw[(hf b z).1]at e;cases e
 have hL:X.env.locals∉ch:=fun z=>(hf _ z).2.1 rfl
 have hn:=I.hok.fresh hp;have nep:∀{b:Addr}{u:HO},H b=some u->b≠p:=fun e z=>by rw[z,hn]at e;cases e
 refine I.step (g':=s.gens) (d':=s.drawn) (ch:=ch) (fun b hb=>?_) (fun b o _ _ hc e _=>k b o hc e) (fun b o _ _ hc e _=>⟨o.slots,k b o hc e⟩) (fun b u _ e n=>?_) (fun b o hc e=>⟨o,k b o hc e⟩) (fun _ _ e=>by rw[zJ (nep e)];exact e) (fun _ _ _ e=>by rw[zJ (nep e)];exact e) (fun b ps e=>⟨#[],by rw[zJ (nep e),e];simp⟩) (fun m hm=>?_) (fun b u e=>?_) I.bare
 ·obtain⟨f0,f1,f2,f3,f4,f5⟩:=hf b hb;exact⟨f3,f1,f4,f5⟩
 ·rw[zJ (bS (cH (bA e) hp))];exact n
 ·obtain⟨o,es,ep,ho,r⟩:=hm;exact⟨o,es,ep,k _ o hL ho,r⟩
 ·by_cases hb:b=p
  ·subst hb;rw[zB]at e;cases e;exact new
  ·rw[zJ hb]at e;refine(I.hok b u e).stay (fun c v hc q=>k c v ?_ q) (fun c q=>by rw[zJ (nep q)];exact q) fun c _ q=>by rw[zJ (nep q)];exact q
   rcases hc with z |z
   ·rw[z];exact nit b u e
   ·exact nit c _ z
end
section
open PySem.SeqAt
def f8(w:World):List DictEntry->List (Str×Int)->Prop
 |[],r=>r=[]
 |e::es,r=>∃x y t u r',r=(x,y)::r'/\e.hash=hashStr w x/\e.key=.str x t/\e.val=.int y u/\f8 w es r'
theorem f8.all{w:World}{P:Program}:∀{es:List DictEntry}{r:List (Str×Int)},f8 w es r->(∀e∈es,∃k,(yA P w).is k e.key=true/\e.hash=(yA P w).hash k)/\
 ∃vs:List (eL×Value),KV (r.map fun p=>((.inr p.1:eL),V.int p.2)) vs/\Pairs (yA P w) es vs/\vs.map (·.1)=r.map fun p=>(.inr p.1:eL)
 |[],r,h=>by
  have h:r=[]:=h;subst h;exact⟨fun e he=>(nomatch he),[],.nil,.nil,rfl⟩
 |e::es,r,h=>by
  obtain⟨x,y,t,u,r',rfl,h1,h2,h3,h4⟩:=h;obtain⟨g,vs,a,b,c⟩:=f8.all (P:=P) h4;refine⟨fun e' he=>?_,(.inr x,.int y u)::vs,.cons ⟨rfl,u,rfl⟩ a,.cons (by rw[h2];exact uZ P w x t) h3 b,?_⟩
  ·rcases bJ.mp he with rfl |he
   ·exact⟨.inr x,by rw[h2];exact uZ P w x t,h1⟩
   ·exact g e' he
  ·rw[cF,cF,c]
theorem FM{lo:Int}{g:TG}{tc:TT}{Q:VK}(Pv:Nat->List V->St->Hp->Prop)(h0:Pv 0 [] (JL ns js σ) H)(hz:n<=sizeLine)(hl:∀i ys σ H,Pv i ys σ H->ys.length<=i)
 (hs:∀(i:Nat) ys σ H (C:V->St->Hp->Prop) (D:St->Hp->Prop),i<n->Pv i ys σ H->(∀y σ2 H3,Pv (i+1) (ys++[y]) σ2 H3->C y σ2 H3)->(∀σ2 H3,Pv (i+1) ys σ2 H3->D σ2 H3)->
  g (.int (lo+i)) σ H fun σ2 H2=>tc σ2 H2 fun b H3=>if b=true then te σ2 H3 fun y H4=>C y σ2 H4 else D σ2 H3)
 (hd:∀ys σ H,Pv n ys σ H->∀p,H p=none->Q (.ref p) (upd H p (.lst ys))):
 ai (WM lo n) ns js g (some tc) te σ H Q:=by
 refine⟨fun i m ys σ H=>m=n-i/\i<=n/\Pv i ys σ H,⟨n,(),cG _,h0⟩,fun i m ys σ1 H1 ⟨hm,hi,hp⟩=>?_⟩;by_cases h:i<n
 ·refine .inr ⟨h,?_,fun x H' ⟨e,hx⟩=>?_⟩
  ·have :=hl i ys σ1 H1 hp;lia
  ·subst e;subst hx;exact hs i ys σ1 _ _ _ h hp (fun y σ2 H3 q=>⟨n-(i+1),(),rfl,(),q⟩) fun σ2 H3 q=>⟨n-(i+1),(),rfl,(),q⟩
 ·have e:i=n:=by lia
  subst e;exact .inl ⟨aG _,hd ys σ1 H1 hp⟩
end
section
open PySem.SeqAt
inductive Rw where
 |no |nm (x:Str) |bo (i j:Int)
def qc:Rw->Dt
 | .no=>.tup [.str "none"]
 | .nm x=>.tup [.str "name",.str x]
 | .bo i j=>.tup [.str "both",.int i,.int j]
abbrev Pr:=Int×Int
def GB(p:Pr):Dt:=.tup [.int p.1,.int p.2]
abbrev xM:=List Pr×Pr
def af(r:xM):Dt:=.tup [.lst (r.1.map GB),GB r.2]
inductive Wt where
 |n (i:Int) |ps (l:List Int)
def qb:Wt->Dt
 | .n i=>.int i
 | .ps l=>.tup (l.map .int)
structure Ln where
 i:Int
 j:Int
 w:Str
 as:List Wt
def ZH(w:Str)(as:List Wt):Dt:=.tup (.str w::as.map qb)
def ND(l:Ln):Dt:=.tup [.int l.i,.int l.j,ZH l.w l.as]
def JM(b:Int):Wt->Bool
 | .n i=>decide (0<=i)&&decide (i<b)
 | .ps _=>false
def uW(aD:List Rw)(n:Int):List Int:=if n % 2=0 then(match aD[(n/2).toNat]? with |some (.bo i j)=>[i,j] |_=>[])else []
def xK(ls:List Ln)(k:Nat):Wt->Option Pr
 | .n i=>if 0<=i/\i<k then(ls[i.toNat]?).map fun l=>(l.i,l.j)else none
 | .ps _=>none
def dSd:Option Pr->Dt
 |none=>.non
 |some p=>GB p
def rM(n:Int):Int:=n+1-2*(n % 2)
def QD(w:Str):Option Int:=
 if w="same" then some 0 else if w="edge" then some 0 else if w="part" then some 0 else if w="both" then some 2 else if w="turn" then some 1 else if w="chain" then some 2 else if w="clash" then some 1 else none
def xA(aD:List Rw)(i j:Int)(w:Str)(sd:List Pr):Bool:=
 if w="same" then i==j
 else if w="edge" then i==0 ||j==1
 else if w="part" then(uW aD i).any fun x=>x==j
 else if w="both" then(match uW aD j with |[a,b]=>sd==[(i,a),(i,b)] |_=>false)
 else if w="turn" then sd==[(rM j,rM i)]
 else if w="chain" then(match sd with |[p,q]=>p.1==i&&p.2==q.1&&q.2==j |_=>false)
 else sd==[(i,rM i)]
def jR(aV:List xM)(ls:List Ln)(k:Nat)(l:Ln):Bool:=
 match l.as with
 |[.n r,.ps ps]=>if 0<=r/\r<aV.length then(match aV[r.toNat]? with |some q=>(l.i,l.j)==q.2&&(ps.map fun p=>xK ls k (.n p))==q.1.map some |none=>false)else false
 |_=>false
def xP(aD:List Rw)(aV:List xM)(ls:List Ln)(k:Nat)(l:Ln):Bool:=
 if¬(0<=l.i/\l.i<2*aD.length)\/¬(0<=l.j/\l.j<2*aD.length)then false
 else if l.w="rule" then jR aV ls k l
 else if QD l.w=some (l.as.length:Int)/\(l.as.all fun a=>(xK ls k a).isSome)=true then xA aD l.i l.j l.w (l.as.filterMap (xK ls k))
 else false
theorem DM(n:Int):Builtin.bitXor n 1=rM n:=by
 rw[bitXor_and];unfold rM;rw[bitAnd_m1]
end
section
open PySem.SeqAt
theorem LL{t sl:Addr}{dG:Array Value}{vl vu:Value}{lo hi:Option Int}(ht:IsTup s.heap t dG)(hs:s.heap.IsSliceOf sl vl vu .none)(pl:IsPart vl lo)(pu:IsPart vu hi)
 (hw:HT.sIx dG.size 0 lo=0/\HT.sIx dG.size dG.size hi=dG.size) (h:Q (.ref t) s):wpAny (model prog w) A (getItem (.ref t) (.ref sl)) Q E s:=by
 obtain⟨os,hos,hcs,hds⟩:=id hs;have hTs:s.TypeIs (.ref sl) "slice":=⟨os,hos,hcs⟩
 unfold getItem
 try with_reducible refine eV ?_
 first |refine aF (aR ?_) |skip
 refine aF (wpAny_sequenceKey ht.typeIs (by decide) (aF (mP (name:=Str.ofString "__getitem__") ht.typeIs dZ (gE dZ ht.typeIs entry_tuple_getitem ?_ (args_tuple_getitem _ _)))));refine aF (m:=Builtin.Tuple.tupleItemsOf (.ref t)) (tupleItemsOf_ ht (aF (lT hTs ?_)));rw[aL (by decide)];refine aF (HT.sliceApplied_gen hs pl pu ?_);have hyes:((((HT.sIx dG.size 0 lo:Nat):Int)==0&&(1:Int)==1&&(HT.sIx dG.size dG.size hi-HT.sIx dG.size 0 lo)==dG.size)=true):=by
  rw[hw.1,hw.2];simp
 show wpAny _ _ (if(((HT.sIx dG.size 0 lo:Nat):Int)==0&&(1:Int)==1&&(HT.sIx dG.size dG.size hi-HT.sIx dG.size 0 lo)==dG.size)=true then _ else _) _ _ s;rw[aL hyes];have hT:=ht.typeIs
 wp_walk
 exact⟨_,rfl,aR h⟩
def RE:V->Option Int->Option Int->Hp->VK->Prop:=fun x lo hi H Q=>mL x fun a=>∃xs,H a=some (.tup xs)/\∀p H',bB H H'->H' p=some (.tup (qX xs lo hi))->Q (.ref p) H'
theorem YE:SlR X RE:=by
 intro aJ s σ H x v vl vu lo hi sl Q I rx hs pl pu h;replace h:=xJ h;obtain⟨a,rfl,xs,hx,q⟩:=h;by_cases hw:HT.sIx xs.length 0 lo=0/\HT.sIx xs.length xs.length hi=xs.length
 ·cases rx;obtain⟨its,r,ht,hz⟩:=I.tuple (dN.of hx);have eO:its.toArray.size=xs.length:=by rw[aQ];exact r.length.symm
  refine⟨"tuple",_,dZ.lookup,ht.typeIs,?_⟩;refine LL ht hs pl pu (by rw[eO];exact hw) ⟨.ref a,H,I,rfl,q a H (bB.refl H) ?_⟩;have e:qX xs lo hi=xs:=by
   unfold qX;rw[hw.1,hw.2,rY,Nat.sub_zero,aS (aG _)]
  rw[e];exact hx
 ·exact DZ aJ s σ H _ v vl vu lo hi sl Q I rx hs pl pu ⟨xs,dN.of hx,hw,fun p hp=>q p _ (zD hp _) zB⟩
def RF:R2:=fun x y H Q=>mL x fun a=>mL y fun b=>∃xs,H a=some (.tup xs)/\∃ys,H b=some (.tup ys)/\xs.length+ys.length<=sizeLine/\∀p H',bB H H'->H' p=some (.tup (xs++ys))->Q (.ref p) H'
theorem dk:oQ X (binaryOp .Add) RF:=by
 intro aJ s σ H x y v u Q I rx ry h;replace h:=xJ h;obtain⟨a,rfl,h⟩:=h;replace h:=xJ h;obtain⟨b,rfl,xs,ha,ys,hb,hz,q⟩:=h;by_cases hx:xs=[]
 ·subst hx;cases rx;cases ry;obtain⟨its,r1,p1,_⟩:=I.tuple (dN.of ha);obtain⟨its2,r2,p2,_⟩:=I.tuple (dN.of hb);have hv:its=[]:=r1.nil_iff.mpr rfl;obtain⟨⟨cls,dd,data,sl⟩,ho,hc,n,hd⟩:=id p1;obtain⟨⟨cls2,dd2,data2,sl2⟩,ho2,hc2,n2,hd2⟩:=id p2;simp only at hc hd hc2 hd2;subst hc hd hc2 hd2;exact concat_meets ⟨_,ho,rfl⟩ ⟨_,ho2,rfl⟩ noFill_tuple_add seq_tuple_add pP pL (pA _ _) (tuple_addW0 a b its.toArray its2.toArray n n2 dd dd2 sl sl2 (by simp[hv])) ⟨ho,ho2,⟨.ref b,H,I,rfl,q b H (bB.refl H) hb⟩⟩
 ·refine dj aJ s σ H _ _ v u Q I rx ry ⟨xs,dN.of ha,ys,dN.of hb,hx,hz,fun e=>?_,fun _ p hp=>q p _ (zD hp _) zB⟩;subst e;exact q a H (bB.refl H) (by rw[cM];exact ha)
end
section
open PySem.SeqAt
end
section
variable {I:Addr} {wr:List Addr} {P:Nat->Value->Prop} {St:Nat->Shared->Prop}
end
theorem BY:∀{vs:List Value}{ss:List Int},vs.length=ss.length->(∀(i:Nat)(v:Value)(x:Int),vs[i]?=some v->ss[i]?=some x->∃t,v=.int x t)->IntsAre vs ss
 |[],[],_,_=>.nil
 |[],_::_,h,_=>by simp at h
 |_::_,[],h,_=>by simp at h
 |v::vs,x::ss,h,hh=>by
  obtain⟨t,rfl⟩:=hh 0 v x rfl rfl;exact .cons x t (BY (by simpa using h) fun i v' x' h1 h2=>hh (i+1) v' x' (by simpa using h1) (by simpa using h2))
section
open PySem.SeqAt PySem.W
theorem QG:∀{vs:List Value}{ss:List Int},IntsAre vs ss->dD (ss.map V.int) vs
 |_,_,.nil=>.nil
 |_,_,.cons y t h=>.cons ⟨t,rfl⟩ (QG h)
section
variable {P:Nat->Value->Prop} {OK:Heap->Prop}
end
end
section
open PySem.SeqAt
def Ite(a:Addr):It:=
 ⟨fun i H=>∃xs x,H a=some (.lst xs)/\xs[i]?=some x,
  fun i H v H'=>∃p x,v=.ref p/\H p=none/\H'=upd H p (.tup [.int i,x])/\∀xs,H a=some (.lst xs)->xs[i]?=some x,
  fun i H=>∃xs,H a=some (.lst xs)/\xs.length<=i⟩
def Eat(e it l:Addr)(i:Nat)(h:Heap):Prop:=(∃old,IsEnum h e it i old)/\h.IsListIter it l i
theorem LJ{elts:List Expr}{cx:_}{tp:Pos}(e it l:Addr)(ne:e≠it):
 NJ P w K (.Tuple elts cx tp) (Ite l) [e,it] e (Eat e it l) where
 mem:=by simp
 obj:=fun i h st b hb=>by
  obtain⟨⟨old,ge⟩,⟨o2,r2,_,d2⟩⟩:=st;simp only[bJ,fH,or_false]at hb;rcases hb with rfl |rfl
  ·exact⟨_,ge,fun v e=>by cases e⟩
  ·exact⟨_,r2,fun v e=>by rw[d2]at e;cases e⟩
 keep:=fun i h h' st k=>by
  obtain⟨⟨old,ge⟩,⟨o2,r2,q2⟩⟩:=st;exact⟨⟨old,k _ (by simp) _ ge⟩,⟨o2,k _ (by simp) _ r2,q2⟩⟩
 item:=by
  intro X hP hw hK hc i aJ s σ H E I hf st hg;subst hP hw hK;obtain⟨xs,x,ha,hx⟩:=hg;obtain⟨its,rv,t1⟩:=bG.lst_of I.hok ha;obtain⟨u,hu,ru⟩:=rv.get hx;obtain⟨⟨old,ge⟩,r1⟩:=st;refine wpAny_pyNext_enum_item ge r1 t1 (by simpa using hu) ne fun h1 b1 b2 b3 b4 b5=>?_
  refine⟨_,rfl,wpAny_letOwnedTupleGo_enum (s:={s with heap:=h1,toks:=s.toks+1}) b1 fun h2 g2 s2=>?_⟩;have be:e<s.heap.objs.size:=bA ge;have bi:it<s.heap.objs.size:=by obtain⟨_,z,_⟩:=r1;exact bA z
  have keep2:∀b o,b∉[e,it]->s.heap.get? b=some o->h2.get? b=some o:=fun b o hb q=>by
   simp only[bJ,fH,or_false,not_or]at hb;exact s2.extBut b o hb.1 (b5 b o hb.1 hb.2 q)
  have hfr:H s.heap.objs.size=none:=I.hok.fresh (aG _);have gT:=s2.extBut _ _ (Nat.ne_of_gt be) b3;refine⟨.ref s.heap.objs.size,_,I.turnedN (t':=s.toks+1) (p:=s.heap.objs.size) (o:=.tup [.int i,x]) keep2 hf (aG _) ⟨small (by simp),[.int i s.toks,u],.cons ⟨_,rfl⟩ (.cons ru .nil),⟨_,gT,rfl,_,rfl⟩⟩,rfl,⟨_,x,rfl,hfr,rfl,fun xs' e1=>?_⟩,?_,fun b hb=>?_⟩
  ·rw[ha]at e1;cases e1;exact hx
  ·obtain⟨o2,b21,b22⟩:=b2;exact⟨⟨_,g2⟩,⟨o2,s2.extBut _ _ (cJ ne) b21,b22⟩⟩
  ·have hb2:b<s.heap.objs.size:=by
    simp only[bJ,fH,or_false]at hb;rcases hb with rfl |rfl
    ·exact be
    ·exact bi
   rw[zJ (bS hb2)];exact(hf b hb).1
 done:=by
  intro X hP hw hK hc i aJ s σ H E I hf st hg;subst hP hw hK;obtain⟨xs,ha,hl⟩:=hg;obtain⟨its,rv,t1⟩:=bG.lst_of I.hok ha;have k1:=rv.length;obtain⟨⟨old,ge⟩,r1⟩:=st;refine wpAny_pyNext_enum_end (I.ok.hd hc) ge r1 t1 (by simp;lia) fun h1 kk=>⟨rfl,?_⟩
  refine I.turnedL (ch:=[it]) (t':=s.toks) (fun b o hb q=>?_) (fun b hb=>hf b (by simp only[bJ,fH,or_false]at hb⊢;exact .inr hb));simp only[bJ,fH,or_false]at hb;exact kk b o hb q
 self:=fun _ _ _ _ _ st h=>by
  obtain⟨⟨old,ge⟩,_⟩:=st;exact wpAny_pyIter_enum ge h
def vF(ta:TA):TI:=fun σ H R=>ta σ H fun vs H1=>pF vs fun x=>mL x fun a=>∃xs,H1 a=some (.lst xs)/\R (Ite a) H1
theorem jN{elts:List Expr}{cx:_}{tp:Pos}{a:Expr}{ta:TA}{p pos:Pos}(hg:Gl X "enumerate")(hm:X.mg "enumerate"=none)(ha:PA X [a] ta)(hs:starEach [a] X.env=[(false,eval a X.env)]:=by rfl):
 PI X (.Tuple elts cx tp) (.Call (.Name "enumerate" p) [a] [] pos) (vF ta):=by
 intro aJ s σ H R I h;refine Call_ (wN I hg hm boot_enumerate (fS (eN (ha pos aJ s σ H _ I h) fun us s1 ⟨vs,H1,I1,r1,q1⟩=>?_) (by rw[hs];rfl) (by rfl)));replace q1:=wD q1;obtain⟨x,e,q1⟩:=q1;replace q1:=xJ q1;obtain⟨l1,rfl,xs,h1,q⟩:=q1;subst e;cases r1 with
 |cons r rr=>
  cases rr;cases r;obtain⟨its1,rv1,t1⟩:=bG.lst_of I1.hok h1;refine call_enumerate_list t1 fun h' gz g1 _ kk=>?_
  refine wpAny_pyIter_enum (s:={s1 with heap:=h'}) gz ?_;have fr:∀b,s1.heap.objs.size<=b->JG X aJ H1 b:=fun b hb=>I1.fpOk hb (I1.hok.fresh hb)
  refine⟨_,[s1.heap.objs.size+1,s1.heap.objs.size],_,_,H1,rfl,I1.kept (t':=s1.toks) kk,LJ _ _ l1 (Nat.succ_ne_self _),⟨⟨_,gz⟩,g1⟩,fun b hb=>?_,q⟩;simp only[bJ,fH,or_false]at hb;rcases hb with rfl |rfl<;>exact fr _ ()
theorem KH{g:TG}(Pv:Nat->St->Hp->Prop)(h0:Pv 0 σ H)(hl:∀i σ H,Pv i σ H->H a=some (.lst xs))
 (hs:∀(i:Nat) x σ H p,xs[i]?=some x->Pv i σ H->H p=none->g (.ref p) σ (upd H p (.tup [.int i,x])) fun σ2 H2=>tb {D with nx:=Pv (i+1),ct:=Pv (i+1),bk:=D.nx} σ2 H2)
 (hd:∀σ H,Pv xs.length σ H->D.nx σ H):JO (Ite a) g tb D σ H:=by
 refine⟨fun i m σ H=>m=xs.length-i/\i<=xs.length/\Pv i σ H,⟨_,by rfl,cG _,h0⟩,fun i m σ1 H1 ⟨hm,hi,hp⟩=>?_⟩;have k1:=hl i σ1 H1 hp;by_cases h:i<xs.length
 ·refine .inr ⟨⟨xs,_,k1,aA h⟩,Pv (i+1),fun σ' H' q=>⟨_,?_,rfl,(),q⟩,fun v H' ⟨p,x,e1,e2,e3,e4⟩=>?_⟩
  ·lia
  ·subst e1;subst e3;exact hs i x σ1 H1 p (e4 xs k1) hp e2
 ·have e:i=xs.length:=by lia
  subst e;exact .inl ⟨⟨xs,k1,aG _⟩,hd σ1 H1 hp⟩
theorem YO{g:TG}(Pv:Nat->St->Hp->Prop)(h0:Pv 0 σ H)(hl:∀i σ H,Pv i σ H->H a=some (.lst xs))
 (hs:∀(i:Nat) x σ H p,xs[i]?=some x->Pv i σ H->H p=none->∀N:St->Hp->Prop,(∀σ H,Pv (i+1) σ H->N σ H)->g (.ref p) σ (upd H p (.tup [.int i,x])) fun σ2 H2=>tb {D with nx:=N,ct:=N,bk:=D.nx} σ2 H2)
 (hd:∀σ H,Pv xs.length σ H->D.nx σ H):JO (Ite a) g tb D σ H:=KH Pv h0 hl (fun i x σ H p a b c=>hs i x σ H p a b c _ fun _ _ z=>z) hd
theorem IS{g:TG}{Q:VK}(Pv:Nat->List V->St->Hp->Prop)(h0:Pv 0 [] (JL ns js σ) H)(hz:xs.length<=sizeLine)(hl:∀i ys σ H,Pv i ys σ H->ys.length<=i)
 (hK:∀i ys σ H,Pv i ys σ H->H a=some (.lst xs))
 (hs:∀(i:Nat) x ys σ H p (C:V->St->Hp->Prop),xs[i]?=some x->Pv i ys σ H->H p=none->(∀y σ2 H3,Pv (i+1) (ys++[y]) σ2 H3->C y σ2 H3)->g (.ref p) σ (upd H p (.tup [.int i,x])) fun σ2 H2=>te σ2 H2 fun y H3=>C y σ2 H3)
 (hd:∀ys σ H,Pv xs.length ys σ H->∀p,H p=none->Q (.ref p) (upd H p (.lst ys))):
 ai (Ite a) ns js g none te σ H Q:=
 IU (n:=xs.length) Pv h0 hz hl (fun i ys σ H hi w=>⟨xs,xs[i],hK i ys σ H w,aA hi⟩) (fun ys σ H w=>⟨xs,hK _ ys σ H w,aG _⟩)
  (fun i ys σ H x H' C hi w ⟨p,y,e1,e2,e3,e4⟩ hC=>by subst e1;subst e3;exact hs i y ys σ H p C (e4 xs (hK i ys σ H w)) w e2 hC) hd
def Itd(hi:Int)(n:Nat):It:=⟨fun i _=>i<n,fun i H x H'=>H'=H/\x=.int (hi-i),fun i _=>n<=i⟩
theorem LK(it:Addr)(hi:Int)(n:Nat):NJ P w K tg (Itd hi n) [it] it (fun i h=>IsRangeIter h it (hi+(i:Nat)*(-1)) ((n:Int)-(i:Nat)) (-1)) where
 mem:=by simp
 obj:=fun i h st b hb=>by
  have e:b=it:=by simpa using hb
  subst e;exact⟨_,st,fun v z=>by
   have z':Data.fields _=Data.cell v:=z;cases z'⟩
 keep:=fun i h h' st k=>k it (by simp) _ st
 item:=by
  intro X hP hw hK hc i aJ s σ H E I hf st hg;subst hP hw hK;obtain⟨f0,f1,f2,f3,f4,f5⟩:=hf it (by simp);have W:=Walks.range (prog:=X.prog) (w:=X.w) (I.ok.hd hc) it hi (-1) n;refine W.item i s _ _ hg st fun v h' tk hv cO kk=>?_
  obtain⟨t,rfl⟩:=hv;have I1:Inv X aJ σ H {s with heap:=h',toks:=tk}:=I.turned (fun b o hb e=>kk b o (by simpa using hb) e) f0 f1 f3 f4 f5;refine⟨_,rfl,KC (s:={s with heap:=h',toks:=tk}) (n:="range_iterator") cO rfl rfl (by decide) ⟨.int (hi-i),H,I1,⟨t,?_⟩,⟨rfl,rfl⟩,cO,fun b hb=>(hf b hb).1⟩⟩;have e:hi-(i:Int)=hi+(i:Int)*(-1):=by lia
  rw[e]
 done:=by
  intro X hP hw hK hc i aJ s σ H E I hf st hg;subst hP hw hK;obtain⟨f0,f1,f2,f3,f4,f5⟩:=hf it (by simp);exact wpAny_pyNext_range_end (I.ok.hd hc) st (by have :n<=i:=hg;lia) fun h' eb=>⟨rfl,I.turned (t':=s.toks) (fun b o hb e=>eb b o hb e) f0 f1 f3 f4 f5⟩
 self:=fun _ _ _ _ _ st h=>wpAny_pyIter_rangeiter st h
theorem JT(a:Int)(h:0<=a):Builtin.Range.rangeSize a (-1) (-1)=a+1:=by
 unfold Builtin.Range.rangeSize;rw[aH (by decide),aL ()];simp
theorem small_down{a:Int}(h:0<=a)(h2:a<2^62):Builtin.Range.small a (-1) (-1)=true:=by
 unfold Builtin.Range.small;rw[JT a h];simp only[Builtin.Range.rangeFitsLong,bY,nU,bQ,cQ,show¬((-1:Int)>0) by decide,dP];lia
def jj(ta:TA):TI:=fun σ H R=>ta σ H fun vs H1=>∃a:Nat,vs=[.int a,.int (-1),.int (-1)]/\a<100000/\R (Itd a (a+1)) H1
theorem cz{a b:Expr}{ta:TA}{p pos:Pos}(hg:Gl X "range")(hm:X.mg "range"=none)(ha:PA X [a,b,c] ta)(hs:starEach [a,b,c] X.env=[(false,eval a X.env),(false,eval b X.env),(false,eval c X.env)]:=by rfl)(hs2:starEach [b,c] X.env=[(false,eval b X.env),(false,eval c X.env)]:=by rfl):
 PI X tg (.Call (.Name "range" p) [a,b,c] [] pos) (jj ta):=by
 intro aJ s σ H R I h;refine Call_ (wN I hg hm boot_range (fS (eN (ha pos aJ s σ H _ I h) fun us s1 ⟨vs,H1,I1,r1,q1⟩=>?_) (by rw[hs,hs2]) (by rw[hs2];rfl)));obtain⟨n,e,hn,q⟩:=q1;subst e;cases r1 with
 |cons r rr=>
  cases rr with
  |cons r' rr=>
   cases rr with
   |cons r'' rr=>
    cases rr;obtain⟨t,rfl⟩:=r;obtain⟨t',rfl⟩:=r';obtain⟨t'',rfl⟩:=r'';refine call_range_3 (by decide) ?_ (Or.inl (PyProof.noPylong_small (by decide)));refine wpAny_pyIter_range (IsRange.new ..) (small_down () ()) ?_;have I2:Inv X aJ σ H1 {s1 with heap:=s1.heap.push {cls:=.type "range",data:=.fields #[.int n t,.int (-1) t',.int (-1) t'']},toks:=s1.toks}:=I1.kept fun b o e=>aP _ e
    refine⟨(s1.heap.push {cls:=.type "range",data:=.fields #[.int n t,.int (-1) t',.int (-1) t'']}).objs.size,[(s1.heap.push {cls:=.type "range",data:=.fields #[.int n t,.int (-1) t',.int (-1) t'']}).objs.size],_,_,H1,rfl,
     I2.kept (t':=s1.toks) fun b o e=>aP _ e,LK _ n (n+1),?_,fun b hb=>?_,q⟩
    ·have e1:(n:Int)+((0:Nat):Int)*(-1)=n:=by simp
     have e2:(((n+1:Nat):Nat):Int)-((0:Nat):Int)=Builtin.Range.rangeSize n (-1) (-1):=by rw[JT n ()];lia
     show IsRangeIter _ _ ((n:Int)+((0:Nat):Int)*(-1)) ((((n+1:Nat):Nat):Int)-((0:Nat):Int)) (-1);rw[e1,e2];exact bT _ rfl
    ·have e:b=(s1.heap.push {cls:=.type "range",data:=.fields #[.int n t,.int (-1) t',.int (-1) t'']}).objs.size:=by simpa using hb
     subst e;exact I2.fpOk (aG _) (I2.hok.fresh (aG _))
theorem f7{hi:Int}{g:TG}(Pv:Nat->St->Hp->Prop)(h0:Pv 0 σ H)
 (hs:∀i σ H,i<n->Pv i σ H->g (.int (hi-i)) σ H fun σ2 H2=>tb {D with nx:=Pv (i+1),ct:=Pv (i+1),bk:=D.nx} σ2 H2) (hd:∀σ H,Pv n σ H->D.nx σ H):JO (Itd hi n) g tb D σ H:=by
 refine⟨fun i m σ H=>m=n-i/\i<=n/\Pv i σ H,⟨_,by rfl,cG _,h0⟩,fun i m σ1 H1 ⟨hm,hi',hp⟩=>?_⟩;by_cases h:i<n
 ·refine .inr ⟨h,Pv (i+1),fun σ' H' q=>⟨_,?_,rfl,(),q⟩,fun v H' ⟨e1,e2⟩=>?_⟩
  ·lia
  ·subst e1;subst e2;exact hs i σ1 _ h hp
 ·have e:i=n:=by lia
  subst e;exact .inl ⟨aG _,hd σ1 H1 hp⟩
theorem qO{k:Nat}{t:jp}{pos:Pos}(hc:X.calm=true)(h:PGs X es t)(hK:X.K=K:=by rfl)
 (hn:(assignEach es X.env).length=n:=by rfl) (hst:(assignEach es X.env).findIdx? (·.1)=none:=by rfl):PG X (.Tuple es k pos) (vI K n t):=by
 subst hK;exact uU hc h hn hst
end
theorem SL:∀n:Nat,0<n->∃t m,n=2^t*(2*m+1):=by
 intro n
 induction n using Nat.strongRecOn with
 |_ n ih=>
  intro h;by_cases ho:n % 2=1
  ·exact⟨0,n/2,()⟩
  ·obtain⟨t,m,e⟩:=ih (n/2) () ();refine⟨t+1,m,?_⟩;rw[Nat.pow_succ,Nat.mul_assoc,Nat.mul_left_comm,←e];lia
theorem SX(h:0<n):∃t,n.testBit t=true/\(∀i,i<t->n.testBit i=false)/\n-(n&&&(n-1))=2^t/\∀i,(n&&&(n-1)).testBit i=(n.testBit i&&decide (i≠t)):=by
 obtain⟨t,m,e⟩:=SL n h;have e1:n=2^t*(2*m+1)+0:=by lia
 have hp:0<2^t:=WT t;have e2:n-1=2^t*(2*m)+(2^t-1):=by
  rw[e,Nat.mul_add,Nat.mul_one];lia
 have b1:∀i,n.testBit i=if i<t then false else(2*m+1).testBit (i-t):=fun i=>by
  rw[e,Nat.testBit_two_pow_mul];by_cases hi:i<t
  ·rw[aL hi,dF (),fN]
  ·rw[aH hi,eC (),pC]
 have b2:∀i,(n-1).testBit i=if i<t then true else(2*m).testBit (i-t):=fun i=>by
  rw[e2,Nat.testBit_two_pow_mul_add _ ()];by_cases hi:i<t
  ·rw[aL hi,aL hi,oB,eC hi]
  ·rw[aH hi,aH hi]
 have ev:∀j,(2*m).testBit j=((2*m+1).testBit j&&decide (j≠0)):=fun j=>by
  cases j with
  |zero=>simp
  |succ j=>
   rw[Nat.testBit_succ,Nat.testBit_succ];have :(2*m+1)/2=2*m/2:=by lia
   rw[this];simp
 have b3:∀i,(n&&&(n-1)).testBit i=(n.testBit i&&decide (i≠t)):=fun i=>by
  rw[lM,b1,b2];by_cases hi:i<t
  ·rw[aL hi,fN,fN]
  ·rw[aH hi,aH hi,ev];have :decide (i-t≠0)=decide (i≠t):=by
    rw[decide_eq_decide];lia
   rw[this];cases (2*m+1).testBit (i-t)<;>simp
 have e3:n&&&(n-1)=2^t*(2*m):=by
  apply nI;intro i;rw[b3,b1,Nat.testBit_two_pow_mul];by_cases hi:i<t
  ·rw[aL hi,show decide (i≥t)=false from dF (),fN,fN]
  ·rw[aH hi,show decide (i≥t)=true from eC (),pC,ev];have :decide (i-t≠0)=decide (i≠t):=by
    rw[decide_eq_decide];lia
   rw[this]
 refine⟨t,?_,fun i hi=>?_,?_,b3⟩
 ·rw[b1,aH (),fM];simp
 ·rw[b1,aL hi]
 ·rw[e3,e,Nat.mul_add,Nat.mul_one];lia
def rH(n:Nat)(xs:List Nat):Prop:=xs.Pairwise (· < ·)/\∀i,n.testBit i=decide (i∈xs)
theorem rH.nil(h:rH n []):n=0:=nI fun i=>by rw[h.2];simp
theorem rH.cons{n x:Nat}{xs:List Nat}(h:rH n (x::xs)):0<n/\n-(n&&&(n-1))=2^x/\rH (n&&&(n-1)) xs:=by
 have hx:n.testBit x=true:=by rw[h.2];simp
 have hn:0<n:=Nat.pos_of_ne_zero fun z=>by rw[z]at hx;simp at hx
 obtain⟨t,t1,t2,t3,t4⟩:=SX hn;have hp:=List.pairwise_cons.mp h.1;have e:t=x:=by
  rw[h.2,bQ]at t1;rcases bJ.mp t1 with e |e
  ·exact e
  ·have :=hp.1 t e;rw[t2 x this]at hx;cases hx
 subst e;refine⟨hn,t3,hp.2,fun i=>?_⟩;rw[t4,h.2];by_cases hi:i=t
 ·subst hi;have :i∉xs:=fun z=>eE _ (hp.1 i z)
  simp[this]
 ·simp[hi]
section
open PySem.SeqAt
theorem BW:PIp X .BitOr (TM fun i j=>Builtin.bitOr i j):=by
 intro aJ s σ H x y v u Q I r1 r2 h;replace h:=jY h;obtain⟨i,e1,h⟩:=h;replace h:=jY h;obtain⟨j,e2,q⟩:=h;subst e1;subst e2;obtain⟨t,rfl⟩:=r1;obtain⟨t',rfl⟩:=r2;exact ior_int ⟨.int _,H,I.tok _,⟨_,rfl⟩,q⟩
theorem oa:PIp X .BitAnd (TM fun i j=>Builtin.bitAnd i j):=by
 intro aJ s σ H x y v u Q I r1 r2 h;replace h:=jY h;obtain⟨i,e1,h⟩:=h;replace h:=jY h;obtain⟨j,e2,q⟩:=h;subst e1;subst e2;obtain⟨t,rfl⟩:=r1;obtain⟨t',rfl⟩:=r2;exact iand_int ⟨.int _,H,I.tok _,⟨_,rfl⟩,q⟩
theorem n9:PIp X .BitXor (TM fun i j=>Builtin.bitXor i j):=by
 intro aJ s σ H x y v u Q I r1 r2 h;replace h:=jY h;obtain⟨i,e1,h⟩:=h;replace h:=jY h;obtain⟨j,e2,q⟩:=h;subst e1;subst e2;obtain⟨t,rfl⟩:=r1;obtain⟨t',rfl⟩:=r2;exact ixor_int ⟨.int _,H,I.tok _,⟨_,rfl⟩,q⟩
def HX:V->V->Hp->VK->Prop:=fun x y H Q=>mL x fun p=>∃(xs:List V)(i:Nat),y=.int i/\H p=some (.lst xs)/\∃v,xs[i]?=some v/\Q v H
theorem kJ:PGet X HX:=by
 intro aJ s σ H o i ov iv Q I ro ri h;replace h:=xJ h;obtain⟨p,rfl,xs,k,rfl,hp,v,hk,q⟩:=h;cases ro;obtain⟨t,rfl⟩:=ri;obtain⟨its,r,pl,hz⟩:=I.list (dL.of hp);obtain⟨w,ew,rw'⟩:=r.get hk;have hl:=r.length;have hkl:=(aC.mp hk).1;have hs:=dE;exact wpAny_getItem_list pl.isList () () (by simpa using ew) ⟨v,H,I,rw',q⟩
def HZ:V->List V->Hp->VK->Prop:=fun x vs H Q=>sG x fun i=>as0 vs (Q (.int (Builtin.Int.intBits i)) H)
theorem JK:MtR X "int.bit_length" HZ:=by
 intro aJ s σ H x xs v us Q I rx rv h;replace h:=jY h;obtain⟨i,rfl,h⟩:=h;replace h:=as0_ h;obtain⟨rfl,q⟩:=h;cases rv;obtain⟨t,rfl⟩:=rx;exact call_int_bit_length ⟨.int _,H,I.tok _,⟨_,rfl⟩,q⟩
theorem IF(K:W.Frag){f:Str}{pos:Pos}(he:PE X e ta)(hb:attributeBase e f X.env (eval e X.env)=eval e X.env)(hK:X.K=K:=by rfl):PE X (.Attribute e f pos) (jA K ta f):=by
 subst hK;exact xD he hb
theorem not_not(x:Int):Builtin.bitNot (Builtin.bitNot x)=x:=by unfold Builtin.bitNot;lia
theorem kF(m n:Nat):Builtin.bitOr (m:Int) (n:Int)=((m|||n:Nat):Int):=by
 unfold Builtin.bitOr;rw[bitAnd_nn (by unfold Builtin.bitNot;lia) (by unfold Builtin.bitNot;lia),not_not,not_not,not_not];simp
theorem DC(m n:Nat):Builtin.bitAnd (m:Int) (n:Int)=((m&&&n:Nat):Int):=by
 rw[bitAnd_pp () ()];simp
theorem SW(h:0<n):Builtin.bitAnd (n:Int) (-(n:Int))=((n-(n&&&(n-1)):Nat):Int):=by
 rw[bitAnd_pn () ()];have e:(Builtin.bitNot (-(n:Int))).toNat=n-1:=by unfold Builtin.bitNot;lia
 rw[e,cA];have :=Nat.and_le_left (n:=n) (m:=n-1);lia
theorem am{x:Nat}(h:n-(n&&&(n-1))=2^x)(hb:n.testBit x=true):Builtin.bitXor (n:Int) ((2^x:Nat):Int)=((n&&&(n-1):Nat):Int):=by
 rw[bitXor_and,DC];have e:n&&&2^x=2^x:=by
  apply nI;intro i;rw[lM,lC];by_cases hi:x=i
  ·subst hi;simp[hb]
  ·simp[hi]
 rw[e];have :=Nat.and_le_left (n:=n) (m:=n-1);lia
theorem VY(x:Nat):Builtin.Int.intBits ((2^x:Nat):Int)=x+1:=by
 unfold Builtin.Int.intBits;have hp:0<2^x:=WT x;rw[aH (by rw[cQ];lia),Int.natAbs_natCast,Nat.log2_two_pow]
theorem vR(x:Nat):(1:Int)*2^(x:Int).toNat=((2^x:Nat):Int):=by
 rw[Int.one_mul,cA];simp
end
section
open PySem.SeqAt
section
variable {K:Type} [DecidableEq K] {knd:HeapKind prog w K} {k:K} {xs:List (K×Addr×Value)}
theorem LQ{v:Value}(hu:knd.room A)(hkey:knd.is s.heap k a)(hm:s.heap.DictOfH knd d xs)
 (h1:∀p,atKey xs k=some p->Q p.2 {s with toks:=s.toks+knd.draws k})
 (h2:atKey xs k=none->∀h',h'.DictOfH knd d (storedH xs k a v)->Heap.SameBut d s.heap h'->Q v {s with heap:=h',toks:=s.toks+knd.draws k})
 (hsz:xs.length<=sizeLine):wpAny (model prog w) A (dictSetDefault d (.ref a) v) Q E s:=by
 obtain⟨o,es,ep,ho,hc,hd,he,his,hn⟩:=hm;unfold dictSetDefault
 try with_reducible refine eV ?_
 refine aF (knd.pyHash hu hkey ?_);refine aF (wpAny_dictFind_heap (s:={s with toks:=s.toks+knd.draws k}) hu hkey ho hd he his hn ?_ ?_)
 ·intro hno;have hnot:k∉xs.map (·.1):=not_mem_keys_of_get hno;refine aF (iO (aF (wpAny_updateDictKeys (hz:=by have e:=size_of_entries he;lia) (s:={s with toks:=s.toks+knd.draws k}) ho hd (aR (h2 (rC hno) _ ⟨_,_,ep+1,nX _ ho (Obj.isFreed_of_dict (Obj.data_mapDictKeys hd _)),
   hc.mapDictKeys _,Obj.data_mapDictKeys hd _,?_,?_,?_⟩ (lZ ..))))))
  ·rw[GR (rC hno)];simp[he,entryOfKey]
  ·rw[GR (rC hno)];intro x hx;rcases bO.mp hx with hx |hx
   ·exact knd.keeps (his x hx) ho hd (lZ ..)
   ·simp only[aT]at hx;subst hx;exact knd.keeps hkey ho hd (lZ ..)
  ·rw[GR (rC hno)];rw[aU,mI];refine⟨hn,by simp,?_⟩;intro x hx y hy;simp only[cF,pT,aT]at hy;subst hy;exact fun e=>hnot (e▸hx)
 ·intro j p hj;refine aF (nG (s:={s with toks:=s.toks+knd.draws k}) ho hd ?_);rw[entry_at he j,hj];exact aF (iO (aR (h1 p (atKey_of_get hn hj))))
theorem EB(hd:(d==sysModules)=false)(dflt:Value):
 MeetsIn prog w (Builtin.«dict.setdefault» ⟨[.ref d,.ref a,dflt],[]⟩) (fun A R s=>knd.room A.in1/\∃k xs,knd.is s.heap k a/\s.heap.DictOfH knd d xs/\xs.length<=sizeLine/\
  (∀p,atKey xs k=some p->R (.ok (.ret p.2)) {s with toks:=s.toks+knd.draws k})/\
  (atKey xs k=none->∀h',h'.DictOfH knd d (storedH xs k a dflt)->Heap.SameBut d s.heap h'->R (.ok (.ret dflt)) {s with heap:=h',toks:=s.toks+knd.draws k})):=
 .of_wp fun A R s ⟨hu,k,xs,hkey,hm,hz,h1,h2⟩=>by
  unfold Builtin.«dict.setdefault»;refine aF ?_;unfold Builtin.Dict.keyAndDefault;refine aF (nW hm.typeIs ?_);show wpAny _ _ (pure (d,Value.ref a,some dflt)) _ _ s;refine aR ?_;show wpAny _ _ (if(d==sysModules)=true then _ else(dictSetDefault d (.ref a) dflt >>= _)) _ _ s;rw[aH (by rw[hd];exact cI)];exact aF (LQ hu hkey hm (fun p hp=>aR ⟨p.2,rfl,h1 p hp⟩) (fun hn h' hm' fC=>aR ⟨dflt,rfl,h2 hn h' hm' fC⟩) hz)
end
theorem LV(h:mN (some v) (some u)):RelV v u:=h
def i5(td ty tx:TE):TE:=fun σ H Q=>td σ H fun x H1=>∃a,x=.ref a/\IsD H1 a/\ty σ H1 fun y H2=>tx σ H2 fun z H3=>∃(kvs:List (List eL×V))(k:List eL)(b:Addr),H3 a=some (.dT kvs)/\y=.ref b/\H3 b=some (.tup (k.map kV))/\kvs.length<sizeLine/\
 (∀v,yO kvs k=some v->Q v H3)/\(yO kvs k=none->Q z (upd H3 a (.dT (jJ kvs k z))))
section
variable {f:Expr} {iR:Pos} {td ty tx:TE}
theorem da(hu:X.A.units+1<cLine)(ho:PE X o td)(he:PE X e ty)(hf:PE X f tx)(m:M2 X o "setdefault" lV e f iR):PE X (.Call (.Attribute o "setdefault" lV) [e,f] [] iR) (i5 td ty tx):=by
 intro aJ s σ H Q I h;refine ix m.base m.few m.line pK WR F.type_dict_setdefault (eN (ho aJ s σ H _ I h) fun u s1 ⟨x,H1,I1,rx,a,ex,d,q1⟩=>?_);subst ex;obtain rfl:u=Value.ref a:=rx;obtain⟨t1,t2,_⟩:=TK I1 d;refine⟨t1,t2,?_⟩;rw[m.trees];refine iQ rfl (oK (gQ (eN (he aJ s1 σ H1 _ I1 q1) fun iv s2 ⟨y,H2,I2,ry,q2⟩=>
  gQ (eN (hf aJ s2 σ H2 _ I2 q2) fun fv s3 ⟨z,H3,I3,rz,kvs,k,b,e,ey,eb,l,q3,q4⟩=>nK ?_))))
 subst ey;cases (show iv=Value.ref b from ry);obtain⟨z0,hd,xs,mT,dd⟩:=jk I3.hok e;have hz:xs.length<=sizeLine:=by rw[←eW mT];exact z0
 have hl:(jJ kvs k z).length<=sizeLine:=by have :=qP kvs k z;lia
 refine sQ WR dd.typeIs F.entry_dict_setdefault (F.args_dict_setdefault_3 _ _ _) (EB (knd:=tupleKind (yA X.prog X.w)) hd fv) ⟨eG hu,k,xs,vC I3.hok eb,dd,hz,fun p hp=>?_,fun hn h' dd' hs=>?_⟩
 ·have rv:=mT.val k;rw[hp]at rv;cases hv:yO kvs k with
  |none=>rw[hv]at rv;cases rv
  |some v=>
   rw[hv]at rv;exact⟨v,H3,I3.tok _,LV rv,q3 v hv⟩
 ·have rv:=mT.val k;rw[hn]at rv;have hv:yO kvs k=none:=by
   cases hv:yO kvs k with
   |none=>rfl
   |some v=>rw[hv]at rv;cases rv
  obtain⟨q,es,ep,hq,h2,h3,h4,_,h5⟩:=dd';refine⟨z,upd H3 a (.dT (jJ kvs k z)),vW I3 (by rw[e];exact True.intro) hs ⟨q,hq⟩ ⟨hl,hd,_,(mT.put k eb rz).keeps fun c ys ec=>?_,q,es,ep,hq,h2,h3,h4,h5⟩,rz,q4 hv⟩;rw[zJ (jH ec e (fun z=>nomatch z))];exact ec
end
end
section
open PySem.W
def nY(h:Heap)(d:Addr)(es:Array DictEntry)(ep:Nat):Prop:=∃o,h.get? d=some o/\o.ExactDict/\o.data=.dict es ep
theorem nY.typeIs{es:Array DictEntry}(x:nY s.heap d es ep):s.TypeIs (.ref d) "dict":=let ⟨o,ho,hc,_⟩:=x;⟨o,ho,hc.1⟩
theorem nY.at'{es:Array DictEntry}(x:nY h d es ep)(e:∀o,h.get? d=some o->h'.get? d=some o):nY h' d es ep:=let ⟨o,ho,r⟩:=x;⟨o,e _ ho,r⟩
theorem nY.lt{es:Array DictEntry}(x:nY h d es ep):d<h.objs.size:=let ⟨_,ho,_⟩:=x;bA ho
theorem ce(d:Addr)(hd:(d==sysModules)=false):MeetsIn prog w (Builtin.«dict.__len__» ⟨[.ref d],[]⟩) (fun _ R s=>∃es ep,nY s.heap d es ep/\R (.ok (.ret (.int es.size s.toks))) {s with toks:=s.toks+1}):=
 .of_wp fun A R s ⟨es,ep,hm,h⟩=>by
  obtain⟨o,a1,a2,a3⟩:=id hm;show wpAny _ _ (dictSize d >>= _) _ _ s;unfold dictSize;refine aF (aF (nG a1 a3 (aR ?_)));show wpAny _ _ (Builtin.Dict.pendingCount d >>= _) _ _ s;refine aF (wpAny_pendingCount_other hd ?_);refine wpAny_ret_mkInt ?_;rw[Nat.add_zero];exact h
theorem QS:∀{ys:List V}{us:List Value},ys.length=us.length->(∀(i:Nat)(y:V)(u:Value),ys[i]?=some y->us[i]?=some u->RelV y u)->dD ys us
 |[],[],_,_=>.nil
 |[],_::_,h,_=>by simp at h
 |_::_,[],h,_=>by simp at h
 |y::ys,u::us,h,hh=>.cons (hh 0 y u rfl rfl) (QS (by simpa using h) fun i y' u' h1 h2=>hh (i+1) y' u' (by simpa using h1) (by simpa using h2))
theorem KT.at{H:Hp}:∀{kvs:List (List eL×V)}{xs:List (List eL×Addr×Value)},KT H kvs xs->∀{i:Nat}{p:List eL×V}{q:List eL×Addr×Value},kvs[i]?=some p->xs[i]?=some q->RelV p.2 q.2.2
 |_,_,.nil,i,p,q,h,_=>by simp at h
 |_,_,.cons hq t,0,p,q,h1,h2=>by
  simp only[pN,GU]at h1 h2;subst h1 h2;exact hq.2.2
 |_,_,.cons hq t,i+1,p,q,h1,h2=>KT.at t (by simpa using h1) (by simpa using h2)
end
section
open PySem.W
section
variable {J:Addr} {wr:List Addr} {P:Nat->Value->Prop} {St:Nat->Heap->Prop}
structure ItSrc(prog:Program)(w:World)(T:String)(J:Addr)(fp wr:List Addr)(n:Nat)(P:Nat->Value->Prop)(St:Nat->Heap->Prop):Prop where
 walks:∀A:Around,A.handled=none->Walks prog w A J fp wr n P St
 type:∀s:Shared,St 0 s.heap->s.TypeIs (.ref J) T
 nl:(Value.type T==Value.type "list")=false
 nt:(Value.type T==Value.type "tuple")=false
 hint:∀(A:Around)(E:Value->Shared->Prop)(s:Shared)(Q:Bool->Shared->Prop),St 0 s.heap->Q false s->wpAny (model prog w) A (Builtin.List.listLengthHint (.ref J)) Q E s
 mem:J∈fp
 sub:wr ⊆ fp
end
end
section
open PySem.W
end
section
open PySem.W
def oF(n:Nat){α:Type}(P:α->Prop):KasT α->Prop
 | .ret a=>P a
 | .ask i j k=>i<n/\j<n/\i≠j/\∀b,oF n P (k b)
theorem oF.bind{n:Nat}{α β:Type}{P:α->Prop}{R:β->Prop}{f:α->KasT β}:∀{t:KasT α},oF n P t->(∀a,P a->oF n R (f a))->oF n R (t.bind f)
 | .ret a,h,hf=>hf a h
 | .ask i j k,h,hf=>⟨h.1,h.2.1,h.2.2.1,fun b=>oF.bind (h.2.2.2 b) hf⟩
theorem oF.mono{n:Nat}{α:Type}{P R:α->Prop}(hp:∀a,P a->R a):∀{t:KasT α},oF n P t->oF n R t
 | .ret a,h=>hp a h
 | .ask i j k,h=>⟨h.1,h.2.1,h.2.2.1,fun b=>oF.mono hp (h.2.2.2 b)⟩
theorem oF.wp{n:Nat}{α:Type}{P:α->Prop}{cmp:Nat->Nat->(Bool->Shared->Prop)->Shared->Prop}{I:Shared->Prop}{Q:α->Shared->Prop}
 (hc:∀i j C s,I s->i<n->j<n->i≠j->(∀b s',I s'->C b s')->cmp i j C s) (hq:∀a s,P a->I s->Q a s):∀{t:KasT α}{s:Shared},oF n P t->I s->t.kasWp cmp Q s
 | .ret a,s,h,hi=>hq a s h hi
 | .ask i j k,s,h,hi=>hc i j _ s hi h.1 h.2.1 h.2.2.1 fun b s' hi'=>oF.wp hc hq (h.2.2.2 b) hi'
def fD(n:Nat)(p:Array Nat):Prop:=p.toList.Perm (List.range n)
theorem fD.size(h:fD n p):p.size=n:=by
 have :=List.Perm.length_eq h;rwa[bR,eY]at this
theorem fD.of{q:Array Nat}(h:fD n p)(e:q.Perm p):fD n q:=(iV.mp e).trans h
theorem fD.rev(h:fD n p)(i j:Nat):fD n (kas_rev p i j):=h.of (mirror_perm _ _ _ _)
theorem fD.at(h:fD n p)(hi:i<n):p.getD i 0<n:=by
 have hs:i<p.size:=by rw[h.size];exact hi
 have e:p.getD i 0=p[i]:=by simp[Array.getD,hs]
 rw[e];exact bP.mp (h.mem_iff.mp (by simp))
theorem fD.ne(h:fD n p)(hi:i<n)(hj:j<n)(hij:i≠j):p.getD i 0≠p.getD j 0:=by
 have hs:i<p.size:=by rw[h.size];exact hi
 have fC:j<p.size:=by rw[h.size];exact hj
 have e:p.getD i 0=p[i]:=by simp[Array.getD,hs]
 have e':p.getD j 0=p[j]:=by simp[Array.getD,fC]
 rw[e,e'];have nd:p.toList.Nodup:=h.nodup_iff.mpr List.nodup_range;intro z;have :=dJ.mp nd;rcases Nat.lt_or_gt_of_ne hij with l |l
 ·exact this i j (by simpa using hs) (by simpa using fC) l (by simpa using z)
 ·exact this j i (by simpa using fC) (by simpa using hs) l (by simpa using z.symm)
theorem fD.ask(h:fD n p){P:α->Prop}{k:Bool->KasT α}(hi:i<n)(hj:j<n)(hij:i≠j)(hk:∀b,oF n P (k b)):oF n P (.ask (p.getD i 0) (p.getD j 0) k):=⟨h.at hi,h.at hj,h.ne hi hj hij,hk⟩
theorem GG{n:Nat}{p:Array Nat}(h:fD n p):∀(f m:Nat),1<=m->m+f<=n->oF n (fun r=>m<=r/\r<=m+f) (kas_asc p f m)
 |0,m,_,_=>⟨aG _,aG _⟩
 |f+1,m,h1,h2=>by
  refine h.ask () () () fun b=>?_
  cases b with
  |true=>exact⟨aG _,()⟩
  |false=>exact oF.mono (fun r hr=>⟨(),()⟩) (GG h f (m+1) () ())
theorem KQ{n:Nat}:∀(f:Nat)(p:Array Nat)(m q:Nat),fD n p->1<=m->m+f<=n->oF n (fun r=>fD n r.1/\m<=r.2.1/\r.2.1<=m+f) (kas_desc f p m q)
 |0,p,m,q,h,_,_=>⟨h,aG _,aG _⟩
 |f+1,p,m,q,h,h1,h2=>by
  have up:∀p' q',fD n p'->oF n (fun r=>fD n r.1/\m<=r.2.1/\r.2.1<=m+(f+1)) (kas_desc f p' (m+1) q'):=fun p' q' hp'=>oF.mono (fun r hr=>⟨hr.1,(),()⟩) (KQ f p' (m+1) q' hp' () ())
  refine h.ask () () () fun b=>?_
  cases b with
  |true=>
   show oF n _ (if q>0 then _ else _);split
   ·exact up _ _ (h.rev _ _)
   ·exact up _ _ h
  |false=>
   refine h.ask () () () fun b=>?_
   cases b with
   |true=>exact⟨h,by show m<=m;lia,by show m<=_;lia⟩
   |false=>exact up _ _ h
theorem tP{m:Nat}(h:fD n p)(h1:1<=m)(h2:m<=n):oF n (fun r=>fD n r.2/\1<=r.1/\r.1<=n) (kas_tail3 m n p):=by
 refine oF.bind (GG (h.rev _ _) (n-m) m h1 ()) fun a ha=>?_
 exact⟨h.rev _ _,by show 1<=a;lia,by show a<=n;lia⟩
theorem ZU{m:Nat}(h:fD n p)(h1:1<=m)(h2:m+1<=n):oF n (fun r=>fD n r.2/\1<=r.1/\r.1<=n) (kas_descPart m n p):=by
 refine oF.bind (KQ (n-(m+1)) p (m+1) 0 h () ()) fun r hr=>?_
 split
 ·exact tP (hr.1.rev _ _) () ()
 ·exact tP hr.1 () ()
theorem VQ(h:fD n p)(hn:1<=n):oF n (fun r=>fD n r.2/\1<=r.1/\r.1<=n) (kas_count n p):=by
 refine oF.bind (GG h (n-1) 1 (aG _) ()) fun a ha=>?_
 by_cases e:(a==n)=true
 ·rw[aL e];exact⟨h,by show 1<=a;lia,by show a<=n;lia⟩
 rw[aH e];have ne:a≠n:=fun z=>e (by rw[z];simp)
 by_cases g:a>1
 ·rw[aL g];refine h.ask () () () fun b=>?_
  cases b with
  |true=>exact⟨h,by show 1<=a;lia,by show a<=n;lia⟩
  |false=>exact ZU (h.rev _ _) () ()
 ·rw[aH g];exact ZU h () ()
theorem XG{n:Nat}{p:Array Nat}(h:fD n p){k:Nat}(hk:k<n):∀(f l r:Nat),l<=k->r<=k->oF n (fun x=>x<=k) (kas_place p k f l r)
 |0,l,r,hl,_=>hl
 |f+1,l,r,hl,hr=>by
  show oF n _ (if l≥r then _ else _);split
  ·exact hl
  ·refine h.ask () () () fun b=>?_
   cases b with
   |true=>exact XG h hk f l _ hl ()
   |false=>exact XG h hk f _ r () hr
theorem VZ{n:Nat}:∀(f:Nat)(p:Array Nat)(k:Nat),fD n p->k+f<=n->oF n (fD n) (kas_bin f p k)
 |0,p,k,h,_=>h
 |f+1,p,k,h,hk=>oF.bind (XG h () k 0 k () ()) fun l _=>VZ f _ (k+1) (h.of (bubble_perm _ _ _)) ()
theorem bj(hn:1<=n):oF n (fD n) (kas_sort n):=by
 refine oF.bind (VQ (n:=n) (p:=List.toArray (List.range n)) (sC _) hn) fun r hr=>?_
 split
 ·refine VZ _ _ _ hr.1 ?_;have :max r.1 1=r.1:=by lia
  lia
 ·exact hr.1
theorem RL{vs:List Value}(h:fD vs.length p):(p.toList.map fun i=>vs.getD i Value.none).Perm vs:=by
 have h1:(p.toList.map fun i=>vs.getD i Value.none).Perm ((List.range vs.length).map fun i=>vs.getD i Value.none):=List.Perm.map _ h;have e:(List.range vs.length).map (fun i=>vs.getD i Value.none)=vs:=by
  refine List.ext_getElem (by simp) fun i h1 h2=>?_
  rw[NP,List.getElem_range];rw[bU,aA h2];rfl
 rwa[e]at h1
theorem MA{κ:SortKind}{vs:List Value}{P:PySem.Fin->Shared->Prop}(ho:s.heap.get? a=some (seqObj "list" vs.toArray n))(h64:vs.length<64)
 (hk:∀(s':Shared)(Q:SortKind->Shared->Prop),2<=vs.length->(∀b o,b≠a->s.heap.get? b=some o->s'.heap.get? b=some o)->Q κ s'->wpAny (model prog w) A (keyKind' vs.toArray) Q E s')
 (hc:∀(s':Shared)(i j:Nat)(C:Bool->Shared->Prop),(∀b o,b≠a->s.heap.get? b=some o->s'.heap.get? b=some o)->i<vs.length->j<vs.length->i≠j->(∀b tk,C b {s' with toks:=tk})->wpAny (model prog w) A (keyLt' κ (vs.getD i Value.none) (vs.getD j Value.none)) C (fun _ _=>False) s')
 (h:∀(out:List Value)(tk:Nat),out.Perm vs->P (.done (.ret .none)) {s with heap:=sortedHeap s.heap a vs out.toArray,toks:=tk}):wpAny (model prog w) A (Builtin.«list.sort» ⟨[.ref a],[]⟩) P E s:=by
 rw[list_sort_plain];have ha:a<s.heap.objs.size:=bA ho;have hsz:vs.toArray.size=vs.length:=by simp
 refine aF (listItems_at ho rfl ?_);refine aF (DK ho rfl ?_ (by rw[hsz,dE];lia) (cG _));obtain⟨e1,ho1⟩:∃e1,(s.heap.update a (Obj.mapSeq fun _=> #[])).get? a=some (seqObj "list" #[] e1):=⟨_,get?_update_seq ho (fun _=> #[])⟩
 refine aF (jy ho1 rfl ?_);refine aF (wpAny_newTuple ?_ (by show vs.length<=_;rw[dE];lia));refine aF (rJ ?_ (cG _));refine eV ?_;have ho6:(((s.heap.update a (Obj.mapSeq fun _=> #[])).push (seqObj "tuple" vs.toArray 0)).push (seqObj "list" #[] 0)).get? a=some (seqObj "list" #[] e1):=by
  rw[iZ _ _ _ (by rw[size_push',oC];exact bS (gK ha)),iZ _ _ _ (by rw[oC];exact bS ha)];exact ho1
 have keep:∀b o,b≠a->s.heap.get? b=some o->(((s.heap.update a (Obj.mapSeq fun _=> #[])).push (seqObj "tuple" vs.toArray 0)).push (seqObj "list" #[] 0)).get? b=some o:=fun b o hb e=>aP _ (aP _ ((nJ _ _ (cJ hb)).trans e))
 show wpAny (model prog w) A _ P E {s with heap:=((s.heap.update a (Obj.mapSeq fun _=> #[])).push (seqObj "tuple" vs.toArray 0)).push (seqObj "list" #[] 0)};dsimp only;by_cases h2:vs.toArray.size<2
 ·rw[aL h2,aL h2];refine aF (aR ?_);rw[StateT.run_pure];refine aF (aR ?_);dsimp only;have e:(vs.toArray.zip vs.toArray).map (·.2)=vs.toArray:=by
   apply Array.toList_inj.mp;simp[List.map_snd_zip]
  refine aF (jy ho6 rfl ?_);refine aF (DK ho6 rfl ?_ (cG _) (by show((vs.toArray.zip vs.toArray).map (·.2)).size<=_;rw[e,hsz,dE];lia));simp only[bne_self_eq_false,bV,dP];refine aR ?_;show P _ {s with heap:=sortedHeap s.heap a vs ((vs.toArray.zip vs.toArray).map (·.2))};rw[e];exact h vs s.toks (sC _)
 ·rw[aH h2,aH h2];have h2':2<=vs.length:=by lia
  refine aF (hk _ _ h2' keep ?_);have hwp:(kas_sort vs.length).kasWp (kas_ask prog w A κ vs) (fun p s'=>fD vs.length p/\∃tk,s'={s with heap:=((s.heap.update a (Obj.mapSeq fun _=> #[])).push (seqObj "tuple" vs.toArray 0)).push (seqObj "list" #[] 0),toks:=tk}) {s with heap:=((s.heap.update a (Obj.mapSeq fun _=> #[])).push (seqObj "tuple" vs.toArray 0)).push (seqObj "list" #[] 0)}:=by
   refine oF.wp (I:=fun s'=>∃tk,s'={s with heap:=((s.heap.update a (Obj.mapSeq fun _=> #[])).push (seqObj "tuple" vs.toArray 0)).push (seqObj "list" #[] 0),toks:=tk}) (fun i j C s' hI hi hj hij hC=>?_) (fun p s' hp hI=>⟨hp,hI⟩) (bj ()) ⟨s.toks,rfl⟩;obtain⟨tk,rfl⟩:=hI;exact hc _ i j C keep hi hj hij (fun b tk=>hC b _ ⟨tk,rfl⟩)
  refine aF (lH (kat_run (Q:=fun cO s'=>∃p:Array Nat,p.size=vs.length/\arrOf cO=p.map (kas_item (vs.toArray.zip vs.toArray))/\failedOf cO=none/\fD vs.length p/\∃tk,s'={s with heap:=((s.heap.update a (Obj.mapSeq fun _=> #[])).push (seqObj "tuple" vs.toArray 0)).push (seqObj "list" #[] 0),toks:=tk}) rfl h2' h64 (fun p cO s' a1 a2 a3 a4=>⟨p,a1,a2,a3,a4⟩) hwp) ?_ fun _ _ e=>e);rintro⟨⟨⟩,cO⟩ s' ⟨p,hp,har,hf,hpn,tk,rfl⟩;dsimp only;have hout:=kat_snds (ks:=vs) (vs:=vs) rfl har;have ho7:(Shared.heap {s with heap:=((s.heap.update a (Obj.mapSeq fun _=> #[])).push (seqObj "tuple" vs.toArray 0)).push (seqObj "list" #[] 0),toks:=tk}).get? a=some (seqObj "list" #[] e1):=ho6;refine aF (jy ho7 rfl ?_);refine aF (DK ho7 rfl ?_ (cG _) (by rw[hout,aQ,aE,bR,hp,dE];lia));rw[hf];simp only[bne_self_eq_false,bV,dP];refine aR ?_;rw[hout];exact h _ tk (RL hpn)
theorem AK{κ:SortKind}{vs:List Value}(hl:s.heap.IsList l vs.toArray)(h64:vs.length<64)
 (hk:∀(s':Shared)(E:Value->Shared->Prop)(Q:SortKind->Shared->Prop),2<=vs.length->(∀b o,s.heap.get? b=some o->s'.heap.get? b=some o)->Q κ s'->wpAny (model prog w) A.in1.in1 (keyKind' vs.toArray) Q E s')
 (hc:∀(s':Shared)(i j:Nat)(C:Bool->Shared->Prop),(∀b o,s.heap.get? b=some o->s'.heap.get? b=some o)->i<vs.length->j<vs.length->i≠j->(∀b tk,C b {s' with toks:=tk})->wpAny (model prog w) A.in1.in1 (keyLt' κ (vs.getD i Value.none) (vs.getD j Value.none)) C (fun _ _=>False) s')
 (h:∀(h':Heap)(tk e:Nat)(out:List Value),out.Perm vs->(∀b o,s.heap.get? b=some o->h'.get? b=some o)->h'.get? (s.heap.objs.size+1)=some (seqObj "list" out.toArray e)->Q (.ref (s.heap.objs.size+1)) {s with heap:=h',toks:=tk}):
 wpAny (model prog w) A (call (.builtin "sorted") [.ref l]) Q E s:=by
 refine pW kind_sorted plain_sorted entry_sorted (args_sorted1 _) ?_;unfold Builtin.«sorted»;refine aF (m:=checkCount "sorted" 1 1 _) (aR ?_);refine aF (collect_list hl ?_ (by rw[dE];lia));refine aF (rJ ?_ (by rw[dE];lia));have hsz:((s.heap.push (seqObj "list" #[] 0)).update s.heap.objs.size (Obj.mapSeq (· ++vs.toArray))).objs.size=s.heap.objs.size+1:=by rw[oC,size_push']
 have hoL:(((s.heap.push (seqObj "list" #[] 0)).update s.heap.objs.size (Obj.mapSeq (· ++vs.toArray))).push (seqObj "list" vs.toArray 0)).get? (s.heap.objs.size+1)=some (seqObj "list" vs.toArray 0):=by rw[←hsz];exact bT _ rfl
 have keep:∀b o,s.heap.get? b=some o->(((s.heap.push (seqObj "list" #[] 0)).update s.heap.objs.size (Obj.mapSeq (· ++vs.toArray))).push (seqObj "list" vs.toArray 0)).get? b=some o:=fun b o q=>by
  have lS:b<s.heap.objs.size:=bA q;rw[iZ _ _ _ (by rw[hsz];exact bS (gK lS)),Heap.get?_update_ne _ _ _ _ (bS lS),iZ _ _ _ (bS lS)];exact q
 have nb:∀{b:Addr}{o:Obj},s.heap.get? b=some o->b≠s.heap.objs.size+1:=fun q=>bS (gK (bA q))
 show wpAny _ _ _ _ _ {s with heap:=((s.heap.push (seqObj "list" #[] 0)).update s.heap.objs.size (Obj.mapSeq (· ++vs.toArray))).push (seqObj "list" vs.toArray 0)};rw[hsz];refine aF (eV (gE slot_list_sort ⟨_,hoL,rfl⟩ entry_list_sort (MA (κ:=κ) (A:=A.in1.in1) hoL h64 (fun s' Q' h2 kp hq=>hk s' _ Q' h2 (fun b o e=>kp b o (nb e) (keep b o e)) hq) (fun s' i j C kp hi hj hij hC=>hc s' i j C (fun b o e=>kp b o (nb e) (keep b o e)) hi hj hij hC) fun out tk hp=>⟨_,rfl,?_⟩) (args_list_sort _)));obtain⟨e,he⟩:=sortedHeap_at (out:=out.toArray) hoL;refine aR ⟨_,rfl,h _ tk e out hp (fun b o q=>?_) he⟩;rw[sortedHeap_old (nb q) (bA (keep b o q))];exact keep b o q
theorem AA:∀{as:List Addr}{us:List Value},dD (as.map V.ref) us->us=as.map Value.ref
 |[],_,.nil=>rfl
 |a::as,_,.cons r t=>by
  have e:_=Value.ref a:=r;rw[e,AA t];rfl
def ic(H:Hp)(a:Addr)(z:Str):Prop:=∃r,H a=some (.tup (.str z::r))
theorem ic.raw{z:Str}(ok:mO P w H h)(t:ic H a z):∃o xs n tk r,h.get? a=some o/\o.cls=.type "tuple"/\o.data=.seq xs n/\xs=(Value.str z tk::r).toArray:=by
 obtain⟨r,ht⟩:=t;obtain⟨_,its,rr,o,h1,h2,n,h3⟩:=(show fA P w H h a (.tup (.str z::r))from ok a _ ht)
 cases rr with
 |cons r1 r2=>
  obtain⟨tk,rfl⟩:=r1;exact⟨o,_,n,tk,_,h1,h2,h3,rfl⟩
theorem TJ{P:Program}{w:World}{H:Hp}{h h':Heap}(ok:mO P w H h)(kp:∀b o,h.get? b=some o->h'.get? b=some o):∀(as:List Addr)(zs:List Str),as.length=zs.length->(∀(i:Nat)(a:Addr)(z:Str),as[i]?=some a->zs[i]?=some z->ic H a z)->∃fs,KatTups h' (as.map Value.ref) fs/\fs.length=as.length/\∀f∈fs,∃z tk,f=Value.str z tk
 |[],[],_,_=>⟨[],trivial,rfl,fun _ h=>nomatch h⟩
 |[],_::_,h,_=>by simp at h
 |_::_,[],h,_=>by simp at h
 |a::as,z::zs,hl,ht=>by
  obtain⟨fs,h1,h2,h3⟩:=TJ ok kp as zs (by simpa using hl) fun i a' z' ha hz=>ht (i+1) a' z' (by simpa using ha) (by simpa using hz)
  obtain⟨o,xs,n,tk,r,g1,g2,g3,g4⟩:=(ht 0 a z rfl rfl).raw ok;refine⟨Value.str z tk::fs,⟨⟨a,o,xs,n,rfl,kp _ _ g1,g2,g3,by rw[g4];simp⟩,h1⟩,by simp[h2],fun f hf=>?_⟩;rcases bJ.mp hf with e |hf
  ·exact⟨z,tk,e⟩
  ·exact h3 f hf
theorem MO{z:Str}{tk:Tok}:Looks M h (typeOf (.str z tk)) (.type "str"):=fun A Q E s _ q=>lT (typeIs_str s z tk) q
theorem VG:qL X (.builtin "sorted") (fun xs H Q=>ag X.calm (pF xs fun x=>mL x fun p=>∃as:List Addr,H p=some (.lst (as.map V.ref))/\∃zs:List Str,as.length=zs.length/\zs.length<64/\zs.Nodup/\(∀(i:Nat)(a:Addr)(z:Str),as[i]?=some a->zs[i]?=some z->ic H a z)/\
 ∀(l:Addr)(as':List Addr),H l=none->as'.Perm as->Q (.ref l) (upd H l (.lst (as'.map V.ref))))):=by
 intro aJ s σ H xs us Q I r h;replace h:=DB h;obtain⟨hcalm,h⟩:=h;replace h:=wD h;obtain⟨x0,rfl,h⟩:=h;replace h:=xJ h;obtain⟨p,rfl,as,hp,zs,hl,h64,lD,ht,q⟩:=h;obtain⟨u,rfl,ru⟩:=uI r;cases ru;obtain⟨hz,its,nn,rv,o1⟩:=(show fA X.prog X.w H s.heap p (.lst (as.map V.ref))from I.hok p _ hp)
 have e:=AA rv;subst e;have eO:(as.map Value.ref).length=as.length:=aE _;refine AK (κ:=tuples' true) (vs:=as.map Value.ref) ⟨_,o1,rfl,nn,rfl⟩ () (fun s' E' Q' h2 kp hq=>?_) (fun s' i j C kp hi hj hij hC=>?_) fun h' tk e out hperm kp hS=>?_
 ·obtain⟨fs,k1,k2,k3⟩:=TJ I.hok kp as zs hl ht;refine kat_kind (T:=.type "str") k1 () (fun v hv=>?_) (by decide) hq;obtain⟨z,tk,rfl⟩:=k3 v hv;exact MO
 ·rw[eO]at hi hj;have gi:(as.map Value.ref).getD i Value.none=.ref as[i]:=by rw[bU,aK,aA hi];rfl
  have gj:(as.map Value.ref).getD j Value.none=.ref as[j]:=by rw[bU,aK,aA hj];rfl
  have hiz:i<zs.length:=by lia
  have hjz:j<zs.length:=by lia
  obtain⟨oi,xi,ni,ti,ri,a1,a2,a3,a4⟩:=(ht i as[i] zs[i] (aA hi) (aA hiz)).raw I.hok;obtain⟨oj,xj,nj,tj,rj,b1,b2,b3,b4⟩:=(ht j as[j] zs[j] (aA hj) (aA hjz)).raw I.hok;have lL:zs[i]≠zs[j]:=by
   rcases Nat.lt_or_gt_of_ne hij with l |l
   ·exact(dJ.mp lD) i j hiz hjz l
   ·exact((dJ.mp lD) j i hjz hiz l).symm
  rw[gi,gj];subst a4 b4;refine kat_lt (kp _ _ a1) a3 (kp _ _ b1) b3 ?_;show KatLex _ _ _ _ _ _ ((Value.str zs[i] ti,Value.str zs[j] tj)::ri.zip rj) 0 s';refine kat_cons (wpAny_eqBool_str ?_);rw[dF lL];refine kat_no ?_;show wpAny _ _ (oneLt' true _ _) _ _ _;exact oneLt_str (hC _ s'.toks)
 ·obtain⟨as',e1,e2⟩:∃as':List Addr,out=as'.map Value.ref/\as'.Perm as:=by
   have :∀v∈out,∃a,v=Value.ref a:=fun v hv=>by
    obtain⟨a,_,e⟩:=cD.mp (hperm.mem_iff.mp hv);exact⟨a,e.symm⟩
   have ho:out=(out.map fun v=>match v with | .ref a=>a |_=>0).map Value.ref:=by
    rw[eQ]
    conv=>lhs;rw[←List.map_id out]
    refine sV fun v hv=>?_
    obtain⟨a,rfl⟩:=this v hv;rfl
   refine⟨_,ho,?_⟩;have h2:=List.Perm.map (fun v:Value=>match v with | .ref a=>a |_=>(0:Addr)) hperm;rw[eQ]at h2;have h3:as.map ((fun v:Value=>match v with | .ref a=>a |_=>(0:Addr)) ∘ Value.ref)=as:=by
    conv=>rhs;rw[←List.map_id as]
    rfl
   rwa[h3]at h2
  subst e1;have fF:=e2.length_eq;have vals:dD (as'.map V.ref) (as'.map Value.ref):=QS (by simp) fun i y u hy hu=>by
   rw[aK]at hy hu;obtain⟨a1,g1,rfl⟩:=aO.mp hy;obtain⟨a2,g2,rfl⟩:=aO.mp hu;rw[g1]at g2;cases g2;rfl
  exact⟨.ref (s.heap.objs.size+1),_,I.laid (a:=s.heap.objs.size+1) (o:=.lst (as'.map V.ref)) (t':=tk) kp (rW _) ⟨by rw[aE,dE];lia,_,e,vals,hS⟩,rfl,q _ _ (I.hok.fresh (rW _)) e2⟩
end
section
open PySem.W
end
section
open PySem.SeqAt
def SqH(b:Bool)(h:Heap)(l:Addr)(xs:Array Value):Prop:=match b with
 |true=>h.IsTuple l xs
 |false=>h.IsList l xs
def SqI(b:Bool)(h:Heap)(it l:Addr)(i:Nat):Prop:=match b with
 |true=>h.IsTupleIter it l i
 |false=>h.IsListIter it l i
theorem SqI.keep{b:Bool}(x:SqI b h it l i)(e:∀o,h.get? it=some o->h'.get? it=some o):SqI b h' it l i:=by
 cases b with
 |true=>obtain⟨o,ho,r⟩:=x;exact⟨o,e _ ho,r⟩
 |false=>obtain⟨o,ho,r⟩:=x;exact⟨o,e _ ho,r⟩
theorem SqH.keep{b:Bool}{xs:Array Value}(x:SqH b h l xs)(e:∀o,h.get? l=some o->h'.get? l=some o):SqH b h' l xs:=by
 cases b with
 |true=>obtain⟨o,ho,r⟩:=x;exact⟨o,e _ ho,r⟩
 |false=>obtain⟨o,ho,r⟩:=x;exact⟨o,e _ ho,r⟩
section
variable {b1 b2:Bool}
end
end
section
open PySem.W
section
variable {Kt:Type} [DecidableEq Kt] {knd:HeapKind prog w Kt}
def nN(knd:HeapKind prog w Kt)(h:Heap)(d:Addr)(xs:List (Kt×Addr×Value)):Prop:=
 ∃o es ep,h.get? d=some o/\o.ExactDict/\o.data=.dict es ep/\es.toList=xs.map (entryOfKey knd)/\(xs.map (·.1)).Nodup
theorem nN.full{xs:List (Kt×Addr×Value)}(x:nN knd h d xs)(hk:∀y∈xs,knd.is h y.1 y.2.1):h.DictOfH knd d xs:=by
 obtain⟨o,es,ep,h1,h2,h3,h4,h5⟩:=x;exact⟨o,es,ep,h1,h2,h3,h4,hk,h5⟩
theorem nN.of{xs:List (Kt×Addr×Value)}(x:h.DictOfH knd d xs):nN knd h d xs:=by
 obtain⟨o,es,ep,h1,h2,h3,h4,_,h5⟩:=x;exact⟨o,es,ep,h1,h2,h3,h4,h5⟩
theorem nN.at{xs:List (Kt×Addr×Value)}(x:nN knd h d xs)(e:∀u,h.get? d=some u->h'.get? d=some u):nN knd h' d xs:=by
 obtain⟨o,es,ep,h1,r⟩:=x;exact⟨o,es,ep,e _ h1,r⟩
theorem QZ{xs:List (Kt×Addr×Value)}(hn:(xs.map (·.1)).Nodup){k:Kt}{v:Value}(h:xs[i]?=some (k,a,v)):storedH (xs.take i) k a v=xs.take (i+1):=by
 obtain⟨il,ie⟩:=aC.mp h;have hno:atKey (xs.take i) k=none:=by
  unfold atKey;rw[pR,List.find?_eq_none];intro x hx;obtain⟨j,hj,e⟩:=dO hx;rw[bX]at hj;rw[GX]at e;intro hk;have hk:x.1=k:=by simpa using hk
  exact dJ.mp hn j i (by rw[aE];lia) (by rw[aE];lia) () (by simp[e,ie,hk])
 rw[GR hno,aM il,ie]
theorem AS{its:Array Value}{xs:List (Kt×Addr×Value)}{h0:Heap}(hu:knd.room A.in1)(hA:A.handled=none)(hdi:d≠it)(hl:h0.IsList l its)(hd0:∀u,h0.get? d≠some u)(hi0:∀u,h0.get? it≠some u)
 (mono:∀{h h':Heap}{k:Kt}{a:Addr},(∀b u,h.get? b=some u->h'.get? b=some u)->knd.is h k a->knd.is h' k a)
 (hn:(xs.map (·.1)).Nodup) (hsz:xs.length<=sizeLine) (eO:its.size=xs.length) (hp:∀(i:Nat)(k:Kt)(b:Addr)(v:Value),xs[i]?=some (k,b,v)->∃a:Addr,its[i]?=some (Value.ref a)/\IsTup h0 a #[.ref b,v]/\knd.is h0 k b):
 ∀(m i:Nat)(t:Tok)(s:Shared),xs.length-i=m->i<=xs.length->s.heap.IsListIter it l i->nN knd s.heap d (xs.take i)->(∀b u,h0.get? b=some u->s.heap.get? b=some u)->
 (∀h' t',(∀b u,h0.get? b=some u->h'.get? b=some u)->nN knd h' d xs->R (.ok (.ret .none)) {s with heap:=h',toks:=t'})->
 codeAny (model prog w) A (.builtin "dict.update.loop" ⟨[.ref d,.ref it,.int i t,.none],[]⟩) R s:=by
 have hall:∀x∈xs,knd.is h0 x.1 x.2.1:=fun x hx=>by
  obtain⟨i,hi⟩:=iU hx;obtain⟨a,_,_,h⟩:=hp i x.1 x.2.1 x.2.2 hi;exact h
 intro m
 induction m with
 |zero=>
  intro i t s hm hi hit hd hk hR;have hin:i=xs.length:=by lia
  subst hin;have fF:s.heap.IsList l its:=by obtain⟨o,ho,r⟩:=hl;exact⟨o,hk _ _ ho,r⟩
  refine tD F.entry_dul ?_;rw[oO F.plain_dul _];show wpAny _ A.in1 (pyNext (.ref it) >>= _) _ _ s;refine aF (DH (A:=A.in1) hA hit fF (by rw[i3];lia) fun h' he=>?_);rw[aS (aG _)]at hd;show wpAny _ A.in1 (Builtin.Dict.addKeywords d [] >>= _) _ _ _;refine aF (aR (aR (hR h' s.toks (fun b u hb=>he b u (fun z=>hi0 u (by rw[←z];exact hb)) (hk b u hb)) (hd.at fun u h=>he _ u hdi h))))
 |succ m ih=>
  intro i t s hm hi hit hd hk hR;have lS:i<xs.length:=by lia
  have fF:s.heap.IsList l its:=by obtain⟨o,ho,r⟩:=hl;exact⟨o,hk _ _ ho,r⟩
  obtain⟨a,ha,ht,hkey⟩:=hp i xs[i].1 xs[i].2.1 xs[i].2.2 (aA lS);refine tD F.entry_dul ?_;rw[oO F.plain_dul _];show wpAny _ A.in1 (pyNext (.ref it) >>= _) _ _ s;refine aF (sP (A:=A.in1) hit fF ha fun h1 hit1 hs1=>?_);have hk1:∀b u,h0.get? b=some u->h1.get? b=some u:=fun b u hb=>(hs1.2 b (fun z=>hi0 u (by rw[←z];exact hb))).trans (hk b u hb)
  have hd1:nN knd h1 d (xs.take i):=hd.at fun u h=>(hs1.2 d hdi).trans h
  obtain⟨ot,hot,hct,nt,hdt⟩:=ht;have hot1:=hk1 _ _ hot;have hT:({s with heap:=h1}:Shared).TypeIs (.ref a) "tuple":=⟨_,hot1,hct⟩
  refine aF (eV (aF ?_));refine wpAny_tryCatch ?_;unfold Builtin.Dict.pairItems;refine aF (lT hT ?_);rw[aL (by decide)];refine aF (wpAny_seqItems hot1 hdt (aR ?_));refine eV (wpAny_dictSet_heap (xs:=xs.take i) hu (mono hk1 hkey) (hd1.full fun y hy=>mono hk1 (hall y (iT hy))) (fun h2 hd2 hs2=>?_) (by rw[bX];lia));rw[QZ hn (show xs[i]?=some (xs[i].1,xs[i].2.1,xs[i].2.2)from aA lS)]at hd2;refine aR ⟨NZ F.plain_dul _,?_⟩;have hk2:∀b u,h0.get? b=some u->h2.get? b=some u:=fun b u hb=>(hs2.2 b (fun z=>hd0 u (by rw[←z];exact hb))).trans (hk1 b u hb)
  have hit2:h2.IsListIter it l (i+1):=by obtain⟨o,ho,r⟩:=hit1;exact⟨o,(hs2.2 _ (cJ hdi)).trans ho,r⟩
  exact ih (i+1) _ {s with heap:=h2,toks:=s.toks+knd.draws xs[i].1} () lS hit2 (.of hd2) hk2 hR
theorem qY{its:Array Value}{xs:List (Kt×Addr×Value)}(hu:knd.room A.in1.in1)(hA:A.handled=none)(hl:PlainL s.heap l its)(mono:∀{h h':Heap}{k:Kt}{a:Addr},(∀b u,h.get? b=some u->h'.get? b=some u)->knd.is h k a->knd.is h' k a)
 (hn:(xs.map (·.1)).Nodup) (hsz:xs.length<=sizeLine) (eO:its.size=xs.length) (hp:∀(i:Nat)(k:Kt)(b:Addr)(v:Value),xs[i]?=some (k,b,v)->∃a:Addr,its[i]?=some (Value.ref a)/\IsTup s.heap a #[.ref b,v]/\knd.is s.heap k b)
 (h:∀h' t',(∀b u,s.heap.get? b=some u->h'.get? b=some u)->nN knd h' s.heap.objs.size xs->Q (.ref s.heap.objs.size) {s with heap:=h',toks:=t'}):
 wpAny (model prog w) A (call (.type "dict") [.ref l]) Q E s:=by
 refine callType_codes (Q₁:=fun obj s₁=>obj=.ref s.heap.objs.size/\s₁={s with heap:=s.heap.push {cls:=.type "dict",data:=.dict #[]}}) F.kt_called_dict (iz _) F.entry_dict_init (kt_code_dict_new _ ⟨rfl,rfl⟩) ?_;rintro obj s₁ ⟨rfl,rfl⟩;have hnew:(s.heap.push {cls:=.type "dict",data:=.dict #[]}).DictOfH knd s.heap.objs.size []:=Heap.DictOfH.new s.heap;refine⟨hnew.typeIs,F.args_dict_init_2 _ _,?_⟩;obtain⟨ol,nl,hol,hlc,hld,hls⟩:=hl;have hol1:(s.heap.push {cls:=.type "dict",data:=.dict #[]}).get? l=some ol:=aP _ hol;have hT:({s with heap:=s.heap.push {cls:=.type "dict",data:=.dict #[]}}:Shared).TypeIs (.ref l) "list":=⟨_,hol1,hlc⟩
 unfold Builtin.«dict.__init__»;refine aF ?_;unfold Builtin.Dict.selfAndRest;refine aF (nW hnew.typeIs ?_);show wpAny _ _ (pure (s.heap.objs.size,[Value.ref l])) _ _ _;refine aR ?_;show wpAny _ _ (Builtin.Dict.updateFrom "dict.__init__" s.heap.objs.size (.ref l) [] .none) _ _ _;unfold Builtin.Dict.updateFrom;refine aF (lT hT ?_);rw[aL (by decide)];have hkd:∀b u,s.heap.get? b=some u->(s.heap.push {cls:=.type "dict",data:=.dict #[]}).get? b=some u:=fun b u e=>aP _ e
 have hd0:∀u,s.heap.get? s.heap.objs.size≠some u:=fun u z=>eE _ (bA z)
 obtain⟨hp0,g,d,t,os⟩:=s;dsimp only at *;generalize hp0.push {cls:=.type "dict",data:=.dict #[]}=h1 at hnew hol1 hT hkd⊢;generalize hp0.objs.size=D at hnew hd0 h⊢;obtain⟨c1,c2,c3,c4⟩:=ol;dsimp only at hlc hld hls;subst hlc hld hls;refine aF (SN (A:=A.in1.in1) hA hol1 fun h2 t2 hk2=>?_);rw[aL (by rfl)];refine aF (iO ?_);have hl2:h2.IsList l its:=⟨_,hk2 _ _ hol1,rfl,_,rfl⟩
 refine aF (rB hl2 ?_);refine aR ⟨NZ F.plain_dul _,?_⟩;have hd2:=(nN.of hnew).at fun u h=>hk2 _ u h
 have hit0:∀u,hp0.get? h2.objs.size≠some u:=fun u z=>eE _ (bA (hk2 _ _ (hkd _ _ z)))
 have hDi:D≠h2.objs.size:=fun z=>by
  obtain⟨o,_,_,ho,_⟩:=hd2;exact eE _ (by have :=bA ho;rw[z]at this;exact this)
 refine AS (h0:=hp0) (xs:=xs) (A:=A.in1) hu hA hDi ⟨_,hol,rfl,_,rfl⟩ hd0 hit0 mono hn hsz eO hp xs.length 0 _ _ () (cG _) ⟨_,bT _ rfl,rfl,rfl⟩ (hd2.at fun u h=>aP _ h) (fun b u hb=>aP _ (hk2 _ _ (hkd _ _ hb))) fun h' t' hk' hd'=>?_
 exact⟨rfl,h h' t' hk' hd'⟩
end
theorem HD{k:List eL}(e:∀b u,h.get? b=some u->h'.get? b=some u)(x:(tupleKind (yA P w)).is h k a):(tupleKind (yA P w)).is h' k a:=by
 obtain⟨o,its,n,h1,r⟩:=x;exact⟨o,its,n,e _ _ h1,r⟩
theorem JZ{H:Hp}{h:Heap}:∀(kvs:List (List eL×V))(as:List Addr),(∀(i:Nat)(k:List eL)(v:V),kvs[i]?=some (k,v)->∃(a b:Addr)(its:List Value),as[i]?=some a/\dD [.ref b,v] its/\IsTup h a its.toArray/\H b=some (.tup (k.map kV)))->
 ∃xs,KT H kvs xs/\∀(i:Nat)(k:List eL)(b:Addr)(v:Value),xs[i]?=some (k,b,v)->∃a,as[i]?=some a/\IsTup h a #[.ref b,v]/\H b=some (.tup (k.map kV))
 |[],as,hk=>⟨[],.nil,fun i k b v e=>by simp at e⟩
 |(k,v)::kvs,as,hk=>by
  obtain⟨a0,b0,its,h1,h2,h3,h4⟩:=hk 0 k v rfl;cases as with
  |nil=>cases h1
  |cons a as=>
  cases h1;obtain⟨xs,g1,g2⟩:=JZ kvs as fun i k v e=>hk (i+1) k v e
  obtain⟨u1,u2,rfl,r1,r2⟩:=vals2 h2;cases r1;refine⟨(k,b0,u2)::xs,.cons ⟨rfl,h4,r2⟩ g1,fun i k' b' v' e=>?_⟩;cases i with
  |zero=>cases e;exact⟨a0,rfl,h3,h4⟩
  |succ i=>exact g2 i k' b' v' e
theorem CM(hu:X.A.units+2<cLine):qL X (.type "dict") (fun xs H Q=>ag X.calm (pF xs fun x=>mL x fun p=>∃as:List Addr,dL X.K H p (as.map V.ref)/\∃kvs:List (List eL×V),as.length=kvs.length/\(kvs.map (·.1)).Nodup/\
 (∀(i:Nat)(k:List eL)(v:V),kvs[i]?=some (k,v)->∃a b,as[i]?=some a/\dN X.K H a [.ref b,v]/\H b=some (.tup (k.map kV)))/\∀l,H l=none->Q (.ref l) (upd H l (.dT kvs)))):=by
 intro aJ s σ H xs us Q I r h;replace h:=DB h;obtain⟨hc,h⟩:=h;replace h:=wD h;obtain⟨x0,rfl,h⟩:=h;replace h:=xJ h;obtain⟨p,rfl,as,hp,kvs,eO,hn,hk,q⟩:=h;obtain⟨u,rfl,ru⟩:=uI r;cases ru;obtain⟨its,rv,hl,hz⟩:=I.list hp;have hil:=rv.length;rw[aE]at hil hz;obtain⟨vs,g1,g2⟩:=JZ (H:=H) (h:=s.heap) kvs as fun i k v e=>by
  obtain⟨a,b,e1,e2,e3⟩:=hk i k v e;obtain⟨its,r2,t2,_⟩:=I.tuple e2;exact⟨a,b,its,e1,r2,t2,e3⟩
 have hvl:kvs.length=vs.length:=eW g1;have hks:vs.map (·.1)=kvs.map (·.1):=by
  clear hn g2 hvl hk eO q
  induction g1 with
  |nil=>rfl
  |cons h _ ih=>rw[cF,cF,ih,h.1]
 refine qY (knd:=tupleKind (yA X.prog X.w)) (xs:=vs) (show X.A.in1.in1.units<cLine from ?_) (I.ok.hd hc) hl HD (by rw[hks];exact hn) () (by rw[aQ];lia) (fun i k b v e=>?_) fun h' t' hk' hd'=>?_
 ·exact hu
 ·obtain⟨a,e1,e2,e3⟩:=g2 i k b v e;obtain⟨u,h1,h2⟩:=rv.get (i:=i) (x:=V.ref a) (by rw[aK,e1];rfl);cases h2;exact⟨a,by simpa using h1,e2,vC I.hok e3⟩
 ·obtain⟨o,es,ep,d1,d2,d3,d4,d5⟩:=hd';have hfr:=I.hok.fresh (aG s.heap.objs.size);refine⟨.ref s.heap.objs.size,_,I.laid (a:=s.heap.objs.size) (o:=.dT kvs) (t':=t') hk' (aG _) ⟨(),cV.mpr (cJ (bS I.big)),vs,?_,o,es,ep,d1,d2,d3,d4,d5⟩,rfl,q _ hfr⟩;exact KT.keeps g1 fun b ys e=>by rw[zJ (fun z=>by rw[z,hfr]at e;cases e)];exact e
structure NK(P:Program)(w:World)(K:W.Frag)(mg:Str->Option Value)(base:Heap)(k:Nat)(f:Addr)(ps:List Str)(sp:Sp):Prop where
 ex:∃fd,dI P w K mg base fY k f fd ps sp/\Binds K fd ps []/\W.keepIn K (.ref f)=true
def QY(i:Nat)(f:Addr)(tc:TE):TE:=fun σ H Q=>σ[i]?=some (some (.ref f))/\tc σ H Q
section
variable {k:Nat} {x:Str} {p pos:Pos} {t:TA}
theorem gR.at{k:Nat}(h:gR P w K mg base k x ps sp)(hm:mg x=some (.ref f)):NK P w K mg base k f ps sp:=by
 obtain⟨g,fd,F,b,kp,m⟩:=h.ex;rw[hm]at m;cases m;exact⟨fd,F,b,kp⟩
theorem AO(h:NK X.prog X.w X.K X.mg X.base k f ps sp)(hr:hZ k X.A)(ha:PA X (e::es) t)(hN:X.N[i]?=some x:=by rfl)(hv:Vis X.env.scope x:=by first |exact Or.inl rfl |exact Or.inr (Or.inl rfl) |exact Or.inr (Or.inr rfl))
 (hdb:(x==("__debug__":Str))=false:=by decide) (hcd:(x==("__classdict__":Str))=false:=by decide)
 (he:starEach (e::es) X.env=(false,eval e X.env)::starEach es X.env:=by rfl) (hpl:(backTo pos (starEach es X.env)).any (·.1)=false:=by rfl):PE X (.Call (.Name x p) (e::es) [] pos) (QY i f (OQ sp [] E0 t)):=by
 obtain⟨fd,F,b,kp⟩:=h.ex;intro aJ s σ H Q I h;obtain⟨h1,h2⟩:=h;refine iP (eN (RM hN hv hdb hcd aJ s σ H (fun v H'=>v=.ref f/\H'=H) I (by show asV _ _;rw[h1];exact⟨rfl,rfl⟩)) fun u s1 ⟨v,H1,I1,r,e1,e2⟩=>?_);subst e1 e2;obtain rfl:u=.ref f:=r;refine oI (h₀:=X.base) I.ok.mod.kin kp (eN (ha pos aJ s1 σ H1 _ I1 h2) fun us s2 ⟨vs,H2,I2,r,q⟩=>⟨I2.kIn,?_⟩) he hpl;exact EE F hr b .nil II I2 r q
theorem EK(hm:X.mg x=some (.ref f))(hg:Gl X x)(hd:(x==("__debug__":Str))=false:=by decide):PE X (.Name x pos) (tC (.ref f)):=IE hg hm rfl hd
end
set_option maxHeartbeats 8000000
end
section
open PySem.W
theorem LX{es:Array DictEntry}{v:Value}{Q:Option Value->Shared->Prop}(hit:s.heap.IsKeyIter it d i es.size ep)(hm:nY s.heap d es ep)(hi:i<es.size)(hx:es[i].key=v)
 (hQ:∀h',h'.IsKeyIter it d (i+1) es.size ep->Heap.SameBut it s.heap h'->Q (some v) {s with heap:=h'}):wpAny (model prog w) A (pyNext (.ref it)) Q E s:=by
 obtain⟨o,a1,a2,a3⟩:=id hit;obtain⟨od,b1,b2,b3⟩:=id hm;unfold pyNext;refine aF (NY (mP (name:=Str.ofString "__next__") hit.typeIs eT (gE eT hit.typeIs tE ?_ (sT _))));refine aF (aR ?_);refine aF ?_;refine aF ?_
 first |refine aF (iN hit.typeIs (aR ?_));skip |refine aF (mD hit.typeIs (aR ?_));skip
 refine aF (wpAny_fieldsOf a1 a3 ?_);have ow:Builtin.Dict_items.ownsTuple "dict_keyiterator"=false:=by decide
 simp only[ow,bV,dP];show wpAny _ _ (if(Value.ref d==Value.none)=true then _ else _) _ _ s;rw[aH (show¬((Value.ref d==Value.none)=true)from cI)];refine aF (aR ?_);refine aF (nG b1 b3 ?_);rw[aH (by simp)];refine aF (aR ?_);refine aF (wpAny_dictEpoch b1 b3 ?_);rw[aH (by simp)];refine aR ?_;simp only[show¬((i:Int)<0)from by lia,dP,cA,j6 hi];refine aF ?_
 first |refine aF (iN hit.typeIs (aR ?_));skip |refine aF (mD hit.typeIs (aR ?_));skip
 refine aF (wpAny_isOneOf_keyiter hit.typeIs ?_);show wpAny _ _ (setField (.ref it) 1 (rawInt ((i:Int)+1)) >>= _) _ _ s;refine aF (wpAny_setField a1 a3 (by simp) ?_);have it':(s.heap.update it (Obj.mapFields (·.setIfInBounds 1 (rawInt ((i:Int)+1))))).IsKeyIter it d (i+1) es.size ep:=⟨_,nX _ a1 (Obj.isFreed_of_fields (WS a3 _)),(Obj.cls_mapFields ..).trans a2,by rw[WS a3];simp[rawInt]⟩
 refine aF (eV ?_);refine aF (wpAny_isOneOf_keyiter (s:={s with heap:=s.heap.update it (Obj.mapFields (·.setIfInBounds 1 (rawInt ((i:Int)+1))))}) it'.typeIs ?_);show wpAny _ _ (pure es[i].key) _ _ _;exact aR (aR ⟨_,rfl,aR (hx▸hQ _ it' (lZ ..))⟩)
theorem RB{es:Array DictEntry}{Q:Option Value->Shared->Prop}(hh:A.handled=none)(hit:s.heap.IsKeyIter it d i es.size ep)(hm:nY s.heap d es ep)(hi:es.size<=i)
 (hQ:∀h',Heap.ExtBut it s.heap h'->Q none {s with heap:=h'}):wpAny (model prog w) A (pyNext (.ref it)) Q E s:=by
 obtain⟨o,a1,a2,a3⟩:=id hit;obtain⟨od,b1,b2,b3⟩:=id hm;unfold pyNext;refine aF (NY (mP (name:=Str.ofString "__next__") hit.typeIs eT (gE eT hit.typeIs tE ?_ (sT _))));refine aF (aR ?_);refine aF ?_;refine aF ?_
 first |refine aF (iN hit.typeIs (aR ?_));skip |refine aF (mD hit.typeIs (aR ?_));skip
 refine aF (wpAny_fieldsOf a1 a3 ?_);have ow:Builtin.Dict_items.ownsTuple "dict_keyiterator"=false:=by decide
 simp only[ow,bV,dP];show wpAny _ _ (if(Value.ref d==Value.none)=true then _ else _) _ _ s;rw[aH (show¬((Value.ref d==Value.none)=true)from cI)];refine aF (aR ?_);refine aF (nG b1 b3 ?_);rw[aH (by simp)];refine aF (aR ?_);refine aF (wpAny_dictEpoch b1 b3 ?_);rw[aH (by simp)];refine aR ?_;simp only[show¬((i:Int)<0)from by lia,dP,cA,Array.getElem?_eq_none hi];refine aF ?_
 first |refine aF (iN hit.typeIs (aR ?_));skip |refine aF (mD hit.typeIs (aR ?_));skip
 show wpAny _ _ (setField (.ref it) 0 .none >>= _) _ _ s;refine aF (wpAny_setField a1 a3 (by simp) ?_);show wpAny _ _ (newExc (.type "StopIteration") [] >>= _) _ _ _;refine aF ?_;simp only[newExc,newTuple];refine aF (eS ?_ (by size_fits));refine aF (m:=firstArgMember _ _) (wpAny_of_eq (a:=Value.none) (by first |rfl |(simp only[firstArgMember];rfl)) ?_);refine eS ?_ (by size_fits);simp only[raiseNew];refine aF (wpAny_handled ?_);rw[show A.in1.handled=none from hh];refine aF (aR (wpAny_throw ?_));refine aF (wpAny_isInstance (T:="StopIteration") (b:=true) ⟨_,bT _ rfl,rfl⟩ isSubtype_stop ?_);exact aR (hQ _ (((lZ ..).extBut.push _).push _))
theorem EH(hh:A.handled=none)(I d:Addr)(lL:d≠I)(es:Array DictEntry)(ep:Nat):Walks prog w A I [I,d] [I] es.size (fun i v=>∃e,es[i]?=some e/\e.key=v) (fun i h=>h.IsKeyIter I d i es.size ep/\nY h d es ep) where
 sub:=fun b hb=>by simp at hb;simp[hb]
 frame:=fun _ _ _ st hk=>⟨st.1.at fun o e=>hk I (by simp) o e,nY.at' st.2 fun o e=>hk d (by simp) o e⟩
 item:=fun i s Q E hi st hQ=>by
  refine LX st.1 st.2 hi rfl fun h' it' fC=>?_
  exact hQ es[i].key h' s.toks ⟨es[i],j6 hi,rfl⟩ ⟨it',nY.at' st.2 fun o e=>fC.extBut d o lL e⟩ fun b o hb e=>fC.extBut b o (fun h=>hb (by simp[h])) e
 done:=fun s Q E st hQ=>RB hh st.1 st.2 (aG _) fun h' he'=>hQ h' s.toks fun b o hb e=>he' b o (fun h=>hb (by simp[h])) e
 self:=fun _ _ _ _ st hQ=>wpAny_pyIter_keyiter st.1 hQ
theorem LW{es:Array DictEntry}(hd:(d==sysModules)=false)(hm:nY s.heap d es ep)
 (hQ:Q (.ref s.heap.objs.size) {s with heap:=s.heap.push {cls:=.type "dict_keyiterator",data:=.fields #[.ref d,.int 0 0,.int es.size 0,.int ep 0]}}):wpAny (model prog w) A (pyIter (.ref d)) Q E s:=by
 obtain⟨o,b1,b2,b3⟩:=id hm;have hT:=hm.typeIs;refine wpAny_pyIter_slot hT F.slot_dict_iter (gE F.slot_dict_iter hT F.entry_dict_iter ?_ (F.args_dict_iter_1 _));unfold Builtin.«dict.__iter__»;refine aF ?_;unfold Builtin.Dict.dictSlotNone;refine aF (nW hT ?_);show wpAny _ _ (pure (Value.ref d)) _ _ s;refine aR ?_;show wpAny _ _ (Builtin.Dict.showsAll d >>= _) _ _ s;unfold Builtin.Dict.showsAll;rw[aH (by rw[hd];exact cI)];refine aF (aR ?_);refine aF (nG b1 b3 ?_);refine aF (wpAny_dictEpoch b1 b3 ?_);refine aF (eS (aR ⟨_,rfl,"dict_keyiterator",_,⟨_,bT _ rfl,rfl⟩,eT.lookup,?_⟩));simpa[rawInt]using hQ
theorem RA{es:Array DictEntry}(lo:(d==sysModules)=false):KdlSrc prog w "dict" d d es.size (fun i v=>∃e,es[i]?=some e/\e.key=v) (fun h=>nY h d es ep) where
 type:=fun _ hm=>hm.typeIs
 there:=fun _ hm=>⟨hm.lt,hm.lt⟩
 keep:=fun _ _ hm hk=>hm.at' fun o e=>hk d (.inl rfl) o e
 notList:=by decide
 notTuple:=by decide
 hint:=fun _ _ _ _ hm hq=>kdl_hint_dict hm.typeIs hq
 iter:=fun _ _ hh hm=>⟨_,_,(fun _ _ hq=>LW lo hm hq),EH hh _ d (bS hm.lt) es ep,⟨⟨_,bT _ rfl,rfl,rfl⟩,hm.at' fun o e=>aP _ e⟩⟩
end
section
open PySem.W
abbrev XE:=List eL×Addr×V
abbrev GJ:List XE->List (List eL×Addr×Value)->Prop:=Paired fun p q=>p.1=q.1/\p.2.1=q.2.1/\RelV p.2.2 q.2.2
def WP(P:Program)(w:World)(h:Heap)(a:Addr)(kvs:List XE):Prop:=∃xs,GJ kvs xs/\∃o es ep,h.get? a=some o/\o.ExactDict/\o.data=.dict es ep/\es.toList=xs.map (entryOfKey (tupleKind (yA P w)))/\(xs.map (·.1)).Nodup
def DF(P:Program)(w:World)(a:Addr)(kvs:List XE):HO:=.ext fun h=>WP P w h a kvs
structure rS(P:Program)(w:World)(K:W.Frag)(H:Hp)(a:Addr)(kvs:List XE):Prop where
 is:H a=some (DF P w a kvs)
 few:kvs.length<=1000
 lo:(a==sysModules)=false
 keys:∀x∈kvs,dN K H x.2.1 (x.1.map kV)
def kS(kvs:List XE)(k:List eL):Option V:=(kvs.find? fun x=>decide (x.1=k)).map (·.2.2)
theorem KO{kvs:List XE}(x:WP P w h a kvs):fA P w H h a (DF P w a kvs):=by
 refine⟨x,?_,fun h1 h2 y hk=>?_⟩
 ·obtain⟨_,_,o,_,_,e,_⟩:=x;exact⟨o,e⟩
 ·obtain⟨xs,p,o,es,ep,e,r⟩:=y;exact⟨xs,p,o,es,ep,hk _ e,r⟩
theorem GJ.val:∀{kvs:List XE}{xs:List (List eL×Addr×Value)},GJ kvs xs->∀k:List eL,mN (kS kvs k) ((atKey xs k).map (·.2))
 |_,_,.nil,k=>True.intro
 |_,_,@Paired.cons _ _ _ p q ps qs h t,k=>by
  obtain⟨h1,_,h2⟩:=h;by_cases e:p.1=k
  ·have e':q.1=k:=h1.symm.trans e;have b:atKey (q::qs) k=some q.2:=by simp[atKey,eR,e']
   have b2:kS (p::ps) k=some p.2.2:=by simp[kS,eR,e]
   rw[b2,b];exact h2
  ·have e':¬q.1=k:=fun z=>e (h1.trans z)
   have b:atKey (q::qs) k=atKey qs k:=by simp[atKey,eR,e']
   have b2:kS (p::ps) k=kS ps k:=by simp[kS,eR,e]
   rw[b2,b];exact GJ.val t k
theorem GJ.mem:∀{kvs:List XE}{xs:List (List eL×Addr×Value)},GJ kvs xs->∀x∈xs,∃p∈kvs,p.1=x.1/\p.2.1=x.2.1
 |_,_,.nil,x,hx=>nomatch hx
 |_,_,@Paired.cons _ _ _ p q ps qs h t,x,hx=>by
  rcases bJ.mp hx with rfl |hx
  ·exact⟨p,bF,h.1,h.2.1⟩
  ·obtain⟨p',h1,h2⟩:=GJ.mem t x hx;exact⟨p',bE _ h1,h2⟩
theorem GJ.at:∀{kvs:List XE}{xs:List (List eL×Addr×Value)},GJ kvs xs->∀{i:Nat}{p:XE}{q:List eL×Addr×Value},kvs[i]?=some p->xs[i]?=some q->p.2.1=q.2.1
 |_,_,.nil,i,p,q,h,_=>by simp at h
 |_,_,.cons hq t,0,p,q,h1,h2=>by
  simp only[pN,GU]at h1 h2;subst h1 h2;exact hq.2.1
 |_,_,.cons hq t,i+1,p,q,h1,h2=>GJ.at t (by simpa using h1) (by simpa using h2)
section
variable {kvs:List XE} {k:List eL}
theorem wO(I:Inv X aJ σ H s)(h:dN X.K H b (k.map kV)):(tupleKind (yA X.prog X.w)).is s.heap k b:=by
 obtain⟨its,r,⟨o,h1,h2,n,h3⟩,_⟩:=I.tuple h;exact⟨o,its.toArray,n,h1,h2,h3,by simpa using ZF r⟩
theorem ZT(I:Inv X aJ σ H s)(d:rS X.prog X.w X.K H a kvs):∃xs,GJ kvs xs/\s.heap.DictOfH (tupleKind (yA X.prog X.w)) a xs:=by
 obtain⟨⟨xs,pr,o,es,ep,h1,h2,h3,h4,h5⟩,_,_⟩:=(show fA X.prog X.w H s.heap a (DF X.prog X.w a kvs)from I.hok a _ d.is)
 refine⟨xs,pr,o,es,ep,h1,h2,h3,h4,fun x hx=>?_,h5⟩;obtain⟨p,hp,e1,e2⟩:=pr.mem x hx;have :=wO I (d.keys p hp);rw[e1,e2]at this;exact this
end
def rNiX(P:Program)(w:World)(K:W.Frag):R2:=fun x y H Q=>∃a kvs b k,y=.ref a/\rS P w K H a kvs/\x=.ref b/\dN K H b (k.map kV)/\Q (.bl (!(kS kvs k).isSome)) H
theorem MC(hu:X.A.units+1<cLine):oQ X (compareOp .NotIn) (rNiX X.prog X.w X.K):=by
 intro aJ s σ H x y v u Q I rx ry h;obtain⟨a,kvs,b,k,rfl,d,rfl,hk,q⟩:=h;cases rx;cases ry;obtain⟨xs,pr,dd⟩:=ZT I d;refine wpAny_notIn_heap (eG hu) (wO I hk) d.lo dd ?_;have e:=(pr.val k).isSome_eq;rw[gJ]at e;rw[←e];exact⟨.bl _,H,I.tok _,rfl,q⟩
theorem QJ:qL X (.builtin "len") (fun xs H Q=>pF xs fun x=>mL x fun a=>∃kvs,rS X.prog X.w X.K H a kvs/\Q (.int kvs.length) H):=by
 intro aJ s σ H xs us Q I r h;replace h:=wD h;obtain⟨x,rfl,h⟩:=h;replace h:=xJ h;obtain⟨a,rfl,kvs,d,q⟩:=h;obtain⟨u,rfl,ru⟩:=uI r;cases ru;obtain⟨xs,pr,oo,es,ep,o1,o2,o3,o4,o5,o6⟩:=ZT I d;have raw:nY s.heap a es ep:=⟨oo,o1,o2,o3⟩
 have eO:es.size=kvs.length:=by
  rw[←bR,o4,aE];exact(eW pr).symm
 have hs:sizeLine=16777216:=dE;have hz:=d.few;refine call_len_slot (n:=(es.size:Int)) raw.typeIs F.slot_dict_len (fun Q' hq=>sQ F.slot_dict_len raw.typeIs F.entry_dict_len (F.args_dict_len_1 _) (ce a d.lo) ⟨es,ep,raw,hq⟩) () () ?_;rw[eO];exact⟨.int kvs.length,H,(I.tok _),⟨_,rfl⟩,q⟩
def tDGX(P:Program)(w:World)(K:W.Frag)(td ty:TE):TE:=fun σ H Q=>td σ H fun x H1=>ty σ H1 fun y H2=>∃a kvs b k v,x=.ref a/\rS P w K H2 a kvs/\y=.ref b/\dN K H2 b (k.map kV)/\kS kvs k=some v/\Q v H2
theorem RQ{i:Expr}{pos:Pos}{td ty:TE}(hu:X.A.units+1<cLine)(ho:PE X o td)(hi:PE X i ty)(hs:qo i):PE X (.Subscript o i pos) (tDGX X.prog X.w X.K td ty):=by
 intro aJ s σ H Q I h;refine HH jz.lookup hs (eN (ho aJ s σ H _ I h) fun u s1 ⟨x,H1,I1,rx,q1⟩=>eN (hi aJ s1 σ H1 _ I1 q1) fun iv s2 ⟨y,H2,I2,ry,q2⟩=>?_);obtain⟨a,kvs,b,k,v,ex,d,ey,hk,hv,q2⟩:=q2;subst ex ey;cases rx;cases ry;obtain⟨xs,pr,dd⟩:=ZT I2 d;obtain⟨w',hw,rw'⟩:=mN.some_of (v:=v) (o:=(atKey xs k).map (·.2)) (by rw[←hv];exact pr.val k);obtain⟨p,hp,mU⟩:=aO.mp hw;refine⟨dd.typeIs,wpAny_getItem_heap (eG hu) (wO I2 hk) dd hp ?_⟩;rw[mU];exact⟨v,H2,I2.tok _,rw',q2⟩
def sDPX(P:Program)(w:World)(K:W.Frag)(td ty tv:TE):TS:=fun D σ H=>tv σ H fun v H1=>td σ H1 fun x H2=>ty σ H2 fun y H3=>∃a kvs b k,x=.ref a/\rS P w K H3 a kvs/\y=.ref b/\dN K H3 b (k.map kV)/\kS kvs k=none/\D.nx σ (upd H3 a (DF P w a (kvs++[(k,b,v)])))
theorem GJ.snoc{kvs:List XE}{xs:List (List eL×Addr×Value)}(h:GJ kvs xs){k:List eL}(r:RelV v u):GJ (kvs++[(k,b,v)]) (xs++[(k,b,u)]):=Paired.snoc h ⟨rfl,rfl,r⟩
theorem RI{i value:Expr}{pos:Pos}{td ty tv:TE}(hu:X.A.units+1<cLine)(ho:PE X o td)(hi:PE X i ty)(hv:PE X value tv)(hs:swapsWith value (some (.Subscript o i pos')) pos.line X.env=pure false):
 PS X (.Assign [.Subscript o i pos'] value pos) (sDPX X.prog X.w X.K td ty tv):=by
 intro aJ s σ H D I h;refine wpAny_Assign_Subscript (eN (hv aJ s σ H _ I h) fun r s1 ⟨v,H1,I1,rv,q1⟩=>eN (ho aJ s1 σ H1 _ I1 q1) fun u s2 ⟨x,H2,I2,rx,q2⟩=>eN (hi aJ s2 σ H2 _ I2 q2) fun iv s3 ⟨y,H3,I3,ry,q3⟩=>?_) hs;obtain⟨a,kvs,b,k,ex,d,ey,hk,hn,q3⟩:=q3;subst ex ey;cases rx;cases ry;obtain⟨xs,pr,dd⟩:=ZT I3 d;have hz:xs.length<=sizeLine:=by
  rw[←eW pr,dE];have :=d.few;lia
 refine wpAny_setItem_heap (hsz:=hz) (eG hu) (wO I3 hk) dd fun h' dd' fC=>?_
 have hno:atKey xs k=none:=by
  have e:=(pr.val k).isSome_eq;rw[hn,gJ]at e;cases c:atKey xs k with
  |none=>rfl
  |some _=>rw[c]at e;cases e
 rw[GR hno]at dd';obtain⟨oo,es,ep,hq,h2,h3,h4,_,h5⟩:=dd';exact⟨σ,_,vW I3 (by rw[d.is];exact True.intro) fC ⟨oo,hq⟩ (KO ⟨_,pr.snoc rv,oo,es,ep,hq,h2,h3,h4,h5⟩),q3⟩
def tLX(P:Program)(w:World)(K:W.Frag)(to:TE):TE:=fun σ H Q=>to σ H fun x H1=>∃a kvs,x=.ref a/\rS P w K H1 a kvs/\∀l,H1 l=none->Q (.ref l) (upd H1 l (.lst (kvs.map fun x=>V.ref x.2.1)))
theorem RN{to:TE}{p pos:Pos}(hg:Gl X "list")(hm:X.mg "list"=none)(hc:X.calm=true)(ho:PE X o to)
 (he:starEach [o] X.env=[(false,eval o X.env)]:=by rfl):PE X (.Call (.Name "list" p) [o] [] pos) (tLX X.prog X.w X.K to):=by
 intro aJ s σ H Q I h;refine iP (wN I hg hm VI ?_ (by decide) (by decide));refine fS ?_ he (by rfl);rw[he];show wpAny _ _ (spliced [(false,_)]) _ _ s;refine gQ (eN (ho aJ s σ H _ I h) fun v s1 ⟨x,H1,I1,r1,a,kvs,e,d,q⟩=>nK ?_);subst e;cases r1;obtain⟨xs,pr,oo,es,ep,o1,o2,o3,o4,o5,o6⟩:=ZT I1 d;have raw:nY s1.heap a es ep:=⟨oo,o1,o2,o3⟩
 have eO:es.size=kvs.length:=by
  rw[←bR,o4,aE];exact(eW pr).symm
 have hs:sizeLine=16777216:=dE;have hz:=d.few;refine kdl_call (RA (d:=a) (es:=es) (ep:=ep) d.lo) (I.ok.hd hc) raw () fun h' tk acc c' hk hS hacc=>?_
 have vals:dD (kvs.map fun x=>V.ref x.2.1) acc.toList:=by
  have hal:acc.toList.length=es.size:=by rw[bR];exact hacc.1
  refine QS (by rw[aE,hal,eO]) fun i y u hy hu=>?_
  rw[cZ]at hu;obtain⟨en,e1,e2⟩:=hacc.2 i u hu;rw[←cZ,o4,aK]at e1;obtain⟨qx,q1,q2⟩:=aO.mp e1;rw[aK]at hy;obtain⟨px,p1,p2⟩:=aO.mp hy;have :=pr.at p1 q1;rw[←e2,←q2,←p2];show Value.ref qx.2.1=Value.ref px.2.1;rw[this]
 exact⟨.ref _,_,I1.laid (a:=_) (o:=.lst (kvs.map fun x=>V.ref x.2.1)) (t':=tk) hk (aG _) ⟨by rw[aE];lia,acc.toList,c',vals,by rw[sD];exact hS⟩,rfl,q _ (I1.hok.fresh (aG _))⟩
def tDX1(P:Program)(w:World)(K:W.Frag)(tk tv:TE):TE:=fun σ H Q=>∀p,H p=none->(p==sysModules)=false->tk σ (upd H p (DF P w p [])) fun x H1=>tv σ H1 fun y H2=>∃b k,x=.ref b/\dN K H2 b (k.map kV)/\H2 p=some (DF P w p [])/\Q (.ref p) (upd H2 p (DF P w p [(k,b,y)]))
theorem RP{ke ve:Expr}{pos:Pos}{tk tv:TE}(hu:X.A.units+1<cLine)(hk:PE X ke tk)(hv:PE X ve tv):PE X (.Dict [some ke] [ve] pos) (tDX1 X.prog X.w X.K tk tv):=by
 intro aJ s σ H Q I q;have hn:=I.hok.fresh (aG s.heap.objs.size);have hlo:(s.heap.objs.size==sysModules)=false:=cV.mpr (cJ (bS I.big));have raw0:WP X.prog X.w (s.heap.push {cls:=.type "dict",data:=.dict #[]}) s.heap.objs.size []:=⟨[],.nil,_,#[],0,bT _ rfl,⟨rfl,rfl,rfl⟩,rfl,rfl,List.nodup_nil⟩
 have I1:=I.laid (a:=s.heap.objs.size) (o:=DF X.prog X.w s.heap.objs.size []) (h':=s.heap.push {cls:=.type "dict",data:=.dict #[]}) (t':=s.toks) (fun _ _ q=>aP _ q) (aG _) (KO raw0);refine wpAny_Dict_any rfl rfl (by simp) (by show 1<=15;decide) (pairTrees_cons_walk (eN (hk aJ _ σ _ _ I1 (q _ hn hlo)) fun u s1 ⟨x,H1,I2,rx,q1⟩=>eN (hv aJ s1 σ H1 _ I2 q1) fun w2 s2 ⟨y,H2,I3,ry,b,k,ex,hb,hp,q2⟩=>pairTrees_nil_walk ?_));subst ex;cases rx;have d:rS X.prog X.w X.K H2 s.heap.objs.size []:=⟨hp,by decide,hlo,fun x hx=>nomatch hx⟩
 obtain⟨xs,pr,dd⟩:=ZT I3 d;cases pr;unfold storeAll;rw[List.forIn_cons];refine aF (aF (wpAny_dictSet_heap (knd:=tupleKind (yA X.prog X.w)) (show X.A.units<cLine by lia) (wO I3 hb) dd (fun h' dd' fC=>aR ?_) (by rw[dE];decide)));obtain⟨oo,es,ep,hq,h2,h3,h4,_,h5⟩:=dd';show wpAny _ _ (forIn [] PUnit.unit _) _ _ _;rw[List.forIn_nil];exact aR ⟨.ref s.heap.objs.size,_,vW I3 (by rw[hp];exact True.intro) fC ⟨oo,hq⟩ (KO ⟨_,Paired.cons ⟨rfl,rfl,ry⟩ .nil,oo,es,ep,hq,h2,h3,h4,h5⟩),rfl,q2⟩
end
section
open PySem.W
theorem JY{h:Heap}:∀(kvs:List XE)(as:List Addr),(∀(i:Nat)(x:XE),kvs[i]?=some x->∃(a:Addr)(its:List Value),as[i]?=some a/\dD [.ref x.2.1,x.2.2] its/\IsTup h a its.toArray)->
 ∃xs,GJ kvs xs/\∀(i:Nat)(k:List eL)(b:Addr)(v:Value),xs[i]?=some (k,b,v)->∃a,as[i]?=some a/\IsTup h a #[.ref b,v]/\∃x,kvs[i]?=some x/\x.1=k/\x.2.1=b
 |[],as,hk=>⟨[],.nil,fun i k b v e=>by simp at e⟩
 |x::kvs,as,hk=>by
  obtain⟨a0,its,h1,h2,h3⟩:=hk 0 x rfl;cases as with
  |nil=>cases h1
  |cons a as=>
  cases h1;obtain⟨xs,g1,g2⟩:=JY kvs as fun i y e=>hk (i+1) y e
  obtain⟨u1,u2,rfl,r1,r2⟩:=vals2 h2;cases r1;refine⟨(x.1,x.2.1,u2)::xs,.cons ⟨rfl,rfl,r2⟩ g1,fun i k' b' v' e=>?_⟩;cases i with
  |zero=>cases e;exact⟨a0,rfl,h3,x,rfl,rfl,rfl⟩
  |succ i=>exact g2 i k' b' v' e
theorem CL(hu:X.A.units+2<cLine):qL X (.type "dict") (fun xs H Q=>ag X.calm (pF xs fun x=>mL x fun p=>∃as:List Addr,dL X.K H p (as.map V.ref)/\∃kvs:List XE,as.length=kvs.length/\(kvs.map (·.1)).Nodup/\
 (∀(i:Nat)(x:XE),kvs[i]?=some x->∃a,as[i]?=some a/\dN X.K H a [.ref x.2.1,x.2.2]/\dN X.K H x.2.1 (x.1.map kV))/\∀l,H l=none->(l==sysModules)=false->Q (.ref l) (upd H l (DF X.prog X.w l kvs)))):=by
 intro aJ s σ H xs us Q I r h;replace h:=DB h;obtain⟨hc,h⟩:=h;replace h:=wD h;obtain⟨x0,rfl,h⟩:=h;replace h:=xJ h;obtain⟨p,rfl,as,hp,kvs,eO,hn,hk,q⟩:=h;obtain⟨u,rfl,ru⟩:=uI r;cases ru;obtain⟨its,rv,hl,hz⟩:=I.list hp;have hil:=rv.length;rw[aE]at hil hz;obtain⟨vs,g1,g2⟩:=JY (h:=s.heap) kvs as fun i x e=>by
  obtain⟨a,e1,e2,e3⟩:=hk i x e;obtain⟨its,r2,t2,_⟩:=I.tuple e2;exact⟨a,its,e1,r2,t2⟩
 have hvl:kvs.length=vs.length:=eW g1;have hks:vs.map (·.1)=kvs.map (·.1):=by
  clear hn g2 hvl hk eO q
  induction g1 with
  |nil=>rfl
  |cons h _ ih=>rw[cF,cF,ih,h.1]
 refine qY (knd:=tupleKind (yA X.prog X.w)) (xs:=vs) (show X.A.in1.in1.units<cLine from ?_) (I.ok.hd hc) hl HD (by rw[hks];exact hn) () (by rw[aQ];lia) (fun i k b v e=>?_) fun h' t' hk' hd'=>?_
 ·exact hu
 ·obtain⟨a,e1,e2,x,e3,rfl,rfl⟩:=g2 i k b v e;obtain⟨u,h1,h2⟩:=rv.get (i:=i) (x:=V.ref a) (by rw[aK,e1];rfl);cases h2;obtain⟨_,_,_,e6⟩:=hk i x e3;exact⟨a,by simpa using h1,e2,wO I e6⟩
 ·obtain⟨o,es,ep,d1,d2,d3,d4,d5⟩:=hd';have hfr:=I.hok.fresh (aG s.heap.objs.size);exact⟨.ref s.heap.objs.size,_,I.laid (a:=s.heap.objs.size) (o:=DF X.prog X.w s.heap.objs.size kvs) (t':=t') hk' (aG _) (KO ⟨vs,g1,o,es,ep,d1,d2,d3,d4,d5⟩),rfl,q _ hfr (cV.mpr (cJ (bS I.big)))⟩
def OO(P:Program)(w:World)(K:W.Frag)(td ty:TE):TE:=fun σ H Q=>td σ H fun x H1=>∃a kvs0,x=.ref a/\rS P w K H1 a kvs0/\ty σ H1 fun y H2=>∃kvs b k,rS P w K H2 a kvs/\y=.ref b/\dN K H2 b (k.map kV)/\Q ((kS kvs k).getD .non) H2
theorem de{iR:Pos}{td ty:TE}(hu:X.A.units+1<cLine)(ho:PE X o td)(he:PE X e ty)(m:M1 X o "get" lV e iR):PE X (.Call (.Attribute o "get" lV) [e] [] iR) (OO X.prog X.w X.K td ty):=by
 intro aJ s σ H Q I h;refine ix m.base m.few m.line pK iL F.type_dict_get (eN (ho aJ s σ H _ I h) fun u s1 ⟨x,H1,I1,rx,q1⟩=>?_);obtain⟨a,kvs0,ex,d0,q1⟩:=q1;subst ex;obtain rfl:u=Value.ref a:=rx;obtain⟨xs0,pr0,dd0⟩:=ZT I1 d0;refine⟨dd0.typeIs,(fun oo ho=>by cases ho;obtain⟨o',_,_,h1,h2,h3,_⟩:=dd0;exact⟨o',h1,h2.2.1⟩),?_⟩;rw[m.trees];refine iQ rfl (oK (gQ (eN (he aJ s1 σ H1 _ I1 q1) fun iv s2 ⟨y,H2,I2,ry,q2⟩=>nK ?_)));obtain⟨kvs,b,k,d,ey,hk,q2⟩:=q2;subst ey;cases (show iv=Value.ref b from ry);obtain⟨xs,pr,dd⟩:=ZT I2 d;exact sQ iL dd.typeIs pQ (F.args_dict_get_2 _ _) (meetsH_dict_get (tupleKind (yA X.prog X.w)) a b d.lo) ⟨eG hu,k,_,wO I2 hk,dd,⟨(kS kvs k).getD .non,H2,I2.tok _,(pr.val k).getD (d:=.non) rfl,q2⟩⟩
set_option autoImplicit false
end
abbrev SM:=StateT SortSt Sem
def gq(l:Bool)(key:Keyed)(arr:Array Keyed)(base i:Nat):SM (Option Bool):=
 elem' arr (base+i) >>= fun x=>if l=true then lt' x key else lt' key x >>= fun o=>pure (Option.map (fun x=>!x) o)
def TW(be:Nat->SM (Option Bool))(n lo hi:Nat):SM (Option Nat):=
 (forIn [:n] ((none,lo,hi):Option (Option Nat)×Nat×Nat) fun _ c=>
   if c.2.1≥c.2.2 then pure (ForInStep.done (none,c.2.1,c.2.2))
   else be (c.2.1+(c.2.2-c.2.1)/2) >>= fun o=>match o with
    |some b=>if b=true then pure (ForInStep.yield (none,c.2.1+(c.2.2-c.2.1)/2+1,c.2.2))else pure (ForInStep.yield (none,c.2.1,c.2.1+(c.2.2-c.2.1)/2))
    |_=>pure (ForInStep.done (some none,c.2.1,c.2.2))) >>= fun c=>match c.1 with
  |some r=>pure r
  |none=>pure (some c.2.2)
def CB(be:Nat->SM (Option Bool))(n mx:Nat)(f:Bool->Bool)(g:Nat->Nat):SM (Option (Option Nat)×Nat×Nat):=
 forIn [:n] ((none,0,1):Option (Option Nat)×Nat×Nat) fun _ c=>
  if c.2.2≥mx then pure (ForInStep.done (none,c.2.1,c.2.2))
  else be (g c.2.2) >>= fun o=>match o with
   |some b=>if f b=true then pure (ForInStep.done (none,c.2.1,c.2.2))else pure (ForInStep.yield (none,c.2.2,2*c.2.2+1))
   |_=>pure (ForInStep.done (some none,c.2.1,c.2.2))
def jO:Bool->Keyed->Array Keyed->Nat->Nat->Nat->SM (Option Nat):=sortPriv% PySem.Builtin.gallop
theorem FU(l:Bool)(key:Keyed)(arr:Array Keyed)(base n hint:Nat):jO l key arr base n hint=
 (gq l key arr base hint >>= fun o=>match o with
  |some right=>if right=true then CB (gq l key arr base) n (n-hint) (fun b=>!b) (fun o=>hint+o) >>= fun c=>(match c.1 with
   |some r=>pure r
   |none=>TW (gq l key arr base) n (hint+c.2.1+1) (hint+min c.2.2 (n-hint)))
   else CB (gq l key arr base) n (hint+1) (fun b=>b) (fun o=>hint-o) >>= fun c=>(match c.1 with
    |some r=>pure r
    |none=>TW (gq l key arr base) n (hint+1-min c.2.2 (hint+1)) (hint-c.2.1))
  |_=>pure none):=by
 unfold CB TW gq;show(_ >>= _:SM _)=_
 congr 1
 funext o
 cases o with
 |none=>rfl
 |some right=>
  cases right
  ·show(_ >>= _:SM _)=_;simp only[bV,dP]
   congr 1
   funext c
   obtain⟨r,u,v⟩:=c;cases r
   ·show(_ >>= _:SM _)=_
    congr 1
    funext c
    obtain⟨r,u,v⟩:=c;cases r<;>rfl
   ·rfl
  ·show(_ >>= _:SM _)=_;simp only[if_true]
   congr 1
   funext c
   obtain⟨r,u,v⟩:=c;cases r
   ·show(_ >>= _:SM _)=_
    congr 1
    funext c
    obtain⟨r,u,v⟩:=c;cases r<;>rfl
   ·rfl
section
variable {be:Nat->SM (Option Bool)} {P:Nat->Bool}
theorem KF{lo hi:Nat}{Q:Option Nat->SortSt->Prop}(hbe:∀i,i<n->∀Q:Option Bool->SortSt->Prop,Q (some (P i)) st->wpS M A E s (be i) Q st)
 (hm:∀i j,i<=j->j<n->P j=true->P i=true) (h1:lo<=hi) (h2:hi<=n) (hlo:∀i,i<lo->P i=true) (hhi:∀i,hi<=i->i<n->P i=false)
 (h:∀r,r<=n->(∀i,i<r->P i=true)->(∀i,r<=i->i<n->P i=false)->Q (some r) st):wpS M A E s (TW be n lo hi) Q st:=by
 unfold TW;refine aY (fR (eI
  (I:=fun x c cO=>cO=st/\∃l r,c=(none,l,r)/\l<=r/\r<=n/\r-l<=n-x/\(∀i,i<l->P i=true)/\(∀i,r<=i->i<n->P i=false))
  (Q:=fun c cO=>cO=st/\∃l r,c=(none,l,r)/\r<=n/\(∀i,i<r->P i=true)/\(∀i,r<=i->i<n->P i=false)) ?step ?fin ?init) ?post)
 case init=>exact⟨rfl,lo,hi,rfl,h1,h2,(),hlo,hhi⟩
 case fin=>
  rintro c cO ⟨rfl,l,r,rfl,a1,a2,a3,a4,a5⟩;have :l=r:=by lia
  subst this;exact⟨rfl,l,l,rfl,a2,a4,a5⟩
 case post=>
  rintro c cO ⟨rfl,l,r,rfl,a2,a4,a5⟩;exact bI (h r a2 a4 a5)
 case step=>
  rintro x c cO _ hx ⟨rfl,l,r,rfl,a1,a2,a3,a4,a5⟩;dsimp only;by_cases hge:l≥r
  ·rw[aL hge];have :l=r:=by lia
   subst this;exact bI ⟨rfl,l,l,rfl,a2,a4,a5⟩
  ·rw[aH hge];refine aY (hbe _ () _ ?_);cases hp:P (l+(r-l)/2)
   ·simp only[bV,dP];refine bI ⟨rfl,_,_,rfl,(),(),(),a4,fun i b1 b2=>?_⟩;cases hi:P i
    ·rfl
    ·rw[hm _ _ b1 b2 hi]at hp;exact absurd hp (by simp)
   ·simp only[if_true];refine bI ⟨rfl,_,_,rfl,(),(),(),fun i b1=>hm i _ () () hp,a5⟩
theorem KG{l:Bool}{key:Keyed}{base hint:Nat}{Q:Option Nat->SortSt->Prop}(hbe:∀i,i<n->∀Q:Option Bool->SortSt->Prop,Q (some (P i)) st->wpS M A E s (gq l key arr base i) Q st)
 (hm:∀i j,i<=j->j<n->P j=true->P i=true) (hh:hint<n)
 (h:∀r,r<=n->(∀i,i<r->P i=true)->(∀i,r<=i->i<n->P i=false)->Q (some r) st):wpS M A E s (jO l key arr base n hint) Q st:=by
 rw[FU];refine aY (hbe hint hh _ ?_);dsimp only;have hf:∀i j,i<=j->j<n->P i=false->P j=false:=by
  intro i j a b c;cases hj:P j
  ·rfl
  ·rw[hm i j a b hj]at c;exact absurd c (by simp)
 cases hp:P hint
 ·simp only[bV,dP];unfold CB;refine aY (fR (eI
   (I:=fun x c cO=>cO=st/\∃u v,c=(none,u,v)/\u<v/\x+1<=v/\u<=hint/\P (hint-u)=false)
   (Q:=fun c cO=>cO=st/\∃u v,c=(none,u,v)/\u<v/\u<=hint/\P (hint-u)=false/\(v≥hint+1\/v<=hint/\P (hint-v)=true)) ?step ?fin ?init) ?post)
  case init=>exact⟨rfl,0,1,rfl,(),(),(),hp⟩
  case fin=>
   rintro c cO ⟨rfl,u,v,rfl,a1,a2,a3,a4⟩;exact⟨rfl,u,v,rfl,a1,a3,a4,.inl ()⟩
  case step=>
   rintro x c cO _ hx ⟨rfl,u,v,rfl,a1,a2,a3,a4⟩;dsimp only;by_cases hge:v≥hint+1
   ·rw[aL hge];exact bI ⟨rfl,u,v,rfl,a1,a3,a4,.inl hge⟩
   ·rw[aH hge];refine aY (hbe _ () _ ?_);cases hv:P (hint-v)
    ·simp only[bV,dP];exact bI ⟨rfl,_,_,rfl,(),(),(),hv⟩
    ·simp only[if_true];exact bI ⟨rfl,u,v,rfl,a1,a3,a4,.inr ⟨(),hv⟩⟩
  case post=>
   rintro c cO ⟨rfl,u,v,rfl,a1,a3,a4,a5⟩;dsimp only;refine KF hbe hm () () (fun i hi=>?_) (fun i h1 h2=>hf _ _ h1 h2 a4) h;rcases a5 with a5 |⟨a5,a6⟩
   ·lia
   ·exact hm i _ () () a6
 ·simp only[if_true];unfold CB;refine aY (fR (eI
   (I:=fun x c cO=>cO=st/\∃u v,c=(none,u,v)/\u<v/\x+1<=v/\hint+u<n/\P (hint+u)=true)
   (Q:=fun c cO=>cO=st/\∃u v,c=(none,u,v)/\u<v/\hint+u<n/\P (hint+u)=true/\(v≥n-hint\/hint+v<n/\P (hint+v)=false)) ?step ?fin ?init) ?post)
  case init=>exact⟨rfl,0,1,rfl,(),(),(),hp⟩
  case fin=>
   rintro c cO ⟨rfl,u,v,rfl,a1,a2,a3,a4⟩;exact⟨rfl,u,v,rfl,a1,a3,a4,.inl ()⟩
  case step=>
   rintro x c cO _ hx ⟨rfl,u,v,rfl,a1,a2,a3,a4⟩;dsimp only;by_cases hge:v≥n-hint
   ·rw[aL hge];exact bI ⟨rfl,u,v,rfl,a1,a3,a4,.inl hge⟩
   ·rw[aH hge];refine aY (hbe _ () _ ?_);cases hv:P (hint+v)
    ·simp only[bH,if_true];exact bI ⟨rfl,u,v,rfl,a1,a3,a4,.inr ⟨(),hv⟩⟩
    ·simp only[bK,bV,dP];exact bI ⟨rfl,_,_,rfl,(),(),(),hv⟩
  case post=>
   rintro c cO ⟨rfl,u,v,rfl,a1,a3,a4,a5⟩;dsimp only;refine KF hbe hm () () (fun i hi=>hm i _ () a3 a4) (fun i h1 h2=>?_) h;rcases a5 with a5 |⟨a5,a6⟩
   ·lia
   ·exact hf _ _ () h2 a6
end
structure lB(M:Model)(A:Around)(E:Value->Shared->Prop)(s:Shared)(kd:SortKind)(S:Keyed->Prop)(κ:Keyed->Int):Prop where
 lt:∀{x y:Keyed}{st:SortSt}{Q:Option Bool->SortSt->Prop},S x->S y->kindOf st=kd->Q (some (decide (κ x<κ y))) st->wpS M A E s (lt' x y) Q st
def eF(κ:Keyed->Int)(xs:Array Keyed)(i:Nat):Int:=match xs[i]? with
 |some p=>κ p
 |none=>0
theorem yP{xs:Array Keyed}{p:Keyed}(h:xs[i]?=some p):eF κ xs i=κ p:=by unfold eF;rw[h]
theorem qH{xs ys:Array Keyed}(h:xs[i]?=ys[j]?):eF κ xs i=eF κ ys j:=by unfold eF;rw[h]
def xX(κ:Keyed->Int)(xs:Array Keyed)(i j:Nat):Prop:=∀p q,i<=p->p<=q->q<j->eF κ xs p<=eF κ xs q
theorem yL{p:Keyed}{Q:Keyed->SortSt->Prop}(hp:arr[i]?=some p)(h:Q p st):wpS M A E s (elem' arr i) Q st:=by
 rw[elem'_eq,hp];exact bI h
theorem xZ(h:i<arr.size):∃p,arr[i]?=some p/\p∈arr.toList:=⟨arr[i],getElem?_pos _ i h,by simp⟩
theorem UY{key:Keyed}{base hint:Nat}{Q:Option Nat->SortSt->Prop}(C:lB M A E s kd S κ)(hk:kindOf st=kd)(hS:∀p,p∈arr.toList->S p)(hK:S key)
 (hb:base+n<=arr.size) (hs:xX κ arr base (base+n)) (hh:hint<n)
 (h:∀r,r<=n->(∀i,i<r->eF κ arr (base+i)<=κ key)->(∀i,r<=i->i<n->κ key<eF κ arr (base+i))->Q (some r) st):wpS M A E s (jO false key arr base n hint) Q st:=by
 refine KG (P:=fun i=>!decide (κ key<eF κ arr (base+i))) (fun i hi Q hQ=>?_) (fun i j hij hj=>?_) hh fun r h1 h2 h3=>h r h1 (fun i hi=>?_) fun i ha hb=>?_
 ·obtain⟨p,e,hm⟩:=xZ (arr:=arr) (i:=base+i) ();unfold gq;refine aY (yL e ?_);simp only[bV,dP];refine aY (C.lt hK (hS p hm) hk ?_);rw[←yP (κ:=κ) e];exact bI hQ
 ·have :=hs (base+i) (base+j) () () ();simp only[GY,decide_eq_false_iff_not];lia
 ·have :=h2 i hi;simp only[GY,decide_eq_false_iff_not]at this;lia
 ·simpa using h3 i ha hb
theorem UZ{key:Keyed}{base hint:Nat}{Q:Option Nat->SortSt->Prop}(C:lB M A E s kd S κ)(hk:kindOf st=kd)(hS:∀p,p∈arr.toList->S p)(hK:S key)
 (hb:base+n<=arr.size) (hs:xX κ arr base (base+n)) (hh:hint<n)
 (h:∀r,r<=n->(∀i,i<r->eF κ arr (base+i)<κ key)->(∀i,r<=i->i<n->κ key<=eF κ arr (base+i))->Q (some r) st):wpS M A E s (jO true key arr base n hint) Q st:=by
 refine KG (P:=fun i=>decide (eF κ arr (base+i)<κ key)) (fun i hi Q hQ=>?_) (fun i j hij hj=>?_) hh fun r h1 h2 h3=>h r h1 (fun i hi=>?_) fun i ha hb=>?_
 ·obtain⟨p,e,hm⟩:=xZ (arr:=arr) (i:=base+i) ();unfold gq;refine aY (yL e ?_);simp only[if_true];refine C.lt (hS p hm) hK hk ?_;rw[←yP (κ:=κ) e];exact hQ
 ·have :=hs (base+i) (base+j) () () ();simp only[bQ];lia
 ·simpa using h2 i hi
 ·have :=h3 i ha hb;simp only[decide_eq_false_iff_not]at this;lia
structure oX(κ:Keyed->Int)(la lb ol:List Keyed)(ia ib:Nat):Prop where
 perm:ol.Perm (la.take ia++lb.take ib)
 srt:ol.Pairwise fun x y=>κ x<=κ y
 la:∀x∈ol,∀y∈la.drop ia,κ x<=κ y
 lb:∀x∈ol,∀y∈lb.drop ib,κ x<=κ y
section
variable {la lb ol:List Keyed}
theorem oX.swap(h:oX κ la lb ol ia ib):oX κ lb la ol ib ia:=⟨h.perm.trans rK,h.srt,h.lb,h.la⟩
theorem oX.addA(h:oX κ la lb ol ia ib)(k:Nat)(hs:la.Pairwise fun x y=>κ x<=κ y)(hb:∀x∈(la.drop ia).take k,∀y∈lb.drop ib,κ x<=κ y):oX κ la lb (ol++(la.drop ia).take k) (ia+k) ib:=by
 have hd:la.drop ia=(la.drop ia).take k++la.drop (ia+k):=by rw[←rZ];exact(dM _ _).symm
 have hp:(la.drop ia).Pairwise fun x y=>κ x<=κ y:=hs.sublist (List.drop_sublist _ _)
 rw[hd,List.pairwise_append]at hp;refine⟨?_,?_,?_,?_⟩
 ·rw[List.take_add];refine(h.perm.append_right _).trans ?_;rw[cL,cL];exact List.Perm.append_left _ rK
 ·rw[List.pairwise_append];exact⟨h.srt,hp.1,fun x hx y hy=>h.la x hx y (iT hy)⟩
 ·intro x hx y hy;rcases bO.mp hx with hx |hx
  ·exact h.la x hx y (by rw[hd];exact aZ _ hy)
  ·exact hp.2.2 x hx y hy
 ·intro x hx y hy;rcases bO.mp hx with hx |hx
  ·exact h.lb x hx y hy
  ·exact hb x hx y hy
theorem oX.addB(h:oX κ la lb ol ia ib)(k:Nat)(hs:lb.Pairwise fun x y=>κ x<=κ y)(hb:∀x∈(lb.drop ib).take k,∀y∈la.drop ia,κ x<=κ y):oX κ la lb (ol++(lb.drop ib).take k) ia (ib+k):=(h.swap.addA k hs hb).swap
theorem oX.nil:oX κ la lb [] 0 0:=⟨by simp,.nil,by simp,by simp⟩
def Mgd(κ:Keyed->Int)(la lb ol:List Keyed):Prop:=ol.Perm (la++lb)/\ol.Pairwise fun x y=>κ x<=κ y
theorem oX.fin(h:oX κ la lb ol ia ib)(h1:la.length<=ia)(h2:lb.length<=ib):Mgd κ la lb ol:=by
 refine⟨?_,h.srt⟩;have :=h.perm;rwa[aS h1,aS h2]at this
theorem oX.endA(h:oX κ la lb ol ia ib)(hs:la.Pairwise fun x y=>κ x<=κ y)(h2:lb.length<=ib):Mgd κ la lb (ol++la.drop ia):=by
 have :=h.addA la.length hs (by rw[List.drop_eq_nil_of_le h2];simp);rw[aS (by simp)]at this;exact this.fin () h2
theorem oX.endB(h:oX κ la lb ol ia ib)(hs:lb.Pairwise fun x y=>κ x<=κ y)(h1:la.length<=ia):Mgd κ la lb (ol++lb.drop ib):=by
 have :=h.swap.endA hs h1;exact⟨this.1.trans rK,this.2⟩
theorem vV{l:List Keyed}{k:Nat}{y:Keyed}(h:y∈(l.drop i).take k):∃j,i<=j/\j<i+k/\j<l.length/\l[j]?=some y:=by
 obtain⟨j,hj,e⟩:=List.mem_iff_getElem.mp h;rw[bX,fI]at hj;refine⟨i+j,(),(),(),?_⟩;rw[GX,List.getElem_drop]at e;rw[←e];exact aA ()
theorem FH{l:List Keyed}{y:Keyed}(h:y∈l.drop i):∃j,i<=j/\j<l.length/\l[j]?=some y:=by
 obtain⟨j,hj,e⟩:=List.mem_iff_getElem.mp h;rw[fI]at hj;refine⟨i+j,(),(),?_⟩;rw[List.getElem_drop]at e;rw[←e];exact aA ()
theorem vE{a:Array Keyed}{y:Keyed}(h:a.toList[j]?=some y):κ y=eF κ a j:=(yP (by rw[←cZ];exact h)).symm
theorem qS{a:Array Keyed}(h:xX κ a 0 a.size):a.toList.Pairwise fun x y=>κ x<=κ y:=by
 rw[dJ];intro i j hi hj hij;have :=h i j () () (by simpa using hj);rwa[←vE (aA hi),←vE (aA hj)]at this
end
def PD:Nat->SM Unit:=sortPriv% PySem.Builtin.setMinGallop
abbrev UF(st:SortSt)(g:Nat):SortSt:=SortSt.mk' (kindOf st) (arrOf st) (pendingOf st) g (failedOf st)
theorem YF(g:Nat):PD g=modify fun s=>UF s g:=rfl
structure iK(st cO:SortSt):Prop where
 kind:kindOf cO=kindOf st
 arr:arrOf cO=arrOf st
 pend:pendingOf cO=pendingOf st
 fail:failedOf cO=failedOf st
theorem iK.rfl':iK st st:=⟨rfl,rfl,rfl,rfl⟩
theorem iK.gal{cO:SortSt}(h:iK st cO)(g:Nat):iK st (UF cO g):=⟨h.kind,h.arr,h.pend,h.fail⟩
def WZ(a b out:Array Keyed)(ia ib:Nat):Array Keyed:=out++a.extract ia a.size++b.extract ib b.size
def lsL(a b out:Array Keyed)(ia ib:Nat):Array Keyed:=out++b.extract ib b.size++a.extract ia a.size
abbrev LoA:=Option (Array Keyed)×Array Keyed×Nat×Nat×Nat×Nat
abbrev qp:=Option (Array Keyed)×Array Keyed×Nat×Nat×Nat×Nat×Nat
abbrev LoC:=Option (Array Keyed)×Array Keyed×Nat×Nat×Nat
def lo1(a b:Array Keyed)(mg:Nat)(c:LoA):SM (ForInStep LoA):=
 elem' b c.2.2.2.1 >>= fun y=>elem' a c.2.2.1 >>= fun x=>lt' y x >>= fun o=>match o with
  |some w=>if w=true then elem' b c.2.2.2.1 >>= fun z=>
   if(c.2.2.2.1+1==b.size)=true then pure (ForInStep.done (some (WZ a b (c.2.1.push z) c.2.2.1 (c.2.2.2.1+1)),c.2.1.push z,c.2.2.1,c.2.2.2.1+1,0,c.2.2.2.2.2+1))
   else if c.2.2.2.2.2+1≥mg then pure (ForInStep.done (none,c.2.1.push z,c.2.2.1,c.2.2.2.1+1,0,c.2.2.2.2.2+1))
   else pure (ForInStep.yield (none,c.2.1.push z,c.2.2.1,c.2.2.2.1+1,0,c.2.2.2.2.2+1))
   else elem' a c.2.2.1 >>= fun z=>
    if(c.2.2.1+1+1==a.size)=true then pure (ForInStep.done (some (lsL a b (c.2.1.push z) (c.2.2.1+1) c.2.2.2.1),c.2.1.push z,c.2.2.1+1,c.2.2.2.1,c.2.2.2.2.1+1,0))
    else if c.2.2.2.2.1+1≥mg then pure (ForInStep.done (none,c.2.1.push z,c.2.2.1+1,c.2.2.2.1,c.2.2.2.2.1+1,0))
    else pure (ForInStep.yield (none,c.2.1.push z,c.2.2.1+1,c.2.2.2.1,c.2.2.2.2.1+1,0))
  |_=>pure (ForInStep.done (some (WZ a b c.2.1 c.2.2.1 c.2.2.2.1),c.2.1,c.2.2.1,c.2.2.2.1,c.2.2.2.2.1,c.2.2.2.2.2))
def fe(a b:Array Keyed)(mg:Nat)(out:Array Keyed)(ia ib ac bc:Nat):SM (ForInStep qp):=
 elem' a ia >>= fun z=>if(ia+1+1==a.size)=true then pure (ForInStep.done (some (lsL a b (out.push z) (ia+1) ib),out.push z,ia+1,ib,mg,ac,bc))
  else if(decide (ac<7)&&decide (bc<7))=true then pure (ForInStep.done (none,out.push z,ia+1,ib,mg,ac,bc))
  else pure (ForInStep.yield (none,out.push z,ia+1,ib,mg,ac,bc))
def fg(a b:Array Keyed)(mg:Nat)(out:Array Keyed)(ia ib ac bc:Nat):SM (ForInStep qp):=
 elem' b ib >>= fun z=>if(ib+1==b.size)=true then pure (ForInStep.done (some (WZ a b (out.push z) ia (ib+1)),out.push z,ia,ib+1,mg,ac,bc))
  else elem' a ia >>= fun x=>jO true x b (ib+1) (b.size-(ib+1)) 0 >>= fun o=>match o with
   |some k=>if k>0 then(if(ib+1+k==b.size)=true then pure (ForInStep.done (some (WZ a b (out.push z++b.extract (ib+1) (ib+1+k)) ia (ib+1+k)),out.push z++b.extract (ib+1) (ib+1+k),ia,ib+1+k,mg,ac,k))
    else fe a b mg (out.push z++b.extract (ib+1) (ib+1+k)) ia (ib+1+k) ac k)
    else fe a b mg (out.push z) ia (ib+1) ac k
   |_=>pure (ForInStep.done (some (WZ a b (out.push z) ia (ib+1)),out.push z,ia,ib+1,mg,ac,bc))
def fh(a b:Array Keyed)(mg:Nat)(out:Array Keyed)(ia ib ac bc:Nat):SM (ForInStep qp):=
 PD mg >>= fun _=>elem' b ib >>= fun y=>jO false y a ia (a.size-ia) 0 >>= fun o=>match o with
  |some k=>if k>0 then(if(ia+k+1==a.size)=true then pure (ForInStep.done (some (lsL a b (out++a.extract ia (ia+k)) (ia+k) ib),out++a.extract ia (ia+k),ia+k,ib,mg,k,bc))
   else if(ia+k==a.size)=true then pure (ForInStep.done (some (WZ a b (out++a.extract ia (ia+k)) (ia+k) ib),out++a.extract ia (ia+k),ia+k,ib,mg,k,bc))
   else fg a b mg (out++a.extract ia (ia+k)) (ia+k) ib k bc)
   else fg a b mg out ia ib k bc
  |_=>pure (ForInStep.done (some (WZ a b out ia ib),out,ia,ib,mg,ac,bc))
def lo2(a b:Array Keyed)(c:qp):SM (ForInStep qp):=
 if c.2.2.2.2.1>1 then fh a b (c.2.2.2.2.1-1) c.2.1 c.2.2.1 c.2.2.2.1 c.2.2.2.2.2.1 c.2.2.2.2.2.2 else fh a b c.2.2.2.2.1 c.2.1 c.2.2.1 c.2.2.2.1 c.2.2.2.2.2.1 c.2.2.2.2.2.2
def lo3(a b:Array Keyed)(c:LoC):SM (ForInStep LoC):=
 (forIn [:a.size+b.size] ((none,c.2.1,c.2.2.1,c.2.2.2.1,0,0):LoA) fun _ d=>lo1 a b c.2.2.2.2 d) >>= fun d=>match d.1 with
  |some r=>pure (ForInStep.done (some r,d.2.1,d.2.2.1,d.2.2.2.1,c.2.2.2.2))
  |none=>liftM (rule "list.sort.gallop") >>= fun _=>(forIn [:a.size+b.size] ((none,d.2.1,d.2.2.1,d.2.2.2.1,c.2.2.2.2+1,d.2.2.2.2.1,d.2.2.2.2.2):qp) fun _ e=>lo2 a b e) >>= fun e=>match e.1 with
   |some r=>pure (ForInStep.done (some r,e.2.1,e.2.2.1,e.2.2.2.1,e.2.2.2.2.1))
   |none=>PD (e.2.2.2.2.1+1) >>= fun _=>pure (ForInStep.yield (none,e.2.1,e.2.2.1,e.2.2.2.1,e.2.2.2.2.1+1))
def XR:Array Keyed->Array Keyed->SM (Array Keyed):=sortPriv% PySem.Builtin.mergeLo
theorem BR(a b:Array Keyed):XR a b=(liftM (rule "list.sort.merge-lo") >>= fun _=>elem' b 0 >>= fun z=>
 if(1==b.size)=true then pure (WZ a b #[z] 0 1)else if(0+1==a.size)=true then pure (lsL a b #[z] 0 1)
 else get >>= fun st=>(forIn [:a.size+b.size] ((none,#[z],0,1,gallopOf st):LoC) fun _ c=>lo3 a b c) >>= fun c=>match c.1 with
  |some r=>pure r
  |none=>liftM (unsupported "internal:list.sort.merge-bound")):=by
 show(_ >>= _:SM _)=_
 congr 1;funext u
 show(_ >>= _:SM _)=_
 congr 1;funext z
 by_cases h:(1==b.size)=true
 ·exact(aL h).trans (aL h).symm
 ·refine(aH h).trans (Eq.trans ?_ (aH h).symm);by_cases h2:(0+1==a.size)=true
  ·exact(aL h2).trans (aL h2).symm
  ·refine(aH h2).trans (Eq.trans ?_ (aH h2).symm);show(_ >>= _:SM _)=_
   congr 1;funext st
   show(_ >>= _:SM _)=_
   congr 1
   ·congr 1;funext x c
    delta lo3
    show(_ >>= _:SM _)=_
    congr 1;funext d
    obtain⟨r,d⟩:=d;cases r
    ·show(_ >>= _:SM _)=_
     congr 1;funext v
     show(_ >>= _:SM _)=_
     congr 1;funext d
     obtain⟨r,d⟩:=d;cases r<;>rfl
    ·rfl
   ·funext c
    obtain⟨r,d⟩:=c;cases r<;>rfl
structure pH(S:Keyed->Prop)(κ:Keyed->Int)(a b:Array Keyed):Prop where
 sa:xX κ a 0 a.size
 sb:xX κ b 0 b.size
 ma:∀p,p∈a.toList->S p
 mb:∀p,p∈b.toList->S p
 na:1<=a.size
 nb:1<=b.size
 b0:∀i,i<a.size->eF κ b 0<eF κ a i
 al:∀j,j<b.size->eF κ b j<eF κ a (a.size-1)
section
variable {a b out:Array Keyed}
abbrev nZ(κ:Keyed->Int)(a b out:Array Keyed)(ia ib:Nat):Prop:=oX κ a.toList b.toList out.toList ia ib
abbrev sY(κ:Keyed->Int)(a b out:Array Keyed):Prop:=Mgd κ a.toList b.toList out.toList
theorem KL(a:Array Keyed)(i k:Nat):(a.extract i (i+k)).toList=(a.toList.drop i).take k:=by
 rw[eD,dR,pM]
theorem KN(a:Array Keyed)(i:Nat):(a.extract i a.size).toList=a.toList.drop i:=by
 rw[eD,dR,aS (by simp)]
theorem RX{l:List Keyed}(h:l[i]?=some z):[z]=(l.drop i).take 1:=by
 obtain⟨hi,e⟩:=aC.mp h;rw[gF hi,e];rfl
theorem nZ.appA(H:pH S κ a b)(h:nZ κ a b out ia ib){k:Nat}(hq:∀i,ia<=i->i<ia+k->∀j,ib<=j->j<b.size->eF κ a i<=eF κ b j):nZ κ a b (out++a.extract ia (ia+k)) (ia+k) ib:=by
 have :=oX.addA h k (qS H.sa) fun x hx y hy=>by
  obtain⟨i,h1,h2,h3,h4⟩:=vV hx;obtain⟨j,g1,g2,g3⟩:=FH hy;rw[vE (κ:=κ) h4,vE (κ:=κ) g3];exact hq i h1 h2 j g1 (by simpa using g2)
 rw[nZ,cN,KL];exact this
theorem nZ.appB(H:pH S κ a b)(h:nZ κ a b out ia ib){k:Nat}(hq:∀j,ib<=j->j<ib+k->∀i,ia<=i->i<a.size->eF κ b j<=eF κ a i):nZ κ a b (out++b.extract ib (ib+k)) ia (ib+k):=by
 have :=oX.addB h k (qS H.sb) fun x hx y hy=>by
  obtain⟨i,h1,h2,h3,h4⟩:=vV hx;obtain⟨j,g1,g2,g3⟩:=FH hy;rw[vE (κ:=κ) h4,vE (κ:=κ) g3];exact hq i h1 h2 j g1 (by simpa using g2)
 rw[nZ,cN,KL];exact this
theorem UJ(o:Array Keyed)(z:Keyed):(o.push z).toList=o.toList++[z]:=by simp
theorem nZ.pushA(H:pH S κ a b)(h:nZ κ a b out ia ib)(hz:a[ia]?=some z)(hq:∀j,ib<=j->j<b.size->κ z<=eF κ b j):nZ κ a b (out.push z) (ia+1) ib:=by
 have hz':a.toList[ia]?=some z:=by rw[cZ];exact hz
 have :=h.appA H (k:=1) fun i h1 h2 j g1 g2=>by
  have :i=ia:=by lia
  subst this;rw[yP hz];exact hq j g1 g2
 rw[nZ,cN,KL,←RX hz']at this;rw[nZ,UJ];exact this
theorem nZ.pushB(H:pH S κ a b)(h:nZ κ a b out ia ib)(hz:b[ib]?=some z)(hq:∀i,ia<=i->i<a.size->κ z<=eF κ a i):nZ κ a b (out.push z) ia (ib+1):=by
 have hz':b.toList[ib]?=some z:=by rw[cZ];exact hz
 have :=h.appB H (k:=1) fun i h1 h2 j g1 g2=>by
  have :i=ib:=by lia
  subst this;rw[yP hz];exact hq j g1 g2
 rw[nZ,cN,KL,←RX hz']at this;rw[nZ,UJ];exact this
theorem nZ.dn(H:pH S κ a b)(h:nZ κ a b out ia ib)(hb:ib=b.size):sY κ a b (WZ a b out ia ib):=by
 have :=oX.endA h (qS H.sa) (by simp;lia);rw[sY,WZ,cN,cN,KN,KN,List.drop_eq_nil_of_le (as:=b.toList) (by simp;lia),cM];exact this
theorem nZ.ls(H:pH S κ a b)(h:nZ κ a b out ia ib)(ha:ia+1=a.size):sY κ a b (lsL a b out ia ib):=by
 have h1:=oX.addB h b.size (qS H.sb) fun x hx y hy=>by
  obtain⟨i,h1,h2,h3,h4⟩:=vV hx;obtain⟨j,g1,g2,g3⟩:=FH hy;rw[vE (κ:=κ) h4,vE (κ:=κ) g3];have :j=a.size-1:=by simp at g2;lia
  subst this;exact pV (H.al i (by simpa using h3))
 rw[aS (l:=b.toList.drop ib) (by simp)]at h1;have :=h1.endA (qS H.sa) (by simp);rw[sY,lsL,cN,cN,KN,KN];exact this
end
def WL(κ:Keyed->Int)(a b:Array Keyed)(N:Nat)(r:Option (Array Keyed))(out:Array Keyed)(ia ib:Nat):Prop:=
 r=none/\nZ κ a b out ia ib/\ia+1<a.size/\ib<b.size/\N<=ia+ib
def LoG(κ:Keyed->Int)(a b:Array Keyed)(N:Nat)(r:Option (Array Keyed))(out:Array Keyed)(ia ib:Nat):Prop:=
 (∃x,r=some x/\sY κ a b x)\/WL κ a b N r out ia ib
theorem nc{a b out:Array Keyed}{N:Nat}(h1:nZ κ a b out ia ib)(h2:ia+1<a.size)(h3:ib<b.size)(h4:N<=ia+ib):WL κ a b N none out ia ib:=⟨rfl,h1,h2,h3,h4⟩
section
variable {a b:Array Keyed}
theorem nk(C:lB M A E s kd S κ)(H:pH S κ a b)(hk:kindOf st=kd){N mg:Nat}{out:Array Keyed}(h:WL κ a b N none out ia ib):
 wpS M A E s (lo1 a b mg (none,out,ia,ib,ac,bc)) (fun r cO=>cO=st/\match r with
  | .done c=>LoG κ a b (N+1) c.1 c.2.1 c.2.2.1 c.2.2.2.1
  | .yield c=>WL κ a b (N+1) c.1 c.2.1 c.2.2.1 c.2.2.2.1) st:=by
 obtain⟨-,h1,h2,h3,h4⟩:=h;obtain⟨x,ex,hx⟩:=xZ (arr:=a) (i:=ia) ();obtain⟨y,ey,hy⟩:=xZ (arr:=b) (i:=ib) ();unfold lo1;refine aY (yL ey (aY (yL ex (aY (C.lt (H.mb y hy) (H.ma x hx) hk ?_)))));have kx:=yP (κ:=κ) ex;have ky:=yP (κ:=κ) ey;by_cases hl:κ y<κ x
 ·simp only[hl,decide_true,if_true];refine aY (yL ey ?_);have hn:nZ κ a b (out.push y) ia (ib+1):=h1.pushB H ey fun i g1 g2=>by
   have :=H.sa ia i () g1 g2;lia
  by_cases he:ib+1=b.size
  ·rw[aL (by simpa using he)];exact bI ⟨rfl,.inl ⟨_,rfl,hn.dn H he⟩⟩
  ·rw[aH (by simpa using he)];split
   ·exact bI ⟨rfl,.inr (nc (N:=N+1) hn (h2) () () :)⟩
   ·exact bI ⟨rfl,(nc (N:=N+1) hn (h2) () () :)⟩
 ·simp only[hl,decide_false,bV,dP];refine aY (yL ex ?_);have hn:nZ κ a b (out.push x) (ia+1) ib:=h1.pushA H ex fun i g1 g2=>by
   have :=H.sb ib i () g1 g2;lia
  by_cases he:ia+1+1=a.size
  ·rw[aL (by simpa using he)];exact bI ⟨rfl,.inl ⟨_,rfl,hn.ls H he⟩⟩
  ·rw[aH (by simpa using he)];split
   ·exact bI ⟨rfl,.inr (nc (N:=N+1) hn () () () :)⟩
   ·exact bI ⟨rfl,(nc (N:=N+1) hn () () () :)⟩
abbrev ik(κ:Keyed->Int)(a b:Array Keyed)(N:Nat)(st:SortSt)(r:ForInStep qp)(cO:SortSt):Prop:=iK st cO/\match r with
 | .done c=>LoG κ a b N c.1 c.2.1 c.2.2.1 c.2.2.2.1
 | .yield c=>WL κ a b N c.1 c.2.1 c.2.2.1 c.2.2.2.1
theorem IP(H:pH S κ a b){N mg:Nat}{out:Array Keyed}(hs:iK st0 st)(h1:nZ κ a b out ia ib)(h2:ia+1<a.size)(h3:ib<b.size)(h4:N<=ia+ib)
 (hq:∀j,ib<=j->j<b.size->eF κ a ia<=eF κ b j):wpS M A E s (fe a b mg out ia ib ac bc) (ik κ a b N st0) st:=by
 obtain⟨x,ex,hx⟩:=xZ (arr:=a) (i:=ia) ();unfold fe;refine aY (yL ex ?_);have kx:=yP (κ:=κ) ex;have hn:nZ κ a b (out.push x) (ia+1) ib:=h1.pushA H ex fun i g1 g2=>by rw[←kx];exact hq i g1 g2
 by_cases he:ia+1+1=a.size
 ·rw[aL (by simpa using he)];exact bI ⟨hs,.inl ⟨_,rfl,hn.ls H he⟩⟩
 ·rw[aH (by simpa using he)];split
  ·exact bI ⟨hs,.inr (nc (N:=N) hn () () () :)⟩
  ·exact bI ⟨hs,(nc (N:=N) hn () () () :)⟩
theorem IQ(C:lB M A E s kd S κ)(H:pH S κ a b)(hk:kindOf st=kd){N mg:Nat}{out:Array Keyed}(hs:iK st0 st)(h1:nZ κ a b out ia ib)(h2:ia+1<a.size)(h3:ib<b.size)(h4:N<=ia+ib)
 (hq:∀i,ia<=i->i<a.size->eF κ b ib<=eF κ a i):wpS M A E s (fg a b mg out ia ib ac bc) (ik κ a b N st0) st:=by
 obtain⟨y,ey,hy⟩:=xZ (arr:=b) (i:=ib) ();obtain⟨x,ex,hx⟩:=xZ (arr:=a) (i:=ia) ();unfold fg;refine aY (yL ey ?_);have ky:=yP (κ:=κ) ey;have kx:=yP (κ:=κ) ex;have hn:nZ κ a b (out.push y) ia (ib+1):=h1.pushB H ey fun i g1 g2=>by rw[←ky];exact hq i g1 g2
 by_cases he:ib+1=b.size
 ·rw[aL (by simpa using he)];exact bI ⟨hs,.inl ⟨_,rfl,hn.dn H he⟩⟩
 ·rw[aH (by simpa using he)];refine aY (yL ex ?_);refine aY (UZ C hk H.mb (H.ma x hx) () (fun p q r1 r2 r3=>H.sb p q () r2 ()) () fun k g1 g2 g3=>?_);dsimp only;have hm:nZ κ a b (out.push y++b.extract (ib+1) (ib+1+k)) ia (ib+1+k):=hn.appB H fun j r1 r2 i r3 r4=>by
   have :=g2 (j-(ib+1)) ();rw[show ib+1+(j-(ib+1))=j by lia]at this;have :=H.sa ia i () r3 r4;lia
  have hr:∀j,ib+1+k<=j->j<b.size->eF κ a ia<=eF κ b j:=fun j r1 r2=>by
   have :=g3 (j-(ib+1)) () ();rw[show ib+1+(j-(ib+1))=j by lia]at this;lia
  by_cases hz:k>0
  ·rw[aL hz];by_cases he:ib+1+k=b.size
   ·rw[aL (by simpa using he)];exact bI ⟨hs,.inl ⟨_,rfl,hm.dn H he⟩⟩
   ·rw[aH (by simpa using he)];exact IP H hs hm h2 () () hr
  ·rw[aH hz];have :k=0:=by lia
   subst this;exact IP H hs hn h2 () () hr
theorem IR(C:lB M A E s kd S κ)(H:pH S κ a b)(hk:kindOf st=kd){N mg:Nat}{out:Array Keyed}(hs:iK st0 st)(h1:nZ κ a b out ia ib)(h2:ia+1<a.size)(h3:ib<b.size)(h4:N<=ia+ib):
 wpS M A E s (fh a b mg out ia ib ac bc) (ik κ a b N st0) st:=by
 obtain⟨y,ey,hy⟩:=xZ (arr:=b) (i:=ib) ();unfold fh;rw[YF];refine aY (mM (aY (yL ey ?_)));have fC:=hs.gal mg;have hk':kindOf (UF st mg)=kd:=hk;have ky:=yP (κ:=κ) ey;refine aY (UY C hk' H.ma (H.mb y hy) () (fun p q r1 r2 r3=>H.sa p q () r2 ()) () fun k g1 g2 g3=>?_);dsimp only;have hl:=H.al ib h3;have hkl:ia+k<a.size:=by
  by_cases hc:ia+k<a.size
  ·exact hc
  ·have :=g2 (a.size-1-ia) ();rw[show ia+(a.size-1-ia)=a.size-1 by lia]at this;lia
 have hm:nZ κ a b (out++a.extract ia (ia+k)) (ia+k) ib:=h1.appA H fun j r1 r2 i r3 r4=>by
  have :=g2 (j-ia) ();rw[show ia+(j-ia)=j by lia]at this;have :=H.sb ib i () r3 r4;lia
 have hr:∀j,ia+k<=j->j<a.size->eF κ b ib<=eF κ a j:=fun j r1 r2=>by
  have :=g3 (j-ia) () ();rw[show ia+(j-ia)=j by lia]at this;lia
 by_cases hz:k>0
 ·rw[aL hz];by_cases he:ia+k+1=a.size
  ·rw[aL (by simpa using he)];exact bI ⟨fC,.inl ⟨_,rfl,hm.ls H he⟩⟩
  ·rw[aH (by simpa using he),aH (by simp;lia)];exact IQ C H hk' fC hm () h3 () hr
 ·rw[aH hz];have :k=0:=by lia
  subst this;exact IQ C H hk' fC h1 () h3 () hr
theorem nh(C:lB M A E s kd S κ)(H:pH S κ a b)(hk:kindOf st=kd){N mg:Nat}{out:Array Keyed}(hs:iK st0 st)(h:WL κ a b N none out ia ib):
 wpS M A E s (lo2 a b (none,out,ia,ib,mg,ac,bc)) (ik κ a b N st0) st:=by
 obtain⟨-,h1,h2,h3,h4⟩:=h;unfold lo2;dsimp only;split
 ·exact IR C H hk hs h1 h2 h3 h4
 ·exact IR C H hk hs h1 h2 h3 h4
theorem ng(C:lB M A E s kd S κ)(H:pH S κ a b)(hk0:kindOf st0=kd){N mg:Nat}{out:Array Keyed}(hs:iK st0 st)(h:WL κ a b N none out ia ib):
 wpS M A E s (lo3 a b (none,out,ia,ib,mg)) (fun r cO=>iK st0 cO/\match r with
  | .done c=>∃x,c.1=some x/\sY κ a b x
  | .yield c=>WL κ a b (N+1) c.1 c.2.1 c.2.2.1 c.2.2.2.1) st:=by
 unfold lo3;dsimp only;refine aY (fR (eI
  (I:=fun x c cO=>cO=st/\WL κ a b (N+x) c.1 c.2.1 c.2.2.1 c.2.2.2.1)
  (Q:=fun c cO=>cO=st/\LoG κ a b (N+1) c.1 c.2.1 c.2.2.1 c.2.2.2.1) ?step ?fin ⟨rfl,h⟩) ?post)
 case fin=>
  rintro c cO ⟨rfl,h1,h2,h3,h4,h5⟩;have :=H.na;exact⟨rfl,.inr ⟨h1,h2,h3,h4,()⟩⟩
 case step=>
  rintro x ⟨r,out,ia,ib,ac,bc⟩ cO _ hx ⟨rfl,hc⟩;have hr:r=none:=hc.1;subst hr;refine fR (nk C H (hs.kind.trans hk0) hc) ?_;rintro(c |c) fV ⟨rfl,h'⟩
  ·refine⟨rfl,?_⟩;rcases h' with h' |⟨a1,a2,a3,a4,a5⟩
   ·exact .inl h'
   ·exact .inr ⟨a1,a2,a3,a4,()⟩
  ·exact⟨rfl,h'⟩
 case post=>
  rintro⟨r,out,ia,ib,ac,bc⟩ cO ⟨rfl,hc⟩;rcases hc with⟨x,hx,hg⟩ |hc
  ·have hx:r=some x:=hx;subst hx;exact bI ⟨hs,x,rfl,hg⟩
  ·have hr:r=none:=hc.1;subst hr;dsimp only;refine aY (jx (iO ⟨rfl,?_⟩));refine aY (fR (eI
    (I:=fun x c cO=>iK st0 cO/\WL κ a b (N+1) c.1 c.2.1 c.2.2.1 c.2.2.2.1)
    (Q:=fun c cO=>iK st0 cO/\LoG κ a b (N+1) c.1 c.2.1 c.2.2.1 c.2.2.2.1) ?_ ?_ ⟨hs,hc⟩) ?_)
   ·rintro x ⟨r,out,ia,ib,mg,ac,bc⟩ cO _ hx ⟨fC,hc⟩;have hr:r=none:=hc.1;subst hr;refine fR (nh C H (fC.kind.trans hk0) fC hc) ?_;rintro(c |c) fV h'<;>exact h'
   ·rintro c cO ⟨h1,h2⟩;exact⟨h1,.inr h2⟩
   ·rintro⟨r,out,ia,ib,mg,ac,bc⟩ cO ⟨fC,hc⟩;rcases hc with⟨x,hx,hg⟩ |hc
    ·have hx:r=some x:=hx;subst hx;exact bI ⟨fC,x,rfl,hg⟩
    ·have hr:r=none:=hc.1;subst hr;dsimp only;rw[YF];exact aY (mM (bI ⟨fC.gal _,hc⟩))
theorem FE(C:lB M A E s kd S κ)(H:pH S κ a b)(hk:kindOf st=kd){Q:Array Keyed->SortSt->Prop}(h:∀out cO,iK st cO->sY κ a b out->Q out cO):wpS M A E s (XR a b) Q st:=by
 have h0:=H.na;have h0':=H.nb;obtain⟨y,ey,hy⟩:=xZ (arr:=b) (i:=0) ();rw[BR];refine aY (jx (iO ⟨rfl,?_⟩));refine aY (yL ey ?_);have ky:=yP (κ:=κ) ey;have hn:nZ κ a b #[y] 0 1:=by
  have :=nZ.pushB (out:= #[]) H oX.nil ey fun i g1 g2=>by
   have :=H.b0 i g2;lia
  simpa using this
 by_cases he:1=b.size
 ·rw[aL (by simpa using he)];exact bI (h _ _ .rfl' (hn.dn H he))
 ·rw[aH (by simpa using he)];by_cases he2:0+1=a.size
  ·rw[aL (by simpa using he2)];exact bI (h _ _ .rfl' (hn.ls H he2))
  ·rw[aH (by simpa using he2)];refine aY (DG ?_);refine aY (fR (eI
    (I:=fun x c cO=>iK st cO/\WL κ a b (x+1) c.1 c.2.1 c.2.2.1 c.2.2.2.1)
    (Q:=fun c cO=>iK st cO/\∃x,c.1=some x/\sY κ a b x) ?_ ?_ ⟨.rfl',(nc (N:=0+1) hn () () () :)⟩) ?_)
   ·rintro x ⟨r,out,ia,ib,mg⟩ cO _ hx ⟨fC,hc⟩;have hr:r=none:=hc.1;subst hr;refine fR (ng C H hk fC hc) ?_;rintro(c |c) fV ⟨h1,h2⟩
    ·exact⟨h1,h2⟩
    ·exact⟨h1,h2⟩
   ·rintro c cO ⟨h1,-,h2,h3,h4,h5⟩;lia
   ·rintro⟨r,c⟩ cO ⟨h1,x,hx,hg⟩;have hx:r=some x:=hx;subst hx;exact bI (h _ _ h1 hg)
end
def ab(a b out:Array Keyed)(na nb:Nat):Array Keyed:=a.extract 0 na++b.extract 0 nb++out.reverse
def fsH(a b out:Array Keyed)(na nb:Nat):Array Keyed:=b.extract 0 nb++a.extract 0 na++out.reverse
abbrev HiA:=Option (Array Keyed)×Nat×Nat×Array Keyed×Nat×Nat
abbrev qr:=Option (Array Keyed)×Nat×Nat×Array Keyed×Nat×Nat×Nat
abbrev HiC:=Option (Array Keyed)×Nat×Nat×Array Keyed×Nat
def hi1(a b:Array Keyed)(mg:Nat)(c:HiA):SM (ForInStep HiA):=
 elem' b (c.2.2.1-1) >>= fun y=>elem' a (c.2.1-1) >>= fun x=>lt' y x >>= fun o=>match o with
  |some w=>if w=true then elem' a (c.2.1-1) >>= fun z=>
   if(c.2.1-1==0)=true then pure (ForInStep.done (some (ab a b (c.2.2.2.1.push z) (c.2.1-1) c.2.2.1),c.2.1-1,c.2.2.1,c.2.2.2.1.push z,c.2.2.2.2.1+1,0))
   else if c.2.2.2.2.1+1≥mg then pure (ForInStep.done (none,c.2.1-1,c.2.2.1,c.2.2.2.1.push z,c.2.2.2.2.1+1,0))
   else pure (ForInStep.yield (none,c.2.1-1,c.2.2.1,c.2.2.2.1.push z,c.2.2.2.2.1+1,0))
   else elem' b (c.2.2.1-1) >>= fun z=>
    if(c.2.2.1-1==1)=true then pure (ForInStep.done (some (fsH a b (c.2.2.2.1.push z) c.2.1 (c.2.2.1-1)),c.2.1,c.2.2.1-1,c.2.2.2.1.push z,0,c.2.2.2.2.2+1))
    else if c.2.2.2.2.2+1≥mg then pure (ForInStep.done (none,c.2.1,c.2.2.1-1,c.2.2.2.1.push z,0,c.2.2.2.2.2+1))
    else pure (ForInStep.yield (none,c.2.1,c.2.2.1-1,c.2.2.2.1.push z,0,c.2.2.2.2.2+1))
  |_=>pure (ForInStep.done (some (ab a b c.2.2.2.1 c.2.1 c.2.2.1),c.2.1,c.2.2.1,c.2.2.2.1,c.2.2.2.2.1,c.2.2.2.2.2))
def fw(a b:Array Keyed)(mg:Nat)(out:Array Keyed)(na nb ac bc:Nat):SM (ForInStep qr):=
 elem' a (na-1) >>= fun z=>if(na-1==0)=true then pure (ForInStep.done (some (ab a b (out.push z) (na-1) nb),na-1,nb,out.push z,mg,ac,bc))
  else if(decide (ac<7)&&decide (bc<7))=true then pure (ForInStep.done (none,na-1,nb,out.push z,mg,ac,bc))
  else pure (ForInStep.yield (none,na-1,nb,out.push z,mg,ac,bc))
def fx(a b:Array Keyed)(mg:Nat)(out:Array Keyed)(na nb ac bc:Nat):SM (ForInStep qr):=
 elem' b (nb-1) >>= fun z=>if(nb-1==1)=true then pure (ForInStep.done (some (fsH a b (out.push z) na (nb-1)),na,nb-1,out.push z,mg,ac,bc))
  else elem' a (na-1) >>= fun x=>jO true x b 0 (nb-1) (nb-1-1) >>= fun o=>match o with
   |some k=>if nb-1-k>0 then(if(k==1)=true then pure (ForInStep.done (some (fsH a b (out.push z++(b.extract k (nb-1)).reverse) na k),na,k,out.push z++(b.extract k (nb-1)).reverse,mg,ac,nb-1-k))
    else if(k==0)=true then pure (ForInStep.done (some (ab a b (out.push z++(b.extract k (nb-1)).reverse) na k),na,k,out.push z++(b.extract k (nb-1)).reverse,mg,ac,nb-1-k))
    else fw a b mg (out.push z++(b.extract k (nb-1)).reverse) na k ac (nb-1-k))
    else fw a b mg (out.push z) na (nb-1) ac (nb-1-k)
   |_=>pure (ForInStep.done (some (ab a b (out.push z) na (nb-1)),na,nb-1,out.push z,mg,ac,bc))
def fy(a b:Array Keyed)(mg:Nat)(out:Array Keyed)(na nb ac bc:Nat):SM (ForInStep qr):=
 PD mg >>= fun _=>elem' b (nb-1) >>= fun y=>jO false y a 0 na (na-1) >>= fun o=>match o with
  |some k=>if na-k>0 then(if(k==0)=true then pure (ForInStep.done (some (ab a b (out++(a.extract k na).reverse) k nb),k,nb,out++(a.extract k na).reverse,mg,na-k,bc))
   else fx a b mg (out++(a.extract k na).reverse) k nb (na-k) bc)
   else fx a b mg out na nb (na-k) bc
  |_=>pure (ForInStep.done (some (ab a b out na nb),na,nb,out,mg,ac,bc))
def hi2(a b:Array Keyed)(c:qr):SM (ForInStep qr):=
 if c.2.2.2.2.1>1 then fy a b (c.2.2.2.2.1-1) c.2.2.2.1 c.2.1 c.2.2.1 c.2.2.2.2.2.1 c.2.2.2.2.2.2 else fy a b c.2.2.2.2.1 c.2.2.2.1 c.2.1 c.2.2.1 c.2.2.2.2.2.1 c.2.2.2.2.2.2
def hi3(a b:Array Keyed)(c:HiC):SM (ForInStep HiC):=
 (forIn [:a.size+b.size] ((none,c.2.1,c.2.2.1,c.2.2.2.1,0,0):HiA) fun _ d=>hi1 a b c.2.2.2.2 d) >>= fun d=>match d.1 with
  |some r=>pure (ForInStep.done (some r,d.2.1,d.2.2.1,d.2.2.2.1,c.2.2.2.2))
  |none=>liftM (rule "list.sort.gallop") >>= fun _=>(forIn [:a.size+b.size] ((none,d.2.1,d.2.2.1,d.2.2.2.1,c.2.2.2.2+1,d.2.2.2.2.1,d.2.2.2.2.2):qr) fun _ e=>hi2 a b e) >>= fun e=>match e.1 with
   |some r=>pure (ForInStep.done (some r,e.2.1,e.2.2.1,e.2.2.2.1,e.2.2.2.2.1))
   |none=>PD (e.2.2.2.2.1+1) >>= fun _=>pure (ForInStep.yield (none,e.2.1,e.2.2.1,e.2.2.2.1,e.2.2.2.2.1+1))
def XS:Array Keyed->Array Keyed->SM (Array Keyed):=sortPriv% PySem.Builtin.mergeHi
theorem BS(a b:Array Keyed):XS a b=(liftM (rule "list.sort.merge-hi") >>= fun _=>elem' a (a.size-1) >>= fun z=>
 if(a.size-1==0)=true then pure (ab a b #[z] (a.size-1) b.size)else if(b.size==1)=true then pure (fsH a b #[z] (a.size-1) b.size)
 else get >>= fun st=>(forIn [:a.size+b.size] ((none,a.size-1,b.size,#[z],gallopOf st):HiC) fun _ c=>hi3 a b c) >>= fun c=>match c.1 with
  |some r=>pure r
  |none=>liftM (unsupported "internal:list.sort.merge-bound")):=by
 show(_ >>= _:SM _)=_
 congr 1;funext u
 show(_ >>= _:SM _)=_
 congr 1;funext z
 by_cases h:(a.size-1==0)=true
 ·exact(aL h).trans (aL h).symm
 ·refine(aH h).trans (Eq.trans ?_ (aH h).symm);by_cases h2:(b.size==1)=true
  ·exact(aL h2).trans (aL h2).symm
  ·refine(aH h2).trans (Eq.trans ?_ (aH h2).symm);show(_ >>= _:SM _)=_
   congr 1;funext st
   show(_ >>= _:SM _)=_
   congr 1
   ·congr 1;funext x c
    delta hi3
    show(_ >>= _:SM _)=_
    congr 1;funext d
    obtain⟨r,d⟩:=d;cases r
    ·show(_ >>= _:SM _)=_
     congr 1;funext v
     show(_ >>= _:SM _)=_
     congr 1;funext d
     obtain⟨r,d⟩:=d;cases r<;>rfl
    ·rfl
   ·funext c
    obtain⟨r,d⟩:=c;cases r<;>rfl
abbrev oR(κ:Keyed->Int)(a b out:Array Keyed)(na nb:Nat):Prop:=oX (fun x=> - κ x) a.toList.reverse b.toList.reverse out.toList (a.size-na) (b.size-nb)
section
variable {a b out:Array Keyed}
theorem XC{l:List Keyed}(h:l.Pairwise fun x y=>κ x<=κ y):l.reverse.Pairwise fun x y=> - κ x<= - κ y:=by
 rw[List.pairwise_reverse];exact h.imp fun h=>by lia
theorem uS{l:List Keyed}(h:n<=l.length):l.reverse.drop (l.length-n)=(l.take n).reverse:=by
 rw[List.drop_reverse,show l.length-(l.length-n)=n by lia]
theorem HS{l:List Keyed}{k:Nat}(h:n<=l.length)(hk:k<=n):(l.reverse.drop (l.length-n)).take (n-k)=((l.drop k).take (n-k)).reverse:=by
 rw[uS h,List.take_reverse,bX,show min n l.length-(n-k)=k by lia,List.drop_take]
theorem PY{a:Array Keyed}{k:Nat}(h:n<=a.size)(hk:k<=n):((a.extract k n).reverse).toList=(a.toList.reverse.drop (a.size-n)).take (n-k):=by
 rw[nM,eD,dR,←bR,HS (by simpa using h) hk]
theorem tZ{a:Array Keyed}{k:Nat}{x:Keyed}(h:n<=a.size)(hk:k<=n)(hx:x∈(a.toList.reverse.drop (a.size-n)).take (n-k)):∃i,k<=i/\i<n/\κ x=eF κ a i:=by
 rw[←bR,HS (by simpa using h) hk,List.mem_reverse]at hx;obtain⟨i,h1,h2,h3,h4⟩:=vV hx;exact⟨i,h1,(),vE h4⟩
theorem YG{a:Array Keyed}{x:Keyed}(h:n<=a.size)(hx:x∈a.toList.reverse.drop (a.size-n)):∃i,i<n/\κ x=eF κ a i:=by
 rw[←bR,uS (by simpa using h),List.mem_reverse]at hx;rw[show a.toList.take n=(a.toList.drop 0).take n by simp]at hx;obtain⟨i,h1,h2,h3,h4⟩:=vV hx;exact⟨i,(),vE h4⟩
theorem oR.appA(H:pH S κ a b)(ha:na<=a.size)(hb:nb<=b.size)(h:oR κ a b out na nb){k:Nat}(hk:k<=na)(hq:∀i,k<=i->i<na->∀j,j<nb->eF κ b j<=eF κ a i):oR κ a b (out++(a.extract k na).reverse) k nb:=by
 have :=oX.addA h (na-k) (XC (qS H.sa)) fun x hx y hy=>by
  obtain⟨i,h1,h2,h3⟩:=tZ (κ:=κ) ha hk hx;obtain⟨j,g1,g2⟩:=YG (κ:=κ) hb hy;have :=hq i h1 h2 j g1;show - κ x<= - κ y;lia
 rw[←PY ha hk,←cN,show a.size-na+(na-k)=a.size-k by lia]at this;exact this
theorem oR.appB(H:pH S κ a b)(ha:na<=a.size)(hb:nb<=b.size)(h:oR κ a b out na nb){k:Nat}(hk:k<=nb)(hq:∀j,k<=j->j<nb->∀i,i<na->eF κ a i<=eF κ b j):oR κ a b (out++(b.extract k nb).reverse) na k:=by
 have :=oX.addB h (nb-k) (XC (qS H.sb)) fun x hx y hy=>by
  obtain⟨i,h1,h2,h3⟩:=tZ (κ:=κ) hb hk hx;obtain⟨j,g1,g2⟩:=YG (κ:=κ) ha hy;have :=hq i h1 h2 j g1;show - κ x<= - κ y;lia
 rw[←PY hb hk,←cN,show b.size-nb+(nb-k)=b.size-k by lia]at this;exact this
theorem IJ{a:Array Keyed}(h1:1<=n)(hz:a[n-1]?=some z):(a.extract (n-1) n).reverse.toList=[z]:=by
 have hz':a.toList[n-1]?=some z:=by rw[cZ];exact hz
 rw[nM,eD,dR,show n-(n-1)=1 by lia,←RX hz'];rfl
theorem oR.pushA(H:pH S κ a b)(ha:na<=a.size)(hb:nb<=b.size)(h:oR κ a b out na nb)(h1:1<=na)(hz:a[na-1]?=some z)(hq:∀j,j<nb->eF κ b j<=κ z):oR κ a b (out.push z) (na-1) nb:=by
 have :=h.appA H ha hb (k:=na-1) () fun i g1 g2 j g3=>by
  have :i=na-1:=by lia
  subst this;rw[yP hz];exact hq j g3
 rw[oR,cN,IJ h1 hz,←UJ]at this;exact this
theorem oR.pushB(H:pH S κ a b)(ha:na<=a.size)(hb:nb<=b.size)(h:oR κ a b out na nb)(h1:1<=nb)(hz:b[nb-1]?=some z)(hq:∀j,j<na->eF κ a j<=κ z):oR κ a b (out.push z) na (nb-1):=by
 have :=h.appB H ha hb (k:=nb-1) () fun i g1 g2 j g3=>by
  have :i=nb-1:=by lia
  subst this;rw[yP hz];exact hq j g3
 rw[oR,cN,IJ h1 hz,←UJ]at this;exact this
theorem IN{la lb ol:List Keyed}(h:Mgd (fun x=> - κ x) la.reverse lb.reverse ol):Mgd κ la lb ol.reverse:=by
 refine⟨?_,?_⟩
 ·exact(GV _).trans (h.1.trans ((GV _).append (GV _)))
 ·rw[List.pairwise_reverse];exact h.2.imp fun h=>by dsimp only at h;lia
theorem QV{a:Array Keyed}:(a.extract 0 n).toList=a.toList.take n:=by simp
theorem oR.dn(H:pH S κ a b)(hb:nb<=b.size)(h:oR κ a b out na nb)(h0:na=0):sY κ a b (ab a b out na nb):=by
 subst h0;have :=IN (h.endB (XC (qS H.sb)) (by simp));rw[←bR (xs:=b),uS (by simpa using hb),sU,rX]at this;rw[sY,ab,cN,cN,QV,QV,nM,List.take_zero,WV];exact this
theorem oR.fs(H:pH S κ a b)(ha:na<=a.size)(h:oR κ a b out na nb)(h0:nb=1):sY κ a b (fsH a b out na nb):=by
 subst h0;have h1:=oX.addA h a.size (XC (qS H.sa)) fun x hx y hy=>by
  obtain⟨i,h1,h2⟩:=YG (κ:=κ) ha (iT hx);obtain⟨j,g1,g2⟩:=YG (κ:=κ) H.nb hy;have :j=0:=by lia
  subst this;have :=H.b0 i ();show - κ x<= - κ y;lia
 rw[aS (l:=a.toList.reverse.drop (a.size-na)) (by simp)]at h1;have :=IN (h1.endB (XC (qS H.sb)) (by simp));have e1:a.toList.reverse.drop (a.size-na)=(a.toList.take na).reverse:=by rw[←bR,uS (by simpa using ha)]
 have e2:b.toList.reverse.drop (b.size-1)=(b.toList.take 1).reverse:=by rw[←bR,uS (by simpa using H.nb)]
 rw[e1,e2,sU,sU,rX,rX,←cL]at this;rw[sY,fsH,cN,cN,QV,QV,nM];exact this
end
def WN(κ:Keyed->Int)(a b:Array Keyed)(N:Nat)(r:Option (Array Keyed))(out:Array Keyed)(na nb:Nat):Prop:=
 r=none/\oR κ a b out na nb/\1<=na/\2<=nb/\na<=a.size/\nb<=b.size/\na+nb+N<=a.size+b.size
def HiG(κ:Keyed->Int)(a b:Array Keyed)(N:Nat)(r:Option (Array Keyed))(out:Array Keyed)(na nb:Nat):Prop:=
 (∃x,r=some x/\sY κ a b x)\/WN κ a b N r out na nb
theorem hin{a b out:Array Keyed}{N:Nat}(h1:oR κ a b out na nb)(h2:1<=na)(h3:2<=nb)(h4:na<=a.size)(h5:nb<=b.size)(h6:na+nb+N<=a.size+b.size):WN κ a b N none out na nb:=⟨rfl,h1,h2,h3,h4,h5,h6⟩
section
variable {a b:Array Keyed}
theorem ox(C:lB M A E s kd S κ)(H:pH S κ a b)(hk:kindOf st=kd){N mg:Nat}{out:Array Keyed}(h:WN κ a b N none out na nb):
 wpS M A E s (hi1 a b mg (none,na,nb,out,ac,bc)) (fun r cO=>cO=st/\match r with
  | .done c=>HiG κ a b (N+1) c.1 c.2.2.2.1 c.2.1 c.2.2.1
  | .yield c=>WN κ a b (N+1) c.1 c.2.2.2.1 c.2.1 c.2.2.1) st:=by
 obtain⟨-,h1,h2,h3,h4,h5,h6⟩:=h;obtain⟨x,ex,hx⟩:=xZ (arr:=a) (i:=na-1) ();obtain⟨y,ey,hy⟩:=xZ (arr:=b) (i:=nb-1) ();unfold hi1;refine aY (yL ey (aY (yL ex (aY (C.lt (H.mb y hy) (H.ma x hx) hk ?_)))));have kx:=yP (κ:=κ) ex;have ky:=yP (κ:=κ) ey;by_cases hl:κ y<κ x
 ·simp only[hl,decide_true,if_true];refine aY (yL ex ?_);have hn:oR κ a b (out.push x) (na-1) nb:=h1.pushA H h4 h5 h2 ex fun i g1=>by
   have :=H.sb i (nb-1) () () ();lia
  by_cases he:na-1=0
  ·rw[aL (by simpa using he)];exact bI ⟨rfl,.inl ⟨_,rfl,hn.dn H h5 he⟩⟩
  ·rw[aH (by simpa using he)];split
   ·exact bI ⟨rfl,.inr (hin (N:=N+1) hn () () () () () :)⟩
   ·exact bI ⟨rfl,(hin (N:=N+1) hn () () () () () :)⟩
 ·simp only[hl,decide_false,bV,dP];refine aY (yL ey ?_);have hn:oR κ a b (out.push y) na (nb-1):=h1.pushB H h4 h5 () ey fun i g1=>by
   have :=H.sa i (na-1) () () ();lia
  by_cases he:nb-1=1
  ·rw[aL (by simpa using he)];exact bI ⟨rfl,.inl ⟨_,rfl,hn.fs H h4 he⟩⟩
  ·rw[aH (by simpa using he)];split
   ·exact bI ⟨rfl,.inr (hin (N:=N+1) hn () () () () () :)⟩
   ·exact bI ⟨rfl,(hin (N:=N+1) hn () () () () () :)⟩
abbrev ip(κ:Keyed->Int)(a b:Array Keyed)(N:Nat)(st:SortSt)(r:ForInStep qr)(cO:SortSt):Prop:=iK st cO/\match r with
 | .done c=>HiG κ a b N c.1 c.2.2.2.1 c.2.1 c.2.2.1
 | .yield c=>WN κ a b N c.1 c.2.2.2.1 c.2.1 c.2.2.1
theorem IZ(H:pH S κ a b){N mg:Nat}{out:Array Keyed}(hs:iK st0 st)(h1:oR κ a b out na nb)(h2:1<=na)(h3:2<=nb)(h4:na<=a.size)(h5:nb<=b.size)(h6:na+nb+N<=a.size+b.size)
 (hq:∀j,j<nb->eF κ b j<=eF κ a (na-1)):wpS M A E s (fw a b mg out na nb ac bc) (ip κ a b N st0) st:=by
 obtain⟨x,ex,hx⟩:=xZ (arr:=a) (i:=na-1) ();unfold fw;refine aY (yL ex ?_);have kx:=yP (κ:=κ) ex;have hn:oR κ a b (out.push x) (na-1) nb:=h1.pushA H h4 h5 h2 ex fun i g1=>by rw[←kx];exact hq i g1
 by_cases he:na-1=0
 ·rw[aL (by simpa using he)];exact bI ⟨hs,.inl ⟨_,rfl,hn.dn H h5 he⟩⟩
 ·rw[aH (by simpa using he)];split
  ·exact bI ⟨hs,.inr (hin (N:=N) hn () () () () () :)⟩
  ·exact bI ⟨hs,(hin (N:=N) hn () () () () () :)⟩
theorem KA(C:lB M A E s kd S κ)(H:pH S κ a b)(hk:kindOf st=kd){N mg:Nat}{out:Array Keyed}(hs:iK st0 st)(h1:oR κ a b out na nb)(h2:1<=na)(h3:2<=nb)(h4:na<=a.size)(h5:nb<=b.size)(h6:na+nb+N<=a.size+b.size)
 (hq:∀i,i<na->eF κ a i<=eF κ b (nb-1)):wpS M A E s (fx a b mg out na nb ac bc) (ip κ a b N st0) st:=by
 obtain⟨y,ey,hy⟩:=xZ (arr:=b) (i:=nb-1) ();obtain⟨x,ex,hx⟩:=xZ (arr:=a) (i:=na-1) ();unfold fx;refine aY (yL ey ?_);have ky:=yP (κ:=κ) ey;have kx:=yP (κ:=κ) ex;have hn:oR κ a b (out.push y) na (nb-1):=h1.pushB H h4 h5 () ey fun i g1=>by rw[←ky];exact hq i g1
 by_cases he:nb-1=1
 ·rw[aL (by simpa using he)];exact bI ⟨hs,.inl ⟨_,rfl,hn.fs H h4 he⟩⟩
 ·rw[aH (by simpa using he)];refine aY (yL ex ?_);refine aY (UZ C hk H.mb (H.ma x hx) () (fun p q r1 r2 r3=>H.sb p q () r2 ()) () fun k g1 g2 g3=>?_);dsimp only;simp only[iE]at g2 g3;have hk1:1<=k:=by
   by_cases hc:1<=k
   ·exact hc
   ·have :=g3 0 () ();have :=H.b0 (na-1) ();lia
  have hm:oR κ a b (out.push y++(b.extract k (nb-1)).reverse) na k:=hn.appB H h4 () g1 fun j r1 r2 i r3=>by
   have :=g3 j () ();have :=H.sa i (na-1) () () ();lia
  have hr:∀j,j<k->eF κ b j<=eF κ a (na-1):=fun j r1=>by
   have :=g2 j r1;lia
  by_cases hz:nb-1-k>0
  ·rw[aL hz];by_cases he:k=1
   ·rw[aL (by simpa using he)];exact bI ⟨hs,.inl ⟨_,rfl,hm.fs H h4 he⟩⟩
   ·rw[aH (by simpa using he),aH (by simp;lia)];exact IZ H hs hm h2 () h4 () () hr
  ·rw[aH hz];have :k=nb-1:=by lia
   subst this;exact IZ H hs hn h2 () h4 () () hr
theorem KB(C:lB M A E s kd S κ)(H:pH S κ a b)(hk:kindOf st=kd){N mg:Nat}{out:Array Keyed}(hs:iK st0 st)(h1:oR κ a b out na nb)(h2:1<=na)(h3:2<=nb)(h4:na<=a.size)(h5:nb<=b.size)(h6:na+nb+N<=a.size+b.size):
 wpS M A E s (fy a b mg out na nb ac bc) (ip κ a b N st0) st:=by
 obtain⟨y,ey,hy⟩:=xZ (arr:=b) (i:=nb-1) ();unfold fy;rw[YF];refine aY (mM (aY (yL ey ?_)));have fC:=hs.gal mg;have hk':kindOf (UF st mg)=kd:=hk;have ky:=yP (κ:=κ) ey;refine aY (UY C hk' H.ma (H.mb y hy) () (fun p q r1 r2 r3=>H.sa p q () r2 ()) () fun k g1 g2 g3=>?_);dsimp only;simp only[iE]at g2 g3;have hm:oR κ a b (out++(a.extract k na).reverse) k nb:=h1.appA H h4 h5 g1 fun j r1 r2 i r3=>by
  have :=g3 j () ();have :=H.sb i (nb-1) () () ();lia
 have hr:∀j,j<k->eF κ a j<=eF κ b (nb-1):=fun j r1=>by
  have :=g2 j r1;lia
 by_cases hz:na-k>0
 ·rw[aL hz];by_cases he:k=0
  ·rw[aL (by simpa using he)];exact bI ⟨fC,.inl ⟨_,rfl,hm.dn H h5 he⟩⟩
  ·rw[aH (by simpa using he)];exact KA C H hk' fC hm () h3 () h5 () hr
 ·rw[aH hz];have :k=na:=by lia
  subst this;exact KA C H hk' fC h1 h2 h3 h4 h5 () hr
theorem ou(C:lB M A E s kd S κ)(H:pH S κ a b)(hk:kindOf st=kd){N mg:Nat}{out:Array Keyed}(hs:iK st0 st)(h:WN κ a b N none out na nb):
 wpS M A E s (hi2 a b (none,na,nb,out,mg,ac,bc)) (ip κ a b N st0) st:=by
 obtain⟨-,h1,h2,h3,h4,h5,h6⟩:=h;unfold hi2;dsimp only;split
 ·exact KB C H hk hs h1 h2 h3 h4 h5 h6
 ·exact KB C H hk hs h1 h2 h3 h4 h5 h6
theorem oq(C:lB M A E s kd S κ)(H:pH S κ a b)(hk0:kindOf st0=kd){N mg:Nat}{out:Array Keyed}(hs:iK st0 st)(h:WN κ a b N none out na nb):
 wpS M A E s (hi3 a b (none,na,nb,out,mg)) (fun r cO=>iK st0 cO/\match r with
  | .done c=>∃x,c.1=some x/\sY κ a b x
  | .yield c=>WN κ a b (N+1) c.1 c.2.2.2.1 c.2.1 c.2.2.1) st:=by
 unfold hi3;dsimp only;refine aY (fR (eI
  (I:=fun x c cO=>cO=st/\WN κ a b (N+x) c.1 c.2.2.2.1 c.2.1 c.2.2.1)
  (Q:=fun c cO=>cO=st/\HiG κ a b (N+1) c.1 c.2.2.2.1 c.2.1 c.2.2.1) ?step ?fin ⟨rfl,h⟩) ?post)
 case fin=>
  rintro c cO ⟨rfl,h1,h2,h3,h4,h5,h6,h7⟩;have :=H.na;exact⟨rfl,.inr ⟨h1,h2,h3,h4,h5,h6,()⟩⟩
 case step=>
  rintro x ⟨r,na,nb,out,ac,bc⟩ cO _ hx ⟨rfl,hc⟩;have hr:r=none:=hc.1;subst hr;refine fR (ox C H (hs.kind.trans hk0) hc) ?_;rintro(c |c) fV ⟨rfl,h'⟩
  ·refine⟨rfl,?_⟩;rcases h' with h' |⟨a1,a2,a3,a4,a5,a6,a7⟩
   ·exact .inl h'
   ·exact .inr ⟨a1,a2,a3,a4,a5,a6,()⟩
  ·exact⟨rfl,h'⟩
 case post=>
  rintro⟨r,na,nb,out,ac,bc⟩ cO ⟨rfl,hc⟩;rcases hc with⟨x,hx,hg⟩ |hc
  ·have hx:r=some x:=hx;subst hx;exact bI ⟨hs,x,rfl,hg⟩
  ·have hr:r=none:=hc.1;subst hr;dsimp only;refine aY (jx (iO ⟨rfl,?_⟩));refine aY (fR (eI
    (I:=fun x c cO=>iK st0 cO/\WN κ a b (N+1) c.1 c.2.2.2.1 c.2.1 c.2.2.1)
    (Q:=fun c cO=>iK st0 cO/\HiG κ a b (N+1) c.1 c.2.2.2.1 c.2.1 c.2.2.1) ?_ ?_ ⟨hs,hc⟩) ?_)
   ·rintro x ⟨r,na,nb,out,mg,ac,bc⟩ cO _ hx ⟨fC,hc⟩;have hr:r=none:=hc.1;subst hr;refine fR (ou C H (fC.kind.trans hk0) fC hc) ?_;rintro(c |c) fV h'<;>exact h'
   ·rintro c cO ⟨h1,h2⟩;exact⟨h1,.inr h2⟩
   ·rintro⟨r,na,nb,out,mg,ac,bc⟩ cO ⟨fC,hc⟩;rcases hc with⟨x,hx,hg⟩ |hc
    ·have hx:r=some x:=hx;subst hx;exact bI ⟨fC,x,rfl,hg⟩
    ·have hr:r=none:=hc.1;subst hr;dsimp only;rw[YF];exact aY (mM (bI ⟨fC.gal _,hc⟩))
theorem FF(C:lB M A E s kd S κ)(H:pH S κ a b)(hk:kindOf st=kd){Q:Array Keyed->SortSt->Prop}(h:∀out cO,iK st cO->sY κ a b out->Q out cO):wpS M A E s (XS a b) Q st:=by
 have h0:=H.na;have h0':=H.nb;obtain⟨x,ex,hx⟩:=xZ (arr:=a) (i:=a.size-1) ();rw[BS];refine aY (jx (iO ⟨rfl,?_⟩));refine aY (yL ex ?_);have kx:=yP (κ:=κ) ex;have hn:oR κ a b #[x] (a.size-1) b.size:=by
  have h00:oR κ a b #[] a.size b.size:=by
   show oX _ _ _ _ _ _;rw[fM,fM];exact oX.nil
  have :=h00.pushA H (aG _) (aG _) h0 ex fun i g1=>by
   have :=H.al i g1;lia
  simpa using this
 by_cases he:a.size-1=0
 ·rw[aL (by simpa using he)];exact bI (h _ _ .rfl' (hn.dn H (aG _) he))
 ·rw[aH (by simpa using he)];by_cases he2:b.size=1
  ·rw[aL (by simpa using he2)];exact bI (h _ _ .rfl' (hn.fs H () he2))
  ·rw[aH (by simpa using he2)];refine aY (DG ?_);refine aY (fR (eI
    (I:=fun x c cO=>iK st cO/\WN κ a b (x+1) c.1 c.2.2.2.1 c.2.1 c.2.2.1)
    (Q:=fun c cO=>iK st cO/\∃x,c.1=some x/\sY κ a b x) ?_ ?_ ⟨.rfl',(hin (N:=0+1) hn () () () () () :)⟩) ?_)
   ·rintro x ⟨r,na,nb,out,mg⟩ cO _ hx ⟨fC,hc⟩;have hr:r=none:=hc.1;subst hr;refine fR (oq C H hk fC hc) ?_;rintro(c |c) fV ⟨h1,h2⟩
    ·exact⟨h1,h2⟩
    ·exact⟨h1,h2⟩
   ·rintro c cO ⟨h1,-,h2,h3,h4,h5,h6,h7⟩;lia
   ·rintro⟨r,c⟩ cO ⟨h1,x,hx,hg⟩;have hx:r=some x:=hx;subst hx;exact bI (h _ _ h1 hg)
end
def NR(sa:Nat)(l:List (Keyed×Nat))(xs:Array Keyed):Array Keyed:=l.foldl (fun a x=>a.setIfInBounds (sa+x.2) x.1) xs
theorem DO(sa:Nat):∀(ms:List Keyed)(n:Nat)(xs:Array Keyed),sa+n+ms.length<=xs.size->∀k,(NR sa (ms.zipIdx n) xs)[k]?=if sa+n<=k/\k<sa+n+ms.length then ms[k-(sa+n)]? else xs[k]?
 |[],n,xs,h,k=>by
  rw[aH (by simp only[nT];lia)];rfl
 |m::ms,n,xs,h,k=>by
  rw[List.zipIdx_cons];show(NR sa (ms.zipIdx (n+1)) (xs.setIfInBounds (sa+n) m))[k]?=_;simp only[bD]at h⊢;rw[DO sa ms (n+1) _ (by rw[Array.size_setIfInBounds];lia) k,Array.getElem?_setIfInBounds];by_cases h1:sa+n=k
  ·rw[aH (),aL h1,aL (),aL ()];rw[show k-(sa+n)=0 by lia];rfl
  ·rw[aH h1];by_cases h2:sa+(n+1)<=k/\k<sa+(n+1)+ms.length
   ·rw[aL h2,aL (),show k-(sa+n)=(k-(sa+(n+1)))+1 by lia];rfl
   ·rw[aH h2,aH ()]
theorem wrF_l{sa:Nat}{ms:List Keyed}{xs:Array Keyed}(h:sa+ms.length<=xs.size):(NR sa ms.zipIdx xs).toList=xs.toList.take sa++ms++xs.toList.drop (sa+ms.length):=by
 apply List.ext_getElem?;intro k;rw[cZ,DO sa ms 0 xs () k];simp only[Nat.add_zero];have hl:(xs.toList.take sa).length=sa:=by rw[bX,bR];lia
 by_cases h1:k<sa
 ·rw[aH (),cL,bC (),List.getElem?_take,aL h1,cZ]
 ·by_cases h2:k<sa+ms.length
  ·rw[aL (),bC (by rw[aI];lia),bL (),hl]
  ·rw[aH (),bL (by rw[aI];lia),aI,hl,List.getElem?_drop,cZ]
   congr 1;lia
theorem OB{sa:Nat}{ms:List Keyed}{xs:Array Keyed}(h:sa+ms.length<=xs.size)(hp:ms.Perm ((xs.toList.drop sa).take ms.length)):(NR sa ms.zipIdx xs).toList.Perm xs.toList:=by
 rw[wrF_l h];have e:xs.toList=xs.toList.take sa++(xs.toList.drop sa).take ms.length++xs.toList.drop (sa+ms.length):=by
  rw[cL,←rZ,dM,dM]
 exact((hp.append_left _).append_right _).trans (by rw[←e])
structure SB(kd:SortKind)(a₀:Array Keyed)(st:SortSt):Prop where
 perm:(arrOf st).toList.Perm a₀.toList
 kind:kindOf st=kd
 fail:failedOf st=none
theorem SB.size(h:SB kd a₀ st):(arrOf st).size=a₀.size:=by
 have :=h.perm.length_eq;simpa using this
theorem SB.mem(h:SB kd a₀ st)(h0:∀p,p∈a₀.toList->S p):∀p,p∈(arrOf st).toList->S p:=fun p hp=>h0 p (h.perm.mem_iff.mp hp)
theorem SB.setArr(h:SB kd a₀ st){xs:Array Keyed}(hp:xs.toList.Perm (arrOf st).toList):SB kd a₀ (setArr st xs):=⟨hp.trans h.perm,h.kind,h.fail⟩
theorem ao{cO:SortSt}{Q:PUnit->SortSt->Prop}(h:Q ⟨⟩ cO):wpS M A E s (set cO:SM PUnit) Q st:=by
 unfold wpS;rw[StateT.run_set];exact aR ⟨rfl,h⟩
def mgC(sa:Nat)(ms:Array Keyed):SM Bool:=modify (fun s=>setArr s (NR sa ms.toList.zipIdx (arrOf s))) >>= fun _=>get >>= fun s=>pure (failedOf s).isNone
def mgB(st:SortSt)(sa na sb nb:Nat):SM Bool:=
 if(na==0)=true then pure true else elem' (arrOf st) (sa+na-1) >>= fun key=>jO true key (arrOf st) sb nb (nb-1) >>= fun o=>match o with
  |some nb=>if(nb==0)=true then pure true else if na<=nb then XR ((arrOf st).extract sa sb) ((arrOf st).extract sb (sb+nb)) >>= fun m=>mgC sa m else XS ((arrOf st).extract sa sb) ((arrOf st).extract sb (sb+nb)) >>= fun m=>mgC sa m
  |_=>pure false
def mgA(st:SortSt)(i sa na pw sb nb:Nat):SM Bool:=
 set (setPending st (((pendingOf st).setIfInBounds i (sa,na+nb,pw)).eraseIdxIfInBounds (i+1))) >>= fun _=>elem' (arrOf st) sb >>= fun key=>jO false key (arrOf st) sa na 0 >>= fun o=>match o with
  |some k=>mgB st (sa+k) (na-k) sb nb
  |_=>pure false
theorem BU(i:Nat):mergeAt' i=(get >>= fun st=>match((pendingOf st)[i]?,(pendingOf st)[i+1]?)with
 |(some (sa,na,pw),some (sb,nb,_))=>mgA st i sa na pw sb nb
 |_=>liftM (unsupported "internal:list.sort.pending")):=rfl
theorem py{xs:Array Keyed}{k:Nat}(h:i+k<j):(xs.extract i j)[k]?=xs[i+k]?:=by
 rw[Array.getElem?_extract];split
 ·rfl
 ·next h1=>rw[Array.getElem?_eq_none ()]
theorem ZS{xs:Array Keyed}{k:Nat}(h:i+k<j):eF κ (xs.extract i j) k=eF κ xs (i+k):=qH (py h)
theorem KJ{xs:Array Keyed}{p:Keyed}(h:p∈(xs.extract i j).toList):p∈xs.toList:=by
 rw[eD,dR]at h;exact List.mem_of_mem_drop (iT h)
theorem KM{xs:Array Keyed}(hj:j<=xs.size){p:Keyed}(h:p∈(xs.extract i j).toList):∃t,i<=t/\t<j/\κ p=eF κ xs t:=by
 rw[eD,dR]at h;obtain⟨t,h1,h2,h3,h4⟩:=vV h;exact⟨t,h1,(),vE h4⟩
theorem m9{cO:SortSt}{sa sb k n2:Nat}{ms:Array Keyed}{Q:Bool->SortSt->Prop}(hB:SB kd a₀ cO)(harr:arrOf cO=arrOf st)
 (hsb:sb=sa+na) (hle:sb+nb<=(arrOf st).size) (hsA:xX κ (arrOf st) sa (sa+na)) (hsB:xX κ (arrOf st) sb (sb+nb)) (hk:k<na) (hn2:n2<=nb) (hn0:0<n2)
 (hg1:∀i,i<k->eF κ (arrOf st) (sa+i)<=eF κ (arrOf st) sb) (hg2:∀i,n2<=i->i<nb->eF κ (arrOf st) (sb-1)<=eF κ (arrOf st) (sb+i))
 (hm:sY κ ((arrOf st).extract (sa+k) sb) ((arrOf st).extract sb (sb+n2)) ms)
 (h:∀fV,SB kd a₀ fV->pendingOf fV=pendingOf cO->xX κ (arrOf fV) sa (sb+nb)->(∀j,j<sa\/sb+nb<=j->(arrOf fV)[j]?=(arrOf st)[j]?)->Q true fV):wpS M A E s (mgC (sa+k) ms) Q cO:=by
 unfold mgC;have eO:ms.toList.length=na-k+n2:=by
  rw[hm.1.length_eq,aI,bR,bR,oN,oN];lia
 have e1:ms.toList.Perm (((arrOf st).toList.drop (sa+k)).take ms.toList.length):=by
  refine hm.1.trans (List.Perm.of_eq ?_);rw[eO,eD,eD,dR,dR,List.take_add,rZ,show sa+k+(na-k)=sb by lia,show sb-(sa+k)=na-k by lia,pM]
 have hfit:(sa+k)+ms.toList.length<=(arrOf st).size:=by lia
 refine aY (mM ?_);refine aY (DG ?_);have hB2:SB kd a₀ (setArr cO (NR (sa+k) ms.toList.zipIdx (arrOf cO))):=hB.setArr (by rw[harr];exact OB hfit e1);have hf:(failedOf (setArr cO (NR (sa+k) ms.toList.zipIdx (arrOf cO)))).isNone=true:=by rw[hB2.fail];rfl
 rw[hf];have hat:=DO (sa+k) ms.toList 0 (arrOf st) ();simp only[Nat.add_zero,eO]at hat;have hmi:∀p,sa+k<=p->p<sb+n2->∃t,sa+k<=t/\t<sb+n2/\eF κ (NR (sa+k) ms.toList.zipIdx (arrOf st)) p=eF κ (arrOf st) t:=by
  intro p h1 h2;have e:=hat p;rw[aL ()]at e;have lS:p-(sa+k)<ms.toList.length:=by lia
  rw[aA lS]at e;have hin:ms.toList[p-(sa+k)]∈ms.toList:=cW _;rw[hm.1.mem_iff,bO]at hin;rw[yP e];rcases hin with hin |hin
  ·obtain⟨t,b1,b2,b3⟩:=KM (κ:=κ) () hin;exact⟨t,b1,(),b3⟩
  ·obtain⟨t,b1,b2,b3⟩:=KM (κ:=κ) () hin;exact⟨t,(),b2,b3⟩
 have hou:∀p,p<sa+k\/sb+n2<=p->(NR (sa+k) ms.toList.zipIdx (arrOf st))[p]?=(arrOf st)[p]?:=fun p hp=>by rw[hat,aH ()]
 have hok:∀p,p<sa+k\/sb+n2<=p->eF κ (NR (sa+k) ms.toList.zipIdx (arrOf st)) p=eF κ (arrOf st) p:=fun p hp=>qH (hou p hp)
 have hlo:∀p t,sa<=p->p<sa+k->p<=t->t<sb+nb->eF κ (arrOf st) p<=eF κ (arrOf st) t:=by
  intro p t h1 h2 h3 h4;by_cases ht:t<sb
  ·exact hsA p t h1 h3 ()
  ·have :=hg1 (p-sa) ();rw[show sa+(p-sa)=p by lia]at this;have :=hsB sb t () () h4;lia
 have hhi:∀t q,sa<=t->t<=q->sb+n2<=q->q<sb+nb->eF κ (arrOf st) t<=eF κ (arrOf st) q:=by
  intro t q h1 h2 h3 h4;by_cases ht:t<sb
  ·have :=hsA t (sb-1) h1 () ();have :=hg2 (q-sb) () ();rw[show sb+(q-sb)=q by lia]at this;lia
  ·exact hsB t q () h2 h4
 refine bI (h _ hB2 rfl ?_ ?_)
 ·show xX κ (NR (sa+k) ms.toList.zipIdx (arrOf cO)) sa (sb+nb);rw[harr];intro p q h1 h2 h3;by_cases hp:p<sa+k
  ·rw[hok p (.inl hp)];by_cases hq:sa+k<=q/\q<sb+n2
   ·obtain⟨t,b1,b2,b3⟩:=hmi q hq.1 hq.2;rw[b3];exact hlo p t h1 hp () ()
   ·rw[hok q ()];exact hlo p q h1 hp h2 h3
  ·by_cases hq:sb+n2<=q
   ·rw[hok q (.inr hq)];by_cases mU:sb+n2<=p
    ·rw[hok p (.inr mU)];exact hhi p q h1 h2 hq h3
    ·obtain⟨t,b1,b2,b3⟩:=hmi p () ();rw[b3];exact hhi t q () () hq h3
   ·have ep:=hat p;have eq:=hat q;rw[aL (),aA ()]at ep eq;rw[yP ep,yP eq];by_cases hpq:p=q
    ·subst hpq;exact iD _
    ·exact(dJ.mp hm.2) _ _ _ _ ()
 ·intro j hj;show(NR (sa+k) ms.toList.zipIdx (arrOf cO))[j]?=_;rw[harr];exact hou j ()
theorem FG{sa pw sb w:Nat}{Q:Bool->SortSt->Prop}(C:lB M A E s kd S κ)(h0:∀p,p∈a₀.toList->S p)(hB:SB kd a₀ st)
 (h1:(pendingOf st)[i]?=some (sa,na,pw)) (h2:(pendingOf st)[i+1]?=some (sb,nb,w)) (hna:1<=na) (hnb:1<=nb)
 (hsb:sb=sa+na) (hle:sb+nb<=a₀.size) (hsA:xX κ (arrOf st) sa (sa+na)) (hsB:xX κ (arrOf st) sb (sb+nb))
 (h:∀cO,SB kd a₀ cO->pendingOf cO=((pendingOf st).setIfInBounds i (sa,na+nb,pw)).eraseIdxIfInBounds (i+1)->xX κ (arrOf cO) sa (sb+nb)->(∀j,j<sa\/sb+nb<=j->(arrOf cO)[j]?=(arrOf st)[j]?)->Q true cO):
 wpS M A E s (mergeAt' i) Q st:=by
 have hsz:=hB.size;rw[BU];refine aY (DG ?_);rw[h1,h2];dsimp only;unfold mgA;refine aY (ao ?_);have hB1:SB kd a₀ (setPending st (((pendingOf st).setIfInBounds i (sa,na+nb,pw)).eraseIdxIfInBounds (i+1))):=⟨hB.perm,hB.kind,hB.fail⟩
 obtain⟨y,ey,hy⟩:=xZ (arr:=arrOf st) (i:=sb) ();have ky:=yP (κ:=κ) ey;refine aY (yL ey ?_);refine aY (UY C hB1.kind (hB.mem h0) (hB.mem h0 y hy) () hsA () fun k g1 g2 g3=>?_);dsimp only;unfold mgB;by_cases hk:na-k=0
 ·rw[aL (by simpa using hk)];refine bI (h _ hB1 rfl ?_ fun j _=>rfl);intro p q b1 b2 b3;show eF κ (arrOf st) p<=eF κ (arrOf st) q;by_cases hq:q<sb
  ·exact hsA p q b1 b2 ()
  ·by_cases hp:p<sb
   ·have :=g2 (p-sa) ();rw[show sa+(p-sa)=p by lia]at this;have :=hsB sb q () () b3;lia
   ·exact hsB p q () b2 b3
 ·rw[aH (by simpa using hk)];obtain⟨x,ex,hx⟩:=xZ (arr:=arrOf st) (i:=sa+k+(na-k)-1) ();have kx:=yP (κ:=κ) ex;have ee:sa+k+(na-k)-1=sb-1:=by lia
  refine aY (yL ex ?_);refine aY (UZ C hB1.kind (hB.mem h0) (hB.mem h0 x hx) () hsB () fun n2 g4 g5 g6=>?_);dsimp only;rw[←kx,ee]at g5 g6;rw[←ky]at g2 g3;by_cases hn:n2=0
  ·rw[aL (by simpa using hn)];refine bI (h _ hB1 rfl ?_ fun j _=>rfl);intro p q b1 b2 b3;show eF κ (arrOf st) p<=eF κ (arrOf st) q;by_cases hq:q<sb
   ·exact hsA p q b1 b2 ()
   ·by_cases hp:p<sb
    ·have :=hsA p (sb-1) b1 () ();have :=g6 (q-sb) () ();rw[show sb+(q-sb)=q by lia]at this;lia
    ·exact hsB p q () b2 b3
  ·rw[aH (by simpa using hn)];have hzA:((arrOf st).extract (sa+k) sb).size=na-k:=by rw[oN];lia
   have hzB:((arrOf st).extract sb (sb+n2)).size=n2:=by rw[oN];lia
   have H:pH S κ ((arrOf st).extract (sa+k) sb) ((arrOf st).extract sb (sb+n2)):=by
    refine⟨?_,?_,fun p hp=>hB.mem h0 p (KJ hp),fun p hp=>hB.mem h0 p (KJ hp),(),(),?_,?_⟩
    ·intro p q b1 b2 b3;rw[hzA]at b3;rw[ZS (),ZS ()];exact hsA _ _ () () ()
    ·intro p q b1 b2 b3;rw[hzB]at b3;rw[ZS (),ZS ()];exact hsB _ _ () () ()
    ·intro j hj;rw[hzA]at hj;rw[ZS (),ZS ()];have :=g3 (k+j) () ();rw[show sa+(k+j)=sa+k+j by lia]at this;simpa using this
    ·intro j hj;rw[hzB]at hj;rw[hzA,ZS (),ZS (),show sa+k+(na-k-1)=sb-1 by lia];exact g5 j hj
   have fin:∀out cO,iK (setPending st (((pendingOf st).setIfInBounds i (sa,na+nb,pw)).eraseIdxIfInBounds (i+1))) cO->sY κ ((arrOf st).extract (sa+k) sb) ((arrOf st).extract sb (sb+n2)) out->wpS M A E s (mgC (sa+k) out) Q cO:=by
    intro out cO hs hm;refine m9 (st:=st) (na:=na) (nb:=nb) ⟨by rw[hs.arr];exact hB.perm,by rw[hs.kind];exact hB.kind,by rw[hs.fail];exact hB.fail⟩ hs.arr hsb () hsA hsB () g4 () g2 g6 hm fun fV b1 b2 b3 b4=>h fV b1 (b2.trans hs.pend) b3 b4
   split
   ·exact aY (FE C H hB1.kind fun out cO a1 a2=>fin out cO a1 a2)
   ·exact aY (FF C H hB1.kind fun out cO a1 a2=>fin out cO a1 a2)
def NiB(κ:Keyed->Int)(xs:Array Keyed)(i j:Nat):Prop:=∀p q,i<=p->p<=q->q<j->eF κ xs q<=eF κ xs p
abbrev AsT:=Option (Option Nat)×Nat
abbrev DsT:=Option (Option Nat)×Nat×Nat
def gv(lo a fE:Nat):SM AsT:=forIn [a:fE] ((none,a):AsT) fun _ c=>ltAt' (lo+c.2) (lo+c.2-1) >>= fun o=>match o with
 |some b=>if b=true then pure (ForInStep.done (none,c.2))else pure (ForInStep.yield (none,c.2+1))
 |_=>pure (ForInStep.done (some none,c.2))
def tO(lo n fE:Nat):SM (Option Nat):=reverseSlice' lo (lo+n) >>= fun _=>gv lo n fE >>= fun c=>match c.1 with
 |some r=>pure r
 |none=>pure (some c.2)
def pz(lo n fE:Nat):SM DsT:=forIn [n:fE] ((none,n,0):DsT) fun _ c=>ltAt' (lo+c.2.1) (lo+c.2.1-1) >>= fun o=>match o with
 |some b=>if b=true then(if c.2.2>0 then reverseSlice' (lo+c.2.1-(c.2.2+1)) (lo+c.2.1) >>= fun _=>pure (ForInStep.yield (none,c.2.1+1,0))else pure (ForInStep.yield (none,c.2.1+1,0)))
  else ltAt' (lo+c.2.1-1) (lo+c.2.1) >>= fun o=>match o with
   |some b=>if b=true then pure (ForInStep.done (none,c.2.1,c.2.2))else pure (ForInStep.yield (none,c.2.1+1,c.2.2+1))
   |_=>pure (ForInStep.done (some none,c.2.1,c.2.2))
 |_=>pure (ForInStep.done (some none,c.2.1,c.2.2))
def MZ(lo n fE:Nat):SM (Option Nat):=liftM (rule "list.sort.descending-run") >>= fun _=>pz lo (n+1) fE >>= fun c=>match c.1 with
 |some r=>pure r
 |none=>if c.2.2>0 then reverseSlice' (lo+c.2.1-(c.2.2+1)) (lo+c.2.1) >>= fun _=>tO lo c.2.1 fE else tO lo c.2.1 fE
theorem NE(lo fE:Nat):countRun' lo fE=(gv lo 1 fE >>= fun c=>match c.1 with
 |some r=>pure r
 |none=>if(c.2==fE)=true then pure (some c.2)else if c.2>1 then(ltAt' lo (lo+c.2-1) >>= fun o=>match o with
  |some b=>if b=true then pure (some c.2)else reverseSlice' lo (lo+c.2) >>= fun _=>MZ lo c.2 fE
  |_=>pure none)else MZ lo c.2 fE):=by
 rw[countRun'_eq];show(_ >>= _:SM _)=_
 congr 1;funext c
 obtain⟨r,n⟩:=c;cases r with
 |some r=>rfl
 |none=>
  dsimp only;split
  ·rfl
  ·split
   ·congr 1;funext x
    cases x with
    |none=>rfl
    |some rose=>
     dsimp only;split
     ·rfl
     ·congr 1;funext _
      unfold MZ
      congr 1;funext _
      show(_ >>= _:SM _)=_
      congr 1;funext c
      obtain⟨r,m,q⟩:=c;cases r with
      |some r=>rfl
      |none=>
       dsimp only;split
       ·congr 1;funext _
        unfold tO
        congr 1;funext _
        show(_ >>= _:SM _)=_
        congr 1;funext c
        obtain⟨r,m⟩:=c;cases r<;>rfl
       ·unfold tO
        congr 1;funext _
        show(_ >>= _:SM _)=_
        congr 1;funext c
        obtain⟨r,m⟩:=c;cases r<;>rfl
   ·unfold MZ
    congr 1;funext _
    show(_ >>= _:SM _)=_
    congr 1;funext c
    obtain⟨r,m,q⟩:=c;cases r with
    |some r=>rfl
    |none=>
     dsimp only;split
     ·congr 1;funext _
      unfold tO
      congr 1;funext _
      show(_ >>= _:SM _)=_
      congr 1;funext c
      obtain⟨r,m⟩:=c;cases r<;>rfl
     ·unfold tO
      congr 1;funext _
      show(_ >>= _:SM _)=_
      congr 1;funext c
      obtain⟨r,m⟩:=c;cases r<;>rfl
structure rO(kd:SortKind)(a₀:Array Keyed)(lo:Nat)(st0 st:SortSt):Prop where
 sb:SB kd a₀ st
 pend:pendingOf st=pendingOf st0
 out:∀j,j<lo->(arrOf st)[j]?=(arrOf st0)[j]?
theorem UT{xs:Array Keyed}(hj:j<=xs.size)(k:Nat):eF κ (mirror xs i j ((j-i)/2)) k=if i<=k/\k<j then eF κ xs (i+j-1-k)else eF κ xs k:=by
 have e:=getElem?_mirror_all (i:=i) hj k;by_cases h1:i<=k/\k<j
 ·rw[aL h1]at e⊢;exact qH e
 ·rw[aH h1]at e⊢;exact qH e
theorem vD{xs:Array Keyed}(hj:j<=xs.size)(heq:∀k,i<=k->k<j->eF κ xs k=eF κ xs (j-1))(k:Nat):eF κ (mirror xs i j ((j-i)/2)) k=eF κ xs k:=by
 rw[UT hj];split
 ·rw[heq _ () (),heq k () ()]
 ·rfl
theorem IV{xs:Array Keyed}{src d:Nat}(hs:src<xs.size)(hd:d<=src)(k:Nat):eF κ (bubble xs src d) k=if k=src-d then eF κ xs src else if src-d<k/\k<=src then eF κ xs (k-1)else eF κ xs k:=by
 have e:=getElem?_bubble hs d hd k;by_cases h1:k=src-d
 ·rw[aL h1]at e⊢;exact qH e
 ·rw[aH h1]at e⊢;by_cases h2:src-d<k/\k<=src
  ·rw[aL h2]at e⊢;exact qH e
  ·rw[aH h2]at e⊢;exact qH e
section
variable {lo:Nat}
theorem rO.mir(h:rO kd a₀ lo st0 st){d:Nat}(hi:lo<=i)(hj:j<=(arrOf st).size)(hd:d=(j-i)/2):rO kd a₀ lo st0 (setArr st (mirror (arrOf st) i j d)):=by
 subst hd;refine⟨h.sb.setArr (iV.mp (mirror_perm _ _ _ _)),h.pend,fun k hk=>?_⟩;show(mirror (arrOf st) i j _)[k]?=_;rw[getElem?_mirror_all hj,aH ()];exact h.out k hk
theorem rO.bub(h:rO kd a₀ lo st0 st){src d:Nat}(hs:src<(arrOf st).size)(hd:lo+d<=src):rO kd a₀ lo st0 (setArr st (bubble (arrOf st) src d)):=by
 refine⟨h.sb.setArr (iV.mp (bubble_perm _ _ _)),h.pend,fun k hk=>?_⟩;show(bubble (arrOf st) src d)[k]?=_;rw[getElem?_bubble hs d (),aH (),aH ()];exact h.out k hk
theorem kH{Q:Option Bool->SortSt->Prop}(C:lB M A E s kd S κ)(h0:∀p,p∈a₀.toList->S p)(hB:SB kd a₀ st)(hi:i<a₀.size)(hj:j<a₀.size)
 (h:Q (some (decide (eF κ (arrOf st) i<eF κ (arrOf st) j))) st):wpS M A E s (ltAt' i j) Q st:=by
 have hz:=hB.size;obtain⟨x,ex,hx⟩:=xZ (arr:=arrOf st) (i:=i) ();obtain⟨y,ey,hy⟩:=xZ (arr:=arrOf st) (i:=j) ();rw[ltAt'_eq];refine aY (DG ?_);show wpS _ _ _ _ (elem' (arrOf st) i >>= fun x=>elem' (arrOf st) j >>= fun y=>lt' x y) Q st;refine aY (yL ex (aY (yL ey (C.lt (hB.mem h0 x hx) (hB.mem h0 y hy) hB.kind ?_))));rw[←yP (κ:=κ) ex,←yP (κ:=κ) ey];exact h
theorem UH{Q:Unit->SortSt->Prop}(h:Q Unit.unit (setArr st (mirror (arrOf st) i j ((j-i)/2)))):wpS M A E s (reverseSlice' i j) Q st:=by
 rw[reverseSlice'_eq];exact mM h
theorem KY{a fE:Nat}{Q:AsT->SortSt->Prop}(C:lB M A E s kd S κ)(h0:∀p,p∈a₀.toList->S p)(hn:lo+fE<=a₀.size)(ha:1<=a)(han:a<=fE)(hB:SB kd a₀ st)
 (hs:xX κ (arrOf st) lo (lo+a))
 (h:∀n,a<=n->n<=fE->xX κ (arrOf st) lo (lo+n)->(n=fE\/eF κ (arrOf st) (lo+n)<eF κ (arrOf st) (lo+n-1))->Q (none,n) st):
 wpS M A E s (gv lo a fE) Q st:=by
 unfold gv;refine eI (I:=fun x c cO=>cO=st/\c=(none,x)/\xX κ (arrOf st) lo (lo+x)) ?step ?fin ⟨rfl,rfl,hs⟩
 case fin=>
  rintro c cO ⟨rfl,rfl,fC⟩;rw[show max a fE=fE by lia]at fC⊢;exact h fE han (aG _) fC (.inl rfl)
 case step=>
  rintro x c cO hax hxn ⟨rfl,rfl,fC⟩;dsimp only;refine aY (kH C h0 hB () () ?_);by_cases hl:eF κ (arrOf cO) (lo+x)<eF κ (arrOf cO) (lo+x-1)
  ·simp only[hl,decide_true,if_true];exact bI (h x hax () fC (.inr hl))
  ·simp only[hl,decide_false,bV,dP];refine bI ⟨rfl,rfl,fun i j hi hij hj=>?_⟩;by_cases hjx:j<lo+x
   ·exact fC i j hi hij hjx
   ·have hj':j=lo+x:=by lia
    subst hj';by_cases hi':i=lo+x
    ·subst hi';exact iD _
    ·exact Int.le_trans (fC i (lo+x-1) hi () ()) (Int.not_lt.mp hl)
theorem HE{fE:Nat}{Q:Option Nat->SortSt->Prop}(C:lB M A E s kd S κ)(h0:∀p,p∈a₀.toList->S p)(hn:lo+fE<=a₀.size)(h1:1<=n)(hnn:n<=fE)(hB:rO kd a₀ lo st0 st)
 (hs:NiB κ (arrOf st) lo (lo+n)) (h:∀m cO,rO kd a₀ lo st0 cO->1<=m->m<=fE->xX κ (arrOf cO) lo (lo+m)->Q (some m) cO):
 wpS M A E s (tO lo n fE) Q st:=by
 unfold tO;have hsz:lo+n<=(arrOf st).size:=by rw[hB.sb.size];lia
 refine aY (UH ?_);have hB':=hB.mir (i:=lo) (j:=lo+n) (aG _) hsz rfl;refine aY (KY C h0 hn h1 hnn hB'.sb ?_ fun m hm1 hm2 hsm _=>bI (h m _ hB' () hm2 hsm));intro i j hi hij hj;show eF κ (mirror (arrOf st) lo (lo+n) _) i<=eF κ (mirror (arrOf st) lo (lo+n) _) j;rw[UT hsz,UT hsz,aL (),aL ()];exact hs _ _ () () ()
theorem f9{fE:Nat}{Q:DsT->SortSt->Prop}(C:lB M A E s kd S κ)(h0:∀p,p∈a₀.toList->S p)(hn:lo+fE<=a₀.size)(h1:1<=n)(hnn:n<=fE)(hB:rO kd a₀ lo st0 st)
 (hs:NiB κ (arrOf st) lo (lo+n))
 (h:∀m q cO,rO kd a₀ lo st0 cO->n<=m->m<=fE->NiB κ (arrOf cO) lo (lo+m)->q+1<=m->(∀i,lo+m-(q+1)<=i->i<lo+m->eF κ (arrOf cO) i=eF κ (arrOf cO) (lo+m-1))->Q (none,m,q) cO):
 wpS M A E s (pz lo n fE) Q st:=by
 unfold pz;refine eI (I:=fun x c cO=>∃q,c=(none,x,q)/\rO kd a₀ lo st0 cO/\NiB κ (arrOf cO) lo (lo+x)/\q+1<=x/\
  (∀i,lo+x-(q+1)<=i->i<lo+x->eF κ (arrOf cO) i=eF κ (arrOf cO) (lo+x-1))) ?step ?fin ⟨0,rfl,hB,hs,(),fun i h1 h2=>by congr 1;lia⟩
 case fin=>
  rintro c cO ⟨q,rfl,hB',fC,hq,he⟩;rw[show max n fE=fE by lia]at fC hq he⊢;exact h fE q cO hB' hnn (aG _) fC hq he
 case step=>
  rintro x c cO hax hxn ⟨q,rfl,hB',fC,hq,he⟩;dsimp only;have hsz:lo+x<=(arrOf cO).size:=by rw[hB'.sb.size];lia
  refine aY (kH C h0 hB'.sb () () ?_);by_cases hl:eF κ (arrOf cO) (lo+x)<eF κ (arrOf cO) (lo+x-1)
  ·simp only[hl,decide_true,if_true];have step1:∀xs:Array Keyed,(∀k,eF κ xs k=eF κ (arrOf cO) k)->NiB κ xs lo (lo+(x+1)):=by
    intro xs hk i j hi hij hj;rw[hk,hk];by_cases hjx:j<lo+x
    ·exact fC i j hi hij hjx
    ·have hj':j=lo+x:=by lia
     subst hj';by_cases hi':i=lo+x
     ·subst hi';exact iD _
     ·exact Int.le_trans (pV hl) (fC i (lo+x-1) hi () ())
   by_cases hz:q>0
   ·rw[aL hz];refine aY (UH (bI ⟨0,rfl,hB'.mir () hsz rfl,step1 _ (vD hsz he),(),fun i h1 h2=>by congr 1;lia⟩))
   ·rw[aH hz];exact bI ⟨0,rfl,hB',step1 _ (fun _=>rfl),(),fun i h1 h2=>by congr 1;lia⟩
  ·simp only[hl,decide_false,bV,dP];refine aY (kH C h0 hB'.sb () () ?_);by_cases hg:eF κ (arrOf cO) (lo+x-1)<eF κ (arrOf cO) (lo+x)
   ·simp only[hg,decide_true,if_true];exact bI (h x q cO hB' hax () fC hq he)
   ·simp only[hg,decide_false,bV,dP];have hx:eF κ (arrOf cO) (lo+x)=eF κ (arrOf cO) (lo+x-1):=by lia
    refine bI ⟨q+1,rfl,hB',fun i j hi hij hj=>?_,(),fun i h1 h2=>?_⟩
    ·by_cases hjx:j<lo+x
     ·exact fC i j hi hij hjx
     ·have hj':j=lo+x:=by lia
      subst hj';by_cases hi':i=lo+x
      ·subst hi';exact iD _
      ·rw[hx];exact fC i (lo+x-1) hi () ()
    ·rw[show lo+(x+1)-1=lo+x by lia];by_cases hix:i=lo+x
     ·subst hix;rfl
     ·rw[hx];exact he i () ()
theorem KP{fE:Nat}{Q:Option Nat->SortSt->Prop}(C:lB M A E s kd S κ)(h0:∀p,p∈a₀.toList->S p)(hn:lo+fE<=a₀.size)(hnn:n+1<=fE)(hB:rO kd a₀ lo st0 st)
 (hs:NiB κ (arrOf st) lo (lo+(n+1))) (h:∀m cO,rO kd a₀ lo st0 cO->1<=m->m<=fE->xX κ (arrOf cO) lo (lo+m)->Q (some m) cO):
 wpS M A E s (MZ lo n fE) Q st:=by
 unfold MZ;refine aY (jx (iO ⟨rfl,?_⟩));refine aY (f9 C h0 hn () hnn hB hs fun m q cO hB' hm1 hm2 fC hq he=>?_);dsimp only;have hsz:lo+m<=(arrOf cO).size:=by rw[hB'.sb.size];lia
 by_cases hz:q>0
 ·rw[aL hz];refine aY (UH (HE C h0 hn () hm2 (hB'.mir () hsz rfl) ?_ h));intro i j hi hij hj;show eF κ (mirror (arrOf cO) _ _ _) j<=eF κ (mirror (arrOf cO) _ _ _) i;rw[vD hsz he,vD hsz he];exact fC i j hi hij hj
 ·rw[aH hz];exact HE C h0 hn () hm2 hB' fC h
theorem CH{fE:Nat}{Q:Option Nat->SortSt->Prop}(C:lB M A E s kd S κ)(h0:∀p,p∈a₀.toList->S p)(hn:lo+fE<=a₀.size)(h1:1<=fE)(hB:rO kd a₀ lo st0 st)
 (h:∀m cO,rO kd a₀ lo st0 cO->1<=m->m<=fE->xX κ (arrOf cO) lo (lo+m)->Q (some m) cO):
 wpS M A E s (countRun' lo fE) Q st:=by
 rw[NE];refine aY (KY C h0 hn (aG 1) h1 hB.sb (fun i j hi hij hj=>by have :i=j:=();subst this;exact iD _) fun n hn1 hn2 hsn hor=>?_);dsimp only;by_cases hnn:n=fE
 ·rw[aL (by simpa using hnn)];exact bI (h n st hB hn1 hn2 hsn)
 ·rw[aH (by simpa using hnn)];have lS:=hor.resolve_left hnn;by_cases hgt:n>1
  ·rw[aL hgt];refine aY (kH C h0 hB.sb () () ?_);by_cases hr:eF κ (arrOf st) lo<eF κ (arrOf st) (lo+n-1)
   ·simp only[hr,decide_true,if_true];exact bI (h n st hB hn1 hn2 hsn)
   ·simp only[hr,decide_false,bV,dP];have hsz:lo+n<=(arrOf st).size:=by rw[hB.sb.size];lia
    have hall:∀k,lo<=k->k<lo+n->eF κ (arrOf st) k=eF κ (arrOf st) (lo+n-1):=by
     intro k hk0 hk;have a1:=hsn lo k () hk0 hk;have a2:=hsn k (lo+n-1) hk0 () ();lia
    refine aY (UH (KP C h0 hn () (hB.mir (aG _) hsz rfl) ?_ h));intro i j hi hij hj;show eF κ (mirror (arrOf st) _ _ _) j<=eF κ (mirror (arrOf st) _ _ _) i;rw[vD hsz hall,vD hsz hall];by_cases hjn:j<lo+n
    ·rw[hall i () (),hall j () hjn];exact iD _
    ·have hj':j=lo+n:=by lia
     subst hj';by_cases hi':i=lo+n
     ·subst hi';exact iD _
     ·rw[hall i () ()];exact pV lS
  ·rw[aH hgt];have hn1':n=1:=by lia
   subst hn1';refine KP C h0 hn () hB ?_ h;intro i j hi hij hj;by_cases hi':i=j
   ·subst hi';exact iD _
   ·have hi0:i=lo:=by lia
    have hj1:j=lo+1:=by lia
    subst hi0;subst hj1;rw[Nat.add_sub_cancel]at lS;exact pV lS
theorem GF{ok:Nat}{Q:Bool->SortSt->Prop}(C:lB M A E s kd S κ)(h0:∀p,p∈a₀.toList->S p)(hn:lo+n<=a₀.size)(hok:ok<=n)(hB:rO kd a₀ lo st0 st)(hs:xX κ (arrOf st) lo (lo+ok))
 (h:∀cO,rO kd a₀ lo st0 cO->xX κ (arrOf cO) lo (lo+n)->Q true cO):wpS M A E s (binarySort' lo n ok) Q st:=by
 rw[binarySort'_eq];refine aY (fR (eI (I:=fun k c cO=>c=(none,Unit.unit)/\rO kd a₀ lo st0 cO/\xX κ (arrOf cO) lo (lo+min k n))
  (Q:=fun c cO=>c=(none,Unit.unit)/\rO kd a₀ lo st0 cO/\xX κ (arrOf cO) lo (lo+n)) ?step ?fin ?init) ?post)
 case post=>
  rintro c cO ⟨rfl,hB',fC⟩;exact bI (h cO hB' fC)
 case init=>
  refine⟨rfl,hB,fun i j hi hij hj=>?_⟩;by_cases h1:ok=0
  ·have :i=j:=by lia
   subst this;exact iD _
  ·exact hs i j hi hij ()
 case fin=>
  rintro c cO ⟨hc,hB',fC⟩;refine⟨hc,hB',?_⟩;rwa[show min (max (max ok 1) n) n=n by lia]at fC
 case step=>
  rintro k c cO hak hkn ⟨rfl,hB',fC⟩;rw[show min k n=k by lia]at fC;have hk:lo+k<a₀.size:=by lia
  refine aY (fR (eI (I:=fun x c fV=>fV=cO/\∃l r,c=(none,l,r)/\l<=r/\r<=k/\r-l<=k-x/\
   (∀i,i<l->eF κ (arrOf cO) (lo+i)<=eF κ (arrOf cO) (lo+k))/\(∀i,r<=i->i<k->eF κ (arrOf cO) (lo+k)<eF κ (arrOf cO) (lo+i)))
   (Q:=fun c fV=>fV=cO/\∃l r,c=(none,l,r)/\l<=k/\
    (∀i,i<l->eF κ (arrOf cO) (lo+i)<=eF κ (arrOf cO) (lo+k))/\(∀i,l<=i->i<k->eF κ (arrOf cO) (lo+k)<eF κ (arrOf cO) (lo+i))) ?istep ?ifin ?iinit) ?ipost)
  case iinit=>exact⟨rfl,0,k,rfl,(),(),(),fun i hi=>(),fun i h1 h2=>()⟩
  case ifin=>
   rintro c fV ⟨rfl,l,r,rfl,hlr,hrk,hm,hlo,hhi⟩;have :l=r:=by lia
   subst this;exact⟨rfl,l,l,rfl,hrk,hlo,hhi⟩
  case istep=>
   rintro x c fV _ hxk ⟨rfl,l,r,rfl,hlr,hrk,hm,hlo,hhi⟩;dsimp only;by_cases hge:l≥r
   ·rw[aL hge];have :l=r:=by lia
    subst this;exact bI ⟨rfl,l,l,rfl,hrk,hlo,hhi⟩
   ·rw[aH hge];refine aY (kH C h0 hB'.sb hk () ?_);by_cases hl:eF κ (arrOf fV) (lo+k)<eF κ (arrOf fV) (lo+(l+r)/2)
    ·simp only[hl,decide_true,if_true];refine bI ⟨rfl,l,(l+r)/2,rfl,(),(),(),hlo,fun i h1 h2=>?_⟩;exact Int.lt_of_lt_of_le hl (fC _ _ () () ())
    ·simp only[hl,decide_false,bV,dP];refine bI ⟨rfl,(l+r)/2+1,r,rfl,(),(),(),fun i h1=>?_,hhi⟩;exact Int.le_trans (fC (lo+i) (lo+(l+r)/2) () () ()) (Int.not_lt.mp hl)
  case ipost=>
   rintro c fV ⟨rfl,l,r,rfl,hlk,hlo,hhi⟩;show wpS _ _ _ _ (moveDown' (lo+k) (lo+l) >>= fun _=>pure (ForInStep.yield (none,Unit.unit))) _ _;rw[moveDown'_eq];have hks:lo+k<(arrOf fV).size:=by rw[hB'.sb.size];exact hk
   refine aY (mM (bI ⟨rfl,hB'.bub hks (),?_⟩));rw[show min (k+1) n=k+1 by lia];intro i j hi hij hj;show eF κ (bubble (arrOf fV) (lo+k) (lo+k-(lo+l))) i<=eF κ (bubble (arrOf fV) (lo+k) (lo+k-(lo+l))) j;have hlo':∀i,lo<=i->i<lo+l->eF κ (arrOf fV) i<=eF κ (arrOf fV) (lo+k):=fun i h1 h2=>by
    have :=hlo (i-lo) ();rwa[show lo+(i-lo)=i by lia]at this
   have hhi':∀i,lo+l<=i->i<lo+k->eF κ (arrOf fV) (lo+k)<=eF κ (arrOf fV) i:=fun i h1 h2=>by
    have :=hhi (i-lo) () ();rw[show lo+(i-lo)=i by lia]at this;exact pV this
   rw[IV hks (),IV hks (),show lo+k-(lo+k-(lo+l))=lo+l by lia]
   repeat' split
   all_goals first
    |(exfalso;lia)
    |exact iD _
    |exact hlo' _ () ()
    |exact hhi' _ () ()
    |exact fC _ _ () () ()
end
abbrev JF:=Nat×Nat×Nat
def nO(κ:Keyed->Int)(xs:Array Keyed):Nat->List JF->Nat->Prop
 |s,[],e=>s=e
 |s,x::l,e=>x.1=s/\1<=x.2.1/\xX κ xs s (s+x.2.1)/\nO κ xs (s+x.2.1) l e
section
variable {xs ys:Array Keyed}
theorem nO.le:∀{l:List JF}{s e:Nat},nO κ xs s l e->s+l.length<=e
 |[],s,e,h=>by have h:s=e:=h;simp[h]
 |x::l,s,e,⟨h1,h2,h3,h4⟩=>by
  have :=nO.le h4;simp only[bD];lia
theorem nO.app:∀{l1 l2:List JF}{s e:Nat},nO κ xs s (l1++l2) e->∃m,nO κ xs s l1 m/\nO κ xs m l2 e
 |[],l2,s,e,h=>⟨s,rfl,h⟩
 |x::l1,l2,s,e,⟨h1,h2,h3,h4⟩=>by
  obtain⟨m,a1,a2⟩:=nO.app h4;exact⟨m,⟨h1,h2,h3,a1⟩,a2⟩
theorem nO.join:∀{l1 l2:List JF}{s m e:Nat},nO κ xs s l1 m->nO κ xs m l2 e->nO κ xs s (l1++l2) e
 |[],l2,s,m,e,h,h'=>by have h:s=m:=h;subst h;exact h'
 |x::l1,l2,s,m,e,⟨h1,h2,h3,h4⟩,h'=>⟨h1,h2,h3,nO.join h4 h'⟩
theorem nO.cg:∀{l:List JF}{s e:Nat},nO κ xs s l e->(∀j,s<=j->j<e->ys[j]?=xs[j]?)->nO κ ys s l e
 |[],s,e,h,_=>h
 |x::l,s,e,⟨h1,h2,h3,h4⟩,hc=>by
  have hle:=nO.le h4;refine⟨h1,h2,fun p q a1 a2 a3=>?_,nO.cg h4 fun j a b=>hc j () b⟩;rw[qH (hc p () ()),qH (hc q () ())];exact h3 p q a1 a2 a3
theorem nO.mod:∀{l:List JF}{s e:Nat}(i:Nat)(f:JF->JF),(∀x,(f x).1=x.1/\(f x).2.1=x.2.1)->nO κ xs s l e->nO κ xs s (l.modify i f) e
 |[],s,e,i,f,_,h=>by simpa using h
 |x::l,s,e,0,f,hf,⟨h1,h2,h3,h4⟩=>by
  show nO κ xs s (f x::l) e;obtain⟨a,b⟩:=hf x;refine⟨a.trans h1,?_,?_,?_⟩<;>rw[b]<;>assumption
 |x::l,s,e,i+1,f,hf,⟨h1,h2,h3,h4⟩=>by
  show nO κ xs s (x::l.modify i f) e;exact⟨h1,h2,h3,nO.mod i f hf h4⟩
theorem l_two{l:List JF}(h:i+1<l.length):∃l1 a b l2,l=l1++a::b::l2/\l1.length=i/\l[i]?=some a/\l[i+1]?=some b:=by
 refine⟨l.take i,l[i],l[i+1],l.drop (i+2),?_,by rw[bX];lia,aA _,aA _⟩;have e1:l.drop i=l[i]::l.drop (i+1):=gF ();have e2:l.drop (i+1)=l[i+1]::l.drop (i+2):=gF ();rw[←e2,←e1,dM]
theorem fq(l1 l2:List JF)(a b x:JF):((l1++a::b::l2).set l1.length x).eraseIdx (l1.length+1)=l1++x::l2:=by
 rw[List.set_append_right _ _ (aG _),fM,List.set_cons_zero,List.eraseIdx_append_of_length_le (),pM];rfl
end
theorem QE{e:Nat}{Q:Bool->SortSt->Prop}(C:lB M A E s kd S κ)(h0:∀p,p∈a₀.toList->S p)(hB:SB kd a₀ st)(hc:nO κ (arrOf st) 0 (pendingOf st).toList e)(he:e<=a₀.size)(hi:i+1<(pendingOf st).size)
 (h:∀cO,SB kd a₀ cO->nO κ (arrOf cO) 0 (pendingOf cO).toList e->(pendingOf cO).size+1=(pendingOf st).size->(∀j,e<=j->(arrOf cO)[j]?=(arrOf st)[j]?)->Q true cO):wpS M A E s (mergeAt' i) Q st:=by
 obtain⟨l1,⟨sa,na,pw⟩,⟨sb,nb,w⟩,l2,e1,e2,e3,e4⟩:=l_two (l:=(pendingOf st).toList) (by simpa using hi);have hc':=hc;rw[e1]at hc';obtain⟨m,c1,c2,c3,c4,c5,c6,c7,c8⟩:=hc'.app;dsimp only at c2 c3 c4 c5 c6 c7 c8;have hl:=c8.le;have hm:=c1.le;subst c2;refine FG C h0 hB (by rw[←cZ];exact e3) (by rw[←cZ];exact e4) c3 c6 c5 () c4 (by rw[c5];exact c7) fun cO b1 b2 b3 b4=>?_
 have hp:(pendingOf cO).toList=l1++(sa,na+nb,pw)::l2:=by
  rw[b2];have :(((pendingOf st).setIfInBounds i (sa,na+nb,pw)).eraseIdxIfInBounds (i+1)).toList=((pendingOf st).toList.set i (sa,na+nb,pw)).eraseIdx (i+1):=by simp
  rw[this,e1,←e2,fq]
 refine h cO b1 ?_ ?_ fun j hj=>b4 j ()
 ·rw[hp];refine(c1.cg fun j _ hj=>b4 j (.inl hj)).join ⟨rfl,by dsimp only;lia,?_,?_⟩
  ·dsimp only;rw[←Nat.add_assoc,←c5];exact b3
  ·dsimp only;rw[←Nat.add_assoc];exact c8.cg fun j hj _=>b4 j (.inr ())
 ·rw[←bR,←bR,hp,e1];simp only[aI,bD];lia
theorem TZ{β:Type}{lo mr size:Nat}{dn X Y:SM β}{Q:β->SortSt->Prop}(C:lB M A E s kd S κ)(h0:∀p,p∈a₀.toList->S p)(hsz:size=a₀.size)(hB:rO kd a₀ lo st0 st)(h1:1<=n)(hn:lo+n<=size)(hs:xX κ (arrOf st) lo (lo+n))
 (hX:∀n',n'=min (size-lo) mr->∀cO,rO kd a₀ lo st0 cO->1<=n'->lo+n'<=size->xX κ (arrOf cO) lo (lo+n')->wpS M A E s X Q cO)
 (hY:∀n',n'=n->∀cO,rO kd a₀ lo st0 cO->1<=n'->lo+n'<=size->xX κ (arrOf cO) lo (lo+n')->wpS M A E s Y Q cO):
 wpS M A E s (if n<mr then(liftM (rule "list.sort.binary-insertion") >>= fun _=>binarySort' lo (min (size-lo) mr) n >>= fun b=>if(!b)=true then dn else X)else Y) Q st:=by
 by_cases lS:n<mr
 ·rw[aL lS];refine aY (jx (iO ⟨rfl,?_⟩));refine aY (GF C h0 () () hB hs fun cO b1 b2=>?_);simp only[bK,bV,dP];exact hX _ rfl cO b1 () () b2
 ·rw[aH lS];exact hY n rfl st hB h1 hn hs
theorem tU{Q:Unit->SortSt->Prop}(C:lB M A E s kd S κ)(h0:∀p,p∈a₀.toList->S p)(hB:SB kd a₀ st)(hp:pendingOf st= #[])
 (h:∀cO,SB kd a₀ cO->xX κ (arrOf cO) 0 a₀.size->Q Unit.unit cO):wpS M A E s sortRuns' Q st:=by
 rw[sortRuns'_eq];refine aY (DG ?_);dsimp only;simp only[hB.size];generalize minRun' a₀.size a₀.size 0=mr;refine aY (fR (eI
  (I:=fun x c cO=>∃lo,c=(none,lo)/\x<=lo/\lo<=a₀.size/\SB kd a₀ cO/\nO κ (arrOf cO) 0 (pendingOf cO).toList lo)
  (Q:=fun c cO=>c=(none,a₀.size)/\SB kd a₀ cO/\nO κ (arrOf cO) 0 (pendingOf cO).toList a₀.size) ?step ?fin ⟨0,rfl,aG _,cG _,hB,by rw[hp];rfl⟩) ?post)
 case fin=>
  rintro c cO ⟨lo,rfl,a1,a2,a3,a4⟩;have :lo=a₀.size:=by lia
  subst this;exact⟨rfl,a3,a4⟩
 case step=>
  rintro x c cO _ hx ⟨lo,rfl,a1,a2,a3,a4⟩;dsimp only;by_cases hge:lo≥a₀.size
  ·rw[aL hge];have :lo=a₀.size:=by lia
   subst this;exact bI ⟨rfl,a3,a4⟩
  ·rw[aH hge];refine aY (CH (st0:=cO) C h0 () () ⟨a3,rfl,fun _ _=>rfl⟩ fun m st2 hB2 hm1 hm2 hs2=>?_);dsimp only;refine TZ C h0 rfl hB2 hm1 () hs2 (fun n hn st3 hB3 hn1 hn2 hs3=>?_) (fun n hn st3 hB3 hn1 hn2 hs3=>?_)
   all_goals
    rw[←hn];have hc3:nO κ (arrOf st3) 0 (pendingOf st3).toList lo:=by rw[hB3.pend];exact a4.cg fun j _ hj=>hB3.out j hj
    have fin:∀(mS:SortSt),SB kd a₀ mS->nO κ (arrOf mS) 0 (pendingOf mS).toList lo->xX κ (arrOf mS) lo (lo+n)->
     ∃lo',(none,lo+n)=((none,lo'):Option Unit×Nat)/\x+1<=lo'/\lo'<=a₀.size/\SB kd a₀ (setPending mS ((pendingOf mS).push (lo,n,0)))/\nO κ (arrOf (setPending mS ((pendingOf mS).push (lo,n,0)))) 0 (pendingOf (setPending mS ((pendingOf mS).push (lo,n,0)))).toList lo':=by
     intro mS b1 b2 b3;refine⟨lo+n,rfl,(),hn2,⟨b1.perm,b1.kind,b1.fail⟩,?_⟩;show nO κ (arrOf mS) 0 ((pendingOf mS).push (lo,n,0)).toList (lo+n);rw[Array.toList_push];exact b2.join ⟨rfl,hn1,b3,rfl⟩
    refine aY (DG ?_);cases hb:(pendingOf st3).back? with
    |none=>
     dsimp only;exact aY (mM (bI (fin st3 hB3.sb hc3 hs3)))
    |some r=>
     obtain⟨s1,n1,p1⟩:=r;dsimp only;generalize power' a₀.size (2*s1+n1) (2*s1+n1+n1+n) a₀.size=pw;refine aY (fR (eI
      (I:=fun _ c mS=>c=(none,Unit.unit)/\SB kd a₀ mS/\nO κ (arrOf mS) 0 (pendingOf mS).toList lo/\xX κ (arrOf mS) lo (lo+n))
      (Q:=fun c mS=>c=(none,Unit.unit)/\SB kd a₀ mS/\nO κ (arrOf mS) 0 (pendingOf mS).toList lo/\xX κ (arrOf mS) lo (lo+n)) ?_ (fun _ _ hh=>hh) ⟨rfl,hB3.sb,hc3,hs3⟩) ?_)
     ·rintro y c mS _ _ ⟨rfl,b1,b2,b3⟩;refine aY (DG ?_)
      skip
      by_cases hz:(pendingOf mS).size>1
      ·rw[aL hz];rw[getElem?_pos (pendingOf mS) ((pendingOf mS).size-2) ()];generalize (pendingOf mS)[(pendingOf mS).size-2]=r;obtain⟨r1,r2,older⟩:=r;dsimp only;by_cases ho:older<=pw
       ·rw[aL ho];exact bI ⟨rfl,b1,b2,b3⟩
       ·rw[aH ho];refine aY (QE C h0 b1 b2 a2 () fun st5 d1 d2 d3 d4=>?_);simp only[bK,bV,dP];refine bI ⟨rfl,d1,d2,fun p q e1 e2 e3=>?_⟩;rw[qH (d4 p e1),qH (d4 q ())];exact b3 p q e1 e2 e3
      ·rw[aH hz];exact bI ⟨rfl,b1,b2,b3⟩
     ·rintro c mS ⟨rfl,b1,b2,b3⟩;dsimp only;refine aY (mM ?_);refine aY (mM (bI (fin (setPending mS _) ⟨b1.perm,b1.kind,b1.fail⟩ ?_ b3)));show nO κ (arrOf mS) 0 ((pendingOf mS).modify _ _).toList lo;rw[Array.toList_modify];exact b2.mod _ _ fun _=>⟨rfl,rfl⟩
 case post=>
  rintro c cO ⟨rfl,hB',hc'⟩;dsimp only;have hl0:=hc'.le;rw[bR]at hl0;refine aY (fR (eI
   (I:=fun x c fV=>c=(none,Unit.unit)/\SB kd a₀ fV/\nO κ (arrOf fV) 0 (pendingOf fV).toList a₀.size/\(pendingOf fV).size<=a₀.size-x+1)
   (Q:=fun c fV=>c=(none,Unit.unit)/\SB kd a₀ fV/\nO κ (arrOf fV) 0 (pendingOf fV).toList a₀.size/\(pendingOf fV).size<=1) ?_ ?_ ⟨rfl,hB',hc',()⟩) ?_)
  ·rintro x c mS _ hx ⟨rfl,b1,b2,b3⟩;refine aY (DG ?_)
   skip
   by_cases hz:(pendingOf mS).size<=1
   ·rw[aL hz];exact bI ⟨rfl,b1,b2,hz⟩
   ·rw[aH hz];refine aY (QE C h0 b1 b2 (aG _) ?_ fun st5 d1 d2 d3 d4=>?_)
    ·by_cases hi0:(pendingOf mS).size-2>0
     ·rw[aL hi0];split<;>lia
     ·rw[aH hi0];simp only[Option.any_none,bV,dP];lia
    ·simp only[bK,bV,dP];exact bI ⟨rfl,d1,d2,()⟩
  ·rintro c mS ⟨rfl,b1,b2,b3⟩;exact⟨rfl,b1,b2,()⟩
  ·rintro c mS ⟨rfl,b1,b2,b3⟩;refine bI (h mS b1 ?_);rw[←bR]at b3
   match hl:(pendingOf mS).toList,b2,b3 with
   |[],b2,_=>
    have b2:0=a₀.size:=b2;intro p q e1 e2 e3;lia
   |[x],⟨c1,c2,c3,c4⟩,_=>
    have c4:0+x.2.1=a₀.size:=c4;rw[c4]at c3;exact c3
section
open PySem.SeqAt PySem.W
abbrev κI(p:Keyed):Int:=numOf p.1
theorem jh(xs:Array Keyed)(i:Nat):eF κI xs i=PyProof.Rows.K xs i:=by
 unfold eF PyProof.Rows.K;cases xs[i]?<;>rfl
theorem cmpI:lB (model prog w) A E s oneType' (fun p=>∃n t,p.1=.int n t) κI:=by
 refine⟨fun{x y st Q} hx hy hk h=>?_⟩;obtain⟨n,t,ex⟩:=hx;obtain⟨m,u,ey⟩:=hy;rw[lt'_eq];refine aY (DG ?_);rw[hk,keyLt'_oneType,ex,ey];refine aY (jx (NY (oneLt_int ⟨rfl,?_⟩)));have e:decide (κI x<κI y)=decide (n<m):=by show decide (numOf x.1<numOf y.1)=_;rw[ex,ey];rfl
 rw[e]at h;exact bI h
theorem FL{vs:List Value}{ns:List Int}{P:PySem.Fin->Shared->Prop}(ho:s.heap.get? a=some (seqObj "list" vs.toArray n))(hI:IntsAre vs ns)(hbig:vs.length<100000)
 (h:∀(out:Array Value)(ns':List Int),IntsAre out.toList ns'->ns'.Perm ns->ns'.Pairwise (· <= ·)->P (.done (.ret .none)) {s with heap:=sortedHeap s.heap a vs out}):wpAny (model prog w) A (Builtin.«list.sort» ⟨[.ref a],[]⟩) P E s:=by
 by_cases h64:vs.length<64
 ·exact list_sort_tree ho hI h64 h
 rw[list_sort_plain];have ha:a<s.heap.objs.size:=bA ho;have hsz:vs.toArray.size=vs.length:=by simp
 refine aF (listItems_at ho rfl ?_);refine aF (DK ho rfl ?_ (by rw[hsz,dE];lia) (cG _));obtain⟨e1,ho1⟩:∃e1,(s.heap.update a (Obj.mapSeq fun _=> #[])).get? a=some (seqObj "list" #[] e1):=⟨_,get?_update_seq ho (fun _=> #[])⟩
 refine aF (jy ho1 rfl ?_);refine aF (wpAny_newTuple ?_ (by show vs.length<=_;rw[dE];lia));refine aF (rJ ?_ (cG _));refine eV ?_;have ho6:(((s.heap.update a (Obj.mapSeq fun _=> #[])).push (seqObj "tuple" vs.toArray 0)).push (seqObj "list" #[] 0)).get? a=some (seqObj "list" #[] e1):=by
  rw[iZ _ _ _ (by rw[size_push',oC];exact bS (gK ha)),iZ _ _ _ (by rw[oC];exact bS ha)];exact ho1
 show wpAny (model prog w) A _ P E {s with heap:=((s.heap.update a (Obj.mapSeq fun _=> #[])).push (seqObj "tuple" vs.toArray 0)).push (seqObj "list" #[] 0)};dsimp only;rw[aH (by rw[hsz];lia),aH (by rw[hsz];lia)];have hkk:keyKind' vs.toArray=pure oneType':=by
  obtain⟨v1,v2,l,rfl⟩:∃v1 v2 l,vs=v1::v2::l:=by
   rcases vs with _ |⟨v1,_ |⟨v2,l⟩⟩
   ·exact absurd h64 (by simp)
   ·exact absurd h64 (by simp)
   ·exact⟨v1,v2,l,rfl⟩
  exact keyKind_ints hI
 rw[hkk];refine aF (aR ?_);refine aF (lH (tU (a₀:=pairsOf vs) (st:=SortSt.mk' oneType' (vs.toArray.zip vs.toArray) #[] 7 none)
  (Q:=fun _ cO=>SB oneType' (pairsOf vs) cO/\xX κI (arrOf cO) 0 (pairsOf vs).size) cmpI hI.intKeys ⟨sC _,rfl,rfl⟩ rfl fun cO b1 b2=>⟨b1,b2⟩) ?_ fun _ _ e=>e)
 rintro⟨⟨⟩,cO⟩ s' ⟨rfl,hB,hs⟩;dsimp only;have hz:((arrOf cO).map (·.2)).size=vs.length:=by rw[Array.size_map,hB.size,pairsOf_size]
 refine aF (jy ho6 rfl ?_);refine aF (DK ho6 rfl ?_ (cG _) (by rw[hz,dE];lia));rw[hB.fail];simp only[bne_self_eq_false,bV,dP];obtain⟨ns',d1,d2,d3⟩:=sorted_out hI (iV.mpr hB.perm) fun i j hij hj=>by
  have :=hs i j (cG _) hij hj;rwa[jh,jh]at this
 exact aR (h _ ns' d1 d2 d3)
section
variable {P:Nat->Value->Prop} {OK:Heap->Prop}
theorem UD(K:KdlSrc prog w T r d n P OK)(hh:A.handled=none)(hok:OK s.heap)(hn:n<100000){ss:List Int}(hl:ss.length=n)(hP:∀(i:Nat)(v:Value)(x:Int),P i v->ss[i]?=some x->∃t,v=.int x t)
 (h:∀(h1 h':Heap)(tk:Nat)(iH:List Value)(ss':List Int)(e:Nat),(∀b o,s.heap.get? b=some o->h1.get? b=some o)->(∀b o,h1.get? b=some o->h'.get? b=some o)->h'.get? h1.objs.size=some {cls:=.type "list",data:=.seq iH.toArray e}->IntsAre iH ss'->ss'.Perm ss->ss'.Pairwise (· <= ·)->Q (.ref h1.objs.size) {s with heap:=h',toks:=tk}):
 wpAny (model prog w) A (call (.builtin "sorted") [.ref r]) Q E s:=by
 have hs:sizeLine=16777216:=dE;refine pW kind_sorted plain_sorted entry_sorted (args_sorted1 _) ?_;unfold Builtin.«sorted»;refine aF (m:=checkCount "sorted" 1 1 _) (aR ?_);refine aF (kdu_collect (A:=A.in1) K hh hok () fun h' tk acc hk hacc=>?_);have hl2:acc.toList.length=n:=by rw[bR];exact hacc.1
 have hS:IntsAre acc.toList ss:=BY () fun i v x h1 h2=>hP i v x (hacc.2 i v (by rw[←cZ];exact h1)) h2
 generalize acc.toList=vs at hl2 hS;refine aF (rJ ?_ ());have hoL:(h'.push (seqObj "list" vs.toArray 0)).get? h'.objs.size=some (seqObj "list" vs.toArray 0):=bT _ rfl;show wpAny _ _ _ _ _ {s with heap:=h'.push (seqObj "list" vs.toArray 0),toks:=tk};refine aF (eV (gE slot_list_sort ⟨_,hoL,rfl⟩ entry_list_sort (FL (A:=A.in1.in1) hoL hS () fun out ss' a1 a2 a3=>⟨_,rfl,?_⟩) (args_list_sort _)));obtain⟨e,he⟩:=sortedHeap_at (out:=out) hoL;refine aR ⟨_,rfl,h h' _ tk _ ss' e hk (fun b o hb'=>?_) (by rw[sD];exact he) a1 a2 a3⟩;have lS:=bA hb';rw[sortedHeap_old (bS lS) (by rw[size_push'];exact gK lS)];exact aP _ hb'
end
theorem JA:qL X (.builtin "sorted") (fun xs H Q=>ag X.calm (pF xs fun x=>mL x fun p=>∃kvs:List (eL×V),H p=some (.dK kvs)/\∃zs:List Int,kvs.map (·.1)=zs.map Sum.inl/\zs.length<100000/\
 ∀(l:Addr)(zs':List Int),H l=none->zs'.Perm zs->zs'.Pairwise (· <= ·)->Q (.ref l) (upd H l (.lst (zs'.map V.int))))):=by
 intro aJ s σ H xs us Q I r h;replace h:=DB h;obtain⟨hc,h⟩:=h;replace h:=wD h;obtain⟨x0,rfl,h⟩:=h;replace h:=xJ h;obtain⟨p,rfl,kvs,hp,zs,hk,h64,q⟩:=h;obtain⟨u,rfl,ru⟩:=uI r;cases ru;obtain⟨z,hd,vs,mT,dd⟩:=kL I.hok (.inl hp);obtain⟨ep,hat⟩:=dd.dictAt;have hvl:kvs.length=vs.length:=eW mT;have hkl:kvs.length=zs.length:=by have :=dH List.length hk;rwa[aE,aE]at this
 have hkeys:vs.map (·.1)=zs.map Sum.inl:=(YL mT).trans hk;refine UD (kdl_dict (knd:=yA X.prog X.w) (kvs:=vs) (ep:=ep) hd) (I.ok.hd hc) hat () (ss:=zs) () (fun i v x hP hx=>?_) fun h1 h' tk iH ss' e k1 k2 hB hS mU hs2=>?_
 ·obtain⟨k,y,h1,h2⟩:=hP;have e1:(vs.map (·.1))[i]?=some k:=by rw[aK,h1];rfl
  rw[hkeys,aK,hx]at e1;cases e1;have h2:ZP (.inl x) v=true:=h2;rcases yS h2 with⟨x',t,e,e2⟩ |⟨_,_,e,_⟩
  ·cases e;exact⟨t,e2⟩
  ·cases e
 ·have I1:Inv X aJ σ H {s with heap:=h1,toks:=tk}:=I.kept k1;have eO:ss'.length=zs.length:=mU.length_eq;exact⟨.ref h1.objs.size,_,I1.laid (a:=h1.objs.size) (o:=.lst (ss'.map V.int)) (t':=tk) k2 (aG _) ⟨by rw[aE,dE];lia,iH,e,QG hS,hB⟩,rfl,q _ _ (I1.hok.fresh (aG _)) mU hs2⟩
end
end L2
namespace C
open PySem L2
seal PE PT PW PA PS GN PG PGs PI PPs PO ql ii
variable {a f lg p:Addr} {fd:FuncData} {base:Heap} {H H' J:Hp} {nm:Int->List Int} {kvs:List (List eL×V)} {vs:List (List Nat)} {ps:List (Nat×Nat)} {qs:List Addr} {ks:List Int} {R:List Ln->Prop} {aV:List xM} {sp:List Nat} {b:List mR} {aD:List Rw} {zs:List Str} {ts:List Tm} {us xs:List V} {as:List Wt} {l:Ln} {d i j n:Nat} {U:Nat->Nat->Prop} {P:Program} {K:W.Frag} {r:mR} {S:Str->List Nat} {mg:Str->Option Value} {s:Tm×Tm} {v:V} {w:World}
local macro_rules | `(tactic| dsimp! [$ts,*]) => `(tactic| (try dsimp only [ON, tFor_eq, tLC_eq, iRng1, iRng2, iList, iTup, iStr, kf, tRet, tRetN, tNext, ax, kK, tVar, tC, tOp, cq, rI, tTest, tB, rEq, rNe, OQ, tCons, tNil, tCB, tLst, tTup, tAnd, tOr, tNot, tAndV, tOrV, tNotV, tIf, tDrop, tSl, tPart, QW, kh, tUn, rU, uP, cx_K, bk_K, cx_calm, bk_calm, Option.join, Bool.not_true, Bool.not_false, List.length_cons, List.length_nil, mapC, mapN, List.replicate, List.cons_append, List.nil_append, List.getElem?_cons_zero, List.getElem?_cons_succ, List.set_cons_zero, List.set_cons_succ, Nat.reduceSub, Nat.reduceAdd, tBM, tBM0, UI, rPop, rIxL, rIxT, rIxS, rSlL, rSlT, rSlS, rCat, rCatT, tKGet, cx_w, bk_w, tDGet, tDisp, YX, kg, cx_P, asI_i, asR_i, asB_i, asS_i, asV_i, asC_i, as1_i, as2_i, as0_i, asT_i, $ts,*]; try simp only [asI_e, asR_e, asB_e, asS_e, asV_e, asC_e, as1_e, as2_e, as0_e, asT_e, ON, tFor_eq, tLC_eq, iRng1, iRng2, iList, iTup, iStr, kf, tRet, tRetN, tNext, ax, kK, tVar, tC, tOp, cq, rI, tTest, tB, rEq, rNe, OQ, tCons, tNil, tCB, tLst, tTup, tAnd, tOr, tNot, tAndV, tOrV, tNotV, tIf, tDrop, tSl, tPart, QW, kh, tUn, rU, uP, cx_K, bk_K, cx_calm, bk_calm, lenV_str, and_assoc, Option.join, List.length_map, List.length_append, decide_eq_true_eq, Bool.false_eq_true, if_false, if_true, Bool.not_true, Bool.not_false, Bool.not_eq_true', decide_eq_false_iff_not, Bool.true_eq_false, List.length_cons, List.length_nil, mapC, mapN, List.replicate, List.cons_append, List.nil_append, List.append_nil, List.getElem?_cons_zero, List.getElem?_cons_succ, List.set_cons_zero, List.set_cons_succ, Nat.reduceSub, Nat.reduceAdd, Option.some.injEq, V.int.injEq, V.str.injEq, V.bl.injEq, V.ref.injEq, List.cons.injEq, and_true, true_and, exists_eq_left', exists_eq_left, exists_and_left, exists_eq_right, exists_const, tBM, tBM0, UI, rPop, rIxL, rIxT, rIxS, rSlL, rSlT, rSlS, rCat, rCatT, tKGet, cx_w, bk_w, tDGet, tDisp, YX, kg, cx_P, asI_i, asR_i, asB_i, asS_i, asV_i, asC_i, as1_i, as2_i, as0_i, asT_i, List.map_cons, List.map_nil, $ts,*]))
local macro_rules | `(tactic| rfl') => `(tactic| exact ⟨rfl, rfl, rfl, by decide +kernel, rfl, by decide +kernel, by decide +kernel⟩)
local macro_rules | `(()) => `(by first | decide +kernel | lia)
def top(i:Nat):Stmt:=PySem.Challenge.pw_clashbook_k64_whole_more_terms.main.body.getD i (.Pass ⟨0,0,0,0⟩)
abbrev s_U:Stmt:=top 17
theorem sc_U:bZ ["n"] ["n"] (zK s_U):=by rfl'
abbrev s_S:Stmt:=top 18
theorem sc_S:bZ ["n","bound"] ["n","bound"] (zK s_S):=by rfl'
abbrev jV(H:Hp)(ls:List Ln)(us:List V):Prop:=bG H (ls.map ND) us
abbrev JE(H:Hp)(as:List Wt)(us:List V):Prop:=bG H (as.map qb) us
theorem jC{α:Type}{f:α->Dt}{xs:List α}(h:bG H (xs.map f) us)(hv:us[i]?=some v):∃x,xs[i]?=some x/\dW H (f x) v:=by
 have hl:=bG.length h;rw[aE]at hl;have hi:i<xs.length:=by rw[←hl];exact(aC.mp hv).1
 obtain⟨u,h1,h2⟩:=bG.get (d:=f xs[i]) h (by rw[aK,aA hi];rfl);rw[hv]at h1;cases h1;exact⟨_,aA hi,h2⟩
theorem qU{α:Type}{f:α->Dt}{xs:List α}(h:bG H (xs.map f) us):us.length=xs.length:=by
 have hl:=bG.length h;rwa[aE]at hl
theorem LnAt.out(h:dW H (ND l) v):∃a b us,v=.ref a/\H a=some (.tup [.int l.i,.int l.j,.ref b])/\H b=some (.tup (.str l.w::us))/\JE H l.as us:=by
 obtain⟨a,vs,e1,e2,u1,r1,q1,h1,u2,r2,q2,h2,u3,r3,q3,⟨b,ws,g1,g2,x,y,g3,g4,g5⟩,h4⟩:=h;have h1:u1=.int l.i:=h1;have h2:u2=.int l.j:=h2;have h4:r3=[]:=h4;have g4:x=.str l.w:=g4;subst h4 q3 q2 q1 h1 h2 g1 g3 g4;exact⟨a,b,y,e1,e2,g2,g5⟩
def rwV:Rw->List V
 | .no=>[.str "none"]
 | .nm y=>[.str "name",.str y]
 | .bo i j=>[.str "both",.int i,.int j]
def Tw(K:W.Frag)(H:Hp)(a:Addr)(xs:List V):Prop:=
 H a=some (.tup xs)\/∃(o:Obj)(its:Array Value)(n:Nat),K.lookup a=some o/\o.cls=.type "tuple"/\o.data=.seq its n/\its.size<=sizeLine/\dD xs its.toList
theorem Tw.sq(h:Tw K H a xs):dN K H a xs:=h.elim dN.of .inr
theorem Tw.tups(h:Tw K H a xs)(e:cU H H'):Tw K H' a xs:=h.elim (fun z=>.inl (e _ _ z)) .inr
theorem Tw.same(h:Tw K H a xs)(e:bB H H'):Tw K H' a xs:=h.elim (fun z=>.inl (e _ _ z)) .inr
def GK(K:W.Frag)(H:Hp)(r:Rw)(v:V):Prop:=∃a,v=.ref a/\Tw K H a (rwV r)
def gC(K:W.Frag)(H:Hp):List Rw->List V->Prop
 |[],us=>us=[]
 |r::rs,us=>∃v vs,us=v::vs/\GK K H r v/\gC K H rs vs
theorem gC.go{K:W.Frag}{H H':Hp}(e:bB H H'):∀{rs:List Rw}{us:List V},gC K H rs us->gC K H' rs us
 |[],_,h=>h
 |r::rs,us,⟨v,vs,e1,⟨a,e2,e3⟩,e4⟩=>⟨v,vs,e1,⟨a,e2,e3.same e⟩,gC.go e e4⟩
theorem gC.same{rs:List Rw}(h:gC K H rs us)(e:bB H H'):gC K H' rs us:=gC.go e h
theorem gC.len{K:W.Frag}{H:Hp}:∀{rs:List Rw}{us:List V},gC K H rs us->us.length=rs.length
 |[],_,h=>by cases (show _=[]from h);rfl
 |r::rs,us,⟨v,vs,e1,_,e4⟩=>by rw[e1,bD,bD,gC.len e4]
theorem gC.get{K:W.Frag}{H:Hp}:∀{rs:List Rw}{us:List V}{i:Nat}{v:V},gC K H rs us->us[i]?=some v->∃r,rs[i]?=some r/\GK K H r v
 |[],_,i,v,h,hv=>by cases (show _=[]from h);simp at hv
 |r::rs,us,0,v,⟨v',vs,e1,e2,e4⟩,hv=>by subst e1;cases hv;exact⟨r,rfl,e2⟩
 |r::rs,us,i+1,v,⟨v',vs,e1,e2,e4⟩,hv=>by
  subst e1;obtain⟨r',g1,g2⟩:=gC.get (i:=i) e4 (by simpa using hv);exact⟨r',by simpa using g1,g2⟩
theorem GK.out{r:Rw}(h:GK K H r v):∃a x us,v=.ref a/\Tw K H a (.str x::us)/\(match r with | .no=>x="none"/\us=[] | .nm y=>x="name"/\us=[.str y] | .bo i j=>x="both"/\us=[.int i,.int j]):=by
 obtain⟨a,e1,e2⟩:=h;cases r<;>exact⟨a,_,_,e1,e2,rfl,rfl⟩
def ptsR:Rw->List Int
 | .bo i j=>[i,j]
 |_=>[]
theorem kE{n:Int}{r:Rw}(h:n % 2=0)(hr:aD[(n/2).toNat]?=some r):uW aD n=ptsR r:=by
 unfold uW;rw[aL h,hr];cases r<;>rfl
theorem PM{ls:List Ln}{k:Nat}{i:Int}(h:0<=i/\i<(k:Int))(hl:ls[i.toNat]?=some l):xK ls k (.n i)=some (l.i,l.j):=by
 show(if 0<=i/\i<(k:Int)then(ls[i.toNat]?).map fun l=>(l.i,l.j)else none)=_;rw[aL h,hl];rfl
theorem PN{ls:List Ln}{k:Nat}{i:Int}(h:¬(0<=i/\i<(k:Int))):xK ls k (.n i)=none:=by
 show(if 0<=i/\i<(k:Int)then(ls[i.toNat]?).map fun l=>(l.i,l.j)else none)=_;rw[aH h]
def isN:Wt->Bool
 | .n _=>true
 | .ps _=>false
def ki:Sp:=fun vs H Q _=>∃(v:V)(x:Wt),vs=[v]/\dW H (qb x) v/\Q (.bl (isN x)) H
def PB:Sp:=fun vs H Q _=>∃(v:V)(x:Wt)(b:Int),vs=[v,.int b]/\dW H (qb x) v/\Q (.bl (JM b x)) H
inductive spSaid (vs:List V) (H:Hp) (Q:VK) (E:XK):Prop
 |mk (la na:Addr) (us ws:List V) (ls:List Ln) (as:List Wt) (k:Nat) (_:vs=[.ref la,.int k,.ref na]) (_:H la=some (.lst us)) (_:jV H ls us) (_:k<=ls.length) (_:H na=some (.tup ws)) (_:JE H as ws) (_:as.length<=900) (_:∀p zs H',bB H H'->H' p=some (.lst zs)->bG H' ((as.map (xK ls k)).map dSd) zs->Q (.ref p) H')
theorem BF(bi:Bi mg)(F:gS K "is_whole" "is_whole" s_U f fd):dI P w K mg base fY 1 f fd ["n"] ki:=by
 refine F.okz sc_U fun fL A outer s H vs Q E hr h=>?_
 obtain⟨v,x,rfl,hv,q⟩:=h;refine⟨_,(zG (zO (EL (yC (CK (T:="int")) rfl bi.isinstance wH (zA (pv 0) (zA (jc bi.int qe rfl) zC))) (EJ (mq (yC (CK (T:="bool")) rfl bi.isinstance wH (zA (pv 0) (zA (jc bi.bool gp rfl) zC)))))))),?_⟩;cases x with
 |n i=>
  have e:v=.int i:=hv;subst e;dsimp![];exact⟨_,.int i,true,TD,iteT ⟨_,.int i,false,nu,q⟩⟩
 |ps l=>
  obtain⟨a,us,rfl,ha,hu⟩:=hv;dsimp![];exact⟨_,.tup ha,false,nq,iteF q⟩
theorem BG(bi:Bi mg)(h_U:gR P w K mg base 1 "is_whole" ["n"] ki)(F:gS K "is_below" "is_below" s_S f fd):dI P w K mg base fY 2 f fd ["n","bound"] PB:=by
 refine F.okz sc_S fun fL A outer s H vs Q E hr h=>?_
 obtain⟨v,x,b,rfl,hv,q⟩:=h;refine⟨_,(zG (zO (EL (zI h_U hr.m rfl (zA (pv 0) zC)) (EJ (RT op_le ZM zE (pv 0) (pv 1)))))),?_⟩;dsimp![ki];refine⟨x,hv,?_⟩;cases x with
 |n i=>
  have e:v=.int i:=hv;subst e;rw[show isN (.n i)=true from rfl,aL rfl];have q:Q (.bl (decide (0<=i)&&decide (i<b))) H:=q;refine⟨i,rfl,?_⟩;split
  ·rename_i h
   rw[eC h,pC]at q;exact⟨i,rfl,q⟩
  ·rename_i h
   rw[dF h,fN]at q;exact q
 |ps l=>
  rw[show isN (.ps l)=false from rfl,aH cI];exact q
theorem p7(p q:Pr):eU (GB p) (GB q)=(p==q):=by
 obtain⟨a,b⟩:=p;obtain⟨c,d⟩:=q;simp only[GB,eU,kM,Bool.and_true];rfl
theorem pq(n:Nat)(p:Pr):ZL (n+1) (GB p):=⟨by simp,fun d hd=>by
 simp only[bJ,fH,or_false]at hd;rcases hd with rfl |rfl<;>(cases n<;>trivial)⟩
theorem mn{p:Pr}(h:dW H (GB p) v):∃a,v=.ref a/\H a=some (.tup [.int p.1,.int p.2]):=by
 obtain⟨a,vs,e1,e2,u1,r1,q1,h1,u2,r2,q2,h2,h3⟩:=h;have h1:u1=.int p.1:=h1;have h2:u2=.int p.2:=h2;have h3:r2=[]:=h3;subst h3 q2 q1 h1 h2;exact⟨a,e1,e2⟩
inductive spChain (vs:List V) (H:Hp) (Q:VK) (E:XK):Prop
 |mk (sp:Addr) (zs:List V) (i j:Int) (p q:Pr) (_:vs=[.int i,.int j,.ref sp]) (_:H sp=some (.lst zs)) (_:bG H [GB p,GB q] zs) (_:Q (.bl (p.1==i&&p.2==q.1&&q.2==j)) H)
inductive spRul (vs:List V) (H:Hp) (Q:VK) (E:XK):Prop
 |mk (ra la:Addr) (us ws:List V) (aV:List xM) (ls:List Ln) (k:Nat) (l:Ln) (_:vs=[.ref ra,.ref la,.int k]) (_:H ra=some (.lst us)) (_:bG H (aV.map af) us) (_:H la=some (.lst ws)) (_:jV H ls ws) (_:ls[k]?=some l) (_:(∀ps,Wt.ps ps∈l.as->ps.length<=900)) (_:∀H',bB H H'->Q (.bl (jR aV ls k l)) H')
theorem nrAt{r:xM}(h:dW H (af r) v):∃a l b us,v=.ref a/\H a=some (.tup [.ref l,.ref b])/\H l=some (.lst us)/\bG H (r.1.map GB) us/\H b=some (.tup [.int r.2.1,.int r.2.2]):=by
 obtain⟨a,vs,e1,e2,u1,r1,q1,⟨l,us,g1,g2,g3⟩,u2,r2,q2,h2,h3⟩:=h;obtain⟨b,g4,g5⟩:=mn h2;have h3:r2=[]:=h3;subst h3 q2 q1 g1 g4;exact⟨a,l,b,us,e1,e2,g2,g3,g5⟩
theorem me{ls:List Ln}{k:Nat}{r:Int}{ps:List Int}(h:l.as=[.n r,.ps ps]):jR aV ls k l=if 0<=r/\r<aV.length then(match aV[r.toNat]? with |some q=>(l.i,l.j)==q.2&&(ps.map fun p=>xK ls k (.n p))==q.1.map some |none=>false)else false:=by
 unfold jR;rw[h]<;>rfl
inductive spTurned (vs:List V) (H:Hp) (Q:VK) (E:XK):Prop
 |mk (n:Int) (_:vs=[.int n]) (_:Q (.int (rM n)) H)
inductive spAhead (vs:List V) (H:Hp) (Q:VK) (E:XK):Prop
 |mk (la:Addr) (us:List V) (v:V) (x:Wt) (ls:List Ln) (k:Nat) (_:vs=[.ref la,v,.int k]) (_:H la=some (.lst us)) (_:jV H ls us) (_:k<=ls.length) (_:dW H (qb x) v) (_:∀v' H',bB H H'->dW H' (dSd (xK ls k x)) v'->Q v' H')
inductive spByR (vs:List V) (H:Hp) (Q:VK) (E:XK):Prop
 |mk (ra la:Addr) (us ws:List V) (aV:List xM) (ls:List Ln) (k:Nat) (l:Ln) (_:vs=[.ref ra,.ref la,.int k]) (_:H ra=some (.lst us)) (_:bG H (aV.map af) us) (_:H la=some (.lst ws)) (_:jV H ls ws) (_:ls[k]?=some l) (_:l.as.length=2) (_:∀H',bB H H'->Q (.bl (jR aV ls k l)) H')
def qK(aD:List Rw):Prop:=∀(k:Nat)(i j:Int),aD[k]?=some (.bo i j)->(0<=i/\i<2*(k:Int))/\0<=j/\j<2*(k:Int)
def RowB(r:Rw)(n:Int):Prop:=∀i j,r=.bo i j->(0<=i/\i<n)/\0<=j/\j<n
abbrev s_B:Stmt:=qQ (top 30) 0
theorem sc_B:bZ ["self","many"] ["self","many"] (zK s_B):=by rfl'
abbrev s_a:Stmt:=qQ (top 30) 1
theorem sc_a:bZ ["self","i","j"] ["self","i","j"] (zK s_a):=by rfl'
abbrev s_D:Stmt:=qQ (top 30) 2
theorem sc_D:bZ ["self","i","j"] ["self","i","j"] (zK s_D):=by rfl'
abbrev s_d:Stmt:=qQ (top 30) 3
theorem sc_d:bZ ["self","i","j","why"] ["self","i","j","why"] (zK s_d):=by rfl'
abbrev s_F:Stmt:=top 3
theorem PL:bZ ["mask","bits","rest","low"] ["mask"] (zK s_F):=by rfl'
abbrev nV(n:Nat):V:=.int (n:Int)
inductive sH (vs:List V) (H:Hp) (Q:VK) (E:XK):Prop
 |mk (m:Nat) (xs:List Nat) (_:vs=[.int m]) (_:rH m xs) (_:(∀x∈xs,x<300)) (_:∀p H',bB H H'->H p=none->H' p=some (.lst (xs.map nV))->Q (.ref p) H')
theorem CY{m:Nat}{xs:List Nat}(h:rH m xs)(hx:∀x∈xs,x<300):xs.length<=300:=by
 have :∀(xs:List Nat)(b:Nat),xs.Pairwise (· < ·)->(∀x∈xs,b<=x/\x<300)->xs.length+b<=300\/xs=[]:=by
  intro xs
  induction xs with
  |nil=>intro b _ _;exact .inr rfl
  |cons x xs ih=>
   intro b hp hb;have hp':=List.pairwise_cons.mp hp;have hx:=hb x bF;rcases ih (x+1) hp'.2 (fun y hy=>⟨hp'.1 y hy,(hb y (bE _ hy)).2⟩)with h |h
   ·left;rw[bD];lia
   ·subst h;left;rw[bD,nT];lia
 rcases this xs 0 h.1 (fun x hx'=>⟨cG _,hx x hx'⟩)with h |h
 ·lia
 ·subst h;simp
theorem FA(bi:Bi mg)(F:gS K "bits_of" "bits_of" s_F f fd):dI P w K mg base fY 1 f fd ["mask"] sH:=by
 refine F.okz PL fun fL A outer s H vs Q E hr h=>?_
 obtain⟨m,xs,rfl,hb,hx,q⟩:=h;have hxl:=CY hb hx;refine⟨_,(zF (yD 1 PL.nd (yV zC)) (zF (yD 2 PL.nd (pv 0)) (zF (AC bM (RG (pv 2) (fun _=>rfl)) (zF (yD 3 PL.nd (zL ES (pv 2) (wE uM (pv 2)))) (zF (zX (jS bW cT cS yZ (pv 1) (zA (zL RW (my PySem.F.plainAttrs_int PySem.F.slot_int_bit_length PySem.F.type_int_bit_length JK (pv 3)) zE) zC))) (zG (UM (i:=2) PL.nd rfl (Or.inl rfl) (pv 3) n9))))) (zG (zO (pv 1)))))),?_⟩;refine zH fun N hN=>?_
 dsimp![];refine⟨small (by simp),fun p hp=>hN _ _ ?_⟩;clear hN;refine zH fun N hN=>?_
 dsimp![];refine hN _ _ ?_;clear hN;have s1:=zD hp (.lst []);have k1:upd H p (.lst []) p=some (.lst ((xs.take 0).map nV)):=zB;generalize upd H p (.lst [])=H1 at s1 k1⊢;refine yB (fun σ H'=>∃(o1 o2:Option V),bB H H'/\H' p=some (.lst (xs.map nV))/\σ=[some (V.int m),some (V.ref p),o1,o2]) (fun N hN=>?_) (fun σ H' h=>?_)
 ·dsimp![DT];refine⟨fun k σ H'=>∃(i r:Nat)(o:Option V),k=xs.length-i/\i<=xs.length/\bB H H'/\H' p=some (.lst ((xs.take i).map nV))/\rH r (xs.drop i)/\σ=[some (V.int m),some (V.ref p),some (V.int r),o],⟨_,0,m,_,rfl,cG _,s1,k1,hb,rfl⟩,fun k σ H' h=>?_⟩;obtain⟨i,r,o,rfl,hi,s2,k2,lY,rfl⟩:=h;dsimp![];refine⟨_,rfl,?_⟩;cases hd:xs.drop i with
  |nil=>
   rw[hd]at lY;have e0:=lY.nil;subst e0;rw[aH ()];have hil:xs.length<=i:=by
    have :=dH List.length hd;rw[fI,nT]at this;lia
   rw[aS hil]at k2;exact hN _ _ ⟨_,_,s2,k2,rfl⟩
  |cons x rest=>
   rw[hd]at lY;have hxb:r.testBit x=true:=by rw[lY.2];simp
   obtain⟨hr0,hl,hb2⟩:=lY.cons;rw[aL (by simp;lia)];have hil:i<xs.length:=by
    have :=dH List.length hd;rw[fI,bD]at this;lia
   have hxi:xs[i]?=some x:=by
    have :=dH (·[0]?) hd;simpa using this
   have hdr:xs.drop (i+1)=rest:=by
    have :=dH (List.drop 1) hd;rw[rZ]at this;simpa using this
   refine⟨fun σ' H''=>∃(o:Option V),bB H H''/\H'' p=some (.lst ((xs.take (i+1)).map nV))/\σ'=[some (V.int m),some (V.ref p),some (V.int ((r&&&(r-1):Nat):Int)),o],fun σ' H'' h=>?_,?_⟩
   ·obtain⟨o',a1,a2,rfl⟩:=h;exact⟨xs.length-(i+1),(),i+1,rfl,(),a1,a2,_,by rw[hdr];exact hb2,_,rfl⟩
   have elow:Builtin.bitAnd (r:Int) (-(r:Int))=((2^x:Nat):Int):=by rw[SW hr0,hl]
   dsimp![OR,TM,HZ];rw[elow,VY];refine⟨.inl ⟨rfl,_,dL.of k2⟩,rfl,_,k2,vQ (by rw[aE,bX];lia),s2.upd hp,?_,am hl hxb,_,rfl⟩;have e:(((x+1:Nat):Int)-1)=(x:Int):=by lia
   obtain⟨_,ei⟩:=aC.mp hxi;rw[zB,e,aM hil,ei,aU];rfl
 obtain⟨o1,o2,s2,k2,rfl⟩:=h;dsimp![];exact q _ _ s2 hp k2
def OW(as:List Wt):Prop:=as.length<=3/\∀ps,Wt.ps ps∈as->ps.length<=300
def zS(ls:List Ln)(i j:Int):Bool:=ls.any fun l=>l.i==i&&l.j==j
theorem eZ{ls:List Ln}{i j:Int}:zS ls i j=true↔∃(p:Nat)(l:Ln),ls[p]?=some l/\l.i=i/\l.j=j:=by
 unfold zS;rw[fK];constructor
 ·rintro⟨l,hl,h⟩;rw[bY,cQ,cQ]at h;obtain⟨p,hp,e⟩:=dO hl;exact⟨p,l,by rw[aA hp,e],h.1,h.2⟩
 ·rintro⟨p,l,hl,h1,h2⟩;exact⟨l,aX hl,by rw[h1,h2];simp⟩
theorem vG(ls t:List Ln)(i j:Int):zS (ls++t) i j=(zS ls i j ||zS t i j):=by
 unfold zS;rw[List.any_append]
theorem XV(l:Ln)(i j:Int):zS [l] i j=(l.i==i&&l.j==j):=by
 unfold zS;simp
def xF(i j:Int):List eL:=[.inl i,.inl j]
def rN:List Ln->Nat->List (List eL×V)
 |[],_=>[]
 |l::ls,k=>(xF l.i l.j,.int k)::rN ls (k+1)
theorem ID:∀(ls:List Ln)(k:Nat),(rN ls k).length=ls.length
 |[],_=>rfl
 |l::ls,k=>by show(rN ls (k+1)).length+1=_;rw[ID ls (k+1)];rfl
theorem AH(l:Ln):∀(ls:List Ln)(k:Nat),rN (ls++[l]) k=rN ls k++[(xF l.i l.j,.int ((k+ls.length:Nat):Int))]
 |[],k=>rfl
 |l'::ls,k=>by
  show _::rN (ls++[l]) (k+1)=_;rw[AH l ls (k+1),bD];show _=_::_++_;rw[show k+1+ls.length=k+(ls.length+1) by lia];rfl
theorem TH{i j i' j':Int}(h:xF i j=xF i' j'):i=i'/\j=j':=by
 unfold xF at h;injection h with h1 h2
 injection h2 with h2 h3
 exact⟨rT h1,rT h2⟩
theorem YI{i j:Int}:∀(ls:List Ln)(k:Nat),(zS ls i j=false/\yO (rN ls k) (xF i j)=none)\/∃(p:Nat)(l:Ln),ls[p]?=some l/\l.i=i/\l.j=j/\yO (rN ls k) (xF i j)=some (.int ((k+p:Nat):Int))
 |[],k=>.inl ⟨rfl,rfl⟩
 |l::ls,k=>by
  by_cases h:l.i=i/\l.j=j
  ·refine .inr ⟨0,l,rfl,h.1,h.2,?_⟩;show yO ((xF l.i l.j,V.int k)::rN ls (k+1)) (xF i j)=_;rw[h.1,h.2,jZ rfl];rfl
  ·have e:yO (rN (l::ls) k) (xF i j)=yO (rN ls (k+1)) (xF i j):=qA (fun z=>h (TH z));rcases YI ls (k+1)with⟨h1,h2⟩ |⟨p,l',h1,h2,h3,h4⟩
   ·left
    refine⟨?_,by rw[e];exact h2⟩;show((l.i==i&&l.j==j) ||zS ls i j)=false;rw[h1,tG];rw[dX];intro z;rw[bY,cQ,cQ]at z;exact h z
   ·right
    refine⟨p+1,l',h1,h2,h3,?_⟩;rw[e,h4]
    congr 2
    lia
theorem wZ{κ:Type} [DecidableEq κ] {kvs:List (κ×V)} {k:κ} (h:yO kvs k=none):jJ kvs k v=kvs++[(k,v)]:=by
 unfold jJ;rw[aH];intro z;obtain⟨x,hx,hk⟩:=fK.mp z;unfold yO at h;rw[pR,List.find?_eq_none]at h;exact h x hx hk
theorem PP{ls t:List Ln}{k:Nat}(h:k<=ls.length)(x:Wt):xK (ls++t) k x=xK ls k x:=by
 cases x with
 |ps l=>rfl
 |n i=>
  show(if 0<=i/\i<(k:Int)then((ls++t)[i.toNat]?).map fun l=>(l.i,l.j)else none)=(if 0<=i/\i<(k:Int)then(ls[i.toNat]?).map fun l=>(l.i,l.j)else none)
  by_cases hi:0<=i/\i<(k:Int)
  ·rw[aL hi,aL hi,bC ()]
  ·rw[aH hi,aH hi]
theorem tS{ls t:List Ln}{k:Nat}(h:k<=ls.length):xP aD aV (ls++t) k l=xP aD aV ls k l:=by
 have e:xK (ls++t) k=xK ls k:=funext fun x=>PP h x
 unfold xP jR;rw[e]
theorem qW{ls:List Ln}{k:Nat}(h:xP aD aV ls k l=true):(0<=l.i/\l.i<2*(aD.length:Int))/\0<=l.j/\l.j<2*(aD.length:Int):=by
 unfold xP at h;split at h
 ·cases h
 ·rename_i hn
  simp only[not_or,Classical.not_not]at hn;exact hn
structure LD(aD:List Rw)(aV:List xM)(ls:List Ln):Prop where
 snd:∀(k:Nat)(l:Ln),ls[k]?=some l->xP aD aV ls k l=true
 dis:∀(a b:Nat)(x y:Ln),ls[a]?=some x->ls[b]?=some y->x.i=y.i->x.j=y.j->a=b
 siz:∀l∈ls,OW l.as
theorem LD.put{ls:List Ln}(h:LD aD aV ls)(hn:zS ls l.i l.j=false)(hs:xP aD aV ls ls.length l=true)(ho:OW l.as):LD aD aV (ls++[l]):=by
 have no:∀(a:Nat)(x:Ln),ls[a]?=some x->x.i=l.i->x.j=l.j->False:=fun a x hx h1 h2=>by
  have :=eZ.mpr ⟨a,x,hx,h1,h2⟩;rw[hn]at this;cases this
 have sp:∀(a:Nat)(x:Ln),(ls++[l])[a]?=some x->ls[a]?=some x\/a=ls.length/\x=l:=fun a x hx=>by
  by_cases ha:a<ls.length
  ·rw[bC ha]at hx;exact .inl hx
  ·have ha2:=(aC.mp hx).1;rw[aI,cC]at ha2;have e:a=ls.length:=by lia
   subst e;rw[bL (aG _),fM]at hx;cases hx;exact .inr ⟨rfl,rfl⟩
 refine⟨fun k x hx=>?_,fun a b x y hx hy h1 h2=>?_,fun x hx=>?_⟩
 ·rcases sp k x hx with hx |⟨rfl,rfl⟩
  ·have hk:=(aC.mp hx).1;rw[tS ()];exact h.snd k x hx
  ·rw[tS (aG _)];exact hs
 ·rcases sp a x hx with hx' |⟨ea,ex⟩
  ·rcases sp b y hy with hy' |⟨eb,ey⟩
   ·exact h.dis a b x y hx' hy' h1 h2
   ·rw[ey]at h1 h2;exact(no a x hx' h1 h2).elim
  ·rcases sp b y hy with hy' |⟨eb,ey⟩
   ·rw[ex]at h1 h2;exact(no b y hy' h1.symm h2.symm).elim
   ·rw[ea,eb]
 ·rcases bO.mp hx with hx |hx
  ·exact h.siz x hx
  ·rw[aT.mp hx];exact ho
theorem wL:∀{l m:List Int},l.Nodup->(∀x∈l,x∈m)->l.length<=m.length
 |[],m,_,_=>cG _
 |x::l,m,hn,hs=>by
  have hx:x∈m:=hs x bF;have hn':=iI.mp hn;have :=wL (l:=l) (m:=m.erase x) hn'.2 fun y hy=>by
   have hy':=hs y (bE _ hy);have lL:y≠x:=fun e=>hn'.1 (by rw[←e];exact hy)
   exact(List.mem_erase_of_ne lL).mpr hy'
  rw[List.length_erase_of_mem hx]at this;have :=List.length_pos_of_mem hx;rw[bD];lia
theorem LD.len{ls:List Ln}(h:LD aD aV ls):ls.length<=(2*aD.length)*(2*aD.length):=by
 have hr:∀l∈ls,(0<=l.i/\l.i<2*(aD.length:Int))/\0<=l.j/\l.j<2*(aD.length:Int):=fun l hl=>by
  obtain⟨p,hp,e⟩:=dO hl;exact qW (h.snd p l (by rw[aA hp,e]))
 generalize hn:2*aD.length=n;have hn':2*(aD.length:Int)=(n:Int):=by lia
 rw[hn']at hr;have :=wL (l:=ls.map fun l=>l.i*n+l.j) (m:=(List.range (n*n)).map fun i:Nat=>(i:Int)) ?_ fun x hx=>?_
 ·rwa[aE,aE,eY]at this
 ·refine dJ.mpr fun a b ha hb hab e=>?_
  rw[aE]at ha hb;rw[NP,NP]at e;have r1:=hr _ (cW ha);have r2:=hr _ (cW hb);have hi:ls[a].i=ls[b].i:=by
   have e1:(ls[a].i*n+ls[a].j)/n=ls[a].i:=by
    rw[Int.add_comm,Int.add_mul_ediv_right _ _ (),Int.ediv_eq_zero_of_lt r1.2.1 r1.2.2,Int.zero_add]
   have e2:(ls[b].i*n+ls[b].j)/n=ls[b].i:=by
    rw[Int.add_comm,Int.add_mul_ediv_right _ _ (),Int.ediv_eq_zero_of_lt r2.2.1 r2.2.2,Int.zero_add]
   rw[←e1,e,e2]
  have hj:ls[a].j=ls[b].j:=by rw[hi]at e;lia
  have :=h.dis a b _ _ (aA ha) (aA hb) hi hj;lia
 ·obtain⟨l,hl,rfl⟩:=cD.mp hx;have r1:=hr l hl;have b1:l.i*n+l.j<n*n:=by
   have :l.i*n<=(n-1)*n:=Int.mul_le_mul_of_nonneg_right () ();rw[Int.sub_mul,Int.one_mul]at this;lia
  have b0:0<=l.i*n:=Int.mul_nonneg r1.1.1 ();rw[cD];exact⟨(l.i*n+l.j).toNat,by rw[bP];lia,()⟩
structure MkA(n:Nat)(hp:Nat->Nat->Bool)(as:List Nat):Prop where
 len:as.length=n
 bit:∀(a c:Nat),as[a]?=some c->∀b,c.testBit b=hp a b
theorem MkA.put{a b c:Nat}{hp hp':Nat->Nat->Bool}{as:List Nat}(h:MkA n hp as)(hc:as[a]?=some c)(e:∀x y,hp' x y=(hp x y ||(x==a&&y==b))):MkA n hp' (as.set a (c|||2^b)):=by
 have la:=(aC.mp hc).1;refine⟨by rw[lN];exact h.len,fun x d hx y=>?_⟩;rw[e];by_cases ex:a=x
 ·subst ex;rw[iG la]at hx;cases hx;rw[rV,h.bit a c hc,lC];simp only[dU,pC]
  congr 1
  rw[cE,bQ,cQ];exact eq_comm
 ·rw[gO ex]at hx;have :(x==a)=false:=cV.mpr (cJ ex);rw[h.bit x d hx,this,fN,tG]
structure oG where
 r:Addr
 la:Addr
 pa:Addr
 aa:Addr
 ba:Addr
def pY(g:oG):List (Str×V):=[("lines",.ref g.la),("places",.ref g.pa),("above",.ref g.aa),("below",.ref g.ba)]
structure NW(K:W.Frag)(C:Addr):Prop where
 cl:LF K C
 nL:lE K C "lines"
 nP:lE K C "places"
 nA:lE K C "above"
 nB:lE K C "below"
theorem MY(g:oG):(pY g).lookup ("lines":Str)=some (.ref g.la):=by
 unfold pY;rw[bN,show(("lines":Str)=="lines")=true by decide+kernel]
theorem oy(g:oG):(pY g).lookup ("places":Str)=some (.ref g.pa):=by
 unfold pY;rw[bN,show(("places":Str)=="lines")=false by decide+kernel,bN,show(("places":Str)=="places")=true by decide+kernel]
theorem TU(g:oG):(pY g).lookup ("above":Str)=some (.ref g.aa):=by
 unfold pY;rw[bN,show(("above":Str)=="lines")=false by decide+kernel,bN,show(("above":Str)=="places")=false by decide+kernel,bN,show(("above":Str)=="above")=true by decide+kernel]
theorem oz(g:oG):(pY g).lookup ("below":Str)=some (.ref g.ba):=by
 unfold pY;rw[bN,show(("below":Str)=="lines")=false by decide+kernel,bN,show(("below":Str)=="places")=false by decide+kernel,bN,show(("below":Str)=="above")=false by decide+kernel,bN,show(("below":Str)=="below")=true by decide+kernel]
theorem qR(g:oG){x:Str}(h1:(x==("lines":Str))=false)(h2:(x==("places":Str))=false)(h3:(x==("above":Str))=false)(h4:(x==("below":Str))=false):(pY g).lookup x=none:=by
 unfold pY;rw[bN,h1,bN,h2,bN,h3,bN,h4];rfl
structure lR(C:Addr)(H:Hp)(g:oG)(aD:List Rw)(aV:List xM)(ls:List Ln):Prop where
 ins:∃dx,H g.r=some (.ins C dx (pY g))
 lin:∃ws,H g.la=some (.lst ws)/\jV H ls ws
 plc:H g.pa=some (.dT (rN ls 0))
 abv:∃as,H g.aa=some (.lst (as.map nV))/\MkA (2*aD.length) (fun a b=>zS ls a b) as
 blw:∃as,H g.ba=some (.lst (as.map nV))/\MkA (2*aD.length) (fun a b=>zS ls b a) as
 ne:g.la≠g.aa/\g.la≠g.ba/\g.aa≠g.ba
 ok:LD aD aV ls
def fU(g:oG)(H H':Hp):Prop:=∀b o,H b=some o->b≠g.la->b≠g.pa->b≠g.aa->b≠g.ba->H' b=some o
theorem fU.trans{g:oG}{H1 H2:Hp}(a:fU g H H1)(b:fU g H1 H2):fU g H H2:=fun c o h n1 n2 n3 n4=>b c o (a c o h n1 n2 n3 n4) n1 n2 n3 n4
theorem bB.g{g:oG}(a:bB H H'):fU g H H':=fun c o h _ _ _ _=>a c o h
theorem lR.same{C:Addr}{g:oG}{ls:List Ln}(e:bB H H')(h:lR C H g aD aV ls):lR C H' g aD aV ls:=by
 obtain⟨⟨dx,h1⟩,⟨ws,h2,h3⟩,h4,⟨as,h5,h6⟩,⟨bs,h7,h8⟩,h9,h10⟩:=h;exact⟨⟨dx,e _ _ h1⟩,⟨ws,e _ _ h2,bG.same e h3⟩,e _ _ h4,⟨as,e _ _ h5,h6⟩,⟨bs,e _ _ h7,h8⟩,h9,h10⟩
theorem lR.tups{C:Addr}{g:oG}{ls:List Ln}(h:lR C H g aD aV ls)(e:fU g H H'):cU H H':=fun b xs hb=>by
 obtain⟨ws,h2,_⟩:=h.lin;obtain⟨as,h5,_⟩:=h.abv;obtain⟨bs,h7,_⟩:=h.blw;exact e b _ hb (jH hb h2 (by intro z;cases z)) (jH hb h.plc (by intro z;cases z)) (jH hb h5 (by intro z;cases z)) (jH hb h7 (by intro z;cases z))
theorem ml{ps:List Int}(h:dW H (qb (.ps ps)) v):∃a,v=.ref a/\H a=some (.tup (ps.map V.int)):=by
 obtain⟨a,us,e1,e2,e3⟩:=h;have go:∀{ps:List Int}{us:List V},bG H (ps.map Dt.int) us->us=ps.map V.int:=fun{ps}=>by
  induction ps with
  |nil=>exact fun h=>h
  |cons n ns ih=>
   intro us h;obtain⟨v,r,e1,e2,e3⟩:=h;have e2:v=.int n:=e2;rw[e1,e2,ih e3];rfl
 rw[go e3]at e2;exact⟨a,e1,e2⟩
theorem qg{ps:List Int}(h:H a=some (.tup (ps.map V.int))):dW H (qb (.ps ps)) (.ref a):=by
 refine⟨a,_,rfl,h,?_⟩;clear h
 induction ps with
 |nil=>rfl
 |cons n ns ih=>exact⟨_,_,rfl,rfl,ih⟩
theorem OC{x:Str}(h:dW H (ZH x as) v):∃a us,v=.ref a/\H a=some (.tup (.str x::us))/\JE H as us:=by
 obtain⟨a,vs,e1,e2,u,r,e3,h1,h2⟩:=h;have h1:u=.str x:=h1;subst h1 e3;exact⟨a,r,e1,e2,h2⟩
theorem SY(h:dW H (ND l) v):∃a u,v=.ref a/\H a=some (.tup [.int l.i,.int l.j,u])/\dW H (ZH l.w l.as) u:=by
 obtain⟨a,vs,e1,e2,u1,r1,rfl,d1,u2,r2,rfl,d2,u3,r3,rfl,d3,d4⟩:=h;have d1:u1=.int l.i:=d1;have d2:u2=.int l.j:=d2;have d4:r3=[]:=d4;subst d1 d2 d4;exact⟨a,u3,e1,e2,d3⟩
theorem qh{i j:Int}{x:Str}{u:V}(h:H a=some (.tup [.int i,.int j,u]))(hu:dW H (ZH x as) u):dW H (ND ⟨i,j,x,as⟩) (.ref a):=
 ⟨a,_,rfl,h,_,_,rfl,rfl,_,_,rfl,rfl,_,_,rfl,hu,rfl⟩
theorem YT{H H':Hp}(e:cU H H'):∀{as:List Wt}{us:List V},JE H as us->JE H' as us
 |[],us,h=>h
 | .n i::as,us,h=>by
   obtain⟨v,r,e1,e2,e3⟩:=h;exact⟨v,r,e1,e2,YT e e3⟩
 | .ps l::as,us,h=>by
   obtain⟨v,r,e1,e2,e3⟩:=h;obtain⟨a,rfl,g2⟩:=ml e2;exact⟨_,r,e1,qg (e _ _ g2),YT e e3⟩
theorem tH(e:cU H H'){x:Str}(h:dW H (ZH x as) v):dW H' (ZH x as) v:=by
 obtain⟨b,us,rfl,h3,h4⟩:=OC h;exact⟨b,_,rfl,e _ _ h3,_,_,rfl,rfl,YT e h4⟩
theorem fj(e:cU H H')(h:dW H (ND l) v):dW H' (ND l) v:=by
 obtain⟨a,u,rfl,h1,h2⟩:=SY h;exact qh (e _ _ h1) (tH e h2)
theorem vB{H H':Hp}(e:cU H H'):∀{ls:List Ln}{us:List V},jV H ls us->jV H' ls us
 |[],us,h=>h
 |l::ls,us,h=>by
  obtain⟨v,r,e1,e2,e3⟩:=h;exact⟨v,r,e1,fj e e2,vB e e3⟩
theorem YM{p:Nat}(h:p<n):MT n (p:Int)=some p:=by
 unfold MT;rw[aL (),aL (),cA]
inductive DX (C:Addr) (vs:List V) (H:Hp) (Q:VK) (E:XK):Prop
 |mk (g:oG) (aD:List Rw) (aV:List xM) (ls:List Ln) (i j:Int) (_:vs=[.ref g.r,.int i,.int j]) (_:lR C H g aD aV ls) (_:zS ls i j=true) (_:∀(p:Nat)(l:Ln) H',bB H H'->ls[p]?=some l->l.i=i->l.j=j->Q (.int p) H')
inductive OZ (C:Addr) (vs:List V) (H:Hp) (Q:VK) (E:XK):Prop
 |mk (g:oG) (aD:List Rw) (aV:List xM) (ls:List Ln) (i j:Int) (_:vs=[.ref g.r,.int i,.int j]) (_:lR C H g aD aV ls) (_:∀H',bB H H'->Q (.bl (zS ls i j)) H')
def iq(C:Addr)(H:Hp)(g:oG)(aD:List Rw)(aV:List xM)(ls:List Ln)(H':Hp):Prop:=fU g H H'/\∃t,lR C H' g aD aV (ls++t)
def mC(C:Addr)(H:Hp)(g:oG)(aD:List Rw)(aV:List xM)(ls:List Ln)(R:List Ln->Prop)(H':Hp):Prop:=fU g H H'/\∃t,lR C H' g aD aV (ls++t)/\R (ls++t)
inductive rP (C:Addr) (vs:List V) (H:Hp) (Q:VK) (E:XK):Prop
 |mk (g:oG) (aD:List Rw) (aV:List xM) (ls:List Ln) (i j:Nat) (wv:V) (x:Str) (as:List Wt) (_:vs=[.ref g.r,.int i,.int j,wv]) (_:lR C H g aD aV ls) (_:aD.length<=100) (_:dW H (ZH x as) wv) (_:xP aD aV ls ls.length ⟨i,j,x,as⟩=true) (_:OW as) (_:∀H',mC C H g aD aV ls (fun L=>zS L i j=true) H'->Q .non H')
theorem EX{C:Addr}(T:NW K C)(F:gS K "line_of" "Growth.line_of" s_a f fd):dI P w K mg base fY 1 f fd ["self","i","j"] (DX C):=by
 refine F.okz sc_a fun fL A outer s H vs Q E hr h=>?_
 obtain⟨g,aD,aV,ls,i,j,rfl,hg,hh,q⟩:=h;obtain⟨dx,hi⟩:=hg.ins;refine⟨_,(zG (zO (YK (xU hr) (xD (pv 0) rfl) (zN (zA (pv 1) (zA (pv 2) zC))) (fun _ _=>rfl)))),?_⟩;dsimp![jA];refine⟨C,dx,_,hi,T.cl,T.nP,_,oy g,small (by simp),fun p hp=>?_⟩;have s1:=zD hp (.tup [.int i,.int j]);rcases YI (i:=i) (j:=j) ls 0 with⟨h1,_⟩ |⟨p',l,h1,h2,h3,h4⟩
 ·rw[hh]at h1;cases h1
 rw[iE]at h4;exact⟨g.pa,rfl,_,.inr ⟨_,xF i j,p,.inl (s1 _ _ hg.plc),rfl,zB,h4.symm⟩,q p' l _ s1 h1 h2 h3⟩
theorem m6{C:Addr}(T:NW K C)(F:gS K "has" "Growth.has" s_D f fd):dI P w K mg base fY 1 f fd ["self","i","j"] (OZ C):=by
 refine F.okz sc_D fun fL A outer s H vs Q E hr h=>?_
 obtain⟨g,aD,aV,ls,i,j,rfl,hg,q⟩:=h;obtain⟨dx,hi⟩:=hg.ins;refine⟨_,(zG (zO (mv (XI (xU hr) (zN (zA (pv 1) (zA (pv 2) zC))) (xD (pv 0) rfl)) (by with_unfolding_all rfl)))),?_⟩;dsimp![jA,LO];refine⟨small (by simp),fun p hp=>?_⟩;have s1:=zD hp (.tup [.int i,.int j]);refine⟨C,dx,_,s1 _ _ hi,T.cl,T.nP,_,oy g,g.pa,rfl,_,.inr ⟨_,xF i j,p,.inl (s1 _ _ hg.plc),rfl,zB,rfl⟩,?_⟩;have e:(yO (rN ls 0) (xF i j)).isSome=zS ls i j:=by
  rcases YI (i:=i) (j:=j) ls 0 with⟨h1,h2⟩ |⟨p',l,h1,h2,h3,h4⟩
  ·rw[h1,h2];rfl
  ·rw[h4,eZ.mpr ⟨p',l,h1,h2,h3⟩];rfl
 rw[e];exact q _ s1
theorem dy{C:Addr}(T:NW K C)(bi:Bi mg)(h_D:lA P w K mg base 1 C "has" ["self","i","j"] (OZ C))(F:gS K "grow" "Growth.grow" s_d f fd):dI P w K mg base fY 2 f fd ["self","i","j","why"] (rP C):=by
 refine F.okz sc_d fun fL A outer s H vs Q E hr h=>?_
 obtain⟨g,aD,aV,ls,i,j,wv,x,as,rfl,hg,h30,hw,hst,how,q⟩:=h;have cR:=T.cl;obtain⟨dx,hi⟩:=hg.ins;have eO:=hg.ok.len;have hlen2:ls.length<=40000:=by
  have :2*aD.length*(2*aD.length)<=200*200:=Nat.mul_le_mul () ();lia
 obtain⟨⟨i0,i1⟩,j0,j1⟩:=qW hst;have i1:(i:Int)<2*(aD.length:Int):=i1;have j1:(j:Int)<2*(aD.length:Int):=j1;refine⟨_,(zF (yI (XF (zZ h_D cR hr.m (pv 0) (zA (pv 1) (zA (pv 2) zC)))) (zG IA) zW) (zF (UK (xU hr) (xD (pv 0) rfl) (zN (zA (pv 1) (zA (pv 2) zC))) (yC yJ rfl bi.len yX (zA (xD (pv 0) rfl) zC)) rfl) (zF (zX (jS bW cT cS yZ (xD (pv 0) rfl) (zA (zN (zA (pv 1) (zA (pv 2) (zA (pv 3) zC)))) zC))) (zF (YH (xD (pv 0) rfl) (pv 1) kJ (zL kY zE (pv 2)) BW wV) (zG (YH (xD (pv 0) rfl) (pv 2) kJ (zL kY zE (pv 1)) BW wV)))))),?_⟩;refine zH fun N hN=>?_
 dsimp![yT];refine⟨_,_,hi,qR g () () () (),?_⟩;refine⟨g,aD,aV,ls,i,j,rfl,hg,fun H1 s1=>⟨_,rfl,?_⟩⟩;cases hb:zS ls i j with
 |true=>
  rw[aL rfl];exact q _ ⟨bB.g s1,[],by rw[cM];exact⟨hg.same s1,hb⟩⟩
 |false=>
  rw[aH cI];refine hN _ _ ?_;clear hN;replace hg:=hg.same s1;replace hi:=s1 _ _ hi;replace hw:=dW.same s1 hw;have h4':=hg.plc;obtain⟨⟨_,_⟩,⟨ws,h2,h3⟩,h4,⟨bs,h5,h6⟩,⟨cs,h7,h8⟩,⟨n1,n2,n3⟩,h10⟩:=hg;have hwl:=qU h3;have hpar:g.pa≠g.r:=jH h4 hi (by intro z;cases z);have hlar:g.la≠g.r:=jH h2 hi (by intro z;cases z);have haar:g.aa≠g.r:=jH h5 hi (by intro z;cases z);have hbar:g.ba≠g.r:=jH h7 hi (by intro z;cases z);have hpla:g.pa≠g.la:=jH h4 h2 (by intro z;cases z);have hpaa:g.pa≠g.aa:=jH h4 h5 (by intro z;cases z);have hpba:g.pa≠g.ba:=jH h4 h7 (by intro z;cases z);refine zH fun N hN=>?_
  dsimp![jA,HM];have sz:∀{n:Nat},n<=40000->n<sizeLine:=fun h=>fG (m:=100000) () ()
  refine⟨C,dx,_,hi,T.cl,T.nL,_,MY g,ws.length,.inl ⟨_,dL.of h2,rfl⟩,C,dx,_,hi,T.cl,T.nP,_,oy g,small (by simp),fun p hp=>?_⟩;have s2:=zD hp (.tup [.int (i:Int),.int (j:Int)]);have kp:upd H1 p (.tup [.int (i:Int),.int (j:Int)]) p=some (.tup [.int (i:Int),.int (j:Int)]):=zB;generalize upd H1 p (.tup [.int (i:Int),.int (j:Int)])=H2 at s2 kp⊢;refine⟨g.pa,rfl,_,.inr ⟨_,xF i j,p,s2 _ _ h4,rfl,kp,by rw[ID];exact sz hlen2,rfl⟩,hN _ _ ?_⟩;clear hN;have vn:yO (rN ls 0) (xF i j)=none:=by
   rcases YI (i:=i) (j:=j) ls 0 with⟨_,h⟩ |⟨p',l,g1,g2,g3,_⟩
   ·exact h
   ·have :=eZ.mpr ⟨p',l,g1,g2,g3⟩;rw[hb]at this;cases this
  rw[wZ vn];have ep:rN ls 0++[(xF i j,V.int (ws.length:Int))]=rN (ls++[⟨i,j,x,as⟩]) 0:=by rw[AH,iE,hwl]
  rw[ep];have g3:fU g H1 (upd H2 g.pa (.dT (rN (ls++[⟨i,j,x,as⟩]) 0))):=fun b o hb _ n _ _=>by rw[zJ n];exact s2 _ _ hb
  have e1:∀{b:Addr}{o:HO},H1 b=some o->b≠g.pa->upd H2 g.pa (.dT (rN (ls++[⟨i,j,x,as⟩]) 0)) b=some o:=fun hb n=>by rw[zJ n];exact s2 _ _ hb
  replace hi:=e1 hi (cJ hpar);replace h2:=e1 h2 (cJ hpla);replace h5:=e1 h5 (cJ hpaa);replace h7:=e1 h7 (cJ hpba);clear e1;replace h4:upd H2 g.pa (.dT (rN (ls++[⟨i,j,x,as⟩]) 0)) g.pa=some (.dT (rN (ls++[⟨i,j,x,as⟩]) 0)):=zB;have tu:cU H1 (upd H2 g.pa (.dT (rN (ls++[⟨i,j,x,as⟩]) 0))):=fun b xs hb=>by
   have hb2:=s2 _ _ hb;rw[zJ (jH hb h4' (by intro z;cases z))];exact hb2
  generalize upd H2 g.pa (.dT (rN (ls++[⟨i,j,x,as⟩]) 0))=H3 at g3 hi h2 h5 h7 h4 tu⊢;replace h3:=vB tu h3;replace hw:=tH tu hw;clear kp s2 hp vn ep tu;refine zH fun N hN=>?_
  dsimp![jA];refine⟨C,dx,_,hi,T.cl,T.nL,_,MY g,.inl ⟨rfl,_,dL.of h2⟩,small (by simp),fun pt hpt=>?_⟩;have s2:=zD hpt (.tup [.int (i:Int),.int (j:Int),wv]);have kt:upd H3 pt (.tup [.int (i:Int),.int (j:Int),wv]) pt=some (.tup [.int (i:Int),.int (j:Int),wv]):=zB;generalize upd H3 pt (.tup [.int (i:Int),.int (j:Int),wv])=H4 at s2 kt⊢;refine⟨g.la,rfl,_,s2 _ _ h2,sz (),hN _ _ ?_⟩;clear hN;have e1:∀{b:Addr}{o:HO},H3 b=some o->b≠g.la->upd H4 g.la (.lst (ws++[.ref pt])) b=some o:=fun hb n=>by rw[zJ n];exact s2 _ _ hb
  have g4:fU g H3 (upd H4 g.la (.lst (ws++[.ref pt]))):=fun b o hb n _ _ _=>e1 hb n
  have tu:cU H4 (upd H4 g.la (.lst (ws++[.ref pt]))):=(cU.refl _).upd_lst (s2 _ _ h2);have h3':jV (upd H4 g.la (.lst (ws++[.ref pt]))) (ls++[⟨i,j,x,as⟩]) (ws++[.ref pt]):=by
   refine vB tu ?_;unfold jV;rw[aU];exact bG.append (bG.same s2 h3) (bG.one (qh kt (dW.same s2 hw)))
  replace hi:=e1 hi (cJ hlar);replace h4:=e1 h4 hpla;replace h5:=e1 h5 (cJ n1);replace h7:=e1 h7 (cJ n2);have h2':upd H4 g.la (.lst (ws++[.ref pt])) g.la=some (.lst (ws++[.ref pt])):=zB;replace g3:=g3.trans g4;generalize upd H4 g.la (.lst (ws++[.ref pt]))=H5 at g3 hi h4 h5 h7 h2' h3'⊢;clear e1 g4 tu kt s2 hpt h2 h3 hw;have li:i<bs.length:=by rw[h6.len];lia
  have lj:j<cs.length:=by rw[h8.len];lia
  have gi:=aA li;have gj:=aA lj;generalize bs[i]=ci at gi;generalize cs[j]=cj at gj;have mset:∀(cs:List Nat)(i v:Nat),(cs.map nV).set i (V.int (v:Int))=(cs.set i v).map nV:=fun cs i v=>(List.map_set (f:=nV) (l:=cs) (i:=i) (a:=v)).symm
  refine zH fun N hN=>?_
  dsimp![HG,jA,HX,TM,HV];refine⟨C,dx,_,hi,T.cl,T.nA,_,TU g,g.aa,rfl,_,i,rfl,h5,nV ci,by rw[aK,gi];rfl,⟨(),(),()⟩,_,rfl,g.aa,rfl,_,h5,i,YM (by rw[aE];exact li),hN _ _ ?_⟩;clear hN;rw[vR j,kF,mset];have bc:∀a b:Nat,(((a:Nat):Int)==((b:Nat):Int))=(b==a):=fun a b=>by
   rw[cE,cQ,cQ];lia
  have e1:∀{b:Addr}{o:HO},H5 b=some o->b≠g.aa->upd H5 g.aa (.lst ((bs.set i (ci|||2^j)).map nV)) b=some o:=fun hb n=>by rw[zJ n];exact hb
  have g4:fU g H5 (upd H5 g.aa (.lst ((bs.set i (ci|||2^j)).map nV))):=fun b o hb _ _ n _=>e1 hb n
  have tu:cU H5 (upd H5 g.aa (.lst ((bs.set i (ci|||2^j)).map nV))):=(cU.refl _).upd_lst h5;replace h3':=vB tu h3';replace hi:=e1 hi (cJ haar);replace h4:=e1 h4 hpaa;replace h2':=e1 h2' n1;replace h7:=e1 h7 (cJ n3);have h5':upd H5 g.aa (.lst ((bs.set i (ci|||2^j)).map nV)) g.aa=some (.lst ((bs.set i (ci|||2^j)).map nV)):=zB;replace g3:=g3.trans g4;generalize upd H5 g.aa (.lst ((bs.set i (ci|||2^j)).map nV))=H6 at g3 hi h4 h5' h7 h2' h3'⊢;clear e1 g4 tu h5;dsimp![HG,jA,HX,TM,HV];refine⟨C,dx,_,hi,T.cl,T.nB,_,oz g,g.ba,rfl,_,j,rfl,h7,nV cj,by rw[aK,gj];rfl,⟨(),(),()⟩,_,rfl,g.ba,rfl,_,h7,j,YM (by rw[aE];exact lj),?_⟩;rw[vR i,kF,mset];have e1:∀{b:Addr}{o:HO},H6 b=some o->b≠g.ba->upd H6 g.ba (.lst ((cs.set j (cj|||2^i)).map nV)) b=some o:=fun hb n=>by rw[zJ n];exact hb
  have g4:fU g H6 (upd H6 g.ba (.lst ((cs.set j (cj|||2^i)).map nV))):=fun b o hb _ _ _ n=>e1 hb n
  have tu:cU H6 (upd H6 g.ba (.lst ((cs.set j (cj|||2^i)).map nV))):=(cU.refl _).upd_lst h7;refine q _ ⟨((bB.g s1).trans g3).trans g4,[⟨i,j,x,as⟩],⟨⟨⟨dx,e1 hi (cJ hbar)⟩,⟨_,e1 h2' n2,vB tu h3'⟩,e1 h4 hpba,⟨_,e1 h5' n3,h6.put gi fun a b=>?_⟩,⟨_,zB,h8.put gj fun a b=>?_⟩,⟨n1,n2,n3⟩,h10.put hb hst how⟩,by show zS (ls++[⟨i,j,x,as⟩]) i j=true;rw[vG,XV];simp⟩⟩
  ·rw[vG,XV];show(zS ls a b ||(((i:Nat):Int)==((a:Nat):Int)&&((j:Nat):Int)==((b:Nat):Int)))=_;rw[bc,bc]
  ·rw[vG,XV];show(zS ls b a ||(((i:Nat):Int)==((b:Nat):Int)&&((j:Nat):Int)==((a:Nat):Int)))=_;rw[bc,bc,Bool.and_comm]
theorem XD(m:Nat):(List.replicate m [V.int 0]).flatten=(List.replicate m 0).map nV:=by
 induction m with
 |zero=>rfl
 |succ m ih=>
  rw[fQ,mJ,ih,fQ,cF];rfl
theorem SR(n:Nat)(hp:Nat->Nat->Bool)(h:∀a b,hp a b=false):MkA n hp (List.replicate n 0):=⟨rL ..,fun a c hc b=>by
 obtain⟨_,e⟩:=aC.mp hc;rw[List.getElem_replicate]at e;subst e;rw[h];simp⟩
inductive k9 (C:Addr) (vs:List V) (H:Hp) (Q:VK) (E:XK):Prop
 |mk (r dx:Addr) (aD:List Rw) (aV:List xM) (_:vs=[.ref r,.int ((2*aD.length:Nat):Int)]) (_:H r=some (.ins C dx [])) (_:aD.length<=100) (_:∀(g:oG) H',g.r=r->fO r H H'->H g.la=none->H g.pa=none->H g.aa=none->H g.ba=none->lR C H' g aD aV []->Q .non H')
theorem xL{r l:Addr}{o:HO}(e:fO r H H')(h:H l=none):fO r H (upd H' l o):=fun b u hb n=>by
 have :b≠l:=fun z=>by rw[z,h]at hb;cases hb
 rw[zJ this];exact e b u hb n
theorem qD{r l:Addr}(e:fO r H H')(h:H' l=none)(n:l≠r):H l=none:=by
 cases hl:H l with
 |none=>rfl
 |some o=>have :=e l o hl n;rw[h]at this;cases this
theorem SE{C:Addr}(T:NW K C)(F:gS K "__init__" "Growth.__init__" s_B f fd):dI P w K mg base fY 1 f fd ["self","many"] (k9 C):=by
 refine F.okz sc_B fun fL A outer s H vs Q E hr h=>?_
 obtain⟨r,dx,aD,aV,rfl,lY,h30,q⟩:=h;generalize hn:2*aD.length=n at q;have n60:n<=200:=by lia
 have step:∀{H':Hp}{b:Addr}{u:HO},H' r=some u->H' b=none->b≠r:=fun h1 h2 z=>by rw[z,h1]at h2;cases h2
 refine⟨_,(zF (kW (pv 0) (yV zC) rfl) (zF (kW (pv 0) AN rfl) (zF (kW (pv 0) (zL EQ (yV (zA zE zC)) (pv 1)) rfl) (zG (kW (pv 0) (zL EQ (yV (zA zE zC)) (pv 1)) rfl))))),?_⟩;refine zH fun N hN=>?_
 dsimp![ED];refine⟨small (by simp),fun la hla=>?_⟩;have nla:=step lY hla;refine⟨C,dx,[],by rw[zJ (cJ nla)];exact lY,T.cl,T.nL,(),hN _ _ ?_⟩;clear hN;have x1:fO r H (upd (upd H la (.lst [])) r (.ins C dx (xC "lines" (.ref la) []))):=fO.upd (xL (fO.refl r H) hla);have k1:upd (upd H la (.lst [])) r (.ins C dx (xC "lines" (.ref la) [])) r=some (.ins C dx (xC "lines" (.ref la) [])):=zB;have l1:upd (upd H la (.lst [])) r (.ins C dx (xC "lines" (.ref la) [])) la=some (.lst []):=by rw[zJ nla];exact zB
 generalize upd (upd H la (.lst [])) r (.ins C dx (xC "lines" (.ref la) []))=H1 at x1 k1 l1⊢;refine zH fun N hN=>?_
 dsimp![ED,DU];refine fun pa hpa=>?_
 have npa:=step k1 hpa;have hpa0:=qD x1 hpa npa;refine⟨C,dx,_,by rw[zJ (cJ npa)];exact k1,T.cl,T.nP,by show 1<1000;decide,hN _ _ ?_⟩;clear hN;have npl:pa≠la:=fun z=>by rw[z,l1]at hpa;cases hpa
 have x2:fO r H (upd (upd H1 pa (.dT [])) r (.ins C dx (xC "places" (.ref pa) (xC "lines" (.ref la) [])))):=fO.upd (xL x1 hpa0);have k2:upd (upd H1 pa (.dT [])) r (.ins C dx (xC "places" (.ref pa) (xC "lines" (.ref la) []))) r=some (.ins C dx (xC "places" (.ref pa) (xC "lines" (.ref la) []))):=zB;have l2:upd (upd H1 pa (.dT [])) r (.ins C dx (xC "places" (.ref pa) (xC "lines" (.ref la) []))) la=some (.lst []):=by rw[zJ nla,zJ (cJ npl)];exact l1
 have p2:upd (upd H1 pa (.dT [])) r (.ins C dx (xC "places" (.ref pa) (xC "lines" (.ref la) []))) pa=some (.dT []):=by rw[zJ npa];exact zB
 generalize upd (upd H1 pa (.dT [])) r (.ins C dx (xC "places" (.ref pa) (xC "lines" (.ref la) [])))=H2 at x2 k2 l2 p2⊢;refine zH fun N hN=>?_
 dsimp![ED,ck];refine⟨small (by simp),fun p0 hp0=>⟨[V.int 0],zB,(),(),small (by simp;lia),fun aa haa=>?_⟩⟩;have np0:=step k2 hp0;have naa0:aa≠p0:=fun z=>by rw[z,zB]at haa;cases haa
 rw[zJ naa0]at haa;have naa:=step k2 haa;refine⟨C,dx,_,by rw[zJ (cJ naa),zJ (cJ np0)];exact k2,T.cl,T.nA,by show 2<1000;decide,hN _ _ ?_⟩;clear hN;rw[cA,XD];have nal:aa≠la:=fun z=>by rw[z,l2]at haa;cases haa
 have nap:aa≠pa:=fun z=>by rw[z,p2]at haa;cases haa
 have n0l:p0≠la:=fun z=>by rw[z,l2]at hp0;cases hp0
 have n0p:p0≠pa:=fun z=>by rw[z,p2]at hp0;cases hp0
 have haa0:=qD x2 haa naa;have hp00:=qD x2 hp0 np0;generalize hfs:xC "above" (V.ref aa) (xC "places" (V.ref pa) (xC "lines" (V.ref la) []))=fs3;have x3:fO r H (upd (upd (upd H2 p0 (.lst [.int 0])) aa (.lst ((List.replicate n 0).map nV))) r (.ins C dx fs3)):=fO.upd (xL (xL x2 hp00) haa0);have k3:upd (upd (upd H2 p0 (.lst [.int 0])) aa (.lst ((List.replicate n 0).map nV))) r (.ins C dx fs3) r=some (.ins C dx fs3):=zB;have l3:upd (upd (upd H2 p0 (.lst [.int 0])) aa (.lst ((List.replicate n 0).map nV))) r (.ins C dx fs3) la=some (.lst []):=by rw[zJ nla,zJ (cJ nal),zJ (cJ n0l)];exact l2
 have p3:upd (upd (upd H2 p0 (.lst [.int 0])) aa (.lst ((List.replicate n 0).map nV))) r (.ins C dx fs3) pa=some (.dT []):=by rw[zJ npa,zJ (cJ nap),zJ (cJ n0p)];exact p2
 have a3:upd (upd (upd H2 p0 (.lst [.int 0])) aa (.lst ((List.replicate n 0).map nV))) r (.ins C dx fs3) aa=some (.lst ((List.replicate n 0).map nV)):=by rw[zJ naa];exact zB
 generalize upd (upd (upd H2 p0 (.lst [.int 0])) aa (.lst ((List.replicate n 0).map nV))) r (.ins C dx fs3)=H3 at x3 k3 l3 p3 a3⊢;dsimp![ED,ck];refine⟨small (by simp),fun q0 hq0=>⟨[V.int 0],zB,(),(),small (by simp;lia),fun ba hba=>?_⟩⟩;have nq0:=step k3 hq0;have nba0:ba≠q0:=fun z=>by rw[z,zB]at hba;cases hba
 rw[zJ nba0]at hba;have nba:=step k3 hba;refine⟨C,dx,_,by rw[zJ (cJ nba),zJ (cJ nq0)];exact k3,T.cl,T.nB,by rw[←hfs];show 3<1000;decide,?_⟩;rw[cA,XD];have nbl:ba≠la:=fun z=>by rw[z,l3]at hba;cases hba
 have nbp:ba≠pa:=fun z=>by rw[z,p3]at hba;cases hba
 have nb1:ba≠aa:=fun z=>by rw[z,a3]at hba;cases hba
 have n1l:q0≠la:=fun z=>by rw[z,l3]at hq0;cases hq0
 have n1p:q0≠pa:=fun z=>by rw[z,p3]at hq0;cases hq0
 have n1a:q0≠aa:=fun z=>by rw[z,a3]at hq0;cases hq0
 have hba0:=qD x3 hba nba;have hq00:=qD x3 hq0 nq0;rw[←hfs];refine q ⟨r,la,pa,aa,ba⟩ _ rfl (fO.upd (xL (xL x3 hq00) hba0)) hla hpa0 haa0 hba0 ⟨⟨dx,zB⟩,⟨[],?_,rfl⟩,?_,⟨_,?_,SR _ _ fun a b=>rfl⟩,⟨_,?_,SR _ _ fun a b=>rfl⟩,⟨cJ nal,cJ nbl,cJ nb1⟩,⟨fun k l h=>(by cases h),fun a b x y h=>(by cases h),fun l h=>(by cases h)⟩⟩
 ·show upd _ r _ la=_;rw[zJ nla,zJ (cJ nbl),zJ (cJ n1l)];exact l3
 ·show upd _ r _ pa=_;rw[zJ npa,zJ (cJ nbp),zJ (cJ n1p)];exact p3
 ·show upd _ r _ aa=_;rw[zJ naa,zJ (cJ nb1),zJ (cJ n1a),hn];exact a3
 ·show upd _ r _ ba=_;rw[zJ nba,zB,hn]
abbrev l7:Stmt:=top 31
theorem HL:bZ ["growth","sheet","n","k","row"] ["growth","sheet"] (zK l7):=by rfl'
abbrev s_j:Stmt:=top 32
theorem bu:bZ ["sheet","boths","k","row"] ["sheet"] (zK s_j):=by rfl'
abbrev s_b:Stmt:=top 33
theorem PF:bZ ["rules","waiting","r","rule","premise"] ["rules"] (zK s_b):=by rfl'
theorem iq.then{C:Addr}{H'':Hp}{g:oG}{ls t:List Ln}(h:fU g H H')(h':iq C H' g aD aV (ls++t) H''):iq C H g aD aV ls H'':=by
 obtain⟨h1,t',h2⟩:=h';exact⟨h.trans h1,t++t',by rw[←cL];exact h2⟩
theorem mC.to{C:Addr}{g:oG}{ls:List Ln}(h:mC C H g aD aV ls R H'):iq C H g aD aV ls H':=by
 obtain⟨h1,t,h2,_⟩:=h;exact⟨h1,t,h2⟩
theorem mC.same{C:Addr}{H'':Hp}{g:oG}{ls:List Ln}(h:mC C H g aD aV ls R H')(e:bB H' H''):mC C H g aD aV ls R H'':=by
 obtain⟨h1,t,h2,h3⟩:=h;exact⟨h1.trans (bB.g e),t,h2.same e,h3⟩
theorem mC.pre{C:Addr}{H'':Hp}{g:oG}{ls:List Ln}(e:bB H H')(h:mC C H' g aD aV ls R H''):mC C H g aD aV ls R H'':=by
 obtain⟨h1,h2⟩:=h;exact⟨(bB.g e).trans h1,h2⟩
theorem mC.refl{C:Addr}{g:oG}{ls:List Ln}(h:lR C H g aD aV ls)(hR:R ls):mC C H g aD aV ls R H:=⟨fun _ _ hb _ _ _ _=>hb,[],by rw[cM];exact⟨h,hR⟩⟩
def Le(ls L:List Ln):Prop:=∃t,L=ls++t
theorem Le.refl(ls:List Ln):Le ls ls:=⟨[],(cM _).symm⟩
theorem Le.trans{a b c:List Ln}(h:Le a b)(h':Le b c):Le a c:=by
 obtain⟨t,rfl⟩:=h;obtain⟨t',rfl⟩:=h';exact⟨t++t',by rw[cL]⟩
theorem Le.has{a b:List Ln}(h:Le a b){i j:Int}(hh:zS a i j=true):zS b i j=true:=by
 obtain⟨t,rfl⟩:=h;rw[vG,hh,Bool.true_or]
theorem mC.then{C:Addr}{H'':Hp}{g:oG}{ls t:List Ln}{R':List Ln->Prop}(h:fU g H H')(h':mC C H' g aD aV (ls++t) R H'')(i:∀L,Le (ls++t) L->R L->R' L):mC C H g aD aV ls R' H'':=by
 obtain⟨h1,t',h2,h3⟩:=h';rw[cL]at h2 h3;exact⟨h.trans h1,t++t',h2,i _ ⟨t',by rw[cL]⟩ h3⟩
def JN(g:oG)(a:Addr):Prop:=a≠g.la/\a≠g.pa/\a≠g.aa/\a≠g.ba
theorem fU.out{g:oG}{o:HO}(e:fU g H H')(n:JN g a)(h:H a=some o):H' a=some o:=e a o h n.1 n.2.1 n.2.2.1 n.2.2.2
theorem OS{ls:List Ln}{x:Str}(hi:i<2*aD.length)(hj:j<2*aD.length)(hx:x≠"rule")(hn:QD x=some 0)(h:xA aD i j x []=true):xP aD aV ls ls.length ⟨i,j,x,[]⟩=true:=by
 unfold xP;rw[aH (by
  intro z;rcases z with z |z
  ·exact z ⟨by show(0:Int)<=(i:Int);lia,by show(i:Int)<_;lia⟩
  ·exact z ⟨by show(0:Int)<=(j:Int);lia,by show(j:Int)<_;lia⟩),aH hx,aL ⟨hn,rfl⟩]
 exact h
theorem ow0:OW []:=⟨by simp,fun ps h=>by cases h⟩
theorem wQ{C:Addr}{H2:Hp}{g:oG}{ls t:List Ln}(hs:fU g H H')(hg:lR C H' g aD aV (ls++t))(iC:aD.length<=100)(e:bB H' H2){x:Str}{wv:V}(hw:dW H2 (ZH x as) wv)(hst:xP aD aV (ls++t) (ls++t).length ⟨i,j,x,as⟩=true)(ho:OW as){Q:VK}{E:XK}(hR:∀L,Le (ls++t) L->zS L i j=true->R L)(q:∀v H3,mC C H g aD aV ls R H3->Q v H3):
 rP C [.ref g.r,.int i,.int j,wv] H2 Q E:=
 ⟨g,aD,aV,_,i,j,wv,x,as,rfl,hg.same e,iC,hw,hst,ho,fun H3 g3=>q _ _ (mC.then (hs.trans (bB.g e)) g3 hR)⟩
theorem vH{C:Addr}{g:oG}{ls t:List Ln}(hs:fU g H H')(hg:lR C H' g aD aV (ls++t))(iC:aD.length<=100)(hi:i<2*aD.length)(hj:j<2*aD.length){x:Str}(hx:x≠"rule")(hn:QD x=some 0)(hst:xA aD i j x []=true)(hp:H' p=none){Q:VK}{E:XK}(hR:∀L,Le (ls++t) L->zS L i j=true->R L)(q:∀v H2,mC C H g aD aV ls R H2->Q v H2):
 rP C [.ref g.r,.int i,.int j,.ref p] (upd H' p (.tup [.str x])) Q E:=
 wQ hs hg iC (zD hp _) (x:=x) (as:=[]) ⟨p,_,rfl,zB,_,_,rfl,rfl,rfl⟩ (OS hi hj hx hn hst) ow0 hR q
structure Pl(aD:List Rw)(n m:Nat)(L:List Ln):Prop where
 same:∀x:Nat,x<n->zS L x x=true
 low:∀x:Nat,x<n->zS L 0 x=true
 high:∀x:Nat,x<n->zS L x 1=true
 part:∀(k:Nat)(a b:Int),k<m->aD[k]?=some (.bo a b)->zS L ((2*k:Nat):Int) a=true/\zS L ((2*k:Nat):Int) b=true
theorem Pl.le{m:Nat}{L L':List Ln}(h:Pl aD n m L)(e:Le L L'):Pl aD n m L':=⟨fun x hx=>e.has (h.same x hx),fun x hx=>e.has (h.low x hx),fun x hx=>e.has (h.high x hx),fun k a b hk hr=>⟨e.has (h.part k a b hk hr).1,e.has (h.part k a b hk hr).2⟩⟩
inductive spBe (K:W.Frag) (C:Addr) (vs:List V) (H:Hp) (Q:VK) (E:XK):Prop
 |mk (g:oG) (sa:Addr) (us:List V) (aD:List Rw) (aV:List xM) (_:vs=[.ref g.r,.ref sa]) (_:lR C H g aD aV []) (_:aD.length<=100) (_:H sa=some (.lst us)) (_:gC K H aD us) (_:JN g sa) (_:qK aD) (_:∀H',mC C H g aD aV [] (Pl aD (2*aD.length) aD.length) H'->Q .non H')
theorem SK{C:Addr}(T:NW K C)(bi:Bi mg)(be:mg "enumerate"=none)(h_d:lA P w K mg base 2 C "grow" ["self","i","j","why"] (rP C))(F:gS K "begin" "begin" l7 f fd):dI P w K mg base fY 3 f fd ["growth","sheet"] (spBe K C):=by
 refine F.okz HL fun fL A outer s H vs Q E hr h=>?_
 obtain⟨g,sa,us,aD,aV,rfl,hg,iC,hsa,hrw,hout,hin,q⟩:=h;have hul:=hrw.len;have cR:=T.cl;have lk:(pY g).lookup ("grow":Str)=none:=qR g () () () ();refine⟨_,(zF (yM bM rfl (xY rfl bi.range (zA (zL xQ zE (yC yJ rfl bi.len yX (zA (pv 1) zC))) zC)) (yF 2 HL.nd) (zF (zX (zZ h_d cR hr.m (pv 0) (zA (pv 2) (zA (pv 2) (zA (zN (zA zR zC)) zC))))) (zF (zX (zZ h_d cR hr.m (pv 0) (zA zE (zA (pv 2) (zA (zN (zA zR zC)) zC))))) (zG (zX (zZ h_d cR hr.m (pv 0) (zA (pv 2) (zA zE (zA (zN (zA zR zC)) zC))))))))) (zG (yM bM rfl (jN rfl be (zA (pv 1) zC)) (uU rfl (zY (yF 3 HL.nd) (zY (yF 4 HL.nd) xH))) (zG (yI (zQ xG (zM zP (pv 4) zE) zR (zU _)) (zF (zX (zZ h_d cR hr.m (pv 0) (zA (zL xQ zE (pv 3)) (zA (zM zP (pv 4) zE) (zA (zN (zA zR zC)) zC))))) (zG (zX (zZ h_d cR hr.m (pv 0) (zA (zL xQ zE (pv 3)) (zA (zM zP (pv 4) zE) (zA (zN (zA zR zC)) zC))))))) zW))))),?_⟩;refine yB (fun σ H'=>∃(o1 o2 o3:Option V),mC C H g aD aV [] (Pl aD (2*aD.length) 0) H'/\σ=[some (V.ref g.r),some (V.ref sa),o1,o2,o3]) (fun N hN=>?_) (fun σ H' h=>?_)
 ·dsimp![];refine⟨us.length,.inl ⟨_,dL.of hsa,rfl⟩,.inl ⟨(),()⟩,(),(),?_⟩;refine vJ (n:=(2*(us.length:Int)).toNat) (fun i σ H'=>∃(o1 o2 o3:Option V),mC C H g aD aV [] (Pl aD i 0) H'/\σ=[some (V.ref g.r),some (V.ref sa),o1,o2,o3]) ⟨_,_,_,mC.refl hg ⟨fun x hx=>(),fun x hx=>(),fun x hx=>(),fun k a b hk=>()⟩,rfl⟩ (fun i σ H' hi h M hM=>?_) (fun σ H' h=>?_)
  rotate_left
  ·rw[show(2*(us.length:Int)).toNat=2*aD.length by lia]at h;exact hN _ _ h
  obtain⟨o1,o2,o3,⟨gs,t,gt,hP⟩,rfl⟩:=h;have hi':i<2*aD.length:=by lia
  have e0:(0:Int)+(i:Int)=((i:Nat):Int):=by lia
  show ON _ _ _ _ _;refine zH fun N2 hN2=>?_
  dsimp![yT];rw[e0];obtain⟨dx,eK⟩:=gt.ins;refine⟨_,_,eK,lk,small (by simp),fun p hp=>vH gs gt iC hi' hi' (x:="same") () rfl (by unfold xA;rw[aL rfl];simp) hp (R:=fun L=>Pl aD i 0 L/\zS L i i=true) (fun L e h=>⟨hP.le e,h⟩) fun _ H2 g2=>hN2 _ _ ?_⟩;clear hN2 eK gs gt;obtain⟨gs,t,gt,hP,hp1⟩:=g2;obtain⟨dx,eK⟩:=gt.ins;refine zH fun N2 hN2=>?_
  dsimp![yT];refine⟨_,_,eK,lk,small (by simp),fun p hp=>vH (i:=0) gs gt iC () hi' (x:="edge") () rfl (by unfold xA;rw[aH (),aL rfl];simp) hp (R:=fun L=>Pl aD i 0 L/\zS L i i=true/\zS L 0 i=true) (fun L e h=>⟨hP.le e,e.has hp1,h⟩) fun _ H2 g2=>hN2 _ _ ?_⟩;clear hN2 eK gs gt;obtain⟨gs,t,gt,hP,hp1,mU⟩:=g2;obtain⟨dx,eK⟩:=gt.ins;dsimp![yT];refine⟨_,_,eK,lk,small (by simp),fun p hp=>vH (j:=1) gs gt iC hi' () (x:="edge") () rfl (by unfold xA;rw[aH (),aL rfl];simp) hp (R:=Pl aD (i+1) 0) (fun L e h=>?_) fun _ H2 g2=>?_⟩
  ·have c:∀{x:Nat},x<i+1->x<i\/x=i:=fun h=>by lia
   have hP':=hP.le e;exact⟨fun x hx=>(c hx).elim (hP'.same x) fun z=>z▸e.has hp1,fun x hx=>(c hx).elim (hP'.low x) fun z=>z▸e.has mU,fun x hx=>(c hx).elim (hP'.high x) fun z=>z▸h,fun k a b hk=>()⟩
  exact hM _ _ ⟨_,_,_,g2,rfl⟩
 obtain⟨o1,o2,o3,hgt,rfl⟩:=h;have hsa':=hgt.to.1.out hout hsa;dsimp![vF];refine⟨_,hsa',?_⟩;refine YO (xs:=us) (fun k σ H'=>∃(o1 o2 o3:Option V),mC C H g aD aV [] (Pl aD (2*aD.length) k) H'/\σ=[some (V.ref g.r),some (V.ref sa),o1,o2,o3]) ⟨_,_,_,hgt,rfl⟩ (fun k σ H' h=>?_) (fun k x σ H' p hx h hp M hM=>?_) (fun σ H' h=>?_)
 ·obtain⟨_,_,_,h,_⟩:=h;exact h.to.1.out hout hsa
 ·obtain⟨o1,o2,o3,hgt,rfl⟩:=h;have hk:k<aD.length:=by rw[←hul];exact(aC.mp hx).1
  obtain⟨r,hr1,hr2⟩:=hrw.get hx;have tu:=hg.tups hgt.to.1;obtain⟨xa,x',vs,rfl,hxa,hcase⟩:=GK.out hr2;have hxa0:=hxa;replace hxa:=hxa.tups tu;replace hgt:=hgt.same (zD hp (.tup [.int k,.ref xa]));have hxa':=hxa.same (zD hp (.tup [.int k,.ref xa]));have kp:upd H' p (.tup [.int k,.ref xa]) p=some (.tup [.int k,.ref xa]):=zB;generalize upd H' p (.tup [.int k,.ref xa])=H2 at hgt hxa' kp⊢;dsimp![vI,jU,wC,yT];refine⟨[.int k,.ref xa],dN.of kp,rfl,.int k,[.ref xa],rfl,.ref xa,[],rfl,rfl,xa,rfl,_,hxa'.sq,_,mK,rfl,?_⟩;have nob:∀{L:List Ln},(∀a b,r≠.bo a b)->Pl aD (2*aD.length) k L->Pl aD (2*aD.length) (k+1) L:=fun hno h=>⟨h.same,h.low,h.high,fun m a b hm lY=>by
   rcases iF (mG hm)with z |z
   ·exact h.part m a b z lY
   ·subst z;rw[hr1]at lY;cases lY;exact absurd rfl (hno a b)⟩
  have weak:∀{R R':List Ln->Prop}{H'},(∀L,R L->R' L)->mC C H g aD aV [] R H'->mC C H g aD aV [] R' H':=fun w h=>by
   obtain⟨h1,t,h2,h3⟩:=h;exact⟨h1,t,h2,w _ h3⟩
  cases r with
  |no=>
   obtain⟨rfl,rfl⟩:=hcase;rw[aH (by intro z;exact absurd (V.str.inj z) ())];exact hM _ _ ⟨_,_,_,weak (fun L=>nob (fun a b z=>by cases z)) hgt,rfl⟩
  |nm y=>
   obtain⟨rfl,rfl⟩:=hcase;rw[aH (by intro z;exact absurd (V.str.inj z) ())];exact hM _ _ ⟨_,_,_,weak (fun L=>nob (fun a b z=>by cases z)) hgt,rfl⟩
  |bo i j=>
   obtain⟨rfl,rfl⟩:=hcase;rw[aL rfl];obtain⟨⟨b1,b2⟩,b3,b4⟩:=hin k i j hr1;obtain⟨a,rfl⟩:∃a:Nat,i=(a:Int):=⟨i.toNat,()⟩
   obtain⟨b,rfl⟩:∃b:Nat,j=(b:Int):=⟨j.toNat,()⟩
   have e2:(2:Int)*(k:Int)=((2*k:Nat):Int):=by lia
   have hpt:uW aD ((2*k:Nat):Int)=[(a:Int),(b:Int)]:=kE (r:=.bo a b) () (by rw[show(((2*k:Nat):Int)/2).toNat=k by lia];exact hr1);have hst:∀c:Nat,(c=a\/c=b)->xA aD ((2*k:Nat):Int) c "part" []=true:=fun c hc=>by
    unfold xA;rw[aH (),aH (),aL rfl,hpt];rcases hc with rfl |rfl<;>simp
   have at2:∀{a b c:V},oU [a,b,c] 2=some c:=yE (j:=2) rfl;obtain⟨gs,t,gt,hP⟩:=hgt;obtain⟨dx,eK⟩:=gt.ins;refine⟨_,_,eK,lk,_,rfl,.inl ⟨(),()⟩,xa,rfl,_,hxa'.sq,_,rG,small (by simp),fun p1 hp1=>?_⟩;rw[e2];refine vH (i:=2*k) (j:=a) gs gt iC () () (x:="part") () rfl (hst a (.inl rfl)) hp1 (R:=fun L=>Pl aD (2*aD.length) k L/\zS L ((2*k:Nat):Int) a=true) (fun L e h=>⟨hP.le e,h⟩) fun _ H3 g3=>?_
   have hxa3:=hxa0.tups (hg.tups g3.1);obtain⟨gs,t,gt,hP,hpa⟩:=g3;obtain⟨dx,eK⟩:=gt.ins;refine⟨_,_,eK,lk,_,rfl,.inl ⟨(),()⟩,xa,rfl,_,hxa3.sq,_,at2,small (by simp),fun p2 mU=>?_⟩;rw[e2];refine vH (i:=2*k) (j:=b) gs gt iC () () (x:="part") () rfl (hst b (.inr rfl)) mU (R:=Pl aD (2*aD.length) (k+1)) (fun L e h=>?_) fun _ H4 g4=>hM _ _ ⟨_,_,_,g4,rfl⟩
   have hP':=hP.le e;refine⟨hP'.same,hP'.low,hP'.high,fun m a' b' hm lY=>?_⟩;rcases iF (mG hm)with z |z
   ·exact hP'.part m a' b' z lY
   ·subst z;rw[hr1]at lY;cases lY;exact⟨e.has hpa,h⟩
 ·obtain⟨_,_,_,h,rfl⟩:=h;rw[hul]at h;exact q _ h
def WD(aD:List Rw)(H:Hp)(v:V):Prop:=∃(t:Addr)(k:Nat)(a b:Int),v=.ref t/\H t=some (.tup [.int (2*(k:Int)),.int a,.int b])/\aD[k]?=some (.bo a b)
theorem WD.tups(e:cU H H')(h:WD aD H v):WD aD H' v:=by
 obtain⟨t,k,a,b,h1,h2,h3⟩:=h;exact⟨t,k,a,b,h1,e _ _ h2,h3⟩
def NM(aD:List Rw)(H:Hp)(qs:List Addr)(n:Nat):Prop:=∀q∈qs,∃us,H q=some (.lst us)/\us.length<=n/\∀v∈us,WD aD H v
theorem NM.same(e:bB H H')(h:NM aD H qs n):NM aD H' qs n:=fun q hq=>by
 obtain⟨us,h1,h2,h3⟩:=h q hq;exact⟨us,e _ _ h1,h2,fun v hv=>(h3 v hv).tups e.tups⟩
theorem NM.put{q:Addr}(h:NM aD H qs n)(hq:H q=some (.lst us))(hl:us.length<=n)(hus:∀v∈us,WD aD H v)(hv:WD aD H v):NM aD (upd H q (.lst (us++[v]))) qs (n+1):=fun q' hq'=>by
 have tu:cU H (upd H q (.lst (us++[v]))):=(cU.refl _).upd_lst hq;by_cases e:q'=q
 ·subst e;refine⟨us++[v],zB,by simp;lia,fun x hx=>?_⟩;rcases bO.mp hx with hx |hx
  ·exact(hus x hx).tups tu
  ·rw[aT.mp hx];exact hv.tups tu
 ·obtain⟨us',h1,h2,h3⟩:=h q' hq';exact⟨us',by rw[zJ e];exact h1,(),fun x hx=>(h3 x hx).tups tu⟩
def aj(H:Hp)(q:Addr)(m:Nat)(a b:Int):Prop:=∃(us:List V)(t:Addr),H q=some (.lst us)/\V.ref t∈us/\H t=some (.tup [.int (2*(m:Int)),.int a,.int b])
theorem aj.same{q:Addr}{m:Nat}{a b:Int}(e:bB H H')(h:aj H q m a b):aj H' q m a b:=by
 obtain⟨us,t,h1,h2,h3⟩:=h;exact⟨us,t,e _ _ h1,h2,e _ _ h3⟩
theorem aj.upd{q:Addr}{m:Nat}{a b:Int}(h:aj H q m a b){q1:Addr}{us1:List V}(hq:H q1=some (.lst us1)):aj (upd H q1 (.lst (us1++[v]))) q m a b:=by
 obtain⟨us,t,h1,h2,h3⟩:=h;have h3':=(cU.refl H).upd_lst (o:=.lst (us1++[v])) hq _ _ h3;by_cases e:q=q1
 ·subst e;rw[hq]at h1;cases h1;exact⟨_,t,zB,cK _ h2,h3'⟩
 ·exact⟨us,t,(zJ e).trans h1,h2,h3'⟩
def NX(aD:List Rw)(H:Hp)(qs:List Addr)(k:Nat):Prop:=∀(m:Nat)(a b:Int),m<k->aD[m]?=some (.bo a b)->∀(x:Nat)(q:Addr),((x:Int)=a\/(x:Int)=b)->qs[x]?=some q->aj H q m a b
theorem NX.same{k:Nat}(e:bB H H')(h:NX aD H qs k):NX aD H' qs k:=fun m a b hm hr x q hx hq=>(h m a b hm hr x q hx hq).same e
theorem NX.upd{k:Nat}(h:NX aD H qs k){q1:Addr}{us1:List V}(hq1:H q1=some (.lst us1)):NX aD (upd H q1 (.lst (us1++[v]))) qs k:=fun m a b hm hr x q hx hq=>(h m a b hm hr x q hx hq).upd hq1
theorem NX.succ{k:Nat}(h:NX aD H qs k)(hk:∀(a b:Int),aD[k]?=some (.bo a b)->∀(x:Nat)(q:Addr),((x:Int)=a\/(x:Int)=b)->qs[x]?=some q->aj H q k a b):NX aD H qs (k+1):=fun m a b hm hr x q hx hq=>by
 rcases iF (mG hm)with z |z
 ·exact h m a b z hr x q hx hq
 ·subst z;exact hk a b hr x q hx hq
inductive spBo (K:W.Frag) (vs:List V) (H:Hp) (Q:VK) (E:XK):Prop
 |mk (sa:Addr) (us:List V) (aD:List Rw) (_:vs=[.ref sa]) (_:H sa=some (.lst us)) (_:gC K H aD us) (_:aD.length<=100) (_:qK aD) (_:∀(p:Addr)(qs:List Addr)(n:Nat)(H':Hp),bB H H'->H p=none->(∀q∈qs,H q=none)->H' p=some (.lst (qs.map V.ref))->qs.length=2*aD.length->NM aD H' qs n->NX aD H' qs aD.length->Q (.ref p) H')
def NU(m:Nat)(H0 H:Hp)(kvs:List (List eL×V))(n:Nat):Prop:=∀kv∈kvs,∃(q:Addr)(ns:List Nat),kv.2=.ref q/\H q=some (.lst (ns.map nV))/\H0 q=none/\ns.length<=n/\∀x∈ns,x<m
theorem NU.same{m:Nat}{H0:Hp}(e:bB H H')(h:NU m H0 H kvs n):NU m H0 H' kvs n:=fun kv hkv=>by
 obtain⟨q,ns,h1,h2,h3⟩:=h kv hkv;exact⟨q,ns,h1,e _ _ h2,h3⟩
theorem NU.upd{m:Nat}{H0:Hp}{q:Addr}{ns:List Nat}{r:Nat}(h:NU m H0 H kvs n)(hl:ns.length<=n)(hns:∀x∈ns,x<m)(hr:r<m)(hq:H0 q=none):NU m H0 (upd H q (.lst (ns.map nV++[nV r]))) kvs (n+1):=fun kv hkv=>by
 obtain⟨q',ns',h1,h2,h3,h4,h5⟩:=h kv hkv;by_cases e:q'=q
 ·subst e;refine⟨q',ns++[r],h1,by rw[zB,aU];rfl,hq,by simp;lia,fun x hx=>?_⟩;rcases bO.mp hx with hx |hx
  ·exact hns x hx
  ·rw[aT.mp hx];exact hr
 ·exact⟨q',ns',h1,(zJ e).trans h2,h3,(),h5⟩
theorem tK{κ:Type} [DecidableEq κ] {kvs:List (κ×V)} {k:κ} (h:yO kvs k=some v):∃kv∈kvs,kv.2=v:=by
 unfold yO at h;obtain⟨x,hx,e⟩:=aO.mp h;exact⟨x,List.mem_of_find?_eq_some hx,e⟩
theorem OD{κ:Type} [DecidableEq κ] {kvs t:List (κ×V)} {k:κ} (h:yO kvs k=some v):yO (kvs++t) k=some v:=by
 unfold yO at h⊢;obtain⟨x,hx,e⟩:=aO.mp h;rw[List.find?_append,hx];exact dH some e
theorem OE{κ:Type} [DecidableEq κ] {kvs:List (κ×V)} {k:κ} (h:yO kvs k=none):yO (kvs++[(k,v)]) k=some v:=by
 unfold yO at h⊢;rw[pR]at h;rw[List.find?_append,h];simp
theorem FD:∀{a b:List Nat},a.map nV=b.map nV->a=b
 |[],[],_=>rfl
 |[],_::_,h=>by cases h
 |_::_,[],h=>by cases h
 |x::a,y::b,h=>by
  injection h with h1 h2
  have h3:=V.int.inj h1;have h4:x=y:=by lia
  rw[h4,FD h2]
def KZ(H:Hp)(kvs:List (List eL×V))(pr:Pr)(r:Nat):Prop:=∃(q:Addr)(ns:List Nat),yO kvs (xF pr.1 pr.2)=some (.ref q)/\H q=some (.lst (ns.map nV))/\r∈ns
theorem KZ.same{pr:Pr}{r:Nat}(e:bB H H')(h:KZ H kvs pr r):KZ H' kvs pr r:=by
 obtain⟨q,ns,h1,h2,h3⟩:=h;exact⟨q,ns,h1,e _ _ h2,h3⟩
theorem KZ.app{t:List (List eL×V)}{pr:Pr}{r:Nat}(h:KZ H kvs pr r):KZ H (kvs++t) pr r:=by
 obtain⟨q,ns,h1,h2,h3⟩:=h;exact⟨q,ns,OD h1,h2,h3⟩
theorem KZ.upd{pr:Pr}{r:Nat}(h:KZ H kvs pr r){q1:Addr}{ns1:List Nat}{x:Nat}(hq:H q1=some (.lst (ns1.map nV))):KZ (upd H q1 (.lst (ns1.map nV++[nV x]))) kvs pr r:=by
 obtain⟨q,ns,h1,h2,h3⟩:=h;by_cases e:q=q1
 ·subst e;rw[hq]at h2;have e2:ns1=ns:=by
   have :=HO.lst.inj (dC h2);exact FD this
  subst e2;exact⟨q,ns1++[x],h1,by rw[zB,aU];rfl,cK _ h3⟩
 ·exact⟨q,ns,h1,(zJ e).trans h2,h3⟩
theorem KZ.dic{pr:Pr}{r:Nat}(h:KZ H kvs pr r){kvs0:List (List eL×V)}{o:HO}(hp:H p=some (.dT kvs0)):KZ (L2.upd H p o) kvs pr r:=by
 obtain⟨q,ns,h1,h2,h3⟩:=h;exact⟨q,ns,h1,(zJ (fun z=>by rw[z,hp]at h2;cases h2)).trans h2,h3⟩
def WaC(aV:List xM)(H:Hp)(kvs:List (List eL×V))(k m:Nat):Prop:=∀(r:Nat)(q:xM)(x:Nat)(pr:Pr),aV[r]?=some q->q.1[x]?=some pr->(r<k\/r=k/\x<m)->KZ H kvs pr r
inductive spWa (vs:List V) (H:Hp) (Q:VK) (E:XK):Prop
 |mk (ra:Addr) (us:List V) (aV:List xM) (_:vs=[.ref ra]) (_:H ra=some (.lst us)) (_:bG H (aV.map af) us) (_:aV.length<=100) (_:(∀r∈aV,r.1.length<=100)) (_:∀(p:Addr)(kvs:List (List eL×V))(n:Nat)(H':Hp),bB H H'->H p=none->H' p=some (.dT kvs)->NU aV.length H H' kvs n->WaC aV H' kvs aV.length 0->Q (.ref p) H')
theorem SJ(bi:Bi mg)(be:mg "enumerate"=none)(F:gS K "boths_by_part" "boths_by_part" s_j f fd):dI P w K mg base fY 1 f fd ["sheet"] (spBo K):=by
 refine F.okz bu fun fL A outer s H vs Q E hr h=>?_
 obtain⟨sa,us,aD,rfl,hsa,hrw,iC,hin,q⟩:=h;have hul:=hrw.len;refine⟨_,(zF (UL (i:=1) ["n"] [] [] bu.nd rfl (xY rfl bi.range (zA (zL xQ zE (yC yJ rfl bi.len yX (zA (pv 0) zC))) zC)) (fun _ _ _ _ nd=>yF 0 nd) (fun _ _ _ _=>xE) (fun _ _ _ _=>(yV zC))) (zF (yM bM rfl (jN rfl be (zA (pv 0) zC)) (uU rfl (zY (yF 2 bu.nd) (zY (yF 3 bu.nd) xH))) (zG (yI (zQ xG (zM zP (pv 3) zE) zR (zU _)) (zF (zX (jS bW cT cS yZ (zM yH (pv 1) (zM zP (pv 3) zE)) (zA (zN (zA (zL xQ zE (pv 2)) (zA (zM zP (pv 3) zE) (zA (zM zP (pv 3) zE) zC)))) zC))) (zG (zX (jS bW cT cS yZ (zM yH (pv 1) (zM zP (pv 3) zE)) (zA (zN (zA (zL xQ zE (pv 2)) (zA (zM zP (pv 3) zE) (zA (zM zP (pv 3) zE) zC)))) zC))))) zW))) (zG (zO (pv 1))))),?_⟩;refine zH fun N hN=>?_
 dsimp![];refine⟨us.length,.inl ⟨_,dL.of hsa,rfl⟩,.inl ⟨(),()⟩,(),(),?_⟩;refine TB (lo:=0) (n:=(2*(us.length:Int)).toNat) (fun i ys σ H'=>bB H H'/\(∃qs:List Addr,ys=qs.map V.ref/\qs.length=i/\(∀q∈qs,H q=none)/\NM aD H' qs 0)/\∃o,σ=[o]) ⟨bB.refl _,⟨[],rfl,rfl,(fun q z=>by cases z),fun q z=>by cases z⟩,_,rfl⟩ (small ()) (fun i ys σ H' e=>?_) (fun i ys σ H' C hi e hC=>?_) (fun ys σ H' e p hp=>hN _ _ ?_)
 ·obtain⟨_,⟨qs,rfl,hl,_⟩,_⟩:=e;rw[aE];lia
 ·obtain⟨es,⟨qs,rfl,hl,hfr,hbo⟩,o,rfl⟩:=e;dsimp![];refine⟨small (by simp),fun q0 hq0=>hC _ _ _ ⟨es.trans (zD hq0 _),⟨qs++[q0],by rw[aU];rfl,by simp[hl],fun q hq=>?_,fun q hq=>?_⟩,_,rfl⟩⟩
  ·rcases bO.mp hq with hq |hq
   ·exact hfr q hq
   ·rw[aT.mp hq];exact es.free hq0
  ·rcases bO.mp hq with hq |hq
   ·exact NM.same (zD hq0 _) hbo q hq
   ·rw[aT.mp hq];exact⟨[],zB,aG _,fun v z=>by cases z⟩
 obtain⟨es,⟨qs,rfl,hl,hfr,hbo⟩,o,rfl⟩:=e;clear hN;have s1:=zD hp (.lst (qs.map V.ref));have k1:upd H' p (.lst (qs.map V.ref)) p=some (.lst (qs.map V.ref)):=zB;have hp0:=es.free hp;have hpq:p∉qs:=fun z=>by
  obtain⟨_,h1,_⟩:=hbo p z;rw[hp]at h1;cases h1
 replace hbo:=hbo.same s1;replace es:=es.trans s1;generalize upd H' p (.lst (qs.map V.ref))=H1 at k1 hbo es⊢;have hql:qs.length=2*aD.length:=by lia
 clear s1 hp hl;refine yB (fun σ H'=>∃(o1 o2:Option V)(n:Nat),bB H H'/\H' p=some (.lst (qs.map V.ref))/\NM aD H' qs n/\NX aD H' qs aD.length/\σ=[some (V.ref sa),some (V.ref p),o1,o2]) (fun N hN=>?_) (fun σ H' h=>?_)
 ·dsimp![vF];refine⟨_,es _ _ hsa,?_⟩;refine YO (xs:=us) (fun k σ H'=>∃(o1 o2:Option V),bB H H'/\H' p=some (.lst (qs.map V.ref))/\NM aD H' qs (2*k)/\NX aD H' qs k/\σ=[some (V.ref sa),some (V.ref p),o1,o2]) ⟨_,_,es,k1,hbo,(fun m a b hm=>()),rfl⟩ (fun k σ H' h=>?_) (fun k x σ H' pe hx h hpe M hM=>?_) (fun σ H' h=>?_)
  ·obtain⟨_,_,h,_⟩:=h;exact h _ _ hsa
  ·obtain⟨o1,o2,s2,k2,hb2,hc2,rfl⟩:=h;have hk:k<aD.length:=by rw[←hul];exact(aC.mp hx).1
   obtain⟨r,hr1,hr2⟩:=hrw.get hx;obtain⟨xa,x',vs,rfl,hxa,hcase⟩:=GK.out hr2;have s3:=zD hpe (.tup [.int k,.ref xa]);have kp:upd H' pe (.tup [.int k,.ref xa]) pe=some (.tup [.int k,.ref xa]):=zB;generalize upd H' pe (.tup [.int k,.ref xa])=H2 at s3 kp⊢;replace s2:=s2.trans s3;replace k2:=s3 _ _ k2;replace hb2:=hb2.same s3;replace hc2:=hc2.same s3;replace hxa:=hxa.same s2;clear s3 hpe;have more:∀{a b:Nat},a<=b->NM aD H2 qs a->NM aD H2 qs b:=fun hab h q hq=>by
    obtain⟨us,h1,h2,h3⟩:=h q hq;exact⟨us,h1,(),h3⟩
   dsimp![vI,jU,wC];refine⟨[.int k,.ref xa],dN.of kp,rfl,.int k,[.ref xa],rfl,.ref xa,[],rfl,rfl,xa,rfl,_,hxa.sq,_,mK,rfl,?_⟩;cases r with
   |no=>
    obtain⟨rfl,rfl⟩:=hcase;rw[aH (by intro z;exact absurd (V.str.inj z) ())];exact hM _ _ ⟨_,_,s2,k2,more () hb2,hc2.succ (fun a b z=>by rw[hr1]at z;cases z),rfl⟩
   |nm y=>
    obtain⟨rfl,rfl⟩:=hcase;rw[aH (by intro z;exact absurd (V.str.inj z) ())];exact hM _ _ ⟨_,_,s2,k2,more () hb2,hc2.succ (fun a b z=>by rw[hr1]at z;cases z),rfl⟩
   |bo i j=>
    obtain⟨rfl,rfl⟩:=hcase;rw[aL rfl];obtain⟨⟨b1,b2⟩,b3,b4⟩:=hin k i j hr1;have hgx:∀(x:Int),0<=x->x<2*(aD.length:Int)->∃q,q∈qs/\oU (qs.map V.ref) x=some (V.ref q)/\qs[x.toNat]?=some q:=fun x hx0 hx1=>by
     obtain⟨m,rfl⟩:=dY hx0;have hm:m<qs.length:=by lia
     refine⟨qs[m],cW hm,?_⟩;exact⟨yE (by rw[aK,aA hm];rfl),by rw[cA];exact aA hm⟩
    obtain⟨q1,hq1,ha1,hx1⟩:=hgx i b1 ();obtain⟨q2,hq2,ha2,hx2⟩:=hgx j b3 ();obtain⟨us1,hu1,hl1,mB⟩:=hb2 q1 hq1;refine⟨_,rfl,_,hxa.sq,_,rG,_,rfl,_,dL.of k2,_,ha1,.inl ⟨rfl,_,dL.of hu1⟩,_,rfl,.inl ⟨(),()⟩,_,rfl,_,hxa.sq,_,rG,_,rfl,_,hxa.sq,_,rfl,small (),fun t1 ht=>?_⟩;have s3:=zD ht (.tup [.int (2*(k:Int)),.int i,.int j]);have tr:WD aD (upd H2 t1 (.tup [.int (2*(k:Int)),.int i,.int j])) (.ref t1):=⟨t1,k,i,j,rfl,zB,hr1⟩
    have kt1:upd H2 t1 (.tup [.int (2*(k:Int)),.int i,.int j]) t1=some (.tup [.int (2*(k:Int)),.int i,.int j]):=zB;generalize upd H2 t1 (.tup [.int (2*(k:Int)),.int i,.int j])=H3 at s3 tr kt1⊢;replace k2:=s3 _ _ k2;replace hxa:=hxa.same s3;replace hu1:=s3 _ _ hu1;replace mB:∀v∈us1,WD aD H3 v:=fun v hv=>(mB v hv).tups s3.tups
    replace hb2:=(hb2.same s3).put hu1 hl1 mB tr;replace hc2:=(hc2.same s3).upd (v:=.ref t1) hu1;have in1:aj (upd H3 q1 (.lst (us1++[V.ref t1]))) q1 k i j:=⟨_,t1,zB,by simp,(cU.refl H3).upd_lst hu1 _ _ kt1⟩
    refine⟨q1,rfl,us1,hu1,vQ (),?_⟩;replace s2:=(s2.trans s3).upd (o:=.lst (us1++[V.ref t1])) (hfr q1 hq1);have n2:p≠q1:=fun z=>hpq (z▸hq1)
    replace hxa:=hxa.tups ((cU.refl H3).upd_lst (o:=.lst (us1++[V.ref t1])) hu1);replace k2:upd H3 q1 (.lst (us1++[V.ref t1])) p=_:=(zJ n2).trans k2;clear kt1 hu1 hl1 mB tr s3 ht more;generalize upd H3 q1 (.lst (us1++[V.ref t1]))=H4 at s2 hxa k2 hb2 hc2 in1⊢;obtain⟨us2,hu2,hl2,ht2⟩:=hb2 q2 hq2;refine⟨_,rfl,_,hxa.sq,_,rfl,_,rfl,_,dL.of k2,_,ha2,.inl ⟨rfl,_,dL.of hu2⟩,_,rfl,.inl ⟨(),()⟩,_,rfl,_,hxa.sq,_,rG,_,rfl,_,hxa.sq,_,rfl,small (),fun t1 ht=>?_⟩;have s3:=zD ht (.tup [.int (2*(k:Int)),.int i,.int j]);have tr:WD aD (upd H4 t1 (.tup [.int (2*(k:Int)),.int i,.int j])) (.ref t1):=⟨t1,k,i,j,rfl,zB,hr1⟩
    have kt1:upd H4 t1 (.tup [.int (2*(k:Int)),.int i,.int j]) t1=some (.tup [.int (2*(k:Int)),.int i,.int j]):=zB;generalize upd H4 t1 (.tup [.int (2*(k:Int)),.int i,.int j])=H5 at s3 tr kt1⊢;replace k2:=s3 _ _ k2;replace hu2:=s3 _ _ hu2;replace ht2:∀v∈us2,WD aD H5 v:=fun v hv=>(ht2 v hv).tups s3.tups
    replace hb2:=(hb2.same s3).put hu2 hl2 ht2 tr;replace hc2:=(hc2.same s3).upd (v:=.ref t1) hu2;replace in1:=(in1.same s3).upd (v:=.ref t1) hu2;have in2:aj (upd H5 q2 (.lst (us2++[V.ref t1]))) q2 k i j:=⟨_,t1,zB,by simp,(cU.refl H5).upd_lst hu2 _ _ kt1⟩
    have n2:p≠q2:=fun z=>hpq (z▸hq2)
    refine⟨q2,rfl,us2,hu2,vQ (),hM _ _ ⟨_,_,(s2.trans s3).upd (hfr q2 hq2),(zJ n2).trans k2,hb2,hc2.succ (fun a b z x q' hx hq'=>?_),rfl⟩⟩;rw[hr1]at z;cases z;rcases hx with hx |hx
    ·rw[←hx,cA,hq']at hx1;cases hx1;exact in1
    ·rw[←hx,cA,hq']at hx2;cases hx2;exact in2
  ·obtain⟨o1,o2,s2,k2,hb2,hc2,rfl⟩:=h;rw[hul]at hc2;exact hN _ _ ⟨_,_,_,s2,k2,hb2,hc2,rfl⟩
 obtain⟨o1,o2,n,s2,k2,hb2,hc2,rfl⟩:=h;dsimp![];exact q p qs n _ s2 hp0 hfr k2 hql hb2 hc2
theorem wA(bi:Bi mg)(be:mg "enumerate"=none)(F:gS K "rules_by_premise" "rules_by_premise" s_b f fd):dI P w K mg base fY 1 f fd ["rules"] spWa:=by
 refine F.okz PF fun fL A outer s H vs Q E hr h=>?_
 obtain⟨ra,us,aV,rfl,hra,hru,iC,hpr,q⟩:=h;have hul:=qU hru;refine⟨_,(zF (yD 1 PF.nd AN) (zF (yM bM rfl (jN rfl be (zA (pv 0) zC)) (uU rfl (zY (yF 2 PF.nd) (zY (yF 3 PF.nd) xH))) (zG (yM bM rfl (yG (zM zP (pv 3) zE)) (yF 4 PF.nd) (zG (zX (jS bW cT cS yZ (da (xU hr) (pv 1) (pv 4) (yV zC) ⟨rfl,rfl,rfl,rfl⟩) (zA (pv 2) zC))))))) (zG (zO (pv 1))))),?_⟩;refine zH fun N hN=>?_
 dsimp![DU];refine fun p hp=>hN _ _ ?_
 clear hN;have s1:=zD hp (.dT []);have k1:upd H p (.dT []) p=some (.dT []):=zB;generalize upd H p (.dT [])=H1 at s1 k1⊢;have sz:∀{n:Nat},n<=40000->n<sizeLine:=fun h=>fG (m:=100000) () ()
 refine yB (fun σ H'=>∃(o1 o2 o3:Option V)(kvs:List (List eL×V))(n:Nat),bB H H'/\H' p=some (.dT kvs)/\NU aV.length H H' kvs n/\WaC aV H' kvs aV.length 0/\σ=[some (V.ref ra),some (V.ref p),o1,o2,o3]) (fun N hN=>?_) (fun σ H' h=>?_)
 ·dsimp![vF];refine⟨_,s1 _ _ hra,?_⟩;refine YO (xs:=us) (fun k σ H'=>∃(o1 o2 o3:Option V)(kvs:List (List eL×V)),bB H H'/\H' p=some (.dT kvs)/\kvs.length<=100*k/\NU aV.length H H' kvs (100*k)/\WaC aV H' kvs k 0/\σ=[some (V.ref ra),some (V.ref p),o1,o2,o3]) ⟨_,_,_,_,s1,k1,aG _,(fun kv z=>by cases z),(fun r q x pr _ _ hz=>()),rfl⟩ (fun k σ H' h=>?_) (fun k x σ H' pe hx h hpe M hM=>?_) (fun σ H' h=>?_)
  ·obtain⟨_,_,_,_,h,_⟩:=h;exact h _ _ hra
  ·obtain⟨o1,o2,o3,kvs,s2,k2,hkl,hw2,hc2,rfl⟩:=h;have hk:k<aV.length:=by rw[←hul];exact(aC.mp hx).1
   obtain⟨r,hr1,hr2⟩:=jC hru hx;have hrl:=hpr r (aX hr1);obtain⟨xa,xl,xb,ps,rfl,hxa,hxl,hps,hxb⟩:=nrAt hr2;have hpl:=qU hps;have s3:=zD hpe (.tup [.int k,.ref xa]);have kp:upd H' pe (.tup [.int k,.ref xa]) pe=some (.tup [.int k,.ref xa]):=zB;generalize upd H' pe (.tup [.int k,.ref xa])=H2 at s3 kp⊢;replace s2:=s2.trans s3;replace k2:=s3 _ _ k2;replace hw2:=hw2.same s3;replace hc2:WaC aV H2 kvs k 0:=fun r q x pr h1 h2 h3=>(hc2 r q x pr h1 h2 h3).same s3
   replace hxa:=s2 _ _ hxa;clear s3 hpe;dsimp![vI,jU,wC];refine⟨[.int k,.ref xa],dN.of kp,rfl,.int k,[.ref xa],rfl,.ref xa,[],rfl,rfl,?_⟩;have hxl2:=s2 _ _ hxl;refine⟨_,rfl,_,dN.of hxa,_,mK,_,rfl,⟨_,dL.of hxl2⟩,?_⟩;refine jD (xs:=ps) (fun m σ H'=>∃(o:Option V)(kvs:List (List eL×V)),bB H H'/\H' p=some (.dT kvs)/\kvs.length<=100*k+m/\NU aV.length H H' kvs (100*k+m)/\WaC aV H' kvs k m/\σ=[some (V.ref ra),some (V.ref p),some (V.int k),some (V.ref xa),o]) ⟨_,_,s2,k2,hkl,hw2,hc2,rfl⟩ (fun m σ H' _ h=>?_) (fun m x σ H' hm h M2 hM2=>?_) (fun σ H' h=>?_)
   ·obtain⟨_,_,h,_⟩:=h;exact dL.of (h _ _ hxl)
   ·obtain⟨o,kvs,s4,k4,hl4,hw4,hc4,rfl⟩:=h;have hmp:m<ps.length:=(aC.mp hm).1;obtain⟨pr,hpm,hpx⟩:=jC hps hm;obtain⟨xp,_,rfl,hxp,_,_,rfl,hv1,_,_,rfl,hv2,hv3⟩:=hpx;cases hv1;cases hv2;cases hv3;replace hxp:=s4 _ _ hxp;dsimp![i5,tBM];refine⟨.inr ⟨_,.inl k4⟩,cG _,fun p1 hp1=>?_⟩;have n1:p≠p1:=fun z=>by rw[z,hp1]at k4;cases k4
    have n2:xp≠p1:=fun z=>by rw[z,hp1]at hxp;cases hxp
    have s5:=zD hp1 (.lst []);refine⟨kvs,s5 _ _ k4,[.inl pr.1,.inl pr.2],s5 _ _ hxp,sz (),fun v hv=>?_,fun hv=>?_⟩
    ·obtain⟨kv,hkv,rfl⟩:=tK hv;obtain⟨q',ns',h1,h2,h3,h4,h5⟩:=hw4 kv hkv;have n3:p≠q':=fun z=>by rw[z,h2]at k4;cases k4
     rw[h1];refine⟨.inl ⟨rfl,_,dL.of (s5 _ _ h2)⟩,q',rfl,_,s5 _ _ h2,sz (by rw[aE];lia),hM2 _ _ ⟨_,kvs,(s4.trans s5).upd h3,(zJ n3).trans (s5 _ _ k4),(),NU.upd (hw4.same s5) h4 h5 hk h3,?_,rfl⟩⟩;intro r' q0 x pr' g1 g2 g3;by_cases g4:r'<k\/r'=k/\x<m
     ·exact((hc4 r' q0 x pr' g1 g2 g4).same s5).upd (s5 _ _ h2)
     ·obtain⟨rfl,rfl⟩:r'=k/\x=m:=by lia
      rw[hr1]at g1;cases g1;rw[hpm]at g2;cases g2;exact⟨q',ns'++[r'],by rw[←h1];exact hv,by rw[zB,aU];rfl,by simp⟩
    ·have e1:upd (upd H' p1 (.lst [])) p (.dT (jJ kvs [.inl pr.1,.inl pr.2] (V.ref p1))) p1=some (.lst []):=(zJ n1.symm).trans zB;refine⟨.inl ⟨rfl,_,dL.of e1⟩,[],e1,sz (by simp),hM2 _ _ ⟨_,_,((s4.trans s5).upd hp).upd (s4.free hp1),(zJ n1).trans zB,?_,?_,?_,rfl⟩⟩
     ·rw[wZ hv,aI,cC];lia
     ·refine NU.upd (ns:=[]) (n:=100*k+m) (fun kv hkv=>?_) (cG _) (fun x z=>by cases z) hk (s4.free hp1);rw[wZ hv]at hkv;rcases bO.mp hkv with hkv |hkv
      ·obtain⟨q',ns',h1,h2,h3,h4,h5⟩:=hw4 kv hkv;have n3:q'≠p:=fun z=>by rw[←z,h2]at k4;cases k4
       exact⟨q',ns',h1,(zJ n3).trans (s5 _ _ h2),h3,h4,h5⟩
      ·rw[aT.mp hkv];exact⟨p1,[],rfl,e1,s4.free hp1,cG _,fun x z=>by cases z⟩
     ·intro r' q0 x pr' g1 g2 g3;by_cases g4:r'<k\/r'=k/\x<m
      ·have w:=(((hc4 r' q0 x pr' g1 g2 g4).same s5).dic (s5 _ _ k4) (o:=.dT (jJ kvs [.inl pr.1,.inl pr.2] (V.ref p1)))).upd (ns1:=[]) (x:=k) e1;rw[wZ hv]at w⊢;exact w.app
      ·obtain⟨rfl,rfl⟩:r'=k/\x=m:=by lia
       rw[hr1]at g1;cases g1;rw[hpm]at g2;cases g2;exact⟨p1,[r'],by rw[wZ hv];exact OE hv,by rw[zB];rfl,by simp⟩
   ·obtain⟨o,kvs,s4,k4,hl4,hw4,hc4,rfl⟩:=h;refine hM _ _ ⟨_,_,_,_,s4,k4,(),fun kv hkv=>?_,fun r' q0 x pr' g1 g2 g3=>hc4 r' q0 x pr' g1 g2 ?_,rfl⟩
    rotate_left
    ·rcases iF (show r'<=k by lia)with z |z
     ·exact .inl z
     ·refine .inr ⟨z,?_⟩;rw[z,hr1]at g1;cases g1;rw[hpl];exact(aC.mp g2).1
    obtain⟨q',ns',h1,h2,h3,h4,h5⟩:=hw4 kv hkv;exact⟨q',ns',h1,h2,h3,(),h5⟩
  ·obtain⟨o1,o2,o3,kvs,s2,k2,_,hw2,hc2,rfl⟩:=h;rw[hul]at hc2;exact hN _ _ ⟨_,_,_,_,_,s2,k2,hw2,hc2,rfl⟩
 obtain⟨o1,o2,o3,kvs,n,s2,k2,hw2,hc2,rfl⟩:=h;dsimp![];exact q p kvs n _ s2 hp k2 hw2 hc2
abbrev s_v:Stmt:=top 34
theorem sc_v:bZ ["growth","i","j"] ["growth","i","j"] (zK s_v):=by rfl'
abbrev s_k:Stmt:=top 35
theorem bt:bZ ["growth","i","j","line","m","h"] ["growth","i","j"] (zK s_k):=by rfl'
abbrev s_o:Stmt:=top 36
theorem bq:bZ ["growth","i","boths","n","a","b"] ["growth","i","boths"] (zK s_o):=by rfl'
abbrev s_p:Stmt:=top 37
theorem sc_p:bZ ["growth","i","j","n"] ["growth","i","j"] (zK s_p):=by rfl'
theorem uB{ls:List Ln}{p:Nat}(h:ls[p]?=some l):xK ls ls.length (.n (p:Int))=some (l.i,l.j):=by
 have hp:=(aC.mp h).1;show(if 0<=(p:Int)/\(p:Int)<(ls.length:Int)then(ls[(p:Int).toNat]?).map fun l=>(l.i,l.j)else none)=_;rw[aL ⟨(),()⟩,cA,h];rfl
theorem UA{ls:List Ln}{x:Str}{prs:List Pr}(hi:i<2*aD.length)(hj:j<2*aD.length)(hx:x≠"rule")(hn:QD x=some (as.length:Int))(hs:as.map (xK ls ls.length)=prs.map some)(h:xA aD i j x prs=true):xP aD aV ls ls.length ⟨i,j,x,as⟩=true:=by
 have a1:(as.all fun a=>(xK ls ls.length a).isSome)=true:=by
  have :(as.map (xK ls ls.length)).all (fun o=>o.isSome)=true:=by rw[hs];simp
  rw[pU]at this;exact this
 have a2:as.filterMap (xK ls ls.length)=prs:=by
  have :(as.map (xK ls ls.length)).filterMap id=prs:=by rw[hs];simp[oJ]
  rw[oJ]at this;exact this
 unfold xP;rw[aH (by
  intro z;rcases z with z |z
  ·exact z ⟨by show(0:Int)<=(i:Int);lia,by show(i:Int)<_;lia⟩
  ·exact z ⟨by show(0:Int)<=(j:Int);lia,by show(j:Int)<_;lia⟩),aH hx,aL ⟨hn,a1⟩,a2]
 exact h
theorem LD.rng{ls:List Ln}(h:LD aD aV ls)(hh:zS ls i j=true):i<2*aD.length/\j<2*aD.length:=by
 obtain⟨p,l,hl,h1,h2⟩:=eZ.mp hh;have :=qW (h.snd p l hl);lia
def lP(n:Nat):Nat:=n+1-2*(n % 2)
theorem qC(n:Nat):rM (n:Int)=((lP n:Nat):Int):=by
 unfold rM lP;lia
theorem vP(n:Nat):lP (lP n)=n:=by
 unfold lP;lia
theorem YW{m:Nat}(h:n<2*m):lP n<2*m:=by
 unfold lP;lia
theorem zV{ls t:List Ln}{i j:Int}(h:zS ls i j=true):zS (ls++t) i j=true:=by
 rw[vG,h,Bool.true_or]
theorem ow_n(h:as.length<=3)(hn:∀ps,Wt.ps ps∈as->False):OW as:=⟨h,fun ps z=>(hn ps z).elim⟩
theorem az{ls:List Ln}{p:Nat}(hi:i<2*aD.length)(hj:j<2*aD.length)(hl:ls[p]?=some l)(h1:l.i=i)(h2:l.j=j):xP aD aV ls ls.length ⟨(lP j:Nat),(lP i:Nat),"turn",[.n p]⟩=true:=by
 refine UA (prs:=[((i:Int),(j:Int))]) (YW hj) (YW hi) () rfl ?_ ?_
 ·show [xK ls ls.length (.n (p:Int))]=_;rw[uB hl,h1,h2];rfl
 ·unfold xA;rw[aH (),aH (),aH (),aH (),aL rfl,qC,qC,vP,vP];exact dU _
theorem OT{ls:List Ln}{p:Nat}(hi:i<2*aD.length)(hn:n<2*aD.length)(hj:(j:Int)=rM i)(hl:ls[p]?=some l)(h1:l.i=i)(h2:l.j=j):xP aD aV ls ls.length ⟨i,n,"clash",[.n p]⟩=true:=by
 refine UA (prs:=[((i:Int),(j:Int))]) hi hn () rfl ?_ ?_
 ·show [xK ls ls.length (.n (p:Int))]=_;rw[uB hl,h1,h2];rfl
 ·unfold xA;rw[aH (),aH (),aH (),aH (),aH (),aH (),hj];exact dU _
theorem tT{ls:List Ln}{m p p':Nat}{l':Ln}(hi:i<2*aD.length)(hm:m<2*aD.length)(hl:ls[p]?=some l)(h1:l.i=i)(h2:l.j=j)(fF:ls[p']?=some l')(h1':l'.i=j)(h2':l'.j=m):xP aD aV ls ls.length ⟨i,m,"chain",[.n p,.n p']⟩=true:=by
 refine UA (prs:=[((i:Int),(j:Int)),((j:Int),(m:Int))]) hi hm () rfl ?_ ?_
 ·show [xK ls ls.length (.n (p:Int)),xK ls ls.length (.n (p':Int))]=_;rw[uB hl,h1,h2,uB fF,h1',h2'];rfl
 ·unfold xA;rw[aH (),aH (),aH (),aH (),aH (),aL rfl];simp
theorem a9{ls:List Ln}{p p':Nat}{a b:Int}{l':Ln}(hi:i<2*aD.length)(hn:n<2*aD.length)(hpt:uW aD (n:Int)=[a,b])(hl:ls[p]?=some l)(h1:l.i=i)(h2:l.j=a)(fF:ls[p']?=some l')(h1':l'.i=i)(h2':l'.j=b):xP aD aV ls ls.length ⟨i,n,"both",[.n p,.n p']⟩=true:=by
 refine UA (prs:=[((i:Int),a),((i:Int),b)]) hi hn () rfl ?_ ?_
 ·show [xK ls ls.length (.n (p:Int)),xK ls ls.length (.n (p':Int))]=_;rw[uB hl,h1,h2,uB fF,h1',h2'];rfl
 ·unfold xA;rw[aH (),aH (),aH (),aL rfl,hpt];exact dU _
theorem RV{p:Nat}:OW [.n p]:=ow_n (by simp) (fun ps z=>by simp at z)
theorem EO{p q:Nat}:OW [.n p,.n q]:=ow_n (by simp) (fun ps z=>by simp at z)
theorem GZ{x:Str}:dW (upd H p (.tup [.str x,.int n])) (ZH x [.n n]) (.ref p):=⟨p,_,rfl,zB,_,_,rfl,rfl,_,_,rfl,rfl,rfl⟩
theorem QQ{x:Str}{m:Nat}:dW (upd H p (.tup [.str x,.int n,.int m])) (ZH x [.n n,.n m]) (.ref p):=⟨p,_,rfl,zB,_,_,rfl,rfl,_,_,rfl,rfl,_,_,rfl,rfl,rfl⟩
theorem tQ:∀(n a b:Nat),a<=n->∃d,a=(a&&&b)+d/\∀x,d.testBit x=(a.testBit x&&!b.testBit x)
 |0,a,b,h=>by
  have e:a=0:=by lia
  subst e;exact⟨0,by simp,fun x=>by simp⟩
 |n+1,a,b,h=>by
  obtain⟨d,h1,h2⟩:=tQ n (a/2) (b/2) ();have e1:(a&&&b)/2=a/2&&&b/2:=nI fun i=>by
   rw[hJ,lM,lM,hJ,hJ]
  have e2:decide ((a&&&b) % 2=1)=(decide (a % 2=1)&&decide (b % 2=1)):=by
   rw[←iX,←iX,←iX,lM]
  rw[←e1]at h1;refine⟨2*d+(if a % 2=1/\¬b % 2=1 then 1 else 0),?_,fun x=>?_⟩
  ·have e3:(a&&&b) % 2=1↔(a % 2=1/\b % 2=1):=by
    rw[cE,bQ,bY,bQ,bQ]at e2;exact e2
   clear e1 e2 h2;generalize a&&&b=c at h1 e3⊢;split<;>lia
  ·cases x with
   |zero=>
    rw[iX,iX,iX];by_cases ha:a % 2=1<;>by_cases hb:b % 2=1<;>simp[ha,hb]<;>lia
   |succ x=>
    have ed:(2*d+(if a % 2=1/\¬b % 2=1 then 1 else 0))/2=d:=by split<;>lia
    rw[←hJ,ed,h2,hJ,hJ]
theorem QF{a b:Nat}(h:∀x,a.testBit x=true->x<300):∃(m:Nat)(xs:List Nat),Builtin.bitAnd (a:Int) (Builtin.bitNot (b:Int))=(m:Int)/\rH m xs/\(∀x∈xs,x<300/\a.testBit x=true)/\∀x,a.testBit x=true->x∈xs\/b.testBit x=true:=by
 obtain⟨d,h1,h2⟩:=tQ a a b (aG _);have hd:∀x,d.testBit x=true->a.testBit x=true:=fun x hx=>by
  rw[h2,bY]at hx;exact hx.1
 refine⟨d,(List.range 300).filter fun x=>d.testBit x,?_,⟨gP _ dS,fun i=>?_⟩,fun x hx=>?_,fun x hx=>?_⟩
 ·unfold Builtin.bitAnd;rw[not_not,eC (show(0:Int)<=(a:Int) by lia),dF (show¬(0:Int)<=Builtin.bitNot (b:Int) by unfold Builtin.bitNot;lia)];show(a:Int)-(((a:Int).toNat&&&(b:Int).toNat:Nat):Int)=_;rw[cA,cA];lia
 ·rw[cE,bQ,cX,bP];exact⟨fun z=>⟨h _ (hd _ z),z⟩,fun z=>z.2⟩
 ·obtain⟨h3,h4⟩:=cX.mp hx;exact⟨bP.mp h3,hd _ h4⟩
 ·cases hb:b.testBit x with
  |true=>exact .inr rfl
  |false=>
   left
   rw[cX,bP];exact⟨h x hx,by rw[h2,hx,hb];rfl⟩
theorem lR.out{C:Addr}{g:oG}{ls:List Ln}(h:lR C H g aD aV ls)(hp:H p=none):JN g p:=by
 obtain⟨ws,h2,_⟩:=h.lin;obtain⟨as,h5,_⟩:=h.abv;obtain⟨bs,h7,_⟩:=h.blw;have go:∀{a:Addr}{o:HO},H a=some o->p≠a:=fun ha z=>by rw[z,ha]at hp;cases hp
 exact⟨go h2,go h.plc,go h5,go h7⟩
def jq(_rows:List Rw)(_ls L:List Ln)(i j:Nat):Prop:=zS L ((lP j:Nat):Int) ((lP i:Nat):Int)=true
def WH(_rows:List Rw)(ls L:List Ln)(i j:Nat):Prop:=(∀m:Nat,zS ls j m=true->zS L i m=true)/\∀h:Nat,zS ls h i=true->zS L h j=true
def WG(aD:List Rw)(_ls L:List Ln)(i j:Nat):Prop:=(j:Int)=rM i->∀n:Nat,n<2*aD.length->zS L i n=true
def LA(H:Hp)(us:List V)(ls L:List Ln)(i:Nat):Prop:=∀(t:Addr)(m:Nat)(a b:Int),V.ref t∈us->H t=some (.tup [.int (2*(m:Int)),.int a,.int b])->zS ls i a=true->zS ls i b=true->zS L i ((2*m:Nat):Int)=true
inductive sE (R:List Rw->List Ln->List Ln->Nat->Nat->Prop) (C:Addr) (vs:List V) (H:Hp) (Q:VK) (E:XK):Prop
 |mk (g:oG) (aD:List Rw) (aV:List xM) (ls:List Ln) (i j:Nat) (_:vs=[.ref g.r,.int i,.int j]) (_:lR C H g aD aV ls) (_:aD.length<=100) (_:zS ls i j=true) (_:∀H',mC C H g aD aV ls (fun L=>R aD ls L i j) H'->Q .non H')
inductive spGB (C:Addr) (vs:List V) (H:Hp) (Q:VK) (E:XK):Prop
 |mk (g:oG) (aD:List Rw) (aV:List xM) (ls:List Ln) (i:Nat) (q:Addr) (us:List V) (_:vs=[.ref g.r,.int i,.ref q]) (_:lR C H g aD aV ls) (_:aD.length<=100) (_:i<2*aD.length) (_:H q=some (.lst us)) (_:JN g q) (_:(∀v∈us,WD aD H v)) (_:qK aD) (_:∀H',mC C H g aD aV ls (fun L=>LA H us ls L i) H'->Q .non H')
theorem dq{C:Addr}(T:NW K C)(h_a:lA P w K mg base 1 C "line_of" ["self","i","j"] (DX C))(h_d:lA P w K mg base 2 C "grow" ["self","i","j","why"] (rP C))(F:gS K "grow_by_turn" "grow_by_turn" s_v f fd):dI P w K mg base fY 3 f fd ["growth","i","j"] (sE jq C):=by
 refine F.okz sc_v fun fL A outer s H vs Q E hr h=>?_
 obtain⟨g,aD,aV,ls,i,j,rfl,hg,iC,hh,q⟩:=h;have cR:=T.cl;have lk:(pY g).lookup ("grow":Str)=none:=qR g () () () ();have lk2:(pY g).lookup ("line_of":Str)=none:=qR g () () () ();obtain⟨dx,eK⟩:=hg.ins;refine⟨_,(zG (zX (zZ h_d cR hr.m (pv 0) (zA (zL kX (pv 2) zE) (zA (zL kX (pv 1) zE) (zA (zN (zA zR (zA (zZ h_a cR hr.m (pv 0) (zA (pv 1) (zA (pv 2) zC))) zC))) zC)))))),?_⟩;dsimp![yT];obtain⟨hi,hj⟩:=hg.ok.rng hh;refine⟨_,_,eK,lk,_,_,eK,lk2,g,aD,aV,ls,i,j,rfl,hg,hh,fun p l H1 s1 hl h1 h2=>⟨small (),fun p1 hp1=>?_⟩⟩;rw[DM,DM,qC,qC];exact wQ (t:=[]) (bB.g s1) (by rw[cM];exact hg.same s1) iC (zD hp1 _) GZ (by rw[cM];exact az hi hj hl h1 h2) RV (fun L e h=>h) fun _ H3 g3=>q _ g3
theorem SI{C:Addr}(T:NW K C)(bi:Bi mg)(h_F:gR P w K mg base 1 "bits_of" ["mask"] sH)(h_a:lA P w K mg base 1 C "line_of" ["self","i","j"] (DX C))(h_d:lA P w K mg base 2 C "grow" ["self","i","j","why"] (rP C))(F:gS K "grow_by_chain" "grow_by_chain" s_k f fd):dI P w K mg base fY 3 f fd ["growth","i","j"] (sE WH C):=by
 refine F.okz bt fun fL A outer s H vs Q E hr h=>?_
 obtain⟨g,aD,aV,ls,i,j,rfl,hg,iC,hh,q⟩:=h;have cR:=T.cl;have lk:(pY g).lookup ("grow":Str)=none:=qR g () () () ();have lk2:(pY g).lookup ("line_of":Str)=none:=qR g () () () ();obtain⟨dx,eK⟩:=hg.ins;refine⟨_,(zF (yD 3 bt.nd (zZ h_a cR hr.m (pv 0) (zA (pv 1) (zA (pv 2) zC)))) (zF (yM bM rfl (yG (zI h_F hr.m rfl (zA (zL ES (zM yH (xD (pv 0) rfl) (pv 2)) (wE OI (zM yH (xD (pv 0) rfl) (pv 1)))) zC))) (yF 4 bt.nd) (zG (zX (zZ h_d cR hr.m (pv 0) (zA (pv 1) (zA (pv 4) (zA (zN (zA zR (zA (pv 3) (zA (zZ h_a cR hr.m (pv 0) (zA (pv 2) (zA (pv 4) zC))) zC)))) zC))))))) (zG (yM bM rfl (yG (zI h_F hr.m rfl (zA (zL ES (zM yH (xD (pv 0) rfl) (pv 1)) (wE OI (zM yH (xD (pv 0) rfl) (pv 2)))) zC))) (yF 5 bt.nd) (zG (zX (zZ h_d cR hr.m (pv 0) (zA (pv 5) (zA (pv 2) (zA (zN (zA zR (zA (zZ h_a cR hr.m (pv 0) (zA (pv 5) (zA (pv 1) zC))) (zA (pv 3) zC)))) zC)))))))))),?_⟩;refine zH fun N hN=>?_
 dsimp![yT];obtain⟨hi,hj⟩:=hg.ok.rng hh;refine⟨_,_,eK,lk2,g,aD,aV,ls,i,j,rfl,hg,hh,fun p l H1 s1 hl h1 h2=>hN _ _ ?_⟩;clear hN;refine yB (fun σ H'=>∃(o1 o2:Option V),mC C H g aD aV ls (fun L=>∀m:Nat,zS ls j m=true->zS L i m=true) H'/\σ=[some (V.ref g.r),some (V.int i),some (V.int j),some (V.int p),o1,o2]) (fun N hN=>?_) (fun σ H' h=>?_)
 ·dsimp![yT,jA];have hg1:=hg.same s1;obtain⟨dx,eK⟩:=hg1.ins;obtain⟨as,hab,hmk⟩:=hg1.abv;have hil:i<as.length:=by rw[hmk.len];exact hi
  have hjl:j<as.length:=by rw[hmk.len];exact hj
  have hbit:=hmk.bit j as[j] (aA hjl);have hbx:∀x,as[j].testBit x=true->x<2*aD.length:=fun x hx=>(hg.ok.rng (i:=j) (by rw[←hbit x];exact hx)).2
  obtain⟨m,xs,em,hbm,hxs,hxa⟩:=QF (b:=as[i]) fun x hx=>cH (hbx x hx) ()
  have hat:∀{k:Nat}(hk:k<as.length),oU (as.map nV) (k:Int)=some (V.int ((as[k]:Nat):Int)):=fun{k} hk=>yE (by rw[aK,aA hk];rfl)
  refine⟨_,_,_,eK,T.cl,T.nA,_,TU g,_,rfl,_,dL.of hab,_,hat hjl,_,_,_,eK,T.cl,T.nA,_,TU g,_,rfl,_,dL.of hab,_,hat hil,_,rfl,_,rfl,?_⟩;rw[em];refine⟨m,xs,rfl,hbm,fun x hx=>(hxs x hx).1,fun pb H2 s2 hpb0 hpb=>?_⟩;have ho:JN g pb:=hg1.out hpb0;replace s1:=s1.trans s2;have hg2:=hg.same s1;refine⟨_,rfl,⟨_,dL.of hpb⟩,?_⟩;refine jD (xs:=xs.map nV) (fun k σ H'=>∃(o1 o2:Option V),mC C H2 g aD aV ls (fun L=>∀x∈xs.take k,zS L i x=true) H'/\σ=[some (V.ref g.r),some (V.int i),some (V.int j),some (V.int p),o1,o2]) ⟨_,_,mC.refl hg2 (fun x z=>by cases z),rfl⟩ (fun k σ H' _ h=>?_) (fun k x σ H' hx h M hM=>?_) (fun σ H' h=>?_)
  ·obtain⟨_,_,h,_⟩:=h;exact dL.of (h.to.1.out ho hpb)
  ·obtain⟨o1,o2,⟨gs,t,gt,hP⟩,rfl⟩:=h;rw[aK]at hx;obtain⟨x',hx',rfl⟩:=aO.mp hx;obtain⟨_,hx2⟩:=hxs x' (aX hx');have hjx:zS ls j x'=true:=by rw[←hbit x'];exact hx2
   have hx3:=hbx x' hx2;obtain⟨dx,eK⟩:=gt.ins;dsimp![yT];refine⟨_,_,eK,lk,_,_,eK,lk2,g,aD,aV,_,j,x',rfl,gt,zV hjx,fun p' l' H4 s4 fF h1' h2'=>⟨small (),fun p1 hp1=>?_⟩⟩;refine wQ (gs.trans (bB.g s4)) (gt.same s4) iC (zD hp1 _) QQ (tT hi hx3 (by rw[bC (aC.mp hl).1];exact hl) h1 h2 fF h1' h2') EO (fun L e h x hx9=>?_) fun _ H3 g3=>hM _ _ ⟨_,_,g3,rfl⟩
   obtain⟨hkl,hke⟩:=aC.mp hx';rw[aM hkl,hke]at hx9;rcases bO.mp hx9 with hx9 |hx9
   ·exact e.has (hP x hx9)
   ·rw[aT.mp hx9];exact h
  ·obtain⟨o1,o2,h,rfl⟩:=h;obtain⟨h1',t,h2',h3'⟩:=h;rw[aE,aS (aG _)]at h3';refine hN _ _ ⟨_,_,mC.pre s1 ⟨h1',t,h2',fun m hm=>?_⟩,rfl⟩;rw[←hbit m]at hm;rcases hxa m hm with z |z
   ·exact h3' m z
   ·rw[hmk.bit i as[i] (aA hil)]at z;exact zV z
 obtain⟨o1,o2,⟨gs,t,gt,hP1⟩,rfl⟩:=h;have hl0:(ls++t)[p]?=some l:=by rw[bC (aC.mp hl).1];exact hl
 have hh0:zS (ls++t) i j=true:=zV hh;dsimp![yT,jA];obtain⟨dx,eK⟩:=gt.ins;obtain⟨as,hab,hmk⟩:=gt.blw;have hil:i<as.length:=by rw[hmk.len];exact hi
 have hjl:j<as.length:=by rw[hmk.len];exact hj
 have hbit:=hmk.bit i as[i] (aA hil);have hbx:∀x,as[i].testBit x=true->x<2*aD.length:=fun x hx=>(gt.ok.rng (j:=i) (by rw[←hbit x];exact hx)).1
 obtain⟨m,xs,em,hbm,hxs,hxa⟩:=QF (b:=as[j]) fun x hx=>cH (hbx x hx) ()
 have hat:∀{k:Nat}(hk:k<as.length),oU (as.map nV) (k:Int)=some (V.int ((as[k]:Nat):Int)):=fun{k} hk=>yE (by rw[aK,aA hk];rfl)
 refine⟨_,_,_,eK,T.cl,T.nB,_,oz g,_,rfl,_,dL.of hab,_,hat hil,_,_,_,eK,T.cl,T.nB,_,oz g,_,rfl,_,dL.of hab,_,hat hjl,_,rfl,_,rfl,?_⟩;rw[em];refine⟨m,xs,rfl,hbm,fun x hx=>(hxs x hx).1,fun pb H2 s2 hpb0 hpb=>?_⟩;have ho:JN g pb:=gt.out hpb0;have hg2:=gt.same s2;replace gs:=gs.trans (bB.g s2);refine⟨_,rfl,⟨_,dL.of hpb⟩,?_⟩;refine jD (xs:=xs.map nV) (fun k σ H'=>∃(o1 o2:Option V),mC C H2 g aD aV (ls++t) (fun L=>∀x∈xs.take k,zS L x j=true) H'/\σ=[some (V.ref g.r),some (V.int i),some (V.int j),some (V.int p),o1,o2]) ⟨_,_,mC.refl hg2 (fun x z=>by cases z),rfl⟩ (fun k σ H' _ h=>?_) (fun k x σ H' hx h M hM=>?_) (fun σ H' h=>?_)
 ·obtain⟨_,_,h,_⟩:=h;exact dL.of (h.to.1.out ho hpb)
 ·obtain⟨o1,o2,⟨gs',t',gt',hP⟩,rfl⟩:=h;rw[aK]at hx;obtain⟨x',hx',rfl⟩:=aO.mp hx;obtain⟨_,hx2⟩:=hxs x' (aX hx');have hjx:zS (ls++t) x' i=true:=by rw[←hbit x'];exact hx2
  have hx3:=hbx x' hx2;obtain⟨dx,eK⟩:=gt'.ins;dsimp![yT];refine⟨_,_,eK,lk,_,_,eK,lk2,g,aD,aV,_,x',i,rfl,gt',zV hjx,fun p' l' H4 s4 fF h1' h2'=>⟨small (),fun p1 hp1=>?_⟩⟩;refine wQ (gs'.trans (bB.g s4)) (gt'.same s4) iC (zD hp1 _) QQ (tT hx3 hj fF h1' h2' (by rw[bC (aC.mp hl0).1];exact hl0) h1 h2) EO (fun L e h x hx9=>?_) fun _ H3 g3=>hM _ _ ⟨_,_,g3,rfl⟩
  obtain⟨hkl,hke⟩:=aC.mp hx';rw[aM hkl,hke]at hx9;rcases bO.mp hx9 with hx9 |hx9
  ·exact e.has (hP x hx9)
  ·rw[aT.mp hx9];exact h
 ·obtain⟨o1,o2,h,rfl⟩:=h;refine q _ (mC.then gs h fun L e hL=>⟨fun m hm=>e.has (hP1 m hm),fun h0 hh0=>?_⟩);rw[aE,aS (aG _)]at hL;have hm:as[i].testBit h0=true:=by rw[hbit h0];exact zV hh0
  rcases hxa h0 hm with z |z
  ·exact hL h0 z
  ·rw[hmk.bit j as[j] (aA hjl)]at z;exact e.has z
theorem d7{C:Addr}(T:NW K C)(h_a:lA P w K mg base 1 C "line_of" ["self","i","j"] (DX C))(h_D:lA P w K mg base 1 C "has" ["self","i","j"] (OZ C))(h_d:lA P w K mg base 2 C "grow" ["self","i","j","why"] (rP C))(F:gS K "grow_by_both" "grow_by_both" s_o f fd):dI P w K mg base fY 3 f fd ["growth","i","boths"] (spGB C):=by
 refine F.okz bq fun fL A outer s H vs Q E hr h=>?_
 obtain⟨g,aD,aV,ls,i,qa,us,rfl,hg,iC,hi,hqa,hout,htr,hin,q⟩:=h;have cR:=T.cl;have lk:(pY g).lookup ("grow":Str)=none:=qR g () () () ();have lk2:(pY g).lookup ("line_of":Str)=none:=qR g () () () ();have lk3:(pY g).lookup ("has":Str)=none:=qR g () () () ();refine⟨_,(zG (yM bM rfl (yG (pv 2)) (uU rfl (zY (yF 3 bq.nd) (zY (yF 4 bq.nd) (zY (yF 5 bq.nd) xH)))) (zG (yI (PW.pt (uT (XF (zZ h_D cR hr.m (pv 0) (zA (pv 1) (zA (pv 4) zC)))) (vS (XF (zZ h_D cR hr.m (pv 0) (zA (pv 1) (zA (pv 5) zC))))))) (zG (zX (zZ h_d cR hr.m (pv 0) (zA (pv 1) (zA (pv 3) (zA (zN (zA zR (zA (zZ h_a cR hr.m (pv 0) (zA (pv 1) (zA (pv 4) zC))) (zA (zZ h_a cR hr.m (pv 0) (zA (pv 1) (zA (pv 5) zC))) zC)))) zC)))))) zW)))),?_⟩;dsimp![yT];refine⟨⟨_,dL.of hqa⟩,?_⟩;refine jD (xs:=us) (fun k σ H'=>∃(o1 o2 o3:Option V),mC C H g aD aV ls (fun L=>LA H (us.take k) ls L i) H'/\σ=[some (V.ref g.r),some (V.int i),some (V.ref qa),o1,o2,o3]) ⟨_,_,_,mC.refl hg (fun t m a b z=>by cases z),rfl⟩ (fun k σ H' _ h=>?_) (fun k x σ H' hx h M hM=>?_) (fun σ H' h=>?_)
 ·obtain⟨_,_,_,h,_⟩:=h;exact dL.of (h.to.1.out hout hqa)
 ·obtain⟨o1,o2,o3,hgt,rfl⟩:=h;obtain⟨xa,k',a,b,rfl,hxa,hrk⟩:=htr x (aX hx);obtain⟨⟨b1,b2⟩,b3,b4⟩:=hin k' a b hrk;have hxa':=hg.tups hgt.to.1 _ _ hxa;dsimp![vI,jU,wC,yT];obtain⟨gs,t,gt,hP⟩:=hgt;have nxt:∀{L:List Ln},Le (ls++t) L->(zS ls i a=true->zS ls i b=true->zS L i ((2*k':Nat):Int)=true)->LA H (us.take (k+1)) ls L i:=fun{L} e hL t0 m a0 b0 hm ht0 ha0 hb0=>by
   obtain⟨hkl,hke⟩:=aC.mp hx;rw[aM hkl,hke]at hm;rcases bO.mp hm with hm |hm
   ·exact e.has (hP t0 m a0 b0 hm ht0 ha0 hb0)
   ·have e1:=V.ref.inj (aT.mp hm);subst e1;rw[hxa]at ht0;have e2:=HO.tup.inj (dC ht0);injection e2 with e3 e4
    injection e4 with e5 e6
    injection e6 with e7 _
    have e3:=V.int.inj e3;have e5:=V.int.inj e5;have e7:=V.int.inj e7;subst e5 e7;rw[show m=k' by lia];exact hL ha0 hb0
  obtain⟨dx,eK⟩:=gt.ins;refine⟨_,dN.of hxa',rfl,_,_,rfl,_,_,rfl,_,_,rfl,rfl,_,_,eK,lk3,g,aD,aV,_,i,a,rfl,gt,fun H1 s1=>⟨_,rfl,?_⟩⟩;have ge1:zS (ls++t) i a=false->mC C H g aD aV ls (fun L=>LA H (us.take (k+1)) ls L i) H1:=fun z=>⟨gs.trans (bB.g s1),t,gt.same s1,nxt (Le.refl _) (fun ha _=>by rw[zV ha]at z;cases z)⟩
  by_cases c1:zS (ls++t) i a=true
  ·rw[aL c1];replace gs:=gs.trans (bB.g s1);replace gt:=gt.same s1;obtain⟨dx,eK⟩:=gt.ins;refine⟨_,_,eK,lk3,g,aD,aV,_,i,b,rfl,gt,fun H2 s2=>⟨_,rfl,?_⟩⟩;replace gs:=gs.trans (bB.g s2);replace gt:=gt.same s2;by_cases c2:zS (ls++t) i b=true
   ·rw[aL c2];obtain⟨dx,eK⟩:=gt.ins;have hk1:k'<aD.length:=(aC.mp hrk).1;have e2:(2:Int)*(k':Int)=((2*k':Nat):Int):=by lia
    have hpt:uW aD ((2*k':Nat):Int)=[a,b]:=kE (r:=.bo a b) () (by rw[show(((2*k':Nat):Int)/2).toNat=k' by lia];exact hrk);refine⟨_,_,eK,lk,_,_,eK,lk2,g,aD,aV,_,i,a,rfl,gt,c1,fun p l H3 s3 hl h1 h2=>?_⟩;replace gs:=gs.trans (bB.g s3);replace gt:=gt.same s3;obtain⟨dx,eK⟩:=gt.ins;refine⟨_,_,eK,lk2,g,aD,aV,_,i,b,rfl,gt,c2,fun p' l' H4 s4 fF h1' h2'=>⟨small (),fun p1 hp1=>?_⟩⟩;rw[e2];exact wQ (gs.trans (bB.g s4)) (gt.same s4) iC (zD hp1 _) QQ (a9 hi () hpt hl h1 h2 fF h1' h2') EO (fun L e h=>nxt e fun _ _=>h) fun _ H3 g3=>hM _ _ ⟨_,_,_,g3,rfl⟩
   ·rw[aH c2];exact hM _ _ ⟨_,_,_,⟨gs,t,gt,nxt (Le.refl _) (fun _ hb=>absurd (zV hb) c2)⟩,rfl⟩
  ·rw[aH c1];exact hM _ _ ⟨_,_,_,ge1 (dX.mpr c1),rfl⟩
 ·obtain⟨_,_,_,h,rfl⟩:=h;rw[aS (aG _)]at h;exact q _ h
theorem SH{C:Addr}(T:NW K C)(bi:Bi mg)(h_a:lA P w K mg base 1 C "line_of" ["self","i","j"] (DX C))(h_d:lA P w K mg base 2 C "grow" ["self","i","j","why"] (rP C))(F:gS K "grow_by_clash" "grow_by_clash" s_p f fd):dI P w K mg base fY 3 f fd ["growth","i","j"] (sE WG C):=by
 refine F.okz sc_p fun fL A outer s H vs Q E hr h=>?_
 obtain⟨g,aD,aV,ls,i,j,rfl,hg,iC,hh,q⟩:=h;have cR:=T.cl;have lk:(pY g).lookup ("grow":Str)=none:=qR g () () () ();have lk2:(pY g).lookup ("line_of":Str)=none:=qR g () () () ();obtain⟨dx,eK⟩:=hg.ins;refine⟨_,(zG (yI (zQ xG (pv 2) (zL kX (pv 1) zE) (zU _)) (zG (yM bM rfl (xY rfl bi.range (zA (yC yJ rfl bi.len yX (zA (xD (pv 0) rfl) zC)) zC)) (yF 3 sc_p.nd) (zG (zX (zZ h_d cR hr.m (pv 0) (zA (pv 1) (zA (pv 3) (zA (zN (zA zR (zA (zZ h_a cR hr.m (pv 0) (zA (pv 1) (zA (pv 2) zC))) zC))) zC)))))))) zW)),?_⟩;dsimp![yT,jA];refine⟨rfl,?_⟩;obtain⟨hi,hj⟩:=hg.ok.rng hh;by_cases e:(j:Int)=Builtin.bitXor (i:Int) 1
 ·rw[aL e];rw[DM]at e;obtain⟨as,hab,hmk⟩:=hg.abv;refine⟨_,_,_,eK,T.cl,T.nA,_,TU g,as.length,.inl ⟨_,dL.of hab,by simp⟩,(),by have :=hmk.len;lia,?_⟩;refine vJ (n:=(as.length:Int).toNat) (fun k σ H'=>∃(o1:Option V),mC C H g aD aV ls (fun L=>∀n:Nat,n<k->zS L i n=true) H'/\σ=[some (V.ref g.r),some (V.int i),some (V.int j),o1]) ⟨_,mC.refl hg (fun n z=>()),rfl⟩ (fun k σ H' hk h M hM=>?_) (fun σ H' h=>?_)
  ·obtain⟨o1,⟨gs,t,gt,hP⟩,rfl⟩:=h;have hk':k<2*aD.length:=by have :=hmk.len;lia
   have e0:(0:Int)+(k:Int)=((k:Nat):Int):=by lia
   obtain⟨dx,eK⟩:=gt.ins;dsimp![yT];rw[e0];refine⟨_,_,eK,lk,_,_,eK,lk2,g,aD,aV,_,i,j,rfl,gt,zV hh,fun p l H1 s1 hl h1 h2=>⟨small (),fun p1 hp1=>?_⟩⟩;refine wQ (gs.trans (bB.g s1)) (gt.same s1) iC (zD hp1 _) GZ (OT hi hk' e hl h1 h2) RV (fun L e h n hn=>?_) fun _ H3 g3=>hM _ _ ⟨_,g3,rfl⟩
   rcases iF (mG hn)with z |z
   ·exact e.has (hP n z)
   ·rw[z];exact h
  ·obtain⟨_,⟨h1,t,h2,h3⟩,rfl⟩:=h;exact q _ ⟨h1,t,h2,fun _ n hn=>h3 n (by have :=hmk.len;lia)⟩
 ·rw[aH e];exact q _ (mC.refl hg fun z=>absurd (by rw[DM];exact z) e)
abbrev s_n:Stmt:=top 38
theorem br:bZ ["growth","rules","r","premises","pair","lines"] ["growth","rules","r"] (zK s_n):=by rfl'
theorem a8{ls:List Ln}{r:Nat}{q:xM}{ps:List Int}(hi:i<2*aD.length)(hj:j<2*aD.length)(hr:aV[r]?=some q)(hq:q.2=((i:Int),(j:Int)))(hp:(ps.map fun p=>xK ls ls.length (.n p))=q.1.map some):xP aD aV ls ls.length ⟨i,j,"rule",[.n r,.ps ps]⟩=true:=by
 have hrl:=(aC.mp hr).1;unfold xP;rw[aH (by
  intro z;rcases z with z |z
  ·exact z ⟨by show(0:Int)<=(i:Int);lia,by show(i:Int)<_;lia⟩
  ·exact z ⟨by show(0:Int)<=(j:Int);lia,by show(j:Int)<_;lia⟩),aL rfl,me rfl,aL ⟨(),()⟩,cA,hr]
 show(((i:Int),(j:Int))==q.2&&_==_)=true;rw[hq,hp,bY];exact⟨dU _,dU _⟩
def InR(aD:List Rw)(q:xM):Prop:=(0<=q.2.1/\q.2.1<2*(aD.length:Int))/\(0<=q.2.2/\q.2.2<2*(aD.length:Int))
def jr(aD:List Rw)(aV:List xM)(ls L:List Ln)(r:Nat):Prop:=∀q:xM,aV[r]?=some q->InR aD q->(∀p∈q.1,zS ls p.1 p.2=true)->zS L q.2.1 q.2.2=true
inductive spGR (C:Addr) (vs:List V) (H:Hp) (Q:VK) (E:XK):Prop
 |mk (g:oG) (aD:List Rw) (aV:List xM) (ls:List Ln) (ra:Addr) (us:List V) (r:Nat) (_:vs=[.ref g.r,.ref ra,.int r]) (_:lR C H g aD aV ls) (_:aD.length<=100) (_:H ra=some (.lst us)) (_:bG H (aV.map af) us) (_:r<aV.length) (_:(∀r∈aV,r.1.length<=100)) (_:∀H',mC C H g aD aV ls (fun L=>jr aD aV ls L r) H'->Q .non H')
theorem dt{C:Addr}(T:NW K C)(bi:Bi mg)(h_S:gR P w K mg base 2 "is_below" ["n","bound"] PB)(h_a:lA P w K mg base 1 C "line_of" ["self","i","j"] (DX C))(h_D:lA P w K mg base 1 C "has" ["self","i","j"] (OZ C))(h_d:lA P w K mg base 2 C "grow" ["self","i","j","why"] (rP C))(F:gS K "grow_by_rule" "grow_by_rule" s_n f fd):dI P w K mg base fY 3 f fd ["growth","rules","r"] (spGR C):=by
 refine F.okz br fun fL A outer s H vs Q E hr h=>?_
 obtain⟨g,aD,aV,ls,ra,us,r,rfl,hg,iC,hra,hru,hrl,hpr,q⟩:=h;have hul:=qU hru;have cR:=T.cl;have lk:(pY g).lookup ("grow":Str)=none:=qR g () () () ();have lk2:(pY g).lookup ("line_of":Str)=none:=qR g () () () ();have lk3:(pY g).lookup ("has":Str)=none:=qR g () () () ();obtain⟨dx,eK⟩:=hg.ins;have hr1:aV[r]?=some aV[r]:=aA hrl;have hq1:=hpr _ (cW hrl);generalize aV[r]=nr at hr1 hq1;obtain⟨rv,hrv,hrd⟩:=bG.get (d:=af nr) hru (by rw[aK,hr1];rfl);obtain⟨xa,xl,xb,ps,rfl,hxa,hxl,hps,hxb⟩:=nrAt hrd;have hpl:=qU hps;refine⟨_,(zF (yD 3 br.nd (zM zP (zM yH (pv 1) (pv 2)) zE)) (zF (yD 4 br.nd (zM zP (zM yH (pv 1) (pv 2)) zE)) (zF (yI (mj (XF (yC CN rfl bi.all VX (zA (yU ["n"] ["growth"] [0] (wK (pv 4)) (fun _ _ _ _ nd=>yF 0 nd) (fun _ _ _ _=>xE) (fun _ _ _ _=>(zI h_S hr.m rfl (zA (pv 0) (zA (yC (NH K) rfl bi.len yX (zA (IF K (pv 1) rfl) zC)) zC))))) zC)))) (zG IA) zW) (zG (yI (XF (yC CN rfl bi.all VX (zA (yU ["i","j"] ["growth"] [0] (yG (pv 3)) (fun _ _ _ _ nd=>qO (K:=K) (n:=2) rfl (zY (yF 0 nd) (zY (yF 1 nd) xH))) (fun _ _ _ _=>xE) (fun _ _ _ _=>(zZ h_D cR hr.m (pv 2) (zA (pv 0) (zA (pv 1) zC))))) zC))) (zF (yD 5 br.nd (xO qV rfl bi.tuple JC (zA (yU ["i","j"] ["growth"] [0] (yG (pv 3)) (fun _ _ _ _ nd=>qO (K:=K) (n:=2) rfl (zY (yF 0 nd) (zY (yF 1 nd) xH))) (fun _ _ _ _=>xE) (fun _ _ _ _=>(zZ h_a cR hr.m (pv 2) (zA (pv 0) (zA (pv 1) zC))))) zC))) (zG (zX (zZ h_d cR hr.m (pv 0) (zA (zM zP (pv 4) zE) (zA (zM zP (pv 4) zE) (zA (zN (zA zR (zA (pv 2) (zA (pv 5) zC)))) zC))))))) zW))))),?_⟩;refine zH fun N hN=>?_
 dsimp![];refine⟨_,dL.of hra,_,yE hrv,xa,rfl,_,dN.of hxa,_,mK,hN _ _ ?_⟩;clear hN;refine zH fun N hN=>?_
 dsimp![];refine⟨_,dL.of hra,_,yE hrv,xa,rfl,_,dN.of hxa,_,rG,hN _ _ ?_⟩;clear hN;obtain⟨as,hab,hmk⟩:=hg.abv;have eO:=hmk.len;refine zH fun N hN=>?_
 dsimp![];refine⟨⟨_,dN.of hxb⟩,?_⟩;refine US (xs:=[.int nr.2.1,.int nr.2.2]) (fun i ys σ H'=>bB H H'/\ys=(([nr.2.1,nr.2.2].take i).map fun x=>JM as.length (.n x)).map V.bl/\∃o,σ=[o,some (V.ref g.r)]) ⟨bB.refl _,rfl,_,rfl⟩ (small (by simp)) (fun i ys σ H' e=>?_) (fun i ys σ H' e=>dN.of (e.1 _ _ hxb)) (fun i x ys σ H' D hx e hD=>?_) (fun ys σ H' e p hp=>?_)
 ·obtain⟨_,rfl,_⟩:=e;rw[aE,aE,bX];lia
 ·obtain⟨es,rfl,o,rfl⟩:=e;have hg':=hg.same es;obtain⟨dx,eK⟩:=hg'.ins;have hx':∃n,x=V.int n/\[nr.2.1,nr.2.2][i]?=some n:=by
   match i,hx with
   |0,hx=>cases hx;exact⟨_,rfl,rfl⟩
   |1,hx=>cases hx;exact⟨_,rfl,rfl⟩
  obtain⟨n,rfl,hn⟩:=hx';obtain⟨hil,hn2⟩:=aC.mp hn;dsimp![jA,PB];refine⟨C,dx,_,eK,T.cl,T.nA,_,TU g,as.length,.inl ⟨_,dL.of (es _ _ hab),by simp⟩,.n n,rfl,hD _ _ _ ⟨es,?_,_,rfl⟩⟩;rw[aM hil,hn2,aU,aU];rfl
 obtain⟨es,rfl,o,rfl⟩:=e;refine⟨p,rfl,_,dL.of zB,?_⟩;have s1:=es.trans (zD hp (.lst ((([nr.2.1,nr.2.2].take 2).map fun x=>JM as.length (.n x)).map V.bl)))
 change (if([JM as.length (.n nr.2.1),JM as.length (.n nr.2.2)].all id)=false then Q V.non (upd H' p (.lst ((([nr.2.1,nr.2.2].take 2).map fun x=>JM as.length (.n x)).map V.bl)))else N _ (upd H' p (.lst ((([nr.2.1,nr.2.2].take 2).map fun x=>JM as.length (.n x)).map V.bl))))
 generalize upd H' p (.lst ((([nr.2.1,nr.2.2].take 2).map fun x=>JM as.length (.n x)).map V.bl))=H1 at s1⊢;clear hp es eK;have hg1:=hg.same s1;by_cases hB:(0<=nr.2.1/\nr.2.1<2*(aD.length:Int))/\(0<=nr.2.2/\nr.2.2<2*(aD.length:Int))
 case neg=>
  rw[aL]
  ·exact q _ ((mC.refl hg (fun q' hq' lY _=>by rw[hr1]at hq';cases hq';exact absurd lY hB)).same s1)
  ·rw[dX];intro z;simp[JM]at z;exact hB ()
 rw[aH (by simp[JM];lia)];refine hN _ _ ?_;clear hN;obtain⟨⟨b1,b2⟩,b3,b4⟩:=hB;obtain⟨i,hi⟩:=dY b1;obtain⟨j,hj⟩:=dY b3;have hps1:=bG.same s1 hps;have hxl1:=s1 _ _ hxl;have hxb1:=s1 _ _ hxb;clear hab hmk eO;dsimp![];refine⟨⟨_,dL.of hxl1⟩,?_⟩;refine jX (xs:=ps) (fun k ys σ H'=>bB H1 H'/\ys=((nr.1.take k).map fun x=>zS ls x.1 x.2).map V.bl/\∃o1 o2,σ=[o1,o2,some (V.ref g.r)]) ⟨bB.refl _,rfl,_,_,rfl⟩ (small ()) (fun k ys σ H' e=>?_) (fun i ys σ H' e=>dL.of (e.1 _ _ hxl1)) (fun k x ys σ H' D hx e hD=>?_) (fun ys σ H' e p hp=>?_)
 ·obtain⟨_,rfl,_⟩:=e;rw[aE,aE,bX];lia
 ·obtain⟨es,rfl,o1,o2,rfl⟩:=e;have hg':=hg1.same es;obtain⟨dx,eK⟩:=hg'.ins;obtain⟨pr,hpk,hpx⟩:=jC hps1 hx;obtain⟨xp,rfl,hxp⟩:=mn hpx;replace hxp:=es _ _ hxp;obtain⟨hkl,hk2⟩:=aC.mp hpk;dsimp![vI,jU,wC,yT];refine⟨_,dN.of hxp,rfl,_,_,rfl,_,_,rfl,rfl,_,_,eK,lk3,g,aD,aV,ls,_,_,rfl,hg',fun H3 s3=>hD _ _ _ ⟨es.trans s3,?_,_,_,rfl⟩⟩;rw[aM hkl,hk2,aU,aU];rfl
 obtain⟨es,rfl,o1,o2,rfl⟩:=e;refine⟨p,rfl,_,dL.of zB,?_⟩;rw[aS ()];have s2:=es.trans (zD hp (.lst ((nr.1.map fun x=>zS ls x.1 x.2).map V.bl)));generalize upd H' p (.lst ((nr.1.map fun x=>zS ls x.1 x.2).map V.bl))=H2 at s2⊢;clear hp es;have hg2:=hg1.same s2;replace hxl1:=s2 _ _ hxl1;replace hxb1:=s2 _ _ hxb1;replace hps1:=bG.same s2 hps1;by_cases hA:(nr.1.map fun x=>zS ls x.1 x.2).all id=true
 case neg=>
  rw[aH hA];exact q _ ((mC.refl hg (fun q' hq' _ hp'=>absurd (by rw[hr1]at hq';cases hq';rw[pU,dB];exact fun p hp=>hp' p hp) hA)).same (s1.trans s2))
 rw[aL hA];rw[pU,dB]at hA;refine⟨⟨_,dL.of hxl1⟩,?_⟩;refine jX (xs:=ps) (fun k ys σ H'=>bB H2 H'/\(∃ns:List Int,ys=ns.map V.int/\ns.length=k/\(ns.map fun p=>xK ls ls.length (.n p))=(nr.1.take k).map some)/\∃o1 o2,σ=[o1,o2,some (V.ref g.r)]) ⟨bB.refl _,⟨[],rfl,rfl,rfl⟩,_,_,rfl⟩ (small ()) (fun k ys σ H' e=>?_) (fun i ys σ H' e=>dL.of (e.1 _ _ hxl1)) (fun k x ys σ H' D hx e hD=>?_) (fun ys σ H' e p hp=>?_)
 ·obtain⟨_,⟨ns,rfl,hl,_⟩,_⟩:=e;rw[aE];lia
 ·obtain⟨es,⟨ns,rfl,hl,hns⟩,o1,o2,rfl⟩:=e;have hg':=hg2.same es;obtain⟨dx,eK⟩:=hg'.ins;obtain⟨pr,hpk,hpx⟩:=jC hps1 hx;obtain⟨xp,rfl,hxp⟩:=mn hpx;replace hxp:=es _ _ hxp;obtain⟨hkl,hk2⟩:=aC.mp hpk;dsimp![vI,jU,wC,yT];refine⟨_,dN.of hxp,rfl,_,_,rfl,_,_,rfl,rfl,_,_,eK,lk2,g,aD,aV,ls,_,_,rfl,hg',hA pr (aX hpk),fun p l H3 s3 hl1 h1 h2=>hD _ _ _ ⟨es.trans s3,⟨ns++[(p:Int)],by rw[aU];rfl,by simp[hl],?_⟩,_,_,rfl⟩⟩;rw[aM hkl,hk2,aU,aU,hns];show _++[xK ls ls.length (.n (p:Int))]=_;rw[uB hl1,h1,h2];rfl
 obtain⟨es,⟨ns,rfl,hl,hns⟩,o1,o2,rfl⟩:=e;rw[aS ()]at hns;refine⟨p,rfl,_,.inl ⟨dL.of zB,fun l fF=>?_⟩⟩;have s3:=(es.trans (zD hp (.lst (ns.map V.int)))).trans (zD fF (.tup (ns.map V.int)));have kl:upd (upd H' p (.lst (ns.map V.int))) l (.tup (ns.map V.int)) l=some (.tup (ns.map V.int)):=zB;generalize upd (upd H' p (.lst (ns.map V.int))) l (.tup (ns.map V.int))=H3 at s3 kl⊢;replace hxb1:=s3 _ _ hxb1;have hg3:=hg2.same s3;obtain⟨dx,eK⟩:=hg3.ins;dsimp![yT];refine⟨_,_,eK,lk,_,dN.of hxb1,_,mK,_,dN.of hxb1,_,rG,small (),fun p2 mU=>?_⟩;rw[hi,hj];refine wQ (t:=[]) (bB.g ((s1.trans s2).trans s3)) (by rw[cM];exact hg3) iC (zD mU _) (x:="rule") (as:=[.n r,.ps ns]) ⟨p2,_,rfl,zB,_,_,rfl,rfl,_,_,rfl,rfl,_,_,rfl,qg (zD mU _ _ _ kl),rfl⟩ ?_ ⟨by simp,fun ps' h=>?_⟩ (fun L e h q' hq' _ _=>by rw[hr1]at hq';cases hq';rw[hi,hj];exact h) fun _ H4 g4=>q _ g4
 ·rw[cM];exact a8 () () hr1 (Prod.ext hi hj) hns
 ·simp at h;subst h;lia
abbrev s_E:Stmt:=top 39
theorem rR:bZ ["sheet","rules","growth","boths","waiting","r","k","i","j"] ["sheet","rules"] (zK s_E):=by rfl'
theorem Le.back{L L':List Ln}(e:Le L L'){a:Nat}(ha:a<L.length)(h:L'[a]?=some l):L[a]?=some l:=by
 obtain⟨t,rfl⟩:=e;rw[bC ha]at h;exact h
structure Cl(aD:List Rw)(aV:List xM)(k:Nat)(L:List Ln):Prop where
 turn:∀(a:Nat)(l:Ln)(i j:Nat),a<k->L[a]?=some l->l.i=i->l.j=j->zS L ((lP j:Nat):Int) ((lP i:Nat):Int)=true
 clash:∀(a:Nat)(l:Ln)(i j:Nat),a<k->L[a]?=some l->l.i=i->l.j=j->(j:Int)=rM i->∀n:Nat,n<2*aD.length->zS L i n=true
 chain:∀(a b:Nat)(l l':Ln)(i j m:Nat),a<k->b<k->L[a]?=some l->L[b]?=some l'->l.i=i->l.j=j->l'.i=j->l'.j=m->zS L i m=true
 both:∀(a b:Nat)(l l':Ln)(i n:Nat)(x y:Int),a<k->b<k->L[a]?=some l->L[b]?=some l'->l.i=i->l.j=x->l'.i=i->l'.j=y->aD[n]?=some (.bo x y)->zS L i ((2*n:Nat):Int)=true
 rule:∀(r:Nat)(q:xM),aV[r]?=some q->InR aD q->(∀p∈q.1,∃(a:Nat)(l:Ln),a<k/\L[a]?=some l/\l.i=p.1/\l.j=p.2)->zS L q.2.1 q.2.2=true
theorem Cl.le{k:Nat}{L L':List Ln}(h:Cl aD aV k L)(hk:k<=L.length)(e:Le L L'):Cl aD aV k L':=by
 have b:∀{a:Nat}{l:Ln},a<k->L'[a]?=some l->L[a]?=some l:=fun ha hl=>e.back () hl
 refine⟨fun a l i j ha hl h1 h2=>e.has (h.turn a l i j ha (b ha hl) h1 h2),fun a l i j ha hl h1 h2 h3 n hn=>e.has (h.clash a l i j ha (b ha hl) h1 h2 h3 n hn),fun a b' l l' i j m ha hb hl fF h1 h2 h3 h4=>e.has (h.chain a b' l l' i j m ha hb (b ha hl) (b hb fF) h1 h2 h3 h4),
  fun a b' l l' i n x y ha hb hl fF h1 h2 h3 h4 hr=>e.has (h.both a b' l l' i n x y ha hb (b ha hl) (b hb fF) h1 h2 h3 h4 hr),fun r q hr hi hp=>e.has (h.rule r q hr hi fun p hpq=>?_)⟩
 obtain⟨a,l,ha,hl,h1,h2⟩:=hp p hpq;exact⟨a,l,ha,b ha hl,h1,h2⟩
theorem Cl.step{k:Nat}{L L':List Ln}(h:Cl aD aV k L)(e:Le L L'){l0:Ln}(hk:L[k]?=some l0)(hi:l0.i=i)(hj:l0.j=j)
 (h1:zS L' ((lP j:Nat):Int) ((lP i:Nat):Int)=true) (h2:∀m:Nat,zS L j m=true->zS L' i m=true) (h3:∀m:Nat,zS L m i=true->zS L' m j=true)
 (h4:∀(n:Nat)(x y:Int),aD[n]?=some (.bo x y)->((j:Int)=x\/(j:Int)=y)->zS L i x=true->zS L i y=true->zS L' i ((2*n:Nat):Int)=true)
 (h5:(j:Int)=rM i->∀n:Nat,n<2*aD.length->zS L' i n=true)
 (h6:∀(r:Nat)(q:xM),aV[r]?=some q->InR aD q->((i:Int),(j:Int))∈q.1->(∀p∈q.1,zS L p.1 p.2=true)->zS L' q.2.1 q.2.2=true):Cl aD aV (k+1) L':=by
 have hkl:=(aC.mp hk).1;have hc:=h.le () e;have b:∀{a:Nat}{l:Ln},a<k+1->L'[a]?=some l->L[a]?=some l:=fun ha hl=>e.back () hl
 have z:∀{a:Nat},a<k+1->a<k\/a=k:=fun ha=>by lia
 have lz:∀{a:Nat}{l:Ln},a=k->a<k+1->L'[a]?=some l->l=l0:=fun ea ha hl=>by
  have :=b ha hl;rw[ea,hk]at this;exact(dC this).symm
 have hs:∀{a:Nat}{l:Ln},a<k+1->L'[a]?=some l->zS L l.i l.j=true:=fun ha hl=>eZ.mpr ⟨_,_,b ha hl,rfl,rfl⟩
 refine⟨fun a l i' j' ha hl g1 g2=>?_,fun a l i' j' ha hl g1 g2 g3 n hn=>?_,fun a b' l l' i' j' m ha hb hl fF g1 g2 g3 g4=>?_,fun a b' l l' i' n x y ha hb hl fF g1 g2 g3 g4 hr=>?_,fun r q hr hir hp=>?_⟩
 ·rcases z ha with za |za
  ·exact hc.turn a l i' j' za hl g1 g2
  ·have el:=lz za ha hl;subst el;have ei:i'=i:=by lia
   have ej:j'=j:=by lia
   rw[ei,ej];exact h1
 ·rcases z ha with za |za
  ·exact hc.clash a l i' j' za hl g1 g2 g3 n hn
  ·have el:=lz za ha hl;subst el;have ei:i'=i:=by lia
   have ej:j'=j:=by lia
   subst ei ej;exact h5 g3 n hn
 ·rcases z ha with za |za
  ·rcases z hb with zb |zb
   ·exact hc.chain a b' l l' i' j' m za zb hl fF g1 g2 g3 g4
   ·have el:=lz zb hb fF;subst el;have ej:j'=i:=by lia
    have em:m=j:=by lia
    have :=hs ha hl;rw[g1,g2,ej]at this;rw[em];exact h3 i' this
  ·have el:=lz za ha hl;subst el;have ei:i'=i:=by lia
   have ej:j'=j:=by lia
   have :=hs hb fF;rw[g3,g4,ej]at this;rw[ei];exact h2 m this
 ·have ha':=hs ha hl;have hb':=hs hb fF;rw[g1,g2]at ha';rw[g3,g4]at hb';rcases z ha with za |za
  ·rcases z hb with zb |zb
   ·exact hc.both a b' l l' i' n x y za zb hl fF g1 g2 g3 g4 hr
   ·have el:=lz zb hb fF;subst el;have ei:i'=i:=by lia
    subst ei;exact h4 n x y hr (.inr ()) ha' hb'
  ·have el:=lz za ha hl;subst el;have ei:i'=i:=by lia
   subst ei;exact h4 n x y hr (.inl ()) ha' hb'
 ·by_cases hall:∀p∈q.1,∃(a:Nat)(l:Ln),a<k/\L'[a]?=some l/\l.i=p.1/\l.j=p.2
  ·exact hc.rule r q hr hir hall
  ·refine h6 r q hr hir (oS fun hno=>hall fun p hpq=>?_) fun p hpq=>?_
   ·obtain⟨a,l,ha,hl,g1,g2⟩:=hp p hpq;rcases z ha with za |za
    ·exact⟨a,l,za,hl,g1,g2⟩
    ·have el:=lz za ha hl;subst el;have ep:p=((i:Int),(j:Int)):=Prod.ext (by rw[←g1,hi]) (by rw[←g2,hj]);exact absurd (ep▸hpq) hno
   ·obtain⟨a,l,ha,hl,g1,g2⟩:=hp p hpq;have :=hs ha hl;rw[g1,g2]at this;exact this
inductive i7 (K:W.Frag) (vs:List V) (H:Hp) (Q:VK) (E:XK):Prop
 |mk (sa ra:Addr) (us iH:List V) (aD:List Rw) (aV:List xM) (_:vs=[.ref sa,.ref ra]) (_:H sa=some (.lst us)) (_:gC K H aD us) (_:H ra=some (.lst iH)) (_:bG H (aV.map af) iH) (_:aD.length<=100) (_:qK aD) (_:aV.length<=100) (_:(∀r∈aV,r.1.length<=100)) (_:∀(la:Addr)(ws:List V)(ls:List Ln) H',bB H H'->H' la=some (.lst ws)->jV H' ls ws->LD aD aV ls->Pl aD (2*aD.length) aD.length ls->Cl aD aV ls.length ls->Q (.ref la) H')
theorem fU.same{g:oG}{H2:Hp}(s:bB H H2)(e:fU g H2 H')(h1:H g.la=none)(h2:H g.pa=none)(h3:H g.aa=none)(h4:H g.ba=none):bB H H':=fun b o hb=>by
 have go:∀{a:Addr},H a=none->b≠a:=fun ha z=>by rw[z,ha]at hb;cases hb
 exact e b o (s b o hb) (go h1) (go h2) (go h3) (go h4)
theorem EZ{C:Addr}(T:NW K C)(bi:Bi mg)(h_B:WO P w K mg base 1 C "Growth" ["self","many"] (k9 C))(h_j:gR P w K mg base 1 "boths_by_part" ["sheet"] (spBo K))(h_b:gR P w K mg base 1 "rules_by_premise" ["rules"] spWa)(h_ac:gR P w K mg base 3 "begin" ["growth","sheet"] (spBe K C))(h_v:gR P w K mg base 3 "grow_by_turn" ["growth","i","j"] (sE jq C))(h_k:gR P w K mg base 3 "grow_by_chain" ["growth","i","j"] (sE WH C))(h_o:gR P w K mg base 3 "grow_by_both" ["growth","i","boths"] (spGB C))(h_p:gR P w K mg base 3 "grow_by_clash" ["growth","i","j"] (sE WG C))(h_n:gR P w K mg base 3 "grow_by_rule" ["growth","rules","r"] (spGR C))(F:gS K "closing" "closing" s_E f fd):dI P w K mg base fY 4 f fd ["sheet","rules"] (i7 K):=by
 refine F.okz rR fun fL A outer s H vs Q E hr h=>?_
 obtain⟨sa,ra,us,iH,aD,aV,rfl,hsa,hrw,hra,hru,iC,hin,hr100,hpr,q⟩:=h;have hul:=hrw.len;have hvl:=qU hru;have cR:=T.cl;refine⟨_,(zF (yD 2 rR.nd (AM h_B hr.m rfl (zA (zL xQ zE (yC yJ rfl bi.len yX (zA (pv 0) zC))) zC))) (zF (yD 3 rR.nd (zI h_j hr.m rfl (zA (pv 0) zC))) (zF (yD 4 rR.nd (zI h_b hr.m rfl (zA (pv 1) zC))) (zF (zX (zI h_ac hr.m rfl (zA (pv 2) (zA (pv 0) zC)))) (zF (yM bM rfl (xY rfl bi.range (zA (yC yJ rfl bi.len yX (zA (pv 1) zC)) zC)) (yF 5 rR.nd) (zG (zX (zI h_n hr.m rfl (zA (pv 2) (zA (pv 1) (zA (pv 5) zC))))))) (zF (yD 6 rR.nd zE) (zF (AC bM (zQ ZM (pv 6) (yC yJ rfl bi.len yX (zA (xD (pv 2) rfl) zC)) (zU _)) (zF (yD 7 rR.nd (zM zP (zM yH (xD (pv 2) rfl) (pv 6)) zE)) (zF (yD 8 rR.nd (zM zP (zM yH (xD (pv 2) rfl) (pv 6)) zE)) (zF (zX (zI h_v hr.m rfl (zA (pv 2) (zA (pv 7) (zA (pv 8) zC))))) (zF (zX (zI h_k hr.m rfl (zA (pv 2) (zA (pv 7) (zA (pv 8) zC))))) (zF (zX (zI h_o hr.m rfl (zA (pv 2) (zA (pv 7) (zA (zM yH (pv 3) (pv 8)) zC))))) (zF (zX (zI h_p hr.m rfl (zA (pv 2) (zA (pv 7) (zA (pv 8) zC))))) (zF (yM bM rfl (yG (RS (xU hr) (pv 4) (zN (zA (pv 7) (zA (pv 8) zC))) (yV zC) ⟨rfl,rfl,rfl,rfl⟩)) (yF 5 rR.nd) (zG (zX (zI h_n hr.m rfl (zA (pv 2) (zA (pv 1) (zA (pv 5) zC))))))) (zG (UM (i:=6) rR.nd rfl (Or.inl rfl) zE oe)))))))))) (zG (zO (xD (pv 2) rfl)))))))))),?_⟩;refine zH fun N hN=>?_
 dsimp![HF];refine⟨us.length,.inl ⟨_,dL.of hsa,rfl⟩,.inl ⟨(),()⟩,fun x dx hx hdx lL=>?_⟩;have s1:bB H (upd (upd H dx (.own x)) x (.ins C dx [])):=((bB.refl H).upd hdx).upd hx;have k1:upd (upd H dx (.own x)) x (.ins C dx []) x=some (.ins C dx []):=zB;generalize upd (upd H dx (.own x)) x (.ins C dx [])=H1 at s1 k1⊢;have e2:(2:Int)*(us.length:Int)=((2*aD.length:Nat):Int):=by rw[hul];lia
 rw[e2];refine⟨x,dx,aD,aV,rfl,k1,iC,fun g H2 hgr x2 hla hpa haa hba hg=>⟨rfl,hN _ _ ?_⟩⟩;subst hgr;clear hN;have s2:bB H H2:=fun b o hb=>x2 b o (s1 _ _ hb) (fun z=>by rw[z,hx]at hb;cases hb)
 replace hla:=s1.free hla;replace hpa:=s1.free hpa;replace haa:=s1.free haa;replace hba:=s1.free hba;have outH:∀{a:Addr}{o:HO},H a=some o->JN g a:=fun{a o} ha=>by
  have go:∀{b:Addr},H b=none->a≠b:=fun hb z=>by rw[z,hb]at ha;cases ha
  exact⟨go hla,go hpa,go haa,go hba⟩
 clear x2 k1 s1;refine zH fun N hN=>?_
 dsimp![];refine⟨sa,us,aD,rfl,s2 _ _ hsa,hrw.same s2,iC,hin,fun pb qs n H3 s3 hpb0 hqs0 hpb hql hbo hbc=>hN _ _ ?_⟩;clear hN;have outb:=hg.out hpb0;have outq:∀q∈qs,JN g q:=fun q hq=>hg.out (hqs0 q hq)
 replace hg:=hg.same s3;replace s2:=s2.trans s3;clear s3 hqs0 hpb0;refine zH fun N hN=>?_
 dsimp![];refine⟨ra,iH,aV,rfl,s2 _ _ hra,bG.same s2 hru,hr100,hpr,fun pw kvs n' H4 s4 hpw0 hpw hwa hwc=>hN _ _ ?_⟩;clear hN;have outw:=hg.out hpw0;have hwa':∀kv∈kvs,∃(q:Addr)(ns:List Nat),kv.2=.ref q/\H4 q=some (.lst (ns.map nV))/\JN g q/\∀x∈ns,x<aV.length:=fun kv hkv=>by
  obtain⟨q',ns',h1,h2,h3,h4,h5⟩:=hwa kv hkv;exact⟨q',ns',h1,h2,hg.out h3,h5⟩
 clear hwa;replace hg:=hg.same s4;replace s2:=s2.trans s4;replace hpb:=s4 _ _ hpb;replace hbo:=hbo.same s4;replace hbc:=hbc.same s4;clear s4 hpw0;have SS:∀{H'},fU g H4 H'->bB H H':=fun e=>fU.same s2 e hla hpa haa hba
 refine zH fun N hN=>?_
 dsimp![];refine⟨g,sa,us,aD,aV,rfl,hg,iC,s2 _ _ hsa,hrw.same s2,outH hsa,hin,fun H5 g5=>hN _ _ ?_⟩;clear hN;have np:∀{r:Nat}{ls L L':List Ln},jr aD aV ls L r->Le L L'->∀q:xM,aV[r]?=some q->InR aD q->q.1=[]->zS L' q.2.1 q.2.2=true:=fun h e q hq hi h0=>e.has (h q hq hi (fun p hp=>by rw[h0]at hp;cases hp))
 refine yB (fun σ H'=>∃(o1 o2 o3 o4:Option V),mC C H4 g aD aV [] (fun L=>Pl aD (2*aD.length) aD.length L/\Cl aD aV 0 L) H'/\σ=[some (V.ref sa),some (V.ref ra),some (V.ref g.r),some (V.ref pb),some (V.ref pw),o1,o2,o3,o4]) (fun N hN=>?_) (fun σ H' h=>?_)
 ·dsimp![];refine⟨iH.length,.inl ⟨_,dL.of (SS g5.to.1 _ _ hra),rfl⟩,(),(),?_⟩;refine vJ (n:=(iH.length:Int).toNat) (fun i σ H'=>∃(o1 o2 o3 o4:Option V),mC C H4 g aD aV [] (fun L=>Pl aD (2*aD.length) aD.length L/\∀r:Nat,r<i->∀q:xM,aV[r]?=some q->InR aD q->q.1=[]->zS L q.2.1 q.2.2=true) H'/\σ=[some (V.ref sa),some (V.ref ra),some (V.ref g.r),some (V.ref pb),some (V.ref pw),o1,o2,o3,o4]) ⟨_,_,_,_,(by
   obtain⟨h1,t,h2,h3⟩:=g5;exact⟨h1,t,h2,h3,fun r hr=>()⟩),rfl⟩ (fun i σ H' hi h M hM=>?_) (fun σ H' h=>?_)
  rotate_left
  ·obtain⟨o1,o2,o3,o4,⟨h1,t,h2,h3,h4⟩,rfl⟩:=h;refine hN _ _ ⟨_,_,_,_,⟨h1,t,h2,h3,⟨fun a l i j ha=>(),fun a l i j ha=>(),fun a b l l' i j m ha=>(),fun a b l l' i n x y ha=>(),fun r q hr hir hp=>?_⟩⟩,rfl⟩;refine h4 r (by have :=(aC.mp hr).1;lia) q hr hir ?_;cases hq:q.1 with
   |nil=>rfl
   |cons p ps=>
    obtain⟨a,l,ha,_⟩:=hp p (by rw[hq];exact bF);lia
  obtain⟨o1,o2,o3,o4,⟨gs,t,gt,hP,hR⟩,rfl⟩:=h;have e0:(0:Int)+(i:Int)=((i:Nat):Int):=by lia
  dsimp![];rw[e0];refine⟨g,aD,aV,_,ra,iH,i,rfl,gt,iC,SS gs _ _ hra,bG.same (SS gs) hru,(),hpr,fun H6 g6=>?_⟩;refine hM _ _ ⟨_,_,_,_,mC.then gs g6 (fun L e h=>⟨hP.le e,fun r hr=>?_⟩),rfl⟩;rcases iF (mG hr)with z |z
  ·exact fun q hq hi h0=>e.has (hR r z q hq hi h0)
  ·rw[z];exact np h (Le.refl _)
 obtain⟨o1,o2,o3,o4,⟨gs,t,gt,hP,hC⟩,rfl⟩:=h;rw[WV]at gt hP hC;refine zH fun N hN=>?_
 dsimp![];refine hN _ _ ?_;clear hN;refine yB (fun σ H'=>∃(o1 o2 o3 o4:Option V)(t:List Ln),fU g H4 H'/\lR C H' g aD aV t/\Pl aD (2*aD.length) aD.length t/\Cl aD aV t.length t/\σ=[some (V.ref sa),some (V.ref ra),some (V.ref g.r),some (V.ref pb),some (V.ref pw),o1,o2,o3,o4]) (fun N hN=>?_) (fun σ H' h=>?_)
 ·refine j7 (fun m σ H'=>∃(k:Nat)(t:List Ln)(o1 o3 o4:Option V),m=(2*aD.length)*(2*aD.length)-k/\k<=t.length/\fU g H4 H'/\lR C H' g aD aV t/\Pl aD (2*aD.length) aD.length t/\Cl aD aV k t/\σ=[some (V.ref sa),some (V.ref ra),some (V.ref g.r),some (V.ref pb),some (V.ref pw),o1,some (V.int k),o3,o4]) ⟨_,0,t,_,_,_,rfl,cG _,gs,gt,hP,hC,rfl⟩ (fun m σ H' h B hB=>?_);clear hP hC;obtain⟨k,t,o1,o3,o4,rfl,hk,gs,gt,hP,hC,rfl⟩:=h;have htl:=gt.ok.len;obtain⟨dx,eK⟩:=gt.ins;obtain⟨ws,hl,hws⟩:=gt.lin;have hwl:=qU hws;dsimp![jA];refine⟨_,_,_,eK,T.cl,T.nL,_,MY g,ws.length,.inl ⟨_,dL.of hl,rfl⟩,?_⟩;by_cases hkl:k<t.length
  case neg=>
   rw[aH ()];rw[show k=t.length by lia]at hC;exact hN _ _ ⟨_,_,_,_,t,gs,gt,hP,hC,rfl⟩
  rw[aL ()];have hlk:t[k]?=some t[k]:=aA hkl;have hrng:=qW (gt.ok.snd k _ hlk);generalize t[k]=l0 at hlk hrng;obtain⟨i,hi⟩:∃i:Nat,l0.i=(i:Int):=dY hrng.1.1;obtain⟨j,hj⟩:∃j:Nat,l0.j=(j:Int):=dY hrng.2.1;obtain⟨v,hv,hvd⟩:=bG.get (d:=ND l0) hws (by rw[aK,hlk];rfl);obtain⟨xa,u,rfl,hxa,_⟩:=SY hvd;rw[hi,hj]at hxa hrng;have hh:zS t i j=true:=eZ.mpr ⟨k,l0,hlk,hi,hj⟩;refine hB _ (fun σ' H''=>∃(t':List Ln)(o1 o3 o4:Option V),k+1<=t'.length/\fU g H4 H''/\lR C H'' g aD aV t'/\Pl aD (2*aD.length) aD.length t'/\Cl aD aV (k+1) t'/\σ'=[some (V.ref sa),some (V.ref ra),some (V.ref g.r),some (V.ref pb),some (V.ref pw),o1,some (V.int ((k+1:Nat):Int)),o3,o4]) (fun σ' H'' h=>?_) (fun M hM=>?_)
  ·obtain⟨t',o1,o3,o4,h1,h2,h3,h4,h5,rfl⟩:=h;exact⟨_,(),k+1,t',_,_,_,rfl,h1,h2,h3,h4,h5,rfl⟩
  refine zH fun N1 hN1=>?_
  dsimp![jA];refine⟨_,_,_,eK,T.cl,T.nL,_,MY g,_,rfl,_,dL.of hl,_,yE hv,_,rfl,_,dN.of hxa,_,mK,hN1 _ _ ?_⟩;clear hN1;refine zH fun N1 hN1=>?_
  dsimp![jA];refine⟨_,_,_,eK,T.cl,T.nL,_,MY g,_,rfl,_,dL.of hl,_,yE hv,_,rfl,_,dN.of hxa,_,rG,hN1 _ _ ?_⟩;clear hN1;refine zH fun N1 hN1=>?_
  dsimp![];refine⟨g,aD,aV,t,i,j,rfl,gt,iC,hh,fun H6 g6=>hN1 _ _ ?_⟩;clear hN1;obtain⟨gs6,t6,gt6,rt⟩:=g6;replace gs:=gs.trans gs6;refine zH fun N1 hN1=>?_
  dsimp![];refine⟨g,aD,aV,_,i,j,rfl,gt6,iC,zV hh,fun H7 g7=>hN1 _ _ ?_⟩;clear hN1;obtain⟨gs7,t7,gt7,rc⟩:=g7;replace gs:=gs.trans gs7;have hjl:j<qs.length:=by lia
  obtain⟨us1,hu1,_,mB⟩:=hbo qs[j] (cW hjl);have tu:=hg.tups gs;refine zH fun N1 hN1=>?_
  dsimp![];refine⟨_,dL.of (gs.out outb hpb),_,yE (by rw[aK,aA hjl];rfl),?_⟩;refine⟨g,aD,aV,_,i,qs[j],us1,rfl,gt7,iC,(),gs.out (outq _ (cW hjl)) hu1,outq _ (cW hjl),fun v hv=>(mB v hv).tups tu,hin,fun H8 g8=>hN1 _ _ ?_⟩;clear hN1;obtain⟨gs8,t8,gt8,rb⟩:=g8;replace gs:=gs.trans gs8;refine zH fun N1 hN1=>?_
  dsimp![];refine⟨g,aD,aV,_,i,j,rfl,gt8,iC,zV (zV (zV hh)),fun H9 g9=>hN1 _ _ ?_⟩;clear hN1;obtain⟨gs9,t9,gt9,rx⟩:=g9;replace gs:=gs.trans gs9;have hk9:k+1<=((((t++t6)++t7)++t8)++t9).length:=by simp only[aI];lia
  have h1:zS ((((t++t6)++t7)++t8)++t9) ((lP j:Nat):Int) ((lP i:Nat):Int)=true:=zV (zV (zV rt));have h2:∀m:Nat,zS t j m=true->zS ((((t++t6)++t7)++t8)++t9) i m=true:=fun m hm=>zV (zV (rc.1 m (zV hm)))
  have h3:∀m:Nat,zS t m i=true->zS ((((t++t6)++t7)++t8)++t9) m j=true:=fun m hm=>zV (zV (rc.2 m (zV hm)))
  have h4:∀(n:Nat)(x y:Int),aD[n]?=some (.bo x y)->((j:Int)=x\/(j:Int)=y)->zS t i x=true->zS t i y=true->zS ((((t++t6)++t7)++t8)++t9) i ((2*n:Nat):Int)=true:=fun n x y hn hxy hx hy=>by
   obtain⟨us',t',g1,g2,g3⟩:=hbc n x y (aC.mp hn).1 hn j qs[j] hxy (aA hjl);rw[hu1]at g1;cases g1;exact zV (rb t' n x y g2 (tu _ _ g3) (zV (zV hx)) (zV (zV hy)))
  have h5:(j:Int)=rM i->∀n:Nat,n<2*aD.length->zS ((((t++t6)++t7)++t8)++t9) i n=true:=rx;have ett:Le t ((((t++t6)++t7)++t8)++t9):=⟨t6++(t7++(t8++t9)),by simp[cL]⟩
  generalize (((t++t6)++t7)++t8)++t9=tt at gt9 hk9 h1 h2 h3 h4 h5 ett;clear rt rc rb rx;clear gs6 gt6 gs7 gt7 gs8 gt8 gs9 tu eK hl hws htl gt;refine zH fun N1 hN1=>?_
  dsimp![OP];have hpw9:=gs.out outw hpw;refine⟨.inr ⟨_,.inl hpw9⟩,small (),fun p hp=>⟨cG _,fun p1 hp1=>?_⟩⟩;have s10:=(zD hp (.tup [V.int i,V.int j])).trans (zD hp1 (.lst []));have kp:upd (upd H9 p (.tup [V.int i,V.int j])) p1 (.lst []) p=some (.tup [V.int i,V.int j]):=zD hp1 (.lst []) _ _ zB;have kp1:upd (upd H9 p (.tup [V.int i,V.int j])) p1 (.lst []) p1=some (.lst []):=zB;have op1:=(gt9.same (zD hp (.tup [V.int i,V.int j]))).out hp1;generalize upd (upd H9 p (.tup [V.int i,V.int j])) p1 (.lst [])=H10 at s10 kp kp1⊢;have hq:∃(q:Addr)(ns:List Nat),(yO kvs (xF i j)).getD (.ref p1)=.ref q/\H10 q=some (.lst (ns.map nV))/\JN g q/\(∀x∈ns,x<aV.length)/\∀r,KZ H4 kvs ((i:Int),(j:Int)) r->r∈ns:=by
   cases hv:yO kvs (xF i j)with
   |none=>exact⟨p1,[],rfl,kp1,op1,(fun x z=>by cases z),fun r ⟨q,ns,g1,_⟩=>by rw[show yO kvs (xF (i:Int) (j:Int))=none from hv]at g1;cases g1⟩
   |some v=>
    obtain⟨kv,hkv,rfl⟩:=tK hv;obtain⟨q',ns',g1,g2,g3,g4⟩:=hwa' kv hkv;refine⟨q',ns',g1,s10 _ _ (gs.out g3 g2),g3,g4,fun r ⟨q,ns,w1,w2,w3⟩=>?_⟩;rw[show yO kvs (xF (i:Int) (j:Int))=some kv.2 from hv,g1]at w1;have e1:=V.ref.inj (dC w1);subst e1;rw[g2]at w2;rw[FD (HO.lst.inj (dC w2))];exact w3
  obtain⟨qa,ns,hqa1,hqa2,hqa3,hqa4,hqa5⟩:=hq;refine⟨_,.inr ⟨_,xF i j,p,.inl (s10 _ _ hpw9),rfl,kp,rfl⟩,qa,hqa1,⟨_,dL.of hqa2⟩,?_⟩;replace gs:=gs.trans (bB.g s10);replace gt9:=gt9.same s10;clear s10 kp kp1 hp hp1 op1 hqa1;refine jD (xs:=ns.map nV) (fun m σ H'=>∃(o1:Option V)(t':List Ln),k+1<=t'.length/\fU g H4 H'/\fU g H10 H'/\lR C H' g aD aV t'/\Le tt t'/\(∀r∈ns.take m,∀q:xM,aV[r]?=some q->InR aD q->(∀p∈q.1,zS tt p.1 p.2=true)->zS t' q.2.1 q.2.2=true)/\σ=[some (V.ref sa),some (V.ref ra),some (V.ref g.r),some (V.ref pb),some (V.ref pw),o1,some (V.int k),some (V.int i),some (V.int j)]) ⟨_,tt,hk9,gs,bB.g (bB.refl _),gt9,Le.refl _,(fun r z=>by cases z),rfl⟩ (fun m σ H' _ h=>?_) (fun m x σ H' hx h M hM=>?_) (fun σ H' h=>?_)
  ·obtain⟨_,_,_,_,h,_⟩:=h;exact dL.of (h.out hqa3 hqa2)
  ·obtain⟨o1,t',hk',gs',gs2',gt',le',hR,rfl⟩:=h;rw[aK]at hx;obtain⟨x',hx',rfl⟩:=aO.mp hx;dsimp![];refine⟨g,aD,aV,_,ra,iH,x',rfl,gt',iC,SS gs' _ _ hra,bG.same (SS gs') hru,hqa4 _ (aX hx'),hpr,fun H6 g6=>?_⟩;obtain⟨gs6,t6,gt6,rr⟩:=g6;refine hM _ _ ⟨_,t'++t6,by rw[aI];lia,gs'.trans gs6,gs2'.trans gs6,gt6,le'.trans ⟨t6,rfl⟩,fun r hr q hq hi0 hp0=>?_,rfl⟩;obtain⟨hkl',hke⟩:=aC.mp hx';rw[aM hkl',hke]at hr;rcases bO.mp hr with hr |hr
   ·exact zV (hR r hr q hq hi0 hp0)
   ·rw[aT.mp hr]at hq;exact rr q hq hi0 fun p hp=>le'.has (hp0 p hp)
  ·obtain⟨o1,t',hk',gs',gs2',gt',le',hR,rfl⟩:=h;rw[aE,aS (aG _)]at hR;have e9:=ett.trans le';have hC':Cl aD aV (k+1) t':=hC.step e9 hlk hi hj (le'.has h1) (fun m hm=>le'.has (h2 m hm)) (fun m hm=>le'.has (h3 m hm)) (fun n x y a b c d=>le'.has (h4 n x y a b c d)) (fun a n b=>le'.has (h5 a n b)) (fun r q hr hir hin' hp=>?_)
   ·refine hN1 _ _ ?_;dsimp![OR,TM];exact hM _ _ ⟨t',_,_,_,hk',gs',gt',hP.le e9,hC',by rw[Int.natCast_add];rfl⟩
   ·obtain⟨x,hx⟩:=iU hin';exact hR r (hqa5 r (hwc r q x _ hr hx (.inl (aC.mp hr).1))) q hr hir fun p hpq=>ett.has (hp p hpq)
 obtain⟨o1,o2,o3,o4,t,gs,gt,hP,hC,rfl⟩:=h;obtain⟨dx,eK⟩:=gt.ins;obtain⟨ws,hl,hws⟩:=gt.lin;dsimp![jA];exact⟨_,_,_,eK,T.cl,T.nL,_,MY g,q g.la ws t _ (SS gs) hl hws gt.ok hP hC⟩
def oT(n:Nat):Nat:=n+1-2*(n % 2)
def lQ(e:Bool)(n:Nat):Nat:=if e then oT n else n
def oP(aD:List Rw)(r:Rw):Option Nat:=aD.findIdx? fun x=>eU (qc x) (qc r)
def xN(aD:List Rw)(r:Rw):List Rw×Nat:=match oP aD r with
 |some k=>(aD,2*k)
 |none=>(aD++[r],2*aD.length)
mutual
def num(aD:List Rw):Tm->Option Nat
 | .name x=>(oP aD (.nm x)).map (2* ·)
 | .node w ts=>if w="none" then some 0 else if w="all" then some 1 else if w="not" then(uD aD false ts).map oT else(uD aD (decide (w="either")) ts).map (lQ (decide (w="either")))
def uD(aD:List Rw)(e:Bool):List Tm->Option Nat
 |[]=>none
 |t::ts=>(num aD t).bind fun m=>uJ aD e (lQ e m) ts
def uJ(aD:List Rw)(e:Bool):Nat->List Tm->Option Nat
 |m,[]=>some m
 |m,t::ts=>(num aD t).bind fun n=>(oP aD (.bo (m:Int) (lQ e n:Nat))).bind fun k=>uJ aD e (2*k) ts
end
mutual
def eM:Tm->List Rw->List Rw×Nat
 | .name x,aD=>xN aD (.nm x)
 | .node w ts,aD=>if w="none" then(aD,0)else if w="all" then(aD,1)else if w="not" then((jG false ts aD).1,oT (jG false ts aD).2)else((jG (decide (w="either")) ts aD).1,lQ (decide (w="either")) (jG (decide (w="either")) ts aD).2)
def jG(e:Bool):List Tm->List Rw->List Rw×Nat
 |[],aD=>(aD,0)
 |t::ts,aD=>jB e ts (eM t aD).1 (lQ e (eM t aD).2)
def jB(e:Bool):List Tm->List Rw->Nat->List Rw×Nat
 |[],aD,m=>(aD,m)
 |t::ts,aD,m=>jB e ts (xN (eM t aD).1 (.bo (m:Int) (lQ e (eM t aD).2:Nat))).1 (xN (eM t aD).1 (.bo (m:Int) (lQ e (eM t aD).2:Nat))).2
end
theorem UG{r:Rw}{k:Nat}(xs:List Rw)(h:oP aD r=some k):oP (aD++xs) r=some k:=by
 unfold oP at h⊢;rw[List.findIdx?_append,h];rfl
theorem XB{r:Rw}(h:oP aD r=none):oP (aD++[r]) r=some aD.length:=by
 unfold oP at h⊢;rw[List.findIdx?_append,h];simp[List.findIdx?_cons,xV]
theorem uR(aD:List Rw)(r:Rw):∃xs,(xN aD r).1=aD++xs:=by
 unfold xN;split
 ·exact⟨[],(cM _).symm⟩
 ·exact⟨[r],rfl⟩
theorem HR(aD:List Rw)(r:Rw):∃k,oP (xN aD r).1 r=some k/\(xN aD r).2=2*k:=by
 unfold xN;split
 ·rename_i k h
  exact⟨k,h,rfl⟩
 ·rename_i h
  exact⟨_,XB h,rfl⟩
mutual
theorem vU(aD xs:List Rw):∀(t:Tm)(n:Nat),num aD t=some n->num (aD++xs) t=some n
 | .name x,n,h=>by
   rw[num]at h⊢;obtain⟨k,hk,e⟩:=aO.mp h;rw[UG xs hk];exact dH some e
 | .node w ts,n,h=>by
   rw[num]at h⊢;split
   ·rename_i c
    rwa[aL c]at h
   ·rename_i c
    rw[aH c]at h;split
    ·rename_i c
     rwa[aL c]at h
    ·rename_i c
     rw[aH c]at h;split
     ·rename_i c
      rw[aL c]at h;obtain⟨k,hk,e⟩:=aO.mp h;rw[BL aD xs _ ts k hk];exact dH some e
     ·rename_i c
      rw[aH c]at h;obtain⟨k,hk,e⟩:=aO.mp h;rw[BL aD xs _ ts k hk];exact dH some e
theorem BL(aD xs:List Rw)(e:Bool):∀(ts:List Tm)(n:Nat),uD aD e ts=some n->uD (aD++xs) e ts=some n
 |[],n,h=>by rw[uD]at h;cases h
 |t::ts,n,h=>by
  rw[uD]at h⊢;obtain⟨m,hm,h⟩:=cY.mp h;rw[vU aD xs t m hm];exact BJ aD xs e ts _ n h
theorem BJ(aD xs:List Rw)(e:Bool):∀(ts:List Tm)(m n:Nat),uJ aD e m ts=some n->uJ (aD++xs) e m ts=some n
 |[],m,n,h=>by rw[uJ]at h⊢;exact h
 |t::ts,m,n,h=>by
  rw[uJ]at h⊢;obtain⟨a,ha,h⟩:=cY.mp h;obtain⟨b,hb,h⟩:=cY.mp h;rw[vU aD xs t a ha];show(oP (aD++xs) _).bind _=_;rw[UG xs hb];exact BJ aD xs e ts _ n h
end
mutual
theorem kQ:∀(t:Tm)(aD:List Rw),∃xs,(eM t aD).1=aD++xs
 | .name x,aD=>by rw[eM];exact uR _ _
 | .node w ts,aD=>by
   rw[eM];split
   ·exact⟨[],(cM _).symm⟩
   ·split
    ·exact⟨[],(cM _).symm⟩
    ·split
     ·exact CW _ ts aD
     ·exact CW _ ts aD
theorem CW(e:Bool):∀(ts:List Tm)(aD:List Rw),∃xs,(jG e ts aD).1=aD++xs
 |[],aD=>by rw[jG];exact⟨[],(cM _).symm⟩
 |t::ts,aD=>by
  rw[jG];obtain⟨xs,hx⟩:=kQ t aD;obtain⟨ys,hy⟩:=qI e ts (eM t aD).1 (lQ e (eM t aD).2);exact⟨xs++ys,by rw[hy,hx,cL]⟩
theorem qI(e:Bool):∀(ts:List Tm)(aD:List Rw)(m:Nat),∃xs,(jB e ts aD m).1=aD++xs
 |[],aD,m=>by rw[jB];exact⟨[],(cM _).symm⟩
 |t::ts,aD,m=>by
  rw[jB];obtain⟨xs,hx⟩:=kQ t aD;obtain⟨ys,hy⟩:=uR (eM t aD).1 (.bo (m:Int) (lQ e (eM t aD).2:Nat));obtain⟨zs,hz⟩:=qI e ts (xN (eM t aD).1 (.bo (m:Int) (lQ e (eM t aD).2:Nat))).1 (xN (eM t aD).1 (.bo (m:Int) (lQ e (eM t aD).2:Nat))).2;exact⟨xs++(ys++zs),by rw[hz,hy,hx,cL,cL]⟩
end
mutual
theorem kP:∀(t:Tm)(n:Nat)(aD:List Rw),fX n t->num (eM t aD).1 t=some (eM t aD).2
 | .name x,n,aD,_=>by
   rw[eM,num];obtain⟨k,h1,h2⟩:=HR aD (.nm x);rw[h1,h2];rfl
 | .node w ts,n,aD,h=>by
   have hf:∀t∈ts,∃m,fX m t:=fun t ht=>by
    cases n with
    |zero=>unfold fX at h;rw[h.2]at ht;cases ht
    |succ n=>unfold fX at h;exact⟨n,h.2 t ht⟩
   have hs:Sh w ts.length:=by cases n<;>(unfold fX at h;exact h.1)
   rw[eM,num];split
   ·rfl
   ·split
    ·rfl
    ·rename_i c1 c2
     have lL:ts≠[]:=fun z=>by
      subst z;rcases hs with h |h |h |h |h
      ·exact c1 h.1
      ·exact c2 h.1
      ·cases h.2
      ·exact absurd h.2 ()
      ·exact absurd h.2 ()
     split
     ·show(uD (jG false ts aD).1 false ts).map oT=_;rw[CU false ts aD hf lL];rfl
     ·show(uD (jG _ ts aD).1 _ ts).map _=_;rw[CU _ ts aD hf lL];rfl
theorem CU(e:Bool):∀(ts:List Tm)(aD:List Rw),(∀t∈ts,∃m,fX m t)->ts≠[]->uD (jG e ts aD).1 e ts=some (jG e ts aD).2
 |[],aD,_,h=>absurd rfl h
 |t::ts,aD,hf,_=>by
  rw[jG,uD];obtain⟨m,hm⟩:=hf t bF;obtain⟨ys,hy⟩:=qI e ts (eM t aD).1 (lQ e (eM t aD).2);have h1:=CS e ts (eM t aD).1 (lQ e (eM t aD).2) (fun u hu=>hf u (bE _ hu));have h2:=vU _ ys t _ (kP t m aD hm);rw[←hy]at h2;rw[h2];exact h1
theorem CS(e:Bool):∀(ts:List Tm)(aD:List Rw)(m:Nat),(∀t∈ts,∃m,fX m t)->uJ (jB e ts aD m).1 e m ts=some (jB e ts aD m).2
 |[],aD,m,_=>by rw[jB,uJ]
 |t::ts,aD,m,hf=>by
  obtain⟨a,ha⟩:=hf t bF;have h1:=kP t a aD ha;obtain⟨ys,hy⟩:=uR (eM t aD).1 (.bo (m:Int) (lQ e (eM t aD).2:Nat));obtain⟨k,hk,hk2⟩:=HR (eM t aD).1 (.bo (m:Int) (lQ e (eM t aD).2:Nat));obtain⟨zs,hz⟩:=qI e ts (xN (eM t aD).1 (.bo (m:Int) (lQ e (eM t aD).2:Nat))).1 (xN (eM t aD).1 (.bo (m:Int) (lQ e (eM t aD).2:Nat))).2;have h3:=CS e ts (xN (eM t aD).1 (.bo (m:Int) (lQ e (eM t aD).2:Nat))).1 (xN (eM t aD).1 (.bo (m:Int) (lQ e (eM t aD).2:Nat))).2 (fun u hu=>hf u (bE _ hu));rw[jB,uJ];have h4:=vU _ (ys++zs) t _ h1;rw[←cL,←hy,←hz]at h4;have h5:=UG zs hk;rw[←hz]at h5;rw[h4];show(oP _ (.bo (m:Int) (lQ e (eM t aD).2:Nat))).bind _=_;rw[h5];show uJ _ e (2*k) ts=_;rw[←hk2];exact h3
end
structure rA(aD:List Rw):Prop where
 in_:∀(k:Nat)(i j:Int),aD[k]?=some (.bo i j)->(0<=i/\i<2*(k:Int))/\0<=j/\j<2*(k:Int)
 hd:aD[0]?=some .no
 few:∀k,aD[k]?=some .no->k=0
 nm:∀(k:Nat)(x:Str),aD[k]?=some (.nm x)->Nm x
theorem rA.pos(h:rA aD):1<=aD.length:=(aC.mp h.hd).1
theorem rA.one:rA [.no]:=by
 have o:∀(k:Nat)(r:Rw),([Rw.no]:List Rw)[k]?=some r->k=0/\r=.no:=fun k r h=>by
  cases k with
  |zero=>simp at h;exact⟨rfl,h.symm⟩
  |succ k=>simp at h
 exact⟨fun k i j h=>(by cases (o k _ h).2),rfl,fun k h=>(o k _ h).1,fun k x h=>(by cases (o k _ h).2)⟩
def jt(n:Nat):Rw->Prop
 | .no=>False
 | .nm x=>Nm x
 | .bo i j=>(0<=i/\i<2*(n:Int))/\0<=j/\j<2*(n:Int)
theorem rA.snoc{r:Rw}(h:rA aD)(hr:jt aD.length r):rA (aD++[r]):=by
 have o:∀(k:Nat)(q:Rw),(aD++[r])[k]?=some q->aD[k]?=some q\/(k=aD.length/\q=r):=fun k q hq=>by
  by_cases c:k<aD.length
  ·rw[bC c]at hq;exact .inl hq
  ·have :=(aC.mp hq).1;rw[aI,cC]at this;have e:k=aD.length:=by lia
   subst e;rw[bL (aG _)]at hq;simp at hq;exact .inr ⟨rfl,hq.symm⟩
 refine⟨fun k i j hk=>?_,?_,fun k hk=>?_,fun k x hk=>?_⟩
 ·rcases o k _ hk with h1 |⟨rfl,rfl⟩
  ·exact h.in_ k i j h1
  ·exact hr
 ·rw[bC (by have :=h.pos;lia)];exact h.hd
 ·rcases o k _ hk with h1 |⟨rfl,rfl⟩
  ·exact h.few k h1
  ·exact hr.elim
 ·rcases o k _ hk with h1 |⟨rfl,rfl⟩
  ·exact h.nm k x h1
  ·exact hr
def Grw(aD:List Rw)(m:Nat)(p:List Rw×Nat):Prop:=rA p.1/\aD.length<=p.1.length/\p.1.length<=aD.length+m/\p.2<2*p.1.length
theorem OM{m:Nat}(h:n<2*m):oT n<2*m:=by unfold oT;lia
theorem QU{e:Bool}{m:Nat}(h:n<2*m):lQ e n<2*m:=by
 cases e
 ·exact h
 ·exact OM h
theorem PX{r:Rw}{k:Nat}(h:oP aD r=some k):k<aD.length:=by
 unfold oP at h;exact(gA.mp h).1
theorem tX{r:Rw}(h:rA aD)(hr:jt aD.length r):Grw aD 1 (xN aD r):=by
 unfold xN;split
 ·rename_i k hk
  have :=PX hk;exact⟨h,aG _,rW _,by show 2*k<2*aD.length;lia⟩
 ·refine⟨h.snoc hr,?_,?_,?_⟩
  ·simp
  ·simp
  ·show 2*aD.length<2*(aD++[r]).length;rw[aI,cC];lia
mutual
theorem VJ:∀(t:Tm)(n:Nat)(aD:List Rw),fX n t->rA aD->Grw aD (2*wt t-1) (eM t aD)
 | .name x,n,aD,hf,h=>by
   rw[eM,wt];exact tX h (by unfold fX at hf;exact hf)
 | .node w ts,n,aD,hf,h=>by
   have hf':∀t∈ts,∃m,fX m t:=fun t ht=>by
    cases n with
    |zero=>unfold fX at hf;rw[hf.2]at ht;cases ht
    |succ n=>unfold fX at hf;exact⟨n,hf.2 t ht⟩
   have hp:=h.pos;rw[eM,wt];split
   ·exact⟨h,aG _,by show aD.length<=_;lia,by show 0<2*aD.length;lia⟩
   ·split
    ·exact⟨h,aG _,by show aD.length<=_;lia,by show 1<2*aD.length;lia⟩
    ·split
     ·obtain⟨h1,h2,h3,h4⟩:=CV false ts aD hf' h;exact⟨h1,h2,by show(jG false ts aD).1.length<=_;lia,OM h4⟩
     ·obtain⟨h1,h2,h3,h4⟩:=CV (decide (w="either")) ts aD hf' h;exact⟨h1,h2,by show(jG _ ts aD).1.length<=_;lia,QU h4⟩
theorem CV(e:Bool):∀(ts:List Tm)(aD:List Rw),(∀t∈ts,∃m,fX m t)->rA aD->Grw aD (2*mQ ts) (jG e ts aD)
 |[],aD,_,h=>by
  rw[jG];have :=h.pos;exact⟨h,aG _,Nat.le_add_right _ _,by show 0<2*aD.length;lia⟩
 |t::ts,aD,hf,h=>by
  rw[jG,mQ];obtain⟨m,hm⟩:=hf t bF;obtain⟨a1,a2,a3,a4⟩:=VJ t m aD hm h;obtain⟨b1,b2,b3,b4⟩:=CT e ts (eM t aD).1 (lQ e (eM t aD).2) (fun u hu=>hf u (bE _ hu)) a1 (QU a4);have hw:=DN t;exact⟨b1,(),(),b4⟩
theorem CT(e:Bool):∀(ts:List Tm)(aD:List Rw)(m:Nat),(∀t∈ts,∃m,fX m t)->rA aD->m<2*aD.length->Grw aD (2*mQ ts) (jB e ts aD m)
 |[],aD,m,_,h,hm=>by
  rw[jB];exact⟨h,aG _,Nat.le_add_right _ _,hm⟩
 |t::ts,aD,m,hf,h,hm=>by
  rw[jB,mQ];obtain⟨n,hn⟩:=hf t bF;obtain⟨a1,a2,a3,a4⟩:=VJ t n aD hn h;have a5:=QU (e:=e) a4;obtain⟨c1,c2,c3,c4⟩:=tX (r:=.bo (m:Int) (lQ e (eM t aD).2:Nat)) a1 ⟨⟨(),()⟩,(),()⟩;obtain⟨b1,b2,b3,b4⟩:=CT e ts _ _ (fun u hu=>hf u (bE _ hu)) c1 c4;have hw:=DN t;exact⟨b1,(),(),b4⟩
end
abbrev l8:Stmt:=top 21
theorem sc_ab:bZ ["places","row"] ["places","row"] (zK l8):=by rfl'
abbrev lu:Stmt:=top 20
theorem i8:bZ ["places","row","place"] ["places","row"] (zK lu):=by rfl'
abbrev s_G:Stmt:=top 19
theorem sc_G:bZ ["sheet"] ["sheet"] (zK s_G):=by rfl'
abbrev s_N:Stmt:=top 22
theorem sc_N:bZ ["n","turn"] ["n","turn"] (zK s_N):=by rfl'
abbrev s_m:Stmt:=top 23
theorem sc_m:bZ ["row_number","places","t"] ["row_number","places","t"] (zK s_m):=by rfl'
abbrev s_c:Stmt:=top 24
theorem LU:bZ ["row_number","places","t","turn","whole","part","last"] ["row_number","places","t"] (zK s_c):=by rfl'
theorem TQ{A:Around}{k:Nat}(hr:hZ k A):A.units+2<cLine:=fG (Nat.add_le_add_left (by decide:2<=64) _) hr.units
theorem av(e:Bool)(n:Nat):Builtin.bitXor (n:Int) (if e=true then 1 else 0)=((lQ e n:Nat):Int):=by
 cases e with
 |false=>exact PyProof.Rows.bitXor_zero _
 |true=>
  rw[aL rfl,DM];unfold rM lQ oT;rw[aL rfl];lia
def jT:Rw->List eL
 | .no=>[.inr "none"]
 | .nm x=>[.inr "name",.inr x]
 | .bo i j=>[.inr "both",.inl i,.inl j]
theorem BV{r q:Rw}(h:jT r=jT q):r=q:=by
 cases r<;>cases q<;>simp[jT]at h⊢ <;>first |exact h |exact h.elim
theorem VC(r q:Rw):eU (qc r) (qc q)=true↔r=q:=by
 constructor
 ·intro h;cases r<;>cases q<;>simp[qc,eU,kM]at h⊢ <;>first |exact h |exact h.elim |exact absurd h.1 () |exact absurd h () |skip
 ·rintro rfl;exact xV _
def sM:Nat->Tm->Prop
 |0,_=>False
 |n+1,t=>fX n t
theorem sM.node{wd:Str}(h:sM (n+1) (.node wd ts)):Sh wd ts.length/\∀t∈ts,sM n t:=by
 have h:fX n (.node wd ts):=h;cases n with
 |zero=>unfold fX at h;exact⟨h.1,fun t ht=>by rw[h.2]at ht;cases ht⟩
 |succ n=>unfold fX at h;exact h
theorem VA(a b:Str):eU (.str a) (.str b)=decide (a=b):=by
 rw[cE,bQ];simp[eU]
theorem gm(x y:V)(xs:List V):qX (x::y::xs) (some 2) none=xs:=by
 unfold qX;have e:HT.sIx (x::y::xs).length 0 (some 2)=2:=by
  unfold HT.sIx;simp only[bD];rw[aH ()];lia
 rw[e,HT.sIx_none,aS (by simp)];rfl
def pX:List Rw->List Addr->Nat->List XE
 |r::aD,a::as,k=>(jT r,a,V.int (k:Nat))::pX aD as (k+1)
 |_,_,_=>[]
theorem kC:∀(aD:List Rw)(as:List Addr)(k:Nat),as.length=aD.length->(pX aD as k).length=aD.length
 |[],[],_,_=>rfl
 |[],_::_,_,h=>by cases h
 |_::_,[],_,h=>by cases h
 |r::aD,a::as,k,h=>dH (· +1) (kC aD as (k+1) (mF h))
theorem IB:∀(aD:List Rw)(as:List Addr)(k:Nat)(x:XE),x∈pX aD as k->∃(i:Nat)(r:Rw)(a:Addr),aD[i]?=some r/\as[i]?=some a/\x.1=jT r/\x.2.1=a
 |[],_,_,_,h=>by unfold pX at h;cases h
 |_::_,[],_,_,h=>by unfold pX at h;cases h
 |r::aD,a::as,k,x,h=>by
  unfold pX at h;rcases bJ.mp h with rfl |h
  ·exact⟨0,r,a,rfl,rfl,rfl,rfl⟩
  ·obtain⟨i,r',a',h1,h2,h3⟩:=IB aD as (k+1) x h;exact⟨i+1,r',a',h1,h2,h3⟩
theorem kA(r:Rw):∀(aD:List Rw)(as:List Addr)(k:Nat),as.length=aD.length->kS (pX aD as k) (jT r)=(oP aD r).map fun i=>V.int ((k+i:Nat):Int)
 |[],[],_,_=>rfl
 |[],_::_,_,h=>by cases h
 |_::_,[],_,h=>by cases h
 |q::aD,a::as,k,h=>by
  have ih:=kA r aD as (k+1) (mF h);unfold kS oP at ih⊢;rw[pX,eR,List.findIdx?_cons];by_cases c:q=r
  ·subst c;rw[eC rfl,xV];rfl
  ·rw[dF (fun z=>c (BV z)),dX.mpr (fun z=>c ((VC q r).mp z))];show Option.map _ (List.find? _ (pX aD as (k+1)))=_;rw[ih];cases List.findIdx? (fun x=>eU (qc x) (qc r)) aD with
   |none=>rfl
   |some i=>show some (V.int ((k+1+i:Nat):Int))=some (V.int ((k+(i+1):Nat):Int));rw[show k+1+i=k+(i+1) by lia]
theorem AE(r:Rw)(b:Addr):∀(aD:List Rw)(as:List Addr)(k:Nat),as.length=aD.length->pX (aD++[r]) (as++[b]) k=pX aD as k++[(jT r,b,V.int ((k+aD.length:Nat):Int))]
 |[],[],k,_=>rfl
 |[],_::_,_,h=>by cases h
 |_::_,[],_,h=>by cases h
 |q::aD,a::as,k,h=>by
  show(jT q,a,V.int (k:Nat))::pX (aD++[r]) (as++[b]) (k+1)=_;rw[AE r b aD as (k+1) (mF h),show k+1+aD.length=k+(q::aD).length by rw[bD];lia];rfl
theorem AF:∀(aD:List Rw)(as:List Addr)(k:Nat),as.length=aD.length->((pX aD as k).map fun x=>V.ref x.2.1)=as.map V.ref
 |[],[],_,_=>rfl
 |[],_::_,_,h=>by cases h
 |_::_,[],_,h=>by cases h
 |q::aD,a::as,k,h=>dH (V.ref a:: ·) (AF aD as (k+1) (mF h))
structure Px(P:Program)(w:World)(K:W.Frag)(H J:Hp)(pa:Addr)(aD:List Rw)(as:List Addr):Prop where
 eq:H=upd J pa (DF P w pa (pX aD as 0))
 no:J pa=none
 len:as.length=aD.length
 few:aD.length<=40
 lo:(pa==sysModules)=false
 keys:∀(i:Nat)(r:Rw)(a:Addr),aD[i]?=some r->as[i]?=some a->Tw K J a ((jT r).map kV)
section
variable {pa:Addr} {as:List Addr}
theorem Px.at(h:Px P w K H J pa aD as):H pa=some (DF P w pa (pX aD as 0)):=by rw[h.eq];exact zB
theorem Px.sub(h:Px P w K H J pa aD as):bB J H:=by rw[h.eq];exact zD h.no _
theorem Px.dx(h:Px P w K H J pa aD as):rS P w K H pa (pX aD as 0):=by
 refine⟨h.at,by rw[kC _ _ _ h.len];have :=h.few;lia,h.lo,fun x hx=>?_⟩;obtain⟨i,r,a,h1,h2,h3,h4⟩:=IB aD as 0 x hx;rw[h3,h4];exact((h.keys i r a h1 h2).same h.sub).sq
theorem Px.free(h:Px P w K H J pa aD as)(hp:H p=none):J p=none:=h.sub.free hp
theorem Px.ext(h:Px P w K H J pa aD as)(e:bB H H'):∃J',Px P w K H' J' pa aD as/\bB J J':=by
 have sJ:bB J (fun b=>if b=pa then none else H' b):=fun b o hb=>by
  have lL:b≠pa:=fun z=>by rw[z,h.no]at hb;cases hb
  show(if b=pa then none else H' b)=some o;rw[aH lL];exact e _ _ (h.sub _ _ hb)
 refine⟨fun b=>if b=pa then none else H' b,⟨?_,aL rfl,h.len,h.few,h.lo,fun i r a h1 h2=>(h.keys i r a h1 h2).same sJ⟩,sJ⟩
 funext b
 by_cases hb:b=pa
 ·subst hb;rw[zB];exact e _ _ h.at
 ·rw[zJ hb];exact(aH hb).symm
theorem Px.tup{p:Addr}{vs:List V}(h:Px P w K H J pa aD as)(hp:H p=some (.tup vs)):J p=some (.tup vs):=by
 have hn:p≠pa:=fun z=>by rw[z,h.at]at hp;cases hp
 rw[h.eq,zJ hn]at hp;exact hp
theorem Px.new(h:Px P w K H J pa aD as)(hp:H p=none)(o:HO):Px P w K (upd H p o) (upd J p o) pa aD as:=by
 have lL:p≠pa:=fun z=>by rw[z,h.at]at hp;cases hp
 refine⟨?_,by rw[zJ (cJ lL)];exact h.no,h.len,h.few,h.lo,fun i r a h1 h2=>(h.keys i r a h1 h2).same (zD (h.free hp) o)⟩;rw[h.eq]
 funext b
 by_cases h1:b=p
 ·subst h1;rw[zB,zJ lL,zB]
 ·rw[zJ h1];by_cases h2:b=pa
  ·subst h2;rw[zB,zB]
  ·rw[zJ h2,zJ h2,zJ h1]
end
theorem HP(r:Rw):(jT r).map kV=rwV r:=by cases r<;>rfl
def NL(gr:Bool)(aD fin:List Rw):Prop:=(gr=false->fin=aD)/\fin.length<=40
theorem NL.mid{gr:Bool}{mid fin:List Rw}(h1:∃xs,mid=aD++xs)(h2:∃ys,fin=mid++ys)(h:NL gr aD fin):NL gr aD mid/\NL gr mid fin:=by
 obtain⟨xs,rfl⟩:=h1;obtain⟨ys,rfl⟩:=h2;have hl:=h.2;rw[aI]at hl;refine⟨⟨fun hg=>?_,()⟩,fun hg=>?_,h.2⟩
 all_goals
  have :=dH List.length (h.1 hg);rw[aI,aI]at this
 ·have :xs=[]:=lW.mp ();rw[this,cM]
 ·have :ys=[]:=lW.mp ();rw[this,cM]
def Fo(P:Program)(w:World)(K:W.Frag)(gr:Bool)(aD:List Rw)(J:Hp)(pa:Addr)(p:List Rw×Nat)(Q:VK):Prop:=
 NL gr aD p.1/\∀(H' J':Hp)(as':List Addr),bB J J'->Px P w K H' J' pa p.1 as'->Q (.int (p.2:Nat)) H'
inductive LP (P:Program) (w:World) (K:W.Frag) (gr:Bool) (vs:List V) (H:Hp) (Q:VK) (E:XK):Prop
 |mk (pa b:Addr) (J:Hp) (aD:List Rw) (as:List Addr) (r:Rw) (_:vs=[.ref pa,.ref b]) (_:Px P w K H J pa aD as) (_:J b=some (.tup ((jT r).map kV))) (_:Fo P w K gr aD J pa (xN aD r) Q)
inductive OV (vs:List V) (H:Hp) (Q:VK) (E:XK):Prop
 |mk (n:Nat) (e:Bool) (_:vs=[.int n,.int (if e then 1 else 0)]) (_:Q (.int (lQ e n:Nat)) H)
inductive DV (P:Program) (w:World) (K:W.Frag) (gr:Bool) (ff:Addr) (n:Nat) (vs:List V) (H:Hp) (Q:VK) (E:XK):Prop
 |mk (pa:Addr) (v:V) (J:Hp) (aD:List Rw) (as:List Addr) (t:Tm) (_:vs=[.ref ff,.ref pa,v]) (_:Px P w K H J pa aD as) (_:fP J t v) (_:sM n t) (_:Fo P w K gr aD J pa (eM t aD) Q)
inductive spJn (P:Program) (w:World) (K:W.Frag) (gr:Bool) (ff:Addr) (n:Nat) (vs:List V) (H:Hp) (Q:VK) (E:XK):Prop
 |mk (pa ta:Addr) (us:List V) (J:Hp) (aD:List Rw) (as:List Addr) (e:Bool) (ts:List Tm) (_:vs=[.ref ff,.ref pa,.ref ta]) (_:Px P w K H J pa aD as) (_:J ta=some (.tup (.str (if e then"either" else"both")::us))) (_:dQ J ts us) (_:(∀t∈ts,sM n t)) (_:ts≠[]) (_:Fo P w K gr aD J pa ((jG e ts aD).1,lQ e (jG e ts aD).2) Q)
section
variable {ff:Addr} {k:Nat} {gr:Bool}
theorem ME(bi:Bi mg)(F:gS K "turned" "turned" s_N f fd):dI P w K mg base fY 1 f fd ["n","turn"] OV:=by
 refine F.okz sc_N fun fL A outer s H vs Q E hr h=>?_
 obtain⟨n,e,rfl,q⟩:=h;refine⟨_,(zG (zO (uV (zQ ER (pv 0) uC (zU _)) uC (zL kX (pv 0) (pv 1))))),?_⟩;dsimp![];rw[aH (fun z=>by cases z),av];exact q
theorem MG(g_MOST_ROWS:Gc mg "MOST_ROWS" (.int 40))(bi:Bi mg)(F:gS K "put_in" "put_in" l8 f fd):dI P w K mg base fY 1 f fd ["places","row"] (LP P w K true):=by
 refine F.okz sc_ab fun fL A outer s H vs Q E hr h=>?_
 obtain⟨pa,b,J,aD,as,r,rfl,px,hb,hfi,q⟩:=h;refine⟨_,(zF (yI (zQ (MC (xU hr)) (pv 1) (pv 0) (by with_unfolding_all rfl)) (zF (yI (zQ xG (yC QJ rfl bi.len yX (zA (pv 0) zC)) (jd g_MOST_ROWS rfl) (zU _)) (zG AD) zW) (zG (RI (xU hr) (pv 0) (pv 1) (yC QJ rfl bi.len yX (zA (pv 0) zC)) rfl))) zW) (zG (zO (zL xQ zE (RQ (xU hr) (pv 0) (pv 1) (fun _ _=>rfl)))))),?_⟩;refine zH fun N hN=>?_
 dsimp![rNiX];have hfew:=px.few;refine⟨_,px.dx,jT r,dN.of (px.sub _ _ hb),?_⟩;rw[kA r aD as 0 px.len];have fin:∀(rows':List Rw)(as':List Addr)(G:Hp)(k:Nat),Px P w K G J pa rows' as'->oP rows' r=some k->Q (.int ((2*k:Nat):Int)) G->N [some (V.ref pa),some (V.ref b)] G:=fun rows' as' G k px' hk q'=>hN _ _ (by
  dsimp![tDGX];refine⟨_,px'.dx,jT r,dN.of (px'.sub _ _ hb),V.int ((0+k:Nat):Int),by rw[kA r rows' as' 0 px'.len,hk];rfl,?_⟩;refine⟨_,rfl,.inl ⟨(),()⟩,?_⟩;rw[show(2:Int)*((0+k:Nat):Int)=((2*k:Nat):Int) by lia];exact q')
 unfold xN at q hfi;cases c:oP aD r with
 |some k=>
  rw[c]at q hfi;rw[aH (show¬((Option.map (fun i:Nat=>V.int ((0+i:Nat):Int)) (some k)).isSome=false)from fun z=>by cases z)];exact fin aD as H k px c (q H J as (bB.refl _) px)
 |none=>
  rw[c]at q hfi;rw[aL (show(Option.map (fun i:Nat=>V.int ((0+i:Nat):Int)) none).isSome=false from rfl)];refine⟨_,px.dx,rfl,?_⟩;rw[kC _ _ _ px.len];have h40:=hfi.2;rw[show(aD++[r]).length=aD.length+1 by rw[aI];rfl]at h40
  ·rw[aH ()];dsimp![sDPX];refine⟨_,px.dx,_,px.dx,jT r,dN.of (px.sub _ _ hb),by rw[kA r aD as 0 px.len,c];rfl,?_⟩;have px2:Px P w K (upd H pa (DF P w pa (pX aD as 0++[(jT r,b,V.int ((pX aD as 0).length:Nat))]))) J pa (aD++[r]) (as++[b]):=by
    refine⟨?_,px.no,by rw[aI,aI,px.len];rfl,by rw[aI,cC];lia,px.lo,fun i q a h1 h2=>?_⟩
    ·rw[AE r b aD as 0 px.len,kC _ _ _ px.len,iE,px.eq,YD]
    ·by_cases hi:i<aD.length
     ·rw[bC hi]at h1;rw[bC (by rw[px.len];exact hi)]at h2;exact px.keys i q a h1 h2
     ·have hi2:=(aC.mp h1).1;rw[aI,cC]at hi2;have ei:i=aD.length:=by lia
      subst ei;rw[bL (aG _),fM]at h1;rw[bL (by rw[px.len];exact aG _),px.len,fM]at h2;cases h1;cases h2;exact .inl hb
   exact fin _ _ _ _ px2 (XB c) (q _ J _ (bB.refl _) px2)
theorem SF(bi:Bi mg)(F:gS K "found" "found" lu f fd):dI P w K mg base fY 1 f fd ["places","row"] (LP P w K false):=by
 refine F.okz i8 fun fL A outer s H vs Q E hr h=>?_
 obtain⟨pa,b,J,aD,as,r,rfl,px,hb,hfi,q⟩:=h;refine⟨_,(zF (yD 2 i8.nd (de (xU hr) (pv 0) (pv 1) ⟨rfl,rfl,rfl,rfl⟩)) (zG (zO (uV (zQ ER (pv 2) uC (zU _)) uC (zL xQ zE (pv 2)))))),?_⟩;refine zH fun N hN=>?_
 dsimp![OO];refine⟨_,px.dx,_,px.dx,jT r,dN.of (px.sub _ _ hb),hN _ _ ?_⟩;clear hN;rw[kA r aD as 0 px.len];dsimp![];unfold xN at q hfi;cases c:oP aD r with
 |none=>
  rw[c]at hfi;have :=dH List.length (hfi.1 rfl);rw[aI,cC]at this;lia
 |some k=>
  rw[c]at q;rw[aH (fun z=>by cases z)];refine⟨_,rfl,.inl ⟨(),()⟩,?_⟩;rw[show(2:Int)*((0+k:Nat):Int)=((2*k:Nat):Int) by lia];exact q H J as (bB.refl _) px
end
section
variable {ff:Addr} {k:Nat} {gr:Bool}
theorem MJ(eX:NK P w K mg base 1 ff ["places","row"] (LP P w K gr))(h_N:gR P w K mg base 1 "turned" ["n","turn"] OV)(h_m:gR P w K mg base (k+1) "number_by" ["row_number","places","t"] (DV P w K gr ff n))(F:gS K "joined_number" "joined_number" s_c f fd):dI P w K mg base fY (k+2) f fd ["row_number","places","t"] (spJn P w K gr ff n):=by
 refine F.okz LU fun fL A outer s H vs Q E hr h=>?_
 obtain⟨pa,ta,us,J,aD,as,e,ts,rfl,px,hta,hts,hf,lL,hfi,q⟩:=h;refine⟨_,(zF (yD 3 LU.nd (uV (zQ (ZA hr.units) (zM zP (pv 2) zE) zR (zU _)) zE zE)) (zF (yD 4 LU.nd (zI h_N hr.m rfl (zA (zI h_m hr.m rfl (zA (pv 0) (zA (pv 1) (zA (zM zP (pv 2) zE) zC)))) (zA (pv 3) zC)))) (zF (yM bM rfl (wK (qE YE (pv 2) (qN zE) vT)) (yF 5 LU.nd) (zF (yD 6 LU.nd (zI h_N hr.m rfl (zA (zI h_m hr.m rfl (zA (pv 0) (zA (pv 1) (zA (pv 5) zC)))) (zA (pv 3) zC)))) (zG (yD 4 LU.nd (AO (i:=0) eX hr.m (zA (pv 1) (zA (zN (zA zR (zA (pv 4) (zA (pv 6) zC)))) zC))))))) (zG (zO (zI h_N hr.m rfl (zA (pv 4) (zA (pv 3) zC)))))))),?_⟩;obtain⟨t0,ts',rfl⟩:∃t0 ts',ts=t0::ts':=by
  cases ts with
  |nil=>exact absurd rfl lL
  |cons t0 ts'=>exact⟨t0,ts',rfl⟩
 obtain⟨u0,us',rfl,hu0,hus⟩:=hts;rw[jG]at q hfi;obtain⟨fi1,fi2⟩:=hfi.mid (kQ t0 aD) (qI e ts' _ _);have hul:us'.length=ts'.length:=by have :=bG.length hus;rwa[aE]at this
 have htaH:=px.sub _ _ hta;refine zH fun N hN=>?_
 dsimp![cr];have cont:N [some (V.ref ff),some (V.ref pa),some (V.ref ta),some (V.int (if e then 1 else 0)),none,none,none] H:=hN _ _ (by
  clear hN;refine zH fun N hN=>?_
  dsimp![];refine⟨_,dN.of htaH,_,yE (j:=1) rfl,pa,u0,J,aD,as,t0,rfl,px,hu0,hf t0 bF,fi1,fun H1 J1 pF s1 px1=>?_⟩;refine⟨_,e,rfl,hN _ _ ?_⟩;clear hN;generalize (eM t0 aD).1=rows1 at px1 q fi2;generalize lQ e (eM t0 aD).2=m1 at q fi2⊢;refine yB (fun σ G=>∃(J':Hp)(as':List Addr)(o5 o6:Option V),bB J J'/\Px P w K G J' pa (jB e ts' rows1 m1).1 as'/\σ=[some (V.ref ff),some (V.ref pa),some (V.ref ta),some (V.int (if e then 1 else 0)),some (V.int ((jB e ts' rows1 m1).2:Nat)),o5,o6]) (fun N hN=>?_) (fun σ G h=>?_)
  ·dsimp![RE];refine⟨_,(s1.trans px1.sub) _ _ hta,fun p H2 s2 kp=>?_⟩;rw[gm]at kp;obtain⟨J2,px2,s2'⟩:=px1.ext s2;have kp2:=px2.tup kp;refine⟨⟨_,dN.of kp⟩,?_⟩;refine pf (xs:=us') (fun i σ G=>∃(J':Hp)(as':List Addr)(rows':List Rw)(mi:Nat)(o5 o6:Option V),bB J2 J'/\Px P w K G J' pa rows' as'/\jB e (ts'.drop i) rows' mi=jB e ts' rows1 m1/\NL gr rows' (jB e ts' rows1 m1).1/\σ=[some (V.ref ff),some (V.ref pa),some (V.ref ta),some (V.int (if e then 1 else 0)),some (V.int (mi:Nat)),o5,o6]) ⟨J2,pF,rows1,m1,_,_,bB.refl _,px2,by rw[rY],fi2,rfl⟩ (fun i σ G _ h=>by obtain⟨_,_,_,_,_,_,sg,pg,_⟩:=h;exact dN.of (pg.sub _ _ (sg _ _ kp2))) (fun i x σ G hx h M hM=>?_) (fun σ G h=>?_)
   ·obtain⟨J3,as3,lG,mi,o5,o6,s3,px3,hb3,fi3,rfl⟩:=h;obtain⟨t,hti,hx'⟩:=jC (f:=HA) hus hx;obtain⟨hil,hie⟩:=aC.mp hti;rw[gF hil,hie,jB]at hb3;have fi4:=fi3;rw[←hb3]at fi4;obtain⟨fi5,fi6⟩:=fi4.mid (mid:=(eM t lG).1) (kQ t lG) (by
     obtain⟨xs,hx⟩:=uR (eM t lG).1 (.bo (mi:Int) (lQ e (eM t lG).2:Nat));obtain⟨ys,hy⟩:=qI e (ts'.drop (i+1)) (xN (eM t lG).1 (.bo (mi:Int) (lQ e (eM t lG).2:Nat))).1 (xN (eM t lG).1 (.bo (mi:Int) (lQ e (eM t lG).2:Nat))).2;exact⟨xs++ys,by rw[←cL,←hx];exact hy⟩)
    obtain⟨fi7,fi8⟩:=fi6.mid (uR _ _) (qI e (ts'.drop (i+1)) (xN (eM t lG).1 (.bo (mi:Int) (lQ e (eM t lG).2:Nat))).1 (xN (eM t lG).1 (.bo (mi:Int) (lQ e (eM t lG).2:Nat))).2);rw[hb3]at fi8;clear fi4 fi6;have sA:=s1.trans (s2'.trans s3);refine zH fun N hN=>?_
    dsimp![];refine⟨pa,x,J3,lG,as3,t,rfl,px3,dW.same sA hx',hf t (bE _ (aX hti)),fi5,fun H4 J4 as4 s4 px4=>?_⟩;refine⟨_,e,rfl,hN _ _ ?_⟩;clear hN;generalize (eM t lG).1=rows4 at px4 hb3 fi7 fi8;generalize lQ e (eM t lG).2=m4 at hb3 fi7 fi8⊢;dsimp![QY];refine⟨small (),fun p2 mU=>?_⟩;have px5:=px4.new mU (.tup [V.str "both",V.int (mi:Int),V.int (m4:Int)]);have s5:=zD (px4.free mU) (.tup [V.str "both",V.int (mi:Int),V.int (m4:Int)]);have k5:upd J4 p2 (.tup [V.str "both",V.int (mi:Int),V.int (m4:Int)]) p2=some (.tup ((jT (.bo (mi:Int) (m4:Int))).map kV)):=zB;refine⟨pa,p2,_,rows4,as4,.bo (mi:Int) (m4:Int),rfl,px5,k5,fi7,fun H6 J6 as6 s6 px6=>?_⟩;exact hM _ _ ⟨J6,as6,_,_,_,_,s3.trans (s4.trans (s5.trans s6)),px6,hb3,fi8,rfl⟩
   ·obtain⟨J3,as3,lG,mi,o5,o6,s3,px3,hb3,fi3,rfl⟩:=h;rw[hul,List.drop_length,jB]at hb3;refine hN _ _ ⟨J3,as3,o5,o6,s1.trans (s2'.trans s3),?_,?_⟩
    ·rw[←hb3];exact px3
    ·rw[←hb3]
  obtain⟨J',as',o5,o6,sJ,px',rfl⟩:=h;dsimp![];exact⟨_,e,rfl,q _ J' as' sJ px'⟩)
 cases e with
 |true=>exact⟨_,dN.of htaH,_,mK,0,.str "either",rfl,.str "either",rfl,trivial,(),by rw[xV,aL rfl];exact cont⟩
 |false=>exact⟨_,dN.of htaH,_,mK,0,.str "both",rfl,.str "either",rfl,trivial,(),by rw[show eU (.str "both") (.str "either")=false from by simp[eU];decide,aH ()];exact cont⟩
theorem MI(eX:NK P w K mg base 1 ff ["places","row"] (LP P w K gr))(h_N:gR P w K mg base 1 "turned" ["n","turn"] OV)(h_m:gR P w K mg base (k+2) "number_by" ["row_number","places","t"] (DV P w K gr ff n))(h_c:gR P w K mg base (k+2) "joined_number" ["row_number","places","t"] (spJn P w K gr ff n))(F:gS K "number_by" "number_by" s_m f fd):dI P w K mg base fY (k+3) f fd ["row_number","places","t"] (DV P w K gr ff (n+1)):=by
 refine F.okz sc_m fun fL A outer s H vs Q E hr h=>?_
 obtain⟨pa,v,J,aD,as,t,rfl,px,hv,hf,hfi,q⟩:=h;refine⟨_,(zF (yI (zQ (ZA hr.units) (zM zP (pv 2) zE) zR (zU _)) (zG (zO zE)) zW) (zF (yI (zQ (ZA hr.units) (zM zP (pv 2) zE) zR (zU _)) (zG (zO zE)) zW) (zF (yI (zQ (ZA hr.units) (zM zP (pv 2) zE) zR (zU _)) (zG (zO (AO (i:=0) eX hr.m (zA (pv 1) (zA (zN (zA zR (zA (zM zP (pv 2) zE) zC))) zC))))) zW) (zF (yI (zQ (ZA hr.units) (zM zP (pv 2) zE) zR (zU _)) (zG (zO (zI h_N hr.m rfl (zA (zI h_m hr rfl (zA (pv 0) (zA (pv 1) (zA (zM zP (pv 2) zE) zC)))) (zA zE zC))))) zW) (zG (zO (zI h_c hr.m rfl (zA (pv 0) (zA (pv 1) (zA (pv 2) zC)))))))))),?_⟩;cases t with
 |name x=>
  obtain⟨a,vs,rfl,ha,u1,r1,rfl,h1,u2,r2,rfl,h2,h3⟩:=hv;have h1:u1=.str "name":=h1;have h2:u2=.str x:=h2;have h3:r2=[]:=h3;subst h1 h2 h3;replace ha:=px.sub _ _ ha;dsimp![cr,QY];rw[eM]at q hfi;refine⟨_,dN.of ha,_,mK,0,.str "name",rfl,.str "none",rfl,trivial,(),?_⟩;rw[VA,aH ()];refine⟨_,dN.of ha,_,mK,0,.str "name",rfl,.str "all",rfl,trivial,(),?_⟩;rw[VA,aH ()];refine⟨_,dN.of ha,_,mK,0,.str "name",rfl,.str "name",rfl,trivial,(),?_⟩;rw[VA,aL ()];refine⟨_,dN.of ha,_,rG,small (),fun p2 mU=>?_⟩;have px5:=px.new mU (.tup [V.str "name",V.str x]);have s5:=zD (px.free mU) (.tup [V.str "name",V.str x]);have k5:upd J p2 (.tup [V.str "name",V.str x]) p2=some (.tup ((jT (.nm x)).map kV)):=zB;exact⟨pa,p2,_,aD,as,.nm x,rfl,px5,k5,hfi,fun H6 J6 as6 s6 px6=>q H6 J6 as6 (s5.trans s6) px6⟩
 |node wd ts=>
  obtain⟨a,vs,rfl,ha,u1,us,rfl,h1,hus⟩:=hv;have h1:u1=.str wd:=h1;subst h1;obtain⟨hs,hfs⟩:=hf.node;have haH:=px.sub _ _ ha;have step:∀{c:Str}{A B:Prop},(wd=c->A)->(wd≠c->B)->∃x,dN K H a x/\∃x_1,oU x 0=some x_1/\∃n_1 d,dW H d x_1/\∃x,dW H x (V.str c)/\ZL (n_1+1) d/\n_1<=60/\if eU d x=true then A else B:=fun{c A B} h1 h2=>by
   refine⟨_,dN.of haH,_,mK,0,.str wd,rfl,.str c,rfl,trivial,(),?_⟩;rw[VA];by_cases e:wd=c
   ·rw[aL (eC e)];exact h1 e
   ·rw[aH (by simp[e])];exact h2 e
  dsimp![cr,QY];rw[eM]at q hfi;refine step (fun e=>?_) (fun e1=>step (fun e=>?_) (fun e2=>step (fun e=>?_) (fun e3=>step (fun e=>?_) (fun e4=>?_))))
  ·rw[aL e]at q;exact q H J as (bB.refl _) px
  ·rw[aH e1,aL e]at q;exact q H J as (bB.refl _) px
  ·subst e;rcases hs with h |h |h |h |h<;>exact absurd h.1 ()
  ·subst e;rw[aH e1,aH e2,aL rfl]at q hfi;have hl:ts.length=1:=by
    rcases hs with h |h |h |h |h
    ·exact absurd h.1 ()
    ·exact absurd h.1 ()
    ·exact h.2
    ·exact absurd h.1 ()
    ·exact absurd h.1 ()
   obtain⟨t,rfl⟩:∃t,ts=[t]:=by
    cases ts with
    |nil=>simp at hl
    |cons t r=>
     cases r with
     |nil=>exact⟨t,rfl⟩
     |cons _ _=>simp at hl
   obtain⟨u,r,rfl,hu,_⟩:=hus;rw[jG,jB]at q hfi;exact⟨_,dN.of haH,_,yE (j:=1) rfl,pa,u,J,aD,as,t,rfl,px,hu,hfs t bF,hfi,fun H6 J6 as6 s6 px6=>⟨_,true,rfl,q H6 J6 as6 s6 px6⟩⟩
  ·rw[aH e1,aH e2,aH e4]at q hfi;refine⟨pa,a,us,J,aD,as,decide (wd="either"),ts,rfl,px,?_,(by rw[YV]at hus;exact hus),hfs,fun z=>?_,hfi,q⟩
   ·rw[ha];rcases hs with h |h |h |h |h
    ·exact absurd h.1 e1
    ·exact absurd h.1 e2
    ·exact absurd h.1 e4
    ·rw[h.1];rfl
    ·rw[h.1];rfl
   ·subst z;rcases hs with h |h |h |h |h
    ·exact absurd h.1 e1
    ·exact absurd h.1 e2
    ·exact absurd h.1 e4
    ·exact absurd h.2 ()
    ·exact absurd h.2 ()
theorem EV(F:gS K "number_by" "number_by" s_m f fd)(eX:NK P w K mg base 1 ff ["places","row"] (LP P w K gr))(h_N:gR P w K mg base 1 "turned" ["n","turn"] OV):dI P w K mg base fY 1 f fd ["row_number","places","t"] (DV P w K gr ff 0):=by
 refine F.okz sc_m fun fL A outer s H vs Q E hr h=>?_
 ·obtain⟨pa,v,J,aD,as,t,rfl,px,hv,hf,_⟩:=h;exact hf.elim
theorem wP{g:Addr}{gd:FuncData}(eX:NK P w K mg base 1 ff ["places","row"] (LP P w K gr))(h_N:gR P w K mg base 1 "turned" ["n","turn"] OV)(F:gS K "number_by" "number_by" s_m f fd)(b:Binds K fd ["row_number","places","t"] [])(m:mg "number_by"=some (.ref f))(G:gS K "joined_number" "joined_number" s_c g gd)(bg:Binds K gd ["row_number","places","t"] [])(mgg:mg "joined_number"=some (.ref g)):∀n,gR P w K mg base (2*n+2) "number_by" ["row_number","places","t"] (DV P w K gr ff n)
 |0=>(zT F (EV F eX h_N) b m).mono ()
 |n+1=>by
  have ih:=wP eX h_N F b m G bg mgg n;have hj:=zT G (MJ (k:=2*n+1) eX h_N ih G) bg mgg;exact zT F (MI (k:=2*n+1) eX h_N (ih.mono ()) hj F) b m
end
abbrev s_Q:Stmt:=top 25
theorem lm:bZ ["terms","places","t"] ["terms"] (zK s_Q):=by rfl'
def uL:List Tm->List Rw->List Rw
 |[],aD=>aD
 |t::ts,aD=>uL ts (eM t aD).1
theorem JD:∀(ts:List Tm)(aD:List Rw),∃xs,uL ts aD=aD++xs
 |[],aD=>⟨[],(cM _).symm⟩
 |t::ts,aD=>by
  obtain⟨xs,hx⟩:=kQ t aD;obtain⟨ys,hy⟩:=JD ts (eM t aD).1;exact⟨xs++ys,by rw[uL,hy,hx,cL]⟩
inductive spSo (K:W.Frag) (vs:List V) (H:Hp) (Q:VK) (E:XK):Prop
 |mk (ta:Addr) (us:List V) (ts:List Tm) (_:vs=[.ref ta]) (_:H ta=some (.lst us)) (_:dQ H ts us) (_:(∀t∈ts,sM 21 t)) (_:(uL ts [.no]).length<=40) (_:∀(p:Addr)(ws:List V)(H':Hp),bB H H'->H' p=some (.lst ws)->gC K H' (uL ts [.no]) ws->Q (.ref p) H')
theorem PQ{K:W.Frag}{H:Hp}:∀(aD:List Rw)(as:List Addr),as.length=aD.length->(∀(i:Nat)(r:Rw)(a:Addr),aD[i]?=some r->as[i]?=some a->Tw K H a ((jT r).map kV))->gC K H aD (as.map V.ref)
 |[],[],_,_=>rfl
 |[],_::_,h,_=>by cases h
 |_::_,[],h,_=>by cases h
 |r::aD,a::as,h,hk=>⟨_,_,rfl,⟨a,rfl,by rw[←HP];exact hk 0 r a rfl rfl⟩,PQ aD as (mF h) fun i r' a' h1 h2=>hk (i+1) r' a' h1 h2⟩
section
variable {ff aN:Addr}
theorem AY(g_NONE_ROW:Gc mg "NONE_ROW" (.ref aN))(hNo:∀H,Tw K H aN [.str "none"])(mf_put_in:mg "put_in"=some (.ref ff))(bi:Bi mg)(h_m:gR P w K mg base 44 "number_by" ["row_number","places","t"] (DV P w K true ff 21))(F:gS K "sheet_of" "sheet_of" s_Q f fd):dI P w K mg base fY 45 f fd ["terms"] (spSo K):=by
 refine F.okz lm fun fL A outer s H vs Q E hr h=>?_
 obtain⟨ta,us,ts,rfl,hta,hts,hf,hb40,q⟩:=h;have hul:us.length=ts.length:=by have :=bG.length hts;rwa[aE]at this
 refine⟨_,(zF (yD 1 lm.nd (RP (xU hr) (jd g_NONE_ROW rfl) zE)) (zF (yM bM rfl (yG (pv 0)) (yF 2 lm.nd) (zG (zX (zI h_m hr.m rfl (zA (EK mf_put_in rfl) (zA (pv 1) (zA (pv 2) zC))))))) (zG (zO (RN rfl bi.list rfl (pv 1)))))),?_⟩;refine zH fun N hN=>?_
 dsimp![tDX1];refine fun pa hpa hlo=>⟨jT .no,(hNo _).sq,zB,hN _ _ ?_⟩
 clear hN;have px0:Px P w K (upd (upd H pa (DF P w pa [])) pa (DF P w pa [(jT .no,aN,V.int 0)])) H pa [.no] [aN]:=by
  refine⟨by rw[YD];rfl,hpa,rfl,(),hlo,fun i r a h1 h2=>?_⟩;cases i with
  |zero=>cases h1;cases h2;exact hNo _
  |succ i=>cases h1
 generalize upd (upd H pa (DF P w pa [])) pa (DF P w pa [(jT .no,aN,V.int 0)])=H0 at px0⊢;refine yB (fun σ G=>∃(J:Hp)(as:List Addr)(o2:Option V),bB H J/\Px P w K G J pa (uL ts [.no]) as/\σ=[some (V.ref ta),some (V.ref pa),o2]) (fun N hN=>?_) (fun σ G h=>?_)
 ·dsimp![];refine⟨⟨_,dL.of (px0.sub _ _ hta)⟩,?_⟩;refine jD (xs:=us) (fun i σ G=>∃(J:Hp)(as:List Addr)(aD:List Rw)(o2:Option V),bB H J/\Px P w K G J pa aD as/\uL (ts.drop i) aD=uL ts [.no]/\σ=[some (V.ref ta),some (V.ref pa),o2]) ⟨H,_,_,_,bB.refl _,px0,by rw[rY],rfl⟩ (fun i σ G _ h=>by obtain⟨_,_,_,_,sg,pg,_⟩:=h;exact dL.of (pg.sub _ _ (sg _ _ hta))) (fun i x σ G hx h M hM=>?_) (fun σ G h=>?_)
  ·obtain⟨J,as,aD,o2,sJ,px,hb,rfl⟩:=h;obtain⟨t,hti,hx'⟩:=jC (f:=HA) hts hx;obtain⟨hil,hie⟩:=aC.mp hti;rw[gF hil,hie,uL]at hb;dsimp![];refine⟨pa,x,J,aD,as,t,rfl,px,dW.same sJ hx',hf t (aX hti),⟨(fun z=>by cases z),by obtain⟨ys,hy⟩:=JD (ts.drop (i+1)) (eM t aD).1;rw[←hb,hy,aI]at hb40;lia⟩,fun H1 J1 pF s1 px1=>?_⟩;exact hM _ _ ⟨J1,pF,_,_,sJ.trans s1,px1,hb,rfl⟩
  ·obtain⟨J,as,aD,o2,sJ,px,hb,rfl⟩:=h;rw[hul,List.drop_length,uL]at hb;exact hN _ _ ⟨J,as,o2,sJ,by rw[←hb];exact px,rfl⟩
 obtain⟨J,as,o2,sJ,px,rfl⟩:=h;dsimp![tLX];refine⟨_,px.dx,fun l hl=>?_⟩;rw[AF _ _ _ px.len];have sl:=zD hl (.lst (as.map V.ref));exact q l _ _ (sJ.trans (px.sub.trans sl)) zB (PQ _ _ px.len fun i r a h1 h2=>(px.keys i r a h1 h2).same (px.sub.trans sl))
end
abbrev s_K:Stmt:=top 13
theorem b6:bZ ["book","saying","terms","rule","premise"] ["book","saying"] (zK s_K):=by rfl'
abbrev mR:=List (Tm×Tm)×(Tm×Tm)
def pE(p:Tm×Tm):List Tm:=[p.1,p.2]
def uN(ps:List (Tm×Tm)):List Tm:=ps.flatMap pE
def WW(r:mR):List Tm:=uN r.1++pE r.2
def oV(rs:List mR):List Tm:=rs.flatMap WW
theorem LM{ps:List (Tm×Tm)}{p:Tm×Tm}(h:ps[i]?=some p):uN (ps.take (i+1))=uN (ps.take i)++pE p:=by
 obtain⟨il,ie⟩:=aC.mp h;unfold uN;rw[aM il,ie,hV];simp
theorem tN{rs:List mR}(h:rs[i]?=some r):oV (rs.take (i+1))=oV (rs.take i)++WW r:=by
 obtain⟨il,ie⟩:=aC.mp h;unfold oV;rw[aM il,ie,hV];simp
theorem LN(rs:List mR)(i:Nat):(oV (rs.take i)).length<=(oV rs).length:=by
 have :oV rs=oV (rs.take i)++oV (rs.drop i):=by
  unfold oV;rw[←hV,dM]
 rw[this,aI];lia
theorem DS(ps:List (Tm×Tm))(i:Nat):(uN (ps.take i)).length<=(uN ps).length:=by
 have :uN ps=uN (ps.take i)++uN (ps.drop i):=by
  unfold uN;rw[←hV,dM]
 rw[this,aI];lia
abbrev iA(H:Hp)(rs:List mR)(vs:List V):Prop:=bG H (rs.map VP) vs
theorem iA.length{rs:List mR}{vs:List V}(h:iA H rs vs):vs.length=rs.length:=by
 have :=bG.length h;rw[aE]at this;exact this
theorem iA.getV{rs:List mR}{vs:List V}(h:iA H rs vs)(hv:vs[i]?=some v):∃r,rs[i]?=some r/\WI H r v:=by
 have hi:i<rs.length:=by rw[←h.length];exact(aC.mp hv).1
 obtain⟨u,h1,h2⟩:=bG.get (d:=VP rs[i]) h (by rw[aK,aA hi];rfl);rw[hv]at h1;cases h1;exact⟨_,aA hi,h2⟩
theorem oE.two{p:Tm×Tm}(h:oE H p v):∃a us,v=.ref a/\H a=some (.tup us)/\dQ H (pE p) us/\us.length=2:=by
 obtain⟨a,v1,v2,e1,e2,e3,e4⟩:=oE.out h;exact⟨a,_,e1,e2,⟨v1,_,rfl,e3,v2,_,rfl,e4,rfl⟩,rfl⟩
theorem wW{o:HO}(e:bB H H')(hp:H p=none):bB H (upd H' p o):=e.upd hp
inductive spTI (vs:List V) (H:Hp) (Q:VK) (E:XK):Prop
 |mk (a:Addr) (sv:V) (bs:List V) (rs:List mR) (s:Tm×Tm) (_:vs=[.ref a,sv]) (_:H a=some (.lst bs)) (_:iA H rs bs) (_:oE H s sv) (_:(oV rs).length<=1000) (_:∀p us H',bB H H'->H' p=some (.lst us)->dQ H' (oV rs++pE s) us->Q (.ref p) H')
theorem AW(bi:Bi mg)(F:gS K "terms_in" "terms_in" s_K f fd):dI P w K mg base fY 1 f fd ["book","saying"] spTI:=by
 refine F.okz b6 fun fL A outer s H vs Q E hr h=>?_
 obtain⟨a,sv,bs,rs,s,rfl,ha,lY,hs,hz,q⟩:=h;have hbl:=lY.length;refine⟨_,(zF (yD 2 b6.nd (yV zC)) (zF (yM bM rfl (yG (pv 0)) (yF 3 b6.nd) (zF (yM bM rfl (yG (zM zP (pv 3) zE)) (yF 4 b6.nd) (zG (zX (jS bW gU lI wM (pv 2) (zA (pv 4) zC))))) (zG (zX (jS bW gU lI wM (pv 2) (zA (zM zP (pv 3) zE) zC)))))) (zF (zX (jS bW gU lI wM (pv 2) (zA (pv 1) zC))) (zG (zO (pv 2)))))),?_⟩;refine zH fun N hN=>?_
 dsimp![];refine⟨small (),fun p hp=>hN _ _ ?_⟩;refine yB (fun σ H'=>bB H H'/\(∃us,H' p=some (.lst us)/\dQ H (oV rs) us)/\∃o1 o2,σ=[some (V.ref a),some sv,some (V.ref p),o1,o2]) (fun N hN=>?_) (fun σ H' h=>?_)
 ·dsimp![];refine⟨⟨_,dL.of (zD hp _ _ _ ha)⟩,?_⟩;refine jD (xs:=bs) (fun i σ H'=>bB H H'/\(∃us,H' p=some (.lst us)/\dQ H (oV (rs.take i)) us)/\∃o1 o2,σ=[some (V.ref a),some sv,some (V.ref p),o1,o2]) ?_ (fun i σ H' _ h=>dL.of (h.1 _ _ ha)) (fun i x σ H' hx h M hM=>?_) (fun σ H' h=>?_)
  ·exact⟨zD hp _,⟨[],zB,rfl⟩,_,_,rfl⟩
  ·obtain⟨es,⟨us,hus,hut⟩,o1,o2,rfl⟩:=h;obtain⟨r,hri,hx'⟩:=lY.getV hx;obtain⟨ra,l,sv2,vs,rfl,hra,hl,hps,hs2⟩:=WI.out hx';have hln:vs.length=r.1.length:=pO.length hps;have hb1:=LN rs (i+1);rw[tN hri,aI]at hb1;have hb2:(WW r).length=(uN r.1).length+2:=by unfold WW;rw[aI];rfl
   show ON _ _ _ _ _;refine yB (fun σ H'=>bB H H'/\(∃us,H' p=some (.lst us)/\dQ H (oV (rs.take i)++uN r.1) us)/\∃o2,σ=[some (V.ref a),some sv,some (V.ref p),some (V.ref ra),o2]) (fun N hN=>?_) (fun σ H' h=>?_)
   ·dsimp![];refine⟨_,dN.of (es _ _ hra),.ref l,mK,_,rfl,⟨_,dL.of (es _ _ hl)⟩,?_⟩;refine jD (xs:=vs) (fun j σ H'=>bB H H'/\(∃us,H' p=some (.lst us)/\dQ H (oV (rs.take i)++uN (r.1.take j)) us)/\∃o2,σ=[some (V.ref a),some sv,some (V.ref p),some (V.ref ra),o2]) ?_ (fun j σ H' _ h=>dL.of (h.1 _ _ hl)) (fun j y σ H' hy h M2 hM2=>?_) (fun σ H' h=>?_)
    ·exact⟨es,⟨us,hus,by simpa[uN]using hut⟩,_,rfl⟩
    ·obtain⟨es,⟨us,hus,hut⟩,o2,rfl⟩:=h;obtain⟨pr,hpi,hy'⟩:=pO.getV hps hy;obtain⟨sa,ws,rfl,hsa,hws,hw2⟩:=oE.two hy';have hlu:=hut.length;have hb3:=DS r.1 j;rw[aI]at hlu;dsimp![wY];refine⟨.inl ⟨rfl,_,dL.of hus⟩,_,hus,_,dN.of (es _ _ hsa),cP (m:=1000000) () (),?_⟩;refine hM2 _ _ ⟨wW es hp,⟨_,zB,?_⟩,_,rfl⟩;rw[LM hpi,←cL];exact dQ.append hut hws
    ·obtain⟨es,⟨us,hus,hut⟩,o2,rfl⟩:=h;rw[show r.1.take vs.length=r.1 from aS ()]at hut;exact hN _ _ ⟨es,⟨us,hus,hut⟩,_,rfl⟩
   ·obtain⟨es,⟨us,hus,hut⟩,o2,rfl⟩:=h;obtain⟨sa,ws,rfl,hsa,hws,hw2⟩:=oE.two hs2;have hlu:=hut.length;rw[aI]at hlu;dsimp![wY];refine⟨.inl ⟨rfl,_,dL.of hus⟩,_,dN.of (es _ _ hra),.ref sa,rG,sa,rfl,_,hus,_,dN.of (es _ _ hsa),cP (m:=1000000) () (),?_⟩;refine hM _ _ ⟨wW es hp,⟨_,zB,?_⟩,_,_,rfl⟩;rw[tN hri];unfold WW;rw[←cL];exact dQ.append hut hws
  ·obtain⟨es,⟨us,hus,hut⟩,o1,o2,rfl⟩:=h;rw[aS ()]at hut;exact hN _ _ ⟨es,⟨us,hus,hut⟩,_,_,rfl⟩
 ·obtain⟨es,⟨us,hus,hut⟩,o1,o2,rfl⟩:=h;obtain⟨sa,ws,rfl,hsa,hws,hw2⟩:=oE.two hs;have hlu:=hut.length;refine zH fun N hN=>?_
  dsimp![wY];refine⟨.inl ⟨rfl,_,dL.of hus⟩,_,hus,_,dN.of (es _ _ hsa),cP (m:=1000000) () (),hN _ _ ?_⟩;dsimp![];exact q p _ _ (wW es hp) zB (bG.same (wW es hp) (dQ.append hut hws))
abbrev s_X:Stmt:=top 26
theorem sc_X:bZ ["places","saying"] ["places","saying"] (zK s_X):=by rfl'
abbrev s_r:Stmt:=top 27
theorem sc_r:bZ ["places","rule"] ["places","rule"] (zK s_r):=by rfl'
abbrev s_R:Stmt:=top 28
theorem sc_R:bZ ["sheet","book","places"] ["sheet","book"] (zK s_R):=by rfl'
theorem HN{K:W.Frag}{H:Hp}:∀(aD:List Rw)(us:List V),gC K H aD us->∃as:List Addr,us=as.map V.ref/\as.length=aD.length/\∀(i:Nat)(r:Rw)(a:Addr),aD[i]?=some r->as[i]?=some a->Tw K H a ((jT r).map kV)
 |[],us,h=>⟨[],h,rfl,fun i r a h=>by simp at h⟩
 |r::aD,us,⟨v,vs,e1,⟨a,e2,e3⟩,e4⟩=>by
  obtain⟨as,g1,g2,g3⟩:=HN aD vs e4;subst e1 e2 g1;refine⟨a::as,rfl,dH (· +1) g2,fun i r' a' h1 h2=>?_⟩;cases i with
  |zero=>cases h1;cases h2;rw[HP];exact e3
  |succ i=>exact g3 i r' a' (by simpa using h1) (by simpa using h2)
theorem IC:∀(aD:List Rw)(as:List Addr)(k i:Nat)(x:XE),(pX aD as k)[i]?=some x->∃r a,aD[i]?=some r/\as[i]?=some a/\x=(jT r,a,V.int ((k+i:Nat):Int))
 |[],_,_,_,_,h=>by unfold pX at h;simp at h
 |_::_,[],_,_,_,h=>by unfold pX at h;simp at h
 |r::aD,a::as,k,0,x,h=>by cases h;exact⟨r,a,rfl,rfl,rfl⟩
 |r::aD,a::as,k,i+1,x,h=>by
  obtain⟨r',a',h1,h2,h3⟩:=IC aD as (k+1) i x (by simpa[pX]using h);exact⟨r',a',by simpa using h1,by simpa using h2,by rw[h3,show k+1+i=k+(i+1) by lia]⟩
theorem AG:∀(aD:List Rw)(as:List Addr)(k:Nat),as.length=aD.length->(pX aD as k).map (·.1)=aD.map jT
 |[],[],_,_=>rfl
 |[],_::_,_,h=>by cases h
 |_::_,[],_,h=>by cases h
 |q::aD,a::as,k,h=>dH (jT q:: ·) (AG aD as (k+1) (mF h))
inductive ko (P:Program) (w:World) (K:W.Frag) (vs:List V) (H:Hp) (Q:VK) (E:XK):Prop
 |mk (sa:Addr) (us:List V) (aD:List Rw) (_:vs=[.ref sa]) (_:H sa=some (.lst us)) (_:gC K H aD us) (_:aD.Nodup) (_:aD.length<=40) (_:∀pa as J H',bB H J->Px P w K H' J pa aD as->Q (.ref pa) H')
def nS(aD:List Rw)(s:Tm×Tm):Pr:=(((eM s.1 aD).2:Nat),((eM s.2 aD).2:Nat))
def nR(aD:List Rw)(r:List (Tm×Tm)×(Tm×Tm)):xM:=(r.1.map (nS aD),nS aD r.2)
def ir(aD:List Rw)(t:Tm):Prop:=fX 20 t/\(eM t aD).1=aD
def iu(aD:List Rw)(s:Tm×Tm):Prop:=ir aD s.1/\ir aD s.2
def GdR(aD:List Rw)(r:List (Tm×Tm)×(Tm×Tm)):Prop:=r.1.length<=5/\(∀s∈r.1,iu aD s)/\iu aD r.2
inductive kq (P:Program) (w:World) (K:W.Frag) (vs:List V) (H:Hp) (Q:VK) (E:XK):Prop
 |mk (pa:Addr) (v:V) (aD:List Rw) (as:List Addr) (s:Tm×Tm) (J:Hp) (_:vs=[.ref pa,v]) (_:Px P w K H J pa aD as) (_:oE J s v) (_:iu aD s) (_:∀p J' H' as',bB J J'->Px P w K H' J' pa aD as'->J' p=some (.tup [.int (nS aD s).1,.int (nS aD s).2])->Q (.ref p) H')
inductive spNr (P:Program) (w:World) (K:W.Frag) (vs:List V) (H:Hp) (Q:VK) (E:XK):Prop
 |mk (pa:Addr) (v:V) (aD:List Rw) (as:List Addr) (r:List (Tm×Tm)×(Tm×Tm)) (J:Hp) (_:vs=[.ref pa,v]) (_:Px P w K H J pa aD as) (_:WI J r v) (_:GdR aD r) (_:∀v' J' H' as',bB J J'->Px P w K H' J' pa aD as'->dW J' (af (nR aD r)) v'->Q v' H')
inductive spNm (K:W.Frag) (vs:List V) (H:Hp) (Q:VK) (E:XK):Prop
 |mk (sa ba:Addr) (us bs:List V) (aD:List Rw) (b:List (List (Tm×Tm)×(Tm×Tm))) (_:vs=[.ref sa,.ref ba]) (_:H sa=some (.lst us)) (_:gC K H aD us) (_:aD.Nodup) (_:aD.length<=40) (_:H ba=some (.lst bs)) (_:iA H b bs) (_:b.length<=100) (_:(∀r∈b,GdR aD r)) (_:∀p ws H',bB H H'->H' p=some (.lst ws)->bG H' ((b.map (nR aD)).map af) ws->Q (.ref p) H')
section
variable {ff:Addr}
theorem MH(bi:Bi mg)(be:mg "enumerate"=none)(F:gS K "places_of" "places_of" s_G f fd):dI P w K mg base fY 1 f fd ["sheet"] (ko P w K):=by
 refine F.okz sc_G fun fL A outer s H vs Q E hr h=>?_
 obtain⟨sa,us,aD,rfl,hsa,hrw,lD,hrl,q⟩:=h;obtain⟨bs,rfl,hbl,hbk⟩:=HN _ _ hrw;refine⟨_,(zG (zO (xO (CL (TQ hr)) rfl bi.dict YS (zA (yU ["k","row"] [] [] (jN rfl be (zA (pv 0) zC)) (fun _ _ _ _ nd=>qO (K:=K) (n:=2) rfl (zY (yF 0 nd) (zY (yF 1 nd) xH))) (fun _ _ _ _=>xE) (fun _ _ _ _=>(zN (zA (pv 1) (zA (pv 0) zC))))) zC)))),?_⟩;dsimp![vF];refine⟨_,hsa,?_⟩;refine IS (xs:=bs.map V.ref) (fun i ys σ H'=>bB H H'/\(∃as:List Addr,ys=as.map V.ref/\as.length=i/\∀(j:Nat)(a b:Addr),as[j]?=some a->bs[j]?=some b->H' a=some (.tup [.ref b,.int (j:Nat)]))/\∃o1 o2,σ=[o1,o2]) ⟨bB.refl _,⟨[],rfl,rfl,fun j a r h=>by simp at h⟩,_,_,rfl⟩ (small (by rw[aE];lia)) (fun i ys σ H' e=>?_) (fun i ys σ H' e=>e.1 _ _ hsa) (fun i x ys σ H' p C hx e hp hC=>?_) (fun ys σ H' e p hp=>?_)
 ·obtain⟨_,⟨as,rfl,h1,_⟩,_⟩:=e;rw[aE,h1];exact aG _
 ·obtain⟨es,⟨as,rfl,h1,h3⟩,o1,o2,rfl⟩:=e;rw[aK]at hx;obtain⟨b,hb,rfl⟩:=aO.mp hx;have e1:=zD hp (.tup [V.int i,V.ref b]);dsimp![vI,jU,wC];refine⟨_,dN.of zB,rfl,_,_,rfl,_,_,rfl,rfl,?_⟩;generalize upd H' p (.tup [V.int i,V.ref b])=H1 at e1⊢;refine⟨small (),fun a' ha'=>hC _ _ _ ?_⟩;have e2:=zD ha' (.tup [V.ref b,V.int i]);refine⟨es.trans (e1.trans e2),⟨as++[a'],by rw[aU];rfl,by rw[aI,h1];rfl,fun j a b' ha hb'=>?_⟩,_,_,rfl⟩;by_cases hj:j<i
  ·rw[bC ()]at ha;exact(e1.trans e2) _ _ (h3 j a b' ha hb')
  ·have ej:j=i:=by
    have :=(aC.mp ha).1;rw[aI]at this;simp at this;lia
   rw[ej,←h1,bL (aG _)]at ha;simp at ha;subst ha;rw[ej,hb]at hb';cases hb';rw[ej];exact zB
 obtain⟨es,⟨as,rfl,h1,h3⟩,o1,o2,rfl⟩:=e;rw[aE]at h1;have e1:=zD hp (.lst (as.map V.ref));refine⟨p,rfl,as,dL.of zB,pX aD bs 0,by rw[kC _ _ _ hbl];lia,by rw[AG _ _ _ hbl];exact mH.mpr (lD.imp fun lL z=>lL (BV z)),fun i x hi=>?_,fun d hd hlo=>?_⟩
 ·obtain⟨r,b,g1,g2,rfl⟩:=IC _ _ _ _ _ hi;have hil:=(aC.mp g1).1;have k1:=h3 i (as[i]'()) b (aA ()) g2;exact⟨_,aA (),dN.of (e1 _ _ (by rw[iE];exact k1)),((hbk i r b g1 g2).same (es.trans e1)).sq⟩
 ·exact q d bs _ _ (es.trans e1) ⟨rfl,hd,hbl,hrl,hlo,fun i r a g1 g2=>(hbk i r a g1 g2).same (es.trans e1)⟩
theorem EU(mf_found:mg "found"=some (.ref ff))(h_m:gR P w K mg base 44 "number_by" ["row_number","places","t"] (DV P w K false ff 21))(F:gS K "pair_of" "pair_of" s_X f fd):dI P w K mg base fY 45 f fd ["places","saying"] (kq P w K):=by
 refine F.okz sc_X fun fL A outer s H vs Q E hr h=>?_
 obtain⟨pa,v,aD,as,s,J,rfl,px,hv,⟨⟨f1,e1⟩,f2,e2⟩,q⟩:=h;obtain⟨a,v1,v2,rfl,ha,t1,t2⟩:=hv.out;refine⟨_,(zG (zO (zN (zA (zI h_m hr.m rfl (zA (EK mf_found rfl) (zA (pv 0) (zA (zM zP (pv 1) zE) zC)))) (zA (zI h_m hr.m rfl (zA (EK mf_found rfl) (zA (pv 0) (zA (zM zP (pv 1) zE) zC)))) zC))))),?_⟩;dsimp![];refine⟨_,dN.of (px.sub _ _ ha),_,mK,pa,v1,J,aD,as,s.1,rfl,px,t1,f1,⟨fun _=>e1,by rw[e1];exact px.few⟩,fun H1 J1 pF s1 px1=>?_⟩;rw[e1]at px1;refine⟨_,dN.of (px1.sub _ _ (s1 _ _ ha)),_,rG,pa,v2,J1,aD,pF,s.2,rfl,px1,dW.same s1 t2,f2,⟨fun _=>e2,by rw[e2];exact px.few⟩,fun H2 J2 ah s2 px2=>⟨small (),fun p hp=>?_⟩⟩;rw[e2]at px2;exact q p _ _ ah (s1.trans (s2.trans (zD (px2.free hp) _))) (px2.new hp _) zB
theorem ZB(h_X:gR P w K mg base 45 "pair_of" ["places","saying"] (kq P w K))(F:gS K "numbered_rule" "numbered_rule" s_r f fd):dI P w K mg base fY 46 f fd ["places","rule"] (spNr P w K):=by
 refine F.okz sc_r fun fL A outer s H vs Q E hr h=>?_
 obtain⟨pa,v,aD,as,r,J,rfl,px,hv,⟨hl,hps,hc⟩,q⟩:=h;obtain⟨a,l,u,vs,rfl,ha,hl2,hps2,hc2⟩:=hv.out;have hvl:=hps2.length;refine⟨_,(zG (zO (zN (zA (yU ["premise"] ["places"] [0] (yG (zM zP (pv 1) zE)) (fun _ _ _ _ nd=>yF 0 nd) (fun _ _ _ _=>xE) (fun _ _ _ _=>(zI h_X hr.m rfl (zA (pv 1) (zA (pv 0) zC))))) (zA (zI h_X hr.m rfl (zA (pv 0) (zA (zM zP (pv 1) zE) zC))) zC))))),?_⟩;dsimp![];refine⟨_,dN.of (px.sub _ _ ha),_,mK,l,rfl,⟨_,dL.of (px.sub _ _ hl2)⟩,?_⟩;refine jX (xs:=vs) (fun i ys σ G=>∃J' as',bB J J'/\Px P w K G J' pa aD as'/\bG J' ((r.1.take i).map fun s=>GB (nS aD s)) ys/\∃o,σ=[o,some (V.ref pa)]) ⟨J,as,bB.refl _,px,rfl,_,rfl⟩ (small ()) (fun i ys σ G e=>?_) (fun i ys σ G e=>?_) (fun i x ys σ G C hx e hC=>?_) (fun ys σ G e p hp=>?_)
 ·obtain⟨J',_,_,_,hd,_⟩:=e;have :=bG.length hd;rw[aE,bX]at this;lia
 ·obtain⟨J',as',sJ,px',_⟩:=e;exact dL.of (px'.sub _ _ (sJ _ _ hl2))
 ·obtain⟨J',as',sJ,px',hd,o,rfl⟩:=e;obtain⟨s1,hs1,hx'⟩:=hps2.getV hx;obtain⟨hil,hie⟩:=aC.mp hs1;dsimp![];refine⟨pa,x,aD,as',s1,J',rfl,px',dW.same sJ hx',hps s1 (aX hs1),fun p J2 G2 ah S2 px2 hp=>hC _ _ _ ⟨J2,ah,sJ.trans S2,px2,?_,_,rfl⟩⟩;rw[aM hil,hie,aU];exact bG.append (bG.same S2 hd) (bG.one ⟨p,_,rfl,hp,_,_,rfl,rfl,_,_,rfl,rfl,rfl⟩)
 obtain⟨J1,pF,s1,px1,hd,o,rfl⟩:=e;have px2:=px1.new hp (.lst ys);have s2:=zD (px1.free hp) (.lst ys);have kp:upd J1 p (.lst ys) p=some (.lst ys):=zB;generalize upd J1 p (.lst ys)=J2 at px2 s2 kp;generalize upd G p (.lst ys)=G2 at px2⊢;have s12:=s1.trans s2;refine⟨_,dN.of (px2.sub _ _ (s12 _ _ ha)),_,rG,pa,u,aD,pF,r.2,J2,rfl,px2,dW.same s12 hc2,hc,fun p3 J3 G3 as3 s3 px3 h3=>⟨small (),fun p4 hp4=>?_⟩⟩;have s4:=zD (px3.free hp4) (.tup [V.ref p,V.ref p3]);refine q _ _ _ as3 (s12.trans (s3.trans s4)) (px3.new hp4 _) ⟨p4,_,rfl,zB,_,_,rfl,⟨p,ys,rfl,(s3.trans s4) _ _ kp,?_⟩,_,_,rfl,⟨p3,_,rfl,s4 _ _ h3,_,_,rfl,rfl,_,_,rfl,rfl,rfl⟩,rfl⟩;show bG _ ((r.1.map (nS aD)).map GB) ys;rw[eQ];rw[hvl,aS (aG _)]at hd;exact bG.same (s2.trans (s3.trans s4)) hd
theorem BB(bi:Bi mg)(h_G:gR P w K mg base 1 "places_of" ["sheet"] (ko P w K))(h_r:gR P w K mg base 46 "numbered_rule" ["places","rule"] (spNr P w K))(F:gS K "numbered" "numbered" s_R f fd):dI P w K mg base fY 47 f fd ["sheet","book"] (spNm K):=by
 refine F.okz sc_R fun fL A outer s H vs Q E hr h=>?_
 obtain⟨sa,ba,us,bs,aD,b,rfl,hsa,hrw,lD,hrl,hba,hb,hbl,hgd,q⟩:=h;have hbs:bs.length=b.length:=by have :=bG.length hb;rwa[aE]at this
 refine⟨_,(zF (kU (i:=2) sc_R.nd rfl (Or.inr rfl) (zI h_G hr.m rfl (zA (pv 0) zC))) (zG (zO (yU ["rule"] ["places"] [2] (yG (pv 1)) (fun _ _ _ _ nd=>yF 0 nd) (fun _ _ _ _=>xE) (fun _ _ _ _=>(zI h_r hr.m rfl (zA (pv 1) (zA (pv 0) zC)))))))),?_⟩;refine zH fun N hN=>?_
 dsimp![];refine⟨sa,us,aD,rfl,hsa,hrw,lD,hrl,fun d as J H1 s1 px=>hN _ _ ?_⟩;clear hN;dsimp![];have hbl1:=s1 _ _ hba;refine⟨⟨_,dL.of (px.sub _ _ hbl1)⟩,?_⟩;refine jX (xs:=bs) (fun i ys σ G=>∃J' as',bB J J'/\Px P w K G J' d aD as'/\bG J' ((b.take i).map fun r=>af (nR aD r)) ys/\∃o,σ=[o,some (V.ref d)]) ⟨J,as,bB.refl _,px,rfl,_,rfl⟩ (small ()) (fun i ys σ G e=>?_) (fun i ys σ G e=>?_) (fun i x ys σ G C hx e hC=>?_) (fun ys σ G e p hp=>?_)
 ·obtain⟨J',_,_,_,hd,_⟩:=e;have :=bG.length hd;rw[aE,bX]at this;lia
 ·obtain⟨J',as',sJ,px',_⟩:=e;exact dL.of (px'.sub _ _ (sJ _ _ hbl1))
 ·obtain⟨J',as',sJ,px',hd,o,rfl⟩:=e;obtain⟨r,hr1,hx'⟩:=jC hb hx;obtain⟨hil,hie⟩:=aC.mp hr1;dsimp![];refine⟨d,x,aD,as',r,J',rfl,px',dW.same (s1.trans sJ) hx',hgd r (aX hr1),fun v' J2 G2 ah S2 px2 hv=>hC _ _ _ ⟨J2,ah,sJ.trans S2,px2,?_,_,rfl⟩⟩;rw[aM hil,hie,aU];exact bG.append (bG.same S2 hd) (bG.one hv)
 obtain⟨J1,pF,sJ,px1,hd,o,rfl⟩:=e;rw[hbs,aS (aG _)]at hd;have sp:=zD hp (.lst ys);refine q p ys _ (s1.trans (sJ.trans (px1.sub.trans sp))) zB ?_;rw[eQ];exact bG.same (px1.sub.trans sp) hd
end
abbrev s_Y:Stmt:=top 2
theorem bx:bZ ["numbers","mask","n"] ["numbers"] (zK s_Y):=by rfl'
abbrev s_C:Stmt:=qQ (top 41) 0
theorem lq:bZ ["self","many","clashes","a","b"] ["self","many","clashes"] (zK s_C):=by rfl'
abbrev s_e:Stmt:=qQ (top 41) 1
theorem bv:bZ ["self","sets","common","spots"] ["self","sets"] (zK s_e):=by rfl'
abbrev s_i:Stmt:=qQ (top 41) 2
theorem sc_i:bZ ["self","spots"] ["self","spots"] (zK s_i):=by rfl'
def jM(m:Nat)(ns:List Nat):Prop:=∀i,m.testBit i=decide (i∈ns)
def DW(K:W.Frag):Sp:=fun vs H Q _=>∃(a:Addr)(ns:List Nat),vs=[.ref a]/\dL K H a (ns.map nV)/\(∀n∈ns,n<100)/\∀m:Nat,jM m ns->Q (.int m) H
theorem SU{m:Nat}{ns:List Nat}(h:jM m ns):jM (m|||2^n) (ns++[n]):=fun i=>by
 rw[rV,h,lC];by_cases e:n=i
 ·subst e;simp
 ·simp[e,cJ e]
theorem EW(bi:Bi mg)(F:gS K "mask_of" "mask_of" s_Y f fd):dI P w K mg base fY 1 f fd ["numbers"] (DW K):=by
 refine F.okz bx fun fL A outer s H vs Q E hr h=>?_
 obtain⟨a,ns,rfl,ha,hn,q⟩:=h;refine⟨_,(zF (yD 1 bx.nd zE) (zF (yM bM rfl (yG (pv 0)) (yF 2 bx.nd) (zG (UM (i:=1) bx.nd rfl (Or.inl rfl) (zL kY zE (pv 2)) BW))) (zG (zO (pv 1))))),?_⟩;refine zH fun N hN=>?_
 dsimp![];refine hN _ _ ?_;clear hN;refine yB (fun σ H'=>H'=H/\∃(m:Nat)(o:Option V),jM m ns/\σ=[some (V.ref a),some (V.int m),o]) (fun N hN=>?_) (fun σ H' h=>?_)
 ·dsimp![];refine⟨⟨_,ha⟩,?_⟩;refine YQ (xs:=ns.map nV) (fun i σ H'=>H'=H/\∃(m:Nat)(o:Option V),jM m (ns.take i)/\σ=[some (V.ref a),some (V.int m),o]) ⟨rfl,0,_,fun i=>by simp,rfl⟩ (fun i σ H' _ h=>by rw[h.1];exact ha) (fun i x σ H' hx h=>?_) (fun σ H' h=>?_)
  ·obtain⟨rfl,m,o,hm,rfl⟩:=h;rw[aK]at hx;cases hni:ns[i]? with
   |none=>rw[hni]at hx;cases hx
   |some n=>
    rw[hni]at hx;cases hx;have hnb:=hn n (aX hni);dsimp![OR,TM];refine⟨⟨(),(),()⟩,m|||2^n,?_,?_,_,rfl⟩
    ·obtain⟨hi,e⟩:=aC.mp hni;rw[aM hi,e];exact SU hm
    ·rw[vR,kF]
  ·obtain⟨rfl,m,o,hm,rfl⟩:=h;rw[aE,aS (aG _)]at hm;exact hN _ _ ⟨rfl,m,o,hm,rfl⟩
 obtain⟨rfl,m,o,hm,rfl⟩:=h;dsimp![];exact q m hm
def uK(ps:List (Nat×Nat))(a b:Nat):Bool:=ps.any fun p=>(p.1==a&&p.2==b) ||(p.1==b&&p.2==a)
theorem vY(ps:List (Nat×Nat))(a b:Nat):uK ps a b=uK ps b a:=by
 unfold uK
 congr 1
 funext p
 rw[Bool.or_comm]
theorem NG(ps:List (Nat×Nat))(p:Nat×Nat)(a b:Nat):uK (ps++[p]) a b=(uK ps a b ||((p.1==a&&p.2==b) ||(p.1==b&&p.2==a))):=by
 unfold uK;rw[List.any_append];simp
def NT(p:Nat×Nat):Dt:=.tup [.int p.1,.int p.2]
def Ok2(m:Nat)(ps:List (Nat×Nat)):Prop:=∀p∈ps,p.1<p.2/\p.2<m
theorem p2At{p:Nat×Nat}(h:dW H (NT p) v):∃a,v=.ref a/\H a=some (.tup [nV p.1,nV p.2]):=by
 obtain⟨a,vs,e1,e2,u1,r1,q1,h1,u2,r2,q2,h2,h3⟩:=h;have h1:u1=nV p.1:=h1;have h2:u2=nV p.2:=h2;have h3:r2=[]:=h3;subst h3 q2 q1 h1 h2;exact⟨a,e1,e2⟩
def cnt(m:Nat)(ps:List (Nat×Nat))(sp:List Nat):List Nat:=(List.range m).filter fun i=>sp.all fun a=>uK ps a i
theorem pZ{m:Nat}:i∈cnt m ps sp↔i<m/\(sp.all fun a=>uK ps a i)=true:=by
 unfold cnt;rw[cX,bP]
theorem CI(m:Nat)(ps:List (Nat×Nat))(sp:List Nat):(cnt m ps sp).Pairwise (· < ·):=gP _ dS
theorem NI{xs ys:List Nat}(h:∀x,x∈xs↔x∈ys)(f:Nat->Bool):xs.all f=ys.all f:=by
 rw[cE,dB,dB];exact⟨fun g x hx=>g x ((h x).mpr hx),fun g x hx=>g x ((h x).mp hx)⟩
theorem ZI{m:Nat}{xs ys:List Nat}(h:∀x,x∈xs↔x∈ys):cnt m ps xs=cnt m ps ys:=by
 unfold cnt
 congr 1
 funext i
 exact NI h _
theorem VL(m:Nat)(ns:List Nat)(h:jM m ns):∃xs,rH m xs/\∀x,x∈xs↔x∈ns:=by
 refine⟨(List.range (m+1)).filter fun i=>m.testBit i,⟨gP _ dS,fun i=>?_⟩,fun x=>?_⟩
 ·rw[cE,bQ,cX,bP];constructor
  ·intro hb;have :=j4 hb;have :=Nat.lt_two_pow_self (n:=i);exact⟨(),hb⟩
  ·exact fun hb=>hb.2
 ·rw[cX,bP,h x,bQ];constructor
  ·exact fun hb=>hb.2
  ·intro hb;have hb':m.testBit x=true:=by rw[h x];simpa using hb
   have :=j4 hb';have :=Nat.lt_two_pow_self (n:=x);exact⟨(),hb⟩
structure FlC(K:W.Frag)(C:Addr):Prop where
 cl:LF K C
 nE:lE K C "everywhere"
 nC:lE K C "clashing"
def DJ(e:Nat)(l:Addr):List (Str×V):=[("everywhere",nV e),("clashing",.ref l)]
theorem fl_e(e:Nat)(l:Addr):(DJ e l).lookup ("everywhere":Str)=some (nV e):=by
 unfold DJ;rw[bN,show(("everywhere":Str)=="everywhere")=true by decide+kernel]
theorem pj(e:Nat)(l:Addr):(DJ e l).lookup ("clashing":Str)=some (.ref l):=by
 unfold DJ;rw[bN,show(("clashing":Str)=="everywhere")=false by decide+kernel,bN,show(("clashing":Str)=="clashing")=true by decide+kernel]
structure Msk(m:Nat)(ps:List (Nat×Nat))(cs:List Nat):Prop where
 len:cs.length=m
 bit:∀(a c:Nat),cs[a]?=some c->∀i,c.testBit i=uK ps a i
def DE(C:Addr)(H:Hp)(r:Addr)(m:Nat)(ps:List (Nat×Nat)):Prop:=∃dx l cs,H r=some (.ins C dx (DJ (2^m-1) l))/\H l=some (.lst (cs.map nV))/\Msk m ps cs
theorem DE.same{C:Addr}{r:Addr}{m:Nat}(e:bB H H')(h:DE C H r m ps):DE C H' r m ps:=by
 obtain⟨dx,l,cs,h1,h2,h3⟩:=h;exact⟨dx,l,cs,e _ _ h1,e _ _ h2,h3⟩
theorem fc(m:Nat):Msk m [] (List.replicate m 0):=⟨rL ..,fun a c h i=>by
 obtain⟨_,e⟩:=aC.mp h;rw[List.getElem_replicate]at e;subst e;simp[uK]⟩
theorem et{m:Nat}{cs:List Nat}{a b ca cb:Nat}(h:Msk m ps cs)(hab:a≠b)(ha:cs[a]?=some ca)(hb:cs[b]?=some cb):Msk m (ps++[(a,b)]) ((cs.set a (ca|||2^b)).set b (cb|||2^a)):=by
 refine⟨by rw[lN,lN];exact h.len,fun x c hx i=>?_⟩;have la:=(aC.mp ha).1;have lb:=(aC.mp hb).1;rw[NG];by_cases e1:b=x
 ·subst e1;rw[iG (by rw[lN];exact lb)]at hx;cases hx;rw[rV,h.bit b cb hb,lC];have :(a==b)=false:=cV.mpr hab;simp only[this,fN,Bool.false_or,dU,Bool.and_true]
  congr 1
 ·rw[gO e1]at hx;by_cases e2:a=x
  ·subst e2;rw[iG la]at hx;cases hx;rw[rV,h.bit a ca ha,lC];have :(b==a)=false:=cV.mpr (cJ hab);simp only[this,oM,tG,dU,pC]
   congr 1
  ·rw[gO e2]at hx;rw[h.bit x c hx];have t1:(a==x)=false:=cV.mpr e2;have t2:(b==x)=false:=cV.mpr e1;simp[t1,t2]
inductive lc (C:Addr) (vs:List V) (H:Hp) (Q:VK) (E:XK):Prop
 |mk (r dx ca:Addr) (m:Nat) (us:List V) (ps:List (Nat×Nat)) (_:vs=[.ref r,.int m,.ref ca]) (_:H r=some (.ins C dx [])) (_:ca≠r) (_:H ca=some (.lst us)) (_:bG H (ps.map NT) us) (_:Ok2 m ps) (_:m<=90) (_:∀H',fO r H H'->DE C H' r m ps->Q .non H')
inductive bh (K:W.Frag) (C:Addr) (vs:List V) (H:Hp) (Q:VK) (E:XK):Prop
 |mk (r sa:Addr) (m:Nat) (ps:List (Nat×Nat)) (ms:List Nat) (_:vs=[.ref r,.ref sa]) (_:DE C H r m ps) (_:dL K H sa (ms.map nV)) (_:ms.length<=1000) (_:∀c:Nat,(∀i,c.testBit i=(decide (i<m)&&ms.all fun x=>x.testBit i))->Q (.int c) H)
inductive lf (C:Addr) (vs:List V) (H:Hp) (Q:VK) (E:XK):Prop
 |mk (r:Addr) (m s:Nat) (ps:List (Nat×Nat)) (xs:List Nat) (_:vs=[.ref r,.int s]) (_:DE C H r m ps) (_:m<=90) (_:rH s xs) (_:(∀x∈xs,x<m)) (_:∀(c:Nat) H',bB H H'->jM c (cnt m ps xs)->Q (.int c) H')
theorem MK{C:Addr}(T:FlC K C)(F:gS K "common_of" "Floor.common_of" s_e f fd):dI P w K mg base fY 1 f fd ["self","sets"] (bh K C):=by
 refine F.okz bv fun fL A outer s H vs Q E hr h=>?_
 obtain⟨r,sa,m,ps,ms,rfl,⟨dx,l,cs,lY,hl,hm⟩,hs,h1000,q⟩:=h;refine⟨_,(zF (yD 2 bv.nd (xD (pv 0) rfl)) (zF (yM bM rfl (yG (pv 1)) (yF 3 bv.nd) (zG (UM (i:=2) bv.nd rfl (Or.inl rfl) (pv 3) oa))) (zG (zO (pv 2))))),?_⟩;refine zH fun N hN=>?_
 dsimp![jA];refine⟨C,dx,_,lY,T.cl,T.nE,_,fl_e _ _,hN _ _ ?_⟩;clear hN;refine yB (fun σ H'=>H'=H/\∃(c:Nat)(o:Option V),(∀i,c.testBit i=(decide (i<m)&&ms.all fun x=>x.testBit i))/\σ=[some (V.ref r),some (V.ref sa),some (nV c),o]) (fun N hN=>?_) (fun σ H' h=>?_)
 ·dsimp![];refine⟨⟨_,hs⟩,?_⟩;refine YQ (xs:=ms.map nV) (fun k σ H'=>H'=H/\∃(c:Nat)(o:Option V),(∀i,c.testBit i=(decide (i<m)&&(ms.take k).all fun x=>x.testBit i))/\σ=[some (V.ref r),some (V.ref sa),some (nV c),o]) ⟨rfl,2^m-1,_,fun i=>by rw[oB];simp,rfl⟩ (fun i σ H' _ h=>by rw[h.1];exact hs) (fun k x σ H' hx h=>?_) (fun σ H' h=>?_)
  ·obtain⟨rfl,c,o,hc,rfl⟩:=h;rw[aK]at hx;cases hni:ms[k]? with
   |none=>rw[hni]at hx;cases hx
   |some n=>
    rw[hni]at hx;cases hx;dsimp![OR,TM];refine⟨c&&&n,fun i=>?_,DC c n,_,rfl⟩;obtain⟨hk,e⟩:=aC.mp hni;rw[lM,hc,aM hk,e,List.all_append,Bool.and_assoc];simp
  ·obtain⟨rfl,c,o,hc,rfl⟩:=h;rw[aE,aS (aG _)]at hc;exact hN _ _ ⟨rfl,c,o,hc,rfl⟩
 obtain⟨rfl,c,o,hc,rfl⟩:=h;dsimp![];exact q c hc
theorem ZR(e:Nat)(l:Addr){x:Str}(h1:(x==("everywhere":Str))=false)(h2:(x==("clashing":Str))=false):(DJ e l).lookup x=none:=by
 unfold DJ;rw[bN,h1,bN,h2];rfl
theorem ph(e:Nat)(l:Addr):xC "clashing" (.ref l) (xC "everywhere" (nV e) [])=DJ e l:=by
 unfold DJ;rfl
theorem WB(m:Nat):(1:Int)*2^(m:Int).toNat-1=((2^m-1:Nat):Int):=by
 rw[vR];have :=WT m;lia
theorem SG{C:Addr}(T:FlC K C)(F:gS K "__init__" "Floor.__init__" s_C f fd):dI P w K mg base fY 1 f fd ["self","many","clashes"] (lc C):=by
 refine F.okz lq fun fL A outer s H vs Q E hr h=>?_
 obtain⟨r,dx,ca,m,us,ps,rfl,lY,hcr,hca,hps,hok,hm,q⟩:=h;have hul:us.length=ps.length:=by have :=bG.length hps;rwa[aE]at this
 refine⟨_,(zF (kW (pv 0) (zL RW (zL kY zE (pv 1)) zE) rfl) (zF (kW (pv 0) (zL EQ (yV (zA zE zC)) (pv 1)) rfl) (zG (yM bM rfl (yG (pv 2)) (uU rfl (zY (yF 3 lq.nd) (zY (yF 4 lq.nd) xH))) (zF (YH (xD (pv 0) rfl) (pv 3) kJ (zL kY zE (pv 4)) BW wV) (zG (YH (xD (pv 0) rfl) (pv 4) kJ (zL kY zE (pv 3)) BW wV))))))),?_⟩;refine zH fun N hN=>?_
 dsimp![ED];refine⟨⟨(),(),()⟩,C,dx,[],lY,T.cl,T.nE,(),hN _ _ ?_⟩;clear hN;rw[WB];refine zH fun N hN=>?_
 dsimp![ED,ck];refine⟨small (by simp),fun p0 hp0=>⟨[V.int 0],zB,(),(),small (by simp;lia),fun l hl=>?_⟩⟩;have hn0:p0≠r:=fun z=>by rw[z,zB]at hp0;cases hp0
 have hH0:H p0=none:=by rw[zJ hn0]at hp0;exact hp0
 have hln:l≠p0:=fun z=>by rw[z,zB]at hl;cases hl
 rw[zJ hln]at hl;have hlr:l≠r:=fun z=>by rw[z,zB]at hl;cases hl
 rw[zJ hlr]at hl;have kr:upd (upd (upd H r (.ins C dx (xC "everywhere" (nV (2^m-1)) []))) p0 (.lst [.int 0])) l (.lst ((List.replicate (m:Int).toNat [V.int 0]).flatten)) r=some (.ins C dx (xC "everywhere" (nV (2^m-1)) [])):=by
  rw[zJ (cJ hlr),zJ (cJ hn0),zB]
 refine⟨C,dx,_,kr,T.cl,T.nC,by show 1<1000;decide,hN _ _ ?_⟩;clear hN;rw[ph];have x1:fO r H (upd (upd (upd (upd H r (.ins C dx (xC "everywhere" (nV (2^m-1)) []))) p0 (.lst [.int 0])) l (.lst ((List.replicate (m:Int).toNat [V.int 0]).flatten))) r (.ins C dx (DJ (2^m-1) l))):=fO.upd (xL (xL (fO.upd (fO.refl r H)) hH0) hl);have x2:upd (upd (upd (upd H r (.ins C dx (xC "everywhere" (nV (2^m-1)) []))) p0 (.lst [.int 0])) l (.lst ((List.replicate (m:Int).toNat [V.int 0]).flatten))) r (.ins C dx (DJ (2^m-1) l)) r=some (.ins C dx (DJ (2^m-1) l)):=zB;have x3:upd (upd (upd (upd H r (.ins C dx (xC "everywhere" (nV (2^m-1)) []))) p0 (.lst [.int 0])) l (.lst ((List.replicate (m:Int).toNat [V.int 0]).flatten))) r (.ins C dx (DJ (2^m-1) l)) l=some (.lst ((List.replicate m 0).map nV)):=by
  rw[zJ hlr,zB,cA,XD]
 generalize upd (upd (upd (upd H r (.ins C dx (xC "everywhere" (nV (2^m-1)) []))) p0 (.lst [.int 0])) l (.lst ((List.replicate (m:Int).toNat [V.int 0]).flatten))) r (.ins C dx (DJ (2^m-1) l))=H1 at x1 x2 x3⊢;clear kr hn0 hln hp0 hH0;dsimp![];refine⟨⟨_,dL.of (x1 _ _ hca hcr)⟩,?_⟩;refine jD (xs:=us) (fun k σ H'=>∃(o1 o2:Option V)(cs:List Nat),fO r H H'/\H' r=some (.ins C dx (DJ (2^m-1) l))/\H' l=some (.lst (cs.map nV))/\Msk m (ps.take k) cs/\σ=[some (V.ref r),some (V.int m),some (V.ref ca),o1,o2]) ⟨_,_,_,x1,x2,x3,fc m,rfl⟩ (fun k σ H' _ h=>?_) (fun k x σ H' hx h M hM=>?_) (fun σ H' h=>?_)
 ·obtain⟨o1,o2,cs,h1,_⟩:=h;exact dL.of (h1 _ _ hca hcr)
 ·obtain⟨o1,o2,cs,h1,h2,h3,h4,rfl⟩:=h;have hk:k<ps.length:=by rw[←hul];exact(aC.mp hx).1
  obtain⟨v,hv1,hv2⟩:=bG.get (d:=NT ps[k]) hps (by rw[aK,aA hk];rfl);rw[hx]at hv1;cases hv1;have hab:=hok _ (cW hk);obtain⟨t,rfl,ht⟩:=p2At hv2;have htr:t≠r:=fun z=>by rw[z,lY]at ht;cases ht
  have ht':=h1 _ _ ht htr;have e4:ps.take (k+1)=ps.take k++[(ps[k].1,ps[k].2)]:=by rw[aM hk]
  rw[e4]at hM;clear e4;generalize ps[k].1=a at ht' hab hM;generalize ps[k].2=b at ht' hab hM;have la:a<cs.length:=by rw[h4.len];lia
  have lb:b<cs.length:=by rw[h4.len];lia
  have ga:=aA la;have gb:=aA lb;generalize cs[a]=ca' at ga;generalize cs[b]=cb' at gb;dsimp![vI,jU,wC,HG,jA,HX,TM,HV];refine⟨[nV a,nV b],dN.of ht',rfl,nV a,[nV b],rfl,nV b,[],rfl,rfl,?_⟩;have mset:∀(cs:List Nat)(i v:Nat),(cs.map nV).set i (V.int (v:Int))=(cs.set i v).map nV:=fun cs i v=>(List.map_set (f:=nV) (l:=cs) (i:=i) (a:=v)).symm
  refine⟨C,dx,_,h2,T.cl,T.nC,_,pj _ _,l,rfl,_,a,rfl,h3,nV ca',by rw[aK,ga];rfl,_,rfl,⟨(),(),()⟩,_,rfl,l,rfl,_,rfl,_,h3,a,YM (by rw[aE];exact la),?_⟩;rw[vR b,kF,mset];have gb':(cs.set a (ca'|||2^b))[b]?=some cb':=by rw[gO ()];exact gb
  have lb':b<(cs.set a (ca'|||2^b)).length:=by rw[lN];exact lb
  have j1:upd H' l (.lst ((cs.set a (ca'|||2^b)).map nV)) r=some (.ins C dx (DJ (2^m-1) l)):=by rw[zJ (cJ hlr)];exact h2
  have j2:upd H' l (.lst ((cs.set a (ca'|||2^b)).map nV)) l=some (.lst ((cs.set a (ca'|||2^b)).map nV)):=zB;have j3:=xL (o:=.lst ((cs.set a (ca'|||2^b)).map nV)) h1 hl;generalize upd H' l (.lst ((cs.set a (ca'|||2^b)).map nV))=H2 at j1 j2 j3⊢;refine⟨C,dx,_,j1,T.cl,T.nC,_,pj _ _,l,rfl,_,b,rfl,j2,nV cb',by rw[aK,gb'];rfl,_,rfl,⟨(),(),()⟩,_,rfl,l,rfl,_,rfl,_,j2,b,YM (by rw[aE];exact lb'),?_⟩;rw[vR a,kF,mset];exact hM _ _ ⟨_,_,_,xL j3 hl,by rw[zJ (cJ hlr)];exact j1,zB,et h4 () ga gb,rfl⟩
 ·obtain⟨o1,o2,cs,h1,h2,h3,h4,rfl⟩:=h;rw[hul,aS (aG _)]at h4;exact q _ h1 ⟨dx,l,cs,h2,h3,h4⟩
theorem JI{C:Addr}(T:FlC K C)(bi:Bi mg)(h_F:gR P w K mg base 1 "bits_of" ["mask"] sH)(h_e:lA P w K mg base 1 C "common_of" ["self","sets"] (bh K C))(F:gS K "counter_of" "Floor.counter_of" s_i f fd):dI P w K mg base fY 2 f fd ["self","spots"] (lf C):=by
 refine F.okz sc_i fun fL A outer s H vs Q E hr h=>?_
 obtain⟨r,m,s',ps,xs,rfl,hfl,hm90,hb,hxm,q⟩:=h;have hfl':=hfl;obtain⟨dx,l,cs,lY,hl,hm⟩:=hfl';have hx100:∀x∈xs,x<100:=fun x hx=>by have :=hxm x hx;lia
 have hxl:=CY hb (fun x hx=>Nat.lt_trans (hx100 x hx) ());have fZ:=T.cl;refine⟨_,(zG (zO (zZ h_e fZ hr.m (pv 0) (zA (yU ["a"] ["self"] [0] (yG (zI h_F hr.m rfl (zA (pv 1) zC))) (fun _ _ _ _ nd=>yF 0 nd) (fun _ _ _ _=>xE) (fun _ _ _ _=>(zM (kI K) (IF K (pv 1) rfl) (pv 0)))) zC)))),?_⟩;dsimp![yT,jA];refine⟨_,_,lY,ZR _ _ () (),?_⟩;refine⟨s',xs,rfl,hb,(fun x hx=>Nat.lt_trans (hx100 x hx) ()),fun p H1 s1 hp k1=>⟨p,rfl,⟨_,dL.of k1⟩,?_⟩⟩;refine jX (xs:=xs.map nV) (fun i ys σ H'=>H'=H1/\ys=((xs.take i).map fun a=>cs.getD a 0).map nV/\∃o,σ=[o,some (V.ref r)]) ⟨rfl,rfl,_,rfl⟩ (small (by rw[aE];lia)) (fun i ys σ H' e=>?_) (fun i ys σ H' e=>by rw[e.1];exact dL.of k1) (fun i x ys σ H' C' hx e hC=>?_) (fun ys σ H' e p3 hp3=>?_)
 ·obtain⟨_,rfl,_⟩:=e;rw[aE,aE,bX];lia
 ·obtain⟨rfl,rfl,o,rfl⟩:=e;rw[aK]at hx;cases hni:xs[i]? with
  |none=>rw[hni]at hx;cases hx
  |some n=>
   rw[hni]at hx;cases hx;have hn:=hxm n (aX hni);have hnc:n<cs.length:=by rw[hm.len];exact hn
   dsimp![jA];refine⟨C,dx,_,s1 _ _ lY,T.cl,T.nC,_,pj _ _,l,rfl,_,dL.of (s1 _ _ hl),nV (cs.getD n 0),?_,hC _ _ _ ⟨rfl,?_,_,rfl⟩⟩
   ·refine yE (j:=n) ?_;rw[aK,bU,aA hnc];rfl
   ·obtain⟨hi,e⟩:=aC.mp hni;rw[aM hi,e,aU,aU];rfl
 obtain⟨rfl,rfl,o,rfl⟩:=e;rw[aE,aS (aG _)];have s3:=zD hp3 (.lst ((xs.map fun a=>cs.getD a 0).map nV));refine⟨r,p3,m,ps,xs.map fun a=>cs.getD a 0,rfl,DE.same (s1.trans s3) hfl,dL.of zB,by rw[aE];lia,fun c hc=>q c _ (s1.trans s3) fun i=>?_⟩;rw[hc,cE,bQ,pZ,bY,bQ,pU];refine and_congr_right fun _=>?_
 rw[dB,dB];have hbit:∀x∈xs,(cs.getD x 0).testBit i=uK ps x i:=fun x hx=>by
  have hnc:x<cs.length:=by rw[hm.len];exact hxm x hx
  rw[bU,aA hnc];exact hm.bit x _ (aA hnc) i
 constructor
 ·intro h x hx;rw[←hbit x hx];exact h x hx
 ·intro h x hx;show(cs.getD x 0).testBit i=true;rw[hbit x hx];exact h x hx
theorem XJ{H H':Hp}(e:cU H H'):∀{ps:List (Nat×Nat)}{us:List V},bG H (ps.map NT) us->bG H' (ps.map NT) us
 |[],us,h=>h
 |p::ps,us,h=>by
  obtain⟨v,r,e1,e2,e3⟩:=h;obtain⟨a,g1,g2⟩:=p2At e2;exact⟨v,r,e1,⟨a,_,g1,e _ _ g2,_,_,rfl,rfl,_,_,rfl,rfl,rfl⟩,XJ e e3⟩
mutual
def nms:Tm->List Str
 | .name x=>[x]
 | .node _ ts=>xS ts
def xS:List Tm->List Str
 |[]=>[]
 |t::ts=>nms t++xS ts
end
theorem rE{x:Str}:∀{ts:List Tm},x∈xS ts↔∃t∈ts,x∈nms t
 |[]=>by simp[xS]
 |t::ts=>by rw[xS,bO,rE (ts:=ts)];simp
structure TsOk(zs:List Str)(d n:Nat)(ts:List Tm):Prop where
 fit:∀t∈ts,fX d t
 nam:∀t∈ts,∀x∈nms t,x∈zs
 sz:mQ ts<=n
theorem LH(j:Int)(h:0<=j/\j<2):∃w:Str,(w="both"\/w="either")/\oU [V.str "both",V.str "either"] j=some (.str w):=by
 have :j=0\/j=1:=by lia
 rcases this with rfl |rfl
 ·exact⟨"both",.inl rfl,rfl⟩
 ·exact⟨"either",.inr rfl,rfl⟩
theorem lh{w:Str}{k:Nat}(hw:w="both"\/w="either")(hk:2<=k):Sh w k:=by
 rcases hw with h |h
 ·exact .inr (.inr (.inr (.inl ⟨h,hk⟩)))
 ·exact .inr (.inr (.inr (.inr ⟨h,hk⟩)))
theorem BP:∀ts us:List Tm,xS (ts++us)=xS ts++xS us
 |[],us=>by simp[xS]
 |t::ts,us=>by rw[List.cons_append,xS,xS,BP ts us,cL]
theorem QC{t:Tm}(h:ts[i]?=some t):xS (ts.take (i+1))=xS (ts.take i)++nms t:=by
 obtain⟨il,ie⟩:=aC.mp h;rw[aM il,ie,BP];show _++(nms t++xS [])=_;rw[xS,cM]
mutual
theorem eh:∀t:Tm,(nms t).length<=wt t
 | .name _=>by rw[nms,wt];exact aG _
 | .node _ ts=>by
   rw[nms,wt];have :=kG ts;lia
theorem kG:∀ts:List Tm,(xS ts).length<=mQ ts
 |[]=>by rw[xS,mQ];exact aG _
 |t::ts=>by
  rw[xS,mQ,aI];have :=eh t;have :=kG ts;lia
end
abbrev s_V:Stmt:=top 9
theorem sc_V:bZ ["t"] ["t"] (zK s_V):=by rfl'
def sX:Tm->List Tm
 | .name _=>[]
 | .node _ ts=>ts
def km:Sp:=fun vs H Q _=>∃(v:V)(t:Tm),vs=[v]/\fP H t v/\(∀w ts,t=.node w ts->Wrd w)/\∀p us H',bB H H'->H' p=some (.tup us)->dQ H' (sX t) us->Q (.ref p) H'
abbrev s_l:Stmt:=top 10
theorem sc_l:bZ ["t","found","part"] ["t","found"] (zK s_l):=by rfl'
abbrev s_q:Stmt:=top 11
theorem ll:bZ ["terms","found","t"] ["terms"] (zK s_q):=by rfl'
abbrev s_W:Stmt:=top 12
theorem sc_W:bZ ["t"] ["t"] (zK s_W):=by rfl'
def YB(zs:List Str)(x:Str):List Str:=if x∈zs then zs else zs++[x]
def yY(zs:List Str)(xs:List Str):List Str:=xs.foldl YB zs
theorem wT(zs xs ys:List Str):yY zs (xs++ys)=yY (yY zs xs) ys:=by unfold yY;rw[List.foldl_append]
theorem uH:∀(xs zs:List Str),(yY zs xs).length<=zs.length+xs.length
 |[],zs=>by simp[yY]
 |x::xs,zs=>by
  have :=uH xs (YB zs x);have h2:(YB zs x).length<=zs.length+1:=by unfold YB;split<;>simp
  show(yY (YB zs x) xs).length<=_;rw[bD];lia
def dz(zs:List Str):List (eL×V):=zs.map fun x=>(.inr x,.bl true)
theorem cu(zs:List Str)(x:Str):jJ (dz zs) (.inr x:eL) (.bl true)=dz (YB zs x):=by
 have e:((dz zs).any fun kv=>decide (kv.1=(.inr x:eL)))=decide (x∈zs):=by
  rw[cE,fK,bQ];unfold dz;constructor
  ·rintro⟨p,hp,h⟩;obtain⟨y,hy,rfl⟩:=cD.mp hp;have h:(Sum.inr y:eL)=.inr x:=by simpa using h
   rw[←OA h];exact hy
  ·intro h;exact⟨_,cD.mpr ⟨x,h,rfl⟩,by simp⟩
 unfold jJ YB;rw[e];by_cases h:x∈zs
 ·rw[aL (by simpa using h),aL h];unfold dz;rw[eQ];apply sV;intro y hy;simp only[Function.comp];split<;>rfl
 ·rw[aH (by simpa using h),aH h];unfold dz;rw[aU];rfl
def gW(d:Addr)(H H':Hp):Prop:=∀b o,H b=some o->b≠d->H' b=some o
theorem gW.refl(d:Addr)(H:Hp):gW d H H:=fun _ _ h _=>h
theorem gW.trans{d:Addr}{H1 H2:Hp}(a:gW d H H1)(b:gW d H1 H2):gW d H H2:=fun c o h n=>b c o (a c o h n) n
theorem gW.of{d:Addr}(a:bB H H'):gW d H H':=fun c o h _=>a c o h
theorem gW.upd{d:Addr}{H1:Hp}{o:HO}(a:gW d H H1):gW d H (L2.upd H1 d o):=fun c o' h n=>by
 rw[zJ n];exact a c o' h n
theorem gW.tups{d:Addr}{kvs:List (eL×V)}(a:gW d H H')(h:H d=some (.dK kvs)):cU H H':=fun b xs e=>a b _ e (jH e h (by intro z;cases z))
def WY:Tm->List Str
 | .name x=>[x]
 | .node _ _=>[]
def bf:Nat->Sp
 |0=>fun _ _ _ _=>False
 |1=>fun _ _ _ _=>False
 |n+2=>fun vs H Q _=>∃(v:V)(d:Addr)(t:Tm)(zs:List Str),vs=[v,.ref d]/\fP H t v/\fX n t/\wt t<=900/\H d=some (.dK (dz zs))/\zs.length+wt t<=100000/\∀H',gW d H H'->H' d=some (.dK (dz (yY zs (nms t))))->Q .non H'
def kz:Sp:=fun vs H Q _=>∃(a:Addr)(us:List V)(ts:List Tm),vs=[.ref a]/\H a=some (.lst us)/\dQ H ts us/\(∀t∈ts,fX 20 t/\wt t<=900)/\mQ ts<=20000/\(yY [] (xS ts)).length<64/\
 ∀p zs' H',bB H H'->H' p=some (.lst (zs'.map V.str))->zs'.Perm (yY [] (xS ts))->PyProof.Rows.sortedS zs'=true->Q (.ref p) H'
inductive spNO (vs:List V) (H:Hp) (Q:VK) (E:XK):Prop
 |mk (v:V) (t:Tm) (_:vs=[v]) (_:fP H t v) (_:fX 20 t) (_:wt t<=900) (_:(yY [] (nms t)).length<64) (_:∀p zs' H',bB H H'->H' p=some (.lst (zs'.map V.str))->zs'.Perm (yY [] (nms t))->PyProof.Rows.sortedS zs'=true->Q (.ref p) H')
theorem BA(bi:Bi mg)(F:gS K "parts_of" "parts_of" s_V f fd):dI P w K mg base fY 1 f fd ["t"] km:=by
 refine F.okz sc_V fun fL A outer s H vs Q E hr h=>?_
 obtain⟨v,t,rfl,ht,hw,q⟩:=h;refine⟨_,(zG (zO (uV (zQ xG (zM zP (pv 0) zE) zR (zU _)) (zN zC) (qE DZ (pv 0) (qN zE) vT)))),?_⟩;cases t with
 |name x=>
  obtain⟨a,rfl,ha⟩:=fP.name ht;dsimp![];refine⟨_,dN.of ha,.str "name",mK,rfl,?_⟩;rw[aL rfl];exact⟨small (),fun p hp=>q _ [] _ (zD hp _) zB rfl⟩
 |node wd ts=>
  obtain⟨a,us,rfl,ha,hu⟩:=fP.node ht;dsimp![];refine⟨_,dN.of ha,.str wd,mK,rfl,?_⟩;rw[aH (fun e=>(hw wd ts rfl).ne (V.str.inj e))];refine⟨_,dN.of ha,uO _ _,fun p hp=>?_⟩;rw[kN];exact q p us _ (zD hp _) zB (dQ.tups (zD hp _).tups hu)
theorem ZY(bi:Bi mg)(h_V:gR P w K mg base 1 "parts_of" ["t"] km)(F:gS K "gather_names" "gather_names" s_l f fd)(b:Binds K fd ["t","found"] [])(m:mg "gather_names"=some (.ref f)):∀n,dI P w K mg base fY n f fd ["t","found"] (bf n):=by
 refine PZ F b m (fun vs H Q E h=>h) (fun n h_l=>?_);cases n with
 |zero=>exact⟨fun vs H Q E h=>h.elim,fun A outer s H args us vs Q E _ _ _ _ h=>h.elim⟩
 |succ n=>
 refine F.okz sc_l fun fL A outer s H vs Q E hr h=>?_
 obtain⟨v,d,t,zs,rfl,ht,hf,hw,hd,hz,q⟩:=h;refine⟨_,(zF (yI (zQ xG (zM zP (pv 0) zE) zR (zU _)) (zG (UK (xU hr) (pv 1) (zM zP (pv 0) zE) IH rfl)) zW) (zG (yM bM rfl (wK (zI h_V hr.m rfl (zA (pv 0) zC))) (yF 2 sc_l.nd) (zG (zX (zI h_l hr rfl (zA (pv 2) (zA (pv 1) zC)))))))),?_⟩;have hnm:nms t=WY t++xS (sX t):=by
  cases t with
  |name x=>rw[nms,WY,sX,xS];rfl
  |node wd ts=>rw[nms,WY,sX];rfl
 have hwp:mQ (sX t)<=wt t/\(WY t).length+mQ (sX t)<=wt t:=by
  cases t with
  |name x=>rw[sX,mQ,WY,wt];exact⟨(),by simp⟩
  |node wd ts=>rw[sX,wt,WY];exact⟨(),by simp⟩
 have hwr:∀w ts,t=.node w ts->Wrd w:=fun w ts e=>by subst e;exact hf.wrd
 have part:∀(i:Nat)(u:Tm),(sX t)[i]?=some u->∃m,n=m+1/\fX m u/\wt u<=mQ (sX t):=fun i u hi=>by
  have hm:=aX hi;have :=YC hm;cases t with
  |name x=>cases hm
  |node wd ts=>
   have hm:u∈ts:=hm;cases n with
   |zero=>rw[hf.2]at hm;cases hm
   |succ n=>exact⟨n,rfl,hf.part hm,this⟩
 refine yB (fun σ H'=>gW d H H'/\H' d=some (.dK (dz (yY zs (WY t))))/\∃o,σ=[some v,some (V.ref d),o]) (fun N hN=>?_) (fun σ H' h=>?_)
 ·dsimp![HM];cases t with
  |name x=>
   obtain⟨a,rfl,ha⟩:=fP.name ht;refine⟨_,rfl,_,dN.of ha,.str "name",mK,rfl,?_⟩;rw[aL rfl];refine⟨_,rfl,_,dN.of ha,.str x,rG,_,GQ.k (k:=.inr x) hd (fG (show(dz zs).length<=1000000 by unfold dz;rw[aE];lia) ()),hN _ _ ?_⟩;rw[cu];exact⟨(gW.refl d H).upd,zB,_,rfl⟩
  |node wd ts=>
   obtain⟨a,us,rfl,ha,hu⟩:=fP.node ht;refine⟨_,rfl,_,dN.of ha,.str wd,mK,rfl,?_⟩;rw[aH (fun e=>hf.wrd.ne (V.str.inj e))];exact hN _ _ ⟨gW.refl d H,hd,_,rfl⟩
 ·obtain⟨es,hd1,o,rfl⟩:=h;have mB:=fP.tups (es.tups hd) ht;dsimp![km];refine⟨t,mB,hwr,fun p us H2 e2 hp hu=>⟨⟨_,dN.of hp⟩,?_⟩⟩;have hl:=hu.length;have hpd:p≠d:=jH hp (e2 _ _ hd1) (by intro z;cases z);refine TX (xs:=us) (fun i σ H'=>gW d H2 H'/\H' p=some (.tup us)/\H' d=some (.dK (dz (yY (yY zs (WY t)) (xS ((sX t).take i)))))/\∃o,σ=[some v,some (V.ref d),o]) ?_ (fun i σ H' _ h=>dN.of h.2.1) (fun i x σ H' hx h=>?_) (fun σ H' h=>?_)
  ·exact⟨gW.refl _ _,hp,e2 _ _ hd1,_,rfl⟩
  ·obtain⟨es3,hp3,hd3,o',rfl⟩:=h;obtain⟨u,hu',hx'⟩:=hu.getV hx;obtain⟨m',rfl,f1,f2⟩:=part i u hu';have l1:=uH (WY t) zs;have l2:=uH (xS ((sX t).take i)) (yY zs (WY t));have l3:=kG ((sX t).take i);have l4:mQ ((sX t).take (i+1))<=mQ (sX t):=by
    have :=dH mQ (dM (i+1) (sX t));rw[uA]at this;lia
   have l5:mQ ((sX t).take (i+1))=mQ ((sX t).take i)+wt u:=by
    obtain⟨il,ie⟩:=aC.mp hu';rw[aM il,ie,uA];show _+(wt u+mQ [])=_;rw[mQ];lia
   dsimp![bf];refine⟨u,fP.tups (es3.tups (e2 _ _ hd1)) hx',f1,(),_,hd3,(),fun H4 e4 h4=>⟨es3.trans e4,e4 _ _ hp3 hpd,?_,_,rfl⟩⟩;rw[QC hu',wT];exact h4
  ·obtain⟨es3,hp3,hd3,o',rfl⟩:=h;rw[aS ()]at hd3;refine q _ ((es.trans (gW.of e2)).trans es3) ?_;rw[hnm,wT];exact hd3
theorem ZX(bi:Bi mg)(h_l:gR P w K mg base 22 "gather_names" ["t","found"] (bf 22))(F:gS K "names_of_all" "names_of_all" s_q f fd):dI P w K mg base fY 23 f fd ["terms"] kz:=by
 refine F.okz ll fun fL A outer s H vs Q E hr h=>?_
 obtain⟨a,us,ts,rfl,ha,hu,hf,hw,h64,q⟩:=h;have hl:=hu.length;have hwl:=QP ts;refine⟨_,(zF (yD 1 ll.nd RO) (zF (yM bM rfl (yG (pv 0)) (yF 2 ll.nd) (zG (zX (zI h_l hr.m rfl (zA (pv 2) (zA (pv 1) zC)))))) (zG (zO (yC VH rfl bi.sorted ZJ (zA (pv 1) zC)))))),?_⟩;refine zH fun N hN=>?_
 dsimp![];refine fun d lD=>hN _ _ ?_
 have e1:=zD lD (.dK []);have h1:upd H d (.dK []) d=some (.dK (dz [])):=zB;generalize upd H d (.dK [])=H1 at e1 h1⊢;have had:a≠d:=xI ha lD;refine yB (fun σ H'=>gW d H1 H'/\H' d=some (.dK (dz (yY [] (xS ts))))/\∃o1 o2,σ=[o1,some (V.ref d),o2]) (fun N hN=>?_) (fun σ H' h=>?_)
 ·dsimp![];refine⟨⟨_,dL.of (e1 _ _ ha)⟩,?_⟩;refine YQ (xs:=us) (fun i σ H'=>gW d H1 H'/\H' d=some (.dK (dz (yY [] (xS (ts.take i)))))/\∃o1 o2,σ=[o1,some (V.ref d),o2]) ?_ (fun i σ H' _ h=>dL.of (h.1 _ _ (e1 _ _ ha) had)) (fun i x σ H' hx h=>?_) (fun σ H' h=>?_)
  ·exact⟨gW.refl _ _,h1,_,_,rfl⟩
  ·obtain⟨es3,hd3,o1,o2,rfl⟩:=h;obtain⟨u,hu',hx'⟩:=hu.getV hx;have hm:=aX hu';have l0:=YC hm;have l2:=uH (xS (ts.take i)) [];have l3:=kG (ts.take i);have l4:mQ (ts.take i)<=mQ ts:=by
    have :=dH mQ (dM i ts);rw[uA]at this;lia
   dsimp![bf];refine⟨u,fP.tups (e1.tups.trans (es3.tups h1)) hx',(hf u hm).1,(hf u hm).2,_,hd3,by simp at l2;lia,fun H4 e4 h4=>⟨es3.trans e4,?_,_,rfl⟩⟩;rw[QC hu',wT];exact h4
  ·obtain⟨es3,hd3,o1,o2,rfl⟩:=h;rw[aS ()]at hd3;exact hN _ _ ⟨es3,hd3,_,_,rfl⟩
 ·obtain⟨es3,hd3,o1,o2,rfl⟩:=h;dsimp![];refine⟨_,hd3,yY [] (xS ts),by unfold dz;rw[eQ];rfl,h64,fun l zs' fF hp hs=>?_⟩;have es:bB H H':=fun b o hb=>es3 b o (e1 _ _ hb) (xI hb lD)
  exact q _ _ _ (es.trans (zD fF _)) zB hp hs
theorem BC(bi:Bi mg)(h_q:gR P w K mg base 23 "names_of_all" ["terms"] kz)(F:gS K "names_of" "names_of" s_W f fd):dI P w K mg base fY 24 f fd ["t"] spNO:=by
 refine F.okz sc_W fun fL A outer s H vs Q E hr h=>?_
 obtain⟨v,t,rfl,ht,hf,hw,h64,q⟩:=h;refine⟨_,(zG (zO (zI h_q hr.m rfl (zA (yV (zA (pv 0) zC)) zC)))),?_⟩;dsimp![kz];refine⟨small (),fun p hp=>⟨[v],zB,[t],dQ.one (fP.tups (zD hp _).tups ht),fun u hu=>?_,?_,?_,fun p2 zs' H' e h2 hpm hs=>?_⟩⟩
 ·rw[aT.mp hu];exact⟨hf,hw⟩
 ·show wt t+0<=20000;lia
 ·rw[xS,xS,cM];exact h64
 ·rw[xS,xS,cM]at hpm;exact q _ _ _ ((zD hp _).trans e) h2 hpm hs
abbrev s_h:Stmt:=qQ (top 41) 4
theorem sc_h:bZ ["self","sets","t","values"] ["self","sets","t"] (zK s_h):=by rfl'
abbrev s_O:Stmt:=top 42
theorem lp:bZ ["world","names","sets","name"] ["world","names"] (zK s_O):=by rfl'
abbrev ly:Stmt:=top 43
theorem i9:bZ ["world","t","sets"] ["world","t"] (zK ly):=by rfl'
def cmn(m:Nat)(vs:List (List Nat)):List Nat:=(List.range m).filter fun i=>vs.all fun v=>decide (i∈v)
def qB(m:Nat)(ps:List (Nat×Nat))(w:Str)(vs:List (List Nat)):List Nat:=
 if w="none" then []else if w="all" then List.range m else if w="not" then cnt m ps (vs.headD [])else if w="both" then cmn m vs else cnt m ps (cmn m (vs.map (cnt m ps)))
mutual
def val(m:Nat)(ps:List (Nat×Nat))(S:Str->List Nat):Tm->List Nat
 | .name x=>S x
 | .node w ts=>qB m ps w (vals m ps S ts)
def vals(m:Nat)(ps:List (Nat×Nat))(S:Str->List Nat):List Tm->List (List Nat)
 |[]=>[]
 |t::ts=>val m ps S t::vals m ps S ts
end
theorem jQ(m:Nat)(ps:List (Nat×Nat))(S:Str->List Nat):∀ts:List Tm,vals m ps S ts=ts.map (val m ps S)
 |[]=>rfl
 |t::ts=>by rw[vals,jQ m ps S ts,cF]
theorem VR{m:Nat}(h:i∈cnt m ps sp):i<m:=(pZ.mp h).1
theorem VU{m:Nat}(h:i∈cmn m vs):i<m:=bP.mp (cX.mp h).1
theorem ap{m:Nat}{w:Str}(h:i∈qB m ps w vs):i<m:=by
 unfold qB at h;split at h
 ·cases h
 split at h
 ·exact bP.mp h
 split at h
 ·exact VR h
 split at h
 ·exact VU h
 ·exact VR h
theorem QT{m:Nat}(hS:∀x,∀i∈S x,i<m):∀(t:Tm){i:Nat},i∈val m ps S t->i<m
 | .name x,i,h=>by rw[val]at h;exact hS x i h
 | .node w ts,i,h=>by rw[val]at h;exact ap h
theorem VT(m:Nat)(vs:List (List Nat)):(cmn m vs).Pairwise (· < ·):=gP _ dS
theorem tI{m:Nat}(hS:∀x,(S x).Pairwise (· < ·)):∀t:Tm,(val m ps S t).Pairwise (· < ·)
 | .name x=>by rw[val];exact hS x
 | .node w ts=>by
   rw[val];unfold qB;split
   ·exact .nil
   split
   ·exact dS
   split
   ·exact CI ..
   split
   ·exact VT ..
   ·exact CI ..
theorem gy{x:Str}(h:zs.Nodup):(YB zs x).Nodup:=by
 unfold YB;split
 ·exact h
 ·rename_i hx
  rw[mI];refine⟨h,by simp,fun a ha b hb e=>?_⟩;rw[aT.mp hb]at e;exact hx (e▸ha)
theorem QO:∀(xs zs:List Str),zs.Nodup->(yY zs xs).Nodup
 |[],zs,h=>h
 |x::xs,zs,h=>QO xs (YB zs x) (gy h)
theorem wS:∀(xs zs:List Str){y:Str},y∈yY zs xs->y∈zs\/y∈xs
 |[],zs,y,h=>.inl h
 |x::xs,zs,y,h=>by
  rcases wS xs (YB zs x) h with h |h
  ·unfold YB at h;split at h
   ·exact .inl h
   ·rcases bO.mp h with h |h
    ·exact .inl h
    ·exact .inr (by rw[aT.mp h];exact bF)
  ·exact .inr (bE _ h)
theorem qF{α:Type} [DecidableEq α]:∀{l m:List α},l.Nodup->(∀x∈l,x∈m)->l.length<=m.length
 |[],m,_,_=>cG _
 |x::l,m,hn,hs=>by
  have hx:x∈m:=hs x bF;have hn':=iI.mp hn;have :=qF (l:=l) (m:=m.erase x) hn'.2 fun y hy=>by
   have hy':=hs y (bE _ hy);have lL:y≠x:=fun e=>hn'.1 (by rw[←e];exact hy)
   exact(List.mem_erase_of_ne lL).mpr hy'
  rw[List.length_erase_of_mem hx]at this;have :=List.length_pos_of_mem hx;rw[bD];lia
def oY(cs:List Nat)(vs:List (List Nat)):Prop:=cs.length=vs.length/\∀(i:Nat)(c:Nat)(v:List Nat),cs[i]?=some c->vs[i]?=some v->jM c v
theorem oY.snoc{cs:List Nat}{c:Nat}{v:List Nat}(h:oY cs vs)(hc:jM c v):oY (cs++[c]) (vs++[v]):=by
 refine⟨by rw[aI,aI,h.1];rfl,fun i c' v' h1 h2=>?_⟩;by_cases hi:i<cs.length
 ·rw[bC hi]at h1;rw[bC (by rw[←h.1];exact hi)]at h2;exact h.2 i c' v' h1 h2
 ·have :i=cs.length:=by
   have :=(aC.mp h1).1;rw[aI,cC]at this;lia
  subst this;rw[bL (aG _),fM]at h1;rw[bL (by rw[h.1];exact aG _),h.1,fM]at h2;simp at h1 h2;subst h1 h2;exact hc
theorem oY.cmn{m:Nat}{cs:List Nat}(h:oY cs vs){c:Nat}(hc:∀i,c.testBit i=(decide (i<m)&&cs.all fun x=>x.testBit i)):jM c (C.cmn m vs):=fun i=>by
 rw[hc,cE,bQ,bY,bQ,dB];unfold C.cmn;rw[cX,bP,dB];refine and_congr_right fun _=>⟨fun g v hv=>?_,fun g x hx=>?_⟩
 ·obtain⟨j,hj,e⟩:=dO hv;have hj':j<cs.length:=by rw[h.1];exact hj
  have :=g cs[j] (cW hj');rw[h.2 j cs[j] v (aA hj') (by rw[aA hj,e]) i]at this;exact this
 ·obtain⟨j,hj,e⟩:=dO hx;have hj':j<vs.length:=by rw[←h.1];exact hj
  rw[h.2 j x vs[j] (by rw[aA hj,e]) (aA hj') i];exact g vs[j] (cW hj')
theorem HU{P:Program}{w:World}{K:W.Frag}{mg:Str->Option Value}{base:Heap}{C:Addr}{x:Str}{ps:List Str}{f:Addr}{fd:FuncData}{sp:Nat->Sp}(b:Binds K fd ps [])(m:pI K C x f)
 (h0:∀vs H Q E,¬sp 0 vs H Q E) (step:∀n,lA P w K mg base n C x ps (sp n)->dI P w K mg base fY (n+1) f fd ps (sp (n+1))):∀n,dI P w K mg base fY n f fd ps (sp n)
 |0=>⟨fun vs H Q E h=>(h0 vs H Q E h).elim,fun A outer s H args us vs Q E _ _ _ _ h=>(h0 vs H Q E h).elim⟩
 |n+1=>step n ⟨f,fd,HU b m h0 step n,b,m⟩
def bd(C:Addr):Nat->Sp
 |0=>fun _ _ _ _=>False
 |1=>fun _ _ _ _=>False
 |2=>fun _ _ _ _=>False
 |n+3=>fun vs H Q _=>∃(r d:Addr)(v:V)(t:Tm)(m:Nat)(ps:List (Nat×Nat))(kvs:List (eL×V))(S:Str->List Nat),vs=[.ref r,.ref d,v]/\DE C H r m ps/\m<=90/\fP H t v/\fX n t/\wt t<=900/\H d=some (.dK kvs)/\(∀x∈nms t,∃c:Nat,yO kvs (.inr x)=some (nV c)/\jM c (S x))/\(∀x,∀i∈S x,i<m)/\∀(c:Nat) H',bB H H'->jM c (val m ps S t)->Q (.int c) H'
theorem je{ps:List Str}{sp:Sp}(h:∀vs H Q E,¬sp vs H Q E):dI P w K mg base fY n f fd ps sp:=⟨fun vs H Q E g=>(h vs H Q E g).elim,fun A outer s H args us vs Q E _ _ _ _ g=>(h vs H Q E g).elim⟩
structure mZ(H:Hp)(la:Addr)(zs:List Str)(Ss:List (List Nat))(m:Nat):Prop where
 ex:∃(as ls:List Addr),H la=some (.lst (as.map V.ref))/\as.length=zs.length/\ls.length=zs.length/\∀(i:Nat)(z:Str)(sp:List Nat),zs[i]?=some z->Ss[i]?=some sp->∃a l,as[i]?=some a/\ls[i]?=some l/\H a=some (.tup [.str z,.ref l])/\H l=some (.lst (sp.map nV))
 len:Ss.length=zs.length
 low:∀sp∈Ss,(∀i∈sp,i<m)/\sp.Pairwise (· < ·)
theorem mZ.same{la:Addr}{Ss:List (List Nat)}{m:Nat}(e:bB H H')(h:mZ H la zs Ss m):mZ H' la zs Ss m:=by
 obtain⟨⟨as,ls,h1,h2,h3,h4⟩,h5,h6⟩:=h;refine⟨⟨as,ls,e _ _ h1,h2,h3,fun i z sp hz hs=>?_⟩,h5,h6⟩;obtain⟨a,l,g1,g2,g3,g4⟩:=h4 i z sp hz hs;exact⟨a,l,g1,g2,e _ _ g3,e _ _ g4⟩
theorem mZ.mono{la:Addr}{Ss:List (List Nat)}{m:Nat}(h:mZ H la zs Ss m)(hm:m<=n):mZ H la zs Ss n:=⟨h.ex,h.len,fun sp hsp=>⟨fun i hi=>cH ((h.low sp hsp).1 i hi) hm,(h.low sp hsp).2⟩⟩
def zc(zs:List Str)(cs:List Nat):List (eL×V):=(zs.zip cs).map fun p=>(.inr p.1,nV p.2)
theorem DL:∀{zs:List Str}{cs:List Nat}{i:Nat}{x:Str}{c:Nat},zs.Nodup->zs[i]?=some x->cs[i]?=some c->yO (zc zs cs) (.inr x)=some (nV c)
 |z::zs,d::cs,0,x,c,_,h1,h2=>by
  simp only[pN,GU]at h1 h2;subst h1 h2;exact jZ rfl
 |z::zs,d::cs,i+1,x,c,hn,h1,h2=>by
  simp only[List.getElem?_cons_succ]at h1 h2;have hn':=iI.mp hn;have e:yO (zc (z::zs) (d::cs)) (.inr x)=yO (zc zs cs) (.inr x):=qA (fun e=>hn'.1 (by rw[show z=x from OA e];exact aX h1));rw[e];exact DL hn'.2 h1 h2
 |[],_,i,x,c,_,h1,_=>by simp at h1
 |_,[],i,x,c,_,_,h2=>by simp at h2
inductive kj (K:W.Frag) (vs:List V) (H:Hp) (Q:VK) (E:XK):Prop
 |mk (wa:Addr) (v:V) (t:Tm) (m:Nat) (ca:Addr) (us:List V) (ps:List (Nat×Nat)) (la:Addr) (zs:List Str) (Ss:List (List Nat)) (S:Str->List Nat) (_:vs=[.ref wa,v]) (_:H wa=some (.tup [nV m,.ref ca,.ref la])) (_:H ca=some (.lst us)) (_:bG H (ps.map NT) us) (_:Ok2 m ps) (_:m<=90) (_:mZ H la zs Ss m) (_:(zs.Nodup/\zs.length<=5)) (_:fP H t v) (_:fX 20 t) (_:wt t<=900) (_:(∀x∈nms t,x∈zs)) (_:(∀(i:Nat)(z:Str),zs[i]?=some z->Ss[i]?=some (S z))) (_:(∀z,(∀i∈S z,i<m)/\(S z).Pairwise (· < ·))) (_:∀(p:Addr)(H':Hp),bB H H'->H p=none->H' p=some (.lst ((val m ps S t).map nV))->Q (.ref p) H')
inductive spSF (K:W.Frag) (vs:List V) (H:Hp) (Q:VK) (E:XK):Prop
 |mk (wa na:Addr) (ys:List Str) (m:Nat) (cps:V) (la:Addr) (zs:List Str) (Ss:List (List Nat)) (_:vs=[.ref wa,.ref na]) (_:H wa=some (.tup [nV m,cps,.ref la])) (_:mZ H la zs Ss 90) (_:H na=some (.lst (ys.map V.str))) (_:(∀y∈ys,y∈zs)) (_:(zs.Nodup/\zs.length<=5)) (_:∀p cs H',bB H H'->H' p=some (.dK (zc zs cs))->oY cs Ss->Q (.ref p) H')
theorem AV{C:Addr}(T:FlC K C)(bi:Bi mg)(h_e:lA P w K mg base 1 C "common_of" ["self","sets"] (bh K C))(h_i:lA P w K mg base 2 C "counter_of" ["self","spots"] (lf C))(F:gS K "value_of" "Floor.value_of" s_h f fd)(b:Binds K fd ["self","sets","t"] [])(mt:pI K C "value_of" f):∀n,dI P w K mg base fY n f fd ["self","sets","t"] (bd C n):=by
 refine HU b mt (fun vs H Q E h=>h) (fun n h_h=>?_)
 match n with
 |0=>exact je fun vs H Q E h=>h
 |1=>exact je fun vs H Q E h=>h
 |n+2=>
 refine F.okz sc_h fun fL A outer s H vs Q E hr h=>?_
 obtain⟨r,d,v,t,m,ps,kvs,S,rfl,hfl,hm90,ht,hf,hw,hd,hS,hSm,q⟩:=h;have hfl':=hfl;obtain⟨dx,lx,cs,lY,fF,hmk⟩:=hfl';have fZ:=T.cl;refine⟨_,(zF (yI (zQ xG (zM zP (pv 2) zE) zR (zU _)) (zG (zO zE)) zW) (zF (yI (zQ xG (zM zP (pv 2) zE) zR (zU _)) (zG (zO (xD (pv 0) rfl))) zW) (zF (yI (zQ xG (zM zP (pv 2) zE) zR (zU _)) (zG (zO (YK (xU hr) (pv 1) (zM zP (pv 2) zE) (fun _ _=>rfl)))) zW) (zF (UL (i:=3) ["part"] ["sets","self"] [1,0] sc_h.nd rfl (wK (qE DZ (pv 2) (qN zE) vT)) (fun _ _ _ _ nd=>yF 0 nd) (fun _ _ _ _=>xE) (fun _ _ _ _=>(zZ h_h fZ hr.m (pv 2) (zA (pv 1) (zA (pv 0) zC))))) (zF (yI (zQ xG (zM zP (pv 2) zE) zR (zU _)) (zG (zO (zZ h_i fZ hr.m (pv 0) (zA (zM yH (pv 3) zE) zC)))) zW) (zF (yI (zQ xG (zM zP (pv 2) zE) zR (zU _)) (zG (zO (zZ h_e fZ hr.m (pv 0) (zA (pv 3) zC)))) zW) (zG (zO (zZ h_i fZ hr.m (pv 0) (zA (zZ h_e fZ hr.m (pv 0) (zA (yU ["spots"] ["self"] [0] (yG (pv 3)) (fun _ _ _ _ nd=>yF 0 nd) (fun _ _ _ _=>xE) (fun _ _ _ _=>(zZ h_i fZ hr.m (pv 1) (zA (pv 0) zC)))) zC)) zC)))))))))),?_⟩;cases t with
 |name x=>
  obtain⟨a,rfl,ha⟩:=fP.name ht;obtain⟨c,hc1,hc2⟩:=hS x (by rw[nms];exact aT.mpr rfl);dsimp![yT,jA];refine⟨_,dN.of ha,.str "name",mK,rfl,?_⟩;rw[aH (by intro z;exact absurd (V.str.inj z) ())];refine⟨_,dN.of ha,.str "name",mK,rfl,?_⟩;rw[aH (by intro z;exact absurd (V.str.inj z) ())];refine⟨_,dN.of ha,.str "name",mK,rfl,?_⟩;rw[aL rfl];refine⟨_,dN.of ha,.str x,rG,_,hc1▸oA.k (k:=.inr x) hd,?_⟩;exact q c _ (bB.refl _) (by rw[val];exact hc2)
 |node wd ts=>
  obtain⟨a,us,rfl,ha,hu⟩:=fP.node ht;have hwd:=hf.wrd;have hsh:=hf.sh;have hl:=hu.length;have hll:=QP ts;rw[wt]at hw;have hwr:val m ps S (.node wd ts)=qB m ps wd (ts.map (val m ps S)):=by rw[val,jQ]
  rw[hwr]at q;have hSm':∀t∈ts,∀x∈nms t,∃c:Nat,yO kvs (.inr x)=some (nV c)/\jM c (S x):=fun t ht x hx=>hS x (by rw[nms];exact rE.mpr ⟨t,ht,hx⟩)
  refine zH fun N hN=>?_
  dsimp![yT,jA];refine⟨_,dN.of ha,.str wd,mK,rfl,?_⟩;by_cases c1:wd="none"
  ·rw[aL (by rw[c1])];have e:qB m ps wd (ts.map (val m ps S))=[]:=by unfold qB;rw[aL c1]
   rw[e]at q;exact q 0 _ (bB.refl _) fun i=>by simp
  rw[aH (fun z=>c1 (V.str.inj z))];refine hN _ _ ?_;clear hN;refine zH fun N hN=>?_
  dsimp![yT,jA];refine⟨_,dN.of ha,.str wd,mK,rfl,?_⟩;by_cases c2:wd="all"
  ·rw[aL (by rw[c2])];have e:qB m ps wd (ts.map (val m ps S))=List.range m:=by unfold qB;rw[aH c1,aL c2]
   rw[e]at q;exact⟨C,dx,_,lY,T.cl,T.nE,_,fl_e _ _,q (2^m-1) _ (bB.refl _) fun i=>by rw[oB];simp⟩
  rw[aH (fun z=>c2 (V.str.inj z))];refine hN _ _ ?_;clear hN;refine zH fun N hN=>?_
  dsimp![yT,jA];refine⟨_,dN.of ha,.str wd,mK,rfl,?_⟩;rw[aH (fun z=>hwd.ne (V.str.inj z))];refine hN _ _ ?_;clear hN;refine zH fun N hN=>?_
  dsimp![yT,jA];refine⟨_,dN.of ha,uO _ _,fun p2 mU=>?_⟩;rw[kN];have s2:=zD mU (.tup us);have k2:upd H p2 (.tup us) p2=some (.tup us):=zB;generalize upd H p2 (.tup us)=H2 at s2 k2⊢;refine⟨⟨_,dN.of k2⟩,?_⟩;refine US (xs:=us) (fun i ys σ H'=>bB H2 H'/\(∃cs:List Nat,ys=cs.map nV/\cs.length=i/\oY cs ((ts.map (val m ps S)).take i))/\∃o,σ=[o,some (V.ref d),some (V.ref r)]) ⟨bB.refl _,⟨[],rfl,rfl,rfl,fun i c v h=>by simp at h⟩,_,rfl⟩ (small ()) (fun i ys σ H' e=>?_) (fun i ys σ H' e=>dN.of (e.1 _ _ k2)) (fun i x ys σ H' C' hx e hC=>?_) (fun ys σ H' e p3 hp3=>hN _ _ ?_)
  ·obtain⟨_,⟨cs,rfl,h1,_⟩,_⟩:=e;rw[aE,h1];exact aG _
  ·obtain⟨es,⟨cs,rfl,hcl,hcs⟩,o,rfl⟩:=e;obtain⟨t,ht',hx'⟩:=hu.getV hx;cases n with
   |zero=>have :=hf.2;subst this;simp at ht'
   |succ n=>
    have hm:=aX ht';have hmt:=YC hm;have s3:=s2.trans es;dsimp![yT,jA,bd];refine⟨_,_,s3 _ _ lY,ZR _ _ () (),t,m,ps,hfl.same s3,hm90,fP.tups s3.tups hx',hf.part hm,(),kvs,s3 _ _ hd,S,hSm' t hm,hSm,fun c H3 e3 hc=>hC _ _ _ ⟨es.trans e3,⟨cs++[c],by rw[aU];rfl,by rw[aI,hcl];rfl,?_⟩,_,rfl⟩⟩;obtain⟨hil,hi2⟩:=aC.mp (show(ts.map (val m ps S))[i]?=some (val m ps S t) by rw[aK,ht'];rfl);rw[aM hil,hi2];exact hcs.snoc hc
  clear hN;obtain⟨es,⟨cs,rfl,hcl,hcs⟩,o,rfl⟩:=e;rw[show(ts.map (val m ps S)).take us.length=ts.map (val m ps S)from aS (by rw[aE];lia)]at hcs;have s3:=(s2.trans es).trans (zD hp3 (.lst (cs.map nV)));have k3:upd H' p3 (.lst (cs.map nV)) p3=some (.lst (cs.map nV)):=zB;generalize upd H' p3 (.lst (cs.map nV))=H3 at s3 k3⊢;have hfl3:=hfl.same s3;have lS:∀(i:Nat)(v:List Nat),(ts.map (val m ps S))[i]?=some v->∀x∈v,x<m:=fun i v hv x hx=>by
   rw[aK]at hv;obtain⟨t,ht,rfl⟩:=aO.mp hv;exact QT hSm t hx
  have hvl:(ts.map (val m ps S)).length=ts.length:=aE _;generalize hvs:ts.map (val m ps S)=vs at hcs q lS hvl;refine zH fun N hN=>?_
  dsimp![yT,jA];refine⟨_,dN.of (s3 _ _ ha),.str wd,mK,rfl,?_⟩;by_cases c3:wd="not"
  ·rw[aL (by rw[c3])];have h1:ts.length=1:=by
    rcases hsh with h |h |h |h |h
    ·exact absurd h.1 c1
    ·exact absurd h.1 c2
    ·exact h.2
    ·rw[c3]at h;exact absurd h.1 ()
    ·rw[c3]at h;exact absurd h.1 ()
   obtain⟨v0,rfl⟩:∃v0,vs=[v0]:=by
    match vs,(show vs.length=1 by lia)with
    |[v0],_=>exact⟨v0,rfl⟩
   obtain⟨c0,rfl⟩:∃c0,cs=[c0]:=by
    match cs,(show cs.length=1 by rw[hcs.1];rfl)with
    |[c0],_=>exact⟨c0,rfl⟩
   have e:qB m ps wd [v0]=cnt m ps v0:=by unfold qB;rw[aH c1,aH c2,aL c3];rfl
   rw[e]at q;obtain⟨xs,hx1,hx2⟩:=VL c0 v0 (hcs.2 0 c0 v0 rfl rfl);refine⟨_,_,s3 _ _ lY,ZR _ _ () (),_,dL.of k3,nV c0,mK,?_⟩;refine⟨r,m,c0,ps,xs,rfl,hfl3,hm90,hx1,fun x hx=>lS 0 v0 rfl x ((hx2 x).mp hx),fun c H4 s4 hc=>q c _ (s3.trans s4) ?_⟩;rw[ZI hx2]at hc;exact hc
  rw[aH (fun z=>c3 (V.str.inj z))];refine hN _ _ ?_;clear hN;refine zH fun N hN=>?_
  dsimp![yT,jA];refine⟨_,dN.of (s3 _ _ ha),.str wd,mK,rfl,?_⟩;by_cases c4:wd="both"
  ·rw[aL (by rw[c4])];have e:qB m ps wd vs=cmn m vs:=by unfold qB;rw[aH c1,aH c2,aH c3,aL c4]
   rw[e]at q;refine⟨_,_,s3 _ _ lY,ZR _ _ () (),?_⟩;exact⟨r,p3,m,ps,cs,rfl,hfl3,dL.of k3,(),fun c hc=>q c _ s3 (hcs.cmn hc)⟩
  rw[aH (fun z=>c4 (V.str.inj z))];refine hN _ _ ?_;clear hN;have e:qB m ps wd vs=cnt m ps (cmn m (vs.map (cnt m ps))):=by unfold qB;rw[aH c1,aH c2,aH c3,aH c4]
  rw[e]at q;dsimp![yT,jA];refine⟨_,_,s3 _ _ lY,ZR _ _ () (),_,_,s3 _ _ lY,ZR _ _ () (),⟨_,dL.of k3⟩,?_⟩;refine jX (xs:=cs.map nV) (fun i ys σ H'=>bB H3 H'/\(∃ds:List Nat,ys=ds.map nV/\ds.length=i/\oY ds ((vs.map (cnt m ps)).take i))/\∃o,σ=[o,some (V.ref r)]) ⟨bB.refl _,⟨[],rfl,rfl,rfl,fun i c v h=>by simp at h⟩,_,rfl⟩ (small (by rw[aE];lia)) (fun i ys σ H' e=>?_) (fun i ys σ H' e=>dL.of (e.1 _ _ k3)) (fun i x ys σ H' C' hx e hC=>?_) (fun ys σ H' e p4 hp4=>?_)
  ·obtain⟨_,⟨ds,rfl,h1,_⟩,_⟩:=e;rw[aE,h1];exact aG _
  ·obtain⟨es',⟨ds,rfl,hdl,hds⟩,o,rfl⟩:=e;rw[aK]at hx;obtain⟨c0,hc0,rfl⟩:=aO.mp hx;have hiv:i<vs.length:=by rw[←hcs.1];exact(aC.mp hc0).1
   have hv0:vs[i]?=some vs[i]:=aA hiv;obtain⟨xs,hx1,hx2⟩:=VL c0 vs[i] (hcs.2 i c0 _ hc0 hv0);have s4:=s3.trans es';dsimp![yT,jA];refine⟨_,_,s4 _ _ lY,ZR _ _ () (),r,m,c0,ps,xs,rfl,hfl.same s4,hm90,hx1,fun x hx=>lS i _ hv0 x ((hx2 x).mp hx),fun c H4 s5 hc=>hC _ _ _ ⟨es'.trans s5,⟨ds++[c],by rw[aU];rfl,by rw[aI,hdl];rfl,?_⟩,_,rfl⟩⟩;rw[ZI hx2]at hc;obtain⟨hil,hi2⟩:=aC.mp (show(vs.map (cnt m ps))[i]?=some (cnt m ps vs[i]) by rw[aK,hv0];rfl);rw[aM hil,hi2];exact hds.snoc hc
  obtain⟨es',⟨ds,rfl,hdl,hds⟩,o,rfl⟩:=e;rw[aE]at hds hdl;rw[show(vs.map (cnt m ps)).take cs.length=vs.map (cnt m ps)from aS (by rw[aE,hcs.1];exact aG _)]at hds;have s4:=(s3.trans es').trans (zD hp4 (.lst (ds.map nV)));have k4:upd H' p4 (.lst (ds.map nV)) p4=some (.lst (ds.map nV)):=zB;generalize upd H' p4 (.lst (ds.map nV))=H4 at s4 k4⊢;refine⟨r,p4,m,ps,ds,rfl,hfl.same s4,dL.of k4,(),fun c hc=>?_⟩;have hm1:=hds.cmn hc;obtain⟨xs,hx1,hx2⟩:=VL c _ hm1;refine⟨r,m,c,ps,xs,rfl,hfl.same s4,hm90,hx1,fun x hx=>VU ((hx2 x).mp hx),fun c' H5 s5 hc'=>q c' _ (s4.trans s5) ?_⟩;rw[ZI hx2]at hc';exact hc'
theorem AZ(bi:Bi mg)(h_Y:gR P w K mg base 1 "mask_of" ["numbers"] (DW K))(F:gS K "sets_for" "sets_for" s_O f fd):dI P w K mg base fY 2 f fd ["world","names"] (spSF K):=by
 refine F.okz lp fun fL A outer s H vs Q E hr h=>?_
 obtain⟨wa,na,ys,m,cps,la,zs,Ss,rfl,hwa,hrw,hys,hsub,lD,q⟩:=h;refine⟨_,(zF (yD 2 lp.nd (xO JB rfl bi.dict YS (zA (yU ["name","spots"] [] [] (yG (zM zP (pv 0) zE)) (fun _ _ _ _ nd=>qO (K:=K) (n:=2) rfl (zY (yF 0 nd) (zY (yF 1 nd) xH))) (fun _ _ _ _=>xE) (fun _ _ _ _=>(zN (zA (pv 0) (zA (zI h_Y hr.m rfl (zA (pv 1) zC)) zC))))) zC))) (zF (yM bM rfl (yG (pv 1)) (yF 3 lp.nd) (zG (yI (kT (JX (xU hr) (pv 3) (pv 2)) (by with_unfolding_all rfl)) (zG AD) zW))) (zG (zO (pv 2))))),?_⟩;refine zH fun N hN=>?_
 dsimp![];have at2:∀{a b c:V},oU [a,b,c] 2=some c:=yE (j:=2) rfl;obtain⟨⟨as,ls,h1,h2,h3,h4⟩,h5,h6⟩:=hrw;refine⟨_,dN.of hwa,.ref la,at2,la,rfl,⟨_,dL.of h1⟩,?_⟩;refine jX (xs:=as.map V.ref) (fun i ys σ H'=>bB H H'/\(∃(bs:List Addr)(cs:List Nat),ys=bs.map V.ref/\bs.length=i/\oY cs (Ss.take i)/\∀(j:Nat)(z:Str)(c:Nat),(zs.take i)[j]?=some z->cs[j]?=some c->∃b,bs[j]?=some b/\H' b=some (.tup [.str z,nV c]))/\∃o1 o2,σ=[o1,o2]) ⟨bB.refl _,⟨[],[],rfl,rfl,⟨rfl,fun i c v h=>by simp at h⟩,fun j z c h=>by simp at h⟩,_,_,rfl⟩ (small (by rw[aE];lia)) (fun i ys σ H' e=>?_) (fun i ys σ H' e=>dL.of (e.1 _ _ h1)) (fun i x ys σ H' C' hx e hC=>?_) (fun ys σ H' e p3 hp3=>?_)
 ·obtain⟨_,⟨bs,cs,rfl,h1,_⟩,_⟩:=e;rw[aE,h1];exact aG _
 ·obtain⟨es,⟨bs,cs,rfl,hbl,hcs,hbs⟩,o1,o2,rfl⟩:=e;rw[aK]at hx;obtain⟨a,ha,rfl⟩:=aO.mp hx;have hia:=(aC.mp ha).1;have hiz:i<zs.length:=by lia
  have hiS:i<Ss.length:=by lia
  obtain⟨a',l,g1,g2,g3,g4⟩:=h4 i zs[i] Ss[i] (aA hiz) (aA hiS);rw[ha]at g1;cases g1;have hlow:=h6 Ss[i] (cW hiS);dsimp![vI,jU,wC,DW];refine⟨_,dN.of (es _ _ g3),rfl,_,_,rfl,_,_,rfl,rfl,l,rfl,Ss[i],dL.of (es _ _ g4),fun n hn=>by have :=hlow.1 n hn;lia,fun c hc=>⟨small (),fun p hp=>hC _ _ _ ⟨es.trans (zD hp _),⟨bs++[p],cs++[c],by rw[aU];rfl,by rw[aI,hbl];rfl,?_,fun j z c' hz hc'=>?_⟩,_,_,rfl⟩⟩⟩
  ·rw[aM hiS];exact hcs.snoc hc
  ·have hcl:cs.length=i:=by rw[hcs.1,bX];lia
   have hjl:=(aC.mp hc').1;rw[aI,cC]at hjl;by_cases hj:j<i
   ·rw[bC ()]at hc';rw[lJ ()]at hz;obtain⟨b,q1,q2⟩:=hbs j z c' (by rw[lJ hj];exact hz) hc';exact⟨b,by rw[bC ()];exact q1,zD hp _ _ _ q2⟩
   ·have hji:j=i:=by lia
    subst hji;rw[lJ (),aA hiz]at hz;rw[bL (),hcl,fM]at hc';simp at hc';cases hz;subst hc';exact⟨p,by rw[bL (),hbl];simp,zB⟩
 obtain⟨es,⟨bs,cs,rfl,hbl,hcs,hbs⟩,o1,o2,rfl⟩:=e;rw[aE]at hbl hcs hbs;rw[aS ()]at hcs hbs;have hcl:cs.length=zs.length:=by rw[hcs.1];lia
 have s3:=es.trans (zD hp3 (.lst (bs.map V.ref)));have k3:upd H' p3 (.lst (bs.map V.ref)) p3=some (.lst (bs.map V.ref)):=zB;have hbs3:∀(j:Nat)(z:Str)(c:Nat),zs[j]?=some z->cs[j]?=some c->∃b,bs[j]?=some b/\upd H' p3 (.lst (bs.map V.ref)) b=some (.tup [.str z,nV c]):=fun j z c hz hc=>by
  obtain⟨b,q1,q2⟩:=hbs j z c hz hc;exact⟨b,q1,zD hp3 _ _ _ q2⟩
 generalize upd H' p3 (.lst (bs.map V.ref))=H3 at s3 k3 hbs3⊢;have hkl:(zc zs cs).length=zs.length:=by
  unfold zc;rw[aE,List.length_zip];lia
 refine⟨p3,rfl,bs,dL.of k3,zc zs cs,(),?_,fun i k u hi=>?_,fun l hl=>hN _ _ ?_⟩
 ·have e:(zc zs cs).map (·.1)=zs.map Sum.inr:=by
   unfold zc;rw[eQ];have :((fun x:eL×V=>x.1) ∘ fun p:Str×Nat=>((.inr p.1:eL),nV p.2))=Sum.inr ∘ Prod.fst:=rfl;rw[this,←eQ,List.map_fst_zip ()]
  rw[e];exact List.Pairwise.map _ (fun a b h e=>h (OA e)) lD.1
 ·unfold zc at hi;rw[aK]at hi;obtain⟨y,hy,ey⟩:=aO.mp hi;obtain⟨y1,y2⟩:=j5.mp hy;cases ey;obtain⟨b,q1,q2⟩:=hbs3 i y.1 y.2 y1 y2;exact⟨b,q1,dN.of q2⟩
 clear hN;have s4:=s3.trans (zD hl (.dK (zc zs cs)));have k4:upd H3 l (.dK (zc zs cs)) l=some (.dK (zc zs cs)):=zB;generalize upd H3 l (.dK (zc zs cs))=H4 at s4 k4⊢;refine yB (fun σ H'=>H'=H4/\∃o,σ=[some (V.ref wa),some (V.ref na),some (V.ref l),o]) (fun N hN=>?_) (fun σ H' h=>?_)
 ·dsimp![];refine⟨⟨_,dL.of (s4 _ _ hys)⟩,?_⟩;refine YQ (xs:=ys.map V.str) (fun i σ H'=>H'=H4/\∃o,σ=[some (V.ref wa),some (V.ref na),some (V.ref l),o]) ⟨rfl,_,rfl⟩ (fun i σ H' _ h=>by rw[h.1];exact dL.of (s4 _ _ hys)) (fun i x σ H' hx h=>?_) (fun σ H' h=>hN _ _ h);obtain⟨rfl,o,rfl⟩:=h;rw[aK]at hx;obtain⟨y,hy,rfl⟩:=aO.mp hx;obtain⟨j,hj,e⟩:=dO (hsub y (aX hy));dsimp![QX];refine⟨_,oA.k (k:=.inr y) k4,?_⟩;have hv:=DL lD.1 (show zs[j]?=some y by rw[aA hj,e]) (aA (show j<cs.length by lia));rw[hv,aH (by simp)];exact⟨_,rfl⟩
 obtain⟨rfl,o,rfl⟩:=h;dsimp![];exact q _ _ _ s4 k4 hcs
theorem RY{C:Addr}(T:FlC K C)(bi:Bi mg)(h_O:gR P w K mg base 2 "sets_for" ["world","names"] (spSF K))(h_W:gR P w K mg base 24 "names_of" ["t"] spNO)(h_F:gR P w K mg base 1 "bits_of" ["mask"] sH)(h_C:WO P w K mg base 1 C "Floor" ["self","many","clashes"] (lc C))(h_h:lA P w K mg base 23 C "value_of" ["self","sets","t"] (bd C 23))(F:gS K "value" "value" ly f fd):dI P w K mg base fY 25 f fd ["world","t"] (kj K):=by
 refine F.okz i9 fun fL A outer s H vs Q E hr h=>?_
 obtain⟨wa,v,t,m,ca,us,ps,la,zs,Ss,S,rfl,hwa,hca,hps,hok2,hm90,hrw,lD,ht,hf,hw,hsub,hSS,hSr,q⟩:=h;have fZ:=T.cl;refine⟨_,(zF (yD 2 i9.nd (zI h_O hr.m rfl (zA (pv 0) (zA (zI h_W hr.m rfl (zA (pv 1) zC)) zC)))) (zG (zO (zI h_F hr.m rfl (zA (zZ h_h fZ hr.m (AM h_C hr.m rfl (zA (zM zP (pv 0) zE) (zA (zM zP (pv 0) zE) zC))) (zA (pv 2) (zA (pv 1) zC))) zC))))),?_⟩;refine zH fun N hN=>?_
 dsimp![];have hal:(yY [] (nms t)).length<=zs.length:=qF (QO _ _ .nil) fun y hy=>by
  rcases wS _ _ hy with h |h
  ·cases h
  ·exact hsub y h
 refine⟨v,t,rfl,ht,hf,hw,(),fun pn zs' H1 s1 k1 hperm _=>?_⟩;refine⟨wa,pn,zs',m,.ref ca,la,zs,Ss,rfl,s1 _ _ hwa,(hrw.same s1).mono hm90,k1,fun y hy=>?_,lD,fun pd cs H2 s2 k2 hcs=>hN _ _ ?_⟩
 ·rcases wS _ _ (hperm.mem_iff.mp hy)with h |h
  ·cases h
  ·exact hsub y h
 clear hN;replace s2:=s1.trans s2;dsimp![yT,HF];have at1':∀{a b c:V},oU [a,b,c] 1=some b:=yE (j:=1) rfl;refine⟨_,dN.of (s2 _ _ hwa),_,mK,_,dN.of (s2 _ _ hwa),_,at1',fun x dx hx hdx lL=>?_⟩;have s3:bB H2 (upd (upd H2 dx (.own x)) x (.ins C dx [])):=((bB.refl H2).upd hdx).upd hx;have k3:upd (upd H2 dx (.own x)) x (.ins C dx []) x=some (.ins C dx []):=zB;generalize upd (upd H2 dx (.own x)) x (.ins C dx [])=H3 at s3 k3⊢;have hca2:=s2 _ _ hca;have hcx:ca≠x:=fun z=>by rw[z,hx]at hca2;cases hca2
 refine⟨x,dx,ca,m,us,ps,rfl,k3,hcx,s3 _ _ hca2,bG.same (s2.trans s3) hps,hok2,hm90,fun H4 s4 hfl=>?_⟩;have s24:bB H2 H4:=fun b o hb=>s4 b o (s3 _ _ hb) (fun z=>by rw[z,hx]at hb;cases hb)
 have hfl':=hfl;obtain⟨dx',l,cs',lY,_,_⟩:=hfl';have s5:=s2.trans s24;refine⟨rfl,_,_,lY,ZR _ _ () (),?_⟩;refine⟨x,pd,v,t,m,ps,zc zs cs,S,rfl,hfl,hm90,fP.tups s5.tups ht,hf,hw,s24 _ _ k2,fun y hy=>?_,fun y i hi=>(hSr y).1 i hi,fun c H6 s6 hc=>?_⟩
 ·obtain⟨j,hj,e⟩:=dO (hsub y hy);have hz:zs[j]?=some y:=by rw[aA hj,e]
  have hjc:j<cs.length:=by rw[hcs.1,hrw.len];exact hj
  exact⟨cs[j],DL lD.1 hz (aA hjc),hcs.2 j _ _ (aA hjc) (hSS j y hz)⟩
 ·refine⟨c,val m ps S t,rfl,⟨tI (fun y=>(hSr y).2) t,hc⟩,fun y hy=>by have :=QT (fun y i hi=>(hSr y).1 i hi) t hy;lia,fun p H7 s7 hp k7=>q p H7 ((s5.trans s6).trans s7) ((s5.trans s6).free hp) k7⟩
abbrev s_T:Stmt:=top 51
theorem sc_T:bZ ["many","pairs"] ["many","pairs"] (zK s_T):=by rfl'
abbrev s_w:Stmt:=top 52
theorem bp:bZ ["spots","pairs","clashes","a","i"] ["spots","pairs"] (zK s_w):=by rfl'
abbrev s_z:Stmt:=top 53
theorem sc_z:bZ ["spots","pairs","n"] ["spots","pairs","n"] (zK s_z):=by rfl'
theorem ZD{ns:List Str}{js:List Nat}{g:TG}{tc:TT}{te:TE}{σ:St}{Q:VK}(Pv:Nat->List V->St->Hp->Prop)(h0:Pv 0 [] (JL ns js σ) H)(hz:xs.length<=sizeLine)(hl:∀i ys σ H,Pv i ys σ H->ys.length<=i)
 (hK:∀i ys σ H,Pv i ys σ H->H a=some (.lst xs))
 (hs:∀(i:Nat) x ys σ H p (C:V->St->Hp->Prop) (D:St->Hp->Prop),xs[i]?=some x->Pv i ys σ H->H p=none->(∀y σ2 H3,Pv (i+1) (ys++[y]) σ2 H3->C y σ2 H3)->(∀σ2 H3,Pv (i+1) ys σ2 H3->D σ2 H3)->
  g (.ref p) σ (upd H p (.tup [.int i,x])) fun σ2 H2=>tc σ2 H2 fun b H3=>if b=true then te σ2 H3 fun y H4=>C y σ2 H4 else D σ2 H3)
 (hd:∀ys σ H,Pv xs.length ys σ H->∀p,H p=none->Q (.ref p) (upd H p (.lst ys))):
 ai (Ite a) ns js g (some tc) te σ H Q:=by
 refine⟨fun i m ys σ H=>m=xs.length-i/\i<=xs.length/\Pv i ys σ H,⟨xs.length,(),cG _,h0⟩,fun i m ys σ1 H1 ⟨hm,hi,hp⟩=>?_⟩;have k1:=hK i ys σ1 H1 hp;by_cases h:i<xs.length
 ·refine .inr ⟨⟨xs,xs[i],k1,aA h⟩,?_,fun x H' ⟨p,y,e1,e2,e3,e4⟩=>?_⟩
  ·have :=hl i ys σ1 H1 hp;lia
  ·subst e1;subst e3;exact hs i y ys σ1 H1 p _ _ (e4 xs k1) hp e2 (fun y σ2 H3 q=>⟨xs.length-(i+1),(),rfl,(),q⟩) fun σ2 H3 q=>⟨xs.length-(i+1),(),rfl,(),q⟩
 ·have e:i=xs.length:=by lia
  subst e;exact .inl ⟨⟨xs,k1,aG _⟩,hd ys σ1 H1 hp⟩
def sF(ls:List Ln):List (List eL×V):=ls.map fun l=>(xF l.i l.j,V.bl true)
def rl(ls:List Ln)(i j:Nat):Bool:=zS ls i j
theorem YJ(ls:List Ln)(i j:Int):(yO (sF ls) (xF i j)).isSome=zS ls i j:=by
 induction ls with
 |nil=>rfl
 |cons l ls ih=>
  unfold zS;rw[mY];by_cases e:xF l.i l.j=xF i j
  ·have h:yO (sF (l::ls)) (xF i j)=some (V.bl true):=jZ e;rw[h];have e':l.i=i/\l.j=j:=by
    unfold xF at e;simp only[List.cons.injEq,Sum.inl.injEq,and_true]at e;exact e
   simp[e'.1,e'.2]
  ·have h:yO (sF (l::ls)) (xF i j)=yO (sF ls) (xF i j):=qA e;rw[h,ih];have e':(l.i==i&&l.j==j)=false:=by
    rw[dX];intro z;simp only[bY,cQ]at z;exact e (by rw[z.1,z.2])
   rw[e',Bool.false_or];rfl
theorem dgB{d:Addr}{ls:List Ln}{i j:Int}(hd:H d=some (.dT (sF ls)))(es:bB H H')(hp:H' p=some (.tup [V.int i,V.int j])):oA H' d (.ref p) (yO (sF ls) (xF i j)):=oA.t (k:=xF i j) (es _ _ hd) hp
def yR(m:Nat)(R:Nat->Nat->Bool):List Nat:=(List.range m).filter fun n=>!R n (lP n)
def jF(sp:List Nat)(R:Nat->Nat->Bool)(n:Nat):List Nat:=(List.range sp.length).filter fun a=>R (sp.getD a 0) n
def wR(sp:List Nat)(R:Nat->Nat->Bool):List (Nat×Nat):=(List.range sp.length).flatMap fun a=>((List.range sp.length).filter fun b=>decide (a<b)&&R (sp.getD a 0) (lP (sp.getD b 0))).map fun b=>(a,b)
inductive spSb (vs:List V) (H:Hp) (Q:VK) (E:XK):Prop
 |mk (m:Nat) (d:Addr) (ls:List Ln) (_:vs=[.int m,.ref d]) (_:m<=200) (_:H d=some (.dT (sF ls))) (_:∀p H',bB H H'->H p=none->H' p=some (.lst ((yR m (rl ls)).map nV))->Q (.ref p) H')
inductive spSu (vs:List V) (H:Hp) (Q:VK) (E:XK):Prop
 |mk (sa d:Addr) (sp:List Nat) (ls:List Ln) (n:Nat) (_:vs=[.ref sa,.ref d,.int n]) (_:H sa=some (.lst (sp.map nV))) (_:sp.length<=200) (_:H d=some (.dT (sF ls))) (_:∀p H',bB H H'->H p=none->H' p=some (.lst ((jF sp (rl ls) n).map nV))->Q (.ref p) H')
inductive spCb (vs:List V) (H:Hp) (Q:VK) (E:XK):Prop
 |mk (sa d:Addr) (sp:List Nat) (ls:List Ln) (_:vs=[.ref sa,.ref d]) (_:H sa=some (.lst (sp.map nV))) (_:sp.length<=60) (_:(∀x∈sp,x<200)) (_:H d=some (.dT (sF ls))) (_:∀p us H',bB H H'->H p=none->H' p=some (.lst us)->bG H' ((wR sp (rl ls)).map NT) us->Q (.ref p) H')
theorem AX(bi:Bi mg)(F:gS K "spots_by" "spots_by" s_T f fd):dI P w K mg base fY 1 f fd ["many","pairs"] spSb:=by
 refine F.okz sc_T fun fL A outer s H vs Q E hr h=>?_
 obtain⟨m,d,ls,rfl,hm,hd,q⟩:=h;refine⟨_,(zG (zO (yU ["n"] ["pairs"] [1] (xY rfl bi.range (zA (pv 0) zC)) (fun _ _ _ _ nd=>yF 0 nd) (fun _ _ _ _=>kD (kT (JX (xU hr) (zN (zA (pv 0) (zA (zL kX (pv 0) zE) zC))) (pv 1)) (by with_unfolding_all rfl))) (fun _ _ _ _=>(pv 0))))),?_⟩;dsimp![];refine⟨(),(),?_⟩;refine FM (n:=(m:Int).toNat) (fun i ys σ H'=>bB H H'/\ys=((List.range i).filter fun n=>!rl ls n (lP n)).map nV/\∃o,σ=[o,some (V.ref d)]) ⟨bB.refl _,rfl,_,rfl⟩ (small ()) (fun i ys σ H' e=>?_) (fun i ys σ H' C D hi e hC hD=>?_) (fun ys σ H' e p hp=>?_)
 ·obtain⟨_,rfl,_⟩:=e;rw[aE];exact cP (iM _ _) (by rw[eY];exact aG _)
 ·obtain⟨es,rfl,o,rfl⟩:=e;dsimp![QX];rw[show(0:Int)+(i:Int)=(i:Int) by lia,DM,qC];refine⟨small (),fun p hp=>⟨_,dgB hd (es.trans (zD hp _)) zB,?_⟩⟩;have e2:=es.trans (zD hp (.tup [V.int (i:Int),V.int ((lP i:Nat):Int)]));rw[show(yO (sF ls) (xF (i:Int) ((lP i:Nat):Int))).isSome=rl ls i (lP i)from YJ ls _ _];cases c:rl ls i (lP i)with
  |false=>
   rw[aL rfl];exact hC _ _ _ ⟨e2,by rw[gG,fJ,aU];simp[c],_,rfl⟩
  |true=>
   rw[aH ()];exact hD _ _ ⟨e2,by rw[gG,fJ,aU];simp[c],_,rfl⟩
 ·obtain⟨es,rfl,o,rfl⟩:=e;exact q p _ (es.trans (zD hp _)) (es.free hp) (by rw[zB];rfl)
theorem XM(bi:Bi mg)(be:mg "enumerate"=none)(F:gS K "spots_under" "spots_under" s_z f fd):dI P w K mg base fY 1 f fd ["spots","pairs","n"] spSu:=by
 refine F.okz sc_z fun fL A outer s H vs Q E hr h=>?_
 obtain⟨sa,d,sp,ls,n,rfl,hs,hl,hd,q⟩:=h;refine⟨_,(zG (zO (yU ["a","i"] ["pairs","n"] [1,2] (jN rfl be (zA (pv 0) zC)) (fun _ _ _ _ nd=>qO (K:=K) (n:=2) rfl (zY (yF 0 nd) (zY (yF 1 nd) xH))) (fun _ _ _ _=>kD (kT (XI (xU hr) (zN (zA (pv 1) (zA (pv 3) zC))) (pv 2)) (by with_unfolding_all rfl))) (fun _ _ _ _=>(pv 0))))),?_⟩;dsimp![vF];refine⟨sp.map nV,hs,?_⟩;refine ZD (xs:=sp.map nV) (fun i ys σ H'=>bB H H'/\ys=((List.range i).filter fun a=>rl ls (sp.getD a 0) n).map nV/\∃o1 o2,σ=[o1,o2,some (V.ref d),some (V.int n)]) ⟨bB.refl _,rfl,_,_,rfl⟩ (small (by rw[aE];lia)) (fun i ys σ H' e=>?_) (fun i ys σ H' e=>e.1 _ _ hs) (fun i x ys σ H' p C D hx e hp hC hD=>?_) (fun ys σ H' e p hp=>?_)
 ·obtain⟨_,rfl,_⟩:=e;rw[aE];exact cP (iM _ _) (by rw[eY];exact aG _)
 ·obtain⟨es,rfl,o1,o2,rfl⟩:=e;rw[aK]at hx;obtain⟨y,hy,rfl⟩:=aO.mp hx;have ey:sp.getD i 0=y:=by rw[bU,hy];rfl
  have e1:=es.trans (zD hp (.tup [V.int i,nV y]));dsimp![vI,jU,wC,LO];refine⟨_,dN.of zB,rfl,_,_,rfl,_,_,rfl,rfl,?_⟩;generalize upd H' p (.tup [V.int i,nV y])=H1 at e1⊢;refine⟨small (),fun p2 mU=>⟨_,dgB hd (e1.trans (zD mU _)) zB,?_⟩⟩;have e2:=e1.trans (zD mU (.tup [V.int y,V.int n]));rw[show(yO (sF ls) (xF (y:Int) (n:Int))).isSome=rl ls y n from YJ ls _ _];cases c:rl ls y n with
  |true=>
   rw[aL rfl];exact hC _ _ _ ⟨e2,by rw[gG,fJ,aU,iY,ey,c];rfl,_,_,rfl⟩
  |false=>
   rw[aH ()];exact hD _ _ ⟨e2,by rw[gG,fJ,aU,iY,ey,c];simp,_,_,rfl⟩
 ·obtain⟨es,rfl,_⟩:=e;exact q p _ (es.trans (zD hp _)) (es.free hp) (by rw[zB,aE];rfl)
theorem JJ(bi:Bi mg)(be:mg "enumerate"=none)(F:gS K "clashes_by" "clashes_by" s_w f fd):dI P w K mg base fY 1 f fd ["spots","pairs"] spCb:=by
 refine F.okz bp fun fL A outer s H vs Q E hr h=>?_
 obtain⟨sa,d,sp,ls,rfl,hs,hl,lS,hd,q⟩:=h;refine⟨_,(zF (yD 2 bp.nd (yV zC)) (zF (yM bM rfl (jN rfl be (zA (pv 0) zC)) (uU rfl (zY (UN (i:=3) bp.nd rfl (Or.inr rfl)) (zY (UN (i:=4) bp.nd rfl (Or.inr rfl)) xH))) (zG (zX (jS bW gU lI MN (pv 2) (zA (yU ["b","j"] ["a","pairs","i"] [3,1,4] (jN rfl be (zA (pv 0) zC)) (fun _ _ _ _ nd=>qO (K:=K) (n:=2) rfl (zY (yF 0 nd) (zY (yF 1 nd) xH))) (fun _ _ _ _=>kD (PW.pt (uT (zQ ZM (pv 2) (pv 0) (zU _)) (vS (kT (XI (xU hr) (zN (zA (pv 4) (zA (zL kX (pv 1) zE) zC))) (pv 3)) (by with_unfolding_all rfl)))))) (fun _ _ _ _=>(zN (zA (pv 2) (zA (pv 0) zC))))) zC))))) (zG (zO (pv 2))))),?_⟩;refine zH fun N hN=>?_
 dsimp![];refine⟨small (),fun p hp=>hN _ _ ?_⟩;clear hN;have s0:=zD hp (.lst []);have k0:upd H p (.lst []) p=some (.lst []):=zB;generalize upd H p (.lst [])=H0 at s0 k0⊢;refine yB (fun σ H'=>∃(us:List V)(o3 o4:Option V),bB H H'/\H' p=some (.lst us)/\bG H' ((wR sp (rl ls)).map NT) us/\σ=[some (V.ref sa),some (V.ref d),some (V.ref p),o3,o4]) (fun N hN=>?_) (fun σ H' h=>?_)
 ·dsimp![vF];refine⟨sp.map nV,s0 _ _ hs,?_⟩;refine YO (xs:=sp.map nV) (fun i σ H'=>∃(us:List V)(o3 o4:Option V),bB H H'/\H' p=some (.lst us)/\bG H' (((List.range i).flatMap fun a=>((List.range sp.length).filter fun b=>decide (a<b)&&rl ls (sp.getD a 0) (lP (sp.getD b 0))).map fun b=>(a,b)).map NT) us/\us.length<=60*i/\σ=[some (V.ref sa),some (V.ref d),some (V.ref p),o3,o4]) ⟨[],_,_,s0,k0,rfl,aG _,rfl⟩ (fun i σ H' h=>by obtain⟨_,_,_,e,_⟩:=h;exact e _ _ hs) (fun i x σ H' p1 hx h hp1 M hM=>?_) (fun σ H' h=>?_)
  ·obtain⟨us,o3,o4,es,kp,hd1,hul,rfl⟩:=h;rw[aK]at hx;obtain⟨y,hy,rfl⟩:=aO.mp hx;have ey:sp.getD i 0=y:=by rw[bU,hy];rfl
   have hi:=(aC.mp hy).1;have e1:=zD hp1 (.tup [V.int i,nV y]);dsimp![vI,jU,wC,vF,HY];refine⟨_,dN.of zB,rfl,_,_,rfl,_,_,rfl,rfl,.inl ⟨rfl,_,dL.of (e1 _ _ kp)⟩,sp.map nV,(es.trans e1) _ _ hs,?_⟩;replace kp:=e1 _ _ kp;replace hd1:=bG.same e1 hd1;replace es:=es.trans e1;generalize upd H' p1 (.tup [V.int i,nV y])=H1 at kp hd1 es⊢;refine ZD (xs:=sp.map nV) (fun j ys σ H2=>bB H1 H2/\bG H2 ((((List.range j).filter fun b=>decide (i<b)&&rl ls y (lP (sp.getD b 0))).map fun b=>(i,b)).map NT) ys/\ys.length<=j/\∃o1 o2,σ=[o1,o2,some (V.int i),some (V.ref d),some (V.int y)]) ⟨bB.refl _,rfl,aG _,_,_,rfl⟩ (small (by rw[aE];lia)) (fun j ys σ H2 e=>e.2.2.1) (fun j ys σ H2 e=>(es.trans e.1) _ _ hs) (fun j x ys σ H2 p2 C D hx e mU hC hD=>?_) (fun ys σ H2 e p2 mU=>?_)
   ·obtain⟨e2,hys,hyl,o1,o2,rfl⟩:=e;rw[aK]at hx;obtain⟨u,hu,rfl⟩:=aO.mp hx;have eu:sp.getD j 0=u:=by rw[bU,hu];rfl
    have e3:=e2.trans (zD mU (.tup [V.int j,nV u]));replace hys:=bG.same (zD mU (.tup [V.int j,nV u])) hys;dsimp![vI,jU,wC,LO];refine⟨_,dN.of zB,rfl,_,_,rfl,_,_,rfl,rfl,?_⟩;generalize upd H2 p2 (.tup [V.int j,nV u])=H3 at e3 hys⊢;have no:(decide (i<j)&&rl ls y (lP (sp.getD j 0)))=false->∀H4,bB H3 H4->D [some (V.int j),some (V.int u),some (V.int i),some (V.ref d),some (V.int y)] H4:=fun c H4 e4=>hD _ _ ⟨e3.trans e4,by rw[gG,fJ,iY,c];simpa using bG.same e4 hys,(),_,_,rfl⟩
    refine⟨_,rfl,?_⟩;by_cases c1:i<j
    ·rw[aL ()];refine⟨_,rfl,?_⟩;rw[DM,qC];refine⟨small (),fun p3 hp3=>⟨_,dgB hd ((es.trans e3).trans (zD hp3 _)) zB,?_⟩⟩;have e4:=zD hp3 (.tup [V.int y,V.int ((lP u:Nat):Int)]);rw[show(yO (sF ls) (xF (y:Int) ((lP u:Nat):Int))).isSome=rl ls y (lP u)from YJ ls _ _];cases c:rl ls y (lP u)with
     |true=>
      rw[aL rfl];refine⟨small (),fun p4 hp4=>hC _ _ _ ⟨(e3.trans e4).trans (zD hp4 _),?_,by rw[aI];simp;lia,_,_,rfl⟩⟩;rw[gG,fJ,iY,eu,c,eC c1,aU,aU];exact bG.append (bG.same (e4.trans (zD hp4 _)) hys) (bG.one ⟨p4,_,rfl,zB,_,_,rfl,rfl,_,_,rfl,rfl,rfl⟩)
     |false=>
      rw[aH ()];exact no (by rw[eu,c,oM]) _ e4
    ·rw[aH ()];exact no (by rw[dF c1,fN]) _ (bB.refl _)
   ·obtain⟨e2,hys,hyl,o1,o2,rfl⟩:=e;rw[aE]at hys hyl;have kp2:=e2 _ _ kp;have n2:p2≠p:=fun z=>by rw[z,kp2]at mU;cases mU
    have e3:=zD mU (.lst ys);refine⟨p2,rfl,us,e3 _ _ kp2,ys,zB,cP (m:=1000000) () (),?_⟩;have kp3:=e3 _ _ kp2;have tsm:cU (upd H2 p2 (.lst ys)) (upd (upd H2 p2 (.lst ys)) p (.lst (us++ys))):=(cU.refl _).upd_lst kp3;refine hM _ _ ⟨us++ys,_,_,((es.trans e2).trans e3).upd hp,zB,?_,by rw[aI];lia,rfl⟩;rw[gG,hV,aU];refine bG.append (XJ (e2.tups.trans (e3.tups.trans tsm)) hd1) ?_;rw[List.flatMap_cons,List.flatMap_nil,cM,ey];exact XJ (e3.tups.trans tsm) hys
  ·obtain⟨us,o3,o4,es,kp,hd1,_,rfl⟩:=h;rw[aE]at hd1;exact hN _ _ ⟨us,_,_,es,kp,hd1,rfl⟩
 obtain⟨us,o3,o4,es,kp,hd1,rfl⟩:=h;dsimp![];exact q p us _ es hp kp hd1
abbrev s_L:Stmt:=top 54
theorem bz:bZ ["sheet","lines","pairs","spots","names"] ["sheet","lines"] (zK s_L):=by rfl'
theorem AL{α β:Type}{f:α->β}{l' l:List β}(h:l'.Perm l):∀T:List α,l=T.map f->∃T':List α,T'.Perm T/\l'=T'.map f:=by
 induction h with
 |nil=>intro T e;exact⟨T,sC _,e⟩
 |cons x _ ih=>
  intro T e;cases T with
  |nil=>cases e
  |cons t T1=>
   rw[cF]at e;obtain⟨e1,e2⟩:=tF e;obtain⟨T',p,e3⟩:=ih T1 e2;exact⟨t::T',p.cons _,by rw[cF,e1,e3]⟩
 |swap x y l=>
  intro T e;cases T with
  |nil=>cases e
  |cons t1 T=>
   cases T with
   |nil=>cases (tF e).2
   |cons t2 T1=>
    rw[cF,cF]at e;obtain⟨e1,e2⟩:=tF e;obtain⟨e2,e3⟩:=tF e2;exact⟨t2::t1::T1,List.Perm.swap ..,by rw[cF,cF,e1,e2,e3]⟩
 |trans _ _ ih1 ih2=>
  intro T e;obtain⟨T1,p1,e1⟩:=ih2 T e;obtain⟨T2,p2,e2⟩:=ih1 T1 e1;exact⟨T2,p2.trans p1,e2⟩
def SO(aD:List Rw)(k:Nat):Option Str:=match aD[k]? with |some (.nm x)=>some x |_=>none
def IM(aD:List Rw):List (Str×Nat):=(List.range aD.length).filterMap fun k=>(SO aD k).map fun x=>(x,k)
abbrev Ro:=Addr×Str×Addr×List Nat
def WE(H:Hp)(m:Nat)(T:List Ro):Prop:=∀e∈T,H e.1=some (.tup [.str e.2.1,.ref e.2.2.1])/\H e.2.2.1=some (.lst (e.2.2.2.map nV))/\(∀i∈e.2.2.2,i<m)/\e.2.2.2.Pairwise (· < ·)
theorem WE.same{m:Nat}{T:List Ro}(e:bB H H')(h:WE H m T):WE H' m T:=fun r hr=>let ⟨h1,h2,h3⟩:=h r hr;⟨e _ _ h1,e _ _ h2,h3⟩
structure WoAt(H0 H:Hp)(wa:Addr)(sp:List Nat)(aD:List Rw)(ls:List Ln)(T:List Ro)(ca la:Addr)(us:List V):Prop where
 tup:H wa=some (.tup [nV sp.length,.ref ca,.ref la])
 cl:H ca=some (.lst us)
 dat:bG H ((wR sp (rl ls)).map NT) us
 lst:H la=some (.lst ((T.map (·.1)).map V.ref))
 tr:WE H sp.length T
 is:∀e∈T,∃k,(e.2.1,k)∈IM aD/\e.2.2.2=jF sp (rl ls) (2*k)
 perm:(T.map (·.2.1)).Perm ((IM aD).map (·.1))
inductive OU (K:W.Frag) (vs:List V) (H:Hp) (Q:VK) (E:XK):Prop
 |mk (sa la:Addr) (us ws:List V) (aD:List Rw) (ls:List Ln) (_:vs=[.ref sa,.ref la]) (_:H sa=some (.lst us)) (_:gC K H aD us) (_:aD.length<=30) (_:(IM aD).length<=3) (_:((IM aD).map (·.1)).Nodup) (_:H la=some (.lst ws)) (_:jV H ls ws) (_:ls.length<=10000) (_:(ls.map fun l=>xF l.i l.j).Nodup) (_:(zS ls 1 0=true->∀H',bB H H'->Q .non H')) (_:(zS ls 1 0=false->∀wa T ca ra vs H',bB H H'->WoAt H H' wa (yR (2*aD.length) (rl ls)) aD ls T ca ra vs->Q (.ref wa) H'))
theorem AU(bi:Bi mg)(be:mg "enumerate"=none)(h_T:gR P w K mg base 1 "spots_by" ["many","pairs"] spSb)(h_z:gR P w K mg base 1 "spots_under" ["spots","pairs","n"] spSu)(h_w:gR P w K mg base 1 "clashes_by" ["spots","pairs"] spCb)(F:gS K "world_of" "world_of" s_L f fd):dI P w K mg base fY 2 f fd ["sheet","lines"] (OU K):=by
 refine F.okz bz fun fL A outer s H vs Q E hr h=>?_
 obtain⟨sa,la,us,ws,aD,ls,rfl,hsa,hrw,hrl,hn3,hnn,hla,hls,hll,hkn,qn,qw⟩:=h;refine⟨_,(zF (kU (i:=2) bz.nd rfl (Or.inr rfl) (xO (CM (TQ hr)) rfl bi.dict YS (zA (yU ["line"] [] [] (yG (pv 1)) (fun _ _ _ _ nd=>yF 0 nd) (fun _ _ _ _=>xE) (fun _ _ _ _=>(zN (zA (zN (zA (zM (uF K) (pv 0) zE) (zA (zM (uF K) (pv 0) zE) zC))) (zA IH zC))))) zC))) (zF (yI (kT (XI (xU hr) (zN (zA zE (zA zE zC))) (pv 2)) (by with_unfolding_all rfl)) (zG (zO uC)) zW) (zF (kU (i:=3) bz.nd rfl (Or.inr rfl) (zI h_T hr.m rfl (zA (zL xQ zE (yC yJ rfl bi.len yX (zA (pv 0) zC))) (zA (pv 2) zC)))) (zF (UL (i:=4) ["k","row"] ["spots","pairs"] [3,2] bz.nd rfl (jN rfl be (zA (pv 0) zC)) (fun _ _ _ _ nd=>qO (K:=K) (n:=2) rfl (zY (yF 0 nd) (zY (yF 1 nd) xH))) (fun _ _ _ _=>kD (zQ xG (zM (uF K) (pv 1) zE) zR (zU _))) (fun _ _ _ _=>(zN (zA (zM (uF K) (pv 1) zE) (zA (zI h_z hr.m rfl (zA (pv 2) (zA (pv 3) (zA (zL xQ zE (pv 0)) zC)))) zC))))) (zG (zO (zN (zA (yC yJ rfl bi.len yX (zA (pv 3) zC)) (zA (zI h_w hr.m rfl (zA (pv 3) (zA (pv 2) zC))) (zA (yC VG rfl bi.sorted ZJ (zA (pv 4) zC)) zC)))))))))),?_⟩;refine zH fun N hN=>?_
 dsimp![];have hwl:ws.length=ls.length:=by have :=bG.length hls;rwa[aE]at this
 refine⟨⟨_,dL.of hla⟩,?_⟩;refine jX (xs:=ws) (fun i ys σ H'=>bB H H'/\(∃as bs:List Addr,ys=as.map V.ref/\as.length=i/\bs.length=i/\∀(j:Nat)(a b:Addr)(l:Ln),as[j]?=some a->bs[j]?=some b->ls[j]?=some l->H' a=some (.tup [.ref b,.bl true])/\H' b=some (.tup ((xF l.i l.j).map kV)))/\∃o,σ=[o]) ⟨bB.refl _,⟨[],[],rfl,rfl,rfl,fun j a b l h=>by simp at h⟩,_,rfl⟩ (cP (m:=1000000) () ()) (fun i ys σ H' e=>?_) (fun i ys σ H' e=>dL.of (e.1 _ _ hla)) (fun i x ys σ H' C hx e hC=>?_) (fun ys σ H' e p hp=>?_)
 ·obtain⟨_,⟨as,bs,rfl,h1,_⟩,_⟩:=e;rw[aE,h1];exact aG _
 ·obtain⟨es,⟨as,bs,rfl,h1,h2,h3⟩,o,rfl⟩:=e;obtain⟨l,hl,hx'⟩:=jC hls hx;obtain⟨a0,b0,us0,rfl,g1,_⟩:=LnAt.out hx';replace g1:=es _ _ g1;dsimp![];refine⟨_,dN.of g1,_,mK,_,dN.of g1,_,yE (j:=1) rfl,small (),fun b' hb'=>⟨small (),fun a' ha'=>hC _ _ _ ?_⟩⟩;have e1:=zD hb' (.tup [V.int l.i,V.int l.j]);have e2:=zD ha' (.tup [V.ref b',V.bl true]);refine⟨es.trans (e1.trans e2),⟨as++[a'],bs++[b'],by rw[aU];rfl,by rw[aI,h1];rfl,by rw[aI,h2];rfl,fun j a b l' ha hb fF=>?_⟩,_,rfl⟩;by_cases hj:j<i
  ·rw[bC ()]at ha hb;obtain⟨k1,k2⟩:=h3 j a b l' ha hb fF;exact⟨(e1.trans e2) _ _ k1,(e1.trans e2) _ _ k2⟩
  ·have ej:j=i:=by
    have :=(aC.mp ha).1;rw[aI]at this;simp at this;lia
   rw[ej,←h1,bL (aG _)]at ha;rw[ej,←h2,bL (aG _)]at hb;simp at ha hb;subst ha hb;rw[ej,hl]at fF;cases fF;exact⟨zB,e2 _ _ zB⟩
 obtain⟨es,⟨as,bs,rfl,h1,h2,h3⟩,o,rfl⟩:=e;have e1:=zD hp (.lst (as.map V.ref));refine⟨p,rfl,as,dL.of zB,sF ls,by unfold sF;rw[aE];lia,by unfold sF;rw[eQ];exact hkn,fun i k v hi=>?_,fun d hd=>hN _ _ ?_⟩
 ·unfold sF at hi;rw[aK]at hi;obtain⟨l,hl,el⟩:=aO.mp hi;cases el;have hil:=(aC.mp hl).1;obtain⟨k1,k2⟩:=h3 i as[i] bs[i] l (aA ()) (aA ()) hl;exact⟨_,aA (),_,dN.of (e1 _ _ k1),e1 _ _ k2⟩
 clear hN h3;have s1:=(es.trans e1).trans (zD hd (.dT (sF ls)));have kd:upd (upd H' p (.lst (as.map V.ref))) d (.dT (sF ls)) d=some (.dT (sF ls)):=zB;generalize upd (upd H' p (.lst (as.map V.ref))) d (.dT (sF ls))=H1 at s1 kd⊢;clear es e1 hp hd h1 h2;refine zH fun N hN=>?_
 dsimp![LO];refine⟨small (),fun p hp=>⟨_,dgB kd (zD hp _) zB,?_⟩⟩;replace s1:=s1.trans (zD hp (.tup [V.int 1,V.int 0]));replace kd:=zD hp (.tup [V.int 1,V.int 0]) _ _ kd;rw[YJ];generalize upd H1 p (.tup [V.int 1,V.int 0])=H2 at s1 kd⊢;cases c:zS ls 1 0 with
 |true=>
  rw[aL rfl];exact qn c _ s1
 |false=>
 rw[aH ()];refine hN _ _ ?_;clear hN qn hp;have qw:=qw c;refine zH fun N hN=>?_
 dsimp![];have hul:=hrw.len;refine⟨us.length,.inl ⟨_,dL.of (s1 _ _ hsa),rfl⟩,.inl ⟨(),()⟩,2*aD.length,d,ls,by rw[hul];rfl,(),kd,fun ps H3 s3 fps kps=>hN _ _ ?_⟩;clear hN;replace s1:=s1.trans s3;replace kd:=s3 _ _ kd;clear fps;refine zH fun N hN=>?_
 dsimp![vF];have hm60:(yR (2*aD.length) (rl ls)).length<=60:=cP (iM _ _) (by rw[eY];lia);have hsl:∀x∈yR (2*aD.length) (rl ls),x<200:=fun x hx=>by have :=bP.mp (cX.mp hx).1;lia
 have hud:∀n,(∀i∈jF (yR (2*aD.length) (rl ls)) (rl ls) n,i<(yR (2*aD.length) (rl ls)).length)/\(jF (yR (2*aD.length) (rl ls)) (rl ls) n).Pairwise (· < ·):=fun n=>⟨fun i hi=>bP.mp (cX.mp hi).1,gP _ dS⟩
 have e0:∀{q:Nat->Option (Str×Nat)}{i:Nat},(List.range (i+1)).filterMap q=(List.range i).filterMap q++(q i).toList:=fun{q i}=>by
  rw[gG,List.filterMap_append];cases h:q i<;>simp[h]
 generalize yR (2*aD.length) (rl ls)=sp at kps qw hm60 hsl hud;refine⟨us,s1 _ _ hsa,?_⟩;refine ZD (xs:=us) (fun i ys σ H'=>bB H3 H'/\(∃T:List Ro,ys=(T.map (·.1)).map V.ref/\T.length<=i/\WE H' sp.length T/\(T.map fun e=>(e.2.1,e.2.2.2))=((List.range i).filterMap fun k=>(SO aD k).map fun x=>(x,k)).map (fun q=>(q.1,jF sp (rl ls) (2*q.2)))/\(∀e∈T,H3 e.2.2.1=none)/\(T.map (·.2.2.1)).Nodup)/\∃o1 o2,σ=[o1,o2,some (V.ref ps),some (V.ref d)]) ⟨bB.refl _,⟨[],rfl,aG _,(fun e he=>by cases he),rfl,(fun e he=>by cases he),.nil⟩,_,_,rfl⟩ (small ()) (fun i ys σ H' e=>?_) (fun i ys σ H' e=>(s1.trans e.1) _ _ hsa) (fun i x ys σ H' p C D hx e hp hC hD=>?_) (fun ys σ H' e p hp=>hN _ _ ?_)
 ·obtain⟨_,⟨T,rfl,h1,_⟩,_⟩:=e;rw[aE,aE];exact h1
 ·obtain⟨es,⟨T,rfl,h1,h2,h3,h4,h5⟩,o1,o2,rfl⟩:=e;obtain⟨r,hri,hr1⟩:=hrw.get hx;obtain⟨ra,x,us',rfl,g1,g2⟩:=GK.out hr1;have e1:=zD hp (.tup [V.int i,V.ref ra]);have g1':=g1.same (s1.trans (es.trans e1));replace h2:=h2.same e1;replace es:=es.trans e1;dsimp![vI,jU,wC];refine⟨_,dN.of zB,rfl,_,_,rfl,_,_,rfl,rfl,?_⟩;generalize upd H' p (.tup [V.int i,V.ref ra])=H4 at es g1' h2⊢;have no:SO aD i=none->D [some (V.int i),some (V.ref ra),some (V.ref ps),some (V.ref d)] H4:=fun hn=>hD _ _ ⟨es,⟨T,rfl,(),h2,by rw[e0,hn];simpa using h3,h4,h5⟩,_,_,rfl⟩
  refine⟨_,rfl,_,g1'.sq,_,mK,rfl,?_⟩;cases r with
  |no=>
   obtain⟨rfl,rfl⟩:=g2;rw[aH ()];exact no (by unfold SO;rw[hri])
  |bo i' j'=>
   obtain⟨rfl,rfl⟩:=g2;rw[aH ()];exact no (by unfold SO;rw[hri])
  |nm y=>
  obtain⟨rfl,rfl⟩:=g2;rw[aL rfl];have hn:SO aD i=some y:=by unfold SO;rw[hri]
  refine⟨ra,rfl,_,g1'.sq,_,rG,_,rfl,.inl ⟨(),()⟩,ps,d,sp,ls,2*i,by rw[show(2:Int)*(i:Int)=((2*i:Nat):Int) by lia],es _ _ kps,(),es _ _ kd,fun pl H5 s5 fpl kpl=>⟨small (),fun p4 hp4=>hC _ _ _ ?_⟩⟩;have e5:=zD hp4 (.tup [V.str y,V.ref pl]);refine⟨es.trans (s5.trans e5),⟨T++[(p4,y,pl,jF sp (rl ls) (2*i))],by rw[aU,aU];rfl,by rw[aI];simp;lia,fun e he=>?_,?_,fun e he=>?_,?_⟩,_,_,rfl⟩
  ·rcases bO.mp he with he |he
   ·exact(h2.same (s5.trans e5)) e he
   ·rw[aT.mp he];exact⟨zB,e5 _ _ kpl,hud _⟩
  ·rw[e0,hn,aU,aU,h3];rfl
  ·rcases bO.mp he with he |he
   ·exact h4 e he
   ·rw[aT.mp he];exact es.free fpl
  ·rw[aU,mI];refine⟨h5,by simp,fun a ha b hb e=>?_⟩;rw[cF,pT,aT]at hb;obtain⟨t,ht,rfl⟩:=cD.mp ha;have :=(h2 t ht).2.1;rw[e,hb,fpl]at this;cases this
 clear hN;obtain⟨es,⟨T,rfl,h1,h2,h3,h4,h5⟩,o1,o2,rfl⟩:=e;have e1:=zD hp (.lst ((T.map (·.1)).map V.ref));have k4:upd H' p (.lst ((T.map (·.1)).map V.ref)) p=some (.lst ((T.map (·.1)).map V.ref)):=zB;replace h2:=h2.same e1;replace es:=es.trans e1;generalize upd H' p (.lst ((T.map (·.1)).map V.ref))=H4 at es k4 h2⊢;rw[hul]at h3;have h3n:T.map (·.2.1)=(IM aD).map (·.1):=by
  have :=dH (List.map Prod.fst) h3;rwa[eQ,eQ]at this
 dsimp![];refine⟨sp.length,.inl ⟨_,dL.of (es _ _ kps),(aE _).symm⟩,ps,d,sp,ls,rfl,es _ _ kps,hm60,hsl,es _ _ kd,fun ca vs H5 s5 fca kca hdc=>?_⟩;have h2':=h2.same s5;refine⟨T.map (·.1),s5 _ _ k4,T.map (·.2.1),by rw[aE,aE],by rw[h3n,aE];lia,by rw[h3n];exact hnn,fun i a z ha hz=>?_,fun l as' hl hpa=>⟨small (),fun wa hwa=>?_⟩⟩
 ·rw[aK]at ha hz;obtain⟨t,ht,rfl⟩:=aO.mp ha;rw[ht]at hz;cases hz;exact⟨_,(h2' t (aX ht)).1⟩
 obtain⟨T',hT,rfl⟩:=AL hpa T rfl;have el:=zD hl (.lst ((T'.map (·.1)).map V.ref));have ew:=zD hwa (.tup [V.int sp.length,V.ref ca,V.ref l]);have elw:=el.trans ew;have hall:bB H4 (upd (upd H5 l (.lst ((T'.map (·.1)).map V.ref))) wa (.tup [V.int sp.length,V.ref ca,V.ref l])):=s5.trans elw;refine qw wa T' ca l vs _ ((s1.trans es).trans hall) ⟨zB,elw _ _ kca,bG.same elw hdc,ew _ _ zB,fun e he=>(h2.same hall) e (hT.mem_iff.mp he),fun e he=>?_,?_⟩
 ·have :(e.2.1,e.2.2.2)∈T.map fun e=>(e.2.1,e.2.2.2):=cD.mpr ⟨e,hT.mem_iff.mp he,rfl⟩
  rw[h3]at this;obtain⟨q,hq,eq⟩:=cD.mp this;injection eq with q1 q2
  exact⟨q.2,by rw[←q1];exact hq,q2.symm⟩
 ·rw[←h3n];exact hT.map _
theorem DA{α:Type}{xs:List α}{n:Int}{x:α}(h0:0<=n)(h:xs[n.toNat]?=some x):oU xs n=some x:=by
 obtain⟨m,rfl⟩:∃m:Nat,n=(m:Int):=⟨n.toNat,()⟩
 exact yE (by simpa using h)
def GW(x:Str)(as:List Wt):Prop:=(x≠"rule"/\∃ns:List Int,as=ns.map .n/\ns.length<=2)\/(x="rule"/\∃r ps,as=[.n r,.ps ps]/\ps.length<=100)
theorem m7{H:Hp}:∀{ns:List Int}{us:List V},JE H (ns.map .n) us->us=ns.map V.int
 |[],us,h=>h
 |n::ns,us,h=>by
  obtain⟨v,r,e1,e2,e3⟩:=h;have e2:v=.int n:=e2;rw[e1,e2,m7 e3];rfl
theorem atNs(H:Hp):∀ns:List Int,JE H (ns.map .n) (ns.map V.int)
 |[]=>rfl
 |n::ns=>⟨_,_,rfl,rfl,atNs H ns⟩
theorem gwN(x:Str)(h:x≠"rule")(ns:List Int)(hn:ns.length<=2):GW x (ns.map .n):=.inl ⟨h,ns,rfl,hn⟩
def plc(x:Str)(as:List Wt):List Int:=if x="rule" then(match as with |[_,.ps ps]=>ps |_=>[])else as.filterMap fun a=>match a with | .n i=>some i | .ps _=>none
def GL(n:Nat)(x:Str)(as:List Wt):Prop:=GW x as/\∀p∈plc x as,0<=p/\p<(n:Int)
theorem cy{x:Str}(h:x≠"rule")(ns:List Int):plc x (ns.map .n)=ns:=by
 unfold plc;rw[aH h,oJ]
 induction ns with
 |nil=>rfl
 |cons n ns ih=>simp[ih]
theorem cw(r:Wt)(ps:List Int):plc "rule" [r,.ps ps]=ps:=by
 unfold plc;rw[aL rfl]
theorem glN(n:Nat)(x:Str)(h:x≠"rule")(ns:List Int)(hn:ns.length<=2)(hp:∀p∈ns,0<=p/\p<(n:Int)):GL n x (ns.map .n):=⟨gwN x h ns hn,by rw[cy h];exact hp⟩
theorem glR(n:Nat)(r:Int)(ps:List Int)(hl:ps.length<=100)(hp:∀p∈ps,0<=p/\p<(n:Int)):GL n "rule" [.n r,.ps ps]:=⟨.inr ⟨rfl,r,ps,rfl,hl⟩,by rw[cw];exact hp⟩
abbrev s_A:Stmt:=top 45
theorem sc_A:bZ ["why"] ["why"] (zK s_A):=by rfl'
abbrev l9:Stmt:=top 46
theorem sc_aa:bZ ["why","places"] ["why","places"] (zK l9):=by rfl'
abbrev s_P:Stmt:=top 47
theorem ln:bZ ["lines","i","j","k","line"] ["lines","i","j"] (zK s_P):=by rfl'
abbrev s_Z:Stmt:=top 48
theorem bw:bZ ["lines","k","needed","n","p"] ["lines","k"] (zK s_Z):=by rfl'
abbrev l6:Stmt:=top 49
theorem HK:bZ ["lines","i","j","k","kept","places"] ["lines","i","j"] (zK l6):=by rfl'
def jE(ks ps:List Int):List Int:=ps.foldl (fun ks p=>if p∈ks then ks else ks++[p]) ks
theorem ZV(ks:List Int)(p:Int)(ps:List Int):jE ks (p::ps)=jE (if p∈ks then ks else ks++[p]) ps:=rfl
theorem DD(ks ps:List Int)(p:Int):jE ks (ps++[p])=if p∈jE ks ps then jE ks ps else jE ks ps++[p]:=by
 unfold jE;rw[List.foldl_append];rfl
theorem jL(z:Int):∀(ps ks:List Int),z∈jE ks ps↔z∈ks\/z∈ps
 |[],ks=>by simp[jE]
 |p::ps,ks=>by
  rw[ZV,jL z ps];by_cases h:p∈ks
  ·rw[aL h,bJ];constructor
   ·rintro(h1 |h1)
    ·exact .inl h1
    ·exact .inr (.inr h1)
   ·rintro(h1 |rfl |h1)
    ·exact .inl h1
    ·exact .inl h
    ·exact .inr h1
  ·rw[aH h,bO,aT,bJ];constructor
   ·rintro((h1 |h1) |h1)
    ·exact .inl h1
    ·exact .inr (.inl h1)
    ·exact .inr (.inr h1)
   ·rintro(h1 |h1 |h1)
    ·exact .inl (.inl h1)
    ·exact .inl (.inr h1)
    ·exact .inr h1
theorem FB{p:Int}(h:ks.Nodup)(hp:p∉ks):(ks++[p]).Nodup:=
 mI.mpr ⟨h,by simp,fun a ha b hb e=>hp (by rw[aT.mp hb]at e;rw[←e];exact ha)⟩
theorem jW:∀(ps ks:List Int),ks.Nodup->(jE ks ps).Nodup
 |[],ks,h=>h
 |p::ps,ks,h=>by
  rw[ZV];by_cases hp:p∈ks
  ·rw[aL hp];exact jW ps ks h
  ·rw[aH hp];exact jW ps _ (FB h hp)
def back(nm:Int->List Int)(k:Nat):Nat->List Int
 |0=>[(k:Int)]
 |i+1=>if((k:Int)-i)∈back nm k i then jE (back nm k i) (nm ((k:Int)-i))else back nm k i
theorem qZ{k:Nat}(h:((k:Int)-i)∈back nm k i):back nm k (i+1)=jE (back nm k i) (nm ((k:Int)-i)):=by
 show(if _ then _ else _)=_;rw[aL h]
theorem vM{k:Nat}(h:((k:Int)-i)∉back nm k i):back nm k (i+1)=back nm k i:=by
 show(if _ then _ else _)=_;rw[aH h]
theorem qJ(nm:Int->List Int)(k:Nat):∀i,(back nm k i).Nodup
 |0=>by simp[back]
 |i+1=>by
  by_cases h:((k:Int)-i)∈back nm k i
  ·rw[qZ h];exact jW _ _ (qJ nm k i)
  ·rw[vM h];exact qJ nm k i
theorem kR{nm:Int->List Int}{k:Nat}(hn:∀n:Int,0<=n->n<=k->∀p∈nm n,0<=p/\p<n):∀i,i<=k+1->∀p∈back nm k i,0<=p/\p<=(k:Int)
 |0,_,p,hp=>by
  rw[aT.mp hp];lia
 |i+1,hi,p,hp=>by
  by_cases h:((k:Int)-i)∈back nm k i
  ·rw[qZ h,jL]at hp;rcases hp with hp |hp
   ·exact kR hn i () p hp
   ·have :=hn _ () () p hp;lia
  ·rw[vM h]at hp;exact kR hn i () p hp
theorem CZ{k:Nat}{p:Int}(hp:p∈back nm k i):p∈back nm k (i+1):=by
 by_cases h:((k:Int)-i)∈back nm k i
 ·rw[qZ h,jL];exact .inl hp
 ·rw[vM h];exact hp
theorem vN{nm:Int->List Int}{k:Nat}(hn:∀n:Int,0<=n->n<=k->∀p∈nm n,0<=p/\p<n):∀i,i<=k+1->∀n∈back nm k i,(k:Int)-i<n->∀p∈nm n,p∈back nm k i
 |0,_,n,hm,lS,p,hp=>by
  rw[aT.mp hm]at lS;lia
 |i+1,hi,n,hm,lS,p,hp=>by
  by_cases h:((k:Int)-i)∈back nm k i
  ·have hm':=hm;rw[qZ h,jL]at hm;by_cases e:n=(k:Int)-i
   ·subst e;rw[qZ h,jL];exact .inr hp
   ·rcases hm with hm |hm
    ·exact CZ (vN hn i () n hm () p hp)
    ·have :=hn _ () () n hm;lia
  ·rw[vM h]at hm;have e:n≠(k:Int)-i:=fun z=>h (z▸hm)
   exact CZ (vN hn i () n hm () p hp)
def uE(ls:List Ln)(n:Int):List Int:=match ls[n.toNat]? with |some l=>plc l.w l.as |none=>[]
def wI(ls:List Ln):Prop:=∀(i:Nat)(l:Ln),ls[i]?=some l->GL i l.w l.as
theorem jf{ls:List Ln}{n:Int}(h:ls[n.toNat]?=some l):uE ls n=plc l.w l.as:=by
 unfold uE;rw[h]
theorem uY{ls:List Ln}(h:wI ls):∀n:Int,0<=n->∀p∈uE ls n,0<=p/\p<n:=by
 intro n h0 p hp;unfold uE at hp;cases e:ls[n.toNat]? with
 |none=>rw[e]at hp;cases hp
 |some l=>
  rw[e]at hp;have :=(h _ l e).2 p hp;lia
def CA(ls:List Ln)(k:Nat):List Int:=back (uE ls) k (k+1)
theorem XU(ls:List Ln)(k:Nat):(CA ls k).Nodup:=qJ _ _ _
theorem UW{ls:List Ln}(h:wI ls)(k:Nat):∀p∈CA ls k,0<=p/\p<=(k:Int):=kR (fun n h0 _=>uY h n h0) (k+1) (aG _)
theorem BZ{ls:List Ln}(h:wI ls)(k:Nat):∀n∈CA ls k,∀p∈uE ls n,p∈CA ls k:=fun n hn p hp=>
 vN (fun n h0 _=>uY h n h0) (k+1) (aG _) n hn (by have :=UW h k n hn;lia) p hp
theorem UU{l:List Int}{k:Nat}(hn:l.Nodup)(h:∀p∈l,0<=p/\p<=(k:Int)):l.length<=k+1:=by
 have :=wL (m:=(List.range (k+1)).map fun i:Nat=>(i:Int)) hn fun x hx=>by
  have :=h x hx;rw[cD];exact⟨x.toNat,by rw[bP];lia,()⟩
 rwa[aE,eY]at this
structure Kept(ls:List Ln)(k:Nat)(ks:List Int):Prop where
 perm:ks.Perm (CA ls k)
 rise:ks.Pairwise (· <= ·)
theorem Kept.nodup{ls:List Ln}{k:Nat}(h:Kept ls k ks):ks.Nodup:=h.perm.nodup_iff.mpr (XU ls k)
theorem Kept.inn{ls:List Ln}{k:Nat}(h:Kept ls k ks)(ha:wI ls):∀p∈ks,0<=p/\p<=(k:Int):=fun p hp=>UW ha k p (h.perm.mem_iff.mp hp)
theorem Kept.closed{ls:List Ln}{k:Nat}(h:Kept ls k ks)(ha:wI ls):∀n∈ks,∀p∈uE ls n,p∈ks:=fun n hn p hp=>h.perm.mem_iff.mpr (BZ ha k n (h.perm.mem_iff.mp hn) p hp)
def vZ(p:Int):List Int->Nat
 |[]=>0
 |x::xs=>if x=p then 0 else vZ p xs+1
def wJ:List Int->Nat->List (eL×V)
 |[],_=>[]
 |n::ns,i=>(.inl n,.int i)::wJ ns (i+1)
theorem AI:∀(ns:List Int)(i:Nat),(wJ ns i).length=ns.length
 |[],_=>rfl
 |n::ns,i=>by show(wJ ns (i+1)).length+1=_;rw[AI ns (i+1)];rfl
theorem JW:∀(ns:List Int)(i:Nat),(wJ ns i).map (·.1)=ns.map Sum.inl
 |[],_=>rfl
 |n::ns,i=>by show _::(wJ ns (i+1)).map (·.1)=_;rw[JW ns (i+1)];rfl
theorem AJ:∀{ns:List Int}{i j:Nat}{k:eL}{v:V},(wJ ns i)[j]?=some (k,v)->∃n,ns[j]?=some n/\k=.inl n/\v=.int ((i+j:Nat):Int)
 |[],i,j,k,v,h=>by cases h
 |n::ns,i,0,k,v,h=>by
  cases h;exact⟨n,rfl,rfl,rfl⟩
 |n::ns,i,j+1,k,v,h=>by
  obtain⟨m,h1,h2,h3⟩:=AJ (ns:=ns) (i:=i+1) (j:=j) h;exact⟨m,h1,h2,by rw[h3];congr 2;lia⟩
theorem XH{p:Int}:∀{ns:List Int}(i:Nat),p∈ns->yO (wJ ns i) (.inl p)=some (.int ((i+vZ p ns:Nat):Int))
 |[],i,h=>by cases h
 |n::ns,i,h=>by
  by_cases e:n=p
  ·subst e;show yO ((Sum.inl n,V.int i)::wJ ns (i+1)) (.inl n)=_;rw[jZ rfl];simp[vZ]
  ·show yO ((Sum.inl n,V.int i)::wJ ns (i+1)) (.inl p)=_;rw[qA (fun z=>e (rT z)),XH (i+1) ((bJ.mp h).resolve_left (cJ e))];have ep:vZ p (n::ns)=vZ p ns+1:=by
    show(if n=p then 0 else vZ p ns+1)=_;rw[aH e]
   rw[ep]
   congr 2
   lia
def NS(ks:List Int)(l:Ln):Ln:=
 if l.w="rule" then⟨l.i,l.j,"rule",[l.as.headD (.n 0),.ps ((plc l.w l.as).map fun p=>(vZ p ks:Int))]⟩
 else⟨l.i,l.j,l.w,((plc l.w l.as).map fun p=>(vZ p ks:Int)).map .n⟩
theorem PV{r:Int}{ps:List Int}(hw:l.w="rule")(ha:l.as=[.n r,.ps ps]):NS ks l=⟨l.i,l.j,"rule",[.n r,.ps (ps.map fun p=>(vZ p ks:Int))]⟩:=by
 unfold NS;rw[aL hw,ha,hw,cw];rfl
theorem b8{ns:List Int}(hw:l.w≠"rule")(ha:l.as=ns.map .n):NS ks l=⟨l.i,l.j,l.w,(ns.map fun p=>(vZ p ks:Int)).map .n⟩:=by
 unfold NS;rw[aH hw,ha,cy hw]
def EM(ls:List Ln)(ks:List Int)(i:Nat):List Ln:=(ks.take i).filterMap fun n=>(ls[n.toNat]?).map (NS ks)
theorem MB{ls:List Ln}{n:Int}(hn:ks[i]?=some n)(hl:ls[n.toNat]?=some l):EM ls ks (i+1)=EM ls ks i++[NS ks l]:=by
 obtain⟨hi,e⟩:=aC.mp hn;unfold EM;rw[aM hi,e,List.filterMap_append]
 congr 1
 simp[hl]
theorem RU(ls:List Ln)(ks:List Int)(i:Nat):(EM ls ks i).length<=i:=by
 unfold EM;refine cP (List.length_filterMap_le _ _) ?_;rw[bX];lia
def DR(ks:List Int):List (eL×V):=ks.map fun n=>(.inl n,.bl true)
theorem ar(ks:List Int)(p:Int):jJ (DR ks) (.inl p) (.bl true)=DR (if p∈ks then ks else ks++[p]):=by
 unfold jJ;have e:((DR ks).any fun kv=>decide (kv.1=(.inl p:eL)))=decide (p∈ks):=by
  unfold DR;rw[List.any_map,cE,fK,bQ];constructor
  ·rintro⟨x,hx,h⟩;have h:x=p:=by simpa using h
   exact h▸hx
  ·intro h;exact⟨p,h,by simp⟩
 rw[e];by_cases h:p∈ks
 ·rw[aL (by simpa using h),aL h];unfold DR;rw[eQ];refine sV fun x _=>?_
  show(if(Sum.inl x:eL)=.inl p then _ else _)=_;split<;>rfl
 ·rw[aH (by simpa using h),aH h];unfold DR;rw[aU];rfl
theorem aq(ks:List Int)(p:Int):(yO (DR ks) (.inl p)).isSome=decide (p∈ks):=by
 unfold yO DR;rw[gJ,List.find?_map,gJ,cE,List.find?_isSome,bQ];constructor
 ·rintro⟨x,hx,h⟩;have h:x=p:=by simpa using h
  exact h▸hx
 ·intro h;exact⟨p,h,by simp⟩
theorem OL(ks:List Int):(DR ks).map (·.1)=ks.map Sum.inl:=by
 unfold DR;rw[eQ];rfl
theorem cut_1(x:V)(xs:List V):qX (x::xs) none (some 1)=[x]:=by
 show qX (x::xs) none (some ((1:Nat):Int))=[x]
 unfold qX;rw[HT.sIx_nat,HT.sIx_none,bD,Nat.min_eq_left (),rY,Nat.sub_zero,List.take_succ_cons,List.take_zero]
theorem smB1(h:n<=100000):n<sizeLine:=fG h ()
theorem WX(h:n<=100000):n<=sizeLine:=pS (smB1 h)
inductive spLN (vs:List V) (H:Hp) (Q:VK) (E:XK):Prop
 |mk (v:V) (x:Str) (as:List Wt) (_:vs=[v]) (_:dW H (ZH x as) v) (_:GW x as) (_:∀p H',bB H H'->H' p=some (.tup ((plc x as).map V.int))->Q (.ref p) H')
inductive spRn (vs:List V) (H:Hp) (Q:VK) (E:XK):Prop
 |mk (v:V) (d:Addr) (l:Ln) (ks:List Int) (_:vs=[v,.ref d]) (_:dW H (ZH l.w l.as) v) (_:GW l.w l.as) (_:H d=some (.dK (wJ ks 0))) (_:(∀p∈plc l.w l.as,p∈ks)) (_:∀v' H',bB H H'->dW H' (ZH (NS ks l).w (NS ks l).as) v'->Q v' H')
def FP(ls:List Ln)(i j:Int)(r:V):Prop:=(r=.non/\∀l∈ls,¬(l.i=i/\l.j=j))\/∃(k:Nat)(l:Ln),r=.int k/\ls[k]?=some l/\(l.i=i/\l.j=j)/\∀(m:Nat)(l':Ln),m<k->ls[m]?=some l'->¬(l'.i=i/\l'.j=j)
inductive i6 (vs:List V) (H:Hp) (Q:VK) (E:XK):Prop
 |mk (la:Addr) (ws:List V) (ls:List Ln) (i j:Int) (_:vs=[.ref la,.int i,.int j]) (_:H la=some (.lst ws)) (_:jV H ls ws) (_:∀r H',bB H H'->FP ls i j r->Q r H')
theorem XN(bi:Bi mg)(F:gS K "lines_named" "lines_named" s_A f fd):dI P w K mg base fY 1 f fd ["why"] spLN:=by
 refine F.okz sc_A fun fL A outer s H vs Q E hr h=>?_
 obtain⟨v,x,as,rfl,hv,hg,q⟩:=h;have at2:∀{a b c:V},oU [a,b,c] 2=some c:=yE (j:=2) rfl;obtain⟨a,us,rfl,ha,hus⟩:=OC hv;refine⟨_,(zG (zO (uV (zQ xG (zM zP (pv 0) zE) zR (zU _)) (zM zP (pv 0) zE) (qE YE (pv 0) (qN zE) vT)))),?_⟩;dsimp![RE];refine⟨_,dN.of ha,_,mK,rfl,?_⟩;rcases hg with⟨hw,ns,rfl,_⟩ |⟨rfl,r,ps,rfl,_⟩
 ·rw[aH (fun e=>hw (V.str.inj e))];have e:=m7 hus;subst e;refine⟨_,ha,fun p H' s1 k1=>q p H' s1 ?_⟩;rw[kN]at k1;rw[cy hw];exact k1
 ·rw[aL rfl];obtain⟨v1,r1,e1,e2,v2,r2,e3,e4,e5⟩:=hus;have e5:r2=[]:=e5;subst e5 e3 e1;obtain⟨b,rfl,hb⟩:=ml e4;refine⟨_,dN.of ha,_,at2,q b H (bB.refl H) ?_⟩;rw[cw];exact hb
theorem ET(bi:Bi mg)(F:gS K "renamed" "renamed" l9 f fd):dI P w K mg base fY 1 f fd ["why","places"] spRn:=by
 refine F.okz sc_aa fun fL A outer s H vs Q E hr h=>?_
 obtain⟨v,d,l,ks,rfl,hv,hg,hd,hin,q⟩:=h;have at2:∀{a b c:V},oU [a,b,c] 2=some c:=yE (j:=2) rfl;obtain⟨a,us,rfl,ha,hus⟩:=OC hv;refine⟨_,(zF (yI (zQ xG (zM zP (pv 0) zE) zR (zU _)) (zG (zO (zN (zA zR (zA (zM zP (pv 0) zE) (zA (xO qV rfl bi.tuple JC (zA (yU ["p"] ["places"] [1] (wK (zM zP (pv 0) zE)) (fun _ _ _ _ nd=>yF 0 nd) (fun _ _ _ _=>xE) (fun _ _ _ _=>(YK (xU hr) (pv 1) (pv 0) (fun _ _=>rfl)))) zC)) zC)))))) zW) (zG (zO (zL dk (qE YE (pv 0) vT (qN zE)) (xO qV rfl bi.tuple JC (zA (yU ["p"] ["places"] [1] (wK (qE YE (pv 0) (qN zE) vT)) (fun _ _ _ _ nd=>yF 0 nd) (fun _ _ _ _=>xE) (fun _ _ _ _=>(YK (xU hr) (pv 1) (pv 0) (fun _ _=>rfl)))) zC)))))),?_⟩;refine zH fun N hN=>?_
 dsimp![RE,RF];refine⟨_,dN.of ha,_,mK,rfl,?_⟩;rcases hg with⟨hw,ns,has,hn2⟩ |⟨hw,r,ps,has,hp100⟩
 ·rw[aH (fun e=>hw (V.str.inj e))];refine hN _ _ ?_;rw[has]at hus;have e:=m7 hus;subst e;rw[has,cy hw]at hin;rw[b8 hw has]at q;dsimp![RE,RF];refine⟨_,ha,fun p1 H1 s1 k1=>?_⟩;rw[cut_1]at k1;refine⟨_,s1 _ _ ha,fun p2 H2 s2 k2=>?_⟩;rw[kN]at k2;refine⟨⟨_,dN.of k2⟩,?_⟩;refine US (xs:=ns.map V.int) (fun i ys σ H'=>bB H2 H'/\ys=((ns.take i).map fun p=>(vZ p ks:Int)).map V.int/\∃o,σ=[o,some (V.ref d)]) ⟨bB.refl _,rfl,_,rfl⟩ (WX (by rw[aE];lia)) (fun i ys σ H' e=>?_) (fun i ys σ H' e=>dN.of (e.1 _ _ k2)) (fun i x ys σ H' C hx e hC=>?_) (fun ys σ H' e p3 hp3=>?_)
  ·obtain⟨_,rfl,_⟩:=e;rw[aE,aE,bX];lia
  ·obtain⟨es,rfl,o,rfl⟩:=e;rw[aK]at hx;cases hni:ns[i]? with
   |none=>rw[hni]at hx;cases hx
   |some n=>
    rw[hni]at hx;cases hx;dsimp![];refine⟨_,.inl ⟨_,.inl n,.inl (es _ _ (s2 _ _ (s1 _ _ hd))),rfl,(XH 0 (hin n (aX hni))).symm⟩,hC _ _ _ ⟨es,?_,_,rfl⟩⟩;obtain⟨hi,e⟩:=aC.mp hni;rw[aM hi,e,aU,aU,iE];rfl
  obtain⟨es,rfl,o,rfl⟩:=e;rw[aE,aS (aG _)];refine⟨p3,rfl,_,.inl ⟨dL.of zB,fun p4 hp4=>?_⟩⟩;have s3:=zD hp3 (.lst ((ns.map fun p=>(vZ p ks:Int)).map V.int));have s4:=zD hp4 (.tup ((ns.map fun p=>(vZ p ks:Int)).map V.int));have ss:=(s2.trans es).trans (s3.trans s4);refine⟨_,ss _ _ k1,_,zB,WX (by simp;lia),fun p5 H5 s5 k5=>?_⟩;refine q _ _ ((s1.trans ss).trans s5) ⟨p5,_,rfl,k5,_,_,rfl,rfl,atNs _ _⟩
 ·rw[aL (dH V.str hw)];rw[has]at hus;obtain⟨v1,r1,e1,e2,v2,r2,e3,e4,e5⟩:=hus;have e5:r2=[]:=e5;have e2:v1=.int r:=e2;subst e5 e3 e1 e2;obtain⟨b,rfl,hb⟩:=ml e4;rw[hw,has,cw]at hin;rw[PV hw has]at q;refine⟨_,dN.of ha,_,rG,_,dN.of ha,_,at2,b,rfl,⟨_,dN.of hb⟩,?_⟩;refine US (xs:=ps.map V.int) (fun i ys σ H'=>bB H H'/\ys=((ps.take i).map fun p=>(vZ p ks:Int)).map V.int/\∃o,σ=[o,some (V.ref d)]) ⟨bB.refl _,rfl,_,rfl⟩ (WX (by rw[aE];lia)) (fun i ys σ H' e=>?_) (fun i ys σ H' e=>dN.of (e.1 _ _ hb)) (fun i x ys σ H' C hx e hC=>?_) (fun ys σ H' e p3 hp3=>?_)
  ·obtain⟨_,rfl,_⟩:=e;rw[aE,aE,bX];lia
  ·obtain⟨es,rfl,o,rfl⟩:=e;rw[aK]at hx;cases hni:ps[i]? with
   |none=>rw[hni]at hx;cases hx
   |some n=>
    rw[hni]at hx;cases hx;dsimp![];refine⟨_,.inl ⟨_,.inl n,.inl (es _ _ hd),rfl,(XH 0 (hin n (aX hni))).symm⟩,hC _ _ _ ⟨es,?_,_,rfl⟩⟩;obtain⟨hi,e⟩:=aC.mp hni;rw[aM hi,e,aU,aU,iE];rfl
  obtain⟨es,rfl,o,rfl⟩:=e;rw[aE,aS (aG _)];refine⟨p3,rfl,_,.inl ⟨dL.of zB,fun p4 hp4=>⟨WX (by simp),fun p5 hp5=>?_⟩⟩⟩;have s3:=zD hp3 (.lst ((ps.map fun p=>(vZ p ks:Int)).map V.int));have s4:=zD hp4 (.tup ((ps.map fun p=>(vZ p ks:Int)).map V.int));have s5:=zD hp5 (.tup [.str "rule",.int r,.ref p4]);refine q _ _ ((es.trans (s3.trans s4)).trans s5) ⟨p5,_,rfl,zB,_,_,rfl,rfl,_,_,rfl,rfl,_,_,rfl,qg (s5 _ _ zB),rfl⟩
theorem BD(bi:Bi mg)(be:mg "enumerate"=none)(F:gS K "line_for" "line_for" s_P f fd):dI P w K mg base fY 1 f fd ["lines","i","j"] i6:=by
 refine F.okz ln fun fL A outer s H vs Q E hr h=>?_
 obtain⟨la,ws,ls,i,j,rfl,hla,hls,q⟩:=h;have hwl:=qU hls;refine⟨_,(zF (yM bM rfl (jN rfl be (zA (pv 0) zC)) (uU rfl (zY (yF 3 ln.nd) (zY (yF 4 ln.nd) xH))) (zG (yI (zQ (ZA hr.units) (zN (zA (zM zP (pv 4) zE) (zA (zM zP (pv 4) zE) zC))) (zN (zA (pv 1) (zA (pv 2) zC))) (zU _)) (zG (zO (pv 3))) zW))) (zG (zO uC))),?_⟩;refine yB (fun σ H'=>∃(o1 o2:Option V),bB H H'/\(∀l∈ls,¬(l.i=i/\l.j=j))/\σ=[some (V.ref la),some (V.int i),some (V.int j),o1,o2]) (fun N hN=>?_) (fun σ H' h=>?_)
 ·dsimp![vF];refine⟨_,hla,?_⟩;refine KH (xs:=ws) (fun n σ H'=>∃(o1 o2:Option V),bB H H'/\(∀(m:Nat)(l':Ln),m<n->ls[m]?=some l'->¬(l'.i=i/\l'.j=j))/\σ=[some (V.ref la),some (V.int i),some (V.int j),o1,o2]) ⟨_,_,bB.refl _,(fun m l z=>by cases z),rfl⟩ (fun n σ H' h=>?_) (fun n x σ H' p hx h hp=>?_) (fun σ H' h=>?_)
  ·obtain⟨o1,o2,s1,_⟩:=h;exact s1 _ _ hla
  ·obtain⟨o1,o2,s1,hno,rfl⟩:=h;obtain⟨l,hl1,hl2⟩:=jC hls hx;obtain⟨b,u,rfl,hb,_⟩:=SY hl2;have s2:=zD hp (.tup [.int n,.ref b]);have k2:upd H' p (.tup [.int n,.ref b]) p=some (.tup [.int n,.ref b]):=zB;replace s1:=s1.trans s2;generalize upd H' p (.tup [.int n,.ref b])=H2 at s1 k2⊢;replace hb:=s1 _ _ hb;dsimp![vI,jU,wC];refine⟨[.int n,.ref b],dN.of k2,rfl,.int n,[.ref b],rfl,.ref b,[],rfl,rfl,?_⟩;refine⟨b,rfl,_,dN.of hb,_,mK,b,rfl,_,dN.of hb,_,rG,WX (by simp),fun p3 h3=>⟨WX (by simp),fun p4 h4=>?_⟩⟩;have s3:=zD h3 (.tup [.int l.i,.int l.j]);have s4:=zD h4 (.tup [.int i,.int j]);refine⟨0,GB (l.i,l.j),⟨p3,_,rfl,s4 _ _ zB,_,_,rfl,rfl,_,_,rfl,rfl,rfl⟩,GB (i,j),⟨p4,_,rfl,zB,_,_,rfl,rfl,_,_,rfl,rfl,rfl⟩,pq 0 _,(),_,rfl,?_⟩;rw[p7];by_cases e:l.i=i/\l.j=j
   ·rw[aL (by rw[e.1,e.2];simp)];exact q _ _ (s1.trans (s3.trans s4)) (.inr ⟨n,l,rfl,hl1,e,hno⟩)
   ·rw[aH (by simpa using e)];refine⟨s1.trans (s3.trans s4),fun m l' hm fF=>?_,_,rfl⟩;by_cases em:m=n
    ·subst em;rw[hl1]at fF;cases fF;exact e
    ·exact hno m l' () fF
  ·obtain⟨o1,o2,s1,hno,rfl⟩:=h;refine hN _ _ ⟨o1,o2,s1,fun l hl=>?_,rfl⟩;obtain⟨m,hm,e⟩:=dO hl;exact hno m l () (by rw[aA hm,e])
 obtain⟨o1,o2,s1,hno,rfl⟩:=h;dsimp![];exact q _ _ s1 (.inl ⟨rfl,hno⟩)
inductive spHu (vs:List V) (H:Hp) (Q:VK) (E:XK):Prop
 |mk (la:Addr) (ws:List V) (ls:List Ln) (k:Nat) (_:vs=[.ref la,.int k]) (_:H la=some (.lst ws)) (_:jV H ls ws) (_:wI ls) (_:k<ls.length) (_:ls.length<=40000) (_:∀p ks H',bB H H'->H' p=some (.lst (ks.map V.int))->Kept ls k ks->Q (.ref p) H')
def PapAt(H:Hp)(ls:List Ln)(i j:Int)(r:V):Prop:=(r=.non/\∀l∈ls,¬(l.i=i/\l.j=j))\/
 ∃(k:Nat)(l:Ln)(ks:List Int),ls[k]?=some l/\(l.i=i/\l.j=j)/\(∀(m:Nat)(l':Ln),m<k->ls[m]?=some l'->¬(l'.i=i/\l'.j=j))/\Kept ls k ks/\dW H (.lst ((EM ls ks ks.length).map ND)) r
inductive spPa (vs:List V) (H:Hp) (Q:VK) (E:XK):Prop
 |mk (la:Addr) (ws:List V) (ls:List Ln) (i j:Int) (_:vs=[.ref la,.int i,.int j]) (_:H la=some (.lst ws)) (_:jV H ls ws) (_:wI ls) (_:ls.length<=40000) (_:∀r H',bB H H'->PapAt H' ls i j r->Q r H')
theorem TN{ls:List Ln}(h:wI ls){k:Nat}(hk:k<ls.length)(h63:ls.length<=40000):(CA ls k).length<=40000:=by
 have :=UU (XU ls k) (UW h k);lia
theorem WA{ls:List Ln}(h:wI ls){k:Nat}(hi:i<=k+1):(back (uE ls) k i).length<=k+1:=UU (qJ _ _ _) (kR (fun n h0 _=>uY h n h0) i hi)
theorem EY(bi:Bi mg)(h_A:gR P w K mg base 1 "lines_named" ["why"] spLN)(F:gS K "hung_on" "hung_on" s_Z f fd):dI P w K mg base fY 2 f fd ["lines","k"] spHu:=by
 refine F.okz bw fun fL A outer s H vs Q E hr h=>?_
 obtain⟨la,ws,ls,k,rfl,hla,hls,hah,hk,h63,q⟩:=h;have hwl:=qU hls;have at2:∀{a b c:V},oU [a,b,c] 2=some c:=yE (j:=2) rfl;refine⟨_,(zF (yD 2 bw.nd (df (RJ (pv 1) IH cv) rfl rfl (by simp) ())) (zF (yM bM rfl (cz rfl bi.range (zA (pv 1) (zA (wE uM zE) (zA (wE uM zE) zC)))) (yF 3 bw.nd) (zG (yI (kT (XI (xU hr) (pv 3) (pv 2)) (by with_unfolding_all rfl)) (zG (yM bM rfl (wK (zI h_A hr.m rfl (zA (zM zP (zM yH (pv 0) (pv 3)) zE) zC))) (yF 4 bw.nd) (zG (UK (xU hr) (pv 2) (pv 4) IH rfl)))) zW))) (zG (zO (yC JA rfl bi.sorted ZJ (zA (pv 2) zC)))))),?_⟩;refine zH fun N hN=>?_
 dsimp![];refine fun nd lD=>⟨zB,[(.inl (k:Int),.bl true)],rfl,by simp,hN _ _ ?_⟩
 clear hN;have s1:bB H (upd (upd H nd (.dK [])) nd (.dK (vA [] [(.inl (k:Int),V.bl true)]))):=((bB.refl H).upd lD).upd lD;have k1:upd (upd H nd (.dK [])) nd (.dK (vA [] [(.inl (k:Int),V.bl true)])) nd=some (.dK (DR (back (uE ls) k 0))):=zB;generalize upd (upd H nd (.dK [])) nd (.dK (vA [] [(.inl (k:Int),V.bl true)]))=H1 at s1 k1⊢;refine yB (fun σ H'=>∃(o1 o2:Option V),bB H H'/\H' nd=some (.dK (DR (CA ls k)))/\σ=[some (V.ref la),some (V.int k),some (V.ref nd),o1,o2]) (fun N hN=>?_) (fun σ H' h=>?_)
 ·dsimp![jj];refine⟨k,rfl,(),?_⟩;refine f7 (n:=k+1) (hi:=(k:Int)) (fun i σ H'=>∃(o1 o2:Option V),bB H H'/\H' nd=some (.dK (DR (back (uE ls) k i)))/\σ=[some (V.ref la),some (V.int k),some (V.ref nd),o1,o2]) ⟨_,_,s1,k1,rfl⟩ (fun i σ H' hi h=>?_) (fun σ H' h=>?_)
  ·obtain⟨o1,o2,s2,k2,rfl⟩:=h;have hbl:=WA hah (i:=i) (k:=k) ();dsimp![LO];refine⟨_,.inl ⟨_,.inl ((k:Int)-i),.inl k2,rfl,rfl⟩,?_⟩;rw[aq];by_cases hin:((k:Int)-i)∈back (uE ls) k i
   rotate_left
   ·rw[aH (by simpa using hin)];refine⟨s2,?_,_,rfl⟩;rw[vM hin];exact k2
   rw[aL (by simpa using hin)];have hn0:((k:Int)-i).toNat<ls.length:=by lia
   obtain⟨v,hv1,hv2⟩:=bG.get (d:=ND ls[((k:Int)-i).toNat]) hls (by rw[aK,aA hn0];rfl);have hlx:=aA hn0;have hgl:=hah _ _ hlx;have hnm:=jf hlx;generalize ls[((k:Int)-i).toNat]=l at hv2 hgl hnm;obtain⟨b,u,rfl,hb,hu⟩:=SY hv2;refine⟨_,dL.of (s2 _ _ hla),_,DA () hv1,b,rfl,_,dN.of (s2 _ _ hb),_,at2,?_⟩;refine⟨u,l.w,l.as,rfl,dW.same s2 hu,hgl.1,fun pt H3 s3 k3=>?_⟩;rw[←hnm]at k3;have k23:=s3 _ _ k2;have nn:pt≠nd:=fun z=>by rw[z,k23]at k3;cases k3
   refine⟨pt,rfl,⟨_,dN.of k3⟩,?_⟩;rw[qZ hin];have hps:∀p∈uE ls ((k:Int)-i),0<=p/\p<=(k:Int):=fun p hp=>by
    have :=uY hah _ () p hp;lia
   refine TX (xs:=(uE ls ((k:Int)-i)).map V.int) (fun m σ H'=>∃(o:Option V),bB H H'/\H' pt=some (.tup ((uE ls ((k:Int)-i)).map V.int))/\H' nd=some (.dK (DR (jE (back (uE ls) k i) ((uE ls ((k:Int)-i)).take m))))/\σ=[some (V.ref la),some (V.int k),some (V.ref nd),some (V.int ((k:Int)-i)),o]) ⟨_,s2.trans s3,k3,k23,rfl⟩ (fun m σ H' _ h=>?_) (fun m x σ H' hx h=>?_) (fun σ H' h=>?_)
   ·obtain⟨o,_,h2,_⟩:=h;exact dN.of h2
   ·obtain⟨o,s4,k4,k5,rfl⟩:=h;rw[aK]at hx;cases hni:(uE ls ((k:Int)-i))[m]? with
    |none=>rw[hni]at hx;cases hx
    |some p=>
     rw[hni]at hx;cases hx;dsimp![HM];have hal:(jE (back (uE ls) k i) ((uE ls ((k:Int)-i)).take m)).length<=k+1:=by
      refine UU (jW _ _ (qJ _ _ _)) fun z hz=>?_
      rcases(jL z _ _).mp hz with hz |hz
      ·exact kR (fun n h0 _=>uY hah n h0) i () z hz
      ·exact hps z (iT hz)
     obtain⟨hm,e⟩:=aC.mp hni;refine⟨_,.inl ⟨_,.inl p,k5,rfl,?_,rfl⟩,s4.upd lD,by rw[zJ nn];exact k4,?_,_,rfl⟩
     ·unfold DR;rw[aE];exact smB1 ()
     rw[zB,ar,aM hm,e,DD]
   ·obtain⟨o,s4,k4,k5,rfl⟩:=h;rw[aE,aS (aG _)]at k5;exact⟨s4,k5,_,_,rfl⟩
  ·obtain⟨o1,o2,s2,k2,rfl⟩:=h;exact hN _ _ ⟨_,_,s2,k2,rfl⟩
 obtain⟨o1,o2,s2,k2,rfl⟩:=h;dsimp![];have hl:=TN hah hk h63;refine⟨_,k2,CA ls k,OL _,(),fun p ks hp hpm hrs=>?_⟩;exact q _ ks _ (s2.trans (zD hp _)) zB ⟨hpm,hrs⟩
theorem SA(bi:Bi mg)(be:mg "enumerate"=none)(h_P:gR P w K mg base 1 "line_for" ["lines","i","j"] i6)(h_Z:gR P w K mg base 2 "hung_on" ["lines","k"] spHu)(h_aa:gR P w K mg base 1 "renamed" ["why","places"] spRn)(F:gS K "paper" "paper" l6 f fd):dI P w K mg base fY 3 f fd ["lines","i","j"] spPa:=by
 refine F.okz HK fun fL A outer s H vs Q E hr h=>?_
 obtain⟨la,ws,ls,i,j,rfl,hla,hls,hah,h63,q⟩:=h;have hwl:=qU hls;have at2:∀{a b c:V},oU [a,b,c] 2=some c:=yE (j:=2) rfl;refine⟨_,(zF (yD 3 HK.nd (zI h_P hr.m rfl (zA (pv 0) (zA (pv 1) (zA (pv 2) zC))))) (zF (yI (zQ ER (pv 3) uC (zU _)) (zG (zO uC)) zW) (zF (yD 4 HK.nd (zI h_Z hr.m rfl (zA (pv 0) (zA (pv 3) zC)))) (zF (kU (i:=5) HK.nd rfl (Or.inr rfl) (xO JB rfl bi.dict YS (zA (yU ["place","n"] [] [] (jN rfl be (zA (pv 4) zC)) (fun _ _ _ _ nd=>qO (K:=K) (n:=2) rfl (zY (yF 0 nd) (zY (yF 1 nd) xH))) (fun _ _ _ _=>xE) (fun _ _ _ _=>(zN (zA (pv 1) (zA (pv 0) zC))))) zC))) (zG (zO (yU ["n"] ["places","lines"] [5,0] (yG (pv 4)) (fun _ _ _ _ nd=>yF 0 nd) (fun _ _ _ _=>xE) (fun _ _ _ _=>(zN (zA (zM (uF K) (zM (kI K) (pv 2) (pv 0)) zE) (zA (zM (uF K) (zM (kI K) (pv 2) (pv 0)) zE) (zA (zI h_aa hr.m rfl (zA (zM (uF K) (zM (kI K) (pv 2) (pv 0)) zE) (zA (pv 1) zC))) zC)))))))))))),?_⟩;refine zH fun N hN=>?_
 dsimp![];refine⟨la,ws,ls,i,j,rfl,hla,hls,fun r H1 s1 hr1=>hN _ _ ?_⟩;replace hla:=s1 _ _ hla;replace hls:=bG.same s1 hls;clear hN;refine zH fun N hN=>?_
 dsimp![];rcases hr1 with⟨rfl,hno⟩ |⟨k,l,rfl,hlk,hij,hno⟩
 ·rw[aL rfl];exact q _ _ s1 (.inl ⟨rfl,hno⟩)
 rw[aH (by intro z;cases z)];refine hN _ _ ?_;clear hN;have hk:=(aC.mp hlk).1;refine zH fun N hN=>?_
 dsimp![];refine⟨la,ws,ls,k,rfl,hla,hls,hah,hk,h63,fun pk ks H2 s2 k2 hks=>hN _ _ ?_⟩;replace hla:=s2 _ _ hla;replace hls:=bG.same s2 hls;replace s1:=s1.trans s2;clear hN;have hkn:=hks.nodup;have hki:=hks.inn hah;have hkl:=UU hkn hki;refine zH fun N hN=>?_
 dsimp![vF];refine⟨_,k2,?_⟩;refine IS (xs:=ks.map V.int) (fun i ys σ H'=>bB H2 H'/\(∃as:List Addr,ys=as.map V.ref/\as.length=i/\∀(m:Nat)(a:Addr),as[m]?=some a->∃n,ks[m]?=some n/\H' a=some (.tup [.int n,.int m]))/\∃o1 o2,σ=[o1,o2]) ⟨bB.refl _,⟨[],rfl,rfl,fun m a z=>by cases z⟩,_,_,rfl⟩ (WX (by rw[aE];lia)) (fun i ys σ H' e=>?_) (fun i ys σ H' e=>e.1 _ _ k2) (fun i x ys σ H' p C hx e hp hC=>?_) (fun ys σ H' e p3 hp3=>?_)
 ·obtain⟨_,⟨as,rfl,hl,_⟩,_⟩:=e;rw[aE];lia
 ·obtain⟨es,⟨as,rfl,hal,has⟩,o1,o2,rfl⟩:=e;rw[aK]at hx;cases hni:ks[i]? with
  |none=>rw[hni]at hx;cases hx
  |some n=>
   rw[hni]at hx;cases hx;have s3:=zD hp (.tup [.int i,.int n]);have k3:upd H' p (.tup [.int i,.int n]) p=some (.tup [.int i,.int n]):=zB;generalize upd H' p (.tup [.int i,.int n])=H3 at s3 k3⊢;dsimp![vI,jU,wC];refine⟨[.int i,.int n],dN.of k3,rfl,.int i,[.int n],rfl,.int n,[],rfl,rfl,WX (by simp),fun p4 hp4=>hC _ _ _ ?_⟩;have s4:=zD hp4 (.tup [.int n,.int i]);refine⟨(es.trans s3).trans s4,⟨as++[p4],by rw[aU];rfl,by simp[hal],fun m a hm=>?_⟩,_,_,rfl⟩;by_cases lS:m<as.length
   ·rw[bC lS]at hm;obtain⟨n',h1,h2⟩:=has m a hm;exact⟨n',h1,s4 _ _ (s3 _ _ h2)⟩
   ·have hm2:=(aC.mp hm).1;rw[aI,cC]at hm2;have em:m=as.length:=by lia
    subst em;rw[bL (aG _),fM]at hm;cases hm;refine⟨n,by rw[hal];exact hni,?_⟩;rw[hal];exact zB
 obtain⟨es,⟨as,rfl,hal,has⟩,o1,o2,rfl⟩:=e;rw[aE]at hal;have s3:=zD hp3 (.lst (as.map V.ref));have k3:upd H' p3 (.lst (as.map V.ref)) p3=some (.lst (as.map V.ref)):=zB;generalize upd H' p3 (.lst (as.map V.ref))=H3 at s3 k3⊢;refine⟨p3,rfl,as,dL.of k3,wJ ks 0,by rw[AI];exact hal,?_,fun m kk v hm=>?_,fun d hd=>hN _ _ ?_⟩
 ·rw[JW];exact mH.mpr (List.Pairwise.imp (fun lL e=>lL (rT e)) hkn)
 ·obtain⟨n,h1,rfl,rfl⟩:=AJ hm;have hm':m<as.length:=by rw[hal];exact(aC.mp h1).1
  obtain⟨n',h2,h3⟩:=has m as[m] (aA hm');rw[h1]at h2;cases h2;exact⟨as[m],aA hm',dN.of (by rw[iE];exact s3 _ _ h3)⟩
 clear hN;have s4:=zD hd (.dK (wJ ks 0));have k4:upd H3 d (.dK (wJ ks 0)) d=some (.dK (wJ ks 0)):=zB;have ss:=(es.trans s3).trans s4;generalize upd H3 d (.dK (wJ ks 0))=H4 at ss k4⊢;replace s1:=s1.trans ss;replace hla:=ss _ _ hla;replace hls:=bG.same ss hls;replace k2:=ss _ _ k2;clear ss s4 s3 es k3 has hd hp3;dsimp![];refine⟨⟨_,dL.of k2⟩,?_⟩;refine jX (xs:=ks.map V.int) (fun i ys σ H'=>bB H4 H'/\bG H' ((EM ls ks i).map ND) ys/\∃o,σ=[o,some (V.ref d),some (V.ref la)]) ⟨bB.refl _,rfl,_,rfl⟩ (WX (by rw[aE];lia)) (fun i ys σ H' e=>?_) (fun i ys σ H' e=>dL.of (e.1 _ _ k2)) (fun i x ys σ H' C hx e hC=>?_) (fun ys σ H' e p5 hp5=>?_)
 ·have :=bG.length e.2.1;rw[aE]at this;have :=RU ls ks i;lia
 ·obtain⟨es,hys,o,rfl⟩:=e;rw[aK]at hx;cases hni:ks[i]? with
  |none=>rw[hni]at hx;cases hx
  |some n=>
   rw[hni]at hx;cases hx;have hnk:=aX hni;have hn:=hki n hnk;have hn0:n.toNat<ls.length:=by lia
   obtain⟨v,hv1,hv2⟩:=bG.get (d:=ND ls[n.toNat]) hls (by rw[aK,aA hn0];rfl);have hlx:=aA hn0;have hgl:=hah _ _ hlx;have hcl:=hks.closed hah n hnk;rw[jf hlx]at hcl;generalize ls[n.toNat]=l' at hv2 hgl hcl hlx;obtain⟨b,u,rfl,hb,hu⟩:=SY hv2;have hat:oU ws n=some (.ref b):=DA hn.1 hv1;dsimp![];refine⟨_,dL.of (es _ _ hla),_,hat,b,rfl,_,dN.of (es _ _ hb),_,mK,_,dL.of (es _ _ hla),_,hat,b,rfl,_,dN.of (es _ _ hb),_,rG,_,dL.of (es _ _ hla),_,hat,b,rfl,_,dN.of (es _ _ hb),_,at2,?_⟩;refine⟨u,d,l',ks,rfl,dW.same es hu,hgl.1,es _ _ k4,hcl,fun v' H5 s5 hv'=>⟨WX (by simp),fun p6 hp6=>hC _ _ _ ?_⟩⟩;have s6:=zD hp6 (.tup [.int l'.i,.int l'.j,v']);refine⟨(es.trans s5).trans s6,?_,_,rfl⟩;rw[MB hni hlx,aU];refine bG.append (bG.same (s5.trans s6) hys) (bG.one ?_);have er:ND (NS ks l')=ND ⟨l'.i,l'.j,(NS ks l').w,(NS ks l').as⟩:=by
    unfold NS;split<;>rfl
   rw[er];exact qh zB (dW.same s6 hv')
 obtain⟨es,hys,o,rfl⟩:=e;have s5:=zD hp5 (.lst ys);rw[aE]at hys;exact q _ _ (s1.trans (es.trans s5)) (.inr ⟨k,l,ks,hlk,hij,hno,hks,⟨p5,_,rfl,zB,bG.same s5 hys⟩⟩)
structure Rl(M:Nat)(R:Nat->Nat->Bool):Prop where
 refl:∀x,x<M->R x x=true
 turn:∀i j,R i j=true->R (lP j) (lP i)=true
 trans:∀i j k,R i j=true->R j k=true->R i k=true
 all:∀i n,R i (lP i)=true->n<M->R i n=true
 ev:∃h,M=2*h
theorem Rl.of{ls:List Ln}(hp:Pl aD (2*aD.length) aD.length ls)(hc:Cl aD aV ls.length ls):Rl (2*aD.length) (rl ls):=by
 have lt:∀{p:Nat}{l:Ln},ls[p]?=some l->p<ls.length:=fun h=>(aC.mp h).1
 refine⟨fun x hx=>hp.same x hx,fun i j h=>?_,fun i j k h1 h2=>?_,fun i n h hn=>?_,_,rfl⟩
 ·obtain⟨p,l,g1,g2,g3⟩:=eZ.mp h;exact hc.turn p l i j (lt g1) g1 g2 g3
 ·obtain⟨p,l,g1,g2,g3⟩:=eZ.mp h1;obtain⟨p',l',g1',g2',g3'⟩:=eZ.mp h2;exact hc.chain p p' l l' i j k (lt g1) (lt g1') g1 g1' g2 g3 g2' g3'
 ·obtain⟨p,l,g1,g2,g3⟩:=eZ.mp h;exact hc.clash p l i (lP i) (lt g1) g1 g2 g3 (qC i).symm n hn
section
variable {M:Nat} {R:Nat->Nat->Bool}
theorem Rl.sym(h:Rl M R)(g:R i (lP j)=true):R j (lP i)=true:=by
 have :=h.turn _ _ g;rwa[vP]at this
theorem Rl.lt(h:Rl M R)(hn:n<M):lP n<M:=by
 obtain⟨k,hk⟩:=h.ev;rw[hk]at hn⊢;exact YW hn
theorem oW{x:Nat}:x∈yR M R↔x<M/\R x (lP x)=false:=by
 unfold yR;rw[cX,bP];simp
theorem UB{a:Nat}(ha:a<(yR M R).length):(yR M R).getD a 0∈yR M R:=by
 rw[bU,aA ha];exact cW ha
theorem lO{a:Nat}:a∈jF sp R n↔a<sp.length/\R (sp.getD a 0) n=true:=by
 unfold jF;rw[cX,bP]
theorem sL{p:Nat×Nat}:p∈wR sp R↔p.1<sp.length/\p.2<sp.length/\p.1<p.2/\R (sp.getD p.1 0) (lP (sp.getD p.2 0))=true:=by
 unfold wR;rw[mV];constructor
 ·rintro⟨a,ha,hp⟩;obtain⟨b,hb,rfl⟩:=cD.mp hp;rw[cX,bP]at hb;simp only[bY,bQ]at hb;exact⟨bP.mp ha,hb.1,hb.2.1,hb.2.2⟩
 ·rintro⟨h1,h2,h3,h4⟩;refine⟨p.1,bP.mpr h1,cD.mpr ⟨p.2,?_,rfl⟩⟩;rw[cX,bP];simp only[bY,bQ];exact⟨h2,h3,h4⟩
theorem VW{a b:Nat}:uK ps a b=true↔(a,b)∈ps\/(b,a)∈ps:=by
 unfold uK;rw[fK];constructor
 ·rintro⟨p,hp,h⟩;simp only[nU,bY,cQ]at h;rcases h with⟨h1,h2⟩ |⟨h1,h2⟩
  ·exact .inl (by rw[←h1,←h2];exact hp)
  ·exact .inr (by rw[←h1,←h2];exact hp)
 ·rintro(h |h)
  ·exact⟨_,h,by simp⟩
  ·exact⟨_,h,by simp⟩
theorem jn(h:Rl M R){a b:Nat}(ha:a<(yR M R).length)(hb:b<(yR M R).length):uK (wR (yR M R) R) a b=R ((yR M R).getD a 0) (lP ((yR M R).getD b 0)):=by
 rw[cE,VW,sL,sL];constructor
 ·rintro(⟨_,_,_,g⟩ |⟨_,_,_,g⟩)
  ·exact g
  ·exact h.sym g
 ·intro g;rcases Nat.lt_trichotomy a b with l |e |l
  ·exact .inl ⟨ha,hb,l,g⟩
  ·subst e;have :=(oW.mp (UB ha)).2;rw[this]at g;cases g
  ·exact .inr ⟨hb,ha,l,h.sym g⟩
theorem VE(h:Rl M R)(hn:n<M):cnt (yR M R).length (wR (yR M R) R) (jF (yR M R) R n)=jF (yR M R) R (lP n):=by
 unfold cnt;show _=(List.range (yR M R).length).filter fun a=>R ((yR M R).getD a 0) (lP n)
 refine List.filter_congr fun i hi=>?_
 have hi:=bP.mp hi;have hsi:=oW.mp (UB hi);rw[cE,dB];constructor
 ·intro g;by_cases c:R n (lP n)=true
  ·exact h.sym (h.all n _ c (h.lt hsi.1))
  ·have hm:n∈yR M R:=oW.mpr ⟨hn,dX.mpr c⟩;obtain⟨a,ha⟩:=iU hm;have ea:(yR M R).getD a 0=n:=by rw[bU,ha];rfl
   have hal:=(aC.mp ha).1;have :=g a (lO.mpr ⟨hal,by rw[ea];exact h.refl n hn⟩);rw[jn h hal hi,ea]at this;exact h.sym this
 ·intro g a ha;obtain⟨hal,hr⟩:=lO.mp ha;rw[jn h hal hi];exact h.sym (h.trans _ _ _ g (h.turn _ _ hr))
theorem VS(h:Rl M R)(hn:n<M):cnt (yR M R).length (wR (yR M R) R) (cnt (yR M R).length (wR (yR M R) R) (jF (yR M R) R n))=jF (yR M R) R n:=by
 rw[VE h hn,VE h (h.lt hn),vP]
theorem GC(sp:List Nat):Ok2 sp.length (wR sp R):=fun p hp=>let ⟨_,h2,h3,_⟩:=sL.mp hp;⟨h3,h2⟩
theorem bb:(yR M R).length<=M:=cP (iM _ _) (by rw[eY];exact aG _)
end
theorem IL{x:Str}{k:Nat}(h:(x,k)∈IM aD):aD[k]?=some (.nm x)/\k<aD.length:=by
 unfold IM at h;obtain⟨q,hq,e⟩:=lU.mp h;unfold SO at e;split at e
 ·rename_i y hy
  cases e;exact⟨hy,bP.mp hq⟩
 ·cases e
section
variable {M:Nat} {R:Nat->Nat->Bool}
theorem OF(h:Rl M R)(low:∀x,x<M->R 0 x=true):jF (yR M R) R 0=[]:=by
 unfold jF;refine List.filter_eq_nil_iff.mpr fun a ha hr=>?_
 obtain⟨h1,h2⟩:=oW.mp (UB (bP.mp ha));have :=h.trans _ _ _ hr (low _ (h.lt h1));rw[h2]at this;cases this
theorem OH(h:Rl M R)(hi:R n i=true)(hj:R n j=true)(hb:∀x,R x i=true->R x j=true->R x n=true):(jF sp R i).filter (fun a=>decide (a∈jF sp R j))=jF sp R n:=by
 unfold jF;rw[List.filter_filter];refine List.filter_congr fun a ha=>?_
 have hal:=bP.mp ha;rw[cE,bY,bQ];constructor
 ·rintro⟨h1,h2⟩;exact hb _ h2 (lO.mp h1).2
 ·intro g;exact⟨lO.mpr ⟨hal,h.trans _ _ _ g hj⟩,h.trans _ _ _ g hi⟩
theorem LG(h:Rl M R)(hi:i<M)(hj:j<M):((jF (yR M R) R i).all fun a=>decide (a∈jF (yR M R) R j))=R i j:=by
 rw[cE,dB];constructor
 ·intro g;by_cases c:R i (lP i)=true
  ·exact h.all i j c hj
  ·have hm:i∈yR M R:=oW.mpr ⟨hi,dX.mpr c⟩;obtain⟨a,ha⟩:=iU hm;have ea:(yR M R).getD a 0=i:=by rw[bU,ha];rfl
   have hal:=(aC.mp ha).1;have :=g a (lO.mpr ⟨hal,by rw[ea];exact h.refl i hi⟩);have :=(lO.mp (of_decide_eq_true this)).2;rwa[ea]at this
 ·intro g a ha;obtain⟨h1,h2⟩:=lO.mp ha;exact eC (lO.mpr ⟨h1,h.trans _ _ _ h2 g⟩)
end
abbrev In2(n:Nat)(p:Pr):Prop:=(0<=p.1/\p.1<(n:Int))/\0<=p.2/\p.2<(n:Int)
structure Clo(aD:List Rw)(aV:List xM)(X:Int->Int->Prop):Prop where
 same:∀n:Nat,n<2*aD.length->X n n
 low:∀n:Nat,n<2*aD.length->X 0 n
 high:∀n:Nat,n<2*aD.length->X n 1
 part:∀(k:Nat)(x y:Int),aD[k]?=some (.bo x y)->X ((2*k:Nat):Int) x/\X ((2*k:Nat):Int) y
 clash:∀i j:Nat,i<2*aD.length->j<2*aD.length->X i (rM i)->X i j
 both:∀(i k:Nat)(x y:Int),i<2*aD.length->aD[k]?=some (.bo x y)->X i x->X i y->X i ((2*k:Nat):Int)
 chain:∀i m j:Nat,i<2*aD.length->m<2*aD.length->j<2*aD.length->X i m->X m j->X i j
 turn:∀i j:Nat,i<2*aD.length->j<2*aD.length->X i j->X (rM j) (rM i)
 rule:∀q∈aV,(∀p∈q.1,X p.1 p.2)->X q.2.1 q.2.2
theorem AQ{x:Int}(h:x∈uW aD n):∃(k:Nat)(a b:Int),n=2*k/\aD[k]?=some (.bo a b)/\uW aD n=[a,b]:=by
 unfold uW at h⊢;by_cases h2:(n:Int) % 2=0
 ·rw[aL h2]at h⊢;have e:((n:Int)/2).toNat=n/2:=by lia
  rw[e]at h⊢;cases hr:aD[n/2]? with
  |none=>rw[hr]at h;cases h
  |some r=>
   rw[hr]at h;cases r with
   |no=>cases h
   |nm y=>cases h
   |bo a b=>exact⟨n/2,a,b,(),hr,rfl⟩
 ·rw[aH h2]at h;cases h
theorem SZ{ls:List Ln}{X:Int->Int->Prop}(c:Clo aD aV X)(h:LD aD aV ls):∀(k:Nat)(l:Ln),ls[k]?=some l->X l.i l.j:=by
 intro k
 induction k using Nat.strongRecOn with
 |ind k ih=>
  intro l hl;have hs:=h.snd k l hl;have hr:=qW hs;have sd:∀(a:Wt)(p:Pr),xK ls k a=some p->In2 (2*aD.length) p/\X p.1 p.2:=fun a p hp=>by
   cases a with
   |ps _=>cases hp
   |n i=>
    by_cases hi:0<=i/\i<(k:Int)
    ·cases hq:ls[i.toNat]? with
     |none=>
      have :xK ls k (.n i)=none:=by
       show(if 0<=i/\i<(k:Int)then(ls[i.toNat]?).map fun l=>(l.i,l.j)else none)=_;rw[aL hi,hq];rfl
      rw[this]at hp;cases hp
     |some l'=>
      rw[PM hi hq]at hp;cases hp;have lY:=qW (h.snd _ l' hq);exact⟨⟨⟨lY.1.1,by have :=lY.1.2;show l'.i<_;lia⟩,lY.2.1,by have :=lY.2.2;show l'.j<_;lia⟩,ih _ () l' hq⟩
    ·rw[PN hi]at hp;cases hp
  obtain⟨⟨r1,r2⟩,r3,r4⟩:=hr;unfold xP at hs;rw[aH (by rintro(z |z);exact z ⟨r1,r2⟩;exact z ⟨r3,r4⟩)]at hs;split at hs
  ·unfold jR at hs;split at hs
   ·rename_i r ps _
    split at hs
    ·rename_i hrr
     split at hs
     ·rename_i q hq
      rw[bY,cQ,cQ]at hs;have e1:l.i=q.2.1:=dH Prod.fst hs.1;have e2:l.j=q.2.2:=dH Prod.snd hs.1;rw[e1,e2];refine c.rule q (aX hq) fun p hp=>?_
      have hm:some p∈ps.map fun p=>xK ls k (.n p):=by rw[hs.2];exact cD.mpr ⟨p,hp,rfl⟩
      obtain⟨x,_,hx⟩:=cD.mp hm;exact(sd _ p hx).2
     ·cases hs
    ·cases hs
   ·cases hs
  ·split at hs
   ·have hsd:∀p∈l.as.filterMap (xK ls k),In2 (2*aD.length) p/\X p.1 p.2:=fun p hp=>by
     obtain⟨a,_,ha⟩:=lU.mp hp;exact sd a p ha
    generalize l.as.filterMap (xK ls k)=ps at hs hsd;obtain⟨i,hi⟩:∃i:Nat,l.i=(i:Int):=dY r1;obtain⟨j,hj⟩:∃j:Nat,l.j=(j:Int):=dY r3;rw[hi]at r2 hs⊢;rw[hj]at r4 hs⊢;have ri:i<2*aD.length:=by lia
    have rj:j<2*aD.length:=by lia
    unfold xA at hs;split at hs
    ·rw[cQ]at hs;rw[←hs];exact c.same i ri
    split at hs
    ·rw[nU,cQ,cQ]at hs;rcases hs with e |e
     ·rw[e];exact c.low j rj
     ·rw[e];exact c.high i ri
    split at hs
    ·rw[fK]at hs;obtain⟨x,hx,e⟩:=hs;rw[cQ]at e;obtain⟨m,a,b,e1,e2,e3⟩:=AQ hx;rw[e3]at hx;have :=c.part m a b e2;rw[e1,←e];simp only[bJ,fH,or_false]at hx;rcases hx with rfl |rfl
     ·exact this.1
     ·exact this.2
    split at hs
    ·split at hs
     ·rename_i a b hp
      rw[cQ]at hs;obtain⟨m,a',b',e1,e2,e3⟩:=AQ (show a∈uW aD j by rw[hp];exact bF);rw[hp]at e3;cases e3;have x1:=(hsd (i,a) (by rw[hs];simp)).2;have x2:=(hsd (i,b) (by rw[hs];simp)).2;rw[e1];exact c.both i m a b ri e2 x1 x2
     ·cases hs
    split at hs
    ·rw[cQ]at hs;have x1:=(hsd (rM j,rM i) (by rw[hs];simp)).2;rw[qC,qC]at x1;have :=c.turn (lP j) (lP i) (YW rj) (YW ri) x1;rw[qC,qC,vP,vP]at this;exact this
    split at hs
    ·split at hs
     ·rename_i p q
      rw[bY,bY,cQ,cQ,cQ]at hs;obtain⟨p1,p2⟩:=hsd p (by simp);obtain⟨q1,q2⟩:=hsd q (by simp);obtain⟨m,hm⟩:∃m:Nat,p.2=(m:Int):=dY p1.2.1;have hmr:=p1.2.2;rw[hm]at hmr;rw[hs.1.1,hm]at p2;rw[←hs.1.2,hs.2,hm]at q2;exact c.chain i m j ri () rj p2 q2
     ·cases hs
    ·rw[cQ]at hs;exact c.clash i j ri rj (hsd (i,rM i) (by rw[hs];simp)).2
   ·cases hs
def pp(m:Nat)(ps:List (Nat×Nat))(A:Nat->Prop)(a:Nat):Prop:=a<m/\∀b,A b->uK ps b a=true
structure Fw(m:Nat)(ps:List (Nat×Nat))(S:Str->List Nat):Prop where
 irr:∀a,uK ps a a=false
 full:∀x a,a∈S x↔a∈cnt m ps (cnt m ps (S x))
theorem TL{m:Nat}(h:Ok2 m ps)(a:Nat):uK ps a a=false:=by
 rw[dX];intro z;unfold uK at z;obtain⟨p,hp,e⟩:=fK.mp z;have :=(h p hp).1;simp only[nU,bY,cQ]at e;lia
theorem lX{m:Nat}{v:List Nat}{a:Nat}:a∈cnt m ps v↔pp m ps (· ∈v) a:=by
 rw[pZ,dB];rfl
theorem xR{m:Nat}{A B:Nat->Prop}(h:∀a,A a↔B a)(a:Nat):pp m ps A a↔pp m ps B a:=by
 unfold pp;exact and_congr_right fun _=>forall_congr' fun b=>by rw[h b]
def tY(S:Str->List Nat)(U:Nat->Nat->Prop):Rw->Nat->Prop
 | .no,_=>False
 | .nm x,a=>a∈S x
 | .bo i j,a=>U i.toNat a/\U j.toNat a
structure Vw(m:Nat)(ps:List (Nat×Nat))(S:Str->List Nat)(aD:List Rw)(U:Nat->Nat->Prop):Prop where
 row:∀(k:Nat)(r:Rw),aD[k]?=some r->∀a,U (2*k) a↔tY S U r a
 odd:∀k,k<aD.length->∀a,U (2*k+1) a↔pp m ps (U (2*k)) a
section
variable {m:Nat}
theorem EF{V:Nat->Nat->Prop}{r:Rw}(hr:RowB r (2*(n:Int)))(h:∀k,k<2*n->∀a,U k a↔V k a)(a:Nat):tY S U r a↔tY S V r a:=by
 cases r with
 |no=>exact Iff.rfl
 |nm x=>exact Iff.rfl
 |bo i j=>
  obtain⟨⟨h1,h2⟩,h3,h4⟩:=hr i j rfl;exact and_congr (h _ () a) (h _ () a)
theorem vw_ex(hin:qK aD):∃U,Vw m ps S aD U:=by
 have go:∀k,k<=aD.length->∃U:Nat->Nat->Prop,(∀(j:Nat)(r:Rw),j<k->aD[j]?=some r->∀a,U (2*j) a↔tY S U r a)/\∀j,j<k->∀a,U (2*j+1) a↔pp m ps (U (2*j)) a:=by
  intro k
  induction k with
  |zero=>exact fun _=>⟨fun _ _=>False,fun j r h=>absurd h (),fun j h=>absurd h ()⟩
  |succ k ih=>
   intro hk;obtain⟨U,h1,h2⟩:=ih ();have hrk:aD[k]?=some aD[k]:=aA ();generalize aD[k]=r at hrk;have low:∀n,n<2*k->∀a,(if n<2*k then U n a else if n=2*k then tY S U r a else pp m ps (tY S U r) a)↔U n a:=fun n hn a=>by rw[aL hn]
   have rb:∀(j:Nat)(q:Rw),aD[j]?=some q->RowB q (2*(j:Int)):=fun j q hq i i' e=>by subst e;exact hin j i i' hq
   refine⟨fun n a=>if n<2*k then U n a else if n=2*k then tY S U r a else pp m ps (tY S U r) a,fun j q hj hq a=>?_,fun j hj a=>?_⟩
   ·rw[EF (V:=U) (rb j q hq) (fun n hn a=>low n () a)];by_cases c:j<k
    ·show(if 2*j<2*k then _ else _)↔_;rw[aL ()];exact h1 j q c hq a
    ·have e:j=k:=by lia
     subst e;rw[hrk]at hq;cases hq;show(if 2*j<2*j then _ else if 2*j=2*j then _ else _)↔_;rw[aH (),aL rfl]
   ·by_cases c:j<k
    ·show(if 2*j+1<2*k then _ else _)↔pp m ps (fun a=>if 2*j<2*k then _ else _) a;rw[aL ()];refine(h2 j c a).trans (xR (fun b=>?_) a);rw[aL ()]
    ·have e:j=k:=by lia
     subst e;show(if 2*j+1<2*j then _ else if 2*j+1=2*j then _ else _)↔pp m ps (fun a=>if 2*j<2*j then _ else if 2*j=2*j then _ else _) a;rw[aH (),aH ()];refine xR (fun b=>?_) a;rw[aH (),aL rfl]
 obtain⟨U,h1,h2⟩:=go aD.length (aG _);exact⟨U,fun k r hr=>h1 k r (aC.mp hr).1 hr,h2⟩
theorem Vw.turn(f:Fw m ps S)(v:Vw m ps S aD U)(hin:qK aD):∀n,n<2*aD.length->∀a,U (oT n) a↔pp m ps (U n) a:=by
 intro n
 induction n using Nat.strongRecOn with
 |ind n ih=>
  intro hn a;have hk:n/2<aD.length:=by lia
  by_cases c:n % 2=0
  ·have e1:oT n=2*(n/2)+1:=by unfold oT;lia
   have e2:n=2*(n/2):=by lia
   rw[e1,v.odd _ hk];rw[←e2]
  ·have e1:oT n=2*(n/2):=by unfold oT;lia
   have e2:n=2*(n/2)+1:=by lia
   rw[e1];have hr:aD[n/2]?=some aD[n/2]:=aA hk;generalize aD[n/2]=r at hr;have o:∀b,U n b↔pp m ps (U (2*(n/2))) b:=fun b=>by
    have :=v.odd _ hk b;rwa[←e2]at this
   rw[xR o];have rw':=v.row _ r hr;cases r with
   |no=>
    refine⟨fun z=>((rw' a).mp z).elim,fun z=>?_⟩;have :=z.2 a ⟨z.1,fun b hb=>((rw' b).mp hb).elim⟩;rw[f.irr]at this;cases this
   |nm x=>
    rw[rw' a];refine(f.full x a).trans ?_;rw[lX];exact xR (fun b=>lX.trans (xR (fun c=>(rw' c).symm) b)) a
   |bo i j=>
    obtain⟨⟨b1,b2⟩,b3,b4⟩:=hin _ i j hr;have fi:∀q:Int,0<=q->q<2*((n/2:Nat):Int)->∀b,U q.toNat b↔pp m ps (pp m ps (U q.toNat)) b:=fun q h0 h1 b=>by
     have l1:q.toNat<n:=by lia
     have l2:oT q.toNat<n:=by unfold oT;lia
     have g1:=ih _ l2 () b;rw[show oT (oT q.toNat)=q.toNat by unfold oT;lia]at g1;exact g1.trans (xR (fun c=>ih _ l1 () c) b)
    rw[rw' a];constructor
    ·rintro⟨g1,g2⟩;refine⟨((fi i b1 b2 a).mp g1).1,fun b hb=>?_⟩;rw[vY];exact hb.2 a ((rw' a).mpr ⟨g1,g2⟩)
    ·intro z;refine⟨(fi i b1 b2 a).mpr ⟨z.1,fun b hb=>z.2 b ⟨hb.1,fun c hc=>hb.2 c ((rw' c).mp hc).1⟩⟩,(fi j b3 b4 a).mpr ⟨z.1,fun b hb=>z.2 b ⟨hb.1,fun c hc=>hb.2 c ((rw' c).mp hc).2⟩⟩⟩
theorem Vw.lt(f:Fw m ps S)(v:Vw m ps S aD U)(hin:qK aD){a:Nat}(hn:n<2*aD.length)(h:U n a):a<m:=by
 have :=v.turn f hin (oT n) (by unfold oT;lia) a;rw[show oT (oT n)=n by unfold oT;lia]at this;exact(this.mp h).1
theorem EG{r:Rw}{k:Nat}(h:oP aD r=some k):aD[k]?=some r:=by
 unfold oP at h;obtain⟨hk,e,_⟩:=gA.mp h;rw[aA hk,(VC _ _).mp e]
theorem YR{a:Nat}:a∈cmn m vs↔a<m/\∀v∈vs,a∈v:=by
 unfold cmn;rw[cX,bP,dB];exact and_congr_right fun _=>forall_congr' fun v=>forall_congr' fun _=>decide_eq_true_iff
def NV(m:Nat)(ps:List (Nat×Nat))(S:Str->List Nat)(aD:List Rw)(U:Nat->Nat->Prop)(t:Tm):Prop:=∀n,num aD t=some n->n<2*aD.length/\∀a,a∈val m ps S t↔U n a
def tv(m:Nat)(ps:List (Nat×Nat))(e:Bool)(v:List Nat)(a:Nat):Prop:=if e then a∈cnt m ps v else a∈v
theorem i4(f:Fw m ps S)(v:Vw m ps S aD U)(hin:qK aD){e:Bool}{w:List Nat}(hn:n<2*aD.length)(h:∀a,a∈w↔U n a)(a:Nat):U (lQ e n) a↔tv m ps e w a:=by
 unfold tv lQ;cases e with
 |false=>rw[aH (),aH ()];exact(h a).symm
 |true=>rw[aL rfl,aL rfl,v.turn f hin n hn,lX];exact xR (fun b=>(h b).symm) a
theorem BH(f:Fw m ps S)(v:Vw m ps S aD U)(hin:qK aD)(e:Bool):∀(ts:List Tm)(m0 n:Nat)(A:Nat->Prop),(∀t∈ts,NV m ps S aD U t)->uJ aD e m0 ts=some n->m0<2*aD.length->(∀a,U m0 a↔A a)->n<2*aD.length/\∀a,U n a↔A a/\∀t∈ts,tv m ps e (val m ps S t) a
 |[],m0,n,A,_,h,hm,hA=>by
  rw[uJ]at h;cases h;exact⟨hm,fun a=>(hA a).trans ⟨fun z=>⟨z,fun t ht=>by cases ht⟩,And.left⟩⟩
 |t::ts,m0,n,A,ih,h,hm,hA=>by
  rw[uJ]at h;obtain⟨n1,g1,h⟩:=cY.mp h;obtain⟨k,g2,h⟩:=cY.mp h;obtain⟨l1,u1⟩:=ih t bF n1 g1;have hk:=EG g2;have hkl:=(aC.mp hk).1;obtain⟨l2,u2⟩:=BH f v hin e ts (2*k) n (fun a=>A a/\tv m ps e (val m ps S t) a) (fun t ht=>ih t (bE _ ht)) h () (fun a=>by
   rw[v.row k _ hk a];show U (m0:Int).toNat a/\U ((lQ e n1:Nat):Int).toNat a↔_;rw[cA,cA,hA a,i4 f v hin l1 u1])
  refine⟨l2,fun a=>(u2 a).trans ?_⟩;rw[and_assoc];refine and_congr_right fun _=>⟨fun z t' ht'=>?_,fun z=>⟨z t bF,fun t' ht'=>z t' (bE _ ht')⟩⟩
  rcases bJ.mp ht' with rfl |ht'
  ·exact z.1
  ·exact z.2 t' ht'
theorem XO(f:Fw m ps S)(v:Vw m ps S aD U)(hin:qK aD)(e:Bool)(ih:∀t∈ts,NV m ps S aD U t)(h:uD aD e ts=some n):n<2*aD.length/\∀a,U n a↔∀t∈ts,tv m ps e (val m ps S t) a:=by
 cases ts with
 |nil=>rw[uD]at h;cases h
 |cons t ts=>
  rw[uD]at h;obtain⟨n1,g1,h⟩:=cY.mp h;obtain⟨l1,u1⟩:=ih t bF n1 g1;obtain⟨l2,u2⟩:=BH f v hin e ts _ n _ (fun t ht=>ih t (bE _ ht)) h (QU l1) (i4 f v hin l1 u1);refine⟨l2,fun a=>(u2 a).trans ⟨fun z t' ht'=>?_,fun z=>⟨z t bF,fun t' ht'=>z t' (bE _ ht')⟩⟩⟩;rcases bJ.mp ht' with rfl |ht'
  ·exact z.1
  ·exact z.2 t' ht'
theorem ef(f:Fw m ps S)(v:Vw m ps S aD U)(hin:qK aD)(h0:aD[0]?=some .no):∀(d:Nat)(t:Tm),sM d t->NV m ps S aD U t:=by
 have hl:0<aD.length:=(aC.mp h0).1;have z0:∀a,¬U 0 a:=fun a z=>((v.row 0 _ h0 a).mp z).elim
 intro d
 induction d with
 |zero=>exact fun t h=>h.elim
 |succ d ih=>
  intro t ht n hn;cases t with
  |name x=>
   rw[num]at hn;obtain⟨k,hk,rfl⟩:=aO.mp hn;have hk':=EG hk;have :=(aC.mp hk').1;refine⟨(),fun a=>?_⟩;rw[v.row k _ hk' a,val];exact Iff.rfl
  |node w ts=>
   obtain⟨hs,hts⟩:=ht.node;have ih':∀t∈ts,NV m ps S aD U t:=fun t h=>ih t (hts t h)
   have vm:∀{u:List Nat}{a:Nat},(∀t∈ts,val m ps S t=u->True)->True:=fun _=>trivial
   rw[num]at hn;have cases5:=hs;rcases hs with⟨e,hz⟩ |⟨e,hz⟩ |⟨e,hz⟩ |⟨e,hz⟩ |⟨e,hz⟩
   ·subst e;rw[aL rfl]at hn;cases hn;refine⟨(),fun a=>?_⟩;rw[val,qB,aL rfl];exact⟨fun z=>(nomatch z),fun z=>(z0 a z).elim⟩
   ·subst e;rw[aH (),aL rfl]at hn;cases hn;refine⟨(),fun a=>?_⟩;rw[val,qB,aH (),aL rfl,bP,v.odd 0 hl a];exact⟨fun z=>⟨z,fun b hb=>(z0 b hb).elim⟩,fun z=>z.1⟩
   ·subst e;rw[aH (),aH (),aL rfl]at hn;obtain⟨n1,h1,rfl⟩:=aO.mp hn;obtain⟨l1,u1⟩:=XO f v hin false ih' h1;obtain⟨t,rfl⟩:∃t,ts=[t]:=by
     cases ts with
     |nil=>simp at hz
     |cons t r=>
      cases r with
      |nil=>exact⟨t,rfl⟩
      |cons _ _=>simp at hz
    refine⟨by unfold oT;lia,fun a=>?_⟩;rw[val,qB,aH (),aH (),aL rfl,jQ,v.turn f hin n1 l1];show a∈cnt m ps (val m ps S t)↔_;rw[lX];refine xR (fun b=>?_) a;rw[u1 b];exact⟨fun z t' ht'=>by cases aT.mp ht';exact z,fun z=>z t bF⟩
   ·subst e;rw[aH (),aH (),aH (),show decide (("both":Str)="either")=false from dF ()]at hn;obtain⟨n1,h1,rfl⟩:=aO.mp hn;obtain⟨l1,u1⟩:=XO f v hin false ih' h1;refine⟨l1,fun a=>?_⟩;rw[val,qB,aH (),aH (),aH (),aL rfl,jQ,YR];show _↔U n1 a;constructor
    ·rintro⟨_,z⟩;exact(u1 a).mpr fun t ht=>z _ (cD.mpr ⟨t,ht,rfl⟩)
    ·intro z;refine⟨v.lt f hin l1 z,fun u hu=>?_⟩;obtain⟨t,ht,rfl⟩:=cD.mp hu;exact(u1 a).mp z t ht
   ·subst e;rw[aH (),aH (),aH (),show decide (("either":Str)="either")=true from eC rfl]at hn;obtain⟨n1,h1,rfl⟩:=aO.mp hn;obtain⟨l1,u1⟩:=XO f v hin true ih' h1;refine⟨by show oT n1<_;unfold oT;lia,fun a=>?_⟩;rw[val,qB,aH (),aH (),aH (),aH (),jQ,lX];show _↔U (oT n1) a;rw[v.turn f hin n1 l1];refine xR (fun b=>?_) a;rw[YR,eQ];constructor
    ·rintro⟨_,z⟩;exact(u1 b).mpr fun t ht=>z _ (cD.mpr ⟨t,ht,rfl⟩)
    ·intro z;refine⟨v.lt f hin l1 z,fun u hu=>?_⟩;obtain⟨t,ht,rfl⟩:=cD.mp hu;exact(u1 b).mp z t ht
end
theorem HQ{r:Rw}(h:aD.Nodup):(xN aD r).1.Nodup:=by
 unfold xN;split
 ·exact h
 ·rename_i hn
  refine mI.mpr ⟨h,by simp,fun a ha b hb e=>?_⟩;rw[aT.mp hb]at e;subst e;unfold oP at hn;have :=List.findIdx?_eq_none_iff.mp hn a ha;rw[xV]at this;cases this
mutual
theorem GD:∀(t:Tm)(aD:List Rw),aD.Nodup->(eM t aD).1.Nodup
 | .name x,aD,h=>by rw[eM];exact HQ h
 | .node w ts,aD,h=>by
   rw[eM];split
   ·exact h
   ·split
    ·exact h
    ·split
     ·exact KU _ ts aD h
     ·exact KU _ ts aD h
theorem KU(e:Bool):∀(ts:List Tm)(aD:List Rw),aD.Nodup->(jG e ts aD).1.Nodup
 |[],aD,h=>by rw[jG];exact h
 |t::ts,aD,h=>by
  rw[jG];exact KS e ts _ _ (GD t aD h)
theorem KS(e:Bool):∀(ts:List Tm)(aD:List Rw)(m:Nat),aD.Nodup->(jB e ts aD m).1.Nodup
 |[],aD,m,h=>by rw[jB];exact h
 |t::ts,aD,m,h=>by
  rw[jB];exact KS e ts _ _ (HQ (GD t aD h))
end
mutual
theorem UO:∀(t:Tm)(aD:List Rw)(n:Nat),num aD t=some n->eM t aD=(aD,n)
 | .name x,aD,n,h=>by
   rw[num]at h;obtain⟨k,hk,rfl⟩:=aO.mp h;rw[eM,xN,hk]
 | .node w ts,aD,n,h=>by
   rw[num]at h;rw[eM];split at h
   ·rename_i c;rw[aL c];cases h;rfl
   ·rename_i c
    rw[aH c];split at h
    ·rename_i c;rw[aL c];cases h;rfl
    ·rename_i c
     rw[aH c];split at h
     ·rename_i c
      rw[aL c];obtain⟨k,hk,rfl⟩:=aO.mp h;rw[BK _ ts aD k hk]
     ·rename_i c
      rw[aH c];obtain⟨k,hk,rfl⟩:=aO.mp h;rw[BK _ ts aD k hk]
theorem BK(e:Bool):∀(ts:List Tm)(aD:List Rw)(n:Nat),uD aD e ts=some n->jG e ts aD=(aD,n)
 |[],aD,n,h=>by rw[uD]at h;cases h
 |t::ts,aD,n,h=>by
  rw[uD]at h;obtain⟨k,hk,h⟩:=cY.mp h;rw[jG,UO t aD k hk];exact BI e ts aD _ n h
theorem BI(e:Bool):∀(ts:List Tm)(aD:List Rw)(m n:Nat),uJ aD e m ts=some n->jB e ts aD m=(aD,n)
 |[],aD,m,n,h=>by rw[uJ]at h;cases h;rw[jB]
 |t::ts,aD,m,n,h=>by
  rw[uJ]at h;obtain⟨k,hk,h⟩:=cY.mp h;obtain⟨q,hq,h⟩:=cY.mp h;rw[jB,UO t aD k hk];show jB e ts (xN aD (.bo (m:Int) (lQ e k:Nat))).1 (xN aD (.bo (m:Int) (lQ e k:Nat))).2=_;rw[xN,hq];exact BI e ts aD _ n h
end
theorem CP:∀(ts:List Tm)(aD:List Rw),(∀t∈ts,fX 20 t)->rA aD->aD.Nodup->rA (uL ts aD)/\(uL ts aD).Nodup
 |[],aD,_,h1,h2=>⟨h1,h2⟩
 |t::ts,aD,hf,h1,h2=>by
  rw[uL];exact CP ts _ (fun t ht=>hf t (bE _ ht)) (VJ t 20 aD (hf t bF) h1).1 (GD t aD h2)
theorem CQ:∀(ts:List Tm)(aD:List Rw),(∀t∈ts,fX 20 t)->∀t∈ts,∃n,num (uL ts aD) t=some n
 |[],_,_,t,h=>by cases h
 |t0::ts,aD,hf,t,h=>by
  rw[uL];rcases bJ.mp h with rfl |h
  ·obtain⟨xs,hx⟩:=JD ts (eM t aD).1;rw[hx];exact⟨_,vU _ _ _ _ (kP t 20 aD (hf t bF))⟩
  ·exact CQ ts _ (fun t ht=>hf t (bE _ ht)) t h
theorem o0{t:Tm}(hf:fX 20 t)(h:∃n,num aD t=some n):ir aD t:=by
 obtain⟨n,hn⟩:=h;exact⟨hf,by rw[UO t aD n hn]⟩
theorem ir.num{t:Tm}(h:ir aD t):num aD t=some (eM t aD).2:=by
 have :=kP t 20 aD h.1;rwa[h.2]at this
def Hs(m:Nat)(ps:List (Nat×Nat))(S:Str->List Nat)(s:Tm×Tm):Prop:=∀a,a∈val m ps S s.1->a∈val m ps S s.2
def Hr(m:Nat)(ps:List (Nat×Nat))(S:Str->List Nat)(r:mR):Prop:=(∀s∈r.1,Hs m ps S s)->Hs m ps S r.2
section
variable {m:Nat} {book:List mR} {ls:List Ln}
theorem ir.val(f:Fw m ps S)(v:Vw m ps S aD U)(hs:rA aD){t:Tm}(h:ir aD t):(eM t aD).2<2*aD.length/\∀a,a∈val m ps S t↔U (eM t aD).2 a:=ef f v hs.in_ hs.hd 21 t h.1 _ h.num
theorem iu.hs(f:Fw m ps S)(v:Vw m ps S aD U)(hs:rA aD)(h:iu aD s):Hs m ps S s↔∀a,U (eM s.1 aD).2 a->U (eM s.2 aD).2 a:=by
 unfold Hs;exact forall_congr' fun a=>by rw[(h.1.val f v hs).2 a,(h.2.val f v hs).2 a]
theorem HB(n:Nat):rM (n:Int)=((oT n:Nat):Int):=by unfold rM oT;lia
theorem qd(f:Fw m ps S)(v:Vw m ps S aD U)(hs:rA aD)(hg:∀r∈book,GdR aD r)(hr:∀r∈book,Hr m ps S r):Clo aD (book.map (nR aD)) (fun i j=>∀a,U i.toNat a->U j.toNat a):=by
 have tn:=v.turn f hs.in_;have hl:=hs.pos;have z0:∀a,¬U 0 a:=fun a z=>((v.row 0 _ hs.hd a).mp z).elim
 have bo:∀{k:Nat}{x y:Int},aD[k]?=some (.bo x y)->∀a,U (2*k) a↔U x.toNat a/\U y.toNat a:=fun h a=>v.row _ _ h a
 refine⟨fun n hn a h=>h,fun n hn a h=>(z0 a h).elim,fun n hn a h=>?_,fun k x y h=>?_,fun i j hi hj h a ha=>?_,fun i k x y hi h h1 h2 a ha=>?_,fun i n j _ _ _ h1 h2 a ha=>h2 a (h1 a ha),fun i j hi hj h a ha=>?_,fun q hq h=>?_⟩
 ·show U 1 a;exact(v.odd 0 hl a).mpr ⟨v.lt f hs.in_ hn (by simpa using h),fun b hb=>(z0 b hb).elim⟩
 ·constructor<;>intro a ha
  all_goals
   rw[cA]at ha
  ·exact((bo h a).mp ha).1
  ·exact((bo h a).mp ha).2
 ·have :=h a ha;rw[HB,cA]at this;have ha':U i a:=by simpa using ha
  have :=((tn i hi a).mp this).2 a ha';rw[f.irr]at this;cases this
 ·rw[cA];exact(bo h a).mpr ⟨h1 a ha,h2 a ha⟩
 ·rw[HB,cA]at ha⊢;have :=(tn j hj a).mp ha;exact(tn i hi a).mpr ⟨this.1,fun b hb=>this.2 b (by simpa using h b (by simpa using hb))⟩
 ·obtain⟨r,hr1,rfl⟩:=cD.mp hq;obtain⟨_,g1,g2⟩:=hg r hr1;have :=(g2.hs f v hs).mp (hr r hr1 fun s hs1=>(g1 s hs1 |>.hs f v hs).mpr fun a ha=>by
   have :=h (nS aD s) (cD.mpr ⟨s,hs1,rfl⟩) a (by show U ((eM s.1 aD).2:Int).toNat a;simpa using ha);have this:U ((eM s.2 aD).2:Int).toNat a:=this;simpa using this)
  intro a ha;have ha:U ((eM r.2.1 aD).2:Int).toNat a:=ha;show U ((eM r.2.2 aD).2:Int).toNat a;rw[cA]at ha⊢;exact this a ha
theorem sound(f:Fw m ps S)(hs:rA aD)(hg:∀r∈book,GdR aD r)(hr:∀r∈book,Hr m ps S r)(gk:LD aD (book.map (nR aD)) ls)(g:iu aD s)(h:zS ls (nS aD s).1 (nS aD s).2=true):Hs m ps S s:=by
 obtain⟨U,v⟩:=vw_ex (m:=m) (ps:=ps) (S:=S) hs.in_;obtain⟨p,l,h1,h2,h3⟩:=eZ.mp h;have :=SZ (qd f v hs hg hr) gk p l h1;rw[h2,h3]at this;refine(g.hs f v hs).mpr fun a ha=>?_
 have :=this a (by show U ((eM s.1 aD).2:Int).toNat a;simpa using ha);have this:U ((eM s.2 aD).2:Int).toNat a:=this;simpa using this
end
def WF(aD:List Rw)(R:Nat->Nat->Bool)(x:Str):List Nat:=match oP aD (.nm x)with
 |some k=>jF (yR (2*aD.length) R) R (2*k)
 |none=>[]
section
variable {book:List mR} {ls:List Ln}
theorem XW(hs:rA aD)(hp:Pl aD (2*aD.length) aD.length ls)(hc:Cl aD aV ls.length ls):Fw (yR (2*aD.length) (rl ls)).length (wR (yR (2*aD.length) (rl ls)) (rl ls)) (WF aD (rl ls)):=by
 have h:=Rl.of hp hc;refine⟨TL (GC _),fun x a=>?_⟩;unfold WF;cases c:oP aD (.nm x)with
 |some k=>
  have :=PX c;rw[VS h ()]
 |none=>
  refine⟨fun z=>(nomatch z),fun z=>?_⟩;rw[lX]at z;have :=z.2 a (lX.mpr ⟨z.1,fun b hb=>(nomatch hb)⟩);rw[TL (GC _)]at this;cases this
theorem QR(hs:rA aD)(lD:aD.Nodup)(hp:Pl aD (2*aD.length) aD.length ls)(hc:Cl aD aV ls.length ls):Vw (yR (2*aD.length) (rl ls)).length (wR (yR (2*aD.length) (rl ls)) (rl ls)) (WF aD (rl ls)) aD (fun n a=>a∈jF (yR (2*aD.length) (rl ls)) (rl ls) n):=by
 have h:=Rl.of hp hc;refine⟨fun k r hr a=>?_,fun k hk a=>?_⟩
 ·have hkl:=(aC.mp hr).1;cases r with
  |no=>
   have e:=hs.few k hr;subst e;show a∈jF _ _ 0↔False;rw[OF h hp.low];exact⟨fun z=>(nomatch z),False.elim⟩
  |nm x=>
   show _↔a∈WF aD (rl ls) x;have e:oP aD (.nm x)=some k:=by
    unfold oP;refine gA.mpr ⟨hkl,?_,fun j hj=>?_⟩
    ·rw[(aC.mp hr).2];exact xV _
    ·intro z;have z:=(VC _ _).mp z;have e2:=(aC.mp hr).2;rw[←e2]at z;exact absurd ((NQ lD).mp z) ()
   unfold WF;rw[e]
  |bo i j=>
   obtain⟨⟨b1,b2⟩,b3,b4⟩:=hs.in_ k i j hr;obtain⟨p1,p2⟩:=hp.part k i j hkl hr;have hb:∀x,rl ls x i.toNat=true->rl ls x j.toNat=true->rl ls x (2*k)=true:=fun x h1 h2=>by
    obtain⟨a,l,g1,g2,g3⟩:=eZ.mp h1;obtain⟨b,l',g4,g5,g6⟩:=eZ.mp h2;exact hc.both a b l l' x k i j (aC.mp g1).1 (aC.mp g4).1 g1 g4 g2 (by rw[g3];lia) g5 (by rw[g6];lia) hr
   have q1:rl ls (2*k) i.toNat=true:=by unfold rl;rw[Int.toNat_of_nonneg b1];exact p1
   have q2:rl ls (2*k) j.toNat=true:=by unfold rl;rw[Int.toNat_of_nonneg b3];exact p2
   have :=OH (sp:=yR (2*aD.length) (rl ls)) h q1 q2 hb;show a∈jF _ _ (2*k)↔a∈jF _ _ i.toNat/\a∈jF _ _ j.toNat;rw[←this,cX,bQ]
 ·show a∈jF _ _ (2*k+1)↔_;have :=VE h (n:=2*k) ();rw[show lP (2*k)=2*k+1 by unfold lP;lia]at this;rw[←this,lX]
theorem FR(hs:rA aD)(lD:aD.Nodup)(hp:Pl aD (2*aD.length) aD.length ls)(hc:Cl aD aV ls.length ls)(g:iu aD s):Hs (yR (2*aD.length) (rl ls)).length (wR (yR (2*aD.length) (rl ls)) (rl ls)) (WF aD (rl ls)) s↔zS ls (nS aD s).1 (nS aD s).2=true:=by
 have f:=XW hs hp hc;have v:=QR hs lD hp hc;rw[g.hs f v hs];have :=LG (Rl.of hp hc) (g.1.val f v hs).1 (g.2.val f v hs).1;show _↔rl ls (eM s.1 aD).2 (eM s.2 aD).2=true;rw[←this,dB];exact forall_congr' fun a=>forall_congr' fun _=>decide_eq_true_iff.symm
theorem om(hs:rA aD)(lD:aD.Nodup)(hp:Pl aD (2*aD.length) aD.length ls)(hc:Cl aD (book.map (nR aD)) ls.length ls)(hg:∀r∈book,GdR aD r):∀r∈book,Hr (yR (2*aD.length) (rl ls)).length (wR (yR (2*aD.length) (rl ls)) (rl ls)) (WF aD (rl ls)) r:=fun r hr h=>by
 obtain⟨_,g1,g2⟩:=hg r hr;have f:=XW hs hp hc;have v:=QR hs lD hp hc;refine(FR hs lD hp hc g2).mpr ?_;obtain⟨k,hk⟩:=iU (cD.mpr ⟨r,hr,rfl⟩:nR aD r∈book.map (nR aD));have l1:=(g2.1.val f v hs).1;have l2:=(g2.2.val f v hs).1;refine hc.rule k (nR aD r) hk ⟨⟨Int.natCast_nonneg _,?_⟩,Int.natCast_nonneg _,?_⟩ fun p hp'=>?_
 ·show((eM r.2.1 aD).2:Int)<_;lia
 ·show((eM r.2.2 aD).2:Int)<_;lia
 ·obtain⟨s,hs1,rfl⟩:=cD.mp hp';obtain⟨a,l,q1,q2,q3⟩:=eZ.mp ((FR hs lD hp hc (g1 s hs1)).mp (h s hs1));exact⟨a,l,(aC.mp q1).1,q1,q2,q3⟩
end
theorem SQ{x:Str}{n:Int}(h:QD x=some n):n<=2:=by
 unfold QD at h
 repeat' split at h
 all_goals first |(cases h;done) |(cases h;lia)
theorem lr(ls:List Ln)(k:Nat)(p:Int):xK ls k (.n p)=if 0<=p/\p<(k:Int)then(ls[p.toNat]?).map fun l=>(l.i,l.j)else none:=rfl
theorem JV{ls:List Ln}{k:Nat}{p:Int}(h:(xK ls k (.n p)).isSome=true):0<=p/\p<(k:Int):=by
 by_cases c:0<=p/\p<(k:Int)
 ·exact c
 ·rw[lr,aH c]at h;cases h
theorem jo{ls:List Ln}{k:Nat}:∀{as:List Wt},(as.all fun a=>(xK ls k a).isSome)=true->∃ns:List Int,as=ns.map .n/\∀p∈ns,0<=p/\p<(k:Int)
 |[],_=>⟨[],rfl,fun p z=>by cases z⟩
 |a::as,h=>by
  rw[List.all_cons,bY]at h;obtain⟨ns,e,hn⟩:=jo h.2;cases a with
  |n i=>exact⟨i::ns,by rw[e];rfl,fun p hp=>by
     rcases bJ.mp hp with rfl |hp
     ·exact JV h.1
     ·exact hn p hp⟩
  |ps q=>exact absurd h.1 (by simp[xK])
theorem ay{ls:List Ln}{k:Nat}(h:xP aD aV ls k l=true)(hr:∀r∈aV,r.1.length<=100):GL k l.w l.as:=by
 unfold xP at h;split at h
 ·cases h
 split at h
 ·next hw=>
  unfold jR at h;split at h
  ·next r ps e=>
   split at h
   ·split at h
    ·next q hq=>
     rw[bY]at h;have h2:(ps.map fun p=>xK ls k (.n p))=q.1.map some:=by simpa using h.2
     have eO:ps.length=q.1.length:=by
      have :=dH List.length h2;simpa using this
     have hq100:=hr q (aX hq);rw[hw,e];refine glR k r ps () fun p hp=>?_
     have hm:xK ls k (.n p)∈q.1.map some:=by
      rw[←h2];exact cD.mpr ⟨p,hp,rfl⟩
     obtain⟨y,_,e2⟩:=cD.mp hm;exact JV (by rw[←e2];rfl)
    ·cases h
   ·cases h
  ·cases h
 ·next hw=>
  split at h
  ·next hc=>
   obtain⟨ns,e,hn⟩:=jo hc.2;have :=SQ hc.1;rw[e];rw[e,aE]at this;exact glN k l.w hw ns () hn
  ·cases h
theorem WC{ls:List Ln}(h:LD aD aV ls)(hr:∀r∈aV,r.1.length<=100):wI ls:=fun k l hl=>ay (h.snd k l hl) hr
theorem FN{ns:List Str}{js:List Nat}{g:TG}{tc:TT}{te:TE}{σ:St}{Q:VK}(Pv:Nat->List V->St->Hp->Prop)(h0:Pv 0 [] (JL ns js σ) H)(hz:xs.length<=sizeLine)(hl:∀i ys σ H,Pv i ys σ H->ys.length<=i)
 (hK:∀i ys σ H,Pv i ys σ H->dL K H a xs)
 (hs:∀(i:Nat) x ys σ H (C:V->St->Hp->Prop) (D:St->Hp->Prop),xs[i]?=some x->Pv i ys σ H->(∀y σ2 H3,Pv (i+1) (ys++[y]) σ2 H3->C y σ2 H3)->(∀σ2 H3,Pv (i+1) ys σ2 H3->D σ2 H3)->
  g x σ H fun σ2 H2=>tc σ2 H2 fun b H3=>if b=true then te σ2 H3 fun y H4=>C y σ2 H4 else D σ2 H3)
 (hd:∀ys σ H,Pv xs.length ys σ H->∀p,H p=none->Q (.ref p) (upd H p (.lst ys))):
 ai (io K a) ns js g (some tc) te σ H Q:=by
 refine⟨fun i m ys σ H=>m=xs.length-i/\i<=xs.length/\Pv i ys σ H,⟨xs.length,(),cG _,h0⟩,fun i m ys σ1 H1 ⟨hm,hi,hp⟩=>?_⟩;by_cases h:i<xs.length
 ·refine .inr ⟨⟨xs,xs[i],hK i ys σ1 H1 hp,aA h⟩,?_,fun x H' ⟨e,hx⟩=>?_⟩
  ·have :=hl i ys σ1 H1 hp;lia
  ·subst e;exact hs i x ys σ1 _ _ _ (hx xs (hK i ys σ1 _ hp)) hp (fun y σ2 H3 q=>⟨xs.length-(i+1),(),rfl,(),q⟩) fun σ2 H3 q=>⟨xs.length-(i+1),(),rfl,(),q⟩
 ·have e:i=xs.length:=by lia
  subst e;exact .inl ⟨⟨xs,hK _ ys σ1 H1 hp,aG _⟩,hd ys σ1 H1 hp⟩
theorem m8(xs:List Nat)(a:Nat):((xs.map fun(x:Nat)=>Dt.int (x:Int)).any fun e=>eU e (.int (a:Int)))=decide (a∈xs):=by
 rw[cE,fK,bQ];constructor
 ·rintro⟨d,hd,h⟩;obtain⟨x,hx,rfl⟩:=cD.mp hd;have :(x:Int)=(a:Int):=by simpa[eU]using h
  rw[show a=x by lia];exact hx
 ·intro h;exact⟨.int (a:Int),cD.mpr ⟨a,h,rfl⟩,xV _⟩
theorem eo{xs:List Nat}(h:H a=some (.lst (xs.map nV))):dW H (.lst (xs.map fun(x:Nat)=>Dt.int (x:Int))) (.ref a):=by
 refine⟨a,_,rfl,h,?_⟩;clear h
 induction xs with
 |nil=>rfl
 |cons x xs ih=>exact⟨_,_,rfl,rfl,ih⟩
theorem LD.keys{ls:List Ln}(h:LD aD aV ls):(ls.map fun l=>xF l.i l.j).Nodup:=by
 rw[List.Nodup,mH,dJ];intro a b ha hb hab e;unfold xF at e;simp only[List.cons.injEq,Sum.inl.injEq,and_true]at e;have :=h.dis a b ls[a] ls[b] (aA ha) (aA hb) e.1 e.2;lia
abbrev s_t:Stmt:=top 56
theorem sc_t:bZ ["world","saying","beyond"] ["world","saying"] (zK s_t):=by rfl'
abbrev s_H:Stmt:=top 57
theorem PK:bZ ["sheet","book","saying","lines","pair","found","world"] ["sheet","book","saying"] (zK s_H):=by rfl'
abbrev lw:Stmt:=top 58
theorem sc_af:bZ ["book","saying"] ["book","saying"] (zK lw):=by rfl'
structure Wx(H:Hp)(wa:Addr)(m:Nat)(ps:List (Nat×Nat))(zs:List Str)(S:Str->List Nat):Prop where
 ex:∃(ca:Addr)(us:List V)(la:Addr)(Ss:List (List Nat)),H wa=some (.tup [nV m,.ref ca,.ref la])/\H ca=some (.lst us)/\bG H (ps.map NT) us/\mZ H la zs Ss m/\∀(i:Nat)(z:Str),zs[i]?=some z->Ss[i]?=some (S z)
 ok2:Ok2 m ps
 m90:m<=90
 nd:zs.Nodup
 zl:zs.length<=5
 sr:∀z,(∀i∈S z,i<m)/\(S z).Pairwise (· < ·)
theorem Wx.same{wa:Addr}{m:Nat}(e:bB H H')(h:Wx H wa m ps zs S):Wx H' wa m ps zs S:=by
 obtain⟨⟨ca,us,la,Ss,h1,h2,h3,h4,h5⟩,r1,r2,r3,r4,r5⟩:=h;exact⟨⟨ca,us,la,Ss,e _ _ h1,e _ _ h2,bG.same e h3,h4.same e,h5⟩,r1,r2,r3,r4,r5⟩
inductive spSg (vs:List V) (H:Hp) (Q:VK) (E:XK):Prop
 |mk (wa:Addr) (v:V) (s:Tm×Tm) (m:Nat) (ps:List (Nat×Nat)) (zs:List Str) (S:Str->List Nat) (_:vs=[.ref wa,v]) (_:Wx H wa m ps zs S) (_:oE H s v) (_:(fX 20 s.1/\wt s.1<=900)) (_:(fX 20 s.2/\wt s.2<=900)) (_:(∀x∈nms s.1++nms s.2,x∈zs)) (_:¬Hs m ps S s) (_:∀(n:Nat) H',bB H H'->Q (.int n) H')
theorem j8{m:Nat}{xs:List Nat}(h:xs.Pairwise (· < ·))(hm:∀x∈xs,x<m):xs.length<=m:=by
 have :=qF (h.imp fun h=>bS h) (m:=List.range m) fun x hx=>bP.mpr (hm x hx)
 rwa[eY]at this
theorem IK{aD:List Rw}{e:Bool}:∀{ts:List Tm}{m n:Nat},uJ aD e m ts=some n->∀t∈ts,∃k,num aD t=some k
 |[],_,_,_,t,h=>by cases h
 |t0::ts,m,n,h,t,ht=>by
  rw[uJ]at h;obtain⟨k,hk,h⟩:=cY.mp h;obtain⟨q,_,h⟩:=cY.mp h;rcases bJ.mp ht with rfl |ht
  ·exact⟨k,hk⟩
  ·exact IK h t ht
theorem UP{e:Bool}(h:uD aD e ts=some n):∀t∈ts,∃k,num aD t=some k:=by
 cases ts with
 |nil=>rw[uD]at h;cases h
 |cons t0 ts=>
  rw[uD]at h;obtain⟨k,hk,h⟩:=cY.mp h;intro t ht;rcases bJ.mp ht with rfl |ht
  ·exact⟨k,hk⟩
  ·exact IK h t ht
theorem eg:∀(d:Nat)(t:Tm),sM d t->∀n,num aD t=some n->∀x∈nms t,∃k,oP aD (.nm x)=some k:=by
 intro d
 induction d with
 |zero=>exact fun t h=>h.elim
 |succ d ih=>
  intro t ht n hn x hx;cases t with
  |name y=>
   rw[nms,aT]at hx;subst hx;rw[num]at hn;obtain⟨k,hk,_⟩:=aO.mp hn;exact⟨k,hk⟩
  |node w ts=>
   obtain⟨hs,hts⟩:=ht.node;rw[nms]at hx;obtain⟨t,mB,hx⟩:=rE.mp hx;have go:(∃k,num aD t=some k)->∃k,oP aD (.nm x)=some k:=fun⟨k,hk⟩=>ih t (hts t mB) k hk x hx
   have ne:∀{p:Prop},ts.length=0->p:=fun h=>by rw[lW.mp h]at mB;cases mB
   rw[num]at hn;rcases hs with h |h |h |h |h
   ·exact ne h.2
   ·exact ne h.2
   ·obtain⟨e,_⟩:=h;subst e;rw[aH (),aH (),aL rfl]at hn;obtain⟨k,hk,_⟩:=aO.mp hn;exact go (UP hk t mB)
   ·obtain⟨e,_⟩:=h;subst e;rw[aH (),aH (),aH ()]at hn;obtain⟨k,hk,_⟩:=aO.mp hn;exact go (UP hk t mB)
   ·obtain⟨e,_⟩:=h;subst e;rw[aH (),aH (),aH ()]at hn;obtain⟨k,hk,_⟩:=aO.mp hn;exact go (UP hk t mB)
theorem ek{x:Str}{k:Nat}(h:aD[k]?=some (.nm x)):(x,k)∈IM aD:=by
 unfold IM;refine lU.mpr ⟨k,bP.mpr (aC.mp h).1,?_⟩;unfold SO;rw[h];rfl
theorem FC(lD:aD.Nodup):((IM aD).map (·.1)).Nodup:=by
 refine mH.mpr ?_;unfold IM;refine List.pairwise_filterMap.mpr (dS.imp fun{a b} hab p hp q hq e=>?_);have g:∀{k:Nat}{p:Str×Nat},(SO aD k).map (fun x=>(x,k))=some p->aD[k]?=some (.nm p.1):=fun{k p} h=>by
  obtain⟨x,hx,rfl⟩:=aO.mp h;unfold SO at hx;split at hx
  ·rename_i y hy;cases hx;exact hy
  ·cases hx
 have h1:=g hp;have h2:=g hq;rw[←e,←h1]at h2;have hb:=(aC.mp h1).1;have :=(List.getElem?_inj hb lD).mp h2.symm;lia
def Ver(fl:Bool)(b:List mR)(s:Tm×Tm):Prop:=match fl with
 |true=>∀m ps S,Fw m ps S->(∀r∈b,Hr m ps S r)->Hs m ps S s
 |false=>∃m ps S,Fw m ps S/\(∀r∈b,Hr m ps S r)/\¬Hs m ps S s
theorem Ver.one{x y:Bool}{c:List mR}(h1:Ver x b s)(h2:Ver y c s)(h:∀m ps S,Fw m ps S->((∀r∈b,Hr m ps S r)↔∀r∈c,Hr m ps S r)):x=y:=by
 cases x<;>cases y
 ·rfl
 ·obtain⟨m,ps,S,f,g1,g2⟩:=h1;exact(g2 (h2 m ps S f ((h m ps S f).mp g1))).elim
 ·obtain⟨m,ps,S,f,g1,g2⟩:=h2;exact(g2 (h1 m ps S f ((h m ps S f).mpr g1))).elim
 ·rfl
inductive spJo (K:W.Frag) (vs:List V) (H:Hp) (Q:VK) (E:XK):Prop
 |mk (sa ba:Addr) (v:V) (us bs:List V) (aD:List Rw) (b:List mR) (s:Tm×Tm) (_:vs=[.ref sa,.ref ba,v]) (_:H sa=some (.lst us)) (_:gC K H aD us) (_:rA aD) (_:aD.Nodup) (_:aD.length<=30) (_:(IM aD).length<=3) (_:H ba=some (.lst bs)) (_:iA H b bs) (_:b.length<=100) (_:(∀r∈b,GdR aD r)) (_:oE H s v) (_:iu aD s) (_:wt s.1<=900) (_:wt s.2<=900) (_:∀(p:Addr)(fl:Bool)(iH:List V) H',bB H H'->H' p=some (.tup (.str (if fl then"follows" else"open")::iH))->Ver fl b s->Q (.ref p) H')
theorem mf(lD:aD.Nodup){r:Rw}{k:Nat}(hr:aD[k]?=some r):oP aD r=some k:=by
 unfold oP;have e2:=(aC.mp hr).2;refine gA.mpr ⟨(aC.mp hr).1,?_,fun j hj=>?_⟩
 ·rw[e2];exact xV _
 ·intro z;have z:=(VC _ _).mp z;exact absurd ((NQ lD).mp (z.trans e2.symm)) ()
theorem OG(sp:List Nat)(R:Nat->Nat->Bool)(n:Nat):(jF sp R n).Pairwise (· < ·):=gP _ dS
theorem wx_of{H0:Hp}{wa ca ra:Addr}{ls:List Ln}{T:List Ro}{vw:List V}(lD:aD.Nodup)(hrl:aD.length<=30)(hn3:(IM aD).length<=3)(wo:WoAt H0 H wa (yR (2*aD.length) (rl ls)) aD ls T ca ra vw):Wx H wa (yR (2*aD.length) (rl ls)).length (wR (yR (2*aD.length) (rl ls)) (rl ls)) (T.map (·.2.1)) (WF aD (rl ls)):=by
 have hsl:(yR (2*aD.length) (rl ls)).length<=2*aD.length:=bb;refine⟨⟨ca,vw,ra,T.map (·.2.2.2),wo.tup,wo.cl,wo.dat,⟨⟨T.map (·.1),T.map (·.2.2.1),wo.lst,by simp,by simp,fun i z sp hz hs=>?_⟩,by simp,fun sp hsp=>?_⟩,fun i z hz=>?_⟩,GC _,(),wo.perm.nodup_iff.mpr (FC lD),?_,fun z=>?_⟩
 ·rw[aK]at hz hs;obtain⟨e,he,rfl⟩:=aO.mp hz;rw[he]at hs;cases hs;obtain⟨k1,k2,_⟩:=wo.tr e (aX he);exact⟨e.1,e.2.2.1,by rw[aK,he];rfl,by rw[aK,he];rfl,k1,k2⟩
 ·obtain⟨e,he,rfl⟩:=cD.mp hsp;obtain⟨_,_,k3,k4⟩:=wo.tr e he;exact⟨k3,k4⟩
 ·rw[aK]at hz;obtain⟨e,he,rfl⟩:=aO.mp hz;obtain⟨k,k1,k2⟩:=wo.is e (aX he);rw[aK,he];show some e.2.2.2=some (WF aD (rl ls) e.2.1);unfold WF;rw[mf lD (IL k1).1,k2]
 ·rw[wo.perm.length_eq,aE];lia
 ·unfold WF;cases oP aD (.nm z)with
  |none=>exact⟨fun i hi=>(nomatch hi),.nil⟩
  |some k=>exact⟨fun i hi=>(lO.mp hi).1,OG _ _ _⟩
theorem ZW(bi:Bi mg)(h_ae:gR P w K mg base 25 "value" ["world","t"] (kj K))(F:gS K "spot_against" "spot_against" s_t f fd):dI P w K mg base fY 26 f fd ["world","saying"] spSg:=by
 refine F.okz sc_t fun fL A outer s H vs Q E hr h=>?_
 obtain⟨wa,v,s,m,ps,zs,S,rfl,hw,hv,⟨f1,w1⟩,⟨f2,w2⟩,hsub,hno,q⟩:=h;obtain⟨a,v1,v2,rfl,ha,t1,t2⟩:=hv.out;refine⟨_,(zF (kU (i:=2) sc_t.nd rfl (Or.inr rfl) (zI h_ae hr.m rfl (zA (pv 0) (zA (zM zP (pv 1) zE) zC)))) (zG (zO (zM yH (yU ["spot"] ["beyond"] [2] (yG (zI h_ae hr.m rfl (zA (pv 0) (zA (zM zP (pv 1) zE) zC)))) (fun _ _ _ _ nd=>yF 0 nd) (fun _ _ _ _=>kD (zQ (MD hr.units) (pv 0) (pv 1) (by with_unfolding_all rfl))) (fun _ _ _ _=>(pv 0))) zE)))),?_⟩;refine zH fun N hN=>?_
 dsimp![];have vl:∀{J:Hp}{u:V}{t:Tm}{Q':VK},bB H J->fP H t u->fX 20 t->wt t<=900->(∀x∈nms t,x∈zs)->(∀(p:Addr)(H':Hp),bB J H'->J p=none->H' p=some (.lst ((val m ps S t).map nV))->Q' (.ref p) H')->kj K [.ref wa,u] J Q' E0:=fun{J u t Q'} e g1 g2 g3 g4 g5=>by
  obtain⟨⟨ca,us,la,Ss,k1,k2,k3,k4,k5⟩,r1,r2,r3,r4,r5⟩:=hw.same e;exact⟨wa,u,t,m,ca,us,ps,la,zs,Ss,S,rfl,k1,k2,k3,r1,r2,k4,⟨r3,r4⟩,dW.same e g1,g2,g3,g4,k5,r5,g5⟩
 refine⟨_,dN.of ha,_,rG,vl (bB.refl _) t2 f2 w2 (fun x hx=>hsub x (aZ _ hx)) fun pb H1 s1 _ kb=>hN _ _ ?_⟩;clear hN;dsimp![];refine⟨_,dN.of (s1 _ _ ha),_,mK,vl s1 t1 f1 w1 (fun x hx=>hsub x (cK _ hx)) fun pv H2 s2 _ kv=>?_⟩;refine⟨pv,rfl,⟨_,dL.of kv⟩,?_⟩;have hln:∀t:Tm,(val m ps S t).length<=90:=fun t=>cP (j8 (tI (fun x=>(hw.sr x).2) t) (fun x hx=>QT (fun x=>(hw.sr x).1) t hx)) hw.m90
 refine FN (xs:=(val m ps S s.1).map nV) (fun n ys σ Hx=>bB H2 Hx/\ys=(((val m ps S s.1).take n).filter fun a=>!decide (a∈val m ps S s.2)).map nV/\∃o,σ=[o,some (V.ref pb)]) ⟨bB.refl _,rfl,_,rfl⟩ (small (by rw[aE];have :=hln s.1;lia)) (fun n ys σ Hx e=>?_) (fun n ys σ Hx e=>dL.of (e.1 _ _ kv)) (fun n x ys σ Hx C D hx e hC hD=>?_) (fun ys σ Hx e p hp=>?_)
 ·rw[e.2.1,aE];exact cP (iM _ _) (by rw[bX];lia)
 ·obtain⟨ex,rfl,o,rfl⟩:=e;rw[aK]at hx;obtain⟨y,hy,rfl⟩:=aO.mp hx;obtain⟨hyl,hye⟩:=aC.mp hy;dsimp![cn];refine⟨1,.int y,rfl,_,.inl (eo ((s2.trans ex) _ _ kb)),(fun e he=>by obtain⟨_,_,rfl⟩:=cD.mp he;trivial),(),?_⟩;rw[m8,Bool.true_xor];have ht:=aM hyl;by_cases hc:y∈val m ps S s.2
  ·rw[aH (by simp[hc])];refine hD _ _ ⟨ex,?_,_,rfl⟩;rw[ht,hye,fJ,aU];simp[hc]
  ·rw[aL (by simp[hc])];refine hC _ _ _ ⟨ex,?_,_,rfl⟩;rw[ht,hye,fJ,aU];simp[hc,nV]
 obtain⟨ex,rfl,o,rfl⟩:=e;rw[aE,aS (aG _)];obtain⟨x,hx1,hx2⟩:∃x,x∈val m ps S s.1/\x∉val m ps S s.2:=oS fun z=>hno fun a h1=>oS fun h2=>z ⟨a,h1,h2⟩
 have hm:x∈(val m ps S s.1).filter fun a=>!decide (a∈val m ps S s.2):=cX.mpr ⟨hx1,by simp[hx2]⟩
 cases hf:(val m ps S s.1).filter fun a=>!decide (a∈val m ps S s.2)with
 |nil=>rw[hf]at hm;cases hm
 |cons y ys=>
  exact⟨p,rfl,_,dL.of zB,_,mK,q y _ (s1.trans (s2.trans (ex.trans (zD hp _))))⟩
theorem BE(bi:Bi mg)(h_E:gR P w K mg base 4 "closing" ["sheet","rules"] (i7 K))(h_R:gR P w K mg base 47 "numbered" ["sheet","book"] (spNm K))(h_X:gR P w K mg base 45 "pair_of" ["places","saying"] (kq P w K))(h_G:gR P w K mg base 1 "places_of" ["sheet"] (ko P w K))(h_ad:gR P w K mg base 3 "paper" ["lines","i","j"] spPa)(h_L:gR P w K mg base 2 "world_of" ["sheet","lines"] (OU K))(h_t:gR P w K mg base 26 "spot_against" ["world","saying"] spSg)(F:gS K "judge_on" "judge_on" s_H f fd):dI P w K mg base fY 48 f fd ["sheet","book","saying"] (spJo K):=by
 refine F.okz PK fun fL A outer s H vs Q E hr h=>?_
 obtain⟨sa,ba,v,us,bs,aD,b,s,rfl,hsa,hrw,hs,lD,hrl,hn3,hba,hb,hbl,hg,hv,gs,w1,w2,q⟩:=h;refine⟨_,(zF (yD 3 PK.nd (zI h_E hr.m rfl (zA (pv 0) (zA (zI h_R hr.m rfl (zA (pv 0) (zA (pv 1) zC))) zC)))) (zF (yD 4 PK.nd (zI h_X hr.m rfl (zA (zI h_G hr.m rfl (zA (pv 0) zC)) (zA (pv 2) zC)))) (zF (yD 5 PK.nd (zI h_ad hr.m rfl (zA (pv 3) (zA (zM zP (pv 4) zE) (zA (zM zP (pv 4) zE) zC))))) (zF (yI (zQ di (pv 5) uC (zU _)) (zG (zO (zN (zA zR (zA (pv 0) (zA (pv 5) zC)))))) zW) (zF (yD 6 PK.nd (zI h_L hr.m rfl (zA (pv 0) (zA (pv 3) zC)))) (zG (zO (zN (zA zR (zA (pv 6) (zA (zI h_t hr.m rfl (zA (pv 6) (zA (pv 2) zC))) zC))))))))))),?_⟩;refine zH fun N hN=>?_
 dsimp![];refine⟨sa,ba,us,bs,aD,b,rfl,hsa,hrw,lD,(),hba,hb,hbl,hg,fun pn ws H1 s1 kn hn=>?_⟩;have hprem:∀r∈b.map (nR aD),r.1.length<=100:=fun r hr=>by
  obtain⟨r',lY,rfl⟩:=cD.mp hr;show(r'.1.map _).length<=100;rw[aE];have :=(hg r' lY).1;lia
 refine⟨sa,pn,us,ws,aD,b.map (nR aD),rfl,s1 _ _ hsa,hrw.same s1,kn,hn,(),hs.in_,by rw[aE];lia,hprem,fun la wl ls H2 s2 kl hls gk hpl hcl=>hN _ _ ?_⟩;clear hN;replace s2:=s1.trans s2;clear s1 kn hn;refine zH fun N hN=>?_
 dsimp![];refine⟨sa,us,aD,rfl,s2 _ _ hsa,hrw.same s2,lD,(),fun pa as J H3 s3 px=>?_⟩;refine⟨pa,v,aD,as,s,J,rfl,px,dW.same (s2.trans s3) hv,gs,fun pp J4 H4 as4 s4 px4 kp=>hN _ _ ?_⟩;clear hN;have e24:bB H2 H4:=s3.trans (s4.trans px4.sub);replace kp:=px4.sub _ _ kp;clear px px4 s3 s4;replace kl:=e24 _ _ kl;replace hls:jV H4 ls wl:=bG.same e24 hls;replace s2:=s2.trans e24;clear e24;refine zH fun N hN=>?_
 dsimp![];have hll:ls.length<=3600:=cP gk.len (by
  have :2*aD.length<=60:=by lia
  exact Nat.mul_le_mul this this)
 refine⟨_,dN.of kp,_,mK,_,dN.of kp,_,rG,la,wl,ls,_,_,rfl,kl,hls,WC gk hprem,(),fun r H5 s5 hpap=>hN _ _ ?_⟩;clear hN;replace s2:=s2.trans s5;replace kl:=s5 _ _ kl;replace hls:jV H5 ls wl:=bG.same s5 hls;clear kp;refine zH fun N hN=>?_
 dsimp![];rcases hpap with⟨rfl,hno⟩ |⟨k,l,ks,hk,hij,_,_,hpap⟩
 ·rw[aH (fun z=>z rfl)];refine hN _ _ ?_;clear hN;have hh:zS ls (nS aD s).1 (nS aD s).2=false:=by
   rw[dX];intro z;obtain⟨p,l,g1,g2,g3⟩:=eZ.mp z;exact hno l (aX g1) ⟨g2,g3⟩
  have R:=Rl.of hpl hcl;have l1:=(gs.1.val (XW hs hpl hcl) (QR hs lD hpl hcl) hs).1;have l2:=(gs.2.val (XW hs hpl hcl) (QR hs lD hpl hcl) hs).1;have h10:zS ls 1 0=false:=by
   rw[dX];intro z;have e1:rl ls 1 (eM s.2 aD).2=true:=R.all 1 _ z l2;have e2:rl ls (eM s.1 aD).2 1=true:=hpl.high _ l1;have :=R.trans _ _ _ e2 e1;have this:zS ls (nS aD s).1 (nS aD s).2=true:=this;rw[hh]at this;cases this
  refine zH fun N hN=>?_
  dsimp![];refine⟨sa,la,us,wl,aD,ls,rfl,s2 _ _ hsa,hrw.same s2,hrl,hn3,FC lD,kl,hls,(),gk.keys,(fun z=>by rw[h10]at z;cases z),fun _ wa T ca ra vw H6 s6 wo=>hN _ _ ?_⟩;clear hN;dsimp![];have hz:∀x∈nms s.1++nms s.2,x∈T.map (·.2.1):=fun x hx=>by
   have go:∀{t:Tm},ir aD t->x∈nms t->x∈T.map (·.2.1):=fun{t} g hx=>by
    obtain⟨k,hk⟩:=eg 21 t g.1 _ g.num x hx;exact wo.perm.mem_iff.mpr (cD.mpr ⟨(x,k),ek (EG hk),rfl⟩)
   rcases bO.mp hx with h |h
   ·exact go gs.1 h
   ·exact go gs.2 h
  have hns:¬Hs _ _ _ s:=fun z=>by
   have :=(FR hs lD hpl hcl gs).mp z;rw[hh]at this;cases this
  refine⟨wa,v,s,_,_,_,_,rfl,wx_of lD hrl hn3 wo,dW.same (s2.trans s6) hv,⟨gs.1.1,w1⟩,⟨gs.2.1,w2⟩,hz,hns,fun n H7 s7=>⟨small (),fun p hp=>?_⟩⟩;exact q p false _ _ ((s2.trans s6).trans (s7.trans (zD hp _))) zB ⟨_,_,_,XW hs hpl hcl,om hs lD hpl hcl hg,hns⟩
 ·obtain⟨a',_,rfl,_⟩:=hpap;rw[aL (fun z=>by cases z)];exact⟨small (),fun p hp=>q p true _ _ (s2.trans (zD hp _)) zB fun m ps S f hr=>sound f hs hg hr gk gs (eZ.mpr ⟨k,l,hk,hij.1,hij.2⟩)⟩
def inG(zs:List Str)(G:List Tm):Nat->Tm->Prop
 |0,_=>False
 |_+1,.name x=>x∈zs
 |d+1,.node w ts=>(w="none"\/w="all")\/(w="not"/\∃t,ts=[t]/\inG zs G d t)\/((w="both"\/w="either")/\.node w ts∈G/\(∃n,fX n (.node w ts))/\∃a b,ts=[a,b]/\inG zs G d a/\inG zs G d b)
structure oZ(zs:List Str)(G:List Tm)(aD:List Rw):Prop where
 r1:1<=aD.length
 of:∀k,1<=k->k<aD.length->∃u∈zs.map Tm.name++G,∃n,num aD u=some n/\n/2=k
 nm:∀(k:Nat)(x:Str),aD[k]?=some (.nm x)->x∈zs
section
variable {G:List Tm}
theorem oZ.put(h:oZ zs G aD){r:Rw}(hn:∀x,r=.nm x->x∈zs)(hu:oP aD r=none->∃u∈zs.map Tm.name++G,∃n,num (aD++[r]) u=some n/\n/2=aD.length):oZ zs G (xN aD r).1:=by
 unfold xN;split
 ·exact h
 ·rename_i hr
  refine⟨by show 1<=(aD++[r]).length;rw[aI];have :=h.r1;lia,fun k h1 h2=>?_,fun k x hk=>?_⟩
  ·have h2:k<(aD++[r]).length:=h2;rw[aI,cC]at h2;by_cases c:k<aD.length
   ·obtain⟨u,g1,n,g2,g3⟩:=h.of k h1 c;exact⟨u,g1,n,vU _ _ _ _ g2,g3⟩
   ·rw[show k=aD.length by lia];exact hu hr
  ·have hk:(aD++[r])[k]?=some (.nm x):=hk;by_cases c:k<aD.length
   ·rw[bC c]at hk;exact h.nm k x hk
   ·have h2:=(aC.mp hk).1;rw[aI,cC]at h2;rw[show k=aD.length by lia,bL (aG _),fM]at hk;cases hk;exact hn x rfl
theorem ft:∀(d:Nat)(t:Tm)(aD:List Rw),inG zs G d t->oZ zs G aD->oZ zs G (eM t aD).1:=by
 intro d
 induction d with
 |zero=>exact fun t aD h=>h.elim
 |succ d ih=>
  intro t aD ht h;cases t with
  |name x=>
   rw[eM];refine h.put (fun y e=>by cases e;exact ht) fun hr=>⟨.name x,cK _ (cD.mpr ⟨x,ht,rfl⟩),2*aD.length,?_,()⟩
   rw[num,XB hr];rfl
  |node w ts=>
   rcases ht with(e |e) |⟨e,t,rfl,ht⟩ |⟨e,hG,⟨nf,hfit⟩,a,b,rfl,ha,hb⟩
   ·rw[eM,aL e];exact h
   ·subst e;rw[eM,aH (),aL rfl];exact h
   ·subst e;rw[eM,aH (),aH (),aL rfl,jG,jB];exact ih t aD ht h
   ·have hw:w≠"none"/\w≠"all"/\w≠"not":=by rcases e with rfl |rfl<;>decide
    have hbn:=kP _ nf aD hfit;have e1:eM (.node w [a,b]) aD=((xN (eM b (eM a aD).1).1 (.bo ((lQ (decide (w="either")) (eM a aD).2:Nat):Int) (lQ (decide (w="either")) (eM b (eM a aD).1).2:Nat))).1,lQ (decide (w="either")) (xN (eM b (eM a aD).1).1 (.bo ((lQ (decide (w="either")) (eM a aD).2:Nat):Int) (lQ (decide (w="either")) (eM b (eM a aD).1).2:Nat))).2):=by
     rw[eM,aH hw.1,aH hw.2.1,aH hw.2.2,jG,jB,jB]
    rw[e1]at hbn⊢;have h2:=ih b _ hb (ih a aD ha h);generalize (eM b (eM a aD).1).1=rows2 at hbn h2⊢;have hnx:∀x,(Rw.bo ((lQ (decide (w="either")) (eM a aD).2:Nat):Int) (lQ (decide (w="either")) (eM b (eM a aD).1).2:Nat))=.nm x->x∈zs:=fun x e=>by cases e
    generalize (Rw.bo ((lQ (decide (w="either")) (eM a aD).2:Nat):Int) (lQ (decide (w="either")) (eM b (eM a aD).1).2:Nat))=r at hbn hnx⊢;refine h2.put (r:=r) hnx fun hr=>⟨.node w [a,b],aZ _ hG,lQ (decide (w="either")) (2*rows2.length),?_,?_⟩
    ·unfold xN at hbn;rw[hr]at hbn;exact hbn
    ·cases decide (w="either")with
     |false=>show 2*rows2.length/2=_;lia
     |true=>show oT (2*rows2.length)/2=_;unfold oT;lia
theorem BX{d:Nat}:∀(ts:List Tm)(aD:List Rw),(∀t∈ts,inG zs G d t)->oZ zs G aD->oZ zs G (uL ts aD)
 |[],aD,_,h=>h
 |t::ts,aD,ht,h=>BX ts _ (fun t h=>ht t (bE _ h)) (ft d t aD (ht t bF) h)
theorem oZ.one:oZ zs G [.no]:=⟨aG _,fun k h1 h2=>by simp at h2;lia,fun k x h=>by
 cases k with
 |zero=>cases h
 |succ k=>simp at h⟩
theorem oZ.len(h:oZ zs G aD):aD.length<=1+(zs.length+G.length):=by
 have hr:=h.r1;have hex:∀k:Nat,∃u:Tm,k+1<aD.length->u∈zs.map Tm.name++G/\∃n,num aD u=some n/\n/2=k+1:=fun k=>by
  by_cases c:k+1<aD.length
  ·obtain⟨u,g1,g2⟩:=h.of (k+1) () c;exact⟨u,fun _=>⟨g1,g2⟩⟩
  ·exact⟨.name "",fun z=>(c z).elim⟩
 let g:Nat->Tm:=fun k=>(hex k).choose
 have hg:∀k,k+1<aD.length->g k∈zs.map Tm.name++G/\∃n,num aD (g k)=some n/\n/2=k+1:=fun k=>(hex k).choose_spec
 have lD:((List.range (aD.length-1)).map g).Nodup:=by
  refine mH.mpr (List.Pairwise.imp_of_mem (R:=(· < ·)) (fun{a b} ha hb hab e=>?_) dS);rw[bP]at ha hb;obtain⟨_,n1,p1,p2⟩:=hg a ();obtain⟨_,n2,p3,p4⟩:=hg b ();rw[e,p3]at p1;cases p1;lia
 letI:DecidableEq Tm:=fun a b=>Classical.propDecidable (a=b)
 have :=qF lD (m:=zs.map Tm.name++G) fun u hu=>by
  obtain⟨k,hk,rfl⟩:=cD.mp hu;rw[bP]at hk;exact(hg k ()).1
 rw[aE,eY,aI,aE]at this;lia
theorem oZ.nms(h:oZ zs G aD)(lD:aD.Nodup):(IM aD).length<=zs.length:=by
 have :=qF (FC lD) (m:=zs) fun x hx=>by
  obtain⟨p,hp,rfl⟩:=cD.mp hx;exact h.nm p.2 p.1 (IL hp).1
 rwa[aE]at this
end
structure Jb(zs:List Str)(G:List Tm)(b:List mR)(s:Tm×Tm):Prop where
 bl:b.length<=20
 pl:∀r∈b,r.1.length<=5
 fit:∀t∈oV b++pE s,fX 20 t/\wt t<=900
 inn:∀t∈oV b++pE s,inG zs G 21 t
 zl:zs.length<=3
 gl:G.length<=20
inductive spJu (vs:List V) (H:Hp) (Q:VK) (E:XK):Prop
 |mk (ba:Addr) (v:V) (bs:List V) (zs:List Str) (G:List Tm) (b:List mR) (s:Tm×Tm) (_:vs=[.ref ba,v]) (_:H ba=some (.lst bs)) (_:iA H b bs) (_:oE H s v) (_:Jb zs G b s) (_:∀(p:Addr)(fl:Bool)(iH:List V) H',bB H H'->H' p=some (.tup (.str (if fl then"follows" else"open")::iH))->Ver fl b s->Q (.ref p) H')
theorem aw(h:r.1.length<=5):(WW r).length<=12:=by
 have :∀ps:List (Tm×Tm),(uN ps).length=2*ps.length:=fun ps=>by
  induction ps with
  |nil=>rfl
  |cons p ps ih=>
   show(pE p++uN ps).length=_;rw[aI,ih,bD];show 2+_=_;lia
 unfold WW;rw[aI,this];show _+2<=12;lia
theorem HC:∀{b:List mR},(∀r∈b,r.1.length<=5)->(oV b).length<=12*b.length
 |[],_=>aG _
 |r::b,h=>by
  show(WW r++oV b).length<=_;rw[aI,bD];have :=aw (h r bF);have :=HC (b:=b) fun q hq=>h q (bE _ hq)
  lia
theorem SD(bi:Bi mg)(h_H:gR P w K mg base 48 "judge_on" ["sheet","book","saying"] (spJo K))(h_Q:gR P w K mg base 45 "sheet_of" ["terms"] (spSo K))(h_K:gR P w K mg base 1 "terms_in" ["book","saying"] spTI)(F:gS K "judge" "judge" lw f fd):dI P w K mg base fY 49 f fd ["book","saying"] spJu:=by
 refine F.okz sc_af fun fL A outer s H vs Q E hr h=>?_
 obtain⟨ba,v,bs,zs,G,b,s,rfl,hba,hb,hv,jb,q⟩:=h;refine⟨_,(zG (zO (zI h_H hr.m rfl (zA (zI h_Q hr.m rfl (zA (zI h_K hr.m rfl (zA (pv 0) (zA (pv 1) zC))) zC)) (zA (pv 0) (zA (pv 1) zC)))))),?_⟩;dsimp![];have hbl:=jb.bl;have htl:=HC jb.pl;have f20:∀t∈oV b++pE s,fX 20 t:=fun t ht=>(jb.fit t ht).1
 have hinv:=BX (zs:=zs) (G:=G) (d:=21) (oV b++pE s) [.no] jb.inn oZ.one;obtain⟨hsh,lD⟩:=CP (oV b++pE s) [.no] f20 rA.one (by simp);have hnum:=CQ (oV b++pE s) [.no] f20;have hl:=hinv.len;have hz:=jb.zl;have hG:=jb.gl;have gd:∀t∈oV b++pE s,ir (uL (oV b++pE s) [.no]) t:=fun t ht=>o0 (f20 t ht) (hnum t ht)
 have gs:∀{p:Tm×Tm},(∀t∈pE p,t∈oV b++pE s)->iu (uL (oV b++pE s) [.no]) p:=fun{p} h=>⟨gd _ (h _ (by simp[pE])),gd _ (h _ (by simp[pE]))⟩
 refine⟨ba,v,bs,b,s,rfl,hba,hb,hv,(),fun pt ut H1 s1 kt ht=>?_⟩;refine⟨pt,ut,oV b++pE s,rfl,kt,ht,f20,(),fun p ws H2 s2 kp hrw=>?_⟩;replace s2:=s1.trans s2;refine⟨p,ba,v,ws,bs,_,b,s,rfl,kp,hrw,hsh,lD,(),cP (hinv.nms lD) hz,s2 _ _ hba,bG.same s2 hb,(),fun r hr=>⟨jb.pl r hr,fun p hp=>gs fun t ht=>?_,gs fun t ht=>?_⟩,dW.same s2 hv,gs fun t ht=>aZ _ ht,(jb.fit _ (aZ _ (by simp[pE]))).2,(jb.fit _ (aZ _ (by simp[pE]))).2,fun p' fl iH H' s'=>q p' fl iH H' (s2.trans s')⟩
 ·exact cK _ (mV.mpr ⟨r,hr,cK _ (mV.mpr ⟨p,hp,ht⟩)⟩)
 ·exact cK _ (mV.mpr ⟨r,hr,aZ _ ht⟩)
abbrev s_f:Stmt:=top 60
theorem sc_f:bZ ["script","k"] ["script","k"] (zK s_f):=by rfl'
abbrev s_g:Stmt:=top 61
theorem tV:bZ ["cell","size","letters","made","rest","k"] ["cell","size"] (zK s_g):=by rfl'
abbrev s_J:Stmt:=top 62
theorem PH:bZ ["script","one","two","three","pool"] ["script"] (zK s_J):=by rfl'
def uQ(K:W.Frag):Sp:=fun vs H Q _=>∃(a:Addr)(ns:List Int)(k:Nat),vs=[.ref a,.int k]/\dL K H a (ns.map V.int)/\Q (.int (ns.getD k 0)) H
def UC:Sp:=fun vs H Q _=>∃c n:Int,vs=[.int c,.int n]/\∀x:Str,Nm x->Q (.str x) H
def WJ(K:W.Frag)(H:Hp)(p:Addr):Prop:=∃x y z:Str,Nm x/\Nm y/\Nm z/\H p=some (.lst [.str x,.str y,.str z])
inductive OY (K:W.Frag) (vs:List V) (H:Hp) (Q:VK) (E:XK):Prop
 |mk (a:Addr) (ns:List Int) (_:vs=[.ref a]) (_:dL K H a (ns.map V.int)) (_:∀p H',bB H H'->WJ K H' p->Q (.ref p) H')
inductive spLeaf (K:W.Frag) (vs:List V) (H:Hp) (Q:VK) (E:XK):Prop
 |mk (c:Int) (p:Addr) (_:vs=[.int c,.ref p]) (_:WJ K H p) (_:∀v t H',bB H H'->fP H' t v->fX 0 t->wt t=1->Q v H')
inductive spStack (K:W.Frag) (vs:List V) (H:Hp) (Q:VK) (E:XK):Prop
 |mk (c p:Addr) (ns:List Int) (_:vs=[.ref c,.ref p]) (_:dL K H c (ns.map V.int)) (_:ns.length<=63) (_:WJ K H p) (_:∀a vs ts H',bB H H'->H' a=some (.lst vs)->dQ H' ts vs->ts≠[]->(∀t∈ts,fX 17 t)->mQ ts<=ns.length+1->Q (.ref a) H')
def whole:List Tm->Tm
 |[t]=>t
 |ts=>.node "both" ts
inductive spWhole (vs:List V) (H:Hp) (Q:VK) (E:XK):Prop
 |mk (a:Addr) (iH:List V) (ts:List Tm) (m:Nat) (_:vs=[.ref a]) (_:H a=some (.lst iH)) (_:dQ H ts iH) (_:ts≠[]) (_:(∀t∈ts,fX 17 t)) (_:mQ ts<=m) (_:m<=100) (_:∀v H',bB H H'->fP H' (whole ts) v->fX 18 (whole ts)->wt (whole ts)<=m+1->Q v H')
theorem d6(bi:Bi mg)(F:gS K "_law_cell_at" "_law_cell_at" s_f f fd):dI P w K mg base fY 1 f fd ["script","k"] (uQ K):=by
 refine F.okz sc_f fun fL A outer s H vs Q E hr h=>?_
 obtain⟨a,ns,k,rfl,hS,q⟩:=h;refine⟨_,(zF (yI (zQ ZM (pv 1) (yC yJ rfl bi.len yX (zA (pv 0) zC)) (zU _)) (zG (zO (zM yH (pv 0) (pv 1)))) zW) (zG (zO zE))),?_⟩;dsimp![];refine⟨_,.inl ⟨_,hS,rfl⟩,?_⟩;split
 ·rename_i hk
  rw[aE]at hk;exact⟨_,hS,_,n8 hk,q⟩
 ·rename_i hk
  rw[aE]at hk;rw[bU,List.getElem?_eq_none ()]at q;exact q
theorem MQ(c:Int):∃d:Nat,oU ("abcdefghijklmnopqrstuvwxyz":Str).cps.toList (c % 26)=some d/\97<=d/\d<=122:=by
 have h:∀k:Fin 26,∃d:Nat,("abcdefghijklmnopqrstuvwxyz":Str).cps.toList[k.val]?=some d/\97<=d/\d<=122:=by decide+kernel
 have h1:0<=c % 26:=rD _ ();have h2:c % 26<26:=DI _ ();have e:c % 26=((c % 26).toNat:Nat):=by lia
 obtain⟨d,h3,h4⟩:=h ⟨(c % 26).toNat,()⟩;refine⟨d,?_,h4⟩;rw[e];exact yE h3
theorem dv(bi:Bi mg)(F:gS K "_law_name_by" "_law_name_by" s_g f fd):dI P w K mg base fY 1 f fd ["cell","size"] UC:=by
 refine F.okz tV fun fL A outer s H vs Q E hr h=>?_
 obtain⟨c,n,rfl,q⟩:=h;refine⟨_,(zF (yD 2 tV.nd zR) (zF (yD 3 tV.nd zR) (zF (yD 4 tV.nd (zL yN (pv 0) (zL kZ zE zE))) (zF (yM bM rfl (xY rfl bi.range (zA (zL uX zE (zL yN (pv 1) zE)) zC)) (yF 5 tV.nd) (zF (yD 3 tV.nd (zL XL (pv 3) (zM n6 (pv 2) (zL yN (pv 4) zE)))) (zG (yD 4 tV.nd (zL yK (pv 4) zE))))) (zF (yI (PW.pt (pw_or (zQ xG (pv 3) zR (zU _)) (mh (zQ xG (pv 3) zR (zU _))))) (zG (yD 3 tV.nd (zL XL (pv 3) zR))) zW) (zG (zO (pv 3)))))))),?_⟩;refine zH fun N hN=>?_
 dsimp![];refine hN _ _ ?_;refine zH fun N hN=>?_
 dsimp![];refine hN _ _ ?_;refine zH fun N hN=>?_
 dsimp![];refine⟨⟨(),(),()⟩,(),hN _ _ ?_⟩;generalize c % 26^Int.toNat 8=r0;have hm:0<=n % 8/\n % 8<8:=by lia
 have e0:("":Str).cps.toList=[]:=by decide+kernel
 refine yB (fun σ H'=>H'=H/\∃(z:Str)(a b:Option V),z.length=1+(n % 8).toNat/\(∀d∈z.cps.toList,97<=d/\d<=122)/\σ=[some (V.int c),some (V.int n),some (V.str "abcdefghijklmnopqrstuvwxyz"),some (V.str z),a,b]) (fun N hN=>?_) (fun σ H' h=>?_)
 ·dsimp![];refine⟨(),(),(),TY (n:=(1+n % 8).toNat) (fun i σ H'=>H'=H/\∃(z:Str)(r:Int)(o:Option V),z.length=i/\(∀d∈z.cps.toList,97<=d/\d<=122)/\σ=[some (V.int c),some (V.int n),some (V.str "abcdefghijklmnopqrstuvwxyz"),some (V.str z),some (V.int r),o])
   ⟨rfl,_,_,_,rfl,(fun d hd=>by rw[e0]at hd;cases hd),rfl⟩ (fun i σ H' hi e=>?_) (fun σ H' e=>?_)⟩
  ·obtain⟨rfl,z,r,o,hz,hl,rfl⟩:=e;obtain⟨d,hd,hd2⟩:=MQ r;dsimp![];have e1:(⟨#[d]⟩:Str).length=1:=rfl;refine⟨(),small (),d,hd,small (),⟨(),()⟩,_,?_,?_,rfl,_,rfl⟩
   ·rw[fm,hz,e1]
   ·intro d' hd';rw[gn]at hd';rcases bO.mp hd' with h |h
    ·exact hl d' h
    ·have h:d'∈[d]:=h;rw[aT.mp h];exact hd2
  ·obtain⟨rfl,z,r,o,hz,hl,rfl⟩:=e;exact hN _ _ ⟨rfl,z,_,_,(),hl,rfl⟩
 ·obtain⟨rfl,z,a,b,hz,hl,rfl⟩:=h;refine yB (fun σ H''=>H''=H'/\∃(z:Str)(a b:Option V),Nm z/\σ=[some (V.int c),some (V.int n),some (V.str "abcdefghijklmnopqrstuvwxyz"),some (V.str z),a,b]) (fun N hN=>?_) (fun σ H'' h=>?_)
  ·dsimp![];refine⟨rfl,?_⟩;have fin:∀z:Str,Nm z->N [some (V.int c),some (V.int n),some (V.str "abcdefghijklmnopqrstuvwxyz"),some (V.str z),a,b] H':=fun z h=>hN _ _ ⟨rfl,z,_,_,h,rfl⟩
   split
   ·rename_i e
    subst e;refine⟨small (),fin _ ?_⟩;exact⟨(),(),(),(),()⟩
   ·rename_i e
    refine⟨rfl,?_⟩;split
    ·rename_i e
     subst e;refine⟨small (),fin _ ?_⟩;exact⟨(),(),(),(),()⟩
    ·rename_i e2
     exact fin z ⟨(),(),hl,e,e2⟩
  ·obtain⟨rfl,z,a,b,hz,rfl⟩:=h;dsimp![];exact q z hz
theorem du(bi:Bi mg)(h_f:gR P w K mg base 1 "_law_cell_at" ["script","k"] (uQ K))(h_g:gR P w K mg base 1 "_law_name_by" ["cell","size"] UC)
 (F:gS K "_law_pool" "_law_pool" s_J f fd):dI P w K mg base fY 2 f fd ["script"] (OY K):=by
 refine F.okz PH fun fL A outer s H vs Q E hr h=>?_
 obtain⟨a,ns,rfl,hS,q⟩:=h;refine⟨_,(zF (yD 1 PH.nd (zI h_f hr.m rfl (zA (pv 0) (zA zE zC)))) (zF (yD 2 PH.nd (zI h_f hr.m rfl (zA (pv 0) (zA zE zC)))) (zF (yD 3 PH.nd (zI h_f hr.m rfl (zA (pv 0) (zA zE zC)))) (zF (yD 4 PH.nd (yV (zA (zI h_g hr.m rfl (zA (pv 1) (zA (zL yN (zL yK (pv 1) zE) zE) zC))) (zA (zI h_g hr.m rfl (zA (pv 2) (zA (zL yN (zL yK (pv 2) zE) zE) zC))) zC)))) (zF (yI (zQ xG (zL yN (pv 3) zE) zE (zU _)) (zG (zX (jS bW cT cS yZ (pv 4) (zA (zI h_g hr.m rfl (zA (pv 1) (zA (zL uX (zL yN (zL yK (pv 1) zE) zE) zE) zC))) zC)))) (zG (zX (jS bW cT cS yZ (pv 4) (zA (zI h_g hr.m rfl (zA (zL yK (pv 3) zE) (zA (zL yN (zL yK (pv 3) zE) zE) zC))) zC))))) (zG (zO (pv 4)))))))),?_⟩;refine zH fun N hN=>?_
 dsimp![uQ];refine⟨ns,0,rfl,hS,hN _ _ ?_⟩;refine zH fun N hN=>?_
 dsimp![uQ];refine⟨ns,1,rfl,hS,hN _ _ ?_⟩;refine zH fun N hN=>?_
 dsimp![uQ];refine⟨ns,2,rfl,hS,hN _ _ ?_⟩;generalize ns.getD 0 0=x0;generalize ns.getD 1 0=x1;generalize ns.getD 2 0=x2;refine zH fun N hN=>?_
 dsimp![UC];refine⟨⟨(),()⟩,(),fun n1 g1=>⟨⟨(),()⟩,(),fun n2 g2=>⟨small (),fun p hp=>hN _ _ ?_⟩⟩⟩;refine yB (fun σ H'=>bB H H'/\WJ K H' p/\∃a b c d:Option V,σ=[a,b,c,d,some (V.ref p)]) (fun N hN=>?_) (fun σ H' h=>?_)
 ·dsimp![UC];have fin:∀n3:Str,Nm n3->bB H (upd (upd H p (HO.lst [V.str n1,V.str n2])) p (HO.lst ([V.str n1,V.str n2]++[V.str n3])))/\WJ K (upd (upd H p (HO.lst [V.str n1,V.str n2])) p (HO.lst ([V.str n1,V.str n2]++[V.str n3]))) p:=fun n3 g3=>by
   rw[YD];exact⟨zD hp _,n1,n2,n3,g1,g2,g3,zB⟩
  have ty:tyV K "list" (V.ref p) (upd H p (HO.lst [V.str n1,V.str n2])):=.inl ⟨rfl,_,dL.of zB⟩;refine⟨(),rfl,?_⟩;split
  ·refine⟨ty,⟨(),()⟩,(),fun n3 g3=>?_⟩;exact⟨_,zB,(by show 2<sizeLine;decide),hN _ _ ⟨(fin n3 g3).1,(fin n3 g3).2,_,_,_,_,rfl⟩⟩
  ·refine⟨ty,⟨(),()⟩,⟨(),()⟩,(),fun n3 g3=>?_⟩;exact⟨_,zB,(by show 2<sizeLine;decide),hN _ _ ⟨(fin n3 g3).1,(fin n3 g3).2,_,_,_,_,rfl⟩⟩
 ·obtain⟨e,mU,a',b,c,d,rfl⟩:=h;dsimp![];exact q p H' e mU
structure Ov(H J:Hp)(lg:Addr)(us:List V):Prop where
 eq:H=upd J lg (.lst us)
 no:J lg=none
theorem Ov.at(h:Ov H J lg us):H lg=some (.lst us):=by rw[h.eq];exact zB
theorem Ov.sub(h:Ov H J lg us):bB J H:=by rw[h.eq];exact zD h.no _
theorem Ov.ne(h:Ov H J lg us)(hp:H p=none):p≠lg:=fun z=>by
 rw[z,h.at]at hp;cases hp
theorem Ov.free(h:Ov H J lg us)(hp:H p=none):J p=none:=h.sub.free hp
theorem Ov.new(h:Ov H J lg us)(hp:H p=none)(o:HO):Ov (upd H p o) (upd J p o) lg us:=by
 have lL:=h.ne hp;refine⟨?_,by rw[zJ (cJ lL)];exact h.no⟩;rw[h.eq]
 funext b
 by_cases h1:b=p
 ·subst h1;rw[zB,zJ lL,zB]
 ·rw[zJ h1];by_cases h2:b=lg
  ·subst h2;rw[zB,zB]
  ·rw[zJ h2,zJ h2,zJ h1]
theorem Ov.set(h:Ov H J lg us)(vs:List V):Ov (upd H lg (.lst vs)) J lg vs:=⟨by rw[h.eq,YD],h.no⟩
theorem Ov.mk0(h:H lg=none):Ov (upd H lg (.lst [])) H lg []:=⟨rfl,h⟩
theorem Ov.put{q:Addr}(h:Ov H J lg us)(hq:q≠lg)(o:HO):Ov (upd H q o) (upd J q o) lg us:=by
 refine⟨?_,by rw[zJ (cJ hq)];exact h.no⟩;rw[h.eq]
 funext b
 by_cases h1:b=q
 ·subst h1;rw[zB,zJ hq,zB]
 ·rw[zJ h1];by_cases h2:b=lg
  ·subst h2;rw[zB,zB]
  ·rw[zJ h2,zJ h2,zJ h1]
theorem Ov.ext(h:Ov H J lg us)(e:bB H H'):∃J',Ov H' J' lg us/\bB J J':=by
 refine⟨fun b=>if b=lg then none else H' b,⟨?_,aL rfl⟩,fun b o hb=>?_⟩
 ·funext b
  by_cases hb:b=lg
  ·subst hb;rw[zB];exact e _ _ h.at
  ·rw[zJ hb];exact(aH hb).symm
 ·have lL:b≠lg:=fun z=>by rw[z,h.no]at hb;cases hb
  show(if b=lg then none else H' b)=some o;rw[aH lL];exact e _ _ (h.sub _ _ hb)
abbrev s_u:Stmt:=top 63
theorem sc_u:bZ ["cell","terms","one"] ["cell","terms"] (zK s_u):=by rfl'
abbrev s_y:Stmt:=top 64
theorem LS:bZ ["script","pool","many","terms","name","k","cell","low"] ["script","pool","many"] (zK s_y):=by rfl'
def Sd(ts:List Tm)(t:Tm):Prop:=t∈ts\/∃u∈ts,t=.node "not" [u]
structure qj(zs:List Str)(g n d m:Nat)(ts:List Tm):Prop where
 len:ts.length=n
 fit:∀t∈ts,fX d t/\wt t<=m
 ex:∃G:List Tm,G.length<=g/\∀t∈ts,inG zs G (d+1) t
theorem xT{zs:List Str}{G G':List Tm}(hG:∀t∈G,t∈G'):∀{d d':Nat}{t:Tm},inG zs G d t->d<=d'->inG zs G' d' t
 |0,_,_,h,_=>h.elim
 |d+1,0,_,_,h=>absurd h ()
 |d+1,d'+1,.name x,h,_=>h
 |d+1,d'+1,.node w ts,h,hd=>by
  rcases h with h |⟨e,t,e2,h⟩ |⟨e,h1,h2,a,b,e2,h3,h4⟩
  ·exact .inl h
  ·exact .inr (.inl ⟨e,t,e2,xT hG h ()⟩)
  ·exact .inr (.inr ⟨e,hG _ h1,h2,a,b,e2,xT hG h3 (),xT hG h4 ()⟩)
theorem Sd.fit{t:Tm}{m:Nat}(h:Sd ts t)(hf:∀t∈ts,fX d t/\wt t<=m):fX (d+1) t/\wt t<=m+1:=by
 rcases h with h |⟨u,h,rfl⟩
 ·exact⟨(hf t h).1.up,Nat.le_succ_of_le (hf t h).2⟩
 ·refine⟨?_,?_⟩
  ·unfold fX;exact⟨.inr (.inr (.inl ⟨rfl,rfl⟩)),fun t ht=>by rw[aT.mp ht];exact(hf u h).1⟩
  ·have :=(hf u h).2;simp only[wt,mQ];lia
theorem Sd.inG{G:List Tm}{t:Tm}(h:Sd ts t)(hf:∀t∈ts,inG zs G (d+1) t):inG zs G (d+2) t:=by
 rcases h with h |⟨u,h,rfl⟩
 ·exact xT (fun _ z=>z) (hf t h) ()
 ·exact .inr (.inl ⟨rfl,u,rfl,hf u h⟩)
theorem fit2{w:Str}{a b:Tm}(hw:w="both"\/w="either")(ha:fX d a)(hb:fX d b):fX (d+1) (.node w [a,b]):=by
 unfold fX;refine⟨lh hw (aG _),fun t ht=>?_⟩;rcases bJ.mp ht with rfl |ht
 ·exact ha
 ·rw[aT.mp ht];exact hb
theorem qj.step{g m:Nat}{w:Str}{a b:Tm}(h:qj zs g n d m ts)(hw:w="both"\/w="either")(ha:Sd ts a)(hb:Sd ts b):qj zs (g+1) (n+1) (d+2) (2*m+3) (ts++[.node w [a,b]]):=by
 obtain⟨G,g1,g2⟩:=h.ex;have fa:=ha.fit h.fit;have fb:=hb.fit h.fit;have hft:=fit2 hw fa.1 fb.1;refine⟨by rw[aI,h.len];rfl,fun t ht=>?_,G++[.node w [a,b]],by rw[aI,cC];lia,fun t ht=>?_⟩
 ·rcases bO.mp ht with ht |ht
  ·exact⟨(h.fit t ht).1.up.up,by have :=(h.fit t ht).2;lia⟩
  ·rw[aT.mp ht];refine⟨hft,?_⟩;simp only[wt,mQ];lia
 ·have up:∀{t:Tm}{k:Nat},inG zs G k t->k<=d+2->inG zs (G++[.node w [a,b]]) (d+2) t:=fun h hk=>xT (fun _ z=>cK _ z) h hk
  rcases bO.mp ht with ht |ht
  ·exact xT (fun _ z=>z) (up (g2 t ht) ()) ()
  ·rw[aT.mp ht];exact .inr (.inr ⟨hw,aZ _ (aT.mpr rfl),⟨_,hft⟩,a,b,rfl,up (ha.inG g2) (aG _),up (hb.inG g2) (aG _)⟩)
theorem dQ.len(h:dQ H ts us):us.length=ts.length:=by have :=bG.length h;rwa[aE]at this
theorem dQ.snoc{t:Tm}(h:dQ H ts us)(e:bB H H')(ht:fP H' t v):dQ H' (ts++[t]) (us++[v]):=by
 unfold dQ;rw[aU];exact bG.append (bG.same e h) (bG.one ht)
theorem Ov.tups(h:Ov H J lg us):cU H J:=fun b xs hb=>by
 have lL:b≠lg:=fun z=>by rw[z,h.at]at hb;cases hb
 rw[h.eq,zJ lL]at hb;exact hb
inductive OX (vs:List V) (H:Hp) (Q:VK) (E:XK):Prop
 |mk (c:Int) (ta:Addr) (us:List V) (ts:List Tm) (_:vs=[.int c,.ref ta]) (_:H ta=some (.lst us)) (_:dQ H ts us) (_:ts≠[]) (_:ts.length<=20) (_:∀v t H',bB H H'->fP H' t v->Sd ts t->Q v H')
inductive spTs (K:W.Frag) (vs:List V) (H:Hp) (Q:VK) (E:XK):Prop
 |mk (a pa:Addr) (ns:List Int) (zs:List Str) (_:vs=[.ref a,.ref pa,.int 2]) (_:dL K H a (ns.map V.int)) (_:ns.length<=63) (_:H pa=some (.lst (zs.map V.str))) (_:zs.length=3) (_:(∀z∈zs,Nm z)) (_:∀p us ts H',bB H H'->H' p=some (.lst us)->dQ H' ts us->qj zs 2 7 4 13 ts->Q (.ref p) H')
theorem AT:(0:Int)<10^Int.toNat 12:=by show(0:Int)<10^12;simp
theorem p1015:(0:Int)<10^Int.toNat 15:=by show(0:Int)<10^15;simp
theorem dr(bi:Bi mg)(F:gS K "_law_side" "_law_side" s_u f fd):dI P w K mg base fY 1 f fd ["cell","terms"] OX:=by
 refine F.okz sc_u fun fL A outer s H vs Q E hr h=>?_
 obtain⟨c,ta,us,ts,rfl,hta,hts,lL,hl,q⟩:=h;refine⟨_,(zF (yD 2 sc_u.nd (zM yH (pv 1) (zL yN (zL yK (pv 0) zE) (yC yJ rfl bi.len yX (zA (pv 1) zC))))) (zF (yI (zQ xG (zL yN (pv 0) zE) zE (zU _)) (zG (zO (zN (zA zR (zA (pv 2) zC))))) zW) (zG (zO (pv 2))))),?_⟩;have hul:us.length=ts.length:=by have :=bG.length hts;rwa[aE]at this
 have hpos:0<us.length:=by rw[hul];exact List.length_pos_iff.mpr lL
 refine zH fun N hN=>?_
 dsimp![];obtain⟨m,hm⟩:∃m:Nat,c/2 % (us.length:Int)=(m:Int):=⟨(c/2 % (us.length:Int)).toNat,by have :=rD (c/2) (show(us.length:Int)≠0 by lia);lia⟩
 have hml:m<us.length:=by have :=DI (c/2) (show(0:Int)<us.length by lia);lia
 obtain⟨t,ht,htt⟩:=jC (f:=HA) hts (aA hml);have hmem:=aX ht;refine⟨⟨(),()⟩,us.length,.inl ⟨_,dL.of hta,rfl⟩,(),_,dL.of hta,us[m],by rw[hm];exact yE (aA hml),hN _ _ ?_⟩;clear hN;dsimp![];refine⟨(),rfl,?_⟩;by_cases c1:c % 2=1
 ·rw[aL c1];refine⟨small (),fun p hp=>?_⟩;have e:=zD hp (.tup [V.str "not",us[m]]);exact q _ (.node "not" [t]) _ e ⟨p,_,rfl,zB,_,_,rfl,rfl,_,_,rfl,dW.same e htt,rfl⟩ (.inr ⟨t,hmem,rfl⟩)
 ·rw[aH c1];exact q _ _ _ (bB.refl _) htt (.inl hmem)
theorem RZ(bi:Bi mg)(h_f:gR P w K mg base 1 "_law_cell_at" ["script","k"] (uQ K))(h_u:gR P w K mg base 1 "_law_side" ["cell","terms"] OX)(F:gS K "_law_terms" "_law_terms" s_y f fd):dI P w K mg base fY 2 f fd ["script","pool","many"] (spTs K):=by
 refine F.okz LS fun fL A outer s H vs Q E hr h=>?_
 obtain⟨a,pa,ns,zs,rfl,hS,hl,hpa,hz,hnm,q⟩:=h;refine⟨_,(zF (yD 3 LS.nd (yV (zA (zN (zA zR zC)) (zA (zN (zA zR zC)) zC)))) (zF (yM bM rfl (yG (pv 1)) (yF 4 LS.nd) (zG (zX (jS bW cT cS yZ (pv 3) (zA (zN (zA zR (zA (pv 4) zC))) zC))))) (zF (yM bM rfl (xY rfl bi.range (zA (pv 2) zC)) (yF 5 LS.nd) (zF (yD 6 LS.nd (zL yN (zI h_f hr.m rfl (zA (pv 0) (zA (zL uX zE (pv 5)) zC))) (zL kZ zE zE))) (zF (yD 7 LS.nd (zL yK (zL yN (zL xQ (zL yK (pv 6) zE) zE) zE) zE)) (zG (zX (jS bW cT cS yZ (pv 3) (zA (zN (zA (zM yH (yV (zA zR (zA zR zC))) (zL yN (pv 6) zE)) (zA (zI h_u hr.m rfl (zA (pv 7) (zA (pv 3) zC))) (zA (zI h_u hr.m rfl (zA (zL yK (pv 7) zE) (zA (pv 3) zC))) zC)))) zC))))))) (zG (zO (pv 3)))))),?_⟩;refine zH fun N hN=>?_
 dsimp![];refine⟨small (),fun p0 h0=>⟨small (),fun p1 h1=>⟨small (),fun pt hpt=>hN _ _ ?_⟩⟩⟩;clear hN;have e0:=zD h0 (.tup [V.str "none"]);have e1:=zD h1 (.tup [V.str "all"]);have t0:dQ (upd (upd H p0 (.tup [V.str "none"])) p1 (.tup [V.str "all"])) [.node "none" [],.node "all" []] [V.ref p0,V.ref p1]:=⟨_,_,rfl,⟨p0,_,rfl,e1 _ _ zB,_,_,rfl,rfl,rfl⟩,_,_,rfl,⟨p1,_,rfl,zB,_,_,rfl,rfl,rfl⟩,rfl⟩
 have ov:Ov (upd (upd (upd H p0 (.tup [V.str "none"])) p1 (.tup [V.str "all"])) pt (.lst [V.ref p0,V.ref p1])) (upd (upd H p0 (.tup [V.str "none"])) p1 (.tup [V.str "all"])) pt [V.ref p0,V.ref p1]:=⟨rfl,hpt⟩
 have sJ:=e0.trans e1;generalize upd (upd H p0 (.tup [V.str "none"])) p1 (.tup [V.str "all"])=J0 at t0 ov sJ;generalize upd J0 pt (.lst [V.ref p0,V.ref p1])=H1 at ov⊢;clear e0 e1 h0 h1 hpt;refine yB (fun σ G=>∃(J:Hp)(us:List V)(o4:Option V),Ov G J pt us/\bB H J/\dQ J (.node "none" []::.node "all" []::zs.map Tm.name) us/\σ=[some (V.ref a),some (V.ref pa),some (V.int 2),some (V.ref pt),o4,none,none,none]) (fun N hN=>?_) (fun σ G h=>?_)
 ·dsimp![];refine⟨⟨_,dL.of (ov.sub _ _ (sJ _ _ hpa))⟩,?_⟩;refine jD (xs:=zs.map V.str) (fun i σ G=>∃(J:Hp)(us:List V)(o4:Option V),Ov G J pt us/\bB H J/\dQ J (.node "none" []::.node "all" []::(zs.take i).map Tm.name) us/\σ=[some (V.ref a),some (V.ref pa),some (V.int 2),some (V.ref pt),o4,none,none,none]) ⟨J0,_,_,ov,sJ,t0,rfl⟩ (fun i σ G _ h=>by obtain⟨J,us,o4,ov,sJ,_⟩:=h;exact dL.of (ov.sub _ _ (sJ _ _ hpa))) (fun i x σ G hx h M hM=>?_) (fun σ G h=>?_)
  ·obtain⟨J,us,o4,ov,sJ,ht,rfl⟩:=h;rw[aK]at hx;obtain⟨z,hz1,rfl⟩:=aO.mp hx;obtain⟨hil,hie⟩:=aC.mp hz1;dsimp![];have hul:=dQ.len ht;simp only[bD,aE,bX]at hul;refine⟨.inl ⟨rfl,_,dL.of ov.at⟩,small (),fun p hp=>?_⟩;have ov2:=ov.new hp (.tup [V.str "name",V.str z]);have e2:=zD (ov.free hp) (.tup [V.str "name",V.str z]);refine⟨us,ov2.at,small (),hM _ _ ⟨_,_,_,ov2.set (us++[.ref p]),sJ.trans e2,?_,rfl⟩⟩;rw[aM hil,hie,aU];exact dQ.snoc ht e2 ⟨p,_,rfl,zB,_,_,rfl,rfl,_,_,rfl,rfl,rfl⟩
  ·obtain⟨J,us,o4,ov,sJ,ht,rfl⟩:=h;rw[aE,aS (aG _)]at ht;exact hN _ _ ⟨J,us,o4,ov,sJ,ht,rfl⟩
 obtain⟨J,us,o4,ov,sJ,ht,rfl⟩:=h;have base0:qj zs 0 5 0 1 (.node "none" []::.node "all" []::zs.map Tm.name):=by
  refine⟨by simp[hz],fun t ht=>?_,[],aG _,fun t ht=>?_⟩
  all_goals
   simp only[bJ,cD]at ht;rcases ht with rfl |rfl |⟨z,hz1,rfl⟩
  ·exact⟨⟨.inl ⟨rfl,rfl⟩,rfl⟩,()⟩
  ·exact⟨⟨.inr (.inl ⟨rfl,rfl⟩),rfl⟩,()⟩
  ·exact⟨hnm z hz1,by simp[wt]⟩
  ·exact .inl (.inl rfl)
  ·exact .inl (.inr rfl)
  ·exact hz1
 refine yB (fun σ G=>∃(J:Hp)(us:List V)(ts:List Tm)(o4 o5 o6 o7:Option V),Ov G J pt us/\bB H J/\dQ J ts us/\qj zs 2 7 4 13 ts/\σ=[some (V.ref a),some (V.ref pa),some (V.int 2),some (V.ref pt),o4,o5,o6,o7]) (fun N hN=>?_) (fun σ G h=>?_)
 ·dsimp![];refine⟨(),(),?_⟩;refine vJ (n:=2) (fun i σ G=>∃(J:Hp)(us:List V)(ts:List Tm)(o4 o5 o6 o7:Option V),Ov G J pt us/\bB H J/\dQ J ts us/\qj zs i (5+i) (2*i) (4*2^i-3) ts/\σ=[some (V.ref a),some (V.ref pa),some (V.int 2),some (V.ref pt),o4,o5,o6,o7]) ⟨J,us,_,_,_,_,_,ov,sJ,ht,base0,rfl⟩ (fun i σ G hi h M hM=>?_) (fun σ G h=>?_)
  ·obtain⟨J,us,ts,o4,o5,o6,o7,ov,sJ,ht,tg,rfl⟩:=h;refine zH fun N hN=>?_
   dsimp![];refine⟨a,ns,3+i,by simp,bB.seq (sJ.trans ov.sub) hS,⟨⟨(),(),()⟩,_,rfl,AT,hN _ _ ?_⟩⟩;clear hN;generalize ns.getD (3+i) 0 % 10^Int.toNat 12=cell;refine zH fun N hN=>?_
   dsimp![];refine⟨⟨(),()⟩,.inr ⟨(),()⟩,(),⟨(),()⟩,hN _ _ ?_⟩;clear hN;generalize cell/2*48271 % 2147483647/16=low;dsimp![];have hul:=dQ.len ht;rw[tg.len]at hul;have lL:ts≠[]:=fun z=>by have :=tg.len;rw[z]at this;simp at this;lia
   obtain⟨wd,hwd,hat⟩:=LH (cell % 2) ();refine⟨.inl ⟨rfl,_,dL.of ov.at⟩,small (),fun p hp=>⟨(),_,dL.of zB,_,hat,?_⟩⟩;have ov1:=ov.new hp (.lst [V.str "both",V.str "either"]);have s1:=zD (ov.free hp) (.lst [V.str "both",V.str "either"]);refine⟨low,pt,us,ts,rfl,ov1.at,bG.same (s1.trans ov1.sub) ht,lL,by rw[tg.len];lia,fun v1 t1 H2 s2 mB sd1=>⟨⟨(),()⟩,?_⟩⟩;obtain⟨J2,ov2,s2'⟩:=ov1.ext s2;refine⟨low/64,pt,us,ts,rfl,ov2.at,bG.same (s1.trans (ov1.sub.trans s2)) ht,lL,by rw[tg.len];lia,fun v2 t2 H3 s3 ht2 sd2=>⟨small (),fun p3 hp3=>?_⟩⟩;have ht1':=dW.same s3 mB;obtain⟨J3,ov3,s3'⟩:=ov2.ext s3;have ov4:=ov3.new hp3 (.tup [V.str wd,v1,v2]);have s4:=zD (ov3.free hp3) (.tup [V.str wd,v1,v2]);have sA:=s1.trans (s2'.trans (s3'.trans s4));have q1:fP J3 t1 v1:=fP.tups ov3.tups ht1';have q2:fP J3 t2 v2:=fP.tups ov3.tups ht2;refine⟨us,ov4.at,small (),hM _ _ ⟨_,_,ts++[.node wd [t1,t2]],_,_,_,_,ov4.set (us++[.ref p3]),sJ.trans sA,dQ.snoc (t:=.node wd [t1,t2]) (v:=.ref p3) (bG.same (s1.trans (s2'.trans s3')) ht) s4 ⟨p3,_,rfl,zB,_,_,rfl,rfl,_,_,rfl,dW.same s4 q1,_,_,rfl,dW.same s4 q2,rfl⟩,?_,rfl⟩⟩;have :=tg.step hwd sd1 sd2;have hi2:i=0\/i=1:=by lia
   rcases hi2 with rfl |rfl<;>exact this
  ·obtain⟨J,us,ts,o4,o5,o6,o7,ov,sJ,ht,tg,rfl⟩:=h;exact hN _ _ ⟨J,us,ts,_,_,_,_,ov,sJ,ht,tg,rfl⟩
 obtain⟨J,us,ts,o4,o5,o6,o7,ov,sJ,ht,tg,rfl⟩:=h;dsimp![];exact q pt us ts _ (sJ.trans ov.sub) ov.at (bG.same ov.sub ht) tg
abbrev s_x:Stmt:=top 65
theorem rQ:bZ ["cells","terms","most","book","last","raw","cell","low","one","other"] ["cells","terms","most"] (zK s_x):=by rfl'
def qu(H0 G:Hp)(pb:Addr)(b0:List mR)(r:mR)(J J1:Hp)(us vs:List V)(a la:Addr)(c:V):Prop:=Ov G J pb (us++[.ref a])/\Ov J J1 la vs/\bB H0 J1/\iA J1 b0 us/\J1 a=some (.tup [.ref la,c])/\pO J1 r.1 vs/\oE J1 r.2 c
def Bk(H0 G:Hp)(pb:Addr)(b:List mR):Prop:=(b=[]/\∃J,Ov G J pb []/\bB H0 J)\/∃b0 r J J1 us vs a la c,b=b0++[r]/\qu H0 G pb b0 r J J1 us vs a la c
section
variable {H0 G G':Hp} {pb:Addr}
theorem Bk.sub(h:Bk H0 G pb b):bB H0 G:=by
 rcases h with⟨_,J,ov,s⟩ |⟨b0,r,J,J1,us,vs,a,la,c,_,o1,o2,s,_⟩
 ·exact s.trans ov.sub
 ·exact s.trans (o2.sub.trans o1.sub)
theorem iA.one{b0:List mR}(h:iA H b0 us)(hr:WI H r v):iA H (b0++[r]) (us++[v]):=by
 unfold iA;rw[aU];exact bG.append h (bG.one hr)
theorem qu.whole{b0:List mR}{J1:Hp}{vs:List V}{la:Addr}{c:V}(h:qu H0 G pb b0 r J J1 us vs a la c):iA J (b0++[r]) (us++[.ref a]):=by
 obtain⟨o1,o2,s,h1,h2,h3,h4⟩:=h;exact iA.one (bG.same o2.sub h1) ⟨a,_,rfl,o2.sub _ _ h2,_,_,rfl,⟨la,vs,rfl,o2.at,bG.same o2.sub h3⟩,_,_,rfl,dW.same o2.sub h4,rfl⟩
theorem Bk.at(h:Bk H0 G pb b):∃J us,Ov G J pb us/\us.length=b.length/\iA J b us/\bB H0 J:=by
 rcases h with⟨rfl,J,ov,s⟩ |⟨b0,r,J,J1,us,vs,a,la,c,rfl,h⟩
 ·exact⟨J,[],ov,rfl,rfl,s⟩
 ·exact⟨J,_,h.1,by have :=iA.length h.whole;exact this,h.whole,h.2.2.1.trans h.2.1.sub⟩
theorem Bk.ext(h:Bk H0 G pb b)(e:bB G G'):Bk H0 G' pb b:=by
 rcases h with⟨rfl,J,ov,s⟩ |⟨b0,r,J,J1,us,vs,a,la,c,rfl,o1,o2,s,h1,h2,h3,h4⟩
 ·obtain⟨J',ov',s'⟩:=ov.ext e;exact .inl ⟨rfl,J',ov',s.trans s'⟩
 ·obtain⟨J',o1',s1⟩:=o1.ext e;obtain⟨J1',o2',s2⟩:=o2.ext s1;exact .inr ⟨b0,r,J',J1',us,vs,a,la,c,rfl,o1',o2',s.trans s2,bG.same s2 h1,s2 _ _ h2,bG.same s2 h3,dW.same s2 h4⟩
theorem oE.mk2{t1 t2:Tm}{v1 v2:V}(h1:fP H t1 v1)(h2:fP H t2 v2)(hp:H p=some (.tup [v1,v2])):oE H (t1,t2) (.ref p):=⟨p,_,rfl,hp,_,_,rfl,h1,_,_,rfl,h2,rfl⟩
theorem qu.prem{b0:List mR}{J1:Hp}{vs:List V}{la:Addr}{c v1 v2:V}{t1 t2:Tm}(h:qu H0 G pb b0 r J J1 us vs a la c)(hp:G p=none)(h1:fP G t1 v1)(h2:fP G t2 v2):
 Bk H0 (upd (upd G p (.tup [v1,v2])) la (.lst (vs++[.ref p]))) pb (b0++[(r.1++[(t1,t2)],r.2)]):=by
 obtain⟨o1,o2,s,g1,g2,g3,g4⟩:=h;have hpJ:=o1.free hp;have hpJ1:=o2.free hpJ;have lL:la≠pb:=fun z=>by have :=o2.at;rw[z,o1.no]at this;cases this
 have k1:=(o1.new hp (.tup [v1,v2])).put (q:=la) lL (.lst (vs++[.ref p]));have k2:=(o2.new hpJ (.tup [v1,v2])).set (vs++[.ref p]);have e:=zD hpJ1 (.tup [v1,v2]);have T:cU G J1:=o1.tups.trans o2.tups;refine .inr ⟨b0,(r.1++[(t1,t2)],r.2),_,_,us,vs++[.ref p],a,la,c,rfl,k1,k2,s.trans e,bG.same e g1,e _ _ g2,?_,dW.same e g4⟩;show bG _ ((r.1++[(t1,t2)]).map NC) _;rw[aU];exact bG.append (bG.same e g3) (bG.one (oE.mk2 (dW.same e (fP.tups T h1)) (dW.same e (fP.tups T h2)) zB))
theorem qu.copy{b0:List mR}{J1:Hp}{vs:List V}{la l2 p2:Addr}{c:V}(h:qu H0 G pb b0 r J J1 us vs a la c)(hl:G l2=none)(hp:upd G l2 (.lst vs) p2=none):
 Bk H0 (upd (upd (upd G l2 (.lst vs)) p2 (.tup [.ref l2,c])) pb (.lst (us++[.ref a]++[.ref p2]))) pb (b0++[r]++[r]):=by
 have hw:=h.whole;obtain⟨o1,o2,s,g1,g2,g3,g4⟩:=h;have hlJ:=o1.free hl;have k1:=o1.new hl (.lst vs);have k2:Ov (upd J l2 (.lst vs)) J l2 vs:=⟨rfl,hlJ⟩
 have hpJ:=k1.free hp;have k3:=(k1.new hp (.tup [.ref l2,c])).set (us++[.ref a]++[.ref p2]);have k4:=k2.new hpJ (.tup [.ref l2,c]);have e:=zD (k2.free hpJ) (.tup [.ref l2,c]);exact .inr ⟨b0++[r],r,_,_,us++[.ref a],vs,p2,l2,c,rfl,k3,k4,s.trans (o2.sub.trans e),bG.same e hw,zB,bG.same (o2.sub.trans e) g3,dW.same (o2.sub.trans e) g4⟩
theorem Bk.new{l2 pc p2:Addr}{v1 v2:V}{t1 t2:Tm}(o1:Ov G J pb us)(hr:iA J b us)(s:bB H0 J)(h1:fP G t1 v1)(h2:fP G t2 v2)(hl:G l2=none)(hc:upd G l2 (.lst []) pc=none)(hp:upd (upd G l2 (.lst [])) pc (.tup [v1,v2]) p2=none):
 Bk H0 (upd (upd (upd (upd G l2 (.lst [])) pc (.tup [v1,v2])) p2 (.tup [.ref l2,.ref pc])) pb (.lst (us++[.ref p2]))) pb (b++[([],(t1,t2))]):=by
 have k1:=o1.new hl (.lst []);have k2:Ov (upd J l2 (.lst [])) J l2 []:=⟨rfl,o1.free hl⟩
 have k3:=k1.new hc (.tup [v1,v2]);have k4:=k2.new (k1.free hc) (.tup [v1,v2]);have k5:=(k3.new hp (.tup [.ref l2,.ref pc])).set (us++[.ref p2]);have k6:=k4.new (k3.free hp) (.tup [.ref l2,.ref pc]);have e1:=zD (k2.free (k1.free hc)) (.tup [v1,v2]);have e2:=zD (k4.free (k3.free hp)) (.tup [.ref l2,.ref pc]);have e:=e1.trans e2;exact .inr ⟨b,([],(t1,t2)),_,_,us,[],p2,l2,.ref pc,rfl,k5,k6,s.trans e,bG.same e hr,zB,rfl,oE.mk2 (dW.same e (fP.tups o1.tups h1)) (dW.same e (fP.tups o1.tups h2)) (e2 _ _ zB)⟩
end
def ig(Pt:Tm->Prop)(r:mR):Prop:=r.1.length<=2/\∀t∈WW r,Pt t
theorem KW{k:Nat}(h1:1<=k)(h:k<=xs.length):oU xs (-(k:Int))=xs[xs.length-k]?:=by
 have e:MT xs.length (-(k:Int))=some (xs.length-k):=by
  unfold MT;rw[aH (),aL ()]
  congr 1
  lia
 unfold oU;rw[e];rfl
theorem IY{tt:TT}{tb te:TS}{D:sO}{σ:St}(h:∀N:St->Hp->Prop,(∀σ H,te D σ H->N σ H)->kf tt tb (fun _ σ H=>N σ H) D σ H):kf tt tb te D σ H:=h (te D) fun _ _ z=>z
theorem XA(h:∀r∈b,ig (Sd ts) r)(hr:ig (Sd ts) r):∀q∈b++[r],ig (Sd ts) q:=fun q hq=>by
 rcases bO.mp hq with h1 |h1
 ·exact h q h1
 ·rw[aT.mp h1];exact hr
theorem vO(us:List V)(v:V):oU (us++[v]) (-1)=some v:=by
 have :=KW (xs:=us++[v]) (k:=1) (aG _) (by simp);rw[show(-((1:Nat):Int))= -1 from rfl]at this;rw[this];simp
inductive spBk (K:W.Frag) (vs:List V) (H:Hp) (Q:VK) (E:XK):Prop
 |mk (ca ta:Addr) (cs:List Int) (m:Nat) (us:List V) (ts:List Tm) (_:vs=[.ref ca,.ref ta,.int m]) (_:dL K H ca (cs.map V.int)) (_:cs.length<=63) (_:m<=10) (_:H ta=some (.lst us)) (_:dQ H ts us) (_:ts.length=7) (_:∀p bs b H',bB H H'->H' p=some (.lst bs)->iA H' b bs->b.length<=m->(∀r∈b,ig (Sd ts) r)->Q (.ref p) H')
theorem d8(bi:Bi mg)(h_u:gR P w K mg base 1 "_law_side" ["cell","terms"] OX)(F:gS K "_law_book" "_law_book" s_x f fd):dI P w K mg base fY 2 f fd ["cells","terms","most"] (spBk K):=by
 refine F.okz rQ fun fL A outer s H vs Q E hr h=>?_
 obtain⟨ca,ta,cs,m,us,ts,rfl,hS,hl,hm,hta,hts,h7,q⟩:=h;have hul:=dQ.len hts;rw[h7]at hul;have lL:ts≠[]:=fun z=>by rw[z]at h7;cases h7
 refine⟨_,(zF (yD 3 rQ.nd (yV zC)) (zF (yD 4 rQ.nd (zM yH (pv 1) zE)) (zF (yM bM rfl (yG (pv 0)) (yF 5 rQ.nd) (zF (yD 6 rQ.nd (zL yN (pv 5) (zL kZ zE zE))) (zF (yD 7 rQ.nd (zL yK (zL yN (zL xQ (zL yK (pv 6) zE) zE) zE) zE)) (zF (yD 8 rQ.nd (zI h_u hr.m rfl (zA (pv 7) (zA (pv 1) zC)))) (zF (yD 9 rQ.nd (zI h_u hr.m rfl (zA (zL yK (pv 7) zE) (zA (pv 1) zC)))) (zF (yI (zQ ZM (zL yN (pv 6) zE) zE (zU _)) (zG (yD 8 rQ.nd (pv 4))) zW) (zG (yI (PW.pt (uT (zQ xG (zL yN (pv 6) zE) zE (zU _)) (uT (zQ QA (yC yJ rfl bi.len yX (zA (pv 3) zC)) zE (zU _)) (vS (zQ ZM (yC yJ rfl bi.len yX (zA (zM zP (zM yH (pv 3) (wE uM zE)) zE) zC)) zE (zU _)))))) (zG (zX (jS bW cT cS yZ (zM zP (zM yH (pv 3) (wE uM zE)) zE) (zA (zN (zA (pv 9) (zA (pv 8) zC))) zC)))) (zG (yI (PW.pt (uT (zQ xG (zL yN (pv 6) zE) zE (zU _)) (uT (zQ QA (yC yJ rfl bi.len yX (zA (pv 3) zC)) zE (zU _)) (vS (zQ ZM (yC yJ rfl bi.len yX (zA (pv 3) zC)) (pv 2) (zU _)))))) (zG (zX (jS bW cT cS yZ (pv 3) (zA (zN (zA (xO kO rfl bi.list VI (zA (zM zP (zM yH (pv 3) (wE uM zE)) zE) zC)) (zA (zM zP (zM yH (pv 3) (wE uM zE)) zE) zC))) zC)))) (zG (yI (zQ ZM (yC yJ rfl bi.len yX (zA (pv 3) zC)) (pv 2) (zU _)) (zF (zX (jS bW cT cS yZ (pv 3) (zA (zN (zA (yV zC) (zA (zN (zA (pv 8) (zA (pv 9) zC))) zC))) zC))) (zG (yD 4 rQ.nd (pv 9)))) zW)))))))))))) (zG (zO (pv 3)))))),?_⟩;refine zH fun N hN=>?_
 dsimp![];refine⟨small (),fun pb hpb=>hN _ _ ?_⟩;clear hN;have bk0:Bk H (upd H pb (.lst [])) pb []:=.inl ⟨rfl,H,Ov.mk0 hpb,bB.refl _⟩;generalize upd H pb (.lst [])=G0 at bk0⊢;clear hpb;refine zH fun N hN=>?_
 dsimp![];obtain⟨u2,hu2⟩:∃u,us[2]?=some u:=⟨us[2]'(),aA ()⟩
 obtain⟨t2,ht2,htt2⟩:=jC (f:=HA) hts hu2;refine⟨_,dL.of (bk0.sub _ _ hta),u2,yE (j:=2) hu2,hN _ _ ?_⟩;clear hN;refine yB (fun σ G=>∃(b:List mR)(o4 o5 o6 o7 o8 o9:Option V),Bk H G pb b/\b.length<=m/\(∀r∈b,ig (Sd ts) r)/\σ=[some (V.ref ca),some (V.ref ta),some (V.int m),some (V.ref pb),o4,o5,o6,o7,o8,o9]) (fun N hN=>?_) (fun σ G h=>?_)
 ·dsimp![];refine⟨⟨_,bB.seq bk0.sub hS⟩,?_⟩;refine jD (xs:=cs.map V.int) (fun i σ G=>∃(b:List mR)(tl:Tm)(vl:V)(o5 o6 o7 o8 o9:Option V),Bk H G pb b/\b.length<=m/\(∀r∈b,ig (Sd ts) r)/\fP G tl vl/\Sd ts tl/\σ=[some (V.ref ca),some (V.ref ta),some (V.int m),some (V.ref pb),some vl,o5,o6,o7,o8,o9]) ⟨[],t2,u2,_,_,_,_,_,bk0,cG _,(fun r hr=>by cases hr),dW.same bk0.sub htt2,.inl (aX ht2),rfl⟩ (fun i σ G _ h=>by obtain⟨_,_,_,_,_,_,_,_,bk,_⟩:=h;exact bB.seq bk.sub hS) (fun i x σ G hx h M hM=>?_) (fun σ G h=>?_)
  ·obtain⟨b,tl,vl,o5,o6,o7,o8,o9,bk,hbm,hbr,htl,hsl,rfl⟩:=h;rw[aK]at hx;obtain⟨raw,_,rfl⟩:=aO.mp hx;refine zH fun N hN=>?_
   dsimp![];refine⟨⟨(),(),()⟩,p1015,hN _ _ ?_⟩;clear hN;generalize raw % 10^Int.toNat 15=cell;refine zH fun N hN=>?_
   dsimp![];refine⟨⟨(),()⟩,.inr ⟨(),()⟩,(),⟨(),()⟩,hN _ _ ?_⟩;clear hN;generalize cell/8*39373 % 2147483629/16=low;refine zH fun N hN=>?_
   dsimp![];refine⟨low,ta,us,ts,rfl,bk.sub _ _ hta,bG.same bk.sub hts,lL,(),fun v1 t1 G1 s1 mB sd1=>hN _ _ ?_⟩;clear hN;replace bk:=bk.ext s1;replace htl:=dW.same s1 htl;refine zH fun N hN=>?_
   dsimp![];refine⟨⟨(),()⟩,low/64,ta,us,ts,rfl,bk.sub _ _ hta,bG.same bk.sub hts,lL,(),fun v2 t2 G2 s2 ht2 sd2=>hN _ _ ?_⟩;clear hN;replace bk:=bk.ext s2;replace htl:=dW.same s2 htl;replace mB:=dW.same s2 mB;clear s1 s2;refine yB (fun σ G'=>G'=G2/\∃(v1:V)(t1:Tm),fP G2 t1 v1/\Sd ts t1/\σ=[some (V.ref ca),some (V.ref ta),some (V.int m),some (V.ref pb),some vl,some (V.int raw),some (V.int cell),some (V.int low),some v1,some v2]) (fun N hN=>?_) (fun σ G' h=>?_)
   ·dsimp![];refine⟨(),?_⟩;by_cases c1:cell % 8<4
    ·rw[aL c1];exact hN _ _ ⟨rfl,vl,tl,htl,hsl,rfl⟩
    ·rw[aH c1];exact hN _ _ ⟨rfl,v1,t1,mB,sd1,rfl⟩
   obtain⟨rfl,v1,t1,mB,sd1,rfl⟩:=h;obtain⟨J,U,ov,hUl,hrs,sJ⟩:=bk.at;have stay:M [some (V.ref ca),some (V.ref ta),some (V.int m),some (V.ref pb),some vl,some (V.int raw),some (V.int cell),some (V.int low),some v1,some v2] G':=hM _ _ ⟨b,tl,vl,_,_,_,_,_,bk,hbm,hbr,htl,hsl,rfl⟩;have lb:im K (V.ref pb) G' U.length:=.inl ⟨_,dL.of ov.at,rfl⟩;refine IY fun E1 hE1=>?_
   have e1:=hE1 [some (V.ref ca),some (V.ref ta),some (V.int m),some (V.ref pb),some vl,some (V.int raw),some (V.int cell),some (V.int low),some v1,some v2] G' (by
    clear hE1;refine IY fun E2 hE2=>?_
    have e2:=hE2 [some (V.ref ca),some (V.ref ta),some (V.int m),some (V.ref pb),some vl,some (V.int raw),some (V.int cell),some (V.int low),some v1,some v2] G' (by
     clear hE2;dsimp![];refine⟨U.length,lb,?_⟩;by_cases hm2:((U.length:Nat):Int)<m
     ·rw[aL hm2];refine⟨.inl ⟨rfl,_,dL.of ov.at⟩,small (),fun l2 hl=>⟨small (),fun pc hc=>⟨small (),fun p2 hp=>?_⟩⟩⟩;have ov3:=((ov.new hl (.lst [])).new hc (.tup [v1,v2])).new hp (.tup [V.ref l2,V.ref pc]);have nb:=Bk.new ov hrs sJ mB ht2 hl hc hp;have e:=(zD hl (.lst [])).trans ((zD hc (.tup [v1,v2])).trans (zD hp (.tup [V.ref l2,V.ref pc])));refine⟨U,ov3.at,small (),hM _ _ ⟨_,t2,v2,_,_,_,_,_,nb,by rw[aI,cC];lia,XA hbr ⟨cG _,fun t ht=>?_⟩,?_,sd2,rfl⟩⟩
      ·have ht:t∈[t1,t2]:=ht;rcases bJ.mp ht with rfl |ht
       ·exact sd1
       ·rw[aT.mp ht];exact sd2
      ·exact fP.tups ((cU.refl _).upd_lst ov3.at) (dW.same e ht2)
     ·rw[aH hm2];exact stay)
    clear hE2;dsimp![];refine⟨(),rfl,?_⟩;by_cases c6:cell % 8=6
    ·rw[aL c6];refine⟨U.length,lb,?_⟩;rcases bk with⟨rfl,_⟩ |⟨b0,r,J0,J1,us0,vs0,a0,la,cc,rfl,hbl⟩
     ·have hU0:U.length=0:=hUl;rw[aH ()];exact e2
     ·have hU:U.length=b0.length+1:=by rw[hUl,aI];rfl
      rw[aL ()];refine⟨U.length,lb,?_⟩;by_cases cm:((U.length:Nat):Int)<(m:Int)
      ·rw[aL cm];have o1:=hbl.1;have o2:=hbl.2.1;have ka:G' a0=some (.tup [.ref la,cc]):=(o2.sub.trans o1.sub) _ _ hbl.2.2.2.2.1;have kl:G' la=some (.lst vs0):=o1.sub _ _ o2.at;refine⟨.inl ⟨rfl,_,dL.of ov.at⟩,_,dL.of o1.at,_,vO _ _,a0,rfl,_,dN.of ka,_,mK,la,rfl,vs0,.inl (dL.of kl),fun l2 hl=>?_⟩;have e1:=zD hl (.lst vs0);refine⟨_,dL.of (e1 _ _ o1.at),_,vO _ _,a0,rfl,_,dN.of (e1 _ _ ka),_,rG,small (),fun p2 hp=>?_⟩;have e2:=zD hp (.tup [V.ref l2,cc]);refine⟨_,e2 _ _ (e1 _ _ o1.at),small (by rw[iA.length hbl.whole];lia),hM _ _ ⟨_,tl,vl,_,_,_,_,_,hbl.copy hl hp,by rw[aI,aI,cC];lia,XA hbr (hbr r (by simp)),fP.tups ((cU.refl _).upd_lst (e2 _ _ (e1 _ _ o1.at))) (dW.same (e1.trans e2) htl),hsl,rfl⟩⟩
      ·rw[aH cm];exact e2
    ·rw[aH c6];exact e2)
   clear hE1;dsimp![];refine⟨(),rfl,?_⟩;by_cases c7:cell % 8=7
   ·rw[aL c7];refine⟨U.length,lb,?_⟩;rcases bk with⟨rfl,_⟩ |⟨b0,r,J0,J1,us0,vs0,a0,la,cc,rfl,hbl⟩
    ·have hU0:U.length=0:=hUl;rw[aH ()];exact e1
    ·have hU:U.length=b0.length+1:=by rw[hUl,aI];rfl
     rw[aL ()];have o1:=hbl.1;have o2:=hbl.2.1;have ka:G' a0=some (.tup [.ref la,cc]):=(o2.sub.trans o1.sub) _ _ hbl.2.2.2.2.1;have kl:G' la=some (.lst vs0):=o1.sub _ _ o2.at;refine⟨_,dL.of o1.at,_,vO _ _,a0,rfl,_,dN.of ka,_,mK,vs0.length,.inl ⟨_,dL.of kl,rfl⟩,?_⟩;have hpl:vs0.length=r.1.length:=by have :=bG.length hbl.2.2.2.2.2.1;rwa[aE]at this
     by_cases c2:((vs0.length:Nat):Int)<2
     ·rw[aL c2];refine⟨_,dL.of o1.at,_,vO _ _,a0,rfl,_,dN.of ka,_,mK,.inl ⟨rfl,_,dL.of kl⟩,small (),fun p hp=>?_⟩;have hrr:=hbr r (by simp);refine⟨la,rfl,vs0,zD hp _ _ _ kl,small (),hM _ _ ⟨_,tl,vl,_,_,_,_,_,hbl.prem hp ht2 mB,by rw[aI]at hbm⊢;exact hbm,XA (fun q hq=>hbr q (cK _ hq)) ⟨?_,fun t ht=>?_⟩,fP.tups ((cU.refl _).upd_lst (zD hp _ _ _ kl)) (dW.same (zD hp _) htl),hsl,rfl⟩⟩
      ·show(r.1++[(t2,t1)]).length<=2;rw[aI,cC];lia
      ·have ht:t∈uN (r.1++[(t2,t1)])++pE r.2:=ht;rcases bO.mp ht with ht |ht
       ·have ht:t∈(r.1++[(t2,t1)]).flatMap pE:=ht;rw[hV]at ht;rcases bO.mp ht with ht |ht
        ·exact hrr.2 t (cK _ ht)
        ·have ht:t∈[t2,t1]:=by simpa[pE]using ht
         rcases bJ.mp ht with rfl |ht
         ·exact sd2
         ·rw[aT.mp ht];exact sd1
       ·exact hrr.2 t (aZ _ ht)
     ·rw[aH c2];exact e1
   ·rw[aH c7];exact e1
  ·obtain⟨b,tl,vl,o5,o6,o7,o8,o9,bk,hbm,hbr,htl,hsl,rfl⟩:=h;exact hN _ _ ⟨b,_,_,_,_,_,_,bk,hbm,hbr,rfl⟩
 obtain⟨b,o4,o5,o6,o7,o8,o9,bk,hbm,hbr,rfl⟩:=h;dsimp![];obtain⟨J,bs,ov,_,hb,sJ⟩:=bk.at;exact q pb bs b _ bk.sub ov.at (bG.same ov.sub hb) hbm hbr
abbrev s_s:Stmt:=top 66
theorem EC:bZ ["script","terms","book","cell","low","one","other"] ["script","terms","book"] (zK s_s):=by rfl'
abbrev s_I:Stmt:=top 67
theorem PJ:bZ ["cell","terms","low","s","t","way"] ["cell","terms"] (zK s_I):=by rfl'
def Sa(ts:List Tm)(t:Tm):Prop:=Sd ts t\/∃u,Sd ts u/\t=.node "not" [u]
inductive spSy (K:W.Frag) (vs:List V) (H:Hp) (Q:VK) (E:XK):Prop
 |mk (a ta ba:Addr) (ns:List Int) (us bs:List V) (ts:List Tm) (b:List mR) (_:vs=[.ref a,.ref ta,.ref ba]) (_:dL K H a (ns.map V.int)) (_:H ta=some (.lst us)) (_:dQ H ts us) (_:ts.length=7) (_:H ba=some (.lst bs)) (_:iA H b bs) (_:b.length<=10) (_:(∀r∈b,ig (Sd ts) r)) (_:∀v s H',bB H H'->oE H' s v->Sa ts s.1->Sa ts s.2->Q v H')
def Idl(ts:List Tm)(r:mR):Prop:=∃s t,Sd ts s/\Sd ts t/\(r=([],(.node "both" [s,t],s))\/r=([],(s,.node "either" [t,s]))\/r=([],(.node "both" [s,.node "not" [s]],t))\/r=([],(.node "not" [.node "either" [s,t]],.node "not" [s]))\/r=([(t,s)],(s,.node "not" [.node "not" [s]])))
inductive spId (vs:List V) (H:Hp) (Q:VK) (E:XK):Prop
 |mk (c:Int) (ta:Addr) (us:List V) (ts:List Tm) (_:vs=[.int c,.ref ta]) (_:H ta=some (.lst us)) (_:dQ H ts us) (_:ts.length=7) (_:∀p l c us r H',bB H H'->H' p=some (.tup [.ref l,c])->H' l=some (.lst us)->H l=none->pO H' r.1 us->oE H' r.2 c->Idl ts r->Q (.ref p) H')
theorem fP.not1{t:Tm}(h:fP H t v)(hp:H p=some (.tup [.str "not",v])):fP H (.node "not" [t]) (.ref p):=⟨p,_,rfl,hp,_,_,rfl,rfl,_,_,rfl,h,rfl⟩
theorem fP.two{w:Str}{t u:Tm}{x:V}(h:fP H t v)(g:fP H u x)(hp:H p=some (.tup [.str w,v,x])):fP H (.node w [t,u]) (.ref p):=⟨p,_,rfl,hp,_,_,rfl,rfl,_,_,rfl,h,_,_,rfl,g,rfl⟩
theorem WI.mk2{ps:List (Tm×Tm)}{l:Addr}(hl:H l=some (.lst us))(h:pO H ps us)(hs:oE H s v)(hp:H p=some (.tup [.ref l,v])):WI H (ps,s) (.ref p):=⟨p,_,rfl,hp,_,_,rfl,⟨l,us,rfl,hl,h⟩,_,_,rfl,hs,rfl⟩
theorem MF(bi:Bi mg)(h_f:gR P w K mg base 1 "_law_cell_at" ["script","k"] (uQ K))(h_u:gR P w K mg base 1 "_law_side" ["cell","terms"] OX)(F:gS K "_law_saying" "_law_saying" s_s f fd):dI P w K mg base fY 2 f fd ["script","terms","book"] (spSy K):=by
 refine F.okz EC fun fL A outer s H vs Q E hr h=>?_
 obtain⟨a,ta,ba,ns,us,bs,ts,b,rfl,hS,hta,hts,h7,hba,hb,hbl,hbr,q⟩:=h;have lL:ts≠[]:=fun z=>by rw[z]at h7;cases h7
 have hbs:=iA.length hb;refine⟨_,(zF (yD 3 EC.nd (zL yN (zI h_f hr.m rfl (zA (pv 0) (zA zE zC))) (zL kZ zE zE))) (zF (yD 4 EC.nd (zL yK (zL yN (zL xQ (zL yK (pv 3) zE) zE) zE) zE)) (zF (yD 5 EC.nd (zI h_u hr.m rfl (zA (pv 4) (zA (pv 1) zC)))) (zF (yD 6 EC.nd (zI h_u hr.m rfl (zA (zL yK (pv 4) zE) (zA (pv 1) zC)))) (zF (yI (PW.pt (uT (zQ QA (yC yJ rfl bi.len yX (zA (pv 2) zC)) zE (zU _)) (vS (zQ QA (zL yN (pv 3) zE) zE (zU _))))) (zG (yD 5 EC.nd (zM zP (zM zP (zM yH (pv 2) zE) zE) zE))) zW) (zF (yI (PW.pt (uT (zQ QA (yC yJ rfl bi.len yX (zA (pv 2) zC)) zE (zU _)) (vS (zQ QA (zL yN (pv 3) zE) zE (zU _))))) (zG (yD 6 EC.nd (zM zP (zM zP (zM yH (pv 2) (wE uM zE)) zE) zE))) zW) (zF (yI (zQ xG (zL yN (zL yK (pv 4) zE) zE) zE (zU _)) (zG (zO (zN (zA (zN (zA zR (zA (pv 6) zC))) (zA (zN (zA zR (zA (pv 5) zC))) zC))))) zW) (zG (zO (zN (zA (pv 5) (zA (pv 6) zC)))))))))))),?_⟩;refine zH fun N hN=>?_
 dsimp![];refine⟨a,ns,1,rfl,hS,⟨⟨(),(),()⟩,_,rfl,AT,hN _ _ ?_⟩⟩;clear hN;generalize ns.getD 1 0 % 10^Int.toNat 12=cell;refine zH fun N hN=>?_
 dsimp![];refine⟨⟨(),()⟩,.inr ⟨(),()⟩,(),⟨(),()⟩,hN _ _ ?_⟩;clear hN;generalize cell/4*45991 % 2147483587/16=low;refine zH fun N hN=>?_
 dsimp![];refine⟨low,ta,us,ts,rfl,hta,hts,lL,(),fun v1 t1 H1 s1 mB sd1=>hN _ _ ?_⟩;clear hN;refine zH fun N hN=>?_
 dsimp![];refine⟨⟨(),()⟩,low/64,ta,us,ts,rfl,s1 _ _ hta,bG.same s1 hts,lL,(),fun v2 t2 H2 s2 ht2 sd2=>hN _ _ ?_⟩;clear hN;replace mB:=dW.same s2 mB;replace s1:=s1.trans s2;clear s2;have rule:∀(k:Nat)(u:V),bs[k]?=some u->∃(x c:Addr)(lv w1 w2:V)(r:mR),u=.ref x/\H2 x=some (.tup [lv,.ref c])/\H2 c=some (.tup [w1,w2])/\fP H2 r.2.1 w1/\fP H2 r.2.2 w2/\ig (Sd ts) r:=fun k u hu=>by
  obtain⟨r,hr1,hr2⟩:=iA.getV hb hu;obtain⟨x,l,c',iH,e1,k1,_,_,k4⟩:=hr2.out;obtain⟨c,w1,w2,e2,k5,k6,k7⟩:=k4.out;subst e1 e2;exact⟨x,c,.ref l,w1,w2,r,rfl,s1 _ _ k1,s1 _ _ k5,dW.same s1 k6,dW.same s1 k7,hbr r (aX hr1)⟩
 refine yB (fun σ G=>G=H2/\∃(v1:V)(t1:Tm),fP H2 t1 v1/\Sd ts t1/\σ=[some (V.ref a),some (V.ref ta),some (V.ref ba),some (V.int cell),some (V.int low),some v1,some v2]) (fun N hN=>?_) (fun σ G h=>?_)
 ·dsimp![];have keep:=hN _ _ ⟨rfl,v1,t1,mB,sd1,rfl⟩;refine⟨bs.length,.inl ⟨_,dL.of (s1 _ _ hba),rfl⟩,?_⟩;by_cases c0:(0:Int)<(bs.length:Int)
  ·rw[aL c0];refine⟨(),?_⟩;by_cases c1:0<cell % 4
   ·rw[aL c1];have h0:bs[0]?=some (bs[0]'()):=aA ();obtain⟨x,c,lv,w1,w2,r,e1,k1,k2,k3,k4,k5⟩:=rule 0 _ h0;exact⟨_,dL.of (s1 _ _ hba),_,yE (j:=0) h0,x,e1,_,dN.of k1,_,rG,c,rfl,_,dN.of k2,_,mK,hN _ _ ⟨rfl,w1,r.2.1,k3,k5.2 _ (aZ _ (by simp[pE])),rfl⟩⟩
   ·rw[aH c1];exact keep
  ·rw[aH c0];exact keep
 obtain⟨rfl,v1,t1,mB,sd1,rfl⟩:=h;refine yB (fun σ G'=>G'=G/\∃(v2:V)(t2:Tm),fP G t2 v2/\Sd ts t2/\σ=[some (V.ref a),some (V.ref ta),some (V.ref ba),some (V.int cell),some (V.int low),some v1,some v2]) (fun N hN=>?_) (fun σ G' h=>?_)
 ·dsimp![];have keep:=hN _ _ ⟨rfl,v2,t2,ht2,sd2,rfl⟩;refine⟨bs.length,.inl ⟨_,dL.of (s1 _ _ hba),rfl⟩,?_⟩;by_cases c0:(0:Int)<(bs.length:Int)
  ·rw[aL c0];refine⟨(),?_⟩;by_cases c1:1<cell % 4
   ·rw[aL c1];have h0:bs[bs.length-1]?=some (bs[bs.length-1]'()):=aA ();have h1:=KW (xs:=bs) (k:=1) (aG _) ();rw[h0]at h1;obtain⟨x,c,lv,w1,w2,r,e1,k1,k2,k3,k4,k5⟩:=rule _ _ h0;exact⟨_,dL.of (s1 _ _ hba),_,h1,x,e1,_,dN.of k1,_,rG,c,rfl,_,dN.of k2,_,rG,hN _ _ ⟨rfl,w2,r.2.2,k4,k5.2 _ (aZ _ (by simp[pE])),rfl⟩⟩
   ·rw[aH c1];exact keep
  ·rw[aH c0];exact keep
 obtain⟨rfl,v2,t2,ht2,sd2,rfl⟩:=h;refine zH fun N hN=>?_
 dsimp![];refine⟨⟨(),()⟩,(),rfl,?_⟩;by_cases c1:low/4096 % 2=1
 ·rw[aL c1];refine⟨small (),fun p hp=>⟨small (),fun p1 hp1=>⟨small (),fun p2 mU=>?_⟩⟩⟩;have e1:=zD hp (.tup [V.str "not",v2]);have e2:=zD hp1 (.tup [V.str "not",v1]);have e3:=zD mU (.tup [V.ref p,V.ref p1]);have n1:=fP.not1 (dW.same (e1.trans (e2.trans e3)) ht2) ((e2.trans e3) _ _ (zB (H:=G') (a:=p)));have n2:=fP.not1 (dW.same (e1.trans (e2.trans e3)) mB) (e3 _ _ (zB (a:=p1)));exact q _ (_,_) _ (s1.trans (e1.trans (e2.trans e3))) (oE.mk2 n1 n2 zB) (.inr ⟨t2,sd2,rfl⟩) (.inr ⟨t1,sd1,rfl⟩)
 ·rw[aH c1];refine hN _ _ ?_;clear hN;dsimp![];refine⟨small (),fun p hp=>?_⟩;have e:=zD hp (.tup [v1,v2]);exact q _ (t1,t2) _ (s1.trans e) (oE.mk2 (dW.same e mB) (dW.same e ht2) zB) (.inl sd1) (.inl sd2)
theorem dw(bi:Bi mg)(h_u:gR P w K mg base 1 "_law_side" ["cell","terms"] OX)(F:gS K "_law_idle" "_law_idle" s_I f fd):dI P w K mg base fY 2 f fd ["cell","terms"] spId:=by
 refine F.okz PJ fun fL A outer s H vs Q E hr h=>?_
 obtain⟨c,ta,us,ts,rfl,hta,hts,h7,q⟩:=h;have lL:ts≠[]:=fun z=>by rw[z]at h7;cases h7
 refine⟨_,(zF (yD 2 PJ.nd (zL yK (zL yN (zL xQ (pv 0) zE) zE) zE)) (zF (yD 3 PJ.nd (zI h_u hr.m rfl (zA (pv 2) (zA (pv 1) zC)))) (zF (yD 4 PJ.nd (zI h_u hr.m rfl (zA (zL yK (pv 2) zE) (zA (pv 1) zC)))) (zF (yD 5 PJ.nd (zL yN (zL yK (pv 2) zE) zE)) (zF (yI (zQ xG (pv 5) zE (zU _)) (zG (zO (zN (zA (yV zC) (zA (zN (zA (zN (zA zR (zA (pv 3) (zA (pv 4) zC)))) (zA (pv 3) zC))) zC))))) zW) (zF (yI (zQ xG (pv 5) zE (zU _)) (zG (zO (zN (zA (yV zC) (zA (zN (zA (pv 3) (zA (zN (zA zR (zA (pv 4) (zA (pv 3) zC)))) zC))) zC))))) zW) (zF (yI (zQ xG (pv 5) zE (zU _)) (zG (zO (zN (zA (yV zC) (zA (zN (zA (zN (zA zR (zA (pv 3) (zA (zN (zA zR (zA (pv 3) zC))) zC)))) (zA (pv 4) zC))) zC))))) zW) (zF (yI (zQ xG (pv 5) zE (zU _)) (zG (zO (zN (zA (yV zC) (zA (zN (zA (zN (zA zR (zA (zN (zA zR (zA (pv 3) (zA (pv 4) zC)))) zC))) (zA (zN (zA zR (zA (pv 3) zC))) zC))) zC))))) zW) (zG (zO (zN (zA (yV (zA (zN (zA (pv 4) (zA (pv 3) zC))) zC)) (zA (zN (zA (pv 3) (zA (zN (zA zR (zA (zN (zA zR (zA (pv 3) zC))) zC))) zC))) zC))))))))))))),?_⟩;refine zH fun N hN=>?_
 dsimp![];refine⟨.inr ⟨(),()⟩,(),⟨(),()⟩,hN _ _ ?_⟩;clear hN;generalize c*48271 % 2147483647/16=low;refine zH fun N hN=>?_
 dsimp![];refine⟨low,ta,us,ts,rfl,hta,hts,lL,(),fun v1 t1 H1 s1 mB sd1=>hN _ _ ?_⟩;clear hN;refine zH fun N hN=>?_
 dsimp![];refine⟨⟨(),()⟩,low/64,ta,us,ts,rfl,s1 _ _ hta,bG.same s1 hts,lL,(),fun v2 t2 H2 s2 ht2 sd2=>hN _ _ ?_⟩;clear hN;replace mB:=dW.same s2 mB;replace s1:=s1.trans s2;clear s2;refine zH fun N hN=>?_
 dsimp![];refine⟨⟨(),()⟩,(),hN _ _ ?_⟩;clear hN;generalize low/4096 % 5=way;have id:∀{r:mR},(r=([],(.node "both" [t1,t2],t1))\/r=([],(t1,.node "either" [t2,t1]))\/r=([],(.node "both" [t1,.node "not" [t1]],t2))\/r=([],(.node "not" [.node "either" [t1,t2]],.node "not" [t1]))\/r=([(t2,t1)],(t1,.node "not" [.node "not" [t1]])))->Idl ts r:=fun h=>⟨t1,t2,sd1,sd2,h⟩
 refine zH fun N hN=>?_
 dsimp![];refine⟨rfl,?_⟩;by_cases w0:way=0
 ·rw[aL w0];refine⟨small (),fun p hp=>⟨small (),fun p1 h1=>⟨small (),fun p2 h2=>⟨small (),fun p3 h3=>?_⟩⟩⟩⟩;have e0:=zD hp (.lst []);have e1:=zD h1 (.tup [V.str "both",v1,v2]);have e2:=zD h2 (.tup [V.ref p1,v1]);have e3:=zD h3 (.tup [V.ref p,V.ref p2]);have eA:=e0.trans (e1.trans (e2.trans e3));have b1:=fP.two (dW.same eA mB) (dW.same eA ht2) ((e2.trans e3) _ _ (zB (a:=p1)));exact q _ _ _ _ ([],(_,_)) _ (s1.trans eA) zB ((e1.trans (e2.trans e3)) _ _ (zB (a:=p))) (s1.free hp) rfl (oE.mk2 b1 (dW.same eA mB) (e3 _ _ (zB (a:=p2)))) (id (.inl rfl))
 rw[aH w0];refine hN _ _ ?_;clear hN;refine zH fun N hN=>?_
 dsimp![];refine⟨rfl,?_⟩;by_cases w1:way=1
 ·rw[aL w1];refine⟨small (),fun p hp=>⟨small (),fun p1 h1=>⟨small (),fun p2 h2=>⟨small (),fun p3 h3=>?_⟩⟩⟩⟩;have e0:=zD hp (.lst []);have e1:=zD h1 (.tup [V.str "either",v2,v1]);have e2:=zD h2 (.tup [v1,V.ref p1]);have e3:=zD h3 (.tup [V.ref p,V.ref p2]);have eA:=e0.trans (e1.trans (e2.trans e3));have b1:=fP.two (dW.same eA ht2) (dW.same eA mB) ((e2.trans e3) _ _ (zB (a:=p1)));exact q _ _ _ _ ([],(_,_)) _ (s1.trans eA) zB ((e1.trans (e2.trans e3)) _ _ (zB (a:=p))) (s1.free hp) rfl (oE.mk2 (dW.same eA mB) b1 (e3 _ _ (zB (a:=p2)))) (id (.inr (.inl rfl)))
 rw[aH w1];refine hN _ _ ?_;clear hN;refine zH fun N hN=>?_
 dsimp![];refine⟨rfl,?_⟩;by_cases w2:way=2
 ·rw[aL w2];refine⟨small (),fun p hp=>⟨small (),fun p0 h0=>⟨small (),fun p1 h1=>⟨small (),fun p2 h2=>⟨small (),fun p3 h3=>?_⟩⟩⟩⟩⟩;have e0:=zD hp (.lst []);have e00:=zD h0 (.tup [V.str "not",v1]);have e1:=zD h1 (.tup [V.str "both",v1,V.ref p0]);have e2:=zD h2 (.tup [V.ref p1,v2]);have e3:=zD h3 (.tup [V.ref p,V.ref p2]);have eA:=e0.trans (e00.trans (e1.trans (e2.trans e3)));have b0:=fP.not1 (dW.same eA mB) ((e1.trans (e2.trans e3)) _ _ (zB (a:=p0)));have b1:=fP.two (dW.same eA mB) b0 ((e2.trans e3) _ _ (zB (a:=p1)));exact q _ _ _ _ ([],(_,_)) _ (s1.trans eA) zB ((e00.trans (e1.trans (e2.trans e3))) _ _ (zB (a:=p))) (s1.free hp) rfl (oE.mk2 b1 (dW.same eA ht2) (e3 _ _ (zB (a:=p2)))) (id (.inr (.inr (.inl rfl))))
 rw[aH w2];refine hN _ _ ?_;clear hN;refine zH fun N hN=>?_
 dsimp![];refine⟨rfl,?_⟩;by_cases w3:way=3
 ·rw[aL w3];refine⟨small (),fun p hp=>⟨small (),fun p0 h0=>⟨small (),fun p1 h1=>⟨small (),fun p2 h2=>⟨small (),fun p3 h3=>⟨small (),fun p4 h4=>?_⟩⟩⟩⟩⟩⟩;have e0:=zD hp (.lst []);have e00:=zD h0 (.tup [V.str "either",v1,v2]);have e1:=zD h1 (.tup [V.str "not",V.ref p0]);have e2:=zD h2 (.tup [V.str "not",v1]);have e3:=zD h3 (.tup [V.ref p1,V.ref p2]);have e4:=zD h4 (.tup [V.ref p,V.ref p3]);have eA:=e0.trans (e00.trans (e1.trans (e2.trans (e3.trans e4))));have b0:=fP.two (dW.same eA mB) (dW.same eA ht2) ((e1.trans (e2.trans (e3.trans e4))) _ _ (zB (a:=p0)));have b1:=fP.not1 b0 ((e2.trans (e3.trans e4)) _ _ (zB (a:=p1)));have b2:=fP.not1 (dW.same eA mB) ((e3.trans e4) _ _ (zB (a:=p2)));exact q _ _ _ _ ([],(_,_)) _ (s1.trans eA) zB ((e00.trans (e1.trans (e2.trans (e3.trans e4)))) _ _ (zB (a:=p))) (s1.free hp) rfl (oE.mk2 b1 b2 (e4 _ _ (zB (a:=p3)))) (id (.inr (.inr (.inr (.inl rfl)))))
 rw[aH w3];refine hN _ _ ?_;clear hN;dsimp![];refine⟨small (),fun p hp=>⟨small (),fun p0 h0=>⟨small (),fun p1 h1=>⟨small (),fun p2 h2=>⟨small (),fun p3 h3=>⟨small (),fun p4 h4=>?_⟩⟩⟩⟩⟩⟩;have e0:=zD hp (.tup [v2,v1]);have e00:=zD h0 (.lst [V.ref p]);have e1:=zD h1 (.tup [V.str "not",v1]);have e2:=zD h2 (.tup [V.str "not",V.ref p1]);have e3:=zD h3 (.tup [v1,V.ref p2]);have e4:=zD h4 (.tup [V.ref p0,V.ref p3]);have eA:=e0.trans (e00.trans (e1.trans (e2.trans (e3.trans e4))));have b0:=oE.mk2 (dW.same eA ht2) (dW.same eA mB) ((e00.trans (e1.trans (e2.trans (e3.trans e4)))) _ _ (zB (a:=p)));have b1:=fP.not1 (dW.same eA mB) ((e2.trans (e3.trans e4)) _ _ (zB (a:=p1)));have b2:=fP.not1 b1 ((e3.trans e4) _ _ (zB (a:=p2)));exact q _ _ _ _ ([(t2,t1)],(_,_)) _ (s1.trans eA) zB ((e1.trans (e2.trans (e3.trans e4))) _ _ (zB (a:=p0))) ((s1.trans e0).free h0) ⟨_,_,rfl,b0,rfl⟩ (oE.mk2 (dW.same eA mB) b2 (e4 _ _ (zB (a:=p3)))) (id (.inr (.inr (.inr (.inr rfl)))))
abbrev b7:Stmt:=top 68
theorem sI:bZ ["script","terms","book","saying","draw","more","k","cell","first"] ["script"] (zK b7):=by rfl'
section
variable {m:Nat}
theorem tJ(s t:Tm)(a:Nat):a∈val m ps S (.node "both" [s,t])↔a<m/\a∈val m ps S s/\a∈val m ps S t:=by
 rw[val,qB,aH (),aH (),aH (),aL rfl,jQ,YR];simp
theorem wU(s:Tm)(a:Nat):a∈val m ps S (.node "not" [s])↔pp m ps (· ∈val m ps S s) a:=by
 rw[val,qB,aH (),aH (),aL rfl,jQ];exact lX
theorem YU(s t:Tm)(a:Nat):a∈val m ps S (.node "either" [s,t])↔pp m ps (fun b=>b<m/\pp m ps (· ∈val m ps S s) b/\pp m ps (· ∈val m ps S t) b) a:=by
 rw[val,qB,aH (),aH (),aH (),aH (),jQ,lX];refine xR (fun b=>?_) a;rw[YR];simp[lX]
theorem Fw.vlt(f:Fw m ps S){t:Tm}{a:Nat}(h:a∈val m ps S t):a<m:=QT (fun x i hi=>(pZ.mp ((f.full x i).mp hi)).1) t h
theorem fu(f:Fw m ps S)(h:Idl ts r):Hr m ps S r:=by
 obtain⟨s,t,_,_,h⟩:=h;rcases h with rfl |rfl |rfl |rfl |rfl
 ·exact fun _ a ha=>((tJ s t a).mp ha).2.1
 ·exact fun _ a ha=>(YU t s a).mpr ⟨f.vlt ha,fun b hb=>by rw[vY];exact hb.2.2.2 a ha⟩
 ·intro _ a ha;obtain⟨_,h1,h2⟩:=(tJ s _ a).mp ha;have :=((wU s a).mp h2).2 a h1;rw[f.irr]at this;cases this
 ·intro _ a ha;have ha:=(wU _ a).mp ha;exact(wU s a).mpr ⟨ha.1,fun b hb=>ha.2 b ((YU s t b).mpr ⟨f.vlt hb,fun c hc=>by rw[vY];exact hc.2.1.2 b hb⟩)⟩
 ·exact fun _ a ha=>(wU _ a).mpr ⟨f.vlt ha,fun b hb=>by rw[vY];exact((wU s b).mp hb).2 a ha⟩
end
def WK(zs:List Str)(G:List Tm)(t:Tm):Prop:=(fX 20 t/\wt t<=900)/\inG zs G 21 t
def ju(zs:List Str)(G:List Tm)(r:mR):Prop:=r.1.length<=5/\∀t∈WW r,WK zs G t
section
variable {G G':List Tm}
theorem WK.mono{t:Tm}(h:WK zs G t)(hG:∀t∈G,t∈G'):WK zs G' t:=⟨h.1,xT hG h.2 (aG _)⟩
theorem ju.mono(h:ju zs G r)(hG:∀t∈G,t∈G'):ju zs G' r:=⟨h.1,fun t ht=>(h.2 t ht).mono hG⟩
def Lv(zs:List Str)(G:List Tm)(d m:Nat)(t:Tm):Prop:=fX d t/\wt t<=m/\inG zs G (d+1) t
theorem Lv.ok{t:Tm}{m:Nat}(h:Lv zs G d m t)(hd:d<=20)(hm:m<=900):WK zs G t:=⟨⟨fX.mono h.1 hd,by have :=h.2.1;lia⟩,xT (fun _ z=>z) h.2.2 ()⟩
theorem Lv.mono{t:Tm}{d' m m':Nat}(h:Lv zs G d m t)(hd:d<=d')(hm:m<=m')(hG:∀t∈G,t∈G'):Lv zs G' d' m' t:=⟨fX.mono h.1 hd,by have :=h.2.1;lia,xT hG h.2.2 ()⟩
theorem Lv.not{t:Tm}{m:Nat}(h:Lv zs G d m t):Lv zs G (d+1) (m+1) (.node "not" [t]):=by
 refine⟨?_,?_,.inr (.inl ⟨rfl,t,rfl,h.2.2⟩)⟩
 ·unfold fX;exact⟨.inr (.inr (.inl ⟨rfl,rfl⟩)),fun u hu=>by rw[aT.mp hu];exact h.1⟩
 ·have :=h.2.1;simp only[wt,mQ];lia
theorem Lv.two{w:Str}{s t:Tm}{m:Nat}(hw:w="both"\/w="either")(hs:Lv zs G d m s)(ht:Lv zs G d m t)(hG:.node w [s,t]∈G):Lv zs G (d+1) (2*m+1) (.node w [s,t]):=by
 have hf:=fit2 hw hs.1 ht.1;refine⟨hf,?_,.inr (.inr ⟨hw,hG,⟨_,hf⟩,s,t,rfl,hs.2.2,ht.2.2⟩)⟩;have h1:=hs.2.1;have h2:=ht.2.1;simp only[wt,mQ];lia
theorem Sd.lv{t:Tm}(h:Sd ts t)(hf:∀t∈ts,fX 4 t/\wt t<=13)(hG:∀t∈ts,C.inG zs G 5 t):Lv zs G 5 14 t:=⟨(h.fit hf).1,(h.fit hf).2,h.inG hG⟩
theorem PU(h:ig (Sd ts) r)(hf:∀t∈ts,fX 4 t/\wt t<=13)(hG:∀t∈ts,inG zs G 5 t):ju zs G r:=⟨by have :=h.1;lia,fun t ht=>((h.2 t ht).lv hf hG).ok () ()⟩
theorem Sa.ok{t:Tm}(h:Sa ts t)(hf:∀t∈ts,fX 4 t/\wt t<=13)(hG:∀t∈ts,inG zs G 5 t):WK zs G t:=by
 rcases h with h |⟨u,h,rfl⟩
 ·exact(h.lv hf hG).ok () ()
 ·exact((h.lv hf hG).not).ok () ()
theorem oh(h:Idl ts r)(hf:∀t∈ts,fX 4 t/\wt t<=13)(hG:∀t∈ts,inG zs G 5 t):∃g,ju zs (G++[g]) r:=by
 obtain⟨s,t,hs,ht,h⟩:=h;have up:∀{g u:Tm},Sd ts u->Lv zs (G++[g]) 6 15 u:=fun hu=>(hu.lv hf hG).mono () () fun _ z=>cK _ z
 have nt:∀{g u:Tm},Sd ts u->Lv zs (G++[g]) 6 15 (.node "not" [u]):=fun hu=>((hu.lv hf hG).not).mono () () fun _ z=>cK _ z
 have inl:∀{g:Tm},g∈G++[g]:=aZ _ (aT.mpr rfl);have two:∀{g a b:Tm},WK zs (G++[g]) a->WK zs (G++[g]) b->ju zs (G++[g]) ([],(a,b)):=fun ha hb=>⟨cG _,fun u hu=>by
  have hu:u∈[_,_]:=hu;rcases bJ.mp hu with rfl |hu
  ·exact ha
  ·rw[aT.mp hu];exact hb⟩
 rcases h with rfl |rfl |rfl |rfl |rfl
 ·exact⟨.node "both" [s,t],two ((Lv.two (.inl rfl) (up hs) (up ht) inl).ok () ()) ((up hs).ok () ())⟩
 ·exact⟨.node "either" [t,s],two ((up hs).ok () ()) ((Lv.two (.inr rfl) (up ht) (up hs) inl).ok () ())⟩
 ·exact⟨.node "both" [s,.node "not" [s]],two ((Lv.two (.inl rfl) (up hs) (nt hs) inl).ok () ()) ((up ht).ok () ())⟩
 ·exact⟨.node "either" [s,t],two ((Lv.two (.inr rfl) (up hs) (up ht) inl).not.ok () ()) ((up hs).not.ok () ())⟩
 ·refine⟨s,by show 1<=5;decide,fun u hu=>?_⟩;have hu:u∈[t,s,s,.node "not" [.node "not" [s]]]:=hu;simp only[bJ,aT,fH,or_false]at hu;rcases hu with rfl |rfl |rfl |rfl
  ·exact(up ht).ok () ()
  ·exact(up hs).ok () ()
  ·exact(up hs).ok () ()
  ·exact(nt hs).not.ok () ()
end
theorem ji{G:List Tm}(hb:b.length<=20)(hr:∀r∈b,ju zs G r)(h1:WK zs G s.1)(h2:WK zs G s.2)(hz:zs.length<=3)(hG:G.length<=20):Jb zs G b s:=by
 have all:∀t∈oV b++pE s,WK zs G t:=fun t ht=>by
  rcases bO.mp ht with ht |ht
  ·obtain⟨r,hr1,ht⟩:=mV.mp ht;exact(hr r hr1).2 t ht
  ·have ht:t∈[s.1,s.2]:=ht;rcases bJ.mp ht with rfl |ht
   ·exact h1
   ·rw[aT.mp ht];exact h2
 exact⟨hb,fun r h=>(hr r h).1,fun t ht=>(all t ht).1,fun t ht=>(all t ht).2,hz,hG⟩
theorem CG(ns:List Int)(lo hi:Option Int):∃cs:List Int,qX (ns.map V.int) lo hi=cs.map V.int/\cs.length<=ns.length:=by
 have hl:=vL (ns.map V.int) lo hi;rw[aE]at hl;refine⟨(ns.drop (HT.sIx (ns.map V.int).length 0 lo)).take (HT.sIx (ns.map V.int).length (ns.map V.int).length hi-HT.sIx (ns.map V.int).length 0 lo),?_,?_⟩
 ·unfold qX;rw[List.map_take,List.map_drop]
 ·rw[bX,fI];lia
structure Mo(zs:List Str)(G0:List Tm)(b:List mR)(i:Nat)(c:List mR):Prop where
 len:c.length=b.length+i
 ok:∃G:List Tm,G.length<=2+i/\(∀t∈G0,t∈G)/\∀r∈c,ju zs G r
 same:∀m ps S,Fw m ps S->((∀r∈b,Hr m ps S r)↔∀r∈c,Hr m ps S r)
theorem Mo.put{G0:List Tm}{c:List mR}(h:Mo zs G0 b i c)(hr:Idl ts r)(hf:∀t∈ts,fX 4 t/\wt t<=13)(hG:∀t∈ts,inG zs G0 5 t)(k:Nat):Mo zs G0 b (i+1) (c.take k++r::c.drop k):=by
 have mem:∀q,q∈c.take k++r::c.drop k↔q=r\/q∈c:=fun q=>by
  rw[bO,bJ]
  conv=>rhs;rw[←dM k c,bO]
  constructor
  ·rintro(h |h |h)
   ·exact .inr (.inl h)
   ·exact .inl h
   ·exact .inr (.inr h)
  ·rintro(h |h |h)
   ·exact .inr (.inl h)
   ·exact .inl h
   ·exact .inr (.inr h)
 obtain⟨G,g1,g2,g3⟩:=h.ok;obtain⟨g,hg⟩:=oh hr hf (fun t ht=>xT g2 (hG t ht) (aG _));refine⟨?_,⟨G++[g],by rw[aI,cC];lia,fun t ht=>cK _ (g2 t ht),fun q hq=>?_⟩,fun m ps S f=>(h.same m ps S f).trans ⟨fun z q hq=>?_,fun z q hq=>z q ((mem q).mpr (.inr hq))⟩⟩
 ·have :=dH List.length (dM k c);rw[aI]at this;rw[aI,bD];have :=h.len;lia
 ·rcases(mem q).mp hq with rfl |hq
  ·exact hg
  ·exact(g3 q hq).mono fun t ht=>cK _ ht
 ·rcases(mem q).mp hq with rfl |hq
  ·exact fu f hr
  ·exact z q hq
theorem tW(e:cU H H')(h:oE H s v):oE H' s v:=by
 obtain⟨a,v1,v2,rfl,h1,h2,h3⟩:=h.out;exact oE.mk2 (fP.tups e h2) (fP.tups e h3) (e _ _ h1)
theorem JU{H H':Hp}(e:cU H H'):∀{ps:List (Tm×Tm)}{vs:List V},pO H ps vs->pO H' ps vs
 |[],_,h=>h
 |p::ps,_,⟨v,r,e1,h1,h2⟩=>⟨v,r,e1,tW e h1,JU e h2⟩
theorem RC{c:List mR}(h:iA H c us)(e:bB H H')(hr:WI H' r v)(k:Nat):iA H' (c.take k++r::c.drop k) (us.take k++v::us.drop k):=by
 have tk:∀(k:Nat)(c:List mR)(us:List V),iA H c us->iA H' (c.take k) (us.take k)/\iA H' (c.drop k) (us.drop k):=by
  intro k
  induction k with
  |zero=>exact fun c us h=>⟨rfl,bG.same e h⟩
  |succ k ih=>
   intro c us h;cases c with
   |nil=>cases (show us=[]from h);exact⟨rfl,rfl⟩
   |cons q c=>
    obtain⟨u,us',rfl,h1,h2⟩:=h;obtain⟨g1,g2⟩:=ih c us' h2;exact⟨⟨u,_,rfl,dW.same e h1,g1⟩,g2⟩
 obtain⟨g1,g2⟩:=tk k c us h;unfold iA;rw[aU,cF];exact bG.append g1 ⟨v,_,rfl,hr,g2⟩
inductive HJ (K:W.Frag) (vs:List V) (H:Hp) (Q:VK) (E:XK):Prop
 |mk (a:Addr) (ns:List Int) (_:vs=[.ref a]) (_:dL K H a (ns.map V.int)) (_:ns.length<=63) (_:∀H',Q (.bl true) H')
theorem m5(bi:Bi mg)(h_f:gR P w K mg base 1 "_law_cell_at" ["script","k"] (uQ K))(h_J:gR P w K mg base 2 "_law_pool" ["script"] (OY K))(h_y:gR P w K mg base 2 "_law_terms" ["script","pool","many"] (spTs K))(h_x:gR P w K mg base 2 "_law_book" ["cells","terms","most"] (spBk K))(h_s:gR P w K mg base 2 "_law_saying" ["script","terms","book"] (spSy K))(h_I:gR P w K mg base 2 "_law_idle" ["cell","terms"] spId)(h_af:gR P w K mg base 49 "judge" ["book","saying"] spJu)(F:gS K "law" "law" b7 f fd):dI P w K mg base fY 65 f fd ["script"] (HJ K):=by
 refine F.okz sI fun fL A outer s H vs Q E hr h=>?_
 obtain⟨a,ns,rfl,hS,hl,q⟩:=h;refine⟨_,(zF (yD 1 sI.nd (zI h_y hr.m rfl (zA (pv 0) (zA (zI h_J hr.m rfl (zA (pv 0) zC)) (zA zE zC))))) (zF (yD 2 sI.nd (zI h_x hr.m rfl (zA (qE bm (pv 0) (qN zE) (qN zE)) (zA (pv 1) (zA (zL yN (zL yK (zI h_f hr.m rfl (zA (pv 0) (zA zE zC))) zE) zE) zC))))) (zF (yD 3 sI.nd (zI h_s hr.m rfl (zA (pv 0) (zA (pv 1) (zA (pv 2) zC))))) (zF (yD 4 sI.nd (zL yN (zI h_f hr.m rfl (zA (pv 0) (zA zE zC))) (zL kZ zE zE))) (zF (yD 5 sI.nd (xO kO rfl bi.list VI (zA (pv 2) zC))) (zF (yM bM rfl (xY rfl bi.range (zA (zL uX zE (zL yN (zL yK (pv 4) zE) zE)) zC)) (yF 6 sI.nd) (zF (yD 7 sI.nd (zL uX (zL uX (zL yN (zI h_f hr.m rfl (zA (pv 0) (zA (zL uX zE (pv 6)) zC))) (zL kZ zE zE)) (zL yK (pv 4) zE)) (zL xQ (pv 6) (pv 6)))) (zG (zX (jS bW PySem.F.slot_list_insert PySem.F.type_list_insert MM (pv 5) (zA (zL yN (zL yK (pv 7) zE) (zL uX (yC yJ rfl bi.len yX (zA (pv 5) zC)) zE)) (zA (zI h_I hr.m rfl (zA (pv 7) (zA (pv 1) zC))) zC))))))) (zF (yD 8 sI.nd (zM zP (zI h_af hr.m rfl (zA (pv 2) (zA (pv 3) zC))) zE)) (zG (zO (EL (IG (mz hr.units) (pv 8) (yV (zA zR (zA zR zC))) (by with_unfolding_all rfl)) (EJ (IG xG (zM zP (zI h_af hr.m rfl (zA (pv 5) (zA (pv 3) zC))) zE) (pv 8) (zU _))))))))))))),?_⟩;refine zH fun N hN=>?_
 dsimp![];refine⟨a,ns,rfl,hS,fun pp H1 s1 hpool=>?_⟩;obtain⟨x,y,z,nx,ny,nz,kp⟩:=hpool;refine⟨a,pp,ns,[x,y,z],rfl,bB.seq s1 hS,hl,kp,rfl,by simp[nx,ny,nz],fun pt us ts H2 s2 kt ht tg=>hN _ _ ?_⟩;clear hN;replace s2:=s1.trans s2;clear s1;refine zH fun N hN=>?_
 dsimp![];obtain⟨cs,hcs,hcl⟩:=CG ns (some 5) (some 63);obtain⟨G0,hG0,hGt⟩:=tg.ex;refine⟨_,bB.seq s2 hS,fun pc hpc=>?_⟩;rw[hcs];have e3:=zD hpc (.lst (cs.map V.int));refine⟨a,ns,2,rfl,bB.seq (s2.trans e3) hS,_,rfl,⟨(),()⟩,(),?_⟩;generalize hmost:ns.getD 2 0/3 % 4=most;obtain⟨mo,rfl⟩:∃k:Nat,most=(k:Int):=⟨most.toNat,()⟩
 have hmo:mo<=3:=by lia
 refine⟨pc,pt,cs,mo,us,ts,rfl,dL.of zB,(),(),e3 _ _ kt,bG.same e3 ht,tg.len,fun pb bs b H3 s3 kb hb hbm hbr=>hN _ _ ?_⟩;clear hN hmost;replace s2:=s2.trans (e3.trans s3);replace kt:=s3 _ _ (e3 _ _ kt);replace ht:dQ H3 ts us:=bG.same (e3.trans s3) ht;clear e3 s3 hpc hcs hcl;refine zH fun N hN=>?_
 dsimp![];refine⟨a,pt,pb,ns,us,bs,ts,b,rfl,bB.seq s2 hS,kt,ht,tg.len,kb,hb,(),hbr,fun sv s H4 s4 hsv sa1 sa2=>hN _ _ ?_⟩;clear hN;replace s2:=s2.trans s4;replace kt:=s4 _ _ kt;replace ht:dQ H4 ts us:=bG.same s4 ht;replace kb:=s4 _ _ kb;replace hb:iA H4 b bs:=bG.same s4 hb;clear s4;refine zH fun N hN=>?_
 dsimp![];refine⟨a,ns,0,rfl,bB.seq s2 hS,⟨⟨(),(),()⟩,_,rfl,AT,hN _ _ ?_⟩⟩;clear hN;generalize hdr:ns.getD 0 0 % 10^Int.toNat 12=draw;have hd0:0<=draw:=by rw[←hdr];exact rD _ (Int.ne_of_gt AT)
 refine zH fun N hN=>?_
 dsimp![];refine⟨bs,.inl (dL.of kb),fun pm hpm=>hN _ _ ?_⟩;clear hN hdr;have ov:Ov (upd H4 pm (.lst bs)) H4 pm bs:=⟨rfl,hpm⟩
 generalize upd H4 pm (.lst bs)=H5 at ov⊢;have mo0:Mo [x,y,z] G0 b 0 b:=⟨rfl,⟨G0,hG0,fun _ h=>h,fun r hr=>PU (hbr r hr) tg.fit hGt⟩,fun _ _ _ _=>Iff.rfl⟩
 refine yB (fun σ G=>∃(J:Hp)(us':List V)(c:List mR)(i:Nat)(o6 o7 o8:Option V),i<=3/\Ov G J pm us'/\bB H4 J/\iA J c us'/\Mo [x,y,z] G0 b i c/\σ=[some (V.ref a),some (V.ref pt),some (V.ref pb),some sv,some (V.int draw),some (V.ref pm),o6,o7,o8]) (fun N hN=>?_) (fun σ G h=>?_)
 ·dsimp![];refine⟨⟨(),()⟩,(),(),(),?_⟩;refine vJ (n:=(1+draw/7 % 3).toNat) (fun i σ G=>∃(J:Hp)(us':List V)(c:List mR)(o6 o7 o8:Option V),Ov G J pm us'/\bB H4 J/\iA J c us'/\Mo [x,y,z] G0 b i c/\σ=[some (V.ref a),some (V.ref pt),some (V.ref pb),some sv,some (V.int draw),some (V.ref pm),o6,o7,o8]) ⟨H4,bs,b,_,_,_,ov,bB.refl _,hb,mo0,rfl⟩ (fun i σ G hi h M hM=>?_) (fun σ G h=>?_)
  ·obtain⟨J,us',c,o6,o7,o8,ov,sJ,hc,hmo',rfl⟩:=h;refine zH fun N hN=>?_
   dsimp![];have s4G:=sJ.trans ov.sub;refine⟨a,ns,5+i,by simp,bB.seq (s2.trans s4G) hS,⟨⟨(),(),()⟩,_,rfl,AT,⟨(),()⟩,.inl ⟨(),()⟩,hN _ _ ?_⟩⟩;clear hN;generalize ns.getD (5+i) 0 % 10^Int.toNat 12+draw/21+(0+(i:Int))*(0+(i:Int))=cell;dsimp![HW];obtain⟨k,hk⟩:∃k:Nat,cell/11 % ((us'.length:Int)+1)=(k:Int):=⟨(cell/11 % ((us'.length:Int)+1)).toNat,by have :=rD (cell/11) (show(us'.length:Int)+1≠0 by lia);lia⟩
   have hkl:k<=us'.length:=by have :=DI (cell/11) (show(0:Int)<(us'.length:Int)+1 by lia);lia
   have hul:=iA.length hc;have hcl:=hmo'.len;refine⟨.inl ⟨rfl,_,dL.of ov.at⟩,⟨(),()⟩,us'.length,.inl ⟨_,dL.of ov.at,rfl⟩,(),?_⟩;refine⟨cell,pt,us,ts,rfl,s4G _ _ kt,bG.same s4G ht,tg.len,fun p l cc vs r H1 s1 kp kl hfl hps hc2 hid=>?_⟩;obtain⟨J',ov',s'⟩:=ov.ext s1;have hlne:l≠pm:=fun z=>by rw[z,ov.at]at hfl;cases hfl
   have kl':J' l=some (.lst vs):=by rw[ov'.eq,zJ hlne]at kl;exact kl
   have T:=ov'.tups;have hrat:WI J' r (.ref p):=WI.mk2 kl' (JU T hps) (tW T hc2) (T _ _ kp);exact⟨us',k,hk,ov'.at,hkl,(),hM _ _ ⟨J',_,_,_,_,_,ov'.set _,sJ.trans s',RC hc s' hrat k,hmo'.put hid tg.fit hGt k,rfl⟩⟩
  ·obtain⟨J,us',c,o6,o7,o8,ov,sJ,hc,hmo',rfl⟩:=h;exact hN _ _ ⟨J,us',c,_,_,_,_,(),ov,sJ,hc,hmo',rfl⟩
 obtain⟨J,us',c,i,o6,o7,o8,hi,ov,sJ,hc,hmo',rfl⟩:=h;refine zH fun N hN=>?_
 dsimp![];have s4G:=sJ.trans ov.sub;have hGt1:=hGt;obtain⟨Gm,gm1,gm2,gm3⟩:=hmo'.ok;have hcl:=hmo'.len;refine⟨pb,sv,bs,[x,y,z],G0,b,s,rfl,s4G _ _ kb,bG.same s4G hb,dW.same s4G hsv,ji () (fun r hr=>PU (hbr r hr) tg.fit hGt) (sa1.ok tg.fit hGt) (sa2.ok tg.fit hGt) (aG 3) (),fun p1 fl1 vs1 H6 s6 k6 ver1=>⟨p1,rfl,_,dN.of k6,_,mK,hN _ _ ?_⟩⟩;clear hN;dsimp![cn];refine⟨small (),fun pl hpl=>?_⟩;have e7:=zD hpl (.lst [V.str "follows",V.str "open"]);have kpl:upd H6 pl (.lst [V.str "follows",V.str "open"]) pl=some (.lst [V.str "follows",V.str "open"]):=zB;generalize upd H6 pl (.lst [V.str "follows",V.str "open"])=H7 at e7 kpl⊢;refine⟨1,.str (if fl1=true then"follows" else"open"),rfl,[.str "follows",.str "open"],.inl ⟨pl,_,rfl,kpl,_,_,rfl,rfl,_,_,rfl,rfl,rfl⟩,(fun e he=>by simp at he;rcases he with rfl |rfl<;>trivial),(),?_⟩;have hin:(false^^([Dt.str "follows",Dt.str "open"].any fun e=>eU e (.str (if fl1=true then"follows" else"open"))))=true:=by
  cases fl1<;>simp[eU]
 rw[aL hin];have s7:=s4G.trans (s6.trans e7);refine⟨pm,sv,us',[x,y,z],Gm,c,s,rfl,(s6.trans e7) _ _ ov.at,bG.same (ov.sub.trans (s6.trans e7)) hc,dW.same s7 hsv,ji () gm3 ((sa1.ok tg.fit hGt).mono gm2) ((sa2.ok tg.fit hGt).mono gm2) (aG 3) (),fun p2 fl2 vs2 H8 s8 k8 ver2=>⟨p2,rfl,_,dN.of k8,_,mK,rfl,?_⟩⟩;have :=Ver.one ver1 ver2 hmo'.same;subst this;rw[eC rfl];exact q _
theorem ln0{us:List Value}(h:us.length=0):us=[]:=lW.mp h
theorem lnS{us:List Value}(h:us.length=n+1):∃(u:Value)(r:List Value),us=u::r/\r.length=n:=by
 cases us with
 |nil=>cases h
 |cons u r=>exact⟨u,r,rfl,mF h⟩
theorem ln1{us:List Value}(h:us.length=1):∃a,us=[a]:=by
 obtain⟨a,r,rfl,g⟩:=lnS h;cases ln0 g;exact⟨a,rfl⟩
theorem ln2{us:List Value}(h:us.length=2):∃a b,us=[a,b]:=by
 obtain⟨a,r,rfl,g⟩:=lnS h;obtain⟨b,rfl⟩:=ln1 g;exact⟨a,b,rfl⟩
theorem ln3{us:List Value}(h:us.length=3):∃a b c,us=[a,b,c]:=by
 obtain⟨a,r,rfl,g⟩:=lnS h;obtain⟨b,c,rfl⟩:=ln2 g;exact⟨a,b,c,rfl⟩
theorem ln4{us:List Value}(h:us.length=4):∃a b c d,us=[a,b,c,d]:=by
 obtain⟨a,r,rfl,g⟩:=lnS h;obtain⟨b,c,d,rfl⟩:=ln3 g;exact⟨a,b,c,d,rfl⟩
structure lF(K:W.Frag)(x:Str)(st:Stmt)(f:Addr)(fd:FuncData):Prop where
 a:W.nsIn K mainGlobals x=some (some (.ref f))
 F:gS K x x st f fd
theorem fQq{x:Str}{st:Stmt}{oc:Value}{od an:Option Addr}{osl:Array (Option Value)}{kV doc pm fL ct:Value}(a:W.nsIn K mainGlobals x=some (some (.ref f)))(l:K.lookup f=some ⟨oc,od,.func (W.fnOf x x (jP st) (xW st) (zK st) .none kV doc pm an fL ct),osl⟩)
 (c:W.codeIn K fL x=true) (k:W.keepIn K (.ref f)=true):lF K x st f (W.fnOf x x (jP st) (xW st) (zK st) .none kV doc pm an fL ct):=⟨a,FV l c k⟩
structure ij(K:W.Frag)(C:Addr)(m q:Str)(st:Stmt)(f:Addr)(fd:FuncData):Prop where
 a:W.findIn K (.ref C) m=some (some (.ref f))
 i:W.isFn K (.ref f)=true
 k:W.keepIn K (.ref f)=true
 F:gS K m q st f fd
theorem mQq{C:Addr}{m q:Str}{st:Stmt}{oc:Value}{od an:Option Addr}{osl:Array (Option Value)}{kV doc pm fL ct:Value}(a:W.findIn K (.ref C) m=some (some (.ref f)))(i:W.isFn K (.ref f)=true)(l:K.lookup f=some ⟨oc,od,.func (W.fnOf m q (jP st) (xW st) (zK st) .none kV doc pm an fL ct),osl⟩)
 (c:W.codeIn K fL q=true) (k:W.keepIn K (.ref f)=true):ij K C m q st f (W.fnOf m q (jP st) (xW st) (zK st) .none kV doc pm an fL ct):=⟨a,i,k,FV l c k⟩
local macro_rules | `(tactic| ac_rfl) => `(tactic| (intro _ _ _ _ _ _ us hl; first | (obtain ⟨u0, e⟩ := ln1 hl; subst e; rfl) | (obtain ⟨u0, u1, e⟩ := ln2 hl; subst e; rfl) | (obtain ⟨u0, u1, u2, e⟩ := ln3 hl; subst e; rfl) | (obtain ⟨u0, u1, u2, u3, e⟩ := ln4 hl; subst e; rfl)))
theorem all_mk{l:W.OpenLaw}{h:Heap}{fa:Addr}(X:K.In h)(G:h.Ns mainGlobals mg)(hfa:mg "law"=some (.ref fa))
 {C_Growth:Addr} (aC_Growth:W.nsIn K mainGlobals "Growth"=some (some (.ref C_Growth)))
 {f_B:Addr} {d_Growth_init:FuncData} (gD:ij K C_Growth "__init__" "Growth.__init__" s_B f_B d_Growth_init)
 {f_a:Addr} {d_Growth_line_of:FuncData} (gX:ij K C_Growth "line_of" "Growth.line_of" s_a f_a d_Growth_line_of)
 {f_D:Addr} {d_Growth_has:FuncData} (lK:ij K C_Growth "has" "Growth.has" s_D f_D d_Growth_has)
 {f_d:Addr} {d_Growth_grow:FuncData} (iW:ij K C_Growth "grow" "Growth.grow" s_d f_d d_Growth_grow)
 (pg_Growth:W.plainGet K C_Growth Str.empty=true) (hd_Growth:W.hasDictIn K C_Growth=true) (po_Growth:W.plainOver K C_Growth=true) (sa_Growth:W.findIn K (.ref C_Growth) "__setattr__"=some (some (.builtin "object.__setattr__"))) (mk_Growth:W.makesIn K C_Growth=true) (kc_Growth:W.keepIn K (.ref C_Growth)=true) (n_Growth_lines:W.findIn K (.ref C_Growth) "lines"=some none) (n_Growth_places:W.findIn K (.ref C_Growth) "places"=some none) (n_Growth_above:W.findIn K (.ref C_Growth) "above"=some none) (n_Growth_below:W.findIn K (.ref C_Growth) "below"=some none)
 {C_Floor:Addr} (aC_Floor:W.nsIn K mainGlobals "Floor"=some (some (.ref C_Floor)))
 {f_C:Addr} {d_Floor_init:FuncData} (gZ:ij K C_Floor "__init__" "Floor.__init__" s_C f_C d_Floor_init)
 {f_e:Addr} {d_Floor_common_of:FuncData} (gH:ij K C_Floor "common_of" "Floor.common_of" s_e f_e d_Floor_common_of)
 {f_i:Addr} {d_Floor_counter_of:FuncData} (fW:ij K C_Floor "counter_of" "Floor.counter_of" s_i f_i d_Floor_counter_of)
 {f_h:Addr} {d_Floor_value_of:FuncData} (gY:ij K C_Floor "value_of" "Floor.value_of" s_h f_h d_Floor_value_of)
 (pg_Floor:W.plainGet K C_Floor Str.empty=true) (hd_Floor:W.hasDictIn K C_Floor=true) (po_Floor:W.plainOver K C_Floor=true) (sa_Floor:W.findIn K (.ref C_Floor) "__setattr__"=some (some (.builtin "object.__setattr__"))) (mk_Floor:W.makesIn K C_Floor=true) (kc_Floor:W.keepIn K (.ref C_Floor)=true) (n_Floor_everywhere:W.findIn K (.ref C_Floor) "everywhere"=some none) (n_Floor_clashing:W.findIn K (.ref C_Floor) "clashing"=some none)
 {f_Y:Addr} {d_mask_of:FuncData} (i_Y:lF K "mask_of" s_Y f_Y d_mask_of)
 {f_F:Addr} {d_bits_of:FuncData} (i_F:lF K "bits_of" s_F f_F d_bits_of)
 {f_V:Addr} {d_parts_of:FuncData} (i_V:lF K "parts_of" s_V f_V d_parts_of)
 {f_l:Addr} {d_gather_names:FuncData} (i_l:lF K "gather_names" s_l f_l d_gather_names)
 {f_q:Addr} {d_names_of_all:FuncData} (i_q:lF K "names_of_all" s_q f_q d_names_of_all)
 {f_W:Addr} {d_names_of:FuncData} (i_W:lF K "names_of" s_W f_W d_names_of)
 {f_K:Addr} {d_terms_in:FuncData} (i_K:lF K "terms_in" s_K f_K d_terms_in)
 {f_U:Addr} {d_is_whole:FuncData} (i_U:lF K "is_whole" s_U f_U d_is_whole)
 {f_S:Addr} {d_is_below:FuncData} (i_S:lF K "is_below" s_S f_S d_is_below)
 {f_G:Addr} {d_places_of:FuncData} (i_G:lF K "places_of" s_G f_G d_places_of)
 {f_ag:Addr} {d_found:FuncData} (i_ag:lF K "found" lu f_ag d_found)
 {f_ab:Addr} {d_put_in:FuncData} (i_ab:lF K "put_in" l8 f_ab d_put_in)
 {f_N:Addr} {d_turned:FuncData} (i_N:lF K "turned" s_N f_N d_turned)
 {f_m:Addr} {d_number_by:FuncData} (i_m:lF K "number_by" s_m f_m d_number_by)
 {f_c:Addr} {d_joined_number:FuncData} (i_c:lF K "joined_number" s_c f_c d_joined_number)
 {f_Q:Addr} {d_sheet_of:FuncData} (i_Q:lF K "sheet_of" s_Q f_Q d_sheet_of)
 {f_X:Addr} {d_pair_of:FuncData} (i_X:lF K "pair_of" s_X f_X d_pair_of)
 {f_r:Addr} {d_numbered_rule:FuncData} (i_r:lF K "numbered_rule" s_r f_r d_numbered_rule)
 {f_R:Addr} {d_numbered:FuncData} (i_R:lF K "numbered" s_R f_R d_numbered)
 {f_ac:Addr} {d_begin:FuncData} (i_ac:lF K "begin" l7 f_ac d_begin)
 {f_j:Addr} {d_boths_by_part:FuncData} (i_j:lF K "boths_by_part" s_j f_j d_boths_by_part)
 {f_b:Addr} {d_rules_by_premise:FuncData} (i_b:lF K "rules_by_premise" s_b f_b d_rules_by_premise)
 {f_v:Addr} {d_grow_by_turn:FuncData} (i_v:lF K "grow_by_turn" s_v f_v d_grow_by_turn)
 {f_k:Addr} {d_grow_by_chain:FuncData} (i_k:lF K "grow_by_chain" s_k f_k d_grow_by_chain)
 {f_o:Addr} {d_grow_by_both:FuncData} (i_o:lF K "grow_by_both" s_o f_o d_grow_by_both)
 {f_p:Addr} {d_grow_by_clash:FuncData} (i_p:lF K "grow_by_clash" s_p f_p d_grow_by_clash)
 {f_n:Addr} {d_grow_by_rule:FuncData} (i_n:lF K "grow_by_rule" s_n f_n d_grow_by_rule)
 {f_E:Addr} {d_closing:FuncData} (i_E:lF K "closing" s_E f_E d_closing)
 {f_O:Addr} {d_sets_for:FuncData} (i_O:lF K "sets_for" s_O f_O d_sets_for)
 {f_ae:Addr} {d_value:FuncData} (i_ae:lF K "value" ly f_ae d_value)
 {f_A:Addr} {d_lines_named:FuncData} (i_A:lF K "lines_named" s_A f_A d_lines_named)
 {f_aa:Addr} {d_renamed:FuncData} (i_aa:lF K "renamed" l9 f_aa d_renamed)
 {f_P:Addr} {d_line_for:FuncData} (i_P:lF K "line_for" s_P f_P d_line_for)
 {f_Z:Addr} {d_hung_on:FuncData} (i_Z:lF K "hung_on" s_Z f_Z d_hung_on)
 {f_ad:Addr} {d_paper:FuncData} (i_ad:lF K "paper" l6 f_ad d_paper)
 {f_T:Addr} {d_spots_by:FuncData} (i_T:lF K "spots_by" s_T f_T d_spots_by)
 {f_w:Addr} {d_clashes_by:FuncData} (i_w:lF K "clashes_by" s_w f_w d_clashes_by)
 {f_z:Addr} {d_spots_under:FuncData} (i_z:lF K "spots_under" s_z f_z d_spots_under)
 {f_L:Addr} {d_world_of:FuncData} (i_L:lF K "world_of" s_L f_L d_world_of)
 {f_t:Addr} {d_spot_against:FuncData} (i_t:lF K "spot_against" s_t f_t d_spot_against)
 {f_H:Addr} {d_judge_on:FuncData} (i_H:lF K "judge_on" s_H f_H d_judge_on)
 {f_af:Addr} {d_judge:FuncData} (i_af:lF K "judge" lw f_af d_judge)
 {f_f:Addr} {d_law_cell_at:FuncData} (i_f:lF K "_law_cell_at" s_f f_f d_law_cell_at)
 {f_g:Addr} {d_law_name_by:FuncData} (i_g:lF K "_law_name_by" s_g f_g d_law_name_by)
 {f_J:Addr} {d_law_pool:FuncData} (i_J:lF K "_law_pool" s_J f_J d_law_pool)
 {f_u:Addr} {d_law_side:FuncData} (i_u:lF K "_law_side" s_u f_u d_law_side)
 {f_y:Addr} {d_law_terms:FuncData} (i_y:lF K "_law_terms" s_y f_y d_law_terms)
 {f_x:Addr} {d_law_book:FuncData} (i_x:lF K "_law_book" s_x f_x d_law_book)
 {f_s:Addr} {d_law_saying:FuncData} (i_s:lF K "_law_saying" s_s f_s d_law_saying)
 {f_I:Addr} {d_law_idle:FuncData} (i_I:lF K "_law_idle" s_I f_I d_law_idle)
 {f_M:Addr} {od_M an_M:Option Addr} {sl_M:Array (Option Value)} {oc_M kV_M dc_M pm_M cd_M ct_M:Value} (a_M:W.nsIn K mainGlobals "law"=some (some (.ref f_M))) (l_M:K.lookup f_M=some ⟨oc_M,od_M,.func (W.fnOf "law" "law" (jP b7) (xW b7) (zK b7) .none kV_M dc_M pm_M an_M cd_M ct_M),sl_M⟩) (c_M:W.codeIn K cd_M "law"=true) (k_M:W.keepIn K (.ref f_M)=true)
  (z_enumerate:W.nsIn K mainGlobals "enumerate"=some none)
 {mW:Addr} {d_NONE_ROW:Option Addr} {n_NONE_ROW:Nat} {sl_NONE_ROW:Array (Option Value)} {t_N1:Tok} (g_NONE_ROW:W.nsIn K mainGlobals "NONE_ROW"=some (some (.ref mW))) (o_NONE_ROW:K.lookup mW=some ⟨.type "tuple",d_NONE_ROW,.seq #[.str "none" t_N1] n_NONE_ROW,sl_NONE_ROW⟩)
 {t_MOST_ROWS:Tok} (g_MOST_ROWS:W.nsIn K mainGlobals "MOST_ROWS"=some (some (.int 40 t_MOST_ROWS)))
 (z_all:W.nsIn K mainGlobals "all"=some none)
 (z_bool:W.nsIn K mainGlobals "bool"=some none)
 (z_dict:W.nsIn K mainGlobals "dict"=some none)
 (z_int:W.nsIn K mainGlobals "int"=some none)
 (z_isinstance:W.nsIn K mainGlobals "isinstance"=some none)
 (z_len:W.nsIn K mainGlobals "len"=some none)
 (z_list:W.nsIn K mainGlobals "list"=some none)
 (z_max:W.nsIn K mainGlobals "max"=some none)
 (z_range:W.nsIn K mainGlobals "range"=some none)
 (z_set:W.nsIn K mainGlobals "set"=some none)
 (z_sorted:W.nsIn K mainGlobals "sorted"=some none)
 (z_str:W.nsIn K mainGlobals "str"=some none)
 (z_sum:W.nsIn K mainGlobals "sum"=some none)
 (z_tuple:W.nsIn K mainGlobals "tuple"=some none):
 ∃fd:FuncData,(∀(s:Shared)(v:Value),BindsTo s fd ⟨[v],[]⟩ [("script",v)])/\∀base:Heap,K.In base->base.Ns mainGlobals mg->dI l.prog w K mg base fY 65 fa fd ["script"] (HJ K):=by
 have e:=hfa.symm.trans (aW X G a_M);cases e;have cR:LF K C_Growth:=⟨pg_Growth,hd_Growth,po_Growth,sa_Growth⟩
 have mC_Growth:=aW X G aC_Growth;have F_B:=gD.F;have b_B:=F_B.binds (ps:=["self","many"]) (by ac_rfl);have t_B:pI K C_Growth "__init__" f_B:=⟨gD.a,gD.i,gD.k⟩
 have a_B:=gD.a;have i_B:=gD.i;have F_a:=gX.F;have b_a:=F_a.binds (ps:=["self","i","j"]) (by ac_rfl);have t_a:pI K C_Growth "line_of" f_a:=⟨gX.a,gX.i,gX.k⟩
 have F_D:=lK.F;have b_D:=F_D.binds (ps:=["self","i","j"]) (by ac_rfl);have t_D:pI K C_Growth "has" f_D:=⟨lK.a,lK.i,lK.k⟩
 have F_d:=iW.F;have b_d:=F_d.binds (ps:=["self","i","j","why"]) (by ac_rfl);have t_d:pI K C_Growth "grow" f_d:=⟨iW.a,iW.i,iW.k⟩
 have fZ:LF K C_Floor:=⟨pg_Floor,hd_Floor,po_Floor,sa_Floor⟩
 have mC_Floor:=aW X G aC_Floor;have F_C:=gZ.F;have b_C:=F_C.binds (ps:=["self","many","clashes"]) (by ac_rfl);have t_C:pI K C_Floor "__init__" f_C:=⟨gZ.a,gZ.i,gZ.k⟩
 have a_C:=gZ.a;have i_C:=gZ.i;have F_e:=gH.F;have b_e:=F_e.binds (ps:=["self","sets"]) (by ac_rfl);have t_e:pI K C_Floor "common_of" f_e:=⟨gH.a,gH.i,gH.k⟩
 have F_i:=fW.F;have b_i:=F_i.binds (ps:=["self","spots"]) (by ac_rfl);have t_i:pI K C_Floor "counter_of" f_i:=⟨fW.a,fW.i,fW.k⟩
 have F_h:=gY.F;have b_h:=F_h.binds (ps:=["self","sets","t"]) (by ac_rfl);have t_h:pI K C_Floor "value_of" f_h:=⟨gY.a,gY.i,gY.k⟩
 have F_Y:=i_Y.F;have b_Y:=F_Y.binds (ps:=["numbers"]) (by ac_rfl);have m_Y:=aW X G i_Y.a;have F_F:=i_F.F;have b_F:=F_F.binds (ps:=["mask"]) (by ac_rfl);have m_F:=aW X G i_F.a;have F_V:=i_V.F;have b_V:=F_V.binds (ps:=["t"]) (by ac_rfl);have m_V:=aW X G i_V.a;have F_l:=i_l.F;have b_l:=F_l.binds (ps:=["t","found"]) (by ac_rfl);have m_l:=aW X G i_l.a;have F_q:=i_q.F;have b_q:=F_q.binds (ps:=["terms"]) (by ac_rfl);have m_q:=aW X G i_q.a;have F_W:=i_W.F;have b_W:=F_W.binds (ps:=["t"]) (by ac_rfl);have m_W:=aW X G i_W.a;have F_K:=i_K.F;have b_K:=F_K.binds (ps:=["book","saying"]) (by ac_rfl);have m_K:=aW X G i_K.a;have F_U:=i_U.F;have b_U:=F_U.binds (ps:=["n"]) (by ac_rfl);have m_U:=aW X G i_U.a;have F_S:=i_S.F;have b_S:=F_S.binds (ps:=["n","bound"]) (by ac_rfl);have m_S:=aW X G i_S.a;have F_G:=i_G.F;have b_G:=F_G.binds (ps:=["sheet"]) (by ac_rfl);have m_G:=aW X G i_G.a;have F_ag:=i_ag.F;have b_ag:=F_ag.binds (ps:=["places","row"]) (by ac_rfl);have m_ag:=aW X G i_ag.a;have F_ab:=i_ab.F;have b_ab:=F_ab.binds (ps:=["places","row"]) (by ac_rfl);have m_ab:=aW X G i_ab.a;have F_N:=i_N.F;have b_N:=F_N.binds (ps:=["n","turn"]) (by ac_rfl);have m_N:=aW X G i_N.a;have F_m:=i_m.F;have b_m:=F_m.binds (ps:=["row_number","places","t"]) (by ac_rfl);have m_m:=aW X G i_m.a;have F_c:=i_c.F;have b_c:=F_c.binds (ps:=["row_number","places","t"]) (by ac_rfl);have m_c:=aW X G i_c.a;have F_Q:=i_Q.F;have b_Q:=F_Q.binds (ps:=["terms"]) (by ac_rfl);have m_Q:=aW X G i_Q.a;have F_X:=i_X.F;have b_X:=F_X.binds (ps:=["places","saying"]) (by ac_rfl);have m_X:=aW X G i_X.a;have F_r:=i_r.F;have b_r:=F_r.binds (ps:=["places","rule"]) (by ac_rfl);have m_r:=aW X G i_r.a;have F_R:=i_R.F;have b_R:=F_R.binds (ps:=["sheet","book"]) (by ac_rfl);have m_R:=aW X G i_R.a;have F_ac:=i_ac.F;have b_ac:=F_ac.binds (ps:=["growth","sheet"]) (by ac_rfl);have m_ac:=aW X G i_ac.a;have F_j:=i_j.F;have b_j:=F_j.binds (ps:=["sheet"]) (by ac_rfl);have m_j:=aW X G i_j.a;have F_b:=i_b.F;have b_b:=F_b.binds (ps:=["rules"]) (by ac_rfl);have m_b:=aW X G i_b.a;have F_v:=i_v.F;have b_v:=F_v.binds (ps:=["growth","i","j"]) (by ac_rfl);have m_v:=aW X G i_v.a;have F_k:=i_k.F;have b_k:=F_k.binds (ps:=["growth","i","j"]) (by ac_rfl);have m_k:=aW X G i_k.a;have F_o:=i_o.F;have b_o:=F_o.binds (ps:=["growth","i","boths"]) (by ac_rfl);have m_o:=aW X G i_o.a;have F_p:=i_p.F;have b_p:=F_p.binds (ps:=["growth","i","j"]) (by ac_rfl);have m_p:=aW X G i_p.a;have F_n:=i_n.F;have b_n:=F_n.binds (ps:=["growth","rules","r"]) (by ac_rfl);have m_n:=aW X G i_n.a;have F_E:=i_E.F;have b_E:=F_E.binds (ps:=["sheet","rules"]) (by ac_rfl);have m_E:=aW X G i_E.a;have F_O:=i_O.F;have b_O:=F_O.binds (ps:=["world","names"]) (by ac_rfl);have m_O:=aW X G i_O.a;have F_ae:=i_ae.F;have b_ae:=F_ae.binds (ps:=["world","t"]) (by ac_rfl);have m_ae:=aW X G i_ae.a;have F_A:=i_A.F;have b_A:=F_A.binds (ps:=["why"]) (by ac_rfl);have m_A:=aW X G i_A.a;have F_aa:=i_aa.F;have b_aa:=F_aa.binds (ps:=["why","places"]) (by ac_rfl);have m_aa:=aW X G i_aa.a;have F_P:=i_P.F;have b_P:=F_P.binds (ps:=["lines","i","j"]) (by ac_rfl);have m_P:=aW X G i_P.a;have F_Z:=i_Z.F;have b_Z:=F_Z.binds (ps:=["lines","k"]) (by ac_rfl);have m_Z:=aW X G i_Z.a;have F_ad:=i_ad.F;have b_ad:=F_ad.binds (ps:=["lines","i","j"]) (by ac_rfl);have m_ad:=aW X G i_ad.a;have F_T:=i_T.F;have b_T:=F_T.binds (ps:=["many","pairs"]) (by ac_rfl);have m_T:=aW X G i_T.a;have F_w:=i_w.F;have b_w:=F_w.binds (ps:=["spots","pairs"]) (by ac_rfl);have m_w:=aW X G i_w.a;have F_z:=i_z.F;have b_z:=F_z.binds (ps:=["spots","pairs","n"]) (by ac_rfl);have m_z:=aW X G i_z.a;have F_L:=i_L.F;have b_L:=F_L.binds (ps:=["sheet","lines"]) (by ac_rfl);have m_L:=aW X G i_L.a;have F_t:=i_t.F;have b_t:=F_t.binds (ps:=["world","saying"]) (by ac_rfl);have m_t:=aW X G i_t.a;have F_H:=i_H.F;have b_H:=F_H.binds (ps:=["sheet","book","saying"]) (by ac_rfl);have m_H:=aW X G i_H.a;have F_af:=i_af.F;have b_af:=F_af.binds (ps:=["book","saying"]) (by ac_rfl);have m_af:=aW X G i_af.a;have F_f:=i_f.F;have b_f:=F_f.binds (ps:=["script","k"]) (by ac_rfl);have m_f:=aW X G i_f.a;have F_g:=i_g.F;have b_g:=F_g.binds (ps:=["cell","size"]) (by ac_rfl);have m_g:=aW X G i_g.a;have F_J:=i_J.F;have b_J:=F_J.binds (ps:=["script"]) (by ac_rfl);have m_J:=aW X G i_J.a;have F_u:=i_u.F;have b_u:=F_u.binds (ps:=["cell","terms"]) (by ac_rfl);have m_u:=aW X G i_u.a;have F_y:=i_y.F;have b_y:=F_y.binds (ps:=["script","pool","many"]) (by ac_rfl);have m_y:=aW X G i_y.a;have F_x:=i_x.F;have b_x:=F_x.binds (ps:=["cells","terms","most"]) (by ac_rfl);have m_x:=aW X G i_x.a;have F_s:=i_s.F;have b_s:=F_s.binds (ps:=["script","terms","book"]) (by ac_rfl);have m_s:=aW X G i_s.a;have F_I:=i_I.F;have b_I:=F_I.binds (ps:=["cell","terms"]) (by ac_rfl);have m_I:=aW X G i_I.a;have F_M:=FV (st:=b7) l_M c_M k_M;have b_M:=F_M.binds (ps:=["script"]) (by ac_rfl);have m_M:=aW X G a_M;have bi:Bi mg:=⟨dA X G z_len,dA X G z_range,dA X G z_isinstance,dA X G z_max,dA X G z_sum,dA X G z_all,dA X G z_tuple,dA X G z_list,dA X G z_sorted,dA X G z_set,dA X G z_int,dA X G z_bool,dA X G z_str,dA X G z_dict⟩
 refine⟨W.fnOf "law" "law" (jP b7) (xW b7) (zK b7) .none kV_M dc_M pm_M an_M cd_M ct_M,fun s v=>.of_eq rfl,fun base _ _=>?_⟩;have be:mg "enumerate"=none:=dA X G z_enumerate;have T:NW K C_Growth:=⟨cR,n_Growth_lines,n_Growth_places,n_Growth_above,n_Growth_below⟩
 have h0:=zT F_U (BF (P:=l.prog) (w:=w) (base:=base) bi F_U) b_U m_U;have h1:=zT F_S (BG bi h0 F_S) b_S m_S;have h2:=zT F_F (FA (P:=l.prog) (w:=w) (base:=base) bi F_F) b_F m_F;have g0:WO l.prog w K mg base 1 C_Growth "Growth" ["self","many"] (k9 C_Growth):=⟨_,_,SE T F_B,b_B,⟨mk_Growth,a_B,i_B,kc_Growth⟩,mC_Growth⟩
 have g1:lA l.prog w K mg base 1 C_Growth "line_of" ["self","i","j"] (DX C_Growth):=⟨_,_,EX T F_a,b_a,t_a⟩
 have g2:lA l.prog w K mg base 1 C_Growth "has" ["self","i","j"] (OZ C_Growth):=⟨_,_,m6 T F_D,b_D,t_D⟩
 have g3:lA l.prog w K mg base 2 C_Growth "grow" ["self","i","j","why"] (rP C_Growth):=⟨_,_,dy T bi g2 F_d,b_d,t_d⟩
 have c1:=zT F_ac (SK T bi be g3 F_ac) b_ac m_ac;have c2:=zT F_j (SJ (P:=l.prog) (w:=w) (base:=base) bi be F_j) b_j m_j;have c3:=zT F_b (wA (P:=l.prog) (w:=w) (base:=base) bi be F_b) b_b m_b;have c4:=zT F_v (dq T g1 g3 F_v) b_v m_v;have c5:=zT F_k (SI T bi h2 g1 g3 F_k) b_k m_k;have c6:=zT F_o (d7 T g1 g2 g3 F_o) b_o m_o;have c7:=zT F_p (SH T bi g1 g3 F_p) b_p m_p;have c8:=zT F_n (dt T bi h1 g1 g2 g3 F_n) b_n m_n;have c9:=zT F_E (EZ T bi g0 c2 c3 c1 c4 c5 c6 c7 c8 F_E) b_E m_E;have v1:=zT F_T (AX (P:=l.prog) (w:=w) (base:=base) bi F_T) b_T m_T;have v2:=zT F_z (XM (P:=l.prog) (w:=w) (base:=base) bi be F_z) b_z m_z;have v3:=zT F_w (JJ (P:=l.prog) (w:=w) (base:=base) bi be F_w) b_w m_w;have v4:=zT F_L (AU bi be v1 v2 v3 F_L) b_L m_L;have p1:=zT F_A (XN (P:=l.prog) (w:=w) (base:=base) bi F_A) b_A m_A;have p2:=zT F_aa (ET (P:=l.prog) (w:=w) (base:=base) bi F_aa) b_aa m_aa;have p3:=zT F_P (BD (P:=l.prog) (w:=w) (base:=base) bi be F_P) b_P m_P;have p4:=zT F_Z (EY bi p1 F_Z) b_Z m_Z;have p5:=zT F_ad (SA bi be p3 p4 p2 F_ad) b_ad m_ad;have TF:FlC K C_Floor:=⟨fZ,n_Floor_everywhere,n_Floor_clashing⟩
 have f1:=zT F_Y (EW (P:=l.prog) (w:=w) (base:=base) bi F_Y) b_Y m_Y;have f3:WO l.prog w K mg base 1 C_Floor "Floor" ["self","many","clashes"] (lc C_Floor):=⟨_,_,SG TF F_C,b_C,⟨mk_Floor,a_C,i_C,kc_Floor⟩,mC_Floor⟩
 have f4:lA l.prog w K mg base 1 C_Floor "common_of" ["self","sets"] (bh K C_Floor):=⟨_,_,MK TF F_e,b_e,t_e⟩
 have f5:lA l.prog w K mg base 2 C_Floor "counter_of" ["self","spots"] (lf C_Floor):=⟨_,_,JI TF bi h2 f4 F_i,b_i,t_i⟩
 have f6:lA l.prog w K mg base 23 C_Floor "value_of" ["self","sets","t"] (bd C_Floor 23):=⟨_,_,AV TF bi f4 f5 F_h b_h t_h 23,b_h,t_h⟩
 have f17:=zT F_V (BA (P:=l.prog) (w:=w) (base:=base) bi F_V) b_V m_V;have f18:=zT F_l (ZY bi f17 F_l b_l m_l 22) b_l m_l;have f19:=zT F_q (ZX bi f18 F_q) b_q m_q;have f20:=zT F_W (BC bi f19 F_W) b_W m_W;have f21:=zT F_O (AZ bi f1 F_O) b_O m_O;have f22:=zT F_ae (RY TF bi f21 f20 h2 f3 f6 F_ae) b_ae m_ae;have gM:Gc mg "MOST_ROWS" (.int 40):=⟨_,aW X G g_MOST_ROWS,⟨_,rfl⟩⟩
 have gN:Gc mg "NONE_ROW" (.ref mW):=⟨_,aW X G g_NONE_ROW,rfl⟩
 have sN:∀H,Tw K H mW [.str "none"]:=fun H=>.inr ⟨_,_,_,o_NONE_ROW,rfl,rfl,(by show 1<=sizeLine;decide),.cons ⟨_,rfl⟩ .nil⟩
 have s1:=zT F_ab (MG (P:=l.prog) (w:=w) (base:=base) gM bi F_ab) b_ab m_ab;have s2:=zT F_ag (SF (P:=l.prog) (w:=w) (base:=base) bi F_ag) b_ag m_ag;have s3:=zT F_N (ME (P:=l.prog) (w:=w) (base:=base) bi F_N) b_N m_N;have s4:=wP (s1.at m_ab) s3 F_m b_m m_m F_c b_c m_c 21;have s5:=wP (s2.at m_ag) s3 F_m b_m m_m F_c b_c m_c 21;have s6:=zT F_Q (AY gN sN m_ab bi s4 F_Q) b_Q m_Q;have s7:=zT F_G (MH (P:=l.prog) (w:=w) (base:=base) bi be F_G) b_G m_G;have s8:=zT F_X (EU m_ag s5 F_X) b_X m_X;have s9:=zT F_r (ZB s8 F_r) b_r m_r;have s10:=zT F_R (BB bi s7 s9 F_R) b_R m_R;have s11:=zT F_K (AW (P:=l.prog) (w:=w) (base:=base) bi F_K) b_K m_K;have j1:=zT F_t (ZW bi f22 F_t) b_t m_t;have j2:=zT F_H (BE bi c9 s10 s8 s7 p5 v4 j1 F_H) b_H m_H;have j3:=zT F_af (SD bi j2 s6 s11 F_af) b_af m_af;have w1:=zT F_f (d6 (P:=l.prog) (w:=w) (base:=base) bi F_f) b_f m_f;have w2:=zT F_g (dv (P:=l.prog) (w:=w) (base:=base) bi F_g) b_g m_g;have w3:=zT F_J (du bi w1 w2 F_J) b_J m_J;have w4:=zT F_u (dr (P:=l.prog) (w:=w) (base:=base) bi F_u) b_u m_u;have w5:=zT F_y (RZ bi w1 w4 F_y) b_y m_y;have w6:=zT F_x (d8 bi w4 F_x) b_x m_x;have w7:=zT F_s (MF bi w1 w4 F_s) b_s m_s;have w8:=zT F_I (dw bi w4 F_I) b_I m_I;exact m5 bi w1 w3 w5 w6 w7 w8 j3 F_M
theorem walk{l:W.OpenLaw}{q:Program}{loose:List Str}{XP:(Str->Option Value)->Heap->Prop}{YP:World->Heap->Prop}{d:DefRec}{K:Params->W.Frag}(hn:l.most=some 63)(hdf:d.params.defaults=[])
 (hY:∀(w:World)(h:Heap),YP w h->(K w.params).In h)
 (F:∀(w:World)(mg:Str->Option Value)(fa:Addr)(h:Heap),(K w.params).In h->h.Ns mainGlobals mg->mg d.name=some (.ref fa)->
  ∃fd:FuncData,(∀(s:Shared)(u:Value),BindsTo s fd ⟨[u],[]⟩ [("script",u)])/\∀base:Heap,(K w.params).In base->base.Ns mainGlobals mg->dI l.prog w (K w.params) mg base fY 65 fa fd ["script"] (HJ (K w.params))):
 W.WalkO q loose XP YP l.row.toRowW d [] (fun f vs=>PySem.call f vs):=
 L2.walk_of (n:=63) (k:=65) (x:="script") (CX:=fun _=>fY) (sp:=fun w=>HJ (K w.params)) hn () hdf ⟨rfl,(),()⟩ hY F (fun _ _ a ns hl _ hS=>⟨a,ns,rfl,hS,hl,fun _=>rfl⟩) fun _ _ _ _ _ z=>z
end C
open PySem PySem.W PyProof.Rows
set_option maxRecDepth 100000 in
set_option maxHeartbeats 0 in
theorem PySem.Challenge.cw_clashbook_k64_whole_more_terms_holds : PySem.Challenge.rw_clashbook_k64_whole_more_terms.Holds := by
 w_on;o_law;k_head;(case hw=>w_witness2)
 k_fill
 refine C.walk (l:=PySem.Challenge.rw_clashbook_k64_whole_more_terms) rfl rfl (fun w h Y=>PySem.W.kIn_of Y) ?F
 case F=>
  intro w mg fa h KX G hmg;refine' C.all_mk KX G hmg ?_ (C.mQq ?_ ?_ ?_ ?_ ?_) (C.mQq ?_ ?_ ?_ ?_ ?_) (C.mQq ?_ ?_ ?_ ?_ ?_) (C.mQq ?_ ?_ ?_ ?_ ?_) ?_ ?_ ?_ ?_ ?_ ?_ ?_ ?_ ?_ ?_ ?_ (C.mQq ?_ ?_ ?_ ?_ ?_) (C.mQq ?_ ?_ ?_ ?_ ?_) (C.mQq ?_ ?_ ?_ ?_ ?_) (C.mQq ?_ ?_ ?_ ?_ ?_) ?_ ?_ ?_ ?_ ?_ ?_ ?_ ?_ (C.fQq ?_ ?_ ?_ ?_) (C.fQq ?_ ?_ ?_ ?_) (C.fQq ?_ ?_ ?_ ?_) (C.fQq ?_ ?_ ?_ ?_) (C.fQq ?_ ?_ ?_ ?_) (C.fQq ?_ ?_ ?_ ?_) (C.fQq ?_ ?_ ?_ ?_) (C.fQq ?_ ?_ ?_ ?_) (C.fQq ?_ ?_ ?_ ?_) (C.fQq ?_ ?_ ?_ ?_) (C.fQq ?_ ?_ ?_ ?_) (C.fQq ?_ ?_ ?_ ?_) (C.fQq ?_ ?_ ?_ ?_) (C.fQq ?_ ?_ ?_ ?_) (C.fQq ?_ ?_ ?_ ?_) (C.fQq ?_ ?_ ?_ ?_) (C.fQq ?_ ?_ ?_ ?_) (C.fQq ?_ ?_ ?_ ?_) (C.fQq ?_ ?_ ?_ ?_) (C.fQq ?_ ?_ ?_ ?_) (C.fQq ?_ ?_ ?_ ?_) (C.fQq ?_ ?_ ?_ ?_) (C.fQq ?_ ?_ ?_ ?_) (C.fQq ?_ ?_ ?_ ?_) (C.fQq ?_ ?_ ?_ ?_) (C.fQq ?_ ?_ ?_ ?_) (C.fQq ?_ ?_ ?_ ?_) (C.fQq ?_ ?_ ?_ ?_) (C.fQq ?_ ?_ ?_ ?_) (C.fQq ?_ ?_ ?_ ?_) (C.fQq ?_ ?_ ?_ ?_) (C.fQq ?_ ?_ ?_ ?_) (C.fQq ?_ ?_ ?_ ?_) (C.fQq ?_ ?_ ?_ ?_) (C.fQq ?_ ?_ ?_ ?_) (C.fQq ?_ ?_ ?_ ?_) (C.fQq ?_ ?_ ?_ ?_) (C.fQq ?_ ?_ ?_ ?_) (C.fQq ?_ ?_ ?_ ?_) (C.fQq ?_ ?_ ?_ ?_) (C.fQq ?_ ?_ ?_ ?_) (C.fQq ?_ ?_ ?_ ?_) (C.fQq ?_ ?_ ?_ ?_) (C.fQq ?_ ?_ ?_ ?_) (C.fQq ?_ ?_ ?_ ?_) (C.fQq ?_ ?_ ?_ ?_) (C.fQq ?_ ?_ ?_ ?_) (C.fQq ?_ ?_ ?_ ?_) (C.fQq ?_ ?_ ?_ ?_) (C.fQq ?_ ?_ ?_ ?_) ?_ ?_ ?_ ?_ ?_ ?_ ?_ ?_ ?_ ?_ ?_ ?_ ?_ ?_ ?_ ?_ ?_ ?_ ?_ ?_ ?_ ?_
  all_goals try k_is
