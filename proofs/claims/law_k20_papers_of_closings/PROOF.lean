import PyProof.Rows.All
import Wide.All
import OpenK.AllK
import Wide.FinOn
import Lean
import PyProof.EqAt
import PyProof.EqKinds
import PyProof.TupleCall
import PyProof.FitsReplace
import PyProof.StrLawsChain
import PyProof.IsiH_list
import KE.KDictOf
import PyProof.Rows.Exc
import PyProof.RulesTry
import PyProof.ForAppend
import PyProof.Rows.Tup
import PyProof.CollectWalk
import PyProof.Rows.DictListVals
import PyProof.AutoSeq1
import PyProof.FactsAll.list_3
import KE.KDictSum
import PyProof.Rows.SortStr
import PyProof.Rows.SortWalk
import PyProof.SetKind
import PyProof.Rows.SetObj
import PyProof.DictKinds
import PyProof.DictIter
import PyProof.MakeMany
import PyProof.WalksS
import PyProof.Walks
import PyProof.Seq
import PyProof.TupleIter
import PyProof.FactsAll.set_1
import PyProof.ForAny
import PyProof.Rows.SetFrom
import PyProof.Rows.StrMeet
import PyProof.NeKinds
import PyProof.ZipIter
import KE.BitLaws
import PyProof.Rows.TupAdd
import PySem.SetOps
import PyProof.EnumMake
import PyProof.EnumFor
import PyProof.Rows.EnumRows
import PyProof.Rows.Range3
import PyProof.Rows.BitMore
import PyProof.Rows.RuleM_int
import PyProof.DictRoadsH
import PyProof.Rows.SortShell
import PySem.Challenge.RW_clashbook_k20_papers_of_closings
namespace PySem.W.Fast
def tw15114292444955820851:=0
def tw3673854870507895079:=0
def tw10777546598877953906:=0
def tw138934224624102542:=0
def tw15097351439346899649:=0
def tw17896578665986637928:=0
def tw6654660103390693733:=0
def tw6227593962459934267:=0
def tw8107937636923438462:=0
def tw18272926628533376501:=0
def tw13340342147911697062:=0
def tw14176865627956013589:=0
def tw5106577732014880459:=0
def tw1502498244458465843:=0
def tw7582741183517183839:=0
def tw10460105788786680488:=0
def tw4735275538779069963:=0
def tw14778037650073186817:=0
def tw10999170269733514462:=0
def tw4067139817980153014:=0
def tw3688988460747936640:=0
def tw17069082970967933340:=0
def tw16485840340194510561:=0
def tw16127561477657087877:=0
def tw14878265887104007766:=0
def tw12001743936037747507:=0
def tw12069645337856475027:=0
def tw5044561361214144759:=0
def tw7476587703986070961:=0
def tw12098871294787968842:=0
def tw6520893486301751857:=0
def tw925678883952595283:=0
def tw15819923208621899392:=0
def tw15661963419857681523:=0
def tw1971644029705846356:=0
def tw15201585355680835149:=0
def tw10353983536013868316:=0
def tw13647475478334058374:=0
def tw17237312317276555871:=0
def tw14600454454666187039:=0
def tw6518521969855803402:=0
def tw12989934801910214763:=0
def tw421760926319633580:=0
def tw11888380906281154562:=0
def tw10167818506209723168:=0
def tw4303471312364384400:=0
def tw7499634611072750067:=0
def tw400362795149529056:=0
def tw14752777690014235279:=0
def tw3636938799350158643:=0
def tw16067678490237687442:=0
def tw470443495949606856:=0
def tw7830888996539682694:=0
def tw2054449305331310089:=0
def tw9002716761942982638:=0
def tw5066261488407624988:=0
def tw2662893939783859513:=0
def tw6123597681660812008:=0
def tw11074228657295187648:=0
def tw5402300782193812483:=0
def tw3007151599655723225:=0
def tw3884759851033349562:=0
def tw7267035112761727972:=0
def tw14398591871668777785:=0
def tw1852913319663175637:=0
def tw137254997627095682:=0
def tw17440071686958907251:=0
def tw8806360851370770165:=0
def tw12193598852956604327:=0
def tw1985836461808810170:=0
def tw14358955075979078540:=0
def tw7520234337898816466:=0
def tw2717949764269421763:=0
def tw14768755290087515057:=0
def tw9839958331379838643:=0
def tw16603941524768962149:=0
def tw4901673898329049821:=0
def tw2811089365456077825:=0
def tw11721905639082765868:=0
def tw5003087327917492301:=0
def tw17256254217573701913:=0
def tw12968361247696507728:=0
def tw8574077792345011369:=0
def tw9724431198354667597:=0
def tw8668449360531201520:=0
def tw159326102583344430:=0
def tw1422843618907981275:=0
def tw14499289145150255019:=0
def tw7827269194342752730:=0
def tw18350335234972673573:=0
def tw4117012779947859969:=0
def tw3005205805895226323:=0
def tw3780647530002863392:=0
def tw11281453699871026556:=0
def tw3595254159783068540:=0
def tw7151179177037237199:=0
def tw6786644803273084007:=0
def tw15437735081265582292:=0
def tw5405662890319672247:=0
def tw9024309606261703046:=0
def tw14552517153617011977:=0
def tw5427400130516813053:=0
def tw11513048564037641842:=0
def tw7312425445894138810:=0
def tw228862190014929361:=0
def tw3976029096080423841:=0
def tw9621950370021171410:=0
def tw407395563383413678:=0
def tw1218340035783494394:=0
def tw5390159697998761712:=0
def tw7930051439779141759:=0
def tw7684256814478292128:=0
def tw15985008618450090498:=0
def tw14250364872812140034:=0
def tw14499236366471583006:=0
def tw5526706405740188032:=0
def tw3971905385404437473:=0
def tw6162062875075235656:=0
def tw9961109303585189307:=0
def tw15072485552486532416:=0
def tw15713095467135208761:=0
def tw3541309503478221218:=0
def tw11358290572555985103:=0
def tw15544800080953114152:=0
def tw13581483429933200703:=0
def tw2639046694016480811:=0
def tw7398833389716817074:=0
def tw9140082405346522372:=0
def tw10859725057064980972:=0
def tw17711210781075528805:=0
def tw6062467791193117676:=0
def tw6186101196986375611:=0
def tw412775299503061243:=0
def tw3835524246657175679:=0
def tw8989813275642223731:=0
def tw7613118275149151483:=0
def tw15306400425021447641:=0
def tw3228450638334905802:=0
def tw13448481239152799556:=0
def tw7246155942699982926:=0
def tw3082285116959338843:=0
def tw2269110455696550845:=0
def tw1656401570396835062:=0
def tw16270074108294761144:=0
def tw4599705245750254620:=0
def tw1887913273302827089:=0
def tw12805026974892043682:=0
def tw12015649138717945874:=0
def tw16157549068385915882:=0
def tw402172478220177207:=0
def tw13366491994759727444:=0
def tw2265587354801147397:=0
def tw16747125449088042430:=0
def tw6537182333329623026:=0
def tw2739122317930408878:=0
def tw14818948990285462383:=0
def tw10205372973334888435:=0
def tw1495813808534378629:=0
def tw7500156091571303998:=0
def tw12227475807069484852:=0
def tw14731359194143453474:=0
def tw4820557972618913576:=0
def tw14673035809999510005:=0
def tw7723639818465884453:=0
def tw15233944142611255954:=0
def tw2450950084705640713:=0
def tw11954169700518016610:=0
def tw5372099707172353316:=0
def tw12596090856674618430:=0
def tw9412042612865797200:=0
def tw3404039123908459859:=0
def tw17729344295517967734:=0
def tw2000177661036733621:=0
def tw1083608343282440166:=0
def tw17808247220621255602:=0
def tw14232823462583883393:=0
def tw8545037623745121955:=0
def tw10393745721781011658:=0
def tw13526728410413451876:=0
def tw14588076583665636127:=0
def tw5174076615148181766:=0
def tw17111365468558852837:=0
def tw5310946404891567269:=0
def tw15580410916002239839:=0
def tw9645926566707694068:=0
def tw11875481799411016147:=0
def tw12317223559228645294:=0
def tw1155781541741279461:=0
def tw12520703389197971116:=0
def tw6073950477821116153:=0
def tw1953268309277122704:=0
def tw9045862043433522782:=0
def tw10717640971348762873:=0
def tw9379890042692635768:=0
def tw7790317041516559122:=0
def tw16311034553909562465:=0
def tw16735105220008468735:=0
def tw7631741331913279009:=0
def tw397449382133457356:=0
def tw16707287164507452144:=0
def tw12542852541478854936:=0
def tw4614783052062329461:=0
def tw10604391828840643236:=0
def tw316340842909262261:=0
def tw15035409680036071286:=0
def tw6223046880618244717:=0
def tw1657778433923353988:=0
def tw6847101210444178651:=0
def tw4387909918515663616:=0
def tw10774607341976378231:=0
def tw6296130562635531347:=0
def tw5757175959050618162:=0
def tw14294610605222860315:=0
def tw9804192228828019953:=0
def tw3854709721854638168:=0
def tw13089182734496213283:=0
def tw1767477111659577314:=0
def tw16879963939573161683:=0
def tw17696327188779477199:=0
def tw14391830621579453930:=0
def tw17251478516854910885:=0
def tw4237617716188311250:=0
def tw15029799468992373437:=0
def tw5939898493418513422:=0
def tw5707683380910595169:=0
def tw3851707040811196208:=0
def tw6098385568575649354:=0
def tw12508401090323020523:=0
def tw996887516782191363:=0
def tw2195465391486965033:=0
def tw11360592534991389009:=0
def tw927881846958735526:=0
def tw6489104039706247634:=0
def tw7518908151090198058:=0
def tw3829011225504817611:=0
def tw4693373570374101485:=0
def tw6085071563735421389:=0
def tw45132918346737877:=0
def tw357005171233290856:=0
def tw12693349156636799404:=0
def tw5763227626896923275:=0
def tw5142425380882275072:=0
def tw12500494034498508394:=0
def tw14961565415432857349:=0
def tw2742215768072931027:=0
def tw16576052053588277950:=0
def tw1858211439385396929:=0
def tw10031293458721331722:=0
def tw10165200503807168052:=0
def tw563472633765507398:=0
def tw6078177641512843534:=0
def tw854609960937033789:=0
def tw16841592075771546303:=0
def tw7608755702269957928:=0
def tw4183597935343710038:=0
def tw14955423883597648067:=0
def tw9411743597755962624:=0
def tw8611650982229360493:=0
def tw4322041294397230007:=0
def tw7029738648144680414:=0
def tw17414041320003290203:=0
def tw8410911471987194286:=0
def tw14475449222065010214:=0
def tw2730041001043277536:=0
def tw3199213267620622251:=0
def tw16163377177439961407:=0
end PySem.W.Fast
set_option Elab.async false
set_option linter.all false
set_option maxRecDepth 100000
namespace L2
open PySem PySem.Spec PyProof.Rows
abbrev Key:=Sum Int Str
def keyIs:Key -> Value -> Bool
 | .inl k,v => Value.isInt k v
 | .inr x,v => Value.isStrOf x v
def keyH (w:World):Key -> Int
 | .inl k => hashInt k
 | .inr x => hashStr w x
theorem keyIs_shape:∀ {k:Key} {v:Value},keyIs k v = true -> (∃ i t,k = Sum.inl i /\ v = Value.int i t) \/ (∃ x t,k = Sum.inr x /\ v = Value.str x t)
 | .inl i, v, h => by
   obtain ⟨t,e⟩:=Value.isInt_shape (k:=i) (v:=v) h
   exact .inl ⟨i,t,rfl,e⟩
 | .inr x, v, h => by
   obtain ⟨t,e⟩:=Value.isStrOf_shape (x:=x) (v:=v) h
   exact .inr ⟨x,t,rfl,e⟩
theorem keyIs_int (i:Int) (t:Tok):keyIs (.inl i) (.int i t) = true:=by simp [keyIs,Value.isInt]
theorem keyIs_str (x:Str) (t:Tok):keyIs (.inr x) (.str x t) = true:=by simp [keyIs,Value.isStrOf]
theorem key_ll (a b:Int):decide ((Sum.inl a:Key) = Sum.inl b) = (a == b):=by
 by_cases e:a = b
 · subst e; simp
 · have h : ¬ (Sum.inl a : Key) = Sum.inl b := fun q => e (Sum.inl.inj q)
   rw [decide_eq_false h]
   exact (beq_eq_false_iff_ne.mpr e).symm
theorem key_rr (a b:Str):decide ((Sum.inr a:Key) = Sum.inr b) = decide (a = b):=by
 by_cases e:a = b
 · subst e; simp
 · have h : ¬ (Sum.inr a : Key) = Sum.inr b := fun q => e (Sum.inr.inj q)
   rw [decide_eq_false h,decide_eq_false e]
theorem key_lr (a:Int) (b:Str):decide ((Sum.inl a:Key) = Sum.inr b) = false:=decide_eq_false (fun q => nomatch q)
theorem key_rl (a:Str) (b:Int):decide ((Sum.inr a:Key) = Sum.inl b) = false:=decide_eq_false (fun q => nomatch q)
def yH (prog:Program) (w:World):PySem.KeyKind prog w Key where
 is:=keyIs
 hash:=keyH w
 inj := fun v a b ha hb => by
   rcases keyIs_shape ha with ⟨i,t,rfl,rfl⟩ | ⟨x,t,rfl,rfl⟩
   · rcases keyIs_shape hb with ⟨j, u, rfl, e⟩ | ⟨y, u, rfl, e⟩
     · injection e with e1 _; rw [e1]
     · exact nomatch e
   · rcases keyIs_shape hb with ⟨j, u, rfl, e⟩ | ⟨y, u, rfl, e⟩
     · exact nomatch e
     · injection e with e1 _; rw [e1]
 byValue:=fun k v h => by
   rcases keyIs_shape h with ⟨i,t,rfl,rfl⟩ | ⟨x,t,rfl,rfl⟩ <;> rfl
 pyHash:=fun hv h => by
   rcases keyIs_shape hv with ⟨i,t,rfl,rfl⟩ | ⟨x,t,rfl,rfl⟩
   · exact wpAny_pyHash_int h
   · exact wpAny_pyHash_str h
 eqBool:=fun hu hv h => by
   rcases keyIs_shape hu with ⟨i,t,rfl,rfl⟩ | ⟨x,t,rfl,rfl⟩
   · rcases keyIs_shape hv with ⟨j, u, rfl, rfl⟩ | ⟨y, u, rfl, rfl⟩
     · rw [key_ll] at h; exact wpAny_eqBool_int h
     · rw [key_lr] at h; exact SeqAt.EqAt.int_str i t y u _ _ _ _ h
   · rcases keyIs_shape hv with ⟨j, u, rfl, rfl⟩ | ⟨y, u, rfl, rfl⟩
     · rw [key_rl] at h; exact SeqAt.EqAt.str_int x t j u _ _ _ _ h
     · rw [key_rr] at h; exact wpAny_eqBool_str h
 «strs»:=fun k x t v h => by
   rcases keyIs_shape h with ⟨i,u,rfl,e⟩ | ⟨y,u,rfl,e⟩
   · exact nomatch e
   · injection e with e1 _
     subst e1
     cases v <;> rfl
theorem mixKind_int (prog:Program) (w:World) (i:Int) (t:Tok):(yH prog w).is (.inl i) (.int i t) = true:=keyIs_int i t
theorem qL (prog:Program) (w:World) (x:Str) (t:Tok):(yH prog w).is (.inr x) (.str x t) = true:=keyIs_str x t
inductive V where
 | non | bl (b:Bool) | int (i:Int) | str (x:Str) | byt (b:Array UInt8) | flt (b:UInt64) | ref (a:Addr) | ty (n:String)
 deriving DecidableEq
def RelV:V -> Value -> Prop
 | .non,u => u = Value.none
 | .bl b,u => u = Value.bool b
 | .int i,u => ∃ t,u = Value.int i t
 | .str x,u => ∃ t,u = Value.str x t
 | .byt b,u => ∃ t,u = Value.bytes b t
 | .flt b,u => ∃ t,u = Value.float b t
 | .ref a,u => u = Value.ref a
 | .ty n,u => u = Value.type n
abbrev Vals:List V -> List Value -> Prop:=Paired RelV
theorem Vals.length {xs:List V} {us:List Value} (r:Vals xs us):xs.length = us.length:=Paired.length r
theorem Vals.get:∀ {xs:List V} {us:List Value} {i:Nat} {x:V},Vals xs us -> xs[i]? = some x -> ∃ u,us[i]? = some u /\ RelV x u
 | _,_,_,_,.nil,e => by simp at e
 | _,_,0,_,.cons r _,e => by simp at e; subst e; exact ⟨_,rfl,r⟩
 | _, _, i + 1, x, .cons _ t, e => by
   obtain ⟨u,h1,h2⟩:=Vals.get (i:=i) (x:=x) t (by simpa using e)
   exact ⟨u,by simpa using h1,h2⟩
theorem Vals.set {x:V} {u:Value} (r:RelV x u):∀ {xs:List V} {us:List Value} (i:Nat),Vals xs us -> Vals (xs.set i x) (us.set i u)
 | _,_,_,.nil => .nil
 | _,_,0,.cons _ t => .cons r t
 | _,_,i + 1,.cons q t => .cons q (Vals.set r i t)
theorem Vals.append:∀ {xs ys:List V} {us ws:List Value},Vals xs us -> Vals ys ws -> Vals (xs ++ ys) (us ++ ws)
 | _,_,_,_,.nil,s => s
 | _,_,_,_,.cons r t,s => .cons r (Vals.append t s)
theorem Vals.take:∀ {xs:List V} {us:List Value} (n:Nat),Vals xs us -> Vals (xs.take n) (us.take n)
 | _,_,0,_ => .nil
 | _,_,_ + 1,.nil => .nil
 | _,_,n + 1,.cons r t => .cons r (Vals.take n t)
theorem Vals.drop:∀ {xs:List V} {us:List Value} (n:Nat),Vals xs us -> Vals (xs.drop n) (us.drop n)
 | _,_,0,r => r
 | _,_,_ + 1,.nil => .nil
 | _,_,n + 1,.cons _ t => Vals.drop n t
def RelO:Option V -> Option Value -> Prop
 | some v,some u => RelV v u
 | none,none => True
 | _,_ => False
def KV {κ:Type}:List (κ × V) -> List (κ × Value) -> Prop:=Paired fun (p:κ × V) (q:κ × Value) => p.1 = q.1 /\ RelV p.2 q.2
def kV:Key -> V
 | .inl i => .int i
 | .inr x => .str x
inductive HO where
 | lst (xs:List V)
 | tup (xs:List V)
 | dK (kvs:List (Key × V)) | dT (kvs:List (List Key × V))
 | set (S:Int -> Bool) (n:Nat)
 | ins (C dx:Addr) (fs:List (Str × V))
 | own (x:Addr)
 | xd (fs:List (Str × V))
 | met (f x:Addr)
 | rng (lo hi:Int)
 | frz (o:Obj) (u:HO)
 | tbl (ps:Array Value)
 | ext (φ:Heap -> Prop)
abbrev Hp:=Addr -> Option HO
def upd (H:Hp) (a:Addr) (o:HO):Hp:=fun b => if b = a then some o else H b
theorem zC {H:Hp} {a:Addr} {o:HO}:upd H a o a = some o:=by unfold upd; rw [if_pos rfl]
theorem zH {H:Hp} {a b:Addr} {o:HO} (h:b ≠ a):upd H a o b = H b:=by unfold upd; rw [if_neg h]
theorem xU {H:Hp} {a b:Addr} {o u:HO} (h:H a = some o) (h':H b = some u) (d:o ≠ u):a ≠ b:=by
 intro e; subst e; rw [h] at h'; exact d (Option.some.inj h')
theorem yT {H:Hp} {a b:Addr} {o:HO} (h:H a = some o) (h':H b = none):a ≠ b:=by
 intro e; subst e; rw [h] at h'; cases h'
section
variable (P:Program) (w:World)
def ObjOk (H:Hp) (h:Heap) (a:Addr):HO -> Prop
 | .lst xs => xs.length <= sizeLine /\ ∃ (its:List Value) (n:Nat),Vals xs its /\ h.get? a = some { cls:=.type "list",data:=.seq its.toArray n }
 | .tup xs => xs.length <= sizeLine /\ ∃ its:List Value,Vals xs its /\ IsTup h a its.toArray
 | .dK kvs => kvs.length <= sizeLine /\ (a == sysModules) = false /\ ∃ vs,KV kvs vs /\ h.DictOf (yH P w) a vs
 | .dT kvs => kvs.length <= sizeLine /\ (a == sysModules) = false /\ ∃ xs:List (List Key × Addr × Value),
     Paired (fun (p:List Key × V) (q:List Key × Addr × Value) => p.1 = q.1 /\ H q.2.1 = some (.tup (p.1.map kV)) /\ RelV p.2 q.2.2) kvs xs /\
     ∃ o es ep,h.get? a = some o /\ o.ExactDict /\ o.data = .dict es ep /\ es.toList = xs.map (entryOfKey (tupleKind (yH P w))) /\ (xs.map (·.1)).Nodup
 | .set S n => h.SetOf (intKind P w) a S n
 | .ins C dx fs => H dx = some (.own a) /\ fs.length <= 1000 /\ dx ≠ a /\ h.get? a = some (PySem.W.instObj C dx) /\
     ∃ mA,h.Ns1 dx mA /\ (∀ f,RelO (fs.lookup f) (mA f)) /\ PySem.Within mA (fs.map (·.1))
 | .own _ => ∃ o,h.get? a = some o
 | .xd fs => ∃ mA,h.Ns1 a mA /\ ∀ f,RelO (fs.lookup f) (mA f)
 | .rng lo hi => ∃ t u v,h.get? a = some { cls:=.type "range",data:=.fields #[.int lo t,.int hi u,.int 1 v] }
 | .frz o u => h.get? a = some o /\ ObjOk H h a u
 | .tbl ps => h.get? a = some { cls:=.none,data:=.fields ps }
 | .met f x => h.get? a = some (PySem.W.methodObj (.ref f) (.ref x))
 | .ext φ => φ h /\ (∃ o,h.get? a = some o) /\ ∀ h1 h2:Heap,φ h1 -> (∀ o,h1.get? a = some o -> h2.get? a = some o) -> φ h2
def HOk (H:Hp) (h:Heap):Prop:=∀ a o,H a = some o -> ObjOk P w H h a o
end
section
variable {P:Program} {w:World} {H H':Hp} {h h':Heap} {a:Addr} {o:HO}
theorem ObjOk.lt (x:ObjOk P w H h a o):a < h.objs.size:=by
 cases o with
 | lst xs => obtain ⟨_,_,_,_,e⟩:=x; exact Heap.lt_size e
 | tup xs => obtain ⟨_,_,_,p⟩:=x; exact p.lt
 | dK kvs => obtain ⟨_,_,_,_,o,_,_,e,_⟩:=x; exact Heap.lt_size e
 | dT kvs => obtain ⟨_,_,_,_,o,_,_,e,_⟩:=x; exact Heap.lt_size e
 | set S n => obtain ⟨o,_,_,_,e,_⟩:=x; exact Heap.lt_size e
 | ins C dx fs => obtain ⟨_,_,_,e,_⟩:=x; exact Heap.lt_size e
 | own y => obtain ⟨_,e⟩:=x; exact Heap.lt_size e
 | xd fs => obtain ⟨_,⟨_,_,_,e,_⟩,_⟩:=x; exact Heap.lt_size e
 | rng lo hi => obtain ⟨_,_,_,e⟩:=x; exact Heap.lt_size e
 | frz ob u => obtain ⟨e,_⟩:=x; exact Heap.lt_size e
 | tbl ps => exact Heap.lt_size (show h.get? a = some _ from x)
 | met f y => exact Heap.lt_size (show h.get? a = some _ from x)
 | ext φ => obtain ⟨_,⟨_,e⟩,_⟩:=x; exact Heap.lt_size e
theorem Paired.mapP {α β:Type} {F G:α -> β -> Prop}:∀ {l₁:List α} {l₂:List β},Paired F l₁ l₂ -> (∀ a b,F a b -> G a b) -> Paired G l₁ l₂
 | _,_,.nil,_ => .nil
 | _,_,.cons r t,f => .cons (f _ _ r) (Paired.mapP t f)
theorem ObjOk.stay (x:ObjOk P w H h a o) (k:∀ b u,(b = a \/ H b = some (.own a)) -> h.get? b = some u -> h'.get? b = some u)
   (ho:∀ b,H b = some (.own a) -> H' b = some (.own a)) (ht:∀ b xs,H b = some (.tup xs) -> H' b = some (.tup xs)):ObjOk P w H' h' a o:=by
 induction o with
 | lst xs => obtain ⟨z,its,n,r,e⟩:=x; exact ⟨z,its,n,r,k _ _ (.inl rfl) e⟩
 | tup xs => obtain ⟨z,its,r,ob,e,c⟩:=x; exact ⟨z,its,r,ob,k _ _ (.inl rfl) e,c⟩
 | dK kvs => obtain ⟨z,y,vs,r,ob,es,ep,e,c⟩:=x; exact ⟨z,y,vs,r,ob,es,ep,k _ _ (.inl rfl) e,c⟩
 | dT kvs =>
   obtain ⟨z,y,xs,r,ob,es,ep,e,c⟩:=x
   exact ⟨z,y,xs,Paired.mapP r fun p q z => ⟨z.1,ht _ _ z.2.1,z.2.2⟩,ob,es,ep,k _ _ (.inl rfl) e,c⟩
 | set S n => obtain ⟨ob,es,ep,t,e,c⟩:=x; exact ⟨ob,es,ep,t,k _ _ (.inl rfl) e,c⟩
 | ins C dx fs =>
   obtain ⟨d,z,ne,e,mA,⟨od,es,ep,e2,c⟩,r⟩:=x
   exact ⟨ho _ d,z,ne,k _ _ (.inl rfl) e,mA,⟨od,es,ep,k _ _ (.inr d) e2,c⟩,r⟩
 | own y => obtain ⟨ob,e⟩:=x; exact ⟨ob,k _ _ (.inl rfl) e⟩
 | xd fs => obtain ⟨mA,⟨od,es,ep,e,c⟩,r⟩:=x; exact ⟨mA,⟨od,es,ep,k _ _ (.inl rfl) e,c⟩,r⟩
 | rng lo hi => obtain ⟨t,u,v,e⟩:=x; exact ⟨t,u,v,k _ _ (.inl rfl) e⟩
 | frz ob u ih => obtain ⟨e,q⟩:=x; exact ⟨k _ _ (.inl rfl) e,ih q⟩
 | tbl ps =>
   have e:h.get? a = some { cls:=.none,data:=.fields ps }:=x
   show h'.get? a = some { cls:=.none,data:=.fields ps }
   exact k a _ (.inl rfl) e
 | met f y =>
   have e:h.get? a = some (PySem.W.methodObj (.ref f) (.ref y)):=x
   show h'.get? a = some (PySem.W.methodObj (.ref f) (.ref y))
   exact k a _ (.inl rfl) e
 | ext φ => obtain ⟨p,⟨o,e⟩,st⟩:=x; exact ⟨st _ _ p fun o q => k _ _ (.inl rfl) q,⟨o,k _ _ (.inl rfl) e⟩,st⟩
theorem HOk.lt (x:HOk P w H h) (e:H a = some o):a < h.objs.size:=(x a o e).lt
theorem HOk.fresh (x:HOk P w H h) (e:h.objs.size <= a):H a = none:=by
 cases q:H a with
 | none => rfl
 | some u => exact absurd (Nat.lt_of_lt_of_le (x.lt q) e) (Nat.lt_irrefl _)
theorem HOk.kept (x:HOk P w H h) (k:∀ b u,h.get? b = some u -> h'.get? b = some u):HOk P w H h':=fun a o e =>
 (x a o e).stay (fun b u _ q => k b u q) (fun _ q => q) fun _ _ q => q
theorem HOk.laid (x:HOk P w H h) (k:∀ b u,h.get? b = some u -> h'.get? b = some u) (hp:h.objs.size <= a) (new:ObjOk P w (upd H a o) h' a o):HOk P w (upd H a o) h':=fun b u e => by
 have hn:=x.fresh hp
 by_cases hb:b = a
 · subst hb; rw [zC] at e; cases e; exact new
 · rw [zH hb] at e
   exact (x b u e).stay (fun c v _ q => k c v q) (fun c q => by rw [zH (yT q hn)]; exact q) fun c xs q => by rw [zH (yT q hn)]; exact q
end
def Rd (H:Hp) (a:Addr) (u:HO):Prop:=H a = some u \/ ∃ o,H a = some (.frz o u)
theorem Rd.ok {P:Program} {w:World} {H:Hp} {h:Heap} {a:Addr} {u:HO} (r:Rd H a u) (x:HOk P w H h):ObjOk P w H h a u:=by
 rcases r with r | ⟨o,r⟩
 · exact x a u r
 · obtain ⟨_, q⟩ := x a _ r
   exact q
def Mut:Option HO -> Prop
 | some (.lst _) => True
 | some (.dK _) => True
 | some (.dT _) => True
 | some (.set _ _) => True
 | some (.ins _ _ _) => True
 | some (.ext _) => True
 | _ => False
section
variable {P:Program} {w:World} {H:Hp} {h h':Heap} {x e:Addr} {o':HO}
theorem HOk.write (ok:HOk P w H h) (mu:Mut (H x)) (he:e = x \/ H e = some (.own x)) (k:∀ b u,b ≠ e -> h.get? b = some u -> h'.get? b = some u) (heo:∃ u,h'.get? e = some u)
   (new:ObjOk P w (upd H x o') h' x o'):HOk P w (upd H x o') h':=fun b u q => by
 have nown:∀ c y,H c = some (.own y) -> c ≠ x:=fun c y r z => by subst z; rw [r] at mu; exact mu
 have ntup:∀ c xs,H c = some (.tup xs) -> c ≠ x:=fun c xs r z => by subst z; rw [r] at mu; exact mu
 by_cases hb:b = x
 · subst hb; rw [zC] at q; cases q; exact new
 · rw [zH hb] at q
   by_cases hbe:b = e
   · have q' : H b = some (.own x) := by
       rcases he with z | z
       · exact absurd (hbe.trans z) hb
       · rw [hbe]; exact z
     rw [q] at q'; cases q'
     obtain ⟨v,hv⟩:=heo
     exact ⟨v,by rw [hbe]; exact hv⟩
   · refine (ok b u q).stay (fun c v hc r => k c v ?_ r) (fun c r => by rw [zH (nown c b r)]; exact r) fun c xs r => by rw [zH (ntup c xs r)]; exact r
     rcases hc with rfl | hc
     · exact hbe
     · rintro rfl
       rcases he with z | z
       · exact nown c b hc z
       · rw [hc] at z; cases z; exact hb rfl
end
structure Un (fs ex:List Addr) (H H':Hp) (h h':Heap):Prop where
 keep:∀ b o,h.get? b = some o -> H b = none -> b ∉ fs -> b ∉ ex -> h'.get? b = some o
 slot:∀ b o,h.get? b = some o -> H b = none -> b ∈ fs -> b ∉ ex -> ∃ sl,h'.get? b = some { o with slots:=sl }
 free:∀ b o,h.get? b = some o -> H b = none -> b ∉ ex -> H' b = none
 there:∀ b o,h.get? b = some o -> b ∉ ex -> ∃ o',h'.get? b = some o'
 tups:∀ b xs,H b = some (.tup xs) -> H' b = some (.tup xs)
 frzs:∀ b o u,H b = some (.frz o u) -> H' b = some (.frz o u)
 tbls:∀ b ps,H b = some (.tbl ps) -> ∃ more,H' b = some (.tbl (ps ++ more))
section
variable {fs fs' ex ex':List Addr} {H H1 H2:Hp} {h h1 h2 h':Heap} {a x e:Addr} {o:HO}
theorem Un.any (u:Un fs ex H H1 h h1) {b:Addr} {ob:Obj} (q:h.get? b = some ob) (n:H b = none) (hx:b ∉ ex):∃ sl,h1.get? b = some { ob with slots:=sl }:=by
 by_cases hb:b ∈ fs
 · exact u.slot b ob q n hb hx
 · exact ⟨ob.slots,u.keep b ob q n hb hx⟩
theorem Un.trans (a:Un fs ex H H1 h h1) (b:Un fs ex H1 H2 h1 h2):Un fs ex H H2 h h2 where
 keep:=fun c ob q n hc hx => b.keep c ob (a.keep c ob q n hc hx) (a.free c ob q n hx) hc hx
 slot:=fun c ob q n hc hx => by
   obtain ⟨sl,e1⟩:=a.slot c ob q n hc hx
   obtain ⟨sl',e2⟩:=b.slot c _ e1 (a.free c ob q n hx) hc hx
   exact ⟨sl',e2⟩
 free:=fun c ob q n hx => by
   obtain ⟨o',e1⟩:=a.there c ob q hx
   exact b.free c o' e1 (a.free c ob q n hx) hx
 there:=fun c ob q hx => by
   obtain ⟨o',e1⟩:=a.there c ob q hx
   exact b.there c o' e1 hx
 tups:=fun c xs q => b.tups c xs (a.tups c xs q)
 frzs:=fun c ob xs q => b.frzs c ob xs (a.frzs c ob xs q)
 tbls:=fun c ps q => by
   obtain ⟨m1,e1⟩:=a.tbls c ps q
   obtain ⟨m2,e2⟩:=b.tbls c _ e1
   exact ⟨m1 ++ m2,by rw [e2,Array.append_assoc]⟩
theorem Un.kept (k:∀ b u,h.get? b = some u -> h'.get? b = some u):Un fs ex H H h h' :=
 ⟨fun b ob q _ _ _ => k b ob q,fun b ob q _ _ _ => ⟨ob.slots,k b ob q⟩,fun _ _ _ n _ => n,fun b ob q _ => ⟨ob,k b ob q⟩,fun _ _ q => q,fun _ _ _ q => q,fun _ ps q => ⟨#[],by rw [q]; simp⟩⟩
theorem Un.refl:Un fs ex H H h h:=Un.kept fun _ _ q => q
theorem Un.laid (k:∀ b u,h.get? b = some u -> h'.get? b = some u) (hp:h.objs.size <= a) (hn:H a = none):Un fs ex H (upd H a o) h h' where
 keep:=fun b u q _ _ _ => k b u q
 slot:=fun b u q _ _ _ => ⟨u.slots,k b u q⟩
 free:=fun b u q n _ => by rw [zH (Nat.ne_of_lt (Nat.lt_of_lt_of_le (Heap.lt_size q) hp))]; exact n
 there:=fun b u q _ => ⟨u,k b u q⟩
 tups:=fun b xs q => by rw [zH (yT q hn)]; exact q
 frzs:=fun b u xs q => by rw [zH (yT q hn)]; exact q
 tbls:=fun b ps q => ⟨#[],by rw [zH (yT q hn),q]; simp⟩
theorem Un.write (mu:Mut (H x)) (he:e = x \/ H e = some (.own x)) (k:∀ b u,b ≠ e -> h.get? b = some u -> h'.get? b = some u) (heo:∃ u,h'.get? e = some u):Un fs ex H (upd H x o) h h':=by
 have hx:∀ b,H b = none -> b ≠ x:=fun b n z => by subst z; rw [n] at mu; exact mu
 have hb:∀ b,H b = none -> b ≠ e:=fun b n z => by
   subst z
   rcases he with r | r
   · exact hx b n r
   · rw [n] at r; cases r
 have hm:∀ b u,H b = some u -> ¬ Mut (some u) -> b ≠ x:=fun b u q nm z => by subst z; rw [q] at mu; exact nm mu
 refine ⟨fun b u q n _ _ => k b u (hb b n) q,fun b u q n _ _ => ⟨u.slots,k b u (hb b n) q⟩,fun b u q n _ => by rw [zH (hx b n)]; exact n,fun b u q _ => ?_,
   fun b xs q => by rw [zH (hm b _ q fun z => z)]; exact q,fun b u xs q => by rw [zH (hm b _ q fun z => z)]; exact q,fun b ps q => ⟨#[],by rw [zH (hm b _ q fun z => z),q]; simp⟩⟩
 by_cases hbe:b = e
 · subst hbe; exact heo
 · exact ⟨u,k b u hbe q⟩
end
def trk (h:Heap) (H:Hp):List Addr:=(List.range h.objs.size).filter fun a => (H a).isSome
def ZY (h:Heap) (H:Hp):Heap:=PySem.W.hideAll h (trk h H)
theorem hidT_size (h:Heap) (H:Hp):(ZY h H).objs.size = h.objs.size:=PySem.W.hideAll_size _ _
theorem hidT_get {h:Heap} {H:Hp} {b:Addr} {o:Obj} (e:h.get? b = some o) (n:H b = none):(ZY h H).get? b = some o :=
 PySem.W.hideAll_get _ e fun hm => by
   have q:(H b).isSome = true:=(List.mem_filter.mp hm).2
   rw [n] at q; simp at q
theorem of_hidT {h:Heap} {H:Hp} {b:Addr} {o:Obj} (e:(ZY h H).get? b = some o):h.get? b = some o /\ H b = none:=by
 have e':h.get? b = some o:=PySem.W.of_hideAll (trk h H) e
 refine ⟨e',?_⟩
 cases q:H b with
 | none => rfl
 | some x =>
   have hm:b ∈ trk h H:=List.mem_filter.mpr ⟨List.mem_range.mpr (Heap.lt_size e'),by simp [q]⟩
   have z:(ZY h H).get? b = none:=PySem.W.hideAll_none (trk h H) hm
   rw [z] at e; cases e
def allNews (g h:Heap) (L:Addr):List (Addr × Obj):=(List.range h.objs.size).filterMap fun a => if a = L \/ (g.get? a).isSome = true then none else (h.get? a).map fun o => (a,o)
def rest (g h:Heap) (L d:Addr):List (Addr × Obj):=(allNews g h L).filter fun p => decide (p.1 ≠ d)
structure Mod (K:PySem.W.Frag) (mg:Str -> Option Value) (base:Heap):Prop where
 kin:K.In base
 glob:base.Ns mainGlobals mg
 blt:∃ mb,base.Ns builtinsNs mb /\ ∀ x:Str,x ≠ "__name__" -> mb x = bootBuiltins x
 nolimit:base.NoLimit
structure Cx where
 prog:Program
 w:World
 K:PySem.W.Frag
 mg:Str -> Option Value
 base:Heap
 A:Around
 N:List Str
 s₀:Shared
 H₀:Hp
 env:Env
 outer:List Env
 stack:List Env
 ex:List Addr
 fn:Str -> Bool
 calm:Bool
 pn:List (Addr × Obj)
 xe:Value -> Shared -> Prop
def frs (l:List Env):List Addr:=l.filterMap (·.frame)
abbrev Cx.fs (X:Cx):List Addr:=frs X.outer
def Vis (sc:Scope) (x:Str):Prop:=sc.names.lookup x = some .local \/ sc.names.lookup x = some .cell \/ sc.names.lookup x = some .free
def Loc (sc:Scope) (x:Str):Prop:=sc.names.lookup x = some .local \/ sc.names.lookup x = some .cell
def Look (env:Env) (h:Heap) (m:Str -> Option Value) (x:Str) (u:Value):Prop :=
 (env.kindOf x = some .local /\ m x = some u) \/ ((env.kindOf x = some .cell \/ env.kindOf x = some .free) /\ ∃ c,env.cells.lookup x = some c /\ h.IsCell c (some u))
structure Cx.Ok (X:Cx):Prop where
 mod:Mod X.K X.mg X.base
 kind:X.env.scope.kind = .function
 glob:X.env.globals = mainGlobals
 blt:X.env.builtins = builtinsNs
 above:X.s₀.heap.objs.size <= X.env.locals
 inj:∀ x y c,X.env.cells.lookup x = some c -> X.env.cells.lookup y = some c -> x = y
 has:∀ x,(X.env.kindOf x = some .cell \/ X.env.kindOf x = some .free) -> ∃ c,X.env.cells.lookup x = some c
 cab:∀ x c,X.fn x = true -> X.env.cells.lookup x = some c -> X.s₀.heap.objs.size <= c
 hd:X.calm = true -> X.A.handled = none
 frames:X.A.frames = some X.stack
 stk:X.stack = X.outer \/ (X.stack = X.env :: X.outer /\ X.env.frame = some X.env.locals)
 exf:∀ b ∈ X.ex,b ≠ X.env.locals /\ ∀ x c,X.env.cells.lookup x = some c -> c ≠ b
 bs:∀ b o,X.base.get? b = some o -> X.s₀.heap.get? b = some o /\ X.H₀ b = none
 bsz:X.base.objs.size <= X.s₀.heap.objs.size
 noex:∀ b o,X.base.get? b = some o -> b ∉ X.ex
 exfs:∀ b ∈ X.ex,b ∉ X.fs
 funs:X.s₀.heap.FunFrames X.base X.outer
 frf:∀ b ∈ X.fs,X.H₀ b = none
structure Inv (X:Cx) (pins:List (Addr × Obj)) (σ:List (Option V)) (H:Hp) (s:Shared):Prop where
 ok:X.Ok
 os:s.os = X.s₀.os
 bare:AllBare s.gens
 base:Un X.fs X.ex X.H₀ H X.s₀.heap s.heap
 loc:∃ m,s.heap.Ns X.env.locals m /\ ∀ (i:Nat) (x:Str) (v:V),X.N[i]? = some x -> σ[i]? = some (some v) -> Vis X.env.scope x -> ∃ u,RelV v u /\ Look X.env s.heap m x u
 cell:∀ x c,X.env.cells.lookup x = some c -> ∃ v,s.heap.IsCell c v
 free:H X.env.locals = none
 freeC:∀ x c,X.env.cells.lookup x = some c -> H c = none
 pin:∀ p ∈ X.pn ++ pins,s.heap.get? p.1 = some p.2 /\ H p.1 = none /\ p.1 ≠ X.env.locals /\ p.1 ∉ X.fs /\ ∀ v,p.2.data ≠ .cell v
 hok:HOk X.prog X.w H s.heap
 len:σ.length = X.N.length
section
variable {X:Cx} {pins:List (Addr × Obj)} {σ:List (Option V)} {H H':Hp} {s:Shared} {h':Heap}
theorem Cx.Ok.nofr (ok:X.Ok) {b:Addr} {o:Obj} (e:X.base.get? b = some o):b ∉ X.fs:=fun hb => by
 have:=(ok.funs.mem hb).1
 rw [e] at this; cases this
theorem Inv.bs (I:Inv X pins σ H s):∀ b o,X.base.get? b = some o -> s.heap.get? b = some o /\ H b = none:=fun b o e =>
 ⟨I.base.keep b o (I.ok.bs b o e).1 (I.ok.bs b o e).2 (I.ok.nofr e) (I.ok.noex b o e),I.base.free b o (I.ok.bs b o e).1 (I.ok.bs b o e).2 (I.ok.noex b o e)⟩
theorem Inv.bk (I:Inv X pins σ H s):∀ b o,X.base.get? b = some o -> s.heap.get? b = some o:=fun b o e => (I.bs b o e).1
theorem Inv.mod (I:Inv X pins σ H s):Mod X.K X.mg X.base:=I.ok.mod
theorem Inv.kIn (I:Inv X pins σ H s):X.K.In s.heap:=I.ok.mod.kin.keeps I.bk
theorem Inv.lt (I:Inv X pins σ H s):X.env.locals < s.heap.objs.size:=let ⟨_,hn,_⟩:=I.loc; hn.lt
theorem Inv.sz (I:Inv X pins σ H s):X.s₀.heap.objs.size <= s.heap.objs.size:=Nat.le_trans I.ok.above (Nat.le_of_lt I.lt)
theorem Inv.nofs (I:Inv X pins σ H s) {a:Addr} (h:s.heap.objs.size <= a):a ∉ X.fs:=fun hb => by
 obtain ⟨_,o,ho,_⟩:=I.ok.funs.mem hb
 exact absurd (Nat.lt_of_lt_of_le (Heap.lt_size ho) (Nat.le_trans I.sz h)) (Nat.lt_irrefl _)
theorem Inv.cne (I:Inv X pins σ H s):∀ x c,X.env.cells.lookup x = some c -> c ≠ X.env.locals:=fun x c e z => by
 obtain ⟨v,o,ho,hd⟩:=I.cell x c e
 obtain ⟨m,⟨o',es,ep,ho',hd',_⟩,_⟩:=I.loc
 rw [z,ho'] at ho; cases ho; rw [hd'] at hd; cases hd
theorem Inv.funs (I:Inv X pins σ H s):s.heap.FunFrames X.base X.outer:=by
 have all:∀ (l:List Env),(∀ b ∈ frs l,b ∈ X.fs) -> X.s₀.heap.FunFrames X.base l -> s.heap.FunFrames X.base l:=by
   intro l
   induction l with
   | nil => intro _ _; trivial
   | cons env r ih =>
     intro hs hl
     obtain ⟨hk,⟨L,o,hf,hn,ho,hd⟩,hr⟩:=hl
     have hL:L ∈ X.fs:=hs L (by unfold frs; rw [List.filterMap_cons,hf]; exact List.mem_cons_self)
     obtain ⟨sl,e⟩:=I.base.slot L o ho (I.ok.frf L hL) hL fun z => I.ok.exfs L z hL
     exact ⟨hk,⟨L,_,hf,hn,e,hd⟩,ih (fun b hb => hs b (by unfold frs; rw [List.filterMap_cons,hf]; exact List.mem_cons_of_mem _ hb)) hr⟩
 exact all X.outer (fun _ hb => hb) I.ok.funs
theorem Inv.stack (I:Inv X pins σ H s):s.heap.FunFrames X.base X.stack:=by
 rcases I.ok.stk with e | ⟨e,hf⟩
 · rw [e]; exact I.funs
 · rw [e]
   obtain ⟨m,hn,_⟩:=I.loc
   refine .cons (by rw [I.ok.kind]; decide) hf hn ?_ I.funs
   exact Heap.get?_none_of_le (Nat.le_trans I.ok.bsz I.ok.above)
theorem Inv.stkSub (I:Inv X pins σ H s):∀ b ∈ frs X.stack,b ∈ X.env.locals :: X.fs:=fun b hb => by
 rcases I.ok.stk with e | ⟨e,hf⟩
 · rw [e] at hb; exact List.mem_cons_of_mem _ hb
 · rw [e] at hb
   unfold frs at hb
   rw [List.filterMap_cons,hf] at hb
   exact hb
theorem Inv.stkFree (I:Inv X pins σ H s):∀ b ∈ frs X.stack,H b = none:=fun b hb => by
 rcases List.mem_cons.mp (I.stkSub b hb) with e | hb
 · rw [e]; exact I.free
 · obtain ⟨_, o, ho, _⟩ := I.ok.funs.mem hb
   exact I.base.free b o ho (I.ok.frf b hb) fun z => I.ok.exfs b z hb
theorem Inv.step {g':Array GenState} {t':Nat} {d':Drawn} {ch:List Addr} (I:Inv X pins σ H s)
   (hch:∀ b ∈ ch,(b ∈ X.ex \/ X.s₀.heap.objs.size <= b) /\ b ≠ X.env.locals /\ (∀ x c,X.env.cells.lookup x = some c -> c ≠ b) /\ ∀ p ∈ X.pn ++ pins,p.1 ≠ b)
   (keep:∀ b o,b ≠ X.env.locals -> b ∉ X.fs -> b ∉ ch -> s.heap.get? b = some o -> H b = none -> h'.get? b = some o)
   (slot:∀ b o,b ≠ X.env.locals -> b ∈ X.fs -> b ∉ ch -> s.heap.get? b = some o -> H b = none -> ∃ sl,h'.get? b = some { o with slots:=sl }) (free:∀ b o,b ∉ ch -> s.heap.get? b = some o -> H b = none -> H' b = none)
   (there:∀ b o,b ∉ ch -> s.heap.get? b = some o -> ∃ o',h'.get? b = some o')
   (tups:∀ b xs,H b = some (.tup xs) -> H' b = some (.tup xs)) (frzs:∀ b o u,H b = some (.frz o u) -> H' b = some (.frz o u)) (tbls:∀ b ps,H b = some (.tbl ps) -> ∃ more,H' b = some (.tbl (ps ++ more)))
   (ns:∀ m,s.heap.Ns X.env.locals m -> h'.Ns X.env.locals m) (hok:HOk X.prog X.w H' h') (hg:AllBare g') :
   Inv X pins σ H' { s with heap:=h',gens:=g',drawn:=d',toks:=t' }:=by
 have neL:∀ b o,X.s₀.heap.get? b = some o -> b ≠ X.env.locals:=fun b o e => Nat.ne_of_lt (Nat.lt_of_lt_of_le (Heap.lt_size e) I.ok.above)
 have neC:∀ b o,X.s₀.heap.get? b = some o -> b ∉ X.ex -> b ∉ ch:=fun b o e hx hb => by
   rcases (hch b hb).1 with z | z
   · exact hx z
   · exact absurd (Nat.lt_of_lt_of_le (Heap.lt_size e) z) (Nat.lt_irrefl _)
 have cellK:∀ x c,X.env.cells.lookup x = some c -> ∀ v,s.heap.IsCell c v -> h'.IsCell c v:=fun x c e v ⟨o,ho,hd⟩ => by
   have nch:c ∉ ch:=fun z => (hch c z).2.2.1 x c e rfl
   by_cases hc:c ∈ X.fs
   · obtain ⟨sl, q⟩ := slot c o (I.cne x c e) hc nch ho (I.freeC x c e)
     exact ⟨_,q,hd⟩
   · exact ⟨o,keep c o (I.cne x c e) hc nch ho (I.freeC x c e),hd⟩
 refine ⟨I.ok,I.os,hg,⟨fun b o e n hb hx => ?_,fun b o e n hb hx => ?_,fun b o e n hx => ?_,fun b o e hx => ?_,fun b xs e => tups b xs (I.base.tups b xs e),fun b o xs e => frzs b o xs (I.base.frzs b o xs e),fun b ps e => ?_⟩,?_,fun x c e => ?_,?_,fun x c e => ?_,fun p hp => ?_,hok,I.len⟩
 · exact keep b o (neL b o e) hb (neC b o e hx) (I.base.keep b o e n hb hx) (I.base.free b o e n hx)
 · obtain ⟨sl, e1⟩ := I.base.slot b o e n hb hx
   obtain ⟨sl',e2⟩:=slot b _ (neL b o e) hb (neC b o e hx) e1 (I.base.free b o e n hx)
   exact ⟨sl',e2⟩
 · obtain ⟨o', e1⟩ := I.base.there b o e hx
   exact free b o' (neC b o e hx) e1 (I.base.free b o e n hx)
 · obtain ⟨o', e1⟩ := I.base.there b o e hx
   exact there b o' (neC b o e hx) e1
 · obtain ⟨m1, e1⟩ := I.base.tbls b ps e
   obtain ⟨m2,e2⟩:=tbls b _ e1
   exact ⟨m1 ++ m2,by rw [e2,Array.append_assoc]⟩
 · obtain ⟨m, hn, hl⟩ := I.loc
   refine ⟨m,ns m hn,fun i x v e1 e2 e3 => ?_⟩
   obtain ⟨u,r,l⟩:=hl i x v e1 e2 e3
   refine ⟨u,r,?_⟩
   rcases l with l | ⟨k,c,e,z⟩
   · exact .inl l
   · exact .inr ⟨k,c,e,cellK x c e _ z⟩
 · obtain ⟨v, z⟩ := I.cell x c e
   exact ⟨v,cellK x c e v z⟩
 · obtain ⟨m, ⟨o, _, _, ho, _⟩, _⟩ := I.loc
   exact free _ o (fun z => (hch _ z).2.1 rfl) ho I.free
 · obtain ⟨v, o, ho, hd⟩ := I.cell x c e
   exact free c o (fun z => (hch c z).2.2.1 x c e rfl) ho (I.freeC x c e)
 · obtain ⟨e, n, ne, nf, d⟩ := I.pin p hp
   have nch:p.1 ∉ ch:=fun z => (hch p.1 z).2.2.2 p hp rfl
   exact ⟨keep p.1 p.2 ne nf nch e n,free p.1 p.2 nch e n,ne,nf,d⟩
theorem Inv.un {t':Nat} (I:Inv X pins σ H s) (u:Un X.fs [] H H' s.heap h') (hok:HOk X.prog X.w H' h'):Inv X pins σ H' { s with heap:=h',toks:=t' }:=by
 obtain ⟨m,⟨o,es,ep,ho,r⟩,_⟩:=id I.loc
 obtain ⟨sl,hL⟩:=u.any ho I.free (by simp)
 exact I.step (g':=s.gens) (d':=s.drawn) (ch:=[]) (fun _ z => nomatch z) (fun b o _ hb _ e n => u.keep b o e n hb (by simp)) (fun b o _ hb _ e n => u.slot b o e n hb (by simp)) (fun b o _ e n => u.free b o e n (by simp)) (fun b o _ e => u.there b o e (by simp)) u.tups u.frzs u.tbls (fun m' hm => by
   obtain ⟨o',es',ep',ho',r'⟩:=hm
   rw [ho] at ho'; cases ho'
   exact ⟨_,es',ep',hL,r'⟩) hok I.bare
theorem Inv.call {g':Array GenState} {t':Nat} {d':Drawn} {ch:List Addr} (I:Inv X pins σ H s) (u:Un (frs X.stack) ch H H' s.heap h') (hok:HOk X.prog X.w H' h') (hg:AllBare g')
   (hch:∀ b ∈ ch,(b ∈ X.ex \/ X.s₀.heap.objs.size <= b) /\ b ≠ X.env.locals /\ (∀ x c,X.env.cells.lookup x = some c -> c ≠ b) /\ ∀ p ∈ X.pn ++ pins,p.1 ≠ b) :
   Inv X pins σ H' { s with heap:=h',gens:=g',drawn:=d',toks:=t' }:=by
 obtain ⟨m,⟨o,es,ep,ho,r⟩,_⟩:=id I.loc
 obtain ⟨sl,hL⟩:=u.any ho I.free fun z => (hch _ z).2.1 rfl
 exact I.step (ch:=ch) hch (fun b o hL hb hc e n => u.keep b o e n (fun z => (List.mem_cons.mp (I.stkSub b z)).elim hL hb) hc) (fun b o _ _ hc e n => u.any e n hc) (fun b o hc e n => u.free b o e n hc) (fun b o hc e => u.there b o e hc) u.tups u.frzs u.tbls (fun m' hm => by
   obtain ⟨o',es',ep',ho',r'⟩:=hm
   rw [ho] at ho'; cases ho'
   exact ⟨_,es',ep',hL,r'⟩) hok hg
theorem Inv.turned {t':Nat} {it:Addr} (I:Inv X pins σ H s) (k:∀ b o,b ≠ it -> s.heap.get? b = some o -> h'.get? b = some o) (hn:H it = none) (hL:it ≠ X.env.locals)
   (h1:it ∈ X.ex \/ X.s₀.heap.objs.size <= it) (h2:∀ x c,X.env.cells.lookup x = some c -> c ≠ it) (h3:∀ p ∈ X.pn ++ pins,p.1 ≠ it):Inv X pins σ H { s with heap:=h',toks:=t' }:=by
 have nit:∀ b u,H b = some u -> b ≠ it:=fun b u e z => by rw [z,hn] at e; cases e
 refine I.step (g':=s.gens) (d':=s.drawn) (ch:=[it]) (fun b hb => ?_) (fun b o _ _ hc e _ => k b o (fun z => hc (by simp [z])) e) (fun b o _ _ hc e _ => ⟨o.slots,k b o (fun z => hc (by simp [z])) e⟩) (fun _ _ _ _ n => n)
   (fun b o hc e => ⟨o,k b o (fun z => hc (by simp [z])) e⟩) (fun _ _ e => e) (fun _ _ _ e => e) (fun b ps e => ⟨#[],by rw [e]; simp⟩) (fun m hm => ?_) (fun b u e => ?_) I.bare
 · have e : b = it := by simpa using hb
   subst e
   exact ⟨h1,hL,h2,h3⟩
 · obtain ⟨o, es, ep, ho, r⟩ := hm
   exact ⟨o,es,ep,k _ o (Ne.symm hL) ho,r⟩
 · refine (I.hok b u e).stay (fun c v hc q => k c v ?_ q) (fun _ q => q) fun _ _ q => q
   rcases hc with z | z
   · rw [z]; exact nit b u e
   · exact nit c _ z
theorem Inv.tok (I:Inv X pins σ H s) (t:Nat):Inv X pins σ H { s with toks:=t }:=I.un (h':=s.heap) (t':=t) Un.refl I.hok
theorem Inv.kept {t':Nat} (I:Inv X pins σ H s) (k:∀ b u,s.heap.get? b = some u -> h'.get? b = some u):Inv X pins σ H { s with heap:=h',toks:=t' }:=I.un (Un.kept k) (I.hok.kept k)
theorem Inv.laid {a:Addr} {o:HO} {t':Nat} (I:Inv X pins σ H s) (k:∀ b u,s.heap.get? b = some u -> h'.get? b = some u) (hp:s.heap.objs.size <= a) (new:ObjOk X.prog X.w (upd H a o) h' a o) :
   Inv X pins σ (upd H a o) { s with heap:=h',toks:=t' }:=I.un (Un.laid k hp (I.hok.fresh hp)) (I.hok.laid k hp new)
theorem Inv.write {x e:Addr} {o:HO} {t':Nat} (I:Inv X pins σ H s) (mu:Mut (H x)) (he:e = x \/ H e = some (.own x)) (k:∀ b u,b ≠ e -> s.heap.get? b = some u -> h'.get? b = some u) (heo:∃ u,h'.get? e = some u)
   (new:ObjOk X.prog X.w (upd H x o) h' x o):Inv X pins σ (upd H x o) { s with heap:=h',toks:=t' }:=I.un (Un.write mu he k heo) (I.hok.write mu he k heo new)
theorem Inv.pins_of {pins':List (Addr × Obj)} (I:Inv X pins σ H s) (h:∀ p ∈ pins',s.heap.get? p.1 = some p.2 /\ H p.1 = none /\ p.1 ≠ X.env.locals /\ p.1 ∉ X.fs /\ ∀ v,p.2.data ≠ .cell v):Inv X pins' σ H s :=
 ⟨I.ok,I.os,I.bare,I.base,I.loc,I.cell,I.free,I.freeC,fun p hp => (List.mem_append.mp hp).elim (fun z => I.pin p (List.mem_append_left _ z)) (h p),I.hok,I.len⟩
theorem nodup_ix {N:List Str} (hN:N.Nodup) {i j:Nat} {x:Str} (a:N[i]? = some x) (b:N[j]? = some x):i = j:=by
 obtain ⟨h1,e1⟩:=List.getElem?_eq_some_iff.mp a
 obtain ⟨h2,e2⟩:=List.getElem?_eq_some_iff.mp b
 exact (List.getElem_inj hN).mp (e1.trans e2.symm)
theorem kJ {M:Model} {A:Around} {E:Value -> Shared -> Prop} {i:Nat} {x:Str} {v:V} {u:Value} {Q:Unit -> Shared -> Prop} (I:Inv X pins σ H s) (hN:X.N.Nodup) (hi:X.N[i]? = some x) (hx:Loc X.env.scope x) (r:RelV v u)
   (h:∀ s',Inv X pins (σ.set i (some v)) H s' -> (∃ a,Heap.SameBut a s.heap s'.heap /\ (a = X.env.locals \/ X.env.cells.lookup x = some a)) -> Q () s') (hf:X.fn x = true \/ X.env.scope.names.lookup x = some .local:=by first | exact .inl rfl | exact .inr rfl | assumption):wpAny M A (storeName X.env x u) Q E s:=by
 obtain ⟨m,hn,hl⟩:=id I.loc
 have hcls:(X.env.scope.kind == .class || (X.env.scope.kind == .module && X.env.locals != X.env.globals)) = false:=by rw [I.ok.kind]; rfl
 have hiσ:i < σ.length:=by rw [I.len]; exact (List.getElem?_eq_some_iff.mp hi).1
 have cne:=I.cne
 have tracked:∀ {a:Addr} {h':Heap},(∃ o,s.heap.get? a = some o /\ H a = none) -> Heap.SameBut a s.heap h' -> HOk X.prog X.w H h':=fun {a h'} ha hs b ob e => by
   obtain ⟨_,_,hfree⟩:=ha
   refine (I.hok b ob e).stay (fun c w' hc q => (hs.2 c ?_).trans q) (fun _ q => q) fun _ _ q => q
   rintro rfl
   rcases hc with rfl | hc
   · rw [hfree] at e; cases e
   · rw [hfree] at hc; cases hc
 rcases hx with hk | hk
 · refine wpAny_storeName_local hk hn (fun h' hn' hs => ?_) hcls
   obtain ⟨oL,_,_,hoL,_⟩:=id hn
   refine h _ ⟨I.ok,I.os,I.bare,⟨fun b o e n hb hx => ?_,fun b o e n hb hx => ?_,I.base.free,fun b o e hx => ?_,I.base.tups,I.base.frzs,I.base.tbls⟩,⟨_,hn',fun j y v' e1 e2 e3 => ?_⟩,fun y c e => ?_,I.free,I.freeC,fun p hp => ?_,tracked ⟨oL,hoL,I.free⟩ hs,by simpa using I.len⟩ ⟨_,hs,.inl rfl⟩
   · exact (hs.2 b (Nat.ne_of_lt (Nat.lt_of_lt_of_le (Heap.lt_size e) I.ok.above))).trans (I.base.keep b o e n hb hx)
   · obtain ⟨sl, e1⟩ := I.base.slot b o e n hb hx
     exact ⟨sl,(hs.2 b (Nat.ne_of_lt (Nat.lt_of_lt_of_le (Heap.lt_size e) I.ok.above))).trans e1⟩
   · obtain ⟨o', e1⟩ := I.base.there b o e hx
     exact ⟨o',(hs.2 b (Nat.ne_of_lt (Nat.lt_of_lt_of_le (Heap.lt_size e) I.ok.above))).trans e1⟩
   · by_cases hj : j = i
     · subst hj
       rw [hi] at e1; cases e1
       rw [List.getElem?_set_self hiσ] at e2
       cases e2
       exact ⟨u,r,.inl ⟨hk,by simp⟩⟩
     · rw [List.getElem?_set_ne (Ne.symm hj)] at e2
       obtain ⟨u',r',q⟩:=hl j y v' e1 e2 e3
       refine ⟨u',r',?_⟩
       rcases q with ⟨k,e⟩ | ⟨k,c,e,z⟩
       · refine .inl ⟨k, ?_⟩
         have:y ≠ x:=fun e => hj (nodup_ix hN e1 (e ▸ hi))
         simp [this,e]
       · exact .inr ⟨k,c,e,z.sameBut hs (cne y c e)⟩
   · obtain ⟨w', z⟩ := I.cell y c e
     exact ⟨w',z.sameBut hs (cne y c e)⟩
   · obtain ⟨e, n, ne, nf, d⟩ := I.pin p hp
     exact ⟨(hs.2 p.1 ne).trans e,n,ne,nf,d⟩
 · have hfn : X.fn x = true := by
     rcases hf with z | z
     · exact z
     · rw [z] at hk; cases hk
   obtain ⟨c,hc⟩:=I.ok.has x (.inl hk)
   obtain ⟨w',z⟩:=I.cell x c hc
   refine wpAny_storeName_cell I.ok.kind hk hc z (fun h' hc' hs => ?_)
   obtain ⟨oc,hoc,hocd⟩:=id z
   refine h { s with heap:=h' } ⟨I.ok,I.os,I.bare,⟨fun b o e n hb hx => ?_,fun b o e n hb hx => ?_,I.base.free,fun b o e hx => ?_,I.base.tups,I.base.frzs,I.base.tbls⟩,⟨m,hn.sameBut hs (Ne.symm (cne x c hc)),fun j y v' e1 e2 e3 => ?_⟩,fun y c' e => ?_,I.free,I.freeC,fun p hp => ?_,tracked ⟨oc,hoc,I.freeC x c hc⟩ hs,by simpa using I.len⟩ ⟨c,hs,.inr hc⟩
   · exact (hs.2 b (Nat.ne_of_lt (Nat.lt_of_lt_of_le (Heap.lt_size e) (I.ok.cab x c hfn hc)))).trans (I.base.keep b o e n hb hx)
   · obtain ⟨sl, e1⟩ := I.base.slot b o e n hb hx
     exact ⟨sl,(hs.2 b (Nat.ne_of_lt (Nat.lt_of_lt_of_le (Heap.lt_size e) (I.ok.cab x c hfn hc)))).trans e1⟩
   · obtain ⟨o', e1⟩ := I.base.there b o e hx
     exact ⟨o',(hs.2 b (Nat.ne_of_lt (Nat.lt_of_lt_of_le (Heap.lt_size e) (I.ok.cab x c hfn hc)))).trans e1⟩
   · by_cases hj : j = i
     · subst hj
       rw [hi] at e1; cases e1
       rw [List.getElem?_set_self hiσ] at e2
       cases e2
       exact ⟨u,r,.inr ⟨.inl hk,c,hc,hc'⟩⟩
     · rw [List.getElem?_set_ne (Ne.symm hj)] at e2
       obtain ⟨u',r',q⟩:=hl j y v' e1 e2 e3
       refine ⟨u',r',?_⟩
       rcases q with q | ⟨k,c',e,z'⟩
       · exact .inl q
       · refine .inr ⟨k, c', e, z'.sameBut hs ?_⟩
         rintro rfl
         exact hj (nodup_ix hN e1 (I.ok.inj _ _ _ e hc ▸ hi))
   · by_cases hcc : c' = c
     · subst hcc; exact ⟨_,hc'⟩
     · obtain ⟨w2, z2⟩ := I.cell y c' e
       exact ⟨w2,z2.sameBut hs hcc⟩
   · obtain ⟨e, n, ne, nf, d⟩ := I.pin p hp
     refine ⟨(hs.2 p.1 ?_).trans e,n,ne,nf,d⟩
     intro q
     rw [q,hoc] at e
     have q':oc = p.2:=Option.some.inj e
     exact d w' (by rw [← q']; exact hocd)
theorem wG {M:Model} {A:Around} {E:Value -> Shared -> Prop} {i:Nat} {x:Str} {v:V} {u:Value} {Q:Unit -> Shared -> Prop} (I:Inv X pins σ H s) (hN:X.N.Nodup) (hi:X.N[i]? = some x) (hx:Loc X.env.scope x) (r:RelV v u)
   (h:∀ s',Inv X pins (σ.set i (some v)) H s' -> Q () s') (hf:X.fn x = true \/ X.env.scope.names.lookup x = some .local:=by first | exact .inl rfl | exact .inr rfl | assumption):wpAny M A (storeName X.env x u) Q E s :=
 kJ I hN hi hx r (fun s' I' _ => h s' I') hf
theorem Inv.call' {s':Shared} {ch:List Addr} (I:Inv X pins σ H s) (ho:s'.os = s.os) (u:Un (frs X.stack) ch H H' s.heap s'.heap) (hok:HOk X.prog X.w H' s'.heap) (hg:AllBare s'.gens)
   (hch:∀ b ∈ ch,(b ∈ X.ex \/ X.s₀.heap.objs.size <= b) /\ b ≠ X.env.locals /\ (∀ x c,X.env.cells.lookup x = some c -> c ≠ b) /\ ∀ p ∈ X.pn ++ pins,p.1 ≠ b):Inv X pins σ H' s':=by
 obtain ⟨h',g',d',t',o'⟩:=s'
 have e:o' = s.os:=ho
 subst e
 exact I.call (g':=g') (t':=t') (d':=d') u hok hg hch
end
abbrev XK:=Value -> Option Addr -> Hp -> Prop
abbrev St:=List (Option V)
abbrev VK:=V -> Hp -> Prop
abbrev TE:=St -> Hp -> VK -> Prop
abbrev TT:=St -> Hp -> (Bool -> Hp -> Prop) -> Prop
abbrev TA:=St -> Hp -> (List V -> Hp -> Prop) -> Prop
structure Ends where
 nx:St -> Hp -> Prop
 rt:VK
 bk:St -> Hp -> Prop:=fun _ _ => False
 ct:St -> Hp -> Prop:=fun _ _ => False
abbrev TS:=Ends -> St -> Hp -> Prop
def EP (X:Cx) (pins:List (Addr × Obj)) (σ:St) (Q:VK) (u:Value) (s':Shared):Prop:=∃ v H',Inv X pins σ H' s' /\ RelV v u /\ Q v H'
def TP (X:Cx) (pins:List (Addr × Obj)) (σ:St) (Q:Bool -> Hp -> Prop) (b:Bool) (s':Shared):Prop:=∃ H',Inv X pins σ H' s' /\ Q b H'
def AP (X:Cx) (pins:List (Addr × Obj)) (σ:St) (Q:List V -> Hp -> Prop) (us:List Value) (s':Shared):Prop:=∃ vs H',Inv X pins σ H' s' /\ Vals vs us /\ Q vs H'
def SP (X:Cx) (pins:List (Addr × Obj)) (D:Ends) (f:Flow) (s':Shared):Prop :=
 match f with
 | .next => ∃ σ' H',Inv X pins σ' H' s' /\ D.nx σ' H'
 | .brk => ∃ σ' H',Inv X pins σ' H' s' /\ D.bk σ' H'
 | .cont => ∃ σ' H',Inv X pins σ' H' s' /\ D.ct σ' H'
 | .ret u => ∃ v σ' H',Inv X pins σ' H' s' /\ RelV v u /\ D.rt v H'
def PE (X:Cx) (e:Expr) (t:TE):Prop :=
 ∀ (pins:List (Addr × Obj)) (s:Shared) (σ:St) (H:Hp) (Q:VK),Inv X pins σ H s -> t σ H Q -> wpAny (model X.prog X.w) X.A (eval e X.env) (EP X pins σ Q) X.xe s
def PT (X:Cx) (e:Expr) (t:TT):Prop :=
 ∀ (pins:List (Addr × Obj)) (s:Shared) (σ:St) (H:Hp) (Q:Bool -> Hp -> Prop),Inv X pins σ H s -> t σ H Q -> wpAny (model X.prog X.w) X.A (isTrue e X.env (eval e X.env)) (TP X pins σ Q) X.xe s
def PW (X:Cx) (e:Expr) (t:TT):Prop :=
 ∀ (whole:Sem Value) (pins:List (Addr × Obj)) (s:Shared) (σ:St) (H:Hp) (Q:Bool -> Hp -> Prop),Inv X pins σ H s -> t σ H Q -> wpAny (model X.prog X.w) X.A (isTrue e X.env whole) (TP X pins σ Q) X.xe s
theorem PW.pt {X:Cx} {e:Expr} {t:TT} (h:PW X e t):PT X e t:=h _
def PA (X:Cx) (es:List Expr) (t:TA):Prop :=
 ∀ (pos:Pos) (pins:List (Addr × Obj)) (s:Shared) (σ:St) (H:Hp) (Q:List V -> Hp -> Prop),Inv X pins σ H s -> t σ H Q -> wpAny (model X.prog X.w) X.A (spliced (backTo pos (starEach es X.env))) (AP X pins σ Q) X.xe s
def PS (X:Cx) (st:Stmt) (t:TS):Prop :=
 ∀ (pins:List (Addr × Obj)) (s:Shared) (σ:St) (H:Hp) (D:Ends),Inv X pins σ H s -> t D σ H -> wpAny (model X.prog X.w) X.A (exec st X.env) (SP X pins D) X.xe s
def PSs (X:Cx) (st:List Stmt) (t:TS):Prop :=
 ∀ (pins:List (Addr × Obj)) (s:Shared) (σ:St) (H:Hp) (D:Ends),Inv X pins σ H s -> t D σ H -> wpAny (model X.prog X.w) X.A (execs st X.env) (SP X pins D) X.xe s
theorem thn {α:Type} {t:Sem α} {Q Q':α -> Shared -> Prop} {M:Model} {A:Around} {E:Value -> Shared -> Prop} {s:Shared} (h:wpAny M A t Q E s) (hQ:∀ a s,Q a s -> Q' a s):wpAny M A t Q' E s:=wpAny_mono h hQ fun _ _ x => x
section
variable {X:Cx}
def tVar (i:Nat):TE:=fun σ H Q => ∃ v,σ[i]? = some (some v) /\ Q v H
def tC (v:V):TE:=fun _ H Q => Q v H
theorem pe_var {i:Nat} {x:Str} {pos:Pos} (hN:X.N[i]? = some x) (hv:Vis X.env.scope x) (hd:(x == ("__debug__" : Str)) = false:=by decide) (hcd:(x == ("__classdict__" : Str)) = false:=by decide):PE X (.Name x pos) (tVar i):=by
 intro pins s σ H Q I h
 obtain ⟨v,e,h⟩:=h
 obtain ⟨m,hn,hl⟩:=I.loc
 obtain ⟨u,r,l⟩:=hl i x v hN e hv
 have fin:EP X pins σ Q u s:=⟨v,H,I,r,h⟩
 rcases l with ⟨hk,hm⟩ | ⟨hk,c,hc,hcell⟩
 · exact wpAny_Name (wpAny_loadName_local I.ok.kind hk hn hm fin) hd
 · rcases hk with hk | hk
   · exact wpAny_Name (wpAny_loadName_cell I.ok.kind hk hc hcell fin) hd
   · exact wpAny_Name (wpAny_loadName_free I.ok.kind hk hc hcell fin hcd) hd
theorem zB {i j pos}:PE X (.Constant (.int i) j pos) (tC (.int i)):=fun _ _ _ H _ I h => wpAny_Constant_int ⟨.int i,H,I.tok _,⟨_,rfl⟩,h⟩
theorem xG {b j pos}:PE X (.Constant (.bool b) j pos) (tC (.bl b)):=fun _ _ _ H _ I h => Constant_bool ⟨.bl b,H,I,rfl,h⟩
theorem uH {j pos}:PE X (.Constant .none j pos) (tC .non):=fun _ _ _ H _ I h => Constant_none ⟨.non,H,I,rfl,h⟩
theorem yB {x j pos}:PE X (.Constant (.str x) j pos) (tC (.str x)):=fun _ _ _ H _ I h => Calls.Constant_str ⟨.str x,H,I.tok _,⟨_,rfl⟩,h⟩
def Gl (X:Cx) (x:Str):Prop:=X.env.kindOf x = some .globalImplicit
theorem ld_glob {E:Value -> Shared -> Prop} {pins:List (Addr × Obj)} {s:Shared} {σ:St} {H:Hp} {x:Str} {u:Value} {pos:Pos} {Q:Value -> Shared -> Prop} (I:Inv X pins σ H s) (hg:Gl X x) (hm:X.mg x = some u) (h:Q u s)
   (hd:(x == ("__debug__" : Str)) = false:=by decide):wpAny (model X.prog X.w) X.A (eval (.Name x pos) X.env) Q E s :=
 Calls.Name_function_global I.ok.kind hg (Calls.loadGlobal_global (by rw [I.ok.glob]; exact I.mod.glob.keeps I.bk) hm h) hd
theorem uK {E:Value -> Shared -> Prop} {pins:List (Addr × Obj)} {s:Shared} {σ:St} {H:Hp} {x:Str} {u:Value} {pos:Pos} {Q:Value -> Shared -> Prop} (I:Inv X pins σ H s) (hg:Gl X x) (hm:X.mg x = none) (hv:bootBuiltins x = some u) (h:Q u s)
   (hn:x ≠ "__name__":=by decide) (hd:(x == ("__debug__" : Str)) = false:=by decide):wpAny (model X.prog X.w) X.A (eval (.Name x pos) X.env) Q E s:=by
 obtain ⟨mb,h1,h2⟩:=I.mod.blt
 exact Calls.Name_function_global I.ok.kind hg (Calls.loadGlobal_builtin (by rw [I.ok.glob]; exact I.mod.glob.keeps I.bk) hm (by rw [I.ok.blt]; exact h1.keeps I.bk) ((h2 x hn).trans hv) h) hd
theorem pe_bltn {x:Str} {v:V} {u:Value} {pos:Pos} (hg:Gl X x) (hm:X.mg x = none) (hv:bootBuiltins x = some u) (r:RelV v u) (hn:x ≠ "__name__":=by decide) (hd:(x == ("__debug__" : Str)) = false:=by decide):PE X (.Name x pos) (tC v) :=
 fun _ _ _ H _ I h => uK I hg hm hv ⟨v,H,I,r,h⟩ hn hd
variable {a b:Expr} {ta tb:TE} {pos:Pos}
def PC (X:Cx) (op:CmpOp) (a b:Expr) (t:TE):Prop :=
 ∀ (pins : List (Addr × Obj)) (s : Shared) (σ : St) (H : Hp) (Q : VK), Inv X pins σ H s -> t σ H Q ->
   wpAny (model X.prog X.w) X.A (eval a X.env) (fun v s₁ => wpAny (model X.prog X.w) X.A (eval b X.env) (fun u s₂ => wpAny (model X.prog X.w) X.A (compareOp op v u) (EP X pins σ Q) X.xe s₂) X.xe s₁) X.xe s
theorem nobehind (b:Expr) {op:CmpOp} (h:op ≠ .In) (h2:op ≠ .NotIn):behindInMarks op b = false:=by
 have e1:(op == CmpOp.In) = false:=by cases op <;> first | rfl | exact absurd rfl h
 have e2:(op == CmpOp.NotIn) = false:=by cases op <;> first | rfl | exact absurd rfl h2
 cases b <;> simp [behindInMarks,e1,e2]
def tB (t:TE):TT:=fun σ H Q => t σ H fun x H1 => ∃ c,x = .bl c /\ Q c H1
theorem pe_cmp {op:CmpOp} {t:TE} (h:PC X op a b t) (h1:behindInMarks op b = false:=by first | exact nobehind _ (by decide) (by decide) | rfl):PE X (.Compare a [op] [b] pos) t:=fun pins s σ H Q I hw => wpAny_Compare1 (h pins s σ H Q I hw) h1
theorem ZO {op:CmpOp} {t:TE} (h:PC X op a b t) (h1:behindInMarks op b = false:=by first | exact nobehind _ (by decide) (by decide) | rfl):PT X (.Compare a [op] [b] pos) (tB t):=by
 intro pins s σ H Q I hw
 refine wpAny_isTrue_Compare1 (thn (h pins s σ H _ I hw) fun v s1 h1 => thn h1 fun u s2 h2 => thn h2 fun c s3 ⟨x,H1,I1,r1,q1⟩ => ?_) h1
 obtain ⟨d,rfl,q⟩:=q1
 cases r1
 exact wpAny_truthy_bool ⟨H1,I1,q⟩
theorem xC {e:Expr} {t:TE} (h:PE X e t) (he:∀ whole,isTrue e X.env whole = (do let v ← whole; standAt e.pos; holding [v] (truthy v)):=by intro _; rfl):PT X e (tB t):=by
 intro pins s σ H Q I hw
 refine isTrue_plain (thn (h pins s σ H _ I hw) fun v s1 ⟨x,H1,I1,r1,q1⟩ => ?_) (he _)
 obtain ⟨d,rfl,q⟩:=q1
 cases r1
 exact wpAny_truthy_bool ⟨H1,I1,q⟩
variable {tA tB':TT} {rest:List Expr}
def tAnd (t u:TT):TT:=fun σ H Q => t σ H fun c H1 => if c = true then u σ H1 Q else Q false H1
def tOr (t u:TT):TT:=fun σ H Q => t σ H fun c H1 => if c = true then Q true H1 else u σ H1 Q
def tNot (t:TT):TT:=fun σ H Q => t σ H fun c H1 => Q (!c) H1
theorem jN (ha:PT X a tA):PW X (.BoolOp .And [a] pos) tA:=by
 intro wh pins s σ H Q I h
 refine isTrue_and (thn (ha pins s σ H Q I h) fun c s1 e => ?_)
 cases c with
 | true => exact isTrue_and_nil e
 | false => exact e
theorem qI (ha:PT X a tA):PW X (.BoolOp .Or [a] pos) tA:=by
 intro wh pins s σ H Q I h
 refine isTrue_or (thn (ha pins s σ H Q I h) fun c s1 e => ?_)
 cases c with
 | false => exact isTrue_or_nil e
 | true => exact e
theorem jB (ha:PT X a tA) (hb:PW X (.BoolOp .And (b :: rest) pos) tB'):PW X (.BoolOp .And (a :: b :: rest) pos) (tAnd tA tB'):=by
 intro wh pins s σ H Q I h
 refine isTrue_and (thn (ha pins s σ H _ I h) fun c s1 ⟨H1,I1,q1⟩ => ?_)
 cases c with
 | true => exact hb wh pins s1 σ H1 Q I1 q1
 | false => exact ⟨H1,I1,q1⟩
theorem qF (ha:PT X a tA) (hb:PW X (.BoolOp .Or (b :: rest) pos) tB'):PW X (.BoolOp .Or (a :: b :: rest) pos) (tOr tA tB'):=by
 intro wh pins s σ H Q I h
 refine isTrue_or (thn (ha pins s σ H _ I h) fun c s1 ⟨H1,I1,q1⟩ => ?_)
 cases c with
 | true => exact ⟨H1,I1,q1⟩
 | false => exact hb wh pins s1 σ H1 Q I1 q1
theorem jC (ha:PT X a tA):PT X (.UnaryOp .Not a pos) (tNot tA):=by
 intro pins s σ H Q I h
 exact isTrue_not (ha pins s σ H (fun c H1 => Q (!c) H1) I h)
def tAndV (ta tb:TE):TE:=fun σ H Q => ta σ H fun x H1 => ∃ c,x = .bl c /\ if c = true then tb σ H1 Q else Q (.bl false) H1
def tOrV (ta tb:TE):TE:=fun σ H Q => ta σ H fun x H1 => ∃ c,x = .bl c /\ if c = true then Q (.bl true) H1 else tb σ H1 Q
def tNotV (ta:TE):TE:=fun σ H Q => ta σ H fun x H1 => ∃ c,x = .bl c /\ Q (.bl (!c)) H1
theorem qC {op} {t:TE} (h:PE X a t):PE X (.BoolOp op [a] pos) t:=fun pins s σ H Q I hw => BoolOp_one (h pins s σ H Q I hw)
theorem xI (ha:PE X a ta) (hb:PE X (.BoolOp .And (b :: rest) pos) tb):PE X (.BoolOp .And (a :: b :: rest) pos) (tAndV ta tb):=by
 intro pins s σ H Q I h
 refine BoolOp_and (thn (ha pins s σ H _ I h) fun v s1 ⟨x,H1,I1,r1,q1⟩ => ?_)
 obtain ⟨c,rfl,q1⟩:=q1
 cases r1
 refine wpAny_truthy_bool ?_
 cases c with
 | true => exact hb pins s1 σ H1 Q I1 q1
 | false => exact ⟨.bl false,H1,I1,rfl,q1⟩
theorem pe_or (ha:PE X a ta) (hb:PE X (.BoolOp .Or (b :: rest) pos) tb):PE X (.BoolOp .Or (a :: b :: rest) pos) (tOrV ta tb):=by
 intro pins s σ H Q I h
 refine BoolOp_or (thn (ha pins s σ H _ I h) fun v s1 ⟨x,H1,I1,r1,q1⟩ => ?_)
 obtain ⟨c,rfl,q1⟩:=q1
 cases r1
 refine wpAny_truthy_bool ?_
 cases c with
 | false => exact hb pins s1 σ H1 Q I1 q1
 | true => exact ⟨.bl true,H1,I1,rfl,q1⟩
theorem pe_not (ha:PE X a ta):PE X (.UnaryOp .Not a pos) (tNotV ta):=by
 intro pins s σ H Q I h
 refine UnaryOp_ (thn (ha pins s σ H _ I h) fun v s1 ⟨x,H1,I1,r1,q1⟩ => ?_)
 obtain ⟨c,rfl,q1⟩:=q1
 cases r1
 exact not_of (wpAny_truthy_bool ⟨.bl (!c),H1,I1,rfl,q1⟩)
def tIf (t:TT) (ta tb:TE):TE:=fun σ H Q => t σ H fun c H1 => if c = true then ta σ H1 Q else tb σ H1 Q
theorem pe_ifExp {c:Expr} (hc:PT X c tA) (ha:PE X a ta) (hb:PE X b tb):PE X (.IfExp c a b pos) (tIf tA ta tb):=by
 intro pins s σ H Q I h
 refine wpAny_IfExp (thn (hc pins s σ H _ I h) fun d s1 ⟨H1,I1,q1⟩ => ?_)
 cases d with
 | true => exact ha pins s1 σ H1 Q I1 q1
 | false => exact hb pins s1 σ H1 Q I1 q1
end
def SqL (K:PySem.W.Frag) (H:Hp) (a:Addr) (xs:List V):Prop :=
 Rd H a (.lst xs) \/
   ∃ (o:Obj) (its:Array Value) (n:Nat),K.lookup a = some o /\ o.cls = .type "list" /\ o.dict = none /\ o.data = .seq its n /\ its.size <= sizeLine /\ Vals xs its.toList
def SqT (K:PySem.W.Frag) (H:Hp) (a:Addr) (xs:List V):Prop :=
 Rd H a (.tup xs) \/
   ∃ (o:Obj) (its:Array Value) (n:Nat),K.lookup a = some o /\ o.cls = .type "tuple" /\ o.data = .seq its n /\ its.size <= sizeLine /\ Vals xs its.toList
def absV:Value -> Option V
 | .none => some .non
 | .bool b => some (.bl b)
 | .int i _ => some (.int i)
 | .str x _ => some (.str x)
 | .bytes b _ => some (.byt b)
 | .float b _ => some (.flt b)
 | .ref a => some (.ref a)
 | .type n => some (.ty n)
 | _ => none
theorem RelV.abs {x:V} {u:Value} (r:RelV x u):absV u = some x:=by
 cases x with
 | non => cases r; rfl
 | bl _ => cases r; rfl
 | int _ => obtain ⟨t,rfl⟩:=r; rfl
 | str _ => obtain ⟨t,rfl⟩:=r; rfl
 | byt _ => obtain ⟨t,rfl⟩:=r; rfl
 | flt _ => obtain ⟨t,rfl⟩:=r; rfl
 | ref _ => cases r; rfl
 | ty _ => cases r; rfl
theorem RelV.inj {x y:V} {u:Value} (r:RelV x u) (q:RelV y u):x = y:=Option.some.inj (r.abs.symm.trans q.abs)
theorem Vals.inj:∀ {xs ys:List V} {us:List Value},Vals xs us -> Vals ys us -> xs = ys
 | _,_,_,.nil,.nil => rfl
 | _,_,_,.cons r t,.cons r' t' => by rw [r.inj r',Vals.inj t t']
section
variable {X:Cx} {pins:List (Addr × Obj)} {σ:St} {H:Hp} {s:Shared} {a:Addr} {xs ys:List V}
theorem SqL.of {K:PySem.W.Frag} (h:H a = some (.lst xs)):SqL K H a xs:=.inl (.inl h)
theorem SqT.of {K:PySem.W.Frag} (h:H a = some (.tup xs)):SqT K H a xs:=.inl (.inl h)
theorem Inv.list (I:Inv X pins σ H s) (h:SqL X.K H a xs):∃ its:List Value,Vals xs its /\ PlainL s.heap a its.toArray /\ xs.length <= sizeLine:=by
 rcases h with h | ⟨o,its,n,hk,hc,hd,hs,hz,r⟩
 · obtain ⟨z, its, n, r, e⟩ := h.ok I.hok
   exact ⟨its,r,⟨_,n,e,rfl,rfl,rfl⟩,z⟩
 · refine ⟨its.toList, r, ⟨o, n, I.kIn a o hk, hc, hd, by simpa using hs⟩, ?_⟩
   have e:=r.length
   simp only [Array.length_toList] at e
   omega
theorem Inv.tuple (I:Inv X pins σ H s) (h:SqT X.K H a xs):∃ its:List Value,Vals xs its /\ IsTup s.heap a its.toArray /\ xs.length <= sizeLine:=by
 rcases h with h | ⟨o,its,n,hk,hc,hs,hz,r⟩
 · obtain ⟨z, its, r, p⟩ := h.ok I.hok
   exact ⟨its,r,p,z⟩
 · refine ⟨its.toList, r, ⟨o, I.kIn a o hk, hc, n, by simpa using hs⟩, ?_⟩
   have e:=r.length
   simp only [Array.length_toList] at e
   omega
theorem Inv.list_inj (I:Inv X pins σ H s) (h:SqL X.K H a xs) (h':SqL X.K H a ys):xs = ys:=by
 obtain ⟨its,r,⟨o,n,e,_,_,d⟩,_⟩:=I.list h
 obtain ⟨its',r',⟨o',n',e',_,_,d'⟩,_⟩:=I.list h'
 rw [e] at e'; cases e'
 rw [d] at d'
 injection d' with d1 _
 have:its = its':=by simpa using congrArg Array.toList d1
 subst this
 exact r.inj r'
theorem Inv.tuple_inj (I:Inv X pins σ H s) (h:SqT X.K H a xs) (h':SqT X.K H a ys):xs = ys:=by
 obtain ⟨its,r,⟨o,e,_,n,d⟩,_⟩:=I.tuple h
 obtain ⟨its',r',⟨o',e',_,n',d'⟩,_⟩:=I.tuple h'
 rw [e] at e'; cases e'
 rw [d] at d'
 injection d' with d1 _
 have:its = its':=by simpa using congrArg Array.toList d1
 subst this
 exact r.inj r'
end
abbrev Cx.wish (X:Cx) (E:Value -> Shared -> Prop):Cx:={ X with xe:=E }
abbrev Cx.nox (X:Cx):Cx:=X.wish fun _ _ => False
theorem Cx.Ok.wish {X:Cx} (ok:X.Ok) (E:Value -> Shared -> Prop):(X.wish E).Ok :=
 ⟨ok.mod,ok.kind,ok.glob,ok.blt,ok.above,ok.inj,ok.has,ok.cab,ok.hd,ok.frames,ok.stk,ok.exf,ok.bs,ok.bsz,ok.noex,ok.exfs,ok.funs,ok.frf⟩
theorem Cx.Ok.unwish {X:Cx} {E:Value -> Shared -> Prop} (ok:(X.wish E).Ok):X.Ok :=
 ⟨ok.mod,ok.kind,ok.glob,ok.blt,ok.above,ok.inj,ok.has,ok.cab,ok.hd,ok.frames,ok.stk,ok.exf,ok.bs,ok.bsz,ok.noex,ok.exfs,ok.funs,ok.frf⟩
section
variable {X:Cx} {pins:List (Addr × Obj)} {σ:St} {H:Hp} {s:Shared} {E:Value -> Shared -> Prop}
theorem Inv.wish (I:Inv X pins σ H s) (E:Value -> Shared -> Prop):Inv (X.wish E) pins σ H s:=⟨I.ok.wish E,I.os,I.bare,I.base,I.loc,I.cell,I.free,I.freeC,I.pin,I.hok,I.len⟩
theorem Inv.unwish (I:Inv (X.wish E) pins σ H s):Inv X pins σ H s:=⟨I.ok.unwish,I.os,I.bare,I.base,I.loc,I.cell,I.free,I.freeC,I.pin,I.hok,I.len⟩
theorem SP.unwish {D:Ends} {f:Flow} {s':Shared} (h:SP (X.wish E) pins D f s'):SP X pins D f s':=by
 cases f with
 | next => obtain ⟨σ',H',I,q⟩:=h; exact ⟨σ',H',I.unwish,q⟩
 | brk => obtain ⟨σ',H',I,q⟩:=h; exact ⟨σ',H',I.unwish,q⟩
 | cont => obtain ⟨σ',H',I,q⟩:=h; exact ⟨σ',H',I.unwish,q⟩
 | ret u => obtain ⟨v,σ',H',I,r,q⟩:=h; exact ⟨v,σ',H',I.unwish,r,q⟩
theorem PSs.nox {st:List Stmt} {t:TS} (h:PSs X.nox st t):PSs X st t:=fun pins s σ H D I hw =>
 wpAny_mono (h pins s σ H D (I.wish _) hw) (fun _ _ q => q.unwish) fun _ _ z => False.elim z
end
section
variable {X:Cx} {st:Stmt} {rest:List Stmt} {t u:TS} {e:Expr} {te:TE} {pos:Pos}
def tNext:TS:=fun D σ H => D.nx σ H
def tSeq (t u:TS):TS:=fun D σ H => t { D with nx:=u D } σ H
theorem pss_nil:PSs X [] tNext:=fun _ _ σ H _ I h => wpAny_execs_nil ⟨σ,H,I,h⟩
theorem zD (h1:PS X st t) (h2:PSs X rest u):PSs X (st :: rest) (tSeq t u):=by
 intro pins s σ H D I h
 refine wpAny_execs_cons (thn (h1 pins s σ H { D with nx:=u D } I h) fun f s1 q => ?_)
 cases f with
 | next =>
   obtain ⟨σ',H',I',q⟩:=q
   exact h2 pins s1 σ' H' D I' q
 | ret v => exact q
 | brk => exact q
 | cont => exact q
theorem zE (h1:PS X st t):PSs X [st] t:=by
 intro pins s σ H D I h
 refine wpAny_execs_cons (thn (h1 pins s σ H D I h) fun f s1 q => ?_)
 cases f with
 | next => exact wpAny_execs_nil q
 | ret v => exact q
 | brk => exact q
 | cont => exact q
theorem Inv.quiet {pins:List (Addr × Obj)} {σ:St} {H:Hp} {s:Shared} (I:Inv X pins σ H s):interactive X.env = false:=by simp [interactive,I.ok.kind]
def tDrop (te:TE):TS:=fun D σ H => te σ H fun _ H1 => D.nx σ H1
theorem yG (he:PE X e te) (hs:swapsWith e none pos.line X.env = pure false:=by rfl):PS X (.Expr e pos) (tDrop te):=by
 intro pins s σ H D I h
 exact wpAny_Expr_any (thn (he pins s σ H _ I h) fun v s1 ⟨x,H1,I1,r1,q1⟩ => ⟨σ,H1,I1,q1⟩) I.quiet hs
def tRet (te:TE):TS:=fun D σ H => te σ H D.rt
theorem zQ (he:PE X e te):PS X (.Return (some e) pos) (tRet te):=by
 intro pins s σ H D I h
 exact wpAny_Return_some (thn (he pins s σ H _ I h) fun v s1 ⟨x,H1,I1,r1,q1⟩ => ⟨x,σ,H1,I1,r1,q1⟩)
def tRetN:TS:=fun D _ H => D.rt .non H
theorem ps_retN:PS X (.Return none pos) tRetN:=fun _ _ σ H _ I h => wpAny_Return_none ⟨.non,σ,H,I,rfl,h⟩
def tIfS (c:TT) (t u:TS):TS:=fun D σ H => c σ H fun b H1 => if b = true then t D σ H1 else u D σ H1
theorem yI {c:Expr} {a b:List Stmt} {tc:TT} (hc:PT X c tc) (ha:PSs X a t) (hb:PSs X b u):PS X (.If c a b pos) (tIfS tc t u):=by
 intro pins s σ H D I h
 refine wpAny_If (thn (hc pins s σ H _ I h) fun d s1 ⟨H1,I1,q1⟩ => ?_)
 cases d with
 | true => exact ha pins s1 σ H1 D I1 q1
 | false => exact hb pins s1 σ H1 D I1 q1
end
abbrev TG:=V -> St -> Hp -> (St -> Hp -> Prop) -> Prop
abbrev TGs:=List V -> St -> Hp -> (St -> Hp -> Prop) -> Prop
def PG (X:Cx) (target:Expr) (t:TG):Prop :=
 ∀ (pins : List (Addr × Obj)) (s : Shared) (σ : St) (H : Hp) (v : V) (u : Value) (Q : St -> Hp -> Prop), Inv X pins σ H s -> RelV v u -> t v σ H Q ->
   wpAny (model X.prog X.w) X.A (assign target X.env u) (fun _ s' => ∃ σ' H',Inv X pins σ' H' s' /\ Q σ' H') X.xe s
def PGs (X:Cx) (ts:List Expr) (t:TGs):Prop :=
 ∀ (pins : List (Addr × Obj)) (s : Shared) (σ : St) (H : Hp) (vs : List V) (us : List Value) (Q : St -> Hp -> Prop), Inv X pins σ H s -> Vals vs us -> t vs σ H Q ->
   wpAny (model X.prog X.w) X.A (assignInOrder ((assignEach ts X.env).map (·.2)) us) (fun _ s' => ∃ σ' H',Inv X pins σ' H' s' /\ Q σ' H') X.xe s
abbrev TSet:=V -> V -> V -> Hp -> (Hp -> Prop) -> Prop
def PSet (X:Cx) (t:TSet):Prop :=
 ∀ (pins : List (Addr × Obj)) (s : Shared) (σ : St) (H : Hp) (o i v : V) (ov iv u : Value) (Q : Hp -> Prop), Inv X pins σ H s -> RelV o ov -> RelV i iv -> RelV v u -> t o i v H Q ->
   wpAny (model X.prog X.w) X.A (setItem ov iv u) (fun _ s' => ∃ H',Inv X pins σ H' s' /\ Q H') X.xe s
abbrev TIp:=V -> V -> Hp -> VK -> Prop
def PIp (X:Cx) (op:Operator) (t:TIp):Prop :=
 ∀ (pins : List (Addr × Obj)) (s : Shared) (σ : St) (H : Hp) (x y : V) (v u : Value) (Q : VK), Inv X pins σ H s -> RelV x v -> RelV y u -> t x y H Q ->
   wpAny (model X.prog X.w) X.A (inplaceOp op v u) (EP X pins σ Q) X.xe s
section
variable {X:Cx} {pos:Pos}
def gName (i:Nat):TG:=fun v σ H Q => Q (σ.set i (some v)) H
theorem zM {i:Nat} {x:Str} (hN:X.N.Nodup) (hi:X.N[i]? = some x) (hx:Loc X.env.scope x) (hf:X.fn x = true \/ X.env.scope.names.lookup x = some .local:=by first | exact .inl rfl | exact .inr rfl | assumption):PG X (.Name x pos) (gName i):=by
 intro pins s σ H v u Q I r h
 exact wpAny_assign_Name (wG I hN hi hx r (fun s' I' => ⟨_,H,I',h⟩) hf)
def gNil:TGs:=fun vs σ H Q => vs = [] /\ Q σ H
def uE (t:TG) (u:TGs):TGs:=fun vs σ H Q => ∃ v r,vs = v :: r /\ t v σ H fun σ' H' => u r σ' H' Q
theorem pgs_nil:PGs X [] gNil:=by
 intro pins s σ H vs us Q I r h
 obtain ⟨e,h⟩:=h
 subst e
 cases r
 exact assignInOrder_nil ⟨σ,H,I,h⟩
theorem yL {e:Expr} {es:List Expr} {t:TG} {u:TGs} (h1:PG X e t) (h2:PGs X es u)
   (hs:(assignEach (e :: es) X.env).map (·.2) = assign e X.env :: (assignEach es X.env).map (·.2):=by rfl):PGs X (e :: es) (uE t u):=by
 intro pins s σ H vs us Q I r h
 obtain ⟨v,vr,e1,h⟩:=h
 subst e1
 cases r with
 | cons r rr =>
   rw [hs]
   refine assignInOrder_cons (thn (h1 pins s σ H _ _ _ I r h) fun _ s1 ⟨σ1,H1,I1,q1⟩ => ?_)
   exact h2 pins s1 σ1 H1 _ _ Q I1 rr q1
def wT (K:PySem.W.Frag) (n:Nat) (t:TGs):TG:=fun v σ H Q => ∃ a xs,v = .ref a /\ SqT K H a xs /\ xs.length = n /\ t xs σ H Q
theorem uG {es:List Expr} {k:Nat} {t:TGs} {n:Nat} (hc:X.calm = true) (h:PGs X es t)
   (hn:(assignEach es X.env).length = n:=by rfl) (hst:(assignEach es X.env).findIdx? (·.1) = none:=by rfl):PG X (.Tuple es k pos) (wT X.K n t):=by
 intro pins s σ H v u Q I r hw
 obtain ⟨a,xs,e1,hq,hl,hw⟩:=hw
 subst e1
 cases r
 obtain ⟨its,rv,ht,hz⟩:=I.tuple hq
 refine assign_Tuple_tuple (I.ok.hd hc) ht (by simp [hn,← hl,rv.length]) hst fun h' hx => ?_
 have I1:Inv X pins σ H { s with heap:=h' }:=I.kept (t':=s.toks) fun b o e => hx b o (Nat.ne_of_lt (Heap.lt_size e)) e
 exact h pins _ σ H xs _ Q I1 (by simpa using rv) hw
def tAsg (te:TE) (g:TG):TS:=fun D σ H => te σ H fun x H1 => g x σ H1 D.nx
theorem zP {i:Nat} {x:Str} {e:Expr} {te:TE} {pos':Pos} (hN:X.N.Nodup) (hi:X.N[i]? = some x) (hx:Loc X.env.scope x) (he:PE X e te) (hs:swapsWith e (some (.Name x pos')) pos.line X.env = pure false:=by rfl) (hf:X.fn x = true \/ X.env.scope.names.lookup x = some .local:=by first | exact .inl rfl | exact .inr rfl | assumption) :
   PS X (.Assign [.Name x pos'] e pos) (tAsg te (gName i)):=by
 intro pins s σ H D I h
 refine wpAny_Assign_Name (thn (he pins s σ H _ I h) fun v s1 ⟨y,H1,I1,r1,q1⟩ => ?_) hs
 exact wG I1 hN hi hx r1 (fun s2 I2 => ⟨_,H1,I2,q1⟩) hf
def tAug (i:Nat) (te:TE) (ti:TIp):TS:=fun D σ H => ∃ x,σ[i]? = some (some x) /\ te σ H fun y H1 => ti x y H1 fun z H2 => D.nx (σ.set i (some z)) H2
theorem ps_aug {i:Nat} {x:Str} {e:Expr} {te:TE} {op:Operator} {ti:TIp} {pos':Pos} (hN:X.N.Nodup) (hi:X.N[i]? = some x) (hx:Loc X.env.scope x) (he:PE X e te) (ho:PIp X op ti) (hf:X.fn x = true \/ X.env.scope.names.lookup x = some .local:=by first | exact .inl rfl | exact .inr rfl | assumption) :
   PS X (.AugAssign (.Name x pos') op e pos) (tAug i te ti):=by
 intro pins s σ H D I h
 obtain ⟨v,e1,h⟩:=h
 obtain ⟨m,hn,hl⟩:=I.loc
 have vis:Vis X.env.scope x:=by rcases hx with k | k; exact .inl k; exact .inr (.inl k)
 obtain ⟨u,r,l⟩:=hl i x v hi e1 vis
 refine wpAny_AugAssign_Name ?_
 have go:wpAny (model X.prog X.w) X.A (eval e X.env) (fun w s₂ => wpAny (model X.prog X.w) X.A (inplaceOp op u w) (fun r s₃ => wpAny (model X.prog X.w) X.A (storeName X.env x r) (fun _ => SP X pins D .next) X.xe s₃) X.xe s₂) X.xe s:=by
   refine thn (he pins s σ H _ I h) fun w s1 ⟨y,H1,I1,r1,q1⟩ => ?_
   refine thn (ho pins s1 σ H1 v y u w _ I1 r r1 q1) fun z s2 ⟨zv,H2,I2,r2,q2⟩ => ?_
   exact wG I2 hN hi hx r2 (fun s3 I3 => ⟨_,H2,I3,q2⟩) hf
 rcases l with ⟨hk,hm⟩ | ⟨hk,c,hc,hcell⟩
 · exact wpAny_loadName_local I.ok.kind hk hn hm go
 · rcases hk with hk | hk
   · exact wpAny_loadName_cell I.ok.kind hk hc hcell go
   · rcases hx with k | k
     · have : X.env.scope.names.lookup x = some .free := hk
       rw [k] at this; cases this
     · have : X.env.scope.names.lookup x = some .free := hk
       rw [k] at this; cases this
def tAugS (to ti te:TE) (tget:V -> V -> Hp -> VK -> Prop) (tip:TIp) (tset:TSet):TS:=fun D σ H => to σ H fun o H1 => ti σ H1 fun i H2 => tget o i H2 fun x H3 => te σ H3 fun y H4 => tip x y H4 fun z H5 => tset o i z H5 fun H6 => D.nx σ H6
def PGet (X:Cx) (t:V -> V -> Hp -> VK -> Prop):Prop :=
 ∀ (pins : List (Addr × Obj)) (s : Shared) (σ : St) (H : Hp) (o i : V) (ov iv : Value) (Q : VK), Inv X pins σ H s -> RelV o ov -> RelV i iv -> t o i H Q ->
   wpAny (model X.prog X.w) X.A (getItem ov iv) (EP X pins σ Q) X.xe s
theorem ps_augS {o i e:Expr} {to ti te:TE} {tget:V -> V -> Hp -> VK -> Prop} {tip:TIp} {tset:TSet} {op:Operator} {tpos:Pos} (ho:PE X o to) (hi:PE X i ti) (hg:PGet X tget) (he:PE X e te) (hp:PIp X op tip) (hs:PSet X tset)
   (ha:∀ ov iv new,augStore i ov iv new = (do holding [new,ov,iv] (setItem ov iv new); release [new,ov,iv] []; pure .next):=by intros; rfl):PS X (.AugAssign (.Subscript o i tpos) op e pos) (tAugS to ti te tget tip tset):=by
 intro pins s σ H D I h
 refine wpAny_AugAssign_SubscriptAny (thn (ho pins s σ H _ I h) fun ov s1 ⟨x1,H1,I1,r1,q1⟩ => ?_) ha
 refine thn (hi pins s1 σ H1 _ I1 q1) fun iv s2 ⟨x2,H2,I2,r2,q2⟩ => ?_
 refine thn (hg pins s2 σ H2 x1 x2 ov iv _ I2 r1 r2 q2) fun old s3 ⟨x3,H3,I3,r3,q3⟩ => ?_
 refine thn (he pins s3 σ H3 _ I3 q3) fun v s4 ⟨x4,H4,I4,r4,q4⟩ => ?_
 refine thn (hp pins s4 σ H4 x3 x4 old v _ I4 r3 r4 q4) fun new s5 ⟨x5,H5,I5,r5,q5⟩ => ?_
 exact thn (hs pins s5 σ H5 x1 x2 x5 ov iv new _ I5 r1 r2 r5 q5) fun _ s6 ⟨H6,I6,q6⟩ => ⟨σ,H6,I6,q6⟩
def ipI (f:Int -> Int -> Int):TIp:=fun x y H Q => ∃ i j,x = .int i /\ y = .int j /\ Q (.int (f i j)) H
theorem ip_add:PIp X .Add (ipI fun i j => i + j):=by
 intro pins s σ H x y v u Q I r1 r2 h
 obtain ⟨i,j,e1,e2,q⟩:=h
 subst e1; subst e2
 obtain ⟨t,rfl⟩:=r1
 obtain ⟨t',rfl⟩:=r2
 exact iadd_int ⟨.int _,H,I.tok _,⟨_,rfl⟩,q⟩
end
section
variable {X:Cx} {pos:Pos}
def tWhile (c:TT) (tb:TS):TS:=fun D σ H => ∃ W:Nat -> St -> Hp -> Prop,(∃ m,W m σ H) /\ ∀ m σ H,W m σ H ->
 c σ H fun b H1 => if b = true then ∃ N:St -> Hp -> Prop,(∀ σ' H',N σ' H' -> ∃ m',m' < m /\ W m' σ' H') /\ tb { D with nx:=N,ct:=N,bk:=D.nx } σ H1 else D.nx σ H1
theorem ps_while {c:Expr} {body:List Stmt} {tc:TT} {tb:TS} (hp:PassesOwn (model X.prog X.w) X.A X.env X.xe) (hc:PT X c tc) (hb:PSs X body tb):PS X (.While c body [] pos) (tWhile tc tb):=by
 intro pins s σ H D I h
 obtain ⟨W,⟨m0,w0⟩,turn⟩:=h
 refine wpAny_While (codeAny_whileLoop (fun n s' => ∃ σ' H',Inv X pins σ' H' s' /\ W n σ' H') ?_ m0 ⟨σ,H,I,w0⟩)
 rintro n s1 ⟨σ1,H1,I1,w1⟩
 refine wpAny_passesOwn hp (thn (hc pins s1 σ1 H1 _ I1 (turn n σ1 H1 w1)) fun b s2 ⟨H2,I2,q2⟩ => ?_)
 cases b with
 | true =>
   obtain ⟨N,hN,q2⟩:=q2
   rw [if_pos rfl]
   refine wpAny_passesOwn hp (thn (hb pins s2 σ1 H2 _ I2 q2) fun f s3 q3 => ?_)
   cases f with
   | next =>
     obtain ⟨σ3,H3,I3,n3⟩:=q3
     obtain ⟨m',hm,w3⟩:=hN σ3 H3 n3
     exact ⟨m',hm,σ3,H3,I3,w3⟩
   | cont =>
     obtain ⟨σ3,H3,I3,n3⟩:=q3
     obtain ⟨m',hm,w3⟩:=hN σ3 H3 n3
     exact ⟨m',hm,σ3,H3,I3,w3⟩
   | brk => exact q3
   | ret v => exact q3
 | false =>
   rw [if_neg Bool.false_ne_true]
   exact wpAny_execs_nil ⟨σ1,H2,I2,q2⟩
end
structure It where
 go:Nat -> Hp -> Prop
 yld:Nat -> Hp -> V -> Hp -> Prop
 stop:Nat -> Hp -> Prop
def vI (X:Cx) (pins:List (Addr × Obj)) (H:Hp) (b:Addr):Prop :=
 H b = none /\ b ≠ X.env.locals /\ b ∉ X.fs /\ (b ∈ X.ex \/ X.s₀.heap.objs.size <= b) /\ (∀ x c,X.env.cells.lookup x = some c -> c ≠ b) /\ ∀ p ∈ X.pn ++ pins,p.1 ≠ b
theorem Inv.fpOk {X:Cx} {pins:List (Addr × Obj)} {σ:St} {H H':Hp} {s:Shared} {b:Addr} (I:Inv X pins σ H s) (hb:s.heap.objs.size <= b) (hn:H' b = none):vI X pins H' b:=by
 refine ⟨hn,Nat.ne_of_gt (Nat.lt_of_lt_of_le I.lt hb),I.nofs hb,.inr (Nat.le_trans I.sz hb),fun x c e z => ?_,fun p hp z => ?_⟩
 · obtain ⟨v, q⟩ := I.cell x c e
   exact absurd (Nat.lt_of_lt_of_le q.lt (by rw [z]; exact hb)) (Nat.lt_irrefl _)
 · exact absurd (Nat.lt_of_lt_of_le (Heap.lt_size (I.pin p hp).1) (by rw [z]; exact hb)) (Nat.lt_irrefl _)
structure Turn (P:Program) (w:World) (K:PySem.W.Frag) (tg:Expr) (J:It) (fp:List Addr) (it:Addr) (tn:Nat -> Heap -> Prop):Prop where
 mem:it ∈ fp
 obj:∀ i h,tn i h -> ∀ b ∈ fp,∃ o,h.get? b = some o /\ ∀ v,o.data ≠ .cell v
 keep:∀ i h h',tn i h -> (∀ b ∈ fp,∀ o,h.get? b = some o -> h'.get? b = some o) -> tn i h'
 item:∀ (X:Cx),X.prog = P -> X.w = w -> X.K = K -> X.calm = true -> ∀ (i:Nat) (pins:List (Addr × Obj)) (s:Shared) (σ:St) (H:Hp) (E:Value -> Shared -> Prop),Inv X pins σ H s -> (∀ b ∈ fp,vI X pins H b) -> tn i s.heap -> J.go i H ->
   wpAny (model P w) X.A (pyNext (.ref it)) (fun r s1 => ∃ u,r = some u /\
     wpAny (model P w) X.A (letOwnedTupleGo tg (.ref it) u) (fun _ s2 => ∃ x H',Inv X pins σ H' s2 /\ RelV x u /\ J.yld i H x H' /\ tn (i + 1) s2.heap /\ ∀ b ∈ fp,H' b = none) E s1) E s
 done:∀ (X:Cx),X.prog = P -> X.w = w -> X.K = K -> X.calm = true -> ∀ (i:Nat) (pins:List (Addr × Obj)) (s:Shared) (σ:St) (H:Hp) (E:Value -> Shared -> Prop),Inv X pins σ H s -> (∀ b ∈ fp,vI X pins H b) -> tn i s.heap -> J.stop i H ->
   wpAny (model P w) X.A (pyNext (.ref it)) (fun r s1 => r = none /\ Inv X pins σ H s1) E s
 self:∀ (A:Around) (i:Nat) (s:Shared) (Q:Value -> Shared -> Prop) (E:Value -> Shared -> Prop),tn i s.heap -> Q (.ref it) s -> wpAny (model P w) A (pyIter (.ref it)) Q E s
abbrev TI:=St -> Hp -> (It -> Hp -> Prop) -> Prop
def PIE (X:Cx) (pins:List (Addr × Obj)) (σ:St) (tg:Expr) (R:It -> Hp -> Prop) (itv:Value) (s2:Shared):Prop :=
 ∃ (it:Addr) (fp:List Addr) (tn:Nat -> Heap -> Prop) (J:It) (H':Hp),itv = .ref it /\ Inv X pins σ H' s2 /\ Turn X.prog X.w X.K tg J fp it tn /\ tn 0 s2.heap /\ (∀ b ∈ fp,vI X pins H' b) /\ R J H'
def PI (X:Cx) (tg iter:Expr) (wi:TI):Prop :=
 ∀ (pins : List (Addr × Obj)) (s : Shared) (σ : St) (H : Hp) (R : It -> Hp -> Prop), Inv X pins σ H s -> wi σ H R ->
   wpAny (model X.prog X.w) X.A (eval iter X.env) (fun v s1 => wpAny (model X.prog X.w) X.A (pyIter v) (PIE X pins σ tg R) X.xe s1) X.xe s
theorem go_of {M:Model} {A:Around} {E:Value -> Shared -> Prop} {s:Shared} {tg:Expr} {it:Addr} {u:Value} {o:Obj} {n:String} {vs:Array Value} {Q:Unit -> Shared -> Prop} (ho:s.heap.get? it = some o) (hc:o.cls = .type n) (hd:o.data = .fields vs)
   (hn:["enumerate","zip","dict_itemiterator","dict_reverseitemiterator","odict_iterator","itertools.zip_longest","itertools.pairwise"].contains n = false) (hQ:Q () s):wpAny M A (letOwnedTupleGo tg (.ref it) u) Q E s:=by
 unfold letOwnedTupleGo
 cases tg <;> first
   | exact wpAny_pure hQ
   | (cases u <;> first
       | exact wpAny_pure hQ
       | (refine wpAny_bind (wpAny_load ho ?_)
          rw [hc,hd]
          show wpAny M A (if (["enumerate","zip","dict_itemiterator","dict_reverseitemiterator","odict_iterator","itertools.zip_longest","itertools.pairwise"].contains n && vs[0]? == some (rawInt _)) = true then _ else _) Q E s
          rw [if_neg (by intro h; rw [hn,Bool.false_and] at h; cases h)]
          exact wpAny_pure hQ))
def Itl (K:PySem.W.Frag) (a:Addr):It :=
 ⟨fun i H => ∃ xs x,SqL K H a xs /\ xs[i]? = some x,fun i H x H' => H' = H /\ ∀ xs,SqL K H a xs -> xs[i]? = some x,fun i H => ∃ xs,SqL K H a xs /\ xs.length <= i⟩
def Itt (K:PySem.W.Frag) (a:Addr):It :=
 ⟨fun i H => ∃ xs x,SqT K H a xs /\ xs[i]? = some x,fun i H x H' => H' = H /\ ∀ xs,SqT K H a xs -> xs[i]? = some x,fun i H => ∃ xs,SqT K H a xs /\ xs.length <= i⟩
def Itr (lo:Int) (n:Nat):It:=⟨fun i _ => i < n,fun i H x H' => H' = H /\ x = .int (lo + i),fun i _ => n <= i⟩
theorem turn_list {P:Program} {w:World} {K:PySem.W.Frag} {tg:Expr} (a it:Addr):Turn P w K tg (Itl K a) [it] it (fun i h => h.IsListIter it a i) where
 mem:=by simp
 obj:=fun i h st b hb => by
   have e:b = it:=by simpa using hb
   subst e
   obtain ⟨o,e,c,d⟩:=st
   exact ⟨o,e,fun v z => by rw [d] at z; cases z⟩
 keep:=fun i h h' st k => st.at fun o e => k it (by simp) o e
 item:=by
   intro X hP hw hK hc i pins s σ H E I hf st hg
   subst hP hw hK
   obtain ⟨xs,x,hq,hx⟩:=hg
   obtain ⟨its,rv,p,hz⟩:=I.list hq
   obtain ⟨u,hu,ru⟩:=rv.get hx
   obtain ⟨f0,f1,f2,f3,f4,f5⟩:=hf it (by simp)
   refine wpAny_pyNext_list_item st p.isList (x:=u) (by simpa using hu) fun h' st' sb => ?_
   have I1:Inv X pins σ H { s with heap:=h' }:=I.turned (t':=s.toks) (fun b o hb e => (sb.2 b hb).trans e) f0 f1 f3 f4 f5
   obtain ⟨o,e,c,d⟩:=id st'
   exact ⟨u,rfl,go_of (s:={ s with heap:=h' }) e c d (by decide) ⟨x,H,I1,ru,⟨rfl,fun ys hy => by rw [I.list_inj hy hq]; exact hx⟩,st',fun b hb => (hf b hb).1⟩⟩
 done:=by
   intro X hP hw hK hc i pins s σ H E I hf st hg
   subst hP hw hK
   obtain ⟨xs,hq,hx⟩:=hg
   obtain ⟨its,rv,p,hz⟩:=I.list hq
   obtain ⟨f0,f1,f2,f3,f4,f5⟩:=hf it (by simp)
   have hl:=rv.length
   exact wpAny_pyNext_list_end (I.ok.hd hc) st p.isList (by simp; omega) fun h' eb => ⟨rfl,I.turned (t':=s.toks) (fun b o hb e => eb b o hb e) f0 f1 f3 f4 f5⟩
 self:=fun _ _ _ _ _ st h => wpAny_pyIter_listiter st h
theorem turn_tuple {P:Program} {w:World} {K:PySem.W.Frag} {tg:Expr} (a it:Addr):Turn P w K tg (Itt K a) [it] it (fun i h => h.IsTupleIter it a i) where
 mem:=by simp
 obj:=fun i h st b hb => by
   have e:b = it:=by simpa using hb
   subst e
   obtain ⟨o,e,c,d⟩:=st
   exact ⟨o,e,fun v z => by rw [d] at z; cases z⟩
 keep:=fun i h h' st k => st.at fun o e => k it (by simp) o e
 item:=by
   intro X hP hw hK hc i pins s σ H E I hf st hg
   subst hP hw hK
   obtain ⟨xs,x,hq,hx⟩:=hg
   obtain ⟨its,rv,p,hz⟩:=I.tuple hq
   obtain ⟨u,hu,ru⟩:=rv.get hx
   obtain ⟨f0,f1,f2,f3,f4,f5⟩:=hf it (by simp)
   refine wpAny_pyNext_tuple_item st (show s.heap.IsTuple a its.toArray from p) (x:=u) (by simpa using hu) fun h' st' sb => ?_
   have I1:Inv X pins σ H { s with heap:=h' }:=I.turned (t':=s.toks) (fun b o hb e => (sb.2 b hb).trans e) f0 f1 f3 f4 f5
   obtain ⟨o,e,c,d⟩:=id st'
   exact ⟨u,rfl,go_of (s:={ s with heap:=h' }) e c d (by decide) ⟨x,H,I1,ru,⟨rfl,fun ys hy => by rw [I.tuple_inj hy hq]; exact hx⟩,st',fun b hb => (hf b hb).1⟩⟩
 done:=by
   intro X hP hw hK hc i pins s σ H E I hf st hg
   subst hP hw hK
   obtain ⟨xs,hq,hx⟩:=hg
   obtain ⟨its,rv,p,hz⟩:=I.tuple hq
   obtain ⟨f0,f1,f2,f3,f4,f5⟩:=hf it (by simp)
   have hl:=rv.length
   exact wpAny_pyNext_tuple_end (I.ok.hd hc) st (show s.heap.IsTuple a its.toArray from p) (by simp; omega) fun h' eb => ⟨rfl,I.turned (t':=s.toks) (fun b o hb e => eb b o hb e) f0 f1 f3 f4 f5⟩
 self:=fun _ _ _ _ _ st h => wpAny_pyIter_tupleiter st h
theorem turn_range {P:Program} {w:World} {K:PySem.W.Frag} {tg:Expr} (it:Addr) (lo:Int) (n:Nat):Turn P w K tg (Itr lo n) [it] it (fun i h => IsRangeIter h it (lo + (i:Nat) * 1) ((n:Int) - (i:Nat)) 1) where
 mem:=by simp
 obj := fun i h st b hb => by
   have e:b = it:=by simpa using hb
   subst e
   exact ⟨_,st,fun v z => by
     have z':Data.fields _ = Data.cell v:=z
     cases z'⟩
 keep:=fun i h h' st k => k it (by simp) _ st
 item:=by
   intro X hP hw hK hc i pins s σ H E I hf st hg
   subst hP hw hK
   obtain ⟨f0,f1,f2,f3,f4,f5⟩:=hf it (by simp)
   have W:=Walks.range (prog:=X.prog) (w:=X.w) (I.ok.hd hc) it lo 1 n
   refine W.item i s _ _ hg st fun v h' tk hv st' kk => ?_
   obtain ⟨t,rfl⟩:=hv
   have I1:Inv X pins σ H { s with heap:=h',toks:=tk }:=I.turned (fun b o hb e => kk b o (by simpa using hb) e) f0 f1 f3 f4 f5
   refine ⟨_,rfl,go_of (s:={ s with heap:=h',toks:=tk }) (n:="range_iterator") st' rfl rfl (by decide) ⟨.int (lo + i),H,I1,⟨t,?_⟩,⟨rfl,rfl⟩,st',fun b hb => (hf b hb).1⟩⟩
   rw [Int.mul_one]
 done:=by
   intro X hP hw hK hc i pins s σ H E I hf st hg
   subst hP hw hK
   obtain ⟨f0,f1,f2,f3,f4,f5⟩:=hf it (by simp)
   exact wpAny_pyNext_range_end (I.ok.hd hc) st (by have:n <= i:=hg; omega) fun h' eb => ⟨rfl,I.turned (t':=s.toks) (fun b o hb e => eb b o hb e) f0 f1 f3 f4 f5⟩
 self:=fun _ _ _ _ _ st h => wpAny_pyIter_rangeiter st h
section
variable {X:Cx} {tg:Expr}
def iList (K:PySem.W.Frag) (tl:TE):TI:=fun σ H R => tl σ H fun x H1 => ∃ a,x = .ref a /\ (∃ xs,SqL K H1 a xs) /\ R (Itl K a) H1
def iTup (K:PySem.W.Frag) (tl:TE):TI:=fun σ H R => tl σ H fun x H1 => ∃ a,x = .ref a /\ (∃ xs,SqT K H1 a xs) /\ R (Itt K a) H1
theorem xD {l:Expr} {tl:TE} (hl:PE X l tl):PI X tg l (iList X.K tl):=by
 intro pins s σ H R I h
 refine thn (hl pins s σ H _ I h) fun v s1 ⟨x,H1,I1,r1,q1⟩ => ?_
 obtain ⟨a,e,⟨xs,hq⟩,q⟩:=q1
 subst e
 cases r1
 obtain ⟨its,rv,p,hz⟩:=I1.list hq
 refine wpAny_pyIter_list p.isList ?_
 refine ⟨s1.heap.objs.size,[s1.heap.objs.size],_,_,H1,rfl,I1.kept (t':=s1.toks) fun b o e => Heap.get?_push_of_some _ e,turn_list a _,⟨_,Heap.get?_push_size _ rfl,rfl,rfl⟩,fun b hb => ?_,q⟩
 have e:b = s1.heap.objs.size:=by simpa using hb
 subst e
 exact I1.fpOk (Nat.le_refl _) (I1.hok.fresh (Nat.le_refl _))
theorem vD {l:Expr} {tl:TE} (hl:PE X l tl):PI X tg l (iTup X.K tl):=by
 intro pins s σ H R I h
 refine thn (hl pins s σ H _ I h) fun v s1 ⟨x,H1,I1,r1,q1⟩ => ?_
 obtain ⟨a,e,⟨xs,hq⟩,q⟩:=q1
 subst e
 cases r1
 obtain ⟨its,rv,p,hz⟩:=I1.tuple hq
 refine wpAny_pyIter_tuple (show s1.heap.IsTuple a its.toArray from p) ?_
 refine ⟨s1.heap.objs.size,[s1.heap.objs.size],_,_,H1,rfl,I1.kept (t':=s1.toks) fun b o e => Heap.get?_push_of_some _ e,turn_tuple a _,⟨_,Heap.get?_push_size _ rfl,rfl,rfl⟩,fun b hb => ?_,q⟩
 have e:b = s1.heap.objs.size:=by simpa using hb
 subst e
 exact I1.fpOk (Nat.le_refl _) (I1.hok.fresh (Nat.le_refl _))
theorem range_it {pins:List (Addr × Obj)} {σ:St} {H:Hp} {s:Shared} {R:It -> Hp -> Prop} {E:Value -> Shared -> Prop} {lo hi:Int} {t u v:Tok} {tk:Nat} (I:Inv X pins σ H s) (h1 : -(2 ^ 62) <= lo) (h2:lo < 2 ^ 62) (h3 : -(2 ^ 62) <= hi) (h4:hi < 2 ^ 62)
   (q:R (Itr lo (hi - lo).toNat) H):wpAny (model X.prog X.w) X.A (pyIter (.ref s.heap.objs.size)) (PIE X pins σ tg R) E { s with heap:=s.heap.push { cls:=.type "range",data:=.fields #[.int lo t,.int hi u,.int 1 v] },toks:=tk }:=by
 refine wpAny_pyIter_range (IsRange.new ..) (small_one h1 h2 h3 h4) ?_
 have I1:Inv X pins σ H { s with heap:=s.heap.push { cls:=.type "range",data:=.fields #[.int lo t,.int hi u,.int 1 v] },toks:=tk }:=I.kept fun b o e => Heap.get?_push_of_some _ e
 refine ⟨(s.heap.push { cls:=.type "range",data:=.fields #[.int lo t,.int hi u,.int 1 v] }).objs.size,[(s.heap.push { cls:=.type "range",data:=.fields #[.int lo t,.int hi u,.int 1 v] }).objs.size],_,_,H,rfl,
   I1.kept (t':=tk) fun b o e => Heap.get?_push_of_some _ e,turn_range _ lo (hi - lo).toNat,?_,fun b hb => ?_,q⟩
 · have e1 : lo + ((0 : Nat) : Int) * 1 = lo := by simp
   have e2:(((hi - lo).toNat:Nat):Int) - ((0:Nat):Int) = Builtin.Range.rangeSize lo hi 1:=by rw [rangeSize_one]; split <;> omega
   show IsRangeIter _ _ (lo + ((0:Nat):Int) * 1) ((((hi - lo).toNat:Nat):Int) - ((0:Nat):Int)) 1
   rw [e1,e2]
   exact Heap.get?_push_size _ rfl
 · have e : b = (s.heap.push { cls := .type "range", data := .fields #[.int lo t, .int hi u, .int 1 v] }).objs.size := by simpa using hb
   subst e
   exact I1.fpOk (Nat.le_refl _) (I1.hok.fresh (Nat.le_refl _))
def iRng1 (ta:TA):TI:=fun σ H R => ta σ H fun vs H1 => ∃ j:Int,vs = [.int j] /\ -(2 ^ 62) <= j /\ j < 2 ^ 62 /\ R (Itr 0 j.toNat) H1
def iRng2 (ta:TA):TI:=fun σ H R => ta σ H fun vs H1 => ∃ i j:Int,vs = [.int i,.int j] /\ (-(2 ^ 62) <= i /\ i < 2 ^ 62 /\ -(2 ^ 62) <= j /\ j < 2 ^ 62) /\ R (Itr i (j - i).toNat) H1
theorem xH {a:Expr} {ta:TA} {p pos:Pos} (hg:Gl X "range") (hm:X.mg "range" = none) (ha:PA X [a] ta) (hs:starEach [a] X.env = [(false,eval a X.env)]:=by rfl):PI X tg (.Call (.Name "range" p) [a] [] pos) (iRng1 ta):=by
 intro pins s σ H R I h
 refine Call_ (uK I hg hm boot_range (PyProof.Rows.callWith_type1 (thn (ha pos pins s σ H _ I h) fun us s1 ⟨vs,H1,I1,r1,q1⟩ => ?_) hs rfl))
 obtain ⟨j,e,q1,q2,q⟩:=q1
 subst e
 cases r1 with
 | cons r rr =>
   cases rr
   obtain ⟨t,rfl⟩:=r
   exact call_range_1 (range_it I1 (by omega) (by omega) q1 q2 (by simpa using q))
def tFor (wi:TI) (g:TG) (tb:TS):TS:=fun D σ H => wi σ H fun J H1 => ∃ W:Nat -> Nat -> St -> Hp -> Prop,(∃ m,W 0 m σ H1) /\ ∀ i m σ H,W i m σ H ->
 (J.stop i H /\ D.nx σ H) \/ (J.go i H /\ ∃ N:St -> Hp -> Prop,(∀ σ' H',N σ' H' -> ∃ m',m' < m /\ W (i + 1) m' σ' H') /\ ∀ x H',J.yld i H x H' -> g x σ H' fun σ2 H2 => tb { D with nx:=N,ct:=N,bk:=D.nx } σ2 H2)
def jT (fp:List Addr) (h:Heap):List (Addr × Obj):=fp.filterMap fun b => (h.get? b).map fun o => (b,o)
theorem xQ {fp:List Addr} {h:Heap} {b:Addr} {o:Obj} (hb:b ∈ fp) (e:h.get? b = some o):(b,o) ∈ jT fp h:=List.mem_filterMap.mpr ⟨b,hb,by rw [e]; rfl⟩
theorem kP {fp:List Addr} {h:Heap} {p:Addr × Obj} (hp:p ∈ jT fp h):p.1 ∈ fp /\ h.get? p.1 = some p.2:=by
 obtain ⟨b,hb,e⟩:=List.mem_filterMap.mp hp
 cases q:h.get? b with
 | none => rw [q] at e; cases e
 | some o =>
   rw [q] at e
   have e':(b,o) = p:=Option.some.inj e
   subst e'
   exact ⟨hb,q⟩
theorem Inv.pinned {pins:List (Addr × Obj)} {σ:St} {H:Hp} {s:Shared} {fp:List Addr} (I:Inv X pins σ H s) (hf:∀ b ∈ fp,vI X pins H b) (ho:∀ b ∈ fp,∃ o,s.heap.get? b = some o /\ ∀ v,o.data ≠ .cell v):Inv X (pins ++ jT fp s.heap) σ H s :=
 I.pins_of fun p hp => (List.mem_append.mp hp).elim (fun z => I.pin p (List.mem_append_right _ z)) fun z => by
   obtain ⟨hb,e⟩:=kP z
   obtain ⟨f0,f1,f2,_⟩:=hf p.1 hb
   obtain ⟨o,e',d⟩:=ho p.1 hb
   rw [e] at e'; cases e'
   exact ⟨e,f0,f1,f2,d⟩
theorem Inv.unpinned {pins pl:List (Addr × Obj)} {σ:St} {H:Hp} {s:Shared} (I:Inv X (pins ++ pl) σ H s):Inv X pins σ H s:=I.pins_of fun p hp => I.pin p (List.mem_append_right _ (List.mem_append_left _ hp))
theorem yR {iter:Expr} {body:List Stmt} {wi:TI} {g:TG} {tb:TS} {pos:Pos} (hp:PassesOwn (model X.prog X.w) X.A X.env X.xe) (hc:X.calm = true) (hi:PI X tg iter wi) (hg:PG X tg g) (hb:PSs X body tb)
   (hs:∀ x,foldedSetIterable iter X.env x = pure x:=by intro _; rfl):PS X (.For tg iter body [] pos) (tFor wi g tb):=by
 intro pins s σ H D I h
 refine wpAny_For (thn (hi pins s σ H _ I h) fun v s1 h1 => thn h1 fun itv s2 h2 => ?_) hs
 obtain ⟨it,fp,tn,J,H2,e,I2,T,st2,f2,W,⟨m0,w0⟩,turn⟩:=h2
 subst e
 have stat:∀ {H':Hp},(∀ b ∈ fp,H' b = none) -> ∀ b ∈ fp,vI X pins H' b:=fun hn b hb => ⟨hn b hb,(f2 b hb).2⟩
 refine codeAny_forLoop_any (fun n s' => ∃ i σ' H',Inv X pins σ' H' s' /\ tn i s'.heap /\ (∀ b ∈ fp,H' b = none) /\ W i n σ' H') ?_ m0 ⟨0,σ,H2,I2,st2,fun b hb => (f2 b hb).1,w0⟩
 rintro n s3 ⟨i,σ3,H3,I3,st3,fr3,w3⟩
 rcases turn i n σ3 H3 w3 with ⟨stop,qn⟩ | ⟨go,N,hN,step⟩
 · refine wpAny_passesOwn hp (thn (T.done X rfl rfl rfl hc i pins s3 σ3 H3 X.xe I3 (stat fr3) st3 stop) fun r s4 ⟨hr, I4⟩ => ?_)
   subst hr
   exact wpAny_execs_nil ⟨σ3,H3,I4,qn⟩
 · refine wpAny_passesOwn hp (thn (T.item X rfl rfl rfl hc i pins s3 σ3 H3 X.xe I3 (stat fr3) st3 go) fun r s4 ⟨u, hr, h4⟩ => ?_)
   subst hr
   refine wpAny_passesOwn hp (thn h4 fun _ s5 ⟨x,H5,I5,r5,y5,st5,fr5⟩ => ?_)
   have I5':=I5.pinned (stat fr5) (T.obj _ _ st5)
   refine wpAny_passesOwn hp (thn (hg _ s5 σ3 H5 x u _ I5' r5 (step x H5 y5)) fun _ s6 ⟨σ6,H6,I6,q6⟩ => ?_)
   refine wpAny_passesOwn hp (thn (hb _ s6 σ6 H6 _ I6 q6) fun f s7 q7 => ?_)
   have again:∀ {σ7:St} {H7:Hp},Inv X (pins ++ jT fp s5.heap) σ7 H7 s7 -> N σ7 H7 -> ∃ m,m < n /\ ∃ i σ' H',Inv X pins σ' H' s7 /\ tn i s7.heap /\ (∀ b ∈ fp,H' b = none) /\ W i m σ' H':=fun {σ7 H7} I7 n7 => by
     obtain ⟨m',hm,w7⟩:=hN σ7 H7 n7
     refine ⟨m',hm,i + 1,σ7,H7,I7.unpinned,T.keep _ _ _ st5 fun b hb o e => (I7.pin (b,o) (List.mem_append_right _ (List.mem_append_right _ (xQ hb e)))).1,fun b hb => ?_,w7⟩
     obtain ⟨o,e,d⟩:=T.obj _ _ st5 b hb
     exact (I7.pin (b,o) (List.mem_append_right _ (List.mem_append_right _ (xQ hb e)))).2.1
   cases f with
   | next => obtain ⟨σ7,H7,I7,n7⟩:=q7; exact again I7 n7
   | cont => obtain ⟨σ7,H7,I7,n7⟩:=q7; exact again I7 n7
   | brk => obtain ⟨σ7,H7,I7,q7⟩:=q7; exact ⟨σ7,H7,I7.unpinned,q7⟩
   | ret v => obtain ⟨x7,σ7,H7,I7,r7,q7⟩:=q7; exact ⟨x7,σ7,H7,I7.unpinned,r7,q7⟩
end
theorem for_list {K:PySem.W.Frag} {a:Addr} {xs:List V} {g:TG} {tb:TS} {D:Ends} {σ:St} {H:Hp} (Pv:Nat -> St -> Hp -> Prop) (h0:Pv 0 σ H) (hl:∀ i σ H,i <= xs.length -> Pv i σ H -> SqL K H a xs)
   (hs:∀ i x σ H,xs[i]? = some x -> Pv i σ H -> g x σ H fun σ2 H2 => tb { D with nx:=Pv (i + 1),ct:=Pv (i + 1),bk:=D.nx } σ2 H2) (hd:∀ σ H,Pv xs.length σ H -> D.nx σ H) :
   ∃ W : Nat -> Nat -> St -> Hp -> Prop, (∃ m, W 0 m σ H) /\ ∀ i m σ H, W i m σ H ->
     ((Itl K a).stop i H /\ D.nx σ H) \/ ((Itl K a).go i H /\ ∃ N:St -> Hp -> Prop,(∀ σ' H',N σ' H' -> ∃ m',m' < m /\ W (i + 1) m' σ' H') /\ ∀ x H',(Itl K a).yld i H x H' -> g x σ H' fun σ2 H2 => tb { D with nx:=N,ct:=N,bk:=D.nx } σ2 H2):=by
 refine ⟨fun i m σ H => m = xs.length - i /\ i <= xs.length /\ Pv i σ H,⟨xs.length,by simp,Nat.zero_le _,h0⟩,?_⟩
 rintro i m σ H ⟨rfl,hi,p⟩
 have q:=hl i σ H hi p
 by_cases hlt:i < xs.length
 · refine .inr ⟨⟨xs, xs[i], q, by simp [hlt]⟩, Pv (i + 1), fun σ' H' p' => ⟨xs.length - (i + 1), by omega, rfl, hlt, p'⟩, fun x H' y => ?_⟩
   obtain ⟨e,y⟩:=y
   subst e
   exact hs i x σ _ (y xs q) p
 · have e : i = xs.length := by omega
   subst e
   exact .inl ⟨⟨xs,q,Nat.le_refl _⟩,hd σ H p⟩
theorem for_tup {K:PySem.W.Frag} {a:Addr} {xs:List V} {g:TG} {tb:TS} {D:Ends} {σ:St} {H:Hp} (Pv:Nat -> St -> Hp -> Prop) (h0:Pv 0 σ H) (hl:∀ i σ H,i <= xs.length -> Pv i σ H -> SqT K H a xs)
   (hs:∀ i x σ H,xs[i]? = some x -> Pv i σ H -> g x σ H fun σ2 H2 => tb { D with nx:=Pv (i + 1),ct:=Pv (i + 1),bk:=D.nx } σ2 H2) (hd:∀ σ H,Pv xs.length σ H -> D.nx σ H) :
   ∃ W : Nat -> Nat -> St -> Hp -> Prop, (∃ m, W 0 m σ H) /\ ∀ i m σ H, W i m σ H ->
     ((Itt K a).stop i H /\ D.nx σ H) \/ ((Itt K a).go i H /\ ∃ N:St -> Hp -> Prop,(∀ σ' H',N σ' H' -> ∃ m',m' < m /\ W (i + 1) m' σ' H') /\ ∀ x H',(Itt K a).yld i H x H' -> g x σ H' fun σ2 H2 => tb { D with nx:=N,ct:=N,bk:=D.nx } σ2 H2):=by
 refine ⟨fun i m σ H => m = xs.length - i /\ i <= xs.length /\ Pv i σ H,⟨xs.length,by simp,Nat.zero_le _,h0⟩,?_⟩
 rintro i m σ H ⟨rfl,hi,p⟩
 have q:=hl i σ H hi p
 by_cases hlt:i < xs.length
 · refine .inr ⟨⟨xs, xs[i], q, by simp [hlt]⟩, Pv (i + 1), fun σ' H' p' => ⟨xs.length - (i + 1), by omega, rfl, hlt, p'⟩, fun x H' y => ?_⟩
   obtain ⟨e,y⟩:=y
   subst e
   exact hs i x σ _ (y xs q) p
 · have e : i = xs.length := by omega
   subst e
   exact .inl ⟨⟨xs,q,Nat.le_refl _⟩,hd σ H p⟩
theorem for_range {lo:Int} {n:Nat} {g:TG} {tb:TS} {D:Ends} {σ:St} {H:Hp} (Pv:Nat -> St -> Hp -> Prop) (h0:Pv 0 σ H)
   (hs:∀ i σ H,i < n -> Pv i σ H -> g (.int (lo + i)) σ H fun σ2 H2 => tb { D with nx:=Pv (i + 1),ct:=Pv (i + 1),bk:=D.nx } σ2 H2) (hd:∀ σ H,Pv n σ H -> D.nx σ H) :
   ∃ W : Nat -> Nat -> St -> Hp -> Prop, (∃ m, W 0 m σ H) /\ ∀ i m σ H, W i m σ H ->
     ((Itr lo n).stop i H /\ D.nx σ H) \/ ((Itr lo n).go i H /\ ∃ N:St -> Hp -> Prop,(∀ σ' H',N σ' H' -> ∃ m',m' < m /\ W (i + 1) m' σ' H') /\ ∀ x H',(Itr lo n).yld i H x H' -> g x σ H' fun σ2 H2 => tb { D with nx:=N,ct:=N,bk:=D.nx } σ2 H2):=by
 refine ⟨fun i m σ H => m = n - i /\ i <= n /\ Pv i σ H,⟨n,by simp,Nat.zero_le _,h0⟩,?_⟩
 rintro i m σ H ⟨rfl,hi,p⟩
 by_cases hlt:i < n
 · refine .inr ⟨hlt, Pv (i + 1), fun σ' H' p' => ⟨n - (i + 1), by omega, rfl, hlt, p'⟩, fun x H' y => ?_⟩
   obtain ⟨e,y⟩:=y
   subst e y
   exact hs i σ _ hlt p
 · have e : i = n := by omega
   subst e
   exact .inl ⟨Nat.le_refl _,hd σ H p⟩
abbrev R2:=V -> V -> Hp -> VK -> Prop
def OpR (X:Cx) (f:Value -> Value -> Sem Value) (r:R2):Prop :=
 ∀ (pins : List (Addr × Obj)) (s : Shared) (σ : St) (H : Hp) (x y : V) (v u : Value) (Q : VK), Inv X pins σ H s -> RelV x v -> RelV y u -> r x y H Q ->
   wpAny (model X.prog X.w) X.A (f v u) (EP X pins σ Q) X.xe s
def UnR (X:Cx) (f:Value -> Sem Value) (r:V -> Hp -> VK -> Prop):Prop :=
 ∀ (pins : List (Addr × Obj)) (s : Shared) (σ : St) (H : Hp) (x : V) (v : Value) (Q : VK), Inv X pins σ H s -> RelV x v -> r x H Q ->
   wpAny (model X.prog X.w) X.A (f v) (EP X pins σ Q) X.xe s
def qW (X:Cx) (f:Value) (r:List V -> Hp -> VK -> Prop):Prop :=
 ∀ (pins : List (Addr × Obj)) (s : Shared) (σ : St) (H : Hp) (xs : List V) (us : List Value) (Q : VK), Inv X pins σ H s -> Vals xs us -> r xs H Q ->
   wpAny (model X.prog X.w) X.A (call f us) (EP X pins σ Q) X.xe s
def TruR (X:Cx) (r:V -> Hp -> (Bool -> Hp -> Prop) -> Prop):Prop :=
 ∀ (pins : List (Addr × Obj)) (s : Shared) (σ : St) (H : Hp) (x : V) (v : Value) (Q : Bool -> Hp -> Prop), Inv X pins σ H s -> RelV x v -> r x H Q ->
   wpAny (model X.prog X.w) X.A (truthy v) (TP X pins σ Q) X.xe s
def tOp (r:R2) (ta tb:TE):TE:=fun σ H Q => ta σ H fun x H1 => tb σ H1 fun y H2 => r x y H2 Q
def tUn (r:V -> Hp -> VK -> Prop) (ta:TE):TE:=fun σ H Q => ta σ H fun x H1 => r x H1 Q
def rI (C:Int -> Int -> Prop) (g:Int -> Int -> V):R2:=fun x y H Q => ∃ i j,x = .int i /\ y = .int j /\ C i j /\ Q (g i j) H
def rI0 (g:Int -> Int -> V):R2:=fun x y H Q => ∃ i j,x = .int i /\ y = .int j /\ Q (g i j) H
def rU (g:Int -> V):V -> Hp -> VK -> Prop:=fun x H Q => ∃ i,x = .int i /\ Q (g i) H
section
variable {X:Cx} {a b c:Expr} {ta tb tc:TE} {pos:Pos}
theorem binT (ha:PE X a ta) (hb:PE X b tb) {pins:List (Addr × Obj)} {s:Shared} {σ:St} {H:Hp} {R:V -> V -> Hp -> Prop} (I:Inv X pins σ H s)
   (h:ta σ H fun x H1 => tb σ H1 fun y H2 => R x y H2) {Q:Value -> Shared -> Prop} {f:Value -> Value -> Sem Value}
   (hf:∀ v u s2 x y H2,Inv X pins σ H2 s2 -> RelV x v -> RelV y u -> R x y H2 -> wpAny (model X.prog X.w) X.A (f v u) Q X.xe s2) :
   wpAny (model X.prog X.w) X.A (eval a X.env) (fun v s₁ => wpAny (model X.prog X.w) X.A (eval b X.env) (fun u s₂ => wpAny (model X.prog X.w) X.A (f v u) Q X.xe s₂) X.xe s₁) X.xe s:=by
 refine thn (ha pins s σ H _ I h) fun v s1 ⟨x,H1,I1,r1,q1⟩ => ?_
 refine thn (hb pins s1 σ H1 _ I1 q1) fun u s2 ⟨y,H2,I2,r2,q2⟩ => ?_
 exact hf v u s2 x y H2 I2 r1 r2 q2
theorem zO {op:Operator} {r:R2} (ho:OpR X (binaryOp op) r) (ha:PE X a ta) (hb:PE X b tb):PE X (.BinOp a op b pos) (tOp r ta tb):=by
 intro pins s σ H Q I h
 exact wpAny_BinOp (binT ha hb I h fun v u s2 x y H2 I2 rx ry q => ho pins s2 σ H2 x y v u Q I2 rx ry q)
theorem uV {op:UnaryOp} {r:V -> Hp -> VK -> Prop} (ho:UnR X (unaryOp op) r) (ha:PE X a ta):PE X (.UnaryOp op a pos) (tUn r ta):=by
 intro pins s σ H Q I h
 exact UnaryOp_ (thn (ha pins s σ H _ I h) fun v s1 ⟨x,H1,I1,r1,q1⟩ => ho pins s1 σ H1 x v Q I1 r1 q1)
theorem opI {f:Value -> Value -> Sem Value} {C:Int -> Int -> Prop} {g:Int -> Int -> Int}
   (rule:∀ (i j:Int) (t u:Tok) (s:Shared) (Q:Value -> Shared -> Prop) (E:Value -> Shared -> Prop),C i j -> Q (.int (g i j) s.toks) { s with toks:=s.toks + 1 } -> wpAny (model X.prog X.w) X.A (f (.int i t) (.int j u)) Q E s) :
   OpR X f (rI C fun i j => .int (g i j)):=by
 intro pins s σ H x y v u Q I rx ry h
 obtain ⟨i,j,rfl,rfl,hc,q⟩:=h
 obtain ⟨t,rfl⟩:=rx
 obtain ⟨t',rfl⟩:=ry
 exact rule i j t t' s _ _ hc ⟨.int (g i j),H,I.tok _,⟨_,rfl⟩,q⟩
theorem opI0 {f:Value -> Value -> Sem Value} {g:Int -> Int -> Int}
   (rule:∀ (i j:Int) (t u:Tok) (s:Shared) (Q:Value -> Shared -> Prop) (E:Value -> Shared -> Prop),Q (.int (g i j) s.toks) { s with toks:=s.toks + 1 } -> wpAny (model X.prog X.w) X.A (f (.int i t) (.int j u)) Q E s) :
   OpR X f (rI0 fun i j => .int (g i j)):=by
 intro pins s σ H x y v u Q I rx ry h
 obtain ⟨i,j,rfl,rfl,q⟩:=h
 obtain ⟨t,rfl⟩:=rx
 obtain ⟨t',rfl⟩:=ry
 exact rule i j t t' s _ _ ⟨.int (g i j),H,I.tok _,⟨_,rfl⟩,q⟩
theorem opB0 {f:Value -> Value -> Sem Value} {g:Int -> Int -> Bool}
   (rule:∀ (i j:Int) (t u:Tok) (s:Shared) (Q:Value -> Shared -> Prop) (E:Value -> Shared -> Prop),Q (.bool (g i j)) s -> wpAny (model X.prog X.w) X.A (f (.int i t) (.int j u)) Q E s) :
   OpR X f (rI0 fun i j => .bl (g i j)):=by
 intro pins s σ H x y v u Q I rx ry h
 obtain ⟨i,j,rfl,rfl,q⟩:=h
 obtain ⟨t,rfl⟩:=rx
 obtain ⟨t',rfl⟩:=ry
 exact rule i j t t' s _ _ ⟨.bl (g i j),H,I,rfl,q⟩
def CDiv (i j:Int):Prop:=0 < j /\ j < 1073741824
def CPow (i j:Int):Prop:=0 <= j /\ j <= 1000000 /\ i.natAbs < 2 ^ 64
def CMul (i j:Int):Prop:=(-(2 ^ 64) < i /\ i < 2 ^ 64) \/ (-(2 ^ 64) < j /\ j < 2 ^ 64)
theorem CMul.ok {i j:Int} (h:CMul i j):IntMulOk i j:=by
 rcases h with ⟨h1,h2⟩ | ⟨h1,h2⟩
 · exact .of_left (intBits_le_64 h1 h2)
 · exact .of_right (intBits_le_64 h1 h2)
theorem op_add:OpR X (binaryOp .Add) (rI0 fun i j => .int (i + j)):=opI0 fun _ _ _ _ _ _ _ q => add_int q
theorem op_sub:OpR X (binaryOp .Sub) (rI0 fun i j => .int (i - j)):=opI0 fun _ _ _ _ _ _ _ q => sub_int q
theorem op_mul:OpR X (binaryOp .Mult) (rI CMul fun i j => .int (i * j)):=opI fun _ _ _ _ _ _ _ hc q => mul_int q hc.ok
theorem op_fdiv:OpR X (binaryOp .FloorDiv) (rI CDiv fun i j => .int (i / j)):=opI fun i j _ _ _ _ _ hc q => by
 have h1:(0:Int) < j:=hc.1
 have h2:j < 1073741824:=hc.2
 exact floordiv_int (by omega) (by rw [Int.fdiv_eq_ediv_of_nonneg i (by omega)]; exact q) (.inl (PyProof.noPylong_small (by omega)))
theorem op_mod:OpR X (binaryOp .Mod) (rI (fun _ j => 0 < j) fun i j => .int (i % j)):=opI fun i j _ _ _ _ _ hc q => by
 have h1:(0:Int) < j:=hc
 exact mod_int' (by omega) (by rw [Int.fmod_eq_emod_of_nonneg i (by omega)]; exact q)
theorem op_pow:OpR X (binaryOp .Pow) (rI CPow fun i j => .int (i ^ j.toNat)):=opI fun _ _ _ _ _ _ _ hc q => pow_int_small hc.1 hc.2.1 hc.2.2 q
theorem op_shl:OpR X (binaryOp .LShift) (rI CPow fun i j => .int (i * 2 ^ j.toNat)):=opI fun _ _ _ _ _ _ _ hc q => lshift_int_small hc.1 hc.2.1 hc.2.2 q
theorem op_and:OpR X (binaryOp .BitAnd) (rI0 fun i j => .int (Builtin.bitAnd i j)):=opI0 fun _ _ _ _ _ _ _ q => and_int q
theorem op_xor:OpR X (binaryOp .BitXor) (rI0 fun i j => .int (Builtin.bitXor i j)):=opI0 fun _ _ _ _ _ _ _ q => xor_int q
theorem unI {f:Value -> Sem Value} {g:Int -> Int}
   (rule:∀ (i:Int) (t:Tok) (s:Shared) (Q:Value -> Shared -> Prop) (E:Value -> Shared -> Prop),Q (.int (g i) s.toks) { s with toks:=s.toks + 1 } -> wpAny (model X.prog X.w) X.A (f (.int i t)) Q E s) :
   UnR X f (rU fun i => .int (g i)):=by
 intro pins s σ H x v Q I rx h
 obtain ⟨i,rfl,q⟩:=h
 obtain ⟨t,rfl⟩:=rx
 exact rule i t s _ _ ⟨.int (g i),H,I.tok _,⟨_,rfl⟩,q⟩
theorem un_neg:UnR X (unaryOp .USub) (rU fun i => .int (-i)):=unI fun _ _ _ _ _ q => neg_int q
theorem un_inv:UnR X (unaryOp .Invert) (rU fun i => .int (Builtin.bitNot i)):=unI fun _ _ _ _ _ q => invert_int q
end
def scal:V -> V -> Bool
 | .non,.non => true | .non,.int _ => true | .int _,.non => true | .non,.bl _ => true | .bl _,.non => true | .non,.str _ => true | .str _,.non => true
 | .int _,.int _ => true | .bl _,.bl _ => true | .str _,.str _ => true | .byt _,.byt _ => true
 | .int _,.str _ => true | .str _,.int _ => true | .bl _,.str _ => true | .str _,.bl _ => true
 | _,_ => false
def rEq:R2:=fun x y H Q => scal x y = true /\ Q (.bl (decide (x = y))) H
def rNe:R2:=fun x y H Q => scal x y = true /\ Q (.bl (!decide (x = y))) H
theorem dec_int {i j:Int}:decide (V.int i = V.int j) = (i == j):=by
 rw [Bool.eq_iff_iff]
 simp
theorem dec_bl {i j:Bool}:decide (V.bl i = V.bl j) = (i == j):=by
 rw [Bool.eq_iff_iff]
 simp
theorem dec_str {i j:Str}:decide (V.str i = V.str j) = (i == j):=by
 rw [Bool.eq_iff_iff]
 simp
theorem dec_byt {i j:Array UInt8}:decide (V.byt i = V.byt j) = (i.toList == j.toList):=by
 rw [Bool.eq_iff_iff]
 cases i
 cases j
 simp
section
variable {X:Cx} {a b c:Expr} {ta tb tc:TE} {pos:Pos}
theorem zY {pins:List (Addr × Obj)} {σ:St} {H:Hp} {s:Shared} {Q:VK} {k k':Bool} (I:Inv X pins σ H s) (q:Q (.bl k) H) (e:k = k'):EP X pins σ Q (.bool k') s:=by
 subst e
 exact ⟨.bl k,H,I,rfl,q⟩
theorem op_eq:OpR X (compareOp .Eq) rEq:=by
 intro pins s σ H x y v u Q I rx ry h
 obtain ⟨hs,q⟩:=h
 cases x with
 | non =>
   cases rx
   cases y with
   | non => cases ry; exact PySem.EqNone.eq_none_none (zY I q (by simp))
   | bl j => cases ry; exact PySem.EqNone.eq_none_bool (zY I q (by simp))
   | int j => obtain ⟨t',rfl⟩:=ry; exact PySem.EqNone.eq_none_int (zY I q (by simp))
   | str j => obtain ⟨t',rfl⟩:=ry; exact PySem.EqNone.eq_none_str (zY I q (by simp))
   | _ => exact absurd (show false = true from hs) Bool.false_ne_true
 | bl i =>
   cases rx
   cases y with
   | non => cases ry; exact PySem.EqNone.eq_bool_none (zY I q (by simp))
   | bl j => cases ry; exact eq_bool (zY I q dec_bl)
   | str j => obtain ⟨t',rfl⟩:=ry; exact PySem.EqMixed.eq_bool_str (zY I q (by simp))
   | _ => exact absurd (show false = true from hs) Bool.false_ne_true
 | int i =>
   obtain ⟨t,rfl⟩:=rx
   cases y with
   | non => cases ry; exact PySem.EqNone.eq_int_none (zY I q (by simp))
   | int j => obtain ⟨t',rfl⟩:=ry; exact eq_int (zY I q dec_int)
   | str j => obtain ⟨t',rfl⟩:=ry; exact PySem.EqMixed.eq_int_str (zY I q (by simp))
   | _ => exact absurd (show false = true from hs) Bool.false_ne_true
 | str i =>
   obtain ⟨t,rfl⟩:=rx
   cases y with
   | non => cases ry; exact PySem.EqNone.eq_str_none (zY I q (by simp))
   | bl j => cases ry; exact PySem.EqMixed.eq_str_bool (zY I q (by simp))
   | int j => obtain ⟨t',rfl⟩:=ry; exact PySem.EqMixed.eq_str_int (zY I q (by simp))
   | str j => obtain ⟨t',rfl⟩:=ry; exact eq_str (zY I q dec_str)
   | _ => exact absurd (show false = true from hs) Bool.false_ne_true
 | byt i =>
   obtain ⟨t,rfl⟩:=rx
   cases y with
   | byt j => obtain ⟨t',rfl⟩:=ry; exact PySem.W.eq_bytes (zY I q dec_byt)
   | _ => exact absurd (show false = true from hs) Bool.false_ne_true
 | _ => cases y <;> exact absurd (show false = true from hs) Bool.false_ne_true
theorem op_ne:OpR X (compareOp .NotEq) rNe:=by
 intro pins s σ H x y v u Q I rx ry h
 obtain ⟨hs,q⟩:=h
 cases x with
 | non =>
   cases rx
   cases y with
   | non => cases ry; exact PySem.EqNone.ne_none_none (zY I q (by simp))
   | bl j => cases ry; exact PySem.EqNone.ne_none_bool (zY I q (by simp))
   | int j => obtain ⟨t',rfl⟩:=ry; exact PySem.EqNone.ne_none_int (zY I q (by simp))
   | str j => obtain ⟨t',rfl⟩:=ry; exact PySem.EqNone.ne_none_str (zY I q (by simp))
   | _ => exact absurd (show false = true from hs) Bool.false_ne_true
 | bl i =>
   cases rx
   cases y with
   | non => cases ry; exact PySem.EqNone.ne_bool_none (zY I q (by simp))
   | bl j => cases ry; exact ne_bool (zY I q (congrArg not dec_bl))
   | str j => obtain ⟨t',rfl⟩:=ry; exact PySem.EqMixed.ne_bool_str (zY I q (by simp))
   | _ => exact absurd (show false = true from hs) Bool.false_ne_true
 | int i =>
   obtain ⟨t,rfl⟩:=rx
   cases y with
   | non => cases ry; exact PySem.EqNone.ne_int_none (zY I q (by simp))
   | int j => obtain ⟨t',rfl⟩:=ry; exact ne_int (zY I q (congrArg not dec_int))
   | str j => obtain ⟨t',rfl⟩:=ry; exact PySem.EqMixed.ne_int_str (zY I q (by simp))
   | _ => exact absurd (show false = true from hs) Bool.false_ne_true
 | str i =>
   obtain ⟨t,rfl⟩:=rx
   cases y with
   | non => cases ry; exact PySem.EqNone.ne_str_none (zY I q (by simp))
   | bl j => cases ry; exact PySem.EqMixed.ne_str_bool (zY I q (by simp))
   | int j => obtain ⟨t',rfl⟩:=ry; exact PySem.EqMixed.ne_str_int (zY I q (by simp))
   | str j => obtain ⟨t',rfl⟩:=ry; exact ne_str (zY I q (congrArg not dec_str))
   | _ => exact absurd (show false = true from hs) Bool.false_ne_true
 | byt i =>
   obtain ⟨t,rfl⟩:=rx
   cases y with
   | byt j => obtain ⟨t',rfl⟩:=ry; exact PySem.W.ne_bytes (zY I q (congrArg not dec_byt))
   | _ => exact absurd (show false = true from hs) Bool.false_ne_true
 | _ => cases y <;> exact absurd (show false = true from hs) Bool.false_ne_true
theorem op_lt:OpR X (compareOp .Lt) (rI0 fun i j => .bl (decide (i < j))):=opB0 fun _ _ _ _ _ _ _ q => lt_int q
theorem op_le:OpR X (compareOp .LtE) (rI0 fun i j => .bl (decide (i <= j))):=opB0 fun _ _ _ _ _ _ _ q => le_int q
theorem op_gt:OpR X (compareOp .Gt) (rI0 fun i j => .bl (decide (j < i))):=opB0 fun _ _ _ _ _ _ _ q => gt_int q
theorem op_ge:OpR X (compareOp .GtE) (rI0 fun i j => .bl (decide (j <= i))):=opB0 fun _ _ _ _ _ _ _ q => ge_int q
theorem op_isN:OpR X (compareOp .Is) (fun x y H Q => y = .non /\ Q (.bl (decide (x = .non))) H):=by
 intro pins s σ H x y v u Q I rx ry h
 obtain ⟨rfl,q⟩:=h
 cases ry
 refine is_none_gen (zY I q ?_)
 cases x <;> first
   | (cases rx; rfl)
   | (obtain ⟨t,rfl⟩:=rx; rfl)
theorem op_notN:OpR X (compareOp .IsNot) (fun x y H Q => y = .non /\ Q (.bl (!decide (x = .non))) H):=by
 intro pins s σ H x y v u Q I rx ry h
 obtain ⟨rfl,q⟩:=h
 cases ry
 refine isnot_none_gen (zY I q ?_)
 cases x <;> first
   | (cases rx; rfl)
   | (obtain ⟨t,rfl⟩:=rx; rfl)
theorem zL (b:Expr) {op:CmpOp} (h:op ≠ .In:=by decide) (h2:op ≠ .NotIn:=by decide):behindInMarks op b = false:=by
 have e1:(op == CmpOp.In) = false:=by cases op <;> first | rfl | exact absurd rfl h
 have e2:(op == CmpOp.NotIn) = false:=by cases op <;> first | rfl | exact absurd rfl h2
 cases b <;> simp [behindInMarks,e1,e2]
theorem yP {op:CmpOp} {r:R2} (ho:OpR X (compareOp op) r) (ha:PE X a ta) (hb:PE X b tb) (hm:behindInMarks op b = false):PE X (.Compare a [op] [b] pos) (tOp r ta tb):=by
 intro pins s σ H Q I h
 exact wpAny_Compare1 (binT ha hb I h fun v u s2 x y H2 I2 rx ry q => ho pins s2 σ H2 x y v u Q I2 rx ry q) hm
def tTest (t:TE):TT:=fun σ H Q => t σ H fun x H' => ∃ k,x = .bl k /\ Q k H'
theorem zN {op:CmpOp} {r:R2} (ho:OpR X (compareOp op) r) (ha:PE X a ta) (hb:PE X b tb) (hm:behindInMarks op b = false):PT X (.Compare a [op] [b] pos) (tTest (tOp r ta tb)):=by
 intro pins s σ H Q I h
 refine wpAny_isTrue_Compare1 (thn (ha pins s σ H _ I h) fun v s1 ⟨x,H1,I1,r1,q1⟩ => thn (hb pins s1 σ H1 _ I1 q1) fun u s2 ⟨y,H2,I2,r2,q2⟩ =>
   thn (ho pins s2 σ H2 x y v u _ I2 r1 r2 q2) fun c s3 ⟨z,H3,I3,r3,k,e,q3⟩ => ?_) hm
 subst e
 cases r3
 exact wpAny_truthy_bool ⟨H3,I3,q3⟩
def tChain (r r':R2) (ta tb tc:TE):TE:=fun σ H Q => ta σ H fun x H1 => tb σ H1 fun y H2 => r x y H2 fun z H3 => ∃ k,z = .bl k /\
 (if k = true then tc σ H3 fun w' H4 => r' y w' H4 Q else Q (.bl false) H3)
theorem pe_chain {op op':CmpOp} {r r':R2} (ho:OpR X (compareOp op) r) (ho':OpR X (compareOp op') r') (ha:PE X a ta) (hb:PE X b tb) (hc:PE X c tc)
   (hm:lastMarks [op,op'] [b,c] = false:=by with_unfolding_all rfl):PE X (.Compare a [op,op'] [b,c] pos) (tChain r r' ta tb tc):=by
 intro pins s σ H Q I h
 refine Compare_chain (thn (ha pins s σ H _ I h) fun v s1 ⟨x,H1,I1,r1,q1⟩ => chain_link (thn (hb pins s1 σ H1 _ I1 q1) fun u s2 ⟨y,H2,I2,r2,q2⟩ =>
   thn (ho pins s2 σ H2 x y v u _ I2 r1 r2 q2) fun d s3 ⟨z,H3,I3,r3,k,e,q3⟩ => ?_)) hm
 subst e
 cases r3
 refine wpAny_truthy_bool ?_
 cases k with
 | false => exact ite_ff ⟨.bl false,H3,I3,rfl,q3⟩
 | true => exact ite_tt (chain_last (thn (hc pins s3 σ H3 _ I3 q3) fun w' s4 ⟨z',H4,I4,r4,q4⟩ => ho' pins s4 σ H4 y z' u w' Q I4 r2 r4 q4))
def TruV (K:PySem.W.Frag) (x:V) (H:Hp) (k:Bool):Prop :=
 match x with
 | .non => k = false
 | .bl b => k = b
 | .int i => k = (i != 0)
 | .str y => y.length <= sizeLine /\ k = ((y.length:Int) != 0)
 | .byt y => y.size <= sizeLine /\ k = ((y.size:Int) != 0)
 | .ref p => (∃ xs,SqL K H p xs /\ k = !xs.isEmpty) \/ (∃ xs,SqT K H p xs /\ k = !xs.isEmpty) \/ ∃ kvs,H p = some (.dK kvs) /\ k = !kvs.isEmpty
 | _ => False
theorem isEmpty_kv {κ:Type} {kvs:List (κ × V)} {vs:List (κ × Value)} (r:KV kvs vs):(!vs.isEmpty) = !kvs.isEmpty:=by
 cases r <;> rfl
theorem wP {xs:List V} {its:List Value} (r:Vals xs its):(!its.toArray.isEmpty) = !xs.isEmpty:=by
 cases r <;> simp
theorem line63:(sizeLine:Nat) < 2 ^ 63:=by rw [sizeLine_eq]; decide
theorem tru_ok:TruR X (fun x H Q => ∃ k,TruV X.K x H k /\ Q k H):=by
 intro pins s σ H x v Q I rx h
 obtain ⟨k,e,q⟩:=h
 have hl:=line63
 have hs:sizeLine = 16777216:=sizeLine_eq
 cases x with
 | non =>
   cases rx
   have e':k = false:=e
   subst e'
   exact truthy_none ⟨H,I,q⟩
 | bl b =>
   cases rx
   have e':k = b:=e
   subst e'
   exact wpAny_truthy_bool ⟨H,I,q⟩
 | int i =>
   obtain ⟨t,rfl⟩:=rx
   have e':k = (i != 0):=e
   subst e'
   exact PySem.P.truthy_int ⟨H,I,q⟩
 | str y =>
   obtain ⟨t,rfl⟩:=rx
   obtain ⟨hy,e'⟩:y.length <= sizeLine /\ k = ((y.length:Int) != 0):=e
   subst e'
   exact PySem.P.truthy_str (by omega) ⟨H,I.tok _,q⟩
 | byt y =>
   obtain ⟨t,rfl⟩:=rx
   obtain ⟨hy,e'⟩:y.size <= sizeLine /\ k = ((y.size:Int) != 0):=e
   subst e'
   exact PySem.W.truthy_bytes (by omega) ⟨H,I.tok _,q⟩
 | ref p =>
   cases rx
   have e':(∃ xs,SqL X.K H p xs /\ k = !xs.isEmpty) \/ (∃ xs,SqT X.K H p xs /\ k = !xs.isEmpty) \/ ∃ kvs,H p = some (.dK kvs) /\ k = !kvs.isEmpty:=e
   rcases e' with ⟨xs,hx,e'⟩ | ⟨xs,hx,e'⟩ | ⟨kvs,hx,e'⟩
   · subst e'
     obtain ⟨its,r,pl,hz⟩:=I.list hx
     have hlen:=r.length
     exact wpAny_truthy_list pl.isList (by simp only [List.size_toArray]; omega) ⟨H,I.tok _,by rw [wP r]; exact q⟩
   · subst e'
     obtain ⟨its,r,pl,hz⟩:=I.tuple hx
     have hlen:=r.length
     exact truthy_tuple pl (by simp only [List.size_toArray]; omega) ⟨H,I.tok _,by rw [wP r]; exact q⟩
   · subst e'
     obtain ⟨hz,hS,vs,r,m⟩:kvs.length <= sizeLine /\ (p == sysModules) = false /\ ∃ vs,KV kvs vs /\ s.heap.DictOf (yH X.prog X.w) p vs:=I.hok p _ hx
     have hlen:kvs.length = vs.length:=Paired.length r
     exact wpAny_truthy_dict hS m (by omega) ⟨H,I.tok _,by rw [isEmpty_kv r]; exact q⟩
 | _ => exact (show False from e).elim
theorem pt_truth (ha:PE X a ta) (he:∀ whole,isTrue a X.env whole = (do let v ← whole; standAt a.pos; holding [v] (truthy v))) :
   PT X a (fun σ H Q => ta σ H fun x H' => ∃ k,TruV X.K x H' k /\ Q k H'):=by
 intro pins s σ H Q I h
 exact isTrue_plain (thn (ha pins s σ H _ I h) fun v s1 ⟨x,H1,I1,r1,q1⟩ => tru_ok pins s1 σ H1 x v Q I1 r1 q1) (he _)
theorem op_add_str:OpR X (binaryOp .Add) (fun x y H Q => ∃ i j,x = .str i /\ y = .str j /\ i.length + j.length <= sizeLine /\ Q (.str (i ++ j)) H):=by
 intro pins s σ H x y v u Q I rx ry h
 obtain ⟨i,j,rfl,rfl,hz,q⟩:=h
 obtain ⟨t,rfl⟩:=rx
 obtain ⟨t',rfl⟩:=ry
 exact add_str (fun t' tk => ⟨.str (i ++ j),H,I.tok _,⟨_,rfl⟩,q⟩) hz
theorem kI {x:V} {us:List Value} (r:Vals [x] us):∃ u,us = [u] /\ RelV x u:=by
 cases r with
 | cons r1 r2 => cases r2; exact ⟨_,rfl,r1⟩
theorem vals2 {x y:V} {us:List Value} (r:Vals [x,y] us):∃ u w',us = [u,w'] /\ RelV x u /\ RelV y w':=by
 cases r with
 | cons r1 r2 =>
   cases r2 with
   | cons r3 r4 => cases r4; exact ⟨_,_,rfl,r1,r3⟩
def LenV (K:PySem.W.Frag) (x:V) (H:Hp) (n:Nat):Prop :=
 match x with
 | .str y => y.length <= sizeLine /\ n = y.length
 | .byt y => y.size <= sizeLine /\ n = y.size
 | .ref p => (∃ xs,SqL K H p xs /\ n = xs.length) \/ ∃ xs,SqT K H p xs /\ n = xs.length
 | _ => False
theorem call_len:qW X (.builtin "len") (fun xs H Q => ∃ x n,xs = [x] /\ LenV X.K x H n /\ Q (.int n) H):=by
 intro pins s σ H xs us Q I r h
 obtain ⟨x,n,rfl,e,q⟩:=h
 obtain ⟨u,rfl,rx⟩:=kI r
 have hl:=line63
 have hs:sizeLine = 16777216:=sizeLine_eq
 cases x with
 | str y =>
   obtain ⟨t,rfl⟩:=rx
   obtain ⟨hy,e'⟩:y.length <= sizeLine /\ n = y.length:=e
   subst e'
   exact len_str (by omega) ⟨.int _,H,I.tok _,⟨_,rfl⟩,q⟩
 | byt y =>
   obtain ⟨t,rfl⟩:=rx
   obtain ⟨hy,e'⟩:y.size <= sizeLine /\ n = y.size:=e
   subst e'
   exact PySem.W.len_bytes (by omega) ⟨.int _,H,I.tok _,⟨_,rfl⟩,q⟩
 | ref p =>
   cases rx
   have e':(∃ xs,SqL X.K H p xs /\ n = xs.length) \/ ∃ xs,SqT X.K H p xs /\ n = xs.length:=e
   rcases e' with ⟨xs,hx,e'⟩ | ⟨xs,hx,e'⟩
   · subst e'
     obtain ⟨its,r',pl,hz⟩:=I.list hx
     have hlen:=r'.length
     exact Calls.call_len_list pl.isList (by simp only [List.size_toArray]; omega) ⟨.int xs.length,H,I.tok _,⟨_,by simp only [List.size_toArray]; rw [hlen]⟩,q⟩
   · subst e'
     obtain ⟨its,r',pl,hz⟩:=I.tuple hx
     have hlen:=r'.length
     exact len_tuple pl (by simp only [List.size_toArray]; omega) ⟨.int xs.length,H,I.tok _,⟨_,by simp only [List.size_toArray]; rw [hlen]⟩,q⟩
 | _ => exact (show False from e).elim
end
structure ObjM (h:Heap) (x dx C:Addr) (mA:Str -> Option Value):Prop where
 obj:h.get? x = some (PySem.W.instObj C dx)
 ns:h.Ns1 dx mA
 ne:dx ≠ x
theorem lookIn_ns {h:Heap} {dx:Addr} {mA:Str -> Option Value} (n:h.Ns1 dx mA):∃ od,h.get? dx = some od /\ ∀ name,PySem.W.lookIn name od = some (mA name):=by
 obtain ⟨o,es,ep,ho,hd,hk,_,hm⟩:=n
 refine ⟨o,ho,fun name => ?_⟩
 have e:=hm name
 unfold nsFind findBy at e
 rw [← Array.find?_toList] at e
 unfold PySem.W.lookIn
 rw [hd]
 dsimp only
 split
 · rename_i y q
   rw [q] at e
   exact congrArg some e
 · rename_i q
   rw [q] at e
   have a:es.toList.any (·.refKey) = false:=by
     rw [List.any_eq_false]
     intro y hy
     obtain ⟨z,t,hkey⟩:=hk y (Array.mem_toList_iff.mp hy)
     simp [DictEntry.refKey,hkey]
   have a':¬ es.toList.any (·.refKey) = true:=by rw [a]; exact Bool.false_ne_true
   rw [if_neg a']
   exact congrArg some e
theorem ObjM.look {h:Heap} {x dx C:Addr} {mA:Str -> Option Value} (I:ObjM h x dx C mA):∃ od,PySem.W.InstAt h x (PySem.W.instObj C dx) C (some od) /\ ∀ name,PySem.W.lookIn name od = some (mA name) :=
 let ⟨od,ho,hl⟩:=lookIn_ns I.ns
 ⟨od,⟨I.obj,rfl,rfl,ho⟩,hl⟩
section
variable {prog:Program} {w:World} {A:Around} {E:Value -> Shared -> Prop} {s:Shared} {K:PySem.W.Frag} {x dx C f:Addr} {mA:Str -> Option Value} {name:Str} {v:Value}
theorem get_map {expr:Bool} {Q:Value -> Shared -> Prop} (X:K.In s.heap) (I:ObjM s.heap x dx C mA) (hg:PySem.W.plainGet K C name = true) (hh:PySem.W.hasDictIn K C = true)
   (ha:PySem.W.findIn K (.ref C) name = some none) (hv:mA name = some v) (hv':PySem.W.handedIn v = true) (h:Q v { s with toks:=s.toks + 1 }) :
   wpAny (model prog w) A (getAttr (.ref x) name expr) Q E s:=by
 obtain ⟨od,J,hl⟩:=I.look
 exact PySem.W.get_value X J (PySem.W.plainGet_of hg).1 (PySem.W.findObj_own hh ha rfl (by rw [hl,hv])) hv' h
theorem get_meth {pl:Sem Bool} {Q:Value × List Value -> Shared -> Prop} (X:K.In s.heap) (I:ObjM s.heap x dx C mA) (hg:PySem.W.plainGet K C name = true)
   (hf:PySem.W.findIn K (.ref C) name = some (some (.ref f))) (ht:PySem.W.isFn K (.ref f) = true) (hv:mA name = none) (h:Q (.ref f,[.ref x]) s) :
   wpAny (model prog w) A (getMethod (.ref x) name pl) Q E s:=by
 obtain ⟨od,J,hl⟩:=I.look
 exact PySem.W.method_fn X J (PySem.W.plainGet_of hg).1 (PySem.W.plainGet_of hg).2 hf (beq_iff_eq.mp ht) (by show (PySem.W.lookIn name od).map (·.isSome) = some false; rw [hl,hv]; rfl) h
theorem set_map {ns:List Str} {Q:Unit -> Shared -> Prop} (X:K.In s.heap) (I:ObjM s.heap x dx C mA)
   (hs:PySem.W.findIn K (.ref C) "__setattr__" = some (some (.builtin "object.__setattr__"))) (hp:PySem.W.plainOver K C = true) (ht:PySem.W.takerIn K C name = some none) (hh:PySem.W.hasDictIn K C = true)
   (hw:PySem.Within mA ns) (hsz:ns.length <= sizeLine)
   (h:∀ h',ObjM h' x dx C (fun y => if y = name then some v else mA y) -> Heap.SameBut dx s.heap h' -> Q () { s with heap:=h',toks:=s.toks + 2 }) :
   wpAny (model prog w) A (setAttr (.ref x) name v) Q E s:=by
 obtain ⟨od,J,hl⟩:=I.look
 refine PySem.W.set_plain X J hs (PySem.W.osa_open (s:={ s with toks:=s.toks + 1 }) (r:=none) X J hp ht fun b => ?_)
 obtain ⟨cd,hc,hd'⟩:=PySem.W.any_some hh
 have hx:s.heap.get? x = some ⟨.ref C,some dx,.plain,#[]⟩:=I.obj
 refine wpAny_bind (wpAny_pure (wpAny_bind (wpAny_bind (wpAny_loadPart hx (wpAny_bind (PySem.W.Looks.here (s:={ s with toks:=s.toks + 1 }) (PySem.W.looks_clsIn X hc) ?_))))))
 rw [hd']
 refine wpAny_pure (a:=some dx) (wpAny_bind (wpAny_pure (wpAny_bind ?_)))
 refine wpAny_nsSet1 (s:={ s with toks:=s.toks + 1 }) I.ns fun h' hn2 hs2 => ?_
 obtain ⟨oD,esD,epD,hoD,hdD,hcD⟩:=hn2.count (PySem.Within.cons name v hw)
 refine wpAny_bind (wpAny_lookBehind hoD (by rw [hdD]; exact pastItsLine_dict (Nat.le_trans hcD (by rw [List.length_cons]; omega))) ?_)
 exact wpAny_pure (h _ ⟨(hs2.2 _ (Ne.symm I.ne)).trans I.obj,hn2,I.ne⟩ hs2)
theorem make_map {R:Result -> Shared -> Prop} {vs:List Value} {kw:List (Str × Value)} (X:K.In s.heap) (hm:PySem.W.makesIn K C = true)
   (hi:PySem.W.findIn K (.ref C) "__init__" = some (some (.ref f))) (hf:PySem.W.typeIn K (.ref f) = some (.type "function"))
   (h:codeAny (model prog w) (A.under (.builtin "type.__call__" ⟨.ref C :: vs,kw⟩)) (.call (.ref f) ⟨.ref (s.heap.objs.size + 1) :: vs,kw⟩) (PySem.W.InitBack (s.heap.objs.size + 1) R)
     { s with heap:=(s.heap.push PySem.W.emptyDict).push (PySem.W.instObj C s.heap.objs.size) }) :
   codeAny (model prog w) A (.call (.ref C) ⟨vs,kw⟩) R s:=by
 obtain ⟨hh,g,d,t,os⟩:=s
 exact PySem.W.make_core (PySem.W.makes_of X hm) (PySem.W.looks_findIn X hi) (fun self => PySem.W.bind_fn X self hf) (.inl rfl) h
end
def xE (f:Str) (v:V):List (Str × V) -> List (Str × V)
 | [] => [(f,v)]
 | (g,x) :: r => if g = f then (g,v) :: r else (g,x) :: xE f v r
theorem vK (f g:Str) (v:V):∀ fs:List (Str × V),(xE f v fs).lookup g = if g = f then some v else fs.lookup g
 | [] => by
   show List.lookup g [(f,v)] = _
   by_cases h:g = f
   · have hb : (g == f) = true := beq_iff_eq.mpr h
     simp only [List.lookup,hb,if_pos h]
   · have hb : (g == f) = false := beq_eq_false_iff_ne.mpr h
     simp only [List.lookup,hb,if_neg h]
 | (k, x) :: r => by
   have ih:=vK f g v r
   rw [show xE f v ((k,x) :: r) = (if k = f then (k,v) :: r else (k,x) :: xE f v r) from rfl]
   by_cases hk:k = f
   · rw [if_pos hk]
     by_cases h:g = k
     · have hb : (g == k) = true := beq_iff_eq.mpr h
       simp only [List.lookup,hb,if_pos (h.trans hk)]
     · have hb : (g == k) = false := beq_eq_false_iff_ne.mpr h
       simp only [List.lookup,hb,if_neg (fun e:g = f => h (e.trans hk.symm))]
   · rw [if_neg hk]
     by_cases h:g = k
     · have hb : (g == k) = true := beq_iff_eq.mpr h
       simp only [List.lookup,hb,if_neg (fun e:g = f => hk (h.symm.trans e))]
     · have hb : (g == k) = false := beq_eq_false_iff_ne.mpr h
       simp only [List.lookup,hb]
       exact ih
theorem vE (f:Str) (v:V):∀ fs:List (Str × V),f ∈ (xE f v fs).map (·.1) /\ ∀ g,g ∈ fs.map (·.1) -> g ∈ (xE f v fs).map (·.1)
 | [] => ⟨by simp [xE],fun g h => by simp at h⟩
 | (k, x) :: r => by
   obtain ⟨i1,i2⟩:=vE f v r
   rw [show xE f v ((k,x) :: r) = (if k = f then (k,v) :: r else (k,x) :: xE f v r) from rfl]
   by_cases hk:k = f
   · rw [if_pos hk]
     subst hk
     exact ⟨by simp,fun g h => by simpa using h⟩
   · rw [if_neg hk]
     refine ⟨?_,fun g h => ?_⟩
     · rw [List.map_cons]
       exact List.mem_cons_of_mem _ i1
     · rw [List.map_cons] at h ⊢
       rcases List.mem_cons.mp h with e | e
       · exact List.mem_cons.mpr (.inl e)
       · exact List.mem_cons_of_mem _ (i2 g e)
theorem vL (f:Str) (v:V):∀ fs:List (Str × V),(xE f v fs).length <= fs.length + 1
 | [] => by simp [xE]
 | (k, x) :: r => by
   have ih:=vL f v r
   rw [show xE f v ((k,x) :: r) = (if k = f then (k,v) :: r else (k,x) :: xE f v r) from rfl]
   by_cases hk:k = f
   · rw [if_pos hk,List.length_cons,List.length_cons]; omega
   · rw [if_neg hk,List.length_cons,List.length_cons]; omega
theorem RelO.some_of {v:V} {o:Option Value} (r:RelO (some v) o):∃ u,o = some u /\ RelV v u:=by
 cases o with
 | none => exact (show False from r).elim
 | some u => exact ⟨u,rfl,r⟩
theorem RelO.none_of {o:Option Value} (r:RelO none o):o = none:=by
 cases o with
 | none => rfl
 | some u => exact (show False from r).elim
theorem handed_of {v:V} {u:Value} (r:RelV v u):PySem.W.handedIn u = true:=by
 cases v with
 | non => cases (show u = Value.none from r); rfl
 | bl b => cases (show u = Value.bool b from r); rfl
 | int i => obtain ⟨t,e⟩:=(show ∃ t,u = Value.int i t from r); cases e; rfl
 | str x => obtain ⟨t,e⟩:=(show ∃ t,u = Value.str x t from r); cases e; rfl
 | byt b => obtain ⟨t,e⟩:=(show ∃ t,u = Value.bytes b t from r); cases e; rfl
 | flt b => obtain ⟨t,e⟩:=(show ∃ t,u = Value.float b t from r); cases e; rfl
 | ref a => cases (show u = Value.ref a from r); rfl
 | ty n => cases (show u = Value.type n from r); rfl
section
variable {P:Program} {w:World} {H H':Hp} {h h':Heap} {a C dx:Addr} {fs fs':List (Str × V)}
theorem vY (hok:HOk P w H h) (e:H a = some (.ins C dx fs)):∃ mA,ObjM h a dx C mA /\ (∀ f,RelO (fs.lookup f) (mA f)) /\ PySem.Within mA (fs.map (·.1)) /\ fs.length <= 1000 /\ H dx = some (.own a):=by
 obtain ⟨d,z,ne,ob,mA,n,r,q⟩:=(show ObjOk P w H h a (.ins C dx fs) from hok a _ e)
 exact ⟨mA,⟨ob,n,ne⟩,r,q,z,d⟩
end
structure Cls (K:PySem.W.Frag) (C:Addr):Prop where
 pg:PySem.W.plainGet K C Str.empty = true
 hd:PySem.W.hasDictIn K C = true
 po:PySem.W.plainOver K C = true
 sa:PySem.W.findIn K (.ref C) "__setattr__" = some (some (.builtin "object.__setattr__"))
theorem Cls.get {K:PySem.W.Frag} {C:Addr} (c:Cls K C) (f:Str):PySem.W.plainGet K C f = true:=c.pg
def NoAttr (K:PySem.W.Frag) (C:Addr) (f:Str):Prop:=PySem.W.findIn K (.ref C) f = some none
theorem NoAttr.taker {K:PySem.W.Frag} {C:Addr} {f:Str} (n:NoAttr K C f):PySem.W.takerIn K C f = some none:=by
 unfold PySem.W.takerIn
 rw [show PySem.W.findIn K (.ref C) f = some none from n]
 rfl
structure Con (K:PySem.W.Frag) (C:Addr) (f:Str) (v:V) (u:Value):Prop where
 at_:PySem.W.findIn K (.ref C) f = some (some u)
 rel:RelV v u
 get:PySem.W.specialIn K u "__get__" = some none
 cp:PySem.W.copiedNames.contains f = false
structure Meth (K:PySem.W.Frag) (C:Addr) (m:Str) (f:Addr):Prop where
 at_:PySem.W.findIn K (.ref C) m = some (some (.ref f))
 fn:PySem.W.isFn K (.ref f) = true
 kp:PySem.W.keepIn K (.ref f) = true
section
variable {X:Cx} {pins:List (Addr × Obj)} {σ:St} {H:Hp} {s:Shared} {a C dx:Addr} {fs:List (Str × V)} {f:Str} {v:V} {A:Around} {E:Value -> Shared -> Prop}
theorem getattr_ok {b:Bool} {Q:Value -> Shared -> Prop} (I:Inv X pins σ H s) (e:H a = some (.ins C dx fs)) (c:Cls X.K C) (n:NoAttr X.K C f) (l:fs.lookup f = some v)
   (h:∀ u s',Inv X pins σ H s' -> RelV v u -> Q u s'):wpAny (model X.prog X.w) A (getAttr (.ref a) f b) Q E s:=by
 obtain ⟨mA,O,r,_,_,_⟩:=vY I.hok e
 obtain ⟨u,hu,ru⟩:=RelO.some_of (v:=v) (o:=mA f) (by rw [← l]; exact r f)
 exact get_map I.kIn O (c.get f) c.hd n hu (handed_of ru) (h u _ (I.tok _) ru)
theorem getmeth_ok {m:Str} {g:Addr} {pl:Sem Bool} {Q:Value × List Value -> Shared -> Prop} (I:Inv X pins σ H s) (e:H a = some (.ins C dx fs)) (c:Cls X.K C) (k:Meth X.K C m g) (l:fs.lookup m = none)
   (h:Q (.ref g,[.ref a]) s):wpAny (model X.prog X.w) A (getMethod (.ref a) m pl) Q E s:=by
 obtain ⟨mA,O,r,_,_,_⟩:=vY I.hok e
 have hn:mA m = none:=RelO.none_of (by rw [← l]; exact r m)
 exact get_meth I.kIn O (c.get m) k.at_ k.fn hn h
theorem setattr_ok {y:V} {u:Value} {Q:Unit -> Shared -> Prop} (I:Inv X pins σ H s) (e:H a = some (.ins C dx fs)) (c:Cls X.K C) (n:NoAttr X.K C f) (hl:fs.length < 1000) (ry:RelV y u)
   (h:∀ s',Inv X pins σ (upd H a (.ins C dx (xE f y fs))) s' -> Q () s'):wpAny (model X.prog X.w) A (setAttr (.ref a) f u) Q E s:=by
 obtain ⟨mA,O,r,wi,_,ho⟩:=vY I.hok e
 have hz:(fs.map (·.1)).length <= sizeLine:=by rw [List.length_map,sizeLine_eq]; omega
 refine set_map I.kIn O c.sa c.po n.taker c.hd wi hz fun h' O' sb => h _ ?_
 have hd:∃ o,h'.get? dx = some o:=let ⟨o,_,_,e',_⟩:=O'.ns; ⟨o,e'⟩
 refine I.write (x:=a) (e:=dx) (by rw [e]; exact True.intro) (.inr ho) (fun b q hb z => (sb.2 b hb).trans z) hd ?_
 refine ⟨by rw [zH O.ne]; exact ho,?_,O.ne,O'.obj,_,O'.ns,fun g => ?_,fun g hg => ?_⟩
 · have:=vL f y fs; omega
 · show RelO ((xE f y fs).lookup g) (if g = f then some u else mA g)
   rw [vK]
   by_cases q:g = f
   · rw [if_pos q,if_pos q]; exact ry
   · rw [if_neg q,if_neg q]; exact r g
 · by_cases q : g = f
   · rw [q]; exact (vE f y fs).1
   · refine (vE f y fs).2 g (wi g fun z => hg ?_)
     show (if g = f then some u else mA g) = none
     rw [if_neg q]; exact z
theorem Inv.made (I:Inv X pins σ H s):Inv X pins σ (upd (upd H s.heap.objs.size (.own (s.heap.objs.size + 1))) (s.heap.objs.size + 1) (.ins C s.heap.objs.size []))
   { s with heap:=(s.heap.push PySem.W.emptyDict).push (PySem.W.instObj C s.heap.objs.size) }:=by
 have e1:(s.heap.push PySem.W.emptyDict).get? s.heap.objs.size = some PySem.W.emptyDict:=Heap.get?_push_size s.heap rfl
 have e2:((s.heap.push PySem.W.emptyDict).push (PySem.W.instObj C s.heap.objs.size)).get? (s.heap.objs.size + 1) = some (PySem.W.instObj C s.heap.objs.size):=by
   have:=Heap.get?_push_size (s.heap.push PySem.W.emptyDict) (o:=PySem.W.instObj C s.heap.objs.size) rfl
   rwa [Heap.size_push] at this
 have e3:(s.heap.push PySem.W.emptyDict).Ns s.heap.objs.size (fun _ => none):=⟨PySem.W.emptyDict,#[],_,e1,rfl,(fun e he => absurd he (by simp)),fun _ => rfl⟩
 have I1:=I.laid (a:=s.heap.objs.size) (o:=.own (s.heap.objs.size + 1)) (h':=s.heap.push PySem.W.emptyDict) (t':=s.toks) (fun b u q => Heap.get?_push_of_some _ q) (Nat.le_refl _) ⟨_,e1⟩
 refine I1.laid (a:=s.heap.objs.size + 1) (o:=.ins C s.heap.objs.size []) (t':=s.toks) (fun b u q => Heap.get?_push_of_some _ q) (Nat.le_of_eq (Heap.size_push _ _)) ?_
 have ne:s.heap.objs.size ≠ s.heap.objs.size + 1:=Nat.ne_of_lt (Nat.lt_succ_self _)
 refine ⟨by rw [zH ne,zC],Nat.zero_le _,ne,e2,fun _ => none,(Heap.Ns1.of_empty e3).at fun o q => Heap.get?_push_of_some _ q,fun _ => True.intro,fun y hy => absurd rfl hy⟩
theorem attr_of {prog:Program} {w:World} {env:Env} {e:Expr} {f:Str} {pos:Pos} {s:Shared} {Q:Value -> Shared -> Prop} (hb:attributeBase e f env (eval e env) = eval e env)
   (h:wpAny (model prog w) A (eval e env) (fun o s₁ => wpAny (model prog w) A (getAttr o f true) Q E s₁) E s):wpAny (model prog w) A (eval (.Attribute e f pos) env) Q E s :=
 Attribute_any_ h (by rw [arm_eval_Attribute,hb])
end
def uN (K:PySem.W.Frag) (ta:TE) (f:Str):TE:=fun σ H Q => ta σ H fun x H1 => ∃ a C dx fs v,x = .ref a /\ H1 a = some (.ins C dx fs) /\ Cls K C /\ NoAttr K C f /\ fs.lookup f = some v /\ Q v H1
def sFld (K:PySem.W.Frag) (ta tv:TE) (f:Str):TS:=fun D σ H => tv σ H fun y H1 => ta σ H1 fun x H2 => ∃ a C dx fs,x = .ref a /\ H2 a = some (.ins C dx fs) /\ Cls K C /\ NoAttr K C f /\ fs.length < 1000 /\
 D.nx σ (upd H2 a (.ins C dx (xE f y fs)))
section
variable {X:Cx} {o e value:Expr} {f:Str} {pos pos' tpos:Pos} {ta tv:TE}
theorem xF (he:PE X e ta) (hb:attributeBase e f X.env (eval e X.env) = eval e X.env):PE X (.Attribute e f pos) (uN X.K ta f):=by
 intro pins s σ H Q I h
 refine attr_of hb (thn (he pins s σ H _ I h) fun u s1 ⟨x,H1,I1,rx,a,C,dx,fs,v,ex,ea,c,n,l,q⟩ => ?_)
 subst ex
 obtain rfl:u = Value.ref a:=rx
 exact getattr_ok I1 ea c n l fun u' s2 I2 ru => ⟨v,H1,I2,ru,q⟩
theorem ZP (ha:PE X o ta) (hv:PE X value tv) (hs:swapsWith value (some (.Attribute o f pos')) pos.line X.env = pure false):PS X (.Assign [.Attribute o f pos'] value pos) (sFld X.K ta tv f):=by
 intro pins s σ H D I h
 refine plainObj_wpAny_Assign_Attribute (thn (hv pins s σ H _ I h) fun u s1 ⟨y,H1,I1,ry,q⟩ => thn (ha pins s1 σ H1 _ I1 q) fun ov s2 ⟨x,H2,I2,rx,a,C,dx,fs,ex,ea,c,n,l,q2⟩ => ?_) hs
 subst ex
 obtain rfl:ov = Value.ref a:=rx
 exact setattr_ok I2 ea c n l ry fun s3 I3 => ⟨σ,_,I3,q2⟩
end
section
variable {X:Cx} {pins:List (Addr × Obj)} {σ:St} {H:Hp} {s:Shared} {A:Around} {E:Value -> Shared -> Prop} {Q:Value -> Shared -> Prop} {c:Value} {b:Bool}
inductive TyOf (K:PySem.W.Frag) (H:Hp):V -> Value -> Prop where
 | non:TyOf K H .non (.type "NoneType")
 | bl (x:Bool):TyOf K H (.bl x) (.type "bool")
 | int (i:Int):TyOf K H (.int i) (.type "int")
 | str (x:Str):TyOf K H (.str x) (.type "str")
 | flt (x:UInt64):TyOf K H (.flt x) (.type "float")
 | lst {a:Addr} {xs:List V} (e:H a = some (.lst xs)):TyOf K H (.ref a) (.type "list")
 | frz {a:Addr} {o:Obj} {xs:List V} (e:H a = some (.frz o (.lst xs))):TyOf K H (.ref a) (.type "list")
 | tup {a:Addr} {xs:List V} (e:H a = some (.tup xs)):TyOf K H (.ref a) (.type "tuple")
 | dK {a:Addr} {kvs:List (Key × V)} (e:H a = some (.dK kvs)):TyOf K H (.ref a) (.type "dict")
 | dT {a:Addr} {kvs:List (List Key × V)} (e:H a = some (.dT kvs)):TyOf K H (.ref a) (.type "dict")
 | ins {a C dx:Addr} {fs:List (Str × V)} (e:H a = some (.ins C dx fs)) (cl:Cls K C) (ha:PySem.W.findIn K (.ref C) "__class__" = some (some (.builtin "object.__class__")))
     (hn:PySem.W.specialIn K (.builtin "object.__class__") "__get__" = some (some (.builtin "getset_descriptor.__get__"))) (htk:PySem.W.takesIn K (.builtin "object.__class__") = some true)
     (hm:PySem.W.mroIn K C (.type "object") = some true):TyOf K H (.ref a) (.ref C)
theorem isinst_ok {x:V} {u t:Value} (I:Inv X pins σ H s) (rx:RelV x u) (ty:TyOf X.K H x t) (e:PySem.W.kitOne X.K t c = some b) (h:∀ tk,Q (.bool b) { s with toks:=tk }) :
   wpAny (model X.prog X.w) A (call (.builtin "isinstance") [u,c]) Q E s:=by
 cases ty with
 | non => cases (show u = Value.none from rx); exact PySem.W.kia_one PySem.W.kitx_none I.kIn True.intro e (fun z => nomatch z) h
 | bl y => cases (show u = Value.bool y from rx); exact PySem.W.kia_one PySem.W.kitx_bool I.kIn True.intro e (fun z => nomatch z) h
 | int i => obtain ⟨t,q⟩:=(show ∃ t,u = Value.int i t from rx); cases q; exact PySem.W.kia_one PySem.W.kitx_int I.kIn True.intro e (fun z => nomatch z) h
 | str y => obtain ⟨t,q⟩:=(show ∃ t,u = Value.str y t from rx); cases q; exact PySem.W.kia_one PySem.W.kitx_str I.kIn True.intro e (fun z => nomatch z) h
 | flt y => obtain ⟨t,q⟩:=(show ∃ t,u = Value.float y t from rx); cases q; exact PySem.W.kia_one PySem.W.kitx_float I.kIn True.intro e (fun z => nomatch z) h
 | @lst a xs ea =>
   cases (show u = Value.ref a from rx)
   obtain ⟨_,_,n,_,h1⟩:=(show ObjOk X.prog X.w H s.heap a (.lst xs) from I.hok a _ ea)
   exact PySem.W.kia_one PySem.W.kitx_list I.kIn ⟨_,h1,rfl⟩ e (fun z => nomatch z) h
 | @frz a ob xs ea =>
   cases (show u = Value.ref a from rx)
   obtain ⟨_,_,_,n,_,h1⟩:=(show ObjOk X.prog X.w H s.heap a (.frz ob (.lst xs)) from I.hok a _ ea)
   exact PySem.W.kia_one PySem.W.kitx_list I.kIn ⟨_,h1,rfl⟩ e (fun z => nomatch z) h
 | @tup a xs ea =>
   cases (show u = Value.ref a from rx)
   obtain ⟨_,_,_,p⟩:=(show ObjOk X.prog X.w H s.heap a (.tup xs) from I.hok a _ ea)
   obtain ⟨o,h1,h2,_⟩:=p
   exact PySem.W.kia_one PySem.W.kitx_tuple I.kIn ⟨o,h1,h2⟩ e (fun z => nomatch z) h
 | @dK a kvs ea =>
   cases (show u = Value.ref a from rx)
   obtain ⟨_,_,vs,_,p⟩:=(show ObjOk X.prog X.w H s.heap a (.dK kvs) from I.hok a _ ea)
   obtain ⟨o,es,ep,h1,h2,_⟩:=p
   exact PySem.W.kia_one PySem.W.kitx_dict I.kIn ⟨o,h1,h2.1⟩ e (fun z => nomatch z) h
 | @dT a kvs ea =>
   cases (show u = Value.ref a from rx)
   obtain ⟨_,_,xs,_,o,es,ep,h1,h2,_⟩:=(show ObjOk X.prog X.w H s.heap a (.dT kvs) from I.hok a _ ea)
   exact PySem.W.kia_one PySem.W.kitx_dict I.kIn ⟨o,h1,h2.1⟩ e (fun z => nomatch z) h
 | @ins a C dx fs ea cl ha hn htk hm =>
   cases (show u = Value.ref a from rx)
   obtain ⟨mA,O,_⟩:=vY I.hok ea
   obtain ⟨od,J,_⟩:=O.look
   exact PySem.W.kia_one (PySem.W.kitx_own (cl.get _) cl.hd ha hn htk hm) I.kIn J e (fun z => nomatch z) h
end
structure Room (k:Nat) (A:Around):Prop where
 hd:A.handled = none
 dp:A.depth + 3 * k + 5 < recursionLimit
 un:A.units + 16 * k + 200 < cLine
theorem Room.mono {j k:Nat} {A:Around} (r:Room k A) (h:j <= k):Room j A:=⟨r.hd,by have:=r.dp; omega,by have:=r.un; omega⟩
theorem Room.deeper {k:Nat} {A:Around} (r:Room (k + 1) A) (env:Env):Room k (A.deeper env) :=
 ⟨r.hd,by have:=r.dp; show A.depth + 1 + 3 * k + 5 < _; omega,by have:=r.un; show A.units + 3 + 16 * k + 200 < _; omega⟩
theorem make_depth {A:Around} {C:Addr} {us:List Value} {kw:List (Str × Value)}:(A.under (.builtin "type.__call__" ⟨.ref C :: us,kw⟩)).depth = A.depth + 1:=by
 first | rfl | simp [Around.under,Code.weight,Code.isCreation,Code.isGuard,Code.isCaller,Code.frames,Code.isFrame,guardIds]
theorem make_units {A:Around} {C:Addr} {us:List Value} {kw:List (Str × Value)}:(A.under (.builtin "type.__call__" ⟨.ref C :: us,kw⟩)).units = A.units + 1:=by
 first | rfl | simp [Around.under,Code.cUnits,Code.frames,Code.isFrame]
theorem Room.make {k:Nat} {A:Around} (r:Room (k + 1) A) (C:Addr) (us:List Value) (kw:List (Str × Value)):Room k (A.under (.builtin "type.__call__" ⟨.ref C :: us,kw⟩)) :=
 ⟨r.hd,by have:=r.dp; rw [make_depth]; omega,by have:=r.un; rw [make_units]; omega⟩
theorem Room.depth {k:Nat} {A:Around} (r:Room k A):A.depth < recursionLimit:=by have:=r.dp; omega
theorem Room.units {k:Nat} {A:Around} (r:Room k A):A.units + 64 < cLine:=by have:=r.un; omega
def tNil:TA:=fun _ H Q => Q [] H
def tCons (ta:TE) (tr:TA):TA:=fun σ H Q => ta σ H fun x H1 => tr σ H1 fun xs H2 => Q (x :: xs) H2
section
variable {X:Cx} {e:Expr} {es:List Expr} {te:TE} {t:TA} {pos:Pos}
theorem pa_nil:PA X [] tNil:=fun _ _ _ _ H Q I h => Calls.spliced_nil ⟨[],H,I,.nil,h⟩
theorem zA (ha:PE X e te) (hr:PA X es t) (hs:starEach (e :: es) X.env = (false,eval e X.env) :: starEach es X.env:=by rfl):PA X (e :: es) (tCons te t):=by
 intro pos pins s σ H Q I h
 rw [hs]
 show wpAny _ _ (spliced ((false,eval e X.env) :: backTo pos (starEach es X.env))) _ _ s
 refine Calls.spliced_cons (thn (ha pins s σ H _ I h) fun u s1 ⟨x,H1,I1,r1,q1⟩ => ?_)
 exact thn (hr pos pins s1 σ H1 _ I1 q1) fun us s2 ⟨xs,H2,I2,r2,q2⟩ => ⟨x :: xs,H2,I2,.cons r1 r2,q2⟩
def tTup (t:TA):TE:=fun σ H Q => t σ H fun xs H1 => xs.length <= sizeLine /\ ∀ p,H1 p = none -> Q (.ref p) (upd H1 p (.tup xs))
def tLst (t:TA):TE:=fun σ H Q => t σ H fun xs H1 => xs.length <= sizeLine /\ ∀ p,H1 p = none -> Q (.ref p) (upd H1 p (.lst xs))
theorem zX {x1} (h:PA X es t):PE X (.Tuple es x1 pos) (tTup t):=by
 intro pins s σ H Q I hq
 refine wpAny_Tuple_spliced (thn (h pos pins s σ H _ I hq) fun us s1 ⟨xs,H1,I1,r,z,q⟩ => ⟨by rw [← r.length]; exact z,?_⟩)
 have hf:H1 s1.heap.objs.size = none:=I1.hok.fresh (Nat.le_refl _)
 refine ⟨.ref s1.heap.objs.size,upd H1 s1.heap.objs.size (.tup xs),I1.laid (t':=s1.toks) (fun b u e => Heap.get?_push_of_some _ e) (Nat.le_refl _) ?_,rfl,q _ hf⟩
 exact ⟨z,us,r,⟨_,Heap.get?_push_size _ rfl,rfl,_,rfl⟩⟩
theorem jE (h:PA X es t):PE X (.List es pos) (tLst t):=by
 intro pins s σ H Q I hq
 refine wpAny_List_spliced (thn (h pos pins s σ H _ I hq) fun us s1 ⟨xs,H1,I1,r,z,q⟩ => ⟨by rw [← r.length]; exact z,?_⟩)
 have hf:H1 s1.heap.objs.size = none:=I1.hok.fresh (Nat.le_refl _)
 refine ⟨.ref s1.heap.objs.size,upd H1 s1.heap.objs.size (.lst xs),I1.laid (t':=s1.toks) (fun b u e => Heap.get?_push_of_some _ e) (Nat.le_refl _) ?_,rfl,q _ hf⟩
 exact ⟨z,us,0,r,Heap.get?_push_size _ rfl⟩
end
abbrev Sp:=List V -> Hp -> VK -> XK -> Prop
abbrev CXT:=List Env -> Hp -> Shared -> XK -> Value -> Shared -> Prop
structure Env0 (P:Program) (w:World) (K:PySem.W.Frag) (mg:Str -> Option Value) (base:Heap) (A:Around) (outer:List Env) (s:Shared) (H:Hp):Prop where
 frames:A.frames = some outer
 mod:Mod K mg base
 bs:∀ b o,base.get? b = some o -> s.heap.get? b = some o /\ H b = none
 bsz:base.objs.size <= s.heap.objs.size
 funs:s.heap.FunFrames base outer
 frf:∀ b ∈ frs outer,H b = none
 hok:HOk P w H s.heap
 bare:AllBare s.gens
def CE (outer:List Env) (P:Program) (w:World) (H:Hp) (s:Shared) (Q:VK) (u:Value) (s':Shared):Prop :=
 ∃ v H',s'.os = s.os /\ AllBare s'.gens /\ Un (frs outer) [] H H' s.heap s'.heap /\ HOk P w H' s'.heap /\ RelV v u /\ Q v H'
def CR (CX:CXT) (outer:List Env) (P:Program) (w:World) (H:Hp) (s:Shared) (Q:VK) (E:XK) (r:Result) (s':Shared):Prop :=
 match r with
 | .ok (.ret u) => CE outer P w H s Q u s'
 | .ok _ => False
 | .error e => CX outer H s E e s'
structure FnOk (P:Program) (w:World) (K:PySem.W.Frag) (mg:Str -> Option Value) (base:Heap) (CX:CXT) (k:Nat) (f:Addr) (fd:FuncData) (ps:List Str) (sp:Sp):Prop where
 len:∀ vs H Q E,sp vs H Q E -> vs.length = ps.length
 run:∀ (A:Around) (outer:List Env) (s:Shared) (H:Hp) (args:Args) (us:List Value) (vs:List V) (Q:VK) (E:XK),Room k A -> Env0 P w K mg base A outer s H -> BindsTo s fd args (ps.zip us) -> Vals vs us -> sp vs H Q E ->
   codeAny (model P w) A (.call (.ref f) args) (CR CX outer P w H s Q E) s
theorem Env0.make {P:Program} {w:World} {K:PySem.W.Frag} {mg:Str -> Option Value} {base:Heap} {A:Around} {outer:List Env} {s:Shared} {H:Hp} (e:Env0 P w K mg base A outer s H) (C:Addr) (us:List Value) (kw:List (Str × Value)) :
   Env0 P w K mg base (A.under (.builtin "type.__call__" ⟨.ref C :: us,kw⟩)) outer s H:=⟨by first | exact e.frames | (simpa [Around.under,Code.envs,Code.isFrame,pushEnvs] using e.frames),e.mod,e.bs,e.bsz,e.funs,e.frf,e.hok,e.bare⟩
section
variable {X:Cx} {pins:List (Addr × Obj)} {σ:St} {H:Hp} {s s':Shared}
theorem Inv.env0 (I:Inv X pins σ H s):Env0 X.prog X.w X.K X.mg X.base X.A X.stack s H :=
 ⟨I.ok.frames,I.ok.mod,I.bs,Nat.le_trans I.ok.bsz I.sz,I.stack,I.stkFree,I.hok,I.bare⟩
theorem Inv.after {Q:VK} {u:Value} (I:Inv X pins σ H s) (h:CE X.stack X.prog X.w H s Q u s'):EP X pins σ Q u s':=by
 obtain ⟨v,H',os,bare,un,hok,r,q⟩:=h
 obtain ⟨hh,g,d,t,os'⟩:=s'
 obtain rfl:os' = s.os:=os
 exact ⟨v,H',I.call (h':=hh) (g':=g) (d':=d) (t':=t) (ch:=[]) un hok bare (fun b z => absurd z (by simp)),r,q⟩
end
def tCall (sp:Sp) (dvs:List V) (E:XK) (t:TA):TE:=fun σ H Q => t σ H fun vs H1 => sp (vs ++ dvs) H1 Q E
def xK (C:Addr) (m:Str) (sp:Sp) (dvs:List V) (E:XK) (ta:TE) (t:TA):TE:=fun σ H Q => ta σ H fun x H1 => ∃ a dx fs,x = .ref a /\ H1 a = some (.ins C dx fs) /\ fs.lookup m = none /\
 t σ H1 fun vs H2 => sp (x :: (vs ++ dvs)) H2 Q E
def tMake (C:Addr) (sp:Sp) (dvs:List V) (E:XK) (t:TA):TE:=fun σ H Q => t σ H fun vs H1 => ∀ x dx,H1 x = none -> H1 dx = none -> dx ≠ x ->
 sp (.ref x :: (vs ++ dvs)) (upd (upd H1 dx (.own x)) x (.ins C dx [])) (fun v H2 => v = .non /\ Q (.ref x) H2) E
def Binds (K:PySem.W.Frag) (fd:FuncData) (ps:List Str) (ds:List Value):Prop :=
 ∀ (s:Shared) (us:List Value),K.In s.heap -> (us ++ ds).length = ps.length -> BindsTo s fd ⟨us,[]⟩ (ps.zip (us ++ ds))
theorem Binds.all {K:PySem.W.Frag} {fd:FuncData} {ps:List Str} (h:∀ us:List Value,us.length = ps.length -> bindArgs fd ⟨us,[]⟩ = pure (ps.zip us)):Binds K fd ps []:=fun s us _ hl => by
 rw [List.append_nil] at hl ⊢
 exact .of_eq (h us hl)
def vH (CX:CXT) (X:Cx) (E:XK):Prop:=∀ (pins:List (Addr × Obj)) (σ:St) (H:Hp) (s:Shared) (e:Value) (s':Shared),Inv X pins σ H s -> CX X.stack H s E e s' -> X.xe e s'
section
variable {X:Cx} {CX:CXT} {k:Nat} {f C:Addr} {fd:FuncData} {ps:List Str} {sp:Sp} {dvs:List V} {ds:List Value} {E:XK} {x m:Str} {p pos apos:Pos} {e o:Expr} {es:List Expr} {ta:TE} {t:TA}
theorem run_fn {pins:List (Addr × Obj)} {σ:St} {H:Hp} {s:Shared} {Q:VK} {us:List Value} {vs:List V} (F:FnOk X.prog X.w X.K X.mg X.base CX k f fd ps sp) (hr:Room k X.A) (hb:Binds X.K fd ps ds) (hd:Vals dvs ds) (hx:vH CX X E)
   (I:Inv X pins σ H s) (r:Vals vs us) (h:sp (vs ++ dvs) H Q E):wpAny (model X.prog X.w) X.A (call (.ref f) us) (EP X pins σ Q) X.xe s:=by
 have r2:Vals (vs ++ dvs) (us ++ ds):=r.append hd
 have hl:(us ++ ds).length = ps.length:=by rw [← r2.length]; exact F.len _ _ _ _ h
 refine wpAny_call (codeAny_mono (F.run X.A X.stack s H ⟨us,[]⟩ (us ++ ds) (vs ++ dvs) Q E hr I.env0 (hb s us I.kIn hl) r2 h) fun r s' hq => ?_)
 cases r with
 | error e => exact hx pins σ H s e s' I hq
 | ok fl =>
   cases fl with
   | ret u => exact I.after hq
   | next => exact False.elim hq
   | brk => exact False.elim hq
   | cont => exact False.elim hq
theorem pe_call (F:FnOk X.prog X.w X.K X.mg X.base CX k f fd ps sp) (hr:Room k X.A) (hg:Gl X x) (hm:X.mg x = some (.ref f)) (hk:PySem.W.keepIn X.K (.ref f) = true) (hb:Binds X.K fd ps ds) (hd:Vals dvs ds) (hx:vH CX X E)
   (ha:PA X (e :: es) t) (hdb:(x == ("__debug__" : Str)) = false:=by decide) (he:starEach (e :: es) X.env = (false,eval e X.env) :: starEach es X.env:=by rfl) (hpl:(backTo pos (starEach es X.env)).any (·.1) = false:=by rfl) :
   PE X (.Call (.Name x p) (e :: es) [] pos) (tCall sp dvs E t):=by
 intro pins s σ H Q I h
 refine wpAny_Call_Name_kw (ld_glob I hg hm ?_ hdb)
 refine PySem.W.callWith_K (h₀:=X.base) I.ok.mod.kin hk (thn (ha pos pins s σ H _ I h) fun us s1 ⟨vs,H1,I1,r,q⟩ => ⟨I1.kIn,?_⟩) he hpl
 exact run_fn F hr hb hd hx I1 r q
theorem pe_meth {pl:Sem Bool} (he:PE X o ta) (c:Cls X.K C) (hm:Meth X.K C m f) (F:FnOk X.prog X.w X.K X.mg X.base CX k f fd ps sp) (hr:Room k X.A) (hb:Binds X.K fd ps ds) (hd:Vals dvs ds) (hx:vH CX X E) (ha:PA X (e :: es) t)
   (hst:starEach (e :: es) X.env = (false,eval e X.env) :: starEach es X.env:=by rfl) (hpl:(backTo pos (starEach es X.env)).any (·.1) = false:=by rfl)
   (ht:eval (.Call (.Attribute o m apos) (e :: es) [] pos) X.env = (do
     let ov ← eval o X.env
     standAt apos.atName
     let (f,first) ← holding [ov] (getMethod ov m pl)
     callWith pos f first (backTo pos (starEach (e :: es) X.env)) (backToKw pos (keywordEach [] X.env))):=by rfl) :
   PE X (.Call (.Attribute o m apos) (e :: es) [] pos) (xK C m sp dvs E ta t):=by
 intro pins s σ H Q I h
 refine PySem.W.methodCall_KW (pl:=pl) (thn (he pins s σ H _ I h) fun u s1 ⟨x,H1,I1,rx,a,dx,fs,ex,ea,l,q⟩ => ?_) ht
 subst ex
 obtain rfl:u = Value.ref a:=rx
 refine getmeth_ok I1 ea c hm l ?_
 refine PySem.W.callWith_K (first:=[.ref a]) (h₀:=X.base) I.ok.mod.kin hm.kp (thn (ha pos pins s1 σ H1 _ I1 q) fun us s2 ⟨vs,H2,I2,r,q2⟩ => ⟨I2.kIn,?_⟩) hst hpl
 exact run_fn (us:=.ref a :: us) (vs:=.ref a :: vs) F hr hb hd hx I2 (.cons rfl r) q2
structure Mk (K:PySem.W.Frag) (C f:Addr):Prop where
 makes:PySem.W.makesIn K C = true
 init:PySem.W.findIn K (.ref C) "__init__" = some (some (.ref f))
 fn:PySem.W.isFn K (.ref f) = true
 kp:PySem.W.keepIn K (.ref C) = true
theorem run_make {pins:List (Addr × Obj)} {σ:St} {H:Hp} {s:Shared} {Q:VK} {us:List Value} {vs:List V} (M:Mk X.K C f) (F:FnOk X.prog X.w X.K X.mg X.base CX k f fd ps sp) (hr:Room (k + 1) X.A) (hb:Binds X.K fd ps ds) (hd:Vals dvs ds)
   (hx:vH CX X E) (I:Inv X pins σ H s) (r:Vals vs us)
   (h:∀ x dx,H x = none -> H dx = none -> dx ≠ x -> sp (.ref x :: (vs ++ dvs)) (upd (upd H dx (.own x)) x (.ins C dx [])) (fun v H2 => v = .non /\ Q (.ref x) H2) E) :
   wpAny (model X.prog X.w) X.A (call (.ref C) us) (EP X pins σ Q) X.xe s:=by
 have hq:=h (s.heap.objs.size + 1) s.heap.objs.size (I.hok.fresh (Nat.le_succ _)) (I.hok.fresh (Nat.le_refl _)) (Nat.ne_of_lt (Nat.lt_succ_self _))
 have I2:=Inv.made (C:=C) I
 have r2:Vals (V.ref (s.heap.objs.size + 1) :: (vs ++ dvs)) (Value.ref (s.heap.objs.size + 1) :: (us ++ ds)):=.cons rfl (r.append hd)
 have hl:(Value.ref (s.heap.objs.size + 1) :: us ++ ds).length = ps.length:=by
   have e:=r2.length
   rw [F.len _ _ _ _ hq] at e
   exact e.symm
 refine wpAny_call (make_map (f:=f) I.kIn M.makes M.init (beq_iff_eq.mp M.fn) (codeAny_mono (F.run _ X.stack _ _ ⟨Value.ref (s.heap.objs.size + 1) :: us,[]⟩ (Value.ref (s.heap.objs.size + 1) :: (us ++ ds)) _ _ E (hr.make C us [])
   (I2.env0.make C us []) (hb _ (Value.ref (s.heap.objs.size + 1) :: us) I2.kIn hl) r2 hq) fun r s' hq' => ?_))
 cases r with
 | error e => exact hx pins σ _ _ e s' I2 hq'
 | ok fl =>
   cases fl with
   | ret u =>
     obtain ⟨v,H',I3,rv,ev,q3⟩:=I2.after hq'
     subst ev
     exact ⟨rv,⟨V.ref (s.heap.objs.size + 1),H',I3,rfl,q3⟩⟩
   | next => exact False.elim hq'
   | brk => exact False.elim hq'
   | cont => exact False.elim hq'
theorem pe_make (M:Mk X.K C f) (F:FnOk X.prog X.w X.K X.mg X.base CX k f fd ps sp) (hr:Room (k + 1) X.A) (hg:Gl X x) (hm:X.mg x = some (.ref C)) (hb:Binds X.K fd ps ds) (hd:Vals dvs ds) (hx:vH CX X E)
   (ha:PA X (e :: es) t) (hdb:(x == ("__debug__" : Str)) = false:=by decide) (he:starEach (e :: es) X.env = (false,eval e X.env) :: starEach es X.env:=by rfl) (hpl:(backTo pos (starEach es X.env)).any (·.1) = false:=by rfl) :
   PE X (.Call (.Name x p) (e :: es) [] pos) (tMake C sp dvs E t):=by
 intro pins s σ H Q I h
 refine wpAny_Call_Name_kw (ld_glob I hg hm ?_ hdb)
 refine PySem.W.callWith_K (h₀:=X.base) I.ok.mod.kin M.kp (thn (ha pos pins s σ H _ I h) fun us s1 ⟨vs,H1,I1,r,q⟩ => ⟨I1.kIn,?_⟩) he hpl
 exact run_make M F hr hb hd hx I1 r q
end
section
variable {X:Cx} {CX:CXT} {k:Nat} {f C:Addr} {fd:FuncData} {ps ks:List Str} {sp:Sp} {E:XK} {x m:Str} {p pos apos kpos:Pos} {e o:Expr} {es:List Expr} {kws:List Keyword} {te ta:TE} {t tk:TA} {nm:Option Str}
structure KBinds (K:PySem.W.Frag) (fd:FuncData) (ps ks:List Str) (g:List Value -> List Value -> List Value) (gV:List V -> List V -> List V):Prop where
 to:∀ (s:Shared) (us ws:List Value),K.In s.heap -> (g us ws).length = ps.length -> BindsTo s fd ⟨us,ks.zip ws⟩ (ps.zip (g us ws))
 rel:∀ {vs:List V} {us:List Value} {zs:List V} {ws:List Value},Vals vs us -> Vals zs ws -> Vals (gV vs zs) (g us ws)
variable {g:List Value -> List Value -> List Value} {gV:List V -> List V -> List V}
end
structure FnScope (N P:List Str) (sc:Scope):Prop where
 kind:sc.kind = .function
 co:sc.isCoroutine = false
 gen:sc.isGenerator = false
 nd:N.Nodup
 pre:N.take P.length = P
 par:∀ x ∈ P,sc.names.lookup x = some .local \/ sc.names.lookup x = some .cell
 nofree:∀ y ∈ sc.names,y.2 ≠ .free
theorem kY {kindOf:Str -> Option NameKind} {x:Str}:∀ {binds:List (Str × Value)} {m:Str -> Option Value},(∀ v,(x,v) ∉ binds) -> bindL kindOf binds m x = m x
 | [],_,_ => rfl
 | (n, v) :: r, m, h => by
   unfold bindL
   rw [kY fun w hw => h w (List.mem_cons_of_mem _ hw)]
   split
   · have : x ≠ n := by rintro rfl; exact h v List.mem_cons_self
     simp [this]
   · rfl
theorem ZA {kindOf:Str -> Option NameKind} {x:Str}:∀ {binds:List (Str × Value)} {m:Str -> Option Value},(∀ v,(x,v) ∉ binds) -> bindC kindOf binds m x = m x
 | [],_,_ => rfl
 | (n, v) :: r, m, h => by
   unfold bindC
   rw [ZA fun w hw => h w (List.mem_cons_of_mem _ hw)]
   split
   · rfl
   · have : x ≠ n := by rintro rfl; exact h v List.mem_cons_self
     simp [this]
theorem kZ {kindOf:Str -> Option NameKind} {x:Str} {v:Value}:∀ {P:List Str} {vs:List Value} {i:Nat} {m:Str -> Option Value},P.Nodup -> P[i]? = some x -> vs[i]? = some v -> kindOf x = some .local ->
   bindL kindOf (P.zip vs) m x = some v
 | [],_,_,_,_,h,_,_ => by simp at h
 | _ :: _,[],_,_,_,_,h,_ => by simp at h
 | p :: P, w :: vs, 0, m, nd, h1, h2, hk => by
   simp at h1 h2; subst h1; subst h2
   show bindL kindOf ((p,w) :: P.zip vs) m p = _
   unfold bindL
   rw [kY fun v hv => (List.nodup_cons.mp nd).1 (List.of_mem_zip hv).1,if_pos hk]
   simp
 | p :: P, w :: vs, i + 1, m, nd, h1, h2, hk => by
   show bindL kindOf ((p,w) :: P.zip vs) m x = _
   unfold bindL
   exact kZ (i:=i) (List.nodup_cons.mp nd).2 (by simpa using h1) (by simpa using h2) hk
theorem ZB {kindOf:Str -> Option NameKind} {x:Str} {v:Value}:∀ {P:List Str} {vs:List Value} {i:Nat} {m:Str -> Option Value},P.Nodup -> P[i]? = some x -> vs[i]? = some v -> kindOf x ≠ some .local ->
   bindC kindOf (P.zip vs) m x = some v
 | [],_,_,_,_,h,_,_ => by simp at h
 | _ :: _,[],_,_,_,_,h,_ => by simp at h
 | p :: P, w :: vs, 0, m, nd, h1, h2, hk => by
   simp at h1 h2; subst h1; subst h2
   show bindC kindOf ((p,w) :: P.zip vs) m p = _
   unfold bindC
   rw [ZA fun v hv => (List.nodup_cons.mp nd).1 (List.of_mem_zip hv).1,if_neg hk]
   simp
 | p :: P, w :: vs, i + 1, m, nd, h1, h2, hk => by
   show bindC kindOf ((p,w) :: P.zip vs) m x = _
   unfold bindC
   exact ZB (i:=i) (List.nodup_cons.mp nd).2 (by simpa using h1) (by simpa using h2) hk
def start (N:List Str) (vs:List V):St:=vs.map some ++ List.replicate (N.length - vs.length) none
def kE (CX:CXT) (P:Program) (w:World) (K:PySem.W.Frag) (mg:Str -> Option Value) (base:Heap) (N:List Str) (qual:Str) (scope:Scope) (f:Addr) (cd:Value) (A:Around) (outer:List Env) (s:Shared) (H:Hp) (E:XK):Cx where
 prog:=P
 w:=w
 K:=K
 mg:=mg
 base:=base
 A:=A.deeper (envOfC qual scope s.heap.objs.size f cd)
 N:=N
 s₀:=s
 H₀:=H
 env:=envOfC qual scope s.heap.objs.size f cd
 outer:=outer
 stack:=envOfC qual scope s.heap.objs.size f cd :: outer
 ex:=[]
 calm:=true
 fn:=fun _ => true
 pn:=[]
 xe:=fun e s' => wpAny (model P w) (A.deeper (envOfC qual scope s.heap.objs.size f cd)) (leaving (envOfC qual scope s.heap.objs.size f cd) e) (fun _ s'' => CX outer H s E e s'') (fun e' s'' => CX outer H s E e' s'') s'
theorem cell_has {sc:Scope} {n:Nat} {x:Str} (h:sc.names.lookup x = some .cell):∃ c,(cellsFrom n sc.names []).lookup x = some c:=by
 have q:=PySem.W.cellsFrom_some sc.names n [] (.inl h)
 exact Option.isSome_iff_exists.mp q
theorem inv_start {CX:CXT} {P:Program} {w:World} {K:PySem.W.Frag} {mg:Str -> Option Value} {base:Heap} {N ps:List Str} {qual:Str} {scope:Scope} {f:Addr} {cd:Value} {A:Around} {outer:List Env} {s s1:Shared} {H:Hp} {E:XK} {us:List Value} {vs:List V}
   (S:FnScope N ps scope) (hd:A.handled = none) (e0:Env0 P w K mg base A outer s H) (hl:vs.length = ps.length) (r:Vals vs us)
   (x:InCallC s s.heap.objs.size (bindL (envOfC qual scope s.heap.objs.size f cd).kindOf (ps.zip us) fun _ => none) (cellsFrom (s.heap.objs.size + 1) scope.names []) (bindC (envOfC qual scope s.heap.objs.size f cd).kindOf (ps.zip us) fun _ => none) s1) :
   Inv (kE CX P w K mg base N qual scope f cd A outer s H E) [] (start N vs) H s1:=by
 have hpl:ps.length <= N.length:=by have:=congrArg List.length S.pre; rw [List.length_take] at this; omega
 obtain ⟨h1,tk,rfl,hk⟩:=x.done
 have noA:∀ b:Addr,b ∉ (kE CX P w K mg base N qual scope f cd A outer s H E).ex:=fun b z => absurd (show b ∈ ([]:List Addr) from z) (by simp)
 refine ⟨⟨e0.mod,S.kind,rfl,rfl,Nat.le_refl _,fun y z c h1 h2 => ?_,fun y hy => ?_,fun y c _ h => ?_,fun _ => hd,Around.frames_deeper e0.frames,.inr ⟨rfl,rfl⟩,fun b z => absurd z (noA b),e0.bs,e0.bsz,fun b _ _ => noA b,fun b z => absurd z (noA b),e0.funs,e0.frf⟩,
   rfl,e0.bare,Un.kept hk,⟨_,x.toInCall.ns,fun i y v h1 h2 h3 => ?_⟩,fun y c h => ⟨_,x.cell y c h⟩,e0.hok.fresh (Nat.le_refl _),fun y c h => ?_,fun p hp => absurd (show p ∈ ([]:List (Addr × Obj)) from hp) (by simp),e0.hok.kept hk,?_⟩
 · exact name_of_addr x.apart (PySem.mem_of_lookup h1) (PySem.mem_of_lookup h2)
 · have hy : scope.names.lookup y = some .cell \/ scope.names.lookup y = some .free := hy
   rcases hy with hy | hy
   · exact cell_has hy
   · exact absurd rfl (S.nofree _ (PySem.mem_of_lookup hy))
 · exact Nat.le_of_lt (x.above y c (PySem.mem_of_lookup h))
 · have hi : i < vs.length := by
     unfold start at h2
     by_cases hi:i < vs.length
     · exact hi
     · rw [List.getElem?_append_right (by simpa using hi)] at h2
       rw [List.getElem?_replicate] at h2
       split at h2 <;> cases h2
   have ha:vs[i]? = some v:=by
     unfold start at h2
     rw [List.getElem?_append_left (by simpa using hi),List.getElem?_map] at h2
     cases e:vs[i]? with
     | none => rw [e] at h2; cases h2
     | some a => rw [e] at h2; cases h2; rfl
   obtain ⟨u,hu,rv⟩:=r.get ha
   have hp:ps[i]? = some y:=by
     rw [← S.pre,List.getElem?_take_of_lt (by omega)]; exact h1
   have ndP:ps.Nodup:=by rw [← S.pre]; exact S.nd.sublist (List.take_sublist _ _)
   refine ⟨u,rv,?_⟩
   rcases S.par y (List.mem_of_getElem? hp) with k | k
   · exact .inl ⟨k,kZ ndP hp hu k⟩
   · obtain ⟨c, e⟩ := cell_has (n := s.heap.objs.size + 1) k
     refine .inr ⟨.inl k,c,e,?_⟩
     have q:=x.cell y c e
     rw [ZB ndP hp hu (by show scope.names.lookup y ≠ _; rw [k]; decide)] at q
     exact q
 · exact e0.hok.fresh (Nat.le_of_lt (x.above y c (PySem.mem_of_lookup h)))
 · unfold start
   show _ = N.length
   rw [List.length_append,List.length_map,List.length_replicate]
   omega
theorem fn_of {CX:CXT} {P:Program} {w:World} {K:PySem.W.Frag} {mg:Str -> Option Value} {base:Heap} {k:Nat} {f:Addr} {name qual:Str} {params:Arguments} {body:List Stmt} {scope:Scope} {dV kV doc pm cdv ct oc:Value} {an od:Option Addr}
   {osl:Array (Option Value)} {N ps:List Str} {sp:Sp} (lk:K.lookup f = some ⟨oc,od,.func (PySem.W.fnOf name qual params body scope dV kV doc pm an cdv ct),osl⟩) (hcd:PySem.W.codeIn K cdv qual = true) (S:FnScope N ps scope)
   (len:∀ vs H Q E,sp vs H Q E -> vs.length = ps.length)
   (hbody:∀ (A:Around) (outer:List Env) (s:Shared) (H:Hp) (vs:List V) (Q:VK) (E:XK),Room k (A.deeper (envOfC qual scope s.heap.objs.size f cdv)) -> sp vs H Q E ->
     ∃ t,PSs (kE CX P w K mg base N qual scope f cdv A outer s H E) body t /\ t { nx:=fun _ H' => Q .non H',rt:=Q } (start N vs) H) :
   FnOk P w K mg base CX (k + 1) f (PySem.W.fnOf name qual params body scope dV kV doc pm an cdv ct) ps sp:=by
 refine ⟨len,fun A outer s H args us vs Q E hr e0 hb r hsp => ?_⟩
 have hl:=len _ _ _ _ hsp
 have KX:K.In s.heap:=e0.mod.kin.keeps fun b o e => (e0.bs b o e).1
 have lim:s.heap.NoLimit:=e0.mod.nolimit.keeps fun b o e => (e0.bs b o e).1
 have hkind:∀ y ∈ ps.zip us,scope.names.lookup y.1 = some .local \/ (scope.names.lookup y.1 = some .cell /\ ((cellsFrom (s.heap.objs.size + 1) scope.names []).lookup y.1).isSome = true):=fun ⟨n,v⟩ hy => by
   rcases S.par n (List.of_mem_zip hy).1 with q | q
   · exact .inl q
   · exact .inr ⟨q,PySem.W.cellsFrom_some _ _ _ (.inl q)⟩
 refine codeAny_call_function hr.depth (KX _ _ lk) rfl S.co S.gen rfl (PySem.W.codeRec_of KX hcd) (hb _ _ _ _ ?_)
 refine wpAny_newFunctionEnv_cells S.kind hkind fun env he s1 x => ?_
 subst he
 refine ⟨lim.keeps x.toInCall.keep,codeAny_func ?_⟩
 obtain ⟨t,ht,hq⟩:=hbody A outer s H vs Q E (hr.deeper _) hsp
 have I:Inv (kE CX P w K mg base N qual scope f cdv A outer s H E) [] (start N vs) H s1:=inv_start S hr.hd e0 hl r x
 refine wpAny_mono (ht [] s1 (start N vs) H _ I hq) (fun fl s' hs => ?_) fun e s' hs => hs
 have fin:∀ {σ':St} {H':Hp} {v:V} {u:Value},Inv (kE CX P w K mg base N qual scope f cdv A outer s H E) [] σ' H' s' -> RelV v u -> Q v H' -> CE outer P w H s Q u s' :=
   fun {σ' H' v u} J rv q => ⟨v,H',J.os,J.bare,J.base,J.hok,rv,q⟩
 cases fl with
 | ret u =>
   obtain ⟨v,σ',H',J,rv,q⟩:=hs
   exact fin J rv q
 | next =>
   obtain ⟨σ',H',J,q⟩:=hs
   exact fin (v:=V.non) (u:=Value.none) J rfl q
 | brk =>
   obtain ⟨_,_,_,q⟩:=hs
   exact False.elim q
 | cont =>
   obtain ⟨_,_,_,q⟩:=hs
   exact False.elim q
section
variable {X:Cx} {x:Str} {p pos:Pos} {e:Expr} {es:List Expr} {t:TA} {id T:String} {r:List V -> Hp -> VK -> Prop}
def tCB (r:List V -> Hp -> VK -> Prop) (t:TA):TE:=fun σ H Q => t σ H fun vs H1 => r vs H1 Q
theorem zK (hc:qW X (.builtin id) r) (hg:Gl X x) (hm:X.mg x = none) (hv:bootBuiltins x = some (.builtin id)) (ha:PA X (e :: es) t) (hn:x ≠ "__name__":=by decide) (hdb:(x == ("__debug__" : Str)) = false:=by decide)
   (he:starEach (e :: es) X.env = (false,eval e X.env) :: starEach es X.env:=by rfl) (hpl:(backTo pos (starEach es X.env)).any (·.1) = false:=by rfl):PE X (.Call (.Name x p) (e :: es) [] pos) (tCB r t):=by
 intro pins s σ H Q I h
 refine wpAny_Call_Name_kw (uK I hg hm hv ?_ hn hdb)
 exact PyProof.Rows.callWith_builtin1 (thn (ha pos pins s σ H _ I h) fun us s1 ⟨vs,H1,I1,r1,q1⟩ => hc pins s1 σ H1 vs us Q I1 r1 q1) he hpl
theorem xP (hc:qW X (.type T) r) (hg:Gl X x) (hm:X.mg x = none) (hv:bootBuiltins x = some (.type T)) (ha:PA X (e :: es) t) (hn:x ≠ "__name__":=by decide) (hdb:(x == ("__debug__" : Str)) = false:=by decide)
   (he:starEach (e :: es) X.env = (false,eval e X.env) :: starEach es X.env:=by rfl) (hpl:(backTo pos (starEach es X.env)).any (·.1) = false:=by rfl):PE X (.Call (.Name x p) (e :: es) [] pos) (tCB r t):=by
 intro pins s σ H Q I h
 refine wpAny_Call_Name_kw (uK I hg hm hv ?_ hn hdb)
 exact PyProof.Rows.callWith_type1 (thn (ha pos pins s σ H _ I h) fun us s1 ⟨vs,H1,I1,r1,q1⟩ => hc pins s1 σ H1 vs us Q I1 r1 q1) he hpl
end
end L2
namespace HT
open PySem PyProof.Rows
section
open PySem.SeqAt
open PySem.AutoSeq1 (wpAny_loadPart')
open PySem.MeetsSeq PySem.MeetsSeq2 PySem.MeetsSeq3
end
section
variable {prog:Program} {w:World} {A:Around} {E:Value -> Shared -> Prop} {s:Shared}
theorem cat_tup {t b:Addr} {vs ws:List Value} {Q:Value -> Shared -> Prop} (ht:IsTup s.heap t vs.toArray) (hb:IsTup s.heap b ws.toArray) (hv:vs ≠ [])
   (h1:ws = [] -> Q (.ref t) s) (h2:ws ≠ [] -> Q (.ref s.heap.objs.size) { s with heap:=s.heap.push { cls:=.type "tuple",data:=.seq (vs ++ ws).toArray } })
   (hsz:vs.length + ws.length <= sizeLine):wpAny (model prog w) A (binaryOp .Add (.ref t) (.ref b)) Q E s:=by
 obtain ⟨⟨cls,dd,data,sl⟩,ho,hc,n,hd⟩:=id ht
 obtain ⟨⟨cls2,dd2,data2,sl2⟩,ho2,hc2,n2,hd2⟩:=id hb
 simp only at hc hd hc2 hd2
 subst hc hd hc2 hd2
 have e:vs.toArray ++ ws.toArray = (vs ++ ws).toArray:=by simp
 by_cases hw:ws = []
 · exact concat_meets ⟨_,ho,rfl⟩ ⟨_,ho2,rfl⟩ noFill_tuple_add seq_tuple_add PySem.F.slot_tuple_add PySem.F.entry_tuple_add (PySem.F.args_tuple_add_2 _ _)
     (tuple_addW1 t b vs.toArray ws.toArray n n2 dd dd2 sl sl2 (by simpa using hv) (by simp [hw])) ⟨ho,ho2,h1 hw⟩
 · refine concat_meets ⟨_, ho, rfl⟩ ⟨_, ho2, rfl⟩ noFill_tuple_add seq_tuple_add PySem.F.slot_tuple_add PySem.F.entry_tuple_add (PySem.F.args_tuple_add_2 _ _)
     (tuple_addW2 t b vs.toArray ws.toArray n n2 dd dd2 sl sl2 (by simpa using hv) (by simpa using hw) (by rw [List.size_toArray,List.size_toArray]; exact hsz)) ⟨ho,ho2,?_⟩
   rw [e]
   exact h2 hw
def sIx (n d:Nat):Option Int -> Nat
 | none => d
 | some v => if v < 0 then (v + (n:Int)).toNat else min v.toNat n
theorem sIx_none (n d:Nat):sIx n d none = d:=rfl
theorem sIx_nat (n d k:Nat):sIx n d (some (k:Int)) = min k n:=by
 show (if (k:Int) < 0 then ((k:Int) + (n:Int)).toNat else min (k:Int).toNat n) = min k n
 rw [if_neg (by omega),Int.toNat_natCast]
theorem sIx_le (n d:Nat) (hd:d <= n) (o:Option Int):sIx n d o <= n:=by
 cases o with
 | none => exact hd
 | some v =>
   show (if v < 0 then (v + (n:Int)).toNat else min v.toNat n) <= n
   by_cases hv:v < 0
   · rw [if_pos hv]; omega
   · rw [if_neg hv]; exact Nat.min_le_right _ _
theorem clip_eq (v:Int) (n d:Nat):(if v < 0 then max (v + (n:Int)) 0 else min v (n:Int)) = ((sIx n d (some v):Nat):Int):=by
 show (if v < 0 then max (v + (n:Int)) 0 else min v (n:Int)) = (((if v < 0 then (v + (n:Int)).toNat else min v.toNat n):Nat):Int)
 by_cases hv:v < 0
 · simp only [if_pos hv]; omega
 · simp only [if_neg hv]; omega
theorem adjust_gen (lo hi:Option Int) (n:Nat):Builtin.Slice.sliceAdjust lo hi 1 (n:Int) = (((sIx n 0 lo:Nat):Int),((sIx n n hi:Nat):Int)):=by
 have h1:¬ ((1:Int) < 0):=by omega
 unfold Builtin.Slice.sliceAdjust
 simp only [h1,if_false]
 refine Prod.ext ?_ ?_
 · cases lo with
   | none => rfl
   | some v => exact clip_eq v n 0
 · cases hi with
   | none => rfl
   | some v => exact clip_eq v n n
theorem places_gen (i j:Nat):Builtin.Slice.slicePlaces (i:Int) (j:Int) 1 = j - i:=by
 unfold Builtin.Slice.slicePlaces
 have h1:(1:Int) > 0:=by omega
 simp only [h1,if_true,Int.ediv_one]
 split <;> omega
theorem wH {v:Value} {o:Option Int} {Q:Option Int -> Shared -> Prop} (p:IsPart v o) (h:Q o s):wpAny (model prog w) A (Builtin.Slice.slicePartIndex v) Q E s:=by
 cases p with
 | none => exact slicePart_none h
 | int i t => exact slicePart_int h
theorem sliceApplied_gen {sl:Addr} {vl vu:Value} {lo hi:Option Int} {n:Nat} {Q:Int × Int × Nat -> Shared -> Prop} (hs:s.heap.IsSliceOf sl vl vu .none) (pl:IsPart vl lo) (pu:IsPart vu hi)
   (h:Q (((sIx n 0 lo:Nat):Int),1,sIx n n hi - sIx n 0 lo) s):wpAny (model prog w) A (Builtin.Slice.sliceApplied (.ref sl) (pure (n:Int))) Q E s:=by
 obtain ⟨os,hos,hcs,hds⟩:=id hs
 unfold Builtin.Slice.sliceApplied Builtin.Slice.sliceFields
 refine wpAny_bind (wpAny_bind (wpAny_field hos hds (x:=vl) rfl (wpAny_bind (wpAny_field hos hds (x:=vu) rfl (wpAny_bind (wpAny_field hos hds (x:=.none) rfl (wpAny_pure ?_)))))))
 refine wpAny_bind (slicePart_none ?_)
 show wpAny _ _ (if ((1:Int) == 0) = true then _ else _) _ _ s
 rw [if_neg (by decide)]
 refine wpAny_bind (wH pl (wpAny_bind (wH pu (wpAny_bind (wpAny_pure ?_)))))
 show wpAny _ _ (match Builtin.Slice.sliceAdjust lo hi 1 (n:Int) with | (lo,hi) => pure (lo,(1:Int),Builtin.Slice.slicePlaces lo hi 1)) _ _ s
 rw [adjust_gen lo hi n]
 show wpAny _ _ (pure (((sIx n 0 lo:Nat):Int),(1:Int),Builtin.Slice.slicePlaces ((sIx n 0 lo:Nat):Int) ((sIx n n hi:Nat):Int) 1)) _ _ s
 rw [places_gen]
 exact wpAny_pure h
theorem pick_gen (xs:Array Value) (i k:Nat):((List.range k).filterMap fun (m:Nat) => xs[((i:Int) + (m:Int) * 1).toNat]?).toArray = ((xs.toList.drop i).take k).toArray:=by
 have e:(fun (m:Nat) => xs[((i:Int) + (m:Int) * 1).toNat]?) = fun m => xs[i + m]?:=by
   funext m
   have:((i:Int) + (m:Int) * 1).toNat = i + m:=by omega
   rw [this]
 rw [e]
 have:=pick_run xs i k
 rw [List.filterMap_map] at this
 have e2:((fun x => xs[x]?) ∘ fun x => i + x) = fun m => xs[i + m]?:=rfl
 rw [e2] at this
 rw [this]
theorem getItem_tuple_cut {t sl:Addr} {items:Array Value} {vl vu:Value} {lo hi:Option Int} {Q:Value -> Shared -> Prop} (ht:IsTup s.heap t items) (hs:s.heap.IsSliceOf sl vl vu .none) (pl:IsPart vl lo) (pu:IsPart vu hi)
   (hw:¬ (sIx items.size 0 lo = 0 /\ sIx items.size items.size hi = items.size))
   (h:Q (.ref s.heap.objs.size) { s with heap:=s.heap.push { cls:=.type "tuple",data:=.seq ((items.toList.drop (sIx items.size 0 lo)).take (sIx items.size items.size hi - sIx items.size 0 lo)).toArray } })
   (hsz:items.size <= sizeLine):wpAny (model prog w) A (getItem (.ref t) (.ref sl)) Q E s:=by
 have htake:sizeOk (.seq ((items.toList.drop (sIx items.size 0 lo)).take (sIx items.size items.size hi - sIx items.size 0 lo)).toArray):=by
   show ((items.toList.drop (sIx items.size 0 lo)).take (sIx items.size items.size hi - sIx items.size 0 lo)).toArray.size <= sizeLine
   rw [List.size_toArray,List.length_take,List.length_drop,Array.length_toList]
   omega
 have hj:sIx items.size items.size hi <= items.size:=sIx_le _ _ (Nat.le_refl _) hi
 obtain ⟨os,hos,hcs,hds⟩:=id hs
 have hTs:s.TypeIs (.ref sl) "slice":=⟨os,hos,hcs⟩
 unfold getItem
 try with_reducible refine wpAny_holding ?_
 first | refine wpAny_bind (wpAny_pure ?_) | skip
 refine wpAny_bind (wpAny_sequenceKey ht.typeIs (by decide) ?_)
 refine wpAny_bind (wpAny_callSpecial?_slot (name:=Str.ofString "__getitem__") ht.typeIs PyProof.Rows.slot_tuple_getitem
   (wpAny_call_entry PyProof.Rows.slot_tuple_getitem ht.typeIs entry_tuple_getitem ?_ (args_tuple_getitem _ _)))
 show wpAny _ _ (Builtin.Tuple.tupleItemsOf (.ref t) >>= _) _ _ s
 refine wpAny_bind (tupleItemsOf_ ht ?_)
 refine wpAny_bind (wpAny_typeOf hTs ?_)
 rw [if_pos (by decide)]
 refine wpAny_bind (sliceApplied_gen hs pl pu ?_)
 have hno:¬ ((((sIx items.size 0 lo:Nat):Int) == 0 && (1:Int) == 1 && (sIx items.size items.size hi - sIx items.size 0 lo) == items.size) = true):=by
   intro q
   rw [Bool.and_eq_true,Bool.and_eq_true] at q
   have q1:((sIx items.size 0 lo:Nat):Int) = 0:=eq_of_beq q.1.1
   have q2:sIx items.size items.size hi - sIx items.size 0 lo = items.size:=eq_of_beq q.2
   exact hw ⟨by omega,by omega⟩
 show wpAny _ _ (if (((sIx items.size 0 lo:Nat):Int) == 0 && (1:Int) == 1 && (sIx items.size items.size hi - sIx items.size 0 lo) == items.size) = true then _ else _) _ _ s
 rw [if_neg hno,pick_gen]
 first
   | exact wpAny_bind (m:=Builtin.Tuple.tupleExact _) (wpAny_newObj_type (wpAny_pure ⟨_,rfl,wpAny_pure h⟩) htake)
   | exact wpAny_bind (m:=Builtin.Tuple.tupleExact _) (wpAny_newObj_type (wpAny_bind (wpAny_pure (wpAny_pure ⟨_,rfl,wpAny_pure h⟩))) htake)
   | exact wpAny_bind (wpAny_bind (m:=Builtin.Tuple.tupleExact _) (wpAny_newObj_type (wpAny_pure (wpAny_pure ⟨_,rfl,wpAny_pure h⟩)) htake))
   | exact wpAny_bind (wpAny_bind (m:=Builtin.Tuple.tupleExact _) (wpAny_newObj_type (wpAny_pure ⟨_,rfl,wpAny_pure h⟩) htake))
end
end HT
namespace L2
open PySem PySem.Spec PyProof.Rows
abbrev TO:=St -> Hp -> (Option Int -> Hp -> Prop) -> Prop
def PO (X:Cx) (e:Option Expr) (t:TO):Prop :=
 ∀ (pins : List (Addr × Obj)) (s : Shared) (σ : St) (H : Hp) (Q : Option Int -> Hp -> Prop), Inv X pins σ H s -> t σ H Q ->
   wpAny (model X.prog X.w) X.A (evalPart e X.env) (fun u s' => ∃ o H',Inv X pins σ H' s' /\ IsPart u o /\ Q o H') X.xe s
def tNoPart:TO:=fun _ H Q => Q none H
def tPart (t:TE):TO:=fun σ H Q => t σ H fun x H1 => ∃ i,x = .int i /\ Q (some i) H1
section
variable {X:Cx} {e:Expr} {te:TE} {lo hi:Option Expr} {tl th:TO} {pos p2:Pos}
theorem po_none:PO X none tNoPart:=by
 intro pins s σ H Q I h
 rw [evalPart_none]
 exact wpAny_pure ⟨none,H,I,.none,h⟩
theorem qB (h:PE X e te):PO X (some e) (tPart te):=by
 intro pins s σ H Q I hw
 rw [evalPart_some]
 refine thn (h pins s σ H _ I hw) fun u s1 ⟨x,H1,I1,r1,q1⟩ => ?_
 obtain ⟨i,rfl,q⟩:=q1
 obtain ⟨t,rfl⟩:=r1
 exact ⟨some i,H1,I1,.int i t,q⟩
def SlR (X:Cx) (r:V -> Option Int -> Option Int -> Hp -> VK -> Prop):Prop :=
 ∀ (pins : List (Addr × Obj)) (s : Shared) (σ : St) (H : Hp) (x : V) (v vl vu : Value) (lo hi : Option Int) (sl : Addr) (Q : VK), Inv X pins σ H s -> RelV x v -> s.heap.IsSliceOf sl vl vu .none -> IsPart vl lo -> IsPart vu hi -> r x lo hi H Q ->
   ∃ T id,typeLookup (.type T) "__getitem__" = pure (some (.builtin id)) /\ s.TypeIs v T /\ wpAny (model X.prog X.w) X.A (getItem v (.ref sl)) (EP X pins σ Q) X.xe s
def tSl (r:V -> Option Int -> Option Int -> Hp -> VK -> Prop) (te:TE) (tl th:TO):TE:=fun σ H Q => te σ H fun x H1 => tl σ H1 fun l H2 => th σ H2 fun u H3 => r x l u H3 Q
theorem jD {r:V -> Option Int -> Option Int -> Hp -> VK -> Prop} (hr:SlR X r) (he:PE X e te) (hl:PO X lo tl) (hu:PO X hi th):PE X (.Subscript e (.Slice lo hi none p2) pos) (tSl r te tl th):=by
 intro pins s σ H Q I h
 refine Subscript_ (thn (he pins s σ H _ I h) fun v s1 ⟨x,H1,I1,r1,q1⟩ => ?_)
 refine wpAny_Slice (thn (hl pins s1 σ H1 _ I1 q1) fun vl s2 ⟨l,H2,I2,pl,q2⟩ => thn (hu pins s2 σ H2 _ I2 q2) fun vu s3 ⟨u,H3,I3,pu,q3⟩ => ?_)
 rw [evalPart_none]
 refine wpAny_pure ?_
 have I4:Inv X pins σ H3 { s3 with heap:=s3.heap.push { cls:=.type "slice",data:=.fields #[vl,vu,.none] } }:=I3.kept (t':=s3.toks) fun b ob q => Heap.get?_push_of_some _ q
 obtain ⟨T,id,hT,ht,hg⟩:=hr pins { s3 with heap:=s3.heap.push { cls:=.type "slice",data:=.fields #[vl,vu,.none] } } σ H3 x v vl vu l u s3.heap.objs.size Q I4 r1 (Heap.IsSliceOf.new ..) pl pu q3
 show wpAny (model X.prog X.w) X.A (subscriptTail e (.Slice lo hi none p2) v (.ref s3.heap.objs.size)) (EP X pins σ Q) X.xe { s3 with heap:=s3.heap.push { cls:=.type "slice",data:=.fields #[vl,vu,.none] } }
 exact tail_any (ops:=[.ref s3.heap.objs.size,v]) ht hT hg (by with_unfolding_all rfl)
def uD (xs:List V) (lo hi:Option Int):List V:=(xs.drop (HT.sIx xs.length 0 lo)).take (HT.sIx xs.length xs.length hi - HT.sIx xs.length 0 lo)
theorem vP (xs:List V) (lo hi:Option Int):(uD xs lo hi).length <= xs.length:=by
 unfold uD
 rw [List.length_take,List.length_drop]
 omega
def rSlT (K:PySem.W.Frag):V -> Option Int -> Option Int -> Hp -> VK -> Prop:=fun x lo hi H Q => ∃ a xs,x = .ref a /\ SqT K H a xs /\
 ¬ (HT.sIx xs.length 0 lo = 0 /\ HT.sIx xs.length xs.length hi = xs.length) /\ ∀ p,H p = none -> Q (.ref p) (upd H p (.tup (uD xs lo hi)))
theorem sl_tup:SlR X (rSlT X.K):=by
 intro pins s σ H x v vl vu lo hi sl Q I rx hs pl pu h
 obtain ⟨a,xs,rfl,hx,hw,q⟩:=h
 cases rx
 obtain ⟨its,r,ht,hz⟩:=I.tuple hx
 have hlen:its.toArray.size = xs.length:=by rw [List.size_toArray]; exact r.length.symm
 refine ⟨"tuple",_,PyProof.Rows.slot_tuple_getitem.lookup,ht.typeIs,?_⟩
 refine HT.getItem_tuple_cut ht hs pl pu (by rw [hlen]; exact hw) ?_ (by rw [hlen]; exact hz)
 rw [hlen]
 refine ⟨.ref s.heap.objs.size,_,I.laid (t':=s.toks) (o:=.tup (uD xs lo hi)) (fun b ob q => Heap.get?_push_of_some _ q) (Nat.le_refl _) ?_,rfl,q _ (I.hok.fresh (Nat.le_refl _))⟩
 exact ⟨Nat.le_trans (vP xs lo hi) hz,_,(r.drop (HT.sIx xs.length 0 lo)).take (HT.sIx xs.length xs.length hi - HT.sIx xs.length 0 lo),IsTup.new _ _⟩
def rCatT (K:PySem.W.Frag):R2:=fun x y H Q => ∃ a b xs ys,x = .ref a /\ y = .ref b /\ SqT K H a xs /\ SqT K H b ys /\ xs ≠ [] /\ xs.length + ys.length <= sizeLine /\
 (ys = [] -> Q (.ref a) H) /\ (ys ≠ [] -> ∀ p,H p = none -> Q (.ref p) (upd H p (.tup (xs ++ ys))))
theorem Vals.nil_iff {xs:List V} {us:List Value} (r:Vals xs us):us = [] ↔ xs = []:=by
 cases r with
 | nil => simp
 | cons _ _ => simp
theorem op_catT:OpR X (binaryOp .Add) (rCatT X.K):=by
 intro pins s σ H x y v u Q I rx ry h
 obtain ⟨a,b,xs,ys,rfl,rfl,ha,hb,hx,hz,q1,q2⟩:=h
 cases rx
 cases ry
 obtain ⟨its,r1,p1,_⟩:=I.tuple ha
 obtain ⟨its2,r2,p2,_⟩:=I.tuple hb
 refine HT.cat_tup p1 p2 (fun z => hx (r1.nil_iff.mp z)) (fun z => ⟨.ref a,H,I,rfl,q1 (r2.nil_iff.mp z)⟩) (fun z => ?_) (by rw [← r1.length,← r2.length]; exact hz)
 refine ⟨.ref s.heap.objs.size,_,I.laid (t':=s.toks) (o:=.tup (xs ++ ys)) (fun b ob q => Heap.get?_push_of_some _ q) (Nat.le_refl _) ?_,rfl,q2 (fun w => z (r2.nil_iff.mpr w)) _ (I.hok.fresh (Nat.le_refl _))⟩
 exact ⟨by rw [List.length_append]; exact hz,_,r1.append r2,IsTup.new _ _⟩
end
def ixN (n:Nat) (i:Int):Option Nat:=if 0 <= i then (if i < n then some i.toNat else none) else if -(n:Int) <= i then some (i + n).toNat else none
def atI {α:Type} (xs:List α) (i:Int):Option α:=(ixN xs.length i).bind fun j => xs[j]?
theorem ixN_seq {n:Nat} {i:Int} {j:Nat} (h:ixN n i = some j):seqIndex? i n = some j /\ j < n /\ -(n:Int) <= i /\ i < n:=by
 unfold ixN at h
 by_cases h0:0 <= i
 · rw [if_pos h0] at h
   by_cases h1:i < n
   · rw [if_pos h1] at h
     have e:i.toNat = j:=Option.some.inj h
     exact ⟨by rw [seqIndex_of h0 h1,e],by omega,by omega,h1⟩
   · rw [if_neg h1] at h; cases h
 · rw [if_neg h0] at h
   by_cases h1 : -(n:Int) <= i
   · rw [if_pos h1] at h
     have e:(i + n).toNat = j:=Option.some.inj h
     exact ⟨by rw [seqIndex_neg (by omega) h1,e],by omega,h1,by omega⟩
   · rw [if_neg h1] at h; cases h
theorem YJ {α:Type} {xs:List α} {i:Int} {v:α} (h:atI xs i = some v):∃ j,seqIndex? i xs.length = some j /\ xs[j]? = some v /\ j < xs.length /\ -(xs.length:Int) <= i /\ i < xs.length:=by
 unfold atI at h
 cases e:ixN xs.length i with
 | none => rw [e] at h; cases h
 | some j =>
   rw [e] at h
   obtain ⟨h1,h2,h3,h4⟩:=ixN_seq e
   exact ⟨j,h1,h,h2,h3,h4⟩
theorem zZ {α:Type} {xs:List α} {j:Nat} {v:α} (h:xs[j]? = some v):atI xs (j:Int) = some v:=by
 have hj:j < xs.length:=(List.getElem?_eq_some_iff.mp h).1
 have e:ixN xs.length (j:Int) = some j:=by
   unfold ixN
   rw [if_pos (by omega),if_pos (by omega)]; simp
 unfold atI; rw [e]; exact h
theorem atI_last {α:Type} (xs:List α) (v:α):atI (xs ++ [v]) (-1) = some v:=by
 have hl:(xs ++ [v]).length = xs.length + 1:=by simp
 have e:ixN (xs ++ [v]).length (-1) = some xs.length:=by
   unfold ixN
   rw [hl,if_neg (by decide),if_pos (by omega)]
   congr 1
   omega
 unfold atI
 rw [e]
 show (xs ++ [v])[xs.length]? = some v
 simp
def PlainIx (b:Expr):Prop:=∀ o i,subscripted b false o i = operate [o,i] (getItem o i)
def IxR (X:Cx) (r:R2):Prop :=
 ∀ (value slice : Expr) (pins : List (Addr × Obj)) (s : Shared) (σ : St) (H : Hp) (x y : V) (v u : Value) (Q : VK), Inv X pins σ H s -> RelV x v -> RelV y u -> r x y H Q ->
   subscripted slice false v u = operate [v,u] (getItem v u) -> wpAny (model X.prog X.w) X.A (subscriptTail value slice v u) (EP X pins σ Q) X.xe s
def MtR (X:Cx) (id:String) (r:V -> List V -> Hp -> VK -> Prop):Prop :=
 ∀ (pins : List (Addr × Obj)) (s : Shared) (σ : St) (H : Hp) (x : V) (xs : List V) (v : Value) (us : List Value) (Q : VK), Inv X pins σ H s -> RelV x v -> Vals xs us -> r x xs H Q ->
   wpAny (model X.prog X.w) X.A (call (.builtin id) (v :: us)) (EP X pins σ Q) X.xe s
section
variable {X:Cx} {a b:Expr} {ta tb:TE} {pos:Pos}
theorem zI {r:R2} (hr:IxR X r) (ha:PE X a ta) (hb:PE X b tb) (hs:PlainIx b):PE X (.Subscript a b pos) (tOp r ta tb):=by
 intro pins s σ H Q I h
 exact Subscript_ (binT ha hb I h fun v u s2 x y H2 I2 rx ry q => hr a b pins s2 σ H2 x y v u Q I2 rx ry q (hs _ _))
def rIxL (K:PySem.W.Frag):R2:=fun x y H Q => ∃ p xs i v,x = .ref p /\ y = .int i /\ SqL K H p xs /\ atI xs i = some v /\ Q v H
def rIxT (K:PySem.W.Frag):R2:=fun x y H Q => ∃ p xs i v,x = .ref p /\ y = .int i /\ SqT K H p xs /\ atI xs i = some v /\ Q v H
def rIxS:R2:=fun x y H Q => ∃ z i c,x = .str z /\ y = .int i /\ z.length <= sizeLine /\ atI z.cps.toList i = some c /\ Q (.str ⟨#[c]⟩) H
theorem ix_list:IxR X (rIxL X.K):=by
 intro value slice pins s σ H x y v u Q I rx ry h hs
 obtain ⟨p,xs,i,z,rfl,rfl,hq,he,q⟩:=h
 cases rx
 obtain ⟨t,rfl⟩:=ry
 obtain ⟨its,r,pl,hz⟩:=I.list hq
 obtain ⟨j,h1,h2,h3,h4,h5⟩:=YJ he
 obtain ⟨w,ew,rw'⟩:=r.get h2
 have hl:=r.length
 have hn:=line63
 have fin:EP X pins σ Q w s:=⟨z,H,I,rw',q⟩
 by_cases h0:0 <= i
 · have hj : i.toNat = j := by
     rw [seqIndex_of h0 h5] at h1
     exact Option.some.inj h1
   exact item_listR pl.isList h0 (by omega) (by rw [hj]; simpa using ew) fin hs
 · have hj : (i + (its.toArray.size : Int)).toNat = j := by
     rw [seqIndex_neg (by omega) h4] at h1
     rw [List.size_toArray,← hl]
     exact Option.some.inj h1
   exact subscriptTail_builtinR (x:=w) pl.isList.typeIs slot_list_getitem.lookup
     (wpAny_getItem_list_neg (Q:=fun r s' => r = w /\ EP X pins σ Q r s') pl.isList (by omega) (by rw [List.size_toArray] <;> omega) (by omega) (by rw [hj]; simpa using ew) ⟨rfl,fin⟩) hs
theorem ix_tup:IxR X (rIxT X.K):=by
 intro value slice pins s σ H x y v u Q I rx ry h hs
 obtain ⟨p,xs,i,z,rfl,rfl,hq,he,q⟩:=h
 cases rx
 obtain ⟨t,rfl⟩:=ry
 obtain ⟨its,r,pl,hz⟩:=I.tuple hq
 obtain ⟨j,h1,h2,h3,h4,h5⟩:=YJ he
 obtain ⟨w,ew,rw'⟩:=r.get h2
 have hl:=r.length
 have hn:=line63
 have fin:EP X pins σ Q w s:=⟨z,H,I,rw',q⟩
 exact subscriptTail_builtinR (x:=w) pl.typeIs slot_tuple_getitem.lookup
   (getItem_tuple (j:=j) (Q:=fun r s' => r = w /\ EP X pins σ Q r s') pl (by omega) (by omega) (by rw [List.size_toArray,← hl]; exact h1) (by simpa using ew) ⟨rfl,fin⟩) hs
theorem ix_str:IxR X rIxS:=by
 intro value slice pins s σ H x y v u Q I rx ry h hs
 obtain ⟨z,i,c,rfl,rfl,hz,he,q⟩:=h
 obtain ⟨t,rfl⟩:=rx
 obtain ⟨t',rfl⟩:=ry
 obtain ⟨j,h1,h2,h3,h4,h5⟩:=YJ he
 have hl:z.cps.toList.length = z.length:=by simp [Str.length]
 rw [hl] at h1 h4 h5
 have hn:=line63
 exact tail_any (typeIs_str s z t) slot_str_getitem.lookup (getItem_str (c:=c) (by
   have e1:decide (i < -(2 ^ 63:Int)) = false:=decide_eq_false (by omega)
   have e2:decide (i ≥ 2 ^ 63) = false:=decide_eq_false (by omega)
   rw [e1,e2,Bool.or_false]) (by rw [h1]; simpa using h2) ⟨.str ⟨#[c]⟩,H,I.tok _,⟨_,rfl⟩,q⟩) hs
theorem mapSeq_set (its:List Value) (n j:Nat) (u:Value):Obj.mapSeq (·.setIfInBounds j u) { cls:=.type "list",data:=.seq its.toArray n } = { cls:=.type "list",data:=.seq (its.set j u).toArray n }:=by
 simp [Obj.mapSeq]
theorem Inv.lst {pins:List (Addr × Obj)} {σ:St} {H:Hp} {s:Shared} {p:Addr} {xs:List V} (I:Inv X pins σ H s) (h:H p = some (.lst xs)) :
   ∃ (its:List Value) (n:Nat),Vals xs its /\ s.heap.get? p = some { cls:=.type "list",data:=.seq its.toArray n } /\ xs.length <= sizeLine:=by
 obtain ⟨z,its,n,r,e⟩:=I.hok p _ h
 exact ⟨its,n,r,e,z⟩
theorem Inv.lstUpd {pins:List (Addr × Obj)} {σ:St} {H:Hp} {s:Shared} {p:Addr} {xs ys:List V} {its its':List Value} {n n':Nat} {f:Obj -> Obj} (I:Inv X pins σ H s) (h:H p = some (.lst xs))
   (ho:s.heap.get? p = some { cls:=.type "list",data:=.seq its.toArray n }) (hf:f { cls:=.type "list",data:=.seq its.toArray n } = { cls:=.type "list",data:=.seq its'.toArray n' }) (r:Vals ys its') (hz:ys.length <= sizeLine) (t:Nat) :
   Inv X pins σ (upd H p (.lst ys)) { s with heap:=s.heap.update p f,toks:=t }:=by
 have e:(s.heap.update p f).get? p = some { cls:=.type "list",data:=.seq its'.toArray n' }:=by
   rw [Heap.get?_update_self f ho (by rw [hf] <;> rfl),hf]
 refine I.write (x:=p) (e:=p) (by rw [h]; trivial) (.inl rfl) (fun b u hb q => (Heap.get?_update_other _ _ (Ne.symm hb)).trans q) ⟨_,e⟩ ?_
 exact ⟨hz,its',n',r,e⟩
def rSetL:V -> V -> V -> Hp -> (Hp -> Prop) -> Prop:=fun o i v H Q => ∃ p xs k j,o = .ref p /\ i = .int k /\ H p = some (.lst xs) /\ ixN xs.length k = some j /\ Q (upd H p (.lst (xs.set j v)))
theorem set_list:PSet X rSetL:=by
 intro pins s σ H o i v ov iv u Q I ro ri rv h
 obtain ⟨p,xs,k,j,rfl,rfl,hp,hj,q⟩:=h
 cases ro
 obtain ⟨t,rfl⟩:=ri
 obtain ⟨its,n,r,ho,hz⟩:=I.lst hp
 obtain ⟨h1,h2,h3,h4⟩:=ixN_seq hj
 have hl:=r.length
 have hn:=line63
 have I':Inv X pins σ (upd H p (.lst (xs.set j v))) { s with heap:=s.heap.update p (Obj.mapSeq (·.setIfInBounds j u)) } :=
   I.lstUpd hp ho (mapSeq_set its n j u) (r.set rv j) (by rw [List.length_set]; exact hz) s.toks
 by_cases h0:0 <= k
 · have hk : k.toNat = j := by
     rw [seqIndex_of h0 h4] at h1
     exact Option.some.inj h1
   exact PySem.W.ki_setAt ho h0 (by omega) (by rw [List.size_toArray,← hl]; exact h4) (by rw [hk]; exact ⟨_,I',q⟩)
 · have hk : (k + (its.toArray.size : Int)).toNat = j := by
     rw [seqIndex_neg (by omega) h3] at h1
     rw [List.size_toArray,← hl]
     exact Option.some.inj h1
   exact PySem.W.ki_setBack ho (by omega) (by rw [List.size_toArray,← hl]; exact h3) (by omega) (by rw [hk]; exact ⟨_,I',q⟩)
theorem ZK (lo hi:Option Int) (n:Nat):(sliceBounds lo hi none n).1 = ((HT.sIx n 0 lo:Nat):Int) /\ (sliceBounds lo hi none n).2.1 = ((HT.sIx n n hi:Nat):Int) /\ (sliceBounds lo hi none n).2.2 = 1:=by
 refine ⟨?_,?_,rfl⟩
 · cases lo with
   | none => simp [sliceBounds,HT.sIx]
   | some i =>
     simp only [sliceBounds,HT.sIx,Option.getD_none,show (1:Int) > 0 by decide,if_true]
     by_cases h:i < 0
     · simp only [h,if_true] <;> omega
     · simp only [h,if_false] <;> omega
 · cases hi with
   | none => simp [sliceBounds,HT.sIx]
   | some i =>
     simp only [sliceBounds,HT.sIx,Option.getD_none,show (1:Int) > 0 by decide,if_true]
     by_cases h:i < 0
     · simp only [h,if_true] <;> omega
     · simp only [h,if_false] <;> omega
theorem kA (its:List Value) (lo hi:Option Int):slicePick its.toArray lo hi none = ((its.drop (HT.sIx its.length 0 lo)).take (HT.sIx its.length its.length hi - HT.sIx its.length 0 lo)).toArray:=by
 obtain ⟨h1,h2,h3⟩:=ZK lo hi its.toArray.size
 unfold slicePick
 rw [h1,h2,h3]
 simp only [sliceRange_one,pick_run,List.size_toArray] <;> rfl
def rSlL (K:PySem.W.Frag):V -> Option Int -> Option Int -> Hp -> VK -> Prop:=fun x lo hi H Q => ∃ a xs,x = .ref a /\ SqL K H a xs /\ ∀ p,H p = none -> Q (.ref p) (upd H p (.lst (uD xs lo hi)))
theorem sl_list:SlR X (rSlL X.K):=by
 intro pins s σ H x v vl vu lo hi sl Q I rx hs pl pu h
 obtain ⟨a,xs,rfl,hx,q⟩:=h
 cases rx
 obtain ⟨its,r,ht,hz⟩:=I.list hx
 have hlen:=r.length
 refine ⟨"list",_,slot_list_getitem.lookup,ht.isList.typeIs,?_⟩
 refine wpAny_getItem_list_slice ht.isList hs pl pu .none (by simp) ?_ (by rw [List.size_toArray] <;> omega)
 rw [kA,← hlen]
 refine ⟨.ref s.heap.objs.size,_,I.laid (t':=s.toks) (o:=.lst (uD xs lo hi)) (fun b ob q => Heap.get?_push_of_some _ q) (Nat.le_refl _) ?_,rfl,q _ (I.hok.fresh (Nat.le_refl _))⟩
 exact ⟨Nat.le_trans (vP xs lo hi) hz,_,0,(r.drop (HT.sIx xs.length 0 lo)).take (HT.sIx xs.length xs.length hi - HT.sIx xs.length 0 lo),Heap.get?_push_size _ rfl⟩
theorem call_list_of:qW X (.type "list") (fun xs H Q => ∃ p ys,xs = [.ref p] /\ (SqL X.K H p ys \/ SqT X.K H p ys) /\ ∀ l,H l = none -> Q (.ref l) (upd H l (.lst ys))):=by
 intro pins s σ H xs us Q I r h
 obtain ⟨p,ys,rfl,hq,q⟩:=h
 obtain ⟨u,rfl,rx⟩:=kI r
 cases rx
 have fin:∀ (its:List Value),Vals ys its -> ys.length <= sizeLine -> ∀ (h':Heap) (c':Nat),(∀ b o',s.heap.get? b = some o' -> h'.get? b = some o') ->
     h'.get? s.heap.objs.size = some { cls:=.type "list",dict:=none,data:=.seq its.toArray c',slots:=#[] } -> EP X pins σ Q (.ref s.heap.objs.size) { s with heap:=h' }:=fun its r' hz h' c' kp e =>
   ⟨.ref s.heap.objs.size,_,I.laid (t':=s.toks) kp (Nat.le_refl _) (show ObjOk X.prog X.w _ h' _ (.lst ys) from ⟨hz,its,c',r',e⟩),rfl,q _ (I.hok.fresh (Nat.le_refl _))⟩
 rcases hq with hq | hq
 · obtain ⟨its, r', pl, hz⟩ := I.list hq
   have hlen:=r'.length
   obtain ⟨o,ho,hc,n,hd⟩:=pl.isList
   exact call_list_seq p (.inl rfl) ho hc hd (fun h' c' kp e => fin its r' hz h' c' kp e) (by simp only [List.size_toArray] <;> omega)
 · obtain ⟨its, r', pl, hz⟩ := I.tuple hq
   have hlen:=r'.length
   obtain ⟨o,ho,hc,n,hd⟩:=pl
   exact call_list_seq p (.inr rfl) ho hc hd (fun h' c' kp e => fin its r' hz h' c' kp e) (by simp only [List.size_toArray] <;> omega)
theorem call_tuple_of:qW X (.type "tuple") (fun xs H Q => ∃ p ys,xs = [.ref p] /\ ((SqL X.K H p ys /\ ∀ l,H l = none -> Q (.ref l) (upd H l (.tup ys))) \/ (SqT X.K H p ys /\ Q (.ref p) H))):=by
 intro pins s σ H xs us Q I r h
 obtain ⟨p,ys,rfl,h⟩:=h
 obtain ⟨u,rfl,rx⟩:=kI r
 cases rx
 rcases h with ⟨hq,q⟩ | ⟨hq,q⟩
 · obtain ⟨its, r', pl, hz⟩ := I.list hq
   have hlen:=r'.length
   refine call_tuple_list pl.isList (fun h' kp => ?_) (by simp only [List.size_toArray] <;> omega)
   have I1:Inv X pins σ H { s with heap:=h' }:=I.kept (t':=s.toks) kp
   have I2:Inv X pins σ (upd H h'.objs.size (.tup ys)) { s with heap:=h'.push { cls:=.type "tuple",data:=.seq its.toArray } } :=
     I1.laid (t':=s.toks) (fun b o e => Heap.get?_push_of_some _ e) (Nat.le_refl _) (show ObjOk X.prog X.w _ _ _ (.tup ys) from ⟨hz,its,r',IsTup.new _ _⟩)
   exact ⟨.ref h'.objs.size,_,I2,rfl,q _ (I1.hok.fresh (Nat.le_refl _))⟩
 · obtain ⟨its, r', pl, hz⟩ := I.tuple hq
   exact call_tuple_same pl ⟨.ref p,H,I,rfl,q⟩
def tyV (K:PySem.W.Frag) (T:String) (x:V) (H:Hp):Prop:=match x with
 | .str _ => T = "str"
 | .int _ => T = "int"
 | .ref p => (T = "list" /\ ∃ xs,SqL K H p xs) \/ (T = "tuple" /\ ∃ o,K.lookup p = some o /\ o.cls = .type "tuple" /\ o.dict = none) \/
     (T = "dict" /\ ((∃ kvs,H p = some (.dK kvs)) \/ ∃ kvs,H p = some (.dT kvs))) \/ (T = "set" /\ ∃ S n,H p = some (.set S n))
 | _ => False
theorem tyV_is {pins:List (Addr × Obj)} {σ:St} {H:Hp} {s:Shared} {T:String} {x:V} {v:Value} (I:Inv X pins σ H s) (r:RelV x v) (ty:tyV X.K T x H) :
   s.TypeIs v T /\ ∀ a,v = .ref a -> ∃ ob,s.heap.get? a = some ob /\ ob.dict = none:=by
 cases x with
 | str z =>
   obtain ⟨t,rfl⟩:=r
   cases (show T = "str" from ty)
   exact ⟨typeIs_str s z t,fun _ e => nomatch e⟩
 | int i =>
   obtain ⟨t,rfl⟩:=r
   cases (show T = "int" from ty)
   exact ⟨typeIs_int s i t,fun _ e => nomatch e⟩
 | ref p =>
   cases r
   rcases ty with ⟨rfl,xs,hq⟩ | ⟨rfl,o,hk,hc,hd⟩ | ⟨rfl,hk⟩ | ⟨rfl,S,n,hk⟩
   · obtain ⟨its, _, pl, _⟩ := I.list hq
     refine ⟨pl.isList.typeIs,fun a e => ?_⟩
     cases e
     obtain ⟨o,n,e,c,hd,_⟩:=pl
     exact ⟨o,e,hd⟩
   · refine ⟨⟨o, I.kIn p o hk, hc⟩, fun a e => ?_⟩
     cases e
     exact ⟨o,I.kIn _ o hk,hd⟩
   · have z : ∃ o, s.heap.get? p = some o /\ o.ExactDict := by
       rcases hk with ⟨kvs,hk⟩ | ⟨kvs,hk⟩
       · obtain ⟨_, _, _, _, o, _, _, e, ex, _⟩ := I.hok p _ hk
         exact ⟨o,e,ex⟩
       · obtain ⟨_, _, _, _, o, _, _, e, ex, _⟩ := I.hok p _ hk
         exact ⟨o,e,ex⟩
     obtain ⟨o,e,ex⟩:=z
     refine ⟨⟨o,e,ex.1⟩,fun a e2 => ?_⟩
     cases e2
     exact ⟨o,e,ex.2.1⟩
   · obtain ⟨o, _, _, _, e, ex, _⟩ := I.hok p _ hk
     refine ⟨⟨o,e,ex.1⟩,fun a e2 => ?_⟩
     cases e2
     exact ⟨o,e,ex.2.1⟩
 | _ => exact False.elim ty
def tBM0 (K:PySem.W.Frag) (T:String) (r:V -> List V -> Hp -> VK -> Prop) (to:TE):TE:=fun σ H Q => to σ H fun x H1 => tyV K T x H1 /\ r x [] H1 Q
def tBM (K:PySem.W.Frag) (T:String) (r:V -> List V -> Hp -> VK -> Prop) (to:TE) (t:TA):TE:=fun σ H Q => to σ H fun x H1 => tyV K T x H1 /\ t σ H1 fun xs H2 => r x xs H2 Q
variable {o e:Expr} {es:List Expr} {to:TE} {t:TA} {name:Str} {apos cpos:Pos} {T id:String} {r:V -> List V -> Hp -> VK -> Prop}
theorem pe_bm0 (pa:PlainAttrs T) (slot:Slot T name id) (hty:typeOf (.builtin id) = pure (.type "method_descriptor")) (hm:MtR X id r) (ho:PE X o to)
   (hbase:attributeBase o name X.env (eval o X.env) = eval o X.env:=by rfl) (hline:(apos.endLine == cpos.line) = true:=by rfl):PE X (.Call (.Attribute o name apos) [] [] cpos) (tBM0 X.K T r to):=by
 intro pins s σ H Q I h
 refine wpAny_Call_method0_late hbase hline (thn (ho pins s σ H _ I h) fun v s1 ⟨x,H1,I1,r1,ty,q1⟩ => ?_)
 obtain ⟨h1,h2⟩:=tyV_is I1 r1 ty
 exact ⟨T,id,pa,slot,hty,h1,h2,Calls.callWith_builtin rfl (PySem.evalArgs_none (hm pins s1 σ H1 x [] v [] Q I1 r1 .nil q1))⟩
theorem vJ (pa:PlainAttrs T) (slot:Slot T name id) (hty:typeOf (.builtin id) = pure (.type "method_descriptor")) (hm:MtR X id r) (ho:PE X o to) (ha:PA X (e :: es) t)
   (hbase:attributeBase o name X.env (eval o X.env) = eval o X.env:=by rfl)
   (hfew:((backTo cpos (starEach (e :: es) X.env)).all (fun x => !x.1) && (backToKw cpos (keywordEach [] X.env)).all (fun x => x.1.isSome)
     && decide ((e :: es).length + ([]:List Keyword).length + (if ([]:List Keyword).isEmpty then 0 else 1) < 30)) = true:=by rfl)
   (hline:(apos.endLine == cpos.line) = true:=by rfl) (hs:starEach (e :: es) X.env = (false,eval e X.env) :: starEach es X.env:=by rfl) (hplain:(backTo cpos (starEach es X.env)).any (·.1) = false:=by rfl) :
   PE X (.Call (.Attribute o name apos) (e :: es) [] cpos) (tBM X.K T r to t):=by
 intro pins s σ H Q I h
 refine wpAny_Call_method_late hbase hfew hline rfl (thn (ho pins s σ H _ I h) fun v s1 ⟨x,H1,I1,r1,ty,q1⟩ => ?_)
 obtain ⟨h1,h2⟩:=tyV_is I1 r1 ty
 refine ⟨T,id,pa,slot,hty,h1,h2,?_⟩
 have hA:=ha cpos pins s1 σ H1 _ I1 q1
 rw [hs] at hA ⊢
 refine Calls.callWith_builtin (by show (false || (backTo cpos (starEach es X.env)).any (·.1)) = false; rw [hplain] <;> rfl) (Calls.evalArgs_plain ?_)
 exact thn hA fun us s2 ⟨vs,H2,I2,r2,q2⟩ => hm pins s2 σ H2 x vs v us Q I2 r1 r2 q2
end
def MtM (X:Cx) (id:String) (r:V -> List V -> Hp -> VK -> Prop):Prop :=
 ∀ (pins : List (Addr × Obj)) (s : Shared) (σ : St) (H : Hp) (x : V) (xs : List V) (v : Value) (us : List Value) (Q : VK), Inv X pins σ H s -> RelV x v -> Vals xs us -> r x xs H Q ->
   wpAny (model X.prog X.w) X.A (call (.builtin id) (v :: us)) (EP X pins σ Q) X.xe s
theorem Vals.one:∀ {x:V} {us:List Value},Vals [x] us -> ∃ u,us = [u] /\ RelV x u
 | _,_,.cons r .nil => ⟨_,rfl,r⟩
theorem Vals.two:∀ {x y:V} {us:List Value},Vals [x,y] us -> ∃ u v,us = [u,v] /\ RelV x u /\ RelV y v
 | _,_,_,.cons r (.cons q .nil) => ⟨_,_,rfl,r,q⟩
theorem Vals.dropLast {xs:List V} {us:List Value} (h:Vals xs us):Vals xs.dropLast us.dropLast:=by
 induction h with
 | nil => exact .nil
 | cons r t ih =>
   cases t with
   | nil => exact .nil
   | cons q t' => exact .cons r ih
theorem Vals.rep {xs:List V} {us:List Value} (h:Vals xs us):∀ k:Nat,Vals (List.replicate k xs).flatten (List.replicate k us).flatten
 | 0 => .nil
 | k + 1 => by
   rw [List.replicate_succ,List.replicate_succ,List.flatten_cons,List.flatten_cons]
   exact Vals.append h (Vals.rep h k)
theorem kX (its:List Value):∀ (k:Nat) (acc:List Value),
   List.foldl (fun x1 x2 => x1 ++ x2) acc.toArray (List.replicate k its.toArray) = (acc ++ (List.replicate k its).flatten).toArray
 | 0,acc => by simp
 | k + 1, acc => by
   have e:acc.toArray ++ its.toArray = (acc ++ its).toArray:=by simp
   have e2:(acc ++ its) ++ (List.replicate k its).flatten = acc ++ (List.replicate (k + 1) its).flatten:=by
     rw [List.replicate_succ,List.flatten_cons,List.append_assoc]
   rw [← e2,← kX its k (acc ++ its),← e,List.replicate_succ,List.foldl_cons]
section
variable {X:Cx} {pins:List (Addr × Obj)} {σ:St} {H:Hp} {s:Shared} {l b:Addr} {xs ys zs:List V}
theorem Inv.lset {its its':List Value} {n:Nat} {f:Array Value -> Array Value} {t':Nat} (I:Inv X pins σ H s) (hH:H l = some (.lst xs))
   (e:s.heap.get? l = some { cls:=.type "list",data:=.seq its.toArray n }) (hf:f its.toArray = its'.toArray) (hv:Vals ys its') (hz:ys.length <= sizeLine) :
   Inv X pins σ (upd H l (.lst ys)) { s with heap:=s.heap.update l (Obj.mapSeq f),toks:=t' }:=by
 have q:=PySem.IsL.update e f
 rw [hf] at q
 refine I.write (x:=l) (e:=l) (by rw [hH]; exact trivial) (.inl rfl) (fun b' u hb hu => (Heap.get?_update_other s.heap (Obj.mapSeq f) (Ne.symm hb)).trans hu) ⟨_,q⟩ ?_
 exact ⟨hz,its',_,hv,q⟩
theorem Inv.lnew {its:List Value} {t':Nat} (I:Inv X pins σ H s) (hv:Vals ys its) (hz:ys.length <= sizeLine) :
   Inv X pins σ (upd H s.heap.objs.size (.lst ys)) { s with heap:=s.heap.push { cls:=.type "list",data:=.seq its.toArray },toks:=t' } :=
 I.laid (fun _ _ q => Heap.get?_push_of_some _ q) (Nat.le_refl _) ⟨hz,its,0,hv,Heap.get?_push_size _ rfl⟩
theorem Inv.fresh (I:Inv X pins σ H s):H s.heap.objs.size = none:=I.hok.fresh (Nat.le_refl _)
theorem Inv.lstM (I:Inv X pins σ H s) (hH:H l = some (.lst xs)):xs.length <= sizeLine /\ ∃ (its:List Value) (n:Nat),Vals xs its /\ xs.length = its.length /\ s.heap.get? l = some { cls:=.type "list",data:=.seq its.toArray n }:=by
 obtain ⟨z,its,n,r,e⟩:=I.hok l _ hH
 exact ⟨z,its,n,r,r.length,e⟩
theorem notLongL {n:Nat} (h:n <= sizeLine):Builtin.List.listTooLong n = false:=by
 unfold Builtin.List.listTooLong
 exact decide_eq_false (by omega)
end
section
variable {X:Cx}
def rAppend:V -> List V -> Hp -> VK -> Prop:=fun x vs H Q => ∃ l xs y,x = .ref l /\ vs = [y] /\ H l = some (.lst xs) /\ xs.length < sizeLine /\ Q .non (upd H l (.lst (xs ++ [y])))
theorem mt_append:MtM X "list.append" rAppend:=by
 intro pins s σ H x vs v us Q I rx rv h
 obtain ⟨l,xs,y,rfl,rfl,hH,hz,q⟩:=h
 cases rx
 obtain ⟨u,rfl,ru⟩:=rv.one
 obtain ⟨z,its,n,r,hl,e⟩:=I.lstM hH
 refine call_meets F.slot_list_append ⟨_,e,rfl⟩ F.entry_list_append (F.args_list_append_2 _ _) (PySem.list_append l its.toArray n u (by rw [List.size_toArray]; omega)) ⟨e,?_⟩
 refine ⟨.non,_,I.lset (its':=its ++ [u]) hH e (by simp) (r.append (.cons ru .nil)) ?_,rfl,q⟩
 rw [List.length_append,List.length_singleton]
 omega
def rPop:V -> List V -> Hp -> VK -> Prop:=fun x vs H Q => ∃ l xs y,x = .ref l /\ vs = [] /\ H l = some (.lst xs) /\ xs[xs.length - 1]? = some y /\ Q y (upd H l (.lst xs.dropLast))
def rCat:R2:=fun x y H Q => ∃ l b xs zs,x = .ref l /\ y = .ref b /\ H l = some (.lst xs) /\ H b = some (.lst zs) /\ xs.length + zs.length <= sizeLine /\ ∀ p,H p = none -> Q (.ref p) (upd H p (.lst (xs ++ zs)))
def rRep:R2:=fun x y H Q => ∃ l k xs,x = .ref l /\ y = .int k /\ H l = some (.lst xs) /\ -(2 ^ 63) <= k /\ k < 2 ^ 63 /\ xs.length * k.toNat <= sizeLine /\
 ∀ p,H p = none -> Q (.ref p) (upd H p (.lst (List.replicate k.toNat xs).flatten))
theorem len_rep {α:Type} (xs:List α) (k:Nat):(List.replicate k xs).flatten.length = k * xs.length:=by
 induction k with
 | zero => simp
 | succ k ih => rw [List.replicate_succ,List.flatten_cons,List.length_append,ih,Nat.succ_mul,Nat.add_comm]
theorem op_rep:OpR X (binaryOp .Mult) rRep:=by
 intro pins s σ H x y v u Q I rx ry h
 obtain ⟨l,k,xs,rfl,rfl,hH,h1,h2,hz,q⟩:=h
 cases rx
 obtain ⟨t,rfl⟩:=ry
 obtain ⟨z,its,n,r,hl,e⟩:=I.lstM hH
 have hlen:its.toArray.size * k.toNat <= sizeLine:=by rw [List.size_toArray,← hl]; exact hz
 have hcap:¬ its.toArray.size * k.toNat > (2 ^ 63 - 1) / 8:=by
   have:(sizeLine:Nat) <= (2 ^ 63 - 1) / 8:=by decide
   omega
 have hfit:¬ (!Builtin.List.listFitsIndex k) = true:=by
   rw [fitsIndex_both h1 h2]
   exact Bool.false_ne_true
 have hlong:¬ Builtin.List.listTooLong (its.toArray.size * k.toNat) = true:=by
   rw [notLongL hlen]
   exact Bool.false_ne_true
 have hnew:List.foldl (fun x1 x2 => x1 ++ x2) #[] (List.replicate (if its.toArray.isEmpty = true then 0 else k.toNat) its.toArray) = (List.replicate k.toNat its).flatten.toArray:=by
   have f0:∀ m:Nat,List.foldl (fun x1 x2 => x1 ++ x2) #[] (List.replicate m its.toArray) = (List.replicate m its).flatten.toArray:=fun m => by
     have:=kX its m []
     rw [List.nil_append] at this
     exact this
   rw [f0]
   cases its with
   | nil => simp
   | cons a r' => rw [if_neg (by simp)]
 refine wpAny_binaryOp_repeat_ref (T:="list") (U:="int") (by decide) ⟨_,e,rfl⟩ (fun s' => typeIs_int s' k t) noFill_list_mul F.fills_int_mul F.slot_int_rmul repeat_list F.slot_int_index.lookup
   (call_meets F.slot_int_rmul (typeIs_int s k t) F.entry_int_rmul (F.args_int_rmul_2 _ _) (int___rmul___int_list k t l its.toArray n)
     ⟨e,rfl,⟨_,e,rfl⟩,call_meets F.slot_list_mul ⟨_,e,rfl⟩ F.entry_list_mul (F.args_list_mul_2 _ _) (AutoListH.list___mul___list_int_3 l its.toArray n k t hfit hcap hlong) ⟨e,?_⟩⟩)
 rw [hnew]
 exact ⟨.ref _,_,I.lnew (t':=s.toks) (r.rep k.toNat) (by rw [len_rep,Nat.mul_comm]; exact hz),rfl,q _ I.fresh⟩
end
section
variable {prog:Program} {w:World} {A:Around} {E:Value -> Shared -> Prop} {s:Shared}
end
section
variable {X:Cx}
end
section
variable {κ:Type} [DecidableEq κ]
def yS (kvs:List (κ × V)) (k:κ):Option V:=(kvs.find? fun kv => decide (kv.1 = k)).map (·.2)
def xT (kvs:List (κ × V)) (k:κ) (v:V):List (κ × V) :=
 if (kvs.any fun kv => decide (kv.1 = k)) = true then kvs.map (fun kv => if kv.1 = k then (kv.1,v) else kv) else kvs ++ [(k,v)]
theorem jU {p:κ × V} {r:List (κ × V)} {k:κ} (e:p.1 = k):yS (p :: r) k = some p.2:=by simp [yS,List.find?_cons,e]
theorem xZ {p:κ × V} {r:List (κ × V)} {k:κ} (e:¬ p.1 = k):yS (p :: r) k = yS r k:=by simp [yS,List.find?_cons,e]
theorem valV_any (k:κ):∀ kvs:List (κ × V),(kvs.any fun kv => decide (kv.1 = k)) = (yS kvs k).isSome
 | [] => rfl
 | p :: r => by
   rw [List.any_cons]
   by_cases e:p.1 = k
   · simp only [jU e,decide_eq_true e,Bool.true_or,Option.isSome_some]
   · rw [xZ e,decide_eq_false e,Bool.false_or]; exact valV_any k r
theorem jQ (kvs:List (κ × V)) (k:κ) (v:V):(xT kvs k v).length <= kvs.length + 1:=by
 unfold xT
 split
 · rw [List.length_map]; omega
 · rw [List.length_append,List.length_cons,List.length_nil]; omega
theorem RelO.isSome_eq {o:Option V} {u:Option Value} (r:RelO o u):o.isSome = u.isSome:=by
 cases o with
 | none => cases u with
   | none => rfl
   | some _ => exact (show False from r).elim
 | some _ => cases u with
   | none => exact (show False from r).elim
   | some _ => rfl
theorem RelO.getD {o:Option V} {u:Option Value} {d:V} {d':Value} (r:RelO o u) (rd:RelV d d'):RelV (o.getD d) (u.getD d'):=by
 cases o with
 | none => cases u with
   | none => exact rd
   | some _ => exact (show False from r).elim
 | some _ => cases u with
   | none => exact (show False from r).elim
   | some _ => exact r
theorem KV.val {kvs:List (κ × V)} {vs:List (κ × Value)} (r:KV kvs vs) (k:κ):RelO (yS kvs k) (valueAt vs k):=by
 unfold KV at r
 induction r with
 | nil => exact True.intro
 | @cons p q ps qs h t ih =>
   obtain ⟨h1,h2⟩:=h
   by_cases e:p.1 = k
   · have e' : q.1 = k := h1.symm.trans e
     have b:valueAt (q :: qs) k = some q.2:=by simp [valueAt,List.find?_cons,e']
     rw [jU e,b]; exact h2
   · have e' : ¬ q.1 = k := fun z => e (h1.trans z)
     have b:valueAt (q :: qs) k = valueAt qs k:=by simp [valueAt,List.find?_cons,e']
     rw [xZ e,b]; exact ih
theorem KV.any {kvs:List (κ × V)} {vs:List (κ × Value)} (r:KV kvs vs) (k:κ):(kvs.any fun kv => decide (kv.1 = k)) = vs.any fun kv => decide (kv.1 = k):=by
 unfold KV at r
 induction r with
 | nil => rfl
 | cons h t ih => rw [List.any_cons,List.any_cons,ih,h.1]
theorem KV.repl {kvs:List (κ × V)} {vs:List (κ × Value)} (r:KV kvs vs) (k:κ) {y:V} {u:Value} (ry:RelV y u) :
   KV (kvs.map fun kv => if kv.1 = k then (kv.1,y) else kv) (vs.map fun kv => if kv.1 = k then (kv.1,u) else kv):=by
 unfold KV at r ⊢
 induction r with
 | nil => exact .nil
 | @cons p q ps qs h t ih =>
   rw [List.map_cons,List.map_cons]
   refine .cons ?_ ih
   obtain ⟨h1,h2⟩:=h
   by_cases e:p.1 = k
   · rw [if_pos e,if_pos (h1.symm.trans e)]; exact ⟨h1,ry⟩
   · rw [if_neg e,if_neg (fun z => e (h1.trans z))]; exact ⟨h1,h2⟩
theorem KV.put {kvs:List (κ × V)} {vs:List (κ × Value)} (r:KV kvs vs) (k:κ) {y:V} {u:Value} (ry:RelV y u):KV (xT kvs k y) (stored vs k u):=by
 unfold xT stored
 rw [r.any k]
 by_cases e:(vs.any fun kv => decide (kv.1 = k)) = true
 · rw [if_pos e,if_pos e]; exact r.repl k ry
 · rw [if_neg e,if_neg e]; exact Paired.snoc r ⟨rfl,ry⟩
theorem KV.length {kvs:List (κ × V)} {vs:List (κ × Value)} (r:KV kvs vs):kvs.length = vs.length:=Paired.length r
end
theorem vM {P:Program} {w:World} {k:Key} {u:Value} (r:RelV (kV k) u):(yH P w).is k u = true:=by
 cases k with
 | inl i => obtain ⟨t,e⟩:=(show ∃ t,u = Value.int i t from r); subst e; exact mixKind_int P w i t
 | inr x => obtain ⟨t,e⟩:=(show ∃ t,u = Value.str x t from r); subst e; exact qL P w x t
theorem kT {P:Program} {w:World}:∀ {ks:List Key} {us:List Value},Vals (ks.map kV) us -> ItemsAre (yH P w) ks us
 | [],_,r => by rw [List.map_nil] at r; cases r; exact .nil
 | k :: ks, _, r => by
   rw [List.map_cons] at r
   cases r with
   | cons h t => exact .cons (vM h) (kT t)
abbrev KT (H:Hp):List (List Key × V) -> List (List Key × Addr × Value) -> Prop:=Paired fun p q => p.1 = q.1 /\ H q.2.1 = some (.tup (p.1.map kV)) /\ RelV p.2 q.2.2
theorem KT.val {H:Hp} {kvs:List (List Key × V)} {xs:List (List Key × Addr × Value)} (r:KT H kvs xs) (k:List Key):RelO (yS kvs k) ((atKey xs k).map (·.2)):=by
 induction r with
 | nil => exact True.intro
 | @cons p q ps qs h t ih =>
   obtain ⟨h1,_,h2⟩:=h
   by_cases e:p.1 = k
   · have e' : q.1 = k := h1.symm.trans e
     have b:atKey (q :: qs) k = some q.2:=by simp [atKey,List.find?_cons,e']
     rw [jU e,b]; exact h2
   · have e' : ¬ q.1 = k := fun z => e (h1.trans z)
     have b:atKey (q :: qs) k = atKey qs k:=by simp [atKey,List.find?_cons,e']
     rw [xZ e,b]; exact ih
theorem KT.repl {H:Hp} {kvs:List (List Key × V)} {xs:List (List Key × Addr × Value)} (r:KT H kvs xs) (k:List Key) {y:V} {u:Value} (ry:RelV y u) :
   KT H (kvs.map fun kv => if kv.1 = k then (kv.1,y) else kv) (xs.map (putAt k u)):=by
 induction r with
 | nil => exact .nil
 | @cons p q ps qs h t ih =>
   rw [List.map_cons,List.map_cons]
   refine .cons ?_ ih
   obtain ⟨h1,h2,h3⟩:=h
   unfold putAt
   by_cases e:p.1 = k
   · rw [if_pos e,if_pos (h1.symm.trans e)]; exact ⟨h1,h2,ry⟩
   · rw [if_neg e,if_neg (fun z => e (h1.trans z))]; exact ⟨h1,h2,h3⟩
theorem KT.put {H:Hp} {kvs:List (List Key × V)} {xs:List (List Key × Addr × Value)} (r:KT H kvs xs) (k:List Key) {b:Addr} {y:V} {u:Value} (hb:H b = some (.tup (k.map kV))) (ry:RelV y u) :
   KT H (xT kvs k y) (storedH xs k b u):=by
 have e:(kvs.any fun kv => decide (kv.1 = k)) = (atKey xs k).isSome:=by
   rw [valV_any,(r.val k).isSome_eq,Option.isSome_map]
 unfold xT storedH
 rw [e]
 by_cases q:(atKey xs k).isSome = true
 · rw [if_pos q,if_pos q]; exact r.repl k ry
 · rw [if_neg q,if_neg q]; exact Paired.snoc r ⟨rfl,hb,ry⟩
theorem KT.keeps {H H':Hp} {kvs:List (List Key × V)} {xs:List (List Key × Addr × Value)} (r:KT H kvs xs) (ht:∀ b ys,H b = some (.tup ys) -> H' b = some (.tup ys)):KT H' kvs xs :=
 Paired.mapP r fun _ _ z => ⟨z.1,ht _ _ z.2.1,z.2.2⟩
section
variable {P:Program} {w:World} {H:Hp} {h:Heap} {a:Addr}
theorem rd_of {u:HO} (ok:HOk P w H h) (e:Rd H a u):ObjOk P w H h a u:=e.ok ok
theorem vO {kvs:List (Key × V)} (ok:HOk P w H h) (e:Rd H a (.dK kvs)):kvs.length <= sizeLine /\ (a == sysModules) = false /\ ∃ vs,KV kvs vs /\ h.DictOf (yH P w) a vs :=
 show ObjOk P w H h a (.dK kvs) from rd_of ok e
theorem dk_of {kvs:List (Key × V)} (ok:HOk P w H h) (e:H a = some (.dK kvs)):kvs.length <= sizeLine /\ (a == sysModules) = false /\ ∃ vs,KV kvs vs /\ h.DictOf (yH P w) a vs:=vO ok (.inl e)
theorem uL {ks:List Key} (ok:HOk P w H h) (e:H a = some (.tup (ks.map kV))):(tupleKind (yH P w)).is h ks a:=by
 obtain ⟨_,its,r,o,h1,h2,n,h3⟩:=(show ObjOk P w H h a (.tup (ks.map kV)) from ok a _ e)
 exact ⟨o,its.toArray,n,h1,h2,h3,by simpa using kT r⟩
theorem wU {kvs:List (List Key × V)} (ok:HOk P w H h) (e:Rd H a (.dT kvs)):kvs.length <= sizeLine /\ (a == sysModules) = false /\
   ∃ xs,KT H kvs xs /\ h.DictOfH (tupleKind (yH P w)) a xs:=by
 obtain ⟨z,y,xs,r,o,es,ep,h1,h2,h3,h4,h5⟩:=(show ObjOk P w H h a (.dT kvs) from rd_of ok e)
 refine ⟨z,y,xs,r,o,es,ep,h1,h2,h3,h4,fun x hx => ?_,h5⟩
 have all:∀ {l:List (List Key × V)} {m:List (List Key × Addr × Value)},KT H l m -> ∀ x ∈ m,(tupleKind (yH P w)).is h x.1 x.2.1:=by
   intro l m q
   induction q with
   | nil => intro x hx; exact nomatch hx
   | @cons p q ps qs hq t ih =>
     intro x hx
     rcases List.mem_cons.mp hx with e | hx
     · subst e
       exact uL ok (by rw [← hq.1]; exact hq.2.1)
     · exact ih x hx
 exact all r x hx
theorem dt_of {kvs:List (List Key × V)} (ok:HOk P w H h) (e:H a = some (.dT kvs)):kvs.length <= sizeLine /\ (a == sysModules) = false /\
   ∃ xs,KT H kvs xs /\ h.DictOfH (tupleKind (yH P w)) a xs:=wU ok (.inl e)
end
def DGet (H:Hp) (a:Addr) (y:V) (r:Option V):Prop :=
 (∃ kvs k,Rd H a (.dK kvs) /\ y = kV k /\ r = yS kvs k) \/ ∃ kvs k b,Rd H a (.dT kvs) /\ y = .ref b /\ H b = some (.tup (k.map kV)) /\ r = yS kvs k
def DPut (H:Hp) (a:Addr) (y v:V) (H':Hp):Prop :=
 (∃ kvs k,H a = some (.dK kvs) /\ y = kV k /\ kvs.length < sizeLine /\ H' = upd H a (.dK (xT kvs k v))) \/
 ∃ kvs k b,H a = some (.dT kvs) /\ y = .ref b /\ H b = some (.tup (k.map kV)) /\ kvs.length < sizeLine /\ H' = upd H a (.dT (xT kvs k v))
theorem DGet.k {H:Hp} {a:Addr} {kvs:List (Key × V)} {k:Key} (e:H a = some (.dK kvs)):DGet H a (kV k) (yS kvs k):=.inl ⟨kvs,k,.inl e,rfl,rfl⟩
theorem DGet.t {H:Hp} {a b:Addr} {kvs:List (List Key × V)} {k:List Key} (e:H a = some (.dT kvs)) (eb:H b = some (.tup (k.map kV))):DGet H a (.ref b) (yS kvs k):=.inr ⟨kvs,k,b,.inl e,rfl,eb,rfl⟩
theorem DPut.k {H:Hp} {a:Addr} {kvs:List (Key × V)} {k:Key} {v:V} (e:H a = some (.dK kvs)) (hl:kvs.length < sizeLine):DPut H a (kV k) v (upd H a (.dK (xT kvs k v))):=.inl ⟨kvs,k,e,rfl,hl,rfl⟩
theorem DPut.t {H:Hp} {a b:Addr} {kvs:List (List Key × V)} {k:List Key} {v:V} (e:H a = some (.dT kvs)) (eb:H b = some (.tup (k.map kV))) (hl:kvs.length < sizeLine) :
   DPut H a (.ref b) v (upd H a (.dT (xT kvs k v))):=.inr ⟨kvs,k,b,e,rfl,eb,hl,rfl⟩
section
variable {X:Cx} {pins:List (Addr × Obj)} {σ:St} {H:Hp} {s:Shared} {a:Addr} {y v:V} {u r:Value} {o:Option V} {A:Around} {E:Value -> Shared -> Prop}
theorem Inv.big (I:Inv X pins σ H s):sysModules < s.heap.objs.size:=by
 have h:mainGlobals < s.heap.objs.size:=(I.mod.glob.keeps I.bk).lt
 exact Nat.lt_trans (by decide) h
theorem d_getItem {Q:Value -> Shared -> Prop} (hu:A.units + 1 < cLine) (I:Inv X pins σ H s) (g:DGet H a y (some v)) (ry:RelV y u) (h:∀ w' s',Inv X pins σ H s' -> RelV v w' -> Q w' s') :
   wpAny (model X.prog X.w) A (getItem (.ref a) u) Q E s:=by
 rcases g with ⟨kvs,k,e,ey,l⟩ | ⟨kvs,k,b,e,ey,eb,l⟩
 · subst ey
   obtain ⟨z,hd,vs,rel,dd⟩:=vO I.hok e
   obtain ⟨w',hw,rw'⟩:=RelO.some_of (v:=v) (o:=valueAt vs k) (by rw [l]; exact rel.val k)
   exact wpAny_getItem_of (vM ry) dd.mapOf hw (h w' _ (I.tok _) rw')
 · subst ey
   cases (show u = Value.ref b from ry)
   obtain ⟨z,hd,xs,rel,dd⟩:=wU I.hok e
   obtain ⟨w',hw,rw'⟩:=RelO.some_of (v:=v) (o:=(atKey xs k).map (·.2)) (by rw [l]; exact rel.val k)
   obtain ⟨p,hp,hp2⟩:=Option.map_eq_some_iff.mp hw
   refine wpAny_getItem_heap (tupleKind_room_in1 hu) (uL I.hok eb) dd hp ?_
   rw [hp2]
   exact h w' _ (I.tok _) rw'
theorem d_in {Q:Value -> Shared -> Prop} (hu:A.units + 1 < cLine) (I:Inv X pins σ H s) (g:DGet H a y o) (ry:RelV y u) (h:∀ s',Inv X pins σ H s' -> Q (.bool o.isSome) s') :
   wpAny (model X.prog X.w) A (compareOp .In u (.ref a)) Q E s:=by
 rcases g with ⟨kvs,k,e,ey,l⟩ | ⟨kvs,k,b,e,ey,eb,l⟩
 · subst ey
   obtain ⟨z,hd,vs,rel,dd⟩:=vO I.hok e
   refine wpAny_in_of (vM ry) hd dd.mapOf ?_
   rw [← (rel.val k).isSome_eq,← l]
   exact h _ (I.tok _)
 · subst ey
   cases (show u = Value.ref b from ry)
   obtain ⟨z,hd,xs,rel,dd⟩:=wU I.hok e
   refine wpAny_in_heap (tupleKind_room_in1 hu) (uL I.hok eb) hd dd ?_
   have q:=(rel.val k).isSome_eq
   rw [Option.isSome_map] at q
   rw [← q,← l]
   exact h _ (I.tok _)
theorem d_notIn {Q:Value -> Shared -> Prop} (hu:A.units + 1 < cLine) (I:Inv X pins σ H s) (g:DGet H a y o) (ry:RelV y u) (h:∀ s',Inv X pins σ H s' -> Q (.bool (!o.isSome)) s') :
   wpAny (model X.prog X.w) A (compareOp .NotIn u (.ref a)) Q E s:=by
 rcases g with ⟨kvs,k,e,ey,l⟩ | ⟨kvs,k,b,e,ey,eb,l⟩
 · subst ey
   obtain ⟨z,hd,vs,rel,dd⟩:=vO I.hok e
   refine wpAny_notIn_of (vM ry) hd dd.mapOf ?_
   rw [← (rel.val k).isSome_eq,← l]
   exact h _ (I.tok _)
 · subst ey
   cases (show u = Value.ref b from ry)
   obtain ⟨z,hd,xs,rel,dd⟩:=wU I.hok e
   refine wpAny_notIn_heap (tupleKind_room_in1 hu) (uL I.hok eb) hd dd ?_
   have q:=(rel.val k).isSome_eq
   rw [Option.isSome_map] at q
   rw [← q,← l]
   exact h _ (I.tok _)
theorem wD {h':Heap} {t':Nat} {ob:HO} (I:Inv X pins σ H s) (mu:Mut (H a)) (hs:Heap.SameBut a s.heap h') (he:∃ q,h'.get? a = some q) (new:ObjOk X.prog X.w (upd H a ob) h' a ob) :
   Inv X pins σ (upd H a ob) { s with heap:=h',toks:=t' } :=
 I.write (x:=a) (e:=a) mu (.inl rfl) (fun b q hb z => (hs.2 b hb).trans z) he new
theorem dk_new {P:Program} {w:World} {H':Hp} {h':Heap} {kvs:List (Key × V)} {vs:List (Key × Value)} (z:kvs.length <= sizeLine) (hd:(a == sysModules) = false) (rel:KV kvs vs) (dd:h'.DictOf (yH P w) a vs) :
   ObjOk P w H' h' a (.dK kvs):=⟨z,hd,vs,rel,dd⟩
theorem d_setItem {H':Hp} {Q:Unit -> Shared -> Prop} (hu:A.units + 1 < cLine) (I:Inv X pins σ H s) (g:DPut H a y v H') (ry:RelV y u) (rv:RelV v r) (h:∀ s',Inv X pins σ H' s' -> Q () s') :
   wpAny (model X.prog X.w) A (setItem (.ref a) u r) Q E s:=by
 rcases g with ⟨kvs,k,e,ey,l,eH⟩ | ⟨kvs,k,b,e,ey,eb,l,eH⟩
 · subst ey eH
   obtain ⟨z,hd,vs,rel,dd⟩:=dk_of I.hok e
   have hz:vs.length <= sizeLine:=by rw [← rel.length]; exact z
   have hl:(xT kvs k v).length <= sizeLine:=by have:=jQ kvs k v; omega
   refine wpAny_setItem_pairs (hsz:=hz) (vM ry) dd fun h' dd' hs => h _ ?_
   have he:∃ q,h'.get? a = some q:=let ⟨q,_,_,hq,_⟩:=dd'; ⟨q,hq⟩
   exact wD I (by rw [e]; exact True.intro) hs he (dk_new hl hd (rel.put k rv) dd')
 · subst ey eH
   cases (show u = Value.ref b from ry)
   obtain ⟨z,hd,xs,rel,dd⟩:=dt_of I.hok e
   have hz:xs.length <= sizeLine:=by rw [← Paired.length rel]; exact z
   have hl:(xT kvs k v).length <= sizeLine:=by have:=jQ kvs k v; omega
   refine wpAny_setItem_heap (hsz:=hz) (tupleKind_room_in1 hu) (uL I.hok eb) dd fun h' dd' hs => h _ ?_
   obtain ⟨q,es,ep,hq,h2,h3,h4,_,h5⟩:=dd'
   refine wD I (by rw [e]; exact True.intro) hs ⟨q,hq⟩ ⟨hl,hd,_,(rel.put k eb rv).keeps fun c ys ec => ?_,q,es,ep,hq,h2,h3,h4,h5⟩
   rw [zH (xU ec e (fun z => nomatch z))]
   exact ec
end
section
variable {X:Cx} {pins:List (Addr × Obj)} {σ:St} {H:Hp} {s:Shared} {a:Addr} {kvs:List (Key × V)} {k:Key} {u:Value} {A:Around} {E:Value -> Shared -> Prop}
end
def NoSl (i:Expr):Prop:=∀ ov iv,subscripted i false ov iv = operate [ov,iv] (getItem ov iv)
theorem subD_of {prog:Program} {w:World} {A:Around} {E:Value -> Shared -> Prop} {s:Shared} {env:Env} {value slice:Expr} {pos:Pos} {T id:String} {Q:Value -> Shared -> Prop}
   (hl:typeLookup (.type T) "__getitem__" = pure (some (.builtin id))) (hs:NoSl slice)
   (h:wpAny (model prog w) A (eval value env) (fun o s₁ => wpAny (model prog w) A (eval slice env) (fun i s₂ => s₂.TypeIs o T /\ wpAny (model prog w) A (getItem o i) Q E s₂) E s₁) E s) :
   wpAny (model prog w) A (eval (.Subscript value slice pos) env) Q E s:=by
 refine Subscript_ (wpAny_mono h (fun o s₁ h₁ => wpAny_mono h₁ (fun i s₂ h₂ => ?_) fun _ _ x => x) fun _ _ x => x)
 obtain ⟨hT,h₂⟩:=h₂
 unfold subscriptTail
 refine wpAny_bind ?_
 rw [getitemInPython_of_ne hT.not_modules]
 refine wpAny_bind (wpAny_specialOf hT hl ?_)
 have fin:wpAny (model prog w) A (subscripted slice false o i) (fun r s₃ => wpAny (model prog w) A (letTemporaryGo value o r >>= fun _ => pure r) Q E s₃) E s₂:=by
   rw [hs o i]
   exact wpAny_operating (wpAny_mono h₂ (fun r s₃ h₃ => wpAny_bind (wpAny_letTemporaryGo (wpAny_pure h₃))) fun _ _ x => x)
 first
   | exact wpAny_pure (wpAny_bind fin)
   | exact wpAny_bind (wpAny_pure (wpAny_bind fin))
   | exact wpAny_bind fin
theorem dict_typeIs {X:Cx} {pins:List (Addr × Obj)} {σ:St} {H:Hp} {s:Shared} {a:Addr} {y:V} {o:Option V} (I:Inv X pins σ H s) (g:DGet H a y o):s.TypeIs (.ref a) "dict":=by
 rcases g with ⟨kvs,k,e,_,_⟩ | ⟨kvs,k,b,e,_,_,_⟩
 · obtain ⟨_, _, vs, _, dd⟩ := vO I.hok e
   exact dd.typeIs
 · obtain ⟨_, _, xs, _, dd⟩ := wU I.hok e
   exact dd.typeIs
def tDGet (td ty:TE):TE:=fun σ H Q => td σ H fun x H1 => ty σ H1 fun y H2 => ∃ a v,x = .ref a /\ DGet H2 a y (some v) /\ Q v H2
def tDIn (ty td:TE):TE:=fun σ H Q => ty σ H fun y H1 => td σ H1 fun x H2 => ∃ a o,x = .ref a /\ DGet H2 a y o /\ Q (.bl o.isSome) H2
def vT (ty td:TE):TE:=fun σ H Q => ty σ H fun y H1 => td σ H1 fun x H2 => ∃ a o,x = .ref a /\ DGet H2 a y o /\ Q (.bl (!o.isSome)) H2
def kN (td ty tv:TE):TS:=fun D σ H => tv σ H fun v H1 => td σ H1 fun x H2 => ty σ H2 fun y H3 => ∃ a H4,x = .ref a /\ DPut H3 a y v H4 /\ D.nx σ H4
section
variable {X:Cx} {o i e value:Expr} {pos pos' tpos:Pos} {td ty tv:TE}
theorem ZR (hu:X.A.units + 1 < cLine) (ho:PE X o td) (hi:PE X i ty) (hs:NoSl i):PE X (.Subscript o i pos) (tDGet td ty):=by
 intro pins s σ H Q I h
 refine subD_of PySem.F.slot_dict_getitem.lookup hs (thn (ho pins s σ H _ I h) fun u s1 ⟨x,H1,I1,rx,q1⟩ => thn (hi pins s1 σ H1 _ I1 q1) fun iv s2 ⟨y,H2,I2,ry,a,v,ex,g,q2⟩ => ?_)
 subst ex
 obtain rfl:u = Value.ref a:=rx
 exact ⟨dict_typeIs I2 g,d_getItem hu I2 g ry fun w' s3 I3 rw' => ⟨v,H2,I3,rw',q2⟩⟩
theorem pc_din (hu:X.A.units + 1 < cLine) (hi:PE X i ty) (ho:PE X o td):PC X .In i o (tDIn ty td):=by
 intro pins s σ H Q I h
 refine thn (hi pins s σ H _ I h) fun iv s1 ⟨y,H1,I1,ry,q1⟩ => thn (ho pins s1 σ H1 _ I1 q1) fun u s2 ⟨x,H2,I2,rx,a,ov,ex,g,q2⟩ => ?_
 subst ex
 obtain rfl:u = Value.ref a:=rx
 exact d_in hu I2 g ry fun s3 I3 => ⟨.bl ov.isSome,H2,I3,rfl,q2⟩
theorem kO (hu:X.A.units + 1 < cLine) (hi:PE X i ty) (ho:PE X o td):PC X .NotIn i o (vT ty td):=by
 intro pins s σ H Q I h
 refine thn (hi pins s σ H _ I h) fun iv s1 ⟨y,H1,I1,ry,q1⟩ => thn (ho pins s1 σ H1 _ I1 q1) fun u s2 ⟨x,H2,I2,rx,a,ov,ex,g,q2⟩ => ?_
 subst ex
 obtain rfl:u = Value.ref a:=rx
 exact d_notIn hu I2 g ry fun s3 I3 => ⟨.bl (!ov.isSome),H2,I3,rfl,q2⟩
theorem uT (hu:X.A.units + 1 < cLine) (ho:PE X o td) (hi:PE X i ty) (hv:PE X value tv) (hs:swapsWith value (some (.Subscript o i pos')) pos.line X.env = pure false) :
   PS X (.Assign [.Subscript o i pos'] value pos) (kN td ty tv):=by
 intro pins s σ H D I h
 refine wpAny_Assign_Subscript (thn (hv pins s σ H _ I h) fun r s1 ⟨v,H1,I1,rv,q1⟩ => thn (ho pins s1 σ H1 _ I1 q1) fun u s2 ⟨x,H2,I2,rx,q2⟩ => thn (hi pins s2 σ H2 _ I2 q2) fun iv s3 ⟨y,H3,I3,ry,a,H4,ex,g,q3⟩ => ?_) hs
 subst ex
 obtain rfl:u = Value.ref a:=rx
 exact d_setItem hu I3 g ry rv fun s4 I4 => ⟨σ,H4,I4,q3⟩
end
theorem dk_empty {P:Program} {w:World} {H:Hp} (h:Heap) (hb:sysModules < h.objs.size):ObjOk P w H (h.push { cls:=.type "dict",data:=.dict #[] }) h.objs.size (.dK []) :=
 ⟨Nat.zero_le _,beq_eq_false_iff_ne.mpr (Ne.symm (Nat.ne_of_lt hb)),[],.nil,Heap.DictOf.new h⟩
theorem dt_empty {P:Program} {w:World} {H:Hp} (h:Heap) (hb:sysModules < h.objs.size):ObjOk P w H (h.push { cls:=.type "dict",data:=.dict #[] }) h.objs.size (.dT []) :=
 ⟨Nat.zero_le _,beq_eq_false_iff_ne.mpr (Ne.symm (Nat.ne_of_lt hb)),[],.nil,_,#[],0,Heap.get?_push_size _ rfl,⟨rfl,rfl,rfl⟩,rfl,rfl,List.nodup_nil⟩
def tDNewK:TE:=fun _ H Q => ∀ p,H p = none -> Q (.ref p) (upd H p (.dK []))
def tDNewT:TE:=fun _ H Q => ∀ p,H p = none -> Q (.ref p) (upd H p (.dT []))
section
variable {X:Cx} {pos:Pos}
theorem pe_dnewK:PE X (.Dict [] [] pos) tDNewK:=fun pins s σ H Q I h =>
 wpAny_Dict_empty ⟨.ref s.heap.objs.size,_,I.laid (a:=s.heap.objs.size) (o:=.dK []) (t':=s.toks) (fun _ _ q => Heap.get?_push_of_some _ q) (Nat.le_refl _) (dk_empty s.heap I.big),rfl,h _ (I.hok.fresh (Nat.le_refl _))⟩
theorem pe_dnewT:PE X (.Dict [] [] pos) tDNewT:=fun pins s σ H Q I h =>
 wpAny_Dict_empty ⟨.ref s.heap.objs.size,_,I.laid (a:=s.heap.objs.size) (o:=.dT []) (t':=s.toks) (fun _ _ q => Heap.get?_push_of_some _ q) (Nat.le_refl _) (dt_empty s.heap I.big),rfl,h _ (I.hok.fresh (Nat.le_refl _))⟩
end
def tPairs:List (TE × TE) -> St -> Hp -> (List (V × V) -> Hp -> Prop) -> Prop
 | [],_,H,Q => Q [] H
 | (tk,tv) :: r,σ,H,Q => tk σ H fun x H1 => tv σ H1 fun y H2 => tPairs r σ H2 fun ps H3 => Q ((x,y) :: ps) H3
abbrev VV:List (V × V) -> List (Value × Value) -> Prop:=Paired fun p q => RelV p.1 q.1 /\ RelV p.2 q.2
def PPs (X:Cx) (pos:Pos) (keys:List (Option Expr)) (values:List Expr) (trs:List (TE × TE)):Prop :=
 ∀ (pins : List (Addr × Obj)) (s : Shared) (σ : St) (H : Hp) (Q : List (V × V) -> Hp -> Prop), Inv X pins σ H s -> tPairs trs σ H Q ->
   wpAny (model X.prog X.w) X.A (evalPairs (pairTrees keys values X.env pos)) (fun vs s' => ∃ ps H',Inv X pins σ H' s' /\ VV ps vs /\ Q ps H') X.xe s
theorem pps_nil {X:Cx} {pos:Pos}:PPs X pos [] [] []:=fun pins s σ H Q I h => pairTrees_nil_walk ⟨[],H,I,.nil,h⟩
theorem pps_cons {X:Cx} {pos:Pos} {k v:Expr} {ks:List (Option Expr)} {vs:List Expr} {tk tv:TE} {trs:List (TE × TE)} (hk:PE X k tk) (hv:PE X v tv) (hr:PPs X pos ks vs trs) :
   PPs X pos (some k :: ks) (v :: vs) ((tk,tv) :: trs):=fun pins s σ H Q I h =>
 pairTrees_cons_walk (thn (hk pins s σ H _ I h) fun u s1 ⟨x,H1,I1,rx,q1⟩ => thn (hv pins s1 σ H1 _ I1 q1) fun w2 s2 ⟨y,H2,I2,ry,q2⟩ =>
   thn (hr pins s2 σ H2 _ I2 q2) fun ws s3 ⟨ps,H3,I3,rel,q3⟩ => ⟨(x,y) :: ps,H3,I3,.cons ⟨rx,ry⟩ rel,q3⟩)
def qM (kvs more:List (Key × V)):List (Key × V):=more.foldl (fun acc kv => xT acc kv.1 kv.2) kvs
theorem KV.merge:∀ {more:List (Key × V)} {rs:List (Key × Value)} {kvs:List (Key × V)} {vs:List (Key × Value)},KV more rs -> KV kvs vs -> KV (qM kvs more) (merged vs rs):=by
 intro more rs kvs vs r
 unfold KV at r
 induction r generalizing kvs vs with
 | nil => intro q; exact q
 | @cons p q ps qs h t ih =>
   intro r0
   have e:KV (xT kvs p.1 p.2) (stored vs q.1 q.2):=by
     have:=r0.put p.1 h.2
     rw [← h.1]; exact this
   exact ih e
theorem length_mergeK:∀ (more kvs:List (Key × V)),(qM kvs more).length <= kvs.length + more.length
 | [],kvs => by show kvs.length <= kvs.length + 0; omega
 | p :: r, kvs => by
   have h1:=length_mergeK r (xT kvs p.1 p.2)
   have h2:=jQ kvs p.1 p.2
   show (qM (xT kvs p.1 p.2) r).length <= _
   rw [List.length_cons]; omega
theorem wW {P:Program} {w:World}:∀ {kvs:List (Key × V)} {ws:List (Value × Value)},VV (kvs.map fun kv => (kV kv.1,kv.2)) ws -> ∃ rs,Carries (yH P w) ws rs /\ KV kvs rs
 | [],_,r => by rw [List.map_nil] at r; cases r; exact ⟨[],True.intro,.nil⟩
 | p :: kvs, _, r => by
   rw [List.map_cons] at r
   cases r with
   | @cons a b as bs h t =>
     obtain ⟨rs,c,q⟩:=wW (P:=P) (w:=w) t
     obtain ⟨b1,b2⟩:=b
     exact ⟨(p.1,b2) :: rs,⟨vM h.1,rfl,c⟩,.cons ⟨rfl,h.2⟩ q⟩
def tDisp (trs:List (TE × TE)):TE:=fun σ H Q => ∀ p,H p = none -> tPairs trs σ (upd H p (.dK [])) fun ps H2 => H2 p = some (.dK []) /\ ∃ kvs:List (Key × V),ps = kvs.map (fun kv => (kV kv.1,kv.2)) /\ kvs.length <= 15 /\ Q (.ref p) (upd H2 p (.dK (qM [] kvs)))
theorem pe_disp {X:Cx} {pos:Pos} {keys:List (Option Expr)} {values:List Expr} {trs:List (TE × TE)} (h:PPs X pos keys values trs) (hall:keys.all (·.isSome) = true) (hl:keys.length = values.length) (h0:keys ≠ [])
   (h15:keys.length <= 15):PE X (.Dict keys values pos) (tDisp trs):=by
 intro pins s σ H Q I q
 have hn:=I.hok.fresh (Nat.le_refl s.heap.objs.size)
 have I1:=I.laid (a:=s.heap.objs.size) (o:=.dK []) (h':=s.heap.push { cls:=.type "dict",data:=.dict #[] }) (t':=s.toks) (fun _ _ q => Heap.get?_push_of_some _ q) (Nat.le_refl _) (dk_empty s.heap I.big)
 refine wpAny_Dict_walk (knd:=yH X.prog X.w) hall hl h0 h15 (thn (h pins _ σ _ _ I1 (q _ hn)) fun ws s2 ⟨ps,H2,I2,rel,e,kvs,ep,lk,q2⟩ => ?_)
 subst ep
 obtain ⟨rs,c,rk⟩:=wW (P:=X.prog) (w:=X.w) rel
 obtain ⟨z,hd,vs0,r0,dd⟩:=dk_of I2.hok e
 cases r0
 refine ⟨rs,c,dd,fun h' dd' hs => ⟨.ref s.heap.objs.size,_,?_,rfl,q2⟩⟩
 have hz:(qM [] kvs).length <= sizeLine:=by
   have h1:=length_mergeK kvs []
   rw [List.length_nil] at h1
   rw [sizeLine_eq]; omega
 have he:∃ q,h'.get? s.heap.objs.size = some q:=let ⟨q,_,_,hq,_⟩:=dd'; ⟨q,hq⟩
 exact wD I2 (by rw [e]; exact True.intro) hs he (dk_new hz hd (rk.merge .nil) dd')
structure M1 (X:Cx) (o:Expr) (m:Str) (apos:Pos) (e:Expr) (cpos:Pos):Prop where
 base:attributeBase o m X.env (eval o X.env) = eval o X.env
 few:((backTo cpos (starEach [e] X.env)).all (fun x => !x.1) && (backToKw cpos (keywordEach [] X.env)).all (fun x => x.1.isSome)
   && decide (([e]:List Expr).length + ([]:List Keyword).length + (if ([]:List Keyword).isEmpty then 0 else 1) < 30)) = true
 line:(apos.endLine == cpos.line) = true
 trees:backTo cpos (starEach [e] X.env) = [(false,eval e X.env)]
structure M2 (X:Cx) (o:Expr) (m:Str) (apos:Pos) (e f:Expr) (cpos:Pos):Prop where
 base:attributeBase o m X.env (eval o X.env) = eval o X.env
 few:((backTo cpos (starEach [e,f] X.env)).all (fun x => !x.1) && (backToKw cpos (keywordEach [] X.env)).all (fun x => x.1.isSome)
   && decide (([e,f]:List Expr).length + ([]:List Keyword).length + (if ([]:List Keyword).isEmpty then 0 else 1) < 30)) = true
 line:(apos.endLine == cpos.line) = true
 trees:backTo cpos (starEach [e,f] X.env) = [(false,eval e X.env),(false,eval f X.env)]
def IsD (H:Hp) (a:Addr):Prop:=(∃ kvs,Rd H a (.dK kvs)) \/ ∃ kvs,Rd H a (.dT kvs)
theorem isD_at {X:Cx} {pins:List (Addr × Obj)} {σ:St} {H:Hp} {s:Shared} {a:Addr} (I:Inv X pins σ H s) (d:IsD H a) :
   s.TypeIs (.ref a) "dict" /\ (∀ b,Value.ref a = .ref b -> ∃ ob,s.heap.get? b = some ob /\ ob.dict = none) /\ (a == sysModules) = false:=by
 rcases d with ⟨kvs,e⟩ | ⟨kvs,e⟩
 · obtain ⟨_, hd, vs, _, dd⟩ := vO I.hok e
   refine ⟨dd.typeIs,fun b q => ?_,hd⟩
   cases q
   obtain ⟨ob,_,_,h1,h2,_⟩:=dd
   exact ⟨ob,h1,h2.2.1⟩
 · obtain ⟨_, hd, xs, _, dd⟩ := wU I.hok e
   refine ⟨dd.typeIs,fun b q => ?_,hd⟩
   cases q
   obtain ⟨ob,_,_,h1,h2,_⟩:=dd
   exact ⟨ob,h1,h2.2.1⟩
section
variable {X:Cx} {pins:List (Addr × Obj)} {σ:St} {H:Hp} {s:Shared} {a:Addr} {y d:V} {u r:Value} {o:Option V} {A:Around} {E:Value -> Shared -> Prop}
theorem d_get2 {Q:Value -> Shared -> Prop} (hu:A.units + 1 < cLine) (I:Inv X pins σ H s) (g:DGet H a y o) (ry:RelV y u) (rd:RelV d r) (h:∀ w' s',Inv X pins σ H s' -> RelV (o.getD d) w' -> Q w' s') :
   wpAny (model X.prog X.w) A (call (.builtin "dict.get") [.ref a,u,r]) Q E s:=by
 rcases g with ⟨kvs,k,e,ey,l⟩ | ⟨kvs,k,b,e,ey,eb,l⟩
 · subst ey
   obtain ⟨z,hd,vs,rel,dd⟩:=vO I.hok e
   refine call_meetsIn PySem.F.slot_dict_get dd.typeIs PySem.F.entry_dict_get (PySem.F.args_dict_get_3 _ _ _) (meets_dict_get_default (yH X.prog X.w) a (vM ry) hd r) ⟨_,dd.mapOf,h _ _ (I.tok _) ?_⟩
   rw [l]
   exact (rel.val k).getD rd
 · subst ey
   cases (show u = Value.ref b from ry)
   obtain ⟨z,hd,xs,rel,dd⟩:=wU I.hok e
   refine call_meetsIn PySem.F.slot_dict_get dd.typeIs PySem.F.entry_dict_get (PySem.F.args_dict_get_3 _ _ _) (meetsH_dict_get_default (tupleKind (yH X.prog X.w)) a b hd r) ⟨tupleKind_room_in1 hu,k,xs,uL I.hok eb,dd,h _ _ (I.tok _) ?_⟩
   rw [l]
   exact (rel.val k).getD rd
end
def tDGet2 (td ty tx:TE):TE:=fun σ H Q => td σ H fun x H1 => ∃ a,x = .ref a /\ IsD H1 a /\ ty σ H1 fun y H2 => tx σ H2 fun z H3 => ∃ o,DGet H3 a y o /\ Q (o.getD z) H3
section
variable {X:Cx} {o e f:Expr} {apos cpos:Pos} {td ty tx:TE}
theorem pe_dget2 (hu:X.A.units + 1 < cLine) (ho:PE X o td) (he:PE X e ty) (hf:PE X f tx) (m:M2 X o "get" apos e f cpos):PE X (.Call (.Attribute o "get" apos) [e,f] [] cpos) (tDGet2 td ty tx):=by
 intro pins s σ H Q I h
 refine wpAny_Call_method m.base m.few m.line PySem.F.plainAttrs_dict PySem.F.slot_dict_get PySem.F.type_dict_get (thn (ho pins s σ H _ I h) fun u s1 ⟨x,H1,I1,rx,a,ex,d,q1⟩ => ?_)
 subst ex
 obtain rfl:u = Value.ref a:=rx
 obtain ⟨t1,t2,_⟩:=isD_at I1 d
 refine ⟨t1,t2,?_⟩
 rw [m.trees]
 refine Calls.callWith_builtin rfl (Calls.evalArgs_plain (Calls.spliced_cons (thn (he pins s1 σ H1 _ I1 q1) fun iv s2 ⟨y,H2,I2,ry,q2⟩ =>
   Calls.spliced_cons (thn (hf pins s2 σ H2 _ I2 q2) fun fv s3 ⟨z,H3,I3,rz,ov,g,q3⟩ => Calls.spliced_nil ?_))))
 exact d_get2 hu I3 g ry rz fun w' s4 I4 rw' => ⟨_,H3,I4,rw',q3⟩
end
section
variable {X:Cx} {pins:List (Addr × Obj)} {σ:St} {H:Hp} {s:Shared} {a:Addr} {kvs:List (Key × V)} {A:Around} {E:Value -> Shared -> Prop}
end
section
variable {X:Cx} {pins:List (Addr × Obj)} {σ:St} {H:Hp} {s:Shared} {a:Addr} {y:V} {u:Value} {A:Around} {E:Value -> Shared -> Prop}
end
end L2
namespace Att
open PySem PySem.W PySem.Calls PyProof.Rows
theorem vR {P:Params} {h:Heap}:∀ (ns:List Int) (vs:List Value),WellAll P h vs (ns.map WData.int) -> IntsAre vs ns:=by
 intro ns
 induction ns with
 | nil =>
   intro vs w
   rw [List.map_nil] at w
   cases w
   exact .nil
 | cons n ns ih =>
   intro vs w
   rw [List.map_cons] at w
   cases w with
   | cons a b =>
     cases a
     exact .cons _ _ (ih _ b)
theorem script_of {l:OpenLaw} {n:Nat} (hn:l.most = some n) {P:Params} {h:Heap} {args:List WData} {vals:List Value}
   (hpre:l.row.toRowW.claim.pre args = true) (hwl:WellAll P h vals args) :
   ∃ a vs ns,vals = [Value.ref a] /\ args = [WData.list (ns.map WData.int)] /\ h.get? a = some { cls:=.type "list",data:=.seq vs.toArray } /\ IntsAre vs ns /\ ns.length <= n:=by
 have hsh:WShape.hasAll [] args [.list .int] = true:=(pre_splitW hpre).1
 have hc:l.pre.holds [] { args:=args } = true:=(pre_splitW hpre).2
 obtain ⟨d,r,rfl,h1,h2⟩:=hasAllW_cons hsh
 obtain rfl:=hasAllW_nil h2
 obtain ⟨xs,rfl,h3⟩:=hasW_list h1
 obtain ⟨ns,rfl⟩:=items_int h3
 have hlen:ns.length <= n:=by
   unfold OpenLaw.pre at hc
   have h4:(WTm.not (.lt (.lit (.int (n:Int))) (.len (.arg 0)))).holds [] { args:=[.list (ns.map .int)] } = true:=by
     have h4:=(holds_andW hc).1
     rw [hn] at h4
     exact h4
   have h5:=condW_of h4 (w_not (w_lt w_lit (w_len_list (w_arg rfl))))
   rw [List.length_map] at h5
   refine Nat.le_of_not_lt fun q => ?_
   have q':(n:Int) < ((ns.length:Nat):Int):=by omega
   first
     | (rw [decide_eq_true q'] at h5; exact absurd h5 (by decide))
     | (simp at h5; omega)
 cases hwl with
 | cons w1 w2 =>
   cases w2
   cases w1 with
   | list ho hall => exact ⟨_,_,ns,rfl,rfl,ho,vR ns _ hall,hlen⟩
theorem post_true (l:OpenLaw) (args:List WData):l.row.toRowW.claim.post args (.bool true) args = true :=
 postW_of (r:=l.row.toRowW) (X:=(true == true))
   (show WShape.has [] (.bool true) .bool = true by first | rfl | decide | simp [WShape.has,WShape.arms,WShape.armsAll])
   (show (WTm.eq .res (.lit (.bool true))).value [] { args:=args,res:=some (.bool true),after:=args } = some (.bool (true == true)) from w_eq_bool (w_res rfl) w_lit) rfl
theorem attach_call {l:OpenLaw} {n:Nat} {q:Program} {loose:List Str} {XP:(Str -> Option Value) -> Heap -> Prop} {YP:World -> Heap -> Prop} {d:DefRec}
   (hn:l.most = some n) (hdf:d.params.defaults = [])
   (call:∀ (w:World) (s₀ s₁:Shared) (mg mb:Str -> Option Value) (fa:Addr) (o:Obj) (pm cd doc:Value) (a:Addr) (vs:List Value) (ns:List Int),
     Ground q loose [] XP w s₀ mg mb s₁.heap -> YP w s₁.heap ->
     s₁.heap.get? fa = some o -> o.data = .func (docDef d.name d.params d.body d.scope pm cd doc) -> s₁.heap.CodeRec cd d.name -> mg d.name = some (.ref fa) ->
     s₁.heap.get? a = some { cls:=.type "list",data:=.seq vs.toArray } -> IntsAre vs ns -> ns.length <= n -> s₁.gens = #[] ->
     codeAny (model l.prog w) callerA (.call (.ref fa) ⟨[.ref a],[]⟩) (fun r s' => r = .ok (.ret (.bool true)) /\ OldK s₁.heap s'.heap /\ s'.os = s₁.os /\ AllBare s'.gens) s₁) :
   WalkO q loose XP YP l.row.toRowW d [] (fun f vs => PySem.call f vs):=by
 intro w s₀ s₁ mg mb G Y fa o pm cd doc dV kV ho hd hcd hD hmg hg args vals as hpre hlay hrd hwl hlo
 obtain rfl:dV = .none:=Dflts.none hD hdf
 obtain rfl:kV = .none:=Dflts.noKw hD
 obtain ⟨a,vs,ns,rfl,rfl,hobj,hints,hlen⟩:=script_of hn hpre hwl
 refine enter_call (codeAny_mono (call w s₀ s₁ mg mb fa o pm cd doc a vs ns G Y ho (fd_plain hd) hcd hmg hobj hints hlen hg) fun r s' hq => ?_)
 obtain ⟨rfl,h2,h3,h4⟩:=hq
 exact ⟨.inl ⟨.bool true,.bool true,[],rfl,fun _ => rfl,.bool true,post_true l _,fun _ => ⟨List.Pairwise.nil,fun _ hm => (nomatch hm)⟩⟩,h2,h3,h4⟩
section
variable {prog:Program} {w:World} {A:Around} {E:Value -> Shared -> Prop} {s:Shared} {K:Frag}
end
end Att
namespace L2
open PySem PySem.Spec PyProof.Rows
theorem vals_ints:∀ {vs:List Value} {ns:List Int},IntsAre vs ns -> Vals (ns.map V.int) vs
 | _,_,.nil => .nil
 | _,_,.cons n t h => .cons ⟨t,rfl⟩ (vals_ints h)
def Only (H:Hp):Prop:=∀ b,H b = none \/ ∃ o xs,H b = some (.frz o (.lst xs))
theorem law_call {P:Program} {w:World} {K:PySem.W.Frag} {mg mb:Str -> Option Value} {CX:CXT} {k:Nat} {fa a:Addr} {fd:FuncData} {x:Str} {sp:Sp} {s₁:Shared} {vs:List Value} {ns:List Int}
   (KX:K.In s₁.heap) (hns:s₁.heap.Ns mainGlobals mg) (hb:s₁.heap.Ns builtinsNs mb) (hbb:∀ x:Str,x ≠ "__name__" -> mb x = bootBuiltins x) (hlim:s₁.heap.NoLimit) (hg:s₁.gens = #[])
   (ha:s₁.heap.get? a = some { cls:=.type "list",data:=.seq vs.toArray }) (hi:IntsAre vs ns) (hl:ns.length <= sizeLine) (hr:Room k callerA)
   (F:∀ base:Heap,K.In base -> base.Ns mainGlobals mg -> FnOk P w K mg base CX k fa fd [x] sp) (hbind:∀ (s:Shared) (u:Value),BindsTo s fd ⟨[u],[]⟩ [(x,u)])
   (hsp:∀ H:Hp,Only H -> SqL K H a (ns.map V.int) -> sp [.ref a] H (fun v _ => v = .bl true) fun _ _ _ => False)
   (hCX:∀ H e s',CX [] H s₁ (fun _ _ _ => False) e s' -> False) :
   codeAny (model P w) callerA (.call (.ref fa) ⟨[.ref a],[]⟩) (fun r s' => r = .ok (.ret (.bool true)) /\ OldK s₁.heap s'.heap /\ s'.os = s₁.os /\ AllBare s'.gens) s₁:=by
 have rv:=vals_ints hi
 have lenV:=hi.length
 have core : ∀ H : Hp, Only H -> SqL K H a (ns.map V.int) -> HOk P w H s₁.heap -> (∀ b, H b ≠ none -> b = a) -> (H a ≠ none -> K.lookup a = none) ->
     codeAny (model P w) callerA (.call (.ref fa) ⟨[.ref a],[]⟩) (fun r s' => r = .ok (.ret (.bool true)) /\ OldK s₁.heap s'.heap /\ s'.os = s₁.os /\ AllBare s'.gens) s₁:=by
   intro H hO hS hok hA hK
   have base_of:∀ {b:Addr} {o:Obj},s₁.heap.get? b = some o -> H b = none -> (ZY s₁.heap H).get? b = some o:=fun e n => hidT_get e n
   have noA:∀ {b:Addr} {o:Obj} {es:Array DictEntry} {ep:Nat},s₁.heap.get? b = some o -> o.data = .dict es ep -> H b = none:=fun {b o es ep} e d => by
     cases q:H b with
     | none => rfl
     | some u =>
       have e':b = a:=hA b (by rw [q]; simp)
       subst e'
       rw [ha] at e; cases e
       have d':Data.seq vs.toArray _ = Data.dict es ep:=d
       cases d'
   have nsK:∀ {b:Addr} {m:Str -> Option Value},s₁.heap.Ns b m -> (ZY s₁.heap H).Ns b m:=fun {b m} ⟨o,es,ep,e,d,r⟩ => ⟨o,es,ep,base_of e (noA e d),d,r⟩
   have hKb:K.In (ZY s₁.heap H):=fun b o e => base_of (KX b o e) (by
     cases q:H b with
     | none => rfl
     | some u =>
       have e':b = a:=hA b (by rw [q]; simp)
       subst e'
       rw [hK (by rw [q]; simp)] at e; cases e)
   have hM:Mod K mg (ZY s₁.heap H):=⟨hKb,nsK hns,⟨mb,nsK hb,hbb⟩,let ⟨mc,h1,h2⟩:=hlim; ⟨mc,nsK h1,h2⟩⟩
   have e0:Env0 P w K mg (ZY s₁.heap H) callerA [] s₁ H:=⟨rfl,hM,fun b o e => of_hidT e,Nat.le_of_eq (hidT_size _ _),trivial,fun b hb => absurd (show b ∈ ([]:List Addr) from hb) (by simp),hok,.of_eq hg⟩
   refine codeAny_mono ((F _ hKb (nsK hns)).run callerA [] s₁ H ⟨[.ref a],[]⟩ [.ref a] [.ref a] _ _ hr e0 (hbind s₁ (.ref a)) (.cons rfl .nil) (hsp H hO hS)) fun r s' h => ?_
   cases r with
   | error e => exact (hCX H e s' h).elim
   | ok fl =>
     cases fl with
     | next => exact False.elim h
     | brk => exact False.elim h
     | cont => exact False.elim h
     | ret u =>
       obtain ⟨v,H',os,bare,un,hok',r',q⟩:=h
       have q':v = .bl true:=q
       subst q'
       obtain rfl:u = Value.bool true:=r'
       refine ⟨rfl,OldK.of_keep fun b o e => ?_,os,bare⟩
       cases q:H b with
       | none => exact un.keep b o e q (by intro z; exact absurd (show b ∈ ([]:List Addr) from z) (by simp)) (by simp)
       | some u =>
         rcases hO b with z | ⟨ob,xs,z⟩
         · rw [q] at z; cases z
         · have z2 := un.frzs b ob _ z
           obtain ⟨e1,_⟩:=hok b _ z
           obtain ⟨e2,_⟩:=hok' b _ z2
           rw [e] at e1; cases e1
           exact e2
 cases hk:K.lookup a with
 | some o =>
   have e:=KX a o hk
   rw [ha] at e
   cases e
   refine core (fun _ => none) (fun _ => .inl rfl) (.inr ⟨_,vs.toArray,_,hk,rfl,rfl,rfl,by rw [List.size_toArray,lenV]; exact hl,by simpa using rv⟩) (fun b u z => by have z':(none:Option HO) = some u:=z; cases z') (fun b z => absurd rfl z) fun z => absurd rfl z
 | none =>
   refine core (fun b => if b = a then some (.frz { cls:=.type "list",data:=.seq vs.toArray } (.lst (ns.map V.int))) else none) (fun b => ?_) (.inl (.inr ⟨{ cls:=.type "list",data:=.seq vs.toArray },if_pos rfl⟩)) (fun b u z => ?_) (fun b z => ?_) fun _ => hk
   · by_cases hb : b = a
     · exact .inr ⟨_,_,if_pos hb⟩
     · exact .inl (if_neg hb)
   · by_cases hb : b = a
     · have z' := (if_pos hb).symm.trans z
       cases z'
       subst hb
       exact ⟨ha,by rw [List.length_map]; exact hl,vs,_,rv,ha⟩
     · have z' := (if_neg hb).symm.trans z
       cases z'
   · by_cases hb : b = a
     · exact hb
     · exact absurd (if_neg hb) z
theorem walk_of {l:PySem.W.OpenLaw} {n k:Nat} {q:Program} {loose:List Str} {XP:(Str -> Option Value) -> Heap -> Prop} {YP:World -> Heap -> Prop} {d:DefRec} {K:Params -> PySem.W.Frag} {CX:World -> CXT} {sp:World -> Sp} {x:Str}
   (hn:l.most = some n) (hn2:n <= sizeLine) (hdf:d.params.defaults = []) (hr:Room k callerA)
   (hY:∀ (w:World) (h:Heap),YP w h -> (K w.params).In h)
   (F:∀ (w:World) (mg:Str -> Option Value) (fa:Addr) (h:Heap),(K w.params).In h -> h.Ns mainGlobals mg -> mg d.name = some (.ref fa) ->
     ∃ fd : FuncData, (∀ (s : Shared) (u : Value), BindsTo s fd ⟨[u], []⟩ [(x, u)]) /\
       ∀ base:Heap,(K w.params).In base -> base.Ns mainGlobals mg -> FnOk l.prog w (K w.params) mg base (CX w) k fa fd [x] (sp w))
   (hsp:∀ (w:World) (H:Hp) (a:Addr) (ns:List Int),ns.length <= n -> Only H -> SqL (K w.params) H a (ns.map V.int) -> sp w [.ref a] H (fun v _ => v = .bl true) fun _ _ _ => False)
   (hCX:∀ (w:World) (H:Hp) (s:Shared) (e:Value) (s':Shared),CX w [] H s (fun _ _ _ => False) e s' -> False) :
   PySem.W.WalkO q loose XP YP l.row.toRowW d [] (fun f vs => PySem.call f vs):=by
 refine Att.attach_call hn hdf fun w s₀ s₁ mg mb fa o pm cd doc a vs ns G Y ho hd hcd hmg hobj hints hlen hg => ?_
 have KX:=hY w _ Y
 obtain ⟨fd,hb,hF⟩:=F w mg fa _ KX G.T.g hmg
 exact law_call KX G.T.g G.T.b G.T.builtins G.T.nolimit hg hobj hints (Nat.le_trans hlen hn2) hr hF hb (fun H hO hS => hsp w H a ns hlen hO hS) fun H e s' => hCX w H s₁ e s'
def vZ (s:Stmt) (j:Nat):Stmt:=match s with
 | .ClassDef _ _ _ body _ _ _ _ _ _ _ => body.getD j (.Pass ⟨0,0,0,0⟩)
 | _ => .Pass ⟨0,0,0,0⟩
def zT (s:Stmt):Arguments:=match s with
 | .FunctionDef _ a _ _ _ _ _ _ _ _ => a
 | _ => { posonlyargs:=[],args:=[],vararg:=none,kwonlyargs:=[],kw_defaults:=[],kwarg:=none,defaults:=[] }
def zS (s:Stmt):List Stmt:=match s with
 | .FunctionDef _ _ b _ _ _ _ _ _ _ => b
 | _ => []
def zG (s:Stmt):Scope:=match s with
 | .FunctionDef _ _ _ _ _ _ sc _ _ _ => sc
 | _ => { kind:=.function,names:=[],isGenerator:=false,isCoroutine:=false }
abbrev CX0:CXT:=fun _ _ _ _ _ _ => False
abbrev E0:XK:=fun _ _ _ => False
theorem pass0 {X:Cx}:vH CX0 X E0:=fun _ _ _ _ _ _ _ h => h.elim
structure Fun (K:PySem.W.Frag) (x qual:Str) (st:Stmt) (f:Addr) (fd:FuncData):Prop where
 ex:∃ (oc:Value) (od:Option Addr) (kV doc pm:Value) (an:Option Addr) (cdv ct:Value) (osl:Array (Option Value)),
   fd = PySem.W.fnOf x qual (zT st) (zS st) (zG st) .none kV doc pm an cdv ct /\ K.lookup f = some ⟨oc,od,.func fd,osl⟩ /\ PySem.W.codeIn K cdv qual = true
 kp:PySem.W.keepIn K (.ref f) = true
section
variable {P:Program} {w:World} {K:PySem.W.Frag} {mg:Str -> Option Value} {base:Heap}
theorem Fun.ok {x qual:Str} {st:Stmt} {f:Addr} {fd:FuncData} {N ps:List Str} {k:Nat} {sp:Sp} (F:Fun K x qual st f fd) (S:FnScope N ps (zG st)) (len:∀ vs H Q E,sp vs H Q E -> vs.length = ps.length)
   (hbody:∀ (cdv:Value) (A:Around) (outer:List Env) (s:Shared) (H:Hp) (vs:List V) (Q:VK) (E:XK),Room k (A.deeper (envOfC qual (zG st) s.heap.objs.size f cdv)) -> sp vs H Q E ->
     ∃ t,PSs (kE CX0 P w K mg base N qual (zG st) f cdv A outer s H E).nox (zS st) t /\ t { nx:=fun _ H' => Q .non H',rt:=Q } (start N vs) H):FnOk P w K mg base CX0 (k + 1) f fd ps sp:=by
 obtain ⟨oc,od,kV,doc,pm,an,cdv,ct,osl,rfl,lk,hcd⟩:=F.ex
 refine fn_of lk hcd S len fun A outer s H vs Q E hr hsp => ?_
 obtain ⟨t,h,q⟩:=hbody cdv A outer s H vs Q E hr hsp
 exact ⟨t,h.nox,q⟩
theorem Fun.binds {x qual:Str} {st:Stmt} {f:Addr} {fd:FuncData} {ps:List Str} (F:Fun K x qual st f fd)
   (h:∀ (kV doc pm:Value) (an:Option Addr) (cdv ct:Value) (us:List Value),us.length = ps.length -> bindArgs (PySem.W.fnOf x qual (zT st) (zS st) (zG st) .none kV doc pm an cdv ct) ⟨us,[]⟩ = pure (ps.zip us)):Binds K fd ps []:=by
 obtain ⟨oc,od,kV,doc,pm,an,cdv,ct,osl,rfl,lk,hcd⟩:=F.ex
 exact .all (h kV doc pm an cdv ct)
theorem yD {x qual:Str} {st:Stmt} {f:Addr} {oc:Value} {od an:Option Addr} {osl:Array (Option Value)} {kV doc pm cdv ct:Value} (l:K.lookup f = some ⟨oc,od,.func (PySem.W.fnOf x qual (zT st) (zS st) (zG st) .none kV doc pm an cdv ct),osl⟩)
   (c:PySem.W.codeIn K cdv qual = true) (k:PySem.W.keepIn K (.ref f) = true):Fun K x qual st f (PySem.W.fnOf x qual (zT st) (zS st) (zG st) .none kV doc pm an cdv ct):=⟨⟨oc,od,kV,doc,pm,an,cdv,ct,osl,rfl,l,c⟩,k⟩
end
theorem jH {A:Around} {k:Nat} (hr:Room k A):A.units + 1 < cLine:=Nat.lt_of_le_of_lt (Nat.add_le_add_left (by decide:1 <= 64) _) hr.units
theorem qX {n:Nat} (h:n <= 1000):n < sizeLine:=Nat.lt_of_le_of_lt h (by decide)
section
variable {X:Cx}
theorem pv (i:Nat) {x:Str} {pos:Pos} (hN:X.N[i]? = some x:=by rfl) (hv:Vis X.env.scope x:=by first | exact Or.inl rfl | exact Or.inr (Or.inl rfl) | exact Or.inr (Or.inr rfl)) (hd:(x == ("__debug__" : Str)) = false:=by decide)
   (hcd:(x == ("__classdict__" : Str)) = false:=by decide):PE X (.Name x pos) (tVar i):=pe_var hN hv hd hcd
end
theorem iteF {A B:Prop} (h:B):if false = true then A else B:=by
 rw [if_neg Bool.false_ne_true]
 exact h
theorem iteT {A B:Prop} (h:A):if true = true then A else B:=by
 rw [if_pos rfl]
 exact h
def Same (H H':Hp):Prop:=∀ b o,H b = some o -> H' b = some o
theorem Same.refl (H:Hp):Same H H:=fun _ _ h => h
theorem Same.trans {H H1 H2:Hp} (a:Same H H1) (b:Same H1 H2):Same H H2:=fun c o h => b c o (a c o h)
theorem Same.free {H H':Hp} (e:Same H H') {l:Addr} (h:H' l = Option.none):H l = Option.none:=by
 cases q:H l with
 | none => rfl
 | some o =>
   rw [e l o q] at h
   cases h
theorem Same.seq {K:PySem.W.Frag} {H H':Hp} {a:Addr} {xs:List V} (e:Same H H') (h:SqL K H a xs):SqL K H' a xs:=by
 rcases h with (h | ⟨o,h⟩) | h
 · exact .inl (.inl (e _ _ h))
 · exact .inl (.inr ⟨o,e _ _ h⟩)
 · exact .inr h
section
variable {X:Cx}
end
section
variable {κ:Type} [DecidableEq κ]
end
def xO (env:Env):List (Str × NameKind) -> List (Str × Addr) -> List (Str × Addr)
 | [],cs => cs
 | (n,k) :: r,cs => if (k == NameKind.free) = true then xO env r ((n,(env.cells.lookup n).getD 0) :: cs) else xO env r cs
theorem uF {scope:Scope} {env:Env} (h:∀ x ∈ scope.names,x.2 = .free -> ∃ c,env.cells.lookup x.1 = some c):closureFor scope env = pure (xO env scope.names []):=by
 unfold closureFor
 have go:∀ (l:List (Str × NameKind)) (cs:List (Str × Addr)),(∀ x ∈ l,x.2 = .free -> ∃ c,env.cells.lookup x.1 = some c) ->
     (forIn l cs fun (x:Str × NameKind) (r:List (Str × Addr)) => (match x with
       | (name,kind) => if (kind == NameKind.free) = true then do let a ← cellOf env name; pure (ForInStep.yield ((name,a) :: r)) else pure (ForInStep.yield r):Sem (ForInStep (List (Str × Addr))))) = (pure (xO env l cs):Sem (List (Str × Addr))):=by
   intro l
   induction l with
   | nil => intro cs _; rfl
   | cons x r ih =>
     intro cs hl
     obtain ⟨n,k⟩:=x
     rw [List.forIn_cons]
     by_cases hk:(k == NameKind.free) = true
     · obtain ⟨c, hc⟩ := hl (n, k) List.mem_cons_self (by simpa using hk)
       have e:cellOf env n = pure c:=by unfold cellOf; rw [hc]
       simp only [hk,if_true,e,pure_bind]
       rw [ih _ fun y hy => hl y (List.mem_cons_of_mem _ hy)]
       rw [xO,if_pos hk,hc]
       rfl
     · simp only [hk, if_false, Bool.false_eq_true, pure_bind]
       rw [ih _ fun y hy => hl y (List.mem_cons_of_mem _ hy)]
       rw [xO,if_neg hk]
 have q:=go scope.names [] h
 simp only [pure_bind,bind_pure] at q ⊢
 exact q
theorem qE {env:Env} {y:Str} {c:Addr}:∀ (l:List (Str × NameKind)) (cs:List (Str × Addr)),(∀ x ∈ l,x.2 = .free -> ∃ c,env.cells.lookup x.1 = some c) ->
   (∀ z d,cs.lookup z = some d -> env.cells.lookup z = some d) -> (xO env l cs).lookup y = some c -> env.cells.lookup y = some c
 | [],cs,_,hc,e => hc _ _ e
 | (n, k) :: r, cs, h, hc, e => by
   have hr:∀ x ∈ r,x.2 = .free -> ∃ c,env.cells.lookup x.1 = some c:=fun x hx => h x (List.mem_cons_of_mem _ hx)
   by_cases hk:(k == NameKind.free) = true
   · rw [xO, if_pos hk] at e
     refine qE r _ hr (fun z d ez => ?_) e
     obtain ⟨c',hc'⟩:=h (n,k) List.mem_cons_self (by simpa using hk)
     rw [List.lookup_cons] at ez
     cases hz:z == n with
     | true =>
       rw [hz] at ez
       have hz':z = n:=eq_of_beq hz
       subst hz'
       have e2:(env.cells.lookup z).getD 0 = d:=Option.some.inj ez
       have hc'':env.cells.lookup z = some c':=hc'
       rw [hc''] at e2 ⊢
       exact congrArg some e2
     | false => rw [hz] at ez; exact hc z d ez
   · rw [xO, if_neg hk] at e
     exact qE r cs hr hc e
theorem uA {env:Env} {y:Str}:∀ (l:List (Str × NameKind)) (cs:List (Str × Addr)),((y,NameKind.free) ∈ l \/ ∃ c,cs.lookup y = some c) -> ∃ c,(xO env l cs).lookup y = some c
 | [],cs,h => h.elim (fun z => nomatch z) fun z => z
 | (n, k) :: r, cs, h => by
   by_cases hk:(k == NameKind.free) = true
   · rw [xO, if_pos hk]
     refine uA r _ ?_
     rcases h with h | ⟨c,h⟩
     · rcases List.mem_cons.mp h with h | h
       · cases h
         exact .inr ⟨_,by rw [List.lookup_cons,beq_self_eq_true]⟩
       · exact .inl h
     · cases hz : y == n with
       | true => exact .inr ⟨_,by rw [List.lookup_cons,hz]⟩
       | false => exact .inr ⟨c,by rw [List.lookup_cons,hz]; exact h⟩
   · rw [xO, if_neg hk]
     refine uA r _ ?_
     rcases h with h | h
     · rcases List.mem_cons.mp h with h | h
       · cases h
         exact absurd rfl hk
       · exact .inl h
     · exact .inr h
theorem jF {env:Env}:∀ {names:List (Str × NameKind)} {x:Str} {k':NameKind},
   (names.map fun (n,k) => if (k == NameKind.free && env.scope.kind == .function && env.kindOf n == some .cell) then (n,NameKind.cell) else (n,k)).lookup x = some k' ->
   names.lookup x = some k' \/ (names.lookup x = some .free /\ k' = .cell)
 | [],_,_,h => by simp at h
 | (n, k) :: r, x, k', h => by
   have ih:=@jF env r x k'
   have h:List.lookup x ((if (k == NameKind.free && env.scope.kind == .function && env.kindOf n == some .cell) = true then (n,NameKind.cell) else (n,k)) :: _) = some k':=h
   rw [List.lookup_cons]
   by_cases hc:(k == NameKind.free && env.scope.kind == .function && env.kindOf n == some .cell) = true
   · rw [if_pos hc, List.lookup_cons] at h
     cases hx:x == n with
     | true =>
       rw [hx] at h
       have e1:NameKind.cell = k':=Option.some.inj h
       simp only [Bool.and_eq_true] at hc
       exact .inr ⟨congrArg some (eq_of_beq hc.1.1),e1.symm⟩
     | false => rw [hx] at h; exact ih h
   · rw [if_neg hc, List.lookup_cons] at h
     cases hx:x == n with
     | true => rw [hx] at h; exact .inl h
     | false => rw [hx] at h; exact ih h
theorem uS {env:Env}:∀ {names:List (Str × NameKind)} {x:Str},names.lookup x = some .free ->
   (names.map fun (n,k) => if (k == NameKind.free && env.scope.kind == .function && env.kindOf n == some .cell) then (n,NameKind.cell) else (n,k)).lookup x = some .cell \/
   (names.map fun (n,k) => if (k == NameKind.free && env.scope.kind == .function && env.kindOf n == some .cell) then (n,NameKind.cell) else (n,k)).lookup x = some .free
 | [],_,h => by simp at h
 | (n, k) :: r, x, h => by
   have ih:=@uS env r x
   show List.lookup x ((if (k == NameKind.free && env.scope.kind == .function && env.kindOf n == some .cell) = true then (n,NameKind.cell) else (n,k)) :: _) = _ \/ List.lookup x ((if (k == NameKind.free && env.scope.kind == .function && env.kindOf n == some .cell) = true then (n,NameKind.cell) else (n,k)) :: _) = _
   rw [List.lookup_cons] at h
   by_cases hc:(k == NameKind.free && env.scope.kind == .function && env.kindOf n == some .cell) = true
   · rw [if_pos hc, List.lookup_cons]
     cases hx:x == n with
     | true => exact .inl rfl
     | false => rw [hx] at h; exact ih h
   · rw [if_neg hc, List.lookup_cons]
     cases hx:x == n with
     | true => rw [hx] at h; exact .inr h
     | false => rw [hx] at h; exact ih h
structure LcScope (xs ys:List Str) (scope around:Scope):Prop where
 kind:scope.kind = .function
 nd:(xs ++ ys).Nodup
 own:∀ x ∈ xs,scope.names.lookup x = some .local
 cap:∀ y ∈ ys,scope.names.lookup y = some .free /\ (around.names.lookup y = some .cell \/ around.names.lookup y = some .free)
 nocell:∀ y ∈ scope.names,y.2 ≠ .cell
 names:∀ y ∈ scope.names,y.2 = .local -> scope.names.lookup y.1 = some .local
 free:∀ y ∈ scope.names,y.2 = .free -> y.1 ∈ ys
def yQ (X:Cx) (xs ys:List Str) (scope:Scope) (C:Addr) (s₀:Shared) (H₀:Hp) (fp:List Addr):Cx where
 prog:=X.prog
 w:=X.w
 K:=X.K
 mg:=X.mg
 base:=X.base
 A:=X.A
 N:=xs ++ ys
 s₀:=s₀
 H₀:=H₀
 env:=compEnvC scope (xO X.env scope.names []) C X.env
 outer:=X.stack
 stack:=X.stack
 ex:=fp
 fn:=fun _ => false
 calm:=X.calm
 pn:=[]
 xe:=fun _ _ => False
def lcSt (xs:List Str) (js:List Nat) (σ:St):St:=xs.map (fun _ => none) ++ js.map fun j => (σ[j]?).join
def LcW (J:It) (n:List Str) (js:List Nat) (g:TG) (tc:Option TT) (te:TE) (σ:St) (H1:Hp) (Q:VK):Prop:=∃ W:Nat -> Nat -> List V -> St -> Hp -> Prop,(∃ m,W 0 m [] (lcSt n js σ) H1) /\ ∀ i m ys σ1 H,W i m ys σ1 H ->
 (J.stop i H /\ ∀ p,H p = none -> Q (.ref p) (upd H p (.lst ys))) \/
 (J.go i H /\ ys.length < sizeLine /\ ∀ x H',J.yld i H x H' -> g x σ1 H' fun σ2 H2 => match tc with
   | none => te σ2 H2 fun y H3 => ∃ m',m' < m /\ W (i + 1) m' (ys ++ [y]) σ2 H3
   | some c => c σ2 H2 fun b H3 => if b = true then te σ2 H3 fun y H4 => ∃ m',m' < m /\ W (i + 1) m' (ys ++ [y]) σ2 H4 else ∃ m',m' < m /\ W (i + 1) m' ys σ2 H3)
def tLC (n:List Str) (js:List Nat) (wi:TI) (g:TG) (tc:Option TT) (te:TE):TE:=fun σ H Q => wi σ H fun J H1 => LcW J n js g tc te σ H1 Q
def PIf (X:Cx) (ifs:List Expr) (tc:Option TT):Prop:=match ifs,tc with
 | [],none => True
 | [c],some t => PT X c t
 | _,_ => False
section
variable {X:Cx} {pins:List (Addr × Obj)} {σ:St} {H:Hp} {s:Shared} {xs ys:List Str} {scope:Scope} {fp:List Addr} {C D:Addr} {js:List Nat}
def Caps (X:Cx) (ys:List Str) (js:List Nat):Prop:=js.length = ys.length /\ ∀ (i:Nat) (y:Str) (j:Nat),ys[i]? = some y -> js[i]? = some j -> X.N[j]? = some y
theorem YG (I:Inv X pins σ H s) (S:LcScope xs ys scope X.env.scope):∀ x ∈ scope.names,x.2 = .free -> ∃ c,X.env.cells.lookup x.1 = some c:=fun x hx hf =>
 I.ok.has x.1 ((S.cap x.1 (S.free x hx hf)).2.elim .inl .inr)
theorem clos_look (I:Inv X pins σ H s) (S:LcScope xs ys scope X.env.scope) {y:Str} {c:Addr} (e:(xO X.env scope.names []).lookup y = some c):X.env.cells.lookup y = some c :=
 qE scope.names [] (YG I S) (fun _ _ z => nomatch z) e
theorem block_start (I:Inv X pins σ H s) (S:LcScope xs ys scope X.env.scope) (hj:Caps X ys js) (f2:∀ b ∈ fp,vI X pins H b) (fo:∀ b ∈ fp,b < s.heap.objs.size)
   {h₁:Heap} {m:Str -> Option Value} {tk:Nat} {oD:Obj} (hC:s.heap.objs.size <= C) (hD:s.heap.objs.size <= D) (hDC:D ≠ C) (hn:h₁.Ns C m) (hd:h₁.get? D = some oD) (hdd:∀ v,oD.data ≠ .cell v)
   (old:∀ b o,s.heap.get? b = some o -> h₁.get? b = some o) :
   Inv (yQ X xs ys scope C s H fp) [(D,oD)] (lcSt xs js σ) H { s with heap:=h₁,toks:=tk }:=by
 have cl:=fun y c => clos_look (y:=y) (c:=c) I S
 have nC:H C = none:=I.hok.fresh hC
 have nD:H D = none:=I.hok.fresh hD
 have lt_of:∀ {b:Addr},b < s.heap.objs.size -> b ≠ C:=fun hb => Nat.ne_of_lt (Nat.lt_of_lt_of_le hb hC)
 have fsub:∀ b,b ∈ frs X.stack -> b ∈ X.env.locals :: X.fs:=I.stkSub
 refine ⟨⟨I.ok.mod,?_,I.ok.glob,I.ok.blt,hC,fun x y c h1 h2 => I.ok.inj x y c (cl x c h1) (cl y c h2),fun x hx => ?_,(fun x c h => nomatch h),I.ok.hd,I.ok.frames,.inl rfl,fun b hb => ⟨lt_of (fo b hb),fun x c h => (f2 b hb).2.2.2.2.1 x c (cl x c h)⟩,I.bs,
   Nat.le_trans I.ok.bsz I.sz,fun b o e hb => ?_,fun b hb hf => ?_,I.stack,I.stkFree⟩,
   rfl,I.bare,Un.kept old,⟨m,hn,fun i x v e1 e2 e3 => ?_⟩,fun x c h => ?_,nC,fun x c h => I.freeC x c (cl x c h),fun p hp => ?_,I.hok.kept old,?_⟩
 · show scope.kind = _
   exact S.kind
 · have hx : (relabel scope X.env).names.lookup x = some .cell \/ (relabel scope X.env).names.lookup x = some .free := hx
   have hm:(x,NameKind.free) ∈ scope.names:=by
     rcases hx with hx | hx
     · rcases jF hx with z | z
       · exact absurd rfl (S.nocell _ (PySem.mem_of_lookup z))
       · exact PySem.mem_of_lookup z.1
     · rcases jF hx with z | z
       · exact PySem.mem_of_lookup z
       · exact nomatch z.2
   exact uA scope.names [] (.inl hm)
 · rcases (f2 b hb).2.2.2.1 with z | z
   · exact I.ok.noex b o e z
   · exact absurd (Nat.lt_of_lt_of_le (Heap.lt_size e) (Nat.le_trans I.ok.bsz z)) (Nat.lt_irrefl _)
 · rcases List.mem_cons.mp (fsub b hf) with z | z
   · exact (f2 b hb).2.1 z
   · exact (f2 b hb).2.2.1 z
 · have e1 : (xs ++ ys)[i]? = some x := e1
   have e2:(xs.map (fun _ => (none:Option V)) ++ js.map fun j => (σ[j]?).join)[i]? = some (some v):=e2
   by_cases hi:i < xs.length
   · rw [List.getElem?_append_left (by simpa using hi), List.getElem?_map] at e2
     cases q:xs[i]? with
     | none => rw [q] at e2; cases e2
     | some z => rw [q] at e2; cases e2
   · rw [List.getElem?_append_right (by simpa using hi), List.length_map, List.getElem?_map] at e2
     rw [List.getElem?_append_right (by simpa using hi)] at e1
     cases q:js[i - xs.length]? with
     | none => rw [q] at e2; cases e2
     | some j =>
       rw [q] at e2
       have e2':(σ[j]?).join = some v:=Option.some.inj e2
       have hy:=hj.2 _ _ _ e1 q
       have hσ:σ[j]? = some (some v):=by
         cases z:σ[j]? with
         | none => rw [z] at e2'; cases e2'
         | some t => rw [z] at e2'; exact congrArg some e2'
       have ym:x ∈ ys:=List.mem_of_getElem? e1
       obtain ⟨cf,ca⟩:=S.cap x ym
       obtain ⟨m0,_,hl⟩:=I.loc
       obtain ⟨u,ru,lk⟩:=hl j x v hy hσ (ca.elim (fun z => .inr (.inl z)) fun z => .inr (.inr z))
       refine ⟨u,ru,.inr ⟨?_,?_⟩⟩
       · exact uS (env:=X.env) cf
       · rcases lk with ⟨k, _⟩ | ⟨_, c, ec, zc⟩
         · have k : X.env.scope.names.lookup x = some .local := k
           rcases ca with z | z <;> · rw [k] at z; cases z
         · obtain ⟨c', ec'⟩ := uA (env := X.env) (y := x) scope.names [] (.inl (PySem.mem_of_lookup cf))
           have e3:=cl x c' ec'
           rw [ec] at e3
           cases e3
           obtain ⟨o,ho,hod⟩:=zc
           exact ⟨_,ec',o,old _ _ ho,hod⟩
 · obtain ⟨v, o, ho, hod⟩ := I.cell x c (cl x c h)
   exact ⟨v,o,old _ _ ho,hod⟩
 · have hp : p ∈ [(D, oD)] := by simpa [yQ] using hp
   have e:=List.mem_singleton.mp hp
   subst e
   refine ⟨hd,nD,hDC,fun hf => ?_,hdd⟩
   have hf:D ∈ frs X.stack:=hf
   obtain ⟨o,ho⟩:∃ o,s.heap.get? D = some o:=by
     rcases List.mem_cons.mp (fsub D hf) with z | z
     · obtain ⟨m0, ⟨o, _, _, ho, _⟩, _⟩ := I.loc
       have z:D = X.env.locals:=z
       exact ⟨o,z ▸ ho⟩
     · exact absurd z (I.nofs hD)
   exact absurd (Heap.lt_size ho) (Nat.not_lt.mpr hD)
 · show (xs.map (fun _ => (none : Option V)) ++ js.map fun j => (σ[j]?).join).length = (xs ++ ys).length
   rw [List.length_append,List.length_append,List.length_map,List.length_map,hj.1]
end
section
variable {X:Cx} {pins:List (Addr × Obj)} {σ:St} {H:Hp} {s:Shared} {xs ys:List Str} {scope:Scope} {js:List Nat} {tg iter elt:Expr} {ifs:List Expr} {pos:Pos} {wi:TI} {g:TG} {tc:Option TT} {te:TE}
theorem kH {α:Type} {M:Model} {A:Around} {t:Sem α} {Q:α -> Shared -> Prop} {E:Value -> Shared -> Prop} {s:Shared} (h:wpAny M A t Q (fun _ _ => False) s):wpAny M A t Q E s:=wpAny_mono h (fun _ _ x => x) fun _ _ z => z.elim
theorem YF {prog : Program} {w : World} {A : Around} {R : Result -> Shared -> Prop} {it acc : Value} {env : Env} (J : Nat -> Shared -> Prop)
   (turn : ∀ n s, J n s -> wpAny (model prog w) A (pyNext it) (fun r s₁ => match r with
     | none => R (.ok .next) s₁
     | some v => wpAny (model prog w) A (letOwnedTupleGo tg it v) (fun _ s₁' => wpAny (model prog w) A (assign tg env v) (fun _ s₂ =>
         wpAny (model prog w) A (forIn ifs true fun c r => if r = true then do let ok ← isTrue c env (eval c env); pure (ForInStep.yield ok) else pure (ForInStep.yield r)) (fun ok s₃ =>
           if ok = true then wpAny (model prog w) A (eval elt env) (fun x s₄ =>
             wpAny (model prog w) A (call (.builtin "list.append") [acc,x]) (fun _ s₅ => ∃ m,m < n /\ J m s₅) (fun _ _ => False) s₄) (fun _ _ => False) s₃
           else ∃ m,m < n /\ J m s₃) (fun _ _ => False) s₂) (fun _ _ => False) s₁') (fun _ _ => False) s₁) (fun _ _ => False) s)
   (n:Nat) (h:J n s):codeAny (model prog w) A (.compLoop (.ListComp elt [⟨tg,iter,ifs,0⟩] scope pos) 0 it acc env) R s:=by
 refine codeAny_loop rfl J (fun n s hI => ?_) n h
 show wpAny _ A ((compTurn (.ListComp elt [⟨tg,iter,ifs,0⟩] scope pos) 0 it acc env).onRaise (fun x => do noteFrame x env; theTreesLotGoes x)) _ _ s
 refine wpAny_noted ?_
 rw [compTurn_list]
 refine wpAny_bind (wpAny_standAt (wpAny_bind (kH (thn (turn n s hI) fun r s₁ h₁ => ?_))))
 cases r with
 | none => exact wpAny_pure h₁
 | some v =>
   refine wpAny_bind (kH (thn h₁ fun _ s₁' h₁' => wpAny_bind (kH (thn h₁' fun _ s₂ h₂ => wpAny_bind (kH (thn h₂ fun ok s₃ h₃ => ?_))))))
   cases ok with
   | false => exact wpAny_pure ⟨rfl,h₃⟩
   | true => exact wpAny_bind (wpAny_bind (kH (thn h₃ fun x s₄ h₄ => wpAny_bind (kH (thn h₄ fun _ s₅ h₅ => wpAny_pure (wpAny_pure ⟨rfl,h₅⟩))))))
structure LcEnd (X:Cx) (pins:List (Addr × Obj)) (σ:St) (C:Addr) (H':Hp) (s':Shared):Prop where
 inv:Inv X pins σ H' s'
 ns:∃ m,s'.heap.Ns C m
 free:H' C = none
 ne:C ≠ X.env.locals
 up:X.s₀.heap.objs.size <= C
 cells:∀ x c,X.env.cells.lookup x = some c -> c ≠ C
 pin:∀ p ∈ X.pn ++ pins,p.1 ≠ C
theorem LcEnd.gone {C:Addr} {H':Hp} {s':Shared} (L:LcEnd X pins σ C H' s') {h':Heap} (hs:Heap.SameBut C s'.heap h'):Inv X pins σ H' { s' with heap:=h' } :=
 L.inv.turned (t':=s'.toks) (fun b o hb e => hs.extBut b o hb e) L.free L.ne (.inr L.up) L.cells L.pin
theorem lc_core (hc:X.calm = true) (S:LcScope xs ys scope X.env.scope) (hj:Caps X ys js) (hi:PI X tg iter wi)
   (hg:∀ C s₀ H₀ fp,PG (yQ X xs ys scope C s₀ H₀ fp) tg g) (hif:∀ C s₀ H₀ fp,PIf (yQ X xs ys scope C s₀ H₀ fp) ifs tc) (he:∀ C s₀ H₀ fp,PE (yQ X xs ys scope C s₀ H₀ fp) elt te)
   {RR:Value -> Addr -> Result -> Shared -> Prop} {Q:VK} (I:Inv X pins σ H s) (h:tLC xs js wi g tc te σ H Q)
   (fin:∀ D C H' s',LcEnd X pins σ C H' s' -> Q (.ref D) H' -> RR (.ref D) C (.ok .next) s') :
   wpAny (model X.prog X.w) X.A (eval iter X.env) (fun x s₁ => wpAny (model X.prog X.w) X.A (pyIter x) (fun it s₂ => wpAny (model X.prog X.w) X.A (newList []) (fun acc s₃ =>
     wpAny (model X.prog X.w) X.A (newFunctionEnv scope X.env.globals (xO X.env scope.names []) [] X.env.qual none .none (some X.env)) (fun cenv s₄ =>
       codeAny (model X.prog X.w) X.A (.compStart (.ListComp elt [⟨tg,iter,ifs,0⟩] scope pos) 0 it acc { cenv with scope:=relabel scope X.env }) (RR acc cenv.locals) s₄) X.xe s₃) X.xe s₂) X.xe s₁) X.xe s:=by
 refine thn (hi pins s σ H _ I h) fun v s1 h1 => thn h1 fun itv s2 h2 => ?_
 obtain ⟨it,fp,tn,J,H2,e,I2,T,st2,f2,W,⟨m0,w0⟩,turn⟩:=h2
 subst e
 have fo:∀ b ∈ fp,b < s2.heap.objs.size:=fun b hb => let ⟨o,e,_⟩:=T.obj _ _ st2 b hb; Heap.lt_size e
 refine wpAny_newObj_type (wpAny_newFunctionEnv S.nocell (by intro y hy; simp at hy) (fun h₁ hns₁ hsb₁ => ?_) S.kind)
 dsimp only at hns₁ hsb₁ ⊢
 generalize hH2:s2.heap.push { cls:=.type "list",dict:=none,data:=.seq ([]:List Value).toArray } = G at hns₁ hsb₁ ⊢
 have hC:G.objs.size = s2.heap.objs.size + 1:=by rw [← hH2,Heap.size_push]
 have hDC:s2.heap.objs.size ≠ G.objs.size:=by rw [hC]; exact Nat.ne_of_lt (Nat.lt_succ_self _)
 have hCle:s2.heap.objs.size <= G.objs.size:=by rw [hC]; exact Nat.le_succ _
 have below:∀ b,b < s2.heap.objs.size -> b ≠ G.objs.size /\ b ≠ s2.heap.objs.size:=fun b hb => ⟨by rw [hC]; exact Nat.ne_of_lt (Nat.lt_succ_of_lt hb),Nat.ne_of_lt hb⟩
 have old:∀ b o,s2.heap.get? b = some o -> h₁.get? b = some o:=fun b o e => hsb₁.extBut b o (below b (Heap.lt_size e)).1 (Heap.get?_push_of_some _ (hH2 ▸ Heap.get?_push_of_some _ e))
 have hacc:h₁.get? s2.heap.objs.size = some (LCg.lst []):=hsb₁.extBut _ _ hDC (Heap.get?_push_of_some _ (hH2 ▸ Heap.get?_push_size _ rfl))
 have st₁:tn 0 h₁:=T.keep _ _ _ st2 fun b _ o e => old b o e
 have I3:=block_start (C:=G.objs.size) (D:=s2.heap.objs.size) (tk:=s2.toks + ([]:List (Str × Value)).length) I2 S hj f2 fo hCle (Nat.le_refl _) hDC hns₁ hacc (by intro v hv; cases hv) old
 generalize hX:yQ X xs ys scope G.objs.size s2 H2 fp = B at I3
 have pB:B.prog = X.prog:=by rw [← hX]; rfl
 have wB:B.w = X.w:=by rw [← hX]; rfl
 have kB:B.K = X.K:=by rw [← hX]; rfl
 have aB:B.A = X.A:=by rw [← hX]; rfl
 have eB:B.env = compEnvC scope (xO X.env scope.names []) G.objs.size X.env:=by rw [← hX]; rfl
 have cB:B.calm = true:=by rw [← hX]; exact hc
 have xB:B.xe = fun _ _ => False:=by rw [← hX]; rfl
 have gB:PG B tg g:=by rw [← hX]; exact hg _ _ _ _
 have iB:PIf B ifs tc:=by rw [← hX]; exact hif _ _ _ _
 have elB:PE B elt te:=by rw [← hX]; exact he _ _ _ _
 have sB:B.s₀ = s2:=by rw [← hX]; rfl
 have hB:B.H₀ = H2:=by rw [← hX]; rfl
 have fB:B.fs = frs X.stack:=by rw [← hX]; rfl
 have exB:B.ex = fp:=by rw [← hX]; rfl
 have pnB:B.pn = []:=by rw [← hX]; rfl
 have statB:∀ {H':Hp} {oD:Obj} {σ':St} {s':Shared},Inv B [(s2.heap.objs.size,oD)] σ' H' s' -> (∀ b ∈ fp,H' b = none) -> ∀ b ∈ fp,vI B [(s2.heap.objs.size,oD)] H' b:=fun {H' oD σ' s'} I' hn b hb =>
   ⟨hn b hb,(I'.ok.exf b (exB ▸ hb)).1,I'.ok.exfs b (exB ▸ hb),.inl (exB ▸ hb),(I'.ok.exf b (exB ▸ hb)).2,fun p hp => by
     rw [pnB] at hp
     have e:=List.mem_singleton.mp (show p ∈ [(s2.heap.objs.size,oD)] from hp)
     subst e
     exact Nat.ne_of_gt (fo b hb)⟩
 have loop : ∀ s₃ : Shared, s₃ = { s2 with heap := h₁, toks := s2.toks + ([] : List (Str × Value)).length } ->
     codeAny (model X.prog X.w) X.A (.compLoop (.ListComp elt [⟨tg,iter,ifs,0⟩] scope pos) 0 (.ref it) (.ref s2.heap.objs.size) (compEnvC scope (xO X.env scope.names []) G.objs.size X.env)) (RR (.ref s2.heap.objs.size) G.objs.size) s₃:=by
   rintro s₃ rfl
   refine YF (fun n s' => ∃ i ys its σ1 H',Inv B [(s2.heap.objs.size,LCg.lst its)] σ1 H' s' /\ Vals ys its /\ tn i s'.heap /\ (∀ b ∈ fp,H' b = none) /\ ys.length <= sizeLine /\ W i n ys σ1 H') ?_ m0
     ⟨0,[],[],_,H2,I3,.nil,st₁,fun b hb => (f2 b hb).1,Nat.zero_le _,w0⟩
   rintro n s' ⟨i,ys',its,σ1,H',I',rv,st',fr',hz,w'⟩
   have rl:=rv.length
   rcases turn i n ys' σ1 H' w' with ⟨stop,qn⟩ | ⟨go,hz',step⟩
   · have q := T.done B pB wB kB cB i _ s' σ1 H' (fun _ _ => False) I' (statB I' fr') st' stop
     rw [aB] at q
     refine thn q fun r s4 ⟨hr,I4⟩ => ?_
     subst hr
     have pD:=(I4.pin (s2.heap.objs.size,LCg.lst its) (List.mem_append_right _ List.mem_cons_self))
     have hDn:H' s2.heap.objs.size = none:=pD.2.1
     have ub:=I4.base
     rw [fB,exB,hB,sB] at ub
     have neD:∀ {b:Addr} {o:HO},H' b = some o -> b ≠ s2.heap.objs.size:=fun e z => by rw [z,hDn] at e; cases e
     have upk:∀ {b:Addr} {o:HO},H' b = some o -> upd H' s2.heap.objs.size (.lst ys') b = some o:=fun e => by rw [zH (neD e)]; exact e
     have u:Un (frs X.stack) fp H2 (upd H' s2.heap.objs.size (.lst ys')) s2.heap s4.heap :=
       ⟨ub.keep,ub.slot,fun b o e n hx => by rw [zH (below b (Heap.lt_size e)).2]; exact ub.free b o e n hx,ub.there,fun b zs e => upk (ub.tups b zs e),fun b o zs e => upk (ub.frzs b o zs e),fun b ps e => let ⟨more,q⟩:=ub.tbls b ps e; ⟨more,upk q⟩⟩
     have hok4:HOk X.prog X.w H' s4.heap:=by have:=I4.hok; rw [pB,wB] at this; exact this
     have hok:HOk X.prog X.w (upd H' s2.heap.objs.size (.lst ys')) s4.heap:=fun b o e => by
       by_cases hb:b = s2.heap.objs.size
       · subst hb
         rw [zC] at e
         cases e
         exact ⟨hz,its,its.length,rv,pD.1⟩
       · rw [zH hb] at e
         exact (hok4 b o e).stay (fun _ _ _ q => q) (fun _ q => upk q) fun _ _ q => upk q
     have I5:Inv X pins σ (upd H' s2.heap.objs.size (.lst ys')) s4:=I2.call' (ch:=fp) (by rw [I4.os,sB]) u hok I4.bare fun b hb => let f:=f2 b hb; ⟨f.2.2.2.1,f.2.1,f.2.2.2.2.1,f.2.2.2.2.2⟩
     refine fin s2.heap.objs.size G.objs.size _ s4 ⟨I5,?_,?_,?_,Nat.le_trans I2.sz hCle,fun x c e z => ?_,fun p hp z => ?_⟩ (qn _ hDn)
     · obtain ⟨m, hn, _⟩ := I4.loc
       rw [eB] at hn
       exact ⟨m,hn⟩
     · have fr := I4.free
       rw [eB] at fr
       rw [zH (Ne.symm hDC)]
       exact fr
     · exact Ne.symm (below _ I2.lt).1
     · obtain ⟨_, o, ho, _⟩ := I2.cell x c e
       exact (below c (Heap.lt_size ho)).1 z
     · exact (below p.1 (Heap.lt_size (I2.pin p hp).1)).1 z
   · have q := T.item B pB wB kB cB i _ s' σ1 H' (fun _ _ => False) I' (statB I' fr') st' go
     rw [aB] at q
     refine thn q fun r s4 ⟨u,hr,h4⟩ => ?_
     subst hr
     refine thn h4 fun _ s5 ⟨x,H5,I5,r5,y5,st5,fr5⟩ => ?_
     have I5':=I5.pinned (statB I5 fr5) (T.obj _ _ st5)
     have q5:=gB _ s5 σ1 H5 x u _ I5' r5 (step x H5 y5)
     rw [pB,wB,aB,eB,xB] at q5
     refine thn q5 fun _ s6 ⟨σ6,H6,I6,q6⟩ => ?_
     have last : ∀ {s7 : Shared} {H7 : Hp}, Inv B ([(s2.heap.objs.size, LCg.lst its)] ++ jT fp s5.heap) σ6 H7 s7 -> (te σ6 H7 fun y H8 => ∃ m', m' < n /\ W (i + 1) m' (ys' ++ [y]) σ6 H8) ->
         wpAny (model X.prog X.w) X.A (eval elt (compEnvC scope (xO X.env scope.names []) G.objs.size X.env)) (fun x s₄ =>
             wpAny (model X.prog X.w) X.A (call (.builtin "list.append") [.ref s2.heap.objs.size,x]) (fun _ s₅ => ∃ m,m < n /\
               ∃ i ys its σ1 H',Inv B [(s2.heap.objs.size,LCg.lst its)] σ1 H' s₅ /\ Vals ys its /\ tn i s₅.heap /\ (∀ b ∈ fp,H' b = none) /\ ys.length <= sizeLine /\ W i m ys σ1 H') (fun _ _ => False) s₄) (fun _ _ => False) s7:=fun {s7 H7} I7 q7 => by
       have q8:=elB _ s7 σ6 H7 _ I7 q7
       rw [pB,wB,aB,eB,xB] at q8
       refine thn q8 fun uy s8 ⟨y,H8,I8,r8,m',hm',w8⟩ => ?_
       have pD:=(I8.pin (s2.heap.objs.size,LCg.lst its) (List.mem_append_right _ (List.mem_append_left _ List.mem_cons_self)))
       refine append_at (its:=its.toArray) (n:=its.length) pD.1 (fun h9 hs9 hd9 => ?_) (by rw [List.size_toArray,← rl]; exact hz)
       have dropped:Inv B (jT fp s5.heap) σ6 H8 s8:=I8.pins_of fun p hp => I8.pin p (List.mem_append_right _ (List.mem_append_right _ hp))
       have apart:∀ p ∈ B.pn ++ jT fp s5.heap,p.1 ≠ s2.heap.objs.size:=fun p hp => by
         rw [pnB] at hp
         exact Nat.ne_of_lt (fo _ (kP (show p ∈ jT fp s5.heap from hp)).1)
       have I9:Inv B (jT fp s5.heap) σ6 H8 { s8 with heap:=h9 }:=dropped.turned (t':=s8.toks) (fun b o hb e => hs9.extBut b o hb e) pD.2.1 pD.2.2.1 (.inr (by rw [sB]; exact Nat.le_refl _)) (fun x c e => by
         intro z
         obtain ⟨v,o,ho,hd⟩:=I8.cell x c e
         rw [z,pD.1] at ho
         cases ho
         cases hd) apart
       have I9':Inv B [(s2.heap.objs.size,LCg.lst (its ++ [uy]))] σ6 H8 { s8 with heap:=h9 }:=I9.pins_of fun p hp => by
         have e:=List.mem_singleton.mp hp
         subst e
         exact ⟨hd9.trans (congrArg some (LCg.lst_snoc its uy)),pD.2.1,pD.2.2.1,pD.2.2.2.1,by intro v hv; cases hv⟩
       refine ⟨m',hm',i + 1,ys' ++ [y],its ++ [uy],σ6,H8,I9',Vals.append rv (.cons r8 .nil),T.keep _ _ _ st5 fun b hb o e => ?_,fun b hb => ?_,by rw [List.length_append]; exact hz',w8⟩
       · exact (I9.pin (b,o) (List.mem_append_right _ (xQ hb e))).1
       · obtain ⟨o, e, d⟩ := T.obj _ _ st5 b hb
         exact (I9.pin (b,o) (List.mem_append_right _ (xQ hb e))).2.1
     have again:∀ {s7:Shared} {H7:Hp},Inv B ([(s2.heap.objs.size,LCg.lst its)] ++ jT fp s5.heap) σ6 H7 s7 -> (∃ m',m' < n /\ W (i + 1) m' ys' σ6 H7) -> ∃ m,m < n /\
         ∃ i ys its σ1 H',Inv B [(s2.heap.objs.size,LCg.lst its)] σ1 H' s7 /\ Vals ys its /\ tn i s7.heap /\ (∀ b ∈ fp,H' b = none) /\ ys.length <= sizeLine /\ W i m ys σ1 H':=fun {s7 H7} I7 ⟨m',hm',w7⟩ => by
       refine ⟨m',hm',i + 1,ys',its,σ6,H7,I7.unpinned,rv,T.keep _ _ _ st5 fun b hb o e => (I7.pin (b,o) (List.mem_append_right _ (List.mem_append_right _ (xQ hb e)))).1,fun b hb => ?_,hz,w7⟩
       obtain ⟨o,e,d⟩:=T.obj _ _ st5 b hb
       exact (I7.pin (b,o) (List.mem_append_right _ (List.mem_append_right _ (xQ hb e)))).2.1
     match ifs,tc,iB,q6 with
     | [], none, _, q6 =>
       refine wpAny_tests_nil ?_
       rw [if_pos rfl]
       exact last I6 q6
     | [c], some t, iB, q6 =>
       have iB:PT B c t:=iB
       have q7:=iB _ s6 σ6 H6 _ I6 q6
       rw [pB,wB,aB,eB,xB] at q7
       refine wpAny_tests_one (thn q7 fun b s7 ⟨H7,I7,q7⟩ => ?_)
       cases b with
       | true => rw [if_pos rfl] at q7 ⊢; exact last I7 q7
       | false => rw [if_neg Bool.false_ne_true] at q7 ⊢; exact again I7 q7
 exact codeAny_compStart_list (loop _ rfl) (T.self _ 0 _ _ _ st₁ (loop _ rfl))
theorem pe_lc (hc:X.calm = true) (S:LcScope xs ys scope X.env.scope) (hj:Caps X ys js) (hi:PI X tg iter wi)
   (hg:∀ C s₀ H₀ fp,PG (yQ X xs ys scope C s₀ H₀ fp) tg g) (hif:∀ C s₀ H₀ fp,PIf (yQ X xs ys scope C s₀ H₀ fp) ifs tc) (he:∀ C s₀ H₀ fp,PE (yQ X xs ys scope C s₀ H₀ fp) elt te)
   (hs:∀ x,foldedSetIterable iter X.env x = pure x:=by intro _; rfl):PE X (.ListComp elt [⟨tg,iter,ifs,0⟩] scope pos) (tLC xs js wi g tc te):=by
 intro pins s σ H Q I h
 rw [eval_ListComp]
 refine wpAny_comprehension_free (use:=none) rfl hs (uF (YG I S)) S.kind S.names ?_
 refine lc_core (RR:=fun acc C => compPost (model X.prog X.w) X.A X.xe none (EP X pins σ Q) acc C) hc S hj hi hg hif he I h fun D C H' s' L q => ?_
 obtain ⟨m,hn⟩:=L.ns
 exact ⟨m,hn,fun h'' hs'' => ⟨.ref D,H',L.gone hs'',rfl,q⟩⟩
theorem ps_setLC {i:Nat} {x:Str} {p' p:Pos} (hN:X.N.Nodup) (hx:X.N[i]? = some x) (hl:X.env.scope.names.lookup x = some .local) (hc:X.calm = true) (S:LcScope xs ys scope X.env.scope) (hj:Caps X ys js) (hi:PI X tg iter wi)
   (hg:∀ C s₀ H₀ fp,PG (yQ X xs ys scope C s₀ H₀ fp) tg g) (hif:∀ C s₀ H₀ fp,PIf (yQ X xs ys scope C s₀ H₀ fp) ifs tc) (he:∀ C s₀ H₀ fp,PE (yQ X xs ys scope C s₀ H₀ fp) elt te)
   (hsw:swapsWith (.ListComp elt [⟨tg,iter,ifs,0⟩] scope pos) (some (.Name x p')) p.line X.env = pure true:=by rfl)
   (hs:∀ x,foldedSetIterable iter X.env x = pure x:=by intro _; rfl):PS X (.Assign [.Name x p'] (.ListComp elt [⟨tg,iter,ifs,0⟩] scope pos) p) (tAsg (tLC xs js wi g tc te) (gName i)):=by
 intro pins s σ H D I h
 rw [exec_Assign_Name_used _ _ _ _ hsw]
 refine wpAny_bind (wpAny_standAt (wpAny_bind ?_))
 show wpAny _ X.A (do let _ ← comprehension (.ListComp elt [⟨tg,iter,ifs,0⟩] scope pos) scope X.env _ (newList []) false (eval iter X.env) (some (assign (.Name x p') X.env))) _ _ s
 refine wpAny_bind (wpAny_mono (wpAny_comprehension_free (use:=some (assign (.Name x p') X.env)) (Q:=fun _ s' => SP X pins D .next s') rfl hs (uF (YG I S)) S.kind S.names ?_) (fun _ s' hq => wpAny_pure (wpAny_pure hq)) fun _ _ e => e)
 refine lc_core (Q:=fun v H' => gName i v σ H' D.nx) (RR:=fun acc C => compPost (model X.prog X.w) X.A X.xe (some (assign (.Name x p') X.env)) (fun _ s' => SP X pins D .next s') acc C) hc S hj hi hg hif he I h fun A C H' s' L q => ?_
 show wpAny _ X.A (assign (.Name x p') X.env (.ref A)) _ _ _
 refine wpAny_assign_Name (kJ (v:=.ref A) L.inv hN hx (.inl hl) rfl (fun s'' I'' ⟨a,sb,ha⟩ => ?_) (.inr hl))
 have cne:∀ {b:Addr},(b = X.env.locals \/ X.env.cells.lookup x = some b) -> C ≠ b:=fun z e => by
   rcases z with z | z
   · exact L.ne (e.trans z)
   · exact L.cells x _ z e.symm
 obtain ⟨m,hn⟩:=L.ns
 refine ⟨m,hn.sameBut sb (cne ha),fun h'' hs'' => ⟨_,_,?_,q⟩⟩
 exact LcEnd.gone ⟨I'',⟨m,hn.sameBut sb (cne ha)⟩,L.free,L.ne,L.up,L.cells,L.pin⟩ hs''
end
def Its (x:Str):It:=⟨fun i _ => i < x.cps.size,fun i H v H' => H' = H /\ ∃ c,x.cps[i]? = some c /\ v = .str ⟨#[c]⟩,fun i _ => x.cps.size <= i⟩
section
variable {X:Cx} {tg:Expr}
def iStr (tl:TE):TI:=fun σ H R => tl σ H fun x H1 => ∃ z,x = .str z /\ R (Its z) H1
end
def rSlS:V -> Option Int -> Option Int -> Hp -> VK -> Prop:=fun x lo hi H Q => ∃ z,x = .str z /\ z.length <= sizeLine /\ Q (.str (Txt.slice z lo hi)) H
section
variable {X:Cx}
theorem call_all:qW X (.builtin "all") (fun xs H Q => X.calm = true /\ ∃ (p:Addr) (bs:List Bool),xs = [.ref p] /\ SqL X.K H p (bs.map V.bl) /\ Q (.bl (bs.all id)) H):=by
 intro pins s σ H xs us Q I r h
 obtain ⟨hc,p,bs,rfl,hp,q⟩:=h
 obtain ⟨u,rfl,ru⟩:=kI r
 cases ru
 obtain ⟨its,rv,hl,hz⟩:=I.list hp
 have hlt:p < s.heap.objs.size:=by obtain ⟨_,e,_⟩:=hl.isList; exact Heap.lt_size e
 have hlen:=rv.length
 rw [List.length_map] at hlen
 refine call_all_walk (wpAny_pyIter_list hl.isList ?_)
 refine ⟨_,_,_,_,_,_,fun i => bs.getD i false,rfl,Walks.list (A:=X.A.in1) (I.ok.hd hc) s.heap.objs.size p (Nat.ne_of_lt hlt) its.toArray,⟨⟨_,Heap.get?_push_size _ rfl,rfl,rfl⟩,hl.isList.push _⟩,fun i v s' Q' E' hv q' => ?_,fun h' tk k => ?_⟩
 · have hv : its[i]? = some v := by simpa using hv
   have hi:i < bs.length:=by
     have:=(List.getElem?_eq_some_iff.mp hv).1
     omega
   obtain ⟨u',hu',ru'⟩:=rv.get (i:=i) (x:=.bl bs[i]) (by rw [List.getElem?_map,List.getElem?_eq_getElem hi]; rfl)
   rw [hv] at hu'
   cases hu'
   have e:v = Value.bool bs[i]:=ru'
   subst e
   refine wpAny_truthy_bool ?_
   have e2:bs.getD i false = bs[i]:=by rw [List.getD_eq_getElem?_getD,List.getElem?_eq_getElem hi]; rfl
   rw [← e2]
   exact q'
 · refine ⟨.bl (bs.all id), H, ?_, ?_, q⟩
   · exact I.kept (h':=h') (t':=tk) fun b o e => k b o (by intro hm; have:=List.mem_singleton.mp hm; exact absurd (this ▸ Heap.lt_size e) (Nat.lt_irrefl _)) (Heap.get?_push_of_some _ e)
   · have e : (List.range its.toArray.size).all (fun i => bs.getD i false) = bs.all id := by
       rw [List.size_toArray,← hlen]
       rw [Bool.eq_iff_iff,List.all_eq_true,List.all_eq_true]
       constructor
       · intro a b hb
         obtain ⟨i,hi,rfl⟩:=List.getElem_of_mem hb
         have:=a i (List.mem_range.mpr hi)
         rw [List.getD_eq_getElem?_getD,List.getElem?_eq_getElem hi] at this
         exact this
       · intro a i hi
         have hi:=List.mem_range.mp hi
         rw [List.getD_eq_getElem?_getD,List.getElem?_eq_getElem hi]
         exact a _ (List.getElem_mem hi)
     show Value.bool _ = _
     rw [e]
theorem yY {T:String}:qW X (.builtin "isinstance") (fun xs H Q => ∃ x t b,xs = [x,.ty T] /\ TyOf X.K H x t /\ PySem.W.kitOne X.K t (.type T) = some b /\ Q (.bl b) H):=by
 intro pins s σ H xs us Q I r h
 obtain ⟨x,t,b,rfl,ty,e,q⟩:=h
 obtain ⟨u,w',rfl,ru,rw'⟩:=vals2 r
 cases rw'
 exact isinst_ok I ru ty e fun tk => ⟨.bl b,H,I.tok tk,rfl,q⟩
end
structure Has (P:Program) (w:World) (K:PySem.W.Frag) (mg:Str -> Option Value) (base:Heap) (k:Nat) (x:Str) (ps:List Str) (sp:Sp):Prop where
 ex:∃ f fd,FnOk P w K mg base CX0 k f fd ps sp /\ Binds K fd ps [] /\ PySem.W.keepIn K (.ref f) = true /\ mg x = some (.ref f)
section
variable {X:Cx} {k:Nat} {x:Str} {ps:List Str} {sp:Sp} {p pos:Pos} {e:Expr} {es:List Expr} {t:TA} {v:V}
theorem zR (h:Has X.prog X.w X.K X.mg X.base k x ps sp) (hr:Room k X.A) (hg:Gl X x) (ha:PA X (e :: es) t) (hdb:(x == ("__debug__" : Str)) = false:=by decide)
   (he:starEach (e :: es) X.env = (false,eval e X.env) :: starEach es X.env:=by rfl) (hpl:(backTo pos (starEach es X.env)).any (·.1) = false:=by rfl):PE X (.Call (.Name x p) (e :: es) [] pos) (tCall sp [] E0 t):=by
 obtain ⟨f,fd,F,b,kp,m⟩:=h.ex
 exact pe_call F hr hg m kp b .nil pass0 ha hdb he hpl
theorem jV {T:String} (hm:X.mg x = none) (hv:bootBuiltins x = some (.type T)) (hg:Gl X x) (hn:x ≠ "__name__":=by decide) (hd:(x == ("__debug__" : Str)) = false:=by decide):PE X (.Name x pos) (tC (.ty T)) :=
 pe_bltn hg hm hv rfl hn hd
end
theorem xR {X:Cx}:PIf X [] none:=trivial
def lcOk (xs ys:List Str) (scope around:Scope):Bool :=
 (scope.kind == .function) && decide (xs ++ ys).Nodup && xs.all (fun x => scope.names.lookup x == some .local) &&
 ys.all (fun y => (scope.names.lookup y == some .free) && ((around.names.lookup y == some .cell) || (around.names.lookup y == some .free))) &&
 scope.names.all (fun y => (y.2 != .cell) && ((y.2 != .local) || (scope.names.lookup y.1 == some .local)) && ((y.2 != .free) || ys.contains y.1))
theorem lcOk.scope {xs ys:List Str} {scope around:Scope} (h:lcOk xs ys scope around = true):LcScope xs ys scope around:=by
 unfold lcOk at h
 simp only [Bool.and_eq_true,beq_iff_eq,decide_eq_true_eq,List.all_eq_true,Bool.or_eq_true,bne_iff_ne,List.contains_iff_mem] at h
 obtain ⟨⟨⟨⟨h1,h2⟩,h3⟩,h4⟩,h5⟩:=h
 exact ⟨h1,h2,h3,h4,fun y hy => (h5 y hy).1.1,fun y hy hl => (h5 y hy).1.2.resolve_left (fun z => z hl),fun y hy hf => (h5 y hy).2.resolve_left (fun z => z hf)⟩
def capOk (N ys:List Str) (js:List Nat):Bool:=(js.length == ys.length) && (ys.zip js).all fun p => N[p.2]? == some p.1
theorem capOk.caps {X:Cx} {ys:List Str} {js:List Nat} (h:capOk X.N ys js = true):Caps X ys js:=by
 unfold capOk at h
 simp only [Bool.and_eq_true,beq_iff_eq,List.all_eq_true] at h
 refine ⟨h.1,fun i y j hy hj => ?_⟩
 refine h.2 (y,j) (List.mem_of_getElem? (i:=i) ?_)
 rw [List.getElem?_zip_eq_some]
 exact ⟨hy,hj⟩
section
variable {X:Cx} {xs ys:List Str} {scope:Scope} {js:List Nat} {tg iter elt:Expr} {ifs:List Expr} {pos:Pos} {wi:TI} {g:TG} {tc:Option TT} {te:TE}
theorem xV (xs ys:List Str) (js:List Nat) (hi:PI X tg iter wi)
   (hg:∀ C s₀ H₀ fp,(xs ++ ys).Nodup -> PG (yQ X xs ys scope C s₀ H₀ fp) tg g) (hif:∀ C s₀ H₀ fp,PIf (yQ X xs ys scope C s₀ H₀ fp) ifs tc) (he:∀ C s₀ H₀ fp,PE (yQ X xs ys scope C s₀ H₀ fp) elt te)
   (hc:X.calm = true:=by rfl) (S:lcOk xs ys scope X.env.scope = true:=by rfl) (hj:capOk X.N ys js = true:=by rfl)
   (hs:∀ x,foldedSetIterable iter X.env x = pure x:=by intro _; rfl):PE X (.ListComp elt [⟨tg,iter,ifs,0⟩] scope pos) (tLC xs js wi g tc te) :=
 pe_lc hc (lcOk.scope S) (capOk.caps hj) hi (fun C s₀ H₀ fp => hg C s₀ H₀ fp (lcOk.scope S).nd) hif he hs
theorem ps_comp {i:Nat} {x:Str} {p' p:Pos} (xs ys:List Str) (js:List Nat) (hN:X.N.Nodup) (hx:X.N[i]? = some x) (hi:PI X tg iter wi)
   (hg:∀ C s₀ H₀ fp,(xs ++ ys).Nodup -> PG (yQ X xs ys scope C s₀ H₀ fp) tg g) (hif:∀ C s₀ H₀ fp,PIf (yQ X xs ys scope C s₀ H₀ fp) ifs tc) (he:∀ C s₀ H₀ fp,PE (yQ X xs ys scope C s₀ H₀ fp) elt te)
   (hl:X.env.scope.names.lookup x = some .local:=by rfl) (hc:X.calm = true:=by rfl) (S:lcOk xs ys scope X.env.scope = true:=by rfl) (hj:capOk X.N ys js = true:=by rfl)
   (hsw:swapsWith (.ListComp elt [⟨tg,iter,ifs,0⟩] scope pos) (some (.Name x p')) p.line X.env = pure true:=by rfl)
   (hs:∀ x,foldedSetIterable iter X.env x = pure x:=by intro _; rfl):PS X (.Assign [.Name x p'] (.ListComp elt [⟨tg,iter,ifs,0⟩] scope pos) p) (tAsg (tLC xs js wi g tc te) (gName i)) :=
 ps_setLC hN hx hl hc (lcOk.scope S) (capOk.caps hj) hi (fun C s₀ H₀ fp => hg C s₀ H₀ fp (lcOk.scope S).nd) hif he hsw hs
end
theorem bt_len:bootBuiltins "len" = some (.builtin "len"):=by decide +kernel
theorem bt_isinstance:bootBuiltins "isinstance" = some (.builtin "isinstance"):=by decide +kernel
theorem bt_all:bootBuiltins "all" = some (.builtin "all"):=by decide +kernel
theorem bt_sorted:bootBuiltins "sorted" = some (.builtin "sorted"):=by decide +kernel
theorem bt_tuple:bootBuiltins "tuple" = some (.type "tuple"):=by decide +kernel
theorem bt_list:bootBuiltins "list" = some (.type "list"):=by decide +kernel
theorem bt_int:bootBuiltins "int" = some (.type "int"):=by decide +kernel
theorem bt_bool:bootBuiltins "bool" = some (.type "bool"):=by decide +kernel
theorem bt_str:bootBuiltins "str" = some (.type "str"):=by decide +kernel
theorem bt_dict:bootBuiltins "dict" = some (.type "dict"):=by decide +kernel
theorem cx_K {CX:CXT} {P:Program} {w:World} {K:PySem.W.Frag} {mg:Str -> Option Value} {base:Heap} {N:List Str} {qual:Str} {scope:Scope} {f:Addr} {cd:Value} {A:Around} {outer:List Env} {s:Shared} {H:Hp} {E:XK}:(kE CX P w K mg base N qual scope f cd A outer s H E).K = K:=rfl
theorem cx_calm {CX:CXT} {P:Program} {w:World} {K:PySem.W.Frag} {mg:Str -> Option Value} {base:Heap} {N:List Str} {qual:Str} {scope:Scope} {f:Addr} {cd:Value} {A:Around} {outer:List Env} {s:Shared} {H:Hp} {E:XK}:(kE CX P w K mg base N qual scope f cd A outer s H E).calm = true:=rfl
theorem bk_calm {X:Cx} {xs ys:List Str} {scope:Scope} {C:Addr} {s₀:Shared} {H₀:Hp} {fp:List Addr}:(yQ X xs ys scope C s₀ H₀ fp).calm = X.calm:=rfl
theorem lenV_str {K:PySem.W.Frag} {y:Str} {H:Hp} {n:Nat}:LenV K (.str y) H n ↔ (y.length <= sizeLine /\ n = y.length):=Iff.rfl
theorem bk_K {X:Cx} {xs ys:List Str} {scope:Scope} {C:Addr} {s₀:Shared} {H₀:Hp} {fp:List Addr}:(yQ X xs ys scope C s₀ H₀ fp).K = X.K:=rfl
theorem ix_nat {ns:List Int} {k:Nat} (h:(k:Int) < ns.length):atI (ns.map V.int) (k:Int) = some (.int (ns.getD k 0)):=by
 refine zZ ?_
 have h':k < ns.length:=by omega
 rw [List.getElem?_map,List.getElem?_eq_getElem h',List.getD_eq_getElem?_getD,List.getElem?_eq_getElem h']
 rfl
theorem lc_by {J:It} {n:Nat} {ns:List Str} {js:List Nat} {g:TG} {te:TE} {σ:St} {H:Hp} {Q:VK} (Pv:Nat -> List V -> St -> Hp -> Prop) (h0:Pv 0 [] (lcSt ns js σ) H) (hn:n <= sizeLine) (hl:∀ i ys σ H,Pv i ys σ H -> ys.length <= i)
   (hgo:∀ i ys σ H,i < n -> Pv i ys σ H -> J.go i H) (hst:∀ ys σ H,Pv n ys σ H -> J.stop n H)
   (hs:∀ i ys σ H x H' (C:V -> St -> Hp -> Prop),i < n -> Pv i ys σ H -> J.yld i H x H' -> (∀ y σ2 H3,Pv (i + 1) (ys ++ [y]) σ2 H3 -> C y σ2 H3) -> g x σ H' fun σ2 H2 => te σ2 H2 fun y H3 => C y σ2 H3)
   (hd:∀ ys σ H,Pv n ys σ H -> ∀ p,H p = none -> Q (.ref p) (upd H p (.lst ys))) :
   LcW J ns js g none te σ H Q:=by
 refine ⟨fun i m ys σ H => i + m = n /\ Pv i ys σ H,⟨n,by omega,h0⟩,fun i m ys σ H ⟨e,w⟩ => ?_⟩
 by_cases hi:i < n
 · refine .inr ⟨hgo i ys σ H hi w, Nat.lt_of_le_of_lt (hl _ _ _ _ w) (by omega), fun x H' hy => ?_⟩
   exact hs i ys σ H x H' (fun y σ2 H3 => ∃ m',m' < m /\ i + 1 + m' = n /\ Pv (i + 1) (ys ++ [y]) σ2 H3) hi w hy fun y σ2 H3 q => ⟨m - 1,by omega,by omega,q⟩
 · have : i = n := by omega
   subst this
   exact .inl ⟨hst ys σ H w,hd ys σ H w⟩
theorem lc_range {lo:Int} {n:Nat} {ns:List Str} {js:List Nat} {g:TG} {te:TE} {σ:St} {H:Hp} {Q:VK} (Pv:Nat -> List V -> St -> Hp -> Prop) (h0:Pv 0 [] (lcSt ns js σ) H) (hz:n <= sizeLine) (hl:∀ i ys σ H,Pv i ys σ H -> ys.length <= i)
   (hs:∀ (i:Nat) ys σ H (C:V -> St -> Hp -> Prop),i < n -> Pv i ys σ H -> (∀ y σ2 H3,Pv (i + 1) (ys ++ [y]) σ2 H3 -> C y σ2 H3) -> g (.int (lo + i)) σ H fun σ2 H2 => te σ2 H2 fun y H3 => C y σ2 H3)
   (hd:∀ ys σ H,Pv n ys σ H -> ∀ p,H p = none -> Q (.ref p) (upd H p (.lst ys))) :
   LcW (Itr lo n) ns js g none te σ H Q :=
 lc_by (n:=n) Pv h0 hz hl (fun _ _ _ _ h _ => h) (fun _ _ _ _ => Nat.le_refl _) (fun i ys σ H x H' C hi w ⟨e,hx⟩ hC => by subst e; subst hx; exact hs i ys σ _ C hi w hC) hd
theorem lc_tup {K:PySem.W.Frag} {a:Addr} {xs:List V} {ns:List Str} {js:List Nat} {g:TG} {te:TE} {σ:St} {H:Hp} {Q:VK} (Pv:Nat -> List V -> St -> Hp -> Prop) (h0:Pv 0 [] (lcSt ns js σ) H) (hz:xs.length <= sizeLine) (hl:∀ i ys σ H,Pv i ys σ H -> ys.length <= i)
   (hK:∀ i ys σ H,Pv i ys σ H -> SqT K H a xs)
   (hs:∀ (i:Nat) x ys σ H (C:V -> St -> Hp -> Prop),xs[i]? = some x -> Pv i ys σ H -> (∀ y σ2 H3,Pv (i + 1) (ys ++ [y]) σ2 H3 -> C y σ2 H3) -> g x σ H fun σ2 H2 => te σ2 H2 fun y H3 => C y σ2 H3)
   (hd:∀ ys σ H,Pv xs.length ys σ H -> ∀ p,H p = none -> Q (.ref p) (upd H p (.lst ys))) :
   LcW (Itt K a) ns js g none te σ H Q :=
 lc_by (n:=xs.length) Pv h0 hz hl (fun i ys σ H hi w => ⟨xs,xs[i],hK i ys σ H w,List.getElem?_eq_getElem hi⟩) (fun ys σ H w => ⟨xs,hK _ ys σ H w,Nat.le_refl _⟩)
   (fun i ys σ H x H' C hi w ⟨e,hx⟩ hC => by subst e; exact hs i x ys σ _ C (hx xs (hK i ys σ _ w)) w hC) hd
theorem uX {K:PySem.W.Frag} {a:Addr} {xs:List V} {ns:List Str} {js:List Nat} {g:TG} {te:TE} {σ:St} {H:Hp} {Q:VK} (Pv:Nat -> List V -> St -> Hp -> Prop) (h0:Pv 0 [] (lcSt ns js σ) H) (hz:xs.length <= sizeLine) (hl:∀ i ys σ H,Pv i ys σ H -> ys.length <= i)
   (hK:∀ i ys σ H,Pv i ys σ H -> SqL K H a xs)
   (hs:∀ (i:Nat) x ys σ H (C:V -> St -> Hp -> Prop),xs[i]? = some x -> Pv i ys σ H -> (∀ y σ2 H3,Pv (i + 1) (ys ++ [y]) σ2 H3 -> C y σ2 H3) -> g x σ H fun σ2 H2 => te σ2 H2 fun y H3 => C y σ2 H3)
   (hd:∀ ys σ H,Pv xs.length ys σ H -> ∀ p,H p = none -> Q (.ref p) (upd H p (.lst ys))) :
   LcW (Itl K a) ns js g none te σ H Q :=
 lc_by (n:=xs.length) Pv h0 hz hl (fun i ys σ H hi w => ⟨xs,xs[i],hK i ys σ H w,List.getElem?_eq_getElem hi⟩) (fun ys σ H w => ⟨xs,hK _ ys σ H w,Nat.le_refl _⟩)
   (fun i ys σ H x H' C hi w ⟨e,hx⟩ hC => by subst e; exact hs i x ys σ _ C (hx xs (hK i ys σ _ w)) w hC) hd
def ForW (J:It) (g:TG) (tb:TS) (D:Ends) (σ:St) (H:Hp):Prop:=∃ W:Nat -> Nat -> St -> Hp -> Prop,(∃ m,W 0 m σ H) /\ ∀ i m σ H,W i m σ H ->
 (J.stop i H /\ D.nx σ H) \/ (J.go i H /\ ∃ N:St -> Hp -> Prop,(∀ σ' H',N σ' H' -> ∃ m',m' < m /\ W (i + 1) m' σ' H') /\ ∀ x H',J.yld i H x H' -> g x σ H' fun σ2 H2 => tb { D with nx:=N,ct:=N,bk:=D.nx } σ2 H2)
theorem tFor_eq {wi:TI} {g:TG} {tb:TS} {D:Ends} {σ:St} {H:Hp}:tFor wi g tb D σ H = wi σ H fun J H1 => ForW J g tb D σ H1:=rfl
theorem tLC_eq {n:List Str} {js:List Nat} {wi:TI} {g:TG} {tc:Option TT} {te:TE} {σ:St} {H:Hp} {Q:VK}:tLC n js wi g tc te σ H Q = wi σ H fun J H1 => LcW J n js g tc te σ H1 Q:=rfl
theorem xX {K:PySem.W.Frag} {a:Addr} {xs:List V} {g:TG} {tb:TS} {D:Ends} {σ:St} {H:Hp} (Pv:Nat -> St -> Hp -> Prop) (h0:Pv 0 σ H) (hl:∀ i σ H,i <= xs.length -> Pv i σ H -> SqL K H a xs)
   (hs:∀ i x σ H,xs[i]? = some x -> Pv i σ H -> g x σ H fun σ2 H2 => tb { D with nx:=Pv (i + 1),ct:=Pv (i + 1),bk:=D.nx } σ2 H2) (hd:∀ σ H,Pv xs.length σ H -> D.nx σ H):ForW (Itl K a) g tb D σ H:=for_list Pv h0 hl hs hd
theorem fw_tup {K:PySem.W.Frag} {a:Addr} {xs:List V} {g:TG} {tb:TS} {D:Ends} {σ:St} {H:Hp} (Pv:Nat -> St -> Hp -> Prop) (h0:Pv 0 σ H) (hl:∀ i σ H,i <= xs.length -> Pv i σ H -> SqT K H a xs)
   (hs:∀ i x σ H,xs[i]? = some x -> Pv i σ H -> g x σ H fun σ2 H2 => tb { D with nx:=Pv (i + 1),ct:=Pv (i + 1),bk:=D.nx } σ2 H2) (hd:∀ σ H,Pv xs.length σ H -> D.nx σ H):ForW (Itt K a) g tb D σ H:=for_tup Pv h0 hl hs hd
theorem xS {lo:Int} {n:Nat} {g:TG} {tb:TS} {D:Ends} {σ:St} {H:Hp} (Pv:Nat -> St -> Hp -> Prop) (h0:Pv 0 σ H)
   (hs:∀ i σ H,i < n -> Pv i σ H -> g (.int (lo + i)) σ H fun σ2 H2 => tb { D with nx:=Pv (i + 1),ct:=Pv (i + 1),bk:=D.nx } σ2 H2) (hd:∀ σ H,Pv n σ H -> D.nx σ H):ForW (Itr lo n) g tb D σ H:=for_range Pv h0 hs hd
theorem zJ {t u:TS} {D:Ends} {σ:St} {H:Hp} (h:∀ N:St -> Hp -> Prop,(∀ σ H,u D σ H -> N σ H) -> t { D with nx:=N } σ H):tSeq t u D σ H:=h (u D) fun _ _ z => z
theorem if_abs {c:TT} {t u:TS} {D:Ends} {σ:St} {H:Hp} (h:∀ T U:Hp -> Prop,(∀ H1,t D σ H1 -> T H1) -> (∀ H1,u D σ H1 -> U H1) -> c σ H fun b H1 => if b = true then T H1 else U H1):tIfS c t u D σ H:=h (t D σ) (u D σ) (fun _ z => z) fun _ z => z
theorem yE {t u:TS} {D:Ends} {σ:St} {H:Hp} (J:St -> Hp -> Prop) (h1:∀ N:St -> Hp -> Prop,(∀ σ H,J σ H -> N σ H) -> t { D with nx:=N } σ H) (h2:∀ σ H,J σ H -> u D σ H):tSeq t u D σ H:=h1 (u D) h2
structure Bi (mg:Str -> Option Value):Prop where
 len:mg "len" = none
 range:mg "range" = none
 isinstance:mg "isinstance" = none
 max:mg "max" = none
 sum:mg "sum" = none
 all:mg "all" = none
 tuple:mg "tuple" = none
 list:mg "list" = none
 sorted:mg "sorted" = none
 set:mg "set" = none
 int:mg "int" = none
 bool:mg "bool" = none
 str:mg "str" = none
 dict:mg "dict" = none
theorem yM {P:Program} {w:World} {K:PySem.W.Frag} {mg:Str -> Option Value} {base:Heap} {k:Nat} {x:Str} {ps:List Str} {sp:Sp} {st:Stmt} {f:Addr} {fd:FuncData} (F:Fun K x x st f fd) (ok:FnOk P w K mg base CX0 k f fd ps sp) (b:Binds K fd ps [])
   (m:mg x = some (.ref f)):Has P w K mg base k x ps sp:=⟨f,fd,ok,b,F.kp,m⟩
inductive Dt where
 | non | bl (b:Bool) | int (i:Int) | str (x:Str) | tup (ds:List Dt) | lst (ds:List Dt)
mutual
def DAt (H:Hp):Dt -> V -> Prop
 | .non,v => v = .non
 | .bl b,v => v = .bl b
 | .int i,v => v = .int i
 | .str x,v => v = .str x
 | .tup ds,v => ∃ a vs,v = .ref a /\ H a = some (.tup vs) /\ DAts H ds vs
 | .lst ds,v => ∃ a vs,v = .ref a /\ H a = some (.lst vs) /\ DAts H ds vs
def DAts (H:Hp):List Dt -> List V -> Prop
 | [],vs => vs = []
 | d :: ds,vs => ∃ v r,vs = v :: r /\ DAt H d v /\ DAts H ds r
end
mutual
theorem DAt.same {H H':Hp} (e:Same H H'):∀ {d:Dt} {v:V},DAt H d v -> DAt H' d v
 | .non,_,h => h
 | .bl _,_,h => h
 | .int _,_,h => h
 | .str _,_,h => h
 | .tup ds, v, h => by
   obtain ⟨a,vs,e1,e2,e3⟩:=h
   exact ⟨a,vs,e1,e _ _ e2,DAts.same e e3⟩
 | .lst ds, v, h => by
   obtain ⟨a,vs,e1,e2,e3⟩:=h
   exact ⟨a,vs,e1,e _ _ e2,DAts.same e e3⟩
theorem DAts.same {H H':Hp} (e:Same H H'):∀ {ds:List Dt} {vs:List V},DAts H ds vs -> DAts H' ds vs
 | [],_,h => h
 | d :: ds, vs, h => by
   obtain ⟨v,r,e1,e2,e3⟩:=h
   exact ⟨v,r,e1,DAt.same e e2,DAts.same e e3⟩
end
theorem DAts.length {H:Hp}:∀ {ds:List Dt} {vs:List V},DAts H ds vs -> vs.length = ds.length
 | [], vs, h => by
   have h:vs = []:=h
   rw [h]
   rfl
 | d :: ds, vs, h => by
   obtain ⟨v,r,e1,e2,e3⟩:=h
   rw [e1,List.length_cons,List.length_cons,DAts.length e3]
theorem DAts.get {H:Hp}:∀ {ds:List Dt} {vs:List V} {i:Nat} {d:Dt},DAts H ds vs -> ds[i]? = some d -> ∃ v,vs[i]? = some v /\ DAt H d v
 | [],vs,i,d,_,e => by simp at e
 | d :: ds, vs, 0, d', h, e => by
   obtain ⟨v,r,e1,e2,e3⟩:=h
   simp at e
   subst e; subst e1
   exact ⟨v,rfl,e2⟩
 | d :: ds, vs, i + 1, d', h, e => by
   obtain ⟨v,r,e1,e2,e3⟩:=h
   subst e1
   simp at e
   obtain ⟨u,h1,h2⟩:=DAts.get e3 e
   exact ⟨u,by simpa using h1,h2⟩
theorem DAts.append {H:Hp}:∀ {ds es:List Dt} {vs us:List V},DAts H ds vs -> DAts H es us -> DAts H (ds ++ es) (vs ++ us)
 | [], es, vs, us, h, h' => by
   have h:vs = []:=h
   subst h
   exact h'
 | d :: ds, es, vs, us, h, h' => by
   obtain ⟨v,r,e1,e2,e3⟩:=h
   subst e1
   exact ⟨v,r ++ us,rfl,e2,DAts.append e3 h'⟩
theorem DAts.one {H:Hp} {d:Dt} {v:V} (h:DAt H d v):DAts H [d] [v]:=⟨v,[],rfl,h,rfl⟩
def DFit:Nat -> Dt -> Prop
 | n + 1,.tup ds => ds.length <= 1000 /\ ∀ d ∈ ds,DFit n d
 | n + 1,.lst ds => ds.length <= 1000 /\ ∀ d ∈ ds,DFit n d
 | 0,.tup _ => False
 | 0,.lst _ => False
 | _,_ => True
inductive Tm where
 | name (x:Str)
 | node (w:Str) (ts:List Tm)
mutual
def toD:Tm -> Dt
 | .name x => .tup [.str "name",.str x]
 | .node w ts => .tup (.str w :: toDs ts)
def toDs:List Tm -> List Dt
 | [] => []
 | t :: ts => toD t :: toDs ts
end
theorem toDs_map:∀ ts:List Tm,toDs ts = ts.map toD
 | [] => rfl
 | t :: ts => by rw [toDs,toDs_map ts,List.map_cons]
theorem toD_node (w:Str) (ts:List Tm):toD (.node w ts) = .tup (.str w :: ts.map toD):=by rw [toD,toDs_map]
abbrev TAt (H:Hp) (t:Tm) (v:V):Prop:=DAt H (toD t) v
abbrev TAts (H:Hp) (ts:List Tm) (vs:List V):Prop:=DAts H (ts.map toD) vs
theorem TAt.name {H:Hp} {x:Str} {v:V} (h:TAt H (.name x) v):∃ a,v = .ref a /\ H a = some (.tup [.str "name",.str x]):=by
 obtain ⟨a,vs,e1,e2,u,r,e3,e4,e5⟩:=h
 obtain ⟨u2,r2,e6,e7,e8⟩:=e5
 have e4:u = .str "name":=e4
 have e7:u2 = .str x:=e7
 have e8:r2 = []:=e8
 subst e3; subst e4; subst e6; subst e7; subst e8
 exact ⟨a,e1,e2⟩
theorem TAt.mkName {H:Hp} {x:Str} {a:Addr} (h:H a = some (.tup [.str "name",.str x])):TAt H (.name x) (.ref a) :=
 ⟨a,_,rfl,h,_,_,rfl,rfl,_,_,rfl,rfl,rfl⟩
theorem TAt.node {H:Hp} {w:Str} {ts:List Tm} {v:V} (h:TAt H (.node w ts) v):∃ a vs,v = .ref a /\ H a = some (.tup (.str w :: vs)) /\ TAts H ts vs:=by
 unfold TAt at h
 rw [toD_node] at h
 obtain ⟨a,vs,e1,e2,u,r,e3,e4,e5⟩:=h
 have e4:u = .str w:=e4
 subst e3; subst e4
 exact ⟨a,r,e1,e2,e5⟩
theorem TAt.mkNode {H:Hp} {w:Str} {ts:List Tm} {a:Addr} {vs:List V} (h:H a = some (.tup (.str w :: vs))) (hs:TAts H ts vs):TAt H (.node w ts) (.ref a):=by
 unfold TAt
 rw [toD_node]
 exact ⟨a,_,rfl,h,_,_,rfl,rfl,hs⟩
def Sh (w:Str) (n:Nat):Prop:=(w = "none" /\ n = 0) \/ (w = "all" /\ n = 0) \/ (w = "not" /\ n = 1) \/ (w = "both" /\ 2 <= n) \/ (w = "either" /\ 2 <= n)
structure Nm (x:Str):Prop where
 pos:1 <= x.length
 most:x.length <= 8
 low:∀ c ∈ x.cps.toList,97 <= c /\ c <= 122
 nn:x ≠ "none"
 na:x ≠ "all"
theorem zF {H:Hp} {p:Addr} (h:H p = none) (o:HO):Same H (upd H p o):=fun b u q => by rw [zH (yT q h)]; exact q
theorem len_app (p q:Str):(p ++ q).length = p.length + q.length:=by
 show (p.cps ++ q.cps).size = p.cps.size + q.cps.size
 rw [Array.size_append]
theorem cps_app (p q:Str):(p ++ q).cps.toList = p.cps.toList ++ q.cps.toList:=by
 show (p.cps ++ q.cps).toList = _
 rw [Array.toList_append]
theorem small {n:Nat} (h:n <= 1000):n <= sizeLine:=Nat.le_of_lt (qX h)
theorem TAts.length {H:Hp} {ts:List Tm} {vs:List V} (h:TAts H ts vs):vs.length = ts.length:=by
 have:=DAts.length h
 rw [List.length_map] at this
 exact this
def TupSame (H H':Hp):Prop:=∀ b xs,H b = some (.tup xs) -> H' b = some (.tup xs)
theorem TupSame.refl (H:Hp):TupSame H H:=fun _ _ h => h
theorem TupSame.trans {H H1 H2:Hp} (a:TupSame H H1) (b:TupSame H1 H2):TupSame H H2:=fun c o h => b c o (a c o h)
theorem Same.tups {H H':Hp} (e:Same H H'):TupSame H H':=fun b xs h => e b _ h
theorem TupSame.upd_lst {H H':Hp} {a:Addr} {o:HO} {xs:List V} (e:TupSame H H') (h:H' a = some (.lst xs)):TupSame H (upd H' a o):=fun b ys hb => by
 rw [zH (xU (e _ _ hb) h (by intro z; cases z))]
 exact e _ _ hb
theorem Same.upd {H H1:Hp} {a:Addr} {o:HO} (e:Same H H1) (h:H a = none):Same H (upd H1 a o):=fun b u hb => by
 rw [zH (yT hb h)]
 exact e _ _ hb
mutual
theorem TAt.tups {H H':Hp} (e:TupSame H H'):∀ {t:Tm} {v:V},TAt H t v -> TAt H' t v
 | .name x, v, h => by
   obtain ⟨a,e1,h2⟩:=TAt.name h
   subst e1
   exact TAt.mkName (e _ _ h2)
 | .node w ts, v, h => by
   obtain ⟨a,vs,e1,h2,hs⟩:=TAt.node h
   subst e1
   exact TAt.mkNode (e _ _ h2) (TAts.tups e hs)
theorem TAts.tups {H H':Hp} (e:TupSame H H'):∀ {ts:List Tm} {vs:List V},TAts H ts vs -> TAts H' ts vs
 | [],vs,h => h
 | t :: ts, vs, h => by
   obtain ⟨v,r,e1,e2,e3⟩:=h
   exact ⟨v,r,e1,TAt.tups e e2,TAts.tups e e3⟩
end
structure KD (w:World) (K:PySem.W.Frag) (a:Addr) (kvs:List (Key × V)):Prop where
 dict:∀ (P:Program) (h:Heap),K.In h -> ∃ vs,KV kvs vs /\ h.DictOf (yH P w) a vs
def tKGet (w:World) (K:PySem.W.Frag) (td ty:TE):TE:=fun σ H Q => td σ H fun x H1 => ty σ H1 fun y H2 => ∃ a kvs k v,x = .ref a /\ y = kV k /\ KD w K a kvs /\ yS kvs k = some v /\ Q v H2
theorem cx_w {CX:CXT} {P:Program} {w:World} {K:PySem.W.Frag} {mg:Str -> Option Value} {base:Heap} {N:List Str} {qual:Str} {scope:Scope} {f:Addr} {cd:Value} {A:Around} {outer:List Env} {s:Shared} {H:Hp} {E:XK}:(kE CX P w K mg base N qual scope f cd A outer s H E).w = w:=rfl
theorem bk_w {X:Cx} {xs ys:List Str} {scope:Scope} {C:Addr} {s₀:Shared} {H₀:Hp} {fp:List Addr}:(yQ X xs ys scope C s₀ H₀ fp).w = X.w:=rfl
theorem xN {K:PySem.W.Frag} {T:String}:PySem.W.kitOne K (.type T) (.type T) = some true:=by
 unfold PySem.W.kitOne
 rw [if_pos (by simp)]
def kitF (S T:String):Bool:=!(Value.type S == Value.type T) && PySem.W.kitMeta T && ((PySem.fastBuiltinMro S).map (·.contains (.type T)) == some false)
theorem kit_f {K:PySem.W.Frag} {S T:String} (h:kitF S T = true):PySem.W.kitOne K (.type S) (.type T) = some false:=by
 unfold kitF at h
 simp only [Bool.and_eq_true,Bool.not_eq_true',beq_iff_eq] at h
 unfold PySem.W.kitOne
 rw [if_neg (by rw [h.1.1]; decide)]
 show (if PySem.W.kitMeta T = true then PySem.W.subIn K (.type S) (.type T) else none) = _
 rw [if_pos h.1.2]
 exact h.2
theorem kit_ti {K:PySem.W.Frag}:PySem.W.kitOne K (.type "tuple") (.type "int") = some false:=kit_f (by decide +kernel)
theorem ZU {K:PySem.W.Frag}:PySem.W.kitOne K (.type "int") (.type "bool") = some false:=kit_f (by decide +kernel)
def mw (w:Str):Str:=if w = "none" then "all" else if w = "all" then "none" else if w = "both" then "either" else if w = "either" then "both" else w
mutual
def mir:Tm -> Tm
 | .name x => .name x
 | .node w ts => .node (mw w) (mirs ts)
def mirs:List Tm -> List Tm
 | [] => []
 | t :: ts => mir t :: mirs ts
end
theorem Sh.mw {w:Str} {n:Nat} (h:Sh w n):Sh (mw w) n /\ L2.mw (L2.mw w) = w:=by
 rcases h with ⟨rfl,h⟩ | ⟨rfl,h⟩ | ⟨rfl,h⟩ | ⟨rfl,h⟩ | ⟨rfl,h⟩
 · exact ⟨.inr (.inl ⟨by decide +kernel,h⟩),by decide +kernel⟩
 · exact ⟨.inl ⟨by decide +kernel,h⟩,by decide +kernel⟩
 · exact ⟨.inr (.inr (.inl ⟨by decide +kernel,h⟩)),by decide +kernel⟩
 · exact ⟨.inr (.inr (.inr (.inr ⟨by decide +kernel,h⟩))),by decide +kernel⟩
 · exact ⟨.inr (.inr (.inr (.inl ⟨by decide +kernel,h⟩))),by decide +kernel⟩
theorem uZ (x:V) (xs:List V):uD (x :: xs) (some 1) none = xs:=by
 unfold uD
 have e:HT.sIx (x :: xs).length 0 (some ((1:Nat):Int)) = 1:=by rw [HT.sIx_nat,List.length_cons]; omega
 have e:HT.sIx (x :: xs).length 0 (some 1) = 1:=e
 rw [e,HT.sIx_none,List.drop_one,List.tail_cons,List.take_of_length_le (by rw [List.length_cons]; omega)]
theorem wF (x:V) (xs:List V):¬ (HT.sIx (x :: xs).length 0 (some 1) = 0 /\ HT.sIx (x :: xs).length (x :: xs).length none = (x :: xs).length):=by
 have e:HT.sIx (x :: xs).length 0 (some ((1:Nat):Int)) = 1:=by rw [HT.sIx_nat,List.length_cons]; omega
 have e:HT.sIx (x :: xs).length 0 (some 1) = 1:=e
 rw [e]
 omega
theorem Same.tup {K:PySem.W.Frag} {H H':Hp} {a:Addr} {xs:List V} (e:Same H H') (h:SqT K H a xs):SqT K H' a xs:=by
 rcases h with (h | ⟨o,h⟩) | h
 · exact .inl (.inl (e _ _ h))
 · exact .inl (.inr ⟨o,e _ _ h⟩)
 · exact .inr h
theorem at0 {α:Type} {x:α} {xs:List α}:atI (x :: xs) 0 = some x:=zZ (j:=0) (xs:=x :: xs) rfl
theorem at1 {α:Type} {x y:α} {xs:List α}:atI (x :: y :: xs) 1 = some y:=zZ (j:=1) (xs:=x :: y :: xs) rfl
def dSay (p:Tm × Tm):Dt:=.tup [toD p.1,toD p.2]
abbrev SAts (H:Hp) (ps:List (Tm × Tm)) (vs:List V):Prop:=DAts H (ps.map dSay) vs
theorem SAts.length {H:Hp} {ps:List (Tm × Tm)} {vs:List V} (h:SAts H ps vs):vs.length = ps.length:=by
 have:=DAts.length h
 rw [List.length_map] at this
 exact this
def YE (ns:List Int) (lo hi:Option Int):List Int:=(ns.drop (HT.sIx ns.length 0 lo)).take (HT.sIx ns.length ns.length hi - HT.sIx ns.length 0 lo)
theorem cut_ints (ns:List Int) (lo hi:Option Int):uD (ns.map V.int) lo hi = (YE ns lo hi).map V.int:=by
 unfold uD YE
 rw [List.length_map,List.map_take,List.map_drop]
theorem cutI_len (ns:List Int) (lo hi:Option Int):(YE ns lo hi).length <= ns.length:=by
 unfold YE
 rw [List.length_take,List.length_drop]
 omega
section
variable {X:Cx} (K:PySem.W.Frag)
theorem qQ (h:X.K = K:=by rfl):IxR X (rIxL K):=by subst h; exact ix_list
theorem uY (h:X.K = K:=by rfl):IxR X (rIxT K):=by subst h; exact ix_tup
theorem call_lenK (h:X.K = K:=by rfl):qW X (.builtin "len") (fun xs H Q => ∃ x n,xs = [x] /\ LenV K x H n /\ Q (.int n) H):=by subst h; exact call_len
theorem kF (h:X.K = K:=by rfl):qW X (.type "list") (fun xs H Q => ∃ p ys,xs = [.ref p] /\ (SqL K H p ys \/ SqT K H p ys) /\ ∀ l,H l = none -> Q (.ref l) (upd H l (.lst ys))):=by subst h; exact call_list_of
end
end L2
namespace L2
open PySem
abbrev Cs:=List Nat
def glue (j:Cs):List Cs -> Cs
 | [] => []
 | [s] => s
 | s :: r :: q => s ++ j ++ glue j (r :: q)
def jAnd:Cs:=[32,38,32]
def jOr:Cs:=[32,124,32]
def jOf (w:Str):Cs:=if w = "both" then jAnd else jOr
def wrN (w:Str) (ss:List Cs):Cs:=if w = "not" then 33 :: ss.headD [] else if ss = [] then w.cps.toList else 40 :: (glue (jOf w) ss ++ [41])
mutual
def wr:Tm -> Cs
 | .name x => x.cps.toList
 | .node w ts => wrN w (wrs ts)
def wrs:List Tm -> List Cs
 | [] => []
 | t :: ts => wr t :: wrs ts
end
end L2
namespace L2
open PySem
def toS (s:Cs):Str:=⟨s.toArray⟩
end L2
namespace L2
open PySem PySem.Builtin PySem.Builtin.Str PySem.StrLaws
structure Mark (y:Cs) (k m:Nat):Prop where
 at_:y[k]? = some m
 once:∀ j,y[j]? = some m -> j = k
end L2
namespace L2
open PySem PySem.Spec PyProof.Rows PySem.Builtin PySem.Builtin.Str
section
variable {X:Cx}
end
structure HasM (P:Program) (w:World) (K:PySem.W.Frag) (mg:Str -> Option Value) (base:Heap) (k:Nat) (C:Addr) (m:Str) (ps:List Str) (sp:Sp):Prop where
 ex:∃ f fd,FnOk P w K mg base CX0 k f fd ps sp /\ Binds K fd ps [] /\ Meth K C m f
structure HasI (P:Program) (w:World) (K:PySem.W.Frag) (mg:Str -> Option Value) (base:Heap) (k:Nat) (C:Addr) (x:Str) (ps:List Str) (sp:Sp):Prop where
 ex:∃ f fd,FnOk P w K mg base CX0 k f fd ps sp /\ Binds K fd ps [] /\ Mk K C f /\ mg x = some (.ref C)
section
variable {X:Cx} {k:Nat} {C:Addr} {x m:Str} {ps:List Str} {sp:Sp} {p pos apos:Pos} {e o:Expr} {es:List Expr} {ta:TE} {t:TA}
theorem yC {pl:Sem Bool} (h:HasM X.prog X.w X.K X.mg X.base k C m ps sp) (c:Cls X.K C) (hr:Room k X.A) (he:PE X o ta) (ha:PA X (e :: es) t)
   (hst:starEach (e :: es) X.env = (false,eval e X.env) :: starEach es X.env:=by rfl) (hpl:(backTo pos (starEach es X.env)).any (·.1) = false:=by rfl)
   (ht:eval (.Call (.Attribute o m apos) (e :: es) [] pos) X.env = (do
     let ov ← eval o X.env
     standAt apos.atName
     let (f,first) ← holding [ov] (getMethod ov m pl)
     callWith pos f first (backTo pos (starEach (e :: es) X.env)) (backToKw pos (keywordEach [] X.env))):=by rfl) :
   PE X (.Call (.Attribute o m apos) (e :: es) [] pos) (xK C m sp [] E0 ta t):=by
 obtain ⟨f,fd,F,b,mm⟩:=h.ex
 exact pe_meth (pl:=pl) he c mm F hr b .nil pass0 ha hst hpl ht
theorem pe_makeH (h:HasI X.prog X.w X.K X.mg X.base k C x ps sp) (hr:Room (k + 1) X.A) (hg:Gl X x) (ha:PA X (e :: es) t) (hdb:(x == ("__debug__" : Str)) = false:=by decide)
   (he:starEach (e :: es) X.env = (false,eval e X.env) :: starEach es X.env:=by rfl) (hpl:(backTo pos (starEach es X.env)).any (·.1) = false:=by rfl) :
   PE X (.Call (.Name x p) (e :: es) [] pos) (tMake C sp [] E0 t):=by
 obtain ⟨f,fd,F,b,M,m⟩:=h.ex
 exact pe_make M F hr hg m b .nil pass0 ha hdb he hpl
end
def rdF (x:Cs) (k:Nat):List (Str × V):=[("text",.str (toS x)),("at",.int k)]
def RdAt (C:Addr) (H:Hp) (r:Addr) (x:Cs) (k:Nat):Prop:=∃ dx,H r = some (.ins C dx (rdF x k))
def SameX (r:Addr) (H H':Hp):Prop:=∀ b o,H b = some o -> b ≠ r -> H' b = some o
theorem SameX.refl (r:Addr) (H:Hp):SameX r H H:=fun _ _ h _ => h
theorem SameX.trans {r:Addr} {H H1 H2:Hp} (a:SameX r H H1) (b:SameX r H1 H2):SameX r H H2:=fun c o h n => b c o (a c o h n) n
theorem Same.x {r:Addr} {H H':Hp} (a:Same H H'):SameX r H H':=fun c o h _ => a c o h
theorem SameX.upd {r:Addr} {H H1:Hp} {o:HO} (a:SameX r H H1):SameX r H (L2.upd H1 r o):=fun c o' h n => by
 rw [zH n]
 exact a c o' h n
theorem SameX.tups {r:Addr} {H H':Hp} {C:Addr} {x:Cs} {k:Nat} (a:SameX r H H') (h:RdAt C H r x k):TupSame H H':=fun b xs e => by
 obtain ⟨dx,h⟩:=h
 exact a b _ e (xU e h (by intro z; cases z))
theorem F.lk_list_keys:typeLookup (.type "list") "keys" = pure none:=by rw [typeLookup_type,PySem.builtinLookup_eq_fast]; kernel_rfl
theorem F.lk_list_ga:typeLookup (.type "list") "__getattr__" = pure none:=by rw [typeLookup_type,PySem.builtinLookup_eq_fast]; kernel_rfl
theorem F.sub_ae:isSubtype (.type "AttributeError") (.type "AttributeError") = pure true:=by rw [isSubtype_type]; kernel_rfl
def AeAt (h h':Heap) (e:Addr):Prop:=(∀ b u,h.get? b = some u -> h'.get? b = some u) /\ ∃ o,h'.get? e = some o /\ o.cls = .type "AttributeError"
section
variable {prog:Program} {w:World} {A:Around} {E:Value -> Shared -> Prop} {s:Shared} {a:Addr} {its:Array Value} {n:Nat} {sl:Array (Option Value)}
theorem raiseAttr {α:Type} {o:Value} {name msg:Str} {Q:α -> Shared -> Prop} (hA:A.handled = none) (hm:msg.length <= sizeLine)
   (hq:∀ h' t' e,AeAt s.heap h' e -> E (.ref e) { s with heap:=h',toks:=t' }):wpAny (model prog w) A (raiseAttrError o name msg:Sem α) Q E s:=by
 unfold raiseAttrError
 refine wpAny_bind (wpAny_mkStr (wpAny_bind ?_) hm)
 unfold newExc newTuple
 refine wpAny_bind (wpAny_newObj_type ?_ (by size_fits))
 refine wpAny_bind (m:=firstArgMember _ _) (wpAny_of_eq (a:=Value.none) (by
   simp only [firstArgMember]
   rw [show ((Manifest.find? "AttributeError").elim false fun t => t.mro.contains "StopIteration" || t.mro.contains "SystemExit") = false by decide +kernel]
   rfl) ?_)
 refine wpAny_newObj_type ?_ (by size_fits)
 refine wpAny_bind (wpAny_mkText ?_)
 refine wpAny_bind ?_
 obtain ⟨h,g,d,t,os⟩:=s
 dsimp only at hq ⊢
 have hk1:∀ b u,h.get? b = some u -> (h.push { cls:=Value.type "tuple",data:=Data.seq #[Value.str msg t] }).get? b = some u:=fun b u e => Heap.get?_push_of_some _ e
 generalize h.push { cls:=Value.type "tuple",data:=Data.seq #[Value.str msg t] } = h1 at hk1 ⊢
 have hE:=Heap.get?_push_size h1 (o:={ cls:=Value.type "AttributeError",data:=Data.fields (#[Value.ref h.objs.size,Value.none,Value.none,Value.none,Value.bool false,Value.none] ++ ownMembersOf (Value.type "AttributeError") [Value.str msg t]) }) rfl
 have hk2:∀ b u,h1.get? b = some u -> (h1.push { cls:=Value.type "AttributeError",data:=Data.fields (#[Value.ref h.objs.size,Value.none,Value.none,Value.none,Value.bool false,Value.none] ++ ownMembersOf (Value.type "AttributeError") [Value.str msg t]) }).get? b = some u:=fun b u e => Heap.get?_push_of_some _ e
 have hne:∀ b u,h1.get? b = some u -> b ≠ h1.objs.size:=fun b u e => Nat.ne_of_lt (Heap.lt_size e)
 generalize h1.push { cls:=Value.type "AttributeError",data:=Data.fields (#[Value.ref h.objs.size,Value.none,Value.none,Value.none,Value.bool false,Value.none] ++ ownMembersOf (Value.type "AttributeError") [Value.str msg t]) } = h2 at hE hk2 ⊢
 generalize h1.objs.size = e at hE hne ⊢
 have hT:(⟨h2,g,d,t + 1 + 1,os⟩:Shared).TypeIs (.ref e) "AttributeError":=⟨_,hE,rfl⟩
 have f1:=F.sub_ae
 unfold noteAttr
 dsimp only
 refine wpAny_bind ?_
 unfold lacksNameAndObj
 dsimp only
 refine wpAny_bind (wpAny_isInstance hT f1 ?_)
 rw [if_neg (by decide)]
 refine wpAny_bind (wpAny_load hE ?_)
 dsimp only
 rw [if_neg (by simp [ownMembersOf,unsetMember,rawInt]),if_neg (by simp [ownMembersOf,unsetMember,doubtfulMember,rawInt])]
 refine wpAny_pure ?_
 rw [if_pos rfl]
 refine wpAny_bind (wpAny_rule ?_)
 refine wpAny_bind (wpAny_typeOf hT ?_)
 dsimp only
 unfold layMembers
 refine wpAny_bind (wpAny_load hE ?_)
 dsimp only
 refine wpAny_update hE ?_
 refine wpAny_raiseNew_none hA (hq _ _ _ ⟨fun b u hb => ?_,⟨_,Heap.get?_update_self _ hE (Obj.isFreed_of_fields (Obj.data_mapFields rfl _)),Obj.cls_mapFields _ _⟩⟩)
 exact (Heap.get?_update_other _ _ (Ne.symm (hne b u (hk1 b u hb)))).trans (hk2 b u (hk1 b u hb))
end
section
variable {prog:Program} {w:World} {A:Around} {E:Value -> Shared -> Prop} {h:Heap} {g:Array GenState} {d:Drawn} {t:Nat} {os:OsState} {a:Addr} {its:Array Value} {n:Nat} {sl:Array (Option Value)}
theorem ZS {tk:Tok} {Q:PySem.Fin -> Shared -> Prop} (hA:A.handled = none) (hx:h.get? a = some ⟨.type "list",none,.seq its n,sl⟩)
   (hq:∀ h' t' e,AeAt h h' e -> E (.ref e) ⟨h',g,d,t',os⟩) :
   wpAny (model prog w) A (Builtin.«object.__getattribute__» ⟨[.ref a,.str "keys" tk],[]⟩) Q E ⟨h,g,d,t,os⟩:=by
 have hT:(⟨h,g,d,t,os⟩:Shared).TypeIs (.ref a) "list":=⟨_,hx,rfl⟩
 have f4:=F.lk_list_keys
 repeat (any_goals (first | assumption | wp_step))
 exact raiseAttr hA (by decide +kernel) hq
theorem nokeys_call {tk:Tok} {R:Result -> Shared -> Prop} (hA:A.handled = none) (hx:h.get? a = some ⟨.type "list",none,.seq its n,sl⟩)
   (hq:∀ h' t' e,AeAt h h' e -> R (.error (.ref e)) ⟨h',g,d,t',os⟩) :
   codeAny (model prog w) A (.call (.builtin "list.__getattribute__") ⟨[.ref a,.str "keys" tk],[]⟩) R ⟨h,g,d,t,os⟩ :=
 codeAny_call_builtin PySem.F.slot_list_getattribute.plain PySem.F.entry_list_ga (PySem.F.slot_list_getattribute.check _ _ _ _ _ _ _ _ (show (⟨h,g,d,t,os⟩:Shared).TypeIs (.ref a) "list" from ⟨_,hx,rfl⟩) (PySem.F.args_list_getattribute_2 _ _) (ZS hA hx hq))
theorem nokeys_by {tk:Tok} {Q:Value -> Shared -> Prop} (hA:A.handled = none) (hx:h.get? a = some ⟨.type "list",none,.seq its n,sl⟩)
   (hq:∀ h' t' e,AeAt h h' e -> E (.ref e) ⟨h',g,d,t',os⟩):wpAny (model prog w) A (getAttrBy (.ref a) (.str "keys" tk) false) Q E ⟨h,g,d,t,os⟩:=by
 have hT:(⟨h,g,d,t,os⟩:Shared).TypeIs (.ref a) "list":=⟨_,hx,rfl⟩
 have f2:=PySem.F.slot_list_getattribute.lookup
 have f3:=PySem.F.slot_list_getattribute.bind (.ref a)
 have f5:=F.lk_list_ga
 have f6:=F.sub_ae
 repeat (any_goals (first | assumption | wp_step))
 refine nokeys_call hA hx fun h' t' e ae => ?_
 have hT2:(⟨h',g,d,t',os⟩:Shared).TypeIs (.ref e) "AttributeError":=ae.2
 repeat (any_goals (first | assumption | exact hq _ _ _ ae | wp_step))
theorem nokeys {Q:Option Value -> Shared -> Prop} (hA:A.handled = none) (hx:h.get? a = some ⟨.type "list",none,.seq its n,sl⟩)
   (hq:∀ h' t',(∀ b u,h.get? b = some u -> h'.get? b = some u) -> Q none ⟨h',g,d,t',os⟩):wpAny (model prog w) A (getAttr? (.ref a) "keys") Q E ⟨h,g,d,t,os⟩:=by
 unfold getAttr? getAttrBy?
 refine wpAny_bind (wpAny_mkText (wpAny_bind (wpAny_attempt (nokeys_by hA hx fun h' t' e ae => ?_))))
 dsimp only
 have hT2:(⟨h',g,d,t',os⟩:Shared).TypeIs (.ref e) "AttributeError":=ae.2
 refine wpAny_bind (wpAny_isInstance hT2 F.sub_ae ?_)
 rw [if_pos rfl]
 exact wpAny_pure (hq _ _ ae.1)
end
theorem F.plain_dul:plainId "dict.update.loop" = true:=by decide +kernel
theorem F.entry_dul:entryFor table "dict.update.loop" = some Builtin.«dict.update.loop»:=entryFor_of_tree (by kernel_rfl)
section
variable {prog:Program} {w:World} {Kt:Type} [DecidableEq Kt] {knd:KeyKind prog w Kt} {A:Around} {E:Value -> Shared -> Prop} {s:Shared}
theorem stored_take {kvs:List (Kt × Value)} (hn:(kvs.map (·.1)).Nodup) {i:Nat} {k:Kt} {v:Value} (h:kvs[i]? = some (k,v)):stored (kvs.take i) k v = kvs.take (i + 1):=by
 obtain ⟨il,ie⟩:=List.getElem?_eq_some_iff.mp h
 have hno:(kvs.take i).any (fun kv => kv.1 = k) = false:=by
   rw [Bool.eq_false_iff]
   intro z
   obtain ⟨x,hx,hk⟩:=List.any_eq_true.mp z
   have hk:x.1 = k:=by simpa using hk
   obtain ⟨j,hj,e⟩:=List.getElem_of_mem hx
   rw [List.length_take] at hj
   rw [List.getElem_take] at e
   exact List.pairwise_iff_getElem.mp hn j i (by rw [List.length_map]; omega) (by rw [List.length_map]; omega) (by omega) (by simp [e,ie,hk])
 unfold stored
 rw [hno,List.take_succ_eq_append_getElem il,ie]
 rfl
theorem pairs_loop {R:Result -> Shared -> Prop} {d it l:Addr} {its:Array Value} {kvs:List (Kt × Value)} {h0:Heap} (hA:A.handled = none) (hdi:d ≠ it) (hl:h0.IsList l its) (hd0:∀ u,h0.get? d ≠ some u) (hi0:∀ u,h0.get? it ≠ some u)
   (hn:(kvs.map (·.1)).Nodup) (hsz:kvs.length <= sizeLine) (hlen:its.size = kvs.length) (hp:∀ (i:Nat) (k:Kt) (v:Value),kvs[i]? = some (k,v) -> ∃ (a:Addr) (key:Value),its[i]? = some (Value.ref a) /\ IsTup h0 a #[key,v] /\ knd.is k key = true) :
   ∀ (m i:Nat) (t:Tok) (s:Shared),kvs.length - i = m -> i <= kvs.length -> s.heap.IsListIter it l i -> s.heap.DictOf knd d (kvs.take i) -> (∀ b u,h0.get? b = some u -> s.heap.get? b = some u) ->
   (∀ h' t',(∀ b u,h0.get? b = some u -> h'.get? b = some u) -> h'.DictOf knd d kvs -> R (.ok (.ret .none)) { s with heap:=h',toks:=t' }) ->
   codeAny (model prog w) A (.builtin "dict.update.loop" ⟨[.ref d,.ref it,.int i t,.none],[]⟩) R s:=by
 intro m
 induction m with
 | zero =>
   intro i t s hm hi hit hd hk hR
   have hin:i = kvs.length:=by omega
   subst hin
   have hl':s.heap.IsList l its:=by obtain ⟨o,ho,r⟩:=hl; exact ⟨o,hk _ _ ho,r⟩
   refine codeAny_builtin F.entry_dul ?_
   rw [Around.under_plainId F.plain_dul _]
   show wpAny _ A.in1 (pyNext (.ref it) >>= _) _ _ s
   refine wpAny_bind (wpAny_pyNext_list_end (A:=A.in1) hA hit hl' (by rw [Array.getElem?_eq_none_iff]; omega) fun h' he => ?_)
   rw [List.take_of_length_le (Nat.le_refl _)] at hd
   show wpAny _ A.in1 (Builtin.Dict.addKeywords d [] >>= _) _ _ _
   refine wpAny_bind (wpAny_pure (wpAny_pure (hR h' s.toks (fun b u hb => he b u (fun z => hi0 u (by rw [← z]; exact hb)) (hk b u hb)) (hd.extBut he hdi))))
 | succ m ih =>
   intro i t s hm hi hit hd hk hR
   have hlt:i < kvs.length:=by omega
   have hl':s.heap.IsList l its:=by obtain ⟨o,ho,r⟩:=hl; exact ⟨o,hk _ _ ho,r⟩
   obtain ⟨a,key,ha,ht,hkey⟩:=hp i kvs[i].1 kvs[i].2 (List.getElem?_eq_getElem hlt)
   refine codeAny_builtin F.entry_dul ?_
   rw [Around.under_plainId F.plain_dul _]
   show wpAny _ A.in1 (pyNext (.ref it) >>= _) _ _ s
   refine wpAny_bind (wpAny_pyNext_list_item (A:=A.in1) hit hl' ha fun h1 hit1 hs1 => ?_)
   have hk1:∀ b u,h0.get? b = some u -> h1.get? b = some u:=fun b u hb => (hs1.2 b (fun z => hi0 u (by rw [← z]; exact hb))).trans (hk b u hb)
   have hd1:h1.DictOf knd d (kvs.take i):=hd.sameBut hs1 hdi
   obtain ⟨ot,hot,hct,nt,hdt⟩:=ht
   have hot1:=hk1 _ _ hot
   have hT:({ s with heap:=h1 }:Shared).TypeIs (.ref a) "tuple":=⟨_,hot1,hct⟩
   refine wpAny_bind (wpAny_holding (wpAny_bind ?_))
   refine wpAny_tryCatch ?_
   unfold Builtin.Dict.pairItems
   refine wpAny_bind (wpAny_typeOf hT ?_)
   rw [if_pos (by decide)]
   refine wpAny_bind (wpAny_seqItems hot1 hdt (wpAny_pure ?_))
   refine wpAny_holding (wpAny_dictSet_pairs (kvs:=kvs.take i) hkey hd1 (fun h2 hd2 hs2 => ?_) (by rw [List.length_take]; omega))
   rw [stored_take hn (show kvs[i]? = some (kvs[i].1,kvs[i].2) from List.getElem?_eq_getElem hlt)] at hd2
   refine wpAny_pure ⟨plainId_quiet F.plain_dul _,?_⟩
   have hk2:∀ b u,h0.get? b = some u -> h2.get? b = some u:=fun b u hb => (hs2.2 b (fun z => hd0 u (by rw [← z]; exact hb))).trans (hk1 b u hb)
   have hit2:h2.IsListIter it l (i + 1):=by obtain ⟨o,ho,r⟩:=hit1; exact ⟨o,(hs2.2 _ (Ne.symm hdi)).trans ho,r⟩
   exact ih (i + 1) _ { s with heap:=h2,toks:=s.toks + 1 } (by omega) hlt hit2 hd2 hk2 hR
theorem vS {l:Addr} {its:Array Value} {kvs:List (Kt × Value)} {Q:Value -> Shared -> Prop} (hA:A.handled = none) (hl:PlainL s.heap l its)
   (hn:(kvs.map (·.1)).Nodup) (hsz:kvs.length <= sizeLine) (hlen:its.size = kvs.length) (hp:∀ (i:Nat) (k:Kt) (v:Value),kvs[i]? = some (k,v) -> ∃ (a:Addr) (key:Value),its[i]? = some (Value.ref a) /\ IsTup s.heap a #[key,v] /\ knd.is k key = true)
   (h:∀ h' t',(∀ b u,s.heap.get? b = some u -> h'.get? b = some u) -> h'.DictOf knd s.heap.objs.size kvs -> Q (.ref s.heap.objs.size) { s with heap:=h',toks:=t' }) :
   wpAny (model prog w) A (call (.type "dict") [.ref l]) Q E s:=by
 refine callType_codes (Q₁:=fun obj s₁ => obj = .ref s.heap.objs.size /\ s₁ = { s with heap:=s.heap.push { cls:=.type "dict",data:=.dict #[] } }) PySem.F.kt_called_dict (PySem.F.kt_typeCall_dict_1 _) PySem.F.entry_dict_init (kt_code_dict_new _ ⟨rfl,rfl⟩) ?_
 rintro obj s₁ ⟨rfl,rfl⟩
 have hnew:(s.heap.push { cls:=.type "dict",data:=.dict #[] }).DictOf knd s.heap.objs.size []:=Heap.DictOf.new s.heap
 refine ⟨hnew.typeIs,PySem.F.args_dict_init_2 _ _,?_⟩
 obtain ⟨ol,nl,hol,hlc,hld,hls⟩:=hl
 have hol1:(s.heap.push { cls:=.type "dict",data:=.dict #[] }).get? l = some ol:=Heap.get?_push_of_some _ hol
 have hT:({ s with heap:=s.heap.push { cls:=.type "dict",data:=.dict #[] } }:Shared).TypeIs (.ref l) "list":=⟨_,hol1,hlc⟩
 unfold Builtin.«dict.__init__»
 refine wpAny_bind ?_
 unfold Builtin.Dict.selfAndRest
 refine wpAny_bind (wpAny_notOrdered_dict hnew.typeIs ?_)
 show wpAny _ _ (pure (s.heap.objs.size,[Value.ref l])) _ _ _
 refine wpAny_pure ?_
 show wpAny _ _ (Builtin.Dict.updateFrom "dict.__init__" s.heap.objs.size (.ref l) [] .none) _ _ _
 unfold Builtin.Dict.updateFrom
 refine wpAny_bind (wpAny_typeOf hT ?_)
 rw [if_pos (by decide)]
 have hkd:∀ b u,s.heap.get? b = some u -> (s.heap.push { cls:=.type "dict",data:=.dict #[] }).get? b = some u:=fun b u e => Heap.get?_push_of_some _ e
 have hd0:∀ u,s.heap.get? s.heap.objs.size ≠ some u:=fun u z => Nat.lt_irrefl _ (Heap.lt_size z)
 obtain ⟨hp0,g,d,t,os⟩:=s
 dsimp only at *
 generalize hp0.push { cls:=.type "dict",data:=.dict #[] } = h1 at hnew hol1 hT hkd ⊢
 generalize hp0.objs.size = D at hnew hd0 h ⊢
 obtain ⟨c1,c2,c3,c4⟩:=ol
 dsimp only at hlc hld hls
 subst hlc hld hls
 refine wpAny_bind (nokeys (A:=A.in1.in1) hA hol1 fun h2 t2 hk2 => ?_)
 rw [if_pos (by rfl)]
 refine wpAny_bind (wpAny_rule ?_)
 have hl2:h2.IsList l its:=⟨_,hk2 _ _ hol1,rfl,_,rfl⟩
 refine wpAny_bind (wpAny_pyIter_list hl2 ?_)
 refine wpAny_pure ⟨plainId_quiet F.plain_dul _,?_⟩
 have hd2:=hnew.keep hk2
 have hit0:∀ u,hp0.get? h2.objs.size ≠ some u:=fun u z => Nat.lt_irrefl _ (Heap.lt_size (hk2 _ _ (hkd _ _ z)))
 have hDi:D ≠ h2.objs.size:=fun z => by
   obtain ⟨o,_,_,ho,_⟩:=hd2
   exact Nat.lt_irrefl _ (by have:=Heap.lt_size ho; rw [z] at this; exact this)
 refine pairs_loop (h0:=hp0) (kvs:=kvs) (A:=A.in1) hA hDi ⟨_,hol,rfl,_,rfl⟩ hd0 hit0 hn hsz hlen hp kvs.length 0 _ _ (by omega) (Nat.zero_le _) ⟨_,Heap.get?_push_size _ rfl,rfl,rfl⟩ (hd2.push _) (fun b u hb => Heap.get?_push_of_some _ (hk2 _ _ (hkd _ _ hb))) fun h' t' hk' hd' => ?_
 exact ⟨rfl,h h' t' hk' hd'⟩
end
section
variable {X:Cx}
theorem pairs_of {P:Program} {w:World} {h:Heap}:∀ (kvs:List (Key × V)) (as:List Addr),(∀ (i:Nat) (k:Key) (v:V),kvs[i]? = some (k,v) -> ∃ a its,as[i]? = some a /\ Vals [kV k,v] its /\ IsTup h a its.toArray) ->
   ∃ vs:List (Key × Value),KV kvs vs /\ ∀ (i:Nat) (k:Key) (v:Value),vs[i]? = some (k,v) -> ∃ (a:Addr) (key:Value),as[i]? = some a /\ IsTup h a #[key,v] /\ (yH P w).is k key = true
 | [],as,_ => ⟨[],.nil,fun i k v e => by simp at e⟩
 | (k, v) :: kvs, as, hh => by
   obtain ⟨a,its,h1,h2,h3⟩:=hh 0 k v rfl
   cases as with
   | nil => simp at h1
   | cons a0 as =>
     simp at h1
     subst h1
     obtain ⟨ku,vu,rfl,rk,rv⟩:=h2.two
     obtain ⟨vs,g1,g2⟩:=pairs_of (P:=P) (w:=w) kvs as fun i k v e => by
       obtain ⟨a,its,e1,e2⟩:=hh (i + 1) k v (by simpa using e)
       exact ⟨a,its,by simpa using e1,e2⟩
     refine ⟨(k,vu) :: vs,.cons ⟨rfl,rv⟩ g1,fun i k' v' e => ?_⟩
     cases i with
     | zero =>
       simp at e
       obtain ⟨rfl,rfl⟩:=e
       exact ⟨a0,ku,rfl,h3,vM rk⟩
     | succ i =>
       obtain ⟨a,key,e1,e2⟩:=g2 i k' v' (by simpa using e)
       exact ⟨a,key,by simpa using e1,e2⟩
theorem ZT {κ:Type}:∀ {kvs:List (κ × V)} {vs:List (κ × Value)},KV kvs vs -> vs.map (·.1) = kvs.map (·.1)
 | _,_,.nil => rfl
 | _,_,.cons h r => by rw [List.map_cons,List.map_cons,ZT r,h.1]
theorem call_dictP:qW X (.type "dict") (fun xs H Q => X.calm = true /\ ∃ (p:Addr) (as:List Addr) (kvs:List (Key × V)),xs = [.ref p] /\ SqL X.K H p (as.map V.ref) /\ as.length = kvs.length /\ (kvs.map (·.1)).Nodup /\
   (∀ (i:Nat) (k:Key) (v:V),kvs[i]? = some (k,v) -> ∃ a,as[i]? = some a /\ SqT X.K H a [kV k,v]) /\ ∀ l,H l = none -> Q (.ref l) (upd H l (.dK kvs))):=by
 intro pins s σ H xs us Q I r h
 obtain ⟨hc,p,as,kvs,rfl,hp,hlen,hn,hk,q⟩:=h
 obtain ⟨u,rfl,ru⟩:=kI r
 cases ru
 obtain ⟨its,rv,hl,hz⟩:=I.list hp
 have hil:=rv.length
 rw [List.length_map] at hil hz
 obtain ⟨vs,g1,g2⟩:=pairs_of (P:=X.prog) (w:=X.w) (h:=s.heap) kvs as fun i k v e => by
   obtain ⟨a,e1,e2⟩:=hk i k v e
   obtain ⟨its,r2,t2,_⟩:=I.tuple e2
   exact ⟨a,its,e1,r2,t2⟩
 have hvl:kvs.length = vs.length:=Paired.length g1
 refine vS (knd:=yH X.prog X.w) (kvs:=vs) (I.ok.hd hc) hl (by rw [ZT g1]; exact hn) (by omega) (by rw [List.size_toArray]; omega) (fun i k v e => ?_) fun h' t' hk' hd' => ?_
 · obtain ⟨a, key, e1, e2, e3⟩ := g2 i k v e
   obtain ⟨u,h1,h2⟩:=rv.get (i:=i) (x:=V.ref a) (by rw [List.getElem?_map,e1]; rfl)
   cases h2
   exact ⟨a,key,by simpa using h1,e2,e3⟩
 · exact ⟨.ref s.heap.objs.size,_,I.laid (a:=s.heap.objs.size) (o:=.dK kvs) (t':=t') hk' (Nat.le_refl _) (dk_new (by omega) (beq_eq_false_iff_ne.mpr (Ne.symm (Nat.ne_of_lt I.big))) g1 hd'),rfl,q _ (I.hok.fresh (Nat.le_refl _))⟩
end
end L2
namespace L2
open PySem PySem.Spec PyProof.Rows PySem.W
section
variable {prog:Program} {w:World} {A:Around} {E:Value -> Shared -> Prop} {s:Shared} {T:String} {r d:Addr} {n:Nat} {P:Nat -> Value -> Prop} {OK:Heap -> Prop}
end
section
variable {X:Cx}
end
section
variable {X:Cx}
end
end L2
namespace L2
open PySem PyProof.Rows
section
variable {prog:Program} {w:World} {A:Around} {E:Value -> Shared -> Prop} {s:Shared}
end
end L2
namespace L2
open PySem PyProof.Rows
section
variable {prog:Program} {w:World} {A:Around} {E:Value -> Shared -> Prop} {s:Shared}
end
end L2
namespace L2
open PySem PyProof.Rows
section
variable {prog:Program} {w:World} {A:Around} {E:Value -> Shared -> Prop} {s:Shared}
end
end L2
namespace L2
open PySem PyProof.Rows
section
variable {prog:Program} {w:World} {A:Around} {R:Result -> Shared -> Prop} {I:Addr} {fp wr:List Addr} {G:Array GenState -> Array GenState -> Prop} {n:Nat} {P:Nat -> Value -> Prop} {St:Nat -> Shared -> Prop}
end
section
variable {prog:Program} {w:World} {A:Around} {E:Value -> Shared -> Prop} {s:Shared}
end
end L2
namespace L2
open PySem PyProof.Rows
section
variable {prog:Program} {w:World} {A:Around} {E:Value -> Shared -> Prop} {s:Shared}
end
end L2
namespace L2
open PySem PySem.Spec PyProof.Rows PySem.SeqAt
mutual
def deq:Dt -> Dt -> Bool
 | .non,.non => true
 | .bl a,.bl b => a == b
 | .int a,.int b => a == b
 | .bl a,.int b => (if a then 1 else 0) == b
 | .int a,.bl b => a == (if b then 1 else 0)
 | .str a,.str b => a == b
 | .tup xs,.tup ys => deqs xs ys
 | .lst xs,.lst ys => deqs xs ys
 | _,_ => false
def deqs:List Dt -> List Dt -> Bool
 | [],[] => true
 | x :: xs,y :: ys => deq x y && deqs xs ys
 | _,_ => false
end
mutual
theorem deq_refl:∀ d:Dt,deq d d = true
 | .non => rfl
 | .bl a => by simp [deq]
 | .int a => by simp [deq]
 | .str a => by simp [deq]
 | .tup ds => by rw [deq]; exact deqs_refl ds
 | .lst ds => by rw [deq]; exact deqs_refl ds
theorem deqs_refl:∀ ds:List Dt,deqs ds ds = true
 | [] => rfl
 | d :: ds => by rw [deqs,deq_refl d,deqs_refl ds]; rfl
end
def eat (xs ys:List Dt) (j:Nat):Bool :=
 match xs[j]?,ys[j]? with
 | some x,some y => deq x y
 | _,_ => false
theorem deqs_all:∀ xs ys:List Dt,((List.range (min xs.length ys.length)).all (eat xs ys) && xs.length == ys.length) = deqs xs ys
 | [],[] => rfl
 | [],y :: ys => by simp [deqs]
 | x :: xs,[] => by simp [deqs]
 | x :: xs, y :: ys => by
   rw [deqs,← deqs_all xs ys,List.length_cons,List.length_cons,Nat.succ_min_succ,List.range_succ_eq_map,List.all_cons,List.all_map]
   have e1:eat (x :: xs) (y :: ys) 0 = deq x y:=rfl
   have e2:eat (x :: xs) (y :: ys) ∘ Nat.succ = eat xs ys:=by funext j; simp [eat]
   rw [e1,e2,Bool.and_assoc]
   congr 2
   rw [Bool.eq_iff_iff]
   simp
mutual
theorem DAt.one_of {H:Hp}:∀ {d d':Dt} {v:V},DAt H d v -> DAt H d' v -> d = d'
 | d,.non,v,h,h' => by have h':v = .non:=h'; subst h'; cases d <;> simp_all [DAt]
 | d,.bl b,v,h,h' => by have h':v = .bl b:=h'; subst h'; cases d <;> simp_all [DAt]
 | d,.int b,v,h,h' => by have h':v = .int b:=h'; subst h'; cases d <;> simp_all [DAt]
 | d,.str b,v,h,h' => by have h':v = .str b:=h'; subst h'; cases d <;> simp_all [DAt]
 | d, .tup ds', v, h, h' => by
   obtain ⟨a,vs,rfl,e2,e3⟩:=h'
   cases d with
   | tup ds =>
     obtain ⟨a',vs',e1',e2',e3'⟩:=h
     cases e1'
     rw [e2] at e2'
     cases e2'
     rw [DAts.one_of e3' e3]
   | lst ds =>
     obtain ⟨a',vs',e1',e2',e3'⟩:=h
     cases e1'
     rw [e2] at e2'
     cases e2'
   | _ => cases h
 | d, .lst ds', v, h, h' => by
   obtain ⟨a,vs,rfl,e2,e3⟩:=h'
   cases d with
   | lst ds =>
     obtain ⟨a',vs',e1',e2',e3'⟩:=h
     cases e1'
     rw [e2] at e2'
     cases e2'
     rw [DAts.one_of e3' e3]
   | tup ds =>
     obtain ⟨a',vs',e1',e2',e3'⟩:=h
     cases e1'
     rw [e2] at e2'
     cases e2'
   | _ => cases h
theorem DAts.one_of {H:Hp}:∀ {ds ds':List Dt} {vs:List V},DAts H ds vs -> DAts H ds' vs -> ds = ds'
 | ds, [], vs, h, h' => by
   have h':vs = []:=h'
   subst h'
   cases ds with
   | nil => rfl
   | cons d ds => obtain ⟨v,r,e,_⟩:=h; cases e
 | ds, d' :: ds', vs, h, h' => by
   obtain ⟨v,r,rfl,e2,e3⟩:=h'
   cases ds with
   | nil => cases h
   | cons d ds =>
     obtain ⟨v',r',e,e2',e3'⟩:=h
     cases e
     rw [DAt.one_of e2' e2,DAts.one_of e3' e3]
end
section
variable {P:Program} {w:World} {H:Hp} {s:Shared}
theorem DAts.tup_of (ok:HOk P w H s.heap) {a:Addr} {vs:List V} (h:H a = some (.tup vs)):∃ its:List Value,Vals vs its /\ s.heap.IsTuple a its.toArray:=by
 obtain ⟨z,its,r,p⟩:=ok a _ h
 exact ⟨its,r,p⟩
theorem DAts.lst_of (ok:HOk P w H s.heap) {a:Addr} {vs:List V} (h:H a = some (.lst vs)):∃ its:List Value,Vals vs its /\ s.heap.IsList a its.toArray:=by
 obtain ⟨z,its,n,r,p⟩:=ok a _ h
 exact ⟨its,r,_,p,rfl,n,rfl⟩
theorem vals_at:∀ {xs:List V} {us:List Value} {i:Nat} {x:V} {u:Value},Vals xs us -> xs[i]? = some x -> us[i]? = some u -> RelV x u
 | _,_,_,_,_,.nil,h,_ => by simp at h
 | _, _, 0, _, _, .cons r q, h, h' => by
   simp at h h'
   subst h
   subst h'
   exact r
 | _,_,i + 1,_,_,.cons r q,h,h' => vals_at q (by simpa using h) (by simpa using h')
theorem rc_lists (ok:HOk P w H s.heap) {n:Nat} {A:Around} (ih:∀ {A:Around} {d d':Dt} {v v':V} {u u':Value},DAt H d v -> DAt H d' v' -> RelV v u -> RelV v' u' -> DFit n d -> A.units + n < cLine -> EqAt A s u u' (deq d d'))
   {l l':Addr} {ds ds':List Dt} {vs vs':List V} {its its':List Value} (hs:DAts H ds vs) (hs':DAts H ds' vs') (rv:Vals vs its) (rv':Vals vs' its') (hl:s.heap.IsList l its.toArray) (hl':s.heap.IsList l' its'.toArray)
   (f:∀ d ∈ ds,DFit n d) (hu:A.units + (n + 1) < cLine):RcAt A s (.ref l) (.ref l') (deqs ds ds'):=by
 have k1:=hs.length
 have k2:=hs'.length
 have k3:=rv.length
 have k4:=rv'.length
 by_cases hz:ds.length = ds'.length
 · have key := RcAt.lists (A := A) (e := eat ds ds') hl hl' (by rw [List.size_toArray, List.size_toArray]; omega) (by omega) fun j h1 h2 => ?_
   · rw [← deqs_all, hz, Nat.min_self, beq_self_eq_true, Bool.and_true]
     rw [List.size_toArray] at key
     rw [show ds'.length = its.length by omega]
     exact key
   · rw [List.size_toArray] at h1 h2
     have hj:j < ds.length:=by omega
     have hj':j < ds'.length:=by omega
     obtain ⟨x,x1,x2⟩:=hs.get (List.getElem?_eq_getElem hj)
     obtain ⟨y,y1,y2⟩:=hs'.get (List.getElem?_eq_getElem hj')
     have e1:eat ds ds' j = deq ds[j] ds'[j]:=by unfold eat; rw [List.getElem?_eq_getElem hj,List.getElem?_eq_getElem hj']
     rw [e1]
     refine ih x2 y2 ?_ ?_ (f _ (List.getElem_mem hj)) (by show A.units + 1 + n < cLine; omega)
     · exact vals_at rv x1 (by rw [List.getElem_toArray]; exact List.getElem?_eq_getElem h1)
     · exact vals_at rv' y1 (by rw [List.getElem_toArray]; exact List.getElem?_eq_getElem h2)
 · have hf : deqs ds ds' = false := by rw [← deqs_all, show (ds.length == ds'.length) = false by simpa using hz, Bool.and_false]
   rw [hf]
   exact RcAt.lists_lengths hl hl' (by rw [List.size_toArray,List.size_toArray]; simp; omega) (by omega)
theorem deq_same (ok:HOk P w H s.heap) {A:Around} {d:Dt} {v:V} {u u':Value} (h:DAt H d v) (r:RelV v u) (r':RelV v u'):EqAt A s u u' true:=by
 cases d with
 | non => have h:v = .non:=h; subst h; cases r; cases r'; exact EqAt.same _
 | bl a => have h:v = .bl a:=h; subst h; cases r; cases r'; exact EqAt.same _
 | int a =>
   have h:v = .int a:=h
   subst h
   obtain ⟨t,rfl⟩:=r
   obtain ⟨t',rfl⟩:=r'
   have:=EqAt.int_int (A:=A) (s:=s) a t a t'
   rwa [beq_self_eq_true] at this
 | str a =>
   have h:v = .str a:=h
   subst h
   obtain ⟨t,rfl⟩:=r
   obtain ⟨t',rfl⟩:=r'
   have:=EqAt.str_str (A:=A) (s:=s) a t a t'
   rwa [beq_self_eq_true] at this
 | tup ds => obtain ⟨l,vs,rfl,_⟩:=h; cases r; cases r'; exact EqAt.same _
 | lst ds => obtain ⟨l,vs,rfl,_⟩:=h; cases r; cases r'; exact EqAt.same _
theorem YC (ok:HOk P w H s.heap) {A:Around} {d d':Dt} {v v':V} {u u':Value} (h:DAt H d v) (h':DAt H d' v') (r:RelV v u) (r':RelV v' u') (hu:A.units < cLine) (hk:∀ ds ds',¬ (d = .tup ds /\ d' = .tup ds') /\ ¬ (d = .lst ds /\ d' = .lst ds')):EqAt A s u u' (deq d d'):=by
 cases d with
 | non =>
   have h:v = .non:=h
   subst h
   cases r
   cases d' with
   | non =>
     have h':v' = .non:=h'
     subst h'
     cases r'
     simp only [deq]
     exact EqAt.same _
   | bl b =>
     have h':v' = .bl b:=h'
     subst h'
     cases r'
     simp only [deq]
     exact EqAt.none_bool _
   | int b =>
     have h':v' = .int b:=h'
     subst h'
     obtain ⟨t',rfl⟩:=r'
     simp only [deq]
     exact EqAt.none_int _ _
   | str b =>
     have h':v' = .str b:=h'
     subst h'
     obtain ⟨t',rfl⟩:=r'
     simp only [deq]
     exact EqAt.none_str _ _
   | tup ds' =>
     obtain ⟨l',vs',rfl,e',hs'⟩:=h'
     cases r'
     obtain ⟨its',rv',hl'⟩:=DAts.tup_of ok e'
     simp only [deq]
     exact EqAt.none_tuple hl' hu
   | lst ds' =>
     obtain ⟨l',vs',rfl,e',hs'⟩:=h'
     cases r'
     obtain ⟨its',rv',hl'⟩:=DAts.lst_of ok e'
     simp only [deq]
     exact EqAt.none_list hl' hu
 | bl a =>
   have h:v = .bl a:=h
   subst h
   cases r
   cases d' with
   | non =>
     have h':v' = .non:=h'
     subst h'
     cases r'
     simp only [deq]
     exact EqAt.bool_none _
   | bl b =>
     have h':v' = .bl b:=h'
     subst h'
     cases r'
     simp only [deq]
     exact EqAt.bool_bool _ _
   | int b =>
     have h':v' = .int b:=h'
     subst h'
     obtain ⟨t',rfl⟩:=r'
     simp only [deq]
     exact EqAt.bool_int _ _ _
   | str b =>
     have h':v' = .str b:=h'
     subst h'
     obtain ⟨t',rfl⟩:=r'
     simp only [deq]
     exact EqAt.bool_str _ _ _
   | tup ds' =>
     obtain ⟨l',vs',rfl,e',hs'⟩:=h'
     cases r'
     obtain ⟨its',rv',hl'⟩:=DAts.tup_of ok e'
     simp only [deq]
     exact EqAt.bool_tuple _ hl' hu
   | lst ds' =>
     obtain ⟨l',vs',rfl,e',hs'⟩:=h'
     cases r'
     obtain ⟨its',rv',hl'⟩:=DAts.lst_of ok e'
     simp only [deq]
     exact EqAt.bool_list _ hl' hu
 | int a =>
   have h:v = .int a:=h
   subst h
   obtain ⟨t,rfl⟩:=r
   cases d' with
   | non =>
     have h':v' = .non:=h'
     subst h'
     cases r'
     simp only [deq]
     exact EqAt.int_none _ _
   | bl b =>
     have h':v' = .bl b:=h'
     subst h'
     cases r'
     simp only [deq]
     exact EqAt.int_bool _ _ _
   | int b =>
     have h':v' = .int b:=h'
     subst h'
     obtain ⟨t',rfl⟩:=r'
     simp only [deq]
     exact EqAt.int_int _ _ _ _
   | str b =>
     have h':v' = .str b:=h'
     subst h'
     obtain ⟨t',rfl⟩:=r'
     simp only [deq]
     exact EqAt.int_str _ _ _ _
   | tup ds' =>
     obtain ⟨l',vs',rfl,e',hs'⟩:=h'
     cases r'
     obtain ⟨its',rv',hl'⟩:=DAts.tup_of ok e'
     simp only [deq]
     exact EqAt.int_tuple _ _ hl' hu
   | lst ds' =>
     obtain ⟨l',vs',rfl,e',hs'⟩:=h'
     cases r'
     obtain ⟨its',rv',hl'⟩:=DAts.lst_of ok e'
     simp only [deq]
     exact EqAt.int_list _ _ hl' hu
 | str a =>
   have h:v = .str a:=h
   subst h
   obtain ⟨t,rfl⟩:=r
   cases d' with
   | non =>
     have h':v' = .non:=h'
     subst h'
     cases r'
     simp only [deq]
     exact EqAt.str_none _ _
   | bl b =>
     have h':v' = .bl b:=h'
     subst h'
     cases r'
     simp only [deq]
     exact EqAt.str_bool _ _ _
   | int b =>
     have h':v' = .int b:=h'
     subst h'
     obtain ⟨t',rfl⟩:=r'
     simp only [deq]
     exact EqAt.str_int _ _ _ _
   | str b =>
     have h':v' = .str b:=h'
     subst h'
     obtain ⟨t',rfl⟩:=r'
     simp only [deq]
     exact EqAt.str_str _ _ _ _
   | tup ds' =>
     obtain ⟨l',vs',rfl,e',hs'⟩:=h'
     cases r'
     obtain ⟨its',rv',hl'⟩:=DAts.tup_of ok e'
     simp only [deq]
     exact EqAt.str_tuple _ _ hl' hu
   | lst ds' =>
     obtain ⟨l',vs',rfl,e',hs'⟩:=h'
     cases r'
     obtain ⟨its',rv',hl'⟩:=DAts.lst_of ok e'
     simp only [deq]
     exact EqAt.str_list _ _ hl' hu
 | tup ds =>
   obtain ⟨l,vs,rfl,e,hs⟩:=h
   cases r
   obtain ⟨its,rv,hl⟩:=DAts.tup_of ok e
   cases d' with
   | non =>
     have h':v' = .non:=h'
     subst h'
     cases r'
     simp only [deq]
     exact EqAt.tuple_none hl hu
   | bl b =>
     have h':v' = .bl b:=h'
     subst h'
     cases r'
     simp only [deq]
     exact EqAt.tuple_bool _ hl hu
   | int b =>
     have h':v' = .int b:=h'
     subst h'
     obtain ⟨t',rfl⟩:=r'
     simp only [deq]
     exact EqAt.tuple_int _ _ hl hu
   | str b =>
     have h':v' = .str b:=h'
     subst h'
     obtain ⟨t',rfl⟩:=r'
     simp only [deq]
     exact EqAt.tuple_str _ _ hl hu
   | tup ds' => exact absurd ⟨rfl,rfl⟩ (hk _ _).1
   | lst ds' =>
     obtain ⟨l',vs',rfl,e',hs'⟩:=h'
     cases r'
     obtain ⟨its',rv',hl'⟩:=DAts.lst_of ok e'
     simp only [deq]
     exact EqAt.tuple_list hl hl' hu
 | lst ds =>
   obtain ⟨l,vs,rfl,e,hs⟩:=h
   cases r
   obtain ⟨its,rv,hl⟩:=DAts.lst_of ok e
   cases d' with
   | non =>
     have h':v' = .non:=h'
     subst h'
     cases r'
     simp only [deq]
     exact EqAt.list_none hl hu
   | bl b =>
     have h':v' = .bl b:=h'
     subst h'
     cases r'
     simp only [deq]
     exact EqAt.list_bool _ hl hu
   | int b =>
     have h':v' = .int b:=h'
     subst h'
     obtain ⟨t',rfl⟩:=r'
     simp only [deq]
     exact EqAt.list_int _ _ hl hu
   | str b =>
     have h':v' = .str b:=h'
     subst h'
     obtain ⟨t',rfl⟩:=r'
     simp only [deq]
     exact EqAt.list_str _ _ hl hu
   | tup ds' =>
     obtain ⟨l',vs',rfl,e',hs'⟩:=h'
     cases r'
     obtain ⟨its',rv',hl'⟩:=DAts.tup_of ok e'
     simp only [deq]
     exact EqAt.list_tuple hl hl' hu
   | lst ds' => exact absurd ⟨rfl,rfl⟩ (hk _ _).2
theorem wV (ok:HOk P w H s.heap):∀ (n:Nat) {A:Around} {d d':Dt} {v v':V} {u u':Value},DAt H d v -> DAt H d' v' -> RelV v u -> RelV v' u' -> DFit n d -> A.units + n < cLine -> EqAt A s u u' (deq d d'):=by
 intro n
 induction n with
 | zero =>
   intro A d d' v v' u u' h h' r r' f hu
   exact YC ok h h' r r' hu fun ds ds' => ⟨fun e => by rw [e.1] at f; exact f,fun e => by rw [e.1] at f; exact f⟩
 | succ n ih =>
   intro A d d' v v' u u' h h' r r' f hu
   by_cases hvv:v = v'
   · subst hvv
     rw [DAt.one_of h h',deq_refl]
     have hd:d = d':=DAt.one_of h h'
     subst hd
     have hx:=deq_same ok (A:=A) h r r'
     exact hx
   cases d with
   | tup ds =>
     cases d' with
     | tup ds' =>
       obtain ⟨l,vs,rfl,e,hs⟩:=h
       obtain ⟨l',vs',rfl,e',hs'⟩:=h'
       cases r
       cases r'
       obtain ⟨its,rv,hl⟩:=DAts.tup_of ok e
       obtain ⟨its',rv',hl'⟩:=DAts.tup_of ok e'
       have k1:=hs.length
       have k2:=hs'.length
       have k3:=rv.length
       have k4:=rv'.length
       have key:=RcAt.tuples (A:=A) (e:=eat ds ds') hl hl' (by omega) fun j h1 h2 => ?_
       · simp only [deq]
         rw [← deqs_all]
         refine EqAt.of_refs (fun z => hvv (by rw [z])) ?_
         rw [List.size_toArray,List.size_toArray] at key
         rw [← k1,← k2,k3,k4]
         exact key
       · rw [List.size_toArray] at h1 h2
         have hj:j < ds.length:=by omega
         have hj':j < ds'.length:=by omega
         obtain ⟨x,x1,x2⟩:=hs.get (List.getElem?_eq_getElem hj)
         obtain ⟨y,y1,y2⟩:=hs'.get (List.getElem?_eq_getElem hj')
         have e1:eat ds ds' j = deq ds[j] ds'[j]:=by unfold eat; rw [List.getElem?_eq_getElem hj,List.getElem?_eq_getElem hj']
         rw [e1]
         refine ih x2 y2 ?_ ?_ (f.2 _ (List.getElem_mem hj)) (by show A.units + 1 + n < cLine; omega)
         · exact vals_at rv x1 (by rw [List.getElem_toArray]; exact List.getElem?_eq_getElem h1)
         · exact vals_at rv' y1 (by rw [List.getElem_toArray]; exact List.getElem?_eq_getElem h2)
     | _ => exact YC ok h h' r r' (by omega) fun ds ds' => ⟨fun e => (by cases e.2),fun e => (by cases e.1)⟩
   | lst ds =>
     cases d' with
     | lst ds' =>
       obtain ⟨l,vs,rfl,e,hs⟩:=h
       obtain ⟨l',vs',rfl,e',hs'⟩:=h'
       cases r
       cases r'
       obtain ⟨its,rv,hl⟩:=DAts.lst_of ok e
       obtain ⟨its',rv',hl'⟩:=DAts.lst_of ok e'
       simp only [deq]
       exact EqAt.of_refs (fun z => hvv (by rw [z])) (rc_lists ok ih hs hs' rv rv' hl hl' f.2 hu)
     | _ => exact YC ok h h' r r' (by omega) fun ds ds' => ⟨fun e => (by cases e.1),fun e => (by cases e.2)⟩
   | _ => exact YC ok h h' r r' (by omega) fun ds ds' => ⟨fun e => (by cases e.1),fun e => (by cases e.1)⟩
end
section
variable {X:Cx}
end
end L2
namespace L2
open PySem PySem.Spec PyProof.Rows PySem.SeqAt
section
variable {X:Cx}
end
theorem cx_P {CX:CXT} {P:Program} {w:World} {K:PySem.W.Frag} {mg:Str -> Option Value} {base:Heap} {N:List Str} {qual:Str} {scope:Scope} {f:Addr} {cd:Value} {A:Around} {outer:List Env} {s:Shared} {H:Hp} {E:XK}:(kE CX P w K mg base N qual scope f cd A outer s H E).prog = P:=rfl
end L2
local macro_rules | `(tactic| simp! [$ts,*]) => `(tactic| simp only [L2.tSeq,L2.tFor_eq,L2.tLC_eq,L2.iRng1,L2.iRng2,L2.iList,L2.iTup,L2.iStr,L2.tIfS,L2.tRet,L2.tRetN,L2.tNext,L2.tAsg,L2.gName,L2.tVar,L2.tC,L2.tOp,L2.rI0,L2.rI,L2.tTest,L2.tB,L2.rEq,L2.rNe,L2.tCall,L2.tCons,L2.tNil,L2.tCB,L2.tLst,L2.tTup,L2.tAnd,L2.tOr,L2.tNot,L2.tAndV,L2.tOrV,L2.tNotV,L2.tIf,L2.tDrop,L2.tSl,L2.tPart,L2.tNoPart,L2.tChain,L2.tUn,L2.rU,L2.start,L2.cx_K,L2.bk_K,L2.cx_calm,L2.bk_calm,L2.lenV_str,and_assoc,Option.join,List.length_map,List.length_append,decide_eq_true_eq,Bool.false_eq_true,if_false,if_true,Bool.not_true,Bool.not_false,Bool.not_eq_true',decide_eq_false_iff_not,Bool.true_eq_false,List.length_cons,List.length_nil,List.map_cons,List.map_nil,List.replicate,List.cons_append,List.nil_append,List.append_nil,List.getElem?_cons_zero,List.getElem?_cons_succ,List.set_cons_zero,List.set_cons_succ,Nat.reduceSub,Nat.reduceAdd,Option.some.injEq,L2.V.int.injEq,L2.V.str.injEq,L2.V.bl.injEq,L2.V.ref.injEq,List.cons.injEq,and_true,true_and,exists_eq_left',exists_eq_left,exists_and_left,exists_eq_right,exists_const,L2.tBM,L2.tBM0,L2.rAppend,L2.rPop,L2.rIxL,L2.rIxT,L2.rIxS,L2.rSlL,L2.rSlT,L2.rSlS,L2.rCat,L2.rCatT,L2.tKGet,L2.cx_w,L2.bk_w,L2.tDGet,L2.tDisp,L2.tPairs,L2.tDNewK,L2.cx_P,$ts,*])
namespace L2
open PySem PySem.Spec PyProof.Rows PySem.SeqAt
section
variable {P:Program} {w:World} {H:Hp} {s:Shared}
theorem rc_tups (ok:HOk P w H s.heap) {n:Nat} {A:Around} (ih:∀ {A:Around} {d d':Dt} {v v':V} {u u':Value},DAt H d v -> DAt H d' v' -> RelV v u -> RelV v' u' -> DFit n d -> A.units + n < cLine -> EqAt A s u u' (deq d d'))
   {l l':Addr} {ds ds':List Dt} {vs vs':List V} {its its':List Value} (hs:DAts H ds vs) (hs':DAts H ds' vs') (rv:Vals vs its) (rv':Vals vs' its') (hl:s.heap.IsTuple l its.toArray) (hl':s.heap.IsTuple l' its'.toArray)
   (f:∀ d ∈ ds,DFit n d) (hu:A.units + (n + 1) < cLine):RcAt A s (.ref l) (.ref l') (deqs ds ds'):=by
 have k1:=hs.length
 have k2:=hs'.length
 have k3:=rv.length
 have k4:=rv'.length
 have at_:∀ j (h1:j < its.toArray.size) (h2:j < its'.toArray.size),EqAt A.in1 s its.toArray[j] its'.toArray[j] (eat ds ds' j):=fun j h1 h2 => by
   rw [List.size_toArray] at h1 h2
   have hj:j < ds.length:=by omega
   have hj':j < ds'.length:=by omega
   obtain ⟨x,x1,x2⟩:=hs.get (List.getElem?_eq_getElem hj)
   obtain ⟨y,y1,y2⟩:=hs'.get (List.getElem?_eq_getElem hj')
   have e1:eat ds ds' j = deq ds[j] ds'[j]:=by unfold eat; rw [List.getElem?_eq_getElem hj,List.getElem?_eq_getElem hj']
   rw [e1]
   refine ih x2 y2 ?_ ?_ (f _ (List.getElem_mem hj)) (by show A.units + 1 + n < cLine; omega)
   · exact vals_at rv x1 (by rw [List.getElem_toArray]; exact List.getElem?_eq_getElem h1)
   · exact vals_at rv' y1 (by rw [List.getElem_toArray]; exact List.getElem?_eq_getElem h2)
 have key:=RcAt.tuples (A:=A) (e:=eat ds ds') hl hl' (by omega) at_
 rw [List.size_toArray,List.size_toArray] at key
 rw [← deqs_all,← k1,← k2,k3,k4]
 exact key
theorem rn_tups (ok:HOk P w H s.heap) {n:Nat} {A:Around} (ih:∀ {A:Around} {d d':Dt} {v v':V} {u u':Value},DAt H d v -> DAt H d' v' -> RelV v u -> RelV v' u' -> DFit n d -> A.units + n < cLine -> EqAt A s u u' (deq d d'))
   {l l':Addr} {ds ds':List Dt} {vs vs':List V} {its its':List Value} (hs:DAts H ds vs) (hs':DAts H ds' vs') (rv:Vals vs its) (rv':Vals vs' its') (hl:s.heap.IsTuple l its.toArray) (hl':s.heap.IsTuple l' its'.toArray)
   (f:∀ d ∈ ds,DFit n d) (hu:A.units + (n + 1) < cLine):RcNeAt A s (.ref l) (.ref l') (!deqs ds ds'):=by
 have k1:=hs.length
 have k2:=hs'.length
 have k3:=rv.length
 have k4:=rv'.length
 have at_:∀ j (h1:j < its.toArray.size) (h2:j < its'.toArray.size),EqAt A.in1 s its.toArray[j] its'.toArray[j] (eat ds ds' j):=fun j h1 h2 => by
   rw [List.size_toArray] at h1 h2
   have hj:j < ds.length:=by omega
   have hj':j < ds'.length:=by omega
   obtain ⟨x,x1,x2⟩:=hs.get (List.getElem?_eq_getElem hj)
   obtain ⟨y,y1,y2⟩:=hs'.get (List.getElem?_eq_getElem hj')
   have e1:eat ds ds' j = deq ds[j] ds'[j]:=by unfold eat; rw [List.getElem?_eq_getElem hj,List.getElem?_eq_getElem hj']
   rw [e1]
   refine ih x2 y2 ?_ ?_ (f _ (List.getElem_mem hj)) (by show A.units + 1 + n < cLine; omega)
   · exact vals_at rv x1 (by rw [List.getElem_toArray]; exact List.getElem?_eq_getElem h1)
   · exact vals_at rv' y1 (by rw [List.getElem_toArray]; exact List.getElem?_eq_getElem h2)
 have key:=RcNeAt.tuples (A:=A) (e:=eat ds ds') hl hl' (by omega) at_
 rw [List.size_toArray,List.size_toArray] at key
 rw [← deqs_all,← k1,← k2,k3,k4]
 exact key
theorem rn_lists (ok:HOk P w H s.heap) {n:Nat} {A:Around} (ih:∀ {A:Around} {d d':Dt} {v v':V} {u u':Value},DAt H d v -> DAt H d' v' -> RelV v u -> RelV v' u' -> DFit n d -> A.units + n < cLine -> EqAt A s u u' (deq d d'))
   {l l':Addr} {ds ds':List Dt} {vs vs':List V} {its its':List Value} (hs:DAts H ds vs) (hs':DAts H ds' vs') (rv:Vals vs its) (rv':Vals vs' its') (hl:s.heap.IsList l its.toArray) (hl':s.heap.IsList l' its'.toArray)
   (f:∀ d ∈ ds,DFit n d) (hu:A.units + (n + 1) < cLine):RcNeAt A s (.ref l) (.ref l') (!deqs ds ds'):=by
 have k1:=hs.length
 have k2:=hs'.length
 have k3:=rv.length
 have k4:=rv'.length
 have at_:∀ j (h1:j < its.toArray.size) (h2:j < its'.toArray.size),EqAt A.in1 s its.toArray[j] its'.toArray[j] (eat ds ds' j):=fun j h1 h2 => by
   rw [List.size_toArray] at h1 h2
   have hj:j < ds.length:=by omega
   have hj':j < ds'.length:=by omega
   obtain ⟨x,x1,x2⟩:=hs.get (List.getElem?_eq_getElem hj)
   obtain ⟨y,y1,y2⟩:=hs'.get (List.getElem?_eq_getElem hj')
   have e1:eat ds ds' j = deq ds[j] ds'[j]:=by unfold eat; rw [List.getElem?_eq_getElem hj,List.getElem?_eq_getElem hj']
   rw [e1]
   refine ih x2 y2 ?_ ?_ (f _ (List.getElem_mem hj)) (by show A.units + 1 + n < cLine; omega)
   · exact vals_at rv x1 (by rw [List.getElem_toArray]; exact List.getElem?_eq_getElem h1)
   · exact vals_at rv' y1 (by rw [List.getElem_toArray]; exact List.getElem?_eq_getElem h2)
 by_cases hz:ds.length = ds'.length
 · have key := RcNeAt.lists (A := A) (e := eat ds ds') hl hl' (by rw [List.size_toArray, List.size_toArray]; omega) (by omega) at_
   rw [← deqs_all,hz,Nat.min_self,beq_self_eq_true,Bool.and_true]
   rw [List.size_toArray] at key
   rw [show ds'.length = its.length by omega]
   exact key
 · have hf : deqs ds ds' = false := by rw [← deqs_all, show (ds.length == ds'.length) = false by simpa using hz, Bool.and_false]
   rw [hf]
   exact RcNeAt.lists_lengths hl hl' (by rw [List.size_toArray,List.size_toArray]; simp; omega) (by omega)
theorem rc_at (ok:HOk P w H s.heap) {n:Nat} {A:Around} {d d':Dt} {v v':V} {u u':Value} (h:DAt H d v) (h':DAt H d' v') (r:RelV v u) (r':RelV v' u') (f:DFit (n + 1) d) (hu:A.units + (n + 1) < cLine):RcAt A s u u' (deq d d'):=by
 have hu0:A.units < cLine:=by omega
 cases d with
 | non =>
   have h:v = .non:=h
   subst h
   cases r
   cases d' with
   | non =>
     have h':v' = .non:=h'
     subst h'
     cases r'
     simp only [deq,Bool.not_false,Bool.not_true]
     exact RcAt.none_none
   | bl b =>
     have h':v' = .bl b:=h'
     subst h'
     cases r'
     simp only [deq,Bool.not_false,Bool.not_true]
     exact RcAt.none_bool _
   | int b =>
     have h':v' = .int b:=h'
     subst h'
     obtain ⟨t',rfl⟩:=r'
     simp only [deq,Bool.not_false,Bool.not_true]
     exact RcAt.none_int _ _
   | str b =>
     have h':v' = .str b:=h'
     subst h'
     obtain ⟨t',rfl⟩:=r'
     simp only [deq,Bool.not_false,Bool.not_true]
     exact RcAt.none_str _ _
   | tup ds' =>
     obtain ⟨l',vs',rfl,e',hs'⟩:=h'
     cases r'
     obtain ⟨its',rv',hl'⟩:=DAts.tup_of ok e'
     simp only [deq,Bool.not_false,Bool.not_true]
     exact RcAt.none_tuple hl' hu0
   | lst ds' =>
     obtain ⟨l',vs',rfl,e',hs'⟩:=h'
     cases r'
     obtain ⟨its',rv',hl'⟩:=DAts.lst_of ok e'
     simp only [deq,Bool.not_false,Bool.not_true]
     exact RcAt.none_list hl' hu0
 | bl a =>
   have h:v = .bl a:=h
   subst h
   cases r
   cases d' with
   | non =>
     have h':v' = .non:=h'
     subst h'
     cases r'
     simp only [deq,Bool.not_false,Bool.not_true]
     exact RcAt.bool_none _
   | bl b =>
     have h':v' = .bl b:=h'
     subst h'
     cases r'
     simp only [deq,Bool.not_false,Bool.not_true]
     exact RcAt.bool_bool _ _
   | int b =>
     have h':v' = .int b:=h'
     subst h'
     obtain ⟨t',rfl⟩:=r'
     simp only [deq,Bool.not_false,Bool.not_true]
     exact RcAt.bool_int _ _ _
   | str b =>
     have h':v' = .str b:=h'
     subst h'
     obtain ⟨t',rfl⟩:=r'
     simp only [deq,Bool.not_false,Bool.not_true]
     exact RcAt.bool_str _ _ _
   | tup ds' =>
     obtain ⟨l',vs',rfl,e',hs'⟩:=h'
     cases r'
     obtain ⟨its',rv',hl'⟩:=DAts.tup_of ok e'
     simp only [deq,Bool.not_false,Bool.not_true]
     exact RcAt.bool_tuple _ hl' hu0
   | lst ds' =>
     obtain ⟨l',vs',rfl,e',hs'⟩:=h'
     cases r'
     obtain ⟨its',rv',hl'⟩:=DAts.lst_of ok e'
     simp only [deq,Bool.not_false,Bool.not_true]
     exact RcAt.bool_list _ hl' hu0
 | int a =>
   have h:v = .int a:=h
   subst h
   obtain ⟨t,rfl⟩:=r
   cases d' with
   | non =>
     have h':v' = .non:=h'
     subst h'
     cases r'
     simp only [deq,Bool.not_false,Bool.not_true]
     exact RcAt.int_none _ _
   | bl b =>
     have h':v' = .bl b:=h'
     subst h'
     cases r'
     simp only [deq,Bool.not_false,Bool.not_true]
     exact RcAt.int_bool _ _ _
   | int b =>
     have h':v' = .int b:=h'
     subst h'
     obtain ⟨t',rfl⟩:=r'
     simp only [deq,Bool.not_false,Bool.not_true]
     exact RcAt.int_int _ _ _ _
   | str b =>
     have h':v' = .str b:=h'
     subst h'
     obtain ⟨t',rfl⟩:=r'
     simp only [deq,Bool.not_false,Bool.not_true]
     exact RcAt.int_str _ _ _ _
   | tup ds' =>
     obtain ⟨l',vs',rfl,e',hs'⟩:=h'
     cases r'
     obtain ⟨its',rv',hl'⟩:=DAts.tup_of ok e'
     simp only [deq,Bool.not_false,Bool.not_true]
     exact RcAt.int_tuple _ _ hl' hu0
   | lst ds' =>
     obtain ⟨l',vs',rfl,e',hs'⟩:=h'
     cases r'
     obtain ⟨its',rv',hl'⟩:=DAts.lst_of ok e'
     simp only [deq,Bool.not_false,Bool.not_true]
     exact RcAt.int_list _ _ hl' hu0
 | str a =>
   have h:v = .str a:=h
   subst h
   obtain ⟨t,rfl⟩:=r
   cases d' with
   | non =>
     have h':v' = .non:=h'
     subst h'
     cases r'
     simp only [deq,Bool.not_false,Bool.not_true]
     exact RcAt.str_none _ _
   | bl b =>
     have h':v' = .bl b:=h'
     subst h'
     cases r'
     simp only [deq,Bool.not_false,Bool.not_true]
     exact RcAt.str_bool _ _ _
   | int b =>
     have h':v' = .int b:=h'
     subst h'
     obtain ⟨t',rfl⟩:=r'
     simp only [deq,Bool.not_false,Bool.not_true]
     exact RcAt.str_int _ _ _ _
   | str b =>
     have h':v' = .str b:=h'
     subst h'
     obtain ⟨t',rfl⟩:=r'
     simp only [deq,Bool.not_false,Bool.not_true]
     exact RcAt.str_str _ _ _ _
   | tup ds' =>
     obtain ⟨l',vs',rfl,e',hs'⟩:=h'
     cases r'
     obtain ⟨its',rv',hl'⟩:=DAts.tup_of ok e'
     simp only [deq,Bool.not_false,Bool.not_true]
     exact RcAt.str_tuple _ _ hl' hu0
   | lst ds' =>
     obtain ⟨l',vs',rfl,e',hs'⟩:=h'
     cases r'
     obtain ⟨its',rv',hl'⟩:=DAts.lst_of ok e'
     simp only [deq,Bool.not_false,Bool.not_true]
     exact RcAt.str_list _ _ hl' hu0
 | tup ds =>
   obtain ⟨l,vs,rfl,e,hs⟩:=h
   cases r
   obtain ⟨its,rv,hl⟩:=DAts.tup_of ok e
   cases d' with
   | non =>
     have h':v' = .non:=h'
     subst h'
     cases r'
     simp only [deq,Bool.not_false,Bool.not_true]
     exact RcAt.tuple_none hl hu0
   | bl b =>
     have h':v' = .bl b:=h'
     subst h'
     cases r'
     simp only [deq,Bool.not_false,Bool.not_true]
     exact RcAt.tuple_bool _ hl hu0
   | int b =>
     have h':v' = .int b:=h'
     subst h'
     obtain ⟨t',rfl⟩:=r'
     simp only [deq,Bool.not_false,Bool.not_true]
     exact RcAt.tuple_int _ _ hl hu0
   | str b =>
     have h':v' = .str b:=h'
     subst h'
     obtain ⟨t',rfl⟩:=r'
     simp only [deq,Bool.not_false,Bool.not_true]
     exact RcAt.tuple_str _ _ hl hu0
   | tup ds' =>
     obtain ⟨l',vs',rfl,e',hs'⟩:=h'
     cases r'
     obtain ⟨its',rv',hl'⟩:=DAts.tup_of ok e'
     simp only [deq,Bool.not_false,Bool.not_true]
     exact rc_tups ok (wV ok n) hs hs' rv rv' hl hl' f.2 hu
   | lst ds' =>
     obtain ⟨l',vs',rfl,e',hs'⟩:=h'
     cases r'
     obtain ⟨its',rv',hl'⟩:=DAts.lst_of ok e'
     simp only [deq,Bool.not_false,Bool.not_true]
     exact RcAt.tuple_list hl hl' hu0
 | lst ds =>
   obtain ⟨l,vs,rfl,e,hs⟩:=h
   cases r
   obtain ⟨its,rv,hl⟩:=DAts.lst_of ok e
   cases d' with
   | non =>
     have h':v' = .non:=h'
     subst h'
     cases r'
     simp only [deq,Bool.not_false,Bool.not_true]
     exact RcAt.list_none hl hu0
   | bl b =>
     have h':v' = .bl b:=h'
     subst h'
     cases r'
     simp only [deq,Bool.not_false,Bool.not_true]
     exact RcAt.list_bool _ hl hu0
   | int b =>
     have h':v' = .int b:=h'
     subst h'
     obtain ⟨t',rfl⟩:=r'
     simp only [deq,Bool.not_false,Bool.not_true]
     exact RcAt.list_int _ _ hl hu0
   | str b =>
     have h':v' = .str b:=h'
     subst h'
     obtain ⟨t',rfl⟩:=r'
     simp only [deq,Bool.not_false,Bool.not_true]
     exact RcAt.list_str _ _ hl hu0
   | tup ds' =>
     obtain ⟨l',vs',rfl,e',hs'⟩:=h'
     cases r'
     obtain ⟨its',rv',hl'⟩:=DAts.tup_of ok e'
     simp only [deq,Bool.not_false,Bool.not_true]
     exact RcAt.list_tuple hl hl' hu0
   | lst ds' =>
     obtain ⟨l',vs',rfl,e',hs'⟩:=h'
     cases r'
     obtain ⟨its',rv',hl'⟩:=DAts.lst_of ok e'
     simp only [deq,Bool.not_false,Bool.not_true]
     exact rc_lists ok (wV ok n) hs hs' rv rv' hl hl' f.2 hu
theorem rn_at (ok:HOk P w H s.heap) {n:Nat} {A:Around} {d d':Dt} {v v':V} {u u':Value} (h:DAt H d v) (h':DAt H d' v') (r:RelV v u) (r':RelV v' u') (f:DFit (n + 1) d) (hu:A.units + (n + 1) < cLine):RcNeAt A s u u' (!deq d d'):=by
 have hu0:A.units < cLine:=by omega
 cases d with
 | non =>
   have h:v = .non:=h
   subst h
   cases r
   cases d' with
   | non =>
     have h':v' = .non:=h'
     subst h'
     cases r'
     simp only [deq,Bool.not_false,Bool.not_true]
     exact RcNeAt.none_none
   | bl b =>
     have h':v' = .bl b:=h'
     subst h'
     cases r'
     simp only [deq,Bool.not_false,Bool.not_true]
     exact RcNeAt.none_bool _
   | int b =>
     have h':v' = .int b:=h'
     subst h'
     obtain ⟨t',rfl⟩:=r'
     simp only [deq,Bool.not_false,Bool.not_true]
     exact RcNeAt.none_int _ _
   | str b =>
     have h':v' = .str b:=h'
     subst h'
     obtain ⟨t',rfl⟩:=r'
     simp only [deq,Bool.not_false,Bool.not_true]
     exact RcNeAt.none_str _ _
   | tup ds' =>
     obtain ⟨l',vs',rfl,e',hs'⟩:=h'
     cases r'
     obtain ⟨its',rv',hl'⟩:=DAts.tup_of ok e'
     simp only [deq,Bool.not_false,Bool.not_true]
     exact RcNeAt.none_tuple hl' hu0
   | lst ds' =>
     obtain ⟨l',vs',rfl,e',hs'⟩:=h'
     cases r'
     obtain ⟨its',rv',hl'⟩:=DAts.lst_of ok e'
     simp only [deq,Bool.not_false,Bool.not_true]
     exact RcNeAt.none_list hl' hu0
 | bl a =>
   have h:v = .bl a:=h
   subst h
   cases r
   cases d' with
   | non =>
     have h':v' = .non:=h'
     subst h'
     cases r'
     simp only [deq,Bool.not_false,Bool.not_true]
     exact RcNeAt.bool_none _
   | bl b =>
     have h':v' = .bl b:=h'
     subst h'
     cases r'
     simp only [deq,Bool.not_false,Bool.not_true]
     exact RcNeAt.bool_bool _ _
   | int b =>
     have h':v' = .int b:=h'
     subst h'
     obtain ⟨t',rfl⟩:=r'
     simp only [deq,Bool.not_false,Bool.not_true]
     exact RcNeAt.bool_int _ _ _
   | str b =>
     have h':v' = .str b:=h'
     subst h'
     obtain ⟨t',rfl⟩:=r'
     simp only [deq,Bool.not_false,Bool.not_true]
     exact RcNeAt.bool_str _ _ _
   | tup ds' =>
     obtain ⟨l',vs',rfl,e',hs'⟩:=h'
     cases r'
     obtain ⟨its',rv',hl'⟩:=DAts.tup_of ok e'
     simp only [deq,Bool.not_false,Bool.not_true]
     exact RcNeAt.bool_tuple _ hl' hu0
   | lst ds' =>
     obtain ⟨l',vs',rfl,e',hs'⟩:=h'
     cases r'
     obtain ⟨its',rv',hl'⟩:=DAts.lst_of ok e'
     simp only [deq,Bool.not_false,Bool.not_true]
     exact RcNeAt.bool_list _ hl' hu0
 | int a =>
   have h:v = .int a:=h
   subst h
   obtain ⟨t,rfl⟩:=r
   cases d' with
   | non =>
     have h':v' = .non:=h'
     subst h'
     cases r'
     simp only [deq,Bool.not_false,Bool.not_true]
     exact RcNeAt.int_none _ _
   | bl b =>
     have h':v' = .bl b:=h'
     subst h'
     cases r'
     simp only [deq,Bool.not_false,Bool.not_true]
     exact RcNeAt.int_bool _ _ _
   | int b =>
     have h':v' = .int b:=h'
     subst h'
     obtain ⟨t',rfl⟩:=r'
     simp only [deq,Bool.not_false,Bool.not_true]
     exact RcNeAt.int_int _ _ _ _
   | str b =>
     have h':v' = .str b:=h'
     subst h'
     obtain ⟨t',rfl⟩:=r'
     simp only [deq,Bool.not_false,Bool.not_true]
     exact RcNeAt.int_str _ _ _ _
   | tup ds' =>
     obtain ⟨l',vs',rfl,e',hs'⟩:=h'
     cases r'
     obtain ⟨its',rv',hl'⟩:=DAts.tup_of ok e'
     simp only [deq,Bool.not_false,Bool.not_true]
     exact RcNeAt.int_tuple _ _ hl' hu0
   | lst ds' =>
     obtain ⟨l',vs',rfl,e',hs'⟩:=h'
     cases r'
     obtain ⟨its',rv',hl'⟩:=DAts.lst_of ok e'
     simp only [deq,Bool.not_false,Bool.not_true]
     exact RcNeAt.int_list _ _ hl' hu0
 | str a =>
   have h:v = .str a:=h
   subst h
   obtain ⟨t,rfl⟩:=r
   cases d' with
   | non =>
     have h':v' = .non:=h'
     subst h'
     cases r'
     simp only [deq,Bool.not_false,Bool.not_true]
     exact RcNeAt.str_none _ _
   | bl b =>
     have h':v' = .bl b:=h'
     subst h'
     cases r'
     simp only [deq,Bool.not_false,Bool.not_true]
     exact RcNeAt.str_bool _ _ _
   | int b =>
     have h':v' = .int b:=h'
     subst h'
     obtain ⟨t',rfl⟩:=r'
     simp only [deq,Bool.not_false,Bool.not_true]
     exact RcNeAt.str_int _ _ _ _
   | str b =>
     have h':v' = .str b:=h'
     subst h'
     obtain ⟨t',rfl⟩:=r'
     simp only [deq,Bool.not_false,Bool.not_true]
     exact RcNeAt.str_str _ _ _ _
   | tup ds' =>
     obtain ⟨l',vs',rfl,e',hs'⟩:=h'
     cases r'
     obtain ⟨its',rv',hl'⟩:=DAts.tup_of ok e'
     simp only [deq,Bool.not_false,Bool.not_true]
     exact RcNeAt.str_tuple _ _ hl' hu0
   | lst ds' =>
     obtain ⟨l',vs',rfl,e',hs'⟩:=h'
     cases r'
     obtain ⟨its',rv',hl'⟩:=DAts.lst_of ok e'
     simp only [deq,Bool.not_false,Bool.not_true]
     exact RcNeAt.str_list _ _ hl' hu0
 | tup ds =>
   obtain ⟨l,vs,rfl,e,hs⟩:=h
   cases r
   obtain ⟨its,rv,hl⟩:=DAts.tup_of ok e
   cases d' with
   | non =>
     have h':v' = .non:=h'
     subst h'
     cases r'
     simp only [deq,Bool.not_false,Bool.not_true]
     exact RcNeAt.tuple_none hl hu0
   | bl b =>
     have h':v' = .bl b:=h'
     subst h'
     cases r'
     simp only [deq,Bool.not_false,Bool.not_true]
     exact RcNeAt.tuple_bool _ hl hu0
   | int b =>
     have h':v' = .int b:=h'
     subst h'
     obtain ⟨t',rfl⟩:=r'
     simp only [deq,Bool.not_false,Bool.not_true]
     exact RcNeAt.tuple_int _ _ hl hu0
   | str b =>
     have h':v' = .str b:=h'
     subst h'
     obtain ⟨t',rfl⟩:=r'
     simp only [deq,Bool.not_false,Bool.not_true]
     exact RcNeAt.tuple_str _ _ hl hu0
   | tup ds' =>
     obtain ⟨l',vs',rfl,e',hs'⟩:=h'
     cases r'
     obtain ⟨its',rv',hl'⟩:=DAts.tup_of ok e'
     simp only [deq,Bool.not_false,Bool.not_true]
     exact rn_tups ok (wV ok n) hs hs' rv rv' hl hl' f.2 hu
   | lst ds' =>
     obtain ⟨l',vs',rfl,e',hs'⟩:=h'
     cases r'
     obtain ⟨its',rv',hl'⟩:=DAts.lst_of ok e'
     simp only [deq,Bool.not_false,Bool.not_true]
     exact RcNeAt.tuple_list hl hl' hu0
 | lst ds =>
   obtain ⟨l,vs,rfl,e,hs⟩:=h
   cases r
   obtain ⟨its,rv,hl⟩:=DAts.lst_of ok e
   cases d' with
   | non =>
     have h':v' = .non:=h'
     subst h'
     cases r'
     simp only [deq,Bool.not_false,Bool.not_true]
     exact RcNeAt.list_none hl hu0
   | bl b =>
     have h':v' = .bl b:=h'
     subst h'
     cases r'
     simp only [deq,Bool.not_false,Bool.not_true]
     exact RcNeAt.list_bool _ hl hu0
   | int b =>
     have h':v' = .int b:=h'
     subst h'
     obtain ⟨t',rfl⟩:=r'
     simp only [deq,Bool.not_false,Bool.not_true]
     exact RcNeAt.list_int _ _ hl hu0
   | str b =>
     have h':v' = .str b:=h'
     subst h'
     obtain ⟨t',rfl⟩:=r'
     simp only [deq,Bool.not_false,Bool.not_true]
     exact RcNeAt.list_str _ _ hl hu0
   | tup ds' =>
     obtain ⟨l',vs',rfl,e',hs'⟩:=h'
     cases r'
     obtain ⟨its',rv',hl'⟩:=DAts.tup_of ok e'
     simp only [deq,Bool.not_false,Bool.not_true]
     exact RcNeAt.list_tuple hl hl' hu0
   | lst ds' =>
     obtain ⟨l',vs',rfl,e',hs'⟩:=h'
     cases r'
     obtain ⟨its',rv',hl'⟩:=DAts.lst_of ok e'
     simp only [deq,Bool.not_false,Bool.not_true]
     exact rn_lists ok (wV ok n) hs hs' rv rv' hl hl' f.2 hu
end
section
variable {X:Cx}
def rEqG:R2:=fun x y H Q => ∃ n d d',DAt H d x /\ DAt H d' y /\ DFit (n + 1) d /\ n <= 60 /\ Q (.bl (deq d d')) H
def rNeG:R2:=fun x y H Q => ∃ n d d',DAt H d x /\ DAt H d' y /\ DFit (n + 1) d /\ n <= 60 /\ Q (.bl (!deq d d')) H
theorem uI (hu:X.A.units + 64 < cLine):OpR X (compareOp .Eq) rEqG:=by
 intro pins s σ H x y v u Q I rx ry h
 obtain ⟨n,d,d',h1,h2,f,hn,q⟩:=h
 exact rc_at I.hok h1 h2 rx ry f (by omega) X.prog X.w _ _ (zY I q rfl)
theorem op_neG (hu:X.A.units + 64 < cLine):OpR X (compareOp .NotEq) rNeG:=by
 intro pins s σ H x y v u Q I rx ry h
 obtain ⟨n,d,d',h1,h2,f,hn,q⟩:=h
 exact rn_at I.hok h1 h2 rx ry f (by omega) X.prog X.w _ _ (zY I q rfl)
def rInG (neg:Bool):R2:=fun x y H Q => ∃ n d ds,DAt H d x /\ (DAt H (.lst ds) y \/ DAt H (.tup ds) y) /\ (∀ e ∈ ds,DFit n e) /\ n <= 60 /\ Q (.bl (neg ^^ ds.any fun e => deq e d)) H
open Classical in
theorem ZW {H:Hp} {its:List Value} {vs:List V} {ds:List Dt} {d:Dt} (hs:DAts H ds vs) (rv:Vals vs its) (e:Value -> Bool) (he:∀ y,e y = decide (∃ d' v',DAt H d' v' /\ RelV v' y /\ deq d' d = true)):its.toArray.any e = ds.any fun e => deq e d:=by
 rw [List.any_toArray]
 induction ds generalizing vs its with
 | nil =>
   have hs:vs = []:=hs
   subst hs
   cases rv
   rfl
 | cons d0 ds ih =>
   obtain ⟨v,r,rfl,e1,e2⟩:=hs
   cases rv with
   | cons rr rt =>
     rename_i u us
     rw [List.any_cons,List.any_cons,ih e2 rt,he]
     congr 1
     rw [Bool.eq_iff_iff,decide_eq_true_eq]
     constructor
     · rintro ⟨d', v', q1, q2, q3⟩
       have:=RelV.inj q2 rr
       subst this
       rw [DAt.one_of e1 q1]
       exact q3
     · intro q
       exact ⟨d0,v,e1,rr,q⟩
open Classical in
theorem in_eq {P:Program} {w:World} {H:Hp} {s:Shared} {A:Around} (ok:HOk P w H s.heap) {its:List Value} {vs:List V} {ds:List Dt} {d:Dt} {x:V} {u:Value} {n:Nat} (hs:DAts H ds vs) (rv:Vals vs its) (hx:DAt H d x) (ru:RelV x u) (f:∀ e ∈ ds,DFit n e) (hu:A.units + (n + 1) < cLine)
   (y:Value) (hy:y ∈ its.toArray):EqAt A.in1 s y u (decide (∃ d' v',DAt H d' v' /\ RelV v' y /\ deq d' d = true)):=by
 obtain ⟨j,hj,e⟩:=List.getElem_of_mem (show y ∈ its by simpa using hy)
 have k1:=hs.length
 have k2:=rv.length
 have hjd:j < ds.length:=by omega
 obtain ⟨v,v1,v2⟩:=hs.get (List.getElem?_eq_getElem hjd)
 have rr:RelV v y:=vals_at rv v1 (by rw [List.getElem?_eq_getElem hj,e])
 have:decide (∃ d' v',DAt H d' v' /\ RelV v' y /\ deq d' d = true) = deq ds[j] d:=by
   rw [Bool.eq_iff_iff,decide_eq_true_eq]
   constructor
   · rintro ⟨d', v', q1, q2, q3⟩
     have:=RelV.inj q2 rr
     subst this
     rw [DAt.one_of v2 q1]
     exact q3
   · intro q
     exact ⟨_,v,v2,rr,q⟩
 rw [this]
 exact wV ok n v2 hx rr ru (f _ (List.getElem_mem hjd)) (by show A.units + 1 + n < cLine; omega)
theorem op_inG (hu:X.A.units + 64 < cLine):OpR X (compareOp .In) (rInG false):=by
 intro pins s σ H x y v u Q I rx ry h
 obtain ⟨n,d,ds,hx,hy,f,hn,q⟩:=h
 rw [Bool.false_xor] at q
 rcases hy with ⟨l,vs,rfl,e,hs⟩ | ⟨l,vs,rfl,e,hs⟩
 · cases ry
   obtain ⟨its,rv,hl⟩:=DAts.lst_of I.hok e
   refine in_listAt _ hl (in_eq I.hok hs rv hx rx f (by omega)) (zY I q ?_)
   exact (ZW hs rv _ fun _ => rfl).symm
 · cases ry
   obtain ⟨its,rv,hl⟩:=DAts.tup_of I.hok e
   refine in_tupleAt _ hl (in_eq I.hok hs rv hx rx f (by omega)) (zY I q ?_)
   exact (ZW hs rv _ fun _ => rfl).symm
theorem op_notInG (hu:X.A.units + 64 < cLine):OpR X (compareOp .NotIn) (rInG true):=by
 intro pins s σ H x y v u Q I rx ry h
 obtain ⟨n,d,ds,hx,hy,f,hn,q⟩:=h
 rw [Bool.true_xor] at q
 rcases hy with ⟨l,vs,rfl,e,hs⟩ | ⟨l,vs,rfl,e,hs⟩
 · cases ry
   obtain ⟨its,rv,hl⟩:=DAts.lst_of I.hok e
   refine notIn_listAt _ hl (in_eq I.hok hs rv hx rx f (by omega)) (zY I q ?_)
   rw [ZW hs rv _ fun _ => rfl]
 · cases ry
   obtain ⟨its,rv,hl⟩:=DAts.tup_of I.hok e
   refine notIn_tupleAt _ hl (in_eq I.hok hs rv hx rx f (by omega)) (zY I q ?_)
   rw [ZW hs rv _ fun _ => rfl]
end
end L2
namespace L2
open PySem PySem.Spec PyProof.Rows PySem.SeqAt
section
variable {prog:Program} {w:World} {A:Around} {E:Value -> Shared -> Prop} {s:Shared}
theorem wO {it t:Addr} {i:Nat} {xs:Array Value} {x:Value} {Q:Value -> Shared -> Prop} (hr:s.heap.IsTupleIter it t i) (ht:s.heap.IsTuple t xs) (hx:xs[i]? = some x)
   (q:∀ h',h'.IsTupleIter it t (i + 1) -> Heap.SameBut it s.heap h' -> Q x { s with heap:=h' }):wpAny (model prog w) A (Builtin.SmallTypes.nextOf (.ref it)) Q E s:=by
 obtain ⟨o,g1,g2,g3⟩:=id hr
 obtain ⟨ot,g4,_,m,g5⟩:=ht
 unfold Builtin.SmallTypes.nextOf
 refine wpAny_bind (wpAny_callSpecial?_slot (name:=Str.ofString "__next__") hr.typeIs F.slot_tuple_iterator_next (wpAny_call_entry F.slot_tuple_iterator_next hr.typeIs F.entry_tuple_iterator_next ?_ (F.args_tuple_iterator_next_1 _)))
 refine wpAny_bind (m:=field (.ref it) 0) (wpAny_field g1 g3 (x:=.ref t) rfl ?_)
 refine (if_neg (c:=(Value.ref t == Value.none) = true) Bool.false_ne_true) ▸ ?_
 refine wpAny_bind (m:=field (.ref it) 1) (wpAny_field g1 g3 (x:=.int i 0) rfl ?_)
 refine wpAny_bind (m:=seqItems? (.ref t)) (wpAny_seqItems g4 g5 ?_)
 simp only [Int.toNat_natCast,hx]
 refine wpAny_bind (wpAny_setField g1 g3 (by simp) (wpAny_pure ⟨x,rfl,wpAny_pure (q _ ⟨_,Heap.get?_update_self _ g1 (Obj.isFreed_of_fields (Obj.data_mapFields g3 _)),(Obj.cls_mapFields ..).trans g2,?_⟩ (Heap.SameBut.update ..))⟩))
 rw [Obj.data_mapFields g3]
 simp [rawInt]
theorem nextT_end {it t:Addr} {i:Nat} {xs:Array Value} {Q:Value -> Shared -> Prop} (hh:A.handled = none) (hr:s.heap.IsTupleIter it t i) (ht:s.heap.IsTuple t xs) (hx:xs[i]? = none)
   (q:∀ h' e,Heap.ExtBut it s.heap h' -> (∃ o,h'.get? e = some o /\ o.cls = .type "StopIteration") -> E (.ref e) { s with heap:=h' }):wpAny (model prog w) A (Builtin.SmallTypes.nextOf (.ref it)) Q E s:=by
 obtain ⟨o,g1,g2,g3⟩:=id hr
 obtain ⟨ot,g4,_,m,g5⟩:=ht
 unfold Builtin.SmallTypes.nextOf
 refine wpAny_bind (wpAny_callSpecial?_slot (name:=Str.ofString "__next__") hr.typeIs F.slot_tuple_iterator_next (wpAny_call_entry F.slot_tuple_iterator_next hr.typeIs F.entry_tuple_iterator_next ?_ (F.args_tuple_iterator_next_1 _)))
 refine wpAny_bind (m:=field (.ref it) 0) (wpAny_field g1 g3 (x:=.ref t) rfl ?_)
 refine (if_neg (c:=(Value.ref t == Value.none) = true) Bool.false_ne_true) ▸ ?_
 refine wpAny_bind (m:=field (.ref it) 1) (wpAny_field g1 g3 (x:=.int i 0) rfl ?_)
 refine wpAny_bind (m:=seqItems? (.ref t)) (wpAny_seqItems g4 g5 ?_)
 simp only [Int.toNat_natCast,hx]
 refine wpAny_bind (wpAny_rule (wpAny_bind (wpAny_setField g1 g3 (by simp) ?_)))
 refine wpAny_bind (m:=newExc (.type "StopIteration") []) ?_
 simp only [newExc,newTuple]
 refine wpAny_bind (wpAny_newObj_type (wpAny_bind (m:=firstArgMember _ _) (wpAny_of_eq (a:=Value.none) (by first | rfl | (simp only [firstArgMember]; rfl)) (wpAny_newObj_type (wpAny_raiseNew_none (A:=A.in1) hh ?_) (by size_fits)))) (by size_fits))
 exact q _ _ (((Heap.SameBut.update ..).extBut.push _).push _) ⟨_,Heap.get?_push_size _ rfl,rfl⟩
structure Apt (z TI TO i1 i2 l1 l2:Addr):Prop where
 nd:[z,TI,TO,i1,i2].Nodup
 a1:l1 ≠ z /\ l1 ≠ TO /\ l1 ≠ i1 /\ l1 ≠ i2
 a2:l2 ≠ z /\ l2 ≠ TO /\ l2 ≠ i1 /\ l2 ≠ i2
theorem Apt.ne {z TI TO i1 i2 l1 l2:Addr} (d:Apt z TI TO i1 i2 l1 l2):(z ≠ TI /\ z ≠ TO /\ z ≠ i1 /\ z ≠ i2) /\ (TI ≠ TO /\ TI ≠ i1 /\ TI ≠ i2) /\ (TO ≠ i1 /\ TO ≠ i2) /\ i1 ≠ i2:=by
 have:=d.nd
 simp only [List.nodup_cons,List.mem_cons,List.not_mem_nil,or_false,not_or] at this
 exact ⟨this.1,this.2.1,this.2.2.1,this.2.2.2.1⟩
theorem yV {h h':Heap} {it t c:Addr} {i:Nat} (x:h.IsTupleIter it t i) (e:Heap.ExtBut c h h') (n:it ≠ c):h'.IsTupleIter it t i:=let ⟨o,ho,r⟩:=x; ⟨o,e _ _ n ho,r⟩
theorem qV {h h':Heap} {t c:Addr} {xs:Array Value} (x:h.IsTuple t xs) (e:Heap.ExtBut c h h') (n:t ≠ c):h'.IsTuple t xs:=let ⟨o,ho,r⟩:=x; ⟨o,e _ _ n ho,r⟩
theorem zipTL_item {z TI TO i1 i2 l1 l2:Addr} {k:Nat} {xs ys:Array Value} {x y a b:Value} {Q:Value -> Shared -> Prop} (d:Apt z TI TO i1 i2 l1 l2)
   (gz:IsZip s.heap z TI TO .none) (gI:IsPair s.heap TI (.ref i1) (.ref i2)) (gO:IsPair s.heap TO a b) (r1:s.heap.IsTupleIter i1 l1 k) (r2:s.heap.IsListIter i2 l2 k) (t1:s.heap.IsTuple l1 xs) (t2:s.heap.IsList l2 ys) (hx:xs[k]? = some x) (hy:ys[k]? = some y)
   (q:∀ h',IsZip h' z TI TO (rawInt s.heap.objs.size) -> IsPair h' TO x y -> h'.IsTupleIter i1 l1 (k + 1) -> h'.IsListIter i2 l2 (k + 1) -> IsPair h' s.heap.objs.size x y -> h'.objs.size = s.heap.objs.size + 1 ->
     (∀ c o,c ≠ z -> c ≠ TO -> c ≠ i1 -> c ≠ i2 -> s.heap.get? c = some o -> h'.get? c = some o) -> Q (.ref s.heap.objs.size) { s with heap:=h' }) :
   wpAny (model prog w) A (Builtin.«zip.__next__» ⟨[.ref z],[]⟩) (fun fin s' => ∃ v,fin = .done (.ret v) /\ Q v s') E s:=by
 obtain ⟨⟨n1,n2,n3,n4⟩,⟨n5,n6,n7⟩,⟨n8,n9⟩,n10⟩:=d.ne
 obtain ⟨c1,c2,c3,c4⟩:=d.a1
 obtain ⟨e1,e2,e3,e4⟩:=d.a2
 refine wpAny_bind (m:=field (.ref z) 2) (wpAny_field gz rfl (x:=.bool false) rfl ?_)
 refine wpAny_bind (m:=field (.ref z) 3) (wpAny_field gz rfl (x:=.ref TI) rfl ?_)
 refine wpAny_bind (wpAny_seqItems gI rfl ?_)
 refine wpAny_bind (m:=Builtin.SmallTypes.ownedTupleIsFree (.ref z)) ?_
 unfold Builtin.SmallTypes.ownedTupleIsFree
 refine wpAny_bind (wpAny_field gz rfl (x:=.none) rfl (wpAny_pure ?_))
 simp only [if_true]
 refine wpAny_bind (wpAny_rule (wpAny_bind (wpAny_field gz rfl (x:=.ref TO) rfl ?_)))
 refine wpAny_bind (wpAny_setField_rec gz (by simp) fun h1 gz1 s1 => ?_)
 replace gz1:IsZip h1 z TI TO .ellipsis:=gz1
 refine wpAny_bind ?_
 simp only [List.zipIdx_cons,List.zipIdx_nil,List.forIn_cons,List.forIn_nil]
 refine wpAny_bind (wpAny_bind (wpAny_onRaise (wpAny_bind (m:=Builtin.SmallTypes.nextOf (.ref i1)) (wO (yV r1 s1.extBut (Ne.symm n3)) (qV t1 s1.extBut c1) hx fun h2 r1' s2 => wpAny_pure ?_))))
 have gO2:IsPair h2 TO a b:=s2.extBut _ _ n8 (s1.extBut _ _ (Ne.symm n2) gO)
 refine wpAny_bind (wpAny_seqItems gO2 rfl (wpAny_bind (wpAny_updateSeq_pair gO2 fun h3 gO3 s3 => ?_)))
 replace gO3:IsPair h3 TO x b:=gO3
 refine wpAny_bind (wpAny_letGo (wpAny_pure ?_))
 refine wpAny_bind (wpAny_bind (wpAny_onRaise (wpAny_bind (m:=Builtin.SmallTypes.nextOf (.ref i2)) (wpAny_nextOf_list_item (((r2.extBut s1.extBut (Ne.symm n4)).extBut s2.extBut (Ne.symm n10)).extBut s3.extBut (Ne.symm n9))
   (((t2.extBut s1.extBut e1).extBut s2.extBut e3).extBut s3.extBut e2) hy fun h4 r2' s4 => wpAny_pure ?_))))
 have gO4:IsPair h4 TO x b:=s4.extBut _ _ n9 gO3
 refine wpAny_bind (wpAny_seqItems gO4 rfl (wpAny_bind (wpAny_updateSeq_pair gO4 fun h5 gO5 s5 => ?_)))
 replace gO5:IsPair h5 TO x y:=gO5
 refine wpAny_bind (wpAny_letGo (wpAny_pure (wpAny_pure ?_)))
 refine wpAny_bind (wpAny_seqItems gO5 rfl (wpAny_bind (wpAny_newTuple ?_)))
 have hsz:h5.objs.size = s.heap.objs.size:=by rw [s5.1,s4.1,s3.1,s2.1,s1.1]
 have gz5:IsZip h5 z TI TO .ellipsis:=s5.extBut _ _ n2 (s4.extBut _ _ n4 (s3.extBut _ _ n2 (s2.extBut _ _ n3 gz1)))
 have kk:∀ c o,c ≠ z -> c ≠ TO -> c ≠ i1 -> c ≠ i2 -> s.heap.get? c = some o -> h5.get? c = some o:=fun c o a1 a2 a3 a4 e =>
   s5.extBut _ _ a2 (s4.extBut _ _ a4 (s3.extBut _ _ a2 (s2.extBut _ _ a3 (s1.extBut _ _ a1 e))))
 have r15:h5.IsTupleIter i1 l1 (k + 1):=yV (yV (yV r1' s3.extBut (Ne.symm n8)) s4.extBut n10) s5.extBut (Ne.symm n8)
 have r25:h5.IsListIter i2 l2 (k + 1):=r2'.extBut s5.extBut (Ne.symm n9)
 have zlt:z < h5.objs.size:=Heap.lt_size gz5
 refine wpAny_bind (m:=Builtin.SmallTypes.ownedTupleHandOut (.ref z) (.ref h5.objs.size)) ?_
 unfold Builtin.SmallTypes.ownedTupleHandOut
 have gz6:IsZip (h5.push { cls:=.type "tuple",data:=.seq #[x,y] }) z TI TO .ellipsis:=Heap.get?_push_of_some _ gz5
 refine wpAny_bind (wpAny_setField_rec gz6 (by simp) fun h7 gz7 s7 => ?_)
 replace gz7:IsZip h7 z TI TO (rawInt h5.objs.size):=gz7
 refine wpAny_setField_rec gz7 (by simp) fun h8 gz8 s8 => ?_
 replace gz8:IsZip h8 z TI TO (rawInt h5.objs.size):=gz8
 have up:∀ c o,c ≠ z -> h5.get? c = some o -> h8.get? c = some o:=fun c o a1 e => s8.extBut _ _ a1 (s7.extBut _ _ a1 (Heap.get?_push_of_some _ e))
 have gT:IsPair h8 h5.objs.size x y:=s8.extBut _ _ (Nat.ne_of_gt zlt) (s7.extBut _ _ (Nat.ne_of_gt zlt) (Heap.get?_push_size _ rfl))
 have z8:h8.objs.size = h5.objs.size + 1:=by rw [s8.1,s7.1,Heap.size_push]
 rw [hsz] at gz8 gT z8
 refine wpAny_pure ⟨_,rfl,?_⟩
 show Q (.ref h5.objs.size) _
 rw [hsz]
 obtain ⟨oa,ga,gb⟩:=r15
 exact q h8 gz8 (up _ _ (Ne.symm n2) gO5) ⟨oa,up _ _ (Ne.symm n3) ga,gb⟩ (r25.at fun o e => up _ o (Ne.symm n4) e) gT z8 fun c o a1 a2 a3 a4 e => up c o a1 (kk c o a1 a2 a3 a4 e)
theorem zipTL_end {z TI TO i1 i2 l1 l2:Addr} {k:Nat} {xs ys:Array Value} {a b:Value} {Q:Fin -> Shared -> Prop} (hh:A.handled = none) (d:Apt z TI TO i1 i2 l1 l2)
   (gz:IsZip s.heap z TI TO .none) (gI:IsPair s.heap TI (.ref i1) (.ref i2)) (gO:IsPair s.heap TO a b) (r1:s.heap.IsTupleIter i1 l1 k) (r2:s.heap.IsListIter i2 l2 k) (t1:s.heap.IsTuple l1 xs) (t2:s.heap.IsList l2 ys) (hend:xs[k]? = none \/ ys[k]? = none)
   (q:∀ h' e,(∀ c o,c ≠ z -> c ≠ TO -> c ≠ i1 -> c ≠ i2 -> s.heap.get? c = some o -> h'.get? c = some o) -> (∃ o,h'.get? e = some o /\ o.cls = .type "StopIteration") -> E (.ref e) { s with heap:=h' }) :
   wpAny (model prog w) A (Builtin.«zip.__next__» ⟨[.ref z],[]⟩) Q E s:=by
 obtain ⟨⟨n1,n2,n3,n4⟩,⟨n5,n6,n7⟩,⟨n8,n9⟩,n10⟩:=d.ne
 obtain ⟨c1,c2,c3,c4⟩:=d.a1
 obtain ⟨e1,e2,e3,e4⟩:=d.a2
 refine wpAny_bind (m:=field (.ref z) 2) (wpAny_field gz rfl (x:=.bool false) rfl ?_)
 refine wpAny_bind (m:=field (.ref z) 3) (wpAny_field gz rfl (x:=.ref TI) rfl ?_)
 refine wpAny_bind (wpAny_seqItems gI rfl ?_)
 refine wpAny_bind (m:=Builtin.SmallTypes.ownedTupleIsFree (.ref z)) ?_
 unfold Builtin.SmallTypes.ownedTupleIsFree
 refine wpAny_bind (wpAny_field gz rfl (x:=.none) rfl (wpAny_pure ?_))
 simp only [if_true]
 refine wpAny_bind (wpAny_rule (wpAny_bind (wpAny_field gz rfl (x:=.ref TO) rfl ?_)))
 refine wpAny_bind (wpAny_setField_rec gz (by simp) fun h1 gz1 s1 => ?_)
 replace gz1:IsZip h1 z TI TO .ellipsis:=gz1
 refine wpAny_bind ?_
 simp only [List.zipIdx_cons,List.zipIdx_nil,List.forIn_cons,List.forIn_nil]
 cases hx:xs[k]? with
 | none =>
   refine wpAny_bind (wpAny_bind (wpAny_onRaise (wpAny_bind (m:=Builtin.SmallTypes.nextOf (.ref i1)) (nextT_end hh (yV r1 s1.extBut (Ne.symm n3)) (qV t1 s1.extBut c1) hx fun h2 e s2 he => ?_))))
   obtain ⟨oe,ge,gc⟩:=he
   have gz2:IsZip h2 z TI TO .ellipsis:=s2 _ _ n3 gz1
   have hez:e ≠ z:=fun x => by subst x; rw [gz2] at ge; cases ge; simp at gc
   exact wpAny_setField_rec gz2 (by simp) fun h3 _ s3 => q h3 e (fun c o a1 _ a3 _ x => s3.extBut _ _ a1 (s2 _ _ a3 (s1.extBut _ _ a1 x))) ⟨oe,s3.extBut _ _ hez ge,gc⟩
 | some x =>
   have hy:ys[k]? = none:=hend.resolve_left (by rw [hx]; intro z; cases z)
   refine wpAny_bind (wpAny_bind (wpAny_onRaise (wpAny_bind (m:=Builtin.SmallTypes.nextOf (.ref i1)) (wO (yV r1 s1.extBut (Ne.symm n3)) (qV t1 s1.extBut c1) hx fun h2 r1' s2 => wpAny_pure ?_))))
   have gO2:IsPair h2 TO a b:=s2.extBut _ _ n8 (s1.extBut _ _ (Ne.symm n2) gO)
   refine wpAny_bind (wpAny_seqItems gO2 rfl (wpAny_bind (wpAny_updateSeq_pair gO2 fun h3 gO3 s3 => ?_)))
   refine wpAny_bind (wpAny_letGo (wpAny_pure ?_))
   refine wpAny_bind (wpAny_bind (wpAny_onRaise (wpAny_bind (m:=Builtin.SmallTypes.nextOf (.ref i2)) (wpAny_nextOf_list_end hh (((r2.extBut s1.extBut (Ne.symm n4)).extBut s2.extBut (Ne.symm n10)).extBut s3.extBut (Ne.symm n9))
     (((t2.extBut s1.extBut e1).extBut s2.extBut e3).extBut s3.extBut e2) hy fun h4 e s4 he => ?_))))
   obtain ⟨oe,ge,gc⟩:=he
   have gz4:IsZip h4 z TI TO .ellipsis:=s4 _ _ n4 (s3.extBut _ _ n2 (s2.extBut _ _ n3 gz1))
   have hez:e ≠ z:=fun x => by subst x; rw [gz4] at ge; cases ge; simp at gc
   exact wpAny_setField_rec gz4 (by simp) fun h5 _ s5 => q h5 e (fun c o a1 a2 a3 a4 x => s5.extBut _ _ a1 (s4 _ _ a4 (s3.extBut _ _ a2 (s2.extBut _ _ a3 (s1.extBut _ _ a1 x))))) ⟨oe,s5.extBut _ _ hez ge,gc⟩
abbrev zt1 (h:Heap) (l1:Addr):Heap:=h.push { cls:=.type "tuple_iterator",data:=.fields #[.ref l1,.int 0 0] }
abbrev zt2 (h:Heap) (l1 l2:Addr):Heap:=(zt1 h l1).push { cls:=.type "list_iterator",data:=.fields #[.ref l2,.int 0 0] }
abbrev zt3 (h:Heap) (l1 l2:Addr):Heap:=(zt2 h l1 l2).push { cls:=.type "tuple",data:=.seq #[.ref h.objs.size,.ref (zt1 h l1).objs.size] }
abbrev zt4 (h:Heap) (l1 l2:Addr):Heap:=(zt3 h l1 l2).push { cls:=.type "tuple",data:=.seq #[.none,.none] }
abbrev zt5 (h:Heap) (l1 l2:Addr):Heap:=(zt4 h l1 l2).push { cls:=.type "zip",data:=.fields #[.none,.bool false,.bool false,.ref (zt2 h l1 l2).objs.size,.ref (zt3 h l1 l2).objs.size] }
theorem zipTL_new (l1 l2:Addr) (xs ys:Array Value) :
   Meets (Builtin.«zip.__new__» ⟨[.type "zip",.ref l1,.ref l2],[]⟩) (fun _ R s => s.heap.IsTuple l1 xs /\ s.heap.IsList l2 ys /\ R (.ok (.ret (.ref (zt4 s.heap l1 l2).objs.size))) { s with heap:=zt5 s.heap l1 l2 }) :=
 .of_wp fun prog w A R s h => by
   obtain ⟨hp,g,dr,tk,os⟩:=s
   obtain ⟨t1,t2,h⟩:=h
   have hsub:=sub_zip
   have g1:Heap.IsTuple (Shared.heap ⟨hp,g,dr,tk,os⟩) l1 xs:=t1
   have g2:Heap.IsList (Shared.heap ⟨hp.push { cls:=.type "tuple_iterator",data:=.fields #[.ref l1,.int 0 0] },g,dr,tk,os⟩) l2 ys:=Heap.IsList.push t2 _
   wp_walk using wpAny_pyIter_tuple g1,wpAny_pyIter_list g2
   exact ⟨_,rfl,h⟩
theorem call_zipTL {l1 l2:Addr} {xs ys:Array Value} {Q:Value -> Shared -> Prop} (t1:s.heap.IsTuple l1 xs) (t2:s.heap.IsList l2 ys)
   (q:∀ h',IsZip h' (s.heap.objs.size + 4) (s.heap.objs.size + 2) (s.heap.objs.size + 3) .none -> IsPair h' (s.heap.objs.size + 2) (.ref s.heap.objs.size) (.ref (s.heap.objs.size + 1)) -> IsPair h' (s.heap.objs.size + 3) .none .none ->
     h'.IsTupleIter s.heap.objs.size l1 0 -> h'.IsListIter (s.heap.objs.size + 1) l2 0 -> (∀ c o,s.heap.get? c = some o -> h'.get? c = some o) -> Q (.ref (s.heap.objs.size + 4)) { s with heap:=h' }) :
   wpAny (model prog w) A (call (.type "zip") [.ref l1,.ref l2]) Q E s:=by
 refine callType_new F.called_zip (by decide) (F.typeCall_zip_2 _ _) (F.newCall_zip_2 _ _) (fun obj => F.args_object_init_3 obj _ _) F.entry_zip_new (zipTL_new l1 l2 xs ys) ⟨t1,t2,?_⟩
 have y1:(zt1 s.heap l1).objs.size = s.heap.objs.size + 1:=Heap.size_push ..
 have y2:(zt2 s.heap l1 l2).objs.size = s.heap.objs.size + 2:=by rw [Heap.size_push,y1]
 have y3:(zt3 s.heap l1 l2).objs.size = s.heap.objs.size + 3:=by rw [Heap.size_push,y2]
 have y4:(zt4 s.heap l1 l2).objs.size = s.heap.objs.size + 4:=by rw [Heap.size_push,y3]
 have p5:(zt5 s.heap l1 l2).get? (zt4 s.heap l1 l2).objs.size = some _:=Heap.get?_push_size _ rfl
 have p4:(zt5 s.heap l1 l2).get? (zt3 s.heap l1 l2).objs.size = some _:=Heap.get?_push_of_some _ (Heap.get?_push_size _ rfl)
 have p3:(zt5 s.heap l1 l2).get? (zt2 s.heap l1 l2).objs.size = some _:=Heap.get?_push_of_some _ (Heap.get?_push_of_some _ (Heap.get?_push_size _ rfl))
 have p2:(zt5 s.heap l1 l2).get? (zt1 s.heap l1).objs.size = some _:=Heap.get?_push_of_some _ (Heap.get?_push_of_some _ (Heap.get?_push_of_some _ (Heap.get?_push_size _ rfl)))
 have p1:(zt5 s.heap l1 l2).get? s.heap.objs.size = some _:=Heap.get?_push_of_some _ (Heap.get?_push_of_some _ (Heap.get?_push_of_some _ (Heap.get?_push_of_some _ (Heap.get?_push_size _ rfl))))
 show _ /\ _
 rw [y2,y3,y4] at p5
 rw [y1,y2] at p3
 rw [y3] at p4
 rw [y1] at p2
 rw [y4]
 exact ⟨⟨_,p5,rfl⟩,q _ p5 p3 p4 ⟨_,p1,rfl,rfl⟩ ⟨_,p2,rfl,rfl⟩ fun c o x => Heap.get?_push_of_some _ (Heap.get?_push_of_some _ (Heap.get?_push_of_some _ (Heap.get?_push_of_some _ (Heap.get?_push_of_some _ x))))⟩
end
section
variable {X:Cx} {pins:List (Addr × Obj)} {σ:St} {H:Hp} {s:Shared} {h':Heap}
theorem Inv.turnedL {t':Nat} {ch:List Addr} (I:Inv X pins σ H s) (k:∀ b o,b ∉ ch -> s.heap.get? b = some o -> h'.get? b = some o) (hf:∀ b ∈ ch,vI X pins H b):Inv X pins σ H { s with heap:=h',toks:=t' }:=by
 have nit:∀ b u,H b = some u -> b ∉ ch:=fun b u e z => by rw [(hf b z).1] at e; cases e
 have hL:X.env.locals ∉ ch:=fun z => (hf _ z).2.1 rfl
 refine I.step (g':=s.gens) (d':=s.drawn) (ch:=ch) (fun b hb => ?_) (fun b o _ _ hc e _ => k b o hc e) (fun b o _ _ hc e _ => ⟨o.slots,k b o hc e⟩) (fun _ _ _ _ n => n) (fun b o hc e => ⟨o,k b o hc e⟩) (fun _ _ e => e) (fun _ _ _ e => e) (fun b ps e => ⟨#[],by rw [e]; simp⟩) (fun m hm => ?_) (fun b u e => ?_) I.bare
 · obtain ⟨f0, f1, f2, f3, f4, f5⟩ := hf b hb
   exact ⟨f3,f1,f4,f5⟩
 · obtain ⟨o, es, ep, ho, r⟩ := hm
   exact ⟨o,es,ep,k _ o hL ho,r⟩
 · refine (I.hok b u e).stay (fun c v hc q => k c v ?_ q) (fun _ q => q) fun _ _ q => q
   rcases hc with z | z
   · rw [z]; exact nit b u e
   · exact nit c _ z
theorem Inv.turnedN {t':Nat} {ch:List Addr} {p:Addr} {o:HO} (I:Inv X pins σ H s) (k:∀ b o,b ∉ ch -> s.heap.get? b = some o -> h'.get? b = some o) (hf:∀ b ∈ ch,vI X pins H b) (hp:s.heap.objs.size <= p) (new:ObjOk X.prog X.w (upd H p o) h' p o) :
   Inv X pins σ (upd H p o) { s with heap:=h',toks:=t' }:=by
 have nit:∀ b u,H b = some u -> b ∉ ch:=fun b u e z => by rw [(hf b z).1] at e; cases e
 have hL:X.env.locals ∉ ch:=fun z => (hf _ z).2.1 rfl
 have hn:=I.hok.fresh hp
 have nep:∀ {b:Addr} {u:HO},H b = some u -> b ≠ p:=fun e z => by rw [z,hn] at e; cases e
 refine I.step (g':=s.gens) (d':=s.drawn) (ch:=ch) (fun b hb => ?_) (fun b o _ _ hc e _ => k b o hc e) (fun b o _ _ hc e _ => ⟨o.slots,k b o hc e⟩) (fun b u _ e n => ?_) (fun b o hc e => ⟨o,k b o hc e⟩) (fun _ _ e => by rw [zH (nep e)]; exact e) (fun _ _ _ e => by rw [zH (nep e)]; exact e) (fun b ps e => ⟨#[],by rw [zH (nep e),e]; simp⟩) (fun m hm => ?_) (fun b u e => ?_) I.bare
 · obtain ⟨f0, f1, f2, f3, f4, f5⟩ := hf b hb
   exact ⟨f3,f1,f4,f5⟩
 · rw [zH (Nat.ne_of_lt (Nat.lt_of_lt_of_le (Heap.lt_size e) hp))]
   exact n
 · obtain ⟨o, es, ep, ho, r⟩ := hm
   exact ⟨o,es,ep,k _ o hL ho,r⟩
 · by_cases hb : b = p
   · subst hb
     rw [zC] at e
     cases e
     exact new
   · rw [zH hb] at e
     refine (I.hok b u e).stay (fun c v hc q => k c v ?_ q) (fun c q => by rw [zH (nep q)]; exact q) fun c _ q => by rw [zH (nep q)]; exact q
     rcases hc with z | z
     · rw [z]; exact nit b u e
     · exact nit c _ z
end
def Itz (a b:Addr):It :=
 ⟨fun i H => ∃ xs ys x y,H a = some (.tup xs) /\ H b = some (.lst ys) /\ xs[i]? = some x /\ ys[i]? = some y,
  fun i H v H' => ∃ p x y,v = .ref p /\ H p = none /\ H' = upd H p (.tup [x,y]) /\ ∀ xs ys,H a = some (.tup xs) -> H b = some (.lst ys) -> xs[i]? = some x /\ ys[i]? = some y,
  fun i H => ∃ xs ys,H a = some (.tup xs) /\ H b = some (.lst ys) /\ (xs.length <= i \/ ys.length <= i)⟩
def Zat (z TI TO i1 i2 l1 l2:Addr) (i:Nat) (h:Heap):Prop :=
 IsZip h z TI TO .none /\ IsPair h TI (.ref i1) (.ref i2) /\ (∃ a b,IsPair h TO a b) /\ h.IsTupleIter i1 l1 i /\ h.IsListIter i2 l2 i
theorem turn_zip {P:Program} {w:World} {K:PySem.W.Frag} {elts:List Expr} {cx:_} {tp:Pos} (z TI TO i1 i2 l1 l2:Addr) (nd:[z,TI,TO,i1,i2].Nodup) :
   Turn P w K (.Tuple elts cx tp) (Itz l1 l2) [z,TI,TO,i1,i2] z (Zat z TI TO i1 i2 l1 l2) where
 mem:=by simp
 obj:=fun i h st b hb => by
   obtain ⟨gz,gI,⟨a,c,gO⟩,⟨o1,r1,_,d1⟩,⟨o2,r2,_,d2⟩⟩:=st
   simp only [List.mem_cons,List.not_mem_nil,or_false] at hb
   rcases hb with rfl | rfl | rfl | rfl | rfl
   · exact ⟨_,gz,fun v e => by cases e⟩
   · exact ⟨_,gI,fun v e => by cases e⟩
   · exact ⟨_,gO,fun v e => by cases e⟩
   · exact ⟨_,r1,fun v e => by rw [d1] at e; cases e⟩
   · exact ⟨_,r2,fun v e => by rw [d2] at e; cases e⟩
 keep:=fun i h h' st k => by
   obtain ⟨gz,gI,⟨a,c,gO⟩,⟨o1,r1,q1⟩,⟨o2,r2,q2⟩⟩:=st
   exact ⟨k _ (by simp) _ gz,k _ (by simp) _ gI,⟨a,c,k _ (by simp) _ gO⟩,⟨o1,k _ (by simp) _ r1,q1⟩,⟨o2,k _ (by simp) _ r2,q2⟩⟩
 item:=by
   intro X hP hw hK hc i pins s σ H E I hf st hg
   subst hP hw hK
   obtain ⟨xs,ys,x,y,ha,hb,hx,hy⟩:=hg
   obtain ⟨its1,rv1,t1⟩:=DAts.tup_of I.hok ha
   obtain ⟨its2,rv2,t2⟩:=DAts.lst_of I.hok hb
   obtain ⟨u,hu,ru⟩:=rv1.get hx
   obtain ⟨v,hv,rw'⟩:=rv2.get hy
   obtain ⟨gz,gI,⟨a,c,gO⟩,r1,r2⟩:=st
   have out:∀ {l:Addr} {o:HO},H l = some o -> ∀ b ∈ [z,TI,TO,i1,i2],l ≠ b:=fun e b hb z => by rw [z,(hf b hb).1] at e; cases e
   have ap:Apt z TI TO i1 i2 l1 l2:=⟨nd,⟨out ha _ (by simp),out ha _ (by simp),out ha _ (by simp),out ha _ (by simp)⟩,out hb _ (by simp),out hb _ (by simp),out hb _ (by simp),out hb _ (by simp)⟩
   have hT:s.TypeIs (.ref z) "zip":=⟨_,gz,rfl⟩
   obtain ⟨⟨n1,n2,n3,n4⟩,⟨n5,n6,n7⟩,⟨n8,n9⟩,n10⟩:=ap.ne
   unfold pyNext
   refine wpAny_bind (wpAny_attempt (wpAny_callSpecial?_slot (name:=Str.ofString "__next__") hT F.slot_zip_next (wpAny_call_entry F.slot_zip_next hT F.entry_zip_next
     (zipTL_item ap gz gI gO r1 r2 t1 t2 (by simpa using hu) (by simpa using hv) fun h1 b1 b2 b3 b4 b5 b6 b7 => wpAny_pure ?_) (F.args_zip_next_1 _))))
   refine ⟨_,rfl,wpAny_letOwnedTupleGo_zip (s:={ s with heap:=h1 }) b1 fun h2 g2 s2 => ?_⟩
   have big:∀ b ∈ [z,TI,TO,i1,i2],b < s.heap.objs.size:=fun b hb => by
     simp only [List.mem_cons,List.not_mem_nil,or_false] at hb
     rcases hb with rfl | rfl | rfl | rfl | rfl
     · exact Heap.lt_size gz
     · exact Heap.lt_size gI
     · exact Heap.lt_size gO
     · obtain ⟨_,e,_⟩:=r1; exact Heap.lt_size e
     · obtain ⟨_,e,_⟩:=r2; exact Heap.lt_size e
   have nz:s.heap.objs.size ≠ z:=Nat.ne_of_gt (big z (by simp))
   have keep2:∀ b o,b ∉ [z,TO,i1,i2] -> s.heap.get? b = some o -> h2.get? b = some o:=fun b o hb e => by
     simp only [List.mem_cons,List.not_mem_nil,or_false,not_or] at hb
     exact s2.extBut b o hb.1 (b7 b o hb.1 hb.2.1 hb.2.2.1 hb.2.2.2 e)
   have hfr:H s.heap.objs.size = none:=I.hok.fresh (Nat.le_refl _)
   have hfr2:∀ b ∈ [z,TO,i1,i2],vI X pins H b:=fun b hb => hf b (by simp only [List.mem_cons,List.not_mem_nil,or_false] at hb ⊢; rcases hb with h | h | h | h <;> simp [h])
   have gT:IsPair h2 s.heap.objs.size u v:=s2.extBut _ _ nz b5
   refine ⟨.ref s.heap.objs.size,_,I.turnedN (t':=s.toks) (p:=s.heap.objs.size) (o:=.tup [x,y]) keep2 hfr2 (Nat.le_refl _) ⟨small (by simp),[u,v],.cons ru (.cons rw' .nil),⟨_,gT,rfl,_,rfl⟩⟩,rfl,⟨_,x,y,rfl,hfr,rfl,fun xs' ys' e1 e2 => ?_⟩,?_,fun b hb => ?_⟩
   · rw [ha] at e1
     rw [hb] at e2
     cases e1
     cases e2
     exact ⟨hx,hy⟩
   · obtain ⟨o3, b31, b32⟩ := b3
     obtain ⟨o4,b41,b42⟩:=b4
     refine ⟨g2,s2.extBut _ _ (Ne.symm n1) (b7 _ _ (Ne.symm n1) n5 n6 n7 gI),⟨_,_,s2.extBut _ _ (Ne.symm n2) b2⟩,⟨o3,s2.extBut _ _ (Ne.symm n3) b31,b32⟩,⟨o4,s2.extBut _ _ (Ne.symm n4) b41,b42⟩⟩
   · rw [zH (Nat.ne_of_lt (big b hb))]
     exact (hf b hb).1
 done:=by
   intro X hP hw hK hc i pins s σ H E I hf st hg
   subst hP hw hK
   obtain ⟨xs,ys,ha,hb,hl⟩:=hg
   obtain ⟨its1,rv1,t1⟩:=DAts.tup_of I.hok ha
   obtain ⟨its2,rv2,t2⟩:=DAts.lst_of I.hok hb
   have k1:=rv1.length
   have k2:=rv2.length
   obtain ⟨gz,gI,⟨a,c,gO⟩,r1,r2⟩:=st
   have out:∀ {l:Addr} {o:HO},H l = some o -> ∀ b ∈ [z,TI,TO,i1,i2],l ≠ b:=fun e b hb z => by rw [z,(hf b hb).1] at e; cases e
   have ap:Apt z TI TO i1 i2 l1 l2:=⟨nd,⟨out ha _ (by simp),out ha _ (by simp),out ha _ (by simp),out ha _ (by simp)⟩,out hb _ (by simp),out hb _ (by simp),out hb _ (by simp),out hb _ (by simp)⟩
   have hT:s.TypeIs (.ref z) "zip":=⟨_,gz,rfl⟩
   unfold pyNext
   refine wpAny_bind (wpAny_attempt (wpAny_callSpecial?_slot (name:=Str.ofString "__next__") hT F.slot_zip_next (wpAny_call_entry F.slot_zip_next hT F.entry_zip_next
     (zipTL_end (I.ok.hd hc) ap gz gI gO r1 r2 t1 t2 (by simp; omega) fun h1 e kk he => ?_) (F.args_zip_next_1 _))))
   obtain ⟨o,ge,gc⟩:=he
   refine wpAny_bind (wpAny_isInstance (T:="StopIteration") (b:=true) ⟨o,ge,gc⟩ isSubtype_stop (wpAny_pure ⟨rfl,?_⟩))
   refine I.turnedL (ch:=[z,TO,i1,i2]) (t':=s.toks) (fun b o hb e => ?_) (fun b hb => hf b (by simp only [List.mem_cons,List.not_mem_nil,or_false] at hb ⊢; rcases hb with h | h | h | h <;> simp [h]))
   simp only [List.mem_cons,List.not_mem_nil,or_false,not_or] at hb
   exact kk b o hb.1 hb.2.1 hb.2.2.1 hb.2.2.2 e
 self:=fun _ _ _ _ _ st h => wpAny_pyIter_zip st.1 h
section
variable {X:Cx}
theorem boot_zip:bootBuiltins "zip" = some (.type "zip"):=by rfl
def iZip (ta:TA):TI:=fun σ H R => ta σ H fun vs H1 => ∃ a b xs ys,vs = [.ref a,.ref b] /\ H1 a = some (.tup xs) /\ H1 b = some (.lst ys) /\ R (Itz a b) H1
theorem pi_zip {elts:List Expr} {cx:_} {tp:Pos} {a b:Expr} {ta:TA} {p pos:Pos} (hg:Gl X "zip") (hm:X.mg "zip" = none) (ha:PA X [a,b] ta) (hs:starEach [a,b] X.env = [(false,eval a X.env),(false,eval b X.env)]:=by rfl) (hs2:starEach [b] X.env = [(false,eval b X.env)]:=by rfl) :
   PI X (.Tuple elts cx tp) (.Call (.Name "zip" p) [a,b] [] pos) (iZip ta):=by
 intro pins s σ H R I h
 refine Call_ (uK I hg hm boot_zip (PyProof.Rows.callWith_type1 (thn (ha pos pins s σ H _ I h) fun us s1 ⟨vs,H1,I1,r1,q1⟩ => ?_) (by rw [hs,hs2]) (by rw [hs2]; rfl)))
 obtain ⟨l1,l2,xs,ys,e,h1,h2,q⟩:=q1
 subst e
 cases r1 with
 | cons r rr =>
   cases rr with
   | cons r' rr =>
     cases rr
     cases r
     cases r'
     obtain ⟨its1,rv1,t1⟩:=DAts.tup_of I1.hok h1
     obtain ⟨its2,rv2,t2⟩:=DAts.lst_of I1.hok h2
     refine call_zipTL t1 t2 fun h' gz gI gO g1 g2 kk => ?_
     refine wpAny_pyIter_zip (s:={ s1 with heap:=h' }) gz ?_
     have fr:∀ b,s1.heap.objs.size <= b -> vI X pins H1 b:=fun b hb => I1.fpOk hb (I1.hok.fresh hb)
     refine ⟨_,[s1.heap.objs.size + 4,s1.heap.objs.size + 2,s1.heap.objs.size + 3,s1.heap.objs.size,s1.heap.objs.size + 1],_,_,H1,rfl,I1.kept (t':=s1.toks) kk,turn_zip _ _ _ _ _ l1 l2 (by simp),⟨gz,gI,⟨_,_,gO⟩,g1,g2⟩,fun b hb => ?_,q⟩
     simp only [List.mem_cons,List.not_mem_nil,or_false] at hb
     rcases hb with rfl | rfl | rfl | rfl | rfl <;> exact fr _ (by omega)
end
end L2
namespace L2
open PySem PySem.Spec PyProof.Rows PySem.SeqAt
def entI (w:World):List DictEntry -> List (Str × Int) -> Prop
 | [],r => r = []
 | e :: es,r => ∃ x y t u r',r = (x,y) :: r' /\ e.hash = hashStr w x /\ e.key = .str x t /\ e.val = .int y u /\ entI w es r'
theorem entI.all {w:World} {P:Program}:∀ {es:List DictEntry} {r:List (Str × Int)},entI w es r -> (∀ e ∈ es,∃ k,(yH P w).is k e.key = true /\ e.hash = (yH P w).hash k) /\
   ∃ vs:List (Key × Value),KV (r.map fun p => ((.inr p.1:Key),V.int p.2)) vs /\ Pairs (yH P w) es vs /\ vs.map (·.1) = r.map fun p => (.inr p.1:Key)
 | [], r, h => by
   have h:r = []:=h
   subst h
   exact ⟨fun e he => (nomatch he),[],.nil,.nil,rfl⟩
 | e :: es, r, h => by
   obtain ⟨x,y,t,u,r',rfl,h1,h2,h3,h4⟩:=h
   obtain ⟨g,vs,a,b,c⟩:=entI.all (P:=P) h4
   refine ⟨fun e' he => ?_,(.inr x,.int y u) :: vs,.cons ⟨rfl,u,rfl⟩ a,.cons (by rw [h2]; exact qL P w x t) h3 b,?_⟩
   · rcases List.mem_cons.mp he with rfl | he
     · exact ⟨.inr x,by rw [h2]; exact qL P w x t,h1⟩
     · exact g e' he
   · rw [List.map_cons,List.map_cons,c]
theorem fw_zip {a b:Addr} {xs ys:List V} {g:TG} {tb:TS} {D:Ends} {σ:St} {H:Hp} (Pv:Nat -> St -> Hp -> Prop) (h0:Pv 0 σ H) (hl:∀ i σ H,Pv i σ H -> H a = some (.tup xs) /\ H b = some (.lst ys))
   (hs:∀ (i:Nat) x y σ H p,xs[i]? = some x -> ys[i]? = some y -> Pv i σ H -> H p = none -> g (.ref p) σ (upd H p (.tup [x,y])) fun σ2 H2 => tb { D with nx:=Pv (i + 1),ct:=Pv (i + 1),bk:=D.nx } σ2 H2)
   (hd:∀ σ H,Pv (min xs.length ys.length) σ H -> D.nx σ H):ForW (Itz a b) g tb D σ H:=by
 refine ⟨fun i m σ H => m = min xs.length ys.length - i /\ i <= min xs.length ys.length /\ Pv i σ H,⟨_,by rfl,Nat.zero_le _,h0⟩,fun i m σ1 H1 ⟨hm,hi,hp⟩ => ?_⟩
 obtain ⟨k1,k2⟩:=hl i σ1 H1 hp
 by_cases h:i < min xs.length ys.length
 · have h1 : i < xs.length := by omega
   have h2:i < ys.length:=by omega
   refine .inr ⟨⟨xs,ys,_,_,k1,k2,List.getElem?_eq_getElem h1,List.getElem?_eq_getElem h2⟩,Pv (i + 1),fun σ' H' q => ⟨_,?_,rfl,by omega,q⟩,fun v H' ⟨p,x,y,e1,e2,e3,e4⟩ => ?_⟩
   · omega
   · subst e1
     subst e3
     obtain ⟨x1,x2⟩:=e4 xs ys k1 k2
     exact hs i x y σ1 H1 p x1 x2 hp e2
 · have e : i = min xs.length ys.length := by omega
   subst e
   exact .inl ⟨⟨xs,ys,k1,k2,by omega⟩,hd σ1 H1 hp⟩
end L2
namespace L2
open PySem PySem.Spec PyProof.Rows PySem.SeqAt
inductive Rw where
 | no | nm (x:Str) | bo (i j:Int)
def dRw:Rw -> Dt
 | .no => .tup [.str "none"]
 | .nm x => .tup [.str "name",.str x]
 | .bo i j => .tup [.str "both",.int i,.int j]
abbrev Pr:=Int × Int
def dPr (p:Pr):Dt:=.tup [.int p.1,.int p.2]
abbrev yA:=List Pr × Pr
def dNR (r:yA):Dt:=.tup [.lst (r.1.map dPr),dPr r.2]
inductive Wt where
 | n (i:Int) | ps (l:List Int)
def dWt:Wt -> Dt
 | .n i => .int i
 | .ps l => .tup (l.map .int)
structure Ln where
 i:Int
 j:Int
 w:Str
 as:List Wt
def vG (w:Str) (as:List Wt):Dt:=.tup (.str w :: as.map dWt)
def dLn (l:Ln):Dt:=.tup [.int l.i,.int l.j,vG l.w l.as]
def vA (b:Int):Wt -> Bool
 | .n i => decide (0 <= i) && decide (i < b)
 | .ps _ => false
def jO (rows:List Rw) (n:Int):List Int:=if n % 2 = 0 then (match rows[(n / 2).toNat]? with | some (.bo i j) => [i,j] | _ => []) else []
def yF (ls:List Ln) (k:Nat):Wt -> Option Pr
 | .n i => if 0 <= i /\ i < k then (ls[i.toNat]?).map fun l => (l.i,l.j) else none
 | .ps _ => none
def dSd:Option Pr -> Dt
 | none => .non
 | some p => dPr p
def tn1 (n:Int):Int:=n + 1 - 2 * (n % 2)
def named (w:Str):Option Int :=
 if w = "same" then some 0 else if w = "edge" then some 0 else if w = "part" then some 0 else if w = "both" then some 2 else if w = "turn" then some 1 else if w = "chain" then some 2 else if w = "clash" then some 1 else none
def zW (rows:List Rw) (i j:Int) (w:Str) (sd:List Pr):Bool :=
 if w = "same" then i == j
 else if w = "edge" then i == 0 || j == 1
 else if w = "part" then (jO rows i).any fun x => x == j
 else if w = "both" then (match jO rows j with | [a,b] => sd == [(i,a),(i,b)] | _ => false)
 else if w = "turn" then sd == [(tn1 j,tn1 i)]
 else if w = "chain" then (match sd with | [p,q] => p.1 == i && p.2 == q.1 && q.2 == j | _ => false)
 else sd == [(i,tn1 i)]
def xA (rules:List yA) (ls:List Ln) (k:Nat) (l:Ln):Bool :=
 match l.as with
 | [.n r,.ps ps] => if 0 <= r /\ r < rules.length then (match rules[r.toNat]? with | some q => (l.i,l.j) == q.2 && (ps.map fun p => yF ls k (.n p)) == q.1.map some | none => false) else false
 | _ => false
def yO (rows:List Rw) (rules:List yA) (ls:List Ln) (k:Nat) (l:Ln):Bool :=
 if ¬ (0 <= l.i /\ l.i < 2 * rows.length) \/ ¬ (0 <= l.j /\ l.j < 2 * rows.length) then false
 else if l.w = "rule" then xA rules ls k l
 else if named l.w = some (l.as.length:Int) /\ (l.as.all fun a => (yF ls k a).isSome) = true then zW rows l.i l.j l.w (l.as.filterMap (yF ls k))
 else false
theorem xor1 (n:Int):Builtin.bitXor n 1 = tn1 n:=by
 rw [bitXor_and]
 unfold tn1
 rw [bitAnd_m1]
end L2
namespace L2
open PySem PySem.Spec PyProof.Rows PySem.SeqAt
section
variable {prog:Program} {w:World} {A:Around} {E:Value -> Shared -> Prop} {s:Shared}
theorem tup_whole {t sl:Addr} {items:Array Value} {vl vu:Value} {lo hi:Option Int} {Q:Value -> Shared -> Prop} (ht:IsTup s.heap t items) (hs:s.heap.IsSliceOf sl vl vu .none) (pl:IsPart vl lo) (pu:IsPart vu hi)
   (hw:HT.sIx items.size 0 lo = 0 /\ HT.sIx items.size items.size hi = items.size) (h:Q (.ref t) s):wpAny (model prog w) A (getItem (.ref t) (.ref sl)) Q E s:=by
 obtain ⟨os,hos,hcs,hds⟩:=id hs
 have hTs:s.TypeIs (.ref sl) "slice":=⟨os,hos,hcs⟩
 unfold getItem
 try with_reducible refine wpAny_holding ?_
 first | refine wpAny_bind (wpAny_pure ?_) | skip
 refine wpAny_bind (wpAny_sequenceKey ht.typeIs (by decide) (wpAny_bind (wpAny_callSpecial?_slot (name:=Str.ofString "__getitem__") ht.typeIs PyProof.Rows.slot_tuple_getitem (wpAny_call_entry PyProof.Rows.slot_tuple_getitem ht.typeIs entry_tuple_getitem ?_ (args_tuple_getitem _ _)))))
 refine wpAny_bind (m:=Builtin.Tuple.tupleItemsOf (.ref t)) (tupleItemsOf_ ht (wpAny_bind (wpAny_typeOf hTs ?_)))
 rw [if_pos (by decide)]
 refine wpAny_bind (HT.sliceApplied_gen hs pl pu ?_)
 have hyes:((((HT.sIx items.size 0 lo:Nat):Int) == 0 && (1:Int) == 1 && (HT.sIx items.size items.size hi - HT.sIx items.size 0 lo) == items.size) = true):=by
   rw [hw.1,hw.2]
   simp
 show wpAny _ _ (if (((HT.sIx items.size 0 lo:Nat):Int) == 0 && (1:Int) == 1 && (HT.sIx items.size items.size hi - HT.sIx items.size 0 lo) == items.size) = true then _ else _) _ _ s
 rw [if_pos hyes]
 have hT:=ht.typeIs
 wp_walk
 exact ⟨_,rfl,wpAny_pure h⟩
end
section
variable {X:Cx}
def rSlG:V -> Option Int -> Option Int -> Hp -> VK -> Prop:=fun x lo hi H Q => ∃ a xs,x = .ref a /\ H a = some (.tup xs) /\ ∀ p H',Same H H' -> H' p = some (.tup (uD xs lo hi)) -> Q (.ref p) H'
theorem sl_tupG:SlR X rSlG:=by
 intro pins s σ H x v vl vu lo hi sl Q I rx hs pl pu h
 obtain ⟨a,xs,rfl,hx,q⟩:=h
 by_cases hw:HT.sIx xs.length 0 lo = 0 /\ HT.sIx xs.length xs.length hi = xs.length
 · cases rx
   obtain ⟨its,r,ht,hz⟩:=I.tuple (SqT.of hx)
   have hlen:its.toArray.size = xs.length:=by rw [List.size_toArray]; exact r.length.symm
   refine ⟨"tuple",_,PyProof.Rows.slot_tuple_getitem.lookup,ht.typeIs,?_⟩
   refine tup_whole ht hs pl pu (by rw [hlen]; exact hw) ⟨.ref a,H,I,rfl,q a H (Same.refl H) ?_⟩
   have e:uD xs lo hi = xs:=by
     unfold uD
     rw [hw.1,hw.2,List.drop_zero,Nat.sub_zero,List.take_of_length_le (Nat.le_refl _)]
   rw [e]
   exact hx
 · exact sl_tup pins s σ H _ v vl vu lo hi sl Q I rx hs pl pu ⟨a,xs,rfl,SqT.of hx,hw,fun p hp => q p _ (zF hp _) zC⟩
def rCatG:R2:=fun x y H Q => ∃ a b xs ys,x = .ref a /\ y = .ref b /\ H a = some (.tup xs) /\ H b = some (.tup ys) /\ xs.length + ys.length <= sizeLine /\ ∀ p H',Same H H' -> H' p = some (.tup (xs ++ ys)) -> Q (.ref p) H'
theorem op_catG:OpR X (binaryOp .Add) rCatG:=by
 intro pins s σ H x y v u Q I rx ry h
 obtain ⟨a,b,xs,ys,rfl,rfl,ha,hb,hz,q⟩:=h
 by_cases hx:xs = []
 · subst hx
   cases rx
   cases ry
   obtain ⟨its,r1,p1,_⟩:=I.tuple (SqT.of ha)
   obtain ⟨its2,r2,p2,_⟩:=I.tuple (SqT.of hb)
   have hv:its = []:=r1.nil_iff.mpr rfl
   obtain ⟨⟨cls,dd,data,sl⟩,ho,hc,n,hd⟩:=id p1
   obtain ⟨⟨cls2,dd2,data2,sl2⟩,ho2,hc2,n2,hd2⟩:=id p2
   simp only at hc hd hc2 hd2
   subst hc hd hc2 hd2
   exact concat_meets ⟨_,ho,rfl⟩ ⟨_,ho2,rfl⟩ noFill_tuple_add seq_tuple_add PySem.F.slot_tuple_add PySem.F.entry_tuple_add (PySem.F.args_tuple_add_2 _ _) (tuple_addW0 a b its.toArray its2.toArray n n2 dd dd2 sl sl2 (by simp [hv])) ⟨ho,ho2,⟨.ref b,H,I,rfl,q b H (Same.refl H) hb⟩⟩
 · refine op_catT pins s σ H _ _ v u Q I rx ry ⟨a, b, xs, ys, rfl, rfl, SqT.of ha, SqT.of hb, hx, hz, fun e => ?_, fun _ p hp => q p _ (zF hp _) zC⟩
   subst e
   exact q a H (Same.refl H) (by rw [List.append_nil]; exact ha)
end
end L2
namespace L2
open PySem
end L2
namespace L2
open PySem PyProof.Rows
section
variable {prog:Program} {w:World} {A:Around} {E:Value -> Shared -> Prop} {s:Shared}
end
section
variable {prog:Program} {w:World} {A:Around} {R:Result -> Shared -> Prop} {I:Addr} {fp wr:List Addr} {G:Array GenState -> Array GenState -> Prop} {n:Nat} {P:Nat -> Value -> Prop} {St:Nat -> Shared -> Prop}
end
section
variable {prog:Program} {w:World} {A:Around} {E:Value -> Shared -> Prop} {s:Shared}
theorem ints_ofT:∀ {vs:List Value} {ss:List Int},vs.length = ss.length -> (∀ (i:Nat) (v:Value) (x:Int),vs[i]? = some v -> ss[i]? = some x -> ∃ t,v = .int x t) -> IntsAre vs ss
 | [],[],_,_ => .nil
 | [],_ :: _,h,_ => by simp at h
 | _ :: _,[],h,_ => by simp at h
 | v :: vs, x :: ss, h, hh => by
   obtain ⟨t,rfl⟩:=hh 0 v x rfl rfl
   exact .cons x t (ints_ofT (by simpa using h) fun i v' x' h1 h2 => hh (i + 1) v' x' (by simpa using h1) (by simpa using h2))
end
end L2
namespace L2
open PySem PySem.Spec PyProof.Rows PySem.SeqAt PySem.W
theorem ints_vals:∀ {vs:List Value} {ss:List Int},IntsAre vs ss -> Vals (ss.map V.int) vs
 | _,_,.nil => .nil
 | _,_,.cons y t h => .cons ⟨t,rfl⟩ (ints_vals h)
section
variable {prog:Program} {w:World} {A:Around} {E:Value -> Shared -> Prop} {s:Shared} {T:String} {r d:Addr} {n:Nat} {P:Nat -> Value -> Prop} {OK:Heap -> Prop}
end
section
variable {X:Cx}
end
end L2
namespace L2
open PySem PySem.Spec PyProof.Rows PySem.SeqAt
def Ite (a:Addr):It :=
 ⟨fun i H => ∃ xs x,H a = some (.lst xs) /\ xs[i]? = some x,
  fun i H v H' => ∃ p x,v = .ref p /\ H p = none /\ H' = upd H p (.tup [.int i,x]) /\ ∀ xs,H a = some (.lst xs) -> xs[i]? = some x,
  fun i H => ∃ xs,H a = some (.lst xs) /\ xs.length <= i⟩
def Eat (e it l:Addr) (i:Nat) (h:Heap):Prop:=(∃ old,IsEnum h e it i old) /\ h.IsListIter it l i
theorem turn_enum {P:Program} {w:World} {K:PySem.W.Frag} {elts:List Expr} {cx:_} {tp:Pos} (e it l:Addr) (ne:e ≠ it) :
   Turn P w K (.Tuple elts cx tp) (Ite l) [e,it] e (Eat e it l) where
 mem:=by simp
 obj:=fun i h st b hb => by
   obtain ⟨⟨old,ge⟩,⟨o2,r2,_,d2⟩⟩:=st
   simp only [List.mem_cons,List.not_mem_nil,or_false] at hb
   rcases hb with rfl | rfl
   · exact ⟨_,ge,fun v e => by cases e⟩
   · exact ⟨_,r2,fun v e => by rw [d2] at e; cases e⟩
 keep:=fun i h h' st k => by
   obtain ⟨⟨old,ge⟩,⟨o2,r2,q2⟩⟩:=st
   exact ⟨⟨old,k _ (by simp) _ ge⟩,⟨o2,k _ (by simp) _ r2,q2⟩⟩
 item:=by
   intro X hP hw hK hc i pins s σ H E I hf st hg
   subst hP hw hK
   obtain ⟨xs,x,ha,hx⟩:=hg
   obtain ⟨its,rv,t1⟩:=DAts.lst_of I.hok ha
   obtain ⟨u,hu,ru⟩:=rv.get hx
   obtain ⟨⟨old,ge⟩,r1⟩:=st
   refine wpAny_pyNext_enum_item ge r1 t1 (by simpa using hu) ne fun h1 b1 b2 b3 b4 b5 => ?_
   refine ⟨_,rfl,wpAny_letOwnedTupleGo_enum (s:={ s with heap:=h1,toks:=s.toks + 1 }) b1 fun h2 g2 s2 => ?_⟩
   have be:e < s.heap.objs.size:=Heap.lt_size ge
   have bi:it < s.heap.objs.size:=by obtain ⟨_,z,_⟩:=r1; exact Heap.lt_size z
   have keep2:∀ b o,b ∉ [e,it] -> s.heap.get? b = some o -> h2.get? b = some o:=fun b o hb q => by
     simp only [List.mem_cons,List.not_mem_nil,or_false,not_or] at hb
     exact s2.extBut b o hb.1 (b5 b o hb.1 hb.2 q)
   have hfr:H s.heap.objs.size = none:=I.hok.fresh (Nat.le_refl _)
   have gT:=s2.extBut _ _ (Nat.ne_of_gt be) b3
   refine ⟨.ref s.heap.objs.size,_,I.turnedN (t':=s.toks + 1) (p:=s.heap.objs.size) (o:=.tup [.int i,x]) keep2 hf (Nat.le_refl _) ⟨small (by simp),[.int i s.toks,u],.cons ⟨_,rfl⟩ (.cons ru .nil),⟨_,gT,rfl,_,rfl⟩⟩,rfl,⟨_,x,rfl,hfr,rfl,fun xs' e1 => ?_⟩,?_,fun b hb => ?_⟩
   · rw [ha] at e1
     cases e1
     exact hx
   · obtain ⟨o2, b21, b22⟩ := b2
     exact ⟨⟨_,g2⟩,⟨o2,s2.extBut _ _ (Ne.symm ne) b21,b22⟩⟩
   · have hb2 : b < s.heap.objs.size := by
       simp only [List.mem_cons,List.not_mem_nil,or_false] at hb
       rcases hb with rfl | rfl
       · exact be
       · exact bi
     rw [zH (Nat.ne_of_lt hb2)]
     exact (hf b hb).1
 done:=by
   intro X hP hw hK hc i pins s σ H E I hf st hg
   subst hP hw hK
   obtain ⟨xs,ha,hl⟩:=hg
   obtain ⟨its,rv,t1⟩:=DAts.lst_of I.hok ha
   have k1:=rv.length
   obtain ⟨⟨old,ge⟩,r1⟩:=st
   refine wpAny_pyNext_enum_end (I.ok.hd hc) ge r1 t1 (by simp; omega) fun h1 kk => ⟨rfl,?_⟩
   refine I.turnedL (ch:=[it]) (t':=s.toks) (fun b o hb q => ?_) (fun b hb => hf b (by simp only [List.mem_cons,List.not_mem_nil,or_false] at hb ⊢; exact .inr hb))
   simp only [List.mem_cons,List.not_mem_nil,or_false] at hb
   exact kk b o hb q
 self:=fun _ _ _ _ _ st h => by
   obtain ⟨⟨old,ge⟩,_⟩:=st
   exact wpAny_pyIter_enum ge h
section
variable {X:Cx}
def kU (ta:TA):TI:=fun σ H R => ta σ H fun vs H1 => ∃ a xs,vs = [.ref a] /\ H1 a = some (.lst xs) /\ R (Ite a) H1
theorem uU {elts:List Expr} {cx:_} {tp:Pos} {a:Expr} {ta:TA} {p pos:Pos} (hg:Gl X "enumerate") (hm:X.mg "enumerate" = none) (ha:PA X [a] ta) (hs:starEach [a] X.env = [(false,eval a X.env)]:=by rfl) :
   PI X (.Tuple elts cx tp) (.Call (.Name "enumerate" p) [a] [] pos) (kU ta):=by
 intro pins s σ H R I h
 refine Call_ (uK I hg hm boot_enumerate (PyProof.Rows.callWith_type1 (thn (ha pos pins s σ H _ I h) fun us s1 ⟨vs,H1,I1,r1,q1⟩ => ?_) (by rw [hs]; rfl) (by rfl)))
 obtain ⟨l1,xs,e,h1,q⟩:=q1
 subst e
 cases r1 with
 | cons r rr =>
   cases rr
   cases r
   obtain ⟨its1,rv1,t1⟩:=DAts.lst_of I1.hok h1
   refine call_enumerate_list t1 fun h' gz g1 _ kk => ?_
   refine wpAny_pyIter_enum (s:={ s1 with heap:=h' }) gz ?_
   have fr:∀ b,s1.heap.objs.size <= b -> vI X pins H1 b:=fun b hb => I1.fpOk hb (I1.hok.fresh hb)
   refine ⟨_,[s1.heap.objs.size + 1,s1.heap.objs.size],_,_,H1,rfl,I1.kept (t':=s1.toks) kk,turn_enum _ _ l1 (Nat.succ_ne_self _),⟨⟨_,gz⟩,g1⟩,fun b hb => ?_,q⟩
   simp only [List.mem_cons,List.not_mem_nil,or_false] at hb
   rcases hb with rfl | rfl <;> exact fr _ (by omega)
end
theorem wC {a:Addr} {xs:List V} {g:TG} {tb:TS} {D:Ends} {σ:St} {H:Hp} (Pv:Nat -> St -> Hp -> Prop) (h0:Pv 0 σ H) (hl:∀ i σ H,Pv i σ H -> H a = some (.lst xs))
   (hs:∀ (i:Nat) x σ H p,xs[i]? = some x -> Pv i σ H -> H p = none -> g (.ref p) σ (upd H p (.tup [.int i,x])) fun σ2 H2 => tb { D with nx:=Pv (i + 1),ct:=Pv (i + 1),bk:=D.nx } σ2 H2)
   (hd:∀ σ H,Pv xs.length σ H -> D.nx σ H):ForW (Ite a) g tb D σ H:=by
 refine ⟨fun i m σ H => m = xs.length - i /\ i <= xs.length /\ Pv i σ H,⟨_,by rfl,Nat.zero_le _,h0⟩,fun i m σ1 H1 ⟨hm,hi,hp⟩ => ?_⟩
 have k1:=hl i σ1 H1 hp
 by_cases h:i < xs.length
 · refine .inr ⟨⟨xs, _, k1, List.getElem?_eq_getElem h⟩, Pv (i + 1), fun σ' H' q => ⟨_, ?_, rfl, by omega, q⟩, fun v H' ⟨p, x, e1, e2, e3, e4⟩ => ?_⟩
   · omega
   · subst e1
     subst e3
     exact hs i x σ1 H1 p (e4 xs k1) hp e2
 · have e : i = xs.length := by omega
   subst e
   exact .inl ⟨⟨xs,k1,Nat.le_refl _⟩,hd σ1 H1 hp⟩
theorem lc_enum {a:Addr} {xs:List V} {ns:List Str} {js:List Nat} {g:TG} {te:TE} {σ:St} {H:Hp} {Q:VK} (Pv:Nat -> List V -> St -> Hp -> Prop) (h0:Pv 0 [] (lcSt ns js σ) H) (hz:xs.length <= sizeLine) (hl:∀ i ys σ H,Pv i ys σ H -> ys.length <= i)
   (hK:∀ i ys σ H,Pv i ys σ H -> H a = some (.lst xs))
   (hs:∀ (i:Nat) x ys σ H p (C:V -> St -> Hp -> Prop),xs[i]? = some x -> Pv i ys σ H -> H p = none -> (∀ y σ2 H3,Pv (i + 1) (ys ++ [y]) σ2 H3 -> C y σ2 H3) -> g (.ref p) σ (upd H p (.tup [.int i,x])) fun σ2 H2 => te σ2 H2 fun y H3 => C y σ2 H3)
   (hd:∀ ys σ H,Pv xs.length ys σ H -> ∀ p,H p = none -> Q (.ref p) (upd H p (.lst ys))) :
   LcW (Ite a) ns js g none te σ H Q :=
 lc_by (n:=xs.length) Pv h0 hz hl (fun i ys σ H hi w => ⟨xs,xs[i],hK i ys σ H w,List.getElem?_eq_getElem hi⟩) (fun ys σ H w => ⟨xs,hK _ ys σ H w,Nat.le_refl _⟩)
   (fun i ys σ H x H' C hi w ⟨p,y,e1,e2,e3,e4⟩ hC => by subst e1; subst e3; exact hs i y ys σ H p C (e4 xs (hK i ys σ H w)) w e2 hC) hd
def Itd (hi:Int) (n:Nat):It:=⟨fun i _ => i < n,fun i H x H' => H' = H /\ x = .int (hi - i),fun i _ => n <= i⟩
theorem turn_down {P:Program} {w:World} {K:PySem.W.Frag} {tg:Expr} (it:Addr) (hi:Int) (n:Nat):Turn P w K tg (Itd hi n) [it] it (fun i h => IsRangeIter h it (hi + (i:Nat) * (-1)) ((n:Int) - (i:Nat)) (-1)) where
 mem:=by simp
 obj := fun i h st b hb => by
   have e:b = it:=by simpa using hb
   subst e
   exact ⟨_,st,fun v z => by
     have z':Data.fields _ = Data.cell v:=z
     cases z'⟩
 keep:=fun i h h' st k => k it (by simp) _ st
 item:=by
   intro X hP hw hK hc i pins s σ H E I hf st hg
   subst hP hw hK
   obtain ⟨f0,f1,f2,f3,f4,f5⟩:=hf it (by simp)
   have W:=Walks.range (prog:=X.prog) (w:=X.w) (I.ok.hd hc) it hi (-1) n
   refine W.item i s _ _ hg st fun v h' tk hv st' kk => ?_
   obtain ⟨t,rfl⟩:=hv
   have I1:Inv X pins σ H { s with heap:=h',toks:=tk }:=I.turned (fun b o hb e => kk b o (by simpa using hb) e) f0 f1 f3 f4 f5
   refine ⟨_,rfl,go_of (s:={ s with heap:=h',toks:=tk }) (n:="range_iterator") st' rfl rfl (by decide) ⟨.int (hi - i),H,I1,⟨t,?_⟩,⟨rfl,rfl⟩,st',fun b hb => (hf b hb).1⟩⟩
   have e:hi - (i:Int) = hi + (i:Int) * (-1):=by omega
   rw [e]
 done:=by
   intro X hP hw hK hc i pins s σ H E I hf st hg
   subst hP hw hK
   obtain ⟨f0,f1,f2,f3,f4,f5⟩:=hf it (by simp)
   exact wpAny_pyNext_range_end (I.ok.hd hc) st (by have:n <= i:=hg; omega) fun h' eb => ⟨rfl,I.turned (t':=s.toks) (fun b o hb e => eb b o hb e) f0 f1 f3 f4 f5⟩
 self:=fun _ _ _ _ _ st h => wpAny_pyIter_rangeiter st h
theorem kL (a:Int) (h:0 <= a):Builtin.Range.rangeSize a (-1) (-1) = a + 1:=by
 unfold Builtin.Range.rangeSize
 rw [if_neg (by decide),if_pos (by omega)]
 simp
theorem small_down {a:Int} (h:0 <= a) (h2:a < 2 ^ 62):Builtin.Range.small a (-1) (-1) = true:=by
 unfold Builtin.Range.small
 rw [kL a h]
 simp only [Builtin.Range.rangeFitsLong,Bool.and_eq_true,Bool.or_eq_true,decide_eq_true_eq,beq_iff_eq,show ¬ ((-1:Int) > 0) by decide,if_false]
 omega
section
variable {X:Cx} {tg:Expr}
def iDown (ta:TA):TI:=fun σ H R => ta σ H fun vs H1 => ∃ a:Nat,vs = [.int a,.int (-1),.int (-1)] /\ a < 100000 /\ R (Itd a (a + 1)) H1
theorem pi_down {a b c:Expr} {ta:TA} {p pos:Pos} (hg:Gl X "range") (hm:X.mg "range" = none) (ha:PA X [a,b,c] ta) (hs:starEach [a,b,c] X.env = [(false,eval a X.env),(false,eval b X.env),(false,eval c X.env)]:=by rfl) (hs2:starEach [b,c] X.env = [(false,eval b X.env),(false,eval c X.env)]:=by rfl) :
   PI X tg (.Call (.Name "range" p) [a,b,c] [] pos) (iDown ta):=by
 intro pins s σ H R I h
 refine Call_ (uK I hg hm boot_range (PyProof.Rows.callWith_type1 (thn (ha pos pins s σ H _ I h) fun us s1 ⟨vs,H1,I1,r1,q1⟩ => ?_) (by rw [hs,hs2]) (by rw [hs2]; rfl)))
 obtain ⟨n,e,hn,q⟩:=q1
 subst e
 cases r1 with
 | cons r rr =>
   cases rr with
   | cons r' rr =>
     cases rr with
     | cons r'' rr =>
       cases rr
       obtain ⟨t,rfl⟩:=r
       obtain ⟨t',rfl⟩:=r'
       obtain ⟨t'',rfl⟩:=r''
       refine call_range_3 (by decide) ?_ (Or.inl (PyProof.noPylong_small (by decide)))
       refine wpAny_pyIter_range (IsRange.new ..) (small_down (by omega) (by omega)) ?_
       have I2:Inv X pins σ H1 { s1 with heap:=s1.heap.push { cls:=.type "range",data:=.fields #[.int n t,.int (-1) t',.int (-1) t''] },toks:=s1.toks }:=I1.kept fun b o e => Heap.get?_push_of_some _ e
       refine ⟨(s1.heap.push { cls:=.type "range",data:=.fields #[.int n t,.int (-1) t',.int (-1) t''] }).objs.size,[(s1.heap.push { cls:=.type "range",data:=.fields #[.int n t,.int (-1) t',.int (-1) t''] }).objs.size],_,_,H1,rfl,
         I2.kept (t':=s1.toks) fun b o e => Heap.get?_push_of_some _ e,turn_down _ n (n + 1),?_,fun b hb => ?_,q⟩
       · have e1 : (n : Int) + ((0 : Nat) : Int) * (-1) = n := by simp
         have e2:(((n + 1:Nat):Nat):Int) - ((0:Nat):Int) = Builtin.Range.rangeSize n (-1) (-1):=by rw [kL n (by omega)]; omega
         show IsRangeIter _ _ ((n:Int) + ((0:Nat):Int) * (-1)) ((((n + 1:Nat):Nat):Int) - ((0:Nat):Int)) (-1)
         rw [e1,e2]
         exact Heap.get?_push_size _ rfl
       · have e : b = (s1.heap.push { cls := .type "range", data := .fields #[.int n t, .int (-1) t', .int (-1) t''] }).objs.size := by simpa using hb
         subst e
         exact I2.fpOk (Nat.le_refl _) (I2.hok.fresh (Nat.le_refl _))
end
theorem fw_down {hi:Int} {n:Nat} {g:TG} {tb:TS} {D:Ends} {σ:St} {H:Hp} (Pv:Nat -> St -> Hp -> Prop) (h0:Pv 0 σ H)
   (hs:∀ i σ H,i < n -> Pv i σ H -> g (.int (hi - i)) σ H fun σ2 H2 => tb { D with nx:=Pv (i + 1),ct:=Pv (i + 1),bk:=D.nx } σ2 H2) (hd:∀ σ H,Pv n σ H -> D.nx σ H):ForW (Itd hi n) g tb D σ H:=by
 refine ⟨fun i m σ H => m = n - i /\ i <= n /\ Pv i σ H,⟨_,by rfl,Nat.zero_le _,h0⟩,fun i m σ1 H1 ⟨hm,hi',hp⟩ => ?_⟩
 by_cases h:i < n
 · refine .inr ⟨h, Pv (i + 1), fun σ' H' q => ⟨_, ?_, rfl, by omega, q⟩, fun v H' ⟨e1, e2⟩ => ?_⟩
   · omega
   · subst e1
     subst e2
     exact hs i σ1 _ h hp
 · have e : i = n := by omega
   subst e
   exact .inl ⟨Nat.le_refl _,hd σ1 H1 hp⟩
theorem ZQ {X:Cx} {K:PySem.W.Frag} {es:List Expr} {k:Nat} {t:TGs} {n:Nat} {pos:Pos} (hc:X.calm = true) (h:PGs X es t) (hK:X.K = K:=by rfl)
   (hn:(assignEach es X.env).length = n:=by rfl) (hst:(assignEach es X.env).findIdx? (·.1) = none:=by rfl):PG X (.Tuple es k pos) (wT K n t):=by
 subst hK
 exact uG hc h hn hst
end L2
namespace L2
theorem odd_part:∀ n:Nat,0 < n -> ∃ t m,n = 2 ^ t * (2 * m + 1):=by
 intro n
 induction n using Nat.strongRecOn with
 | _ n ih =>
   intro h
   by_cases ho:n % 2 = 1
   · exact ⟨0,n / 2,by omega⟩
   · obtain ⟨t, m, e⟩ := ih (n / 2) (by omega) (by omega)
     refine ⟨t + 1,m,?_⟩
     rw [Nat.pow_succ,Nat.mul_assoc,Nat.mul_left_comm,← e]
     omega
theorem low_bits {n:Nat} (h:0 < n):∃ t,n.testBit t = true /\ (∀ i,i < t -> n.testBit i = false) /\ n - (n &&& (n - 1)) = 2 ^ t /\ ∀ i,(n &&& (n - 1)).testBit i = (n.testBit i && decide (i ≠ t)):=by
 obtain ⟨t,m,e⟩:=odd_part n h
 have e1:n = 2 ^ t * (2 * m + 1) + 0:=by omega
 have hp:0 < 2 ^ t:=Nat.two_pow_pos t
 have e2:n - 1 = 2 ^ t * (2 * m) + (2 ^ t - 1):=by
   rw [e,Nat.mul_add,Nat.mul_one]
   omega
 have b1:∀ i,n.testBit i = if i < t then false else (2 * m + 1).testBit (i - t):=fun i => by
   rw [e,Nat.testBit_two_pow_mul]
   by_cases hi:i < t
   · rw [if_pos hi,decide_eq_false (by omega),Bool.false_and]
   · rw [if_neg hi,decide_eq_true (by omega),Bool.true_and]
 have b2:∀ i,(n - 1).testBit i = if i < t then true else (2 * m).testBit (i - t):=fun i => by
   rw [e2,Nat.testBit_two_pow_mul_add _ (by omega)]
   by_cases hi:i < t
   · rw [if_pos hi,if_pos hi,Nat.testBit_two_pow_sub_one,decide_eq_true hi]
   · rw [if_neg hi,if_neg hi]
 have ev:∀ j,(2 * m).testBit j = ((2 * m + 1).testBit j && decide (j ≠ 0)):=fun j => by
   cases j with
   | zero => simp
   | succ j =>
     rw [Nat.testBit_succ,Nat.testBit_succ]
     have:(2 * m + 1) / 2 = 2 * m / 2:=by omega
     rw [this]
     simp
 have b3:∀ i,(n &&& (n - 1)).testBit i = (n.testBit i && decide (i ≠ t)):=fun i => by
   rw [Nat.testBit_and,b1,b2]
   by_cases hi:i < t
   · rw [if_pos hi,Bool.false_and,Bool.false_and]
   · rw [if_neg hi, if_neg hi, ev]
     have:decide (i - t ≠ 0) = decide (i ≠ t):=by
       rw [decide_eq_decide]
       omega
     rw [this]
     cases (2 * m + 1).testBit (i - t) <;> simp
 have e3:n &&& (n - 1) = 2 ^ t * (2 * m):=by
   apply Nat.eq_of_testBit_eq
   intro i
   rw [b3,b1,Nat.testBit_two_pow_mul]
   by_cases hi:i < t
   · rw [if_pos hi,show decide (i ≥ t) = false from decide_eq_false (by omega),Bool.false_and,Bool.false_and]
   · rw [if_neg hi, show decide (i ≥ t) = true from decide_eq_true (by omega), Bool.true_and, ev]
     have:decide (i - t ≠ 0) = decide (i ≠ t):=by
       rw [decide_eq_decide]
       omega
     rw [this]
 refine ⟨t,?_,fun i hi => ?_,?_,b3⟩
 · rw [b1, if_neg (by omega), Nat.sub_self]
   simp
 · rw [b1,if_pos hi]
 · rw [e3, e, Nat.mul_add, Nat.mul_one]
   omega
def Bits (n:Nat) (xs:List Nat):Prop:=xs.Pairwise (· < ·) /\ ∀ i,n.testBit i = decide (i ∈ xs)
theorem Bits.nil {n:Nat} (h:Bits n []):n = 0:=Nat.eq_of_testBit_eq fun i => by rw [h.2]; simp
theorem Bits.cons {n x:Nat} {xs:List Nat} (h:Bits n (x :: xs)):0 < n /\ n - (n &&& (n - 1)) = 2 ^ x /\ Bits (n &&& (n - 1)) xs:=by
 have hx:n.testBit x = true:=by rw [h.2]; simp
 have hn:0 < n:=Nat.pos_of_ne_zero fun z => by rw [z] at hx; simp at hx
 obtain ⟨t,t1,t2,t3,t4⟩:=low_bits hn
 have hp:=List.pairwise_cons.mp h.1
 have e:t = x:=by
   rw [h.2,decide_eq_true_eq] at t1
   rcases List.mem_cons.mp t1 with e | e
   · exact e
   · have := hp.1 t e
     rw [t2 x this] at hx
     cases hx
 subst e
 refine ⟨hn,t3,hp.2,fun i => ?_⟩
 rw [t4,h.2]
 by_cases hi:i = t
 · subst hi
   have:i ∉ xs:=fun z => Nat.lt_irrefl _ (hp.1 i z)
   simp [this]
 · simp [hi]
end L2
namespace L2
open PySem PySem.Spec PyProof.Rows PySem.SeqAt
section
variable {X:Cx}
theorem ip_or:PIp X .BitOr (ipI fun i j => Builtin.bitOr i j):=by
 intro pins s σ H x y v u Q I r1 r2 h
 obtain ⟨i,j,e1,e2,q⟩:=h
 subst e1; subst e2
 obtain ⟨t,rfl⟩:=r1
 obtain ⟨t',rfl⟩:=r2
 exact ior_int ⟨.int _,H,I.tok _,⟨_,rfl⟩,q⟩
theorem ip_xor:PIp X .BitXor (ipI fun i j => Builtin.bitXor i j):=by
 intro pins s σ H x y v u Q I r1 r2 h
 obtain ⟨i,j,e1,e2,q⟩:=h
 subst e1; subst e2
 obtain ⟨t,rfl⟩:=r1
 obtain ⟨t',rfl⟩:=r2
 exact ixor_int ⟨.int _,H,I.tok _,⟨_,rfl⟩,q⟩
def rGetL:V -> V -> Hp -> VK -> Prop:=fun x y H Q => ∃ (p:Addr) (xs:List V) (i:Nat) (v:V),x = .ref p /\ y = .int i /\ H p = some (.lst xs) /\ xs[i]? = some v /\ Q v H
theorem get_list:PGet X rGetL:=by
 intro pins s σ H o i ov iv Q I ro ri h
 obtain ⟨p,xs,k,v,rfl,rfl,hp,hk,q⟩:=h
 cases ro
 obtain ⟨t,rfl⟩:=ri
 obtain ⟨its,r,pl,hz⟩:=I.list (SqL.of hp)
 obtain ⟨w,ew,rw'⟩:=r.get hk
 have hl:=r.length
 have hkl:=(List.getElem?_eq_some_iff.mp hk).1
 have hs:=sizeLine_eq
 exact wpAny_getItem_list pl.isList (by omega) (by omega) (by simpa using ew) ⟨v,H,I,rw',q⟩
def rBitLen:V -> List V -> Hp -> VK -> Prop:=fun x vs H Q => ∃ i:Int,x = .int i /\ vs = [] /\ Q (.int (Builtin.Int.intBits i)) H
theorem mt_bit_length:MtR X "int.bit_length" rBitLen:=by
 intro pins s σ H x xs v us Q I rx rv h
 obtain ⟨i,rfl,rfl,q⟩:=h
 cases rv
 obtain ⟨t,rfl⟩:=rx
 exact call_int_bit_length ⟨.int _,H,I.tok _,⟨_,rfl⟩,q⟩
end
theorem pe_fldK {X:Cx} (K:PySem.W.Frag) {e:Expr} {f:Str} {pos:Pos} {ta:TE} (he:PE X e ta) (hb:attributeBase e f X.env (eval e X.env) = eval e X.env) (hK:X.K = K:=by rfl):PE X (.Attribute e f pos) (uN K ta f):=by
 subst hK
 exact xF he hb
theorem not_not (x:Int):Builtin.bitNot (Builtin.bitNot x) = x:=by unfold Builtin.bitNot; omega
theorem or_mask (m n:Nat):Builtin.bitOr (m:Int) (n:Int) = ((m ||| n:Nat):Int):=by
 unfold Builtin.bitOr
 rw [bitAnd_nn (by unfold Builtin.bitNot; omega) (by unfold Builtin.bitNot; omega),not_not,not_not,not_not]
 simp
theorem and_mask (m n:Nat):Builtin.bitAnd (m:Int) (n:Int) = ((m &&& n:Nat):Int):=by
 rw [bitAnd_pp (by omega) (by omega)]
 simp
theorem low_mask {n:Nat} (h:0 < n):Builtin.bitAnd (n:Int) (-(n:Int)) = ((n - (n &&& (n - 1)):Nat):Int):=by
 rw [bitAnd_pn (by omega) (by omega)]
 have e:(Builtin.bitNot (-(n:Int))).toNat = n - 1:=by unfold Builtin.bitNot; omega
 rw [e,Int.toNat_natCast]
 have:=Nat.and_le_left (n:=n) (m:=n - 1)
 omega
theorem xor_low {n x:Nat} (h:n - (n &&& (n - 1)) = 2 ^ x) (hb:n.testBit x = true):Builtin.bitXor (n:Int) ((2 ^ x:Nat):Int) = ((n &&& (n - 1):Nat):Int):=by
 rw [bitXor_and,and_mask]
 have e:n &&& 2 ^ x = 2 ^ x:=by
   apply Nat.eq_of_testBit_eq
   intro i
   rw [Nat.testBit_and,Nat.testBit_two_pow]
   by_cases hi:x = i
   · subst hi; simp [hb]
   · simp [hi]
 rw [e]
 have:=Nat.and_le_left (n:=n) (m:=n - 1)
 omega
theorem bits_pow (x:Nat):Builtin.Int.intBits ((2 ^ x:Nat):Int) = x + 1:=by
 unfold Builtin.Int.intBits
 have hp:0 < 2 ^ x:=Nat.two_pow_pos x
 rw [if_neg (by rw [beq_iff_eq]; omega),Int.natAbs_natCast,Nat.log2_two_pow]
theorem shl_one (x:Nat):(1:Int) * 2 ^ (x:Int).toNat = ((2 ^ x:Nat):Int):=by
 rw [Int.one_mul,Int.toNat_natCast]
 simp
end L2
namespace L2
open PySem PySem.Spec PyProof.Rows PySem.SeqAt
section
variable {prog:Program} {w:World} {K:Type} [DecidableEq K] {knd:HeapKind prog w K} {A:Around} {E:Value -> Shared -> Prop} {s:Shared} {d a:Addr} {k:K} {xs:List (K × Addr × Value)}
theorem sdef_heap {v:Value} {Q:Value -> Shared -> Prop} (hu:knd.room A) (hkey:knd.is s.heap k a) (hm:s.heap.DictOfH knd d xs)
   (h1:∀ p,atKey xs k = some p -> Q p.2 { s with toks:=s.toks + knd.draws k })
   (h2:atKey xs k = none -> ∀ h',h'.DictOfH knd d (storedH xs k a v) -> Heap.SameBut d s.heap h' -> Q v { s with heap:=h',toks:=s.toks + knd.draws k })
   (hsz:xs.length <= sizeLine):wpAny (model prog w) A (dictSetDefault d (.ref a) v) Q E s:=by
 obtain ⟨o,es,ep,ho,hc,hd,he,his,hn⟩:=hm
 unfold dictSetDefault
 try with_reducible refine wpAny_holding ?_
 refine wpAny_bind (knd.pyHash hu hkey ?_)
 refine wpAny_bind (wpAny_dictFind_heap (s:={ s with toks:=s.toks + knd.draws k }) hu hkey ho hd he his hn ?_ ?_)
 · intro hno
   have hnot:k ∉ xs.map (·.1):=not_mem_keys_of_get hno
   refine wpAny_bind (wpAny_rule (wpAny_bind (wpAny_updateDictKeys (hz:=by have e:=size_of_entries he; omega) (s:={ s with toks:=s.toks + knd.draws k }) ho hd (wpAny_pure (h2 (atKey_none_of_get hno) _ ⟨_,_,ep + 1,Heap.get?_update_self _ ho (Obj.isFreed_of_dict (Obj.data_mapDictKeys hd _)),
     hc.mapDictKeys _,Obj.data_mapDictKeys hd _,?_,?_,?_⟩ (Heap.SameBut.update ..))))))
   · rw [storedH_new (atKey_none_of_get hno)]
     simp [he,entryOfKey]
   · rw [storedH_new (atKey_none_of_get hno)]
     intro x hx
     rcases List.mem_append.mp hx with hx | hx
     · exact knd.keeps (his x hx) ho hd (Heap.SameBut.update ..)
     · simp only [List.mem_singleton] at hx
       subst hx
       exact knd.keeps hkey ho hd (Heap.SameBut.update ..)
   · rw [storedH_new (atKey_none_of_get hno)]
     rw [List.map_append,List.nodup_append]
     refine ⟨hn,by simp,?_⟩
     intro x hx y hy
     simp only [List.map_cons,List.map_nil,List.mem_singleton] at hy
     subst hy
     exact fun e => hnot (e ▸ hx)
 · intro j p hj
   refine wpAny_bind (wpAny_dictEntries (s:={ s with toks:=s.toks + knd.draws k }) ho hd ?_)
   rw [entry_at he j,hj]
   exact wpAny_bind (wpAny_rule (wpAny_pure (h1 p (atKey_of_get hn hj))))
theorem sdef_meets (hd:(d == sysModules) = false) (dflt:Value) :
   MeetsIn prog w (Builtin.«dict.setdefault» ⟨[.ref d,.ref a,dflt],[]⟩) (fun A R s => knd.room A.in1 /\ ∃ k xs,knd.is s.heap k a /\ s.heap.DictOfH knd d xs /\ xs.length <= sizeLine /\
     (∀ p,atKey xs k = some p -> R (.ok (.ret p.2)) { s with toks:=s.toks + knd.draws k }) /\
     (atKey xs k = none -> ∀ h',h'.DictOfH knd d (storedH xs k a dflt) -> Heap.SameBut d s.heap h' -> R (.ok (.ret dflt)) { s with heap:=h',toks:=s.toks + knd.draws k })) :=
 .of_wp fun A R s ⟨hu,k,xs,hkey,hm,hz,h1,h2⟩ => by
   unfold Builtin.«dict.setdefault»
   refine wpAny_bind ?_
   unfold Builtin.Dict.keyAndDefault
   refine wpAny_bind (wpAny_notOrdered_dict hm.typeIs ?_)
   show wpAny _ _ (pure (d,Value.ref a,some dflt)) _ _ s
   refine wpAny_pure ?_
   show wpAny _ _ (if (d == sysModules) = true then _ else (dictSetDefault d (.ref a) dflt >>= _)) _ _ s
   rw [if_neg (by rw [hd]; exact Bool.false_ne_true)]
   exact wpAny_bind (sdef_heap hu hkey hm (fun p hp => wpAny_pure ⟨p.2,rfl,h1 p hp⟩) (fun hn h' hm' hs' => wpAny_pure ⟨dflt,rfl,h2 hn h' hm' hs'⟩) hz)
end
theorem relO_some {v:V} {u:Value} (h:RelO (some v) (some u)):RelV v u:=h
def tSDef (td ty tx:TE):TE:=fun σ H Q => td σ H fun x H1 => ∃ a,x = .ref a /\ IsD H1 a /\ ty σ H1 fun y H2 => tx σ H2 fun z H3 => ∃ (kvs:List (List Key × V)) (k:List Key) (b:Addr),H3 a = some (.dT kvs) /\ y = .ref b /\ H3 b = some (.tup (k.map kV)) /\ kvs.length < sizeLine /\
 (∀ v,yS kvs k = some v -> Q v H3) /\ (yS kvs k = none -> Q z (upd H3 a (.dT (xT kvs k z))))
section
variable {X:Cx} {o e f:Expr} {apos cpos:Pos} {td ty tx:TE}
theorem pe_sdef (hu:X.A.units + 1 < cLine) (ho:PE X o td) (he:PE X e ty) (hf:PE X f tx) (m:M2 X o "setdefault" apos e f cpos):PE X (.Call (.Attribute o "setdefault" apos) [e,f] [] cpos) (tSDef td ty tx):=by
 intro pins s σ H Q I h
 refine wpAny_Call_method m.base m.few m.line PySem.F.plainAttrs_dict PySem.F.slot_dict_setdefault PySem.F.type_dict_setdefault (thn (ho pins s σ H _ I h) fun u s1 ⟨x,H1,I1,rx,a,ex,d,q1⟩ => ?_)
 subst ex
 obtain rfl:u = Value.ref a:=rx
 obtain ⟨t1,t2,_⟩:=isD_at I1 d
 refine ⟨t1,t2,?_⟩
 rw [m.trees]
 refine Calls.callWith_builtin rfl (Calls.evalArgs_plain (Calls.spliced_cons (thn (he pins s1 σ H1 _ I1 q1) fun iv s2 ⟨y,H2,I2,ry,q2⟩ =>
   Calls.spliced_cons (thn (hf pins s2 σ H2 _ I2 q2) fun fv s3 ⟨z,H3,I3,rz,kvs,k,b,e,ey,eb,l,q3,q4⟩ => Calls.spliced_nil ?_))))
 subst ey
 cases (show iv = Value.ref b from ry)
 obtain ⟨z0,hd,xs,rel,dd⟩:=dt_of I3.hok e
 have hz:xs.length <= sizeLine:=by rw [← Paired.length rel]; exact z0
 have hl:(xT kvs k z).length <= sizeLine:=by have:=jQ kvs k z; omega
 refine call_meetsIn PySem.F.slot_dict_setdefault dd.typeIs PySem.F.entry_dict_setdefault (PySem.F.args_dict_setdefault_3 _ _ _) (sdef_meets (knd:=tupleKind (yH X.prog X.w)) hd fv) ⟨tupleKind_room_in1 hu,k,xs,uL I3.hok eb,dd,hz,fun p hp => ?_,fun hn h' dd' hs => ?_⟩
 · have rv := rel.val k
   rw [hp] at rv
   cases hv:yS kvs k with
   | none => rw [hv] at rv; cases rv
   | some v =>
     rw [hv] at rv
     exact ⟨v,H3,I3.tok _,relO_some rv,q3 v hv⟩
 · have rv := rel.val k
   rw [hn] at rv
   have hv:yS kvs k = none:=by
     cases hv:yS kvs k with
     | none => rfl
     | some v => rw [hv] at rv; cases rv
   obtain ⟨q,es,ep,hq,h2,h3,h4,_,h5⟩:=dd'
   refine ⟨z,upd H3 a (.dT (xT kvs k z)),wD I3 (by rw [e]; exact True.intro) hs ⟨q,hq⟩ ⟨hl,hd,_,(rel.put k eb rz).keeps fun c ys ec => ?_,q,es,ep,hq,h2,h3,h4,h5⟩,rz,q4 hv⟩
   rw [zH (xU ec e (fun z => nomatch z))]
   exact ec
end
end L2
set_option autoImplicit false
namespace L2
open PySem PyProof.Rows
abbrev SM:=StateT SortSt Sem
def bey (l:Bool) (key:Keyed) (arr:Array Keyed) (base i:Nat):SM (Option Bool) :=
 elem' arr (base + i) >>= fun x => if l = true then lt' x key else lt' key x >>= fun o => pure (Option.map (fun x => !x) o)
def gbin (be : Nat -> SM (Option Bool)) (n lo hi : Nat) : SM (Option Nat) :=
 (forIn [:n] ((none,lo,hi):Option (Option Nat) × Nat × Nat) fun _ c =>
    if c.2.1 ≥ c.2.2 then pure (ForInStep.done (none,c.2.1,c.2.2))
    else be (c.2.1 + (c.2.2 - c.2.1) / 2) >>= fun o => match o with
      | some b => if b = true then pure (ForInStep.yield (none,c.2.1 + (c.2.2 - c.2.1) / 2 + 1,c.2.2)) else pure (ForInStep.yield (none,c.2.1,c.2.1 + (c.2.2 - c.2.1) / 2))
      | _ => pure (ForInStep.done (some none,c.2.1,c.2.2))) >>= fun c => match c.1 with
  | some r => pure r
  | none => pure (some c.2.2)
def gwalk (be:Nat -> SM (Option Bool)) (n mx:Nat) (f:Bool -> Bool) (g:Nat -> Nat):SM (Option (Option Nat) × Nat × Nat) :=
 forIn [:n] ((none,0,1):Option (Option Nat) × Nat × Nat) fun _ c =>
   if c.2.2 ≥ mx then pure (ForInStep.done (none,c.2.1,c.2.2))
   else be (g c.2.2) >>= fun o => match o with
     | some b => if f b = true then pure (ForInStep.done (none,c.2.1,c.2.2)) else pure (ForInStep.yield (none,c.2.2,2 * c.2.2 + 1))
     | _ => pure (ForInStep.done (some none,c.2.1,c.2.2))
def gallop':Bool -> Keyed -> Array Keyed -> Nat -> Nat -> Nat -> SM (Option Nat):=sortPriv% PySem.Builtin.gallop
theorem gallop'_eq (l:Bool) (key:Keyed) (arr:Array Keyed) (base n hint:Nat):gallop' l key arr base n hint =
   (bey l key arr base hint >>= fun o => match o with
     | some right => if right = true then gwalk (bey l key arr base) n (n - hint) (fun b => !b) (fun o => hint + o) >>= fun c => (match c.1 with
           | some r => pure r
           | none => gbin (bey l key arr base) n (hint + c.2.1 + 1) (hint + min c.2.2 (n - hint)))
         else gwalk (bey l key arr base) n (hint + 1) (fun b => b) (fun o => hint - o) >>= fun c => (match c.1 with
           | some r => pure r
           | none => gbin (bey l key arr base) n (hint + 1 - min c.2.2 (hint + 1)) (hint - c.2.1))
     | _ => pure none):=by
 unfold gwalk gbin bey
 show (_ >>= _:SM _) = _
 congr 1
 funext o
 cases o with
 | none => rfl
 | some right =>
   cases right
   · show (_ >>= _ : SM _) = _
     simp only [Bool.false_eq_true,if_false]
     congr 1
     funext c
     obtain ⟨r,u,v⟩:=c
     cases r
     · show (_ >>= _ : SM _) = _
       congr 1
       funext c
       obtain ⟨r,u,v⟩:=c
       cases r <;> rfl
     · rfl
   · show (_ >>= _ : SM _) = _
     simp only [if_true]
     congr 1
     funext c
     obtain ⟨r,u,v⟩:=c
     cases r
     · show (_ >>= _ : SM _) = _
       congr 1
       funext c
       obtain ⟨r,u,v⟩:=c
       cases r <;> rfl
     · rfl
section
variable {M:Model} {A:Around} {E:Value -> Shared -> Prop} {s:Shared} {st:SortSt} {be:Nat -> SM (Option Bool)} {P:Nat -> Bool} {n:Nat}
theorem gbin_ok {lo hi:Nat} {Q:Option Nat -> SortSt -> Prop} (hbe:∀ i,i < n -> ∀ Q:Option Bool -> SortSt -> Prop,Q (some (P i)) st -> wpS M A E s (be i) Q st)
   (hm:∀ i j,i <= j -> j < n -> P j = true -> P i = true) (h1:lo <= hi) (h2:hi <= n) (hlo:∀ i,i < lo -> P i = true) (hhi:∀ i,hi <= i -> i < n -> P i = false)
   (h:∀ r,r <= n -> (∀ i,i < r -> P i = true) -> (∀ i,r <= i -> i < n -> P i = false) -> Q (some r) st):wpS M A E s (gbin be n lo hi) Q st:=by
 unfold gbin
 refine wpS_bind (wpS_mono (wpS_forRange
   (I:=fun x c st' => st' = st /\ ∃ l r,c = (none,l,r) /\ l <= r /\ r <= n /\ r - l <= n - x /\ (∀ i,i < l -> P i = true) /\ (∀ i,r <= i -> i < n -> P i = false))
   (Q:=fun c st' => st' = st /\ ∃ l r,c = (none,l,r) /\ r <= n /\ (∀ i,i < r -> P i = true) /\ (∀ i,r <= i -> i < n -> P i = false)) ?step ?fin ?init) ?post)
 case init => exact ⟨rfl,lo,hi,rfl,h1,h2,by omega,hlo,hhi⟩
 case fin =>
   rintro c st' ⟨rfl,l,r,rfl,a1,a2,a3,a4,a5⟩
   have:l = r:=by omega
   subst this
   exact ⟨rfl,l,l,rfl,a2,a4,a5⟩
 case post =>
   rintro c st' ⟨rfl,l,r,rfl,a2,a4,a5⟩
   exact wpS_pure (h r a2 a4 a5)
 case step =>
   rintro x c st' _ hx ⟨rfl,l,r,rfl,a1,a2,a3,a4,a5⟩
   dsimp only
   by_cases hge:l ≥ r
   · rw [if_pos hge]
     have:l = r:=by omega
     subst this
     exact wpS_pure ⟨rfl,l,l,rfl,a2,a4,a5⟩
   · rw [if_neg hge]
     refine wpS_bind (hbe _ (by omega) _ ?_)
     cases hp:P (l + (r - l) / 2)
     · simp only [Bool.false_eq_true, if_false]
       refine wpS_pure ⟨rfl,_,_,rfl,by omega,by omega,by omega,a4,fun i b1 b2 => ?_⟩
       cases hi:P i
       · rfl
       · rw [hm _ _ b1 b2 hi] at hp; exact absurd hp (by simp)
     · simp only [if_true]
       refine wpS_pure ⟨rfl,_,_,rfl,by omega,by omega,by omega,fun i b1 => hm i _ (by omega) (by omega) hp,a5⟩
theorem gallopP {l:Bool} {key:Keyed} {arr:Array Keyed} {base hint:Nat} {Q:Option Nat -> SortSt -> Prop} (hbe:∀ i,i < n -> ∀ Q:Option Bool -> SortSt -> Prop,Q (some (P i)) st -> wpS M A E s (bey l key arr base i) Q st)
   (hm:∀ i j,i <= j -> j < n -> P j = true -> P i = true) (hh:hint < n)
   (h:∀ r,r <= n -> (∀ i,i < r -> P i = true) -> (∀ i,r <= i -> i < n -> P i = false) -> Q (some r) st):wpS M A E s (gallop' l key arr base n hint) Q st:=by
 rw [gallop'_eq]
 refine wpS_bind (hbe hint hh _ ?_)
 dsimp only
 have hf:∀ i j,i <= j -> j < n -> P i = false -> P j = false:=by
   intro i j a b c
   cases hj:P j
   · rfl
   · rw [hm i j a b hj] at c; exact absurd c (by simp)
 cases hp:P hint
 · simp only [Bool.false_eq_true, if_false]
   unfold gwalk
   refine wpS_bind (wpS_mono (wpS_forRange
     (I:=fun x c st' => st' = st /\ ∃ u v,c = (none,u,v) /\ u < v /\ x + 1 <= v /\ u <= hint /\ P (hint - u) = false)
     (Q:=fun c st' => st' = st /\ ∃ u v,c = (none,u,v) /\ u < v /\ u <= hint /\ P (hint - u) = false /\ (v ≥ hint + 1 \/ v <= hint /\ P (hint - v) = true)) ?step ?fin ?init) ?post)
   case init => exact ⟨rfl,0,1,rfl,by omega,by omega,by omega,hp⟩
   case fin =>
     rintro c st' ⟨rfl,u,v,rfl,a1,a2,a3,a4⟩
     exact ⟨rfl,u,v,rfl,a1,a3,a4,.inl (by omega)⟩
   case step =>
     rintro x c st' _ hx ⟨rfl,u,v,rfl,a1,a2,a3,a4⟩
     dsimp only
     by_cases hge:v ≥ hint + 1
     · rw [if_pos hge]; exact wpS_pure ⟨rfl,u,v,rfl,a1,a3,a4,.inl hge⟩
     · rw [if_neg hge]
       refine wpS_bind (hbe _ (by omega) _ ?_)
       cases hv:P (hint - v)
       · simp only [Bool.false_eq_true, if_false]
         exact wpS_pure ⟨rfl,_,_,rfl,by omega,by omega,by omega,hv⟩
       · simp only [if_true]
         exact wpS_pure ⟨rfl,u,v,rfl,a1,a3,a4,.inr ⟨by omega,hv⟩⟩
   case post =>
     rintro c st' ⟨rfl,u,v,rfl,a1,a3,a4,a5⟩
     dsimp only
     refine gbin_ok hbe hm (by omega) (by omega) (fun i hi => ?_) (fun i h1 h2 => hf _ _ h1 h2 a4) h
     rcases a5 with a5 | ⟨a5,a6⟩
     · omega
     · exact hm i _ (by omega) (by omega) a6
 · simp only [if_true]
   unfold gwalk
   refine wpS_bind (wpS_mono (wpS_forRange
     (I:=fun x c st' => st' = st /\ ∃ u v,c = (none,u,v) /\ u < v /\ x + 1 <= v /\ hint + u < n /\ P (hint + u) = true)
     (Q:=fun c st' => st' = st /\ ∃ u v,c = (none,u,v) /\ u < v /\ hint + u < n /\ P (hint + u) = true /\ (v ≥ n - hint \/ hint + v < n /\ P (hint + v) = false)) ?step ?fin ?init) ?post)
   case init => exact ⟨rfl,0,1,rfl,by omega,by omega,by omega,hp⟩
   case fin =>
     rintro c st' ⟨rfl,u,v,rfl,a1,a2,a3,a4⟩
     exact ⟨rfl,u,v,rfl,a1,a3,a4,.inl (by omega)⟩
   case step =>
     rintro x c st' _ hx ⟨rfl,u,v,rfl,a1,a2,a3,a4⟩
     dsimp only
     by_cases hge:v ≥ n - hint
     · rw [if_pos hge]; exact wpS_pure ⟨rfl,u,v,rfl,a1,a3,a4,.inl hge⟩
     · rw [if_neg hge]
       refine wpS_bind (hbe _ (by omega) _ ?_)
       cases hv:P (hint + v)
       · simp only [Bool.not_false, if_true]
         exact wpS_pure ⟨rfl,u,v,rfl,a1,a3,a4,.inr ⟨by omega,hv⟩⟩
       · simp only [Bool.not_true, Bool.false_eq_true, if_false]
         exact wpS_pure ⟨rfl,_,_,rfl,by omega,by omega,by omega,hv⟩
   case post =>
     rintro c st' ⟨rfl,u,v,rfl,a1,a3,a4,a5⟩
     dsimp only
     refine gbin_ok hbe hm (by omega) (by omega) (fun i hi => hm i _ (by omega) a3 a4) (fun i h1 h2 => ?_) h
     rcases a5 with a5 | ⟨a5,a6⟩
     · omega
     · exact hf _ _ (by omega) h2 a6
end
structure CmpO (M:Model) (A:Around) (E:Value -> Shared -> Prop) (s:Shared) (kd:SortKind) (S:Keyed -> Prop) (κ:Keyed -> Int):Prop where
 lt:∀ {x y:Keyed} {st:SortSt} {Q:Option Bool -> SortSt -> Prop},S x -> S y -> kindOf st = kd -> Q (some (decide (κ x < κ y))) st -> wpS M A E s (lt' x y) Q st
def kAt (κ:Keyed -> Int) (xs:Array Keyed) (i:Nat):Int:=match xs[i]? with
 | some p => κ p
 | none => 0
theorem yN {κ:Keyed -> Int} {xs:Array Keyed} {i:Nat} {p:Keyed} (h:xs[i]? = some p):kAt κ xs i = κ p:=by unfold kAt; rw [h]
theorem jG {κ:Keyed -> Int} {xs ys:Array Keyed} {i j:Nat} (h:xs[i]? = ys[j]?):kAt κ xs i = kAt κ ys j:=by unfold kAt; rw [h]
def xJ (κ:Keyed -> Int) (xs:Array Keyed) (i j:Nat):Prop:=∀ p q,i <= p -> p <= q -> q < j -> kAt κ xs p <= kAt κ xs q
section
variable {M:Model} {A:Around} {E:Value -> Shared -> Prop} {s:Shared} {st:SortSt} {kd:SortKind} {S:Keyed -> Prop} {κ:Keyed -> Int}
theorem yJ {arr:Array Keyed} {i:Nat} {p:Keyed} {Q:Keyed -> SortSt -> Prop} (hp:arr[i]? = some p) (h:Q p st):wpS M A E s (elem' arr i) Q st:=by
 rw [elem'_eq,hp]; exact wpS_pure h
theorem xL {arr:Array Keyed} {i:Nat} (h:i < arr.size):∃ p,arr[i]? = some p /\ p ∈ arr.toList:=⟨arr[i],getElem?_pos _ i h,by simp⟩
theorem ZZ {key:Keyed} {arr:Array Keyed} {base n hint:Nat} {Q:Option Nat -> SortSt -> Prop} (C:CmpO M A E s kd S κ) (hk:kindOf st = kd) (hS:∀ p,p ∈ arr.toList -> S p) (hK:S key)
   (hb:base + n <= arr.size) (hs:xJ κ arr base (base + n)) (hh:hint < n)
   (h:∀ r,r <= n -> (∀ i,i < r -> kAt κ arr (base + i) <= κ key) -> (∀ i,r <= i -> i < n -> κ key < kAt κ arr (base + i)) -> Q (some r) st):wpS M A E s (gallop' false key arr base n hint) Q st:=by
 refine gallopP (P:=fun i => !decide (κ key < kAt κ arr (base + i))) (fun i hi Q hQ => ?_) (fun i j hij hj => ?_) hh fun r h1 h2 h3 => h r h1 (fun i hi => ?_) fun i ha hb => ?_
 · obtain ⟨p, e, hm⟩ := xL (arr := arr) (i := base + i) (by omega)
   unfold bey
   refine wpS_bind (yJ e ?_)
   simp only [Bool.false_eq_true,if_false]
   refine wpS_bind (C.lt hK (hS p hm) hk ?_)
   rw [← yN (κ:=κ) e]
   exact wpS_pure hQ
 · have := hs (base + i) (base + j) (by omega) (by omega) (by omega)
   simp only [Bool.not_eq_true',decide_eq_false_iff_not]
   omega
 · have := h2 i hi
   simp only [Bool.not_eq_true',decide_eq_false_iff_not] at this
   omega
 · simpa using h3 i ha hb
theorem YA {key:Keyed} {arr:Array Keyed} {base n hint:Nat} {Q:Option Nat -> SortSt -> Prop} (C:CmpO M A E s kd S κ) (hk:kindOf st = kd) (hS:∀ p,p ∈ arr.toList -> S p) (hK:S key)
   (hb:base + n <= arr.size) (hs:xJ κ arr base (base + n)) (hh:hint < n)
   (h:∀ r,r <= n -> (∀ i,i < r -> kAt κ arr (base + i) < κ key) -> (∀ i,r <= i -> i < n -> κ key <= kAt κ arr (base + i)) -> Q (some r) st):wpS M A E s (gallop' true key arr base n hint) Q st:=by
 refine gallopP (P:=fun i => decide (kAt κ arr (base + i) < κ key)) (fun i hi Q hQ => ?_) (fun i j hij hj => ?_) hh fun r h1 h2 h3 => h r h1 (fun i hi => ?_) fun i ha hb => ?_
 · obtain ⟨p, e, hm⟩ := xL (arr := arr) (i := base + i) (by omega)
   unfold bey
   refine wpS_bind (yJ e ?_)
   simp only [if_true]
   refine C.lt (hS p hm) hK hk ?_
   rw [← yN (κ:=κ) e]
   exact hQ
 · have := hs (base + i) (base + j) (by omega) (by omega) (by omega)
   simp only [decide_eq_true_eq]
   omega
 · simpa using h2 i hi
 · have := h3 i ha hb
   simp only [decide_eq_false_iff_not] at this
   omega
end
end L2
namespace L2
open PySem PyProof.Rows
structure Mst (κ:Keyed -> Int) (la lb ol:List Keyed) (ia ib:Nat):Prop where
 perm:ol.Perm (la.take ia ++ lb.take ib)
 srt:ol.Pairwise fun x y => κ x <= κ y
 la:∀ x ∈ ol,∀ y ∈ la.drop ia,κ x <= κ y
 lb:∀ x ∈ ol,∀ y ∈ lb.drop ib,κ x <= κ y
section
variable {κ:Keyed -> Int} {la lb ol:List Keyed} {ia ib:Nat}
theorem Mst.swap (h:Mst κ la lb ol ia ib):Mst κ lb la ol ib ia:=⟨h.perm.trans List.perm_append_comm,h.srt,h.lb,h.la⟩
theorem Mst.addA (h:Mst κ la lb ol ia ib) (k:Nat) (hs:la.Pairwise fun x y => κ x <= κ y) (hb:∀ x ∈ (la.drop ia).take k,∀ y ∈ lb.drop ib,κ x <= κ y):Mst κ la lb (ol ++ (la.drop ia).take k) (ia + k) ib:=by
 have hd:la.drop ia = (la.drop ia).take k ++ la.drop (ia + k):=by rw [← List.drop_drop]; exact (List.take_append_drop _ _).symm
 have hp:(la.drop ia).Pairwise fun x y => κ x <= κ y:=hs.sublist (List.drop_sublist _ _)
 rw [hd,List.pairwise_append] at hp
 refine ⟨?_,?_,?_,?_⟩
 · rw [List.take_add]
   refine (h.perm.append_right _).trans ?_
   rw [List.append_assoc,List.append_assoc]
   exact List.Perm.append_left _ List.perm_append_comm
 · rw [List.pairwise_append]
   exact ⟨h.srt,hp.1,fun x hx y hy => h.la x hx y (List.mem_of_mem_take hy)⟩
 · intro x hx y hy
   rcases List.mem_append.mp hx with hx | hx
   · exact h.la x hx y (by rw [hd]; exact List.mem_append_right _ hy)
   · exact hp.2.2 x hx y hy
 · intro x hx y hy
   rcases List.mem_append.mp hx with hx | hx
   · exact h.lb x hx y hy
   · exact hb x hx y hy
theorem Mst.addB (h:Mst κ la lb ol ia ib) (k:Nat) (hs:lb.Pairwise fun x y => κ x <= κ y) (hb:∀ x ∈ (lb.drop ib).take k,∀ y ∈ la.drop ia,κ x <= κ y):Mst κ la lb (ol ++ (lb.drop ib).take k) ia (ib + k):=(h.swap.addA k hs hb).swap
theorem Mst.nil:Mst κ la lb [] 0 0:=⟨by simp,.nil,by simp,by simp⟩
def Mgd (κ:Keyed -> Int) (la lb ol:List Keyed):Prop:=ol.Perm (la ++ lb) /\ ol.Pairwise fun x y => κ x <= κ y
theorem Mst.fin (h:Mst κ la lb ol ia ib) (h1:la.length <= ia) (h2:lb.length <= ib):Mgd κ la lb ol:=by
 refine ⟨?_,h.srt⟩
 have:=h.perm
 rwa [List.take_of_length_le h1,List.take_of_length_le h2] at this
theorem Mst.endA (h:Mst κ la lb ol ia ib) (hs:la.Pairwise fun x y => κ x <= κ y) (h2:lb.length <= ib):Mgd κ la lb (ol ++ la.drop ia):=by
 have:=h.addA la.length hs (by rw [List.drop_eq_nil_of_le h2]; simp)
 rw [List.take_of_length_le (by simp)] at this
 exact this.fin (by omega) h2
theorem Mst.endB (h:Mst κ la lb ol ia ib) (hs:lb.Pairwise fun x y => κ x <= κ y) (h1:la.length <= ia):Mgd κ la lb (ol ++ lb.drop ib):=by
 have:=h.swap.endA hs h1
 exact ⟨this.1.trans List.perm_append_comm,this.2⟩
theorem qZ {l:List Keyed} {i k:Nat} {y:Keyed} (h:y ∈ (l.drop i).take k):∃ j,i <= j /\ j < i + k /\ j < l.length /\ l[j]? = some y:=by
 obtain ⟨j,hj,e⟩:=List.mem_iff_getElem.mp h
 rw [List.length_take,List.length_drop] at hj
 refine ⟨i + j,by omega,by omega,by omega,?_⟩
 rw [List.getElem_take,List.getElem_drop] at e
 rw [← e]
 exact List.getElem?_eq_getElem (by omega)
theorem mem_dr {l:List Keyed} {i:Nat} {y:Keyed} (h:y ∈ l.drop i):∃ j,i <= j /\ j < l.length /\ l[j]? = some y:=by
 obtain ⟨j,hj,e⟩:=List.mem_iff_getElem.mp h
 rw [List.length_drop] at hj
 refine ⟨i + j,by omega,by omega,?_⟩
 rw [List.getElem_drop] at e
 rw [← e]
 exact List.getElem?_eq_getElem (by omega)
theorem qP {a:Array Keyed} {j:Nat} {y:Keyed} (h:a.toList[j]? = some y):κ y = kAt κ a j:=(yN (by rw [← Array.getElem?_toList]; exact h)).symm
theorem jS {a:Array Keyed} (h:xJ κ a 0 a.size):a.toList.Pairwise fun x y => κ x <= κ y:=by
 rw [List.pairwise_iff_getElem]
 intro i j hi hj hij
 have:=h i j (by omega) (by omega) (by simpa using hj)
 rwa [← qP (List.getElem?_eq_getElem hi),← qP (List.getElem?_eq_getElem hj)] at this
end
def setG:Nat -> SM Unit:=sortPriv% PySem.Builtin.setMinGallop
abbrev ZL (st:SortSt) (g:Nat):SortSt:=SortSt.mk' (kindOf st) (arrOf st) (pendingOf st) g (failedOf st)
theorem vU (g:Nat):setG g = modify fun s => ZL s g:=rfl
structure SamS (st st':SortSt):Prop where
 kind:kindOf st' = kindOf st
 arr:arrOf st' = arrOf st
 pend:pendingOf st' = pendingOf st
 fail:failedOf st' = failedOf st
theorem SamS.rfl' {st:SortSt}:SamS st st:=⟨rfl,rfl,rfl,rfl⟩
theorem SamS.gal {st st':SortSt} (h:SamS st st') (g:Nat):SamS st (ZL st' g):=⟨h.kind,h.arr,h.pend,h.fail⟩
def dnL (a b out:Array Keyed) (ia ib:Nat):Array Keyed:=out ++ a.extract ia a.size ++ b.extract ib b.size
def lsL (a b out:Array Keyed) (ia ib:Nat):Array Keyed:=out ++ b.extract ib b.size ++ a.extract ia a.size
abbrev LoA:=Option (Array Keyed) × Array Keyed × Nat × Nat × Nat × Nat
abbrev LoB:=Option (Array Keyed) × Array Keyed × Nat × Nat × Nat × Nat × Nat
abbrev LoC:=Option (Array Keyed) × Array Keyed × Nat × Nat × Nat
def lo1 (a b:Array Keyed) (mg:Nat) (c:LoA):SM (ForInStep LoA) :=
 elem' b c.2.2.2.1 >>= fun y => elem' a c.2.2.1 >>= fun x => lt' y x >>= fun o => match o with
   | some w => if w = true then elem' b c.2.2.2.1 >>= fun z =>
         if (c.2.2.2.1 + 1 == b.size) = true then pure (ForInStep.done (some (dnL a b (c.2.1.push z) c.2.2.1 (c.2.2.2.1 + 1)),c.2.1.push z,c.2.2.1,c.2.2.2.1 + 1,0,c.2.2.2.2.2 + 1))
         else if c.2.2.2.2.2 + 1 ≥ mg then pure (ForInStep.done (none,c.2.1.push z,c.2.2.1,c.2.2.2.1 + 1,0,c.2.2.2.2.2 + 1))
         else pure (ForInStep.yield (none,c.2.1.push z,c.2.2.1,c.2.2.2.1 + 1,0,c.2.2.2.2.2 + 1))
       else elem' a c.2.2.1 >>= fun z =>
         if (c.2.2.1 + 1 + 1 == a.size) = true then pure (ForInStep.done (some (lsL a b (c.2.1.push z) (c.2.2.1 + 1) c.2.2.2.1),c.2.1.push z,c.2.2.1 + 1,c.2.2.2.1,c.2.2.2.2.1 + 1,0))
         else if c.2.2.2.2.1 + 1 ≥ mg then pure (ForInStep.done (none,c.2.1.push z,c.2.2.1 + 1,c.2.2.2.1,c.2.2.2.2.1 + 1,0))
         else pure (ForInStep.yield (none,c.2.1.push z,c.2.2.1 + 1,c.2.2.2.1,c.2.2.2.2.1 + 1,0))
   | _ => pure (ForInStep.done (some (dnL a b c.2.1 c.2.2.1 c.2.2.2.1),c.2.1,c.2.2.1,c.2.2.2.1,c.2.2.2.2.1,c.2.2.2.2.2))
def lo2c (a b:Array Keyed) (mg:Nat) (out:Array Keyed) (ia ib ac bc:Nat):SM (ForInStep LoB) :=
 elem' a ia >>= fun z => if (ia + 1 + 1 == a.size) = true then pure (ForInStep.done (some (lsL a b (out.push z) (ia + 1) ib),out.push z,ia + 1,ib,mg,ac,bc))
   else if (decide (ac < 7) && decide (bc < 7)) = true then pure (ForInStep.done (none,out.push z,ia + 1,ib,mg,ac,bc))
   else pure (ForInStep.yield (none,out.push z,ia + 1,ib,mg,ac,bc))
def lo2b (a b : Array Keyed) (mg : Nat) (out : Array Keyed) (ia ib ac bc : Nat) : SM (ForInStep LoB) :=
 elem' b ib >>= fun z => if (ib + 1 == b.size) = true then pure (ForInStep.done (some (dnL a b (out.push z) ia (ib + 1)), out.push z, ia, ib + 1, mg, ac, bc))
   else elem' a ia >>= fun x => gallop' true x b (ib + 1) (b.size - (ib + 1)) 0 >>= fun o => match o with
     | some k => if k > 0 then (if (ib + 1 + k == b.size) = true then pure (ForInStep.done (some (dnL a b (out.push z ++ b.extract (ib + 1) (ib + 1 + k)) ia (ib + 1 + k)),out.push z ++ b.extract (ib + 1) (ib + 1 + k),ia,ib + 1 + k,mg,ac,k))
           else lo2c a b mg (out.push z ++ b.extract (ib + 1) (ib + 1 + k)) ia (ib + 1 + k) ac k)
         else lo2c a b mg (out.push z) ia (ib + 1) ac k
     | _ => pure (ForInStep.done (some (dnL a b (out.push z) ia (ib + 1)),out.push z,ia,ib + 1,mg,ac,bc))
def lo2a (a b : Array Keyed) (mg : Nat) (out : Array Keyed) (ia ib ac bc : Nat) : SM (ForInStep LoB) :=
 setG mg >>= fun _ => elem' b ib >>= fun y => gallop' false y a ia (a.size - ia) 0 >>= fun o => match o with
   | some k => if k > 0 then (if (ia + k + 1 == a.size) = true then pure (ForInStep.done (some (lsL a b (out ++ a.extract ia (ia + k)) (ia + k) ib),out ++ a.extract ia (ia + k),ia + k,ib,mg,k,bc))
         else if (ia + k == a.size) = true then pure (ForInStep.done (some (dnL a b (out ++ a.extract ia (ia + k)) (ia + k) ib),out ++ a.extract ia (ia + k),ia + k,ib,mg,k,bc))
         else lo2b a b mg (out ++ a.extract ia (ia + k)) (ia + k) ib k bc)
       else lo2b a b mg out ia ib k bc
   | _ => pure (ForInStep.done (some (dnL a b out ia ib),out,ia,ib,mg,ac,bc))
def lo2 (a b:Array Keyed) (c:LoB):SM (ForInStep LoB) :=
 if c.2.2.2.2.1 > 1 then lo2a a b (c.2.2.2.2.1 - 1) c.2.1 c.2.2.1 c.2.2.2.1 c.2.2.2.2.2.1 c.2.2.2.2.2.2 else lo2a a b c.2.2.2.2.1 c.2.1 c.2.2.1 c.2.2.2.1 c.2.2.2.2.2.1 c.2.2.2.2.2.2
def lo3 (a b:Array Keyed) (c:LoC):SM (ForInStep LoC) :=
 (forIn [:a.size + b.size] ((none,c.2.1,c.2.2.1,c.2.2.2.1,0,0):LoA) fun _ d => lo1 a b c.2.2.2.2 d) >>= fun d => match d.1 with
   | some r => pure (ForInStep.done (some r,d.2.1,d.2.2.1,d.2.2.2.1,c.2.2.2.2))
   | none => liftM (rule "list.sort.gallop") >>= fun _ => (forIn [:a.size + b.size] ((none, d.2.1, d.2.2.1, d.2.2.2.1, c.2.2.2.2 + 1, d.2.2.2.2.1, d.2.2.2.2.2) : LoB) fun _ e => lo2 a b e) >>= fun e => match e.1 with
     | some r => pure (ForInStep.done (some r,e.2.1,e.2.2.1,e.2.2.2.1,e.2.2.2.2.1))
     | none => setG (e.2.2.2.2.1 + 1) >>= fun _ => pure (ForInStep.yield (none,e.2.1,e.2.2.1,e.2.2.2.1,e.2.2.2.2.1 + 1))
def mergeLo':Array Keyed -> Array Keyed -> SM (Array Keyed):=sortPriv% PySem.Builtin.mergeLo
theorem mergeLo'_eq (a b:Array Keyed):mergeLo' a b = (liftM (rule "list.sort.merge-lo") >>= fun _ => elem' b 0 >>= fun z =>
   if (1 == b.size) = true then pure (dnL a b #[z] 0 1) else if (0 + 1 == a.size) = true then pure (lsL a b #[z] 0 1)
   else get >>= fun st => (forIn [:a.size + b.size] ((none,#[z],0,1,gallopOf st):LoC) fun _ c => lo3 a b c) >>= fun c => match c.1 with
     | some r => pure r
     | none => liftM (unsupported "internal:list.sort.merge-bound")):=by
 show (_ >>= _:SM _) = _
 congr 1; funext u
 show (_ >>= _:SM _) = _
 congr 1; funext z
 by_cases h:(1 == b.size) = true
 · exact (if_pos h).trans (if_pos h).symm
 · refine (if_neg h).trans (Eq.trans ?_ (if_neg h).symm)
   by_cases h2:(0 + 1 == a.size) = true
   · exact (if_pos h2).trans (if_pos h2).symm
   · refine (if_neg h2).trans (Eq.trans ?_ (if_neg h2).symm)
     show (_ >>= _:SM _) = _
     congr 1; funext st
     show (_ >>= _:SM _) = _
     congr 1
     · congr 1; funext x c
       delta lo3
       show (_ >>= _:SM _) = _
       congr 1; funext d
       obtain ⟨r,d⟩:=d
       cases r
       · show (_ >>= _ : SM _) = _
         congr 1; funext v
         show (_ >>= _:SM _) = _
         congr 1; funext d
         obtain ⟨r,d⟩:=d
         cases r <;> rfl
       · rfl
     · funext c
       obtain ⟨r,d⟩:=c
       cases r <;> rfl
end L2
namespace L2
open PySem PyProof.Rows
structure MrH (S:Keyed -> Prop) (κ:Keyed -> Int) (a b:Array Keyed):Prop where
 sa:xJ κ a 0 a.size
 sb:xJ κ b 0 b.size
 ma:∀ p,p ∈ a.toList -> S p
 mb:∀ p,p ∈ b.toList -> S p
 na:1 <= a.size
 nb:1 <= b.size
 b0:∀ i,i < a.size -> kAt κ b 0 < kAt κ a i
 al:∀ j,j < b.size -> kAt κ b j < kAt κ a (a.size - 1)
section
variable {S:Keyed -> Prop} {κ:Keyed -> Int} {a b out:Array Keyed} {ia ib:Nat}
abbrev MsA (κ:Keyed -> Int) (a b out:Array Keyed) (ia ib:Nat):Prop:=Mst κ a.toList b.toList out.toList ia ib
abbrev MgA (κ:Keyed -> Int) (a b out:Array Keyed):Prop:=Mgd κ a.toList b.toList out.toList
theorem ext_l (a:Array Keyed) (i k:Nat):(a.extract i (i + k)).toList = (a.toList.drop i).take k:=by
 rw [Array.toList_extract,List.extract_eq_take_drop,Nat.add_sub_cancel_left]
theorem ext_e (a:Array Keyed) (i:Nat):(a.extract i a.size).toList = a.toList.drop i:=by
 rw [Array.toList_extract,List.extract_eq_take_drop,List.take_of_length_le (by simp)]
theorem one_l {l:List Keyed} {i:Nat} {z:Keyed} (h:l[i]? = some z):[z] = (l.drop i).take 1:=by
 obtain ⟨hi,e⟩:=List.getElem?_eq_some_iff.mp h
 rw [List.drop_eq_getElem_cons hi,e]; rfl
theorem MsA.appA (H:MrH S κ a b) (h:MsA κ a b out ia ib) {k:Nat} (hq:∀ i,ia <= i -> i < ia + k -> ∀ j,ib <= j -> j < b.size -> kAt κ a i <= kAt κ b j):MsA κ a b (out ++ a.extract ia (ia + k)) (ia + k) ib:=by
 have:=Mst.addA h k (jS H.sa) fun x hx y hy => by
   obtain ⟨i,h1,h2,h3,h4⟩:=qZ hx
   obtain ⟨j,g1,g2,g3⟩:=mem_dr hy
   rw [qP (κ:=κ) h4,qP (κ:=κ) g3]
   exact hq i h1 h2 j g1 (by simpa using g2)
 rw [MsA,Array.toList_append,ext_l]; exact this
theorem MsA.appB (H:MrH S κ a b) (h:MsA κ a b out ia ib) {k:Nat} (hq:∀ j,ib <= j -> j < ib + k -> ∀ i,ia <= i -> i < a.size -> kAt κ b j <= kAt κ a i):MsA κ a b (out ++ b.extract ib (ib + k)) ia (ib + k):=by
 have:=Mst.addB h k (jS H.sb) fun x hx y hy => by
   obtain ⟨i,h1,h2,h3,h4⟩:=qZ hx
   obtain ⟨j,g1,g2,g3⟩:=mem_dr hy
   rw [qP (κ:=κ) h4,qP (κ:=κ) g3]
   exact hq i h1 h2 j g1 (by simpa using g2)
 rw [MsA,Array.toList_append,ext_l]; exact this
theorem ZN (o:Array Keyed) (z:Keyed):(o.push z).toList = o.toList ++ [z]:=by simp
theorem MsA.pushA (H:MrH S κ a b) (h:MsA κ a b out ia ib) {z:Keyed} (hz:a[ia]? = some z) (hq:∀ j,ib <= j -> j < b.size -> κ z <= kAt κ b j):MsA κ a b (out.push z) (ia + 1) ib:=by
 have hz':a.toList[ia]? = some z:=by rw [Array.getElem?_toList]; exact hz
 have:=h.appA H (k:=1) fun i h1 h2 j g1 g2 => by
   have:i = ia:=by omega
   subst this
   rw [yN hz]; exact hq j g1 g2
 rw [MsA,Array.toList_append,ext_l,← one_l hz'] at this
 rw [MsA,ZN]; exact this
theorem MsA.pushB (H:MrH S κ a b) (h:MsA κ a b out ia ib) {z:Keyed} (hz:b[ib]? = some z) (hq:∀ i,ia <= i -> i < a.size -> κ z <= kAt κ a i):MsA κ a b (out.push z) ia (ib + 1):=by
 have hz':b.toList[ib]? = some z:=by rw [Array.getElem?_toList]; exact hz
 have:=h.appB H (k:=1) fun i h1 h2 j g1 g2 => by
   have:i = ib:=by omega
   subst this
   rw [yN hz]; exact hq j g1 g2
 rw [MsA,Array.toList_append,ext_l,← one_l hz'] at this
 rw [MsA,ZN]; exact this
theorem MsA.dn (H:MrH S κ a b) (h:MsA κ a b out ia ib) (hb:ib = b.size):MgA κ a b (dnL a b out ia ib):=by
 have:=Mst.endA h (jS H.sa) (by simp; omega)
 rw [MgA,dnL,Array.toList_append,Array.toList_append,ext_e,ext_e,List.drop_eq_nil_of_le (as:=b.toList) (by simp; omega),List.append_nil]
 exact this
theorem MsA.ls (H:MrH S κ a b) (h:MsA κ a b out ia ib) (ha:ia + 1 = a.size):MgA κ a b (lsL a b out ia ib):=by
 have h1:=Mst.addB h b.size (jS H.sb) fun x hx y hy => by
   obtain ⟨i,h1,h2,h3,h4⟩:=qZ hx
   obtain ⟨j,g1,g2,g3⟩:=mem_dr hy
   rw [qP (κ:=κ) h4,qP (κ:=κ) g3]
   have:j = a.size - 1:=by simp at g2; omega
   subst this
   exact Int.le_of_lt (H.al i (by simpa using h3))
 rw [List.take_of_length_le (l:=b.toList.drop ib) (by simp)] at h1
 have:=h1.endA (jS H.sa) (by simp)
 rw [MgA,lsL,Array.toList_append,Array.toList_append,ext_e,ext_e]
 exact this
end
def LoN (κ:Keyed -> Int) (a b:Array Keyed) (N:Nat) (r:Option (Array Keyed)) (out:Array Keyed) (ia ib:Nat):Prop :=
 r = none /\ MsA κ a b out ia ib /\ ia + 1 < a.size /\ ib < b.size /\ N <= ia + ib
def LoG (κ:Keyed -> Int) (a b:Array Keyed) (N:Nat) (r:Option (Array Keyed)) (out:Array Keyed) (ia ib:Nat):Prop :=
 (∃ x,r = some x /\ MgA κ a b x) \/ LoN κ a b N r out ia ib
theorem lon {κ:Keyed -> Int} {a b out:Array Keyed} {N ia ib:Nat} (h1:MsA κ a b out ia ib) (h2:ia + 1 < a.size) (h3:ib < b.size) (h4:N <= ia + ib):LoN κ a b N none out ia ib:=⟨rfl,h1,h2,h3,h4⟩
section
variable {M:Model} {A:Around} {E:Value -> Shared -> Prop} {s:Shared} {st:SortSt} {kd:SortKind} {S:Keyed -> Prop} {κ:Keyed -> Int} {a b:Array Keyed}
theorem lo1_ok (C:CmpO M A E s kd S κ) (H:MrH S κ a b) (hk:kindOf st = kd) {N mg ia ib ac bc:Nat} {out:Array Keyed} (h:LoN κ a b N none out ia ib) :
   wpS M A E s (lo1 a b mg (none,out,ia,ib,ac,bc)) (fun r st' => st' = st /\ match r with
     | .done c => LoG κ a b (N + 1) c.1 c.2.1 c.2.2.1 c.2.2.2.1
     | .yield c => LoN κ a b (N + 1) c.1 c.2.1 c.2.2.1 c.2.2.2.1) st:=by
 obtain ⟨-,h1,h2,h3,h4⟩:=h
 obtain ⟨x,ex,hx⟩:=xL (arr:=a) (i:=ia) (by omega)
 obtain ⟨y,ey,hy⟩:=xL (arr:=b) (i:=ib) (by omega)
 unfold lo1
 refine wpS_bind (yJ ey (wpS_bind (yJ ex (wpS_bind (C.lt (H.mb y hy) (H.ma x hx) hk ?_)))))
 have kx:=yN (κ:=κ) ex
 have ky:=yN (κ:=κ) ey
 by_cases hl:κ y < κ x
 · simp only [hl, decide_true, if_true]
   refine wpS_bind (yJ ey ?_)
   have hn:MsA κ a b (out.push y) ia (ib + 1):=h1.pushB H ey fun i g1 g2 => by
     have:=H.sa ia i (by omega) g1 g2
     omega
   by_cases he:ib + 1 = b.size
   · rw [if_pos (by simpa using he)]
     exact wpS_pure ⟨rfl,.inl ⟨_,rfl,hn.dn H he⟩⟩
   · rw [if_neg (by simpa using he)]
     split
     · exact wpS_pure ⟨rfl,.inr (lon (N:=N + 1) hn (h2) (by omega) (by omega) :)⟩
     · exact wpS_pure ⟨rfl,(lon (N:=N + 1) hn (h2) (by omega) (by omega) :)⟩
 · simp only [hl, decide_false, Bool.false_eq_true, if_false]
   refine wpS_bind (yJ ex ?_)
   have hn:MsA κ a b (out.push x) (ia + 1) ib:=h1.pushA H ex fun i g1 g2 => by
     have:=H.sb ib i (by omega) g1 g2
     omega
   by_cases he:ia + 1 + 1 = a.size
   · rw [if_pos (by simpa using he)]
     exact wpS_pure ⟨rfl,.inl ⟨_,rfl,hn.ls H he⟩⟩
   · rw [if_neg (by simpa using he)]
     split
     · exact wpS_pure ⟨rfl,.inr (lon (N:=N + 1) hn (by omega) (by omega) (by omega) :)⟩
     · exact wpS_pure ⟨rfl,(lon (N:=N + 1) hn (by omega) (by omega) (by omega) :)⟩
abbrev Lo2Q (κ:Keyed -> Int) (a b:Array Keyed) (N:Nat) (st:SortSt) (r:ForInStep LoB) (st':SortSt):Prop:=SamS st st' /\ match r with
     | .done c => LoG κ a b N c.1 c.2.1 c.2.2.1 c.2.2.2.1
     | .yield c => LoN κ a b N c.1 c.2.1 c.2.2.1 c.2.2.2.1
theorem lo2c_ok {st0:SortSt} (H:MrH S κ a b) {N mg ia ib ac bc:Nat} {out:Array Keyed} (hs:SamS st0 st) (h1:MsA κ a b out ia ib) (h2:ia + 1 < a.size) (h3:ib < b.size) (h4:N <= ia + ib)
   (hq:∀ j,ib <= j -> j < b.size -> kAt κ a ia <= kAt κ b j):wpS M A E s (lo2c a b mg out ia ib ac bc) (Lo2Q κ a b N st0) st:=by
 obtain ⟨x,ex,hx⟩:=xL (arr:=a) (i:=ia) (by omega)
 unfold lo2c
 refine wpS_bind (yJ ex ?_)
 have kx:=yN (κ:=κ) ex
 have hn:MsA κ a b (out.push x) (ia + 1) ib:=h1.pushA H ex fun i g1 g2 => by rw [← kx]; exact hq i g1 g2
 by_cases he:ia + 1 + 1 = a.size
 · rw [if_pos (by simpa using he)]
   exact wpS_pure ⟨hs,.inl ⟨_,rfl,hn.ls H he⟩⟩
 · rw [if_neg (by simpa using he)]
   split
   · exact wpS_pure ⟨hs,.inr (lon (N:=N) hn (by omega) (by omega) (by omega) :)⟩
   · exact wpS_pure ⟨hs,(lon (N:=N) hn (by omega) (by omega) (by omega) :)⟩
theorem lo2b_ok {st0:SortSt} (C:CmpO M A E s kd S κ) (H:MrH S κ a b) (hk:kindOf st = kd) {N mg ia ib ac bc:Nat} {out:Array Keyed} (hs:SamS st0 st) (h1:MsA κ a b out ia ib) (h2:ia + 1 < a.size) (h3:ib < b.size) (h4:N <= ia + ib)
   (hq:∀ i,ia <= i -> i < a.size -> kAt κ b ib <= kAt κ a i):wpS M A E s (lo2b a b mg out ia ib ac bc) (Lo2Q κ a b N st0) st:=by
 obtain ⟨y,ey,hy⟩:=xL (arr:=b) (i:=ib) (by omega)
 obtain ⟨x,ex,hx⟩:=xL (arr:=a) (i:=ia) (by omega)
 unfold lo2b
 refine wpS_bind (yJ ey ?_)
 have ky:=yN (κ:=κ) ey
 have kx:=yN (κ:=κ) ex
 have hn:MsA κ a b (out.push y) ia (ib + 1):=h1.pushB H ey fun i g1 g2 => by rw [← ky]; exact hq i g1 g2
 by_cases he:ib + 1 = b.size
 · rw [if_pos (by simpa using he)]
   exact wpS_pure ⟨hs,.inl ⟨_,rfl,hn.dn H he⟩⟩
 · rw [if_neg (by simpa using he)]
   refine wpS_bind (yJ ex ?_)
   refine wpS_bind (YA C hk H.mb (H.ma x hx) (by omega) (fun p q r1 r2 r3 => H.sb p q (by omega) r2 (by omega)) (by omega) fun k g1 g2 g3 => ?_)
   dsimp only
   have hm:MsA κ a b (out.push y ++ b.extract (ib + 1) (ib + 1 + k)) ia (ib + 1 + k):=hn.appB H fun j r1 r2 i r3 r4 => by
     have:=g2 (j - (ib + 1)) (by omega)
     rw [show ib + 1 + (j - (ib + 1)) = j by omega] at this
     have:=H.sa ia i (by omega) r3 r4
     omega
   have hr:∀ j,ib + 1 + k <= j -> j < b.size -> kAt κ a ia <= kAt κ b j:=fun j r1 r2 => by
     have:=g3 (j - (ib + 1)) (by omega) (by omega)
     rw [show ib + 1 + (j - (ib + 1)) = j by omega] at this
     omega
   by_cases hz:k > 0
   · rw [if_pos hz]
     by_cases he:ib + 1 + k = b.size
     · rw [if_pos (by simpa using he)]
       exact wpS_pure ⟨hs,.inl ⟨_,rfl,hm.dn H he⟩⟩
     · rw [if_neg (by simpa using he)]
       exact lo2c_ok H hs hm h2 (by omega) (by omega) hr
   · rw [if_neg hz]
     have:k = 0:=by omega
     subst this
     exact lo2c_ok H hs hn h2 (by omega) (by omega) hr
theorem lo2a_ok {st0:SortSt} (C:CmpO M A E s kd S κ) (H:MrH S κ a b) (hk:kindOf st = kd) {N mg ia ib ac bc:Nat} {out:Array Keyed} (hs:SamS st0 st) (h1:MsA κ a b out ia ib) (h2:ia + 1 < a.size) (h3:ib < b.size) (h4:N <= ia + ib) :
   wpS M A E s (lo2a a b mg out ia ib ac bc) (Lo2Q κ a b N st0) st:=by
 obtain ⟨y,ey,hy⟩:=xL (arr:=b) (i:=ib) (by omega)
 unfold lo2a
 rw [vU]
 refine wpS_bind (wpS_modify (wpS_bind (yJ ey ?_)))
 have hs':=hs.gal mg
 have hk':kindOf (ZL st mg) = kd:=hk
 have ky:=yN (κ:=κ) ey
 refine wpS_bind (ZZ C hk' H.ma (H.mb y hy) (by omega) (fun p q r1 r2 r3 => H.sa p q (by omega) r2 (by omega)) (by omega) fun k g1 g2 g3 => ?_)
 dsimp only
 have hl:=H.al ib h3
 have hkl:ia + k < a.size:=by
   by_cases hc:ia + k < a.size
   · exact hc
   · have := g2 (a.size - 1 - ia) (by omega)
     rw [show ia + (a.size - 1 - ia) = a.size - 1 by omega] at this
     omega
 have hm:MsA κ a b (out ++ a.extract ia (ia + k)) (ia + k) ib:=h1.appA H fun j r1 r2 i r3 r4 => by
   have:=g2 (j - ia) (by omega)
   rw [show ia + (j - ia) = j by omega] at this
   have:=H.sb ib i (by omega) r3 r4
   omega
 have hr:∀ j,ia + k <= j -> j < a.size -> kAt κ b ib <= kAt κ a j:=fun j r1 r2 => by
   have:=g3 (j - ia) (by omega) (by omega)
   rw [show ia + (j - ia) = j by omega] at this
   omega
 by_cases hz:k > 0
 · rw [if_pos hz]
   by_cases he:ia + k + 1 = a.size
   · rw [if_pos (by simpa using he)]
     exact wpS_pure ⟨hs',.inl ⟨_,rfl,hm.ls H he⟩⟩
   · rw [if_neg (by simpa using he), if_neg (by simp; omega)]
     exact lo2b_ok C H hk' hs' hm (by omega) h3 (by omega) hr
 · rw [if_neg hz]
   have:k = 0:=by omega
   subst this
   exact lo2b_ok C H hk' hs' h1 (by omega) h3 (by omega) hr
theorem lo2_ok {st0:SortSt} (C:CmpO M A E s kd S κ) (H:MrH S κ a b) (hk:kindOf st = kd) {N mg ia ib ac bc:Nat} {out:Array Keyed} (hs:SamS st0 st) (h:LoN κ a b N none out ia ib) :
   wpS M A E s (lo2 a b (none,out,ia,ib,mg,ac,bc)) (Lo2Q κ a b N st0) st:=by
 obtain ⟨-,h1,h2,h3,h4⟩:=h
 unfold lo2
 dsimp only
 split
 · exact lo2a_ok C H hk hs h1 h2 h3 h4
 · exact lo2a_ok C H hk hs h1 h2 h3 h4
theorem lo3_ok {st0:SortSt} (C:CmpO M A E s kd S κ) (H:MrH S κ a b) (hk0:kindOf st0 = kd) {N mg ia ib:Nat} {out:Array Keyed} (hs:SamS st0 st) (h:LoN κ a b N none out ia ib) :
   wpS M A E s (lo3 a b (none,out,ia,ib,mg)) (fun r st' => SamS st0 st' /\ match r with
     | .done c => ∃ x,c.1 = some x /\ MgA κ a b x
     | .yield c => LoN κ a b (N + 1) c.1 c.2.1 c.2.2.1 c.2.2.2.1) st:=by
 unfold lo3
 dsimp only
 refine wpS_bind (wpS_mono (wpS_forRange
   (I:=fun x c st' => st' = st /\ LoN κ a b (N + x) c.1 c.2.1 c.2.2.1 c.2.2.2.1)
   (Q:=fun c st' => st' = st /\ LoG κ a b (N + 1) c.1 c.2.1 c.2.2.1 c.2.2.2.1) ?step ?fin ⟨rfl,h⟩) ?post)
 case fin =>
   rintro c st' ⟨rfl,h1,h2,h3,h4,h5⟩
   have:=H.na
   exact ⟨rfl,.inr ⟨h1,h2,h3,h4,by omega⟩⟩
 case step =>
   rintro x ⟨r,out,ia,ib,ac,bc⟩ st' _ hx ⟨rfl,hc⟩
   have hr:r = none:=hc.1
   subst hr
   refine wpS_mono (lo1_ok C H (hs.kind.trans hk0) hc) ?_
   rintro (c | c) st'' ⟨rfl,h'⟩
   · refine ⟨rfl, ?_⟩
     rcases h' with h' | ⟨a1,a2,a3,a4,a5⟩
     · exact .inl h'
     · exact .inr ⟨a1,a2,a3,a4,by omega⟩
   · exact ⟨rfl,h'⟩
 case post =>
   rintro ⟨r,out,ia,ib,ac,bc⟩ st' ⟨rfl,hc⟩
   rcases hc with ⟨x,hx,hg⟩ | hc
   · have hx : r = some x := hx
     subst hx
     exact wpS_pure ⟨hs,x,rfl,hg⟩
   · have hr : r = none := hc.1
     subst hr
     dsimp only
     refine wpS_bind (wpS_lift (wpAny_rule ⟨rfl,?_⟩))
     refine wpS_bind (wpS_mono (wpS_forRange
       (I:=fun x c st' => SamS st0 st' /\ LoN κ a b (N + 1) c.1 c.2.1 c.2.2.1 c.2.2.2.1)
       (Q:=fun c st' => SamS st0 st' /\ LoG κ a b (N + 1) c.1 c.2.1 c.2.2.1 c.2.2.2.1) ?_ ?_ ⟨hs,hc⟩) ?_)
     · rintro x ⟨r, out, ia, ib, mg, ac, bc⟩ st' _ hx ⟨hs', hc⟩
       have hr:r = none:=hc.1
       subst hr
       refine wpS_mono (lo2_ok C H (hs'.kind.trans hk0) hs' hc) ?_
       rintro (c | c) st'' h' <;> exact h'
     · rintro c st' ⟨h1, h2⟩
       exact ⟨h1,.inr h2⟩
     · rintro ⟨r, out, ia, ib, mg, ac, bc⟩ st' ⟨hs', hc⟩
       rcases hc with ⟨x,hx,hg⟩ | hc
       · have hx : r = some x := hx
         subst hx
         exact wpS_pure ⟨hs',x,rfl,hg⟩
       · have hr : r = none := hc.1
         subst hr
         dsimp only
         rw [vU]
         exact wpS_bind (wpS_modify (wpS_pure ⟨hs'.gal _,hc⟩))
theorem mergeLo_ok (C:CmpO M A E s kd S κ) (H:MrH S κ a b) (hk:kindOf st = kd) {Q:Array Keyed -> SortSt -> Prop} (h:∀ out st',SamS st st' -> MgA κ a b out -> Q out st'):wpS M A E s (mergeLo' a b) Q st:=by
 have h0:=H.na
 have h0':=H.nb
 obtain ⟨y,ey,hy⟩:=xL (arr:=b) (i:=0) (by omega)
 rw [mergeLo'_eq]
 refine wpS_bind (wpS_lift (wpAny_rule ⟨rfl,?_⟩))
 refine wpS_bind (yJ ey ?_)
 have ky:=yN (κ:=κ) ey
 have hn:MsA κ a b #[y] 0 1:=by
   have:=MsA.pushB (out:=#[]) H Mst.nil ey fun i g1 g2 => by
     have:=H.b0 i g2
     omega
   simpa using this
 by_cases he:1 = b.size
 · rw [if_pos (by simpa using he)]
   exact wpS_pure (h _ _ .rfl' (hn.dn H he))
 · rw [if_neg (by simpa using he)]
   by_cases he2:0 + 1 = a.size
   · rw [if_pos (by simpa using he2)]
     exact wpS_pure (h _ _ .rfl' (hn.ls H he2))
   · rw [if_neg (by simpa using he2)]
     refine wpS_bind (wpS_get ?_)
     refine wpS_bind (wpS_mono (wpS_forRange
       (I:=fun x c st' => SamS st st' /\ LoN κ a b (x + 1) c.1 c.2.1 c.2.2.1 c.2.2.2.1)
       (Q:=fun c st' => SamS st st' /\ ∃ x,c.1 = some x /\ MgA κ a b x) ?_ ?_ ⟨.rfl',(lon (N:=0 + 1) hn (by omega) (by omega) (by omega) :)⟩) ?_)
     · rintro x ⟨r, out, ia, ib, mg⟩ st' _ hx ⟨hs', hc⟩
       have hr:r = none:=hc.1
       subst hr
       refine wpS_mono (lo3_ok C H hk hs' hc) ?_
       rintro (c | c) st'' ⟨h1,h2⟩
       · exact ⟨h1,h2⟩
       · exact ⟨h1,h2⟩
     · rintro c st' ⟨h1, -, h2, h3, h4, h5⟩
       omega
     · rintro ⟨r, c⟩ st' ⟨h1, x, hx, hg⟩
       have hx:r = some x:=hx
       subst hx
       exact wpS_pure (h _ _ h1 hg)
end
end L2
namespace L2
open PySem PyProof.Rows
def dnH (a b out:Array Keyed) (na nb:Nat):Array Keyed:=a.extract 0 na ++ b.extract 0 nb ++ out.reverse
def fsH (a b out:Array Keyed) (na nb:Nat):Array Keyed:=b.extract 0 nb ++ a.extract 0 na ++ out.reverse
abbrev HiA:=Option (Array Keyed) × Nat × Nat × Array Keyed × Nat × Nat
abbrev HiB:=Option (Array Keyed) × Nat × Nat × Array Keyed × Nat × Nat × Nat
abbrev HiC:=Option (Array Keyed) × Nat × Nat × Array Keyed × Nat
def hi1 (a b:Array Keyed) (mg:Nat) (c:HiA):SM (ForInStep HiA) :=
 elem' b (c.2.2.1 - 1) >>= fun y => elem' a (c.2.1 - 1) >>= fun x => lt' y x >>= fun o => match o with
   | some w => if w = true then elem' a (c.2.1 - 1) >>= fun z =>
         if (c.2.1 - 1 == 0) = true then pure (ForInStep.done (some (dnH a b (c.2.2.2.1.push z) (c.2.1 - 1) c.2.2.1),c.2.1 - 1,c.2.2.1,c.2.2.2.1.push z,c.2.2.2.2.1 + 1,0))
         else if c.2.2.2.2.1 + 1 ≥ mg then pure (ForInStep.done (none,c.2.1 - 1,c.2.2.1,c.2.2.2.1.push z,c.2.2.2.2.1 + 1,0))
         else pure (ForInStep.yield (none,c.2.1 - 1,c.2.2.1,c.2.2.2.1.push z,c.2.2.2.2.1 + 1,0))
       else elem' b (c.2.2.1 - 1) >>= fun z =>
         if (c.2.2.1 - 1 == 1) = true then pure (ForInStep.done (some (fsH a b (c.2.2.2.1.push z) c.2.1 (c.2.2.1 - 1)),c.2.1,c.2.2.1 - 1,c.2.2.2.1.push z,0,c.2.2.2.2.2 + 1))
         else if c.2.2.2.2.2 + 1 ≥ mg then pure (ForInStep.done (none,c.2.1,c.2.2.1 - 1,c.2.2.2.1.push z,0,c.2.2.2.2.2 + 1))
         else pure (ForInStep.yield (none,c.2.1,c.2.2.1 - 1,c.2.2.2.1.push z,0,c.2.2.2.2.2 + 1))
   | _ => pure (ForInStep.done (some (dnH a b c.2.2.2.1 c.2.1 c.2.2.1),c.2.1,c.2.2.1,c.2.2.2.1,c.2.2.2.2.1,c.2.2.2.2.2))
def hi2c (a b:Array Keyed) (mg:Nat) (out:Array Keyed) (na nb ac bc:Nat):SM (ForInStep HiB) :=
 elem' a (na - 1) >>= fun z => if (na - 1 == 0) = true then pure (ForInStep.done (some (dnH a b (out.push z) (na - 1) nb),na - 1,nb,out.push z,mg,ac,bc))
   else if (decide (ac < 7) && decide (bc < 7)) = true then pure (ForInStep.done (none,na - 1,nb,out.push z,mg,ac,bc))
   else pure (ForInStep.yield (none,na - 1,nb,out.push z,mg,ac,bc))
def hi2b (a b : Array Keyed) (mg : Nat) (out : Array Keyed) (na nb ac bc : Nat) : SM (ForInStep HiB) :=
 elem' b (nb - 1) >>= fun z => if (nb - 1 == 1) = true then pure (ForInStep.done (some (fsH a b (out.push z) na (nb - 1)), na, nb - 1, out.push z, mg, ac, bc))
   else elem' a (na - 1) >>= fun x => gallop' true x b 0 (nb - 1) (nb - 1 - 1) >>= fun o => match o with
     | some k => if nb - 1 - k > 0 then (if (k == 1) = true then pure (ForInStep.done (some (fsH a b (out.push z ++ (b.extract k (nb - 1)).reverse) na k),na,k,out.push z ++ (b.extract k (nb - 1)).reverse,mg,ac,nb - 1 - k))
           else if (k == 0) = true then pure (ForInStep.done (some (dnH a b (out.push z ++ (b.extract k (nb - 1)).reverse) na k),na,k,out.push z ++ (b.extract k (nb - 1)).reverse,mg,ac,nb - 1 - k))
           else hi2c a b mg (out.push z ++ (b.extract k (nb - 1)).reverse) na k ac (nb - 1 - k))
         else hi2c a b mg (out.push z) na (nb - 1) ac (nb - 1 - k)
     | _ => pure (ForInStep.done (some (dnH a b (out.push z) na (nb - 1)),na,nb - 1,out.push z,mg,ac,bc))
def hi2a (a b : Array Keyed) (mg : Nat) (out : Array Keyed) (na nb ac bc : Nat) : SM (ForInStep HiB) :=
 setG mg >>= fun _ => elem' b (nb - 1) >>= fun y => gallop' false y a 0 na (na - 1) >>= fun o => match o with
   | some k => if na - k > 0 then (if (k == 0) = true then pure (ForInStep.done (some (dnH a b (out ++ (a.extract k na).reverse) k nb),k,nb,out ++ (a.extract k na).reverse,mg,na - k,bc))
         else hi2b a b mg (out ++ (a.extract k na).reverse) k nb (na - k) bc)
       else hi2b a b mg out na nb (na - k) bc
   | _ => pure (ForInStep.done (some (dnH a b out na nb),na,nb,out,mg,ac,bc))
def hi2 (a b:Array Keyed) (c:HiB):SM (ForInStep HiB) :=
 if c.2.2.2.2.1 > 1 then hi2a a b (c.2.2.2.2.1 - 1) c.2.2.2.1 c.2.1 c.2.2.1 c.2.2.2.2.2.1 c.2.2.2.2.2.2 else hi2a a b c.2.2.2.2.1 c.2.2.2.1 c.2.1 c.2.2.1 c.2.2.2.2.2.1 c.2.2.2.2.2.2
def hi3 (a b:Array Keyed) (c:HiC):SM (ForInStep HiC) :=
 (forIn [:a.size + b.size] ((none,c.2.1,c.2.2.1,c.2.2.2.1,0,0):HiA) fun _ d => hi1 a b c.2.2.2.2 d) >>= fun d => match d.1 with
   | some r => pure (ForInStep.done (some r,d.2.1,d.2.2.1,d.2.2.2.1,c.2.2.2.2))
   | none => liftM (rule "list.sort.gallop") >>= fun _ => (forIn [:a.size + b.size] ((none, d.2.1, d.2.2.1, d.2.2.2.1, c.2.2.2.2 + 1, d.2.2.2.2.1, d.2.2.2.2.2) : HiB) fun _ e => hi2 a b e) >>= fun e => match e.1 with
     | some r => pure (ForInStep.done (some r,e.2.1,e.2.2.1,e.2.2.2.1,e.2.2.2.2.1))
     | none => setG (e.2.2.2.2.1 + 1) >>= fun _ => pure (ForInStep.yield (none,e.2.1,e.2.2.1,e.2.2.2.1,e.2.2.2.2.1 + 1))
def mergeHi':Array Keyed -> Array Keyed -> SM (Array Keyed):=sortPriv% PySem.Builtin.mergeHi
theorem mergeHi'_eq (a b:Array Keyed):mergeHi' a b = (liftM (rule "list.sort.merge-hi") >>= fun _ => elem' a (a.size - 1) >>= fun z =>
   if (a.size - 1 == 0) = true then pure (dnH a b #[z] (a.size - 1) b.size) else if (b.size == 1) = true then pure (fsH a b #[z] (a.size - 1) b.size)
   else get >>= fun st => (forIn [:a.size + b.size] ((none,a.size - 1,b.size,#[z],gallopOf st):HiC) fun _ c => hi3 a b c) >>= fun c => match c.1 with
     | some r => pure r
     | none => liftM (unsupported "internal:list.sort.merge-bound")):=by
 show (_ >>= _:SM _) = _
 congr 1; funext u
 show (_ >>= _:SM _) = _
 congr 1; funext z
 by_cases h:(a.size - 1 == 0) = true
 · exact (if_pos h).trans (if_pos h).symm
 · refine (if_neg h).trans (Eq.trans ?_ (if_neg h).symm)
   by_cases h2:(b.size == 1) = true
   · exact (if_pos h2).trans (if_pos h2).symm
   · refine (if_neg h2).trans (Eq.trans ?_ (if_neg h2).symm)
     show (_ >>= _:SM _) = _
     congr 1; funext st
     show (_ >>= _:SM _) = _
     congr 1
     · congr 1; funext x c
       delta hi3
       show (_ >>= _:SM _) = _
       congr 1; funext d
       obtain ⟨r,d⟩:=d
       cases r
       · show (_ >>= _ : SM _) = _
         congr 1; funext v
         show (_ >>= _:SM _) = _
         congr 1; funext d
         obtain ⟨r,d⟩:=d
         cases r <;> rfl
       · rfl
     · funext c
       obtain ⟨r,d⟩:=c
       cases r <;> rfl
end L2
namespace L2
open PySem PyProof.Rows
abbrev MsH (κ:Keyed -> Int) (a b out:Array Keyed) (na nb:Nat):Prop:=Mst (fun x => - κ x) a.toList.reverse b.toList.reverse out.toList (a.size - na) (b.size - nb)
section
variable {S:Keyed -> Prop} {κ:Keyed -> Int} {a b out:Array Keyed} {na nb:Nat}
theorem wK {l:List Keyed} (h:l.Pairwise fun x y => κ x <= κ y):l.reverse.Pairwise fun x y => - κ x <= - κ y:=by
 rw [List.pairwise_reverse]
 exact h.imp fun h => by omega
theorem qH {l:List Keyed} {n:Nat} (h:n <= l.length):l.reverse.drop (l.length - n) = (l.take n).reverse:=by
 rw [List.drop_reverse,show l.length - (l.length - n) = n by omega]
theorem rev_seg {l:List Keyed} {n k:Nat} (h:n <= l.length) (hk:k <= n):(l.reverse.drop (l.length - n)).take (n - k) = ((l.drop k).take (n - k)).reverse:=by
 rw [qH h,List.take_reverse,List.length_take,show min n l.length - (n - k) = k by omega,List.drop_take]
theorem rext_l {a:Array Keyed} {k n:Nat} (h:n <= a.size) (hk:k <= n):((a.extract k n).reverse).toList = (a.toList.reverse.drop (a.size - n)).take (n - k):=by
 rw [Array.toList_reverse,Array.toList_extract,List.extract_eq_take_drop,← Array.length_toList,rev_seg (by simpa using h) hk]
theorem rmem_seg {a:Array Keyed} {k n:Nat} {x:Keyed} (h:n <= a.size) (hk:k <= n) (hx:x ∈ (a.toList.reverse.drop (a.size - n)).take (n - k)):∃ i,k <= i /\ i < n /\ κ x = kAt κ a i:=by
 rw [← Array.length_toList,rev_seg (by simpa using h) hk,List.mem_reverse] at hx
 obtain ⟨i,h1,h2,h3,h4⟩:=qZ hx
 exact ⟨i,h1,by omega,qP h4⟩
theorem vW {a:Array Keyed} {n:Nat} {x:Keyed} (h:n <= a.size) (hx:x ∈ a.toList.reverse.drop (a.size - n)):∃ i,i < n /\ κ x = kAt κ a i:=by
 rw [← Array.length_toList,qH (by simpa using h),List.mem_reverse] at hx
 rw [show a.toList.take n = (a.toList.drop 0).take n by simp] at hx
 obtain ⟨i,h1,h2,h3,h4⟩:=qZ hx
 exact ⟨i,by omega,qP h4⟩
theorem MsH.appA (H:MrH S κ a b) (ha:na <= a.size) (hb:nb <= b.size) (h:MsH κ a b out na nb) {k:Nat} (hk:k <= na) (hq:∀ i,k <= i -> i < na -> ∀ j,j < nb -> kAt κ b j <= kAt κ a i):MsH κ a b (out ++ (a.extract k na).reverse) k nb:=by
 have:=Mst.addA h (na - k) (wK (jS H.sa)) fun x hx y hy => by
   obtain ⟨i,h1,h2,h3⟩:=rmem_seg (κ:=κ) ha hk hx
   obtain ⟨j,g1,g2⟩:=vW (κ:=κ) hb hy
   have:=hq i h1 h2 j g1
   show - κ x <= - κ y
   omega
 rw [← rext_l ha hk,← Array.toList_append,show a.size - na + (na - k) = a.size - k by omega] at this
 exact this
theorem MsH.appB (H:MrH S κ a b) (ha:na <= a.size) (hb:nb <= b.size) (h:MsH κ a b out na nb) {k:Nat} (hk:k <= nb) (hq:∀ j,k <= j -> j < nb -> ∀ i,i < na -> kAt κ a i <= kAt κ b j):MsH κ a b (out ++ (b.extract k nb).reverse) na k:=by
 have:=Mst.addB h (nb - k) (wK (jS H.sb)) fun x hx y hy => by
   obtain ⟨i,h1,h2,h3⟩:=rmem_seg (κ:=κ) hb hk hx
   obtain ⟨j,g1,g2⟩:=vW (κ:=κ) ha hy
   have:=hq i h1 h2 j g1
   show - κ x <= - κ y
   omega
 rw [← rext_l hb hk,← Array.toList_append,show b.size - nb + (nb - k) = b.size - k by omega] at this
 exact this
theorem one_ext {a:Array Keyed} {n:Nat} {z:Keyed} (h1:1 <= n) (hz:a[n - 1]? = some z):(a.extract (n - 1) n).reverse.toList = [z]:=by
 have hz':a.toList[n - 1]? = some z:=by rw [Array.getElem?_toList]; exact hz
 rw [Array.toList_reverse,Array.toList_extract,List.extract_eq_take_drop,show n - (n - 1) = 1 by omega,← one_l hz']
 rfl
theorem MsH.pushA (H:MrH S κ a b) (ha:na <= a.size) (hb:nb <= b.size) (h:MsH κ a b out na nb) (h1:1 <= na) {z:Keyed} (hz:a[na - 1]? = some z) (hq:∀ j,j < nb -> kAt κ b j <= κ z):MsH κ a b (out.push z) (na - 1) nb:=by
 have:=h.appA H ha hb (k:=na - 1) (by omega) fun i g1 g2 j g3 => by
   have:i = na - 1:=by omega
   subst this
   rw [yN hz]; exact hq j g3
 rw [MsH,Array.toList_append,one_ext h1 hz,← ZN] at this
 exact this
theorem MsH.pushB (H:MrH S κ a b) (ha:na <= a.size) (hb:nb <= b.size) (h:MsH κ a b out na nb) (h1:1 <= nb) {z:Keyed} (hz:b[nb - 1]? = some z) (hq:∀ j,j < na -> kAt κ a j <= κ z):MsH κ a b (out.push z) na (nb - 1):=by
 have:=h.appB H ha hb (k:=nb - 1) (by omega) fun i g1 g2 j g3 => by
   have:i = nb - 1:=by omega
   subst this
   rw [yN hz]; exact hq j g3
 rw [MsH,Array.toList_append,one_ext h1 hz,← ZN] at this
 exact this
theorem mgd_rev {la lb ol:List Keyed} (h:Mgd (fun x => - κ x) la.reverse lb.reverse ol):Mgd κ la lb ol.reverse:=by
 refine ⟨?_,?_⟩
 · exact (List.reverse_perm _).trans (h.1.trans ((List.reverse_perm _).append (List.reverse_perm _)))
 · rw [List.pairwise_reverse]
   exact h.2.imp fun h => by dsimp only at h; omega
theorem ZH {a:Array Keyed} {n:Nat}:(a.extract 0 n).toList = a.toList.take n:=by simp
theorem MsH.dn (H:MrH S κ a b) (hb:nb <= b.size) (h:MsH κ a b out na nb) (h0:na = 0):MgA κ a b (dnH a b out na nb):=by
 subst h0
 have:=mgd_rev (h.endB (wK (jS H.sb)) (by simp))
 rw [← Array.length_toList (xs:=b),qH (by simpa using hb),List.reverse_append,List.reverse_reverse] at this
 rw [MgA,dnH,Array.toList_append,Array.toList_append,ZH,ZH,Array.toList_reverse,List.take_zero,List.nil_append]
 exact this
theorem MsH.fs (H:MrH S κ a b) (ha:na <= a.size) (h:MsH κ a b out na nb) (h0:nb = 1):MgA κ a b (fsH a b out na nb):=by
 subst h0
 have h1:=Mst.addA h a.size (wK (jS H.sa)) fun x hx y hy => by
   obtain ⟨i,h1,h2⟩:=vW (κ:=κ) ha (List.mem_of_mem_take hx)
   obtain ⟨j,g1,g2⟩:=vW (κ:=κ) H.nb hy
   have:j = 0:=by omega
   subst this
   have:=H.b0 i (by omega)
   show - κ x <= - κ y
   omega
 rw [List.take_of_length_le (l:=a.toList.reverse.drop (a.size - na)) (by simp)] at h1
 have:=mgd_rev (h1.endB (wK (jS H.sb)) (by simp))
 have e1:a.toList.reverse.drop (a.size - na) = (a.toList.take na).reverse:=by rw [← Array.length_toList,qH (by simpa using ha)]
 have e2:b.toList.reverse.drop (b.size - 1) = (b.toList.take 1).reverse:=by rw [← Array.length_toList,qH (by simpa using H.nb)]
 rw [e1,e2,List.reverse_append,List.reverse_append,List.reverse_reverse,List.reverse_reverse,← List.append_assoc] at this
 rw [MgA,fsH,Array.toList_append,Array.toList_append,ZH,ZH,Array.toList_reverse]
 exact this
end
def HiN (κ:Keyed -> Int) (a b:Array Keyed) (N:Nat) (r:Option (Array Keyed)) (out:Array Keyed) (na nb:Nat):Prop :=
 r = none /\ MsH κ a b out na nb /\ 1 <= na /\ 2 <= nb /\ na <= a.size /\ nb <= b.size /\ na + nb + N <= a.size + b.size
def HiG (κ:Keyed -> Int) (a b:Array Keyed) (N:Nat) (r:Option (Array Keyed)) (out:Array Keyed) (na nb:Nat):Prop :=
 (∃ x,r = some x /\ MgA κ a b x) \/ HiN κ a b N r out na nb
theorem hin {κ:Keyed -> Int} {a b out:Array Keyed} {N na nb:Nat} (h1:MsH κ a b out na nb) (h2:1 <= na) (h3:2 <= nb) (h4:na <= a.size) (h5:nb <= b.size) (h6:na + nb + N <= a.size + b.size):HiN κ a b N none out na nb:=⟨rfl,h1,h2,h3,h4,h5,h6⟩
section
variable {M:Model} {A:Around} {E:Value -> Shared -> Prop} {s:Shared} {st:SortSt} {kd:SortKind} {S:Keyed -> Prop} {κ:Keyed -> Int} {a b:Array Keyed}
theorem hi1_ok (C:CmpO M A E s kd S κ) (H:MrH S κ a b) (hk:kindOf st = kd) {N mg na nb ac bc:Nat} {out:Array Keyed} (h:HiN κ a b N none out na nb) :
   wpS M A E s (hi1 a b mg (none,na,nb,out,ac,bc)) (fun r st' => st' = st /\ match r with
     | .done c => HiG κ a b (N + 1) c.1 c.2.2.2.1 c.2.1 c.2.2.1
     | .yield c => HiN κ a b (N + 1) c.1 c.2.2.2.1 c.2.1 c.2.2.1) st:=by
 obtain ⟨-,h1,h2,h3,h4,h5,h6⟩:=h
 obtain ⟨x,ex,hx⟩:=xL (arr:=a) (i:=na - 1) (by omega)
 obtain ⟨y,ey,hy⟩:=xL (arr:=b) (i:=nb - 1) (by omega)
 unfold hi1
 refine wpS_bind (yJ ey (wpS_bind (yJ ex (wpS_bind (C.lt (H.mb y hy) (H.ma x hx) hk ?_)))))
 have kx:=yN (κ:=κ) ex
 have ky:=yN (κ:=κ) ey
 by_cases hl:κ y < κ x
 · simp only [hl, decide_true, if_true]
   refine wpS_bind (yJ ex ?_)
   have hn:MsH κ a b (out.push x) (na - 1) nb:=h1.pushA H h4 h5 h2 ex fun i g1 => by
     have:=H.sb i (nb - 1) (by omega) (by omega) (by omega)
     omega
   by_cases he:na - 1 = 0
   · rw [if_pos (by simpa using he)]
     exact wpS_pure ⟨rfl,.inl ⟨_,rfl,hn.dn H h5 he⟩⟩
   · rw [if_neg (by simpa using he)]
     split
     · exact wpS_pure ⟨rfl,.inr (hin (N:=N + 1) hn (by omega) (by omega) (by omega) (by omega) (by omega) :)⟩
     · exact wpS_pure ⟨rfl,(hin (N:=N + 1) hn (by omega) (by omega) (by omega) (by omega) (by omega) :)⟩
 · simp only [hl, decide_false, Bool.false_eq_true, if_false]
   refine wpS_bind (yJ ey ?_)
   have hn:MsH κ a b (out.push y) na (nb - 1):=h1.pushB H h4 h5 (by omega) ey fun i g1 => by
     have:=H.sa i (na - 1) (by omega) (by omega) (by omega)
     omega
   by_cases he:nb - 1 = 1
   · rw [if_pos (by simpa using he)]
     exact wpS_pure ⟨rfl,.inl ⟨_,rfl,hn.fs H h4 he⟩⟩
   · rw [if_neg (by simpa using he)]
     split
     · exact wpS_pure ⟨rfl,.inr (hin (N:=N + 1) hn (by omega) (by omega) (by omega) (by omega) (by omega) :)⟩
     · exact wpS_pure ⟨rfl,(hin (N:=N + 1) hn (by omega) (by omega) (by omega) (by omega) (by omega) :)⟩
abbrev Hi2Q (κ:Keyed -> Int) (a b:Array Keyed) (N:Nat) (st:SortSt) (r:ForInStep HiB) (st':SortSt):Prop:=SamS st st' /\ match r with
     | .done c => HiG κ a b N c.1 c.2.2.2.1 c.2.1 c.2.2.1
     | .yield c => HiN κ a b N c.1 c.2.2.2.1 c.2.1 c.2.2.1
theorem hi2c_ok {st0:SortSt} (H:MrH S κ a b) {N mg na nb ac bc:Nat} {out:Array Keyed} (hs:SamS st0 st) (h1:MsH κ a b out na nb) (h2:1 <= na) (h3:2 <= nb) (h4:na <= a.size) (h5:nb <= b.size) (h6:na + nb + N <= a.size + b.size)
   (hq:∀ j,j < nb -> kAt κ b j <= kAt κ a (na - 1)):wpS M A E s (hi2c a b mg out na nb ac bc) (Hi2Q κ a b N st0) st:=by
 obtain ⟨x,ex,hx⟩:=xL (arr:=a) (i:=na - 1) (by omega)
 unfold hi2c
 refine wpS_bind (yJ ex ?_)
 have kx:=yN (κ:=κ) ex
 have hn:MsH κ a b (out.push x) (na - 1) nb:=h1.pushA H h4 h5 h2 ex fun i g1 => by rw [← kx]; exact hq i g1
 by_cases he:na - 1 = 0
 · rw [if_pos (by simpa using he)]
   exact wpS_pure ⟨hs,.inl ⟨_,rfl,hn.dn H h5 he⟩⟩
 · rw [if_neg (by simpa using he)]
   split
   · exact wpS_pure ⟨hs,.inr (hin (N:=N) hn (by omega) (by omega) (by omega) (by omega) (by omega) :)⟩
   · exact wpS_pure ⟨hs,(hin (N:=N) hn (by omega) (by omega) (by omega) (by omega) (by omega) :)⟩
theorem hi2b_ok {st0:SortSt} (C:CmpO M A E s kd S κ) (H:MrH S κ a b) (hk:kindOf st = kd) {N mg na nb ac bc:Nat} {out:Array Keyed} (hs:SamS st0 st) (h1:MsH κ a b out na nb) (h2:1 <= na) (h3:2 <= nb) (h4:na <= a.size) (h5:nb <= b.size) (h6:na + nb + N <= a.size + b.size)
   (hq:∀ i,i < na -> kAt κ a i <= kAt κ b (nb - 1)):wpS M A E s (hi2b a b mg out na nb ac bc) (Hi2Q κ a b N st0) st:=by
 obtain ⟨y,ey,hy⟩:=xL (arr:=b) (i:=nb - 1) (by omega)
 obtain ⟨x,ex,hx⟩:=xL (arr:=a) (i:=na - 1) (by omega)
 unfold hi2b
 refine wpS_bind (yJ ey ?_)
 have ky:=yN (κ:=κ) ey
 have kx:=yN (κ:=κ) ex
 have hn:MsH κ a b (out.push y) na (nb - 1):=h1.pushB H h4 h5 (by omega) ey fun i g1 => by rw [← ky]; exact hq i g1
 by_cases he:nb - 1 = 1
 · rw [if_pos (by simpa using he)]
   exact wpS_pure ⟨hs,.inl ⟨_,rfl,hn.fs H h4 he⟩⟩
 · rw [if_neg (by simpa using he)]
   refine wpS_bind (yJ ex ?_)
   refine wpS_bind (YA C hk H.mb (H.ma x hx) (by omega) (fun p q r1 r2 r3 => H.sb p q (by omega) r2 (by omega)) (by omega) fun k g1 g2 g3 => ?_)
   dsimp only
   simp only [Nat.zero_add] at g2 g3
   have hk1:1 <= k:=by
     by_cases hc:1 <= k
     · exact hc
     · have := g3 0 (by omega) (by omega)
       have:=H.b0 (na - 1) (by omega)
       omega
   have hm:MsH κ a b (out.push y ++ (b.extract k (nb - 1)).reverse) na k:=hn.appB H h4 (by omega) g1 fun j r1 r2 i r3 => by
     have:=g3 j (by omega) (by omega)
     have:=H.sa i (na - 1) (by omega) (by omega) (by omega)
     omega
   have hr:∀ j,j < k -> kAt κ b j <= kAt κ a (na - 1):=fun j r1 => by
     have:=g2 j r1
     omega
   by_cases hz:nb - 1 - k > 0
   · rw [if_pos hz]
     by_cases he:k = 1
     · rw [if_pos (by simpa using he)]
       exact wpS_pure ⟨hs,.inl ⟨_,rfl,hm.fs H h4 he⟩⟩
     · rw [if_neg (by simpa using he), if_neg (by simp; omega)]
       exact hi2c_ok H hs hm h2 (by omega) h4 (by omega) (by omega) hr
   · rw [if_neg hz]
     have:k = nb - 1:=by omega
     subst this
     exact hi2c_ok H hs hn h2 (by omega) h4 (by omega) (by omega) hr
theorem hi2a_ok {st0:SortSt} (C:CmpO M A E s kd S κ) (H:MrH S κ a b) (hk:kindOf st = kd) {N mg na nb ac bc:Nat} {out:Array Keyed} (hs:SamS st0 st) (h1:MsH κ a b out na nb) (h2:1 <= na) (h3:2 <= nb) (h4:na <= a.size) (h5:nb <= b.size) (h6:na + nb + N <= a.size + b.size) :
   wpS M A E s (hi2a a b mg out na nb ac bc) (Hi2Q κ a b N st0) st:=by
 obtain ⟨y,ey,hy⟩:=xL (arr:=b) (i:=nb - 1) (by omega)
 unfold hi2a
 rw [vU]
 refine wpS_bind (wpS_modify (wpS_bind (yJ ey ?_)))
 have hs':=hs.gal mg
 have hk':kindOf (ZL st mg) = kd:=hk
 have ky:=yN (κ:=κ) ey
 refine wpS_bind (ZZ C hk' H.ma (H.mb y hy) (by omega) (fun p q r1 r2 r3 => H.sa p q (by omega) r2 (by omega)) (by omega) fun k g1 g2 g3 => ?_)
 dsimp only
 simp only [Nat.zero_add] at g2 g3
 have hm:MsH κ a b (out ++ (a.extract k na).reverse) k nb:=h1.appA H h4 h5 g1 fun j r1 r2 i r3 => by
   have:=g3 j (by omega) (by omega)
   have:=H.sb i (nb - 1) (by omega) (by omega) (by omega)
   omega
 have hr:∀ j,j < k -> kAt κ a j <= kAt κ b (nb - 1):=fun j r1 => by
   have:=g2 j r1
   omega
 by_cases hz:na - k > 0
 · rw [if_pos hz]
   by_cases he:k = 0
   · rw [if_pos (by simpa using he)]
     exact wpS_pure ⟨hs',.inl ⟨_,rfl,hm.dn H h5 he⟩⟩
   · rw [if_neg (by simpa using he)]
     exact hi2b_ok C H hk' hs' hm (by omega) h3 (by omega) h5 (by omega) hr
 · rw [if_neg hz]
   have:k = na:=by omega
   subst this
   exact hi2b_ok C H hk' hs' h1 h2 h3 h4 h5 (by omega) hr
theorem hi2_ok {st0:SortSt} (C:CmpO M A E s kd S κ) (H:MrH S κ a b) (hk:kindOf st = kd) {N mg na nb ac bc:Nat} {out:Array Keyed} (hs:SamS st0 st) (h:HiN κ a b N none out na nb) :
   wpS M A E s (hi2 a b (none,na,nb,out,mg,ac,bc)) (Hi2Q κ a b N st0) st:=by
 obtain ⟨-,h1,h2,h3,h4,h5,h6⟩:=h
 unfold hi2
 dsimp only
 split
 · exact hi2a_ok C H hk hs h1 h2 h3 h4 h5 h6
 · exact hi2a_ok C H hk hs h1 h2 h3 h4 h5 h6
theorem hi3_ok {st0:SortSt} (C:CmpO M A E s kd S κ) (H:MrH S κ a b) (hk0:kindOf st0 = kd) {N mg na nb:Nat} {out:Array Keyed} (hs:SamS st0 st) (h:HiN κ a b N none out na nb) :
   wpS M A E s (hi3 a b (none,na,nb,out,mg)) (fun r st' => SamS st0 st' /\ match r with
     | .done c => ∃ x,c.1 = some x /\ MgA κ a b x
     | .yield c => HiN κ a b (N + 1) c.1 c.2.2.2.1 c.2.1 c.2.2.1) st:=by
 unfold hi3
 dsimp only
 refine wpS_bind (wpS_mono (wpS_forRange
   (I:=fun x c st' => st' = st /\ HiN κ a b (N + x) c.1 c.2.2.2.1 c.2.1 c.2.2.1)
   (Q:=fun c st' => st' = st /\ HiG κ a b (N + 1) c.1 c.2.2.2.1 c.2.1 c.2.2.1) ?step ?fin ⟨rfl,h⟩) ?post)
 case fin =>
   rintro c st' ⟨rfl,h1,h2,h3,h4,h5,h6,h7⟩
   have:=H.na
   exact ⟨rfl,.inr ⟨h1,h2,h3,h4,h5,h6,by omega⟩⟩
 case step =>
   rintro x ⟨r,na,nb,out,ac,bc⟩ st' _ hx ⟨rfl,hc⟩
   have hr:r = none:=hc.1
   subst hr
   refine wpS_mono (hi1_ok C H (hs.kind.trans hk0) hc) ?_
   rintro (c | c) st'' ⟨rfl,h'⟩
   · refine ⟨rfl, ?_⟩
     rcases h' with h' | ⟨a1,a2,a3,a4,a5,a6,a7⟩
     · exact .inl h'
     · exact .inr ⟨a1,a2,a3,a4,a5,a6,by omega⟩
   · exact ⟨rfl,h'⟩
 case post =>
   rintro ⟨r,na,nb,out,ac,bc⟩ st' ⟨rfl,hc⟩
   rcases hc with ⟨x,hx,hg⟩ | hc
   · have hx : r = some x := hx
     subst hx
     exact wpS_pure ⟨hs,x,rfl,hg⟩
   · have hr : r = none := hc.1
     subst hr
     dsimp only
     refine wpS_bind (wpS_lift (wpAny_rule ⟨rfl,?_⟩))
     refine wpS_bind (wpS_mono (wpS_forRange
       (I:=fun x c st' => SamS st0 st' /\ HiN κ a b (N + 1) c.1 c.2.2.2.1 c.2.1 c.2.2.1)
       (Q:=fun c st' => SamS st0 st' /\ HiG κ a b (N + 1) c.1 c.2.2.2.1 c.2.1 c.2.2.1) ?_ ?_ ⟨hs,hc⟩) ?_)
     · rintro x ⟨r, na, nb, out, mg, ac, bc⟩ st' _ hx ⟨hs', hc⟩
       have hr:r = none:=hc.1
       subst hr
       refine wpS_mono (hi2_ok C H (hs'.kind.trans hk0) hs' hc) ?_
       rintro (c | c) st'' h' <;> exact h'
     · rintro c st' ⟨h1, h2⟩
       exact ⟨h1,.inr h2⟩
     · rintro ⟨r, na, nb, out, mg, ac, bc⟩ st' ⟨hs', hc⟩
       rcases hc with ⟨x,hx,hg⟩ | hc
       · have hx : r = some x := hx
         subst hx
         exact wpS_pure ⟨hs',x,rfl,hg⟩
       · have hr : r = none := hc.1
         subst hr
         dsimp only
         rw [vU]
         exact wpS_bind (wpS_modify (wpS_pure ⟨hs'.gal _,hc⟩))
theorem mergeHi_ok (C:CmpO M A E s kd S κ) (H:MrH S κ a b) (hk:kindOf st = kd) {Q:Array Keyed -> SortSt -> Prop} (h:∀ out st',SamS st st' -> MgA κ a b out -> Q out st'):wpS M A E s (mergeHi' a b) Q st:=by
 have h0:=H.na
 have h0':=H.nb
 obtain ⟨x,ex,hx⟩:=xL (arr:=a) (i:=a.size - 1) (by omega)
 rw [mergeHi'_eq]
 refine wpS_bind (wpS_lift (wpAny_rule ⟨rfl,?_⟩))
 refine wpS_bind (yJ ex ?_)
 have kx:=yN (κ:=κ) ex
 have hn:MsH κ a b #[x] (a.size - 1) b.size:=by
   have h00:MsH κ a b #[] a.size b.size:=by
     show Mst _ _ _ _ _ _
     rw [Nat.sub_self,Nat.sub_self]
     exact Mst.nil
   have:=h00.pushA H (Nat.le_refl _) (Nat.le_refl _) h0 ex fun i g1 => by
     have:=H.al i g1
     omega
   simpa using this
 by_cases he:a.size - 1 = 0
 · rw [if_pos (by simpa using he)]
   exact wpS_pure (h _ _ .rfl' (hn.dn H (Nat.le_refl _) he))
 · rw [if_neg (by simpa using he)]
   by_cases he2:b.size = 1
   · rw [if_pos (by simpa using he2)]
     exact wpS_pure (h _ _ .rfl' (hn.fs H (by omega) he2))
   · rw [if_neg (by simpa using he2)]
     refine wpS_bind (wpS_get ?_)
     refine wpS_bind (wpS_mono (wpS_forRange
       (I:=fun x c st' => SamS st st' /\ HiN κ a b (x + 1) c.1 c.2.2.2.1 c.2.1 c.2.2.1)
       (Q:=fun c st' => SamS st st' /\ ∃ x,c.1 = some x /\ MgA κ a b x) ?_ ?_ ⟨.rfl',(hin (N:=0 + 1) hn (by omega) (by omega) (by omega) (by omega) (by omega) :)⟩) ?_)
     · rintro x ⟨r, na, nb, out, mg⟩ st' _ hx ⟨hs', hc⟩
       have hr:r = none:=hc.1
       subst hr
       refine wpS_mono (hi3_ok C H hk hs' hc) ?_
       rintro (c | c) st'' ⟨h1,h2⟩
       · exact ⟨h1,h2⟩
       · exact ⟨h1,h2⟩
     · rintro c st' ⟨h1, -, h2, h3, h4, h5, h6, h7⟩
       omega
     · rintro ⟨r, c⟩ st' ⟨h1, x, hx, hg⟩
       have hx:r = some x:=hx
       subst hx
       exact wpS_pure (h _ _ h1 hg)
end
end L2
namespace L2
open PySem PyProof.Rows
def wrF (sa:Nat) (l:List (Keyed × Nat)) (xs:Array Keyed):Array Keyed:=l.foldl (fun a x => a.setIfInBounds (sa + x.2) x.1) xs
theorem wrF_at (sa:Nat):∀ (ms:List Keyed) (n:Nat) (xs:Array Keyed),sa + n + ms.length <= xs.size -> ∀ k,(wrF sa (ms.zipIdx n) xs)[k]? = if sa + n <= k /\ k < sa + n + ms.length then ms[k - (sa + n)]? else xs[k]?
 | [], n, xs, h, k => by
   rw [if_neg (by simp only [List.length_nil]; omega)]; rfl
 | m :: ms, n, xs, h, k => by
   rw [List.zipIdx_cons]
   show (wrF sa (ms.zipIdx (n + 1)) (xs.setIfInBounds (sa + n) m))[k]? = _
   simp only [List.length_cons] at h ⊢
   rw [wrF_at sa ms (n + 1) _ (by rw [Array.size_setIfInBounds]; omega) k,Array.getElem?_setIfInBounds]
   by_cases h1:sa + n = k
   · rw [if_neg (by omega), if_pos h1, if_pos (by omega), if_pos (by omega)]
     rw [show k - (sa + n) = 0 by omega]; rfl
   · rw [if_neg h1]
     by_cases h2:sa + (n + 1) <= k /\ k < sa + (n + 1) + ms.length
     · rw [if_pos h2,if_pos (by omega),show k - (sa + n) = (k - (sa + (n + 1))) + 1 by omega]; rfl
     · rw [if_neg h2,if_neg (by omega)]
theorem wrF_l {sa:Nat} {ms:List Keyed} {xs:Array Keyed} (h:sa + ms.length <= xs.size):(wrF sa ms.zipIdx xs).toList = xs.toList.take sa ++ ms ++ xs.toList.drop (sa + ms.length):=by
 apply List.ext_getElem?
 intro k
 rw [Array.getElem?_toList,wrF_at sa ms 0 xs (by omega) k]
 simp only [Nat.add_zero]
 have hl:(xs.toList.take sa).length = sa:=by rw [List.length_take,Array.length_toList]; omega
 by_cases h1:k < sa
 · rw [if_neg (by omega),List.append_assoc,List.getElem?_append_left (by omega),List.getElem?_take,if_pos h1,Array.getElem?_toList]
 · by_cases h2 : k < sa + ms.length
   · rw [if_pos (by omega),List.getElem?_append_left (by rw [List.length_append]; omega),List.getElem?_append_right (by omega),hl]
   · rw [if_neg (by omega), List.getElem?_append_right (by rw [List.length_append]; omega), List.length_append, hl, List.getElem?_drop, Array.getElem?_toList]
     congr 1; omega
theorem wrF_perm {sa:Nat} {ms:List Keyed} {xs:Array Keyed} (h:sa + ms.length <= xs.size) (hp:ms.Perm ((xs.toList.drop sa).take ms.length)):(wrF sa ms.zipIdx xs).toList.Perm xs.toList:=by
 rw [wrF_l h]
 have e:xs.toList = xs.toList.take sa ++ (xs.toList.drop sa).take ms.length ++ xs.toList.drop (sa + ms.length):=by
   rw [List.append_assoc,← List.drop_drop,List.take_append_drop,List.take_append_drop]
 exact ((hp.append_left _).append_right _).trans (by rw [← e])
structure SB (kd:SortKind) (a₀:Array Keyed) (st:SortSt):Prop where
 perm:(arrOf st).toList.Perm a₀.toList
 kind:kindOf st = kd
 fail:failedOf st = none
section
variable {M:Model} {A:Around} {E:Value -> Shared -> Prop} {s:Shared} {st:SortSt} {kd:SortKind} {S:Keyed -> Prop} {κ:Keyed -> Int} {a₀:Array Keyed}
theorem SB.size (h:SB kd a₀ st):(arrOf st).size = a₀.size:=by
 have:=h.perm.length_eq
 simpa using this
theorem SB.mem (h:SB kd a₀ st) (h0:∀ p,p ∈ a₀.toList -> S p):∀ p,p ∈ (arrOf st).toList -> S p:=fun p hp => h0 p (h.perm.mem_iff.mp hp)
theorem SB.setArr (h:SB kd a₀ st) {xs:Array Keyed} (hp:xs.toList.Perm (arrOf st).toList):SB kd a₀ (setArr st xs):=⟨hp.trans h.perm,h.kind,h.fail⟩
theorem wpS_set {st':SortSt} {Q:PUnit -> SortSt -> Prop} (h:Q ⟨⟩ st'):wpS M A E s (set st':SM PUnit) Q st:=by
 unfold wpS; rw [StateT.run_set]; exact wpAny_pure ⟨rfl,h⟩
end
def mgC (sa:Nat) (ms:Array Keyed):SM Bool:=modify (fun s => setArr s (wrF sa ms.toList.zipIdx (arrOf s))) >>= fun _ => get >>= fun s => pure (failedOf s).isNone
def mgB (st:SortSt) (sa na sb nb:Nat):SM Bool :=
 if (na == 0) = true then pure true else elem' (arrOf st) (sa + na - 1) >>= fun key => gallop' true key (arrOf st) sb nb (nb - 1) >>= fun o => match o with
   | some nb => if (nb == 0) = true then pure true else if na <= nb then mergeLo' ((arrOf st).extract sa sb) ((arrOf st).extract sb (sb + nb)) >>= fun m => mgC sa m else mergeHi' ((arrOf st).extract sa sb) ((arrOf st).extract sb (sb + nb)) >>= fun m => mgC sa m
   | _ => pure false
def mgA (st:SortSt) (i sa na pw sb nb:Nat):SM Bool :=
 set (setPending st (((pendingOf st).setIfInBounds i (sa,na + nb,pw)).eraseIdxIfInBounds (i + 1))) >>= fun _ => elem' (arrOf st) sb >>= fun key => gallop' false key (arrOf st) sa na 0 >>= fun o => match o with
   | some k => mgB st (sa + k) (na - k) sb nb
   | _ => pure false
theorem mergeAt'_eq (i:Nat):mergeAt' i = (get >>= fun st => match ((pendingOf st)[i]?,(pendingOf st)[i + 1]?) with
   | (some (sa,na,pw),some (sb,nb,_)) => mgA st i sa na pw sb nb
   | _ => liftM (unsupported "internal:list.sort.pending")):=rfl
end L2
namespace L2
open PySem PyProof.Rows
section
variable {M:Model} {A:Around} {E:Value -> Shared -> Prop} {s:Shared} {st:SortSt} {kd:SortKind} {S:Keyed -> Prop} {κ:Keyed -> Int} {a₀:Array Keyed}
theorem ext_at {xs:Array Keyed} {i j k:Nat} (h:i + k < j):(xs.extract i j)[k]? = xs[i + k]?:=by
 rw [Array.getElem?_extract]
 split
 · rfl
 · next h1 => rw [Array.getElem?_eq_none (by omega)]
theorem vN {xs:Array Keyed} {i j k:Nat} (h:i + k < j):kAt κ (xs.extract i j) k = kAt κ xs (i + k):=jG (ext_at h)
theorem ext_mem {xs:Array Keyed} {i j:Nat} {p:Keyed} (h:p ∈ (xs.extract i j).toList):p ∈ xs.toList:=by
 rw [Array.toList_extract,List.extract_eq_take_drop] at h
 exact List.mem_of_mem_drop (List.mem_of_mem_take h)
theorem ext_idx {xs:Array Keyed} {i j:Nat} (hj:j <= xs.size) {p:Keyed} (h:p ∈ (xs.extract i j).toList):∃ t,i <= t /\ t < j /\ κ p = kAt κ xs t:=by
 rw [Array.toList_extract,List.extract_eq_take_drop] at h
 obtain ⟨t,h1,h2,h3,h4⟩:=qZ h
 exact ⟨t,h1,by omega,qP h4⟩
theorem mgC_ok {st':SortSt} {sa na sb nb k n2:Nat} {ms:Array Keyed} {Q:Bool -> SortSt -> Prop} (hB:SB kd a₀ st') (harr:arrOf st' = arrOf st)
   (hsb:sb = sa + na) (hle:sb + nb <= (arrOf st).size) (hsA:xJ κ (arrOf st) sa (sa + na)) (hsB:xJ κ (arrOf st) sb (sb + nb)) (hk:k < na) (hn2:n2 <= nb) (hn0:0 < n2)
   (hg1:∀ i,i < k -> kAt κ (arrOf st) (sa + i) <= kAt κ (arrOf st) sb) (hg2:∀ i,n2 <= i -> i < nb -> kAt κ (arrOf st) (sb - 1) <= kAt κ (arrOf st) (sb + i))
   (hm:MgA κ ((arrOf st).extract (sa + k) sb) ((arrOf st).extract sb (sb + n2)) ms)
   (h:∀ st'',SB kd a₀ st'' -> pendingOf st'' = pendingOf st' -> xJ κ (arrOf st'') sa (sb + nb) -> (∀ j,j < sa \/ sb + nb <= j -> (arrOf st'')[j]? = (arrOf st)[j]?) -> Q true st''):wpS M A E s (mgC (sa + k) ms) Q st':=by
 unfold mgC
 have hlen:ms.toList.length = na - k + n2:=by
   rw [hm.1.length_eq,List.length_append,Array.length_toList,Array.length_toList,Array.size_extract,Array.size_extract]
   omega
 have e1:ms.toList.Perm (((arrOf st).toList.drop (sa + k)).take ms.toList.length):=by
   refine hm.1.trans (List.Perm.of_eq ?_)
   rw [hlen,Array.toList_extract,Array.toList_extract,List.extract_eq_take_drop,List.extract_eq_take_drop,List.take_add,List.drop_drop,show sa + k + (na - k) = sb by omega,show sb - (sa + k) = na - k by omega,Nat.add_sub_cancel_left]
 have hfit:(sa + k) + ms.toList.length <= (arrOf st).size:=by omega
 refine wpS_bind (wpS_modify ?_)
 refine wpS_bind (wpS_get ?_)
 have hB2:SB kd a₀ (setArr st' (wrF (sa + k) ms.toList.zipIdx (arrOf st'))):=hB.setArr (by rw [harr]; exact wrF_perm hfit e1)
 have hf:(failedOf (setArr st' (wrF (sa + k) ms.toList.zipIdx (arrOf st')))).isNone = true:=by rw [hB2.fail]; rfl
 rw [hf]
 have hat:=wrF_at (sa + k) ms.toList 0 (arrOf st) (by omega)
 simp only [Nat.add_zero,hlen] at hat
 have hmi:∀ p,sa + k <= p -> p < sb + n2 -> ∃ t,sa + k <= t /\ t < sb + n2 /\ kAt κ (wrF (sa + k) ms.toList.zipIdx (arrOf st)) p = kAt κ (arrOf st) t:=by
   intro p h1 h2
   have e:=hat p
   rw [if_pos (by omega)] at e
   have hlt:p - (sa + k) < ms.toList.length:=by omega
   rw [List.getElem?_eq_getElem hlt] at e
   have hin:ms.toList[p - (sa + k)] ∈ ms.toList:=List.getElem_mem _
   rw [hm.1.mem_iff,List.mem_append] at hin
   rw [yN e]
   rcases hin with hin | hin
   · obtain ⟨t, b1, b2, b3⟩ := ext_idx (κ := κ) (by omega) hin
     exact ⟨t,b1,by omega,b3⟩
   · obtain ⟨t, b1, b2, b3⟩ := ext_idx (κ := κ) (by omega) hin
     exact ⟨t,by omega,b2,b3⟩
 have hou:∀ p,p < sa + k \/ sb + n2 <= p -> (wrF (sa + k) ms.toList.zipIdx (arrOf st))[p]? = (arrOf st)[p]?:=fun p hp => by rw [hat,if_neg (by omega)]
 have hok:∀ p,p < sa + k \/ sb + n2 <= p -> kAt κ (wrF (sa + k) ms.toList.zipIdx (arrOf st)) p = kAt κ (arrOf st) p:=fun p hp => jG (hou p hp)
 have hlo:∀ p t,sa <= p -> p < sa + k -> p <= t -> t < sb + nb -> kAt κ (arrOf st) p <= kAt κ (arrOf st) t:=by
   intro p t h1 h2 h3 h4
   by_cases ht:t < sb
   · exact hsA p t h1 h3 (by omega)
   · have := hg1 (p - sa) (by omega)
     rw [show sa + (p - sa) = p by omega] at this
     have:=hsB sb t (by omega) (by omega) h4
     omega
 have hhi:∀ t q,sa <= t -> t <= q -> sb + n2 <= q -> q < sb + nb -> kAt κ (arrOf st) t <= kAt κ (arrOf st) q:=by
   intro t q h1 h2 h3 h4
   by_cases ht:t < sb
   · have := hsA t (sb - 1) h1 (by omega) (by omega)
     have:=hg2 (q - sb) (by omega) (by omega)
     rw [show sb + (q - sb) = q by omega] at this
     omega
   · exact hsB t q (by omega) h2 h4
 refine wpS_pure (h _ hB2 rfl ?_ ?_)
 · show xJ κ (wrF (sa + k) ms.toList.zipIdx (arrOf st')) sa (sb + nb)
   rw [harr]
   intro p q h1 h2 h3
   by_cases hp:p < sa + k
   · rw [hok p (.inl hp)]
     by_cases hq:sa + k <= q /\ q < sb + n2
     · obtain ⟨t, b1, b2, b3⟩ := hmi q hq.1 hq.2
       rw [b3]; exact hlo p t h1 hp (by omega) (by omega)
     · rw [hok q (by omega)]; exact hlo p q h1 hp h2 h3
   · by_cases hq : sb + n2 <= q
     · rw [hok q (.inr hq)]
       by_cases hp2:sb + n2 <= p
       · rw [hok p (.inr hp2)]; exact hhi p q h1 h2 hq h3
       · obtain ⟨t, b1, b2, b3⟩ := hmi p (by omega) (by omega)
         rw [b3]; exact hhi t q (by omega) (by omega) hq h3
     · have ep := hat p
       have eq:=hat q
       rw [if_pos (by omega),List.getElem?_eq_getElem (by omega)] at ep eq
       rw [yN ep,yN eq]
       by_cases hpq:p = q
       · subst hpq; exact Int.le_refl _
       · exact (List.pairwise_iff_getElem.mp hm.2) _ _ _ _ (by omega)
 · intro j hj
   show (wrF (sa + k) ms.toList.zipIdx (arrOf st'))[j]? = _
   rw [harr]; exact hou j (by omega)
theorem mergeAt_ok {i sa na pw sb nb w:Nat} {Q:Bool -> SortSt -> Prop} (C:CmpO M A E s kd S κ) (h0:∀ p,p ∈ a₀.toList -> S p) (hB:SB kd a₀ st)
   (h1:(pendingOf st)[i]? = some (sa,na,pw)) (h2:(pendingOf st)[i + 1]? = some (sb,nb,w)) (hna:1 <= na) (hnb:1 <= nb)
   (hsb:sb = sa + na) (hle:sb + nb <= a₀.size) (hsA:xJ κ (arrOf st) sa (sa + na)) (hsB:xJ κ (arrOf st) sb (sb + nb))
   (h:∀ st',SB kd a₀ st' -> pendingOf st' = ((pendingOf st).setIfInBounds i (sa,na + nb,pw)).eraseIdxIfInBounds (i + 1) -> xJ κ (arrOf st') sa (sb + nb) -> (∀ j,j < sa \/ sb + nb <= j -> (arrOf st')[j]? = (arrOf st)[j]?) -> Q true st') :
   wpS M A E s (mergeAt' i) Q st:=by
 have hsz:=hB.size
 rw [mergeAt'_eq]
 refine wpS_bind (wpS_get ?_)
 rw [h1,h2]
 dsimp only
 unfold mgA
 refine wpS_bind (wpS_set ?_)
 have hB1:SB kd a₀ (setPending st (((pendingOf st).setIfInBounds i (sa,na + nb,pw)).eraseIdxIfInBounds (i + 1))):=⟨hB.perm,hB.kind,hB.fail⟩
 obtain ⟨y,ey,hy⟩:=xL (arr:=arrOf st) (i:=sb) (by omega)
 have ky:=yN (κ:=κ) ey
 refine wpS_bind (yJ ey ?_)
 refine wpS_bind (ZZ C hB1.kind (hB.mem h0) (hB.mem h0 y hy) (by omega) hsA (by omega) fun k g1 g2 g3 => ?_)
 dsimp only
 unfold mgB
 by_cases hk:na - k = 0
 · rw [if_pos (by simpa using hk)]
   refine wpS_pure (h _ hB1 rfl ?_ fun j _ => rfl)
   intro p q b1 b2 b3
   show kAt κ (arrOf st) p <= kAt κ (arrOf st) q
   by_cases hq:q < sb
   · exact hsA p q b1 b2 (by omega)
   · by_cases hp : p < sb
     · have := g2 (p - sa) (by omega)
       rw [show sa + (p - sa) = p by omega] at this
       have:=hsB sb q (by omega) (by omega) b3
       omega
     · exact hsB p q (by omega) b2 b3
 · rw [if_neg (by simpa using hk)]
   obtain ⟨x,ex,hx⟩:=xL (arr:=arrOf st) (i:=sa + k + (na - k) - 1) (by omega)
   have kx:=yN (κ:=κ) ex
   have ee:sa + k + (na - k) - 1 = sb - 1:=by omega
   refine wpS_bind (yJ ex ?_)
   refine wpS_bind (YA C hB1.kind (hB.mem h0) (hB.mem h0 x hx) (by omega) hsB (by omega) fun n2 g4 g5 g6 => ?_)
   dsimp only
   rw [← kx,ee] at g5 g6
   rw [← ky] at g2 g3
   by_cases hn:n2 = 0
   · rw [if_pos (by simpa using hn)]
     refine wpS_pure (h _ hB1 rfl ?_ fun j _ => rfl)
     intro p q b1 b2 b3
     show kAt κ (arrOf st) p <= kAt κ (arrOf st) q
     by_cases hq:q < sb
     · exact hsA p q b1 b2 (by omega)
     · by_cases hp : p < sb
       · have := hsA p (sb - 1) b1 (by omega) (by omega)
         have:=g6 (q - sb) (by omega) (by omega)
         rw [show sb + (q - sb) = q by omega] at this
         omega
       · exact hsB p q (by omega) b2 b3
   · rw [if_neg (by simpa using hn)]
     have hzA:((arrOf st).extract (sa + k) sb).size = na - k:=by rw [Array.size_extract]; omega
     have hzB:((arrOf st).extract sb (sb + n2)).size = n2:=by rw [Array.size_extract]; omega
     have H:MrH S κ ((arrOf st).extract (sa + k) sb) ((arrOf st).extract sb (sb + n2)):=by
       refine ⟨?_,?_,fun p hp => hB.mem h0 p (ext_mem hp),fun p hp => hB.mem h0 p (ext_mem hp),by omega,by omega,?_,?_⟩
       · intro p q b1 b2 b3
         rw [hzA] at b3
         rw [vN (by omega),vN (by omega)]
         exact hsA _ _ (by omega) (by omega) (by omega)
       · intro p q b1 b2 b3
         rw [hzB] at b3
         rw [vN (by omega),vN (by omega)]
         exact hsB _ _ (by omega) (by omega) (by omega)
       · intro j hj
         rw [hzA] at hj
         rw [vN (by omega),vN (by omega)]
         have:=g3 (k + j) (by omega) (by omega)
         rw [show sa + (k + j) = sa + k + j by omega] at this
         simpa using this
       · intro j hj
         rw [hzB] at hj
         rw [hzA,vN (by omega),vN (by omega),show sa + k + (na - k - 1) = sb - 1 by omega]
         exact g5 j hj
     have fin:∀ out st',SamS (setPending st (((pendingOf st).setIfInBounds i (sa,na + nb,pw)).eraseIdxIfInBounds (i + 1))) st' -> MgA κ ((arrOf st).extract (sa + k) sb) ((arrOf st).extract sb (sb + n2)) out -> wpS M A E s (mgC (sa + k) out) Q st':=by
       intro out st' hs hm
       refine mgC_ok (st:=st) (na:=na) (nb:=nb) ⟨by rw [hs.arr]; exact hB.perm,by rw [hs.kind]; exact hB.kind,by rw [hs.fail]; exact hB.fail⟩ hs.arr hsb (by omega) hsA hsB (by omega) g4 (by omega) g2 g6 hm fun st'' b1 b2 b3 b4 => h st'' b1 (b2.trans hs.pend) b3 b4
     split
     · exact wpS_bind (mergeLo_ok C H hB1.kind fun out st' a1 a2 => fin out st' a1 a2)
     · exact wpS_bind (mergeHi_ok C H hB1.kind fun out st' a1 a2 => fin out st' a1 a2)
end
end L2
namespace L2
open PySem PyProof.Rows
def NiB (κ:Keyed -> Int) (xs:Array Keyed) (i j:Nat):Prop:=∀ p q,i <= p -> p <= q -> q < j -> kAt κ xs q <= kAt κ xs p
abbrev AsT:=Option (Option Nat) × Nat
abbrev DsT:=Option (Option Nat) × Nat × Nat
def ascB (lo a nrem:Nat):SM AsT:=forIn [a:nrem] ((none,a):AsT) fun _ c => ltAt' (lo + c.2) (lo + c.2 - 1) >>= fun o => match o with
 | some b => if b = true then pure (ForInStep.done (none,c.2)) else pure (ForInStep.yield (none,c.2 + 1))
 | _ => pure (ForInStep.done (some none,c.2))
def talB (lo n nrem:Nat):SM (Option Nat):=reverseSlice' lo (lo + n) >>= fun _ => ascB lo n nrem >>= fun c => match c.1 with
 | some r => pure r
 | none => pure (some c.2)
def dscB (lo n nrem:Nat):SM DsT:=forIn [n:nrem] ((none,n,0):DsT) fun _ c => ltAt' (lo + c.2.1) (lo + c.2.1 - 1) >>= fun o => match o with
 | some b => if b = true then (if c.2.2 > 0 then reverseSlice' (lo + c.2.1 - (c.2.2 + 1)) (lo + c.2.1) >>= fun _ => pure (ForInStep.yield (none,c.2.1 + 1,0)) else pure (ForInStep.yield (none,c.2.1 + 1,0)))
     else ltAt' (lo + c.2.1 - 1) (lo + c.2.1) >>= fun o => match o with
       | some b => if b = true then pure (ForInStep.done (none,c.2.1,c.2.2)) else pure (ForInStep.yield (none,c.2.1 + 1,c.2.2 + 1))
       | _ => pure (ForInStep.done (some none,c.2.1,c.2.2))
 | _ => pure (ForInStep.done (some none,c.2.1,c.2.2))
def dptB (lo n nrem:Nat):SM (Option Nat):=liftM (rule "list.sort.descending-run") >>= fun _ => dscB lo (n + 1) nrem >>= fun c => match c.1 with
 | some r => pure r
 | none => if c.2.2 > 0 then reverseSlice' (lo + c.2.1 - (c.2.2 + 1)) (lo + c.2.1) >>= fun _ => talB lo c.2.1 nrem else talB lo c.2.1 nrem
theorem countB_eq (lo nrem:Nat):countRun' lo nrem = (ascB lo 1 nrem >>= fun c => match c.1 with
   | some r => pure r
   | none => if (c.2 == nrem) = true then pure (some c.2) else if c.2 > 1 then (ltAt' lo (lo + c.2 - 1) >>= fun o => match o with
       | some b => if b = true then pure (some c.2) else reverseSlice' lo (lo + c.2) >>= fun _ => dptB lo c.2 nrem
       | _ => pure none) else dptB lo c.2 nrem):=by
 rw [countRun'_eq]
 show (_ >>= _:SM _) = _
 congr 1; funext c
 obtain ⟨r,n⟩:=c
 cases r with
 | some r => rfl
 | none =>
   dsimp only
   split
   · rfl
   · split
     · congr 1; funext x
       cases x with
       | none => rfl
       | some rose =>
         dsimp only
         split
         · rfl
         · congr 1; funext _
           unfold dptB
           congr 1; funext _
           show (_ >>= _:SM _) = _
           congr 1; funext c
           obtain ⟨r,m,q⟩:=c
           cases r with
           | some r => rfl
           | none =>
             dsimp only
             split
             · congr 1; funext _
               unfold talB
               congr 1; funext _
               show (_ >>= _:SM _) = _
               congr 1; funext c
               obtain ⟨r,m⟩:=c
               cases r <;> rfl
             · unfold talB
               congr 1; funext _
               show (_ >>= _:SM _) = _
               congr 1; funext c
               obtain ⟨r,m⟩:=c
               cases r <;> rfl
     · unfold dptB
       congr 1; funext _
       show (_ >>= _:SM _) = _
       congr 1; funext c
       obtain ⟨r,m,q⟩:=c
       cases r with
       | some r => rfl
       | none =>
         dsimp only
         split
         · congr 1; funext _
           unfold talB
           congr 1; funext _
           show (_ >>= _:SM _) = _
           congr 1; funext c
           obtain ⟨r,m⟩:=c
           cases r <;> rfl
         · unfold talB
           congr 1; funext _
           show (_ >>= _:SM _) = _
           congr 1; funext c
           obtain ⟨r,m⟩:=c
           cases r <;> rfl
end L2
namespace L2
open PySem PyProof.Rows
structure SBr (kd:SortKind) (a₀:Array Keyed) (lo:Nat) (st0 st:SortSt):Prop where
 sb:SB kd a₀ st
 pend:pendingOf st = pendingOf st0
 out:∀ j,j < lo -> (arrOf st)[j]? = (arrOf st0)[j]?
theorem ZV {κ:Keyed -> Int} {xs:Array Keyed} {i j:Nat} (hj:j <= xs.size) (k:Nat):kAt κ (mirror xs i j ((j - i) / 2)) k = if i <= k /\ k < j then kAt κ xs (i + j - 1 - k) else kAt κ xs k:=by
 have e:=getElem?_mirror_all (i:=i) hj k
 by_cases h1:i <= k /\ k < j
 · rw [if_pos h1] at e ⊢; exact jG e
 · rw [if_neg h1] at e ⊢; exact jG e
theorem qO {κ:Keyed -> Int} {xs:Array Keyed} {i j:Nat} (hj:j <= xs.size) (heq:∀ k,i <= k -> k < j -> kAt κ xs k = kAt κ xs (j - 1)) (k:Nat):kAt κ (mirror xs i j ((j - i) / 2)) k = kAt κ xs k:=by
 rw [ZV hj]
 split
 · rw [heq _ (by omega) (by omega),heq k (by omega) (by omega)]
 · rfl
theorem kAt_bub {κ:Keyed -> Int} {xs:Array Keyed} {src d:Nat} (hs:src < xs.size) (hd:d <= src) (k:Nat):kAt κ (bubble xs src d) k = if k = src - d then kAt κ xs src else if src - d < k /\ k <= src then kAt κ xs (k - 1) else kAt κ xs k:=by
 have e:=getElem?_bubble hs d hd k
 by_cases h1:k = src - d
 · rw [if_pos h1] at e ⊢; exact jG e
 · rw [if_neg h1] at e ⊢
   by_cases h2:src - d < k /\ k <= src
   · rw [if_pos h2] at e ⊢; exact jG e
   · rw [if_neg h2] at e ⊢; exact jG e
section
variable {M:Model} {A:Around} {E:Value -> Shared -> Prop} {s:Shared} {st st0:SortSt} {kd:SortKind} {S:Keyed -> Prop} {κ:Keyed -> Int} {a₀:Array Keyed} {lo:Nat}
theorem SBr.mir (h:SBr kd a₀ lo st0 st) {i j d:Nat} (hi:lo <= i) (hj:j <= (arrOf st).size) (hd:d = (j - i) / 2):SBr kd a₀ lo st0 (setArr st (mirror (arrOf st) i j d)):=by
 subst hd
 refine ⟨h.sb.setArr (Array.perm_iff_toList_perm.mp (mirror_perm _ _ _ _)),h.pend,fun k hk => ?_⟩
 show (mirror (arrOf st) i j _)[k]? = _
 rw [getElem?_mirror_all hj,if_neg (by omega)]
 exact h.out k hk
theorem SBr.bub (h:SBr kd a₀ lo st0 st) {src d:Nat} (hs:src < (arrOf st).size) (hd:lo + d <= src):SBr kd a₀ lo st0 (setArr st (bubble (arrOf st) src d)):=by
 refine ⟨h.sb.setArr (Array.perm_iff_toList_perm.mp (bubble_perm _ _ _)),h.pend,fun k hk => ?_⟩
 show (bubble (arrOf st) src d)[k]? = _
 rw [getElem?_bubble hs d (by omega),if_neg (by omega),if_neg (by omega)]
 exact h.out k hk
theorem uW {i j:Nat} {Q:Option Bool -> SortSt -> Prop} (C:CmpO M A E s kd S κ) (h0:∀ p,p ∈ a₀.toList -> S p) (hB:SB kd a₀ st) (hi:i < a₀.size) (hj:j < a₀.size)
   (h:Q (some (decide (kAt κ (arrOf st) i < kAt κ (arrOf st) j))) st):wpS M A E s (ltAt' i j) Q st:=by
 have hz:=hB.size
 obtain ⟨x,ex,hx⟩:=xL (arr:=arrOf st) (i:=i) (by omega)
 obtain ⟨y,ey,hy⟩:=xL (arr:=arrOf st) (i:=j) (by omega)
 rw [ltAt'_eq]
 refine wpS_bind (wpS_get ?_)
 show wpS _ _ _ _ (elem' (arrOf st) i >>= fun x => elem' (arrOf st) j >>= fun y => lt' x y) Q st
 refine wpS_bind (yJ ex (wpS_bind (yJ ey (C.lt (hB.mem h0 x hx) (hB.mem h0 y hy) hB.kind ?_))))
 rw [← yN (κ:=κ) ex,← yN (κ:=κ) ey]
 exact h
theorem ZM {i j:Nat} {Q:Unit -> SortSt -> Prop} (h:Q () (setArr st (mirror (arrOf st) i j ((j - i) / 2)))):wpS M A E s (reverseSlice' i j) Q st:=by
 rw [reverseSlice'_eq]; exact wpS_modify h
theorem ascB_ok {a nrem:Nat} {Q:AsT -> SortSt -> Prop} (C:CmpO M A E s kd S κ) (h0:∀ p,p ∈ a₀.toList -> S p) (hn:lo + nrem <= a₀.size) (ha:1 <= a) (han:a <= nrem) (hB:SB kd a₀ st)
   (hs:xJ κ (arrOf st) lo (lo + a))
   (h:∀ n,a <= n -> n <= nrem -> xJ κ (arrOf st) lo (lo + n) -> (n = nrem \/ kAt κ (arrOf st) (lo + n) < kAt κ (arrOf st) (lo + n - 1)) -> Q (none,n) st) :
   wpS M A E s (ascB lo a nrem) Q st:=by
 unfold ascB
 refine wpS_forRange (I:=fun x c st' => st' = st /\ c = (none,x) /\ xJ κ (arrOf st) lo (lo + x)) ?step ?fin ⟨rfl,rfl,hs⟩
 case fin =>
   rintro c st' ⟨rfl,rfl,hs'⟩
   rw [show max a nrem = nrem by omega] at hs' ⊢
   exact h nrem han (Nat.le_refl _) hs' (.inl rfl)
 case step =>
   rintro x c st' hax hxn ⟨rfl,rfl,hs'⟩
   dsimp only
   refine wpS_bind (uW C h0 hB (by omega) (by omega) ?_)
   by_cases hl:kAt κ (arrOf st') (lo + x) < kAt κ (arrOf st') (lo + x - 1)
   · simp only [hl, decide_true, if_true]
     exact wpS_pure (h x hax (by omega) hs' (.inr hl))
   · simp only [hl, decide_false, Bool.false_eq_true, if_false]
     refine wpS_pure ⟨rfl,rfl,fun i j hi hij hj => ?_⟩
     by_cases hjx:j < lo + x
     · exact hs' i j hi hij hjx
     · have hj' : j = lo + x := by omega
       subst hj'
       by_cases hi':i = lo + x
       · subst hi'; exact Int.le_refl _
       · exact Int.le_trans (hs' i (lo + x - 1) hi (by omega) (by omega)) (Int.not_lt.mp hl)
theorem talB_ok {n nrem:Nat} {Q:Option Nat -> SortSt -> Prop} (C:CmpO M A E s kd S κ) (h0:∀ p,p ∈ a₀.toList -> S p) (hn:lo + nrem <= a₀.size) (h1:1 <= n) (hnn:n <= nrem) (hB:SBr kd a₀ lo st0 st)
   (hs:NiB κ (arrOf st) lo (lo + n)) (h:∀ m st',SBr kd a₀ lo st0 st' -> 1 <= m -> m <= nrem -> xJ κ (arrOf st') lo (lo + m) -> Q (some m) st') :
   wpS M A E s (talB lo n nrem) Q st:=by
 unfold talB
 have hsz:lo + n <= (arrOf st).size:=by rw [hB.sb.size]; omega
 refine wpS_bind (ZM ?_)
 have hB':=hB.mir (i:=lo) (j:=lo + n) (Nat.le_refl _) hsz rfl
 refine wpS_bind (ascB_ok C h0 hn h1 hnn hB'.sb ?_ fun m hm1 hm2 hsm _ => wpS_pure (h m _ hB' (by omega) hm2 hsm))
 intro i j hi hij hj
 show kAt κ (mirror (arrOf st) lo (lo + n) _) i <= kAt κ (mirror (arrOf st) lo (lo + n) _) j
 rw [ZV hsz,ZV hsz,if_pos (by omega),if_pos (by omega)]
 exact hs _ _ (by omega) (by omega) (by omega)
theorem dscB_ok {n nrem:Nat} {Q:DsT -> SortSt -> Prop} (C:CmpO M A E s kd S κ) (h0:∀ p,p ∈ a₀.toList -> S p) (hn:lo + nrem <= a₀.size) (h1:1 <= n) (hnn:n <= nrem) (hB:SBr kd a₀ lo st0 st)
   (hs:NiB κ (arrOf st) lo (lo + n))
   (h:∀ m q st',SBr kd a₀ lo st0 st' -> n <= m -> m <= nrem -> NiB κ (arrOf st') lo (lo + m) -> q + 1 <= m -> (∀ i,lo + m - (q + 1) <= i -> i < lo + m -> kAt κ (arrOf st') i = kAt κ (arrOf st') (lo + m - 1)) -> Q (none,m,q) st') :
   wpS M A E s (dscB lo n nrem) Q st:=by
 unfold dscB
 refine wpS_forRange (I:=fun x c st' => ∃ q,c = (none,x,q) /\ SBr kd a₀ lo st0 st' /\ NiB κ (arrOf st') lo (lo + x) /\ q + 1 <= x /\
     (∀ i,lo + x - (q + 1) <= i -> i < lo + x -> kAt κ (arrOf st') i = kAt κ (arrOf st') (lo + x - 1))) ?step ?fin ⟨0,rfl,hB,hs,by omega,fun i h1 h2 => by congr 1; omega⟩
 case fin =>
   rintro c st' ⟨q,rfl,hB',hs',hq,he⟩
   rw [show max n nrem = nrem by omega] at hs' hq he ⊢
   exact h nrem q st' hB' hnn (Nat.le_refl _) hs' hq he
 case step =>
   rintro x c st' hax hxn ⟨q,rfl,hB',hs',hq,he⟩
   dsimp only
   have hsz:lo + x <= (arrOf st').size:=by rw [hB'.sb.size]; omega
   refine wpS_bind (uW C h0 hB'.sb (by omega) (by omega) ?_)
   by_cases hl:kAt κ (arrOf st') (lo + x) < kAt κ (arrOf st') (lo + x - 1)
   · simp only [hl, decide_true, if_true]
     have step1:∀ xs:Array Keyed,(∀ k,kAt κ xs k = kAt κ (arrOf st') k) -> NiB κ xs lo (lo + (x + 1)):=by
       intro xs hk i j hi hij hj
       rw [hk,hk]
       by_cases hjx:j < lo + x
       · exact hs' i j hi hij hjx
       · have hj' : j = lo + x := by omega
         subst hj'
         by_cases hi':i = lo + x
         · subst hi'; exact Int.le_refl _
         · exact Int.le_trans (Int.le_of_lt hl) (hs' i (lo + x - 1) hi (by omega) (by omega))
     by_cases hz:q > 0
     · rw [if_pos hz]
       refine wpS_bind (ZM (wpS_pure ⟨0,rfl,hB'.mir (by omega) hsz rfl,step1 _ (qO hsz he),by omega,fun i h1 h2 => by congr 1; omega⟩))
     · rw [if_neg hz]
       exact wpS_pure ⟨0,rfl,hB',step1 _ (fun _ => rfl),by omega,fun i h1 h2 => by congr 1; omega⟩
   · simp only [hl, decide_false, Bool.false_eq_true, if_false]
     refine wpS_bind (uW C h0 hB'.sb (by omega) (by omega) ?_)
     by_cases hg:kAt κ (arrOf st') (lo + x - 1) < kAt κ (arrOf st') (lo + x)
     · simp only [hg, decide_true, if_true]
       exact wpS_pure (h x q st' hB' hax (by omega) hs' hq he)
     · simp only [hg, decide_false, Bool.false_eq_true, if_false]
       have hx:kAt κ (arrOf st') (lo + x) = kAt κ (arrOf st') (lo + x - 1):=by omega
       refine wpS_pure ⟨q + 1,rfl,hB',fun i j hi hij hj => ?_,by omega,fun i h1 h2 => ?_⟩
       · by_cases hjx : j < lo + x
         · exact hs' i j hi hij hjx
         · have hj' : j = lo + x := by omega
           subst hj'
           by_cases hi':i = lo + x
           · subst hi'; exact Int.le_refl _
           · rw [hx]; exact hs' i (lo + x - 1) hi (by omega) (by omega)
       · rw [show lo + (x + 1) - 1 = lo + x by omega]
         by_cases hix:i = lo + x
         · subst hix; rfl
         · rw [hx]; exact he i (by omega) (by omega)
theorem dptB_ok {n nrem:Nat} {Q:Option Nat -> SortSt -> Prop} (C:CmpO M A E s kd S κ) (h0:∀ p,p ∈ a₀.toList -> S p) (hn:lo + nrem <= a₀.size) (hnn:n + 1 <= nrem) (hB:SBr kd a₀ lo st0 st)
   (hs:NiB κ (arrOf st) lo (lo + (n + 1))) (h:∀ m st',SBr kd a₀ lo st0 st' -> 1 <= m -> m <= nrem -> xJ κ (arrOf st') lo (lo + m) -> Q (some m) st') :
   wpS M A E s (dptB lo n nrem) Q st:=by
 unfold dptB
 refine wpS_bind (wpS_lift (wpAny_rule ⟨rfl,?_⟩))
 refine wpS_bind (dscB_ok C h0 hn (by omega) hnn hB hs fun m q st' hB' hm1 hm2 hs' hq he => ?_)
 dsimp only
 have hsz:lo + m <= (arrOf st').size:=by rw [hB'.sb.size]; omega
 by_cases hz:q > 0
 · rw [if_pos hz]
   refine wpS_bind (ZM (talB_ok C h0 hn (by omega) hm2 (hB'.mir (by omega) hsz rfl) ?_ h))
   intro i j hi hij hj
   show kAt κ (mirror (arrOf st') _ _ _) j <= kAt κ (mirror (arrOf st') _ _ _) i
   rw [qO hsz he,qO hsz he]
   exact hs' i j hi hij hj
 · rw [if_neg hz]
   exact talB_ok C h0 hn (by omega) hm2 hB' hs' h
theorem countRun_ok {nrem:Nat} {Q:Option Nat -> SortSt -> Prop} (C:CmpO M A E s kd S κ) (h0:∀ p,p ∈ a₀.toList -> S p) (hn:lo + nrem <= a₀.size) (h1:1 <= nrem) (hB:SBr kd a₀ lo st0 st)
   (h:∀ m st',SBr kd a₀ lo st0 st' -> 1 <= m -> m <= nrem -> xJ κ (arrOf st') lo (lo + m) -> Q (some m) st') :
   wpS M A E s (countRun' lo nrem) Q st:=by
 rw [countB_eq]
 refine wpS_bind (ascB_ok C h0 hn (Nat.le_refl 1) h1 hB.sb (fun i j hi hij hj => by have:i = j:=(by omega); subst this; exact Int.le_refl _) fun n hn1 hn2 hsn hor => ?_)
 dsimp only
 by_cases hnn:n = nrem
 · rw [if_pos (by simpa using hnn)]
   exact wpS_pure (h n st hB hn1 hn2 hsn)
 · rw [if_neg (by simpa using hnn)]
   have hlt:=hor.resolve_left hnn
   by_cases hgt:n > 1
   · rw [if_pos hgt]
     refine wpS_bind (uW C h0 hB.sb (by omega) (by omega) ?_)
     by_cases hr:kAt κ (arrOf st) lo < kAt κ (arrOf st) (lo + n - 1)
     · simp only [hr, decide_true, if_true]
       exact wpS_pure (h n st hB hn1 hn2 hsn)
     · simp only [hr, decide_false, Bool.false_eq_true, if_false]
       have hsz:lo + n <= (arrOf st).size:=by rw [hB.sb.size]; omega
       have hall:∀ k,lo <= k -> k < lo + n -> kAt κ (arrOf st) k = kAt κ (arrOf st) (lo + n - 1):=by
         intro k hk0 hk
         have a1:=hsn lo k (by omega) hk0 hk
         have a2:=hsn k (lo + n - 1) hk0 (by omega) (by omega)
         omega
       refine wpS_bind (ZM (dptB_ok C h0 hn (by omega) (hB.mir (Nat.le_refl _) hsz rfl) ?_ h))
       intro i j hi hij hj
       show kAt κ (mirror (arrOf st) _ _ _) j <= kAt κ (mirror (arrOf st) _ _ _) i
       rw [qO hsz hall,qO hsz hall]
       by_cases hjn:j < lo + n
       · rw [hall i (by omega) (by omega),hall j (by omega) hjn]; exact Int.le_refl _
       · have hj' : j = lo + n := by omega
         subst hj'
         by_cases hi':i = lo + n
         · subst hi'; exact Int.le_refl _
         · rw [hall i (by omega) (by omega)]; exact Int.le_of_lt hlt
   · rw [if_neg hgt]
     have hn1':n = 1:=by omega
     subst hn1'
     refine dptB_ok C h0 hn (by omega) hB ?_ h
     intro i j hi hij hj
     by_cases hi':i = j
     · subst hi'; exact Int.le_refl _
     · have hi0 : i = lo := by omega
       have hj1:j = lo + 1:=by omega
       subst hi0; subst hj1
       rw [Nat.add_sub_cancel] at hlt
       exact Int.le_of_lt hlt
theorem binSort_ok {n ok:Nat} {Q:Bool -> SortSt -> Prop} (C:CmpO M A E s kd S κ) (h0:∀ p,p ∈ a₀.toList -> S p) (hn:lo + n <= a₀.size) (hok:ok <= n) (hB:SBr kd a₀ lo st0 st) (hs:xJ κ (arrOf st) lo (lo + ok))
   (h:∀ st',SBr kd a₀ lo st0 st' -> xJ κ (arrOf st') lo (lo + n) -> Q true st'):wpS M A E s (binarySort' lo n ok) Q st:=by
 rw [binarySort'_eq]
 refine wpS_bind (wpS_mono (wpS_forRange (I:=fun k c st' => c = (none,()) /\ SBr kd a₀ lo st0 st' /\ xJ κ (arrOf st') lo (lo + min k n))
   (Q:=fun c st' => c = (none,()) /\ SBr kd a₀ lo st0 st' /\ xJ κ (arrOf st') lo (lo + n)) ?step ?fin ?init) ?post)
 case post =>
   rintro c st' ⟨rfl,hB',hs'⟩
   exact wpS_pure (h st' hB' hs')
 case init =>
   refine ⟨rfl,hB,fun i j hi hij hj => ?_⟩
   by_cases h1:ok = 0
   · have : i = j := by omega
     subst this; exact Int.le_refl _
   · exact hs i j hi hij (by omega)
 case fin =>
   rintro c st' ⟨hc,hB',hs'⟩
   refine ⟨hc,hB',?_⟩
   rwa [show min (max (max ok 1) n) n = n by omega] at hs'
 case step =>
   rintro k c st' hak hkn ⟨rfl,hB',hs'⟩
   rw [show min k n = k by omega] at hs'
   have hk:lo + k < a₀.size:=by omega
   refine wpS_bind (wpS_mono (wpS_forRange (I:=fun x c st'' => st'' = st' /\ ∃ l r,c = (none,l,r) /\ l <= r /\ r <= k /\ r - l <= k - x /\
       (∀ i,i < l -> kAt κ (arrOf st') (lo + i) <= kAt κ (arrOf st') (lo + k)) /\ (∀ i,r <= i -> i < k -> kAt κ (arrOf st') (lo + k) < kAt κ (arrOf st') (lo + i)))
     (Q:=fun c st'' => st'' = st' /\ ∃ l r,c = (none,l,r) /\ l <= k /\
       (∀ i,i < l -> kAt κ (arrOf st') (lo + i) <= kAt κ (arrOf st') (lo + k)) /\ (∀ i,l <= i -> i < k -> kAt κ (arrOf st') (lo + k) < kAt κ (arrOf st') (lo + i))) ?istep ?ifin ?iinit) ?ipost)
   case iinit => exact ⟨rfl,0,k,rfl,by omega,by omega,by omega,fun i hi => by omega,fun i h1 h2 => by omega⟩
   case ifin =>
     rintro c st'' ⟨rfl,l,r,rfl,hlr,hrk,hm,hlo,hhi⟩
     have:l = r:=by omega
     subst this
     exact ⟨rfl,l,l,rfl,hrk,hlo,hhi⟩
   case istep =>
     rintro x c st'' _ hxk ⟨rfl,l,r,rfl,hlr,hrk,hm,hlo,hhi⟩
     dsimp only
     by_cases hge:l ≥ r
     · rw [if_pos hge]
       have:l = r:=by omega
       subst this
       exact wpS_pure ⟨rfl,l,l,rfl,hrk,hlo,hhi⟩
     · rw [if_neg hge]
       refine wpS_bind (uW C h0 hB'.sb hk (by omega) ?_)
       by_cases hl:kAt κ (arrOf st'') (lo + k) < kAt κ (arrOf st'') (lo + (l + r) / 2)
       · simp only [hl, decide_true, if_true]
         refine wpS_pure ⟨rfl,l,(l + r) / 2,rfl,by omega,by omega,by omega,hlo,fun i h1 h2 => ?_⟩
         exact Int.lt_of_lt_of_le hl (hs' _ _ (by omega) (by omega) (by omega))
       · simp only [hl, decide_false, Bool.false_eq_true, if_false]
         refine wpS_pure ⟨rfl,(l + r) / 2 + 1,r,rfl,by omega,by omega,by omega,fun i h1 => ?_,hhi⟩
         exact Int.le_trans (hs' (lo + i) (lo + (l + r) / 2) (by omega) (by omega) (by omega)) (Int.not_lt.mp hl)
   case ipost =>
     rintro c st'' ⟨rfl,l,r,rfl,hlk,hlo,hhi⟩
     show wpS _ _ _ _ (moveDown' (lo + k) (lo + l) >>= fun _ => pure (ForInStep.yield (none,()))) _ _
     rw [moveDown'_eq]
     have hks:lo + k < (arrOf st'').size:=by rw [hB'.sb.size]; exact hk
     refine wpS_bind (wpS_modify (wpS_pure ⟨rfl,hB'.bub hks (by omega),?_⟩))
     rw [show min (k + 1) n = k + 1 by omega]
     intro i j hi hij hj
     show kAt κ (bubble (arrOf st'') (lo + k) (lo + k - (lo + l))) i <= kAt κ (bubble (arrOf st'') (lo + k) (lo + k - (lo + l))) j
     have hlo':∀ i,lo <= i -> i < lo + l -> kAt κ (arrOf st'') i <= kAt κ (arrOf st'') (lo + k):=fun i h1 h2 => by
       have:=hlo (i - lo) (by omega)
       rwa [show lo + (i - lo) = i by omega] at this
     have hhi':∀ i,lo + l <= i -> i < lo + k -> kAt κ (arrOf st'') (lo + k) <= kAt κ (arrOf st'') i:=fun i h1 h2 => by
       have:=hhi (i - lo) (by omega) (by omega)
       rw [show lo + (i - lo) = i by omega] at this
       exact Int.le_of_lt this
     rw [kAt_bub hks (by omega),kAt_bub hks (by omega),show lo + k - (lo + k - (lo + l)) = lo + l by omega]
     repeat' split
     all_goals first
       | (exfalso; omega)
       | exact Int.le_refl _
       | exact hlo' _ (by omega) (by omega)
       | exact hhi' _ (by omega) (by omega)
       | exact hs' _ _ (by omega) (by omega) (by omega)
end
end L2
namespace L2
open PySem PyProof.Rows
abbrev wY:=Nat × Nat × Nat
def Chn (κ:Keyed -> Int) (xs:Array Keyed):Nat -> List wY -> Nat -> Prop
 | s,[],e => s = e
 | s,x :: l,e => x.1 = s /\ 1 <= x.2.1 /\ xJ κ xs s (s + x.2.1) /\ Chn κ xs (s + x.2.1) l e
section
variable {κ:Keyed -> Int} {xs ys:Array Keyed}
theorem Chn.le:∀ {l:List wY} {s e:Nat},Chn κ xs s l e -> s + l.length <= e
 | [],s,e,h => by have h:s = e:=h; simp [h]
 | x :: l, s, e, ⟨h1, h2, h3, h4⟩ => by
   have:=Chn.le h4
   simp only [List.length_cons]; omega
theorem Chn.app:∀ {l1 l2:List wY} {s e:Nat},Chn κ xs s (l1 ++ l2) e -> ∃ m,Chn κ xs s l1 m /\ Chn κ xs m l2 e
 | [],l2,s,e,h => ⟨s,rfl,h⟩
 | x :: l1, l2, s, e, ⟨h1, h2, h3, h4⟩ => by
   obtain ⟨m,a1,a2⟩:=Chn.app h4
   exact ⟨m,⟨h1,h2,h3,a1⟩,a2⟩
theorem Chn.join:∀ {l1 l2:List wY} {s m e:Nat},Chn κ xs s l1 m -> Chn κ xs m l2 e -> Chn κ xs s (l1 ++ l2) e
 | [],l2,s,m,e,h,h' => by have h:s = m:=h; subst h; exact h'
 | x :: l1,l2,s,m,e,⟨h1,h2,h3,h4⟩,h' => ⟨h1,h2,h3,Chn.join h4 h'⟩
theorem Chn.cg:∀ {l:List wY} {s e:Nat},Chn κ xs s l e -> (∀ j,s <= j -> j < e -> ys[j]? = xs[j]?) -> Chn κ ys s l e
 | [],s,e,h,_ => h
 | x :: l, s, e, ⟨h1, h2, h3, h4⟩, hc => by
   have hle:=Chn.le h4
   refine ⟨h1,h2,fun p q a1 a2 a3 => ?_,Chn.cg h4 fun j a b => hc j (by omega) b⟩
   rw [jG (hc p (by omega) (by omega)),jG (hc q (by omega) (by omega))]
   exact h3 p q a1 a2 a3
theorem Chn.mod:∀ {l:List wY} {s e:Nat} (i:Nat) (f:wY -> wY),(∀ x,(f x).1 = x.1 /\ (f x).2.1 = x.2.1) -> Chn κ xs s l e -> Chn κ xs s (l.modify i f) e
 | [],s,e,i,f,_,h => by simpa using h
 | x :: l, s, e, 0, f, hf, ⟨h1, h2, h3, h4⟩ => by
   show Chn κ xs s (f x :: l) e
   obtain ⟨a,b⟩:=hf x
   refine ⟨a.trans h1,?_,?_,?_⟩ <;> rw [b] <;> assumption
 | x :: l, s, e, i + 1, f, hf, ⟨h1, h2, h3, h4⟩ => by
   show Chn κ xs s (x :: l.modify i f) e
   exact ⟨h1,h2,h3,Chn.mod i f hf h4⟩
theorem l_two {l:List wY} {i:Nat} (h:i + 1 < l.length):∃ l1 a b l2,l = l1 ++ a :: b :: l2 /\ l1.length = i /\ l[i]? = some a /\ l[i + 1]? = some b:=by
 refine ⟨l.take i,l[i],l[i + 1],l.drop (i + 2),?_,by rw [List.length_take]; omega,List.getElem?_eq_getElem _,List.getElem?_eq_getElem _⟩
 have e1:l.drop i = l[i] :: l.drop (i + 1):=List.drop_eq_getElem_cons (by omega)
 have e2:l.drop (i + 1) = l[i + 1] :: l.drop (i + 2):=List.drop_eq_getElem_cons (by omega)
 rw [← e2,← e1,List.take_append_drop]
theorem l_merge (l1 l2:List wY) (a b x:wY):((l1 ++ a :: b :: l2).set l1.length x).eraseIdx (l1.length + 1) = l1 ++ x :: l2:=by
 rw [List.set_append_right _ _ (Nat.le_refl _),Nat.sub_self,List.set_cons_zero,List.eraseIdx_append_of_length_le (by omega),Nat.add_sub_cancel_left]
 rfl
end
section
variable {M:Model} {A:Around} {E:Value -> Shared -> Prop} {s:Shared} {st st0:SortSt} {kd:SortKind} {S:Keyed -> Prop} {κ:Keyed -> Int} {a₀:Array Keyed}
theorem kQ {i e:Nat} {Q:Bool -> SortSt -> Prop} (C:CmpO M A E s kd S κ) (h0:∀ p,p ∈ a₀.toList -> S p) (hB:SB kd a₀ st) (hc:Chn κ (arrOf st) 0 (pendingOf st).toList e) (he:e <= a₀.size) (hi:i + 1 < (pendingOf st).size)
   (h:∀ st',SB kd a₀ st' -> Chn κ (arrOf st') 0 (pendingOf st').toList e -> (pendingOf st').size + 1 = (pendingOf st).size -> (∀ j,e <= j -> (arrOf st')[j]? = (arrOf st)[j]?) -> Q true st'):wpS M A E s (mergeAt' i) Q st:=by
 obtain ⟨l1,⟨sa,na,pw⟩,⟨sb,nb,w⟩,l2,e1,e2,e3,e4⟩:=l_two (l:=(pendingOf st).toList) (by simpa using hi)
 have hc':=hc
 rw [e1] at hc'
 obtain ⟨m,c1,c2,c3,c4,c5,c6,c7,c8⟩:=hc'.app
 dsimp only at c2 c3 c4 c5 c6 c7 c8
 have hl:=c8.le
 have hm:=c1.le
 subst c2
 refine mergeAt_ok C h0 hB (by rw [← Array.getElem?_toList]; exact e3) (by rw [← Array.getElem?_toList]; exact e4) c3 c6 c5 (by omega) c4 (by rw [c5]; exact c7) fun st' b1 b2 b3 b4 => ?_
 have hp:(pendingOf st').toList = l1 ++ (sa,na + nb,pw) :: l2:=by
   rw [b2]
   have:(((pendingOf st).setIfInBounds i (sa,na + nb,pw)).eraseIdxIfInBounds (i + 1)).toList = ((pendingOf st).toList.set i (sa,na + nb,pw)).eraseIdx (i + 1):=by simp
   rw [this,e1,← e2,l_merge]
 refine h st' b1 ?_ ?_ fun j hj => b4 j (by omega)
 · rw [hp]
   refine (c1.cg fun j _ hj => b4 j (.inl hj)).join ⟨rfl,by dsimp only; omega,?_,?_⟩
   · dsimp only
     rw [← Nat.add_assoc,← c5]; exact b3
   · dsimp only
     rw [← Nat.add_assoc]
     exact c8.cg fun j hj _ => b4 j (.inr (by omega))
 · rw [← Array.length_toList, ← Array.length_toList, hp, e1]
   simp only [List.length_append,List.length_cons]; omega
theorem force_ok {β:Type} {lo n mr size:Nat} {dn X Y:SM β} {Q:β -> SortSt -> Prop} (C:CmpO M A E s kd S κ) (h0:∀ p,p ∈ a₀.toList -> S p) (hsz:size = a₀.size) (hB:SBr kd a₀ lo st0 st) (h1:1 <= n) (hn:lo + n <= size) (hs:xJ κ (arrOf st) lo (lo + n))
   (hX:∀ n',n' = min (size - lo) mr -> ∀ st',SBr kd a₀ lo st0 st' -> 1 <= n' -> lo + n' <= size -> xJ κ (arrOf st') lo (lo + n') -> wpS M A E s X Q st')
   (hY:∀ n',n' = n -> ∀ st',SBr kd a₀ lo st0 st' -> 1 <= n' -> lo + n' <= size -> xJ κ (arrOf st') lo (lo + n') -> wpS M A E s Y Q st') :
   wpS M A E s (if n < mr then (liftM (rule "list.sort.binary-insertion") >>= fun _ => binarySort' lo (min (size - lo) mr) n >>= fun b => if (!b) = true then dn else X) else Y) Q st:=by
 by_cases hlt:n < mr
 · rw [if_pos hlt]
   refine wpS_bind (wpS_lift (wpAny_rule ⟨rfl,?_⟩))
   refine wpS_bind (binSort_ok C h0 (by omega) (by omega) hB hs fun st' b1 b2 => ?_)
   simp only [Bool.not_true,Bool.false_eq_true,if_false]
   exact hX _ rfl st' b1 (by omega) (by omega) b2
 · rw [if_neg hlt]
   exact hY n rfl st hB h1 hn hs
theorem sortRuns_ok {Q:Unit -> SortSt -> Prop} (C:CmpO M A E s kd S κ) (h0:∀ p,p ∈ a₀.toList -> S p) (hB:SB kd a₀ st) (hp:pendingOf st = #[])
   (h:∀ st',SB kd a₀ st' -> xJ κ (arrOf st') 0 a₀.size -> Q () st'):wpS M A E s sortRuns' Q st:=by
 rw [sortRuns'_eq]
 refine wpS_bind (wpS_get ?_)
 dsimp only
 simp only [hB.size]
 generalize minRun' a₀.size a₀.size 0 = mr
 refine wpS_bind (wpS_mono (wpS_forRange
   (I:=fun x c st' => ∃ lo,c = (none,lo) /\ x <= lo /\ lo <= a₀.size /\ SB kd a₀ st' /\ Chn κ (arrOf st') 0 (pendingOf st').toList lo)
   (Q:=fun c st' => c = (none,a₀.size) /\ SB kd a₀ st' /\ Chn κ (arrOf st') 0 (pendingOf st').toList a₀.size) ?step ?fin ⟨0,rfl,Nat.le_refl _,Nat.zero_le _,hB,by rw [hp]; rfl⟩) ?post)
 case fin =>
   rintro c st' ⟨lo,rfl,a1,a2,a3,a4⟩
   have:lo = a₀.size:=by omega
   subst this
   exact ⟨rfl,a3,a4⟩
 case step =>
   rintro x c st' _ hx ⟨lo,rfl,a1,a2,a3,a4⟩
   dsimp only
   by_cases hge:lo ≥ a₀.size
   · rw [if_pos hge]
     have:lo = a₀.size:=by omega
     subst this
     exact wpS_pure ⟨rfl,a3,a4⟩
   · rw [if_neg hge]
     refine wpS_bind (countRun_ok (st0:=st') C h0 (by omega) (by omega) ⟨a3,rfl,fun _ _ => rfl⟩ fun m st2 hB2 hm1 hm2 hs2 => ?_)
     dsimp only
     refine force_ok C h0 rfl hB2 hm1 (by omega) hs2 (fun n hn st3 hB3 hn1 hn2 hs3 => ?_) (fun n hn st3 hB3 hn1 hn2 hs3 => ?_)
     all_goals
       rw [← hn]
       have hc3:Chn κ (arrOf st3) 0 (pendingOf st3).toList lo:=by rw [hB3.pend]; exact a4.cg fun j _ hj => hB3.out j hj
       have fin:∀ (st4:SortSt),SB kd a₀ st4 -> Chn κ (arrOf st4) 0 (pendingOf st4).toList lo -> xJ κ (arrOf st4) lo (lo + n) ->
           ∃ lo',(none,lo + n) = ((none,lo'):Option Unit × Nat) /\ x + 1 <= lo' /\ lo' <= a₀.size /\ SB kd a₀ (setPending st4 ((pendingOf st4).push (lo,n,0))) /\ Chn κ (arrOf (setPending st4 ((pendingOf st4).push (lo,n,0)))) 0 (pendingOf (setPending st4 ((pendingOf st4).push (lo,n,0)))).toList lo':=by
         intro st4 b1 b2 b3
         refine ⟨lo + n,rfl,by omega,hn2,⟨b1.perm,b1.kind,b1.fail⟩,?_⟩
         show Chn κ (arrOf st4) 0 ((pendingOf st4).push (lo,n,0)).toList (lo + n)
         rw [Array.toList_push]
         exact b2.join ⟨rfl,hn1,b3,rfl⟩
       refine wpS_bind (wpS_get ?_)
       cases hb:(pendingOf st3).back? with
       | none =>
         dsimp only
         exact wpS_bind (wpS_modify (wpS_pure (fin st3 hB3.sb hc3 hs3)))
       | some r =>
         obtain ⟨s1,n1,p1⟩:=r
         dsimp only
         generalize power' a₀.size (2 * s1 + n1) (2 * s1 + n1 + n1 + n) a₀.size = pw
         refine wpS_bind (wpS_mono (wpS_forRange
           (I:=fun _ c st4 => c = (none,()) /\ SB kd a₀ st4 /\ Chn κ (arrOf st4) 0 (pendingOf st4).toList lo /\ xJ κ (arrOf st4) lo (lo + n))
           (Q:=fun c st4 => c = (none,()) /\ SB kd a₀ st4 /\ Chn κ (arrOf st4) 0 (pendingOf st4).toList lo /\ xJ κ (arrOf st4) lo (lo + n)) ?_ (fun _ _ hh => hh) ⟨rfl,hB3.sb,hc3,hs3⟩) ?_)
         · rintro y c st4 _ _ ⟨rfl, b1, b2, b3⟩
           refine wpS_bind (wpS_get ?_)
           skip
           by_cases hz:(pendingOf st4).size > 1
           · rw [if_pos hz]
             rw [getElem?_pos (pendingOf st4) ((pendingOf st4).size - 2) (by omega)]
             generalize (pendingOf st4)[(pendingOf st4).size - 2] = r
             obtain ⟨r1,r2,older⟩:=r
             dsimp only
             by_cases ho:older <= pw
             · rw [if_pos ho]
               exact wpS_pure ⟨rfl,b1,b2,b3⟩
             · rw [if_neg ho]
               refine wpS_bind (kQ C h0 b1 b2 a2 (by omega) fun st5 d1 d2 d3 d4 => ?_)
               simp only [Bool.not_true,Bool.false_eq_true,if_false]
               refine wpS_pure ⟨rfl,d1,d2,fun p q e1 e2 e3 => ?_⟩
               rw [jG (d4 p e1),jG (d4 q (by omega))]
               exact b3 p q e1 e2 e3
           · rw [if_neg hz]
             exact wpS_pure ⟨rfl,b1,b2,b3⟩
         · rintro c st4 ⟨rfl, b1, b2, b3⟩
           dsimp only
           refine wpS_bind (wpS_modify ?_)
           refine wpS_bind (wpS_modify (wpS_pure (fin (setPending st4 _) ⟨b1.perm,b1.kind,b1.fail⟩ ?_ b3)))
           show Chn κ (arrOf st4) 0 ((pendingOf st4).modify _ _).toList lo
           rw [Array.toList_modify]
           exact b2.mod _ _ fun _ => ⟨rfl,rfl⟩
 case post =>
   rintro c st' ⟨rfl,hB',hc'⟩
   dsimp only
   have hl0:=hc'.le
   rw [Array.length_toList] at hl0
   refine wpS_bind (wpS_mono (wpS_forRange
     (I:=fun x c st'' => c = (none,()) /\ SB kd a₀ st'' /\ Chn κ (arrOf st'') 0 (pendingOf st'').toList a₀.size /\ (pendingOf st'').size <= a₀.size - x + 1)
     (Q:=fun c st'' => c = (none,()) /\ SB kd a₀ st'' /\ Chn κ (arrOf st'') 0 (pendingOf st'').toList a₀.size /\ (pendingOf st'').size <= 1) ?_ ?_ ⟨rfl,hB',hc',by omega⟩) ?_)
   · rintro x c st4 _ hx ⟨rfl, b1, b2, b3⟩
     refine wpS_bind (wpS_get ?_)
     skip
     by_cases hz:(pendingOf st4).size <= 1
     · rw [if_pos hz]
       exact wpS_pure ⟨rfl,b1,b2,hz⟩
     · rw [if_neg hz]
       refine wpS_bind (kQ C h0 b1 b2 (Nat.le_refl _) ?_ fun st5 d1 d2 d3 d4 => ?_)
       · by_cases hi0 : (pendingOf st4).size - 2 > 0
         · rw [if_pos hi0]
           split <;> omega
         · rw [if_neg hi0]
           simp only [Option.any_none,Bool.false_eq_true,if_false]
           omega
       · simp only [Bool.not_true, Bool.false_eq_true, if_false]
         exact wpS_pure ⟨rfl,d1,d2,by omega⟩
   · rintro c st4 ⟨rfl, b1, b2, b3⟩
     exact ⟨rfl,b1,b2,by omega⟩
   · rintro c st4 ⟨rfl, b1, b2, b3⟩
     refine wpS_pure (h st4 b1 ?_)
     rw [← Array.length_toList] at b3
     match hl:(pendingOf st4).toList,b2,b3 with
     | [], b2, _ =>
       have b2:0 = a₀.size:=b2
       intro p q e1 e2 e3
       omega
     | [x], ⟨c1, c2, c3, c4⟩, _ =>
       have c4:0 + x.2.1 = a₀.size:=c4
       rw [c4] at c3
       exact c3
end
end L2
namespace L2
open PySem PySem.Spec PyProof.Rows PySem.SeqAt PySem.W
abbrev κI (p:Keyed):Int:=numOf p.1
theorem kAt_K (xs:Array Keyed) (i:Nat):kAt κI xs i = K xs i:=by
 unfold kAt K
 cases xs[i]? <;> rfl
section
variable {prog:Program} {w:World} {A:Around} {E:Value -> Shared -> Prop} {s:Shared}
theorem cmpI:CmpO (model prog w) A E s oneType' (fun p => ∃ n t,p.1 = .int n t) κI:=by
 refine ⟨fun {x y st Q} hx hy hk h => ?_⟩
 obtain ⟨n,t,ex⟩:=hx
 obtain ⟨m,u,ey⟩:=hy
 rw [lt'_eq]
 refine wpS_bind (wpS_get ?_)
 rw [hk,keyLt'_oneType,ex,ey]
 refine wpS_bind (wpS_lift (wpAny_attempt (oneLt_int ⟨rfl,?_⟩)))
 have e:decide (κI x < κI y) = decide (n < m):=by show decide (numOf x.1 < numOf y.1) = _; rw [ex,ey]; rfl
 rw [e] at h
 exact wpS_pure h
theorem list_sortB {a:Addr} {vs:List Value} {ns:List Int} {n:Nat} {P:PySem.Fin -> Shared -> Prop} (ho:s.heap.get? a = some (seqObj "list" vs.toArray n)) (hI:IntsAre vs ns) (hbig:vs.length < 100000)
   (h:∀ (out:Array Value) (ns':List Int),IntsAre out.toList ns' -> ns'.Perm ns -> ns'.Pairwise (· <= ·) -> P (.done (.ret .none)) { s with heap:=sortedHeap s.heap a vs out }):wpAny (model prog w) A (Builtin.«list.sort» ⟨[.ref a],[]⟩) P E s:=by
 by_cases h64:vs.length < 64
 · exact list_sort_tree ho hI h64 h
 rw [list_sort_plain]
 have ha:a < s.heap.objs.size:=Heap.lt_size ho
 have hsz:vs.toArray.size = vs.length:=by simp
 refine wpAny_bind (listItems_at ho rfl ?_); refine wpAny_bind (listUpdate_at ho rfl ?_ (by rw [hsz,sizeLine_eq]; omega) (Nat.zero_le _))
 obtain ⟨e1,ho1⟩:∃ e1,(s.heap.update a (Obj.mapSeq fun _ => #[])).get? a = some (seqObj "list" #[] e1):=⟨_,get?_update_seq ho (fun _ => #[])⟩
 refine wpAny_bind (seqEpoch_at ho1 rfl ?_); refine wpAny_bind (wpAny_newTuple ?_ (by show vs.length <= _; rw [sizeLine_eq]; omega))
 refine wpAny_bind (wpAny_newList ?_ (Nat.zero_le _)); refine wpAny_holding ?_
 have ho6:(((s.heap.update a (Obj.mapSeq fun _ => #[])).push (seqObj "tuple" vs.toArray 0)).push (seqObj "list" #[] 0)).get? a = some (seqObj "list" #[] e1):=by
   rw [Heap.get?_push_ne _ _ _ (by rw [size_push',Heap.size_update]; exact Nat.ne_of_lt (Nat.lt_succ_of_lt ha)),Heap.get?_push_ne _ _ _ (by rw [Heap.size_update]; exact Nat.ne_of_lt ha)]; exact ho1
 show wpAny (model prog w) A _ P E { s with heap:=((s.heap.update a (Obj.mapSeq fun _ => #[])).push (seqObj "tuple" vs.toArray 0)).push (seqObj "list" #[] 0) }
 dsimp only
 rw [if_neg (by rw [hsz]; omega),if_neg (by rw [hsz]; omega)]
 have hkk:keyKind' vs.toArray = pure oneType':=by
   obtain ⟨v1,v2,l,rfl⟩:∃ v1 v2 l,vs = v1 :: v2 :: l:=by
     rcases vs with _ | ⟨v1,_ | ⟨v2,l⟩⟩
     · exact absurd h64 (by simp)
     · exact absurd h64 (by simp)
     · exact ⟨v1,v2,l,rfl⟩
   exact keyKind_ints hI
 rw [hkk]; refine wpAny_bind (wpAny_pure ?_)
 refine wpAny_bind (wpAny_mono (sortRuns_ok (a₀:=pairsOf vs) (st:=SortSt.mk' oneType' (vs.toArray.zip vs.toArray) #[] 7 none)
   (Q:=fun _ st' => SB oneType' (pairsOf vs) st' /\ xJ κI (arrOf st') 0 (pairsOf vs).size) cmpI hI.intKeys ⟨List.Perm.refl _,rfl,rfl⟩ rfl fun st' b1 b2 => ⟨b1,b2⟩) ?_ fun _ _ e => e)
 rintro ⟨⟨⟩,st'⟩ s' ⟨rfl,hB,hs⟩
 dsimp only
 have hz:((arrOf st').map (·.2)).size = vs.length:=by rw [Array.size_map,hB.size,pairsOf_size]
 refine wpAny_bind (seqEpoch_at ho6 rfl ?_)
 refine wpAny_bind (listUpdate_at ho6 rfl ?_ (Nat.zero_le _) (by rw [hz,sizeLine_eq]; omega))
 rw [hB.fail]
 simp only [bne_self_eq_false,Bool.false_eq_true,if_false]
 obtain ⟨ns',d1,d2,d3⟩:=sorted_out hI (Array.perm_iff_toList_perm.mpr hB.perm) fun i j hij hj => by
   have:=hs i j (Nat.zero_le _) hij hj
   rwa [kAt_K,kAt_K] at this
 exact wpAny_pure (h _ ns' d1 d2 d3)
end
section
variable {prog:Program} {w:World} {A:Around} {E:Value -> Shared -> Prop} {s:Shared} {T:String} {r d:Addr} {n:Nat} {P:Nat -> Value -> Prop} {OK:Heap -> Prop}
theorem ZJ {Q:Value -> Shared -> Prop} (K:KdlSrc prog w T r d n P OK) (hh:A.handled = none) (hok:OK s.heap) (hn:n < 100000) {ss:List Int} (hl:ss.length = n) (hP:∀ (i:Nat) (v:Value) (x:Int),P i v -> ss[i]? = some x -> ∃ t,v = .int x t)
   (h:∀ (h1 h':Heap) (tk:Nat) (vs':List Value) (ss':List Int) (e:Nat),(∀ b o,s.heap.get? b = some o -> h1.get? b = some o) -> (∀ b o,h1.get? b = some o -> h'.get? b = some o) -> h'.get? h1.objs.size = some { cls:=.type "list",data:=.seq vs'.toArray e } -> IntsAre vs' ss' -> ss'.Perm ss -> ss'.Pairwise (· <= ·) -> Q (.ref h1.objs.size) { s with heap:=h',toks:=tk }) :
   wpAny (model prog w) A (call (.builtin "sorted") [.ref r]) Q E s:=by
 have hs:sizeLine = 16777216:=sizeLine_eq
 refine Calls.call_function_entry kind_sorted plain_sorted entry_sorted (args_sorted1 _) ?_
 unfold Builtin.«sorted»
 refine wpAny_bind (m:=checkCount "sorted" 1 1 _) (wpAny_pure ?_)
 refine wpAny_bind (kdu_collect (A:=A.in1) K hh hok (by omega) fun h' tk acc hk hacc => ?_)
 have hl2:acc.toList.length = n:=by rw [Array.length_toList]; exact hacc.1
 have hS:IntsAre acc.toList ss:=ints_ofT (by omega) fun i v x h1 h2 => hP i v x (hacc.2 i v (by rw [← Array.getElem?_toList]; exact h1)) h2
 generalize acc.toList = vs at hl2 hS
 refine wpAny_bind (wpAny_newList ?_ (by omega))
 have hoL:(h'.push (seqObj "list" vs.toArray 0)).get? h'.objs.size = some (seqObj "list" vs.toArray 0):=Heap.get?_push_size _ rfl
 show wpAny _ _ _ _ _ { s with heap:=h'.push (seqObj "list" vs.toArray 0),toks:=tk }
 refine wpAny_bind (wpAny_holding (wpAny_call_entry slot_list_sort ⟨_,hoL,rfl⟩ entry_list_sort (list_sortB (A:=A.in1.in1) hoL hS (by omega) fun out ss' a1 a2 a3 => ⟨_,rfl,?_⟩) (args_list_sort _)))
 obtain ⟨e,he⟩:=sortedHeap_at (out:=out) hoL
 refine wpAny_pure ⟨_,rfl,h h' _ tk _ ss' e hk (fun b o hb' => ?_) (by rw [Array.toArray_toList]; exact he) a1 a2 a3⟩
 have hlt:=Heap.lt_size hb'
 rw [sortedHeap_old (Nat.ne_of_lt hlt) (by rw [size_push']; exact Nat.lt_succ_of_lt hlt)]
 exact Heap.get?_push_of_some _ hb'
end
section
variable {X:Cx}
theorem call_sortedDIB:qW X (.builtin "sorted") (fun xs H Q => X.calm = true /\ ∃ (p:Addr) (kvs:List (Key × V)) (zs:List Int),xs = [.ref p] /\ H p = some (.dK kvs) /\ kvs.map (·.1) = zs.map Sum.inl /\ zs.length < 100000 /\
   ∀ (l:Addr) (zs':List Int),H l = none -> zs'.Perm zs -> zs'.Pairwise (· <= ·) -> Q (.ref l) (upd H l (.lst (zs'.map V.int)))):=by
 intro pins s σ H xs us Q I r h
 obtain ⟨hc,p,kvs,zs,rfl,hp,hk,h64,q⟩:=h
 obtain ⟨u,rfl,ru⟩:=kI r
 cases ru
 obtain ⟨z,hd,vs,rel,dd⟩:=vO I.hok (.inl hp)
 obtain ⟨ep,hat⟩:=dd.dictAt
 have hvl:kvs.length = vs.length:=Paired.length rel
 have hkl:kvs.length = zs.length:=by have:=congrArg List.length hk; rwa [List.length_map,List.length_map] at this
 have hkeys:vs.map (·.1) = zs.map Sum.inl:=(ZT rel).trans hk
 refine ZJ (kdl_dict (knd:=yH X.prog X.w) (kvs:=vs) (ep:=ep) hd) (I.ok.hd hc) hat (by omega) (ss:=zs) (by omega) (fun i v x hP hx => ?_) fun h1 h' tk vs' ss' e k1 k2 hB hS hp2 hs2 => ?_
 · obtain ⟨k, y, h1, h2⟩ := hP
   have e1:(vs.map (·.1))[i]? = some k:=by rw [List.getElem?_map,h1]; rfl
   rw [hkeys,List.getElem?_map,hx] at e1
   cases e1
   have h2:keyIs (.inl x) v = true:=h2
   rcases keyIs_shape h2 with ⟨x',t,e,e2⟩ | ⟨_,_,e,_⟩
   · cases e
     exact ⟨t,e2⟩
   · cases e
 · have I1 : Inv X pins σ H { s with heap := h1, toks := tk } := I.kept k1
   have hlen:ss'.length = zs.length:=hp2.length_eq
   exact ⟨.ref h1.objs.size,_,I1.laid (a:=h1.objs.size) (o:=.lst (ss'.map V.int)) (t':=tk) k2 (Nat.le_refl _) ⟨by rw [List.length_map,sizeLine_eq]; omega,vs',e,ints_vals hS,hB⟩,rfl,q _ _ (I1.hok.fresh (Nat.le_refl _)) hp2 hs2⟩
end
end L2
set_option maxHeartbeats 8000000
namespace C
open PySem L2
seal PE PT PW PA PS PSs PG PGs PI PPs PO PSet PIf
def top (i:Nat):Stmt:=PySem.Challenge.pw_clashbook_k20_papers_of_closings.main.body.getD i (.Pass ⟨0,0,0,0⟩)
abbrev s_A:Stmt:=top 9
theorem sc_A:FnScope ["n"] ["n"] (zG s_A):=⟨rfl,rfl,rfl,by decide +kernel,rfl,by decide +kernel,by decide +kernel⟩
abbrev s_B:Stmt:=top 10
theorem sc_B:FnScope ["n","bound"] ["n","bound"] (zG s_B):=⟨rfl,rfl,rfl,by decide +kernel,rfl,by decide +kernel,by decide +kernel⟩
abbrev jZ (H:Hp) (rows:List Rw) (us:List V):Prop:=DAts H (rows.map dRw) us
abbrev jL (H:Hp) (ls:List Ln) (us:List V):Prop:=DAts H (ls.map dLn) us
abbrev ZD (H:Hp) (as:List Wt) (us:List V):Prop:=DAts H (as.map dWt) us
theorem yW {α:Type} {H:Hp} {f:α -> Dt} {xs:List α} {us:List V} {i:Nat} {v:V} (h:DAts H (xs.map f) us) (hv:us[i]? = some v):∃ x,xs[i]? = some x /\ DAt H (f x) v:=by
 have hl:=DAts.length h
 rw [List.length_map] at hl
 have hi:i < xs.length:=by rw [← hl]; exact (List.getElem?_eq_some_iff.mp hv).1
 obtain ⟨u,h1,h2⟩:=DAts.get (d:=f xs[i]) h (by rw [List.getElem?_map,List.getElem?_eq_getElem hi]; rfl)
 rw [hv] at h1
 cases h1
 exact ⟨_,List.getElem?_eq_getElem hi,h2⟩
theorem yK {α:Type} {H:Hp} {f:α -> Dt} {xs:List α} {us:List V} (h:DAts H (xs.map f) us):us.length = xs.length:=by
 have hl:=DAts.length h
 rwa [List.length_map] at hl
theorem mapSnoc {α:Type} {H:Hp} {f:α -> Dt} {xs:List α} {us:List V} {i:Nat} {x:α} {v:V} (hx:xs[i]? = some x) (h:DAts H ((xs.take i).map f) us) (h1:DAt H (f x) v):DAts H ((xs.take (i + 1)).map f) (us ++ [v]):=by
 obtain ⟨hi,e⟩:=List.getElem?_eq_some_iff.mp hx
 rw [List.take_succ_eq_append_getElem hi,e,List.map_append]
 exact DAts.append h (DAts.one h1)
theorem LnAt.out {H:Hp} {l:Ln} {v:V} (h:DAt H (dLn l) v):∃ a b us,v = .ref a /\ H a = some (.tup [.int l.i,.int l.j,.ref b]) /\ H b = some (.tup (.str l.w :: us)) /\ ZD H l.as us:=by
 obtain ⟨a,vs,e1,e2,u1,r1,q1,h1,u2,r2,q2,h2,u3,r3,q3,⟨b,ws,g1,g2,x,y,g3,g4,g5⟩,h4⟩:=h
 have h1:u1 = .int l.i:=h1
 have h2:u2 = .int l.j:=h2
 have h4:r3 = []:=h4
 have g4:x = .str l.w:=g4
 subst h4 q3 q2 q1 h1 h2 g1 g3 g4
 exact ⟨a,b,y,e1,e2,g2,g5⟩
theorem jK {α:Type} {xs:List α} {n:Int} {x:α} (h0:0 <= n) (h:xs[n.toNat]? = some x):atI xs n = some x:=by
 obtain ⟨m,rfl⟩:∃ m:Nat,n = (m:Int):=⟨n.toNat,by omega⟩
 exact zZ (by simpa using h)
theorem RwAt.out {H:Hp} {r:Rw} {v:V} (h:DAt H (dRw r) v):∃ a x us,v = .ref a /\ H a = some (.tup (.str x :: us)) /\ (match r with | .no => x = "none" /\ us = [] | .nm y => x = "name" /\ us = [.str y] | .bo i j => x = "both" /\ us = [.int i,.int j]):=by
 cases r with
 | no =>
   obtain ⟨a,vs,e1,e2,u1,r1,q1,h1,h2⟩:=h
   have h1:u1 = .str "none":=h1
   have h2:r1 = []:=h2
   subst h2 q1 h1
   exact ⟨a,_,_,e1,e2,rfl,rfl⟩
 | nm y =>
   obtain ⟨a,vs,e1,e2,u1,r1,q1,h1,u2,r2,q2,h2,h3⟩:=h
   have h1:u1 = .str "name":=h1
   have h2:u2 = .str y:=h2
   have h3:r2 = []:=h3
   subst h3 q2 q1 h1 h2
   exact ⟨a,_,_,e1,e2,rfl,rfl⟩
 | bo i j =>
   obtain ⟨a,vs,e1,e2,u1,r1,q1,h1,u2,r2,q2,h2,u3,r3,q3,h3,h4⟩:=h
   have h1:u1 = .str "both":=h1
   have h2:u2 = .int i:=h2
   have h3:u3 = .int j:=h3
   have h4:r3 = []:=h4
   subst h4 q3 q2 q1 h1 h2 h3
   exact ⟨a,_,_,e1,e2,rfl,rfl⟩
def ptsR:Rw -> List Int
 | .bo i j => [i,j]
 | _ => []
theorem xW {rows:List Rw} {n:Int} {r:Rw} (h:n % 2 = 0) (hr:rows[(n / 2).toNat]? = some r):jO rows n = ptsR r:=by
 unfold jO
 rw [if_pos h,hr]
 cases r <;> rfl
theorem said_pos {ls:List Ln} {k:Nat} {i:Int} {l:Ln} (h:0 <= i /\ i < (k:Int)) (hl:ls[i.toNat]? = some l):yF ls k (.n i) = some (l.i,l.j):=by
 show (if 0 <= i /\ i < (k:Int) then (ls[i.toNat]?).map fun l => (l.i,l.j) else none) = _
 rw [if_pos h,hl]
 rfl
theorem said_neg {ls:List Ln} {k:Nat} {i:Int} (h:¬ (0 <= i /\ i < (k:Int))):yF ls k (.n i) = none:=by
 show (if 0 <= i /\ i < (k:Int) then (ls[i.toNat]?).map fun l => (l.i,l.j) else none) = _
 rw [if_neg h]
def isN:Wt -> Bool
 | .n _ => true
 | .ps _ => false
def spWh:Sp:=fun vs H Q _ => ∃ (v:V) (x:Wt),vs = [v] /\ DAt H (dWt x) v /\ Q (.bl (isN x)) H
def spBel:Sp:=fun vs H Q _ => ∃ (v:V) (x:Wt) (b:Int),vs = [v,.int b] /\ DAt H (dWt x) v /\ Q (.bl (vA b x)) H
section
variable {P:Program} {w:World} {K:PySem.W.Frag} {mg:Str -> Option Value} {base:Heap} {f:Addr} {fd:FuncData}
theorem ok_is_whole (bi:Bi mg) (F:Fun K "is_whole" "is_whole" s_A f fd):FnOk P w K mg base CX0 1 f fd ["n"] spWh:=by
 refine F.ok sc_A (fun vs H Q E h => ?_) (fun cdv A outer s H vs Q E hr h => ?_)
 · obtain ⟨v, x, rfl, _⟩ := h
   rfl
 obtain ⟨v,x,rfl,hv,q⟩:=h
 refine ⟨_,(zE (zQ (xI (zK (yY (T:="int")) rfl bi.isinstance bt_isinstance (zA (pv 0) (zA (jV bi.int bt_int rfl) pa_nil))) (qC (pe_not (zK (yY (T:="bool")) rfl bi.isinstance bt_isinstance (zA (pv 0) (zA (jV bi.bool bt_bool rfl) pa_nil)))))))),?_⟩
 cases x with
 | n i =>
   have e:v = .int i:=hv
   subst e
   simp! []
   exact ⟨_,.int i,true,xN,iteT ⟨_,.int i,false,ZU,q⟩⟩
 | ps l =>
   obtain ⟨a,us,rfl,ha,hu⟩:=hv
   simp! []
   exact ⟨_,.tup ha,false,kit_ti,iteF q⟩
theorem ok_is_below (bi:Bi mg) (h_A:Has P w K mg base 1 "is_whole" ["n"] spWh) (F:Fun K "is_below" "is_below" s_B f fd):FnOk P w K mg base CX0 2 f fd ["n","bound"] spBel:=by
 refine F.ok sc_B (fun vs H Q E h => ?_) (fun cdv A outer s H vs Q E hr h => ?_)
 · obtain ⟨v, x, b, rfl, _⟩ := h
   rfl
 obtain ⟨v,x,b,rfl,hv,q⟩:=h
 refine ⟨_,(zE (zQ (xI (zR h_A (hr.mono (by omega)) rfl (zA (pv 0) pa_nil)) (qC (pe_chain op_le op_lt zB (pv 0) (pv 1)))))),?_⟩
 simp! [spWh]
 refine ⟨x,hv,?_⟩
 cases x with
 | n i =>
   have e:v = .int i:=hv
   subst e
   rw [show isN (.n i) = true from rfl,if_pos rfl]
   have q:Q (.bl (decide (0 <= i) && decide (i < b))) H:=q
   refine ⟨i,rfl,?_⟩
   split
   · rename_i h
     rw [decide_eq_true h,Bool.true_and] at q
     exact ⟨i,rfl,q⟩
   · rename_i h
     rw [decide_eq_false h,Bool.false_and] at q
     exact q
 | ps l =>
   rw [show isN (.ps l) = false from rfl,if_neg Bool.false_ne_true]
   exact q
end
theorem YD (p q:Pr):deq (dPr p) (dPr q) = (p == q):=by
 obtain ⟨a,b⟩:=p
 obtain ⟨c,d⟩:=q
 simp only [dPr,deq,deqs,Bool.and_true]
 rfl
theorem deq_sd (o:Option Pr) (q:Pr):deq (dSd o) (dPr q) = (o == some q):=by
 cases o with
 | none => rfl
 | some p => exact YD p q
theorem YB (n:Nat) (p:Pr):DFit (n + 1) (dPr p):=⟨by simp,fun d hd => by
 simp only [List.mem_cons,List.not_mem_nil,or_false] at hd
 rcases hd with rfl | rfl <;> (cases n <;> trivial)⟩
theorem fit_sd (n:Nat) (o:Option Pr):DFit (n + 1) (dSd o):=by
 cases o with
 | none => trivial
 | some p => exact YB n p
theorem dints (H:Hp):∀ l:List Int,DAts H (l.map Dt.int) (l.map V.int)
 | [] => rfl
 | x :: l => ⟨_,_,rfl,rfl,dints H l⟩
theorem prAt {H:Hp} {p:Pr} {v:V} (h:DAt H (dPr p) v):∃ a,v = .ref a /\ H a = some (.tup [.int p.1,.int p.2]):=by
 obtain ⟨a,vs,e1,e2,u1,r1,q1,h1,u2,r2,q2,h2,h3⟩:=h
 have h1:u1 = .int p.1:=h1
 have h2:u2 = .int p.2:=h2
 have h3:r2 = []:=h3
 subst h3 q2 q1 h1 h2
 exact ⟨a,e1,e2⟩
def bothB (rows:List Rw) (i j:Int) (sd:List Pr):Bool:=match jO rows j with | [a,b] => sd == [(i,a),(i,b)] | _ => false
def spStep:Sp:=fun vs H Q _ => ∃ (a ra la:Addr) (us vs' ws:List V) (rows:List Rw) (rules:List yA) (ls:List Ln) (k:Nat) (l:Ln),vs = [.ref a,.ref ra,.ref la,.int k] /\ H a = some (.lst us) /\ jZ H rows us /\ H ra = some (.lst vs') /\ DAts H (rules.map dNR) vs' /\ H la = some (.lst ws) /\ jL H ls ws /\ ls[k]? = some l /\
 l.as.length <= 900 /\ (∀ ps,Wt.ps ps ∈ l.as -> ps.length <= 900) /\ ∀ H',Same H H' -> Q (.bl (yO rows rules ls k l)) H'
section
variable {P:Program} {w:World} {K:PySem.W.Frag} {mg:Str -> Option Value} {base:Heap} {f:Addr} {fd:FuncData}
end
theorem nrAt {H:Hp} {r:yA} {v:V} (h:DAt H (dNR r) v):∃ a l b us,v = .ref a /\ H a = some (.tup [.ref l,.ref b]) /\ H l = some (.lst us) /\ DAts H (r.1.map dPr) us /\ H b = some (.tup [.int r.2.1,.int r.2.2]):=by
 obtain ⟨a,vs,e1,e2,u1,r1,q1,⟨l,us,g1,g2,g3⟩,u2,r2,q2,h2,h3⟩:=h
 obtain ⟨b,g4,g5⟩:=prAt h2
 have h3:r2 = []:=h3
 subst h3 q2 q1 g1 g4
 exact ⟨a,l,b,us,e1,e2,g2,g3,g5⟩
theorem kit_it {K:PySem.W.Frag}:PySem.W.kitOne K (.type "int") (.type "tuple") = some false:=kit_f (by decide +kernel)
theorem wJ {rules:List yA} {ls:List Ln} {k:Nat} {l:Ln} (h:l.as.length ≠ 2):xA rules ls k l = false:=by
 unfold xA
 split
 · rename_i e
   rw [e] at h
   exact absurd rfl h
 · rfl
theorem rul_eq {rules:List yA} {ls:List Ln} {k:Nat} {l:Ln} {r:Int} {ps:List Int} (h:l.as = [.n r,.ps ps]):xA rules ls k l = if 0 <= r /\ r < rules.length then (match rules[r.toNat]? with | some q => (l.i,l.j) == q.2 && (ps.map fun p => yF ls k (.n p)) == q.1.map some | none => false) else false:=by
 unfold xA
 rw [h] <;> rfl
theorem rul_bad {rules:List yA} {ls:List Ln} {k:Nat} {l:Ln} {x y:Wt} (h:l.as = [x,y]) (hb:vA rules.length x = false \/ ∃ i,y = .n i):xA rules ls k l = false:=by
 unfold xA
 rw [h]
 cases x with
 | ps z => rfl
 | n r =>
   cases y with
   | n i => rfl
   | ps z =>
     have hb:=hb.resolve_right (by rintro ⟨i,e⟩; cases e)
     have:¬ (0 <= r /\ r < (rules.length:Int)):=fun z => by simp [vA,z.1,z.2] at hb
     show (if 0 <= r /\ r < (rules.length:Int) then _ else false) = false
     rw [if_neg this]
theorem bel_iff (b i:Int):vA b (.n i) = false ↔ ¬ (0 <= i /\ i < b):=by
 show (decide (0 <= i) && decide (i < b)) = false ↔ _
 rw [Bool.eq_false_iff,ne_eq,Bool.and_eq_true,decide_eq_true_eq,decide_eq_true_eq]
section
variable {P:Program} {w:World} {K:PySem.W.Frag} {mg:Str -> Option Value} {base:Heap} {f:Addr} {fd:FuncData}
end
abbrev s_t:Stmt:=top 25
theorem sc_t:FnScope ["n"] ["n"] (zG s_t):=⟨rfl,rfl,rfl,by decide +kernel,rfl,by decide +kernel,by decide +kernel⟩
abbrev s_w:Stmt:=top 27
theorem sc_w:FnScope ["lines","p","k"] ["lines","p","k"] (zG s_w):=⟨rfl,rfl,rfl,by decide +kernel,rfl,by decide +kernel,by decide +kernel⟩
abbrev s_o:Stmt:=top 28
theorem sc_o:FnScope ["rules","lines","k","r","ps","p","due"] ["rules","lines","k"] (zG s_o):=⟨rfl,rfl,rfl,by decide +kernel,rfl,by decide +kernel,by decide +kernel⟩
abbrev s_p:Stmt:=top 29
theorem sc_p:FnScope ["rows","i","j","word","row"] ["rows","i","j","word"] (zG s_p):=⟨rfl,rfl,rfl,by decide +kernel,rfl,by decide +kernel,by decide +kernel⟩
abbrev s_x:Stmt:=top 30
theorem sc_x:FnScope ["rows","rules","lines","k","i","j","why","one","other","row"] ["rows","rules","lines","k"] (zG s_x):=⟨rfl,rfl,rfl,by decide +kernel,rfl,by decide +kernel,by decide +kernel⟩
def spTurned:Sp:=fun vs H Q _ => ∃ n:Int,vs = [.int n] /\ Q (.int (tn1 n)) H
def spAhead:Sp:=fun vs H Q _ => ∃ (la:Addr) (us:List V) (v:V) (x:Wt) (ls:List Ln) (k:Nat),vs = [.ref la,v,.int k] /\ H la = some (.lst us) /\ jL H ls us /\ k <= ls.length /\ DAt H (dWt x) v /\ ∀ v' H',Same H H' -> DAt H' (dSd (yF ls k x)) v' -> Q v' H'
def YH (rows:List Rw) (i j:Int) (x:Str):Bool:=if x = "same" then i == j else if x = "edge" then i == 0 || j == 1 else decide (x = "part") && (jO rows i).any fun z => z == j
def spNone:Sp:=fun vs H Q _ => ∃ (a:Addr) (us:List V) (rows:List Rw) (i j:Int) (x:Str),vs = [.ref a,.int i,.int j,.str x] /\ H a = some (.lst us) /\ jZ H rows us /\ 0 <= i /\ i < 2 * rows.length /\ ∀ H',Same H H' -> Q (.bl (YH rows i j x)) H'
def spByR:Sp:=fun vs H Q _ => ∃ (ra la:Addr) (us ws:List V) (rules:List yA) (ls:List Ln) (k:Nat) (l:Ln),vs = [.ref ra,.ref la,.int k] /\ H ra = some (.lst us) /\ DAts H (rules.map dNR) us /\ H la = some (.lst ws) /\ jL H ls ws /\ ls[k]? = some l /\ l.as.length = 2 /\
 ∀ H',Same H H' -> Q (.bl (xA rules ls k l)) H'
section
variable {P:Program} {w:World} {K:PySem.W.Frag} {mg:Str -> Option Value} {base:Heap} {f:Addr} {fd:FuncData}
theorem ok_turned (bi:Bi mg) (F:Fun K "_law_turned" "_law_turned" s_t f fd):FnOk P w K mg base CX0 1 f fd ["n"] spTurned:=by
 refine F.ok sc_t (fun vs H Q E h => ?_) (fun cdv A outer s H vs Q E hr h => ?_)
 · obtain ⟨n, rfl, _⟩ := h
   rfl
 obtain ⟨n,rfl,q⟩:=h
 refine ⟨_,(zE (zQ (zO op_sub (zO op_add (pv 0) zB) (zO op_mul zB (zO op_mod (pv 0) zB))))),?_⟩
 simp! []
 exact ⟨by decide,.inl ⟨by decide,by decide⟩,q⟩
theorem ok_ahead (bi:Bi mg) (F:Fun K "_law_ahead" "_law_ahead" s_w f fd):FnOk P w K mg base CX0 1 f fd ["lines","p","k"] spAhead:=by
 refine F.ok sc_w (fun vs H Q E h => ?_) (fun cdv A outer s H vs Q E hr h => ?_)
 · obtain ⟨la, us, v, x, ls, k, rfl, _⟩ := h
   rfl
 obtain ⟨la,us,v,x,ls,k,rfl,hla,hls,hk,hv,q⟩:=h
 have hll:=yK hls
 refine ⟨_,(zD (yI (PW.pt (jB (xC (zK (yY (T:="int")) rfl bi.isinstance bt_isinstance (zA (pv 1) (zA (jV bi.int bt_int rfl) pa_nil)))) (jB (jC (xC (zK (yY (T:="bool")) rfl bi.isinstance bt_isinstance (zA (pv 1) (zA (jV bi.bool bt_bool rfl) pa_nil))))) (jB (zN op_ge (pv 1) zB (zL _)) (jN (zN op_lt (pv 1) (pv 2) (zL _))))))) (zE (zQ (zX (zA (zI ix_tup (zI ix_list (pv 0) (pv 1) (fun _ _ => rfl)) zB (fun _ _ => rfl)) (zA (zI ix_tup (zI ix_list (pv 0) (pv 1) (fun _ _ => rfl)) zB (fun _ _ => rfl)) pa_nil))))) pss_nil) (zE (zQ uH))),?_⟩
 cases x with
 | ps z =>
   obtain ⟨a,us',rfl,ha,hu⟩:=hv
   simp! []
   exact ⟨_,.tup ha,false,kit_ti,iteF (q _ _ (Same.refl H) rfl)⟩
 | n i =>
   have e:v = .int i:=hv
   subst e
   simp! []
   refine ⟨_,.int i,true,xN,iteT ⟨_,.int i,false,ZU,?_⟩⟩
   rw [if_pos rfl]
   have no:¬ (0 <= i /\ i < (k:Int)) -> Q .non H:=fun h => q _ _ (Same.refl H) (by rw [said_neg h]; rfl)
   split
   · rename_i c1
     split
     · rename_i c2
       have hi:i.toNat < us.length:=by omega
       obtain ⟨l,hl1,hl2⟩:=yW hls (List.getElem?_eq_getElem hi)
       obtain ⟨ba,bb,bu,e1,e2,e3,e4⟩:=LnAt.out hl2
       have hat:atI us i = some (.ref ba):=jK c1 (by rw [List.getElem?_eq_getElem hi,e1])
       refine ⟨_,SqL.of hla,_,hat,ba,rfl,_,SqT.of e2,_,at0,_,SqL.of hla,_,hat,ba,rfl,_,SqT.of e2,_,at1,small (by simp),fun p hp => ?_⟩
       exact q _ _ (zF hp _) (by rw [said_pos ⟨c1,c2⟩ hl1]; exact ⟨p,_,rfl,zC,_,_,rfl,rfl,_,_,rfl,rfl,rfl⟩)
     · rename_i c2
       exact no fun z => c2 z.2
   · rename_i c1
     exact no fun z => c1 z.1
theorem ok_by_none (bi:Bi mg) (F:Fun K "_law_by_none" "_law_by_none" s_p f fd):FnOk P w K mg base CX0 1 f fd ["rows","i","j","word"] spNone:=by
 refine F.ok sc_p (fun vs H Q E h => ?_) (fun cdv A outer s H vs Q E hr h => ?_)
 · obtain ⟨a, us, rows, i, j, x, rfl, _⟩ := h
   rfl
 obtain ⟨a,us,rows,i,j,x,rfl,ha,hrw,h0,h1,q⟩:=h
 have hul:=yK hrw
 refine ⟨_,(zD (yI (zN op_eq (pv 3) yB (zL _)) (zE (zQ (yP op_eq (pv 1) (pv 2) (zL _)))) pss_nil) (zD (yI (zN op_eq (pv 3) yB (zL _)) (zE (zQ (pe_or (yP op_eq (pv 1) zB (zL _)) (qC (yP op_eq (pv 2) zB (zL _)))))) pss_nil) (zD (zP (i:=4) sc_p.nd rfl (Or.inl rfl) (zI ix_list (pv 0) (zO op_fdiv (pv 1) zB) (fun _ _ => rfl))) (zE (zQ (xI (yP op_eq (pv 3) yB (zL _)) (xI (yP op_eq (zO op_mod (pv 1) zB) zB (zL _)) (xI (yP op_eq (zI ix_tup (pv 4) zB (fun _ _ => rfl)) yB (zL _)) (qC (yP (op_inG hr.units) (pv 2) (jD sl_tup (pv 4) (qB zB) po_none) (by with_unfolding_all rfl))))))))))),?_⟩
 simp! []
 unfold YH at q
 refine ⟨rfl,?_⟩
 split
 · rename_i c
   rw [if_pos c] at q
   exact ⟨rfl,by have:=q _ (Same.refl H); rwa [show (i == j) = decide (i = j) from rfl] at this⟩
 rename_i c1
 rw [if_neg c1] at q
 refine ⟨rfl,?_⟩
 split
 · rename_i c
   rw [if_pos c] at q
   have q:=q _ (Same.refl H)
   refine ⟨rfl,?_⟩
   split
   · rename_i c3
     rw [c3] at q
     simpa using q
   · rename_i c3
     refine ⟨rfl,?_⟩
     have e:(i == 0 || j == 1) = decide (j = 1):=by rw [Bool.eq_iff_iff]; simp [c3]
     rwa [e] at q
 rename_i c2
 rw [if_neg c2] at q
 have hk:(i / 2).toNat < us.length:=by omega
 obtain ⟨r,hr1,hr2⟩:=yW hrw (List.getElem?_eq_getElem hk)
 refine ⟨⟨by decide,by decide⟩,_,SqL.of ha,us[(i / 2).toNat],jK (by omega) (List.getElem?_eq_getElem hk),?_⟩
 generalize us[(i / 2).toNat] = rv at hr2
 refine ⟨rfl,?_⟩
 split
 · rename_i c
   rw [decide_eq_true c] at q
   have no:jO rows i = [] -> Q (.bl false) H:=fun e => by
     have:=q _ (Same.refl H)
     rw [e] at this
     exact this
   refine ⟨by decide,rfl,?_⟩
   split
   · rename_i h2
     obtain ⟨ra,x',vs,rfl,hra,hcase⟩:=RwAt.out hr2
     have pe:=xW h2 hr1
     refine ⟨ra,rfl,_,SqT.of hra,.str x',at0,rfl,?_⟩
     cases r with
     | bo u v =>
       obtain ⟨rfl,rfl⟩:=hcase
       rw [if_pos rfl]
       refine ⟨ra,rfl,_,SqT.of hra,wF _ _,fun p hp => ?_⟩
       rw [uZ]
       refine ⟨0,.int j,[u,v].map .int,rfl,.inr ⟨p,_,rfl,zC,dints _ [u,v]⟩,fun d hd => ?_,by decide,?_⟩
       · obtain ⟨z, _, rfl⟩ := List.mem_map.mp hd
         trivial
       · have hq := q _ (zF hp (.tup [.int u, .int v]))
         rw [pe,Bool.true_and] at hq
         rw [Bool.false_xor,List.any_map]
         have e:((fun e => deq e (Dt.int j)) ∘ Dt.int) = fun x => x == j:=by funext z; simp [deq]
         rw [e]
         exact hq
     | no =>
       obtain ⟨rfl,rfl⟩:=hcase
       rw [if_neg (by intro z; exact absurd (V.str.inj z) (by decide +kernel))]
       exact no pe
     | nm y =>
       obtain ⟨rfl,rfl⟩:=hcase
       rw [if_neg (by intro z; exact absurd (V.str.inj z) (by decide +kernel))]
       exact no pe
   · rename_i h2
     exact no (by unfold jO; rw [if_neg h2])
 · rename_i c
   have:=q _ (Same.refl H)
   rwa [decide_eq_false c,Bool.false_and] at this
theorem ok_by_rule (bi:Bi mg) (bz:mg "zip" = none) (h_w:Has P w K mg base 1 "_law_ahead" ["lines","p","k"] spAhead) (F:Fun K "_law_by_rule" "_law_by_rule" s_o f fd):FnOk P w K mg base CX0 2 f fd ["rules","lines","k"] spByR:=by
 refine F.ok sc_o (fun vs H Q E h => ?_) (fun cdv A outer s H vs Q E hr h => ?_)
 · obtain ⟨ra, la, us, ws, rules, ls, k, l, rfl, _⟩ := h
   rfl
 obtain ⟨ra,la,us,ws,rules,ls,k,l,rfl,hra,hru,hla,hls,hk,h2,q⟩:=h
 have hll:=yK hls
 have hrl:=yK hru
 have hkl:=(List.getElem?_eq_some_iff.mp hk).1
 obtain ⟨v,hv1,hv2⟩:=DAts.get (d:=dLn l) hls (by rw [List.getElem?_map,hk]; rfl)
 obtain ⟨ba,bb,bu,rfl,e2,e3,e4⟩:=LnAt.out hv2
 obtain ⟨x,y,has⟩:∃ x y,l.as = [x,y]:=by
   match h:l.as,h2 with
   | [x,y],_ => exact ⟨x,y,rfl⟩
 rw [has] at e4
 obtain ⟨u1,r1,rfl,d1,u2,r2,rfl,d2,d3⟩:=e4
 have d3:r2 = []:=d3
 subst d3
 have at2:∀ {a b c:V},atI [a,b,c] 2 = some c:=zZ (j:=2) rfl
 refine ⟨_,(zD (zP (i:=3) sc_o.nd rfl (Or.inl rfl) (zI ix_tup (zI ix_tup (zI ix_list (pv 1) (pv 2) (fun _ _ => rfl)) zB (fun _ _ => rfl)) zB (fun _ _ => rfl))) (zD (zP (i:=4) sc_o.nd rfl (Or.inl rfl) (zI ix_tup (zI ix_tup (zI ix_list (pv 1) (pv 2) (fun _ _ => rfl)) zB (fun _ _ => rfl)) zB (fun _ _ => rfl))) (zD (yI (PW.pt (qF (jC (xC (zK (yY (T:="int")) rfl bi.isinstance bt_isinstance (zA (pv 3) (zA (jV bi.int bt_int rfl) pa_nil))))) (qF (xC (zK (yY (T:="bool")) rfl bi.isinstance bt_isinstance (zA (pv 3) (zA (jV bi.bool bt_bool rfl) pa_nil)))) (qF (zN op_lt (pv 3) zB (zL _)) (qI (zN op_ge (pv 3) (zK call_len rfl bi.len bt_len (zA (pv 0) pa_nil)) (zL _))))))) (zE (zQ xG)) pss_nil) (zD (yI (PW.pt (qF (jC (xC (zK (yY (T:="tuple")) rfl bi.isinstance bt_isinstance (zA (pv 4) (zA (jV bi.tuple bt_tuple rfl) pa_nil))))) (qI (zN op_ne (zK call_len rfl bi.len bt_len (zA (pv 4) pa_nil)) (zK call_len rfl bi.len bt_len (zA (zI ix_tup (zI ix_list (pv 0) (pv 3) (fun _ _ => rfl)) zB (fun _ _ => rfl)) pa_nil)) (zL _))))) (zE (zQ xG)) pss_nil) (zD (yR PassesOwn.never rfl (pi_zip rfl bz (zA (pv 4) (zA (zI ix_tup (zI ix_list (pv 0) (pv 3) (fun _ _ => rfl)) zB (fun _ _ => rfl)) pa_nil))) (uG rfl (yL (zM (i:=5) sc_o.nd rfl (Or.inl rfl)) (yL (zM (i:=6) sc_o.nd rfl (Or.inl rfl)) pgs_nil))) (zE (yI (zN (op_neG hr.units) (zR h_w (hr.mono (by omega)) rfl (zA (pv 1) (zA (pv 5) (zA (pv 2) pa_nil)))) (pv 6) (zL _)) (zE (zQ xG)) pss_nil))) (zE (zQ (yP (uI hr.units) (zI ix_tup (zI ix_list (pv 0) (pv 3) (fun _ _ => rfl)) zB (fun _ _ => rfl)) (zX (zA (zI ix_tup (zI ix_list (pv 1) (pv 2) (fun _ _ => rfl)) zB (fun _ _ => rfl)) (zA (zI ix_tup (zI ix_list (pv 1) (pv 2) (fun _ _ => rfl)) zB (fun _ _ => rfl)) pa_nil))) (zL _))))))))),?_⟩
 refine zJ fun N hN => ?_
 simp! []
 refine ⟨_,SqL.of hla,_,zZ hv1,_,rfl,_,SqT.of e2,_,at2,_,rfl,_,SqT.of e3,_,at1,hN _ _ ?_⟩
 refine zJ fun N hN => ?_
 simp! []
 refine ⟨_,SqL.of hla,_,zZ hv1,_,rfl,_,SqT.of e2,_,at2,_,rfl,_,SqT.of e3,_,at2,hN _ _ ?_⟩
 refine zJ fun N hN => ?_
 simp! []
 have bad:(vA rules.length x = false \/ ∃ i,y = .n i) -> Q (.bl false) H:=fun h => by
   have:=q _ (Same.refl H)
   rwa [rul_bad has h] at this
 cases x with
 | ps z =>
   obtain ⟨ua,uu,rfl,hua,huu⟩:=d1
   refine ⟨_,.tup hua,false,kit_ti,?_⟩
   rw [if_pos rfl]
   exact bad (.inl rfl)
 | n r =>
   have e:u1 = .int r:=d1
   subst e
   refine ⟨_,.int r,true,xN,?_⟩
   rw [if_neg (by decide)]
   refine ⟨_,.int r,false,ZU,?_⟩
   rw [if_neg (by decide)]
   refine ⟨r,rfl,?_⟩
   by_cases c1:r < 0
   · rw [if_pos c1]
     exact bad (.inl ((bel_iff _ _).mpr (by omega)))
   rw [if_neg c1]
   refine ⟨rules.length,.inl ⟨_,SqL.of hra,hrl.symm⟩,r,rfl,?_⟩
   by_cases c2:(rules.length:Int) <= r
   · rw [if_pos c2]
     exact bad (.inl ((bel_iff _ _).mpr (by omega)))
   rw [if_neg c2]
   have hb2:0 <= r /\ r < (rules.length:Int):=by omega
   have hri:r.toNat < us.length:=by omega
   obtain ⟨nr,hn1,hn2⟩:=yW hru (List.getElem?_eq_getElem hri)
   obtain ⟨xa,xl,xb,xu,f1,f2,f3,f4,f5⟩:=nrAt hn2
   have hat:atI us r = some (.ref xa):=jK hb2.1 (by rw [List.getElem?_eq_getElem hri,f1])
   have hxl:=yK f4
   refine hN _ _ ?_
   refine zJ fun N hN => ?_
   simp! []
   cases y with
   | n i =>
     have e:u2 = .int i:=d2
     subst e
     refine ⟨_,.int i,false,kit_it,?_⟩
     rw [if_pos rfl]
     exact bad (.inr ⟨i,rfl⟩)
   | ps ps =>
     obtain ⟨pa,pu,rfl,hpa,hpu⟩:=d2
     have hpl:=yK hpu
     rw [rul_eq has,if_pos hb2,hn1] at q
     dsimp only at q
     refine ⟨_,.tup hpa,true,xN,?_⟩
     rw [if_neg (by decide)]
     refine ⟨pu.length,.inr ⟨_,SqT.of hpa,rfl⟩,_,SqL.of hra,_,hat,xa,rfl,_,SqT.of f2,_,at0,xu.length,.inl ⟨_,SqL.of f3,rfl⟩,rfl,?_⟩
     by_cases c3:pu.length = xu.length
     case neg =>
       rw [if_pos (by omega)]
       have:=q _ (Same.refl H)
       rw [show ((ps.map fun p => yF ls k (.n p)) == nr.1.map some) = false from by
         rw [beq_eq_false_iff_ne]
         intro z
         have:=congrArg List.length z
         rw [List.length_map,List.length_map] at this
         omega,Bool.and_false] at this
       exact this
     rw [if_neg (by omega)]
     refine hN _ _ ?_
     refine yE (fun σ H' => Same H H' /\ (ps.map fun p => yF ls k (.n p)) = nr.1.map some /\ ∃ o1 o2,σ = [some (V.ref ra),some (V.ref la),some (V.int k),some (V.int r),some (V.ref pa),o1,o2]) (fun N hN => ?_) (fun σ H' h => ?_)
     · simp! [iZip]
       refine ⟨_,SqL.of hra,_,hat,xa,rfl,_,SqT.of f2,_,at0,xl,rfl,pu,hpa,xu,f3,?_⟩
       refine fw_zip (xs:=pu) (ys:=xu) (fun i σ H' => Same H H' /\ ((ps.take i).map fun p => yF ls k (.n p)) = (nr.1.take i).map some /\ ∃ o1 o2,σ = [some (V.ref ra),some (V.ref la),some (V.int k),some (V.int r),some (V.ref pa),o1,o2]) ⟨Same.refl _,rfl,_,_,rfl⟩ (fun i σ H' h => ⟨h.1 _ _ hpa,h.1 _ _ f3⟩) (fun i x y σ H' p hx hy h hp => ?_) (fun σ H' h => ?_)
       · obtain ⟨es, hsd, o1, o2, rfl⟩ := h
         obtain ⟨pi,hp1,hp2⟩:=yW (f:=Dt.int) hpu hx
         obtain ⟨du,hd1,hd2⟩:=yW f4 hy
         simp! [spAhead,wT,uE,gNil]
         have g1:=es.trans (zF hp (.tup [x,y]))
         refine ⟨[x,y],SqT.of zC,rfl,x,[y],rfl,y,[],rfl,rfl,ws,.n pi,ls,k,rfl,g1 _ _ hla,DAts.same g1 hls,by omega,DAt.same g1 hp2,fun v' H2 m2 hv' => ?_⟩
         have m02:=g1.trans m2
         refine ⟨0,dSd (yF ls k (.n pi)),dPr du,hv',DAt.same m02 hd2,fit_sd 0 _,by decide,_,rfl,?_⟩
         rw [deq_sd]
         by_cases c:yF ls k (.n pi) = some du
         · rw [beq_iff_eq.mpr c, if_neg (by decide)]
           obtain ⟨il,ie⟩:=List.getElem?_eq_some_iff.mp hp1
           obtain ⟨jl,je⟩:=List.getElem?_eq_some_iff.mp hd1
           refine ⟨m02,?_,_,rfl⟩
           rw [List.take_succ_eq_append_getElem il,List.take_succ_eq_append_getElem jl,List.map_append,List.map_append,hsd,ie,je]
           show _ ++ [yF ls k (.n pi)] = _ ++ [some du]
           rw [c]
         · rw [beq_eq_false_iff_ne.mpr c, if_pos (by decide)]
           have hq:=q _ m02
           rw [show ((ps.map fun p => yF ls k (.n p)) == nr.1.map some) = false from by
             rw [beq_eq_false_iff_ne]
             intro z
             have:=congrArg (fun l => l[i]?) z
             simp only [List.getElem?_map,hp1,hd1,Option.map_some] at this
             exact c (Option.some.inj this),Bool.and_false] at hq
           exact hq
       · obtain ⟨es, hsd, o1, o2, rfl⟩ := h
         rw [show ps.take (min pu.length xu.length) = ps from List.take_of_length_le (by omega),show nr.1.take (min pu.length xu.length) = nr.1 from List.take_of_length_le (by omega)] at hsd
         exact hN _ _ ⟨es,hsd,_,_,rfl⟩
     · obtain ⟨es, hsd, o1, o2, rfl⟩ := h
       simp! []
       refine ⟨_,SqL.of (es _ _ hra),_,hat,xa,rfl,_,SqT.of (es _ _ f2),_,at1,_,SqL.of (es _ _ hla),_,zZ hv1,ba,rfl,_,SqT.of (es _ _ e2),_,at0,_,SqL.of (es _ _ hla),_,zZ hv1,ba,rfl,_,SqT.of (es _ _ e2),_,at1,small (by simp),fun p hp => ?_⟩
       have g1:=zF hp (.tup [.int l.i,.int l.j])
       refine ⟨0,dPr nr.2,dPr (l.i,l.j),⟨xb,_,rfl,(es.trans g1) _ _ f5,_,_,rfl,rfl,_,_,rfl,rfl,rfl⟩,⟨p,_,rfl,zC,_,_,rfl,rfl,_,_,rfl,rfl,rfl⟩,YB 0 _,by decide,?_⟩
       have hq:=q _ (es.trans g1)
       rw [hsd,beq_self_eq_true,Bool.and_true] at hq
       rw [YD,show (nr.2 == (l.i,l.j)) = ((l.i,l.j) == nr.2) from by rw [Bool.eq_iff_iff,beq_iff_eq,beq_iff_eq,eq_comm]]
       exact hq
end
theorem uQ {rows:List Rw} {rules:List yA} {ls:List Ln} {k:Nat} {l:Ln} (h1:0 <= l.i /\ l.i < 2 * (rows.length:Int)) (h2:0 <= l.j /\ l.j < 2 * (rows.length:Int)):yO rows rules ls k l = if l.w = "rule" then xA rules ls k l else if named l.w = some (l.as.length:Int) /\ (l.as.all fun a => (yF ls k a).isSome) = true then zW rows l.i l.j l.w (l.as.filterMap (yF ls k)) else false:=by
 unfold yO
 rw [if_neg (fun z => z.elim (fun z => z h1) fun z => z h2)]
theorem uP {rows:List Rw} {rules:List yA} {ls:List Ln} {k:Nat} {l:Ln} (h:¬ (0 <= l.i /\ l.i < 2 * (rows.length:Int)) \/ ¬ (0 <= l.j /\ l.j < 2 * (rows.length:Int))):yO rows rules ls k l = false:=by
 unfold yO
 rw [if_pos h]
theorem jP (x:Str):(x = "same" /\ named x = some 0) \/ (x = "edge" /\ named x = some 0) \/ (x = "part" /\ named x = some 0) \/ (x = "both" /\ named x = some 2) \/ (x = "turn" /\ named x = some 1) \/ (x = "chain" /\ named x = some 2) \/ (x = "clash" /\ named x = some 1) \/ ((x ≠ "same" /\ x ≠ "edge" /\ x ≠ "part" /\ x ≠ "both" /\ x ≠ "turn" /\ x ≠ "chain" /\ x ≠ "clash") /\ named x = none):=by
 by_cases h1:x = "same"
 · subst h1; exact .inl ⟨rfl,by decide +kernel⟩
 by_cases h2:x = "edge"
 · subst h2; exact .inr (.inl ⟨rfl,by decide +kernel⟩)
 by_cases h3:x = "part"
 · subst h3; exact .inr (.inr (.inl ⟨rfl,by decide +kernel⟩))
 by_cases h4:x = "both"
 · subst h4; exact .inr (.inr (.inr (.inl ⟨rfl,by decide +kernel⟩)))
 by_cases h5:x = "turn"
 · subst h5; exact .inr (.inr (.inr (.inr (.inl ⟨rfl,by decide +kernel⟩))))
 by_cases h6:x = "chain"
 · subst h6; exact .inr (.inr (.inr (.inr (.inr (.inl ⟨rfl,by decide +kernel⟩)))))
 by_cases h7:x = "clash"
 · subst h7; exact .inr (.inr (.inr (.inr (.inr (.inr (.inl ⟨rfl,by decide +kernel⟩))))))
 refine .inr (.inr (.inr (.inr (.inr (.inr (.inr ⟨⟨h1,h2,h3,h4,h5,h6,h7⟩,?_⟩))))))
 unfold named
 rw [if_neg h1,if_neg h2,if_neg h3,if_neg h4,if_neg h5,if_neg h6,if_neg h7]
theorem rule_ne:("rule" : Str) ≠ "same" /\ ("rule" : Str) ≠ "edge" /\ ("rule" : Str) ≠ "part" /\ ("rule" : Str) ≠ "both" /\ ("rule" : Str) ≠ "turn" /\ ("rule" : Str) ≠ "chain" /\ ("rule" : Str) ≠ "clash":=by decide +kernel
theorem from_same {rows:List Rw} {i j:Int} {sd:List Pr}:zW rows i j "same" sd = (i == j):=by unfold zW; rw [if_pos rfl]
theorem from_edge {rows:List Rw} {i j:Int} {sd:List Pr}:zW rows i j "edge" sd = (i == 0 || j == 1):=by unfold zW; rw [if_neg (by decide +kernel),if_pos rfl]
theorem from_part {rows:List Rw} {i j:Int} {sd:List Pr}:zW rows i j "part" sd = (jO rows i).any fun x => x == j:=by unfold zW; rw [if_neg (by decide +kernel),if_neg (by decide +kernel),if_pos rfl]
theorem from_both {rows:List Rw} {i j:Int} {sd:List Pr}:zW rows i j "both" sd = bothB rows i j sd:=by unfold zW; rw [if_neg (by decide +kernel),if_neg (by decide +kernel),if_neg (by decide +kernel),if_pos rfl]; rfl
theorem from_turn {rows:List Rw} {i j:Int} {sd:List Pr}:zW rows i j "turn" sd = (sd == [(tn1 j,tn1 i)]):=by unfold zW; rw [if_neg (by decide +kernel),if_neg (by decide +kernel),if_neg (by decide +kernel),if_neg (by decide +kernel),if_pos rfl]
theorem from_chain {rows:List Rw} {i j:Int} {p q:Pr}:zW rows i j "chain" [p,q] = (p.1 == i && p.2 == q.1 && q.2 == j):=by unfold zW; rw [if_neg (by decide +kernel),if_neg (by decide +kernel),if_neg (by decide +kernel),if_neg (by decide +kernel),if_neg (by decide +kernel),if_pos rfl]
theorem from_clash {rows:List Rw} {i j:Int} {sd:List Pr}:zW rows i j "clash" sd = (sd == [(i,tn1 i)]):=by unfold zW; rw [if_neg (by decide +kernel),if_neg (by decide +kernel),if_neg (by decide +kernel),if_neg (by decide +kernel),if_neg (by decide +kernel),if_neg (by decide +kernel)]
theorem step_nil {rows:List Rw} {rules:List yA} {ls:List Ln} {k:Nat} {l:Ln} (h1:0 <= l.i /\ l.i < 2 * (rows.length:Int)) (h2:0 <= l.j /\ l.j < 2 * (rows.length:Int)) (ha:l.as = []):yO rows rules ls k l = YH rows l.i l.j l.w:=by
 rw [uQ h1 h2]
 unfold YH
 by_cases hr:l.w = "rule"
 · rw [if_pos hr,wJ (by rw [ha]; simp),hr,if_neg rule_ne.1,if_neg rule_ne.2.1,decide_eq_false rule_ne.2.2.1,Bool.false_and]
 rw [if_neg hr,ha]
 rcases jP l.w with ⟨e,n⟩ | ⟨e,n⟩ | ⟨e,n⟩ | ⟨e,n⟩ | ⟨e,n⟩ | ⟨e,n⟩ | ⟨e,n⟩ | ⟨⟨n1,n2,n3,_⟩,n⟩
 · rw [n,if_pos ⟨rfl,rfl⟩,e,from_same,if_pos rfl]
 · rw [n,if_pos ⟨rfl,rfl⟩,e,from_edge,if_neg (by decide +kernel),if_pos rfl]
 · rw [n,if_pos ⟨rfl,rfl⟩,e,from_part,if_neg (by decide +kernel),if_neg (by decide +kernel),decide_eq_true rfl,Bool.true_and]
 · rw [n,if_neg (by simp),e,if_neg (by decide +kernel),if_neg (by decide +kernel),decide_eq_false (by decide +kernel),Bool.false_and]
 · rw [n,if_neg (by simp),e,if_neg (by decide +kernel),if_neg (by decide +kernel),decide_eq_false (by decide +kernel),Bool.false_and]
 · rw [n,if_neg (by simp),e,if_neg (by decide +kernel),if_neg (by decide +kernel),decide_eq_false (by decide +kernel),Bool.false_and]
 · rw [n,if_neg (by simp),e,if_neg (by decide +kernel),if_neg (by decide +kernel),decide_eq_false (by decide +kernel),Bool.false_and]
 · rw [n,if_neg (by simp),if_neg n1,if_neg n2,decide_eq_false n3,Bool.false_and]
theorem step_more {rows:List Rw} {rules:List yA} {ls:List Ln} {k:Nat} {l:Ln} (h1:0 <= l.i /\ l.i < 2 * (rows.length:Int)) (h2:0 <= l.j /\ l.j < 2 * (rows.length:Int)) (ha:3 <= l.as.length):yO rows rules ls k l = false:=by
 rw [uQ h1 h2]
 by_cases hr:l.w = "rule"
 · rw [if_pos hr,wJ (by omega)]
 rw [if_neg hr,if_neg]
 rintro ⟨n,_⟩
 rcases jP l.w with ⟨_,e⟩ | ⟨_,e⟩ | ⟨_,e⟩ | ⟨_,e⟩ | ⟨_,e⟩ | ⟨_,e⟩ | ⟨_,e⟩ | ⟨_,e⟩ <;> rw [e] at n
 all_goals first | (have:=Option.some.inj n; omega) | cases n
theorem step_one {rows:List Rw} {rules:List yA} {ls:List Ln} {k:Nat} {l:Ln} {x:Wt} (h1:0 <= l.i /\ l.i < 2 * (rows.length:Int)) (h2:0 <= l.j /\ l.j < 2 * (rows.length:Int)) (ha:l.as = [x]) :
   yO rows rules ls k l = if l.w = "turn" then yF ls k x == some (tn1 l.j,tn1 l.i) else decide (l.w = "clash") && yF ls k x == some (l.i,tn1 l.i):=by
 rw [uQ h1 h2]
 have one:∀ q:Pr,(if (named l.w = some (l.as.length:Int)) /\ (l.as.all fun a => (yF ls k a).isSome) = true then (l.as.filterMap (yF ls k)) == [q] else false) = (decide (named l.w = some 1) && yF ls k x == some q):=fun q => by
   rw [ha]
   cases hs:yF ls k x with
   | none => simp [hs]
   | some p =>
     simp [hs]
 by_cases hr:l.w = "rule"
 · rw [if_pos hr,wJ (by rw [ha]; simp),hr,if_neg rule_ne.2.2.2.2.1,decide_eq_false rule_ne.2.2.2.2.2.2,Bool.false_and]
 rw [if_neg hr]
 have hl:(l.as.length:Int) = 1:=by rw [ha]; rfl
 rcases jP l.w with ⟨e,n⟩ | ⟨e,n⟩ | ⟨e,n⟩ | ⟨e,n⟩ | ⟨e,n⟩ | ⟨e,n⟩ | ⟨e,n⟩ | ⟨⟨_,_,_,_,n5,_,n7⟩,n⟩
 · rw [if_neg (by rw [n,hl]; simp),e,if_neg (by decide +kernel),decide_eq_false (by decide +kernel),Bool.false_and]
 · rw [if_neg (by rw [n,hl]; simp),e,if_neg (by decide +kernel),decide_eq_false (by decide +kernel),Bool.false_and]
 · rw [if_neg (by rw [n,hl]; simp),e,if_neg (by decide +kernel),decide_eq_false (by decide +kernel),Bool.false_and]
 · rw [if_neg (by rw [n,hl]; simp),e,if_neg (by decide +kernel),decide_eq_false (by decide +kernel),Bool.false_and]
 · have := one (tn1 l.j, tn1 l.i)
   rw [n,decide_eq_true rfl,Bool.true_and,← n] at this
   rw [if_pos e,← this,e,from_turn]
 · rw [if_neg (by rw [n,hl]; simp),e,if_neg (by decide +kernel),decide_eq_false (by decide +kernel),Bool.false_and]
 · have := one (l.i, tn1 l.i)
   rw [n,decide_eq_true rfl,Bool.true_and,← n] at this
   have c1:¬ l.w = "turn":=by rw [e]; decide +kernel
   have e2:zW rows l.i l.j l.w (l.as.filterMap (yF ls k)) = (l.as.filterMap (yF ls k) == [(l.i,tn1 l.i)]):=by rw [e,from_clash]
   rw [e2,this,if_neg c1,decide_eq_true e,Bool.true_and]
 · rw [if_neg (by rw [n]; simp),if_neg n5,decide_eq_false n7,Bool.false_and]
def twoB (rows:List Rw) (i j:Int) (x:Str) (o o':Option Pr):Bool :=
 match o,o' with
 | some p,some q => if x = "both" then bothB rows i j [p,q] else decide (x = "chain") && (p.1 == i && p.2 == q.1 && q.2 == j)
 | _,_ => false
theorem step_two {rows:List Rw} {rules:List yA} {ls:List Ln} {k:Nat} {l:Ln} {x y:Wt} (h1:0 <= l.i /\ l.i < 2 * (rows.length:Int)) (h2:0 <= l.j /\ l.j < 2 * (rows.length:Int)) (ha:l.as = [x,y]) (hr:l.w ≠ "rule") :
   yO rows rules ls k l = twoB rows l.i l.j l.w (yF ls k x) (yF ls k y):=by
 rw [uQ h1 h2,if_neg hr,ha]
 unfold twoB
 cases hx:yF ls k x with
 | none => simp [hx]
 | some p =>
   cases hy:yF ls k y with
   | none => simp [hx,hy]
   | some q =>
     have hall:([x,y].all fun a => (yF ls k a).isSome) = true:=by simp [hx,hy]
     have hf:[x,y].filterMap (yF ls k) = [p,q]:=by simp [hx,hy]
     rw [hf,hall]
     dsimp only
     rcases jP l.w with ⟨e,n⟩ | ⟨e,n⟩ | ⟨e,n⟩ | ⟨e,n⟩ | ⟨e,n⟩ | ⟨e,n⟩ | ⟨e,n⟩ | ⟨⟨_,_,_,n4,_,n6,_⟩,n⟩
     · rw [if_neg (by rw [n]; simp),e,if_neg (by decide +kernel),decide_eq_false (by decide +kernel),Bool.false_and]
     · rw [if_neg (by rw [n]; simp),e,if_neg (by decide +kernel),decide_eq_false (by decide +kernel),Bool.false_and]
     · rw [if_neg (by rw [n]; simp),e,if_neg (by decide +kernel),decide_eq_false (by decide +kernel),Bool.false_and]
     · rw [if_pos ⟨by rw [n]; rfl,rfl⟩,if_pos e,e,from_both]
     · rw [if_neg (by rw [n]; simp),e,if_neg (by decide +kernel),decide_eq_false (by decide +kernel),Bool.false_and]
     · rw [if_pos ⟨by rw [n]; rfl,rfl⟩,if_neg (by rw [e]; decide +kernel),decide_eq_true e,Bool.true_and,e,from_chain]
     · rw [if_neg (by rw [n]; simp),e,if_neg (by decide +kernel),decide_eq_false (by decide +kernel),Bool.false_and]
     · rw [if_neg (by rw [n]; simp),if_neg n4,decide_eq_false n6,Bool.false_and]
section
variable {P:Program} {w:World} {K:PySem.W.Frag} {mg:Str -> Option Value} {base:Heap} {f:Addr} {fd:FuncData}
theorem ok_law_step (bi:Bi mg) (h_t:Has P w K mg base 1 "_law_turned" ["n"] spTurned) (h_w:Has P w K mg base 1 "_law_ahead" ["lines","p","k"] spAhead) (h_p:Has P w K mg base 1 "_law_by_none" ["rows","i","j","word"] spNone) (h_o:Has P w K mg base 2 "_law_by_rule" ["rules","lines","k"] spByR)
   (F:Fun K "_law_step" "_law_step" s_x f fd):FnOk P w K mg base CX0 3 f fd ["rows","rules","lines","k"] spStep:=by
 refine F.ok sc_x (fun vs H Q E h => ?_) (fun cdv A outer s H vs Q E hr h => ?_)
 · obtain ⟨a, ra, la, us, vs', ws, rows, rules, ls, k, l, rfl, _⟩ := h
   rfl
 obtain ⟨a,ra,la,us,vs',ws,rows,rules,ls,k,l,rfl,ha,hrw,hra,hru,hla,hls,hk,h9,h9',q⟩:=h
 have hll:=yK hls
 have hkl:=(List.getElem?_eq_some_iff.mp hk).1
 have hul:=yK hrw
 obtain ⟨v,hv1,hv2⟩:=DAts.get (d:=dLn l) hls (by rw [List.getElem?_map,hk]; rfl)
 obtain ⟨ba,bb,bu,rfl,e2,e3,e4⟩:=LnAt.out hv2
 have hbl:=yK e4
 have at2:∀ {a b c:V},atI [a,b,c] 2 = some c:=zZ (j:=2) rfl
 refine ⟨_,(zD (zP (i:=4) sc_x.nd rfl (Or.inl rfl) (zI ix_tup (zI ix_list (pv 2) (pv 3) (fun _ _ => rfl)) zB (fun _ _ => rfl))) (zD (zP (i:=5) sc_x.nd rfl (Or.inl rfl) (zI ix_tup (zI ix_list (pv 2) (pv 3) (fun _ _ => rfl)) zB (fun _ _ => rfl))) (zD (zP (i:=6) sc_x.nd rfl (Or.inl rfl) (zI ix_tup (zI ix_list (pv 2) (pv 3) (fun _ _ => rfl)) zB (fun _ _ => rfl))) (zD (yI (PW.pt (qF (zN op_lt (pv 4) zB (zL _)) (qF (zN op_lt (pv 5) zB (zL _)) (qF (zN op_ge (pv 4) (zO op_mul zB (zK call_len rfl bi.len bt_len (zA (pv 0) pa_nil))) (zL _)) (qI (zN op_ge (pv 5) (zO op_mul zB (zK call_len rfl bi.len bt_len (zA (pv 0) pa_nil))) (zL _))))))) (zE (zQ xG)) pss_nil) (zD (yI (zN op_eq (zK call_len rfl bi.len bt_len (zA (pv 6) pa_nil)) zB (zL _)) (zE (zQ (zR h_p (hr.mono (by omega)) rfl (zA (pv 0) (zA (pv 4) (zA (pv 5) (zA (zI ix_tup (pv 6) zB (fun _ _ => rfl)) pa_nil))))))) pss_nil) (zD (yI (PW.pt (jB (zN op_eq (zK call_len rfl bi.len bt_len (zA (pv 6) pa_nil)) zB (zL _)) (jN (zN op_eq (zI ix_tup (pv 6) zB (fun _ _ => rfl)) yB (zL _))))) (zE (zQ (zR h_o (hr.mono (by omega)) rfl (zA (pv 1) (zA (pv 2) (zA (pv 3) pa_nil)))))) pss_nil) (zD (yI (zN op_gt (zK call_len rfl bi.len bt_len (zA (pv 6) pa_nil)) zB (zL _)) (zE (zQ xG)) pss_nil) (zD (zP (i:=7) sc_x.nd rfl (Or.inl rfl) (zR h_w (hr.mono (by omega)) rfl (zA (pv 2) (zA (zI ix_tup (pv 6) zB (fun _ _ => rfl)) (zA (pv 3) pa_nil))))) (zD (yI (zN op_eq (zK call_len rfl bi.len bt_len (zA (pv 6) pa_nil)) zB (zL _)) (zD (yI (zN op_eq (zI ix_tup (pv 6) zB (fun _ _ => rfl)) yB (zL _)) (zE (zQ (yP (uI hr.units) (pv 7) (zX (zA (zR h_t (hr.mono (by omega)) rfl (zA (pv 5) pa_nil)) (zA (zR h_t (hr.mono (by omega)) rfl (zA (pv 4) pa_nil)) pa_nil))) (zL _)))) pss_nil) (zE (zQ (xI (yP op_eq (zI ix_tup (pv 6) zB (fun _ _ => rfl)) yB (zL _)) (qC (yP (uI hr.units) (pv 7) (zX (zA (pv 4) (zA (zR h_t (hr.mono (by omega)) rfl (zA (pv 4) pa_nil)) pa_nil))) (zL _))))))) pss_nil) (zD (zP (i:=8) sc_x.nd rfl (Or.inl rfl) (zR h_w (hr.mono (by omega)) rfl (zA (pv 2) (zA (zI ix_tup (pv 6) zB (fun _ _ => rfl)) (zA (pv 3) pa_nil))))) (zD (yI (PW.pt (qF (zN op_isN (pv 7) uH (zL _)) (qI (zN op_isN (pv 8) uH (zL _))))) (zE (zQ xG)) pss_nil) (zD (yI (zN op_eq (zI ix_tup (pv 6) zB (fun _ _ => rfl)) yB (zL _)) (zD (zP (i:=9) sc_x.nd rfl (Or.inl rfl) (zI ix_list (pv 0) (zO op_fdiv (pv 5) zB) (fun _ _ => rfl))) (zE (zQ (xI (yP op_eq (zO op_mod (pv 5) zB) zB (zL _)) (xI (yP op_eq (zI ix_tup (pv 9) zB (fun _ _ => rfl)) yB (zL _)) (xI (yP (uI hr.units) (pv 7) (zX (zA (pv 4) (zA (zI ix_tup (pv 9) zB (fun _ _ => rfl)) pa_nil))) (zL _)) (qC (yP (uI hr.units) (pv 8) (zX (zA (pv 4) (zA (zI ix_tup (pv 9) zB (fun _ _ => rfl)) pa_nil))) (zL _))))))))) pss_nil) (zE (zQ (xI (yP op_eq (zI ix_tup (pv 6) zB (fun _ _ => rfl)) yB (zL _)) (xI (yP op_eq (zI ix_tup (pv 7) zB (fun _ _ => rfl)) (pv 4) (zL _)) (xI (yP op_eq (zI ix_tup (pv 7) zB (fun _ _ => rfl)) (zI ix_tup (pv 8) zB (fun _ _ => rfl)) (zL _)) (qC (yP op_eq (zI ix_tup (pv 8) zB (fun _ _ => rfl)) (pv 5) (zL _)))))))))))))))))))),?_⟩
 refine zJ fun N hN => ?_
 simp! []
 refine ⟨_,SqL.of hla,_,zZ hv1,_,rfl,_,SqT.of e2,_,at0,hN _ _ ?_⟩
 refine zJ fun N hN => ?_
 simp! []
 refine ⟨_,SqL.of hla,_,zZ hv1,_,rfl,_,SqT.of e2,_,at1,hN _ _ ?_⟩
 refine zJ fun N hN => ?_
 simp! []
 refine ⟨_,SqL.of hla,_,zZ hv1,_,rfl,_,SqT.of e2,_,at2,hN _ _ ?_⟩
 refine zJ fun N hN => ?_
 simp! []
 have no:∀ H',Same H H' -> yO rows rules ls k l = false -> Q (.bl false) H':=fun H' e z => by
   have:=q _ e
   rwa [z] at this
 by_cases c1:l.i < 0
 · rw [if_pos c1]
   exact no _ (Same.refl H) (uP (.inl (by omega)))
 rw [if_neg c1]
 by_cases c2:l.j < 0
 · rw [if_pos c2]
   exact no _ (Same.refl H) (uP (.inr (by omega)))
 rw [if_neg c2]
 refine ⟨us.length,.inl ⟨_,SqL.of ha,rfl⟩,.inl ⟨by decide,by decide⟩,?_⟩
 by_cases c3:2 * (us.length:Int) <= l.i
 · rw [if_pos c3]
   exact no _ (Same.refl H) (uP (.inl (by omega)))
 rw [if_neg c3]
 refine ⟨us.length,.inl ⟨_,SqL.of ha,rfl⟩,.inl ⟨by decide,by decide⟩,?_⟩
 by_cases c4:2 * (us.length:Int) <= l.j
 · rw [if_pos c4]
   exact no _ (Same.refl H) (uP (.inr (by omega)))
 rw [if_neg c4]
 have b1:0 <= l.i /\ l.i < 2 * (rows.length:Int):=by omega
 have b2:0 <= l.j /\ l.j < 2 * (rows.length:Int):=by omega
 refine hN _ _ ?_
 refine zJ fun N hN => ?_
 simp! [spNone]
 refine ⟨_,.inr ⟨_,SqT.of e3,rfl⟩,rfl,?_⟩
 by_cases n1:l.as.length = 0
 · rw [if_pos (by rw [List.length_cons]; omega)]
   refine ⟨_,SqT.of e3,_,at0,us,rows,l.w,rfl,ha,hrw,b1.1,b1.2,fun H' e => ?_⟩
   have:=q _ e
   rwa [step_nil b1 b2 (List.eq_nil_of_length_eq_zero n1)] at this
 rw [if_neg (by rw [List.length_cons]; omega)]
 refine hN _ _ ?_
 refine zJ fun N hN => ?_
 simp! [spByR]
 refine ⟨_,.inr ⟨_,SqT.of e3,rfl⟩,rfl,?_⟩
 have rest : (l.as.length = 2 -> l.w ≠ "rule") -> N [some (V.ref a), some (V.ref ra), some (V.ref la), some (V.int k), some (V.int l.i), some (V.int l.j), some (V.ref bb), none, none, none] H := fun hnr => hN _ _ (by
   refine zJ fun N hN => ?_
   simp! []
   refine ⟨_,.inr ⟨_,SqT.of e3,rfl⟩,?_⟩
   by_cases n3:3 <= l.as.length
   · rw [if_pos (by rw [List.length_cons]; omega)]
     exact no _ (Same.refl H) (step_more b1 b2 n3)
   rw [if_neg (by rw [List.length_cons]; omega)]
   refine hN _ _ ?_
   obtain ⟨x,as',has⟩:∃ x as',l.as = x :: as':=by
     cases h:l.as with
     | nil => rw [h] at n1; exact absurd rfl n1
     | cons x as' => exact ⟨x,as',rfl⟩
   rw [has] at e4
   obtain ⟨u1,r1,rfl,d1,d2⟩:=e4
   refine zJ fun N hN => ?_
   simp! [spAhead]
   refine ⟨_,SqT.of e3,u1,at1,ws,x,ls,k,rfl,hla,hls,by omega,d1,fun v1 H1 g1 hv1' => hN _ _ ?_⟩
   have e3':=g1 _ _ e3
   refine zJ fun N hN => ?_
   simp! [spTurned]
   refine ⟨_,.inr ⟨_,SqT.of e3',rfl⟩,rfl,?_⟩
   have eqt:∀ (o:Option Pr) (v:V) (H2:Hp) (u u':Int) (p:Addr) (R:VK),DAt H2 (dSd o) v -> H2 p = none -> R (.bl (o == some (u,u'))) (upd H2 p (.tup [.int u,.int u'])) -> rEqG v (.ref p) (upd H2 p (.tup [.int u,.int u'])) R:=by
     intro o v H2 u u' p R hv hp hR
     refine ⟨0,dSd o,dPr (u,u'),DAt.same (zF hp _) hv,⟨p,_,rfl,zC,_,_,rfl,rfl,_,_,rfl,rfl,rfl⟩,fit_sd 0 _,by decide,?_⟩
     rw [deq_sd]
     exact hR
   by_cases n4:as' = []
   · subst n4
     have d2:r1 = []:=d2
     subst d2
     rw [if_pos (by simp)]
     refine ⟨_,SqT.of e3',_,at0,rfl,?_⟩
     have sq:=step_one (rules:=rules) (ls:=ls) (k:=k) b1 b2 has
     by_cases ht:l.w = "turn"
     · rw [if_pos (by rw [ht])]
       rw [if_pos ht] at sq
       refine ⟨small (by simp),fun p hp => eqt _ _ _ _ _ p _ hv1' hp ?_⟩
       have:=q _ (g1.trans (zF hp (.tup [.int (tn1 l.j),.int (tn1 l.i)])))
       rwa [sq] at this
     · rw [if_neg (fun z => ht (V.str.inj z))]
       rw [if_neg ht] at sq
       refine ⟨_,SqT.of e3',_,at0,rfl,?_⟩
       by_cases hc:l.w = "clash"
       · rw [if_pos (by rw [hc])]
         rw [decide_eq_true hc,Bool.true_and] at sq
         refine ⟨small (by simp),fun p hp => eqt _ _ _ _ _ p _ hv1' hp ?_⟩
         have:=q _ (g1.trans (zF hp (.tup [.int l.i,.int (tn1 l.i)])))
         rwa [sq] at this
       · rw [if_neg (fun z => hc (V.str.inj z))]
         rw [decide_eq_false hc,Bool.false_and] at sq
         exact no _ g1 sq
   obtain ⟨y,rfl⟩:∃ y,as' = [y]:=by
     rw [has,List.length_cons] at n3
     match as',n4,n3 with
     | [y],_,_ => exact ⟨y,rfl⟩
     | y :: z :: r,_,n3 => simp at n3
   obtain ⟨u2,r2,rfl,d3,d4⟩:=d2
   have d4:r2 = []:=d4
   subst d4
   rw [if_neg (by simp)]
   refine hN _ _ ?_
   have hnr':=hnr (by rw [has]; rfl)
   have sq:=step_two (rules:=rules) (ls:=ls) (k:=k) b1 b2 has hnr'
   refine zJ fun N hN => ?_
   simp! [spAhead]
   refine ⟨_,SqT.of e3',u2,at2,ws,y,ls,k,rfl,g1 _ _ hla,DAts.same g1 hls,by omega,DAt.same g1 d3,fun v2 H2 g2 hv2' => hN _ _ ?_⟩
   have g02:=g1.trans g2
   have e3'':=g2 _ _ e3'
   have hv1'':=DAt.same g2 hv1'
   refine zJ fun N hN => ?_
   simp! []
   cases hsx:yF ls k x with
   | none =>
     rw [hsx] at hv1'' sq
     have e:v1 = .non:=hv1''
     rw [if_pos e]
     exact no _ g02 sq
   | some p1 =>
   rw [hsx] at hv1'' sq
   obtain ⟨a1,ra1,k1⟩:=prAt hv1''
   rw [if_neg (by rw [ra1]; intro z; cases z)]
   cases hsy:yF ls k y with
   | none =>
     rw [hsy] at hv2' sq
     have e:v2 = .non:=hv2'
     rw [if_pos e]
     exact no _ g02 sq
   | some p2 =>
   rw [hsy] at hv2' sq
   obtain ⟨a2,ra2,k2⟩:=prAt hv2'
   rw [if_neg (by rw [ra2]; intro z; cases z)]
   subst ra1 ra2
   refine hN _ _ ?_
   have sq:yO rows rules ls k l = if l.w = "both" then bothB rows l.i l.j [p1,p2] else decide (l.w = "chain") && (p1.1 == l.i && p1.2 == p2.1 && p2.2 == l.j):=sq
   refine zJ fun N hN => ?_
   simp! []
   refine ⟨_,SqT.of e3'',_,at0,rfl,?_⟩
   by_cases hb:l.w = "both"
   · rw [if_pos (by rw [hb])]
     rw [if_pos hb] at sq
     have hk2:(l.j / 2).toNat < us.length:=by omega
     obtain ⟨r,hr1,hr2⟩:=yW hrw (List.getElem?_eq_getElem hk2)
     have hat:atI us (l.j / 2) = some us[(l.j / 2).toNat]:=jK (by omega) (List.getElem?_eq_getElem hk2)
     generalize us[(l.j / 2).toNat] = rv at hr2 hat
     have nob:jO rows l.j = [] -> ∀ H',Same H2 H' -> Q (.bl false) H':=fun e H' m => no _ (g02.trans m) (by rw [sq]; unfold bothB; rw [e])
     refine ⟨⟨by decide,by decide⟩,_,SqL.of (g02 _ _ ha),rv,hat,by decide,rfl,?_⟩
     split
     · rename_i h2
       obtain ⟨xa,x',vs,rfl,hxa,hcase⟩:=RwAt.out (DAt.same g02 hr2)
       have pe:=xW h2 hr1
       refine ⟨xa,rfl,_,SqT.of hxa,.str x',at0,rfl,?_⟩
       cases r with
       | bo u v =>
         obtain ⟨rfl,rfl⟩:=hcase
         rw [if_pos rfl]
         have sq:yO rows rules ls k l = ([p1,p2] == [(l.i,u),(l.i,v)]):=by rw [sq]; unfold bothB; rw [pe]; rfl
         refine ⟨xa,rfl,_,SqT.of hxa,_,at1,small (by simp),fun p hp => eqt (some p1) _ _ _ _ p _ hv1'' hp ⟨_,rfl,?_⟩⟩
         have m3:=zF hp (.tup [.int l.i,.int u])
         generalize upd H2 p (.tup [.int l.i,.int u]) = H3 at m3 ⊢
         by_cases q1:p1 = (l.i,u)
         · rw [beq_iff_eq.mpr (by rw [q1]), if_pos rfl]
           refine ⟨xa,rfl,_,SqT.of (m3 _ _ hxa),_,at2,small (by simp),fun p' hp' => eqt (some p2) _ _ _ _ p' _ (DAt.same m3 hv2') hp' ?_⟩
           have:=q _ (g02.trans (m3.trans (zF hp' (.tup [.int l.i,.int v]))))
           rw [sq,q1] at this
           rw [show (some p2 == some (l.i,v)) = ([(l.i,u),p2] == [(l.i,u),(l.i,v)]) from by rw [Bool.eq_iff_iff,beq_iff_eq,beq_iff_eq]; simp]
           exact this
         · rw [beq_eq_false_iff_ne.mpr (by simpa using q1), if_neg Bool.false_ne_true]
           exact no _ (g02.trans m3) (by rw [sq,beq_eq_false_iff_ne]; intro z; exact q1 (by simpa using (List.cons.inj z).1))
       | no =>
         obtain ⟨rfl,rfl⟩:=hcase
         rw [if_neg (by intro z; exact absurd (V.str.inj z) (by decide +kernel))]
         exact nob pe _ (Same.refl _)
       | nm y' =>
         obtain ⟨rfl,rfl⟩:=hcase
         rw [if_neg (by intro z; exact absurd (V.str.inj z) (by decide +kernel))]
         exact nob pe _ (Same.refl _)
     · rename_i h2
       exact nob (by unfold jO; rw [if_neg h2]) _ (Same.refl _)
   · rw [if_neg (fun z => hb (V.str.inj z))]
     rw [if_neg hb] at sq
     refine hN _ _ ?_
     simp! []
     refine ⟨_,SqT.of e3'',_,at0,rfl,?_⟩
     by_cases hc:l.w = "chain"
     · rw [if_pos (by rw [hc])]
       rw [decide_eq_true hc,Bool.true_and] at sq
       have fin:Q (.bl (p1.1 == l.i && p1.2 == p2.1 && p2.2 == l.j)) H2:=by
         have:=q _ g02
         rwa [sq] at this
       refine ⟨_,SqT.of k1,_,at0,rfl,?_⟩
       by_cases q1:p1.1 = l.i
       · rw [if_pos (by rw [q1])]
         refine ⟨_,SqT.of k1,_,at1,_,SqT.of k2,_,at0,rfl,?_⟩
         by_cases q2:p1.2 = p2.1
         · rw [if_pos (by rw [q2])]
           refine ⟨_,SqT.of k2,_,at1,rfl,?_⟩
           have e:(p1.1 == l.i && p1.2 == p2.1 && p2.2 == l.j) = decide (V.int p2.2 = V.int l.j):=by
             rw [beq_iff_eq.mpr q1,beq_iff_eq.mpr q2,Bool.eq_iff_iff]
             simp
           rw [e] at fin
           exact fin
         · rw [if_neg (fun z => q2 (V.int.inj z))]
           rw [show (p1.1 == l.i && p1.2 == p2.1 && p2.2 == l.j) = false by simp [q2]] at fin
           exact fin
       · rw [if_neg (fun z => q1 (V.int.inj z))]
         rw [show (p1.1 == l.i && p1.2 == p2.1 && p2.2 == l.j) = false by simp [q1]] at fin
         exact fin
     · rw [if_neg (fun z => hc (V.str.inj z))]
       rw [decide_eq_false hc,Bool.false_and] at sq
       exact no _ g02 sq)
 by_cases n2:l.as.length = 2
 · rw [if_pos (by rw [List.length_cons]; omega)]
   refine ⟨_,SqT.of e3,_,at0,rfl,?_⟩
   by_cases hr':l.w = "rule"
   · rw [if_pos (by rw [hr'])]
     refine ⟨vs',ws,rules,ls,k,rfl,hra,hru,hla,hls,l,hk,n2,fun H' e => ?_⟩
     have:=q _ e
     rwa [uQ b1 b2,if_pos hr'] at this
   · rw [if_neg (fun z => hr' (V.str.inj z))]
     exact rest fun _ => hr'
 · rw [if_neg (by rw [List.length_cons]; omega)]
   exact rest fun z => absurd z n2
end
abbrev s_r:Stmt:=top 23
theorem sc_r:FnScope ["script","k"] ["script","k"] (zG s_r):=⟨rfl,rfl,rfl,by decide +kernel,rfl,by decide +kernel,by decide +kernel⟩
abbrev s_k:Stmt:=top 24
theorem sc_k:FnScope ["cell","size","letters","made","rest","k"] ["cell","size"] (zG s_k):=⟨rfl,rfl,rfl,by decide +kernel,rfl,by decide +kernel,by decide +kernel⟩
abbrev s_a:Stmt:=top 26
theorem sc_a:FnScope ["script","most","many","rows","rules","raw","cell","top","one","other","row"] ["script","most","many"] (zG s_a):=⟨rfl,rfl,rfl,by decide +kernel,rfl,by decide +kernel,by decide +kernel⟩
def spCell (K:PySem.W.Frag):Sp:=fun vs H Q _ => ∃ (a:Addr) (ns:List Int) (k:Nat),vs = [.ref a,.int k] /\ SqL K H a (ns.map V.int) /\ Q (.int (ns.getD k 0)) H
def spName:Sp:=fun vs H Q _ => ∃ c n:Int,vs = [.int c,.int n] /\ ∀ x:Str,Nm x -> Q (.str x) H
theorem p1018:(0:Int) < 10 ^ Int.toNat 18:=by show (0:Int) < 10 ^ 18; simp
structure RC where
 o:Addr
 l:Addr
 t:Addr
 ps:List Pr
 q:Pr
def RcOk (H:Hp) (c:RC):Prop:=H c.o = some (.lst [.ref c.l,.ref c.t]) /\ (∃ us,H c.l = some (.lst us) /\ DAts H (c.ps.map dPr) us) /\ H c.t = some (.tup [.int c.q.1,.int c.q.2])
theorem RcOk.same {H H':Hp} {c:RC} (e:Same H H') (h:RcOk H c):RcOk H' c:=by
 obtain ⟨h1,⟨us,h2,h3⟩,h4⟩:=h
 exact ⟨e _ _ h1,⟨us,e _ _ h2,DAts.same e h3⟩,e _ _ h4⟩
theorem wL {H H':Hp} (e:TupSame H H'):∀ {ps:List Pr} {us:List V},DAts H (ps.map dPr) us -> DAts H' (ps.map dPr) us
 | [],us,h => h
 | p :: ps, us, h => by
   obtain ⟨v,r,e1,e2,e3⟩:=h
   obtain ⟨a,g1,g2⟩:=prAt e2
   exact ⟨v,r,e1,⟨a,_,g1,e _ _ g2,_,_,rfl,rfl,_,_,rfl,rfl,rfl⟩,wL e e3⟩
theorem qG {H H':Hp} (e:TupSame H H'):∀ {rs:List Rw} {us:List V},jZ H rs us -> jZ H' rs us
 | [],us,h => h
 | r :: rs, us, h => by
   obtain ⟨v,q,e1,e2,e3⟩:=h
   refine ⟨v,q,e1,?_,qG e e3⟩
   obtain ⟨a,x,vs,g1,g2,g3⟩:=RwAt.out e2
   cases r with
   | no => obtain ⟨rfl,rfl⟩:=g3; exact ⟨a,_,g1,e _ _ g2,_,_,rfl,rfl,rfl⟩
   | nm y => obtain ⟨rfl,rfl⟩:=g3; exact ⟨a,_,g1,e _ _ g2,_,_,rfl,rfl,_,_,rfl,rfl,rfl⟩
   | bo i j => obtain ⟨rfl,rfl⟩:=g3; exact ⟨a,_,g1,e _ _ g2,_,_,rfl,rfl,_,_,rfl,rfl,_,_,rfl,rfl,rfl⟩
theorem RcOk.put {H:Hp} {c:RC} {a:Addr} {zs xs:List V} (h:RcOk H c) (ha:H a = some (.lst xs)) (n1:c.o ≠ a) (n2:c.l ≠ a):RcOk (upd H a (.lst zs)) c:=by
 have tu:TupSame H (upd H a (.lst zs)):=(TupSame.refl _).upd_lst ha
 obtain ⟨h1,⟨us,h2,h3⟩,h4⟩:=h
 exact ⟨by rw [zH n1]; exact h1,⟨us,by rw [zH n2]; exact h2,wL tu h3⟩,tu _ _ h4⟩
def RowsIn (rows:List Rw):Prop:=∀ (k:Nat) (i j:Int),rows[k]? = some (.bo i j) -> (0 <= i /\ i < 2 * (k:Int)) /\ 0 <= j /\ j < 2 * (k:Int)
def RowB (r:Rw) (n:Int):Prop:=∀ i j,r = .bo i j -> (0 <= i /\ i < n) /\ 0 <= j /\ j < n
theorem RowsIn.put {rows:List Rw} {r:Rw} (h:RowsIn rows) (hr:RowB r (2 * (rows.length:Int))):RowsIn (rows ++ [r]):=fun k i j hk => by
 by_cases hl:k < rows.length
 · rw [List.getElem?_append_left hl] at hk
   exact h k i j hk
 · have h2 := (List.getElem?_eq_some_iff.mp hk).1
   rw [List.length_append,List.length_singleton] at h2
   have e:k = rows.length:=by omega
   subst e
   rw [List.getElem?_append_right (Nat.le_refl _),Nat.sub_self] at hk
   have e:r = .bo i j:=by simpa using hk
   exact hr i j e
structure SRI (H:Hp) (pc:Addr) (zs:List V) (i:Nat) (H':Hp) (ra rb:Addr) (us:List V) (rows:List Rw) (rs:List RC):Prop where
 same:Same H H'
 na:H ra = none
 nb:H rb = none
 ne:ra ≠ rb
 pk:H' pc = some (.lst zs)
 pn:pc ≠ ra /\ pc ≠ rb /\ ∀ c ∈ rs,pc ≠ c.o /\ pc ≠ c.l
 rw:H' ra = some (.lst us)
 rws:jZ H' rows us
 r1:1 <= rows.length
 r2:rows.length <= i + 1
 rbd:RowsIn rows
 ru:H' rb = some (.lst (rs.map fun c => V.ref c.o))
 ok:∀ c ∈ rs,RcOk H' c
 fr:∀ c ∈ rs,H c.o = none /\ H c.l = none /\ c.o ≠ ra /\ c.o ≠ rb /\ c.l ≠ ra /\ c.l ≠ rb
 nd:(rs.map RC.l).Nodup
 ol:∀ c ∈ rs,∀ c' ∈ rs,c.o ≠ c'.l
 s1:rs.length <= i
 s2:∀ c ∈ rs,c.ps.length <= i
 qb:∀ c ∈ rs,(0 <= c.q.1 /\ c.q.1 < 2 * (rows.length:Int)) /\ (0 <= c.q.2 /\ c.q.2 < 2 * (rows.length:Int))
theorem fit_rw (n:Nat) (r:Rw):DFit (n + 1) (dRw r):=by
 cases r with
 | no => exact ⟨by simp,fun d hd => by simp at hd; subst hd; cases n <;> trivial⟩
 | nm x => exact ⟨by simp,fun d hd => by simp at hd; rcases hd with rfl | rfl <;> (cases n <;> trivial)⟩
 | bo i j => exact ⟨by simp,fun d hd => by simp at hd; rcases hd with rfl | rfl | rfl <;> (cases n <;> trivial)⟩
theorem SRI.go {H:Hp} {pc:Addr} {zs:List V} {i:Nat} {H' H'':Hp} {ra rb:Addr} {us:List V} {rows:List Rw} {rs:List RC} (S:SRI H pc zs i H' ra rb us rows rs) (e:Same H' H''):SRI H pc zs i H'' ra rb us rows rs :=
 { S with same:=S.same.trans e,pk:=e _ _ S.pk,rw:=e _ _ S.rw,rws:=DAts.same e S.rws,ru:=e _ _ S.ru,ok:=fun c hc => (S.ok c hc).same e }
theorem SRI.up {H:Hp} {pc:Addr} {zs:List V} {i:Nat} {H':Hp} {ra rb:Addr} {us:List V} {rows:List Rw} {rs:List RC} (S:SRI H pc zs i H' ra rb us rows rs):SRI H pc zs (i + 1) H' ra rb us rows rs :=
 { S with r2:=Nat.le_succ_of_le S.r2,s1:=Nat.le_succ_of_le S.s1,s2:=fun c hc => Nat.le_succ_of_le (S.s2 c hc) }
theorem SRI.rowPut {H:Hp} {pc:Addr} {zs:List V} {i:Nat} {H':Hp} {ra rb:Addr} {us:List V} {rows:List Rw} {rs:List RC} {r:Rw} {rv:V} (S:SRI H pc zs i H' ra rb us rows rs) (hr:DAt H' (dRw r) rv) (hrb:RowB r (2 * (rows.length:Int))) :
   SRI H pc zs (i + 1) (upd H' ra (.lst (us ++ [rv]))) ra rb (us ++ [rv]) (rows ++ [r]) rs:=by
 have tu:TupSame H' (upd H' ra (.lst (us ++ [rv]))):=(TupSame.refl _).upd_lst S.rw
 refine { S with same:=S.same.upd S.na,pk:=by rw [zH S.pn.1]; exact S.pk,rw:=zC,rws:=?_,r1:=by simp,r2:=by have:=S.r2; simp; omega,rbd:=S.rbd.put hrb,ru:=by rw [zH (Ne.symm S.ne)]; exact S.ru,ok:=fun c hc => (S.ok c hc).put S.rw (S.fr c hc).2.2.1 (S.fr c hc).2.2.2.2.1,s1:=Nat.le_succ_of_le S.s1,s2:=fun c hc => Nat.le_succ_of_le (S.s2 c hc),qb:=fun c hc => by have:=S.qb c hc; rw [List.length_append,List.length_singleton]; omega }
 unfold jZ
 rw [List.map_append]
 exact DAts.append (qG tu S.rws) (qG tu (DAts.one hr:jZ H' [r] [rv]))
theorem SRI.rulePut {H:Hp} {pc:Addr} {zs:List V} {i:Nat} {H' H'':Hp} {ra rb:Addr} {us:List V} {rows:List Rw} {rs:List RC} {o l t:Addr} {q:Pr} (S:SRI H pc zs i H' ra rb us rows rs) (e:Same H' H'') (no:H' o = none) (nl:H' l = none) (ne:o ≠ l) (ho:H'' o = some (.lst [.ref l,.ref t])) (hl:H'' l = some (.lst [])) (ht:H'' t = some (.tup [.int q.1,.int q.2])) (hqb:(0 <= q.1 /\ q.1 < 2 * (rows.length:Int)) /\ (0 <= q.2 /\ q.2 < 2 * (rows.length:Int))) :
   SRI H pc zs (i + 1) (upd H'' rb (.lst ((rs.map fun c => V.ref c.o) ++ [.ref o]))) ra rb us rows (rs ++ [⟨o,l,t,[],q⟩]):=by
 have S2:=S.go e
 have tu:TupSame H'' (upd H'' rb (.lst ((rs.map fun c => V.ref c.o) ++ [.ref o]))):=(TupSame.refl _).upd_lst S2.ru
 have obr:o ≠ rb:=fun z => by rw [z,S.ru] at no; cases no
 have lbr:l ≠ rb:=fun z => by rw [z,S.ru] at nl; cases nl
 have new:RcOk (upd H'' rb (.lst ((rs.map fun c => V.ref c.o) ++ [.ref o]))) ⟨o,l,t,[],q⟩:=RcOk.put ⟨ho,⟨[],hl,rfl⟩,ht⟩ S2.ru obr lbr
 have fo:∀ {c:RC},c ∈ rs -> c.o ≠ o /\ c.l ≠ l /\ c.o ≠ l /\ c.l ≠ o:=fun {c} hc => by
   obtain ⟨h1,⟨uu,h2,_⟩,_⟩:=S.ok c hc
   refine ⟨fun z => ?_,fun z => ?_,fun z => ?_,fun z => ?_⟩
   · rw [z,no] at h1; cases h1
   · rw [z,nl] at h2; cases h2
   · rw [z,nl] at h1; cases h1
   · rw [z,no] at h2; cases h2
 exact { S2 with
   same:=S2.same.upd S.nb
   pk:=by rw [zH S.pn.2.1]; exact S2.pk
   pn:=⟨S.pn.1,S.pn.2.1,fun c hc => by
     rcases List.mem_append.mp hc with hc | hc
     · exact S.pn.2.2 c hc
     · rw [List.mem_singleton.mp hc]
       exact ⟨fun z => (by have z:pc = o:=z; rw [← z,S.pk] at no; cases no),fun z => (by have z:pc = l:=z; rw [← z,S.pk] at nl; cases nl)⟩⟩
   rw:=by rw [zH S.ne]; exact S2.rw
   rws:=qG tu S2.rws
   r2:=Nat.le_succ_of_le S.r2
   ru:=by rw [zC,List.map_append]; rfl
   ok:=fun c hc => by
     rcases List.mem_append.mp hc with hc | hc
     · exact (S2.ok c hc).put S2.ru (S.fr c hc).2.2.2.1 (S.fr c hc).2.2.2.2.2
     · rw [List.mem_singleton.mp hc]; exact new
   fr:=fun c hc => by
     rcases List.mem_append.mp hc with hc | hc
     · exact S.fr c hc
     · rw [List.mem_singleton.mp hc]
       exact ⟨S.same.free no,S.same.free nl,fun z => (by have z:o = ra:=z; rw [z,S.rw] at no; cases no),obr,fun z => (by have z:l = ra:=z; rw [z,S.rw] at nl; cases nl),lbr⟩
   nd:=by
     rw [List.map_append]
     refine List.nodup_append.mpr ⟨S.nd,by simp,fun a ha b hb => ?_⟩
     obtain ⟨c,hc,rfl⟩:=List.mem_map.mp ha
     simp at hb
     rw [hb]
     exact (fo hc).2.1
   ol:=fun c hc c' hc' => by
     rcases List.mem_append.mp hc with hc | hc <;> rcases List.mem_append.mp hc' with hc' | hc'
     · exact S.ol c hc c' hc'
     · rw [List.mem_singleton.mp hc']; exact (fo hc).2.2.1
     · rw [List.mem_singleton.mp hc]; exact (fo hc').2.2.2.symm
     · rw [List.mem_singleton.mp hc,List.mem_singleton.mp hc']; exact ne
   s1:=by have:=S.s1; simp; omega
   s2:=fun c hc => by
     rcases List.mem_append.mp hc with hc | hc
     · exact Nat.le_succ_of_le (S.s2 c hc)
     · rw [List.mem_singleton.mp hc]; exact Nat.zero_le _
   qb:=fun c hc => by
     rcases List.mem_append.mp hc with hc | hc
     · exact S.qb c hc
     · rw [List.mem_singleton.mp hc]; exact hqb }
theorem SRI.premPut {H:Hp} {pc:Addr} {zs:List V} {i:Nat} {H':Hp} {ra rb:Addr} {us:List V} {rows:List Rw} {rs:List RC} {c:RC} {uc:List V} {p:Addr} {q:Pr} (S:SRI H pc zs i H' ra rb us rows (rs ++ [c])) (hl:H' c.l = some (.lst uc)) (hp:H' p = some (.tup [.int q.1,.int q.2])) :
   SRI H pc zs (i + 1) (upd H' c.l (.lst (uc ++ [.ref p]))) ra rb us rows (rs ++ [{ c with ps:=c.ps ++ [q] }]):=by
 have tu:TupSame H' (upd H' c.l (.lst (uc ++ [.ref p]))):=(TupSame.refl _).upd_lst hl
 have mc:c ∈ rs ++ [c]:=by simp
 have fc:=S.fr c mc
 have old:∀ c' ∈ rs,c' ∈ rs ++ [c]:=fun c' h => List.mem_append_left _ h
 have nd:=S.nd
 rw [List.map_append] at nd
 have ndl:∀ c' ∈ rs,c'.l ≠ c.l:=fun c' h => (List.nodup_append.mp nd).2.2 _ (List.mem_map.mpr ⟨c',h,rfl⟩) _ (by simp)
 have case:∀ {R:RC -> Prop},(∀ c' ∈ rs,R c') -> R { c with ps:=c.ps ++ [q] } -> ∀ c' ∈ rs ++ [{ c with ps:=c.ps ++ [q] }],R c':=fun a b c' h => by
   rcases List.mem_append.mp h with h | h
   · exact a c' h
   · rw [List.mem_singleton.mp h]; exact b
 exact { S with
   same:=S.same.upd fc.2.1
   pk:=by rw [zH (S.pn.2.2 c mc).2]; exact S.pk
   pn:=⟨S.pn.1,S.pn.2.1,case (fun c' h => S.pn.2.2 c' (old c' h)) (S.pn.2.2 c mc)⟩
   rw:=by rw [zH (Ne.symm fc.2.2.2.2.1)]; exact S.rw
   rws:=qG tu S.rws
   r2:=Nat.le_succ_of_le S.r2
   ru:=by rw [zH (Ne.symm fc.2.2.2.2.2)]; have:=S.ru; rw [List.map_append] at this ⊢; exact this
   ok:=case (fun c' h => (S.ok c' (old c' h)).put hl (S.ol c' (old c' h) c mc) (ndl c' h)) (by
     obtain ⟨h1,⟨uu,h2,h3⟩,h4⟩:=S.ok c mc
     rw [hl] at h2
     cases h2
     refine ⟨by rw [zH (S.ol c mc c mc)]; exact h1,⟨_,zC,?_⟩,tu _ _ h4⟩
     rw [List.map_append]
     exact DAts.append (wL tu h3) (DAts.one ⟨p,_,rfl,tu _ _ hp,_,_,rfl,rfl,_,_,rfl,rfl,rfl⟩))
   fr:=case (fun c' h => S.fr c' (old c' h)) fc
   nd:=by rw [List.map_append]; exact nd
   ol:=case (fun c' h => case (fun c'' h2 => S.ol c' (old c' h) c'' (old c'' h2)) (S.ol c' (old c' h) c mc)) (case (fun c'' h2 => S.ol c mc c'' (old c'' h2)) (S.ol c mc c mc))
   s1:=by have:=S.s1; simp at this ⊢; omega
   s2:=case (fun c' h => Nat.le_succ_of_le (S.s2 c' (old c' h))) (by have:=S.s2 c mc; simp; omega)
   qb:=case (fun c' h => S.qb c' (old c' h)) (S.qb c mc) }
def spSR (K:PySem.W.Frag):Sp:=fun vs H Q _ => ∃ (sa:Addr) (ns:List Int) (m n:Int),vs = [.ref sa,.int m,.int n] /\ SqL K H sa (ns.map V.int) /\ ns.length <= 63 /\
 ∀ (p ra rb:Addr) (us ws:List V) (rows:List Rw) (rules:List yA) H',Same H H' -> H' p = some (.tup [.ref ra,.ref rb]) -> H' ra = some (.lst us) -> jZ H' rows us -> H' rb = some (.lst ws) -> DAts H' (rules.map dNR) ws -> 1 <= rows.length -> rows.length <= 100 -> rules.length <= 100 -> (∀ r ∈ rules,r.1.length <= 100) -> RowsIn rows -> (∀ r ∈ rules,(0 <= r.2.1 /\ r.2.1 < 2 * (rows.length:Int)) /\ (0 <= r.2.2 /\ r.2.2 < 2 * (rows.length:Int))) -> Q (.ref p) H'
section
variable {P:Program} {w:World} {K:PySem.W.Frag} {mg:Str -> Option Value} {base:Heap} {f:Addr} {fd:FuncData}
theorem ok_cell (bi:Bi mg) (F:Fun K "_law_cell_at" "_law_cell_at" s_r f fd):FnOk P w K mg base CX0 1 f fd ["script","k"] (spCell K):=by
 refine F.ok sc_r (fun vs H Q E h => ?_) (fun cdv A outer s H vs Q E hr h => ?_)
 · obtain ⟨a, ns, k, rfl, _⟩ := h
   rfl
 obtain ⟨a,ns,k,rfl,hS,q⟩:=h
 refine ⟨_,(zD (yI (zN op_lt (pv 1) (zK call_len rfl bi.len bt_len (zA (pv 0) pa_nil)) (zL _)) (zE (zQ (zI ix_list (pv 0) (pv 1) (fun _ _ => rfl)))) pss_nil) (zE (zQ zB))),?_⟩
 simp only [tSeq,tFor_eq,tLC_eq,iRng1,iRng2,iList,iTup,iStr,tIfS,tRet,tRetN,tNext,tAsg,gName,tVar,tC,tOp,rI0,rI,tTest,tB,rEq,rNe,tCall,tCons,tNil,tCB,tLst,tTup,tAnd,tOr,tNot,tAndV,tOrV,tNotV,tIf,tDrop,tSl,tPart,tNoPart,tChain,tUn,rU,L2.start,cx_K,bk_K,cx_calm,bk_calm,lenV_str,and_assoc,Option.join,List.length_map,List.length_append,decide_eq_true_eq,Bool.false_eq_true,if_false,if_true,Bool.not_true,Bool.not_false,Bool.not_eq_true',decide_eq_false_iff_not,Bool.true_eq_false,List.length_cons,List.length_nil,List.map_cons,List.map_nil,List.replicate,List.cons_append,List.nil_append,List.append_nil,List.getElem?_cons_zero,List.getElem?_cons_succ,List.set_cons_zero,List.set_cons_succ,Nat.reduceSub,Nat.reduceAdd,Option.some.injEq,V.int.injEq,V.str.injEq,V.bl.injEq,V.ref.injEq,List.cons.injEq,and_true,true_and,exists_eq_left',exists_eq_left,exists_and_left,exists_eq_right,exists_const]
 refine ⟨_,.inl ⟨_,hS,rfl⟩,?_⟩
 split
 · rename_i hk
   rw [List.length_map] at hk
   exact ⟨a,_,k,_,rfl,rfl,hS,ix_nat hk,q⟩
 · rename_i hk
   rw [List.length_map] at hk
   rw [List.getD_eq_getElem?_getD,List.getElem?_eq_none (by omega)] at q
   exact q
theorem letter_at (c:Int):∃ d:Nat,atI ("abcdefghijklmnopqrstuvwxyz" : Str).cps.toList (c % 26) = some d /\ 97 <= d /\ d <= 122:=by
 have h:∀ k:Fin 26,∃ d:Nat,("abcdefghijklmnopqrstuvwxyz" : Str).cps.toList[k.val]? = some d /\ 97 <= d /\ d <= 122:=by decide +kernel
 have h1:0 <= c % 26:=Int.emod_nonneg _ (by omega)
 have h2:c % 26 < 26:=Int.emod_lt_of_pos _ (by omega)
 have e:c % 26 = ((c % 26).toNat:Nat):=by omega
 obtain ⟨d,h3,h4⟩:=h ⟨(c % 26).toNat,by omega⟩
 refine ⟨d,?_,h4⟩
 rw [e]
 exact zZ h3
theorem ok_name (bi:Bi mg) (F:Fun K "_law_name_by" "_law_name_by" s_k f fd):FnOk P w K mg base CX0 1 f fd ["cell","size"] spName:=by
 refine F.ok sc_k (fun vs H Q E h => ?_) (fun cdv A outer s H vs Q E hr h => ?_)
 · obtain ⟨c, n, rfl, _⟩ := h
   rfl
 obtain ⟨c,n,rfl,q⟩:=h
 refine ⟨_,(zD (zP (i:=2) sc_k.nd rfl (Or.inl rfl) yB) (zD (zP (i:=3) sc_k.nd rfl (Or.inl rfl) yB) (zD (zP (i:=4) sc_k.nd rfl (Or.inl rfl) (zO op_mod (pv 0) (zO op_pow zB zB))) (zD (yR PassesOwn.never rfl (xH rfl bi.range (zA (zO op_add zB (zO op_mod (pv 1) zB)) pa_nil)) (zM (i:=5) sc_k.nd rfl (Or.inl rfl)) (zD (zP (i:=3) sc_k.nd rfl (Or.inl rfl) (zO op_add_str (pv 3) (zI ix_str (pv 2) (zO op_mod (pv 4) zB) (fun _ _ => rfl)))) (zE (zP (i:=4) sc_k.nd rfl (Or.inl rfl) (zO op_fdiv (pv 4) zB))))) (zD (yI (PW.pt (qF (zN op_eq (pv 3) yB (zL _)) (qI (zN op_eq (pv 3) yB (zL _))))) (zE (zP (i:=3) sc_k.nd rfl (Or.inl rfl) (zO op_add_str (pv 3) yB))) pss_nil) (zE (zQ (pv 3)))))))),?_⟩
 refine zJ fun N hN => ?_
 simp only [tSeq,tFor_eq,tLC_eq,iRng1,iRng2,iList,iTup,iStr,tIfS,tRet,tRetN,tNext,tAsg,gName,tVar,tC,tOp,rI0,rI,tTest,tB,rEq,rNe,tCall,tCons,tNil,tCB,tLst,tTup,tAnd,tOr,tNot,tAndV,tOrV,tNotV,tIf,tDrop,tSl,tPart,tNoPart,tChain,tUn,rU,L2.start,cx_K,bk_K,cx_calm,bk_calm,lenV_str,and_assoc,Option.join,List.length_map,List.length_append,decide_eq_true_eq,Bool.false_eq_true,if_false,if_true,Bool.not_true,Bool.not_false,Bool.not_eq_true',decide_eq_false_iff_not,Bool.true_eq_false,List.length_cons,List.length_nil,List.map_cons,List.map_nil,List.replicate,List.cons_append,List.nil_append,List.append_nil,List.getElem?_cons_zero,List.getElem?_cons_succ,List.set_cons_zero,List.set_cons_succ,Nat.reduceSub,Nat.reduceAdd,Option.some.injEq,V.int.injEq,V.str.injEq,V.bl.injEq,V.ref.injEq,List.cons.injEq,and_true,true_and,exists_eq_left',exists_eq_left,exists_and_left,exists_eq_right,exists_const]
 refine hN _ _ ?_
 refine zJ fun N hN => ?_
 simp only [tSeq,tFor_eq,tLC_eq,iRng1,iRng2,iList,iTup,iStr,tIfS,tRet,tRetN,tNext,tAsg,gName,tVar,tC,tOp,rI0,rI,tTest,tB,rEq,rNe,tCall,tCons,tNil,tCB,tLst,tTup,tAnd,tOr,tNot,tAndV,tOrV,tNotV,tIf,tDrop,tSl,tPart,tNoPart,tChain,tUn,rU,L2.start,cx_K,bk_K,cx_calm,bk_calm,lenV_str,and_assoc,Option.join,List.length_map,List.length_append,decide_eq_true_eq,Bool.false_eq_true,if_false,if_true,Bool.not_true,Bool.not_false,Bool.not_eq_true',decide_eq_false_iff_not,Bool.true_eq_false,List.length_cons,List.length_nil,List.map_cons,List.map_nil,List.replicate,List.cons_append,List.nil_append,List.append_nil,List.getElem?_cons_zero,List.getElem?_cons_succ,List.set_cons_zero,List.set_cons_succ,Nat.reduceSub,Nat.reduceAdd,Option.some.injEq,V.int.injEq,V.str.injEq,V.bl.injEq,V.ref.injEq,List.cons.injEq,and_true,true_and,exists_eq_left',exists_eq_left,exists_and_left,exists_eq_right,exists_const]
 refine hN _ _ ?_
 refine zJ fun N hN => ?_
 simp only [tSeq,tFor_eq,tLC_eq,iRng1,iRng2,iList,iTup,iStr,tIfS,tRet,tRetN,tNext,tAsg,gName,tVar,tC,tOp,rI0,rI,tTest,tB,rEq,rNe,tCall,tCons,tNil,tCB,tLst,tTup,tAnd,tOr,tNot,tAndV,tOrV,tNotV,tIf,tDrop,tSl,tPart,tNoPart,tChain,tUn,rU,L2.start,cx_K,bk_K,cx_calm,bk_calm,lenV_str,and_assoc,Option.join,List.length_map,List.length_append,decide_eq_true_eq,Bool.false_eq_true,if_false,if_true,Bool.not_true,Bool.not_false,Bool.not_eq_true',decide_eq_false_iff_not,Bool.true_eq_false,List.length_cons,List.length_nil,List.map_cons,List.map_nil,List.replicate,List.cons_append,List.nil_append,List.append_nil,List.getElem?_cons_zero,List.getElem?_cons_succ,List.set_cons_zero,List.set_cons_succ,Nat.reduceSub,Nat.reduceAdd,Option.some.injEq,V.int.injEq,V.str.injEq,V.bl.injEq,V.ref.injEq,List.cons.injEq,and_true,true_and,exists_eq_left',exists_eq_left,exists_and_left,exists_eq_right,exists_const]
 refine ⟨⟨by decide,by decide,by decide⟩,by decide,hN _ _ ?_⟩
 generalize c % 26 ^ Int.toNat 8 = r0
 have hm:0 <= n % 8 /\ n % 8 < 8:=by omega
 have e0:("" : Str).cps.toList = []:=by decide +kernel
 refine yE (fun σ H' => H' = H /\ ∃ (z:Str) (a b:Option V),z.length = 1 + (n % 8).toNat /\ (∀ d ∈ z.cps.toList,97 <= d /\ d <= 122) /\ σ = [some (V.int c),some (V.int n),some (V.str "abcdefghijklmnopqrstuvwxyz"),some (V.str z),a,b]) (fun N hN => ?_) (fun σ H' h => ?_)
 · simp only [tSeq, tFor_eq, tLC_eq, iRng1, iRng2, iList, iTup, iStr, tIfS, tRet, tRetN, tNext, tAsg, gName, tVar, tC, tOp, rI0, rI, tTest, tB, rEq, rNe, tCall, tCons, tNil, tCB, tLst, tTup, tAnd, tOr, tNot, tAndV, tOrV, tNotV, tIf, tDrop, tSl, tPart, tNoPart, tChain, tUn, rU, L2.start, cx_K, bk_K, cx_calm, bk_calm, lenV_str, and_assoc, Option.join, List.length_map, List.length_append, decide_eq_true_eq, Bool.false_eq_true, if_false, if_true, Bool.not_true, Bool.not_false, Bool.not_eq_true', decide_eq_false_iff_not, Bool.true_eq_false, List.length_cons, List.length_nil, List.map_cons, List.map_nil, List.replicate, List.cons_append, List.nil_append, List.append_nil, List.getElem?_cons_zero, List.getElem?_cons_succ, List.set_cons_zero, List.set_cons_succ, Nat.reduceSub, Nat.reduceAdd, Option.some.injEq, V.int.injEq, V.str.injEq, V.bl.injEq, V.ref.injEq, List.cons.injEq, and_true, true_and, exists_eq_left', exists_eq_left, exists_and_left, exists_eq_right, exists_const]
   refine ⟨by decide,by omega,by omega,xS (n:=(1 + n % 8).toNat) (fun i σ H' => H' = H /\ ∃ (z:Str) (r:Int) (o:Option V),z.length = i /\ (∀ d ∈ z.cps.toList,97 <= d /\ d <= 122) /\ σ = [some (V.int c),some (V.int n),some (V.str "abcdefghijklmnopqrstuvwxyz"),some (V.str z),some (V.int r),o])
     ⟨rfl,_,_,_,rfl,(fun d hd => by rw [e0] at hd; cases hd),rfl⟩ (fun i σ H' hi e => ?_) (fun σ H' e => ?_)⟩
   · obtain ⟨rfl, z, r, o, hz, hl, rfl⟩ := e
     obtain ⟨d,hd,hd2⟩:=letter_at r
     simp only [tSeq,tFor_eq,tLC_eq,iRng1,iRng2,iList,iTup,iStr,tIfS,tRet,tRetN,tNext,tAsg,gName,tVar,tC,tOp,rI0,rI,tTest,tB,rEq,rNe,tCall,tCons,tNil,tCB,tLst,tTup,tAnd,tOr,tNot,tAndV,tOrV,tNotV,tIf,tDrop,tSl,tPart,tNoPart,tChain,tUn,rU,L2.start,cx_K,bk_K,cx_calm,bk_calm,lenV_str,and_assoc,Option.join,List.length_map,List.length_append,decide_eq_true_eq,Bool.false_eq_true,if_false,if_true,Bool.not_true,Bool.not_false,Bool.not_eq_true',decide_eq_false_iff_not,Bool.true_eq_false,List.length_cons,List.length_nil,List.map_cons,List.map_nil,List.replicate,List.cons_append,List.nil_append,List.append_nil,List.getElem?_cons_zero,List.getElem?_cons_succ,List.set_cons_zero,List.set_cons_succ,Nat.reduceSub,Nat.reduceAdd,Option.some.injEq,V.int.injEq,V.str.injEq,V.bl.injEq,V.ref.injEq,List.cons.injEq,and_true,true_and,exists_eq_left',exists_eq_left,exists_and_left,exists_eq_right,exists_const]
     refine ⟨by decide,_,_,d,rfl,rfl,small (by decide +kernel),hd,?_⟩
     have e1:(⟨#[d]⟩:Str).length = 1:=rfl
     refine ⟨_,rfl,small (by omega),⟨by decide,by decide⟩,rfl,_,?_,?_,rfl,_,rfl⟩
     · rw [len_app,hz,e1]
     · intro d' hd'
       rw [cps_app] at hd'
       rcases List.mem_append.mp hd' with h | h
       · exact hl d' h
       · have h : d' ∈ [d] := h
         rw [List.mem_singleton.mp h]
         exact hd2
   · obtain ⟨rfl, z, r, o, hz, hl, rfl⟩ := e
     exact hN _ _ ⟨rfl,z,_,_,by omega,hl,rfl⟩
 · obtain ⟨rfl, z, a, b, hz, hl, rfl⟩ := h
   refine yE (fun σ H'' => H'' = H' /\ ∃ (z:Str) (a b:Option V),Nm z /\ σ = [some (V.int c),some (V.int n),some (V.str "abcdefghijklmnopqrstuvwxyz"),some (V.str z),a,b]) (fun N hN => ?_) (fun σ H'' h => ?_)
   · simp only [tSeq, tFor_eq, tLC_eq, iRng1, iRng2, iList, iTup, iStr, tIfS, tRet, tRetN, tNext, tAsg, gName, tVar, tC, tOp, rI0, rI, tTest, tB, rEq, rNe, tCall, tCons, tNil, tCB, tLst, tTup, tAnd, tOr, tNot, tAndV, tOrV, tNotV, tIf, tDrop, tSl, tPart, tNoPart, tChain, tUn, rU, L2.start, cx_K, bk_K, cx_calm, bk_calm, lenV_str, and_assoc, Option.join, List.length_map, List.length_append, decide_eq_true_eq, Bool.false_eq_true, if_false, if_true, Bool.not_true, Bool.not_false, Bool.not_eq_true', decide_eq_false_iff_not, Bool.true_eq_false, List.length_cons, List.length_nil, List.map_cons, List.map_nil, List.replicate, List.cons_append, List.nil_append, List.append_nil, List.getElem?_cons_zero, List.getElem?_cons_succ, List.set_cons_zero, List.set_cons_succ, Nat.reduceSub, Nat.reduceAdd, Option.some.injEq, V.int.injEq, V.str.injEq, V.bl.injEq, V.ref.injEq, List.cons.injEq, and_true, true_and, exists_eq_left', exists_eq_left, exists_and_left, exists_eq_right, exists_const]
     refine ⟨rfl,?_⟩
     have fin:∀ z:Str,Nm z -> N [some (V.int c),some (V.int n),some (V.str "abcdefghijklmnopqrstuvwxyz"),some (V.str z),a,b] H':=fun z h => hN _ _ ⟨rfl,z,_,_,h,rfl⟩
     split
     · rename_i e
       subst e
       refine ⟨small (by decide +kernel),fin _ ?_⟩
       exact ⟨by decide +kernel,by decide +kernel,by decide +kernel,by decide +kernel,by decide +kernel⟩
     · rename_i e
       refine ⟨rfl,?_⟩
       split
       · rename_i e
         subst e
         refine ⟨small (by decide +kernel),fin _ ?_⟩
         exact ⟨by decide +kernel,by decide +kernel,by decide +kernel,by decide +kernel,by decide +kernel⟩
       · rename_i e2
         exact fin z ⟨by omega,by omega,hl,e,e2⟩
   · obtain ⟨rfl, z, a, b, hz, rfl⟩ := h
     simp only [tSeq,tFor_eq,tLC_eq,iRng1,iRng2,iList,iTup,iStr,tIfS,tRet,tRetN,tNext,tAsg,gName,tVar,tC,tOp,rI0,rI,tTest,tB,rEq,rNe,tCall,tCons,tNil,tCB,tLst,tTup,tAnd,tOr,tNot,tAndV,tOrV,tNotV,tIf,tDrop,tSl,tPart,tNoPart,tChain,tUn,rU,L2.start,cx_K,bk_K,cx_calm,bk_calm,lenV_str,and_assoc,Option.join,List.length_map,List.length_append,decide_eq_true_eq,Bool.false_eq_true,if_false,if_true,Bool.not_true,Bool.not_false,Bool.not_eq_true',decide_eq_false_iff_not,Bool.true_eq_false,List.length_cons,List.length_nil,List.map_cons,List.map_nil,List.replicate,List.cons_append,List.nil_append,List.append_nil,List.getElem?_cons_zero,List.getElem?_cons_succ,List.set_cons_zero,List.set_cons_succ,Nat.reduceSub,Nat.reduceAdd,Option.some.injEq,V.int.injEq,V.str.injEq,V.bl.injEq,V.ref.injEq,List.cons.injEq,and_true,true_and,exists_eq_left',exists_eq_left,exists_and_left,exists_eq_right,exists_const]
     exact q z hz
theorem uJ (bi : Bi mg) (h_k : Has P w K mg base 1 "_law_name_by" ["cell", "size"] spName) (F : Fun K "_law_sheet_and_rules" "_law_sheet_and_rules" s_a f fd) : FnOk P w K mg base CX0 2 f fd ["script", "most", "many"] (spSR K) := by
 refine F.ok sc_a (fun vs H Q E h => ?_) (fun cdv A outer s H vs Q E hr h => ?_)
 · obtain ⟨sa, ns, m, n, rfl, _⟩ := h
   rfl
 obtain ⟨sa,ns,m,n,rfl,hS,h63,q⟩:=h
 refine ⟨_,(zD (zP (i:=3) sc_a.nd rfl (Or.inl rfl) (jE (zA (zX (zA yB pa_nil)) pa_nil))) (zD (zP (i:=4) sc_a.nd rfl (Or.inl rfl) (jE pa_nil)) (zD (yR PassesOwn.never rfl (xD (jD sl_list (pv 0) po_none (qB zB))) (zM (i:=5) sc_a.nd rfl (Or.inl rfl)) (zD (zP (i:=6) sc_a.nd rfl (Or.inl rfl) (zO op_mod (pv 5) (zO op_pow zB zB))) (zD (zP (i:=7) sc_a.nd rfl (Or.inl rfl) (zO op_mul zB (zK call_len rfl bi.len bt_len (zA (pv 3) pa_nil)))) (zD (zP (i:=8) sc_a.nd rfl (Or.inl rfl) (zO op_mod (zO op_fdiv (zO op_mod (zO op_mul (zO op_fdiv (pv 6) zB) zB) zB) zB) (pv 7))) (zD (zP (i:=9) sc_a.nd rfl (Or.inl rfl) (zO op_mod (zO op_fdiv (zO op_mod (zO op_mul (zO op_fdiv (pv 6) zB) zB) zB) zB) (pv 7))) (zD (zP (i:=10) sc_a.nd rfl (Or.inl rfl) (zX (zA yB (zA (pv 8) (zA (pv 9) pa_nil))))) (zD (yI (zN op_eq (zO op_mod (pv 6) zB) zB (zL _)) (zE (zP (i:=10) sc_a.nd rfl (Or.inl rfl) (zX (zA yB (zA (zR h_k (hr.mono (by omega)) rfl (zA (zO op_fdiv (pv 6) zB) (zA (zO op_mod (zO op_fdiv (pv 6) zB) zB) pa_nil))) pa_nil))))) pss_nil) (zE (yI (PW.pt (jB (zN op_lt (zO op_mod (pv 6) zB) zB (zL _)) (jB (zN op_lt (zK call_len rfl bi.len bt_len (zA (pv 3) pa_nil)) (pv 1) (zL _)) (jN (zN (op_notInG hr.units) (pv 10) (pv 3) (by with_unfolding_all rfl)))))) (zE (yG (vJ PySem.F.plainAttrs_list PySem.F.slot_list_append PySem.F.type_list_append mt_append (pv 3) (zA (pv 10) pa_nil)))) (zE (yI (PW.pt (jB (zN op_lt (zK call_len rfl bi.len bt_len (zA (pv 4) pa_nil)) (pv 2) (zL _)) (jN (zN op_eq (zO op_mod (zO op_fdiv (pv 6) zB) zB) zB (zL _))))) (zE (yG (vJ PySem.F.plainAttrs_list PySem.F.slot_list_append PySem.F.type_list_append mt_append (pv 4) (zA (jE (zA (jE pa_nil) (zA (zX (zA (pv 8) (zA (pv 9) pa_nil))) pa_nil))) pa_nil)))) (zE (yI (PW.pt (jB (zN op_gt (zK call_len rfl bi.len bt_len (zA (pv 4) pa_nil)) zB (zL _)) (jN (zN op_lt (zK call_len rfl bi.len bt_len (zA (zI ix_list (zI ix_list (pv 4) (uV un_neg zB) (fun _ _ => rfl)) zB (fun _ _ => rfl)) pa_nil)) zB (zL _))))) (zE (yG (vJ PySem.F.plainAttrs_list PySem.F.slot_list_append PySem.F.type_list_append mt_append (zI ix_list (zI ix_list (pv 4) (uV un_neg zB) (fun _ _ => rfl)) zB (fun _ _ => rfl)) (zA (zX (zA (pv 9) (zA (pv 8) pa_nil))) pa_nil)))) pss_nil))))))))))))) (zE (zQ (zX (zA (pv 3) (zA (xV ["rule"] [] [] (xD (pv 4)) (fun _ _ _ _ nd => zM (i:=0) nd rfl (Or.inl rfl)) (fun _ _ _ _ => xR) (fun _ _ _ _ => (zX (zA (zI (qQ K) (pv 0) zB (fun _ _ => rfl)) (zA (zI (qQ K) (pv 0) zB (fun _ _ => rfl)) pa_nil))))) pa_nil)))))))),?_⟩
 refine zJ fun N hN => ?_
 simp! []
 refine ⟨small (by simp),fun p0 hp0 => ⟨small (by simp),fun ra hra => hN _ _ ?_⟩⟩
 have e1:=zF hp0 (.tup [.str "none"])
 have k1:upd H p0 (.tup [.str "none"]) p0 = some (.tup [.str "none"]):=zC
 generalize upd H p0 (.tup [.str "none"]) = H1 at e1 k1 hra ⊢
 have e2:=zF hra (.lst [.ref p0])
 have k2:upd H1 ra (.lst [.ref p0]) ra = some (.lst [.ref p0]):=zC
 generalize upd H1 ra (.lst [.ref p0]) = H2 at e2 k2 ⊢
 refine zJ fun N hN => ?_
 simp! []
 refine ⟨small (by simp),fun rb hrb => hN _ _ ?_⟩
 have e3:=zF hrb (.lst [])
 have k3:upd H2 rb (.lst []) rb = some (.lst []):=zC
 generalize upd H2 rb (.lst []) = H3 at e3 k3 ⊢
 have e03:=(e1.trans e2).trans e3
 refine yE (fun σ H' => ∃ (pc:Addr) (zs:List V) (i:Nat) (us:List V) (rows:List Rw) (rs:List RC) (o1 o2 o3 o4 o5 o6:Option V),i <= 63 /\ SRI H pc zs i H' ra rb us rows rs /\ σ = [some (V.ref sa),some (V.int m),some (V.int n),some (V.ref ra),some (V.ref rb),o1,o2,o3,o4,o5,o6]) (fun N hN => ?_) (fun σ H' h => ?_)
 · simp! []
   refine ⟨_,Same.seq e03 hS,fun pc hpc => ?_⟩
   rw [cut_ints]
   have hcl:=cutI_len ns none (some 60)
   generalize YE ns none (some 60) = cs at hcl
   have e4:=zF hpc (.lst (cs.map V.int))
   have k4:upd H3 pc (.lst (cs.map V.int)) pc = some (.lst (cs.map V.int)):=zC
   generalize upd H3 pc (.lst (cs.map V.int)) = H4 at e4 k4 ⊢
   have nra:H ra = none:=e1.free hra
   have nrb:H rb = none:=(e1.trans e2).free hrb
   refine ⟨⟨_,SqL.of k4⟩,?_⟩
   refine xX (xs:=cs.map V.int) (fun i σ H' => ∃ (us:List V) (rows:List Rw) (rs:List RC) (o1 o2 o3 o4 o5 o6:Option V),SRI H pc (cs.map V.int) i H' ra rb us rows rs /\ σ = [some (V.ref sa),some (V.int m),some (V.int n),some (V.ref ra),some (V.ref rb),o1,o2,o3,o4,o5,o6]) ?_ (fun i σ H' _ h => ?_) (fun i x σ H' hx h => ?_) (fun σ H' h => ?_)
   · refine ⟨[.ref p0],[.no],[],_,_,_,_,_,_,⟨e03.trans e4,nra,nrb,yT k2 hrb,k4,⟨(yT (e3 _ _ k2) hpc).symm,(yT k3 hpc).symm,(fun c z => by cases z)⟩,(e3.trans e4) _ _ k2,⟨_,_,rfl,⟨p0,_,rfl,((e2.trans e3).trans e4) _ _ k1,_,_,rfl,rfl,rfl⟩,rfl⟩,by simp,by simp,(fun k i j hk => by have:=(List.getElem?_eq_some_iff.mp hk).1; simp at this; subst this; cases hk),e4 _ _ k3,(fun c z => by cases z),(fun c z => by cases z),List.nodup_nil,(fun c z => by cases z),by simp,(fun c z => by cases z),(fun c z => by cases z)⟩,rfl⟩
   · obtain ⟨us, rows, rs, o1, o2, o3, o4, o5, o6, S, rfl⟩ := h
     exact SqL.of S.pk
   · obtain ⟨us, rows, rs, o1, o2, o3, o4, o5, o6, S, rfl⟩ := h
     obtain ⟨c,hc,rfl⟩:∃ c,cs[i]? = some c /\ x = .int c:=by
       rw [List.getElem?_map] at hx
       cases e:cs[i]? with
       | none => rw [e] at hx; cases hx
       | some n => rw [e] at hx; cases hx; exact ⟨n,rfl,rfl⟩
     have hi63:i < 63:=by have:=(List.getElem?_eq_some_iff.mp hc).1; omega
     have hul:=yK S.rws
     show tSeq _ _ _ _ _
     refine zJ fun N hN => ?_
     simp! []
     refine ⟨⟨by decide,by decide,by decide⟩,p1018,hN _ _ ?_⟩
     generalize c % 10 ^ Int.toNat 18 = cell
     refine zJ fun N hN => ?_
     simp! []
     refine ⟨us.length,.inl ⟨_,SqL.of S.rw,rfl⟩,.inl ⟨by decide,by decide⟩,hN _ _ ?_⟩
     have htop:(0:Int) < 2 * (us.length:Int):=by have:=S.r1; omega
     generalize htq:2 * (us.length:Int) = top at htop
     refine zJ fun N hN => ?_
     simp! []
     refine ⟨⟨by decide,by decide⟩,.inr ⟨by decide,by decide⟩,by decide,⟨by decide,by decide⟩,htop,hN _ _ ?_⟩
     have o1:=Int.emod_nonneg (cell / 5 * 48271 % 2147483647 / 64) (b:=top) (by omega)
     have o2:=Int.emod_lt_of_pos (cell / 5 * 48271 % 2147483647 / 64) (b:=top) htop
     generalize cell / 5 * 48271 % 2147483647 / 64 % top = one at o1 o2
     refine zJ fun N hN => ?_
     simp! []
     refine ⟨⟨by decide,by decide⟩,.inr ⟨by decide,by decide⟩,by decide,⟨by decide,by decide⟩,htop,hN _ _ ?_⟩
     have o3:=Int.emod_nonneg (cell / 5 * 39373 % 2147483629 / 1024) (b:=top) (by omega)
     have o4:=Int.emod_lt_of_pos (cell / 5 * 39373 % 2147483629 / 1024) (b:=top) htop
     generalize cell / 5 * 39373 % 2147483629 / 1024 % top = other at o3 o4
     refine zJ fun N hN => ?_
     simp! []
     refine ⟨small (by simp),fun pr hpr => hN _ _ ?_⟩
     have g1:=zF hpr (.tup [.str "both",.int one,.int other])
     have y1:upd H' pr (.tup [.str "both",.int one,.int other]) pr = some (.tup [.str "both",.int one,.int other]):=zC
     generalize upd H' pr (.tup [.str "both",.int one,.int other]) = J1 at g1 y1 ⊢
     refine yE (fun σ H2 => Same H' H2 /\ ∃ (rv:V) (r:Rw),DAt H2 (dRw r) rv /\ RowB r top /\ σ = [some (V.ref sa),some (V.int m),some (V.int n),some (V.ref ra),some (V.ref rb),some (V.int c),some (V.int cell),some (V.int top),some (V.int one),some (V.int other),some rv]) (fun N hN => ?_) (fun σ H2 h => ?_)
     · simp! [spName]
       refine ⟨by decide,rfl,?_⟩
       split
       · refine ⟨⟨by decide,by decide⟩,⟨by decide,by decide⟩,by decide,fun nm gn => ⟨small (by simp),fun p2 hp2 => hN _ _ ⟨g1.trans (zF hp2 _),_,.nm nm,⟨p2,_,rfl,zC,_,_,rfl,rfl,_,_,rfl,rfl,rfl⟩,(fun i j z => by cases z),rfl⟩⟩⟩
       · exact hN _ _ ⟨g1,_,.bo one other,⟨pr,_,rfl,y1,_,_,rfl,rfl,_,_,rfl,rfl,_,_,rfl,rfl,rfl⟩,(fun i j z => by cases z; exact ⟨⟨o1,o2⟩,o3,o4⟩),rfl⟩
     · obtain ⟨m2, rv, r, hrv, hrb, rfl⟩ := h
       rw [← htq,hul] at hrb
       have S2:=S.go m2
       refine if_abs fun T U hT hU => ?_
       have hU':U H2:=by
         refine hU H2 ?_
         refine if_abs fun T2 U2 hT2 hU2 => ?_
         have hU2':U2 H2:=by
           refine hU2 H2 ?_
           simp! []
           refine ⟨_,.inl ⟨_,SqL.of S2.ru,rfl⟩,?_⟩
           split
           · rename_i hpos
             have hne:rs ≠ []:=by intro z; subst z; simp at hpos
             obtain ⟨rs',c',rfl⟩:∃ r x,rs = r ++ [x]:=⟨rs.dropLast,rs.getLast hne,(List.dropLast_concat_getLast hne).symm⟩
             obtain ⟨ho,⟨uc,hl,hps⟩,ht⟩:=S2.ok c' (by simp)
             have hucl:=yK hps
             have hpl:=S.s2 c' (by simp)
             have hru:=S2.ru
             rw [List.map_append] at hru
             have hlast:atI ((rs'.map fun c => V.ref c.o) ++ [V.ref c'.o]) (-1) = some (.ref c'.o):=atI_last _ _
             refine ⟨_,SqL.of hru,.ref c'.o,hlast,c'.o,rfl,_,SqL.of ho,.ref c'.l,at0,uc.length,.inl ⟨_,SqL.of hl,rfl⟩,?_⟩
             split
             · refine ⟨_, SqL.of hru, .ref c'.o, hlast, c'.o, rfl, _, SqL.of ho, .ref c'.l, at0, .inl ⟨rfl, _, SqL.of hl⟩, small (by simp), fun p6 hp6 => ?_⟩
               have j2:=zF hp6 (.tup [.int other,.int one])
               have z2:upd H2 p6 (.tup [.int other,.int one]) p6 = some (.tup [.int other,.int one]):=zC
               generalize upd H2 p6 (.tup [.int other,.int one]) = J3 at j2 z2 ⊢
               have hl3:=j2 _ _ hl
               exact ⟨c'.l,rfl,uc,hl3,Nat.lt_of_le_of_lt (m:=100000) (by omega) (by decide),us,rows,_,(S2.go j2).premPut (q:=(other,one)) hl3 z2,_,rfl⟩
             · exact ⟨us,rows,_,S2.up,_,rfl⟩
           · exact ⟨us,rows,rs,S2.up,_,rfl⟩
         simp! []
         refine ⟨_,.inl ⟨_,SqL.of S2.ru,rfl⟩,?_⟩
         split
         · refine ⟨⟨by decide, by decide⟩, by decide, rfl, ?_⟩
           split
           · refine hT2 H2 ?_
             simp! []
             refine ⟨.inl ⟨rfl,_,SqL.of S2.ru⟩,Nat.zero_le _,fun pl hpl => ?_⟩
             have j1:=zF hpl (.lst [])
             have z1:upd H2 pl (.lst []) pl = some (.lst []):=zC
             generalize upd H2 pl (.lst []) = J2 at j1 z1 ⊢
             refine ⟨small (by simp),fun pt hpt => ?_⟩
             have j2:=zF hpt (.tup [.int one,.int other])
             have z2:upd J2 pt (.tup [.int one,.int other]) pt = some (.tup [.int one,.int other]):=zC
             generalize upd J2 pt (.tup [.int one,.int other]) = J3 at j2 z2 ⊢
             refine ⟨small (by simp),fun po hpo => ?_⟩
             have j3:=zF hpo (.lst [.ref pl,.ref pt])
             have z3:upd J3 po (.lst [.ref pl,.ref pt]) po = some (.lst [.ref pl,.ref pt]):=zC
             have npo:H2 po = none:=(j1.trans j2).free hpo
             have nol:po ≠ pl:=(yT (j2 _ _ z1) hpo).symm
             generalize upd J3 po (.lst [.ref pl,.ref pt]) = J4 at j3 z3 ⊢
             have j:=(j1.trans j2).trans j3
             have hsl:=S.s1
             refine ⟨_,j _ _ S2.ru,Nat.lt_of_le_of_lt (m:=100000) (by rw [List.length_map]; omega) (by decide),us,rows,_,S2.rulePut (q:=(one,other)) j npo hpl nol z3 ((j2.trans j3) _ _ z1) (j3 _ _ z2) ⟨⟨o1,by rw [← hul,htq]; exact o2⟩,o3,by rw [← hul,htq]; exact o4⟩,_,rfl⟩
           · exact hU2'
         · exact hU2'
       simp! []
       refine ⟨by decide,?_⟩
       split
       · refine ⟨_, .inl ⟨_, SqL.of S2.rw, rfl⟩, ?_⟩
         split
         · refine ⟨2, dRw r, rows.map dRw, hrv, .inl ⟨ra, _, rfl, S2.rw, S2.rws⟩, fun d hd => ?_, by decide, _, rfl, ?_⟩
           · obtain ⟨z, _, rfl⟩ := List.mem_map.mp hd
             exact fit_rw 1 z
           · split
             · refine hT H2 ?_
               simp! []
               have hrl:=S.r2
               exact ⟨.inl ⟨rfl,_,SqL.of S2.rw⟩,_,S2.rw,Nat.lt_of_le_of_lt (m:=100000) (by omega) (by decide),_,_,_,S2.rowPut hrv hrb,_,rfl⟩
             · exact hU'
         · exact hU'
       · exact hU'
   · obtain ⟨us, rows, rs, o1, o2, o3, o4, o5, o6, S, rfl⟩ := h
     rw [List.length_map] at S
     exact hN _ _ ⟨_,_,_,us,rows,rs,_,_,_,_,_,_,by omega,S,rfl⟩
 · obtain ⟨pc, zs, ii, us, rows, rs, o1, o2, o3, o4, o5, o6, hii, S, rfl⟩ := h
   simp! []
   have hrl:=S.s1
   have hr2:=S.r2
   refine ⟨⟨_,SqL.of S.ru⟩,?_⟩
   refine uX (xs:=rs.map fun c => V.ref c.o) (fun i ys σ H2 => Same H' H2 /\ DAts H2 ((rs.take i).map fun c => dNR (c.ps,c.q)) ys /\ ∃ o,σ = [o]) ⟨Same.refl _,rfl,_,rfl⟩ (small (by rw [List.length_map]; omega)) (fun i ys σ H2 e => ?_) (fun i ys σ H2 e => SqL.of (e.1 _ _ S.ru)) (fun i x ys σ H2 C hx e hC => ?_) (fun ys σ H2 e p3 hp3 => ?_)
   · have := DAts.length e.2.1
     rw [List.length_map,List.length_take] at this
     omega
   · obtain ⟨es, hys, o, rfl⟩ := e
     rw [List.getElem?_map] at hx
     cases hci:rs[i]? with
     | none => rw [hci] at hx; cases hx
     | some c =>
       rw [hci] at hx
       cases hx
       obtain ⟨ho,⟨uc,hl,hps⟩,ht⟩:=(S.ok c (List.mem_of_getElem? hci)).same es
       simp! []
       refine ⟨_,SqL.of ho,_,at0,_,SqL.of ho,_,at1,small (by simp),fun p hp => hC _ _ _ ?_⟩
       have g:=zF hp (.tup [.ref c.l,.ref c.t])
       refine ⟨es.trans g,mapSnoc (f:=fun c:RC => dNR (c.ps,c.q)) hci (DAts.same g hys) ?_,_,rfl⟩
       exact ⟨p,_,rfl,zC,_,_,rfl,⟨c.l,_,rfl,g _ _ hl,DAts.same g hps⟩,_,_,rfl,⟨c.t,_,rfl,g _ _ ht,_,_,rfl,rfl,_,_,rfl,rfl,rfl⟩,rfl⟩
   · obtain ⟨es, hys, o, rfl⟩ := e
     rw [List.length_map,List.take_of_length_le (Nat.le_refl _)] at hys
     have g3:=zF hp3 (.lst ys)
     have z3:upd H2 p3 (.lst ys) p3 = some (.lst ys):=zC
     generalize upd H2 p3 (.lst ys) = H3' at g3 z3 ⊢
     refine ⟨small (by simp),fun p4 hp4 => ?_⟩
     have g4:=zF hp4 (.tup [.ref ra,.ref p3])
     have gg:=(es.trans g3).trans g4
     refine q p4 ra p3 us ys rows (rs.map fun c => (c.ps,c.q)) _ (S.same.trans gg) zC (gg _ _ S.rw) (DAts.same gg S.rws) (g4 _ _ z3) ?_ S.r1 (by omega) (by rw [List.length_map]; omega) (fun r hr => ?_) S.rbd (fun r hr => ?_)
     · rw [List.map_map]
       exact DAts.same (g3.trans g4) hys
     · obtain ⟨c, hc, rfl⟩ := List.mem_map.mp hr
       have:=S.s2 c hc
       show c.ps.length <= 100
       omega
     · obtain ⟨c, hc, rfl⟩ := List.mem_map.mp hr
       exact S.qb c hc
end
abbrev s_l:Stmt:=vZ (top 12) 0
theorem sc_l:FnScope ["self","many"] ["self","many"] (zG s_l):=⟨rfl,rfl,rfl,by decide +kernel,rfl,by decide +kernel,by decide +kernel⟩
abbrev s_b:Stmt:=vZ (top 12) 1
theorem sc_b:FnScope ["self","i","j"] ["self","i","j"] (zG s_b):=⟨rfl,rfl,rfl,by decide +kernel,rfl,by decide +kernel,by decide +kernel⟩
abbrev s_n:Stmt:=vZ (top 12) 2
theorem sc_n:FnScope ["self","i","j"] ["self","i","j"] (zG s_n):=⟨rfl,rfl,rfl,by decide +kernel,rfl,by decide +kernel,by decide +kernel⟩
abbrev s_d:Stmt:=vZ (top 12) 3
theorem sc_d:FnScope ["self","i","j","why"] ["self","i","j","why"] (zG s_d):=⟨rfl,rfl,rfl,by decide +kernel,rfl,by decide +kernel,by decide +kernel⟩
abbrev s_C:Stmt:=top 7
theorem sc_C:FnScope ["mask","bits","rest","low"] ["mask"] (zG s_C):=⟨rfl,rfl,rfl,by decide +kernel,rfl,by decide +kernel,by decide +kernel⟩
abbrev nV (n:Nat):V:=.int (n:Int)
def spBits:Sp:=fun vs H Q _ => ∃ (m:Nat) (xs:List Nat),vs = [.int m] /\ Bits m xs /\ (∀ x ∈ xs,x < 300) /\ ∀ p H',Same H H' -> H p = none -> H' p = some (.lst (xs.map nV)) -> Q (.ref p) H'
theorem bits_len {m:Nat} {xs:List Nat} (h:Bits m xs) (hx:∀ x ∈ xs,x < 300):xs.length <= 300:=by
 have:∀ (xs:List Nat) (b:Nat),xs.Pairwise (· < ·) -> (∀ x ∈ xs,b <= x /\ x < 300) -> xs.length + b <= 300 \/ xs = []:=by
   intro xs
   induction xs with
   | nil => intro b _ _; exact .inr rfl
   | cons x xs ih =>
     intro b hp hb
     have hp':=List.pairwise_cons.mp hp
     have hx:=hb x List.mem_cons_self
     rcases ih (x + 1) hp'.2 (fun y hy => ⟨hp'.1 y hy,(hb y (List.mem_cons_of_mem _ hy)).2⟩) with h | h
     · left; rw [List.length_cons]; omega
     · subst h; left; rw [List.length_cons,List.length_nil]; omega
 rcases this xs 0 h.1 (fun x hx' => ⟨Nat.zero_le _,hx x hx'⟩) with h | h
 · omega
 · subst h; simp
section
variable {P:Program} {w:World} {K:PySem.W.Frag} {mg:Str -> Option Value} {base:Heap} {f:Addr} {fd:FuncData}
theorem ok_bits_of (bi:Bi mg) (F:Fun K "bits_of" "bits_of" s_C f fd):FnOk P w K mg base CX0 1 f fd ["mask"] spBits:=by
 refine F.ok sc_C (fun vs H Q E h => ?_) (fun cdv A outer s H vs Q E hr h => ?_)
 · obtain ⟨m, xs, rfl, _⟩ := h
   rfl
 obtain ⟨m,xs,rfl,hb,hx,q⟩:=h
 have hxl:=bits_len hb hx
 refine ⟨_,(zD (zP (i:=1) sc_C.nd rfl (Or.inl rfl) (jE pa_nil)) (zD (zP (i:=2) sc_C.nd rfl (Or.inl rfl) (pv 0)) (zD (ps_while PassesOwn.never (pt_truth (pv 2) (fun _ => rfl)) (zD (zP (i:=3) sc_C.nd rfl (Or.inl rfl) (zO op_and (pv 2) (uV un_neg (pv 2)))) (zD (yG (vJ PySem.F.plainAttrs_list PySem.F.slot_list_append PySem.F.type_list_append mt_append (pv 1) (zA (zO op_sub (pe_bm0 PySem.F.plainAttrs_int PySem.F.slot_int_bit_length PySem.F.type_int_bit_length mt_bit_length (pv 3)) zB) pa_nil))) (zE (ps_aug (i:=2) sc_C.nd rfl (Or.inl rfl) (pv 3) ip_xor))))) (zE (zQ (pv 1)))))),?_⟩
 refine zJ fun N hN => ?_
 simp! []
 refine ⟨small (by simp),fun p hp => hN _ _ ?_⟩
 clear hN
 refine zJ fun N hN => ?_
 simp! []
 refine hN _ _ ?_
 clear hN
 have s1:=zF hp (.lst [])
 have k1:upd H p (.lst []) p = some (.lst ((xs.take 0).map nV)):=zC
 generalize upd H p (.lst []) = H1 at s1 k1 ⊢
 refine yE (fun σ H' => ∃ (o1 o2:Option V),Same H H' /\ H' p = some (.lst (xs.map nV)) /\ σ = [some (V.int m),some (V.ref p),o1,o2]) (fun N hN => ?_) (fun σ H' h => ?_)
 · simp! [tWhile]
   refine ⟨fun k σ H' => ∃ (i r:Nat) (o:Option V),k = xs.length - i /\ i <= xs.length /\ Same H H' /\ H' p = some (.lst ((xs.take i).map nV)) /\ Bits r (xs.drop i) /\ σ = [some (V.int m),some (V.ref p),some (V.int r),o],⟨_,0,m,_,rfl,Nat.zero_le _,s1,k1,hb,rfl⟩,fun k σ H' h => ?_⟩
   obtain ⟨i,r,o,rfl,hi,s2,k2,hr',rfl⟩:=h
   simp! []
   refine ⟨_,rfl,?_⟩
   cases hd:xs.drop i with
   | nil =>
     rw [hd] at hr'
     have e0:=hr'.nil
     subst e0
     rw [if_neg (by decide)]
     have hil:xs.length <= i:=by
       have:=congrArg List.length hd
       rw [List.length_drop,List.length_nil] at this
       omega
     rw [List.take_of_length_le hil] at k2
     exact hN _ _ ⟨_,_,s2,k2,rfl⟩
   | cons x rest =>
     rw [hd] at hr'
     have hxb:r.testBit x = true:=by rw [hr'.2]; simp
     obtain ⟨hr0,hl,hb2⟩:=hr'.cons
     rw [if_pos (by simp; omega)]
     have hil:i < xs.length:=by
       have:=congrArg List.length hd
       rw [List.length_drop,List.length_cons] at this
       omega
     have hxi:xs[i]? = some x:=by
       have:=congrArg (·[0]?) hd
       simpa using this
     have hdr:xs.drop (i + 1) = rest:=by
       have:=congrArg (List.drop 1) hd
       rw [List.drop_drop] at this
       simpa using this
     refine ⟨fun σ' H'' => ∃ (o:Option V),Same H H'' /\ H'' p = some (.lst ((xs.take (i + 1)).map nV)) /\ σ' = [some (V.int m),some (V.ref p),some (V.int ((r &&& (r - 1):Nat):Int)),o],fun σ' H'' h => ?_,?_⟩
     · obtain ⟨o', a1, a2, rfl⟩ := h
       exact ⟨xs.length - (i + 1),by omega,i + 1,rfl,by omega,a1,a2,_,by rw [hdr]; exact hb2,_,rfl⟩
     have elow:Builtin.bitAnd (r:Int) (-(r:Int)) = ((2 ^ x:Nat):Int):=by rw [low_mask hr0,hl]
     simp! [tAug,ipI,rBitLen]
     rw [elow,bits_pow]
     refine ⟨.inl ⟨rfl,_,SqL.of k2⟩,rfl,_,k2,qX (by rw [List.length_map,List.length_take]; omega),s2.upd hp,?_,xor_low hl hxb,_,rfl⟩
     have e:(((x + 1:Nat):Int) - 1) = (x:Int):=by omega
     obtain ⟨_,ei⟩:=List.getElem?_eq_some_iff.mp hxi
     rw [zC,e,List.take_succ_eq_append_getElem hil,ei,List.map_append]
     rfl
 obtain ⟨o1,o2,s2,k2,rfl⟩:=h
 simp! []
 exact q _ _ s2 hp k2
end
def OW (as:List Wt):Prop:=as.length <= 3 /\ ∀ ps,Wt.ps ps ∈ as -> ps.length <= 300
def zU (ls:List Ln) (i j:Int):Bool:=ls.any fun l => l.i == i && l.j == j
theorem hasP_iff {ls:List Ln} {i j:Int}:zU ls i j = true ↔ ∃ (p:Nat) (l:Ln),ls[p]? = some l /\ l.i = i /\ l.j = j:=by
 unfold zU
 rw [List.any_eq_true]
 constructor
 · rintro ⟨l, hl, h⟩
   rw [Bool.and_eq_true,beq_iff_eq,beq_iff_eq] at h
   obtain ⟨p,hp,e⟩:=List.getElem_of_mem hl
   exact ⟨p,l,by rw [List.getElem?_eq_getElem hp,e],h.1,h.2⟩
 · rintro ⟨p, l, hl, h1, h2⟩
   exact ⟨l,List.mem_of_getElem? hl,by rw [h1,h2]; simp⟩
theorem qR (ls t:List Ln) (i j:Int):zU (ls ++ t) i j = (zU ls i j || zU t i j):=by
 unfold zU
 rw [List.any_append]
theorem wR (l:Ln) (i j:Int):zU [l] i j = (l.i == i && l.j == j):=by
 unfold zU
 simp
def yZ (i j:Int):List Key:=[.inl i,.inl j]
def plT:List Ln -> Nat -> List (List Key × V)
 | [],_ => []
 | l :: ls,k => (yZ l.i l.j,.int k) :: plT ls (k + 1)
theorem plT_len:∀ (ls:List Ln) (k:Nat),(plT ls k).length = ls.length
 | [],_ => rfl
 | l :: ls,k => by show (plT ls (k + 1)).length + 1 = _; rw [plT_len ls (k + 1)]; rfl
theorem plT_snoc (l:Ln):∀ (ls:List Ln) (k:Nat),plT (ls ++ [l]) k = plT ls k ++ [(yZ l.i l.j,.int ((k + ls.length:Nat):Int))]
 | [],k => rfl
 | l' :: ls, k => by
   show _ :: plT (ls ++ [l]) (k + 1) = _
   rw [plT_snoc l ls (k + 1),List.length_cons]
   show _ = _ :: _ ++ _
   rw [show k + 1 + ls.length = k + (ls.length + 1) by omega]
   rfl
theorem key2_inj {i j i' j':Int} (h:yZ i j = yZ i' j'):i = i' /\ j = j':=by
 unfold yZ at h
 injection h with h1 h2
 injection h2 with h2 h3
 exact ⟨Sum.inl.inj h1,Sum.inl.inj h2⟩
theorem vX {i j:Int}:∀ (ls:List Ln) (k:Nat),(zU ls i j = false /\ yS (plT ls k) (yZ i j) = none) \/ ∃ (p:Nat) (l:Ln),ls[p]? = some l /\ l.i = i /\ l.j = j /\ yS (plT ls k) (yZ i j) = some (.int ((k + p:Nat):Int))
 | [],k => .inl ⟨rfl,rfl⟩
 | l :: ls, k => by
   by_cases h:l.i = i /\ l.j = j
   · refine .inr ⟨0, l, rfl, h.1, h.2, ?_⟩
     show yS ((yZ l.i l.j,V.int k) :: plT ls (k + 1)) (yZ i j) = _
     rw [h.1,h.2,jU rfl]
     rfl
   · have e : yS (plT (l :: ls) k) (yZ i j) = yS (plT ls (k + 1)) (yZ i j) := xZ (fun z => h (key2_inj z))
     rcases vX ls (k + 1) with ⟨h1,h2⟩ | ⟨p,l',h1,h2,h3,h4⟩
     · left
       refine ⟨?_,by rw [e]; exact h2⟩
       show ((l.i == i && l.j == j) || zU ls i j) = false
       rw [h1,Bool.or_false]
       rw [Bool.eq_false_iff]
       intro z
       rw [Bool.and_eq_true,beq_iff_eq,beq_iff_eq] at z
       exact h z
     · right
       refine ⟨p + 1,l',h1,h2,h3,?_⟩
       rw [e,h4]
       congr 2
       omega
theorem qY {κ:Type} [DecidableEq κ] {kvs:List (κ × V)} {k:κ} {v:V} (h:yS kvs k = none):xT kvs k v = kvs ++ [(k,v)]:=by
 unfold xT
 rw [if_neg]
 intro z
 obtain ⟨x,hx,hk⟩:=List.any_eq_true.mp z
 unfold yS at h
 rw [Option.map_eq_none_iff,List.find?_eq_none] at h
 exact h x hx hk
theorem said_ext {ls t:List Ln} {k:Nat} (h:k <= ls.length) (x:Wt):yF (ls ++ t) k x = yF ls k x:=by
 cases x with
 | ps l => rfl
 | n i =>
   show (if 0 <= i /\ i < (k:Int) then ((ls ++ t)[i.toNat]?).map fun l => (l.i,l.j) else none) = (if 0 <= i /\ i < (k:Int) then (ls[i.toNat]?).map fun l => (l.i,l.j) else none)
   by_cases hi:0 <= i /\ i < (k:Int)
   · rw [if_pos hi,if_pos hi,List.getElem?_append_left (by omega)]
   · rw [if_neg hi,if_neg hi]
theorem step_ext {rows:List Rw} {rules:List yA} {ls t:List Ln} {k:Nat} {l:Ln} (h:k <= ls.length):yO rows rules (ls ++ t) k l = yO rows rules ls k l:=by
 have e:yF (ls ++ t) k = yF ls k:=funext fun x => said_ext h x
 unfold yO xA
 rw [e]
theorem uO {rows:List Rw} {rules:List yA} {ls:List Ln} {k:Nat} {l:Ln} (h:yO rows rules ls k l = true):(0 <= l.i /\ l.i < 2 * (rows.length:Int)) /\ 0 <= l.j /\ l.j < 2 * (rows.length:Int):=by
 unfold yO at h
 split at h
 · cases h
 · rename_i hn
   simp only [not_or,Classical.not_not] at hn
   exact hn
structure GOk (rows:List Rw) (rules:List yA) (ls:List Ln):Prop where
 snd:∀ (k:Nat) (l:Ln),ls[k]? = some l -> yO rows rules ls k l = true
 dis:∀ (a b:Nat) (x y:Ln),ls[a]? = some x -> ls[b]? = some y -> x.i = y.i -> x.j = y.j -> a = b
 siz:∀ l ∈ ls,OW l.as
theorem GOk.put {rows:List Rw} {rules:List yA} {ls:List Ln} {l:Ln} (h:GOk rows rules ls) (hn:zU ls l.i l.j = false) (hs:yO rows rules ls ls.length l = true) (ho:OW l.as):GOk rows rules (ls ++ [l]):=by
 have no:∀ (a:Nat) (x:Ln),ls[a]? = some x -> x.i = l.i -> x.j = l.j -> False:=fun a x hx h1 h2 => by
   have:=hasP_iff.mpr ⟨a,x,hx,h1,h2⟩
   rw [hn] at this
   cases this
 have sp:∀ (a:Nat) (x:Ln),(ls ++ [l])[a]? = some x -> ls[a]? = some x \/ a = ls.length /\ x = l:=fun a x hx => by
   by_cases ha:a < ls.length
   · rw [List.getElem?_append_left ha] at hx
     exact .inl hx
   · have ha2 := (List.getElem?_eq_some_iff.mp hx).1
     rw [List.length_append,List.length_singleton] at ha2
     have e:a = ls.length:=by omega
     subst e
     rw [List.getElem?_append_right (Nat.le_refl _),Nat.sub_self] at hx
     cases hx
     exact .inr ⟨rfl,rfl⟩
 refine ⟨fun k x hx => ?_,fun a b x y hx hy h1 h2 => ?_,fun x hx => ?_⟩
 · rcases sp k x hx with hx | ⟨rfl, rfl⟩
   · have hk := (List.getElem?_eq_some_iff.mp hx).1
     rw [step_ext (by omega)]
     exact h.snd k x hx
   · rw [step_ext (Nat.le_refl _)]
     exact hs
 · rcases sp a x hx with hx' | ⟨ea, ex⟩
   · rcases sp b y hy with hy' | ⟨eb, ey⟩
     · exact h.dis a b x y hx' hy' h1 h2
     · rw [ey] at h1 h2
       exact (no a x hx' h1 h2).elim
   · rcases sp b y hy with hy' | ⟨eb, ey⟩
     · rw [ex] at h1 h2
       exact (no b y hy' h1.symm h2.symm).elim
     · rw [ea,eb]
 · rcases List.mem_append.mp hx with hx | hx
   · exact h.siz x hx
   · rw [List.mem_singleton.mp hx]; exact ho
theorem nodup_subI:∀ {l m:List Int},l.Nodup -> (∀ x ∈ l,x ∈ m) -> l.length <= m.length
 | [],m,_,_ => Nat.zero_le _
 | x :: l, m, hn, hs => by
   have hx:x ∈ m:=hs x List.mem_cons_self
   have hn':=List.nodup_cons.mp hn
   have:=nodup_subI (l:=l) (m:=m.erase x) hn'.2 fun y hy => by
     have hy':=hs y (List.mem_cons_of_mem _ hy)
     have hne:y ≠ x:=fun e => hn'.1 (by rw [← e]; exact hy)
     exact (List.mem_erase_of_ne hne).mpr hy'
   rw [List.length_erase_of_mem hx] at this
   have:=List.length_pos_of_mem hx
   rw [List.length_cons]
   omega
theorem GOk.len {rows:List Rw} {rules:List yA} {ls:List Ln} (h:GOk rows rules ls):ls.length <= (2 * rows.length) * (2 * rows.length):=by
 have hr:∀ l ∈ ls,(0 <= l.i /\ l.i < 2 * (rows.length:Int)) /\ 0 <= l.j /\ l.j < 2 * (rows.length:Int):=fun l hl => by
   obtain ⟨p,hp,e⟩:=List.getElem_of_mem hl
   exact uO (h.snd p l (by rw [List.getElem?_eq_getElem hp,e]))
 generalize hn:2 * rows.length = n
 have hn':2 * (rows.length:Int) = (n:Int):=by omega
 rw [hn'] at hr
 have:=nodup_subI (l:=ls.map fun l => l.i * n + l.j) (m:=(List.range (n * n)).map fun i:Nat => (i:Int)) ?_ fun x hx => ?_
 · rwa [List.length_map,List.length_map,List.length_range] at this
 · refine List.pairwise_iff_getElem.mpr fun a b ha hb hab e => ?_
   rw [List.length_map] at ha hb
   rw [List.getElem_map,List.getElem_map] at e
   have r1:=hr _ (List.getElem_mem ha)
   have r2:=hr _ (List.getElem_mem hb)
   have hi:ls[a].i = ls[b].i:=by
     have e1:(ls[a].i * n + ls[a].j) / n = ls[a].i:=by
       rw [Int.add_comm,Int.add_mul_ediv_right _ _ (by omega),Int.ediv_eq_zero_of_lt r1.2.1 r1.2.2,Int.zero_add]
     have e2:(ls[b].i * n + ls[b].j) / n = ls[b].i:=by
       rw [Int.add_comm,Int.add_mul_ediv_right _ _ (by omega),Int.ediv_eq_zero_of_lt r2.2.1 r2.2.2,Int.zero_add]
     rw [← e1,e,e2]
   have hj:ls[a].j = ls[b].j:=by rw [hi] at e; omega
   have:=h.dis a b _ _ (List.getElem?_eq_getElem ha) (List.getElem?_eq_getElem hb) hi hj
   omega
 · obtain ⟨l, hl, rfl⟩ := List.mem_map.mp hx
   have r1:=hr l hl
   have b1:l.i * n + l.j < n * n:=by
     have:l.i * n <= (n - 1) * n:=Int.mul_le_mul_of_nonneg_right (by omega) (by omega)
     rw [Int.sub_mul,Int.one_mul] at this
     omega
   have b0:0 <= l.i * n:=Int.mul_nonneg r1.1.1 (by omega)
   rw [List.mem_map]
   exact ⟨(l.i * n + l.j).toNat,by rw [List.mem_range]; omega,by omega⟩
structure MkA (n:Nat) (hp:Nat -> Nat -> Bool) (as:List Nat):Prop where
 len:as.length = n
 bit:∀ (a c:Nat),as[a]? = some c -> ∀ b,c.testBit b = hp a b
theorem MkA.put {n a b c:Nat} {hp hp':Nat -> Nat -> Bool} {as:List Nat} (h:MkA n hp as) (hc:as[a]? = some c) (e:∀ x y,hp' x y = (hp x y || (x == a && y == b))):MkA n hp' (as.set a (c ||| 2 ^ b)):=by
 have la:=(List.getElem?_eq_some_iff.mp hc).1
 refine ⟨by rw [List.length_set]; exact h.len,fun x d hx y => ?_⟩
 rw [e]
 by_cases ex:a = x
 · subst ex
   rw [List.getElem?_set_self la] at hx
   cases hx
   rw [Nat.testBit_or,h.bit a c hc,Nat.testBit_two_pow]
   simp only [beq_self_eq_true,Bool.true_and]
   congr 1
   rw [Bool.eq_iff_iff,decide_eq_true_eq,beq_iff_eq]
   exact eq_comm
 · rw [List.getElem?_set_ne ex] at hx
   have:(x == a) = false:=beq_eq_false_iff_ne.mpr (Ne.symm ex)
   rw [h.bit x d hx,this,Bool.false_and,Bool.or_false]
structure GAd where
 r:Addr
 la:Addr
 pa:Addr
 aa:Addr
 ba:Addr
def grF (g:GAd):List (Str × V):=[("lines",.ref g.la),("places",.ref g.pa),("above",.ref g.aa),("below",.ref g.ba)]
structure GrC (K:PySem.W.Frag) (C:Addr):Prop where
 cl:Cls K C
 nL:NoAttr K C "lines"
 nP:NoAttr K C "places"
 nA:NoAttr K C "above"
 nB:NoAttr K C "below"
theorem gr_l (g:GAd):(grF g).lookup ("lines" : Str) = some (.ref g.la):=by
 unfold grF
 rw [List.lookup_cons,show (("lines" : Str) == "lines") = true by decide +kernel]
theorem gr_p (g:GAd):(grF g).lookup ("places" : Str) = some (.ref g.pa):=by
 unfold grF
 rw [List.lookup_cons,show (("places" : Str) == "lines") = false by decide +kernel,List.lookup_cons,show (("places" : Str) == "places") = true by decide +kernel]
theorem gr_a (g:GAd):(grF g).lookup ("above" : Str) = some (.ref g.aa):=by
 unfold grF
 rw [List.lookup_cons,show (("above" : Str) == "lines") = false by decide +kernel,List.lookup_cons,show (("above" : Str) == "places") = false by decide +kernel,List.lookup_cons,show (("above" : Str) == "above") = true by decide +kernel]
theorem gr_b (g:GAd):(grF g).lookup ("below" : Str) = some (.ref g.ba):=by
 unfold grF
 rw [List.lookup_cons,show (("below" : Str) == "lines") = false by decide +kernel,List.lookup_cons,show (("below" : Str) == "places") = false by decide +kernel,List.lookup_cons,show (("below" : Str) == "above") = false by decide +kernel,List.lookup_cons,show (("below" : Str) == "below") = true by decide +kernel]
theorem jR (g:GAd) {x:Str} (h1:(x == ("lines" : Str)) = false) (h2:(x == ("places" : Str)) = false) (h3:(x == ("above" : Str)) = false) (h4:(x == ("below" : Str)) = false):(grF g).lookup x = none:=by
 unfold grF
 rw [List.lookup_cons,h1,List.lookup_cons,h2,List.lookup_cons,h3,List.lookup_cons,h4]
 rfl
structure GrAt (C:Addr) (H:Hp) (g:GAd) (rows:List Rw) (rules:List yA) (ls:List Ln):Prop where
 ins:∃ dx,H g.r = some (.ins C dx (grF g))
 lin:∃ ws,H g.la = some (.lst ws) /\ jL H ls ws
 plc:H g.pa = some (.dT (plT ls 0))
 abv:∃ as,H g.aa = some (.lst (as.map nV)) /\ MkA (2 * rows.length) (fun a b => zU ls a b) as
 blw:∃ as,H g.ba = some (.lst (as.map nV)) /\ MkA (2 * rows.length) (fun a b => zU ls b a) as
 ne:g.la ≠ g.aa /\ g.la ≠ g.ba /\ g.aa ≠ g.ba
 ok:GOk rows rules ls
def SameG (g:GAd) (H H':Hp):Prop:=∀ b o,H b = some o -> b ≠ g.la -> b ≠ g.pa -> b ≠ g.aa -> b ≠ g.ba -> H' b = some o
theorem SameG.trans {g:GAd} {H H1 H2:Hp} (a:SameG g H H1) (b:SameG g H1 H2):SameG g H H2:=fun c o h n1 n2 n3 n4 => b c o (a c o h n1 n2 n3 n4) n1 n2 n3 n4
theorem Same.g {g:GAd} {H H':Hp} (a:Same H H'):SameG g H H':=fun c o h _ _ _ _ => a c o h
theorem GrAt.same {C:Addr} {H H':Hp} {g:GAd} {rows:List Rw} {rules:List yA} {ls:List Ln} (e:Same H H') (h:GrAt C H g rows rules ls):GrAt C H' g rows rules ls:=by
 obtain ⟨⟨dx,h1⟩,⟨ws,h2,h3⟩,h4,⟨as,h5,h6⟩,⟨bs,h7,h8⟩,h9,h10⟩:=h
 exact ⟨⟨dx,e _ _ h1⟩,⟨ws,e _ _ h2,DAts.same e h3⟩,e _ _ h4,⟨as,e _ _ h5,h6⟩,⟨bs,e _ _ h7,h8⟩,h9,h10⟩
theorem GrAt.tups {C:Addr} {H H':Hp} {g:GAd} {rows:List Rw} {rules:List yA} {ls:List Ln} (h:GrAt C H g rows rules ls) (e:SameG g H H'):TupSame H H':=fun b xs hb => by
 obtain ⟨ws,h2,_⟩:=h.lin
 obtain ⟨as,h5,_⟩:=h.abv
 obtain ⟨bs,h7,_⟩:=h.blw
 exact e b _ hb (xU hb h2 (by intro z; cases z)) (xU hb h.plc (by intro z; cases z)) (xU hb h5 (by intro z; cases z)) (xU hb h7 (by intro z; cases z))
theorem psAt {H:Hp} {ps:List Int} {v:V} (h:DAt H (dWt (.ps ps)) v):∃ a,v = .ref a /\ H a = some (.tup (ps.map V.int)):=by
 obtain ⟨a,us,e1,e2,e3⟩:=h
 have go:∀ {ps:List Int} {us:List V},DAts H (ps.map Dt.int) us -> us = ps.map V.int:=fun {ps} => by
   induction ps with
   | nil => exact fun h => h
   | cons n ns ih =>
     intro us h
     obtain ⟨v,r,e1,e2,e3⟩:=h
     have e2:v = .int n:=e2
     rw [e1,e2,ih e3]
     rfl
 rw [go e3] at e2
 exact ⟨a,e1,e2⟩
theorem atPs {H:Hp} {a:Addr} {ps:List Int} (h:H a = some (.tup (ps.map V.int))):DAt H (dWt (.ps ps)) (.ref a):=by
 refine ⟨a,_,rfl,h,?_⟩
 clear h
 induction ps with
 | nil => rfl
 | cons n ns ih => exact ⟨_,_,rfl,rfl,ih⟩
theorem whyAt {H:Hp} {x:Str} {as:List Wt} {v:V} (h:DAt H (vG x as) v):∃ a us,v = .ref a /\ H a = some (.tup (.str x :: us)) /\ ZD H as us:=by
 obtain ⟨a,vs,e1,e2,u,r,e3,h1,h2⟩:=h
 have h1:u = .str x:=h1
 subst h1 e3
 exact ⟨a,r,e1,e2,h2⟩
theorem kD {H:Hp} {l:Ln} {v:V} (h:DAt H (dLn l) v):∃ a u,v = .ref a /\ H a = some (.tup [.int l.i,.int l.j,u]) /\ DAt H (vG l.w l.as) u:=by
 obtain ⟨a,vs,e1,e2,u1,r1,rfl,d1,u2,r2,rfl,d2,u3,r3,rfl,d3,d4⟩:=h
 have d1:u1 = .int l.i:=d1
 have d2:u2 = .int l.j:=d2
 have d4:r3 = []:=d4
 subst d1 d2 d4
 exact ⟨a,u3,e1,e2,d3⟩
theorem atLn {H:Hp} {i j:Int} {x:Str} {as:List Wt} {a:Addr} {u:V} (h:H a = some (.tup [.int i,.int j,u])) (hu:DAt H (vG x as) u):DAt H (dLn ⟨i,j,x,as⟩) (.ref a) :=
 ⟨a,_,rfl,h,_,_,rfl,rfl,_,_,rfl,rfl,_,_,rfl,hu,rfl⟩
theorem wE {H H':Hp} (e:TupSame H H'):∀ {as:List Wt} {us:List V},ZD H as us -> ZD H' as us
 | [],us,h => h
 | .n i :: as, us, h => by
   obtain ⟨v,r,e1,e2,e3⟩:=h
   exact ⟨v,r,e1,e2,wE e e3⟩
 | .ps l :: as, us, h => by
   obtain ⟨v,r,e1,e2,e3⟩:=h
   obtain ⟨a,rfl,g2⟩:=psAt e2
   exact ⟨_,r,e1,atPs (e _ _ g2),wE e e3⟩
theorem why_tups {H H':Hp} (e:TupSame H H') {x:Str} {as:List Wt} {v:V} (h:DAt H (vG x as) v):DAt H' (vG x as) v:=by
 obtain ⟨b,us,rfl,h3,h4⟩:=whyAt h
 exact ⟨b,_,rfl,e _ _ h3,_,_,rfl,rfl,wE e h4⟩
theorem ln_tups {H H':Hp} (e:TupSame H H') {l:Ln} {v:V} (h:DAt H (dLn l) v):DAt H' (dLn l) v:=by
 obtain ⟨a,u,rfl,h1,h2⟩:=kD h
 exact atLn (e _ _ h1) (why_tups e h2)
theorem qN {H H':Hp} (e:TupSame H H'):∀ {ls:List Ln} {us:List V},jL H ls us -> jL H' ls us
 | [],us,h => h
 | l :: ls, us, h => by
   obtain ⟨v,r,e1,e2,e3⟩:=h
   exact ⟨v,r,e1,ln_tups e e2,qN e e3⟩
theorem ixN_nat {n p:Nat} (h:p < n):ixN n (p:Int) = some p:=by
 unfold ixN
 rw [if_pos (by omega),if_pos (by omega),Int.toNat_natCast]
def spLo (C:Addr):Sp:=fun vs H Q _ => ∃ (g:GAd) (rows:List Rw) (rules:List yA) (ls:List Ln) (i j:Int),vs = [.ref g.r,.int i,.int j] /\ GrAt C H g rows rules ls /\ zU ls i j = true /\ ∀ (p:Nat) (l:Ln) H',Same H H' -> ls[p]? = some l -> l.i = i -> l.j = j -> Q (.int p) H'
def spHs (C:Addr):Sp:=fun vs H Q _ => ∃ (g:GAd) (rows:List Rw) (rules:List yA) (ls:List Ln) (i j:Int),vs = [.ref g.r,.int i,.int j] /\ GrAt C H g rows rules ls /\ ∀ H',Same H H' -> Q (.bl (zU ls i j)) H'
def GrTo (C:Addr) (H:Hp) (g:GAd) (rows:List Rw) (rules:List yA) (ls:List Ln) (H':Hp):Prop:=SameG g H H' /\ ∃ t,GrAt C H' g rows rules (ls ++ t)
def GrH (C:Addr) (H:Hp) (g:GAd) (rows:List Rw) (rules:List yA) (ls:List Ln) (R:List Ln -> Prop) (H':Hp):Prop:=SameG g H H' /\ ∃ t,GrAt C H' g rows rules (ls ++ t) /\ R (ls ++ t)
def wZ (C:Addr):Sp:=fun vs H Q _ => ∃ (g:GAd) (rows:List Rw) (rules:List yA) (ls:List Ln) (i j:Nat) (wv:V) (x:Str) (as:List Wt),vs = [.ref g.r,.int i,.int j,wv] /\ GrAt C H g rows rules ls /\ rows.length <= 100 /\ DAt H (vG x as) wv /\ yO rows rules ls ls.length ⟨i,j,x,as⟩ = true /\ OW as /\ ∀ H',GrH C H g rows rules ls (fun L => zU L i j = true) H' -> Q .non H'
section
variable {P:Program} {w:World} {K:PySem.W.Frag} {mg:Str -> Option Value} {base:Heap} {f:Addr} {fd:FuncData}
theorem ok_line_of {C:Addr} (T:GrC K C) (F:Fun K "line_of" "Growth.line_of" s_b f fd):FnOk P w K mg base CX0 1 f fd ["self","i","j"] (spLo C):=by
 refine F.ok sc_b (fun vs H Q E h => ?_) (fun cdv A outer s H vs Q E hr h => ?_)
 · obtain ⟨g, rows, rules, ls, i, j, rfl, _⟩ := h
   rfl
 obtain ⟨g,rows,rules,ls,i,j,rfl,hg,hh,q⟩:=h
 obtain ⟨dx,hi⟩:=hg.ins
 refine ⟨_,(zE (zQ (ZR (jH hr) (xF (pv 0) rfl) (zX (zA (pv 1) (zA (pv 2) pa_nil))) (fun _ _ => rfl)))),?_⟩
 simp! [uN]
 refine ⟨C,dx,_,hi,T.cl,T.nP,_,gr_p g,small (by simp),fun p hp => ?_⟩
 have s1:=zF hp (.tup [.int i,.int j])
 rcases vX (i:=i) (j:=j) ls 0 with ⟨h1,_⟩ | ⟨p',l,h1,h2,h3,h4⟩
 · rw [hh] at h1; cases h1
 rw [Nat.zero_add] at h4
 exact ⟨g.pa,rfl,_,.inr ⟨_,yZ i j,p,.inl (s1 _ _ hg.plc),rfl,zC,h4.symm⟩,q p' l _ s1 h1 h2 h3⟩
theorem ok_has {C:Addr} (T:GrC K C) (F:Fun K "has" "Growth.has" s_n f fd):FnOk P w K mg base CX0 1 f fd ["self","i","j"] (spHs C):=by
 refine F.ok sc_n (fun vs H Q E h => ?_) (fun cdv A outer s H vs Q E hr h => ?_)
 · obtain ⟨g, rows, rules, ls, i, j, rfl, _⟩ := h
   rfl
 obtain ⟨g,rows,rules,ls,i,j,rfl,hg,q⟩:=h
 obtain ⟨dx,hi⟩:=hg.ins
 refine ⟨_,(zE (zQ (pe_cmp (pc_din (jH hr) (zX (zA (pv 1) (zA (pv 2) pa_nil))) (xF (pv 0) rfl)) (by with_unfolding_all rfl)))),?_⟩
 simp! [uN,tDIn]
 refine ⟨small (by simp),fun p hp => ?_⟩
 have s1:=zF hp (.tup [.int i,.int j])
 refine ⟨C,dx,_,s1 _ _ hi,T.cl,T.nP,_,gr_p g,g.pa,rfl,_,.inr ⟨_,yZ i j,p,.inl (s1 _ _ hg.plc),rfl,zC,rfl⟩,?_⟩
 have e:(yS (plT ls 0) (yZ i j)).isSome = zU ls i j:=by
   rcases vX (i:=i) (j:=j) ls 0 with ⟨h1,h2⟩ | ⟨p',l,h1,h2,h3,h4⟩
   · rw [h1,h2]; rfl
   · rw [h4,hasP_iff.mpr ⟨p',l,h1,h2,h3⟩]; rfl
 rw [e]
 exact q _ s1
end
section
variable {P:Program} {w:World} {K:PySem.W.Frag} {mg:Str -> Option Value} {base:Heap} {f:Addr} {fd:FuncData}
theorem ok_grow {C:Addr} (T:GrC K C) (bi:Bi mg) (h_n:HasM P w K mg base 1 C "has" ["self","i","j"] (spHs C)) (F:Fun K "grow" "Growth.grow" s_d f fd):FnOk P w K mg base CX0 2 f fd ["self","i","j","why"] (wZ C):=by
 refine F.ok sc_d (fun vs H Q E h => ?_) (fun cdv A outer s H vs Q E hr h => ?_)
 · obtain ⟨g, rows, rules, ls, i, j, wv, x, as, rfl, _⟩ := h
   rfl
 obtain ⟨g,rows,rules,ls,i,j,wv,x,as,rfl,hg,h30,hw,hst,how,q⟩:=h
 have cl_Growth:=T.cl
 obtain ⟨dx,hi⟩:=hg.ins
 have hlen:=hg.ok.len
 have hlen2:ls.length <= 40000:=by
   have:2 * rows.length * (2 * rows.length) <= 200 * 200:=Nat.mul_le_mul (by omega) (by omega)
   omega
 obtain ⟨⟨i0,i1⟩,j0,j1⟩:=uO hst
 have i1:(i:Int) < 2 * (rows.length:Int):=i1
 have j1:(j:Int) < 2 * (rows.length:Int):=j1
 refine ⟨_,(zD (yI (xC (yC h_n cl_Growth (hr.mono (by omega)) (pv 0) (zA (pv 1) (zA (pv 2) pa_nil)))) (zE ps_retN) pss_nil) (zD (uT (jH hr) (xF (pv 0) rfl) (zX (zA (pv 1) (zA (pv 2) pa_nil))) (zK call_len rfl bi.len bt_len (zA (xF (pv 0) rfl) pa_nil)) rfl) (zD (yG (vJ PySem.F.plainAttrs_list PySem.F.slot_list_append PySem.F.type_list_append mt_append (xF (pv 0) rfl) (zA (zX (zA (pv 1) (zA (pv 2) (zA (pv 3) pa_nil)))) pa_nil))) (zD (ps_augS (xF (pv 0) rfl) (pv 1) get_list (zO op_shl zB (pv 2)) ip_or set_list) (zE (ps_augS (xF (pv 0) rfl) (pv 2) get_list (zO op_shl zB (pv 1)) ip_or set_list)))))),?_⟩
 refine zJ fun N hN => ?_
 simp! [xK]
 refine ⟨_,_,hi,jR g (by decide +kernel) (by decide +kernel) (by decide +kernel) (by decide +kernel),?_⟩
 refine ⟨g,rows,rules,ls,i,j,rfl,hg,fun H1 s1 => ⟨_,rfl,?_⟩⟩
 cases hb:zU ls i j with
 | true =>
   rw [if_pos rfl]
   exact q _ ⟨Same.g s1,[],by rw [List.append_nil]; exact ⟨hg.same s1,hb⟩⟩
 | false =>
   rw [if_neg Bool.false_ne_true]
   refine hN _ _ ?_
   clear hN
   replace hg:=hg.same s1
   replace hi:=s1 _ _ hi
   replace hw:=DAt.same s1 hw
   have h4':=hg.plc
   obtain ⟨⟨_,_⟩,⟨ws,h2,h3⟩,h4,⟨bs,h5,h6⟩,⟨cs,h7,h8⟩,⟨n1,n2,n3⟩,h10⟩:=hg
   have hwl:=yK h3
   have hpar:g.pa ≠ g.r:=xU h4 hi (by intro z; cases z)
   have hlar:g.la ≠ g.r:=xU h2 hi (by intro z; cases z)
   have haar:g.aa ≠ g.r:=xU h5 hi (by intro z; cases z)
   have hbar:g.ba ≠ g.r:=xU h7 hi (by intro z; cases z)
   have hpla:g.pa ≠ g.la:=xU h4 h2 (by intro z; cases z)
   have hpaa:g.pa ≠ g.aa:=xU h4 h5 (by intro z; cases z)
   have hpba:g.pa ≠ g.ba:=xU h4 h7 (by intro z; cases z)
   refine zJ fun N hN => ?_
   simp! [uN,kN]
   have sz:∀ {n:Nat},n <= 40000 -> n < sizeLine:=fun h => Nat.lt_of_le_of_lt (m:=100000) (by omega) (by decide)
   refine ⟨C,dx,_,hi,T.cl,T.nL,_,gr_l g,ws.length,.inl ⟨_,SqL.of h2,rfl⟩,C,dx,_,hi,T.cl,T.nP,_,gr_p g,small (by simp),fun p hp => ?_⟩
   have s2:=zF hp (.tup [.int (i:Int),.int (j:Int)])
   have kp:upd H1 p (.tup [.int (i:Int),.int (j:Int)]) p = some (.tup [.int (i:Int),.int (j:Int)]):=zC
   generalize upd H1 p (.tup [.int (i:Int),.int (j:Int)]) = H2 at s2 kp ⊢
   refine ⟨g.pa,rfl,_,.inr ⟨_,yZ i j,p,s2 _ _ h4,rfl,kp,by rw [plT_len]; exact sz hlen2,rfl⟩,hN _ _ ?_⟩
   clear hN
   have vn:yS (plT ls 0) (yZ i j) = none:=by
     rcases vX (i:=i) (j:=j) ls 0 with ⟨_,h⟩ | ⟨p',l,g1,g2,g3,_⟩
     · exact h
     · have := hasP_iff.mpr ⟨p', l, g1, g2, g3⟩
       rw [hb] at this
       cases this
   rw [qY vn]
   have ep:plT ls 0 ++ [(yZ i j,V.int (ws.length:Int))] = plT (ls ++ [⟨i,j,x,as⟩]) 0:=by rw [plT_snoc,Nat.zero_add,hwl]
   rw [ep]
   have g3:SameG g H1 (upd H2 g.pa (.dT (plT (ls ++ [⟨i,j,x,as⟩]) 0))):=fun b o hb _ n _ _ => by rw [zH n]; exact s2 _ _ hb
   have e1:∀ {b:Addr} {o:HO},H1 b = some o -> b ≠ g.pa -> upd H2 g.pa (.dT (plT (ls ++ [⟨i,j,x,as⟩]) 0)) b = some o:=fun hb n => by rw [zH n]; exact s2 _ _ hb
   replace hi:=e1 hi (Ne.symm hpar)
   replace h2:=e1 h2 (Ne.symm hpla)
   replace h5:=e1 h5 (Ne.symm hpaa)
   replace h7:=e1 h7 (Ne.symm hpba)
   clear e1
   replace h4:upd H2 g.pa (.dT (plT (ls ++ [⟨i,j,x,as⟩]) 0)) g.pa = some (.dT (plT (ls ++ [⟨i,j,x,as⟩]) 0)):=zC
   have tu:TupSame H1 (upd H2 g.pa (.dT (plT (ls ++ [⟨i,j,x,as⟩]) 0))):=fun b xs hb => by
     have hb2:=s2 _ _ hb
     rw [zH (xU hb h4' (by intro z; cases z))]
     exact hb2
   generalize upd H2 g.pa (.dT (plT (ls ++ [⟨i,j,x,as⟩]) 0)) = H3 at g3 hi h2 h5 h7 h4 tu ⊢
   replace h3:=qN tu h3
   replace hw:=why_tups tu hw
   clear kp s2 hp vn ep tu
   refine zJ fun N hN => ?_
   simp! [uN]
   refine ⟨C,dx,_,hi,T.cl,T.nL,_,gr_l g,.inl ⟨rfl,_,SqL.of h2⟩,small (by simp),fun pt hpt => ?_⟩
   have s2:=zF hpt (.tup [.int (i:Int),.int (j:Int),wv])
   have kt:upd H3 pt (.tup [.int (i:Int),.int (j:Int),wv]) pt = some (.tup [.int (i:Int),.int (j:Int),wv]):=zC
   generalize upd H3 pt (.tup [.int (i:Int),.int (j:Int),wv]) = H4 at s2 kt ⊢
   refine ⟨g.la,rfl,_,s2 _ _ h2,sz (by omega),hN _ _ ?_⟩
   clear hN
   have e1:∀ {b:Addr} {o:HO},H3 b = some o -> b ≠ g.la -> upd H4 g.la (.lst (ws ++ [.ref pt])) b = some o:=fun hb n => by rw [zH n]; exact s2 _ _ hb
   have g4:SameG g H3 (upd H4 g.la (.lst (ws ++ [.ref pt]))):=fun b o hb n _ _ _ => e1 hb n
   have tu:TupSame H4 (upd H4 g.la (.lst (ws ++ [.ref pt]))):=(TupSame.refl _).upd_lst (s2 _ _ h2)
   have h3':jL (upd H4 g.la (.lst (ws ++ [.ref pt]))) (ls ++ [⟨i,j,x,as⟩]) (ws ++ [.ref pt]):=by
     refine qN tu ?_
     unfold jL
     rw [List.map_append]
     exact DAts.append (DAts.same s2 h3) (DAts.one (atLn kt (DAt.same s2 hw)))
   replace hi:=e1 hi (Ne.symm hlar)
   replace h4:=e1 h4 hpla
   replace h5:=e1 h5 (Ne.symm n1)
   replace h7:=e1 h7 (Ne.symm n2)
   have h2':upd H4 g.la (.lst (ws ++ [.ref pt])) g.la = some (.lst (ws ++ [.ref pt])):=zC
   replace g3:=g3.trans g4
   generalize upd H4 g.la (.lst (ws ++ [.ref pt])) = H5 at g3 hi h4 h5 h7 h2' h3' ⊢
   clear e1 g4 tu kt s2 hpt h2 h3 hw
   have li:i < bs.length:=by rw [h6.len]; omega
   have lj:j < cs.length:=by rw [h8.len]; omega
   have gi:=List.getElem?_eq_getElem li
   have gj:=List.getElem?_eq_getElem lj
   generalize bs[i] = ci at gi
   generalize cs[j] = cj at gj
   have mset:∀ (cs:List Nat) (i v:Nat),(cs.map nV).set i (V.int (v:Int)) = (cs.set i v).map nV:=fun cs i v => (List.map_set (f:=nV) (l:=cs) (i:=i) (a:=v)).symm
   refine zJ fun N hN => ?_
   simp! [tAugS,uN,rGetL,ipI,rSetL]
   refine ⟨C,dx,_,hi,T.cl,T.nA,_,gr_a g,g.aa,rfl,_,i,rfl,h5,nV ci,by rw [List.getElem?_map,gi]; rfl,⟨by omega,by omega,by decide⟩,_,rfl,g.aa,rfl,_,h5,i,ixN_nat (by rw [List.length_map]; exact li),hN _ _ ?_⟩
   clear hN
   rw [shl_one j,or_mask,mset]
   have bc:∀ a b:Nat,(((a:Nat):Int) == ((b:Nat):Int)) = (b == a):=fun a b => by
     rw [Bool.eq_iff_iff,beq_iff_eq,beq_iff_eq]
     omega
   have e1:∀ {b:Addr} {o:HO},H5 b = some o -> b ≠ g.aa -> upd H5 g.aa (.lst ((bs.set i (ci ||| 2 ^ j)).map nV)) b = some o:=fun hb n => by rw [zH n]; exact hb
   have g4:SameG g H5 (upd H5 g.aa (.lst ((bs.set i (ci ||| 2 ^ j)).map nV))):=fun b o hb _ _ n _ => e1 hb n
   have tu:TupSame H5 (upd H5 g.aa (.lst ((bs.set i (ci ||| 2 ^ j)).map nV))):=(TupSame.refl _).upd_lst h5
   replace h3':=qN tu h3'
   replace hi:=e1 hi (Ne.symm haar)
   replace h4:=e1 h4 hpaa
   replace h2':=e1 h2' n1
   replace h7:=e1 h7 (Ne.symm n3)
   have h5':upd H5 g.aa (.lst ((bs.set i (ci ||| 2 ^ j)).map nV)) g.aa = some (.lst ((bs.set i (ci ||| 2 ^ j)).map nV)):=zC
   replace g3:=g3.trans g4
   generalize upd H5 g.aa (.lst ((bs.set i (ci ||| 2 ^ j)).map nV)) = H6 at g3 hi h4 h5' h7 h2' h3' ⊢
   clear e1 g4 tu h5
   simp! [tAugS,uN,rGetL,ipI,rSetL]
   refine ⟨C,dx,_,hi,T.cl,T.nB,_,gr_b g,g.ba,rfl,_,j,rfl,h7,nV cj,by rw [List.getElem?_map,gj]; rfl,⟨by omega,by omega,by decide⟩,_,rfl,g.ba,rfl,_,h7,j,ixN_nat (by rw [List.length_map]; exact lj),?_⟩
   rw [shl_one i,or_mask,mset]
   have e1:∀ {b:Addr} {o:HO},H6 b = some o -> b ≠ g.ba -> upd H6 g.ba (.lst ((cs.set j (cj ||| 2 ^ i)).map nV)) b = some o:=fun hb n => by rw [zH n]; exact hb
   have g4:SameG g H6 (upd H6 g.ba (.lst ((cs.set j (cj ||| 2 ^ i)).map nV))):=fun b o hb _ _ _ n => e1 hb n
   have tu:TupSame H6 (upd H6 g.ba (.lst ((cs.set j (cj ||| 2 ^ i)).map nV))):=(TupSame.refl _).upd_lst h7
   refine q _ ⟨((Same.g s1).trans g3).trans g4,[⟨i,j,x,as⟩],⟨⟨⟨dx,e1 hi (Ne.symm hbar)⟩,⟨_,e1 h2' n2,qN tu h3'⟩,e1 h4 hpba,⟨_,e1 h5' n3,h6.put gi fun a b => ?_⟩,⟨_,zC,h8.put gj fun a b => ?_⟩,⟨n1,n2,n3⟩,h10.put hb hst how⟩,by show zU (ls ++ [⟨i,j,x,as⟩]) i j = true; rw [qR,wR]; simp⟩⟩
   · rw [qR, wR]
     show (zU ls a b || (((i:Nat):Int) == ((a:Nat):Int) && ((j:Nat):Int) == ((b:Nat):Int))) = _
     rw [bc,bc]
   · rw [qR, wR]
     show (zU ls b a || (((i:Nat):Int) == ((b:Nat):Int) && ((j:Nat):Int) == ((a:Nat):Int))) = _
     rw [bc,bc,Bool.and_comm]
end
theorem rep_zero (m:Nat):(List.replicate m [V.int 0]).flatten = (List.replicate m 0).map nV:=by
 induction m with
 | zero => rfl
 | succ m ih =>
   rw [List.replicate_succ,List.flatten_cons,ih,List.replicate_succ,List.map_cons]
   rfl
theorem mk_nil (n:Nat) (hp:Nat -> Nat -> Bool) (h:∀ a b,hp a b = false):MkA n hp (List.replicate n 0):=⟨List.length_replicate ..,fun a c hc b => by
 obtain ⟨_,e⟩:=List.getElem?_eq_some_iff.mp hc
 rw [List.getElem_replicate] at e
 subst e
 rw [h]
 simp⟩
def spGI (C:Addr):Sp:=fun vs H Q _ => ∃ (r dx:Addr) (rows:List Rw) (rules:List yA),vs = [.ref r,.int ((2 * rows.length:Nat):Int)] /\ H r = some (.ins C dx []) /\ rows.length <= 100 /\ ∀ (g:GAd) H',g.r = r -> SameX r H H' -> H g.la = none -> H g.pa = none -> H g.aa = none -> H g.ba = none -> GrAt C H' g rows rules [] -> Q .non H'
theorem xY {r l:Addr} {H H':Hp} {o:HO} (e:SameX r H H') (h:H l = none):SameX r H (upd H' l o):=fun b u hb n => by
 have:b ≠ l:=fun z => by rw [z,h] at hb; cases hb
 rw [zH this]
 exact e b u hb n
theorem jA {r l:Addr} {H H':Hp} (e:SameX r H H') (h:H' l = none) (n:l ≠ r):H l = none:=by
 cases hl:H l with
 | none => rfl
 | some o => have:=e l o hl n; rw [h] at this; cases this
section
variable {P:Program} {w:World} {K:PySem.W.Frag} {mg:Str -> Option Value} {base:Heap} {f:Addr} {fd:FuncData}
theorem ok_ginit {C:Addr} (T:GrC K C) (F:Fun K "__init__" "Growth.__init__" s_l f fd):FnOk P w K mg base CX0 1 f fd ["self","many"] (spGI C):=by
 refine F.ok sc_l (fun vs H Q E h => ?_) (fun cdv A outer s H vs Q E hr h => ?_)
 · obtain ⟨r, dx, rows, rules, rfl, _⟩ := h
   rfl
 obtain ⟨r,dx,rows,rules,rfl,hr',h30,q⟩:=h
 generalize hn:2 * rows.length = n at q
 have n60:n <= 200:=by omega
 have step:∀ {H':Hp} {b:Addr} {u:HO},H' r = some u -> H' b = none -> b ≠ r:=fun h1 h2 z => by rw [z,h1] at h2; cases h2
 refine ⟨_,(zD (ZP (pv 0) (jE pa_nil) rfl) (zD (ZP (pv 0) pe_dnewT rfl) (zD (ZP (pv 0) (zO op_rep (jE (zA zB pa_nil)) (pv 1)) rfl) (zE (ZP (pv 0) (zO op_rep (jE (zA zB pa_nil)) (pv 1)) rfl))))),?_⟩
 refine zJ fun N hN => ?_
 simp! [sFld]
 refine ⟨small (by simp),fun la hla => ?_⟩
 have nla:=step hr' hla
 refine ⟨C,dx,[],by rw [zH (Ne.symm nla)]; exact hr',T.cl,T.nL,by decide,hN _ _ ?_⟩
 clear hN
 have x1:SameX r H (upd (upd H la (.lst [])) r (.ins C dx (xE "lines" (.ref la) []))):=SameX.upd (xY (SameX.refl r H) hla)
 have k1:upd (upd H la (.lst [])) r (.ins C dx (xE "lines" (.ref la) [])) r = some (.ins C dx (xE "lines" (.ref la) [])):=zC
 have l1:upd (upd H la (.lst [])) r (.ins C dx (xE "lines" (.ref la) [])) la = some (.lst []):=by rw [zH nla]; exact zC
 generalize upd (upd H la (.lst [])) r (.ins C dx (xE "lines" (.ref la) [])) = H1 at x1 k1 l1 ⊢
 refine zJ fun N hN => ?_
 simp! [sFld,tDNewT]
 refine fun pa hpa => ?_
 have npa:=step k1 hpa
 have hpa0:=jA x1 hpa npa
 refine ⟨C,dx,_,by rw [zH (Ne.symm npa)]; exact k1,T.cl,T.nP,by show 1 < 1000; decide,hN _ _ ?_⟩
 clear hN
 have npl:pa ≠ la:=fun z => by rw [z,l1] at hpa; cases hpa
 have x2:SameX r H (upd (upd H1 pa (.dT [])) r (.ins C dx (xE "places" (.ref pa) (xE "lines" (.ref la) [])))):=SameX.upd (xY x1 hpa0)
 have k2:upd (upd H1 pa (.dT [])) r (.ins C dx (xE "places" (.ref pa) (xE "lines" (.ref la) []))) r = some (.ins C dx (xE "places" (.ref pa) (xE "lines" (.ref la) []))):=zC
 have l2:upd (upd H1 pa (.dT [])) r (.ins C dx (xE "places" (.ref pa) (xE "lines" (.ref la) []))) la = some (.lst []):=by rw [zH nla,zH (Ne.symm npl)]; exact l1
 have p2:upd (upd H1 pa (.dT [])) r (.ins C dx (xE "places" (.ref pa) (xE "lines" (.ref la) []))) pa = some (.dT []):=by rw [zH npa]; exact zC
 generalize upd (upd H1 pa (.dT [])) r (.ins C dx (xE "places" (.ref pa) (xE "lines" (.ref la) []))) = H2 at x2 k2 l2 p2 ⊢
 refine zJ fun N hN => ?_
 simp! [sFld,rRep]
 refine ⟨small (by simp),fun p0 hp0 => ⟨[V.int 0],zC,by omega,by omega,small (by simp; omega),fun aa haa => ?_⟩⟩
 have np0:=step k2 hp0
 have naa0:aa ≠ p0:=fun z => by rw [z,zC] at haa; cases haa
 rw [zH naa0] at haa
 have naa:=step k2 haa
 refine ⟨C,dx,_,by rw [zH (Ne.symm naa),zH (Ne.symm np0)]; exact k2,T.cl,T.nA,by show 2 < 1000; decide,hN _ _ ?_⟩
 clear hN
 rw [Int.toNat_natCast,rep_zero]
 have nal:aa ≠ la:=fun z => by rw [z,l2] at haa; cases haa
 have nap:aa ≠ pa:=fun z => by rw [z,p2] at haa; cases haa
 have n0l:p0 ≠ la:=fun z => by rw [z,l2] at hp0; cases hp0
 have n0p:p0 ≠ pa:=fun z => by rw [z,p2] at hp0; cases hp0
 have haa0:=jA x2 haa naa
 have hp00:=jA x2 hp0 np0
 generalize hfs:xE "above" (V.ref aa) (xE "places" (V.ref pa) (xE "lines" (V.ref la) [])) = fs3
 have x3:SameX r H (upd (upd (upd H2 p0 (.lst [.int 0])) aa (.lst ((List.replicate n 0).map nV))) r (.ins C dx fs3)):=SameX.upd (xY (xY x2 hp00) haa0)
 have k3:upd (upd (upd H2 p0 (.lst [.int 0])) aa (.lst ((List.replicate n 0).map nV))) r (.ins C dx fs3) r = some (.ins C dx fs3):=zC
 have l3:upd (upd (upd H2 p0 (.lst [.int 0])) aa (.lst ((List.replicate n 0).map nV))) r (.ins C dx fs3) la = some (.lst []):=by rw [zH nla,zH (Ne.symm nal),zH (Ne.symm n0l)]; exact l2
 have p3:upd (upd (upd H2 p0 (.lst [.int 0])) aa (.lst ((List.replicate n 0).map nV))) r (.ins C dx fs3) pa = some (.dT []):=by rw [zH npa,zH (Ne.symm nap),zH (Ne.symm n0p)]; exact p2
 have a3:upd (upd (upd H2 p0 (.lst [.int 0])) aa (.lst ((List.replicate n 0).map nV))) r (.ins C dx fs3) aa = some (.lst ((List.replicate n 0).map nV)):=by rw [zH naa]; exact zC
 generalize upd (upd (upd H2 p0 (.lst [.int 0])) aa (.lst ((List.replicate n 0).map nV))) r (.ins C dx fs3) = H3 at x3 k3 l3 p3 a3 ⊢
 simp! [sFld,rRep]
 refine ⟨small (by simp),fun q0 hq0 => ⟨[V.int 0],zC,by omega,by omega,small (by simp; omega),fun ba hba => ?_⟩⟩
 have nq0:=step k3 hq0
 have nba0:ba ≠ q0:=fun z => by rw [z,zC] at hba; cases hba
 rw [zH nba0] at hba
 have nba:=step k3 hba
 refine ⟨C,dx,_,by rw [zH (Ne.symm nba),zH (Ne.symm nq0)]; exact k3,T.cl,T.nB,by rw [← hfs]; show 3 < 1000; decide,?_⟩
 rw [Int.toNat_natCast,rep_zero]
 have nbl:ba ≠ la:=fun z => by rw [z,l3] at hba; cases hba
 have nbp:ba ≠ pa:=fun z => by rw [z,p3] at hba; cases hba
 have nb1:ba ≠ aa:=fun z => by rw [z,a3] at hba; cases hba
 have n1l:q0 ≠ la:=fun z => by rw [z,l3] at hq0; cases hq0
 have n1p:q0 ≠ pa:=fun z => by rw [z,p3] at hq0; cases hq0
 have n1a:q0 ≠ aa:=fun z => by rw [z,a3] at hq0; cases hq0
 have hba0:=jA x3 hba nba
 have hq00:=jA x3 hq0 nq0
 rw [← hfs]
 refine q ⟨r,la,pa,aa,ba⟩ _ rfl (SameX.upd (xY (xY x3 hq00) hba0)) hla hpa0 haa0 hba0 ⟨⟨dx,zC⟩,⟨[],?_,rfl⟩,?_,⟨_,?_,mk_nil _ _ fun a b => rfl⟩,⟨_,?_,mk_nil _ _ fun a b => rfl⟩,⟨Ne.symm nal,Ne.symm nbl,Ne.symm nb1⟩,⟨fun k l h => (by cases h),fun a b x y h => (by cases h),fun l h => (by cases h)⟩⟩
 · show upd _ r _ la = _
   rw [zH nla,zH (Ne.symm nbl),zH (Ne.symm n1l)]; exact l3
 · show upd _ r _ pa = _
   rw [zH npa,zH (Ne.symm nbp),zH (Ne.symm n1p)]; exact p3
 · show upd _ r _ aa = _
   rw [zH naa,zH (Ne.symm nb1),zH (Ne.symm n1a),hn]; exact a3
 · show upd _ r _ ba = _
   rw [zH nba,zC,hn]
end
abbrev s_G:Stmt:=top 13
theorem sc_G:FnScope ["growth","sheet","n","k","row"] ["growth","sheet"] (zG s_G):=⟨rfl,rfl,rfl,by decide +kernel,rfl,by decide +kernel,by decide +kernel⟩
abbrev s_f:Stmt:=top 14
theorem sc_f:FnScope ["sheet","boths","k","row"] ["sheet"] (zG s_f):=⟨rfl,rfl,rfl,by decide +kernel,rfl,by decide +kernel,by decide +kernel⟩
abbrev s_c:Stmt:=top 15
theorem sc_c:FnScope ["rules","waiting","r","rule","premise"] ["rules"] (zG s_c):=⟨rfl,rfl,rfl,by decide +kernel,rfl,by decide +kernel,by decide +kernel⟩
theorem GrTo.then {C:Addr} {H H' H'':Hp} {g:GAd} {rows:List Rw} {rules:List yA} {ls t:List Ln} (h:SameG g H H') (h':GrTo C H' g rows rules (ls ++ t) H''):GrTo C H g rows rules ls H'':=by
 obtain ⟨h1,t',h2⟩:=h'
 exact ⟨h.trans h1,t ++ t',by rw [← List.append_assoc]; exact h2⟩
theorem GrH.to {C:Addr} {H H':Hp} {g:GAd} {rows:List Rw} {rules:List yA} {ls:List Ln} {R:List Ln -> Prop} (h:GrH C H g rows rules ls R H'):GrTo C H g rows rules ls H':=by
 obtain ⟨h1,t,h2,_⟩:=h
 exact ⟨h1,t,h2⟩
theorem GrH.same {C:Addr} {H H' H'':Hp} {g:GAd} {rows:List Rw} {rules:List yA} {ls:List Ln} {R:List Ln -> Prop} (h:GrH C H g rows rules ls R H') (e:Same H' H''):GrH C H g rows rules ls R H'':=by
 obtain ⟨h1,t,h2,h3⟩:=h
 exact ⟨h1.trans (Same.g e),t,h2.same e,h3⟩
theorem GrH.pre {C:Addr} {H H' H'':Hp} {g:GAd} {rows:List Rw} {rules:List yA} {ls:List Ln} {R:List Ln -> Prop} (e:Same H H') (h:GrH C H' g rows rules ls R H''):GrH C H g rows rules ls R H'':=by
 obtain ⟨h1,h2⟩:=h
 exact ⟨(Same.g e).trans h1,h2⟩
theorem GrH.refl {C:Addr} {H:Hp} {g:GAd} {rows:List Rw} {rules:List yA} {ls:List Ln} {R:List Ln -> Prop} (h:GrAt C H g rows rules ls) (hR:R ls):GrH C H g rows rules ls R H:=⟨fun _ _ hb _ _ _ _ => hb,[],by rw [List.append_nil]; exact ⟨h,hR⟩⟩
def Le (ls L:List Ln):Prop:=∃ t,L = ls ++ t
theorem Le.refl (ls:List Ln):Le ls ls:=⟨[],(List.append_nil _).symm⟩
theorem Le.trans {a b c:List Ln} (h:Le a b) (h':Le b c):Le a c:=by
 obtain ⟨t,rfl⟩:=h
 obtain ⟨t',rfl⟩:=h'
 exact ⟨t ++ t',by rw [List.append_assoc]⟩
theorem Le.has {a b:List Ln} (h:Le a b) {i j:Int} (hh:zU a i j = true):zU b i j = true:=by
 obtain ⟨t,rfl⟩:=h
 rw [qR,hh,Bool.true_or]
theorem GrH.then {C:Addr} {H H' H'':Hp} {g:GAd} {rows:List Rw} {rules:List yA} {ls t:List Ln} {R R':List Ln -> Prop} (h:SameG g H H') (h':GrH C H' g rows rules (ls ++ t) R H'') (i:∀ L,Le (ls ++ t) L -> R L -> R' L):GrH C H g rows rules ls R' H'':=by
 obtain ⟨h1,t',h2,h3⟩:=h'
 rw [List.append_assoc] at h2 h3
 exact ⟨h.trans h1,t ++ t',h2,i _ ⟨t',by rw [List.append_assoc]⟩ h3⟩
def kG (g:GAd) (a:Addr):Prop:=a ≠ g.la /\ a ≠ g.pa /\ a ≠ g.aa /\ a ≠ g.ba
theorem SameG.out {g:GAd} {H H':Hp} {a:Addr} {o:HO} (e:SameG g H H') (n:kG g a) (h:H a = some o):H' a = some o:=e a o h n.1 n.2.1 n.2.2.1 n.2.2.2
theorem st_plain {rows:List Rw} {rules:List yA} {ls:List Ln} {i j:Nat} {x:Str} (hi:i < 2 * rows.length) (hj:j < 2 * rows.length) (hx:x ≠ "rule") (hn:named x = some 0) (h:zW rows i j x [] = true):yO rows rules ls ls.length ⟨i,j,x,[]⟩ = true:=by
 unfold yO
 rw [if_neg (by
   intro z
   rcases z with z | z
   · exact z ⟨by show (0:Int) <= (i:Int); omega,by show (i:Int) < _; omega⟩
   · exact z ⟨by show (0:Int) <= (j:Int); omega,by show (j:Int) < _; omega⟩),if_neg hx,if_pos ⟨hn,rfl⟩]
 exact h
theorem ow0:OW []:=⟨by simp,fun ps h => by cases h⟩
theorem uM {C:Addr} {H H' H2:Hp} {g:GAd} {rows:List Rw} {rules:List yA} {ls t:List Ln} (hs:SameG g H H') (hg:GrAt C H' g rows rules (ls ++ t)) (h100:rows.length <= 100) (e:Same H' H2) {i j:Nat} {x:Str} {as:List Wt} {wv:V} (hw:DAt H2 (vG x as) wv) (hst:yO rows rules (ls ++ t) (ls ++ t).length ⟨i,j,x,as⟩ = true) (ho:OW as) {Q:VK} {E:XK} {R:List Ln -> Prop} (hR:∀ L,Le (ls ++ t) L -> zU L i j = true -> R L) (q:∀ v H3,GrH C H g rows rules ls R H3 -> Q v H3) :
   wZ C [.ref g.r,.int i,.int j,wv] H2 Q E :=
 ⟨g,rows,rules,_,i,j,wv,x,as,rfl,hg.same e,h100,hw,hst,ho,fun H3 g3 => q _ _ (GrH.then (hs.trans (Same.g e)) g3 hR)⟩
theorem qS {C:Addr} {H H':Hp} {g:GAd} {rows:List Rw} {rules:List yA} {ls t:List Ln} (hs:SameG g H H') (hg:GrAt C H' g rows rules (ls ++ t)) (h100:rows.length <= 100) {i j:Nat} (hi:i < 2 * rows.length) (hj:j < 2 * rows.length) {x:Str} (hx:x ≠ "rule") (hn:named x = some 0) (hst:zW rows i j x [] = true) {p:Addr} (hp:H' p = none) {Q:VK} {E:XK} {R:List Ln -> Prop} (hR:∀ L,Le (ls ++ t) L -> zU L i j = true -> R L) (q:∀ v H2,GrH C H g rows rules ls R H2 -> Q v H2) :
   wZ C [.ref g.r,.int i,.int j,.ref p] (upd H' p (.tup [.str x])) Q E :=
 uM hs hg h100 (zF hp _) (x:=x) (as:=[]) ⟨p,_,rfl,zC,_,_,rfl,rfl,rfl⟩ (st_plain hi hj hx hn hst) ow0 hR q
structure Pl (rows:List Rw) (n m:Nat) (L:List Ln):Prop where
 same:∀ x:Nat,x < n -> zU L x x = true
 low:∀ x:Nat,x < n -> zU L 0 x = true
 high:∀ x:Nat,x < n -> zU L x 1 = true
 part:∀ (k:Nat) (a b:Int),k < m -> rows[k]? = some (.bo a b) -> zU L ((2 * k:Nat):Int) a = true /\ zU L ((2 * k:Nat):Int) b = true
theorem Pl.le {rows:List Rw} {n m:Nat} {L L':List Ln} (h:Pl rows n m L) (e:Le L L'):Pl rows n m L':=⟨fun x hx => e.has (h.same x hx),fun x hx => e.has (h.low x hx),fun x hx => e.has (h.high x hx),fun k a b hk hr => ⟨e.has (h.part k a b hk hr).1,e.has (h.part k a b hk hr).2⟩⟩
def spBe (C:Addr):Sp:=fun vs H Q _ => ∃ (g:GAd) (sa:Addr) (us:List V) (rows:List Rw) (rules:List yA),vs = [.ref g.r,.ref sa] /\ GrAt C H g rows rules [] /\ rows.length <= 100 /\ H sa = some (.lst us) /\ jZ H rows us /\ kG g sa /\ RowsIn rows /\ ∀ H',GrH C H g rows rules [] (Pl rows (2 * rows.length) rows.length) H' -> Q .non H'
section
variable {P:Program} {w:World} {K:PySem.W.Frag} {mg:Str -> Option Value} {base:Heap} {f:Addr} {fd:FuncData}
theorem ok_begin {C:Addr} (T:GrC K C) (bi:Bi mg) (be:mg "enumerate" = none) (h_d:HasM P w K mg base 2 C "grow" ["self","i","j","why"] (wZ C)) (F:Fun K "begin" "begin" s_G f fd):FnOk P w K mg base CX0 3 f fd ["growth","sheet"] (spBe C):=by
 refine F.ok sc_G (fun vs H Q E h => ?_) (fun cdv A outer s H vs Q E hr h => ?_)
 · obtain ⟨g, sa, us, rows, rules, rfl, _⟩ := h
   rfl
 obtain ⟨g,sa,us,rows,rules,rfl,hg,h100,hsa,hrw,hout,hin,q⟩:=h
 have hul:=yK hrw
 have cl_Growth:=T.cl
 have lk:(grF g).lookup ("grow" : Str) = none:=jR g (by decide +kernel) (by decide +kernel) (by decide +kernel) (by decide +kernel)
 refine ⟨_,(zD (yR PassesOwn.never rfl (xH rfl bi.range (zA (zO op_mul zB (zK call_len rfl bi.len bt_len (zA (pv 1) pa_nil))) pa_nil)) (zM (i:=2) sc_G.nd rfl (Or.inl rfl)) (zD (yG (yC h_d cl_Growth (hr.mono (by omega)) (pv 0) (zA (pv 2) (zA (pv 2) (zA (zX (zA yB pa_nil)) pa_nil))))) (zD (yG (yC h_d cl_Growth (hr.mono (by omega)) (pv 0) (zA zB (zA (pv 2) (zA (zX (zA yB pa_nil)) pa_nil))))) (zE (yG (yC h_d cl_Growth (hr.mono (by omega)) (pv 0) (zA (pv 2) (zA zB (zA (zX (zA yB pa_nil)) pa_nil))))))))) (zE (yR PassesOwn.never rfl (uU rfl be (zA (pv 1) pa_nil)) (uG rfl (yL (zM (i:=3) sc_G.nd rfl (Or.inl rfl)) (yL (zM (i:=4) sc_G.nd rfl (Or.inl rfl)) pgs_nil))) (zE (yI (zN op_eq (zI ix_tup (pv 4) zB (fun _ _ => rfl)) yB (zL _)) (zD (yG (yC h_d cl_Growth (hr.mono (by omega)) (pv 0) (zA (zO op_mul zB (pv 3)) (zA (zI ix_tup (pv 4) zB (fun _ _ => rfl)) (zA (zX (zA yB pa_nil)) pa_nil))))) (zE (yG (yC h_d cl_Growth (hr.mono (by omega)) (pv 0) (zA (zO op_mul zB (pv 3)) (zA (zI ix_tup (pv 4) zB (fun _ _ => rfl)) (zA (zX (zA yB pa_nil)) pa_nil))))))) pss_nil))))),?_⟩
 refine yE (fun σ H' => ∃ (o1 o2 o3:Option V),GrH C H g rows rules [] (Pl rows (2 * rows.length) 0) H' /\ σ = [some (V.ref g.r),some (V.ref sa),o1,o2,o3]) (fun N hN => ?_) (fun σ H' h => ?_)
 · simp! []
   refine ⟨us.length,.inl ⟨_,SqL.of hsa,rfl⟩,.inl ⟨by decide,by decide⟩,by omega,by omega,?_⟩
   refine xS (n:=(2 * (us.length:Int)).toNat) (fun i σ H' => ∃ (o1 o2 o3:Option V),GrH C H g rows rules [] (Pl rows i 0) H' /\ σ = [some (V.ref g.r),some (V.ref sa),o1,o2,o3]) ⟨_,_,_,GrH.refl hg ⟨fun x hx => by omega,fun x hx => by omega,fun x hx => by omega,fun k a b hk => by omega⟩,rfl⟩ (fun i σ H' hi h => ?_) (fun σ H' h => ?_)
   rotate_left
   · rw [show (2 * (us.length : Int)).toNat = 2 * rows.length by omega] at h
     exact hN _ _ h
   obtain ⟨o1,o2,o3,⟨gs,t,gt,hP⟩,rfl⟩:=h
   have hi':i < 2 * rows.length:=by omega
   have e0:(0:Int) + (i:Int) = ((i:Nat):Int):=by omega
   show tSeq _ _ _ _ _
   refine zJ fun N2 hN2 => ?_
   simp! [xK]
   rw [e0]
   obtain ⟨dx,hins⟩:=gt.ins
   refine ⟨_,_,hins,lk,small (by simp),fun p hp => qS gs gt h100 hi' hi' (x:="same") (by decide) rfl (by unfold zW; rw [if_pos rfl]; simp) hp (R:=fun L => Pl rows i 0 L /\ zU L i i = true) (fun L e h => ⟨hP.le e,h⟩) fun _ H2 g2 => hN2 _ _ ?_⟩
   clear hN2 hins gs gt
   obtain ⟨gs,t,gt,hP,hp1⟩:=g2
   obtain ⟨dx,hins⟩:=gt.ins
   refine zJ fun N2 hN2 => ?_
   simp! [xK]
   refine ⟨_,_,hins,lk,small (by simp),fun p hp => qS (i:=0) gs gt h100 (by omega) hi' (x:="edge") (by decide) rfl (by unfold zW; rw [if_neg (by decide),if_pos rfl]; simp) hp (R:=fun L => Pl rows i 0 L /\ zU L i i = true /\ zU L 0 i = true) (fun L e h => ⟨hP.le e,e.has hp1,h⟩) fun _ H2 g2 => hN2 _ _ ?_⟩
   clear hN2 hins gs gt
   obtain ⟨gs,t,gt,hP,hp1,hp2⟩:=g2
   obtain ⟨dx,hins⟩:=gt.ins
   simp! [xK]
   refine ⟨_,_,hins,lk,small (by simp),fun p hp => qS (j:=1) gs gt h100 hi' (by omega) (x:="edge") (by decide) rfl (by unfold zW; rw [if_neg (by decide),if_pos rfl]; simp) hp (R:=Pl rows (i + 1) 0) (fun L e h => ?_) fun _ H2 g2 => ?_⟩
   · have c : ∀ {x : Nat}, x < i + 1 -> x < i \/ x = i := fun h => by omega
     have hP':=hP.le e
     exact ⟨fun x hx => (c hx).elim (hP'.same x) fun z => z ▸ e.has hp1,fun x hx => (c hx).elim (hP'.low x) fun z => z ▸ e.has hp2,fun x hx => (c hx).elim (hP'.high x) fun z => z ▸ h,fun k a b hk => by omega⟩
   exact ⟨g2,_,rfl⟩
 obtain ⟨o1,o2,o3,hgt,rfl⟩:=h
 have hsa':=hgt.to.1.out hout hsa
 simp! [kU]
 refine ⟨_,hsa',?_⟩
 refine wC (xs:=us) (fun k σ H' => ∃ (o1 o2 o3:Option V),GrH C H g rows rules [] (Pl rows (2 * rows.length) k) H' /\ σ = [some (V.ref g.r),some (V.ref sa),o1,o2,o3]) ⟨_,_,_,hgt,rfl⟩ (fun k σ H' h => ?_) (fun k x σ H' p hx h hp => ?_) (fun σ H' h => ?_)
 · obtain ⟨_, _, _, h, _⟩ := h
   exact h.to.1.out hout hsa
 · obtain ⟨o1, o2, o3, hgt, rfl⟩ := h
   have hk:k < rows.length:=by rw [← hul]; exact (List.getElem?_eq_some_iff.mp hx).1
   obtain ⟨r,hr1,hr2⟩:=yW hrw hx
   have tu:=hg.tups hgt.to.1
   obtain ⟨xa,x',vs,rfl,hxa,hcase⟩:=RwAt.out hr2
   have hxa0:=hxa
   replace hxa:=tu _ _ hxa
   replace hgt:=hgt.same (zF hp (.tup [.int k,.ref xa]))
   have hxa':=zF hp (.tup [.int k,.ref xa]) _ _ hxa
   have kp:upd H' p (.tup [.int k,.ref xa]) p = some (.tup [.int k,.ref xa]):=zC
   generalize upd H' p (.tup [.int k,.ref xa]) = H2 at hgt hxa' kp ⊢
   simp! [wT,uE,gNil,xK]
   refine ⟨[.int k,.ref xa],SqT.of kp,rfl,.int k,[.ref xa],rfl,.ref xa,[],rfl,rfl,xa,rfl,_,SqT.of hxa',_,at0,rfl,?_⟩
   have nob:∀ {L:List Ln},(∀ a b,r ≠ .bo a b) -> Pl rows (2 * rows.length) k L -> Pl rows (2 * rows.length) (k + 1) L:=fun hno h => ⟨h.same,h.low,h.high,fun m a b hm hr' => by
     rcases Nat.lt_or_eq_of_le (Nat.le_of_lt_succ hm) with z | z
     · exact h.part m a b z hr'
     · subst z; rw [hr1] at hr'; cases hr'; exact absurd rfl (hno a b)⟩
   have weak:∀ {R R':List Ln -> Prop} {H'},(∀ L,R L -> R' L) -> GrH C H g rows rules [] R H' -> GrH C H g rows rules [] R' H':=fun w h => by
     obtain ⟨h1,t,h2,h3⟩:=h
     exact ⟨h1,t,h2,w _ h3⟩
   cases r with
   | no =>
     obtain ⟨rfl,rfl⟩:=hcase
     rw [if_neg (by intro z; exact absurd (V.str.inj z) (by decide +kernel))]
     exact ⟨weak (fun L => nob (fun a b z => by cases z)) hgt,_,rfl⟩
   | nm y =>
     obtain ⟨rfl,rfl⟩:=hcase
     rw [if_neg (by intro z; exact absurd (V.str.inj z) (by decide +kernel))]
     exact ⟨weak (fun L => nob (fun a b z => by cases z)) hgt,_,rfl⟩
   | bo i j =>
     obtain ⟨rfl,rfl⟩:=hcase
     rw [if_pos rfl]
     obtain ⟨⟨b1,b2⟩,b3,b4⟩:=hin k i j hr1
     obtain ⟨a,rfl⟩:∃ a:Nat,i = (a:Int):=⟨i.toNat,by omega⟩
     obtain ⟨b,rfl⟩:∃ b:Nat,j = (b:Int):=⟨j.toNat,by omega⟩
     have e2:(2:Int) * (k:Int) = ((2 * k:Nat):Int):=by omega
     have hpt:jO rows ((2 * k:Nat):Int) = [(a:Int),(b:Int)]:=xW (r:=.bo a b) (by omega) (by rw [show (((2 * k:Nat):Int) / 2).toNat = k by omega]; exact hr1)
     have hst:∀ c:Nat,(c = a \/ c = b) -> zW rows ((2 * k:Nat):Int) c "part" [] = true:=fun c hc => by
       unfold zW
       rw [if_neg (by decide),if_neg (by decide),if_pos rfl,hpt]
       rcases hc with rfl | rfl <;> simp
     have at2:∀ {a b c:V},atI [a,b,c] 2 = some c:=zZ (j:=2) rfl
     obtain ⟨gs,t,gt,hP⟩:=hgt
     obtain ⟨dx,hins⟩:=gt.ins
     refine ⟨_,_,hins,lk,_,rfl,.inl ⟨by decide,by decide⟩,xa,rfl,_,SqT.of hxa',_,at1,small (by simp),fun p1 hp1 => ?_⟩
     rw [e2]
     refine qS (i:=2 * k) (j:=a) gs gt h100 (by omega) (by omega) (x:="part") (by decide) rfl (hst a (.inl rfl)) hp1 (R:=fun L => Pl rows (2 * rows.length) k L /\ zU L ((2 * k:Nat):Int) a = true) (fun L e h => ⟨hP.le e,h⟩) fun _ H3 g3 => ?_
     have hxa3:=hg.tups g3.1 _ _ hxa0
     obtain ⟨gs,t,gt,hP,hpa⟩:=g3
     obtain ⟨dx,hins⟩:=gt.ins
     refine ⟨_,_,hins,lk,_,rfl,.inl ⟨by decide,by decide⟩,xa,rfl,_,SqT.of hxa3,_,at2,small (by simp),fun p2 hp2 => ?_⟩
     rw [e2]
     refine qS (i:=2 * k) (j:=b) gs gt h100 (by omega) (by omega) (x:="part") (by decide) rfl (hst b (.inr rfl)) hp2 (R:=Pl rows (2 * rows.length) (k + 1)) (fun L e h => ?_) fun _ H4 g4 => ⟨g4,_,rfl⟩
     have hP':=hP.le e
     refine ⟨hP'.same,hP'.low,hP'.high,fun m a' b' hm hr' => ?_⟩
     rcases Nat.lt_or_eq_of_le (Nat.le_of_lt_succ hm) with z | z
     · exact hP'.part m a' b' z hr'
     · subst z; rw [hr1] at hr'; cases hr'; exact ⟨e.has hpa,h⟩
 · obtain ⟨_, _, _, h, rfl⟩ := h
   rw [hul] at h
   exact q _ h
end
def Tri (rows:List Rw) (H:Hp) (v:V):Prop:=∃ (t:Addr) (k:Nat) (a b:Int),v = .ref t /\ H t = some (.tup [.int (2 * (k:Int)),.int a,.int b]) /\ rows[k]? = some (.bo a b)
theorem Tri.tups {rows:List Rw} {H H':Hp} (e:TupSame H H') {v:V} (h:Tri rows H v):Tri rows H' v:=by
 obtain ⟨t,k,a,b,h1,h2,h3⟩:=h
 exact ⟨t,k,a,b,h1,e _ _ h2,h3⟩
def BoP (rows:List Rw) (H:Hp) (qs:List Addr) (n:Nat):Prop:=∀ q ∈ qs,∃ us,H q = some (.lst us) /\ us.length <= n /\ ∀ v ∈ us,Tri rows H v
theorem BoP.same {rows:List Rw} {H H':Hp} {qs:List Addr} {n:Nat} (e:Same H H') (h:BoP rows H qs n):BoP rows H' qs n:=fun q hq => by
 obtain ⟨us,h1,h2,h3⟩:=h q hq
 exact ⟨us,e _ _ h1,h2,fun v hv => (h3 v hv).tups e.tups⟩
theorem BoP.put {rows:List Rw} {H:Hp} {qs:List Addr} {n:Nat} {q:Addr} {us:List V} {v:V} (h:BoP rows H qs n) (hq:H q = some (.lst us)) (hl:us.length <= n) (hus:∀ v ∈ us,Tri rows H v) (hv:Tri rows H v):BoP rows (upd H q (.lst (us ++ [v]))) qs (n + 1):=fun q' hq' => by
 have tu:TupSame H (upd H q (.lst (us ++ [v]))):=(TupSame.refl _).upd_lst hq
 by_cases e:q' = q
 · subst e
   refine ⟨us ++ [v],zC,by simp; omega,fun x hx => ?_⟩
   rcases List.mem_append.mp hx with hx | hx
   · exact (hus x hx).tups tu
   · rw [List.mem_singleton.mp hx]; exact hv.tups tu
 · obtain ⟨us', h1, h2, h3⟩ := h q' hq'
   exact ⟨us',by rw [zH e]; exact h1,by omega,fun x hx => (h3 x hx).tups tu⟩
def InB (H:Hp) (q:Addr) (m:Nat) (a b:Int):Prop:=∃ (us:List V) (t:Addr),H q = some (.lst us) /\ V.ref t ∈ us /\ H t = some (.tup [.int (2 * (m:Int)),.int a,.int b])
theorem InB.same {H H':Hp} {q:Addr} {m:Nat} {a b:Int} (e:Same H H') (h:InB H q m a b):InB H' q m a b:=by
 obtain ⟨us,t,h1,h2,h3⟩:=h
 exact ⟨us,t,e _ _ h1,h2,e _ _ h3⟩
theorem InB.upd {H:Hp} {q:Addr} {m:Nat} {a b:Int} (h:InB H q m a b) {q1:Addr} {us1:List V} {v:V} (hq:H q1 = some (.lst us1)):InB (upd H q1 (.lst (us1 ++ [v]))) q m a b:=by
 obtain ⟨us,t,h1,h2,h3⟩:=h
 have h3':=(TupSame.refl H).upd_lst (o:=.lst (us1 ++ [v])) hq _ _ h3
 by_cases e:q = q1
 · subst e
   rw [hq] at h1
   cases h1
   exact ⟨_,t,zC,List.mem_append_left _ h2,h3'⟩
 · exact ⟨us,t,(zH e).trans h1,h2,h3'⟩
def BoC (rows:List Rw) (H:Hp) (qs:List Addr) (k:Nat):Prop:=∀ (m:Nat) (a b:Int),m < k -> rows[m]? = some (.bo a b) -> ∀ (x:Nat) (q:Addr),((x:Int) = a \/ (x:Int) = b) -> qs[x]? = some q -> InB H q m a b
theorem BoC.same {rows:List Rw} {H H':Hp} {qs:List Addr} {k:Nat} (e:Same H H') (h:BoC rows H qs k):BoC rows H' qs k:=fun m a b hm hr x q hx hq => (h m a b hm hr x q hx hq).same e
theorem BoC.upd {rows:List Rw} {H:Hp} {qs:List Addr} {k:Nat} (h:BoC rows H qs k) {q1:Addr} {us1:List V} {v:V} (hq1:H q1 = some (.lst us1)):BoC rows (upd H q1 (.lst (us1 ++ [v]))) qs k:=fun m a b hm hr x q hx hq => (h m a b hm hr x q hx hq).upd hq1
theorem BoC.succ {rows:List Rw} {H:Hp} {qs:List Addr} {k:Nat} (h:BoC rows H qs k) (hk:∀ (a b:Int),rows[k]? = some (.bo a b) -> ∀ (x:Nat) (q:Addr),((x:Int) = a \/ (x:Int) = b) -> qs[x]? = some q -> InB H q k a b):BoC rows H qs (k + 1):=fun m a b hm hr x q hx hq => by
 rcases Nat.lt_or_eq_of_le (Nat.le_of_lt_succ hm) with z | z
 · exact h m a b z hr x q hx hq
 · subst z
   exact hk a b hr x q hx hq
def spBo:Sp:=fun vs H Q _ => ∃ (sa:Addr) (us:List V) (rows:List Rw),vs = [.ref sa] /\ H sa = some (.lst us) /\ jZ H rows us /\ rows.length <= 100 /\ RowsIn rows /\ ∀ (p:Addr) (qs:List Addr) (n:Nat) (H':Hp),Same H H' -> H p = none -> (∀ q ∈ qs,H q = none) -> H' p = some (.lst (qs.map V.ref)) -> qs.length = 2 * rows.length -> BoP rows H' qs n -> BoC rows H' qs rows.length -> Q (.ref p) H'
def WaP (m:Nat) (H0 H:Hp) (kvs:List (List Key × V)) (n:Nat):Prop:=∀ kv ∈ kvs,∃ (q:Addr) (ns:List Nat),kv.2 = .ref q /\ H q = some (.lst (ns.map nV)) /\ H0 q = none /\ ns.length <= n /\ ∀ x ∈ ns,x < m
theorem WaP.same {m:Nat} {H0 H H':Hp} {kvs:List (List Key × V)} {n:Nat} (e:Same H H') (h:WaP m H0 H kvs n):WaP m H0 H' kvs n:=fun kv hkv => by
 obtain ⟨q,ns,h1,h2,h3⟩:=h kv hkv
 exact ⟨q,ns,h1,e _ _ h2,h3⟩
theorem WaP.upd {m:Nat} {H0 H:Hp} {kvs:List (List Key × V)} {n:Nat} {q:Addr} {ns:List Nat} {r:Nat} (h:WaP m H0 H kvs n) (hl:ns.length <= n) (hns:∀ x ∈ ns,x < m) (hr:r < m) (hq:H0 q = none):WaP m H0 (upd H q (.lst (ns.map nV ++ [nV r]))) kvs (n + 1):=fun kv hkv => by
 obtain ⟨q',ns',h1,h2,h3,h4,h5⟩:=h kv hkv
 by_cases e:q' = q
 · subst e
   refine ⟨q',ns ++ [r],h1,by rw [zC,List.map_append]; rfl,hq,by simp; omega,fun x hx => ?_⟩
   rcases List.mem_append.mp hx with hx | hx
   · exact hns x hx
   · rw [List.mem_singleton.mp hx]; exact hr
 · exact ⟨q',ns',h1,(zH e).trans h2,h3,by omega,h5⟩
theorem valV_mem {κ:Type} [DecidableEq κ] {kvs:List (κ × V)} {k:κ} {v:V} (h:yS kvs k = some v):∃ kv ∈ kvs,kv.2 = v:=by
 unfold yS at h
 obtain ⟨x,hx,e⟩:=Option.map_eq_some_iff.mp h
 exact ⟨x,List.mem_of_find?_eq_some hx,e⟩
theorem valV_old {κ:Type} [DecidableEq κ] {kvs t:List (κ × V)} {k:κ} {v:V} (h:yS kvs k = some v):yS (kvs ++ t) k = some v:=by
 unfold yS at h ⊢
 obtain ⟨x,hx,e⟩:=Option.map_eq_some_iff.mp h
 rw [List.find?_append,hx]
 exact congrArg some e
theorem valV_new {κ:Type} [DecidableEq κ] {kvs:List (κ × V)} {k:κ} {v:V} (h:yS kvs k = none):yS (kvs ++ [(k,v)]) k = some v:=by
 unfold yS at h ⊢
 rw [Option.map_eq_none_iff] at h
 rw [List.find?_append,h]
 simp
theorem nV_inj:∀ {a b:List Nat},a.map nV = b.map nV -> a = b
 | [],[],_ => rfl
 | [],_ :: _,h => by cases h
 | _ :: _,[],h => by cases h
 | x :: a, y :: b, h => by
   injection h with h1 h2
   have h3:=V.int.inj h1
   have h4:x = y:=by omega
   rw [h4,nV_inj h2]
def WaI (H:Hp) (kvs:List (List Key × V)) (pr:Pr) (r:Nat):Prop:=∃ (q:Addr) (ns:List Nat),yS kvs (yZ pr.1 pr.2) = some (.ref q) /\ H q = some (.lst (ns.map nV)) /\ r ∈ ns
theorem WaI.same {H H':Hp} {kvs:List (List Key × V)} {pr:Pr} {r:Nat} (e:Same H H') (h:WaI H kvs pr r):WaI H' kvs pr r:=by
 obtain ⟨q,ns,h1,h2,h3⟩:=h
 exact ⟨q,ns,h1,e _ _ h2,h3⟩
theorem WaI.app {H:Hp} {kvs t:List (List Key × V)} {pr:Pr} {r:Nat} (h:WaI H kvs pr r):WaI H (kvs ++ t) pr r:=by
 obtain ⟨q,ns,h1,h2,h3⟩:=h
 exact ⟨q,ns,valV_old h1,h2,h3⟩
theorem WaI.upd {H:Hp} {kvs:List (List Key × V)} {pr:Pr} {r:Nat} (h:WaI H kvs pr r) {q1:Addr} {ns1:List Nat} {x:Nat} (hq:H q1 = some (.lst (ns1.map nV))):WaI (upd H q1 (.lst (ns1.map nV ++ [nV x]))) kvs pr r:=by
 obtain ⟨q,ns,h1,h2,h3⟩:=h
 by_cases e:q = q1
 · subst e
   rw [hq] at h2
   have e2:ns1 = ns:=by
     have:=HO.lst.inj (Option.some.inj h2)
     exact nV_inj this
   subst e2
   exact ⟨q,ns1 ++ [x],h1,by rw [zC,List.map_append]; rfl,List.mem_append_left _ h3⟩
 · exact ⟨q,ns,h1,(zH e).trans h2,h3⟩
theorem WaI.dic {H:Hp} {kvs:List (List Key × V)} {pr:Pr} {r:Nat} (h:WaI H kvs pr r) {p:Addr} {kvs0:List (List Key × V)} {o:HO} (hp:H p = some (.dT kvs0)):WaI (L2.upd H p o) kvs pr r:=by
 obtain ⟨q,ns,h1,h2,h3⟩:=h
 exact ⟨q,ns,h1,(zH (fun z => by rw [z,hp] at h2; cases h2)).trans h2,h3⟩
def WaC (rules:List yA) (H:Hp) (kvs:List (List Key × V)) (k m:Nat):Prop:=∀ (r:Nat) (q:yA) (x:Nat) (pr:Pr),rules[r]? = some q -> q.1[x]? = some pr -> (r < k \/ r = k /\ x < m) -> WaI H kvs pr r
def spWa:Sp:=fun vs H Q _ => ∃ (ra:Addr) (us:List V) (rules:List yA),vs = [.ref ra] /\ H ra = some (.lst us) /\ DAts H (rules.map dNR) us /\ rules.length <= 100 /\ (∀ r ∈ rules,r.1.length <= 100) /\ ∀ (p:Addr) (kvs:List (List Key × V)) (n:Nat) (H':Hp),Same H H' -> H p = none -> H' p = some (.dT kvs) -> WaP rules.length H H' kvs n -> WaC rules H' kvs rules.length 0 -> Q (.ref p) H'
section
variable {P:Program} {w:World} {K:PySem.W.Frag} {mg:Str -> Option Value} {base:Heap} {f:Addr} {fd:FuncData}
theorem ok_boths (bi:Bi mg) (be:mg "enumerate" = none) (F:Fun K "boths_by_part" "boths_by_part" s_f f fd):FnOk P w K mg base CX0 1 f fd ["sheet"] spBo:=by
 refine F.ok sc_f (fun vs H Q E h => ?_) (fun cdv A outer s H vs Q E hr h => ?_)
 · obtain ⟨sa, us, rows, rfl, _⟩ := h
   rfl
 obtain ⟨sa,us,rows,rfl,hsa,hrw,h100,hin,q⟩:=h
 have hul:=yK hrw
 refine ⟨_,(zD (ps_comp (i:=1) ["n"] [] [] sc_f.nd rfl (xH rfl bi.range (zA (zO op_mul zB (zK call_len rfl bi.len bt_len (zA (pv 0) pa_nil))) pa_nil)) (fun _ _ _ _ nd => zM (i:=0) nd rfl (Or.inl rfl)) (fun _ _ _ _ => xR) (fun _ _ _ _ => (jE pa_nil))) (zD (yR PassesOwn.never rfl (uU rfl be (zA (pv 0) pa_nil)) (uG rfl (yL (zM (i:=2) sc_f.nd rfl (Or.inl rfl)) (yL (zM (i:=3) sc_f.nd rfl (Or.inl rfl)) pgs_nil))) (zE (yI (zN op_eq (zI ix_tup (pv 3) zB (fun _ _ => rfl)) yB (zL _)) (zD (yG (vJ PySem.F.plainAttrs_list PySem.F.slot_list_append PySem.F.type_list_append mt_append (zI ix_list (pv 1) (zI ix_tup (pv 3) zB (fun _ _ => rfl)) (fun _ _ => rfl)) (zA (zX (zA (zO op_mul zB (pv 2)) (zA (zI ix_tup (pv 3) zB (fun _ _ => rfl)) (zA (zI ix_tup (pv 3) zB (fun _ _ => rfl)) pa_nil)))) pa_nil))) (zE (yG (vJ PySem.F.plainAttrs_list PySem.F.slot_list_append PySem.F.type_list_append mt_append (zI ix_list (pv 1) (zI ix_tup (pv 3) zB (fun _ _ => rfl)) (fun _ _ => rfl)) (zA (zX (zA (zO op_mul zB (pv 2)) (zA (zI ix_tup (pv 3) zB (fun _ _ => rfl)) (zA (zI ix_tup (pv 3) zB (fun _ _ => rfl)) pa_nil)))) pa_nil))))) pss_nil))) (zE (zQ (pv 1))))),?_⟩
 refine zJ fun N hN => ?_
 simp! []
 refine ⟨us.length,.inl ⟨_,SqL.of hsa,rfl⟩,.inl ⟨by decide,by decide⟩,by omega,by omega,?_⟩
 refine lc_range (lo:=0) (n:=(2 * (us.length:Int)).toNat) (fun i ys σ H' => Same H H' /\ (∃ qs:List Addr,ys = qs.map V.ref /\ qs.length = i /\ (∀ q ∈ qs,H q = none) /\ BoP rows H' qs 0) /\ ∃ o,σ = [o]) ⟨Same.refl _,⟨[],rfl,rfl,(fun q z => by cases z),fun q z => by cases z⟩,_,rfl⟩ (small (by omega)) (fun i ys σ H' e => ?_) (fun i ys σ H' C hi e hC => ?_) (fun ys σ H' e p hp => hN _ _ ?_)
 · obtain ⟨_, ⟨qs, rfl, hl, _⟩, _⟩ := e
   rw [List.length_map]
   omega
 · obtain ⟨es, ⟨qs, rfl, hl, hfr, hbo⟩, o, rfl⟩ := e
   simp! []
   refine ⟨small (by simp),fun q0 hq0 => hC _ _ _ ⟨es.trans (zF hq0 _),⟨qs ++ [q0],by rw [List.map_append]; rfl,by simp [hl],fun q hq => ?_,fun q hq => ?_⟩,_,rfl⟩⟩
   · rcases List.mem_append.mp hq with hq | hq
     · exact hfr q hq
     · rw [List.mem_singleton.mp hq]; exact es.free hq0
   · rcases List.mem_append.mp hq with hq | hq
     · exact BoP.same (zF hq0 _) hbo q hq
     · rw [List.mem_singleton.mp hq]
       exact ⟨[],zC,Nat.le_refl _,fun v z => by cases z⟩
 obtain ⟨es,⟨qs,rfl,hl,hfr,hbo⟩,o,rfl⟩:=e
 clear hN
 have s1:=zF hp (.lst (qs.map V.ref))
 have k1:upd H' p (.lst (qs.map V.ref)) p = some (.lst (qs.map V.ref)):=zC
 have hp0:=es.free hp
 have hpq:p ∉ qs:=fun z => by
   obtain ⟨_,h1,_⟩:=hbo p z
   rw [hp] at h1
   cases h1
 replace hbo:=hbo.same s1
 replace es:=es.trans s1
 generalize upd H' p (.lst (qs.map V.ref)) = H1 at k1 hbo es ⊢
 have hql:qs.length = 2 * rows.length:=by omega
 clear s1 hp hl
 refine yE (fun σ H' => ∃ (o1 o2:Option V) (n:Nat),Same H H' /\ H' p = some (.lst (qs.map V.ref)) /\ BoP rows H' qs n /\ BoC rows H' qs rows.length /\ σ = [some (V.ref sa),some (V.ref p),o1,o2]) (fun N hN => ?_) (fun σ H' h => ?_)
 · simp! [kU]
   refine ⟨_,es _ _ hsa,?_⟩
   refine wC (xs:=us) (fun k σ H' => ∃ (o1 o2:Option V),Same H H' /\ H' p = some (.lst (qs.map V.ref)) /\ BoP rows H' qs (2 * k) /\ BoC rows H' qs k /\ σ = [some (V.ref sa),some (V.ref p),o1,o2]) ⟨_,_,es,k1,hbo,(fun m a b hm => by omega),rfl⟩ (fun k σ H' h => ?_) (fun k x σ H' pe hx h hpe => ?_) (fun σ H' h => ?_)
   · obtain ⟨_, _, h, _⟩ := h
     exact h _ _ hsa
   · obtain ⟨o1, o2, s2, k2, hb2, hc2, rfl⟩ := h
     have hk:k < rows.length:=by rw [← hul]; exact (List.getElem?_eq_some_iff.mp hx).1
     obtain ⟨r,hr1,hr2⟩:=yW hrw hx
     obtain ⟨xa,x',vs,rfl,hxa,hcase⟩:=RwAt.out hr2
     have s3:=zF hpe (.tup [.int k,.ref xa])
     have kp:upd H' pe (.tup [.int k,.ref xa]) pe = some (.tup [.int k,.ref xa]):=zC
     generalize upd H' pe (.tup [.int k,.ref xa]) = H2 at s3 kp ⊢
     replace s2:=s2.trans s3
     replace k2:=s3 _ _ k2
     replace hb2:=hb2.same s3
     replace hc2:=hc2.same s3
     replace hxa:=s2 _ _ hxa
     clear s3 hpe
     have more:∀ {a b:Nat},a <= b -> BoP rows H2 qs a -> BoP rows H2 qs b:=fun hab h q hq => by
       obtain ⟨us,h1,h2,h3⟩:=h q hq
       exact ⟨us,h1,by omega,h3⟩
     simp! [wT,uE,gNil]
     refine ⟨[.int k,.ref xa],SqT.of kp,rfl,.int k,[.ref xa],rfl,.ref xa,[],rfl,rfl,xa,rfl,_,SqT.of hxa,_,at0,rfl,?_⟩
     cases r with
     | no =>
       obtain ⟨rfl,rfl⟩:=hcase
       rw [if_neg (by intro z; exact absurd (V.str.inj z) (by decide +kernel))]
       exact ⟨s2,k2,more (by omega) hb2,hc2.succ (fun a b z => by rw [hr1] at z; cases z),_,rfl⟩
     | nm y =>
       obtain ⟨rfl,rfl⟩:=hcase
       rw [if_neg (by intro z; exact absurd (V.str.inj z) (by decide +kernel))]
       exact ⟨s2,k2,more (by omega) hb2,hc2.succ (fun a b z => by rw [hr1] at z; cases z),_,rfl⟩
     | bo i j =>
       obtain ⟨rfl,rfl⟩:=hcase
       rw [if_pos rfl]
       obtain ⟨⟨b1,b2⟩,b3,b4⟩:=hin k i j hr1
       have hgx:∀ (x:Int),0 <= x -> x < 2 * (rows.length:Int) -> ∃ q,q ∈ qs /\ atI (qs.map V.ref) x = some (V.ref q) /\ qs[x.toNat]? = some q:=fun x hx0 hx1 => by
         obtain ⟨m,rfl⟩:=Int.eq_ofNat_of_zero_le hx0
         have hm:m < qs.length:=by omega
         refine ⟨qs[m],List.getElem_mem hm,?_⟩
         exact ⟨zZ (by rw [List.getElem?_map,List.getElem?_eq_getElem hm]; rfl),by rw [Int.toNat_natCast]; exact List.getElem?_eq_getElem hm⟩
       obtain ⟨q1,hq1,ha1,hx1⟩:=hgx i b1 (by omega)
       obtain ⟨q2,hq2,ha2,hx2⟩:=hgx j b3 (by omega)
       obtain ⟨us1,hu1,hl1,ht1⟩:=hb2 q1 hq1
       refine ⟨_,rfl,_,SqT.of hxa,_,at1,_,_,rfl,SqL.of k2,_,ha1,.inl ⟨rfl,_,SqL.of hu1⟩,_,rfl,.inl ⟨by decide,by decide⟩,_,rfl,_,SqT.of hxa,_,at1,_,rfl,_,SqT.of hxa,_,rfl,small (by decide),fun t1 ht => ?_⟩
       have s3:=zF ht (.tup [.int (2 * (k:Int)),.int i,.int j])
       have tr:Tri rows (upd H2 t1 (.tup [.int (2 * (k:Int)),.int i,.int j])) (.ref t1):=⟨t1,k,i,j,rfl,zC,hr1⟩
       have kt1:upd H2 t1 (.tup [.int (2 * (k:Int)),.int i,.int j]) t1 = some (.tup [.int (2 * (k:Int)),.int i,.int j]):=zC
       generalize upd H2 t1 (.tup [.int (2 * (k:Int)),.int i,.int j]) = H3 at s3 tr kt1 ⊢
       replace k2:=s3 _ _ k2
       replace hxa:=s3 _ _ hxa
       replace hu1:=s3 _ _ hu1
       replace ht1:∀ v ∈ us1,Tri rows H3 v:=fun v hv => (ht1 v hv).tups s3.tups
       replace hb2:=(hb2.same s3).put hu1 hl1 ht1 tr
       replace hc2:=(hc2.same s3).upd (v:=.ref t1) hu1
       have in1:InB (upd H3 q1 (.lst (us1 ++ [V.ref t1]))) q1 k i j:=⟨_,t1,zC,by simp,(TupSame.refl H3).upd_lst hu1 _ _ kt1⟩
       refine ⟨q1,rfl,us1,hu1,qX (by omega),?_⟩
       replace s2:=(s2.trans s3).upd (o:=.lst (us1 ++ [V.ref t1])) (hfr q1 hq1)
       have n1:xa ≠ q1:=fun z => by rw [z,hu1] at hxa; cases hxa
       have n2:p ≠ q1:=fun z => hpq (z ▸ hq1)
       replace hxa:upd H3 q1 (.lst (us1 ++ [V.ref t1])) xa = _:=(zH n1).trans hxa
       replace k2:upd H3 q1 (.lst (us1 ++ [V.ref t1])) p = _:=(zH n2).trans k2
       clear kt1 hu1 hl1 ht1 tr s3 ht more
       generalize upd H3 q1 (.lst (us1 ++ [V.ref t1])) = H4 at s2 hxa k2 hb2 hc2 in1 ⊢
       obtain ⟨us2,hu2,hl2,ht2⟩:=hb2 q2 hq2
       refine ⟨_,rfl,_,SqT.of hxa,_,rfl,_,_,rfl,SqL.of k2,_,ha2,.inl ⟨rfl,_,SqL.of hu2⟩,_,rfl,.inl ⟨by decide,by decide⟩,_,rfl,_,SqT.of hxa,_,at1,_,rfl,_,SqT.of hxa,_,rfl,small (by decide),fun t1 ht => ?_⟩
       have s3:=zF ht (.tup [.int (2 * (k:Int)),.int i,.int j])
       have tr:Tri rows (upd H4 t1 (.tup [.int (2 * (k:Int)),.int i,.int j])) (.ref t1):=⟨t1,k,i,j,rfl,zC,hr1⟩
       have kt1:upd H4 t1 (.tup [.int (2 * (k:Int)),.int i,.int j]) t1 = some (.tup [.int (2 * (k:Int)),.int i,.int j]):=zC
       generalize upd H4 t1 (.tup [.int (2 * (k:Int)),.int i,.int j]) = H5 at s3 tr kt1 ⊢
       replace k2:=s3 _ _ k2
       replace hu2:=s3 _ _ hu2
       replace ht2:∀ v ∈ us2,Tri rows H5 v:=fun v hv => (ht2 v hv).tups s3.tups
       replace hb2:=(hb2.same s3).put hu2 hl2 ht2 tr
       replace hc2:=(hc2.same s3).upd (v:=.ref t1) hu2
       replace in1:=(in1.same s3).upd (v:=.ref t1) hu2
       have in2:InB (upd H5 q2 (.lst (us2 ++ [V.ref t1]))) q2 k i j:=⟨_,t1,zC,by simp,(TupSame.refl H5).upd_lst hu2 _ _ kt1⟩
       have n2:p ≠ q2:=fun z => hpq (z ▸ hq2)
       refine ⟨q2,rfl,us2,hu2,qX (by omega),(s2.trans s3).upd (hfr q2 hq2),(zH n2).trans k2,hb2,hc2.succ (fun a b z x q' hx hq' => ?_),_,rfl⟩
       rw [hr1] at z
       cases z
       rcases hx with hx | hx
       · rw [← hx, Int.toNat_natCast, hq'] at hx1
         cases hx1
         exact in1
       · rw [← hx, Int.toNat_natCast, hq'] at hx2
         cases hx2
         exact in2
   · obtain ⟨o1, o2, s2, k2, hb2, hc2, rfl⟩ := h
     rw [hul] at hc2
     exact hN _ _ ⟨_,_,_,s2,k2,hb2,hc2,rfl⟩
 obtain ⟨o1,o2,n,s2,k2,hb2,hc2,rfl⟩:=h
 simp! []
 exact q p qs n _ s2 hp0 hfr k2 hql hb2 hc2
theorem uB (bi : Bi mg) (be : mg "enumerate" = none) (F : Fun K "rules_by_premise" "rules_by_premise" s_c f fd) : FnOk P w K mg base CX0 1 f fd ["rules"] spWa := by
 refine F.ok sc_c (fun vs H Q E h => ?_) (fun cdv A outer s H vs Q E hr h => ?_)
 · obtain ⟨ra, us, rules, rfl, _⟩ := h
   rfl
 obtain ⟨ra,us,rules,rfl,hra,hru,h100,hpr,q⟩:=h
 have hul:=yK hru
 refine ⟨_,(zD (zP (i:=1) sc_c.nd rfl (Or.inl rfl) pe_dnewT) (zD (yR PassesOwn.never rfl (uU rfl be (zA (pv 0) pa_nil)) (uG rfl (yL (zM (i:=2) sc_c.nd rfl (Or.inl rfl)) (yL (zM (i:=3) sc_c.nd rfl (Or.inl rfl)) pgs_nil))) (zE (yR PassesOwn.never rfl (xD (zI ix_tup (pv 3) zB (fun _ _ => rfl))) (zM (i:=4) sc_c.nd rfl (Or.inl rfl)) (zE (yG (vJ PySem.F.plainAttrs_list PySem.F.slot_list_append PySem.F.type_list_append mt_append (pe_sdef (jH hr) (pv 1) (pv 4) (jE pa_nil) ⟨rfl,rfl,rfl,rfl⟩) (zA (pv 2) pa_nil))))))) (zE (zQ (pv 1))))),?_⟩
 refine zJ fun N hN => ?_
 simp! [tDNewT]
 refine fun p hp => hN _ _ ?_
 clear hN
 have s1:=zF hp (.dT [])
 have k1:upd H p (.dT []) p = some (.dT []):=zC
 generalize upd H p (.dT []) = H1 at s1 k1 ⊢
 have sz:∀ {n:Nat},n <= 40000 -> n < sizeLine:=fun h => Nat.lt_of_le_of_lt (m:=100000) (by omega) (by decide)
 refine yE (fun σ H' => ∃ (o1 o2 o3:Option V) (kvs:List (List Key × V)) (n:Nat),Same H H' /\ H' p = some (.dT kvs) /\ WaP rules.length H H' kvs n /\ WaC rules H' kvs rules.length 0 /\ σ = [some (V.ref ra),some (V.ref p),o1,o2,o3]) (fun N hN => ?_) (fun σ H' h => ?_)
 · simp! [kU]
   refine ⟨_,s1 _ _ hra,?_⟩
   refine wC (xs:=us) (fun k σ H' => ∃ (o1 o2 o3:Option V) (kvs:List (List Key × V)),Same H H' /\ H' p = some (.dT kvs) /\ kvs.length <= 100 * k /\ WaP rules.length H H' kvs (100 * k) /\ WaC rules H' kvs k 0 /\ σ = [some (V.ref ra),some (V.ref p),o1,o2,o3]) ⟨_,_,_,_,s1,k1,Nat.le_refl _,(fun kv z => by cases z),(fun r q x pr _ _ hz => by omega),rfl⟩ (fun k σ H' h => ?_) (fun k x σ H' pe hx h hpe => ?_) (fun σ H' h => ?_)
   · obtain ⟨_, _, _, _, h, _⟩ := h
     exact h _ _ hra
   · obtain ⟨o1, o2, o3, kvs, s2, k2, hkl, hw2, hc2, rfl⟩ := h
     have hk:k < rules.length:=by rw [← hul]; exact (List.getElem?_eq_some_iff.mp hx).1
     obtain ⟨r,hr1,hr2⟩:=yW hru hx
     have hrl:=hpr r (List.mem_of_getElem? hr1)
     obtain ⟨xa,xl,xb,ps,rfl,hxa,hxl,hps,hxb⟩:=nrAt hr2
     have hpl:=yK hps
     have s3:=zF hpe (.tup [.int k,.ref xa])
     have kp:upd H' pe (.tup [.int k,.ref xa]) pe = some (.tup [.int k,.ref xa]):=zC
     generalize upd H' pe (.tup [.int k,.ref xa]) = H2 at s3 kp ⊢
     replace s2:=s2.trans s3
     replace k2:=s3 _ _ k2
     replace hw2:=hw2.same s3
     replace hc2:WaC rules H2 kvs k 0:=fun r q x pr h1 h2 h3 => (hc2 r q x pr h1 h2 h3).same s3
     replace hxa:=s2 _ _ hxa
     clear s3 hpe
     simp! [wT,uE,gNil]
     refine ⟨[.int k,.ref xa],SqT.of kp,rfl,.int k,[.ref xa],rfl,.ref xa,[],rfl,rfl,?_⟩
     have hxl2:=s2 _ _ hxl
     refine ⟨_,rfl,_,SqT.of hxa,_,at0,_,rfl,⟨_,SqL.of hxl2⟩,?_⟩
     refine xX (xs:=ps) (fun m σ H' => ∃ (o:Option V) (kvs:List (List Key × V)),Same H H' /\ H' p = some (.dT kvs) /\ kvs.length <= 100 * k + m /\ WaP rules.length H H' kvs (100 * k + m) /\ WaC rules H' kvs k m /\ σ = [some (V.ref ra),some (V.ref p),some (V.int k),some (V.ref xa),o]) ⟨_,_,s2,k2,hkl,hw2,hc2,rfl⟩ (fun m σ H' _ h => ?_) (fun m x σ H' hm h => ?_) (fun σ H' h => ?_)
     · obtain ⟨_, _, h, _⟩ := h
       exact SqL.of (h _ _ hxl)
     · obtain ⟨o, kvs, s4, k4, hl4, hw4, hc4, rfl⟩ := h
       have hmp:m < ps.length:=(List.getElem?_eq_some_iff.mp hm).1
       obtain ⟨pr,hpm,hpx⟩:=yW hps hm
       obtain ⟨xp,_,rfl,hxp,_,_,rfl,hv1,_,_,rfl,hv2,hv3⟩:=hpx
       cases hv1
       cases hv2
       cases hv3
       replace hxp:=s4 _ _ hxp
       simp! [tSDef,tBM]
       refine ⟨.inr ⟨_,.inl k4⟩,Nat.zero_le _,fun p1 hp1 => ?_⟩
       have n1:p ≠ p1:=fun z => by rw [z,hp1] at k4; cases k4
       have n2:xp ≠ p1:=fun z => by rw [z,hp1] at hxp; cases hxp
       have s5:=zF hp1 (.lst [])
       refine ⟨kvs,s5 _ _ k4,[.inl pr.1,.inl pr.2],s5 _ _ hxp,sz (by omega),fun v hv => ?_,fun hv => ?_⟩
       · obtain ⟨kv, hkv, rfl⟩ := valV_mem hv
         obtain ⟨q',ns',h1,h2,h3,h4,h5⟩:=hw4 kv hkv
         have n3:p ≠ q':=fun z => by rw [z,h2] at k4; cases k4
         rw [h1]
         refine ⟨.inl ⟨rfl,_,SqL.of (s5 _ _ h2)⟩,q',rfl,_,s5 _ _ h2,sz (by rw [List.length_map]; omega),(s4.trans s5).upd h3,_,kvs,(zH n3).trans (s5 _ _ k4),by omega,WaP.upd (hw4.same s5) h4 h5 hk h3,?_,rfl⟩
         intro r' q0 x pr' g1 g2 g3
         by_cases g4:r' < k \/ r' = k /\ x < m
         · exact ((hc4 r' q0 x pr' g1 g2 g4).same s5).upd (s5 _ _ h2)
         · obtain ⟨rfl, rfl⟩ : r' = k /\ x = m := by omega
           rw [hr1] at g1
           cases g1
           rw [hpm] at g2
           cases g2
           exact ⟨q',ns' ++ [r'],by rw [← h1]; exact hv,by rw [zC,List.map_append]; rfl,by simp⟩
       · have e1 : upd (upd H' p1 (.lst [])) p (.dT (xT kvs [.inl pr.1, .inl pr.2] (V.ref p1))) p1 = some (.lst []) := (zH n1.symm).trans zC
         refine ⟨.inl ⟨rfl,_,SqL.of e1⟩,[],e1,sz (by simp),((s4.trans s5).upd hp).upd (s4.free hp1),_,_,(zH n1).trans zC,?_,?_,?_,rfl⟩
         · rw [qY hv,List.length_append,List.length_singleton]; omega
         · refine WaP.upd (ns := []) (n := 100 * k + m) (fun kv hkv => ?_) (Nat.zero_le _) (fun x z => by cases z) hk (s4.free hp1)
           rw [qY hv] at hkv
           rcases List.mem_append.mp hkv with hkv | hkv
           · obtain ⟨q', ns', h1, h2, h3, h4, h5⟩ := hw4 kv hkv
             have n3:q' ≠ p:=fun z => by rw [← z,h2] at k4; cases k4
             exact ⟨q',ns',h1,(zH n3).trans (s5 _ _ h2),h3,h4,h5⟩
           · rw [List.mem_singleton.mp hkv]
             exact ⟨p1,[],rfl,e1,s4.free hp1,Nat.zero_le _,fun x z => by cases z⟩
         · intro r' q0 x pr' g1 g2 g3
           by_cases g4:r' < k \/ r' = k /\ x < m
           · have w := (((hc4 r' q0 x pr' g1 g2 g4).same s5).dic (s5 _ _ k4) (o := .dT (xT kvs [.inl pr.1, .inl pr.2] (V.ref p1)))).upd (ns1 := []) (x := k) e1
             rw [qY hv] at w ⊢
             exact w.app
           · obtain ⟨rfl, rfl⟩ : r' = k /\ x = m := by omega
             rw [hr1] at g1
             cases g1
             rw [hpm] at g2
             cases g2
             exact ⟨p1,[r'],by rw [qY hv]; exact valV_new hv,by rw [zC]; rfl,by simp⟩
     · obtain ⟨o, kvs, s4, k4, hl4, hw4, hc4, rfl⟩ := h
       refine ⟨s4,_,_,_,_,k4,by omega,fun kv hkv => ?_,fun r' q0 x pr' g1 g2 g3 => hc4 r' q0 x pr' g1 g2 ?_,rfl⟩
       rotate_left
       · rcases Nat.lt_or_eq_of_le (show r' <= k by omega) with z | z
         · exact .inl z
         · refine .inr ⟨z, ?_⟩
           rw [z,hr1] at g1
           cases g1
           rw [hpl]
           exact (List.getElem?_eq_some_iff.mp g2).1
       obtain ⟨q',ns',h1,h2,h3,h4,h5⟩:=hw4 kv hkv
       exact ⟨q',ns',h1,h2,h3,by omega,h5⟩
   · obtain ⟨o1, o2, o3, kvs, s2, k2, _, hw2, hc2, rfl⟩ := h
     rw [hul] at hc2
     exact hN _ _ ⟨_,_,_,_,_,s2,k2,hw2,hc2,rfl⟩
 obtain ⟨o1,o2,o3,kvs,n,s2,k2,hw2,hc2,rfl⟩:=h
 simp! []
 exact q p kvs n _ s2 hp k2 hw2 hc2
end
abbrev s_m:Stmt:=top 16
theorem sc_m:FnScope ["growth","i","j"] ["growth","i","j"] (zG s_m):=⟨rfl,rfl,rfl,by decide +kernel,rfl,by decide +kernel,by decide +kernel⟩
abbrev s_g:Stmt:=top 17
theorem sc_g:FnScope ["growth","i","j","line","m","h"] ["growth","i","j"] (zG s_g):=⟨rfl,rfl,rfl,by decide +kernel,rfl,by decide +kernel,by decide +kernel⟩
abbrev s_j:Stmt:=top 18
theorem sc_j:FnScope ["growth","i","boths","n","a","b"] ["growth","i","boths"] (zG s_j):=⟨rfl,rfl,rfl,by decide +kernel,rfl,by decide +kernel,by decide +kernel⟩
abbrev s_h:Stmt:=top 19
theorem sc_h:FnScope ["growth","i","j","n"] ["growth","i","j"] (zG s_h):=⟨rfl,rfl,rfl,by decide +kernel,rfl,by decide +kernel,by decide +kernel⟩
theorem qA {ls:List Ln} {p:Nat} {l:Ln} (h:ls[p]? = some l):yF ls ls.length (.n (p:Int)) = some (l.i,l.j):=by
 have hp:=(List.getElem?_eq_some_iff.mp h).1
 show (if 0 <= (p:Int) /\ (p:Int) < (ls.length:Int) then (ls[(p:Int).toNat]?).map fun l => (l.i,l.j) else none) = _
 rw [if_pos ⟨by omega,by omega⟩,Int.toNat_natCast,h]
 rfl
theorem ZI {rows:List Rw} {rules:List yA} {ls:List Ln} {i j:Nat} {x:Str} {as:List Wt} {prs:List Pr} (hi:i < 2 * rows.length) (hj:j < 2 * rows.length) (hx:x ≠ "rule") (hn:named x = some (as.length:Int)) (hs:as.map (yF ls ls.length) = prs.map some) (h:zW rows i j x prs = true):yO rows rules ls ls.length ⟨i,j,x,as⟩ = true:=by
 have a1:(as.all fun a => (yF ls ls.length a).isSome) = true:=by
   have:(as.map (yF ls ls.length)).all (fun o => o.isSome) = true:=by rw [hs]; simp
   rw [List.all_map] at this
   exact this
 have a2:as.filterMap (yF ls ls.length) = prs:=by
   have:(as.map (yF ls ls.length)).filterMap id = prs:=by rw [hs]; simp [List.filterMap_map]
   rw [List.filterMap_map] at this
   exact this
 unfold yO
 rw [if_neg (by
   intro z
   rcases z with z | z
   · exact z ⟨by show (0:Int) <= (i:Int); omega,by show (i:Int) < _; omega⟩
   · exact z ⟨by show (0:Int) <= (j:Int); omega,by show (j:Int) < _; omega⟩),if_neg hx,if_pos ⟨hn,a1⟩,a2]
 exact h
theorem GOk.rng {rows:List Rw} {rules:List yA} {ls:List Ln} (h:GOk rows rules ls) {i j:Nat} (hh:zU ls i j = true):i < 2 * rows.length /\ j < 2 * rows.length:=by
 obtain ⟨p,l,hl,h1,h2⟩:=hasP_iff.mp hh
 have:=uO (h.snd p l hl)
 omega
def tnN (n:Nat):Nat:=n + 1 - 2 * (n % 2)
theorem ZG (n:Nat):tn1 (n:Int) = ((tnN n:Nat):Int):=by
 unfold tn1 tnN
 omega
theorem tnN_two (n:Nat):tnN (tnN n) = n:=by
 unfold tnN
 omega
theorem tnN_lt {n m:Nat} (h:n < 2 * m):tnN n < 2 * m:=by
 unfold tnN
 omega
theorem zV {ls t:List Ln} {i j:Int} (h:zU ls i j = true):zU (ls ++ t) i j = true:=by
 rw [qR,h,Bool.true_or]
theorem ow_n {as:List Wt} (h:as.length <= 3) (hn:∀ ps,Wt.ps ps ∈ as -> False):OW as:=⟨h,fun ps z => (hn ps z).elim⟩
theorem st_turn {rows:List Rw} {rules:List yA} {ls:List Ln} {i j p:Nat} {l:Ln} (hi:i < 2 * rows.length) (hj:j < 2 * rows.length) (hl:ls[p]? = some l) (h1:l.i = i) (h2:l.j = j):yO rows rules ls ls.length ⟨(tnN j:Nat),(tnN i:Nat),"turn",[.n p]⟩ = true:=by
 refine ZI (prs:=[((i:Int),(j:Int))]) (tnN_lt hj) (tnN_lt hi) (by decide) rfl ?_ ?_
 · show [yF ls ls.length (.n (p : Int))] = _
   rw [qA hl,h1,h2]
   rfl
 · unfold zW
   rw [if_neg (by decide),if_neg (by decide),if_neg (by decide),if_neg (by decide),if_pos rfl,ZG,ZG,tnN_two,tnN_two]
   exact beq_self_eq_true _
theorem st_clash {rows:List Rw} {rules:List yA} {ls:List Ln} {i j n p:Nat} {l:Ln} (hi:i < 2 * rows.length) (hn:n < 2 * rows.length) (hj:(j:Int) = tn1 i) (hl:ls[p]? = some l) (h1:l.i = i) (h2:l.j = j):yO rows rules ls ls.length ⟨i,n,"clash",[.n p]⟩ = true:=by
 refine ZI (prs:=[((i:Int),(j:Int))]) hi hn (by decide) rfl ?_ ?_
 · show [yF ls ls.length (.n (p : Int))] = _
   rw [qA hl,h1,h2]
   rfl
 · unfold zW
   rw [if_neg (by decide),if_neg (by decide),if_neg (by decide),if_neg (by decide),if_neg (by decide),if_neg (by decide),hj]
   exact beq_self_eq_true _
theorem st_chain {rows:List Rw} {rules:List yA} {ls:List Ln} {i j m p p':Nat} {l l':Ln} (hi:i < 2 * rows.length) (hm:m < 2 * rows.length) (hl:ls[p]? = some l) (h1:l.i = i) (h2:l.j = j) (hl':ls[p']? = some l') (h1':l'.i = j) (h2':l'.j = m):yO rows rules ls ls.length ⟨i,m,"chain",[.n p,.n p']⟩ = true:=by
 refine ZI (prs:=[((i:Int),(j:Int)),((j:Int),(m:Int))]) hi hm (by decide) rfl ?_ ?_
 · show [yF ls ls.length (.n (p : Int)), yF ls ls.length (.n (p' : Int))] = _
   rw [qA hl,h1,h2,qA hl',h1',h2']
   rfl
 · unfold zW
   rw [if_neg (by decide),if_neg (by decide),if_neg (by decide),if_neg (by decide),if_neg (by decide),if_pos rfl]
   simp
theorem st_both {rows:List Rw} {rules:List yA} {ls:List Ln} {i n p p':Nat} {a b:Int} {l l':Ln} (hi:i < 2 * rows.length) (hn:n < 2 * rows.length) (hpt:jO rows (n:Int) = [a,b]) (hl:ls[p]? = some l) (h1:l.i = i) (h2:l.j = a) (hl':ls[p']? = some l') (h1':l'.i = i) (h2':l'.j = b):yO rows rules ls ls.length ⟨i,n,"both",[.n p,.n p']⟩ = true:=by
 refine ZI (prs:=[((i:Int),a),((i:Int),b)]) hi hn (by decide) rfl ?_ ?_
 · show [yF ls ls.length (.n (p : Int)), yF ls ls.length (.n (p' : Int))] = _
   rw [qA hl,h1,h2,qA hl',h1',h2']
   rfl
 · unfold zW
   rw [if_neg (by decide),if_neg (by decide),if_neg (by decide),if_pos rfl,hpt]
   exact beq_self_eq_true _
theorem ow_one {p:Nat}:OW [.n p]:=ow_n (by simp) (fun ps z => by simp at z)
theorem ow_two {p q:Nat}:OW [.n p,.n q]:=ow_n (by simp) (fun ps z => by simp at z)
theorem why_one {H:Hp} {p:Addr} {x:Str} {n:Nat}:DAt (upd H p (.tup [.str x,.int n])) (vG x [.n n]) (.ref p):=⟨p,_,rfl,zC,_,_,rfl,rfl,_,_,rfl,rfl,rfl⟩
theorem ZE {H:Hp} {p:Addr} {x:Str} {n m:Nat}:DAt (upd H p (.tup [.str x,.int n,.int m])) (vG x [.n n,.n m]) (.ref p):=⟨p,_,rfl,zC,_,_,rfl,rfl,_,_,rfl,rfl,_,_,rfl,rfl,rfl⟩
theorem sub_mask:∀ (n a b:Nat),a <= n -> ∃ d,a = (a &&& b) + d /\ ∀ x,d.testBit x = (a.testBit x && !b.testBit x)
 | 0, a, b, h => by
   have e:a = 0:=by omega
   subst e
   exact ⟨0,by simp,fun x => by simp⟩
 | n + 1, a, b, h => by
   obtain ⟨d,h1,h2⟩:=sub_mask n (a / 2) (b / 2) (by omega)
   have e1:(a &&& b) / 2 = a / 2 &&& b / 2:=Nat.eq_of_testBit_eq fun i => by
     rw [Nat.testBit_div_two,Nat.testBit_and,Nat.testBit_and,Nat.testBit_div_two,Nat.testBit_div_two]
   have e2:decide ((a &&& b) % 2 = 1) = (decide (a % 2 = 1) && decide (b % 2 = 1)):=by
     rw [← Nat.testBit_zero,← Nat.testBit_zero,← Nat.testBit_zero,Nat.testBit_and]
   rw [← e1] at h1
   refine ⟨2 * d + (if a % 2 = 1 /\ ¬ b % 2 = 1 then 1 else 0),?_,fun x => ?_⟩
   · have e3 : (a &&& b) % 2 = 1 ↔ (a % 2 = 1 /\ b % 2 = 1) := by
       rw [Bool.eq_iff_iff,decide_eq_true_eq,Bool.and_eq_true,decide_eq_true_eq,decide_eq_true_eq] at e2
       exact e2
     clear e1 e2 h2
     generalize a &&& b = c at h1 e3 ⊢
     split <;> omega
   · cases x with
     | zero =>
       rw [Nat.testBit_zero,Nat.testBit_zero,Nat.testBit_zero]
       by_cases ha:a % 2 = 1 <;> by_cases hb:b % 2 = 1 <;> simp [ha,hb] <;> omega
     | succ x =>
       have ed:(2 * d + (if a % 2 = 1 /\ ¬ b % 2 = 1 then 1 else 0)) / 2 = d:=by split <;> omega
       rw [← Nat.testBit_div_two,ed,h2,Nat.testBit_div_two,Nat.testBit_div_two]
theorem kS {a b:Nat} (h:∀ x,a.testBit x = true -> x < 300):∃ (m:Nat) (xs:List Nat),Builtin.bitAnd (a:Int) (Builtin.bitNot (b:Int)) = (m:Int) /\ Bits m xs /\ (∀ x ∈ xs,x < 300 /\ a.testBit x = true) /\ ∀ x,a.testBit x = true -> x ∈ xs \/ b.testBit x = true:=by
 obtain ⟨d,h1,h2⟩:=sub_mask a a b (Nat.le_refl _)
 have hd:∀ x,d.testBit x = true -> a.testBit x = true:=fun x hx => by
   rw [h2,Bool.and_eq_true] at hx
   exact hx.1
 refine ⟨d,(List.range 300).filter fun x => d.testBit x,?_,⟨List.Pairwise.filter _ List.pairwise_lt_range,fun i => ?_⟩,fun x hx => ?_,fun x hx => ?_⟩
 · unfold Builtin.bitAnd
   rw [not_not,decide_eq_true (show (0:Int) <= (a:Int) by omega),decide_eq_false (show ¬ (0:Int) <= Builtin.bitNot (b:Int) by unfold Builtin.bitNot; omega)]
   show (a:Int) - (((a:Int).toNat &&& (b:Int).toNat:Nat):Int) = _
   rw [Int.toNat_natCast,Int.toNat_natCast]
   omega
 · rw [Bool.eq_iff_iff, decide_eq_true_eq, List.mem_filter, List.mem_range]
   exact ⟨fun z => ⟨h _ (hd _ z),z⟩,fun z => z.2⟩
 · obtain ⟨h3, h4⟩ := List.mem_filter.mp hx
   exact ⟨List.mem_range.mp h3,hd _ h4⟩
 · cases hb : b.testBit x with
   | true => exact .inr rfl
   | false =>
     left
     rw [List.mem_filter,List.mem_range]
     exact ⟨h x hx,by rw [h2,hx,hb]; rfl⟩
theorem GrAt.out {C:Addr} {H:Hp} {g:GAd} {rows:List Rw} {rules:List yA} {ls:List Ln} (h:GrAt C H g rows rules ls) {p:Addr} (hp:H p = none):kG g p:=by
 obtain ⟨ws,h2,_⟩:=h.lin
 obtain ⟨as,h5,_⟩:=h.abv
 obtain ⟨bs,h7,_⟩:=h.blw
 have go:∀ {a:Addr} {o:HO},H a = some o -> p ≠ a:=fun ha z => by rw [z,ha] at hp; cases hp
 exact ⟨go h2,go h.plc,go h5,go h7⟩
def RTurn (_rows:List Rw) (_ls L:List Ln) (i j:Nat):Prop:=zU L ((tnN j:Nat):Int) ((tnN i:Nat):Int) = true
def RChain (_rows:List Rw) (ls L:List Ln) (i j:Nat):Prop:=(∀ m:Nat,zU ls j m = true -> zU L i m = true) /\ ∀ h:Nat,zU ls h i = true -> zU L h j = true
def RClash (rows:List Rw) (_ls L:List Ln) (i j:Nat):Prop:=(j:Int) = tn1 i -> ∀ n:Nat,n < 2 * rows.length -> zU L i n = true
def RBoth (H:Hp) (us:List V) (ls L:List Ln) (i:Nat):Prop:=∀ (t:Addr) (m:Nat) (a b:Int),V.ref t ∈ us -> H t = some (.tup [.int (2 * (m:Int)),.int a,.int b]) -> zU ls i a = true -> zU ls i b = true -> zU L i ((2 * m:Nat):Int) = true
def kK (R:List Rw -> List Ln -> List Ln -> Nat -> Nat -> Prop) (C:Addr):Sp:=fun vs H Q _ => ∃ (g:GAd) (rows:List Rw) (rules:List yA) (ls:List Ln) (i j:Nat),vs = [.ref g.r,.int i,.int j] /\ GrAt C H g rows rules ls /\ rows.length <= 100 /\ zU ls i j = true /\ ∀ H',GrH C H g rows rules ls (fun L => R rows ls L i j) H' -> Q .non H'
def spGB (C:Addr):Sp:=fun vs H Q _ => ∃ (g:GAd) (rows:List Rw) (rules:List yA) (ls:List Ln) (i:Nat) (q:Addr) (us:List V),vs = [.ref g.r,.int i,.ref q] /\ GrAt C H g rows rules ls /\ rows.length <= 100 /\ i < 2 * rows.length /\ H q = some (.lst us) /\ kG g q /\ (∀ v ∈ us,Tri rows H v) /\ RowsIn rows /\ ∀ H',GrH C H g rows rules ls (fun L => RBoth H us ls L i) H' -> Q .non H'
section
variable {P:Program} {w:World} {K:PySem.W.Frag} {mg:Str -> Option Value} {base:Heap} {f:Addr} {fd:FuncData}
theorem ok_turn {C:Addr} (T:GrC K C) (h_b:HasM P w K mg base 1 C "line_of" ["self","i","j"] (spLo C)) (h_d:HasM P w K mg base 2 C "grow" ["self","i","j","why"] (wZ C)) (F:Fun K "grow_by_turn" "grow_by_turn" s_m f fd):FnOk P w K mg base CX0 3 f fd ["growth","i","j"] (kK RTurn C):=by
 refine F.ok sc_m (fun vs H Q E h => ?_) (fun cdv A outer s H vs Q E hr h => ?_)
 · obtain ⟨g, rows, rules, ls, i, j, rfl, _⟩ := h
   rfl
 obtain ⟨g,rows,rules,ls,i,j,rfl,hg,h100,hh,q⟩:=h
 have cl_Growth:=T.cl
 have lk:(grF g).lookup ("grow" : Str) = none:=jR g (by decide +kernel) (by decide +kernel) (by decide +kernel) (by decide +kernel)
 have lk2:(grF g).lookup ("line_of" : Str) = none:=jR g (by decide +kernel) (by decide +kernel) (by decide +kernel) (by decide +kernel)
 obtain ⟨dx,hins⟩:=hg.ins
 refine ⟨_,(zE (yG (yC h_d cl_Growth (hr.mono (by omega)) (pv 0) (zA (zO op_xor (pv 2) zB) (zA (zO op_xor (pv 1) zB) (zA (zX (zA yB (zA (yC h_b cl_Growth (hr.mono (by omega)) (pv 0) (zA (pv 1) (zA (pv 2) pa_nil))) pa_nil))) pa_nil)))))),?_⟩
 simp! [xK]
 obtain ⟨hi,hj⟩:=hg.ok.rng hh
 refine ⟨_,_,hins,lk,_,_,hins,lk2,g,rows,rules,ls,i,j,rfl,hg,hh,fun p l H1 s1 hl h1 h2 => ⟨small (by decide),fun p1 hp1 => ?_⟩⟩
 rw [xor1,xor1,ZG,ZG]
 exact uM (t:=[]) (Same.g s1) (by rw [List.append_nil]; exact hg.same s1) h100 (zF hp1 _) why_one (by rw [List.append_nil]; exact st_turn hi hj hl h1 h2) ow_one (fun L e h => h) fun _ H3 g3 => q _ g3
theorem ok_chain {C:Addr} (T:GrC K C) (bi:Bi mg) (h_C:Has P w K mg base 1 "bits_of" ["mask"] spBits) (h_b:HasM P w K mg base 1 C "line_of" ["self","i","j"] (spLo C)) (h_d:HasM P w K mg base 2 C "grow" ["self","i","j","why"] (wZ C)) (F:Fun K "grow_by_chain" "grow_by_chain" s_g f fd):FnOk P w K mg base CX0 3 f fd ["growth","i","j"] (kK RChain C):=by
 refine F.ok sc_g (fun vs H Q E h => ?_) (fun cdv A outer s H vs Q E hr h => ?_)
 · obtain ⟨g, rows, rules, ls, i, j, rfl, _⟩ := h
   rfl
 obtain ⟨g,rows,rules,ls,i,j,rfl,hg,h100,hh,q⟩:=h
 have cl_Growth:=T.cl
 have lk:(grF g).lookup ("grow" : Str) = none:=jR g (by decide +kernel) (by decide +kernel) (by decide +kernel) (by decide +kernel)
 have lk2:(grF g).lookup ("line_of" : Str) = none:=jR g (by decide +kernel) (by decide +kernel) (by decide +kernel) (by decide +kernel)
 obtain ⟨dx,hins⟩:=hg.ins
 refine ⟨_,(zD (zP (i:=3) sc_g.nd rfl (Or.inl rfl) (yC h_b cl_Growth (hr.mono (by omega)) (pv 0) (zA (pv 1) (zA (pv 2) pa_nil)))) (zD (yR PassesOwn.never rfl (xD (zR h_C (hr.mono (by omega)) rfl (zA (zO op_and (zI ix_list (xF (pv 0) rfl) (pv 2) (fun _ _ => rfl)) (uV un_inv (zI ix_list (xF (pv 0) rfl) (pv 1) (fun _ _ => rfl)))) pa_nil))) (zM (i:=4) sc_g.nd rfl (Or.inl rfl)) (zE (yG (yC h_d cl_Growth (hr.mono (by omega)) (pv 0) (zA (pv 1) (zA (pv 4) (zA (zX (zA yB (zA (pv 3) (zA (yC h_b cl_Growth (hr.mono (by omega)) (pv 0) (zA (pv 2) (zA (pv 4) pa_nil))) pa_nil)))) pa_nil))))))) (zE (yR PassesOwn.never rfl (xD (zR h_C (hr.mono (by omega)) rfl (zA (zO op_and (zI ix_list (xF (pv 0) rfl) (pv 1) (fun _ _ => rfl)) (uV un_inv (zI ix_list (xF (pv 0) rfl) (pv 2) (fun _ _ => rfl)))) pa_nil))) (zM (i:=5) sc_g.nd rfl (Or.inl rfl)) (zE (yG (yC h_d cl_Growth (hr.mono (by omega)) (pv 0) (zA (pv 5) (zA (pv 2) (zA (zX (zA yB (zA (yC h_b cl_Growth (hr.mono (by omega)) (pv 0) (zA (pv 5) (zA (pv 1) pa_nil))) (zA (pv 3) pa_nil)))) pa_nil)))))))))),?_⟩
 refine zJ fun N hN => ?_
 simp! [xK]
 obtain ⟨hi,hj⟩:=hg.ok.rng hh
 refine ⟨_,_,hins,lk2,g,rows,rules,ls,i,j,rfl,hg,hh,fun p l H1 s1 hl h1 h2 => hN _ _ ?_⟩
 clear hN
 refine yE (fun σ H' => ∃ (o1 o2:Option V),GrH C H g rows rules ls (fun L => ∀ m:Nat,zU ls j m = true -> zU L i m = true) H' /\ σ = [some (V.ref g.r),some (V.int i),some (V.int j),some (V.int p),o1,o2]) (fun N hN => ?_) (fun σ H' h => ?_)
 · simp! [xK, uN]
   have hg1:=hg.same s1
   obtain ⟨dx,hins⟩:=hg1.ins
   obtain ⟨as,hab,hmk⟩:=hg1.abv
   have hil:i < as.length:=by rw [hmk.len]; exact hi
   have hjl:j < as.length:=by rw [hmk.len]; exact hj
   have hbit:=hmk.bit j as[j] (List.getElem?_eq_getElem hjl)
   have hbx:∀ x,as[j].testBit x = true -> x < 2 * rows.length:=fun x hx => (hg.ok.rng (i:=j) (by rw [← hbit x]; exact hx)).2
   obtain ⟨m,xs,em,hbm,hxs,hxa⟩:=kS (b:=as[i]) fun x hx => Nat.lt_of_lt_of_le (hbx x hx) (by omega)
   have hat:∀ {k:Nat} (hk:k < as.length),atI (as.map nV) (k:Int) = some (V.int ((as[k]:Nat):Int)):=fun {k} hk => zZ (by rw [List.getElem?_map,List.getElem?_eq_getElem hk]; rfl)
   refine ⟨_,_,_,hins,T.cl,T.nA,_,gr_a g,_,rfl,_,SqL.of hab,_,hat hjl,_,_,_,hins,T.cl,T.nA,_,gr_a g,_,rfl,_,SqL.of hab,_,hat hil,_,rfl,_,rfl,?_⟩
   rw [em]
   refine ⟨m,xs,rfl,hbm,fun x hx => (hxs x hx).1,fun pb H2 s2 hpb0 hpb => ?_⟩
   have ho:kG g pb:=hg1.out hpb0
   replace s1:=s1.trans s2
   have hg2:=hg.same s1
   refine ⟨_,rfl,⟨_,SqL.of hpb⟩,?_⟩
   refine xX (xs:=xs.map nV) (fun k σ H' => ∃ (o1 o2:Option V),GrH C H2 g rows rules ls (fun L => ∀ x ∈ xs.take k,zU L i x = true) H' /\ σ = [some (V.ref g.r),some (V.int i),some (V.int j),some (V.int p),o1,o2]) ⟨_,_,GrH.refl hg2 (fun x z => by cases z),rfl⟩ (fun k σ H' _ h => ?_) (fun k x σ H' hx h => ?_) (fun σ H' h => ?_)
   · obtain ⟨_, _, h, _⟩ := h
     exact SqL.of (h.to.1.out ho hpb)
   · obtain ⟨o1, o2, ⟨gs, t, gt, hP⟩, rfl⟩ := h
     rw [List.getElem?_map] at hx
     obtain ⟨x',hx',rfl⟩:=Option.map_eq_some_iff.mp hx
     obtain ⟨_,hx2⟩:=hxs x' (List.mem_of_getElem? hx')
     have hjx:zU ls j x' = true:=by rw [← hbit x']; exact hx2
     have hx3:=hbx x' hx2
     obtain ⟨dx,hins⟩:=gt.ins
     simp! [xK]
     refine ⟨_,_,hins,lk,_,_,hins,lk2,g,rows,rules,_,j,x',rfl,gt,zV hjx,fun p' l' H4 s4 hl' h1' h2' => ⟨small (by decide),fun p1 hp1 => ?_⟩⟩
     refine uM (gs.trans (Same.g s4)) (gt.same s4) h100 (zF hp1 _) ZE (st_chain hi hx3 (by rw [List.getElem?_append_left (List.getElem?_eq_some_iff.mp hl).1]; exact hl) h1 h2 hl' h1' h2') ow_two (fun L e h x hx9 => ?_) fun _ H3 g3 => ⟨g3,_,rfl⟩
     obtain ⟨hkl,hke⟩:=List.getElem?_eq_some_iff.mp hx'
     rw [List.take_succ_eq_append_getElem hkl,hke] at hx9
     rcases List.mem_append.mp hx9 with hx9 | hx9
     · exact e.has (hP x hx9)
     · rw [List.mem_singleton.mp hx9]; exact h
   · obtain ⟨o1, o2, h, rfl⟩ := h
     obtain ⟨h1',t,h2',h3'⟩:=h
     rw [List.length_map,List.take_of_length_le (Nat.le_refl _)] at h3'
     refine hN _ _ ⟨_,_,GrH.pre s1 ⟨h1',t,h2',fun m hm => ?_⟩,rfl⟩
     rw [← hbit m] at hm
     rcases hxa m hm with z | z
     · exact h3' m z
     · rw [hmk.bit i as[i] (List.getElem?_eq_getElem hil)] at z
       exact zV z
 obtain ⟨o1,o2,⟨gs,t,gt,hP1⟩,rfl⟩:=h
 have hl0:(ls ++ t)[p]? = some l:=by rw [List.getElem?_append_left (List.getElem?_eq_some_iff.mp hl).1]; exact hl
 have hh0:zU (ls ++ t) i j = true:=zV hh
 simp! [xK,uN]
 obtain ⟨dx,hins⟩:=gt.ins
 obtain ⟨as,hab,hmk⟩:=gt.blw
 have hil:i < as.length:=by rw [hmk.len]; exact hi
 have hjl:j < as.length:=by rw [hmk.len]; exact hj
 have hbit:=hmk.bit i as[i] (List.getElem?_eq_getElem hil)
 have hbx:∀ x,as[i].testBit x = true -> x < 2 * rows.length:=fun x hx => (gt.ok.rng (j:=i) (by rw [← hbit x]; exact hx)).1
 obtain ⟨m,xs,em,hbm,hxs,hxa⟩:=kS (b:=as[j]) fun x hx => Nat.lt_of_lt_of_le (hbx x hx) (by omega)
 have hat:∀ {k:Nat} (hk:k < as.length),atI (as.map nV) (k:Int) = some (V.int ((as[k]:Nat):Int)):=fun {k} hk => zZ (by rw [List.getElem?_map,List.getElem?_eq_getElem hk]; rfl)
 refine ⟨_,_,_,hins,T.cl,T.nB,_,gr_b g,_,rfl,_,SqL.of hab,_,hat hil,_,_,_,hins,T.cl,T.nB,_,gr_b g,_,rfl,_,SqL.of hab,_,hat hjl,_,rfl,_,rfl,?_⟩
 rw [em]
 refine ⟨m,xs,rfl,hbm,fun x hx => (hxs x hx).1,fun pb H2 s2 hpb0 hpb => ?_⟩
 have ho:kG g pb:=gt.out hpb0
 have hg2:=gt.same s2
 replace gs:=gs.trans (Same.g s2)
 refine ⟨_,rfl,⟨_,SqL.of hpb⟩,?_⟩
 refine xX (xs:=xs.map nV) (fun k σ H' => ∃ (o1 o2:Option V),GrH C H2 g rows rules (ls ++ t) (fun L => ∀ x ∈ xs.take k,zU L x j = true) H' /\ σ = [some (V.ref g.r),some (V.int i),some (V.int j),some (V.int p),o1,o2]) ⟨_,_,GrH.refl hg2 (fun x z => by cases z),rfl⟩ (fun k σ H' _ h => ?_) (fun k x σ H' hx h => ?_) (fun σ H' h => ?_)
 · obtain ⟨_, _, h, _⟩ := h
   exact SqL.of (h.to.1.out ho hpb)
 · obtain ⟨o1, o2, ⟨gs', t', gt', hP⟩, rfl⟩ := h
   rw [List.getElem?_map] at hx
   obtain ⟨x',hx',rfl⟩:=Option.map_eq_some_iff.mp hx
   obtain ⟨_,hx2⟩:=hxs x' (List.mem_of_getElem? hx')
   have hjx:zU (ls ++ t) x' i = true:=by rw [← hbit x']; exact hx2
   have hx3:=hbx x' hx2
   obtain ⟨dx,hins⟩:=gt'.ins
   simp! [xK]
   refine ⟨_,_,hins,lk,_,_,hins,lk2,g,rows,rules,_,x',i,rfl,gt',zV hjx,fun p' l' H4 s4 hl' h1' h2' => ⟨small (by decide),fun p1 hp1 => ?_⟩⟩
   refine uM (gs'.trans (Same.g s4)) (gt'.same s4) h100 (zF hp1 _) ZE (st_chain hx3 hj hl' h1' h2' (by rw [List.getElem?_append_left (List.getElem?_eq_some_iff.mp hl0).1]; exact hl0) h1 h2) ow_two (fun L e h x hx9 => ?_) fun _ H3 g3 => ⟨g3,_,rfl⟩
   obtain ⟨hkl,hke⟩:=List.getElem?_eq_some_iff.mp hx'
   rw [List.take_succ_eq_append_getElem hkl,hke] at hx9
   rcases List.mem_append.mp hx9 with hx9 | hx9
   · exact e.has (hP x hx9)
   · rw [List.mem_singleton.mp hx9]; exact h
 · obtain ⟨o1, o2, h, rfl⟩ := h
   refine q _ (GrH.then gs h fun L e hL => ⟨fun m hm => e.has (hP1 m hm),fun h0 hh0 => ?_⟩)
   rw [List.length_map,List.take_of_length_le (Nat.le_refl _)] at hL
   have hm:as[i].testBit h0 = true:=by rw [hbit h0]; exact zV hh0
   rcases hxa h0 hm with z | z
   · exact hL h0 z
   · rw [hmk.bit j as[j] (List.getElem?_eq_getElem hjl)] at z
     exact e.has z
theorem ok_both {C:Addr} (T:GrC K C) (h_b:HasM P w K mg base 1 C "line_of" ["self","i","j"] (spLo C)) (h_n:HasM P w K mg base 1 C "has" ["self","i","j"] (spHs C)) (h_d:HasM P w K mg base 2 C "grow" ["self","i","j","why"] (wZ C)) (F:Fun K "grow_by_both" "grow_by_both" s_j f fd):FnOk P w K mg base CX0 3 f fd ["growth","i","boths"] (spGB C):=by
 refine F.ok sc_j (fun vs H Q E h => ?_) (fun cdv A outer s H vs Q E hr h => ?_)
 · obtain ⟨g, rows, rules, ls, i, qa, us, rfl, _⟩ := h
   rfl
 obtain ⟨g,rows,rules,ls,i,qa,us,rfl,hg,h100,hi,hqa,hout,htr,hin,q⟩:=h
 have cl_Growth:=T.cl
 have lk:(grF g).lookup ("grow" : Str) = none:=jR g (by decide +kernel) (by decide +kernel) (by decide +kernel) (by decide +kernel)
 have lk2:(grF g).lookup ("line_of" : Str) = none:=jR g (by decide +kernel) (by decide +kernel) (by decide +kernel) (by decide +kernel)
 have lk3:(grF g).lookup ("has" : Str) = none:=jR g (by decide +kernel) (by decide +kernel) (by decide +kernel) (by decide +kernel)
 refine ⟨_,(zE (yR PassesOwn.never rfl (xD (pv 2)) (uG rfl (yL (zM (i:=3) sc_j.nd rfl (Or.inl rfl)) (yL (zM (i:=4) sc_j.nd rfl (Or.inl rfl)) (yL (zM (i:=5) sc_j.nd rfl (Or.inl rfl)) pgs_nil)))) (zE (yI (PW.pt (jB (xC (yC h_n cl_Growth (hr.mono (by omega)) (pv 0) (zA (pv 1) (zA (pv 4) pa_nil)))) (jN (xC (yC h_n cl_Growth (hr.mono (by omega)) (pv 0) (zA (pv 1) (zA (pv 5) pa_nil))))))) (zE (yG (yC h_d cl_Growth (hr.mono (by omega)) (pv 0) (zA (pv 1) (zA (pv 3) (zA (zX (zA yB (zA (yC h_b cl_Growth (hr.mono (by omega)) (pv 0) (zA (pv 1) (zA (pv 4) pa_nil))) (zA (yC h_b cl_Growth (hr.mono (by omega)) (pv 0) (zA (pv 1) (zA (pv 5) pa_nil))) pa_nil)))) pa_nil)))))) pss_nil)))),?_⟩
 simp! [xK]
 refine ⟨⟨_,SqL.of hqa⟩,?_⟩
 refine xX (xs:=us) (fun k σ H' => ∃ (o1 o2 o3:Option V),GrH C H g rows rules ls (fun L => RBoth H (us.take k) ls L i) H' /\ σ = [some (V.ref g.r),some (V.int i),some (V.ref qa),o1,o2,o3]) ⟨_,_,_,GrH.refl hg (fun t m a b z => by cases z),rfl⟩ (fun k σ H' _ h => ?_) (fun k x σ H' hx h => ?_) (fun σ H' h => ?_)
 · obtain ⟨_, _, _, h, _⟩ := h
   exact SqL.of (h.to.1.out hout hqa)
 · obtain ⟨o1, o2, o3, hgt, rfl⟩ := h
   obtain ⟨xa,k',a,b,rfl,hxa,hrk⟩:=htr x (List.mem_of_getElem? hx)
   obtain ⟨⟨b1,b2⟩,b3,b4⟩:=hin k' a b hrk
   have hxa':=hg.tups hgt.to.1 _ _ hxa
   simp! [wT,uE,gNil,xK]
   obtain ⟨gs,t,gt,hP⟩:=hgt
   have nxt:∀ {L:List Ln},Le (ls ++ t) L -> (zU ls i a = true -> zU ls i b = true -> zU L i ((2 * k':Nat):Int) = true) -> RBoth H (us.take (k + 1)) ls L i:=fun {L} e hL t0 m a0 b0 hm ht0 ha0 hb0 => by
     obtain ⟨hkl,hke⟩:=List.getElem?_eq_some_iff.mp hx
     rw [List.take_succ_eq_append_getElem hkl,hke] at hm
     rcases List.mem_append.mp hm with hm | hm
     · exact e.has (hP t0 m a0 b0 hm ht0 ha0 hb0)
     · have e1 := V.ref.inj (List.mem_singleton.mp hm)
       subst e1
       rw [hxa] at ht0
       have e2:=HO.tup.inj (Option.some.inj ht0)
       injection e2 with e3 e4
       injection e4 with e5 e6
       injection e6 with e7 _
       have e3:=V.int.inj e3
       have e5:=V.int.inj e5
       have e7:=V.int.inj e7
       subst e5 e7
       rw [show m = k' by omega]
       exact hL ha0 hb0
   obtain ⟨dx,hins⟩:=gt.ins
   refine ⟨_,SqT.of hxa',rfl,_,_,rfl,_,_,rfl,_,_,rfl,rfl,_,_,hins,lk3,g,rows,rules,_,i,a,rfl,gt,fun H1 s1 => ⟨_,rfl,?_⟩⟩
   have ge1:zU (ls ++ t) i a = false -> GrH C H g rows rules ls (fun L => RBoth H (us.take (k + 1)) ls L i) H1:=fun z => ⟨gs.trans (Same.g s1),t,gt.same s1,nxt (Le.refl _) (fun ha _ => by rw [zV ha] at z; cases z)⟩
   by_cases c1:zU (ls ++ t) i a = true
   · rw [if_pos c1]
     replace gs:=gs.trans (Same.g s1)
     replace gt:=gt.same s1
     obtain ⟨dx,hins⟩:=gt.ins
     refine ⟨_,_,hins,lk3,g,rows,rules,_,i,b,rfl,gt,fun H2 s2 => ⟨_,rfl,?_⟩⟩
     replace gs:=gs.trans (Same.g s2)
     replace gt:=gt.same s2
     by_cases c2:zU (ls ++ t) i b = true
     · rw [if_pos c2]
       obtain ⟨dx,hins⟩:=gt.ins
       have hk1:k' < rows.length:=(List.getElem?_eq_some_iff.mp hrk).1
       have e2:(2:Int) * (k':Int) = ((2 * k':Nat):Int):=by omega
       have hpt:jO rows ((2 * k':Nat):Int) = [a,b]:=xW (r:=.bo a b) (by omega) (by rw [show (((2 * k':Nat):Int) / 2).toNat = k' by omega]; exact hrk)
       refine ⟨_,_,hins,lk,_,_,hins,lk2,g,rows,rules,_,i,a,rfl,gt,c1,fun p l H3 s3 hl h1 h2 => ?_⟩
       replace gs:=gs.trans (Same.g s3)
       replace gt:=gt.same s3
       obtain ⟨dx,hins⟩:=gt.ins
       refine ⟨_,_,hins,lk2,g,rows,rules,_,i,b,rfl,gt,c2,fun p' l' H4 s4 hl' h1' h2' => ⟨small (by decide),fun p1 hp1 => ?_⟩⟩
       rw [e2]
       exact uM (gs.trans (Same.g s4)) (gt.same s4) h100 (zF hp1 _) ZE (st_both hi (by omega) hpt hl h1 h2 hl' h1' h2') ow_two (fun L e h => nxt e fun _ _ => h) fun _ H3 g3 => ⟨g3,_,rfl⟩
     · rw [if_neg c2]
       exact ⟨⟨gs,t,gt,nxt (Le.refl _) (fun _ hb => absurd (zV hb) c2)⟩,_,rfl⟩
   · rw [if_neg c1]
     exact ⟨ge1 (Bool.eq_false_iff.mpr c1),_,rfl⟩
 · obtain ⟨_, _, _, h, rfl⟩ := h
   rw [List.take_of_length_le (Nat.le_refl _)] at h
   exact q _ h
theorem ok_clash {C:Addr} (T:GrC K C) (bi:Bi mg) (h_b:HasM P w K mg base 1 C "line_of" ["self","i","j"] (spLo C)) (h_d:HasM P w K mg base 2 C "grow" ["self","i","j","why"] (wZ C)) (F:Fun K "grow_by_clash" "grow_by_clash" s_h f fd):FnOk P w K mg base CX0 3 f fd ["growth","i","j"] (kK RClash C):=by
 refine F.ok sc_h (fun vs H Q E h => ?_) (fun cdv A outer s H vs Q E hr h => ?_)
 · obtain ⟨g, rows, rules, ls, i, j, rfl, _⟩ := h
   rfl
 obtain ⟨g,rows,rules,ls,i,j,rfl,hg,h100,hh,q⟩:=h
 have cl_Growth:=T.cl
 have lk:(grF g).lookup ("grow" : Str) = none:=jR g (by decide +kernel) (by decide +kernel) (by decide +kernel) (by decide +kernel)
 have lk2:(grF g).lookup ("line_of" : Str) = none:=jR g (by decide +kernel) (by decide +kernel) (by decide +kernel) (by decide +kernel)
 obtain ⟨dx,hins⟩:=hg.ins
 refine ⟨_,(zE (yI (zN op_eq (pv 2) (zO op_xor (pv 1) zB) (zL _)) (zE (yR PassesOwn.never rfl (xH rfl bi.range (zA (zK call_len rfl bi.len bt_len (zA (xF (pv 0) rfl) pa_nil)) pa_nil)) (zM (i:=3) sc_h.nd rfl (Or.inl rfl)) (zE (yG (yC h_d cl_Growth (hr.mono (by omega)) (pv 0) (zA (pv 1) (zA (pv 3) (zA (zX (zA yB (zA (yC h_b cl_Growth (hr.mono (by omega)) (pv 0) (zA (pv 1) (zA (pv 2) pa_nil))) pa_nil))) pa_nil)))))))) pss_nil)),?_⟩
 simp! [xK,uN]
 refine ⟨rfl,?_⟩
 obtain ⟨hi,hj⟩:=hg.ok.rng hh
 by_cases e:(j:Int) = Builtin.bitXor (i:Int) 1
 · rw [if_pos e]
   rw [xor1] at e
   obtain ⟨as,hab,hmk⟩:=hg.abv
   refine ⟨_,_,_,hins,T.cl,T.nA,_,gr_a g,as.length,.inl ⟨_,SqL.of hab,by simp⟩,by omega,by have:=hmk.len; omega,?_⟩
   refine xS (n:=(as.length:Int).toNat) (fun k σ H' => ∃ (o1:Option V),GrH C H g rows rules ls (fun L => ∀ n:Nat,n < k -> zU L i n = true) H' /\ σ = [some (V.ref g.r),some (V.int i),some (V.int j),o1]) ⟨_,GrH.refl hg (fun n z => by omega),rfl⟩ (fun k σ H' hk h => ?_) (fun σ H' h => ?_)
   · obtain ⟨o1, ⟨gs, t, gt, hP⟩, rfl⟩ := h
     have hk':k < 2 * rows.length:=by have:=hmk.len; omega
     have e0:(0:Int) + (k:Int) = ((k:Nat):Int):=by omega
     obtain ⟨dx,hins⟩:=gt.ins
     simp! [xK]
     rw [e0]
     refine ⟨_,_,hins,lk,_,_,hins,lk2,g,rows,rules,_,i,j,rfl,gt,zV hh,fun p l H1 s1 hl h1 h2 => ⟨small (by decide),fun p1 hp1 => ?_⟩⟩
     refine uM (gs.trans (Same.g s1)) (gt.same s1) h100 (zF hp1 _) why_one (st_clash hi hk' e hl h1 h2) ow_one (fun L e h n hn => ?_) fun _ H3 g3 => ⟨g3,_,rfl⟩
     rcases Nat.lt_or_eq_of_le (Nat.le_of_lt_succ hn) with z | z
     · exact e.has (hP n z)
     · rw [z]; exact h
   · obtain ⟨_, ⟨h1, t, h2, h3⟩, rfl⟩ := h
     exact q _ ⟨h1,t,h2,fun _ n hn => h3 n (by have:=hmk.len; omega)⟩
 · rw [if_neg e]
   exact q _ (GrH.refl hg fun z => absurd (by rw [xor1]; exact z) e)
end
abbrev s_i:Stmt:=top 20
theorem sc_i:FnScope ["growth","rules","r","premises","pair","lines"] ["growth","rules","r"] (zG s_i):=⟨rfl,rfl,rfl,by decide +kernel,rfl,by decide +kernel,by decide +kernel⟩
theorem st_rule {rows:List Rw} {rules:List yA} {ls:List Ln} {i j r:Nat} {q:yA} {ps:List Int} (hi:i < 2 * rows.length) (hj:j < 2 * rows.length) (hr:rules[r]? = some q) (hq:q.2 = ((i:Int),(j:Int))) (hp:(ps.map fun p => yF ls ls.length (.n p)) = q.1.map some):yO rows rules ls ls.length ⟨i,j,"rule",[.n r,.ps ps]⟩ = true:=by
 have hrl:=(List.getElem?_eq_some_iff.mp hr).1
 unfold yO
 rw [if_neg (by
   intro z
   rcases z with z | z
   · exact z ⟨by show (0:Int) <= (i:Int); omega,by show (i:Int) < _; omega⟩
   · exact z ⟨by show (0:Int) <= (j:Int); omega,by show (j:Int) < _; omega⟩),if_pos rfl,rul_eq rfl,if_pos ⟨by omega,by omega⟩,Int.toNat_natCast,hr]
 show (((i:Int),(j:Int)) == q.2 && _ == _) = true
 rw [hq,hp,Bool.and_eq_true]
 exact ⟨beq_self_eq_true _,beq_self_eq_true _⟩
def InR (rows:List Rw) (q:yA):Prop:=(0 <= q.2.1 /\ q.2.1 < 2 * (rows.length:Int)) /\ (0 <= q.2.2 /\ q.2.2 < 2 * (rows.length:Int))
def RRule (rows:List Rw) (rules:List yA) (ls L:List Ln) (r:Nat):Prop:=∀ q:yA,rules[r]? = some q -> InR rows q -> (∀ p ∈ q.1,zU ls p.1 p.2 = true) -> zU L q.2.1 q.2.2 = true
def spGR (C:Addr):Sp:=fun vs H Q _ => ∃ (g:GAd) (rows:List Rw) (rules:List yA) (ls:List Ln) (ra:Addr) (us:List V) (r:Nat),vs = [.ref g.r,.ref ra,.int r] /\ GrAt C H g rows rules ls /\ rows.length <= 100 /\ H ra = some (.lst us) /\ DAts H (rules.map dNR) us /\ r < rules.length /\ (∀ r ∈ rules,r.1.length <= 100) /\ ∀ H',GrH C H g rows rules ls (fun L => RRule rows rules ls L r) H' -> Q .non H'
section
variable {P:Program} {w:World} {K:PySem.W.Frag} {mg:Str -> Option Value} {base:Heap} {f:Addr} {fd:FuncData}
theorem ok_rule {C:Addr} (T:GrC K C) (bi:Bi mg) (h_B:Has P w K mg base 2 "is_below" ["n","bound"] spBel) (h_b:HasM P w K mg base 1 C "line_of" ["self","i","j"] (spLo C)) (h_n:HasM P w K mg base 1 C "has" ["self","i","j"] (spHs C)) (h_d:HasM P w K mg base 2 C "grow" ["self","i","j","why"] (wZ C)) (F:Fun K "grow_by_rule" "grow_by_rule" s_i f fd):FnOk P w K mg base CX0 3 f fd ["growth","rules","r"] (spGR C):=by
 refine F.ok sc_i (fun vs H Q E h => ?_) (fun cdv A outer s H vs Q E hr h => ?_)
 · obtain ⟨g, rows, rules, ls, ra, us, r, rfl, _⟩ := h
   rfl
 obtain ⟨g,rows,rules,ls,ra,us,r,rfl,hg,h100,hra,hru,hrl,hpr,q⟩:=h
 have hul:=yK hru
 have cl_Growth:=T.cl
 have lk:(grF g).lookup ("grow" : Str) = none:=jR g (by decide +kernel) (by decide +kernel) (by decide +kernel) (by decide +kernel)
 have lk2:(grF g).lookup ("line_of" : Str) = none:=jR g (by decide +kernel) (by decide +kernel) (by decide +kernel) (by decide +kernel)
 have lk3:(grF g).lookup ("has" : Str) = none:=jR g (by decide +kernel) (by decide +kernel) (by decide +kernel) (by decide +kernel)
 obtain ⟨dx,hins⟩:=hg.ins
 have hr1:rules[r]? = some rules[r]:=List.getElem?_eq_getElem hrl
 have hq1:=hpr _ (List.getElem_mem hrl)
 generalize rules[r] = nr at hr1 hq1
 obtain ⟨rv,hrv,hrd⟩:=DAts.get (d:=dNR nr) hru (by rw [List.getElem?_map,hr1]; rfl)
 obtain ⟨xa,xl,xb,ps,rfl,hxa,hxl,hps,hxb⟩:=nrAt hrd
 have hpl:=yK hps
 refine ⟨_,(zD (zP (i:=3) sc_i.nd rfl (Or.inl rfl) (zI ix_tup (zI ix_list (pv 1) (pv 2) (fun _ _ => rfl)) zB (fun _ _ => rfl))) (zD (zP (i:=4) sc_i.nd rfl (Or.inl rfl) (zI ix_tup (zI ix_list (pv 1) (pv 2) (fun _ _ => rfl)) zB (fun _ _ => rfl))) (zD (yI (jC (xC (zK call_all rfl bi.all bt_all (zA (xV ["n"] ["growth"] [0] (vD (pv 4)) (fun _ _ _ _ nd => zM (i:=0) nd rfl (Or.inl rfl)) (fun _ _ _ _ => xR) (fun _ _ _ _ => (zR h_B (hr.mono (by omega)) rfl (zA (pv 0) (zA (zK (call_lenK K) rfl bi.len bt_len (zA (pe_fldK K (pv 1) rfl) pa_nil)) pa_nil))))) pa_nil)))) (zE ps_retN) pss_nil) (zE (yI (xC (zK call_all rfl bi.all bt_all (zA (xV ["i","j"] ["growth"] [0] (xD (pv 3)) (fun _ _ _ _ nd => ZQ (K:=K) (n:=2) rfl (yL (zM (i:=0) nd rfl (Or.inl rfl)) (yL (zM (i:=1) nd rfl (Or.inl rfl)) pgs_nil))) (fun _ _ _ _ => xR) (fun _ _ _ _ => (yC h_n cl_Growth (hr.mono (by omega)) (pv 2) (zA (pv 0) (zA (pv 1) pa_nil))))) pa_nil))) (zD (zP (i:=5) sc_i.nd rfl (Or.inl rfl) (xP call_tuple_of rfl bi.tuple bt_tuple (zA (xV ["i","j"] ["growth"] [0] (xD (pv 3)) (fun _ _ _ _ nd => ZQ (K:=K) (n:=2) rfl (yL (zM (i:=0) nd rfl (Or.inl rfl)) (yL (zM (i:=1) nd rfl (Or.inl rfl)) pgs_nil))) (fun _ _ _ _ => xR) (fun _ _ _ _ => (yC h_b cl_Growth (hr.mono (by omega)) (pv 2) (zA (pv 0) (zA (pv 1) pa_nil))))) pa_nil))) (zE (yG (yC h_d cl_Growth (hr.mono (by omega)) (pv 0) (zA (zI ix_tup (pv 4) zB (fun _ _ => rfl)) (zA (zI ix_tup (pv 4) zB (fun _ _ => rfl)) (zA (zX (zA yB (zA (pv 2) (zA (pv 5) pa_nil)))) pa_nil))))))) pss_nil))))),?_⟩
 refine zJ fun N hN => ?_
 simp! []
 refine ⟨_,SqL.of hra,_,zZ hrv,xa,rfl,_,SqT.of hxa,_,at0,hN _ _ ?_⟩
 clear hN
 refine zJ fun N hN => ?_
 simp! []
 refine ⟨_,SqL.of hra,_,zZ hrv,xa,rfl,_,SqT.of hxa,_,at1,hN _ _ ?_⟩
 clear hN
 obtain ⟨as,hab,hmk⟩:=hg.abv
 have hlen:=hmk.len
 refine zJ fun N hN => ?_
 simp! []
 refine ⟨⟨_,SqT.of hxb⟩,?_⟩
 refine lc_tup (xs:=[.int nr.2.1,.int nr.2.2]) (fun i ys σ H' => Same H H' /\ ys = (([nr.2.1,nr.2.2].take i).map fun x => vA as.length (.n x)).map V.bl /\ ∃ o,σ = [o,some (V.ref g.r)]) ⟨Same.refl _,rfl,_,rfl⟩ (small (by simp)) (fun i ys σ H' e => ?_) (fun i ys σ H' e => SqT.of (e.1 _ _ hxb)) (fun i x ys σ H' D hx e hD => ?_) (fun ys σ H' e p hp => ?_)
 · obtain ⟨_, rfl, _⟩ := e
   rw [List.length_map,List.length_map,List.length_take]
   omega
 · obtain ⟨es, rfl, o, rfl⟩ := e
   have hg':=hg.same es
   obtain ⟨dx,hins⟩:=hg'.ins
   have hx':∃ n,x = V.int n /\ [nr.2.1,nr.2.2][i]? = some n:=by
     match i,hx with
     | 0,hx => cases hx; exact ⟨_,rfl,rfl⟩
     | 1,hx => cases hx; exact ⟨_,rfl,rfl⟩
   obtain ⟨n,rfl,hn⟩:=hx'
   obtain ⟨hil,hn2⟩:=List.getElem?_eq_some_iff.mp hn
   simp! [uN,spBel]
   refine ⟨C,dx,_,hins,T.cl,T.nA,_,gr_a g,as.length,.inl ⟨_,SqL.of (es _ _ hab),by simp⟩,.n n,rfl,hD _ _ _ ⟨es,?_,_,rfl⟩⟩
   rw [List.take_succ_eq_append_getElem hil,hn2,List.map_append,List.map_append]
   rfl
 obtain ⟨es,rfl,o,rfl⟩:=e
 refine ⟨p,rfl,_,SqL.of zC,?_⟩
 have s1:=es.trans (zF hp (.lst ((([nr.2.1,nr.2.2].take 2).map fun x => vA as.length (.n x)).map V.bl)))
 change (if ([vA as.length (.n nr.2.1),vA as.length (.n nr.2.2)].all id) = false then Q V.non (upd H' p (.lst ((([nr.2.1,nr.2.2].take 2).map fun x => vA as.length (.n x)).map V.bl))) else N _ (upd H' p (.lst ((([nr.2.1,nr.2.2].take 2).map fun x => vA as.length (.n x)).map V.bl))))
 generalize upd H' p (.lst ((([nr.2.1,nr.2.2].take 2).map fun x => vA as.length (.n x)).map V.bl)) = H1 at s1 ⊢
 clear hp es hins
 have hg1:=hg.same s1
 by_cases hB:(0 <= nr.2.1 /\ nr.2.1 < 2 * (rows.length:Int)) /\ (0 <= nr.2.2 /\ nr.2.2 < 2 * (rows.length:Int))
 case neg =>
   rw [if_pos]
   · exact q _ ((GrH.refl hg (fun q' hq' hr' _ => by rw [hr1] at hq'; cases hq'; exact absurd hr' hB)).same s1)
   · rw [Bool.eq_false_iff]
     intro z
     simp [vA] at z
     exact hB (by omega)
 rw [if_neg (by simp [vA]; omega)]
 refine hN _ _ ?_
 clear hN
 obtain ⟨⟨b1,b2⟩,b3,b4⟩:=hB
 obtain ⟨i,hi⟩:=Int.eq_ofNat_of_zero_le b1
 obtain ⟨j,hj⟩:=Int.eq_ofNat_of_zero_le b3
 have hps1:=DAts.same s1 hps
 have hxl1:=s1 _ _ hxl
 have hxb1:=s1 _ _ hxb
 clear hab hmk hlen
 simp! []
 refine ⟨⟨_,SqL.of hxl1⟩,?_⟩
 refine uX (xs:=ps) (fun k ys σ H' => Same H1 H' /\ ys = ((nr.1.take k).map fun x => zU ls x.1 x.2).map V.bl /\ ∃ o1 o2,σ = [o1,o2,some (V.ref g.r)]) ⟨Same.refl _,rfl,_,_,rfl⟩ (small (by omega)) (fun k ys σ H' e => ?_) (fun i ys σ H' e => SqL.of (e.1 _ _ hxl1)) (fun k x ys σ H' D hx e hD => ?_) (fun ys σ H' e p hp => ?_)
 · obtain ⟨_, rfl, _⟩ := e
   rw [List.length_map,List.length_map,List.length_take]
   omega
 · obtain ⟨es, rfl, o1, o2, rfl⟩ := e
   have hg':=hg1.same es
   obtain ⟨dx,hins⟩:=hg'.ins
   obtain ⟨pr,hpk,hpx⟩:=yW hps1 hx
   obtain ⟨xp,rfl,hxp⟩:=prAt hpx
   replace hxp:=es _ _ hxp
   obtain ⟨hkl,hk2⟩:=List.getElem?_eq_some_iff.mp hpk
   simp! [wT,uE,gNil,xK]
   refine ⟨_,SqT.of hxp,rfl,_,_,rfl,_,_,rfl,rfl,_,_,hins,lk3,g,rows,rules,ls,_,_,rfl,hg',fun H3 s3 => hD _ _ _ ⟨es.trans s3,?_,_,_,rfl⟩⟩
   rw [List.take_succ_eq_append_getElem hkl,hk2,List.map_append,List.map_append]
   rfl
 obtain ⟨es,rfl,o1,o2,rfl⟩:=e
 refine ⟨p,rfl,_,SqL.of zC,?_⟩
 rw [List.take_of_length_le (by omega)]
 have s2:=es.trans (zF hp (.lst ((nr.1.map fun x => zU ls x.1 x.2).map V.bl)))
 generalize upd H' p (.lst ((nr.1.map fun x => zU ls x.1 x.2).map V.bl)) = H2 at s2 ⊢
 clear hp es
 have hg2:=hg1.same s2
 replace hxl1:=s2 _ _ hxl1
 replace hxb1:=s2 _ _ hxb1
 replace hps1:=DAts.same s2 hps1
 by_cases hA:(nr.1.map fun x => zU ls x.1 x.2).all id = true
 case neg =>
   rw [if_neg hA]
   exact q _ ((GrH.refl hg (fun q' hq' _ hp' => absurd (by rw [hr1] at hq'; cases hq'; rw [List.all_map,List.all_eq_true]; exact fun p hp => hp' p hp) hA)).same (s1.trans s2))
 rw [if_pos hA]
 rw [List.all_map,List.all_eq_true] at hA
 refine ⟨⟨_,SqL.of hxl1⟩,?_⟩
 refine uX (xs:=ps) (fun k ys σ H' => Same H2 H' /\ (∃ ns:List Int,ys = ns.map V.int /\ ns.length = k /\ (ns.map fun p => yF ls ls.length (.n p)) = (nr.1.take k).map some) /\ ∃ o1 o2,σ = [o1,o2,some (V.ref g.r)]) ⟨Same.refl _,⟨[],rfl,rfl,rfl⟩,_,_,rfl⟩ (small (by omega)) (fun k ys σ H' e => ?_) (fun i ys σ H' e => SqL.of (e.1 _ _ hxl1)) (fun k x ys σ H' D hx e hD => ?_) (fun ys σ H' e p hp => ?_)
 · obtain ⟨_, ⟨ns, rfl, hl, _⟩, _⟩ := e
   rw [List.length_map]
   omega
 · obtain ⟨es, ⟨ns, rfl, hl, hns⟩, o1, o2, rfl⟩ := e
   have hg':=hg2.same es
   obtain ⟨dx,hins⟩:=hg'.ins
   obtain ⟨pr,hpk,hpx⟩:=yW hps1 hx
   obtain ⟨xp,rfl,hxp⟩:=prAt hpx
   replace hxp:=es _ _ hxp
   obtain ⟨hkl,hk2⟩:=List.getElem?_eq_some_iff.mp hpk
   simp! [wT,uE,gNil,xK]
   refine ⟨_,SqT.of hxp,rfl,_,_,rfl,_,_,rfl,rfl,_,_,hins,lk2,g,rows,rules,ls,_,_,rfl,hg',hA pr (List.mem_of_getElem? hpk),fun p l H3 s3 hl1 h1 h2 => hD _ _ _ ⟨es.trans s3,⟨ns ++ [(p:Int)],by rw [List.map_append]; rfl,by simp [hl],?_⟩,_,_,rfl⟩⟩
   rw [List.take_succ_eq_append_getElem hkl,hk2,List.map_append,List.map_append,hns]
   show _ ++ [yF ls ls.length (.n (p:Int))] = _
   rw [qA hl1,h1,h2]
   rfl
 obtain ⟨es,⟨ns,rfl,hl,hns⟩,o1,o2,rfl⟩:=e
 rw [List.take_of_length_le (by omega)] at hns
 refine ⟨p,rfl,_,.inl ⟨SqL.of zC,fun l hl' => ?_⟩⟩
 have s3:=(es.trans (zF hp (.lst (ns.map V.int)))).trans (zF hl' (.tup (ns.map V.int)))
 have kl:upd (upd H' p (.lst (ns.map V.int))) l (.tup (ns.map V.int)) l = some (.tup (ns.map V.int)):=zC
 generalize upd (upd H' p (.lst (ns.map V.int))) l (.tup (ns.map V.int)) = H3 at s3 kl ⊢
 replace hxb1:=s3 _ _ hxb1
 have hg3:=hg2.same s3
 obtain ⟨dx,hins⟩:=hg3.ins
 simp! [xK]
 refine ⟨_,_,hins,lk,_,SqT.of hxb1,_,at0,_,SqT.of hxb1,_,at1,small (by decide),fun p2 hp2 => ?_⟩
 rw [hi,hj]
 refine uM (t:=[]) (Same.g ((s1.trans s2).trans s3)) (by rw [List.append_nil]; exact hg3) h100 (zF hp2 _) (x:="rule") (as:=[.n r,.ps ns]) ⟨p2,_,rfl,zC,_,_,rfl,rfl,_,_,rfl,rfl,_,_,rfl,atPs (zF hp2 _ _ _ kl),rfl⟩ ?_ ⟨by simp,fun ps' h => ?_⟩ (fun L e h q' hq' _ _ => by rw [hr1] at hq'; cases hq'; rw [hi,hj]; exact h) fun _ H4 g4 => q _ g4
 · rw [List.append_nil]
   exact st_rule (by omega) (by omega) hr1 (Prod.ext hi hj) hns
 · simp at h
   subst h
   omega
end
abbrev s_z:Stmt:=top 21
theorem sc_z:FnScope ["sheet","rules","growth","boths","waiting","r","k","i","j"] ["sheet","rules"] (zG s_z):=⟨rfl,rfl,rfl,by decide +kernel,rfl,by decide +kernel,by decide +kernel⟩
theorem Le.back {L L':List Ln} (e:Le L L') {a:Nat} {l:Ln} (ha:a < L.length) (h:L'[a]? = some l):L[a]? = some l:=by
 obtain ⟨t,rfl⟩:=e
 rw [List.getElem?_append_left ha] at h
 exact h
structure Cl (rows:List Rw) (rules:List yA) (k:Nat) (L:List Ln):Prop where
 turn:∀ (a:Nat) (l:Ln) (i j:Nat),a < k -> L[a]? = some l -> l.i = i -> l.j = j -> zU L ((tnN j:Nat):Int) ((tnN i:Nat):Int) = true
 clash:∀ (a:Nat) (l:Ln) (i j:Nat),a < k -> L[a]? = some l -> l.i = i -> l.j = j -> (j:Int) = tn1 i -> ∀ n:Nat,n < 2 * rows.length -> zU L i n = true
 chain:∀ (a b:Nat) (l l':Ln) (i j m:Nat),a < k -> b < k -> L[a]? = some l -> L[b]? = some l' -> l.i = i -> l.j = j -> l'.i = j -> l'.j = m -> zU L i m = true
 both:∀ (a b:Nat) (l l':Ln) (i n:Nat) (x y:Int),a < k -> b < k -> L[a]? = some l -> L[b]? = some l' -> l.i = i -> l.j = x -> l'.i = i -> l'.j = y -> rows[n]? = some (.bo x y) -> zU L i ((2 * n:Nat):Int) = true
 rule:∀ (r:Nat) (q:yA),rules[r]? = some q -> InR rows q -> (∀ p ∈ q.1,∃ (a:Nat) (l:Ln),a < k /\ L[a]? = some l /\ l.i = p.1 /\ l.j = p.2) -> zU L q.2.1 q.2.2 = true
theorem Cl.le {rows:List Rw} {rules:List yA} {k:Nat} {L L':List Ln} (h:Cl rows rules k L) (hk:k <= L.length) (e:Le L L'):Cl rows rules k L':=by
 have b:∀ {a:Nat} {l:Ln},a < k -> L'[a]? = some l -> L[a]? = some l:=fun ha hl => e.back (by omega) hl
 refine ⟨fun a l i j ha hl h1 h2 => e.has (h.turn a l i j ha (b ha hl) h1 h2),fun a l i j ha hl h1 h2 h3 n hn => e.has (h.clash a l i j ha (b ha hl) h1 h2 h3 n hn),fun a b' l l' i j m ha hb hl hl' h1 h2 h3 h4 => e.has (h.chain a b' l l' i j m ha hb (b ha hl) (b hb hl') h1 h2 h3 h4),
   fun a b' l l' i n x y ha hb hl hl' h1 h2 h3 h4 hr => e.has (h.both a b' l l' i n x y ha hb (b ha hl) (b hb hl') h1 h2 h3 h4 hr),fun r q hr hi hp => e.has (h.rule r q hr hi fun p hpq => ?_)⟩
 obtain ⟨a,l,ha,hl,h1,h2⟩:=hp p hpq
 exact ⟨a,l,ha,b ha hl,h1,h2⟩
theorem Cl.step {rows:List Rw} {rules:List yA} {k:Nat} {L L':List Ln} (h:Cl rows rules k L) (e:Le L L') {l0:Ln} {i j:Nat} (hk:L[k]? = some l0) (hi:l0.i = i) (hj:l0.j = j)
   (h1:zU L' ((tnN j:Nat):Int) ((tnN i:Nat):Int) = true) (h2:∀ m:Nat,zU L j m = true -> zU L' i m = true) (h3:∀ m:Nat,zU L m i = true -> zU L' m j = true)
   (h4:∀ (n:Nat) (x y:Int),rows[n]? = some (.bo x y) -> ((j:Int) = x \/ (j:Int) = y) -> zU L i x = true -> zU L i y = true -> zU L' i ((2 * n:Nat):Int) = true)
   (h5:(j:Int) = tn1 i -> ∀ n:Nat,n < 2 * rows.length -> zU L' i n = true)
   (h6:∀ (r:Nat) (q:yA),rules[r]? = some q -> InR rows q -> ((i:Int),(j:Int)) ∈ q.1 -> (∀ p ∈ q.1,zU L p.1 p.2 = true) -> zU L' q.2.1 q.2.2 = true):Cl rows rules (k + 1) L':=by
 have hkl:=(List.getElem?_eq_some_iff.mp hk).1
 have hc:=h.le (by omega) e
 have b:∀ {a:Nat} {l:Ln},a < k + 1 -> L'[a]? = some l -> L[a]? = some l:=fun ha hl => e.back (by omega) hl
 have z:∀ {a:Nat},a < k + 1 -> a < k \/ a = k:=fun ha => by omega
 have lz:∀ {a:Nat} {l:Ln},a = k -> a < k + 1 -> L'[a]? = some l -> l = l0:=fun ea ha hl => by
   have:=b ha hl
   rw [ea,hk] at this
   exact (Option.some.inj this).symm
 have hs:∀ {a:Nat} {l:Ln},a < k + 1 -> L'[a]? = some l -> zU L l.i l.j = true:=fun ha hl => hasP_iff.mpr ⟨_,_,b ha hl,rfl,rfl⟩
 refine ⟨fun a l i' j' ha hl g1 g2 => ?_,fun a l i' j' ha hl g1 g2 g3 n hn => ?_,fun a b' l l' i' j' m ha hb hl hl' g1 g2 g3 g4 => ?_,fun a b' l l' i' n x y ha hb hl hl' g1 g2 g3 g4 hr => ?_,fun r q hr hir hp => ?_⟩
 · rcases z ha with za | za
   · exact hc.turn a l i' j' za hl g1 g2
   · have el := lz za ha hl
     subst el
     have ei:i' = i:=by omega
     have ej:j' = j:=by omega
     rw [ei,ej]
     exact h1
 · rcases z ha with za | za
   · exact hc.clash a l i' j' za hl g1 g2 g3 n hn
   · have el := lz za ha hl
     subst el
     have ei:i' = i:=by omega
     have ej:j' = j:=by omega
     subst ei ej
     exact h5 g3 n hn
 · rcases z ha with za | za
   · rcases z hb with zb | zb
     · exact hc.chain a b' l l' i' j' m za zb hl hl' g1 g2 g3 g4
     · have el := lz zb hb hl'
       subst el
       have ej:j' = i:=by omega
       have em:m = j:=by omega
       have:=hs ha hl
       rw [g1,g2,ej] at this
       rw [em]
       exact h3 i' this
   · have el := lz za ha hl
     subst el
     have ei:i' = i:=by omega
     have ej:j' = j:=by omega
     have:=hs hb hl'
     rw [g3,g4,ej] at this
     rw [ei]
     exact h2 m this
 · have ha' := hs ha hl
   have hb':=hs hb hl'
   rw [g1,g2] at ha'
   rw [g3,g4] at hb'
   rcases z ha with za | za
   · rcases z hb with zb | zb
     · exact hc.both a b' l l' i' n x y za zb hl hl' g1 g2 g3 g4 hr
     · have el := lz zb hb hl'
       subst el
       have ei:i' = i:=by omega
       subst ei
       exact h4 n x y hr (.inr (by omega)) ha' hb'
   · have el := lz za ha hl
     subst el
     have ei:i' = i:=by omega
     subst ei
     exact h4 n x y hr (.inl (by omega)) ha' hb'
 · by_cases hall : ∀ p ∈ q.1, ∃ (a : Nat) (l : Ln), a < k /\ L'[a]? = some l /\ l.i = p.1 /\ l.j = p.2
   · exact hc.rule r q hr hir hall
   · refine h6 r q hr hir (Classical.byContradiction fun hno => hall fun p hpq => ?_) fun p hpq => ?_
     · obtain ⟨a, l, ha, hl, g1, g2⟩ := hp p hpq
       rcases z ha with za | za
       · exact ⟨a,l,za,hl,g1,g2⟩
       · have el := lz za ha hl
         subst el
         have ep:p = ((i:Int),(j:Int)):=Prod.ext (by rw [← g1,hi]) (by rw [← g2,hj])
         exact absurd (ep ▸ hpq) hno
     · obtain ⟨a, l, ha, hl, g1, g2⟩ := hp p hpq
       have:=hs ha hl
       rw [g1,g2] at this
       exact this
def spClo:Sp:=fun vs H Q _ => ∃ (sa ra:Addr) (us vs':List V) (rows:List Rw) (rules:List yA),vs = [.ref sa,.ref ra] /\ H sa = some (.lst us) /\ jZ H rows us /\ H ra = some (.lst vs') /\ DAts H (rules.map dNR) vs' /\ rows.length <= 100 /\ RowsIn rows /\ rules.length <= 100 /\ (∀ r ∈ rules,r.1.length <= 100) /\ ∀ (la:Addr) (ws:List V) (ls:List Ln) H',Same H H' -> H' la = some (.lst ws) -> jL H' ls ws -> GOk rows rules ls -> Pl rows (2 * rows.length) rows.length ls -> Cl rows rules ls.length ls -> Q (.ref la) H'
theorem SameG.same {g:GAd} {H H2 H':Hp} (s:Same H H2) (e:SameG g H2 H') (h1:H g.la = none) (h2:H g.pa = none) (h3:H g.aa = none) (h4:H g.ba = none):Same H H':=fun b o hb => by
 have go:∀ {a:Addr},H a = none -> b ≠ a:=fun ha z => by rw [z,ha] at hb; cases hb
 exact e b o (s b o hb) (go h1) (go h2) (go h3) (go h4)
section
variable {P:Program} {w:World} {K:PySem.W.Frag} {mg:Str -> Option Value} {base:Heap} {f:Addr} {fd:FuncData}
theorem ok_closing {C:Addr} (T:GrC K C) (bi:Bi mg) (h_l:HasI P w K mg base 1 C "Growth" ["self","many"] (spGI C)) (h_f:Has P w K mg base 1 "boths_by_part" ["sheet"] spBo) (h_c:Has P w K mg base 1 "rules_by_premise" ["rules"] spWa) (h_G:Has P w K mg base 3 "begin" ["growth","sheet"] (spBe C)) (h_m:Has P w K mg base 3 "grow_by_turn" ["growth","i","j"] (kK RTurn C)) (h_g:Has P w K mg base 3 "grow_by_chain" ["growth","i","j"] (kK RChain C)) (h_j:Has P w K mg base 3 "grow_by_both" ["growth","i","boths"] (spGB C)) (h_h:Has P w K mg base 3 "grow_by_clash" ["growth","i","j"] (kK RClash C)) (h_i:Has P w K mg base 3 "grow_by_rule" ["growth","rules","r"] (spGR C)) (F:Fun K "closing" "closing" s_z f fd):FnOk P w K mg base CX0 4 f fd ["sheet","rules"] spClo:=by
 refine F.ok sc_z (fun vs H Q E h => ?_) (fun cdv A outer s H vs Q E hr h => ?_)
 · obtain ⟨sa, ra, us, vs', rows, rules, rfl, _⟩ := h
   rfl
 obtain ⟨sa,ra,us,vs',rows,rules,rfl,hsa,hrw,hra,hru,h100,hin,hr100,hpr,q⟩:=h
 have hul:=yK hrw
 have hvl:=yK hru
 have cl_Growth:=T.cl
 refine ⟨_,(zD (zP (i:=2) sc_z.nd rfl (Or.inl rfl) (pe_makeH h_l (hr.mono (by omega)) rfl (zA (zO op_mul zB (zK call_len rfl bi.len bt_len (zA (pv 0) pa_nil))) pa_nil))) (zD (zP (i:=3) sc_z.nd rfl (Or.inl rfl) (zR h_f (hr.mono (by omega)) rfl (zA (pv 0) pa_nil))) (zD (zP (i:=4) sc_z.nd rfl (Or.inl rfl) (zR h_c (hr.mono (by omega)) rfl (zA (pv 1) pa_nil))) (zD (yG (zR h_G (hr.mono (by omega)) rfl (zA (pv 2) (zA (pv 0) pa_nil)))) (zD (yR PassesOwn.never rfl (xH rfl bi.range (zA (zK call_len rfl bi.len bt_len (zA (pv 1) pa_nil)) pa_nil)) (zM (i:=5) sc_z.nd rfl (Or.inl rfl)) (zE (yG (zR h_i (hr.mono (by omega)) rfl (zA (pv 2) (zA (pv 1) (zA (pv 5) pa_nil))))))) (zD (zP (i:=6) sc_z.nd rfl (Or.inl rfl) zB) (zD (ps_while PassesOwn.never (zN op_lt (pv 6) (zK call_len rfl bi.len bt_len (zA (xF (pv 2) rfl) pa_nil)) (zL _)) (zD (zP (i:=7) sc_z.nd rfl (Or.inl rfl) (zI ix_tup (zI ix_list (xF (pv 2) rfl) (pv 6) (fun _ _ => rfl)) zB (fun _ _ => rfl))) (zD (zP (i:=8) sc_z.nd rfl (Or.inl rfl) (zI ix_tup (zI ix_list (xF (pv 2) rfl) (pv 6) (fun _ _ => rfl)) zB (fun _ _ => rfl))) (zD (yG (zR h_m (hr.mono (by omega)) rfl (zA (pv 2) (zA (pv 7) (zA (pv 8) pa_nil))))) (zD (yG (zR h_g (hr.mono (by omega)) rfl (zA (pv 2) (zA (pv 7) (zA (pv 8) pa_nil))))) (zD (yG (zR h_j (hr.mono (by omega)) rfl (zA (pv 2) (zA (pv 7) (zA (zI ix_list (pv 3) (pv 8) (fun _ _ => rfl)) pa_nil))))) (zD (yG (zR h_h (hr.mono (by omega)) rfl (zA (pv 2) (zA (pv 7) (zA (pv 8) pa_nil))))) (zD (yR PassesOwn.never rfl (xD (pe_dget2 (jH hr) (pv 4) (zX (zA (pv 7) (zA (pv 8) pa_nil))) (jE pa_nil) ⟨rfl,rfl,rfl,rfl⟩)) (zM (i:=5) sc_z.nd rfl (Or.inl rfl)) (zE (yG (zR h_i (hr.mono (by omega)) rfl (zA (pv 2) (zA (pv 1) (zA (pv 5) pa_nil))))))) (zE (ps_aug (i:=6) sc_z.nd rfl (Or.inl rfl) zB ip_add)))))))))) (zE (zQ (xF (pv 2) rfl)))))))))),?_⟩
 refine zJ fun N hN => ?_
 simp! [tMake]
 refine ⟨us.length,.inl ⟨_,SqL.of hsa,rfl⟩,.inl ⟨by decide,by decide⟩,fun x dx hx hdx hne => ?_⟩
 have s1:Same H (upd (upd H dx (.own x)) x (.ins C dx [])):=((Same.refl H).upd hdx).upd hx
 have k1:upd (upd H dx (.own x)) x (.ins C dx []) x = some (.ins C dx []):=zC
 generalize upd (upd H dx (.own x)) x (.ins C dx []) = H1 at s1 k1 ⊢
 have e2:(2:Int) * (us.length:Int) = ((2 * rows.length:Nat):Int):=by rw [hul]; omega
 rw [e2]
 refine ⟨x,dx,rows,rules,rfl,k1,h100,fun g H2 hgr x2 hla hpa haa hba hg => ⟨rfl,hN _ _ ?_⟩⟩
 subst hgr
 clear hN
 have s2:Same H H2:=fun b o hb => x2 b o (s1 _ _ hb) (fun z => by rw [z,hx] at hb; cases hb)
 replace hla:=s1.free hla
 replace hpa:=s1.free hpa
 replace haa:=s1.free haa
 replace hba:=s1.free hba
 have outH:∀ {a:Addr} {o:HO},H a = some o -> kG g a:=fun {a o} ha => by
   have go:∀ {b:Addr},H b = none -> a ≠ b:=fun hb z => by rw [z,hb] at ha; cases ha
   exact ⟨go hla,go hpa,go haa,go hba⟩
 clear x2 k1 s1
 refine zJ fun N hN => ?_
 simp! []
 refine ⟨sa,us,rows,rfl,s2 _ _ hsa,DAts.same s2 hrw,h100,hin,fun pb qs n H3 s3 hpb0 hqs0 hpb hql hbo hbc => hN _ _ ?_⟩
 clear hN
 have outb:=hg.out hpb0
 have outq:∀ q ∈ qs,kG g q:=fun q hq => hg.out (hqs0 q hq)
 replace hg:=hg.same s3
 replace s2:=s2.trans s3
 clear s3 hqs0 hpb0
 refine zJ fun N hN => ?_
 simp! []
 refine ⟨ra,vs',rules,rfl,s2 _ _ hra,DAts.same s2 hru,hr100,hpr,fun pw kvs n' H4 s4 hpw0 hpw hwa hwc => hN _ _ ?_⟩
 clear hN
 have outw:=hg.out hpw0
 have hwa':∀ kv ∈ kvs,∃ (q:Addr) (ns:List Nat),kv.2 = .ref q /\ H4 q = some (.lst (ns.map nV)) /\ kG g q /\ ∀ x ∈ ns,x < rules.length:=fun kv hkv => by
   obtain ⟨q',ns',h1,h2,h3,h4,h5⟩:=hwa kv hkv
   exact ⟨q',ns',h1,h2,hg.out h3,h5⟩
 clear hwa
 replace hg:=hg.same s4
 replace s2:=s2.trans s4
 replace hpb:=s4 _ _ hpb
 replace hbo:=hbo.same s4
 replace hbc:=hbc.same s4
 clear s4 hpw0
 have SS:∀ {H'},SameG g H4 H' -> Same H H':=fun e => SameG.same s2 e hla hpa haa hba
 refine zJ fun N hN => ?_
 simp! []
 refine ⟨g,sa,us,rows,rules,rfl,hg,h100,s2 _ _ hsa,DAts.same s2 hrw,outH hsa,hin,fun H5 g5 => hN _ _ ?_⟩
 clear hN
 have np:∀ {r:Nat} {ls L L':List Ln},RRule rows rules ls L r -> Le L L' -> ∀ q:yA,rules[r]? = some q -> InR rows q -> q.1 = [] -> zU L' q.2.1 q.2.2 = true:=fun h e q hq hi h0 => e.has (h q hq hi (fun p hp => by rw [h0] at hp; cases hp))
 refine yE (fun σ H' => ∃ (o1 o2 o3 o4:Option V),GrH C H4 g rows rules [] (fun L => Pl rows (2 * rows.length) rows.length L /\ Cl rows rules 0 L) H' /\ σ = [some (V.ref sa),some (V.ref ra),some (V.ref g.r),some (V.ref pb),some (V.ref pw),o1,o2,o3,o4]) (fun N hN => ?_) (fun σ H' h => ?_)
 · simp! []
   refine ⟨vs'.length,.inl ⟨_,SqL.of (SS g5.to.1 _ _ hra),rfl⟩,by omega,by omega,?_⟩
   refine xS (n:=(vs'.length:Int).toNat) (fun i σ H' => ∃ (o1 o2 o3 o4:Option V),GrH C H4 g rows rules [] (fun L => Pl rows (2 * rows.length) rows.length L /\ ∀ r:Nat,r < i -> ∀ q:yA,rules[r]? = some q -> InR rows q -> q.1 = [] -> zU L q.2.1 q.2.2 = true) H' /\ σ = [some (V.ref sa),some (V.ref ra),some (V.ref g.r),some (V.ref pb),some (V.ref pw),o1,o2,o3,o4]) ⟨_,_,_,_,(by
       obtain ⟨h1,t,h2,h3⟩:=g5
       exact ⟨h1,t,h2,h3,fun r hr => by omega⟩),rfl⟩ (fun i σ H' hi h => ?_) (fun σ H' h => ?_)
   rotate_left
   · obtain ⟨o1, o2, o3, o4, ⟨h1, t, h2, h3, h4⟩, rfl⟩ := h
     refine hN _ _ ⟨_,_,_,_,⟨h1,t,h2,h3,⟨fun a l i j ha => by omega,fun a l i j ha => by omega,fun a b l l' i j m ha => by omega,fun a b l l' i n x y ha => by omega,fun r q hr hir hp => ?_⟩⟩,rfl⟩
     refine h4 r (by have:=(List.getElem?_eq_some_iff.mp hr).1; omega) q hr hir ?_
     cases hq:q.1 with
     | nil => rfl
     | cons p ps =>
       obtain ⟨a,l,ha,_⟩:=hp p (by rw [hq]; exact List.mem_cons_self)
       omega
   obtain ⟨o1,o2,o3,o4,⟨gs,t,gt,hP,hR⟩,rfl⟩:=h
   have e0:(0:Int) + (i:Int) = ((i:Nat):Int):=by omega
   simp! []
   rw [e0]
   refine ⟨g,rows,rules,_,ra,vs',i,rfl,gt,h100,SS gs _ _ hra,DAts.same (SS gs) hru,by omega,hpr,fun H6 g6 => ?_⟩
   refine ⟨GrH.then gs g6 (fun L e h => ⟨hP.le e,fun r hr => ?_⟩),_,rfl⟩
   rcases Nat.lt_or_eq_of_le (Nat.le_of_lt_succ hr) with z | z
   · exact fun q hq hi h0 => e.has (hR r z q hq hi h0)
   · rw [z]; exact np h (Le.refl _)
 obtain ⟨o1,o2,o3,o4,⟨gs,t,gt,hP,hC⟩,rfl⟩:=h
 rw [List.nil_append] at gt hP hC
 refine zJ fun N hN => ?_
 simp! []
 refine hN _ _ ?_
 clear hN
 refine yE (fun σ H' => ∃ (o1 o2 o3 o4:Option V) (t:List Ln),SameG g H4 H' /\ GrAt C H' g rows rules t /\ Pl rows (2 * rows.length) rows.length t /\ Cl rows rules t.length t /\ σ = [some (V.ref sa),some (V.ref ra),some (V.ref g.r),some (V.ref pb),some (V.ref pw),o1,o2,o3,o4]) (fun N hN => ?_) (fun σ H' h => ?_)
 · simp! [tWhile]
   refine ⟨fun m σ H' => ∃ (k:Nat) (t:List Ln) (o1 o3 o4:Option V),m = (2 * rows.length) * (2 * rows.length) - k /\ k <= t.length /\ SameG g H4 H' /\ GrAt C H' g rows rules t /\ Pl rows (2 * rows.length) rows.length t /\ Cl rows rules k t /\ σ = [some (V.ref sa),some (V.ref ra),some (V.ref g.r),some (V.ref pb),some (V.ref pw),o1,some (V.int k),o3,o4],⟨_,0,t,_,_,_,rfl,Nat.zero_le _,gs,gt,hP,hC,rfl⟩,fun m σ H' h => ?_⟩
   clear hP hC
   obtain ⟨k,t,o1,o3,o4,rfl,hk,gs,gt,hP,hC,rfl⟩:=h
   have htl:=gt.ok.len
   obtain ⟨dx,hins⟩:=gt.ins
   obtain ⟨ws,hl,hws⟩:=gt.lin
   have hwl:=yK hws
   simp! [uN]
   refine ⟨_,_,_,hins,T.cl,T.nL,_,gr_l g,ws.length,.inl ⟨_,SqL.of hl,rfl⟩,?_⟩
   by_cases hkl:k < t.length
   case neg =>
     rw [if_neg (by omega)]
     rw [show k = t.length by omega] at hC
     exact hN _ _ ⟨_,_,_,_,t,gs,gt,hP,hC,rfl⟩
   rw [if_pos (by omega)]
   have hlk:t[k]? = some t[k]:=List.getElem?_eq_getElem hkl
   have hrng:=uO (gt.ok.snd k _ hlk)
   generalize t[k] = l0 at hlk hrng
   obtain ⟨i,hi⟩:∃ i:Nat,l0.i = (i:Int):=Int.eq_ofNat_of_zero_le hrng.1.1
   obtain ⟨j,hj⟩:∃ j:Nat,l0.j = (j:Int):=Int.eq_ofNat_of_zero_le hrng.2.1
   obtain ⟨v,hv,hvd⟩:=DAts.get (d:=dLn l0) hws (by rw [List.getElem?_map,hlk]; rfl)
   obtain ⟨xa,u,rfl,hxa,_⟩:=kD hvd
   rw [hi,hj] at hxa hrng
   have hh:zU t i j = true:=hasP_iff.mpr ⟨k,l0,hlk,hi,hj⟩
   refine ⟨fun σ' H'' => ∃ (t':List Ln) (o1 o3 o4:Option V),k + 1 <= t'.length /\ SameG g H4 H'' /\ GrAt C H'' g rows rules t' /\ Pl rows (2 * rows.length) rows.length t' /\ Cl rows rules (k + 1) t' /\ σ' = [some (V.ref sa),some (V.ref ra),some (V.ref g.r),some (V.ref pb),some (V.ref pw),o1,some (V.int ((k + 1:Nat):Int)),o3,o4],fun σ' H'' h => ?_,?_⟩
   · obtain ⟨t', o1, o3, o4, h1, h2, h3, h4, h5, rfl⟩ := h
     exact ⟨_,by omega,k + 1,rfl,t',h1,h2,h3,h4,h5,_,_,_,rfl⟩
   refine ⟨_,_,_,hins,T.cl,T.nL,_,gr_l g,_,rfl,_,SqL.of hl,_,zZ hv,_,rfl,_,SqT.of hxa,_,at0,?_⟩
   refine ⟨_,_,_,hins,T.cl,T.nL,_,gr_l g,_,rfl,_,SqL.of hl,_,zZ hv,_,rfl,_,SqT.of hxa,_,at1,?_⟩
   refine ⟨g,rows,rules,t,i,j,rfl,gt,h100,hh,fun H6 g6 => ?_⟩
   obtain ⟨gs6,t6,gt6,rt⟩:=g6
   replace gs:=gs.trans gs6
   refine ⟨g,rows,rules,_,i,j,rfl,gt6,h100,zV hh,fun H7 g7 => ?_⟩
   obtain ⟨gs7,t7,gt7,rc⟩:=g7
   replace gs:=gs.trans gs7
   have hjl:j < qs.length:=by omega
   obtain ⟨us1,hu1,_,ht1⟩:=hbo qs[j] (List.getElem_mem hjl)
   have tu:=hg.tups gs
   refine ⟨_,_,rfl,SqL.of (gs.out outb hpb),_,zZ (by rw [List.getElem?_map,List.getElem?_eq_getElem hjl]; rfl),?_⟩
   refine ⟨g,rows,rules,_,i,qs[j],us1,rfl,gt7,h100,by omega,gs.out (outq _ (List.getElem_mem hjl)) hu1,outq _ (List.getElem_mem hjl),fun v hv => (ht1 v hv).tups tu,hin,fun H8 g8 => ?_⟩
   obtain ⟨gs8,t8,gt8,rb⟩:=g8
   replace gs:=gs.trans gs8
   refine ⟨g,rows,rules,_,i,j,rfl,gt8,h100,zV (zV (zV hh)),fun H9 g9 => ?_⟩
   obtain ⟨gs9,t9,gt9,rx⟩:=g9
   replace gs:=gs.trans gs9
   have hk9:k + 1 <= ((((t ++ t6) ++ t7) ++ t8) ++ t9).length:=by simp only [List.length_append]; omega
   have h1:zU ((((t ++ t6) ++ t7) ++ t8) ++ t9) ((tnN j:Nat):Int) ((tnN i:Nat):Int) = true:=zV (zV (zV rt))
   have h2:∀ m:Nat,zU t j m = true -> zU ((((t ++ t6) ++ t7) ++ t8) ++ t9) i m = true:=fun m hm => zV (zV (rc.1 m (zV hm)))
   have h3:∀ m:Nat,zU t m i = true -> zU ((((t ++ t6) ++ t7) ++ t8) ++ t9) m j = true:=fun m hm => zV (zV (rc.2 m (zV hm)))
   have h4:∀ (n:Nat) (x y:Int),rows[n]? = some (.bo x y) -> ((j:Int) = x \/ (j:Int) = y) -> zU t i x = true -> zU t i y = true -> zU ((((t ++ t6) ++ t7) ++ t8) ++ t9) i ((2 * n:Nat):Int) = true:=fun n x y hn hxy hx hy => by
     obtain ⟨us',t',g1,g2,g3⟩:=hbc n x y (List.getElem?_eq_some_iff.mp hn).1 hn j qs[j] hxy (List.getElem?_eq_getElem hjl)
     rw [hu1] at g1
     cases g1
     exact zV (rb t' n x y g2 (tu _ _ g3) (zV (zV hx)) (zV (zV hy)))
   have h5:(j:Int) = tn1 i -> ∀ n:Nat,n < 2 * rows.length -> zU ((((t ++ t6) ++ t7) ++ t8) ++ t9) i n = true:=rx
   have ett:Le t ((((t ++ t6) ++ t7) ++ t8) ++ t9):=⟨t6 ++ (t7 ++ (t8 ++ t9)),by simp [List.append_assoc]⟩
   generalize (((t ++ t6) ++ t7) ++ t8) ++ t9 = tt at gt9 hk9 h1 h2 h3 h4 h5 ett
   clear rt rc rb rx
   clear gs6 gt6 gs7 gt7 gs8 gt8 gs9 tu hins hl hws htl gt
   simp! [tDGet2]
   have hpw9:=gs.out outw hpw
   refine ⟨.inr ⟨_,.inl hpw9⟩,small (by decide),fun p hp => ⟨Nat.zero_le _,fun p1 hp1 => ?_⟩⟩
   have s10:=(zF hp (.tup [V.int i,V.int j])).trans (zF hp1 (.lst []))
   have kp:upd (upd H9 p (.tup [V.int i,V.int j])) p1 (.lst []) p = some (.tup [V.int i,V.int j]):=zF hp1 (.lst []) _ _ zC
   have kp1:upd (upd H9 p (.tup [V.int i,V.int j])) p1 (.lst []) p1 = some (.lst []):=zC
   have op1:=(gt9.same (zF hp (.tup [V.int i,V.int j]))).out hp1
   generalize upd (upd H9 p (.tup [V.int i,V.int j])) p1 (.lst []) = H10 at s10 kp kp1 ⊢
   have hq:∃ (q:Addr) (ns:List Nat),(yS kvs (yZ i j)).getD (.ref p1) = .ref q /\ H10 q = some (.lst (ns.map nV)) /\ kG g q /\ (∀ x ∈ ns,x < rules.length) /\ ∀ r,WaI H4 kvs ((i:Int),(j:Int)) r -> r ∈ ns:=by
     cases hv:yS kvs (yZ i j) with
     | none => exact ⟨p1,[],rfl,kp1,op1,(fun x z => by cases z),fun r ⟨q,ns,g1,_⟩ => by rw [show yS kvs (yZ (i:Int) (j:Int)) = none from hv] at g1; cases g1⟩
     | some v =>
       obtain ⟨kv,hkv,rfl⟩:=valV_mem hv
       obtain ⟨q',ns',g1,g2,g3,g4⟩:=hwa' kv hkv
       refine ⟨q',ns',g1,s10 _ _ (gs.out g3 g2),g3,g4,fun r ⟨q,ns,w1,w2,w3⟩ => ?_⟩
       rw [show yS kvs (yZ (i:Int) (j:Int)) = some kv.2 from hv,g1] at w1
       have e1:=V.ref.inj (Option.some.inj w1)
       subst e1
       rw [g2] at w2
       rw [nV_inj (HO.lst.inj (Option.some.inj w2))]
       exact w3
   obtain ⟨qa,ns,hqa1,hqa2,hqa3,hqa4,hqa5⟩:=hq
   refine ⟨_,.inr ⟨_,yZ i j,p,.inl (s10 _ _ hpw9),rfl,kp,rfl⟩,qa,hqa1,⟨_,SqL.of hqa2⟩,?_⟩
   replace gs:=gs.trans (Same.g s10)
   replace gt9:=gt9.same s10
   clear s10 kp kp1 hp hp1 op1 hqa1
   refine xX (xs:=ns.map nV) (fun m σ H' => ∃ (o1:Option V) (t':List Ln),k + 1 <= t'.length /\ SameG g H4 H' /\ SameG g H10 H' /\ GrAt C H' g rows rules t' /\ Le tt t' /\ (∀ r ∈ ns.take m,∀ q:yA,rules[r]? = some q -> InR rows q -> (∀ p ∈ q.1,zU tt p.1 p.2 = true) -> zU t' q.2.1 q.2.2 = true) /\ σ = [some (V.ref sa),some (V.ref ra),some (V.ref g.r),some (V.ref pb),some (V.ref pw),o1,some (V.int k),some (V.int i),some (V.int j)]) ⟨_,tt,hk9,gs,Same.g (Same.refl _),gt9,Le.refl _,(fun r z => by cases z),rfl⟩ (fun m σ H' _ h => ?_) (fun m x σ H' hx h => ?_) (fun σ H' h => ?_)
   · obtain ⟨_, _, _, _, h, _⟩ := h
     exact SqL.of (h.out hqa3 hqa2)
   · obtain ⟨o1, t', hk', gs', gs2', gt', le', hR, rfl⟩ := h
     rw [List.getElem?_map] at hx
     obtain ⟨x',hx',rfl⟩:=Option.map_eq_some_iff.mp hx
     simp! []
     refine ⟨g,rows,rules,_,ra,vs',x',rfl,gt',h100,SS gs' _ _ hra,DAts.same (SS gs') hru,hqa4 _ (List.mem_of_getElem? hx'),hpr,fun H6 g6 => ?_⟩
     obtain ⟨gs6,t6,gt6,rr⟩:=g6
     refine ⟨_,t' ++ t6,by rw [List.length_append]; omega,gs'.trans gs6,gs2'.trans gs6,gt6,le'.trans ⟨t6,rfl⟩,fun r hr q hq hi0 hp0 => ?_,rfl⟩
     obtain ⟨hkl',hke⟩:=List.getElem?_eq_some_iff.mp hx'
     rw [List.take_succ_eq_append_getElem hkl',hke] at hr
     rcases List.mem_append.mp hr with hr | hr
     · exact zV (hR r hr q hq hi0 hp0)
     · rw [List.mem_singleton.mp hr] at hq
       exact rr q hq hi0 fun p hp => le'.has (hp0 p hp)
   · obtain ⟨o1, t', hk', gs', gs2', gt', le', hR, rfl⟩ := h
     rw [List.length_map,List.take_of_length_le (Nat.le_refl _)] at hR
     have e9:=ett.trans le'
     have hC':Cl rows rules (k + 1) t':=hC.step e9 hlk hi hj (le'.has h1) (fun m hm => le'.has (h2 m hm)) (fun m hm => le'.has (h3 m hm)) (fun n x y a b c d => le'.has (h4 n x y a b c d)) (fun a n b => le'.has (h5 a n b)) (fun r q hr hir hin' hp => ?_)
     · simp! [tAug, ipI]
       exact ⟨t',hk',gs',gt',hP.le e9,hC',by omega,_,rfl⟩
     · obtain ⟨x, hx⟩ := List.getElem?_of_mem hin'
       exact hR r (hqa5 r (hwc r q x _ hr hx (.inl (List.getElem?_eq_some_iff.mp hr).1))) q hr hir fun p hpq => ett.has (hp p hpq)
 obtain ⟨o1,o2,o3,o4,t,gs,gt,hP,hC,rfl⟩:=h
 obtain ⟨dx,hins⟩:=gt.ins
 obtain ⟨ws,hl,hws⟩:=gt.lin
 simp! [uN]
 exact ⟨_,_,_,hins,T.cl,T.nL,_,gr_l g,q g.la ws t _ (SS gs) hl hws gt.ok hP hC⟩
end
abbrev s_q:Stmt:=top 31
theorem sc_q:FnScope ["line","k"] ["line"] (zG s_q):=⟨rfl,rfl,rfl,by decide +kernel,rfl,by decide +kernel,by decide +kernel⟩
abbrev s_u:Stmt:=top 32
theorem sc_u:FnScope ["rows","rules","lines","line","k"] ["rows","rules","lines"] (zG s_u):=⟨rfl,rfl,rfl,by decide +kernel,rfl,by decide +kernel,by decide +kernel⟩
def spIL:Sp:=fun vs H Q _ => ∃ (xa b:Addr) (i j:Int) (x:Str) (us:List V),vs = [.ref xa] /\ H xa = some (.tup [.int i,.int j,.ref b]) /\ H b = some (.tup (.str x :: us)) /\ Q (.bl true) H
def spWk:Sp:=fun vs H Q _ => ∃ (a ra la:Addr) (us vs' ws:List V) (rows:List Rw) (rules:List yA) (ls:List Ln),vs = [.ref a,.ref ra,.ref la] /\ H a = some (.lst us) /\ jZ H rows us /\ rows.length <= 100 /\ H ra = some (.lst vs') /\ DAts H (rules.map dNR) vs' /\ H la = some (.lst ws) /\ jL H ls ws /\ GOk rows rules ls /\ ∀ H',Same H H' -> Q (.bl true) H'
def seT:List Ln -> List (List Key × V)
 | [] => []
 | l :: ls => (yZ l.i l.j,.bl true) :: seT ls
theorem seT_len:∀ (ls:List Ln),(seT ls).length = ls.length
 | [] => rfl
 | l :: ls => by show (seT ls).length + 1 = _; rw [seT_len ls]; rfl
theorem seT_snoc (l:Ln):∀ (ls:List Ln),seT (ls ++ [l]) = seT ls ++ [(yZ l.i l.j,.bl true)]
 | [] => rfl
 | l' :: ls => by
   show _ :: seT (ls ++ [l]) = _
   rw [seT_snoc l ls]
   rfl
theorem wI {i j:Int}:∀ (ls:List Ln),(∀ l ∈ ls,¬ (l.i = i /\ l.j = j)) -> yS (seT ls) (yZ i j) = none
 | [],_ => rfl
 | l :: ls, h => by
   show yS ((yZ l.i l.j,V.bl true) :: seT ls) (yZ i j) = none
   rw [xZ (fun z => h l List.mem_cons_self (key2_inj z))]
   exact wI ls fun l' hl => h l' (List.mem_cons_of_mem _ hl)
section
variable {P:Program} {w:World} {K:PySem.W.Frag} {mg:Str -> Option Value} {base:Heap} {f:Addr} {fd:FuncData}
theorem ok_is_line (bi:Bi mg) (F:Fun K "_law_is_line" "_law_is_line" s_q f fd):FnOk P w K mg base CX0 1 f fd ["line"] spIL:=by
 refine F.ok sc_q (fun vs H Q E h => ?_) (fun cdv A outer s H vs Q E hr h => ?_)
 · obtain ⟨xa, b, i, j, x, us, rfl, _⟩ := h
   rfl
 obtain ⟨xa,b,i,j,x,us,rfl,hxa,hb,q⟩:=h
 refine ⟨_,(zD (yI (PW.pt (qF (jC (xC (zK (yY (T:="tuple")) rfl bi.isinstance bt_isinstance (zA (pv 0) (zA (jV bi.tuple bt_tuple rfl) pa_nil))))) (qI (zN op_ne (zK call_len rfl bi.len bt_len (zA (pv 0) pa_nil)) zB (zL _))))) (zE (zQ xG)) pss_nil) (zD (yR PassesOwn.never rfl (xH rfl bi.range (zA zB pa_nil)) (zM (i:=1) sc_q.nd rfl (Or.inl rfl)) (zE (yI (PW.pt (qF (jC (xC (zK (yY (T:="int")) rfl bi.isinstance bt_isinstance (zA (zI ix_tup (pv 0) (pv 1) (fun _ _ => rfl)) (zA (jV bi.int bt_int rfl) pa_nil))))) (qI (xC (zK (yY (T:="bool")) rfl bi.isinstance bt_isinstance (zA (zI ix_tup (pv 0) (pv 1) (fun _ _ => rfl)) (zA (jV bi.bool bt_bool rfl) pa_nil))))))) (zE (zQ xG)) pss_nil))) (zE (zQ (xI (zK (yY (T:="tuple")) rfl bi.isinstance bt_isinstance (zA (zI ix_tup (pv 0) zB (fun _ _ => rfl)) (zA (jV bi.tuple bt_tuple rfl) pa_nil))) (xI (yP op_gt (zK call_len rfl bi.len bt_len (zA (zI ix_tup (pv 0) zB (fun _ _ => rfl)) pa_nil)) zB (zL _)) (qC (zK (yY (T:="str")) rfl bi.isinstance bt_isinstance (zA (zI ix_tup (zI ix_tup (pv 0) zB (fun _ _ => rfl)) zB (fun _ _ => rfl)) (zA (jV bi.str bt_str rfl) pa_nil)))))))))),?_⟩
 refine zJ fun N hN => ?_
 simp! []
 refine ⟨_,.tup hxa,true,xN,?_⟩
 rw [if_neg (by decide)]
 refine ⟨3,.inr ⟨_,SqT.of hxa,rfl⟩,rfl,?_⟩
 rw [if_neg (by decide)]
 refine hN _ _ ?_
 clear hN
 refine yE (fun σ H' => H = H' /\ ∃ o,σ = [some (V.ref xa),o]) (fun N hN => ?_) (fun σ H' h => ?_)
 · simp! []
   refine ⟨by omega,by omega,?_⟩
   refine xS (n:=2) (fun k σ H' => H = H' /\ ∃ o,σ = [some (V.ref xa),o]) ⟨rfl,_,rfl⟩ (fun k σ H' hk h => ?_) (fun σ H' h => hN _ _ h)
   obtain ⟨rfl,o,rfl⟩:=h
   have hv:∃ n,atI [V.int i,V.int j,V.ref b] (0 + (k:Int)) = some (V.int n):=by
     match k,hk with
     | 0,_ => exact ⟨i,at0⟩
     | 1,_ => exact ⟨j,at1⟩
   obtain ⟨n,hn⟩:=hv
   simp! []
   refine ⟨_,SqT.of hxa,_,hn,_,.int n,true,xN,?_⟩
   rw [if_neg (by decide)]
   refine ⟨_,SqT.of hxa,_,hn,_,.int n,false,ZU,?_⟩
   rw [if_neg (by decide)]
   exact ⟨_,rfl⟩
 obtain ⟨rfl,o,rfl⟩:=h
 have at2:∀ {a b c:V},atI [a,b,c] 2 = some c:=zZ (j:=2) rfl
 simp! []
 refine ⟨_,SqT.of hxa,_,at2,_,.tup hb,true,xN,?_⟩
 rw [if_pos rfl]
 refine ⟨_,SqT.of hxa,_,at2,_,.inr ⟨_,SqT.of hb,rfl⟩,?_⟩
 rw [if_pos (by rw [List.length_cons]; omega)]
 exact ⟨_,SqT.of hxa,_,at2,b,rfl,_,SqT.of hb,_,at0,_,.str x,true,xN,q⟩
theorem ok_walked (bi:Bi mg) (h_q:Has P w K mg base 1 "_law_is_line" ["line"] spIL) (h_x:Has P w K mg base 3 "_law_step" ["rows","rules","lines","k"] spStep) (F:Fun K "_law_walked" "_law_walked" s_u f fd):FnOk P w K mg base CX0 4 f fd ["rows","rules","lines"] spWk:=by
 refine F.ok sc_u (fun vs H Q E h => ?_) (fun cdv A outer s H vs Q E hr h => ?_)
 · obtain ⟨a, ra, la, us, vs', ws, rows, rules, ls, rfl, _⟩ := h
   rfl
 obtain ⟨a,ra,la,us,vs',ws,rows,rules,ls,rfl,ha,hrw,h100,hra,hru,hla,hls,hok,q⟩:=h
 have hll:=yK hls
 have hN2:ls.length <= 40000:=by
   have h1:=hok.len
   have h2:(2 * rows.length) * (2 * rows.length) <= 200 * 200:=Nat.mul_le_mul (by omega) (by omega)
   omega
 refine ⟨_,(zD (yI (jC (xC (zK (yY (T:="list")) rfl bi.isinstance bt_isinstance (zA (pv 2) (zA (jV bi.list bt_list rfl) pa_nil))))) (zE (zQ xG)) pss_nil) (zD (yR PassesOwn.never rfl (xD (pv 2)) (zM (i:=3) sc_u.nd rfl (Or.inl rfl)) (zE (yI (jC (xC (zR h_q (hr.mono (by omega)) rfl (zA (pv 3) pa_nil)))) (zE (zQ xG)) pss_nil))) (zD (yR PassesOwn.never rfl (xH rfl bi.range (zA (zK call_len rfl bi.len bt_len (zA (pv 2) pa_nil)) pa_nil)) (zM (i:=4) sc_u.nd rfl (Or.inl rfl)) (zE (yI (jC (xC (zR h_x (hr.mono (by omega)) rfl (zA (pv 0) (zA (pv 1) (zA (pv 2) (zA (pv 4) pa_nil))))))) (zE (zQ xG)) pss_nil))) (zE (zQ xG))))),?_⟩
 refine zJ fun N hN => ?_
 simp! []
 refine ⟨_,.lst hla,true,xN,?_⟩
 rw [if_neg (by decide)]
 refine hN _ _ ?_
 clear hN
 refine yE (fun σ H' => H = H' /\ ∃ o1 o2,σ = [some (V.ref a),some (V.ref ra),some (V.ref la),o1,o2]) (fun N hN => ?_) (fun σ H' h => ?_)
 · simp! []
   refine ⟨⟨_,SqL.of hla⟩,?_⟩
   refine xX (xs:=ws) (fun k σ H' => H = H' /\ ∃ o1 o2,σ = [some (V.ref a),some (V.ref ra),some (V.ref la),o1,o2]) ⟨rfl,_,_,rfl⟩ (fun k σ H' _ h => ?_) (fun k x σ H' hx h => ?_) (fun σ H' h => hN _ _ h)
   · obtain ⟨rfl, _⟩ := h
     exact SqL.of hla
   obtain ⟨rfl,o1,o2,rfl⟩:=h
   obtain ⟨l,_,hld⟩:=yW hls hx
   obtain ⟨xa,u,rfl,hxa,hu⟩:=kD hld
   obtain ⟨b,us',rfl,hb,_⟩:=whyAt hu
   simp! []
   refine ⟨xa,b,_,_,_,us',rfl,hxa,hb,_,rfl,?_⟩
   rw [if_neg (by decide)]
   exact ⟨rfl,_,rfl⟩
 obtain ⟨rfl,o1,o2,rfl⟩:=h
 refine yE (fun σ H' => Same H H' /\ ∃ o1 o2,σ = [some (V.ref a),some (V.ref ra),some (V.ref la),o1,o2]) (fun N hN => ?_) (fun σ H' h => ?_)
 · simp! []
   refine ⟨ws.length,.inl ⟨_,SqL.of hla,rfl⟩,by omega,by omega,?_⟩
   refine xS (n:=(ws.length:Int).toNat) (fun k σ H' => Same H H' /\ ∃ o1 o2,σ = [some (V.ref a),some (V.ref ra),some (V.ref la),o1,o2]) ⟨Same.refl _,_,_,rfl⟩ (fun k σ H' hk h => ?_) (fun σ H' h => hN _ _ h)
   obtain ⟨s2,o1,o2,rfl⟩:=h
   have e0:(0:Int) + (k:Int) = ((k:Nat):Int):=by omega
   have hk':k < ls.length:=by omega
   have hlk:ls[k]? = some ls[k]:=List.getElem?_eq_getElem hk'
   have how:=hok.siz _ (List.getElem_mem hk')
   have hst:=hok.snd k _ hlk
   generalize ls[k] = l at hlk how hst
   simp! []
   rw [e0]
   refine ⟨a,ra,la,us,vs',ws,rows,rules,ls,k,l,rfl,s2 _ _ ha,DAts.same s2 hrw,s2 _ _ hra,DAts.same s2 hru,s2 _ _ hla,DAts.same s2 hls,hlk,by have:=how.1; omega,fun ps hps => by have:=how.2 ps hps; omega,fun H3 s3 => ?_⟩
   rw [hst]
   refine ⟨_,rfl,?_⟩
   rw [if_neg (by decide)]
   exact ⟨s2.trans s3,_,rfl⟩
 obtain ⟨s2,o1,o2,rfl⟩:=h
 simp! []
 exact q _ s2
end
def GW (x:Str) (as:List Wt):Prop:=(x ≠ "rule" /\ ∃ ns:List Int,as = ns.map .n /\ ns.length <= 2) \/ (x = "rule" /\ ∃ r ps,as = [.n r,.ps ps] /\ ps.length <= 100)
theorem nsAt {H:Hp}:∀ {ns:List Int} {us:List V},ZD H (ns.map .n) us -> us = ns.map V.int
 | [],us,h => h
 | n :: ns, us, h => by
   obtain ⟨v,r,e1,e2,e3⟩:=h
   have e2:v = .int n:=e2
   rw [e1,e2,nsAt e3]
   rfl
theorem atNs (H:Hp):∀ ns:List Int,ZD H (ns.map .n) (ns.map V.int)
 | [] => rfl
 | n :: ns => ⟨_,_,rfl,rfl,atNs H ns⟩
theorem owN {ns:List Int} (h:ns.length <= 3):OW (ns.map .n):=⟨by rw [List.length_map]; exact h,fun ps hp => by
 obtain ⟨n,_,e⟩:=List.mem_map.mp hp
 cases e⟩
theorem gwN (x:Str) (h:x ≠ "rule") (ns:List Int) (hn:ns.length <= 2):GW x (ns.map .n):=.inl ⟨h,ns,rfl,hn⟩
def plc (x:Str) (as:List Wt):List Int:=if x = "rule" then (match as with | [_,.ps ps] => ps | _ => []) else as.filterMap fun a => match a with | .n i => some i | .ps _ => none
def GL (n:Nat) (x:Str) (as:List Wt):Prop:=GW x as /\ ∀ p ∈ plc x as,0 <= p /\ p < (n:Int)
theorem plcN {x:Str} (h:x ≠ "rule") (ns:List Int):plc x (ns.map .n) = ns:=by
 unfold plc
 rw [if_neg h,List.filterMap_map]
 induction ns with
 | nil => rfl
 | cons n ns ih => simp [ih]
theorem plcR (r:Wt) (ps:List Int):plc "rule" [r,.ps ps] = ps:=by
 unfold plc
 rw [if_pos rfl]
theorem glN (n:Nat) (x:Str) (h:x ≠ "rule") (ns:List Int) (hn:ns.length <= 2) (hp:∀ p ∈ ns,0 <= p /\ p < (n:Int)):GL n x (ns.map .n):=⟨gwN x h ns hn,by rw [plcN h]; exact hp⟩
theorem glR (n:Nat) (r:Int) (ps:List Int) (hl:ps.length <= 100) (hp:∀ p ∈ ps,0 <= p /\ p < (n:Int)):GL n "rule" [.n r,.ps ps]:=⟨.inr ⟨rfl,r,ps,rfl,hl⟩,by rw [plcR]; exact hp⟩
abbrev s_s:Stmt:=top 1
theorem sc_s:FnScope ["why"] ["why"] (zG s_s):=⟨rfl,rfl,rfl,by decide +kernel,rfl,by decide +kernel,by decide +kernel⟩
abbrev s_E:Stmt:=top 2
theorem sc_E:FnScope ["why","places"] ["why","places"] (zG s_E):=⟨rfl,rfl,rfl,by decide +kernel,rfl,by decide +kernel,by decide +kernel⟩
abbrev s_y:Stmt:=top 3
theorem sc_y:FnScope ["lines","i","j","k","line"] ["lines","i","j"] (zG s_y):=⟨rfl,rfl,rfl,by decide +kernel,rfl,by decide +kernel,by decide +kernel⟩
abbrev s_D:Stmt:=top 4
theorem sc_D:FnScope ["lines","k","needed","n","p"] ["lines","k"] (zG s_D):=⟨rfl,rfl,rfl,by decide +kernel,rfl,by decide +kernel,by decide +kernel⟩
abbrev s_F:Stmt:=top 5
theorem sc_F:FnScope ["lines","i","j","k","kept","places"] ["lines","i","j"] (zG s_F):=⟨rfl,rfl,rfl,by decide +kernel,rfl,by decide +kernel,by decide +kernel⟩
def yU (ks ps:List Int):List Int:=ps.foldl (fun ks p => if p ∈ ks then ks else ks ++ [p]) ks
theorem vQ (ks:List Int) (p:Int) (ps:List Int):yU ks (p :: ps) = yU (if p ∈ ks then ks else ks ++ [p]) ps:=rfl
theorem qU (ks ps:List Int) (p:Int):yU ks (ps ++ [p]) = if p ∈ yU ks ps then yU ks ps else yU ks ps ++ [p]:=by
 unfold yU
 rw [List.foldl_append]
 rfl
theorem yX (z:Int):∀ (ps ks:List Int),z ∈ yU ks ps ↔ z ∈ ks \/ z ∈ ps
 | [],ks => by simp [yU]
 | p :: ps, ks => by
   rw [vQ,yX z ps]
   by_cases h:p ∈ ks
   · rw [if_pos h, List.mem_cons]
     constructor
     · rintro (h1 | h1)
       · exact .inl h1
       · exact .inr (.inr h1)
     · rintro (h1 | rfl | h1)
       · exact .inl h1
       · exact .inl h
       · exact .inr h1
   · rw [if_neg h, List.mem_append, List.mem_singleton, List.mem_cons]
     constructor
     · rintro ((h1 | h1) | h1)
       · exact .inl h1
       · exact .inr (.inl h1)
       · exact .inr (.inr h1)
     · rintro (h1 | h1 | h1)
       · exact .inl (.inl h1)
       · exact .inl (.inr h1)
       · exact .inr h1
theorem nodup_snoc {ks:List Int} {p:Int} (h:ks.Nodup) (hp:p ∉ ks):(ks ++ [p]).Nodup :=
 List.nodup_append.mpr ⟨h,by simp,fun a ha b hb e => hp (by rw [List.mem_singleton.mp hb] at e; rw [← e]; exact ha)⟩
theorem nodup_addAll:∀ (ps ks:List Int),ks.Nodup -> (yU ks ps).Nodup
 | [],ks,h => h
 | p :: ps, ks, h => by
   rw [vQ]
   by_cases hp:p ∈ ks
   · rw [if_pos hp]; exact nodup_addAll ps ks h
   · rw [if_neg hp]; exact nodup_addAll ps _ (nodup_snoc h hp)
def back (nm:Int -> List Int) (k:Nat):Nat -> List Int
 | 0 => [(k:Int)]
 | i + 1 => if ((k:Int) - i) ∈ back nm k i then yU (back nm k i) (nm ((k:Int) - i)) else back nm k i
theorem jI {nm:Int -> List Int} {k i:Nat} (h:((k:Int) - i) ∈ back nm k i):back nm k (i + 1) = yU (back nm k i) (nm ((k:Int) - i)):=by
 show (if _ then _ else _) = _
 rw [if_pos h]
theorem jY {nm:Int -> List Int} {k i:Nat} (h:((k:Int) - i) ∉ back nm k i):back nm k (i + 1) = back nm k i:=by
 show (if _ then _ else _) = _
 rw [if_neg h]
theorem jJ (nm:Int -> List Int) (k:Nat):∀ i,(back nm k i).Nodup
 | 0 => by simp [back]
 | i + 1 => by
   by_cases h:((k:Int) - i) ∈ back nm k i
   · rw [jI h]; exact nodup_addAll _ _ (jJ nm k i)
   · rw [jY h]; exact jJ nm k i
theorem vB {nm:Int -> List Int} {k:Nat} (hn:∀ n:Int,0 <= n -> n <= k -> ∀ p ∈ nm n,0 <= p /\ p < n):∀ i,i <= k + 1 -> ∀ p ∈ back nm k i,0 <= p /\ p <= (k:Int)
 | 0, _, p, hp => by
   rw [List.mem_singleton.mp hp]
   omega
 | i + 1, hi, p, hp => by
   by_cases h:((k:Int) - i) ∈ back nm k i
   · rw [jI h, yX] at hp
     rcases hp with hp | hp
     · exact vB hn i (by omega) p hp
     · have := hn _ (by omega) (by omega) p hp
       omega
   · rw [jY h] at hp
     exact vB hn i (by omega) p hp
theorem jX {nm:Int -> List Int} {k i:Nat} {p:Int} (hp:p ∈ back nm k i):p ∈ back nm k (i + 1):=by
 by_cases h:((k:Int) - i) ∈ back nm k i
 · rw [jI h,yX]; exact .inl hp
 · rw [jY h]; exact hp
theorem qT {nm:Int -> List Int} {k:Nat} (hn:∀ n:Int,0 <= n -> n <= k -> ∀ p ∈ nm n,0 <= p /\ p < n):∀ i,i <= k + 1 -> ∀ n ∈ back nm k i,(k:Int) - i < n -> ∀ p ∈ nm n,p ∈ back nm k i
 | 0, _, n, hm, hlt, p, hp => by
   rw [List.mem_singleton.mp hm] at hlt
   omega
 | i + 1, hi, n, hm, hlt, p, hp => by
   by_cases h:((k:Int) - i) ∈ back nm k i
   · have hm' := hm
     rw [jI h,yX] at hm
     by_cases e:n = (k:Int) - i
     · subst e
       rw [jI h,yX]
       exact .inr hp
     · rcases hm with hm | hm
       · exact jX (qT hn i (by omega) n hm (by omega) p hp)
       · have := hn _ (by omega) (by omega) n hm
         omega
   · rw [jY h] at hm
     have e:n ≠ (k:Int) - i:=fun z => h (z ▸ hm)
     exact jX (qT hn i (by omega) n hm (by omega) p hp)
theorem ZC {nm:Int -> List Int} {k:Nat}:∀ i,(k:Int) ∈ back nm k i
 | 0 => by simp [back]
 | i + 1 => jX (ZC i)
def jW (ls:List Ln) (n:Int):List Int:=match ls[n.toNat]? with | some l => plc l.w l.as | none => []
def jM (ls:List Ln):Prop:=∀ (i:Nat) (l:Ln),ls[i]? = some l -> GL i l.w l.as
theorem nm_at {ls:List Ln} {n:Int} {l:Ln} (h:ls[n.toNat]? = some l):jW ls n = plc l.w l.as:=by
 unfold jW
 rw [h]
theorem qK {ls:List Ln} (h:jM ls):∀ n:Int,0 <= n -> ∀ p ∈ jW ls n,0 <= p /\ p < n:=by
 intro n h0 p hp
 unfold jW at hp
 cases e:ls[n.toNat]? with
 | none => rw [e] at hp; cases hp
 | some l =>
   rw [e] at hp
   have:=(h _ l e).2 p hp
   omega
def hung (ls:List Ln) (k:Nat):List Int:=back (jW ls) k (k + 1)
theorem wQ (ls:List Ln) (k:Nat):(hung ls k).Nodup:=jJ _ _ _
theorem ZX {ls:List Ln} (h:jM ls) (k:Nat):∀ p ∈ hung ls k,0 <= p /\ p <= (k:Int):=vB (fun n h0 _ => qK h n h0) (k + 1) (Nat.le_refl _)
theorem hung_closed {ls:List Ln} (h:jM ls) (k:Nat):∀ n ∈ hung ls k,∀ p ∈ jW ls n,p ∈ hung ls k:=fun n hn p hp =>
 qT (fun n h0 _ => qK h n h0) (k + 1) (Nat.le_refl _) n hn (by have:=ZX h k n hn; omega) p hp
theorem vF {l:List Int} {k:Nat} (hn:l.Nodup) (h:∀ p ∈ l,0 <= p /\ p <= (k:Int)):l.length <= k + 1:=by
 have:=nodup_subI (m:=(List.range (k + 1)).map fun i:Nat => (i:Int)) hn fun x hx => by
   have:=h x hx
   rw [List.mem_map]
   exact ⟨x.toNat,by rw [List.mem_range]; omega,by omega⟩
 rwa [List.length_map,List.length_range] at this
structure Kept (ls:List Ln) (k:Nat) (ks:List Int):Prop where
 perm:ks.Perm (hung ls k)
 rise:ks.Pairwise (· <= ·)
theorem Kept.nodup {ls:List Ln} {k:Nat} {ks:List Int} (h:Kept ls k ks):ks.Nodup:=h.perm.nodup_iff.mpr (wQ ls k)
theorem Kept.inn {ls:List Ln} {k:Nat} {ks:List Int} (h:Kept ls k ks) (ha:jM ls):∀ p ∈ ks,0 <= p /\ p <= (k:Int):=fun p hp => ZX ha k p (h.perm.mem_iff.mp hp)
theorem Kept.closed {ls:List Ln} {k:Nat} {ks:List Int} (h:Kept ls k ks) (ha:jM ls):∀ n ∈ ks,∀ p ∈ jW ls n,p ∈ ks:=fun n hn p hp => h.perm.mem_iff.mpr (hung_closed ha k n (h.perm.mem_iff.mp hn) p hp)
def xM (p:Int):List Int -> Nat
 | [] => 0
 | x :: xs => if x = p then 0 else xM p xs + 1
theorem qJ {p:Int}:∀ {l:List Int},p ∈ l -> l[xM p l]? = some p
 | [],h => by cases h
 | x :: xs, h => by
   unfold xM
   by_cases e:x = p
   · rw [if_pos e]; simp [e]
   · rw [if_neg e]
     rw [List.getElem?_cons_succ]
     exact qJ ((List.mem_cons.mp h).resolve_left (Ne.symm e))
def plKV:List Int -> Nat -> List (Key × V)
 | [],_ => []
 | n :: ns,i => (.inl n,.int i) :: plKV ns (i + 1)
theorem plKV_len:∀ (ns:List Int) (i:Nat),(plKV ns i).length = ns.length
 | [],_ => rfl
 | n :: ns,i => by show (plKV ns (i + 1)).length + 1 = _; rw [plKV_len ns (i + 1)]; rfl
theorem plKV_keys:∀ (ns:List Int) (i:Nat),(plKV ns i).map (·.1) = ns.map Sum.inl
 | [],_ => rfl
 | n :: ns,i => by show _ :: (plKV ns (i + 1)).map (·.1) = _; rw [plKV_keys ns (i + 1)]; rfl
theorem plKV_get:∀ {ns:List Int} {i j:Nat} {k:Key} {v:V},(plKV ns i)[j]? = some (k,v) -> ∃ n,ns[j]? = some n /\ k = .inl n /\ v = .int ((i + j:Nat):Int)
 | [],i,j,k,v,h => by cases h
 | n :: ns, i, 0, k, v, h => by
   cases h
   exact ⟨n,rfl,rfl,rfl⟩
 | n :: ns, i, j + 1, k, v, h => by
   obtain ⟨m,h1,h2,h3⟩:=plKV_get (ns:=ns) (i:=i + 1) (j:=j) h
   exact ⟨m,h1,h2,by rw [h3]; congr 2; omega⟩
theorem wM {p:Int}:∀ {ns:List Int} (i:Nat),p ∈ ns -> yS (plKV ns i) (.inl p) = some (.int ((i + xM p ns:Nat):Int))
 | [],i,h => by cases h
 | n :: ns, i, h => by
   by_cases e:n = p
   · subst e
     show yS ((Sum.inl n,V.int i) :: plKV ns (i + 1)) (.inl n) = _
     rw [jU rfl]
     simp [xM]
   · show yS ((Sum.inl n, V.int i) :: plKV ns (i + 1)) (.inl p) = _
     rw [xZ (fun z => e (Sum.inl.inj z)),wM (i + 1) ((List.mem_cons.mp h).resolve_left (Ne.symm e))]
     have ep:xM p (n :: ns) = xM p ns + 1:=by
       show (if n = p then 0 else xM p ns + 1) = _
       rw [if_neg e]
     rw [ep]
     congr 2
     omega
def rnw (ks:List Int) (l:Ln):Ln :=
 if l.w = "rule" then ⟨l.i,l.j,"rule",[l.as.headD (.n 0),.ps ((plc l.w l.as).map fun p => (xM p ks:Int))]⟩
 else ⟨l.i,l.j,l.w,((plc l.w l.as).map fun p => (xM p ks:Int)).map .n⟩
theorem uR {ks:List Int} {l:Ln} {r:Int} {ps:List Int} (hw:l.w = "rule") (ha:l.as = [.n r,.ps ps]):rnw ks l = ⟨l.i,l.j,"rule",[.n r,.ps (ps.map fun p => (xM p ks:Int))]⟩:=by
 unfold rnw
 rw [if_pos hw,ha,hw,plcR]
 rfl
theorem vV {ks:List Int} {l:Ln} {ns:List Int} (hw:l.w ≠ "rule") (ha:l.as = ns.map .n):rnw ks l = ⟨l.i,l.j,l.w,(ns.map fun p => (xM p ks:Int)).map .n⟩:=by
 unfold rnw
 rw [if_neg hw,ha,plcN hw]
def qD (ls:List Ln) (ks:List Int) (i:Nat):List Ln:=(ks.take i).filterMap fun n => (ls[n.toNat]?).map (rnw ks)
theorem papT_succ {ls:List Ln} {ks:List Int} {i:Nat} {n:Int} {l:Ln} (hn:ks[i]? = some n) (hl:ls[n.toNat]? = some l):qD ls ks (i + 1) = qD ls ks i ++ [rnw ks l]:=by
 obtain ⟨hi,e⟩:=List.getElem?_eq_some_iff.mp hn
 unfold qD
 rw [List.take_succ_eq_append_getElem hi,e,List.filterMap_append]
 congr 1
 simp [hl]
theorem papT_len (ls:List Ln) (ks:List Int) (i:Nat):(qD ls ks i).length <= i:=by
 unfold qD
 refine Nat.le_trans (List.length_filterMap_le _ _) ?_
 rw [List.length_take]
 omega
theorem rnw_ow {ks:List Int} {l:Ln} (h:GW l.w l.as):OW (rnw ks l).as:=by
 rcases h with ⟨hw,ns,ha,hn⟩ | ⟨hw,r,ps,ha,hp⟩
 · rw [vV hw ha]
   exact owN (by rw [List.length_map]; omega)
 · rw [uR hw ha]
   refine ⟨by simp,fun ps' hp' => ?_⟩
   simp only [List.mem_cons,List.not_mem_nil,or_false] at hp'
   rcases hp' with e | e
   · cases e
   · cases e; rw [List.length_map]; omega
theorem papT_ow {ls:List Ln} {ks:List Int} {i:Nat} (h:jM ls):∀ l ∈ qD ls ks i,OW l.as:=by
 intro l hl
 unfold qD at hl
 obtain ⟨n,_,e⟩:=List.mem_filterMap.mp hl
 cases hs:ls[n.toNat]? with
 | none => rw [hs] at e; cases e
 | some l' =>
   rw [hs] at e
   cases e
   exact rnw_ow (h _ l' hs).1
def trK (ks:List Int):List (Key × V):=ks.map fun n => (.inl n,.bl true)
theorem ZF (ks:List Int) (p:Int):xT (trK ks) (.inl p) (.bl true) = trK (if p ∈ ks then ks else ks ++ [p]):=by
 unfold xT
 have e:((trK ks).any fun kv => decide (kv.1 = (.inl p:Key))) = decide (p ∈ ks):=by
   unfold trK
   rw [List.any_map,Bool.eq_iff_iff,List.any_eq_true,decide_eq_true_eq]
   constructor
   · rintro ⟨x, hx, h⟩
     have h:x = p:=by simpa using h
     exact h ▸ hx
   · intro h
     exact ⟨p,h,by simp⟩
 rw [e]
 by_cases h:p ∈ ks
 · rw [if_pos (by simpa using h), if_pos h]
   unfold trK
   rw [List.map_map]
   refine List.map_congr_left fun x _ => ?_
   show (if (Sum.inl x:Key) = .inl p then _ else _) = _
   split <;> rfl
 · rw [if_neg (by simpa using h), if_neg h]
   unfold trK
   rw [List.map_append]
   rfl
theorem trK_val (ks:List Int) (p:Int):(yS (trK ks) (.inl p)).isSome = decide (p ∈ ks):=by
 unfold yS trK
 rw [Option.isSome_map,List.find?_map,Option.isSome_map,Bool.eq_iff_iff,List.find?_isSome,decide_eq_true_eq]
 constructor
 · rintro ⟨x, hx, h⟩
   have h:x = p:=by simpa using h
   exact h ▸ hx
 · intro h
   exact ⟨p,h,by simp⟩
theorem trK_keys (ks:List Int):(trK ks).map (·.1) = ks.map Sum.inl:=by
 unfold trK
 rw [List.map_map]
 rfl
theorem cut_1 (x:V) (xs:List V):uD (x :: xs) none (some 1) = [x]:=by
 show uD (x :: xs) none (some ((1:Nat):Int)) = [x]
 unfold uD
 rw [HT.sIx_nat,HT.sIx_none,List.length_cons,Nat.min_eq_left (by omega),List.drop_zero,Nat.sub_zero,List.take_succ_cons,List.take_zero]
theorem smB1 {n:Nat} (h:n <= 100000):n < sizeLine:=Nat.lt_of_le_of_lt h (by decide)
theorem smB {n:Nat} (h:n <= 100000):n <= sizeLine:=Nat.le_of_lt (smB1 h)
def spLN:Sp:=fun vs H Q _ => ∃ (v:V) (x:Str) (as:List Wt),vs = [v] /\ DAt H (vG x as) v /\ GW x as /\ ∀ p H',Same H H' -> H' p = some (.tup ((plc x as).map V.int)) -> Q (.ref p) H'
def spRn:Sp:=fun vs H Q _ => ∃ (v:V) (d:Addr) (l:Ln) (ks:List Int),vs = [v,.ref d] /\ DAt H (vG l.w l.as) v /\ GW l.w l.as /\ H d = some (.dK (plKV ks 0)) /\ (∀ p ∈ plc l.w l.as,p ∈ ks) /\ ∀ v' H',Same H H' -> DAt H' (vG (rnw ks l).w (rnw ks l).as) v' -> Q v' H'
def FP (ls:List Ln) (i j:Int) (r:V):Prop:=(r = .non /\ ∀ l ∈ ls,¬ (l.i = i /\ l.j = j)) \/ ∃ (k:Nat) (l:Ln),r = .int k /\ ls[k]? = some l /\ (l.i = i /\ l.j = j) /\ ∀ (m:Nat) (l':Ln),m < k -> ls[m]? = some l' -> ¬ (l'.i = i /\ l'.j = j)
def spFor:Sp:=fun vs H Q _ => ∃ (la:Addr) (ws:List V) (ls:List Ln) (i j:Int),vs = [.ref la,.int i,.int j] /\ H la = some (.lst ws) /\ jL H ls ws /\ ∀ r H',Same H H' -> FP ls i j r -> Q r H'
section
variable {P:Program} {w:World} {K:PySem.W.Frag} {mg:Str -> Option Value} {base:Heap} {f:Addr} {fd:FuncData}
theorem wN (bi:Bi mg) (F:Fun K "lines_named" "lines_named" s_s f fd):FnOk P w K mg base CX0 1 f fd ["why"] spLN:=by
 refine F.ok sc_s (fun vs H Q E h => ?_) (fun cdv A outer s H vs Q E hr h => ?_)
 · obtain ⟨v, x, as, rfl, _⟩ := h
   rfl
 obtain ⟨v,x,as,rfl,hv,hg,q⟩:=h
 have at2:∀ {a b c:V},atI [a,b,c] 2 = some c:=zZ (j:=2) rfl
 obtain ⟨a,us,rfl,ha,hus⟩:=whyAt hv
 refine ⟨_,(zE (zQ (pe_ifExp (zN op_eq (zI ix_tup (pv 0) zB (fun _ _ => rfl)) yB (zL _)) (zI ix_tup (pv 0) zB (fun _ _ => rfl)) (jD sl_tupG (pv 0) (qB zB) po_none)))),?_⟩
 simp! [rSlG]
 refine ⟨_,SqT.of ha,_,at0,rfl,?_⟩
 rcases hg with ⟨hw,ns,rfl,_⟩ | ⟨rfl,r,ps,rfl,_⟩
 · rw [if_neg (fun e => hw (V.str.inj e))]
   have e:=nsAt hus
   subst e
   refine ⟨_,ha,fun p H' s1 k1 => q p H' s1 ?_⟩
   rw [uZ] at k1
   rw [plcN hw]
   exact k1
 · rw [if_pos rfl]
   obtain ⟨v1,r1,e1,e2,v2,r2,e3,e4,e5⟩:=hus
   have e5:r2 = []:=e5
   subst e5 e3 e1
   obtain ⟨b,rfl,hb⟩:=psAt e4
   refine ⟨_,SqT.of ha,_,at2,q b H (Same.refl H) ?_⟩
   rw [plcR]
   exact hb
theorem ok_renamed (bi:Bi mg) (F:Fun K "renamed" "renamed" s_E f fd):FnOk P w K mg base CX0 1 f fd ["why","places"] spRn:=by
 refine F.ok sc_E (fun vs H Q E h => ?_) (fun cdv A outer s H vs Q E hr h => ?_)
 · obtain ⟨v, d, l, ks, rfl, _⟩ := h
   rfl
 obtain ⟨v,d,l,ks,rfl,hv,hg,hd,hin,q⟩:=h
 have at2:∀ {a b c:V},atI [a,b,c] 2 = some c:=zZ (j:=2) rfl
 obtain ⟨a,us,rfl,ha,hus⟩:=whyAt hv
 refine ⟨_,(zD (yI (zN op_eq (zI ix_tup (pv 0) zB (fun _ _ => rfl)) yB (zL _)) (zE (zQ (zX (zA yB (zA (zI ix_tup (pv 0) zB (fun _ _ => rfl)) (zA (xP call_tuple_of rfl bi.tuple bt_tuple (zA (xV ["p"] ["places"] [1] (vD (zI ix_tup (pv 0) zB (fun _ _ => rfl))) (fun _ _ _ _ nd => zM (i:=0) nd rfl (Or.inl rfl)) (fun _ _ _ _ => xR) (fun _ _ _ _ => (ZR (jH hr) (pv 1) (pv 0) (fun _ _ => rfl)))) pa_nil)) pa_nil)))))) pss_nil) (zE (zQ (zO op_catG (jD sl_tupG (pv 0) po_none (qB zB)) (xP call_tuple_of rfl bi.tuple bt_tuple (zA (xV ["p"] ["places"] [1] (vD (jD sl_tupG (pv 0) (qB zB) po_none)) (fun _ _ _ _ nd => zM (i:=0) nd rfl (Or.inl rfl)) (fun _ _ _ _ => xR) (fun _ _ _ _ => (ZR (jH hr) (pv 1) (pv 0) (fun _ _ => rfl)))) pa_nil)))))),?_⟩
 refine zJ fun N hN => ?_
 simp! [rSlG,rCatG]
 refine ⟨_,SqT.of ha,_,at0,rfl,?_⟩
 rcases hg with ⟨hw,ns,has,hn2⟩ | ⟨hw,r,ps,has,hp100⟩
 · rw [if_neg (fun e => hw (V.str.inj e))]
   refine hN _ _ ?_
   rw [has] at hus
   have e:=nsAt hus
   subst e
   rw [has,plcN hw] at hin
   rw [vV hw has] at q
   simp! [rSlG,rCatG]
   refine ⟨_,ha,fun p1 H1 s1 k1 => ?_⟩
   rw [cut_1] at k1
   refine ⟨_,s1 _ _ ha,fun p2 H2 s2 k2 => ?_⟩
   rw [uZ] at k2
   refine ⟨⟨_,SqT.of k2⟩,?_⟩
   refine lc_tup (xs:=ns.map V.int) (fun i ys σ H' => Same H2 H' /\ ys = ((ns.take i).map fun p => (xM p ks:Int)).map V.int /\ ∃ o,σ = [o,some (V.ref d)]) ⟨Same.refl _,rfl,_,rfl⟩ (smB (by rw [List.length_map]; omega)) (fun i ys σ H' e => ?_) (fun i ys σ H' e => SqT.of (e.1 _ _ k2)) (fun i x ys σ H' C hx e hC => ?_) (fun ys σ H' e p3 hp3 => ?_)
   · obtain ⟨_, rfl, _⟩ := e
     rw [List.length_map,List.length_map,List.length_take]
     omega
   · obtain ⟨es, rfl, o, rfl⟩ := e
     rw [List.getElem?_map] at hx
     cases hni:ns[i]? with
     | none => rw [hni] at hx; cases hx
     | some n =>
       rw [hni] at hx
       cases hx
       simp! []
       refine ⟨_,.inl ⟨_,.inl n,.inl (es _ _ (s2 _ _ (s1 _ _ hd))),rfl,(wM 0 (hin n (List.mem_of_getElem? hni))).symm⟩,hC _ _ _ ⟨es,?_,_,rfl⟩⟩
       obtain ⟨hi,e⟩:=List.getElem?_eq_some_iff.mp hni
       rw [List.take_succ_eq_append_getElem hi,e,List.map_append,List.map_append,Nat.zero_add]
       rfl
   obtain ⟨es,rfl,o,rfl⟩:=e
   rw [List.length_map,List.take_of_length_le (Nat.le_refl _)]
   refine ⟨p3,rfl,_,.inl ⟨SqL.of zC,fun p4 hp4 => ?_⟩⟩
   have s3:=zF hp3 (.lst ((ns.map fun p => (xM p ks:Int)).map V.int))
   have s4:=zF hp4 (.tup ((ns.map fun p => (xM p ks:Int)).map V.int))
   have ss:=(s2.trans es).trans (s3.trans s4)
   refine ⟨_,ss _ _ k1,_,zC,smB (by simp; omega),fun p5 H5 s5 k5 => ?_⟩
   refine q _ _ ((s1.trans ss).trans s5) ⟨p5,_,rfl,k5,_,_,rfl,rfl,atNs _ _⟩
 · rw [if_pos (congrArg V.str hw)]
   rw [has] at hus
   obtain ⟨v1,r1,e1,e2,v2,r2,e3,e4,e5⟩:=hus
   have e5:r2 = []:=e5
   have e2:v1 = .int r:=e2
   subst e5 e3 e1 e2
   obtain ⟨b,rfl,hb⟩:=psAt e4
   rw [hw,has,plcR] at hin
   rw [uR hw has] at q
   refine ⟨_,SqT.of ha,_,at1,_,SqT.of ha,_,at2,b,rfl,⟨_,SqT.of hb⟩,?_⟩
   refine lc_tup (xs:=ps.map V.int) (fun i ys σ H' => Same H H' /\ ys = ((ps.take i).map fun p => (xM p ks:Int)).map V.int /\ ∃ o,σ = [o,some (V.ref d)]) ⟨Same.refl _,rfl,_,rfl⟩ (smB (by rw [List.length_map]; omega)) (fun i ys σ H' e => ?_) (fun i ys σ H' e => SqT.of (e.1 _ _ hb)) (fun i x ys σ H' C hx e hC => ?_) (fun ys σ H' e p3 hp3 => ?_)
   · obtain ⟨_, rfl, _⟩ := e
     rw [List.length_map,List.length_map,List.length_take]
     omega
   · obtain ⟨es, rfl, o, rfl⟩ := e
     rw [List.getElem?_map] at hx
     cases hni:ps[i]? with
     | none => rw [hni] at hx; cases hx
     | some n =>
       rw [hni] at hx
       cases hx
       simp! []
       refine ⟨_,.inl ⟨_,.inl n,.inl (es _ _ hd),rfl,(wM 0 (hin n (List.mem_of_getElem? hni))).symm⟩,hC _ _ _ ⟨es,?_,_,rfl⟩⟩
       obtain ⟨hi,e⟩:=List.getElem?_eq_some_iff.mp hni
       rw [List.take_succ_eq_append_getElem hi,e,List.map_append,List.map_append,Nat.zero_add]
       rfl
   obtain ⟨es,rfl,o,rfl⟩:=e
   rw [List.length_map,List.take_of_length_le (Nat.le_refl _)]
   refine ⟨p3,rfl,_,.inl ⟨SqL.of zC,fun p4 hp4 => ⟨smB (by simp),fun p5 hp5 => ?_⟩⟩⟩
   have s3:=zF hp3 (.lst ((ps.map fun p => (xM p ks:Int)).map V.int))
   have s4:=zF hp4 (.tup ((ps.map fun p => (xM p ks:Int)).map V.int))
   have s5:=zF hp5 (.tup [.str "rule",.int r,.ref p4])
   refine q _ _ ((es.trans (s3.trans s4)).trans s5) ⟨p5,_,rfl,zC,_,_,rfl,rfl,_,_,rfl,rfl,_,_,rfl,atPs (s5 _ _ zC),rfl⟩
theorem ok_line_for (bi:Bi mg) (be:mg "enumerate" = none) (F:Fun K "line_for" "line_for" s_y f fd):FnOk P w K mg base CX0 1 f fd ["lines","i","j"] spFor:=by
 refine F.ok sc_y (fun vs H Q E h => ?_) (fun cdv A outer s H vs Q E hr h => ?_)
 · obtain ⟨la, ws, ls, i, j, rfl, _⟩ := h
   rfl
 obtain ⟨la,ws,ls,i,j,rfl,hla,hls,q⟩:=h
 have hwl:=yK hls
 refine ⟨_,(zD (yR PassesOwn.never rfl (uU rfl be (zA (pv 0) pa_nil)) (uG rfl (yL (zM (i:=3) sc_y.nd rfl (Or.inl rfl)) (yL (zM (i:=4) sc_y.nd rfl (Or.inl rfl)) pgs_nil))) (zE (yI (zN (uI hr.units) (zX (zA (zI ix_tup (pv 4) zB (fun _ _ => rfl)) (zA (zI ix_tup (pv 4) zB (fun _ _ => rfl)) pa_nil))) (zX (zA (pv 1) (zA (pv 2) pa_nil))) (zL _)) (zE (zQ (pv 3))) pss_nil))) (zE (zQ uH))),?_⟩
 refine yE (fun σ H' => ∃ (o1 o2:Option V),Same H H' /\ (∀ l ∈ ls,¬ (l.i = i /\ l.j = j)) /\ σ = [some (V.ref la),some (V.int i),some (V.int j),o1,o2]) (fun N hN => ?_) (fun σ H' h => ?_)
 · simp! [kU]
   refine ⟨_,hla,?_⟩
   refine wC (xs:=ws) (fun n σ H' => ∃ (o1 o2:Option V),Same H H' /\ (∀ (m:Nat) (l':Ln),m < n -> ls[m]? = some l' -> ¬ (l'.i = i /\ l'.j = j)) /\ σ = [some (V.ref la),some (V.int i),some (V.int j),o1,o2]) ⟨_,_,Same.refl _,(fun m l z => by cases z),rfl⟩ (fun n σ H' h => ?_) (fun n x σ H' p hx h hp => ?_) (fun σ H' h => ?_)
   · obtain ⟨o1, o2, s1, _⟩ := h
     exact s1 _ _ hla
   · obtain ⟨o1, o2, s1, hno, rfl⟩ := h
     obtain ⟨l,hl1,hl2⟩:=yW hls hx
     obtain ⟨b,u,rfl,hb,_⟩:=kD hl2
     have s2:=zF hp (.tup [.int n,.ref b])
     have k2:upd H' p (.tup [.int n,.ref b]) p = some (.tup [.int n,.ref b]):=zC
     replace s1:=s1.trans s2
     generalize upd H' p (.tup [.int n,.ref b]) = H2 at s1 k2 ⊢
     replace hb:=s1 _ _ hb
     simp! [wT,uE,gNil]
     refine ⟨[.int n,.ref b],SqT.of k2,rfl,.int n,[.ref b],rfl,.ref b,[],rfl,rfl,?_⟩
     refine ⟨b,rfl,_,SqT.of hb,_,at0,b,rfl,_,SqT.of hb,_,at1,smB (by simp),fun p3 h3 => ⟨smB (by simp),fun p4 h4 => ?_⟩⟩
     have s3:=zF h3 (.tup [.int l.i,.int l.j])
     have s4:=zF h4 (.tup [.int i,.int j])
     refine ⟨0,dPr (l.i,l.j),dPr (i,j),⟨p3,_,rfl,s4 _ _ zC,_,_,rfl,rfl,_,_,rfl,rfl,rfl⟩,⟨p4,_,rfl,zC,_,_,rfl,rfl,_,_,rfl,rfl,rfl⟩,YB 0 _,by omega,_,rfl,?_⟩
     rw [YD]
     by_cases e:l.i = i /\ l.j = j
     · rw [if_pos (by rw [e.1, e.2]; simp)]
       exact q _ _ (s1.trans (s3.trans s4)) (.inr ⟨n,l,rfl,hl1,e,hno⟩)
     · rw [if_neg (by simpa using e)]
       refine ⟨s1.trans (s3.trans s4),fun m l' hm hl' => ?_,_,rfl⟩
       by_cases em:m = n
       · subst em
         rw [hl1] at hl'
         cases hl'
         exact e
       · exact hno m l' (by omega) hl'
   · obtain ⟨o1, o2, s1, hno, rfl⟩ := h
     refine hN _ _ ⟨o1,o2,s1,fun l hl => ?_,rfl⟩
     obtain ⟨m,hm,e⟩:=List.getElem_of_mem hl
     exact hno m l (by omega) (by rw [List.getElem?_eq_getElem hm,e])
 obtain ⟨o1,o2,s1,hno,rfl⟩:=h
 simp! []
 exact q _ _ s1 (.inl ⟨rfl,hno⟩)
end
def spHu:Sp:=fun vs H Q _ => ∃ (la:Addr) (ws:List V) (ls:List Ln) (k:Nat),vs = [.ref la,.int k] /\ H la = some (.lst ws) /\ jL H ls ws /\ jM ls /\ k < ls.length /\ ls.length <= 40000 /\ ∀ p ks H',Same H H' -> H' p = some (.lst (ks.map V.int)) -> Kept ls k ks -> Q (.ref p) H'
def PapAt (H:Hp) (ls:List Ln) (i j:Int) (r:V):Prop:=(r = .non /\ ∀ l ∈ ls,¬ (l.i = i /\ l.j = j)) \/
 ∃ (k:Nat) (l:Ln) (ks:List Int),ls[k]? = some l /\ (l.i = i /\ l.j = j) /\ (∀ (m:Nat) (l':Ln),m < k -> ls[m]? = some l' -> ¬ (l'.i = i /\ l'.j = j)) /\ Kept ls k ks /\ DAt H (.lst ((qD ls ks ks.length).map dLn)) r
def spPa:Sp:=fun vs H Q _ => ∃ (la:Addr) (ws:List V) (ls:List Ln) (i j:Int),vs = [.ref la,.int i,.int j] /\ H la = some (.lst ws) /\ jL H ls ws /\ jM ls /\ ls.length <= 40000 /\ ∀ r H',Same H H' -> PapAt H' ls i j r -> Q r H'
theorem hung_len {ls:List Ln} (h:jM ls) {k:Nat} (hk:k < ls.length) (h63:ls.length <= 40000):(hung ls k).length <= 40000:=by
 have:=vF (wQ ls k) (ZX h k)
 omega
theorem back_len {ls:List Ln} (h:jM ls) {k i:Nat} (hi:i <= k + 1):(back (jW ls) k i).length <= k + 1:=vF (jJ _ _ _) (vB (fun n h0 _ => qK h n h0) i hi)
section
variable {P:Program} {w:World} {K:PySem.W.Frag} {mg:Str -> Option Value} {base:Heap} {f:Addr} {fd:FuncData}
theorem ok_hung_on (bi:Bi mg) (h_s:Has P w K mg base 1 "lines_named" ["why"] spLN) (F:Fun K "hung_on" "hung_on" s_D f fd):FnOk P w K mg base CX0 2 f fd ["lines","k"] spHu:=by
 refine F.ok sc_D (fun vs H Q E h => ?_) (fun cdv A outer s H vs Q E hr h => ?_)
 · obtain ⟨la, ws, ls, k, rfl, _⟩ := h
   rfl
 obtain ⟨la,ws,ls,k,rfl,hla,hls,hah,hk,h63,q⟩:=h
 have hwl:=yK hls
 have at2:∀ {a b c:V},atI [a,b,c] 2 = some c:=zZ (j:=2) rfl
 refine ⟨_,(zD (zP (i:=2) sc_D.nd rfl (Or.inl rfl) (pe_disp (pps_cons (pv 1) xG pps_nil) rfl rfl (by simp) (by decide))) (zD (yR PassesOwn.never rfl (pi_down rfl bi.range (zA (pv 1) (zA (uV un_neg zB) (zA (uV un_neg zB) pa_nil)))) (zM (i:=3) sc_D.nd rfl (Or.inl rfl)) (zE (yI (ZO (pc_din (jH hr) (pv 3) (pv 2)) (by with_unfolding_all rfl)) (zE (yR PassesOwn.never rfl (vD (zR h_s (hr.mono (by omega)) rfl (zA (zI ix_tup (zI ix_list (pv 0) (pv 3) (fun _ _ => rfl)) zB (fun _ _ => rfl)) pa_nil))) (zM (i:=4) sc_D.nd rfl (Or.inl rfl)) (zE (uT (jH hr) (pv 2) (pv 4) xG rfl)))) pss_nil))) (zE (zQ (zK call_sortedDIB rfl bi.sorted bt_sorted (zA (pv 2) pa_nil)))))),?_⟩
 refine zJ fun N hN => ?_
 simp! []
 refine fun nd hnd => ⟨zC,[(.inl (k:Int),.bl true)],rfl,by simp,hN _ _ ?_⟩
 clear hN
 have s1:Same H (upd (upd H nd (.dK [])) nd (.dK (qM [] [(.inl (k:Int),V.bl true)]))):=((Same.refl H).upd hnd).upd hnd
 have k1:upd (upd H nd (.dK [])) nd (.dK (qM [] [(.inl (k:Int),V.bl true)])) nd = some (.dK (trK (back (jW ls) k 0))):=zC
 generalize upd (upd H nd (.dK [])) nd (.dK (qM [] [(.inl (k:Int),V.bl true)])) = H1 at s1 k1 ⊢
 refine yE (fun σ H' => ∃ (o1 o2:Option V),Same H H' /\ H' nd = some (.dK (trK (hung ls k))) /\ σ = [some (V.ref la),some (V.int k),some (V.ref nd),o1,o2]) (fun N hN => ?_) (fun σ H' h => ?_)
 · simp! [iDown]
   refine ⟨k,rfl,by omega,?_⟩
   refine fw_down (n:=k + 1) (hi:=(k:Int)) (fun i σ H' => ∃ (o1 o2:Option V),Same H H' /\ H' nd = some (.dK (trK (back (jW ls) k i))) /\ σ = [some (V.ref la),some (V.int k),some (V.ref nd),o1,o2]) ⟨_,_,s1,k1,rfl⟩ (fun i σ H' hi h => ?_) (fun σ H' h => ?_)
   · obtain ⟨o1, o2, s2, k2, rfl⟩ := h
     have hbl:=back_len hah (i:=i) (k:=k) (by omega)
     simp! [tDIn]
     refine ⟨_,.inl ⟨_,.inl ((k:Int) - i),.inl k2,rfl,rfl⟩,?_⟩
     rw [trK_val]
     by_cases hin:((k:Int) - i) ∈ back (jW ls) k i
     rotate_left
     · rw [if_neg (by simpa using hin)]
       refine ⟨s2,?_,_,rfl⟩
       rw [jY hin]
       exact k2
     rw [if_pos (by simpa using hin)]
     have hn0:((k:Int) - i).toNat < ls.length:=by omega
     obtain ⟨v,hv1,hv2⟩:=DAts.get (d:=dLn ls[((k:Int) - i).toNat]) hls (by rw [List.getElem?_map,List.getElem?_eq_getElem hn0]; rfl)
     have hlx:=List.getElem?_eq_getElem hn0
     have hgl:=hah _ _ hlx
     have hnm:=nm_at hlx
     generalize ls[((k:Int) - i).toNat] = l at hv2 hgl hnm
     obtain ⟨b,u,rfl,hb,hu⟩:=kD hv2
     refine ⟨_,SqL.of (s2 _ _ hla),_,jK (by omega) hv1,b,rfl,_,SqT.of (s2 _ _ hb),_,at2,?_⟩
     refine ⟨u,l.w,l.as,rfl,DAt.same s2 hu,hgl.1,fun pt H3 s3 k3 => ?_⟩
     rw [← hnm] at k3
     have k23:=s3 _ _ k2
     have nn:pt ≠ nd:=fun z => by rw [z,k23] at k3; cases k3
     refine ⟨pt,rfl,⟨_,SqT.of k3⟩,?_⟩
     rw [jI hin]
     have hps:∀ p ∈ jW ls ((k:Int) - i),0 <= p /\ p <= (k:Int):=fun p hp => by
       have:=qK hah _ (by omega) p hp
       omega
     refine fw_tup (xs:=(jW ls ((k:Int) - i)).map V.int) (fun m σ H' => ∃ (o:Option V),Same H H' /\ H' pt = some (.tup ((jW ls ((k:Int) - i)).map V.int)) /\ H' nd = some (.dK (trK (yU (back (jW ls) k i) ((jW ls ((k:Int) - i)).take m)))) /\ σ = [some (V.ref la),some (V.int k),some (V.ref nd),some (V.int ((k:Int) - i)),o]) ⟨_,s2.trans s3,k3,k23,rfl⟩ (fun m σ H' _ h => ?_) (fun m x σ H' hx h => ?_) (fun σ H' h => ?_)
     · obtain ⟨o, _, h2, _⟩ := h
       exact SqT.of h2
     · obtain ⟨o, s4, k4, k5, rfl⟩ := h
       rw [List.getElem?_map] at hx
       cases hni:(jW ls ((k:Int) - i))[m]? with
       | none => rw [hni] at hx; cases hx
       | some p =>
         rw [hni] at hx
         cases hx
         simp! [kN]
         have hal:(yU (back (jW ls) k i) ((jW ls ((k:Int) - i)).take m)).length <= k + 1:=by
           refine vF (nodup_addAll _ _ (jJ _ _ _)) fun z hz => ?_
           rcases (yX z _ _).mp hz with hz | hz
           · exact vB (fun n h0 _ => qK hah n h0) i (by omega) z hz
           · exact hps z (List.mem_of_mem_take hz)
         obtain ⟨hm,e⟩:=List.getElem?_eq_some_iff.mp hni
         refine ⟨_,.inl ⟨_,.inl p,k5,rfl,?_,rfl⟩,s4.upd hnd,by rw [zH nn]; exact k4,?_,_,rfl⟩
         · unfold trK
           rw [List.length_map]
           exact smB1 (by omega)
         rw [zC,ZF,List.take_succ_eq_append_getElem hm,e,qU]
     · obtain ⟨o, s4, k4, k5, rfl⟩ := h
       rw [List.length_map,List.take_of_length_le (Nat.le_refl _)] at k5
       exact ⟨s4,k5,_,_,rfl⟩
   · obtain ⟨o1, o2, s2, k2, rfl⟩ := h
     exact hN _ _ ⟨_,_,s2,k2,rfl⟩
 obtain ⟨o1,o2,s2,k2,rfl⟩:=h
 simp! []
 have hl:=hung_len hah hk h63
 refine ⟨_,k2,hung ls k,trK_keys _,by omega,fun p ks hp hpm hrs => ?_⟩
 exact q _ ks _ (s2.trans (zF hp _)) zC ⟨hpm,hrs⟩
theorem ok_paper (bi:Bi mg) (be:mg "enumerate" = none) (h_y:Has P w K mg base 1 "line_for" ["lines","i","j"] spFor) (h_D:Has P w K mg base 2 "hung_on" ["lines","k"] spHu) (h_E:Has P w K mg base 1 "renamed" ["why","places"] spRn) (F:Fun K "paper" "paper" s_F f fd):FnOk P w K mg base CX0 3 f fd ["lines","i","j"] spPa:=by
 refine F.ok sc_F (fun vs H Q E h => ?_) (fun cdv A outer s H vs Q E hr h => ?_)
 · obtain ⟨la, ws, ls, i, j, rfl, _⟩ := h
   rfl
 obtain ⟨la,ws,ls,i,j,rfl,hla,hls,hah,h63,q⟩:=h
 have hwl:=yK hls
 have at2:∀ {a b c:V},atI [a,b,c] 2 = some c:=zZ (j:=2) rfl
 refine ⟨_,(zD (zP (i:=3) sc_F.nd rfl (Or.inl rfl) (zR h_y (hr.mono (by omega)) rfl (zA (pv 0) (zA (pv 1) (zA (pv 2) pa_nil))))) (zD (yI (zN op_isN (pv 3) uH (zL _)) (zE (zQ uH)) pss_nil) (zD (zP (i:=4) sc_F.nd rfl (Or.inl rfl) (zR h_D (hr.mono (by omega)) rfl (zA (pv 0) (zA (pv 3) pa_nil)))) (zD (zP (i:=5) sc_F.nd rfl (Or.inr rfl) (xP call_dictP rfl bi.dict bt_dict (zA (xV ["place","n"] [] [] (uU rfl be (zA (pv 4) pa_nil)) (fun _ _ _ _ nd => ZQ (K:=K) (n:=2) rfl (yL (zM (i:=0) nd rfl (Or.inl rfl)) (yL (zM (i:=1) nd rfl (Or.inl rfl)) pgs_nil))) (fun _ _ _ _ => xR) (fun _ _ _ _ => (zX (zA (pv 1) (zA (pv 0) pa_nil))))) pa_nil))) (zE (zQ (xV ["n"] ["places","lines"] [5,0] (xD (pv 4)) (fun _ _ _ _ nd => zM (i:=0) nd rfl (Or.inl rfl)) (fun _ _ _ _ => xR) (fun _ _ _ _ => (zX (zA (zI (uY K) (zI (qQ K) (pv 2) (pv 0) (fun _ _ => rfl)) zB (fun _ _ => rfl)) (zA (zI (uY K) (zI (qQ K) (pv 2) (pv 0) (fun _ _ => rfl)) zB (fun _ _ => rfl)) (zA (zR h_E (hr.mono (by omega)) rfl (zA (zI (uY K) (zI (qQ K) (pv 2) (pv 0) (fun _ _ => rfl)) zB (fun _ _ => rfl)) (zA (pv 1) pa_nil))) pa_nil)))))))))))),?_⟩
 refine zJ fun N hN => ?_
 simp! []
 refine ⟨la,ws,ls,i,j,rfl,hla,hls,fun r H1 s1 hr1 => hN _ _ ?_⟩
 replace hla:=s1 _ _ hla
 replace hls:=DAts.same s1 hls
 clear hN
 refine zJ fun N hN => ?_
 simp! []
 rcases hr1 with ⟨rfl,hno⟩ | ⟨k,l,rfl,hlk,hij,hno⟩
 · rw [if_pos rfl]
   exact q _ _ s1 (.inl ⟨rfl,hno⟩)
 rw [if_neg (by intro z; cases z)]
 refine hN _ _ ?_
 clear hN
 have hk:=(List.getElem?_eq_some_iff.mp hlk).1
 refine zJ fun N hN => ?_
 simp! []
 refine ⟨la,ws,ls,k,rfl,hla,hls,hah,hk,h63,fun pk ks H2 s2 k2 hks => hN _ _ ?_⟩
 replace hla:=s2 _ _ hla
 replace hls:=DAts.same s2 hls
 replace s1:=s1.trans s2
 clear hN
 have hkn:=hks.nodup
 have hki:=hks.inn hah
 have hkl:=vF hkn hki
 refine zJ fun N hN => ?_
 simp! [kU]
 refine ⟨_,k2,?_⟩
 refine lc_enum (xs:=ks.map V.int) (fun i ys σ H' => Same H2 H' /\ (∃ as:List Addr,ys = as.map V.ref /\ as.length = i /\ ∀ (m:Nat) (a:Addr),as[m]? = some a -> ∃ n,ks[m]? = some n /\ H' a = some (.tup [.int n,.int m])) /\ ∃ o1 o2,σ = [o1,o2]) ⟨Same.refl _,⟨[],rfl,rfl,fun m a z => by cases z⟩,_,_,rfl⟩ (smB (by rw [List.length_map]; omega)) (fun i ys σ H' e => ?_) (fun i ys σ H' e => e.1 _ _ k2) (fun i x ys σ H' p C hx e hp hC => ?_) (fun ys σ H' e p3 hp3 => ?_)
 · obtain ⟨_, ⟨as, rfl, hl, _⟩, _⟩ := e
   rw [List.length_map]
   omega
 · obtain ⟨es, ⟨as, rfl, hal, has⟩, o1, o2, rfl⟩ := e
   rw [List.getElem?_map] at hx
   cases hni:ks[i]? with
   | none => rw [hni] at hx; cases hx
   | some n =>
     rw [hni] at hx
     cases hx
     have s3:=zF hp (.tup [.int i,.int n])
     have k3:upd H' p (.tup [.int i,.int n]) p = some (.tup [.int i,.int n]):=zC
     generalize upd H' p (.tup [.int i,.int n]) = H3 at s3 k3 ⊢
     simp! [wT,uE,gNil]
     refine ⟨[.int i,.int n],SqT.of k3,rfl,.int i,[.int n],rfl,.int n,[],rfl,rfl,smB (by simp),fun p4 hp4 => hC _ _ _ ?_⟩
     have s4:=zF hp4 (.tup [.int n,.int i])
     refine ⟨(es.trans s3).trans s4,⟨as ++ [p4],by rw [List.map_append]; rfl,by simp [hal],fun m a hm => ?_⟩,_,_,rfl⟩
     by_cases hlt:m < as.length
     · rw [List.getElem?_append_left hlt] at hm
       obtain ⟨n',h1,h2⟩:=has m a hm
       exact ⟨n',h1,s4 _ _ (s3 _ _ h2)⟩
     · have hm2 := (List.getElem?_eq_some_iff.mp hm).1
       rw [List.length_append,List.length_singleton] at hm2
       have em:m = as.length:=by omega
       subst em
       rw [List.getElem?_append_right (Nat.le_refl _),Nat.sub_self] at hm
       cases hm
       refine ⟨n,by rw [hal]; exact hni,?_⟩
       rw [hal]
       exact zC
 obtain ⟨es,⟨as,rfl,hal,has⟩,o1,o2,rfl⟩:=e
 rw [List.length_map] at hal
 have s3:=zF hp3 (.lst (as.map V.ref))
 have k3:upd H' p3 (.lst (as.map V.ref)) p3 = some (.lst (as.map V.ref)):=zC
 generalize upd H' p3 (.lst (as.map V.ref)) = H3 at s3 k3 ⊢
 refine ⟨p3,rfl,as,SqL.of k3,plKV ks 0,by rw [plKV_len]; exact hal,?_,fun m kk v hm => ?_,fun d hd => hN _ _ ?_⟩
 · rw [plKV_keys]
   exact List.pairwise_map.mpr (List.Pairwise.imp (fun hne e => hne (Sum.inl.inj e)) hkn)
 · obtain ⟨n, h1, rfl, rfl⟩ := plKV_get hm
   have hm':m < as.length:=by rw [hal]; exact (List.getElem?_eq_some_iff.mp h1).1
   obtain ⟨n',h2,h3⟩:=has m as[m] (List.getElem?_eq_getElem hm')
   rw [h1] at h2
   cases h2
   exact ⟨as[m],List.getElem?_eq_getElem hm',SqT.of (by rw [Nat.zero_add]; exact s3 _ _ h3)⟩
 clear hN
 have s4:=zF hd (.dK (plKV ks 0))
 have k4:upd H3 d (.dK (plKV ks 0)) d = some (.dK (plKV ks 0)):=zC
 have ss:=(es.trans s3).trans s4
 generalize upd H3 d (.dK (plKV ks 0)) = H4 at ss k4 ⊢
 replace s1:=s1.trans ss
 replace hla:=ss _ _ hla
 replace hls:=DAts.same ss hls
 replace k2:=ss _ _ k2
 clear ss s4 s3 es k3 has hd hp3
 simp! []
 refine ⟨⟨_,SqL.of k2⟩,?_⟩
 refine uX (xs:=ks.map V.int) (fun i ys σ H' => Same H4 H' /\ DAts H' ((qD ls ks i).map dLn) ys /\ ∃ o,σ = [o,some (V.ref d),some (V.ref la)]) ⟨Same.refl _,rfl,_,rfl⟩ (smB (by rw [List.length_map]; omega)) (fun i ys σ H' e => ?_) (fun i ys σ H' e => SqL.of (e.1 _ _ k2)) (fun i x ys σ H' C hx e hC => ?_) (fun ys σ H' e p5 hp5 => ?_)
 · have := DAts.length e.2.1
   rw [List.length_map] at this
   have:=papT_len ls ks i
   omega
 · obtain ⟨es, hys, o, rfl⟩ := e
   rw [List.getElem?_map] at hx
   cases hni:ks[i]? with
   | none => rw [hni] at hx; cases hx
   | some n =>
     rw [hni] at hx
     cases hx
     have hnk:=List.mem_of_getElem? hni
     have hn:=hki n hnk
     have hn0:n.toNat < ls.length:=by omega
     obtain ⟨v,hv1,hv2⟩:=DAts.get (d:=dLn ls[n.toNat]) hls (by rw [List.getElem?_map,List.getElem?_eq_getElem hn0]; rfl)
     have hlx:=List.getElem?_eq_getElem hn0
     have hgl:=hah _ _ hlx
     have hcl:=hks.closed hah n hnk
     rw [nm_at hlx] at hcl
     generalize ls[n.toNat] = l' at hv2 hgl hcl hlx
     obtain ⟨b,u,rfl,hb,hu⟩:=kD hv2
     have hat:atI ws n = some (.ref b):=jK hn.1 hv1
     simp! []
     refine ⟨_,SqL.of (es _ _ hla),_,hat,b,rfl,_,SqT.of (es _ _ hb),_,at0,_,SqL.of (es _ _ hla),_,hat,b,rfl,_,SqT.of (es _ _ hb),_,at1,_,SqL.of (es _ _ hla),_,hat,b,rfl,_,SqT.of (es _ _ hb),_,at2,?_⟩
     refine ⟨u,d,l',ks,rfl,DAt.same es hu,hgl.1,es _ _ k4,hcl,fun v' H5 s5 hv' => ⟨smB (by simp),fun p6 hp6 => hC _ _ _ ?_⟩⟩
     have s6:=zF hp6 (.tup [.int l'.i,.int l'.j,v'])
     refine ⟨(es.trans s5).trans s6,?_,_,rfl⟩
     rw [papT_succ hni hlx,List.map_append]
     refine DAts.append (DAts.same (s5.trans s6) hys) (DAts.one ?_)
     have er:dLn (rnw ks l') = dLn ⟨l'.i,l'.j,(rnw ks l').w,(rnw ks l').as⟩:=by
       unfold rnw
       split <;> rfl
     rw [er]
     exact atLn zC (DAt.same s6 hv')
 obtain ⟨es,hys,o,rfl⟩:=e
 have s5:=zF hp5 (.lst ys)
 rw [List.length_map] at hys
 exact q _ _ (s1.trans (es.trans s5)) (.inr ⟨k,l,ks,hlk,hij,hno,hks,⟨p5,_,rfl,zC,DAts.same s5 hys⟩⟩)
end
theorem named_le {x:Str} {n:Int} (h:named x = some n):n <= 2:=by
 unfold named at h
 repeat' split at h
 all_goals first | (cases h; done) | (cases h; omega)
theorem said_n (ls:List Ln) (k:Nat) (p:Int):yF ls k (.n p) = if 0 <= p /\ p < (k:Int) then (ls[p.toNat]?).map fun l => (l.i,l.j) else none:=rfl
theorem fmc {α β:Type} {f g:α -> Option β}:∀ {l:List α},(∀ x ∈ l,f x = g x) -> l.filterMap f = l.filterMap g
 | [],_ => rfl
 | x :: l,h => by rw [List.filterMap_cons,List.filterMap_cons,h x List.mem_cons_self,fmc fun y hy => h y (List.mem_cons_of_mem _ hy)]
theorem kM {ls:List Ln} {k:Nat} {p:Int} (h:(yF ls k (.n p)).isSome = true):0 <= p /\ p < (k:Int):=by
 by_cases c:0 <= p /\ p < (k:Int)
 · exact c
 · rw [said_n, if_neg c] at h
   cases h
theorem all_n {ls:List Ln} {k:Nat}:∀ {as:List Wt},(as.all fun a => (yF ls k a).isSome) = true -> ∃ ns:List Int,as = ns.map .n /\ ∀ p ∈ ns,0 <= p /\ p < (k:Int)
 | [],_ => ⟨[],rfl,fun p z => by cases z⟩
 | a :: as, h => by
   rw [List.all_cons,Bool.and_eq_true] at h
   obtain ⟨ns,e,hn⟩:=all_n h.2
   cases a with
   | n i => exact ⟨i :: ns, by rw [e]; rfl, fun p hp => by
       rcases List.mem_cons.mp hp with rfl | hp
       · exact kM h.1
       · exact hn p hp⟩
   | ps q => exact absurd h.1 (by simp [yF])
theorem step_gl {rows:List Rw} {rules:List yA} {ls:List Ln} {k:Nat} {l:Ln} (h:yO rows rules ls k l = true) (hr:∀ r ∈ rules,r.1.length <= 100):GL k l.w l.as:=by
 unfold yO at h
 split at h
 · cases h
 split at h
 · next hw =>
   unfold xA at h
   split at h
   · next r ps e =>
     split at h
     · split at h
       · next q hq =>
         rw [Bool.and_eq_true] at h
         have h2:(ps.map fun p => yF ls k (.n p)) = q.1.map some:=by simpa using h.2
         have hlen:ps.length = q.1.length:=by
           have:=congrArg List.length h2
           simpa using this
         have hq100:=hr q (List.mem_of_getElem? hq)
         rw [hw,e]
         refine glR k r ps (by omega) fun p hp => ?_
         have hm:yF ls k (.n p) ∈ q.1.map some:=by
           rw [← h2]
           exact List.mem_map.mpr ⟨p,hp,rfl⟩
         obtain ⟨y,_,e2⟩:=List.mem_map.mp hm
         exact kM (by rw [← e2]; rfl)
       · cases h
     · cases h
   · cases h
 · next hw =>
   split at h
   · next hc =>
     obtain ⟨ns,e,hn⟩:=all_n hc.2
     have:=named_le hc.1
     rw [e]
     rw [e,List.length_map] at this
     exact glN k l.w hw ns (by omega) hn
   · cases h
theorem step_rn {rows:List Rw} {rules:List yA} {ls ps:List Ln} {n m:Nat} {l:Ln} {ks:List Int} (hg:GW l.w l.as) (hS:∀ p ∈ plc l.w l.as,yF ps m (.n (xM p ks)) = yF ls n (.n p)) :
   yO rows rules ps m (rnw ks l) = yO rows rules ls n l:=by
 rcases hg with ⟨hw,ns,ha,_⟩ | ⟨hw,r,qs,ha,_⟩
 · rw [vV hw ha]
   rw [ha,plcN hw] at hS
   unfold yO
   simp only
   rw [if_neg hw,if_neg hw,ha]
   have e1:(((ns.map fun p => (xM p ks:Int)).map Wt.n).all fun a => (yF ps m a).isSome) = ((ns.map Wt.n).all fun a => (yF ls n a).isSome):=by
     rw [List.all_map,List.all_map,List.all_map]
     rw [Bool.eq_iff_iff,List.all_eq_true,List.all_eq_true]
     refine forall_congr' fun p => forall_congr' fun hp => ?_
     show (yF ps m (.n (xM p ks))).isSome = true ↔ (yF ls n (.n p)).isSome = true
     rw [hS p hp]
   have e2:((ns.map fun p => (xM p ks:Int)).map Wt.n).filterMap (yF ps m) = (ns.map Wt.n).filterMap (yF ls n):=by
     rw [List.filterMap_map,List.filterMap_map,List.filterMap_map]
     exact fmc fun p hp => hS p hp
   rw [e1,e2]
   simp only [List.length_map]
 · rw [uR hw ha]
   rw [ha,hw,plcR] at hS
   unfold yO xA
   simp only
   rw [if_pos trivial,if_pos hw,ha]
   simp only
   have e3:((qs.map fun p => (xM p ks:Int)).map fun p => yF ps m (.n p)) = qs.map fun p => yF ls n (.n p):=by
     rw [List.map_map]
     exact List.map_congr_left fun p hp => hS p hp
   rw [e3]
theorem vC (ks:List Int) (l:Ln):(rnw ks l).i = l.i /\ (rnw ks l).j = l.j:=by
 unfold rnw
 split <;> exact ⟨rfl,rfl⟩
theorem wX {rows:List Rw} {rules:List yA} {ls:List Ln} (h:GOk rows rules ls) (hr:∀ r ∈ rules,r.1.length <= 100):jM ls:=fun k l hl => step_gl (h.snd k l hl) hr
theorem papT_get {ls:List Ln} {ks:List Int} (hin:∀ n ∈ ks,∃ l,ls[n.toNat]? = some l) (m:Nat) (x:Ln):(qD ls ks ks.length)[m]? = some x ↔ ∃ n l,ks[m]? = some n /\ ls[n.toNat]? = some l /\ x = rnw ks l:=by
 have e:∀ (js:List Int),(∀ n ∈ js,∃ l,ls[n.toNat]? = some l) -> js.filterMap (fun n => (ls[n.toNat]?).map (rnw ks)) = js.map fun n => (match ls[n.toNat]? with | some l => rnw ks l | none => ⟨0,0,"",[]⟩):=by
   intro js
   induction js with
   | nil => intro _; rfl
   | cons j js ih =>
     intro h
     obtain ⟨l,hl⟩:=h j List.mem_cons_self
     rw [List.filterMap_cons,hl,List.map_cons,hl,ih fun n hn => h n (List.mem_cons_of_mem _ hn)]
     rfl
 unfold qD
 rw [List.take_of_length_le (Nat.le_refl _),e ks hin,List.getElem?_map]
 constructor
 · intro h
   cases hk:ks[m]? with
   | none => rw [hk] at h; cases h
   | some n =>
     obtain ⟨l,hl⟩:=hin n (List.mem_of_getElem? hk)
     rw [hk] at h
     simp only [Option.map_some,hl] at h
     exact ⟨n,l,rfl,hl,(Option.some.inj h).symm⟩
 · rintro ⟨n, l, h1, h2, rfl⟩
   rw [h1]
   simp only [Option.map_some,h2]
theorem papT_all {ls:List Ln} {ks:List Int} (hin:∀ n ∈ ks,∃ l,ls[n.toNat]? = some l):(qD ls ks ks.length).length = ks.length:=by
 rcases Nat.lt_trichotomy (qD ls ks ks.length).length ks.length with h | h | h
 · obtain ⟨l, hl⟩ := hin _ (List.getElem_mem h)
   have:=(papT_get hin (qD ls ks ks.length).length (rnw ks l)).mpr ⟨_,l,List.getElem?_eq_getElem h,hl,rfl⟩
   rw [List.getElem?_eq_none (Nat.le_refl _)] at this
   cases this
 · exact h
 · have := papT_len ls ks ks.length
   omega
theorem rise_lt {ks:List Int} (hr:ks.Pairwise (· <= ·)) {a m:Nat} {p n:Int} (ha:ks[a]? = some p) (hm:ks[m]? = some n) (h:p < n):a < m:=by
 by_cases c:a < m
 · exact c
 · obtain ⟨h1, e1⟩ := List.getElem?_eq_some_iff.mp ha
   obtain ⟨h2,e2⟩:=List.getElem?_eq_some_iff.mp hm
   by_cases e:m = a
   · subst e
     rw [e1] at e2
     omega
   · have := (List.pairwise_iff_getElem.mp hr) m a h2 h1 (by omega)
     rw [e1,e2] at this
     omega
theorem YI {nm:Int -> List Int} {k:Nat}:∀ i,∀ p ∈ back nm k i,p = (k:Int) \/ ∃ n ∈ back nm k i,p ∈ nm n
 | 0,p,hp => .inl (List.mem_singleton.mp hp)
 | i + 1, p, hp => by
   by_cases h:((k:Int) - i) ∈ back nm k i
   · have hp' := hp
     rw [jI h,yX] at hp
     rcases hp with hp | hp
     · rcases YI i p hp with e | ⟨n, h1, h2⟩
       · exact .inl e
       · exact .inr ⟨n,jX h1,h2⟩
     · exact .inr ⟨_,jX h,hp⟩
   · rw [jY h] at hp
     rcases YI i p hp with e | ⟨n,h1,h2⟩
     · exact .inl e
     · exact .inr ⟨n,jX h1,h2⟩
theorem wA {ks:List Int} (hn:ks.Nodup) {a b:Nat} {p:Int} (h1:ks[a]? = some p) (h2:ks[b]? = some p):a = b:=by
 obtain ⟨ha,e1⟩:=List.getElem?_eq_some_iff.mp h1
 obtain ⟨hb,e2⟩:=List.getElem?_eq_some_iff.mp h2
 rcases Nat.lt_trichotomy a b with c | c | c
 · exact absurd (e1.trans e2.symm) ((List.pairwise_iff_getElem.mp hn) a b ha hb c)
 · exact c
 · exact absurd (e2.trans e1.symm) ((List.pairwise_iff_getElem.mp hn) b a hb ha c)
theorem rnw_plc {ks:List Int} {l:Ln} (h:GW l.w l.as):plc (rnw ks l).w (rnw ks l).as = (plc l.w l.as).map fun p => (xM p ks:Int):=by
 rcases h with ⟨hw,ns,ha,_⟩ | ⟨hw,r,qs,ha,_⟩
 · rw [vV hw ha,ha,plcN hw,plcN hw]
 · rw [uR hw ha,ha,hw,plcR,plcR]
structure PapOk (rows:List Rw) (rules:List yA) (ps:List Ln) (i j:Int):Prop where
 ok:GOk rows rules ps
 ah:jM ps
 last:∃ l,ps[ps.length - 1]? = some l /\ l.i = i /\ l.j = j
 ne:1 <= ps.length
 hang:∀ m:Nat,m + 1 < ps.length -> ∃ l ∈ ps,(m:Int) ∈ plc l.w l.as
theorem pap_ok {rows:List Rw} {rules:List yA} {ls:List Ln} {k:Nat} {l:Ln} {ks:List Int} (h:GOk rows rules ls) (hr:∀ r ∈ rules,r.1.length <= 100) (hk:ls[k]? = some l) (hks:Kept ls k ks):PapOk rows rules (qD ls ks ks.length) l.i l.j:=by
 have hah:=wX h hr
 have hkl:=(List.getElem?_eq_some_iff.mp hk).1
 have hki:=hks.inn hah
 have hcl:=hks.closed hah
 have hnd:=hks.nodup
 have hin:∀ n ∈ ks,∃ l,ls[n.toNat]? = some l:=fun n hn => by
   have:=hki n hn
   exact ⟨_,List.getElem?_eq_getElem (show n.toNat < ls.length by omega)⟩
 have hlen:=papT_all hin
 have hget:=papT_get hin
 have hok:GOk rows rules (qD ls ks ks.length):=by
   refine ⟨fun m x hx => ?_,fun a b x y hx hy e1 e2 => ?_,papT_ow hah⟩
   · obtain ⟨n, l', h1, h2, rfl⟩ := (hget m x).mp hx
     have hn:=List.mem_of_getElem? h1
     have hgl:=hah _ l' h2
     rw [step_rn (n:=n.toNat) (ls:=ls) hgl.1 fun p hp => ?_]
     · exact h.snd _ _ h2
     · have hpk : p ∈ ks := hcl n hn p (by rw [nm_at h2]; exact hp)
       have hp2:=hgl.2 p hp
       have hpa:=qJ hpk
       have hn0:=hki n hn
       have hlt:=rise_lt hks.rise hpa h1 (by omega)
       obtain ⟨lp,hlp⟩:=hin p hpk
       rw [said_n,said_n,if_pos (by omega),if_pos (by omega),hlp]
       have:(qD ls ks ks.length)[((xM p ks:Nat):Int).toNat]? = some (rnw ks lp):=by
         rw [Int.toNat_natCast]
         exact (hget _ _).mpr ⟨p,lp,hpa,hlp,rfl⟩
       rw [this]
       have:=vC ks lp
       simp only [Option.map_some,this.1,this.2]
   · obtain ⟨n, l1, a1, a2, rfl⟩ := (hget a x).mp hx
     obtain ⟨n',l2,b1,b2,rfl⟩:=(hget b y).mp hy
     have:=h.dis _ _ _ _ a2 b2 (by rw [← (vC ks l1).1,e1,(vC ks l2).1]) (by rw [← (vC ks l1).2,e2,(vC ks l2).2])
     have q1:=hki n (List.mem_of_getElem? a1)
     have q2:=hki n' (List.mem_of_getElem? b1)
     have e:n = n':=by omega
     subst e
     exact wA hnd a1 b1
 have hkk:(k:Int) ∈ ks:=hks.perm.mem_iff.mpr (ZC _)
 have hpk:=qJ hkk
 have hlast:xM (k:Int) ks = ks.length - 1:=by
   have h1:=(List.getElem?_eq_some_iff.mp hpk).1
   by_cases c:xM (k:Int) ks = ks.length - 1
   · exact c
   · exfalso
     have h2:ks.length - 1 < ks.length:=by omega
     have hle:=(List.pairwise_iff_getElem.mp hks.rise) (xM (k:Int) ks) (ks.length - 1) h1 h2 (by omega)
     rw [(List.getElem?_eq_some_iff.mp hpk).2] at hle
     have h3:=hki _ (List.getElem_mem h2)
     have e:ks[ks.length - 1]? = some (k:Int):=by rw [List.getElem?_eq_getElem h2]; congr 1; omega
     exact c (wA hnd hpk e)
 have h1:=(List.getElem?_eq_some_iff.mp hpk).1
 refine ⟨hok,wX hok hr,⟨rnw ks l,?_,vC ks l⟩,by omega,fun m hm => ?_⟩
 · rw [hlen, ← hlast]
   exact (hget _ _).mpr ⟨k,l,hpk,by rw [Int.toNat_natCast]; exact hk,rfl⟩
 · rw [hlen] at hm
   have hm':m < ks.length:=by omega
   have em:=List.getElem?_eq_getElem hm'
   have hmem:=List.getElem_mem hm'
   generalize ks[m] = n at em hmem
   rcases YI (nm:=jW ls) (k + 1) n (hks.perm.mem_iff.mp hmem) with e | ⟨n',h2,h3⟩
   · subst e
     have:=wA hnd em hpk
     omega
   · have hn' : n' ∈ ks := hks.perm.mem_iff.mpr h2
     obtain ⟨l',hl'⟩:=hin n' hn'
     have hpn:=qJ hn'
     rw [nm_at hl'] at h3
     refine ⟨rnw ks l',List.mem_of_getElem? ((hget _ _).mpr ⟨n',l',hpn,hl',rfl⟩),?_⟩
     rw [rnw_plc (hah _ _ hl').1]
     have hmn:xM n ks = m:=wA hnd (qJ hmem) em
     exact List.mem_map.mpr ⟨n,h3,by rw [hmn]⟩
abbrev s_v:Stmt:=top 33
theorem sc_v:FnScope ["lines","named","line","why","p","k"] ["lines"] (zG s_v):=⟨rfl,rfl,rfl,by decide +kernel,rfl,by decide +kernel,by decide +kernel⟩
abbrev s_e:Stmt:=top 34
theorem sc_e:FnScope ["rows","rules","found","pair"] ["rows","rules","found","pair"] (zG s_e):=⟨rfl,rfl,rfl,by decide +kernel,rfl,by decide +kernel,by decide +kernel⟩
def uC (ls:List Ln):List Int:=ls.foldl (fun ks l => yU ks (plc l.w l.as)) []
theorem kW (ls:List Ln) (l:Ln):uC (ls ++ [l]) = yU (uC ls) (plc l.w l.as):=by
 unfold uC
 rw [List.foldl_append]
 rfl
theorem gathF_nodup:∀ (ls:List Ln) (ks:List Int),ks.Nodup -> (ls.foldl (fun ks l => yU ks (plc l.w l.as)) ks).Nodup
 | [],ks,h => h
 | l :: ls,ks,h => gathF_nodup ls _ (nodup_addAll _ _ h)
theorem wS (ls:List Ln):(uC ls).Nodup:=gathF_nodup ls [] List.nodup_nil
theorem kR (z:Int):∀ (ls:List Ln) (ks:List Int),z ∈ ls.foldl (fun ks l => yU ks (plc l.w l.as)) ks ↔ z ∈ ks \/ ∃ l ∈ ls,z ∈ plc l.w l.as
 | [],ks => by simp
 | l :: ls, ks => by
   rw [List.foldl_cons,kR z ls,yX]
   constructor
   · rintro ((h | h) | ⟨l', h1, h2⟩)
     · exact .inl h
     · exact .inr ⟨l,List.mem_cons_self,h⟩
     · exact .inr ⟨l',List.mem_cons_of_mem _ h1,h2⟩
   · rintro (h | ⟨l', h1, h2⟩)
     · exact .inl (.inl h)
     · rcases List.mem_cons.mp h1 with rfl | h1
       · exact .inl (.inr h2)
       · exact .inr ⟨l',h1,h2⟩
theorem mem_gath (z:Int) (ls:List Ln):z ∈ uC ls ↔ ∃ l ∈ ls,z ∈ plc l.w l.as:=by
 unfold uC
 rw [kR]
 simp
theorem plc_in {ls:List Ln} (h:jM ls) {i:Nat} {l:Ln} (hl:ls[i]? = some l):∀ p ∈ plc l.w l.as,0 <= p /\ p <= (ls.length:Int):=fun p hp => by
 have h1:=(h i l hl).2 p hp
 have h2:=(List.getElem?_eq_some_iff.mp hl).1
 omega
theorem gath_in {ls:List Ln} (h:jM ls) (m:Nat):∀ p ∈ uC (ls.take m),0 <= p /\ p <= (ls.length:Int):=fun p hp => by
 obtain ⟨l,h1,h2⟩:=(mem_gath p _).mp hp
 obtain ⟨i,hi,e⟩:=List.getElem_of_mem (List.mem_of_mem_take h1)
 exact plc_in h (by rw [List.getElem?_eq_getElem hi,e]) p h2
def spHg:Sp:=fun vs H Q _ => ∃ (la:Addr) (ws:List V) (ls:List Ln),vs = [.ref la] /\ H la = some (.lst ws) /\ jL H ls ws /\ jM ls /\ ls.length <= 40000 /\ (∀ m:Nat,m + 1 < ls.length -> ∃ l ∈ ls,(m:Int) ∈ plc l.w l.as) /\ ∀ H',Same H H' -> Q (.bl true) H'
def spPG:Sp:=fun vs H Q _ => ∃ (a ra la pa:Addr) (us vs' ws:List V) (rows:List Rw) (rules:List yA) (ls:List Ln) (i j:Int),vs = [.ref a,.ref ra,.ref la,.ref pa] /\ H a = some (.lst us) /\ jZ H rows us /\ rows.length <= 100 /\ H ra = some (.lst vs') /\ DAts H (rules.map dNR) vs' /\ H la = some (.lst ws) /\ jL H ls ws /\ H pa = some (.tup [.int i,.int j]) /\ PapOk rows rules ls i j /\ ls.length <= 40000 /\ ∀ H',Same H H' -> Q (.bl true) H'
theorem at_end {α:Type} {xs:List α} {x:α} (h1:1 <= xs.length) (h:xs[xs.length - 1]? = some x):atI xs (-1) = some x:=by
 obtain ⟨hi,e⟩:=List.getElem?_eq_some_iff.mp h
 have e2:xs = xs.take (xs.length - 1) ++ [x]:=by
   have h3:=List.drop_eq_getElem_cons hi
   rw [e,List.drop_eq_nil_of_le (as:=xs) (i:=xs.length - 1 + 1) (by omega)] at h3
   rw [← h3,List.take_append_drop]
 rw [e2]
 exact atI_last _ _
section
variable {P:Program} {w:World} {K:PySem.W.Frag} {mg:Str -> Option Value} {base:Heap} {f:Addr} {fd:FuncData}
theorem ok_hangs (bi:Bi mg) (F:Fun K "_law_hangs" "_law_hangs" s_v f fd):FnOk P w K mg base CX0 1 f fd ["lines"] spHg:=by
 refine F.ok sc_v (fun vs H Q E h => ?_) (fun cdv A outer s H vs Q E hr h => ?_)
 · obtain ⟨la, ws, ls, rfl, _⟩ := h
   rfl
 obtain ⟨la,ws,ls,rfl,hla,hls,hah,h400,hhang,q⟩:=h
 have hwl:=yK hls
 have at2:∀ {a b c:V},atI [a,b,c] 2 = some c:=zZ (j:=2) rfl
 refine ⟨_,(zD (zP (i:=1) sc_v.nd rfl (Or.inl rfl) pe_dnewK) (zD (yR PassesOwn.never rfl (xD (pv 0)) (zM (i:=2) sc_v.nd rfl (Or.inl rfl)) (zD (zP (i:=3) sc_v.nd rfl (Or.inl rfl) (zI ix_tup (pv 2) zB (fun _ _ => rfl))) (zE (yI (zN op_eq (zI ix_tup (pv 3) zB (fun _ _ => rfl)) yB (zL _)) (zE (yR PassesOwn.never rfl (vD (zI ix_tup (pv 3) zB (fun _ _ => rfl))) (zM (i:=4) sc_v.nd rfl (Or.inl rfl)) (zE (uT (jH hr) (pv 1) (pv 4) xG rfl)))) (zE (yR PassesOwn.never rfl (vD (jD sl_tupG (pv 3) (qB zB) po_none)) (zM (i:=4) sc_v.nd rfl (Or.inl rfl)) (zE (uT (jH hr) (pv 1) (pv 4) xG rfl)))))))) (zD (yR PassesOwn.never rfl (xH rfl bi.range (zA (zO op_sub (zK call_len rfl bi.len bt_len (zA (pv 0) pa_nil)) zB) pa_nil)) (zM (i:=5) sc_v.nd rfl (Or.inl rfl)) (zE (yI (ZO (kO (jH hr) (pv 5) (pv 1)) (by with_unfolding_all rfl)) (zE (zQ xG)) pss_nil))) (zE (zQ xG))))),?_⟩
 refine zJ fun N hN => ?_
 simp! []
 refine fun nd hnd => hN _ _ ?_
 clear hN
 have s1:=zF hnd (.dK [])
 have k1:upd H nd (.dK []) nd = some (.dK (trK (uC (ls.take 0)))):=zC
 generalize upd H nd (.dK []) = H1 at s1 k1 ⊢
 refine yE (fun σ H' => ∃ (o1 o2 o3 o4:Option V),Same H H' /\ H' nd = some (.dK (trK (uC ls))) /\ σ = [some (V.ref la),some (V.ref nd),o1,o2,o3,o4]) (fun N hN => ?_) (fun σ H' h => ?_)
 · simp! []
   refine ⟨⟨_,SqL.of (s1 _ _ hla)⟩,?_⟩
   refine xX (xs:=ws) (fun k σ H' => ∃ (o1 o2 o3 o4:Option V),Same H H' /\ H' nd = some (.dK (trK (uC (ls.take k)))) /\ σ = [some (V.ref la),some (V.ref nd),o1,o2,o3,o4]) ⟨_,_,_,_,s1,k1,rfl⟩ (fun k σ H' _ h => ?_) (fun k x σ H' hx h => ?_) (fun σ H' h => ?_)
   · obtain ⟨_, _, _, _, s2, _⟩ := h
     exact SqL.of (s2 _ _ hla)
   · obtain ⟨o1, o2, o3, o4, s2, k2, rfl⟩ := h
     obtain ⟨l,hl1,hl2⟩:=yW hls hx
     obtain ⟨b,u,rfl,hb,hu⟩:=kD (DAt.same s2 hl2)
     obtain ⟨c,us,rfl,hc,hus⟩:=whyAt hu
     have hgl:=hah _ _ hl1
     obtain ⟨hkl,ek⟩:=List.getElem?_eq_some_iff.mp hl1
     refine zJ fun N hN => ?_
     simp! []
     refine ⟨_,SqT.of hb,_,at2,hN _ _ ?_⟩
     clear hN
     simp! [rSlG]
     refine ⟨_,SqT.of hc,_,at0,rfl,?_⟩
     rcases hgl.1 with ⟨hw,ns,has,_⟩ | ⟨hw,r,ps,has,_⟩
     · rw [if_neg (fun e => hw (V.str.inj e))]
       rw [has] at hus
       have e:=nsAt hus
       subst e
       have hpl:plc l.w l.as = ns:=by rw [has,plcN hw]
       refine ⟨_,hc,fun pt H3 s3 k3 => ?_⟩
       rw [uZ,← hpl] at k3
       have k23:=s3 _ _ k2
       replace s3:=s2.trans s3
       have nn:pt ≠ nd:=fun z => by rw [z,k23] at k3; cases k3
       refine ⟨⟨_,SqT.of k3⟩,?_⟩
       refine fw_tup (xs:=(plc l.w l.as).map V.int) (fun m σ H' => ∃ (o:Option V),Same H H' /\ H' pt = some (.tup ((plc l.w l.as).map V.int)) /\ H' nd = some (.dK (trK (yU (uC (ls.take k)) ((plc l.w l.as).take m)))) /\ σ = [some (V.ref la),some (V.ref nd),some (V.ref b),some (V.ref c),o,o4]) ⟨_,s3,k3,k23,rfl⟩ (fun m σ H' _ h => ?_) (fun m x σ H' hx h => ?_) (fun σ H' h => ?_)
       · obtain ⟨o, _, h2, _⟩ := h
         exact SqT.of h2
       · obtain ⟨o, s4, k4, k5, rfl⟩ := h
         rw [List.getElem?_map] at hx
         cases hni:(plc l.w l.as)[m]? with
         | none => rw [hni] at hx; cases hx
         | some p =>
           rw [hni] at hx
           cases hx
           simp! [kN]
           have hal:(yU (uC (ls.take k)) ((plc l.w l.as).take m)).length <= ls.length + 1:=by
             refine vF (nodup_addAll _ _ (wS _)) fun z hz => ?_
             rcases (yX z _ _).mp hz with hz | hz
             · exact gath_in hah k z hz
             · exact plc_in hah hl1 z (List.mem_of_mem_take hz)
           obtain ⟨hm,e⟩:=List.getElem?_eq_some_iff.mp hni
           refine ⟨_,.inl ⟨_,.inl p,k5,rfl,?_,rfl⟩,s4.upd hnd,by rw [zH nn]; exact k4,?_,_,rfl⟩
           · unfold trK
             rw [List.length_map]
             exact smB1 (by omega)
           rw [zC,ZF,List.take_succ_eq_append_getElem hm,e,qU]
       · obtain ⟨o, s4, k4, k5, rfl⟩ := h
         rw [List.length_map,List.take_of_length_le (Nat.le_refl _),← kW,← ek,← List.take_succ_eq_append_getElem hkl] at k5
         first | exact ⟨s4,k5,rfl⟩ | exact ⟨s4,k5,_,rfl⟩ | exact ⟨s4,k5,_,_,rfl⟩ | exact ⟨s4,k5,_,_,_,rfl⟩ | exact ⟨s4,k5,_,_,_,_,rfl⟩
     · rw [if_pos (congrArg V.str hw)]
       rw [has] at hus
       obtain ⟨v1,r1,e1,e2,v2,r2,e3,e4,e5⟩:=hus
       have e5:r2 = []:=e5
       subst e5 e3 e1
       obtain ⟨pt,rfl,k3⟩:=psAt e4
       have hpl:plc l.w l.as = ps:=by rw [has,hw,plcR]
       rw [← hpl] at k3
       refine ⟨_,SqT.of hc,_,at2,?_⟩
       have s3:=s2
       have k23:=k2
       have nn:pt ≠ nd:=fun z => by rw [z,k23] at k3; cases k3
       refine ⟨pt,rfl,⟨_,SqT.of k3⟩,?_⟩
       refine fw_tup (xs:=(plc l.w l.as).map V.int) (fun m σ H' => ∃ (o:Option V),Same H H' /\ H' pt = some (.tup ((plc l.w l.as).map V.int)) /\ H' nd = some (.dK (trK (yU (uC (ls.take k)) ((plc l.w l.as).take m)))) /\ σ = [some (V.ref la),some (V.ref nd),some (V.ref b),some (V.ref c),o,o4]) ⟨_,s3,k3,k23,rfl⟩ (fun m σ H' _ h => ?_) (fun m x σ H' hx h => ?_) (fun σ H' h => ?_)
       · obtain ⟨o, _, h2, _⟩ := h
         exact SqT.of h2
       · obtain ⟨o, s4, k4, k5, rfl⟩ := h
         rw [List.getElem?_map] at hx
         cases hni:(plc l.w l.as)[m]? with
         | none => rw [hni] at hx; cases hx
         | some p =>
           rw [hni] at hx
           cases hx
           simp! [kN]
           have hal:(yU (uC (ls.take k)) ((plc l.w l.as).take m)).length <= ls.length + 1:=by
             refine vF (nodup_addAll _ _ (wS _)) fun z hz => ?_
             rcases (yX z _ _).mp hz with hz | hz
             · exact gath_in hah k z hz
             · exact plc_in hah hl1 z (List.mem_of_mem_take hz)
           obtain ⟨hm,e⟩:=List.getElem?_eq_some_iff.mp hni
           refine ⟨_,.inl ⟨_,.inl p,k5,rfl,?_,rfl⟩,s4.upd hnd,by rw [zH nn]; exact k4,?_,_,rfl⟩
           · unfold trK
             rw [List.length_map]
             exact smB1 (by omega)
           rw [zC,ZF,List.take_succ_eq_append_getElem hm,e,qU]
       · obtain ⟨o, s4, k4, k5, rfl⟩ := h
         rw [List.length_map,List.take_of_length_le (Nat.le_refl _),← kW,← ek,← List.take_succ_eq_append_getElem hkl] at k5
         first | exact ⟨s4,k5,rfl⟩ | exact ⟨s4,k5,_,rfl⟩ | exact ⟨s4,k5,_,_,rfl⟩ | exact ⟨s4,k5,_,_,_,rfl⟩ | exact ⟨s4,k5,_,_,_,_,rfl⟩
   · obtain ⟨o1, o2, o3, o4, s2, k2, rfl⟩ := h
     rw [hwl,List.take_of_length_le (Nat.le_refl _)] at k2
     exact hN _ _ ⟨_,_,_,_,s2,k2,rfl⟩
 obtain ⟨o1,o2,o3,o4,s2,k2,rfl⟩:=h
 refine yE (fun σ H' => ∃ (o1 o2 o3 o4:Option V),Same H H' /\ σ = [some (V.ref la),some (V.ref nd),o1,o2,o3,o4]) (fun N hN => ?_) (fun σ H' h => ?_)
 · simp! []
   refine ⟨ws.length,.inl ⟨_,SqL.of (s2 _ _ hla),rfl⟩,by omega,by omega,?_⟩
   refine xS (n:=((ws.length:Int) - 1).toNat) (fun k σ H' => ∃ (o1 o2 o3 o4:Option V),Same H H' /\ H' nd = some (.dK (trK (uC ls))) /\ σ = [some (V.ref la),some (V.ref nd),o1,o2,o3,o4]) ⟨_,_,_,_,s2,k2,rfl⟩ (fun k σ H' hk h => ?_) (fun σ H' h => ?_)
   · obtain ⟨o1, o2, o3, o4, s3, k3, rfl⟩ := h
     have hin:(0:Int) + (k:Int) ∈ uC ls:=by
       rw [Int.zero_add]
       exact (mem_gath _ _).mpr (hhang k (by omega))
     simp! [vT]
     refine ⟨_,.inl ⟨_,.inl ((0:Int) + (k:Int)),.inl k3,rfl,rfl⟩,?_⟩
     rw [trK_val,decide_eq_true hin,if_neg (by decide)]
     first | exact ⟨s3,k3,rfl⟩ | exact ⟨s3,k3,_,rfl⟩ | exact ⟨s3,k3,_,_,rfl⟩ | exact ⟨s3,k3,_,_,_,rfl⟩ | exact ⟨s3,k3,_,_,_,_,rfl⟩
   · obtain ⟨o1, o2, o3, o4, s3, k3, rfl⟩ := h
     exact hN _ _ ⟨_,_,_,_,s3,rfl⟩
 obtain ⟨o1,o2,o3,o4,s3,rfl⟩:=h
 simp! []
 exact q _ s3
theorem kC (bi:Bi mg) (h_u:Has P w K mg base 4 "_law_walked" ["rows","rules","lines"] spWk) (h_v:Has P w K mg base 1 "_law_hangs" ["lines"] spHg) (F:Fun K "_law_paper_good" "_law_paper_good" s_e f fd):FnOk P w K mg base CX0 5 f fd ["rows","rules","found","pair"] spPG:=by
 refine F.ok sc_e (fun vs H Q E h => ?_) (fun cdv A outer s H vs Q E hr h => ?_)
 · obtain ⟨a, ra, la, pa, us, vs', ws, rows, rules, ls, i, j, rfl, _⟩ := h
   rfl
 obtain ⟨a,ra,la,pa,us,vs',ws,rows,rules,ls,i,j,rfl,ha,hrw,h100,hra,hru,hla,hls,hpa,hp,h400,q⟩:=h
 have hwl:=yK hls
 refine ⟨_,(zD (yI (PW.pt (qF (jC (xC (zR h_u (hr.mono (by omega)) rfl (zA (pv 0) (zA (pv 1) (zA (pv 2) pa_nil)))))) (qI (zN op_eq (zK call_len rfl bi.len bt_len (zA (pv 2) pa_nil)) zB (zL _))))) (zE (zQ xG)) pss_nil) (zE (zQ (xI (yP (uI hr.units) (zX (zA (zI ix_tup (zI ix_list (pv 2) (uV un_neg zB) (fun _ _ => rfl)) zB (fun _ _ => rfl)) (zA (zI ix_tup (zI ix_list (pv 2) (uV un_neg zB) (fun _ _ => rfl)) zB (fun _ _ => rfl)) pa_nil))) (pv 3) (zL _)) (qC (zR h_v (hr.mono (by omega)) rfl (zA (pv 2) pa_nil))))))),?_⟩
 refine zJ fun N hN => ?_
 simp! []
 refine ⟨a,ra,la,us,vs',ws,rows,rules,ls,rfl,ha,hrw,h100,hra,hru,hla,hls,hp.ok,fun H1 s1 => ⟨_,rfl,?_⟩⟩
 have hne:=hp.ne
 rw [if_neg (by decide)]
 refine ⟨_,.inl ⟨_,SqL.of (s1 _ _ hla),rfl⟩,rfl,?_⟩
 rw [if_neg (by omega)]
 refine hN _ _ ?_
 clear hN
 obtain ⟨l,hl1,hl2,hl3⟩:=hp.last
 obtain ⟨v,hv1,hv2⟩:=DAts.get (d:=dLn l) (DAts.same s1 hls) (by rw [List.getElem?_map,hl1]; rfl)
 obtain ⟨b,u,rfl,hb,_⟩:=kD hv2
 have hat:atI ws (-1) = some (.ref b):=at_end (by omega) (by rw [hwl]; exact hv1)
 simp! []
 refine ⟨_,SqL.of (s1 _ _ hla),_,hat,b,rfl,_,SqT.of hb,_,at0,_,SqL.of (s1 _ _ hla),_,hat,b,rfl,_,SqT.of hb,_,at1,small (by simp),fun p3 h3 => ?_⟩
 have s3:=zF h3 (.tup [.int l.i,.int l.j])
 refine ⟨0,dPr (l.i,l.j),dPr (i,j),⟨p3,_,rfl,zC,_,_,rfl,rfl,_,_,rfl,rfl,rfl⟩,⟨pa,_,rfl,s3 _ _ (s1 _ _ hpa),_,_,rfl,rfl,_,_,rfl,rfl,rfl⟩,YB 0 _,by omega,_,rfl,?_⟩
 rw [YD,hl2,hl3,if_pos (by simp)]
 have ss:=s1.trans s3
 rw [← hl2,← hl3]
 exact ⟨la,ws,ls,rfl,ss _ _ hla,DAts.same ss hls,hp.ah,h400,hp.hang,fun H' s4 => q _ (ss.trans s4)⟩
end
abbrev s_H:Stmt:=top 35
theorem sc_H:FnScope ["script","made","rows","rules","top","lines","pairs","line","k","draw","pair","found"] ["script"] (zG s_H):=⟨rfl,rfl,rfl,by decide +kernel,rfl,by decide +kernel,by decide +kernel⟩
def spLaw (K:PySem.W.Frag):Sp:=fun vs H Q _ => ∃ (a:Addr) (ns:List Int),vs = [.ref a] /\ SqL K H a (ns.map V.int) /\ ns.length <= 63 /\ ∀ H',Q (.bl true) H'
theorem p1012:(0:Int) < 10 ^ Int.toNat 12:=by show (0:Int) < 10 ^ 12; simp
theorem seT_some {i j:Int}:∀ (ls:List Ln) {l:Ln},l ∈ ls -> l.i = i -> l.j = j -> (yS (seT ls) (yZ i j)).isSome = true
 | [],l,h,_,_ => by cases h
 | l' :: ls, l, h, e1, e2 => by
   show (yS ((yZ l'.i l'.j,V.bl true) :: seT ls) (yZ i j)).isSome = true
   by_cases c:yZ l'.i l'.j = yZ i j
   · rw [jU c]; rfl
   · rw [xZ c]
     rcases List.mem_cons.mp h with rfl | h
     · exact absurd (by rw [e1,e2]) c
     · exact seT_some ls h e1 e2
section
variable {P:Program} {w:World} {K:PySem.W.Frag} {mg:Str -> Option Value} {base:Heap} {f:Addr} {fd:FuncData}
theorem ok_law (bi:Bi mg) (h_r:Has P w K mg base 1 "_law_cell_at" ["script","k"] (spCell K)) (h_a:Has P w K mg base 2 "_law_sheet_and_rules" ["script","most","many"] (spSR K)) (h_z:Has P w K mg base 4 "closing" ["sheet","rules"] spClo) (h_F:Has P w K mg base 3 "paper" ["lines","i","j"] spPa) (h_e:Has P w K mg base 5 "_law_paper_good" ["rows","rules","found","pair"] spPG)
   (F:Fun K "law" "law" s_H f fd):FnOk P w K mg base CX0 65 f fd ["script"] (spLaw K):=by
 refine F.ok sc_H (fun vs H Q E h => ?_) (fun cdv A outer s H vs Q E hr h => ?_)
 · obtain ⟨a, ns, rfl, _⟩ := h
   rfl
 obtain ⟨a,ns,rfl,hS,hl,q⟩:=h
 refine ⟨_,(zD (zP (i:=1) sc_H.nd rfl (Or.inl rfl) (zR h_a (hr.mono (by omega)) rfl (zA (jD sl_list (pv 0) (qB zB) po_none) (zA zB (zA zB pa_nil))))) (zD (zP (i:=2) sc_H.nd rfl (Or.inl rfl) (zI ix_tup (pv 1) zB (fun _ _ => rfl))) (zD (zP (i:=3) sc_H.nd rfl (Or.inl rfl) (zI ix_tup (pv 1) zB (fun _ _ => rfl))) (zD (zP (i:=4) sc_H.nd rfl (Or.inl rfl) (zO op_mul zB (zK call_len rfl bi.len bt_len (zA (pv 2) pa_nil)))) (zD (zP (i:=5) sc_H.nd rfl (Or.inl rfl) (zR h_z (hr.mono (by omega)) rfl (zA (xP call_list_of rfl bi.list bt_list (zA (pv 2) pa_nil)) (zA (xV ["rule"] [] [] (xD (pv 3)) (fun _ _ _ _ nd => zM (i:=0) nd rfl (Or.inl rfl)) (fun _ _ _ _ => xR) (fun _ _ _ _ => (zX (zA (xP (kF K) rfl bi.list bt_list (zA (zI (uY K) (pv 0) zB (fun _ _ => rfl)) pa_nil)) (zA (zI (uY K) (pv 0) zB (fun _ _ => rfl)) pa_nil))))) pa_nil)))) (zD (zP (i:=6) sc_H.nd rfl (Or.inl rfl) pe_dnewT) (zD (yR PassesOwn.never rfl (xD (pv 5)) (zM (i:=7) sc_H.nd rfl (Or.inl rfl)) (zE (uT (jH hr) (pv 6) (zX (zA (zI ix_tup (pv 7) zB (fun _ _ => rfl)) (zA (zI ix_tup (pv 7) zB (fun _ _ => rfl)) pa_nil))) xG rfl))) (zD (yR PassesOwn.never rfl (xH rfl bi.range (zA zB pa_nil)) (zM (i:=8) sc_H.nd rfl (Or.inl rfl)) (zD (zP (i:=9) sc_H.nd rfl (Or.inl rfl) (zO op_mod (zO op_mul (zO op_add (zO op_mod (zR h_r (hr.mono (by omega)) rfl (zA (pv 0) (zA (zO op_mod (pv 8) zB) pa_nil))) (zO op_pow zB zB)) (zO op_mul (zO op_mul (pv 8) (pv 8)) (pv 8))) zB) zB)) (zD (zP (i:=10) sc_H.nd rfl (Or.inl rfl) (zX (zA (zO op_mod (pv 9) (pv 4)) (zA (zO op_mod (zO op_fdiv (pv 9) zB) (pv 4)) pa_nil)))) (zD (yI (zN op_eq (zO op_mod (pv 8) zB) zB (zL _)) (zD (zP (i:=7) sc_H.nd rfl (Or.inl rfl) (zI ix_list (pv 5) (zO op_sub (zO op_sub (zK call_len rfl bi.len bt_len (zA (pv 5) pa_nil)) zB) (zO op_mod (zO op_fdiv (pv 9) zB) (zK call_len rfl bi.len bt_len (zA (pv 5) pa_nil)))) (fun _ _ => rfl))) (zE (zP (i:=10) sc_H.nd rfl (Or.inl rfl) (zX (zA (zI ix_tup (pv 7) zB (fun _ _ => rfl)) (zA (zI ix_tup (pv 7) zB (fun _ _ => rfl)) pa_nil)))))) pss_nil) (zD (zP (i:=11) sc_H.nd rfl (Or.inl rfl) (zR h_F (hr.mono (by omega)) rfl (zA (xP call_list_of rfl bi.list bt_list (zA (pv 5) pa_nil)) (zA (zI ix_tup (pv 10) zB (fun _ _ => rfl)) (zA (zI ix_tup (pv 10) zB (fun _ _ => rfl)) pa_nil))))) (zD (yI (PW.pt (jB (ZO (kO (jH hr) (pv 10) (pv 6)) (by with_unfolding_all rfl)) (jN (zN op_notN (pv 11) uH (zL _))))) (zE (zQ xG)) pss_nil) (zE (yI (PW.pt (jB (ZO (pc_din (jH hr) (pv 10) (pv 6)) (by with_unfolding_all rfl)) (jN (jC (xC (zR h_e (hr.mono (by omega)) rfl (zA (pv 2) (zA (pv 3) (zA (pv 11) (zA (pv 10) pa_nil)))))))))) (zE (zQ xG)) pss_nil)))))))) (zE (zQ xG)))))))))),?_⟩
 have hcl:=cutI_len ns (some 2) none
 refine zJ fun N hN => ?_
 simp! []
 refine ⟨_,hS,fun p0 hp0 => ?_⟩
 rw [cut_ints]
 have g0:=zF hp0 (.lst ((YE ns (some 2) none).map V.int))
 have k0:upd H p0 (.lst ((YE ns (some 2) none).map V.int)) p0 = some (.lst ((YE ns (some 2) none).map V.int)):=zC
 generalize upd H p0 (.lst ((YE ns (some 2) none).map V.int)) = H1 at g0 k0 ⊢
 refine ⟨p0,_,_,_,rfl,SqL.of k0,by omega,fun mp ra ru us ws rows rules H2 s2 kmp hra hrw hru hrl r1 r100 u100 p100 hin hir => hN _ _ ?_⟩
 have hul:=yK hrw
 have hwl:=yK hrl
 have hS:=Same.seq (g0.trans s2) hS
 clear hN
 refine zJ fun N hN => ?_
 simp! []
 refine ⟨_,SqT.of kmp,_,at0,hN _ _ ?_⟩
 refine zJ fun N hN => ?_
 simp! []
 refine ⟨_,SqT.of kmp,_,at1,hN _ _ ?_⟩
 clear hN kmp
 refine zJ fun N hN => ?_
 simp! []
 refine ⟨us.length,.inl ⟨_,SqL.of hra,rfl⟩,.inl ⟨by decide,by decide⟩,hN _ _ ?_⟩
 clear hN
 rw [show 2 * (us.length:Int) = ((2 * rows.length:Nat):Int) by omega]
 refine zJ fun N hN => ?_
 simp! []
 refine ⟨_,.inl (SqL.of hra),fun w1 v1 => ?_⟩
 have s1:=zF v1 (.lst us)
 have kw1:upd H2 w1 (.lst us) w1 = some (.lst us):=zC
 generalize upd H2 w1 (.lst us) = H10 at s1 kw1 ⊢
 refine ⟨⟨_,SqL.of (s1 _ _ hru)⟩,?_⟩
 refine uX (xs:=ws) (fun i ys σ H2 => Same H10 H2 /\ DAts H2 ((rules.take i).map dNR) ys /\ ∃ o,σ = [o]) ⟨Same.refl _,rfl,_,rfl⟩ (small (by omega)) (fun i ys σ H2 e => ?_) (fun i ys σ H2 e => SqL.of (e.1 _ _ (s1 _ _ hru))) (fun i x ys σ H2 C hx e hC => ?_) (fun ys σ H3 e w2 v2 => ?_)
 · have := DAts.length e.2.1
   rw [List.length_map,List.length_take] at this
   omega
 · obtain ⟨es, hys, o, rfl⟩ := e
   obtain ⟨r,hr1,hr2⟩:=yW hrl hx
   obtain ⟨a9,l9,b9,pus,rfl,ka9,kl9,kp9,kb9⟩:=nrAt (DAt.same (s1.trans es) hr2)
   simp! []
   refine ⟨_,SqT.of ka9,_,at0,l9,rfl,_,.inl (SqL.of kl9),fun w3 v3 => ?_⟩
   have s3:=zF v3 (.lst pus)
   refine ⟨_,SqT.of (s3 _ _ ka9),_,at1,small (by simp),fun w4 v4 => hC _ _ _ ?_⟩
   have s4:=zF v4 (.tup [.ref w3,.ref b9])
   have s5:=s3.trans s4
   exact ⟨es.trans s5,mapSnoc hr1 (DAts.same s5 hys) ⟨w4,_,rfl,zC,_,_,rfl,⟨w3,_,rfl,s4 _ _ zC,DAts.same s5 kp9⟩,_,_,rfl,⟨b9,_,rfl,s5 _ _ kb9,_,_,rfl,rfl,_,_,rfl,rfl,rfl⟩,rfl⟩,_,rfl⟩
 obtain ⟨es,hys,o,rfl⟩:=e
 rw [hwl,List.take_of_length_le (Nat.le_refl _)] at hys
 have s2:=zF v2 (.lst ys)
 have kw2:upd H3 w2 (.lst ys) w2 = some (.lst ys):=zC
 replace hys:=DAts.same s2 hys
 replace s1:=s1.trans (es.trans s2)
 replace kw1:=s2 _ _ (es _ _ kw1)
 generalize upd H3 w2 (.lst ys) = H4 at s2 kw2 hys s1 kw1 ⊢
 replace hra:=s1 _ _ hra
 replace hru:=s1 _ _ hru
 replace hrw:=DAts.same s1 hrw
 replace hrl:=DAts.same s1 hrl
 replace hS:=Same.seq s1 hS
 clear s2 es v2 v1 s1
 refine ⟨w1,w2,us,ys,rows,rules,rfl,kw1,hrw,kw2,hys,r100,hin,u100,p100,fun la lw ln H6 s6 hla hln hok hPl _ => hN _ _ ?_⟩
 clear hN
 replace hra:=s6 _ _ hra
 replace hru:=s6 _ _ hru
 replace hrw:=DAts.same s6 hrw
 replace hrl:=DAts.same s6 hrl
 replace hS:=Same.seq s6 hS
 clear s6 kw1 kw2 hys
 have hll:=yK hln
 have hN2:ln.length <= 40000:=by
   have h1:=hok.len
   have h2:(2 * rows.length) * (2 * rows.length) <= 200 * 200:=Nat.mul_le_mul (by omega) (by omega)
   omega
 have hne:1 <= ln.length:=by
   obtain ⟨b,x,hx,_⟩:=hasP_iff.mp (hPl.same 0 (by omega))
   have:=(List.getElem?_eq_some_iff.mp hx).1
   omega
 have hah:=wX hok p100
 have sz:∀ {n:Nat},n <= 40000 -> n < sizeLine:=fun h => Nat.lt_of_le_of_lt (m:=100000) (by omega) (by decide)
 refine zJ fun N hN => ?_
 simp! [tDNewT]
 refine fun pd hpd => hN _ _ ?_
 clear hN
 have s10:=zF hpd (.dT [])
 have kpd:upd H6 pd (.dT []) pd = some (.dT (seT (ln.take 0))):=zC
 generalize upd H6 pd (.dT []) = H9 at s10 kpd ⊢
 refine yE (fun σ H' => Same H6 H' /\ H' pd = some (.dT (seT ln)) /\ ∃ (o6:Option V),σ = [some (V.ref a),some (V.ref mp),some (V.ref ra),some (V.ref ru),some (V.int ((2 * rows.length:Nat):Int)),some (V.ref la),some (V.ref pd),o6,none,none,none,none]) (fun N hN => ?_) (fun σ H' h => ?_)
 · simp! []
   refine ⟨⟨_,SqL.of (s10 _ _ hla)⟩,?_⟩
   refine xX (xs:=lw) (fun k σ H' => Same H6 H' /\ H' pd = some (.dT (seT (ln.take k))) /\ ∃ o6,σ = [some (V.ref a),some (V.ref mp),some (V.ref ra),some (V.ref ru),some (V.int ((2 * rows.length:Nat):Int)),some (V.ref la),some (V.ref pd),o6,none,none,none,none]) ⟨s10,kpd,_,rfl⟩ (fun k σ H' _ h => ?_) (fun k x σ H' hx h => ?_) (fun σ H' h => ?_)
   · exact SqL.of (h.1 _ _ hla)
   · obtain ⟨s11, k11, o6, rfl⟩ := h
     obtain ⟨l,hlk,hld⟩:=yW hln hx
     obtain ⟨xa,u,rfl,hxa,hu⟩:=kD hld
     replace hxa:=s11 _ _ hxa
     simp! [kN]
     have hno:yS (seT (ln.take k)) (yZ l.i l.j) = none:=wI _ fun l' hl' ⟨e1,e2⟩ => by
       obtain ⟨m,hm,rfl⟩:=List.getElem_of_mem hl'
       rw [List.length_take] at hm
       have hm2:(ln.take k)[m] = ln[m]:=List.getElem_take
       rw [hm2] at e1 e2
       have:=hok.dis m k _ _ (List.getElem?_eq_getElem (by omega)) hlk e1 e2
       omega
     refine ⟨_,SqT.of hxa,_,at0,_,SqT.of hxa,_,at1,small (by decide),fun p1 hp1 => ?_⟩
     have s13:=zF hp1 (.tup [V.int l.i,V.int l.j])
     have kp1:upd H' p1 (.tup [V.int l.i,V.int l.j]) p1 = some (.tup [V.int l.i,V.int l.j]):=zC
     generalize upd H' p1 (.tup [V.int l.i,V.int l.j]) = H13 at s13 kp1 ⊢
     replace k11:=s13 _ _ k11
     obtain ⟨hkl,hk2⟩:=List.getElem?_eq_some_iff.mp hlk
     refine ⟨_,.inr ⟨_,yZ l.i l.j,p1,k11,rfl,kp1,sz (by rw [seT_len,List.length_take]; omega),rfl⟩,(s11.trans s13).upd hpd,?_,_,rfl⟩
     rw [zC,qY hno,List.take_succ_eq_append_getElem hkl,hk2,seT_snoc]
   · obtain ⟨s11, k11, o6, rfl⟩ := h
     rw [hll,List.take_of_length_le (Nat.le_refl _)] at k11
     exact hN _ _ ⟨s11,k11,_,rfl⟩
 obtain ⟨s11,k11,o6,rfl⟩:=h
 replace hra:=s11 _ _ hra
 replace hru:=s11 _ _ hru
 replace hrw:=DAts.same s11 hrw
 replace hrl:=DAts.same s11 hrl
 replace hS:=Same.seq s11 hS
 replace hla:=s11 _ _ hla
 replace hln:=DAts.same s11 hln
 clear s11 s10 kpd hpd
 refine yE (fun σ H'' => ∃ o6 o7 o8 o9 o10:Option V,σ = [some (V.ref a),some (V.ref mp),some (V.ref ra),some (V.ref ru),some (V.int ((2 * rows.length:Nat):Int)),some (V.ref la),some (V.ref pd),o6,o7,o8,o9,o10]) (fun N hN => ?_) (fun σ H'' h => ?_)
 · simp! []
   refine ⟨by omega,by omega,?_⟩
   refine xS (n:=12) (fun k σ H'' => Same H' H'' /\ ∃ o6 o7 o8 o9 o10:Option V,σ = [some (V.ref a),some (V.ref mp),some (V.ref ra),some (V.ref ru),some (V.int ((2 * rows.length:Nat):Int)),some (V.ref la),some (V.ref pd),o6,o7,o8,o9,o10]) ⟨Same.refl _,_,_,_,_,_,rfl⟩ (fun k σ H2 hk h => ?_) (fun σ H2 h => ?_)
   · obtain ⟨s12, o6, o7, o8, o9, o10, rfl⟩ := h
     refine zJ fun N hN => ?_
     simp! []
     have ek:(0:Int) + (k:Int) = ((k:Nat):Int):=by omega
     have ek2:((0:Int) + (k:Int)) % 2 = ((k % 2:Nat):Int):=by omega
     rw [ek2,ek]
     have kk:(k:Int) * (k:Int) <= 11 * 11:=Int.mul_le_mul (by omega) (by omega) (by omega) (by omega)
     have kk0:0 <= (k:Int) * (k:Int):=Int.mul_nonneg (by omega) (by omega)
     have kkk:(k:Int) * (k:Int) * (k:Int) <= 121 * 11:=Int.mul_le_mul (by omega) (by omega) (by omega) (by omega)
     have kkk0:0 <= (k:Int) * (k:Int) * (k:Int):=Int.mul_nonneg (by omega) (by omega)
     refine ⟨by decide,a,ns,k % 2,rfl,Same.seq s12 hS,⟨by decide,by decide,by decide⟩,_,rfl,p1012,?_⟩
     have hm0:=Int.emod_nonneg (ns.getD (k % 2) 0) (Int.ne_of_gt p1012)
     have hm1:=Int.emod_lt_of_pos (ns.getD (k % 2) 0) p1012
     have e12:(10:Int) ^ Int.toNat 12 = 1000000000000:=by show (10:Int) ^ 12 = _; simp
     rw [e12] at hm0 hm1 ⊢
     generalize ns.getD (k % 2) 0 % 1000000000000 = cm at hm0 hm1 ⊢
     refine ⟨.inl ⟨by omega,by omega⟩,.inr ⟨by omega,by omega⟩,.inr ⟨by decide,by decide⟩,by decide,hN _ _ ?_⟩
     clear hN
     have hd0:=Int.emod_nonneg ((cm + (k:Int) * (k:Int) * (k:Int)) * 48271) (show (2147483647:Int) ≠ 0 by decide)
     generalize (cm + (k:Int) * (k:Int) * (k:Int)) * 48271 % 2147483647 = dr at hd0 ⊢
     refine zJ fun N hN => ?_
     simp! []
     refine ⟨by omega,⟨by decide,by decide⟩,by omega,small (by simp),fun pp hpp => hN _ _ ?_⟩
     clear hN
     have s13:=zF hpp (.tup [.int (dr % ((2 * rows.length:Nat):Int)),.int (dr / 64 % ((2 * rows.length:Nat):Int))])
     have kpp:upd H2 pp (.tup [.int (dr % ((2 * rows.length:Nat):Int)),.int (dr / 64 % ((2 * rows.length:Nat):Int))]) pp = some (.tup [.int (dr % ((2 * rows.length:Nat):Int)),.int (dr / 64 % ((2 * rows.length:Nat):Int))]):=zC
     generalize upd H2 pp (.tup [.int (dr % ((2 * rows.length:Nat):Int)),.int (dr / 64 % ((2 * rows.length:Nat):Int))]) = H3 at s13 kpp ⊢
     replace s13:=s12.trans s13
     generalize dr % ((2 * rows.length:Nat):Int) = i0 at kpp ⊢
     generalize dr / 64 % ((2 * rows.length:Nat):Int) = j0 at kpp ⊢
     refine yE (fun σ H4 => Same H' H4 /\ ∃ (pp:Addr) (i j:Int) (o6:Option V),H4 pp = some (.tup [.int i,.int j]) /\ σ = [some (V.ref a),some (V.ref mp),some (V.ref ra),some (V.ref ru),some (V.int ((2 * rows.length:Nat):Int)),some (V.ref la),some (V.ref pd),o6,some (V.int k),some (V.int dr),some (V.ref pp),o10]) (fun N hN => ?_) (fun σ H4 h => ?_)
     · simp! []
       refine ⟨by decide,rfl,?_⟩
       by_cases c:(k:Int) % 2 = 0
       case neg =>
         rw [if_neg c]
         exact hN _ _ ⟨s13,pp,i0,j0,_,kpp,rfl⟩
       rw [if_pos c]
       have hx:(((lw.length:Int) - 1 - dr / 4096 % (lw.length:Int)).toNat) < ln.length:=by
         have:=Int.emod_nonneg (dr / 4096) (show (lw.length:Int) ≠ 0 by omega)
         omega
       have hx0:0 <= (lw.length:Int) - 1 - dr / 4096 % (lw.length:Int):=by
         have:=Int.emod_lt_of_pos (dr / 4096) (show (0:Int) < (lw.length:Int) by omega)
         omega
       obtain ⟨v,hv1,hv2⟩:=DAts.get (d:=dLn ln[((lw.length:Int) - 1 - dr / 4096 % (lw.length:Int)).toNat]) (DAts.same s13 hln) (by rw [List.getElem?_map,List.getElem?_eq_getElem hx]; rfl)
       have hat:=jK hx0 hv1
       generalize ln[((lw.length:Int) - 1 - dr / 4096 % (lw.length:Int)).toNat] = l at hv2
       obtain ⟨b,u,rfl,hb,_⟩:=kD hv2
       have hla':=SqL.of (K:=K) (s13 _ _ hla)
       refine ⟨lw.length,.inl ⟨_,hla',rfl⟩,⟨by decide,by decide⟩,lw.length,.inl ⟨_,hla',rfl⟩,by omega,_,hla',_,hat,b,rfl,_,SqT.of hb,_,at0,b,rfl,_,SqT.of hb,_,at1,small (by simp),fun p9 h9 => hN _ _ ⟨s13.trans (zF h9 _),p9,l.i,l.j,_,zC,rfl⟩⟩
     obtain ⟨s14,pp,i,j,o6,kp,rfl⟩:=h
     refine zJ fun N hN => ?_
     simp! []
     refine ⟨_,.inl (SqL.of (s14 _ _ hla)),fun w8 v8 => ?_⟩
     have s15:=zF v8 (.lst lw)
     have k15:upd H4 w8 (.lst lw) w8 = some (.lst lw):=zC
     replace kp:=s15 _ _ kp
     replace s15:=s14.trans s15
     generalize upd H4 w8 (.lst lw) = H5 at s15 k15 kp ⊢
     refine ⟨_,SqT.of kp,_,at0,_,SqT.of kp,_,at1,?_⟩
     refine ⟨w8,lw,ln,i,j,rfl,k15,DAts.same s15 hln,hah,hN2,fun r H7 s16 hpa => hN _ _ ?_⟩
     clear hN
     replace kp:=s16 _ _ kp
     replace s15:=s15.trans s16
     have kpd:=s15 _ _ k11
     rcases hpa with ⟨rfl,hno⟩ | ⟨k',l,ks,hlk,⟨hi,hj⟩,_,hks,hd⟩
     · have hval := wI ln hno
       refine zJ fun N hN => ?_
       simp! [vT]
       refine ⟨_,.inr ⟨_,yZ i j,pp,.inl kpd,rfl,kp,rfl⟩,?_⟩
       rw [hval,if_pos (by decide),if_neg (fun h => h trivial)]
       refine hN _ _ ?_
       clear hN
       simp! [tDIn]
       refine ⟨_,.inr ⟨_,yZ i j,pp,.inl kpd,rfl,kp,rfl⟩,?_⟩
       rw [hval,if_neg (by decide)]
       exact ⟨s15,_,rfl⟩
     · have hval := seT_some ln (List.mem_of_getElem? hlk) hi hj
       refine zJ fun N hN => ?_
       simp! [vT]
       refine ⟨_,.inr ⟨_,yZ i j,pp,.inl kpd,rfl,kp,rfl⟩,?_⟩
       rw [hval,if_neg (by decide)]
       refine hN _ _ ?_
       clear hN
       have hpo:=pap_ok hok p100 hlk hks
       obtain ⟨fa,fu,rfl,hfa,hfu⟩:=hd
       have hpl:(qD ln ks ks.length).length <= 40000:=by
         have h1:=hpo.ok.len
         have h2:(2 * rows.length) * (2 * rows.length) <= 200 * 200:=Nat.mul_le_mul (by omega) (by omega)
         omega
       simp! [tDIn]
       refine ⟨_,.inr ⟨_,yZ i j,pp,.inl kpd,rfl,kp,rfl⟩,?_⟩
       rw [hval,if_pos (by decide)]
       rw [hi,hj] at hpo
       refine ⟨ra,ru,fa,pp,us,ws,fu,rows,rules,qD ln ks ks.length,i,j,rfl,s15 _ _ hra,DAts.same s15 hrw,r100,s15 _ _ hru,DAts.same s15 hrl,hfa,hfu,kp,hpo,hpl,fun H8 s17 => ⟨_,rfl,?_⟩⟩
       rw [if_neg (by decide)]
       exact ⟨s15.trans s17,_,rfl⟩
   · obtain ⟨s12, o6, o7, o8, o9, o10, rfl⟩ := h
     exact hN _ _ ⟨_,_,_,_,_,rfl⟩
 obtain ⟨o6,o7,o8,o9,o10,rfl⟩:=h
 simp! []
 exact q _
end
theorem ln0 {us:List Value} (h:us.length = 0):us = []:=List.length_eq_zero_iff.mp h
theorem lnS {us:List Value} {n:Nat} (h:us.length = n + 1):∃ (u:Value) (r:List Value),us = u :: r /\ r.length = n:=by
 cases us with
 | nil => cases h
 | cons u r => exact ⟨u,r,rfl,Nat.succ.inj h⟩
theorem ln1 {us:List Value} (h:us.length = 1):∃ a,us = [a]:=by
 obtain ⟨a,r,rfl,g⟩:=lnS h
 cases ln0 g
 exact ⟨a,rfl⟩
theorem ln2 {us:List Value} (h:us.length = 2):∃ a b,us = [a,b]:=by
 obtain ⟨a,r,rfl,g⟩:=lnS h
 obtain ⟨b,rfl⟩:=ln1 g
 exact ⟨a,b,rfl⟩
theorem ln3 {us:List Value} (h:us.length = 3):∃ a b c,us = [a,b,c]:=by
 obtain ⟨a,r,rfl,g⟩:=lnS h
 obtain ⟨b,c,rfl⟩:=ln2 g
 exact ⟨a,b,c,rfl⟩
theorem ln4 {us:List Value} (h:us.length = 4):∃ a b c d,us = [a,b,c,d]:=by
 obtain ⟨a,r,rfl,g⟩:=lnS h
 obtain ⟨b,c,d,rfl⟩:=ln3 g
 exact ⟨a,b,c,d,rfl⟩
theorem all_mk {l:PySem.W.OpenLaw} {w:World} {K:PySem.W.Frag} {h:Heap} {mg:Str -> Option Value} {fa:Addr} (X:K.In h) (G:h.Ns mainGlobals mg) (hfa:mg "law" = some (.ref fa))
   {C_Growth:Addr} (aC_Growth:PySem.W.nsIn K mainGlobals "Growth" = some (some (.ref C_Growth)))
   {f_l:Addr} {od_l an_l:Option Addr} {sl_l:Array (Option Value)} {oc_l kV_l dc_l pm_l cd_l ct_l:Value} (a_l:PySem.W.findIn K (.ref C_Growth) "__init__" = some (some (.ref f_l))) (i_l:PySem.W.isFn K (.ref f_l) = true) (l_l:K.lookup f_l = some ⟨oc_l,od_l,.func (PySem.W.fnOf "__init__" "Growth.__init__" (zT s_l) (zS s_l) (zG s_l) .none kV_l dc_l pm_l an_l cd_l ct_l),sl_l⟩) (c_l:PySem.W.codeIn K cd_l "Growth.__init__" = true) (k_l:PySem.W.keepIn K (.ref f_l) = true)
   {f_b:Addr} {od_b an_b:Option Addr} {sl_b:Array (Option Value)} {oc_b kV_b dc_b pm_b cd_b ct_b:Value} (a_b:PySem.W.findIn K (.ref C_Growth) "line_of" = some (some (.ref f_b))) (i_b:PySem.W.isFn K (.ref f_b) = true) (l_b:K.lookup f_b = some ⟨oc_b,od_b,.func (PySem.W.fnOf "line_of" "Growth.line_of" (zT s_b) (zS s_b) (zG s_b) .none kV_b dc_b pm_b an_b cd_b ct_b),sl_b⟩) (c_b:PySem.W.codeIn K cd_b "Growth.line_of" = true) (k_b:PySem.W.keepIn K (.ref f_b) = true)
   {f_n:Addr} {od_n an_n:Option Addr} {sl_n:Array (Option Value)} {oc_n kV_n dc_n pm_n cd_n ct_n:Value} (a_n:PySem.W.findIn K (.ref C_Growth) "has" = some (some (.ref f_n))) (i_n:PySem.W.isFn K (.ref f_n) = true) (l_n:K.lookup f_n = some ⟨oc_n,od_n,.func (PySem.W.fnOf "has" "Growth.has" (zT s_n) (zS s_n) (zG s_n) .none kV_n dc_n pm_n an_n cd_n ct_n),sl_n⟩) (c_n:PySem.W.codeIn K cd_n "Growth.has" = true) (k_n:PySem.W.keepIn K (.ref f_n) = true)
   {f_d:Addr} {od_d an_d:Option Addr} {sl_d:Array (Option Value)} {oc_d kV_d dc_d pm_d cd_d ct_d:Value} (a_d:PySem.W.findIn K (.ref C_Growth) "grow" = some (some (.ref f_d))) (i_d:PySem.W.isFn K (.ref f_d) = true) (l_d:K.lookup f_d = some ⟨oc_d,od_d,.func (PySem.W.fnOf "grow" "Growth.grow" (zT s_d) (zS s_d) (zG s_d) .none kV_d dc_d pm_d an_d cd_d ct_d),sl_d⟩) (c_d:PySem.W.codeIn K cd_d "Growth.grow" = true) (k_d:PySem.W.keepIn K (.ref f_d) = true)
   (pg_Growth:PySem.W.plainGet K C_Growth Str.empty = true) (hd_Growth:PySem.W.hasDictIn K C_Growth = true) (po_Growth:PySem.W.plainOver K C_Growth = true) (sa_Growth:PySem.W.findIn K (.ref C_Growth) "__setattr__" = some (some (.builtin "object.__setattr__"))) (mk_Growth:PySem.W.makesIn K C_Growth = true) (kc_Growth:PySem.W.keepIn K (.ref C_Growth) = true) (n_Growth_lines:PySem.W.findIn K (.ref C_Growth) "lines" = some none) (n_Growth_places:PySem.W.findIn K (.ref C_Growth) "places" = some none) (n_Growth_above:PySem.W.findIn K (.ref C_Growth) "above" = some none) (n_Growth_below:PySem.W.findIn K (.ref C_Growth) "below" = some none)
   {f_A:Addr} {od_A an_A:Option Addr} {sl_A:Array (Option Value)} {oc_A kV_A dc_A pm_A cd_A ct_A:Value} (a_A:PySem.W.nsIn K mainGlobals "is_whole" = some (some (.ref f_A))) (l_A:K.lookup f_A = some ⟨oc_A,od_A,.func (PySem.W.fnOf "is_whole" "is_whole" (zT s_A) (zS s_A) (zG s_A) .none kV_A dc_A pm_A an_A cd_A ct_A),sl_A⟩) (c_A:PySem.W.codeIn K cd_A "is_whole" = true) (k_A:PySem.W.keepIn K (.ref f_A) = true)
   {f_B:Addr} {od_B an_B:Option Addr} {sl_B:Array (Option Value)} {oc_B kV_B dc_B pm_B cd_B ct_B:Value} (a_B:PySem.W.nsIn K mainGlobals "is_below" = some (some (.ref f_B))) (l_B:K.lookup f_B = some ⟨oc_B,od_B,.func (PySem.W.fnOf "is_below" "is_below" (zT s_B) (zS s_B) (zG s_B) .none kV_B dc_B pm_B an_B cd_B ct_B),sl_B⟩) (c_B:PySem.W.codeIn K cd_B "is_below" = true) (k_B:PySem.W.keepIn K (.ref f_B) = true)
   {f_C:Addr} {od_C an_C:Option Addr} {sl_C:Array (Option Value)} {oc_C kV_C dc_C pm_C cd_C ct_C:Value} (a_C:PySem.W.nsIn K mainGlobals "bits_of" = some (some (.ref f_C))) (l_C:K.lookup f_C = some ⟨oc_C,od_C,.func (PySem.W.fnOf "bits_of" "bits_of" (zT s_C) (zS s_C) (zG s_C) .none kV_C dc_C pm_C an_C cd_C ct_C),sl_C⟩) (c_C:PySem.W.codeIn K cd_C "bits_of" = true) (k_C:PySem.W.keepIn K (.ref f_C) = true)
   {f_G:Addr} {od_G an_G:Option Addr} {sl_G:Array (Option Value)} {oc_G kV_G dc_G pm_G cd_G ct_G:Value} (a_G:PySem.W.nsIn K mainGlobals "begin" = some (some (.ref f_G))) (l_G:K.lookup f_G = some ⟨oc_G,od_G,.func (PySem.W.fnOf "begin" "begin" (zT s_G) (zS s_G) (zG s_G) .none kV_G dc_G pm_G an_G cd_G ct_G),sl_G⟩) (c_G:PySem.W.codeIn K cd_G "begin" = true) (k_G:PySem.W.keepIn K (.ref f_G) = true)
   {f_f:Addr} {od_f an_f:Option Addr} {sl_f:Array (Option Value)} {oc_f kV_f dc_f pm_f cd_f ct_f:Value} (a_f:PySem.W.nsIn K mainGlobals "boths_by_part" = some (some (.ref f_f))) (l_f:K.lookup f_f = some ⟨oc_f,od_f,.func (PySem.W.fnOf "boths_by_part" "boths_by_part" (zT s_f) (zS s_f) (zG s_f) .none kV_f dc_f pm_f an_f cd_f ct_f),sl_f⟩) (c_f:PySem.W.codeIn K cd_f "boths_by_part" = true) (k_f:PySem.W.keepIn K (.ref f_f) = true)
   {f_c:Addr} {od_c an_c:Option Addr} {sl_c:Array (Option Value)} {oc_c kV_c dc_c pm_c cd_c ct_c:Value} (a_c:PySem.W.nsIn K mainGlobals "rules_by_premise" = some (some (.ref f_c))) (l_c:K.lookup f_c = some ⟨oc_c,od_c,.func (PySem.W.fnOf "rules_by_premise" "rules_by_premise" (zT s_c) (zS s_c) (zG s_c) .none kV_c dc_c pm_c an_c cd_c ct_c),sl_c⟩) (c_c:PySem.W.codeIn K cd_c "rules_by_premise" = true) (k_c:PySem.W.keepIn K (.ref f_c) = true)
   {f_m:Addr} {od_m an_m:Option Addr} {sl_m:Array (Option Value)} {oc_m kV_m dc_m pm_m cd_m ct_m:Value} (a_m:PySem.W.nsIn K mainGlobals "grow_by_turn" = some (some (.ref f_m))) (l_m:K.lookup f_m = some ⟨oc_m,od_m,.func (PySem.W.fnOf "grow_by_turn" "grow_by_turn" (zT s_m) (zS s_m) (zG s_m) .none kV_m dc_m pm_m an_m cd_m ct_m),sl_m⟩) (c_m:PySem.W.codeIn K cd_m "grow_by_turn" = true) (k_m:PySem.W.keepIn K (.ref f_m) = true)
   {f_g:Addr} {od_g an_g:Option Addr} {sl_g:Array (Option Value)} {oc_g kV_g dc_g pm_g cd_g ct_g:Value} (a_g:PySem.W.nsIn K mainGlobals "grow_by_chain" = some (some (.ref f_g))) (l_g:K.lookup f_g = some ⟨oc_g,od_g,.func (PySem.W.fnOf "grow_by_chain" "grow_by_chain" (zT s_g) (zS s_g) (zG s_g) .none kV_g dc_g pm_g an_g cd_g ct_g),sl_g⟩) (c_g:PySem.W.codeIn K cd_g "grow_by_chain" = true) (k_g:PySem.W.keepIn K (.ref f_g) = true)
   {f_j:Addr} {od_j an_j:Option Addr} {sl_j:Array (Option Value)} {oc_j kV_j dc_j pm_j cd_j ct_j:Value} (a_j:PySem.W.nsIn K mainGlobals "grow_by_both" = some (some (.ref f_j))) (l_j:K.lookup f_j = some ⟨oc_j,od_j,.func (PySem.W.fnOf "grow_by_both" "grow_by_both" (zT s_j) (zS s_j) (zG s_j) .none kV_j dc_j pm_j an_j cd_j ct_j),sl_j⟩) (c_j:PySem.W.codeIn K cd_j "grow_by_both" = true) (k_j:PySem.W.keepIn K (.ref f_j) = true)
   {f_h:Addr} {od_h an_h:Option Addr} {sl_h:Array (Option Value)} {oc_h kV_h dc_h pm_h cd_h ct_h:Value} (a_h:PySem.W.nsIn K mainGlobals "grow_by_clash" = some (some (.ref f_h))) (l_h:K.lookup f_h = some ⟨oc_h,od_h,.func (PySem.W.fnOf "grow_by_clash" "grow_by_clash" (zT s_h) (zS s_h) (zG s_h) .none kV_h dc_h pm_h an_h cd_h ct_h),sl_h⟩) (c_h:PySem.W.codeIn K cd_h "grow_by_clash" = true) (k_h:PySem.W.keepIn K (.ref f_h) = true)
   {f_i:Addr} {od_i an_i:Option Addr} {sl_i:Array (Option Value)} {oc_i kV_i dc_i pm_i cd_i ct_i:Value} (a_i:PySem.W.nsIn K mainGlobals "grow_by_rule" = some (some (.ref f_i))) (l_i:K.lookup f_i = some ⟨oc_i,od_i,.func (PySem.W.fnOf "grow_by_rule" "grow_by_rule" (zT s_i) (zS s_i) (zG s_i) .none kV_i dc_i pm_i an_i cd_i ct_i),sl_i⟩) (c_i:PySem.W.codeIn K cd_i "grow_by_rule" = true) (k_i:PySem.W.keepIn K (.ref f_i) = true)
   {f_z:Addr} {od_z an_z:Option Addr} {sl_z:Array (Option Value)} {oc_z kV_z dc_z pm_z cd_z ct_z:Value} (a_z:PySem.W.nsIn K mainGlobals "closing" = some (some (.ref f_z))) (l_z:K.lookup f_z = some ⟨oc_z,od_z,.func (PySem.W.fnOf "closing" "closing" (zT s_z) (zS s_z) (zG s_z) .none kV_z dc_z pm_z an_z cd_z ct_z),sl_z⟩) (c_z:PySem.W.codeIn K cd_z "closing" = true) (k_z:PySem.W.keepIn K (.ref f_z) = true)
   {f_s:Addr} {od_s an_s:Option Addr} {sl_s:Array (Option Value)} {oc_s kV_s dc_s pm_s cd_s ct_s:Value} (a_s:PySem.W.nsIn K mainGlobals "lines_named" = some (some (.ref f_s))) (l_s:K.lookup f_s = some ⟨oc_s,od_s,.func (PySem.W.fnOf "lines_named" "lines_named" (zT s_s) (zS s_s) (zG s_s) .none kV_s dc_s pm_s an_s cd_s ct_s),sl_s⟩) (c_s:PySem.W.codeIn K cd_s "lines_named" = true) (k_s:PySem.W.keepIn K (.ref f_s) = true)
   {f_E:Addr} {od_E an_E:Option Addr} {sl_E:Array (Option Value)} {oc_E kV_E dc_E pm_E cd_E ct_E:Value} (a_E:PySem.W.nsIn K mainGlobals "renamed" = some (some (.ref f_E))) (l_E:K.lookup f_E = some ⟨oc_E,od_E,.func (PySem.W.fnOf "renamed" "renamed" (zT s_E) (zS s_E) (zG s_E) .none kV_E dc_E pm_E an_E cd_E ct_E),sl_E⟩) (c_E:PySem.W.codeIn K cd_E "renamed" = true) (k_E:PySem.W.keepIn K (.ref f_E) = true)
   {f_y:Addr} {od_y an_y:Option Addr} {sl_y:Array (Option Value)} {oc_y kV_y dc_y pm_y cd_y ct_y:Value} (a_y:PySem.W.nsIn K mainGlobals "line_for" = some (some (.ref f_y))) (l_y:K.lookup f_y = some ⟨oc_y,od_y,.func (PySem.W.fnOf "line_for" "line_for" (zT s_y) (zS s_y) (zG s_y) .none kV_y dc_y pm_y an_y cd_y ct_y),sl_y⟩) (c_y:PySem.W.codeIn K cd_y "line_for" = true) (k_y:PySem.W.keepIn K (.ref f_y) = true)
   {f_D:Addr} {od_D an_D:Option Addr} {sl_D:Array (Option Value)} {oc_D kV_D dc_D pm_D cd_D ct_D:Value} (a_D:PySem.W.nsIn K mainGlobals "hung_on" = some (some (.ref f_D))) (l_D:K.lookup f_D = some ⟨oc_D,od_D,.func (PySem.W.fnOf "hung_on" "hung_on" (zT s_D) (zS s_D) (zG s_D) .none kV_D dc_D pm_D an_D cd_D ct_D),sl_D⟩) (c_D:PySem.W.codeIn K cd_D "hung_on" = true) (k_D:PySem.W.keepIn K (.ref f_D) = true)
   {f_F:Addr} {od_F an_F:Option Addr} {sl_F:Array (Option Value)} {oc_F kV_F dc_F pm_F cd_F ct_F:Value} (a_F:PySem.W.nsIn K mainGlobals "paper" = some (some (.ref f_F))) (l_F:K.lookup f_F = some ⟨oc_F,od_F,.func (PySem.W.fnOf "paper" "paper" (zT s_F) (zS s_F) (zG s_F) .none kV_F dc_F pm_F an_F cd_F ct_F),sl_F⟩) (c_F:PySem.W.codeIn K cd_F "paper" = true) (k_F:PySem.W.keepIn K (.ref f_F) = true)
   {f_r:Addr} {od_r an_r:Option Addr} {sl_r:Array (Option Value)} {oc_r kV_r dc_r pm_r cd_r ct_r:Value} (a_r:PySem.W.nsIn K mainGlobals "_law_cell_at" = some (some (.ref f_r))) (l_r:K.lookup f_r = some ⟨oc_r,od_r,.func (PySem.W.fnOf "_law_cell_at" "_law_cell_at" (zT s_r) (zS s_r) (zG s_r) .none kV_r dc_r pm_r an_r cd_r ct_r),sl_r⟩) (c_r:PySem.W.codeIn K cd_r "_law_cell_at" = true) (k_r:PySem.W.keepIn K (.ref f_r) = true)
   {f_k:Addr} {od_k an_k:Option Addr} {sl_k:Array (Option Value)} {oc_k kV_k dc_k pm_k cd_k ct_k:Value} (a_k:PySem.W.nsIn K mainGlobals "_law_name_by" = some (some (.ref f_k))) (l_k:K.lookup f_k = some ⟨oc_k,od_k,.func (PySem.W.fnOf "_law_name_by" "_law_name_by" (zT s_k) (zS s_k) (zG s_k) .none kV_k dc_k pm_k an_k cd_k ct_k),sl_k⟩) (c_k:PySem.W.codeIn K cd_k "_law_name_by" = true) (k_k:PySem.W.keepIn K (.ref f_k) = true)
   {f_t:Addr} {od_t an_t:Option Addr} {sl_t:Array (Option Value)} {oc_t kV_t dc_t pm_t cd_t ct_t:Value} (a_t:PySem.W.nsIn K mainGlobals "_law_turned" = some (some (.ref f_t))) (l_t:K.lookup f_t = some ⟨oc_t,od_t,.func (PySem.W.fnOf "_law_turned" "_law_turned" (zT s_t) (zS s_t) (zG s_t) .none kV_t dc_t pm_t an_t cd_t ct_t),sl_t⟩) (c_t:PySem.W.codeIn K cd_t "_law_turned" = true) (k_t:PySem.W.keepIn K (.ref f_t) = true)
   {f_a:Addr} {od_a an_a:Option Addr} {sl_a:Array (Option Value)} {oc_a kV_a dc_a pm_a cd_a ct_a:Value} (a_a:PySem.W.nsIn K mainGlobals "_law_sheet_and_rules" = some (some (.ref f_a))) (l_a:K.lookup f_a = some ⟨oc_a,od_a,.func (PySem.W.fnOf "_law_sheet_and_rules" "_law_sheet_and_rules" (zT s_a) (zS s_a) (zG s_a) .none kV_a dc_a pm_a an_a cd_a ct_a),sl_a⟩) (c_a:PySem.W.codeIn K cd_a "_law_sheet_and_rules" = true) (k_a:PySem.W.keepIn K (.ref f_a) = true)
   {f_w:Addr} {od_w an_w:Option Addr} {sl_w:Array (Option Value)} {oc_w kV_w dc_w pm_w cd_w ct_w:Value} (a_w:PySem.W.nsIn K mainGlobals "_law_ahead" = some (some (.ref f_w))) (l_w:K.lookup f_w = some ⟨oc_w,od_w,.func (PySem.W.fnOf "_law_ahead" "_law_ahead" (zT s_w) (zS s_w) (zG s_w) .none kV_w dc_w pm_w an_w cd_w ct_w),sl_w⟩) (c_w:PySem.W.codeIn K cd_w "_law_ahead" = true) (k_w:PySem.W.keepIn K (.ref f_w) = true)
   {f_o:Addr} {od_o an_o:Option Addr} {sl_o:Array (Option Value)} {oc_o kV_o dc_o pm_o cd_o ct_o:Value} (a_o:PySem.W.nsIn K mainGlobals "_law_by_rule" = some (some (.ref f_o))) (l_o:K.lookup f_o = some ⟨oc_o,od_o,.func (PySem.W.fnOf "_law_by_rule" "_law_by_rule" (zT s_o) (zS s_o) (zG s_o) .none kV_o dc_o pm_o an_o cd_o ct_o),sl_o⟩) (c_o:PySem.W.codeIn K cd_o "_law_by_rule" = true) (k_o:PySem.W.keepIn K (.ref f_o) = true)
   {f_p:Addr} {od_p an_p:Option Addr} {sl_p:Array (Option Value)} {oc_p kV_p dc_p pm_p cd_p ct_p:Value} (a_p:PySem.W.nsIn K mainGlobals "_law_by_none" = some (some (.ref f_p))) (l_p:K.lookup f_p = some ⟨oc_p,od_p,.func (PySem.W.fnOf "_law_by_none" "_law_by_none" (zT s_p) (zS s_p) (zG s_p) .none kV_p dc_p pm_p an_p cd_p ct_p),sl_p⟩) (c_p:PySem.W.codeIn K cd_p "_law_by_none" = true) (k_p:PySem.W.keepIn K (.ref f_p) = true)
   {f_x:Addr} {od_x an_x:Option Addr} {sl_x:Array (Option Value)} {oc_x kV_x dc_x pm_x cd_x ct_x:Value} (a_x:PySem.W.nsIn K mainGlobals "_law_step" = some (some (.ref f_x))) (l_x:K.lookup f_x = some ⟨oc_x,od_x,.func (PySem.W.fnOf "_law_step" "_law_step" (zT s_x) (zS s_x) (zG s_x) .none kV_x dc_x pm_x an_x cd_x ct_x),sl_x⟩) (c_x:PySem.W.codeIn K cd_x "_law_step" = true) (k_x:PySem.W.keepIn K (.ref f_x) = true)
   {f_q:Addr} {od_q an_q:Option Addr} {sl_q:Array (Option Value)} {oc_q kV_q dc_q pm_q cd_q ct_q:Value} (a_q:PySem.W.nsIn K mainGlobals "_law_is_line" = some (some (.ref f_q))) (l_q:K.lookup f_q = some ⟨oc_q,od_q,.func (PySem.W.fnOf "_law_is_line" "_law_is_line" (zT s_q) (zS s_q) (zG s_q) .none kV_q dc_q pm_q an_q cd_q ct_q),sl_q⟩) (c_q:PySem.W.codeIn K cd_q "_law_is_line" = true) (k_q:PySem.W.keepIn K (.ref f_q) = true)
   {f_u:Addr} {od_u an_u:Option Addr} {sl_u:Array (Option Value)} {oc_u kV_u dc_u pm_u cd_u ct_u:Value} (a_u:PySem.W.nsIn K mainGlobals "_law_walked" = some (some (.ref f_u))) (l_u:K.lookup f_u = some ⟨oc_u,od_u,.func (PySem.W.fnOf "_law_walked" "_law_walked" (zT s_u) (zS s_u) (zG s_u) .none kV_u dc_u pm_u an_u cd_u ct_u),sl_u⟩) (c_u:PySem.W.codeIn K cd_u "_law_walked" = true) (k_u:PySem.W.keepIn K (.ref f_u) = true)
   {f_v:Addr} {od_v an_v:Option Addr} {sl_v:Array (Option Value)} {oc_v kV_v dc_v pm_v cd_v ct_v:Value} (a_v:PySem.W.nsIn K mainGlobals "_law_hangs" = some (some (.ref f_v))) (l_v:K.lookup f_v = some ⟨oc_v,od_v,.func (PySem.W.fnOf "_law_hangs" "_law_hangs" (zT s_v) (zS s_v) (zG s_v) .none kV_v dc_v pm_v an_v cd_v ct_v),sl_v⟩) (c_v:PySem.W.codeIn K cd_v "_law_hangs" = true) (k_v:PySem.W.keepIn K (.ref f_v) = true)
   {f_e:Addr} {od_e an_e:Option Addr} {sl_e:Array (Option Value)} {oc_e kV_e dc_e pm_e cd_e ct_e:Value} (a_e:PySem.W.nsIn K mainGlobals "_law_paper_good" = some (some (.ref f_e))) (l_e:K.lookup f_e = some ⟨oc_e,od_e,.func (PySem.W.fnOf "_law_paper_good" "_law_paper_good" (zT s_e) (zS s_e) (zG s_e) .none kV_e dc_e pm_e an_e cd_e ct_e),sl_e⟩) (c_e:PySem.W.codeIn K cd_e "_law_paper_good" = true) (k_e:PySem.W.keepIn K (.ref f_e) = true)
   {f_H:Addr} {od_H an_H:Option Addr} {sl_H:Array (Option Value)} {oc_H kV_H dc_H pm_H cd_H ct_H:Value} (a_H:PySem.W.nsIn K mainGlobals "law" = some (some (.ref f_H))) (l_H:K.lookup f_H = some ⟨oc_H,od_H,.func (PySem.W.fnOf "law" "law" (zT s_H) (zS s_H) (zG s_H) .none kV_H dc_H pm_H an_H cd_H ct_H),sl_H⟩) (c_H:PySem.W.codeIn K cd_H "law" = true) (k_H:PySem.W.keepIn K (.ref f_H) = true)
    (z_zip:PySem.W.nsIn K mainGlobals "zip" = some none)
    (z_enumerate:PySem.W.nsIn K mainGlobals "enumerate" = some none)
   (z_all:PySem.W.nsIn K mainGlobals "all" = some none)
   (z_bool:PySem.W.nsIn K mainGlobals "bool" = some none)
   (z_dict:PySem.W.nsIn K mainGlobals "dict" = some none)
   (z_int:PySem.W.nsIn K mainGlobals "int" = some none)
   (z_isinstance:PySem.W.nsIn K mainGlobals "isinstance" = some none)
   (z_len:PySem.W.nsIn K mainGlobals "len" = some none)
   (z_list:PySem.W.nsIn K mainGlobals "list" = some none)
   (z_max:PySem.W.nsIn K mainGlobals "max" = some none)
   (z_range:PySem.W.nsIn K mainGlobals "range" = some none)
   (z_set:PySem.W.nsIn K mainGlobals "set" = some none)
   (z_sorted:PySem.W.nsIn K mainGlobals "sorted" = some none)
   (z_str:PySem.W.nsIn K mainGlobals "str" = some none)
   (z_sum:PySem.W.nsIn K mainGlobals "sum" = some none)
   (z_tuple:PySem.W.nsIn K mainGlobals "tuple" = some none) :
   ∃ fd:FuncData,(∀ (s:Shared) (v:Value),BindsTo s fd ⟨[v],[]⟩ [("script",v)]) /\ ∀ base:Heap,K.In base -> base.Ns mainGlobals mg -> FnOk l.prog w K mg base CX0 65 fa fd ["script"] (spLaw K):=by
 have e:=hfa.symm.trans (PySem.W.mg_of X G a_H)
 cases e
 have cl_Growth:Cls K C_Growth:=⟨pg_Growth,hd_Growth,po_Growth,sa_Growth⟩
 have mC_Growth:=PySem.W.mg_of X G aC_Growth
 have F_l:=yD (st:=s_l) l_l c_l k_l
 have b_l:=F_l.binds (ps:=["self","many"]) fun _ _ _ _ _ _ us hl => by obtain ⟨u0,u1,rfl⟩:=ln2 hl; rfl
 have t_l:Meth K C_Growth "__init__" f_l:=⟨a_l,i_l,k_l⟩
 have F_b:=yD (st:=s_b) l_b c_b k_b
 have b_b:=F_b.binds (ps:=["self","i","j"]) fun _ _ _ _ _ _ us hl => by obtain ⟨u0,u1,u2,rfl⟩:=ln3 hl; rfl
 have t_b:Meth K C_Growth "line_of" f_b:=⟨a_b,i_b,k_b⟩
 have F_n:=yD (st:=s_n) l_n c_n k_n
 have b_n:=F_n.binds (ps:=["self","i","j"]) fun _ _ _ _ _ _ us hl => by obtain ⟨u0,u1,u2,rfl⟩:=ln3 hl; rfl
 have t_n:Meth K C_Growth "has" f_n:=⟨a_n,i_n,k_n⟩
 have F_d:=yD (st:=s_d) l_d c_d k_d
 have b_d:=F_d.binds (ps:=["self","i","j","why"]) fun _ _ _ _ _ _ us hl => by obtain ⟨u0,u1,u2,u3,rfl⟩:=ln4 hl; rfl
 have t_d:Meth K C_Growth "grow" f_d:=⟨a_d,i_d,k_d⟩
 have F_A:=yD (st:=s_A) l_A c_A k_A
 have b_A:=F_A.binds (ps:=["n"]) fun _ _ _ _ _ _ us hl => by obtain ⟨u0,rfl⟩:=ln1 hl; rfl
 have m_A:=PySem.W.mg_of X G a_A
 have F_B:=yD (st:=s_B) l_B c_B k_B
 have b_B:=F_B.binds (ps:=["n","bound"]) fun _ _ _ _ _ _ us hl => by obtain ⟨u0,u1,rfl⟩:=ln2 hl; rfl
 have m_B:=PySem.W.mg_of X G a_B
 have F_C:=yD (st:=s_C) l_C c_C k_C
 have b_C:=F_C.binds (ps:=["mask"]) fun _ _ _ _ _ _ us hl => by obtain ⟨u0,rfl⟩:=ln1 hl; rfl
 have m_C:=PySem.W.mg_of X G a_C
 have F_G:=yD (st:=s_G) l_G c_G k_G
 have b_G:=F_G.binds (ps:=["growth","sheet"]) fun _ _ _ _ _ _ us hl => by obtain ⟨u0,u1,rfl⟩:=ln2 hl; rfl
 have m_G:=PySem.W.mg_of X G a_G
 have F_f:=yD (st:=s_f) l_f c_f k_f
 have b_f:=F_f.binds (ps:=["sheet"]) fun _ _ _ _ _ _ us hl => by obtain ⟨u0,rfl⟩:=ln1 hl; rfl
 have m_f:=PySem.W.mg_of X G a_f
 have F_c:=yD (st:=s_c) l_c c_c k_c
 have b_c:=F_c.binds (ps:=["rules"]) fun _ _ _ _ _ _ us hl => by obtain ⟨u0,rfl⟩:=ln1 hl; rfl
 have m_c:=PySem.W.mg_of X G a_c
 have F_m:=yD (st:=s_m) l_m c_m k_m
 have b_m:=F_m.binds (ps:=["growth","i","j"]) fun _ _ _ _ _ _ us hl => by obtain ⟨u0,u1,u2,rfl⟩:=ln3 hl; rfl
 have m_m:=PySem.W.mg_of X G a_m
 have F_g:=yD (st:=s_g) l_g c_g k_g
 have b_g:=F_g.binds (ps:=["growth","i","j"]) fun _ _ _ _ _ _ us hl => by obtain ⟨u0,u1,u2,rfl⟩:=ln3 hl; rfl
 have m_g:=PySem.W.mg_of X G a_g
 have F_j:=yD (st:=s_j) l_j c_j k_j
 have b_j:=F_j.binds (ps:=["growth","i","boths"]) fun _ _ _ _ _ _ us hl => by obtain ⟨u0,u1,u2,rfl⟩:=ln3 hl; rfl
 have m_j:=PySem.W.mg_of X G a_j
 have F_h:=yD (st:=s_h) l_h c_h k_h
 have b_h:=F_h.binds (ps:=["growth","i","j"]) fun _ _ _ _ _ _ us hl => by obtain ⟨u0,u1,u2,rfl⟩:=ln3 hl; rfl
 have m_h:=PySem.W.mg_of X G a_h
 have F_i:=yD (st:=s_i) l_i c_i k_i
 have b_i:=F_i.binds (ps:=["growth","rules","r"]) fun _ _ _ _ _ _ us hl => by obtain ⟨u0,u1,u2,rfl⟩:=ln3 hl; rfl
 have m_i:=PySem.W.mg_of X G a_i
 have F_z:=yD (st:=s_z) l_z c_z k_z
 have b_z:=F_z.binds (ps:=["sheet","rules"]) fun _ _ _ _ _ _ us hl => by obtain ⟨u0,u1,rfl⟩:=ln2 hl; rfl
 have m_z:=PySem.W.mg_of X G a_z
 have F_s:=yD (st:=s_s) l_s c_s k_s
 have b_s:=F_s.binds (ps:=["why"]) fun _ _ _ _ _ _ us hl => by obtain ⟨u0,rfl⟩:=ln1 hl; rfl
 have m_s:=PySem.W.mg_of X G a_s
 have F_E:=yD (st:=s_E) l_E c_E k_E
 have b_E:=F_E.binds (ps:=["why","places"]) fun _ _ _ _ _ _ us hl => by obtain ⟨u0,u1,rfl⟩:=ln2 hl; rfl
 have m_E:=PySem.W.mg_of X G a_E
 have F_y:=yD (st:=s_y) l_y c_y k_y
 have b_y:=F_y.binds (ps:=["lines","i","j"]) fun _ _ _ _ _ _ us hl => by obtain ⟨u0,u1,u2,rfl⟩:=ln3 hl; rfl
 have m_y:=PySem.W.mg_of X G a_y
 have F_D:=yD (st:=s_D) l_D c_D k_D
 have b_D:=F_D.binds (ps:=["lines","k"]) fun _ _ _ _ _ _ us hl => by obtain ⟨u0,u1,rfl⟩:=ln2 hl; rfl
 have m_D:=PySem.W.mg_of X G a_D
 have F_F:=yD (st:=s_F) l_F c_F k_F
 have b_F:=F_F.binds (ps:=["lines","i","j"]) fun _ _ _ _ _ _ us hl => by obtain ⟨u0,u1,u2,rfl⟩:=ln3 hl; rfl
 have m_F:=PySem.W.mg_of X G a_F
 have F_r:=yD (st:=s_r) l_r c_r k_r
 have b_r:=F_r.binds (ps:=["script","k"]) fun _ _ _ _ _ _ us hl => by obtain ⟨u0,u1,rfl⟩:=ln2 hl; rfl
 have m_r:=PySem.W.mg_of X G a_r
 have F_k:=yD (st:=s_k) l_k c_k k_k
 have b_k:=F_k.binds (ps:=["cell","size"]) fun _ _ _ _ _ _ us hl => by obtain ⟨u0,u1,rfl⟩:=ln2 hl; rfl
 have m_k:=PySem.W.mg_of X G a_k
 have F_t:=yD (st:=s_t) l_t c_t k_t
 have b_t:=F_t.binds (ps:=["n"]) fun _ _ _ _ _ _ us hl => by obtain ⟨u0,rfl⟩:=ln1 hl; rfl
 have m_t:=PySem.W.mg_of X G a_t
 have F_a:=yD (st:=s_a) l_a c_a k_a
 have b_a:=F_a.binds (ps:=["script","most","many"]) fun _ _ _ _ _ _ us hl => by obtain ⟨u0,u1,u2,rfl⟩:=ln3 hl; rfl
 have m_a:=PySem.W.mg_of X G a_a
 have F_w:=yD (st:=s_w) l_w c_w k_w
 have b_w:=F_w.binds (ps:=["lines","p","k"]) fun _ _ _ _ _ _ us hl => by obtain ⟨u0,u1,u2,rfl⟩:=ln3 hl; rfl
 have m_w:=PySem.W.mg_of X G a_w
 have F_o:=yD (st:=s_o) l_o c_o k_o
 have b_o:=F_o.binds (ps:=["rules","lines","k"]) fun _ _ _ _ _ _ us hl => by obtain ⟨u0,u1,u2,rfl⟩:=ln3 hl; rfl
 have m_o:=PySem.W.mg_of X G a_o
 have F_p:=yD (st:=s_p) l_p c_p k_p
 have b_p:=F_p.binds (ps:=["rows","i","j","word"]) fun _ _ _ _ _ _ us hl => by obtain ⟨u0,u1,u2,u3,rfl⟩:=ln4 hl; rfl
 have m_p:=PySem.W.mg_of X G a_p
 have F_x:=yD (st:=s_x) l_x c_x k_x
 have b_x:=F_x.binds (ps:=["rows","rules","lines","k"]) fun _ _ _ _ _ _ us hl => by obtain ⟨u0,u1,u2,u3,rfl⟩:=ln4 hl; rfl
 have m_x:=PySem.W.mg_of X G a_x
 have F_q:=yD (st:=s_q) l_q c_q k_q
 have b_q:=F_q.binds (ps:=["line"]) fun _ _ _ _ _ _ us hl => by obtain ⟨u0,rfl⟩:=ln1 hl; rfl
 have m_q:=PySem.W.mg_of X G a_q
 have F_u:=yD (st:=s_u) l_u c_u k_u
 have b_u:=F_u.binds (ps:=["rows","rules","lines"]) fun _ _ _ _ _ _ us hl => by obtain ⟨u0,u1,u2,rfl⟩:=ln3 hl; rfl
 have m_u:=PySem.W.mg_of X G a_u
 have F_v:=yD (st:=s_v) l_v c_v k_v
 have b_v:=F_v.binds (ps:=["lines"]) fun _ _ _ _ _ _ us hl => by obtain ⟨u0,rfl⟩:=ln1 hl; rfl
 have m_v:=PySem.W.mg_of X G a_v
 have F_e:=yD (st:=s_e) l_e c_e k_e
 have b_e:=F_e.binds (ps:=["rows","rules","found","pair"]) fun _ _ _ _ _ _ us hl => by obtain ⟨u0,u1,u2,u3,rfl⟩:=ln4 hl; rfl
 have m_e:=PySem.W.mg_of X G a_e
 have F_H:=yD (st:=s_H) l_H c_H k_H
 have b_H:=F_H.binds (ps:=["script"]) fun _ _ _ _ _ _ us hl => by obtain ⟨u0,rfl⟩:=ln1 hl; rfl
 have m_H:=PySem.W.mg_of X G a_H
 have bi:Bi mg:=⟨PySem.W.mg_none_of X G z_len,PySem.W.mg_none_of X G z_range,PySem.W.mg_none_of X G z_isinstance,PySem.W.mg_none_of X G z_max,PySem.W.mg_none_of X G z_sum,PySem.W.mg_none_of X G z_all,PySem.W.mg_none_of X G z_tuple,PySem.W.mg_none_of X G z_list,PySem.W.mg_none_of X G z_sorted,PySem.W.mg_none_of X G z_set,PySem.W.mg_none_of X G z_int,PySem.W.mg_none_of X G z_bool,PySem.W.mg_none_of X G z_str,PySem.W.mg_none_of X G z_dict⟩
 refine ⟨PySem.W.fnOf "law" "law" (zT s_H) (zS s_H) (zG s_H) .none kV_H dc_H pm_H an_H cd_H ct_H,fun s v => .of_eq rfl,fun base _ _ => ?_⟩
 have bz:mg "zip" = none:=PySem.W.mg_none_of X G z_zip
 have be:mg "enumerate" = none:=PySem.W.mg_none_of X G z_enumerate
 have T:GrC K C_Growth:=⟨cl_Growth,n_Growth_lines,n_Growth_places,n_Growth_above,n_Growth_below⟩
 have h0:=yM F_A (ok_is_whole (P:=l.prog) (w:=w) (base:=base) bi F_A) b_A m_A
 have h1:=yM F_B (ok_is_below bi h0 F_B) b_B m_B
 have h2:=yM F_C (ok_bits_of (P:=l.prog) (w:=w) (base:=base) bi F_C) b_C m_C
 have g0:HasI l.prog w K mg base 1 C_Growth "Growth" ["self","many"] (spGI C_Growth):=⟨_,_,ok_ginit T F_l,b_l,⟨mk_Growth,a_l,i_l,kc_Growth⟩,mC_Growth⟩
 have g1:HasM l.prog w K mg base 1 C_Growth "line_of" ["self","i","j"] (spLo C_Growth):=⟨_,_,ok_line_of T F_b,b_b,t_b⟩
 have g2:HasM l.prog w K mg base 1 C_Growth "has" ["self","i","j"] (spHs C_Growth):=⟨_,_,ok_has T F_n,b_n,t_n⟩
 have g3:HasM l.prog w K mg base 2 C_Growth "grow" ["self","i","j","why"] (wZ C_Growth):=⟨_,_,ok_grow T bi g2 F_d,b_d,t_d⟩
 have c1:=yM F_G (ok_begin T bi be g3 F_G) b_G m_G
 have c2:=yM F_f (ok_boths (P:=l.prog) (w:=w) (base:=base) bi be F_f) b_f m_f
 have c3:=yM F_c (uB (P:=l.prog) (w:=w) (base:=base) bi be F_c) b_c m_c
 have c4:=yM F_m (ok_turn T g1 g3 F_m) b_m m_m
 have c5:=yM F_g (ok_chain T bi h2 g1 g3 F_g) b_g m_g
 have c6:=yM F_j (ok_both T g1 g2 g3 F_j) b_j m_j
 have c7:=yM F_h (ok_clash T bi g1 g3 F_h) b_h m_h
 have c8:=yM F_i (ok_rule T bi h1 g1 g2 g3 F_i) b_i m_i
 have c9:=yM F_z (ok_closing T bi g0 c2 c3 c1 c4 c5 c6 c7 c8 F_z) b_z m_z
 have h10:=yM F_k (ok_name (P:=l.prog) (w:=w) (base:=base) bi F_k) b_k m_k
 have h11:=yM F_t (ok_turned (P:=l.prog) (w:=w) (base:=base) bi F_t) b_t m_t
 have h12:=yM F_a (uJ bi h10 F_a) b_a m_a
 have h13:=yM F_w (ok_ahead (P:=l.prog) (w:=w) (base:=base) bi F_w) b_w m_w
 have h14:=yM F_o (ok_by_rule bi bz h13 F_o) b_o m_o
 have h15:=yM F_p (ok_by_none (P:=l.prog) (w:=w) (base:=base) bi F_p) b_p m_p
 have h16:=yM F_x (ok_law_step bi h11 h13 h15 h14 F_x) b_x m_x
 have h17:=yM F_q (ok_is_line (P:=l.prog) (w:=w) (base:=base) bi F_q) b_q m_q
 have h18:=yM F_u (ok_walked bi h17 h16 F_u) b_u m_u
 have p1:=yM F_s (wN (P:=l.prog) (w:=w) (base:=base) bi F_s) b_s m_s
 have p2:=yM F_E (ok_renamed (P:=l.prog) (w:=w) (base:=base) bi F_E) b_E m_E
 have p3:=yM F_y (ok_line_for (P:=l.prog) (w:=w) (base:=base) bi be F_y) b_y m_y
 have p4:=yM F_D (ok_hung_on bi p1 F_D) b_D m_D
 have p5:=yM F_F (ok_paper bi be p3 p4 p2 F_F) b_F m_F
 have h19:=yM F_v (ok_hangs (P:=l.prog) (w:=w) (base:=base) bi F_v) b_v m_v
 have h20:=yM F_e (kC bi h18 h19 F_e) b_e m_e
 have h21:=yM F_r (ok_cell (P:=l.prog) (w:=w) (base:=base) bi F_r) b_r m_r
 exact ok_law bi h21 h12 c9 p5 h20 F_H
theorem walk {l:PySem.W.OpenLaw} {q:Program} {loose:List Str} {XP:(Str -> Option Value) -> Heap -> Prop} {YP:World -> Heap -> Prop} {d:DefRec} {K:Params -> PySem.W.Frag} (hn:l.most = some 63) (hdf:d.params.defaults = [])
   (hY:∀ (w:World) (h:Heap),YP w h -> (K w.params).In h)
   (F:∀ (w:World) (mg:Str -> Option Value) (fa:Addr) (h:Heap),(K w.params).In h -> h.Ns mainGlobals mg -> mg d.name = some (.ref fa) ->
     ∃ fd:FuncData,(∀ (s:Shared) (u:Value),BindsTo s fd ⟨[u],[]⟩ [("script",u)]) /\ ∀ base:Heap,(K w.params).In base -> base.Ns mainGlobals mg -> FnOk l.prog w (K w.params) mg base CX0 65 fa fd ["script"] (spLaw (K w.params))) :
   PySem.W.WalkO q loose XP YP l.row.toRowW d [] (fun f vs => PySem.call f vs) :=
 L2.walk_of (n:=63) (k:=65) (x:="script") (CX:=fun _ => CX0) (sp:=fun w => spLaw (K w.params)) hn (by decide) hdf ⟨rfl,by decide,by decide⟩ hY F (fun _ _ a ns hl _ hS => ⟨a,ns,rfl,hS,hl,fun _ => rfl⟩) fun _ _ _ _ _ z => z
end C
open PySem PySem.W PyProof.Rows
set_option maxRecDepth 100000 in
set_option maxHeartbeats 0 in
theorem PySem.Challenge.cw_clashbook_k20_papers_of_closings_holds : PySem.Challenge.rw_clashbook_k20_papers_of_closings.Holds := by
 w_on; o_law; k_head; (case hw => w_witness2)
 k_fill
 refine C.walk (l:=PySem.Challenge.rw_clashbook_k20_papers_of_closings) rfl rfl (fun w h Y => PySem.W.kIn_of Y) ?F
 case F =>
   intro w mg fa h KX G hmg
   refine' C.all_mk KX G hmg ?aC_Growth ?a_l ?i_l ?l_l ?c_l ?k_l ?a_b ?i_b ?l_b ?c_b ?k_b ?a_n ?i_n ?l_n ?c_n ?k_n ?a_d ?i_d ?l_d ?c_d ?k_d ?pg_Growth ?hd_Growth ?po_Growth ?sa_Growth ?mk_Growth ?kc_Growth ?n_Growth_lines ?n_Growth_places ?n_Growth_above ?n_Growth_below ?a_A ?l_A ?c_A ?k_A ?a_B ?l_B ?c_B ?k_B ?a_C ?l_C ?c_C ?k_C ?a_G ?l_G ?c_G ?k_G ?a_f ?l_f ?c_f ?k_f ?a_c ?l_c ?c_c ?k_c ?a_m ?l_m ?c_m ?k_m ?a_g ?l_g ?c_g ?k_g ?a_j ?l_j ?c_j ?k_j ?a_h ?l_h ?c_h ?k_h ?a_i ?l_i ?c_i ?k_i ?a_z ?l_z ?c_z ?k_z ?a_s ?l_s ?c_s ?k_s ?a_E ?l_E ?c_E ?k_E ?a_y ?l_y ?c_y ?k_y ?a_D ?l_D ?c_D ?k_D ?a_F ?l_F ?c_F ?k_F ?a_r ?l_r ?c_r ?k_r ?a_k ?l_k ?c_k ?k_k ?a_t ?l_t ?c_t ?k_t ?a_a ?l_a ?c_a ?k_a ?a_w ?l_w ?c_w ?k_w ?a_o ?l_o ?c_o ?k_o ?a_p ?l_p ?c_p ?k_p ?a_x ?l_x ?c_x ?k_x ?a_q ?l_q ?c_q ?k_q ?a_u ?l_u ?c_u ?k_u ?a_v ?l_v ?c_v ?k_v ?a_e ?l_e ?c_e ?k_e ?a_H ?l_H ?c_H ?k_H ?z_zip ?z_enumerate ?z_all ?z_bool ?z_dict ?z_int ?z_isinstance ?z_len ?z_list ?z_max ?z_range ?z_set ?z_sorted ?z_str ?z_sum ?z_tuple
   (case aC_Growth => k_is); (case a_l => k_is); (case i_l => k_is); (case l_l => k_is)
   (case c_l => k_is); (case k_l => k_is); (case a_b => k_is); (case i_b => k_is)
   (case l_b => k_is); (case c_b => k_is); (case k_b => k_is); (case a_n => k_is)
   (case i_n => k_is); (case l_n => k_is); (case c_n => k_is); (case k_n => k_is)
   (case a_d => k_is); (case i_d => k_is); (case l_d => k_is); (case c_d => k_is)
   (case k_d => k_is); (case pg_Growth => k_is); (case hd_Growth => k_is); (case po_Growth => k_is)
   (case sa_Growth => k_is); (case mk_Growth => k_is); (case kc_Growth => k_is); (case n_Growth_lines => k_is)
   (case n_Growth_places => k_is); (case n_Growth_above => k_is); (case n_Growth_below => k_is); (case a_A => k_is)
   (case l_A => k_is); (case c_A => k_is); (case k_A => k_is); (case a_B => k_is)
   (case l_B => k_is); (case c_B => k_is); (case k_B => k_is); (case a_C => k_is)
   (case l_C => k_is); (case c_C => k_is); (case k_C => k_is); (case a_G => k_is)
   (case l_G => k_is); (case c_G => k_is); (case k_G => k_is); (case a_f => k_is)
   (case l_f => k_is); (case c_f => k_is); (case k_f => k_is); (case a_c => k_is)
   (case l_c => k_is); (case c_c => k_is); (case k_c => k_is); (case a_m => k_is)
   (case l_m => k_is); (case c_m => k_is); (case k_m => k_is); (case a_g => k_is)
   (case l_g => k_is); (case c_g => k_is); (case k_g => k_is); (case a_j => k_is)
   (case l_j => k_is); (case c_j => k_is); (case k_j => k_is); (case a_h => k_is)
   (case l_h => k_is); (case c_h => k_is); (case k_h => k_is); (case a_i => k_is)
   (case l_i => k_is); (case c_i => k_is); (case k_i => k_is); (case a_z => k_is)
   (case l_z => k_is); (case c_z => k_is); (case k_z => k_is); (case a_s => k_is)
   (case l_s => k_is); (case c_s => k_is); (case k_s => k_is); (case a_E => k_is)
   (case l_E => k_is); (case c_E => k_is); (case k_E => k_is); (case a_y => k_is)
   (case l_y => k_is); (case c_y => k_is); (case k_y => k_is); (case a_D => k_is)
   (case l_D => k_is); (case c_D => k_is); (case k_D => k_is); (case a_F => k_is)
   (case l_F => k_is); (case c_F => k_is); (case k_F => k_is); (case a_r => k_is)
   (case l_r => k_is); (case c_r => k_is); (case k_r => k_is); (case a_k => k_is)
   (case l_k => k_is); (case c_k => k_is); (case k_k => k_is); (case a_t => k_is)
   (case l_t => k_is); (case c_t => k_is); (case k_t => k_is); (case a_a => k_is)
   (case l_a => k_is); (case c_a => k_is); (case k_a => k_is); (case a_w => k_is)
   (case l_w => k_is); (case c_w => k_is); (case k_w => k_is); (case a_o => k_is)
   (case l_o => k_is); (case c_o => k_is); (case k_o => k_is); (case a_p => k_is)
   (case l_p => k_is); (case c_p => k_is); (case k_p => k_is); (case a_x => k_is)
   (case l_x => k_is); (case c_x => k_is); (case k_x => k_is); (case a_q => k_is)
   (case l_q => k_is); (case c_q => k_is); (case k_q => k_is); (case a_u => k_is)
   (case l_u => k_is); (case c_u => k_is); (case k_u => k_is); (case a_v => k_is)
   (case l_v => k_is); (case c_v => k_is); (case k_v => k_is); (case a_e => k_is)
   (case l_e => k_is); (case c_e => k_is); (case k_e => k_is); (case a_H => k_is)
   (case l_H => k_is); (case c_H => k_is); (case k_H => k_is); (case z_zip => k_is)
   (case z_enumerate => k_is); (case z_all => k_is); (case z_bool => k_is); (case z_dict => k_is)
   (case z_int => k_is); (case z_isinstance => k_is); (case z_len => k_is); (case z_list => k_is)
   (case z_max => k_is); (case z_range => k_is); (case z_set => k_is); (case z_sorted => k_is)
   (case z_str => k_is); (case z_sum => k_is); (case z_tuple => k_is)
#print axioms PySem.Challenge.cw_clashbook_k20_papers_of_closings_holds
