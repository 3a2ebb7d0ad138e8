import PyProof.Rows.All
import Wide.All
import OpenK.AllK
import Wide.FinOn
import Lean
import PyProof.EqAt
import PyProof.EqKinds
import PyProof.TupleCall
import PyProof.FitsReplace
import PyProof.StrLawsChain
import PyProof.IsiH_list
import KE.KDictOf
import PyProof.Rows.Exc
import PyProof.RulesTry
import PyProof.ForAppend
import PyProof.Rows.Tup
import PyProof.CollectWalk
import PyProof.Rows.DictListVals
import PyProof.AutoSeq1
import PyProof.FactsAll.list_3
import KE.KDictSum
import PyProof.Rows.SortStr
import PyProof.Rows.SortWalk
import PyProof.SetKind
import PyProof.Rows.SetObj
import PyProof.DictKinds
import PyProof.DictIter
import PyProof.MakeMany
import PyProof.WalksS
import PyProof.Walks
import PyProof.Seq
import PyProof.TupleIter
import PyProof.FactsAll.set_1
import PyProof.ForAny
import PyProof.Rows.SetFrom
import PyProof.Rows.StrMeet
import PyProof.NeKinds
import PyProof.ZipIter
import KE.BitLaws
import PyProof.Rows.TupAdd
import PySem.SetOps
import PyProof.EnumMake
import PyProof.EnumFor
import PyProof.Rows.EnumRows
import PyProof.Rows.Range3
import KE.KDictList
import PyProof.DictWalks
import PyProof.AutoListH
import PyProof.FactsAll.list_2
import PyProof.CallType
import PyProof.ListNew
import PyProof.Conv_int_bool
import PyProof.ConsumeWalk
import OpenK.KOwn
import OpenK.KRaise
import PyProof.ExcClass3
import PyProof.RulesAs
import PyProof.NsDelKeeps
import PyProof.StationsW
import PyProof.Rows.Catch
import PyProof.ExcArgs
import KE.KIsAll
import KE.KIsNot
import PyProof.FString
import PyProof.DictFindH
import PyProof.Rows.TupDisplay
import PyProof.MeetsSeq
import PyProof.DictItems
import PyProof.MeetsDictList
import PySem.Challenge.RW_clashbook_k32_rules_come_and_go
namespace PySem.W.Fast
def tw9757084844661161945:=0
def tw406322271347566945:=0
def tw16328888587684879193:=0
def tw16743147227794015881:=0
def tw15491933988406128544:=0
def tw3746843876429142908:=0
def tw3774303479333746209:=0
def tw2484292224526072174:=0
def tw12016250373913082093:=0
def tw4749431001713496620:=0
def tw4921756582207113137:=0
def tw14770481998040745679:=0
def tw9467372141894675940:=0
def tw4286747720219835662:=0
def tw6659208781080091876:=0
def tw17546429443192132785:=0
def tw3541362073255490779:=0
def tw12457444913689404543:=0
def tw13220831248815024711:=0
def tw13084844994134857174:=0
def tw15436339167026954061:=0
def tw8443014931324062262:=0
def tw1547036913402675936:=0
def tw12765814049063881426:=0
def tw6786624145905652527:=0
def tw6938313700190459465:=0
def tw9926627698078093991:=0
def tw16843253622267481517:=0
def tw4684780051068094632:=0
def tw13121836445089310196:=0
def tw5432451747821375172:=0
def tw5695532413384821928:=0
def tw4502940385102806332:=0
def tw16704668995312261020:=0
def tw11554038579768753749:=0
def tw5603048381890077571:=0
def tw6812655472760605814:=0
def tw3891552222287284975:=0
def tw1648100068597236660:=0
def tw13789326488016586990:=0
def tw455612197346899540:=0
def tw15228370760036970771:=0
def tw13636784955084547999:=0
def tw2463635786714626197:=0
def tw1941935820492914098:=0
def tw814739858885519126:=0
def tw2631590587536856259:=0
def tw15163184921596725200:=0
def tw15984795512384842548:=0
def tw2116026958934565237:=0
def tw3777624603563759652:=0
def tw4103948883974067137:=0
def tw4676084159986438636:=0
def tw4526767536566954052:=0
def tw15315494249129472388:=0
def tw6769828241755277641:=0
def tw458832965060420272:=0
def tw4687705452003787506:=0
def tw10124522093760596801:=0
def tw6310592310161019531:=0
def tw10909894448207276232:=0
def tw12676706105631891320:=0
def tw11865445628348202754:=0
def tw9448636307037915510:=0
def tw15091357361735778495:=0
def tw2489242886118268246:=0
def tw4083057633489229418:=0
def tw13013904371016701119:=0
def tw16551545436327957162:=0
def tw2266228236582282235:=0
def tw12246543273343045825:=0
def tw6877436343933774548:=0
def tw3342669470462901538:=0
def tw6091886894395970181:=0
def tw7760003550746782667:=0
def tw4139902175067212440:=0
def tw9014851834189570120:=0
def tw10750796865092952964:=0
def tw16278378250783758244:=0
def tw7574479431528391731:=0
def tw15941846315487122992:=0
def tw6300521746556405842:=0
def tw7612617274030185478:=0
def tw17179854119753741274:=0
def tw323339418230652507:=0
def tw10756154932373354348:=0
def tw13501588965530680866:=0
def tw14358934607845530196:=0
def tw2264011334578213376:=0
def tw13432770507658513224:=0
def tw3612669324825440287:=0
def tw14496687171204269595:=0
def tw4971128917067871388:=0
def tw2948054387098141717:=0
def tw6722063577859606797:=0
def tw2117447364735135364:=0
def tw16671793671233342738:=0
def tw15015415230014209037:=0
def tw16152537679766788301:=0
def tw11045569337058842454:=0
def tw12255207490893804746:=0
def tw7537784374936097936:=0
def tw1510361288975639163:=0
def tw12463397413451302501:=0
def tw2637997970665467532:=0
def tw7504954487985448750:=0
def tw13373260369971254386:=0
def tw6405055180475532543:=0
def tw18361543772323515274:=0
def tw17932047924624732290:=0
def tw8888618210220786221:=0
def tw8612219380530936669:=0
def tw26290872996013389:=0
def tw16040974131298128936:=0
def tw11106459291507615677:=0
def tw11306869429047565670:=0
def tw7676824165184736518:=0
def tw1098247469506751402:=0
def tw14867084524370450516:=0
def tw16526008416969657989:=0
def tw12774760401071540394:=0
def tw3163903927856152065:=0
def tw2488288787553562397:=0
def tw10418705583400457878:=0
def tw15857982250973084936:=0
def tw16003502915511405018:=0
def tw11343046545939465341:=0
def tw11999551069825704157:=0
def tw10689722217251904836:=0
def tw7674508670519977645:=0
def tw17304810290074235955:=0
def tw7339930366125063973:=0
def tw17045025522484801695:=0
def tw10715555291523347907:=0
def tw8643724619131542163:=0
def tw18422563505242925782:=0
def tw1745469487095831819:=0
def tw3684104195019369840:=0
def tw14717264586726972429:=0
def tw515200202848919716:=0
def tw10107179955867989265:=0
def tw14948605961544623527:=0
def tw15523321662729354124:=0
def tw656021453566322529:=0
def tw11730113808811554773:=0
def tw112001972347224859:=0
def tw4072808300958154181:=0
def tw15567231265688740538:=0
def tw6926565780531820159:=0
def tw16231400005588935945:=0
def tw13645291166500986951:=0
def tw662725276778308959:=0
def tw12737176345835752846:=0
def tw11127815855081310891:=0
def tw18227855292869074509:=0
def tw7259476799756210118:=0
def tw1500805540922133957:=0
def tw3728554212169789837:=0
def tw8233930415275718136:=0
def tw10309574055904366149:=0
def tw7705029716844206186:=0
def tw7310425244074729807:=0
def tw8944240165089490901:=0
def tw16150145100334030338:=0
def tw6129283188828173776:=0
def tw4320026508807715649:=0
def tw4020187819740073753:=0
def tw14077644921148254132:=0
def tw3899113934952709275:=0
def tw1749411144700207939:=0
def tw16091037016098955212:=0
def tw14785535240825472588:=0
def tw3888440249185188790:=0
def tw2830928903158429859:=0
def tw2184007219466110175:=0
def tw2808662826261214878:=0
def tw15728698361699573719:=0
def tw10390354670262416442:=0
def tw15201830826647247458:=0
def tw6265922920227053833:=0
def tw3382844168201049046:=0
def tw5024970851174980662:=0
def tw14861874615967033598:=0
def tw3625021065897530715:=0
def tw289493966831030826:=0
def tw3361484615128651420:=0
def tw6095324254244443567:=0
def tw18345129794865713547:=0
def tw18180978478282542013:=0
def tw4316766407269215259:=0
def tw12225284707088038446:=0
def tw12003799133957406010:=0
def tw3743832551109044782:=0
def tw17662844136128731829:=0
def tw14783615735863850042:=0
def tw8595747436817176744:=0
def tw10522324674219630069:=0
def tw12137236190452408183:=0
def tw14700186754444057350:=0
def tw6268224675130638625:=0
def tw17135635503341738421:=0
def tw13118622415309902387:=0
def tw8936975184379668888:=0
def tw7134292166388641496:=0
def tw2956733563062966028:=0
def tw16194472952653843576:=0
def tw2017503692311877072:=0
def tw901837086156640388:=0
def tw15748052164031820056:=0
def tw2744566379976818609:=0
def tw548855099683675081:=0
def tw16898806709369320065:=0
def tw5879501738523427365:=0
def tw2596922530619919857:=0
def tw14997809102521229488:=0
def tw7207360019547348044:=0
def tw9316030843994867060:=0
def tw12189154025640613206:=0
def tw11256075827254358049:=0
def tw2987837899528346487:=0
def tw9535857750462095245:=0
def tw8604901932286369959:=0
def tw15195170993700050597:=0
def tw12886288938598912911:=0
def tw13760123716896125595:=0
def tw14114897233603141992:=0
def tw1911655490714088672:=0
def tw1827521633206630450:=0
def tw14613176073343970560:=0
def tw6072380974523089646:=0
def tw14113003033812662855:=0
def tw3774598775596284696:=0
def tw9290026086419341343:=0
def tw12069148421212859408:=0
def tw12830056138353917643:=0
def tw11312961135635314093:=0
def tw17305129524765869889:=0
def tw14098982997959202349:=0
def tw4926251076259387019:=0
def tw17765714982228725856:=0
def tw6901281954294379950:=0
def tw10173968604903873405:=0
def tw14904778291396516926:=0
def tw6281208597431223035:=0
def tw1317444328701089387:=0
def tw2142013984850078942:=0
def tw6919404277125226887:=0
def tw2042958858299938316:=0
def tw15093026320695856129:=0
def tw2989659061566391503:=0
def tw14765762100422778704:=0
def tw13254814733195296423:=0
def tw15826545389331414955:=0
def tw15340805817555677798:=0
def tw3439311643450971751:=0
def tw17674507208317920936:=0
end PySem.W.Fast
set_option Elab.async false
set_option linter.all false
set_option maxRecDepth 100000
namespace L2
open PySem PySem.Spec PyProof.Rows
abbrev Key := Sum Int Str
def keyIs : Key -> Value -> Bool
 | .inl k, v => Value.isInt k v
 | .inr x, v => Value.isStrOf x v
def keyH (w : World) : Key -> Int
 | .inl k => hashInt k
 | .inr x => hashStr w x
theorem keyIs_shape : ∀ {k : Key} {v : Value}, keyIs k v = true -> (∃ i t, k = Sum.inl i /\ v = Value.int i t) \/ (∃ x t, k = Sum.inr x /\ v = Value.str x t)
 | .inl i, v, h => by
   obtain ⟨t, e⟩ := Value.isInt_shape (k := i) (v := v) h
   exact .inl ⟨i, t, rfl, e⟩
 | .inr x, v, h => by
   obtain ⟨t, e⟩ := Value.isStrOf_shape (x := x) (v := v) h
   exact .inr ⟨x, t, rfl, e⟩
theorem keyIs_int (i : Int) (t : Tok) : keyIs (.inl i) (.int i t) = true := by simp [keyIs, Value.isInt]
theorem keyIs_str (x : Str) (t : Tok) : keyIs (.inr x) (.str x t) = true := by simp [keyIs, Value.isStrOf]
theorem key_ll (a b : Int) : decide ((Sum.inl a : Key) = Sum.inl b) = (a == b) := by
 by_cases e : a = b
 · subst e; simp
 · have h : ¬ (Sum.inl a : Key) = Sum.inl b := fun q => e (Sum.inl.inj q)
   rw [decide_eq_false h]
   exact (beq_eq_false_iff_ne.mpr e).symm
theorem key_rr (a b : Str) : decide ((Sum.inr a : Key) = Sum.inr b) = decide (a = b) := by
 by_cases e : a = b
 · subst e; simp
 · have h : ¬ (Sum.inr a : Key) = Sum.inr b := fun q => e (Sum.inr.inj q)
   rw [decide_eq_false h, decide_eq_false e]
theorem key_lr (a : Int) (b : Str) : decide ((Sum.inl a : Key) = Sum.inr b) = false := decide_eq_false (fun q => nomatch q)
theorem key_rl (a : Str) (b : Int) : decide ((Sum.inr a : Key) = Sum.inl b) = false := decide_eq_false (fun q => nomatch q)
def zU (prog : Program) (w : World) : PySem.KeyKind prog w Key where
 is := keyIs
 hash := keyH w
 inj := fun v a b ha hb => by
   rcases keyIs_shape ha with ⟨i, t, rfl, rfl⟩ | ⟨x, t, rfl, rfl⟩
   · rcases keyIs_shape hb with ⟨j, u, rfl, e⟩ | ⟨y, u, rfl, e⟩
     · injection e with e1 _; rw [e1]
     · exact nomatch e
   · rcases keyIs_shape hb with ⟨j, u, rfl, e⟩ | ⟨y, u, rfl, e⟩
     · exact nomatch e
     · injection e with e1 _; rw [e1]
 byValue := fun k v h => by
   rcases keyIs_shape h with ⟨i, t, rfl, rfl⟩ | ⟨x, t, rfl, rfl⟩ <;> rfl
 pyHash := fun hv h => by
   rcases keyIs_shape hv with ⟨i, t, rfl, rfl⟩ | ⟨x, t, rfl, rfl⟩
   · exact wpAny_pyHash_int h
   · exact wpAny_pyHash_str h
 eqBool := fun hu hv h => by
   rcases keyIs_shape hu with ⟨i, t, rfl, rfl⟩ | ⟨x, t, rfl, rfl⟩
   · rcases keyIs_shape hv with ⟨j, u, rfl, rfl⟩ | ⟨y, u, rfl, rfl⟩
     · rw [key_ll] at h; exact wpAny_eqBool_int h
     · rw [key_lr] at h; exact SeqAt.EqAt.int_str i t y u _ _ _ _ h
   · rcases keyIs_shape hv with ⟨j, u, rfl, rfl⟩ | ⟨y, u, rfl, rfl⟩
     · rw [key_rl] at h; exact SeqAt.EqAt.str_int x t j u _ _ _ _ h
     · rw [key_rr] at h; exact wpAny_eqBool_str h
 «strs» := fun k x t v h => by
   rcases keyIs_shape h with ⟨i, u, rfl, e⟩ | ⟨y, u, rfl, e⟩
   · exact nomatch e
   · injection e with e1 _
     subst e1
     cases v <;> rfl
theorem mixKind_int (prog : Program) (w : World) (i : Int) (t : Tok) : (zU prog w).is (.inl i) (.int i t) = true := keyIs_int i t
theorem jM (prog : Program) (w : World) (x : Str) (t : Tok) : (zU prog w).is (.inr x) (.str x t) = true := keyIs_str x t
inductive V where
 | non | bl (b : Bool) | int (i : Int) | str (x : Str) | byt (b : Array UInt8) | flt (b : UInt64) | ref (a : Addr) | ty (n : String)
 deriving DecidableEq
def RelV : V -> Value -> Prop
 | .non, u => u = Value.none
 | .bl b, u => u = Value.bool b
 | .int i, u => ∃ t, u = Value.int i t
 | .str x, u => ∃ t, u = Value.str x t
 | .byt b, u => ∃ t, u = Value.bytes b t
 | .flt b, u => ∃ t, u = Value.float b t
 | .ref a, u => u = Value.ref a
 | .ty n, u => u = Value.type n
abbrev Vals : List V -> List Value -> Prop := Paired RelV
theorem Vals.length {xs : List V} {us : List Value} (r : Vals xs us) : xs.length = us.length := Paired.length r
theorem Vals.get : ∀ {xs : List V} {us : List Value} {i : Nat} {x : V}, Vals xs us -> xs[i]? = some x -> ∃ u, us[i]? = some u /\ RelV x u
 | _, _, _, _, .nil, e => by simp at e
 | _, _, 0, _, .cons r _, e => by simp at e; subst e; exact ⟨_, rfl, r⟩
 | _, _, i + 1, x, .cons _ t, e => by
   obtain ⟨u, h1, h2⟩ := Vals.get (i := i) (x := x) t (by simpa using e)
   exact ⟨u, by simpa using h1, h2⟩
theorem Vals.set {x : V} {u : Value} (r : RelV x u) : ∀ {xs : List V} {us : List Value} (i : Nat), Vals xs us -> Vals (xs.set i x) (us.set i u)
 | _, _, _, .nil => .nil
 | _, _, 0, .cons _ t => .cons r t
 | _, _, i + 1, .cons q t => .cons q (Vals.set r i t)
theorem Vals.append : ∀ {xs ys : List V} {us ws : List Value}, Vals xs us -> Vals ys ws -> Vals (xs ++ ys) (us ++ ws)
 | _, _, _, _, .nil, s => s
 | _, _, _, _, .cons r t, s => .cons r (Vals.append t s)
theorem Vals.take : ∀ {xs : List V} {us : List Value} (n : Nat), Vals xs us -> Vals (xs.take n) (us.take n)
 | _, _, 0, _ => .nil
 | _, _, _ + 1, .nil => .nil
 | _, _, n + 1, .cons r t => .cons r (Vals.take n t)
theorem Vals.drop : ∀ {xs : List V} {us : List Value} (n : Nat), Vals xs us -> Vals (xs.drop n) (us.drop n)
 | _, _, 0, r => r
 | _, _, _ + 1, .nil => .nil
 | _, _, n + 1, .cons _ t => Vals.drop n t
def RelO : Option V -> Option Value -> Prop
 | some v, some u => RelV v u
 | none, none => True
 | _, _ => False
def KV {κ : Type} : List (κ × V) -> List (κ × Value) -> Prop := Paired fun (p : κ × V) (q : κ × Value) => p.1 = q.1 /\ RelV p.2 q.2
def kV : Key -> V
 | .inl i => .int i
 | .inr x => .str x
inductive HO where
 | lst (xs : List V)
 | tup (xs : List V)
 | dK (kvs : List (Key × V)) | dT (kvs : List (List Key × V))
 | set (S : Int -> Bool) (n : Nat)
 | ins (C dx : Addr) (fs : List (Str × V))
 | own (x : Addr)
 | xd (fs : List (Str × V))
 | met (f x : Addr)
 | rng (lo hi : Int)
 | frz (o : Obj) (u : HO)
 | tbl (ps : Array Value)
 | ext (φ : Heap -> Prop)
abbrev Hp := Addr -> Option HO
def upd (H : Hp) (a : Addr) (o : HO) : Hp := fun b => if b = a then some o else H b
theorem zC {H : Hp} {a : Addr} {o : HO} : upd H a o a = some o := by unfold upd; rw [if_pos rfl]
theorem zE {H : Hp} {a b : Addr} {o : HO} (h : b ≠ a) : upd H a o b = H b := by unfold upd; rw [if_neg h]
theorem ne_of {H : Hp} {a b : Addr} {o u : HO} (h : H a = some o) (h' : H b = some u) (d : o ≠ u) : a ≠ b := by
 intro e; subst e; rw [h] at h'; exact d (Option.some.inj h')
theorem yF {H : Hp} {a b : Addr} {o : HO} (h : H a = some o) (h' : H b = none) : a ≠ b := by
 intro e; subst e; rw [h] at h'; cases h'
section
variable (P : Program) (w : World)
def ObjOk (H : Hp) (h : Heap) (a : Addr) : HO -> Prop
 | .lst xs => xs.length <= sizeLine /\ ∃ (its : List Value) (n : Nat), Vals xs its /\ h.get? a = some { cls := .type "list", data := .seq its.toArray n }
 | .tup xs => xs.length <= sizeLine /\ ∃ its : List Value, Vals xs its /\ IsTup h a its.toArray
 | .dK kvs => kvs.length <= sizeLine /\ (a == sysModules) = false /\ ∃ vs, KV kvs vs /\ h.DictOf (zU P w) a vs
 | .dT kvs => kvs.length <= sizeLine /\ (a == sysModules) = false /\ ∃ xs : List (List Key × Addr × Value),
     Paired (fun (p : List Key × V) (q : List Key × Addr × Value) => p.1 = q.1 /\ H q.2.1 = some (.tup (p.1.map kV)) /\ RelV p.2 q.2.2) kvs xs /\
     ∃ o es ep, h.get? a = some o /\ o.ExactDict /\ o.data = .dict es ep /\ es.toList = xs.map (entryOfKey (tupleKind (zU P w))) /\ (xs.map (·.1)).Nodup
 | .set S n => h.SetOf (intKind P w) a S n
 | .ins C dx fs => H dx = some (.own a) /\ fs.length <= 1000 /\ dx ≠ a /\ h.get? a = some (PySem.W.instObj C dx) /\
     ∃ mA, h.Ns1 dx mA /\ (∀ f, RelO (fs.lookup f) (mA f)) /\ PySem.Within mA (fs.map (·.1))
 | .own _ => ∃ o, h.get? a = some o
 | .xd fs => ∃ mA, h.Ns1 a mA /\ ∀ f, RelO (fs.lookup f) (mA f)
 | .rng lo hi => ∃ t u v, h.get? a = some { cls := .type "range", data := .fields #[.int lo t, .int hi u, .int 1 v] }
 | .frz o u => h.get? a = some o /\ ObjOk H h a u
 | .tbl ps => h.get? a = some { cls := .none, data := .fields ps }
 | .met f x => h.get? a = some (PySem.W.methodObj (.ref f) (.ref x))
 | .ext φ => φ h /\ (∃ o, h.get? a = some o) /\ ∀ h1 h2 : Heap, φ h1 -> (∀ o, h1.get? a = some o -> h2.get? a = some o) -> φ h2
def HOk (H : Hp) (h : Heap) : Prop := ∀ a o, H a = some o -> ObjOk P w H h a o
end
section
variable {P : Program} {w : World} {H H' : Hp} {h h' : Heap} {a : Addr} {o : HO}
theorem ObjOk.lt (x : ObjOk P w H h a o) : a < h.objs.size := by
 cases o with
 | lst xs => obtain ⟨_, _, _, _, e⟩ := x; exact Heap.lt_size e
 | tup xs => obtain ⟨_, _, _, p⟩ := x; exact p.lt
 | dK kvs => obtain ⟨_, _, _, _, o, _, _, e, _⟩ := x; exact Heap.lt_size e
 | dT kvs => obtain ⟨_, _, _, _, o, _, _, e, _⟩ := x; exact Heap.lt_size e
 | set S n => obtain ⟨o, _, _, _, e, _⟩ := x; exact Heap.lt_size e
 | ins C dx fs => obtain ⟨_, _, _, e, _⟩ := x; exact Heap.lt_size e
 | own y => obtain ⟨_, e⟩ := x; exact Heap.lt_size e
 | xd fs => obtain ⟨_, ⟨_, _, _, e, _⟩, _⟩ := x; exact Heap.lt_size e
 | rng lo hi => obtain ⟨_, _, _, e⟩ := x; exact Heap.lt_size e
 | frz ob u => obtain ⟨e, _⟩ := x; exact Heap.lt_size e
 | tbl ps => exact Heap.lt_size (show h.get? a = some _ from x)
 | met f y => exact Heap.lt_size (show h.get? a = some _ from x)
 | ext φ => obtain ⟨_, ⟨_, e⟩, _⟩ := x; exact Heap.lt_size e
theorem Paired.mapP {α β : Type} {F G : α -> β -> Prop} : ∀ {l₁ : List α} {l₂ : List β}, Paired F l₁ l₂ -> (∀ a b, F a b -> G a b) -> Paired G l₁ l₂
 | _, _, .nil, _ => .nil
 | _, _, .cons r t, f => .cons (f _ _ r) (Paired.mapP t f)
theorem ObjOk.stay (x : ObjOk P w H h a o) (k : ∀ b u, (b = a \/ H b = some (.own a)) -> h.get? b = some u -> h'.get? b = some u)
   (ho : ∀ b, H b = some (.own a) -> H' b = some (.own a)) (ht : ∀ b xs, H b = some (.tup xs) -> H' b = some (.tup xs)) : ObjOk P w H' h' a o := by
 induction o with
 | lst xs => obtain ⟨z, its, n, r, e⟩ := x; exact ⟨z, its, n, r, k _ _ (.inl rfl) e⟩
 | tup xs => obtain ⟨z, its, r, ob, e, c⟩ := x; exact ⟨z, its, r, ob, k _ _ (.inl rfl) e, c⟩
 | dK kvs => obtain ⟨z, y, vs, r, ob, es, ep, e, c⟩ := x; exact ⟨z, y, vs, r, ob, es, ep, k _ _ (.inl rfl) e, c⟩
 | dT kvs =>
   obtain ⟨z, y, xs, r, ob, es, ep, e, c⟩ := x
   exact ⟨z, y, xs, Paired.mapP r fun p q z => ⟨z.1, ht _ _ z.2.1, z.2.2⟩, ob, es, ep, k _ _ (.inl rfl) e, c⟩
 | set S n => obtain ⟨ob, es, ep, t, e, c⟩ := x; exact ⟨ob, es, ep, t, k _ _ (.inl rfl) e, c⟩
 | ins C dx fs =>
   obtain ⟨d, z, ne, e, mA, ⟨od, es, ep, e2, c⟩, r⟩ := x
   exact ⟨ho _ d, z, ne, k _ _ (.inl rfl) e, mA, ⟨od, es, ep, k _ _ (.inr d) e2, c⟩, r⟩
 | own y => obtain ⟨ob, e⟩ := x; exact ⟨ob, k _ _ (.inl rfl) e⟩
 | xd fs => obtain ⟨mA, ⟨od, es, ep, e, c⟩, r⟩ := x; exact ⟨mA, ⟨od, es, ep, k _ _ (.inl rfl) e, c⟩, r⟩
 | rng lo hi => obtain ⟨t, u, v, e⟩ := x; exact ⟨t, u, v, k _ _ (.inl rfl) e⟩
 | frz ob u ih => obtain ⟨e, q⟩ := x; exact ⟨k _ _ (.inl rfl) e, ih q⟩
 | tbl ps =>
   have e : h.get? a = some { cls := .none, data := .fields ps } := x
   show h'.get? a = some { cls := .none, data := .fields ps }
   exact k a _ (.inl rfl) e
 | met f y =>
   have e : h.get? a = some (PySem.W.methodObj (.ref f) (.ref y)) := x
   show h'.get? a = some (PySem.W.methodObj (.ref f) (.ref y))
   exact k a _ (.inl rfl) e
 | ext φ => obtain ⟨p, ⟨o, e⟩, st⟩ := x; exact ⟨st _ _ p fun o q => k _ _ (.inl rfl) q, ⟨o, k _ _ (.inl rfl) e⟩, st⟩
theorem HOk.lt (x : HOk P w H h) (e : H a = some o) : a < h.objs.size := (x a o e).lt
theorem HOk.fresh (x : HOk P w H h) (e : h.objs.size <= a) : H a = none := by
 cases q : H a with
 | none => rfl
 | some u => exact absurd (Nat.lt_of_lt_of_le (x.lt q) e) (Nat.lt_irrefl _)
theorem HOk.kept (x : HOk P w H h) (k : ∀ b u, h.get? b = some u -> h'.get? b = some u) : HOk P w H h' := fun a o e =>
 (x a o e).stay (fun b u _ q => k b u q) (fun _ q => q) fun _ _ q => q
theorem HOk.laid (x : HOk P w H h) (k : ∀ b u, h.get? b = some u -> h'.get? b = some u) (hp : h.objs.size <= a) (new : ObjOk P w (upd H a o) h' a o) : HOk P w (upd H a o) h' := fun b u e => by
 have hn := x.fresh hp
 by_cases hb : b = a
 · subst hb; rw [zC] at e; cases e; exact new
 · rw [zE hb] at e
   exact (x b u e).stay (fun c v _ q => k c v q) (fun c q => by rw [zE (yF q hn)]; exact q) fun c xs q => by rw [zE (yF q hn)]; exact q
end
def Rd (H : Hp) (a : Addr) (u : HO) : Prop := H a = some u \/ ∃ o, H a = some (.frz o u)
theorem Rd.ok {P : Program} {w : World} {H : Hp} {h : Heap} {a : Addr} {u : HO} (r : Rd H a u) (x : HOk P w H h) : ObjOk P w H h a u := by
 rcases r with r | ⟨o, r⟩
 · exact x a u r
 · obtain ⟨_, q⟩ := x a _ r
   exact q
def Mut : Option HO -> Prop
 | some (.lst _) => True
 | some (.dK _) => True
 | some (.dT _) => True
 | some (.set _ _) => True
 | some (.ins _ _ _) => True
 | some (.ext _) => True
 | _ => False
section
variable {P : Program} {w : World} {H : Hp} {h h' : Heap} {x e : Addr} {o' : HO}
theorem HOk.write (ok : HOk P w H h) (mu : Mut (H x)) (he : e = x \/ H e = some (.own x)) (k : ∀ b u, b ≠ e -> h.get? b = some u -> h'.get? b = some u) (heo : ∃ u, h'.get? e = some u)
   (new : ObjOk P w (upd H x o') h' x o') : HOk P w (upd H x o') h' := fun b u q => by
 have nown : ∀ c y, H c = some (.own y) -> c ≠ x := fun c y r z => by subst z; rw [r] at mu; exact mu
 have ntup : ∀ c xs, H c = some (.tup xs) -> c ≠ x := fun c xs r z => by subst z; rw [r] at mu; exact mu
 by_cases hb : b = x
 · subst hb; rw [zC] at q; cases q; exact new
 · rw [zE hb] at q
   by_cases hbe : b = e
   · have q' : H b = some (.own x) := by
       rcases he with z | z
       · exact absurd (hbe.trans z) hb
       · rw [hbe]; exact z
     rw [q] at q'; cases q'
     obtain ⟨v, hv⟩ := heo
     exact ⟨v, by rw [hbe]; exact hv⟩
   · refine (ok b u q).stay (fun c v hc r => k c v ?_ r) (fun c r => by rw [zE (nown c b r)]; exact r) fun c xs r => by rw [zE (ntup c xs r)]; exact r
     rcases hc with rfl | hc
     · exact hbe
     · rintro rfl
       rcases he with z | z
       · exact nown c b hc z
       · rw [hc] at z; cases z; exact hb rfl
end
structure Un (fs ex : List Addr) (H H' : Hp) (h h' : Heap) : Prop where
 keep : ∀ b o, h.get? b = some o -> H b = none -> b ∉ fs -> b ∉ ex -> h'.get? b = some o
 slot : ∀ b o, h.get? b = some o -> H b = none -> b ∈ fs -> b ∉ ex -> ∃ sl, h'.get? b = some { o with slots := sl }
 free : ∀ b o, h.get? b = some o -> H b = none -> b ∉ ex -> H' b = none
 there : ∀ b o, h.get? b = some o -> b ∉ ex -> ∃ o', h'.get? b = some o'
 tups : ∀ b xs, H b = some (.tup xs) -> H' b = some (.tup xs)
 frzs : ∀ b o u, H b = some (.frz o u) -> H' b = some (.frz o u)
 tbls : ∀ b ps, H b = some (.tbl ps) -> ∃ more, H' b = some (.tbl (ps ++ more))
section
variable {fs fs' ex ex' : List Addr} {H H1 H2 : Hp} {h h1 h2 h' : Heap} {a x e : Addr} {o : HO}
theorem Un.any (u : Un fs ex H H1 h h1) {b : Addr} {ob : Obj} (q : h.get? b = some ob) (n : H b = none) (hx : b ∉ ex) : ∃ sl, h1.get? b = some { ob with slots := sl } := by
 by_cases hb : b ∈ fs
 · exact u.slot b ob q n hb hx
 · exact ⟨ob.slots, u.keep b ob q n hb hx⟩
theorem Un.trans (a : Un fs ex H H1 h h1) (b : Un fs ex H1 H2 h1 h2) : Un fs ex H H2 h h2 where
 keep := fun c ob q n hc hx => b.keep c ob (a.keep c ob q n hc hx) (a.free c ob q n hx) hc hx
 slot := fun c ob q n hc hx => by
   obtain ⟨sl, e1⟩ := a.slot c ob q n hc hx
   obtain ⟨sl', e2⟩ := b.slot c _ e1 (a.free c ob q n hx) hc hx
   exact ⟨sl', e2⟩
 free := fun c ob q n hx => by
   obtain ⟨o', e1⟩ := a.there c ob q hx
   exact b.free c o' e1 (a.free c ob q n hx) hx
 there := fun c ob q hx => by
   obtain ⟨o', e1⟩ := a.there c ob q hx
   exact b.there c o' e1 hx
 tups := fun c xs q => b.tups c xs (a.tups c xs q)
 frzs := fun c ob xs q => b.frzs c ob xs (a.frzs c ob xs q)
 tbls := fun c ps q => by
   obtain ⟨m1, e1⟩ := a.tbls c ps q
   obtain ⟨m2, e2⟩ := b.tbls c _ e1
   exact ⟨m1 ++ m2, by rw [e2, Array.append_assoc]⟩
theorem Un.kept (k : ∀ b u, h.get? b = some u -> h'.get? b = some u) : Un fs ex H H h h' :=
 ⟨fun b ob q _ _ _ => k b ob q, fun b ob q _ _ _ => ⟨ob.slots, k b ob q⟩, fun _ _ _ n _ => n, fun b ob q _ => ⟨ob, k b ob q⟩, fun _ _ q => q, fun _ _ _ q => q, fun _ ps q => ⟨#[], by rw [q]; simp⟩⟩
theorem Un.refl : Un fs ex H H h h := Un.kept fun _ _ q => q
theorem Un.laid (k : ∀ b u, h.get? b = some u -> h'.get? b = some u) (hp : h.objs.size <= a) (hn : H a = none) : Un fs ex H (upd H a o) h h' where
 keep := fun b u q _ _ _ => k b u q
 slot := fun b u q _ _ _ => ⟨u.slots, k b u q⟩
 free := fun b u q n _ => by rw [zE (Nat.ne_of_lt (Nat.lt_of_lt_of_le (Heap.lt_size q) hp))]; exact n
 there := fun b u q _ => ⟨u, k b u q⟩
 tups := fun b xs q => by rw [zE (yF q hn)]; exact q
 frzs := fun b u xs q => by rw [zE (yF q hn)]; exact q
 tbls := fun b ps q => ⟨#[], by rw [zE (yF q hn), q]; simp⟩
theorem Un.write (mu : Mut (H x)) (he : e = x \/ H e = some (.own x)) (k : ∀ b u, b ≠ e -> h.get? b = some u -> h'.get? b = some u) (heo : ∃ u, h'.get? e = some u) : Un fs ex H (upd H x o) h h' := by
 have hx : ∀ b, H b = none -> b ≠ x := fun b n z => by subst z; rw [n] at mu; exact mu
 have hb : ∀ b, H b = none -> b ≠ e := fun b n z => by
   subst z
   rcases he with r | r
   · exact hx b n r
   · rw [n] at r; cases r
 have hm : ∀ b u, H b = some u -> ¬ Mut (some u) -> b ≠ x := fun b u q nm z => by subst z; rw [q] at mu; exact nm mu
 refine ⟨fun b u q n _ _ => k b u (hb b n) q, fun b u q n _ _ => ⟨u.slots, k b u (hb b n) q⟩, fun b u q n _ => by rw [zE (hx b n)]; exact n, fun b u q _ => ?_,
   fun b xs q => by rw [zE (hm b _ q fun z => z)]; exact q, fun b u xs q => by rw [zE (hm b _ q fun z => z)]; exact q, fun b ps q => ⟨#[], by rw [zE (hm b _ q fun z => z), q]; simp⟩⟩
 by_cases hbe : b = e
 · subst hbe; exact heo
 · exact ⟨u, k b u hbe q⟩
end
def trk (h : Heap) (H : Hp) : List Addr := (List.range h.objs.size).filter fun a => (H a).isSome
def uO (h : Heap) (H : Hp) : Heap := PySem.W.hideAll h (trk h H)
theorem hidT_size (h : Heap) (H : Hp) : (uO h H).objs.size = h.objs.size := PySem.W.hideAll_size _ _
theorem hidT_get {h : Heap} {H : Hp} {b : Addr} {o : Obj} (e : h.get? b = some o) (n : H b = none) : (uO h H).get? b = some o :=
 PySem.W.hideAll_get _ e fun hm => by
   have q : (H b).isSome = true := (List.mem_filter.mp hm).2
   rw [n] at q; simp at q
theorem of_hidT {h : Heap} {H : Hp} {b : Addr} {o : Obj} (e : (uO h H).get? b = some o) : h.get? b = some o /\ H b = none := by
 have e' : h.get? b = some o := PySem.W.of_hideAll (trk h H) e
 refine ⟨e', ?_⟩
 cases q : H b with
 | none => rfl
 | some x =>
   have hm : b ∈ trk h H := List.mem_filter.mpr ⟨List.mem_range.mpr (Heap.lt_size e'), by simp [q]⟩
   have z : (uO h H).get? b = none := PySem.W.hideAll_none (trk h H) hm
   rw [z] at e; cases e
def allNews (g h : Heap) (L : Addr) : List (Addr × Obj) := (List.range h.objs.size).filterMap fun a => if a = L \/ (g.get? a).isSome = true then none else (h.get? a).map fun o => (a, o)
def rest (g h : Heap) (L d : Addr) : List (Addr × Obj) := (allNews g h L).filter fun p => decide (p.1 ≠ d)
structure Mod (K : PySem.W.Frag) (mg : Str -> Option Value) (base : Heap) : Prop where
 kin : K.In base
 glob : base.Ns mainGlobals mg
 blt : ∃ mb, base.Ns builtinsNs mb /\ ∀ x : Str, x ≠ "__name__" -> mb x = bootBuiltins x
 nolimit : base.NoLimit
structure Cx where
 prog : Program
 w : World
 K : PySem.W.Frag
 mg : Str -> Option Value
 base : Heap
 A : Around
 N : List Str
 s₀ : Shared
 H₀ : Hp
 env : Env
 outer : List Env
 stack : List Env
 ex : List Addr
 fn : Str -> Bool
 calm : Bool
 pn : List (Addr × Obj)
 xe : Value -> Shared -> Prop
def frs (l : List Env) : List Addr := l.filterMap (·.frame)
abbrev Cx.fs (X : Cx) : List Addr := frs X.outer
def Vis (sc : Scope) (x : Str) : Prop := sc.names.lookup x = some .local \/ sc.names.lookup x = some .cell \/ sc.names.lookup x = some .free
def Loc (sc : Scope) (x : Str) : Prop := sc.names.lookup x = some .local \/ sc.names.lookup x = some .cell
def Look (env : Env) (h : Heap) (m : Str -> Option Value) (x : Str) (u : Value) : Prop :=
 (env.kindOf x = some .local /\ m x = some u) \/ ((env.kindOf x = some .cell \/ env.kindOf x = some .free) /\ ∃ c, env.cells.lookup x = some c /\ h.IsCell c (some u))
structure Cx.Ok (X : Cx) : Prop where
 mod : Mod X.K X.mg X.base
 kind : X.env.scope.kind = .function
 glob : X.env.globals = mainGlobals
 blt : X.env.builtins = builtinsNs
 above : X.s₀.heap.objs.size <= X.env.locals
 inj : ∀ x y c, X.env.cells.lookup x = some c -> X.env.cells.lookup y = some c -> x = y
 has : ∀ x, (X.env.kindOf x = some .cell \/ X.env.kindOf x = some .free) -> ∃ c, X.env.cells.lookup x = some c
 cab : ∀ x c, X.fn x = true -> X.env.cells.lookup x = some c -> X.s₀.heap.objs.size <= c
 hd : X.calm = true -> X.A.handled = none
 frames : X.A.frames = some X.stack
 stk : X.stack = X.outer \/ (X.stack = X.env :: X.outer /\ X.env.frame = some X.env.locals)
 exf : ∀ b ∈ X.ex, b ≠ X.env.locals /\ ∀ x c, X.env.cells.lookup x = some c -> c ≠ b
 bs : ∀ b o, X.base.get? b = some o -> X.s₀.heap.get? b = some o /\ X.H₀ b = none
 bsz : X.base.objs.size <= X.s₀.heap.objs.size
 noex : ∀ b o, X.base.get? b = some o -> b ∉ X.ex
 exfs : ∀ b ∈ X.ex, b ∉ X.fs
 funs : X.s₀.heap.FunFrames X.base X.outer
 frf : ∀ b ∈ X.fs, X.H₀ b = none
structure Inv (X : Cx) (pins : List (Addr × Obj)) (σ : List (Option V)) (H : Hp) (s : Shared) : Prop where
 ok : X.Ok
 os : s.os = X.s₀.os
 bare : AllBare s.gens
 base : Un X.fs X.ex X.H₀ H X.s₀.heap s.heap
 loc : ∃ m, s.heap.Ns X.env.locals m /\ ∀ (i : Nat) (x : Str) (v : V), X.N[i]? = some x -> σ[i]? = some (some v) -> Vis X.env.scope x -> ∃ u, RelV v u /\ Look X.env s.heap m x u
 cell : ∀ x c, X.env.cells.lookup x = some c -> ∃ v, s.heap.IsCell c v
 free : H X.env.locals = none
 freeC : ∀ x c, X.env.cells.lookup x = some c -> H c = none
 pin : ∀ p ∈ X.pn ++ pins, s.heap.get? p.1 = some p.2 /\ H p.1 = none /\ p.1 ≠ X.env.locals /\ p.1 ∉ X.fs /\ ∀ v, p.2.data ≠ .cell v
 hok : HOk X.prog X.w H s.heap
 len : σ.length = X.N.length
section
variable {X : Cx} {pins : List (Addr × Obj)} {σ : List (Option V)} {H H' : Hp} {s : Shared} {h' : Heap}
theorem Cx.Ok.nofr (ok : X.Ok) {b : Addr} {o : Obj} (e : X.base.get? b = some o) : b ∉ X.fs := fun hb => by
 have := (ok.funs.mem hb).1
 rw [e] at this; cases this
theorem Inv.bs (I : Inv X pins σ H s) : ∀ b o, X.base.get? b = some o -> s.heap.get? b = some o /\ H b = none := fun b o e =>
 ⟨I.base.keep b o (I.ok.bs b o e).1 (I.ok.bs b o e).2 (I.ok.nofr e) (I.ok.noex b o e), I.base.free b o (I.ok.bs b o e).1 (I.ok.bs b o e).2 (I.ok.noex b o e)⟩
theorem Inv.bk (I : Inv X pins σ H s) : ∀ b o, X.base.get? b = some o -> s.heap.get? b = some o := fun b o e => (I.bs b o e).1
theorem Inv.mod (I : Inv X pins σ H s) : Mod X.K X.mg X.base := I.ok.mod
theorem Inv.kIn (I : Inv X pins σ H s) : X.K.In s.heap := I.ok.mod.kin.keeps I.bk
theorem Inv.lt (I : Inv X pins σ H s) : X.env.locals < s.heap.objs.size := let ⟨_, hn, _⟩ := I.loc; hn.lt
theorem Inv.sz (I : Inv X pins σ H s) : X.s₀.heap.objs.size <= s.heap.objs.size := Nat.le_trans I.ok.above (Nat.le_of_lt I.lt)
theorem Inv.nofs (I : Inv X pins σ H s) {a : Addr} (h : s.heap.objs.size <= a) : a ∉ X.fs := fun hb => by
 obtain ⟨_, o, ho, _⟩ := I.ok.funs.mem hb
 exact absurd (Nat.lt_of_lt_of_le (Heap.lt_size ho) (Nat.le_trans I.sz h)) (Nat.lt_irrefl _)
theorem Inv.cne (I : Inv X pins σ H s) : ∀ x c, X.env.cells.lookup x = some c -> c ≠ X.env.locals := fun x c e z => by
 obtain ⟨v, o, ho, hd⟩ := I.cell x c e
 obtain ⟨m, ⟨o', es, ep, ho', hd', _⟩, _⟩ := I.loc
 rw [z, ho'] at ho; cases ho; rw [hd'] at hd; cases hd
theorem Inv.funs (I : Inv X pins σ H s) : s.heap.FunFrames X.base X.outer := by
 have all : ∀ (l : List Env), (∀ b ∈ frs l, b ∈ X.fs) -> X.s₀.heap.FunFrames X.base l -> s.heap.FunFrames X.base l := by
   intro l
   induction l with
   | nil => intro _ _; trivial
   | cons env r ih =>
     intro hs hl
     obtain ⟨hk, ⟨L, o, hf, hn, ho, hd⟩, hr⟩ := hl
     have hL : L ∈ X.fs := hs L (by unfold frs; rw [List.filterMap_cons, hf]; exact List.mem_cons_self)
     obtain ⟨sl, e⟩ := I.base.slot L o ho (I.ok.frf L hL) hL fun z => I.ok.exfs L z hL
     exact ⟨hk, ⟨L, _, hf, hn, e, hd⟩, ih (fun b hb => hs b (by unfold frs; rw [List.filterMap_cons, hf]; exact List.mem_cons_of_mem _ hb)) hr⟩
 exact all X.outer (fun _ hb => hb) I.ok.funs
theorem Inv.stack (I : Inv X pins σ H s) : s.heap.FunFrames X.base X.stack := by
 rcases I.ok.stk with e | ⟨e, hf⟩
 · rw [e]; exact I.funs
 · rw [e]
   obtain ⟨m, hn, _⟩ := I.loc
   refine .cons (by rw [I.ok.kind]; decide) hf hn ?_ I.funs
   exact Heap.get?_none_of_le (Nat.le_trans I.ok.bsz I.ok.above)
theorem Inv.stkSub (I : Inv X pins σ H s) : ∀ b ∈ frs X.stack, b ∈ X.env.locals :: X.fs := fun b hb => by
 rcases I.ok.stk with e | ⟨e, hf⟩
 · rw [e] at hb; exact List.mem_cons_of_mem _ hb
 · rw [e] at hb
   unfold frs at hb
   rw [List.filterMap_cons, hf] at hb
   exact hb
theorem Inv.stkFree (I : Inv X pins σ H s) : ∀ b ∈ frs X.stack, H b = none := fun b hb => by
 rcases List.mem_cons.mp (I.stkSub b hb) with e | hb
 · rw [e]; exact I.free
 · obtain ⟨_, o, ho, _⟩ := I.ok.funs.mem hb
   exact I.base.free b o ho (I.ok.frf b hb) fun z => I.ok.exfs b z hb
theorem Inv.step {g' : Array GenState} {t' : Nat} {d' : Drawn} {ch : List Addr} (I : Inv X pins σ H s)
   (hch : ∀ b ∈ ch, (b ∈ X.ex \/ X.s₀.heap.objs.size <= b) /\ b ≠ X.env.locals /\ (∀ x c, X.env.cells.lookup x = some c -> c ≠ b) /\ ∀ p ∈ X.pn ++ pins, p.1 ≠ b)
   (keep : ∀ b o, b ≠ X.env.locals -> b ∉ X.fs -> b ∉ ch -> s.heap.get? b = some o -> H b = none -> h'.get? b = some o)
   (slot : ∀ b o, b ≠ X.env.locals -> b ∈ X.fs -> b ∉ ch -> s.heap.get? b = some o -> H b = none -> ∃ sl, h'.get? b = some { o with slots := sl }) (free : ∀ b o, b ∉ ch -> s.heap.get? b = some o -> H b = none -> H' b = none)
   (there : ∀ b o, b ∉ ch -> s.heap.get? b = some o -> ∃ o', h'.get? b = some o')
   (tups : ∀ b xs, H b = some (.tup xs) -> H' b = some (.tup xs)) (frzs : ∀ b o u, H b = some (.frz o u) -> H' b = some (.frz o u)) (tbls : ∀ b ps, H b = some (.tbl ps) -> ∃ more, H' b = some (.tbl (ps ++ more)))
   (ns : ∀ m, s.heap.Ns X.env.locals m -> h'.Ns X.env.locals m) (hok : HOk X.prog X.w H' h') (hg : AllBare g') :
   Inv X pins σ H' { s with heap := h', gens := g', drawn := d', toks := t' } := by
 have neL : ∀ b o, X.s₀.heap.get? b = some o -> b ≠ X.env.locals := fun b o e => Nat.ne_of_lt (Nat.lt_of_lt_of_le (Heap.lt_size e) I.ok.above)
 have neC : ∀ b o, X.s₀.heap.get? b = some o -> b ∉ X.ex -> b ∉ ch := fun b o e hx hb => by
   rcases (hch b hb).1 with z | z
   · exact hx z
   · exact absurd (Nat.lt_of_lt_of_le (Heap.lt_size e) z) (Nat.lt_irrefl _)
 have cellK : ∀ x c, X.env.cells.lookup x = some c -> ∀ v, s.heap.IsCell c v -> h'.IsCell c v := fun x c e v ⟨o, ho, hd⟩ => by
   have nch : c ∉ ch := fun z => (hch c z).2.2.1 x c e rfl
   by_cases hc : c ∈ X.fs
   · obtain ⟨sl, q⟩ := slot c o (I.cne x c e) hc nch ho (I.freeC x c e)
     exact ⟨_, q, hd⟩
   · exact ⟨o, keep c o (I.cne x c e) hc nch ho (I.freeC x c e), hd⟩
 refine ⟨I.ok, I.os, hg, ⟨fun b o e n hb hx => ?_, fun b o e n hb hx => ?_, fun b o e n hx => ?_, fun b o e hx => ?_, fun b xs e => tups b xs (I.base.tups b xs e), fun b o xs e => frzs b o xs (I.base.frzs b o xs e), fun b ps e => ?_⟩, ?_, fun x c e => ?_, ?_, fun x c e => ?_, fun p hp => ?_, hok, I.len⟩
 · exact keep b o (neL b o e) hb (neC b o e hx) (I.base.keep b o e n hb hx) (I.base.free b o e n hx)
 · obtain ⟨sl, e1⟩ := I.base.slot b o e n hb hx
   obtain ⟨sl', e2⟩ := slot b _ (neL b o e) hb (neC b o e hx) e1 (I.base.free b o e n hx)
   exact ⟨sl', e2⟩
 · obtain ⟨o', e1⟩ := I.base.there b o e hx
   exact free b o' (neC b o e hx) e1 (I.base.free b o e n hx)
 · obtain ⟨o', e1⟩ := I.base.there b o e hx
   exact there b o' (neC b o e hx) e1
 · obtain ⟨m1, e1⟩ := I.base.tbls b ps e
   obtain ⟨m2, e2⟩ := tbls b _ e1
   exact ⟨m1 ++ m2, by rw [e2, Array.append_assoc]⟩
 · obtain ⟨m, hn, hl⟩ := I.loc
   refine ⟨m, ns m hn, fun i x v e1 e2 e3 => ?_⟩
   obtain ⟨u, r, l⟩ := hl i x v e1 e2 e3
   refine ⟨u, r, ?_⟩
   rcases l with l | ⟨k, c, e, z⟩
   · exact .inl l
   · exact .inr ⟨k, c, e, cellK x c e _ z⟩
 · obtain ⟨v, z⟩ := I.cell x c e
   exact ⟨v, cellK x c e v z⟩
 · obtain ⟨m, ⟨o, _, _, ho, _⟩, _⟩ := I.loc
   exact free _ o (fun z => (hch _ z).2.1 rfl) ho I.free
 · obtain ⟨v, o, ho, hd⟩ := I.cell x c e
   exact free c o (fun z => (hch c z).2.2.1 x c e rfl) ho (I.freeC x c e)
 · obtain ⟨e, n, ne, nf, d⟩ := I.pin p hp
   have nch : p.1 ∉ ch := fun z => (hch p.1 z).2.2.2 p hp rfl
   exact ⟨keep p.1 p.2 ne nf nch e n, free p.1 p.2 nch e n, ne, nf, d⟩
theorem Inv.un {t' : Nat} (I : Inv X pins σ H s) (u : Un X.fs [] H H' s.heap h') (hok : HOk X.prog X.w H' h') : Inv X pins σ H' { s with heap := h', toks := t' } := by
 obtain ⟨m, ⟨o, es, ep, ho, r⟩, _⟩ := id I.loc
 obtain ⟨sl, hL⟩ := u.any ho I.free (by simp)
 exact I.step (g' := s.gens) (d' := s.drawn) (ch := []) (fun _ z => nomatch z) (fun b o _ hb _ e n => u.keep b o e n hb (by simp)) (fun b o _ hb _ e n => u.slot b o e n hb (by simp)) (fun b o _ e n => u.free b o e n (by simp)) (fun b o _ e => u.there b o e (by simp)) u.tups u.frzs u.tbls (fun m' hm => by
   obtain ⟨o', es', ep', ho', r'⟩ := hm
   rw [ho] at ho'; cases ho'
   exact ⟨_, es', ep', hL, r'⟩) hok I.bare
theorem Inv.call {g' : Array GenState} {t' : Nat} {d' : Drawn} {ch : List Addr} (I : Inv X pins σ H s) (u : Un (frs X.stack) ch H H' s.heap h') (hok : HOk X.prog X.w H' h') (hg : AllBare g')
   (hch : ∀ b ∈ ch, (b ∈ X.ex \/ X.s₀.heap.objs.size <= b) /\ b ≠ X.env.locals /\ (∀ x c, X.env.cells.lookup x = some c -> c ≠ b) /\ ∀ p ∈ X.pn ++ pins, p.1 ≠ b) :
   Inv X pins σ H' { s with heap := h', gens := g', drawn := d', toks := t' } := by
 obtain ⟨m, ⟨o, es, ep, ho, r⟩, _⟩ := id I.loc
 obtain ⟨sl, hL⟩ := u.any ho I.free fun z => (hch _ z).2.1 rfl
 exact I.step (ch := ch) hch (fun b o hL hb hc e n => u.keep b o e n (fun z => (List.mem_cons.mp (I.stkSub b z)).elim hL hb) hc) (fun b o _ _ hc e n => u.any e n hc) (fun b o hc e n => u.free b o e n hc) (fun b o hc e => u.there b o e hc) u.tups u.frzs u.tbls (fun m' hm => by
   obtain ⟨o', es', ep', ho', r'⟩ := hm
   rw [ho] at ho'; cases ho'
   exact ⟨_, es', ep', hL, r'⟩) hok hg
theorem Inv.turned {t' : Nat} {it : Addr} (I : Inv X pins σ H s) (k : ∀ b o, b ≠ it -> s.heap.get? b = some o -> h'.get? b = some o) (hn : H it = none) (hL : it ≠ X.env.locals)
   (h1 : it ∈ X.ex \/ X.s₀.heap.objs.size <= it) (h2 : ∀ x c, X.env.cells.lookup x = some c -> c ≠ it) (h3 : ∀ p ∈ X.pn ++ pins, p.1 ≠ it) : Inv X pins σ H { s with heap := h', toks := t' } := by
 have nit : ∀ b u, H b = some u -> b ≠ it := fun b u e z => by rw [z, hn] at e; cases e
 refine I.step (g' := s.gens) (d' := s.drawn) (ch := [it]) (fun b hb => ?_) (fun b o _ _ hc e _ => k b o (fun z => hc (by simp [z])) e) (fun b o _ _ hc e _ => ⟨o.slots, k b o (fun z => hc (by simp [z])) e⟩) (fun _ _ _ _ n => n)
   (fun b o hc e => ⟨o, k b o (fun z => hc (by simp [z])) e⟩) (fun _ _ e => e) (fun _ _ _ e => e) (fun b ps e => ⟨#[], by rw [e]; simp⟩) (fun m hm => ?_) (fun b u e => ?_) I.bare
 · have e : b = it := by simpa using hb
   subst e
   exact ⟨h1, hL, h2, h3⟩
 · obtain ⟨o, es, ep, ho, r⟩ := hm
   exact ⟨o, es, ep, k _ o (Ne.symm hL) ho, r⟩
 · refine (I.hok b u e).stay (fun c v hc q => k c v ?_ q) (fun _ q => q) fun _ _ q => q
   rcases hc with z | z
   · rw [z]; exact nit b u e
   · exact nit c _ z
theorem Inv.tok (I : Inv X pins σ H s) (t : Nat) : Inv X pins σ H { s with toks := t } := I.un (h' := s.heap) (t' := t) Un.refl I.hok
theorem Inv.kept {t' : Nat} (I : Inv X pins σ H s) (k : ∀ b u, s.heap.get? b = some u -> h'.get? b = some u) : Inv X pins σ H { s with heap := h', toks := t' } := I.un (Un.kept k) (I.hok.kept k)
theorem Inv.laid {a : Addr} {o : HO} {t' : Nat} (I : Inv X pins σ H s) (k : ∀ b u, s.heap.get? b = some u -> h'.get? b = some u) (hp : s.heap.objs.size <= a) (new : ObjOk X.prog X.w (upd H a o) h' a o) :
   Inv X pins σ (upd H a o) { s with heap := h', toks := t' } := I.un (Un.laid k hp (I.hok.fresh hp)) (I.hok.laid k hp new)
theorem Inv.write {x e : Addr} {o : HO} {t' : Nat} (I : Inv X pins σ H s) (mu : Mut (H x)) (he : e = x \/ H e = some (.own x)) (k : ∀ b u, b ≠ e -> s.heap.get? b = some u -> h'.get? b = some u) (heo : ∃ u, h'.get? e = some u)
   (new : ObjOk X.prog X.w (upd H x o) h' x o) : Inv X pins σ (upd H x o) { s with heap := h', toks := t' } := I.un (Un.write mu he k heo) (I.hok.write mu he k heo new)
theorem Inv.pins_of {pins' : List (Addr × Obj)} (I : Inv X pins σ H s) (h : ∀ p ∈ pins', s.heap.get? p.1 = some p.2 /\ H p.1 = none /\ p.1 ≠ X.env.locals /\ p.1 ∉ X.fs /\ ∀ v, p.2.data ≠ .cell v) : Inv X pins' σ H s :=
 ⟨I.ok, I.os, I.bare, I.base, I.loc, I.cell, I.free, I.freeC, fun p hp => (List.mem_append.mp hp).elim (fun z => I.pin p (List.mem_append_left _ z)) (h p), I.hok, I.len⟩
theorem qH {N : List Str} (hN : N.Nodup) {i j : Nat} {x : Str} (a : N[i]? = some x) (b : N[j]? = some x) : i = j := by
 obtain ⟨h1, e1⟩ := List.getElem?_eq_some_iff.mp a
 obtain ⟨h2, e2⟩ := List.getElem?_eq_some_iff.mp b
 exact (List.getElem_inj hN).mp (e1.trans e2.symm)
theorem qS {M : Model} {A : Around} {E : Value -> Shared -> Prop} {i : Nat} {x : Str} {v : V} {u : Value} {Q : Unit -> Shared -> Prop} (I : Inv X pins σ H s) (hN : X.N.Nodup) (hi : X.N[i]? = some x) (hx : Loc X.env.scope x) (r : RelV v u)
   (h : ∀ s', Inv X pins (σ.set i (some v)) H s' -> (∃ a, Heap.SameBut a s.heap s'.heap /\ (a = X.env.locals \/ X.env.cells.lookup x = some a)) -> Q () s') (hf : X.fn x = true \/ X.env.scope.names.lookup x = some .local := by first | exact .inl rfl | exact .inr rfl | assumption) : wpAny M A (storeName X.env x u) Q E s := by
 obtain ⟨m, hn, hl⟩ := id I.loc
 have hcls : (X.env.scope.kind == .class || (X.env.scope.kind == .module && X.env.locals != X.env.globals)) = false := by rw [I.ok.kind]; rfl
 have hiσ : i < σ.length := by rw [I.len]; exact (List.getElem?_eq_some_iff.mp hi).1
 have cne := I.cne
 have tracked : ∀ {a : Addr} {h' : Heap}, (∃ o, s.heap.get? a = some o /\ H a = none) -> Heap.SameBut a s.heap h' -> HOk X.prog X.w H h' := fun {a h'} ha hs b ob e => by
   obtain ⟨_, _, hfree⟩ := ha
   refine (I.hok b ob e).stay (fun c w' hc q => (hs.2 c ?_).trans q) (fun _ q => q) fun _ _ q => q
   rintro rfl
   rcases hc with rfl | hc
   · rw [hfree] at e; cases e
   · rw [hfree] at hc; cases hc
 rcases hx with hk | hk
 · refine wpAny_storeName_local hk hn (fun h' hn' hs => ?_) hcls
   obtain ⟨oL, _, _, hoL, _⟩ := id hn
   refine h _ ⟨I.ok, I.os, I.bare, ⟨fun b o e n hb hx => ?_, fun b o e n hb hx => ?_, I.base.free, fun b o e hx => ?_, I.base.tups, I.base.frzs, I.base.tbls⟩, ⟨_, hn', fun j y v' e1 e2 e3 => ?_⟩, fun y c e => ?_, I.free, I.freeC, fun p hp => ?_, tracked ⟨oL, hoL, I.free⟩ hs, by simpa using I.len⟩ ⟨_, hs, .inl rfl⟩
   · exact (hs.2 b (Nat.ne_of_lt (Nat.lt_of_lt_of_le (Heap.lt_size e) I.ok.above))).trans (I.base.keep b o e n hb hx)
   · obtain ⟨sl, e1⟩ := I.base.slot b o e n hb hx
     exact ⟨sl, (hs.2 b (Nat.ne_of_lt (Nat.lt_of_lt_of_le (Heap.lt_size e) I.ok.above))).trans e1⟩
   · obtain ⟨o', e1⟩ := I.base.there b o e hx
     exact ⟨o', (hs.2 b (Nat.ne_of_lt (Nat.lt_of_lt_of_le (Heap.lt_size e) I.ok.above))).trans e1⟩
   · by_cases hj : j = i
     · subst hj
       rw [hi] at e1; cases e1
       rw [List.getElem?_set_self hiσ] at e2
       cases e2
       exact ⟨u, r, .inl ⟨hk, by simp⟩⟩
     · rw [List.getElem?_set_ne (Ne.symm hj)] at e2
       obtain ⟨u', r', q⟩ := hl j y v' e1 e2 e3
       refine ⟨u', r', ?_⟩
       rcases q with ⟨k, e⟩ | ⟨k, c, e, z⟩
       · refine .inl ⟨k, ?_⟩
         have : y ≠ x := fun e => hj (qH hN e1 (e ▸ hi))
         simp [this, e]
       · exact .inr ⟨k, c, e, z.sameBut hs (cne y c e)⟩
   · obtain ⟨w', z⟩ := I.cell y c e
     exact ⟨w', z.sameBut hs (cne y c e)⟩
   · obtain ⟨e, n, ne, nf, d⟩ := I.pin p hp
     exact ⟨(hs.2 p.1 ne).trans e, n, ne, nf, d⟩
 · have hfn : X.fn x = true := by
     rcases hf with z | z
     · exact z
     · rw [z] at hk; cases hk
   obtain ⟨c, hc⟩ := I.ok.has x (.inl hk)
   obtain ⟨w', z⟩ := I.cell x c hc
   refine wpAny_storeName_cell I.ok.kind hk hc z (fun h' hc' hs => ?_)
   obtain ⟨oc, hoc, hocd⟩ := id z
   refine h { s with heap := h' } ⟨I.ok, I.os, I.bare, ⟨fun b o e n hb hx => ?_, fun b o e n hb hx => ?_, I.base.free, fun b o e hx => ?_, I.base.tups, I.base.frzs, I.base.tbls⟩, ⟨m, hn.sameBut hs (Ne.symm (cne x c hc)), fun j y v' e1 e2 e3 => ?_⟩, fun y c' e => ?_, I.free, I.freeC, fun p hp => ?_, tracked ⟨oc, hoc, I.freeC x c hc⟩ hs, by simpa using I.len⟩ ⟨c, hs, .inr hc⟩
   · exact (hs.2 b (Nat.ne_of_lt (Nat.lt_of_lt_of_le (Heap.lt_size e) (I.ok.cab x c hfn hc)))).trans (I.base.keep b o e n hb hx)
   · obtain ⟨sl, e1⟩ := I.base.slot b o e n hb hx
     exact ⟨sl, (hs.2 b (Nat.ne_of_lt (Nat.lt_of_lt_of_le (Heap.lt_size e) (I.ok.cab x c hfn hc)))).trans e1⟩
   · obtain ⟨o', e1⟩ := I.base.there b o e hx
     exact ⟨o', (hs.2 b (Nat.ne_of_lt (Nat.lt_of_lt_of_le (Heap.lt_size e) (I.ok.cab x c hfn hc)))).trans e1⟩
   · by_cases hj : j = i
     · subst hj
       rw [hi] at e1; cases e1
       rw [List.getElem?_set_self hiσ] at e2
       cases e2
       exact ⟨u, r, .inr ⟨.inl hk, c, hc, hc'⟩⟩
     · rw [List.getElem?_set_ne (Ne.symm hj)] at e2
       obtain ⟨u', r', q⟩ := hl j y v' e1 e2 e3
       refine ⟨u', r', ?_⟩
       rcases q with q | ⟨k, c', e, z'⟩
       · exact .inl q
       · refine .inr ⟨k, c', e, z'.sameBut hs ?_⟩
         rintro rfl
         exact hj (qH hN e1 (I.ok.inj _ _ _ e hc ▸ hi))
   · by_cases hcc : c' = c
     · subst hcc; exact ⟨_, hc'⟩
     · obtain ⟨w2, z2⟩ := I.cell y c' e
       exact ⟨w2, z2.sameBut hs hcc⟩
   · obtain ⟨e, n, ne, nf, d⟩ := I.pin p hp
     refine ⟨(hs.2 p.1 ?_).trans e, n, ne, nf, d⟩
     intro q
     rw [q, hoc] at e
     have q' : oc = p.2 := Option.some.inj e
     exact d w' (by rw [← q']; exact hocd)
theorem xU {M : Model} {A : Around} {E : Value -> Shared -> Prop} {i : Nat} {x : Str} {v : V} {u : Value} {Q : Unit -> Shared -> Prop} (I : Inv X pins σ H s) (hN : X.N.Nodup) (hi : X.N[i]? = some x) (hx : Loc X.env.scope x) (r : RelV v u)
   (h : ∀ s', Inv X pins (σ.set i (some v)) H s' -> Q () s') (hf : X.fn x = true \/ X.env.scope.names.lookup x = some .local := by first | exact .inl rfl | exact .inr rfl | assumption) : wpAny M A (storeName X.env x u) Q E s :=
 qS I hN hi hx r (fun s' I' _ => h s' I') hf
theorem Inv.call' {s' : Shared} {ch : List Addr} (I : Inv X pins σ H s) (ho : s'.os = s.os) (u : Un (frs X.stack) ch H H' s.heap s'.heap) (hok : HOk X.prog X.w H' s'.heap) (hg : AllBare s'.gens)
   (hch : ∀ b ∈ ch, (b ∈ X.ex \/ X.s₀.heap.objs.size <= b) /\ b ≠ X.env.locals /\ (∀ x c, X.env.cells.lookup x = some c -> c ≠ b) /\ ∀ p ∈ X.pn ++ pins, p.1 ≠ b) : Inv X pins σ H' s' := by
 obtain ⟨h', g', d', t', o'⟩ := s'
 have e : o' = s.os := ho
 subst e
 exact I.call (g' := g') (t' := t') (d' := d') u hok hg hch
end
abbrev XK := Value -> Option Addr -> Hp -> Prop
abbrev St := List (Option V)
abbrev VK := V -> Hp -> Prop
abbrev TE := St -> Hp -> VK -> Prop
abbrev TT := St -> Hp -> (Bool -> Hp -> Prop) -> Prop
abbrev TA := St -> Hp -> (List V -> Hp -> Prop) -> Prop
structure Ends where
 nx : St -> Hp -> Prop
 rt : VK
 bk : St -> Hp -> Prop := fun _ _ => False
 ct : St -> Hp -> Prop := fun _ _ => False
abbrev TS := Ends -> St -> Hp -> Prop
def EP (X : Cx) (pins : List (Addr × Obj)) (σ : St) (Q : VK) (u : Value) (s' : Shared) : Prop := ∃ v H', Inv X pins σ H' s' /\ RelV v u /\ Q v H'
def TP (X : Cx) (pins : List (Addr × Obj)) (σ : St) (Q : Bool -> Hp -> Prop) (b : Bool) (s' : Shared) : Prop := ∃ H', Inv X pins σ H' s' /\ Q b H'
def AP (X : Cx) (pins : List (Addr × Obj)) (σ : St) (Q : List V -> Hp -> Prop) (us : List Value) (s' : Shared) : Prop := ∃ vs H', Inv X pins σ H' s' /\ Vals vs us /\ Q vs H'
def SP (X : Cx) (pins : List (Addr × Obj)) (D : Ends) (f : Flow) (s' : Shared) : Prop :=
 match f with
 | .next => ∃ σ' H', Inv X pins σ' H' s' /\ D.nx σ' H'
 | .brk => ∃ σ' H', Inv X pins σ' H' s' /\ D.bk σ' H'
 | .cont => ∃ σ' H', Inv X pins σ' H' s' /\ D.ct σ' H'
 | .ret u => ∃ v σ' H', Inv X pins σ' H' s' /\ RelV v u /\ D.rt v H'
def PE (X : Cx) (e : Expr) (t : TE) : Prop :=
 ∀ (pins : List (Addr × Obj)) (s : Shared) (σ : St) (H : Hp) (Q : VK), Inv X pins σ H s -> t σ H Q -> wpAny (model X.prog X.w) X.A (eval e X.env) (EP X pins σ Q) X.xe s
def PT (X : Cx) (e : Expr) (t : TT) : Prop :=
 ∀ (pins : List (Addr × Obj)) (s : Shared) (σ : St) (H : Hp) (Q : Bool -> Hp -> Prop), Inv X pins σ H s -> t σ H Q -> wpAny (model X.prog X.w) X.A (isTrue e X.env (eval e X.env)) (TP X pins σ Q) X.xe s
def PW (X : Cx) (e : Expr) (t : TT) : Prop :=
 ∀ (whole : Sem Value) (pins : List (Addr × Obj)) (s : Shared) (σ : St) (H : Hp) (Q : Bool -> Hp -> Prop), Inv X pins σ H s -> t σ H Q -> wpAny (model X.prog X.w) X.A (isTrue e X.env whole) (TP X pins σ Q) X.xe s
theorem PW.pt {X : Cx} {e : Expr} {t : TT} (h : PW X e t) : PT X e t := h _
def PA (X : Cx) (es : List Expr) (t : TA) : Prop :=
 ∀ (pos : Pos) (pins : List (Addr × Obj)) (s : Shared) (σ : St) (H : Hp) (Q : List V -> Hp -> Prop), Inv X pins σ H s -> t σ H Q -> wpAny (model X.prog X.w) X.A (spliced (backTo pos (starEach es X.env))) (AP X pins σ Q) X.xe s
def PS (X : Cx) (st : Stmt) (t : TS) : Prop :=
 ∀ (pins : List (Addr × Obj)) (s : Shared) (σ : St) (H : Hp) (D : Ends), Inv X pins σ H s -> t D σ H -> wpAny (model X.prog X.w) X.A (exec st X.env) (SP X pins D) X.xe s
def PSs (X : Cx) (st : List Stmt) (t : TS) : Prop :=
 ∀ (pins : List (Addr × Obj)) (s : Shared) (σ : St) (H : Hp) (D : Ends), Inv X pins σ H s -> t D σ H -> wpAny (model X.prog X.w) X.A (execs st X.env) (SP X pins D) X.xe s
theorem thn {α : Type} {t : Sem α} {Q Q' : α -> Shared -> Prop} {M : Model} {A : Around} {E : Value -> Shared -> Prop} {s : Shared} (h : wpAny M A t Q E s) (hQ : ∀ a s, Q a s -> Q' a s) : wpAny M A t Q' E s := wpAny_mono h hQ fun _ _ x => x
section
variable {X : Cx}
def tVar (i : Nat) : TE := fun σ H Q => ∃ v, σ[i]? = some (some v) /\ Q v H
def tC (v : V) : TE := fun _ H Q => Q v H
theorem pe_var {i : Nat} {x : Str} {pos : Pos} (hN : X.N[i]? = some x) (hv : Vis X.env.scope x) (hd : (x == ("__debug__" : Str)) = false := by decide) (hcd : (x == ("__classdict__" : Str)) = false := by decide) : PE X (.Name x pos) (tVar i) := by
 intro pins s σ H Q I h
 obtain ⟨v, e, h⟩ := h
 obtain ⟨m, hn, hl⟩ := I.loc
 obtain ⟨u, r, l⟩ := hl i x v hN e hv
 have fin : EP X pins σ Q u s := ⟨v, H, I, r, h⟩
 rcases l with ⟨hk, hm⟩ | ⟨hk, c, hc, hcell⟩
 · exact wpAny_Name (wpAny_loadName_local I.ok.kind hk hn hm fin) hd
 · rcases hk with hk | hk
   · exact wpAny_Name (wpAny_loadName_cell I.ok.kind hk hc hcell fin) hd
   · exact wpAny_Name (wpAny_loadName_free I.ok.kind hk hc hcell fin hcd) hd
theorem zD {i j pos} : PE X (.Constant (.int i) j pos) (tC (.int i)) := fun _ _ _ H _ I h => wpAny_Constant_int ⟨.int i, H, I.tok _, ⟨_, rfl⟩, h⟩
theorem yP {b j pos} : PE X (.Constant (.bool b) j pos) (tC (.bl b)) := fun _ _ _ H _ I h => Constant_bool ⟨.bl b, H, I, rfl, h⟩
theorem pe_non {j pos} : PE X (.Constant .none j pos) (tC .non) := fun _ _ _ H _ I h => Constant_none ⟨.non, H, I, rfl, h⟩
theorem yD {x j pos} : PE X (.Constant (.str x) j pos) (tC (.str x)) := fun _ _ _ H _ I h => Calls.Constant_str ⟨.str x, H, I.tok _, ⟨_, rfl⟩, h⟩
def Gl (X : Cx) (x : Str) : Prop := X.env.kindOf x = some .globalImplicit
theorem xY {E : Value -> Shared -> Prop} {pins : List (Addr × Obj)} {s : Shared} {σ : St} {H : Hp} {x : Str} {u : Value} {pos : Pos} {Q : Value -> Shared -> Prop} (I : Inv X pins σ H s) (hg : Gl X x) (hm : X.mg x = some u) (h : Q u s)
   (hd : (x == ("__debug__" : Str)) = false := by decide) : wpAny (model X.prog X.w) X.A (eval (.Name x pos) X.env) Q E s :=
 Calls.Name_function_global I.ok.kind hg (Calls.loadGlobal_global (by rw [I.ok.glob]; exact I.mod.glob.keeps I.bk) hm h) hd
theorem qI {E : Value -> Shared -> Prop} {pins : List (Addr × Obj)} {s : Shared} {σ : St} {H : Hp} {x : Str} {u : Value} {pos : Pos} {Q : Value -> Shared -> Prop} (I : Inv X pins σ H s) (hg : Gl X x) (hm : X.mg x = none) (hv : bootBuiltins x = some u) (h : Q u s)
   (hn : x ≠ "__name__" := by decide) (hd : (x == ("__debug__" : Str)) = false := by decide) : wpAny (model X.prog X.w) X.A (eval (.Name x pos) X.env) Q E s := by
 obtain ⟨mb, h1, h2⟩ := I.mod.blt
 exact Calls.Name_function_global I.ok.kind hg (Calls.loadGlobal_builtin (by rw [I.ok.glob]; exact I.mod.glob.keeps I.bk) hm (by rw [I.ok.blt]; exact h1.keeps I.bk) ((h2 x hn).trans hv) h) hd
theorem pe_glob {x : Str} {v : V} {u : Value} {pos : Pos} (hg : Gl X x) (hm : X.mg x = some u) (r : RelV v u) (hd : (x == ("__debug__" : Str)) = false := by decide) : PE X (.Name x pos) (tC v) :=
 fun _ _ _ H _ I h => xY I hg hm ⟨v, H, I, r, h⟩ hd
theorem pe_bltn {x : Str} {v : V} {u : Value} {pos : Pos} (hg : Gl X x) (hm : X.mg x = none) (hv : bootBuiltins x = some u) (r : RelV v u) (hn : x ≠ "__name__" := by decide) (hd : (x == ("__debug__" : Str)) = false := by decide) : PE X (.Name x pos) (tC v) :=
 fun _ _ _ H _ I h => qI I hg hm hv ⟨v, H, I, r, h⟩ hn hd
variable {a b : Expr} {ta tb : TE} {pos : Pos}
def PC (X : Cx) (op : CmpOp) (a b : Expr) (t : TE) : Prop :=
 ∀ (pins : List (Addr × Obj)) (s : Shared) (σ : St) (H : Hp) (Q : VK), Inv X pins σ H s -> t σ H Q ->
   wpAny (model X.prog X.w) X.A (eval a X.env) (fun v s₁ => wpAny (model X.prog X.w) X.A (eval b X.env) (fun u s₂ => wpAny (model X.prog X.w) X.A (compareOp op v u) (EP X pins σ Q) X.xe s₂) X.xe s₁) X.xe s
theorem nobehind (b : Expr) {op : CmpOp} (h : op ≠ .In) (h2 : op ≠ .NotIn) : behindInMarks op b = false := by
 have e1 : (op == CmpOp.In) = false := by cases op <;> first | rfl | exact absurd rfl h
 have e2 : (op == CmpOp.NotIn) = false := by cases op <;> first | rfl | exact absurd rfl h2
 cases b <;> simp [behindInMarks, e1, e2]
def tB (t : TE) : TT := fun σ H Q => t σ H fun x H1 => ∃ c, x = .bl c /\ Q c H1
theorem pt_cmp {op : CmpOp} {t : TE} (h : PC X op a b t) (h1 : behindInMarks op b = false := by first | exact nobehind _ (by decide) (by decide) | rfl) : PT X (.Compare a [op] [b] pos) (tB t) := by
 intro pins s σ H Q I hw
 refine wpAny_isTrue_Compare1 (thn (h pins s σ H _ I hw) fun v s1 h1 => thn h1 fun u s2 h2 => thn h2 fun c s3 ⟨x, H1, I1, r1, q1⟩ => ?_) h1
 obtain ⟨d, rfl, q⟩ := q1
 cases r1
 exact wpAny_truthy_bool ⟨H1, I1, q⟩
theorem yW {e : Expr} {t : TE} (h : PE X e t) (he : ∀ whole, isTrue e X.env whole = (do let v ← whole; standAt e.pos; holding [v] (truthy v)) := by intro _; rfl) : PT X e (tB t) := by
 intro pins s σ H Q I hw
 refine isTrue_plain (thn (h pins s σ H _ I hw) fun v s1 ⟨x, H1, I1, r1, q1⟩ => ?_) (he _)
 obtain ⟨d, rfl, q⟩ := q1
 cases r1
 exact wpAny_truthy_bool ⟨H1, I1, q⟩
variable {tA tB' : TT} {rest : List Expr}
def tAnd (t u : TT) : TT := fun σ H Q => t σ H fun c H1 => if c = true then u σ H1 Q else Q false H1
def tOr (t u : TT) : TT := fun σ H Q => t σ H fun c H1 => if c = true then Q true H1 else u σ H1 Q
def tNot (t : TT) : TT := fun σ H Q => t σ H fun c H1 => Q (!c) H1
theorem pw_and1 (ha : PT X a tA) : PW X (.BoolOp .And [a] pos) tA := by
 intro wh pins s σ H Q I h
 refine isTrue_and (thn (ha pins s σ H Q I h) fun c s1 e => ?_)
 cases c with
 | true => exact isTrue_and_nil e
 | false => exact e
theorem jD (ha : PT X a tA) : PW X (.BoolOp .Or [a] pos) tA := by
 intro wh pins s σ H Q I h
 refine isTrue_or (thn (ha pins s σ H Q I h) fun c s1 e => ?_)
 cases c with
 | false => exact isTrue_or_nil e
 | true => exact e
theorem pw_and (ha : PT X a tA) (hb : PW X (.BoolOp .And (b :: rest) pos) tB') : PW X (.BoolOp .And (a :: b :: rest) pos) (tAnd tA tB') := by
 intro wh pins s σ H Q I h
 refine isTrue_and (thn (ha pins s σ H _ I h) fun c s1 ⟨H1, I1, q1⟩ => ?_)
 cases c with
 | true => exact hb wh pins s1 σ H1 Q I1 q1
 | false => exact ⟨H1, I1, q1⟩
theorem xW (ha : PT X a tA) (hb : PW X (.BoolOp .Or (b :: rest) pos) tB') : PW X (.BoolOp .Or (a :: b :: rest) pos) (tOr tA tB') := by
 intro wh pins s σ H Q I h
 refine isTrue_or (thn (ha pins s σ H _ I h) fun c s1 ⟨H1, I1, q1⟩ => ?_)
 cases c with
 | true => exact ⟨H1, I1, q1⟩
 | false => exact hb wh pins s1 σ H1 Q I1 q1
theorem yX (ha : PT X a tA) : PT X (.UnaryOp .Not a pos) (tNot tA) := by
 intro pins s σ H Q I h
 exact isTrue_not (ha pins s σ H (fun c H1 => Q (!c) H1) I h)
def tAndV (ta tb : TE) : TE := fun σ H Q => ta σ H fun x H1 => ∃ c, x = .bl c /\ if c = true then tb σ H1 Q else Q (.bl false) H1
def tOrV (ta tb : TE) : TE := fun σ H Q => ta σ H fun x H1 => ∃ c, x = .bl c /\ if c = true then Q (.bl true) H1 else tb σ H1 Q
def tNotV (ta : TE) : TE := fun σ H Q => ta σ H fun x H1 => ∃ c, x = .bl c /\ Q (.bl (!c)) H1
theorem qF {op} {t : TE} (h : PE X a t) : PE X (.BoolOp op [a] pos) t := fun pins s σ H Q I hw => BoolOp_one (h pins s σ H Q I hw)
theorem jH (ha : PE X a ta) (hb : PE X (.BoolOp .And (b :: rest) pos) tb) : PE X (.BoolOp .And (a :: b :: rest) pos) (tAndV ta tb) := by
 intro pins s σ H Q I h
 refine BoolOp_and (thn (ha pins s σ H _ I h) fun v s1 ⟨x, H1, I1, r1, q1⟩ => ?_)
 obtain ⟨c, rfl, q1⟩ := q1
 cases r1
 refine wpAny_truthy_bool ?_
 cases c with
 | true => exact hb pins s1 σ H1 Q I1 q1
 | false => exact ⟨.bl false, H1, I1, rfl, q1⟩
theorem pe_not (ha : PE X a ta) : PE X (.UnaryOp .Not a pos) (tNotV ta) := by
 intro pins s σ H Q I h
 refine UnaryOp_ (thn (ha pins s σ H _ I h) fun v s1 ⟨x, H1, I1, r1, q1⟩ => ?_)
 obtain ⟨c, rfl, q1⟩ := q1
 cases r1
 exact not_of (wpAny_truthy_bool ⟨.bl (!c), H1, I1, rfl, q1⟩)
def tIf (t : TT) (ta tb : TE) : TE := fun σ H Q => t σ H fun c H1 => if c = true then ta σ H1 Q else tb σ H1 Q
end
def SqL (K : PySem.W.Frag) (H : Hp) (a : Addr) (xs : List V) : Prop :=
 Rd H a (.lst xs) \/
   ∃ (o : Obj) (its : Array Value) (n : Nat), K.lookup a = some o /\ o.cls = .type "list" /\ o.dict = none /\ o.data = .seq its n /\ its.size <= sizeLine /\ Vals xs its.toList
def SqT (K : PySem.W.Frag) (H : Hp) (a : Addr) (xs : List V) : Prop :=
 Rd H a (.tup xs) \/
   ∃ (o : Obj) (its : Array Value) (n : Nat), K.lookup a = some o /\ o.cls = .type "tuple" /\ o.data = .seq its n /\ its.size <= sizeLine /\ Vals xs its.toList
def absV : Value -> Option V
 | .none => some .non
 | .bool b => some (.bl b)
 | .int i _ => some (.int i)
 | .str x _ => some (.str x)
 | .bytes b _ => some (.byt b)
 | .float b _ => some (.flt b)
 | .ref a => some (.ref a)
 | .type n => some (.ty n)
 | _ => none
theorem RelV.abs {x : V} {u : Value} (r : RelV x u) : absV u = some x := by
 cases x with
 | non => cases r; rfl
 | bl _ => cases r; rfl
 | int _ => obtain ⟨t, rfl⟩ := r; rfl
 | str _ => obtain ⟨t, rfl⟩ := r; rfl
 | byt _ => obtain ⟨t, rfl⟩ := r; rfl
 | flt _ => obtain ⟨t, rfl⟩ := r; rfl
 | ref _ => cases r; rfl
 | ty _ => cases r; rfl
theorem RelV.inj {x y : V} {u : Value} (r : RelV x u) (q : RelV y u) : x = y := Option.some.inj (r.abs.symm.trans q.abs)
theorem Vals.inj : ∀ {xs ys : List V} {us : List Value}, Vals xs us -> Vals ys us -> xs = ys
 | _, _, _, .nil, .nil => rfl
 | _, _, _, .cons r t, .cons r' t' => by rw [r.inj r', Vals.inj t t']
section
variable {X : Cx} {pins : List (Addr × Obj)} {σ : St} {H : Hp} {s : Shared} {a : Addr} {xs ys : List V}
theorem SqL.of {K : PySem.W.Frag} (h : H a = some (.lst xs)) : SqL K H a xs := .inl (.inl h)
theorem SqT.of {K : PySem.W.Frag} (h : H a = some (.tup xs)) : SqT K H a xs := .inl (.inl h)
theorem Inv.list (I : Inv X pins σ H s) (h : SqL X.K H a xs) : ∃ its : List Value, Vals xs its /\ PlainL s.heap a its.toArray /\ xs.length <= sizeLine := by
 rcases h with h | ⟨o, its, n, hk, hc, hd, hs, hz, r⟩
 · obtain ⟨z, its, n, r, e⟩ := h.ok I.hok
   exact ⟨its, r, ⟨_, n, e, rfl, rfl, rfl⟩, z⟩
 · refine ⟨its.toList, r, ⟨o, n, I.kIn a o hk, hc, hd, by simpa using hs⟩, ?_⟩
   have e := r.length
   simp only [Array.length_toList] at e
   omega
theorem Inv.tuple (I : Inv X pins σ H s) (h : SqT X.K H a xs) : ∃ its : List Value, Vals xs its /\ IsTup s.heap a its.toArray /\ xs.length <= sizeLine := by
 rcases h with h | ⟨o, its, n, hk, hc, hs, hz, r⟩
 · obtain ⟨z, its, r, p⟩ := h.ok I.hok
   exact ⟨its, r, p, z⟩
 · refine ⟨its.toList, r, ⟨o, I.kIn a o hk, hc, n, by simpa using hs⟩, ?_⟩
   have e := r.length
   simp only [Array.length_toList] at e
   omega
theorem Inv.list_inj (I : Inv X pins σ H s) (h : SqL X.K H a xs) (h' : SqL X.K H a ys) : xs = ys := by
 obtain ⟨its, r, ⟨o, n, e, _, _, d⟩, _⟩ := I.list h
 obtain ⟨its', r', ⟨o', n', e', _, _, d'⟩, _⟩ := I.list h'
 rw [e] at e'; cases e'
 rw [d] at d'
 injection d' with d1 _
 have : its = its' := by simpa using congrArg Array.toList d1
 subst this
 exact r.inj r'
end
abbrev Cx.wish (X : Cx) (E : Value -> Shared -> Prop) : Cx := { X with xe := E }
abbrev Cx.nox (X : Cx) : Cx := X.wish fun _ _ => False
theorem Cx.Ok.wish {X : Cx} (ok : X.Ok) (E : Value -> Shared -> Prop) : (X.wish E).Ok :=
 ⟨ok.mod, ok.kind, ok.glob, ok.blt, ok.above, ok.inj, ok.has, ok.cab, ok.hd, ok.frames, ok.stk, ok.exf, ok.bs, ok.bsz, ok.noex, ok.exfs, ok.funs, ok.frf⟩
theorem Cx.Ok.unwish {X : Cx} {E : Value -> Shared -> Prop} (ok : (X.wish E).Ok) : X.Ok :=
 ⟨ok.mod, ok.kind, ok.glob, ok.blt, ok.above, ok.inj, ok.has, ok.cab, ok.hd, ok.frames, ok.stk, ok.exf, ok.bs, ok.bsz, ok.noex, ok.exfs, ok.funs, ok.frf⟩
section
variable {X : Cx} {pins : List (Addr × Obj)} {σ : St} {H : Hp} {s : Shared} {E : Value -> Shared -> Prop}
theorem Inv.wish (I : Inv X pins σ H s) (E : Value -> Shared -> Prop) : Inv (X.wish E) pins σ H s := ⟨I.ok.wish E, I.os, I.bare, I.base, I.loc, I.cell, I.free, I.freeC, I.pin, I.hok, I.len⟩
theorem Inv.unwish (I : Inv (X.wish E) pins σ H s) : Inv X pins σ H s := ⟨I.ok.unwish, I.os, I.bare, I.base, I.loc, I.cell, I.free, I.freeC, I.pin, I.hok, I.len⟩
theorem SP.unwish {D : Ends} {f : Flow} {s' : Shared} (h : SP (X.wish E) pins D f s') : SP X pins D f s' := by
 cases f with
 | next => obtain ⟨σ', H', I, q⟩ := h; exact ⟨σ', H', I.unwish, q⟩
 | brk => obtain ⟨σ', H', I, q⟩ := h; exact ⟨σ', H', I.unwish, q⟩
 | cont => obtain ⟨σ', H', I, q⟩ := h; exact ⟨σ', H', I.unwish, q⟩
 | ret u => obtain ⟨v, σ', H', I, r, q⟩ := h; exact ⟨v, σ', H', I.unwish, r, q⟩
theorem PSs.nox {st : List Stmt} {t : TS} (h : PSs X.nox st t) : PSs X st t := fun pins s σ H D I hw =>
 wpAny_mono (h pins s σ H D (I.wish _) hw) (fun _ _ q => q.unwish) fun _ _ z => False.elim z
end
section
variable {X : Cx} {st : Stmt} {rest : List Stmt} {t u : TS} {e : Expr} {te : TE} {pos : Pos}
def tNext : TS := fun D σ H => D.nx σ H
def tSeq (t u : TS) : TS := fun D σ H => t { D with nx := u D } σ H
theorem pss_nil : PSs X [] tNext := fun _ _ σ H _ I h => wpAny_execs_nil ⟨σ, H, I, h⟩
theorem zB (h1 : PS X st t) (h2 : PSs X rest u) : PSs X (st :: rest) (tSeq t u) := by
 intro pins s σ H D I h
 refine wpAny_execs_cons (thn (h1 pins s σ H { D with nx := u D } I h) fun f s1 q => ?_)
 cases f with
 | next =>
   obtain ⟨σ', H', I', q⟩ := q
   exact h2 pins s1 σ' H' D I' q
 | ret v => exact q
 | brk => exact q
 | cont => exact q
theorem zI (h1 : PS X st t) : PSs X [st] t := by
 intro pins s σ H D I h
 refine wpAny_execs_cons (thn (h1 pins s σ H D I h) fun f s1 q => ?_)
 cases f with
 | next => exact wpAny_execs_nil q
 | ret v => exact q
 | brk => exact q
 | cont => exact q
theorem Inv.quiet {pins : List (Addr × Obj)} {σ : St} {H : Hp} {s : Shared} (I : Inv X pins σ H s) : interactive X.env = false := by simp [interactive, I.ok.kind]
def tDrop (te : TE) : TS := fun D σ H => te σ H fun _ H1 => D.nx σ H1
theorem yQ (he : PE X e te) (hs : swapsWith e none pos.line X.env = pure false := by rfl) : PS X (.Expr e pos) (tDrop te) := by
 intro pins s σ H D I h
 exact wpAny_Expr_any (thn (he pins s σ H _ I h) fun v s1 ⟨x, H1, I1, r1, q1⟩ => ⟨σ, H1, I1, q1⟩) I.quiet hs
def tRet (te : TE) : TS := fun D σ H => te σ H D.rt
theorem zM (he : PE X e te) : PS X (.Return (some e) pos) (tRet te) := by
 intro pins s σ H D I h
 exact wpAny_Return_some (thn (he pins s σ H _ I h) fun v s1 ⟨x, H1, I1, r1, q1⟩ => ⟨x, σ, H1, I1, r1, q1⟩)
def tRetN : TS := fun D _ H => D.rt .non H
def tIfS (c : TT) (t u : TS) : TS := fun D σ H => c σ H fun b H1 => if b = true then t D σ H1 else u D σ H1
theorem yA {c : Expr} {a b : List Stmt} {tc : TT} (hc : PT X c tc) (ha : PSs X a t) (hb : PSs X b u) : PS X (.If c a b pos) (tIfS tc t u) := by
 intro pins s σ H D I h
 refine wpAny_If (thn (hc pins s σ H _ I h) fun d s1 ⟨H1, I1, q1⟩ => ?_)
 cases d with
 | true => exact ha pins s1 σ H1 D I1 q1
 | false => exact hb pins s1 σ H1 D I1 q1
end
abbrev TG := V -> St -> Hp -> (St -> Hp -> Prop) -> Prop
abbrev TGs := List V -> St -> Hp -> (St -> Hp -> Prop) -> Prop
def PG (X : Cx) (target : Expr) (t : TG) : Prop :=
 ∀ (pins : List (Addr × Obj)) (s : Shared) (σ : St) (H : Hp) (v : V) (u : Value) (Q : St -> Hp -> Prop), Inv X pins σ H s -> RelV v u -> t v σ H Q ->
   wpAny (model X.prog X.w) X.A (assign target X.env u) (fun _ s' => ∃ σ' H', Inv X pins σ' H' s' /\ Q σ' H') X.xe s
def PGs (X : Cx) (ts : List Expr) (t : TGs) : Prop :=
 ∀ (pins : List (Addr × Obj)) (s : Shared) (σ : St) (H : Hp) (vs : List V) (us : List Value) (Q : St -> Hp -> Prop), Inv X pins σ H s -> Vals vs us -> t vs σ H Q ->
   wpAny (model X.prog X.w) X.A (assignInOrder ((assignEach ts X.env).map (·.2)) us) (fun _ s' => ∃ σ' H', Inv X pins σ' H' s' /\ Q σ' H') X.xe s
abbrev TSet := V -> V -> V -> Hp -> (Hp -> Prop) -> Prop
def PSet (X : Cx) (t : TSet) : Prop :=
 ∀ (pins : List (Addr × Obj)) (s : Shared) (σ : St) (H : Hp) (o i v : V) (ov iv u : Value) (Q : Hp -> Prop), Inv X pins σ H s -> RelV o ov -> RelV i iv -> RelV v u -> t o i v H Q ->
   wpAny (model X.prog X.w) X.A (setItem ov iv u) (fun _ s' => ∃ H', Inv X pins σ H' s' /\ Q H') X.xe s
section
variable {X : Cx} {pos : Pos}
def gName (i : Nat) : TG := fun v σ H Q => Q (σ.set i (some v)) H
theorem zX {i : Nat} {x : Str} (hN : X.N.Nodup) (hi : X.N[i]? = some x) (hx : Loc X.env.scope x) (hf : X.fn x = true \/ X.env.scope.names.lookup x = some .local := by first | exact .inl rfl | exact .inr rfl | assumption) : PG X (.Name x pos) (gName i) := by
 intro pins s σ H v u Q I r h
 exact wpAny_assign_Name (xU I hN hi hx r (fun s' I' => ⟨_, H, I', h⟩) hf)
def gNil : TGs := fun vs σ H Q => vs = [] /\ Q σ H
def uC (t : TG) (u : TGs) : TGs := fun vs σ H Q => ∃ v r, vs = v :: r /\ t v σ H fun σ' H' => u r σ' H' Q
theorem pgs_nil : PGs X [] gNil := by
 intro pins s σ H vs us Q I r h
 obtain ⟨e, h⟩ := h
 subst e
 cases r
 exact assignInOrder_nil ⟨σ, H, I, h⟩
theorem yI {e : Expr} {es : List Expr} {t : TG} {u : TGs} (h1 : PG X e t) (h2 : PGs X es u)
   (hs : (assignEach (e :: es) X.env).map (·.2) = assign e X.env :: (assignEach es X.env).map (·.2) := by rfl) : PGs X (e :: es) (uC t u) := by
 intro pins s σ H vs us Q I r h
 obtain ⟨v, vr, e1, h⟩ := h
 subst e1
 cases r with
 | cons r rr =>
   rw [hs]
   refine assignInOrder_cons (thn (h1 pins s σ H _ _ _ I r h) fun _ s1 ⟨σ1, H1, I1, q1⟩ => ?_)
   exact h2 pins s1 σ1 H1 _ _ Q I1 rr q1
def gTup (K : PySem.W.Frag) (n : Nat) (t : TGs) : TG := fun v σ H Q => ∃ a xs, v = .ref a /\ SqT K H a xs /\ xs.length = n /\ t xs σ H Q
theorem qE {es : List Expr} {k : Nat} {t : TGs} {n : Nat} (hc : X.calm = true) (h : PGs X es t)
   (hn : (assignEach es X.env).length = n := by rfl) (hst : (assignEach es X.env).findIdx? (·.1) = none := by rfl) : PG X (.Tuple es k pos) (gTup X.K n t) := by
 intro pins s σ H v u Q I r hw
 obtain ⟨a, xs, e1, hq, hl, hw⟩ := hw
 subst e1
 cases r
 obtain ⟨its, rv, ht, hz⟩ := I.tuple hq
 refine assign_Tuple_tuple (I.ok.hd hc) ht (by simp [hn, ← hl, rv.length]) hst fun h' hx => ?_
 have I1 : Inv X pins σ H { s with heap := h' } := I.kept (t' := s.toks) fun b o e => hx b o (Nat.ne_of_lt (Heap.lt_size e)) e
 exact h pins _ σ H xs _ Q I1 (by simpa using rv) hw
def gSub (to ti : TE) (t : TSet) : TG := fun v σ H Q => to σ H fun o H1 => ti σ H1 fun i H2 => t o i v H2 fun H3 => Q σ H3
theorem pg_sub {o i : Expr} {to ti : TE} {t : TSet} (ho : PE X o to) (hi : PE X i ti) (hs : PSet X t)
   (ha : ∀ v, assign (.Subscript o i pos) X.env v = (do
     let ov ← holding [v] (eval o X.env)
     let iv ← holding [v, ov] (eval i X.env)
     standAt pos
     holding [v, ov, iv] (setItem ov iv v)
     release [v, ov, iv] []) := by intro _; rfl) : PG X (.Subscript o i pos) (gSub to ti t) := by
 intro pins s σ H v u Q I r h
 rw [ha]
 refine wpAny_bind (wpAny_holding (thn (ho pins s σ H _ I h) fun ov s1 ⟨x, H1, I1, r1, q1⟩ => ?_))
 refine wpAny_bind (wpAny_holding (thn (hi pins s1 σ H1 _ I1 q1) fun iv s2 ⟨y, H2, I2, r2, q2⟩ => ?_))
 refine wpAny_bind (wpAny_standAt (wpAny_bind (wpAny_holding (thn (hs pins s2 σ H2 x y v ov iv u _ I2 r1 r2 r q2) fun _ s3 ⟨H3, I3, q3⟩ => ?_))))
 exact wpAny_release ⟨σ, H3, I3, q3⟩
def tAsg (te : TE) (g : TG) : TS := fun D σ H => te σ H fun x H1 => g x σ H1 D.nx
theorem qD {tg e : Expr} {te : TE} {g : TG} (he : PE X e te) (hg : PG X tg g) (hs : swapsWithSole [tg] e pos.line X.env = pure false := by rfl) (hw : swappedStores [tg] e X.env = pure none := by rfl)
   (h1 : (assignEach [tg] X.env).map (·.2) = [assign tg X.env] := by rfl) : PS X (.Assign [tg] e pos) (tAsg te g) := by
 intro pins s σ H D I h
 refine wpAny_Assign_stores (thn (he pins s σ H _ I h) fun v s1 ⟨x, H1, I1, r1, q1⟩ => ?_) hs hw
 rw [h1]
 exact thn (hg pins s1 σ H1 x v _ I1 r1 q1) fun _ s2 q => q
theorem zL {i : Nat} {x : Str} {e : Expr} {te : TE} {pos' : Pos} (hN : X.N.Nodup) (hi : X.N[i]? = some x) (hx : Loc X.env.scope x) (he : PE X e te) (hs : swapsWith e (some (.Name x pos')) pos.line X.env = pure false := by rfl) (hf : X.fn x = true \/ X.env.scope.names.lookup x = some .local := by first | exact .inl rfl | exact .inr rfl | assumption) :
   PS X (.Assign [.Name x pos'] e pos) (tAsg te (gName i)) := by
 intro pins s σ H D I h
 refine wpAny_Assign_Name (thn (he pins s σ H _ I h) fun v s1 ⟨y, H1, I1, r1, q1⟩ => ?_) hs
 exact xU I1 hN hi hx r1 (fun s2 I2 => ⟨_, H1, I2, q1⟩) hf
end
section
variable {X : Cx} {pos : Pos}
end
structure It where
 go : Nat -> Hp -> Prop
 yld : Nat -> Hp -> V -> Hp -> Prop
 stop : Nat -> Hp -> Prop
def jU (X : Cx) (pins : List (Addr × Obj)) (H : Hp) (b : Addr) : Prop :=
 H b = none /\ b ≠ X.env.locals /\ b ∉ X.fs /\ (b ∈ X.ex \/ X.s₀.heap.objs.size <= b) /\ (∀ x c, X.env.cells.lookup x = some c -> c ≠ b) /\ ∀ p ∈ X.pn ++ pins, p.1 ≠ b
theorem Inv.fpOk {X : Cx} {pins : List (Addr × Obj)} {σ : St} {H H' : Hp} {s : Shared} {b : Addr} (I : Inv X pins σ H s) (hb : s.heap.objs.size <= b) (hn : H' b = none) : jU X pins H' b := by
 refine ⟨hn, Nat.ne_of_gt (Nat.lt_of_lt_of_le I.lt hb), I.nofs hb, .inr (Nat.le_trans I.sz hb), fun x c e z => ?_, fun p hp z => ?_⟩
 · obtain ⟨v, q⟩ := I.cell x c e
   exact absurd (Nat.lt_of_lt_of_le q.lt (by rw [z]; exact hb)) (Nat.lt_irrefl _)
 · exact absurd (Nat.lt_of_lt_of_le (Heap.lt_size (I.pin p hp).1) (by rw [z]; exact hb)) (Nat.lt_irrefl _)
structure Turn (P : Program) (w : World) (K : PySem.W.Frag) (tg : Expr) (J : It) (fp : List Addr) (it : Addr) (tn : Nat -> Heap -> Prop) : Prop where
 mem : it ∈ fp
 obj : ∀ i h, tn i h -> ∀ b ∈ fp, ∃ o, h.get? b = some o /\ ∀ v, o.data ≠ .cell v
 keep : ∀ i h h', tn i h -> (∀ b ∈ fp, ∀ o, h.get? b = some o -> h'.get? b = some o) -> tn i h'
 item : ∀ (X : Cx), X.prog = P -> X.w = w -> X.K = K -> X.calm = true -> ∀ (i : Nat) (pins : List (Addr × Obj)) (s : Shared) (σ : St) (H : Hp) (E : Value -> Shared -> Prop), Inv X pins σ H s -> (∀ b ∈ fp, jU X pins H b) -> tn i s.heap -> J.go i H ->
   wpAny (model P w) X.A (pyNext (.ref it)) (fun r s1 => ∃ u, r = some u /\
     wpAny (model P w) X.A (letOwnedTupleGo tg (.ref it) u) (fun _ s2 => ∃ x H', Inv X pins σ H' s2 /\ RelV x u /\ J.yld i H x H' /\ tn (i + 1) s2.heap /\ ∀ b ∈ fp, H' b = none) E s1) E s
 done : ∀ (X : Cx), X.prog = P -> X.w = w -> X.K = K -> X.calm = true -> ∀ (i : Nat) (pins : List (Addr × Obj)) (s : Shared) (σ : St) (H : Hp) (E : Value -> Shared -> Prop), Inv X pins σ H s -> (∀ b ∈ fp, jU X pins H b) -> tn i s.heap -> J.stop i H ->
   wpAny (model P w) X.A (pyNext (.ref it)) (fun r s1 => r = none /\ Inv X pins σ H s1) E s
 self : ∀ (A : Around) (i : Nat) (s : Shared) (Q : Value -> Shared -> Prop) (E : Value -> Shared -> Prop), tn i s.heap -> Q (.ref it) s -> wpAny (model P w) A (pyIter (.ref it)) Q E s
abbrev TI := St -> Hp -> (It -> Hp -> Prop) -> Prop
def PIE (X : Cx) (pins : List (Addr × Obj)) (σ : St) (tg : Expr) (R : It -> Hp -> Prop) (itv : Value) (s2 : Shared) : Prop :=
 ∃ (it : Addr) (fp : List Addr) (tn : Nat -> Heap -> Prop) (J : It) (H' : Hp), itv = .ref it /\ Inv X pins σ H' s2 /\ Turn X.prog X.w X.K tg J fp it tn /\ tn 0 s2.heap /\ (∀ b ∈ fp, jU X pins H' b) /\ R J H'
def PI (X : Cx) (tg iter : Expr) (wi : TI) : Prop :=
 ∀ (pins : List (Addr × Obj)) (s : Shared) (σ : St) (H : Hp) (R : It -> Hp -> Prop), Inv X pins σ H s -> wi σ H R ->
   wpAny (model X.prog X.w) X.A (eval iter X.env) (fun v s1 => wpAny (model X.prog X.w) X.A (pyIter v) (PIE X pins σ tg R) X.xe s1) X.xe s
theorem go_of {M : Model} {A : Around} {E : Value -> Shared -> Prop} {s : Shared} {tg : Expr} {it : Addr} {u : Value} {o : Obj} {n : String} {vs : Array Value} {Q : Unit -> Shared -> Prop} (ho : s.heap.get? it = some o) (hc : o.cls = .type n) (hd : o.data = .fields vs)
   (hn : ["enumerate", "zip", "dict_itemiterator", "dict_reverseitemiterator", "odict_iterator", "itertools.zip_longest", "itertools.pairwise"].contains n = false) (hQ : Q () s) : wpAny M A (letOwnedTupleGo tg (.ref it) u) Q E s := by
 unfold letOwnedTupleGo
 cases tg <;> first
   | exact wpAny_pure hQ
   | (cases u <;> first
       | exact wpAny_pure hQ
       | (refine wpAny_bind (wpAny_load ho ?_)
          rw [hc, hd]
          show wpAny M A (if (["enumerate", "zip", "dict_itemiterator", "dict_reverseitemiterator", "odict_iterator", "itertools.zip_longest", "itertools.pairwise"].contains n && vs[0]? == some (rawInt _)) = true then _ else _) Q E s
          rw [if_neg (by intro h; rw [hn, Bool.false_and] at h; cases h)]
          exact wpAny_pure hQ))
def Itl (K : PySem.W.Frag) (a : Addr) : It :=
 ⟨fun i H => ∃ xs x, SqL K H a xs /\ xs[i]? = some x, fun i H x H' => H' = H /\ ∀ xs, SqL K H a xs -> xs[i]? = some x, fun i H => ∃ xs, SqL K H a xs /\ xs.length <= i⟩
def Itt (K : PySem.W.Frag) (a : Addr) : It :=
 ⟨fun i H => ∃ xs x, SqT K H a xs /\ xs[i]? = some x, fun i H x H' => H' = H /\ ∀ xs, SqT K H a xs -> xs[i]? = some x, fun i H => ∃ xs, SqT K H a xs /\ xs.length <= i⟩
def Itr (lo : Int) (n : Nat) : It := ⟨fun i _ => i < n, fun i H x H' => H' = H /\ x = .int (lo + i), fun i _ => n <= i⟩
theorem turn_list {P : Program} {w : World} {K : PySem.W.Frag} {tg : Expr} (a it : Addr) : Turn P w K tg (Itl K a) [it] it (fun i h => h.IsListIter it a i) where
 mem := by simp
 obj := fun i h st b hb => by
   have e : b = it := by simpa using hb
   subst e
   obtain ⟨o, e, c, d⟩ := st
   exact ⟨o, e, fun v z => by rw [d] at z; cases z⟩
 keep := fun i h h' st k => st.at fun o e => k it (by simp) o e
 item := by
   intro X hP hw hK hc i pins s σ H E I hf st hg
   subst hP hw hK
   obtain ⟨xs, x, hq, hx⟩ := hg
   obtain ⟨its, rv, p, hz⟩ := I.list hq
   obtain ⟨u, hu, ru⟩ := rv.get hx
   obtain ⟨f0, f1, f2, f3, f4, f5⟩ := hf it (by simp)
   refine wpAny_pyNext_list_item st p.isList (x := u) (by simpa using hu) fun h' st' sb => ?_
   have I1 : Inv X pins σ H { s with heap := h' } := I.turned (t' := s.toks) (fun b o hb e => (sb.2 b hb).trans e) f0 f1 f3 f4 f5
   obtain ⟨o, e, c, d⟩ := id st'
   exact ⟨u, rfl, go_of (s := { s with heap := h' }) e c d (by decide) ⟨x, H, I1, ru, ⟨rfl, fun ys hy => by rw [I.list_inj hy hq]; exact hx⟩, st', fun b hb => (hf b hb).1⟩⟩
 done := by
   intro X hP hw hK hc i pins s σ H E I hf st hg
   subst hP hw hK
   obtain ⟨xs, hq, hx⟩ := hg
   obtain ⟨its, rv, p, hz⟩ := I.list hq
   obtain ⟨f0, f1, f2, f3, f4, f5⟩ := hf it (by simp)
   have hl := rv.length
   exact wpAny_pyNext_list_end (I.ok.hd hc) st p.isList (by simp; omega) fun h' eb => ⟨rfl, I.turned (t' := s.toks) (fun b o hb e => eb b o hb e) f0 f1 f3 f4 f5⟩
 self := fun _ _ _ _ _ st h => wpAny_pyIter_listiter st h
theorem turn_range {P : Program} {w : World} {K : PySem.W.Frag} {tg : Expr} (it : Addr) (lo : Int) (n : Nat) : Turn P w K tg (Itr lo n) [it] it (fun i h => IsRangeIter h it (lo + (i : Nat) * 1) ((n : Int) - (i : Nat)) 1) where
 mem := by simp
 obj := fun i h st b hb => by
   have e : b = it := by simpa using hb
   subst e
   exact ⟨_, st, fun v z => by
     have z' : Data.fields _ = Data.cell v := z
     cases z'⟩
 keep := fun i h h' st k => k it (by simp) _ st
 item := by
   intro X hP hw hK hc i pins s σ H E I hf st hg
   subst hP hw hK
   obtain ⟨f0, f1, f2, f3, f4, f5⟩ := hf it (by simp)
   have W := Walks.range (prog := X.prog) (w := X.w) (I.ok.hd hc) it lo 1 n
   refine W.item i s _ _ hg st fun v h' tk hv st' kk => ?_
   obtain ⟨t, rfl⟩ := hv
   have I1 : Inv X pins σ H { s with heap := h', toks := tk } := I.turned (fun b o hb e => kk b o (by simpa using hb) e) f0 f1 f3 f4 f5
   refine ⟨_, rfl, go_of (s := { s with heap := h', toks := tk }) (n := "range_iterator") st' rfl rfl (by decide) ⟨.int (lo + i), H, I1, ⟨t, ?_⟩, ⟨rfl, rfl⟩, st', fun b hb => (hf b hb).1⟩⟩
   rw [Int.mul_one]
 done := by
   intro X hP hw hK hc i pins s σ H E I hf st hg
   subst hP hw hK
   obtain ⟨f0, f1, f2, f3, f4, f5⟩ := hf it (by simp)
   exact wpAny_pyNext_range_end (I.ok.hd hc) st (by have : n <= i := hg; omega) fun h' eb => ⟨rfl, I.turned (t' := s.toks) (fun b o hb e => eb b o hb e) f0 f1 f3 f4 f5⟩
 self := fun _ _ _ _ _ st h => wpAny_pyIter_rangeiter st h
section
variable {X : Cx} {tg : Expr}
def iList (K : PySem.W.Frag) (tl : TE) : TI := fun σ H R => tl σ H fun x H1 => ∃ a, x = .ref a /\ (∃ xs, SqL K H1 a xs) /\ R (Itl K a) H1
def iTup (K : PySem.W.Frag) (tl : TE) : TI := fun σ H R => tl σ H fun x H1 => ∃ a, x = .ref a /\ (∃ xs, SqT K H1 a xs) /\ R (Itt K a) H1
theorem uL {l : Expr} {tl : TE} (hl : PE X l tl) : PI X tg l (iList X.K tl) := by
 intro pins s σ H R I h
 refine thn (hl pins s σ H _ I h) fun v s1 ⟨x, H1, I1, r1, q1⟩ => ?_
 obtain ⟨a, e, ⟨xs, hq⟩, q⟩ := q1
 subst e
 cases r1
 obtain ⟨its, rv, p, hz⟩ := I1.list hq
 refine wpAny_pyIter_list p.isList ?_
 refine ⟨s1.heap.objs.size, [s1.heap.objs.size], _, _, H1, rfl, I1.kept (t' := s1.toks) fun b o e => Heap.get?_push_of_some _ e, turn_list a _, ⟨_, Heap.get?_push_size _ rfl, rfl, rfl⟩, fun b hb => ?_, q⟩
 have e : b = s1.heap.objs.size := by simpa using hb
 subst e
 exact I1.fpOk (Nat.le_refl _) (I1.hok.fresh (Nat.le_refl _))
theorem range_it {pins : List (Addr × Obj)} {σ : St} {H : Hp} {s : Shared} {R : It -> Hp -> Prop} {E : Value -> Shared -> Prop} {lo hi : Int} {t u v : Tok} {tk : Nat} (I : Inv X pins σ H s) (h1 : -(2 ^ 62) <= lo) (h2 : lo < 2 ^ 62) (h3 : -(2 ^ 62) <= hi) (h4 : hi < 2 ^ 62)
   (q : R (Itr lo (hi - lo).toNat) H) : wpAny (model X.prog X.w) X.A (pyIter (.ref s.heap.objs.size)) (PIE X pins σ tg R) E { s with heap := s.heap.push { cls := .type "range", data := .fields #[.int lo t, .int hi u, .int 1 v] }, toks := tk } := by
 refine wpAny_pyIter_range (IsRange.new ..) (small_one h1 h2 h3 h4) ?_
 have I1 : Inv X pins σ H { s with heap := s.heap.push { cls := .type "range", data := .fields #[.int lo t, .int hi u, .int 1 v] }, toks := tk } := I.kept fun b o e => Heap.get?_push_of_some _ e
 refine ⟨(s.heap.push { cls := .type "range", data := .fields #[.int lo t, .int hi u, .int 1 v] }).objs.size, [(s.heap.push { cls := .type "range", data := .fields #[.int lo t, .int hi u, .int 1 v] }).objs.size], _, _, H, rfl,
   I1.kept (t' := tk) fun b o e => Heap.get?_push_of_some _ e, turn_range _ lo (hi - lo).toNat, ?_, fun b hb => ?_, q⟩
 · have e1 : lo + ((0 : Nat) : Int) * 1 = lo := by simp
   have e2 : (((hi - lo).toNat : Nat) : Int) - ((0 : Nat) : Int) = Builtin.Range.rangeSize lo hi 1 := by rw [rangeSize_one]; split <;> omega
   show IsRangeIter _ _ (lo + ((0 : Nat) : Int) * 1) ((((hi - lo).toNat : Nat) : Int) - ((0 : Nat) : Int)) 1
   rw [e1, e2]
   exact Heap.get?_push_size _ rfl
 · have e : b = (s.heap.push { cls := .type "range", data := .fields #[.int lo t, .int hi u, .int 1 v] }).objs.size := by simpa using hb
   subst e
   exact I1.fpOk (Nat.le_refl _) (I1.hok.fresh (Nat.le_refl _))
def iRng1 (ta : TA) : TI := fun σ H R => ta σ H fun vs H1 => ∃ j : Int, vs = [.int j] /\ -(2 ^ 62) <= j /\ j < 2 ^ 62 /\ R (Itr 0 j.toNat) H1
def iRng2 (ta : TA) : TI := fun σ H R => ta σ H fun vs H1 => ∃ i j : Int, vs = [.int i, .int j] /\ (-(2 ^ 62) <= i /\ i < 2 ^ 62 /\ -(2 ^ 62) <= j /\ j < 2 ^ 62) /\ R (Itr i (j - i).toNat) H1
theorem yS {a : Expr} {ta : TA} {p pos : Pos} (hg : Gl X "range") (hm : X.mg "range" = none) (ha : PA X [a] ta) (hs : starEach [a] X.env = [(false, eval a X.env)] := by rfl) : PI X tg (.Call (.Name "range" p) [a] [] pos) (iRng1 ta) := by
 intro pins s σ H R I h
 refine Call_ (qI I hg hm boot_range (PyProof.Rows.callWith_type1 (thn (ha pos pins s σ H _ I h) fun us s1 ⟨vs, H1, I1, r1, q1⟩ => ?_) hs rfl))
 obtain ⟨j, e, q1, q2, q⟩ := q1
 subst e
 cases r1 with
 | cons r rr =>
   cases rr
   obtain ⟨t, rfl⟩ := r
   exact call_range_1 (range_it I1 (by omega) (by omega) q1 q2 (by simpa using q))
def tFor (wi : TI) (g : TG) (tb : TS) : TS := fun D σ H => wi σ H fun J H1 => ∃ W : Nat -> Nat -> St -> Hp -> Prop, (∃ m, W 0 m σ H1) /\ ∀ i m σ H, W i m σ H ->
 (J.stop i H /\ D.nx σ H) \/ (J.go i H /\ ∃ N : St -> Hp -> Prop, (∀ σ' H', N σ' H' -> ∃ m', m' < m /\ W (i + 1) m' σ' H') /\ ∀ x H', J.yld i H x H' -> g x σ H' fun σ2 H2 => tb { D with nx := N, ct := N, bk := D.nx } σ2 H2)
def yY (fp : List Addr) (h : Heap) : List (Addr × Obj) := fp.filterMap fun b => (h.get? b).map fun o => (b, o)
theorem yL {fp : List Addr} {h : Heap} {b : Addr} {o : Obj} (hb : b ∈ fp) (e : h.get? b = some o) : (b, o) ∈ yY fp h := List.mem_filterMap.mpr ⟨b, hb, by rw [e]; rfl⟩
theorem qW {fp : List Addr} {h : Heap} {p : Addr × Obj} (hp : p ∈ yY fp h) : p.1 ∈ fp /\ h.get? p.1 = some p.2 := by
 obtain ⟨b, hb, e⟩ := List.mem_filterMap.mp hp
 cases q : h.get? b with
 | none => rw [q] at e; cases e
 | some o =>
   rw [q] at e
   have e' : (b, o) = p := Option.some.inj e
   subst e'
   exact ⟨hb, q⟩
theorem Inv.pinned {pins : List (Addr × Obj)} {σ : St} {H : Hp} {s : Shared} {fp : List Addr} (I : Inv X pins σ H s) (hf : ∀ b ∈ fp, jU X pins H b) (ho : ∀ b ∈ fp, ∃ o, s.heap.get? b = some o /\ ∀ v, o.data ≠ .cell v) : Inv X (pins ++ yY fp s.heap) σ H s :=
 I.pins_of fun p hp => (List.mem_append.mp hp).elim (fun z => I.pin p (List.mem_append_right _ z)) fun z => by
   obtain ⟨hb, e⟩ := qW z
   obtain ⟨f0, f1, f2, _⟩ := hf p.1 hb
   obtain ⟨o, e', d⟩ := ho p.1 hb
   rw [e] at e'; cases e'
   exact ⟨e, f0, f1, f2, d⟩
theorem Inv.unpinned {pins pl : List (Addr × Obj)} {σ : St} {H : Hp} {s : Shared} (I : Inv X (pins ++ pl) σ H s) : Inv X pins σ H s := I.pins_of fun p hp => I.pin p (List.mem_append_right _ (List.mem_append_left _ hp))
theorem jE {iter : Expr} {body : List Stmt} {wi : TI} {g : TG} {tb : TS} {pos : Pos} (hp : PassesOwn (model X.prog X.w) X.A X.env X.xe) (hc : X.calm = true) (hi : PI X tg iter wi) (hg : PG X tg g) (hb : PSs X body tb)
   (hs : ∀ x, foldedSetIterable iter X.env x = pure x := by intro _; rfl) : PS X (.For tg iter body [] pos) (tFor wi g tb) := by
 intro pins s σ H D I h
 refine wpAny_For (thn (hi pins s σ H _ I h) fun v s1 h1 => thn h1 fun itv s2 h2 => ?_) hs
 obtain ⟨it, fp, tn, J, H2, e, I2, T, st2, f2, W, ⟨m0, w0⟩, turn⟩ := h2
 subst e
 have stat : ∀ {H' : Hp}, (∀ b ∈ fp, H' b = none) -> ∀ b ∈ fp, jU X pins H' b := fun hn b hb => ⟨hn b hb, (f2 b hb).2⟩
 refine codeAny_forLoop_any (fun n s' => ∃ i σ' H', Inv X pins σ' H' s' /\ tn i s'.heap /\ (∀ b ∈ fp, H' b = none) /\ W i n σ' H') ?_ m0 ⟨0, σ, H2, I2, st2, fun b hb => (f2 b hb).1, w0⟩
 rintro n s3 ⟨i, σ3, H3, I3, st3, fr3, w3⟩
 rcases turn i n σ3 H3 w3 with ⟨stop, qn⟩ | ⟨go, N, hN, step⟩
 · refine wpAny_passesOwn hp (thn (T.done X rfl rfl rfl hc i pins s3 σ3 H3 X.xe I3 (stat fr3) st3 stop) fun r s4 ⟨hr, I4⟩ => ?_)
   subst hr
   exact wpAny_execs_nil ⟨σ3, H3, I4, qn⟩
 · refine wpAny_passesOwn hp (thn (T.item X rfl rfl rfl hc i pins s3 σ3 H3 X.xe I3 (stat fr3) st3 go) fun r s4 ⟨u, hr, h4⟩ => ?_)
   subst hr
   refine wpAny_passesOwn hp (thn h4 fun _ s5 ⟨x, H5, I5, r5, y5, st5, fr5⟩ => ?_)
   have I5' := I5.pinned (stat fr5) (T.obj _ _ st5)
   refine wpAny_passesOwn hp (thn (hg _ s5 σ3 H5 x u _ I5' r5 (step x H5 y5)) fun _ s6 ⟨σ6, H6, I6, q6⟩ => ?_)
   refine wpAny_passesOwn hp (thn (hb _ s6 σ6 H6 _ I6 q6) fun f s7 q7 => ?_)
   have again : ∀ {σ7 : St} {H7 : Hp}, Inv X (pins ++ yY fp s5.heap) σ7 H7 s7 -> N σ7 H7 -> ∃ m, m < n /\ ∃ i σ' H', Inv X pins σ' H' s7 /\ tn i s7.heap /\ (∀ b ∈ fp, H' b = none) /\ W i m σ' H' := fun {σ7 H7} I7 n7 => by
     obtain ⟨m', hm, w7⟩ := hN σ7 H7 n7
     refine ⟨m', hm, i + 1, σ7, H7, I7.unpinned, T.keep _ _ _ st5 fun b hb o e => (I7.pin (b, o) (List.mem_append_right _ (List.mem_append_right _ (yL hb e)))).1, fun b hb => ?_, w7⟩
     obtain ⟨o, e, d⟩ := T.obj _ _ st5 b hb
     exact (I7.pin (b, o) (List.mem_append_right _ (List.mem_append_right _ (yL hb e)))).2.1
   cases f with
   | next => obtain ⟨σ7, H7, I7, n7⟩ := q7; exact again I7 n7
   | cont => obtain ⟨σ7, H7, I7, n7⟩ := q7; exact again I7 n7
   | brk => obtain ⟨σ7, H7, I7, q7⟩ := q7; exact ⟨σ7, H7, I7.unpinned, q7⟩
   | ret v => obtain ⟨x7, σ7, H7, I7, r7, q7⟩ := q7; exact ⟨x7, σ7, H7, I7.unpinned, r7, q7⟩
end
theorem for_list {K : PySem.W.Frag} {a : Addr} {xs : List V} {g : TG} {tb : TS} {D : Ends} {σ : St} {H : Hp} (Pv : Nat -> St -> Hp -> Prop) (h0 : Pv 0 σ H) (hl : ∀ i σ H, i <= xs.length -> Pv i σ H -> SqL K H a xs)
   (hs : ∀ i x σ H, xs[i]? = some x -> Pv i σ H -> g x σ H fun σ2 H2 => tb { D with nx := Pv (i + 1), ct := Pv (i + 1), bk := D.nx } σ2 H2) (hd : ∀ σ H, Pv xs.length σ H -> D.nx σ H) :
   ∃ W : Nat -> Nat -> St -> Hp -> Prop, (∃ m, W 0 m σ H) /\ ∀ i m σ H, W i m σ H ->
     ((Itl K a).stop i H /\ D.nx σ H) \/ ((Itl K a).go i H /\ ∃ N : St -> Hp -> Prop, (∀ σ' H', N σ' H' -> ∃ m', m' < m /\ W (i + 1) m' σ' H') /\ ∀ x H', (Itl K a).yld i H x H' -> g x σ H' fun σ2 H2 => tb { D with nx := N, ct := N, bk := D.nx } σ2 H2) := by
 refine ⟨fun i m σ H => m = xs.length - i /\ i <= xs.length /\ Pv i σ H, ⟨xs.length, by simp, Nat.zero_le _, h0⟩, ?_⟩
 rintro i m σ H ⟨rfl, hi, p⟩
 have q := hl i σ H hi p
 by_cases hlt : i < xs.length
 · refine .inr ⟨⟨xs, xs[i], q, by simp [hlt]⟩, Pv (i + 1), fun σ' H' p' => ⟨xs.length - (i + 1), by omega, rfl, hlt, p'⟩, fun x H' y => ?_⟩
   obtain ⟨e, y⟩ := y
   subst e
   exact hs i x σ _ (y xs q) p
 · have e : i = xs.length := by omega
   subst e
   exact .inl ⟨⟨xs, q, Nat.le_refl _⟩, hd σ H p⟩
theorem for_range {lo : Int} {n : Nat} {g : TG} {tb : TS} {D : Ends} {σ : St} {H : Hp} (Pv : Nat -> St -> Hp -> Prop) (h0 : Pv 0 σ H)
   (hs : ∀ i σ H, i < n -> Pv i σ H -> g (.int (lo + i)) σ H fun σ2 H2 => tb { D with nx := Pv (i + 1), ct := Pv (i + 1), bk := D.nx } σ2 H2) (hd : ∀ σ H, Pv n σ H -> D.nx σ H) :
   ∃ W : Nat -> Nat -> St -> Hp -> Prop, (∃ m, W 0 m σ H) /\ ∀ i m σ H, W i m σ H ->
     ((Itr lo n).stop i H /\ D.nx σ H) \/ ((Itr lo n).go i H /\ ∃ N : St -> Hp -> Prop, (∀ σ' H', N σ' H' -> ∃ m', m' < m /\ W (i + 1) m' σ' H') /\ ∀ x H', (Itr lo n).yld i H x H' -> g x σ H' fun σ2 H2 => tb { D with nx := N, ct := N, bk := D.nx } σ2 H2) := by
 refine ⟨fun i m σ H => m = n - i /\ i <= n /\ Pv i σ H, ⟨n, by simp, Nat.zero_le _, h0⟩, ?_⟩
 rintro i m σ H ⟨rfl, hi, p⟩
 by_cases hlt : i < n
 · refine .inr ⟨hlt, Pv (i + 1), fun σ' H' p' => ⟨n - (i + 1), by omega, rfl, hlt, p'⟩, fun x H' y => ?_⟩
   obtain ⟨e, y⟩ := y
   subst e y
   exact hs i σ _ hlt p
 · have e : i = n := by omega
   subst e
   exact .inl ⟨Nat.le_refl _, hd σ H p⟩
abbrev R2 := V -> V -> Hp -> VK -> Prop
def OpR (X : Cx) (f : Value -> Value -> Sem Value) (r : R2) : Prop :=
 ∀ (pins : List (Addr × Obj)) (s : Shared) (σ : St) (H : Hp) (x y : V) (v u : Value) (Q : VK), Inv X pins σ H s -> RelV x v -> RelV y u -> r x y H Q ->
   wpAny (model X.prog X.w) X.A (f v u) (EP X pins σ Q) X.xe s
def UnR (X : Cx) (f : Value -> Sem Value) (r : V -> Hp -> VK -> Prop) : Prop :=
 ∀ (pins : List (Addr × Obj)) (s : Shared) (σ : St) (H : Hp) (x : V) (v : Value) (Q : VK), Inv X pins σ H s -> RelV x v -> r x H Q ->
   wpAny (model X.prog X.w) X.A (f v) (EP X pins σ Q) X.xe s
def jA (X : Cx) (f : Value) (r : List V -> Hp -> VK -> Prop) : Prop :=
 ∀ (pins : List (Addr × Obj)) (s : Shared) (σ : St) (H : Hp) (xs : List V) (us : List Value) (Q : VK), Inv X pins σ H s -> Vals xs us -> r xs H Q ->
   wpAny (model X.prog X.w) X.A (call f us) (EP X pins σ Q) X.xe s
def tOp (r : R2) (ta tb : TE) : TE := fun σ H Q => ta σ H fun x H1 => tb σ H1 fun y H2 => r x y H2 Q
def tUn (r : V -> Hp -> VK -> Prop) (ta : TE) : TE := fun σ H Q => ta σ H fun x H1 => r x H1 Q
def rI (C : Int -> Int -> Prop) (g : Int -> Int -> V) : R2 := fun x y H Q => ∃ i j, x = .int i /\ y = .int j /\ C i j /\ Q (g i j) H
def rI0 (g : Int -> Int -> V) : R2 := fun x y H Q => ∃ i j, x = .int i /\ y = .int j /\ Q (g i j) H
def rU (g : Int -> V) : V -> Hp -> VK -> Prop := fun x H Q => ∃ i, x = .int i /\ Q (g i) H
section
variable {X : Cx} {a b c : Expr} {ta tb tc : TE} {pos : Pos}
theorem binT (ha : PE X a ta) (hb : PE X b tb) {pins : List (Addr × Obj)} {s : Shared} {σ : St} {H : Hp} {R : V -> V -> Hp -> Prop} (I : Inv X pins σ H s)
   (h : ta σ H fun x H1 => tb σ H1 fun y H2 => R x y H2) {Q : Value -> Shared -> Prop} {f : Value -> Value -> Sem Value}
   (hf : ∀ v u s2 x y H2, Inv X pins σ H2 s2 -> RelV x v -> RelV y u -> R x y H2 -> wpAny (model X.prog X.w) X.A (f v u) Q X.xe s2) :
   wpAny (model X.prog X.w) X.A (eval a X.env) (fun v s₁ => wpAny (model X.prog X.w) X.A (eval b X.env) (fun u s₂ => wpAny (model X.prog X.w) X.A (f v u) Q X.xe s₂) X.xe s₁) X.xe s := by
 refine thn (ha pins s σ H _ I h) fun v s1 ⟨x, H1, I1, r1, q1⟩ => ?_
 refine thn (hb pins s1 σ H1 _ I1 q1) fun u s2 ⟨y, H2, I2, r2, q2⟩ => ?_
 exact hf v u s2 x y H2 I2 r1 r2 q2
theorem zJ {op : Operator} {r : R2} (ho : OpR X (binaryOp op) r) (ha : PE X a ta) (hb : PE X b tb) : PE X (.BinOp a op b pos) (tOp r ta tb) := by
 intro pins s σ H Q I h
 exact wpAny_BinOp (binT ha hb I h fun v u s2 x y H2 I2 rx ry q => ho pins s2 σ H2 x y v u Q I2 rx ry q)
theorem pe_un {op : UnaryOp} {r : V -> Hp -> VK -> Prop} (ho : UnR X (unaryOp op) r) (ha : PE X a ta) : PE X (.UnaryOp op a pos) (tUn r ta) := by
 intro pins s σ H Q I h
 exact UnaryOp_ (thn (ha pins s σ H _ I h) fun v s1 ⟨x, H1, I1, r1, q1⟩ => ho pins s1 σ H1 x v Q I1 r1 q1)
theorem opI {f : Value -> Value -> Sem Value} {C : Int -> Int -> Prop} {g : Int -> Int -> Int}
   (rule : ∀ (i j : Int) (t u : Tok) (s : Shared) (Q : Value -> Shared -> Prop) (E : Value -> Shared -> Prop), C i j -> Q (.int (g i j) s.toks) { s with toks := s.toks + 1 } -> wpAny (model X.prog X.w) X.A (f (.int i t) (.int j u)) Q E s) :
   OpR X f (rI C fun i j => .int (g i j)) := by
 intro pins s σ H x y v u Q I rx ry h
 obtain ⟨i, j, rfl, rfl, hc, q⟩ := h
 obtain ⟨t, rfl⟩ := rx
 obtain ⟨t', rfl⟩ := ry
 exact rule i j t t' s _ _ hc ⟨.int (g i j), H, I.tok _, ⟨_, rfl⟩, q⟩
theorem opI0 {f : Value -> Value -> Sem Value} {g : Int -> Int -> Int}
   (rule : ∀ (i j : Int) (t u : Tok) (s : Shared) (Q : Value -> Shared -> Prop) (E : Value -> Shared -> Prop), Q (.int (g i j) s.toks) { s with toks := s.toks + 1 } -> wpAny (model X.prog X.w) X.A (f (.int i t) (.int j u)) Q E s) :
   OpR X f (rI0 fun i j => .int (g i j)) := by
 intro pins s σ H x y v u Q I rx ry h
 obtain ⟨i, j, rfl, rfl, q⟩ := h
 obtain ⟨t, rfl⟩ := rx
 obtain ⟨t', rfl⟩ := ry
 exact rule i j t t' s _ _ ⟨.int (g i j), H, I.tok _, ⟨_, rfl⟩, q⟩
theorem opB0 {f : Value -> Value -> Sem Value} {g : Int -> Int -> Bool}
   (rule : ∀ (i j : Int) (t u : Tok) (s : Shared) (Q : Value -> Shared -> Prop) (E : Value -> Shared -> Prop), Q (.bool (g i j)) s -> wpAny (model X.prog X.w) X.A (f (.int i t) (.int j u)) Q E s) :
   OpR X f (rI0 fun i j => .bl (g i j)) := by
 intro pins s σ H x y v u Q I rx ry h
 obtain ⟨i, j, rfl, rfl, q⟩ := h
 obtain ⟨t, rfl⟩ := rx
 obtain ⟨t', rfl⟩ := ry
 exact rule i j t t' s _ _ ⟨.bl (g i j), H, I, rfl, q⟩
def CDiv (i j : Int) : Prop := 0 < j /\ j < 1073741824
def CPow (i j : Int) : Prop := 0 <= j /\ j <= 1000000 /\ i.natAbs < 2 ^ 64
def CMul (i j : Int) : Prop := (-(2 ^ 64) < i /\ i < 2 ^ 64) \/ (-(2 ^ 64) < j /\ j < 2 ^ 64)
theorem CMul.ok {i j : Int} (h : CMul i j) : IntMulOk i j := by
 rcases h with ⟨h1, h2⟩ | ⟨h1, h2⟩
 · exact .of_left (intBits_le_64 h1 h2)
 · exact .of_right (intBits_le_64 h1 h2)
theorem op_add : OpR X (binaryOp .Add) (rI0 fun i j => .int (i + j)) := opI0 fun _ _ _ _ _ _ _ q => add_int q
theorem op_sub : OpR X (binaryOp .Sub) (rI0 fun i j => .int (i - j)) := opI0 fun _ _ _ _ _ _ _ q => sub_int q
theorem op_mul : OpR X (binaryOp .Mult) (rI CMul fun i j => .int (i * j)) := opI fun _ _ _ _ _ _ _ hc q => mul_int q hc.ok
theorem op_fdiv : OpR X (binaryOp .FloorDiv) (rI CDiv fun i j => .int (i / j)) := opI fun i j _ _ _ _ _ hc q => by
 have h1 : (0 : Int) < j := hc.1
 have h2 : j < 1073741824 := hc.2
 exact floordiv_int (by omega) (by rw [Int.fdiv_eq_ediv_of_nonneg i (by omega)]; exact q) (.inl (PyProof.noPylong_small (by omega)))
theorem op_mod : OpR X (binaryOp .Mod) (rI (fun _ j => 0 < j) fun i j => .int (i % j)) := opI fun i j _ _ _ _ _ hc q => by
 have h1 : (0 : Int) < j := hc
 exact mod_int' (by omega) (by rw [Int.fmod_eq_emod_of_nonneg i (by omega)]; exact q)
theorem op_pow : OpR X (binaryOp .Pow) (rI CPow fun i j => .int (i ^ j.toNat)) := opI fun _ _ _ _ _ _ _ hc q => pow_int_small hc.1 hc.2.1 hc.2.2 q
theorem unI {f : Value -> Sem Value} {g : Int -> Int}
   (rule : ∀ (i : Int) (t : Tok) (s : Shared) (Q : Value -> Shared -> Prop) (E : Value -> Shared -> Prop), Q (.int (g i) s.toks) { s with toks := s.toks + 1 } -> wpAny (model X.prog X.w) X.A (f (.int i t)) Q E s) :
   UnR X f (rU fun i => .int (g i)) := by
 intro pins s σ H x v Q I rx h
 obtain ⟨i, rfl, q⟩ := h
 obtain ⟨t, rfl⟩ := rx
 exact rule i t s _ _ ⟨.int (g i), H, I.tok _, ⟨_, rfl⟩, q⟩
theorem un_neg : UnR X (unaryOp .USub) (rU fun i => .int (-i)) := unI fun _ _ _ _ _ q => neg_int q
end
def scal : V -> V -> Bool
 | .non, .non => true | .non, .int _ => true | .int _, .non => true | .non, .bl _ => true | .bl _, .non => true | .non, .str _ => true | .str _, .non => true
 | .int _, .int _ => true | .bl _, .bl _ => true | .str _, .str _ => true | .byt _, .byt _ => true
 | .int _, .str _ => true | .str _, .int _ => true | .bl _, .str _ => true | .str _, .bl _ => true
 | _, _ => false
def rEq : R2 := fun x y H Q => scal x y = true /\ Q (.bl (decide (x = y))) H
def rNe : R2 := fun x y H Q => scal x y = true /\ Q (.bl (!decide (x = y))) H
theorem dec_int {i j : Int} : decide (V.int i = V.int j) = (i == j) := by
 rw [Bool.eq_iff_iff]
 simp
theorem dec_bl {i j : Bool} : decide (V.bl i = V.bl j) = (i == j) := by
 rw [Bool.eq_iff_iff]
 simp
theorem dec_str {i j : Str} : decide (V.str i = V.str j) = (i == j) := by
 rw [Bool.eq_iff_iff]
 simp
theorem dec_byt {i j : Array UInt8} : decide (V.byt i = V.byt j) = (i.toList == j.toList) := by
 rw [Bool.eq_iff_iff]
 cases i
 cases j
 simp
section
variable {X : Cx} {a b c : Expr} {ta tb tc : TE} {pos : Pos}
theorem zT {pins : List (Addr × Obj)} {σ : St} {H : Hp} {s : Shared} {Q : VK} {k k' : Bool} (I : Inv X pins σ H s) (q : Q (.bl k) H) (e : k = k') : EP X pins σ Q (.bool k') s := by
 subst e
 exact ⟨.bl k, H, I, rfl, q⟩
theorem op_eq : OpR X (compareOp .Eq) rEq := by
 intro pins s σ H x y v u Q I rx ry h
 obtain ⟨hs, q⟩ := h
 cases x with
 | non =>
   cases rx
   cases y with
   | non => cases ry; exact PySem.EqNone.eq_none_none (zT I q (by simp))
   | bl j => cases ry; exact PySem.EqNone.eq_none_bool (zT I q (by simp))
   | int j => obtain ⟨t', rfl⟩ := ry; exact PySem.EqNone.eq_none_int (zT I q (by simp))
   | str j => obtain ⟨t', rfl⟩ := ry; exact PySem.EqNone.eq_none_str (zT I q (by simp))
   | _ => exact absurd (show false = true from hs) Bool.false_ne_true
 | bl i =>
   cases rx
   cases y with
   | non => cases ry; exact PySem.EqNone.eq_bool_none (zT I q (by simp))
   | bl j => cases ry; exact eq_bool (zT I q dec_bl)
   | str j => obtain ⟨t', rfl⟩ := ry; exact PySem.EqMixed.eq_bool_str (zT I q (by simp))
   | _ => exact absurd (show false = true from hs) Bool.false_ne_true
 | int i =>
   obtain ⟨t, rfl⟩ := rx
   cases y with
   | non => cases ry; exact PySem.EqNone.eq_int_none (zT I q (by simp))
   | int j => obtain ⟨t', rfl⟩ := ry; exact eq_int (zT I q dec_int)
   | str j => obtain ⟨t', rfl⟩ := ry; exact PySem.EqMixed.eq_int_str (zT I q (by simp))
   | _ => exact absurd (show false = true from hs) Bool.false_ne_true
 | str i =>
   obtain ⟨t, rfl⟩ := rx
   cases y with
   | non => cases ry; exact PySem.EqNone.eq_str_none (zT I q (by simp))
   | bl j => cases ry; exact PySem.EqMixed.eq_str_bool (zT I q (by simp))
   | int j => obtain ⟨t', rfl⟩ := ry; exact PySem.EqMixed.eq_str_int (zT I q (by simp))
   | str j => obtain ⟨t', rfl⟩ := ry; exact eq_str (zT I q dec_str)
   | _ => exact absurd (show false = true from hs) Bool.false_ne_true
 | byt i =>
   obtain ⟨t, rfl⟩ := rx
   cases y with
   | byt j => obtain ⟨t', rfl⟩ := ry; exact PySem.W.eq_bytes (zT I q dec_byt)
   | _ => exact absurd (show false = true from hs) Bool.false_ne_true
 | _ => cases y <;> exact absurd (show false = true from hs) Bool.false_ne_true
theorem op_ne : OpR X (compareOp .NotEq) rNe := by
 intro pins s σ H x y v u Q I rx ry h
 obtain ⟨hs, q⟩ := h
 cases x with
 | non =>
   cases rx
   cases y with
   | non => cases ry; exact PySem.EqNone.ne_none_none (zT I q (by simp))
   | bl j => cases ry; exact PySem.EqNone.ne_none_bool (zT I q (by simp))
   | int j => obtain ⟨t', rfl⟩ := ry; exact PySem.EqNone.ne_none_int (zT I q (by simp))
   | str j => obtain ⟨t', rfl⟩ := ry; exact PySem.EqNone.ne_none_str (zT I q (by simp))
   | _ => exact absurd (show false = true from hs) Bool.false_ne_true
 | bl i =>
   cases rx
   cases y with
   | non => cases ry; exact PySem.EqNone.ne_bool_none (zT I q (by simp))
   | bl j => cases ry; exact ne_bool (zT I q (congrArg not dec_bl))
   | str j => obtain ⟨t', rfl⟩ := ry; exact PySem.EqMixed.ne_bool_str (zT I q (by simp))
   | _ => exact absurd (show false = true from hs) Bool.false_ne_true
 | int i =>
   obtain ⟨t, rfl⟩ := rx
   cases y with
   | non => cases ry; exact PySem.EqNone.ne_int_none (zT I q (by simp))
   | int j => obtain ⟨t', rfl⟩ := ry; exact ne_int (zT I q (congrArg not dec_int))
   | str j => obtain ⟨t', rfl⟩ := ry; exact PySem.EqMixed.ne_int_str (zT I q (by simp))
   | _ => exact absurd (show false = true from hs) Bool.false_ne_true
 | str i =>
   obtain ⟨t, rfl⟩ := rx
   cases y with
   | non => cases ry; exact PySem.EqNone.ne_str_none (zT I q (by simp))
   | bl j => cases ry; exact PySem.EqMixed.ne_str_bool (zT I q (by simp))
   | int j => obtain ⟨t', rfl⟩ := ry; exact PySem.EqMixed.ne_str_int (zT I q (by simp))
   | str j => obtain ⟨t', rfl⟩ := ry; exact ne_str (zT I q (congrArg not dec_str))
   | _ => exact absurd (show false = true from hs) Bool.false_ne_true
 | byt i =>
   obtain ⟨t, rfl⟩ := rx
   cases y with
   | byt j => obtain ⟨t', rfl⟩ := ry; exact PySem.W.ne_bytes (zT I q (congrArg not dec_byt))
   | _ => exact absurd (show false = true from hs) Bool.false_ne_true
 | _ => cases y <;> exact absurd (show false = true from hs) Bool.false_ne_true
theorem op_lt : OpR X (compareOp .Lt) (rI0 fun i j => .bl (decide (i < j))) := opB0 fun _ _ _ _ _ _ _ q => lt_int q
theorem op_gt : OpR X (compareOp .Gt) (rI0 fun i j => .bl (decide (j < i))) := opB0 fun _ _ _ _ _ _ _ q => gt_int q
theorem op_ge : OpR X (compareOp .GtE) (rI0 fun i j => .bl (decide (j <= i))) := opB0 fun _ _ _ _ _ _ _ q => ge_int q
theorem op_isN : OpR X (compareOp .Is) (fun x y H Q => y = .non /\ Q (.bl (decide (x = .non))) H) := by
 intro pins s σ H x y v u Q I rx ry h
 obtain ⟨rfl, q⟩ := h
 cases ry
 refine is_none_gen (zT I q ?_)
 cases x <;> first
   | (cases rx; rfl)
   | (obtain ⟨t, rfl⟩ := rx; rfl)
theorem zR (b : Expr) {op : CmpOp} (h : op ≠ .In := by decide) (h2 : op ≠ .NotIn := by decide) : behindInMarks op b = false := by
 have e1 : (op == CmpOp.In) = false := by cases op <;> first | rfl | exact absurd rfl h
 have e2 : (op == CmpOp.NotIn) = false := by cases op <;> first | rfl | exact absurd rfl h2
 cases b <;> simp [behindInMarks, e1, e2]
theorem xD {op : CmpOp} {r : R2} (ho : OpR X (compareOp op) r) (ha : PE X a ta) (hb : PE X b tb) (hm : behindInMarks op b = false) : PE X (.Compare a [op] [b] pos) (tOp r ta tb) := by
 intro pins s σ H Q I h
 exact wpAny_Compare1 (binT ha hb I h fun v u s2 x y H2 I2 rx ry q => ho pins s2 σ H2 x y v u Q I2 rx ry q) hm
def tTest (t : TE) : TT := fun σ H Q => t σ H fun x H' => ∃ k, x = .bl k /\ Q k H'
theorem zP {op : CmpOp} {r : R2} (ho : OpR X (compareOp op) r) (ha : PE X a ta) (hb : PE X b tb) (hm : behindInMarks op b = false) : PT X (.Compare a [op] [b] pos) (tTest (tOp r ta tb)) := by
 intro pins s σ H Q I h
 refine wpAny_isTrue_Compare1 (thn (ha pins s σ H _ I h) fun v s1 ⟨x, H1, I1, r1, q1⟩ => thn (hb pins s1 σ H1 _ I1 q1) fun u s2 ⟨y, H2, I2, r2, q2⟩ =>
   thn (ho pins s2 σ H2 x y v u _ I2 r1 r2 q2) fun c s3 ⟨z, H3, I3, r3, k, e, q3⟩ => ?_) hm
 subst e
 cases r3
 exact wpAny_truthy_bool ⟨H3, I3, q3⟩
def tChain (r r' : R2) (ta tb tc : TE) : TE := fun σ H Q => ta σ H fun x H1 => tb σ H1 fun y H2 => r x y H2 fun z H3 => ∃ k, z = .bl k /\
 (if k = true then tc σ H3 fun w' H4 => r' y w' H4 Q else Q (.bl false) H3)
theorem line63 : (sizeLine : Nat) < 2 ^ 63 := by rw [sizeLine_eq]; decide
theorem op_add_str : OpR X (binaryOp .Add) (fun x y H Q => ∃ i j, x = .str i /\ y = .str j /\ i.length + j.length <= sizeLine /\ Q (.str (i ++ j)) H) := by
 intro pins s σ H x y v u Q I rx ry h
 obtain ⟨i, j, rfl, rfl, hz, q⟩ := h
 obtain ⟨t, rfl⟩ := rx
 obtain ⟨t', rfl⟩ := ry
 exact add_str (fun t' tk => ⟨.str (i ++ j), H, I.tok _, ⟨_, rfl⟩, q⟩) hz
theorem vals1 {x : V} {us : List Value} (r : Vals [x] us) : ∃ u, us = [u] /\ RelV x u := by
 cases r with
 | cons r1 r2 => cases r2; exact ⟨_, rfl, r1⟩
theorem vals2 {x y : V} {us : List Value} (r : Vals [x, y] us) : ∃ u w', us = [u, w'] /\ RelV x u /\ RelV y w' := by
 cases r with
 | cons r1 r2 =>
   cases r2 with
   | cons r3 r4 => cases r4; exact ⟨_, _, rfl, r1, r3⟩
def LenV (K : PySem.W.Frag) (x : V) (H : Hp) (n : Nat) : Prop :=
 match x with
 | .str y => y.length <= sizeLine /\ n = y.length
 | .byt y => y.size <= sizeLine /\ n = y.size
 | .ref p => (∃ xs, SqL K H p xs /\ n = xs.length) \/ ∃ xs, SqT K H p xs /\ n = xs.length
 | _ => False
theorem call_len : jA X (.builtin "len") (fun xs H Q => ∃ x n, xs = [x] /\ LenV X.K x H n /\ Q (.int n) H) := by
 intro pins s σ H xs us Q I r h
 obtain ⟨x, n, rfl, e, q⟩ := h
 obtain ⟨u, rfl, rx⟩ := vals1 r
 have hl := line63
 have hs : sizeLine = 16777216 := sizeLine_eq
 cases x with
 | str y =>
   obtain ⟨t, rfl⟩ := rx
   obtain ⟨hy, e'⟩ : y.length <= sizeLine /\ n = y.length := e
   subst e'
   exact len_str (by omega) ⟨.int _, H, I.tok _, ⟨_, rfl⟩, q⟩
 | byt y =>
   obtain ⟨t, rfl⟩ := rx
   obtain ⟨hy, e'⟩ : y.size <= sizeLine /\ n = y.size := e
   subst e'
   exact PySem.W.len_bytes (by omega) ⟨.int _, H, I.tok _, ⟨_, rfl⟩, q⟩
 | ref p =>
   cases rx
   have e' : (∃ xs, SqL X.K H p xs /\ n = xs.length) \/ ∃ xs, SqT X.K H p xs /\ n = xs.length := e
   rcases e' with ⟨xs, hx, e'⟩ | ⟨xs, hx, e'⟩
   · subst e'
     obtain ⟨its, r', pl, hz⟩ := I.list hx
     have hlen := r'.length
     exact Calls.call_len_list pl.isList (by simp only [List.size_toArray]; omega) ⟨.int xs.length, H, I.tok _, ⟨_, by simp only [List.size_toArray]; rw [hlen]⟩, q⟩
   · subst e'
     obtain ⟨its, r', pl, hz⟩ := I.tuple hx
     have hlen := r'.length
     exact len_tuple pl (by simp only [List.size_toArray]; omega) ⟨.int xs.length, H, I.tok _, ⟨_, by simp only [List.size_toArray]; rw [hlen]⟩, q⟩
 | _ => exact (show False from e).elim
end
structure ObjM (h : Heap) (x dx C : Addr) (mA : Str -> Option Value) : Prop where
 obj : h.get? x = some (PySem.W.instObj C dx)
 ns : h.Ns1 dx mA
 ne : dx ≠ x
theorem lookIn_ns {h : Heap} {dx : Addr} {mA : Str -> Option Value} (n : h.Ns1 dx mA) : ∃ od, h.get? dx = some od /\ ∀ name, PySem.W.lookIn name od = some (mA name) := by
 obtain ⟨o, es, ep, ho, hd, hk, _, hm⟩ := n
 refine ⟨o, ho, fun name => ?_⟩
 have e := hm name
 unfold nsFind findBy at e
 rw [← Array.find?_toList] at e
 unfold PySem.W.lookIn
 rw [hd]
 dsimp only
 split
 · rename_i y q
   rw [q] at e
   exact congrArg some e
 · rename_i q
   rw [q] at e
   have a : es.toList.any (·.refKey) = false := by
     rw [List.any_eq_false]
     intro y hy
     obtain ⟨z, t, hkey⟩ := hk y (Array.mem_toList_iff.mp hy)
     simp [DictEntry.refKey, hkey]
   have a' : ¬ es.toList.any (·.refKey) = true := by rw [a]; exact Bool.false_ne_true
   rw [if_neg a']
   exact congrArg some e
theorem ObjM.look {h : Heap} {x dx C : Addr} {mA : Str -> Option Value} (I : ObjM h x dx C mA) : ∃ od, PySem.W.InstAt h x (PySem.W.instObj C dx) C (some od) /\ ∀ name, PySem.W.lookIn name od = some (mA name) :=
 let ⟨od, ho, hl⟩ := lookIn_ns I.ns
 ⟨od, ⟨I.obj, rfl, rfl, ho⟩, hl⟩
section
variable {prog : Program} {w : World} {A : Around} {E : Value -> Shared -> Prop} {s : Shared} {K : PySem.W.Frag} {x dx C f : Addr} {mA : Str -> Option Value} {name : Str} {v : Value}
theorem get_map {expr : Bool} {Q : Value -> Shared -> Prop} (X : K.In s.heap) (I : ObjM s.heap x dx C mA) (hg : PySem.W.plainGet K C name = true) (hh : PySem.W.hasDictIn K C = true)
   (ha : PySem.W.findIn K (.ref C) name = some none) (hv : mA name = some v) (hv' : PySem.W.handedIn v = true) (h : Q v { s with toks := s.toks + 1 }) :
   wpAny (model prog w) A (getAttr (.ref x) name expr) Q E s := by
 obtain ⟨od, J, hl⟩ := I.look
 exact PySem.W.get_value X J (PySem.W.plainGet_of hg).1 (PySem.W.findObj_own hh ha rfl (by rw [hl, hv])) hv' h
theorem get_meth {pl : Sem Bool} {Q : Value × List Value -> Shared -> Prop} (X : K.In s.heap) (I : ObjM s.heap x dx C mA) (hg : PySem.W.plainGet K C name = true)
   (hf : PySem.W.findIn K (.ref C) name = some (some (.ref f))) (ht : PySem.W.isFn K (.ref f) = true) (hv : mA name = none) (h : Q (.ref f, [.ref x]) s) :
   wpAny (model prog w) A (getMethod (.ref x) name pl) Q E s := by
 obtain ⟨od, J, hl⟩ := I.look
 exact PySem.W.method_fn X J (PySem.W.plainGet_of hg).1 (PySem.W.plainGet_of hg).2 hf (beq_iff_eq.mp ht) (by show (PySem.W.lookIn name od).map (·.isSome) = some false; rw [hl, hv]; rfl) h
theorem set_map {ns : List Str} {Q : Unit -> Shared -> Prop} (X : K.In s.heap) (I : ObjM s.heap x dx C mA)
   (hs : PySem.W.findIn K (.ref C) "__setattr__" = some (some (.builtin "object.__setattr__"))) (hp : PySem.W.plainOver K C = true) (ht : PySem.W.takerIn K C name = some none) (hh : PySem.W.hasDictIn K C = true)
   (hw : PySem.Within mA ns) (hsz : ns.length <= sizeLine)
   (h : ∀ h', ObjM h' x dx C (fun y => if y = name then some v else mA y) -> Heap.SameBut dx s.heap h' -> Q () { s with heap := h', toks := s.toks + 2 }) :
   wpAny (model prog w) A (setAttr (.ref x) name v) Q E s := by
 obtain ⟨od, J, hl⟩ := I.look
 refine PySem.W.set_plain X J hs (PySem.W.osa_open (s := { s with toks := s.toks + 1 }) (r := none) X J hp ht fun b => ?_)
 obtain ⟨cd, hc, hd'⟩ := PySem.W.any_some hh
 have hx : s.heap.get? x = some ⟨.ref C, some dx, .plain, #[]⟩ := I.obj
 refine wpAny_bind (wpAny_pure (wpAny_bind (wpAny_bind (wpAny_loadPart hx (wpAny_bind (PySem.W.Looks.here (s := { s with toks := s.toks + 1 }) (PySem.W.looks_clsIn X hc) ?_))))))
 rw [hd']
 refine wpAny_pure (a := some dx) (wpAny_bind (wpAny_pure (wpAny_bind ?_)))
 refine wpAny_nsSet1 (s := { s with toks := s.toks + 1 }) I.ns fun h' hn2 hs2 => ?_
 obtain ⟨oD, esD, epD, hoD, hdD, hcD⟩ := hn2.count (PySem.Within.cons name v hw)
 refine wpAny_bind (wpAny_lookBehind hoD (by rw [hdD]; exact pastItsLine_dict (Nat.le_trans hcD (by rw [List.length_cons]; omega))) ?_)
 exact wpAny_pure (h _ ⟨(hs2.2 _ (Ne.symm I.ne)).trans I.obj, hn2, I.ne⟩ hs2)
theorem make_map {R : Result -> Shared -> Prop} {vs : List Value} {kw : List (Str × Value)} (X : K.In s.heap) (hm : PySem.W.makesIn K C = true)
   (hi : PySem.W.findIn K (.ref C) "__init__" = some (some (.ref f))) (hf : PySem.W.typeIn K (.ref f) = some (.type "function"))
   (h : codeAny (model prog w) (A.under (.builtin "type.__call__" ⟨.ref C :: vs, kw⟩)) (.call (.ref f) ⟨.ref (s.heap.objs.size + 1) :: vs, kw⟩) (PySem.W.InitBack (s.heap.objs.size + 1) R)
     { s with heap := (s.heap.push PySem.W.emptyDict).push (PySem.W.instObj C s.heap.objs.size) }) :
   codeAny (model prog w) A (.call (.ref C) ⟨vs, kw⟩) R s := by
 obtain ⟨hh, g, d, t, os⟩ := s
 exact PySem.W.make_core (PySem.W.makes_of X hm) (PySem.W.looks_findIn X hi) (fun self => PySem.W.bind_fn X self hf) (.inl rfl) h
end
def zY (f : Str) (v : V) : List (Str × V) -> List (Str × V)
 | [] => [(f, v)]
 | (g, x) :: r => if g = f then (g, v) :: r else (g, x) :: zY f v r
theorem jN (f g : Str) (v : V) : ∀ fs : List (Str × V), (zY f v fs).lookup g = if g = f then some v else fs.lookup g
 | [] => by
   show List.lookup g [(f, v)] = _
   by_cases h : g = f
   · have hb : (g == f) = true := beq_iff_eq.mpr h
     simp only [List.lookup, hb, if_pos h]
   · have hb : (g == f) = false := beq_eq_false_iff_ne.mpr h
     simp only [List.lookup, hb, if_neg h]
 | (k, x) :: r => by
   have ih := jN f g v r
   rw [show zY f v ((k, x) :: r) = (if k = f then (k, v) :: r else (k, x) :: zY f v r) from rfl]
   by_cases hk : k = f
   · rw [if_pos hk]
     by_cases h : g = k
     · have hb : (g == k) = true := beq_iff_eq.mpr h
       simp only [List.lookup, hb, if_pos (h.trans hk)]
     · have hb : (g == k) = false := beq_eq_false_iff_ne.mpr h
       simp only [List.lookup, hb, if_neg (fun e : g = f => h (e.trans hk.symm))]
   · rw [if_neg hk]
     by_cases h : g = k
     · have hb : (g == k) = true := beq_iff_eq.mpr h
       simp only [List.lookup, hb, if_neg (fun e : g = f => hk (h.symm.trans e))]
     · have hb : (g == k) = false := beq_eq_false_iff_ne.mpr h
       simp only [List.lookup, hb]
       exact ih
theorem jI (f : Str) (v : V) : ∀ fs : List (Str × V), f ∈ (zY f v fs).map (·.1) /\ ∀ g, g ∈ fs.map (·.1) -> g ∈ (zY f v fs).map (·.1)
 | [] => ⟨by simp [zY], fun g h => by simp at h⟩
 | (k, x) :: r => by
   obtain ⟨i1, i2⟩ := jI f v r
   rw [show zY f v ((k, x) :: r) = (if k = f then (k, v) :: r else (k, x) :: zY f v r) from rfl]
   by_cases hk : k = f
   · rw [if_pos hk]
     subst hk
     exact ⟨by simp, fun g h => by simpa using h⟩
   · rw [if_neg hk]
     refine ⟨?_, fun g h => ?_⟩
     · rw [List.map_cons]
       exact List.mem_cons_of_mem _ i1
     · rw [List.map_cons] at h ⊢
       rcases List.mem_cons.mp h with e | e
       · exact List.mem_cons.mpr (.inl e)
       · exact List.mem_cons_of_mem _ (i2 g e)
theorem jP (f : Str) (v : V) : ∀ fs : List (Str × V), (zY f v fs).length <= fs.length + 1
 | [] => by simp [zY]
 | (k, x) :: r => by
   have ih := jP f v r
   rw [show zY f v ((k, x) :: r) = (if k = f then (k, v) :: r else (k, x) :: zY f v r) from rfl]
   by_cases hk : k = f
   · rw [if_pos hk, List.length_cons, List.length_cons]; omega
   · rw [if_neg hk, List.length_cons, List.length_cons]; omega
theorem RelO.some_of {v : V} {o : Option Value} (r : RelO (some v) o) : ∃ u, o = some u /\ RelV v u := by
 cases o with
 | none => exact (show False from r).elim
 | some u => exact ⟨u, rfl, r⟩
theorem RelO.none_of {o : Option Value} (r : RelO none o) : o = none := by
 cases o with
 | none => rfl
 | some u => exact (show False from r).elim
theorem handed_of {v : V} {u : Value} (r : RelV v u) : PySem.W.handedIn u = true := by
 cases v with
 | non => cases (show u = Value.none from r); rfl
 | bl b => cases (show u = Value.bool b from r); rfl
 | int i => obtain ⟨t, e⟩ := (show ∃ t, u = Value.int i t from r); cases e; rfl
 | str x => obtain ⟨t, e⟩ := (show ∃ t, u = Value.str x t from r); cases e; rfl
 | byt b => obtain ⟨t, e⟩ := (show ∃ t, u = Value.bytes b t from r); cases e; rfl
 | flt b => obtain ⟨t, e⟩ := (show ∃ t, u = Value.float b t from r); cases e; rfl
 | ref a => cases (show u = Value.ref a from r); rfl
 | ty n => cases (show u = Value.type n from r); rfl
section
variable {P : Program} {w : World} {H H' : Hp} {h h' : Heap} {a C dx : Addr} {fs fs' : List (Str × V)}
theorem jY (hok : HOk P w H h) (e : H a = some (.ins C dx fs)) : ∃ mA, ObjM h a dx C mA /\ (∀ f, RelO (fs.lookup f) (mA f)) /\ PySem.Within mA (fs.map (·.1)) /\ fs.length <= 1000 /\ H dx = some (.own a) := by
 obtain ⟨d, z, ne, ob, mA, n, r, q⟩ := (show ObjOk P w H h a (.ins C dx fs) from hok a _ e)
 exact ⟨mA, ⟨ob, n, ne⟩, r, q, z, d⟩
end
structure Cls (K : PySem.W.Frag) (C : Addr) : Prop where
 pg : PySem.W.plainGet K C Str.empty = true
 hd : PySem.W.hasDictIn K C = true
 po : PySem.W.plainOver K C = true
 sa : PySem.W.findIn K (.ref C) "__setattr__" = some (some (.builtin "object.__setattr__"))
theorem Cls.get {K : PySem.W.Frag} {C : Addr} (c : Cls K C) (f : Str) : PySem.W.plainGet K C f = true := c.pg
def NoAttr (K : PySem.W.Frag) (C : Addr) (f : Str) : Prop := PySem.W.findIn K (.ref C) f = some none
theorem NoAttr.taker {K : PySem.W.Frag} {C : Addr} {f : Str} (n : NoAttr K C f) : PySem.W.takerIn K C f = some none := by
 unfold PySem.W.takerIn
 rw [show PySem.W.findIn K (.ref C) f = some none from n]
 rfl
structure Con (K : PySem.W.Frag) (C : Addr) (f : Str) (v : V) (u : Value) : Prop where
 at_ : PySem.W.findIn K (.ref C) f = some (some u)
 rel : RelV v u
 get : PySem.W.specialIn K u "__get__" = some none
 cp : PySem.W.copiedNames.contains f = false
structure Meth (K : PySem.W.Frag) (C : Addr) (m : Str) (f : Addr) : Prop where
 at_ : PySem.W.findIn K (.ref C) m = some (some (.ref f))
 fn : PySem.W.isFn K (.ref f) = true
 kp : PySem.W.keepIn K (.ref f) = true
section
variable {X : Cx} {pins : List (Addr × Obj)} {σ : St} {H : Hp} {s : Shared} {a C dx : Addr} {fs : List (Str × V)} {f : Str} {v : V} {A : Around} {E : Value -> Shared -> Prop}
theorem qL {b : Bool} {Q : Value -> Shared -> Prop} (I : Inv X pins σ H s) (e : H a = some (.ins C dx fs)) (c : Cls X.K C) (n : NoAttr X.K C f) (l : fs.lookup f = some v)
   (h : ∀ u s', Inv X pins σ H s' -> RelV v u -> Q u s') : wpAny (model X.prog X.w) A (getAttr (.ref a) f b) Q E s := by
 obtain ⟨mA, O, r, _, _, _⟩ := jY I.hok e
 obtain ⟨u, hu, ru⟩ := RelO.some_of (v := v) (o := mA f) (by rw [← l]; exact r f)
 exact get_map I.kIn O (c.get f) c.hd n hu (handed_of ru) (h u _ (I.tok _) ru)
theorem qK {m : Str} {g : Addr} {pl : Sem Bool} {Q : Value × List Value -> Shared -> Prop} (I : Inv X pins σ H s) (e : H a = some (.ins C dx fs)) (c : Cls X.K C) (k : Meth X.K C m g) (l : fs.lookup m = none)
   (h : Q (.ref g, [.ref a]) s) : wpAny (model X.prog X.w) A (getMethod (.ref a) m pl) Q E s := by
 obtain ⟨mA, O, r, _, _, _⟩ := jY I.hok e
 have hn : mA m = none := RelO.none_of (by rw [← l]; exact r m)
 exact get_meth I.kIn O (c.get m) k.at_ k.fn hn h
theorem qC {y : V} {u : Value} {Q : Unit -> Shared -> Prop} (I : Inv X pins σ H s) (e : H a = some (.ins C dx fs)) (c : Cls X.K C) (n : NoAttr X.K C f) (hl : fs.length < 1000) (ry : RelV y u)
   (h : ∀ s', Inv X pins σ (upd H a (.ins C dx (zY f y fs))) s' -> Q () s') : wpAny (model X.prog X.w) A (setAttr (.ref a) f u) Q E s := by
 obtain ⟨mA, O, r, wi, _, ho⟩ := jY I.hok e
 have hz : (fs.map (·.1)).length <= sizeLine := by rw [List.length_map, sizeLine_eq]; omega
 refine set_map I.kIn O c.sa c.po n.taker c.hd wi hz fun h' O' sb => h _ ?_
 have hd : ∃ o, h'.get? dx = some o := let ⟨o, _, _, e', _⟩ := O'.ns; ⟨o, e'⟩
 refine I.write (x := a) (e := dx) (by rw [e]; exact True.intro) (.inr ho) (fun b q hb z => (sb.2 b hb).trans z) hd ?_
 refine ⟨by rw [zE O.ne]; exact ho, ?_, O.ne, O'.obj, _, O'.ns, fun g => ?_, fun g hg => ?_⟩
 · have := jP f y fs; omega
 · show RelO ((zY f y fs).lookup g) (if g = f then some u else mA g)
   rw [jN]
   by_cases q : g = f
   · rw [if_pos q, if_pos q]; exact ry
   · rw [if_neg q, if_neg q]; exact r g
 · by_cases q : g = f
   · rw [q]; exact (jI f y fs).1
   · refine (jI f y fs).2 g (wi g fun z => hg ?_)
     show (if g = f then some u else mA g) = none
     rw [if_neg q]; exact z
theorem Inv.made (I : Inv X pins σ H s) : Inv X pins σ (upd (upd H s.heap.objs.size (.own (s.heap.objs.size + 1))) (s.heap.objs.size + 1) (.ins C s.heap.objs.size []))
   { s with heap := (s.heap.push PySem.W.emptyDict).push (PySem.W.instObj C s.heap.objs.size) } := by
 have e1 : (s.heap.push PySem.W.emptyDict).get? s.heap.objs.size = some PySem.W.emptyDict := Heap.get?_push_size s.heap rfl
 have e2 : ((s.heap.push PySem.W.emptyDict).push (PySem.W.instObj C s.heap.objs.size)).get? (s.heap.objs.size + 1) = some (PySem.W.instObj C s.heap.objs.size) := by
   have := Heap.get?_push_size (s.heap.push PySem.W.emptyDict) (o := PySem.W.instObj C s.heap.objs.size) rfl
   rwa [Heap.size_push] at this
 have e3 : (s.heap.push PySem.W.emptyDict).Ns s.heap.objs.size (fun _ => none) := ⟨PySem.W.emptyDict, #[], _, e1, rfl, (fun e he => absurd he (by simp)), fun _ => rfl⟩
 have I1 := I.laid (a := s.heap.objs.size) (o := .own (s.heap.objs.size + 1)) (h' := s.heap.push PySem.W.emptyDict) (t' := s.toks) (fun b u q => Heap.get?_push_of_some _ q) (Nat.le_refl _) ⟨_, e1⟩
 refine I1.laid (a := s.heap.objs.size + 1) (o := .ins C s.heap.objs.size []) (t' := s.toks) (fun b u q => Heap.get?_push_of_some _ q) (Nat.le_of_eq (Heap.size_push _ _)) ?_
 have ne : s.heap.objs.size ≠ s.heap.objs.size + 1 := Nat.ne_of_lt (Nat.lt_succ_self _)
 refine ⟨by rw [zE ne, zC], Nat.zero_le _, ne, e2, fun _ => none, (Heap.Ns1.of_empty e3).at fun o q => Heap.get?_push_of_some _ q, fun _ => True.intro, fun y hy => absurd rfl hy⟩
theorem attr_of {prog : Program} {w : World} {env : Env} {e : Expr} {f : Str} {pos : Pos} {s : Shared} {Q : Value -> Shared -> Prop} (hb : attributeBase e f env (eval e env) = eval e env)
   (h : wpAny (model prog w) A (eval e env) (fun o s₁ => wpAny (model prog w) A (getAttr o f true) Q E s₁) E s) : wpAny (model prog w) A (eval (.Attribute e f pos) env) Q E s :=
 Attribute_any_ h (by rw [arm_eval_Attribute, hb])
end
def tFld (K : PySem.W.Frag) (ta : TE) (f : Str) : TE := fun σ H Q => ta σ H fun x H1 => ∃ a C dx fs v, x = .ref a /\ H1 a = some (.ins C dx fs) /\ Cls K C /\ NoAttr K C f /\ fs.lookup f = some v /\ Q v H1
def sFld (K : PySem.W.Frag) (ta tv : TE) (f : Str) : TS := fun D σ H => tv σ H fun y H1 => ta σ H1 fun x H2 => ∃ a C dx fs, x = .ref a /\ H2 a = some (.ins C dx fs) /\ Cls K C /\ NoAttr K C f /\ fs.length < 1000 /\
 D.nx σ (upd H2 a (.ins C dx (zY f y fs)))
def InOp (X : Cx) (op : Operator) (rd : V -> V -> Hp -> VK -> Prop) : Prop :=
 ∀ (pins : List (Addr × Obj)) (s : Shared) (σ : St) (H : Hp) (x y : V) (u v : Value) (Q : VK), Inv X pins σ H s -> RelV x u -> RelV y v -> rd x y H Q -> wpAny (model X.prog X.w) X.A (inplaceOp op u v) (EP X pins σ Q) X.xe s
def sFldAug (K : PySem.W.Frag) (ta tv : TE) (rd : V -> V -> Hp -> VK -> Prop) (f : Str) : TS := fun D σ H => ta σ H fun x H1 => ∃ a C dx fs v, x = .ref a /\ H1 a = some (.ins C dx fs) /\ Cls K C /\ NoAttr K C f /\ fs.lookup f = some v /\
 tv σ H1 fun y H2 => rd v y H2 fun z H3 => ∃ dx' fs', H3 a = some (.ins C dx' fs') /\ fs'.length < 1000 /\ D.nx σ (upd H3 a (.ins C dx' (zY f z fs')))
section
variable {X : Cx} {o e value : Expr} {f : Str} {pos pos' tpos : Pos} {ta tv : TE}
theorem jF (he : PE X e ta) (hb : attributeBase e f X.env (eval e X.env) = eval e X.env) : PE X (.Attribute e f pos) (tFld X.K ta f) := by
 intro pins s σ H Q I h
 refine attr_of hb (thn (he pins s σ H _ I h) fun u s1 ⟨x, H1, I1, rx, a, C, dx, fs, v, ex, ea, c, n, l, q⟩ => ?_)
 subst ex
 obtain rfl : u = Value.ref a := rx
 exact qL I1 ea c n l fun u' s2 I2 ru => ⟨v, H1, I2, ru, q⟩
theorem uK (ha : PE X o ta) (hv : PE X value tv) (hs : swapsWith value (some (.Attribute o f pos')) pos.line X.env = pure false) : PS X (.Assign [.Attribute o f pos'] value pos) (sFld X.K ta tv f) := by
 intro pins s σ H D I h
 refine plainObj_wpAny_Assign_Attribute (thn (hv pins s σ H _ I h) fun u s1 ⟨y, H1, I1, ry, q⟩ => thn (ha pins s1 σ H1 _ I1 q) fun ov s2 ⟨x, H2, I2, rx, a, C, dx, fs, ex, ea, c, n, l, q2⟩ => ?_) hs
 subst ex
 obtain rfl : ov = Value.ref a := rx
 exact qC I2 ea c n l ry fun s3 I3 => ⟨σ, _, I3, q2⟩
theorem ps_fldaug {op : Operator} {rd : V -> V -> Hp -> VK -> Prop} (ha : PE X o ta) (hv : PE X value tv) (hop : InOp X op rd) : PS X (.AugAssign (.Attribute o f tpos) op value pos) (sFldAug X.K ta tv rd f) := by
 intro pins s σ H D I h
 refine wpAny_AugAssign_AttributeAny (thn (ha pins s σ H _ I h) fun ov s1 ⟨x, H1, I1, rx, a, C, dx, fs, v, ex, ea, c, n, l, q⟩ => ?_)
 subst ex
 obtain rfl : ov = Value.ref a := rx
 refine qL I1 ea c n l fun u s2 I2 ru => thn (hv pins s2 σ H1 _ I2 q) fun w3 s3 ⟨y, H2, I3, ry, q3⟩ => thn (hop pins s3 σ H2 v y u w3 _ I3 ru ry q3) fun w4 s4 ⟨z, H3, I4, rz, dx', fs', ea', l', q4⟩ => ?_
 exact qC I4 ea' c n l' rz fun s5 I5 => ⟨σ, _, I5, q4⟩
def rAdd : V -> V -> Hp -> VK -> Prop := fun x y H Q => ∃ i j, x = .int i /\ y = .int j /\ Q (.int (i + j)) H
theorem in_add : InOp X .Add rAdd := by
 rintro pins s σ H x y u v Q I rx ry ⟨i, j, rfl, rfl, q⟩
 obtain ⟨t, rfl⟩ := (show ∃ t, u = Value.int i t from rx)
 obtain ⟨t', rfl⟩ := (show ∃ t', v = Value.int j t' from ry)
 exact PyProof.Rows.iadd_int ⟨.int (i + j), H, I.tok _, ⟨_, rfl⟩, q⟩
end
section
variable {X : Cx} {pins : List (Addr × Obj)} {σ : St} {H : Hp} {s : Shared} {A : Around} {E : Value -> Shared -> Prop} {Q : Value -> Shared -> Prop} {c : Value} {b : Bool}
inductive TyOf (K : PySem.W.Frag) (H : Hp) : V -> Value -> Prop where
 | non : TyOf K H .non (.type "NoneType")
 | bl (x : Bool) : TyOf K H (.bl x) (.type "bool")
 | int (i : Int) : TyOf K H (.int i) (.type "int")
 | str (x : Str) : TyOf K H (.str x) (.type "str")
 | flt (x : UInt64) : TyOf K H (.flt x) (.type "float")
 | lst {a : Addr} {xs : List V} (e : H a = some (.lst xs)) : TyOf K H (.ref a) (.type "list")
 | frz {a : Addr} {o : Obj} {xs : List V} (e : H a = some (.frz o (.lst xs))) : TyOf K H (.ref a) (.type "list")
 | tup {a : Addr} {xs : List V} (e : H a = some (.tup xs)) : TyOf K H (.ref a) (.type "tuple")
 | dK {a : Addr} {kvs : List (Key × V)} (e : H a = some (.dK kvs)) : TyOf K H (.ref a) (.type "dict")
 | dT {a : Addr} {kvs : List (List Key × V)} (e : H a = some (.dT kvs)) : TyOf K H (.ref a) (.type "dict")
 | ins {a C dx : Addr} {fs : List (Str × V)} (e : H a = some (.ins C dx fs)) (cl : Cls K C) (ha : PySem.W.findIn K (.ref C) "__class__" = some (some (.builtin "object.__class__")))
     (hn : PySem.W.specialIn K (.builtin "object.__class__") "__get__" = some (some (.builtin "getset_descriptor.__get__"))) (htk : PySem.W.takesIn K (.builtin "object.__class__") = some true)
     (hm : PySem.W.mroIn K C (.type "object") = some true) : TyOf K H (.ref a) (.ref C)
theorem isinst_ok {x : V} {u t : Value} (I : Inv X pins σ H s) (rx : RelV x u) (ty : TyOf X.K H x t) (e : PySem.W.kitOne X.K t c = some b) (h : ∀ tk, Q (.bool b) { s with toks := tk }) :
   wpAny (model X.prog X.w) A (call (.builtin "isinstance") [u, c]) Q E s := by
 cases ty with
 | non => cases (show u = Value.none from rx); exact PySem.W.kia_one PySem.W.kitx_none I.kIn True.intro e (fun z => nomatch z) h
 | bl y => cases (show u = Value.bool y from rx); exact PySem.W.kia_one PySem.W.kitx_bool I.kIn True.intro e (fun z => nomatch z) h
 | int i => obtain ⟨t, q⟩ := (show ∃ t, u = Value.int i t from rx); cases q; exact PySem.W.kia_one PySem.W.kitx_int I.kIn True.intro e (fun z => nomatch z) h
 | str y => obtain ⟨t, q⟩ := (show ∃ t, u = Value.str y t from rx); cases q; exact PySem.W.kia_one PySem.W.kitx_str I.kIn True.intro e (fun z => nomatch z) h
 | flt y => obtain ⟨t, q⟩ := (show ∃ t, u = Value.float y t from rx); cases q; exact PySem.W.kia_one PySem.W.kitx_float I.kIn True.intro e (fun z => nomatch z) h
 | @lst a xs ea =>
   cases (show u = Value.ref a from rx)
   obtain ⟨_, _, n, _, h1⟩ := (show ObjOk X.prog X.w H s.heap a (.lst xs) from I.hok a _ ea)
   exact PySem.W.kia_one PySem.W.kitx_list I.kIn ⟨_, h1, rfl⟩ e (fun z => nomatch z) h
 | @frz a ob xs ea =>
   cases (show u = Value.ref a from rx)
   obtain ⟨_, _, _, n, _, h1⟩ := (show ObjOk X.prog X.w H s.heap a (.frz ob (.lst xs)) from I.hok a _ ea)
   exact PySem.W.kia_one PySem.W.kitx_list I.kIn ⟨_, h1, rfl⟩ e (fun z => nomatch z) h
 | @tup a xs ea =>
   cases (show u = Value.ref a from rx)
   obtain ⟨_, _, _, p⟩ := (show ObjOk X.prog X.w H s.heap a (.tup xs) from I.hok a _ ea)
   obtain ⟨o, h1, h2, _⟩ := p
   exact PySem.W.kia_one PySem.W.kitx_tuple I.kIn ⟨o, h1, h2⟩ e (fun z => nomatch z) h
 | @dK a kvs ea =>
   cases (show u = Value.ref a from rx)
   obtain ⟨_, _, vs, _, p⟩ := (show ObjOk X.prog X.w H s.heap a (.dK kvs) from I.hok a _ ea)
   obtain ⟨o, es, ep, h1, h2, _⟩ := p
   exact PySem.W.kia_one PySem.W.kitx_dict I.kIn ⟨o, h1, h2.1⟩ e (fun z => nomatch z) h
 | @dT a kvs ea =>
   cases (show u = Value.ref a from rx)
   obtain ⟨_, _, xs, _, o, es, ep, h1, h2, _⟩ := (show ObjOk X.prog X.w H s.heap a (.dT kvs) from I.hok a _ ea)
   exact PySem.W.kia_one PySem.W.kitx_dict I.kIn ⟨o, h1, h2.1⟩ e (fun z => nomatch z) h
 | @ins a C dx fs ea cl ha hn htk hm =>
   cases (show u = Value.ref a from rx)
   obtain ⟨mA, O, _⟩ := jY I.hok ea
   obtain ⟨od, J, _⟩ := O.look
   exact PySem.W.kia_one (PySem.W.kitx_own (cl.get _) cl.hd ha hn htk hm) I.kIn J e (fun z => nomatch z) h
end
structure Room (k : Nat) (A : Around) : Prop where
 hd : A.handled = none
 dp : A.depth + 3 * k + 5 < recursionLimit
 un : A.units + 16 * k + 200 < cLine
theorem Room.mono {j k : Nat} {A : Around} (r : Room k A) (h : j <= k) : Room j A := ⟨r.hd, by have := r.dp; omega, by have := r.un; omega⟩
theorem Room.deeper {k : Nat} {A : Around} (r : Room (k + 1) A) (env : Env) : Room k (A.deeper env) :=
 ⟨r.hd, by have := r.dp; show A.depth + 1 + 3 * k + 5 < _; omega, by have := r.un; show A.units + 3 + 16 * k + 200 < _; omega⟩
theorem make_depth {A : Around} {C : Addr} {us : List Value} {kw : List (Str × Value)} : (A.under (.builtin "type.__call__" ⟨.ref C :: us, kw⟩)).depth = A.depth + 1 := by
 first | rfl | simp [Around.under, Code.weight, Code.isCreation, Code.isGuard, Code.isCaller, Code.frames, Code.isFrame, guardIds]
theorem make_units {A : Around} {C : Addr} {us : List Value} {kw : List (Str × Value)} : (A.under (.builtin "type.__call__" ⟨.ref C :: us, kw⟩)).units = A.units + 1 := by
 first | rfl | simp [Around.under, Code.cUnits, Code.frames, Code.isFrame]
theorem Room.make {k : Nat} {A : Around} (r : Room (k + 1) A) (C : Addr) (us : List Value) (kw : List (Str × Value)) : Room k (A.under (.builtin "type.__call__" ⟨.ref C :: us, kw⟩)) :=
 ⟨r.hd, by have := r.dp; rw [make_depth]; omega, by have := r.un; rw [make_units]; omega⟩
theorem Room.depth {k : Nat} {A : Around} (r : Room k A) : A.depth < recursionLimit := by have := r.dp; omega
theorem Room.units {k : Nat} {A : Around} (r : Room k A) : A.units + 64 < cLine := by have := r.un; omega
def tNil : TA := fun _ H Q => Q [] H
def tCons (ta : TE) (tr : TA) : TA := fun σ H Q => ta σ H fun x H1 => tr σ H1 fun xs H2 => Q (x :: xs) H2
section
variable {X : Cx} {e : Expr} {es : List Expr} {te : TE} {t : TA} {pos : Pos}
theorem pa_nil : PA X [] tNil := fun _ _ _ _ H Q I h => Calls.spliced_nil ⟨[], H, I, .nil, h⟩
theorem zA (ha : PE X e te) (hr : PA X es t) (hs : starEach (e :: es) X.env = (false, eval e X.env) :: starEach es X.env := by rfl) : PA X (e :: es) (tCons te t) := by
 intro pos pins s σ H Q I h
 rw [hs]
 show wpAny _ _ (spliced ((false, eval e X.env) :: backTo pos (starEach es X.env))) _ _ s
 refine Calls.spliced_cons (thn (ha pins s σ H _ I h) fun u s1 ⟨x, H1, I1, r1, q1⟩ => ?_)
 exact thn (hr pos pins s1 σ H1 _ I1 q1) fun us s2 ⟨xs, H2, I2, r2, q2⟩ => ⟨x :: xs, H2, I2, .cons r1 r2, q2⟩
def tTup (t : TA) : TE := fun σ H Q => t σ H fun xs H1 => xs.length <= sizeLine /\ ∀ p, H1 p = none -> Q (.ref p) (upd H1 p (.tup xs))
def tLst (t : TA) : TE := fun σ H Q => t σ H fun xs H1 => xs.length <= sizeLine /\ ∀ p, H1 p = none -> Q (.ref p) (upd H1 p (.lst xs))
theorem yB {x1} (h : PA X es t) : PE X (.Tuple es x1 pos) (tTup t) := by
 intro pins s σ H Q I hq
 refine wpAny_Tuple_spliced (thn (h pos pins s σ H _ I hq) fun us s1 ⟨xs, H1, I1, r, z, q⟩ => ⟨by rw [← r.length]; exact z, ?_⟩)
 have hf : H1 s1.heap.objs.size = none := I1.hok.fresh (Nat.le_refl _)
 refine ⟨.ref s1.heap.objs.size, upd H1 s1.heap.objs.size (.tup xs), I1.laid (t' := s1.toks) (fun b u e => Heap.get?_push_of_some _ e) (Nat.le_refl _) ?_, rfl, q _ hf⟩
 exact ⟨z, us, r, ⟨_, Heap.get?_push_size _ rfl, rfl, _, rfl⟩⟩
theorem yE (h : PA X es t) : PE X (.List es pos) (tLst t) := by
 intro pins s σ H Q I hq
 refine wpAny_List_spliced (thn (h pos pins s σ H _ I hq) fun us s1 ⟨xs, H1, I1, r, z, q⟩ => ⟨by rw [← r.length]; exact z, ?_⟩)
 have hf : H1 s1.heap.objs.size = none := I1.hok.fresh (Nat.le_refl _)
 refine ⟨.ref s1.heap.objs.size, upd H1 s1.heap.objs.size (.lst xs), I1.laid (t' := s1.toks) (fun b u e => Heap.get?_push_of_some _ e) (Nat.le_refl _) ?_, rfl, q _ hf⟩
 exact ⟨z, us, 0, r, Heap.get?_push_size _ rfl⟩
end
abbrev Sp := List V -> Hp -> VK -> XK -> Prop
abbrev CXT := List Env -> Hp -> Shared -> XK -> Value -> Shared -> Prop
structure Env0 (P : Program) (w : World) (K : PySem.W.Frag) (mg : Str -> Option Value) (base : Heap) (A : Around) (outer : List Env) (s : Shared) (H : Hp) : Prop where
 frames : A.frames = some outer
 mod : Mod K mg base
 bs : ∀ b o, base.get? b = some o -> s.heap.get? b = some o /\ H b = none
 bsz : base.objs.size <= s.heap.objs.size
 funs : s.heap.FunFrames base outer
 frf : ∀ b ∈ frs outer, H b = none
 hok : HOk P w H s.heap
 bare : AllBare s.gens
def CE (outer : List Env) (P : Program) (w : World) (H : Hp) (s : Shared) (Q : VK) (u : Value) (s' : Shared) : Prop :=
 ∃ v H', s'.os = s.os /\ AllBare s'.gens /\ Un (frs outer) [] H H' s.heap s'.heap /\ HOk P w H' s'.heap /\ RelV v u /\ Q v H'
def CR (CX : CXT) (outer : List Env) (P : Program) (w : World) (H : Hp) (s : Shared) (Q : VK) (E : XK) (r : Result) (s' : Shared) : Prop :=
 match r with
 | .ok (.ret u) => CE outer P w H s Q u s'
 | .ok _ => False
 | .error e => CX outer H s E e s'
structure FnOk (P : Program) (w : World) (K : PySem.W.Frag) (mg : Str -> Option Value) (base : Heap) (CX : CXT) (k : Nat) (f : Addr) (fd : FuncData) (ps : List Str) (sp : Sp) : Prop where
 len : ∀ vs H Q E, sp vs H Q E -> vs.length = ps.length
 run : ∀ (A : Around) (outer : List Env) (s : Shared) (H : Hp) (args : Args) (us : List Value) (vs : List V) (Q : VK) (E : XK), Room k A -> Env0 P w K mg base A outer s H -> BindsTo s fd args (ps.zip us) -> Vals vs us -> sp vs H Q E ->
   codeAny (model P w) A (.call (.ref f) args) (CR CX outer P w H s Q E) s
theorem Env0.make {P : Program} {w : World} {K : PySem.W.Frag} {mg : Str -> Option Value} {base : Heap} {A : Around} {outer : List Env} {s : Shared} {H : Hp} (e : Env0 P w K mg base A outer s H) (C : Addr) (us : List Value) (kw : List (Str × Value)) :
   Env0 P w K mg base (A.under (.builtin "type.__call__" ⟨.ref C :: us, kw⟩)) outer s H := ⟨by first | exact e.frames | (simpa [Around.under, Code.envs, Code.isFrame, pushEnvs] using e.frames), e.mod, e.bs, e.bsz, e.funs, e.frf, e.hok, e.bare⟩
section
variable {X : Cx} {pins : List (Addr × Obj)} {σ : St} {H : Hp} {s s' : Shared}
theorem Inv.env0 (I : Inv X pins σ H s) : Env0 X.prog X.w X.K X.mg X.base X.A X.stack s H :=
 ⟨I.ok.frames, I.ok.mod, I.bs, Nat.le_trans I.ok.bsz I.sz, I.stack, I.stkFree, I.hok, I.bare⟩
theorem Inv.after {Q : VK} {u : Value} (I : Inv X pins σ H s) (h : CE X.stack X.prog X.w H s Q u s') : EP X pins σ Q u s' := by
 obtain ⟨v, H', os, bare, un, hok, r, q⟩ := h
 obtain ⟨hh, g, d, t, os'⟩ := s'
 obtain rfl : os' = s.os := os
 exact ⟨v, H', I.call (h' := hh) (g' := g) (d' := d) (t' := t) (ch := []) un hok bare (fun b z => absurd z (by simp)), r, q⟩
end
def tCall (sp : Sp) (dvs : List V) (E : XK) (t : TA) : TE := fun σ H Q => t σ H fun vs H1 => sp (vs ++ dvs) H1 Q E
def tMeth (C : Addr) (m : Str) (sp : Sp) (dvs : List V) (E : XK) (ta : TE) (t : TA) : TE := fun σ H Q => ta σ H fun x H1 => ∃ a dx fs, x = .ref a /\ H1 a = some (.ins C dx fs) /\ fs.lookup m = none /\
 t σ H1 fun vs H2 => sp (x :: (vs ++ dvs)) H2 Q E
def tMake (C : Addr) (sp : Sp) (dvs : List V) (E : XK) (t : TA) : TE := fun σ H Q => t σ H fun vs H1 => ∀ x dx, H1 x = none -> H1 dx = none -> dx ≠ x ->
 sp (.ref x :: (vs ++ dvs)) (upd (upd H1 dx (.own x)) x (.ins C dx [])) (fun v H2 => v = .non /\ Q (.ref x) H2) E
def Binds (K : PySem.W.Frag) (fd : FuncData) (ps : List Str) (ds : List Value) : Prop :=
 ∀ (s : Shared) (us : List Value), K.In s.heap -> (us ++ ds).length = ps.length -> BindsTo s fd ⟨us, []⟩ (ps.zip (us ++ ds))
theorem Binds.all {K : PySem.W.Frag} {fd : FuncData} {ps : List Str} (h : ∀ us : List Value, us.length = ps.length -> bindArgs fd ⟨us, []⟩ = pure (ps.zip us)) : Binds K fd ps [] := fun s us _ hl => by
 rw [List.append_nil] at hl ⊢
 exact .of_eq (h us hl)
def jL (CX : CXT) (X : Cx) (E : XK) : Prop := ∀ (pins : List (Addr × Obj)) (σ : St) (H : Hp) (s : Shared) (e : Value) (s' : Shared), Inv X pins σ H s -> CX X.stack H s E e s' -> X.xe e s'
section
variable {X : Cx} {CX : CXT} {k : Nat} {f C : Addr} {fd : FuncData} {ps : List Str} {sp : Sp} {dvs : List V} {ds : List Value} {E : XK} {x m : Str} {p pos apos : Pos} {e o : Expr} {es : List Expr} {ta : TE} {t : TA}
theorem run_fn {pins : List (Addr × Obj)} {σ : St} {H : Hp} {s : Shared} {Q : VK} {us : List Value} {vs : List V} (F : FnOk X.prog X.w X.K X.mg X.base CX k f fd ps sp) (hr : Room k X.A) (hb : Binds X.K fd ps ds) (hd : Vals dvs ds) (hx : jL CX X E)
   (I : Inv X pins σ H s) (r : Vals vs us) (h : sp (vs ++ dvs) H Q E) : wpAny (model X.prog X.w) X.A (call (.ref f) us) (EP X pins σ Q) X.xe s := by
 have r2 : Vals (vs ++ dvs) (us ++ ds) := r.append hd
 have hl : (us ++ ds).length = ps.length := by rw [← r2.length]; exact F.len _ _ _ _ h
 refine wpAny_call (codeAny_mono (F.run X.A X.stack s H ⟨us, []⟩ (us ++ ds) (vs ++ dvs) Q E hr I.env0 (hb s us I.kIn hl) r2 h) fun r s' hq => ?_)
 cases r with
 | error e => exact hx pins σ H s e s' I hq
 | ok fl =>
   cases fl with
   | ret u => exact I.after hq
   | next => exact False.elim hq
   | brk => exact False.elim hq
   | cont => exact False.elim hq
theorem pe_call (F : FnOk X.prog X.w X.K X.mg X.base CX k f fd ps sp) (hr : Room k X.A) (hg : Gl X x) (hm : X.mg x = some (.ref f)) (hk : PySem.W.keepIn X.K (.ref f) = true) (hb : Binds X.K fd ps ds) (hd : Vals dvs ds) (hx : jL CX X E)
   (ha : PA X (e :: es) t) (hdb : (x == ("__debug__" : Str)) = false := by decide) (he : starEach (e :: es) X.env = (false, eval e X.env) :: starEach es X.env := by rfl) (hpl : (backTo pos (starEach es X.env)).any (·.1) = false := by rfl) :
   PE X (.Call (.Name x p) (e :: es) [] pos) (tCall sp dvs E t) := by
 intro pins s σ H Q I h
 refine wpAny_Call_Name_kw (xY I hg hm ?_ hdb)
 refine PySem.W.callWith_K (h₀ := X.base) I.ok.mod.kin hk (thn (ha pos pins s σ H _ I h) fun us s1 ⟨vs, H1, I1, r, q⟩ => ⟨I1.kIn, ?_⟩) he hpl
 exact run_fn F hr hb hd hx I1 r q
theorem pe_meth0 {pl : Sem Bool} (he : PE X o ta) (c : Cls X.K C) (hm : Meth X.K C m f) (F : FnOk X.prog X.w X.K X.mg X.base CX k f fd ps sp) (hr : Room k X.A) (hb : Binds X.K fd ps ds) (hd : Vals dvs ds) (hx : jL CX X E)
   (ht : eval (.Call (.Attribute o m apos) [] [] pos) X.env = (do
     let ov ← eval o X.env
     standAt apos.atName
     let (f, first) ← holding [ov] (getMethod ov m pl)
     callWith pos f first (backTo pos (starEach [] X.env)) (backToKw pos (keywordEach [] X.env))) := by rfl) :
   PE X (.Call (.Attribute o m apos) [] [] pos) (tMeth C m sp dvs E ta tNil) := by
 intro pins s σ H Q I h
 refine PySem.W.methodCall_KW (pl := pl) (thn (he pins s σ H _ I h) fun u s1 ⟨x, H1, I1, rx, a, dx, fs, ex, ea, l, q⟩ => ?_) ht
 subst ex
 obtain rfl : u = Value.ref a := rx
 refine qK I1 ea c hm l ?_
 exact PySem.W.callWith_K0 (first := [.ref a]) I1.kIn hm.kp (run_fn (us := [.ref a]) (vs := [.ref a]) F hr hb hd hx I1 (.cons rfl .nil) q)
structure Mk (K : PySem.W.Frag) (C f : Addr) : Prop where
 makes : PySem.W.makesIn K C = true
 init : PySem.W.findIn K (.ref C) "__init__" = some (some (.ref f))
 fn : PySem.W.isFn K (.ref f) = true
 kp : PySem.W.keepIn K (.ref C) = true
theorem run_make {pins : List (Addr × Obj)} {σ : St} {H : Hp} {s : Shared} {Q : VK} {us : List Value} {vs : List V} (M : Mk X.K C f) (F : FnOk X.prog X.w X.K X.mg X.base CX k f fd ps sp) (hr : Room (k + 1) X.A) (hb : Binds X.K fd ps ds) (hd : Vals dvs ds)
   (hx : jL CX X E) (I : Inv X pins σ H s) (r : Vals vs us)
   (h : ∀ x dx, H x = none -> H dx = none -> dx ≠ x -> sp (.ref x :: (vs ++ dvs)) (upd (upd H dx (.own x)) x (.ins C dx [])) (fun v H2 => v = .non /\ Q (.ref x) H2) E) :
   wpAny (model X.prog X.w) X.A (call (.ref C) us) (EP X pins σ Q) X.xe s := by
 have hq := h (s.heap.objs.size + 1) s.heap.objs.size (I.hok.fresh (Nat.le_succ _)) (I.hok.fresh (Nat.le_refl _)) (Nat.ne_of_lt (Nat.lt_succ_self _))
 have I2 := Inv.made (C := C) I
 have r2 : Vals (V.ref (s.heap.objs.size + 1) :: (vs ++ dvs)) (Value.ref (s.heap.objs.size + 1) :: (us ++ ds)) := .cons rfl (r.append hd)
 have hl : (Value.ref (s.heap.objs.size + 1) :: us ++ ds).length = ps.length := by
   have e := r2.length
   rw [F.len _ _ _ _ hq] at e
   exact e.symm
 refine wpAny_call (make_map (f := f) I.kIn M.makes M.init (beq_iff_eq.mp M.fn) (codeAny_mono (F.run _ X.stack _ _ ⟨Value.ref (s.heap.objs.size + 1) :: us, []⟩ (Value.ref (s.heap.objs.size + 1) :: (us ++ ds)) _ _ E (hr.make C us [])
   (I2.env0.make C us []) (hb _ (Value.ref (s.heap.objs.size + 1) :: us) I2.kIn hl) r2 hq) fun r s' hq' => ?_))
 cases r with
 | error e => exact hx pins σ _ _ e s' I2 hq'
 | ok fl =>
   cases fl with
   | ret u =>
     obtain ⟨v, H', I3, rv, ev, q3⟩ := I2.after hq'
     subst ev
     exact ⟨rv, ⟨V.ref (s.heap.objs.size + 1), H', I3, rfl, q3⟩⟩
   | next => exact False.elim hq'
   | brk => exact False.elim hq'
   | cont => exact False.elim hq'
theorem pe_make0 (M : Mk X.K C f) (F : FnOk X.prog X.w X.K X.mg X.base CX k f fd ps sp) (hr : Room (k + 1) X.A) (hg : Gl X x) (hm : X.mg x = some (.ref C)) (hb : Binds X.K fd ps ds) (hd : Vals dvs ds) (hx : jL CX X E)
   (hdb : (x == ("__debug__" : Str)) = false := by decide) : PE X (.Call (.Name x p) [] [] pos) (tMake C sp dvs E tNil) := by
 intro pins s σ H Q I h
 refine wpAny_Call_Name_kw (xY I hg hm ?_ hdb)
 exact PySem.W.callWith_K0 I.kIn M.kp (run_make (us := []) M F hr hb hd hx I .nil h)
end
section
variable {X : Cx} {CX : CXT} {k : Nat} {f C : Addr} {fd : FuncData} {ps ks : List Str} {sp : Sp} {E : XK} {x m : Str} {p pos apos kpos : Pos} {e o : Expr} {es : List Expr} {kws : List Keyword} {te ta : TE} {t tk : TA} {nm : Option Str}
structure KBinds (K : PySem.W.Frag) (fd : FuncData) (ps ks : List Str) (g : List Value -> List Value -> List Value) (gV : List V -> List V -> List V) : Prop where
 to : ∀ (s : Shared) (us ws : List Value), K.In s.heap -> (g us ws).length = ps.length -> BindsTo s fd ⟨us, ks.zip ws⟩ (ps.zip (g us ws))
 rel : ∀ {vs : List V} {us : List Value} {zs : List V} {ws : List Value}, Vals vs us -> Vals zs ws -> Vals (gV vs zs) (g us ws)
variable {g : List Value -> List Value -> List Value} {gV : List V -> List V -> List V}
end
structure FnScope (N P : List Str) (sc : Scope) : Prop where
 kind : sc.kind = .function
 co : sc.isCoroutine = false
 gen : sc.isGenerator = false
 nd : N.Nodup
 pre : N.take P.length = P
 par : ∀ x ∈ P, sc.names.lookup x = some .local \/ sc.names.lookup x = some .cell
 nofree : ∀ y ∈ sc.names, y.2 ≠ .free
theorem uF {kindOf : Str -> Option NameKind} {x : Str} : ∀ {binds : List (Str × Value)} {m : Str -> Option Value}, (∀ v, (x, v) ∉ binds) -> bindL kindOf binds m x = m x
 | [], _, _ => rfl
 | (n, v) :: r, m, h => by
   unfold bindL
   rw [uF fun w hw => h w (List.mem_cons_of_mem _ hw)]
   split
   · have : x ≠ n := by rintro rfl; exact h v List.mem_cons_self
     simp [this]
   · rfl
theorem uH {kindOf : Str -> Option NameKind} {x : Str} : ∀ {binds : List (Str × Value)} {m : Str -> Option Value}, (∀ v, (x, v) ∉ binds) -> bindC kindOf binds m x = m x
 | [], _, _ => rfl
 | (n, v) :: r, m, h => by
   unfold bindC
   rw [uH fun w hw => h w (List.mem_cons_of_mem _ hw)]
   split
   · rfl
   · have : x ≠ n := by rintro rfl; exact h v List.mem_cons_self
     simp [this]
theorem uG {kindOf : Str -> Option NameKind} {x : Str} {v : Value} : ∀ {P : List Str} {vs : List Value} {i : Nat} {m : Str -> Option Value}, P.Nodup -> P[i]? = some x -> vs[i]? = some v -> kindOf x = some .local ->
   bindL kindOf (P.zip vs) m x = some v
 | [], _, _, _, _, h, _, _ => by simp at h
 | _ :: _, [], _, _, _, _, h, _ => by simp at h
 | p :: P, w :: vs, 0, m, nd, h1, h2, hk => by
   simp at h1 h2; subst h1; subst h2
   show bindL kindOf ((p, w) :: P.zip vs) m p = _
   unfold bindL
   rw [uF fun v hv => (List.nodup_cons.mp nd).1 (List.of_mem_zip hv).1, if_pos hk]
   simp
 | p :: P, w :: vs, i + 1, m, nd, h1, h2, hk => by
   show bindL kindOf ((p, w) :: P.zip vs) m x = _
   unfold bindL
   exact uG (i := i) (List.nodup_cons.mp nd).2 (by simpa using h1) (by simpa using h2) hk
theorem uI {kindOf : Str -> Option NameKind} {x : Str} {v : Value} : ∀ {P : List Str} {vs : List Value} {i : Nat} {m : Str -> Option Value}, P.Nodup -> P[i]? = some x -> vs[i]? = some v -> kindOf x ≠ some .local ->
   bindC kindOf (P.zip vs) m x = some v
 | [], _, _, _, _, h, _, _ => by simp at h
 | _ :: _, [], _, _, _, _, h, _ => by simp at h
 | p :: P, w :: vs, 0, m, nd, h1, h2, hk => by
   simp at h1 h2; subst h1; subst h2
   show bindC kindOf ((p, w) :: P.zip vs) m p = _
   unfold bindC
   rw [uH fun v hv => (List.nodup_cons.mp nd).1 (List.of_mem_zip hv).1, if_neg hk]
   simp
 | p :: P, w :: vs, i + 1, m, nd, h1, h2, hk => by
   show bindC kindOf ((p, w) :: P.zip vs) m x = _
   unfold bindC
   exact uI (i := i) (List.nodup_cons.mp nd).2 (by simpa using h1) (by simpa using h2) hk
def start (N : List Str) (vs : List V) : St := vs.map some ++ List.replicate (N.length - vs.length) none
def xL (CX : CXT) (P : Program) (w : World) (K : PySem.W.Frag) (mg : Str -> Option Value) (base : Heap) (N : List Str) (qual : Str) (scope : Scope) (f : Addr) (cd : Value) (A : Around) (outer : List Env) (s : Shared) (H : Hp) (E : XK) : Cx where
 prog := P
 w := w
 K := K
 mg := mg
 base := base
 A := A.deeper (envOfC qual scope s.heap.objs.size f cd)
 N := N
 s₀ := s
 H₀ := H
 env := envOfC qual scope s.heap.objs.size f cd
 outer := outer
 stack := envOfC qual scope s.heap.objs.size f cd :: outer
 ex := []
 calm := true
 fn := fun _ => true
 pn := []
 xe := fun e s' => wpAny (model P w) (A.deeper (envOfC qual scope s.heap.objs.size f cd)) (leaving (envOfC qual scope s.heap.objs.size f cd) e) (fun _ s'' => CX outer H s E e s'') (fun e' s'' => CX outer H s E e' s'') s'
theorem cell_has {sc : Scope} {n : Nat} {x : Str} (h : sc.names.lookup x = some .cell) : ∃ c, (cellsFrom n sc.names []).lookup x = some c := by
 have q := PySem.W.cellsFrom_some sc.names n [] (.inl h)
 exact Option.isSome_iff_exists.mp q
theorem inv_start {CX : CXT} {P : Program} {w : World} {K : PySem.W.Frag} {mg : Str -> Option Value} {base : Heap} {N ps : List Str} {qual : Str} {scope : Scope} {f : Addr} {cd : Value} {A : Around} {outer : List Env} {s s1 : Shared} {H : Hp} {E : XK} {us : List Value} {vs : List V}
   (S : FnScope N ps scope) (hd : A.handled = none) (e0 : Env0 P w K mg base A outer s H) (hl : vs.length = ps.length) (r : Vals vs us)
   (x : InCallC s s.heap.objs.size (bindL (envOfC qual scope s.heap.objs.size f cd).kindOf (ps.zip us) fun _ => none) (cellsFrom (s.heap.objs.size + 1) scope.names []) (bindC (envOfC qual scope s.heap.objs.size f cd).kindOf (ps.zip us) fun _ => none) s1) :
   Inv (xL CX P w K mg base N qual scope f cd A outer s H E) [] (start N vs) H s1 := by
 have hpl : ps.length <= N.length := by have := congrArg List.length S.pre; rw [List.length_take] at this; omega
 obtain ⟨h1, tk, rfl, hk⟩ := x.done
 have noA : ∀ b : Addr, b ∉ (xL CX P w K mg base N qual scope f cd A outer s H E).ex := fun b z => absurd (show b ∈ ([] : List Addr) from z) (by simp)
 refine ⟨⟨e0.mod, S.kind, rfl, rfl, Nat.le_refl _, fun y z c h1 h2 => ?_, fun y hy => ?_, fun y c _ h => ?_, fun _ => hd, Around.frames_deeper e0.frames, .inr ⟨rfl, rfl⟩, fun b z => absurd z (noA b), e0.bs, e0.bsz, fun b _ _ => noA b, fun b z => absurd z (noA b), e0.funs, e0.frf⟩,
   rfl, e0.bare, Un.kept hk, ⟨_, x.toInCall.ns, fun i y v h1 h2 h3 => ?_⟩, fun y c h => ⟨_, x.cell y c h⟩, e0.hok.fresh (Nat.le_refl _), fun y c h => ?_, fun p hp => absurd (show p ∈ ([] : List (Addr × Obj)) from hp) (by simp), e0.hok.kept hk, ?_⟩
 · exact name_of_addr x.apart (PySem.mem_of_lookup h1) (PySem.mem_of_lookup h2)
 · have hy : scope.names.lookup y = some .cell \/ scope.names.lookup y = some .free := hy
   rcases hy with hy | hy
   · exact cell_has hy
   · exact absurd rfl (S.nofree _ (PySem.mem_of_lookup hy))
 · exact Nat.le_of_lt (x.above y c (PySem.mem_of_lookup h))
 · have hi : i < vs.length := by
     unfold start at h2
     by_cases hi : i < vs.length
     · exact hi
     · rw [List.getElem?_append_right (by simpa using hi)] at h2
       rw [List.getElem?_replicate] at h2
       split at h2 <;> cases h2
   have ha : vs[i]? = some v := by
     unfold start at h2
     rw [List.getElem?_append_left (by simpa using hi), List.getElem?_map] at h2
     cases e : vs[i]? with
     | none => rw [e] at h2; cases h2
     | some a => rw [e] at h2; cases h2; rfl
   obtain ⟨u, hu, rv⟩ := r.get ha
   have hp : ps[i]? = some y := by
     rw [← S.pre, List.getElem?_take_of_lt (by omega)]; exact h1
   have ndP : ps.Nodup := by rw [← S.pre]; exact S.nd.sublist (List.take_sublist _ _)
   refine ⟨u, rv, ?_⟩
   rcases S.par y (List.mem_of_getElem? hp) with k | k
   · exact .inl ⟨k, uG ndP hp hu k⟩
   · obtain ⟨c, e⟩ := cell_has (n := s.heap.objs.size + 1) k
     refine .inr ⟨.inl k, c, e, ?_⟩
     have q := x.cell y c e
     rw [uI ndP hp hu (by show scope.names.lookup y ≠ _; rw [k]; decide)] at q
     exact q
 · exact e0.hok.fresh (Nat.le_of_lt (x.above y c (PySem.mem_of_lookup h)))
 · unfold start
   show _ = N.length
   rw [List.length_append, List.length_map, List.length_replicate]
   omega
theorem fn_of {CX : CXT} {P : Program} {w : World} {K : PySem.W.Frag} {mg : Str -> Option Value} {base : Heap} {k : Nat} {f : Addr} {name qual : Str} {params : Arguments} {body : List Stmt} {scope : Scope} {dV kV doc pm cdv ct oc : Value} {an od : Option Addr}
   {osl : Array (Option Value)} {N ps : List Str} {sp : Sp} (lk : K.lookup f = some ⟨oc, od, .func (PySem.W.fnOf name qual params body scope dV kV doc pm an cdv ct), osl⟩) (hcd : PySem.W.codeIn K cdv qual = true) (S : FnScope N ps scope)
   (len : ∀ vs H Q E, sp vs H Q E -> vs.length = ps.length)
   (hbody : ∀ (A : Around) (outer : List Env) (s : Shared) (H : Hp) (vs : List V) (Q : VK) (E : XK), Room k (A.deeper (envOfC qual scope s.heap.objs.size f cdv)) -> sp vs H Q E ->
     ∃ t, PSs (xL CX P w K mg base N qual scope f cdv A outer s H E) body t /\ t { nx := fun _ H' => Q .non H', rt := Q } (start N vs) H) :
   FnOk P w K mg base CX (k + 1) f (PySem.W.fnOf name qual params body scope dV kV doc pm an cdv ct) ps sp := by
 refine ⟨len, fun A outer s H args us vs Q E hr e0 hb r hsp => ?_⟩
 have hl := len _ _ _ _ hsp
 have KX : K.In s.heap := e0.mod.kin.keeps fun b o e => (e0.bs b o e).1
 have lim : s.heap.NoLimit := e0.mod.nolimit.keeps fun b o e => (e0.bs b o e).1
 have hkind : ∀ y ∈ ps.zip us, scope.names.lookup y.1 = some .local \/ (scope.names.lookup y.1 = some .cell /\ ((cellsFrom (s.heap.objs.size + 1) scope.names []).lookup y.1).isSome = true) := fun ⟨n, v⟩ hy => by
   rcases S.par n (List.of_mem_zip hy).1 with q | q
   · exact .inl q
   · exact .inr ⟨q, PySem.W.cellsFrom_some _ _ _ (.inl q)⟩
 refine codeAny_call_function hr.depth (KX _ _ lk) rfl S.co S.gen rfl (PySem.W.codeRec_of KX hcd) (hb _ _ _ _ ?_)
 refine wpAny_newFunctionEnv_cells S.kind hkind fun env he s1 x => ?_
 subst he
 refine ⟨lim.keeps x.toInCall.keep, codeAny_func ?_⟩
 obtain ⟨t, ht, hq⟩ := hbody A outer s H vs Q E (hr.deeper _) hsp
 have I : Inv (xL CX P w K mg base N qual scope f cdv A outer s H E) [] (start N vs) H s1 := inv_start S hr.hd e0 hl r x
 refine wpAny_mono (ht [] s1 (start N vs) H _ I hq) (fun fl s' hs => ?_) fun e s' hs => hs
 have fin : ∀ {σ' : St} {H' : Hp} {v : V} {u : Value}, Inv (xL CX P w K mg base N qual scope f cdv A outer s H E) [] σ' H' s' -> RelV v u -> Q v H' -> CE outer P w H s Q u s' :=
   fun {σ' H' v u} J rv q => ⟨v, H', J.os, J.bare, J.base, J.hok, rv, q⟩
 cases fl with
 | ret u =>
   obtain ⟨v, σ', H', J, rv, q⟩ := hs
   exact fin J rv q
 | next =>
   obtain ⟨σ', H', J, q⟩ := hs
   exact fin (v := V.non) (u := Value.none) J rfl q
 | brk =>
   obtain ⟨_, _, _, q⟩ := hs
   exact False.elim q
 | cont =>
   obtain ⟨_, _, _, q⟩ := hs
   exact False.elim q
section
variable {X : Cx} {x : Str} {p pos : Pos} {e : Expr} {es : List Expr} {t : TA} {id T : String} {r : List V -> Hp -> VK -> Prop}
def tCB (r : List V -> Hp -> VK -> Prop) (t : TA) : TE := fun σ H Q => t σ H fun vs H1 => r vs H1 Q
theorem zK (hc : jA X (.builtin id) r) (hg : Gl X x) (hm : X.mg x = none) (hv : bootBuiltins x = some (.builtin id)) (ha : PA X (e :: es) t) (hn : x ≠ "__name__" := by decide) (hdb : (x == ("__debug__" : Str)) = false := by decide)
   (he : starEach (e :: es) X.env = (false, eval e X.env) :: starEach es X.env := by rfl) (hpl : (backTo pos (starEach es X.env)).any (·.1) = false := by rfl) : PE X (.Call (.Name x p) (e :: es) [] pos) (tCB r t) := by
 intro pins s σ H Q I h
 refine wpAny_Call_Name_kw (qI I hg hm hv ?_ hn hdb)
 exact PyProof.Rows.callWith_builtin1 (thn (ha pos pins s σ H _ I h) fun us s1 ⟨vs, H1, I1, r1, q1⟩ => hc pins s1 σ H1 vs us Q I1 r1 q1) he hpl
theorem jG (hc : jA X (.type T) r) (hg : Gl X x) (hm : X.mg x = none) (hv : bootBuiltins x = some (.type T)) (ha : PA X (e :: es) t) (hn : x ≠ "__name__" := by decide) (hdb : (x == ("__debug__" : Str)) = false := by decide)
   (he : starEach (e :: es) X.env = (false, eval e X.env) :: starEach es X.env := by rfl) (hpl : (backTo pos (starEach es X.env)).any (·.1) = false := by rfl) : PE X (.Call (.Name x p) (e :: es) [] pos) (tCB r t) := by
 intro pins s σ H Q I h
 refine wpAny_Call_Name_kw (qI I hg hm hv ?_ hn hdb)
 exact PyProof.Rows.callWith_type1 (thn (ha pos pins s σ H _ I h) fun us s1 ⟨vs, H1, I1, r1, q1⟩ => hc pins s1 σ H1 vs us Q I1 r1 q1) he hpl
end
end L2
namespace HT
open PySem PyProof.Rows
section
open PySem.SeqAt
open PySem.AutoSeq1 (wpAny_loadPart')
open PySem.MeetsSeq PySem.MeetsSeq2 PySem.MeetsSeq3
end
section
variable {prog : Program} {w : World} {A : Around} {E : Value -> Shared -> Prop} {s : Shared}
def sIx (n d : Nat) : Option Int -> Nat
 | none => d
 | some v => if v < 0 then (v + (n : Int)).toNat else min v.toNat n
theorem sIx_none (n d : Nat) : sIx n d none = d := rfl
theorem sIx_nat (n d k : Nat) : sIx n d (some (k : Int)) = min k n := by
 show (if (k : Int) < 0 then ((k : Int) + (n : Int)).toNat else min (k : Int).toNat n) = min k n
 rw [if_neg (by omega), Int.toNat_natCast]
end
end HT
namespace L2
open PySem PySem.Spec PyProof.Rows
abbrev TO := St -> Hp -> (Option Int -> Hp -> Prop) -> Prop
def PO (X : Cx) (e : Option Expr) (t : TO) : Prop :=
 ∀ (pins : List (Addr × Obj)) (s : Shared) (σ : St) (H : Hp) (Q : Option Int -> Hp -> Prop), Inv X pins σ H s -> t σ H Q ->
   wpAny (model X.prog X.w) X.A (evalPart e X.env) (fun u s' => ∃ o H', Inv X pins σ H' s' /\ IsPart u o /\ Q o H') X.xe s
def tNoPart : TO := fun _ H Q => Q none H
def tPart (t : TE) : TO := fun σ H Q => t σ H fun x H1 => ∃ i, x = .int i /\ Q (some i) H1
section
variable {X : Cx} {e : Expr} {te : TE} {lo hi : Option Expr} {tl th : TO} {pos p2 : Pos}
theorem po_none : PO X none tNoPart := by
 intro pins s σ H Q I h
 rw [evalPart_none]
 exact wpAny_pure ⟨none, H, I, .none, h⟩
theorem po_some (h : PE X e te) : PO X (some e) (tPart te) := by
 intro pins s σ H Q I hw
 rw [evalPart_some]
 refine thn (h pins s σ H _ I hw) fun u s1 ⟨x, H1, I1, r1, q1⟩ => ?_
 obtain ⟨i, rfl, q⟩ := q1
 obtain ⟨t, rfl⟩ := r1
 exact ⟨some i, H1, I1, .int i t, q⟩
def SlR (X : Cx) (r : V -> Option Int -> Option Int -> Hp -> VK -> Prop) : Prop :=
 ∀ (pins : List (Addr × Obj)) (s : Shared) (σ : St) (H : Hp) (x : V) (v vl vu : Value) (lo hi : Option Int) (sl : Addr) (Q : VK), Inv X pins σ H s -> RelV x v -> s.heap.IsSliceOf sl vl vu .none -> IsPart vl lo -> IsPart vu hi -> r x lo hi H Q ->
   ∃ T id, typeLookup (.type T) "__getitem__" = pure (some (.builtin id)) /\ s.TypeIs v T /\ wpAny (model X.prog X.w) X.A (getItem v (.ref sl)) (EP X pins σ Q) X.xe s
def tSl (r : V -> Option Int -> Option Int -> Hp -> VK -> Prop) (te : TE) (tl th : TO) : TE := fun σ H Q => te σ H fun x H1 => tl σ H1 fun l H2 => th σ H2 fun u H3 => r x l u H3 Q
theorem pe_slice {r : V -> Option Int -> Option Int -> Hp -> VK -> Prop} (hr : SlR X r) (he : PE X e te) (hl : PO X lo tl) (hu : PO X hi th) : PE X (.Subscript e (.Slice lo hi none p2) pos) (tSl r te tl th) := by
 intro pins s σ H Q I h
 refine Subscript_ (thn (he pins s σ H _ I h) fun v s1 ⟨x, H1, I1, r1, q1⟩ => ?_)
 refine wpAny_Slice (thn (hl pins s1 σ H1 _ I1 q1) fun vl s2 ⟨l, H2, I2, pl, q2⟩ => thn (hu pins s2 σ H2 _ I2 q2) fun vu s3 ⟨u, H3, I3, pu, q3⟩ => ?_)
 rw [evalPart_none]
 refine wpAny_pure ?_
 have I4 : Inv X pins σ H3 { s3 with heap := s3.heap.push { cls := .type "slice", data := .fields #[vl, vu, .none] } } := I3.kept (t' := s3.toks) fun b ob q => Heap.get?_push_of_some _ q
 obtain ⟨T, id, hT, ht, hg⟩ := hr pins { s3 with heap := s3.heap.push { cls := .type "slice", data := .fields #[vl, vu, .none] } } σ H3 x v vl vu l u s3.heap.objs.size Q I4 r1 (Heap.IsSliceOf.new ..) pl pu q3
 show wpAny (model X.prog X.w) X.A (subscriptTail e (.Slice lo hi none p2) v (.ref s3.heap.objs.size)) (EP X pins σ Q) X.xe { s3 with heap := s3.heap.push { cls := .type "slice", data := .fields #[vl, vu, .none] } }
 exact tail_any (ops := [.ref s3.heap.objs.size, v]) ht hT hg (by with_unfolding_all rfl)
def cutV (xs : List V) (lo hi : Option Int) : List V := (xs.drop (HT.sIx xs.length 0 lo)).take (HT.sIx xs.length xs.length hi - HT.sIx xs.length 0 lo)
theorem cutV_length (xs : List V) (lo hi : Option Int) : (cutV xs lo hi).length <= xs.length := by
 unfold cutV
 rw [List.length_take, List.length_drop]
 omega
def rSlT (K : PySem.W.Frag) : V -> Option Int -> Option Int -> Hp -> VK -> Prop := fun x lo hi H Q => ∃ a xs, x = .ref a /\ SqT K H a xs /\
 ¬ (HT.sIx xs.length 0 lo = 0 /\ HT.sIx xs.length xs.length hi = xs.length) /\ ∀ p, H p = none -> Q (.ref p) (upd H p (.tup (cutV xs lo hi)))
def rCatT (K : PySem.W.Frag) : R2 := fun x y H Q => ∃ a b xs ys, x = .ref a /\ y = .ref b /\ SqT K H a xs /\ SqT K H b ys /\ xs ≠ [] /\ xs.length + ys.length <= sizeLine /\
 (ys = [] -> Q (.ref a) H) /\ (ys ≠ [] -> ∀ p, H p = none -> Q (.ref p) (upd H p (.tup (xs ++ ys))))
end
def ixN (n : Nat) (i : Int) : Option Nat := if 0 <= i then (if i < n then some i.toNat else none) else if -(n : Int) <= i then some (i + n).toNat else none
def atI {α : Type} (xs : List α) (i : Int) : Option α := (ixN xs.length i).bind fun j => xs[j]?
theorem ixN_seq {n : Nat} {i : Int} {j : Nat} (h : ixN n i = some j) : seqIndex? i n = some j /\ j < n /\ -(n : Int) <= i /\ i < n := by
 unfold ixN at h
 by_cases h0 : 0 <= i
 · rw [if_pos h0] at h
   by_cases h1 : i < n
   · rw [if_pos h1] at h
     have e : i.toNat = j := Option.some.inj h
     exact ⟨by rw [seqIndex_of h0 h1, e], by omega, by omega, h1⟩
   · rw [if_neg h1] at h; cases h
 · rw [if_neg h0] at h
   by_cases h1 : -(n : Int) <= i
   · rw [if_pos h1] at h
     have e : (i + n).toNat = j := Option.some.inj h
     exact ⟨by rw [seqIndex_neg (by omega) h1, e], by omega, h1, by omega⟩
   · rw [if_neg h1] at h; cases h
theorem uT {α : Type} {xs : List α} {i : Int} {v : α} (h : atI xs i = some v) : ∃ j, seqIndex? i xs.length = some j /\ xs[j]? = some v /\ j < xs.length /\ -(xs.length : Int) <= i /\ i < xs.length := by
 unfold atI at h
 cases e : ixN xs.length i with
 | none => rw [e] at h; cases h
 | some j =>
   rw [e] at h
   obtain ⟨h1, h2, h3, h4⟩ := ixN_seq e
   exact ⟨j, h1, h, h2, h3, h4⟩
theorem xK {α : Type} {xs : List α} {j : Nat} {v : α} (h : xs[j]? = some v) : atI xs (j : Int) = some v := by
 have hj : j < xs.length := (List.getElem?_eq_some_iff.mp h).1
 have e : ixN xs.length (j : Int) = some j := by
   unfold ixN
   rw [if_pos (by omega), if_pos (by omega)]; simp
 unfold atI; rw [e]; exact h
def PlainIx (b : Expr) : Prop := ∀ o i, subscripted b false o i = operate [o, i] (getItem o i)
def IxR (X : Cx) (r : R2) : Prop :=
 ∀ (value slice : Expr) (pins : List (Addr × Obj)) (s : Shared) (σ : St) (H : Hp) (x y : V) (v u : Value) (Q : VK), Inv X pins σ H s -> RelV x v -> RelV y u -> r x y H Q ->
   subscripted slice false v u = operate [v, u] (getItem v u) -> wpAny (model X.prog X.w) X.A (subscriptTail value slice v u) (EP X pins σ Q) X.xe s
def MtR (X : Cx) (id : String) (r : V -> List V -> Hp -> VK -> Prop) : Prop :=
 ∀ (pins : List (Addr × Obj)) (s : Shared) (σ : St) (H : Hp) (x : V) (xs : List V) (v : Value) (us : List Value) (Q : VK), Inv X pins σ H s -> RelV x v -> Vals xs us -> r x xs H Q ->
   wpAny (model X.prog X.w) X.A (call (.builtin id) (v :: us)) (EP X pins σ Q) X.xe s
section
variable {X : Cx} {a b : Expr} {ta tb : TE} {pos : Pos}
theorem zQ {r : R2} (hr : IxR X r) (ha : PE X a ta) (hb : PE X b tb) (hs : PlainIx b) : PE X (.Subscript a b pos) (tOp r ta tb) := by
 intro pins s σ H Q I h
 exact Subscript_ (binT ha hb I h fun v u s2 x y H2 I2 rx ry q => hr a b pins s2 σ H2 x y v u Q I2 rx ry q (hs _ _))
def rIxL (K : PySem.W.Frag) : R2 := fun x y H Q => ∃ p xs i v, x = .ref p /\ y = .int i /\ SqL K H p xs /\ atI xs i = some v /\ Q v H
def rIxT (K : PySem.W.Frag) : R2 := fun x y H Q => ∃ p xs i v, x = .ref p /\ y = .int i /\ SqT K H p xs /\ atI xs i = some v /\ Q v H
def rIxS : R2 := fun x y H Q => ∃ z i c, x = .str z /\ y = .int i /\ z.length <= sizeLine /\ atI z.cps.toList i = some c /\ Q (.str ⟨#[c]⟩) H
theorem ix_list : IxR X (rIxL X.K) := by
 intro value slice pins s σ H x y v u Q I rx ry h hs
 obtain ⟨p, xs, i, z, rfl, rfl, hq, he, q⟩ := h
 cases rx
 obtain ⟨t, rfl⟩ := ry
 obtain ⟨its, r, pl, hz⟩ := I.list hq
 obtain ⟨j, h1, h2, h3, h4, h5⟩ := uT he
 obtain ⟨w, ew, rw'⟩ := r.get h2
 have hl := r.length
 have hn := line63
 have fin : EP X pins σ Q w s := ⟨z, H, I, rw', q⟩
 by_cases h0 : 0 <= i
 · have hj : i.toNat = j := by
     rw [seqIndex_of h0 h5] at h1
     exact Option.some.inj h1
   exact item_listR pl.isList h0 (by omega) (by rw [hj]; simpa using ew) fin hs
 · have hj : (i + (its.toArray.size : Int)).toNat = j := by
     rw [seqIndex_neg (by omega) h4] at h1
     rw [List.size_toArray, ← hl]
     exact Option.some.inj h1
   exact subscriptTail_builtinR (x := w) pl.isList.typeIs slot_list_getitem.lookup
     (wpAny_getItem_list_neg (Q := fun r s' => r = w /\ EP X pins σ Q r s') pl.isList (by omega) (by rw [List.size_toArray] <;> omega) (by omega) (by rw [hj]; simpa using ew) ⟨rfl, fin⟩) hs
theorem ix_tup : IxR X (rIxT X.K) := by
 intro value slice pins s σ H x y v u Q I rx ry h hs
 obtain ⟨p, xs, i, z, rfl, rfl, hq, he, q⟩ := h
 cases rx
 obtain ⟨t, rfl⟩ := ry
 obtain ⟨its, r, pl, hz⟩ := I.tuple hq
 obtain ⟨j, h1, h2, h3, h4, h5⟩ := uT he
 obtain ⟨w, ew, rw'⟩ := r.get h2
 have hl := r.length
 have hn := line63
 have fin : EP X pins σ Q w s := ⟨z, H, I, rw', q⟩
 exact subscriptTail_builtinR (x := w) pl.typeIs slot_tuple_getitem.lookup
   (getItem_tuple (j := j) (Q := fun r s' => r = w /\ EP X pins σ Q r s') pl (by omega) (by omega) (by rw [List.size_toArray, ← hl]; exact h1) (by simpa using ew) ⟨rfl, fin⟩) hs
theorem ix_str : IxR X rIxS := by
 intro value slice pins s σ H x y v u Q I rx ry h hs
 obtain ⟨z, i, c, rfl, rfl, hz, he, q⟩ := h
 obtain ⟨t, rfl⟩ := rx
 obtain ⟨t', rfl⟩ := ry
 obtain ⟨j, h1, h2, h3, h4, h5⟩ := uT he
 have hl : z.cps.toList.length = z.length := by simp [Str.length]
 rw [hl] at h1 h4 h5
 have hn := line63
 exact tail_any (typeIs_str s z t) slot_str_getitem.lookup (getItem_str (c := c) (by
   have e1 : decide (i < -(2 ^ 63 : Int)) = false := decide_eq_false (by omega)
   have e2 : decide (i ≥ 2 ^ 63) = false := decide_eq_false (by omega)
   rw [e1, e2, Bool.or_false]) (by rw [h1]; simpa using h2) ⟨.str ⟨#[c]⟩, H, I.tok _, ⟨_, rfl⟩, q⟩) hs
theorem mapSeq_set (its : List Value) (n j : Nat) (u : Value) : Obj.mapSeq (·.setIfInBounds j u) { cls := .type "list", data := .seq its.toArray n } = { cls := .type "list", data := .seq (its.set j u).toArray n } := by
 simp [Obj.mapSeq]
theorem Inv.lst {pins : List (Addr × Obj)} {σ : St} {H : Hp} {s : Shared} {p : Addr} {xs : List V} (I : Inv X pins σ H s) (h : H p = some (.lst xs)) :
   ∃ (its : List Value) (n : Nat), Vals xs its /\ s.heap.get? p = some { cls := .type "list", data := .seq its.toArray n } /\ xs.length <= sizeLine := by
 obtain ⟨z, its, n, r, e⟩ := I.hok p _ h
 exact ⟨its, n, r, e, z⟩
theorem Inv.lstUpd {pins : List (Addr × Obj)} {σ : St} {H : Hp} {s : Shared} {p : Addr} {xs ys : List V} {its its' : List Value} {n n' : Nat} {f : Obj -> Obj} (I : Inv X pins σ H s) (h : H p = some (.lst xs))
   (ho : s.heap.get? p = some { cls := .type "list", data := .seq its.toArray n }) (hf : f { cls := .type "list", data := .seq its.toArray n } = { cls := .type "list", data := .seq its'.toArray n' }) (r : Vals ys its') (hz : ys.length <= sizeLine) (t : Nat) :
   Inv X pins σ (upd H p (.lst ys)) { s with heap := s.heap.update p f, toks := t } := by
 have e : (s.heap.update p f).get? p = some { cls := .type "list", data := .seq its'.toArray n' } := by
   rw [Heap.get?_update_self f ho (by rw [hf] <;> rfl), hf]
 refine I.write (x := p) (e := p) (by rw [h]; trivial) (.inl rfl) (fun b u hb q => (Heap.get?_update_other _ _ (Ne.symm hb)).trans q) ⟨_, e⟩ ?_
 exact ⟨hz, its', n', r, e⟩
def rSetL : V -> V -> V -> Hp -> (Hp -> Prop) -> Prop := fun o i v H Q => ∃ p xs k j, o = .ref p /\ i = .int k /\ H p = some (.lst xs) /\ ixN xs.length k = some j /\ Q (upd H p (.lst (xs.set j v)))
theorem set_list : PSet X rSetL := by
 intro pins s σ H o i v ov iv u Q I ro ri rv h
 obtain ⟨p, xs, k, j, rfl, rfl, hp, hj, q⟩ := h
 cases ro
 obtain ⟨t, rfl⟩ := ri
 obtain ⟨its, n, r, ho, hz⟩ := I.lst hp
 obtain ⟨h1, h2, h3, h4⟩ := ixN_seq hj
 have hl := r.length
 have hn := line63
 have I' : Inv X pins σ (upd H p (.lst (xs.set j v))) { s with heap := s.heap.update p (Obj.mapSeq (·.setIfInBounds j u)) } :=
   I.lstUpd hp ho (mapSeq_set its n j u) (r.set rv j) (by rw [List.length_set]; exact hz) s.toks
 by_cases h0 : 0 <= k
 · have hk : k.toNat = j := by
     rw [seqIndex_of h0 h4] at h1
     exact Option.some.inj h1
   exact PySem.W.ki_setAt ho h0 (by omega) (by rw [List.size_toArray, ← hl]; exact h4) (by rw [hk]; exact ⟨_, I', q⟩)
 · have hk : (k + (its.toArray.size : Int)).toNat = j := by
     rw [seqIndex_neg (by omega) h3] at h1
     rw [List.size_toArray, ← hl]
     exact Option.some.inj h1
   exact PySem.W.ki_setBack ho (by omega) (by rw [List.size_toArray, ← hl]; exact h3) (by omega) (by rw [hk]; exact ⟨_, I', q⟩)
theorem uJ (lo hi : Option Int) (n : Nat) : (sliceBounds lo hi none n).1 = ((HT.sIx n 0 lo : Nat) : Int) /\ (sliceBounds lo hi none n).2.1 = ((HT.sIx n n hi : Nat) : Int) /\ (sliceBounds lo hi none n).2.2 = 1 := by
 refine ⟨?_, ?_, rfl⟩
 · cases lo with
   | none => simp [sliceBounds, HT.sIx]
   | some i =>
     simp only [sliceBounds, HT.sIx, Option.getD_none, show (1 : Int) > 0 by decide, if_true]
     by_cases h : i < 0
     · simp only [h, if_true] <;> omega
     · simp only [h, if_false] <;> omega
 · cases hi with
   | none => simp [sliceBounds, HT.sIx]
   | some i =>
     simp only [sliceBounds, HT.sIx, Option.getD_none, show (1 : Int) > 0 by decide, if_true]
     by_cases h : i < 0
     · simp only [h, if_true] <;> omega
     · simp only [h, if_false] <;> omega
theorem qO (its : List Value) (lo hi : Option Int) : slicePick its.toArray lo hi none = ((its.drop (HT.sIx its.length 0 lo)).take (HT.sIx its.length its.length hi - HT.sIx its.length 0 lo)).toArray := by
 obtain ⟨h1, h2, h3⟩ := uJ lo hi its.toArray.size
 unfold slicePick
 rw [h1, h2, h3]
 simp only [sliceRange_one, pick_run, List.size_toArray] <;> rfl
def rSlL (K : PySem.W.Frag) : V -> Option Int -> Option Int -> Hp -> VK -> Prop := fun x lo hi H Q => ∃ a xs, x = .ref a /\ SqL K H a xs /\ ∀ p, H p = none -> Q (.ref p) (upd H p (.lst (cutV xs lo hi)))
theorem sl_list : SlR X (rSlL X.K) := by
 intro pins s σ H x v vl vu lo hi sl Q I rx hs pl pu h
 obtain ⟨a, xs, rfl, hx, q⟩ := h
 cases rx
 obtain ⟨its, r, ht, hz⟩ := I.list hx
 have hlen := r.length
 refine ⟨"list", _, slot_list_getitem.lookup, ht.isList.typeIs, ?_⟩
 refine wpAny_getItem_list_slice ht.isList hs pl pu .none (by simp) ?_ (by rw [List.size_toArray] <;> omega)
 rw [qO, ← hlen]
 refine ⟨.ref s.heap.objs.size, _, I.laid (t' := s.toks) (o := .lst (cutV xs lo hi)) (fun b ob q => Heap.get?_push_of_some _ q) (Nat.le_refl _) ?_, rfl, q _ (I.hok.fresh (Nat.le_refl _))⟩
 exact ⟨Nat.le_trans (cutV_length xs lo hi) hz, _, 0, (r.drop (HT.sIx xs.length 0 lo)).take (HT.sIx xs.length xs.length hi - HT.sIx xs.length 0 lo), Heap.get?_push_size _ rfl⟩
theorem call_list_of : jA X (.type "list") (fun xs H Q => ∃ p ys, xs = [.ref p] /\ (SqL X.K H p ys \/ SqT X.K H p ys) /\ ∀ l, H l = none -> Q (.ref l) (upd H l (.lst ys))) := by
 intro pins s σ H xs us Q I r h
 obtain ⟨p, ys, rfl, hq, q⟩ := h
 obtain ⟨u, rfl, rx⟩ := vals1 r
 cases rx
 have fin : ∀ (its : List Value), Vals ys its -> ys.length <= sizeLine -> ∀ (h' : Heap) (c' : Nat), (∀ b o', s.heap.get? b = some o' -> h'.get? b = some o') ->
     h'.get? s.heap.objs.size = some { cls := .type "list", dict := none, data := .seq its.toArray c', slots := #[] } -> EP X pins σ Q (.ref s.heap.objs.size) { s with heap := h' } := fun its r' hz h' c' kp e =>
   ⟨.ref s.heap.objs.size, _, I.laid (t' := s.toks) kp (Nat.le_refl _) (show ObjOk X.prog X.w _ h' _ (.lst ys) from ⟨hz, its, c', r', e⟩), rfl, q _ (I.hok.fresh (Nat.le_refl _))⟩
 rcases hq with hq | hq
 · obtain ⟨its, r', pl, hz⟩ := I.list hq
   have hlen := r'.length
   obtain ⟨o, ho, hc, n, hd⟩ := pl.isList
   exact call_list_seq p (.inl rfl) ho hc hd (fun h' c' kp e => fin its r' hz h' c' kp e) (by simp only [List.size_toArray] <;> omega)
 · obtain ⟨its, r', pl, hz⟩ := I.tuple hq
   have hlen := r'.length
   obtain ⟨o, ho, hc, n, hd⟩ := pl
   exact call_list_seq p (.inr rfl) ho hc hd (fun h' c' kp e => fin its r' hz h' c' kp e) (by simp only [List.size_toArray] <;> omega)
def tyV (K : PySem.W.Frag) (T : String) (x : V) (H : Hp) : Prop := match x with
 | .str _ => T = "str"
 | .int _ => T = "int"
 | .ref p => (T = "list" /\ ∃ xs, SqL K H p xs) \/ (T = "tuple" /\ ∃ o, K.lookup p = some o /\ o.cls = .type "tuple" /\ o.dict = none) \/
     (T = "dict" /\ ((∃ kvs, H p = some (.dK kvs)) \/ ∃ kvs, H p = some (.dT kvs))) \/ (T = "set" /\ ∃ S n, H p = some (.set S n))
 | _ => False
theorem tyV_is {pins : List (Addr × Obj)} {σ : St} {H : Hp} {s : Shared} {T : String} {x : V} {v : Value} (I : Inv X pins σ H s) (r : RelV x v) (ty : tyV X.K T x H) :
   s.TypeIs v T /\ ∀ a, v = .ref a -> ∃ ob, s.heap.get? a = some ob /\ ob.dict = none := by
 cases x with
 | str z =>
   obtain ⟨t, rfl⟩ := r
   cases (show T = "str" from ty)
   exact ⟨typeIs_str s z t, fun _ e => nomatch e⟩
 | int i =>
   obtain ⟨t, rfl⟩ := r
   cases (show T = "int" from ty)
   exact ⟨typeIs_int s i t, fun _ e => nomatch e⟩
 | ref p =>
   cases r
   rcases ty with ⟨rfl, xs, hq⟩ | ⟨rfl, o, hk, hc, hd⟩ | ⟨rfl, hk⟩ | ⟨rfl, S, n, hk⟩
   · obtain ⟨its, _, pl, _⟩ := I.list hq
     refine ⟨pl.isList.typeIs, fun a e => ?_⟩
     cases e
     obtain ⟨o, n, e, c, hd, _⟩ := pl
     exact ⟨o, e, hd⟩
   · refine ⟨⟨o, I.kIn p o hk, hc⟩, fun a e => ?_⟩
     cases e
     exact ⟨o, I.kIn _ o hk, hd⟩
   · have z : ∃ o, s.heap.get? p = some o /\ o.ExactDict := by
       rcases hk with ⟨kvs, hk⟩ | ⟨kvs, hk⟩
       · obtain ⟨_, _, _, _, o, _, _, e, ex, _⟩ := I.hok p _ hk
         exact ⟨o, e, ex⟩
       · obtain ⟨_, _, _, _, o, _, _, e, ex, _⟩ := I.hok p _ hk
         exact ⟨o, e, ex⟩
     obtain ⟨o, e, ex⟩ := z
     refine ⟨⟨o, e, ex.1⟩, fun a e2 => ?_⟩
     cases e2
     exact ⟨o, e, ex.2.1⟩
   · obtain ⟨o, _, _, _, e, ex, _⟩ := I.hok p _ hk
     refine ⟨⟨o, e, ex.1⟩, fun a e2 => ?_⟩
     cases e2
     exact ⟨o, e, ex.2.1⟩
 | _ => exact False.elim ty
def tBM0 (K : PySem.W.Frag) (T : String) (r : V -> List V -> Hp -> VK -> Prop) (to : TE) : TE := fun σ H Q => to σ H fun x H1 => tyV K T x H1 /\ r x [] H1 Q
def tBM (K : PySem.W.Frag) (T : String) (r : V -> List V -> Hp -> VK -> Prop) (to : TE) (t : TA) : TE := fun σ H Q => to σ H fun x H1 => tyV K T x H1 /\ t σ H1 fun xs H2 => r x xs H2 Q
variable {o e : Expr} {es : List Expr} {to : TE} {t : TA} {name : Str} {apos cpos : Pos} {T id : String} {r : V -> List V -> Hp -> VK -> Prop}
theorem xN (pa : PlainAttrs T) (slot : Slot T name id) (hty : typeOf (.builtin id) = pure (.type "method_descriptor")) (hm : MtR X id r) (ho : PE X o to) (ha : PA X (e :: es) t)
   (hbase : attributeBase o name X.env (eval o X.env) = eval o X.env := by rfl)
   (hfew : ((backTo cpos (starEach (e :: es) X.env)).all (fun x => !x.1) && (backToKw cpos (keywordEach [] X.env)).all (fun x => x.1.isSome)
     && decide ((e :: es).length + ([] : List Keyword).length + (if ([] : List Keyword).isEmpty then 0 else 1) < 30)) = true := by rfl)
   (hline : (apos.endLine == cpos.line) = true := by rfl) (hs : starEach (e :: es) X.env = (false, eval e X.env) :: starEach es X.env := by rfl) (hplain : (backTo cpos (starEach es X.env)).any (·.1) = false := by rfl) :
   PE X (.Call (.Attribute o name apos) (e :: es) [] cpos) (tBM X.K T r to t) := by
 intro pins s σ H Q I h
 refine wpAny_Call_method_late hbase hfew hline rfl (thn (ho pins s σ H _ I h) fun v s1 ⟨x, H1, I1, r1, ty, q1⟩ => ?_)
 obtain ⟨h1, h2⟩ := tyV_is I1 r1 ty
 refine ⟨T, id, pa, slot, hty, h1, h2, ?_⟩
 have hA := ha cpos pins s1 σ H1 _ I1 q1
 rw [hs] at hA ⊢
 refine Calls.callWith_builtin (by show (false || (backTo cpos (starEach es X.env)).any (·.1)) = false; rw [hplain] <;> rfl) (Calls.evalArgs_plain ?_)
 exact thn hA fun us s2 ⟨vs, H2, I2, r2, q2⟩ => hm pins s2 σ H2 x vs v us Q I2 r1 r2 q2
end
def MtM (X : Cx) (id : String) (r : V -> List V -> Hp -> VK -> Prop) : Prop :=
 ∀ (pins : List (Addr × Obj)) (s : Shared) (σ : St) (H : Hp) (x : V) (xs : List V) (v : Value) (us : List Value) (Q : VK), Inv X pins σ H s -> RelV x v -> Vals xs us -> r x xs H Q ->
   wpAny (model X.prog X.w) X.A (call (.builtin id) (v :: us)) (EP X pins σ Q) X.xe s
theorem Vals.one : ∀ {x : V} {us : List Value}, Vals [x] us -> ∃ u, us = [u] /\ RelV x u
 | _, _, .cons r .nil => ⟨_, rfl, r⟩
theorem Vals.dropLast {xs : List V} {us : List Value} (h : Vals xs us) : Vals xs.dropLast us.dropLast := by
 induction h with
 | nil => exact .nil
 | cons r t ih =>
   cases t with
   | nil => exact .nil
   | cons q t' => exact .cons r ih
theorem Vals.eraseIdx : ∀ {xs : List V} {us : List Value} (i : Nat), Vals xs us -> Vals (xs.eraseIdx i) (us.eraseIdx i)
 | _, _, _, .nil => .nil
 | _, _, 0, .cons _ t => t
 | _, _, i + 1, .cons r t => .cons r (Vals.eraseIdx i t)
theorem qZ {α : Type} : ∀ (l : List α) (i : Nat), (l.eraseIdx i).length <= l.length
 | [], _ => Nat.le_refl _
 | _ :: _, 0 => Nat.le_succ _
 | _ :: r, i + 1 => Nat.succ_le_succ (qZ r i)
section
variable {X : Cx} {pins : List (Addr × Obj)} {σ : St} {H : Hp} {s : Shared} {l b : Addr} {xs ys zs : List V}
theorem Inv.lset {its its' : List Value} {n : Nat} {f : Array Value -> Array Value} {t' : Nat} (I : Inv X pins σ H s) (hH : H l = some (.lst xs))
   (e : s.heap.get? l = some { cls := .type "list", data := .seq its.toArray n }) (hf : f its.toArray = its'.toArray) (hv : Vals ys its') (hz : ys.length <= sizeLine) :
   Inv X pins σ (upd H l (.lst ys)) { s with heap := s.heap.update l (Obj.mapSeq f), toks := t' } := by
 have q := PySem.IsL.update e f
 rw [hf] at q
 refine I.write (x := l) (e := l) (by rw [hH]; exact trivial) (.inl rfl) (fun b' u hb hu => (Heap.get?_update_other s.heap (Obj.mapSeq f) (Ne.symm hb)).trans hu) ⟨_, q⟩ ?_
 exact ⟨hz, its', _, hv, q⟩
theorem Inv.lstM (I : Inv X pins σ H s) (hH : H l = some (.lst xs)) : xs.length <= sizeLine /\ ∃ (its : List Value) (n : Nat), Vals xs its /\ xs.length = its.length /\ s.heap.get? l = some { cls := .type "list", data := .seq its.toArray n } := by
 obtain ⟨z, its, n, r, e⟩ := I.hok l _ hH
 exact ⟨z, its, n, r, r.length, e⟩
end
section
variable {X : Cx}
def rAppend : V -> List V -> Hp -> VK -> Prop := fun x vs H Q => ∃ l xs y, x = .ref l /\ vs = [y] /\ H l = some (.lst xs) /\ xs.length < sizeLine /\ Q .non (upd H l (.lst (xs ++ [y])))
theorem mt_append : MtM X "list.append" rAppend := by
 intro pins s σ H x vs v us Q I rx rv h
 obtain ⟨l, xs, y, rfl, rfl, hH, hz, q⟩ := h
 cases rx
 obtain ⟨u, rfl, ru⟩ := rv.one
 obtain ⟨z, its, n, r, hl, e⟩ := I.lstM hH
 refine call_meets F.slot_list_append ⟨_, e, rfl⟩ F.entry_list_append (F.args_list_append_2 _ _) (PySem.list_append l its.toArray n u (by rw [List.size_toArray]; omega)) ⟨e, ?_⟩
 refine ⟨.non, _, I.lset (its' := its ++ [u]) hH e (by simp) (r.append (.cons ru .nil)) ?_, rfl, q⟩
 rw [List.length_append, List.length_singleton]
 omega
def rPop : V -> List V -> Hp -> VK -> Prop := fun x vs H Q => ∃ l xs y, x = .ref l /\ vs = [] /\ H l = some (.lst xs) /\ xs[xs.length - 1]? = some y /\ Q y (upd H l (.lst xs.dropLast))
def rCat : R2 := fun x y H Q => ∃ l b xs zs, x = .ref l /\ y = .ref b /\ H l = some (.lst xs) /\ H b = some (.lst zs) /\ xs.length + zs.length <= sizeLine /\ ∀ p, H p = none -> Q (.ref p) (upd H p (.lst (xs ++ zs)))
end
section
variable {prog : Program} {w : World} {A : Around} {E : Value -> Shared -> Prop} {s : Shared}
end
section
variable {X : Cx}
end
section
variable {κ : Type} [DecidableEq κ]
def xA (kvs : List (κ × V)) (k : κ) : Option V := (kvs.find? fun kv => decide (kv.1 = k)).map (·.2)
def xR (kvs : List (κ × V)) (k : κ) (v : V) : List (κ × V) :=
 if (kvs.any fun kv => decide (kv.1 = k)) = true then kvs.map (fun kv => if kv.1 = k then (kv.1, v) else kv) else kvs ++ [(k, v)]
def jQ (kvs : List (κ × V)) (k : κ) : List (κ × V) := kvs.filter fun kv => decide (kv.1 ≠ k)
theorem xT {p : κ × V} {r : List (κ × V)} {k : κ} (e : p.1 = k) : xA (p :: r) k = some p.2 := by simp [xA, List.find?_cons, e]
theorem yZ {p : κ × V} {r : List (κ × V)} {k : κ} (e : ¬ p.1 = k) : xA (p :: r) k = xA r k := by simp [xA, List.find?_cons, e]
theorem valV_any (k : κ) : ∀ kvs : List (κ × V), (kvs.any fun kv => decide (kv.1 = k)) = (xA kvs k).isSome
 | [] => rfl
 | p :: r => by
   rw [List.any_cons]
   by_cases e : p.1 = k
   · simp only [xT e, decide_eq_true e, Bool.true_or, Option.isSome_some]
   · rw [yZ e, decide_eq_false e, Bool.false_or]; exact valV_any k r
theorem jO (kvs : List (κ × V)) (k : κ) (v : V) : (xR kvs k v).length <= kvs.length + 1 := by
 unfold xR
 split
 · rw [List.length_map]; omega
 · rw [List.length_append, List.length_cons, List.length_nil]; omega
theorem RelO.isSome_eq {o : Option V} {u : Option Value} (r : RelO o u) : o.isSome = u.isSome := by
 cases o with
 | none => cases u with
   | none => rfl
   | some _ => exact (show False from r).elim
 | some _ => cases u with
   | none => exact (show False from r).elim
   | some _ => rfl
theorem KV.val {kvs : List (κ × V)} {vs : List (κ × Value)} (r : KV kvs vs) (k : κ) : RelO (xA kvs k) (valueAt vs k) := by
 unfold KV at r
 induction r with
 | nil => exact True.intro
 | @cons p q ps qs h t ih =>
   obtain ⟨h1, h2⟩ := h
   by_cases e : p.1 = k
   · have e' : q.1 = k := h1.symm.trans e
     have b : valueAt (q :: qs) k = some q.2 := by simp [valueAt, List.find?_cons, e']
     rw [xT e, b]; exact h2
   · have e' : ¬ q.1 = k := fun z => e (h1.trans z)
     have b : valueAt (q :: qs) k = valueAt qs k := by simp [valueAt, List.find?_cons, e']
     rw [yZ e, b]; exact ih
theorem KV.any {kvs : List (κ × V)} {vs : List (κ × Value)} (r : KV kvs vs) (k : κ) : (kvs.any fun kv => decide (kv.1 = k)) = vs.any fun kv => decide (kv.1 = k) := by
 unfold KV at r
 induction r with
 | nil => rfl
 | cons h t ih => rw [List.any_cons, List.any_cons, ih, h.1]
theorem KV.repl {kvs : List (κ × V)} {vs : List (κ × Value)} (r : KV kvs vs) (k : κ) {y : V} {u : Value} (ry : RelV y u) :
   KV (kvs.map fun kv => if kv.1 = k then (kv.1, y) else kv) (vs.map fun kv => if kv.1 = k then (kv.1, u) else kv) := by
 unfold KV at r ⊢
 induction r with
 | nil => exact .nil
 | @cons p q ps qs h t ih =>
   rw [List.map_cons, List.map_cons]
   refine .cons ?_ ih
   obtain ⟨h1, h2⟩ := h
   by_cases e : p.1 = k
   · rw [if_pos e, if_pos (h1.symm.trans e)]; exact ⟨h1, ry⟩
   · rw [if_neg e, if_neg (fun z => e (h1.trans z))]; exact ⟨h1, h2⟩
theorem KV.put {kvs : List (κ × V)} {vs : List (κ × Value)} (r : KV kvs vs) (k : κ) {y : V} {u : Value} (ry : RelV y u) : KV (xR kvs k y) (stored vs k u) := by
 unfold xR stored
 rw [r.any k]
 by_cases e : (vs.any fun kv => decide (kv.1 = k)) = true
 · rw [if_pos e, if_pos e]; exact r.repl k ry
 · rw [if_neg e, if_neg e]; exact Paired.snoc r ⟨rfl, ry⟩
theorem KV.drop {kvs : List (κ × V)} {vs : List (κ × Value)} (r : KV kvs vs) (k : κ) : KV (jQ kvs k) (without vs k) := by
 unfold KV at r ⊢
 unfold jQ without
 induction r with
 | nil => exact .nil
 | @cons p q ps qs h t ih =>
   obtain ⟨h1, h2⟩ := h
   rw [List.filter_cons, List.filter_cons]
   by_cases e : p.1 = k
   · have a : ¬ decide (p.1 ≠ k) = true := by simp [e]
     have b : ¬ decide (q.1 ≠ k) = true := by simp [h1.symm.trans e]
     rw [if_neg a, if_neg b]; exact ih
   · have e' : ¬ q.1 = k := fun z => e (h1.trans z)
     have a : decide (p.1 ≠ k) = true := by simp [e]
     have b : decide (q.1 ≠ k) = true := by simp [e']
     rw [if_pos a, if_pos b]; exact .cons ⟨h1, h2⟩ ih
theorem KV.keys {kvs : List (κ × V)} {vs : List (κ × Value)} (r : KV kvs vs) : kvs.map (·.1) = vs.map (·.1) := by
 unfold KV at r
 induction r with
 | nil => rfl
 | cons h t ih => rw [List.map_cons, List.map_cons, ih, h.1]
theorem KV.length {kvs : List (κ × V)} {vs : List (κ × Value)} (r : KV kvs vs) : kvs.length = vs.length := Paired.length r
theorem dropK_le (kvs : List (κ × V)) (k : κ) : (jQ kvs k).length <= kvs.length := List.length_filter_le _ _
end
theorem kV_is {P : Program} {w : World} {k : Key} {u : Value} (r : RelV (kV k) u) : (zU P w).is k u = true := by
 cases k with
 | inl i => obtain ⟨t, e⟩ := (show ∃ t, u = Value.int i t from r); subst e; exact mixKind_int P w i t
 | inr x => obtain ⟨t, e⟩ := (show ∃ t, u = Value.str x t from r); subst e; exact jM P w x t
theorem uA {P : Program} {w : World} : ∀ {ks : List Key} {us : List Value}, Vals (ks.map kV) us -> ItemsAre (zU P w) ks us
 | [], _, r => by rw [List.map_nil] at r; cases r; exact .nil
 | k :: ks, _, r => by
   rw [List.map_cons] at r
   cases r with
   | cons h t => exact .cons (kV_is h) (uA t)
abbrev KT (H : Hp) : List (List Key × V) -> List (List Key × Addr × Value) -> Prop := Paired fun p q => p.1 = q.1 /\ H q.2.1 = some (.tup (p.1.map kV)) /\ RelV p.2 q.2.2
theorem KT.val {H : Hp} {kvs : List (List Key × V)} {xs : List (List Key × Addr × Value)} (r : KT H kvs xs) (k : List Key) : RelO (xA kvs k) ((atKey xs k).map (·.2)) := by
 induction r with
 | nil => exact True.intro
 | @cons p q ps qs h t ih =>
   obtain ⟨h1, _, h2⟩ := h
   by_cases e : p.1 = k
   · have e' : q.1 = k := h1.symm.trans e
     have b : atKey (q :: qs) k = some q.2 := by simp [atKey, List.find?_cons, e']
     rw [xT e, b]; exact h2
   · have e' : ¬ q.1 = k := fun z => e (h1.trans z)
     have b : atKey (q :: qs) k = atKey qs k := by simp [atKey, List.find?_cons, e']
     rw [yZ e, b]; exact ih
theorem KT.repl {H : Hp} {kvs : List (List Key × V)} {xs : List (List Key × Addr × Value)} (r : KT H kvs xs) (k : List Key) {y : V} {u : Value} (ry : RelV y u) :
   KT H (kvs.map fun kv => if kv.1 = k then (kv.1, y) else kv) (xs.map (putAt k u)) := by
 induction r with
 | nil => exact .nil
 | @cons p q ps qs h t ih =>
   rw [List.map_cons, List.map_cons]
   refine .cons ?_ ih
   obtain ⟨h1, h2, h3⟩ := h
   unfold putAt
   by_cases e : p.1 = k
   · rw [if_pos e, if_pos (h1.symm.trans e)]; exact ⟨h1, h2, ry⟩
   · rw [if_neg e, if_neg (fun z => e (h1.trans z))]; exact ⟨h1, h2, h3⟩
theorem KT.put {H : Hp} {kvs : List (List Key × V)} {xs : List (List Key × Addr × Value)} (r : KT H kvs xs) (k : List Key) {b : Addr} {y : V} {u : Value} (hb : H b = some (.tup (k.map kV))) (ry : RelV y u) :
   KT H (xR kvs k y) (storedH xs k b u) := by
 have e : (kvs.any fun kv => decide (kv.1 = k)) = (atKey xs k).isSome := by
   rw [valV_any, (r.val k).isSome_eq, Option.isSome_map]
 unfold xR storedH
 rw [e]
 by_cases q : (atKey xs k).isSome = true
 · rw [if_pos q, if_pos q]; exact r.repl k ry
 · rw [if_neg q, if_neg q]; exact Paired.snoc r ⟨rfl, hb, ry⟩
theorem KT.keeps {H H' : Hp} {kvs : List (List Key × V)} {xs : List (List Key × Addr × Value)} (r : KT H kvs xs) (ht : ∀ b ys, H b = some (.tup ys) -> H' b = some (.tup ys)) : KT H' kvs xs :=
 Paired.mapP r fun _ _ z => ⟨z.1, ht _ _ z.2.1, z.2.2⟩
section
variable {P : Program} {w : World} {H : Hp} {h : Heap} {a : Addr}
theorem rd_of {u : HO} (ok : HOk P w H h) (e : Rd H a u) : ObjOk P w H h a u := e.ok ok
theorem dk_rd {kvs : List (Key × V)} (ok : HOk P w H h) (e : Rd H a (.dK kvs)) : kvs.length <= sizeLine /\ (a == sysModules) = false /\ ∃ vs, KV kvs vs /\ h.DictOf (zU P w) a vs :=
 show ObjOk P w H h a (.dK kvs) from rd_of ok e
theorem dk_of {kvs : List (Key × V)} (ok : HOk P w H h) (e : H a = some (.dK kvs)) : kvs.length <= sizeLine /\ (a == sysModules) = false /\ ∃ vs, KV kvs vs /\ h.DictOf (zU P w) a vs := dk_rd ok (.inl e)
theorem key_of {ks : List Key} (ok : HOk P w H h) (e : H a = some (.tup (ks.map kV))) : (tupleKind (zU P w)).is h ks a := by
 obtain ⟨_, its, r, o, h1, h2, n, h3⟩ := (show ObjOk P w H h a (.tup (ks.map kV)) from ok a _ e)
 exact ⟨o, its.toArray, n, h1, h2, h3, by simpa using uA r⟩
theorem dt_rd {kvs : List (List Key × V)} (ok : HOk P w H h) (e : Rd H a (.dT kvs)) : kvs.length <= sizeLine /\ (a == sysModules) = false /\
   ∃ xs, KT H kvs xs /\ h.DictOfH (tupleKind (zU P w)) a xs := by
 obtain ⟨z, y, xs, r, o, es, ep, h1, h2, h3, h4, h5⟩ := (show ObjOk P w H h a (.dT kvs) from rd_of ok e)
 refine ⟨z, y, xs, r, o, es, ep, h1, h2, h3, h4, fun x hx => ?_, h5⟩
 have all : ∀ {l : List (List Key × V)} {m : List (List Key × Addr × Value)}, KT H l m -> ∀ x ∈ m, (tupleKind (zU P w)).is h x.1 x.2.1 := by
   intro l m q
   induction q with
   | nil => intro x hx; exact nomatch hx
   | @cons p q ps qs hq t ih =>
     intro x hx
     rcases List.mem_cons.mp hx with e | hx
     · subst e
       exact key_of ok (by rw [← hq.1]; exact hq.2.1)
     · exact ih x hx
 exact all r x hx
theorem dt_of {kvs : List (List Key × V)} (ok : HOk P w H h) (e : H a = some (.dT kvs)) : kvs.length <= sizeLine /\ (a == sysModules) = false /\
   ∃ xs, KT H kvs xs /\ h.DictOfH (tupleKind (zU P w)) a xs := dt_rd ok (.inl e)
end
def DGet (H : Hp) (a : Addr) (y : V) (r : Option V) : Prop :=
 (∃ kvs k, Rd H a (.dK kvs) /\ y = kV k /\ r = xA kvs k) \/ ∃ kvs k b, Rd H a (.dT kvs) /\ y = .ref b /\ H b = some (.tup (k.map kV)) /\ r = xA kvs k
def DPut (H : Hp) (a : Addr) (y v : V) (H' : Hp) : Prop :=
 (∃ kvs k, H a = some (.dK kvs) /\ y = kV k /\ kvs.length < sizeLine /\ H' = upd H a (.dK (xR kvs k v))) \/
 ∃ kvs k b, H a = some (.dT kvs) /\ y = .ref b /\ H b = some (.tup (k.map kV)) /\ kvs.length < sizeLine /\ H' = upd H a (.dT (xR kvs k v))
theorem DGet.k {H : Hp} {a : Addr} {kvs : List (Key × V)} {k : Key} (e : H a = some (.dK kvs)) : DGet H a (kV k) (xA kvs k) := .inl ⟨kvs, k, .inl e, rfl, rfl⟩
theorem DGet.t {H : Hp} {a b : Addr} {kvs : List (List Key × V)} {k : List Key} (e : H a = some (.dT kvs)) (eb : H b = some (.tup (k.map kV))) : DGet H a (.ref b) (xA kvs k) := .inr ⟨kvs, k, b, .inl e, rfl, eb, rfl⟩
theorem DPut.k {H : Hp} {a : Addr} {kvs : List (Key × V)} {k : Key} {v : V} (e : H a = some (.dK kvs)) (hl : kvs.length < sizeLine) : DPut H a (kV k) v (upd H a (.dK (xR kvs k v))) := .inl ⟨kvs, k, e, rfl, hl, rfl⟩
theorem DPut.t {H : Hp} {a b : Addr} {kvs : List (List Key × V)} {k : List Key} {v : V} (e : H a = some (.dT kvs)) (eb : H b = some (.tup (k.map kV))) (hl : kvs.length < sizeLine) :
   DPut H a (.ref b) v (upd H a (.dT (xR kvs k v))) := .inr ⟨kvs, k, b, e, rfl, eb, hl, rfl⟩
section
variable {X : Cx} {pins : List (Addr × Obj)} {σ : St} {H : Hp} {s : Shared} {a : Addr} {y v : V} {u r : Value} {o : Option V} {A : Around} {E : Value -> Shared -> Prop}
theorem Inv.big (I : Inv X pins σ H s) : sysModules < s.heap.objs.size := by
 have h : mainGlobals < s.heap.objs.size := (I.mod.glob.keeps I.bk).lt
 exact Nat.lt_trans (by decide) h
theorem d_notIn {Q : Value -> Shared -> Prop} (hu : A.units + 1 < cLine) (I : Inv X pins σ H s) (g : DGet H a y o) (ry : RelV y u) (h : ∀ s', Inv X pins σ H s' -> Q (.bool (!o.isSome)) s') :
   wpAny (model X.prog X.w) A (compareOp .NotIn u (.ref a)) Q E s := by
 rcases g with ⟨kvs, k, e, ey, l⟩ | ⟨kvs, k, b, e, ey, eb, l⟩
 · subst ey
   obtain ⟨z, hd, vs, rel, dd⟩ := dk_rd I.hok e
   refine wpAny_notIn_of (kV_is ry) hd dd.mapOf ?_
   rw [← (rel.val k).isSome_eq, ← l]
   exact h _ (I.tok _)
 · subst ey
   cases (show u = Value.ref b from ry)
   obtain ⟨z, hd, xs, rel, dd⟩ := dt_rd I.hok e
   refine wpAny_notIn_heap (tupleKind_room_in1 hu) (key_of I.hok eb) hd dd ?_
   have q := (rel.val k).isSome_eq
   rw [Option.isSome_map] at q
   rw [← q, ← l]
   exact h _ (I.tok _)
theorem uQ {h' : Heap} {t' : Nat} {ob : HO} (I : Inv X pins σ H s) (mu : Mut (H a)) (hs : Heap.SameBut a s.heap h') (he : ∃ q, h'.get? a = some q) (new : ObjOk X.prog X.w (upd H a ob) h' a ob) :
   Inv X pins σ (upd H a ob) { s with heap := h', toks := t' } :=
 I.write (x := a) (e := a) mu (.inl rfl) (fun b q hb z => (hs.2 b hb).trans z) he new
theorem dk_new {P : Program} {w : World} {H' : Hp} {h' : Heap} {kvs : List (Key × V)} {vs : List (Key × Value)} (z : kvs.length <= sizeLine) (hd : (a == sysModules) = false) (rel : KV kvs vs) (dd : h'.DictOf (zU P w) a vs) :
   ObjOk P w H' h' a (.dK kvs) := ⟨z, hd, vs, rel, dd⟩
theorem d_setItem {H' : Hp} {Q : Unit -> Shared -> Prop} (hu : A.units + 1 < cLine) (I : Inv X pins σ H s) (g : DPut H a y v H') (ry : RelV y u) (rv : RelV v r) (h : ∀ s', Inv X pins σ H' s' -> Q () s') :
   wpAny (model X.prog X.w) A (setItem (.ref a) u r) Q E s := by
 rcases g with ⟨kvs, k, e, ey, l, eH⟩ | ⟨kvs, k, b, e, ey, eb, l, eH⟩
 · subst ey eH
   obtain ⟨z, hd, vs, rel, dd⟩ := dk_of I.hok e
   have hz : vs.length <= sizeLine := by rw [← rel.length]; exact z
   have hl : (xR kvs k v).length <= sizeLine := by have := jO kvs k v; omega
   refine wpAny_setItem_pairs (hsz := hz) (kV_is ry) dd fun h' dd' hs => h _ ?_
   have he : ∃ q, h'.get? a = some q := let ⟨q, _, _, hq, _⟩ := dd'; ⟨q, hq⟩
   exact uQ I (by rw [e]; exact True.intro) hs he (dk_new hl hd (rel.put k rv) dd')
 · subst ey eH
   cases (show u = Value.ref b from ry)
   obtain ⟨z, hd, xs, rel, dd⟩ := dt_of I.hok e
   have hz : xs.length <= sizeLine := by rw [← Paired.length rel]; exact z
   have hl : (xR kvs k v).length <= sizeLine := by have := jO kvs k v; omega
   refine wpAny_setItem_heap (hsz := hz) (tupleKind_room_in1 hu) (key_of I.hok eb) dd fun h' dd' hs => h _ ?_
   obtain ⟨q, es, ep, hq, h2, h3, h4, _, h5⟩ := dd'
   refine uQ I (by rw [e]; exact True.intro) hs ⟨q, hq⟩ ⟨hl, hd, _, (rel.put k eb rv).keeps fun c ys ec => ?_, q, es, ep, hq, h2, h3, h4, h5⟩
   rw [zE (ne_of ec e (fun z => nomatch z))]
   exact ec
end
section
variable {X : Cx} {pins : List (Addr × Obj)} {σ : St} {H : Hp} {s : Shared} {a : Addr} {kvs : List (Key × V)} {k : Key} {u : Value} {A : Around} {E : Value -> Shared -> Prop}
theorem d_pop {v : V} {more : List Value} {Q : Value -> Shared -> Prop} (I : Inv X pins σ H s) (e : H a = some (.dK kvs)) (ry : RelV (kV k) u) (l : xA kvs k = some v) (hm : more = [] \/ ∃ x, more = [x])
   (h : ∀ w' s', Inv X pins σ (upd H a (.dK (jQ kvs k))) s' -> RelV v w' -> Q w' s') : wpAny (model X.prog X.w) A (call (.builtin "dict.pop") (.ref a :: u :: more)) Q E s := by
 obtain ⟨z, hd, vs, rel, dd⟩ := dk_of I.hok e
 obtain ⟨w', hw, rw'⟩ := RelO.some_of (v := v) (o := valueAt vs k) (by rw [← l]; exact rel.val k)
 have hp : (keyPart u).isSome = true := by
   cases k with
   | inl i => obtain ⟨t, q⟩ := (show ∃ t, u = Value.int i t from ry); subst q; rfl
   | inr x => obtain ⟨t, q⟩ := (show ∃ t, u = Value.str x t from ry); subst q; rfl
 have ha : argsOk "dict.pop" ⟨.ref a :: u :: more, []⟩ := by
   rcases hm with q | ⟨x, q⟩
   · subst q; exact PySem.F.args_dict_pop_2 _ _
   · subst q; exact PySem.F.args_dict_pop_3 _ _ _
 refine call_meetsIn PySem.F.slot_dict_pop dd.typeIs PySem.F.entry_dict_pop ha (meets_dict_pop_there (zU X.prog X.w) a (kV_is ry) more hm hp)
   ⟨vs, w', dd, by rw [← rel.length]; exact z, hw, fun h' dd' hs => h w' _ ?_ rw'⟩
 have he : ∃ q, h'.get? a = some q := let ⟨q, _, _, hq, _⟩ := dd'; ⟨q, hq⟩
 exact uQ I (by rw [e]; exact True.intro) hs he (dk_new (Nat.le_trans (dropK_le kvs k) z) hd (rel.drop k) dd')
theorem d_len {Q : Value -> Shared -> Prop} (I : Inv X pins σ H s) (e : Rd H a (.dK kvs)) (h : ∀ t s', Inv X pins σ H s' -> Q (.int kvs.length t) s') : wpAny (model X.prog X.w) A (call (.builtin "len") [.ref a]) Q E s := by
 obtain ⟨z, hd, vs, rel, dd⟩ := dk_rd I.hok e
 refine call_len_dict hd dd (by rw [← rel.length]; rw [sizeLine_eq] at z; omega) ?_
 rw [← rel.length]
 exact h _ _ (I.tok _)
end
def tDGet (td ty : TE) : TE := fun σ H Q => td σ H fun x H1 => ty σ H1 fun y H2 => ∃ a v, x = .ref a /\ DGet H2 a y (some v) /\ Q v H2
def tDNotIn (ty td : TE) : TE := fun σ H Q => ty σ H fun y H1 => td σ H1 fun x H2 => ∃ a o, x = .ref a /\ DGet H2 a y o /\ Q (.bl (!o.isSome)) H2
def sDPut (td ty tv : TE) : TS := fun D σ H => tv σ H fun v H1 => td σ H1 fun x H2 => ty σ H2 fun y H3 => ∃ a H4, x = .ref a /\ DPut H3 a y v H4 /\ D.nx σ H4
section
variable {X : Cx} {o i e value : Expr} {pos pos' tpos : Pos} {td ty tv : TE}
theorem pc_dnotin (hu : X.A.units + 1 < cLine) (hi : PE X i ty) (ho : PE X o td) : PC X .NotIn i o (tDNotIn ty td) := by
 intro pins s σ H Q I h
 refine thn (hi pins s σ H _ I h) fun iv s1 ⟨y, H1, I1, ry, q1⟩ => thn (ho pins s1 σ H1 _ I1 q1) fun u s2 ⟨x, H2, I2, rx, a, ov, ex, g, q2⟩ => ?_
 subst ex
 obtain rfl : u = Value.ref a := rx
 exact d_notIn hu I2 g ry fun s3 I3 => ⟨.bl (!ov.isSome), H2, I3, rfl, q2⟩
theorem ps_dput (hu : X.A.units + 1 < cLine) (ho : PE X o td) (hi : PE X i ty) (hv : PE X value tv) (hs : swapsWith value (some (.Subscript o i pos')) pos.line X.env = pure false) :
   PS X (.Assign [.Subscript o i pos'] value pos) (sDPut td ty tv) := by
 intro pins s σ H D I h
 refine wpAny_Assign_Subscript (thn (hv pins s σ H _ I h) fun r s1 ⟨v, H1, I1, rv, q1⟩ => thn (ho pins s1 σ H1 _ I1 q1) fun u s2 ⟨x, H2, I2, rx, q2⟩ => thn (hi pins s2 σ H2 _ I2 q2) fun iv s3 ⟨y, H3, I3, ry, a, H4, ex, g, q3⟩ => ?_) hs
 subst ex
 obtain rfl : u = Value.ref a := rx
 exact d_setItem hu I3 g ry rv fun s4 I4 => ⟨σ, H4, I4, q3⟩
end
theorem dk_empty {P : Program} {w : World} {H : Hp} (h : Heap) (hb : sysModules < h.objs.size) : ObjOk P w H (h.push { cls := .type "dict", data := .dict #[] }) h.objs.size (.dK []) :=
 ⟨Nat.zero_le _, beq_eq_false_iff_ne.mpr (Ne.symm (Nat.ne_of_lt hb)), [], .nil, Heap.DictOf.new h⟩
def tDNewK : TE := fun _ H Q => ∀ p, H p = none -> Q (.ref p) (upd H p (.dK []))
section
variable {X : Cx} {pos : Pos}
theorem pe_dnewK : PE X (.Dict [] [] pos) tDNewK := fun pins s σ H Q I h =>
 wpAny_Dict_empty ⟨.ref s.heap.objs.size, _, I.laid (a := s.heap.objs.size) (o := .dK []) (t' := s.toks) (fun _ _ q => Heap.get?_push_of_some _ q) (Nat.le_refl _) (dk_empty s.heap I.big), rfl, h _ (I.hok.fresh (Nat.le_refl _))⟩
end
def tPairs : List (TE × TE) -> St -> Hp -> (List (V × V) -> Hp -> Prop) -> Prop
 | [], _, H, Q => Q [] H
 | (tk, tv) :: r, σ, H, Q => tk σ H fun x H1 => tv σ H1 fun y H2 => tPairs r σ H2 fun ps H3 => Q ((x, y) :: ps) H3
abbrev VV : List (V × V) -> List (Value × Value) -> Prop := Paired fun p q => RelV p.1 q.1 /\ RelV p.2 q.2
def PPs (X : Cx) (pos : Pos) (keys : List (Option Expr)) (values : List Expr) (trs : List (TE × TE)) : Prop :=
 ∀ (pins : List (Addr × Obj)) (s : Shared) (σ : St) (H : Hp) (Q : List (V × V) -> Hp -> Prop), Inv X pins σ H s -> tPairs trs σ H Q ->
   wpAny (model X.prog X.w) X.A (evalPairs (pairTrees keys values X.env pos)) (fun vs s' => ∃ ps H', Inv X pins σ H' s' /\ VV ps vs /\ Q ps H') X.xe s
def mergeK (kvs more : List (Key × V)) : List (Key × V) := more.foldl (fun acc kv => xR acc kv.1 kv.2) kvs
def tDisp (trs : List (TE × TE)) : TE := fun σ H Q => ∀ p, H p = none -> tPairs trs σ (upd H p (.dK [])) fun ps H2 => H2 p = some (.dK []) /\ ∃ kvs : List (Key × V), ps = kvs.map (fun kv => (kV kv.1, kv.2)) /\ kvs.length <= 15 /\ Q (.ref p) (upd H2 p (.dK (mergeK [] kvs)))
structure M1 (X : Cx) (o : Expr) (m : Str) (apos : Pos) (e : Expr) (cpos : Pos) : Prop where
 base : attributeBase o m X.env (eval o X.env) = eval o X.env
 few : ((backTo cpos (starEach [e] X.env)).all (fun x => !x.1) && (backToKw cpos (keywordEach [] X.env)).all (fun x => x.1.isSome)
   && decide (([e] : List Expr).length + ([] : List Keyword).length + (if ([] : List Keyword).isEmpty then 0 else 1) < 30)) = true
 line : (apos.endLine == cpos.line) = true
 trees : backTo cpos (starEach [e] X.env) = [(false, eval e X.env)]
structure M2 (X : Cx) (o : Expr) (m : Str) (apos : Pos) (e f : Expr) (cpos : Pos) : Prop where
 base : attributeBase o m X.env (eval o X.env) = eval o X.env
 few : ((backTo cpos (starEach [e, f] X.env)).all (fun x => !x.1) && (backToKw cpos (keywordEach [] X.env)).all (fun x => x.1.isSome)
   && decide (([e, f] : List Expr).length + ([] : List Keyword).length + (if ([] : List Keyword).isEmpty then 0 else 1) < 30)) = true
 line : (apos.endLine == cpos.line) = true
 trees : backTo cpos (starEach [e, f] X.env) = [(false, eval e X.env), (false, eval f X.env)]
def IsD (H : Hp) (a : Addr) : Prop := (∃ kvs, Rd H a (.dK kvs)) \/ ∃ kvs, Rd H a (.dT kvs)
theorem isD_at {X : Cx} {pins : List (Addr × Obj)} {σ : St} {H : Hp} {s : Shared} {a : Addr} (I : Inv X pins σ H s) (d : IsD H a) :
   s.TypeIs (.ref a) "dict" /\ (∀ b, Value.ref a = .ref b -> ∃ ob, s.heap.get? b = some ob /\ ob.dict = none) /\ (a == sysModules) = false := by
 rcases d with ⟨kvs, e⟩ | ⟨kvs, e⟩
 · obtain ⟨_, hd, vs, _, dd⟩ := dk_rd I.hok e
   refine ⟨dd.typeIs, fun b q => ?_, hd⟩
   cases q
   obtain ⟨ob, _, _, h1, h2, _⟩ := dd
   exact ⟨ob, h1, h2.2.1⟩
 · obtain ⟨_, hd, xs, _, dd⟩ := dt_rd I.hok e
   refine ⟨dd.typeIs, fun b q => ?_, hd⟩
   cases q
   obtain ⟨ob, _, _, h1, h2, _⟩ := dd
   exact ⟨ob, h1, h2.2.1⟩
section
variable {X : Cx} {pins : List (Addr × Obj)} {σ : St} {H : Hp} {s : Shared} {a : Addr} {y d : V} {u r : Value} {o : Option V} {A : Around} {E : Value -> Shared -> Prop}
end
def tDPop1 (td ty : TE) : TE := fun σ H Q => td σ H fun x H1 => ∃ a, x = .ref a /\ IsD H1 a /\ ty σ H1 fun y H2 => ∃ kvs k v, H2 a = some (.dK kvs) /\ y = kV k /\ xA kvs k = some v /\ Q v (upd H2 a (.dK (jQ kvs k)))
section
variable {X : Cx} {o e f : Expr} {apos cpos : Pos} {td ty tx : TE}
theorem pe_dpop1 (ho : PE X o td) (he : PE X e ty) (m : M1 X o "pop" apos e cpos) : PE X (.Call (.Attribute o "pop" apos) [e] [] cpos) (tDPop1 td ty) := by
 intro pins s σ H Q I h
 refine wpAny_Call_method m.base m.few m.line PySem.F.plainAttrs_dict PySem.F.slot_dict_pop PySem.F.type_dict_pop (thn (ho pins s σ H _ I h) fun u s1 ⟨x, H1, I1, rx, a, ex, d, q1⟩ => ?_)
 subst ex
 obtain rfl : u = Value.ref a := rx
 obtain ⟨t1, t2, _⟩ := isD_at I1 d
 refine ⟨t1, t2, ?_⟩
 rw [m.trees]
 refine Calls.callWith_builtin rfl (Calls.evalArgs_plain (Calls.spliced_cons (thn (he pins s1 σ H1 _ I1 q1) fun iv s2 ⟨y, H2, I2, ry, kvs, k, v, ea, ey, l, q2⟩ => Calls.spliced_nil ?_)))
 subst ey
 exact d_pop I2 ea ry l (.inl rfl) fun w' s3 I3 rw' => ⟨v, _, I3, rw', q2⟩
end
section
variable {X : Cx} {pins : List (Addr × Obj)} {σ : St} {H : Hp} {s : Shared} {a : Addr} {kvs : List (Key × V)} {A : Around} {E : Value -> Shared -> Prop}
end
section
variable {X : Cx} {pins : List (Addr × Obj)} {σ : St} {H : Hp} {s : Shared} {a : Addr} {y : V} {u : Value} {A : Around} {E : Value -> Shared -> Prop}
end
end L2
namespace Att
open PySem PySem.W PySem.Calls PyProof.Rows
theorem jS {P : Params} {h : Heap} : ∀ (ns : List Int) (vs : List Value), WellAll P h vs (ns.map WData.int) -> IntsAre vs ns := by
 intro ns
 induction ns with
 | nil =>
   intro vs w
   rw [List.map_nil] at w
   cases w
   exact .nil
 | cons n ns ih =>
   intro vs w
   rw [List.map_cons] at w
   cases w with
   | cons a b =>
     cases a
     exact .cons _ _ (ih _ b)
theorem script_of {l : OpenLaw} {n : Nat} (hn : l.most = some n) {P : Params} {h : Heap} {args : List WData} {vals : List Value}
   (hpre : l.row.toRowW.claim.pre args = true) (hwl : WellAll P h vals args) :
   ∃ a vs ns, vals = [Value.ref a] /\ args = [WData.list (ns.map WData.int)] /\ h.get? a = some { cls := .type "list", data := .seq vs.toArray } /\ IntsAre vs ns /\ ns.length <= n := by
 have hsh : WShape.hasAll [] args [.list .int] = true := (pre_splitW hpre).1
 have hc : l.pre.holds [] { args := args } = true := (pre_splitW hpre).2
 obtain ⟨d, r, rfl, h1, h2⟩ := hasAllW_cons hsh
 obtain rfl := hasAllW_nil h2
 obtain ⟨xs, rfl, h3⟩ := hasW_list h1
 obtain ⟨ns, rfl⟩ := items_int h3
 have hlen : ns.length <= n := by
   unfold OpenLaw.pre at hc
   have h4 : (WTm.not (.lt (.lit (.int (n : Int))) (.len (.arg 0)))).holds [] { args := [.list (ns.map .int)] } = true := by
     have h4 := (holds_andW hc).1
     rw [hn] at h4
     exact h4
   have h5 := condW_of h4 (w_not (w_lt w_lit (w_len_list (w_arg rfl))))
   rw [List.length_map] at h5
   refine Nat.le_of_not_lt fun q => ?_
   have q' : (n : Int) < ((ns.length : Nat) : Int) := by omega
   first
     | (rw [decide_eq_true q'] at h5; exact absurd h5 (by decide))
     | (simp at h5; omega)
 cases hwl with
 | cons w1 w2 =>
   cases w2
   cases w1 with
   | list ho hall => exact ⟨_, _, ns, rfl, rfl, ho, jS ns _ hall, hlen⟩
theorem post_true (l : OpenLaw) (args : List WData) : l.row.toRowW.claim.post args (.bool true) args = true :=
 postW_of (r := l.row.toRowW) (X := (true == true))
   (show WShape.has [] (.bool true) .bool = true by first | rfl | decide | simp [WShape.has, WShape.arms, WShape.armsAll])
   (show (WTm.eq .res (.lit (.bool true))).value [] { args := args, res := some (.bool true), after := args } = some (.bool (true == true)) from w_eq_bool (w_res rfl) w_lit) rfl
theorem attach_call {l : OpenLaw} {n : Nat} {q : Program} {loose : List Str} {XP : (Str -> Option Value) -> Heap -> Prop} {YP : World -> Heap -> Prop} {d : DefRec}
   (hn : l.most = some n) (hdf : d.params.defaults = [])
   (call : ∀ (w : World) (s₀ s₁ : Shared) (mg mb : Str -> Option Value) (fa : Addr) (o : Obj) (pm cd doc : Value) (a : Addr) (vs : List Value) (ns : List Int),
     Ground q loose [] XP w s₀ mg mb s₁.heap -> YP w s₁.heap ->
     s₁.heap.get? fa = some o -> o.data = .func (docDef d.name d.params d.body d.scope pm cd doc) -> s₁.heap.CodeRec cd d.name -> mg d.name = some (.ref fa) ->
     s₁.heap.get? a = some { cls := .type "list", data := .seq vs.toArray } -> IntsAre vs ns -> ns.length <= n -> s₁.gens = #[] ->
     codeAny (model l.prog w) callerA (.call (.ref fa) ⟨[.ref a], []⟩) (fun r s' => r = .ok (.ret (.bool true)) /\ OldK s₁.heap s'.heap /\ s'.os = s₁.os /\ AllBare s'.gens) s₁) :
   WalkO q loose XP YP l.row.toRowW d [] (fun f vs => PySem.call f vs) := by
 intro w s₀ s₁ mg mb G Y fa o pm cd doc dV kV ho hd hcd hD hmg hg args vals as hpre hlay hrd hwl hlo
 obtain rfl : dV = .none := Dflts.none hD hdf
 obtain rfl : kV = .none := Dflts.noKw hD
 obtain ⟨a, vs, ns, rfl, rfl, hobj, hints, hlen⟩ := script_of hn hpre hwl
 refine enter_call (codeAny_mono (call w s₀ s₁ mg mb fa o pm cd doc a vs ns G Y ho (fd_plain hd) hcd hmg hobj hints hlen hg) fun r s' hq => ?_)
 obtain ⟨rfl, h2, h3, h4⟩ := hq
 exact ⟨.inl ⟨.bool true, .bool true, [], rfl, fun _ => rfl, .bool true, post_true l _, fun _ => ⟨List.Pairwise.nil, fun _ hm => (nomatch hm)⟩⟩, h2, h3, h4⟩
section
variable {prog : Program} {w : World} {A : Around} {E : Value -> Shared -> Prop} {s : Shared} {K : Frag}
end
end Att
namespace L2
open PySem PySem.Spec PyProof.Rows
theorem vals_ints : ∀ {vs : List Value} {ns : List Int}, IntsAre vs ns -> Vals (ns.map V.int) vs
 | _, _, .nil => .nil
 | _, _, .cons n t h => .cons ⟨t, rfl⟩ (vals_ints h)
def Only (H : Hp) : Prop := ∀ b, H b = none \/ ∃ o xs, H b = some (.frz o (.lst xs))
theorem law_call {P : Program} {w : World} {K : PySem.W.Frag} {mg mb : Str -> Option Value} {CX : CXT} {k : Nat} {fa a : Addr} {fd : FuncData} {x : Str} {sp : Sp} {s₁ : Shared} {vs : List Value} {ns : List Int}
   (KX : K.In s₁.heap) (hns : s₁.heap.Ns mainGlobals mg) (hb : s₁.heap.Ns builtinsNs mb) (hbb : ∀ x : Str, x ≠ "__name__" -> mb x = bootBuiltins x) (hlim : s₁.heap.NoLimit) (hg : s₁.gens = #[])
   (ha : s₁.heap.get? a = some { cls := .type "list", data := .seq vs.toArray }) (hi : IntsAre vs ns) (hl : ns.length <= sizeLine) (hr : Room k callerA)
   (F : ∀ base : Heap, K.In base -> base.Ns mainGlobals mg -> FnOk P w K mg base CX k fa fd [x] sp) (hbind : ∀ (s : Shared) (u : Value), BindsTo s fd ⟨[u], []⟩ [(x, u)])
   (hsp : ∀ H : Hp, Only H -> SqL K H a (ns.map V.int) -> sp [.ref a] H (fun v _ => v = .bl true) fun _ _ _ => False)
   (hCX : ∀ H e s', CX [] H s₁ (fun _ _ _ => False) e s' -> False) :
   codeAny (model P w) callerA (.call (.ref fa) ⟨[.ref a], []⟩) (fun r s' => r = .ok (.ret (.bool true)) /\ OldK s₁.heap s'.heap /\ s'.os = s₁.os /\ AllBare s'.gens) s₁ := by
 have rv := vals_ints hi
 have lenV := hi.length
 have core : ∀ H : Hp, Only H -> SqL K H a (ns.map V.int) -> HOk P w H s₁.heap -> (∀ b, H b ≠ none -> b = a) -> (H a ≠ none -> K.lookup a = none) ->
     codeAny (model P w) callerA (.call (.ref fa) ⟨[.ref a], []⟩) (fun r s' => r = .ok (.ret (.bool true)) /\ OldK s₁.heap s'.heap /\ s'.os = s₁.os /\ AllBare s'.gens) s₁ := by
   intro H hO hS hok hA hK
   have base_of : ∀ {b : Addr} {o : Obj}, s₁.heap.get? b = some o -> H b = none -> (uO s₁.heap H).get? b = some o := fun e n => hidT_get e n
   have noA : ∀ {b : Addr} {o : Obj} {es : Array DictEntry} {ep : Nat}, s₁.heap.get? b = some o -> o.data = .dict es ep -> H b = none := fun {b o es ep} e d => by
     cases q : H b with
     | none => rfl
     | some u =>
       have e' : b = a := hA b (by rw [q]; simp)
       subst e'
       rw [ha] at e; cases e
       have d' : Data.seq vs.toArray _ = Data.dict es ep := d
       cases d'
   have nsK : ∀ {b : Addr} {m : Str -> Option Value}, s₁.heap.Ns b m -> (uO s₁.heap H).Ns b m := fun {b m} ⟨o, es, ep, e, d, r⟩ => ⟨o, es, ep, base_of e (noA e d), d, r⟩
   have hKb : K.In (uO s₁.heap H) := fun b o e => base_of (KX b o e) (by
     cases q : H b with
     | none => rfl
     | some u =>
       have e' : b = a := hA b (by rw [q]; simp)
       subst e'
       rw [hK (by rw [q]; simp)] at e; cases e)
   have hM : Mod K mg (uO s₁.heap H) := ⟨hKb, nsK hns, ⟨mb, nsK hb, hbb⟩, let ⟨mc, h1, h2⟩ := hlim; ⟨mc, nsK h1, h2⟩⟩
   have e0 : Env0 P w K mg (uO s₁.heap H) callerA [] s₁ H := ⟨rfl, hM, fun b o e => of_hidT e, Nat.le_of_eq (hidT_size _ _), trivial, fun b hb => absurd (show b ∈ ([] : List Addr) from hb) (by simp), hok, .of_eq hg⟩
   refine codeAny_mono ((F _ hKb (nsK hns)).run callerA [] s₁ H ⟨[.ref a], []⟩ [.ref a] [.ref a] _ _ hr e0 (hbind s₁ (.ref a)) (.cons rfl .nil) (hsp H hO hS)) fun r s' h => ?_
   cases r with
   | error e => exact (hCX H e s' h).elim
   | ok fl =>
     cases fl with
     | next => exact False.elim h
     | brk => exact False.elim h
     | cont => exact False.elim h
     | ret u =>
       obtain ⟨v, H', os, bare, un, hok', r', q⟩ := h
       have q' : v = .bl true := q
       subst q'
       obtain rfl : u = Value.bool true := r'
       refine ⟨rfl, OldK.of_keep fun b o e => ?_, os, bare⟩
       cases q : H b with
       | none => exact un.keep b o e q (by intro z; exact absurd (show b ∈ ([] : List Addr) from z) (by simp)) (by simp)
       | some u =>
         rcases hO b with z | ⟨ob, xs, z⟩
         · rw [q] at z; cases z
         · have z2 := un.frzs b ob _ z
           obtain ⟨e1, _⟩ := hok b _ z
           obtain ⟨e2, _⟩ := hok' b _ z2
           rw [e] at e1; cases e1
           exact e2
 cases hk : K.lookup a with
 | some o =>
   have e := KX a o hk
   rw [ha] at e
   cases e
   refine core (fun _ => none) (fun _ => .inl rfl) (.inr ⟨_, vs.toArray, _, hk, rfl, rfl, rfl, by rw [List.size_toArray, lenV]; exact hl, by simpa using rv⟩) (fun b u z => by have z' : (none : Option HO) = some u := z; cases z') (fun b z => absurd rfl z) fun z => absurd rfl z
 | none =>
   refine core (fun b => if b = a then some (.frz { cls := .type "list", data := .seq vs.toArray } (.lst (ns.map V.int))) else none) (fun b => ?_) (.inl (.inr ⟨{ cls := .type "list", data := .seq vs.toArray }, if_pos rfl⟩)) (fun b u z => ?_) (fun b z => ?_) fun _ => hk
   · by_cases hb : b = a
     · exact .inr ⟨_, _, if_pos hb⟩
     · exact .inl (if_neg hb)
   · by_cases hb : b = a
     · have z' := (if_pos hb).symm.trans z
       cases z'
       subst hb
       exact ⟨ha, by rw [List.length_map]; exact hl, vs, _, rv, ha⟩
     · have z' := (if_neg hb).symm.trans z
       cases z'
   · by_cases hb : b = a
     · exact hb
     · exact absurd (if_neg hb) z
theorem walk_of {l : PySem.W.OpenLaw} {n k : Nat} {q : Program} {loose : List Str} {XP : (Str -> Option Value) -> Heap -> Prop} {YP : World -> Heap -> Prop} {d : DefRec} {K : Params -> PySem.W.Frag} {CX : World -> CXT} {sp : World -> Sp} {x : Str}
   (hn : l.most = some n) (hn2 : n <= sizeLine) (hdf : d.params.defaults = []) (hr : Room k callerA)
   (hY : ∀ (w : World) (h : Heap), YP w h -> (K w.params).In h)
   (F : ∀ (w : World) (mg : Str -> Option Value) (fa : Addr) (h : Heap), (K w.params).In h -> h.Ns mainGlobals mg -> mg d.name = some (.ref fa) ->
     ∃ fd : FuncData, (∀ (s : Shared) (u : Value), BindsTo s fd ⟨[u], []⟩ [(x, u)]) /\
       ∀ base : Heap, (K w.params).In base -> base.Ns mainGlobals mg -> FnOk l.prog w (K w.params) mg base (CX w) k fa fd [x] (sp w))
   (hsp : ∀ (w : World) (H : Hp) (a : Addr) (ns : List Int), ns.length <= n -> Only H -> SqL (K w.params) H a (ns.map V.int) -> sp w [.ref a] H (fun v _ => v = .bl true) fun _ _ _ => False)
   (hCX : ∀ (w : World) (H : Hp) (s : Shared) (e : Value) (s' : Shared), CX w [] H s (fun _ _ _ => False) e s' -> False) :
   PySem.W.WalkO q loose XP YP l.row.toRowW d [] (fun f vs => PySem.call f vs) := by
 refine Att.attach_call hn hdf fun w s₀ s₁ mg mb fa o pm cd doc a vs ns G Y ho hd hcd hmg hobj hints hlen hg => ?_
 have KX := hY w _ Y
 obtain ⟨fd, hb, hF⟩ := F w mg fa _ KX G.T.g hmg
 exact law_call KX G.T.g G.T.b G.T.builtins G.T.nolimit hg hobj hints (Nat.le_trans hlen hn2) hr hF hb (fun H hO hS => hsp w H a ns hlen hO hS) fun H e s' => hCX w H s₁ e s'
def jZ (s : Stmt) (j : Nat) : Stmt := match s with
 | .ClassDef _ _ _ body _ _ _ _ _ _ _ => body.getD j (.Pass ⟨0, 0, 0, 0⟩)
 | _ => .Pass ⟨0, 0, 0, 0⟩
def zV (s : Stmt) : Arguments := match s with
 | .FunctionDef _ a _ _ _ _ _ _ _ _ => a
 | _ => { posonlyargs := [], args := [], vararg := none, kwonlyargs := [], kw_defaults := [], kwarg := none, defaults := [] }
def zS (s : Stmt) : List Stmt := match s with
 | .FunctionDef _ _ b _ _ _ _ _ _ _ => b
 | _ => []
def zH (s : Stmt) : Scope := match s with
 | .FunctionDef _ _ _ _ _ _ sc _ _ _ => sc
 | _ => { kind := .function, names := [], isGenerator := false, isCoroutine := false }
abbrev CX0 : CXT := fun _ _ _ _ _ _ => False
abbrev E0 : XK := fun _ _ _ => False
theorem pass0 {X : Cx} : jL CX0 X E0 := fun _ _ _ _ _ _ _ h => h.elim
structure Fun (K : PySem.W.Frag) (x qual : Str) (st : Stmt) (f : Addr) (fd : FuncData) : Prop where
 ex : ∃ (oc : Value) (od : Option Addr) (kV doc pm : Value) (an : Option Addr) (cdv ct : Value) (osl : Array (Option Value)),
   fd = PySem.W.fnOf x qual (zV st) (zS st) (zH st) .none kV doc pm an cdv ct /\ K.lookup f = some ⟨oc, od, .func fd, osl⟩ /\ PySem.W.codeIn K cdv qual = true
 kp : PySem.W.keepIn K (.ref f) = true
section
variable {P : Program} {w : World} {K : PySem.W.Frag} {mg : Str -> Option Value} {base : Heap}
theorem Fun.ok {x qual : Str} {st : Stmt} {f : Addr} {fd : FuncData} {N ps : List Str} {k : Nat} {sp : Sp} (F : Fun K x qual st f fd) (S : FnScope N ps (zH st)) (len : ∀ vs H Q E, sp vs H Q E -> vs.length = ps.length)
   (hbody : ∀ (cdv : Value) (A : Around) (outer : List Env) (s : Shared) (H : Hp) (vs : List V) (Q : VK) (E : XK), Room k (A.deeper (envOfC qual (zH st) s.heap.objs.size f cdv)) -> sp vs H Q E ->
     ∃ t, PSs (xL CX0 P w K mg base N qual (zH st) f cdv A outer s H E).nox (zS st) t /\ t { nx := fun _ H' => Q .non H', rt := Q } (start N vs) H) : FnOk P w K mg base CX0 (k + 1) f fd ps sp := by
 obtain ⟨oc, od, kV, doc, pm, an, cdv, ct, osl, rfl, lk, hcd⟩ := F.ex
 refine fn_of lk hcd S len fun A outer s H vs Q E hr hsp => ?_
 obtain ⟨t, h, q⟩ := hbody cdv A outer s H vs Q E hr hsp
 exact ⟨t, h.nox, q⟩
theorem Fun.binds {x qual : Str} {st : Stmt} {f : Addr} {fd : FuncData} {ps : List Str} (F : Fun K x qual st f fd)
   (h : ∀ (kV doc pm : Value) (an : Option Addr) (cdv ct : Value) (us : List Value), us.length = ps.length -> bindArgs (PySem.W.fnOf x qual (zV st) (zS st) (zH st) .none kV doc pm an cdv ct) ⟨us, []⟩ = pure (ps.zip us)) : Binds K fd ps [] := by
 obtain ⟨oc, od, kV, doc, pm, an, cdv, ct, osl, rfl, lk, hcd⟩ := F.ex
 exact .all (h kV doc pm an cdv ct)
theorem yC {x qual : Str} {st : Stmt} {f : Addr} {oc : Value} {od an : Option Addr} {osl : Array (Option Value)} {kV doc pm cdv ct : Value} (l : K.lookup f = some ⟨oc, od, .func (PySem.W.fnOf x qual (zV st) (zS st) (zH st) .none kV doc pm an cdv ct), osl⟩)
   (c : PySem.W.codeIn K cdv qual = true) (k : PySem.W.keepIn K (.ref f) = true) : Fun K x qual st f (PySem.W.fnOf x qual (zV st) (zS st) (zH st) .none kV doc pm an cdv ct) := ⟨⟨oc, od, kV, doc, pm, an, cdv, ct, osl, rfl, l, c⟩, k⟩
end
theorem hu_of {A : Around} {k : Nat} (hr : Room k A) : A.units + 1 < cLine := Nat.lt_of_le_of_lt (Nat.add_le_add_left (by decide : 1 <= 64) _) hr.units
theorem jC {n : Nat} (h : n <= 1000) : n < sizeLine := Nat.lt_of_le_of_lt h (by decide)
section
variable {X : Cx}
theorem pv (i : Nat) {x : Str} {pos : Pos} (hN : X.N[i]? = some x := by rfl) (hv : Vis X.env.scope x := by first | exact Or.inl rfl | exact Or.inr (Or.inl rfl) | exact Or.inr (Or.inr rfl)) (hd : (x == ("__debug__" : Str)) = false := by decide)
   (hcd : (x == ("__classdict__" : Str)) = false := by decide) : PE X (.Name x pos) (tVar i) := pe_var hN hv hd hcd
end
theorem iteT {A B : Prop} (h : A) : if true = true then A else B := by
 rw [if_pos rfl]
 exact h
def Same (H H' : Hp) : Prop := ∀ b o, H b = some o -> H' b = some o
theorem Same.refl (H : Hp) : Same H H := fun _ _ h => h
theorem Same.trans {H H1 H2 : Hp} (a : Same H H1) (b : Same H1 H2) : Same H H2 := fun c o h => b c o (a c o h)
theorem Same.free {H H' : Hp} (e : Same H H') {l : Addr} (h : H' l = Option.none) : H l = Option.none := by
 cases q : H l with
 | none => rfl
 | some o =>
   rw [e l o q] at h
   cases h
theorem Same.seq {K : PySem.W.Frag} {H H' : Hp} {a : Addr} {xs : List V} (e : Same H H') (h : SqL K H a xs) : SqL K H' a xs := by
 rcases h with (h | ⟨o, h⟩) | h
 · exact .inl (.inl (e _ _ h))
 · exact .inl (.inr ⟨o, e _ _ h⟩)
 · exact .inr h
section
variable {X : Cx}
theorem call_lenD : jA X (.builtin "len") (fun xs H Q => ∃ a kvs, xs = [V.ref a] /\ H a = some (.dK kvs) /\ Q (.int kvs.length) H) := by
 intro pins s σ H xs us Q I r h
 obtain ⟨a, kvs, rfl, ha, q⟩ := h
 obtain ⟨u, rfl, ru⟩ := vals1 r
 cases ru
 exact d_len I (.inl ha) fun t s' I' => ⟨.int kvs.length, H, I', ⟨t, rfl⟩, q⟩
end
section
variable {κ : Type} [DecidableEq κ]
end
def yJ (env : Env) : List (Str × NameKind) -> List (Str × Addr) -> List (Str × Addr)
 | [], cs => cs
 | (n, k) :: r, cs => if (k == NameKind.free) = true then yJ env r ((n, (env.cells.lookup n).getD 0) :: cs) else yJ env r cs
theorem xP {scope : Scope} {env : Env} (h : ∀ x ∈ scope.names, x.2 = .free -> ∃ c, env.cells.lookup x.1 = some c) : closureFor scope env = pure (yJ env scope.names []) := by
 unfold closureFor
 have go : ∀ (l : List (Str × NameKind)) (cs : List (Str × Addr)), (∀ x ∈ l, x.2 = .free -> ∃ c, env.cells.lookup x.1 = some c) ->
     (forIn l cs fun (x : Str × NameKind) (r : List (Str × Addr)) => (match x with
       | (name, kind) => if (kind == NameKind.free) = true then do let a ← cellOf env name; pure (ForInStep.yield ((name, a) :: r)) else pure (ForInStep.yield r) : Sem (ForInStep (List (Str × Addr))))) = (pure (yJ env l cs) : Sem (List (Str × Addr))) := by
   intro l
   induction l with
   | nil => intro cs _; rfl
   | cons x r ih =>
     intro cs hl
     obtain ⟨n, k⟩ := x
     rw [List.forIn_cons]
     by_cases hk : (k == NameKind.free) = true
     · obtain ⟨c, hc⟩ := hl (n, k) List.mem_cons_self (by simpa using hk)
       have e : cellOf env n = pure c := by unfold cellOf; rw [hc]
       simp only [hk, if_true, e, pure_bind]
       rw [ih _ fun y hy => hl y (List.mem_cons_of_mem _ hy)]
       rw [yJ, if_pos hk, hc]
       rfl
     · simp only [hk, if_false, Bool.false_eq_true, pure_bind]
       rw [ih _ fun y hy => hl y (List.mem_cons_of_mem _ hy)]
       rw [yJ, if_neg hk]
 have q := go scope.names [] h
 simp only [pure_bind, bind_pure] at q ⊢
 exact q
theorem xE {env : Env} {y : Str} {c : Addr} : ∀ (l : List (Str × NameKind)) (cs : List (Str × Addr)), (∀ x ∈ l, x.2 = .free -> ∃ c, env.cells.lookup x.1 = some c) ->
   (∀ z d, cs.lookup z = some d -> env.cells.lookup z = some d) -> (yJ env l cs).lookup y = some c -> env.cells.lookup y = some c
 | [], cs, _, hc, e => hc _ _ e
 | (n, k) :: r, cs, h, hc, e => by
   have hr : ∀ x ∈ r, x.2 = .free -> ∃ c, env.cells.lookup x.1 = some c := fun x hx => h x (List.mem_cons_of_mem _ hx)
   by_cases hk : (k == NameKind.free) = true
   · rw [yJ, if_pos hk] at e
     refine xE r _ hr (fun z d ez => ?_) e
     obtain ⟨c', hc'⟩ := h (n, k) List.mem_cons_self (by simpa using hk)
     rw [List.lookup_cons] at ez
     cases hz : z == n with
     | true =>
       rw [hz] at ez
       have hz' : z = n := eq_of_beq hz
       subst hz'
       have e2 : (env.cells.lookup z).getD 0 = d := Option.some.inj ez
       have hc'' : env.cells.lookup z = some c' := hc'
       rw [hc''] at e2 ⊢
       exact congrArg some e2
     | false => rw [hz] at ez; exact hc z d ez
   · rw [yJ, if_neg hk] at e
     exact xE r cs hr hc e
theorem xJ {env : Env} {y : Str} : ∀ (l : List (Str × NameKind)) (cs : List (Str × Addr)), ((y, NameKind.free) ∈ l \/ ∃ c, cs.lookup y = some c) -> ∃ c, (yJ env l cs).lookup y = some c
 | [], cs, h => h.elim (fun z => nomatch z) fun z => z
 | (n, k) :: r, cs, h => by
   by_cases hk : (k == NameKind.free) = true
   · rw [yJ, if_pos hk]
     refine xJ r _ ?_
     rcases h with h | ⟨c, h⟩
     · rcases List.mem_cons.mp h with h | h
       · cases h
         exact .inr ⟨_, by rw [List.lookup_cons, beq_self_eq_true]⟩
       · exact .inl h
     · cases hz : y == n with
       | true => exact .inr ⟨_, by rw [List.lookup_cons, hz]⟩
       | false => exact .inr ⟨c, by rw [List.lookup_cons, hz]; exact h⟩
   · rw [yJ, if_neg hk]
     refine xJ r _ ?_
     rcases h with h | h
     · rcases List.mem_cons.mp h with h | h
       · cases h
         exact absurd rfl hk
       · exact .inl h
     · exact .inr h
theorem yU {env : Env} : ∀ {names : List (Str × NameKind)} {x : Str} {k' : NameKind},
   (names.map fun (n, k) => if (k == NameKind.free && env.scope.kind == .function && env.kindOf n == some .cell) then (n, NameKind.cell) else (n, k)).lookup x = some k' ->
   names.lookup x = some k' \/ (names.lookup x = some .free /\ k' = .cell)
 | [], _, _, h => by simp at h
 | (n, k) :: r, x, k', h => by
   have ih := @yU env r x k'
   have h : List.lookup x ((if (k == NameKind.free && env.scope.kind == .function && env.kindOf n == some .cell) = true then (n, NameKind.cell) else (n, k)) :: _) = some k' := h
   rw [List.lookup_cons]
   by_cases hc : (k == NameKind.free && env.scope.kind == .function && env.kindOf n == some .cell) = true
   · rw [if_pos hc, List.lookup_cons] at h
     cases hx : x == n with
     | true =>
       rw [hx] at h
       have e1 : NameKind.cell = k' := Option.some.inj h
       simp only [Bool.and_eq_true] at hc
       exact .inr ⟨congrArg some (eq_of_beq hc.1.1), e1.symm⟩
     | false => rw [hx] at h; exact ih h
   · rw [if_neg hc, List.lookup_cons] at h
     cases hx : x == n with
     | true => rw [hx] at h; exact .inl h
     | false => rw [hx] at h; exact ih h
theorem xV {env : Env} : ∀ {names : List (Str × NameKind)} {x : Str}, names.lookup x = some .free ->
   (names.map fun (n, k) => if (k == NameKind.free && env.scope.kind == .function && env.kindOf n == some .cell) then (n, NameKind.cell) else (n, k)).lookup x = some .cell \/
   (names.map fun (n, k) => if (k == NameKind.free && env.scope.kind == .function && env.kindOf n == some .cell) then (n, NameKind.cell) else (n, k)).lookup x = some .free
 | [], _, h => by simp at h
 | (n, k) :: r, x, h => by
   have ih := @xV env r x
   show List.lookup x ((if (k == NameKind.free && env.scope.kind == .function && env.kindOf n == some .cell) = true then (n, NameKind.cell) else (n, k)) :: _) = _ \/ List.lookup x ((if (k == NameKind.free && env.scope.kind == .function && env.kindOf n == some .cell) = true then (n, NameKind.cell) else (n, k)) :: _) = _
   rw [List.lookup_cons] at h
   by_cases hc : (k == NameKind.free && env.scope.kind == .function && env.kindOf n == some .cell) = true
   · rw [if_pos hc, List.lookup_cons]
     cases hx : x == n with
     | true => exact .inl rfl
     | false => rw [hx] at h; exact ih h
   · rw [if_neg hc, List.lookup_cons]
     cases hx : x == n with
     | true => rw [hx] at h; exact .inr h
     | false => rw [hx] at h; exact ih h
structure LcScope (xs ys : List Str) (scope around : Scope) : Prop where
 kind : scope.kind = .function
 nd : (xs ++ ys).Nodup
 own : ∀ x ∈ xs, scope.names.lookup x = some .local
 cap : ∀ y ∈ ys, scope.names.lookup y = some .free /\ (around.names.lookup y = some .cell \/ around.names.lookup y = some .free)
 nocell : ∀ y ∈ scope.names, y.2 ≠ .cell
 names : ∀ y ∈ scope.names, y.2 = .local -> scope.names.lookup y.1 = some .local
 free : ∀ y ∈ scope.names, y.2 = .free -> y.1 ∈ ys
def zW (X : Cx) (xs ys : List Str) (scope : Scope) (C : Addr) (s₀ : Shared) (H₀ : Hp) (fp : List Addr) : Cx where
 prog := X.prog
 w := X.w
 K := X.K
 mg := X.mg
 base := X.base
 A := X.A
 N := xs ++ ys
 s₀ := s₀
 H₀ := H₀
 env := compEnvC scope (yJ X.env scope.names []) C X.env
 outer := X.stack
 stack := X.stack
 ex := fp
 fn := fun _ => false
 calm := X.calm
 pn := []
 xe := fun _ _ => False
def lcSt (xs : List Str) (js : List Nat) (σ : St) : St := xs.map (fun _ => none) ++ js.map fun j => (σ[j]?).join
def LcW (J : It) (n : List Str) (js : List Nat) (g : TG) (tc : Option TT) (te : TE) (σ : St) (H1 : Hp) (Q : VK) : Prop := ∃ W : Nat -> Nat -> List V -> St -> Hp -> Prop, (∃ m, W 0 m [] (lcSt n js σ) H1) /\ ∀ i m ys σ1 H, W i m ys σ1 H ->
 (J.stop i H /\ ∀ p, H p = none -> Q (.ref p) (upd H p (.lst ys))) \/
 (J.go i H /\ ys.length < sizeLine /\ ∀ x H', J.yld i H x H' -> g x σ1 H' fun σ2 H2 => match tc with
   | none => te σ2 H2 fun y H3 => ∃ m', m' < m /\ W (i + 1) m' (ys ++ [y]) σ2 H3
   | some c => c σ2 H2 fun b H3 => if b = true then te σ2 H3 fun y H4 => ∃ m', m' < m /\ W (i + 1) m' (ys ++ [y]) σ2 H4 else ∃ m', m' < m /\ W (i + 1) m' ys σ2 H3)
def tLC (n : List Str) (js : List Nat) (wi : TI) (g : TG) (tc : Option TT) (te : TE) : TE := fun σ H Q => wi σ H fun J H1 => LcW J n js g tc te σ H1 Q
def PIf (X : Cx) (ifs : List Expr) (tc : Option TT) : Prop := match ifs, tc with
 | [], none => True
 | [c], some t => PT X c t
 | _, _ => False
section
variable {X : Cx} {pins : List (Addr × Obj)} {σ : St} {H : Hp} {s : Shared} {xs ys : List Str} {scope : Scope} {fp : List Addr} {C D : Addr} {js : List Nat}
def Caps (X : Cx) (ys : List Str) (js : List Nat) : Prop := js.length = ys.length /\ ∀ (i : Nat) (y : Str) (j : Nat), ys[i]? = some y -> js[i]? = some j -> X.N[j]? = some y
theorem uS (I : Inv X pins σ H s) (S : LcScope xs ys scope X.env.scope) : ∀ x ∈ scope.names, x.2 = .free -> ∃ c, X.env.cells.lookup x.1 = some c := fun x hx hf =>
 I.ok.has x.1 ((S.cap x.1 (S.free x hx hf)).2.elim .inl .inr)
theorem clos_look (I : Inv X pins σ H s) (S : LcScope xs ys scope X.env.scope) {y : Str} {c : Addr} (e : (yJ X.env scope.names []).lookup y = some c) : X.env.cells.lookup y = some c :=
 xE scope.names [] (uS I S) (fun _ _ z => nomatch z) e
theorem block_start (I : Inv X pins σ H s) (S : LcScope xs ys scope X.env.scope) (hj : Caps X ys js) (f2 : ∀ b ∈ fp, jU X pins H b) (fo : ∀ b ∈ fp, b < s.heap.objs.size)
   {h₁ : Heap} {m : Str -> Option Value} {tk : Nat} {oD : Obj} (hC : s.heap.objs.size <= C) (hD : s.heap.objs.size <= D) (hDC : D ≠ C) (hn : h₁.Ns C m) (hd : h₁.get? D = some oD) (hdd : ∀ v, oD.data ≠ .cell v)
   (old : ∀ b o, s.heap.get? b = some o -> h₁.get? b = some o) :
   Inv (zW X xs ys scope C s H fp) [(D, oD)] (lcSt xs js σ) H { s with heap := h₁, toks := tk } := by
 have cl := fun y c => clos_look (y := y) (c := c) I S
 have nC : H C = none := I.hok.fresh hC
 have nD : H D = none := I.hok.fresh hD
 have lt_of : ∀ {b : Addr}, b < s.heap.objs.size -> b ≠ C := fun hb => Nat.ne_of_lt (Nat.lt_of_lt_of_le hb hC)
 have fsub : ∀ b, b ∈ frs X.stack -> b ∈ X.env.locals :: X.fs := I.stkSub
 refine ⟨⟨I.ok.mod, ?_, I.ok.glob, I.ok.blt, hC, fun x y c h1 h2 => I.ok.inj x y c (cl x c h1) (cl y c h2), fun x hx => ?_, (fun x c h => nomatch h), I.ok.hd, I.ok.frames, .inl rfl, fun b hb => ⟨lt_of (fo b hb), fun x c h => (f2 b hb).2.2.2.2.1 x c (cl x c h)⟩, I.bs,
   Nat.le_trans I.ok.bsz I.sz, fun b o e hb => ?_, fun b hb hf => ?_, I.stack, I.stkFree⟩,
   rfl, I.bare, Un.kept old, ⟨m, hn, fun i x v e1 e2 e3 => ?_⟩, fun x c h => ?_, nC, fun x c h => I.freeC x c (cl x c h), fun p hp => ?_, I.hok.kept old, ?_⟩
 · show scope.kind = _
   exact S.kind
 · have hx : (relabel scope X.env).names.lookup x = some .cell \/ (relabel scope X.env).names.lookup x = some .free := hx
   have hm : (x, NameKind.free) ∈ scope.names := by
     rcases hx with hx | hx
     · rcases yU hx with z | z
       · exact absurd rfl (S.nocell _ (PySem.mem_of_lookup z))
       · exact PySem.mem_of_lookup z.1
     · rcases yU hx with z | z
       · exact PySem.mem_of_lookup z
       · exact nomatch z.2
   exact xJ scope.names [] (.inl hm)
 · rcases (f2 b hb).2.2.2.1 with z | z
   · exact I.ok.noex b o e z
   · exact absurd (Nat.lt_of_lt_of_le (Heap.lt_size e) (Nat.le_trans I.ok.bsz z)) (Nat.lt_irrefl _)
 · rcases List.mem_cons.mp (fsub b hf) with z | z
   · exact (f2 b hb).2.1 z
   · exact (f2 b hb).2.2.1 z
 · have e1 : (xs ++ ys)[i]? = some x := e1
   have e2 : (xs.map (fun _ => (none : Option V)) ++ js.map fun j => (σ[j]?).join)[i]? = some (some v) := e2
   by_cases hi : i < xs.length
   · rw [List.getElem?_append_left (by simpa using hi), List.getElem?_map] at e2
     cases q : xs[i]? with
     | none => rw [q] at e2; cases e2
     | some z => rw [q] at e2; cases e2
   · rw [List.getElem?_append_right (by simpa using hi), List.length_map, List.getElem?_map] at e2
     rw [List.getElem?_append_right (by simpa using hi)] at e1
     cases q : js[i - xs.length]? with
     | none => rw [q] at e2; cases e2
     | some j =>
       rw [q] at e2
       have e2' : (σ[j]?).join = some v := Option.some.inj e2
       have hy := hj.2 _ _ _ e1 q
       have hσ : σ[j]? = some (some v) := by
         cases z : σ[j]? with
         | none => rw [z] at e2'; cases e2'
         | some t => rw [z] at e2'; exact congrArg some e2'
       have ym : x ∈ ys := List.mem_of_getElem? e1
       obtain ⟨cf, ca⟩ := S.cap x ym
       obtain ⟨m0, _, hl⟩ := I.loc
       obtain ⟨u, ru, lk⟩ := hl j x v hy hσ (ca.elim (fun z => .inr (.inl z)) fun z => .inr (.inr z))
       refine ⟨u, ru, .inr ⟨?_, ?_⟩⟩
       · exact xV (env := X.env) cf
       · rcases lk with ⟨k, _⟩ | ⟨_, c, ec, zc⟩
         · have k : X.env.scope.names.lookup x = some .local := k
           rcases ca with z | z <;> · rw [k] at z; cases z
         · obtain ⟨c', ec'⟩ := xJ (env := X.env) (y := x) scope.names [] (.inl (PySem.mem_of_lookup cf))
           have e3 := cl x c' ec'
           rw [ec] at e3
           cases e3
           obtain ⟨o, ho, hod⟩ := zc
           exact ⟨_, ec', o, old _ _ ho, hod⟩
 · obtain ⟨v, o, ho, hod⟩ := I.cell x c (cl x c h)
   exact ⟨v, o, old _ _ ho, hod⟩
 · have hp : p ∈ [(D, oD)] := by simpa [zW] using hp
   have e := List.mem_singleton.mp hp
   subst e
   refine ⟨hd, nD, hDC, fun hf => ?_, hdd⟩
   have hf : D ∈ frs X.stack := hf
   obtain ⟨o, ho⟩ : ∃ o, s.heap.get? D = some o := by
     rcases List.mem_cons.mp (fsub D hf) with z | z
     · obtain ⟨m0, ⟨o, _, _, ho, _⟩, _⟩ := I.loc
       have z : D = X.env.locals := z
       exact ⟨o, z ▸ ho⟩
     · exact absurd z (I.nofs hD)
   exact absurd (Heap.lt_size ho) (Nat.not_lt.mpr hD)
 · show (xs.map (fun _ => (none : Option V)) ++ js.map fun j => (σ[j]?).join).length = (xs ++ ys).length
   rw [List.length_append, List.length_append, List.length_map, List.length_map, hj.1]
end
section
variable {X : Cx} {pins : List (Addr × Obj)} {σ : St} {H : Hp} {s : Shared} {xs ys : List Str} {scope : Scope} {js : List Nat} {tg iter elt : Expr} {ifs : List Expr} {pos : Pos} {wi : TI} {g : TG} {tc : Option TT} {te : TE}
theorem qR {α : Type} {M : Model} {A : Around} {t : Sem α} {Q : α -> Shared -> Prop} {E : Value -> Shared -> Prop} {s : Shared} (h : wpAny M A t Q (fun _ _ => False) s) : wpAny M A t Q E s := wpAny_mono h (fun _ _ x => x) fun _ _ z => z.elim
theorem uR {prog : Program} {w : World} {A : Around} {R : Result -> Shared -> Prop} {it acc : Value} {env : Env} (J : Nat -> Shared -> Prop)
   (turn : ∀ n s, J n s -> wpAny (model prog w) A (pyNext it) (fun r s₁ => match r with
     | none => R (.ok .next) s₁
     | some v => wpAny (model prog w) A (letOwnedTupleGo tg it v) (fun _ s₁' => wpAny (model prog w) A (assign tg env v) (fun _ s₂ =>
         wpAny (model prog w) A (forIn ifs true fun c r => if r = true then do let ok ← isTrue c env (eval c env); pure (ForInStep.yield ok) else pure (ForInStep.yield r)) (fun ok s₃ =>
           if ok = true then wpAny (model prog w) A (eval elt env) (fun x s₄ =>
             wpAny (model prog w) A (call (.builtin "list.append") [acc, x]) (fun _ s₅ => ∃ m, m < n /\ J m s₅) (fun _ _ => False) s₄) (fun _ _ => False) s₃
           else ∃ m, m < n /\ J m s₃) (fun _ _ => False) s₂) (fun _ _ => False) s₁') (fun _ _ => False) s₁) (fun _ _ => False) s)
   (n : Nat) (h : J n s) : codeAny (model prog w) A (.compLoop (.ListComp elt [⟨tg, iter, ifs, 0⟩] scope pos) 0 it acc env) R s := by
 refine codeAny_loop rfl J (fun n s hI => ?_) n h
 show wpAny _ A ((compTurn (.ListComp elt [⟨tg, iter, ifs, 0⟩] scope pos) 0 it acc env).onRaise (fun x => do noteFrame x env; theTreesLotGoes x)) _ _ s
 refine wpAny_noted ?_
 rw [compTurn_list]
 refine wpAny_bind (wpAny_standAt (wpAny_bind (qR (thn (turn n s hI) fun r s₁ h₁ => ?_))))
 cases r with
 | none => exact wpAny_pure h₁
 | some v =>
   refine wpAny_bind (qR (thn h₁ fun _ s₁' h₁' => wpAny_bind (qR (thn h₁' fun _ s₂ h₂ => wpAny_bind (qR (thn h₂ fun ok s₃ h₃ => ?_))))))
   cases ok with
   | false => exact wpAny_pure ⟨rfl, h₃⟩
   | true => exact wpAny_bind (wpAny_bind (qR (thn h₃ fun x s₄ h₄ => wpAny_bind (qR (thn h₄ fun _ s₅ h₅ => wpAny_pure (wpAny_pure ⟨rfl, h₅⟩))))))
structure LcEnd (X : Cx) (pins : List (Addr × Obj)) (σ : St) (C : Addr) (H' : Hp) (s' : Shared) : Prop where
 inv : Inv X pins σ H' s'
 ns : ∃ m, s'.heap.Ns C m
 free : H' C = none
 ne : C ≠ X.env.locals
 up : X.s₀.heap.objs.size <= C
 cells : ∀ x c, X.env.cells.lookup x = some c -> c ≠ C
 pin : ∀ p ∈ X.pn ++ pins, p.1 ≠ C
theorem LcEnd.gone {C : Addr} {H' : Hp} {s' : Shared} (L : LcEnd X pins σ C H' s') {h' : Heap} (hs : Heap.SameBut C s'.heap h') : Inv X pins σ H' { s' with heap := h' } :=
 L.inv.turned (t' := s'.toks) (fun b o hb e => hs.extBut b o hb e) L.free L.ne (.inr L.up) L.cells L.pin
theorem lc_core (hc : X.calm = true) (S : LcScope xs ys scope X.env.scope) (hj : Caps X ys js) (hi : PI X tg iter wi)
   (hg : ∀ C s₀ H₀ fp, PG (zW X xs ys scope C s₀ H₀ fp) tg g) (hif : ∀ C s₀ H₀ fp, PIf (zW X xs ys scope C s₀ H₀ fp) ifs tc) (he : ∀ C s₀ H₀ fp, PE (zW X xs ys scope C s₀ H₀ fp) elt te)
   {RR : Value -> Addr -> Result -> Shared -> Prop} {Q : VK} (I : Inv X pins σ H s) (h : tLC xs js wi g tc te σ H Q)
   (fin : ∀ D C H' s', LcEnd X pins σ C H' s' -> Q (.ref D) H' -> RR (.ref D) C (.ok .next) s') :
   wpAny (model X.prog X.w) X.A (eval iter X.env) (fun x s₁ => wpAny (model X.prog X.w) X.A (pyIter x) (fun it s₂ => wpAny (model X.prog X.w) X.A (newList []) (fun acc s₃ =>
     wpAny (model X.prog X.w) X.A (newFunctionEnv scope X.env.globals (yJ X.env scope.names []) [] X.env.qual none .none (some X.env)) (fun cenv s₄ =>
       codeAny (model X.prog X.w) X.A (.compStart (.ListComp elt [⟨tg, iter, ifs, 0⟩] scope pos) 0 it acc { cenv with scope := relabel scope X.env }) (RR acc cenv.locals) s₄) X.xe s₃) X.xe s₂) X.xe s₁) X.xe s := by
 refine thn (hi pins s σ H _ I h) fun v s1 h1 => thn h1 fun itv s2 h2 => ?_
 obtain ⟨it, fp, tn, J, H2, e, I2, T, st2, f2, W, ⟨m0, w0⟩, turn⟩ := h2
 subst e
 have fo : ∀ b ∈ fp, b < s2.heap.objs.size := fun b hb => let ⟨o, e, _⟩ := T.obj _ _ st2 b hb; Heap.lt_size e
 refine wpAny_newObj_type (wpAny_newFunctionEnv S.nocell (by intro y hy; simp at hy) (fun h₁ hns₁ hsb₁ => ?_) S.kind)
 dsimp only at hns₁ hsb₁ ⊢
 generalize hH2 : s2.heap.push { cls := .type "list", dict := none, data := .seq ([] : List Value).toArray } = G at hns₁ hsb₁ ⊢
 have hC : G.objs.size = s2.heap.objs.size + 1 := by rw [← hH2, Heap.size_push]
 have hDC : s2.heap.objs.size ≠ G.objs.size := by rw [hC]; exact Nat.ne_of_lt (Nat.lt_succ_self _)
 have hCle : s2.heap.objs.size <= G.objs.size := by rw [hC]; exact Nat.le_succ _
 have below : ∀ b, b < s2.heap.objs.size -> b ≠ G.objs.size /\ b ≠ s2.heap.objs.size := fun b hb => ⟨by rw [hC]; exact Nat.ne_of_lt (Nat.lt_succ_of_lt hb), Nat.ne_of_lt hb⟩
 have old : ∀ b o, s2.heap.get? b = some o -> h₁.get? b = some o := fun b o e => hsb₁.extBut b o (below b (Heap.lt_size e)).1 (Heap.get?_push_of_some _ (hH2 ▸ Heap.get?_push_of_some _ e))
 have hacc : h₁.get? s2.heap.objs.size = some (LCg.lst []) := hsb₁.extBut _ _ hDC (Heap.get?_push_of_some _ (hH2 ▸ Heap.get?_push_size _ rfl))
 have st₁ : tn 0 h₁ := T.keep _ _ _ st2 fun b _ o e => old b o e
 have I3 := block_start (C := G.objs.size) (D := s2.heap.objs.size) (tk := s2.toks + ([] : List (Str × Value)).length) I2 S hj f2 fo hCle (Nat.le_refl _) hDC hns₁ hacc (by intro v hv; cases hv) old
 generalize hX : zW X xs ys scope G.objs.size s2 H2 fp = B at I3
 have pB : B.prog = X.prog := by rw [← hX]; rfl
 have wB : B.w = X.w := by rw [← hX]; rfl
 have kB : B.K = X.K := by rw [← hX]; rfl
 have aB : B.A = X.A := by rw [← hX]; rfl
 have eB : B.env = compEnvC scope (yJ X.env scope.names []) G.objs.size X.env := by rw [← hX]; rfl
 have cB : B.calm = true := by rw [← hX]; exact hc
 have xB : B.xe = fun _ _ => False := by rw [← hX]; rfl
 have gB : PG B tg g := by rw [← hX]; exact hg _ _ _ _
 have iB : PIf B ifs tc := by rw [← hX]; exact hif _ _ _ _
 have elB : PE B elt te := by rw [← hX]; exact he _ _ _ _
 have sB : B.s₀ = s2 := by rw [← hX]; rfl
 have hB : B.H₀ = H2 := by rw [← hX]; rfl
 have fB : B.fs = frs X.stack := by rw [← hX]; rfl
 have exB : B.ex = fp := by rw [← hX]; rfl
 have pnB : B.pn = [] := by rw [← hX]; rfl
 have statB : ∀ {H' : Hp} {oD : Obj} {σ' : St} {s' : Shared}, Inv B [(s2.heap.objs.size, oD)] σ' H' s' -> (∀ b ∈ fp, H' b = none) -> ∀ b ∈ fp, jU B [(s2.heap.objs.size, oD)] H' b := fun {H' oD σ' s'} I' hn b hb =>
   ⟨hn b hb, (I'.ok.exf b (exB ▸ hb)).1, I'.ok.exfs b (exB ▸ hb), .inl (exB ▸ hb), (I'.ok.exf b (exB ▸ hb)).2, fun p hp => by
     rw [pnB] at hp
     have e := List.mem_singleton.mp (show p ∈ [(s2.heap.objs.size, oD)] from hp)
     subst e
     exact Nat.ne_of_gt (fo b hb)⟩
 have loop : ∀ s₃ : Shared, s₃ = { s2 with heap := h₁, toks := s2.toks + ([] : List (Str × Value)).length } ->
     codeAny (model X.prog X.w) X.A (.compLoop (.ListComp elt [⟨tg, iter, ifs, 0⟩] scope pos) 0 (.ref it) (.ref s2.heap.objs.size) (compEnvC scope (yJ X.env scope.names []) G.objs.size X.env)) (RR (.ref s2.heap.objs.size) G.objs.size) s₃ := by
   rintro s₃ rfl
   refine uR (fun n s' => ∃ i ys its σ1 H', Inv B [(s2.heap.objs.size, LCg.lst its)] σ1 H' s' /\ Vals ys its /\ tn i s'.heap /\ (∀ b ∈ fp, H' b = none) /\ ys.length <= sizeLine /\ W i n ys σ1 H') ?_ m0
     ⟨0, [], [], _, H2, I3, .nil, st₁, fun b hb => (f2 b hb).1, Nat.zero_le _, w0⟩
   rintro n s' ⟨i, ys', its, σ1, H', I', rv, st', fr', hz, w'⟩
   have rl := rv.length
   rcases turn i n ys' σ1 H' w' with ⟨stop, qn⟩ | ⟨go, hz', step⟩
   · have q := T.done B pB wB kB cB i _ s' σ1 H' (fun _ _ => False) I' (statB I' fr') st' stop
     rw [aB] at q
     refine thn q fun r s4 ⟨hr, I4⟩ => ?_
     subst hr
     have pD := (I4.pin (s2.heap.objs.size, LCg.lst its) (List.mem_append_right _ List.mem_cons_self))
     have hDn : H' s2.heap.objs.size = none := pD.2.1
     have ub := I4.base
     rw [fB, exB, hB, sB] at ub
     have neD : ∀ {b : Addr} {o : HO}, H' b = some o -> b ≠ s2.heap.objs.size := fun e z => by rw [z, hDn] at e; cases e
     have upk : ∀ {b : Addr} {o : HO}, H' b = some o -> upd H' s2.heap.objs.size (.lst ys') b = some o := fun e => by rw [zE (neD e)]; exact e
     have u : Un (frs X.stack) fp H2 (upd H' s2.heap.objs.size (.lst ys')) s2.heap s4.heap :=
       ⟨ub.keep, ub.slot, fun b o e n hx => by rw [zE (below b (Heap.lt_size e)).2]; exact ub.free b o e n hx, ub.there, fun b zs e => upk (ub.tups b zs e), fun b o zs e => upk (ub.frzs b o zs e), fun b ps e => let ⟨more, q⟩ := ub.tbls b ps e; ⟨more, upk q⟩⟩
     have hok4 : HOk X.prog X.w H' s4.heap := by have := I4.hok; rw [pB, wB] at this; exact this
     have hok : HOk X.prog X.w (upd H' s2.heap.objs.size (.lst ys')) s4.heap := fun b o e => by
       by_cases hb : b = s2.heap.objs.size
       · subst hb
         rw [zC] at e
         cases e
         exact ⟨hz, its, its.length, rv, pD.1⟩
       · rw [zE hb] at e
         exact (hok4 b o e).stay (fun _ _ _ q => q) (fun _ q => upk q) fun _ _ q => upk q
     have I5 : Inv X pins σ (upd H' s2.heap.objs.size (.lst ys')) s4 := I2.call' (ch := fp) (by rw [I4.os, sB]) u hok I4.bare fun b hb => let f := f2 b hb; ⟨f.2.2.2.1, f.2.1, f.2.2.2.2.1, f.2.2.2.2.2⟩
     refine fin s2.heap.objs.size G.objs.size _ s4 ⟨I5, ?_, ?_, ?_, Nat.le_trans I2.sz hCle, fun x c e z => ?_, fun p hp z => ?_⟩ (qn _ hDn)
     · obtain ⟨m, hn, _⟩ := I4.loc
       rw [eB] at hn
       exact ⟨m, hn⟩
     · have fr := I4.free
       rw [eB] at fr
       rw [zE (Ne.symm hDC)]
       exact fr
     · exact Ne.symm (below _ I2.lt).1
     · obtain ⟨_, o, ho, _⟩ := I2.cell x c e
       exact (below c (Heap.lt_size ho)).1 z
     · exact (below p.1 (Heap.lt_size (I2.pin p hp).1)).1 z
   · have q := T.item B pB wB kB cB i _ s' σ1 H' (fun _ _ => False) I' (statB I' fr') st' go
     rw [aB] at q
     refine thn q fun r s4 ⟨u, hr, h4⟩ => ?_
     subst hr
     refine thn h4 fun _ s5 ⟨x, H5, I5, r5, y5, st5, fr5⟩ => ?_
     have I5' := I5.pinned (statB I5 fr5) (T.obj _ _ st5)
     have q5 := gB _ s5 σ1 H5 x u _ I5' r5 (step x H5 y5)
     rw [pB, wB, aB, eB, xB] at q5
     refine thn q5 fun _ s6 ⟨σ6, H6, I6, q6⟩ => ?_
     have last : ∀ {s7 : Shared} {H7 : Hp}, Inv B ([(s2.heap.objs.size, LCg.lst its)] ++ yY fp s5.heap) σ6 H7 s7 -> (te σ6 H7 fun y H8 => ∃ m', m' < n /\ W (i + 1) m' (ys' ++ [y]) σ6 H8) ->
         wpAny (model X.prog X.w) X.A (eval elt (compEnvC scope (yJ X.env scope.names []) G.objs.size X.env)) (fun x s₄ =>
             wpAny (model X.prog X.w) X.A (call (.builtin "list.append") [.ref s2.heap.objs.size, x]) (fun _ s₅ => ∃ m, m < n /\
               ∃ i ys its σ1 H', Inv B [(s2.heap.objs.size, LCg.lst its)] σ1 H' s₅ /\ Vals ys its /\ tn i s₅.heap /\ (∀ b ∈ fp, H' b = none) /\ ys.length <= sizeLine /\ W i m ys σ1 H') (fun _ _ => False) s₄) (fun _ _ => False) s7 := fun {s7 H7} I7 q7 => by
       have q8 := elB _ s7 σ6 H7 _ I7 q7
       rw [pB, wB, aB, eB, xB] at q8
       refine thn q8 fun uy s8 ⟨y, H8, I8, r8, m', hm', w8⟩ => ?_
       have pD := (I8.pin (s2.heap.objs.size, LCg.lst its) (List.mem_append_right _ (List.mem_append_left _ List.mem_cons_self)))
       refine append_at (its := its.toArray) (n := its.length) pD.1 (fun h9 hs9 hd9 => ?_) (by rw [List.size_toArray, ← rl]; exact hz)
       have dropped : Inv B (yY fp s5.heap) σ6 H8 s8 := I8.pins_of fun p hp => I8.pin p (List.mem_append_right _ (List.mem_append_right _ hp))
       have apart : ∀ p ∈ B.pn ++ yY fp s5.heap, p.1 ≠ s2.heap.objs.size := fun p hp => by
         rw [pnB] at hp
         exact Nat.ne_of_lt (fo _ (qW (show p ∈ yY fp s5.heap from hp)).1)
       have I9 : Inv B (yY fp s5.heap) σ6 H8 { s8 with heap := h9 } := dropped.turned (t' := s8.toks) (fun b o hb e => hs9.extBut b o hb e) pD.2.1 pD.2.2.1 (.inr (by rw [sB]; exact Nat.le_refl _)) (fun x c e => by
         intro z
         obtain ⟨v, o, ho, hd⟩ := I8.cell x c e
         rw [z, pD.1] at ho
         cases ho
         cases hd) apart
       have I9' : Inv B [(s2.heap.objs.size, LCg.lst (its ++ [uy]))] σ6 H8 { s8 with heap := h9 } := I9.pins_of fun p hp => by
         have e := List.mem_singleton.mp hp
         subst e
         exact ⟨hd9.trans (congrArg some (LCg.lst_snoc its uy)), pD.2.1, pD.2.2.1, pD.2.2.2.1, by intro v hv; cases hv⟩
       refine ⟨m', hm', i + 1, ys' ++ [y], its ++ [uy], σ6, H8, I9', Vals.append rv (.cons r8 .nil), T.keep _ _ _ st5 fun b hb o e => ?_, fun b hb => ?_, by rw [List.length_append]; exact hz', w8⟩
       · exact (I9.pin (b, o) (List.mem_append_right _ (yL hb e))).1
       · obtain ⟨o, e, d⟩ := T.obj _ _ st5 b hb
         exact (I9.pin (b, o) (List.mem_append_right _ (yL hb e))).2.1
     have again : ∀ {s7 : Shared} {H7 : Hp}, Inv B ([(s2.heap.objs.size, LCg.lst its)] ++ yY fp s5.heap) σ6 H7 s7 -> (∃ m', m' < n /\ W (i + 1) m' ys' σ6 H7) -> ∃ m, m < n /\
         ∃ i ys its σ1 H', Inv B [(s2.heap.objs.size, LCg.lst its)] σ1 H' s7 /\ Vals ys its /\ tn i s7.heap /\ (∀ b ∈ fp, H' b = none) /\ ys.length <= sizeLine /\ W i m ys σ1 H' := fun {s7 H7} I7 ⟨m', hm', w7⟩ => by
       refine ⟨m', hm', i + 1, ys', its, σ6, H7, I7.unpinned, rv, T.keep _ _ _ st5 fun b hb o e => (I7.pin (b, o) (List.mem_append_right _ (List.mem_append_right _ (yL hb e)))).1, fun b hb => ?_, hz, w7⟩
       obtain ⟨o, e, d⟩ := T.obj _ _ st5 b hb
       exact (I7.pin (b, o) (List.mem_append_right _ (List.mem_append_right _ (yL hb e)))).2.1
     match ifs, tc, iB, q6 with
     | [], none, _, q6 =>
       refine wpAny_tests_nil ?_
       rw [if_pos rfl]
       exact last I6 q6
     | [c], some t, iB, q6 =>
       have iB : PT B c t := iB
       have q7 := iB _ s6 σ6 H6 _ I6 q6
       rw [pB, wB, aB, eB, xB] at q7
       refine wpAny_tests_one (thn q7 fun b s7 ⟨H7, I7, q7⟩ => ?_)
       cases b with
       | true => rw [if_pos rfl] at q7 ⊢; exact last I7 q7
       | false => rw [if_neg Bool.false_ne_true] at q7 ⊢; exact again I7 q7
 exact codeAny_compStart_list (loop _ rfl) (T.self _ 0 _ _ _ st₁ (loop _ rfl))
theorem pe_lc (hc : X.calm = true) (S : LcScope xs ys scope X.env.scope) (hj : Caps X ys js) (hi : PI X tg iter wi)
   (hg : ∀ C s₀ H₀ fp, PG (zW X xs ys scope C s₀ H₀ fp) tg g) (hif : ∀ C s₀ H₀ fp, PIf (zW X xs ys scope C s₀ H₀ fp) ifs tc) (he : ∀ C s₀ H₀ fp, PE (zW X xs ys scope C s₀ H₀ fp) elt te)
   (hs : ∀ x, foldedSetIterable iter X.env x = pure x := by intro _; rfl) : PE X (.ListComp elt [⟨tg, iter, ifs, 0⟩] scope pos) (tLC xs js wi g tc te) := by
 intro pins s σ H Q I h
 rw [eval_ListComp]
 refine wpAny_comprehension_free (use := none) rfl hs (xP (uS I S)) S.kind S.names ?_
 refine lc_core (RR := fun acc C => compPost (model X.prog X.w) X.A X.xe none (EP X pins σ Q) acc C) hc S hj hi hg hif he I h fun D C H' s' L q => ?_
 obtain ⟨m, hn⟩ := L.ns
 exact ⟨m, hn, fun h'' hs'' => ⟨.ref D, H', L.gone hs'', rfl, q⟩⟩
theorem ps_setLC {i : Nat} {x : Str} {p' p : Pos} (hN : X.N.Nodup) (hx : X.N[i]? = some x) (hl : X.env.scope.names.lookup x = some .local) (hc : X.calm = true) (S : LcScope xs ys scope X.env.scope) (hj : Caps X ys js) (hi : PI X tg iter wi)
   (hg : ∀ C s₀ H₀ fp, PG (zW X xs ys scope C s₀ H₀ fp) tg g) (hif : ∀ C s₀ H₀ fp, PIf (zW X xs ys scope C s₀ H₀ fp) ifs tc) (he : ∀ C s₀ H₀ fp, PE (zW X xs ys scope C s₀ H₀ fp) elt te)
   (hsw : swapsWith (.ListComp elt [⟨tg, iter, ifs, 0⟩] scope pos) (some (.Name x p')) p.line X.env = pure true := by rfl)
   (hs : ∀ x, foldedSetIterable iter X.env x = pure x := by intro _; rfl) : PS X (.Assign [.Name x p'] (.ListComp elt [⟨tg, iter, ifs, 0⟩] scope pos) p) (tAsg (tLC xs js wi g tc te) (gName i)) := by
 intro pins s σ H D I h
 rw [exec_Assign_Name_used _ _ _ _ hsw]
 refine wpAny_bind (wpAny_standAt (wpAny_bind ?_))
 show wpAny _ X.A (do let _ ← comprehension (.ListComp elt [⟨tg, iter, ifs, 0⟩] scope pos) scope X.env _ (newList []) false (eval iter X.env) (some (assign (.Name x p') X.env))) _ _ s
 refine wpAny_bind (wpAny_mono (wpAny_comprehension_free (use := some (assign (.Name x p') X.env)) (Q := fun _ s' => SP X pins D .next s') rfl hs (xP (uS I S)) S.kind S.names ?_) (fun _ s' hq => wpAny_pure (wpAny_pure hq)) fun _ _ e => e)
 refine lc_core (Q := fun v H' => gName i v σ H' D.nx) (RR := fun acc C => compPost (model X.prog X.w) X.A X.xe (some (assign (.Name x p') X.env)) (fun _ s' => SP X pins D .next s') acc C) hc S hj hi hg hif he I h fun A C H' s' L q => ?_
 show wpAny _ X.A (assign (.Name x p') X.env (.ref A)) _ _ _
 refine wpAny_assign_Name (qS (v := .ref A) L.inv hN hx (.inl hl) rfl (fun s'' I'' ⟨a, sb, ha⟩ => ?_) (.inr hl))
 have cne : ∀ {b : Addr}, (b = X.env.locals \/ X.env.cells.lookup x = some b) -> C ≠ b := fun z e => by
   rcases z with z | z
   · exact L.ne (e.trans z)
   · exact L.cells x _ z e.symm
 obtain ⟨m, hn⟩ := L.ns
 refine ⟨m, hn.sameBut sb (cne ha), fun h'' hs'' => ⟨_, _, ?_, q⟩⟩
 exact LcEnd.gone ⟨I'', ⟨m, hn.sameBut sb (cne ha)⟩, L.free, L.ne, L.up, L.cells, L.pin⟩ hs''
end
def Its (x : Str) : It := ⟨fun i _ => i < x.cps.size, fun i H v H' => H' = H /\ ∃ c, x.cps[i]? = some c /\ v = .str ⟨#[c]⟩, fun i _ => x.cps.size <= i⟩
section
variable {X : Cx} {tg : Expr}
def iStr (tl : TE) : TI := fun σ H R => tl σ H fun x H1 => ∃ z, x = .str z /\ R (Its z) H1
end
def rSlS : V -> Option Int -> Option Int -> Hp -> VK -> Prop := fun x lo hi H Q => ∃ z, x = .str z /\ z.length <= sizeLine /\ Q (.str (Txt.slice z lo hi)) H
section
variable {X : Cx}
theorem yN {T : String} : jA X (.builtin "isinstance") (fun xs H Q => ∃ x t b, xs = [x, .ty T] /\ TyOf X.K H x t /\ PySem.W.kitOne X.K t (.type T) = some b /\ Q (.bl b) H) := by
 intro pins s σ H xs us Q I r h
 obtain ⟨x, t, b, rfl, ty, e, q⟩ := h
 obtain ⟨u, w', rfl, ru, rw'⟩ := vals2 r
 cases rw'
 exact isinst_ok I ru ty e fun tk => ⟨.bl b, H, I.tok tk, rfl, q⟩
theorem strsAre_of : ∀ {ys : List Str} {us : List Value}, Vals (ys.map V.str) us -> StrsAre us ys
 | [], us, r => by
   rw [List.map_nil] at r
   cases r
   exact .nil
 | y :: ys, us, r => by
   rw [List.map_cons] at r
   cases r with
   | @cons a b as bs h t =>
     obtain ⟨tk, hb⟩ := (show ∃ tk, b = Value.str y tk from h)
     subst hb
     exact .cons y tk (strsAre_of t)
theorem mt_join : MtR X "str.join" (fun x xs H Q => ∃ (z : Str) (p : Addr) (ys : List Str), x = .str z /\ xs = [.ref p] /\ SqL X.K H p (ys.map V.str) /\ (ys.map (·.length)).sum + ys.length * z.length <= 16777216 /\ Q (.str (Txt.join z ys)) H) := by
 intro pins s σ H x xs v us Q I rx rs h
 obtain ⟨z, p, ys, rfl, rfl, hp, hb, q⟩ := h
 obtain ⟨tz, rfl⟩ := rx
 obtain ⟨u, rfl, ru⟩ := vals1 rs
 cases ru
 obtain ⟨its, rv, hl, hz⟩ := I.list hp
 exact join_list hl.isList (strsAre_of rv) hb fun t' k => ⟨.str (Txt.join z ys), H, I.tok k, ⟨t', rfl⟩, q⟩
end
structure Has (P : Program) (w : World) (K : PySem.W.Frag) (mg : Str -> Option Value) (base : Heap) (k : Nat) (x : Str) (ps : List Str) (sp : Sp) : Prop where
 ex : ∃ f fd, FnOk P w K mg base CX0 k f fd ps sp /\ Binds K fd ps [] /\ PySem.W.keepIn K (.ref f) = true /\ mg x = some (.ref f)
def Gc (mg : Str -> Option Value) (x : Str) (v : V) : Prop := ∃ u, mg x = some u /\ RelV v u
section
variable {X : Cx} {k : Nat} {x : Str} {ps : List Str} {sp : Sp} {p pos : Pos} {e : Expr} {es : List Expr} {t : TA} {v : V}
theorem zN (h : Has X.prog X.w X.K X.mg X.base k x ps sp) (hr : Room k X.A) (hg : Gl X x) (ha : PA X (e :: es) t) (hdb : (x == ("__debug__" : Str)) = false := by decide)
   (he : starEach (e :: es) X.env = (false, eval e X.env) :: starEach es X.env := by rfl) (hpl : (backTo pos (starEach es X.env)).any (·.1) = false := by rfl) : PE X (.Call (.Name x p) (e :: es) [] pos) (tCall sp [] E0 t) := by
 obtain ⟨f, fd, F, b, kp, m⟩ := h.ex
 exact pe_call F hr hg m kp b .nil pass0 ha hdb he hpl
theorem pe_gc (h : Gc X.mg x v) (hg : Gl X x) (hd : (x == ("__debug__" : Str)) = false := by decide) : PE X (.Name x pos) (tC v) := by
 obtain ⟨u, m, r⟩ := h
 exact pe_glob hg m r hd
theorem xM {T : String} (hm : X.mg x = none) (hv : bootBuiltins x = some (.type T)) (hg : Gl X x) (hn : x ≠ "__name__" := by decide) (hd : (x == ("__debug__" : Str)) = false := by decide) : PE X (.Name x pos) (tC (.ty T)) :=
 pe_bltn hg hm hv rfl hn hd
end
theorem jW {X : Cx} : PIf X [] none := trivial
theorem pif_one {X : Cx} {c : Expr} {t : TT} (h : PT X c t) : PIf X [c] (some t) := h
def lcOk (xs ys : List Str) (scope around : Scope) : Bool :=
 (scope.kind == .function) && decide (xs ++ ys).Nodup && xs.all (fun x => scope.names.lookup x == some .local) &&
 ys.all (fun y => (scope.names.lookup y == some .free) && ((around.names.lookup y == some .cell) || (around.names.lookup y == some .free))) &&
 scope.names.all (fun y => (y.2 != .cell) && ((y.2 != .local) || (scope.names.lookup y.1 == some .local)) && ((y.2 != .free) || ys.contains y.1))
theorem lcOk.scope {xs ys : List Str} {scope around : Scope} (h : lcOk xs ys scope around = true) : LcScope xs ys scope around := by
 unfold lcOk at h
 simp only [Bool.and_eq_true, beq_iff_eq, decide_eq_true_eq, List.all_eq_true, Bool.or_eq_true, bne_iff_ne, List.contains_iff_mem] at h
 obtain ⟨⟨⟨⟨h1, h2⟩, h3⟩, h4⟩, h5⟩ := h
 exact ⟨h1, h2, h3, h4, fun y hy => (h5 y hy).1.1, fun y hy hl => (h5 y hy).1.2.resolve_left (fun z => z hl), fun y hy hf => (h5 y hy).2.resolve_left (fun z => z hf)⟩
def capOk (N ys : List Str) (js : List Nat) : Bool := (js.length == ys.length) && (ys.zip js).all fun p => N[p.2]? == some p.1
theorem capOk.caps {X : Cx} {ys : List Str} {js : List Nat} (h : capOk X.N ys js = true) : Caps X ys js := by
 unfold capOk at h
 simp only [Bool.and_eq_true, beq_iff_eq, List.all_eq_true] at h
 refine ⟨h.1, fun i y j hy hj => ?_⟩
 refine h.2 (y, j) (List.mem_of_getElem? (i := i) ?_)
 rw [List.getElem?_zip_eq_some]
 exact ⟨hy, hj⟩
section
variable {X : Cx} {xs ys : List Str} {scope : Scope} {js : List Nat} {tg iter elt : Expr} {ifs : List Expr} {pos : Pos} {wi : TI} {g : TG} {tc : Option TT} {te : TE}
theorem jX (xs ys : List Str) (js : List Nat) (hi : PI X tg iter wi)
   (hg : ∀ C s₀ H₀ fp, (xs ++ ys).Nodup -> PG (zW X xs ys scope C s₀ H₀ fp) tg g) (hif : ∀ C s₀ H₀ fp, PIf (zW X xs ys scope C s₀ H₀ fp) ifs tc) (he : ∀ C s₀ H₀ fp, PE (zW X xs ys scope C s₀ H₀ fp) elt te)
   (hc : X.calm = true := by rfl) (S : lcOk xs ys scope X.env.scope = true := by rfl) (hj : capOk X.N ys js = true := by rfl)
   (hs : ∀ x, foldedSetIterable iter X.env x = pure x := by intro _; rfl) : PE X (.ListComp elt [⟨tg, iter, ifs, 0⟩] scope pos) (tLC xs js wi g tc te) :=
 pe_lc hc (lcOk.scope S) (capOk.caps hj) hi (fun C s₀ H₀ fp => hg C s₀ H₀ fp (lcOk.scope S).nd) hif he hs
theorem ps_comp {i : Nat} {x : Str} {p' p : Pos} (xs ys : List Str) (js : List Nat) (hN : X.N.Nodup) (hx : X.N[i]? = some x) (hi : PI X tg iter wi)
   (hg : ∀ C s₀ H₀ fp, (xs ++ ys).Nodup -> PG (zW X xs ys scope C s₀ H₀ fp) tg g) (hif : ∀ C s₀ H₀ fp, PIf (zW X xs ys scope C s₀ H₀ fp) ifs tc) (he : ∀ C s₀ H₀ fp, PE (zW X xs ys scope C s₀ H₀ fp) elt te)
   (hl : X.env.scope.names.lookup x = some .local := by rfl) (hc : X.calm = true := by rfl) (S : lcOk xs ys scope X.env.scope = true := by rfl) (hj : capOk X.N ys js = true := by rfl)
   (hsw : swapsWith (.ListComp elt [⟨tg, iter, ifs, 0⟩] scope pos) (some (.Name x p')) p.line X.env = pure true := by rfl)
   (hs : ∀ x, foldedSetIterable iter X.env x = pure x := by intro _; rfl) : PS X (.Assign [.Name x p'] (.ListComp elt [⟨tg, iter, ifs, 0⟩] scope pos) p) (tAsg (tLC xs js wi g tc te) (gName i)) :=
 ps_setLC hN hx hl hc (lcOk.scope S) (capOk.caps hj) hi (fun C s₀ H₀ fp => hg C s₀ H₀ fp (lcOk.scope S).nd) hif he hsw hs
end
theorem bt_len : bootBuiltins "len" = some (.builtin "len") := by decide +kernel
theorem bt_isinstance : bootBuiltins "isinstance" = some (.builtin "isinstance") := by decide +kernel
theorem bt_tuple : bootBuiltins "tuple" = some (.type "tuple") := by decide +kernel
theorem bt_list : bootBuiltins "list" = some (.type "list") := by decide +kernel
theorem bt_int : bootBuiltins "int" = some (.type "int") := by decide +kernel
theorem bt_bool : bootBuiltins "bool" = some (.type "bool") := by decide +kernel
theorem cx_K {CX : CXT} {P : Program} {w : World} {K : PySem.W.Frag} {mg : Str -> Option Value} {base : Heap} {N : List Str} {qual : Str} {scope : Scope} {f : Addr} {cd : Value} {A : Around} {outer : List Env} {s : Shared} {H : Hp} {E : XK} : (xL CX P w K mg base N qual scope f cd A outer s H E).K = K := rfl
theorem cx_calm {CX : CXT} {P : Program} {w : World} {K : PySem.W.Frag} {mg : Str -> Option Value} {base : Heap} {N : List Str} {qual : Str} {scope : Scope} {f : Addr} {cd : Value} {A : Around} {outer : List Env} {s : Shared} {H : Hp} {E : XK} : (xL CX P w K mg base N qual scope f cd A outer s H E).calm = true := rfl
theorem bk_calm {X : Cx} {xs ys : List Str} {scope : Scope} {C : Addr} {s₀ : Shared} {H₀ : Hp} {fp : List Addr} : (zW X xs ys scope C s₀ H₀ fp).calm = X.calm := rfl
theorem lenV_str {K : PySem.W.Frag} {y : Str} {H : Hp} {n : Nat} : LenV K (.str y) H n ↔ (y.length <= sizeLine /\ n = y.length) := Iff.rfl
theorem bk_K {X : Cx} {xs ys : List Str} {scope : Scope} {C : Addr} {s₀ : Shared} {H₀ : Hp} {fp : List Addr} : (zW X xs ys scope C s₀ H₀ fp).K = X.K := rfl
theorem lc_by {J : It} {n : Nat} {ns : List Str} {js : List Nat} {g : TG} {te : TE} {σ : St} {H : Hp} {Q : VK} (Pv : Nat -> List V -> St -> Hp -> Prop) (h0 : Pv 0 [] (lcSt ns js σ) H) (hn : n <= sizeLine) (hl : ∀ i ys σ H, Pv i ys σ H -> ys.length <= i)
   (hgo : ∀ i ys σ H, i < n -> Pv i ys σ H -> J.go i H) (hst : ∀ ys σ H, Pv n ys σ H -> J.stop n H)
   (hs : ∀ i ys σ H x H' (C : V -> St -> Hp -> Prop), i < n -> Pv i ys σ H -> J.yld i H x H' -> (∀ y σ2 H3, Pv (i + 1) (ys ++ [y]) σ2 H3 -> C y σ2 H3) -> g x σ H' fun σ2 H2 => te σ2 H2 fun y H3 => C y σ2 H3)
   (hd : ∀ ys σ H, Pv n ys σ H -> ∀ p, H p = none -> Q (.ref p) (upd H p (.lst ys))) :
   LcW J ns js g none te σ H Q := by
 refine ⟨fun i m ys σ H => i + m = n /\ Pv i ys σ H, ⟨n, by omega, h0⟩, fun i m ys σ H ⟨e, w⟩ => ?_⟩
 by_cases hi : i < n
 · refine .inr ⟨hgo i ys σ H hi w, Nat.lt_of_le_of_lt (hl _ _ _ _ w) (by omega), fun x H' hy => ?_⟩
   exact hs i ys σ H x H' (fun y σ2 H3 => ∃ m', m' < m /\ i + 1 + m' = n /\ Pv (i + 1) (ys ++ [y]) σ2 H3) hi w hy fun y σ2 H3 q => ⟨m - 1, by omega, by omega, q⟩
 · have : i = n := by omega
   subst this
   exact .inl ⟨hst ys σ H w, hd ys σ H w⟩
theorem lc_range {lo : Int} {n : Nat} {ns : List Str} {js : List Nat} {g : TG} {te : TE} {σ : St} {H : Hp} {Q : VK} (Pv : Nat -> List V -> St -> Hp -> Prop) (h0 : Pv 0 [] (lcSt ns js σ) H) (hz : n <= sizeLine) (hl : ∀ i ys σ H, Pv i ys σ H -> ys.length <= i)
   (hs : ∀ (i : Nat) ys σ H (C : V -> St -> Hp -> Prop), i < n -> Pv i ys σ H -> (∀ y σ2 H3, Pv (i + 1) (ys ++ [y]) σ2 H3 -> C y σ2 H3) -> g (.int (lo + i)) σ H fun σ2 H2 => te σ2 H2 fun y H3 => C y σ2 H3)
   (hd : ∀ ys σ H, Pv n ys σ H -> ∀ p, H p = none -> Q (.ref p) (upd H p (.lst ys))) :
   LcW (Itr lo n) ns js g none te σ H Q :=
 lc_by (n := n) Pv h0 hz hl (fun _ _ _ _ h _ => h) (fun _ _ _ _ => Nat.le_refl _) (fun i ys σ H x H' C hi w ⟨e, hx⟩ hC => by subst e; subst hx; exact hs i ys σ _ C hi w hC) hd
theorem lc_list {K : PySem.W.Frag} {a : Addr} {xs : List V} {ns : List Str} {js : List Nat} {g : TG} {te : TE} {σ : St} {H : Hp} {Q : VK} (Pv : Nat -> List V -> St -> Hp -> Prop) (h0 : Pv 0 [] (lcSt ns js σ) H) (hz : xs.length <= sizeLine) (hl : ∀ i ys σ H, Pv i ys σ H -> ys.length <= i)
   (hK : ∀ i ys σ H, Pv i ys σ H -> SqL K H a xs)
   (hs : ∀ (i : Nat) x ys σ H (C : V -> St -> Hp -> Prop), xs[i]? = some x -> Pv i ys σ H -> (∀ y σ2 H3, Pv (i + 1) (ys ++ [y]) σ2 H3 -> C y σ2 H3) -> g x σ H fun σ2 H2 => te σ2 H2 fun y H3 => C y σ2 H3)
   (hd : ∀ ys σ H, Pv xs.length ys σ H -> ∀ p, H p = none -> Q (.ref p) (upd H p (.lst ys))) :
   LcW (Itl K a) ns js g none te σ H Q :=
 lc_by (n := xs.length) Pv h0 hz hl (fun i ys σ H hi w => ⟨xs, xs[i], hK i ys σ H w, List.getElem?_eq_getElem hi⟩) (fun ys σ H w => ⟨xs, hK _ ys σ H w, Nat.le_refl _⟩)
   (fun i ys σ H x H' C hi w ⟨e, hx⟩ hC => by subst e; exact hs i x ys σ _ C (hx xs (hK i ys σ _ w)) w hC) hd
def ForW (J : It) (g : TG) (tb : TS) (D : Ends) (σ : St) (H : Hp) : Prop := ∃ W : Nat -> Nat -> St -> Hp -> Prop, (∃ m, W 0 m σ H) /\ ∀ i m σ H, W i m σ H ->
 (J.stop i H /\ D.nx σ H) \/ (J.go i H /\ ∃ N : St -> Hp -> Prop, (∀ σ' H', N σ' H' -> ∃ m', m' < m /\ W (i + 1) m' σ' H') /\ ∀ x H', J.yld i H x H' -> g x σ H' fun σ2 H2 => tb { D with nx := N, ct := N, bk := D.nx } σ2 H2)
theorem tFor_eq {wi : TI} {g : TG} {tb : TS} {D : Ends} {σ : St} {H : Hp} : tFor wi g tb D σ H = wi σ H fun J H1 => ForW J g tb D σ H1 := rfl
theorem tLC_eq {n : List Str} {js : List Nat} {wi : TI} {g : TG} {tc : Option TT} {te : TE} {σ : St} {H : Hp} {Q : VK} : tLC n js wi g tc te σ H Q = wi σ H fun J H1 => LcW J n js g tc te σ H1 Q := rfl
theorem fw_list {K : PySem.W.Frag} {a : Addr} {xs : List V} {g : TG} {tb : TS} {D : Ends} {σ : St} {H : Hp} (Pv : Nat -> St -> Hp -> Prop) (h0 : Pv 0 σ H) (hl : ∀ i σ H, i <= xs.length -> Pv i σ H -> SqL K H a xs)
   (hs : ∀ i x σ H, xs[i]? = some x -> Pv i σ H -> g x σ H fun σ2 H2 => tb { D with nx := Pv (i + 1), ct := Pv (i + 1), bk := D.nx } σ2 H2) (hd : ∀ σ H, Pv xs.length σ H -> D.nx σ H) : ForW (Itl K a) g tb D σ H := for_list Pv h0 hl hs hd
theorem xZ {lo : Int} {n : Nat} {g : TG} {tb : TS} {D : Ends} {σ : St} {H : Hp} (Pv : Nat -> St -> Hp -> Prop) (h0 : Pv 0 σ H)
   (hs : ∀ i σ H, i < n -> Pv i σ H -> g (.int (lo + i)) σ H fun σ2 H2 => tb { D with nx := Pv (i + 1), ct := Pv (i + 1), bk := D.nx } σ2 H2) (hd : ∀ σ H, Pv n σ H -> D.nx σ H) : ForW (Itr lo n) g tb D σ H := for_range Pv h0 hs hd
theorem zG {t u : TS} {D : Ends} {σ : St} {H : Hp} (h : ∀ N : St -> Hp -> Prop, (∀ σ H, u D σ H -> N σ H) -> t { D with nx := N } σ H) : tSeq t u D σ H := h (u D) fun _ _ z => z
theorem if_abs {c : TT} {t u : TS} {D : Ends} {σ : St} {H : Hp} (h : ∀ T U : Hp -> Prop, (∀ H1, t D σ H1 -> T H1) -> (∀ H1, u D σ H1 -> U H1) -> c σ H fun b H1 => if b = true then T H1 else U H1) : tIfS c t u D σ H := h (t D σ) (u D σ) (fun _ z => z) fun _ z => z
theorem yM {t u : TS} {D : Ends} {σ : St} {H : Hp} (J : St -> Hp -> Prop) (h1 : ∀ N : St -> Hp -> Prop, (∀ σ H, J σ H -> N σ H) -> t { D with nx := N } σ H) (h2 : ∀ σ H, J σ H -> u D σ H) : tSeq t u D σ H := h1 (u D) h2
structure Bi (mg : Str -> Option Value) : Prop where
 len : mg "len" = none
 range : mg "range" = none
 isinstance : mg "isinstance" = none
 max : mg "max" = none
 sum : mg "sum" = none
 all : mg "all" = none
 tuple : mg "tuple" = none
 list : mg "list" = none
 sorted : mg "sorted" = none
 set : mg "set" = none
 int : mg "int" = none
 bool : mg "bool" = none
 str : mg "str" = none
 dict : mg "dict" = none
theorem yH {P : Program} {w : World} {K : PySem.W.Frag} {mg : Str -> Option Value} {base : Heap} {k : Nat} {x : Str} {ps : List Str} {sp : Sp} {st : Stmt} {f : Addr} {fd : FuncData} (F : Fun K x x st f fd) (ok : FnOk P w K mg base CX0 k f fd ps sp) (b : Binds K fd ps [])
   (m : mg x = some (.ref f)) : Has P w K mg base k x ps sp := ⟨f, fd, ok, b, F.kp, m⟩
inductive Dt where
 | non | bl (b : Bool) | int (i : Int) | str (x : Str) | tup (ds : List Dt) | lst (ds : List Dt)
mutual
def DAt (H : Hp) : Dt -> V -> Prop
 | .non, v => v = .non
 | .bl b, v => v = .bl b
 | .int i, v => v = .int i
 | .str x, v => v = .str x
 | .tup ds, v => ∃ a vs, v = .ref a /\ H a = some (.tup vs) /\ DAts H ds vs
 | .lst ds, v => ∃ a vs, v = .ref a /\ H a = some (.lst vs) /\ DAts H ds vs
def DAts (H : Hp) : List Dt -> List V -> Prop
 | [], vs => vs = []
 | d :: ds, vs => ∃ v r, vs = v :: r /\ DAt H d v /\ DAts H ds r
end
mutual
theorem DAt.same {H H' : Hp} (e : Same H H') : ∀ {d : Dt} {v : V}, DAt H d v -> DAt H' d v
 | .non, _, h => h
 | .bl _, _, h => h
 | .int _, _, h => h
 | .str _, _, h => h
 | .tup ds, v, h => by
   obtain ⟨a, vs, e1, e2, e3⟩ := h
   exact ⟨a, vs, e1, e _ _ e2, DAts.same e e3⟩
 | .lst ds, v, h => by
   obtain ⟨a, vs, e1, e2, e3⟩ := h
   exact ⟨a, vs, e1, e _ _ e2, DAts.same e e3⟩
theorem DAts.same {H H' : Hp} (e : Same H H') : ∀ {ds : List Dt} {vs : List V}, DAts H ds vs -> DAts H' ds vs
 | [], _, h => h
 | d :: ds, vs, h => by
   obtain ⟨v, r, e1, e2, e3⟩ := h
   exact ⟨v, r, e1, DAt.same e e2, DAts.same e e3⟩
end
theorem DAts.length {H : Hp} : ∀ {ds : List Dt} {vs : List V}, DAts H ds vs -> vs.length = ds.length
 | [], vs, h => by
   have h : vs = [] := h
   rw [h]
   rfl
 | d :: ds, vs, h => by
   obtain ⟨v, r, e1, e2, e3⟩ := h
   rw [e1, List.length_cons, List.length_cons, DAts.length e3]
theorem DAts.get {H : Hp} : ∀ {ds : List Dt} {vs : List V} {i : Nat} {d : Dt}, DAts H ds vs -> ds[i]? = some d -> ∃ v, vs[i]? = some v /\ DAt H d v
 | [], vs, i, d, _, e => by simp at e
 | d :: ds, vs, 0, d', h, e => by
   obtain ⟨v, r, e1, e2, e3⟩ := h
   simp at e
   subst e; subst e1
   exact ⟨v, rfl, e2⟩
 | d :: ds, vs, i + 1, d', h, e => by
   obtain ⟨v, r, e1, e2, e3⟩ := h
   subst e1
   simp at e
   obtain ⟨u, h1, h2⟩ := DAts.get e3 e
   exact ⟨u, by simpa using h1, h2⟩
theorem DAts.append {H : Hp} : ∀ {ds es : List Dt} {vs us : List V}, DAts H ds vs -> DAts H es us -> DAts H (ds ++ es) (vs ++ us)
 | [], es, vs, us, h, h' => by
   have h : vs = [] := h
   subst h
   exact h'
 | d :: ds, es, vs, us, h, h' => by
   obtain ⟨v, r, e1, e2, e3⟩ := h
   subst e1
   exact ⟨v, r ++ us, rfl, e2, DAts.append e3 h'⟩
theorem DAts.one {H : Hp} {d : Dt} {v : V} (h : DAt H d v) : DAts H [d] [v] := ⟨v, [], rfl, h, rfl⟩
def DFit : Nat -> Dt -> Prop
 | n + 1, .tup ds => ds.length <= 1000 /\ ∀ d ∈ ds, DFit n d
 | n + 1, .lst ds => ds.length <= 1000 /\ ∀ d ∈ ds, DFit n d
 | 0, .tup _ => False
 | 0, .lst _ => False
 | _, _ => True
inductive Tm where
 | name (x : Str)
 | node (w : Str) (ts : List Tm)
mutual
def toD : Tm -> Dt
 | .name x => .tup [.str "name", .str x]
 | .node w ts => .tup (.str w :: toDs ts)
def toDs : List Tm -> List Dt
 | [] => []
 | t :: ts => toD t :: toDs ts
end
theorem toDs_map : ∀ ts : List Tm, toDs ts = ts.map toD
 | [] => rfl
 | t :: ts => by rw [toDs, toDs_map ts, List.map_cons]
theorem qB (w : Str) (ts : List Tm) : toD (.node w ts) = .tup (.str w :: ts.map toD) := by rw [toD, toDs_map]
abbrev TAt (H : Hp) (t : Tm) (v : V) : Prop := DAt H (toD t) v
abbrev TAts (H : Hp) (ts : List Tm) (vs : List V) : Prop := DAts H (ts.map toD) vs
theorem TAt.name {H : Hp} {x : Str} {v : V} (h : TAt H (.name x) v) : ∃ a, v = .ref a /\ H a = some (.tup [.str "name", .str x]) := by
 obtain ⟨a, vs, e1, e2, u, r, e3, e4, e5⟩ := h
 obtain ⟨u2, r2, e6, e7, e8⟩ := e5
 have e4 : u = .str "name" := e4
 have e7 : u2 = .str x := e7
 have e8 : r2 = [] := e8
 subst e3; subst e4; subst e6; subst e7; subst e8
 exact ⟨a, e1, e2⟩
theorem TAt.mkName {H : Hp} {x : Str} {a : Addr} (h : H a = some (.tup [.str "name", .str x])) : TAt H (.name x) (.ref a) :=
 ⟨a, _, rfl, h, _, _, rfl, rfl, _, _, rfl, rfl, rfl⟩
theorem TAt.node {H : Hp} {w : Str} {ts : List Tm} {v : V} (h : TAt H (.node w ts) v) : ∃ a vs, v = .ref a /\ H a = some (.tup (.str w :: vs)) /\ TAts H ts vs := by
 unfold TAt at h
 rw [qB] at h
 obtain ⟨a, vs, e1, e2, u, r, e3, e4, e5⟩ := h
 have e4 : u = .str w := e4
 subst e3; subst e4
 exact ⟨a, r, e1, e2, e5⟩
theorem TAt.mkNode {H : Hp} {w : Str} {ts : List Tm} {a : Addr} {vs : List V} (h : H a = some (.tup (.str w :: vs))) (hs : TAts H ts vs) : TAt H (.node w ts) (.ref a) := by
 unfold TAt
 rw [qB]
 exact ⟨a, _, rfl, h, _, _, rfl, rfl, hs⟩
def Sh (w : Str) (n : Nat) : Prop := (w = "none" /\ n = 0) \/ (w = "all" /\ n = 0) \/ (w = "not" /\ n = 1) \/ (w = "both" /\ 2 <= n) \/ (w = "either" /\ 2 <= n)
structure Nm (x : Str) : Prop where
 pos : 1 <= x.length
 most : x.length <= 8
 low : ∀ c ∈ x.cps.toList, 97 <= c /\ c <= 122
 nn : x ≠ "none"
 na : x ≠ "all"
def Fit : Nat -> Tm -> Prop
 | _, .name x => Nm x
 | 0, .node w ts => Sh w ts.length /\ ts = []
 | n + 1, .node w ts => Sh w ts.length /\ ∀ t ∈ ts, Fit n t
theorem Fit.up : ∀ {n : Nat} {t : Tm}, Fit n t -> Fit (n + 1) t
 | n, .name _, h => by unfold Fit at h ⊢; exact h
 | 0, .node w ts, h => by
   unfold Fit at h
   obtain ⟨h1, h2⟩ := h
   subst h2
   exact ⟨h1, fun _ z => nomatch z⟩
 | n + 1, .node w ts, h => by
   unfold Fit at h ⊢
   exact ⟨h.1, fun t ht => Fit.up (h.2 t ht)⟩
theorem Fit.mono {n m : Nat} {t : Tm} (h : Fit n t) (hm : n <= m) : Fit m t := by
 obtain ⟨k, rfl⟩ := Nat.le.dest hm
 induction k with
 | zero => exact h
 | succ k ih => exact Fit.up (ih (by omega))
mutual
def wt : Tm -> Nat
 | .name _ => 1
 | .node _ ts => 1 + wts ts
def wts : List Tm -> Nat
 | [] => 0
 | t :: ts => wt t + wts ts
end
theorem wt_pos : ∀ t : Tm, 1 <= wt t
 | .name _ => by rw [wt]; omega
 | .node _ _ => by rw [wt]; omega
theorem wts_len : ∀ ts : List Tm, ts.length <= wts ts
 | [] => by simp
 | t :: ts => by
   have := wts_len ts
   have := wt_pos t
   rw [wts, List.length_cons]
   omega
theorem wts_mem : ∀ {ts : List Tm} {t : Tm}, t ∈ ts -> wt t <= wts ts
 | u :: ts, t, h => by
   rw [wts]
   rcases List.mem_cons.mp h with h | h
   · subst h; omega
   · have := wts_mem h; omega
theorem Fit.dfit : ∀ {n : Nat} {t : Tm}, Fit n t -> wt t <= 900 -> DFit (n + 1) (toD t)
 | n, .name x, _, _ => by
   rw [toD]
   unfold DFit
   refine ⟨by simp, fun d hd => ?_⟩
   rcases List.mem_cons.mp hd with rfl | hd
   · cases n <;> trivial
   · rw [List.mem_singleton.mp hd]
     cases n <;> trivial
 | n, .node w ts, h, hw => by
   rw [qB]
   rw [wt] at hw
   have hl := wts_len ts
   unfold DFit
   refine ⟨by rw [List.length_cons, List.length_map]; omega, fun d hd => ?_⟩
   rcases List.mem_cons.mp hd with rfl | hd
   · cases n <;> trivial
   · obtain ⟨t, ht, rfl⟩ := List.mem_map.mp hd
     have hm := wts_mem ht
     cases n with
     | zero => rw [h.2] at ht; cases ht
     | succ n => exact Fit.dfit (h.2 t ht) (by omega)
theorem zF {H : Hp} {p : Addr} (h : H p = none) (o : HO) : Same H (upd H p o) := fun b u q => by rw [zE (yF q h)]; exact q
theorem str_ext {x y : Str} (h : x.cps = y.cps) : x = y := by
 cases x; cases y; cases h; rfl
theorem len_app (p q : Str) : (p ++ q).length = p.length + q.length := by
 show (p.cps ++ q.cps).size = p.cps.size + q.cps.size
 rw [Array.size_append]
theorem cps_app (p q : Str) : (p ++ q).cps.toList = p.cps.toList ++ q.cps.toList := by
 show (p.cps ++ q.cps).toList = _
 rw [Array.toList_append]
theorem zO {n : Nat} (h : n <= 1000) : n <= sizeLine := Nat.le_of_lt (jC h)
theorem TAts.one {H : Hp} {t : Tm} {v : V} (h : TAt H t v) : TAts H [t] [v] := DAts.one h
theorem TAts.append {H : Hp} {ts us : List Tm} {vs ws : List V} (h : TAts H ts vs) (h' : TAts H us ws) : TAts H (ts ++ us) (vs ++ ws) := by
 unfold TAts
 rw [List.map_append]
 exact DAts.append h h'
theorem TAts.length {H : Hp} {ts : List Tm} {vs : List V} (h : TAts H ts vs) : vs.length = ts.length := by
 have := DAts.length h
 rw [List.length_map] at this
 exact this
def TupSame (H H' : Hp) : Prop := ∀ b xs, H b = some (.tup xs) -> H' b = some (.tup xs)
theorem TupSame.trans {H H1 H2 : Hp} (a : TupSame H H1) (b : TupSame H1 H2) : TupSame H H2 := fun c o h => b c o (a c o h)
theorem Same.tups {H H' : Hp} (e : Same H H') : TupSame H H' := fun b xs h => e b _ h
theorem Same.upd {H H1 : Hp} {a : Addr} {o : HO} (e : Same H H1) (h : H a = none) : Same H (upd H1 a o) := fun b u hb => by
 rw [zE (yF hb h)]
 exact e _ _ hb
mutual
theorem TAt.tups {H H' : Hp} (e : TupSame H H') : ∀ {t : Tm} {v : V}, TAt H t v -> TAt H' t v
 | .name x, v, h => by
   obtain ⟨a, e1, h2⟩ := TAt.name h
   subst e1
   exact TAt.mkName (e _ _ h2)
 | .node w ts, v, h => by
   obtain ⟨a, vs, e1, h2, hs⟩ := TAt.node h
   subst e1
   exact TAt.mkNode (e _ _ h2) (TAts.tups e hs)
theorem TAts.tups {H H' : Hp} (e : TupSame H H') : ∀ {ts : List Tm} {vs : List V}, TAts H ts vs -> TAts H' ts vs
 | [], vs, h => h
 | t :: ts, vs, h => by
   obtain ⟨v, r, e1, e2, e3⟩ := h
   exact ⟨v, r, e1, TAt.tups e e2, TAts.tups e e3⟩
end
structure KD (w : World) (K : PySem.W.Frag) (a : Addr) (kvs : List (Key × V)) : Prop where
 dict : ∀ (P : Program) (h : Heap), K.In h -> ∃ vs, KV kvs vs /\ h.DictOf (zU P w) a vs
def tKGet (w : World) (K : PySem.W.Frag) (td ty : TE) : TE := fun σ H Q => td σ H fun x H1 => ty σ H1 fun y H2 => ∃ a kvs k v, x = .ref a /\ y = kV k /\ KD w K a kvs /\ xA kvs k = some v /\ Q v H2
def entOk (w : World) : List DictEntry -> List (Str × Str) -> Prop
 | [], r => r = []
 | e :: es, r => ∃ x y t u r', r = (x, y) :: r' /\ e.hash = hashStr w x /\ e.key = .str x t /\ e.val = .str y u /\ entOk w es r'
theorem entOk.keys {w : World} {P : Program} : ∀ {es : List DictEntry} {r : List (Str × Str)}, entOk w es r -> ∀ e ∈ es, ∃ k, (zU P w).is k e.key = true /\ e.hash = (zU P w).hash k
 | [], _, _, e, he => nomatch he
 | e :: es, r, h, e', he => by
   obtain ⟨x, y, t, u, r', _, h1, h2, _, h4⟩ := h
   rcases List.mem_cons.mp he with rfl | he
   · exact ⟨.inr x, by rw [h2]; exact jM P w x t, h1⟩
   · exact entOk.keys h4 e' he
theorem cx_w {CX : CXT} {P : Program} {w : World} {K : PySem.W.Frag} {mg : Str -> Option Value} {base : Heap} {N : List Str} {qual : Str} {scope : Scope} {f : Addr} {cd : Value} {A : Around} {outer : List Env} {s : Shared} {H : Hp} {E : XK} : (xL CX P w K mg base N qual scope f cd A outer s H E).w = w := rfl
theorem bk_w {X : Cx} {xs ys : List Str} {scope : Scope} {C : Addr} {s₀ : Shared} {H₀ : Hp} {fp : List Addr} : (zW X xs ys scope C s₀ H₀ fp).w = X.w := rfl
theorem xC {K : PySem.W.Frag} {T : String} : PySem.W.kitOne K (.type T) (.type T) = some true := by
 unfold PySem.W.kitOne
 rw [if_pos (by simp)]
def kitF (S T : String) : Bool := !(Value.type S == Value.type T) && PySem.W.kitMeta T && ((PySem.fastBuiltinMro S).map (·.contains (.type T)) == some false)
theorem kit_f {K : PySem.W.Frag} {S T : String} (h : kitF S T = true) : PySem.W.kitOne K (.type S) (.type T) = some false := by
 unfold kitF at h
 simp only [Bool.and_eq_true, Bool.not_eq_true', beq_iff_eq] at h
 unfold PySem.W.kitOne
 rw [if_neg (by rw [h.1.1]; decide)]
 show (if PySem.W.kitMeta T = true then PySem.W.subIn K (.type S) (.type T) else none) = _
 rw [if_pos h.1.2]
 exact h.2
theorem kit_ib {K : PySem.W.Frag} : PySem.W.kitOne K (.type "int") (.type "bool") = some false := kit_f (by decide +kernel)
theorem Same.tup {K : PySem.W.Frag} {H H' : Hp} {a : Addr} {xs : List V} (e : Same H H') (h : SqT K H a xs) : SqT K H' a xs := by
 rcases h with (h | ⟨o, h⟩) | h
 · exact .inl (.inl (e _ _ h))
 · exact .inl (.inr ⟨o, e _ _ h⟩)
 · exact .inr h
theorem at0 {α : Type} {x : α} {xs : List α} : atI (x :: xs) 0 = some x := xK (j := 0) (xs := x :: xs) rfl
theorem at1 {α : Type} {x y : α} {xs : List α} : atI (x :: y :: xs) 1 = some y := xK (j := 1) (xs := x :: y :: xs) rfl
def jT (p : Tm × Tm) : Dt := .tup [toD p.1, toD p.2]
def dRule (r : List (Tm × Tm) × (Tm × Tm)) : Dt := .tup [.lst (r.1.map jT), jT r.2]
abbrev SAt (H : Hp) (p : Tm × Tm) (v : V) : Prop := DAt H (jT p) v
abbrev SAts (H : Hp) (ps : List (Tm × Tm)) (vs : List V) : Prop := DAts H (ps.map jT) vs
theorem SAt.out {H : Hp} {p : Tm × Tm} {v : V} (h : SAt H p v) : ∃ a v1 v2, v = .ref a /\ H a = some (.tup [v1, v2]) /\ TAt H p.1 v1 /\ TAt H p.2 v2 := by
 obtain ⟨a, vs, e1, e2, u, r, e3, h1, u2, r2, e4, h2, e5⟩ := h
 have e5 : r2 = [] := e5
 subst e5; subst e4; subst e3
 exact ⟨a, u, u2, e1, e2, h1, h2⟩
theorem SAts.length {H : Hp} {ps : List (Tm × Tm)} {vs : List V} (h : SAts H ps vs) : vs.length = ps.length := by
 have := DAts.length h
 rw [List.length_map] at this
 exact this
def FitS (n m : Nat) (p : Tm × Tm) : Prop := (Fit n p.1 /\ wt p.1 <= m) /\ Fit n p.2 /\ wt p.2 <= m
theorem FitS.dfit {n m : Nat} {p : Tm × Tm} (h : FitS n m p) (hm : m <= 900) : DFit (n + 2) (jT p) := by
 refine ⟨by simp, fun d hd => ?_⟩
 rcases List.mem_cons.mp hd with rfl | hd
 · exact h.1.1.dfit (Nat.le_trans h.1.2 hm)
 · rw [List.mem_singleton.mp hd]
   exact h.2.1.dfit (Nat.le_trans h.2.2 hm)
theorem DFit.up : ∀ {n : Nat} {d : Dt}, DFit n d -> DFit (n + 1) d
 | n, .non, _ => by cases n <;> trivial
 | n, .bl _, _ => by cases n <;> trivial
 | n, .int _, _ => by cases n <;> trivial
 | n, .str _, _ => by cases n <;> trivial
 | 0, .tup _, h => h.elim
 | 0, .lst _, h => h.elim
 | n + 1, .tup ds, h => ⟨h.1, fun d hd => DFit.up (h.2 d hd)⟩
 | n + 1, .lst ds, h => ⟨h.1, fun d hd => DFit.up (h.2 d hd)⟩
theorem rule_dfit {n m : Nat} {r : List (Tm × Tm) × (Tm × Tm)} (h : ∀ p ∈ r.1, FitS n m p) (h2 : FitS n m r.2) (hm : m <= 900) (hl : r.1.length <= 900) : DFit (n + 4) (dRule r) := by
 refine ⟨by simp, fun d hd => ?_⟩
 rcases List.mem_cons.mp hd with rfl | hd
 · refine ⟨by rw [List.length_map]; omega, fun d hd => ?_⟩
   obtain ⟨p, hp, rfl⟩ := List.mem_map.mp hd
   exact (h p hp).dfit hm
 · rw [List.mem_singleton.mp hd]
   exact (h2.dfit hm).up
section
variable {X : Cx} (K : PySem.W.Frag)
theorem ix_listK (h : X.K = K := by rfl) : IxR X (rIxL K) := by subst h; exact ix_list
theorem ix_tupK (h : X.K = K := by rfl) : IxR X (rIxT K) := by subst h; exact ix_tup
theorem sl_listK (h : X.K = K := by rfl) : SlR X (rSlL K) := by subst h; exact sl_list
end
end L2
namespace L2
open PySem
abbrev Cs := List Nat
def glue (j : Cs) : List Cs -> Cs
 | [] => []
 | [s] => s
 | s :: r :: q => s ++ j ++ glue j (r :: q)
def jAnd : Cs := [32, 38, 32]
def jOr : Cs := [32, 124, 32]
def jOf (w : Str) : Cs := if w = "both" then jAnd else jOr
def wrN (w : Str) (ss : List Cs) : Cs := if w = "not" then 33 :: ss.headD [] else if ss = [] then w.cps.toList else 40 :: (glue (jOf w) ss ++ [41])
mutual
def wr : Tm -> Cs
 | .name x => x.cps.toList
 | .node w ts => wrN w (wrs ts)
def wrs : List Tm -> List Cs
 | [] => []
 | t :: ts => wr t :: wrs ts
end
def xQ (j : Cs) : List Cs -> Cs
 | [] => []
 | s :: r => j ++ s ++ xQ j r
theorem uB (j : Cs) : ∀ (s : Cs) (r : List Cs), glue j (s :: r) = s ++ xQ j r
 | s, [] => by simp [glue, xQ]
 | s, a :: r => by
   rw [glue, uB j a r, xQ]
   simp
end L2
namespace L2
open PySem
def toS (s : Cs) : Str := ⟨s.toArray⟩
theorem qJ (j : Cs) : ∀ (r : List Cs) (acc : Cs), ((r.map toS).foldl (fun acc p => acc ++ (toS j).cps ++ p.cps) acc.toArray) = (acc ++ xQ j r).toArray
 | [], acc => by simp [xQ]
 | s :: r, acc => by
   rw [List.map_cons, List.foldl_cons]
   have e : acc.toArray ++ (toS j).cps ++ (toS s).cps = (acc ++ j ++ s).toArray := by simp [toS]
   rw [e, qJ j r, xQ]
   simp
theorem glued_toS (j : Cs) (ss : List Cs) : Builtin.Str.glued (toS j) (ss.map toS) = toS (glue j ss) := by
 cases ss with
 | nil => rfl
 | cons s r =>
   show (⟨(r.map toS).foldl (fun acc p => acc ++ (toS j).cps ++ p.cps) (toS s).cps⟩ : Str) = _
   rw [uB, show (toS s).cps = s.toArray from rfl, qJ]
   rfl
end L2
namespace L2
open PySem PySem.Builtin PySem.Builtin.Str PySem.StrLaws
structure Mark (y : Cs) (k m : Nat) : Prop where
 at_ : y[k]? = some m
 once : ∀ j, y[j]? = some m -> j = k
end L2
namespace L2
open PySem PySem.Spec PyProof.Rows PySem.Builtin PySem.Builtin.Str
section
variable {X : Cx}
end
structure HasM (P : Program) (w : World) (K : PySem.W.Frag) (mg : Str -> Option Value) (base : Heap) (k : Nat) (C : Addr) (m : Str) (ps : List Str) (sp : Sp) : Prop where
 ex : ∃ f fd, FnOk P w K mg base CX0 k f fd ps sp /\ Binds K fd ps [] /\ Meth K C m f
structure HasI (P : Program) (w : World) (K : PySem.W.Frag) (mg : Str -> Option Value) (base : Heap) (k : Nat) (C : Addr) (x : Str) (ps : List Str) (sp : Sp) : Prop where
 ex : ∃ f fd, FnOk P w K mg base CX0 k f fd ps sp /\ Binds K fd ps [] /\ Mk K C f /\ mg x = some (.ref C)
section
variable {X : Cx} {k : Nat} {C : Addr} {x m : Str} {ps : List Str} {sp : Sp} {p pos apos : Pos} {e o : Expr} {es : List Expr} {ta : TE} {t : TA}
theorem qU {pl : Sem Bool} (h : HasM X.prog X.w X.K X.mg X.base k C m ps sp) (c : Cls X.K C) (hr : Room k X.A) (he : PE X o ta)
   (ht : eval (.Call (.Attribute o m apos) [] [] pos) X.env = (do
     let ov ← eval o X.env
     standAt apos.atName
     let (f, first) ← holding [ov] (getMethod ov m pl)
     callWith pos f first (backTo pos (starEach [] X.env)) (backToKw pos (keywordEach [] X.env))) := by rfl) :
   PE X (.Call (.Attribute o m apos) [] [] pos) (tMeth C m sp [] E0 ta tNil) := by
 obtain ⟨f, fd, F, b, mm⟩ := h.ex
 exact pe_meth0 (pl := pl) he c mm F hr b .nil pass0 ht
end
def rdF (x : Cs) (k : Nat) : List (Str × V) := [("text", .str (toS x)), ("at", .int k)]
def RdAt (C : Addr) (H : Hp) (r : Addr) (x : Cs) (k : Nat) : Prop := ∃ dx, H r = some (.ins C dx (rdF x k))
def SameX (r : Addr) (H H' : Hp) : Prop := ∀ b o, H b = some o -> b ≠ r -> H' b = some o
theorem SameX.trans {r : Addr} {H H1 H2 : Hp} (a : SameX r H H1) (b : SameX r H1 H2) : SameX r H H2 := fun c o h n => b c o (a c o h n) n
theorem Same.x {r : Addr} {H H' : Hp} (a : Same H H') : SameX r H H' := fun c o h _ => a c o h
theorem SameX.upd {r : Addr} {H H1 : Hp} {o : HO} (a : SameX r H H1) : SameX r H (L2.upd H1 r o) := fun c o' h n => by
 rw [zE n]
 exact a c o' h n
theorem SameX.tups {r : Addr} {H H' : Hp} {C : Addr} {x : Cs} {k : Nat} (a : SameX r H H') (h : RdAt C H r x k) : TupSame H H' := fun b xs e => by
 obtain ⟨dx, h⟩ := h
 exact a b _ e (ne_of e h (by intro z; cases z))
section
variable {prog : Program} {w : World} {A : Around} {E : Value -> Shared -> Prop} {s : Shared} {a : Addr} {its : Array Value} {n : Nat} {sl : Array (Option Value)}
end
section
variable {prog : Program} {w : World} {A : Around} {E : Value -> Shared -> Prop} {h : Heap} {g : Array GenState} {d : Drawn} {t : Nat} {os : OsState} {a : Addr} {its : Array Value} {n : Nat} {sl : Array (Option Value)}
end
section
variable {prog : Program} {w : World} {Kt : Type} [DecidableEq Kt] {knd : KeyKind prog w Kt} {A : Around} {E : Value -> Shared -> Prop} {s : Shared}
end
section
variable {X : Cx}
end
end L2
namespace L2
open PySem PySem.Spec PyProof.Rows PySem.W
section
variable {prog : Program} {w : World} {A : Around} {E : Value -> Shared -> Prop} {s : Shared} {T : String} {r d : Addr} {n : Nat} {P : Nat -> Value -> Prop} {OK : Heap -> Prop}
end
section
variable {X : Cx}
end
section
variable {X : Cx}
end
end L2
namespace L2
open PySem PyProof.Rows
section
variable {prog : Program} {w : World} {A : Around} {E : Value -> Shared -> Prop} {s : Shared}
end
end L2
namespace L2
open PySem PyProof.Rows
section
variable {prog : Program} {w : World} {A : Around} {E : Value -> Shared -> Prop} {s : Shared}
end
end L2
namespace L2
open PySem PyProof.Rows
section
variable {prog : Program} {w : World} {A : Around} {E : Value -> Shared -> Prop} {s : Shared}
end
end L2
namespace L2
open PySem PyProof.Rows
section
variable {prog : Program} {w : World} {A : Around} {R : Result -> Shared -> Prop} {I : Addr} {fp wr : List Addr} {G : Array GenState -> Array GenState -> Prop} {n : Nat} {P : Nat -> Value -> Prop} {St : Nat -> Shared -> Prop}
end
section
variable {prog : Program} {w : World} {A : Around} {E : Value -> Shared -> Prop} {s : Shared}
end
end L2
namespace L2
open PySem PyProof.Rows
section
variable {prog : Program} {w : World} {A : Around} {E : Value -> Shared -> Prop} {s : Shared}
end
end L2
namespace L2
open PySem PySem.Spec PyProof.Rows PySem.SeqAt
mutual
def deq : Dt -> Dt -> Bool
 | .non, .non => true
 | .bl a, .bl b => a == b
 | .int a, .int b => a == b
 | .bl a, .int b => (if a then 1 else 0) == b
 | .int a, .bl b => a == (if b then 1 else 0)
 | .str a, .str b => a == b
 | .tup xs, .tup ys => deqs xs ys
 | .lst xs, .lst ys => deqs xs ys
 | _, _ => false
def deqs : List Dt -> List Dt -> Bool
 | [], [] => true
 | x :: xs, y :: ys => deq x y && deqs xs ys
 | _, _ => false
end
mutual
theorem deq_refl : ∀ d : Dt, deq d d = true
 | .non => rfl
 | .bl a => by simp [deq]
 | .int a => by simp [deq]
 | .str a => by simp [deq]
 | .tup ds => by rw [deq]; exact deqs_refl ds
 | .lst ds => by rw [deq]; exact deqs_refl ds
theorem deqs_refl : ∀ ds : List Dt, deqs ds ds = true
 | [] => rfl
 | d :: ds => by rw [deqs, deq_refl d, deqs_refl ds]; rfl
end
def eat (xs ys : List Dt) (j : Nat) : Bool :=
 match xs[j]?, ys[j]? with
 | some x, some y => deq x y
 | _, _ => false
theorem deqs_all : ∀ xs ys : List Dt, ((List.range (min xs.length ys.length)).all (eat xs ys) && xs.length == ys.length) = deqs xs ys
 | [], [] => rfl
 | [], y :: ys => by simp [deqs]
 | x :: xs, [] => by simp [deqs]
 | x :: xs, y :: ys => by
   rw [deqs, ← deqs_all xs ys, List.length_cons, List.length_cons, Nat.succ_min_succ, List.range_succ_eq_map, List.all_cons, List.all_map]
   have e1 : eat (x :: xs) (y :: ys) 0 = deq x y := rfl
   have e2 : eat (x :: xs) (y :: ys) ∘ Nat.succ = eat xs ys := by funext j; simp [eat]
   rw [e1, e2, Bool.and_assoc]
   congr 2
   rw [Bool.eq_iff_iff]
   simp
mutual
theorem DAt.one_of {H : Hp} : ∀ {d d' : Dt} {v : V}, DAt H d v -> DAt H d' v -> d = d'
 | d, .non, v, h, h' => by have h' : v = .non := h'; subst h'; cases d <;> simp_all [DAt]
 | d, .bl b, v, h, h' => by have h' : v = .bl b := h'; subst h'; cases d <;> simp_all [DAt]
 | d, .int b, v, h, h' => by have h' : v = .int b := h'; subst h'; cases d <;> simp_all [DAt]
 | d, .str b, v, h, h' => by have h' : v = .str b := h'; subst h'; cases d <;> simp_all [DAt]
 | d, .tup ds', v, h, h' => by
   obtain ⟨a, vs, rfl, e2, e3⟩ := h'
   cases d with
   | tup ds =>
     obtain ⟨a', vs', e1', e2', e3'⟩ := h
     cases e1'
     rw [e2] at e2'
     cases e2'
     rw [DAts.one_of e3' e3]
   | lst ds =>
     obtain ⟨a', vs', e1', e2', e3'⟩ := h
     cases e1'
     rw [e2] at e2'
     cases e2'
   | _ => cases h
 | d, .lst ds', v, h, h' => by
   obtain ⟨a, vs, rfl, e2, e3⟩ := h'
   cases d with
   | lst ds =>
     obtain ⟨a', vs', e1', e2', e3'⟩ := h
     cases e1'
     rw [e2] at e2'
     cases e2'
     rw [DAts.one_of e3' e3]
   | tup ds =>
     obtain ⟨a', vs', e1', e2', e3'⟩ := h
     cases e1'
     rw [e2] at e2'
     cases e2'
   | _ => cases h
theorem DAts.one_of {H : Hp} : ∀ {ds ds' : List Dt} {vs : List V}, DAts H ds vs -> DAts H ds' vs -> ds = ds'
 | ds, [], vs, h, h' => by
   have h' : vs = [] := h'
   subst h'
   cases ds with
   | nil => rfl
   | cons d ds => obtain ⟨v, r, e, _⟩ := h; cases e
 | ds, d' :: ds', vs, h, h' => by
   obtain ⟨v, r, rfl, e2, e3⟩ := h'
   cases ds with
   | nil => cases h
   | cons d ds =>
     obtain ⟨v', r', e, e2', e3'⟩ := h
     cases e
     rw [DAt.one_of e2' e2, DAts.one_of e3' e3]
end
section
variable {P : Program} {w : World} {H : Hp} {s : Shared}
theorem DAts.tup_of (ok : HOk P w H s.heap) {a : Addr} {vs : List V} (h : H a = some (.tup vs)) : ∃ its : List Value, Vals vs its /\ s.heap.IsTuple a its.toArray := by
 obtain ⟨z, its, r, p⟩ := ok a _ h
 exact ⟨its, r, p⟩
theorem DAts.lst_of (ok : HOk P w H s.heap) {a : Addr} {vs : List V} (h : H a = some (.lst vs)) : ∃ its : List Value, Vals vs its /\ s.heap.IsList a its.toArray := by
 obtain ⟨z, its, n, r, p⟩ := ok a _ h
 exact ⟨its, r, _, p, rfl, n, rfl⟩
theorem vals_at : ∀ {xs : List V} {us : List Value} {i : Nat} {x : V} {u : Value}, Vals xs us -> xs[i]? = some x -> us[i]? = some u -> RelV x u
 | _, _, _, _, _, .nil, h, _ => by simp at h
 | _, _, 0, _, _, .cons r q, h, h' => by
   simp at h h'
   subst h
   subst h'
   exact r
 | _, _, i + 1, _, _, .cons r q, h, h' => vals_at q (by simpa using h) (by simpa using h')
theorem rc_lists (ok : HOk P w H s.heap) {n : Nat} {A : Around} (ih : ∀ {A : Around} {d d' : Dt} {v v' : V} {u u' : Value}, DAt H d v -> DAt H d' v' -> RelV v u -> RelV v' u' -> DFit n d -> A.units + n < cLine -> EqAt A s u u' (deq d d'))
   {l l' : Addr} {ds ds' : List Dt} {vs vs' : List V} {its its' : List Value} (hs : DAts H ds vs) (hs' : DAts H ds' vs') (rv : Vals vs its) (rv' : Vals vs' its') (hl : s.heap.IsList l its.toArray) (hl' : s.heap.IsList l' its'.toArray)
   (f : ∀ d ∈ ds, DFit n d) (hu : A.units + (n + 1) < cLine) : RcAt A s (.ref l) (.ref l') (deqs ds ds') := by
 have k1 := hs.length
 have k2 := hs'.length
 have k3 := rv.length
 have k4 := rv'.length
 by_cases hz : ds.length = ds'.length
 · have key := RcAt.lists (A := A) (e := eat ds ds') hl hl' (by rw [List.size_toArray, List.size_toArray]; omega) (by omega) fun j h1 h2 => ?_
   · rw [← deqs_all, hz, Nat.min_self, beq_self_eq_true, Bool.and_true]
     rw [List.size_toArray] at key
     rw [show ds'.length = its.length by omega]
     exact key
   · rw [List.size_toArray] at h1 h2
     have hj : j < ds.length := by omega
     have hj' : j < ds'.length := by omega
     obtain ⟨x, x1, x2⟩ := hs.get (List.getElem?_eq_getElem hj)
     obtain ⟨y, y1, y2⟩ := hs'.get (List.getElem?_eq_getElem hj')
     have e1 : eat ds ds' j = deq ds[j] ds'[j] := by unfold eat; rw [List.getElem?_eq_getElem hj, List.getElem?_eq_getElem hj']
     rw [e1]
     refine ih x2 y2 ?_ ?_ (f _ (List.getElem_mem hj)) (by show A.units + 1 + n < cLine; omega)
     · exact vals_at rv x1 (by rw [List.getElem_toArray]; exact List.getElem?_eq_getElem h1)
     · exact vals_at rv' y1 (by rw [List.getElem_toArray]; exact List.getElem?_eq_getElem h2)
 · have hf : deqs ds ds' = false := by rw [← deqs_all, show (ds.length == ds'.length) = false by simpa using hz, Bool.and_false]
   rw [hf]
   exact RcAt.lists_lengths hl hl' (by rw [List.size_toArray, List.size_toArray]; simp; omega) (by omega)
theorem deq_same (ok : HOk P w H s.heap) {A : Around} {d : Dt} {v : V} {u u' : Value} (h : DAt H d v) (r : RelV v u) (r' : RelV v u') : EqAt A s u u' true := by
 cases d with
 | non => have h : v = .non := h; subst h; cases r; cases r'; exact EqAt.same _
 | bl a => have h : v = .bl a := h; subst h; cases r; cases r'; exact EqAt.same _
 | int a =>
   have h : v = .int a := h
   subst h
   obtain ⟨t, rfl⟩ := r
   obtain ⟨t', rfl⟩ := r'
   have := EqAt.int_int (A := A) (s := s) a t a t'
   rwa [beq_self_eq_true] at this
 | str a =>
   have h : v = .str a := h
   subst h
   obtain ⟨t, rfl⟩ := r
   obtain ⟨t', rfl⟩ := r'
   have := EqAt.str_str (A := A) (s := s) a t a t'
   rwa [beq_self_eq_true] at this
 | tup ds => obtain ⟨l, vs, rfl, _⟩ := h; cases r; cases r'; exact EqAt.same _
 | lst ds => obtain ⟨l, vs, rfl, _⟩ := h; cases r; cases r'; exact EqAt.same _
theorem uP (ok : HOk P w H s.heap) {A : Around} {d d' : Dt} {v v' : V} {u u' : Value} (h : DAt H d v) (h' : DAt H d' v') (r : RelV v u) (r' : RelV v' u') (hu : A.units < cLine) (hk : ∀ ds ds', ¬ (d = .tup ds /\ d' = .tup ds') /\ ¬ (d = .lst ds /\ d' = .lst ds')) : EqAt A s u u' (deq d d') := by
 cases d with
 | non =>
   have h : v = .non := h
   subst h
   cases r
   cases d' with
   | non =>
     have h' : v' = .non := h'
     subst h'
     cases r'
     simp only [deq]
     exact EqAt.same _
   | bl b =>
     have h' : v' = .bl b := h'
     subst h'
     cases r'
     simp only [deq]
     exact EqAt.none_bool _
   | int b =>
     have h' : v' = .int b := h'
     subst h'
     obtain ⟨t', rfl⟩ := r'
     simp only [deq]
     exact EqAt.none_int _ _
   | str b =>
     have h' : v' = .str b := h'
     subst h'
     obtain ⟨t', rfl⟩ := r'
     simp only [deq]
     exact EqAt.none_str _ _
   | tup ds' =>
     obtain ⟨l', vs', rfl, e', hs'⟩ := h'
     cases r'
     obtain ⟨its', rv', hl'⟩ := DAts.tup_of ok e'
     simp only [deq]
     exact EqAt.none_tuple hl' hu
   | lst ds' =>
     obtain ⟨l', vs', rfl, e', hs'⟩ := h'
     cases r'
     obtain ⟨its', rv', hl'⟩ := DAts.lst_of ok e'
     simp only [deq]
     exact EqAt.none_list hl' hu
 | bl a =>
   have h : v = .bl a := h
   subst h
   cases r
   cases d' with
   | non =>
     have h' : v' = .non := h'
     subst h'
     cases r'
     simp only [deq]
     exact EqAt.bool_none _
   | bl b =>
     have h' : v' = .bl b := h'
     subst h'
     cases r'
     simp only [deq]
     exact EqAt.bool_bool _ _
   | int b =>
     have h' : v' = .int b := h'
     subst h'
     obtain ⟨t', rfl⟩ := r'
     simp only [deq]
     exact EqAt.bool_int _ _ _
   | str b =>
     have h' : v' = .str b := h'
     subst h'
     obtain ⟨t', rfl⟩ := r'
     simp only [deq]
     exact EqAt.bool_str _ _ _
   | tup ds' =>
     obtain ⟨l', vs', rfl, e', hs'⟩ := h'
     cases r'
     obtain ⟨its', rv', hl'⟩ := DAts.tup_of ok e'
     simp only [deq]
     exact EqAt.bool_tuple _ hl' hu
   | lst ds' =>
     obtain ⟨l', vs', rfl, e', hs'⟩ := h'
     cases r'
     obtain ⟨its', rv', hl'⟩ := DAts.lst_of ok e'
     simp only [deq]
     exact EqAt.bool_list _ hl' hu
 | int a =>
   have h : v = .int a := h
   subst h
   obtain ⟨t, rfl⟩ := r
   cases d' with
   | non =>
     have h' : v' = .non := h'
     subst h'
     cases r'
     simp only [deq]
     exact EqAt.int_none _ _
   | bl b =>
     have h' : v' = .bl b := h'
     subst h'
     cases r'
     simp only [deq]
     exact EqAt.int_bool _ _ _
   | int b =>
     have h' : v' = .int b := h'
     subst h'
     obtain ⟨t', rfl⟩ := r'
     simp only [deq]
     exact EqAt.int_int _ _ _ _
   | str b =>
     have h' : v' = .str b := h'
     subst h'
     obtain ⟨t', rfl⟩ := r'
     simp only [deq]
     exact EqAt.int_str _ _ _ _
   | tup ds' =>
     obtain ⟨l', vs', rfl, e', hs'⟩ := h'
     cases r'
     obtain ⟨its', rv', hl'⟩ := DAts.tup_of ok e'
     simp only [deq]
     exact EqAt.int_tuple _ _ hl' hu
   | lst ds' =>
     obtain ⟨l', vs', rfl, e', hs'⟩ := h'
     cases r'
     obtain ⟨its', rv', hl'⟩ := DAts.lst_of ok e'
     simp only [deq]
     exact EqAt.int_list _ _ hl' hu
 | str a =>
   have h : v = .str a := h
   subst h
   obtain ⟨t, rfl⟩ := r
   cases d' with
   | non =>
     have h' : v' = .non := h'
     subst h'
     cases r'
     simp only [deq]
     exact EqAt.str_none _ _
   | bl b =>
     have h' : v' = .bl b := h'
     subst h'
     cases r'
     simp only [deq]
     exact EqAt.str_bool _ _ _
   | int b =>
     have h' : v' = .int b := h'
     subst h'
     obtain ⟨t', rfl⟩ := r'
     simp only [deq]
     exact EqAt.str_int _ _ _ _
   | str b =>
     have h' : v' = .str b := h'
     subst h'
     obtain ⟨t', rfl⟩ := r'
     simp only [deq]
     exact EqAt.str_str _ _ _ _
   | tup ds' =>
     obtain ⟨l', vs', rfl, e', hs'⟩ := h'
     cases r'
     obtain ⟨its', rv', hl'⟩ := DAts.tup_of ok e'
     simp only [deq]
     exact EqAt.str_tuple _ _ hl' hu
   | lst ds' =>
     obtain ⟨l', vs', rfl, e', hs'⟩ := h'
     cases r'
     obtain ⟨its', rv', hl'⟩ := DAts.lst_of ok e'
     simp only [deq]
     exact EqAt.str_list _ _ hl' hu
 | tup ds =>
   obtain ⟨l, vs, rfl, e, hs⟩ := h
   cases r
   obtain ⟨its, rv, hl⟩ := DAts.tup_of ok e
   cases d' with
   | non =>
     have h' : v' = .non := h'
     subst h'
     cases r'
     simp only [deq]
     exact EqAt.tuple_none hl hu
   | bl b =>
     have h' : v' = .bl b := h'
     subst h'
     cases r'
     simp only [deq]
     exact EqAt.tuple_bool _ hl hu
   | int b =>
     have h' : v' = .int b := h'
     subst h'
     obtain ⟨t', rfl⟩ := r'
     simp only [deq]
     exact EqAt.tuple_int _ _ hl hu
   | str b =>
     have h' : v' = .str b := h'
     subst h'
     obtain ⟨t', rfl⟩ := r'
     simp only [deq]
     exact EqAt.tuple_str _ _ hl hu
   | tup ds' => exact absurd ⟨rfl, rfl⟩ (hk _ _).1
   | lst ds' =>
     obtain ⟨l', vs', rfl, e', hs'⟩ := h'
     cases r'
     obtain ⟨its', rv', hl'⟩ := DAts.lst_of ok e'
     simp only [deq]
     exact EqAt.tuple_list hl hl' hu
 | lst ds =>
   obtain ⟨l, vs, rfl, e, hs⟩ := h
   cases r
   obtain ⟨its, rv, hl⟩ := DAts.lst_of ok e
   cases d' with
   | non =>
     have h' : v' = .non := h'
     subst h'
     cases r'
     simp only [deq]
     exact EqAt.list_none hl hu
   | bl b =>
     have h' : v' = .bl b := h'
     subst h'
     cases r'
     simp only [deq]
     exact EqAt.list_bool _ hl hu
   | int b =>
     have h' : v' = .int b := h'
     subst h'
     obtain ⟨t', rfl⟩ := r'
     simp only [deq]
     exact EqAt.list_int _ _ hl hu
   | str b =>
     have h' : v' = .str b := h'
     subst h'
     obtain ⟨t', rfl⟩ := r'
     simp only [deq]
     exact EqAt.list_str _ _ hl hu
   | tup ds' =>
     obtain ⟨l', vs', rfl, e', hs'⟩ := h'
     cases r'
     obtain ⟨its', rv', hl'⟩ := DAts.tup_of ok e'
     simp only [deq]
     exact EqAt.list_tuple hl hl' hu
   | lst ds' => exact absurd ⟨rfl, rfl⟩ (hk _ _).2
theorem qN (ok : HOk P w H s.heap) : ∀ (n : Nat) {A : Around} {d d' : Dt} {v v' : V} {u u' : Value}, DAt H d v -> DAt H d' v' -> RelV v u -> RelV v' u' -> DFit n d -> A.units + n < cLine -> EqAt A s u u' (deq d d') := by
 intro n
 induction n with
 | zero =>
   intro A d d' v v' u u' h h' r r' f hu
   exact uP ok h h' r r' hu fun ds ds' => ⟨fun e => by rw [e.1] at f; exact f, fun e => by rw [e.1] at f; exact f⟩
 | succ n ih =>
   intro A d d' v v' u u' h h' r r' f hu
   by_cases hvv : v = v'
   · subst hvv
     rw [DAt.one_of h h', deq_refl]
     have hd : d = d' := DAt.one_of h h'
     subst hd
     have hx := deq_same ok (A := A) h r r'
     exact hx
   cases d with
   | tup ds =>
     cases d' with
     | tup ds' =>
       obtain ⟨l, vs, rfl, e, hs⟩ := h
       obtain ⟨l', vs', rfl, e', hs'⟩ := h'
       cases r
       cases r'
       obtain ⟨its, rv, hl⟩ := DAts.tup_of ok e
       obtain ⟨its', rv', hl'⟩ := DAts.tup_of ok e'
       have k1 := hs.length
       have k2 := hs'.length
       have k3 := rv.length
       have k4 := rv'.length
       have key := RcAt.tuples (A := A) (e := eat ds ds') hl hl' (by omega) fun j h1 h2 => ?_
       · simp only [deq]
         rw [← deqs_all]
         refine EqAt.of_refs (fun z => hvv (by rw [z])) ?_
         rw [List.size_toArray, List.size_toArray] at key
         rw [← k1, ← k2, k3, k4]
         exact key
       · rw [List.size_toArray] at h1 h2
         have hj : j < ds.length := by omega
         have hj' : j < ds'.length := by omega
         obtain ⟨x, x1, x2⟩ := hs.get (List.getElem?_eq_getElem hj)
         obtain ⟨y, y1, y2⟩ := hs'.get (List.getElem?_eq_getElem hj')
         have e1 : eat ds ds' j = deq ds[j] ds'[j] := by unfold eat; rw [List.getElem?_eq_getElem hj, List.getElem?_eq_getElem hj']
         rw [e1]
         refine ih x2 y2 ?_ ?_ (f.2 _ (List.getElem_mem hj)) (by show A.units + 1 + n < cLine; omega)
         · exact vals_at rv x1 (by rw [List.getElem_toArray]; exact List.getElem?_eq_getElem h1)
         · exact vals_at rv' y1 (by rw [List.getElem_toArray]; exact List.getElem?_eq_getElem h2)
     | _ => exact uP ok h h' r r' (by omega) fun ds ds' => ⟨fun e => (by cases e.2), fun e => (by cases e.1)⟩
   | lst ds =>
     cases d' with
     | lst ds' =>
       obtain ⟨l, vs, rfl, e, hs⟩ := h
       obtain ⟨l', vs', rfl, e', hs'⟩ := h'
       cases r
       cases r'
       obtain ⟨its, rv, hl⟩ := DAts.lst_of ok e
       obtain ⟨its', rv', hl'⟩ := DAts.lst_of ok e'
       simp only [deq]
       exact EqAt.of_refs (fun z => hvv (by rw [z])) (rc_lists ok ih hs hs' rv rv' hl hl' f.2 hu)
     | _ => exact uP ok h h' r r' (by omega) fun ds ds' => ⟨fun e => (by cases e.1), fun e => (by cases e.2)⟩
   | _ => exact uP ok h h' r r' (by omega) fun ds ds' => ⟨fun e => (by cases e.1), fun e => (by cases e.1)⟩
end
section
variable {X : Cx}
end
end L2
namespace L2
open PySem PySem.Spec PyProof.Rows PySem.SeqAt
section
variable {X : Cx}
end
theorem cx_P {CX : CXT} {P : Program} {w : World} {K : PySem.W.Frag} {mg : Str -> Option Value} {base : Heap} {N : List Str} {qual : Str} {scope : Scope} {f : Addr} {cd : Value} {A : Around} {outer : List Env} {s : Shared} {H : Hp} {E : XK} : (xL CX P w K mg base N qual scope f cd A outer s H E).prog = P := rfl
end L2
local macro_rules | `(tactic| simp! [$ts,*]) => `(tactic| simp only [L2.tSeq, L2.tFor_eq, L2.tLC_eq, L2.iRng1, L2.iRng2, L2.iList, L2.iTup, L2.iStr, L2.tIfS, L2.tRet, L2.tRetN, L2.tNext, L2.tAsg, L2.gName, L2.tVar, L2.tC, L2.tOp, L2.rI0, L2.rI, L2.tTest, L2.tB, L2.rEq, L2.rNe, L2.tCall, L2.tCons, L2.tNil, L2.tCB, L2.tLst, L2.tTup, L2.tAnd, L2.tOr, L2.tNot, L2.tAndV, L2.tOrV, L2.tNotV, L2.tIf, L2.tDrop, L2.tSl, L2.tPart, L2.tNoPart, L2.tChain, L2.tUn, L2.rU, L2.start, L2.cx_K, L2.bk_K, L2.cx_calm, L2.bk_calm, L2.lenV_str, and_assoc, Option.join, List.length_map, List.length_append, decide_eq_true_eq, Bool.false_eq_true, if_false, if_true, Bool.not_true, Bool.not_false, Bool.not_eq_true', decide_eq_false_iff_not, Bool.true_eq_false, List.length_cons, List.length_nil, List.map_cons, List.map_nil, List.replicate, List.cons_append, List.nil_append, List.append_nil, List.getElem?_cons_zero, List.getElem?_cons_succ, List.set_cons_zero, List.set_cons_succ, Nat.reduceSub, Nat.reduceAdd, Option.some.injEq, L2.V.int.injEq, L2.V.str.injEq, L2.V.bl.injEq, L2.V.ref.injEq, List.cons.injEq, and_true, true_and, exists_eq_left', exists_eq_left, exists_and_left, exists_eq_right, exists_const, L2.tBM, L2.tBM0, L2.rAppend, L2.rPop, L2.rIxL, L2.rIxT, L2.rIxS, L2.rSlL, L2.rSlT, L2.rSlS, L2.rCat, L2.rCatT, L2.tKGet, L2.cx_w, L2.bk_w, L2.tDGet, L2.tDisp, L2.tPairs, L2.tDNewK, L2.cx_P, $ts,*])
namespace L2
open PySem PySem.Spec PyProof.Rows PySem.SeqAt
section
variable {P : Program} {w : World} {H : Hp} {s : Shared}
theorem rc_tups (ok : HOk P w H s.heap) {n : Nat} {A : Around} (ih : ∀ {A : Around} {d d' : Dt} {v v' : V} {u u' : Value}, DAt H d v -> DAt H d' v' -> RelV v u -> RelV v' u' -> DFit n d -> A.units + n < cLine -> EqAt A s u u' (deq d d'))
   {l l' : Addr} {ds ds' : List Dt} {vs vs' : List V} {its its' : List Value} (hs : DAts H ds vs) (hs' : DAts H ds' vs') (rv : Vals vs its) (rv' : Vals vs' its') (hl : s.heap.IsTuple l its.toArray) (hl' : s.heap.IsTuple l' its'.toArray)
   (f : ∀ d ∈ ds, DFit n d) (hu : A.units + (n + 1) < cLine) : RcAt A s (.ref l) (.ref l') (deqs ds ds') := by
 have k1 := hs.length
 have k2 := hs'.length
 have k3 := rv.length
 have k4 := rv'.length
 have at_ : ∀ j (h1 : j < its.toArray.size) (h2 : j < its'.toArray.size), EqAt A.in1 s its.toArray[j] its'.toArray[j] (eat ds ds' j) := fun j h1 h2 => by
   rw [List.size_toArray] at h1 h2
   have hj : j < ds.length := by omega
   have hj' : j < ds'.length := by omega
   obtain ⟨x, x1, x2⟩ := hs.get (List.getElem?_eq_getElem hj)
   obtain ⟨y, y1, y2⟩ := hs'.get (List.getElem?_eq_getElem hj')
   have e1 : eat ds ds' j = deq ds[j] ds'[j] := by unfold eat; rw [List.getElem?_eq_getElem hj, List.getElem?_eq_getElem hj']
   rw [e1]
   refine ih x2 y2 ?_ ?_ (f _ (List.getElem_mem hj)) (by show A.units + 1 + n < cLine; omega)
   · exact vals_at rv x1 (by rw [List.getElem_toArray]; exact List.getElem?_eq_getElem h1)
   · exact vals_at rv' y1 (by rw [List.getElem_toArray]; exact List.getElem?_eq_getElem h2)
 have key := RcAt.tuples (A := A) (e := eat ds ds') hl hl' (by omega) at_
 rw [List.size_toArray, List.size_toArray] at key
 rw [← deqs_all, ← k1, ← k2, k3, k4]
 exact key
theorem rn_tups (ok : HOk P w H s.heap) {n : Nat} {A : Around} (ih : ∀ {A : Around} {d d' : Dt} {v v' : V} {u u' : Value}, DAt H d v -> DAt H d' v' -> RelV v u -> RelV v' u' -> DFit n d -> A.units + n < cLine -> EqAt A s u u' (deq d d'))
   {l l' : Addr} {ds ds' : List Dt} {vs vs' : List V} {its its' : List Value} (hs : DAts H ds vs) (hs' : DAts H ds' vs') (rv : Vals vs its) (rv' : Vals vs' its') (hl : s.heap.IsTuple l its.toArray) (hl' : s.heap.IsTuple l' its'.toArray)
   (f : ∀ d ∈ ds, DFit n d) (hu : A.units + (n + 1) < cLine) : RcNeAt A s (.ref l) (.ref l') (!deqs ds ds') := by
 have k1 := hs.length
 have k2 := hs'.length
 have k3 := rv.length
 have k4 := rv'.length
 have at_ : ∀ j (h1 : j < its.toArray.size) (h2 : j < its'.toArray.size), EqAt A.in1 s its.toArray[j] its'.toArray[j] (eat ds ds' j) := fun j h1 h2 => by
   rw [List.size_toArray] at h1 h2
   have hj : j < ds.length := by omega
   have hj' : j < ds'.length := by omega
   obtain ⟨x, x1, x2⟩ := hs.get (List.getElem?_eq_getElem hj)
   obtain ⟨y, y1, y2⟩ := hs'.get (List.getElem?_eq_getElem hj')
   have e1 : eat ds ds' j = deq ds[j] ds'[j] := by unfold eat; rw [List.getElem?_eq_getElem hj, List.getElem?_eq_getElem hj']
   rw [e1]
   refine ih x2 y2 ?_ ?_ (f _ (List.getElem_mem hj)) (by show A.units + 1 + n < cLine; omega)
   · exact vals_at rv x1 (by rw [List.getElem_toArray]; exact List.getElem?_eq_getElem h1)
   · exact vals_at rv' y1 (by rw [List.getElem_toArray]; exact List.getElem?_eq_getElem h2)
 have key := RcNeAt.tuples (A := A) (e := eat ds ds') hl hl' (by omega) at_
 rw [List.size_toArray, List.size_toArray] at key
 rw [← deqs_all, ← k1, ← k2, k3, k4]
 exact key
theorem rn_lists (ok : HOk P w H s.heap) {n : Nat} {A : Around} (ih : ∀ {A : Around} {d d' : Dt} {v v' : V} {u u' : Value}, DAt H d v -> DAt H d' v' -> RelV v u -> RelV v' u' -> DFit n d -> A.units + n < cLine -> EqAt A s u u' (deq d d'))
   {l l' : Addr} {ds ds' : List Dt} {vs vs' : List V} {its its' : List Value} (hs : DAts H ds vs) (hs' : DAts H ds' vs') (rv : Vals vs its) (rv' : Vals vs' its') (hl : s.heap.IsList l its.toArray) (hl' : s.heap.IsList l' its'.toArray)
   (f : ∀ d ∈ ds, DFit n d) (hu : A.units + (n + 1) < cLine) : RcNeAt A s (.ref l) (.ref l') (!deqs ds ds') := by
 have k1 := hs.length
 have k2 := hs'.length
 have k3 := rv.length
 have k4 := rv'.length
 have at_ : ∀ j (h1 : j < its.toArray.size) (h2 : j < its'.toArray.size), EqAt A.in1 s its.toArray[j] its'.toArray[j] (eat ds ds' j) := fun j h1 h2 => by
   rw [List.size_toArray] at h1 h2
   have hj : j < ds.length := by omega
   have hj' : j < ds'.length := by omega
   obtain ⟨x, x1, x2⟩ := hs.get (List.getElem?_eq_getElem hj)
   obtain ⟨y, y1, y2⟩ := hs'.get (List.getElem?_eq_getElem hj')
   have e1 : eat ds ds' j = deq ds[j] ds'[j] := by unfold eat; rw [List.getElem?_eq_getElem hj, List.getElem?_eq_getElem hj']
   rw [e1]
   refine ih x2 y2 ?_ ?_ (f _ (List.getElem_mem hj)) (by show A.units + 1 + n < cLine; omega)
   · exact vals_at rv x1 (by rw [List.getElem_toArray]; exact List.getElem?_eq_getElem h1)
   · exact vals_at rv' y1 (by rw [List.getElem_toArray]; exact List.getElem?_eq_getElem h2)
 by_cases hz : ds.length = ds'.length
 · have key := RcNeAt.lists (A := A) (e := eat ds ds') hl hl' (by rw [List.size_toArray, List.size_toArray]; omega) (by omega) at_
   rw [← deqs_all, hz, Nat.min_self, beq_self_eq_true, Bool.and_true]
   rw [List.size_toArray] at key
   rw [show ds'.length = its.length by omega]
   exact key
 · have hf : deqs ds ds' = false := by rw [← deqs_all, show (ds.length == ds'.length) = false by simpa using hz, Bool.and_false]
   rw [hf]
   exact RcNeAt.lists_lengths hl hl' (by rw [List.size_toArray, List.size_toArray]; simp; omega) (by omega)
theorem rc_at (ok : HOk P w H s.heap) {n : Nat} {A : Around} {d d' : Dt} {v v' : V} {u u' : Value} (h : DAt H d v) (h' : DAt H d' v') (r : RelV v u) (r' : RelV v' u') (f : DFit (n + 1) d) (hu : A.units + (n + 1) < cLine) : RcAt A s u u' (deq d d') := by
 have hu0 : A.units < cLine := by omega
 cases d with
 | non =>
   have h : v = .non := h
   subst h
   cases r
   cases d' with
   | non =>
     have h' : v' = .non := h'
     subst h'
     cases r'
     simp only [deq, Bool.not_false, Bool.not_true]
     exact RcAt.none_none
   | bl b =>
     have h' : v' = .bl b := h'
     subst h'
     cases r'
     simp only [deq, Bool.not_false, Bool.not_true]
     exact RcAt.none_bool _
   | int b =>
     have h' : v' = .int b := h'
     subst h'
     obtain ⟨t', rfl⟩ := r'
     simp only [deq, Bool.not_false, Bool.not_true]
     exact RcAt.none_int _ _
   | str b =>
     have h' : v' = .str b := h'
     subst h'
     obtain ⟨t', rfl⟩ := r'
     simp only [deq, Bool.not_false, Bool.not_true]
     exact RcAt.none_str _ _
   | tup ds' =>
     obtain ⟨l', vs', rfl, e', hs'⟩ := h'
     cases r'
     obtain ⟨its', rv', hl'⟩ := DAts.tup_of ok e'
     simp only [deq, Bool.not_false, Bool.not_true]
     exact RcAt.none_tuple hl' hu0
   | lst ds' =>
     obtain ⟨l', vs', rfl, e', hs'⟩ := h'
     cases r'
     obtain ⟨its', rv', hl'⟩ := DAts.lst_of ok e'
     simp only [deq, Bool.not_false, Bool.not_true]
     exact RcAt.none_list hl' hu0
 | bl a =>
   have h : v = .bl a := h
   subst h
   cases r
   cases d' with
   | non =>
     have h' : v' = .non := h'
     subst h'
     cases r'
     simp only [deq, Bool.not_false, Bool.not_true]
     exact RcAt.bool_none _
   | bl b =>
     have h' : v' = .bl b := h'
     subst h'
     cases r'
     simp only [deq, Bool.not_false, Bool.not_true]
     exact RcAt.bool_bool _ _
   | int b =>
     have h' : v' = .int b := h'
     subst h'
     obtain ⟨t', rfl⟩ := r'
     simp only [deq, Bool.not_false, Bool.not_true]
     exact RcAt.bool_int _ _ _
   | str b =>
     have h' : v' = .str b := h'
     subst h'
     obtain ⟨t', rfl⟩ := r'
     simp only [deq, Bool.not_false, Bool.not_true]
     exact RcAt.bool_str _ _ _
   | tup ds' =>
     obtain ⟨l', vs', rfl, e', hs'⟩ := h'
     cases r'
     obtain ⟨its', rv', hl'⟩ := DAts.tup_of ok e'
     simp only [deq, Bool.not_false, Bool.not_true]
     exact RcAt.bool_tuple _ hl' hu0
   | lst ds' =>
     obtain ⟨l', vs', rfl, e', hs'⟩ := h'
     cases r'
     obtain ⟨its', rv', hl'⟩ := DAts.lst_of ok e'
     simp only [deq, Bool.not_false, Bool.not_true]
     exact RcAt.bool_list _ hl' hu0
 | int a =>
   have h : v = .int a := h
   subst h
   obtain ⟨t, rfl⟩ := r
   cases d' with
   | non =>
     have h' : v' = .non := h'
     subst h'
     cases r'
     simp only [deq, Bool.not_false, Bool.not_true]
     exact RcAt.int_none _ _
   | bl b =>
     have h' : v' = .bl b := h'
     subst h'
     cases r'
     simp only [deq, Bool.not_false, Bool.not_true]
     exact RcAt.int_bool _ _ _
   | int b =>
     have h' : v' = .int b := h'
     subst h'
     obtain ⟨t', rfl⟩ := r'
     simp only [deq, Bool.not_false, Bool.not_true]
     exact RcAt.int_int _ _ _ _
   | str b =>
     have h' : v' = .str b := h'
     subst h'
     obtain ⟨t', rfl⟩ := r'
     simp only [deq, Bool.not_false, Bool.not_true]
     exact RcAt.int_str _ _ _ _
   | tup ds' =>
     obtain ⟨l', vs', rfl, e', hs'⟩ := h'
     cases r'
     obtain ⟨its', rv', hl'⟩ := DAts.tup_of ok e'
     simp only [deq, Bool.not_false, Bool.not_true]
     exact RcAt.int_tuple _ _ hl' hu0
   | lst ds' =>
     obtain ⟨l', vs', rfl, e', hs'⟩ := h'
     cases r'
     obtain ⟨its', rv', hl'⟩ := DAts.lst_of ok e'
     simp only [deq, Bool.not_false, Bool.not_true]
     exact RcAt.int_list _ _ hl' hu0
 | str a =>
   have h : v = .str a := h
   subst h
   obtain ⟨t, rfl⟩ := r
   cases d' with
   | non =>
     have h' : v' = .non := h'
     subst h'
     cases r'
     simp only [deq, Bool.not_false, Bool.not_true]
     exact RcAt.str_none _ _
   | bl b =>
     have h' : v' = .bl b := h'
     subst h'
     cases r'
     simp only [deq, Bool.not_false, Bool.not_true]
     exact RcAt.str_bool _ _ _
   | int b =>
     have h' : v' = .int b := h'
     subst h'
     obtain ⟨t', rfl⟩ := r'
     simp only [deq, Bool.not_false, Bool.not_true]
     exact RcAt.str_int _ _ _ _
   | str b =>
     have h' : v' = .str b := h'
     subst h'
     obtain ⟨t', rfl⟩ := r'
     simp only [deq, Bool.not_false, Bool.not_true]
     exact RcAt.str_str _ _ _ _
   | tup ds' =>
     obtain ⟨l', vs', rfl, e', hs'⟩ := h'
     cases r'
     obtain ⟨its', rv', hl'⟩ := DAts.tup_of ok e'
     simp only [deq, Bool.not_false, Bool.not_true]
     exact RcAt.str_tuple _ _ hl' hu0
   | lst ds' =>
     obtain ⟨l', vs', rfl, e', hs'⟩ := h'
     cases r'
     obtain ⟨its', rv', hl'⟩ := DAts.lst_of ok e'
     simp only [deq, Bool.not_false, Bool.not_true]
     exact RcAt.str_list _ _ hl' hu0
 | tup ds =>
   obtain ⟨l, vs, rfl, e, hs⟩ := h
   cases r
   obtain ⟨its, rv, hl⟩ := DAts.tup_of ok e
   cases d' with
   | non =>
     have h' : v' = .non := h'
     subst h'
     cases r'
     simp only [deq, Bool.not_false, Bool.not_true]
     exact RcAt.tuple_none hl hu0
   | bl b =>
     have h' : v' = .bl b := h'
     subst h'
     cases r'
     simp only [deq, Bool.not_false, Bool.not_true]
     exact RcAt.tuple_bool _ hl hu0
   | int b =>
     have h' : v' = .int b := h'
     subst h'
     obtain ⟨t', rfl⟩ := r'
     simp only [deq, Bool.not_false, Bool.not_true]
     exact RcAt.tuple_int _ _ hl hu0
   | str b =>
     have h' : v' = .str b := h'
     subst h'
     obtain ⟨t', rfl⟩ := r'
     simp only [deq, Bool.not_false, Bool.not_true]
     exact RcAt.tuple_str _ _ hl hu0
   | tup ds' =>
     obtain ⟨l', vs', rfl, e', hs'⟩ := h'
     cases r'
     obtain ⟨its', rv', hl'⟩ := DAts.tup_of ok e'
     simp only [deq, Bool.not_false, Bool.not_true]
     exact rc_tups ok (qN ok n) hs hs' rv rv' hl hl' f.2 hu
   | lst ds' =>
     obtain ⟨l', vs', rfl, e', hs'⟩ := h'
     cases r'
     obtain ⟨its', rv', hl'⟩ := DAts.lst_of ok e'
     simp only [deq, Bool.not_false, Bool.not_true]
     exact RcAt.tuple_list hl hl' hu0
 | lst ds =>
   obtain ⟨l, vs, rfl, e, hs⟩ := h
   cases r
   obtain ⟨its, rv, hl⟩ := DAts.lst_of ok e
   cases d' with
   | non =>
     have h' : v' = .non := h'
     subst h'
     cases r'
     simp only [deq, Bool.not_false, Bool.not_true]
     exact RcAt.list_none hl hu0
   | bl b =>
     have h' : v' = .bl b := h'
     subst h'
     cases r'
     simp only [deq, Bool.not_false, Bool.not_true]
     exact RcAt.list_bool _ hl hu0
   | int b =>
     have h' : v' = .int b := h'
     subst h'
     obtain ⟨t', rfl⟩ := r'
     simp only [deq, Bool.not_false, Bool.not_true]
     exact RcAt.list_int _ _ hl hu0
   | str b =>
     have h' : v' = .str b := h'
     subst h'
     obtain ⟨t', rfl⟩ := r'
     simp only [deq, Bool.not_false, Bool.not_true]
     exact RcAt.list_str _ _ hl hu0
   | tup ds' =>
     obtain ⟨l', vs', rfl, e', hs'⟩ := h'
     cases r'
     obtain ⟨its', rv', hl'⟩ := DAts.tup_of ok e'
     simp only [deq, Bool.not_false, Bool.not_true]
     exact RcAt.list_tuple hl hl' hu0
   | lst ds' =>
     obtain ⟨l', vs', rfl, e', hs'⟩ := h'
     cases r'
     obtain ⟨its', rv', hl'⟩ := DAts.lst_of ok e'
     simp only [deq, Bool.not_false, Bool.not_true]
     exact rc_lists ok (qN ok n) hs hs' rv rv' hl hl' f.2 hu
theorem rn_at (ok : HOk P w H s.heap) {n : Nat} {A : Around} {d d' : Dt} {v v' : V} {u u' : Value} (h : DAt H d v) (h' : DAt H d' v') (r : RelV v u) (r' : RelV v' u') (f : DFit (n + 1) d) (hu : A.units + (n + 1) < cLine) : RcNeAt A s u u' (!deq d d') := by
 have hu0 : A.units < cLine := by omega
 cases d with
 | non =>
   have h : v = .non := h
   subst h
   cases r
   cases d' with
   | non =>
     have h' : v' = .non := h'
     subst h'
     cases r'
     simp only [deq, Bool.not_false, Bool.not_true]
     exact RcNeAt.none_none
   | bl b =>
     have h' : v' = .bl b := h'
     subst h'
     cases r'
     simp only [deq, Bool.not_false, Bool.not_true]
     exact RcNeAt.none_bool _
   | int b =>
     have h' : v' = .int b := h'
     subst h'
     obtain ⟨t', rfl⟩ := r'
     simp only [deq, Bool.not_false, Bool.not_true]
     exact RcNeAt.none_int _ _
   | str b =>
     have h' : v' = .str b := h'
     subst h'
     obtain ⟨t', rfl⟩ := r'
     simp only [deq, Bool.not_false, Bool.not_true]
     exact RcNeAt.none_str _ _
   | tup ds' =>
     obtain ⟨l', vs', rfl, e', hs'⟩ := h'
     cases r'
     obtain ⟨its', rv', hl'⟩ := DAts.tup_of ok e'
     simp only [deq, Bool.not_false, Bool.not_true]
     exact RcNeAt.none_tuple hl' hu0
   | lst ds' =>
     obtain ⟨l', vs', rfl, e', hs'⟩ := h'
     cases r'
     obtain ⟨its', rv', hl'⟩ := DAts.lst_of ok e'
     simp only [deq, Bool.not_false, Bool.not_true]
     exact RcNeAt.none_list hl' hu0
 | bl a =>
   have h : v = .bl a := h
   subst h
   cases r
   cases d' with
   | non =>
     have h' : v' = .non := h'
     subst h'
     cases r'
     simp only [deq, Bool.not_false, Bool.not_true]
     exact RcNeAt.bool_none _
   | bl b =>
     have h' : v' = .bl b := h'
     subst h'
     cases r'
     simp only [deq, Bool.not_false, Bool.not_true]
     exact RcNeAt.bool_bool _ _
   | int b =>
     have h' : v' = .int b := h'
     subst h'
     obtain ⟨t', rfl⟩ := r'
     simp only [deq, Bool.not_false, Bool.not_true]
     exact RcNeAt.bool_int _ _ _
   | str b =>
     have h' : v' = .str b := h'
     subst h'
     obtain ⟨t', rfl⟩ := r'
     simp only [deq, Bool.not_false, Bool.not_true]
     exact RcNeAt.bool_str _ _ _
   | tup ds' =>
     obtain ⟨l', vs', rfl, e', hs'⟩ := h'
     cases r'
     obtain ⟨its', rv', hl'⟩ := DAts.tup_of ok e'
     simp only [deq, Bool.not_false, Bool.not_true]
     exact RcNeAt.bool_tuple _ hl' hu0
   | lst ds' =>
     obtain ⟨l', vs', rfl, e', hs'⟩ := h'
     cases r'
     obtain ⟨its', rv', hl'⟩ := DAts.lst_of ok e'
     simp only [deq, Bool.not_false, Bool.not_true]
     exact RcNeAt.bool_list _ hl' hu0
 | int a =>
   have h : v = .int a := h
   subst h
   obtain ⟨t, rfl⟩ := r
   cases d' with
   | non =>
     have h' : v' = .non := h'
     subst h'
     cases r'
     simp only [deq, Bool.not_false, Bool.not_true]
     exact RcNeAt.int_none _ _
   | bl b =>
     have h' : v' = .bl b := h'
     subst h'
     cases r'
     simp only [deq, Bool.not_false, Bool.not_true]
     exact RcNeAt.int_bool _ _ _
   | int b =>
     have h' : v' = .int b := h'
     subst h'
     obtain ⟨t', rfl⟩ := r'
     simp only [deq, Bool.not_false, Bool.not_true]
     exact RcNeAt.int_int _ _ _ _
   | str b =>
     have h' : v' = .str b := h'
     subst h'
     obtain ⟨t', rfl⟩ := r'
     simp only [deq, Bool.not_false, Bool.not_true]
     exact RcNeAt.int_str _ _ _ _
   | tup ds' =>
     obtain ⟨l', vs', rfl, e', hs'⟩ := h'
     cases r'
     obtain ⟨its', rv', hl'⟩ := DAts.tup_of ok e'
     simp only [deq, Bool.not_false, Bool.not_true]
     exact RcNeAt.int_tuple _ _ hl' hu0
   | lst ds' =>
     obtain ⟨l', vs', rfl, e', hs'⟩ := h'
     cases r'
     obtain ⟨its', rv', hl'⟩ := DAts.lst_of ok e'
     simp only [deq, Bool.not_false, Bool.not_true]
     exact RcNeAt.int_list _ _ hl' hu0
 | str a =>
   have h : v = .str a := h
   subst h
   obtain ⟨t, rfl⟩ := r
   cases d' with
   | non =>
     have h' : v' = .non := h'
     subst h'
     cases r'
     simp only [deq, Bool.not_false, Bool.not_true]
     exact RcNeAt.str_none _ _
   | bl b =>
     have h' : v' = .bl b := h'
     subst h'
     cases r'
     simp only [deq, Bool.not_false, Bool.not_true]
     exact RcNeAt.str_bool _ _ _
   | int b =>
     have h' : v' = .int b := h'
     subst h'
     obtain ⟨t', rfl⟩ := r'
     simp only [deq, Bool.not_false, Bool.not_true]
     exact RcNeAt.str_int _ _ _ _
   | str b =>
     have h' : v' = .str b := h'
     subst h'
     obtain ⟨t', rfl⟩ := r'
     simp only [deq, Bool.not_false, Bool.not_true]
     exact RcNeAt.str_str _ _ _ _
   | tup ds' =>
     obtain ⟨l', vs', rfl, e', hs'⟩ := h'
     cases r'
     obtain ⟨its', rv', hl'⟩ := DAts.tup_of ok e'
     simp only [deq, Bool.not_false, Bool.not_true]
     exact RcNeAt.str_tuple _ _ hl' hu0
   | lst ds' =>
     obtain ⟨l', vs', rfl, e', hs'⟩ := h'
     cases r'
     obtain ⟨its', rv', hl'⟩ := DAts.lst_of ok e'
     simp only [deq, Bool.not_false, Bool.not_true]
     exact RcNeAt.str_list _ _ hl' hu0
 | tup ds =>
   obtain ⟨l, vs, rfl, e, hs⟩ := h
   cases r
   obtain ⟨its, rv, hl⟩ := DAts.tup_of ok e
   cases d' with
   | non =>
     have h' : v' = .non := h'
     subst h'
     cases r'
     simp only [deq, Bool.not_false, Bool.not_true]
     exact RcNeAt.tuple_none hl hu0
   | bl b =>
     have h' : v' = .bl b := h'
     subst h'
     cases r'
     simp only [deq, Bool.not_false, Bool.not_true]
     exact RcNeAt.tuple_bool _ hl hu0
   | int b =>
     have h' : v' = .int b := h'
     subst h'
     obtain ⟨t', rfl⟩ := r'
     simp only [deq, Bool.not_false, Bool.not_true]
     exact RcNeAt.tuple_int _ _ hl hu0
   | str b =>
     have h' : v' = .str b := h'
     subst h'
     obtain ⟨t', rfl⟩ := r'
     simp only [deq, Bool.not_false, Bool.not_true]
     exact RcNeAt.tuple_str _ _ hl hu0
   | tup ds' =>
     obtain ⟨l', vs', rfl, e', hs'⟩ := h'
     cases r'
     obtain ⟨its', rv', hl'⟩ := DAts.tup_of ok e'
     simp only [deq, Bool.not_false, Bool.not_true]
     exact rn_tups ok (qN ok n) hs hs' rv rv' hl hl' f.2 hu
   | lst ds' =>
     obtain ⟨l', vs', rfl, e', hs'⟩ := h'
     cases r'
     obtain ⟨its', rv', hl'⟩ := DAts.lst_of ok e'
     simp only [deq, Bool.not_false, Bool.not_true]
     exact RcNeAt.tuple_list hl hl' hu0
 | lst ds =>
   obtain ⟨l, vs, rfl, e, hs⟩ := h
   cases r
   obtain ⟨its, rv, hl⟩ := DAts.lst_of ok e
   cases d' with
   | non =>
     have h' : v' = .non := h'
     subst h'
     cases r'
     simp only [deq, Bool.not_false, Bool.not_true]
     exact RcNeAt.list_none hl hu0
   | bl b =>
     have h' : v' = .bl b := h'
     subst h'
     cases r'
     simp only [deq, Bool.not_false, Bool.not_true]
     exact RcNeAt.list_bool _ hl hu0
   | int b =>
     have h' : v' = .int b := h'
     subst h'
     obtain ⟨t', rfl⟩ := r'
     simp only [deq, Bool.not_false, Bool.not_true]
     exact RcNeAt.list_int _ _ hl hu0
   | str b =>
     have h' : v' = .str b := h'
     subst h'
     obtain ⟨t', rfl⟩ := r'
     simp only [deq, Bool.not_false, Bool.not_true]
     exact RcNeAt.list_str _ _ hl hu0
   | tup ds' =>
     obtain ⟨l', vs', rfl, e', hs'⟩ := h'
     cases r'
     obtain ⟨its', rv', hl'⟩ := DAts.tup_of ok e'
     simp only [deq, Bool.not_false, Bool.not_true]
     exact RcNeAt.list_tuple hl hl' hu0
   | lst ds' =>
     obtain ⟨l', vs', rfl, e', hs'⟩ := h'
     cases r'
     obtain ⟨its', rv', hl'⟩ := DAts.lst_of ok e'
     simp only [deq, Bool.not_false, Bool.not_true]
     exact rn_lists ok (qN ok n) hs hs' rv rv' hl hl' f.2 hu
end
section
variable {X : Cx}
def rEqG : R2 := fun x y H Q => ∃ n d d', DAt H d x /\ DAt H d' y /\ DFit (n + 1) d /\ n <= 60 /\ Q (.bl (deq d d')) H
def rNeG : R2 := fun x y H Q => ∃ n d d', DAt H d x /\ DAt H d' y /\ DFit (n + 1) d /\ n <= 60 /\ Q (.bl (!deq d d')) H
theorem qG (hu : X.A.units + 64 < cLine) : OpR X (compareOp .Eq) rEqG := by
 intro pins s σ H x y v u Q I rx ry h
 obtain ⟨n, d, d', h1, h2, f, hn, q⟩ := h
 exact rc_at I.hok h1 h2 rx ry f (by omega) X.prog X.w _ _ (zT I q rfl)
theorem op_neG (hu : X.A.units + 64 < cLine) : OpR X (compareOp .NotEq) rNeG := by
 intro pins s σ H x y v u Q I rx ry h
 obtain ⟨n, d, d', h1, h2, f, hn, q⟩ := h
 exact rn_at I.hok h1 h2 rx ry f (by omega) X.prog X.w _ _ (zT I q rfl)
open Classical in
theorem in_eq {P : Program} {w : World} {H : Hp} {s : Shared} {A : Around} (ok : HOk P w H s.heap) {its : List Value} {vs : List V} {ds : List Dt} {d : Dt} {x : V} {u : Value} {n : Nat} (hs : DAts H ds vs) (rv : Vals vs its) (hx : DAt H d x) (ru : RelV x u) (f : ∀ e ∈ ds, DFit n e) (hu : A.units + (n + 1) < cLine)
   (y : Value) (hy : y ∈ its.toArray) : EqAt A.in1 s y u (decide (∃ d' v', DAt H d' v' /\ RelV v' y /\ deq d' d = true)) := by
 obtain ⟨j, hj, e⟩ := List.getElem_of_mem (show y ∈ its by simpa using hy)
 have k1 := hs.length
 have k2 := rv.length
 have hjd : j < ds.length := by omega
 obtain ⟨v, v1, v2⟩ := hs.get (List.getElem?_eq_getElem hjd)
 have rr : RelV v y := vals_at rv v1 (by rw [List.getElem?_eq_getElem hj, e])
 have : decide (∃ d' v', DAt H d' v' /\ RelV v' y /\ deq d' d = true) = deq ds[j] d := by
   rw [Bool.eq_iff_iff, decide_eq_true_eq]
   constructor
   · rintro ⟨d', v', q1, q2, q3⟩
     have := RelV.inj q2 rr
     subst this
     rw [DAt.one_of v2 q1]
     exact q3
   · intro q
     exact ⟨_, v, v2, rr, q⟩
 rw [this]
 exact qN ok n v2 hx rr ru (f _ (List.getElem_mem hjd)) (by show A.units + 1 + n < cLine; omega)
end
end L2
namespace L2
open PySem PySem.Spec PyProof.Rows PySem.SeqAt
section
variable {prog : Program} {w : World} {A : Around} {E : Value -> Shared -> Prop} {s : Shared}
theorem nextT_item {it t : Addr} {i : Nat} {xs : Array Value} {x : Value} {Q : Value -> Shared -> Prop} (hr : s.heap.IsTupleIter it t i) (ht : s.heap.IsTuple t xs) (hx : xs[i]? = some x)
   (q : ∀ h', h'.IsTupleIter it t (i + 1) -> Heap.SameBut it s.heap h' -> Q x { s with heap := h' }) : wpAny (model prog w) A (Builtin.SmallTypes.nextOf (.ref it)) Q E s := by
 obtain ⟨o, g1, g2, g3⟩ := id hr
 obtain ⟨ot, g4, _, m, g5⟩ := ht
 unfold Builtin.SmallTypes.nextOf
 refine wpAny_bind (wpAny_callSpecial?_slot (name := Str.ofString "__next__") hr.typeIs F.slot_tuple_iterator_next (wpAny_call_entry F.slot_tuple_iterator_next hr.typeIs F.entry_tuple_iterator_next ?_ (F.args_tuple_iterator_next_1 _)))
 refine wpAny_bind (m := field (.ref it) 0) (wpAny_field g1 g3 (x := .ref t) rfl ?_)
 refine (if_neg (c := (Value.ref t == Value.none) = true) Bool.false_ne_true) ▸ ?_
 refine wpAny_bind (m := field (.ref it) 1) (wpAny_field g1 g3 (x := .int i 0) rfl ?_)
 refine wpAny_bind (m := seqItems? (.ref t)) (wpAny_seqItems g4 g5 ?_)
 simp only [Int.toNat_natCast, hx]
 refine wpAny_bind (wpAny_setField g1 g3 (by simp) (wpAny_pure ⟨x, rfl, wpAny_pure (q _ ⟨_, Heap.get?_update_self _ g1 (Obj.isFreed_of_fields (Obj.data_mapFields g3 _)), (Obj.cls_mapFields ..).trans g2, ?_⟩ (Heap.SameBut.update ..))⟩))
 rw [Obj.data_mapFields g3]
 simp [rawInt]
theorem nextT_end {it t : Addr} {i : Nat} {xs : Array Value} {Q : Value -> Shared -> Prop} (hh : A.handled = none) (hr : s.heap.IsTupleIter it t i) (ht : s.heap.IsTuple t xs) (hx : xs[i]? = none)
   (q : ∀ h' e, Heap.ExtBut it s.heap h' -> (∃ o, h'.get? e = some o /\ o.cls = .type "StopIteration") -> E (.ref e) { s with heap := h' }) : wpAny (model prog w) A (Builtin.SmallTypes.nextOf (.ref it)) Q E s := by
 obtain ⟨o, g1, g2, g3⟩ := id hr
 obtain ⟨ot, g4, _, m, g5⟩ := ht
 unfold Builtin.SmallTypes.nextOf
 refine wpAny_bind (wpAny_callSpecial?_slot (name := Str.ofString "__next__") hr.typeIs F.slot_tuple_iterator_next (wpAny_call_entry F.slot_tuple_iterator_next hr.typeIs F.entry_tuple_iterator_next ?_ (F.args_tuple_iterator_next_1 _)))
 refine wpAny_bind (m := field (.ref it) 0) (wpAny_field g1 g3 (x := .ref t) rfl ?_)
 refine (if_neg (c := (Value.ref t == Value.none) = true) Bool.false_ne_true) ▸ ?_
 refine wpAny_bind (m := field (.ref it) 1) (wpAny_field g1 g3 (x := .int i 0) rfl ?_)
 refine wpAny_bind (m := seqItems? (.ref t)) (wpAny_seqItems g4 g5 ?_)
 simp only [Int.toNat_natCast, hx]
 refine wpAny_bind (wpAny_rule (wpAny_bind (wpAny_setField g1 g3 (by simp) ?_)))
 refine wpAny_bind (m := newExc (.type "StopIteration") []) ?_
 simp only [newExc, newTuple]
 refine wpAny_bind (wpAny_newObj_type (wpAny_bind (m := firstArgMember _ _) (wpAny_of_eq (a := Value.none) (by first | rfl | (simp only [firstArgMember]; rfl)) (wpAny_newObj_type (wpAny_raiseNew_none (A := A.in1) hh ?_) (by size_fits)))) (by size_fits))
 exact q _ _ (((Heap.SameBut.update ..).extBut.push _).push _) ⟨_, Heap.get?_push_size _ rfl, rfl⟩
structure Apt (z TI TO i1 i2 l1 l2 : Addr) : Prop where
 nd : [z, TI, TO, i1, i2].Nodup
 a1 : l1 ≠ z /\ l1 ≠ TO /\ l1 ≠ i1 /\ l1 ≠ i2
 a2 : l2 ≠ z /\ l2 ≠ TO /\ l2 ≠ i1 /\ l2 ≠ i2
theorem Apt.ne {z TI TO i1 i2 l1 l2 : Addr} (d : Apt z TI TO i1 i2 l1 l2) : (z ≠ TI /\ z ≠ TO /\ z ≠ i1 /\ z ≠ i2) /\ (TI ≠ TO /\ TI ≠ i1 /\ TI ≠ i2) /\ (TO ≠ i1 /\ TO ≠ i2) /\ i1 ≠ i2 := by
 have := d.nd
 simp only [List.nodup_cons, List.mem_cons, List.not_mem_nil, or_false, not_or] at this
 exact ⟨this.1, this.2.1, this.2.2.1, this.2.2.2.1⟩
end
section
variable {X : Cx} {pins : List (Addr × Obj)} {σ : St} {H : Hp} {s : Shared} {h' : Heap}
theorem Inv.turnedL {t' : Nat} {ch : List Addr} (I : Inv X pins σ H s) (k : ∀ b o, b ∉ ch -> s.heap.get? b = some o -> h'.get? b = some o) (hf : ∀ b ∈ ch, jU X pins H b) : Inv X pins σ H { s with heap := h', toks := t' } := by
 have nit : ∀ b u, H b = some u -> b ∉ ch := fun b u e z => by rw [(hf b z).1] at e; cases e
 have hL : X.env.locals ∉ ch := fun z => (hf _ z).2.1 rfl
 refine I.step (g' := s.gens) (d' := s.drawn) (ch := ch) (fun b hb => ?_) (fun b o _ _ hc e _ => k b o hc e) (fun b o _ _ hc e _ => ⟨o.slots, k b o hc e⟩) (fun _ _ _ _ n => n) (fun b o hc e => ⟨o, k b o hc e⟩) (fun _ _ e => e) (fun _ _ _ e => e) (fun b ps e => ⟨#[], by rw [e]; simp⟩) (fun m hm => ?_) (fun b u e => ?_) I.bare
 · obtain ⟨f0, f1, f2, f3, f4, f5⟩ := hf b hb
   exact ⟨f3, f1, f4, f5⟩
 · obtain ⟨o, es, ep, ho, r⟩ := hm
   exact ⟨o, es, ep, k _ o hL ho, r⟩
 · refine (I.hok b u e).stay (fun c v hc q => k c v ?_ q) (fun _ q => q) fun _ _ q => q
   rcases hc with z | z
   · rw [z]; exact nit b u e
   · exact nit c _ z
theorem Inv.turnedN {t' : Nat} {ch : List Addr} {p : Addr} {o : HO} (I : Inv X pins σ H s) (k : ∀ b o, b ∉ ch -> s.heap.get? b = some o -> h'.get? b = some o) (hf : ∀ b ∈ ch, jU X pins H b) (hp : s.heap.objs.size <= p) (new : ObjOk X.prog X.w (upd H p o) h' p o) :
   Inv X pins σ (upd H p o) { s with heap := h', toks := t' } := by
 have nit : ∀ b u, H b = some u -> b ∉ ch := fun b u e z => by rw [(hf b z).1] at e; cases e
 have hL : X.env.locals ∉ ch := fun z => (hf _ z).2.1 rfl
 have hn := I.hok.fresh hp
 have nep : ∀ {b : Addr} {u : HO}, H b = some u -> b ≠ p := fun e z => by rw [z, hn] at e; cases e
 refine I.step (g' := s.gens) (d' := s.drawn) (ch := ch) (fun b hb => ?_) (fun b o _ _ hc e _ => k b o hc e) (fun b o _ _ hc e _ => ⟨o.slots, k b o hc e⟩) (fun b u _ e n => ?_) (fun b o hc e => ⟨o, k b o hc e⟩) (fun _ _ e => by rw [zE (nep e)]; exact e) (fun _ _ _ e => by rw [zE (nep e)]; exact e) (fun b ps e => ⟨#[], by rw [zE (nep e), e]; simp⟩) (fun m hm => ?_) (fun b u e => ?_) I.bare
 · obtain ⟨f0, f1, f2, f3, f4, f5⟩ := hf b hb
   exact ⟨f3, f1, f4, f5⟩
 · rw [zE (Nat.ne_of_lt (Nat.lt_of_lt_of_le (Heap.lt_size e) hp))]
   exact n
 · obtain ⟨o, es, ep, ho, r⟩ := hm
   exact ⟨o, es, ep, k _ o hL ho, r⟩
 · by_cases hb : b = p
   · subst hb
     rw [zC] at e
     cases e
     exact new
   · rw [zE hb] at e
     refine (I.hok b u e).stay (fun c v hc q => k c v ?_ q) (fun c q => by rw [zE (nep q)]; exact q) fun c _ q => by rw [zE (nep q)]; exact q
     rcases hc with z | z
     · rw [z]; exact nit b u e
     · exact nit c _ z
end
section
variable {X : Cx}
theorem boot_zip : bootBuiltins "zip" = some (.type "zip") := by rfl
end
end L2
namespace L2
open PySem PySem.Spec PyProof.Rows PySem.SeqAt
end L2
namespace L2
open PySem PySem.Spec PyProof.Rows PySem.SeqAt
inductive Rw where
 | no | nm (x : Str) | bo (i j : Int)
inductive Wt where
 | n (i : Int) | ps (l : List Int)
structure Ln where
 i : Int
 j : Int
 w : Str
 as : List Wt
end L2
namespace L2
open PySem PySem.Spec PyProof.Rows PySem.SeqAt
section
variable {prog : Program} {w : World} {A : Around} {E : Value -> Shared -> Prop} {s : Shared}
end
section
variable {X : Cx}
end
end L2
namespace L2
open PySem PySem.Spec PyProof.Rows PySem.SeqAt
section
variable {X : Cx}
end
end L2
namespace L2
open PySem
end L2
namespace L2
open PySem PyProof.Rows
section
variable {prog : Program} {w : World} {A : Around} {E : Value -> Shared -> Prop} {s : Shared}
end
section
variable {prog : Program} {w : World} {A : Around} {R : Result -> Shared -> Prop} {I : Addr} {fp wr : List Addr} {G : Array GenState -> Array GenState -> Prop} {n : Nat} {P : Nat -> Value -> Prop} {St : Nat -> Shared -> Prop}
end
section
variable {prog : Program} {w : World} {A : Around} {E : Value -> Shared -> Prop} {s : Shared}
end
end L2
namespace L2
open PySem PySem.Spec PyProof.Rows PySem.SeqAt PySem.W
section
variable {prog : Program} {w : World} {A : Around} {E : Value -> Shared -> Prop} {s : Shared} {T : String} {r d : Addr} {n : Nat} {P : Nat -> Value -> Prop} {OK : Heap -> Prop}
end
section
variable {X : Cx}
end
theorem lc_listIf {K : PySem.W.Frag} {a : Addr} {xs : List V} {ns : List Str} {js : List Nat} {g : TG} {tc : TT} {te : TE} {σ : St} {H : Hp} {Q : VK} (Pv : Nat -> List V -> St -> Hp -> Prop) (h0 : Pv 0 [] (lcSt ns js σ) H) (hz : xs.length <= sizeLine) (hl : ∀ i ys σ H, Pv i ys σ H -> ys.length <= i)
   (hK : ∀ i ys σ H, Pv i ys σ H -> SqL K H a xs)
   (hs : ∀ (i : Nat) x ys σ H (C : V -> St -> Hp -> Prop) (D : St -> Hp -> Prop), xs[i]? = some x -> Pv i ys σ H -> (∀ y σ2 H3, Pv (i + 1) (ys ++ [y]) σ2 H3 -> C y σ2 H3) -> (∀ σ2 H3, Pv (i + 1) ys σ2 H3 -> D σ2 H3) ->
     g x σ H fun σ2 H2 => tc σ2 H2 fun b H3 => if b = true then te σ2 H3 fun y H4 => C y σ2 H4 else D σ2 H3)
   (hd : ∀ ys σ H, Pv xs.length ys σ H -> ∀ p, H p = none -> Q (.ref p) (upd H p (.lst ys))) :
   LcW (Itl K a) ns js g (some tc) te σ H Q := by
 refine ⟨fun i m ys σ H => m = xs.length - i /\ i <= xs.length /\ Pv i ys σ H, ⟨xs.length, by omega, Nat.zero_le _, h0⟩, fun i m ys σ1 H1 ⟨hm, hi, hp⟩ => ?_⟩
 by_cases h : i < xs.length
 · refine .inr ⟨⟨xs, xs[i], hK i ys σ1 H1 hp, List.getElem?_eq_getElem h⟩, ?_, fun x H' ⟨e, hx⟩ => ?_⟩
   · have := hl i ys σ1 H1 hp
     omega
   · subst e
     exact hs i x ys σ1 _ _ _ (hx xs (hK i ys σ1 _ hp)) hp (fun y σ2 H3 q => ⟨xs.length - (i + 1), by omega, rfl, by omega, q⟩) fun σ2 H3 q => ⟨xs.length - (i + 1), by omega, rfl, by omega, q⟩
 · have e : i = xs.length := by omega
   subst e
   exact .inl ⟨⟨xs, hK _ ys σ1 H1 hp, Nat.le_refl _⟩, hd ys σ1 H1 hp⟩
end L2
namespace L2
open PySem PySem.Spec PyProof.Rows PySem.SeqAt
section
variable {X : Cx}
end
section
variable {X : Cx} {tg : Expr}
end
theorem pg_tupK {X : Cx} {K : PySem.W.Frag} {es : List Expr} {k : Nat} {t : TGs} {n : Nat} {pos : Pos} (hc : X.calm = true) (h : PGs X es t) (hK : X.K = K := by rfl)
   (hn : (assignEach es X.env).length = n := by rfl) (hst : (assignEach es X.env).findIdx? (·.1) = none := by rfl) : PG X (.Tuple es k pos) (gTup K n t) := by
 subst hK
 exact qE hc h hn hst
theorem pe_bmK {X : Cx} (K : PySem.W.Frag) {o e : Expr} {es : List Expr} {to : TE} {t : TA} {name : Str} {apos cpos : Pos} {T id : String} {r : V -> List V -> Hp -> VK -> Prop} (pa : PlainAttrs T) (slot : Slot T name id) (hty : typeOf (.builtin id) = pure (.type "method_descriptor")) (hm : MtR X id r) (ho : PE X o to) (ha : PA X (e :: es) t)
   (hK : X.K = K := by rfl) (hbase : attributeBase o name X.env (eval o X.env) = eval o X.env := by rfl)
   (hfew : ((backTo cpos (starEach (e :: es) X.env)).all (fun x => !x.1) && (backToKw cpos (keywordEach [] X.env)).all (fun x => x.1.isSome)
     && decide ((e :: es).length + ([] : List Keyword).length + (if ([] : List Keyword).isEmpty then 0 else 1) < 30)) = true := by rfl)
   (hline : (apos.endLine == cpos.line) = true := by rfl) (hs : starEach (e :: es) X.env = (false, eval e X.env) :: starEach es X.env := by rfl) (hplain : (backTo cpos (starEach es X.env)).any (·.1) = false := by rfl) :
   PE X (.Call (.Attribute o name apos) (e :: es) [] cpos) (tBM K T r to t) := by
 subst hK
 exact xN pa slot hty hm ho ha hbase hfew hline hs hplain
end L2
namespace L2
open PySem PySem.Spec PyProof.Rows PySem.W
section
variable {prog : Program} {w : World} {A : Around} {E : Value -> Shared -> Prop} {s : Shared}
end
theorem KT.at {H : Hp} : ∀ {kvs : List (List Key × V)} {xs : List (List Key × Addr × Value)}, KT H kvs xs -> ∀ {i : Nat} {p : List Key × V} {q : List Key × Addr × Value}, kvs[i]? = some p -> xs[i]? = some q -> RelV p.2 q.2.2
 | _, _, .nil, i, p, q, h, _ => by simp at h
 | _, _, .cons hq t, 0, p, q, h1, h2 => by
   simp only [List.getElem?_cons_zero, Option.some.injEq] at h1 h2
   subst h1 h2
   exact hq.2.2
 | _, _, .cons hq t, i + 1, p, q, h1, h2 => KT.at t (by simpa using h1) (by simpa using h2)
section
variable {X : Cx}
end
end L2
namespace L2
open PySem PySem.Spec PyProof.Rows PySem.W
section
variable {prog : Program} {w : World} {A : Around} {E : Value -> Shared -> Prop} {s : Shared}
end
section
variable {prog : Program} {w : World} {A : Around} {E : Value -> Shared -> Prop} {s : Shared}
end
section
variable {prog : Program} {w : World} {A : Around} {E : Value -> Shared -> Prop} {s : Shared} {T : String} {J : Addr} {fp wr : List Addr} {n : Nat} {P : Nat -> Value -> Prop} {St : Nat -> Heap -> Prop}
structure ItSrc (prog : Program) (w : World) (T : String) (J : Addr) (fp wr : List Addr) (n : Nat) (P : Nat -> Value -> Prop) (St : Nat -> Heap -> Prop) : Prop where
 walks : ∀ A : Around, A.handled = none -> Walks prog w A J fp wr n P St
 type : ∀ s : Shared, St 0 s.heap -> s.TypeIs (.ref J) T
 nl : (Value.type T == Value.type "list") = false
 nt : (Value.type T == Value.type "tuple") = false
 hint : ∀ (A : Around) (E : Value -> Shared -> Prop) (s : Shared) (Q : Bool -> Shared -> Prop), St 0 s.heap -> Q false s -> wpAny (model prog w) A (Builtin.List.listLengthHint (.ref J)) Q E s
 mem : J ∈ fp
 sub : wr ⊆ fp
end
section
variable {X : Cx}
theorem call_intB : jA X (.type "int") (fun xs H Q => ∃ b, xs = [.bl b] /\ Q (.int (if b then 1 else 0)) H) := by
 intro pins s σ H xs us Q I r h
 obtain ⟨b, rfl, q⟩ := h
 obtain ⟨u, rfl, ru⟩ := vals1 r
 have e : u = Value.bool b := ru
 subst e
 exact call_int_bool ⟨.int _, H, I.tok _, ⟨_, rfl⟩, q⟩
theorem mt_joinK (K : PySem.W.Frag) (h : X.K = K := by rfl) : MtR X "str.join" (fun x xs H Q => ∃ (z : Str) (p : Addr) (ys : List Str), x = .str z /\ xs = [.ref p] /\ SqL K H p (ys.map V.str) /\ (ys.map (·.length)).sum + ys.length * z.length <= 16777216 /\ Q (.str (Txt.join z ys)) H) := by subst h; exact mt_join
end
end L2
namespace L2
open PySem PySem.Spec PyProof.Rows PySem.W
section
variable {X : Cx}
theorem pi_listK {tg l : Expr} {tl : TE} (K : PySem.W.Frag) (hl : PE X l tl) (h : X.K = K := by rfl) : PI X tg l (iList K tl) := by subst h; exact uL hl
end
end L2
namespace L2
open PySem PySem.Spec PyProof.Rows PySem.SeqAt
def SqH (b : Bool) (h : Heap) (l : Addr) (xs : Array Value) : Prop := match b with
 | true => h.IsTuple l xs
 | false => h.IsList l xs
def SqI (b : Bool) (h : Heap) (it l : Addr) (i : Nat) : Prop := match b with
 | true => h.IsTupleIter it l i
 | false => h.IsListIter it l i
def itN (b : Bool) : String := match b with
 | true => "tuple_iterator"
 | false => "list_iterator"
def hoK (b : Bool) (xs : List V) : HO := match b with
 | true => .tup xs
 | false => .lst xs
theorem SqI.keep {b : Bool} {h h' : Heap} {it l : Addr} {i : Nat} (x : SqI b h it l i) (e : ∀ o, h.get? it = some o -> h'.get? it = some o) : SqI b h' it l i := by
 cases b with
 | true => obtain ⟨o, ho, r⟩ := x; exact ⟨o, e _ ho, r⟩
 | false => obtain ⟨o, ho, r⟩ := x; exact ⟨o, e _ ho, r⟩
theorem SqH.keep {b : Bool} {h h' : Heap} {l : Addr} {xs : Array Value} (x : SqH b h l xs) (e : ∀ o, h.get? l = some o -> h'.get? l = some o) : SqH b h' l xs := by
 cases b with
 | true => obtain ⟨o, ho, r⟩ := x; exact ⟨o, e _ ho, r⟩
 | false => obtain ⟨o, ho, r⟩ := x; exact ⟨o, e _ ho, r⟩
theorem SqI.obj {b : Bool} {h : Heap} {it l : Addr} {i : Nat} (x : SqI b h it l i) : ∃ o, h.get? it = some o /\ ∀ v, o.data ≠ .cell v := by
 cases b with
 | true => obtain ⟨o, ho, _, d⟩ := x; exact ⟨o, ho, fun v e => by rw [d] at e; cases e⟩
 | false => obtain ⟨o, ho, _, d⟩ := x; exact ⟨o, ho, fun v e => by rw [d] at e; cases e⟩
theorem yG {b : Bool} {h h' : Heap} {it t c : Addr} {i : Nat} (x : SqI b h it t i) (e : Heap.ExtBut c h h') (n : it ≠ c) : SqI b h' it t i := x.keep fun o => e _ o n
theorem yR {b : Bool} {h h' : Heap} {t c : Addr} {xs : Array Value} (x : SqH b h t xs) (e : Heap.ExtBut c h h') (n : t ≠ c) : SqH b h' t xs := x.keep fun o => e _ o n
section
variable {prog : Program} {w : World} {A : Around} {E : Value -> Shared -> Prop} {s : Shared} {b1 b2 : Bool}
theorem xS {b : Bool} {it t : Addr} {i : Nat} {xs : Array Value} {x : Value} {Q : Value -> Shared -> Prop} (hr : SqI b s.heap it t i) (ht : SqH b s.heap t xs) (hx : xs[i]? = some x)
   (q : ∀ h', SqI b h' it t (i + 1) -> Heap.SameBut it s.heap h' -> Q x { s with heap := h' }) : wpAny (model prog w) A (Builtin.SmallTypes.nextOf (.ref it)) Q E s := by
 cases b with
 | true => exact nextT_item hr ht hx q
 | false => exact wpAny_nextOf_list_item hr ht hx q
theorem qX {b : Bool} {it t : Addr} {i : Nat} {xs : Array Value} {Q : Value -> Shared -> Prop} (hh : A.handled = none) (hr : SqI b s.heap it t i) (ht : SqH b s.heap t xs) (hx : xs[i]? = none)
   (q : ∀ h' e, Heap.ExtBut it s.heap h' -> (∃ o, h'.get? e = some o /\ o.cls = .type "StopIteration") -> E (.ref e) { s with heap := h' }) : wpAny (model prog w) A (Builtin.SmallTypes.nextOf (.ref it)) Q E s := by
 cases b with
 | true => exact nextT_end hh hr ht hx q
 | false => exact wpAny_nextOf_list_end hh hr ht hx q
theorem pyIterK {b : Bool} {t : Addr} {items : Array Value} {Q : Value -> Shared -> Prop} (ht : SqH b s.heap t items)
   (hQ : Q (.ref s.heap.objs.size) { s with heap := s.heap.push { cls := .type (itN b), data := .fields #[.ref t, .int 0 0] } }) : wpAny (model prog w) A (pyIter (.ref t)) Q E s := by
 cases b with
 | true => exact wpAny_pyIter_tuple ht hQ
 | false => exact wpAny_pyIter_list ht hQ
theorem itK {b : Bool} {h : Heap} {it l : Addr} (e : h.get? it = some { cls := .type (itN b), data := .fields #[.ref l, .int 0 0] }) : SqI b h it l 0 := by
 cases b with
 | true => exact ⟨_, e, rfl, rfl⟩
 | false => exact ⟨_, e, rfl, rfl⟩
theorem zipK_item {z TI TO i1 i2 l1 l2 : Addr} {k : Nat} {xs ys : Array Value} {x y a b : Value} {Q : Value -> Shared -> Prop} (d : Apt z TI TO i1 i2 l1 l2)
   (gz : IsZip s.heap z TI TO .none) (gI : IsPair s.heap TI (.ref i1) (.ref i2)) (gO : IsPair s.heap TO a b) (r1 : SqI b1 s.heap i1 l1 k) (r2 : SqI b2 s.heap i2 l2 k) (t1 : SqH b1 s.heap l1 xs) (t2 : SqH b2 s.heap l2 ys) (hx : xs[k]? = some x) (hy : ys[k]? = some y)
   (q : ∀ h', IsZip h' z TI TO (rawInt s.heap.objs.size) -> IsPair h' TO x y -> SqI b1 h' i1 l1 (k + 1) -> SqI b2 h' i2 l2 (k + 1) -> IsPair h' s.heap.objs.size x y -> h'.objs.size = s.heap.objs.size + 1 ->
     (∀ c o, c ≠ z -> c ≠ TO -> c ≠ i1 -> c ≠ i2 -> s.heap.get? c = some o -> h'.get? c = some o) -> Q (.ref s.heap.objs.size) { s with heap := h' }) :
   wpAny (model prog w) A (Builtin.«zip.__next__» ⟨[.ref z], []⟩) (fun fin s' => ∃ v, fin = .done (.ret v) /\ Q v s') E s := by
 obtain ⟨⟨n1, n2, n3, n4⟩, ⟨n5, n6, n7⟩, ⟨n8, n9⟩, n10⟩ := d.ne
 obtain ⟨c1, c2, c3, c4⟩ := d.a1
 obtain ⟨e1, e2, e3, e4⟩ := d.a2
 refine wpAny_bind (m := field (.ref z) 2) (wpAny_field gz rfl (x := .bool false) rfl ?_)
 refine wpAny_bind (m := field (.ref z) 3) (wpAny_field gz rfl (x := .ref TI) rfl ?_)
 refine wpAny_bind (wpAny_seqItems gI rfl ?_)
 refine wpAny_bind (m := Builtin.SmallTypes.ownedTupleIsFree (.ref z)) ?_
 unfold Builtin.SmallTypes.ownedTupleIsFree
 refine wpAny_bind (wpAny_field gz rfl (x := .none) rfl (wpAny_pure ?_))
 simp only [if_true]
 refine wpAny_bind (wpAny_rule (wpAny_bind (wpAny_field gz rfl (x := .ref TO) rfl ?_)))
 refine wpAny_bind (wpAny_setField_rec gz (by simp) fun h1 gz1 s1 => ?_)
 replace gz1 : IsZip h1 z TI TO .ellipsis := gz1
 refine wpAny_bind ?_
 simp only [List.zipIdx_cons, List.zipIdx_nil, List.forIn_cons, List.forIn_nil]
 refine wpAny_bind (wpAny_bind (wpAny_onRaise (wpAny_bind (m := Builtin.SmallTypes.nextOf (.ref i1)) (xS (yG r1 s1.extBut (Ne.symm n3)) (yR t1 s1.extBut c1) hx fun h2 r1' s2 => wpAny_pure ?_))))
 have gO2 : IsPair h2 TO a b := s2.extBut _ _ n8 (s1.extBut _ _ (Ne.symm n2) gO)
 refine wpAny_bind (wpAny_seqItems gO2 rfl (wpAny_bind (wpAny_updateSeq_pair gO2 fun h3 gO3 s3 => ?_)))
 replace gO3 : IsPair h3 TO x b := gO3
 refine wpAny_bind (wpAny_letGo (wpAny_pure ?_))
 refine wpAny_bind (wpAny_bind (wpAny_onRaise (wpAny_bind (m := Builtin.SmallTypes.nextOf (.ref i2)) (xS (yG (yG (yG r2 s1.extBut (Ne.symm n4)) s2.extBut (Ne.symm n10)) s3.extBut (Ne.symm n9))
   (yR (yR (yR t2 s1.extBut e1) s2.extBut e3) s3.extBut e2) hy fun h4 r2' s4 => wpAny_pure ?_))))
 have gO4 : IsPair h4 TO x b := s4.extBut _ _ n9 gO3
 refine wpAny_bind (wpAny_seqItems gO4 rfl (wpAny_bind (wpAny_updateSeq_pair gO4 fun h5 gO5 s5 => ?_)))
 replace gO5 : IsPair h5 TO x y := gO5
 refine wpAny_bind (wpAny_letGo (wpAny_pure (wpAny_pure ?_)))
 refine wpAny_bind (wpAny_seqItems gO5 rfl (wpAny_bind (wpAny_newTuple ?_)))
 have hsz : h5.objs.size = s.heap.objs.size := by rw [s5.1, s4.1, s3.1, s2.1, s1.1]
 have gz5 : IsZip h5 z TI TO .ellipsis := s5.extBut _ _ n2 (s4.extBut _ _ n4 (s3.extBut _ _ n2 (s2.extBut _ _ n3 gz1)))
 have kk : ∀ c o, c ≠ z -> c ≠ TO -> c ≠ i1 -> c ≠ i2 -> s.heap.get? c = some o -> h5.get? c = some o := fun c o a1 a2 a3 a4 e =>
   s5.extBut _ _ a2 (s4.extBut _ _ a4 (s3.extBut _ _ a2 (s2.extBut _ _ a3 (s1.extBut _ _ a1 e))))
 have r15 : SqI b1 h5 i1 l1 (k + 1) := yG (yG (yG r1' s3.extBut (Ne.symm n8)) s4.extBut n10) s5.extBut (Ne.symm n8)
 have r25 : SqI b2 h5 i2 l2 (k + 1) := yG r2' s5.extBut (Ne.symm n9)
 have zlt : z < h5.objs.size := Heap.lt_size gz5
 refine wpAny_bind (m := Builtin.SmallTypes.ownedTupleHandOut (.ref z) (.ref h5.objs.size)) ?_
 unfold Builtin.SmallTypes.ownedTupleHandOut
 have gz6 : IsZip (h5.push { cls := .type "tuple", data := .seq #[x, y] }) z TI TO .ellipsis := Heap.get?_push_of_some _ gz5
 refine wpAny_bind (wpAny_setField_rec gz6 (by simp) fun h7 gz7 s7 => ?_)
 replace gz7 : IsZip h7 z TI TO (rawInt h5.objs.size) := gz7
 refine wpAny_setField_rec gz7 (by simp) fun h8 gz8 s8 => ?_
 replace gz8 : IsZip h8 z TI TO (rawInt h5.objs.size) := gz8
 have up : ∀ c o, c ≠ z -> h5.get? c = some o -> h8.get? c = some o := fun c o a1 e => s8.extBut _ _ a1 (s7.extBut _ _ a1 (Heap.get?_push_of_some _ e))
 have gT : IsPair h8 h5.objs.size x y := s8.extBut _ _ (Nat.ne_of_gt zlt) (s7.extBut _ _ (Nat.ne_of_gt zlt) (Heap.get?_push_size _ rfl))
 have z8 : h8.objs.size = h5.objs.size + 1 := by rw [s8.1, s7.1, Heap.size_push]
 rw [hsz] at gz8 gT z8
 refine wpAny_pure ⟨_, rfl, ?_⟩
 show Q (.ref h5.objs.size) _
 rw [hsz]
 exact q h8 gz8 (up _ _ (Ne.symm n2) gO5) (r15.keep fun o e => up _ o (Ne.symm n3) e) (r25.keep fun o e => up _ o (Ne.symm n4) e) gT z8 fun c o a1 a2 a3 a4 e => up c o a1 (kk c o a1 a2 a3 a4 e)
theorem zipK_end {z TI TO i1 i2 l1 l2 : Addr} {k : Nat} {xs ys : Array Value} {a b : Value} {Q : Fin -> Shared -> Prop} (hh : A.handled = none) (d : Apt z TI TO i1 i2 l1 l2)
   (gz : IsZip s.heap z TI TO .none) (gI : IsPair s.heap TI (.ref i1) (.ref i2)) (gO : IsPair s.heap TO a b) (r1 : SqI b1 s.heap i1 l1 k) (r2 : SqI b2 s.heap i2 l2 k) (t1 : SqH b1 s.heap l1 xs) (t2 : SqH b2 s.heap l2 ys) (hend : xs[k]? = none \/ ys[k]? = none)
   (q : ∀ h' e, (∀ c o, c ≠ z -> c ≠ TO -> c ≠ i1 -> c ≠ i2 -> s.heap.get? c = some o -> h'.get? c = some o) -> (∃ o, h'.get? e = some o /\ o.cls = .type "StopIteration") -> E (.ref e) { s with heap := h' }) :
   wpAny (model prog w) A (Builtin.«zip.__next__» ⟨[.ref z], []⟩) Q E s := by
 obtain ⟨⟨n1, n2, n3, n4⟩, ⟨n5, n6, n7⟩, ⟨n8, n9⟩, n10⟩ := d.ne
 obtain ⟨c1, c2, c3, c4⟩ := d.a1
 obtain ⟨e1, e2, e3, e4⟩ := d.a2
 refine wpAny_bind (m := field (.ref z) 2) (wpAny_field gz rfl (x := .bool false) rfl ?_)
 refine wpAny_bind (m := field (.ref z) 3) (wpAny_field gz rfl (x := .ref TI) rfl ?_)
 refine wpAny_bind (wpAny_seqItems gI rfl ?_)
 refine wpAny_bind (m := Builtin.SmallTypes.ownedTupleIsFree (.ref z)) ?_
 unfold Builtin.SmallTypes.ownedTupleIsFree
 refine wpAny_bind (wpAny_field gz rfl (x := .none) rfl (wpAny_pure ?_))
 simp only [if_true]
 refine wpAny_bind (wpAny_rule (wpAny_bind (wpAny_field gz rfl (x := .ref TO) rfl ?_)))
 refine wpAny_bind (wpAny_setField_rec gz (by simp) fun h1 gz1 s1 => ?_)
 replace gz1 : IsZip h1 z TI TO .ellipsis := gz1
 refine wpAny_bind ?_
 simp only [List.zipIdx_cons, List.zipIdx_nil, List.forIn_cons, List.forIn_nil]
 cases hx : xs[k]? with
 | none =>
   refine wpAny_bind (wpAny_bind (wpAny_onRaise (wpAny_bind (m := Builtin.SmallTypes.nextOf (.ref i1)) (qX hh (yG r1 s1.extBut (Ne.symm n3)) (yR t1 s1.extBut c1) hx fun h2 e s2 he => ?_))))
   obtain ⟨oe, ge, gc⟩ := he
   have gz2 : IsZip h2 z TI TO .ellipsis := s2 _ _ n3 gz1
   have hez : e ≠ z := fun x => by subst x; rw [gz2] at ge; cases ge; simp at gc
   exact wpAny_setField_rec gz2 (by simp) fun h3 _ s3 => q h3 e (fun c o a1 _ a3 _ x => s3.extBut _ _ a1 (s2 _ _ a3 (s1.extBut _ _ a1 x))) ⟨oe, s3.extBut _ _ hez ge, gc⟩
 | some x =>
   have hy : ys[k]? = none := hend.resolve_left (by rw [hx]; intro z; cases z)
   refine wpAny_bind (wpAny_bind (wpAny_onRaise (wpAny_bind (m := Builtin.SmallTypes.nextOf (.ref i1)) (xS (yG r1 s1.extBut (Ne.symm n3)) (yR t1 s1.extBut c1) hx fun h2 r1' s2 => wpAny_pure ?_))))
   have gO2 : IsPair h2 TO a b := s2.extBut _ _ n8 (s1.extBut _ _ (Ne.symm n2) gO)
   refine wpAny_bind (wpAny_seqItems gO2 rfl (wpAny_bind (wpAny_updateSeq_pair gO2 fun h3 gO3 s3 => ?_)))
   refine wpAny_bind (wpAny_letGo (wpAny_pure ?_))
   refine wpAny_bind (wpAny_bind (wpAny_onRaise (wpAny_bind (m := Builtin.SmallTypes.nextOf (.ref i2)) (qX hh (yG (yG (yG r2 s1.extBut (Ne.symm n4)) s2.extBut (Ne.symm n10)) s3.extBut (Ne.symm n9))
     (yR (yR (yR t2 s1.extBut e1) s2.extBut e3) s3.extBut e2) hy fun h4 e s4 he => ?_))))
   obtain ⟨oe, ge, gc⟩ := he
   have gz4 : IsZip h4 z TI TO .ellipsis := s4 _ _ n4 (s3.extBut _ _ n2 (s2.extBut _ _ n3 gz1))
   have hez : e ≠ z := fun x => by subst x; rw [gz4] at ge; cases ge; simp at gc
   exact wpAny_setField_rec gz4 (by simp) fun h5 _ s5 => q h5 e (fun c o a1 a2 a3 a4 x => s5.extBut _ _ a1 (s4 _ _ a4 (s3.extBut _ _ a2 (s2.extBut _ _ a3 (s1.extBut _ _ a1 x))))) ⟨oe, s5.extBut _ _ hez ge, gc⟩
abbrev zk1 (b1 b2 : Bool) (h : Heap) (l1 : Addr) : Heap := h.push { cls := .type (itN b1), data := .fields #[.ref l1, .int 0 0] }
abbrev zk2 (b1 b2 : Bool) (h : Heap) (l1 l2 : Addr) : Heap := (zk1 b1 b2 h l1).push { cls := .type (itN b2), data := .fields #[.ref l2, .int 0 0] }
abbrev zk3 (b1 b2 : Bool) (h : Heap) (l1 l2 : Addr) : Heap := (zk2 b1 b2 h l1 l2).push { cls := .type "tuple", data := .seq #[.ref h.objs.size, .ref (zk1 b1 b2 h l1).objs.size] }
abbrev zk4 (b1 b2 : Bool) (h : Heap) (l1 l2 : Addr) : Heap := (zk3 b1 b2 h l1 l2).push { cls := .type "tuple", data := .seq #[.none, .none] }
abbrev zk5 (b1 b2 : Bool) (h : Heap) (l1 l2 : Addr) : Heap := (zk4 b1 b2 h l1 l2).push { cls := .type "zip", data := .fields #[.none, .bool false, .bool false, .ref (zk2 b1 b2 h l1 l2).objs.size, .ref (zk3 b1 b2 h l1 l2).objs.size] }
theorem zipK_new (b1 b2 : Bool) (l1 l2 : Addr) (xs ys : Array Value) :
   Meets (Builtin.«zip.__new__» ⟨[.type "zip", .ref l1, .ref l2], []⟩) (fun _ R s => SqH b1 s.heap l1 xs /\ SqH b2 s.heap l2 ys /\ R (.ok (.ret (.ref (zk4 b1 b2 s.heap l1 l2).objs.size))) { s with heap := zk5 b1 b2 s.heap l1 l2 }) :=
 .of_wp fun prog w A R s h => by
   obtain ⟨hp, g, dr, tk, os⟩ := s
   obtain ⟨t1, t2, h⟩ := h
   have hsub := sub_zip
   have g1 : SqH b1 (Shared.heap ⟨hp, g, dr, tk, os⟩) l1 xs := t1
   have g2 : SqH b2 (Shared.heap ⟨hp.push { cls := .type (itN b1), data := .fields #[.ref l1, .int 0 0] }, g, dr, tk, os⟩) l2 ys := t2.keep fun o e => Heap.get?_push_of_some _ e
   wp_walk using pyIterK g1, pyIterK g2
   exact ⟨_, rfl, h⟩
theorem call_zipK {l1 l2 : Addr} {xs ys : Array Value} {Q : Value -> Shared -> Prop} (t1 : SqH b1 s.heap l1 xs) (t2 : SqH b2 s.heap l2 ys)
   (q : ∀ h', IsZip h' (s.heap.objs.size + 4) (s.heap.objs.size + 2) (s.heap.objs.size + 3) .none -> IsPair h' (s.heap.objs.size + 2) (.ref s.heap.objs.size) (.ref (s.heap.objs.size + 1)) -> IsPair h' (s.heap.objs.size + 3) .none .none ->
     SqI b1 h' s.heap.objs.size l1 0 -> SqI b2 h' (s.heap.objs.size + 1) l2 0 -> (∀ c o, s.heap.get? c = some o -> h'.get? c = some o) -> Q (.ref (s.heap.objs.size + 4)) { s with heap := h' }) :
   wpAny (model prog w) A (call (.type "zip") [.ref l1, .ref l2]) Q E s := by
 refine callType_new F.called_zip (by decide) (F.typeCall_zip_2 _ _) (F.newCall_zip_2 _ _) (fun obj => F.args_object_init_3 obj _ _) F.entry_zip_new (zipK_new b1 b2 l1 l2 xs ys) ⟨t1, t2, ?_⟩
 have y1 : (zk1 b1 b2 s.heap l1).objs.size = s.heap.objs.size + 1 := Heap.size_push ..
 have y2 : (zk2 b1 b2 s.heap l1 l2).objs.size = s.heap.objs.size + 2 := by rw [Heap.size_push, y1]
 have y3 : (zk3 b1 b2 s.heap l1 l2).objs.size = s.heap.objs.size + 3 := by rw [Heap.size_push, y2]
 have y4 : (zk4 b1 b2 s.heap l1 l2).objs.size = s.heap.objs.size + 4 := by rw [Heap.size_push, y3]
 have p5 : (zk5 b1 b2 s.heap l1 l2).get? (zk4 b1 b2 s.heap l1 l2).objs.size = some _ := Heap.get?_push_size _ rfl
 have p4 : (zk5 b1 b2 s.heap l1 l2).get? (zk3 b1 b2 s.heap l1 l2).objs.size = some _ := Heap.get?_push_of_some _ (Heap.get?_push_size _ rfl)
 have p3 : (zk5 b1 b2 s.heap l1 l2).get? (zk2 b1 b2 s.heap l1 l2).objs.size = some _ := Heap.get?_push_of_some _ (Heap.get?_push_of_some _ (Heap.get?_push_size _ rfl))
 have p2 : (zk5 b1 b2 s.heap l1 l2).get? (zk1 b1 b2 s.heap l1).objs.size = some _ := Heap.get?_push_of_some _ (Heap.get?_push_of_some _ (Heap.get?_push_of_some _ (Heap.get?_push_size _ rfl)))
 have p1 : (zk5 b1 b2 s.heap l1 l2).get? s.heap.objs.size = some _ := Heap.get?_push_of_some _ (Heap.get?_push_of_some _ (Heap.get?_push_of_some _ (Heap.get?_push_of_some _ (Heap.get?_push_size _ rfl))))
 show _ /\ _
 rw [y2, y3, y4] at p5
 rw [y1, y2] at p3
 rw [y3] at p4
 rw [y1] at p2
 rw [y4]
 exact ⟨⟨_, p5, rfl⟩, q _ p5 p3 p4 (itK p1) (itK p2) fun c o x => Heap.get?_push_of_some _ (Heap.get?_push_of_some _ (Heap.get?_push_of_some _ (Heap.get?_push_of_some _ (Heap.get?_push_of_some _ x))))⟩
end
theorem jJ {P : Program} {w : World} {H : Hp} {s : Shared} {b : Bool} (ok : HOk P w H s.heap) {a : Addr} {vs : List V} (h : H a = some (hoK b vs)) : ∃ its : List Value, Vals vs its /\ SqH b s.heap a its.toArray := by
 cases b with
 | true => exact DAts.tup_of ok h
 | false => exact DAts.lst_of ok h
theorem hoK_inj {b : Bool} {xs ys : List V} (h : hoK b xs = hoK b ys) : xs = ys := by
 cases b with
 | true => exact HO.tup.inj h
 | false => exact HO.lst.inj h
def Itk (b1 b2 : Bool) (a b : Addr) : It :=
 ⟨fun i H => ∃ xs ys x y, H a = some (hoK b1 xs) /\ H b = some (hoK b2 ys) /\ xs[i]? = some x /\ ys[i]? = some y,
  fun i H v H' => ∃ p x y, v = .ref p /\ H p = none /\ H' = upd H p (.tup [x, y]) /\ ∀ xs ys, H a = some (hoK b1 xs) -> H b = some (hoK b2 ys) -> xs[i]? = some x /\ ys[i]? = some y,
  fun i H => ∃ xs ys, H a = some (hoK b1 xs) /\ H b = some (hoK b2 ys) /\ (xs.length <= i \/ ys.length <= i)⟩
def Zak (b1 b2 : Bool) (z TI TO i1 i2 l1 l2 : Addr) (i : Nat) (h : Heap) : Prop :=
 IsZip h z TI TO .none /\ IsPair h TI (.ref i1) (.ref i2) /\ (∃ a b, IsPair h TO a b) /\ SqI b1 h i1 l1 i /\ SqI b2 h i2 l2 i
theorem turn_zipK {b1 b2 : Bool} {P : Program} {w : World} {K : PySem.W.Frag} {elts : List Expr} {cx : _} {tp : Pos} (z TI TO i1 i2 l1 l2 : Addr) (nd : [z, TI, TO, i1, i2].Nodup) :
   Turn P w K (.Tuple elts cx tp) (Itk b1 b2 l1 l2) [z, TI, TO, i1, i2] z (Zak b1 b2 z TI TO i1 i2 l1 l2) where
 mem := by simp
 obj := fun i h st b hb => by
   obtain ⟨gz, gI, ⟨a, c, gO⟩, r1, r2⟩ := st
   simp only [List.mem_cons, List.not_mem_nil, or_false] at hb
   rcases hb with rfl | rfl | rfl | rfl | rfl
   · exact ⟨_, gz, fun v e => by cases e⟩
   · exact ⟨_, gI, fun v e => by cases e⟩
   · exact ⟨_, gO, fun v e => by cases e⟩
   · exact r1.obj
   · exact r2.obj
 keep := fun i h h' st k => by
   obtain ⟨gz, gI, ⟨a, c, gO⟩, r1, r2⟩ := st
   exact ⟨k _ (by simp) _ gz, k _ (by simp) _ gI, ⟨a, c, k _ (by simp) _ gO⟩, r1.keep fun o e => k _ (by simp) _ e, r2.keep fun o e => k _ (by simp) _ e⟩
 item := by
   intro X hP hw hK hc i pins s σ H E I hf st hg
   subst hP hw hK
   obtain ⟨xs, ys, x, y, ha, hb, hx, hy⟩ := hg
   obtain ⟨its1, rv1, t1⟩ := jJ I.hok ha
   obtain ⟨its2, rv2, t2⟩ := jJ I.hok hb
   obtain ⟨u, hu, ru⟩ := rv1.get hx
   obtain ⟨v, hv, rw'⟩ := rv2.get hy
   obtain ⟨gz, gI, ⟨a, c, gO⟩, r1, r2⟩ := st
   have out : ∀ {l : Addr} {o : HO}, H l = some o -> ∀ b ∈ [z, TI, TO, i1, i2], l ≠ b := fun e b hb z => by rw [z, (hf b hb).1] at e; cases e
   have ap : Apt z TI TO i1 i2 l1 l2 := ⟨nd, ⟨out ha _ (by simp), out ha _ (by simp), out ha _ (by simp), out ha _ (by simp)⟩, out hb _ (by simp), out hb _ (by simp), out hb _ (by simp), out hb _ (by simp)⟩
   have hT : s.TypeIs (.ref z) "zip" := ⟨_, gz, rfl⟩
   obtain ⟨⟨n1, n2, n3, n4⟩, ⟨n5, n6, n7⟩, ⟨n8, n9⟩, n10⟩ := ap.ne
   unfold pyNext
   refine wpAny_bind (wpAny_attempt (wpAny_callSpecial?_slot (name := Str.ofString "__next__") hT F.slot_zip_next (wpAny_call_entry F.slot_zip_next hT F.entry_zip_next
     (zipK_item ap gz gI gO r1 r2 t1 t2 (by simpa using hu) (by simpa using hv) fun h1 b1 b2 b3 b4 b5 b6 b7 => wpAny_pure ?_) (F.args_zip_next_1 _))))
   refine ⟨_, rfl, wpAny_letOwnedTupleGo_zip (s := { s with heap := h1 }) b1 fun h2 g2 s2 => ?_⟩
   have big : ∀ b ∈ [z, TI, TO, i1, i2], b < s.heap.objs.size := fun b hb => by
     simp only [List.mem_cons, List.not_mem_nil, or_false] at hb
     rcases hb with rfl | rfl | rfl | rfl | rfl
     · exact Heap.lt_size gz
     · exact Heap.lt_size gI
     · exact Heap.lt_size gO
     · obtain ⟨_, e, _⟩ := r1.obj; exact Heap.lt_size e
     · obtain ⟨_, e, _⟩ := r2.obj; exact Heap.lt_size e
   have nz : s.heap.objs.size ≠ z := Nat.ne_of_gt (big z (by simp))
   have keep2 : ∀ b o, b ∉ [z, TO, i1, i2] -> s.heap.get? b = some o -> h2.get? b = some o := fun b o hb e => by
     simp only [List.mem_cons, List.not_mem_nil, or_false, not_or] at hb
     exact s2.extBut b o hb.1 (b7 b o hb.1 hb.2.1 hb.2.2.1 hb.2.2.2 e)
   have hfr : H s.heap.objs.size = none := I.hok.fresh (Nat.le_refl _)
   have hfr2 : ∀ b ∈ [z, TO, i1, i2], jU X pins H b := fun b hb => hf b (by simp only [List.mem_cons, List.not_mem_nil, or_false] at hb ⊢; rcases hb with h | h | h | h <;> simp [h])
   have gT : IsPair h2 s.heap.objs.size u v := s2.extBut _ _ nz b5
   refine ⟨.ref s.heap.objs.size, _, I.turnedN (t' := s.toks) (p := s.heap.objs.size) (o := .tup [x, y]) keep2 hfr2 (Nat.le_refl _) ⟨zO (by simp), [u, v], .cons ru (.cons rw' .nil), ⟨_, gT, rfl, _, rfl⟩⟩, rfl, ⟨_, x, y, rfl, hfr, rfl, fun xs' ys' e1 e2 => ?_⟩, ?_, fun b hb => ?_⟩
   · rw [ha] at e1
     rw [hb] at e2
     cases hoK_inj (Option.some.inj e1)
     cases hoK_inj (Option.some.inj e2)
     exact ⟨hx, hy⟩
   · refine ⟨g2, s2.extBut _ _ (Ne.symm n1) (b7 _ _ (Ne.symm n1) n5 n6 n7 gI), ⟨_, _, s2.extBut _ _ (Ne.symm n2) b2⟩, b3.keep fun o e => s2.extBut _ _ (Ne.symm n3) e, b4.keep fun o e => s2.extBut _ _ (Ne.symm n4) e⟩
   · rw [zE (Nat.ne_of_lt (big b hb))]
     exact (hf b hb).1
 done := by
   intro X hP hw hK hc i pins s σ H E I hf st hg
   subst hP hw hK
   obtain ⟨xs, ys, ha, hb, hl⟩ := hg
   obtain ⟨its1, rv1, t1⟩ := jJ I.hok ha
   obtain ⟨its2, rv2, t2⟩ := jJ I.hok hb
   have k1 := rv1.length
   have k2 := rv2.length
   obtain ⟨gz, gI, ⟨a, c, gO⟩, r1, r2⟩ := st
   have out : ∀ {l : Addr} {o : HO}, H l = some o -> ∀ b ∈ [z, TI, TO, i1, i2], l ≠ b := fun e b hb z => by rw [z, (hf b hb).1] at e; cases e
   have ap : Apt z TI TO i1 i2 l1 l2 := ⟨nd, ⟨out ha _ (by simp), out ha _ (by simp), out ha _ (by simp), out ha _ (by simp)⟩, out hb _ (by simp), out hb _ (by simp), out hb _ (by simp), out hb _ (by simp)⟩
   have hT : s.TypeIs (.ref z) "zip" := ⟨_, gz, rfl⟩
   unfold pyNext
   refine wpAny_bind (wpAny_attempt (wpAny_callSpecial?_slot (name := Str.ofString "__next__") hT F.slot_zip_next (wpAny_call_entry F.slot_zip_next hT F.entry_zip_next
     (zipK_end (I.ok.hd hc) ap gz gI gO r1 r2 t1 t2 (by simp; omega) fun h1 e kk he => ?_) (F.args_zip_next_1 _))))
   obtain ⟨o, ge, gc⟩ := he
   refine wpAny_bind (wpAny_isInstance (T := "StopIteration") (b := true) ⟨o, ge, gc⟩ isSubtype_stop (wpAny_pure ⟨rfl, ?_⟩))
   refine I.turnedL (ch := [z, TO, i1, i2]) (t' := s.toks) (fun b o hb e => ?_) (fun b hb => hf b (by simp only [List.mem_cons, List.not_mem_nil, or_false] at hb ⊢; rcases hb with h | h | h | h <;> simp [h]))
   simp only [List.mem_cons, List.not_mem_nil, or_false, not_or] at hb
   exact kk b o hb.1 hb.2.1 hb.2.2.1 hb.2.2.2 e
 self := fun _ _ _ _ _ st h => wpAny_pyIter_zip st.1 h
section
variable {X : Cx}
def iZipK (ta : TA) : TI := fun σ H R => ta σ H fun vs H1 => ∃ (b1 b2 : Bool) (a b : Addr) (xs ys : List V), vs = [.ref a, .ref b] /\ H1 a = some (hoK b1 xs) /\ H1 b = some (hoK b2 ys) /\ R (Itk b1 b2 a b) H1
theorem pi_zipK {elts : List Expr} {cx : _} {tp : Pos} {a b : Expr} {ta : TA} {p pos : Pos} (hg : Gl X "zip") (hm : X.mg "zip" = none) (ha : PA X [a, b] ta) (hs : starEach [a, b] X.env = [(false, eval a X.env), (false, eval b X.env)] := by rfl) (hs2 : starEach [b] X.env = [(false, eval b X.env)] := by rfl) :
   PI X (.Tuple elts cx tp) (.Call (.Name "zip" p) [a, b] [] pos) (iZipK ta) := by
 intro pins s σ H R I h
 refine Call_ (qI I hg hm boot_zip (PyProof.Rows.callWith_type1 (thn (ha pos pins s σ H _ I h) fun us s1 ⟨vs, H1, I1, r1, q1⟩ => ?_) (by rw [hs, hs2]) (by rw [hs2]; rfl)))
 obtain ⟨b1, b2, l1, l2, xs, ys, e, h1, h2, q⟩ := q1
 subst e
 cases r1 with
 | cons r rr =>
   cases rr with
   | cons r' rr =>
     cases rr
     cases r
     cases r'
     obtain ⟨its1, rv1, t1⟩ := jJ I1.hok h1
     obtain ⟨its2, rv2, t2⟩ := jJ I1.hok h2
     refine call_zipK t1 t2 fun h' gz gI gO g1 g2 kk => ?_
     refine wpAny_pyIter_zip (s := { s1 with heap := h' }) gz ?_
     have fr : ∀ b, s1.heap.objs.size <= b -> jU X pins H1 b := fun b hb => I1.fpOk hb (I1.hok.fresh hb)
     refine ⟨_, [s1.heap.objs.size + 4, s1.heap.objs.size + 2, s1.heap.objs.size + 3, s1.heap.objs.size, s1.heap.objs.size + 1], _, _, H1, rfl, I1.kept (t' := s1.toks) kk, turn_zipK _ _ _ _ _ l1 l2 (by simp), ⟨gz, gI, ⟨_, _, gO⟩, g1, g2⟩, fun b hb => ?_, q⟩
     simp only [List.mem_cons, List.not_mem_nil, or_false] at hb
     rcases hb with rfl | rfl | rfl | rfl | rfl <;> exact fr _ (by omega)
end
end L2
set_option maxHeartbeats 4000000
namespace L2
open PySem PySem.Spec PyProof.Rows
theorem ObjOk.there {P : Program} {w : World} {H : Hp} {h : Heap} {a : Addr} {o : HO} (x : ObjOk P w H h a o) : ∃ ob, h.get? a = some ob := by
 cases o with
 | lst xs => obtain ⟨_, _, _, _, e⟩ := x; exact ⟨_, e⟩
 | tup xs => obtain ⟨_, _, _, ob, e, _⟩ := x; exact ⟨_, e⟩
 | dK kvs => obtain ⟨_, _, _, _, o, _, _, e, _⟩ := x; exact ⟨_, e⟩
 | dT kvs => obtain ⟨_, _, _, _, o, _, _, e, _⟩ := x; exact ⟨_, e⟩
 | set S n => obtain ⟨o, _, _, _, e, _⟩ := x; exact ⟨_, e⟩
 | ins C dx fs => obtain ⟨_, _, _, e, _⟩ := x; exact ⟨_, e⟩
 | own y => exact x
 | xd fs => obtain ⟨_, ⟨_, _, _, e, _⟩, _⟩ := x; exact ⟨_, e⟩
 | rng lo hi => obtain ⟨_, _, _, e⟩ := x; exact ⟨_, e⟩
 | frz ob u => obtain ⟨e, _⟩ := x; exact ⟨_, e⟩
 | tbl ps => exact ⟨_, show h.get? a = some _ from x⟩
 | met f y => exact ⟨_, show h.get? a = some _ from x⟩
 | ext φ => obtain ⟨_, e, _⟩ := x; exact e
structure Fl (P : Program) (w : World) (l : List Env) (H : Hp) (h : Heap) (e C : Addr) (a0 : Value) (B : Heap) (H' : Hp) (h' : Heap) : Prop where
 fly : Heap.FlyingW B l e (.ref C) a0 h'
 stay : ∀ b o, h.get? b = some o -> b ∉ frs l -> ∃ o', B.get? b = some o' /\ (H b = none -> o' = o)
 slot : ∀ b o, h.get? b = some o -> H b = none -> b ∈ frs l -> ∃ sl, h'.get? b = some { o with slots := sl }
 free : ∀ b o, h.get? b = some o -> H b = none -> H' b = none
 hok : HOk P w H' B
 ef : H' e = none
 tups : ∀ b xs, H b = some (.tup xs) -> H' b = some (.tup xs)
 frzs : ∀ b o u, H b = some (.frz o u) -> H' b = some (.frz o u)
 tbls : ∀ b ps, H b = some (.tbl ps) -> ∃ more, H' b = some (.tbl (ps ++ more))
section
variable {P : Program} {w : World} {l outer : List Env} {H H' : Hp} {h h' h'' B : Heap} {e C : Addr} {a0 : Value}
theorem Fl.un (x : Fl P w l H h e C a0 B H' h') : Un (frs l) [] H H' h h' where
 keep := fun b o q n hb _ => by
   obtain ⟨o', hB, ho⟩ := x.stay b o q hb
   rw [ho n] at hB
   exact x.fly.1 b o hB
 slot := fun b o q n hb _ => x.slot b o q n hb
 free := fun b o q n _ => x.free b o q n
 there := fun b o q _ => by
   by_cases hb : b ∈ frs l
   · obtain ⟨_, o', ho, _⟩ := x.fly.2.2.1.mem hb
     exact ⟨o', ho⟩
   · obtain ⟨o', hB, _⟩ := x.stay b o q hb
     exact ⟨o', x.fly.1 b o' hB⟩
 tups := x.tups
 frzs := x.frzs
 tbls := x.tbls
theorem Fl.okH (x : Fl P w l H h e C a0 B H' h') : HOk P w H' h' := x.hok.kept x.fly.1
theorem Fl.step (x : Fl P w l H h e C a0 B H' h') (f : Heap.FlyingW B l e (.ref C) a0 h'') (u : h'.UpToSlots h'') : Fl P w l H h e C a0 B H' h'' :=
 ⟨f, x.stay, fun b o q n hb => by
   obtain ⟨sl, h1⟩ := x.slot b o q n hb
   obtain ⟨_, o2, h2, hd⟩ := x.fly.2.2.1.mem hb
   rw [h1] at h2
   cases h2
   obtain ⟨sl2, h4⟩ := u b _ h1 hd
   exact ⟨sl2, h4⟩, x.free, x.hok, x.ef, x.tups, x.frzs, x.tbls⟩
end
def CX1 (P : Program) (w : World) : CXT := fun outer H s E e s' => ∃ (ea C : Addr) (a0 : Value) (B : Heap) (H' : Hp), e = .ref ea /\ s'.os = s.os /\ AllBare s'.gens /\ Fl P w outer H s.heap ea C a0 B H' s'.heap /\ E (.ref C) none H'
structure Body (X : Cx) : Prop where
 stk : X.stack = X.env :: X.outer
 ex : X.ex = []
 fr : X.env.frame = some X.env.locals
 new : X.s₀.heap.get? X.env.locals = none
section
variable {X : Cx} {pins : List (Addr × Obj)} {σ : St} {H Hc H' : Hp} {s sc s' : Shared} {B h'' : Heap} {e C : Addr} {a0 : Value}
theorem Body.frs (b : Body X) : frs X.stack = X.env.locals :: L2.frs X.outer := by
 rw [b.stk]
 show (X.env :: X.outer).filterMap (·.frame) = _
 rw [List.filterMap_cons, b.fr]
 rfl
theorem Fl.made (b : Body X) (I : Inv X pins σ H s) {vs : List Value} {t : Addr} (hx : Heap.MadeExcOf s.heap s'.heap e (.ref C) vs)
   (f : Heap.FlyingW (PySem.W.hideAll s.heap (L2.frs X.stack)) X.outer e (.ref C) (.ref t) h'') (u : s'.heap.UpToSlots h'') :
   Fl X.prog X.w X.outer X.H₀ X.s₀.heap e C (.ref t) (PySem.W.hideAll s.heap (L2.frs X.stack)) H h'' := by
 have nex : ∀ c : Addr, c ∉ X.ex := fun c z => by rw [b.ex] at z; cases z
 have nL : ∀ c o, X.s₀.heap.get? c = some o -> c ≠ X.env.locals := fun c o hc z => by rw [z, b.new] at hc; cases hc
 have ok : HOk X.prog X.w H (PySem.W.hideAll s.heap (L2.frs X.stack)) := fun a o ha => by
   refine (I.hok a o ha).stay (fun c v hc q => PySem.W.hideAll_get _ q fun z => ?_) (fun _ q => q) (fun _ _ q => q)
   have hz := I.stkFree c z
   rcases hc with rfl | hc
   · rw [ha] at hz; cases hz
   · rw [hc] at hz; cases hz
 refine ⟨f, fun c o hc hn => ?_, fun c o hc hH hn => ?_, fun c o hc hH => I.base.free c o hc hH (nex c), ok, ?_, I.base.tups, I.base.frzs, I.base.tbls⟩
 · obtain ⟨o1, h1⟩ := I.base.there c o hc (nex c)
   refine ⟨o1, PySem.W.hideAll_get _ h1 (by rw [b.frs]; exact fun z => (List.mem_cons.mp z).elim (nL c o hc) hn), fun hH => ?_⟩
   have h2 := I.base.keep c o hc hH hn (nex c)
   rw [h1] at h2
   cases h2
   rfl
 · obtain ⟨sl, h1⟩ := I.base.slot c o hc hH hn (nex c)
   have hm : c ∈ L2.frs X.stack := by rw [b.frs]; exact List.mem_cons_of_mem _ hn
   obtain ⟨_, o2, h3, hd⟩ := I.stack.mem hm
   rw [h1] at h3
   cases h3
   obtain ⟨sl3, h4⟩ := u c _ (hx.keeps c _ h1) hd
   exact ⟨sl3, h4⟩
 · cases q : H e with
   | none => rfl
   | some o =>
     obtain ⟨o', ho⟩ := (I.hok e o q).there
     rw [hx.new] at ho
     cases ho
end
section
variable {P : Program} {w : World} {K : PySem.W.Frag} {mg : Str -> Option Value} {base : Heap} {N : List Str} {qual : Str} {scope : Scope} {f : Addr} {cd : Value} {A : Around} {outer : List Env} {s₀ : Shared} {H₀ : Hp} {E : XK}
theorem body_cx {CX : CXT} : Body (xL CX P w K mg base N qual scope f cd A outer s₀ H₀ E) := ⟨rfl, rfl, rfl, Heap.get?_none_of_le (Nat.le_refl _)⟩
def tRaise (C : Addr) (E : XK) (t : TA) : TS := fun _ σ H => t σ H fun vs H1 => vs.length <= sizeLine /\ E (.ref C) none H1
theorem ps_raise {x : Str} {C : Addr} {bm : List Value} {B newId initId : String} {e₀ : Expr} {rest : List Expr} {t : TA} {np cpos pos : Pos}
   (O : OwnCls x C bm newId mg base) (FB : ExcBaseFacts B newId initId bm) (hg : Gl (xL (CX1 P w) P w K mg base N qual scope f cd A outer s₀ H₀ E) x) (hm : mg x = some (.ref C))
   (ha : PA (xL (CX1 P w) P w K mg base N qual scope f cd A outer s₀ H₀ E) (e₀ :: rest) t)
   (he : starEach (e₀ :: rest) (envOfC qual scope s₀.heap.objs.size f cd) = (false, eval e₀ (envOfC qual scope s₀.heap.objs.size f cd)) :: starEach rest (envOfC qual scope s₀.heap.objs.size f cd) := by rfl)
   (hpl : (backTo cpos (starEach rest (envOfC qual scope s₀.heap.objs.size f cd))).any (·.1) = false := by rfl) (hd : (x == ("__debug__" : Str)) = false := by decide) :
   PS (xL (CX1 P w) P w K mg base N qual scope f cd A outer s₀ H₀ E) (.Raise (some (.Call (.Name x np) (e₀ :: rest) [] cpos)) none pos) (tRaise C E t) := by
 intro pins s σ H D I h
 obtain ⟨tl, N', nm, q, bs, hdct, sn, sub, ab, col, dd, k0, k1, k2, k3, k5, mN, hC, hN, hni, T⟩ := O.obj
 refine wpAny_Raise_call_subT (C := C) (nm := nm) (q := q) (N := N') (bs := bs) (bm := tl) (hdct := hdct) (sn := sn) (sub := sub) (ab := ab) (col := col) (dd := dd) (k0 := k0) (k1 := k1) (k2 := k2)
   (k3 := k3) (k5 := k5) FB (mN := mN) (T.hasType FB.hasBase) (I.ok.hd rfl) ?_ hni (xY I hg hm ⟨rfl, ?_⟩ hd)
 · show (backTo cpos (starEach (e₀ :: rest) (envOfC qual scope s₀.heap.objs.size f cd))).any (·.1) = false
   rw [he]
   show (false || (backTo cpos (starEach rest (envOfC qual scope s₀.heap.objs.size f cd))).any (·.1)) = false
   rw [hpl]
   rfl
 have hA : wpAny (model P w) (A.deeper (envOfC qual scope s₀.heap.objs.size f cd)) (spliced (backTo cpos (starEach (e₀ :: rest) (envOfC qual scope s₀.heap.objs.size f cd)))) _ _ s := ha cpos pins s σ H _ I h
 show wpAny (model P w) (A.deeper (envOfC qual scope s₀.heap.objs.size f cd)) (evalArgs (.ref C) true (backTo cpos (starEach (e₀ :: rest) (envOfC qual scope s₀.heap.objs.size f cd))) []) _ _ s
 rw [he] at hA ⊢
 refine Calls.evalArgs_plain (wpAny_mono hA (fun us s2 z => ?_) fun _ _ y => y)
 obtain ⟨vs, H1, I1, r, hl, hE⟩ := z
 refine ⟨rfl, by rw [← r.length]; exact hl, I1.bk _ _ hC, hN.keeps I1.bk, T.keeps I1.bk, fun h' e hm => ?_⟩
 refine wpAny_leaves_madeW (base := PySem.W.hideAll s2.heap (frs (envOfC qual scope s₀.heap.objs.size f cd :: outer))) (h := s2.heap) I1.ok.frames rfl (fun b o q => PySem.W.of_hideAll _ q)
   (PySem.W.funFrames_hide I1.stack fun env he b hb => List.mem_filterMap.mpr ⟨env, he, hb⟩) hm fun h2 t f1 _ _ u1 => ?_
 exact ⟨e, C, .ref t, _, H1, rfl, I1.os, I1.bare, Fl.made (s' := { s2 with heap := h' }) body_cx I1 hm f1 u1, hE⟩
end
section
variable {P : Program} {w : World} {K : PySem.W.Frag} {mg : Str -> Option Value} {base : Heap}
theorem Fun.okX {x qual : Str} {st : Stmt} {f : Addr} {fd : FuncData} {N ps : List Str} {k : Nat} {sp : Sp} (F : Fun K x qual st f fd) (S : FnScope N ps (zH st)) (len : ∀ vs H Q E, sp vs H Q E -> vs.length = ps.length)
   (hbody : ∀ (cdv : Value) (A : Around) (outer : List Env) (s : Shared) (H : Hp) (vs : List V) (Q : VK) (E : XK), Room k (A.deeper (envOfC qual (zH st) s.heap.objs.size f cdv)) -> sp vs H Q E ->
     ∃ t, PSs (xL (CX1 P w) P w K mg base N qual (zH st) f cdv A outer s H E) (zS st) t /\ t { nx := fun _ H' => Q .non H', rt := Q } (start N vs) H) : FnOk P w K mg base (CX1 P w) (k + 1) f fd ps sp := by
 obtain ⟨oc, od, kV, doc, pm, an, cdv, ct, osl, rfl, lk, hcd⟩ := F.ex
 exact fn_of lk hcd S len fun A outer s H vs Q E hr hsp => hbody cdv A outer s H vs Q E hr hsp
structure HasX (P : Program) (w : World) (K : PySem.W.Frag) (mg : Str -> Option Value) (base : Heap) (k : Nat) (x : Str) (ps : List Str) (sp : Sp) : Prop where
 ex : ∃ f fd, FnOk P w K mg base (CX1 P w) k f fd ps sp /\ Binds K fd ps [] /\ PySem.W.keepIn K (.ref f) = true /\ mg x = some (.ref f)
end
abbrev TX := (St -> Hp -> Prop) -> (Addr -> Hp -> Prop) -> St -> Hp -> Prop
def XP (X : Cx) (pins : List (Addr × Obj)) (σ : St) (Qx : Addr -> Hp -> Prop) (e : Value) (s' : Shared) : Prop :=
 ∃ (Hc : Hp) (sc : Shared) (ea C : Addr) (a0 : Value) (B : Heap) (H' : Hp), e = .ref ea /\ Inv X pins σ Hc sc /\ s'.os = sc.os /\ AllBare s'.gens /\ Fl X.prog X.w X.stack Hc sc.heap ea C a0 B H' s'.heap /\ Qx C H'
def PX (X : Cx) (st : List Stmt) (t : TX) : Prop :=
 ∀ (pins : List (Addr × Obj)) (s : Shared) (σ : St) (H : Hp) (Qn : St -> Hp -> Prop) (Qx : Addr -> Hp -> Prop), Inv X pins σ H s -> t Qn Qx σ H ->
   wpAny (model X.prog X.w) X.A (execs st X.env) (fun f s1 => f = .next /\ ∃ σ' H', Inv X pins σ' H' s1 /\ Qn σ' H') (XP X pins σ Qx) s
section
variable {X : Cx} {k : Nat} {f : Addr} {fd : FuncData} {ps : List Str} {sp : Sp} {x y : Str} {i : Nat} {p pos pos' pos2 : Pos} {e : Expr} {es : List Expr} {t : TA}
end
def xO (e C : Addr) : HO := .ext fun h => ∃ o vs, h.get? e = some o /\ o.cls = .ref C /\ o.data = .fields vs
abbrev Cx.held (X : Cx) (e : Addr) : Cx := { X with A := X.A.mark (some (.ref e)), calm := false }
section
variable {X : Cx} {pins : List (Addr × Obj)} {σ : St} {H : Hp} {s : Shared}
theorem Inv.held (I : Inv X pins σ H s) (e : Addr) : Inv (X.held e) pins σ H s :=
 ⟨⟨I.ok.mod, I.ok.kind, I.ok.glob, I.ok.blt, I.ok.above, I.ok.inj, I.ok.has, I.ok.cab, (fun z => nomatch z), I.ok.frames, I.ok.stk, I.ok.exf, I.ok.bs, I.ok.bsz, I.ok.noex, I.ok.exfs, I.ok.funs, I.ok.frf⟩, I.os, I.bare, I.base, I.loc, I.cell, I.free, I.freeC, I.pin, I.hok, I.len⟩
theorem Inv.unheld {e : Addr} (ok : X.Ok) (I : Inv (X.held e) pins σ H s) : Inv X pins σ H s := ⟨ok, I.os, I.bare, I.base, I.loc, I.cell, I.free, I.freeC, I.pin, I.hok, I.len⟩
theorem Inv.gone {i : Nat} {x : Str} {M : Model} {A : Around} {E : Value -> Shared -> Prop} {pos : Pos} {Q : Unit -> Shared -> Prop} (I : Inv X pins σ H s) (hN : X.N.Nodup) (hi : X.N[i]? = some x) (hk : X.env.scope.names.lookup x = some .local)
   (h : ∀ s', Inv X pins (σ.set i none) H s' -> Q () s') : wpAny M A (do bindName X.env x .none; unbindBehindTheSuite X.env x pos) Q E s := by
 obtain ⟨m, hn, hl⟩ := id I.loc
 have hcls : (X.env.scope.kind == .class || (X.env.scope.kind == .module && X.env.locals != X.env.globals)) = false := by rw [I.ok.kind]; rfl
 have hiσ : i < σ.length := by rw [I.len]; exact (List.getElem?_eq_some_iff.mp hi).1
 have cne := I.cne
 have neL : ∀ b o, X.s₀.heap.get? b = some o -> b ≠ X.env.locals := fun b o e => Nat.ne_of_lt (Nat.lt_of_lt_of_le (Heap.lt_size e) I.ok.above)
 refine wpAny_nameGoes_keeps hk hn hcls fun h' v hn' hs => ?_
 have ok : HOk X.prog X.w H h' := fun b ob e => by
   refine (I.hok b ob e).stay (fun c w' hc q => (hs.2 c ?_).trans q) (fun _ q => q) fun _ _ q => q
   rintro rfl
   have := I.free
   rcases hc with rfl | hc
   · rw [this] at e; cases e
   · rw [this] at hc; cases hc
 refine h _ ⟨I.ok, I.os, I.bare, ⟨fun b o e n hb hx => (hs.2 b (neL b o e)).trans (I.base.keep b o e n hb hx), fun b o e n hb hx => ?_, I.base.free, fun b o e hx => ?_, I.base.tups, I.base.frzs, I.base.tbls⟩, ⟨_, hn', fun j y v' e1 e2 e3 => ?_⟩, fun y c e => ?_, I.free, I.freeC, fun p hp => ?_, ok, by simpa using I.len⟩
 · obtain ⟨sl, e1⟩ := I.base.slot b o e n hb hx
   exact ⟨sl, (hs.2 b (neL b o e)).trans e1⟩
 · obtain ⟨o', e1⟩ := I.base.there b o e hx
   exact ⟨o', (hs.2 b (neL b o e)).trans e1⟩
 · by_cases hj : j = i
   · subst hj
     rw [List.getElem?_set_self hiσ] at e2
     cases e2
   · rw [List.getElem?_set_ne (Ne.symm hj)] at e2
     obtain ⟨u', r', q⟩ := hl j y v' e1 e2 e3
     refine ⟨u', r', ?_⟩
     rcases q with ⟨k, e⟩ | ⟨k, c, e, z⟩
     · refine .inl ⟨k, ?_⟩
       have : y ≠ x := fun e => hj (qH hN e1 (e ▸ hi))
       simp [this, e]
     · exact .inr ⟨k, c, e, z.sameBut hs (cne y c e)⟩
 · obtain ⟨w', z⟩ := I.cell y c e
   exact ⟨w', z.sameBut hs (cne y c e)⟩
 · obtain ⟨e, n, ne, nf, d⟩ := I.pin p hp
   exact ⟨(hs.2 p.1 ne).trans e, n, ne, nf, d⟩
end
def qA (K : PySem.W.Frag) (C : Addr) (v : Value) : Option Bool :=
 if PySem.W.ktsIn K C "BaseException" = true then
   match K.lookup C with
   | some ⟨_, _, .cls k, _⟩ => some (k.mro.contains v)
   | _ => none
 else none
theorem xSub_of {K : PySem.W.Frag} {h : Heap} {C : Addr} {v : Value} {b : Bool} (X : K.In h) (q : qA K C v = some b) : ∃ nm qn N bs bm hdct sn sub ab col dd k0 k1 k2 k3 k5 newId,
   h.get? C = some (excClassObj nm qn C N bs bm hdct sn sub ab col dd k0 k1 k2 k3 k5 newId) /\ bm.contains (.type "BaseException") = true /\ (Value.ref C :: bm).contains v = b := by
 unfold qA at q
 split at q
 · rename_i hk
   obtain ⟨nm, qn, N, bs, bm, hdct, sn, sub, ab, col, dd, k0, k1, k2, k3, k5, newId, hC, hB, _⟩ := PySem.W.kts_cls X hk
   refine ⟨nm, qn, N, bs, bm, hdct, sn, sub, ab, col, dd, k0, k1, k2, k3, k5, newId, hC, hB, ?_⟩
   split at q
   · rename_i ho
     have z := (X _ _ ho).symm.trans hC
     simp only [Option.some.injEq, Obj.mk.injEq, Data.cls.injEq] at z
     obtain ⟨_, _, rfl, _⟩ := z
     exact Option.some.inj q
   · cases q
 · cases q
section
variable {M : Model} {A : Around} {E : Value -> Shared -> Prop}
variable {nm q nm' q' : Str} {C N D N' : Addr} {bs bm bs' bm' : List Value} {hdct hdct' : Bool} {sn sn' : List Str} {sub sub' : List Value} {ab ab' : Bool} {col col' : Option Bool} {dd dd' : Option Addr} {k0 k1 k2 k3 k5 j0 j1 j2 j3 j5 : Option Value} {newId newId' : String}
theorem match_own {h : Heap} {g : Array GenState} {d : Drawn} {t : Nat} {os : OsState} {e : Addr} {oe : Obj} {Q : Bool -> Shared -> Prop} {b : Bool}
   (hC : h.get? C = some (excClassObj nm q C N bs bm hdct sn sub ab col dd k0 k1 k2 k3 k5 newId)) (hD : h.get? D = some (excClassObj nm' q' D N' bs' bm' hdct' sn' sub' ab' col' dd' j0 j1 j2 j3 j5 newId'))
   (he : h.get? e = some oe) (hcls : oe.cls = .ref C) (hbase : bm'.contains (.type "BaseException") = true) (hb : (Value.ref C :: bm).contains (.ref D) = b) (hq : Q b ⟨h, g, d, t, os⟩) :
   wpAny M A (excMatches (.ref e) (.ref D)) Q E ⟨h, g, d, t, os⟩ := by
 have hDB : (Value.ref D :: bm').contains (.type "BaseException") = true := by rw [List.contains_cons, hbase, Bool.or_true]
 have fT := tc_notTuple
 unfold excMatches
 repeat (first
   | (with_reducible refine wpAny_loadPart_at he ?_
      rw [hcls])
   | with_reducible refine wpAny_loadPart_at hD ?_
   | (with_reducible refine wpAny_isSubtype_exc hD ?_
      rw [hDB])
   | (with_reducible refine wpAny_isSubtype_exc hC ?_
      rw [hb])
   | wp_step)
 cases b <;> (wp_walk; exact hq)
end
theorem own_mk {K : PySem.W.Frag} {h : Heap} {mg : Str -> Option Value} {x : Str} {C : Addr} {bmB : List Value} {newId : String} (X : K.In h) (hm : mg x = some (.ref C)) (q : PySem.W.excIn K C bmB newId = true) : OwnCls x C bmB newId mg h := by
 refine ⟨hm, ?_⟩
 unfold PySem.W.excIn at q
 split at q
 rotate_left
 · cases q
 rename_i dict klass slots look
 split at q
 rotate_left
 · cases q
 rename_i C2 tail a0 a1 a2 a3 nid a5 em es
 simp only [beq_iff_eq, Bool.and_eq_true, Bool.not_eq_true'] at q
 obtain ⟨⟨⟨⟨⟨e1, e2⟩, e3⟩, e4⟩, e5⟩, e6⟩ := q
 subst e1 e2
 obtain ⟨nm, bs, mro, ns, qn, hd, sn, sub, ab, col, del⟩ := klass
 obtain ⟨l⟩ := slots
 dsimp only at em es e3 e5 e6
 subst em e3 es
 exact ⟨tail, ns, nm, qn, bs, hd, sn, sub, ab, col, dict, a0, a1, a2, a3, a5, _, X _ _ look, .of_isNs (PySem.W.isNs_of_in X e5),
   PySem.W.nsMap_none_of_in X e5 e6, PySem.W.tail_of_in X e4⟩
section
variable {X : Cx} {i : Nat} {y n : Str} {D₀ : Addr} {bD : Bool} {tb : TX} {th : TS} {body suite : List Stmt} {b₀ : Stmt} {np hpos pos : Pos}
def tTry (i : Nat) (cat : Addr -> Prop) (tb : TX) (th : TS) : TS := fun D σ H => tb D.nx (fun C H' => cat C /\ ∀ ea, H' ea = none ->
 th { nx := fun σ' H2 => D.nx (σ'.set i none) H2, rt := fun _ _ => False } (σ.set i (some (.ref ea))) (upd H' ea (xO ea C))) σ H
theorem ps_try (B : Body X) (hN : X.N.Nodup) (hi : X.N[i]? = some n) (hn : X.env.scope.names.lookup n = some .local) (hg : Gl X y) (hm : X.mg y = some (.ref D₀)) (hD : qA X.K D₀ (.type "BaseException") = some bD)
   (hxe : X.xe = fun _ _ => False) (hb : PX X body tb) (hh : ∀ ea, PSs (X.held ea) (b₀ :: suite) th) (hd : (y == ("__debug__" : Str)) = false := by decide) :
   PS X (.Try body [.ExceptHandler (some (.Name y np)) (some n) (b₀ :: suite) hpos] [] [] pos) (tTry i (fun C => qA X.K C (.ref D₀) = some true) tb th) := by
 intro pins s σ H D I h
 refine wpAny_Try_except (wpAny_mono (hb pins s σ H _ _ I h) (fun f s1 z => ?_) fun e s1 z => ?_)
 · obtain ⟨rfl, σ', H', I', q⟩ := z
   exact wpAny_execs_nil ⟨σ', H', I', q⟩
 obtain ⟨Hc, sc, ea, C, a0, Bs, H', rfl, Ic, os, bare, x, hcat, q⟩ := z
 have hfr : X.A.frames = some (X.env :: X.outer) := by rw [← B.stk]; exact I.ok.frames
 have hfl : Heap.FlyingW Bs (X.env :: X.outer) ea (.ref C) a0 s1.heap := by rw [← B.stk]; exact x.fly
 refine wpAny_looks_onW hfr B.fr hfl fun h4 held4 u4 => ?_
 refine wpAny_landsW held4 fun h5 fl5 u5 => ?_
 have x5 : Fl X.prog X.w X.stack Hc sc.heap ea C a0 Bs H' h5 := x.step (by rw [B.stk]; exact fl5) (u4.trans u5)
 have I5 : Inv X pins σ H' { s1 with heap := h5 } := Ic.call' (s' := { s1 with heap := h5 }) (ch := []) os x5.un x5.okH bare (fun b z => by cases z)
 refine wpAny_handleBy_cons (codeAny_handlers_test (xY (I5.held ea) hg hm ?_ hd)) (by intro q; cases q)
 obtain ⟨nm, qn, N, bs, bm, hdct, sn, sub, ab, col, dd, k0, k1, k2, k3, k5, newId, hC, hCB, hCc⟩ := xSub_of I5.kIn hcat
 obtain ⟨nm', qn', N', bs', bm', hdct', sn', sub', ab', col', dd', j0, j1, j2, j3, j5, newId', hD', hDB, _⟩ := xSub_of I5.kIn hD
 obtain ⟨ob, hob, hobc⟩ := x5.fly.there
 refine match_own hC hD' hob hobc hDB hCc ?_
 refine codeAny_handlers_suite_as (lands_againW fl5 fun h6 fl6 u6 => ?_)
 have x6 : Fl X.prog X.w X.stack Hc sc.heap ea C a0 Bs H' h6 := x5.step (by rw [B.stk]; exact fl6) u6
 have hsc : sc.heap.get? ea = none := by
   cases hq : sc.heap.get? ea with
   | none => rfl
   | some o =>
     by_cases hfm : ea ∈ frs X.stack
     · obtain ⟨_, o2, h2, hd2⟩ := x6.fly.2.2.1.mem hfm
       obtain ⟨oe, vs, _, _, _, h3, _, h4, _⟩ := x6.fly.2.2.2
       rw [h2] at h3
       cases h3
       exact absurd h4 (hd2 vs)
     · obtain ⟨o', hB, _⟩ := x6.stay ea o hq hfm
       rw [x6.fly.2.1] at hB
       cases hB
 have hup : ∀ b, b ≠ ea -> upd H' ea (xO ea C) b = H' b := fun b hb => zE hb
 have ok6 : HOk X.prog X.w (upd H' ea (xO ea C)) h6 := fun b ob e => by
   by_cases hb : b = ea
   · subst hb
     rw [zC] at e
     cases e
     obtain ⟨oe, vs, _, _, _, h3, hc3, h4, _⟩ := x6.fly.2.2.2
     exact ⟨⟨oe, vs, h3, hc3.1, h4⟩, ⟨oe, h3⟩, fun h1 h2 ⟨o, vs, z1, z2⟩ k => ⟨o, vs, k _ z1, z2⟩⟩
   · rw [zE hb] at e
     refine (x6.okH b ob e).stay (fun c v hc q => q) (fun c q => ?_) (fun c xs q => ?_)
     · rw [zE (fun z => by rw [z, x6.ef] at q; cases q)]; exact q
     · rw [zE (fun z => by rw [z, x6.ef] at q; cases q)]; exact q
 have un6 : Un (frs X.stack) [] Hc (upd H' ea (xO ea C)) sc.heap h6 := by
   have u := x6.un
   have nh : ∀ {c o}, H' c = some o -> c ≠ ea := fun {c o} q z => by rw [z, x6.ef] at q; cases q
   refine ⟨u.keep, u.slot, fun b o e hn hx => ?_, u.there, fun b xs e => ?_, fun b o v e => ?_, fun b ps e => ?_⟩
   · rw [zE (fun z => by rw [z, hsc] at e; cases e)]
     exact u.free b o e hn hx
   · have := u.tups b xs e
     rw [zE (nh this)]; exact this
   · have := u.frzs b o v e
     rw [zE (nh this)]; exact this
   · obtain ⟨more, this⟩ := u.tbls b ps e
     exact ⟨more, by rw [zE (nh this)]; exact this⟩
 have I6 : Inv X pins σ (upd H' ea (xO ea C)) { s1 with heap := h6 } := Ic.call' (s' := { s1 with heap := h6 }) (ch := []) os un6 ok6 bare (fun b z => by cases z)
 refine xU (X := X.held ea) (v := .ref ea) (u := .ref ea) (I6.held ea) hN hi (.inl hn) rfl (fun s7 I7 => ?_) (.inr hn)
 have hS := hh ea pins s7 _ _ _ I7 (q ea x6.ef)
 have hxe2 : (X.held ea).xe = fun _ _ => False := hxe
 rw [hxe2] at hS
 refine wpAny_mono hS (fun f s8 z => ?_) fun _ _ z => z.elim
 cases f with
 | next =>
   obtain ⟨σ8, H8, I8, q8⟩ := z
   exact (I8.unheld I.ok).gone hN hi hn fun s9 I9 => ⟨_, _, I9, q8⟩
 | brk => obtain ⟨_, _, _, z⟩ := z; exact z.elim
 | cont => obtain ⟨_, _, _, z⟩ := z; exact z.elim
 | ret u => obtain ⟨_, _, _, _, _, z⟩ := z; exact z.elim
end
end L2
set_option maxHeartbeats 1000000
namespace L2
open PySem PySem.Spec PyProof.Rows
structure XCls (K : PySem.W.Frag) (C : Addr) : Prop where
 cls : (PySem.W.clsIn K C).isSome = true
 ga : PySem.W.findIn K (.ref C) "__getattribute__" = some (some (.builtin "BaseException.__getattribute__"))
 hk : PySem.W.findIn K (.ref C) "__getattr__" = some none
 kl : PySem.W.findIn K (.ref C) "__class__" = some (some (.builtin "object.__class__"))
 sp : PySem.W.specialIn K (.builtin "object.__class__") "__get__" = some (some (.builtin "getset_descriptor.__get__"))
 tk : PySem.W.takesIn K (.builtin "object.__class__") = some true
 mo : PySem.W.mroIn K C (.type "object") = some true
 mb : PySem.W.mroIn K C (.type "BaseException") = some true
section
open Builtin Builtin.Getset_descriptor
variable {prog : Program} {w : World} {A : Around} {E : Value -> Shared -> Prop} {s : Shared} {K : PySem.W.Frag} {x C : Addr} {ox : Obj}
theorem looks_xfind {M : Model} {h : Heap} (X : K.In h) (c : XCls K C) : PySem.W.Looks M h (Builtin.ObjectAttr.find (.ref x) (.ref C) "__class__") (.bind (.builtin "getset_descriptor.__get__") (.builtin "object.__class__")) := by
 refine (PySem.W.looks_findIn X c.kl).andThen ?_
 refine PySem.W.Looks.andThen (PySem.W.looks_specialIn X c.sp) ?_
 refine PySem.W.Looks.andThen ((PySem.W.looks_takesIn X c.tk).andThen .now) (PySem.W.Looks.tag .now)
theorem x_get {R : Result -> Shared -> Prop} {tp : Value} (X : K.In s.heap) (L0 : PySem.W.Looks (model prog w) s.heap (typeOf (.ref x)) (.ref C)) (c : XCls K C)
   (h : R (.ok (.ret (.ref C))) s) : codeAny (model prog w) A (.call (.builtin "getset_descriptor.__get__") ⟨[.builtin "object.__class__", .ref x, tp], []⟩) R s := by
 obtain ⟨hp, gs, dr, tk, ws⟩ := s
 have L1 := PySem.W.looks_mroIn (M := model prog w) X c.mo
 refine codeAny_call_builtin PySem.W.KF.slot_gs.plain PySem.W.KF.entry_gs
   (PySem.W.KF.slot_gs.check _ _ _ _ _ _ _ _ PySem.W.KF.type_class (PySem.W.KF.args_gs _ _ _) ?_)
 unfold Builtin.«getset_descriptor.__get__» descrGet
 rw [PySem.W.dga_obj]
 refine wpAny_bind
   (wpAny_pure ?_)
 unfold descrGetter descrCheckInstance
 unfold descrNameAndClass isInstance
 simp only [PySem.W.KF.owner_class]
 repeat lk
 refine ⟨Code.quiet_builtin _ (by decide +kernel),
   codeAny_builtin PySem.W.KF.entry_class ?_⟩
 unfold Builtin.«object.__class__»
 unfold shownTypeOf
 repeat lk
 exact h
theorem x_class {Q : Option Value -> Shared -> Prop} (X : K.In s.heap) (L0 : PySem.W.Looks (model prog w) s.heap (typeOf (.ref x)) (.ref C)) (c : XCls K C) (h : Q (some (.ref C)) { s with toks := s.toks + 1 }) : wpAny (model prog w) A (getAttr? (.ref x) "__class__") Q E s := by
 obtain ⟨hh, g, d, t, os⟩ := s
 have L1 := PySem.W.looks_findIn (M := model prog w) X c.ga
 have L2 := PySem.W.looks_findIn (M := model prog w) X c.hk
 have L3 := PySem.W.looks_mroIn (M := model prog w) X c.mb
 have L4 := looks_xfind (M := model prog w) (x := x) X c
 unfold getAttr? getAttrBy? getAttrBy
 refine wpAny_bind (wpAny_mkText (wpAny_bind (wpAny_attempt (wpAny_holding (wpAny_bind (L0.at (wpAny_bind (L1.at ?_))))))))
 show wpAny _ _ (getAttrByItsOwn _ _ _ _ _ _) _ _ _
 unfold getAttrByItsOwn hookBefore
 refine wpAny_bind ?_
 show wpAny _ _ (typeLookup _ _) _ _ _
 refine L2.at ?_
 refine wpAny_bind (wpAny_attempt (wpAny_holding ?_))
 show wpAny _ _ (boundAndCalled _ _ _) _ _ _
 unfold boundAndCalled
 refine wpAny_bind (wpAny_of_eq (F.excAttr_ValueError.ga.bind (.ref x)) ?_)
 refine wpAny_call (codeAny_call_builtin F.excAttr_ValueError.ga.plain F.entry_bexc_ga ?_)
 have kd : builtinKind "BaseException.__getattribute__" = some .slot := by decide +kernel
 have spl : splitId "BaseException.__getattribute__" = some ("BaseException", "__getattribute__") := by decide +kernel
 have fa := F.args_bexc_ga (.ref x) (.str "__class__" t)
 have fin : wpAny (model prog w) A.in1 (Builtin.«object.__getattribute__» ⟨[.ref x, .str "__class__" t], []⟩) (fun fin s' => fin = .done (.ret (.ref C)) /\ s' = ⟨hh, g, d, t + 1, os⟩) (fun _ _ => False) ⟨hh, g, d, t + 1, os⟩ := by
   unfold Builtin.«object.__getattribute__»
   repeat (first | with_reducible refine L0.at ?_ | with_reducible refine L4.at ?_ | wp_step)
   exact x_get X L0 c (wpAny_pure ⟨rfl, rfl⟩)
 have go : wpAny (model prog w) A.in1 (checkBuiltinCall "BaseException.__getattribute__" ⟨[.ref x, .str "__class__" t], []⟩) (fun _ s' => s' = ⟨hh, g, d, t + 1, os⟩) (fun _ _ => False) ⟨hh, g, d, t + 1, os⟩ := by
   simp only [checkBuiltinCall, kd, spl]
   refine wpAny_bind ?_
   unfold isInstance
   repeat (first | with_reducible refine L0.at ?_ | with_reducible refine L3.at ?_ | wp_step)
   rfl
 refine wpAny_mono go (fun _ s1 e1 => ?_) fun _ _ z => z.elim
 subst e1
 refine wpAny_mono fin (fun f1 s1 e1 => ?_) fun _ _ z => z.elim
 obtain ⟨rfl, rfl⟩ := e1
 exact wpAny_pure (wpAny_pure h)
theorem xcls_ob (c : XCls K C) : ∃ c' d' cd sl, K.lookup C = some ⟨c', d', .cls cd, sl⟩ := by
 obtain ⟨k, hk⟩ := Option.isSome_iff_exists.mp c.cls
 unfold PySem.W.clsIn at hk
 split at hk
 · rename_i c' d' cd sl ho
   exact ⟨c', d', cd, sl, ho⟩
 · cases hk
theorem kitx_exc (c : XCls K C) : PySem.W.KitX K (.ref x) (.ref C) (fun h => ∃ o, h.get? x = some o /\ o.cls = .ref C) where
 ty := fun M h _ ⟨o, ho, hc⟩ => hc ▸ (PySem.W.Looks.ld ho).andThen .now
 it := fun _ _ X _ => by
   obtain ⟨c', d', cd, sl, ho⟩ := xcls_ob c
   intro A1 Q1 E1 s1 k q
   unfold isType loadHead
   refine wpAny_bind ?_
   exact wpAny_loadPart (k _ _ (X _ _ ho)) (wpAny_pure q)
 ne := fun h tp dd its n sl X htp => by
   obtain ⟨c', d', cd, sl, ho⟩ := xcls_ob c
   refine Bool.eq_false_iff.mpr fun q => ?_
   cases Value.ref.inj (beq_iff_eq.mp q)
   cases (X _ _ ho).symm.trans htp
 ca := fun X p k => x_class X (p.elim fun o z => z.2 ▸ (PySem.W.Looks.ld z.1).andThen .now) c k
end
def ClV (v : V) (u : Value) : Prop := (∃ D, v = .ref D /\ u = .ref D) \/ ∃ T, v = .ty T /\ u = .type T
def rIsX (K : PySem.W.Frag) : List V -> Hp -> VK -> Prop := fun xs H Q => ∃ e C v u b, xs = [.ref e, v] /\ H e = some (xO e C) /\ XCls K C /\ ClV v u /\ PySem.W.kitOne K (.ref C) u = some b /\ Q (.bl b) H
theorem ClV.rel {v : V} {u u' : Value} (h : ClV v u) (r : RelV v u') : u' = u := by
 rcases h with ⟨D, rfl, rfl⟩ | ⟨T, rfl, rfl⟩
 · exact r
 · cases r; rfl
section
variable {X : Cx}
theorem call_isX : jA X (.builtin "isinstance") (rIsX X.K) := by
 intro pins s σ H xs us Q I r h
 obtain ⟨e, C, v, u, b, rfl, he, c, cv, hk, q⟩ := h
 obtain ⟨u1, u2, rfl, r1, r2⟩ := vals2 r
 cases (show u1 = Value.ref e from r1)
 cases cv.rel r2
 obtain ⟨⟨o, vs, ho, hc, _⟩, _⟩ := (show ObjOk X.prog X.w H s.heap e (xO e C) from I.hok e _ he)
 exact PySem.W.kia_one (kitx_exc c) I.kIn ⟨o, ho, hc⟩ hk (fun z => nomatch z) fun tk => ⟨.bl b, H, I.tok tk, rfl, q⟩
end
theorem body_nox {CX : CXT} {P : Program} {w : World} {K : PySem.W.Frag} {mg : Str -> Option Value} {base : Heap} {N : List Str} {qual : Str} {scope : Scope} {f : Addr} {cd : Value} {A : Around} {outer : List Env} {s₀ : Shared} {H₀ : Hp} {E : XK} :
   Body (xL CX P w K mg base N qual scope f cd A outer s₀ H₀ E).nox := ⟨rfl, rfl, rfl, Heap.get?_none_of_le (Nat.le_refl _)⟩
section
variable {X : Cx}
theorem yT (K : PySem.W.Frag) (h : X.K = K) : jA X (.builtin "isinstance") (rIsX K) := by subst h; exact call_isX
theorem bt_ValueError : bootBuiltins "ValueError" = some (.type "ValueError") := by decide +kernel
def tXIf (c : TT) (ta tb : TX) : TX := fun Qn Qx σ H => c σ H fun d H1 => if d = true then ta Qn Qx σ H1 else tb Qn Qx σ H1
end
section
variable {prog : Program} {w : World} {Kt : Type} [DecidableEq Kt] {knd : HeapKind prog w Kt} {A : Around} {E : Value -> Shared -> Prop} {s : Shared}
def DictB (knd : HeapKind prog w Kt) (h : Heap) (d : Addr) (xs : List (Kt × Addr × Value)) : Prop :=
 ∃ o es ep, h.get? d = some o /\ o.ExactDict /\ o.data = .dict es ep /\ es.toList = xs.map (entryOfKey knd) /\ (xs.map (·.1)).Nodup
theorem DictB.at {h h' : Heap} {d : Addr} {xs : List (Kt × Addr × Value)} (x : DictB knd h d xs) (e : ∀ u, h.get? d = some u -> h'.get? d = some u) : DictB knd h' d xs := by
 obtain ⟨o, es, ep, h1, r⟩ := x
 exact ⟨o, es, ep, e _ h1, r⟩
end
section
variable {X : Cx}
end
structure HasF (P : Program) (w : World) (K : PySem.W.Frag) (mg : Str -> Option Value) (base : Heap) (k : Nat) (f : Addr) (ps : List Str) (sp : Sp) : Prop where
 ex : ∃ fd, FnOk P w K mg base CX0 k f fd ps sp /\ Binds K fd ps [] /\ PySem.W.keepIn K (.ref f) = true
section
variable {X : Cx} {k : Nat} {x : Str} {ps : List Str} {sp : Sp} {p pos : Pos} {e : Expr} {es : List Expr} {t : TA}
theorem Has.at {P : Program} {w : World} {K : PySem.W.Frag} {mg : Str -> Option Value} {base : Heap} {k : Nat} {f : Addr} (h : Has P w K mg base k x ps sp) (hm : mg x = some (.ref f)) : HasF P w K mg base k f ps sp := by
 obtain ⟨g, fd, F, b, kp, m⟩ := h.ex
 rw [hm] at m
 cases m
 exact ⟨fd, F, b, kp⟩
end
end L2
set_option maxHeartbeats 8000000
namespace L2
open PySem PySem.Spec PyProof.Rows PySem.W
section
variable {prog : Program} {w : World} {A : Around} {E : Value -> Shared -> Prop} {s : Shared}
end
end L2
namespace L2
open PySem PySem.Spec PyProof.Rows PySem.W
abbrev XE := List Key × Addr × V
abbrev XPr : List XE -> List (List Key × Addr × Value) -> Prop := Paired fun p q => p.1 = q.1 /\ p.2.1 = q.2.1 /\ RelV p.2.2 q.2.2
def DxRaw (P : Program) (w : World) (h : Heap) (a : Addr) (kvs : List XE) : Prop := ∃ xs, XPr kvs xs /\ ∃ o es ep, h.get? a = some o /\ o.ExactDict /\ o.data = .dict es ep /\ es.toList = xs.map (entryOfKey (tupleKind (zU P w))) /\ (xs.map (·.1)).Nodup
def DxO (P : Program) (w : World) (a : Addr) (kvs : List XE) : HO := .ext fun h => DxRaw P w h a kvs
structure DxAt (P : Program) (w : World) (K : PySem.W.Frag) (H : Hp) (a : Addr) (kvs : List XE) : Prop where
 is : H a = some (DxO P w a kvs)
 few : kvs.length <= 1000
 lo : (a == sysModules) = false
 keys : ∀ x ∈ kvs, SqT K H x.2.1 (x.1.map kV)
def valX (kvs : List XE) (k : List Key) : Option V := (kvs.find? fun x => decide (x.1 = k)).map (·.2.2)
theorem XPr.val : ∀ {kvs : List XE} {xs : List (List Key × Addr × Value)}, XPr kvs xs -> ∀ k : List Key, RelO (valX kvs k) ((atKey xs k).map (·.2))
 | _, _, .nil, k => True.intro
 | _, _, @Paired.cons _ _ _ p q ps qs h t, k => by
   obtain ⟨h1, _, h2⟩ := h
   by_cases e : p.1 = k
   · have e' : q.1 = k := h1.symm.trans e
     have b : atKey (q :: qs) k = some q.2 := by simp [atKey, List.find?_cons, e']
     have b2 : valX (p :: ps) k = some p.2.2 := by simp [valX, List.find?_cons, e]
     rw [b2, b]
     exact h2
   · have e' : ¬ q.1 = k := fun z => e (h1.trans z)
     have b : atKey (q :: qs) k = atKey qs k := by simp [atKey, List.find?_cons, e']
     have b2 : valX (p :: ps) k = valX ps k := by simp [valX, List.find?_cons, e]
     rw [b2, b]
     exact XPr.val t k
theorem XPr.at : ∀ {kvs : List XE} {xs : List (List Key × Addr × Value)}, XPr kvs xs -> ∀ {i : Nat} {p : XE} {q : List Key × Addr × Value}, kvs[i]? = some p -> xs[i]? = some q -> p.2.1 = q.2.1
 | _, _, .nil, i, p, q, h, _ => by simp at h
 | _, _, .cons hq t, 0, p, q, h1, h2 => by
   simp only [List.getElem?_cons_zero, Option.some.injEq] at h1 h2
   subst h1 h2
   exact hq.2.1
 | _, _, .cons hq t, i + 1, p, q, h1, h2 => XPr.at t (by simpa using h1) (by simpa using h2)
section
variable {X : Cx} {pins : List (Addr × Obj)} {σ : St} {H : Hp} {s : Shared} {a b : Addr} {kvs : List XE} {k : List Key}
end
section
variable {X : Cx}
end
inductive TyK (K : PySem.W.Frag) (H : Hp) : V -> Value -> Prop where
 | of {v : V} {t : Value} (h : TyOf K H v t) : TyK K H v t
 | kt {a : Addr} {xs : List V} (h : SqT K H a xs) : TyK K H (.ref a) (.type "tuple")
section
variable {X : Cx} {pins : List (Addr × Obj)} {σ : St} {H : Hp} {s : Shared} {A : Around} {E : Value -> Shared -> Prop} {Q : Value -> Shared -> Prop} {c : Value} {b : Bool}
end
section
variable {X : Cx}
end
theorem FnOk.calm {P : Program} {w : World} {K : PySem.W.Frag} {mg : Str -> Option Value} {base : Heap} {k : Nat} {f : Addr} {fd : FuncData} {ps : List Str} {sp : Sp} (F : FnOk P w K mg base (CX1 P w) k f fd ps sp) : FnOk P w K mg base CX0 k f fd ps (fun vs H Q _ => sp vs H Q E0) :=
 ⟨fun vs H Q E h => F.len vs H Q E0 h, fun A outer s H args us vs Q E hr h0 hb hv h => codeAny_mono (F.run A outer s H args us vs Q E0 hr h0 hb hv h) fun r s' hr => by
   cases r with
   | error e =>
     obtain ⟨ea, C, a0, B, H', _, _, _, _, q⟩ := hr
     exact q.elim
   | ok fl => cases fl <;> exact hr⟩
structure HasFX (P : Program) (w : World) (K : PySem.W.Frag) (mg : Str -> Option Value) (base : Heap) (k : Nat) (f : Addr) (ps : List Str) (sp : Sp) : Prop where
 ex : ∃ fd, FnOk P w K mg base (CX1 P w) k f fd ps sp /\ Binds K fd ps [] /\ PySem.W.keepIn K (.ref f) = true
theorem HasX.at {P : Program} {w : World} {K : PySem.W.Frag} {mg : Str -> Option Value} {base : Heap} {k : Nat} {f : Addr} {x : Str} {ps : List Str} {sp : Sp} (h : HasX P w K mg base k x ps sp) (hm : mg x = some (.ref f)) : HasFX P w K mg base k f ps sp := by
 obtain ⟨g, fd, F, b, kp, m⟩ := h.ex
 rw [hm] at m
 cases m
 exact ⟨fd, F, b, kp⟩
structure HasMX (P : Program) (w : World) (K : PySem.W.Frag) (mg : Str -> Option Value) (base : Heap) (k : Nat) (C : Addr) (m : Str) (ps : List Str) (sp : Sp) : Prop where
 ex : ∃ f fd, FnOk P w K mg base (CX1 P w) k f fd ps sp /\ Binds K fd ps [] /\ Meth K C m f
section
variable {P : Program} {w : World} {K : PySem.W.Frag} {mg : Str -> Option Value} {base : Heap} {N : List Str} {qual : Str} {scope : Scope} {f : Addr} {cd : Value} {A : Around} {outer : List Env} {s₀ : Shared} {H₀ : Hp} {E : XK}
   {k : Nat} {C : Addr} {m : Str} {ps : List Str} {sp : Sp} {e o : Expr} {es : List Expr} {ta : TE} {t : TA} {apos pos : Pos}
end
end L2
namespace L2
open PySem PySem.Spec PyProof.Rows PySem.SeqAt PySem.MeetsSeq
theorem rm_loop (l : Addr) (items : Array Value) (n : Nat) (x : Value) (e : Value -> Bool) (j : Nat) (hj : j < items.size) (hit : e items[j] = true) (hs1 : items.size <= sizeLine) (k : Nat) :
   ∀ i : Nat, j - i = k -> i <= j -> (∀ m (hm : m < items.size), i <= m -> m < j -> e items[m] = false) -> Meets (Builtin.«list.remove.loop» ⟨[.ref l, x, rawInt i], []⟩)
     (fun A R s => s.heap.get? l = some { cls := .type "list", dict := none, data := .seq items n, slots := #[] } /\ (∀ y, y ∈ items -> EqAt A.in1 s y x (e y)) /\ R (.ok (.ret .none)) { s with heap := s.heap.update l (Obj.mapSeq fun xs => xs.eraseIdxIfInBounds j) }) := by
 induction k with
 | zero =>
   intro i hk hij hno prog w A R s h
   obtain ⟨hp, g, d, tk, os⟩ := s; obtain ⟨hl, he, h⟩ := h
   have hij' : i = j := by omega
   subst hij'
   wp_walk using wpAny_loadPart' hl
   have hi : items[((i : Nat) : Int).toNat]? = some items[i] := by simp [hj]
   rw [hi]
   refine wpAny_bind (he _ (Array.getElem_mem hj) prog w _ _ ?_)
   rw [hit]
   have hz' : (items.eraseIdxIfInBounds i).size <= sizeLine + 1 := Nat.le_trans (size_erased items _) (Nat.le_succ_of_le hs1)
   wp_walk using (wpAny_updateSeq hl rfl (hz := hs1) (_hz' := hz')), wpAny_loadPart' hl
   simpa using h
 | succ k ih =>
   intro i hk hij hno prog w A R s h
   obtain ⟨hp, g, d, tk, os⟩ := s; obtain ⟨hl, he, h⟩ := h
   have hlt : i < items.size := by omega
   wp_walk using wpAny_loadPart' hl
   have hi : items[((i : Nat) : Int).toNat]? = some items[i] := by simp [hlt]
   have hc : ((i : Int) + 1) = ((i + 1 : Nat) : Int) := by push_cast; rfl
   rw [hi]
   refine wpAny_bind (he _ (Array.getElem_mem hlt) prog w _ _ ?_)
   rw [hno i hlt (Nat.le_refl _) (by omega)]
   wp_walk
   rw [hc]
   exact ⟨plainId_quiet plain_remove_loop _, codeAny_builtin entry_remove_loop (by
     rw [Around.under_plainId plain_remove_loop _]
     exact ih (i + 1) (by omega) (by omega) (fun m hm h1 h2 => hno m hm (by omega) h2) prog w A R _ ⟨hl, he, h⟩)⟩
theorem rm_at (l : Addr) (items : Array Value) (n : Nat) (x : Value) (e : Value -> Bool) (j : Nat) (hj : j < items.size) (hs1 : items.size <= sizeLine)
   (hit : e items[j] = true) (hno : ∀ m (hm : m < items.size), m < j -> e items[m] = false) :
   Meets (Builtin.«list.remove» ⟨[.ref l, x], []⟩)
     (fun A R s => s.heap.get? l = some { cls := .type "list", dict := none, data := .seq items n, slots := #[] } /\ (∀ y, y ∈ items -> EqAt A.in1 s y x (e y)) /\ R (.ok (.ret .none)) { s with heap := s.heap.update l (Obj.mapSeq fun xs => xs.eraseIdxIfInBounds j) }) := by
 intro prog w A R s h
 obtain ⟨hp, g, d, tk, os⟩ := s; obtain ⟨hl, he, h⟩ := h
 wp_walk using wpAny_loadPart' hl
 exact ⟨plainId_quiet plain_remove_loop _, codeAny_builtin entry_remove_loop (by
   rw [Around.under_plainId plain_remove_loop _]
   exact rm_loop l items n x e j hj hit hs1 _ 0 rfl (Nat.zero_le _) (fun m hm _ h2 => hno m hm h2) prog w A R _ ⟨hl, he, h⟩)⟩
section
variable {X : Cx}
def rRemG : V -> List V -> Hp -> VK -> Prop := fun x vs H Q => ∃ (l : Addr) (us : List V) (ds : List Dt) (v : V) (d : Dt) (n j : Nat), x = .ref l /\ vs = [v] /\ H l = some (.lst us) /\ DAts H ds us /\ DAt H d v /\ (∀ e ∈ ds, DFit n e) /\ n <= 60 /\ (∃ d', ds[j]? = some d' /\ deq d' d = true) /\ (∀ (m : Nat) (d' : Dt), m < j -> ds[m]? = some d' -> deq d' d = false) /\
 Q .non (upd H l (.lst (us.eraseIdx j)))
open Classical in
theorem mt_removeG (hu : X.A.units + 64 < cLine) : MtM X "list.remove" rRemG := by
 intro pins s σ H x vs v us Q I rx rv h
 obtain ⟨l, ws, ds, y, d, n, j, rfl, rfl, hH, hds, hd, hf, hn, ⟨d', hj, hj'⟩, hno, q⟩ := h
 cases rx
 obtain ⟨u, rfl, ru⟩ := rv.one
 obtain ⟨hz, its, m, r, hl, e⟩ := I.lstM hH
 have k1 := hds.length
 have k2 := r.length
 obtain ⟨jl, je⟩ := List.getElem?_eq_some_iff.mp hj
 have at_ : ∀ m (hm : m < its.length), decide (∃ d' v', DAt H d' v' /\ RelV v' its[m] /\ deq d' d = true) = deq (ds[m]'(by omega)) d := fun m hm => by
   have hmd : m < ds.length := by omega
   obtain ⟨v, v1, v2⟩ := hds.get (List.getElem?_eq_getElem hmd)
   have rr : RelV v its[m] := vals_at r v1 (List.getElem?_eq_getElem hm)
   rw [Bool.eq_iff_iff, decide_eq_true_eq]
   constructor
   · rintro ⟨d', v', q1, q2, q3⟩
     have := RelV.inj q2 rr
     subst this
     rw [DAt.one_of v2 q1]
     exact q3
   · intro q
     exact ⟨_, v, v2, rr, q⟩
 have hj2 : j < its.toArray.size := by rw [List.size_toArray]; omega
 have M := rm_at l its.toArray m u (fun y => decide (∃ d' v', DAt H d' v' /\ RelV v' y /\ deq d' d = true)) j hj2 (by rw [List.size_toArray]; omega) (by
     rw [List.getElem_toArray, at_ j (by omega), je]
     exact hj') (fun m hm hlt => by
     rw [List.getElem_toArray, at_ m (by simpa using hm)]
     exact hno m _ hlt (List.getElem?_eq_getElem (by have : m < its.length := (by simpa using hm); omega)))
 refine call_meets PySem.F.slot_list_remove ⟨_, e, rfl⟩ PySem.F.entry_list_remove (PySem.F.args_list_remove_2 _ _) M ⟨e, fun y hy => ?_, ?_⟩
 · exact in_eq I.hok hds r hd ru hf (by omega) y hy
 · refine ⟨.non, _, I.lset (its' := its.eraseIdx j) hH e ?_ (r.eraseIdx j) ?_, rfl, q⟩
   · show its.toArray.eraseIdxIfInBounds j = (its.eraseIdx j).toArray
     rw [List.eraseIdxIfInBounds_toArray]
   · have := qZ ws j
     omega
end
end L2
namespace L2
open PySem PySem.Spec PyProof.Rows PySem.SeqAt
section
variable {X : Cx} {pins : List (Addr × Obj)} {σ : St} {H H2 : Hp} {s : Shared} {d : Addr} {o : Obj} {kvs : List (Key × V)}
theorem Inv.frz (I : Inv X pins σ H s) (hd : H d = some (.dK kvs)) : ∃ o, s.heap.get? d = some o /\ Inv X pins σ (upd H d (.frz o (.dK kvs))) s := by
 obtain ⟨z, y, vs, r, ob, es, ep, e, c⟩ := I.hok d _ hd
 refine ⟨ob, e, ?_⟩
 have := I.write (x := d) (e := d) (o := .frz ob (.dK kvs)) (h' := s.heap) (t' := s.toks) (by rw [hd]; exact True.intro) (.inl rfl) (fun _ _ _ q => q) ⟨ob, e⟩ ⟨e, z, y, vs, r, ob, es, ep, e, c⟩
 cases s
 exact this
theorem Inv.unfrz (I : Inv X pins σ H s) (hd : H d = some (.frz o (.dK kvs))) (h0 : ∀ o' u, X.H₀ d ≠ some (.frz o' u)) (h1 : ∀ ps, X.H₀ d ≠ some (.tbl ps)) : Inv X pins σ (upd H d (.dK kvs)) s := by
 have ne : ∀ b, H b = none -> b ≠ d := fun b e q => by subst q; rw [hd] at e; cases e
 refine ⟨I.ok, I.os, I.bare, ⟨I.base.keep, I.base.slot, fun b q h1 h2 h3 => ?_, I.base.there, fun b xs q => ?_, fun b o' u q => ?_, fun b ps q => ?_⟩, I.loc, I.cell, ?_, fun x c q => ?_, fun p hp => ?_, fun b u q => ?_, I.len⟩
 · have := I.base.free b q h1 h2 h3
   rw [zE (ne b this)]
   exact this
 · have := I.base.tups b xs q
   rw [zE (fun z => by subst z; rw [hd] at this; cases this)]
   exact this
 · rw [zE (fun z : b = d => h0 o' u (z ▸ q))]
   exact I.base.frzs b o' u q
 · rw [zE (fun z : b = d => h1 ps (z ▸ q))]
   exact I.base.tbls b ps q
 · rw [zE (ne _ I.free)]; exact I.free
 · rw [zE (ne _ (I.freeC x c q))]; exact I.freeC x c q
 · obtain ⟨a1, a2, a3⟩ := I.pin p hp
   exact ⟨a1, by rw [zE (ne _ a2)]; exact a2, a3⟩
 · have ho : ∀ c y, H c = some (.own y) -> upd H d (.dK kvs) c = some (.own y) := fun c y r => by
     rw [zE (fun z => by subst z; rw [hd] at r; cases r)]; exact r
   have ht : ∀ c xs, H c = some (.tup xs) -> upd H d (.dK kvs) c = some (.tup xs) := fun c xs r => by
     rw [zE (fun z => by subst z; rw [hd] at r; cases r)]; exact r
   by_cases hb : b = d
   · subst hb
     rw [zC] at q
     cases q
     exact (I.hok b _ hd).2.stay (fun _ _ _ q => q) (fun c r => ho c _ r) ht
   · rw [zE hb] at q
     exact (I.hok b u q).stay (fun _ _ _ q => q) (fun c r => ho c _ r) ht
def tFrz (te : TE) : TE := fun σ H Q => ∃ d kvs, H d = some (.dK kvs) /\ ∀ o, te σ (upd H d (.frz o (.dK kvs))) fun v H2 => H2 d = some (.frz o (.dK kvs)) /\ Q v (upd H2 d (.dK kvs))
theorem pe_frz {e : Expr} {te : TE} (h : PE X e te) : PE X e (tFrz te) := by
 intro pins s σ H Q I hq
 obtain ⟨d, kvs, hd, hq⟩ := hq
 obtain ⟨o, ho, I1⟩ := I.frz hd
 have h0 : ∀ o' u, X.H₀ d ≠ some (.frz o' u) := fun o' u q => by have := I.base.frzs d o' u q; rw [hd] at this; cases this
 have h1 : ∀ ps, X.H₀ d ≠ some (.tbl ps) := fun ps q => by obtain ⟨more, this⟩ := I.base.tbls d ps q; rw [hd] at this; cases this
 refine thn (h pins s σ _ _ I1 (hq o)) fun v s1 ⟨x, H2, I2, r, k, q⟩ => ⟨x, _, I2.unfrz k h0 h1, r, q⟩
end
def Itm (d : Addr) (o : Obj) (kvs : List (Key × V)) : It :=
 ⟨fun i H => H d = some (.frz o (.dK kvs)) /\ i < kvs.length,
  fun i H v H' => ∃ p k x, v = .ref p /\ H p = none /\ H' = upd H p (.tup [kV k, x]) /\ kvs[i]? = some (k, x),
  fun i H => H d = some (.frz o (.dK kvs)) /\ kvs.length <= i⟩
def Dat (it d : Addr) (n ep i : Nat) (h : Heap) : Prop := ∃ ok ov, IsItemIter h it d i n ep ok ov
theorem key_rel {P : Program} {w : World} {k : Key} {v : Value} (h : (zU P w).is k v = true) : RelV (kV k) v := by
 rcases keyIs_shape h with ⟨i, t, rfl, rfl⟩ | ⟨z, t, rfl, rfl⟩
 · exact ⟨t, rfl⟩
 · exact ⟨t, rfl⟩
theorem dict_at {P : Program} {w : World} {H : Hp} {h : Heap} {d : Addr} {o : Obj} {kvs : List (Key × V)} {es : Array DictEntry} {ep : Nat} (ok : HOk P w H h) (hd : H d = some (.frz o (.dK kvs))) (hep : o.data = .dict es ep) :
   ∃ vs, KV kvs vs /\ h.DictAt (zU P w) d vs ep := by
 obtain ⟨e0, z, y, vs, r, ob, es', ep', e, c1, c2, c3⟩ := ok d _ hd
 rw [e0] at e
 cases e
 rw [hep] at c2
 cases c2
 exact ⟨vs, r, o, es, e0, c1, hep, c3⟩
theorem kv_at : ∀ {kvs : List (Key × V)} {vs : List (Key × Value)}, KV kvs vs -> ∀ {i : Nat} {k : Key} {x : V}, kvs[i]? = some (k, x) -> ∃ u, vs[i]? = some (k, u) /\ RelV x u
 | _, _, .nil, i, k, x, h => by simp at h
 | _, _, .cons (b := q) hq t, 0, k, x, h => by
   simp only [List.getElem?_cons_zero, Option.some.injEq] at h
   subst h
   exact ⟨q.2, by rw [List.getElem?_cons_zero]; exact congrArg some (Prod.ext hq.1.symm rfl), hq.2⟩
 | _, _, .cons hq t, i + 1, k, x, h => kv_at t (by simpa using h)
theorem di_entry : entryFor table "dict_itemiterator.__iter__" = some Builtin.«dict_keyiterator.__iter__» := entryFor_alias (id' := "dict_keyiterator.__iter__") (by kernel_rfl) rfl (by decide +kernel) (by kernel_rfl)
theorem turn_items {P : Program} {w : World} {K : PySem.W.Frag} {elts : List Expr} {cx : _} {tp : Pos} (it d : Addr) (o : Obj) (kvs : List (Key × V)) {es : Array DictEntry} {ep : Nat} (hep : o.data = .dict es ep) :
   Turn P w K (.Tuple elts cx tp) (Itm d o kvs) [it] it (Dat it d kvs.length ep) where
 mem := by simp
 obj := fun i h st b hb => by
   obtain ⟨ok, ov, ge⟩ := st
   rw [List.mem_singleton] at hb
   subst hb
   exact ⟨_, ge, fun v e => by cases e⟩
 keep := fun i h h' st k => by
   obtain ⟨ok, ov, ge⟩ := st
   exact ⟨ok, ov, k _ (by simp) _ ge⟩
 item := by
   intro X hP hw hK hc i pins s σ H E I hf st hg
   subst hP hw hK
   obtain ⟨hd, hi⟩ := hg
   obtain ⟨vs, rel, da⟩ := dict_at I.hok hd hep
   have hlen : kvs.length = vs.length := Paired.length rel
   obtain ⟨ok, ov, ge⟩ := st
   obtain ⟨k, x, hkx'⟩ : ∃ k x, kvs[i]? = some (k, x) := ⟨kvs[i].1, kvs[i].2, List.getElem?_eq_getElem hi⟩
   obtain ⟨u, hu, ru⟩ := kv_at rel hkx'
   rw [hlen] at ge
   refine wpAny_pyNext_items_item (knd := zU X.prog X.w) ge da hu fun key h1 b0 b1 b2 b3 b4 => ?_
   refine ⟨_, rfl, wpAny_letOwnedTupleGo_items (s := { s with heap := h1 }) b1 fun h2 g2 s2 => ?_⟩
   have be : it < s.heap.objs.size := Heap.lt_size ge
   have keep2 : ∀ b o, b ∉ [it] -> s.heap.get? b = some o -> h2.get? b = some o := fun b o hb q => by
     rw [List.mem_singleton] at hb
     exact s2.extBut b o hb (b4 b o hb q)
   have hfr : H s.heap.objs.size = none := I.hok.fresh (Nat.le_refl _)
   have gT := s2.extBut _ _ (Nat.ne_of_gt be) b2
   refine ⟨.ref s.heap.objs.size, _, I.turnedN (t' := s.toks) (p := s.heap.objs.size) (o := .tup [kV k, x]) keep2 hf (Nat.le_refl _) ⟨zO (by simp), [key, u], .cons (key_rel b0) (.cons ru .nil), ⟨_, gT, rfl, _, rfl⟩⟩, rfl, ⟨_, k, x, rfl, hfr, rfl, hkx'⟩, ?_, fun b hb => ?_⟩
   · rw [hlen]
     exact ⟨_, _, g2⟩
   · rw [List.mem_singleton] at hb
     subst hb
     rw [zE (Nat.ne_of_lt be)]
     exact (hf b (by simp)).1
 done := by
   intro X hP hw hK hc i pins s σ H E I hf st hg
   subst hP hw hK
   obtain ⟨hd, hi⟩ := hg
   obtain ⟨vs, rel, da⟩ := dict_at I.hok hd hep
   have hlen : kvs.length = vs.length := Paired.length rel
   obtain ⟨ok, ov, ge⟩ := st
   rw [hlen] at ge
   refine wpAny_pyNext_items_end (knd := zU X.prog X.w) (I.ok.hd hc) ge da (List.getElem?_eq_none (by omega)) fun h1 kk => ⟨rfl, ?_⟩
   refine I.turnedL (ch := [it]) (t' := s.toks) (fun b o hb q => ?_) (fun b hb => hf b hb)
   rw [List.mem_singleton] at hb
   exact kk b o hb q
 self := fun A i s Q E st h => by
   obtain ⟨ok, ov, ge⟩ := st
   have hT : s.TypeIs (.ref it) "dict_itemiterator" := ⟨_, ge, rfl⟩
   refine wpAny_pyIter_slot hT PySem.F.slot_dict_itemiterator_iter (wpAny_call_entry PySem.F.slot_dict_itemiterator_iter hT di_entry ?_ (PySem.F.args_dict_itemiterator_iter_1 _))
   show wpAny _ _ (ret (.ref it)) _ _ s
   exact wpAny_pure ⟨_, rfl, "dict_itemiterator", _, hT, PySem.F.slot_dict_itemiterator_next.lookup, h⟩
section
variable {X : Cx}
def iItems (to : TE) : TI := fun σ H R => to σ H fun x H1 => ∃ d o kvs, x = .ref d /\ H1 d = some (.frz o (.dK kvs)) /\ R (Itm d o kvs) H1
theorem pi_items {elts : List Expr} {cx : _} {tp : Pos} {o : Expr} {to : TE} {ap cp : Pos} (ho : PE X o to) (hbase : attributeBase o "items" X.env (eval o X.env) = eval o X.env := by rfl) (hline : (ap.endLine == cp.line) = true := by rfl) :
   PI X (.Tuple elts cx tp) (.Call (.Attribute o "items" ap) [] [] cp) (iItems to) := by
 intro pins s σ H R I h
 refine wpAny_Call_method0_late hbase hline (thn (ho pins s σ H _ I h) fun v s1 ⟨x, H1, I1, r1, d, ob, kvs, e, hd, q⟩ => ?_)
 subst e
 cases r1
 obtain ⟨t1, t2, _⟩ := isD_at I1 (.inl ⟨kvs, .inr ⟨ob, hd⟩⟩)
 obtain ⟨e0, z, y, vs, rel, ob', es, ep, e1, c1, c2, c3⟩ := I1.hok d _ hd
 rw [e0] at e1
 cases e1
 refine ⟨"dict", "dict.items", PySem.F.plainAttrs_dict, PySem.F.slot_dict_items, PySem.F.type_dict_items, t1, t2, Calls.callWith_builtin rfl (PySem.evalArgs_none (call_meetsIn PySem.F.slot_dict_items t1 PySem.F.entry_dict_items (PySem.F.args_dict_items_1 _) (meets_dict_items (zU X.prog X.w) d y) ⟨⟨vs, ob, es, ep, e0, c1, c2, c3⟩, ?_⟩))⟩
 show wpAny _ _ (pyIter (.ref s1.heap.objs.size)) _ _ _
 have da : (s1.heap.push { cls := .type "dict_items", data := .fields #[.ref d] }).DictAt (zU X.prog X.w) d vs ep := ⟨ob, es, Heap.get?_push_of_some _ e0, c1, c2, c3⟩
 refine wpAny_pyIter_items (knd := zU X.prog X.w) (v := s1.heap.objs.size) ⟨_, Heap.get?_push_size _ rfl, rfl, rfl⟩ da ?_
 have kk : ∀ b u, s1.heap.get? b = some u -> ((s1.heap.push { cls := .type "dict_items", data := .fields #[.ref d] }).push { cls := .type "dict_itemiterator", data := .fields #[.none, .bool false, .ref d, .int 0 0, .int vs.length 0, .int ep 0, .none, .none] }).get? b = some u := fun b u q => Heap.get?_push_of_some _ (Heap.get?_push_of_some _ q)
 have hsz : (s1.heap.push { cls := .type "dict_items", data := .fields #[.ref d] }).objs.size = s1.heap.objs.size + 1 := Heap.size_push ..
 have hlen : kvs.length = vs.length := Paired.length rel
 refine ⟨_, [(s1.heap.push { cls := .type "dict_items", data := .fields #[.ref d] }).objs.size], _, _, H1, rfl, I1.kept (t' := s1.toks) kk, turn_items _ d ob kvs c2, ?_, fun b hb => ?_, q⟩
 · rw [hlen]
   exact ⟨_, _, Heap.get?_push_size _ rfl⟩
 · rw [List.mem_singleton] at hb
   subst hb
   exact I1.fpOk (by omega) (I1.hok.fresh (by omega))
end
theorem lc_items {d : Addr} {o : Obj} {kvs : List (Key × V)} {ns : List Str} {js : List Nat} {g : TG} {te : TE} {σ : St} {H : Hp} {Q : VK} (Pv : Nat -> List V -> St -> Hp -> Prop) (h0 : Pv 0 [] (lcSt ns js σ) H) (hz : kvs.length <= sizeLine) (hl : ∀ i ys σ H, Pv i ys σ H -> ys.length <= i)
   (hK : ∀ i ys σ H, Pv i ys σ H -> H d = some (.frz o (.dK kvs)))
   (hs : ∀ (i : Nat) k x ys σ H p (C : V -> St -> Hp -> Prop), kvs[i]? = some (k, x) -> Pv i ys σ H -> H p = none -> (∀ y σ2 H3, Pv (i + 1) (ys ++ [y]) σ2 H3 -> C y σ2 H3) -> g (.ref p) σ (upd H p (.tup [kV k, x])) fun σ2 H2 => te σ2 H2 fun y H3 => C y σ2 H3)
   (hd : ∀ ys σ H, Pv kvs.length ys σ H -> ∀ p, H p = none -> Q (.ref p) (upd H p (.lst ys))) :
   LcW (Itm d o kvs) ns js g none te σ H Q :=
 lc_by (n := kvs.length) Pv h0 hz hl (fun i ys σ H hi w => ⟨hK i ys σ H w, hi⟩) (fun ys σ H w => ⟨hK _ ys σ H w, Nat.le_refl _⟩)
   (fun i ys σ H x H' C hi w ⟨p, k, y, e1, e2, e3, e4⟩ hC => by subst e1; subst e3; exact hs i k y ys σ H p C e4 w e2 hC) hd
end L2
set_option maxHeartbeats 4000000
namespace L2
open PySem PySem.Spec PyProof.Rows
section
variable {X : Cx}
def tFR (ta tv tb : TE) : TE := fun σ H Q => ta σ H fun x H1 => ∃ a, x = .str a /\ a.length <= 1000 /\ tv σ H1 fun y H2 => ∃ i : Int, y = .int i /\ i.natAbs.log2 < 1920 /\ tb σ H2 fun z H3 => ∃ b, z = .str b /\ b.length <= 1000 /\ ∀ w, Q (.str w) H3
theorem pe_fsr {a v b : Expr} {ta tv tb : TE} {p1 p2 : Pos} (ha : PE X a ta) (hv : PE X v tv) (hb : PE X b tb) : PE X (.JoinedStr [a, .FormattedValue v 114 none p1, b] p2) (tFR ta tv tb) := by
 intro pins s σ H Q I h
 refine wpAny_JoinedStr (thn (ha pins s σ H _ I h) fun u s1 z => ?_)
 obtain ⟨x, H1, I1, r, x', rfl, hl, q⟩ := z
 obtain ⟨t, rfl⟩ := (show ∃ t, u = Value.str x' t from r)
 have e0 : (Str.empty ++ x' : Str).length = x'.length := by rw [strLen_append]; exact Nat.zero_add _
 refine ⟨x', t, rfl, by rw [e0]; exact zO hl, ?_⟩
 refine wpAny_FormattedValue_repr (thn (hv pins s1 σ H1 _ I1 q) fun u2 s2 z => ?_)
 obtain ⟨y, H2, I2, r2, i, rfl, hi, q2⟩ := z
 obtain ⟨t2, rfl⟩ := (show ∃ t, u2 = Value.int i t from r2)
 have hfit := int_text_fits hi
 refine wpAny_pyReprObj_gives (typeIs_int _ i t2) PySem.F.slot_int_repr PySem.F.entry_int_repr (PySem.F.args_int_repr_1 _) (gives_int_repr i t2 hi) ?_ rfl hfit
 have hlen : (Str.ofString (toString i)).length <= 100000 := by
   have e := int_text_length_le (k := 1920) (by decide) hi
   rw [PySem.ofString_length]
   omega
 have fin : ∀ (s3 : Shared) (t3 : Tok), Inv X pins σ H2 s3 -> ∃ y t, Value.str (Str.ofString (toString i)) t3 = Value.str y t /\ (Str.empty ++ x' ++ y).length <= sizeLine /\
     Joins (model X.prog X.w) X.A X.xe (evalEach [b] X.env) (Str.empty ++ x' ++ y) (fun out s₁ => out.length <= sizeLine /\ EP X pins σ Q (Value.str out s₁.toks) { s₁ with toks := s₁.toks + 1 }) s3 := fun s3 t3 I3 => by
   have e1 : (Str.empty ++ x' ++ Str.ofString (toString i) : Str).length <= 101000 := by rw [strLen_append, e0]; omega
   refine ⟨_, _, rfl, Nat.le_trans e1 (by decide), ?_⟩
   refine thn (hb pins s3 σ H2 _ I3 q2) fun u4 s4 z => ?_
   obtain ⟨y4, H4, I4, r4, b', rfl, hl4, q4⟩ := z
   obtain ⟨t4, rfl⟩ := (show ∃ t, u4 = Value.str b' t from r4)
   have e2 : (Str.empty ++ x' ++ Str.ofString (toString i) ++ b' : Str).length <= sizeLine := by rw [strLen_append]; exact Nat.le_trans (m := 102000) (by omega) (by decide)
   exact ⟨b', t4, rfl, e2, e2, .str _, H4, I4.tok _, ⟨_, rfl⟩, q4 _⟩
 refine wpAny_formatField_str ?_ ?_ hfit
 · exact fin _ _ (I2.tok _)
 · exact fin _ _ ((I2.tok _).tok _)
end
section
variable {X : Cx} {k : Nat} {C : Addr} {ps : List Str} {sp : Sp} {m y : Str} {i : Nat} {apos pos pos' pos2 : Pos} {o e : Expr} {es : List Expr} {ta : TE} {t : TA}
def tXSetM (C : Addr) (m : Str) (i : Nat) (sp : Sp) (ta : TE) (t : TA) : TX := fun Qn Qx σ H => ta σ H fun x H1 => ∃ a dx fs, x = .ref a /\ H1 a = some (.ins C dx fs) /\ fs.lookup m = none /\ t σ H1 fun vs H2 => sp (.ref a :: vs) H2 (fun v H3 => Qn (σ.set i (some v)) H3) fun c _ H3 => ∃ D, c = .ref D /\ Qx D H3
theorem px_setM {pl : Sem Bool} (hxe : X.xe = fun _ _ => False) (h : HasMX X.prog X.w X.K X.mg X.base k C m ps sp) (c : Cls X.K C) (hr : Room k X.A) (hN : X.N.Nodup) (hi : X.N[i]? = some y) (hy : Loc X.env.scope y) (ho : PE X o ta) (ha : PA X (e :: es) t)
   (hs : swapsWith (.Call (.Attribute o m apos) (e :: es) [] pos) (some (.Name y pos')) pos2.line X.env = pure false := by rfl) (hf : X.fn y = true \/ X.env.scope.names.lookup y = some .local := by first | exact .inl rfl | exact .inr rfl | assumption)
   (he : starEach (e :: es) X.env = (false, eval e X.env) :: starEach es X.env := by rfl) (hpl : (backTo pos (starEach es X.env)).any (·.1) = false := by rfl)
   (ht : eval (.Call (.Attribute o m apos) (e :: es) [] pos) X.env = (do
     let ov ← eval o X.env
     standAt apos.atName
     let (f, first) ← holding [ov] (getMethod ov m pl)
     callWith pos f first (backTo pos (starEach (e :: es) X.env)) (backToKw pos (keywordEach [] X.env))) := by rfl) :
   PX X [.Assign [.Name y pos'] (.Call (.Attribute o m apos) (e :: es) [] pos) pos2] (tXSetM C m i sp ta t) := by
 intro pins s σ H Qn Qx I hq
 obtain ⟨f, fd, F, hb, mm⟩ := h.ex
 have hO := ho pins s σ H _ I hq
 rw [hxe] at hO
 refine wpAny_execs_cons (wpAny_mono (Q := fun fl s1 => fl = .next /\ ∃ σ' H', Inv X pins σ' H' s1 /\ Qn σ' H') ?_ (fun fl s1 z => ?_) fun _ _ z => z)
 · refine wpAny_Assign_Name (wpAny_mono (Q := EP X pins σ fun v H2 => Qn (σ.set i (some v)) H2) ?_ (fun v s1 z => ?_) fun _ _ z => z) hs
   · refine PySem.W.methodCall_KW (pl := pl) (wpAny_mono hO (fun u s1 z => ?_) fun _ _ z => z.elim) ht
     obtain ⟨x, H1, I1, rx, a, dx, fs, ex, ea, l, q⟩ := z
     subst ex
     obtain rfl : u = Value.ref a := rx
     refine qK I1 ea c mm l ?_
     have hA := ha pos pins s1 σ H1 _ I1 q
     rw [hxe] at hA
     refine PySem.W.callWith_K (first := [.ref a]) (h₀ := X.base) I.ok.mod.kin mm.kp (wpAny_mono hA (fun us s2 z => ?_) fun _ _ z => z.elim) he hpl
     obtain ⟨vs, H2, I2, r, q2⟩ := z
     refine ⟨I2.kIn, ?_⟩
     have rc : Vals (.ref a :: vs) (Value.ref a :: us) := .cons rfl r
     have hl : (Value.ref a :: us).length = ps.length := by rw [← rc.length]; exact F.len _ _ _ _ q2
     have hb2 := hb s2 (Value.ref a :: us) I2.kIn (by rw [List.append_nil]; exact hl)
     rw [List.append_nil] at hb2
     refine wpAny_call (codeAny_mono (F.run X.A X.stack s2 H2 ⟨Value.ref a :: us, []⟩ (Value.ref a :: us) (.ref a :: vs) _ _ hr I2.env0 hb2 rc q2) fun rr s3 z => ?_)
     cases rr with
     | error ev =>
       obtain ⟨ea, C, a0, B, H', rfl, os, bare, fl, C', eC, qx⟩ := z
       cases eC
       exact ⟨H2, s2, ea, C, a0, B, H', rfl, I2, os, bare, fl, qx⟩
     | ok fl =>
       cases fl with
       | ret u => exact I2.after z
       | next => exact False.elim z
       | brk => exact False.elim z
       | cont => exact False.elim z
   · obtain ⟨v', H1, I1, r1, q1⟩ := z
     exact xU I1 hN hi hy r1 (fun s2 I2 => ⟨rfl, _, H1, I2, q1⟩) hf
 · obtain ⟨rfl, z⟩ := z
   exact wpAny_execs_nil ⟨rfl, z⟩
end
section
variable {X : Cx} {k : Nat} {C : Addr} {ps : List Str} {sp : Sp} {x : Str} {p pos : Pos}
theorem qV (h : HasI X.prog X.w X.K X.mg X.base k C x ps sp) (hr : Room (k + 1) X.A) (hg : Gl X x) (hdb : (x == ("__debug__" : Str)) = false := by decide) : PE X (.Call (.Name x p) [] [] pos) (tMake C sp [] E0 tNil) := by
 obtain ⟨f, fd, F, b, M, m⟩ := h.ex
 exact pe_make0 M F hr hg m b .nil pass0 hdb
end
end L2
set_option maxHeartbeats 8000000
namespace C
open PySem L2
seal PE PT PW PA PS PSs PG PGs PI PPs PO PSet PIf
def top (i : Nat) : Stmt := PySem.Challenge.pw_clashbook_k32_rules_come_and_go.main.body.getD i (.Pass ⟨0, 0, 0, 0⟩)
abbrev s_l : Stmt := top 12
theorem sc_l : FnScope ["script", "k", "cell", "mixed"] ["script", "k"] (zH s_l) := ⟨rfl, rfl, rfl, by decide +kernel, rfl, by decide +kernel, by decide +kernel⟩
abbrev s_i : Stmt := top 14
theorem sc_i : FnScope ["script", "k", "many", "letters", "first", "spell", "row", "j", "size", "at", "names", "n", "word"] ["script", "k", "many"] (zH s_i) := ⟨rfl, rfl, rfl, by decide +kernel, rfl, by decide +kernel, by decide +kernel⟩
theorem p1060 : (0 : Int) < 10 ^ Int.toNat 60 := by show (0 : Int) < 10 ^ 60; simp
theorem at_toNat {α : Type} {xs : List α} {n : Int} {x : α} (h0 : 0 <= n) (h : xs[n.toNat]? = some x) : atI xs n = some x := by
 obtain ⟨m, rfl⟩ : ∃ m : Nat, n = (m : Int) := ⟨n.toNat, by omega⟩
 exact xK (by simpa using h)
theorem idxI (zs : List Int) (k : Int) (h0 : 0 <= k) (h1 : k < zs.length) : ∃ z, atI (zs.map V.int) k = some (.int z) := by
 have hk : k.toNat < zs.length := by omega
 exact ⟨zs[k.toNat], at_toNat h0 (by rw [List.getElem?_map, List.getElem?_eq_getElem hk]; rfl)⟩
def spDr (K : PySem.W.Frag) : Sp := fun vs H Q _ => ∃ (a : Addr) (ns : List Int) (k : Nat), vs = [.ref a, .int k] /\ SqL K H a (ns.map V.int) /\ ns.length <= 63 /\ k <= 100 /\ ∀ z : Int, 0 <= z -> Q (.int z) H
abbrev nV (n : Nat) : V := .int (n : Int)
structure Nms (H : Hp) (p : Addr) (m : Nat) (zs : List Str) : Prop where
 lst : H p = some (.lst (zs.map V.str))
 len : zs.length = m
 nd : zs.Nodup
 nm : ∀ z ∈ zs, Nm z
theorem Nms.same {H H' : Hp} {p : Addr} {m : Nat} {zs : List Str} (e : Same H H') (h : Nms H p m zs) : Nms H' p m zs := ⟨e _ _ h.lst, h.len, h.nd, h.nm⟩
def spNs (K : PySem.W.Frag) : Sp := fun vs H Q _ => ∃ (a : Addr) (ns : List Int) (k m : Nat), vs = [.ref a, .int k, .int m] /\ SqL K H a (ns.map V.int) /\ ns.length <= 63 /\ k <= 99 /\ 1 <= m /\ m <= 5 /\ ∀ p zs H', Same H H' -> Nms H' p m zs -> Q (.ref p) H'
def wd (rs : List Nat) : Str := ⟨(rs.map (97 + ·)).toArray⟩
theorem xF (rs : List Nat) : (wd rs).length = rs.length := by
 show ((rs.map (97 + ·)).toArray).size = _
 rw [List.size_toArray, List.length_map]
theorem wd_cps (rs : List Nat) : (wd rs).cps.toList = rs.map (97 + ·) := rfl
theorem wd_inj {rs ts : List Nat} (h : wd rs = wd ts) : rs = ts := by
 have h2 : rs.map (97 + ·) = ts.map (97 + ·) := congrArg (fun x : Str => x.cps.toList) h
 clear h
 induction rs generalizing ts with
 | nil => cases ts with
   | nil => rfl
   | cons t ts => simp at h2
 | cons r rs ih => cases ts with
   | nil => simp at h2
   | cons t ts =>
     simp only [List.map_cons, List.cons.injEq] at h2
     rw [ih h2.2, show r = t by omega]
theorem qY (n : Nat) (h : n < 26) : atI ("abcdefghijklmnopqrstuvwxyz" : Str).cps.toList (n : Int) = some (97 + n) := by
 have h2 : ∀ k : Fin 26, ("abcdefghijklmnopqrstuvwxyz" : Str).cps.toList[k.val]? = some (97 + k.val) := by decide +kernel
 exact xK (h2 ⟨n, h⟩)
theorem glue_one : ∀ (rs : List Nat), glue [] (rs.map fun r => [97 + r]) = rs.map (97 + ·)
 | [] => rfl
 | [r] => rfl
 | r :: r' :: rs => by
   have ih := glue_one (r' :: rs)
   show [97 + r] ++ [] ++ glue [] ((r' :: rs).map fun r => [97 + r]) = _
   rw [ih]
   rfl
theorem join_wd (rs : List Nat) : Txt.join "" (rs.map fun r => (⟨#[97 + r]⟩ : Str)) = wd rs := by
 have h := glued_toS [] (rs.map fun r => [97 + r])
 rw [List.map_map, glue_one] at h
 have e : ("" : Str) = toS [] := by decide +kernel
 show Builtin.Str.glued "" _ = _
 rw [e]
 exact h
def wn (rs : List Nat) (sz at' n : Nat) : List Nat := (List.range sz).map fun j => (rs.getD j 0 + (if j = at' then n else 0)) % 26
open Classical in
noncomputable def nmF (qs : List Nat) : Str := if wd qs = "none" \/ wd qs = "all" then wd qs ++ "x" else wd qs
theorem jB (rs : List Nat) (sz at' n : Nat) : (wn rs sz at' n).length = sz := by unfold wn; rw [List.length_map, List.length_range]
theorem nmF_nm {rs : List Nat} {sz at' n : Nat} (hsz : 1 <= sz /\ sz <= 8) : Nm (nmF (wn rs sz at' n)) := by
 have hl := jB rs sz at' n
 have hq : ∀ r ∈ wn rs sz at' n, r < 26 := fun r hr => by
   unfold wn at hr
   obtain ⟨j, _, rfl⟩ := List.mem_map.mp hr
   omega
 generalize wn rs sz at' n = qs at hl hq
 have hw : ∀ c ∈ (wd qs).cps.toList, 97 <= c /\ c <= 122 := fun c hc => by
   rw [wd_cps] at hc
   obtain ⟨r, hr, rfl⟩ := List.mem_map.mp hc
   have := hq r hr
   omega
 unfold nmF
 by_cases h : wd qs = "none" \/ wd qs = "all"
 · rw [if_pos h]
   rcases h with h | h
   · rw [h]; exact ⟨by decide +kernel, by decide +kernel, by decide +kernel, by decide +kernel, by decide +kernel⟩
   · rw [h]; exact ⟨by decide +kernel, by decide +kernel, by decide +kernel, by decide +kernel, by decide +kernel⟩
 · rw [if_neg h]
   exact ⟨by rw [xF]; omega, by rw [xF]; omega, hw, fun e => h (.inl e), fun e => h (.inr e)⟩
theorem app_x {x y : Str} (h : x ++ "x" = y ++ "x") : x = y := by
 have h2 := congrArg (fun z : Str => z.cps.toList) h
 simp only [cps_app] at h2
 have h3 := List.append_cancel_right h2
 exact str_ext (by rw [← Array.toList_inj]; exact h3)
theorem nmF_inj {qs ts : List Nat} (hl : qs.length = ts.length) (h : nmF qs = nmF ts) : qs = ts := by
 have hx : ("x" : Str).length = 1 := by decide +kernel
 unfold nmF at h
 by_cases h1 : wd qs = "none" \/ wd qs = "all" <;> by_cases h2 : wd ts = "none" \/ wd ts = "all"
 · rw [if_pos h1, if_pos h2] at h
   exact wd_inj (app_x h)
 · rw [if_pos h1, if_neg h2] at h
   have := congrArg Str.length h
   rw [len_app, hx, xF, xF] at this
   omega
 · rw [if_neg h1, if_pos h2] at h
   have := congrArg Str.length h
   rw [len_app, hx, xF, xF] at this
   omega
 · rw [if_neg h1, if_neg h2] at h
   exact wd_inj h
theorem nmF_nd {rs : List Nat} {sz at' m : Nat} (hrl : rs.length = 8) (hr : ∀ r ∈ rs, r < 26) (hsz : sz <= 8) (hat : at' < sz) (hm : m <= 5) : ((List.range m).map fun n => nmF (wn rs sz at' n)).Nodup := by
 refine List.pairwise_iff_getElem.mpr fun x y hx hy hxy e => ?_
 rw [List.length_map, List.length_range] at hx hy
 rw [List.getElem_map, List.getElem_map, List.getElem_range, List.getElem_range] at e
 have e2 := nmF_inj (by rw [jB, jB]) e
 have e3 := congrArg (·[at']?) e2
 unfold wn at e3
 simp only [List.getElem?_map, List.getElem?_range hat, Option.map_some, Option.some.injEq, if_true] at e3
 omega
theorem cut_take (xs : List V) (k : Nat) (h : k <= xs.length) : cutV xs none (some (k : Int)) = xs.take k := by
 unfold cutV
 rw [HT.sIx_nat, HT.sIx_none, List.drop_zero, Nat.sub_zero, Nat.min_eq_left h]
section
variable {P : Program} {w : World} {K : PySem.W.Frag} {mg : Str -> Option Value} {base : Heap} {f : Addr} {fd : FuncData}
theorem ok_draw (bi : Bi mg) (F : Fun K "_law_draw" "_law_draw" s_l f fd) : FnOk P w K mg base CX0 1 f fd ["script", "k"] (spDr K) := by
 refine F.ok sc_l (fun vs H Q E h => ?_) (fun cdv A outer s H vs Q E hr h => ?_)
 · obtain ⟨a, ns, k, rfl, _⟩ := h
   rfl
 obtain ⟨a, ns, k, rfl, hS, hl, hk, q⟩ := h
 refine ⟨_, (zB (yA (zP op_eq (zK call_len rfl bi.len bt_len (zA (pv 0) pa_nil)) zD (zR _)) (zI (zM zD)) pss_nil) (zB (zL (i := 2) sc_l.nd rfl (Or.inl rfl) (zJ op_mod (zQ ix_list (pv 0) (zJ op_mod (pv 1) (zK call_len rfl bi.len bt_len (zA (pv 0) pa_nil))) (fun _ _ => rfl)) (zJ op_pow zD zD))) (zB (yA (zP op_lt (pv 1) (zK call_len rfl bi.len bt_len (zA (pv 0) pa_nil)) (zR _)) (zI (zM (pv 2))) pss_nil) (zB (zL (i := 3) sc_l.nd rfl (Or.inl rfl) (zJ op_mod (zJ op_add (zJ op_add (pv 2) (zJ op_mul (zJ op_mul zD (pv 1)) (pv 1))) zD) zD)) (zI (zM (zJ op_mod (zJ op_mul (pv 3) (pv 3)) zD))))))), ?_⟩
 refine zG fun N hN => ?_
 simp! []
 refine ⟨_, .inl ⟨_, hS, rfl⟩, rfl, ?_⟩
 rw [List.length_map]
 by_cases h0 : ns.length = 0
 · rw [if_pos (by omega)]
   exact q 0 (by omega)
 rw [if_neg (by omega)]
 refine hN _ _ ?_
 clear hN
 refine zG fun N hN => ?_
 simp! []
 have hm0 : 0 <= (k : Int) % (ns.length : Int) := Int.emod_nonneg _ (by omega)
 have hm1 : (k : Int) % (ns.length : Int) < ns.length := Int.emod_lt_of_pos _ (by omega)
 obtain ⟨z, hz⟩ := idxI ns ((k : Int) % (ns.length : Int)) hm0 hm1
 refine ⟨ns.length, .inl ⟨_, hS, by rw [List.length_map]⟩, by omega, _, hS, _, hz, ⟨by decide, by decide, by decide⟩, _, rfl, p1060, hN _ _ ?_⟩
 clear hN
 have hc := Int.emod_nonneg z (b := 10 ^ Int.toNat 60) (Int.ne_of_gt p1060)
 generalize z % 10 ^ Int.toNat 60 = cell at hc
 refine zG fun N hN => ?_
 simp! []
 refine ⟨ns.length, .inl ⟨_, hS, by rw [List.length_map]⟩, ?_⟩
 split
 · exact q cell hc
 refine hN _ _ ?_
 clear hN
 refine zG fun N hN => ?_
 simp! []
 refine ⟨.inl ⟨by decide, by decide⟩, .inl ⟨by omega, by omega⟩, by decide, hN _ _ ?_⟩
 clear hN
 have h1 := Int.emod_nonneg (cell + 7919 * (k : Int) * (k : Int) + 1) (b := 2147483647) (by decide)
 have h2 := Int.emod_lt_of_pos (cell + 7919 * (k : Int) * (k : Int) + 1) (b := 2147483647) (by decide)
 generalize (cell + 7919 * (k : Int) * (k : Int) + 1) % 2147483647 = mixed at h1 h2
 simp! []
 refine ⟨.inl ⟨by omega, by omega⟩, by decide, q _ (Int.emod_nonneg _ (by decide))⟩
theorem ok_names (bi : Bi mg) (h_l : Has P w K mg base 1 "_law_draw" ["script", "k"] (spDr K)) (F : Fun K "_law_names" "_law_names" s_i f fd) : FnOk P w K mg base CX0 2 f fd ["script", "k", "many"] (spNs K) := by
 refine F.ok sc_i (fun vs H Q E h => ?_) (fun cdv A outer s H vs Q E hr h => ?_)
 · obtain ⟨a, ns, k, m, rfl, _⟩ := h
   rfl
 obtain ⟨a, ns, k, m, rfl, hS, hl, hk, h1, h5, q⟩ := h
 refine ⟨_, (zB (zL (i := 3) sc_i.nd rfl (Or.inr rfl) yD) (zB (zL (i := 4) sc_i.nd rfl (Or.inl rfl) (zN h_l (hr.mono (by omega)) rfl (zA (pv 0) (zA (pv 1) pa_nil)))) (zB (zL (i := 5) sc_i.nd rfl (Or.inl rfl) (zJ op_mod (zJ op_mul (zN h_l (hr.mono (by omega)) rfl (zA (pv 0) (zA (zJ op_add (pv 1) zD) pa_nil))) zD) (zJ op_pow zD zD))) (zB (zL (i := 6) sc_i.nd rfl (Or.inr rfl) (yE pa_nil)) (zB (jE PassesOwn.never rfl (yS rfl bi.range (zA zD pa_nil)) (zX (i := 7) sc_i.nd rfl (Or.inl rfl)) (zB (yQ (xN PySem.F.plainAttrs_list PySem.F.slot_list_append PySem.F.type_list_append mt_append (pv 6) (zA (zJ op_mod (pv 5) zD) pa_nil))) (zI (zL (i := 5) sc_i.nd rfl (Or.inl rfl) (zJ op_fdiv (pv 5) zD))))) (zB (yA (zP op_eq (zJ op_mod (pv 4) zD) zD (zR _)) (zB (qD (zJ op_add zD (zJ op_mod (zQ ix_list (pv 6) zD (fun _ _ => rfl)) zD)) (pg_sub (pv 6) zD set_list)) (zI (zM (jX ["j"] ["letters", "row"] [3, 6] (yS rfl bi.range (zA (pv 2) pa_nil)) (fun _ _ _ _ nd => zX (i := 0) nd rfl (Or.inl rfl)) (fun _ _ _ _ => jW) (fun _ _ _ _ => (pe_bmK K PySem.F.plainAttrs_str PySem.F.slot_str_join PySem.F.type_str_join (mt_joinK K) yD (zA (by exact (jX ["n"] ["letters"] [1] (pi_listK K (pe_slice (sl_listK K) (pv 2) po_none (po_some (zJ op_add (pv 0) zD)))) (fun _ _ _ _ nd => zX (i := 0) nd rfl (Or.inl rfl)) (fun _ _ _ _ => jW) (fun _ _ _ _ => (zQ ix_str (pv 1) (pv 0) (fun _ _ => rfl))))) pa_nil))))))) pss_nil) (zB (zL (i := 8) sc_i.nd rfl (Or.inl rfl) (zJ op_add zD (zJ op_mod (zJ op_fdiv (pv 4) zD) zD))) (zB (zL (i := 9) sc_i.nd rfl (Or.inr rfl) (zJ op_mod (zJ op_fdiv (pv 4) zD) (pv 8))) (zB (zL (i := 10) sc_i.nd rfl (Or.inl rfl) (yE pa_nil)) (zB (jE PassesOwn.never rfl (yS rfl bi.range (zA (pv 2) pa_nil)) (zX (i := 11) sc_i.nd rfl (Or.inr rfl)) (zB (zL (i := 12) sc_i.nd rfl (Or.inl rfl) (xN PySem.F.plainAttrs_str PySem.F.slot_str_join PySem.F.type_str_join mt_join yD (zA (jX ["j"] ["letters", "row", "n", "at"] [3, 6, 11, 9] (yS rfl bi.range (zA (pv 8) pa_nil)) (fun _ _ _ _ nd => zX (i := 0) nd rfl (Or.inl rfl)) (fun _ _ _ _ => jW) (fun _ _ _ _ => (zQ ix_str (pv 1) (zJ op_mod (zJ op_add (zQ (ix_listK K) (pv 2) (pv 0) (fun _ _ => rfl)) (zJ op_mul (pv 3) (jG call_intB rfl bi.int bt_int (zA (xD op_eq (pv 0) (pv 4) (zR _)) pa_nil)))) zD) (fun _ _ => rfl)))) pa_nil))) (zB (yA (PW.pt (xW (zP op_eq (pv 12) yD (zR _)) (jD (zP op_eq (pv 12) yD (zR _))))) (zI (zL (i := 12) sc_i.nd rfl (Or.inl rfl) (zJ op_add_str (pv 12) yD))) pss_nil) (zI (yQ (xN PySem.F.plainAttrs_list PySem.F.slot_list_append PySem.F.type_list_append mt_append (pv 10) (zA (pv 12) pa_nil))))))) (zI (zM (pv 10))))))))))))), ?_⟩
 refine zG fun N hN => ?_
 simp! []
 refine hN _ _ ?_
 clear hN
 refine zG fun N hN => ?_
 simp! [spDr]
 refine ⟨ns, k, rfl, hS, hl, by omega, fun fi hfi => hN _ _ ?_⟩
 clear hN
 refine zG fun N hN => ?_
 simp! [spDr]
 refine ⟨ns, k + 1, by omega, hS, hl, by omega, fun z hz => ⟨.inr ⟨by decide, by decide⟩, ⟨by decide, by decide, by decide⟩, by decide, hN _ _ ?_⟩⟩
 clear hN
 have hsp := Int.emod_nonneg (z * 982451653) (b := 26 ^ Int.toNat 8) (by decide)
 generalize z * 982451653 % 26 ^ Int.toNat 8 = sp at hsp
 refine zG fun N hN => ?_
 simp! []
 refine ⟨zO (by decide), fun pr hpr => hN _ _ ?_⟩
 clear hN
 have s1 := zF hpr (.lst [])
 have k1 : upd H pr (.lst []) pr = some (.lst (([] : List Nat).map nV)) := zC
 generalize upd H pr (.lst []) = H1 at s1 k1 ⊢
 refine yM (fun σ H' => ∃ (rs : List Nat) (sp : Int) (o : Option V), Same H H' /\ H' pr = some (.lst (rs.map nV)) /\ rs.length = 8 /\ (∀ r ∈ rs, r < 26) /\ σ = [some (V.ref a), some (V.int k), some (V.int m), some (V.str "abcdefghijklmnopqrstuvwxyz"), some (V.int fi), some (V.int sp), some (V.ref pr), o, none, none, none, none, none]) (fun N hN => ?_) (fun σ H' h => ?_)
 · simp! []
   refine ⟨by decide, by decide, ?_⟩
   refine xZ (n := Int.toNat 8) (fun i σ H' => ∃ (rs : List Nat) (sp : Int) (o : Option V), Same H H' /\ H' pr = some (.lst (rs.map nV)) /\ rs.length = i /\ (∀ r ∈ rs, r < 26) /\ 0 <= sp /\ σ = [some (V.ref a), some (V.int k), some (V.int m), some (V.str "abcdefghijklmnopqrstuvwxyz"), some (V.int fi), some (V.int sp), some (V.ref pr), o, none, none, none, none, none]) ⟨[], _, _, s1, k1, rfl, (fun r hr => by cases hr), hsp, rfl⟩ (fun i σ H' hi h => ?_) (fun σ H' h => ?_)
   · obtain ⟨rs, sp, o, s2, k2, hrl, hr26, hs0, rfl⟩ := h
     have hi8 : i < 8 := hi
     simp! []
     have h0 : 0 <= sp % 26 := by omega
     refine ⟨.inl ⟨rfl, _, SqL.of k2⟩, by decide, _, k2, jC (by rw [List.length_map]; omega), ⟨by decide, by decide⟩, s2.upd hpr, rs ++ [(sp % 26).toNat], ?_, by rw [List.length_append, hrl]; rfl, fun r hr => ?_, sp / 26, by omega, rfl, _, rfl⟩
     · rw [zC, List.map_append]
       show some (HO.lst (rs.map nV ++ [V.int (sp % 26)])) = some (HO.lst (rs.map nV ++ [V.int (((sp % 26).toNat : Nat) : Int)]))
       rw [show (((sp % 26).toNat : Nat) : Int) = sp % 26 by omega]
     · rcases List.mem_append.mp hr with hr | hr
       · exact hr26 r hr
       · rw [List.mem_singleton.mp hr]; omega
   · obtain ⟨rs, sp, o, s2, k2, hrl, hr26, hs0, rfl⟩ := h
     exact hN _ _ ⟨rs, _, _, s2, k2, hrl, hr26, rfl⟩
 clear s1 k1
 obtain ⟨rs, sp, o, s1, k1, hrl, hr26, rfl⟩ := h
 refine zG fun N hN => ?_
 simp! [gSub, rSetL]
 refine ⟨by decide, rfl, ?_⟩
 by_cases hf3 : fi % 3 = 0
 · rw [if_pos hf3]
   obtain ⟨r0, rt, rfl⟩ : ∃ r0 rt, rs = r0 :: rt := by
     cases rs with
     | nil => simp at hrl
     | cons r0 rt => exact ⟨r0, rt, rfl⟩
   replace k1 : H' pr = some (.lst (nV r0 :: rt.map nV)) := k1
   refine ⟨_, SqL.of k1, nV r0, at0, _, rfl, by decide, ?_⟩
   obtain ⟨r1, hr1, e1⟩ : ∃ r1 : Nat, (1 <= r1 /\ r1 <= 12) /\ (1 + (r0 : Int) % 12) = (r1 : Int) := ⟨1 + r0 % 12, by omega, by omega⟩
   rw [e1]
   refine ⟨_, k1, 0, by simp [ixN], by omega, by omega, ?_⟩
   show LcW _ _ _ _ _ _ _ (upd H' pr (HO.lst ((r1 :: rt).map nV))) Q
   have hr' : ∀ r ∈ r1 :: rt, r < 26 := fun r hr => by
     rcases List.mem_cons.mp hr with rfl | hr
     · omega
     · exact hr26 r (List.mem_cons_of_mem _ hr)
   have hrl' : (r1 :: rt).length = 8 := hrl
   have s2 := s1.upd (o := .lst ((r1 :: rt).map nV)) hpr
   have k2 : upd H' pr (.lst ((r1 :: rt).map nV)) pr = some (.lst ((r1 :: rt).map nV)) := zC
   generalize upd H' pr (.lst ((r1 :: rt).map nV)) = H2 at s2 k2 ⊢
   clear k1 s1 hrl hr26
   refine lc_range (n := (m : Int).toNat) (fun i ys σ H3 => Same H2 H3 /\ ys = (List.range i).map (fun j => V.str (wd ((r1 :: rt).take (j + 1)))) /\ ∃ o, σ = [o, some (V.str "abcdefghijklmnopqrstuvwxyz"), some (V.ref pr)]) ⟨Same.refl _, rfl, _, rfl⟩ (zO (by omega)) (fun i ys σ H3 e => ?_) (fun i ys σ H3 C hi e hC => ?_) (fun ys σ H3 e p hp => ?_)
   · rw [e.2.1, List.length_map, List.length_range]
     exact Nat.le_refl _
   · obtain ⟨s3, rfl, o, rfl⟩ := e
     have e0 : (0 : Int) + (i : Int) + 1 = ((i + 1 : Nat) : Int) := by omega
     simp! []
     refine ⟨rfl, _, SqL.of (s3 _ _ k2), fun p1 hp1 => ?_⟩
     rw [e0, cut_take _ _ (by rw [List.length_map]; omega), ← List.map_take]
     have s4 := s3.trans (zF hp1 (.lst (((r1 :: rt).take (i + 1)).map nV)))
     have k4 : upd H3 p1 (.lst (((r1 :: rt).take (i + 1)).map nV)) p1 = some (.lst (((r1 :: rt).take (i + 1)).map nV)) := zC
     generalize upd H3 p1 (.lst (((r1 :: rt).take (i + 1)).map nV)) = H4 at s4 k4 ⊢
     have hq : ∀ r ∈ (r1 :: rt).take (i + 1), r < 26 := fun r hr => hr' r (List.mem_of_mem_take hr)
     have hql : ((r1 :: rt).take (i + 1)).length <= 8 := by rw [List.length_take]; omega
     generalize hqs : (r1 :: rt).take (i + 1) = qs at k4 hq hql ⊢
     refine ⟨⟨_, SqL.of k4⟩, ?_⟩
     refine lc_list (xs := qs.map nV) (fun k ys σ H5 => H5 = H4 /\ ys = (qs.take k).map (fun r => V.str ⟨#[97 + r]⟩) /\ ∃ o, σ = [o, some (V.str "abcdefghijklmnopqrstuvwxyz")]) ⟨rfl, rfl, _, rfl⟩ (zO (by rw [List.length_map]; omega)) (fun k ys σ H5 e => ?_) (fun k ys σ H5 e => by rw [e.1]; exact SqL.of k4) (fun k x ys σ H5 C' hx e hC' => ?_) (fun ys σ H5 e p hp => ?_)
     · rw [e.2.1, List.length_map, List.length_take]
       exact Nat.min_le_left ..
     · obtain ⟨rfl, rfl, o, rfl⟩ := e
       rw [List.getElem?_map] at hx
       obtain ⟨r, hr, rfl⟩ := Option.map_eq_some_iff.mp hx
       obtain ⟨hkl, hk2⟩ := List.getElem?_eq_some_iff.mp hr
       simp! []
       refine ⟨zO (by decide +kernel), _, qY r (hq r (List.mem_of_getElem? hr)), hC' _ _ _ ⟨rfl, ?_, _, rfl⟩⟩
       rw [List.take_succ_eq_append_getElem hkl, hk2, List.map_append]
       rfl
     · obtain ⟨rfl, rfl, o, rfl⟩ := e
       rw [List.length_map, List.take_of_length_le (Nat.le_refl _)]
       refine ⟨p, rfl, qs.map (fun r => (⟨#[97 + r]⟩ : Str)), SqL.of (by rw [zC, List.map_map]; rfl), ?_, hC _ _ _ ⟨s4.trans (zF hp _), ?_, _, rfl⟩⟩
       · rw [List.map_map]
         have e1 : ((fun x : Str => x.length) ∘ fun r => (⟨#[97 + r]⟩ : Str)) = fun _ => 1 := rfl
         rw [e1, List.length_map]
         have e2 : (qs.map fun _ => 1).sum = qs.length := by
           clear hqs k4 hq hql
           induction qs with
           | nil => rfl
           | cons q qs ih => rw [List.map_cons, List.sum_cons, ih, List.length_cons]; omega
         rw [e2, show (Str.ofString "").length = 0 from rfl]
         omega
       · rw [join_wd, List.range_succ, List.map_append, ← hqs]
         rfl
   · obtain ⟨s3, rfl, o, rfl⟩ := e
     rw [show (m : Int).toNat = m from Int.toNat_natCast _]
     refine q p ((List.range m).map fun j => wd ((r1 :: rt).take (j + 1))) _ ((s2.trans s3).trans (zF hp _)) ⟨by rw [zC, List.map_map]; rfl, by rw [List.length_map, List.length_range], ?_, fun z hz => ?_⟩
     · refine List.pairwise_iff_getElem.mpr fun x y hx hy hxy e => ?_
       rw [List.length_map, List.length_range] at hx hy
       rw [List.getElem_map, List.getElem_map, List.getElem_range, List.getElem_range] at e
       have := congrArg List.length (wd_inj e)
       rw [List.length_take, List.length_take] at this
       omega
     · obtain ⟨j, hj, rfl⟩ := List.mem_map.mp hz
       have hj := List.mem_range.mp hj
       have hlj : (wd ((r1 :: rt).take (j + 1))).length = j + 1 := by rw [xF, List.length_take]; omega
       have h0 : (wd ((r1 :: rt).take (j + 1))).cps.toList[0]? = some (97 + r1) := by rw [wd_cps]; rfl
       refine ⟨by omega, by omega, fun c hc => ?_, fun e => ?_, fun e => ?_⟩
       · rw [wd_cps] at hc
         obtain ⟨r, hr, rfl⟩ := List.mem_map.mp hc
         have := hr' r (List.mem_of_mem_take hr)
         omega
       · rw [e, show ("none" : Str).cps.toList[0]? = some 110 by decide +kernel] at h0
         have := Option.some.inj h0
         omega
       · rw [e, show ("all" : Str).cps.toList[0]? = some 97 by decide +kernel] at h0
         have := Option.some.inj h0
         omega
 rw [if_neg hf3]
 refine hN _ _ ?_
 clear hN
 refine zG fun N hN => ?_
 simp! []
 refine ⟨⟨by decide, by decide⟩, by decide, hN _ _ ?_⟩
 clear hN
 obtain ⟨sz, hsz, esz⟩ : ∃ sz : Nat, (1 <= sz /\ sz <= 8) /\ 1 + fi / 3 % 8 = (sz : Int) := ⟨(1 + fi / 3 % 8).toNat, by omega, by omega⟩
 rw [esz]
 refine zG fun N hN => ?_
 simp! []
 refine ⟨⟨by decide, by decide⟩, by omega, hN _ _ ?_⟩
 clear hN
 have ha0 := Int.emod_nonneg (fi / 24) (b := (sz : Int)) (by omega)
 have ha1 := Int.emod_lt_of_pos (fi / 24) (b := (sz : Int)) (by omega)
 obtain ⟨at', hat, eat⟩ : ∃ at' : Nat, at' < sz /\ fi / 24 % (sz : Int) = (at' : Int) := ⟨(fi / 24 % (sz : Int)).toNat, by omega, by omega⟩
 rw [eat]
 clear ha0 ha1 eat esz
 refine zG fun N hN => ?_
 simp! []
 refine ⟨zO (by decide), fun pn hpn => hN _ _ ?_⟩
 clear hN
 have npn := s1.free hpn
 have nrn : pr ≠ pn := yF k1 hpn
 have s2 := s1.trans (zF hpn (.lst []))
 have k2 : upd H' pn (.lst []) pn = some (.lst (([] : List Str).map V.str)) := zC
 replace k1 := zF hpn (.lst []) _ _ k1
 generalize upd H' pn (.lst []) = H2 at s2 k1 k2 ⊢
 refine yM (fun σ H' => ∃ (o7 o11 o12 : Option V), Same H H' /\ H' pn = some (.lst (((List.range m).map fun n => nmF (wn rs sz at' n)).map V.str)) /\ σ = [some (V.ref a), some (V.int k), some (V.int m), some (V.str "abcdefghijklmnopqrstuvwxyz"), some (V.int fi), some (V.int sp), some (V.ref pr), o7, some (V.int sz), some (V.int at'), some (V.ref pn), o11, o12]) (fun N hN => ?_) (fun σ H' h => ?_)
 · simp! []
   refine ⟨by omega, by omega, ?_⟩
   refine xZ (n := (m : Int).toNat) (fun i σ H' => ∃ (o7 o11 o12 : Option V), Same H H' /\ H' pr = some (.lst (rs.map nV)) /\ H' pn = some (.lst (((List.range i).map fun n => nmF (wn rs sz at' n)).map V.str)) /\ σ = [some (V.ref a), some (V.int k), some (V.int m), some (V.str "abcdefghijklmnopqrstuvwxyz"), some (V.int fi), some (V.int sp), some (V.ref pr), o7, some (V.int sz), some (V.int at'), some (V.ref pn), o11, o12]) ⟨_, _, _, s2, k1, k2, rfl⟩ (fun i σ H' hi h => ?_) (fun σ H' h => ?_)
   rotate_left
   · obtain ⟨o7, o11, o12, s3, _, k3, rfl⟩ := h
     rw [show (m : Int).toNat = m from Int.toNat_natCast _] at k3
     exact hN _ _ ⟨_, _, _, s3, k3, rfl⟩
   obtain ⟨o7, o11, o12, s3, kr, k3, rfl⟩ := h
   have e0 : (0 : Int) + (i : Int) = ((i : Nat) : Int) := by omega
   have him : i < m := by omega
   show tSeq _ _ _ _ _
   refine zG fun N hN => ?_
   simp! []
   rw [e0]
   refine ⟨rfl, by omega, by omega, ?_⟩
   refine lc_range (n := (sz : Int).toNat) (fun j ys σ H5 => H5 = H' /\ ys = ((wn rs sz at' i).take j).map (fun r => V.str ⟨#[97 + r]⟩) /\ ∃ o, σ = [o, some (V.str "abcdefghijklmnopqrstuvwxyz"), some (V.ref pr), some (V.int i), some (V.int at')]) ⟨rfl, rfl, _, rfl⟩ (zO (by omega)) (fun j ys σ H5 e => ?_) (fun j ys σ H5 C' hj e hC' => ?_) (fun ys σ H5 e p hp => ?_)
   · rw [e.2.1, List.length_map, List.length_take]
     exact Nat.min_le_left ..
   · obtain ⟨rfl, rfl, o, rfl⟩ := e
     have e1 : (0 : Int) + (j : Int) = ((j : Nat) : Int) := by omega
     have hj8 : j < rs.length := by omega
     simp! []
     rw [e1]
     refine ⟨_, SqL.of kr, nV rs[j], xK (by rw [List.getElem?_map, List.getElem?_eq_getElem hj8]; rfl), ?_⟩
     have e2 : ((rs[j] : Int) + (i : Int) * (if (j : Int) = (at' : Int) then 1 else 0)) % 26 = (((rs.getD j 0 + (if j = at' then i else 0)) % 26 : Nat) : Int) := by
       rw [List.getD_eq_getElem?_getD, List.getElem?_eq_getElem hj8]
       show ((rs[j] : Int) + (i : Int) * (if (j : Int) = (at' : Int) then 1 else 0)) % 26 = (((rs[j] + (if j = at' then i else 0)) % 26 : Nat) : Int)
       by_cases hja : j = at'
       · rw [if_pos hja, if_pos (by omega)]; omega
       · rw [if_neg hja, if_neg (by omega)]; omega
     refine ⟨rfl, .inl ⟨by omega, by omega⟩, _, rfl, by decide, zO (by decide +kernel), 97 + (rs.getD j 0 + (if j = at' then i else 0)) % 26, ?_, hC' _ _ _ ⟨rfl, ?_, _, rfl⟩⟩
     · rw [e2]
       exact qY _ (by omega)
     · have hjl : j < (wn rs sz at' i).length := by rw [jB]; omega
       rw [List.take_succ_eq_append_getElem hjl, List.map_append]
       have e3 : (wn rs sz at' i)[j] = (rs.getD j 0 + (if j = at' then i else 0)) % 26 := by
         have : (wn rs sz at' i)[j]? = some ((rs.getD j 0 + (if j = at' then i else 0)) % 26) := by
           unfold wn
           rw [List.getElem?_map, List.getElem?_range (by omega)]
           rfl
         rw [List.getElem?_eq_getElem hjl] at this
         exact Option.some.inj this
       rw [e3]
       rfl
   obtain ⟨rfl, rfl, o, rfl⟩ := e
   rw [show (sz : Int).toNat = sz from Int.toNat_natCast _, List.take_of_length_le (by rw [jB]; exact Nat.le_refl _)]
   have hwl := jB rs sz at' i
   refine ⟨p, rfl, (wn rs sz at' i).map (fun r => (⟨#[97 + r]⟩ : Str)), SqL.of (by rw [zC, List.map_map]; rfl), ?_, hN _ _ ?_⟩
   · rw [List.map_map]
     have e1 : ((fun x : Str => x.length) ∘ fun r => (⟨#[97 + r]⟩ : Str)) = fun _ => 1 := rfl
     rw [e1, List.length_map]
     have e2 : ∀ qs : List Nat, (qs.map fun _ => 1).sum = qs.length := fun qs => by
       induction qs with
       | nil => rfl
       | cons q qs ih => rw [List.map_cons, List.sum_cons, ih, List.length_cons]; omega
     rw [e2, show (Str.ofString "").length = 0 from rfl]
     omega
   clear hN
   rw [join_wd]
   have s4 := s3.trans (zF hp (.lst ((wn rs sz at' i).map fun r => V.str ⟨#[97 + r]⟩)))
   replace kr := zF hp (.lst ((wn rs sz at' i).map fun r => V.str ⟨#[97 + r]⟩)) _ _ kr
   replace k3 := zF hp (.lst ((wn rs sz at' i).map fun r => V.str ⟨#[97 + r]⟩)) _ _ k3
   generalize upd H5 p (.lst ((wn rs sz at' i).map fun r => V.str ⟨#[97 + r]⟩)) = H6 at s4 kr k3 ⊢
   refine yM (fun σ H' => H' = H6 /\ σ = [some (V.ref a), some (V.int k), some (V.int m), some (V.str "abcdefghijklmnopqrstuvwxyz"), some (V.int fi), some (V.int sp), some (V.ref pr), o7, some (V.int sz), some (V.int at'), some (V.ref pn), some (V.int i), some (V.str (nmF (wn rs sz at' i)))]) (fun N hN => ?_) (fun σ H' h => ?_)
   · have hx1 : (wd (wn rs sz at' i)).length + (Str.ofString "x").length <= sizeLine := by
       rw [xF, hwl, show (Str.ofString "x").length = 1 by decide +kernel]
       exact zO (by omega)
     simp! []
     unfold nmF at hN
     refine ⟨rfl, ?_⟩
     by_cases c1 : wd (wn rs sz at' i) = "none"
     · rw [if_pos c1]
       rw [if_pos (.inl c1)] at hN
       exact ⟨hx1, hN _ _ ⟨rfl, rfl⟩⟩
     rw [if_neg c1]
     refine ⟨rfl, ?_⟩
     by_cases c2 : wd (wn rs sz at' i) = "all"
     · rw [if_pos c2]
       rw [if_pos (.inr c2)] at hN
       exact ⟨hx1, hN _ _ ⟨rfl, rfl⟩⟩
     rw [if_neg c2]
     rw [if_neg (by rintro (z | z); exact c1 z; exact c2 z)] at hN
     exact hN _ _ ⟨rfl, rfl⟩
   obtain ⟨rfl, rfl⟩ := h
   simp! []
   refine ⟨.inl ⟨rfl, _, SqL.of k3⟩, _, k3, jC (by rw [List.length_map, List.length_map, List.length_range]; omega), s4.upd npn, by rw [zE nrn]; exact kr, ?_, _, rfl⟩
   rw [zC, List.range_succ, List.map_append, List.map_append]
   rfl
 obtain ⟨o7, o11, o12, s3, k3, rfl⟩ := h
 simp! []
 exact q pn _ _ s3 ⟨k3, by rw [List.length_map, List.length_range], nmF_nd hrl hr26 hsz.2 hat h5, fun z hz => by
   obtain ⟨n, _, rfl⟩ := List.mem_map.mp hz
   exact nmF_nm hsz⟩
end
theorem p60 : (0 : Int) < 10 ^ Int.toNat 60 := p1060
theorem p31 : (2147483647 : Int) < 10 ^ Int.toNat 60 := by show (2147483647 : Int) < 10 ^ 60; decide
def spDrB (K : PySem.W.Frag) : Sp := fun vs H Q _ => ∃ (a : Addr) (ns : List Int) (k : Nat), vs = [.ref a, .int k] /\ SqL K H a (ns.map V.int) /\ ns.length <= 63 /\ k <= 100 /\ ∀ z : Int, 0 <= z -> z < 10 ^ Int.toNat 60 -> Q (.int z) H
section
variable {P : Program} {w : World} {K : PySem.W.Frag} {mg : Str -> Option Value} {base : Heap} {f : Addr} {fd : FuncData}
theorem ok_drawB (bi : Bi mg) (F : Fun K "_law_draw" "_law_draw" s_l f fd) : FnOk P w K mg base CX0 1 f fd ["script", "k"] (spDrB K) := by
 refine F.ok sc_l (fun vs H Q E h => ?_) (fun cdv A outer s H vs Q E hr h => ?_)
 · obtain ⟨a, ns, k, rfl, _⟩ := h
   rfl
 obtain ⟨a, ns, k, rfl, hS, hl, hk, q⟩ := h
 refine ⟨_, (zB (yA (zP op_eq (zK call_len rfl bi.len bt_len (zA (pv 0) pa_nil)) zD (zR _)) (zI (zM zD)) pss_nil) (zB (zL (i := 2) sc_l.nd rfl (Or.inl rfl) (zJ op_mod (zQ ix_list (pv 0) (zJ op_mod (pv 1) (zK call_len rfl bi.len bt_len (zA (pv 0) pa_nil))) (fun _ _ => rfl)) (zJ op_pow zD zD))) (zB (yA (zP op_lt (pv 1) (zK call_len rfl bi.len bt_len (zA (pv 0) pa_nil)) (zR _)) (zI (zM (pv 2))) pss_nil) (zB (zL (i := 3) sc_l.nd rfl (Or.inl rfl) (zJ op_mod (zJ op_add (zJ op_add (pv 2) (zJ op_mul (zJ op_mul zD (pv 1)) (pv 1))) zD) zD)) (zI (zM (zJ op_mod (zJ op_mul (pv 3) (pv 3)) zD))))))), ?_⟩
 refine zG fun N hN => ?_
 simp! []
 refine ⟨_, .inl ⟨_, hS, rfl⟩, rfl, ?_⟩
 rw [List.length_map]
 by_cases h0 : ns.length = 0
 · rw [if_pos (by omega)]
   exact q 0 (by omega) p60
 rw [if_neg (by omega)]
 refine hN _ _ ?_
 clear hN
 refine zG fun N hN => ?_
 simp! []
 have hm0 : 0 <= (k : Int) % (ns.length : Int) := Int.emod_nonneg _ (by omega)
 have hm1 : (k : Int) % (ns.length : Int) < ns.length := Int.emod_lt_of_pos _ (by omega)
 obtain ⟨z, hz⟩ := idxI ns ((k : Int) % (ns.length : Int)) hm0 hm1
 refine ⟨ns.length, .inl ⟨_, hS, by rw [List.length_map]⟩, by omega, _, hS, _, hz, ⟨by decide, by decide, by decide⟩, _, rfl, p1060, hN _ _ ?_⟩
 clear hN
 have hc := Int.emod_nonneg z (b := 10 ^ Int.toNat 60) (Int.ne_of_gt p1060)
 have hcu := Int.emod_lt_of_pos z p1060
 generalize z % 10 ^ Int.toNat 60 = cell at hc hcu
 refine zG fun N hN => ?_
 simp! []
 refine ⟨ns.length, .inl ⟨_, hS, by rw [List.length_map]⟩, ?_⟩
 split
 · exact q cell hc hcu
 refine hN _ _ ?_
 clear hN
 refine zG fun N hN => ?_
 simp! []
 refine ⟨.inl ⟨by decide, by decide⟩, .inl ⟨by omega, by omega⟩, by decide, hN _ _ ?_⟩
 clear hN
 have h1 := Int.emod_nonneg (cell + 7919 * (k : Int) * (k : Int) + 1) (b := 2147483647) (by decide)
 have h2 := Int.emod_lt_of_pos (cell + 7919 * (k : Int) * (k : Int) + 1) (b := 2147483647) (by decide)
 generalize (cell + 7919 * (k : Int) * (k : Int) + 1) % 2147483647 = mixed at h1 h2
 simp! []
 refine ⟨.inl ⟨by omega, by omega⟩, by decide, q _ (Int.emod_nonneg _ (by decide)) (Int.lt_trans (Int.emod_lt_of_pos _ (by decide)) p31)⟩
end
mutual
def nms : Tm -> List Str
 | .name x => [x]
 | .node _ ts => nmss ts
def nmss : List Tm -> List Str
 | [] => []
 | t :: ts => nms t ++ nmss ts
end
structure TsOk (zs : List Str) (d n : Nat) (ts : List Tm) : Prop where
 fit : ∀ t ∈ ts, Fit d t
 nam : ∀ t ∈ ts, ∀ x ∈ nms t, x ∈ zs
 sz : wts ts <= n
section
variable {P : Program} {w : World} {K : PySem.W.Frag} {mg : Str -> Option Value} {base : Heap} {f : Addr} {fd : FuncData}
end
def SameD (d : Addr) (H H' : Hp) : Prop := ∀ b o, H b = some o -> b ≠ d -> H' b = some o
theorem SameD.trans {d : Addr} {H H1 H2 : Hp} (a : SameD d H H1) (b : SameD d H1 H2) : SameD d H H2 := fun c o h n => b c o (a c o h n) n
theorem SameD.upd {d : Addr} {H H1 : Hp} {o : HO} (a : SameD d H H1) : SameD d H (L2.upd H1 d o) := fun c o' h n => by
 rw [zE n]
 exact a c o' h n
theorem SameD.tups {d : Addr} {H H' : Hp} {kvs : List (Key × V)} (a : SameD d H H') (h : H d = some (.dK kvs)) : TupSame H H' := fun b xs e => a b _ e (ne_of e h (by intro z; cases z))
section
variable {P : Program} {w : World} {K : PySem.W.Frag} {mg : Str -> Option Value} {base : Heap} {f : Addr} {fd : FuncData}
end
abbrev s_m : Stmt := top 15
theorem sc_m : FnScope ["pick", "names", "one", "way", "other"] ["pick", "names"] (zH s_m) := ⟨rfl, rfl, rfl, by decide +kernel, rfl, by decide +kernel, by decide +kernel⟩
abbrev s_a : Stmt := top 16
theorem sc_a : FnScope ["pick", "names", "room"] ["pick", "names"] (zH s_a) := ⟨rfl, rfl, rfl, by decide +kernel, rfl, by decide +kernel, by decide +kernel⟩
def spSl : Sp := fun vs H Q _ => ∃ (c : Int) (na : Addr) (j : Nat) (zs : List Str), vs = [.int c, .ref na] /\ 0 <= c /\ Nms H na j zs /\ 1 <= j /\ j <= 5 /\ ∀ v t H', Same H H' -> TAt H' t v -> Fit 20 t -> wt t <= 4 -> (∀ x ∈ nms t, x ∈ zs) -> Q v H'
def Gs (zs : List Str) (p : Tm × Tm) : Prop := (Fit 20 p.1 /\ wt p.1 <= 4) /\ (Fit 20 p.2 /\ wt p.2 <= 4) /\ ∀ x ∈ nms p.1 ++ nms p.2, x ∈ zs
def spSs : Sp := fun vs H Q _ => ∃ (c : Int) (na : Addr) (j : Nat) (zs : List Str), vs = [.int c, .ref na] /\ 0 <= c /\ Nms H na j zs /\ 1 <= j /\ j <= 5 /\ ∀ v s H', Same H H' -> SAt H' s v -> Gs zs s -> Q v H'
section
variable {P : Program} {w : World} {K : PySem.W.Frag} {mg : Str -> Option Value} {base : Heap} {f : Addr} {fd : FuncData}
theorem ok_small (bi : Bi mg) (F : Fun K "_law_small" "_law_small" s_m f fd) : FnOk P w K mg base CX0 1 f fd ["pick", "names"] spSl := by
 refine F.ok sc_m (fun vs H Q E h => ?_) (fun cdv A outer s H vs Q E hr h => ?_)
 · obtain ⟨c, na, j, zs, rfl, _⟩ := h
   rfl
 obtain ⟨c, na, j, zs, rfl, hc, hnm, hj1, hj5, q⟩ := h
 refine ⟨_, (zB (zL (i := 2) sc_m.nd rfl (Or.inl rfl) (yB (zA yD (zA (zQ ix_list (pv 1) (zJ op_mod (pv 0) (zK call_len rfl bi.len bt_len (zA (pv 1) pa_nil))) (fun _ _ => rfl)) pa_nil)))) (zB (zL (i := 3) sc_m.nd rfl (Or.inl rfl) (zJ op_mod (zJ op_fdiv (pv 0) (zK call_len rfl bi.len bt_len (zA (pv 1) pa_nil))) zD)) (zB (zL (i := 4) sc_m.nd rfl (Or.inl rfl) (yB (zA yD (zA (zQ ix_list (pv 1) (zJ op_mod (zJ op_fdiv (zJ op_fdiv (pv 0) (zK call_len rfl bi.len bt_len (zA (pv 1) pa_nil))) zD) (zK call_len rfl bi.len bt_len (zA (pv 1) pa_nil))) (fun _ _ => rfl)) pa_nil)))) (zB (yA (zP op_eq (pv 3) zD (zR _)) (zI (zM (yB (zA yD (zA (pv 2) pa_nil))))) pss_nil) (zB (yA (zP op_eq (pv 3) zD (zR _)) (zI (zM (yB (zA yD pa_nil)))) pss_nil) (zB (yA (zP op_eq (pv 3) zD (zR _)) (zI (zM (yB (zA yD (zA (pv 2) (zA (pv 4) pa_nil)))))) pss_nil) (zB (yA (zP op_eq (pv 3) zD (zR _)) (zI (zM (yB (zA yD (zA (pv 4) (zA (yB (zA yD (zA (pv 2) pa_nil))) pa_nil)))))) pss_nil) (zB (yA (zP op_eq (pv 3) zD (zR _)) (zI (zM (yB (zA yD pa_nil)))) pss_nil) (zI (zM (pv 2))))))))))), ?_⟩
 have hjz := hnm.len
 have ix : ∀ c : Int, ∃ n, c % (zs.length : Int) = (n : Nat) /\ ∃ h : n < zs.length, atI (zs.map V.str) ((n : Nat) : Int) = some (V.str zs[n]) := fun c => by
   have h1 := Int.emod_nonneg c (b := (zs.length : Int)) (by omega)
   have h2 := Int.emod_lt_of_pos c (b := (zs.length : Int)) (by omega)
   have h3 : (c % (zs.length : Int)).toNat < zs.length := by omega
   exact ⟨(c % (zs.length : Int)).toNat, by omega, h3, xK (by rw [List.getElem?_map, List.getElem?_eq_getElem h3]; rfl)⟩
 refine zG fun N hN => ?_
 simp! []
 obtain ⟨n1, e1, hn1, ha1⟩ := ix c
 refine ⟨zs.length, .inl ⟨_, SqL.of hnm.lst, (List.length_map _).symm⟩, by omega, _, SqL.of hnm.lst, V.str zs[n1], by rw [e1]; exact ha1, zO (by decide), fun p1 hp1 => hN _ _ ?_⟩
 clear hN
 have s1 := zF hp1 (.tup [V.str "name", V.str zs[n1]])
 have t1 : TAt (upd H p1 (.tup [V.str "name", V.str zs[n1]])) (.name zs[n1]) (.ref p1) := TAt.mkName zC
 generalize upd H p1 (.tup [V.str "name", V.str zs[n1]]) = H1 at s1 t1 ⊢
 have hm1 : zs[n1] ∈ zs := List.getElem_mem hn1
 have hN1 := hnm.nm _ hm1
 generalize zs[n1] = y1 at t1 hm1 hN1
 refine zG fun N hN => ?_
 simp! []
 refine ⟨zs.length, .inl ⟨_, SqL.of (s1 _ _ hnm.lst), (List.length_map _).symm⟩, ?_⟩
 refine ⟨⟨by omega, by omega⟩, by decide, hN _ _ ?_⟩
 clear hN
 generalize c / (zs.length : Int) % 7 = way
 obtain ⟨n2, e2, hn2, ha2⟩ := ix (c / (zs.length : Int) / 7)
 refine zG fun N hN => ?_
 simp! []
 refine ⟨zs.length, .inl ⟨_, SqL.of (s1 _ _ hnm.lst), (List.length_map _).symm⟩, ⟨by omega, by omega⟩, ⟨by decide, by decide⟩, zs.length, .inl ⟨_, SqL.of (s1 _ _ hnm.lst), (List.length_map _).symm⟩, by omega, _, SqL.of (s1 _ _ hnm.lst), V.str zs[n2], by rw [e2]; exact ha2, zO (by decide), fun p2 hp2 => hN _ _ ?_⟩
 clear hN
 have s2 := zF hp2 (.tup [V.str "name", V.str zs[n2]])
 have t2 : TAt (upd H1 p2 (.tup [V.str "name", V.str zs[n2]])) (.name zs[n2]) (.ref p2) := TAt.mkName zC
 replace t1 := TAt.tups s2.tups t1
 replace s2 := s1.trans s2
 generalize upd H1 p2 (.tup [V.str "name", V.str zs[n2]]) = H2 at s2 t2 t1 ⊢
 have hm2 : zs[n2] ∈ zs := List.getElem_mem hn2
 have hN2 := hnm.nm _ hm2
 generalize zs[n2] = y2 at t2 hm2 hN2
 have f1 : Fit 0 (.name y1) := hN1
 have f2 : Fit 0 (.name y2) := hN2
 have done : ∀ {J : Hp} {v : V} {t : Tm}, Same H2 J -> TAt J t v -> Fit 2 t -> wt t <= 4 -> (∀ x ∈ nms t, x = y1 \/ x = y2) -> Q v J := fun sJ ht hf hw hn => q _ _ _ (s2.trans sJ) ht (hf.mono (by omega)) hw fun x hx => (hn x hx).elim (fun e => e ▸ hm1) fun e => e ▸ hm2
 refine zG fun N hN => ?_
 simp! []
 refine ⟨rfl, ?_⟩
 by_cases c2 : way = 2
 · rw [if_pos c2]
   refine ⟨zO (by decide), fun p hp => done (zF hp _) (TAt.mkNode (w := "not") (ts := [.name y1]) (vs := [.ref p1]) zC (TAts.one (TAt.tups (zF hp _).tups t1))) ?_ ?_ ?_⟩
   · exact ⟨.inr (.inr (.inl ⟨rfl, rfl⟩)), fun t ht => by rw [List.mem_singleton.mp ht]; exact f1.mono (by omega)⟩
   · simp [wt, wts]
   · intro x hx; simp [nms, nmss] at hx; exact .inl hx
 rw [if_neg c2]
 refine hN _ _ ?_
 clear hN
 refine zG fun N hN => ?_
 simp! []
 refine ⟨rfl, ?_⟩
 by_cases c3 : way = 3
 · rw [if_pos c3]
   refine ⟨zO (by decide), fun p hp => done (zF hp _) (TAt.mkNode (w := "none") (ts := []) (vs := []) zC rfl) ?_ ?_ ?_⟩
   · exact ⟨.inl ⟨rfl, rfl⟩, fun t ht => by cases ht⟩
   · simp [wt, wts]
   · intro x hx; simp [nms, nmss] at hx
 rw [if_neg c3]
 refine hN _ _ ?_
 clear hN
 refine zG fun N hN => ?_
 simp! []
 refine ⟨rfl, ?_⟩
 by_cases c4 : way = 4
 · rw [if_pos c4]
   refine ⟨zO (by decide), fun p hp => done (zF hp _) (TAt.mkNode (w := "both") (ts := [.name y1, .name y2]) (vs := [.ref p1, .ref p2]) zC (TAts.append (TAts.one (TAt.tups (zF hp _).tups t1)) (TAts.one (TAt.tups (zF hp _).tups t2)))) ?_ ?_ ?_⟩
   · refine ⟨.inr (.inr (.inr (.inl ⟨rfl, by simp⟩))), fun t ht => ?_⟩
     simp only [List.mem_cons, List.not_mem_nil, or_false] at ht
     rcases ht with rfl | rfl
     · exact f1.mono (by omega)
     · exact f2.mono (by omega)
   · simp [wt, wts]
   · intro x hx; simp [nms, nmss] at hx; exact hx
 rw [if_neg c4]
 refine hN _ _ ?_
 clear hN
 refine zG fun N hN => ?_
 simp! []
 refine ⟨rfl, ?_⟩
 by_cases c5 : way = 5
 · rw [if_pos c5]
   refine ⟨zO (by decide), fun p hp => ⟨zO (by decide), fun p' hp' => ?_⟩⟩
   have sn := (zF hp (.tup [V.str "not", V.ref p1])).trans (zF hp' (.tup [V.str "either", V.ref p2, V.ref p]))
   refine done sn (TAt.mkNode (w := "either") (ts := [.name y2, .node "not" [.name y1]]) (vs := [.ref p2, .ref p]) zC (TAts.append (TAts.one (TAt.tups sn.tups t2)) (TAts.one (TAt.mkNode (w := "not") (ts := [.name y1]) (vs := [.ref p1]) (zF hp' _ _ _ zC) (TAts.one (TAt.tups sn.tups t1)))))) ?_ ?_ ?_
   · refine ⟨.inr (.inr (.inr (.inr ⟨rfl, by simp⟩))), fun t ht => ?_⟩
     simp only [List.mem_cons, List.not_mem_nil, or_false] at ht
     rcases ht with rfl | rfl
     · exact f2.mono (by omega)
     · exact ⟨.inr (.inr (.inl ⟨rfl, rfl⟩)), fun t ht => by rw [List.mem_singleton.mp ht]; exact f1⟩
   · simp [wt, wts]
   · intro x hx; simp [nms, nmss] at hx; exact hx.symm
 rw [if_neg c5]
 refine hN _ _ ?_
 clear hN
 refine zG fun N hN => ?_
 simp! []
 refine ⟨rfl, ?_⟩
 by_cases c6 : way = 6
 · rw [if_pos c6]
   refine ⟨zO (by decide), fun p hp => done (zF hp _) (TAt.mkNode (w := "all") (ts := []) (vs := []) zC rfl) ?_ ?_ ?_⟩
   · exact ⟨.inr (.inl ⟨rfl, rfl⟩), fun t ht => by cases ht⟩
   · simp [wt, wts]
   · intro x hx; simp [nms, nmss] at hx
 rw [if_neg c6]
 refine hN _ _ ?_
 clear hN
 simp! []
 refine done (Same.refl _) t1 (f1.mono (by omega)) (by rw [wt]; omega) fun x hx => ?_
 rw [nms, List.mem_singleton] at hx
 exact .inl hx
theorem jR (bi : Bi mg) (h_m : Has P w K mg base 1 "_law_small" ["pick", "names"] spSl) (F : Fun K "_law_small_saying" "_law_small_saying" s_a f fd) : FnOk P w K mg base CX0 2 f fd ["pick", "names"] spSs := by
 refine F.ok sc_a (fun vs H Q E h => ?_) (fun cdv A outer s H vs Q E hr h => ?_)
 · obtain ⟨c, na, j, zs, rfl, _⟩ := h
   rfl
 obtain ⟨c, na, j, zs, rfl, hc, hnm, hj1, hj5, q⟩ := h
 refine ⟨_, (zB (zL (i := 2) sc_a.nd rfl (Or.inl rfl) (zJ op_mul (zJ op_mul zD (zK call_len rfl bi.len bt_len (zA (pv 1) pa_nil))) (zK call_len rfl bi.len bt_len (zA (pv 1) pa_nil)))) (zI (zM (yB (zA (zN h_m (hr.mono (by omega)) rfl (zA (zJ op_mod (pv 0) (pv 2)) (zA (pv 1) pa_nil))) (zA (zN h_m (hr.mono (by omega)) rfl (zA (zJ op_fdiv (pv 0) (pv 2)) (zA (pv 1) pa_nil))) pa_nil)))))), ?_⟩
 have hjz := hnm.len
 refine zG fun N hN => ?_
 simp! []
 refine ⟨zs.length, .inl ⟨_, SqL.of hnm.lst, (List.length_map _).symm⟩, .inl ⟨by decide, by decide⟩, zs.length, .inl ⟨_, SqL.of hnm.lst, (List.length_map _).symm⟩, .inr ⟨by omega, by omega⟩, hN _ _ ?_⟩
 clear hN
 have hroom : 0 < 7 * (zs.length : Int) * (zs.length : Int) /\ 7 * (zs.length : Int) * (zs.length : Int) < 1000 := by
   rw [hjz]
   match j, hj1, hj5 with
   | 1, _, _ => decide
   | 2, _, _ => decide
   | 3, _, _ => decide
   | 4, _, _ => decide
   | 5, _, _ => decide
 generalize 7 * (zs.length : Int) * (zs.length : Int) = room at hroom ⊢
 simp! []
 refine ⟨by omega, _, na, j, zs, rfl, Int.emod_nonneg _ (by omega), hnm, hj1, hj5, fun v1 t1 H1 s1 h1 f1 w1 n1 => ?_⟩
 refine ⟨⟨by omega, by omega⟩, _, na, j, zs, rfl, Int.ediv_nonneg hc (by omega), hnm.same s1, hj1, hj5, fun v2 t2 H2 s2 h2 f2 w2 n2 => ⟨zO (by decide), fun p hp => ?_⟩⟩
 have s3 := zF hp (.tup [v1, v2])
 exact q (.ref p) (t1, t2) _ ((s1.trans s2).trans s3) ⟨p, _, rfl, zC, _, _, rfl, TAt.tups (s2.trans s3).tups h1, _, _, rfl, TAt.tups s3.tups h2, rfl⟩ ⟨⟨f1, w1⟩, ⟨f2, w2⟩, fun x hx => (List.mem_append.mp hx).elim (n1 x) (n2 x)⟩
end
abbrev Rul := List (Tm × Tm) × (Tm × Tm)
abbrev s_b : Stmt := top 17
theorem sc_b : FnScope ["cell", "names", "rest", "room", "one", "premises", "k"] ["cell", "names"] (zH s_b) := ⟨rfl, rfl, rfl, by decide +kernel, rfl, by decide +kernel, by decide +kernel⟩
theorem SAt.tups {H H' : Hp} (e : TupSame H H') {p : Tm × Tm} {v : V} (h : SAt H p v) : SAt H' p v := by
 obtain ⟨a, v1, v2, rfl, ha, h1, h2⟩ := SAt.out h
 exact ⟨a, _, rfl, e _ _ ha, _, _, rfl, TAt.tups e h1, _, _, rfl, TAt.tups e h2, rfl⟩
theorem SAts.tups {H H' : Hp} (e : TupSame H H') : ∀ {ps : List (Tm × Tm)} {vs : List V}, SAts H ps vs -> SAts H' ps vs
 | [], vs, h => h
 | p :: ps, vs, h => by
   obtain ⟨v, r, rfl, h1, h2⟩ := h
   exact ⟨v, r, rfl, SAt.tups e h1, SAts.tups e h2⟩
def Gr (zs : List Str) (r : Rul) : Prop := r.1.length <= 5 /\ (∀ p ∈ r.1, Gs zs p) /\ Gs zs r.2
def RuF (H H' : Hp) (r : Rul) (v : V) : Prop := ∃ (ra la : Addr) (sv : V) (vs : List V), v = .ref ra /\ H' ra = some (.tup [.ref la, sv]) /\ H la = none /\ H' la = some (.lst vs) /\ SAts H' r.1 vs /\ SAt H' r.2 sv
def spSr : Sp := fun vs H Q _ => ∃ (c : Int) (na : Addr) (j : Nat) (zs : List Str), vs = [.int c, .ref na] /\ Nms H na j zs /\ 1 <= j /\ j <= 5 /\ ∀ v r H', Same H H' -> RuF H H' r v -> Gr zs r -> Q v H'
section
variable {P : Program} {w : World} {K : PySem.W.Frag} {mg : Str -> Option Value} {base : Heap} {f : Addr} {fd : FuncData}
theorem qP (bi : Bi mg) (h_a : Has P w K mg base 2 "_law_small_saying" ["pick", "names"] spSs) (F : Fun K "_law_small_rule" "_law_small_rule" s_b f fd) : FnOk P w K mg base CX0 3 f fd ["cell", "names"] spSr := by
 refine F.ok sc_b (fun vs H Q E h => ?_) (fun cdv A outer s H vs Q E hr h => ?_)
 · obtain ⟨c, na, j, zs, rfl, _⟩ := h
   rfl
 obtain ⟨c, na, j, zs, rfl, hnm, hj1, hj5, q⟩ := h
 refine ⟨_, (zB (zL (i := 2) sc_b.nd rfl (Or.inl rfl) (zJ op_mod (zJ op_mul (pv 0) zD) (zJ op_pow zD zD))) (zB (zL (i := 3) sc_b.nd rfl (Or.inl rfl) (zJ op_mul zD (zJ op_pow (zK call_len rfl bi.len bt_len (zA (pv 1) pa_nil)) zD))) (zB (zL (i := 4) sc_b.nd rfl (Or.inl rfl) (zN h_a (hr.mono (by omega)) rfl (zA (zJ op_mod (pv 2) (pv 3)) (zA (pv 1) pa_nil)))) (zB (zL (i := 2) sc_b.nd rfl (Or.inl rfl) (zJ op_fdiv (pv 2) (pv 3))) (zB (zL (i := 5) sc_b.nd rfl (Or.inl rfl) (yE pa_nil)) (zB (jE PassesOwn.never rfl (yS rfl bi.range (zA (zJ op_mod (pv 2) zD) pa_nil)) (zX (i := 6) sc_b.nd rfl (Or.inl rfl)) (zB (zL (i := 2) sc_b.nd rfl (Or.inl rfl) (zJ op_fdiv (pv 2) zD)) (zB (yQ (xN PySem.F.plainAttrs_list PySem.F.slot_list_append PySem.F.type_list_append mt_append (pv 5) (zA (zN h_a (hr.mono (by omega)) rfl (zA (zJ op_mod (pv 2) (pv 3)) (zA (pv 1) pa_nil))) pa_nil))) (zI (zL (i := 2) sc_b.nd rfl (Or.inl rfl) (zJ op_fdiv (pv 2) (pv 3))))))) (zI (zM (yB (zA (pv 5) (zA (pv 4) pa_nil))))))))))), ?_⟩
 have hjz := hnm.len
 refine zG fun N hN => ?_
 simp! []
 refine ⟨.inr ⟨by decide, by decide⟩, ⟨by decide, by decide, by decide⟩, by decide, hN _ _ ?_⟩
 clear hN
 have hr0 : 0 <= c * 982451653 % 2 ^ Int.toNat 61 := Int.emod_nonneg _ (by decide)
 generalize c * 982451653 % 2 ^ Int.toNat 61 = rest at hr0 ⊢
 refine zG fun N hN => ?_
 simp! []
 refine ⟨zs.length, .inl ⟨_, SqL.of hnm.lst, (List.length_map _).symm⟩, ⟨by decide, by decide, by omega⟩, .inl ⟨by decide, by decide⟩, hN _ _ ?_⟩
 clear hN
 have hroom : 0 < 49 * (zs.length : Int) ^ Int.toNat 4 /\ 49 * (zs.length : Int) ^ Int.toNat 4 < 100000 := by
   rw [hjz]
   match j, hj1, hj5 with
   | 1, _, _ => decide
   | 2, _, _ => decide
   | 3, _, _ => decide
   | 4, _, _ => decide
   | 5, _, _ => decide
 generalize 49 * (zs.length : Int) ^ Int.toNat 4 = room at hroom ⊢
 refine zG fun N hN => ?_
 simp! []
 refine ⟨by omega, _, na, j, zs, rfl, Int.emod_nonneg _ (by omega), hnm, hj1, hj5, fun v1 s1 H1 e1 h1 g1 => hN _ _ ?_⟩
 clear hN
 refine zG fun N hN => ?_
 simp! []
 refine ⟨⟨by omega, by omega⟩, hN _ _ ?_⟩
 clear hN
 have hr1 : 0 <= rest / room := Int.ediv_nonneg hr0 (by omega)
 generalize rest / room = r1 at hr1 ⊢
 refine zG fun N hN => ?_
 simp! []
 refine ⟨zO (by decide), fun pa hpa => hN _ _ ?_⟩
 clear hN
 refine yM (fun σ H' => ∃ (us : List V) (prs : List (Tm × Tm)) (o1 o2 : Option V), Same H1 H' /\ H' pa = some (.lst us) /\ SAts H' prs us /\ prs.length <= 5 /\ (∀ p ∈ prs, Gs zs p) /\ σ = [some (V.int c), some (V.ref na), o1, some (V.int room), some v1, some (V.ref pa), o2]) (fun N hN => ?_) (fun σ H' h => ?_)
 · simp! []
   refine ⟨by decide, by omega, by omega, ?_⟩
   refine xZ (n := (r1 % 3).toNat) (fun i σ H' => ∃ (us : List V) (prs : List (Tm × Tm)) (r : Int) (o2 : Option V), 0 <= r /\ Same H1 H' /\ H' pa = some (.lst us) /\ SAts H' prs us /\ prs.length = i /\ (∀ p ∈ prs, Gs zs p) /\ σ = [some (V.int c), some (V.ref na), some (V.int r), some (V.int room), some v1, some (V.ref pa), o2]) ⟨[], [], r1, _, hr1, zF hpa _, zC, rfl, rfl, (fun p hp => by cases hp), rfl⟩ (fun i σ H' hi h => ?_) (fun σ H' h => ?_)
   · obtain ⟨us, prs, r, o2, hr2, es, kpa, hps, hpl, hpg, rfl⟩ := h
     refine zG fun N hN => ?_
     simp! []
     refine ⟨⟨by decide, by decide⟩, hN _ _ ?_⟩
     clear hN
     have hr3 : 0 <= r / 3 := by omega
     generalize r / 3 = r3 at hr3 ⊢
     refine zG fun N hN => ?_
     simp! []
     refine ⟨.inl ⟨rfl, _, SqL.of kpa⟩, by omega, _, na, j, zs, rfl, Int.emod_nonneg _ (by omega), hnm.same (e1.trans es), hj1, hj5, fun v2 s2 H2 e2 h2 g2 => ?_⟩
     have kpa2 := e2 _ _ kpa
     have tsm : TupSame H2 (upd H2 pa (.lst (us ++ [v2]))) := fun b xs h => by
       rw [zE (fun z => by rw [z, kpa2] at h; cases h)]
       exact h
     have hul : us.length = prs.length := SAts.length hps
     refine ⟨us, kpa2, Nat.lt_of_lt_of_le (show us.length < 64 by omega) (zO (by decide)), hN _ _ ?_⟩
     clear hN
     simp! []
     refine ⟨⟨by omega, by omega⟩, ?_⟩
     have hr4 : 0 <= r3 / room := Int.ediv_nonneg hr3 (by omega)
     refine ⟨us ++ [v2], prs ++ [s2], r3 / room, hr4, (es.trans e2).upd hpa, zC, ?_, by rw [List.length_append, hpl]; rfl, fun p hp => ?_, rfl, _, rfl⟩
     · unfold SAts
       rw [List.map_append]
       exact DAts.append (SAts.tups tsm (SAts.tups e2.tups hps)) (DAts.one (SAt.tups tsm h2))
     · rcases List.mem_append.mp hp with hp | hp
       · exact hpg p hp
       · rw [List.mem_singleton.mp hp]; exact g2
   · obtain ⟨us, prs, r, o2, hr2, es, kpa, hps, hpl, hpg, rfl⟩ := h
     exact hN _ _ ⟨us, prs, _, _, es, kpa, hps, by omega, hpg, rfl⟩
 obtain ⟨us, prs, o1, o2, es, kpa, hps, hpl, hpg, rfl⟩ := h
 simp! []
 refine ⟨zO (by decide), fun p hp => ?_⟩
 have sp := zF hp (.tup [V.ref pa, v1])
 exact q (.ref p) (prs, s1) _ ((e1.trans es).trans sp) ⟨p, pa, v1, us, rfl, zC, e1.free hpa, sp _ _ kpa, DAts.same sp hps, DAt.same (es.trans sp) h1⟩ ⟨hpl, hpg, g1⟩
end
abbrev s_q : Stmt := top 6
theorem sc_q : FnScope ["n"] ["n"] (zH s_q) := ⟨rfl, rfl, rfl, by decide +kernel, rfl, by decide +kernel, by decide +kernel⟩
abbrev s_s : Stmt := top 9
theorem sc_s : FnScope ["rule"] ["rule"] (zH s_s) := ⟨rfl, rfl, rfl, by decide +kernel, rfl, by decide +kernel, by decide +kernel⟩
abbrev s_j : Stmt := jZ (top 10) 0
theorem sc_j : FnScope ["self"] ["self"] (zH s_j) := ⟨rfl, rfl, rfl, by decide +kernel, rfl, by decide +kernel, by decide +kernel⟩
abbrev s_o : Stmt := jZ (top 10) 1
theorem sc_o : FnScope ["self", "rule", "number"] ["self", "rule"] (zH s_o) := ⟨rfl, rfl, rfl, by decide +kernel, rfl, by decide +kernel, by decide +kernel⟩
abbrev s_k : Stmt := jZ (top 10) 2
theorem sc_k : FnScope ["self", "number"] ["self", "number"] (zH s_k) := ⟨rfl, rfl, rfl, by decide +kernel, rfl, by decide +kernel, by decide +kernel⟩
abbrev s_g : Stmt := jZ (top 10) 3
theorem sc_g : FnScope ["self"] ["self"] (zH s_g) := ⟨rfl, rfl, rfl, by decide +kernel, rfl, by decide +kernel, by decide +kernel⟩
abbrev Nr := Nat × Rul
def bkF (d : Addr) (u : Nat) (wa ta : Addr) : List (Str × V) := [("standing", .ref d), ("numbers_used", .int u), ("watched", .ref wa), ("truths", .ref ta)]
structure BkC (K : PySem.W.Frag) (C : Addr) : Prop where
 cl : Cls K C
 nS : NoAttr K C "standing"
 nU : NoAttr K C "numbers_used"
 nW : NoAttr K C "watched"
 nT : NoAttr K C "truths"
theorem bk_s (d : Addr) (u : Nat) (wa ta : Addr) : (bkF d u wa ta).lookup ("standing" : Str) = some (.ref d) := rfl
theorem bk_u (d : Addr) (u : Nat) (wa ta : Addr) : (bkF d u wa ta).lookup ("numbers_used" : Str) = some (.int u) := rfl
def RuA (H : Hp) (la : Addr) (v : V) (r : Rul) : Prop := ∃ q us s, v = .ref q /\ H q = some (.tup [.ref la, s]) /\ H la = some (.lst us) /\ SAts H r.1 us /\ SAt H r.2 s
structure Fr (M : List Addr) (H H' : Hp) : Prop where
 t : TupSame H H'
 l : ∀ a xs, a ∉ M -> H a = some (.lst xs) -> H' a = some (.lst xs)
theorem Fr.of {M : List Addr} {H H' : Hp} (e : Same H H') : Fr M H H' := ⟨fun _ _ h => e _ _ h, fun _ _ _ h => e _ _ h⟩
theorem Fr.trans {M : List Addr} {H H' H'' : Hp} (a : Fr M H H') (b : Fr M H' H'') : Fr M H H'' := ⟨fun x xs h => b.t x xs (a.t x xs h), fun x xs n h => b.l x xs n (a.l x xs n h)⟩
theorem RuA.fr {M : List Addr} {H H' : Hp} {la : Addr} {v : V} {r : Rul} (e : Fr M H H') (hl : la ∉ M) (h : RuA H la v r) : RuA H' la v r := by
 obtain ⟨q, us, s, rfl, h1, h2, h3, h4⟩ := h
 exact ⟨q, us, s, rfl, e.t _ _ h1, e.l _ _ hl h2, SAts.tups e.t h3, SAt.tups e.t h4⟩
theorem RuA.same {H H' : Hp} {la : Addr} {v : V} {r : Rul} (e : Same H H') (h : RuA H la v r) : RuA H' la v r := RuA.fr (M := []) (Fr.of e) (by simp) h
def Ent (H : Hp) (M : List Addr) (p : Key × V) (q : Nr) : Prop := p.1 = .inl (q.1 : Int) /\ ∃ la, la ∉ M /\ RuA H la p.2 q.2
def BkA (C : Addr) (H : Hp) (M : List Addr) (b d : Addr) (st : List Nr) (u : Nat) : Prop :=
 (∃ dx wa ta, H b = some (.ins C dx (bkF d u wa ta))) /\ (∃ kvs, H d = some (.dK kvs) /\ Paired (Ent H M) kvs st) /\ b ∈ M /\ d ∈ M
structure StO (st : List Nr) (u : Nat) : Prop where
 lt : ∀ q ∈ st, q.1 < u
 nd : (st.map (·.1)).Nodup
 few : st.length <= 12
def Kp (S : List Addr) (H H' : Hp) : Prop := ∀ a o, a ∉ S -> H a = some o -> H' a = some o
theorem zZ {α β : Type} {F G : α -> β -> Prop} (f : ∀ a b, F a b -> G a b) : ∀ {l : List α} {m : List β}, Paired F l m -> Paired G l m
 | _, _, .nil => .nil
 | _, _, .cons h t => .cons (f _ _ h) (zZ f t)
theorem yV {α β : Type} {F : α -> β -> Prop} : ∀ {l : List α} {m : List β} {x : α} {y : β}, Paired F l m -> F x y -> Paired F (l ++ [x]) (m ++ [y])
 | _, _, _, _, .nil, h => .cons h .nil
 | _, _, _, _, .cons g t, h => .cons g (yV t h)
theorem yK {α β : Type} {F : α -> β -> Prop} : ∀ {l : List α} {m : List β}, Paired F l m -> ∀ {i : Nat} {a : α}, l[i]? = some a -> ∃ b, m[i]? = some b /\ F a b
 | _, _, .nil, i, a, h => by simp at h
 | _, _, .cons (b := b) g t, 0, a, h => by
   simp only [List.getElem?_cons_zero, Option.some.injEq] at h
   subst h
   exact ⟨b, rfl, g⟩
 | _, _, .cons g t, i + 1, a, h => by
   simp only [List.getElem?_cons_succ] at h
   obtain ⟨b, h1, h2⟩ := yK t h
   exact ⟨b, by simpa using h1, h2⟩
theorem xI {M : List Addr} {H H' : Hp} (e : Fr M H H') {kvs : List (Key × V)} {st : List Nr} (h : Paired (Ent H M) kvs st) : Paired (Ent H' M) kvs st :=
 zZ (fun _ _ ⟨h1, la, h2, h3⟩ => ⟨h1, la, h2, h3.fr e h2⟩) h
theorem uE {M : List Addr} {H : Hp} {n : Nat} : ∀ {kvs : List (Key × V)} {st : List Nr}, Paired (Ent H M) kvs st -> (∀ q ∈ st, q.1 ≠ n) -> xA kvs (.inl (n : Int)) = none
 | _, _, .nil, _ => rfl
 | _, _, .cons (a := p) (b := q) h t, hn => by
   have : p.1 ≠ .inl (n : Int) := fun e => by
     rw [h.1] at e
     have := Sum.inl.inj e
     exact hn q List.mem_cons_self (by omega)
   obtain ⟨k, v⟩ := p
   rw [yZ this]
   exact uE t fun q' hq => hn q' (List.mem_cons_of_mem _ hq)
theorem qM {M : List Addr} {H : Hp} {n : Int} : ∀ {kvs : List (Key × V)} {st : List Nr}, Paired (Ent H M) kvs st -> (∀ q ∈ st, (q.1 : Int) ≠ n) -> xA kvs (.inl n) = none
 | _, _, .nil, _ => rfl
 | _, _, .cons (a := p) (b := q) h t, hn => by
   have : p.1 ≠ .inl n := fun e => by
     rw [h.1] at e
     exact hn q List.mem_cons_self (Sum.inl.inj e)
   obtain ⟨k, v⟩ := p
   rw [yZ this]
   exact qM t fun q' hq => hn q' (List.mem_cons_of_mem _ hq)
theorem uD {M : List Addr} {H : Hp} {n : Int} : ∀ {kvs : List (Key × V)} {st : List Nr}, Paired (Ent H M) kvs st -> (∃ q ∈ st, (q.1 : Int) = n) -> ∃ v, xA kvs (.inl n) = some v
 | _, _, .nil, h => by obtain ⟨q, hq, _⟩ := h; cases hq
 | _, _, .cons (a := p) (b := q) h t, hn => by
   obtain ⟨k, v⟩ := p
   by_cases c : k = .inl n
   · exact ⟨v, xT c⟩
   · rw [yZ c]
     obtain ⟨q', hq', e⟩ := hn
     rcases List.mem_cons.mp hq' with rfl | hq'
     · exact absurd (h.1.trans (by rw [e])) c
     · exact uD t ⟨q', hq', e⟩
theorem jK {M : List Addr} {H : Hp} {n : Int} : ∀ {kvs : List (Key × V)} {st : List Nr}, Paired (Ent H M) kvs st -> Paired (Ent H M) (jQ kvs (.inl n)) (st.filter fun q => decide ((q.1 : Int) ≠ n))
 | _, _, .nil => .nil
 | _, _, .cons (a := p) (b := q) h t => by
   unfold jQ
   by_cases c : (q.1 : Int) = n
   · rw [List.filter_cons_of_neg (by simpa [h.1] using c), List.filter_cons_of_neg (by simpa using c)]
     exact jK t
   · rw [List.filter_cons_of_pos (by simpa [h.1] using c), List.filter_cons_of_pos (by simpa using c)]
     exact .cons h (jK t)
theorem put_new {κ : Type} [DecidableEq κ] {kvs : List (κ × V)} {k : κ} {v : V} (h : xA kvs k = none) : xR kvs k v = kvs ++ [(k, v)] := by
 unfold xR
 rw [if_neg]
 intro z
 obtain ⟨x, hx, hk⟩ := List.any_eq_true.mp z
 unfold xA at h
 rw [Option.map_eq_none_iff, List.find?_eq_none] at h
 exact h x hx hk
def spWhI : Sp := fun vs H Q _ => ∃ i : Int, vs = [.int i] /\ Q (.bl true) H
def spCop : Sp := fun vs H Q _ => ∃ (v : V) (la : Addr) (r : Rul), vs = [v] /\ RuA H la v r /\ r.1.length <= 100 /\ ∀ v' la' H', Same H H' -> H la' = none -> RuA H' la' v' r -> Q v' H'
def spBI (C : Addr) : Sp := fun vs H Q _ => ∃ (b dx : Addr), vs = [.ref b] /\ H b = some (.ins C dx []) /\ ∀ (d wa ta : Addr) H', Kp [b] H H' -> H d = none -> H' b = some (.ins C dx (bkF d 0 wa ta)) -> H' d = some (.dK []) -> Q .non H'
def spPut (C CU : Addr) : Sp := fun vs H Q E => ∃ (b d : Addr) (v : V) (la : Addr) (r : Rul) (M : List Addr) (st : List Nr) (u : Nat), vs = [.ref b, v] /\ BkA C H M b d st u /\ StO st u /\ (∀ m ∈ M, H m ≠ none) /\ RuA H la v r /\ r.1.length <= 100 /\
 (st.length < 12 -> ∀ H', Kp [b, d] H H' -> BkA C H' M b d (st ++ [(u, r)]) (u + 1) -> Q (.int u) H') /\ (12 <= st.length -> ∀ H', Same H H' -> E (.ref CU) none H')
def spDro (C CR : Addr) : Sp := fun vs H Q E => ∃ (b d : Addr) (n : Int) (M : List Addr) (st : List Nr) (u : Nat), vs = [.ref b, .int n] /\ BkA C H M b d st u /\ n.natAbs.log2 < 1920 /\
 ((∃ q ∈ st, (q.1 : Int) = n) -> ∀ H', Kp [d] H H' -> BkA C H' M b d (st.filter fun q => decide ((q.1 : Int) ≠ n)) u -> Q .non H') /\ ((∀ q ∈ st, (q.1 : Int) ≠ n) -> ∀ H', Same H H' -> E (.ref CR) none H')
def Told (H H' : Hp) (v : V) (q : Nr) : Prop := ∃ ea x la, v = .ref ea /\ H' ea = some (.tup [.int q.1, x]) /\ H la = none /\ RuA H' la x q.2
def Told2 (H H' : Hp) (fa : Addr) (v : V) (q : Nr) : Prop := ∃ ea x la, v = .ref ea /\ H' ea = some (.tup [.int q.1, x]) /\ H la = none /\ la ≠ fa /\ RuA H' la x q.2
theorem RuA.ne {H : Hp} {la ha : Addr} {v : V} {r : Rul} (h : RuA H la v r) (hn : H ha = none) : la ≠ ha := fun e => by
 obtain ⟨q, us, s, rfl, h1, h2, h3, h4⟩ := h
 rw [e, hn] at h2
 cases h2
def spRul (C : Addr) : Sp := fun vs H Q _ => ∃ (b d : Addr) (M : List Addr) (st : List Nr) (u : Nat), vs = [.ref b] /\ BkA C H M b d st u /\ st.length <= 12 /\ (∀ q ∈ st, q.2.1.length <= 100) /\ ∀ (fa : Addr) (ws : List V) H', Same H H' -> H fa = none -> H' fa = some (.lst ws) -> Paired (Told2 H H' fa) ws st -> Q (.ref fa) H'
section
variable {P : Program} {w : World} {K : PySem.W.Frag} {mg : Str -> Option Value} {base : Heap} {f : Addr} {fd : FuncData} {C C_TooMuch C_NoRule : Addr} {bm : List Value} {bn nid iid : String}
theorem uN (bi : Bi mg) (F : Fun K "is_whole" "is_whole" s_q f fd) : FnOk P w K mg base CX0 1 f fd ["n"] spWhI := by
 refine F.ok sc_q (fun vs H Q E h => ?_) (fun cdv A outer s H vs Q E hr h => ?_)
 · obtain ⟨i, rfl, _⟩ := h
   rfl
 obtain ⟨i, rfl, q⟩ := h
 refine ⟨_, (zI (zM (jH (zK (yN (T := "int")) rfl bi.isinstance bt_isinstance (zA (pv 0) (zA (xM bi.int bt_int rfl) pa_nil))) (qF (pe_not (zK (yN (T := "bool")) rfl bi.isinstance bt_isinstance (zA (pv 0) (zA (xM bi.bool bt_bool rfl) pa_nil)))))))), ?_⟩
 simp! []
 exact ⟨_, .int i, true, xC, iteT ⟨_, .int i, false, kit_ib, q⟩⟩
theorem ok_copied (bi : Bi mg) (F : Fun K "copied" "copied" s_s f fd) : FnOk P w K mg base CX0 1 f fd ["rule"] spCop := by
 refine F.ok sc_s (fun vs H Q E h => ?_) (fun cdv A outer s H vs Q E hr h => ?_)
 · obtain ⟨v, la, r, rfl, _⟩ := h
   rfl
 obtain ⟨v, la, r, rfl, ⟨qa, us, s, rfl, h1, h2, h3, h4⟩, hl, q⟩ := h
 refine ⟨_, (zI (zM (yB (zA (jG call_list_of rfl bi.list bt_list (zA (zQ ix_tup (pv 0) zD (fun _ _ => rfl)) pa_nil)) (zA (zQ ix_tup (pv 0) zD (fun _ _ => rfl)) pa_nil))))), ?_⟩
 simp! []
 refine ⟨_, SqT.of h1, _, at0, la, rfl, us, .inl (SqL.of h2), fun l hln => ?_⟩
 have s1 := zF hln (.lst us)
 have k1 : upd H l (.lst us) l = some (.lst us) := zC
 generalize upd H l (.lst us) = H1 at s1 k1 ⊢
 refine ⟨_, SqT.of (s1 _ _ h1), _, at1, zO (by simp), fun p hp => ?_⟩
 have s2 := zF hp (.tup [V.ref l, s])
 exact q _ l _ (s1.trans s2) hln ⟨p, us, s, rfl, zC, s2 _ _ k1, DAts.same (s1.trans s2) h3, DAt.same (s1.trans s2) h4⟩
theorem ok_binit (T : BkC K C) (F : Fun K "__init__" "Book.__init__" s_j f fd) : FnOk P w K mg base CX0 1 f fd ["self"] (spBI C) := by
 refine F.ok sc_j (fun vs H Q E h => ?_) (fun cdv A outer s H vs Q E hr h => ?_)
 · obtain ⟨b, dx, rfl, _⟩ := h
   rfl
 obtain ⟨b, dx, rfl, hb, q⟩ := h
 refine ⟨_, (zB (uK (pv 0) pe_dnewK rfl) (zB (uK (pv 0) zD rfl) (zB (uK (pv 0) (yE pa_nil) rfl) (zI (uK (pv 0) (yE pa_nil) rfl))))), ?_⟩
 refine zG fun N hN => ?_
 simp! [sFld]
 have nb : ∀ {H' : Hp} {a : Addr} {o : HO}, H' b = some o -> H' a = none -> a ≠ b := fun h1 h2 e => by rw [e, h1] at h2; cases h2
 refine fun d hd => ⟨C, dx, [], by rw [zE (Ne.symm (nb hb hd))]; exact hb, T.cl, T.nS, by decide, hN _ _ ?_⟩
 clear hN
 have ndb := nb hb hd
 have x1 : Kp [b] H (upd (upd H d (.dK [])) b (.ins C dx (zY "standing" (.ref d) []))) := fun a o ha hao => by
   rw [List.mem_singleton] at ha
   rw [zE ha]
   exact zF hd _ _ _ hao
 have k1 : upd (upd H d (.dK [])) b (.ins C dx (zY "standing" (.ref d) [])) b = some (.ins C dx (zY "standing" (.ref d) [])) := zC
 have k2 : upd (upd H d (.dK [])) b (.ins C dx (zY "standing" (.ref d) [])) d = some (.dK []) := by rw [zE ndb]; exact zC
 generalize upd (upd H d (.dK [])) b (.ins C dx (zY "standing" (.ref d) [])) = H1 at x1 k1 k2 ⊢
 refine zG fun N hN => ?_
 simp! [sFld]
 refine ⟨C, dx, _, k1, T.cl, T.nU, by show 1 < 1000; decide, hN _ _ ?_⟩
 clear hN
 have kpu : ∀ {H' : Hp} {o : HO}, Kp [b] H H' -> Kp [b] H (upd H' b o) := fun x a o ha hao => by
   have h2 := ha
   rw [List.mem_singleton] at h2
   rw [zE h2]
   exact x a o ha hao
 have kpn : ∀ {H' : Hp} {o : HO} {l : Addr}, Kp [b] H H' -> H' l = none -> Kp [b] H (upd H' l o) := fun x hl a o ha hao => by
   have := x a o ha hao
   rw [zE (fun e => by rw [e, hl] at this; cases this)]
   exact this
 have x2 := kpu (o := .ins C dx (zY "numbers_used" (.int 0) (zY "standing" (.ref d) []))) x1
 have k3 : upd H1 b (.ins C dx (zY "numbers_used" (.int 0) (zY "standing" (.ref d) []))) b = some (.ins C dx (zY "numbers_used" (.int 0) (zY "standing" (.ref d) []))) := zC
 have k4 : upd H1 b (.ins C dx (zY "numbers_used" (.int 0) (zY "standing" (.ref d) []))) d = some (.dK []) := by rw [zE ndb]; exact k2
 generalize upd H1 b (.ins C dx (zY "numbers_used" (.int 0) (zY "standing" (.ref d) []))) = H2 at x2 k3 k4 ⊢
 refine zG fun N hN => ?_
 simp! [sFld]
 refine ⟨zO (by simp), fun wa hwa => ⟨C, dx, _, by rw [zE (Ne.symm (nb k3 hwa))]; exact k3, T.cl, T.nW, by show 2 < 1000; decide, hN _ _ ?_⟩⟩
 clear hN
 have x3 := kpu (o := .ins C dx (zY "watched" (.ref wa) (zY "numbers_used" (.int 0) (zY "standing" (.ref d) [])))) (kpn (o := .lst []) x2 hwa)
 have k5 : upd (upd H2 wa (.lst [])) b (.ins C dx (zY "watched" (.ref wa) (zY "numbers_used" (.int 0) (zY "standing" (.ref d) [])))) b = some (.ins C dx (zY "watched" (.ref wa) (zY "numbers_used" (.int 0) (zY "standing" (.ref d) [])))) := zC
 have k6 : upd (upd H2 wa (.lst [])) b (.ins C dx (zY "watched" (.ref wa) (zY "numbers_used" (.int 0) (zY "standing" (.ref d) [])))) d = some (.dK []) := by
   rw [zE ndb]
   exact zF hwa _ _ _ k4
 generalize upd (upd H2 wa (.lst [])) b (.ins C dx (zY "watched" (.ref wa) (zY "numbers_used" (.int 0) (zY "standing" (.ref d) [])))) = H3 at x3 k5 k6 ⊢
 simp! [sFld]
 refine ⟨zO (by simp), fun ta hta => ⟨C, dx, _, by rw [zE (Ne.symm (nb k5 hta))]; exact k5, T.cl, T.nT, by show 3 < 1000; decide, ?_⟩⟩
 exact q d wa ta _ (kpu (kpn x3 hta)) hd zC (by rw [zE ndb]; exact zF hta _ _ _ k6)
theorem ok_put (T : BkC K C) (bi : Bi mg) (O_TooMuch : PyProof.Rows.OwnCls "TooMuch" C_TooMuch bm nid mg base) (FB_TooMuch : ExcBaseFacts bn nid iid bm) (m_TooMuch : mg "TooMuch" = some (.ref C_TooMuch)) (g_MOST_RULES : Gc mg "MOST_RULES" (.int 12)) (h_s : Has P w K mg base 1 "copied" ["rule"] spCop) (F : Fun K "put" "Book.put" s_o f fd) : FnOk P w K mg base (CX1 P w) 2 f fd ["self", "rule"] (spPut C C_TooMuch) := by
 refine F.okX sc_o (fun vs H Q E h => ?_) (fun cdv A outer s H vs Q E hr h => ?_)
 · obtain ⟨b, d, v, la, r, M, st, u, rfl, _⟩ := h
   rfl
 obtain ⟨b, d, v, la, r, M, st, u, rfl, ⟨⟨dx, wa, ta, hb⟩, ⟨kvs, hd, hp⟩, hbM, hdM⟩, hst, hM, hru, hrl, q, qx⟩ := h
 have cl_Book := T.cl
 refine ⟨_, (zB (yA (zP op_ge (zK call_lenD rfl bi.len bt_len (zA (jF (pv 0) rfl) pa_nil)) (pe_gc g_MOST_RULES rfl) (zR _)) (zI (ps_raise O_TooMuch FB_TooMuch rfl m_TooMuch (zA yD pa_nil))) pss_nil) (zB (zL (i := 2) sc_o.nd rfl (Or.inl rfl) (jF (pv 0) rfl)) (zB (ps_dput (hu_of hr) (jF (pv 0) rfl) (pv 2) (zN h_s (hr.mono (by omega)) rfl (zA (pv 1) pa_nil)) rfl) (zB (ps_fldaug (pv 0) zD in_add) (zI (zM (pv 2))))))), ?_⟩
 refine zG fun N hN => ?_
 simp! [tFld, tRaise]
 have hlen : kvs.length = st.length := Paired.length hp
 refine ⟨C, dx, _, hb, T.cl, T.nS, _, bk_s d u wa ta, d, rfl, kvs, hd, ?_⟩
 by_cases c : (12 : Int) <= (kvs.length : Int)
 · rw [if_pos c]
   exact ⟨zO (by simp), qx (by omega) _ (Same.refl _)⟩
 rw [if_neg c]
 refine hN _ _ ?_
 clear hN
 refine zG fun N hN => ?_
 simp! [tFld]
 refine ⟨C, dx, _, hb, T.cl, T.nU, _, bk_u d u wa ta, hN _ _ ?_⟩
 clear hN
 refine zG fun N hN => ?_
 simp! [tFld, sDPut]
 refine ⟨v, la, r, rfl, hru, hrl, fun v' la' H1 s1 hln hru1 => ?_⟩
 have hb1 := s1 _ _ hb
 have hd1 := s1 _ _ hd
 have nbd : b ≠ d := fun e => by rw [e, hd] at hb; cases hb
 refine ⟨C, dx, _, hb1, T.cl, T.nS, _, bk_s d u wa ta, d, rfl, _, .inl ⟨kvs, .inl (u : Int), hd1, rfl, Nat.lt_of_le_of_lt (m := 100000) (by omega) (by decide), rfl⟩, hN _ _ ?_⟩
 clear hN
 rw [put_new (uE hp fun q hq => Nat.ne_of_lt (hst.lt q hq))]
 have hb2 : upd H1 d (.dK (kvs ++ [(.inl (u : Int), v')])) b = some (.ins C dx (bkF d u wa ta)) := by rw [zE nbd]; exact hb1
 have hd2 : upd H1 d (.dK (kvs ++ [(.inl (u : Int), v')])) d = some (.dK (kvs ++ [(.inl (u : Int), v')])) := zC
 have kp2 : Kp [b, d] H (upd H1 d (.dK (kvs ++ [(.inl (u : Int), v')]))) := fun a o ha hao => by
   simp only [List.mem_cons, List.not_mem_nil, or_false, not_or] at ha
   rw [zE ha.2]
   exact s1 _ _ hao
 have fr1 : Fr M H1 (upd H1 d (.dK (kvs ++ [(.inl (u : Int), v')]))) := ⟨fun a xs h => by rw [zE (fun e => by rw [e, hd1] at h; cases h)]; exact h, fun a xs _ h => by rw [zE (fun e => by rw [e, hd1] at h; cases h)]; exact h⟩
 have hlM : la' ∉ M := fun h => hM la' h hln
 have hp2 : Paired (Ent (upd H1 d (.dK (kvs ++ [(.inl (u : Int), v')]))) M) (kvs ++ [(.inl (u : Int), v')]) (st ++ [(u, r)]) := yV (xI ((Fr.of s1).trans fr1) hp) ⟨rfl, la', hlM, RuA.fr fr1 hlM hru1⟩
 generalize upd H1 d (.dK (kvs ++ [(.inl (u : Int), v')])) = H2 at hb2 hd2 kp2 hp2 ⊢
 refine zG fun N hN => ?_
 simp! [tFld, sFldAug, rAdd]
 refine ⟨C, dx, _, hb2, T.cl, T.nU, _, bk_u d u wa ta, _, rfl, dx, _, hb2, by show 4 < 1000; decide, hN _ _ ?_⟩
 clear hN
 rw [show zY "numbers_used" (.int ((u : Int) + 1)) (bkF d u wa ta) = bkF d (u + 1) wa ta from rfl]
 simp! []
 refine q (by omega) _ (fun a o ha hao => ?_) ⟨⟨dx, wa, ta, zC⟩, ⟨_, by rw [zE (Ne.symm nbd)]; exact hd2, xI ⟨fun a xs h => ?_, fun a xs _ h => ?_⟩ hp2⟩, hbM, hdM⟩
 · have := kp2 a o ha hao
   simp only [List.mem_cons, List.not_mem_nil, or_false, not_or] at ha
   rw [zE ha.1]
   exact this
 · rw [zE (fun e => by rw [e, hb2] at h; cases h)]; exact h
 · rw [zE (fun e => by rw [e, hb2] at h; cases h)]; exact h
theorem ok_drop (T : BkC K C) (bi : Bi mg) (O_NoRule : PyProof.Rows.OwnCls "NoRule" C_NoRule bm nid mg base) (FB_NoRule : ExcBaseFacts bn nid iid bm) (m_NoRule : mg "NoRule" = some (.ref C_NoRule)) (h_q : Has P w K mg base 1 "is_whole" ["n"] spWhI) (F : Fun K "drop" "Book.drop" s_k f fd) : FnOk P w K mg base (CX1 P w) 2 f fd ["self", "number"] (spDro C C_NoRule) := by
 refine F.okX sc_k (fun vs H Q E h => ?_) (fun cdv A outer s H vs Q E hr h => ?_)
 · obtain ⟨b, d, n, M, st, u, rfl, _⟩ := h
   rfl
 obtain ⟨b, d, n, M, st, u, rfl, ⟨⟨dx, wa, ta, hb⟩, ⟨kvs, hd, hp⟩, hbM, hdM⟩, hn, q, qx⟩ := h
 have cl_Book := T.cl
 refine ⟨_, (zB (yA (PW.pt (xW (yX (yW (zN h_q (hr.mono (by omega)) rfl (zA (pv 1) pa_nil)))) (jD (pt_cmp (pc_dnotin (hu_of hr) (pv 1) (jF (pv 0) rfl)) (by with_unfolding_all rfl))))) (zI (ps_raise O_NoRule FB_NoRule rfl m_NoRule (zA (pe_fsr yD (pv 1) yD) pa_nil))) pss_nil) (zI (yQ (pe_dpop1 (jF (pv 0) rfl) (pv 1) ⟨rfl, rfl, rfl, rfl⟩)))), ?_⟩
 refine zG fun N hN => ?_
 simp! [tFld, tRaise, tFR, spWhI, tDNotIn]
 refine ⟨C, dx, _, hb, T.cl, T.nS, _, bk_s d u wa ta, d, rfl, _, .inl ⟨kvs, .inl n, .inl hd, rfl, rfl⟩, ?_⟩
 by_cases c : ∃ q ∈ st, (q.1 : Int) = n
 case neg =>
   have c2 : ∀ q ∈ st, (q.1 : Int) ≠ n := fun q hq e => c ⟨q, hq, e⟩
   rw [qM hp c2, if_pos (show (none : Option V).isSome = false from rfl)]
   exact ⟨by decide +kernel, hn, by decide +kernel, fun _ => ⟨zO (by simp), qx c2 _ (Same.refl _)⟩⟩
 obtain ⟨v, hv⟩ := uD hp c
 rw [hv, if_neg (fun h => by cases h)]
 refine hN _ _ ?_
 clear hN
 simp! [tFld, tDPop1]
 refine ⟨C, dx, _, hb, T.cl, T.nS, _, bk_s d u wa ta, d, rfl, .inl ⟨kvs, .inl hd⟩, kvs, hd, .inl n, rfl, v, hv, ?_⟩
 have nbd : b ≠ d := fun e => by rw [e, hd] at hb; cases hb
 have fr : Fr M H (upd H d (.dK (jQ kvs (.inl n)))) := ⟨fun a xs h => by rw [zE (fun e => by rw [e, hd] at h; cases h)]; exact h, fun a xs _ h => by rw [zE (fun e => by rw [e, hd] at h; cases h)]; exact h⟩
 refine q c _ (fun a o ha hao => ?_) ⟨⟨dx, wa, ta, by rw [zE nbd]; exact hb⟩, ⟨_, zC, xI fr (jK hp)⟩, hbM, hdM⟩
 rw [List.mem_singleton] at ha
 rw [zE ha]
 exact hao
theorem ok_rules (T : BkC K C) (bi : Bi mg) (h_s : Has P w K mg base 1 "copied" ["rule"] spCop) (F : Fun K "rules" "Book.rules" s_g f fd) : FnOk P w K mg base CX0 2 f fd ["self"] (spRul C) := by
 refine F.ok sc_g (fun vs H Q E h => ?_) (fun cdv A outer s H vs Q E hr h => ?_)
 · obtain ⟨b, d, M, st, u, rfl, _⟩ := h
   rfl
 obtain ⟨b, d, M, st, u, rfl, ⟨⟨dx, wa, ta, hb⟩, ⟨kvs, hd, hp⟩, hbM, hdM⟩, h12, hrl, q⟩ := h
 have cl_Book := T.cl
 refine ⟨_, (zI (zM (pe_frz (jX ["number", "rule"] [] [] (pi_items (jF (pv 0) rfl)) (fun _ _ _ _ nd => pg_tupK (K := K) (n := 2) rfl (yI (zX (i := 0) nd rfl (Or.inl rfl)) (yI (zX (i := 1) nd rfl (Or.inl rfl)) pgs_nil))) (fun _ _ _ _ => jW) (fun _ _ _ _ => (yB (zA (pv 0) (zA (zN h_s (hr.mono (by omega)) rfl (zA (pv 1) pa_nil)) pa_nil)))))))), ?_⟩
 simp! [tFld, tFrz, iItems]
 have hlen : kvs.length = st.length := Paired.length hp
 have nbd : b ≠ d := fun e => by rw [e, hd] at hb; cases hb
 refine ⟨d, kvs, hd, fun o => ?_⟩
 have kd : upd H d (.frz o (.dK kvs)) d = some (.frz o (.dK kvs)) := zC
 have ko : ∀ a u, a ≠ d -> H a = some u -> upd H d (.frz o (.dK kvs)) a = some u := fun a u n h => by rw [zE n]; exact h
 have kn : ∀ a, upd H d (.frz o (.dK kvs)) a = none -> H a = none := fun a h => by
   by_cases e : a = d
   · rw [e, kd] at h; cases h
   · rw [zE e] at h; exact h
 generalize upd H d (.frz o (.dK kvs)) = H1 at kd ko kn ⊢
 have fr : Fr M H H1 := ⟨fun a xs h => ko a _ (fun e => by rw [e, hd] at h; cases h) h, fun a xs _ h => ko a _ (fun e => by rw [e, hd] at h; cases h) h⟩
 have hp1 := xI fr hp
 refine ⟨C, dx, _, ko _ _ nbd hb, T.cl, T.nS, _, bk_s d u wa ta, d, rfl, o, kvs, kd, ?_⟩
 refine lc_items (fun i ys σ H' => Same H1 H' /\ Paired (Told H1 H') ys (st.take i) /\ ∃ o1 o2, σ = [o1, o2]) ⟨Same.refl _, .nil, _, _, rfl⟩ (zO (by omega)) (fun i ys σ H' e => ?_) (fun i ys σ H' e => e.1 _ _ kd) (fun i k x ys σ H' p C' hx e hp' hC => ?_) (fun ys σ H' e p hp' => ?_)
 · have := Paired.length e.2.1
   rw [List.length_take] at this
   omega
 · obtain ⟨es, hys, o1, o2, rfl⟩ := e
   obtain ⟨q', hq', hk, la, hla, hru⟩ := yK hp1 hx
   dsimp only at hk hru
   subst hk
   have e1 := es.trans (zF hp' (.tup [kV (.inl (q'.1 : Int)), x]))
   have e2 := zF hp' (.tup [kV (.inl (q'.1 : Int)), x])
   simp! [gTup, uC, gNil]
   refine ⟨_, SqT.of zC, rfl, _, _, rfl, _, _, rfl, rfl, ?_⟩
   generalize upd H' p (.tup [kV (.inl (q'.1 : Int)), x]) = H2 at e1 e2 ⊢
   refine ⟨x, la, q'.2, rfl, RuA.same e1 hru, hrl q' (List.mem_of_getElem? hq'), fun v' la' H3 s3 hln hru3 => ⟨zO (by simp), fun p2 hp2 => hC _ _ _ ⟨(e1.trans s3).trans (zF hp2 _), ?_, _, _, rfl⟩⟩⟩
   have s4 := zF hp2 (.tup [V.int (q'.1 : Int), v'])
   obtain ⟨hi, he⟩ := List.getElem?_eq_some_iff.mp hq'
   rw [List.take_succ_eq_append_getElem hi, he]
   refine yV (zZ (fun v q'' ⟨ea, x', la'', h1, h2, h3, h4⟩ => ⟨ea, x', la'', h1, ((e2.trans s3).trans s4) _ _ h2, h3, RuA.same ((e2.trans s3).trans s4) h4⟩) hys) ⟨p2, v', la', rfl, zC, e1.free hln, RuA.same s4 hru3⟩
 · obtain ⟨es, hys, o1, o2, rfl⟩ := e
   have s4 := zF hp' (.lst ys)
   have kp : upd H' p (.lst ys) p = some (.lst ys) := zC
   have k5 := s4 _ _ (es _ _ kd)
   have hpn : H p = none := kn _ (es.free hp')
   generalize upd H' p (.lst ys) = H5 at s4 kp k5 ⊢
   refine ⟨k5, q p ys _ (fun a o' hao => ?_) hpn ?_ ?_⟩
   · by_cases e : a = d
     · rw [e, hd] at hao
       cases hao
       rw [e]
       exact zC
     · rw [zE e]
       exact s4 _ _ (es _ _ (ko a _ e hao))
   · rw [zE (fun e => by rw [e, k5] at kp; cases kp)]
     exact kp
   · rw [hlen, List.take_of_length_le (Nat.le_refl _)] at hys
     have fr2 : Fr [] H' (upd H5 d (.dK kvs)) := ⟨fun a xs h => by
         have := s4 _ _ h
         rw [zE (fun e => by rw [e, k5] at this; cases this)]
         exact this, fun a xs _ h => by
         have := s4 _ _ h
         rw [zE (fun e => by rw [e, k5] at this; cases this)]
         exact this⟩
     exact zZ (fun v q'' ⟨ea, x', la'', h1, h2, h3, h4⟩ => ⟨ea, x', la'', h1, fr2.t _ _ h2, kn _ h3, h4.ne hp', RuA.fr fr2 (by simp) h4⟩) hys
end
abbrev s_n : Stmt := top 13
theorem sc_n : FnScope ["found"] ["found"] (zH s_n) := ⟨rfl, rfl, rfl, by decide +kernel, rfl, by decide +kernel, by decide +kernel⟩
abbrev s_d : Stmt := top 18
theorem sc_d : FnScope ["found", "standing", "one", "due"] ["found", "standing"] (zH s_d) := ⟨rfl, rfl, rfl, by decide +kernel, rfl, by decide +kernel, by decide +kernel⟩
abbrev s_r : Stmt := top 19
theorem sc_r : FnScope ["book", "rule", "kinds", "found", "e"] ["book", "rule"] (zH s_r) := ⟨rfl, rfl, rfl, by decide +kernel, rfl, by decide +kernel, by decide +kernel⟩
abbrev s_p : Stmt := top 20
theorem sc_p : FnScope ["book", "n", "kinds", "found", "e"] ["book", "n"] (zH s_p) := ⟨rfl, rfl, rfl, by decide +kernel, rfl, by decide +kernel, by decide +kernel⟩
theorem mapGetV {α : Type} {H : Hp} {f : α -> Dt} {xs : List α} {us : List V} {i : Nat} {v : V} (h : DAts H (xs.map f) us) (hv : us[i]? = some v) : ∃ x, xs[i]? = some x /\ DAt H (f x) v := by
 have hl := DAts.length h
 rw [List.length_map] at hl
 have hi : i < xs.length := by rw [← hl]; exact (List.getElem?_eq_some_iff.mp hv).1
 obtain ⟨u, h1, h2⟩ := DAts.get (d := f xs[i]) h (by rw [List.getElem?_map, List.getElem?_eq_getElem hi]; rfl)
 rw [hv] at h1
 cases h1
 exact ⟨_, List.getElem?_eq_getElem hi, h2⟩
def dNr (q : Nr) : Dt := .tup [.int q.1, dRule q.2]
theorem RuA.dat {H : Hp} {la : Addr} {v : V} {r : Rul} (h : RuA H la v r) : DAt H (dRule r) v := by
 obtain ⟨q, us, s, rfl, h1, h2, h3, h4⟩ := h
 exact ⟨q, _, rfl, h1, _, _, rfl, ⟨la, us, rfl, h2, h3⟩, _, _, rfl, h4, rfl⟩
theorem nr_at {H : Hp} {ea : Addr} {x : V} {q : Nr} (h : H ea = some (.tup [.int q.1, x])) (hx : DAt H (dRule q.2) x) : DAt H (dNr q) (.ref ea) := ⟨ea, _, rfl, h, _, _, rfl, rfl, _, _, rfl, hx, rfl⟩
theorem nrOut {H : Hp} {q : Nr} {v : V} (h : DAt H (dNr q) v) : ∃ ea x la us s, v = .ref ea /\ H ea = some (.tup [.int q.1, .ref x]) /\ H x = some (.tup [.ref la, s]) /\ H la = some (.lst us) /\ SAts H q.2.1 us /\ SAt H q.2.2 s := by
 obtain ⟨ea, vs, rfl, h1, u1, r1, rfl, e1, u2, r2, rfl, ⟨x, vs2, rfl, g1, u3, r3, rfl, ⟨la, us, rfl, g2, g3⟩, u4, r4, rfl, g4, g5⟩, e2⟩ := h
 have e1 : u1 = .int q.1 := e1
 have e2 : r2 = [] := e2
 have g5 : r4 = [] := g5
 subst e1 e2 g5
 exact ⟨ea, x, la, us, u4, rfl, h1, g1, g2, g3, g4⟩
theorem told_d {H H' : Hp} {fa : Addr} : ∀ {ws : List V} {st : List Nr}, Paired (Told2 H H' fa) ws st -> DAts H' (st.map dNr) ws
 | _, _, .nil => rfl
 | _, _, .cons ⟨ea, x, la, h1, h2, h3, _, h4⟩ t => ⟨_, _, rfl, by rw [h1]; exact nr_at h2 h4.dat, told_d t⟩
def Row (H : Hp) (M : List Addr) (v : V) (q : Nr) : Prop := ∃ ea x la, v = .ref ea /\ H ea = some (.tup [.int q.1, x]) /\ la ∉ M /\ RuA H la x q.2
theorem row_d {H : Hp} {M : List Addr} : ∀ {ws : List V} {st : List Nr}, Paired (Row H M) ws st -> DAts H (st.map dNr) ws
 | _, _, .nil => rfl
 | _, _, .cons ⟨ea, x, la, h1, h2, h3, h4⟩ t => ⟨_, _, rfl, by rw [h1]; exact nr_at h2 h4.dat, row_d t⟩
theorem xG {M : List Addr} {H H' : Hp} (e : Fr M H H') {ws : List V} {st : List Nr} (h : Paired (Row H M) ws st) : Paired (Row H' M) ws st :=
 zZ (fun _ _ ⟨ea, x, la, h1, h2, h3, h4⟩ => ⟨ea, x, la, h1, e.t _ _ h2, h3, h4.fr e h3⟩) h
def RlA (H : Hp) (M : List Addr) (p : Addr) (st : List Nr) : Prop := (∃ ws, H p = some (.lst ws) /\ Paired (Row H M) ws st) /\ p ∈ M
theorem BkA.same {C : Addr} {H H' : Hp} {M : List Addr} {b d : Addr} {st : List Nr} {u : Nat} (e : Same H H') (h : BkA C H M b d st u) : BkA C H' M b d st u := by
 obtain ⟨⟨dx, wa, ta, h1⟩, ⟨kvs, h2, h3⟩, h4⟩ := h
 exact ⟨⟨dx, wa, ta, e _ _ h1⟩, ⟨kvs, e _ _ h2, xI (Fr.of e) h3⟩, h4⟩
theorem RlA.same {H H' : Hp} {M : List Addr} {p : Addr} {st : List Nr} (e : Same H H') (h : RlA H M p st) : RlA H' M p st := by
 obtain ⟨⟨ws, h1, h2⟩, h3⟩ := h
 exact ⟨⟨ws, e _ _ h1, xG (Fr.of e) h2⟩, h3⟩
theorem gr_fit {zs : List Str} {r : Rul} (h : Gr zs r) : DFit 24 (dRule r) := by
 have f : ∀ p, Gs zs p -> FitS 20 900 p := fun p hp => ⟨⟨hp.1.1, Nat.le_trans hp.1.2 (by decide)⟩, ⟨hp.2.1.1, Nat.le_trans hp.2.1.2 (by decide)⟩⟩
 exact rule_dfit (fun p hp => f p (h.2.1 p hp)) (f _ h.2.2) (Nat.le_refl _) (Nat.le_trans h.1 (by decide))
theorem nr_fit {zs : List Str} {q : Nr} (h : Gr zs q.2) : DFit 25 (dNr q) := ⟨by simp, fun d hd => by
 simp only [List.mem_cons, List.not_mem_nil, or_false] at hd
 rcases hd with rfl | rfl
 · trivial
 · exact gr_fit h⟩
theorem fw_zipL {a b : Addr} {xs ys : List V} {g : TG} {tb : TS} {D : Ends} {σ : St} {H : Hp} (Pv : Nat -> St -> Hp -> Prop) (h0 : Pv 0 σ H) (hl : ∀ i σ H, Pv i σ H -> H a = some (.lst xs) /\ H b = some (.lst ys))
   (hs : ∀ (i : Nat) x y σ H p, xs[i]? = some x -> ys[i]? = some y -> Pv i σ H -> H p = none -> g (.ref p) σ (upd H p (.tup [x, y])) fun σ2 H2 => tb { D with nx := Pv (i + 1), ct := Pv (i + 1), bk := D.nx } σ2 H2)
   (hd : ∀ σ H, Pv (min xs.length ys.length) σ H -> D.nx σ H) : ForW (Itk false false a b) g tb D σ H := by
 refine ⟨fun i m σ H => m = min xs.length ys.length - i /\ i <= min xs.length ys.length /\ Pv i σ H, ⟨_, by rfl, Nat.zero_le _, h0⟩, fun i m σ1 H1 ⟨hm, hi, hp⟩ => ?_⟩
 obtain ⟨k1, k2⟩ := hl i σ1 H1 hp
 by_cases h : i < min xs.length ys.length
 · have h1 : i < xs.length := by omega
   have h2 : i < ys.length := by omega
   refine .inr ⟨⟨xs, ys, _, _, k1, k2, List.getElem?_eq_getElem h1, List.getElem?_eq_getElem h2⟩, Pv (i + 1), fun σ' H' q => ⟨_, ?_, rfl, by omega, q⟩, fun v H' ⟨p, x, y, e1, e2, e3, e4⟩ => ?_⟩
   · omega
   · subst e1
     subst e3
     obtain ⟨e5, e6⟩ := e4 xs ys k1 k2
     exact hs i x y σ1 H1 p e5 e6 hp e2
 · have e : i = min xs.length ys.length := by omega
   subst e
   exact .inl ⟨⟨xs, ys, k1, k2, by omega⟩, hd σ1 H1 hp⟩
def spLW : Sp := fun vs H Q _ => ∃ i : Int, vs = [.int i] /\ Q (.bl true) H
def spSame : Sp := fun vs H Q _ => ∃ (fa p : Addr) (ws ws' : List V) (st : List Nr) (zs : List Str), vs = [.ref fa, .ref p] /\ H fa = some (.lst ws) /\ DAts H (st.map dNr) ws /\ H p = some (.lst ws') /\ DAts H (st.map dNr) ws' /\ st.length <= 12 /\ (∀ q ∈ st, Gr zs q.2) /\ ∀ H', Same H H' -> Q (.bl true) H'
structure Errs (K : PySem.W.Frag) (mg : Str -> Option Value) (CE CU CR : Addr) : Prop where
 ce : mg "ClashError" = some (.ref CE)
 cb : qA K CE (.type "BaseException") = some true
 ctU : qA K CU (.ref CE) = some true
 ctR : qA K CR (.ref CE) = some true
 xcU : XCls K CU
 xcR : XCls K CR
 ve : mg "ValueError" = none
 g1 : Gc mg "TooMuch" (.ref CU)
 g2 : Gc mg "NoRule" (.ref CR)
 u0 : PySem.W.kitOne K (.ref CU) (.type "ValueError") = some true
 u1 : PySem.W.kitOne K (.ref CU) (.ref CU) = some true
 u2 : PySem.W.kitOne K (.ref CU) (.ref CR) = some false
 r0 : PySem.W.kitOne K (.ref CR) (.type "ValueError") = some true
 r1 : PySem.W.kitOne K (.ref CR) (.ref CR) = some true
 r2 : PySem.W.kitOne K (.ref CR) (.ref CU) = some false
def spLPut (C : Addr) : Sp := fun vs H Q _ => ∃ (b d : Addr) (v : V) (la : Addr) (r : Rul) (M : List Addr) (st : List Nr) (u : Nat), vs = [.ref b, v] /\ BkA C H M b d st u /\ StO st u /\ (∀ m ∈ M, H m ≠ none) /\ RuA H la v r /\ r.1.length <= 100 /\
 (st.length < 12 -> ∀ p k H', H k = none -> Kp [b, d] H H' -> BkA C H' M b d (st ++ [(u, r)]) (u + 1) -> H' p = some (.tup [.ref k, .int u]) -> H' k = some (.lst []) -> Q (.ref p) H') /\ (12 <= st.length -> ∀ p k H', H k = none -> Same H H' -> H' p = some (.tup [.ref k, .non]) -> H' k = some (.lst [.bl true, .bl true, .bl false]) -> Q (.ref p) H')
def spLDro (C : Addr) : Sp := fun vs H Q _ => ∃ (b d : Addr) (n : Int) (M : List Addr) (st : List Nr) (u : Nat), vs = [.ref b, .int n] /\ BkA C H M b d st u /\ n.natAbs.log2 < 1920 /\
 ((∃ q ∈ st, (q.1 : Int) = n) -> ∀ p k H', H k = none -> Kp [d] H H' -> BkA C H' M b d (st.filter fun q => decide ((q.1 : Int) ≠ n)) u -> H' p = some (.tup [.ref k, .non]) -> H' k = some (.lst []) -> Q (.ref p) H') /\ ((∀ q ∈ st, (q.1 : Int) ≠ n) -> ∀ p k H', H k = none -> Same H H' -> H' p = some (.tup [.ref k, .int 0]) -> H' k = some (.lst [.bl true, .bl true, .bl false]) -> Q (.ref p) H')
section
variable {P : Program} {w : World} {K : PySem.W.Frag} {mg : Str -> Option Value} {base : Heap} {f : Addr} {fd : FuncData} {C CE CU CR : Addr}
theorem ok_lwhole (bi : Bi mg) (F : Fun K "_law_whole" "_law_whole" s_n f fd) : FnOk P w K mg base CX0 1 f fd ["found"] spLW := by
 refine F.ok sc_n (fun vs H Q E h => ?_) (fun cdv A outer s H vs Q E hr h => ?_)
 · obtain ⟨i, rfl, _⟩ := h
   rfl
 obtain ⟨i, rfl, q⟩ := h
 refine ⟨_, (zI (zM (jH (zK (yN (T := "int")) rfl bi.isinstance bt_isinstance (zA (pv 0) (zA (xM bi.int bt_int rfl) pa_nil))) (qF (pe_not (zK (yN (T := "bool")) rfl bi.isinstance bt_isinstance (zA (pv 0) (zA (xM bi.bool bt_bool rfl) pa_nil)))))))), ?_⟩
 simp! []
 exact ⟨_, .int i, true, xC, iteT ⟨_, .int i, false, kit_ib, q⟩⟩
theorem ok_same (bi : Bi mg) (bz : mg "zip" = none) (h_n : Has P w K mg base 1 "_law_whole" ["found"] spLW) (F : Fun K "_law_same_rules" "_law_same_rules" s_d f fd) : FnOk P w K mg base CX0 2 f fd ["found", "standing"] spSame := by
 refine F.ok sc_d (fun vs H Q E h => ?_) (fun cdv A outer s H vs Q E hr h => ?_)
 · obtain ⟨fa, p, ws, ws', st, zs, rfl, _⟩ := h
   rfl
 obtain ⟨fa, p, ws, ws', st, zs, rfl, hfa, hws, hp, hws', h12, hgr, q⟩ := h
 have l1 := DAts.length hws
 have l2 := DAts.length hws'
 rw [List.length_map] at l1 l2
 refine ⟨_, (zB (yA (PW.pt (xW (yX (yW (zK (yN (T := "list")) rfl bi.isinstance bt_isinstance (zA (pv 0) (zA (xM bi.list bt_list rfl) pa_nil))))) (jD (zP op_ne (zK call_len rfl bi.len bt_len (zA (pv 0) pa_nil)) (zK call_len rfl bi.len bt_len (zA (pv 1) pa_nil)) (zR _))))) (zI (zM yP)) pss_nil) (zB (jE PassesOwn.never rfl (pi_zipK rfl bz (zA (pv 0) (zA (pv 1) pa_nil))) (qE rfl (yI (zX (i := 2) sc_d.nd rfl (Or.inl rfl)) (yI (zX (i := 3) sc_d.nd rfl (Or.inl rfl)) pgs_nil))) (zB (yA (PW.pt (xW (yX (yW (zK (yN (T := "tuple")) rfl bi.isinstance bt_isinstance (zA (pv 2) (zA (xM bi.tuple bt_tuple rfl) pa_nil))))) (xW (zP op_ne (zK call_len rfl bi.len bt_len (zA (pv 2) pa_nil)) zD (zR _)) (xW (yX (yW (zN h_n (hr.mono (by omega)) rfl (zA (zQ ix_tup (pv 2) zD (fun _ _ => rfl)) pa_nil)))) (jD (zP op_ne (zQ ix_tup (pv 2) zD (fun _ _ => rfl)) (zQ ix_tup (pv 3) zD (fun _ _ => rfl)) (zR _))))))) (zI (zM yP)) pss_nil) (zB (yA (PW.pt (xW (yX (yW (zK (yN (T := "tuple")) rfl bi.isinstance bt_isinstance (zA (zQ ix_tup (pv 2) zD (fun _ _ => rfl)) (zA (xM bi.tuple bt_tuple rfl) pa_nil))))) (xW (zP op_ne (zK call_len rfl bi.len bt_len (zA (zQ ix_tup (pv 2) zD (fun _ _ => rfl)) pa_nil)) zD (zR _)) (jD (yX (yW (zK (yN (T := "list")) rfl bi.isinstance bt_isinstance (zA (zQ ix_tup (zQ ix_tup (pv 2) zD (fun _ _ => rfl)) zD (fun _ _ => rfl)) (zA (xM bi.list bt_list rfl) pa_nil))))))))) (zI (zM yP)) pss_nil) (zI (yA (PW.pt (xW (zP (op_neG hr.units) (zQ ix_tup (zQ ix_tup (pv 2) zD (fun _ _ => rfl)) zD (fun _ _ => rfl)) (zQ ix_tup (zQ ix_tup (pv 3) zD (fun _ _ => rfl)) zD (fun _ _ => rfl)) (zR _)) (jD (zP (op_neG hr.units) (zQ ix_tup (zQ ix_tup (pv 2) zD (fun _ _ => rfl)) zD (fun _ _ => rfl)) (zQ ix_tup (zQ ix_tup (pv 3) zD (fun _ _ => rfl)) zD (fun _ _ => rfl)) (zR _))))) (zI (zM yP)) pss_nil))))) (zI (zM yP)))), ?_⟩
 refine zG fun N hN => ?_
 simp! []
 refine ⟨_, .lst hfa, true, xC, ?_⟩
 rw [if_neg (by decide)]
 refine ⟨ws.length, .inl ⟨_, SqL.of hfa, rfl⟩, ws'.length, .inl ⟨_, SqL.of hp, rfl⟩, rfl, ?_⟩
 rw [if_neg (fun h => h (by omega))]
 refine hN _ _ ?_
 clear hN
 refine yM (fun σ H' => Same H H' /\ ∃ o1 o2 : Option V, σ = [some (V.ref fa), some (V.ref p), o1, o2]) (fun N hN => ?_) (fun σ H' h => ?_)
 case refine_2 =>
   obtain ⟨s1, o1, o2, rfl⟩ := h
   simp! []
   exact q _ s1
 simp! [iZipK]
 refine ⟨false, false, ws, hfa, ws', hp, ?_⟩
 refine fw_zipL (xs := ws) (ys := ws') (fun i σ H' => Same H H' /\ ∃ o1 o2 : Option V, σ = [some (V.ref fa), some (V.ref p), o1, o2]) ⟨Same.refl _, _, _, rfl⟩ (fun i σ H' h => ⟨h.1 _ _ hfa, h.1 _ _ hp⟩) (fun i x y σ H' p1 hx hy h hp1 => ?_) (fun σ H' h => hN _ _ h)
 obtain ⟨s1, o1, o2, rfl⟩ := h
 obtain ⟨q1, hq1, hd1⟩ := mapGetV hws hx
 obtain ⟨q2, hq2, hd2⟩ := mapGetV hws' hy
 rw [hq1] at hq2
 cases hq2
 have hg := hgr q1 (List.mem_of_getElem? hq1)
 have s2 := s1.trans (zF hp1 (.tup [x, y]))
 obtain ⟨ea, xa, la, us, sv, rfl, a1, a2, a3, a4, a5⟩ := nrOut (DAt.same s2 hd1)
 obtain ⟨eb, xb, lb, us', sv', rfl, b1, b2, b3, b4, b5⟩ := nrOut (DAt.same s2 hd2)
 simp! [gTup, uC, gNil]
 refine ⟨_, SqT.of zC, rfl, _, _, rfl, _, _, rfl, rfl, ?_⟩
 generalize upd H' p1 (.tup [V.ref ea, V.ref eb]) = H1 at s2 a1 a2 a3 a4 a5 b1 b2 b3 b4 b5 ⊢
 refine ⟨_, .tup a1, true, xC, ?_⟩
 rw [if_neg (by decide)]
 refine ⟨2, .inr ⟨_, SqT.of a1, rfl⟩, rfl, ?_⟩
 rw [if_neg (fun h => h rfl)]
 refine ⟨ea, rfl, _, SqT.of a1, _, at0, _, rfl, _, rfl, ?_⟩
 rw [if_neg (by decide)]
 refine ⟨ea, rfl, _, SqT.of a1, _, at0, eb, rfl, _, SqT.of b1, _, at0, rfl, ?_⟩
 rw [if_neg (fun h => h rfl)]
 refine ⟨ea, rfl, _, SqT.of a1, _, at1, _, .tup a2, true, xC, ?_⟩
 rw [if_neg (by decide)]
 refine ⟨ea, rfl, _, SqT.of a1, _, at1, 2, .inr ⟨_, SqT.of a2, rfl⟩, rfl, ?_⟩
 rw [if_neg (fun h => h rfl)]
 refine ⟨ea, rfl, _, SqT.of a1, _, at1, xa, rfl, _, SqT.of a2, _, at0, _, .lst a3, true, xC, ?_⟩
 rw [if_neg (by decide)]
 refine ⟨ea, rfl, _, SqT.of a1, _, at1, xa, rfl, _, SqT.of a2, _, at0, eb, rfl, _, SqT.of b1, _, at1, xb, rfl, _, SqT.of b2, _, at0, ?_⟩
 have hf := gr_fit hg
 have f1 : DFit 23 (.lst (q1.2.1.map jT)) := hf.2 _ (by simp)
 have f2 : DFit 23 (jT q1.2.2) := hf.2 _ (by simp)
 refine ⟨22, .lst (q1.2.1.map jT), .lst (q1.2.1.map jT), ⟨la, us, rfl, a3, a4⟩, ⟨lb, us', rfl, b3, b4⟩, f1, by omega, _, rfl, ?_⟩
 rw [deq_refl, if_neg (by decide)]
 refine ⟨ea, rfl, _, SqT.of a1, _, at1, xa, rfl, _, SqT.of a2, _, at1, eb, rfl, _, SqT.of b1, _, at1, xb, rfl, _, SqT.of b2, _, at1, 22, _, _, a5, b5, f2, by omega, _, rfl, ?_⟩
 rw [deq_refl, if_neg (by decide)]
 exact ⟨s2, _, rfl⟩
theorem ok_lput (T : BkC K C) (Er : Errs K mg CE CU CR) (bi : Bi mg) (h_o : HasMX P w K mg base 2 C "put" ["self", "rule"] (spPut C CU)) (F : Fun K "_law_put" "_law_put" s_r f fd) : FnOk P w K mg base CX0 3 f fd ["book", "rule"] (spLPut C) := by
 have m_ClashError := Er.ce
 have xb_ClashError := Er.cb
 have bz_ValueError := Er.ve
 have g_TooMuch := Er.g1
 have g_NoRule := Er.g2
 have cl_Book := T.cl
 refine F.ok sc_r (fun vs H Q E h => ?_) (fun cdv A outer s H vs Q E hr h => ?_)
 · obtain ⟨b, d, v, la, r, M, st, u, rfl, _⟩ := h
   rfl
 obtain ⟨b, d, v, la, r, M, st, u, rfl, hbk, hst, hM, hru, hrl, qg, qb⟩ := h
 refine ⟨_, (zB (zL (i := 2) sc_r.nd rfl (Or.inl rfl) (yE pa_nil)) (zB (zL (i := 3) sc_r.nd rfl (Or.inl rfl) pe_non) (zB (ps_try (i := 4) body_nox sc_r.nd rfl rfl rfl m_ClashError xb_ClashError rfl (px_setM (i := 3) rfl h_o cl_Book (hr.mono (by omega)) sc_r.nd rfl (Or.inl rfl) (pv 0) (zA (pv 1) pa_nil)) (fun _ => (zI (zL (i := 2) sc_r.nd rfl (Or.inl rfl) (yE (zA (zK (yT K rfl) rfl bi.isinstance bt_isinstance (zA (pv 4) (zA (pe_gc g_TooMuch rfl) pa_nil))) (zA (zK (yT K rfl) rfl bi.isinstance bt_isinstance (zA (pv 4) (zA (xM bz_ValueError bt_ValueError rfl) pa_nil))) (zA (zK (yT K rfl) rfl bi.isinstance bt_isinstance (zA (pv 4) (zA (pe_gc g_NoRule rfl) pa_nil))) pa_nil)))))))) (zI (zM (yB (zA (pv 2) (zA (pv 3) pa_nil)))))))), ?_⟩
 refine zG fun N hN => ?_
 simp! []
 refine ⟨zO (by decide), fun k hk => hN _ _ ?_⟩
 clear hN
 have s1 := zF hk (.lst [])
 have k1 : upd H k (.lst []) k = some (.lst []) := zC
 generalize upd H k (.lst []) = H1 at s1 k1 ⊢
 refine zG fun N hN => ?_
 simp! []
 refine hN _ _ ?_
 clear hN
 refine zG fun N hN => ?_
 have good : ∀ {J : Hp} {k' : Addr} {x : V} {ks : List V}, J k' = some (.lst ks) -> (∀ (p : Addr) H', Same J H' -> H' p = some (.tup [.ref k', x]) -> H' k' = some (.lst ks) -> Q (.ref p) H') -> N [some (.ref b), some v, some (.ref k'), some x, none] J := fun {J k' x ks} hk' hq => hN _ _ (by
   simp! []
   exact ⟨zO (by decide), fun p hp => hq p _ (zF hp _) zC (zF hp _ _ _ hk')⟩)
 clear hN
 simp! [tTry, tXIf, tXSetM, rIsX]
 have hbk1 := hbk.same s1
 obtain ⟨⟨dx, wa, ta, hb⟩, ⟨kvs, hd, _⟩, _⟩ := id hbk1
 refine ⟨dx, _, hb, rfl, b, d, v, la, r, M, st, u, rfl, hbk1, hst, fun m hm e => hM m hm (s1.free e), RuA.same s1 hru, hrl, fun hlt H2 kp hbk2 => ?_, fun h12 H2 s2 => ?_⟩
 · have nk : k ∉ [b, d] := fun h => by
     simp only [List.mem_cons, List.not_mem_nil, or_false] at h
     rcases h with rfl | rfl
     · rw [k1] at hb; cases hb
     · rw [k1] at hd; cases hd
   exact good (kp _ _ nk k1) fun p H' sH h1 h2 => qg hlt p k H' hk (fun a o ha hao => sH _ _ (kp _ _ ha (s1 _ _ hao))) (hbk2.same sH) h1 h2
 · refine ⟨CU, rfl, Er.ctU, fun ea hea => ?_⟩
   have se := zF hea (xO ea CU)
   refine ⟨CU, zC, Er.xcU, _, .inl ⟨_, rfl, rfl⟩, _, Er.u1, CU, zC, Er.xcU, _, .inr ⟨_, rfl, rfl⟩, _, Er.u0, CU, zC, Er.xcU, _, .inl ⟨_, rfl, rfl⟩, _, Er.u2, zO (by decide), fun p1 hp1 => ?_⟩
   have sp1 := zF hp1 (.lst [V.bl true, V.bl true, V.bl false])
   exact good zC fun p H' sH h1 h2 => qb h12 p p1 H' (((s1.trans s2).trans se).free hp1) ((s1.trans s2).trans ((se.trans sp1).trans sH)) h1 h2
theorem ok_ldrop (T : BkC K C) (Er : Errs K mg CE CU CR) (bi : Bi mg) (h_k : HasMX P w K mg base 2 C "drop" ["self", "number"] (spDro C CR)) (F : Fun K "_law_drop" "_law_drop" s_p f fd) : FnOk P w K mg base CX0 3 f fd ["book", "n"] (spLDro C) := by
 have m_ClashError := Er.ce
 have xb_ClashError := Er.cb
 have bz_ValueError := Er.ve
 have g_TooMuch := Er.g1
 have g_NoRule := Er.g2
 have cl_Book := T.cl
 refine F.ok sc_p (fun vs H Q E h => ?_) (fun cdv A outer s H vs Q E hr h => ?_)
 · obtain ⟨b, d, n, M, st, u, rfl, _⟩ := h
   rfl
 obtain ⟨b, d, n, M, st, u, rfl, hbk, hn, qg, qb⟩ := h
 refine ⟨_, (zB (zL (i := 2) sc_p.nd rfl (Or.inl rfl) (yE pa_nil)) (zB (zL (i := 3) sc_p.nd rfl (Or.inl rfl) zD) (zB (ps_try (i := 4) body_nox sc_p.nd rfl rfl rfl m_ClashError xb_ClashError rfl (px_setM (i := 3) rfl h_k cl_Book (hr.mono (by omega)) sc_p.nd rfl (Or.inl rfl) (pv 0) (zA (pv 1) pa_nil)) (fun _ => (zI (zL (i := 2) sc_p.nd rfl (Or.inl rfl) (yE (zA (zK (yT K rfl) rfl bi.isinstance bt_isinstance (zA (pv 4) (zA (pe_gc g_NoRule rfl) pa_nil))) (zA (zK (yT K rfl) rfl bi.isinstance bt_isinstance (zA (pv 4) (zA (xM bz_ValueError bt_ValueError rfl) pa_nil))) (zA (zK (yT K rfl) rfl bi.isinstance bt_isinstance (zA (pv 4) (zA (pe_gc g_TooMuch rfl) pa_nil))) pa_nil)))))))) (zI (zM (yB (zA (pv 2) (zA (pv 3) pa_nil)))))))), ?_⟩
 refine zG fun N hN => ?_
 simp! []
 refine ⟨zO (by decide), fun k hk => hN _ _ ?_⟩
 clear hN
 have s1 := zF hk (.lst [])
 have k1 : upd H k (.lst []) k = some (.lst []) := zC
 generalize upd H k (.lst []) = H1 at s1 k1 ⊢
 refine zG fun N hN => ?_
 simp! []
 refine hN _ _ ?_
 clear hN
 refine zG fun N hN => ?_
 have good : ∀ {J : Hp} {k' : Addr} {x : V} {ks : List V}, J k' = some (.lst ks) -> (∀ (p : Addr) H', Same J H' -> H' p = some (.tup [.ref k', x]) -> H' k' = some (.lst ks) -> Q (.ref p) H') -> N [some (.ref b), some (.int n), some (.ref k'), some x, none] J := fun {J k' x ks} hk' hq => hN _ _ (by
   simp! []
   exact ⟨zO (by decide), fun p hp => hq p _ (zF hp _) zC (zF hp _ _ _ hk')⟩)
 clear hN
 simp! [tTry, tXIf, tXSetM, rIsX]
 have hbk1 := hbk.same s1
 obtain ⟨⟨dx, wa, ta, hb⟩, ⟨kvs, hd, _⟩, _⟩ := id hbk1
 refine ⟨dx, _, hb, rfl, b, d, n, M, st, u, rfl, hbk1, hn, fun hlt H2 kp hbk2 => ?_, fun h12 H2 s2 => ?_⟩
 · have nk : k ∉ [d] := fun h => by
     rw [List.mem_singleton] at h
     rw [h, hd] at k1
     cases k1
   exact good (kp _ _ nk k1) fun p H' sH h1 h2 => qg hlt p k H' hk (fun a o ha hao => sH _ _ (kp _ _ ha (s1 _ _ hao))) (hbk2.same sH) h1 h2
 · refine ⟨CR, rfl, Er.ctR, fun ea hea => ?_⟩
   have se := zF hea (xO ea CR)
   refine ⟨CR, zC, Er.xcR, _, .inl ⟨_, rfl, rfl⟩, _, Er.r1, CR, zC, Er.xcR, _, .inr ⟨_, rfl, rfl⟩, _, Er.r0, CR, zC, Er.xcR, _, .inl ⟨_, rfl, rfl⟩, _, Er.r2, zO (by decide), fun p1 hp1 => ?_⟩
   have sp1 := zF hp1 (.lst [V.bl true, V.bl true, V.bl false])
   exact good zC fun p H' sH h1 h2 => qb h12 p p1 H' (((s1.trans s2).trans se).free hp1) ((s1.trans s2).trans ((se.trans sp1).trans sH)) h1 h2
end
abbrev s_h : Stmt := top 21
theorem sc_h : FnScope ["book", "standing", "coming", "cell", "names", "premises", "saying", "handed", "kinds", "found"] ["book", "standing", "coming", "cell", "names"] (zH s_h) := ⟨rfl, rfl, rfl, by decide +kernel, rfl, by decide +kernel, by decide +kernel⟩
abbrev s_e : Stmt := top 22
theorem sc_e : FnScope ["cell", "standing", "coming", "way"] ["cell", "standing", "coming"] (zH s_e) := ⟨rfl, rfl, rfl, by decide +kernel, rfl, by decide +kernel, by decide +kernel⟩
abbrev s_c : Stmt := top 23
theorem sc_c : FnScope ["book", "standing", "n", "stands", "kinds", "found"] ["book", "standing", "n"] (zH s_c) := ⟨rfl, rfl, rfl, by decide +kernel, rfl, by decide +kernel, by decide +kernel⟩
abbrev s_f : Stmt := top 24
theorem sc_f : FnScope ["book", "standing", "found", "one"] ["book", "standing"] (zH s_f) := ⟨rfl, rfl, rfl, by decide +kernel, rfl, by decide +kernel, by decide +kernel⟩
structure SB (C : Addr) (H : Hp) (M : List Addr) (b d p : Addr) (st : List Nr) (u : Nat) (zs : List Str) : Prop where
 bk : BkA C H M b d st u
 rl : RlA H M p st
 so : StO st u
 gr : ∀ q ∈ st, Gr zs q.2
theorem SB.same {C : Addr} {H H' : Hp} {M : List Addr} {b d p : Addr} {st : List Nr} {u : Nat} {zs : List Str} (e : Same H H') (h : SB C H M b d p st u zs) : SB C H' M b d p st u zs := ⟨h.bk.same e, h.rl.same e, h.so, h.gr⟩
theorem BkA.addM {C : Addr} {H : Hp} {M : List Addr} {b d ha : Addr} {st : List Nr} {u : Nat} (h : BkA C H M b d st u) (hn : H ha = none) : BkA C H (ha :: M) b d st u :=
 ⟨h.1, let ⟨kvs, h1, h2⟩ := h.2.1; ⟨kvs, h1, zZ (fun _ _ ⟨e, la, n, r⟩ => ⟨e, la, fun hm => (List.mem_cons.mp hm).elim (r.ne hn) n, r⟩) h2⟩, List.mem_cons_of_mem _ h.2.2.1, List.mem_cons_of_mem _ h.2.2.2⟩
theorem BkA.delM {C : Addr} {H : Hp} {M : List Addr} {b d ha : Addr} {st : List Nr} {u : Nat} (h : BkA C H (ha :: M) b d st u) (hb : b ∈ M) (hd : d ∈ M) : BkA C H M b d st u :=
 ⟨h.1, let ⟨kvs, h1, h2⟩ := h.2.1; ⟨kvs, h1, zZ (fun _ _ ⟨e, la, n, r⟩ => ⟨e, la, fun hm => n (List.mem_cons_of_mem _ hm), r⟩) h2⟩, hb, hd⟩
theorem BkA.fr {C : Addr} {H H' : Hp} {M : List Addr} {b d : Addr} {st : List Nr} {u : Nat} (h : BkA C H M b d st u) (e : Fr M H H') (hb : ∀ o, H b = some o -> H' b = some o) (hd : ∀ o, H d = some o -> H' d = some o) : BkA C H' M b d st u :=
 ⟨let ⟨dx, wa, ta, h1⟩ := h.1; ⟨dx, wa, ta, hb _ h1⟩, let ⟨kvs, h1, h2⟩ := h.2.1; ⟨kvs, hd _ h1, xI e h2⟩, h.2.2⟩
theorem rows_addM {H : Hp} {M : List Addr} {ha : Addr} {ws : List V} {st : List Nr} (h : Paired (Row H M) ws st) (hn : H ha = none) : Paired (Row H (ha :: M)) ws st :=
 zZ (fun _ _ ⟨ea, x, la, h1, h2, n, r⟩ => ⟨ea, x, la, h1, h2, fun hm => (List.mem_cons.mp hm).elim (r.ne hn) n, r⟩) h
theorem qT {H : Hp} {M : List Addr} {ha : Addr} {ws : List V} {st : List Nr} (h : Paired (Row H (ha :: M)) ws st) : Paired (Row H M) ws st :=
 zZ (fun _ _ ⟨ea, x, la, h1, h2, n, r⟩ => ⟨ea, x, la, h1, h2, fun hm => n (List.mem_cons_of_mem _ hm), r⟩) h
theorem Fr.put {M : List Addr} {H : Hp} {a : Addr} {xs : List V} {o : HO} (h : H a = some (.lst xs)) (hm : a ∈ M) : Fr M H (upd H a o) :=
 ⟨fun x ys hx => by rw [zE (fun e => by rw [e, h] at hx; cases hx)]; exact hx, fun x ys hn hx => by rw [zE (fun e : x = a => hn (e ▸ hm))]; exact hx⟩
theorem Kp.fr {M S : List Addr} {H H' : Hp} (k : Kp S H H') (hs : ∀ a ∈ S, a ∈ M) (ht : ∀ a ∈ S, ∀ xs, H a ≠ some (.tup xs)) : Fr M H H' :=
 ⟨fun x ys hx => k _ _ (fun hm => ht x hm ys hx) hx, fun x ys hn hx => k _ _ (fun hm => hn (hs x hm)) hx⟩
theorem StO.snoc {st : List Nr} {u : Nat} {r : Rul} (h : StO st u) (hl : st.length < 12) : StO (st ++ [(u, r)]) (u + 1) := by
 refine ⟨fun q hq => ?_, ?_, by rw [List.length_append]; exact hl⟩
 · rcases List.mem_append.mp hq with hq | hq
   · have := h.lt q hq; omega
   · rw [List.mem_singleton.mp hq]; exact Nat.lt_succ_self _
 · rw [List.map_append]
   refine List.nodup_append.mpr ⟨h.nd, by simp, fun a ha b hb => ?_⟩
   obtain ⟨q, hq, rfl⟩ := List.mem_map.mp ha
   simp at hb
   have := h.lt q hq
   omega
theorem nd_at {α : Type} {l : List α} (h : l.Nodup) {i j : Nat} {a : α} (h1 : l[i]? = some a) (h2 : l[j]? = some a) : i = j := by
 obtain ⟨hi, e1⟩ := List.getElem?_eq_some_iff.mp h1
 obtain ⟨hj, e2⟩ := List.getElem?_eq_some_iff.mp h2
 have hp := List.pairwise_iff_getElem.mp h
 by_cases c : i < j
 · exact absurd (e1.trans e2.symm) (hp i j hi hj c)
 · by_cases c2 : j < i
   · exact absurd (e2.trans e1.symm) (hp j i hj hi c2)
   · omega
theorem erase_filter : ∀ {st : List Nr} {j : Nat} {q : Nr}, (st.map (·.1)).Nodup -> st[j]? = some q -> st.eraseIdx j = st.filter fun x => decide ((x.1 : Int) ≠ (q.1 : Int))
 | [], j, q, _, h => by simp at h
 | x :: st, 0, q, hn, h => by
   simp only [List.getElem?_cons_zero, Option.some.injEq] at h
   subst h
   rw [List.map_cons, List.nodup_cons] at hn
   rw [List.filter_cons_of_neg (by simp), List.eraseIdx_cons_zero]
   symm
   rw [List.filter_eq_self]
   intro y hy
   have : y.1 ≠ x.1 := fun e => hn.1 (List.mem_map.mpr ⟨y, hy, e⟩)
   simp only [decide_eq_true_eq]
   omega
 | x :: st, j + 1, q, hn, h => by
   simp only [List.getElem?_cons_succ] at h
   rw [List.map_cons, List.nodup_cons] at hn
   have : x.1 ≠ q.1 := fun e => hn.1 (List.mem_map.mpr ⟨q, List.mem_of_getElem? h, e.symm⟩)
   rw [List.filter_cons_of_pos (by simp only [decide_eq_true_eq]; omega), List.eraseIdx_cons_succ, erase_filter hn.2 h]
theorem xX {α β : Type} {F : α -> β -> Prop} : ∀ {l : List α} {m : List β} (j : Nat), Paired F l m -> Paired F (l.eraseIdx j) (m.eraseIdx j)
 | _, _, j, .nil => by simp; exact .nil
 | _, _, 0, .cons h t => t
 | _, _, j + 1, .cons h t => .cons h (xX j t)
theorem deq_nr_ne {q q' : Nr} (h : q.1 ≠ q'.1) : deq (dNr q) (dNr q') = false := by
 have : ((q.1 : Int) == (q'.1 : Int)) = false := by rw [beq_eq_false_iff_ne]; omega
 simp [dNr, deq, deqs, this]
theorem StO.filter {st : List Nr} {u : Nat} (h : StO st u) (f : Nr -> Bool) : StO (st.filter f) u :=
 ⟨fun q hq => h.lt q (List.mem_filter.mp hq).1, (List.filter_sublist.map _).nodup h.nd, Nat.le_trans (List.length_filter_le _ _) h.few⟩
def spIP (C : Addr) : Sp := fun vs H Q _ => ∃ (b d p : Addr) (c : Int) (na : Addr) (M : List Addr) (st : List Nr) (u j : Nat) (zs : List Str), vs = [.ref b, .ref p, .int u, .int c, .ref na] /\ SB C H M b d p st u zs /\ (∀ m ∈ M, H m ≠ none) /\ na ∉ M /\ Nms H na j zs /\ 1 <= j /\ j <= 5 /\
 ∀ st' u' H', Kp [b, d, p] H H' -> SB C H' M b d p st' u' zs -> st.length <= st'.length -> st'.length <= st.length + 1 -> u' = u + (st'.length - st.length) -> Q (.bl true) H'
def spID (C : Addr) : Sp := fun vs H Q _ => ∃ (b d p : Addr) (n : Int) (M : List Addr) (st : List Nr) (u : Nat) (zs : List Str), vs = [.ref b, .ref p, .int n] /\ SB C H M b d p st u zs /\ (∀ m ∈ M, H m ≠ none) /\ n.natAbs.log2 < 1920 /\
 ∀ st' H', Kp [b, d, p] H H' -> SB C H' M b d p st' u zs -> Q (.bl true) H'
def spIT (C : Addr) : Sp := fun vs H Q _ => ∃ (b d p : Addr) (M : List Addr) (st : List Nr) (u : Nat) (zs : List Str), vs = [.ref b, .ref p] /\ SB C H M b d p st u zs /\ ∀ H', Same H H' -> Q (.bl true) H'
def spNB : Sp := fun vs H Q _ => ∃ (c : Int) (p : Addr) (M : List Addr) (st : List Nr) (u : Nat), vs = [.int c, .ref p, .int u] /\ RlA H M p st /\ 0 <= c /\ c < 10 ^ Int.toNat 60 /\ (∀ q ∈ st, q.1 < 1000) /\ u < 1000 /\ ∀ n : Int, n.natAbs.log2 < 1920 -> Q (.int n) H
section
variable {P : Program} {w : World} {K : PySem.W.Frag} {mg : Str -> Option Value} {base : Heap} {f : Addr} {fd : FuncData} {C : Addr}
theorem ok_is_put (bi : Bi mg) (h_b : Has P w K mg base 3 "_law_small_rule" ["cell", "names"] spSr) (h_r : Has P w K mg base 3 "_law_put" ["book", "rule"] (spLPut C)) (h_n : Has P w K mg base 1 "_law_whole" ["found"] spLW) (F : Fun K "_law_is_put" "_law_is_put" s_h f fd) : FnOk P w K mg base CX0 4 f fd ["book", "standing", "coming", "cell", "names"] (spIP C) := by
 refine F.ok sc_h (fun vs H Q E h => ?_) (fun cdv A outer s H vs Q E hr h => ?_)
 · obtain ⟨b, d, p, c, na, M, st, u, j, zs, rfl, _⟩ := h
   rfl
 obtain ⟨b, d, p, c, na, M, st, u, j, zs, rfl, hSB, hM, hnM, hnm, j1, j5, q⟩ := h
 refine ⟨_, (zB (qD (zN h_b (hr.mono (by omega)) rfl (zA (zJ op_fdiv (pv 3) zD) (zA (pv 4) pa_nil))) (qE rfl (yI (zX (i := 5) sc_h.nd rfl (Or.inl rfl)) (yI (zX (i := 6) sc_h.nd rfl (Or.inl rfl)) pgs_nil)))) (zB (zL (i := 7) sc_h.nd rfl (Or.inl rfl) (jG call_list_of rfl bi.list bt_list (zA (pv 5) pa_nil))) (zB (qD (zN h_r (hr.mono (by omega)) rfl (zA (pv 0) (zA (yB (zA (pv 7) (zA (pv 6) pa_nil))) pa_nil))) (qE rfl (yI (zX (i := 8) sc_h.nd rfl (Or.inl rfl)) (yI (zX (i := 9) sc_h.nd rfl (Or.inl rfl)) pgs_nil)))) (zB (yA (zP (op_neG hr.units) (pv 7) (pv 5) (zR _)) (zI (zM yP)) pss_nil) (zB (yQ (xN PySem.F.plainAttrs_list PySem.F.slot_list_append PySem.F.type_list_append mt_append (pv 7) (zA (pv 6) pa_nil))) (zB (yA (zP op_eq (zK call_len rfl bi.len bt_len (zA (pv 1) pa_nil)) zD (zR _)) (zI (zM (xD (qG hr.units) (pv 8) (yE (zA yP (zA yP (zA yP pa_nil)))) (zR _)))) pss_nil) (zB (yQ (xN PySem.F.plainAttrs_list PySem.F.slot_list_append PySem.F.type_list_append mt_append (pv 1) (zA (yB (zA (pv 2) (zA (yB (zA (pv 5) (zA (pv 6) pa_nil))) pa_nil))) pa_nil))) (zI (zM (jH (xD (qG hr.units) (pv 8) (yE pa_nil) (zR _)) (jH (zN h_n (hr.mono (by omega)) rfl (zA (pv 9) pa_nil)) (qF (xD (qG hr.units) (pv 9) (pv 2) (zR _)))))))))))))), ?_⟩
 refine zG fun N hN => ?_
 simp! [gTup, uC, gNil]
 refine ⟨⟨by decide, by decide⟩, c / 8, na, j, zs, rfl, hnm, j1, j5, fun v r H1 s1 hru hgr => ?_⟩
 obtain ⟨ra, la, sv, us, rfl, h1, h2, h3, h4, h5⟩ := hru
 refine ⟨ra, rfl, _, SqT.of h1, rfl, _, _, rfl, _, _, rfl, rfl, hN _ _ ?_⟩
 clear hN
 refine zG fun N hN => ?_
 simp! []
 refine ⟨us, .inl (SqL.of h3), fun ha hha => hN _ _ ?_⟩
 clear hN
 have hhaH : H ha = none := s1.free hha
 have g2 := zF hha (.lst us)
 have k2 : upd H1 ha (.lst us) ha = some (.lst us) := zC
 have n2 : ha ≠ la := fun e => by rw [e, h3] at hha; cases hha
 have s2 := s1.trans g2
 have h3' := g2 _ _ h3
 have h4' := DAts.same g2 h4
 have h5' := DAt.same g2 h5
 generalize upd H1 ha (.lst us) = H2 at g2 k2 s2 h3' h4' h5' ⊢
 clear h1 h3 h4 h5 hha s1 g2
 obtain ⟨⟨⟨dx, wa, ta, hb⟩, ⟨kvs, hd, _⟩, hbM, hdM⟩, ⟨⟨ws, hp, hws⟩, hpM⟩, hso, hgrs⟩ := id hSB
 have hwl : ws.length = st.length := Paired.length hws
 have l12 := hso.few
 refine yM (fun σ H' => ∃ (k : Addr) (x : V) (ks : List V), Kp [b, d] H2 H' /\ H' k = some (.lst ks) /\ k ∉ M /\ k ≠ ha /\ ((st.length < 12 /\ BkA C H' (ha :: M) b d (st ++ [(u, r)]) (u + 1) /\ x = .int u /\ ks = []) \/ (12 <= st.length /\ BkA C H' (ha :: M) b d st u /\ x = .non /\ ks = [.bl true, .bl true, .bl false])) /\ σ = [some (V.ref b), some (V.ref p), some (V.int u), some (V.int c), some (V.ref na), some (V.ref la), some sv, some (V.ref ha), some (V.ref k), some x]) (fun N hN => ?_) (fun σ H4 h => ?_)
 · simp! [gTup, uC, gNil]
   refine ⟨zO (by simp), fun pr hpr => ?_⟩
   have s3 := zF hpr (.tup [V.ref ha, sv])
   have k3 : upd H2 pr (.tup [V.ref ha, sv]) pr = some (.tup [V.ref ha, sv]) := zC
   generalize upd H2 pr (.tup [V.ref ha, sv]) = H3 at s3 k3 ⊢
   have hM3 : ∀ m ∈ ha :: M, H3 m ≠ none := fun m hm e => by
     rcases List.mem_cons.mp hm with rfl | hm
     · have := s3 _ _ k2
       rw [e] at this
       cases this
     · exact hM m hm ((s2.trans s3).free e)
   refine ⟨b, d, .ref pr, ha, r, ha :: M, st, u, rfl, (hSB.bk.addM hhaH).same (s2.trans s3), hso, hM3, ⟨pr, us, sv, rfl, k3, s3 _ _ k2, DAts.same s3 h4', DAt.same s3 h5'⟩, Nat.le_trans hgr.1 (by decide), fun hlt pp k H4 hk kp hbk4 e1 e2 => ?_, fun h12 pp k H4 hk s4 e1 e2 => ?_⟩
   · exact ⟨pp, rfl, _, SqT.of e1, rfl, _, _, rfl, _, _, rfl, rfl, hN _ _ ⟨k, .int u, [], fun a o ha' hao => kp _ _ ha' (s3 _ _ hao), e2, fun hm => hM3 k (List.mem_cons_of_mem _ hm) hk, fun e => hM3 k (by rw [e]; exact List.mem_cons_self) hk, .inl ⟨hlt, hbk4, rfl, rfl⟩, rfl⟩⟩
   · exact ⟨pp, rfl, _, SqT.of e1, rfl, _, _, rfl, _, _, rfl, rfl, hN _ _ ⟨k, .non, _, fun a o _ hao => s4 _ _ (s3 _ _ hao), e2, fun hm => hM3 k (List.mem_cons_of_mem _ hm) hk, fun e => hM3 k (by rw [e]; exact List.mem_cons_self) hk, .inr ⟨h12, ((hSB.bk.addM hhaH).same (s2.trans s3)).same s4, rfl, rfl⟩, rfl⟩⟩
 obtain ⟨k, x, ks, kp, hk, nkM, nkh, hcase, rfl⟩ := h
 have hb2 := s2 _ _ hb
 have hd2 := s2 _ _ hd
 have hp2 := s2 _ _ hp
 have nbd : ∀ a xs, H2 a = some (.lst xs) -> a ∉ [b, d] := fun a xs h hm => by
   simp only [List.mem_cons, List.not_mem_nil, or_false] at hm
   rcases hm with rfl | rfl
   · rw [h] at hb2; cases hb2
   · rw [h] at hd2; cases hd2
 have fr24 : Fr (ha :: M) H2 H4 := kp.fr (fun a hm => by
   simp only [List.mem_cons, List.not_mem_nil, or_false] at hm
   rcases hm with rfl | rfl
   · exact List.mem_cons_of_mem _ hbM
   · exact List.mem_cons_of_mem _ hdM) (fun a hm xs h => by
   simp only [List.mem_cons, List.not_mem_nil, or_false] at hm
   rcases hm with rfl | rfl
   · rw [h] at hb2; cases hb2
   · rw [h] at hd2; cases hd2)
 have k4 := kp _ _ (nbd _ _ k2) k2
 have l4 := kp _ _ (nbd _ _ h3') h3'
 have p4 := kp _ _ (nbd _ _ hp2) hp2
 have d4 := SAts.tups fr24.t h4'
 have e4 := SAt.tups fr24.t h5'
 have hpha : p ≠ ha := fun e => by rw [e, hhaH] at hp; cases hp
 have hlM : la ∉ M := fun hm => hM la hm h2
 have hf := gr_fit hgr
 have f1 : DFit 23 (.lst (r.1.map jT)) := hf.2 _ (by simp)
 have frH4 : Fr (ha :: M) H H4 := (Fr.of s2).trans fr24
 refine zG fun N hN => ?_
 simp! []
 refine ⟨22, .lst (r.1.map jT), .lst (r.1.map jT), ⟨ha, us, rfl, k4, d4⟩, ⟨la, us, rfl, l4, d4⟩, f1, by omega, _, rfl, ?_⟩
 rw [deq_refl, if_neg (by decide)]
 refine hN _ _ ?_
 clear hN
 refine zG fun N hN => ?_
 simp! []
 have hul : us.length = r.1.length := by have := DAts.length h4'; rwa [List.length_map] at this
 have hr5 := hgr.1
 refine ⟨.inl ⟨rfl, _, SqL.of k4⟩, us, k4, Nat.lt_of_le_of_lt (m := 100000) (by omega) (by decide), hN _ _ ?_⟩
 clear hN
 have fr5 : Fr (ha :: M) H4 (upd H4 ha (.lst (us ++ [sv]))) := Fr.put k4 List.mem_cons_self
 have kp5 : ∀ a o, a ≠ ha -> H4 a = some o -> upd H4 ha (.lst (us ++ [sv])) a = some o := fun a o hn h => by rw [zE hn]; exact h
 generalize upd H4 ha (.lst (us ++ [sv])) = H5 at fr5 kp5 ⊢
 have frH5 := frH4.trans fr5
 have kpH5 : Kp [b, d] H H5 := fun a o hn h => kp5 _ _ (fun e => by rw [e, hhaH] at h; cases h) (kp _ _ hn (s2 _ _ h))
 have hrows : Paired (Row H5 (ha :: M)) ws st := xG frH5 (rows_addM hws hhaH)
 have bnha : b ≠ ha := fun e => by rw [e, hhaH] at hb; cases hb
 have dnha : d ≠ ha := fun e => by rw [e, hhaH] at hd; cases hd
 have p5 := kp5 _ _ hpha p4
 have hk5 := kp5 _ _ nkh hk
 refine zG fun N hN => ?_
 simp! []
 refine ⟨ws.length, .inl ⟨_, SqL.of p5, rfl⟩, rfl, ?_⟩
 by_cases c12 : (ws.length : Int) = 12
 · rw [if_pos c12]
   rcases hcase with ⟨hlt, _⟩ | ⟨_, hbk4, rfl, rfl⟩
   · omega
   refine ⟨zO (by simp), fun p6 hp6 => ?_⟩
   have s6 := zF hp6 (.lst [V.bl true, V.bl true, V.bl false])
   have dk : ∀ {J : Hp} {a : Addr}, J a = some (.lst [.bl true, .bl true, .bl false]) -> DAt J (.lst [.bl true, .bl true, .bl false]) (.ref a) := fun h => ⟨_, _, rfl, h, _, _, rfl, rfl, _, _, rfl, rfl, _, _, rfl, rfl, rfl⟩
   refine ⟨2, .lst [.bl true, .bl true, .bl false], .lst [.bl true, .bl true, .bl false], dk (s6 _ _ hk5), dk zC, ⟨by simp, fun e he => by simp at he; rcases he with rfl | rfl <;> trivial⟩, by omega, ?_⟩
   rw [deq_refl]
   refine q st u _ (fun a o hn h => s6 _ _ (kpH5 _ _ (fun hm => hn (by simp at hm ⊢; rcases hm with h | h <;> simp [h])) h)) ?_ (Nat.le_refl _) (Nat.le_succ _) (by omega)
   exact SB.same s6 ⟨(hbk4.fr fr5 (fun o => kp5 _ _ bnha) (fun o => kp5 _ _ dnha)).delM hbM hdM, ⟨⟨ws, p5, qT hrows⟩, hpM⟩, hso, hgrs⟩
 rw [if_neg c12]
 refine hN _ _ ?_
 clear hN
 rcases hcase with ⟨hlt, hbk4, rfl, rfl⟩ | ⟨hge, _⟩
 case inr => omega
 refine zG fun N hN => ?_
 simp! []
 refine ⟨.inl ⟨rfl, _, SqL.of p5⟩, zO (by simp), fun pt hpt => ?_⟩
 have l5 := kp5 _ _ (Ne.symm n2) l4
 have d5 := SAts.tups fr5.t d4
 have e5 := SAt.tups fr5.t e4
 have s6 := zF hpt (.tup [V.ref la, sv])
 have k6 : upd H5 pt (.tup [V.ref la, sv]) pt = some (.tup [V.ref la, sv]) := zC
 generalize upd H5 pt (.tup [V.ref la, sv]) = H6 at s6 k6 ⊢
 refine ⟨zO (by simp), fun pe hpe => ?_⟩
 have s7 := zF hpe (.tup [V.int u, V.ref pt])
 have k7 : upd H6 pe (.tup [V.int u, V.ref pt]) pe = some (.tup [V.int u, V.ref pt]) := zC
 generalize upd H6 pe (.tup [V.int u, V.ref pt]) = H7 at s7 k7 ⊢
 have s67 := s6.trans s7
 have p7 := s67 _ _ p5
 refine ⟨ws, p7, Nat.lt_of_le_of_lt (m := 100000) (by omega) (by decide), hN _ _ ?_⟩
 clear hN
 have fr8 : Fr (ha :: M) H7 (upd H7 p (.lst (ws ++ [V.ref pe]))) := Fr.put p7 (List.mem_cons_of_mem _ hpM)
 have kp8 : ∀ a o, a ≠ p -> H7 a = some o -> upd H7 p (.lst (ws ++ [V.ref pe])) a = some o := fun a o hn h => by rw [zE hn]; exact h
 have p8 : upd H7 p (.lst (ws ++ [V.ref pe])) p = some (.lst (ws ++ [V.ref pe])) := zC
 generalize upd H7 p (.lst (ws ++ [V.ref pe])) = H8 at fr8 kp8 p8 ⊢
 have fr58 := (Fr.of (M := ha :: M) s67).trans fr8
 have hlM' : la ∉ ha :: M := fun hm => (List.mem_cons.mp hm).elim (fun e => n2 e.symm) hlM
 have hru8 : RuA H8 la (.ref pt) r := RuA.fr fr8 hlM' ⟨pt, us, sv, rfl, s7 _ _ k6, s67 _ _ l5, DAts.same s67 d5, DAt.same s67 e5⟩
 have bnp : b ≠ p := fun e => by rw [e, hp] at hb; cases hb
 have dnp : d ≠ p := fun e => by rw [e, hp] at hd; cases hd
 have hk8 := kp8 _ _ (fun e : k = p => nkM (by rw [e]; exact hpM)) (s67 _ _ hk5)
 have hrows8 : Paired (Row H8 (ha :: M)) (ws ++ [V.ref pe]) (st ++ [(u, r)]) := yV (xG fr58 hrows) ⟨pe, .ref pt, la, rfl, fr8.t _ _ k7, hlM', hru8⟩
 have hbk8 := ((hbk4.fr fr5 (fun o => kp5 _ _ bnha) (fun o => kp5 _ _ dnha)).fr fr58 (fun o h => kp8 _ _ bnp (s67 _ _ h)) (fun o h => kp8 _ _ dnp (s67 _ _ h))).delM hbM hdM
 have kpH8 : Kp [b, d, p] H H8 := fun a o hn h => by
   simp only [List.mem_cons, List.not_mem_nil, or_false, not_or] at hn
   refine kp8 _ _ hn.2.2 (s67 _ _ (kpH5 _ _ ?_ h))
   simp only [List.mem_cons, List.not_mem_nil, or_false, not_or]
   exact ⟨hn.1, hn.2.1⟩
 have hSB8 : SB C H8 M b d p (st ++ [(u, r)]) (u + 1) zs := ⟨hbk8, ⟨⟨_, p8, qT hrows8⟩, hpM⟩, hso.snoc hlt, fun q hq => by
   rcases List.mem_append.mp hq with hq | hq
   · exact hgrs q hq
   · rw [List.mem_singleton.mp hq]; exact hgr⟩
 simp! []
 refine ⟨Nat.zero_le _, fun p9 hp9 => ?_⟩
 have s9 := zF hp9 (.lst [])
 refine ⟨2, .lst [], .lst [], ⟨k, [], rfl, s9 _ _ hk8, rfl⟩, ⟨p9, [], rfl, zC, rfl⟩, ⟨by simp, fun e he => by simp at he⟩, by omega, _, rfl, ?_⟩
 rw [deq_refl, if_pos rfl]
 refine ⟨u, rfl, _, rfl, ?_⟩
 rw [if_pos rfl]
 refine ⟨0, .int u, .int u, rfl, rfl, trivial, by omega, ?_⟩
 rw [deq_refl]
 exact q _ _ _ (fun a o hn h => s9 _ _ (kpH8 _ _ hn h)) (SB.same s9 hSB8) (by simp) (by simp) (by simp)
theorem uM (bi : Bi mg) (F : Fun K "_law_number_by" "_law_number_by" s_e f fd) : FnOk P w K mg base CX0 1 f fd ["cell", "standing", "coming"] spNB := by
 refine F.ok sc_e (fun vs H Q E h => ?_) (fun cdv A outer s H vs Q E hr h => ?_)
 · obtain ⟨c, p, M, st, u, rfl, _⟩ := h
   rfl
 obtain ⟨c, p, M, st, u, rfl, ⟨⟨ws, hp, hws⟩, hpM⟩, c0, c1, hst, hu, q⟩ := h
 refine ⟨_, (zB (zL (i := 3) sc_e.nd rfl (Or.inl rfl) (zJ op_mod (zJ op_fdiv (pv 0) zD) zD)) (zB (yA (PW.pt (pw_and (zP op_lt (pv 3) zD (zR _)) (pw_and1 (zP op_gt (zK call_len rfl bi.len bt_len (zA (pv 1) pa_nil)) zD (zR _))))) (zI (zM (zQ ix_tup (zQ ix_list (pv 1) (zJ op_mod (zJ op_fdiv (pv 0) zD) (zK call_len rfl bi.len bt_len (zA (pv 1) pa_nil))) (fun _ _ => rfl)) zD (fun _ _ => rfl)))) pss_nil) (zB (yA (zP op_eq (pv 3) zD (zR _)) (zI (zM (zJ op_sub (pe_un un_neg zD) (zJ op_fdiv (pv 0) zD)))) pss_nil) (zI (zM (zJ op_mod (zJ op_fdiv (pv 0) zD) (zJ op_add (pv 2) zD))))))), ?_⟩
 refine zG fun N hN => ?_
 simp! []
 refine ⟨⟨by decide, by decide⟩, by decide, hN _ _ ?_⟩
 clear hN
 generalize c / 8 % 4 = wy
 have hwl : ws.length = st.length := Paired.length hws
 have big : ∀ n : Int, n.natAbs < 2 ^ 200 -> n.natAbs.log2 < 1920 := fun n h => by
   by_cases e : n.natAbs = 0
   · rw [e]; decide
   · exact Nat.lt_trans ((Nat.log2_lt e).mpr h) (by decide)
 have c32 : 0 <= c / 32 /\ c / 32 < 10 ^ Int.toNat 60 := ⟨by omega, by omega⟩
 have e60 : (10 : Int) ^ Int.toNat 60 = 1000000000000000000000000000000000000000000000000000000000000 := by show (10 : Int) ^ 60 = _; decide
 have e1000 : (1000000000000000000000000000000000000000000000000000000000001 : Nat) < 2 ^ 200 := by decide
 rw [e60] at c1 c32
 refine zG fun N hN => ?_
 simp! []
 have nxt : N [some (V.int c), some (V.ref p), some (V.int u), some (V.int wy)] H := by
   refine hN _ _ ?_
   clear hN
   refine zG fun N hN => ?_
   simp! []
   refine ⟨rfl, ?_⟩
   by_cases w2 : wy = 2
   · rw [if_pos w2]
     exact ⟨⟨by decide, by decide⟩, q _ (big _ (Nat.lt_of_le_of_lt (by omega) e1000))⟩
   rw [if_neg w2]
   refine hN _ _ ?_
   simp! []
   have m0 := Int.emod_nonneg (c / 32) (show ((u : Int) + 2) ≠ 0 by omega)
   have m1 := Int.emod_lt_of_pos (c / 32) (show (0 : Int) < (u : Int) + 2 by omega)
   exact ⟨⟨by decide, by decide⟩, by omega, q _ (big _ (Nat.lt_of_le_of_lt (by omega) e1000))⟩
 split
 · refine ⟨ws.length, .inl ⟨_, SqL.of hp, rfl⟩, ?_⟩
   split
   · rename_i hpos
     have m0 := Int.emod_nonneg (c / 32) (show (ws.length : Int) ≠ 0 by omega)
     have m1 := Int.emod_lt_of_pos (c / 32) hpos
     have m2 : (c / 32 % (ws.length : Int)).toNat < ws.length := by omega
     have hg := List.getElem?_eq_getElem m2
     obtain ⟨q', hq', ea, x, la, e, h1, _⟩ := yK hws hg
     rw [e] at hg
     have := hst q' (List.mem_of_getElem? hq')
     exact ⟨⟨by decide, by decide⟩, ws.length, .inl ⟨_, SqL.of hp, rfl⟩, hpos, ws, SqL.of hp, _, at_toNat m0 hg, ea, rfl, _, SqT.of h1, _, at0, q _ (big _ (Nat.lt_of_le_of_lt (by omega) e1000))⟩
   · exact nxt
 · exact nxt
theorem qQ (bi : Bi mg) (h_p : Has P w K mg base 3 "_law_drop" ["book", "n"] (spLDro C)) (F : Fun K "_law_is_dropped" "_law_is_dropped" s_c f fd) : FnOk P w K mg base CX0 4 f fd ["book", "standing", "n"] (spID C) := by
 refine F.ok sc_c (fun vs H Q E h => ?_) (fun cdv A outer s H vs Q E hr h => ?_)
 · obtain ⟨b, d, p, n, M, st, u, zs, rfl, _⟩ := h
   rfl
 obtain ⟨b, d, p, n, M, st, u, zs, rfl, hSB, hM, hn, q⟩ := h
 refine ⟨_, (zB (ps_comp (i := 3) ["one"] ["n"] [2] sc_c.nd rfl (uL (pv 1)) (fun _ _ _ _ nd => zX (i := 0) nd rfl (Or.inl rfl)) (fun _ _ _ _ => pif_one (zP op_eq (zQ (ix_tupK K) (pv 0) zD (fun _ _ => rfl)) (pv 1) (zR _))) (fun _ _ _ _ => (pv 0))) (zB (qD (zN h_p (hr.mono (by omega)) rfl (zA (pv 0) (zA (pv 2) pa_nil))) (qE rfl (yI (zX (i := 4) sc_c.nd rfl (Or.inl rfl)) (yI (zX (i := 5) sc_c.nd rfl (Or.inl rfl)) pgs_nil)))) (zB (yA (zP op_eq (zK call_len rfl bi.len bt_len (zA (pv 3) pa_nil)) zD (zR _)) (zI (zM (xD (qG hr.units) (pv 4) (yE (zA yP (zA yP (zA yP pa_nil)))) (zR _)))) pss_nil) (zB (yQ (xN PySem.F.plainAttrs_list PySem.F.slot_list_remove PySem.F.type_list_remove (mt_removeG hr.units) (pv 1) (zA (zQ ix_list (pv 3) zD (fun _ _ => rfl)) pa_nil))) (zI (zM (jH (xD (qG hr.units) (pv 4) (yE pa_nil) (zR _)) (qF (xD op_isN (pv 5) pe_non (zR _)))))))))), ?_⟩
 obtain ⟨⟨⟨dx, wa, ta, hb⟩, ⟨kvs, hd, _⟩, hbM, hdM⟩, ⟨⟨ws, hp, hws⟩, hpM⟩, hso, hgrs⟩ := id hSB
 have hwl : ws.length = st.length := Paired.length hws
 have l12 := hso.few
 have nddj : ∀ (j j' : Nat) (q q' : Nr), st[j]? = some q -> st[j']? = some q' -> q.1 = q'.1 -> j = j' := fun j j' q q' h1 h2 e => nd_at hso.nd (by rw [List.getElem?_map, h1]; rfl) (by rw [List.getElem?_map, h2]; exact congrArg some e.symm)
 refine zG fun N hN => ?_
 simp! []
 refine ⟨⟨_, SqL.of hp⟩, ?_⟩
 refine lc_listIf (xs := ws) (fun i ys σ H' => H' = H /\ (((∀ j q, j < i -> st[j]? = some q -> (q.1 : Int) ≠ n) /\ ys = []) \/ ∃ j q v, j < i /\ st[j]? = some q /\ (q.1 : Int) = n /\ ws[j]? = some v /\ ys = [v]) /\ ∃ o, σ = [o, some (V.int n)]) ⟨rfl, .inl ⟨fun j q h => absurd h (Nat.not_lt_zero _), rfl⟩, _, rfl⟩ (zO (by omega)) (fun i ys σ H' e => ?_) (fun i ys σ H' e => by rw [e.1]; exact SqL.of hp) (fun i x ys σ H' C' D hx e hC hD => ?_) (fun ys σ H' e p1 hp1 => ?_)
 · obtain ⟨_, (⟨_, rfl⟩ | ⟨j, _, _, hj, _, _, _, rfl⟩), _⟩ := e
   · exact Nat.zero_le _
   · simp only [List.length_singleton]; omega
 · obtain ⟨rfl, hys, o, rfl⟩ := e
   obtain ⟨q', hq', ea, x', la, rfl, h1, _⟩ := yK hws hx
   simp! []
   refine ⟨_, SqT.of h1, _, at0, rfl, ?_⟩
   by_cases c : (q'.1 : Int) = n
   · rw [if_pos (congrArg V.int c)]
     refine hC _ _ _ ⟨rfl, .inr ⟨i, q', _, Nat.lt_succ_self _, hq', c, hx, ?_⟩, _, rfl⟩
     rcases hys with ⟨_, rfl⟩ | ⟨j, q2, v, hj, hq2, hn2, _, rfl⟩
     · rfl
     · have := nddj j i q2 q' hq2 hq' (by omega)
       omega
   · rw [if_neg (fun e => c (V.int.inj e))]
     refine hD _ _ ⟨rfl, ?_, _, rfl⟩
     rcases hys with ⟨hno, rfl⟩ | ⟨j, q2, v, hj, r⟩
     · refine .inl ⟨fun j q hj hq => ?_, rfl⟩
       by_cases e : j = i
       · rw [e, hq'] at hq
         cases hq
         exact c
       · exact hno j q (by omega) hq
     · exact .inr ⟨j, q2, v, by omega, r⟩
 obtain ⟨rfl, hys, o, rfl⟩ := e
 refine hN _ _ ?_
 clear hN
 have s1 := zF hp1 (.lst ys)
 have k1 : upd H' p1 (.lst ys) p1 = some (.lst ys) := zC
 have n1 : p1 ∉ M := fun hm => hM p1 hm hp1
 generalize upd H' p1 (.lst ys) = H1 at s1 k1 ⊢
 have hSB1 := hSB.same s1
 have hM1 : ∀ m ∈ M, H1 m ≠ none := fun m hm e => hM m hm (s1.free e)
 have dk : ∀ {J : Hp} {a : Addr}, J a = some (.lst [.bl true, .bl true, .bl false]) -> DAt J (.lst [.bl true, .bl true, .bl false]) (.ref a) := fun h => ⟨_, _, rfl, h, _, _, rfl, rfl, _, _, rfl, rfl, _, _, rfl, rfl, rfl⟩
 refine zG fun N hN => ?_
 simp! [gTup, uC, gNil]
 refine ⟨b, d, n, M, st, u, rfl, hSB1.bk, hn, fun hex pp k H4 hk kp hbk4 e1 e2 => ⟨pp, rfl, _, SqT.of e1, rfl, _, _, rfl, _, _, rfl, rfl, hN _ _ ?_⟩, fun hno pp k H4 hk s4 e1 e2 => ⟨pp, rfl, _, SqT.of e1, rfl, _, _, rfl, _, _, rfl, rfl, hN _ _ ?_⟩⟩
 · clear hN
   rcases hys with ⟨hno, rfl⟩ | ⟨j, q2, v, hj, hq2, hn2, hv, rfl⟩
   · obtain ⟨q0, hq0, e0⟩ := hex
     obtain ⟨j0, hj0, ej⟩ := List.getElem_of_mem hq0
     exact absurd e0 (hno j0 q0 (by omega) (by rw [List.getElem?_eq_getElem hj0, ej]))
   have hd1 := s1 _ _ hd
   have hp1' := s1 _ _ hp
   have nd1 : ∀ a xs, H1 a = some (.lst xs) -> a ∉ [d] := fun a xs h hm => by
     rw [List.mem_singleton] at hm
     rw [hm, hd1] at h
     cases h
   have fr4 : Fr M H1 H4 := kp.fr (fun a hm => by rw [List.mem_singleton.mp hm]; exact hdM) (fun a hm xs h => by
     rw [List.mem_singleton.mp hm, hd1] at h
     cases h)
   have k4 := kp _ _ (nd1 _ _ k1) k1
   have p4 := kp _ _ (nd1 _ _ hp1') hp1'
   have hrows4 : Paired (Row H4 M) ws st := xG ((Fr.of s1).trans fr4) hws
   have nkM : k ∉ M := fun hm => hM1 k hm hk
   refine zG fun N hN => ?_
   simp! []
   refine ⟨1, .inl ⟨_, SqL.of k4, rfl⟩, rfl, ?_⟩
   rw [if_neg (by omega)]
   refine hN _ _ ?_
   clear hN
   refine zG fun N hN => ?_
   simp! [rRemG]
   have hdv := row_d hrows4
   obtain ⟨_, hq2', ea, x', la, rfl, r1, r2, r3⟩ := yK hrows4 hv
   rw [hq2] at hq2'
   cases hq2'
   have hdat : DAt H4 (dNr q2) (.ref ea) := nr_at r1 r3.dat
   refine ⟨.inl ⟨rfl, _, SqL.of p4⟩, _, SqL.of k4, _, at0, ws, p4, st.map dNr, hdv, dNr q2, hdat, 25, fun e he => ?_, by omega, j, ⟨dNr q2, by rw [List.getElem?_map, hq2]; rfl, deq_refl _⟩, fun m d' hm hd' => ?_, hN _ _ ?_⟩
   · obtain ⟨q3, hq3, rfl⟩ := List.mem_map.mp he
     exact nr_fit (hgrs q3 hq3)
   · rw [List.getElem?_map] at hd'
     obtain ⟨q3, hq3, rfl⟩ := Option.map_eq_some_iff.mp hd'
     refine deq_nr_ne fun e => ?_
     have := nddj m j q3 q2 hq3 hq2 e
     omega
   clear hN
   have fr5 : Fr M H4 (upd H4 p (.lst (ws.eraseIdx j))) := Fr.put p4 hpM
   have kp5 : ∀ a o, a ≠ p -> H4 a = some o -> upd H4 p (.lst (ws.eraseIdx j)) a = some o := fun a o hn h => by rw [zE hn]; exact h
   have p5 : upd H4 p (.lst (ws.eraseIdx j)) p = some (.lst (ws.eraseIdx j)) := zC
   generalize upd H4 p (.lst (ws.eraseIdx j)) = H5 at fr5 kp5 p5 ⊢
   have bnp : b ≠ p := fun e => by rw [e, hp] at hb; cases hb
   have dnp : d ≠ p := fun e => by rw [e, hp] at hd; cases hd
   have hk5 := kp5 _ _ (fun e : k = p => nkM (by rw [e]; exact hpM)) e2
   have hef := erase_filter hso.nd hq2
   rw [hn2] at hef
   have hSB5 : SB C H5 M b d p (st.filter fun x => decide ((x.1 : Int) ≠ n)) u zs := ⟨hbk4.fr fr5 (fun o => kp5 _ _ bnp) (fun o => kp5 _ _ dnp), ⟨⟨_, p5, by rw [← hef]; exact xX j (xG fr5 hrows4)⟩, hpM⟩, hso.filter _, fun q hq => hgrs q (List.mem_filter.mp hq).1⟩
   have kpH5 : Kp [b, d, p] H' H5 := fun a o hn h => by
     simp only [List.mem_cons, List.not_mem_nil, or_false, not_or] at hn
     exact kp5 _ _ hn.2.2 (kp _ _ (by rw [List.mem_singleton]; exact hn.2.1) (s1 _ _ h))
   simp! []
   refine ⟨Nat.zero_le _, fun p9 hp9 => ?_⟩
   have s9 := zF hp9 (.lst [])
   refine ⟨2, .lst [], .lst [], ⟨k, [], rfl, s9 _ _ hk5, rfl⟩, ⟨p9, [], rfl, zC, rfl⟩, ⟨by simp, fun e he => by simp at he⟩, by omega, _, rfl, ?_⟩
   rw [deq_refl, if_pos rfl, show decide True = true from rfl]
   exact q _ _ (fun a o hn h => s9 _ _ (kpH5 _ _ hn h)) (SB.same s9 hSB5)
 · clear hN
   rcases hys with ⟨_, rfl⟩ | ⟨j, q2, v, hj, hq2, hn2, _⟩
   case inr => exact absurd hn2 (hno q2 (List.mem_of_getElem? hq2))
   refine zG fun N hN => ?_
   simp! []
   refine ⟨0, .inl ⟨_, SqL.of (s4 _ _ k1), rfl⟩, rfl, ?_⟩
   rw [if_pos (by omega)]
   refine ⟨zO (by simp), fun p6 hp6 => ?_⟩
   have s6 := zF hp6 (.lst [V.bl true, V.bl true, V.bl false])
   refine ⟨2, .lst [.bl true, .bl true, .bl false], .lst [.bl true, .bl true, .bl false], dk (s6 _ _ e2), dk zC, ⟨by simp, fun e he => by simp at he; rcases he with rfl | rfl <;> trivial⟩, by omega, ?_⟩
   rw [deq_refl]
   have sA := (s1.trans s4).trans s6
   exact q st _ (fun a o _ h => sA _ _ h) (hSB.same sA)
theorem ok_is_told (T : BkC K C) (bi : Bi mg) (h_g : HasM P w K mg base 2 C "rules" ["self"] (spRul C)) (h_d : Has P w K mg base 2 "_law_same_rules" ["found", "standing"] spSame) (F : Fun K "_law_is_told" "_law_is_told" s_f f fd) : FnOk P w K mg base CX0 3 f fd ["book", "standing"] (spIT C) := by
 have cl_Book := T.cl
 refine F.ok sc_f (fun vs H Q E h => ?_) (fun cdv A outer s H vs Q E hr h => ?_)
 · obtain ⟨b, d, p, M, st, u, zs, rfl, _⟩ := h
   rfl
 obtain ⟨b, d, p, M, st, u, zs, rfl, hSB, q⟩ := h
 refine ⟨_, (zB (zL (i := 2) sc_f.nd rfl (Or.inl rfl) (qU h_g cl_Book (hr.mono (by omega)) (pv 0))) (zB (yA (yX (yW (zN h_d (hr.mono (by omega)) rfl (zA (pv 2) (zA (pv 1) pa_nil))))) (zI (zM yP)) pss_nil) (zB (jE PassesOwn.never rfl (uL (pv 2)) (zX (i := 3) sc_f.nd rfl (Or.inl rfl)) (zI (yQ (xN PySem.F.plainAttrs_list PySem.F.slot_list_append PySem.F.type_list_append mt_append (zQ ix_tup (zQ ix_tup (pv 3) zD (fun _ _ => rfl)) zD (fun _ _ => rfl)) (zA (yB (zA (yB (zA yD pa_nil)) (zA (yB (zA yD pa_nil)) pa_nil))) pa_nil))))) (zB (yQ (xN PySem.F.plainAttrs_list PySem.F.slot_list_append PySem.F.type_list_append mt_append (pv 2) (zA zD pa_nil))) (zI (zM (zN h_d (hr.mono (by omega)) rfl (zA (qU h_g cl_Book (hr.mono (by omega)) (pv 0)) (zA (pv 1) pa_nil))))))))), ?_⟩
 refine zG fun N hN => ?_
 simp! [tMeth]
 obtain ⟨⟨dx, wa, ta, hb⟩, _⟩ := id hSB.bk
 have h12 := hSB.so.few
 have hr100 : ∀ q ∈ st, q.2.1.length <= 100 := fun q hq => Nat.le_trans (hSB.gr q hq).1 (by decide)
 refine ⟨dx, _, hb, rfl, b, d, M, st, u, rfl, hSB.bk, h12, hr100, fun fa ws H1 s1 hfn hfa hws => hN _ _ ?_⟩
 clear hN
 have hwl : ws.length = st.length := Paired.length hws
 obtain ⟨⟨vs, hp, hvs⟩, hpM⟩ := id hSB.rl
 refine zG fun N hN => ?_
 simp! []
 refine ⟨fa, p, ws, vs, st, zs, rfl, hfa, told_d hws, s1 _ _ hp, DAts.same s1 (row_d hvs), h12, hSB.gr, fun H2 s2 => ⟨_, rfl, ?_⟩⟩
 rw [if_neg (by decide)]
 refine hN _ _ ?_
 clear hN
 have s12 := s1.trans s2
 have hfa2 := s2 _ _ hfa
 have hws2 : Paired (Told2 H H2 fa) ws st := zZ (fun _ _ ⟨ea, x, la, h1, h2, h3, h5, h4⟩ => ⟨ea, x, la, h1, s2 _ _ h2, h3, h5, h4.same s2⟩) hws
 clear hws hfa s1 s2
 refine yM (fun σ H' => ∃ o : Option V, Same H H' /\ H' fa = some (.lst ws) /\ σ = [some (V.ref b), some (V.ref p), some (V.ref fa), o]) (fun N hN => ?_) (fun σ H' h => ?_)
 · simp! []
   refine ⟨⟨_, SqL.of hfa2⟩, ?_⟩
   refine fw_list (xs := ws) (fun i σ H' => ∃ o : Option V, Same H H' /\ H' fa = some (.lst ws) /\ TupSame H2 H' /\ (∀ a xs, H2 a = some (.lst xs) -> ∃ ys, H' a = some (.lst ys) /\ ys.length <= xs.length + i) /\ σ = [some (V.ref b), some (V.ref p), some (V.ref fa), o]) ⟨_, s12, hfa2, fun _ _ h => h, fun a xs h => ⟨xs, h, Nat.le_refl _⟩, rfl⟩ (fun i σ H' _ h => ?_) (fun i x σ H' hx h => ?_) (fun σ H' h => ?_)
   · obtain ⟨o, _, h, _⟩ := h
     exact SqL.of h
   · obtain ⟨o, s3, f3, t3, l3, rfl⟩ := h
     obtain ⟨q', hq', ea, x', la, rfl, h1, h2, h3, ⟨qa, us, sv, rfl, g1, g2, g3, g4⟩⟩ := yK hws2 hx
     obtain ⟨ys, hys, hyl⟩ := l3 _ _ g2
     have hul : us.length = q'.2.1.length := by have := DAts.length g3; rwa [List.length_map] at this
     have h5 := (hSB.gr q' (List.mem_of_getElem? hq')).1
     have hil := (List.getElem?_eq_some_iff.mp hq').1
     simp! []
     refine ⟨_, SqT.of (t3 _ _ h1), _, at1, qa, rfl, _, SqT.of (t3 _ _ g1), _, at0, .inl ⟨rfl, _, SqL.of hys⟩, zO (by simp), fun pa hpa => ?_⟩
     have y1 := zF hpa (.tup [V.str "none"])
     generalize upd H' pa (.tup [V.str "none"]) = J1 at y1 ⊢
     refine ⟨zO (by simp), fun pb hpb => ?_⟩
     have y2 := zF hpb (.tup [V.str "all"])
     generalize upd J1 pb (.tup [V.str "all"]) = J2 at y2 ⊢
     refine ⟨zO (by simp), fun pc hpc => ?_⟩
     have y3 := zF hpc (.tup [V.ref pa, V.ref pb])
     generalize upd J2 pc (.tup [V.ref pa, V.ref pb]) = J3 at y3 ⊢
     have y := y1.trans (y2.trans y3)
     have hla := y _ _ hys
     refine ⟨la, rfl, ys, hla, Nat.lt_of_le_of_lt (m := 100000) (by omega) (by decide), (s3.trans y).upd h2, ?_, fun a xs h => ?_, fun a xs h => ?_, _, rfl⟩
     · rw [zE (Ne.symm h3)]
       exact y _ _ f3
     · have := y _ _ (t3 _ _ h)
       rw [zE (fun e => by rw [e, hla] at this; cases this)]
       exact this
     · obtain ⟨zs', hz1, hz2⟩ := l3 _ _ h
       by_cases e : a = la
       · subst e
         rw [g2] at h
         cases h
         exact ⟨_, zC, by rw [List.length_append, List.length_singleton]; omega⟩
       · exact ⟨zs', by rw [zE e]; exact y _ _ hz1, by omega⟩
   · obtain ⟨o, s3, f3, _, _, rfl⟩ := h
     exact hN _ _ ⟨_, s3, f3, rfl⟩
 obtain ⟨o, s3, f3, rfl⟩ := h
 refine zG fun N hN => ?_
 simp! []
 refine ⟨.inl ⟨rfl, _, SqL.of f3⟩, ws, f3, Nat.lt_of_le_of_lt (m := 100000) (by omega) (by decide), hN _ _ ?_⟩
 clear hN
 have s4 : Same H (upd H' fa (.lst (ws ++ [V.int 0]))) := s3.upd hfn
 generalize upd H' fa (.lst (ws ++ [V.int 0])) = H4 at s4 ⊢
 have hSB4 := hSB.same s4
 obtain ⟨⟨dx', wa', ta', hb4⟩, _⟩ := id hSB4.bk
 simp! [tMeth]
 refine ⟨dx', _, hb4, rfl, b, d, M, st, u, rfl, hSB4.bk, h12, hr100, fun fa2 ws2 H5 s5 hfn2 hfa5 hws5 => ?_⟩
 refine ⟨fa2, p, ws2, vs, st, zs, rfl, hfa5, told_d hws5, (s4.trans s5) _ _ hp, DAts.same (s4.trans s5) (row_d hvs), h12, hSB.gr, fun H6 s6 => q _ ((s4.trans s5).trans s6)⟩
end
abbrev s_t : Stmt := top 25
theorem sc_t : FnScope ["script", "names", "books", "rows", "coming", "k", "cell", "at", "many"] ["script"] (zH s_t) := ⟨rfl, rfl, rfl, by decide +kernel, rfl, by decide +kernel, by decide +kernel⟩
theorem SB.keep {C : Addr} {H H' : Hp} {M S : List Addr} {b d p : Addr} {st : List Nr} {u : Nat} {zs : List Str} (h : SB C H M b d p st u zs) (k : Kp S H H') (hs : ∀ a ∈ S, a ∈ M) (ht : ∀ a ∈ S, ∀ xs, H a ≠ some (.tup xs)) (hb : b ∉ S) (hd : d ∉ S) (hp : p ∉ S) : SB C H' M b d p st u zs :=
 ⟨h.bk.fr (k.fr hs ht) (fun o => k _ _ hb) (fun o => k _ _ hd), let ⟨⟨ws, h1, h2⟩, h3⟩ := h.rl; ⟨⟨ws, k _ _ hp h1, xG (k.fr hs ht) h2⟩, h3⟩, h.so, h.gr⟩
structure Pl where
 b : Bool -> Addr
 d : Bool -> Addr
 p : Bool -> Addr
 c : Addr
def Pl.M (g : Pl) : List Addr := [g.b false, g.d false, g.p false, g.b true, g.d true, g.p true, g.c]
theorem Pl.bM (g : Pl) (t : Bool) : g.b t ∈ g.M := by cases t <;> simp [Pl.M]
theorem Pl.dM (g : Pl) (t : Bool) : g.d t ∈ g.M := by cases t <;> simp [Pl.M]
theorem Pl.pM (g : Pl) (t : Bool) : g.p t ∈ g.M := by cases t <;> simp [Pl.M]
theorem Pl.cM (g : Pl) : g.c ∈ g.M := by simp [Pl.M]
structure Dst (g : Pl) : Prop where
 b : g.b false ≠ g.b true
 d : g.d false ≠ g.d true
 p : g.p false ≠ g.p true
 c : ∀ t, g.c ≠ g.p t
theorem two_ne {α : Type} {f : Bool -> α} (h : f false ≠ f true) {s t : Bool} (hst : s ≠ t) : f s ≠ f t := by
 cases s <;> cases t
 · exact absurd rfl hst
 · exact h
 · exact Ne.symm h
 · exact absurd rfl hst
structure LJ (C : Addr) (g : Pl) (H₀ HB H : Hp) (st : Bool -> List Nr) (u : Bool -> Nat) (zs : List Str) (n : Nat) : Prop where
 s0 : Same H₀ H
 kB : Kp g.M HB H
 sb : ∀ t, SB C H g.M (g.b t) (g.d t) (g.p t) (st t) (u t) zs
 ub : ∀ t, u t <= n
def putB {α : Type} (f : Bool -> α) (t : Bool) (x : α) : Bool -> α := fun s => if s = t then x else f s
theorem xH {α : Type} {f : Bool -> α} {t : Bool} {x : α} : putB f t x t = x := if_pos rfl
theorem jV {α : Type} {f : Bool -> α} {t s : Bool} {x : α} (h : s ≠ t) : putB f t x s = f s := if_neg h
section
variable {C : Addr} {g : Pl} {H₀ HB H H' : Hp} {st : Bool -> List Nr} {u : Bool -> Nat} {zs : List Str} {n n' : Nat}
theorem LJ.at (h : LJ C g H₀ HB H st u zs n) (t : Bool) : (∃ dx fs, H (g.b t) = some (.ins C dx fs)) /\ (∃ kvs, H (g.d t) = some (.dK kvs)) /\ ∃ ws, H (g.p t) = some (.lst ws) :=
 ⟨let ⟨dx, wa, ta, e⟩ := (h.sb t).bk.1; ⟨dx, _, e⟩, let ⟨kvs, e, _⟩ := (h.sb t).bk.2.1; ⟨kvs, e⟩, let ⟨ws, e, _⟩ := (h.sb t).rl.1; ⟨ws, e⟩⟩
theorem LJ.ex (h : LJ C g H₀ HB H st u zs n) (hc : H g.c ≠ none) : ∀ m ∈ g.M, H m ≠ none := fun m hm e => by
 obtain ⟨⟨_, _, a1⟩, ⟨_, a2⟩, _, a3⟩ := h.at false
 obtain ⟨⟨_, _, b1⟩, ⟨_, b2⟩, _, b3⟩ := h.at true
 simp only [Pl.M, List.mem_cons, List.not_mem_nil, or_false] at hm
 rcases hm with rfl | rfl | rfl | rfl | rfl | rfl | rfl
 · rw [a1] at e; cases e
 · rw [a2] at e; cases e
 · rw [a3] at e; cases e
 · rw [b1] at e; cases e
 · rw [b2] at e; cases e
 · rw [b3] at e; cases e
 · exact hc e
theorem LJ.same (h : LJ C g H₀ HB H st u zs n) (e : Same H H') (hn : n <= n') : LJ C g H₀ HB H' st u zs n' :=
 ⟨h.s0.trans e, fun a o ha hao => e _ _ (h.kB a o ha hao), fun t => (h.sb t).same e, fun t => Nat.le_trans (h.ub t) hn⟩
theorem LJ.step (D : Dst g) (hf : ∀ m ∈ g.M, H₀ m = none) (h : LJ C g H₀ HB H st u zs n) (t : Bool) {st' : List Nr} {u' : Nat} (k : Kp [g.b t, g.d t, g.p t] H H') (s' : SB C H' g.M (g.b t) (g.d t) (g.p t) st' u' zs) (hn : n <= n') (hu : u' <= n') :
   LJ C g H₀ HB H' (putB st t st') (putB u t u') zs n' := by
 have hsub : ∀ a ∈ [g.b t, g.d t, g.p t], a ∈ g.M := fun a ha => by
   simp only [List.mem_cons, List.not_mem_nil, or_false] at ha
   rcases ha with rfl | rfl | rfl
   · exact g.bM t
   · exact g.dM t
   · exact g.pM t
 obtain ⟨⟨_, _, a1⟩, ⟨_, a2⟩, _, a3⟩ := h.at t
 refine ⟨fun a o hao => k _ _ (fun hm => by rw [hf a (hsub a hm)] at hao; cases hao) (h.s0 _ _ hao), fun a o ha hao => k _ _ (fun hm => ha (hsub a hm)) (h.kB a o ha hao), fun s => ?_, fun s => ?_⟩
 · by_cases e : s = t
   · subst e
     rw [xH, xH]
     exact s'
   · rw [jV e, jV e]
     obtain ⟨⟨_, _, b1⟩, ⟨_, b2⟩, _, b3⟩ := h.at s
     refine (h.sb s).keep k hsub (fun a ha xs hx => ?_) (fun ha => ?_) (fun ha => ?_) (fun ha => ?_)
     · simp only [List.mem_cons, List.not_mem_nil, or_false] at ha
       rcases ha with rfl | rfl | rfl
       · rw [a1] at hx; cases hx
       · rw [a2] at hx; cases hx
       · rw [a3] at hx; cases hx
     · simp only [List.mem_cons, List.not_mem_nil, or_false] at ha
       rcases ha with e' | e' | e'
       · exact two_ne D.b e e'
       · rw [e', a2] at b1; cases b1
       · rw [e', a3] at b1; cases b1
     · simp only [List.mem_cons, List.not_mem_nil, or_false] at ha
       rcases ha with e' | e' | e'
       · rw [e', a1] at b2; cases b2
       · exact two_ne D.d e e'
       · rw [e', a3] at b2; cases b2
     · simp only [List.mem_cons, List.not_mem_nil, or_false] at ha
       rcases ha with e' | e' | e'
       · rw [e', a1] at b3; cases b3
       · rw [e', a2] at b3; cases b3
       · exact two_ne D.p e e'
 · by_cases e : s = t
   · subst e
     rw [xH]
     exact hu
   · rw [jV e]
     exact Nat.le_trans (h.ub s) hn
theorem LJ.put (D : Dst g) (hf : ∀ m ∈ g.M, H₀ m = none) (h : LJ C g H₀ HB H st u zs n) {xs ys : List V} (hc : H g.c = some (.lst xs)) : LJ C g H₀ HB (upd H g.c (.lst ys)) st u zs n := by
 have k : Kp [g.c] H (upd H g.c (.lst ys)) := fun a o ha hao => by
   rw [List.mem_singleton] at ha
   rw [zE ha]
   exact hao
 refine ⟨fun a o hao => k _ _ (fun hm => by rw [List.mem_singleton.mp hm, hf _ g.cM] at hao; cases hao) (h.s0 _ _ hao), fun a o ha hao => k _ _ (fun hm => ha (by rw [List.mem_singleton.mp hm]; exact g.cM)) (h.kB a o ha hao), fun t => ?_, h.ub⟩
 obtain ⟨⟨_, _, b1⟩, ⟨_, b2⟩, _, b3⟩ := h.at t
 refine (h.sb t).keep k (fun a ha => by rw [List.mem_singleton.mp ha]; exact g.cM) (fun a ha xs' hx => by rw [List.mem_singleton.mp ha, hc] at hx; cases hx) (fun ha => ?_) (fun ha => ?_) (fun ha => ?_)
 · rw [List.mem_singleton.mp ha, hc] at b1; cases b1
 · rw [List.mem_singleton.mp ha, hc] at b2; cases b2
 · exact D.c t (List.mem_singleton.mp ha).symm
end
theorem yO {α : Type} (f : Bool -> α) (t : Bool) : atI [f false, f true] (if t = true then 1 else 0 : Int) = some (f t) := by
 cases t
 · exact at0
 · exact at1
def spLaw (K : PySem.W.Frag) : Sp := fun vs H Q _ => ∃ (a : Addr) (ns : List Int), vs = [.ref a] /\ SqL K H a (ns.map V.int) /\ ns.length <= 63 /\ ∀ H', Q (.bl true) H'
section
variable {P : Program} {w : World} {K : PySem.W.Frag} {mg : Str -> Option Value} {base : Heap} {f : Addr} {fd : FuncData} {C : Addr}
theorem ok_law (T : BkC K C) (bi : Bi mg) (h_l : Has P w K mg base 1 "_law_draw" ["script", "k"] (spDrB K)) (h_i : Has P w K mg base 2 "_law_names" ["script", "k", "many"] (spNs K)) (h_j : HasI P w K mg base 1 C "Book" ["self"] (spBI C)) (h_h : Has P w K mg base 4 "_law_is_put" ["book", "standing", "coming", "cell", "names"] (spIP C)) (h_c : Has P w K mg base 4 "_law_is_dropped" ["book", "standing", "n"] (spID C)) (h_e : Has P w K mg base 1 "_law_number_by" ["cell", "standing", "coming"] spNB) (h_f : Has P w K mg base 3 "_law_is_told" ["book", "standing"] (spIT C))
   (F : Fun K "law" "law" s_t f fd) : FnOk P w K mg base CX0 65 f fd ["script"] (spLaw K) := by
 have cl_Book := T.cl
 refine F.ok sc_t (fun vs H Q E h => ?_) (fun cdv A outer s H vs Q E hr h => ?_)
 · obtain ⟨a, ns, rfl, _⟩ := h
   rfl
 obtain ⟨a, ns, rfl, hS, hl, q⟩ := h
 refine ⟨_, (zB (zL (i := 1) sc_t.nd rfl (Or.inl rfl) (zN h_i (hr.mono (by omega)) rfl (zA (pv 0) (zA zD (zA (zJ op_add zD (zJ op_mod (zN h_l (hr.mono (by omega)) rfl (zA (pv 0) (zA zD pa_nil))) zD)) pa_nil))))) (zB (zL (i := 2) sc_t.nd rfl (Or.inl rfl) (yE (zA (qV h_j (hr.mono (by omega)) rfl) (zA (qV h_j (hr.mono (by omega)) rfl) pa_nil)))) (zB (zL (i := 3) sc_t.nd rfl (Or.inl rfl) (yE (zA (yE pa_nil) (zA (yE pa_nil) pa_nil)))) (zB (zL (i := 4) sc_t.nd rfl (Or.inl rfl) (yE (zA zD (zA zD pa_nil)))) (zB (jE PassesOwn.never rfl (yS rfl bi.range (zA (zJ op_add (zK call_len rfl bi.len bt_len (zA (pv 0) pa_nil)) zD) pa_nil)) (zX (i := 5) sc_t.nd rfl (Or.inl rfl)) (zB (zL (i := 6) sc_t.nd rfl (Or.inl rfl) (zN h_l (hr.mono (by omega)) rfl (zA (pv 0) (zA (pv 5) pa_nil)))) (zB (zL (i := 7) sc_t.nd rfl (Or.inl rfl) (zJ op_mod (zJ op_fdiv (pv 6) zD) zD)) (zI (yA (zP op_lt (zJ op_mod (pv 6) zD) zD (zR _)) (zB (zL (i := 8) sc_t.nd rfl (Or.inl rfl) (zK call_len rfl bi.len bt_len (zA (zQ ix_list (pv 3) (pv 7) (fun _ _ => rfl)) pa_nil))) (zB (yA (yX (yW (zN h_h (hr.mono (by omega)) rfl (zA (zQ ix_list (pv 2) (pv 7) (fun _ _ => rfl)) (zA (zQ ix_list (pv 3) (pv 7) (fun _ _ => rfl)) (zA (zQ ix_list (pv 4) (pv 7) (fun _ _ => rfl)) (zA (pv 6) (zA (pv 1) pa_nil)))))))) (zI (zM yP)) pss_nil) (zI (qD (zJ op_sub (zJ op_add (zQ ix_list (pv 4) (pv 7) (fun _ _ => rfl)) (zK call_len rfl bi.len bt_len (zA (zQ ix_list (pv 3) (pv 7) (fun _ _ => rfl)) pa_nil))) (pv 8)) (pg_sub (pv 4) (pv 7) set_list))))) (zI (yA (zP op_eq (zJ op_mod (pv 6) zD) zD (zR _)) (zI (yA (yX (yW (zN h_c (hr.mono (by omega)) rfl (zA (zQ ix_list (pv 2) (pv 7) (fun _ _ => rfl)) (zA (zQ ix_list (pv 3) (pv 7) (fun _ _ => rfl)) (zA (zN h_e (hr.mono (by omega)) rfl (zA (pv 6) (zA (zQ ix_list (pv 3) (pv 7) (fun _ _ => rfl)) (zA (zQ ix_list (pv 4) (pv 7) (fun _ _ => rfl)) pa_nil)))) pa_nil)))))) (zI (zM yP)) pss_nil)) (zI (yA (yX (yW (zN h_f (hr.mono (by omega)) rfl (zA (zQ ix_list (pv 2) (pv 7) (fun _ _ => rfl)) (zA (zQ ix_list (pv 3) (pv 7) (fun _ _ => rfl)) pa_nil))))) (zI (zM yP)) pss_nil))))))))) (zI (zM (jH (zN h_f (hr.mono (by omega)) rfl (zA (zQ ix_list (pv 2) zD (fun _ _ => rfl)) (zA (zQ ix_list (pv 3) zD (fun _ _ => rfl)) pa_nil))) (qF (zN h_f (hr.mono (by omega)) rfl (zA (zQ ix_list (pv 2) zD (fun _ _ => rfl)) (zA (zQ ix_list (pv 3) zD (fun _ _ => rfl)) pa_nil)))))))))))), ?_⟩
 refine zG fun N hN => ?_
 simp! []
 refine ⟨a, ns, 2, rfl, hS, hl, by omega, fun z z0 _ => ⟨z, rfl, by decide, ?_⟩⟩
 obtain ⟨m, hm⟩ : ∃ m : Nat, 1 + z % 3 = (m : Int) := ⟨(1 + z % 3).toNat, by omega⟩
 rw [hm]
 refine ⟨a, ns, 0, m, rfl, hS, hl, by omega, by omega, by omega, fun na zs H1 s1 hnm => hN _ _ ?_⟩
 clear hN
 have m15 : 1 <= m /\ m <= 5 := by omega
 have hS1 := Same.seq s1 hS
 clear s1 hS hm z0
 refine zG fun N hN => ?_
 simp! [tMake]
 refine fun b0 dx0 hb0 hdx0 hne0 => ⟨b0, dx0, rfl, zC, fun d0 wa0 ta0 H2 kp2 hd0 hb2 hd2 => ⟨rfl, ?_⟩⟩
 have d0n : d0 ≠ b0 := fun e => by rw [e, zC] at hd0; cases hd0
 have hd0n : H1 d0 = none := by
   rw [zE d0n] at hd0
   by_cases e : d0 = dx0
   · rw [e, zC] at hd0; cases hd0
   · rw [zE e] at hd0; exact hd0
 have sA : Same H1 H2 := fun x o hx => kp2 _ _ (by rw [List.mem_singleton]; intro e; rw [e, hb0] at hx; cases hx) (by
   rw [zE (fun e => by rw [e, hb0] at hx; cases hx), zE (fun e => by rw [e, hdx0] at hx; cases hx)]
   exact hx)
 clear kp2 hd0 hdx0 hne0
 refine fun b1 dx1 hb1 hdx1 hne1 => ⟨b1, dx1, rfl, zC, fun d1 wa1 ta1 H3 kp3 hd1 hb3 hd3 => ⟨rfl, ?_⟩⟩
 have d1n : d1 ≠ b1 := fun e => by rw [e, zC] at hd1; cases hd1
 have hd1n : H2 d1 = none := by
   rw [zE d1n] at hd1
   by_cases e : d1 = dx1
   · rw [e, zC] at hd1; cases hd1
   · rw [zE e] at hd1; exact hd1
 have sB : Same H2 H3 := fun x o hx => kp3 _ _ (by rw [List.mem_singleton]; intro e; rw [e, hb1] at hx; cases hx) (by
   rw [zE (fun e => by rw [e, hb1] at hx; cases hx), zE (fun e => by rw [e, hdx1] at hx; cases hx)]
   exact hx)
 clear kp3 hd1 hdx1 hne1
 have b01 : b0 ≠ b1 := fun e => by rw [← e, hb2] at hb1; cases hb1
 have d01 : d0 ≠ d1 := fun e => by rw [← e, hd2] at hd1n; cases hd1n
 have b1n := sA.free hb1
 have d1n' := sA.free hd1n
 have hb03 := sB _ _ hb2
 have hd03 := sB _ _ hd2
 have sAB := sA.trans sB
 clear sA sB hb2 hd2 hb1 hd1n d1n d0n
 refine ⟨zO (by simp), fun ba hba => hN _ _ ?_⟩
 clear hN
 have g4 := zF hba (.lst [V.ref b0, V.ref b1])
 have kba : upd H3 ba (.lst [V.ref b0, V.ref b1]) ba = some (.lst [V.ref b0, V.ref b1]) := zC
 generalize upd H3 ba (.lst [V.ref b0, V.ref b1]) = H4 at g4 kba ⊢
 refine zG fun N hN => ?_
 simp! []
 refine ⟨Nat.zero_le _, fun p0 hp0 => ?_⟩
 have g5 := zF hp0 (.lst [])
 have kp0 : upd H4 p0 (.lst []) p0 = some (.lst []) := zC
 generalize upd H4 p0 (.lst []) = H5 at g5 kp0 ⊢
 refine ⟨Nat.zero_le _, fun p1 hp1 => ?_⟩
 have g6 := zF hp1 (.lst [])
 have kp1 : upd H5 p1 (.lst []) p1 = some (.lst []) := zC
 generalize upd H5 p1 (.lst []) = H6 at g6 kp1 ⊢
 refine ⟨zO (by simp), fun ra hra => hN _ _ ?_⟩
 clear hN
 have g7 := zF hra (.lst [V.ref p0, V.ref p1])
 have kra : upd H6 ra (.lst [V.ref p0, V.ref p1]) ra = some (.lst [V.ref p0, V.ref p1]) := zC
 generalize upd H6 ra (.lst [V.ref p0, V.ref p1]) = H7 at g7 kra ⊢
 refine zG fun N hN => ?_
 simp! []
 refine ⟨zO (by simp), fun cg hcg => hN _ _ ?_⟩
 clear hN
 have g8 := zF hcg (.lst [V.int 0, V.int 0])
 have kcg : upd H7 cg (.lst [V.int 0, V.int 0]) cg = some (.lst [V.int 0, V.int 0]) := zC
 generalize upd H7 cg (.lst [V.int 0, V.int 0]) = H8 at g8 kcg ⊢
 have p01 : p0 ≠ p1 := fun e => by rw [← e, kp0] at hp1; cases hp1
 have c0 : cg ≠ p0 := fun e => by have := (g6.trans g7) _ _ kp0; rw [← e, hcg] at this; cases this
 have c1 : cg ≠ p1 := fun e => by have := g7 _ _ kp1; rw [← e, hcg] at this; cases this
 have s48 := g5.trans (g6.trans (g7.trans g8))
 have s18 := sAB.trans (g4.trans s48)
 obtain ⟨g, gb0, gb1, gd0, gd1, gp0, gp1, gc⟩ : ∃ g : Pl, g.b false = b0 /\ g.b true = b1 /\ g.d false = d0 /\ g.d true = d1 /\ g.p false = p0 /\ g.p true = p1 /\ g.c = cg := ⟨⟨fun t => if t then b1 else b0, fun t => if t then d1 else d0, fun t => if t then p1 else p0, cg⟩, rfl, rfl, rfl, rfl, rfl, rfl, rfl⟩
 subst gb0 gb1 gd0 gd1 gp0 gp1 gc
 have hgM : ∀ x, x ∈ g.M -> H1 x = none := fun x hx => by
   simp only [Pl.M, List.mem_cons, List.not_mem_nil, or_false] at hx
   rcases hx with rfl | rfl | rfl | rfl | rfl | rfl | rfl
   · exact hb0
   · exact hd0n
   · exact (sAB.trans g4).free hp0
   · exact b1n
   · exact d1n'
   · exact (sAB.trans (g4.trans g5)).free hp1
   · exact (sAB.trans (g4.trans (g5.trans (g6.trans g7)))).free hcg
 have D : Dst g := ⟨b01, d01, p01, fun t => by cases t; exact c0; exact c1⟩
 have J0 : LJ C g H1 H8 H8 (fun _ => []) (fun _ => 0) zs 0 := by
   refine ⟨s18, fun _ _ _ h => h, fun t => ?_, fun t => Nat.le_refl _⟩
   cases t
   · exact ⟨⟨⟨dx0, wa0, ta0, (g4.trans s48) _ _ hb03⟩, ⟨[], (g4.trans s48) _ _ hd03, .nil⟩, g.bM false, g.dM false⟩, ⟨⟨[], (g6.trans (g7.trans g8)) _ _ kp0, .nil⟩, g.pM false⟩, ⟨(fun _ h => by cases h), List.nodup_nil, Nat.zero_le _⟩, (fun _ h => by cases h)⟩
   · exact ⟨⟨⟨dx1, wa1, ta1, (g4.trans s48) _ _ hb3⟩, ⟨[], (g4.trans s48) _ _ hd3, .nil⟩, g.bM true, g.dM true⟩, ⟨⟨[], (g7.trans g8) _ _ kp1, .nil⟩, g.pM true⟩, ⟨(fun _ h => by cases h), List.nodup_nil, Nat.zero_le _⟩, (fun _ h => by cases h)⟩
 have nba : ba ∉ g.M := fun hx => by
   simp only [Pl.M, List.mem_cons, List.not_mem_nil, or_false] at hx
   rcases hx with e | e | e | e | e | e | e
   · rw [e, hb03] at hba; cases hba
   · rw [e, hd03] at hba; cases hba
   · rw [e, hp0] at kba; cases kba
   · rw [e, hb3] at hba; cases hba
   · rw [e, hd3] at hba; cases hba
   · have := g5 _ _ kba; rw [e, hp1] at this; cases this
   · have := (g5.trans (g6.trans g7)) _ _ kba; rw [e, hcg] at this; cases this
 have nra : ra ∉ g.M := fun hx => by
   simp only [Pl.M, List.mem_cons, List.not_mem_nil, or_false] at hx
   rcases hx with e | e | e | e | e | e | e
   · have := (g4.trans (g5.trans g6)) _ _ hb03; rw [← e, hra] at this; cases this
   · have := (g4.trans (g5.trans g6)) _ _ hd03; rw [← e, hra] at this; cases this
   · have := g6 _ _ kp0; rw [← e, hra] at this; cases this
   · have := (g4.trans (g5.trans g6)) _ _ hb3; rw [← e, hra] at this; cases this
   · have := (g4.trans (g5.trans g6)) _ _ hd3; rw [← e, hra] at this; cases this
   · rw [← e, hra] at kp1; cases kp1
   · rw [e, hcg] at kra; cases kra
 have nna : na ∉ g.M := fun hx => by have := hnm.lst; rw [hgM na hx] at this; cases this
 have kba8 := s48 _ _ kba
 have kra8 := g8 _ _ kra
 have hnm8 := hnm.same s18
 have hS8 := hS1
 clear hb0 hd0n b1n d1n' hp0 hp1 hcg b01 d01 p01 c0 c1 hb03 hd03 hb3 hd3 hba kba kp0 kp1 kra hra g4 g5 g6 g7 g8 s48 s18 sAB hnm
 refine yM (fun σ H' => ∃ (st : Bool -> List Nr) (u : Bool -> Nat) (o1 o2 o3 o4 : Option V), LJ C g H1 H8 H' st u zs 100 /\ σ = [some (V.ref a), some (V.ref na), some (V.ref ba), some (V.ref ra), some (V.ref g.c), o1, o2, o3, o4]) (fun N hN => ?_) (fun σ H' h => ?_)
 · simp! []
   refine ⟨ns.length, .inl ⟨_, Same.seq J0.s0 hS1, (List.length_map _).symm⟩, by omega, by omega, ?_⟩
   refine xZ (n := ns.length + 4) (fun i σ H' => ∃ (st : Bool -> List Nr) (u : Bool -> Nat) (o1 o2 o3 o4 : Option V), LJ C g H1 H8 H' st u zs i /\ H' g.c = some (.lst [V.int (u false), V.int (u true)]) /\ σ = [some (V.ref a), some (V.ref na), some (V.ref ba), some (V.ref ra), some (V.ref g.c), o1, o2, o3, o4]) ⟨_, _, _, _, _, _, J0, kcg, rfl⟩ (fun i σ H' hi h => ?_) (fun σ H' h => ?_)
   case refine_2 =>
     obtain ⟨st, u, o1, o2, o3, o4, J, _, rfl⟩ := h
     exact hN _ _ ⟨st, u, _, _, _, _, J.same (Same.refl _) (by omega), rfl⟩
   obtain ⟨st, u, o1, o2, o3, o4, J, hc, rfl⟩ := h
   have kbaH := J.kB _ _ nba kba8
   have kraH := J.kB _ _ nra kra8
   have hnmH : Nms H' na m zs := ⟨J.kB _ _ nna hnm8.lst, hnm8.len, hnm8.nd, hnm8.nm⟩
   have hex := J.ex (by rw [hc]; simp)
   have ek : (0 : Int) + (i : Int) = ((i : Nat) : Int) := by omega
   rw [ek]
   refine zG fun N hN => ?_
   simp! []
   refine ⟨a, ns, i, rfl, Same.seq J.s0 hS1, hl, by omega, fun z z0 z1 => hN _ _ ?_⟩
   clear hN
   refine zG fun N hN => ?_
   simp! []
   refine ⟨⟨by decide, by decide⟩, by decide, hN _ _ ?_⟩
   clear hN
   obtain ⟨t, ht⟩ : ∃ t : Bool, z / 4 % 2 = (if t = true then 1 else 0 : Int) := by
     by_cases e : z / 4 % 2 = 0
     · exact ⟨false, e⟩
     · exact ⟨true, by show z / 4 % 2 = 1; omega⟩
   rw [ht]
   obtain ⟨ws, hp, hws⟩ := (J.sb t).rl.1
   have hwl : ws.length = (st t).length := Paired.length hws
   have hcn : g.c ∉ [g.b t, g.d t, g.p t] := fun hm => by
     obtain ⟨⟨_, _, a1⟩, ⟨_, a2⟩, _⟩ := J.at t
     simp only [List.mem_cons, List.not_mem_nil, or_false] at hm
     rcases hm with e | e | e
     · rw [← e, hc] at a1; cases a1
     · rw [← e, hc] at a2; cases a2
     · exact D.c t e
   refine if_abs fun TT UU hT hU => ?_
   simp! []
   refine ⟨by decide, ?_⟩
   by_cases c4 : z % 4 < 2
   · rw [if_pos c4]
     refine hT _ ?_
     clear hT hU
     refine zG fun N hN => ?_
     simp! []
     refine ⟨_, SqL.of kraH, _, yO (fun t => V.ref (g.p t)) t, ws.length, .inl ⟨_, SqL.of hp, rfl⟩, hN _ _ ?_⟩
     clear hN
     refine zG fun N hN => ?_
     simp! []
     refine ⟨_, SqL.of kbaH, _, yO (fun t => V.ref (g.b t)) t, _, SqL.of kraH, _, yO (fun t => V.ref (g.p t)) t, _, SqL.of hc, _, yO (fun t => V.int (u t)) t, g.b t, g.d t, g.p t, z, na, g.M, st t, u t, m, zs, rfl, J.sb t, hex, nna, hnmH, m15.1, m15.2, fun st' u' H9 kp sb' hle hle2 hu' => ⟨_, rfl, ?_⟩⟩
     rw [if_neg (by decide)]
     refine hN _ _ ?_
     clear hN
     have hub := J.ub t
     have J1 := J.step (n' := i + 1) D hgM t kp sb' (Nat.le_succ _) (by omega)
     have hc9 := kp _ _ hcn hc
     have kra9 := J1.kB _ _ nra kra8
     obtain ⟨ws', hp9, hws9⟩ := sb'.rl.1
     have hwl9 : ws'.length = st'.length := Paired.length hws9
     simp! [gSub, rSetL]
     refine ⟨_, SqL.of hc9, _, yO (fun t => V.int (u t)) t, _, SqL.of kra9, _, yO (fun t => V.ref (g.p t)) t, ws'.length, .inl ⟨_, SqL.of hp9, rfl⟩, _, rfl, _, hc9, (if t = true then 1 else 0), by cases t <;> rfl, putB st t st', putB u t u', J1.put D hgM hc9, ?_, _, rfl⟩
     rw [zC]
     have ev : ((u t : Nat) : Int) + (ws'.length : Int) - (ws.length : Int) = ((u' : Nat) : Int) := by omega
     rw [ev]
     cases t <;> rfl
   · rw [if_neg c4]
     refine hU _ ?_
     clear hT hU
     refine if_abs fun TT UU hT hU => ?_
     simp! []
     refine ⟨by decide, rfl, ?_⟩
     by_cases c5 : z % 4 = 2
     · rw [if_pos c5]
       refine hT _ ?_
       clear hT hU
       simp! []
       have hub := J.ub t
       refine ⟨_, SqL.of kbaH, _, yO (fun t => V.ref (g.b t)) t, _, SqL.of kraH, _, yO (fun t => V.ref (g.p t)) t, _, SqL.of kraH, _, yO (fun t => V.ref (g.p t)) t, _, SqL.of hc, _, yO (fun t => V.int (u t)) t, z, g.p t, g.M, st t, u t, rfl, (J.sb t).rl, z0, z1, fun q hq => by have := (J.sb t).so.lt q hq; omega, by omega, fun n hn => ?_⟩
       refine ⟨g.b t, g.d t, g.p t, n, g.M, st t, u t, zs, rfl, J.sb t, hex, hn, fun st' H9 kp sb' => ⟨_, rfl, ?_⟩⟩
       rw [if_neg (by decide)]
       have J1 := J.step (n' := i + 1) D hgM t kp sb' (Nat.le_succ _) (by omega)
       have hc9 := kp _ _ hcn hc
       have eu : putB u t (u t) = u := funext fun s => by
         by_cases e : s = t
         · rw [e, xH]
         · rw [jV e]
       rw [eu] at J1
       exact ⟨_, u, J1, hc9, _, rfl⟩
     · rw [if_neg c5]
       refine hU _ ?_
       clear hT hU
       simp! []
       refine ⟨_, SqL.of kbaH, _, yO (fun t => V.ref (g.b t)) t, _, SqL.of kraH, _, yO (fun t => V.ref (g.p t)) t, g.b t, g.d t, g.p t, g.M, st t, u t, zs, rfl, J.sb t, fun H9 s9 => ⟨_, rfl, ?_⟩⟩
       rw [if_neg (by decide)]
       have J1 := J.same (n' := i + 1) s9 (Nat.le_succ _)
       exact ⟨_, u, J1, s9 _ _ hc, _, rfl⟩
 obtain ⟨st, u, o1, o2, o3, o4, J, rfl⟩ := h
 have kbaH := J.kB _ _ nba kba8
 have kraH := J.kB _ _ nra kra8
 simp! []
 refine ⟨_, SqL.of kbaH, _, at0, _, SqL.of kraH, _, at0, g.b false, g.d false, g.p false, g.M, st false, u false, zs, rfl, J.sb false, fun H9 s9 => ⟨_, rfl, ?_⟩⟩
 rw [if_pos rfl]
 exact ⟨_, SqL.of (s9 _ _ kbaH), _, at1, _, SqL.of (s9 _ _ kraH), _, at1, g.b true, g.d true, g.p true, g.M, st true, u true, zs, rfl, (J.sb true).same s9, fun H10 s10 => q _⟩
end
theorem ln0 {us : List Value} (h : us.length = 0) : us = [] := List.length_eq_zero_iff.mp h
theorem lnS {us : List Value} {n : Nat} (h : us.length = n + 1) : ∃ (u : Value) (r : List Value), us = u :: r /\ r.length = n := by
 cases us with
 | nil => cases h
 | cons u r => exact ⟨u, r, rfl, Nat.succ.inj h⟩
theorem ln1 {us : List Value} (h : us.length = 1) : ∃ a, us = [a] := by
 obtain ⟨a, r, rfl, g⟩ := lnS h
 cases ln0 g
 exact ⟨a, rfl⟩
theorem ln2 {us : List Value} (h : us.length = 2) : ∃ a b, us = [a, b] := by
 obtain ⟨a, r, rfl, g⟩ := lnS h
 obtain ⟨b, rfl⟩ := ln1 g
 exact ⟨a, b, rfl⟩
theorem ln3 {us : List Value} (h : us.length = 3) : ∃ a b c, us = [a, b, c] := by
 obtain ⟨a, r, rfl, g⟩ := lnS h
 obtain ⟨b, c, rfl⟩ := ln2 g
 exact ⟨a, b, c, rfl⟩
theorem ln4 {us : List Value} (h : us.length = 4) : ∃ a b c d, us = [a, b, c, d] := by
 obtain ⟨a, r, rfl, g⟩ := lnS h
 obtain ⟨b, c, d, rfl⟩ := ln3 g
 exact ⟨a, b, c, d, rfl⟩
theorem ln5 {us : List Value} (h : us.length = 5) : ∃ a b c d e, us = [a, b, c, d, e] := by
 obtain ⟨a, r, rfl, g⟩ := lnS h
 obtain ⟨b, c, d, e, rfl⟩ := ln4 g
 exact ⟨a, b, c, d, e, rfl⟩
theorem all_mk {l : PySem.W.OpenLaw} {w : World} {K : PySem.W.Frag} {h : Heap} {mg : Str -> Option Value} {fa : Addr} (X : K.In h) (G : h.Ns mainGlobals mg) (hfa : mg "law" = some (.ref fa))
   {C_Book : Addr} (aC_Book : PySem.W.nsIn K mainGlobals "Book" = some (some (.ref C_Book)))
   {f_j : Addr} {od_j an_j : Option Addr} {sl_j : Array (Option Value)} {oc_j kV_j dc_j pm_j cd_j ct_j : Value} (a_j : PySem.W.findIn K (.ref C_Book) "__init__" = some (some (.ref f_j))) (i_j : PySem.W.isFn K (.ref f_j) = true) (l_j : K.lookup f_j = some ⟨oc_j, od_j, .func (PySem.W.fnOf "__init__" "Book.__init__" (zV s_j) (zS s_j) (zH s_j) .none kV_j dc_j pm_j an_j cd_j ct_j), sl_j⟩) (c_j : PySem.W.codeIn K cd_j "Book.__init__" = true) (k_j : PySem.W.keepIn K (.ref f_j) = true)
   {f_o : Addr} {od_o an_o : Option Addr} {sl_o : Array (Option Value)} {oc_o kV_o dc_o pm_o cd_o ct_o : Value} (a_o : PySem.W.findIn K (.ref C_Book) "put" = some (some (.ref f_o))) (i_o : PySem.W.isFn K (.ref f_o) = true) (l_o : K.lookup f_o = some ⟨oc_o, od_o, .func (PySem.W.fnOf "put" "Book.put" (zV s_o) (zS s_o) (zH s_o) .none kV_o dc_o pm_o an_o cd_o ct_o), sl_o⟩) (c_o : PySem.W.codeIn K cd_o "Book.put" = true) (k_o : PySem.W.keepIn K (.ref f_o) = true)
   {f_k : Addr} {od_k an_k : Option Addr} {sl_k : Array (Option Value)} {oc_k kV_k dc_k pm_k cd_k ct_k : Value} (a_k : PySem.W.findIn K (.ref C_Book) "drop" = some (some (.ref f_k))) (i_k : PySem.W.isFn K (.ref f_k) = true) (l_k : K.lookup f_k = some ⟨oc_k, od_k, .func (PySem.W.fnOf "drop" "Book.drop" (zV s_k) (zS s_k) (zH s_k) .none kV_k dc_k pm_k an_k cd_k ct_k), sl_k⟩) (c_k : PySem.W.codeIn K cd_k "Book.drop" = true) (k_k : PySem.W.keepIn K (.ref f_k) = true)
   {f_g : Addr} {od_g an_g : Option Addr} {sl_g : Array (Option Value)} {oc_g kV_g dc_g pm_g cd_g ct_g : Value} (a_g : PySem.W.findIn K (.ref C_Book) "rules" = some (some (.ref f_g))) (i_g : PySem.W.isFn K (.ref f_g) = true) (l_g : K.lookup f_g = some ⟨oc_g, od_g, .func (PySem.W.fnOf "rules" "Book.rules" (zV s_g) (zS s_g) (zH s_g) .none kV_g dc_g pm_g an_g cd_g ct_g), sl_g⟩) (c_g : PySem.W.codeIn K cd_g "Book.rules" = true) (k_g : PySem.W.keepIn K (.ref f_g) = true)
   (pg_Book : PySem.W.plainGet K C_Book Str.empty = true) (hd_Book : PySem.W.hasDictIn K C_Book = true) (po_Book : PySem.W.plainOver K C_Book = true) (sa_Book : PySem.W.findIn K (.ref C_Book) "__setattr__" = some (some (.builtin "object.__setattr__"))) (mk_Book : PySem.W.makesIn K C_Book = true) (kc_Book : PySem.W.keepIn K (.ref C_Book) = true) (n_Book_standing : PySem.W.findIn K (.ref C_Book) "standing" = some none) (n_Book_numbers_used : PySem.W.findIn K (.ref C_Book) "numbers_used" = some none) (n_Book_watched : PySem.W.findIn K (.ref C_Book) "watched" = some none) (n_Book_truths : PySem.W.findIn K (.ref C_Book) "truths" = some none)
   {f_q : Addr} {od_q an_q : Option Addr} {sl_q : Array (Option Value)} {oc_q kV_q dc_q pm_q cd_q ct_q : Value} (a_q : PySem.W.nsIn K mainGlobals "is_whole" = some (some (.ref f_q))) (l_q : K.lookup f_q = some ⟨oc_q, od_q, .func (PySem.W.fnOf "is_whole" "is_whole" (zV s_q) (zS s_q) (zH s_q) .none kV_q dc_q pm_q an_q cd_q ct_q), sl_q⟩) (c_q : PySem.W.codeIn K cd_q "is_whole" = true) (k_q : PySem.W.keepIn K (.ref f_q) = true)
   {f_s : Addr} {od_s an_s : Option Addr} {sl_s : Array (Option Value)} {oc_s kV_s dc_s pm_s cd_s ct_s : Value} (a_s : PySem.W.nsIn K mainGlobals "copied" = some (some (.ref f_s))) (l_s : K.lookup f_s = some ⟨oc_s, od_s, .func (PySem.W.fnOf "copied" "copied" (zV s_s) (zS s_s) (zH s_s) .none kV_s dc_s pm_s an_s cd_s ct_s), sl_s⟩) (c_s : PySem.W.codeIn K cd_s "copied" = true) (k_s : PySem.W.keepIn K (.ref f_s) = true)
   {f_l : Addr} {od_l an_l : Option Addr} {sl_l : Array (Option Value)} {oc_l kV_l dc_l pm_l cd_l ct_l : Value} (a_l : PySem.W.nsIn K mainGlobals "_law_draw" = some (some (.ref f_l))) (l_l : K.lookup f_l = some ⟨oc_l, od_l, .func (PySem.W.fnOf "_law_draw" "_law_draw" (zV s_l) (zS s_l) (zH s_l) .none kV_l dc_l pm_l an_l cd_l ct_l), sl_l⟩) (c_l : PySem.W.codeIn K cd_l "_law_draw" = true) (k_l : PySem.W.keepIn K (.ref f_l) = true)
   {f_n : Addr} {od_n an_n : Option Addr} {sl_n : Array (Option Value)} {oc_n kV_n dc_n pm_n cd_n ct_n : Value} (a_n : PySem.W.nsIn K mainGlobals "_law_whole" = some (some (.ref f_n))) (l_n : K.lookup f_n = some ⟨oc_n, od_n, .func (PySem.W.fnOf "_law_whole" "_law_whole" (zV s_n) (zS s_n) (zH s_n) .none kV_n dc_n pm_n an_n cd_n ct_n), sl_n⟩) (c_n : PySem.W.codeIn K cd_n "_law_whole" = true) (k_n : PySem.W.keepIn K (.ref f_n) = true)
   {f_i : Addr} {od_i an_i : Option Addr} {sl_i : Array (Option Value)} {oc_i kV_i dc_i pm_i cd_i ct_i : Value} (a_i : PySem.W.nsIn K mainGlobals "_law_names" = some (some (.ref f_i))) (l_i : K.lookup f_i = some ⟨oc_i, od_i, .func (PySem.W.fnOf "_law_names" "_law_names" (zV s_i) (zS s_i) (zH s_i) .none kV_i dc_i pm_i an_i cd_i ct_i), sl_i⟩) (c_i : PySem.W.codeIn K cd_i "_law_names" = true) (k_i : PySem.W.keepIn K (.ref f_i) = true)
   {f_m : Addr} {od_m an_m : Option Addr} {sl_m : Array (Option Value)} {oc_m kV_m dc_m pm_m cd_m ct_m : Value} (a_m : PySem.W.nsIn K mainGlobals "_law_small" = some (some (.ref f_m))) (l_m : K.lookup f_m = some ⟨oc_m, od_m, .func (PySem.W.fnOf "_law_small" "_law_small" (zV s_m) (zS s_m) (zH s_m) .none kV_m dc_m pm_m an_m cd_m ct_m), sl_m⟩) (c_m : PySem.W.codeIn K cd_m "_law_small" = true) (k_m : PySem.W.keepIn K (.ref f_m) = true)
   {f_a : Addr} {od_a an_a : Option Addr} {sl_a : Array (Option Value)} {oc_a kV_a dc_a pm_a cd_a ct_a : Value} (a_a : PySem.W.nsIn K mainGlobals "_law_small_saying" = some (some (.ref f_a))) (l_a : K.lookup f_a = some ⟨oc_a, od_a, .func (PySem.W.fnOf "_law_small_saying" "_law_small_saying" (zV s_a) (zS s_a) (zH s_a) .none kV_a dc_a pm_a an_a cd_a ct_a), sl_a⟩) (c_a : PySem.W.codeIn K cd_a "_law_small_saying" = true) (k_a : PySem.W.keepIn K (.ref f_a) = true)
   {f_b : Addr} {od_b an_b : Option Addr} {sl_b : Array (Option Value)} {oc_b kV_b dc_b pm_b cd_b ct_b : Value} (a_b : PySem.W.nsIn K mainGlobals "_law_small_rule" = some (some (.ref f_b))) (l_b : K.lookup f_b = some ⟨oc_b, od_b, .func (PySem.W.fnOf "_law_small_rule" "_law_small_rule" (zV s_b) (zS s_b) (zH s_b) .none kV_b dc_b pm_b an_b cd_b ct_b), sl_b⟩) (c_b : PySem.W.codeIn K cd_b "_law_small_rule" = true) (k_b : PySem.W.keepIn K (.ref f_b) = true)
   {f_d : Addr} {od_d an_d : Option Addr} {sl_d : Array (Option Value)} {oc_d kV_d dc_d pm_d cd_d ct_d : Value} (a_d : PySem.W.nsIn K mainGlobals "_law_same_rules" = some (some (.ref f_d))) (l_d : K.lookup f_d = some ⟨oc_d, od_d, .func (PySem.W.fnOf "_law_same_rules" "_law_same_rules" (zV s_d) (zS s_d) (zH s_d) .none kV_d dc_d pm_d an_d cd_d ct_d), sl_d⟩) (c_d : PySem.W.codeIn K cd_d "_law_same_rules" = true) (k_d : PySem.W.keepIn K (.ref f_d) = true)
   {f_r : Addr} {od_r an_r : Option Addr} {sl_r : Array (Option Value)} {oc_r kV_r dc_r pm_r cd_r ct_r : Value} (a_r : PySem.W.nsIn K mainGlobals "_law_put" = some (some (.ref f_r))) (l_r : K.lookup f_r = some ⟨oc_r, od_r, .func (PySem.W.fnOf "_law_put" "_law_put" (zV s_r) (zS s_r) (zH s_r) .none kV_r dc_r pm_r an_r cd_r ct_r), sl_r⟩) (c_r : PySem.W.codeIn K cd_r "_law_put" = true) (k_r : PySem.W.keepIn K (.ref f_r) = true)
   {f_p : Addr} {od_p an_p : Option Addr} {sl_p : Array (Option Value)} {oc_p kV_p dc_p pm_p cd_p ct_p : Value} (a_p : PySem.W.nsIn K mainGlobals "_law_drop" = some (some (.ref f_p))) (l_p : K.lookup f_p = some ⟨oc_p, od_p, .func (PySem.W.fnOf "_law_drop" "_law_drop" (zV s_p) (zS s_p) (zH s_p) .none kV_p dc_p pm_p an_p cd_p ct_p), sl_p⟩) (c_p : PySem.W.codeIn K cd_p "_law_drop" = true) (k_p : PySem.W.keepIn K (.ref f_p) = true)
   {f_h : Addr} {od_h an_h : Option Addr} {sl_h : Array (Option Value)} {oc_h kV_h dc_h pm_h cd_h ct_h : Value} (a_h : PySem.W.nsIn K mainGlobals "_law_is_put" = some (some (.ref f_h))) (l_h : K.lookup f_h = some ⟨oc_h, od_h, .func (PySem.W.fnOf "_law_is_put" "_law_is_put" (zV s_h) (zS s_h) (zH s_h) .none kV_h dc_h pm_h an_h cd_h ct_h), sl_h⟩) (c_h : PySem.W.codeIn K cd_h "_law_is_put" = true) (k_h : PySem.W.keepIn K (.ref f_h) = true)
   {f_e : Addr} {od_e an_e : Option Addr} {sl_e : Array (Option Value)} {oc_e kV_e dc_e pm_e cd_e ct_e : Value} (a_e : PySem.W.nsIn K mainGlobals "_law_number_by" = some (some (.ref f_e))) (l_e : K.lookup f_e = some ⟨oc_e, od_e, .func (PySem.W.fnOf "_law_number_by" "_law_number_by" (zV s_e) (zS s_e) (zH s_e) .none kV_e dc_e pm_e an_e cd_e ct_e), sl_e⟩) (c_e : PySem.W.codeIn K cd_e "_law_number_by" = true) (k_e : PySem.W.keepIn K (.ref f_e) = true)
   {f_c : Addr} {od_c an_c : Option Addr} {sl_c : Array (Option Value)} {oc_c kV_c dc_c pm_c cd_c ct_c : Value} (a_c : PySem.W.nsIn K mainGlobals "_law_is_dropped" = some (some (.ref f_c))) (l_c : K.lookup f_c = some ⟨oc_c, od_c, .func (PySem.W.fnOf "_law_is_dropped" "_law_is_dropped" (zV s_c) (zS s_c) (zH s_c) .none kV_c dc_c pm_c an_c cd_c ct_c), sl_c⟩) (c_c : PySem.W.codeIn K cd_c "_law_is_dropped" = true) (k_c : PySem.W.keepIn K (.ref f_c) = true)
   {f_f : Addr} {od_f an_f : Option Addr} {sl_f : Array (Option Value)} {oc_f kV_f dc_f pm_f cd_f ct_f : Value} (a_f : PySem.W.nsIn K mainGlobals "_law_is_told" = some (some (.ref f_f))) (l_f : K.lookup f_f = some ⟨oc_f, od_f, .func (PySem.W.fnOf "_law_is_told" "_law_is_told" (zV s_f) (zS s_f) (zH s_f) .none kV_f dc_f pm_f an_f cd_f ct_f), sl_f⟩) (c_f : PySem.W.codeIn K cd_f "_law_is_told" = true) (k_f : PySem.W.keepIn K (.ref f_f) = true)
   {f_t : Addr} {od_t an_t : Option Addr} {sl_t : Array (Option Value)} {oc_t kV_t dc_t pm_t cd_t ct_t : Value} (a_t : PySem.W.nsIn K mainGlobals "law" = some (some (.ref f_t))) (l_t : K.lookup f_t = some ⟨oc_t, od_t, .func (PySem.W.fnOf "law" "law" (zV s_t) (zS s_t) (zH s_t) .none kV_t dc_t pm_t an_t cd_t ct_t), sl_t⟩) (c_t : PySem.W.codeIn K cd_t "law" = true) (k_t : PySem.W.keepIn K (.ref f_t) = true)
    (z_zip : PySem.W.nsIn K mainGlobals "zip" = some none)
   {t_MOST_RULES : Tok} (g_MOST_RULES : PySem.W.nsIn K mainGlobals "MOST_RULES" = some (some (.int 12 t_MOST_RULES)))
   {C_ClashError : Addr} (a_ClashError : PySem.W.nsIn K mainGlobals "ClashError" = some (some (.ref C_ClashError)))
   {C_NoRule : Addr} (a_NoRule : PySem.W.nsIn K mainGlobals "NoRule" = some (some (.ref C_NoRule)))
   {C_TooMuch : Addr} (a_TooMuch : PySem.W.nsIn K mainGlobals "TooMuch" = some (some (.ref C_TooMuch)))
    (z_ValueError : PySem.W.nsIn K mainGlobals "ValueError" = some none)
    (ei_TooMuch : PySem.W.excIn K C_TooMuch [.type "ValueError", .type "Exception", .type "BaseException", .type "object"] "ValueError.__new__" = true) (x1_TooMuch : (PySem.W.clsIn K C_TooMuch).isSome = true) (x2_TooMuch : PySem.W.findIn K (.ref C_TooMuch) "__getattribute__" = some (some (.builtin "BaseException.__getattribute__"))) (x3_TooMuch : PySem.W.findIn K (.ref C_TooMuch) "__getattr__" = some none) (x4_TooMuch : PySem.W.findIn K (.ref C_TooMuch) "__class__" = some (some (.builtin "object.__class__"))) (x5_TooMuch : PySem.W.specialIn K (.builtin "object.__class__") "__get__" = some (some (.builtin "getset_descriptor.__get__"))) (x6_TooMuch : PySem.W.takesIn K (.builtin "object.__class__") = some true) (x7_TooMuch : PySem.W.mroIn K C_TooMuch (.type "object") = some true) (x8_TooMuch : PySem.W.mroIn K C_TooMuch (.type "BaseException") = some true) (xb_TooMuch : qA K C_ClashError (.type "BaseException") = some true) (xt_TooMuch : qA K C_TooMuch (.ref C_ClashError) = some true) (kv_TooMuch : PySem.W.kitOne K (.ref C_TooMuch) (.type "ValueError") = some true)
    (ei_NoRule : PySem.W.excIn K C_NoRule [.type "ValueError", .type "Exception", .type "BaseException", .type "object"] "ValueError.__new__" = true) (x1_NoRule : (PySem.W.clsIn K C_NoRule).isSome = true) (x2_NoRule : PySem.W.findIn K (.ref C_NoRule) "__getattribute__" = some (some (.builtin "BaseException.__getattribute__"))) (x3_NoRule : PySem.W.findIn K (.ref C_NoRule) "__getattr__" = some none) (x4_NoRule : PySem.W.findIn K (.ref C_NoRule) "__class__" = some (some (.builtin "object.__class__"))) (x5_NoRule : PySem.W.specialIn K (.builtin "object.__class__") "__get__" = some (some (.builtin "getset_descriptor.__get__"))) (x6_NoRule : PySem.W.takesIn K (.builtin "object.__class__") = some true) (x7_NoRule : PySem.W.mroIn K C_NoRule (.type "object") = some true) (x8_NoRule : PySem.W.mroIn K C_NoRule (.type "BaseException") = some true) (xb_NoRule : qA K C_ClashError (.type "BaseException") = some true) (xt_NoRule : qA K C_NoRule (.ref C_ClashError) = some true) (kv_NoRule : PySem.W.kitOne K (.ref C_NoRule) (.type "ValueError") = some true)
    (ko_TooMuch_TooMuch : PySem.W.kitOne K (.ref C_TooMuch) (.ref C_TooMuch) = some true)
    (ko_TooMuch_NoRule : PySem.W.kitOne K (.ref C_TooMuch) (.ref C_NoRule) = some false)
    (ko_NoRule_NoRule : PySem.W.kitOne K (.ref C_NoRule) (.ref C_NoRule) = some true)
    (ko_NoRule_TooMuch : PySem.W.kitOne K (.ref C_NoRule) (.ref C_TooMuch) = some false)
   (z_all : PySem.W.nsIn K mainGlobals "all" = some none)
   (z_bool : PySem.W.nsIn K mainGlobals "bool" = some none)
   (z_dict : PySem.W.nsIn K mainGlobals "dict" = some none)
   (z_int : PySem.W.nsIn K mainGlobals "int" = some none)
   (z_isinstance : PySem.W.nsIn K mainGlobals "isinstance" = some none)
   (z_len : PySem.W.nsIn K mainGlobals "len" = some none)
   (z_list : PySem.W.nsIn K mainGlobals "list" = some none)
   (z_max : PySem.W.nsIn K mainGlobals "max" = some none)
   (z_range : PySem.W.nsIn K mainGlobals "range" = some none)
   (z_set : PySem.W.nsIn K mainGlobals "set" = some none)
   (z_sorted : PySem.W.nsIn K mainGlobals "sorted" = some none)
   (z_str : PySem.W.nsIn K mainGlobals "str" = some none)
   (z_sum : PySem.W.nsIn K mainGlobals "sum" = some none)
   (z_tuple : PySem.W.nsIn K mainGlobals "tuple" = some none) :
   ∃ fd : FuncData, (∀ (s : Shared) (v : Value), BindsTo s fd ⟨[v], []⟩ [("script", v)]) /\ ∀ base : Heap, K.In base -> base.Ns mainGlobals mg -> FnOk l.prog w K mg base CX0 65 fa fd ["script"] (spLaw K) := by
 have e := hfa.symm.trans (PySem.W.mg_of X G a_t)
 cases e
 have cl_Book : Cls K C_Book := ⟨pg_Book, hd_Book, po_Book, sa_Book⟩
 have mC_Book := PySem.W.mg_of X G aC_Book
 have F_j := yC (st := s_j) l_j c_j k_j
 have b_j := F_j.binds (ps := ["self"]) fun _ _ _ _ _ _ us hl => by obtain ⟨u0, rfl⟩ := ln1 hl; rfl
 have t_j : Meth K C_Book "__init__" f_j := ⟨a_j, i_j, k_j⟩
 have F_o := yC (st := s_o) l_o c_o k_o
 have b_o := F_o.binds (ps := ["self", "rule"]) fun _ _ _ _ _ _ us hl => by obtain ⟨u0, u1, rfl⟩ := ln2 hl; rfl
 have t_o : Meth K C_Book "put" f_o := ⟨a_o, i_o, k_o⟩
 have F_k := yC (st := s_k) l_k c_k k_k
 have b_k := F_k.binds (ps := ["self", "number"]) fun _ _ _ _ _ _ us hl => by obtain ⟨u0, u1, rfl⟩ := ln2 hl; rfl
 have t_k : Meth K C_Book "drop" f_k := ⟨a_k, i_k, k_k⟩
 have F_g := yC (st := s_g) l_g c_g k_g
 have b_g := F_g.binds (ps := ["self"]) fun _ _ _ _ _ _ us hl => by obtain ⟨u0, rfl⟩ := ln1 hl; rfl
 have t_g : Meth K C_Book "rules" f_g := ⟨a_g, i_g, k_g⟩
 have F_q := yC (st := s_q) l_q c_q k_q
 have b_q := F_q.binds (ps := ["n"]) fun _ _ _ _ _ _ us hl => by obtain ⟨u0, rfl⟩ := ln1 hl; rfl
 have m_q := PySem.W.mg_of X G a_q
 have F_s := yC (st := s_s) l_s c_s k_s
 have b_s := F_s.binds (ps := ["rule"]) fun _ _ _ _ _ _ us hl => by obtain ⟨u0, rfl⟩ := ln1 hl; rfl
 have m_s := PySem.W.mg_of X G a_s
 have F_l := yC (st := s_l) l_l c_l k_l
 have b_l := F_l.binds (ps := ["script", "k"]) fun _ _ _ _ _ _ us hl => by obtain ⟨u0, u1, rfl⟩ := ln2 hl; rfl
 have m_l := PySem.W.mg_of X G a_l
 have F_n := yC (st := s_n) l_n c_n k_n
 have b_n := F_n.binds (ps := ["found"]) fun _ _ _ _ _ _ us hl => by obtain ⟨u0, rfl⟩ := ln1 hl; rfl
 have m_n := PySem.W.mg_of X G a_n
 have F_i := yC (st := s_i) l_i c_i k_i
 have b_i := F_i.binds (ps := ["script", "k", "many"]) fun _ _ _ _ _ _ us hl => by obtain ⟨u0, u1, u2, rfl⟩ := ln3 hl; rfl
 have m_i := PySem.W.mg_of X G a_i
 have F_m := yC (st := s_m) l_m c_m k_m
 have b_m := F_m.binds (ps := ["pick", "names"]) fun _ _ _ _ _ _ us hl => by obtain ⟨u0, u1, rfl⟩ := ln2 hl; rfl
 have m_m := PySem.W.mg_of X G a_m
 have F_a := yC (st := s_a) l_a c_a k_a
 have b_a := F_a.binds (ps := ["pick", "names"]) fun _ _ _ _ _ _ us hl => by obtain ⟨u0, u1, rfl⟩ := ln2 hl; rfl
 have m_a := PySem.W.mg_of X G a_a
 have F_b := yC (st := s_b) l_b c_b k_b
 have b_b := F_b.binds (ps := ["cell", "names"]) fun _ _ _ _ _ _ us hl => by obtain ⟨u0, u1, rfl⟩ := ln2 hl; rfl
 have m_b := PySem.W.mg_of X G a_b
 have F_d := yC (st := s_d) l_d c_d k_d
 have b_d := F_d.binds (ps := ["found", "standing"]) fun _ _ _ _ _ _ us hl => by obtain ⟨u0, u1, rfl⟩ := ln2 hl; rfl
 have m_d := PySem.W.mg_of X G a_d
 have F_r := yC (st := s_r) l_r c_r k_r
 have b_r := F_r.binds (ps := ["book", "rule"]) fun _ _ _ _ _ _ us hl => by obtain ⟨u0, u1, rfl⟩ := ln2 hl; rfl
 have m_r := PySem.W.mg_of X G a_r
 have F_p := yC (st := s_p) l_p c_p k_p
 have b_p := F_p.binds (ps := ["book", "n"]) fun _ _ _ _ _ _ us hl => by obtain ⟨u0, u1, rfl⟩ := ln2 hl; rfl
 have m_p := PySem.W.mg_of X G a_p
 have F_h := yC (st := s_h) l_h c_h k_h
 have b_h := F_h.binds (ps := ["book", "standing", "coming", "cell", "names"]) fun _ _ _ _ _ _ us hl => by obtain ⟨u0, u1, u2, u3, u4, rfl⟩ := ln5 hl; rfl
 have m_h := PySem.W.mg_of X G a_h
 have F_e := yC (st := s_e) l_e c_e k_e
 have b_e := F_e.binds (ps := ["cell", "standing", "coming"]) fun _ _ _ _ _ _ us hl => by obtain ⟨u0, u1, u2, rfl⟩ := ln3 hl; rfl
 have m_e := PySem.W.mg_of X G a_e
 have F_c := yC (st := s_c) l_c c_c k_c
 have b_c := F_c.binds (ps := ["book", "standing", "n"]) fun _ _ _ _ _ _ us hl => by obtain ⟨u0, u1, u2, rfl⟩ := ln3 hl; rfl
 have m_c := PySem.W.mg_of X G a_c
 have F_f := yC (st := s_f) l_f c_f k_f
 have b_f := F_f.binds (ps := ["book", "standing"]) fun _ _ _ _ _ _ us hl => by obtain ⟨u0, u1, rfl⟩ := ln2 hl; rfl
 have m_f := PySem.W.mg_of X G a_f
 have F_t := yC (st := s_t) l_t c_t k_t
 have b_t := F_t.binds (ps := ["script"]) fun _ _ _ _ _ _ us hl => by obtain ⟨u0, rfl⟩ := ln1 hl; rfl
 have m_t := PySem.W.mg_of X G a_t
 have bi : Bi mg := ⟨PySem.W.mg_none_of X G z_len, PySem.W.mg_none_of X G z_range, PySem.W.mg_none_of X G z_isinstance, PySem.W.mg_none_of X G z_max, PySem.W.mg_none_of X G z_sum, PySem.W.mg_none_of X G z_all, PySem.W.mg_none_of X G z_tuple, PySem.W.mg_none_of X G z_list, PySem.W.mg_none_of X G z_sorted, PySem.W.mg_none_of X G z_set, PySem.W.mg_none_of X G z_int, PySem.W.mg_none_of X G z_bool, PySem.W.mg_none_of X G z_str, PySem.W.mg_none_of X G z_dict⟩
 refine ⟨PySem.W.fnOf "law" "law" (zV s_t) (zS s_t) (zH s_t) .none kV_t dc_t pm_t an_t cd_t ct_t, fun s v => .of_eq rfl, fun base Xb Gb => ?_⟩
 have bz : mg "zip" = none := PySem.W.mg_none_of X G z_zip
 have m_TooMuch := PySem.W.mg_of X G a_TooMuch
 have m_NoRule := PySem.W.mg_of X G a_NoRule
 have Er : Errs K mg C_ClashError C_TooMuch C_NoRule := ⟨PySem.W.mg_of X G a_ClashError, xb_TooMuch, xt_TooMuch, xt_NoRule, ⟨x1_TooMuch, x2_TooMuch, x3_TooMuch, x4_TooMuch, x5_TooMuch, x6_TooMuch, x7_TooMuch, x8_TooMuch⟩, ⟨x1_NoRule, x2_NoRule, x3_NoRule, x4_NoRule, x5_NoRule, x6_NoRule, x7_NoRule, x8_NoRule⟩, PySem.W.mg_none_of X G z_ValueError, ⟨_, m_TooMuch, rfl⟩, ⟨_, m_NoRule, rfl⟩, kv_TooMuch, ko_TooMuch_TooMuch, ko_TooMuch_NoRule, kv_NoRule, ko_NoRule_NoRule, ko_NoRule_TooMuch⟩
 have O_TooMuch := own_mk (x := "TooMuch") (mg := mg) Xb m_TooMuch ei_TooMuch
 have O_NoRule := own_mk (x := "NoRule") (mg := mg) Xb m_NoRule ei_NoRule
 have gM : Gc mg "MOST_RULES" (.int 12) := ⟨_, PySem.W.mg_of X G g_MOST_RULES, ⟨_, rfl⟩⟩
 have T : BkC K C_Book := ⟨cl_Book, n_Book_standing, n_Book_numbers_used, n_Book_watched, n_Book_truths⟩
 have h1 := yH F_l (ok_draw (P := l.prog) (w := w) (base := base) bi F_l) b_l m_l
 have h1b := yH F_l (ok_drawB (P := l.prog) (w := w) (base := base) bi F_l) b_l m_l
 have h2 := yH F_i (ok_names bi h1 F_i) b_i m_i
 have h3 := yH F_q (uN (P := l.prog) (w := w) (base := base) bi F_q) b_q m_q
 have h4 := yH F_s (ok_copied (P := l.prog) (w := w) (base := base) bi F_s) b_s m_s
 have g0 : HasI l.prog w K mg base 1 C_Book "Book" ["self"] (spBI C_Book) := ⟨_, _, ok_binit T F_j, b_j, ⟨mk_Book, a_j, i_j, kc_Book⟩, mC_Book⟩
 have g1 : HasMX l.prog w K mg base 2 C_Book "put" ["self", "rule"] (spPut C_Book C_TooMuch) := ⟨_, _, ok_put T bi O_TooMuch PySem.F.excBase_ValueError m_TooMuch gM h4 F_o, b_o, t_o⟩
 have g2 : HasMX l.prog w K mg base 2 C_Book "drop" ["self", "number"] (spDro C_Book C_NoRule) := ⟨_, _, ok_drop T bi O_NoRule PySem.F.excBase_ValueError m_NoRule h3 F_k, b_k, t_k⟩
 have g3 : HasM l.prog w K mg base 2 C_Book "rules" ["self"] (spRul C_Book) := ⟨_, _, ok_rules T bi h4 F_g, b_g, t_g⟩
 have h5 := yH F_n (ok_lwhole (P := l.prog) (w := w) (base := base) bi F_n) b_n m_n
 have h6 := yH F_d (ok_same bi bz h5 F_d) b_d m_d
 have h7 := yH F_r (ok_lput T Er bi g1 F_r) b_r m_r
 have h8 := yH F_p (ok_ldrop T Er bi g2 F_p) b_p m_p
 have h17 := yH F_m (ok_small (P := l.prog) (w := w) (base := base) bi F_m) b_m m_m
 have h18 := yH F_a (jR bi h17 F_a) b_a m_a
 have h19 := yH F_b (qP bi h18 F_b) b_b m_b
 have h20 := yH F_h (ok_is_put bi h19 h7 h5 F_h) b_h m_h
 have h21 := yH F_e (uM (P := l.prog) (w := w) (base := base) bi F_e) b_e m_e
 have h22 := yH F_c (qQ bi h8 F_c) b_c m_c
 have h23 := yH F_f (ok_is_told T bi g3 h6 F_f) b_f m_f
 exact ok_law T bi h1b h2 g0 h20 h22 h21 h23 F_t
theorem walk {l : PySem.W.OpenLaw} {q : Program} {loose : List Str} {XP : (Str -> Option Value) -> Heap -> Prop} {YP : World -> Heap -> Prop} {d : DefRec} {K : Params -> PySem.W.Frag} (hn : l.most = some 63) (hdf : d.params.defaults = [])
   (hY : ∀ (w : World) (h : Heap), YP w h -> (K w.params).In h)
   (F : ∀ (w : World) (mg : Str -> Option Value) (fa : Addr) (h : Heap), (K w.params).In h -> h.Ns mainGlobals mg -> mg d.name = some (.ref fa) ->
     ∃ fd : FuncData, (∀ (s : Shared) (u : Value), BindsTo s fd ⟨[u], []⟩ [("script", u)]) /\ ∀ base : Heap, (K w.params).In base -> base.Ns mainGlobals mg -> FnOk l.prog w (K w.params) mg base CX0 65 fa fd ["script"] (spLaw (K w.params))) :
   PySem.W.WalkO q loose XP YP l.row.toRowW d [] (fun f vs => PySem.call f vs) :=
 L2.walk_of (n := 63) (k := 65) (x := "script") (CX := fun _ => CX0) (sp := fun w => spLaw (K w.params)) hn (by decide) hdf ⟨rfl, by decide, by decide⟩ hY F (fun _ _ a ns hl _ hS => ⟨a, ns, rfl, hS, hl, fun _ => rfl⟩) fun _ _ _ _ _ z => z
end C
open PySem PySem.W PyProof.Rows
set_option maxRecDepth 100000 in
set_option maxHeartbeats 0 in
theorem PySem.Challenge.cw_clashbook_k32_rules_come_and_go_holds : PySem.Challenge.rw_clashbook_k32_rules_come_and_go.Holds := by
 w_on; o_law; k_head; (case hw => w_witness2)
 k_fill
 refine C.walk (l := PySem.Challenge.rw_clashbook_k32_rules_come_and_go) rfl rfl (fun w h Y => PySem.W.kIn_of Y) ?F
 case F =>
   intro w mg fa h KX G hmg
   refine' C.all_mk KX G hmg ?aC_Book ?a_j ?i_j ?l_j ?c_j ?k_j ?a_o ?i_o ?l_o ?c_o ?k_o ?a_k ?i_k ?l_k ?c_k ?k_k ?a_g ?i_g ?l_g ?c_g ?k_g ?pg_Book ?hd_Book ?po_Book ?sa_Book ?mk_Book ?kc_Book ?n_Book_standing ?n_Book_numbers_used ?n_Book_watched ?n_Book_truths ?a_q ?l_q ?c_q ?k_q ?a_s ?l_s ?c_s ?k_s ?a_l ?l_l ?c_l ?k_l ?a_n ?l_n ?c_n ?k_n ?a_i ?l_i ?c_i ?k_i ?a_m ?l_m ?c_m ?k_m ?a_a ?l_a ?c_a ?k_a ?a_b ?l_b ?c_b ?k_b ?a_d ?l_d ?c_d ?k_d ?a_r ?l_r ?c_r ?k_r ?a_p ?l_p ?c_p ?k_p ?a_h ?l_h ?c_h ?k_h ?a_e ?l_e ?c_e ?k_e ?a_c ?l_c ?c_c ?k_c ?a_f ?l_f ?c_f ?k_f ?a_t ?l_t ?c_t ?k_t ?z_zip ?g_MOST_RULES ?a_ClashError ?a_NoRule ?a_TooMuch ?z_ValueError ?ei_TooMuch ?x1_TooMuch ?x2_TooMuch ?x3_TooMuch ?x4_TooMuch ?x5_TooMuch ?x6_TooMuch ?x7_TooMuch ?x8_TooMuch ?xb_TooMuch ?xt_TooMuch ?kv_TooMuch ?ei_NoRule ?x1_NoRule ?x2_NoRule ?x3_NoRule ?x4_NoRule ?x5_NoRule ?x6_NoRule ?x7_NoRule ?x8_NoRule ?xb_NoRule ?xt_NoRule ?kv_NoRule ?ko_TooMuch_TooMuch ?ko_TooMuch_NoRule ?ko_NoRule_NoRule ?ko_NoRule_TooMuch ?z_all ?z_bool ?z_dict ?z_int ?z_isinstance ?z_len ?z_list ?z_max ?z_range ?z_set ?z_sorted ?z_str ?z_sum ?z_tuple
   (case aC_Book => k_is); (case a_j => k_is); (case i_j => k_is); (case l_j => k_is)
   (case c_j => k_is); (case k_j => k_is); (case a_o => k_is); (case i_o => k_is)
   (case l_o => k_is); (case c_o => k_is); (case k_o => k_is); (case a_k => k_is)
   (case i_k => k_is); (case l_k => k_is); (case c_k => k_is); (case k_k => k_is)
   (case a_g => k_is); (case i_g => k_is); (case l_g => k_is); (case c_g => k_is)
   (case k_g => k_is); (case pg_Book => k_is); (case hd_Book => k_is); (case po_Book => k_is)
   (case sa_Book => k_is); (case mk_Book => k_is); (case kc_Book => k_is); (case n_Book_standing => k_is)
   (case n_Book_numbers_used => k_is); (case n_Book_watched => k_is); (case n_Book_truths => k_is); (case a_q => k_is)
   (case l_q => k_is); (case c_q => k_is); (case k_q => k_is); (case a_s => k_is)
   (case l_s => k_is); (case c_s => k_is); (case k_s => k_is); (case a_l => k_is)
   (case l_l => k_is); (case c_l => k_is); (case k_l => k_is); (case a_n => k_is)
   (case l_n => k_is); (case c_n => k_is); (case k_n => k_is); (case a_i => k_is)
   (case l_i => k_is); (case c_i => k_is); (case k_i => k_is); (case a_m => k_is)
   (case l_m => k_is); (case c_m => k_is); (case k_m => k_is); (case a_a => k_is)
   (case l_a => k_is); (case c_a => k_is); (case k_a => k_is); (case a_b => k_is)
   (case l_b => k_is); (case c_b => k_is); (case k_b => k_is); (case a_d => k_is)
   (case l_d => k_is); (case c_d => k_is); (case k_d => k_is); (case a_r => k_is)
   (case l_r => k_is); (case c_r => k_is); (case k_r => k_is); (case a_p => k_is)
   (case l_p => k_is); (case c_p => k_is); (case k_p => k_is); (case a_h => k_is)
   (case l_h => k_is); (case c_h => k_is); (case k_h => k_is); (case a_e => k_is)
   (case l_e => k_is); (case c_e => k_is); (case k_e => k_is); (case a_c => k_is)
   (case l_c => k_is); (case c_c => k_is); (case k_c => k_is); (case a_f => k_is)
   (case l_f => k_is); (case c_f => k_is); (case k_f => k_is); (case a_t => k_is)
   (case l_t => k_is); (case c_t => k_is); (case k_t => k_is); (case z_zip => k_is)
   (case g_MOST_RULES => k_is); (case a_ClashError => k_is); (case a_NoRule => k_is); (case a_TooMuch => k_is)
   (case z_ValueError => k_is); (case ei_TooMuch => first | k_is | kernel_rfl); (case x1_TooMuch => first | k_is | kernel_rfl); (case x2_TooMuch => first | k_is | kernel_rfl)
   (case x3_TooMuch => first | k_is | kernel_rfl); (case x4_TooMuch => first | k_is | kernel_rfl); (case x5_TooMuch => first | k_is | kernel_rfl); (case x6_TooMuch => first | k_is | kernel_rfl)
   (case x7_TooMuch => first | k_is | kernel_rfl); (case x8_TooMuch => first | k_is | kernel_rfl); (case xb_TooMuch => first | k_is | kernel_rfl); (case xt_TooMuch => first | k_is | kernel_rfl)
   (case kv_TooMuch => first | k_is | kernel_rfl); (case ei_NoRule => first | k_is | kernel_rfl); (case x1_NoRule => first | k_is | kernel_rfl); (case x2_NoRule => first | k_is | kernel_rfl)
   (case x3_NoRule => first | k_is | kernel_rfl); (case x4_NoRule => first | k_is | kernel_rfl); (case x5_NoRule => first | k_is | kernel_rfl); (case x6_NoRule => first | k_is | kernel_rfl)
   (case x7_NoRule => first | k_is | kernel_rfl); (case x8_NoRule => first | k_is | kernel_rfl); (case xb_NoRule => first | k_is | kernel_rfl); (case xt_NoRule => first | k_is | kernel_rfl)
   (case kv_NoRule => first | k_is | kernel_rfl); (case ko_TooMuch_TooMuch => first | k_is | kernel_rfl); (case ko_TooMuch_NoRule => first | k_is | kernel_rfl); (case ko_NoRule_NoRule => first | k_is | kernel_rfl)
   (case ko_NoRule_TooMuch => first | k_is | kernel_rfl); (case z_all => k_is); (case z_bool => k_is); (case z_dict => k_is)
   (case z_int => k_is); (case z_isinstance => k_is); (case z_len => k_is); (case z_list => k_is)
   (case z_max => k_is); (case z_range => k_is); (case z_set => k_is); (case z_sorted => k_is)
   (case z_str => k_is); (case z_sum => k_is); (case z_tuple => k_is)
#print axioms PySem.Challenge.cw_clashbook_k32_rules_come_and_go_holds
