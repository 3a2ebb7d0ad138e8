import PyProof.Rows.All
import Wide.All
import OpenK.AllK
import Wide.FinOn
import Lean
import PyProof.EqAt
import PyProof.EqKinds
import PyProof.TupleCall
import PyProof.FitsReplace
import PyProof.StrLawsChain
import PyProof.IsiH_list
import KE.KDictOf
import PyProof.Rows.Exc
import PyProof.RulesTry
import PyProof.ForAppend
import PyProof.Rows.Tup
import PyProof.CollectWalk
import PyProof.Rows.DictListVals
import PyProof.AutoSeq1
import PyProof.FactsAll.list_3
import KE.KDictSum
import PyProof.Rows.SortStr
import PyProof.Rows.SortWalk
import PyProof.SetKind
import PyProof.Rows.SetObj
import PyProof.DictKinds
import PyProof.DictIter
import PyProof.MakeMany
import PyProof.WalksS
import PyProof.Walks
import PyProof.Seq
import PyProof.TupleIter
import PyProof.FactsAll.set_1
import PyProof.ForAny
import PyProof.Rows.SetFrom
import PyProof.Rows.StrMeet
import PyProof.NeKinds
import PyProof.ZipIter
import KE.BitLaws
import PyProof.Rows.TupAdd
import PySem.SetOps
import PyProof.EnumMake
import PyProof.EnumFor
import PyProof.Rows.EnumRows
import PyProof.Rows.Range3
import PyProof.Rows.BitMore
import PyProof.Rows.RuleM_int
import PyProof.DictRoadsH
import KE.KDictList
import PyProof.DictWalks
import PyProof.AutoListH
import PyProof.FactsAll.list_2
import PyProof.CallType
import PyProof.ListNew
import PyProof.Conv_int_bool
import PyProof.ConsumeWalk
import PyProof.Rows.SortShell
import KE.KSortTup
import PySem.Challenge.RW_clashbook_k18_more_rules
namespace PySem.W.Fast
def tw4058703971314917059:=0
def tw4495960319527740715:=0
def tw11477202250313823522:=0
def tw3474876019321411602:=0
def tw18368825184280215928:=0
def tw14434590211997457445:=0
def tw13311692415191853444:=0
def tw13077632480429666273:=0
def tw9972491121912420904:=0
def tw12164179510339519442:=0
def tw3590494926688239607:=0
def tw3790759996519241473:=0
def tw445569015258505947:=0
def tw3735861715246946242:=0
def tw8547560286296820003:=0
def tw16184623723068527849:=0
def tw9446540083043668543:=0
def tw17138712930136878110:=0
def tw10136686843141762877:=0
def tw1486069746665330166:=0
def tw18365819504273511457:=0
def tw2369406569754934484:=0
def tw13435811999752083326:=0
def tw6455260076656743164:=0
def tw17045115433780292312:=0
def tw740459633201354583:=0
def tw5537585859433793529:=0
def tw10775991900175819057:=0
def tw4128108088973030252:=0
def tw11794374152636480058:=0
def tw9956801347577622736:=0
def tw5479132712073984994:=0
def tw13173591947251875506:=0
def tw10970189519873214487:=0
def tw148273812836950779:=0
def tw15873292247003373340:=0
def tw18305137739469714768:=0
def tw16533469201639420224:=0
def tw16917218485174589847:=0
def tw11151190061890236516:=0
def tw9371908820692327953:=0
def tw13063875684351748985:=0
def tw6830436072126905344:=0
def tw11860994649435028582:=0
def tw17199372795702422388:=0
def tw2801287983151904133:=0
def tw1129452744398551693:=0
def tw4741437079631261767:=0
def tw12299159717351372110:=0
def tw12945207092083823691:=0
def tw12418385050706204071:=0
def tw2488536057645522092:=0
def tw4593610295467155983:=0
def tw14712379910157757400:=0
def tw9170488432284389587:=0
def tw2205197335919935284:=0
def tw8392986950612873188:=0
def tw5735270263111153157:=0
def tw6039208987147685186:=0
def tw2948410449573507394:=0
def tw4647330698188790313:=0
def tw15485960843131855896:=0
def tw926550623097111444:=0
def tw17856107547661772645:=0
def tw13768633099534146697:=0
def tw7367279774392326983:=0
def tw15656619706909528951:=0
def tw7995897262027883313:=0
def tw9232978246168772652:=0
def tw8992110926359609357:=0
def tw3837148872031324152:=0
def tw2412540269703119449:=0
def tw12824638447731126969:=0
def tw998121260266502693:=0
def tw14625072234107364753:=0
def tw12597142574366002913:=0
def tw8953171406650296556:=0
def tw10772480165626496144:=0
def tw16427878191625969652:=0
def tw5159528972529123830:=0
def tw9838636457780358848:=0
def tw8671143162116517318:=0
def tw10202121979920674383:=0
def tw4863073636849778180:=0
def tw5419807700185996949:=0
def tw7935740659138544621:=0
def tw18436334977282466194:=0
def tw1601252908244278074:=0
def tw1242426652483342866:=0
def tw1997859040761761736:=0
def tw10704220062787209747:=0
def tw14825564407877176700:=0
def tw1151218223657636004:=0
def tw13802031705510898137:=0
def tw165267697951247426:=0
def tw56754620363911188:=0
def tw1846479735527388665:=0
def tw16222438020693114040:=0
def tw6095683736557263029:=0
def tw10797601845467090079:=0
def tw9295232926679449079:=0
def tw574594921757470499:=0
def tw8784707659148538099:=0
def tw2776196037260969569:=0
def tw12980144498226813937:=0
def tw15441704330567463731:=0
def tw16314349846667440189:=0
def tw13844762911811590058:=0
def tw11638230365254985129:=0
def tw16362995791153261266:=0
def tw3541108790463240909:=0
def tw17526341916359065054:=0
def tw6295320331411830526:=0
def tw1965649381624161708:=0
def tw14608452462427727902:=0
def tw3411368967664461130:=0
def tw15943660953733925834:=0
def tw6698910404428958476:=0
def tw276857244785530421:=0
def tw3092965708418160814:=0
def tw12823388681942315942:=0
def tw6713668604909785905:=0
def tw11545231445800156116:=0
def tw11986068828979551122:=0
def tw2662864350360513111:=0
def tw551858195743162319:=0
def tw14535295665766409858:=0
def tw10395256738402298607:=0
def tw13658748927746140546:=0
def tw7023541569235689561:=0
def tw13644460071666942234:=0
def tw2327471234483642033:=0
def tw5813908478740202330:=0
def tw1708760241631341677:=0
def tw12829908998399840183:=0
def tw16138273404770174335:=0
def tw6195810305987434789:=0
def tw5437130264357882926:=0
def tw6225887148339005586:=0
def tw16688447598666603605:=0
def tw5864392995190954497:=0
def tw9643159360041877452:=0
def tw10766634486580078373:=0
def tw5489840610072402670:=0
def tw16674397896122133391:=0
def tw11219454473252964778:=0
def tw6529067903380974771:=0
def tw10802931054939800743:=0
def tw9340629933424338155:=0
def tw11919450099697155703:=0
def tw7213305289168577355:=0
def tw6294414320282281923:=0
def tw13304421167947358437:=0
def tw978544689997103976:=0
def tw11152010265130567783:=0
def tw360142279542626185:=0
def tw3635116766038808475:=0
def tw14818732503148859791:=0
def tw2411192464956079400:=0
def tw2327895289523792990:=0
def tw5433565530295778837:=0
def tw737107736534209773:=0
def tw6749273034352541951:=0
def tw16542654729327046084:=0
def tw6433205454478712515:=0
def tw8875745013042151220:=0
def tw364845427246581801:=0
def tw5460954015111702877:=0
def tw907450308012438725:=0
def tw16332204610224120996:=0
def tw9517003531403753088:=0
def tw14182827064642380572:=0
def tw7469802033335902940:=0
def tw2409441327848629766:=0
def tw5150797616839132677:=0
def tw4069251179645042660:=0
def tw7655844869705328052:=0
def tw15200984840569045089:=0
def tw2628518920503268047:=0
def tw5885128157273750098:=0
def tw16539319321199076054:=0
def tw17469920416578512537:=0
def tw17628665223234986200:=0
def tw9340434419365533882:=0
def tw2573838928602310195:=0
def tw16076318415386155434:=0
end PySem.W.Fast
set_option Elab.async false
set_option linter.all false
set_option maxRecDepth 100000
namespace L2
open PySem PySem.Spec PyProof.Rows
abbrev Key := Sum Int Str
def keyIs : Key -> Value -> Bool
 | .inl k, v => Value.isInt k v
 | .inr x, v => Value.isStrOf x v
def keyH (w : World) : Key -> Int
 | .inl k => hashInt k
 | .inr x => hashStr w x
theorem keyIs_shape : ∀ {k : Key} {v : Value}, keyIs k v = true -> (∃ i t, k = Sum.inl i /\ v = Value.int i t) \/ (∃ x t, k = Sum.inr x /\ v = Value.str x t)
 | .inl i, v, h => by
   obtain ⟨t, e⟩ := Value.isInt_shape (k := i) (v := v) h
   exact .inl ⟨i, t, rfl, e⟩
 | .inr x, v, h => by
   obtain ⟨t, e⟩ := Value.isStrOf_shape (x := x) (v := v) h
   exact .inr ⟨x, t, rfl, e⟩
theorem keyIs_int (i : Int) (t : Tok) : keyIs (.inl i) (.int i t) = true := by simp [keyIs, Value.isInt]
theorem keyIs_str (x : Str) (t : Tok) : keyIs (.inr x) (.str x t) = true := by simp [keyIs, Value.isStrOf]
theorem key_ll (a b : Int) : decide ((Sum.inl a : Key) = Sum.inl b) = (a == b) := by
 by_cases e : a = b
 · subst e; simp
 · have h : ¬ (Sum.inl a : Key) = Sum.inl b := fun q => e (Sum.inl.inj q)
   rw [decide_eq_false h]
   exact (beq_eq_false_iff_ne.mpr e).symm
theorem key_rr (a b : Str) : decide ((Sum.inr a : Key) = Sum.inr b) = decide (a = b) := by
 by_cases e : a = b
 · subst e; simp
 · have h : ¬ (Sum.inr a : Key) = Sum.inr b := fun q => e (Sum.inr.inj q)
   rw [decide_eq_false h, decide_eq_false e]
theorem key_lr (a : Int) (b : Str) : decide ((Sum.inl a : Key) = Sum.inr b) = false := decide_eq_false (fun q => nomatch q)
theorem key_rl (a : Str) (b : Int) : decide ((Sum.inr a : Key) = Sum.inl b) = false := decide_eq_false (fun q => nomatch q)
def zZ (prog : Program) (w : World) : PySem.KeyKind prog w Key where
 is := keyIs
 hash := keyH w
 inj := fun v a b ha hb => by
   rcases keyIs_shape ha with ⟨i, t, rfl, rfl⟩ | ⟨x, t, rfl, rfl⟩
   · rcases keyIs_shape hb with ⟨j, u, rfl, e⟩ | ⟨y, u, rfl, e⟩
     · injection e with e1 _; rw [e1]
     · exact nomatch e
   · rcases keyIs_shape hb with ⟨j, u, rfl, e⟩ | ⟨y, u, rfl, e⟩
     · exact nomatch e
     · injection e with e1 _; rw [e1]
 byValue := fun k v h => by
   rcases keyIs_shape h with ⟨i, t, rfl, rfl⟩ | ⟨x, t, rfl, rfl⟩ <;> rfl
 pyHash := fun hv h => by
   rcases keyIs_shape hv with ⟨i, t, rfl, rfl⟩ | ⟨x, t, rfl, rfl⟩
   · exact wpAny_pyHash_int h
   · exact wpAny_pyHash_str h
 eqBool := fun hu hv h => by
   rcases keyIs_shape hu with ⟨i, t, rfl, rfl⟩ | ⟨x, t, rfl, rfl⟩
   · rcases keyIs_shape hv with ⟨j, u, rfl, rfl⟩ | ⟨y, u, rfl, rfl⟩
     · rw [key_ll] at h; exact wpAny_eqBool_int h
     · rw [key_lr] at h; exact SeqAt.EqAt.int_str i t y u _ _ _ _ h
   · rcases keyIs_shape hv with ⟨j, u, rfl, rfl⟩ | ⟨y, u, rfl, rfl⟩
     · rw [key_rl] at h; exact SeqAt.EqAt.str_int x t j u _ _ _ _ h
     · rw [key_rr] at h; exact wpAny_eqBool_str h
 «strs» := fun k x t v h => by
   rcases keyIs_shape h with ⟨i, u, rfl, e⟩ | ⟨y, u, rfl, e⟩
   · exact nomatch e
   · injection e with e1 _
     subst e1
     cases v <;> rfl
theorem mixKind_int (prog : Program) (w : World) (i : Int) (t : Tok) : (zZ prog w).is (.inl i) (.int i t) = true := keyIs_int i t
theorem xM (prog : Program) (w : World) (x : Str) (t : Tok) : (zZ prog w).is (.inr x) (.str x t) = true := keyIs_str x t
inductive V where
 | non | bl (b : Bool) | int (i : Int) | str (x : Str) | byt (b : Array UInt8) | flt (b : UInt64) | ref (a : Addr) | ty (n : String)
 deriving DecidableEq
def RelV : V -> Value -> Prop
 | .non, u => u = Value.none
 | .bl b, u => u = Value.bool b
 | .int i, u => ∃ t, u = Value.int i t
 | .str x, u => ∃ t, u = Value.str x t
 | .byt b, u => ∃ t, u = Value.bytes b t
 | .flt b, u => ∃ t, u = Value.float b t
 | .ref a, u => u = Value.ref a
 | .ty n, u => u = Value.type n
abbrev Vals : List V -> List Value -> Prop := Paired RelV
theorem Vals.length {xs : List V} {us : List Value} (r : Vals xs us) : xs.length = us.length := Paired.length r
theorem Vals.get : ∀ {xs : List V} {us : List Value} {i : Nat} {x : V}, Vals xs us -> xs[i]? = some x -> ∃ u, us[i]? = some u /\ RelV x u
 | _, _, _, _, .nil, e => by simp at e
 | _, _, 0, _, .cons r _, e => by simp at e; subst e; exact ⟨_, rfl, r⟩
 | _, _, i + 1, x, .cons _ t, e => by
   obtain ⟨u, h1, h2⟩ := Vals.get (i := i) (x := x) t (by simpa using e)
   exact ⟨u, by simpa using h1, h2⟩
theorem Vals.set {x : V} {u : Value} (r : RelV x u) : ∀ {xs : List V} {us : List Value} (i : Nat), Vals xs us -> Vals (xs.set i x) (us.set i u)
 | _, _, _, .nil => .nil
 | _, _, 0, .cons _ t => .cons r t
 | _, _, i + 1, .cons q t => .cons q (Vals.set r i t)
theorem Vals.append : ∀ {xs ys : List V} {us ws : List Value}, Vals xs us -> Vals ys ws -> Vals (xs ++ ys) (us ++ ws)
 | _, _, _, _, .nil, s => s
 | _, _, _, _, .cons r t, s => .cons r (Vals.append t s)
theorem Vals.take : ∀ {xs : List V} {us : List Value} (n : Nat), Vals xs us -> Vals (xs.take n) (us.take n)
 | _, _, 0, _ => .nil
 | _, _, _ + 1, .nil => .nil
 | _, _, n + 1, .cons r t => .cons r (Vals.take n t)
theorem Vals.drop : ∀ {xs : List V} {us : List Value} (n : Nat), Vals xs us -> Vals (xs.drop n) (us.drop n)
 | _, _, 0, r => r
 | _, _, _ + 1, .nil => .nil
 | _, _, n + 1, .cons _ t => Vals.drop n t
def RelO : Option V -> Option Value -> Prop
 | some v, some u => RelV v u
 | none, none => True
 | _, _ => False
def KV {κ : Type} : List (κ × V) -> List (κ × Value) -> Prop := Paired fun (p : κ × V) (q : κ × Value) => p.1 = q.1 /\ RelV p.2 q.2
def kV : Key -> V
 | .inl i => .int i
 | .inr x => .str x
inductive HO where
 | lst (xs : List V)
 | tup (xs : List V)
 | dK (kvs : List (Key × V)) | dT (kvs : List (List Key × V))
 | set (S : Int -> Bool) (n : Nat)
 | ins (C dx : Addr) (fs : List (Str × V))
 | own (x : Addr)
 | xd (fs : List (Str × V))
 | met (f x : Addr)
 | rng (lo hi : Int)
 | frz (o : Obj) (u : HO)
 | tbl (ps : Array Value)
 | ext (φ : Heap -> Prop)
abbrev Hp := Addr -> Option HO
def upd (H : Hp) (a : Addr) (o : HO) : Hp := fun b => if b = a then some o else H b
theorem zB {H : Hp} {a : Addr} {o : HO} : upd H a o a = some o := by unfold upd; rw [if_pos rfl]
theorem zF {H : Hp} {a b : Addr} {o : HO} (h : b ≠ a) : upd H a o b = H b := by unfold upd; rw [if_neg h]
theorem xF {H : Hp} {a b : Addr} {o u : HO} (h : H a = some o) (h' : H b = some u) (d : o ≠ u) : a ≠ b := by
 intro e; subst e; rw [h] at h'; exact d (Option.some.inj h')
theorem yD {H : Hp} {a b : Addr} {o : HO} (h : H a = some o) (h' : H b = none) : a ≠ b := by
 intro e; subst e; rw [h] at h'; cases h'
section
variable (P : Program) (w : World)
def ObjOk (H : Hp) (h : Heap) (a : Addr) : HO -> Prop
 | .lst xs => xs.length <= sizeLine /\ ∃ (its : List Value) (n : Nat), Vals xs its /\ h.get? a = some { cls := .type "list", data := .seq its.toArray n }
 | .tup xs => xs.length <= sizeLine /\ ∃ its : List Value, Vals xs its /\ IsTup h a its.toArray
 | .dK kvs => kvs.length <= sizeLine /\ (a == sysModules) = false /\ ∃ vs, KV kvs vs /\ h.DictOf (zZ P w) a vs
 | .dT kvs => kvs.length <= sizeLine /\ (a == sysModules) = false /\ ∃ xs : List (List Key × Addr × Value),
     Paired (fun (p : List Key × V) (q : List Key × Addr × Value) => p.1 = q.1 /\ H q.2.1 = some (.tup (p.1.map kV)) /\ RelV p.2 q.2.2) kvs xs /\
     ∃ o es ep, h.get? a = some o /\ o.ExactDict /\ o.data = .dict es ep /\ es.toList = xs.map (entryOfKey (tupleKind (zZ P w))) /\ (xs.map (·.1)).Nodup
 | .set S n => h.SetOf (intKind P w) a S n
 | .ins C dx fs => H dx = some (.own a) /\ fs.length <= 1000 /\ dx ≠ a /\ h.get? a = some (PySem.W.instObj C dx) /\
     ∃ mA, h.Ns1 dx mA /\ (∀ f, RelO (fs.lookup f) (mA f)) /\ PySem.Within mA (fs.map (·.1))
 | .own _ => ∃ o, h.get? a = some o
 | .xd fs => ∃ mA, h.Ns1 a mA /\ ∀ f, RelO (fs.lookup f) (mA f)
 | .rng lo hi => ∃ t u v, h.get? a = some { cls := .type "range", data := .fields #[.int lo t, .int hi u, .int 1 v] }
 | .frz o u => h.get? a = some o /\ ObjOk H h a u
 | .tbl ps => h.get? a = some { cls := .none, data := .fields ps }
 | .met f x => h.get? a = some (PySem.W.methodObj (.ref f) (.ref x))
 | .ext φ => φ h /\ (∃ o, h.get? a = some o) /\ ∀ h1 h2 : Heap, φ h1 -> (∀ o, h1.get? a = some o -> h2.get? a = some o) -> φ h2
def HOk (H : Hp) (h : Heap) : Prop := ∀ a o, H a = some o -> ObjOk P w H h a o
end
section
variable {P : Program} {w : World} {H H' : Hp} {h h' : Heap} {a : Addr} {o : HO}
theorem ObjOk.lt (x : ObjOk P w H h a o) : a < h.objs.size := by
 cases o with
 | lst xs => obtain ⟨_, _, _, _, e⟩ := x; exact Heap.lt_size e
 | tup xs => obtain ⟨_, _, _, p⟩ := x; exact p.lt
 | dK kvs => obtain ⟨_, _, _, _, o, _, _, e, _⟩ := x; exact Heap.lt_size e
 | dT kvs => obtain ⟨_, _, _, _, o, _, _, e, _⟩ := x; exact Heap.lt_size e
 | set S n => obtain ⟨o, _, _, _, e, _⟩ := x; exact Heap.lt_size e
 | ins C dx fs => obtain ⟨_, _, _, e, _⟩ := x; exact Heap.lt_size e
 | own y => obtain ⟨_, e⟩ := x; exact Heap.lt_size e
 | xd fs => obtain ⟨_, ⟨_, _, _, e, _⟩, _⟩ := x; exact Heap.lt_size e
 | rng lo hi => obtain ⟨_, _, _, e⟩ := x; exact Heap.lt_size e
 | frz ob u => obtain ⟨e, _⟩ := x; exact Heap.lt_size e
 | tbl ps => exact Heap.lt_size (show h.get? a = some _ from x)
 | met f y => exact Heap.lt_size (show h.get? a = some _ from x)
 | ext φ => obtain ⟨_, ⟨_, e⟩, _⟩ := x; exact Heap.lt_size e
theorem Paired.mapP {α β : Type} {F G : α -> β -> Prop} : ∀ {l₁ : List α} {l₂ : List β}, Paired F l₁ l₂ -> (∀ a b, F a b -> G a b) -> Paired G l₁ l₂
 | _, _, .nil, _ => .nil
 | _, _, .cons r t, f => .cons (f _ _ r) (Paired.mapP t f)
theorem ObjOk.stay (x : ObjOk P w H h a o) (k : ∀ b u, (b = a \/ H b = some (.own a)) -> h.get? b = some u -> h'.get? b = some u)
   (ho : ∀ b, H b = some (.own a) -> H' b = some (.own a)) (ht : ∀ b xs, H b = some (.tup xs) -> H' b = some (.tup xs)) : ObjOk P w H' h' a o := by
 induction o with
 | lst xs => obtain ⟨z, its, n, r, e⟩ := x; exact ⟨z, its, n, r, k _ _ (.inl rfl) e⟩
 | tup xs => obtain ⟨z, its, r, ob, e, c⟩ := x; exact ⟨z, its, r, ob, k _ _ (.inl rfl) e, c⟩
 | dK kvs => obtain ⟨z, y, vs, r, ob, es, ep, e, c⟩ := x; exact ⟨z, y, vs, r, ob, es, ep, k _ _ (.inl rfl) e, c⟩
 | dT kvs =>
   obtain ⟨z, y, xs, r, ob, es, ep, e, c⟩ := x
   exact ⟨z, y, xs, Paired.mapP r fun p q z => ⟨z.1, ht _ _ z.2.1, z.2.2⟩, ob, es, ep, k _ _ (.inl rfl) e, c⟩
 | set S n => obtain ⟨ob, es, ep, t, e, c⟩ := x; exact ⟨ob, es, ep, t, k _ _ (.inl rfl) e, c⟩
 | ins C dx fs =>
   obtain ⟨d, z, ne, e, mA, ⟨od, es, ep, e2, c⟩, r⟩ := x
   exact ⟨ho _ d, z, ne, k _ _ (.inl rfl) e, mA, ⟨od, es, ep, k _ _ (.inr d) e2, c⟩, r⟩
 | own y => obtain ⟨ob, e⟩ := x; exact ⟨ob, k _ _ (.inl rfl) e⟩
 | xd fs => obtain ⟨mA, ⟨od, es, ep, e, c⟩, r⟩ := x; exact ⟨mA, ⟨od, es, ep, k _ _ (.inl rfl) e, c⟩, r⟩
 | rng lo hi => obtain ⟨t, u, v, e⟩ := x; exact ⟨t, u, v, k _ _ (.inl rfl) e⟩
 | frz ob u ih => obtain ⟨e, q⟩ := x; exact ⟨k _ _ (.inl rfl) e, ih q⟩
 | tbl ps =>
   have e : h.get? a = some { cls := .none, data := .fields ps } := x
   show h'.get? a = some { cls := .none, data := .fields ps }
   exact k a _ (.inl rfl) e
 | met f y =>
   have e : h.get? a = some (PySem.W.methodObj (.ref f) (.ref y)) := x
   show h'.get? a = some (PySem.W.methodObj (.ref f) (.ref y))
   exact k a _ (.inl rfl) e
 | ext φ => obtain ⟨p, ⟨o, e⟩, st⟩ := x; exact ⟨st _ _ p fun o q => k _ _ (.inl rfl) q, ⟨o, k _ _ (.inl rfl) e⟩, st⟩
theorem HOk.lt (x : HOk P w H h) (e : H a = some o) : a < h.objs.size := (x a o e).lt
theorem HOk.fresh (x : HOk P w H h) (e : h.objs.size <= a) : H a = none := by
 cases q : H a with
 | none => rfl
 | some u => exact absurd (Nat.lt_of_lt_of_le (x.lt q) e) (Nat.lt_irrefl _)
theorem HOk.kept (x : HOk P w H h) (k : ∀ b u, h.get? b = some u -> h'.get? b = some u) : HOk P w H h' := fun a o e =>
 (x a o e).stay (fun b u _ q => k b u q) (fun _ q => q) fun _ _ q => q
theorem HOk.laid (x : HOk P w H h) (k : ∀ b u, h.get? b = some u -> h'.get? b = some u) (hp : h.objs.size <= a) (new : ObjOk P w (upd H a o) h' a o) : HOk P w (upd H a o) h' := fun b u e => by
 have hn := x.fresh hp
 by_cases hb : b = a
 · subst hb; rw [zB] at e; cases e; exact new
 · rw [zF hb] at e
   exact (x b u e).stay (fun c v _ q => k c v q) (fun c q => by rw [zF (yD q hn)]; exact q) fun c xs q => by rw [zF (yD q hn)]; exact q
end
def Rd (H : Hp) (a : Addr) (u : HO) : Prop := H a = some u \/ ∃ o, H a = some (.frz o u)
theorem Rd.ok {P : Program} {w : World} {H : Hp} {h : Heap} {a : Addr} {u : HO} (r : Rd H a u) (x : HOk P w H h) : ObjOk P w H h a u := by
 rcases r with r | ⟨o, r⟩
 · exact x a u r
 · obtain ⟨_, q⟩ := x a _ r
   exact q
def Mut : Option HO -> Prop
 | some (.lst _) => True
 | some (.dK _) => True
 | some (.dT _) => True
 | some (.set _ _) => True
 | some (.ins _ _ _) => True
 | some (.ext _) => True
 | _ => False
section
variable {P : Program} {w : World} {H : Hp} {h h' : Heap} {x e : Addr} {o' : HO}
theorem HOk.write (ok : HOk P w H h) (mu : Mut (H x)) (he : e = x \/ H e = some (.own x)) (k : ∀ b u, b ≠ e -> h.get? b = some u -> h'.get? b = some u) (heo : ∃ u, h'.get? e = some u)
   (new : ObjOk P w (upd H x o') h' x o') : HOk P w (upd H x o') h' := fun b u q => by
 have nown : ∀ c y, H c = some (.own y) -> c ≠ x := fun c y r z => by subst z; rw [r] at mu; exact mu
 have ntup : ∀ c xs, H c = some (.tup xs) -> c ≠ x := fun c xs r z => by subst z; rw [r] at mu; exact mu
 by_cases hb : b = x
 · subst hb; rw [zB] at q; cases q; exact new
 · rw [zF hb] at q
   by_cases hbe : b = e
   · have q' : H b = some (.own x) := by
       rcases he with z | z
       · exact absurd (hbe.trans z) hb
       · rw [hbe]; exact z
     rw [q] at q'; cases q'
     obtain ⟨v, hv⟩ := heo
     exact ⟨v, by rw [hbe]; exact hv⟩
   · refine (ok b u q).stay (fun c v hc r => k c v ?_ r) (fun c r => by rw [zF (nown c b r)]; exact r) fun c xs r => by rw [zF (ntup c xs r)]; exact r
     rcases hc with rfl | hc
     · exact hbe
     · rintro rfl
       rcases he with z | z
       · exact nown c b hc z
       · rw [hc] at z; cases z; exact hb rfl
end
structure Un (fs ex : List Addr) (H H' : Hp) (h h' : Heap) : Prop where
 keep : ∀ b o, h.get? b = some o -> H b = none -> b ∉ fs -> b ∉ ex -> h'.get? b = some o
 slot : ∀ b o, h.get? b = some o -> H b = none -> b ∈ fs -> b ∉ ex -> ∃ sl, h'.get? b = some { o with slots := sl }
 free : ∀ b o, h.get? b = some o -> H b = none -> b ∉ ex -> H' b = none
 there : ∀ b o, h.get? b = some o -> b ∉ ex -> ∃ o', h'.get? b = some o'
 tups : ∀ b xs, H b = some (.tup xs) -> H' b = some (.tup xs)
 frzs : ∀ b o u, H b = some (.frz o u) -> H' b = some (.frz o u)
 tbls : ∀ b ps, H b = some (.tbl ps) -> ∃ more, H' b = some (.tbl (ps ++ more))
section
variable {fs fs' ex ex' : List Addr} {H H1 H2 : Hp} {h h1 h2 h' : Heap} {a x e : Addr} {o : HO}
theorem Un.any (u : Un fs ex H H1 h h1) {b : Addr} {ob : Obj} (q : h.get? b = some ob) (n : H b = none) (hx : b ∉ ex) : ∃ sl, h1.get? b = some { ob with slots := sl } := by
 by_cases hb : b ∈ fs
 · exact u.slot b ob q n hb hx
 · exact ⟨ob.slots, u.keep b ob q n hb hx⟩
theorem Un.trans (a : Un fs ex H H1 h h1) (b : Un fs ex H1 H2 h1 h2) : Un fs ex H H2 h h2 where
 keep := fun c ob q n hc hx => b.keep c ob (a.keep c ob q n hc hx) (a.free c ob q n hx) hc hx
 slot := fun c ob q n hc hx => by
   obtain ⟨sl, e1⟩ := a.slot c ob q n hc hx
   obtain ⟨sl', e2⟩ := b.slot c _ e1 (a.free c ob q n hx) hc hx
   exact ⟨sl', e2⟩
 free := fun c ob q n hx => by
   obtain ⟨o', e1⟩ := a.there c ob q hx
   exact b.free c o' e1 (a.free c ob q n hx) hx
 there := fun c ob q hx => by
   obtain ⟨o', e1⟩ := a.there c ob q hx
   exact b.there c o' e1 hx
 tups := fun c xs q => b.tups c xs (a.tups c xs q)
 frzs := fun c ob xs q => b.frzs c ob xs (a.frzs c ob xs q)
 tbls := fun c ps q => by
   obtain ⟨m1, e1⟩ := a.tbls c ps q
   obtain ⟨m2, e2⟩ := b.tbls c _ e1
   exact ⟨m1 ++ m2, by rw [e2, Array.append_assoc]⟩
theorem Un.kept (k : ∀ b u, h.get? b = some u -> h'.get? b = some u) : Un fs ex H H h h' :=
 ⟨fun b ob q _ _ _ => k b ob q, fun b ob q _ _ _ => ⟨ob.slots, k b ob q⟩, fun _ _ _ n _ => n, fun b ob q _ => ⟨ob, k b ob q⟩, fun _ _ q => q, fun _ _ _ q => q, fun _ ps q => ⟨#[], by rw [q]; simp⟩⟩
theorem Un.refl : Un fs ex H H h h := Un.kept fun _ _ q => q
theorem Un.laid (k : ∀ b u, h.get? b = some u -> h'.get? b = some u) (hp : h.objs.size <= a) (hn : H a = none) : Un fs ex H (upd H a o) h h' where
 keep := fun b u q _ _ _ => k b u q
 slot := fun b u q _ _ _ => ⟨u.slots, k b u q⟩
 free := fun b u q n _ => by rw [zF (Nat.ne_of_lt (Nat.lt_of_lt_of_le (Heap.lt_size q) hp))]; exact n
 there := fun b u q _ => ⟨u, k b u q⟩
 tups := fun b xs q => by rw [zF (yD q hn)]; exact q
 frzs := fun b u xs q => by rw [zF (yD q hn)]; exact q
 tbls := fun b ps q => ⟨#[], by rw [zF (yD q hn), q]; simp⟩
theorem Un.write (mu : Mut (H x)) (he : e = x \/ H e = some (.own x)) (k : ∀ b u, b ≠ e -> h.get? b = some u -> h'.get? b = some u) (heo : ∃ u, h'.get? e = some u) : Un fs ex H (upd H x o) h h' := by
 have hx : ∀ b, H b = none -> b ≠ x := fun b n z => by subst z; rw [n] at mu; exact mu
 have hb : ∀ b, H b = none -> b ≠ e := fun b n z => by
   subst z
   rcases he with r | r
   · exact hx b n r
   · rw [n] at r; cases r
 have hm : ∀ b u, H b = some u -> ¬ Mut (some u) -> b ≠ x := fun b u q nm z => by subst z; rw [q] at mu; exact nm mu
 refine ⟨fun b u q n _ _ => k b u (hb b n) q, fun b u q n _ _ => ⟨u.slots, k b u (hb b n) q⟩, fun b u q n _ => by rw [zF (hx b n)]; exact n, fun b u q _ => ?_,
   fun b xs q => by rw [zF (hm b _ q fun z => z)]; exact q, fun b u xs q => by rw [zF (hm b _ q fun z => z)]; exact q, fun b ps q => ⟨#[], by rw [zF (hm b _ q fun z => z), q]; simp⟩⟩
 by_cases hbe : b = e
 · subst hbe; exact heo
 · exact ⟨u, k b u hbe q⟩
end
def trk (h : Heap) (H : Hp) : List Addr := (List.range h.objs.size).filter fun a => (H a).isSome
def vY (h : Heap) (H : Hp) : Heap := PySem.W.hideAll h (trk h H)
theorem hidT_size (h : Heap) (H : Hp) : (vY h H).objs.size = h.objs.size := PySem.W.hideAll_size _ _
theorem hidT_get {h : Heap} {H : Hp} {b : Addr} {o : Obj} (e : h.get? b = some o) (n : H b = none) : (vY h H).get? b = some o :=
 PySem.W.hideAll_get _ e fun hm => by
   have q : (H b).isSome = true := (List.mem_filter.mp hm).2
   rw [n] at q; simp at q
theorem of_hidT {h : Heap} {H : Hp} {b : Addr} {o : Obj} (e : (vY h H).get? b = some o) : h.get? b = some o /\ H b = none := by
 have e' : h.get? b = some o := PySem.W.of_hideAll (trk h H) e
 refine ⟨e', ?_⟩
 cases q : H b with
 | none => rfl
 | some x =>
   have hm : b ∈ trk h H := List.mem_filter.mpr ⟨List.mem_range.mpr (Heap.lt_size e'), by simp [q]⟩
   have z : (vY h H).get? b = none := PySem.W.hideAll_none (trk h H) hm
   rw [z] at e; cases e
def allNews (g h : Heap) (L : Addr) : List (Addr × Obj) := (List.range h.objs.size).filterMap fun a => if a = L \/ (g.get? a).isSome = true then none else (h.get? a).map fun o => (a, o)
def rest (g h : Heap) (L d : Addr) : List (Addr × Obj) := (allNews g h L).filter fun p => decide (p.1 ≠ d)
structure Mod (K : PySem.W.Frag) (mg : Str -> Option Value) (base : Heap) : Prop where
 kin : K.In base
 glob : base.Ns mainGlobals mg
 blt : ∃ mb, base.Ns builtinsNs mb /\ ∀ x : Str, x ≠ "__name__" -> mb x = bootBuiltins x
 nolimit : base.NoLimit
structure Cx where
 prog : Program
 w : World
 K : PySem.W.Frag
 mg : Str -> Option Value
 base : Heap
 A : Around
 N : List Str
 s₀ : Shared
 H₀ : Hp
 env : Env
 outer : List Env
 stack : List Env
 ex : List Addr
 fn : Str -> Bool
 calm : Bool
 pn : List (Addr × Obj)
 xe : Value -> Shared -> Prop
def frs (l : List Env) : List Addr := l.filterMap (·.frame)
abbrev Cx.fs (X : Cx) : List Addr := frs X.outer
def Vis (sc : Scope) (x : Str) : Prop := sc.names.lookup x = some .local \/ sc.names.lookup x = some .cell \/ sc.names.lookup x = some .free
def Loc (sc : Scope) (x : Str) : Prop := sc.names.lookup x = some .local \/ sc.names.lookup x = some .cell
def Look (env : Env) (h : Heap) (m : Str -> Option Value) (x : Str) (u : Value) : Prop :=
 (env.kindOf x = some .local /\ m x = some u) \/ ((env.kindOf x = some .cell \/ env.kindOf x = some .free) /\ ∃ c, env.cells.lookup x = some c /\ h.IsCell c (some u))
structure Cx.Ok (X : Cx) : Prop where
 mod : Mod X.K X.mg X.base
 kind : X.env.scope.kind = .function
 glob : X.env.globals = mainGlobals
 blt : X.env.builtins = builtinsNs
 above : X.s₀.heap.objs.size <= X.env.locals
 inj : ∀ x y c, X.env.cells.lookup x = some c -> X.env.cells.lookup y = some c -> x = y
 has : ∀ x, (X.env.kindOf x = some .cell \/ X.env.kindOf x = some .free) -> ∃ c, X.env.cells.lookup x = some c
 cab : ∀ x c, X.fn x = true -> X.env.cells.lookup x = some c -> X.s₀.heap.objs.size <= c
 hd : X.calm = true -> X.A.handled = none
 frames : X.A.frames = some X.stack
 stk : X.stack = X.outer \/ (X.stack = X.env :: X.outer /\ X.env.frame = some X.env.locals)
 exf : ∀ b ∈ X.ex, b ≠ X.env.locals /\ ∀ x c, X.env.cells.lookup x = some c -> c ≠ b
 bs : ∀ b o, X.base.get? b = some o -> X.s₀.heap.get? b = some o /\ X.H₀ b = none
 bsz : X.base.objs.size <= X.s₀.heap.objs.size
 noex : ∀ b o, X.base.get? b = some o -> b ∉ X.ex
 exfs : ∀ b ∈ X.ex, b ∉ X.fs
 funs : X.s₀.heap.FunFrames X.base X.outer
 frf : ∀ b ∈ X.fs, X.H₀ b = none
structure Inv (X : Cx) (pins : List (Addr × Obj)) (σ : List (Option V)) (H : Hp) (s : Shared) : Prop where
 ok : X.Ok
 os : s.os = X.s₀.os
 bare : AllBare s.gens
 base : Un X.fs X.ex X.H₀ H X.s₀.heap s.heap
 loc : ∃ m, s.heap.Ns X.env.locals m /\ ∀ (i : Nat) (x : Str) (v : V), X.N[i]? = some x -> σ[i]? = some (some v) -> Vis X.env.scope x -> ∃ u, RelV v u /\ Look X.env s.heap m x u
 cell : ∀ x c, X.env.cells.lookup x = some c -> ∃ v, s.heap.IsCell c v
 free : H X.env.locals = none
 freeC : ∀ x c, X.env.cells.lookup x = some c -> H c = none
 pin : ∀ p ∈ X.pn ++ pins, s.heap.get? p.1 = some p.2 /\ H p.1 = none /\ p.1 ≠ X.env.locals /\ p.1 ∉ X.fs /\ ∀ v, p.2.data ≠ .cell v
 hok : HOk X.prog X.w H s.heap
 len : σ.length = X.N.length
section
variable {X : Cx} {pins : List (Addr × Obj)} {σ : List (Option V)} {H H' : Hp} {s : Shared} {h' : Heap}
theorem Cx.Ok.nofr (ok : X.Ok) {b : Addr} {o : Obj} (e : X.base.get? b = some o) : b ∉ X.fs := fun hb => by
 have := (ok.funs.mem hb).1
 rw [e] at this; cases this
theorem Inv.bs (I : Inv X pins σ H s) : ∀ b o, X.base.get? b = some o -> s.heap.get? b = some o /\ H b = none := fun b o e =>
 ⟨I.base.keep b o (I.ok.bs b o e).1 (I.ok.bs b o e).2 (I.ok.nofr e) (I.ok.noex b o e), I.base.free b o (I.ok.bs b o e).1 (I.ok.bs b o e).2 (I.ok.noex b o e)⟩
theorem Inv.bk (I : Inv X pins σ H s) : ∀ b o, X.base.get? b = some o -> s.heap.get? b = some o := fun b o e => (I.bs b o e).1
theorem Inv.mod (I : Inv X pins σ H s) : Mod X.K X.mg X.base := I.ok.mod
theorem Inv.kIn (I : Inv X pins σ H s) : X.K.In s.heap := I.ok.mod.kin.keeps I.bk
theorem Inv.lt (I : Inv X pins σ H s) : X.env.locals < s.heap.objs.size := let ⟨_, hn, _⟩ := I.loc; hn.lt
theorem Inv.sz (I : Inv X pins σ H s) : X.s₀.heap.objs.size <= s.heap.objs.size := Nat.le_trans I.ok.above (Nat.le_of_lt I.lt)
theorem Inv.nofs (I : Inv X pins σ H s) {a : Addr} (h : s.heap.objs.size <= a) : a ∉ X.fs := fun hb => by
 obtain ⟨_, o, ho, _⟩ := I.ok.funs.mem hb
 exact absurd (Nat.lt_of_lt_of_le (Heap.lt_size ho) (Nat.le_trans I.sz h)) (Nat.lt_irrefl _)
theorem Inv.cne (I : Inv X pins σ H s) : ∀ x c, X.env.cells.lookup x = some c -> c ≠ X.env.locals := fun x c e z => by
 obtain ⟨v, o, ho, hd⟩ := I.cell x c e
 obtain ⟨m, ⟨o', es, ep, ho', hd', _⟩, _⟩ := I.loc
 rw [z, ho'] at ho; cases ho; rw [hd'] at hd; cases hd
theorem Inv.funs (I : Inv X pins σ H s) : s.heap.FunFrames X.base X.outer := by
 have all : ∀ (l : List Env), (∀ b ∈ frs l, b ∈ X.fs) -> X.s₀.heap.FunFrames X.base l -> s.heap.FunFrames X.base l := by
   intro l
   induction l with
   | nil => intro _ _; trivial
   | cons env r ih =>
     intro hs hl
     obtain ⟨hk, ⟨L, o, hf, hn, ho, hd⟩, hr⟩ := hl
     have hL : L ∈ X.fs := hs L (by unfold frs; rw [List.filterMap_cons, hf]; exact List.mem_cons_self)
     obtain ⟨sl, e⟩ := I.base.slot L o ho (I.ok.frf L hL) hL fun z => I.ok.exfs L z hL
     exact ⟨hk, ⟨L, _, hf, hn, e, hd⟩, ih (fun b hb => hs b (by unfold frs; rw [List.filterMap_cons, hf]; exact List.mem_cons_of_mem _ hb)) hr⟩
 exact all X.outer (fun _ hb => hb) I.ok.funs
theorem Inv.stack (I : Inv X pins σ H s) : s.heap.FunFrames X.base X.stack := by
 rcases I.ok.stk with e | ⟨e, hf⟩
 · rw [e]; exact I.funs
 · rw [e]
   obtain ⟨m, hn, _⟩ := I.loc
   refine .cons (by rw [I.ok.kind]; decide) hf hn ?_ I.funs
   exact Heap.get?_none_of_le (Nat.le_trans I.ok.bsz I.ok.above)
theorem Inv.stkSub (I : Inv X pins σ H s) : ∀ b ∈ frs X.stack, b ∈ X.env.locals :: X.fs := fun b hb => by
 rcases I.ok.stk with e | ⟨e, hf⟩
 · rw [e] at hb; exact List.mem_cons_of_mem _ hb
 · rw [e] at hb
   unfold frs at hb
   rw [List.filterMap_cons, hf] at hb
   exact hb
theorem Inv.stkFree (I : Inv X pins σ H s) : ∀ b ∈ frs X.stack, H b = none := fun b hb => by
 rcases List.mem_cons.mp (I.stkSub b hb) with e | hb
 · rw [e]; exact I.free
 · obtain ⟨_, o, ho, _⟩ := I.ok.funs.mem hb
   exact I.base.free b o ho (I.ok.frf b hb) fun z => I.ok.exfs b z hb
theorem Inv.step {g' : Array GenState} {t' : Nat} {d' : Drawn} {ch : List Addr} (I : Inv X pins σ H s)
   (hch : ∀ b ∈ ch, (b ∈ X.ex \/ X.s₀.heap.objs.size <= b) /\ b ≠ X.env.locals /\ (∀ x c, X.env.cells.lookup x = some c -> c ≠ b) /\ ∀ p ∈ X.pn ++ pins, p.1 ≠ b)
   (keep : ∀ b o, b ≠ X.env.locals -> b ∉ X.fs -> b ∉ ch -> s.heap.get? b = some o -> H b = none -> h'.get? b = some o)
   (slot : ∀ b o, b ≠ X.env.locals -> b ∈ X.fs -> b ∉ ch -> s.heap.get? b = some o -> H b = none -> ∃ sl, h'.get? b = some { o with slots := sl }) (free : ∀ b o, b ∉ ch -> s.heap.get? b = some o -> H b = none -> H' b = none)
   (there : ∀ b o, b ∉ ch -> s.heap.get? b = some o -> ∃ o', h'.get? b = some o')
   (tups : ∀ b xs, H b = some (.tup xs) -> H' b = some (.tup xs)) (frzs : ∀ b o u, H b = some (.frz o u) -> H' b = some (.frz o u)) (tbls : ∀ b ps, H b = some (.tbl ps) -> ∃ more, H' b = some (.tbl (ps ++ more)))
   (ns : ∀ m, s.heap.Ns X.env.locals m -> h'.Ns X.env.locals m) (hok : HOk X.prog X.w H' h') (hg : AllBare g') :
   Inv X pins σ H' { s with heap := h', gens := g', drawn := d', toks := t' } := by
 have neL : ∀ b o, X.s₀.heap.get? b = some o -> b ≠ X.env.locals := fun b o e => Nat.ne_of_lt (Nat.lt_of_lt_of_le (Heap.lt_size e) I.ok.above)
 have neC : ∀ b o, X.s₀.heap.get? b = some o -> b ∉ X.ex -> b ∉ ch := fun b o e hx hb => by
   rcases (hch b hb).1 with z | z
   · exact hx z
   · exact absurd (Nat.lt_of_lt_of_le (Heap.lt_size e) z) (Nat.lt_irrefl _)
 have cellK : ∀ x c, X.env.cells.lookup x = some c -> ∀ v, s.heap.IsCell c v -> h'.IsCell c v := fun x c e v ⟨o, ho, hd⟩ => by
   have nch : c ∉ ch := fun z => (hch c z).2.2.1 x c e rfl
   by_cases hc : c ∈ X.fs
   · obtain ⟨sl, q⟩ := slot c o (I.cne x c e) hc nch ho (I.freeC x c e)
     exact ⟨_, q, hd⟩
   · exact ⟨o, keep c o (I.cne x c e) hc nch ho (I.freeC x c e), hd⟩
 refine ⟨I.ok, I.os, hg, ⟨fun b o e n hb hx => ?_, fun b o e n hb hx => ?_, fun b o e n hx => ?_, fun b o e hx => ?_, fun b xs e => tups b xs (I.base.tups b xs e), fun b o xs e => frzs b o xs (I.base.frzs b o xs e), fun b ps e => ?_⟩, ?_, fun x c e => ?_, ?_, fun x c e => ?_, fun p hp => ?_, hok, I.len⟩
 · exact keep b o (neL b o e) hb (neC b o e hx) (I.base.keep b o e n hb hx) (I.base.free b o e n hx)
 · obtain ⟨sl, e1⟩ := I.base.slot b o e n hb hx
   obtain ⟨sl', e2⟩ := slot b _ (neL b o e) hb (neC b o e hx) e1 (I.base.free b o e n hx)
   exact ⟨sl', e2⟩
 · obtain ⟨o', e1⟩ := I.base.there b o e hx
   exact free b o' (neC b o e hx) e1 (I.base.free b o e n hx)
 · obtain ⟨o', e1⟩ := I.base.there b o e hx
   exact there b o' (neC b o e hx) e1
 · obtain ⟨m1, e1⟩ := I.base.tbls b ps e
   obtain ⟨m2, e2⟩ := tbls b _ e1
   exact ⟨m1 ++ m2, by rw [e2, Array.append_assoc]⟩
 · obtain ⟨m, hn, hl⟩ := I.loc
   refine ⟨m, ns m hn, fun i x v e1 e2 e3 => ?_⟩
   obtain ⟨u, r, l⟩ := hl i x v e1 e2 e3
   refine ⟨u, r, ?_⟩
   rcases l with l | ⟨k, c, e, z⟩
   · exact .inl l
   · exact .inr ⟨k, c, e, cellK x c e _ z⟩
 · obtain ⟨v, z⟩ := I.cell x c e
   exact ⟨v, cellK x c e v z⟩
 · obtain ⟨m, ⟨o, _, _, ho, _⟩, _⟩ := I.loc
   exact free _ o (fun z => (hch _ z).2.1 rfl) ho I.free
 · obtain ⟨v, o, ho, hd⟩ := I.cell x c e
   exact free c o (fun z => (hch c z).2.2.1 x c e rfl) ho (I.freeC x c e)
 · obtain ⟨e, n, ne, nf, d⟩ := I.pin p hp
   have nch : p.1 ∉ ch := fun z => (hch p.1 z).2.2.2 p hp rfl
   exact ⟨keep p.1 p.2 ne nf nch e n, free p.1 p.2 nch e n, ne, nf, d⟩
theorem Inv.un {t' : Nat} (I : Inv X pins σ H s) (u : Un X.fs [] H H' s.heap h') (hok : HOk X.prog X.w H' h') : Inv X pins σ H' { s with heap := h', toks := t' } := by
 obtain ⟨m, ⟨o, es, ep, ho, r⟩, _⟩ := id I.loc
 obtain ⟨sl, hL⟩ := u.any ho I.free (by simp)
 exact I.step (g' := s.gens) (d' := s.drawn) (ch := []) (fun _ z => nomatch z) (fun b o _ hb _ e n => u.keep b o e n hb (by simp)) (fun b o _ hb _ e n => u.slot b o e n hb (by simp)) (fun b o _ e n => u.free b o e n (by simp)) (fun b o _ e => u.there b o e (by simp)) u.tups u.frzs u.tbls (fun m' hm => by
   obtain ⟨o', es', ep', ho', r'⟩ := hm
   rw [ho] at ho'; cases ho'
   exact ⟨_, es', ep', hL, r'⟩) hok I.bare
theorem Inv.call {g' : Array GenState} {t' : Nat} {d' : Drawn} {ch : List Addr} (I : Inv X pins σ H s) (u : Un (frs X.stack) ch H H' s.heap h') (hok : HOk X.prog X.w H' h') (hg : AllBare g')
   (hch : ∀ b ∈ ch, (b ∈ X.ex \/ X.s₀.heap.objs.size <= b) /\ b ≠ X.env.locals /\ (∀ x c, X.env.cells.lookup x = some c -> c ≠ b) /\ ∀ p ∈ X.pn ++ pins, p.1 ≠ b) :
   Inv X pins σ H' { s with heap := h', gens := g', drawn := d', toks := t' } := by
 obtain ⟨m, ⟨o, es, ep, ho, r⟩, _⟩ := id I.loc
 obtain ⟨sl, hL⟩ := u.any ho I.free fun z => (hch _ z).2.1 rfl
 exact I.step (ch := ch) hch (fun b o hL hb hc e n => u.keep b o e n (fun z => (List.mem_cons.mp (I.stkSub b z)).elim hL hb) hc) (fun b o _ _ hc e n => u.any e n hc) (fun b o hc e n => u.free b o e n hc) (fun b o hc e => u.there b o e hc) u.tups u.frzs u.tbls (fun m' hm => by
   obtain ⟨o', es', ep', ho', r'⟩ := hm
   rw [ho] at ho'; cases ho'
   exact ⟨_, es', ep', hL, r'⟩) hok hg
theorem Inv.turned {t' : Nat} {it : Addr} (I : Inv X pins σ H s) (k : ∀ b o, b ≠ it -> s.heap.get? b = some o -> h'.get? b = some o) (hn : H it = none) (hL : it ≠ X.env.locals)
   (h1 : it ∈ X.ex \/ X.s₀.heap.objs.size <= it) (h2 : ∀ x c, X.env.cells.lookup x = some c -> c ≠ it) (h3 : ∀ p ∈ X.pn ++ pins, p.1 ≠ it) : Inv X pins σ H { s with heap := h', toks := t' } := by
 have nit : ∀ b u, H b = some u -> b ≠ it := fun b u e z => by rw [z, hn] at e; cases e
 refine I.step (g' := s.gens) (d' := s.drawn) (ch := [it]) (fun b hb => ?_) (fun b o _ _ hc e _ => k b o (fun z => hc (by simp [z])) e) (fun b o _ _ hc e _ => ⟨o.slots, k b o (fun z => hc (by simp [z])) e⟩) (fun _ _ _ _ n => n)
   (fun b o hc e => ⟨o, k b o (fun z => hc (by simp [z])) e⟩) (fun _ _ e => e) (fun _ _ _ e => e) (fun b ps e => ⟨#[], by rw [e]; simp⟩) (fun m hm => ?_) (fun b u e => ?_) I.bare
 · have e : b = it := by simpa using hb
   subst e
   exact ⟨h1, hL, h2, h3⟩
 · obtain ⟨o, es, ep, ho, r⟩ := hm
   exact ⟨o, es, ep, k _ o (Ne.symm hL) ho, r⟩
 · refine (I.hok b u e).stay (fun c v hc q => k c v ?_ q) (fun _ q => q) fun _ _ q => q
   rcases hc with z | z
   · rw [z]; exact nit b u e
   · exact nit c _ z
theorem Inv.tok (I : Inv X pins σ H s) (t : Nat) : Inv X pins σ H { s with toks := t } := I.un (h' := s.heap) (t' := t) Un.refl I.hok
theorem Inv.kept {t' : Nat} (I : Inv X pins σ H s) (k : ∀ b u, s.heap.get? b = some u -> h'.get? b = some u) : Inv X pins σ H { s with heap := h', toks := t' } := I.un (Un.kept k) (I.hok.kept k)
theorem Inv.laid {a : Addr} {o : HO} {t' : Nat} (I : Inv X pins σ H s) (k : ∀ b u, s.heap.get? b = some u -> h'.get? b = some u) (hp : s.heap.objs.size <= a) (new : ObjOk X.prog X.w (upd H a o) h' a o) :
   Inv X pins σ (upd H a o) { s with heap := h', toks := t' } := I.un (Un.laid k hp (I.hok.fresh hp)) (I.hok.laid k hp new)
theorem Inv.write {x e : Addr} {o : HO} {t' : Nat} (I : Inv X pins σ H s) (mu : Mut (H x)) (he : e = x \/ H e = some (.own x)) (k : ∀ b u, b ≠ e -> s.heap.get? b = some u -> h'.get? b = some u) (heo : ∃ u, h'.get? e = some u)
   (new : ObjOk X.prog X.w (upd H x o) h' x o) : Inv X pins σ (upd H x o) { s with heap := h', toks := t' } := I.un (Un.write mu he k heo) (I.hok.write mu he k heo new)
theorem Inv.pins_of {pins' : List (Addr × Obj)} (I : Inv X pins σ H s) (h : ∀ p ∈ pins', s.heap.get? p.1 = some p.2 /\ H p.1 = none /\ p.1 ≠ X.env.locals /\ p.1 ∉ X.fs /\ ∀ v, p.2.data ≠ .cell v) : Inv X pins' σ H s :=
 ⟨I.ok, I.os, I.bare, I.base, I.loc, I.cell, I.free, I.freeC, fun p hp => (List.mem_append.mp hp).elim (fun z => I.pin p (List.mem_append_left _ z)) (h p), I.hok, I.len⟩
theorem nodup_ix {N : List Str} (hN : N.Nodup) {i j : Nat} {x : Str} (a : N[i]? = some x) (b : N[j]? = some x) : i = j := by
 obtain ⟨h1, e1⟩ := List.getElem?_eq_some_iff.mp a
 obtain ⟨h2, e2⟩ := List.getElem?_eq_some_iff.mp b
 exact (List.getElem_inj hN).mp (e1.trans e2.symm)
theorem uY {M : Model} {A : Around} {E : Value -> Shared -> Prop} {i : Nat} {x : Str} {v : V} {u : Value} {Q : Unit -> Shared -> Prop} (I : Inv X pins σ H s) (hN : X.N.Nodup) (hi : X.N[i]? = some x) (hx : Loc X.env.scope x) (r : RelV v u)
   (h : ∀ s', Inv X pins (σ.set i (some v)) H s' -> (∃ a, Heap.SameBut a s.heap s'.heap /\ (a = X.env.locals \/ X.env.cells.lookup x = some a)) -> Q () s') (hf : X.fn x = true \/ X.env.scope.names.lookup x = some .local := by first | exact .inl rfl | exact .inr rfl | assumption) : wpAny M A (storeName X.env x u) Q E s := by
 obtain ⟨m, hn, hl⟩ := id I.loc
 have hcls : (X.env.scope.kind == .class || (X.env.scope.kind == .module && X.env.locals != X.env.globals)) = false := by rw [I.ok.kind]; rfl
 have hiσ : i < σ.length := by rw [I.len]; exact (List.getElem?_eq_some_iff.mp hi).1
 have cne := I.cne
 have tracked : ∀ {a : Addr} {h' : Heap}, (∃ o, s.heap.get? a = some o /\ H a = none) -> Heap.SameBut a s.heap h' -> HOk X.prog X.w H h' := fun {a h'} ha hs b ob e => by
   obtain ⟨_, _, hfree⟩ := ha
   refine (I.hok b ob e).stay (fun c w' hc q => (hs.2 c ?_).trans q) (fun _ q => q) fun _ _ q => q
   rintro rfl
   rcases hc with rfl | hc
   · rw [hfree] at e; cases e
   · rw [hfree] at hc; cases hc
 rcases hx with hk | hk
 · refine wpAny_storeName_local hk hn (fun h' hn' hs => ?_) hcls
   obtain ⟨oL, _, _, hoL, _⟩ := id hn
   refine h _ ⟨I.ok, I.os, I.bare, ⟨fun b o e n hb hx => ?_, fun b o e n hb hx => ?_, I.base.free, fun b o e hx => ?_, I.base.tups, I.base.frzs, I.base.tbls⟩, ⟨_, hn', fun j y v' e1 e2 e3 => ?_⟩, fun y c e => ?_, I.free, I.freeC, fun p hp => ?_, tracked ⟨oL, hoL, I.free⟩ hs, by simpa using I.len⟩ ⟨_, hs, .inl rfl⟩
   · exact (hs.2 b (Nat.ne_of_lt (Nat.lt_of_lt_of_le (Heap.lt_size e) I.ok.above))).trans (I.base.keep b o e n hb hx)
   · obtain ⟨sl, e1⟩ := I.base.slot b o e n hb hx
     exact ⟨sl, (hs.2 b (Nat.ne_of_lt (Nat.lt_of_lt_of_le (Heap.lt_size e) I.ok.above))).trans e1⟩
   · obtain ⟨o', e1⟩ := I.base.there b o e hx
     exact ⟨o', (hs.2 b (Nat.ne_of_lt (Nat.lt_of_lt_of_le (Heap.lt_size e) I.ok.above))).trans e1⟩
   · by_cases hj : j = i
     · subst hj
       rw [hi] at e1; cases e1
       rw [List.getElem?_set_self hiσ] at e2
       cases e2
       exact ⟨u, r, .inl ⟨hk, by simp⟩⟩
     · rw [List.getElem?_set_ne (Ne.symm hj)] at e2
       obtain ⟨u', r', q⟩ := hl j y v' e1 e2 e3
       refine ⟨u', r', ?_⟩
       rcases q with ⟨k, e⟩ | ⟨k, c, e, z⟩
       · refine .inl ⟨k, ?_⟩
         have : y ≠ x := fun e => hj (nodup_ix hN e1 (e ▸ hi))
         simp [this, e]
       · exact .inr ⟨k, c, e, z.sameBut hs (cne y c e)⟩
   · obtain ⟨w', z⟩ := I.cell y c e
     exact ⟨w', z.sameBut hs (cne y c e)⟩
   · obtain ⟨e, n, ne, nf, d⟩ := I.pin p hp
     exact ⟨(hs.2 p.1 ne).trans e, n, ne, nf, d⟩
 · have hfn : X.fn x = true := by
     rcases hf with z | z
     · exact z
     · rw [z] at hk; cases hk
   obtain ⟨c, hc⟩ := I.ok.has x (.inl hk)
   obtain ⟨w', z⟩ := I.cell x c hc
   refine wpAny_storeName_cell I.ok.kind hk hc z (fun h' hc' hs => ?_)
   obtain ⟨oc, hoc, hocd⟩ := id z
   refine h { s with heap := h' } ⟨I.ok, I.os, I.bare, ⟨fun b o e n hb hx => ?_, fun b o e n hb hx => ?_, I.base.free, fun b o e hx => ?_, I.base.tups, I.base.frzs, I.base.tbls⟩, ⟨m, hn.sameBut hs (Ne.symm (cne x c hc)), fun j y v' e1 e2 e3 => ?_⟩, fun y c' e => ?_, I.free, I.freeC, fun p hp => ?_, tracked ⟨oc, hoc, I.freeC x c hc⟩ hs, by simpa using I.len⟩ ⟨c, hs, .inr hc⟩
   · exact (hs.2 b (Nat.ne_of_lt (Nat.lt_of_lt_of_le (Heap.lt_size e) (I.ok.cab x c hfn hc)))).trans (I.base.keep b o e n hb hx)
   · obtain ⟨sl, e1⟩ := I.base.slot b o e n hb hx
     exact ⟨sl, (hs.2 b (Nat.ne_of_lt (Nat.lt_of_lt_of_le (Heap.lt_size e) (I.ok.cab x c hfn hc)))).trans e1⟩
   · obtain ⟨o', e1⟩ := I.base.there b o e hx
     exact ⟨o', (hs.2 b (Nat.ne_of_lt (Nat.lt_of_lt_of_le (Heap.lt_size e) (I.ok.cab x c hfn hc)))).trans e1⟩
   · by_cases hj : j = i
     · subst hj
       rw [hi] at e1; cases e1
       rw [List.getElem?_set_self hiσ] at e2
       cases e2
       exact ⟨u, r, .inr ⟨.inl hk, c, hc, hc'⟩⟩
     · rw [List.getElem?_set_ne (Ne.symm hj)] at e2
       obtain ⟨u', r', q⟩ := hl j y v' e1 e2 e3
       refine ⟨u', r', ?_⟩
       rcases q with q | ⟨k, c', e, z'⟩
       · exact .inl q
       · refine .inr ⟨k, c', e, z'.sameBut hs ?_⟩
         rintro rfl
         exact hj (nodup_ix hN e1 (I.ok.inj _ _ _ e hc ▸ hi))
   · by_cases hcc : c' = c
     · subst hcc; exact ⟨_, hc'⟩
     · obtain ⟨w2, z2⟩ := I.cell y c' e
       exact ⟨w2, z2.sameBut hs hcc⟩
   · obtain ⟨e, n, ne, nf, d⟩ := I.pin p hp
     refine ⟨(hs.2 p.1 ?_).trans e, n, ne, nf, d⟩
     intro q
     rw [q, hoc] at e
     have q' : oc = p.2 := Option.some.inj e
     exact d w' (by rw [← q']; exact hocd)
theorem qZ {M : Model} {A : Around} {E : Value -> Shared -> Prop} {i : Nat} {x : Str} {v : V} {u : Value} {Q : Unit -> Shared -> Prop} (I : Inv X pins σ H s) (hN : X.N.Nodup) (hi : X.N[i]? = some x) (hx : Loc X.env.scope x) (r : RelV v u)
   (h : ∀ s', Inv X pins (σ.set i (some v)) H s' -> Q () s') (hf : X.fn x = true \/ X.env.scope.names.lookup x = some .local := by first | exact .inl rfl | exact .inr rfl | assumption) : wpAny M A (storeName X.env x u) Q E s :=
 uY I hN hi hx r (fun s' I' _ => h s' I') hf
theorem Inv.call' {s' : Shared} {ch : List Addr} (I : Inv X pins σ H s) (ho : s'.os = s.os) (u : Un (frs X.stack) ch H H' s.heap s'.heap) (hok : HOk X.prog X.w H' s'.heap) (hg : AllBare s'.gens)
   (hch : ∀ b ∈ ch, (b ∈ X.ex \/ X.s₀.heap.objs.size <= b) /\ b ≠ X.env.locals /\ (∀ x c, X.env.cells.lookup x = some c -> c ≠ b) /\ ∀ p ∈ X.pn ++ pins, p.1 ≠ b) : Inv X pins σ H' s' := by
 obtain ⟨h', g', d', t', o'⟩ := s'
 have e : o' = s.os := ho
 subst e
 exact I.call (g' := g') (t' := t') (d' := d') u hok hg hch
end
abbrev XK := Value -> Option Addr -> Hp -> Prop
abbrev St := List (Option V)
abbrev VK := V -> Hp -> Prop
abbrev TE := St -> Hp -> VK -> Prop
abbrev TT := St -> Hp -> (Bool -> Hp -> Prop) -> Prop
abbrev TA := St -> Hp -> (List V -> Hp -> Prop) -> Prop
structure Ends where
 nx : St -> Hp -> Prop
 rt : VK
 bk : St -> Hp -> Prop := fun _ _ => False
 ct : St -> Hp -> Prop := fun _ _ => False
abbrev TS := Ends -> St -> Hp -> Prop
def EP (X : Cx) (pins : List (Addr × Obj)) (σ : St) (Q : VK) (u : Value) (s' : Shared) : Prop := ∃ v H', Inv X pins σ H' s' /\ RelV v u /\ Q v H'
def TP (X : Cx) (pins : List (Addr × Obj)) (σ : St) (Q : Bool -> Hp -> Prop) (b : Bool) (s' : Shared) : Prop := ∃ H', Inv X pins σ H' s' /\ Q b H'
def AP (X : Cx) (pins : List (Addr × Obj)) (σ : St) (Q : List V -> Hp -> Prop) (us : List Value) (s' : Shared) : Prop := ∃ vs H', Inv X pins σ H' s' /\ Vals vs us /\ Q vs H'
def SP (X : Cx) (pins : List (Addr × Obj)) (D : Ends) (f : Flow) (s' : Shared) : Prop :=
 match f with
 | .next => ∃ σ' H', Inv X pins σ' H' s' /\ D.nx σ' H'
 | .brk => ∃ σ' H', Inv X pins σ' H' s' /\ D.bk σ' H'
 | .cont => ∃ σ' H', Inv X pins σ' H' s' /\ D.ct σ' H'
 | .ret u => ∃ v σ' H', Inv X pins σ' H' s' /\ RelV v u /\ D.rt v H'
def PE (X : Cx) (e : Expr) (t : TE) : Prop :=
 ∀ (pins : List (Addr × Obj)) (s : Shared) (σ : St) (H : Hp) (Q : VK), Inv X pins σ H s -> t σ H Q -> wpAny (model X.prog X.w) X.A (eval e X.env) (EP X pins σ Q) X.xe s
def PT (X : Cx) (e : Expr) (t : TT) : Prop :=
 ∀ (pins : List (Addr × Obj)) (s : Shared) (σ : St) (H : Hp) (Q : Bool -> Hp -> Prop), Inv X pins σ H s -> t σ H Q -> wpAny (model X.prog X.w) X.A (isTrue e X.env (eval e X.env)) (TP X pins σ Q) X.xe s
def PW (X : Cx) (e : Expr) (t : TT) : Prop :=
 ∀ (whole : Sem Value) (pins : List (Addr × Obj)) (s : Shared) (σ : St) (H : Hp) (Q : Bool -> Hp -> Prop), Inv X pins σ H s -> t σ H Q -> wpAny (model X.prog X.w) X.A (isTrue e X.env whole) (TP X pins σ Q) X.xe s
theorem PW.pt {X : Cx} {e : Expr} {t : TT} (h : PW X e t) : PT X e t := h _
def PA (X : Cx) (es : List Expr) (t : TA) : Prop :=
 ∀ (pos : Pos) (pins : List (Addr × Obj)) (s : Shared) (σ : St) (H : Hp) (Q : List V -> Hp -> Prop), Inv X pins σ H s -> t σ H Q -> wpAny (model X.prog X.w) X.A (spliced (backTo pos (starEach es X.env))) (AP X pins σ Q) X.xe s
def PS (X : Cx) (st : Stmt) (t : TS) : Prop :=
 ∀ (pins : List (Addr × Obj)) (s : Shared) (σ : St) (H : Hp) (D : Ends), Inv X pins σ H s -> t D σ H -> wpAny (model X.prog X.w) X.A (exec st X.env) (SP X pins D) X.xe s
def PSs (X : Cx) (st : List Stmt) (t : TS) : Prop :=
 ∀ (pins : List (Addr × Obj)) (s : Shared) (σ : St) (H : Hp) (D : Ends), Inv X pins σ H s -> t D σ H -> wpAny (model X.prog X.w) X.A (execs st X.env) (SP X pins D) X.xe s
theorem thn {α : Type} {t : Sem α} {Q Q' : α -> Shared -> Prop} {M : Model} {A : Around} {E : Value -> Shared -> Prop} {s : Shared} (h : wpAny M A t Q E s) (hQ : ∀ a s, Q a s -> Q' a s) : wpAny M A t Q' E s := wpAny_mono h hQ fun _ _ x => x
section
variable {X : Cx}
def tVar (i : Nat) : TE := fun σ H Q => ∃ v, σ[i]? = some (some v) /\ Q v H
def tC (v : V) : TE := fun _ H Q => Q v H
theorem pe_var {i : Nat} {x : Str} {pos : Pos} (hN : X.N[i]? = some x) (hv : Vis X.env.scope x) (hd : (x == ("__debug__" : Str)) = false := by decide) (hcd : (x == ("__classdict__" : Str)) = false := by decide) : PE X (.Name x pos) (tVar i) := by
 intro pins s σ H Q I h
 obtain ⟨v, e, h⟩ := h
 obtain ⟨m, hn, hl⟩ := I.loc
 obtain ⟨u, r, l⟩ := hl i x v hN e hv
 have fin : EP X pins σ Q u s := ⟨v, H, I, r, h⟩
 rcases l with ⟨hk, hm⟩ | ⟨hk, c, hc, hcell⟩
 · exact wpAny_Name (wpAny_loadName_local I.ok.kind hk hn hm fin) hd
 · rcases hk with hk | hk
   · exact wpAny_Name (wpAny_loadName_cell I.ok.kind hk hc hcell fin) hd
   · exact wpAny_Name (wpAny_loadName_free I.ok.kind hk hc hcell fin hcd) hd
theorem zE {i j pos} : PE X (.Constant (.int i) j pos) (tC (.int i)) := fun _ _ _ H _ I h => wpAny_Constant_int ⟨.int i, H, I.tok _, ⟨_, rfl⟩, h⟩
theorem pe_bl {b j pos} : PE X (.Constant (.bool b) j pos) (tC (.bl b)) := fun _ _ _ H _ I h => Constant_bool ⟨.bl b, H, I, rfl, h⟩
theorem yF {x j pos} : PE X (.Constant (.str x) j pos) (tC (.str x)) := fun _ _ _ H _ I h => Calls.Constant_str ⟨.str x, H, I.tok _, ⟨_, rfl⟩, h⟩
def Gl (X : Cx) (x : Str) : Prop := X.env.kindOf x = some .globalImplicit
theorem ld_glob {E : Value -> Shared -> Prop} {pins : List (Addr × Obj)} {s : Shared} {σ : St} {H : Hp} {x : Str} {u : Value} {pos : Pos} {Q : Value -> Shared -> Prop} (I : Inv X pins σ H s) (hg : Gl X x) (hm : X.mg x = some u) (h : Q u s)
   (hd : (x == ("__debug__" : Str)) = false := by decide) : wpAny (model X.prog X.w) X.A (eval (.Name x pos) X.env) Q E s :=
 Calls.Name_function_global I.ok.kind hg (Calls.loadGlobal_global (by rw [I.ok.glob]; exact I.mod.glob.keeps I.bk) hm h) hd
theorem jT {E : Value -> Shared -> Prop} {pins : List (Addr × Obj)} {s : Shared} {σ : St} {H : Hp} {x : Str} {u : Value} {pos : Pos} {Q : Value -> Shared -> Prop} (I : Inv X pins σ H s) (hg : Gl X x) (hm : X.mg x = none) (hv : bootBuiltins x = some u) (h : Q u s)
   (hn : x ≠ "__name__" := by decide) (hd : (x == ("__debug__" : Str)) = false := by decide) : wpAny (model X.prog X.w) X.A (eval (.Name x pos) X.env) Q E s := by
 obtain ⟨mb, h1, h2⟩ := I.mod.blt
 exact Calls.Name_function_global I.ok.kind hg (Calls.loadGlobal_builtin (by rw [I.ok.glob]; exact I.mod.glob.keeps I.bk) hm (by rw [I.ok.blt]; exact h1.keeps I.bk) ((h2 x hn).trans hv) h) hd
theorem pe_bltn {x : Str} {v : V} {u : Value} {pos : Pos} (hg : Gl X x) (hm : X.mg x = none) (hv : bootBuiltins x = some u) (r : RelV v u) (hn : x ≠ "__name__" := by decide) (hd : (x == ("__debug__" : Str)) = false := by decide) : PE X (.Name x pos) (tC v) :=
 fun _ _ _ H _ I h => jT I hg hm hv ⟨v, H, I, r, h⟩ hn hd
variable {a b : Expr} {ta tb : TE} {pos : Pos}
def PC (X : Cx) (op : CmpOp) (a b : Expr) (t : TE) : Prop :=
 ∀ (pins : List (Addr × Obj)) (s : Shared) (σ : St) (H : Hp) (Q : VK), Inv X pins σ H s -> t σ H Q ->
   wpAny (model X.prog X.w) X.A (eval a X.env) (fun v s₁ => wpAny (model X.prog X.w) X.A (eval b X.env) (fun u s₂ => wpAny (model X.prog X.w) X.A (compareOp op v u) (EP X pins σ Q) X.xe s₂) X.xe s₁) X.xe s
theorem nobehind (b : Expr) {op : CmpOp} (h : op ≠ .In) (h2 : op ≠ .NotIn) : behindInMarks op b = false := by
 have e1 : (op == CmpOp.In) = false := by cases op <;> first | rfl | exact absurd rfl h
 have e2 : (op == CmpOp.NotIn) = false := by cases op <;> first | rfl | exact absurd rfl h2
 cases b <;> simp [behindInMarks, e1, e2]
def tB (t : TE) : TT := fun σ H Q => t σ H fun x H1 => ∃ c, x = .bl c /\ Q c H1
theorem pe_cmp {op : CmpOp} {t : TE} (h : PC X op a b t) (h1 : behindInMarks op b = false := by first | exact nobehind _ (by decide) (by decide) | rfl) : PE X (.Compare a [op] [b] pos) t := fun pins s σ H Q I hw => wpAny_Compare1 (h pins s σ H Q I hw) h1
theorem uC {e : Expr} {t : TE} (h : PE X e t) (he : ∀ whole, isTrue e X.env whole = (do let v ← whole; standAt e.pos; holding [v] (truthy v)) := by intro _; rfl) : PT X e (tB t) := by
 intro pins s σ H Q I hw
 refine isTrue_plain (thn (h pins s σ H _ I hw) fun v s1 ⟨x, H1, I1, r1, q1⟩ => ?_) (he _)
 obtain ⟨d, rfl, q⟩ := q1
 cases r1
 exact wpAny_truthy_bool ⟨H1, I1, q⟩
variable {tA tB' : TT} {rest : List Expr}
def tAnd (t u : TT) : TT := fun σ H Q => t σ H fun c H1 => if c = true then u σ H1 Q else Q false H1
def tOr (t u : TT) : TT := fun σ H Q => t σ H fun c H1 => if c = true then Q true H1 else u σ H1 Q
def tNot (t : TT) : TT := fun σ H Q => t σ H fun c H1 => Q (!c) H1
theorem qS (ha : PT X a tA) : PW X (.BoolOp .And [a] pos) tA := by
 intro wh pins s σ H Q I h
 refine isTrue_and (thn (ha pins s σ H Q I h) fun c s1 e => ?_)
 cases c with
 | true => exact isTrue_and_nil e
 | false => exact e
theorem pw_or1 (ha : PT X a tA) : PW X (.BoolOp .Or [a] pos) tA := by
 intro wh pins s σ H Q I h
 refine isTrue_or (thn (ha pins s σ H Q I h) fun c s1 e => ?_)
 cases c with
 | false => exact isTrue_or_nil e
 | true => exact e
theorem uB (ha : PT X a tA) (hb : PW X (.BoolOp .And (b :: rest) pos) tB') : PW X (.BoolOp .And (a :: b :: rest) pos) (tAnd tA tB') := by
 intro wh pins s σ H Q I h
 refine isTrue_and (thn (ha pins s σ H _ I h) fun c s1 ⟨H1, I1, q1⟩ => ?_)
 cases c with
 | true => exact hb wh pins s1 σ H1 Q I1 q1
 | false => exact ⟨H1, I1, q1⟩
theorem pw_or (ha : PT X a tA) (hb : PW X (.BoolOp .Or (b :: rest) pos) tB') : PW X (.BoolOp .Or (a :: b :: rest) pos) (tOr tA tB') := by
 intro wh pins s σ H Q I h
 refine isTrue_or (thn (ha pins s σ H _ I h) fun c s1 ⟨H1, I1, q1⟩ => ?_)
 cases c with
 | true => exact ⟨H1, I1, q1⟩
 | false => exact hb wh pins s1 σ H1 Q I1 q1
theorem pt_not (ha : PT X a tA) : PT X (.UnaryOp .Not a pos) (tNot tA) := by
 intro pins s σ H Q I h
 exact isTrue_not (ha pins s σ H (fun c H1 => Q (!c) H1) I h)
def tAndV (ta tb : TE) : TE := fun σ H Q => ta σ H fun x H1 => ∃ c, x = .bl c /\ if c = true then tb σ H1 Q else Q (.bl false) H1
def tOrV (ta tb : TE) : TE := fun σ H Q => ta σ H fun x H1 => ∃ c, x = .bl c /\ if c = true then Q (.bl true) H1 else tb σ H1 Q
def tNotV (ta : TE) : TE := fun σ H Q => ta σ H fun x H1 => ∃ c, x = .bl c /\ Q (.bl (!c)) H1
theorem pe_one {op} {t : TE} (h : PE X a t) : PE X (.BoolOp op [a] pos) t := fun pins s σ H Q I hw => BoolOp_one (h pins s σ H Q I hw)
theorem pe_and (ha : PE X a ta) (hb : PE X (.BoolOp .And (b :: rest) pos) tb) : PE X (.BoolOp .And (a :: b :: rest) pos) (tAndV ta tb) := by
 intro pins s σ H Q I h
 refine BoolOp_and (thn (ha pins s σ H _ I h) fun v s1 ⟨x, H1, I1, r1, q1⟩ => ?_)
 obtain ⟨c, rfl, q1⟩ := q1
 cases r1
 refine wpAny_truthy_bool ?_
 cases c with
 | true => exact hb pins s1 σ H1 Q I1 q1
 | false => exact ⟨.bl false, H1, I1, rfl, q1⟩
theorem pe_not (ha : PE X a ta) : PE X (.UnaryOp .Not a pos) (tNotV ta) := by
 intro pins s σ H Q I h
 refine UnaryOp_ (thn (ha pins s σ H _ I h) fun v s1 ⟨x, H1, I1, r1, q1⟩ => ?_)
 obtain ⟨c, rfl, q1⟩ := q1
 cases r1
 exact not_of (wpAny_truthy_bool ⟨.bl (!c), H1, I1, rfl, q1⟩)
def tIf (t : TT) (ta tb : TE) : TE := fun σ H Q => t σ H fun c H1 => if c = true then ta σ H1 Q else tb σ H1 Q
end
def SqL (K : PySem.W.Frag) (H : Hp) (a : Addr) (xs : List V) : Prop :=
 Rd H a (.lst xs) \/
   ∃ (o : Obj) (its : Array Value) (n : Nat), K.lookup a = some o /\ o.cls = .type "list" /\ o.dict = none /\ o.data = .seq its n /\ its.size <= sizeLine /\ Vals xs its.toList
def SqT (K : PySem.W.Frag) (H : Hp) (a : Addr) (xs : List V) : Prop :=
 Rd H a (.tup xs) \/
   ∃ (o : Obj) (its : Array Value) (n : Nat), K.lookup a = some o /\ o.cls = .type "tuple" /\ o.data = .seq its n /\ its.size <= sizeLine /\ Vals xs its.toList
def absV : Value -> Option V
 | .none => some .non
 | .bool b => some (.bl b)
 | .int i _ => some (.int i)
 | .str x _ => some (.str x)
 | .bytes b _ => some (.byt b)
 | .float b _ => some (.flt b)
 | .ref a => some (.ref a)
 | .type n => some (.ty n)
 | _ => none
theorem RelV.abs {x : V} {u : Value} (r : RelV x u) : absV u = some x := by
 cases x with
 | non => cases r; rfl
 | bl _ => cases r; rfl
 | int _ => obtain ⟨t, rfl⟩ := r; rfl
 | str _ => obtain ⟨t, rfl⟩ := r; rfl
 | byt _ => obtain ⟨t, rfl⟩ := r; rfl
 | flt _ => obtain ⟨t, rfl⟩ := r; rfl
 | ref _ => cases r; rfl
 | ty _ => cases r; rfl
theorem RelV.inj {x y : V} {u : Value} (r : RelV x u) (q : RelV y u) : x = y := Option.some.inj (r.abs.symm.trans q.abs)
theorem Vals.inj : ∀ {xs ys : List V} {us : List Value}, Vals xs us -> Vals ys us -> xs = ys
 | _, _, _, .nil, .nil => rfl
 | _, _, _, .cons r t, .cons r' t' => by rw [r.inj r', Vals.inj t t']
section
variable {X : Cx} {pins : List (Addr × Obj)} {σ : St} {H : Hp} {s : Shared} {a : Addr} {xs ys : List V}
theorem SqL.of {K : PySem.W.Frag} (h : H a = some (.lst xs)) : SqL K H a xs := .inl (.inl h)
theorem SqT.of {K : PySem.W.Frag} (h : H a = some (.tup xs)) : SqT K H a xs := .inl (.inl h)
theorem Inv.list (I : Inv X pins σ H s) (h : SqL X.K H a xs) : ∃ its : List Value, Vals xs its /\ PlainL s.heap a its.toArray /\ xs.length <= sizeLine := by
 rcases h with h | ⟨o, its, n, hk, hc, hd, hs, hz, r⟩
 · obtain ⟨z, its, n, r, e⟩ := h.ok I.hok
   exact ⟨its, r, ⟨_, n, e, rfl, rfl, rfl⟩, z⟩
 · refine ⟨its.toList, r, ⟨o, n, I.kIn a o hk, hc, hd, by simpa using hs⟩, ?_⟩
   have e := r.length
   simp only [Array.length_toList] at e
   omega
theorem Inv.tuple (I : Inv X pins σ H s) (h : SqT X.K H a xs) : ∃ its : List Value, Vals xs its /\ IsTup s.heap a its.toArray /\ xs.length <= sizeLine := by
 rcases h with h | ⟨o, its, n, hk, hc, hs, hz, r⟩
 · obtain ⟨z, its, r, p⟩ := h.ok I.hok
   exact ⟨its, r, p, z⟩
 · refine ⟨its.toList, r, ⟨o, I.kIn a o hk, hc, n, by simpa using hs⟩, ?_⟩
   have e := r.length
   simp only [Array.length_toList] at e
   omega
theorem Inv.list_inj (I : Inv X pins σ H s) (h : SqL X.K H a xs) (h' : SqL X.K H a ys) : xs = ys := by
 obtain ⟨its, r, ⟨o, n, e, _, _, d⟩, _⟩ := I.list h
 obtain ⟨its', r', ⟨o', n', e', _, _, d'⟩, _⟩ := I.list h'
 rw [e] at e'; cases e'
 rw [d] at d'
 injection d' with d1 _
 have : its = its' := by simpa using congrArg Array.toList d1
 subst this
 exact r.inj r'
theorem Inv.tuple_inj (I : Inv X pins σ H s) (h : SqT X.K H a xs) (h' : SqT X.K H a ys) : xs = ys := by
 obtain ⟨its, r, ⟨o, e, _, n, d⟩, _⟩ := I.tuple h
 obtain ⟨its', r', ⟨o', e', _, n', d'⟩, _⟩ := I.tuple h'
 rw [e] at e'; cases e'
 rw [d] at d'
 injection d' with d1 _
 have : its = its' := by simpa using congrArg Array.toList d1
 subst this
 exact r.inj r'
end
abbrev Cx.wish (X : Cx) (E : Value -> Shared -> Prop) : Cx := { X with xe := E }
abbrev Cx.nox (X : Cx) : Cx := X.wish fun _ _ => False
theorem Cx.Ok.wish {X : Cx} (ok : X.Ok) (E : Value -> Shared -> Prop) : (X.wish E).Ok :=
 ⟨ok.mod, ok.kind, ok.glob, ok.blt, ok.above, ok.inj, ok.has, ok.cab, ok.hd, ok.frames, ok.stk, ok.exf, ok.bs, ok.bsz, ok.noex, ok.exfs, ok.funs, ok.frf⟩
theorem Cx.Ok.unwish {X : Cx} {E : Value -> Shared -> Prop} (ok : (X.wish E).Ok) : X.Ok :=
 ⟨ok.mod, ok.kind, ok.glob, ok.blt, ok.above, ok.inj, ok.has, ok.cab, ok.hd, ok.frames, ok.stk, ok.exf, ok.bs, ok.bsz, ok.noex, ok.exfs, ok.funs, ok.frf⟩
section
variable {X : Cx} {pins : List (Addr × Obj)} {σ : St} {H : Hp} {s : Shared} {E : Value -> Shared -> Prop}
theorem Inv.wish (I : Inv X pins σ H s) (E : Value -> Shared -> Prop) : Inv (X.wish E) pins σ H s := ⟨I.ok.wish E, I.os, I.bare, I.base, I.loc, I.cell, I.free, I.freeC, I.pin, I.hok, I.len⟩
theorem Inv.unwish (I : Inv (X.wish E) pins σ H s) : Inv X pins σ H s := ⟨I.ok.unwish, I.os, I.bare, I.base, I.loc, I.cell, I.free, I.freeC, I.pin, I.hok, I.len⟩
theorem SP.unwish {D : Ends} {f : Flow} {s' : Shared} (h : SP (X.wish E) pins D f s') : SP X pins D f s' := by
 cases f with
 | next => obtain ⟨σ', H', I, q⟩ := h; exact ⟨σ', H', I.unwish, q⟩
 | brk => obtain ⟨σ', H', I, q⟩ := h; exact ⟨σ', H', I.unwish, q⟩
 | cont => obtain ⟨σ', H', I, q⟩ := h; exact ⟨σ', H', I.unwish, q⟩
 | ret u => obtain ⟨v, σ', H', I, r, q⟩ := h; exact ⟨v, σ', H', I.unwish, r, q⟩
theorem PSs.nox {st : List Stmt} {t : TS} (h : PSs X.nox st t) : PSs X st t := fun pins s σ H D I hw =>
 wpAny_mono (h pins s σ H D (I.wish _) hw) (fun _ _ q => q.unwish) fun _ _ z => False.elim z
end
section
variable {X : Cx} {st : Stmt} {rest : List Stmt} {t u : TS} {e : Expr} {te : TE} {pos : Pos}
def tNext : TS := fun D σ H => D.nx σ H
def tSeq (t u : TS) : TS := fun D σ H => t { D with nx := u D } σ H
theorem pss_nil : PSs X [] tNext := fun _ _ σ H _ I h => wpAny_execs_nil ⟨σ, H, I, h⟩
theorem zD (h1 : PS X st t) (h2 : PSs X rest u) : PSs X (st :: rest) (tSeq t u) := by
 intro pins s σ H D I h
 refine wpAny_execs_cons (thn (h1 pins s σ H { D with nx := u D } I h) fun f s1 q => ?_)
 cases f with
 | next =>
   obtain ⟨σ', H', I', q⟩ := q
   exact h2 pins s1 σ' H' D I' q
 | ret v => exact q
 | brk => exact q
 | cont => exact q
theorem zH (h1 : PS X st t) : PSs X [st] t := by
 intro pins s σ H D I h
 refine wpAny_execs_cons (thn (h1 pins s σ H D I h) fun f s1 q => ?_)
 cases f with
 | next => exact wpAny_execs_nil q
 | ret v => exact q
 | brk => exact q
 | cont => exact q
theorem Inv.quiet {pins : List (Addr × Obj)} {σ : St} {H : Hp} {s : Shared} (I : Inv X pins σ H s) : interactive X.env = false := by simp [interactive, I.ok.kind]
def tDrop (te : TE) : TS := fun D σ H => te σ H fun _ H1 => D.nx σ H1
theorem zT (he : PE X e te) (hs : swapsWith e none pos.line X.env = pure false := by rfl) : PS X (.Expr e pos) (tDrop te) := by
 intro pins s σ H D I h
 exact wpAny_Expr_any (thn (he pins s σ H _ I h) fun v s1 ⟨x, H1, I1, r1, q1⟩ => ⟨σ, H1, I1, q1⟩) I.quiet hs
def tRet (te : TE) : TS := fun D σ H => te σ H D.rt
theorem yN (he : PE X e te) : PS X (.Return (some e) pos) (tRet te) := by
 intro pins s σ H D I h
 exact wpAny_Return_some (thn (he pins s σ H _ I h) fun v s1 ⟨x, H1, I1, r1, q1⟩ => ⟨x, σ, H1, I1, r1, q1⟩)
def tRetN : TS := fun D _ H => D.rt .non H
theorem ps_retN : PS X (.Return none pos) tRetN := fun _ _ σ H _ I h => wpAny_Return_none ⟨.non, σ, H, I, rfl, h⟩
def tIfS (c : TT) (t u : TS) : TS := fun D σ H => c σ H fun b H1 => if b = true then t D σ H1 else u D σ H1
theorem xD {c : Expr} {a b : List Stmt} {tc : TT} (hc : PT X c tc) (ha : PSs X a t) (hb : PSs X b u) : PS X (.If c a b pos) (tIfS tc t u) := by
 intro pins s σ H D I h
 refine wpAny_If (thn (hc pins s σ H _ I h) fun d s1 ⟨H1, I1, q1⟩ => ?_)
 cases d with
 | true => exact ha pins s1 σ H1 D I1 q1
 | false => exact hb pins s1 σ H1 D I1 q1
end
abbrev TG := V -> St -> Hp -> (St -> Hp -> Prop) -> Prop
abbrev TGs := List V -> St -> Hp -> (St -> Hp -> Prop) -> Prop
def PG (X : Cx) (target : Expr) (t : TG) : Prop :=
 ∀ (pins : List (Addr × Obj)) (s : Shared) (σ : St) (H : Hp) (v : V) (u : Value) (Q : St -> Hp -> Prop), Inv X pins σ H s -> RelV v u -> t v σ H Q ->
   wpAny (model X.prog X.w) X.A (assign target X.env u) (fun _ s' => ∃ σ' H', Inv X pins σ' H' s' /\ Q σ' H') X.xe s
def PGs (X : Cx) (ts : List Expr) (t : TGs) : Prop :=
 ∀ (pins : List (Addr × Obj)) (s : Shared) (σ : St) (H : Hp) (vs : List V) (us : List Value) (Q : St -> Hp -> Prop), Inv X pins σ H s -> Vals vs us -> t vs σ H Q ->
   wpAny (model X.prog X.w) X.A (assignInOrder ((assignEach ts X.env).map (·.2)) us) (fun _ s' => ∃ σ' H', Inv X pins σ' H' s' /\ Q σ' H') X.xe s
abbrev TSet := V -> V -> V -> Hp -> (Hp -> Prop) -> Prop
def PSet (X : Cx) (t : TSet) : Prop :=
 ∀ (pins : List (Addr × Obj)) (s : Shared) (σ : St) (H : Hp) (o i v : V) (ov iv u : Value) (Q : Hp -> Prop), Inv X pins σ H s -> RelV o ov -> RelV i iv -> RelV v u -> t o i v H Q ->
   wpAny (model X.prog X.w) X.A (setItem ov iv u) (fun _ s' => ∃ H', Inv X pins σ H' s' /\ Q H') X.xe s
abbrev TIp := V -> V -> Hp -> VK -> Prop
def PIp (X : Cx) (op : Operator) (t : TIp) : Prop :=
 ∀ (pins : List (Addr × Obj)) (s : Shared) (σ : St) (H : Hp) (x y : V) (v u : Value) (Q : VK), Inv X pins σ H s -> RelV x v -> RelV y u -> t x y H Q ->
   wpAny (model X.prog X.w) X.A (inplaceOp op v u) (EP X pins σ Q) X.xe s
section
variable {X : Cx} {pos : Pos}
def gName (i : Nat) : TG := fun v σ H Q => Q (σ.set i (some v)) H
theorem zQ {i : Nat} {x : Str} (hN : X.N.Nodup) (hi : X.N[i]? = some x) (hx : Loc X.env.scope x) (hf : X.fn x = true \/ X.env.scope.names.lookup x = some .local := by first | exact .inl rfl | exact .inr rfl | assumption) : PG X (.Name x pos) (gName i) := by
 intro pins s σ H v u Q I r h
 exact wpAny_assign_Name (qZ I hN hi hx r (fun s' I' => ⟨_, H, I', h⟩) hf)
def gNil : TGs := fun vs σ H Q => vs = [] /\ Q σ H
def uI (t : TG) (u : TGs) : TGs := fun vs σ H Q => ∃ v r, vs = v :: r /\ t v σ H fun σ' H' => u r σ' H' Q
theorem pgs_nil : PGs X [] gNil := by
 intro pins s σ H vs us Q I r h
 obtain ⟨e, h⟩ := h
 subst e
 cases r
 exact assignInOrder_nil ⟨σ, H, I, h⟩
theorem yI {e : Expr} {es : List Expr} {t : TG} {u : TGs} (h1 : PG X e t) (h2 : PGs X es u)
   (hs : (assignEach (e :: es) X.env).map (·.2) = assign e X.env :: (assignEach es X.env).map (·.2) := by rfl) : PGs X (e :: es) (uI t u) := by
 intro pins s σ H vs us Q I r h
 obtain ⟨v, vr, e1, h⟩ := h
 subst e1
 cases r with
 | cons r rr =>
   rw [hs]
   refine assignInOrder_cons (thn (h1 pins s σ H _ _ _ I r h) fun _ s1 ⟨σ1, H1, I1, q1⟩ => ?_)
   exact h2 pins s1 σ1 H1 _ _ Q I1 rr q1
def gTup (K : PySem.W.Frag) (n : Nat) (t : TGs) : TG := fun v σ H Q => ∃ a xs, v = .ref a /\ SqT K H a xs /\ xs.length = n /\ t xs σ H Q
theorem uE {es : List Expr} {k : Nat} {t : TGs} {n : Nat} (hc : X.calm = true) (h : PGs X es t)
   (hn : (assignEach es X.env).length = n := by rfl) (hst : (assignEach es X.env).findIdx? (·.1) = none := by rfl) : PG X (.Tuple es k pos) (gTup X.K n t) := by
 intro pins s σ H v u Q I r hw
 obtain ⟨a, xs, e1, hq, hl, hw⟩ := hw
 subst e1
 cases r
 obtain ⟨its, rv, ht, hz⟩ := I.tuple hq
 refine assign_Tuple_tuple (I.ok.hd hc) ht (by simp [hn, ← hl, rv.length]) hst fun h' hx => ?_
 have I1 : Inv X pins σ H { s with heap := h' } := I.kept (t' := s.toks) fun b o e => hx b o (Nat.ne_of_lt (Heap.lt_size e)) e
 exact h pins _ σ H xs _ Q I1 (by simpa using rv) hw
def tAsg (te : TE) (g : TG) : TS := fun D σ H => te σ H fun x H1 => g x σ H1 D.nx
theorem zO {i : Nat} {x : Str} {e : Expr} {te : TE} {pos' : Pos} (hN : X.N.Nodup) (hi : X.N[i]? = some x) (hx : Loc X.env.scope x) (he : PE X e te) (hs : swapsWith e (some (.Name x pos')) pos.line X.env = pure false := by rfl) (hf : X.fn x = true \/ X.env.scope.names.lookup x = some .local := by first | exact .inl rfl | exact .inr rfl | assumption) :
   PS X (.Assign [.Name x pos'] e pos) (tAsg te (gName i)) := by
 intro pins s σ H D I h
 refine wpAny_Assign_Name (thn (he pins s σ H _ I h) fun v s1 ⟨y, H1, I1, r1, q1⟩ => ?_) hs
 exact qZ I1 hN hi hx r1 (fun s2 I2 => ⟨_, H1, I2, q1⟩) hf
def tAug (i : Nat) (te : TE) (ti : TIp) : TS := fun D σ H => ∃ x, σ[i]? = some (some x) /\ te σ H fun y H1 => ti x y H1 fun z H2 => D.nx (σ.set i (some z)) H2
theorem ps_aug {i : Nat} {x : Str} {e : Expr} {te : TE} {op : Operator} {ti : TIp} {pos' : Pos} (hN : X.N.Nodup) (hi : X.N[i]? = some x) (hx : Loc X.env.scope x) (he : PE X e te) (ho : PIp X op ti) (hf : X.fn x = true \/ X.env.scope.names.lookup x = some .local := by first | exact .inl rfl | exact .inr rfl | assumption) :
   PS X (.AugAssign (.Name x pos') op e pos) (tAug i te ti) := by
 intro pins s σ H D I h
 obtain ⟨v, e1, h⟩ := h
 obtain ⟨m, hn, hl⟩ := I.loc
 have vis : Vis X.env.scope x := by rcases hx with k | k; exact .inl k; exact .inr (.inl k)
 obtain ⟨u, r, l⟩ := hl i x v hi e1 vis
 refine wpAny_AugAssign_Name ?_
 have go : wpAny (model X.prog X.w) X.A (eval e X.env) (fun w s₂ => wpAny (model X.prog X.w) X.A (inplaceOp op u w) (fun r s₃ => wpAny (model X.prog X.w) X.A (storeName X.env x r) (fun _ => SP X pins D .next) X.xe s₃) X.xe s₂) X.xe s := by
   refine thn (he pins s σ H _ I h) fun w s1 ⟨y, H1, I1, r1, q1⟩ => ?_
   refine thn (ho pins s1 σ H1 v y u w _ I1 r r1 q1) fun z s2 ⟨zv, H2, I2, r2, q2⟩ => ?_
   exact qZ I2 hN hi hx r2 (fun s3 I3 => ⟨_, H2, I3, q2⟩) hf
 rcases l with ⟨hk, hm⟩ | ⟨hk, c, hc, hcell⟩
 · exact wpAny_loadName_local I.ok.kind hk hn hm go
 · rcases hk with hk | hk
   · exact wpAny_loadName_cell I.ok.kind hk hc hcell go
   · rcases hx with k | k
     · have : X.env.scope.names.lookup x = some .free := hk
       rw [k] at this; cases this
     · have : X.env.scope.names.lookup x = some .free := hk
       rw [k] at this; cases this
def tAugS (to ti te : TE) (tget : V -> V -> Hp -> VK -> Prop) (tip : TIp) (tset : TSet) : TS := fun D σ H => to σ H fun o H1 => ti σ H1 fun i H2 => tget o i H2 fun x H3 => te σ H3 fun y H4 => tip x y H4 fun z H5 => tset o i z H5 fun H6 => D.nx σ H6
def PGet (X : Cx) (t : V -> V -> Hp -> VK -> Prop) : Prop :=
 ∀ (pins : List (Addr × Obj)) (s : Shared) (σ : St) (H : Hp) (o i : V) (ov iv : Value) (Q : VK), Inv X pins σ H s -> RelV o ov -> RelV i iv -> t o i H Q ->
   wpAny (model X.prog X.w) X.A (getItem ov iv) (EP X pins σ Q) X.xe s
theorem ps_augS {o i e : Expr} {to ti te : TE} {tget : V -> V -> Hp -> VK -> Prop} {tip : TIp} {tset : TSet} {op : Operator} {tpos : Pos} (ho : PE X o to) (hi : PE X i ti) (hg : PGet X tget) (he : PE X e te) (hp : PIp X op tip) (hs : PSet X tset)
   (ha : ∀ ov iv new, augStore i ov iv new = (do holding [new, ov, iv] (setItem ov iv new); release [new, ov, iv] []; pure .next) := by intros; rfl) : PS X (.AugAssign (.Subscript o i tpos) op e pos) (tAugS to ti te tget tip tset) := by
 intro pins s σ H D I h
 refine wpAny_AugAssign_SubscriptAny (thn (ho pins s σ H _ I h) fun ov s1 ⟨x1, H1, I1, r1, q1⟩ => ?_) ha
 refine thn (hi pins s1 σ H1 _ I1 q1) fun iv s2 ⟨x2, H2, I2, r2, q2⟩ => ?_
 refine thn (hg pins s2 σ H2 x1 x2 ov iv _ I2 r1 r2 q2) fun old s3 ⟨x3, H3, I3, r3, q3⟩ => ?_
 refine thn (he pins s3 σ H3 _ I3 q3) fun v s4 ⟨x4, H4, I4, r4, q4⟩ => ?_
 refine thn (hp pins s4 σ H4 x3 x4 old v _ I4 r3 r4 q4) fun new s5 ⟨x5, H5, I5, r5, q5⟩ => ?_
 exact thn (hs pins s5 σ H5 x1 x2 x5 ov iv new _ I5 r1 r2 r5 q5) fun _ s6 ⟨H6, I6, q6⟩ => ⟨σ, H6, I6, q6⟩
def ipI (f : Int -> Int -> Int) : TIp := fun x y H Q => ∃ i j, x = .int i /\ y = .int j /\ Q (.int (f i j)) H
theorem ip_add : PIp X .Add (ipI fun i j => i + j) := by
 intro pins s σ H x y v u Q I r1 r2 h
 obtain ⟨i, j, e1, e2, q⟩ := h
 subst e1; subst e2
 obtain ⟨t, rfl⟩ := r1
 obtain ⟨t', rfl⟩ := r2
 exact iadd_int ⟨.int _, H, I.tok _, ⟨_, rfl⟩, q⟩
end
section
variable {X : Cx} {pos : Pos}
def tWhile (c : TT) (tb : TS) : TS := fun D σ H => ∃ W : Nat -> St -> Hp -> Prop, (∃ m, W m σ H) /\ ∀ m σ H, W m σ H ->
 c σ H fun b H1 => if b = true then ∃ N : St -> Hp -> Prop, (∀ σ' H', N σ' H' -> ∃ m', m' < m /\ W m' σ' H') /\ tb { D with nx := N, ct := N, bk := D.nx } σ H1 else D.nx σ H1
theorem ps_while {c : Expr} {body : List Stmt} {tc : TT} {tb : TS} (hp : PassesOwn (model X.prog X.w) X.A X.env X.xe) (hc : PT X c tc) (hb : PSs X body tb) : PS X (.While c body [] pos) (tWhile tc tb) := by
 intro pins s σ H D I h
 obtain ⟨W, ⟨m0, w0⟩, turn⟩ := h
 refine wpAny_While (codeAny_whileLoop (fun n s' => ∃ σ' H', Inv X pins σ' H' s' /\ W n σ' H') ?_ m0 ⟨σ, H, I, w0⟩)
 rintro n s1 ⟨σ1, H1, I1, w1⟩
 refine wpAny_passesOwn hp (thn (hc pins s1 σ1 H1 _ I1 (turn n σ1 H1 w1)) fun b s2 ⟨H2, I2, q2⟩ => ?_)
 cases b with
 | true =>
   obtain ⟨N, hN, q2⟩ := q2
   rw [if_pos rfl]
   refine wpAny_passesOwn hp (thn (hb pins s2 σ1 H2 _ I2 q2) fun f s3 q3 => ?_)
   cases f with
   | next =>
     obtain ⟨σ3, H3, I3, n3⟩ := q3
     obtain ⟨m', hm, w3⟩ := hN σ3 H3 n3
     exact ⟨m', hm, σ3, H3, I3, w3⟩
   | cont =>
     obtain ⟨σ3, H3, I3, n3⟩ := q3
     obtain ⟨m', hm, w3⟩ := hN σ3 H3 n3
     exact ⟨m', hm, σ3, H3, I3, w3⟩
   | brk => exact q3
   | ret v => exact q3
 | false =>
   rw [if_neg Bool.false_ne_true]
   exact wpAny_execs_nil ⟨σ1, H2, I2, q2⟩
end
structure It where
 go : Nat -> Hp -> Prop
 yld : Nat -> Hp -> V -> Hp -> Prop
 stop : Nat -> Hp -> Prop
def uM (X : Cx) (pins : List (Addr × Obj)) (H : Hp) (b : Addr) : Prop :=
 H b = none /\ b ≠ X.env.locals /\ b ∉ X.fs /\ (b ∈ X.ex \/ X.s₀.heap.objs.size <= b) /\ (∀ x c, X.env.cells.lookup x = some c -> c ≠ b) /\ ∀ p ∈ X.pn ++ pins, p.1 ≠ b
theorem Inv.fpOk {X : Cx} {pins : List (Addr × Obj)} {σ : St} {H H' : Hp} {s : Shared} {b : Addr} (I : Inv X pins σ H s) (hb : s.heap.objs.size <= b) (hn : H' b = none) : uM X pins H' b := by
 refine ⟨hn, Nat.ne_of_gt (Nat.lt_of_lt_of_le I.lt hb), I.nofs hb, .inr (Nat.le_trans I.sz hb), fun x c e z => ?_, fun p hp z => ?_⟩
 · obtain ⟨v, q⟩ := I.cell x c e
   exact absurd (Nat.lt_of_lt_of_le q.lt (by rw [z]; exact hb)) (Nat.lt_irrefl _)
 · exact absurd (Nat.lt_of_lt_of_le (Heap.lt_size (I.pin p hp).1) (by rw [z]; exact hb)) (Nat.lt_irrefl _)
structure Turn (P : Program) (w : World) (K : PySem.W.Frag) (tg : Expr) (J : It) (fp : List Addr) (it : Addr) (tn : Nat -> Heap -> Prop) : Prop where
 mem : it ∈ fp
 obj : ∀ i h, tn i h -> ∀ b ∈ fp, ∃ o, h.get? b = some o /\ ∀ v, o.data ≠ .cell v
 keep : ∀ i h h', tn i h -> (∀ b ∈ fp, ∀ o, h.get? b = some o -> h'.get? b = some o) -> tn i h'
 item : ∀ (X : Cx), X.prog = P -> X.w = w -> X.K = K -> X.calm = true -> ∀ (i : Nat) (pins : List (Addr × Obj)) (s : Shared) (σ : St) (H : Hp) (E : Value -> Shared -> Prop), Inv X pins σ H s -> (∀ b ∈ fp, uM X pins H b) -> tn i s.heap -> J.go i H ->
   wpAny (model P w) X.A (pyNext (.ref it)) (fun r s1 => ∃ u, r = some u /\
     wpAny (model P w) X.A (letOwnedTupleGo tg (.ref it) u) (fun _ s2 => ∃ x H', Inv X pins σ H' s2 /\ RelV x u /\ J.yld i H x H' /\ tn (i + 1) s2.heap /\ ∀ b ∈ fp, H' b = none) E s1) E s
 done : ∀ (X : Cx), X.prog = P -> X.w = w -> X.K = K -> X.calm = true -> ∀ (i : Nat) (pins : List (Addr × Obj)) (s : Shared) (σ : St) (H : Hp) (E : Value -> Shared -> Prop), Inv X pins σ H s -> (∀ b ∈ fp, uM X pins H b) -> tn i s.heap -> J.stop i H ->
   wpAny (model P w) X.A (pyNext (.ref it)) (fun r s1 => r = none /\ Inv X pins σ H s1) E s
 self : ∀ (A : Around) (i : Nat) (s : Shared) (Q : Value -> Shared -> Prop) (E : Value -> Shared -> Prop), tn i s.heap -> Q (.ref it) s -> wpAny (model P w) A (pyIter (.ref it)) Q E s
abbrev TI := St -> Hp -> (It -> Hp -> Prop) -> Prop
def PIE (X : Cx) (pins : List (Addr × Obj)) (σ : St) (tg : Expr) (R : It -> Hp -> Prop) (itv : Value) (s2 : Shared) : Prop :=
 ∃ (it : Addr) (fp : List Addr) (tn : Nat -> Heap -> Prop) (J : It) (H' : Hp), itv = .ref it /\ Inv X pins σ H' s2 /\ Turn X.prog X.w X.K tg J fp it tn /\ tn 0 s2.heap /\ (∀ b ∈ fp, uM X pins H' b) /\ R J H'
def PI (X : Cx) (tg iter : Expr) (wi : TI) : Prop :=
 ∀ (pins : List (Addr × Obj)) (s : Shared) (σ : St) (H : Hp) (R : It -> Hp -> Prop), Inv X pins σ H s -> wi σ H R ->
   wpAny (model X.prog X.w) X.A (eval iter X.env) (fun v s1 => wpAny (model X.prog X.w) X.A (pyIter v) (PIE X pins σ tg R) X.xe s1) X.xe s
theorem go_of {M : Model} {A : Around} {E : Value -> Shared -> Prop} {s : Shared} {tg : Expr} {it : Addr} {u : Value} {o : Obj} {n : String} {vs : Array Value} {Q : Unit -> Shared -> Prop} (ho : s.heap.get? it = some o) (hc : o.cls = .type n) (hd : o.data = .fields vs)
   (hn : ["enumerate", "zip", "dict_itemiterator", "dict_reverseitemiterator", "odict_iterator", "itertools.zip_longest", "itertools.pairwise"].contains n = false) (hQ : Q () s) : wpAny M A (letOwnedTupleGo tg (.ref it) u) Q E s := by
 unfold letOwnedTupleGo
 cases tg <;> first
   | exact wpAny_pure hQ
   | (cases u <;> first
       | exact wpAny_pure hQ
       | (refine wpAny_bind (wpAny_load ho ?_)
          rw [hc, hd]
          show wpAny M A (if (["enumerate", "zip", "dict_itemiterator", "dict_reverseitemiterator", "odict_iterator", "itertools.zip_longest", "itertools.pairwise"].contains n && vs[0]? == some (rawInt _)) = true then _ else _) Q E s
          rw [if_neg (by intro h; rw [hn, Bool.false_and] at h; cases h)]
          exact wpAny_pure hQ))
def Itl (K : PySem.W.Frag) (a : Addr) : It :=
 ⟨fun i H => ∃ xs x, SqL K H a xs /\ xs[i]? = some x, fun i H x H' => H' = H /\ ∀ xs, SqL K H a xs -> xs[i]? = some x, fun i H => ∃ xs, SqL K H a xs /\ xs.length <= i⟩
def Itt (K : PySem.W.Frag) (a : Addr) : It :=
 ⟨fun i H => ∃ xs x, SqT K H a xs /\ xs[i]? = some x, fun i H x H' => H' = H /\ ∀ xs, SqT K H a xs -> xs[i]? = some x, fun i H => ∃ xs, SqT K H a xs /\ xs.length <= i⟩
def Itr (lo : Int) (n : Nat) : It := ⟨fun i _ => i < n, fun i H x H' => H' = H /\ x = .int (lo + i), fun i _ => n <= i⟩
theorem turn_list {P : Program} {w : World} {K : PySem.W.Frag} {tg : Expr} (a it : Addr) : Turn P w K tg (Itl K a) [it] it (fun i h => h.IsListIter it a i) where
 mem := by simp
 obj := fun i h st b hb => by
   have e : b = it := by simpa using hb
   subst e
   obtain ⟨o, e, c, d⟩ := st
   exact ⟨o, e, fun v z => by rw [d] at z; cases z⟩
 keep := fun i h h' st k => st.at fun o e => k it (by simp) o e
 item := by
   intro X hP hw hK hc i pins s σ H E I hf st hg
   subst hP hw hK
   obtain ⟨xs, x, hq, hx⟩ := hg
   obtain ⟨its, rv, p, hz⟩ := I.list hq
   obtain ⟨u, hu, ru⟩ := rv.get hx
   obtain ⟨f0, f1, f2, f3, f4, f5⟩ := hf it (by simp)
   refine wpAny_pyNext_list_item st p.isList (x := u) (by simpa using hu) fun h' st' sb => ?_
   have I1 : Inv X pins σ H { s with heap := h' } := I.turned (t' := s.toks) (fun b o hb e => (sb.2 b hb).trans e) f0 f1 f3 f4 f5
   obtain ⟨o, e, c, d⟩ := id st'
   exact ⟨u, rfl, go_of (s := { s with heap := h' }) e c d (by decide) ⟨x, H, I1, ru, ⟨rfl, fun ys hy => by rw [I.list_inj hy hq]; exact hx⟩, st', fun b hb => (hf b hb).1⟩⟩
 done := by
   intro X hP hw hK hc i pins s σ H E I hf st hg
   subst hP hw hK
   obtain ⟨xs, hq, hx⟩ := hg
   obtain ⟨its, rv, p, hz⟩ := I.list hq
   obtain ⟨f0, f1, f2, f3, f4, f5⟩ := hf it (by simp)
   have hl := rv.length
   exact wpAny_pyNext_list_end (I.ok.hd hc) st p.isList (by simp; omega) fun h' eb => ⟨rfl, I.turned (t' := s.toks) (fun b o hb e => eb b o hb e) f0 f1 f3 f4 f5⟩
 self := fun _ _ _ _ _ st h => wpAny_pyIter_listiter st h
theorem turn_tuple {P : Program} {w : World} {K : PySem.W.Frag} {tg : Expr} (a it : Addr) : Turn P w K tg (Itt K a) [it] it (fun i h => h.IsTupleIter it a i) where
 mem := by simp
 obj := fun i h st b hb => by
   have e : b = it := by simpa using hb
   subst e
   obtain ⟨o, e, c, d⟩ := st
   exact ⟨o, e, fun v z => by rw [d] at z; cases z⟩
 keep := fun i h h' st k => st.at fun o e => k it (by simp) o e
 item := by
   intro X hP hw hK hc i pins s σ H E I hf st hg
   subst hP hw hK
   obtain ⟨xs, x, hq, hx⟩ := hg
   obtain ⟨its, rv, p, hz⟩ := I.tuple hq
   obtain ⟨u, hu, ru⟩ := rv.get hx
   obtain ⟨f0, f1, f2, f3, f4, f5⟩ := hf it (by simp)
   refine wpAny_pyNext_tuple_item st (show s.heap.IsTuple a its.toArray from p) (x := u) (by simpa using hu) fun h' st' sb => ?_
   have I1 : Inv X pins σ H { s with heap := h' } := I.turned (t' := s.toks) (fun b o hb e => (sb.2 b hb).trans e) f0 f1 f3 f4 f5
   obtain ⟨o, e, c, d⟩ := id st'
   exact ⟨u, rfl, go_of (s := { s with heap := h' }) e c d (by decide) ⟨x, H, I1, ru, ⟨rfl, fun ys hy => by rw [I.tuple_inj hy hq]; exact hx⟩, st', fun b hb => (hf b hb).1⟩⟩
 done := by
   intro X hP hw hK hc i pins s σ H E I hf st hg
   subst hP hw hK
   obtain ⟨xs, hq, hx⟩ := hg
   obtain ⟨its, rv, p, hz⟩ := I.tuple hq
   obtain ⟨f0, f1, f2, f3, f4, f5⟩ := hf it (by simp)
   have hl := rv.length
   exact wpAny_pyNext_tuple_end (I.ok.hd hc) st (show s.heap.IsTuple a its.toArray from p) (by simp; omega) fun h' eb => ⟨rfl, I.turned (t' := s.toks) (fun b o hb e => eb b o hb e) f0 f1 f3 f4 f5⟩
 self := fun _ _ _ _ _ st h => wpAny_pyIter_tupleiter st h
theorem turn_range {P : Program} {w : World} {K : PySem.W.Frag} {tg : Expr} (it : Addr) (lo : Int) (n : Nat) : Turn P w K tg (Itr lo n) [it] it (fun i h => IsRangeIter h it (lo + (i : Nat) * 1) ((n : Int) - (i : Nat)) 1) where
 mem := by simp
 obj := fun i h st b hb => by
   have e : b = it := by simpa using hb
   subst e
   exact ⟨_, st, fun v z => by
     have z' : Data.fields _ = Data.cell v := z
     cases z'⟩
 keep := fun i h h' st k => k it (by simp) _ st
 item := by
   intro X hP hw hK hc i pins s σ H E I hf st hg
   subst hP hw hK
   obtain ⟨f0, f1, f2, f3, f4, f5⟩ := hf it (by simp)
   have W := Walks.range (prog := X.prog) (w := X.w) (I.ok.hd hc) it lo 1 n
   refine W.item i s _ _ hg st fun v h' tk hv st' kk => ?_
   obtain ⟨t, rfl⟩ := hv
   have I1 : Inv X pins σ H { s with heap := h', toks := tk } := I.turned (fun b o hb e => kk b o (by simpa using hb) e) f0 f1 f3 f4 f5
   refine ⟨_, rfl, go_of (s := { s with heap := h', toks := tk }) (n := "range_iterator") st' rfl rfl (by decide) ⟨.int (lo + i), H, I1, ⟨t, ?_⟩, ⟨rfl, rfl⟩, st', fun b hb => (hf b hb).1⟩⟩
   rw [Int.mul_one]
 done := by
   intro X hP hw hK hc i pins s σ H E I hf st hg
   subst hP hw hK
   obtain ⟨f0, f1, f2, f3, f4, f5⟩ := hf it (by simp)
   exact wpAny_pyNext_range_end (I.ok.hd hc) st (by have : n <= i := hg; omega) fun h' eb => ⟨rfl, I.turned (t' := s.toks) (fun b o hb e => eb b o hb e) f0 f1 f3 f4 f5⟩
 self := fun _ _ _ _ _ st h => wpAny_pyIter_rangeiter st h
section
variable {X : Cx} {tg : Expr}
def iList (K : PySem.W.Frag) (tl : TE) : TI := fun σ H R => tl σ H fun x H1 => ∃ a, x = .ref a /\ (∃ xs, SqL K H1 a xs) /\ R (Itl K a) H1
def iTup (K : PySem.W.Frag) (tl : TE) : TI := fun σ H R => tl σ H fun x H1 => ∃ a, x = .ref a /\ (∃ xs, SqT K H1 a xs) /\ R (Itt K a) H1
theorem yU {l : Expr} {tl : TE} (hl : PE X l tl) : PI X tg l (iList X.K tl) := by
 intro pins s σ H R I h
 refine thn (hl pins s σ H _ I h) fun v s1 ⟨x, H1, I1, r1, q1⟩ => ?_
 obtain ⟨a, e, ⟨xs, hq⟩, q⟩ := q1
 subst e
 cases r1
 obtain ⟨its, rv, p, hz⟩ := I1.list hq
 refine wpAny_pyIter_list p.isList ?_
 refine ⟨s1.heap.objs.size, [s1.heap.objs.size], _, _, H1, rfl, I1.kept (t' := s1.toks) fun b o e => Heap.get?_push_of_some _ e, turn_list a _, ⟨_, Heap.get?_push_size _ rfl, rfl, rfl⟩, fun b hb => ?_, q⟩
 have e : b = s1.heap.objs.size := by simpa using hb
 subst e
 exact I1.fpOk (Nat.le_refl _) (I1.hok.fresh (Nat.le_refl _))
theorem pi_tup {l : Expr} {tl : TE} (hl : PE X l tl) : PI X tg l (iTup X.K tl) := by
 intro pins s σ H R I h
 refine thn (hl pins s σ H _ I h) fun v s1 ⟨x, H1, I1, r1, q1⟩ => ?_
 obtain ⟨a, e, ⟨xs, hq⟩, q⟩ := q1
 subst e
 cases r1
 obtain ⟨its, rv, p, hz⟩ := I1.tuple hq
 refine wpAny_pyIter_tuple (show s1.heap.IsTuple a its.toArray from p) ?_
 refine ⟨s1.heap.objs.size, [s1.heap.objs.size], _, _, H1, rfl, I1.kept (t' := s1.toks) fun b o e => Heap.get?_push_of_some _ e, turn_tuple a _, ⟨_, Heap.get?_push_size _ rfl, rfl, rfl⟩, fun b hb => ?_, q⟩
 have e : b = s1.heap.objs.size := by simpa using hb
 subst e
 exact I1.fpOk (Nat.le_refl _) (I1.hok.fresh (Nat.le_refl _))
theorem range_it {pins : List (Addr × Obj)} {σ : St} {H : Hp} {s : Shared} {R : It -> Hp -> Prop} {E : Value -> Shared -> Prop} {lo hi : Int} {t u v : Tok} {tk : Nat} (I : Inv X pins σ H s) (h1 : -(2 ^ 62) <= lo) (h2 : lo < 2 ^ 62) (h3 : -(2 ^ 62) <= hi) (h4 : hi < 2 ^ 62)
   (q : R (Itr lo (hi - lo).toNat) H) : wpAny (model X.prog X.w) X.A (pyIter (.ref s.heap.objs.size)) (PIE X pins σ tg R) E { s with heap := s.heap.push { cls := .type "range", data := .fields #[.int lo t, .int hi u, .int 1 v] }, toks := tk } := by
 refine wpAny_pyIter_range (IsRange.new ..) (small_one h1 h2 h3 h4) ?_
 have I1 : Inv X pins σ H { s with heap := s.heap.push { cls := .type "range", data := .fields #[.int lo t, .int hi u, .int 1 v] }, toks := tk } := I.kept fun b o e => Heap.get?_push_of_some _ e
 refine ⟨(s.heap.push { cls := .type "range", data := .fields #[.int lo t, .int hi u, .int 1 v] }).objs.size, [(s.heap.push { cls := .type "range", data := .fields #[.int lo t, .int hi u, .int 1 v] }).objs.size], _, _, H, rfl,
   I1.kept (t' := tk) fun b o e => Heap.get?_push_of_some _ e, turn_range _ lo (hi - lo).toNat, ?_, fun b hb => ?_, q⟩
 · have e1 : lo + ((0 : Nat) : Int) * 1 = lo := by simp
   have e2 : (((hi - lo).toNat : Nat) : Int) - ((0 : Nat) : Int) = Builtin.Range.rangeSize lo hi 1 := by rw [rangeSize_one]; split <;> omega
   show IsRangeIter _ _ (lo + ((0 : Nat) : Int) * 1) ((((hi - lo).toNat : Nat) : Int) - ((0 : Nat) : Int)) 1
   rw [e1, e2]
   exact Heap.get?_push_size _ rfl
 · have e : b = (s.heap.push { cls := .type "range", data := .fields #[.int lo t, .int hi u, .int 1 v] }).objs.size := by simpa using hb
   subst e
   exact I1.fpOk (Nat.le_refl _) (I1.hok.fresh (Nat.le_refl _))
def iRng1 (ta : TA) : TI := fun σ H R => ta σ H fun vs H1 => ∃ j : Int, vs = [.int j] /\ -(2 ^ 62) <= j /\ j < 2 ^ 62 /\ R (Itr 0 j.toNat) H1
def iRng2 (ta : TA) : TI := fun σ H R => ta σ H fun vs H1 => ∃ i j : Int, vs = [.int i, .int j] /\ (-(2 ^ 62) <= i /\ i < 2 ^ 62 /\ -(2 ^ 62) <= j /\ j < 2 ^ 62) /\ R (Itr i (j - i).toNat) H1
theorem xS {a : Expr} {ta : TA} {p pos : Pos} (hg : Gl X "range") (hm : X.mg "range" = none) (ha : PA X [a] ta) (hs : starEach [a] X.env = [(false, eval a X.env)] := by rfl) : PI X tg (.Call (.Name "range" p) [a] [] pos) (iRng1 ta) := by
 intro pins s σ H R I h
 refine Call_ (jT I hg hm boot_range (PyProof.Rows.callWith_type1 (thn (ha pos pins s σ H _ I h) fun us s1 ⟨vs, H1, I1, r1, q1⟩ => ?_) hs rfl))
 obtain ⟨j, e, q1, q2, q⟩ := q1
 subst e
 cases r1 with
 | cons r rr =>
   cases rr
   obtain ⟨t, rfl⟩ := r
   exact call_range_1 (range_it I1 (by omega) (by omega) q1 q2 (by simpa using q))
def tFor (wi : TI) (g : TG) (tb : TS) : TS := fun D σ H => wi σ H fun J H1 => ∃ W : Nat -> Nat -> St -> Hp -> Prop, (∃ m, W 0 m σ H1) /\ ∀ i m σ H, W i m σ H ->
 (J.stop i H /\ D.nx σ H) \/ (J.go i H /\ ∃ N : St -> Hp -> Prop, (∀ σ' H', N σ' H' -> ∃ m', m' < m /\ W (i + 1) m' σ' H') /\ ∀ x H', J.yld i H x H' -> g x σ H' fun σ2 H2 => tb { D with nx := N, ct := N, bk := D.nx } σ2 H2)
def xP (fp : List Addr) (h : Heap) : List (Addr × Obj) := fp.filterMap fun b => (h.get? b).map fun o => (b, o)
theorem xC {fp : List Addr} {h : Heap} {b : Addr} {o : Obj} (hb : b ∈ fp) (e : h.get? b = some o) : (b, o) ∈ xP fp h := List.mem_filterMap.mpr ⟨b, hb, by rw [e]; rfl⟩
theorem vA {fp : List Addr} {h : Heap} {p : Addr × Obj} (hp : p ∈ xP fp h) : p.1 ∈ fp /\ h.get? p.1 = some p.2 := by
 obtain ⟨b, hb, e⟩ := List.mem_filterMap.mp hp
 cases q : h.get? b with
 | none => rw [q] at e; cases e
 | some o =>
   rw [q] at e
   have e' : (b, o) = p := Option.some.inj e
   subst e'
   exact ⟨hb, q⟩
theorem Inv.pinned {pins : List (Addr × Obj)} {σ : St} {H : Hp} {s : Shared} {fp : List Addr} (I : Inv X pins σ H s) (hf : ∀ b ∈ fp, uM X pins H b) (ho : ∀ b ∈ fp, ∃ o, s.heap.get? b = some o /\ ∀ v, o.data ≠ .cell v) : Inv X (pins ++ xP fp s.heap) σ H s :=
 I.pins_of fun p hp => (List.mem_append.mp hp).elim (fun z => I.pin p (List.mem_append_right _ z)) fun z => by
   obtain ⟨hb, e⟩ := vA z
   obtain ⟨f0, f1, f2, _⟩ := hf p.1 hb
   obtain ⟨o, e', d⟩ := ho p.1 hb
   rw [e] at e'; cases e'
   exact ⟨e, f0, f1, f2, d⟩
theorem Inv.unpinned {pins pl : List (Addr × Obj)} {σ : St} {H : Hp} {s : Shared} (I : Inv X (pins ++ pl) σ H s) : Inv X pins σ H s := I.pins_of fun p hp => I.pin p (List.mem_append_right _ (List.mem_append_left _ hp))
theorem yZ {iter : Expr} {body : List Stmt} {wi : TI} {g : TG} {tb : TS} {pos : Pos} (hp : PassesOwn (model X.prog X.w) X.A X.env X.xe) (hc : X.calm = true) (hi : PI X tg iter wi) (hg : PG X tg g) (hb : PSs X body tb)
   (hs : ∀ x, foldedSetIterable iter X.env x = pure x := by intro _; rfl) : PS X (.For tg iter body [] pos) (tFor wi g tb) := by
 intro pins s σ H D I h
 refine wpAny_For (thn (hi pins s σ H _ I h) fun v s1 h1 => thn h1 fun itv s2 h2 => ?_) hs
 obtain ⟨it, fp, tn, J, H2, e, I2, T, st2, f2, W, ⟨m0, w0⟩, turn⟩ := h2
 subst e
 have stat : ∀ {H' : Hp}, (∀ b ∈ fp, H' b = none) -> ∀ b ∈ fp, uM X pins H' b := fun hn b hb => ⟨hn b hb, (f2 b hb).2⟩
 refine codeAny_forLoop_any (fun n s' => ∃ i σ' H', Inv X pins σ' H' s' /\ tn i s'.heap /\ (∀ b ∈ fp, H' b = none) /\ W i n σ' H') ?_ m0 ⟨0, σ, H2, I2, st2, fun b hb => (f2 b hb).1, w0⟩
 rintro n s3 ⟨i, σ3, H3, I3, st3, fr3, w3⟩
 rcases turn i n σ3 H3 w3 with ⟨stop, qn⟩ | ⟨go, N, hN, step⟩
 · refine wpAny_passesOwn hp (thn (T.done X rfl rfl rfl hc i pins s3 σ3 H3 X.xe I3 (stat fr3) st3 stop) fun r s4 ⟨hr, I4⟩ => ?_)
   subst hr
   exact wpAny_execs_nil ⟨σ3, H3, I4, qn⟩
 · refine wpAny_passesOwn hp (thn (T.item X rfl rfl rfl hc i pins s3 σ3 H3 X.xe I3 (stat fr3) st3 go) fun r s4 ⟨u, hr, h4⟩ => ?_)
   subst hr
   refine wpAny_passesOwn hp (thn h4 fun _ s5 ⟨x, H5, I5, r5, y5, st5, fr5⟩ => ?_)
   have I5' := I5.pinned (stat fr5) (T.obj _ _ st5)
   refine wpAny_passesOwn hp (thn (hg _ s5 σ3 H5 x u _ I5' r5 (step x H5 y5)) fun _ s6 ⟨σ6, H6, I6, q6⟩ => ?_)
   refine wpAny_passesOwn hp (thn (hb _ s6 σ6 H6 _ I6 q6) fun f s7 q7 => ?_)
   have again : ∀ {σ7 : St} {H7 : Hp}, Inv X (pins ++ xP fp s5.heap) σ7 H7 s7 -> N σ7 H7 -> ∃ m, m < n /\ ∃ i σ' H', Inv X pins σ' H' s7 /\ tn i s7.heap /\ (∀ b ∈ fp, H' b = none) /\ W i m σ' H' := fun {σ7 H7} I7 n7 => by
     obtain ⟨m', hm, w7⟩ := hN σ7 H7 n7
     refine ⟨m', hm, i + 1, σ7, H7, I7.unpinned, T.keep _ _ _ st5 fun b hb o e => (I7.pin (b, o) (List.mem_append_right _ (List.mem_append_right _ (xC hb e)))).1, fun b hb => ?_, w7⟩
     obtain ⟨o, e, d⟩ := T.obj _ _ st5 b hb
     exact (I7.pin (b, o) (List.mem_append_right _ (List.mem_append_right _ (xC hb e)))).2.1
   cases f with
   | next => obtain ⟨σ7, H7, I7, n7⟩ := q7; exact again I7 n7
   | cont => obtain ⟨σ7, H7, I7, n7⟩ := q7; exact again I7 n7
   | brk => obtain ⟨σ7, H7, I7, q7⟩ := q7; exact ⟨σ7, H7, I7.unpinned, q7⟩
   | ret v => obtain ⟨x7, σ7, H7, I7, r7, q7⟩ := q7; exact ⟨x7, σ7, H7, I7.unpinned, r7, q7⟩
end
theorem for_list {K : PySem.W.Frag} {a : Addr} {xs : List V} {g : TG} {tb : TS} {D : Ends} {σ : St} {H : Hp} (Pv : Nat -> St -> Hp -> Prop) (h0 : Pv 0 σ H) (hl : ∀ i σ H, i <= xs.length -> Pv i σ H -> SqL K H a xs)
   (hs : ∀ i x σ H, xs[i]? = some x -> Pv i σ H -> g x σ H fun σ2 H2 => tb { D with nx := Pv (i + 1), ct := Pv (i + 1), bk := D.nx } σ2 H2) (hd : ∀ σ H, Pv xs.length σ H -> D.nx σ H) :
   ∃ W : Nat -> Nat -> St -> Hp -> Prop, (∃ m, W 0 m σ H) /\ ∀ i m σ H, W i m σ H ->
     ((Itl K a).stop i H /\ D.nx σ H) \/ ((Itl K a).go i H /\ ∃ N : St -> Hp -> Prop, (∀ σ' H', N σ' H' -> ∃ m', m' < m /\ W (i + 1) m' σ' H') /\ ∀ x H', (Itl K a).yld i H x H' -> g x σ H' fun σ2 H2 => tb { D with nx := N, ct := N, bk := D.nx } σ2 H2) := by
 refine ⟨fun i m σ H => m = xs.length - i /\ i <= xs.length /\ Pv i σ H, ⟨xs.length, by simp, Nat.zero_le _, h0⟩, ?_⟩
 rintro i m σ H ⟨rfl, hi, p⟩
 have q := hl i σ H hi p
 by_cases hlt : i < xs.length
 · refine .inr ⟨⟨xs, xs[i], q, by simp [hlt]⟩, Pv (i + 1), fun σ' H' p' => ⟨xs.length - (i + 1), by omega, rfl, hlt, p'⟩, fun x H' y => ?_⟩
   obtain ⟨e, y⟩ := y
   subst e
   exact hs i x σ _ (y xs q) p
 · have e : i = xs.length := by omega
   subst e
   exact .inl ⟨⟨xs, q, Nat.le_refl _⟩, hd σ H p⟩
theorem for_range {lo : Int} {n : Nat} {g : TG} {tb : TS} {D : Ends} {σ : St} {H : Hp} (Pv : Nat -> St -> Hp -> Prop) (h0 : Pv 0 σ H)
   (hs : ∀ i σ H, i < n -> Pv i σ H -> g (.int (lo + i)) σ H fun σ2 H2 => tb { D with nx := Pv (i + 1), ct := Pv (i + 1), bk := D.nx } σ2 H2) (hd : ∀ σ H, Pv n σ H -> D.nx σ H) :
   ∃ W : Nat -> Nat -> St -> Hp -> Prop, (∃ m, W 0 m σ H) /\ ∀ i m σ H, W i m σ H ->
     ((Itr lo n).stop i H /\ D.nx σ H) \/ ((Itr lo n).go i H /\ ∃ N : St -> Hp -> Prop, (∀ σ' H', N σ' H' -> ∃ m', m' < m /\ W (i + 1) m' σ' H') /\ ∀ x H', (Itr lo n).yld i H x H' -> g x σ H' fun σ2 H2 => tb { D with nx := N, ct := N, bk := D.nx } σ2 H2) := by
 refine ⟨fun i m σ H => m = n - i /\ i <= n /\ Pv i σ H, ⟨n, by simp, Nat.zero_le _, h0⟩, ?_⟩
 rintro i m σ H ⟨rfl, hi, p⟩
 by_cases hlt : i < n
 · refine .inr ⟨hlt, Pv (i + 1), fun σ' H' p' => ⟨n - (i + 1), by omega, rfl, hlt, p'⟩, fun x H' y => ?_⟩
   obtain ⟨e, y⟩ := y
   subst e y
   exact hs i σ _ hlt p
 · have e : i = n := by omega
   subst e
   exact .inl ⟨Nat.le_refl _, hd σ H p⟩
abbrev R2 := V -> V -> Hp -> VK -> Prop
def OpR (X : Cx) (f : Value -> Value -> Sem Value) (r : R2) : Prop :=
 ∀ (pins : List (Addr × Obj)) (s : Shared) (σ : St) (H : Hp) (x y : V) (v u : Value) (Q : VK), Inv X pins σ H s -> RelV x v -> RelV y u -> r x y H Q ->
   wpAny (model X.prog X.w) X.A (f v u) (EP X pins σ Q) X.xe s
def UnR (X : Cx) (f : Value -> Sem Value) (r : V -> Hp -> VK -> Prop) : Prop :=
 ∀ (pins : List (Addr × Obj)) (s : Shared) (σ : St) (H : Hp) (x : V) (v : Value) (Q : VK), Inv X pins σ H s -> RelV x v -> r x H Q ->
   wpAny (model X.prog X.w) X.A (f v) (EP X pins σ Q) X.xe s
def jR (X : Cx) (f : Value) (r : List V -> Hp -> VK -> Prop) : Prop :=
 ∀ (pins : List (Addr × Obj)) (s : Shared) (σ : St) (H : Hp) (xs : List V) (us : List Value) (Q : VK), Inv X pins σ H s -> Vals xs us -> r xs H Q ->
   wpAny (model X.prog X.w) X.A (call f us) (EP X pins σ Q) X.xe s
def TruR (X : Cx) (r : V -> Hp -> (Bool -> Hp -> Prop) -> Prop) : Prop :=
 ∀ (pins : List (Addr × Obj)) (s : Shared) (σ : St) (H : Hp) (x : V) (v : Value) (Q : Bool -> Hp -> Prop), Inv X pins σ H s -> RelV x v -> r x H Q ->
   wpAny (model X.prog X.w) X.A (truthy v) (TP X pins σ Q) X.xe s
def tOp (r : R2) (ta tb : TE) : TE := fun σ H Q => ta σ H fun x H1 => tb σ H1 fun y H2 => r x y H2 Q
def tUn (r : V -> Hp -> VK -> Prop) (ta : TE) : TE := fun σ H Q => ta σ H fun x H1 => r x H1 Q
def rI (C : Int -> Int -> Prop) (g : Int -> Int -> V) : R2 := fun x y H Q => ∃ i j, x = .int i /\ y = .int j /\ C i j /\ Q (g i j) H
def rI0 (g : Int -> Int -> V) : R2 := fun x y H Q => ∃ i j, x = .int i /\ y = .int j /\ Q (g i j) H
def rU (g : Int -> V) : V -> Hp -> VK -> Prop := fun x H Q => ∃ i, x = .int i /\ Q (g i) H
section
variable {X : Cx} {a b c : Expr} {ta tb tc : TE} {pos : Pos}
theorem binT (ha : PE X a ta) (hb : PE X b tb) {pins : List (Addr × Obj)} {s : Shared} {σ : St} {H : Hp} {R : V -> V -> Hp -> Prop} (I : Inv X pins σ H s)
   (h : ta σ H fun x H1 => tb σ H1 fun y H2 => R x y H2) {Q : Value -> Shared -> Prop} {f : Value -> Value -> Sem Value}
   (hf : ∀ v u s2 x y H2, Inv X pins σ H2 s2 -> RelV x v -> RelV y u -> R x y H2 -> wpAny (model X.prog X.w) X.A (f v u) Q X.xe s2) :
   wpAny (model X.prog X.w) X.A (eval a X.env) (fun v s₁ => wpAny (model X.prog X.w) X.A (eval b X.env) (fun u s₂ => wpAny (model X.prog X.w) X.A (f v u) Q X.xe s₂) X.xe s₁) X.xe s := by
 refine thn (ha pins s σ H _ I h) fun v s1 ⟨x, H1, I1, r1, q1⟩ => ?_
 refine thn (hb pins s1 σ H1 _ I1 q1) fun u s2 ⟨y, H2, I2, r2, q2⟩ => ?_
 exact hf v u s2 x y H2 I2 r1 r2 q2
theorem zK {op : Operator} {r : R2} (ho : OpR X (binaryOp op) r) (ha : PE X a ta) (hb : PE X b tb) : PE X (.BinOp a op b pos) (tOp r ta tb) := by
 intro pins s σ H Q I h
 exact wpAny_BinOp (binT ha hb I h fun v u s2 x y H2 I2 rx ry q => ho pins s2 σ H2 x y v u Q I2 rx ry q)
theorem pe_un {op : UnaryOp} {r : V -> Hp -> VK -> Prop} (ho : UnR X (unaryOp op) r) (ha : PE X a ta) : PE X (.UnaryOp op a pos) (tUn r ta) := by
 intro pins s σ H Q I h
 exact UnaryOp_ (thn (ha pins s σ H _ I h) fun v s1 ⟨x, H1, I1, r1, q1⟩ => ho pins s1 σ H1 x v Q I1 r1 q1)
theorem opI {f : Value -> Value -> Sem Value} {C : Int -> Int -> Prop} {g : Int -> Int -> Int}
   (rule : ∀ (i j : Int) (t u : Tok) (s : Shared) (Q : Value -> Shared -> Prop) (E : Value -> Shared -> Prop), C i j -> Q (.int (g i j) s.toks) { s with toks := s.toks + 1 } -> wpAny (model X.prog X.w) X.A (f (.int i t) (.int j u)) Q E s) :
   OpR X f (rI C fun i j => .int (g i j)) := by
 intro pins s σ H x y v u Q I rx ry h
 obtain ⟨i, j, rfl, rfl, hc, q⟩ := h
 obtain ⟨t, rfl⟩ := rx
 obtain ⟨t', rfl⟩ := ry
 exact rule i j t t' s _ _ hc ⟨.int (g i j), H, I.tok _, ⟨_, rfl⟩, q⟩
theorem opI0 {f : Value -> Value -> Sem Value} {g : Int -> Int -> Int}
   (rule : ∀ (i j : Int) (t u : Tok) (s : Shared) (Q : Value -> Shared -> Prop) (E : Value -> Shared -> Prop), Q (.int (g i j) s.toks) { s with toks := s.toks + 1 } -> wpAny (model X.prog X.w) X.A (f (.int i t) (.int j u)) Q E s) :
   OpR X f (rI0 fun i j => .int (g i j)) := by
 intro pins s σ H x y v u Q I rx ry h
 obtain ⟨i, j, rfl, rfl, q⟩ := h
 obtain ⟨t, rfl⟩ := rx
 obtain ⟨t', rfl⟩ := ry
 exact rule i j t t' s _ _ ⟨.int (g i j), H, I.tok _, ⟨_, rfl⟩, q⟩
theorem opB0 {f : Value -> Value -> Sem Value} {g : Int -> Int -> Bool}
   (rule : ∀ (i j : Int) (t u : Tok) (s : Shared) (Q : Value -> Shared -> Prop) (E : Value -> Shared -> Prop), Q (.bool (g i j)) s -> wpAny (model X.prog X.w) X.A (f (.int i t) (.int j u)) Q E s) :
   OpR X f (rI0 fun i j => .bl (g i j)) := by
 intro pins s σ H x y v u Q I rx ry h
 obtain ⟨i, j, rfl, rfl, q⟩ := h
 obtain ⟨t, rfl⟩ := rx
 obtain ⟨t', rfl⟩ := ry
 exact rule i j t t' s _ _ ⟨.bl (g i j), H, I, rfl, q⟩
def CDiv (i j : Int) : Prop := 0 < j /\ j < 1073741824
def CPow (i j : Int) : Prop := 0 <= j /\ j <= 1000000 /\ i.natAbs < 2 ^ 64
def CMul (i j : Int) : Prop := (-(2 ^ 64) < i /\ i < 2 ^ 64) \/ (-(2 ^ 64) < j /\ j < 2 ^ 64)
theorem CMul.ok {i j : Int} (h : CMul i j) : IntMulOk i j := by
 rcases h with ⟨h1, h2⟩ | ⟨h1, h2⟩
 · exact .of_left (intBits_le_64 h1 h2)
 · exact .of_right (intBits_le_64 h1 h2)
theorem op_add : OpR X (binaryOp .Add) (rI0 fun i j => .int (i + j)) := opI0 fun _ _ _ _ _ _ _ q => add_int q
theorem op_sub : OpR X (binaryOp .Sub) (rI0 fun i j => .int (i - j)) := opI0 fun _ _ _ _ _ _ _ q => sub_int q
theorem op_mul : OpR X (binaryOp .Mult) (rI CMul fun i j => .int (i * j)) := opI fun _ _ _ _ _ _ _ hc q => mul_int q hc.ok
theorem op_fdiv : OpR X (binaryOp .FloorDiv) (rI CDiv fun i j => .int (i / j)) := opI fun i j _ _ _ _ _ hc q => by
 have h1 : (0 : Int) < j := hc.1
 have h2 : j < 1073741824 := hc.2
 exact floordiv_int (by omega) (by rw [Int.fdiv_eq_ediv_of_nonneg i (by omega)]; exact q) (.inl (PyProof.noPylong_small (by omega)))
theorem op_mod : OpR X (binaryOp .Mod) (rI (fun _ j => 0 < j) fun i j => .int (i % j)) := opI fun i j _ _ _ _ _ hc q => by
 have h1 : (0 : Int) < j := hc
 exact mod_int' (by omega) (by rw [Int.fmod_eq_emod_of_nonneg i (by omega)]; exact q)
theorem op_pow : OpR X (binaryOp .Pow) (rI CPow fun i j => .int (i ^ j.toNat)) := opI fun _ _ _ _ _ _ _ hc q => pow_int_small hc.1 hc.2.1 hc.2.2 q
theorem op_shl : OpR X (binaryOp .LShift) (rI CPow fun i j => .int (i * 2 ^ j.toNat)) := opI fun _ _ _ _ _ _ _ hc q => lshift_int_small hc.1 hc.2.1 hc.2.2 q
theorem op_and : OpR X (binaryOp .BitAnd) (rI0 fun i j => .int (Builtin.bitAnd i j)) := opI0 fun _ _ _ _ _ _ _ q => and_int q
theorem op_xor : OpR X (binaryOp .BitXor) (rI0 fun i j => .int (Builtin.bitXor i j)) := opI0 fun _ _ _ _ _ _ _ q => xor_int q
theorem unI {f : Value -> Sem Value} {g : Int -> Int}
   (rule : ∀ (i : Int) (t : Tok) (s : Shared) (Q : Value -> Shared -> Prop) (E : Value -> Shared -> Prop), Q (.int (g i) s.toks) { s with toks := s.toks + 1 } -> wpAny (model X.prog X.w) X.A (f (.int i t)) Q E s) :
   UnR X f (rU fun i => .int (g i)) := by
 intro pins s σ H x v Q I rx h
 obtain ⟨i, rfl, q⟩ := h
 obtain ⟨t, rfl⟩ := rx
 exact rule i t s _ _ ⟨.int (g i), H, I.tok _, ⟨_, rfl⟩, q⟩
theorem un_neg : UnR X (unaryOp .USub) (rU fun i => .int (-i)) := unI fun _ _ _ _ _ q => neg_int q
theorem un_inv : UnR X (unaryOp .Invert) (rU fun i => .int (Builtin.bitNot i)) := unI fun _ _ _ _ _ q => invert_int q
end
def scal : V -> V -> Bool
 | .non, .non => true | .non, .int _ => true | .int _, .non => true | .non, .bl _ => true | .bl _, .non => true | .non, .str _ => true | .str _, .non => true
 | .int _, .int _ => true | .bl _, .bl _ => true | .str _, .str _ => true | .byt _, .byt _ => true
 | .int _, .str _ => true | .str _, .int _ => true | .bl _, .str _ => true | .str _, .bl _ => true
 | _, _ => false
def rEq : R2 := fun x y H Q => scal x y = true /\ Q (.bl (decide (x = y))) H
def rNe : R2 := fun x y H Q => scal x y = true /\ Q (.bl (!decide (x = y))) H
theorem dec_int {i j : Int} : decide (V.int i = V.int j) = (i == j) := by
 rw [Bool.eq_iff_iff]
 simp
theorem dec_bl {i j : Bool} : decide (V.bl i = V.bl j) = (i == j) := by
 rw [Bool.eq_iff_iff]
 simp
theorem dec_str {i j : Str} : decide (V.str i = V.str j) = (i == j) := by
 rw [Bool.eq_iff_iff]
 simp
theorem dec_byt {i j : Array UInt8} : decide (V.byt i = V.byt j) = (i.toList == j.toList) := by
 rw [Bool.eq_iff_iff]
 cases i
 cases j
 simp
section
variable {X : Cx} {a b c : Expr} {ta tb tc : TE} {pos : Pos}
theorem yK {pins : List (Addr × Obj)} {σ : St} {H : Hp} {s : Shared} {Q : VK} {k k' : Bool} (I : Inv X pins σ H s) (q : Q (.bl k) H) (e : k = k') : EP X pins σ Q (.bool k') s := by
 subst e
 exact ⟨.bl k, H, I, rfl, q⟩
theorem op_eq : OpR X (compareOp .Eq) rEq := by
 intro pins s σ H x y v u Q I rx ry h
 obtain ⟨hs, q⟩ := h
 cases x with
 | non =>
   cases rx
   cases y with
   | non => cases ry; exact PySem.EqNone.eq_none_none (yK I q (by simp))
   | bl j => cases ry; exact PySem.EqNone.eq_none_bool (yK I q (by simp))
   | int j => obtain ⟨t', rfl⟩ := ry; exact PySem.EqNone.eq_none_int (yK I q (by simp))
   | str j => obtain ⟨t', rfl⟩ := ry; exact PySem.EqNone.eq_none_str (yK I q (by simp))
   | _ => exact absurd (show false = true from hs) Bool.false_ne_true
 | bl i =>
   cases rx
   cases y with
   | non => cases ry; exact PySem.EqNone.eq_bool_none (yK I q (by simp))
   | bl j => cases ry; exact eq_bool (yK I q dec_bl)
   | str j => obtain ⟨t', rfl⟩ := ry; exact PySem.EqMixed.eq_bool_str (yK I q (by simp))
   | _ => exact absurd (show false = true from hs) Bool.false_ne_true
 | int i =>
   obtain ⟨t, rfl⟩ := rx
   cases y with
   | non => cases ry; exact PySem.EqNone.eq_int_none (yK I q (by simp))
   | int j => obtain ⟨t', rfl⟩ := ry; exact eq_int (yK I q dec_int)
   | str j => obtain ⟨t', rfl⟩ := ry; exact PySem.EqMixed.eq_int_str (yK I q (by simp))
   | _ => exact absurd (show false = true from hs) Bool.false_ne_true
 | str i =>
   obtain ⟨t, rfl⟩ := rx
   cases y with
   | non => cases ry; exact PySem.EqNone.eq_str_none (yK I q (by simp))
   | bl j => cases ry; exact PySem.EqMixed.eq_str_bool (yK I q (by simp))
   | int j => obtain ⟨t', rfl⟩ := ry; exact PySem.EqMixed.eq_str_int (yK I q (by simp))
   | str j => obtain ⟨t', rfl⟩ := ry; exact eq_str (yK I q dec_str)
   | _ => exact absurd (show false = true from hs) Bool.false_ne_true
 | byt i =>
   obtain ⟨t, rfl⟩ := rx
   cases y with
   | byt j => obtain ⟨t', rfl⟩ := ry; exact PySem.W.eq_bytes (yK I q dec_byt)
   | _ => exact absurd (show false = true from hs) Bool.false_ne_true
 | _ => cases y <;> exact absurd (show false = true from hs) Bool.false_ne_true
theorem op_lt : OpR X (compareOp .Lt) (rI0 fun i j => .bl (decide (i < j))) := opB0 fun _ _ _ _ _ _ _ q => lt_int q
theorem op_le : OpR X (compareOp .LtE) (rI0 fun i j => .bl (decide (i <= j))) := opB0 fun _ _ _ _ _ _ _ q => le_int q
theorem op_gt : OpR X (compareOp .Gt) (rI0 fun i j => .bl (decide (j < i))) := opB0 fun _ _ _ _ _ _ _ q => gt_int q
theorem yP (b : Expr) {op : CmpOp} (h : op ≠ .In := by decide) (h2 : op ≠ .NotIn := by decide) : behindInMarks op b = false := by
 have e1 : (op == CmpOp.In) = false := by cases op <;> first | rfl | exact absurd rfl h
 have e2 : (op == CmpOp.NotIn) = false := by cases op <;> first | rfl | exact absurd rfl h2
 cases b <;> simp [behindInMarks, e1, e2]
theorem pe_cmpR {op : CmpOp} {r : R2} (ho : OpR X (compareOp op) r) (ha : PE X a ta) (hb : PE X b tb) (hm : behindInMarks op b = false) : PE X (.Compare a [op] [b] pos) (tOp r ta tb) := by
 intro pins s σ H Q I h
 exact wpAny_Compare1 (binT ha hb I h fun v u s2 x y H2 I2 rx ry q => ho pins s2 σ H2 x y v u Q I2 rx ry q) hm
def tTest (t : TE) : TT := fun σ H Q => t σ H fun x H' => ∃ k, x = .bl k /\ Q k H'
theorem yC {op : CmpOp} {r : R2} (ho : OpR X (compareOp op) r) (ha : PE X a ta) (hb : PE X b tb) (hm : behindInMarks op b = false) : PT X (.Compare a [op] [b] pos) (tTest (tOp r ta tb)) := by
 intro pins s σ H Q I h
 refine wpAny_isTrue_Compare1 (thn (ha pins s σ H _ I h) fun v s1 ⟨x, H1, I1, r1, q1⟩ => thn (hb pins s1 σ H1 _ I1 q1) fun u s2 ⟨y, H2, I2, r2, q2⟩ =>
   thn (ho pins s2 σ H2 x y v u _ I2 r1 r2 q2) fun c s3 ⟨z, H3, I3, r3, k, e, q3⟩ => ?_) hm
 subst e
 cases r3
 exact wpAny_truthy_bool ⟨H3, I3, q3⟩
def tChain (r r' : R2) (ta tb tc : TE) : TE := fun σ H Q => ta σ H fun x H1 => tb σ H1 fun y H2 => r x y H2 fun z H3 => ∃ k, z = .bl k /\
 (if k = true then tc σ H3 fun w' H4 => r' y w' H4 Q else Q (.bl false) H3)
theorem pe_chain {op op' : CmpOp} {r r' : R2} (ho : OpR X (compareOp op) r) (ho' : OpR X (compareOp op') r') (ha : PE X a ta) (hb : PE X b tb) (hc : PE X c tc)
   (hm : lastMarks [op, op'] [b, c] = false := by with_unfolding_all rfl) : PE X (.Compare a [op, op'] [b, c] pos) (tChain r r' ta tb tc) := by
 intro pins s σ H Q I h
 refine Compare_chain (thn (ha pins s σ H _ I h) fun v s1 ⟨x, H1, I1, r1, q1⟩ => chain_link (thn (hb pins s1 σ H1 _ I1 q1) fun u s2 ⟨y, H2, I2, r2, q2⟩ =>
   thn (ho pins s2 σ H2 x y v u _ I2 r1 r2 q2) fun d s3 ⟨z, H3, I3, r3, k, e, q3⟩ => ?_)) hm
 subst e
 cases r3
 refine wpAny_truthy_bool ?_
 cases k with
 | false => exact ite_ff ⟨.bl false, H3, I3, rfl, q3⟩
 | true => exact ite_tt (chain_last (thn (hc pins s3 σ H3 _ I3 q3) fun w' s4 ⟨z', H4, I4, r4, q4⟩ => ho' pins s4 σ H4 y z' u w' Q I4 r2 r4 q4))
def TruV (K : PySem.W.Frag) (x : V) (H : Hp) (k : Bool) : Prop :=
 match x with
 | .non => k = false
 | .bl b => k = b
 | .int i => k = (i != 0)
 | .str y => y.length <= sizeLine /\ k = ((y.length : Int) != 0)
 | .byt y => y.size <= sizeLine /\ k = ((y.size : Int) != 0)
 | .ref p => (∃ xs, SqL K H p xs /\ k = !xs.isEmpty) \/ (∃ xs, SqT K H p xs /\ k = !xs.isEmpty) \/ ∃ kvs, H p = some (.dK kvs) /\ k = !kvs.isEmpty
 | _ => False
theorem isEmpty_kv {κ : Type} {kvs : List (κ × V)} {vs : List (κ × Value)} (r : KV kvs vs) : (!vs.isEmpty) = !kvs.isEmpty := by
 cases r <;> rfl
theorem uG {xs : List V} {its : List Value} (r : Vals xs its) : (!its.toArray.isEmpty) = !xs.isEmpty := by
 cases r <;> simp
theorem line63 : (sizeLine : Nat) < 2 ^ 63 := by rw [sizeLine_eq]; decide
theorem tru_ok : TruR X (fun x H Q => ∃ k, TruV X.K x H k /\ Q k H) := by
 intro pins s σ H x v Q I rx h
 obtain ⟨k, e, q⟩ := h
 have hl := line63
 have hs : sizeLine = 16777216 := sizeLine_eq
 cases x with
 | non =>
   cases rx
   have e' : k = false := e
   subst e'
   exact truthy_none ⟨H, I, q⟩
 | bl b =>
   cases rx
   have e' : k = b := e
   subst e'
   exact wpAny_truthy_bool ⟨H, I, q⟩
 | int i =>
   obtain ⟨t, rfl⟩ := rx
   have e' : k = (i != 0) := e
   subst e'
   exact PySem.P.truthy_int ⟨H, I, q⟩
 | str y =>
   obtain ⟨t, rfl⟩ := rx
   obtain ⟨hy, e'⟩ : y.length <= sizeLine /\ k = ((y.length : Int) != 0) := e
   subst e'
   exact PySem.P.truthy_str (by omega) ⟨H, I.tok _, q⟩
 | byt y =>
   obtain ⟨t, rfl⟩ := rx
   obtain ⟨hy, e'⟩ : y.size <= sizeLine /\ k = ((y.size : Int) != 0) := e
   subst e'
   exact PySem.W.truthy_bytes (by omega) ⟨H, I.tok _, q⟩
 | ref p =>
   cases rx
   have e' : (∃ xs, SqL X.K H p xs /\ k = !xs.isEmpty) \/ (∃ xs, SqT X.K H p xs /\ k = !xs.isEmpty) \/ ∃ kvs, H p = some (.dK kvs) /\ k = !kvs.isEmpty := e
   rcases e' with ⟨xs, hx, e'⟩ | ⟨xs, hx, e'⟩ | ⟨kvs, hx, e'⟩
   · subst e'
     obtain ⟨its, r, pl, hz⟩ := I.list hx
     have hlen := r.length
     exact wpAny_truthy_list pl.isList (by simp only [List.size_toArray]; omega) ⟨H, I.tok _, by rw [uG r]; exact q⟩
   · subst e'
     obtain ⟨its, r, pl, hz⟩ := I.tuple hx
     have hlen := r.length
     exact truthy_tuple pl (by simp only [List.size_toArray]; omega) ⟨H, I.tok _, by rw [uG r]; exact q⟩
   · subst e'
     obtain ⟨hz, hS, vs, r, m⟩ : kvs.length <= sizeLine /\ (p == sysModules) = false /\ ∃ vs, KV kvs vs /\ s.heap.DictOf (zZ X.prog X.w) p vs := I.hok p _ hx
     have hlen : kvs.length = vs.length := Paired.length r
     exact wpAny_truthy_dict hS m (by omega) ⟨H, I.tok _, by rw [isEmpty_kv r]; exact q⟩
 | _ => exact (show False from e).elim
theorem pt_truth (ha : PE X a ta) (he : ∀ whole, isTrue a X.env whole = (do let v ← whole; standAt a.pos; holding [v] (truthy v))) :
   PT X a (fun σ H Q => ta σ H fun x H' => ∃ k, TruV X.K x H' k /\ Q k H') := by
 intro pins s σ H Q I h
 exact isTrue_plain (thn (ha pins s σ H _ I h) fun v s1 ⟨x, H1, I1, r1, q1⟩ => tru_ok pins s1 σ H1 x v Q I1 r1 q1) (he _)
theorem op_add_str : OpR X (binaryOp .Add) (fun x y H Q => ∃ i j, x = .str i /\ y = .str j /\ i.length + j.length <= sizeLine /\ Q (.str (i ++ j)) H) := by
 intro pins s σ H x y v u Q I rx ry h
 obtain ⟨i, j, rfl, rfl, hz, q⟩ := h
 obtain ⟨t, rfl⟩ := rx
 obtain ⟨t', rfl⟩ := ry
 exact add_str (fun t' tk => ⟨.str (i ++ j), H, I.tok _, ⟨_, rfl⟩, q⟩) hz
theorem uX {x : V} {us : List Value} (r : Vals [x] us) : ∃ u, us = [u] /\ RelV x u := by
 cases r with
 | cons r1 r2 => cases r2; exact ⟨_, rfl, r1⟩
theorem vals2 {x y : V} {us : List Value} (r : Vals [x, y] us) : ∃ u w', us = [u, w'] /\ RelV x u /\ RelV y w' := by
 cases r with
 | cons r1 r2 =>
   cases r2 with
   | cons r3 r4 => cases r4; exact ⟨_, _, rfl, r1, r3⟩
def LenV (K : PySem.W.Frag) (x : V) (H : Hp) (n : Nat) : Prop :=
 match x with
 | .str y => y.length <= sizeLine /\ n = y.length
 | .byt y => y.size <= sizeLine /\ n = y.size
 | .ref p => (∃ xs, SqL K H p xs /\ n = xs.length) \/ ∃ xs, SqT K H p xs /\ n = xs.length
 | _ => False
theorem call_len : jR X (.builtin "len") (fun xs H Q => ∃ x n, xs = [x] /\ LenV X.K x H n /\ Q (.int n) H) := by
 intro pins s σ H xs us Q I r h
 obtain ⟨x, n, rfl, e, q⟩ := h
 obtain ⟨u, rfl, rx⟩ := uX r
 have hl := line63
 have hs : sizeLine = 16777216 := sizeLine_eq
 cases x with
 | str y =>
   obtain ⟨t, rfl⟩ := rx
   obtain ⟨hy, e'⟩ : y.length <= sizeLine /\ n = y.length := e
   subst e'
   exact len_str (by omega) ⟨.int _, H, I.tok _, ⟨_, rfl⟩, q⟩
 | byt y =>
   obtain ⟨t, rfl⟩ := rx
   obtain ⟨hy, e'⟩ : y.size <= sizeLine /\ n = y.size := e
   subst e'
   exact PySem.W.len_bytes (by omega) ⟨.int _, H, I.tok _, ⟨_, rfl⟩, q⟩
 | ref p =>
   cases rx
   have e' : (∃ xs, SqL X.K H p xs /\ n = xs.length) \/ ∃ xs, SqT X.K H p xs /\ n = xs.length := e
   rcases e' with ⟨xs, hx, e'⟩ | ⟨xs, hx, e'⟩
   · subst e'
     obtain ⟨its, r', pl, hz⟩ := I.list hx
     have hlen := r'.length
     exact Calls.call_len_list pl.isList (by simp only [List.size_toArray]; omega) ⟨.int xs.length, H, I.tok _, ⟨_, by simp only [List.size_toArray]; rw [hlen]⟩, q⟩
   · subst e'
     obtain ⟨its, r', pl, hz⟩ := I.tuple hx
     have hlen := r'.length
     exact len_tuple pl (by simp only [List.size_toArray]; omega) ⟨.int xs.length, H, I.tok _, ⟨_, by simp only [List.size_toArray]; rw [hlen]⟩, q⟩
 | _ => exact (show False from e).elim
end
structure ObjM (h : Heap) (x dx C : Addr) (mA : Str -> Option Value) : Prop where
 obj : h.get? x = some (PySem.W.instObj C dx)
 ns : h.Ns1 dx mA
 ne : dx ≠ x
theorem lookIn_ns {h : Heap} {dx : Addr} {mA : Str -> Option Value} (n : h.Ns1 dx mA) : ∃ od, h.get? dx = some od /\ ∀ name, PySem.W.lookIn name od = some (mA name) := by
 obtain ⟨o, es, ep, ho, hd, hk, _, hm⟩ := n
 refine ⟨o, ho, fun name => ?_⟩
 have e := hm name
 unfold nsFind findBy at e
 rw [← Array.find?_toList] at e
 unfold PySem.W.lookIn
 rw [hd]
 dsimp only
 split
 · rename_i y q
   rw [q] at e
   exact congrArg some e
 · rename_i q
   rw [q] at e
   have a : es.toList.any (·.refKey) = false := by
     rw [List.any_eq_false]
     intro y hy
     obtain ⟨z, t, hkey⟩ := hk y (Array.mem_toList_iff.mp hy)
     simp [DictEntry.refKey, hkey]
   have a' : ¬ es.toList.any (·.refKey) = true := by rw [a]; exact Bool.false_ne_true
   rw [if_neg a']
   exact congrArg some e
theorem ObjM.look {h : Heap} {x dx C : Addr} {mA : Str -> Option Value} (I : ObjM h x dx C mA) : ∃ od, PySem.W.InstAt h x (PySem.W.instObj C dx) C (some od) /\ ∀ name, PySem.W.lookIn name od = some (mA name) :=
 let ⟨od, ho, hl⟩ := lookIn_ns I.ns
 ⟨od, ⟨I.obj, rfl, rfl, ho⟩, hl⟩
section
variable {prog : Program} {w : World} {A : Around} {E : Value -> Shared -> Prop} {s : Shared} {K : PySem.W.Frag} {x dx C f : Addr} {mA : Str -> Option Value} {name : Str} {v : Value}
theorem get_map {expr : Bool} {Q : Value -> Shared -> Prop} (X : K.In s.heap) (I : ObjM s.heap x dx C mA) (hg : PySem.W.plainGet K C name = true) (hh : PySem.W.hasDictIn K C = true)
   (ha : PySem.W.findIn K (.ref C) name = some none) (hv : mA name = some v) (hv' : PySem.W.handedIn v = true) (h : Q v { s with toks := s.toks + 1 }) :
   wpAny (model prog w) A (getAttr (.ref x) name expr) Q E s := by
 obtain ⟨od, J, hl⟩ := I.look
 exact PySem.W.get_value X J (PySem.W.plainGet_of hg).1 (PySem.W.findObj_own hh ha rfl (by rw [hl, hv])) hv' h
theorem get_meth {pl : Sem Bool} {Q : Value × List Value -> Shared -> Prop} (X : K.In s.heap) (I : ObjM s.heap x dx C mA) (hg : PySem.W.plainGet K C name = true)
   (hf : PySem.W.findIn K (.ref C) name = some (some (.ref f))) (ht : PySem.W.isFn K (.ref f) = true) (hv : mA name = none) (h : Q (.ref f, [.ref x]) s) :
   wpAny (model prog w) A (getMethod (.ref x) name pl) Q E s := by
 obtain ⟨od, J, hl⟩ := I.look
 exact PySem.W.method_fn X J (PySem.W.plainGet_of hg).1 (PySem.W.plainGet_of hg).2 hf (beq_iff_eq.mp ht) (by show (PySem.W.lookIn name od).map (·.isSome) = some false; rw [hl, hv]; rfl) h
theorem set_map {ns : List Str} {Q : Unit -> Shared -> Prop} (X : K.In s.heap) (I : ObjM s.heap x dx C mA)
   (hs : PySem.W.findIn K (.ref C) "__setattr__" = some (some (.builtin "object.__setattr__"))) (hp : PySem.W.plainOver K C = true) (ht : PySem.W.takerIn K C name = some none) (hh : PySem.W.hasDictIn K C = true)
   (hw : PySem.Within mA ns) (hsz : ns.length <= sizeLine)
   (h : ∀ h', ObjM h' x dx C (fun y => if y = name then some v else mA y) -> Heap.SameBut dx s.heap h' -> Q () { s with heap := h', toks := s.toks + 2 }) :
   wpAny (model prog w) A (setAttr (.ref x) name v) Q E s := by
 obtain ⟨od, J, hl⟩ := I.look
 refine PySem.W.set_plain X J hs (PySem.W.osa_open (s := { s with toks := s.toks + 1 }) (r := none) X J hp ht fun b => ?_)
 obtain ⟨cd, hc, hd'⟩ := PySem.W.any_some hh
 have hx : s.heap.get? x = some ⟨.ref C, some dx, .plain, #[]⟩ := I.obj
 refine wpAny_bind (wpAny_pure (wpAny_bind (wpAny_bind (wpAny_loadPart hx (wpAny_bind (PySem.W.Looks.here (s := { s with toks := s.toks + 1 }) (PySem.W.looks_clsIn X hc) ?_))))))
 rw [hd']
 refine wpAny_pure (a := some dx) (wpAny_bind (wpAny_pure (wpAny_bind ?_)))
 refine wpAny_nsSet1 (s := { s with toks := s.toks + 1 }) I.ns fun h' hn2 hs2 => ?_
 obtain ⟨oD, esD, epD, hoD, hdD, hcD⟩ := hn2.count (PySem.Within.cons name v hw)
 refine wpAny_bind (wpAny_lookBehind hoD (by rw [hdD]; exact pastItsLine_dict (Nat.le_trans hcD (by rw [List.length_cons]; omega))) ?_)
 exact wpAny_pure (h _ ⟨(hs2.2 _ (Ne.symm I.ne)).trans I.obj, hn2, I.ne⟩ hs2)
theorem make_map {R : Result -> Shared -> Prop} {vs : List Value} {kw : List (Str × Value)} (X : K.In s.heap) (hm : PySem.W.makesIn K C = true)
   (hi : PySem.W.findIn K (.ref C) "__init__" = some (some (.ref f))) (hf : PySem.W.typeIn K (.ref f) = some (.type "function"))
   (h : codeAny (model prog w) (A.under (.builtin "type.__call__" ⟨.ref C :: vs, kw⟩)) (.call (.ref f) ⟨.ref (s.heap.objs.size + 1) :: vs, kw⟩) (PySem.W.InitBack (s.heap.objs.size + 1) R)
     { s with heap := (s.heap.push PySem.W.emptyDict).push (PySem.W.instObj C s.heap.objs.size) }) :
   codeAny (model prog w) A (.call (.ref C) ⟨vs, kw⟩) R s := by
 obtain ⟨hh, g, d, t, os⟩ := s
 exact PySem.W.make_core (PySem.W.makes_of X hm) (PySem.W.looks_findIn X hi) (fun self => PySem.W.bind_fn X self hf) (.inl rfl) h
end
def yM (f : Str) (v : V) : List (Str × V) -> List (Str × V)
 | [] => [(f, v)]
 | (g, x) :: r => if g = f then (g, v) :: r else (g, x) :: yM f v r
theorem qL (f g : Str) (v : V) : ∀ fs : List (Str × V), (yM f v fs).lookup g = if g = f then some v else fs.lookup g
 | [] => by
   show List.lookup g [(f, v)] = _
   by_cases h : g = f
   · have hb : (g == f) = true := beq_iff_eq.mpr h
     simp only [List.lookup, hb, if_pos h]
   · have hb : (g == f) = false := beq_eq_false_iff_ne.mpr h
     simp only [List.lookup, hb, if_neg h]
 | (k, x) :: r => by
   have ih := qL f g v r
   rw [show yM f v ((k, x) :: r) = (if k = f then (k, v) :: r else (k, x) :: yM f v r) from rfl]
   by_cases hk : k = f
   · rw [if_pos hk]
     by_cases h : g = k
     · have hb : (g == k) = true := beq_iff_eq.mpr h
       simp only [List.lookup, hb, if_pos (h.trans hk)]
     · have hb : (g == k) = false := beq_eq_false_iff_ne.mpr h
       simp only [List.lookup, hb, if_neg (fun e : g = f => h (e.trans hk.symm))]
   · rw [if_neg hk]
     by_cases h : g = k
     · have hb : (g == k) = true := beq_iff_eq.mpr h
       simp only [List.lookup, hb, if_neg (fun e : g = f => hk (h.symm.trans e))]
     · have hb : (g == k) = false := beq_eq_false_iff_ne.mpr h
       simp only [List.lookup, hb]
       exact ih
theorem qI (f : Str) (v : V) : ∀ fs : List (Str × V), f ∈ (yM f v fs).map (·.1) /\ ∀ g, g ∈ fs.map (·.1) -> g ∈ (yM f v fs).map (·.1)
 | [] => ⟨by simp [yM], fun g h => by simp at h⟩
 | (k, x) :: r => by
   obtain ⟨i1, i2⟩ := qI f v r
   rw [show yM f v ((k, x) :: r) = (if k = f then (k, v) :: r else (k, x) :: yM f v r) from rfl]
   by_cases hk : k = f
   · rw [if_pos hk]
     subst hk
     exact ⟨by simp, fun g h => by simpa using h⟩
   · rw [if_neg hk]
     refine ⟨?_, fun g h => ?_⟩
     · rw [List.map_cons]
       exact List.mem_cons_of_mem _ i1
     · rw [List.map_cons] at h ⊢
       rcases List.mem_cons.mp h with e | e
       · exact List.mem_cons.mpr (.inl e)
       · exact List.mem_cons_of_mem _ (i2 g e)
theorem qM (f : Str) (v : V) : ∀ fs : List (Str × V), (yM f v fs).length <= fs.length + 1
 | [] => by simp [yM]
 | (k, x) :: r => by
   have ih := qM f v r
   rw [show yM f v ((k, x) :: r) = (if k = f then (k, v) :: r else (k, x) :: yM f v r) from rfl]
   by_cases hk : k = f
   · rw [if_pos hk, List.length_cons, List.length_cons]; omega
   · rw [if_neg hk, List.length_cons, List.length_cons]; omega
theorem RelO.some_of {v : V} {o : Option Value} (r : RelO (some v) o) : ∃ u, o = some u /\ RelV v u := by
 cases o with
 | none => exact (show False from r).elim
 | some u => exact ⟨u, rfl, r⟩
theorem RelO.none_of {o : Option Value} (r : RelO none o) : o = none := by
 cases o with
 | none => rfl
 | some u => exact (show False from r).elim
theorem handed_of {v : V} {u : Value} (r : RelV v u) : PySem.W.handedIn u = true := by
 cases v with
 | non => cases (show u = Value.none from r); rfl
 | bl b => cases (show u = Value.bool b from r); rfl
 | int i => obtain ⟨t, e⟩ := (show ∃ t, u = Value.int i t from r); cases e; rfl
 | str x => obtain ⟨t, e⟩ := (show ∃ t, u = Value.str x t from r); cases e; rfl
 | byt b => obtain ⟨t, e⟩ := (show ∃ t, u = Value.bytes b t from r); cases e; rfl
 | flt b => obtain ⟨t, e⟩ := (show ∃ t, u = Value.float b t from r); cases e; rfl
 | ref a => cases (show u = Value.ref a from r); rfl
 | ty n => cases (show u = Value.type n from r); rfl
section
variable {P : Program} {w : World} {H H' : Hp} {h h' : Heap} {a C dx : Addr} {fs fs' : List (Str × V)}
theorem qV (hok : HOk P w H h) (e : H a = some (.ins C dx fs)) : ∃ mA, ObjM h a dx C mA /\ (∀ f, RelO (fs.lookup f) (mA f)) /\ PySem.Within mA (fs.map (·.1)) /\ fs.length <= 1000 /\ H dx = some (.own a) := by
 obtain ⟨d, z, ne, ob, mA, n, r, q⟩ := (show ObjOk P w H h a (.ins C dx fs) from hok a _ e)
 exact ⟨mA, ⟨ob, n, ne⟩, r, q, z, d⟩
end
structure Cls (K : PySem.W.Frag) (C : Addr) : Prop where
 pg : PySem.W.plainGet K C Str.empty = true
 hd : PySem.W.hasDictIn K C = true
 po : PySem.W.plainOver K C = true
 sa : PySem.W.findIn K (.ref C) "__setattr__" = some (some (.builtin "object.__setattr__"))
theorem Cls.get {K : PySem.W.Frag} {C : Addr} (c : Cls K C) (f : Str) : PySem.W.plainGet K C f = true := c.pg
def NoAttr (K : PySem.W.Frag) (C : Addr) (f : Str) : Prop := PySem.W.findIn K (.ref C) f = some none
theorem NoAttr.taker {K : PySem.W.Frag} {C : Addr} {f : Str} (n : NoAttr K C f) : PySem.W.takerIn K C f = some none := by
 unfold PySem.W.takerIn
 rw [show PySem.W.findIn K (.ref C) f = some none from n]
 rfl
structure Con (K : PySem.W.Frag) (C : Addr) (f : Str) (v : V) (u : Value) : Prop where
 at_ : PySem.W.findIn K (.ref C) f = some (some u)
 rel : RelV v u
 get : PySem.W.specialIn K u "__get__" = some none
 cp : PySem.W.copiedNames.contains f = false
structure Meth (K : PySem.W.Frag) (C : Addr) (m : Str) (f : Addr) : Prop where
 at_ : PySem.W.findIn K (.ref C) m = some (some (.ref f))
 fn : PySem.W.isFn K (.ref f) = true
 kp : PySem.W.keepIn K (.ref f) = true
section
variable {X : Cx} {pins : List (Addr × Obj)} {σ : St} {H : Hp} {s : Shared} {a C dx : Addr} {fs : List (Str × V)} {f : Str} {v : V} {A : Around} {E : Value -> Shared -> Prop}
theorem getattr_ok {b : Bool} {Q : Value -> Shared -> Prop} (I : Inv X pins σ H s) (e : H a = some (.ins C dx fs)) (c : Cls X.K C) (n : NoAttr X.K C f) (l : fs.lookup f = some v)
   (h : ∀ u s', Inv X pins σ H s' -> RelV v u -> Q u s') : wpAny (model X.prog X.w) A (getAttr (.ref a) f b) Q E s := by
 obtain ⟨mA, O, r, _, _, _⟩ := qV I.hok e
 obtain ⟨u, hu, ru⟩ := RelO.some_of (v := v) (o := mA f) (by rw [← l]; exact r f)
 exact get_map I.kIn O (c.get f) c.hd n hu (handed_of ru) (h u _ (I.tok _) ru)
theorem getmeth_ok {m : Str} {g : Addr} {pl : Sem Bool} {Q : Value × List Value -> Shared -> Prop} (I : Inv X pins σ H s) (e : H a = some (.ins C dx fs)) (c : Cls X.K C) (k : Meth X.K C m g) (l : fs.lookup m = none)
   (h : Q (.ref g, [.ref a]) s) : wpAny (model X.prog X.w) A (getMethod (.ref a) m pl) Q E s := by
 obtain ⟨mA, O, r, _, _, _⟩ := qV I.hok e
 have hn : mA m = none := RelO.none_of (by rw [← l]; exact r m)
 exact get_meth I.kIn O (c.get m) k.at_ k.fn hn h
theorem setattr_ok {y : V} {u : Value} {Q : Unit -> Shared -> Prop} (I : Inv X pins σ H s) (e : H a = some (.ins C dx fs)) (c : Cls X.K C) (n : NoAttr X.K C f) (hl : fs.length < 1000) (ry : RelV y u)
   (h : ∀ s', Inv X pins σ (upd H a (.ins C dx (yM f y fs))) s' -> Q () s') : wpAny (model X.prog X.w) A (setAttr (.ref a) f u) Q E s := by
 obtain ⟨mA, O, r, wi, _, ho⟩ := qV I.hok e
 have hz : (fs.map (·.1)).length <= sizeLine := by rw [List.length_map, sizeLine_eq]; omega
 refine set_map I.kIn O c.sa c.po n.taker c.hd wi hz fun h' O' sb => h _ ?_
 have hd : ∃ o, h'.get? dx = some o := let ⟨o, _, _, e', _⟩ := O'.ns; ⟨o, e'⟩
 refine I.write (x := a) (e := dx) (by rw [e]; exact True.intro) (.inr ho) (fun b q hb z => (sb.2 b hb).trans z) hd ?_
 refine ⟨by rw [zF O.ne]; exact ho, ?_, O.ne, O'.obj, _, O'.ns, fun g => ?_, fun g hg => ?_⟩
 · have := qM f y fs; omega
 · show RelO ((yM f y fs).lookup g) (if g = f then some u else mA g)
   rw [qL]
   by_cases q : g = f
   · rw [if_pos q, if_pos q]; exact ry
   · rw [if_neg q, if_neg q]; exact r g
 · by_cases q : g = f
   · rw [q]; exact (qI f y fs).1
   · refine (qI f y fs).2 g (wi g fun z => hg ?_)
     show (if g = f then some u else mA g) = none
     rw [if_neg q]; exact z
theorem Inv.made (I : Inv X pins σ H s) : Inv X pins σ (upd (upd H s.heap.objs.size (.own (s.heap.objs.size + 1))) (s.heap.objs.size + 1) (.ins C s.heap.objs.size []))
   { s with heap := (s.heap.push PySem.W.emptyDict).push (PySem.W.instObj C s.heap.objs.size) } := by
 have e1 : (s.heap.push PySem.W.emptyDict).get? s.heap.objs.size = some PySem.W.emptyDict := Heap.get?_push_size s.heap rfl
 have e2 : ((s.heap.push PySem.W.emptyDict).push (PySem.W.instObj C s.heap.objs.size)).get? (s.heap.objs.size + 1) = some (PySem.W.instObj C s.heap.objs.size) := by
   have := Heap.get?_push_size (s.heap.push PySem.W.emptyDict) (o := PySem.W.instObj C s.heap.objs.size) rfl
   rwa [Heap.size_push] at this
 have e3 : (s.heap.push PySem.W.emptyDict).Ns s.heap.objs.size (fun _ => none) := ⟨PySem.W.emptyDict, #[], _, e1, rfl, (fun e he => absurd he (by simp)), fun _ => rfl⟩
 have I1 := I.laid (a := s.heap.objs.size) (o := .own (s.heap.objs.size + 1)) (h' := s.heap.push PySem.W.emptyDict) (t' := s.toks) (fun b u q => Heap.get?_push_of_some _ q) (Nat.le_refl _) ⟨_, e1⟩
 refine I1.laid (a := s.heap.objs.size + 1) (o := .ins C s.heap.objs.size []) (t' := s.toks) (fun b u q => Heap.get?_push_of_some _ q) (Nat.le_of_eq (Heap.size_push _ _)) ?_
 have ne : s.heap.objs.size ≠ s.heap.objs.size + 1 := Nat.ne_of_lt (Nat.lt_succ_self _)
 refine ⟨by rw [zF ne, zB], Nat.zero_le _, ne, e2, fun _ => none, (Heap.Ns1.of_empty e3).at fun o q => Heap.get?_push_of_some _ q, fun _ => True.intro, fun y hy => absurd rfl hy⟩
theorem attr_of {prog : Program} {w : World} {env : Env} {e : Expr} {f : Str} {pos : Pos} {s : Shared} {Q : Value -> Shared -> Prop} (hb : attributeBase e f env (eval e env) = eval e env)
   (h : wpAny (model prog w) A (eval e env) (fun o s₁ => wpAny (model prog w) A (getAttr o f true) Q E s₁) E s) : wpAny (model prog w) A (eval (.Attribute e f pos) env) Q E s :=
 Attribute_any_ h (by rw [arm_eval_Attribute, hb])
end
def jX (K : PySem.W.Frag) (ta : TE) (f : Str) : TE := fun σ H Q => ta σ H fun x H1 => ∃ a C dx fs v, x = .ref a /\ H1 a = some (.ins C dx fs) /\ Cls K C /\ NoAttr K C f /\ fs.lookup f = some v /\ Q v H1
def sFld (K : PySem.W.Frag) (ta tv : TE) (f : Str) : TS := fun D σ H => tv σ H fun y H1 => ta σ H1 fun x H2 => ∃ a C dx fs, x = .ref a /\ H2 a = some (.ins C dx fs) /\ Cls K C /\ NoAttr K C f /\ fs.length < 1000 /\
 D.nx σ (upd H2 a (.ins C dx (yM f y fs)))
section
variable {X : Cx} {o e value : Expr} {f : Str} {pos pos' tpos : Pos} {ta tv : TE}
theorem yO (he : PE X e ta) (hb : attributeBase e f X.env (eval e X.env) = eval e X.env) : PE X (.Attribute e f pos) (jX X.K ta f) := by
 intro pins s σ H Q I h
 refine attr_of hb (thn (he pins s σ H _ I h) fun u s1 ⟨x, H1, I1, rx, a, C, dx, fs, v, ex, ea, c, n, l, q⟩ => ?_)
 subst ex
 obtain rfl : u = Value.ref a := rx
 exact getattr_ok I1 ea c n l fun u' s2 I2 ru => ⟨v, H1, I2, ru, q⟩
theorem vV (ha : PE X o ta) (hv : PE X value tv) (hs : swapsWith value (some (.Attribute o f pos')) pos.line X.env = pure false) : PS X (.Assign [.Attribute o f pos'] value pos) (sFld X.K ta tv f) := by
 intro pins s σ H D I h
 refine plainObj_wpAny_Assign_Attribute (thn (hv pins s σ H _ I h) fun u s1 ⟨y, H1, I1, ry, q⟩ => thn (ha pins s1 σ H1 _ I1 q) fun ov s2 ⟨x, H2, I2, rx, a, C, dx, fs, ex, ea, c, n, l, q2⟩ => ?_) hs
 subst ex
 obtain rfl : ov = Value.ref a := rx
 exact setattr_ok I2 ea c n l ry fun s3 I3 => ⟨σ, _, I3, q2⟩
end
section
variable {X : Cx} {pins : List (Addr × Obj)} {σ : St} {H : Hp} {s : Shared} {A : Around} {E : Value -> Shared -> Prop} {Q : Value -> Shared -> Prop} {c : Value} {b : Bool}
inductive TyOf (K : PySem.W.Frag) (H : Hp) : V -> Value -> Prop where
 | non : TyOf K H .non (.type "NoneType")
 | bl (x : Bool) : TyOf K H (.bl x) (.type "bool")
 | int (i : Int) : TyOf K H (.int i) (.type "int")
 | str (x : Str) : TyOf K H (.str x) (.type "str")
 | flt (x : UInt64) : TyOf K H (.flt x) (.type "float")
 | lst {a : Addr} {xs : List V} (e : H a = some (.lst xs)) : TyOf K H (.ref a) (.type "list")
 | frz {a : Addr} {o : Obj} {xs : List V} (e : H a = some (.frz o (.lst xs))) : TyOf K H (.ref a) (.type "list")
 | tup {a : Addr} {xs : List V} (e : H a = some (.tup xs)) : TyOf K H (.ref a) (.type "tuple")
 | dK {a : Addr} {kvs : List (Key × V)} (e : H a = some (.dK kvs)) : TyOf K H (.ref a) (.type "dict")
 | dT {a : Addr} {kvs : List (List Key × V)} (e : H a = some (.dT kvs)) : TyOf K H (.ref a) (.type "dict")
 | ins {a C dx : Addr} {fs : List (Str × V)} (e : H a = some (.ins C dx fs)) (cl : Cls K C) (ha : PySem.W.findIn K (.ref C) "__class__" = some (some (.builtin "object.__class__")))
     (hn : PySem.W.specialIn K (.builtin "object.__class__") "__get__" = some (some (.builtin "getset_descriptor.__get__"))) (htk : PySem.W.takesIn K (.builtin "object.__class__") = some true)
     (hm : PySem.W.mroIn K C (.type "object") = some true) : TyOf K H (.ref a) (.ref C)
theorem isinst_ok {x : V} {u t : Value} (I : Inv X pins σ H s) (rx : RelV x u) (ty : TyOf X.K H x t) (e : PySem.W.kitOne X.K t c = some b) (h : ∀ tk, Q (.bool b) { s with toks := tk }) :
   wpAny (model X.prog X.w) A (call (.builtin "isinstance") [u, c]) Q E s := by
 cases ty with
 | non => cases (show u = Value.none from rx); exact PySem.W.kia_one PySem.W.kitx_none I.kIn True.intro e (fun z => nomatch z) h
 | bl y => cases (show u = Value.bool y from rx); exact PySem.W.kia_one PySem.W.kitx_bool I.kIn True.intro e (fun z => nomatch z) h
 | int i => obtain ⟨t, q⟩ := (show ∃ t, u = Value.int i t from rx); cases q; exact PySem.W.kia_one PySem.W.kitx_int I.kIn True.intro e (fun z => nomatch z) h
 | str y => obtain ⟨t, q⟩ := (show ∃ t, u = Value.str y t from rx); cases q; exact PySem.W.kia_one PySem.W.kitx_str I.kIn True.intro e (fun z => nomatch z) h
 | flt y => obtain ⟨t, q⟩ := (show ∃ t, u = Value.float y t from rx); cases q; exact PySem.W.kia_one PySem.W.kitx_float I.kIn True.intro e (fun z => nomatch z) h
 | @lst a xs ea =>
   cases (show u = Value.ref a from rx)
   obtain ⟨_, _, n, _, h1⟩ := (show ObjOk X.prog X.w H s.heap a (.lst xs) from I.hok a _ ea)
   exact PySem.W.kia_one PySem.W.kitx_list I.kIn ⟨_, h1, rfl⟩ e (fun z => nomatch z) h
 | @frz a ob xs ea =>
   cases (show u = Value.ref a from rx)
   obtain ⟨_, _, _, n, _, h1⟩ := (show ObjOk X.prog X.w H s.heap a (.frz ob (.lst xs)) from I.hok a _ ea)
   exact PySem.W.kia_one PySem.W.kitx_list I.kIn ⟨_, h1, rfl⟩ e (fun z => nomatch z) h
 | @tup a xs ea =>
   cases (show u = Value.ref a from rx)
   obtain ⟨_, _, _, p⟩ := (show ObjOk X.prog X.w H s.heap a (.tup xs) from I.hok a _ ea)
   obtain ⟨o, h1, h2, _⟩ := p
   exact PySem.W.kia_one PySem.W.kitx_tuple I.kIn ⟨o, h1, h2⟩ e (fun z => nomatch z) h
 | @dK a kvs ea =>
   cases (show u = Value.ref a from rx)
   obtain ⟨_, _, vs, _, p⟩ := (show ObjOk X.prog X.w H s.heap a (.dK kvs) from I.hok a _ ea)
   obtain ⟨o, es, ep, h1, h2, _⟩ := p
   exact PySem.W.kia_one PySem.W.kitx_dict I.kIn ⟨o, h1, h2.1⟩ e (fun z => nomatch z) h
 | @dT a kvs ea =>
   cases (show u = Value.ref a from rx)
   obtain ⟨_, _, xs, _, o, es, ep, h1, h2, _⟩ := (show ObjOk X.prog X.w H s.heap a (.dT kvs) from I.hok a _ ea)
   exact PySem.W.kia_one PySem.W.kitx_dict I.kIn ⟨o, h1, h2.1⟩ e (fun z => nomatch z) h
 | @ins a C dx fs ea cl ha hn htk hm =>
   cases (show u = Value.ref a from rx)
   obtain ⟨mA, O, _⟩ := qV I.hok ea
   obtain ⟨od, J, _⟩ := O.look
   exact PySem.W.kia_one (PySem.W.kitx_own (cl.get _) cl.hd ha hn htk hm) I.kIn J e (fun z => nomatch z) h
end
structure Room (k : Nat) (A : Around) : Prop where
 hd : A.handled = none
 dp : A.depth + 3 * k + 5 < recursionLimit
 un : A.units + 16 * k + 200 < cLine
theorem Room.mono {j k : Nat} {A : Around} (r : Room k A) (h : j <= k) : Room j A := ⟨r.hd, by have := r.dp; omega, by have := r.un; omega⟩
theorem Room.deeper {k : Nat} {A : Around} (r : Room (k + 1) A) (env : Env) : Room k (A.deeper env) :=
 ⟨r.hd, by have := r.dp; show A.depth + 1 + 3 * k + 5 < _; omega, by have := r.un; show A.units + 3 + 16 * k + 200 < _; omega⟩
theorem make_depth {A : Around} {C : Addr} {us : List Value} {kw : List (Str × Value)} : (A.under (.builtin "type.__call__" ⟨.ref C :: us, kw⟩)).depth = A.depth + 1 := by
 first | rfl | simp [Around.under, Code.weight, Code.isCreation, Code.isGuard, Code.isCaller, Code.frames, Code.isFrame, guardIds]
theorem make_units {A : Around} {C : Addr} {us : List Value} {kw : List (Str × Value)} : (A.under (.builtin "type.__call__" ⟨.ref C :: us, kw⟩)).units = A.units + 1 := by
 first | rfl | simp [Around.under, Code.cUnits, Code.frames, Code.isFrame]
theorem Room.make {k : Nat} {A : Around} (r : Room (k + 1) A) (C : Addr) (us : List Value) (kw : List (Str × Value)) : Room k (A.under (.builtin "type.__call__" ⟨.ref C :: us, kw⟩)) :=
 ⟨r.hd, by have := r.dp; rw [make_depth]; omega, by have := r.un; rw [make_units]; omega⟩
theorem Room.depth {k : Nat} {A : Around} (r : Room k A) : A.depth < recursionLimit := by have := r.dp; omega
theorem Room.units {k : Nat} {A : Around} (r : Room k A) : A.units + 64 < cLine := by have := r.un; omega
def tNil : TA := fun _ H Q => Q [] H
def tCons (ta : TE) (tr : TA) : TA := fun σ H Q => ta σ H fun x H1 => tr σ H1 fun xs H2 => Q (x :: xs) H2
section
variable {X : Cx} {e : Expr} {es : List Expr} {te : TE} {t : TA} {pos : Pos}
theorem pa_nil : PA X [] tNil := fun _ _ _ _ H Q I h => Calls.spliced_nil ⟨[], H, I, .nil, h⟩
theorem zA (ha : PE X e te) (hr : PA X es t) (hs : starEach (e :: es) X.env = (false, eval e X.env) :: starEach es X.env := by rfl) : PA X (e :: es) (tCons te t) := by
 intro pos pins s σ H Q I h
 rw [hs]
 show wpAny _ _ (spliced ((false, eval e X.env) :: backTo pos (starEach es X.env))) _ _ s
 refine Calls.spliced_cons (thn (ha pins s σ H _ I h) fun u s1 ⟨x, H1, I1, r1, q1⟩ => ?_)
 exact thn (hr pos pins s1 σ H1 _ I1 q1) fun us s2 ⟨xs, H2, I2, r2, q2⟩ => ⟨x :: xs, H2, I2, .cons r1 r2, q2⟩
def tTup (t : TA) : TE := fun σ H Q => t σ H fun xs H1 => xs.length <= sizeLine /\ ∀ p, H1 p = none -> Q (.ref p) (upd H1 p (.tup xs))
def tLst (t : TA) : TE := fun σ H Q => t σ H fun xs H1 => xs.length <= sizeLine /\ ∀ p, H1 p = none -> Q (.ref p) (upd H1 p (.lst xs))
theorem zX {x1} (h : PA X es t) : PE X (.Tuple es x1 pos) (tTup t) := by
 intro pins s σ H Q I hq
 refine wpAny_Tuple_spliced (thn (h pos pins s σ H _ I hq) fun us s1 ⟨xs, H1, I1, r, z, q⟩ => ⟨by rw [← r.length]; exact z, ?_⟩)
 have hf : H1 s1.heap.objs.size = none := I1.hok.fresh (Nat.le_refl _)
 refine ⟨.ref s1.heap.objs.size, upd H1 s1.heap.objs.size (.tup xs), I1.laid (t' := s1.toks) (fun b u e => Heap.get?_push_of_some _ e) (Nat.le_refl _) ?_, rfl, q _ hf⟩
 exact ⟨z, us, r, ⟨_, Heap.get?_push_size _ rfl, rfl, _, rfl⟩⟩
theorem yV (h : PA X es t) : PE X (.List es pos) (tLst t) := by
 intro pins s σ H Q I hq
 refine wpAny_List_spliced (thn (h pos pins s σ H _ I hq) fun us s1 ⟨xs, H1, I1, r, z, q⟩ => ⟨by rw [← r.length]; exact z, ?_⟩)
 have hf : H1 s1.heap.objs.size = none := I1.hok.fresh (Nat.le_refl _)
 refine ⟨.ref s1.heap.objs.size, upd H1 s1.heap.objs.size (.lst xs), I1.laid (t' := s1.toks) (fun b u e => Heap.get?_push_of_some _ e) (Nat.le_refl _) ?_, rfl, q _ hf⟩
 exact ⟨z, us, 0, r, Heap.get?_push_size _ rfl⟩
end
abbrev Sp := List V -> Hp -> VK -> XK -> Prop
abbrev CXT := List Env -> Hp -> Shared -> XK -> Value -> Shared -> Prop
structure Env0 (P : Program) (w : World) (K : PySem.W.Frag) (mg : Str -> Option Value) (base : Heap) (A : Around) (outer : List Env) (s : Shared) (H : Hp) : Prop where
 frames : A.frames = some outer
 mod : Mod K mg base
 bs : ∀ b o, base.get? b = some o -> s.heap.get? b = some o /\ H b = none
 bsz : base.objs.size <= s.heap.objs.size
 funs : s.heap.FunFrames base outer
 frf : ∀ b ∈ frs outer, H b = none
 hok : HOk P w H s.heap
 bare : AllBare s.gens
def CE (outer : List Env) (P : Program) (w : World) (H : Hp) (s : Shared) (Q : VK) (u : Value) (s' : Shared) : Prop :=
 ∃ v H', s'.os = s.os /\ AllBare s'.gens /\ Un (frs outer) [] H H' s.heap s'.heap /\ HOk P w H' s'.heap /\ RelV v u /\ Q v H'
def CR (CX : CXT) (outer : List Env) (P : Program) (w : World) (H : Hp) (s : Shared) (Q : VK) (E : XK) (r : Result) (s' : Shared) : Prop :=
 match r with
 | .ok (.ret u) => CE outer P w H s Q u s'
 | .ok _ => False
 | .error e => CX outer H s E e s'
structure FnOk (P : Program) (w : World) (K : PySem.W.Frag) (mg : Str -> Option Value) (base : Heap) (CX : CXT) (k : Nat) (f : Addr) (fd : FuncData) (ps : List Str) (sp : Sp) : Prop where
 len : ∀ vs H Q E, sp vs H Q E -> vs.length = ps.length
 run : ∀ (A : Around) (outer : List Env) (s : Shared) (H : Hp) (args : Args) (us : List Value) (vs : List V) (Q : VK) (E : XK), Room k A -> Env0 P w K mg base A outer s H -> BindsTo s fd args (ps.zip us) -> Vals vs us -> sp vs H Q E ->
   codeAny (model P w) A (.call (.ref f) args) (CR CX outer P w H s Q E) s
theorem Env0.make {P : Program} {w : World} {K : PySem.W.Frag} {mg : Str -> Option Value} {base : Heap} {A : Around} {outer : List Env} {s : Shared} {H : Hp} (e : Env0 P w K mg base A outer s H) (C : Addr) (us : List Value) (kw : List (Str × Value)) :
   Env0 P w K mg base (A.under (.builtin "type.__call__" ⟨.ref C :: us, kw⟩)) outer s H := ⟨by first | exact e.frames | (simpa [Around.under, Code.envs, Code.isFrame, pushEnvs] using e.frames), e.mod, e.bs, e.bsz, e.funs, e.frf, e.hok, e.bare⟩
section
variable {X : Cx} {pins : List (Addr × Obj)} {σ : St} {H : Hp} {s s' : Shared}
theorem Inv.env0 (I : Inv X pins σ H s) : Env0 X.prog X.w X.K X.mg X.base X.A X.stack s H :=
 ⟨I.ok.frames, I.ok.mod, I.bs, Nat.le_trans I.ok.bsz I.sz, I.stack, I.stkFree, I.hok, I.bare⟩
theorem Inv.after {Q : VK} {u : Value} (I : Inv X pins σ H s) (h : CE X.stack X.prog X.w H s Q u s') : EP X pins σ Q u s' := by
 obtain ⟨v, H', os, bare, un, hok, r, q⟩ := h
 obtain ⟨hh, g, d, t, os'⟩ := s'
 obtain rfl : os' = s.os := os
 exact ⟨v, H', I.call (h' := hh) (g' := g) (d' := d) (t' := t) (ch := []) un hok bare (fun b z => absurd z (by simp)), r, q⟩
end
def tCall (sp : Sp) (dvs : List V) (E : XK) (t : TA) : TE := fun σ H Q => t σ H fun vs H1 => sp (vs ++ dvs) H1 Q E
def yX (C : Addr) (m : Str) (sp : Sp) (dvs : List V) (E : XK) (ta : TE) (t : TA) : TE := fun σ H Q => ta σ H fun x H1 => ∃ a dx fs, x = .ref a /\ H1 a = some (.ins C dx fs) /\ fs.lookup m = none /\
 t σ H1 fun vs H2 => sp (x :: (vs ++ dvs)) H2 Q E
def tMake (C : Addr) (sp : Sp) (dvs : List V) (E : XK) (t : TA) : TE := fun σ H Q => t σ H fun vs H1 => ∀ x dx, H1 x = none -> H1 dx = none -> dx ≠ x ->
 sp (.ref x :: (vs ++ dvs)) (upd (upd H1 dx (.own x)) x (.ins C dx [])) (fun v H2 => v = .non /\ Q (.ref x) H2) E
def Binds (K : PySem.W.Frag) (fd : FuncData) (ps : List Str) (ds : List Value) : Prop :=
 ∀ (s : Shared) (us : List Value), K.In s.heap -> (us ++ ds).length = ps.length -> BindsTo s fd ⟨us, []⟩ (ps.zip (us ++ ds))
theorem Binds.all {K : PySem.W.Frag} {fd : FuncData} {ps : List Str} (h : ∀ us : List Value, us.length = ps.length -> bindArgs fd ⟨us, []⟩ = pure (ps.zip us)) : Binds K fd ps [] := fun s us _ hl => by
 rw [List.append_nil] at hl ⊢
 exact .of_eq (h us hl)
def qK (CX : CXT) (X : Cx) (E : XK) : Prop := ∀ (pins : List (Addr × Obj)) (σ : St) (H : Hp) (s : Shared) (e : Value) (s' : Shared), Inv X pins σ H s -> CX X.stack H s E e s' -> X.xe e s'
section
variable {X : Cx} {CX : CXT} {k : Nat} {f C : Addr} {fd : FuncData} {ps : List Str} {sp : Sp} {dvs : List V} {ds : List Value} {E : XK} {x m : Str} {p pos apos : Pos} {e o : Expr} {es : List Expr} {ta : TE} {t : TA}
theorem run_fn {pins : List (Addr × Obj)} {σ : St} {H : Hp} {s : Shared} {Q : VK} {us : List Value} {vs : List V} (F : FnOk X.prog X.w X.K X.mg X.base CX k f fd ps sp) (hr : Room k X.A) (hb : Binds X.K fd ps ds) (hd : Vals dvs ds) (hx : qK CX X E)
   (I : Inv X pins σ H s) (r : Vals vs us) (h : sp (vs ++ dvs) H Q E) : wpAny (model X.prog X.w) X.A (call (.ref f) us) (EP X pins σ Q) X.xe s := by
 have r2 : Vals (vs ++ dvs) (us ++ ds) := r.append hd
 have hl : (us ++ ds).length = ps.length := by rw [← r2.length]; exact F.len _ _ _ _ h
 refine wpAny_call (codeAny_mono (F.run X.A X.stack s H ⟨us, []⟩ (us ++ ds) (vs ++ dvs) Q E hr I.env0 (hb s us I.kIn hl) r2 h) fun r s' hq => ?_)
 cases r with
 | error e => exact hx pins σ H s e s' I hq
 | ok fl =>
   cases fl with
   | ret u => exact I.after hq
   | next => exact False.elim hq
   | brk => exact False.elim hq
   | cont => exact False.elim hq
theorem pe_call (F : FnOk X.prog X.w X.K X.mg X.base CX k f fd ps sp) (hr : Room k X.A) (hg : Gl X x) (hm : X.mg x = some (.ref f)) (hk : PySem.W.keepIn X.K (.ref f) = true) (hb : Binds X.K fd ps ds) (hd : Vals dvs ds) (hx : qK CX X E)
   (ha : PA X (e :: es) t) (hdb : (x == ("__debug__" : Str)) = false := by decide) (he : starEach (e :: es) X.env = (false, eval e X.env) :: starEach es X.env := by rfl) (hpl : (backTo pos (starEach es X.env)).any (·.1) = false := by rfl) :
   PE X (.Call (.Name x p) (e :: es) [] pos) (tCall sp dvs E t) := by
 intro pins s σ H Q I h
 refine wpAny_Call_Name_kw (ld_glob I hg hm ?_ hdb)
 refine PySem.W.callWith_K (h₀ := X.base) I.ok.mod.kin hk (thn (ha pos pins s σ H _ I h) fun us s1 ⟨vs, H1, I1, r, q⟩ => ⟨I1.kIn, ?_⟩) he hpl
 exact run_fn F hr hb hd hx I1 r q
theorem pe_meth {pl : Sem Bool} (he : PE X o ta) (c : Cls X.K C) (hm : Meth X.K C m f) (F : FnOk X.prog X.w X.K X.mg X.base CX k f fd ps sp) (hr : Room k X.A) (hb : Binds X.K fd ps ds) (hd : Vals dvs ds) (hx : qK CX X E) (ha : PA X (e :: es) t)
   (hst : starEach (e :: es) X.env = (false, eval e X.env) :: starEach es X.env := by rfl) (hpl : (backTo pos (starEach es X.env)).any (·.1) = false := by rfl)
   (ht : eval (.Call (.Attribute o m apos) (e :: es) [] pos) X.env = (do
     let ov ← eval o X.env
     standAt apos.atName
     let (f, first) ← holding [ov] (getMethod ov m pl)
     callWith pos f first (backTo pos (starEach (e :: es) X.env)) (backToKw pos (keywordEach [] X.env))) := by rfl) :
   PE X (.Call (.Attribute o m apos) (e :: es) [] pos) (yX C m sp dvs E ta t) := by
 intro pins s σ H Q I h
 refine PySem.W.methodCall_KW (pl := pl) (thn (he pins s σ H _ I h) fun u s1 ⟨x, H1, I1, rx, a, dx, fs, ex, ea, l, q⟩ => ?_) ht
 subst ex
 obtain rfl : u = Value.ref a := rx
 refine getmeth_ok I1 ea c hm l ?_
 refine PySem.W.callWith_K (first := [.ref a]) (h₀ := X.base) I.ok.mod.kin hm.kp (thn (ha pos pins s1 σ H1 _ I1 q) fun us s2 ⟨vs, H2, I2, r, q2⟩ => ⟨I2.kIn, ?_⟩) hst hpl
 exact run_fn (us := .ref a :: us) (vs := .ref a :: vs) F hr hb hd hx I2 (.cons rfl r) q2
structure Mk (K : PySem.W.Frag) (C f : Addr) : Prop where
 makes : PySem.W.makesIn K C = true
 init : PySem.W.findIn K (.ref C) "__init__" = some (some (.ref f))
 fn : PySem.W.isFn K (.ref f) = true
 kp : PySem.W.keepIn K (.ref C) = true
theorem run_make {pins : List (Addr × Obj)} {σ : St} {H : Hp} {s : Shared} {Q : VK} {us : List Value} {vs : List V} (M : Mk X.K C f) (F : FnOk X.prog X.w X.K X.mg X.base CX k f fd ps sp) (hr : Room (k + 1) X.A) (hb : Binds X.K fd ps ds) (hd : Vals dvs ds)
   (hx : qK CX X E) (I : Inv X pins σ H s) (r : Vals vs us)
   (h : ∀ x dx, H x = none -> H dx = none -> dx ≠ x -> sp (.ref x :: (vs ++ dvs)) (upd (upd H dx (.own x)) x (.ins C dx [])) (fun v H2 => v = .non /\ Q (.ref x) H2) E) :
   wpAny (model X.prog X.w) X.A (call (.ref C) us) (EP X pins σ Q) X.xe s := by
 have hq := h (s.heap.objs.size + 1) s.heap.objs.size (I.hok.fresh (Nat.le_succ _)) (I.hok.fresh (Nat.le_refl _)) (Nat.ne_of_lt (Nat.lt_succ_self _))
 have I2 := Inv.made (C := C) I
 have r2 : Vals (V.ref (s.heap.objs.size + 1) :: (vs ++ dvs)) (Value.ref (s.heap.objs.size + 1) :: (us ++ ds)) := .cons rfl (r.append hd)
 have hl : (Value.ref (s.heap.objs.size + 1) :: us ++ ds).length = ps.length := by
   have e := r2.length
   rw [F.len _ _ _ _ hq] at e
   exact e.symm
 refine wpAny_call (make_map (f := f) I.kIn M.makes M.init (beq_iff_eq.mp M.fn) (codeAny_mono (F.run _ X.stack _ _ ⟨Value.ref (s.heap.objs.size + 1) :: us, []⟩ (Value.ref (s.heap.objs.size + 1) :: (us ++ ds)) _ _ E (hr.make C us [])
   (I2.env0.make C us []) (hb _ (Value.ref (s.heap.objs.size + 1) :: us) I2.kIn hl) r2 hq) fun r s' hq' => ?_))
 cases r with
 | error e => exact hx pins σ _ _ e s' I2 hq'
 | ok fl =>
   cases fl with
   | ret u =>
     obtain ⟨v, H', I3, rv, ev, q3⟩ := I2.after hq'
     subst ev
     exact ⟨rv, ⟨V.ref (s.heap.objs.size + 1), H', I3, rfl, q3⟩⟩
   | next => exact False.elim hq'
   | brk => exact False.elim hq'
   | cont => exact False.elim hq'
theorem pe_make (M : Mk X.K C f) (F : FnOk X.prog X.w X.K X.mg X.base CX k f fd ps sp) (hr : Room (k + 1) X.A) (hg : Gl X x) (hm : X.mg x = some (.ref C)) (hb : Binds X.K fd ps ds) (hd : Vals dvs ds) (hx : qK CX X E)
   (ha : PA X (e :: es) t) (hdb : (x == ("__debug__" : Str)) = false := by decide) (he : starEach (e :: es) X.env = (false, eval e X.env) :: starEach es X.env := by rfl) (hpl : (backTo pos (starEach es X.env)).any (·.1) = false := by rfl) :
   PE X (.Call (.Name x p) (e :: es) [] pos) (tMake C sp dvs E t) := by
 intro pins s σ H Q I h
 refine wpAny_Call_Name_kw (ld_glob I hg hm ?_ hdb)
 refine PySem.W.callWith_K (h₀ := X.base) I.ok.mod.kin M.kp (thn (ha pos pins s σ H _ I h) fun us s1 ⟨vs, H1, I1, r, q⟩ => ⟨I1.kIn, ?_⟩) he hpl
 exact run_make M F hr hb hd hx I1 r q
end
section
variable {X : Cx} {CX : CXT} {k : Nat} {f C : Addr} {fd : FuncData} {ps ks : List Str} {sp : Sp} {E : XK} {x m : Str} {p pos apos kpos : Pos} {e o : Expr} {es : List Expr} {kws : List Keyword} {te ta : TE} {t tk : TA} {nm : Option Str}
structure KBinds (K : PySem.W.Frag) (fd : FuncData) (ps ks : List Str) (g : List Value -> List Value -> List Value) (gV : List V -> List V -> List V) : Prop where
 to : ∀ (s : Shared) (us ws : List Value), K.In s.heap -> (g us ws).length = ps.length -> BindsTo s fd ⟨us, ks.zip ws⟩ (ps.zip (g us ws))
 rel : ∀ {vs : List V} {us : List Value} {zs : List V} {ws : List Value}, Vals vs us -> Vals zs ws -> Vals (gV vs zs) (g us ws)
variable {g : List Value -> List Value -> List Value} {gV : List V -> List V -> List V}
end
structure FnScope (N P : List Str) (sc : Scope) : Prop where
 kind : sc.kind = .function
 co : sc.isCoroutine = false
 gen : sc.isGenerator = false
 nd : N.Nodup
 pre : N.take P.length = P
 par : ∀ x ∈ P, sc.names.lookup x = some .local \/ sc.names.lookup x = some .cell
 nofree : ∀ y ∈ sc.names, y.2 ≠ .free
theorem vI {kindOf : Str -> Option NameKind} {x : Str} : ∀ {binds : List (Str × Value)} {m : Str -> Option Value}, (∀ v, (x, v) ∉ binds) -> bindL kindOf binds m x = m x
 | [], _, _ => rfl
 | (n, v) :: r, m, h => by
   unfold bindL
   rw [vI fun w hw => h w (List.mem_cons_of_mem _ hw)]
   split
   · have : x ≠ n := by rintro rfl; exact h v List.mem_cons_self
     simp [this]
   · rfl
theorem vK {kindOf : Str -> Option NameKind} {x : Str} : ∀ {binds : List (Str × Value)} {m : Str -> Option Value}, (∀ v, (x, v) ∉ binds) -> bindC kindOf binds m x = m x
 | [], _, _ => rfl
 | (n, v) :: r, m, h => by
   unfold bindC
   rw [vK fun w hw => h w (List.mem_cons_of_mem _ hw)]
   split
   · rfl
   · have : x ≠ n := by rintro rfl; exact h v List.mem_cons_self
     simp [this]
theorem vJ {kindOf : Str -> Option NameKind} {x : Str} {v : Value} : ∀ {P : List Str} {vs : List Value} {i : Nat} {m : Str -> Option Value}, P.Nodup -> P[i]? = some x -> vs[i]? = some v -> kindOf x = some .local ->
   bindL kindOf (P.zip vs) m x = some v
 | [], _, _, _, _, h, _, _ => by simp at h
 | _ :: _, [], _, _, _, _, h, _ => by simp at h
 | p :: P, w :: vs, 0, m, nd, h1, h2, hk => by
   simp at h1 h2; subst h1; subst h2
   show bindL kindOf ((p, w) :: P.zip vs) m p = _
   unfold bindL
   rw [vI fun v hv => (List.nodup_cons.mp nd).1 (List.of_mem_zip hv).1, if_pos hk]
   simp
 | p :: P, w :: vs, i + 1, m, nd, h1, h2, hk => by
   show bindL kindOf ((p, w) :: P.zip vs) m x = _
   unfold bindL
   exact vJ (i := i) (List.nodup_cons.mp nd).2 (by simpa using h1) (by simpa using h2) hk
theorem vL {kindOf : Str -> Option NameKind} {x : Str} {v : Value} : ∀ {P : List Str} {vs : List Value} {i : Nat} {m : Str -> Option Value}, P.Nodup -> P[i]? = some x -> vs[i]? = some v -> kindOf x ≠ some .local ->
   bindC kindOf (P.zip vs) m x = some v
 | [], _, _, _, _, h, _, _ => by simp at h
 | _ :: _, [], _, _, _, _, h, _ => by simp at h
 | p :: P, w :: vs, 0, m, nd, h1, h2, hk => by
   simp at h1 h2; subst h1; subst h2
   show bindC kindOf ((p, w) :: P.zip vs) m p = _
   unfold bindC
   rw [vK fun v hv => (List.nodup_cons.mp nd).1 (List.of_mem_zip hv).1, if_neg hk]
   simp
 | p :: P, w :: vs, i + 1, m, nd, h1, h2, hk => by
   show bindC kindOf ((p, w) :: P.zip vs) m x = _
   unfold bindC
   exact vL (i := i) (List.nodup_cons.mp nd).2 (by simpa using h1) (by simpa using h2) hk
def start (N : List Str) (vs : List V) : St := vs.map some ++ List.replicate (N.length - vs.length) none
def uQ (CX : CXT) (P : Program) (w : World) (K : PySem.W.Frag) (mg : Str -> Option Value) (base : Heap) (N : List Str) (qual : Str) (scope : Scope) (f : Addr) (cd : Value) (A : Around) (outer : List Env) (s : Shared) (H : Hp) (E : XK) : Cx where
 prog := P
 w := w
 K := K
 mg := mg
 base := base
 A := A.deeper (envOfC qual scope s.heap.objs.size f cd)
 N := N
 s₀ := s
 H₀ := H
 env := envOfC qual scope s.heap.objs.size f cd
 outer := outer
 stack := envOfC qual scope s.heap.objs.size f cd :: outer
 ex := []
 calm := true
 fn := fun _ => true
 pn := []
 xe := fun e s' => wpAny (model P w) (A.deeper (envOfC qual scope s.heap.objs.size f cd)) (leaving (envOfC qual scope s.heap.objs.size f cd) e) (fun _ s'' => CX outer H s E e s'') (fun e' s'' => CX outer H s E e' s'') s'
theorem cell_has {sc : Scope} {n : Nat} {x : Str} (h : sc.names.lookup x = some .cell) : ∃ c, (cellsFrom n sc.names []).lookup x = some c := by
 have q := PySem.W.cellsFrom_some sc.names n [] (.inl h)
 exact Option.isSome_iff_exists.mp q
theorem inv_start {CX : CXT} {P : Program} {w : World} {K : PySem.W.Frag} {mg : Str -> Option Value} {base : Heap} {N ps : List Str} {qual : Str} {scope : Scope} {f : Addr} {cd : Value} {A : Around} {outer : List Env} {s s1 : Shared} {H : Hp} {E : XK} {us : List Value} {vs : List V}
   (S : FnScope N ps scope) (hd : A.handled = none) (e0 : Env0 P w K mg base A outer s H) (hl : vs.length = ps.length) (r : Vals vs us)
   (x : InCallC s s.heap.objs.size (bindL (envOfC qual scope s.heap.objs.size f cd).kindOf (ps.zip us) fun _ => none) (cellsFrom (s.heap.objs.size + 1) scope.names []) (bindC (envOfC qual scope s.heap.objs.size f cd).kindOf (ps.zip us) fun _ => none) s1) :
   Inv (uQ CX P w K mg base N qual scope f cd A outer s H E) [] (start N vs) H s1 := by
 have hpl : ps.length <= N.length := by have := congrArg List.length S.pre; rw [List.length_take] at this; omega
 obtain ⟨h1, tk, rfl, hk⟩ := x.done
 have noA : ∀ b : Addr, b ∉ (uQ CX P w K mg base N qual scope f cd A outer s H E).ex := fun b z => absurd (show b ∈ ([] : List Addr) from z) (by simp)
 refine ⟨⟨e0.mod, S.kind, rfl, rfl, Nat.le_refl _, fun y z c h1 h2 => ?_, fun y hy => ?_, fun y c _ h => ?_, fun _ => hd, Around.frames_deeper e0.frames, .inr ⟨rfl, rfl⟩, fun b z => absurd z (noA b), e0.bs, e0.bsz, fun b _ _ => noA b, fun b z => absurd z (noA b), e0.funs, e0.frf⟩,
   rfl, e0.bare, Un.kept hk, ⟨_, x.toInCall.ns, fun i y v h1 h2 h3 => ?_⟩, fun y c h => ⟨_, x.cell y c h⟩, e0.hok.fresh (Nat.le_refl _), fun y c h => ?_, fun p hp => absurd (show p ∈ ([] : List (Addr × Obj)) from hp) (by simp), e0.hok.kept hk, ?_⟩
 · exact name_of_addr x.apart (PySem.mem_of_lookup h1) (PySem.mem_of_lookup h2)
 · have hy : scope.names.lookup y = some .cell \/ scope.names.lookup y = some .free := hy
   rcases hy with hy | hy
   · exact cell_has hy
   · exact absurd rfl (S.nofree _ (PySem.mem_of_lookup hy))
 · exact Nat.le_of_lt (x.above y c (PySem.mem_of_lookup h))
 · have hi : i < vs.length := by
     unfold start at h2
     by_cases hi : i < vs.length
     · exact hi
     · rw [List.getElem?_append_right (by simpa using hi)] at h2
       rw [List.getElem?_replicate] at h2
       split at h2 <;> cases h2
   have ha : vs[i]? = some v := by
     unfold start at h2
     rw [List.getElem?_append_left (by simpa using hi), List.getElem?_map] at h2
     cases e : vs[i]? with
     | none => rw [e] at h2; cases h2
     | some a => rw [e] at h2; cases h2; rfl
   obtain ⟨u, hu, rv⟩ := r.get ha
   have hp : ps[i]? = some y := by
     rw [← S.pre, List.getElem?_take_of_lt (by omega)]; exact h1
   have ndP : ps.Nodup := by rw [← S.pre]; exact S.nd.sublist (List.take_sublist _ _)
   refine ⟨u, rv, ?_⟩
   rcases S.par y (List.mem_of_getElem? hp) with k | k
   · exact .inl ⟨k, vJ ndP hp hu k⟩
   · obtain ⟨c, e⟩ := cell_has (n := s.heap.objs.size + 1) k
     refine .inr ⟨.inl k, c, e, ?_⟩
     have q := x.cell y c e
     rw [vL ndP hp hu (by show scope.names.lookup y ≠ _; rw [k]; decide)] at q
     exact q
 · exact e0.hok.fresh (Nat.le_of_lt (x.above y c (PySem.mem_of_lookup h)))
 · unfold start
   show _ = N.length
   rw [List.length_append, List.length_map, List.length_replicate]
   omega
theorem fn_of {CX : CXT} {P : Program} {w : World} {K : PySem.W.Frag} {mg : Str -> Option Value} {base : Heap} {k : Nat} {f : Addr} {name qual : Str} {params : Arguments} {body : List Stmt} {scope : Scope} {dV kV doc pm cdv ct oc : Value} {an od : Option Addr}
   {osl : Array (Option Value)} {N ps : List Str} {sp : Sp} (lk : K.lookup f = some ⟨oc, od, .func (PySem.W.fnOf name qual params body scope dV kV doc pm an cdv ct), osl⟩) (hcd : PySem.W.codeIn K cdv qual = true) (S : FnScope N ps scope)
   (len : ∀ vs H Q E, sp vs H Q E -> vs.length = ps.length)
   (hbody : ∀ (A : Around) (outer : List Env) (s : Shared) (H : Hp) (vs : List V) (Q : VK) (E : XK), Room k (A.deeper (envOfC qual scope s.heap.objs.size f cdv)) -> sp vs H Q E ->
     ∃ t, PSs (uQ CX P w K mg base N qual scope f cdv A outer s H E) body t /\ t { nx := fun _ H' => Q .non H', rt := Q } (start N vs) H) :
   FnOk P w K mg base CX (k + 1) f (PySem.W.fnOf name qual params body scope dV kV doc pm an cdv ct) ps sp := by
 refine ⟨len, fun A outer s H args us vs Q E hr e0 hb r hsp => ?_⟩
 have hl := len _ _ _ _ hsp
 have KX : K.In s.heap := e0.mod.kin.keeps fun b o e => (e0.bs b o e).1
 have lim : s.heap.NoLimit := e0.mod.nolimit.keeps fun b o e => (e0.bs b o e).1
 have hkind : ∀ y ∈ ps.zip us, scope.names.lookup y.1 = some .local \/ (scope.names.lookup y.1 = some .cell /\ ((cellsFrom (s.heap.objs.size + 1) scope.names []).lookup y.1).isSome = true) := fun ⟨n, v⟩ hy => by
   rcases S.par n (List.of_mem_zip hy).1 with q | q
   · exact .inl q
   · exact .inr ⟨q, PySem.W.cellsFrom_some _ _ _ (.inl q)⟩
 refine codeAny_call_function hr.depth (KX _ _ lk) rfl S.co S.gen rfl (PySem.W.codeRec_of KX hcd) (hb _ _ _ _ ?_)
 refine wpAny_newFunctionEnv_cells S.kind hkind fun env he s1 x => ?_
 subst he
 refine ⟨lim.keeps x.toInCall.keep, codeAny_func ?_⟩
 obtain ⟨t, ht, hq⟩ := hbody A outer s H vs Q E (hr.deeper _) hsp
 have I : Inv (uQ CX P w K mg base N qual scope f cdv A outer s H E) [] (start N vs) H s1 := inv_start S hr.hd e0 hl r x
 refine wpAny_mono (ht [] s1 (start N vs) H _ I hq) (fun fl s' hs => ?_) fun e s' hs => hs
 have fin : ∀ {σ' : St} {H' : Hp} {v : V} {u : Value}, Inv (uQ CX P w K mg base N qual scope f cdv A outer s H E) [] σ' H' s' -> RelV v u -> Q v H' -> CE outer P w H s Q u s' :=
   fun {σ' H' v u} J rv q => ⟨v, H', J.os, J.bare, J.base, J.hok, rv, q⟩
 cases fl with
 | ret u =>
   obtain ⟨v, σ', H', J, rv, q⟩ := hs
   exact fin J rv q
 | next =>
   obtain ⟨σ', H', J, q⟩ := hs
   exact fin (v := V.non) (u := Value.none) J rfl q
 | brk =>
   obtain ⟨_, _, _, q⟩ := hs
   exact False.elim q
 | cont =>
   obtain ⟨_, _, _, q⟩ := hs
   exact False.elim q
section
variable {X : Cx} {x : Str} {p pos : Pos} {e : Expr} {es : List Expr} {t : TA} {id T : String} {r : List V -> Hp -> VK -> Prop}
def tCB (r : List V -> Hp -> VK -> Prop) (t : TA) : TE := fun σ H Q => t σ H fun vs H1 => r vs H1 Q
theorem zP (hc : jR X (.builtin id) r) (hg : Gl X x) (hm : X.mg x = none) (hv : bootBuiltins x = some (.builtin id)) (ha : PA X (e :: es) t) (hn : x ≠ "__name__" := by decide) (hdb : (x == ("__debug__" : Str)) = false := by decide)
   (he : starEach (e :: es) X.env = (false, eval e X.env) :: starEach es X.env := by rfl) (hpl : (backTo pos (starEach es X.env)).any (·.1) = false := by rfl) : PE X (.Call (.Name x p) (e :: es) [] pos) (tCB r t) := by
 intro pins s σ H Q I h
 refine wpAny_Call_Name_kw (jT I hg hm hv ?_ hn hdb)
 exact PyProof.Rows.callWith_builtin1 (thn (ha pos pins s σ H _ I h) fun us s1 ⟨vs, H1, I1, r1, q1⟩ => hc pins s1 σ H1 vs us Q I1 r1 q1) he hpl
theorem qG (hc : jR X (.type T) r) (hg : Gl X x) (hm : X.mg x = none) (hv : bootBuiltins x = some (.type T)) (ha : PA X (e :: es) t) (hn : x ≠ "__name__" := by decide) (hdb : (x == ("__debug__" : Str)) = false := by decide)
   (he : starEach (e :: es) X.env = (false, eval e X.env) :: starEach es X.env := by rfl) (hpl : (backTo pos (starEach es X.env)).any (·.1) = false := by rfl) : PE X (.Call (.Name x p) (e :: es) [] pos) (tCB r t) := by
 intro pins s σ H Q I h
 refine wpAny_Call_Name_kw (jT I hg hm hv ?_ hn hdb)
 exact PyProof.Rows.callWith_type1 (thn (ha pos pins s σ H _ I h) fun us s1 ⟨vs, H1, I1, r1, q1⟩ => hc pins s1 σ H1 vs us Q I1 r1 q1) he hpl
end
end L2
namespace HT
open PySem PyProof.Rows
section
open PySem.SeqAt
open PySem.AutoSeq1 (wpAny_loadPart')
open PySem.MeetsSeq PySem.MeetsSeq2 PySem.MeetsSeq3
end
section
variable {prog : Program} {w : World} {A : Around} {E : Value -> Shared -> Prop} {s : Shared}
def sIx (n d : Nat) : Option Int -> Nat
 | none => d
 | some v => if v < 0 then (v + (n : Int)).toNat else min v.toNat n
theorem sIx_none (n d : Nat) : sIx n d none = d := rfl
theorem sIx_nat (n d k : Nat) : sIx n d (some (k : Int)) = min k n := by
 show (if (k : Int) < 0 then ((k : Int) + (n : Int)).toNat else min (k : Int).toNat n) = min k n
 rw [if_neg (by omega), Int.toNat_natCast]
end
end HT
namespace L2
open PySem PySem.Spec PyProof.Rows
abbrev TO := St -> Hp -> (Option Int -> Hp -> Prop) -> Prop
def PO (X : Cx) (e : Option Expr) (t : TO) : Prop :=
 ∀ (pins : List (Addr × Obj)) (s : Shared) (σ : St) (H : Hp) (Q : Option Int -> Hp -> Prop), Inv X pins σ H s -> t σ H Q ->
   wpAny (model X.prog X.w) X.A (evalPart e X.env) (fun u s' => ∃ o H', Inv X pins σ H' s' /\ IsPart u o /\ Q o H') X.xe s
def tNoPart : TO := fun _ H Q => Q none H
def tPart (t : TE) : TO := fun σ H Q => t σ H fun x H1 => ∃ i, x = .int i /\ Q (some i) H1
section
variable {X : Cx} {e : Expr} {te : TE} {lo hi : Option Expr} {tl th : TO} {pos p2 : Pos}
theorem po_none : PO X none tNoPart := by
 intro pins s σ H Q I h
 rw [evalPart_none]
 exact wpAny_pure ⟨none, H, I, .none, h⟩
theorem jK (h : PE X e te) : PO X (some e) (tPart te) := by
 intro pins s σ H Q I hw
 rw [evalPart_some]
 refine thn (h pins s σ H _ I hw) fun u s1 ⟨x, H1, I1, r1, q1⟩ => ?_
 obtain ⟨i, rfl, q⟩ := q1
 obtain ⟨t, rfl⟩ := r1
 exact ⟨some i, H1, I1, .int i t, q⟩
def SlR (X : Cx) (r : V -> Option Int -> Option Int -> Hp -> VK -> Prop) : Prop :=
 ∀ (pins : List (Addr × Obj)) (s : Shared) (σ : St) (H : Hp) (x : V) (v vl vu : Value) (lo hi : Option Int) (sl : Addr) (Q : VK), Inv X pins σ H s -> RelV x v -> s.heap.IsSliceOf sl vl vu .none -> IsPart vl lo -> IsPart vu hi -> r x lo hi H Q ->
   ∃ T id, typeLookup (.type T) "__getitem__" = pure (some (.builtin id)) /\ s.TypeIs v T /\ wpAny (model X.prog X.w) X.A (getItem v (.ref sl)) (EP X pins σ Q) X.xe s
def tSl (r : V -> Option Int -> Option Int -> Hp -> VK -> Prop) (te : TE) (tl th : TO) : TE := fun σ H Q => te σ H fun x H1 => tl σ H1 fun l H2 => th σ H2 fun u H3 => r x l u H3 Q
theorem xT {r : V -> Option Int -> Option Int -> Hp -> VK -> Prop} (hr : SlR X r) (he : PE X e te) (hl : PO X lo tl) (hu : PO X hi th) : PE X (.Subscript e (.Slice lo hi none p2) pos) (tSl r te tl th) := by
 intro pins s σ H Q I h
 refine Subscript_ (thn (he pins s σ H _ I h) fun v s1 ⟨x, H1, I1, r1, q1⟩ => ?_)
 refine wpAny_Slice (thn (hl pins s1 σ H1 _ I1 q1) fun vl s2 ⟨l, H2, I2, pl, q2⟩ => thn (hu pins s2 σ H2 _ I2 q2) fun vu s3 ⟨u, H3, I3, pu, q3⟩ => ?_)
 rw [evalPart_none]
 refine wpAny_pure ?_
 have I4 : Inv X pins σ H3 { s3 with heap := s3.heap.push { cls := .type "slice", data := .fields #[vl, vu, .none] } } := I3.kept (t' := s3.toks) fun b ob q => Heap.get?_push_of_some _ q
 obtain ⟨T, id, hT, ht, hg⟩ := hr pins { s3 with heap := s3.heap.push { cls := .type "slice", data := .fields #[vl, vu, .none] } } σ H3 x v vl vu l u s3.heap.objs.size Q I4 r1 (Heap.IsSliceOf.new ..) pl pu q3
 show wpAny (model X.prog X.w) X.A (subscriptTail e (.Slice lo hi none p2) v (.ref s3.heap.objs.size)) (EP X pins σ Q) X.xe { s3 with heap := s3.heap.push { cls := .type "slice", data := .fields #[vl, vu, .none] } }
 exact tail_any (ops := [.ref s3.heap.objs.size, v]) ht hT hg (by with_unfolding_all rfl)
def uK (xs : List V) (lo hi : Option Int) : List V := (xs.drop (HT.sIx xs.length 0 lo)).take (HT.sIx xs.length xs.length hi - HT.sIx xs.length 0 lo)
theorem cutV_length (xs : List V) (lo hi : Option Int) : (uK xs lo hi).length <= xs.length := by
 unfold uK
 rw [List.length_take, List.length_drop]
 omega
def rSlT (K : PySem.W.Frag) : V -> Option Int -> Option Int -> Hp -> VK -> Prop := fun x lo hi H Q => ∃ a xs, x = .ref a /\ SqT K H a xs /\
 ¬ (HT.sIx xs.length 0 lo = 0 /\ HT.sIx xs.length xs.length hi = xs.length) /\ ∀ p, H p = none -> Q (.ref p) (upd H p (.tup (uK xs lo hi)))
def rCatT (K : PySem.W.Frag) : R2 := fun x y H Q => ∃ a b xs ys, x = .ref a /\ y = .ref b /\ SqT K H a xs /\ SqT K H b ys /\ xs ≠ [] /\ xs.length + ys.length <= sizeLine /\
 (ys = [] -> Q (.ref a) H) /\ (ys ≠ [] -> ∀ p, H p = none -> Q (.ref p) (upd H p (.tup (xs ++ ys))))
end
def ixN (n : Nat) (i : Int) : Option Nat := if 0 <= i then (if i < n then some i.toNat else none) else if -(n : Int) <= i then some (i + n).toNat else none
def atI {α : Type} (xs : List α) (i : Int) : Option α := (ixN xs.length i).bind fun j => xs[j]?
theorem ixN_seq {n : Nat} {i : Int} {j : Nat} (h : ixN n i = some j) : seqIndex? i n = some j /\ j < n /\ -(n : Int) <= i /\ i < n := by
 unfold ixN at h
 by_cases h0 : 0 <= i
 · rw [if_pos h0] at h
   by_cases h1 : i < n
   · rw [if_pos h1] at h
     have e : i.toNat = j := Option.some.inj h
     exact ⟨by rw [seqIndex_of h0 h1, e], by omega, by omega, h1⟩
   · rw [if_neg h1] at h; cases h
 · rw [if_neg h0] at h
   by_cases h1 : -(n : Int) <= i
   · rw [if_pos h1] at h
     have e : (i + n).toNat = j := Option.some.inj h
     exact ⟨by rw [seqIndex_neg (by omega) h1, e], by omega, h1, by omega⟩
   · rw [if_neg h1] at h; cases h
theorem wK {α : Type} {xs : List α} {i : Int} {v : α} (h : atI xs i = some v) : ∃ j, seqIndex? i xs.length = some j /\ xs[j]? = some v /\ j < xs.length /\ -(xs.length : Int) <= i /\ i < xs.length := by
 unfold atI at h
 cases e : ixN xs.length i with
 | none => rw [e] at h; cases h
 | some j =>
   rw [e] at h
   obtain ⟨h1, h2, h3, h4⟩ := ixN_seq e
   exact ⟨j, h1, h, h2, h3, h4⟩
theorem yL {α : Type} {xs : List α} {j : Nat} {v : α} (h : xs[j]? = some v) : atI xs (j : Int) = some v := by
 have hj : j < xs.length := (List.getElem?_eq_some_iff.mp h).1
 have e : ixN xs.length (j : Int) = some j := by
   unfold ixN
   rw [if_pos (by omega), if_pos (by omega)]; simp
 unfold atI; rw [e]; exact h
theorem atI_last {α : Type} (xs : List α) (v : α) : atI (xs ++ [v]) (-1) = some v := by
 have hl : (xs ++ [v]).length = xs.length + 1 := by simp
 have e : ixN (xs ++ [v]).length (-1) = some xs.length := by
   unfold ixN
   rw [hl, if_neg (by decide), if_pos (by omega)]
   congr 1
   omega
 unfold atI
 rw [e]
 show (xs ++ [v])[xs.length]? = some v
 simp
def PlainIx (b : Expr) : Prop := ∀ o i, subscripted b false o i = operate [o, i] (getItem o i)
def IxR (X : Cx) (r : R2) : Prop :=
 ∀ (value slice : Expr) (pins : List (Addr × Obj)) (s : Shared) (σ : St) (H : Hp) (x y : V) (v u : Value) (Q : VK), Inv X pins σ H s -> RelV x v -> RelV y u -> r x y H Q ->
   subscripted slice false v u = operate [v, u] (getItem v u) -> wpAny (model X.prog X.w) X.A (subscriptTail value slice v u) (EP X pins σ Q) X.xe s
def MtR (X : Cx) (id : String) (r : V -> List V -> Hp -> VK -> Prop) : Prop :=
 ∀ (pins : List (Addr × Obj)) (s : Shared) (σ : St) (H : Hp) (x : V) (xs : List V) (v : Value) (us : List Value) (Q : VK), Inv X pins σ H s -> RelV x v -> Vals xs us -> r x xs H Q ->
   wpAny (model X.prog X.w) X.A (call (.builtin id) (v :: us)) (EP X pins σ Q) X.xe s
section
variable {X : Cx} {a b : Expr} {ta tb : TE} {pos : Pos}
theorem zV {r : R2} (hr : IxR X r) (ha : PE X a ta) (hb : PE X b tb) (hs : PlainIx b) : PE X (.Subscript a b pos) (tOp r ta tb) := by
 intro pins s σ H Q I h
 exact Subscript_ (binT ha hb I h fun v u s2 x y H2 I2 rx ry q => hr a b pins s2 σ H2 x y v u Q I2 rx ry q (hs _ _))
def rIxL (K : PySem.W.Frag) : R2 := fun x y H Q => ∃ p xs i v, x = .ref p /\ y = .int i /\ SqL K H p xs /\ atI xs i = some v /\ Q v H
def rIxT (K : PySem.W.Frag) : R2 := fun x y H Q => ∃ p xs i v, x = .ref p /\ y = .int i /\ SqT K H p xs /\ atI xs i = some v /\ Q v H
def rIxS : R2 := fun x y H Q => ∃ z i c, x = .str z /\ y = .int i /\ z.length <= sizeLine /\ atI z.cps.toList i = some c /\ Q (.str ⟨#[c]⟩) H
theorem ix_list : IxR X (rIxL X.K) := by
 intro value slice pins s σ H x y v u Q I rx ry h hs
 obtain ⟨p, xs, i, z, rfl, rfl, hq, he, q⟩ := h
 cases rx
 obtain ⟨t, rfl⟩ := ry
 obtain ⟨its, r, pl, hz⟩ := I.list hq
 obtain ⟨j, h1, h2, h3, h4, h5⟩ := wK he
 obtain ⟨w, ew, rw'⟩ := r.get h2
 have hl := r.length
 have hn := line63
 have fin : EP X pins σ Q w s := ⟨z, H, I, rw', q⟩
 by_cases h0 : 0 <= i
 · have hj : i.toNat = j := by
     rw [seqIndex_of h0 h5] at h1
     exact Option.some.inj h1
   exact item_listR pl.isList h0 (by omega) (by rw [hj]; simpa using ew) fin hs
 · have hj : (i + (its.toArray.size : Int)).toNat = j := by
     rw [seqIndex_neg (by omega) h4] at h1
     rw [List.size_toArray, ← hl]
     exact Option.some.inj h1
   exact subscriptTail_builtinR (x := w) pl.isList.typeIs slot_list_getitem.lookup
     (wpAny_getItem_list_neg (Q := fun r s' => r = w /\ EP X pins σ Q r s') pl.isList (by omega) (by rw [List.size_toArray] <;> omega) (by omega) (by rw [hj]; simpa using ew) ⟨rfl, fin⟩) hs
theorem ix_tup : IxR X (rIxT X.K) := by
 intro value slice pins s σ H x y v u Q I rx ry h hs
 obtain ⟨p, xs, i, z, rfl, rfl, hq, he, q⟩ := h
 cases rx
 obtain ⟨t, rfl⟩ := ry
 obtain ⟨its, r, pl, hz⟩ := I.tuple hq
 obtain ⟨j, h1, h2, h3, h4, h5⟩ := wK he
 obtain ⟨w, ew, rw'⟩ := r.get h2
 have hl := r.length
 have hn := line63
 have fin : EP X pins σ Q w s := ⟨z, H, I, rw', q⟩
 exact subscriptTail_builtinR (x := w) pl.typeIs slot_tuple_getitem.lookup
   (getItem_tuple (j := j) (Q := fun r s' => r = w /\ EP X pins σ Q r s') pl (by omega) (by omega) (by rw [List.size_toArray, ← hl]; exact h1) (by simpa using ew) ⟨rfl, fin⟩) hs
theorem ix_str : IxR X rIxS := by
 intro value slice pins s σ H x y v u Q I rx ry h hs
 obtain ⟨z, i, c, rfl, rfl, hz, he, q⟩ := h
 obtain ⟨t, rfl⟩ := rx
 obtain ⟨t', rfl⟩ := ry
 obtain ⟨j, h1, h2, h3, h4, h5⟩ := wK he
 have hl : z.cps.toList.length = z.length := by simp [Str.length]
 rw [hl] at h1 h4 h5
 have hn := line63
 exact tail_any (typeIs_str s z t) slot_str_getitem.lookup (getItem_str (c := c) (by
   have e1 : decide (i < -(2 ^ 63 : Int)) = false := decide_eq_false (by omega)
   have e2 : decide (i ≥ 2 ^ 63) = false := decide_eq_false (by omega)
   rw [e1, e2, Bool.or_false]) (by rw [h1]; simpa using h2) ⟨.str ⟨#[c]⟩, H, I.tok _, ⟨_, rfl⟩, q⟩) hs
theorem mapSeq_set (its : List Value) (n j : Nat) (u : Value) : Obj.mapSeq (·.setIfInBounds j u) { cls := .type "list", data := .seq its.toArray n } = { cls := .type "list", data := .seq (its.set j u).toArray n } := by
 simp [Obj.mapSeq]
theorem Inv.lst {pins : List (Addr × Obj)} {σ : St} {H : Hp} {s : Shared} {p : Addr} {xs : List V} (I : Inv X pins σ H s) (h : H p = some (.lst xs)) :
   ∃ (its : List Value) (n : Nat), Vals xs its /\ s.heap.get? p = some { cls := .type "list", data := .seq its.toArray n } /\ xs.length <= sizeLine := by
 obtain ⟨z, its, n, r, e⟩ := I.hok p _ h
 exact ⟨its, n, r, e, z⟩
theorem Inv.lstUpd {pins : List (Addr × Obj)} {σ : St} {H : Hp} {s : Shared} {p : Addr} {xs ys : List V} {its its' : List Value} {n n' : Nat} {f : Obj -> Obj} (I : Inv X pins σ H s) (h : H p = some (.lst xs))
   (ho : s.heap.get? p = some { cls := .type "list", data := .seq its.toArray n }) (hf : f { cls := .type "list", data := .seq its.toArray n } = { cls := .type "list", data := .seq its'.toArray n' }) (r : Vals ys its') (hz : ys.length <= sizeLine) (t : Nat) :
   Inv X pins σ (upd H p (.lst ys)) { s with heap := s.heap.update p f, toks := t } := by
 have e : (s.heap.update p f).get? p = some { cls := .type "list", data := .seq its'.toArray n' } := by
   rw [Heap.get?_update_self f ho (by rw [hf] <;> rfl), hf]
 refine I.write (x := p) (e := p) (by rw [h]; trivial) (.inl rfl) (fun b u hb q => (Heap.get?_update_other _ _ (Ne.symm hb)).trans q) ⟨_, e⟩ ?_
 exact ⟨hz, its', n', r, e⟩
def rSetL : V -> V -> V -> Hp -> (Hp -> Prop) -> Prop := fun o i v H Q => ∃ p xs k j, o = .ref p /\ i = .int k /\ H p = some (.lst xs) /\ ixN xs.length k = some j /\ Q (upd H p (.lst (xs.set j v)))
theorem set_list : PSet X rSetL := by
 intro pins s σ H o i v ov iv u Q I ro ri rv h
 obtain ⟨p, xs, k, j, rfl, rfl, hp, hj, q⟩ := h
 cases ro
 obtain ⟨t, rfl⟩ := ri
 obtain ⟨its, n, r, ho, hz⟩ := I.lst hp
 obtain ⟨h1, h2, h3, h4⟩ := ixN_seq hj
 have hl := r.length
 have hn := line63
 have I' : Inv X pins σ (upd H p (.lst (xs.set j v))) { s with heap := s.heap.update p (Obj.mapSeq (·.setIfInBounds j u)) } :=
   I.lstUpd hp ho (mapSeq_set its n j u) (r.set rv j) (by rw [List.length_set]; exact hz) s.toks
 by_cases h0 : 0 <= k
 · have hk : k.toNat = j := by
     rw [seqIndex_of h0 h4] at h1
     exact Option.some.inj h1
   exact PySem.W.ki_setAt ho h0 (by omega) (by rw [List.size_toArray, ← hl]; exact h4) (by rw [hk]; exact ⟨_, I', q⟩)
 · have hk : (k + (its.toArray.size : Int)).toNat = j := by
     rw [seqIndex_neg (by omega) h3] at h1
     rw [List.size_toArray, ← hl]
     exact Option.some.inj h1
   exact PySem.W.ki_setBack ho (by omega) (by rw [List.size_toArray, ← hl]; exact h3) (by omega) (by rw [hk]; exact ⟨_, I', q⟩)
theorem vR (lo hi : Option Int) (n : Nat) : (sliceBounds lo hi none n).1 = ((HT.sIx n 0 lo : Nat) : Int) /\ (sliceBounds lo hi none n).2.1 = ((HT.sIx n n hi : Nat) : Int) /\ (sliceBounds lo hi none n).2.2 = 1 := by
 refine ⟨?_, ?_, rfl⟩
 · cases lo with
   | none => simp [sliceBounds, HT.sIx]
   | some i =>
     simp only [sliceBounds, HT.sIx, Option.getD_none, show (1 : Int) > 0 by decide, if_true]
     by_cases h : i < 0
     · simp only [h, if_true] <;> omega
     · simp only [h, if_false] <;> omega
 · cases hi with
   | none => simp [sliceBounds, HT.sIx]
   | some i =>
     simp only [sliceBounds, HT.sIx, Option.getD_none, show (1 : Int) > 0 by decide, if_true]
     by_cases h : i < 0
     · simp only [h, if_true] <;> omega
     · simp only [h, if_false] <;> omega
theorem uO (its : List Value) (lo hi : Option Int) : slicePick its.toArray lo hi none = ((its.drop (HT.sIx its.length 0 lo)).take (HT.sIx its.length its.length hi - HT.sIx its.length 0 lo)).toArray := by
 obtain ⟨h1, h2, h3⟩ := vR lo hi its.toArray.size
 unfold slicePick
 rw [h1, h2, h3]
 simp only [sliceRange_one, pick_run, List.size_toArray] <;> rfl
def rSlL (K : PySem.W.Frag) : V -> Option Int -> Option Int -> Hp -> VK -> Prop := fun x lo hi H Q => ∃ a xs, x = .ref a /\ SqL K H a xs /\ ∀ p, H p = none -> Q (.ref p) (upd H p (.lst (uK xs lo hi)))
theorem sl_list : SlR X (rSlL X.K) := by
 intro pins s σ H x v vl vu lo hi sl Q I rx hs pl pu h
 obtain ⟨a, xs, rfl, hx, q⟩ := h
 cases rx
 obtain ⟨its, r, ht, hz⟩ := I.list hx
 have hlen := r.length
 refine ⟨"list", _, slot_list_getitem.lookup, ht.isList.typeIs, ?_⟩
 refine wpAny_getItem_list_slice ht.isList hs pl pu .none (by simp) ?_ (by rw [List.size_toArray] <;> omega)
 rw [uO, ← hlen]
 refine ⟨.ref s.heap.objs.size, _, I.laid (t' := s.toks) (o := .lst (uK xs lo hi)) (fun b ob q => Heap.get?_push_of_some _ q) (Nat.le_refl _) ?_, rfl, q _ (I.hok.fresh (Nat.le_refl _))⟩
 exact ⟨Nat.le_trans (cutV_length xs lo hi) hz, _, 0, (r.drop (HT.sIx xs.length 0 lo)).take (HT.sIx xs.length xs.length hi - HT.sIx xs.length 0 lo), Heap.get?_push_size _ rfl⟩
theorem call_list_of : jR X (.type "list") (fun xs H Q => ∃ p ys, xs = [.ref p] /\ (SqL X.K H p ys \/ SqT X.K H p ys) /\ ∀ l, H l = none -> Q (.ref l) (upd H l (.lst ys))) := by
 intro pins s σ H xs us Q I r h
 obtain ⟨p, ys, rfl, hq, q⟩ := h
 obtain ⟨u, rfl, rx⟩ := uX r
 cases rx
 have fin : ∀ (its : List Value), Vals ys its -> ys.length <= sizeLine -> ∀ (h' : Heap) (c' : Nat), (∀ b o', s.heap.get? b = some o' -> h'.get? b = some o') ->
     h'.get? s.heap.objs.size = some { cls := .type "list", dict := none, data := .seq its.toArray c', slots := #[] } -> EP X pins σ Q (.ref s.heap.objs.size) { s with heap := h' } := fun its r' hz h' c' kp e =>
   ⟨.ref s.heap.objs.size, _, I.laid (t' := s.toks) kp (Nat.le_refl _) (show ObjOk X.prog X.w _ h' _ (.lst ys) from ⟨hz, its, c', r', e⟩), rfl, q _ (I.hok.fresh (Nat.le_refl _))⟩
 rcases hq with hq | hq
 · obtain ⟨its, r', pl, hz⟩ := I.list hq
   have hlen := r'.length
   obtain ⟨o, ho, hc, n, hd⟩ := pl.isList
   exact call_list_seq p (.inl rfl) ho hc hd (fun h' c' kp e => fin its r' hz h' c' kp e) (by simp only [List.size_toArray] <;> omega)
 · obtain ⟨its, r', pl, hz⟩ := I.tuple hq
   have hlen := r'.length
   obtain ⟨o, ho, hc, n, hd⟩ := pl
   exact call_list_seq p (.inr rfl) ho hc hd (fun h' c' kp e => fin its r' hz h' c' kp e) (by simp only [List.size_toArray] <;> omega)
theorem call_tuple_of : jR X (.type "tuple") (fun xs H Q => ∃ p ys, xs = [.ref p] /\ ((SqL X.K H p ys /\ ∀ l, H l = none -> Q (.ref l) (upd H l (.tup ys))) \/ (SqT X.K H p ys /\ Q (.ref p) H))) := by
 intro pins s σ H xs us Q I r h
 obtain ⟨p, ys, rfl, h⟩ := h
 obtain ⟨u, rfl, rx⟩ := uX r
 cases rx
 rcases h with ⟨hq, q⟩ | ⟨hq, q⟩
 · obtain ⟨its, r', pl, hz⟩ := I.list hq
   have hlen := r'.length
   refine call_tuple_list pl.isList (fun h' kp => ?_) (by simp only [List.size_toArray] <;> omega)
   have I1 : Inv X pins σ H { s with heap := h' } := I.kept (t' := s.toks) kp
   have I2 : Inv X pins σ (upd H h'.objs.size (.tup ys)) { s with heap := h'.push { cls := .type "tuple", data := .seq its.toArray } } :=
     I1.laid (t' := s.toks) (fun b o e => Heap.get?_push_of_some _ e) (Nat.le_refl _) (show ObjOk X.prog X.w _ _ _ (.tup ys) from ⟨hz, its, r', IsTup.new _ _⟩)
   exact ⟨.ref h'.objs.size, _, I2, rfl, q _ (I1.hok.fresh (Nat.le_refl _))⟩
 · obtain ⟨its, r', pl, hz⟩ := I.tuple hq
   exact call_tuple_same pl ⟨.ref p, H, I, rfl, q⟩
def tyV (K : PySem.W.Frag) (T : String) (x : V) (H : Hp) : Prop := match x with
 | .str _ => T = "str"
 | .int _ => T = "int"
 | .ref p => (T = "list" /\ ∃ xs, SqL K H p xs) \/ (T = "tuple" /\ ∃ o, K.lookup p = some o /\ o.cls = .type "tuple" /\ o.dict = none) \/
     (T = "dict" /\ ((∃ kvs, H p = some (.dK kvs)) \/ ∃ kvs, H p = some (.dT kvs))) \/ (T = "set" /\ ∃ S n, H p = some (.set S n))
 | _ => False
theorem tyV_is {pins : List (Addr × Obj)} {σ : St} {H : Hp} {s : Shared} {T : String} {x : V} {v : Value} (I : Inv X pins σ H s) (r : RelV x v) (ty : tyV X.K T x H) :
   s.TypeIs v T /\ ∀ a, v = .ref a -> ∃ ob, s.heap.get? a = some ob /\ ob.dict = none := by
 cases x with
 | str z =>
   obtain ⟨t, rfl⟩ := r
   cases (show T = "str" from ty)
   exact ⟨typeIs_str s z t, fun _ e => nomatch e⟩
 | int i =>
   obtain ⟨t, rfl⟩ := r
   cases (show T = "int" from ty)
   exact ⟨typeIs_int s i t, fun _ e => nomatch e⟩
 | ref p =>
   cases r
   rcases ty with ⟨rfl, xs, hq⟩ | ⟨rfl, o, hk, hc, hd⟩ | ⟨rfl, hk⟩ | ⟨rfl, S, n, hk⟩
   · obtain ⟨its, _, pl, _⟩ := I.list hq
     refine ⟨pl.isList.typeIs, fun a e => ?_⟩
     cases e
     obtain ⟨o, n, e, c, hd, _⟩ := pl
     exact ⟨o, e, hd⟩
   · refine ⟨⟨o, I.kIn p o hk, hc⟩, fun a e => ?_⟩
     cases e
     exact ⟨o, I.kIn _ o hk, hd⟩
   · have z : ∃ o, s.heap.get? p = some o /\ o.ExactDict := by
       rcases hk with ⟨kvs, hk⟩ | ⟨kvs, hk⟩
       · obtain ⟨_, _, _, _, o, _, _, e, ex, _⟩ := I.hok p _ hk
         exact ⟨o, e, ex⟩
       · obtain ⟨_, _, _, _, o, _, _, e, ex, _⟩ := I.hok p _ hk
         exact ⟨o, e, ex⟩
     obtain ⟨o, e, ex⟩ := z
     refine ⟨⟨o, e, ex.1⟩, fun a e2 => ?_⟩
     cases e2
     exact ⟨o, e, ex.2.1⟩
   · obtain ⟨o, _, _, _, e, ex, _⟩ := I.hok p _ hk
     refine ⟨⟨o, e, ex.1⟩, fun a e2 => ?_⟩
     cases e2
     exact ⟨o, e, ex.2.1⟩
 | _ => exact False.elim ty
def tBM0 (K : PySem.W.Frag) (T : String) (r : V -> List V -> Hp -> VK -> Prop) (to : TE) : TE := fun σ H Q => to σ H fun x H1 => tyV K T x H1 /\ r x [] H1 Q
def tBM (K : PySem.W.Frag) (T : String) (r : V -> List V -> Hp -> VK -> Prop) (to : TE) (t : TA) : TE := fun σ H Q => to σ H fun x H1 => tyV K T x H1 /\ t σ H1 fun xs H2 => r x xs H2 Q
variable {o e : Expr} {es : List Expr} {to : TE} {t : TA} {name : Str} {apos cpos : Pos} {T id : String} {r : V -> List V -> Hp -> VK -> Prop}
theorem pe_bm0 (pa : PlainAttrs T) (slot : Slot T name id) (hty : typeOf (.builtin id) = pure (.type "method_descriptor")) (hm : MtR X id r) (ho : PE X o to)
   (hbase : attributeBase o name X.env (eval o X.env) = eval o X.env := by rfl) (hline : (apos.endLine == cpos.line) = true := by rfl) : PE X (.Call (.Attribute o name apos) [] [] cpos) (tBM0 X.K T r to) := by
 intro pins s σ H Q I h
 refine wpAny_Call_method0_late hbase hline (thn (ho pins s σ H _ I h) fun v s1 ⟨x, H1, I1, r1, ty, q1⟩ => ?_)
 obtain ⟨h1, h2⟩ := tyV_is I1 r1 ty
 exact ⟨T, id, pa, slot, hty, h1, h2, Calls.callWith_builtin rfl (PySem.evalArgs_none (hm pins s1 σ H1 x [] v [] Q I1 r1 .nil q1))⟩
theorem qB (pa : PlainAttrs T) (slot : Slot T name id) (hty : typeOf (.builtin id) = pure (.type "method_descriptor")) (hm : MtR X id r) (ho : PE X o to) (ha : PA X (e :: es) t)
   (hbase : attributeBase o name X.env (eval o X.env) = eval o X.env := by rfl)
   (hfew : ((backTo cpos (starEach (e :: es) X.env)).all (fun x => !x.1) && (backToKw cpos (keywordEach [] X.env)).all (fun x => x.1.isSome)
     && decide ((e :: es).length + ([] : List Keyword).length + (if ([] : List Keyword).isEmpty then 0 else 1) < 30)) = true := by rfl)
   (hline : (apos.endLine == cpos.line) = true := by rfl) (hs : starEach (e :: es) X.env = (false, eval e X.env) :: starEach es X.env := by rfl) (hplain : (backTo cpos (starEach es X.env)).any (·.1) = false := by rfl) :
   PE X (.Call (.Attribute o name apos) (e :: es) [] cpos) (tBM X.K T r to t) := by
 intro pins s σ H Q I h
 refine wpAny_Call_method_late hbase hfew hline rfl (thn (ho pins s σ H _ I h) fun v s1 ⟨x, H1, I1, r1, ty, q1⟩ => ?_)
 obtain ⟨h1, h2⟩ := tyV_is I1 r1 ty
 refine ⟨T, id, pa, slot, hty, h1, h2, ?_⟩
 have hA := ha cpos pins s1 σ H1 _ I1 q1
 rw [hs] at hA ⊢
 refine Calls.callWith_builtin (by show (false || (backTo cpos (starEach es X.env)).any (·.1)) = false; rw [hplain] <;> rfl) (Calls.evalArgs_plain ?_)
 exact thn hA fun us s2 ⟨vs, H2, I2, r2, q2⟩ => hm pins s2 σ H2 x vs v us Q I2 r1 r2 q2
end
def MtM (X : Cx) (id : String) (r : V -> List V -> Hp -> VK -> Prop) : Prop :=
 ∀ (pins : List (Addr × Obj)) (s : Shared) (σ : St) (H : Hp) (x : V) (xs : List V) (v : Value) (us : List Value) (Q : VK), Inv X pins σ H s -> RelV x v -> Vals xs us -> r x xs H Q ->
   wpAny (model X.prog X.w) X.A (call (.builtin id) (v :: us)) (EP X pins σ Q) X.xe s
theorem Vals.one : ∀ {x : V} {us : List Value}, Vals [x] us -> ∃ u, us = [u] /\ RelV x u
 | _, _, .cons r .nil => ⟨_, rfl, r⟩
theorem Vals.dropLast {xs : List V} {us : List Value} (h : Vals xs us) : Vals xs.dropLast us.dropLast := by
 induction h with
 | nil => exact .nil
 | cons r t ih =>
   cases t with
   | nil => exact .nil
   | cons q t' => exact .cons r ih
theorem Vals.rep {xs : List V} {us : List Value} (h : Vals xs us) : ∀ k : Nat, Vals (List.replicate k xs).flatten (List.replicate k us).flatten
 | 0 => .nil
 | k + 1 => by
   rw [List.replicate_succ, List.replicate_succ, List.flatten_cons, List.flatten_cons]
   exact Vals.append h (Vals.rep h k)
theorem vE (its : List Value) : ∀ (k : Nat) (acc : List Value),
   List.foldl (fun x1 x2 => x1 ++ x2) acc.toArray (List.replicate k its.toArray) = (acc ++ (List.replicate k its).flatten).toArray
 | 0, acc => by simp
 | k + 1, acc => by
   have e : acc.toArray ++ its.toArray = (acc ++ its).toArray := by simp
   have e2 : (acc ++ its) ++ (List.replicate k its).flatten = acc ++ (List.replicate (k + 1) its).flatten := by
     rw [List.replicate_succ, List.flatten_cons, List.append_assoc]
   rw [← e2, ← vE its k (acc ++ its), ← e, List.replicate_succ, List.foldl_cons]
section
variable {X : Cx} {pins : List (Addr × Obj)} {σ : St} {H : Hp} {s : Shared} {l b : Addr} {xs ys zs : List V}
theorem Inv.lset {its its' : List Value} {n : Nat} {f : Array Value -> Array Value} {t' : Nat} (I : Inv X pins σ H s) (hH : H l = some (.lst xs))
   (e : s.heap.get? l = some { cls := .type "list", data := .seq its.toArray n }) (hf : f its.toArray = its'.toArray) (hv : Vals ys its') (hz : ys.length <= sizeLine) :
   Inv X pins σ (upd H l (.lst ys)) { s with heap := s.heap.update l (Obj.mapSeq f), toks := t' } := by
 have q := PySem.IsL.update e f
 rw [hf] at q
 refine I.write (x := l) (e := l) (by rw [hH]; exact trivial) (.inl rfl) (fun b' u hb hu => (Heap.get?_update_other s.heap (Obj.mapSeq f) (Ne.symm hb)).trans hu) ⟨_, q⟩ ?_
 exact ⟨hz, its', _, hv, q⟩
theorem Inv.lnew {its : List Value} {t' : Nat} (I : Inv X pins σ H s) (hv : Vals ys its) (hz : ys.length <= sizeLine) :
   Inv X pins σ (upd H s.heap.objs.size (.lst ys)) { s with heap := s.heap.push { cls := .type "list", data := .seq its.toArray }, toks := t' } :=
 I.laid (fun _ _ q => Heap.get?_push_of_some _ q) (Nat.le_refl _) ⟨hz, its, 0, hv, Heap.get?_push_size _ rfl⟩
theorem Inv.fresh (I : Inv X pins σ H s) : H s.heap.objs.size = none := I.hok.fresh (Nat.le_refl _)
theorem Inv.lstM (I : Inv X pins σ H s) (hH : H l = some (.lst xs)) : xs.length <= sizeLine /\ ∃ (its : List Value) (n : Nat), Vals xs its /\ xs.length = its.length /\ s.heap.get? l = some { cls := .type "list", data := .seq its.toArray n } := by
 obtain ⟨z, its, n, r, e⟩ := I.hok l _ hH
 exact ⟨z, its, n, r, r.length, e⟩
theorem notLongL {n : Nat} (h : n <= sizeLine) : Builtin.List.listTooLong n = false := by
 unfold Builtin.List.listTooLong
 exact decide_eq_false (by omega)
end
section
variable {X : Cx}
def rAppend : V -> List V -> Hp -> VK -> Prop := fun x vs H Q => ∃ l xs y, x = .ref l /\ vs = [y] /\ H l = some (.lst xs) /\ xs.length < sizeLine /\ Q .non (upd H l (.lst (xs ++ [y])))
theorem mt_append : MtM X "list.append" rAppend := by
 intro pins s σ H x vs v us Q I rx rv h
 obtain ⟨l, xs, y, rfl, rfl, hH, hz, q⟩ := h
 cases rx
 obtain ⟨u, rfl, ru⟩ := rv.one
 obtain ⟨z, its, n, r, hl, e⟩ := I.lstM hH
 refine call_meets F.slot_list_append ⟨_, e, rfl⟩ F.entry_list_append (F.args_list_append_2 _ _) (PySem.list_append l its.toArray n u (by rw [List.size_toArray]; omega)) ⟨e, ?_⟩
 refine ⟨.non, _, I.lset (its' := its ++ [u]) hH e (by simp) (r.append (.cons ru .nil)) ?_, rfl, q⟩
 rw [List.length_append, List.length_singleton]
 omega
def rPop : V -> List V -> Hp -> VK -> Prop := fun x vs H Q => ∃ l xs y, x = .ref l /\ vs = [] /\ H l = some (.lst xs) /\ xs[xs.length - 1]? = some y /\ Q y (upd H l (.lst xs.dropLast))
def rCat : R2 := fun x y H Q => ∃ l b xs zs, x = .ref l /\ y = .ref b /\ H l = some (.lst xs) /\ H b = some (.lst zs) /\ xs.length + zs.length <= sizeLine /\ ∀ p, H p = none -> Q (.ref p) (upd H p (.lst (xs ++ zs)))
theorem op_cat : OpR X (binaryOp .Add) rCat := by
 intro pins s σ H x y v u Q I rx ry h
 obtain ⟨l, b, xs, zs, rfl, rfl, hH, hB, hz, q⟩ := h
 cases rx
 cases ry
 obtain ⟨z, its, n, r, hl, e⟩ := I.lstM hH
 obtain ⟨z2, its2, n2, r2, hl2, e2⟩ := I.lstM hB
 refine PySem.P.add_list e e2 ?_ (by rw [List.size_toArray, List.size_toArray]; omega)
 have ea : its.toArray ++ its2.toArray = (its ++ its2).toArray := by simp
 rw [ea]
 exact ⟨.ref _, _, I.lnew (t' := s.toks) (r.append r2) (by rw [List.length_append]; omega), rfl, q _ I.fresh⟩
def rRep : R2 := fun x y H Q => ∃ l k xs, x = .ref l /\ y = .int k /\ H l = some (.lst xs) /\ -(2 ^ 63) <= k /\ k < 2 ^ 63 /\ xs.length * k.toNat <= sizeLine /\
 ∀ p, H p = none -> Q (.ref p) (upd H p (.lst (List.replicate k.toNat xs).flatten))
theorem len_rep {α : Type} (xs : List α) (k : Nat) : (List.replicate k xs).flatten.length = k * xs.length := by
 induction k with
 | zero => simp
 | succ k ih => rw [List.replicate_succ, List.flatten_cons, List.length_append, ih, Nat.succ_mul, Nat.add_comm]
theorem op_rep : OpR X (binaryOp .Mult) rRep := by
 intro pins s σ H x y v u Q I rx ry h
 obtain ⟨l, k, xs, rfl, rfl, hH, h1, h2, hz, q⟩ := h
 cases rx
 obtain ⟨t, rfl⟩ := ry
 obtain ⟨z, its, n, r, hl, e⟩ := I.lstM hH
 have hlen : its.toArray.size * k.toNat <= sizeLine := by rw [List.size_toArray, ← hl]; exact hz
 have hcap : ¬ its.toArray.size * k.toNat > (2 ^ 63 - 1) / 8 := by
   have : (sizeLine : Nat) <= (2 ^ 63 - 1) / 8 := by decide
   omega
 have hfit : ¬ (!Builtin.List.listFitsIndex k) = true := by
   rw [fitsIndex_both h1 h2]
   exact Bool.false_ne_true
 have hlong : ¬ Builtin.List.listTooLong (its.toArray.size * k.toNat) = true := by
   rw [notLongL hlen]
   exact Bool.false_ne_true
 have hnew : List.foldl (fun x1 x2 => x1 ++ x2) #[] (List.replicate (if its.toArray.isEmpty = true then 0 else k.toNat) its.toArray) = (List.replicate k.toNat its).flatten.toArray := by
   have f0 : ∀ m : Nat, List.foldl (fun x1 x2 => x1 ++ x2) #[] (List.replicate m its.toArray) = (List.replicate m its).flatten.toArray := fun m => by
     have := vE its m []
     rw [List.nil_append] at this
     exact this
   rw [f0]
   cases its with
   | nil => simp
   | cons a r' => rw [if_neg (by simp)]
 refine wpAny_binaryOp_repeat_ref (T := "list") (U := "int") (by decide) ⟨_, e, rfl⟩ (fun s' => typeIs_int s' k t) noFill_list_mul F.fills_int_mul F.slot_int_rmul repeat_list F.slot_int_index.lookup
   (call_meets F.slot_int_rmul (typeIs_int s k t) F.entry_int_rmul (F.args_int_rmul_2 _ _) (int___rmul___int_list k t l its.toArray n)
     ⟨e, rfl, ⟨_, e, rfl⟩, call_meets F.slot_list_mul ⟨_, e, rfl⟩ F.entry_list_mul (F.args_list_mul_2 _ _) (AutoListH.list___mul___list_int_3 l its.toArray n k t hfit hcap hlong) ⟨e, ?_⟩⟩)
 rw [hnew]
 exact ⟨.ref _, _, I.lnew (t' := s.toks) (r.rep k.toNat) (by rw [len_rep, Nat.mul_comm]; exact hz), rfl, q _ I.fresh⟩
end
section
variable {prog : Program} {w : World} {A : Around} {E : Value -> Shared -> Prop} {s : Shared}
end
section
variable {X : Cx}
end
section
variable {κ : Type} [DecidableEq κ]
def yJ (kvs : List (κ × V)) (k : κ) : Option V := (kvs.find? fun kv => decide (kv.1 = k)).map (·.2)
def xR (kvs : List (κ × V)) (k : κ) (v : V) : List (κ × V) :=
 if (kvs.any fun kv => decide (kv.1 = k)) = true then kvs.map (fun kv => if kv.1 = k then (kv.1, v) else kv) else kvs ++ [(k, v)]
theorem jV {p : κ × V} {r : List (κ × V)} {k : κ} (e : p.1 = k) : yJ (p :: r) k = some p.2 := by simp [yJ, List.find?_cons, e]
theorem jW {p : κ × V} {r : List (κ × V)} {k : κ} (e : ¬ p.1 = k) : yJ (p :: r) k = yJ r k := by simp [yJ, List.find?_cons, e]
theorem valV_any (k : κ) : ∀ kvs : List (κ × V), (kvs.any fun kv => decide (kv.1 = k)) = (yJ kvs k).isSome
 | [] => rfl
 | p :: r => by
   rw [List.any_cons]
   by_cases e : p.1 = k
   · simp only [jV e, decide_eq_true e, Bool.true_or, Option.isSome_some]
   · rw [jW e, decide_eq_false e, Bool.false_or]; exact valV_any k r
theorem jD (kvs : List (κ × V)) (k : κ) (v : V) : (xR kvs k v).length <= kvs.length + 1 := by
 unfold xR
 split
 · rw [List.length_map]; omega
 · rw [List.length_append, List.length_cons, List.length_nil]; omega
theorem RelO.isSome_eq {o : Option V} {u : Option Value} (r : RelO o u) : o.isSome = u.isSome := by
 cases o with
 | none => cases u with
   | none => rfl
   | some _ => exact (show False from r).elim
 | some _ => cases u with
   | none => exact (show False from r).elim
   | some _ => rfl
theorem RelO.getD {o : Option V} {u : Option Value} {d : V} {d' : Value} (r : RelO o u) (rd : RelV d d') : RelV (o.getD d) (u.getD d') := by
 cases o with
 | none => cases u with
   | none => exact rd
   | some _ => exact (show False from r).elim
 | some _ => cases u with
   | none => exact (show False from r).elim
   | some _ => exact r
theorem KV.val {kvs : List (κ × V)} {vs : List (κ × Value)} (r : KV kvs vs) (k : κ) : RelO (yJ kvs k) (valueAt vs k) := by
 unfold KV at r
 induction r with
 | nil => exact True.intro
 | @cons p q ps qs h t ih =>
   obtain ⟨h1, h2⟩ := h
   by_cases e : p.1 = k
   · have e' : q.1 = k := h1.symm.trans e
     have b : valueAt (q :: qs) k = some q.2 := by simp [valueAt, List.find?_cons, e']
     rw [jV e, b]; exact h2
   · have e' : ¬ q.1 = k := fun z => e (h1.trans z)
     have b : valueAt (q :: qs) k = valueAt qs k := by simp [valueAt, List.find?_cons, e']
     rw [jW e, b]; exact ih
theorem KV.any {kvs : List (κ × V)} {vs : List (κ × Value)} (r : KV kvs vs) (k : κ) : (kvs.any fun kv => decide (kv.1 = k)) = vs.any fun kv => decide (kv.1 = k) := by
 unfold KV at r
 induction r with
 | nil => rfl
 | cons h t ih => rw [List.any_cons, List.any_cons, ih, h.1]
theorem KV.repl {kvs : List (κ × V)} {vs : List (κ × Value)} (r : KV kvs vs) (k : κ) {y : V} {u : Value} (ry : RelV y u) :
   KV (kvs.map fun kv => if kv.1 = k then (kv.1, y) else kv) (vs.map fun kv => if kv.1 = k then (kv.1, u) else kv) := by
 unfold KV at r ⊢
 induction r with
 | nil => exact .nil
 | @cons p q ps qs h t ih =>
   rw [List.map_cons, List.map_cons]
   refine .cons ?_ ih
   obtain ⟨h1, h2⟩ := h
   by_cases e : p.1 = k
   · rw [if_pos e, if_pos (h1.symm.trans e)]; exact ⟨h1, ry⟩
   · rw [if_neg e, if_neg (fun z => e (h1.trans z))]; exact ⟨h1, h2⟩
theorem KV.put {kvs : List (κ × V)} {vs : List (κ × Value)} (r : KV kvs vs) (k : κ) {y : V} {u : Value} (ry : RelV y u) : KV (xR kvs k y) (stored vs k u) := by
 unfold xR stored
 rw [r.any k]
 by_cases e : (vs.any fun kv => decide (kv.1 = k)) = true
 · rw [if_pos e, if_pos e]; exact r.repl k ry
 · rw [if_neg e, if_neg e]; exact Paired.snoc r ⟨rfl, ry⟩
theorem KV.keys {kvs : List (κ × V)} {vs : List (κ × Value)} (r : KV kvs vs) : kvs.map (·.1) = vs.map (·.1) := by
 unfold KV at r
 induction r with
 | nil => rfl
 | cons h t ih => rw [List.map_cons, List.map_cons, ih, h.1]
theorem KV.length {kvs : List (κ × V)} {vs : List (κ × Value)} (r : KV kvs vs) : kvs.length = vs.length := Paired.length r
end
theorem kV_is {P : Program} {w : World} {k : Key} {u : Value} (r : RelV (kV k) u) : (zZ P w).is k u = true := by
 cases k with
 | inl i => obtain ⟨t, e⟩ := (show ∃ t, u = Value.int i t from r); subst e; exact mixKind_int P w i t
 | inr x => obtain ⟨t, e⟩ := (show ∃ t, u = Value.str x t from r); subst e; exact xM P w x t
theorem vD {P : Program} {w : World} : ∀ {ks : List Key} {us : List Value}, Vals (ks.map kV) us -> ItemsAre (zZ P w) ks us
 | [], _, r => by rw [List.map_nil] at r; cases r; exact .nil
 | k :: ks, _, r => by
   rw [List.map_cons] at r
   cases r with
   | cons h t => exact .cons (kV_is h) (vD t)
abbrev KT (H : Hp) : List (List Key × V) -> List (List Key × Addr × Value) -> Prop := Paired fun p q => p.1 = q.1 /\ H q.2.1 = some (.tup (p.1.map kV)) /\ RelV p.2 q.2.2
theorem KT.val {H : Hp} {kvs : List (List Key × V)} {xs : List (List Key × Addr × Value)} (r : KT H kvs xs) (k : List Key) : RelO (yJ kvs k) ((atKey xs k).map (·.2)) := by
 induction r with
 | nil => exact True.intro
 | @cons p q ps qs h t ih =>
   obtain ⟨h1, _, h2⟩ := h
   by_cases e : p.1 = k
   · have e' : q.1 = k := h1.symm.trans e
     have b : atKey (q :: qs) k = some q.2 := by simp [atKey, List.find?_cons, e']
     rw [jV e, b]; exact h2
   · have e' : ¬ q.1 = k := fun z => e (h1.trans z)
     have b : atKey (q :: qs) k = atKey qs k := by simp [atKey, List.find?_cons, e']
     rw [jW e, b]; exact ih
theorem KT.repl {H : Hp} {kvs : List (List Key × V)} {xs : List (List Key × Addr × Value)} (r : KT H kvs xs) (k : List Key) {y : V} {u : Value} (ry : RelV y u) :
   KT H (kvs.map fun kv => if kv.1 = k then (kv.1, y) else kv) (xs.map (putAt k u)) := by
 induction r with
 | nil => exact .nil
 | @cons p q ps qs h t ih =>
   rw [List.map_cons, List.map_cons]
   refine .cons ?_ ih
   obtain ⟨h1, h2, h3⟩ := h
   unfold putAt
   by_cases e : p.1 = k
   · rw [if_pos e, if_pos (h1.symm.trans e)]; exact ⟨h1, h2, ry⟩
   · rw [if_neg e, if_neg (fun z => e (h1.trans z))]; exact ⟨h1, h2, h3⟩
theorem KT.put {H : Hp} {kvs : List (List Key × V)} {xs : List (List Key × Addr × Value)} (r : KT H kvs xs) (k : List Key) {b : Addr} {y : V} {u : Value} (hb : H b = some (.tup (k.map kV))) (ry : RelV y u) :
   KT H (xR kvs k y) (storedH xs k b u) := by
 have e : (kvs.any fun kv => decide (kv.1 = k)) = (atKey xs k).isSome := by
   rw [valV_any, (r.val k).isSome_eq, Option.isSome_map]
 unfold xR storedH
 rw [e]
 by_cases q : (atKey xs k).isSome = true
 · rw [if_pos q, if_pos q]; exact r.repl k ry
 · rw [if_neg q, if_neg q]; exact Paired.snoc r ⟨rfl, hb, ry⟩
theorem KT.keeps {H H' : Hp} {kvs : List (List Key × V)} {xs : List (List Key × Addr × Value)} (r : KT H kvs xs) (ht : ∀ b ys, H b = some (.tup ys) -> H' b = some (.tup ys)) : KT H' kvs xs :=
 Paired.mapP r fun _ _ z => ⟨z.1, ht _ _ z.2.1, z.2.2⟩
section
variable {P : Program} {w : World} {H : Hp} {h : Heap} {a : Addr}
theorem rd_of {u : HO} (ok : HOk P w H h) (e : Rd H a u) : ObjOk P w H h a u := e.ok ok
theorem vG {kvs : List (Key × V)} (ok : HOk P w H h) (e : Rd H a (.dK kvs)) : kvs.length <= sizeLine /\ (a == sysModules) = false /\ ∃ vs, KV kvs vs /\ h.DictOf (zZ P w) a vs :=
 show ObjOk P w H h a (.dK kvs) from rd_of ok e
theorem dk_of {kvs : List (Key × V)} (ok : HOk P w H h) (e : H a = some (.dK kvs)) : kvs.length <= sizeLine /\ (a == sysModules) = false /\ ∃ vs, KV kvs vs /\ h.DictOf (zZ P w) a vs := vG ok (.inl e)
theorem qJ {ks : List Key} (ok : HOk P w H h) (e : H a = some (.tup (ks.map kV))) : (tupleKind (zZ P w)).is h ks a := by
 obtain ⟨_, its, r, o, h1, h2, n, h3⟩ := (show ObjOk P w H h a (.tup (ks.map kV)) from ok a _ e)
 exact ⟨o, its.toArray, n, h1, h2, h3, by simpa using vD r⟩
theorem vF {kvs : List (List Key × V)} (ok : HOk P w H h) (e : Rd H a (.dT kvs)) : kvs.length <= sizeLine /\ (a == sysModules) = false /\
   ∃ xs, KT H kvs xs /\ h.DictOfH (tupleKind (zZ P w)) a xs := by
 obtain ⟨z, y, xs, r, o, es, ep, h1, h2, h3, h4, h5⟩ := (show ObjOk P w H h a (.dT kvs) from rd_of ok e)
 refine ⟨z, y, xs, r, o, es, ep, h1, h2, h3, h4, fun x hx => ?_, h5⟩
 have all : ∀ {l : List (List Key × V)} {m : List (List Key × Addr × Value)}, KT H l m -> ∀ x ∈ m, (tupleKind (zZ P w)).is h x.1 x.2.1 := by
   intro l m q
   induction q with
   | nil => intro x hx; exact nomatch hx
   | @cons p q ps qs hq t ih =>
     intro x hx
     rcases List.mem_cons.mp hx with e | hx
     · subst e
       exact qJ ok (by rw [← hq.1]; exact hq.2.1)
     · exact ih x hx
 exact all r x hx
theorem dt_of {kvs : List (List Key × V)} (ok : HOk P w H h) (e : H a = some (.dT kvs)) : kvs.length <= sizeLine /\ (a == sysModules) = false /\
   ∃ xs, KT H kvs xs /\ h.DictOfH (tupleKind (zZ P w)) a xs := vF ok (.inl e)
end
def DGet (H : Hp) (a : Addr) (y : V) (r : Option V) : Prop :=
 (∃ kvs k, Rd H a (.dK kvs) /\ y = kV k /\ r = yJ kvs k) \/ ∃ kvs k b, Rd H a (.dT kvs) /\ y = .ref b /\ H b = some (.tup (k.map kV)) /\ r = yJ kvs k
def DPut (H : Hp) (a : Addr) (y v : V) (H' : Hp) : Prop :=
 (∃ kvs k, H a = some (.dK kvs) /\ y = kV k /\ kvs.length < sizeLine /\ H' = upd H a (.dK (xR kvs k v))) \/
 ∃ kvs k b, H a = some (.dT kvs) /\ y = .ref b /\ H b = some (.tup (k.map kV)) /\ kvs.length < sizeLine /\ H' = upd H a (.dT (xR kvs k v))
theorem DGet.k {H : Hp} {a : Addr} {kvs : List (Key × V)} {k : Key} (e : H a = some (.dK kvs)) : DGet H a (kV k) (yJ kvs k) := .inl ⟨kvs, k, .inl e, rfl, rfl⟩
theorem DGet.t {H : Hp} {a b : Addr} {kvs : List (List Key × V)} {k : List Key} (e : H a = some (.dT kvs)) (eb : H b = some (.tup (k.map kV))) : DGet H a (.ref b) (yJ kvs k) := .inr ⟨kvs, k, b, .inl e, rfl, eb, rfl⟩
theorem DPut.k {H : Hp} {a : Addr} {kvs : List (Key × V)} {k : Key} {v : V} (e : H a = some (.dK kvs)) (hl : kvs.length < sizeLine) : DPut H a (kV k) v (upd H a (.dK (xR kvs k v))) := .inl ⟨kvs, k, e, rfl, hl, rfl⟩
theorem DPut.t {H : Hp} {a b : Addr} {kvs : List (List Key × V)} {k : List Key} {v : V} (e : H a = some (.dT kvs)) (eb : H b = some (.tup (k.map kV))) (hl : kvs.length < sizeLine) :
   DPut H a (.ref b) v (upd H a (.dT (xR kvs k v))) := .inr ⟨kvs, k, b, e, rfl, eb, hl, rfl⟩
section
variable {X : Cx} {pins : List (Addr × Obj)} {σ : St} {H : Hp} {s : Shared} {a : Addr} {y v : V} {u r : Value} {o : Option V} {A : Around} {E : Value -> Shared -> Prop}
theorem Inv.big (I : Inv X pins σ H s) : sysModules < s.heap.objs.size := by
 have h : mainGlobals < s.heap.objs.size := (I.mod.glob.keeps I.bk).lt
 exact Nat.lt_trans (by decide) h
theorem d_getItem {Q : Value -> Shared -> Prop} (hu : A.units + 1 < cLine) (I : Inv X pins σ H s) (g : DGet H a y (some v)) (ry : RelV y u) (h : ∀ w' s', Inv X pins σ H s' -> RelV v w' -> Q w' s') :
   wpAny (model X.prog X.w) A (getItem (.ref a) u) Q E s := by
 rcases g with ⟨kvs, k, e, ey, l⟩ | ⟨kvs, k, b, e, ey, eb, l⟩
 · subst ey
   obtain ⟨z, hd, vs, rel, dd⟩ := vG I.hok e
   obtain ⟨w', hw, rw'⟩ := RelO.some_of (v := v) (o := valueAt vs k) (by rw [l]; exact rel.val k)
   exact wpAny_getItem_of (kV_is ry) dd.mapOf hw (h w' _ (I.tok _) rw')
 · subst ey
   cases (show u = Value.ref b from ry)
   obtain ⟨z, hd, xs, rel, dd⟩ := vF I.hok e
   obtain ⟨w', hw, rw'⟩ := RelO.some_of (v := v) (o := (atKey xs k).map (·.2)) (by rw [l]; exact rel.val k)
   obtain ⟨p, hp, hp2⟩ := Option.map_eq_some_iff.mp hw
   refine wpAny_getItem_heap (tupleKind_room_in1 hu) (qJ I.hok eb) dd hp ?_
   rw [hp2]
   exact h w' _ (I.tok _) rw'
theorem d_in {Q : Value -> Shared -> Prop} (hu : A.units + 1 < cLine) (I : Inv X pins σ H s) (g : DGet H a y o) (ry : RelV y u) (h : ∀ s', Inv X pins σ H s' -> Q (.bool o.isSome) s') :
   wpAny (model X.prog X.w) A (compareOp .In u (.ref a)) Q E s := by
 rcases g with ⟨kvs, k, e, ey, l⟩ | ⟨kvs, k, b, e, ey, eb, l⟩
 · subst ey
   obtain ⟨z, hd, vs, rel, dd⟩ := vG I.hok e
   refine wpAny_in_of (kV_is ry) hd dd.mapOf ?_
   rw [← (rel.val k).isSome_eq, ← l]
   exact h _ (I.tok _)
 · subst ey
   cases (show u = Value.ref b from ry)
   obtain ⟨z, hd, xs, rel, dd⟩ := vF I.hok e
   refine wpAny_in_heap (tupleKind_room_in1 hu) (qJ I.hok eb) hd dd ?_
   have q := (rel.val k).isSome_eq
   rw [Option.isSome_map] at q
   rw [← q, ← l]
   exact h _ (I.tok _)
theorem wE {h' : Heap} {t' : Nat} {ob : HO} (I : Inv X pins σ H s) (mu : Mut (H a)) (hs : Heap.SameBut a s.heap h') (he : ∃ q, h'.get? a = some q) (new : ObjOk X.prog X.w (upd H a ob) h' a ob) :
   Inv X pins σ (upd H a ob) { s with heap := h', toks := t' } :=
 I.write (x := a) (e := a) mu (.inl rfl) (fun b q hb z => (hs.2 b hb).trans z) he new
theorem dk_new {P : Program} {w : World} {H' : Hp} {h' : Heap} {kvs : List (Key × V)} {vs : List (Key × Value)} (z : kvs.length <= sizeLine) (hd : (a == sysModules) = false) (rel : KV kvs vs) (dd : h'.DictOf (zZ P w) a vs) :
   ObjOk P w H' h' a (.dK kvs) := ⟨z, hd, vs, rel, dd⟩
theorem d_setItem {H' : Hp} {Q : Unit -> Shared -> Prop} (hu : A.units + 1 < cLine) (I : Inv X pins σ H s) (g : DPut H a y v H') (ry : RelV y u) (rv : RelV v r) (h : ∀ s', Inv X pins σ H' s' -> Q () s') :
   wpAny (model X.prog X.w) A (setItem (.ref a) u r) Q E s := by
 rcases g with ⟨kvs, k, e, ey, l, eH⟩ | ⟨kvs, k, b, e, ey, eb, l, eH⟩
 · subst ey eH
   obtain ⟨z, hd, vs, rel, dd⟩ := dk_of I.hok e
   have hz : vs.length <= sizeLine := by rw [← rel.length]; exact z
   have hl : (xR kvs k v).length <= sizeLine := by have := jD kvs k v; omega
   refine wpAny_setItem_pairs (hsz := hz) (kV_is ry) dd fun h' dd' hs => h _ ?_
   have he : ∃ q, h'.get? a = some q := let ⟨q, _, _, hq, _⟩ := dd'; ⟨q, hq⟩
   exact wE I (by rw [e]; exact True.intro) hs he (dk_new hl hd (rel.put k rv) dd')
 · subst ey eH
   cases (show u = Value.ref b from ry)
   obtain ⟨z, hd, xs, rel, dd⟩ := dt_of I.hok e
   have hz : xs.length <= sizeLine := by rw [← Paired.length rel]; exact z
   have hl : (xR kvs k v).length <= sizeLine := by have := jD kvs k v; omega
   refine wpAny_setItem_heap (hsz := hz) (tupleKind_room_in1 hu) (qJ I.hok eb) dd fun h' dd' hs => h _ ?_
   obtain ⟨q, es, ep, hq, h2, h3, h4, _, h5⟩ := dd'
   refine wE I (by rw [e]; exact True.intro) hs ⟨q, hq⟩ ⟨hl, hd, _, (rel.put k eb rv).keeps fun c ys ec => ?_, q, es, ep, hq, h2, h3, h4, h5⟩
   rw [zF (xF ec e (fun z => nomatch z))]
   exact ec
end
section
variable {X : Cx} {pins : List (Addr × Obj)} {σ : St} {H : Hp} {s : Shared} {a : Addr} {kvs : List (Key × V)} {k : Key} {u : Value} {A : Around} {E : Value -> Shared -> Prop}
end
def NoSl (i : Expr) : Prop := ∀ ov iv, subscripted i false ov iv = operate [ov, iv] (getItem ov iv)
theorem subD_of {prog : Program} {w : World} {A : Around} {E : Value -> Shared -> Prop} {s : Shared} {env : Env} {value slice : Expr} {pos : Pos} {T id : String} {Q : Value -> Shared -> Prop}
   (hl : typeLookup (.type T) "__getitem__" = pure (some (.builtin id))) (hs : NoSl slice)
   (h : wpAny (model prog w) A (eval value env) (fun o s₁ => wpAny (model prog w) A (eval slice env) (fun i s₂ => s₂.TypeIs o T /\ wpAny (model prog w) A (getItem o i) Q E s₂) E s₁) E s) :
   wpAny (model prog w) A (eval (.Subscript value slice pos) env) Q E s := by
 refine Subscript_ (wpAny_mono h (fun o s₁ h₁ => wpAny_mono h₁ (fun i s₂ h₂ => ?_) fun _ _ x => x) fun _ _ x => x)
 obtain ⟨hT, h₂⟩ := h₂
 unfold subscriptTail
 refine wpAny_bind ?_
 rw [getitemInPython_of_ne hT.not_modules]
 refine wpAny_bind (wpAny_specialOf hT hl ?_)
 have fin : wpAny (model prog w) A (subscripted slice false o i) (fun r s₃ => wpAny (model prog w) A (letTemporaryGo value o r >>= fun _ => pure r) Q E s₃) E s₂ := by
   rw [hs o i]
   exact wpAny_operating (wpAny_mono h₂ (fun r s₃ h₃ => wpAny_bind (wpAny_letTemporaryGo (wpAny_pure h₃))) fun _ _ x => x)
 first
   | exact wpAny_pure (wpAny_bind fin)
   | exact wpAny_bind (wpAny_pure (wpAny_bind fin))
   | exact wpAny_bind fin
theorem dict_typeIs {X : Cx} {pins : List (Addr × Obj)} {σ : St} {H : Hp} {s : Shared} {a : Addr} {y : V} {o : Option V} (I : Inv X pins σ H s) (g : DGet H a y o) : s.TypeIs (.ref a) "dict" := by
 rcases g with ⟨kvs, k, e, _, _⟩ | ⟨kvs, k, b, e, _, _, _⟩
 · obtain ⟨_, _, vs, _, dd⟩ := vG I.hok e
   exact dd.typeIs
 · obtain ⟨_, _, xs, _, dd⟩ := vF I.hok e
   exact dd.typeIs
def tDGet (td ty : TE) : TE := fun σ H Q => td σ H fun x H1 => ty σ H1 fun y H2 => ∃ a v, x = .ref a /\ DGet H2 a y (some v) /\ Q v H2
def tDIn (ty td : TE) : TE := fun σ H Q => ty σ H fun y H1 => td σ H1 fun x H2 => ∃ a o, x = .ref a /\ DGet H2 a y o /\ Q (.bl o.isSome) H2
def sDPut (td ty tv : TE) : TS := fun D σ H => tv σ H fun v H1 => td σ H1 fun x H2 => ty σ H2 fun y H3 => ∃ a H4, x = .ref a /\ DPut H3 a y v H4 /\ D.nx σ H4
section
variable {X : Cx} {o i e value : Expr} {pos pos' tpos : Pos} {td ty tv : TE}
theorem pe_dget (hu : X.A.units + 1 < cLine) (ho : PE X o td) (hi : PE X i ty) (hs : NoSl i) : PE X (.Subscript o i pos) (tDGet td ty) := by
 intro pins s σ H Q I h
 refine subD_of PySem.F.slot_dict_getitem.lookup hs (thn (ho pins s σ H _ I h) fun u s1 ⟨x, H1, I1, rx, q1⟩ => thn (hi pins s1 σ H1 _ I1 q1) fun iv s2 ⟨y, H2, I2, ry, a, v, ex, g, q2⟩ => ?_)
 subst ex
 obtain rfl : u = Value.ref a := rx
 exact ⟨dict_typeIs I2 g, d_getItem hu I2 g ry fun w' s3 I3 rw' => ⟨v, H2, I3, rw', q2⟩⟩
theorem pc_din (hu : X.A.units + 1 < cLine) (hi : PE X i ty) (ho : PE X o td) : PC X .In i o (tDIn ty td) := by
 intro pins s σ H Q I h
 refine thn (hi pins s σ H _ I h) fun iv s1 ⟨y, H1, I1, ry, q1⟩ => thn (ho pins s1 σ H1 _ I1 q1) fun u s2 ⟨x, H2, I2, rx, a, ov, ex, g, q2⟩ => ?_
 subst ex
 obtain rfl : u = Value.ref a := rx
 exact d_in hu I2 g ry fun s3 I3 => ⟨.bl ov.isSome, H2, I3, rfl, q2⟩
theorem ps_dput (hu : X.A.units + 1 < cLine) (ho : PE X o td) (hi : PE X i ty) (hv : PE X value tv) (hs : swapsWith value (some (.Subscript o i pos')) pos.line X.env = pure false) :
   PS X (.Assign [.Subscript o i pos'] value pos) (sDPut td ty tv) := by
 intro pins s σ H D I h
 refine wpAny_Assign_Subscript (thn (hv pins s σ H _ I h) fun r s1 ⟨v, H1, I1, rv, q1⟩ => thn (ho pins s1 σ H1 _ I1 q1) fun u s2 ⟨x, H2, I2, rx, q2⟩ => thn (hi pins s2 σ H2 _ I2 q2) fun iv s3 ⟨y, H3, I3, ry, a, H4, ex, g, q3⟩ => ?_) hs
 subst ex
 obtain rfl : u = Value.ref a := rx
 exact d_setItem hu I3 g ry rv fun s4 I4 => ⟨σ, H4, I4, q3⟩
end
theorem dt_empty {P : Program} {w : World} {H : Hp} (h : Heap) (hb : sysModules < h.objs.size) : ObjOk P w H (h.push { cls := .type "dict", data := .dict #[] }) h.objs.size (.dT []) :=
 ⟨Nat.zero_le _, beq_eq_false_iff_ne.mpr (Ne.symm (Nat.ne_of_lt hb)), [], .nil, _, #[], 0, Heap.get?_push_size _ rfl, ⟨rfl, rfl, rfl⟩, rfl, rfl, List.nodup_nil⟩
def tDNewK : TE := fun _ H Q => ∀ p, H p = none -> Q (.ref p) (upd H p (.dK []))
def tDNewT : TE := fun _ H Q => ∀ p, H p = none -> Q (.ref p) (upd H p (.dT []))
section
variable {X : Cx} {pos : Pos}
theorem pe_dnewT : PE X (.Dict [] [] pos) tDNewT := fun pins s σ H Q I h =>
 wpAny_Dict_empty ⟨.ref s.heap.objs.size, _, I.laid (a := s.heap.objs.size) (o := .dT []) (t' := s.toks) (fun _ _ q => Heap.get?_push_of_some _ q) (Nat.le_refl _) (dt_empty s.heap I.big), rfl, h _ (I.hok.fresh (Nat.le_refl _))⟩
end
def tPairs : List (TE × TE) -> St -> Hp -> (List (V × V) -> Hp -> Prop) -> Prop
 | [], _, H, Q => Q [] H
 | (tk, tv) :: r, σ, H, Q => tk σ H fun x H1 => tv σ H1 fun y H2 => tPairs r σ H2 fun ps H3 => Q ((x, y) :: ps) H3
abbrev VV : List (V × V) -> List (Value × Value) -> Prop := Paired fun p q => RelV p.1 q.1 /\ RelV p.2 q.2
def PPs (X : Cx) (pos : Pos) (keys : List (Option Expr)) (values : List Expr) (trs : List (TE × TE)) : Prop :=
 ∀ (pins : List (Addr × Obj)) (s : Shared) (σ : St) (H : Hp) (Q : List (V × V) -> Hp -> Prop), Inv X pins σ H s -> tPairs trs σ H Q ->
   wpAny (model X.prog X.w) X.A (evalPairs (pairTrees keys values X.env pos)) (fun vs s' => ∃ ps H', Inv X pins σ H' s' /\ VV ps vs /\ Q ps H') X.xe s
def mergeK (kvs more : List (Key × V)) : List (Key × V) := more.foldl (fun acc kv => xR acc kv.1 kv.2) kvs
def tDisp (trs : List (TE × TE)) : TE := fun σ H Q => ∀ p, H p = none -> tPairs trs σ (upd H p (.dK [])) fun ps H2 => H2 p = some (.dK []) /\ ∃ kvs : List (Key × V), ps = kvs.map (fun kv => (kV kv.1, kv.2)) /\ kvs.length <= 15 /\ Q (.ref p) (upd H2 p (.dK (mergeK [] kvs)))
structure M1 (X : Cx) (o : Expr) (m : Str) (apos : Pos) (e : Expr) (cpos : Pos) : Prop where
 base : attributeBase o m X.env (eval o X.env) = eval o X.env
 few : ((backTo cpos (starEach [e] X.env)).all (fun x => !x.1) && (backToKw cpos (keywordEach [] X.env)).all (fun x => x.1.isSome)
   && decide (([e] : List Expr).length + ([] : List Keyword).length + (if ([] : List Keyword).isEmpty then 0 else 1) < 30)) = true
 line : (apos.endLine == cpos.line) = true
 trees : backTo cpos (starEach [e] X.env) = [(false, eval e X.env)]
structure M2 (X : Cx) (o : Expr) (m : Str) (apos : Pos) (e f : Expr) (cpos : Pos) : Prop where
 base : attributeBase o m X.env (eval o X.env) = eval o X.env
 few : ((backTo cpos (starEach [e, f] X.env)).all (fun x => !x.1) && (backToKw cpos (keywordEach [] X.env)).all (fun x => x.1.isSome)
   && decide (([e, f] : List Expr).length + ([] : List Keyword).length + (if ([] : List Keyword).isEmpty then 0 else 1) < 30)) = true
 line : (apos.endLine == cpos.line) = true
 trees : backTo cpos (starEach [e, f] X.env) = [(false, eval e X.env), (false, eval f X.env)]
def IsD (H : Hp) (a : Addr) : Prop := (∃ kvs, Rd H a (.dK kvs)) \/ ∃ kvs, Rd H a (.dT kvs)
theorem isD_at {X : Cx} {pins : List (Addr × Obj)} {σ : St} {H : Hp} {s : Shared} {a : Addr} (I : Inv X pins σ H s) (d : IsD H a) :
   s.TypeIs (.ref a) "dict" /\ (∀ b, Value.ref a = .ref b -> ∃ ob, s.heap.get? b = some ob /\ ob.dict = none) /\ (a == sysModules) = false := by
 rcases d with ⟨kvs, e⟩ | ⟨kvs, e⟩
 · obtain ⟨_, hd, vs, _, dd⟩ := vG I.hok e
   refine ⟨dd.typeIs, fun b q => ?_, hd⟩
   cases q
   obtain ⟨ob, _, _, h1, h2, _⟩ := dd
   exact ⟨ob, h1, h2.2.1⟩
 · obtain ⟨_, hd, xs, _, dd⟩ := vF I.hok e
   refine ⟨dd.typeIs, fun b q => ?_, hd⟩
   cases q
   obtain ⟨ob, _, _, h1, h2, _⟩ := dd
   exact ⟨ob, h1, h2.2.1⟩
section
variable {X : Cx} {pins : List (Addr × Obj)} {σ : St} {H : Hp} {s : Shared} {a : Addr} {y d : V} {u r : Value} {o : Option V} {A : Around} {E : Value -> Shared -> Prop}
theorem d_get2 {Q : Value -> Shared -> Prop} (hu : A.units + 1 < cLine) (I : Inv X pins σ H s) (g : DGet H a y o) (ry : RelV y u) (rd : RelV d r) (h : ∀ w' s', Inv X pins σ H s' -> RelV (o.getD d) w' -> Q w' s') :
   wpAny (model X.prog X.w) A (call (.builtin "dict.get") [.ref a, u, r]) Q E s := by
 rcases g with ⟨kvs, k, e, ey, l⟩ | ⟨kvs, k, b, e, ey, eb, l⟩
 · subst ey
   obtain ⟨z, hd, vs, rel, dd⟩ := vG I.hok e
   refine call_meetsIn PySem.F.slot_dict_get dd.typeIs PySem.F.entry_dict_get (PySem.F.args_dict_get_3 _ _ _) (meets_dict_get_default (zZ X.prog X.w) a (kV_is ry) hd r) ⟨_, dd.mapOf, h _ _ (I.tok _) ?_⟩
   rw [l]
   exact (rel.val k).getD rd
 · subst ey
   cases (show u = Value.ref b from ry)
   obtain ⟨z, hd, xs, rel, dd⟩ := vF I.hok e
   refine call_meetsIn PySem.F.slot_dict_get dd.typeIs PySem.F.entry_dict_get (PySem.F.args_dict_get_3 _ _ _) (meetsH_dict_get_default (tupleKind (zZ X.prog X.w)) a b hd r) ⟨tupleKind_room_in1 hu, k, xs, qJ I.hok eb, dd, h _ _ (I.tok _) ?_⟩
   rw [l]
   exact (rel.val k).getD rd
end
def tDGet2 (td ty tx : TE) : TE := fun σ H Q => td σ H fun x H1 => ∃ a, x = .ref a /\ IsD H1 a /\ ty σ H1 fun y H2 => tx σ H2 fun z H3 => ∃ o, DGet H3 a y o /\ Q (o.getD z) H3
section
variable {X : Cx} {o e f : Expr} {apos cpos : Pos} {td ty tx : TE}
theorem pe_dget2 (hu : X.A.units + 1 < cLine) (ho : PE X o td) (he : PE X e ty) (hf : PE X f tx) (m : M2 X o "get" apos e f cpos) : PE X (.Call (.Attribute o "get" apos) [e, f] [] cpos) (tDGet2 td ty tx) := by
 intro pins s σ H Q I h
 refine wpAny_Call_method m.base m.few m.line PySem.F.plainAttrs_dict PySem.F.slot_dict_get PySem.F.type_dict_get (thn (ho pins s σ H _ I h) fun u s1 ⟨x, H1, I1, rx, a, ex, d, q1⟩ => ?_)
 subst ex
 obtain rfl : u = Value.ref a := rx
 obtain ⟨t1, t2, _⟩ := isD_at I1 d
 refine ⟨t1, t2, ?_⟩
 rw [m.trees]
 refine Calls.callWith_builtin rfl (Calls.evalArgs_plain (Calls.spliced_cons (thn (he pins s1 σ H1 _ I1 q1) fun iv s2 ⟨y, H2, I2, ry, q2⟩ =>
   Calls.spliced_cons (thn (hf pins s2 σ H2 _ I2 q2) fun fv s3 ⟨z, H3, I3, rz, ov, g, q3⟩ => Calls.spliced_nil ?_))))
 exact d_get2 hu I3 g ry rz fun w' s4 I4 rw' => ⟨_, H3, I4, rw', q3⟩
end
section
variable {X : Cx} {pins : List (Addr × Obj)} {σ : St} {H : Hp} {s : Shared} {a : Addr} {kvs : List (Key × V)} {A : Around} {E : Value -> Shared -> Prop}
end
section
variable {X : Cx} {pins : List (Addr × Obj)} {σ : St} {H : Hp} {s : Shared} {a : Addr} {y : V} {u : Value} {A : Around} {E : Value -> Shared -> Prop}
end
end L2
namespace Att
open PySem PySem.W PySem.Calls PyProof.Rows
theorem qO {P : Params} {h : Heap} : ∀ (ns : List Int) (vs : List Value), WellAll P h vs (ns.map WData.int) -> IntsAre vs ns := by
 intro ns
 induction ns with
 | nil =>
   intro vs w
   rw [List.map_nil] at w
   cases w
   exact .nil
 | cons n ns ih =>
   intro vs w
   rw [List.map_cons] at w
   cases w with
   | cons a b =>
     cases a
     exact .cons _ _ (ih _ b)
theorem script_of {l : OpenLaw} {n : Nat} (hn : l.most = some n) {P : Params} {h : Heap} {args : List WData} {vals : List Value}
   (hpre : l.row.toRowW.claim.pre args = true) (hwl : WellAll P h vals args) :
   ∃ a vs ns, vals = [Value.ref a] /\ args = [WData.list (ns.map WData.int)] /\ h.get? a = some { cls := .type "list", data := .seq vs.toArray } /\ IntsAre vs ns /\ ns.length <= n := by
 have hsh : WShape.hasAll [] args [.list .int] = true := (pre_splitW hpre).1
 have hc : l.pre.holds [] { args := args } = true := (pre_splitW hpre).2
 obtain ⟨d, r, rfl, h1, h2⟩ := hasAllW_cons hsh
 obtain rfl := hasAllW_nil h2
 obtain ⟨xs, rfl, h3⟩ := hasW_list h1
 obtain ⟨ns, rfl⟩ := items_int h3
 have hlen : ns.length <= n := by
   unfold OpenLaw.pre at hc
   have h4 : (WTm.not (.lt (.lit (.int (n : Int))) (.len (.arg 0)))).holds [] { args := [.list (ns.map .int)] } = true := by
     have h4 := (holds_andW hc).1
     rw [hn] at h4
     exact h4
   have h5 := condW_of h4 (w_not (w_lt w_lit (w_len_list (w_arg rfl))))
   rw [List.length_map] at h5
   refine Nat.le_of_not_lt fun q => ?_
   have q' : (n : Int) < ((ns.length : Nat) : Int) := by omega
   first
     | (rw [decide_eq_true q'] at h5; exact absurd h5 (by decide))
     | (simp at h5; omega)
 cases hwl with
 | cons w1 w2 =>
   cases w2
   cases w1 with
   | list ho hall => exact ⟨_, _, ns, rfl, rfl, ho, qO ns _ hall, hlen⟩
theorem post_true (l : OpenLaw) (args : List WData) : l.row.toRowW.claim.post args (.bool true) args = true :=
 postW_of (r := l.row.toRowW) (X := (true == true))
   (show WShape.has [] (.bool true) .bool = true by first | rfl | decide | simp [WShape.has, WShape.arms, WShape.armsAll])
   (show (WTm.eq .res (.lit (.bool true))).value [] { args := args, res := some (.bool true), after := args } = some (.bool (true == true)) from w_eq_bool (w_res rfl) w_lit) rfl
theorem attach_call {l : OpenLaw} {n : Nat} {q : Program} {loose : List Str} {XP : (Str -> Option Value) -> Heap -> Prop} {YP : World -> Heap -> Prop} {d : DefRec}
   (hn : l.most = some n) (hdf : d.params.defaults = [])
   (call : ∀ (w : World) (s₀ s₁ : Shared) (mg mb : Str -> Option Value) (fa : Addr) (o : Obj) (pm cd doc : Value) (a : Addr) (vs : List Value) (ns : List Int),
     Ground q loose [] XP w s₀ mg mb s₁.heap -> YP w s₁.heap ->
     s₁.heap.get? fa = some o -> o.data = .func (docDef d.name d.params d.body d.scope pm cd doc) -> s₁.heap.CodeRec cd d.name -> mg d.name = some (.ref fa) ->
     s₁.heap.get? a = some { cls := .type "list", data := .seq vs.toArray } -> IntsAre vs ns -> ns.length <= n -> s₁.gens = #[] ->
     codeAny (model l.prog w) callerA (.call (.ref fa) ⟨[.ref a], []⟩) (fun r s' => r = .ok (.ret (.bool true)) /\ OldK s₁.heap s'.heap /\ s'.os = s₁.os /\ AllBare s'.gens) s₁) :
   WalkO q loose XP YP l.row.toRowW d [] (fun f vs => PySem.call f vs) := by
 intro w s₀ s₁ mg mb G Y fa o pm cd doc dV kV ho hd hcd hD hmg hg args vals as hpre hlay hrd hwl hlo
 obtain rfl : dV = .none := Dflts.none hD hdf
 obtain rfl : kV = .none := Dflts.noKw hD
 obtain ⟨a, vs, ns, rfl, rfl, hobj, hints, hlen⟩ := script_of hn hpre hwl
 refine enter_call (codeAny_mono (call w s₀ s₁ mg mb fa o pm cd doc a vs ns G Y ho (fd_plain hd) hcd hmg hobj hints hlen hg) fun r s' hq => ?_)
 obtain ⟨rfl, h2, h3, h4⟩ := hq
 exact ⟨.inl ⟨.bool true, .bool true, [], rfl, fun _ => rfl, .bool true, post_true l _, fun _ => ⟨List.Pairwise.nil, fun _ hm => (nomatch hm)⟩⟩, h2, h3, h4⟩
section
variable {prog : Program} {w : World} {A : Around} {E : Value -> Shared -> Prop} {s : Shared} {K : Frag}
end
end Att
namespace L2
open PySem PySem.Spec PyProof.Rows
theorem vals_ints : ∀ {vs : List Value} {ns : List Int}, IntsAre vs ns -> Vals (ns.map V.int) vs
 | _, _, .nil => .nil
 | _, _, .cons n t h => .cons ⟨t, rfl⟩ (vals_ints h)
def Only (H : Hp) : Prop := ∀ b, H b = none \/ ∃ o xs, H b = some (.frz o (.lst xs))
theorem law_call {P : Program} {w : World} {K : PySem.W.Frag} {mg mb : Str -> Option Value} {CX : CXT} {k : Nat} {fa a : Addr} {fd : FuncData} {x : Str} {sp : Sp} {s₁ : Shared} {vs : List Value} {ns : List Int}
   (KX : K.In s₁.heap) (hns : s₁.heap.Ns mainGlobals mg) (hb : s₁.heap.Ns builtinsNs mb) (hbb : ∀ x : Str, x ≠ "__name__" -> mb x = bootBuiltins x) (hlim : s₁.heap.NoLimit) (hg : s₁.gens = #[])
   (ha : s₁.heap.get? a = some { cls := .type "list", data := .seq vs.toArray }) (hi : IntsAre vs ns) (hl : ns.length <= sizeLine) (hr : Room k callerA)
   (F : ∀ base : Heap, K.In base -> base.Ns mainGlobals mg -> FnOk P w K mg base CX k fa fd [x] sp) (hbind : ∀ (s : Shared) (u : Value), BindsTo s fd ⟨[u], []⟩ [(x, u)])
   (hsp : ∀ H : Hp, Only H -> SqL K H a (ns.map V.int) -> sp [.ref a] H (fun v _ => v = .bl true) fun _ _ _ => False)
   (hCX : ∀ H e s', CX [] H s₁ (fun _ _ _ => False) e s' -> False) :
   codeAny (model P w) callerA (.call (.ref fa) ⟨[.ref a], []⟩) (fun r s' => r = .ok (.ret (.bool true)) /\ OldK s₁.heap s'.heap /\ s'.os = s₁.os /\ AllBare s'.gens) s₁ := by
 have rv := vals_ints hi
 have lenV := hi.length
 have core : ∀ H : Hp, Only H -> SqL K H a (ns.map V.int) -> HOk P w H s₁.heap -> (∀ b, H b ≠ none -> b = a) -> (H a ≠ none -> K.lookup a = none) ->
     codeAny (model P w) callerA (.call (.ref fa) ⟨[.ref a], []⟩) (fun r s' => r = .ok (.ret (.bool true)) /\ OldK s₁.heap s'.heap /\ s'.os = s₁.os /\ AllBare s'.gens) s₁ := by
   intro H hO hS hok hA hK
   have base_of : ∀ {b : Addr} {o : Obj}, s₁.heap.get? b = some o -> H b = none -> (vY s₁.heap H).get? b = some o := fun e n => hidT_get e n
   have noA : ∀ {b : Addr} {o : Obj} {es : Array DictEntry} {ep : Nat}, s₁.heap.get? b = some o -> o.data = .dict es ep -> H b = none := fun {b o es ep} e d => by
     cases q : H b with
     | none => rfl
     | some u =>
       have e' : b = a := hA b (by rw [q]; simp)
       subst e'
       rw [ha] at e; cases e
       have d' : Data.seq vs.toArray _ = Data.dict es ep := d
       cases d'
   have nsK : ∀ {b : Addr} {m : Str -> Option Value}, s₁.heap.Ns b m -> (vY s₁.heap H).Ns b m := fun {b m} ⟨o, es, ep, e, d, r⟩ => ⟨o, es, ep, base_of e (noA e d), d, r⟩
   have hKb : K.In (vY s₁.heap H) := fun b o e => base_of (KX b o e) (by
     cases q : H b with
     | none => rfl
     | some u =>
       have e' : b = a := hA b (by rw [q]; simp)
       subst e'
       rw [hK (by rw [q]; simp)] at e; cases e)
   have hM : Mod K mg (vY s₁.heap H) := ⟨hKb, nsK hns, ⟨mb, nsK hb, hbb⟩, let ⟨mc, h1, h2⟩ := hlim; ⟨mc, nsK h1, h2⟩⟩
   have e0 : Env0 P w K mg (vY s₁.heap H) callerA [] s₁ H := ⟨rfl, hM, fun b o e => of_hidT e, Nat.le_of_eq (hidT_size _ _), trivial, fun b hb => absurd (show b ∈ ([] : List Addr) from hb) (by simp), hok, .of_eq hg⟩
   refine codeAny_mono ((F _ hKb (nsK hns)).run callerA [] s₁ H ⟨[.ref a], []⟩ [.ref a] [.ref a] _ _ hr e0 (hbind s₁ (.ref a)) (.cons rfl .nil) (hsp H hO hS)) fun r s' h => ?_
   cases r with
   | error e => exact (hCX H e s' h).elim
   | ok fl =>
     cases fl with
     | next => exact False.elim h
     | brk => exact False.elim h
     | cont => exact False.elim h
     | ret u =>
       obtain ⟨v, H', os, bare, un, hok', r', q⟩ := h
       have q' : v = .bl true := q
       subst q'
       obtain rfl : u = Value.bool true := r'
       refine ⟨rfl, OldK.of_keep fun b o e => ?_, os, bare⟩
       cases q : H b with
       | none => exact un.keep b o e q (by intro z; exact absurd (show b ∈ ([] : List Addr) from z) (by simp)) (by simp)
       | some u =>
         rcases hO b with z | ⟨ob, xs, z⟩
         · rw [q] at z; cases z
         · have z2 := un.frzs b ob _ z
           obtain ⟨e1, _⟩ := hok b _ z
           obtain ⟨e2, _⟩ := hok' b _ z2
           rw [e] at e1; cases e1
           exact e2
 cases hk : K.lookup a with
 | some o =>
   have e := KX a o hk
   rw [ha] at e
   cases e
   refine core (fun _ => none) (fun _ => .inl rfl) (.inr ⟨_, vs.toArray, _, hk, rfl, rfl, rfl, by rw [List.size_toArray, lenV]; exact hl, by simpa using rv⟩) (fun b u z => by have z' : (none : Option HO) = some u := z; cases z') (fun b z => absurd rfl z) fun z => absurd rfl z
 | none =>
   refine core (fun b => if b = a then some (.frz { cls := .type "list", data := .seq vs.toArray } (.lst (ns.map V.int))) else none) (fun b => ?_) (.inl (.inr ⟨{ cls := .type "list", data := .seq vs.toArray }, if_pos rfl⟩)) (fun b u z => ?_) (fun b z => ?_) fun _ => hk
   · by_cases hb : b = a
     · exact .inr ⟨_, _, if_pos hb⟩
     · exact .inl (if_neg hb)
   · by_cases hb : b = a
     · have z' := (if_pos hb).symm.trans z
       cases z'
       subst hb
       exact ⟨ha, by rw [List.length_map]; exact hl, vs, _, rv, ha⟩
     · have z' := (if_neg hb).symm.trans z
       cases z'
   · by_cases hb : b = a
     · exact hb
     · exact absurd (if_neg hb) z
theorem walk_of {l : PySem.W.OpenLaw} {n k : Nat} {q : Program} {loose : List Str} {XP : (Str -> Option Value) -> Heap -> Prop} {YP : World -> Heap -> Prop} {d : DefRec} {K : Params -> PySem.W.Frag} {CX : World -> CXT} {sp : World -> Sp} {x : Str}
   (hn : l.most = some n) (hn2 : n <= sizeLine) (hdf : d.params.defaults = []) (hr : Room k callerA)
   (hY : ∀ (w : World) (h : Heap), YP w h -> (K w.params).In h)
   (F : ∀ (w : World) (mg : Str -> Option Value) (fa : Addr) (h : Heap), (K w.params).In h -> h.Ns mainGlobals mg -> mg d.name = some (.ref fa) ->
     ∃ fd : FuncData, (∀ (s : Shared) (u : Value), BindsTo s fd ⟨[u], []⟩ [(x, u)]) /\
       ∀ base : Heap, (K w.params).In base -> base.Ns mainGlobals mg -> FnOk l.prog w (K w.params) mg base (CX w) k fa fd [x] (sp w))
   (hsp : ∀ (w : World) (H : Hp) (a : Addr) (ns : List Int), ns.length <= n -> Only H -> SqL (K w.params) H a (ns.map V.int) -> sp w [.ref a] H (fun v _ => v = .bl true) fun _ _ _ => False)
   (hCX : ∀ (w : World) (H : Hp) (s : Shared) (e : Value) (s' : Shared), CX w [] H s (fun _ _ _ => False) e s' -> False) :
   PySem.W.WalkO q loose XP YP l.row.toRowW d [] (fun f vs => PySem.call f vs) := by
 refine Att.attach_call hn hdf fun w s₀ s₁ mg mb fa o pm cd doc a vs ns G Y ho hd hcd hmg hobj hints hlen hg => ?_
 have KX := hY w _ Y
 obtain ⟨fd, hb, hF⟩ := F w mg fa _ KX G.T.g hmg
 exact law_call KX G.T.g G.T.b G.T.builtins G.T.nolimit hg hobj hints (Nat.le_trans hlen hn2) hr hF hb (fun H hO hS => hsp w H a ns hlen hO hS) fun H e s' => hCX w H s₁ e s'
def qW (s : Stmt) (j : Nat) : Stmt := match s with
 | .ClassDef _ _ _ body _ _ _ _ _ _ _ => body.getD j (.Pass ⟨0, 0, 0, 0⟩)
 | _ => .Pass ⟨0, 0, 0, 0⟩
def zW (s : Stmt) : Arguments := match s with
 | .FunctionDef _ a _ _ _ _ _ _ _ _ => a
 | _ => { posonlyargs := [], args := [], vararg := none, kwonlyargs := [], kw_defaults := [], kwarg := none, defaults := [] }
def zU (s : Stmt) : List Stmt := match s with
 | .FunctionDef _ _ b _ _ _ _ _ _ _ => b
 | _ => []
def zG (s : Stmt) : Scope := match s with
 | .FunctionDef _ _ _ _ _ _ sc _ _ _ => sc
 | _ => { kind := .function, names := [], isGenerator := false, isCoroutine := false }
abbrev CX0 : CXT := fun _ _ _ _ _ _ => False
abbrev E0 : XK := fun _ _ _ => False
theorem pass0 {X : Cx} : qK CX0 X E0 := fun _ _ _ _ _ _ _ h => h.elim
structure Fun (K : PySem.W.Frag) (x qual : Str) (st : Stmt) (f : Addr) (fd : FuncData) : Prop where
 ex : ∃ (oc : Value) (od : Option Addr) (kV doc pm : Value) (an : Option Addr) (cdv ct : Value) (osl : Array (Option Value)),
   fd = PySem.W.fnOf x qual (zW st) (zU st) (zG st) .none kV doc pm an cdv ct /\ K.lookup f = some ⟨oc, od, .func fd, osl⟩ /\ PySem.W.codeIn K cdv qual = true
 kp : PySem.W.keepIn K (.ref f) = true
section
variable {P : Program} {w : World} {K : PySem.W.Frag} {mg : Str -> Option Value} {base : Heap}
theorem Fun.ok {x qual : Str} {st : Stmt} {f : Addr} {fd : FuncData} {N ps : List Str} {k : Nat} {sp : Sp} (F : Fun K x qual st f fd) (S : FnScope N ps (zG st)) (len : ∀ vs H Q E, sp vs H Q E -> vs.length = ps.length)
   (hbody : ∀ (cdv : Value) (A : Around) (outer : List Env) (s : Shared) (H : Hp) (vs : List V) (Q : VK) (E : XK), Room k (A.deeper (envOfC qual (zG st) s.heap.objs.size f cdv)) -> sp vs H Q E ->
     ∃ t, PSs (uQ CX0 P w K mg base N qual (zG st) f cdv A outer s H E).nox (zU st) t /\ t { nx := fun _ H' => Q .non H', rt := Q } (start N vs) H) : FnOk P w K mg base CX0 (k + 1) f fd ps sp := by
 obtain ⟨oc, od, kV, doc, pm, an, cdv, ct, osl, rfl, lk, hcd⟩ := F.ex
 refine fn_of lk hcd S len fun A outer s H vs Q E hr hsp => ?_
 obtain ⟨t, h, q⟩ := hbody cdv A outer s H vs Q E hr hsp
 exact ⟨t, h.nox, q⟩
theorem Fun.binds {x qual : Str} {st : Stmt} {f : Addr} {fd : FuncData} {ps : List Str} (F : Fun K x qual st f fd)
   (h : ∀ (kV doc pm : Value) (an : Option Addr) (cdv ct : Value) (us : List Value), us.length = ps.length -> bindArgs (PySem.W.fnOf x qual (zW st) (zU st) (zG st) .none kV doc pm an cdv ct) ⟨us, []⟩ = pure (ps.zip us)) : Binds K fd ps [] := by
 obtain ⟨oc, od, kV, doc, pm, an, cdv, ct, osl, rfl, lk, hcd⟩ := F.ex
 exact .all (h kV doc pm an cdv ct)
theorem yG {x qual : Str} {st : Stmt} {f : Addr} {oc : Value} {od an : Option Addr} {osl : Array (Option Value)} {kV doc pm cdv ct : Value} (l : K.lookup f = some ⟨oc, od, .func (PySem.W.fnOf x qual (zW st) (zU st) (zG st) .none kV doc pm an cdv ct), osl⟩)
   (c : PySem.W.codeIn K cdv qual = true) (k : PySem.W.keepIn K (.ref f) = true) : Fun K x qual st f (PySem.W.fnOf x qual (zW st) (zU st) (zG st) .none kV doc pm an cdv ct) := ⟨⟨oc, od, kV, doc, pm, an, cdv, ct, osl, rfl, l, c⟩, k⟩
end
theorem hu_of {A : Around} {k : Nat} (hr : Room k A) : A.units + 1 < cLine := Nat.lt_of_le_of_lt (Nat.add_le_add_left (by decide : 1 <= 64) _) hr.units
theorem jJ {n : Nat} (h : n <= 1000) : n < sizeLine := Nat.lt_of_le_of_lt h (by decide)
section
variable {X : Cx}
theorem pv (i : Nat) {x : Str} {pos : Pos} (hN : X.N[i]? = some x := by rfl) (hv : Vis X.env.scope x := by first | exact Or.inl rfl | exact Or.inr (Or.inl rfl) | exact Or.inr (Or.inr rfl)) (hd : (x == ("__debug__" : Str)) = false := by decide)
   (hcd : (x == ("__classdict__" : Str)) = false := by decide) : PE X (.Name x pos) (tVar i) := pe_var hN hv hd hcd
end
theorem iteF {A B : Prop} (h : B) : if false = true then A else B := by
 rw [if_neg Bool.false_ne_true]
 exact h
theorem iteT {A B : Prop} (h : A) : if true = true then A else B := by
 rw [if_pos rfl]
 exact h
def Same (H H' : Hp) : Prop := ∀ b o, H b = some o -> H' b = some o
theorem Same.refl (H : Hp) : Same H H := fun _ _ h => h
theorem Same.trans {H H1 H2 : Hp} (a : Same H H1) (b : Same H1 H2) : Same H H2 := fun c o h => b c o (a c o h)
theorem Same.free {H H' : Hp} (e : Same H H') {l : Addr} (h : H' l = Option.none) : H l = Option.none := by
 cases q : H l with
 | none => rfl
 | some o =>
   rw [e l o q] at h
   cases h
theorem Same.seq {K : PySem.W.Frag} {H H' : Hp} {a : Addr} {xs : List V} (e : Same H H') (h : SqL K H a xs) : SqL K H' a xs := by
 rcases h with (h | ⟨o, h⟩) | h
 · exact .inl (.inl (e _ _ h))
 · exact .inl (.inr ⟨o, e _ _ h⟩)
 · exact .inr h
section
variable {X : Cx}
end
section
variable {κ : Type} [DecidableEq κ]
end
def xA (env : Env) : List (Str × NameKind) -> List (Str × Addr) -> List (Str × Addr)
 | [], cs => cs
 | (n, k) :: r, cs => if (k == NameKind.free) = true then xA env r ((n, (env.cells.lookup n).getD 0) :: cs) else xA env r cs
theorem jP {scope : Scope} {env : Env} (h : ∀ x ∈ scope.names, x.2 = .free -> ∃ c, env.cells.lookup x.1 = some c) : closureFor scope env = pure (xA env scope.names []) := by
 unfold closureFor
 have go : ∀ (l : List (Str × NameKind)) (cs : List (Str × Addr)), (∀ x ∈ l, x.2 = .free -> ∃ c, env.cells.lookup x.1 = some c) ->
     (forIn l cs fun (x : Str × NameKind) (r : List (Str × Addr)) => (match x with
       | (name, kind) => if (kind == NameKind.free) = true then do let a ← cellOf env name; pure (ForInStep.yield ((name, a) :: r)) else pure (ForInStep.yield r) : Sem (ForInStep (List (Str × Addr))))) = (pure (xA env l cs) : Sem (List (Str × Addr))) := by
   intro l
   induction l with
   | nil => intro cs _; rfl
   | cons x r ih =>
     intro cs hl
     obtain ⟨n, k⟩ := x
     rw [List.forIn_cons]
     by_cases hk : (k == NameKind.free) = true
     · obtain ⟨c, hc⟩ := hl (n, k) List.mem_cons_self (by simpa using hk)
       have e : cellOf env n = pure c := by unfold cellOf; rw [hc]
       simp only [hk, if_true, e, pure_bind]
       rw [ih _ fun y hy => hl y (List.mem_cons_of_mem _ hy)]
       rw [xA, if_pos hk, hc]
       rfl
     · simp only [hk, if_false, Bool.false_eq_true, pure_bind]
       rw [ih _ fun y hy => hl y (List.mem_cons_of_mem _ hy)]
       rw [xA, if_neg hk]
 have q := go scope.names [] h
 simp only [pure_bind, bind_pure] at q ⊢
 exact q
theorem xX {env : Env} {y : Str} {c : Addr} : ∀ (l : List (Str × NameKind)) (cs : List (Str × Addr)), (∀ x ∈ l, x.2 = .free -> ∃ c, env.cells.lookup x.1 = some c) ->
   (∀ z d, cs.lookup z = some d -> env.cells.lookup z = some d) -> (xA env l cs).lookup y = some c -> env.cells.lookup y = some c
 | [], cs, _, hc, e => hc _ _ e
 | (n, k) :: r, cs, h, hc, e => by
   have hr : ∀ x ∈ r, x.2 = .free -> ∃ c, env.cells.lookup x.1 = some c := fun x hx => h x (List.mem_cons_of_mem _ hx)
   by_cases hk : (k == NameKind.free) = true
   · rw [xA, if_pos hk] at e
     refine xX r _ hr (fun z d ez => ?_) e
     obtain ⟨c', hc'⟩ := h (n, k) List.mem_cons_self (by simpa using hk)
     rw [List.lookup_cons] at ez
     cases hz : z == n with
     | true =>
       rw [hz] at ez
       have hz' : z = n := eq_of_beq hz
       subst hz'
       have e2 : (env.cells.lookup z).getD 0 = d := Option.some.inj ez
       have hc'' : env.cells.lookup z = some c' := hc'
       rw [hc''] at e2 ⊢
       exact congrArg some e2
     | false => rw [hz] at ez; exact hc z d ez
   · rw [xA, if_neg hk] at e
     exact xX r cs hr hc e
theorem jN {env : Env} {y : Str} : ∀ (l : List (Str × NameKind)) (cs : List (Str × Addr)), ((y, NameKind.free) ∈ l \/ ∃ c, cs.lookup y = some c) -> ∃ c, (xA env l cs).lookup y = some c
 | [], cs, h => h.elim (fun z => nomatch z) fun z => z
 | (n, k) :: r, cs, h => by
   by_cases hk : (k == NameKind.free) = true
   · rw [xA, if_pos hk]
     refine jN r _ ?_
     rcases h with h | ⟨c, h⟩
     · rcases List.mem_cons.mp h with h | h
       · cases h
         exact .inr ⟨_, by rw [List.lookup_cons, beq_self_eq_true]⟩
       · exact .inl h
     · cases hz : y == n with
       | true => exact .inr ⟨_, by rw [List.lookup_cons, hz]⟩
       | false => exact .inr ⟨c, by rw [List.lookup_cons, hz]; exact h⟩
   · rw [xA, if_neg hk]
     refine jN r _ ?_
     rcases h with h | h
     · rcases List.mem_cons.mp h with h | h
       · cases h
         exact absurd rfl hk
       · exact .inl h
     · exact .inr h
theorem xK {env : Env} : ∀ {names : List (Str × NameKind)} {x : Str} {k' : NameKind},
   (names.map fun (n, k) => if (k == NameKind.free && env.scope.kind == .function && env.kindOf n == some .cell) then (n, NameKind.cell) else (n, k)).lookup x = some k' ->
   names.lookup x = some k' \/ (names.lookup x = some .free /\ k' = .cell)
 | [], _, _, h => by simp at h
 | (n, k) :: r, x, k', h => by
   have ih := @xK env r x k'
   have h : List.lookup x ((if (k == NameKind.free && env.scope.kind == .function && env.kindOf n == some .cell) = true then (n, NameKind.cell) else (n, k)) :: _) = some k' := h
   rw [List.lookup_cons]
   by_cases hc : (k == NameKind.free && env.scope.kind == .function && env.kindOf n == some .cell) = true
   · rw [if_pos hc, List.lookup_cons] at h
     cases hx : x == n with
     | true =>
       rw [hx] at h
       have e1 : NameKind.cell = k' := Option.some.inj h
       simp only [Bool.and_eq_true] at hc
       exact .inr ⟨congrArg some (eq_of_beq hc.1.1), e1.symm⟩
     | false => rw [hx] at h; exact ih h
   · rw [if_neg hc, List.lookup_cons] at h
     cases hx : x == n with
     | true => rw [hx] at h; exact .inl h
     | false => rw [hx] at h; exact ih h
theorem jZ {env : Env} : ∀ {names : List (Str × NameKind)} {x : Str}, names.lookup x = some .free ->
   (names.map fun (n, k) => if (k == NameKind.free && env.scope.kind == .function && env.kindOf n == some .cell) then (n, NameKind.cell) else (n, k)).lookup x = some .cell \/
   (names.map fun (n, k) => if (k == NameKind.free && env.scope.kind == .function && env.kindOf n == some .cell) then (n, NameKind.cell) else (n, k)).lookup x = some .free
 | [], _, h => by simp at h
 | (n, k) :: r, x, h => by
   have ih := @jZ env r x
   show List.lookup x ((if (k == NameKind.free && env.scope.kind == .function && env.kindOf n == some .cell) = true then (n, NameKind.cell) else (n, k)) :: _) = _ \/ List.lookup x ((if (k == NameKind.free && env.scope.kind == .function && env.kindOf n == some .cell) = true then (n, NameKind.cell) else (n, k)) :: _) = _
   rw [List.lookup_cons] at h
   by_cases hc : (k == NameKind.free && env.scope.kind == .function && env.kindOf n == some .cell) = true
   · rw [if_pos hc, List.lookup_cons]
     cases hx : x == n with
     | true => exact .inl rfl
     | false => rw [hx] at h; exact ih h
   · rw [if_neg hc, List.lookup_cons]
     cases hx : x == n with
     | true => rw [hx] at h; exact .inr h
     | false => rw [hx] at h; exact ih h
structure LcScope (xs ys : List Str) (scope around : Scope) : Prop where
 kind : scope.kind = .function
 nd : (xs ++ ys).Nodup
 own : ∀ x ∈ xs, scope.names.lookup x = some .local
 cap : ∀ y ∈ ys, scope.names.lookup y = some .free /\ (around.names.lookup y = some .cell \/ around.names.lookup y = some .free)
 nocell : ∀ y ∈ scope.names, y.2 ≠ .cell
 names : ∀ y ∈ scope.names, y.2 = .local -> scope.names.lookup y.1 = some .local
 free : ∀ y ∈ scope.names, y.2 = .free -> y.1 ∈ ys
def yB (X : Cx) (xs ys : List Str) (scope : Scope) (C : Addr) (s₀ : Shared) (H₀ : Hp) (fp : List Addr) : Cx where
 prog := X.prog
 w := X.w
 K := X.K
 mg := X.mg
 base := X.base
 A := X.A
 N := xs ++ ys
 s₀ := s₀
 H₀ := H₀
 env := compEnvC scope (xA X.env scope.names []) C X.env
 outer := X.stack
 stack := X.stack
 ex := fp
 fn := fun _ => false
 calm := X.calm
 pn := []
 xe := fun _ _ => False
def lcSt (xs : List Str) (js : List Nat) (σ : St) : St := xs.map (fun _ => none) ++ js.map fun j => (σ[j]?).join
def LcW (J : It) (n : List Str) (js : List Nat) (g : TG) (tc : Option TT) (te : TE) (σ : St) (H1 : Hp) (Q : VK) : Prop := ∃ W : Nat -> Nat -> List V -> St -> Hp -> Prop, (∃ m, W 0 m [] (lcSt n js σ) H1) /\ ∀ i m ys σ1 H, W i m ys σ1 H ->
 (J.stop i H /\ ∀ p, H p = none -> Q (.ref p) (upd H p (.lst ys))) \/
 (J.go i H /\ ys.length < sizeLine /\ ∀ x H', J.yld i H x H' -> g x σ1 H' fun σ2 H2 => match tc with
   | none => te σ2 H2 fun y H3 => ∃ m', m' < m /\ W (i + 1) m' (ys ++ [y]) σ2 H3
   | some c => c σ2 H2 fun b H3 => if b = true then te σ2 H3 fun y H4 => ∃ m', m' < m /\ W (i + 1) m' (ys ++ [y]) σ2 H4 else ∃ m', m' < m /\ W (i + 1) m' ys σ2 H3)
def tLC (n : List Str) (js : List Nat) (wi : TI) (g : TG) (tc : Option TT) (te : TE) : TE := fun σ H Q => wi σ H fun J H1 => LcW J n js g tc te σ H1 Q
def PIf (X : Cx) (ifs : List Expr) (tc : Option TT) : Prop := match ifs, tc with
 | [], none => True
 | [c], some t => PT X c t
 | _, _ => False
section
variable {X : Cx} {pins : List (Addr × Obj)} {σ : St} {H : Hp} {s : Shared} {xs ys : List Str} {scope : Scope} {fp : List Addr} {C D : Addr} {js : List Nat}
def Caps (X : Cx) (ys : List Str) (js : List Nat) : Prop := js.length = ys.length /\ ∀ (i : Nat) (y : Str) (j : Nat), ys[i]? = some y -> js[i]? = some j -> X.N[j]? = some y
theorem wJ (I : Inv X pins σ H s) (S : LcScope xs ys scope X.env.scope) : ∀ x ∈ scope.names, x.2 = .free -> ∃ c, X.env.cells.lookup x.1 = some c := fun x hx hf =>
 I.ok.has x.1 ((S.cap x.1 (S.free x hx hf)).2.elim .inl .inr)
theorem clos_look (I : Inv X pins σ H s) (S : LcScope xs ys scope X.env.scope) {y : Str} {c : Addr} (e : (xA X.env scope.names []).lookup y = some c) : X.env.cells.lookup y = some c :=
 xX scope.names [] (wJ I S) (fun _ _ z => nomatch z) e
theorem block_start (I : Inv X pins σ H s) (S : LcScope xs ys scope X.env.scope) (hj : Caps X ys js) (f2 : ∀ b ∈ fp, uM X pins H b) (fo : ∀ b ∈ fp, b < s.heap.objs.size)
   {h₁ : Heap} {m : Str -> Option Value} {tk : Nat} {oD : Obj} (hC : s.heap.objs.size <= C) (hD : s.heap.objs.size <= D) (hDC : D ≠ C) (hn : h₁.Ns C m) (hd : h₁.get? D = some oD) (hdd : ∀ v, oD.data ≠ .cell v)
   (old : ∀ b o, s.heap.get? b = some o -> h₁.get? b = some o) :
   Inv (yB X xs ys scope C s H fp) [(D, oD)] (lcSt xs js σ) H { s with heap := h₁, toks := tk } := by
 have cl := fun y c => clos_look (y := y) (c := c) I S
 have nC : H C = none := I.hok.fresh hC
 have nD : H D = none := I.hok.fresh hD
 have lt_of : ∀ {b : Addr}, b < s.heap.objs.size -> b ≠ C := fun hb => Nat.ne_of_lt (Nat.lt_of_lt_of_le hb hC)
 have fsub : ∀ b, b ∈ frs X.stack -> b ∈ X.env.locals :: X.fs := I.stkSub
 refine ⟨⟨I.ok.mod, ?_, I.ok.glob, I.ok.blt, hC, fun x y c h1 h2 => I.ok.inj x y c (cl x c h1) (cl y c h2), fun x hx => ?_, (fun x c h => nomatch h), I.ok.hd, I.ok.frames, .inl rfl, fun b hb => ⟨lt_of (fo b hb), fun x c h => (f2 b hb).2.2.2.2.1 x c (cl x c h)⟩, I.bs,
   Nat.le_trans I.ok.bsz I.sz, fun b o e hb => ?_, fun b hb hf => ?_, I.stack, I.stkFree⟩,
   rfl, I.bare, Un.kept old, ⟨m, hn, fun i x v e1 e2 e3 => ?_⟩, fun x c h => ?_, nC, fun x c h => I.freeC x c (cl x c h), fun p hp => ?_, I.hok.kept old, ?_⟩
 · show scope.kind = _
   exact S.kind
 · have hx : (relabel scope X.env).names.lookup x = some .cell \/ (relabel scope X.env).names.lookup x = some .free := hx
   have hm : (x, NameKind.free) ∈ scope.names := by
     rcases hx with hx | hx
     · rcases xK hx with z | z
       · exact absurd rfl (S.nocell _ (PySem.mem_of_lookup z))
       · exact PySem.mem_of_lookup z.1
     · rcases xK hx with z | z
       · exact PySem.mem_of_lookup z
       · exact nomatch z.2
   exact jN scope.names [] (.inl hm)
 · rcases (f2 b hb).2.2.2.1 with z | z
   · exact I.ok.noex b o e z
   · exact absurd (Nat.lt_of_lt_of_le (Heap.lt_size e) (Nat.le_trans I.ok.bsz z)) (Nat.lt_irrefl _)
 · rcases List.mem_cons.mp (fsub b hf) with z | z
   · exact (f2 b hb).2.1 z
   · exact (f2 b hb).2.2.1 z
 · have e1 : (xs ++ ys)[i]? = some x := e1
   have e2 : (xs.map (fun _ => (none : Option V)) ++ js.map fun j => (σ[j]?).join)[i]? = some (some v) := e2
   by_cases hi : i < xs.length
   · rw [List.getElem?_append_left (by simpa using hi), List.getElem?_map] at e2
     cases q : xs[i]? with
     | none => rw [q] at e2; cases e2
     | some z => rw [q] at e2; cases e2
   · rw [List.getElem?_append_right (by simpa using hi), List.length_map, List.getElem?_map] at e2
     rw [List.getElem?_append_right (by simpa using hi)] at e1
     cases q : js[i - xs.length]? with
     | none => rw [q] at e2; cases e2
     | some j =>
       rw [q] at e2
       have e2' : (σ[j]?).join = some v := Option.some.inj e2
       have hy := hj.2 _ _ _ e1 q
       have hσ : σ[j]? = some (some v) := by
         cases z : σ[j]? with
         | none => rw [z] at e2'; cases e2'
         | some t => rw [z] at e2'; exact congrArg some e2'
       have ym : x ∈ ys := List.mem_of_getElem? e1
       obtain ⟨cf, ca⟩ := S.cap x ym
       obtain ⟨m0, _, hl⟩ := I.loc
       obtain ⟨u, ru, lk⟩ := hl j x v hy hσ (ca.elim (fun z => .inr (.inl z)) fun z => .inr (.inr z))
       refine ⟨u, ru, .inr ⟨?_, ?_⟩⟩
       · exact jZ (env := X.env) cf
       · rcases lk with ⟨k, _⟩ | ⟨_, c, ec, zc⟩
         · have k : X.env.scope.names.lookup x = some .local := k
           rcases ca with z | z <;> · rw [k] at z; cases z
         · obtain ⟨c', ec'⟩ := jN (env := X.env) (y := x) scope.names [] (.inl (PySem.mem_of_lookup cf))
           have e3 := cl x c' ec'
           rw [ec] at e3
           cases e3
           obtain ⟨o, ho, hod⟩ := zc
           exact ⟨_, ec', o, old _ _ ho, hod⟩
 · obtain ⟨v, o, ho, hod⟩ := I.cell x c (cl x c h)
   exact ⟨v, o, old _ _ ho, hod⟩
 · have hp : p ∈ [(D, oD)] := by simpa [yB] using hp
   have e := List.mem_singleton.mp hp
   subst e
   refine ⟨hd, nD, hDC, fun hf => ?_, hdd⟩
   have hf : D ∈ frs X.stack := hf
   obtain ⟨o, ho⟩ : ∃ o, s.heap.get? D = some o := by
     rcases List.mem_cons.mp (fsub D hf) with z | z
     · obtain ⟨m0, ⟨o, _, _, ho, _⟩, _⟩ := I.loc
       have z : D = X.env.locals := z
       exact ⟨o, z ▸ ho⟩
     · exact absurd z (I.nofs hD)
   exact absurd (Heap.lt_size ho) (Nat.not_lt.mpr hD)
 · show (xs.map (fun _ => (none : Option V)) ++ js.map fun j => (σ[j]?).join).length = (xs ++ ys).length
   rw [List.length_append, List.length_append, List.length_map, List.length_map, hj.1]
end
section
variable {X : Cx} {pins : List (Addr × Obj)} {σ : St} {H : Hp} {s : Shared} {xs ys : List Str} {scope : Scope} {js : List Nat} {tg iter elt : Expr} {ifs : List Expr} {pos : Pos} {wi : TI} {g : TG} {tc : Option TT} {te : TE}
theorem uW {α : Type} {M : Model} {A : Around} {t : Sem α} {Q : α -> Shared -> Prop} {E : Value -> Shared -> Prop} {s : Shared} (h : wpAny M A t Q (fun _ _ => False) s) : wpAny M A t Q E s := wpAny_mono h (fun _ _ x => x) fun _ _ z => z.elim
theorem wI {prog : Program} {w : World} {A : Around} {R : Result -> Shared -> Prop} {it acc : Value} {env : Env} (J : Nat -> Shared -> Prop)
   (turn : ∀ n s, J n s -> wpAny (model prog w) A (pyNext it) (fun r s₁ => match r with
     | none => R (.ok .next) s₁
     | some v => wpAny (model prog w) A (letOwnedTupleGo tg it v) (fun _ s₁' => wpAny (model prog w) A (assign tg env v) (fun _ s₂ =>
         wpAny (model prog w) A (forIn ifs true fun c r => if r = true then do let ok ← isTrue c env (eval c env); pure (ForInStep.yield ok) else pure (ForInStep.yield r)) (fun ok s₃ =>
           if ok = true then wpAny (model prog w) A (eval elt env) (fun x s₄ =>
             wpAny (model prog w) A (call (.builtin "list.append") [acc, x]) (fun _ s₅ => ∃ m, m < n /\ J m s₅) (fun _ _ => False) s₄) (fun _ _ => False) s₃
           else ∃ m, m < n /\ J m s₃) (fun _ _ => False) s₂) (fun _ _ => False) s₁') (fun _ _ => False) s₁) (fun _ _ => False) s)
   (n : Nat) (h : J n s) : codeAny (model prog w) A (.compLoop (.ListComp elt [⟨tg, iter, ifs, 0⟩] scope pos) 0 it acc env) R s := by
 refine codeAny_loop rfl J (fun n s hI => ?_) n h
 show wpAny _ A ((compTurn (.ListComp elt [⟨tg, iter, ifs, 0⟩] scope pos) 0 it acc env).onRaise (fun x => do noteFrame x env; theTreesLotGoes x)) _ _ s
 refine wpAny_noted ?_
 rw [compTurn_list]
 refine wpAny_bind (wpAny_standAt (wpAny_bind (uW (thn (turn n s hI) fun r s₁ h₁ => ?_))))
 cases r with
 | none => exact wpAny_pure h₁
 | some v =>
   refine wpAny_bind (uW (thn h₁ fun _ s₁' h₁' => wpAny_bind (uW (thn h₁' fun _ s₂ h₂ => wpAny_bind (uW (thn h₂ fun ok s₃ h₃ => ?_))))))
   cases ok with
   | false => exact wpAny_pure ⟨rfl, h₃⟩
   | true => exact wpAny_bind (wpAny_bind (uW (thn h₃ fun x s₄ h₄ => wpAny_bind (uW (thn h₄ fun _ s₅ h₅ => wpAny_pure (wpAny_pure ⟨rfl, h₅⟩))))))
structure LcEnd (X : Cx) (pins : List (Addr × Obj)) (σ : St) (C : Addr) (H' : Hp) (s' : Shared) : Prop where
 inv : Inv X pins σ H' s'
 ns : ∃ m, s'.heap.Ns C m
 free : H' C = none
 ne : C ≠ X.env.locals
 up : X.s₀.heap.objs.size <= C
 cells : ∀ x c, X.env.cells.lookup x = some c -> c ≠ C
 pin : ∀ p ∈ X.pn ++ pins, p.1 ≠ C
theorem LcEnd.gone {C : Addr} {H' : Hp} {s' : Shared} (L : LcEnd X pins σ C H' s') {h' : Heap} (hs : Heap.SameBut C s'.heap h') : Inv X pins σ H' { s' with heap := h' } :=
 L.inv.turned (t' := s'.toks) (fun b o hb e => hs.extBut b o hb e) L.free L.ne (.inr L.up) L.cells L.pin
theorem lc_core (hc : X.calm = true) (S : LcScope xs ys scope X.env.scope) (hj : Caps X ys js) (hi : PI X tg iter wi)
   (hg : ∀ C s₀ H₀ fp, PG (yB X xs ys scope C s₀ H₀ fp) tg g) (hif : ∀ C s₀ H₀ fp, PIf (yB X xs ys scope C s₀ H₀ fp) ifs tc) (he : ∀ C s₀ H₀ fp, PE (yB X xs ys scope C s₀ H₀ fp) elt te)
   {RR : Value -> Addr -> Result -> Shared -> Prop} {Q : VK} (I : Inv X pins σ H s) (h : tLC xs js wi g tc te σ H Q)
   (fin : ∀ D C H' s', LcEnd X pins σ C H' s' -> Q (.ref D) H' -> RR (.ref D) C (.ok .next) s') :
   wpAny (model X.prog X.w) X.A (eval iter X.env) (fun x s₁ => wpAny (model X.prog X.w) X.A (pyIter x) (fun it s₂ => wpAny (model X.prog X.w) X.A (newList []) (fun acc s₃ =>
     wpAny (model X.prog X.w) X.A (newFunctionEnv scope X.env.globals (xA X.env scope.names []) [] X.env.qual none .none (some X.env)) (fun cenv s₄ =>
       codeAny (model X.prog X.w) X.A (.compStart (.ListComp elt [⟨tg, iter, ifs, 0⟩] scope pos) 0 it acc { cenv with scope := relabel scope X.env }) (RR acc cenv.locals) s₄) X.xe s₃) X.xe s₂) X.xe s₁) X.xe s := by
 refine thn (hi pins s σ H _ I h) fun v s1 h1 => thn h1 fun itv s2 h2 => ?_
 obtain ⟨it, fp, tn, J, H2, e, I2, T, st2, f2, W, ⟨m0, w0⟩, turn⟩ := h2
 subst e
 have fo : ∀ b ∈ fp, b < s2.heap.objs.size := fun b hb => let ⟨o, e, _⟩ := T.obj _ _ st2 b hb; Heap.lt_size e
 refine wpAny_newObj_type (wpAny_newFunctionEnv S.nocell (by intro y hy; simp at hy) (fun h₁ hns₁ hsb₁ => ?_) S.kind)
 dsimp only at hns₁ hsb₁ ⊢
 generalize hH2 : s2.heap.push { cls := .type "list", dict := none, data := .seq ([] : List Value).toArray } = G at hns₁ hsb₁ ⊢
 have hC : G.objs.size = s2.heap.objs.size + 1 := by rw [← hH2, Heap.size_push]
 have hDC : s2.heap.objs.size ≠ G.objs.size := by rw [hC]; exact Nat.ne_of_lt (Nat.lt_succ_self _)
 have hCle : s2.heap.objs.size <= G.objs.size := by rw [hC]; exact Nat.le_succ _
 have below : ∀ b, b < s2.heap.objs.size -> b ≠ G.objs.size /\ b ≠ s2.heap.objs.size := fun b hb => ⟨by rw [hC]; exact Nat.ne_of_lt (Nat.lt_succ_of_lt hb), Nat.ne_of_lt hb⟩
 have old : ∀ b o, s2.heap.get? b = some o -> h₁.get? b = some o := fun b o e => hsb₁.extBut b o (below b (Heap.lt_size e)).1 (Heap.get?_push_of_some _ (hH2 ▸ Heap.get?_push_of_some _ e))
 have hacc : h₁.get? s2.heap.objs.size = some (LCg.lst []) := hsb₁.extBut _ _ hDC (Heap.get?_push_of_some _ (hH2 ▸ Heap.get?_push_size _ rfl))
 have st₁ : tn 0 h₁ := T.keep _ _ _ st2 fun b _ o e => old b o e
 have I3 := block_start (C := G.objs.size) (D := s2.heap.objs.size) (tk := s2.toks + ([] : List (Str × Value)).length) I2 S hj f2 fo hCle (Nat.le_refl _) hDC hns₁ hacc (by intro v hv; cases hv) old
 generalize hX : yB X xs ys scope G.objs.size s2 H2 fp = B at I3
 have pB : B.prog = X.prog := by rw [← hX]; rfl
 have wB : B.w = X.w := by rw [← hX]; rfl
 have kB : B.K = X.K := by rw [← hX]; rfl
 have aB : B.A = X.A := by rw [← hX]; rfl
 have eB : B.env = compEnvC scope (xA X.env scope.names []) G.objs.size X.env := by rw [← hX]; rfl
 have cB : B.calm = true := by rw [← hX]; exact hc
 have xB : B.xe = fun _ _ => False := by rw [← hX]; rfl
 have gB : PG B tg g := by rw [← hX]; exact hg _ _ _ _
 have iB : PIf B ifs tc := by rw [← hX]; exact hif _ _ _ _
 have elB : PE B elt te := by rw [← hX]; exact he _ _ _ _
 have sB : B.s₀ = s2 := by rw [← hX]; rfl
 have hB : B.H₀ = H2 := by rw [← hX]; rfl
 have fB : B.fs = frs X.stack := by rw [← hX]; rfl
 have exB : B.ex = fp := by rw [← hX]; rfl
 have pnB : B.pn = [] := by rw [← hX]; rfl
 have statB : ∀ {H' : Hp} {oD : Obj} {σ' : St} {s' : Shared}, Inv B [(s2.heap.objs.size, oD)] σ' H' s' -> (∀ b ∈ fp, H' b = none) -> ∀ b ∈ fp, uM B [(s2.heap.objs.size, oD)] H' b := fun {H' oD σ' s'} I' hn b hb =>
   ⟨hn b hb, (I'.ok.exf b (exB ▸ hb)).1, I'.ok.exfs b (exB ▸ hb), .inl (exB ▸ hb), (I'.ok.exf b (exB ▸ hb)).2, fun p hp => by
     rw [pnB] at hp
     have e := List.mem_singleton.mp (show p ∈ [(s2.heap.objs.size, oD)] from hp)
     subst e
     exact Nat.ne_of_gt (fo b hb)⟩
 have loop : ∀ s₃ : Shared, s₃ = { s2 with heap := h₁, toks := s2.toks + ([] : List (Str × Value)).length } ->
     codeAny (model X.prog X.w) X.A (.compLoop (.ListComp elt [⟨tg, iter, ifs, 0⟩] scope pos) 0 (.ref it) (.ref s2.heap.objs.size) (compEnvC scope (xA X.env scope.names []) G.objs.size X.env)) (RR (.ref s2.heap.objs.size) G.objs.size) s₃ := by
   rintro s₃ rfl
   refine wI (fun n s' => ∃ i ys its σ1 H', Inv B [(s2.heap.objs.size, LCg.lst its)] σ1 H' s' /\ Vals ys its /\ tn i s'.heap /\ (∀ b ∈ fp, H' b = none) /\ ys.length <= sizeLine /\ W i n ys σ1 H') ?_ m0
     ⟨0, [], [], _, H2, I3, .nil, st₁, fun b hb => (f2 b hb).1, Nat.zero_le _, w0⟩
   rintro n s' ⟨i, ys', its, σ1, H', I', rv, st', fr', hz, w'⟩
   have rl := rv.length
   rcases turn i n ys' σ1 H' w' with ⟨stop, qn⟩ | ⟨go, hz', step⟩
   · have q := T.done B pB wB kB cB i _ s' σ1 H' (fun _ _ => False) I' (statB I' fr') st' stop
     rw [aB] at q
     refine thn q fun r s4 ⟨hr, I4⟩ => ?_
     subst hr
     have pD := (I4.pin (s2.heap.objs.size, LCg.lst its) (List.mem_append_right _ List.mem_cons_self))
     have hDn : H' s2.heap.objs.size = none := pD.2.1
     have ub := I4.base
     rw [fB, exB, hB, sB] at ub
     have neD : ∀ {b : Addr} {o : HO}, H' b = some o -> b ≠ s2.heap.objs.size := fun e z => by rw [z, hDn] at e; cases e
     have upk : ∀ {b : Addr} {o : HO}, H' b = some o -> upd H' s2.heap.objs.size (.lst ys') b = some o := fun e => by rw [zF (neD e)]; exact e
     have u : Un (frs X.stack) fp H2 (upd H' s2.heap.objs.size (.lst ys')) s2.heap s4.heap :=
       ⟨ub.keep, ub.slot, fun b o e n hx => by rw [zF (below b (Heap.lt_size e)).2]; exact ub.free b o e n hx, ub.there, fun b zs e => upk (ub.tups b zs e), fun b o zs e => upk (ub.frzs b o zs e), fun b ps e => let ⟨more, q⟩ := ub.tbls b ps e; ⟨more, upk q⟩⟩
     have hok4 : HOk X.prog X.w H' s4.heap := by have := I4.hok; rw [pB, wB] at this; exact this
     have hok : HOk X.prog X.w (upd H' s2.heap.objs.size (.lst ys')) s4.heap := fun b o e => by
       by_cases hb : b = s2.heap.objs.size
       · subst hb
         rw [zB] at e
         cases e
         exact ⟨hz, its, its.length, rv, pD.1⟩
       · rw [zF hb] at e
         exact (hok4 b o e).stay (fun _ _ _ q => q) (fun _ q => upk q) fun _ _ q => upk q
     have I5 : Inv X pins σ (upd H' s2.heap.objs.size (.lst ys')) s4 := I2.call' (ch := fp) (by rw [I4.os, sB]) u hok I4.bare fun b hb => let f := f2 b hb; ⟨f.2.2.2.1, f.2.1, f.2.2.2.2.1, f.2.2.2.2.2⟩
     refine fin s2.heap.objs.size G.objs.size _ s4 ⟨I5, ?_, ?_, ?_, Nat.le_trans I2.sz hCle, fun x c e z => ?_, fun p hp z => ?_⟩ (qn _ hDn)
     · obtain ⟨m, hn, _⟩ := I4.loc
       rw [eB] at hn
       exact ⟨m, hn⟩
     · have fr := I4.free
       rw [eB] at fr
       rw [zF (Ne.symm hDC)]
       exact fr
     · exact Ne.symm (below _ I2.lt).1
     · obtain ⟨_, o, ho, _⟩ := I2.cell x c e
       exact (below c (Heap.lt_size ho)).1 z
     · exact (below p.1 (Heap.lt_size (I2.pin p hp).1)).1 z
   · have q := T.item B pB wB kB cB i _ s' σ1 H' (fun _ _ => False) I' (statB I' fr') st' go
     rw [aB] at q
     refine thn q fun r s4 ⟨u, hr, h4⟩ => ?_
     subst hr
     refine thn h4 fun _ s5 ⟨x, H5, I5, r5, y5, st5, fr5⟩ => ?_
     have I5' := I5.pinned (statB I5 fr5) (T.obj _ _ st5)
     have q5 := gB _ s5 σ1 H5 x u _ I5' r5 (step x H5 y5)
     rw [pB, wB, aB, eB, xB] at q5
     refine thn q5 fun _ s6 ⟨σ6, H6, I6, q6⟩ => ?_
     have last : ∀ {s7 : Shared} {H7 : Hp}, Inv B ([(s2.heap.objs.size, LCg.lst its)] ++ xP fp s5.heap) σ6 H7 s7 -> (te σ6 H7 fun y H8 => ∃ m', m' < n /\ W (i + 1) m' (ys' ++ [y]) σ6 H8) ->
         wpAny (model X.prog X.w) X.A (eval elt (compEnvC scope (xA X.env scope.names []) G.objs.size X.env)) (fun x s₄ =>
             wpAny (model X.prog X.w) X.A (call (.builtin "list.append") [.ref s2.heap.objs.size, x]) (fun _ s₅ => ∃ m, m < n /\
               ∃ i ys its σ1 H', Inv B [(s2.heap.objs.size, LCg.lst its)] σ1 H' s₅ /\ Vals ys its /\ tn i s₅.heap /\ (∀ b ∈ fp, H' b = none) /\ ys.length <= sizeLine /\ W i m ys σ1 H') (fun _ _ => False) s₄) (fun _ _ => False) s7 := fun {s7 H7} I7 q7 => by
       have q8 := elB _ s7 σ6 H7 _ I7 q7
       rw [pB, wB, aB, eB, xB] at q8
       refine thn q8 fun uy s8 ⟨y, H8, I8, r8, m', hm', w8⟩ => ?_
       have pD := (I8.pin (s2.heap.objs.size, LCg.lst its) (List.mem_append_right _ (List.mem_append_left _ List.mem_cons_self)))
       refine append_at (its := its.toArray) (n := its.length) pD.1 (fun h9 hs9 hd9 => ?_) (by rw [List.size_toArray, ← rl]; exact hz)
       have dropped : Inv B (xP fp s5.heap) σ6 H8 s8 := I8.pins_of fun p hp => I8.pin p (List.mem_append_right _ (List.mem_append_right _ hp))
       have apart : ∀ p ∈ B.pn ++ xP fp s5.heap, p.1 ≠ s2.heap.objs.size := fun p hp => by
         rw [pnB] at hp
         exact Nat.ne_of_lt (fo _ (vA (show p ∈ xP fp s5.heap from hp)).1)
       have I9 : Inv B (xP fp s5.heap) σ6 H8 { s8 with heap := h9 } := dropped.turned (t' := s8.toks) (fun b o hb e => hs9.extBut b o hb e) pD.2.1 pD.2.2.1 (.inr (by rw [sB]; exact Nat.le_refl _)) (fun x c e => by
         intro z
         obtain ⟨v, o, ho, hd⟩ := I8.cell x c e
         rw [z, pD.1] at ho
         cases ho
         cases hd) apart
       have I9' : Inv B [(s2.heap.objs.size, LCg.lst (its ++ [uy]))] σ6 H8 { s8 with heap := h9 } := I9.pins_of fun p hp => by
         have e := List.mem_singleton.mp hp
         subst e
         exact ⟨hd9.trans (congrArg some (LCg.lst_snoc its uy)), pD.2.1, pD.2.2.1, pD.2.2.2.1, by intro v hv; cases hv⟩
       refine ⟨m', hm', i + 1, ys' ++ [y], its ++ [uy], σ6, H8, I9', Vals.append rv (.cons r8 .nil), T.keep _ _ _ st5 fun b hb o e => ?_, fun b hb => ?_, by rw [List.length_append]; exact hz', w8⟩
       · exact (I9.pin (b, o) (List.mem_append_right _ (xC hb e))).1
       · obtain ⟨o, e, d⟩ := T.obj _ _ st5 b hb
         exact (I9.pin (b, o) (List.mem_append_right _ (xC hb e))).2.1
     have again : ∀ {s7 : Shared} {H7 : Hp}, Inv B ([(s2.heap.objs.size, LCg.lst its)] ++ xP fp s5.heap) σ6 H7 s7 -> (∃ m', m' < n /\ W (i + 1) m' ys' σ6 H7) -> ∃ m, m < n /\
         ∃ i ys its σ1 H', Inv B [(s2.heap.objs.size, LCg.lst its)] σ1 H' s7 /\ Vals ys its /\ tn i s7.heap /\ (∀ b ∈ fp, H' b = none) /\ ys.length <= sizeLine /\ W i m ys σ1 H' := fun {s7 H7} I7 ⟨m', hm', w7⟩ => by
       refine ⟨m', hm', i + 1, ys', its, σ6, H7, I7.unpinned, rv, T.keep _ _ _ st5 fun b hb o e => (I7.pin (b, o) (List.mem_append_right _ (List.mem_append_right _ (xC hb e)))).1, fun b hb => ?_, hz, w7⟩
       obtain ⟨o, e, d⟩ := T.obj _ _ st5 b hb
       exact (I7.pin (b, o) (List.mem_append_right _ (List.mem_append_right _ (xC hb e)))).2.1
     match ifs, tc, iB, q6 with
     | [], none, _, q6 =>
       refine wpAny_tests_nil ?_
       rw [if_pos rfl]
       exact last I6 q6
     | [c], some t, iB, q6 =>
       have iB : PT B c t := iB
       have q7 := iB _ s6 σ6 H6 _ I6 q6
       rw [pB, wB, aB, eB, xB] at q7
       refine wpAny_tests_one (thn q7 fun b s7 ⟨H7, I7, q7⟩ => ?_)
       cases b with
       | true => rw [if_pos rfl] at q7 ⊢; exact last I7 q7
       | false => rw [if_neg Bool.false_ne_true] at q7 ⊢; exact again I7 q7
 exact codeAny_compStart_list (loop _ rfl) (T.self _ 0 _ _ _ st₁ (loop _ rfl))
theorem pe_lc (hc : X.calm = true) (S : LcScope xs ys scope X.env.scope) (hj : Caps X ys js) (hi : PI X tg iter wi)
   (hg : ∀ C s₀ H₀ fp, PG (yB X xs ys scope C s₀ H₀ fp) tg g) (hif : ∀ C s₀ H₀ fp, PIf (yB X xs ys scope C s₀ H₀ fp) ifs tc) (he : ∀ C s₀ H₀ fp, PE (yB X xs ys scope C s₀ H₀ fp) elt te)
   (hs : ∀ x, foldedSetIterable iter X.env x = pure x := by intro _; rfl) : PE X (.ListComp elt [⟨tg, iter, ifs, 0⟩] scope pos) (tLC xs js wi g tc te) := by
 intro pins s σ H Q I h
 rw [eval_ListComp]
 refine wpAny_comprehension_free (use := none) rfl hs (jP (wJ I S)) S.kind S.names ?_
 refine lc_core (RR := fun acc C => compPost (model X.prog X.w) X.A X.xe none (EP X pins σ Q) acc C) hc S hj hi hg hif he I h fun D C H' s' L q => ?_
 obtain ⟨m, hn⟩ := L.ns
 exact ⟨m, hn, fun h'' hs'' => ⟨.ref D, H', L.gone hs'', rfl, q⟩⟩
theorem ps_setLC {i : Nat} {x : Str} {p' p : Pos} (hN : X.N.Nodup) (hx : X.N[i]? = some x) (hl : X.env.scope.names.lookup x = some .local) (hc : X.calm = true) (S : LcScope xs ys scope X.env.scope) (hj : Caps X ys js) (hi : PI X tg iter wi)
   (hg : ∀ C s₀ H₀ fp, PG (yB X xs ys scope C s₀ H₀ fp) tg g) (hif : ∀ C s₀ H₀ fp, PIf (yB X xs ys scope C s₀ H₀ fp) ifs tc) (he : ∀ C s₀ H₀ fp, PE (yB X xs ys scope C s₀ H₀ fp) elt te)
   (hsw : swapsWith (.ListComp elt [⟨tg, iter, ifs, 0⟩] scope pos) (some (.Name x p')) p.line X.env = pure true := by rfl)
   (hs : ∀ x, foldedSetIterable iter X.env x = pure x := by intro _; rfl) : PS X (.Assign [.Name x p'] (.ListComp elt [⟨tg, iter, ifs, 0⟩] scope pos) p) (tAsg (tLC xs js wi g tc te) (gName i)) := by
 intro pins s σ H D I h
 rw [exec_Assign_Name_used _ _ _ _ hsw]
 refine wpAny_bind (wpAny_standAt (wpAny_bind ?_))
 show wpAny _ X.A (do let _ ← comprehension (.ListComp elt [⟨tg, iter, ifs, 0⟩] scope pos) scope X.env _ (newList []) false (eval iter X.env) (some (assign (.Name x p') X.env))) _ _ s
 refine wpAny_bind (wpAny_mono (wpAny_comprehension_free (use := some (assign (.Name x p') X.env)) (Q := fun _ s' => SP X pins D .next s') rfl hs (jP (wJ I S)) S.kind S.names ?_) (fun _ s' hq => wpAny_pure (wpAny_pure hq)) fun _ _ e => e)
 refine lc_core (Q := fun v H' => gName i v σ H' D.nx) (RR := fun acc C => compPost (model X.prog X.w) X.A X.xe (some (assign (.Name x p') X.env)) (fun _ s' => SP X pins D .next s') acc C) hc S hj hi hg hif he I h fun A C H' s' L q => ?_
 show wpAny _ X.A (assign (.Name x p') X.env (.ref A)) _ _ _
 refine wpAny_assign_Name (uY (v := .ref A) L.inv hN hx (.inl hl) rfl (fun s'' I'' ⟨a, sb, ha⟩ => ?_) (.inr hl))
 have cne : ∀ {b : Addr}, (b = X.env.locals \/ X.env.cells.lookup x = some b) -> C ≠ b := fun z e => by
   rcases z with z | z
   · exact L.ne (e.trans z)
   · exact L.cells x _ z e.symm
 obtain ⟨m, hn⟩ := L.ns
 refine ⟨m, hn.sameBut sb (cne ha), fun h'' hs'' => ⟨_, _, ?_, q⟩⟩
 exact LcEnd.gone ⟨I'', ⟨m, hn.sameBut sb (cne ha)⟩, L.free, L.ne, L.up, L.cells, L.pin⟩ hs''
end
def Its (x : Str) : It := ⟨fun i _ => i < x.cps.size, fun i H v H' => H' = H /\ ∃ c, x.cps[i]? = some c /\ v = .str ⟨#[c]⟩, fun i _ => x.cps.size <= i⟩
section
variable {X : Cx} {tg : Expr}
def iStr (tl : TE) : TI := fun σ H R => tl σ H fun x H1 => ∃ z, x = .str z /\ R (Its z) H1
end
def rSlS : V -> Option Int -> Option Int -> Hp -> VK -> Prop := fun x lo hi H Q => ∃ z, x = .str z /\ z.length <= sizeLine /\ Q (.str (Txt.slice z lo hi)) H
section
variable {X : Cx}
theorem call_all : jR X (.builtin "all") (fun xs H Q => X.calm = true /\ ∃ (p : Addr) (bs : List Bool), xs = [.ref p] /\ SqL X.K H p (bs.map V.bl) /\ Q (.bl (bs.all id)) H) := by
 intro pins s σ H xs us Q I r h
 obtain ⟨hc, p, bs, rfl, hp, q⟩ := h
 obtain ⟨u, rfl, ru⟩ := uX r
 cases ru
 obtain ⟨its, rv, hl, hz⟩ := I.list hp
 have hlt : p < s.heap.objs.size := by obtain ⟨_, e, _⟩ := hl.isList; exact Heap.lt_size e
 have hlen := rv.length
 rw [List.length_map] at hlen
 refine call_all_walk (wpAny_pyIter_list hl.isList ?_)
 refine ⟨_, _, _, _, _, _, fun i => bs.getD i false, rfl, Walks.list (A := X.A.in1) (I.ok.hd hc) s.heap.objs.size p (Nat.ne_of_lt hlt) its.toArray, ⟨⟨_, Heap.get?_push_size _ rfl, rfl, rfl⟩, hl.isList.push _⟩, fun i v s' Q' E' hv q' => ?_, fun h' tk k => ?_⟩
 · have hv : its[i]? = some v := by simpa using hv
   have hi : i < bs.length := by
     have := (List.getElem?_eq_some_iff.mp hv).1
     omega
   obtain ⟨u', hu', ru'⟩ := rv.get (i := i) (x := .bl bs[i]) (by rw [List.getElem?_map, List.getElem?_eq_getElem hi]; rfl)
   rw [hv] at hu'
   cases hu'
   have e : v = Value.bool bs[i] := ru'
   subst e
   refine wpAny_truthy_bool ?_
   have e2 : bs.getD i false = bs[i] := by rw [List.getD_eq_getElem?_getD, List.getElem?_eq_getElem hi]; rfl
   rw [← e2]
   exact q'
 · refine ⟨.bl (bs.all id), H, ?_, ?_, q⟩
   · exact I.kept (h' := h') (t' := tk) fun b o e => k b o (by intro hm; have := List.mem_singleton.mp hm; exact absurd (this ▸ Heap.lt_size e) (Nat.lt_irrefl _)) (Heap.get?_push_of_some _ e)
   · have e : (List.range its.toArray.size).all (fun i => bs.getD i false) = bs.all id := by
       rw [List.size_toArray, ← hlen]
       rw [Bool.eq_iff_iff, List.all_eq_true, List.all_eq_true]
       constructor
       · intro a b hb
         obtain ⟨i, hi, rfl⟩ := List.getElem_of_mem hb
         have := a i (List.mem_range.mpr hi)
         rw [List.getD_eq_getElem?_getD, List.getElem?_eq_getElem hi] at this
         exact this
       · intro a i hi
         have hi := List.mem_range.mp hi
         rw [List.getD_eq_getElem?_getD, List.getElem?_eq_getElem hi]
         exact a _ (List.getElem_mem hi)
     show Value.bool _ = _
     rw [e]
theorem call_isi {T : String} : jR X (.builtin "isinstance") (fun xs H Q => ∃ x t b, xs = [x, .ty T] /\ TyOf X.K H x t /\ PySem.W.kitOne X.K t (.type T) = some b /\ Q (.bl b) H) := by
 intro pins s σ H xs us Q I r h
 obtain ⟨x, t, b, rfl, ty, e, q⟩ := h
 obtain ⟨u, w', rfl, ru, rw'⟩ := vals2 r
 cases rw'
 exact isinst_ok I ru ty e fun tk => ⟨.bl b, H, I.tok tk, rfl, q⟩
end
structure Has (P : Program) (w : World) (K : PySem.W.Frag) (mg : Str -> Option Value) (base : Heap) (k : Nat) (x : Str) (ps : List Str) (sp : Sp) : Prop where
 ex : ∃ f fd, FnOk P w K mg base CX0 k f fd ps sp /\ Binds K fd ps [] /\ PySem.W.keepIn K (.ref f) = true /\ mg x = some (.ref f)
section
variable {X : Cx} {k : Nat} {x : Str} {ps : List Str} {sp : Sp} {p pos : Pos} {e : Expr} {es : List Expr} {t : TA} {v : V}
theorem zS (h : Has X.prog X.w X.K X.mg X.base k x ps sp) (hr : Room k X.A) (hg : Gl X x) (ha : PA X (e :: es) t) (hdb : (x == ("__debug__" : Str)) = false := by decide)
   (he : starEach (e :: es) X.env = (false, eval e X.env) :: starEach es X.env := by rfl) (hpl : (backTo pos (starEach es X.env)).any (·.1) = false := by rfl) : PE X (.Call (.Name x p) (e :: es) [] pos) (tCall sp [] E0 t) := by
 obtain ⟨f, fd, F, b, kp, m⟩ := h.ex
 exact pe_call F hr hg m kp b .nil pass0 ha hdb he hpl
theorem pe_ty {T : String} (hm : X.mg x = none) (hv : bootBuiltins x = some (.type T)) (hg : Gl X x) (hn : x ≠ "__name__" := by decide) (hd : (x == ("__debug__" : Str)) = false := by decide) : PE X (.Name x pos) (tC (.ty T)) :=
 pe_bltn hg hm hv rfl hn hd
end
theorem xV {X : Cx} : PIf X [] none := trivial
def lcOk (xs ys : List Str) (scope around : Scope) : Bool :=
 (scope.kind == .function) && decide (xs ++ ys).Nodup && xs.all (fun x => scope.names.lookup x == some .local) &&
 ys.all (fun y => (scope.names.lookup y == some .free) && ((around.names.lookup y == some .cell) || (around.names.lookup y == some .free))) &&
 scope.names.all (fun y => (y.2 != .cell) && ((y.2 != .local) || (scope.names.lookup y.1 == some .local)) && ((y.2 != .free) || ys.contains y.1))
theorem lcOk.scope {xs ys : List Str} {scope around : Scope} (h : lcOk xs ys scope around = true) : LcScope xs ys scope around := by
 unfold lcOk at h
 simp only [Bool.and_eq_true, beq_iff_eq, decide_eq_true_eq, List.all_eq_true, Bool.or_eq_true, bne_iff_ne, List.contains_iff_mem] at h
 obtain ⟨⟨⟨⟨h1, h2⟩, h3⟩, h4⟩, h5⟩ := h
 exact ⟨h1, h2, h3, h4, fun y hy => (h5 y hy).1.1, fun y hy hl => (h5 y hy).1.2.resolve_left (fun z => z hl), fun y hy hf => (h5 y hy).2.resolve_left (fun z => z hf)⟩
def capOk (N ys : List Str) (js : List Nat) : Bool := (js.length == ys.length) && (ys.zip js).all fun p => N[p.2]? == some p.1
theorem capOk.caps {X : Cx} {ys : List Str} {js : List Nat} (h : capOk X.N ys js = true) : Caps X ys js := by
 unfold capOk at h
 simp only [Bool.and_eq_true, beq_iff_eq, List.all_eq_true] at h
 refine ⟨h.1, fun i y j hy hj => ?_⟩
 refine h.2 (y, j) (List.mem_of_getElem? (i := i) ?_)
 rw [List.getElem?_zip_eq_some]
 exact ⟨hy, hj⟩
section
variable {X : Cx} {xs ys : List Str} {scope : Scope} {js : List Nat} {tg iter elt : Expr} {ifs : List Expr} {pos : Pos} {wi : TI} {g : TG} {tc : Option TT} {te : TE}
theorem jL (xs ys : List Str) (js : List Nat) (hi : PI X tg iter wi)
   (hg : ∀ C s₀ H₀ fp, (xs ++ ys).Nodup -> PG (yB X xs ys scope C s₀ H₀ fp) tg g) (hif : ∀ C s₀ H₀ fp, PIf (yB X xs ys scope C s₀ H₀ fp) ifs tc) (he : ∀ C s₀ H₀ fp, PE (yB X xs ys scope C s₀ H₀ fp) elt te)
   (hc : X.calm = true := by rfl) (S : lcOk xs ys scope X.env.scope = true := by rfl) (hj : capOk X.N ys js = true := by rfl)
   (hs : ∀ x, foldedSetIterable iter X.env x = pure x := by intro _; rfl) : PE X (.ListComp elt [⟨tg, iter, ifs, 0⟩] scope pos) (tLC xs js wi g tc te) :=
 pe_lc hc (lcOk.scope S) (capOk.caps hj) hi (fun C s₀ H₀ fp => hg C s₀ H₀ fp (lcOk.scope S).nd) hif he hs
theorem ps_comp {i : Nat} {x : Str} {p' p : Pos} (xs ys : List Str) (js : List Nat) (hN : X.N.Nodup) (hx : X.N[i]? = some x) (hi : PI X tg iter wi)
   (hg : ∀ C s₀ H₀ fp, (xs ++ ys).Nodup -> PG (yB X xs ys scope C s₀ H₀ fp) tg g) (hif : ∀ C s₀ H₀ fp, PIf (yB X xs ys scope C s₀ H₀ fp) ifs tc) (he : ∀ C s₀ H₀ fp, PE (yB X xs ys scope C s₀ H₀ fp) elt te)
   (hl : X.env.scope.names.lookup x = some .local := by rfl) (hc : X.calm = true := by rfl) (S : lcOk xs ys scope X.env.scope = true := by rfl) (hj : capOk X.N ys js = true := by rfl)
   (hsw : swapsWith (.ListComp elt [⟨tg, iter, ifs, 0⟩] scope pos) (some (.Name x p')) p.line X.env = pure true := by rfl)
   (hs : ∀ x, foldedSetIterable iter X.env x = pure x := by intro _; rfl) : PS X (.Assign [.Name x p'] (.ListComp elt [⟨tg, iter, ifs, 0⟩] scope pos) p) (tAsg (tLC xs js wi g tc te) (gName i)) :=
 ps_setLC hN hx hl hc (lcOk.scope S) (capOk.caps hj) hi (fun C s₀ H₀ fp => hg C s₀ H₀ fp (lcOk.scope S).nd) hif he hsw hs
end
theorem bt_len : bootBuiltins "len" = some (.builtin "len") := by decide +kernel
theorem bt_isinstance : bootBuiltins "isinstance" = some (.builtin "isinstance") := by decide +kernel
theorem bt_all : bootBuiltins "all" = some (.builtin "all") := by decide +kernel
theorem bt_sorted : bootBuiltins "sorted" = some (.builtin "sorted") := by decide +kernel
theorem bt_tuple : bootBuiltins "tuple" = some (.type "tuple") := by decide +kernel
theorem bt_list : bootBuiltins "list" = some (.type "list") := by decide +kernel
theorem bt_int : bootBuiltins "int" = some (.type "int") := by decide +kernel
theorem bt_bool : bootBuiltins "bool" = some (.type "bool") := by decide +kernel
theorem cx_K {CX : CXT} {P : Program} {w : World} {K : PySem.W.Frag} {mg : Str -> Option Value} {base : Heap} {N : List Str} {qual : Str} {scope : Scope} {f : Addr} {cd : Value} {A : Around} {outer : List Env} {s : Shared} {H : Hp} {E : XK} : (uQ CX P w K mg base N qual scope f cd A outer s H E).K = K := rfl
theorem cx_calm {CX : CXT} {P : Program} {w : World} {K : PySem.W.Frag} {mg : Str -> Option Value} {base : Heap} {N : List Str} {qual : Str} {scope : Scope} {f : Addr} {cd : Value} {A : Around} {outer : List Env} {s : Shared} {H : Hp} {E : XK} : (uQ CX P w K mg base N qual scope f cd A outer s H E).calm = true := rfl
theorem bk_calm {X : Cx} {xs ys : List Str} {scope : Scope} {C : Addr} {s₀ : Shared} {H₀ : Hp} {fp : List Addr} : (yB X xs ys scope C s₀ H₀ fp).calm = X.calm := rfl
theorem lenV_str {K : PySem.W.Frag} {y : Str} {H : Hp} {n : Nat} : LenV K (.str y) H n ↔ (y.length <= sizeLine /\ n = y.length) := Iff.rfl
theorem bk_K {X : Cx} {xs ys : List Str} {scope : Scope} {C : Addr} {s₀ : Shared} {H₀ : Hp} {fp : List Addr} : (yB X xs ys scope C s₀ H₀ fp).K = X.K := rfl
theorem ix_nat {ns : List Int} {k : Nat} (h : (k : Int) < ns.length) : atI (ns.map V.int) (k : Int) = some (.int (ns.getD k 0)) := by
 refine yL ?_
 have h' : k < ns.length := by omega
 rw [List.getElem?_map, List.getElem?_eq_getElem h', List.getD_eq_getElem?_getD, List.getElem?_eq_getElem h']
 rfl
theorem lc_by {J : It} {n : Nat} {ns : List Str} {js : List Nat} {g : TG} {te : TE} {σ : St} {H : Hp} {Q : VK} (Pv : Nat -> List V -> St -> Hp -> Prop) (h0 : Pv 0 [] (lcSt ns js σ) H) (hn : n <= sizeLine) (hl : ∀ i ys σ H, Pv i ys σ H -> ys.length <= i)
   (hgo : ∀ i ys σ H, i < n -> Pv i ys σ H -> J.go i H) (hst : ∀ ys σ H, Pv n ys σ H -> J.stop n H)
   (hs : ∀ i ys σ H x H' (C : V -> St -> Hp -> Prop), i < n -> Pv i ys σ H -> J.yld i H x H' -> (∀ y σ2 H3, Pv (i + 1) (ys ++ [y]) σ2 H3 -> C y σ2 H3) -> g x σ H' fun σ2 H2 => te σ2 H2 fun y H3 => C y σ2 H3)
   (hd : ∀ ys σ H, Pv n ys σ H -> ∀ p, H p = none -> Q (.ref p) (upd H p (.lst ys))) :
   LcW J ns js g none te σ H Q := by
 refine ⟨fun i m ys σ H => i + m = n /\ Pv i ys σ H, ⟨n, by omega, h0⟩, fun i m ys σ H ⟨e, w⟩ => ?_⟩
 by_cases hi : i < n
 · refine .inr ⟨hgo i ys σ H hi w, Nat.lt_of_le_of_lt (hl _ _ _ _ w) (by omega), fun x H' hy => ?_⟩
   exact hs i ys σ H x H' (fun y σ2 H3 => ∃ m', m' < m /\ i + 1 + m' = n /\ Pv (i + 1) (ys ++ [y]) σ2 H3) hi w hy fun y σ2 H3 q => ⟨m - 1, by omega, by omega, q⟩
 · have : i = n := by omega
   subst this
   exact .inl ⟨hst ys σ H w, hd ys σ H w⟩
theorem lc_range {lo : Int} {n : Nat} {ns : List Str} {js : List Nat} {g : TG} {te : TE} {σ : St} {H : Hp} {Q : VK} (Pv : Nat -> List V -> St -> Hp -> Prop) (h0 : Pv 0 [] (lcSt ns js σ) H) (hz : n <= sizeLine) (hl : ∀ i ys σ H, Pv i ys σ H -> ys.length <= i)
   (hs : ∀ (i : Nat) ys σ H (C : V -> St -> Hp -> Prop), i < n -> Pv i ys σ H -> (∀ y σ2 H3, Pv (i + 1) (ys ++ [y]) σ2 H3 -> C y σ2 H3) -> g (.int (lo + i)) σ H fun σ2 H2 => te σ2 H2 fun y H3 => C y σ2 H3)
   (hd : ∀ ys σ H, Pv n ys σ H -> ∀ p, H p = none -> Q (.ref p) (upd H p (.lst ys))) :
   LcW (Itr lo n) ns js g none te σ H Q :=
 lc_by (n := n) Pv h0 hz hl (fun _ _ _ _ h _ => h) (fun _ _ _ _ => Nat.le_refl _) (fun i ys σ H x H' C hi w ⟨e, hx⟩ hC => by subst e; subst hx; exact hs i ys σ _ C hi w hC) hd
theorem lc_tup {K : PySem.W.Frag} {a : Addr} {xs : List V} {ns : List Str} {js : List Nat} {g : TG} {te : TE} {σ : St} {H : Hp} {Q : VK} (Pv : Nat -> List V -> St -> Hp -> Prop) (h0 : Pv 0 [] (lcSt ns js σ) H) (hz : xs.length <= sizeLine) (hl : ∀ i ys σ H, Pv i ys σ H -> ys.length <= i)
   (hK : ∀ i ys σ H, Pv i ys σ H -> SqT K H a xs)
   (hs : ∀ (i : Nat) x ys σ H (C : V -> St -> Hp -> Prop), xs[i]? = some x -> Pv i ys σ H -> (∀ y σ2 H3, Pv (i + 1) (ys ++ [y]) σ2 H3 -> C y σ2 H3) -> g x σ H fun σ2 H2 => te σ2 H2 fun y H3 => C y σ2 H3)
   (hd : ∀ ys σ H, Pv xs.length ys σ H -> ∀ p, H p = none -> Q (.ref p) (upd H p (.lst ys))) :
   LcW (Itt K a) ns js g none te σ H Q :=
 lc_by (n := xs.length) Pv h0 hz hl (fun i ys σ H hi w => ⟨xs, xs[i], hK i ys σ H w, List.getElem?_eq_getElem hi⟩) (fun ys σ H w => ⟨xs, hK _ ys σ H w, Nat.le_refl _⟩)
   (fun i ys σ H x H' C hi w ⟨e, hx⟩ hC => by subst e; exact hs i x ys σ _ C (hx xs (hK i ys σ _ w)) w hC) hd
theorem qE {K : PySem.W.Frag} {a : Addr} {xs : List V} {ns : List Str} {js : List Nat} {g : TG} {te : TE} {σ : St} {H : Hp} {Q : VK} (Pv : Nat -> List V -> St -> Hp -> Prop) (h0 : Pv 0 [] (lcSt ns js σ) H) (hz : xs.length <= sizeLine) (hl : ∀ i ys σ H, Pv i ys σ H -> ys.length <= i)
   (hK : ∀ i ys σ H, Pv i ys σ H -> SqL K H a xs)
   (hs : ∀ (i : Nat) x ys σ H (C : V -> St -> Hp -> Prop), xs[i]? = some x -> Pv i ys σ H -> (∀ y σ2 H3, Pv (i + 1) (ys ++ [y]) σ2 H3 -> C y σ2 H3) -> g x σ H fun σ2 H2 => te σ2 H2 fun y H3 => C y σ2 H3)
   (hd : ∀ ys σ H, Pv xs.length ys σ H -> ∀ p, H p = none -> Q (.ref p) (upd H p (.lst ys))) :
   LcW (Itl K a) ns js g none te σ H Q :=
 lc_by (n := xs.length) Pv h0 hz hl (fun i ys σ H hi w => ⟨xs, xs[i], hK i ys σ H w, List.getElem?_eq_getElem hi⟩) (fun ys σ H w => ⟨xs, hK _ ys σ H w, Nat.le_refl _⟩)
   (fun i ys σ H x H' C hi w ⟨e, hx⟩ hC => by subst e; exact hs i x ys σ _ C (hx xs (hK i ys σ _ w)) w hC) hd
def ForW (J : It) (g : TG) (tb : TS) (D : Ends) (σ : St) (H : Hp) : Prop := ∃ W : Nat -> Nat -> St -> Hp -> Prop, (∃ m, W 0 m σ H) /\ ∀ i m σ H, W i m σ H ->
 (J.stop i H /\ D.nx σ H) \/ (J.go i H /\ ∃ N : St -> Hp -> Prop, (∀ σ' H', N σ' H' -> ∃ m', m' < m /\ W (i + 1) m' σ' H') /\ ∀ x H', J.yld i H x H' -> g x σ H' fun σ2 H2 => tb { D with nx := N, ct := N, bk := D.nx } σ2 H2)
theorem tFor_eq {wi : TI} {g : TG} {tb : TS} {D : Ends} {σ : St} {H : Hp} : tFor wi g tb D σ H = wi σ H fun J H1 => ForW J g tb D σ H1 := rfl
theorem tLC_eq {n : List Str} {js : List Nat} {wi : TI} {g : TG} {tc : Option TT} {te : TE} {σ : St} {H : Hp} {Q : VK} : tLC n js wi g tc te σ H Q = wi σ H fun J H1 => LcW J n js g tc te σ H1 Q := rfl
theorem xW {K : PySem.W.Frag} {a : Addr} {xs : List V} {g : TG} {tb : TS} {D : Ends} {σ : St} {H : Hp} (Pv : Nat -> St -> Hp -> Prop) (h0 : Pv 0 σ H) (hl : ∀ i σ H, i <= xs.length -> Pv i σ H -> SqL K H a xs)
   (hs : ∀ i x σ H, xs[i]? = some x -> Pv i σ H -> g x σ H fun σ2 H2 => tb { D with nx := Pv (i + 1), ct := Pv (i + 1), bk := D.nx } σ2 H2) (hd : ∀ σ H, Pv xs.length σ H -> D.nx σ H) : ForW (Itl K a) g tb D σ H := for_list Pv h0 hl hs hd
theorem qF {lo : Int} {n : Nat} {g : TG} {tb : TS} {D : Ends} {σ : St} {H : Hp} (Pv : Nat -> St -> Hp -> Prop) (h0 : Pv 0 σ H)
   (hs : ∀ i σ H, i < n -> Pv i σ H -> g (.int (lo + i)) σ H fun σ2 H2 => tb { D with nx := Pv (i + 1), ct := Pv (i + 1), bk := D.nx } σ2 H2) (hd : ∀ σ H, Pv n σ H -> D.nx σ H) : ForW (Itr lo n) g tb D σ H := for_range Pv h0 hs hd
theorem zI {t u : TS} {D : Ends} {σ : St} {H : Hp} (h : ∀ N : St -> Hp -> Prop, (∀ σ H, u D σ H -> N σ H) -> t { D with nx := N } σ H) : tSeq t u D σ H := h (u D) fun _ _ z => z
theorem if_abs {c : TT} {t u : TS} {D : Ends} {σ : St} {H : Hp} (h : ∀ T U : Hp -> Prop, (∀ H1, t D σ H1 -> T H1) -> (∀ H1, u D σ H1 -> U H1) -> c σ H fun b H1 => if b = true then T H1 else U H1) : tIfS c t u D σ H := h (t D σ) (u D σ) (fun _ z => z) fun _ z => z
theorem yH {t u : TS} {D : Ends} {σ : St} {H : Hp} (J : St -> Hp -> Prop) (h1 : ∀ N : St -> Hp -> Prop, (∀ σ H, J σ H -> N σ H) -> t { D with nx := N } σ H) (h2 : ∀ σ H, J σ H -> u D σ H) : tSeq t u D σ H := h1 (u D) h2
structure Bi (mg : Str -> Option Value) : Prop where
 len : mg "len" = none
 range : mg "range" = none
 isinstance : mg "isinstance" = none
 max : mg "max" = none
 sum : mg "sum" = none
 all : mg "all" = none
 tuple : mg "tuple" = none
 list : mg "list" = none
 sorted : mg "sorted" = none
 set : mg "set" = none
 int : mg "int" = none
 bool : mg "bool" = none
 str : mg "str" = none
 dict : mg "dict" = none
theorem yS {P : Program} {w : World} {K : PySem.W.Frag} {mg : Str -> Option Value} {base : Heap} {k : Nat} {x : Str} {ps : List Str} {sp : Sp} {st : Stmt} {f : Addr} {fd : FuncData} (F : Fun K x x st f fd) (ok : FnOk P w K mg base CX0 k f fd ps sp) (b : Binds K fd ps [])
   (m : mg x = some (.ref f)) : Has P w K mg base k x ps sp := ⟨f, fd, ok, b, F.kp, m⟩
inductive Dt where
 | non | bl (b : Bool) | int (i : Int) | str (x : Str) | tup (ds : List Dt) | lst (ds : List Dt)
mutual
def DAt (H : Hp) : Dt -> V -> Prop
 | .non, v => v = .non
 | .bl b, v => v = .bl b
 | .int i, v => v = .int i
 | .str x, v => v = .str x
 | .tup ds, v => ∃ a vs, v = .ref a /\ H a = some (.tup vs) /\ DAts H ds vs
 | .lst ds, v => ∃ a vs, v = .ref a /\ H a = some (.lst vs) /\ DAts H ds vs
def DAts (H : Hp) : List Dt -> List V -> Prop
 | [], vs => vs = []
 | d :: ds, vs => ∃ v r, vs = v :: r /\ DAt H d v /\ DAts H ds r
end
mutual
theorem DAt.same {H H' : Hp} (e : Same H H') : ∀ {d : Dt} {v : V}, DAt H d v -> DAt H' d v
 | .non, _, h => h
 | .bl _, _, h => h
 | .int _, _, h => h
 | .str _, _, h => h
 | .tup ds, v, h => by
   obtain ⟨a, vs, e1, e2, e3⟩ := h
   exact ⟨a, vs, e1, e _ _ e2, DAts.same e e3⟩
 | .lst ds, v, h => by
   obtain ⟨a, vs, e1, e2, e3⟩ := h
   exact ⟨a, vs, e1, e _ _ e2, DAts.same e e3⟩
theorem DAts.same {H H' : Hp} (e : Same H H') : ∀ {ds : List Dt} {vs : List V}, DAts H ds vs -> DAts H' ds vs
 | [], _, h => h
 | d :: ds, vs, h => by
   obtain ⟨v, r, e1, e2, e3⟩ := h
   exact ⟨v, r, e1, DAt.same e e2, DAts.same e e3⟩
end
theorem DAts.length {H : Hp} : ∀ {ds : List Dt} {vs : List V}, DAts H ds vs -> vs.length = ds.length
 | [], vs, h => by
   have h : vs = [] := h
   rw [h]
   rfl
 | d :: ds, vs, h => by
   obtain ⟨v, r, e1, e2, e3⟩ := h
   rw [e1, List.length_cons, List.length_cons, DAts.length e3]
theorem DAts.get {H : Hp} : ∀ {ds : List Dt} {vs : List V} {i : Nat} {d : Dt}, DAts H ds vs -> ds[i]? = some d -> ∃ v, vs[i]? = some v /\ DAt H d v
 | [], vs, i, d, _, e => by simp at e
 | d :: ds, vs, 0, d', h, e => by
   obtain ⟨v, r, e1, e2, e3⟩ := h
   simp at e
   subst e; subst e1
   exact ⟨v, rfl, e2⟩
 | d :: ds, vs, i + 1, d', h, e => by
   obtain ⟨v, r, e1, e2, e3⟩ := h
   subst e1
   simp at e
   obtain ⟨u, h1, h2⟩ := DAts.get e3 e
   exact ⟨u, by simpa using h1, h2⟩
theorem DAts.append {H : Hp} : ∀ {ds es : List Dt} {vs us : List V}, DAts H ds vs -> DAts H es us -> DAts H (ds ++ es) (vs ++ us)
 | [], es, vs, us, h, h' => by
   have h : vs = [] := h
   subst h
   exact h'
 | d :: ds, es, vs, us, h, h' => by
   obtain ⟨v, r, e1, e2, e3⟩ := h
   subst e1
   exact ⟨v, r ++ us, rfl, e2, DAts.append e3 h'⟩
theorem DAts.take {H : Hp} : ∀ {ds : List Dt} {vs : List V} (n : Nat), DAts H ds vs -> DAts H (ds.take n) (vs.take n)
 | ds, vs, 0, _ => rfl
 | [], vs, n + 1, h => by
   have h : vs = [] := h
   subst h
   rfl
 | d :: ds, vs, n + 1, h => by
   obtain ⟨v, r, e1, e2, e3⟩ := h
   subst e1
   exact ⟨v, r.take n, rfl, e2, DAts.take n e3⟩
theorem DAts.drop {H : Hp} : ∀ {ds : List Dt} {vs : List V} (n : Nat), DAts H ds vs -> DAts H (ds.drop n) (vs.drop n)
 | ds, vs, 0, h => by simpa using h
 | [], vs, n + 1, h => by
   have h : vs = [] := h
   subst h
   rfl
 | d :: ds, vs, n + 1, h => by
   obtain ⟨v, r, e1, e2, e3⟩ := h
   subst e1
   simpa using DAts.drop n e3
theorem DAts.one {H : Hp} {d : Dt} {v : V} (h : DAt H d v) : DAts H [d] [v] := ⟨v, [], rfl, h, rfl⟩
def DFit : Nat -> Dt -> Prop
 | n + 1, .tup ds => ds.length <= 1000 /\ ∀ d ∈ ds, DFit n d
 | n + 1, .lst ds => ds.length <= 1000 /\ ∀ d ∈ ds, DFit n d
 | 0, .tup _ => False
 | 0, .lst _ => False
 | _, _ => True
inductive Tm where
 | name (x : Str)
 | node (w : Str) (ts : List Tm)
mutual
def toD : Tm -> Dt
 | .name x => .tup [.str "name", .str x]
 | .node w ts => .tup (.str w :: toDs ts)
def toDs : List Tm -> List Dt
 | [] => []
 | t :: ts => toD t :: toDs ts
end
theorem toDs_map : ∀ ts : List Tm, toDs ts = ts.map toD
 | [] => rfl
 | t :: ts => by rw [toDs, toDs_map ts, List.map_cons]
theorem toD_node (w : Str) (ts : List Tm) : toD (.node w ts) = .tup (.str w :: ts.map toD) := by rw [toD, toDs_map]
abbrev TAt (H : Hp) (t : Tm) (v : V) : Prop := DAt H (toD t) v
abbrev TAts (H : Hp) (ts : List Tm) (vs : List V) : Prop := DAts H (ts.map toD) vs
theorem TAt.name {H : Hp} {x : Str} {v : V} (h : TAt H (.name x) v) : ∃ a, v = .ref a /\ H a = some (.tup [.str "name", .str x]) := by
 obtain ⟨a, vs, e1, e2, u, r, e3, e4, e5⟩ := h
 obtain ⟨u2, r2, e6, e7, e8⟩ := e5
 have e4 : u = .str "name" := e4
 have e7 : u2 = .str x := e7
 have e8 : r2 = [] := e8
 subst e3; subst e4; subst e6; subst e7; subst e8
 exact ⟨a, e1, e2⟩
theorem TAt.mkName {H : Hp} {x : Str} {a : Addr} (h : H a = some (.tup [.str "name", .str x])) : TAt H (.name x) (.ref a) :=
 ⟨a, _, rfl, h, _, _, rfl, rfl, _, _, rfl, rfl, rfl⟩
theorem TAt.node {H : Hp} {w : Str} {ts : List Tm} {v : V} (h : TAt H (.node w ts) v) : ∃ a vs, v = .ref a /\ H a = some (.tup (.str w :: vs)) /\ TAts H ts vs := by
 unfold TAt at h
 rw [toD_node] at h
 obtain ⟨a, vs, e1, e2, u, r, e3, e4, e5⟩ := h
 have e4 : u = .str w := e4
 subst e3; subst e4
 exact ⟨a, r, e1, e2, e5⟩
theorem TAt.mkNode {H : Hp} {w : Str} {ts : List Tm} {a : Addr} {vs : List V} (h : H a = some (.tup (.str w :: vs))) (hs : TAts H ts vs) : TAt H (.node w ts) (.ref a) := by
 unfold TAt
 rw [toD_node]
 exact ⟨a, _, rfl, h, _, _, rfl, rfl, hs⟩
def Sh (w : Str) (n : Nat) : Prop := (w = "none" /\ n = 0) \/ (w = "all" /\ n = 0) \/ (w = "not" /\ n = 1) \/ (w = "both" /\ 2 <= n) \/ (w = "either" /\ 2 <= n)
structure Nm (x : Str) : Prop where
 pos : 1 <= x.length
 most : x.length <= 8
 low : ∀ c ∈ x.cps.toList, 97 <= c /\ c <= 122
 nn : x ≠ "none"
 na : x ≠ "all"
theorem zC {H : Hp} {p : Addr} (h : H p = none) (o : HO) : Same H (upd H p o) := fun b u q => by rw [zF (yD q h)]; exact q
theorem len_app (p q : Str) : (p ++ q).length = p.length + q.length := by
 show (p.cps ++ q.cps).size = p.cps.size + q.cps.size
 rw [Array.size_append]
theorem cps_app (p q : Str) : (p ++ q).cps.toList = p.cps.toList ++ q.cps.toList := by
 show (p.cps ++ q.cps).toList = _
 rw [Array.toList_append]
theorem zM {n : Nat} (h : n <= 1000) : n <= sizeLine := Nat.le_of_lt (jJ h)
theorem TAts.length {H : Hp} {ts : List Tm} {vs : List V} (h : TAts H ts vs) : vs.length = ts.length := by
 have := DAts.length h
 rw [List.length_map] at this
 exact this
def TupSame (H H' : Hp) : Prop := ∀ b xs, H b = some (.tup xs) -> H' b = some (.tup xs)
theorem TupSame.refl (H : Hp) : TupSame H H := fun _ _ h => h
theorem TupSame.trans {H H1 H2 : Hp} (a : TupSame H H1) (b : TupSame H1 H2) : TupSame H H2 := fun c o h => b c o (a c o h)
theorem Same.tups {H H' : Hp} (e : Same H H') : TupSame H H' := fun b xs h => e b _ h
theorem TupSame.upd_lst {H H' : Hp} {a : Addr} {o : HO} {xs : List V} (e : TupSame H H') (h : H' a = some (.lst xs)) : TupSame H (upd H' a o) := fun b ys hb => by
 rw [zF (xF (e _ _ hb) h (by intro z; cases z))]
 exact e _ _ hb
theorem Same.upd {H H1 : Hp} {a : Addr} {o : HO} (e : Same H H1) (h : H a = none) : Same H (upd H1 a o) := fun b u hb => by
 rw [zF (yD hb h)]
 exact e _ _ hb
mutual
theorem TAt.tups {H H' : Hp} (e : TupSame H H') : ∀ {t : Tm} {v : V}, TAt H t v -> TAt H' t v
 | .name x, v, h => by
   obtain ⟨a, e1, h2⟩ := TAt.name h
   subst e1
   exact TAt.mkName (e _ _ h2)
 | .node w ts, v, h => by
   obtain ⟨a, vs, e1, h2, hs⟩ := TAt.node h
   subst e1
   exact TAt.mkNode (e _ _ h2) (TAts.tups e hs)
theorem TAts.tups {H H' : Hp} (e : TupSame H H') : ∀ {ts : List Tm} {vs : List V}, TAts H ts vs -> TAts H' ts vs
 | [], vs, h => h
 | t :: ts, vs, h => by
   obtain ⟨v, r, e1, e2, e3⟩ := h
   exact ⟨v, r, e1, TAt.tups e e2, TAts.tups e e3⟩
end
structure KD (w : World) (K : PySem.W.Frag) (a : Addr) (kvs : List (Key × V)) : Prop where
 dict : ∀ (P : Program) (h : Heap), K.In h -> ∃ vs, KV kvs vs /\ h.DictOf (zZ P w) a vs
def tKGet (w : World) (K : PySem.W.Frag) (td ty : TE) : TE := fun σ H Q => td σ H fun x H1 => ty σ H1 fun y H2 => ∃ a kvs k v, x = .ref a /\ y = kV k /\ KD w K a kvs /\ yJ kvs k = some v /\ Q v H2
def entOk (w : World) : List DictEntry -> List (Str × Str) -> Prop
 | [], r => r = []
 | e :: es, r => ∃ x y t u r', r = (x, y) :: r' /\ e.hash = hashStr w x /\ e.key = .str x t /\ e.val = .str y u /\ entOk w es r'
theorem entOk.keys {w : World} {P : Program} : ∀ {es : List DictEntry} {r : List (Str × Str)}, entOk w es r -> ∀ e ∈ es, ∃ k, (zZ P w).is k e.key = true /\ e.hash = (zZ P w).hash k
 | [], _, _, e, he => nomatch he
 | e :: es, r, h, e', he => by
   obtain ⟨x, y, t, u, r', _, h1, h2, _, h4⟩ := h
   rcases List.mem_cons.mp he with rfl | he
   · exact ⟨.inr x, by rw [h2]; exact xM P w x t, h1⟩
   · exact entOk.keys h4 e' he
theorem cx_w {CX : CXT} {P : Program} {w : World} {K : PySem.W.Frag} {mg : Str -> Option Value} {base : Heap} {N : List Str} {qual : Str} {scope : Scope} {f : Addr} {cd : Value} {A : Around} {outer : List Env} {s : Shared} {H : Hp} {E : XK} : (uQ CX P w K mg base N qual scope f cd A outer s H E).w = w := rfl
theorem bk_w {X : Cx} {xs ys : List Str} {scope : Scope} {C : Addr} {s₀ : Shared} {H₀ : Hp} {fp : List Addr} : (yB X xs ys scope C s₀ H₀ fp).w = X.w := rfl
theorem kit_same {K : PySem.W.Frag} {T : String} : PySem.W.kitOne K (.type T) (.type T) = some true := by
 unfold PySem.W.kitOne
 rw [if_pos (by simp)]
def kitF (S T : String) : Bool := !(Value.type S == Value.type T) && PySem.W.kitMeta T && ((PySem.fastBuiltinMro S).map (·.contains (.type T)) == some false)
theorem kit_f {K : PySem.W.Frag} {S T : String} (h : kitF S T = true) : PySem.W.kitOne K (.type S) (.type T) = some false := by
 unfold kitF at h
 simp only [Bool.and_eq_true, Bool.not_eq_true', beq_iff_eq] at h
 unfold PySem.W.kitOne
 rw [if_neg (by rw [h.1.1]; decide)]
 show (if PySem.W.kitMeta T = true then PySem.W.subIn K (.type S) (.type T) else none) = _
 rw [if_pos h.1.2]
 exact h.2
theorem kit_ti {K : PySem.W.Frag} : PySem.W.kitOne K (.type "tuple") (.type "int") = some false := kit_f (by decide +kernel)
theorem kit_ib {K : PySem.W.Frag} : PySem.W.kitOne K (.type "int") (.type "bool") = some false := kit_f (by decide +kernel)
def mw (w : Str) : Str := if w = "none" then "all" else if w = "all" then "none" else if w = "both" then "either" else if w = "either" then "both" else w
mutual
def mir : Tm -> Tm
 | .name x => .name x
 | .node w ts => .node (mw w) (mirs ts)
def mirs : List Tm -> List Tm
 | [] => []
 | t :: ts => mir t :: mirs ts
end
theorem Sh.mw {w : Str} {n : Nat} (h : Sh w n) : Sh (mw w) n /\ L2.mw (L2.mw w) = w := by
 rcases h with ⟨rfl, h⟩ | ⟨rfl, h⟩ | ⟨rfl, h⟩ | ⟨rfl, h⟩ | ⟨rfl, h⟩
 · exact ⟨.inr (.inl ⟨by decide +kernel, h⟩), by decide +kernel⟩
 · exact ⟨.inl ⟨by decide +kernel, h⟩, by decide +kernel⟩
 · exact ⟨.inr (.inr (.inl ⟨by decide +kernel, h⟩)), by decide +kernel⟩
 · exact ⟨.inr (.inr (.inr (.inr ⟨by decide +kernel, h⟩))), by decide +kernel⟩
 · exact ⟨.inr (.inr (.inr (.inl ⟨by decide +kernel, h⟩))), by decide +kernel⟩
theorem Same.tup {K : PySem.W.Frag} {H H' : Hp} {a : Addr} {xs : List V} (e : Same H H') (h : SqT K H a xs) : SqT K H' a xs := by
 rcases h with (h | ⟨o, h⟩) | h
 · exact .inl (.inl (e _ _ h))
 · exact .inl (.inr ⟨o, e _ _ h⟩)
 · exact .inr h
theorem at0 {α : Type} {x : α} {xs : List α} : atI (x :: xs) 0 = some x := yL (j := 0) (xs := x :: xs) rfl
theorem at1 {α : Type} {x y : α} {xs : List α} : atI (x :: y :: xs) 1 = some y := yL (j := 1) (xs := x :: y :: xs) rfl
def dSay (p : Tm × Tm) : Dt := .tup [toD p.1, toD p.2]
abbrev SAts (H : Hp) (ps : List (Tm × Tm)) (vs : List V) : Prop := DAts H (ps.map dSay) vs
theorem SAts.length {H : Hp} {ps : List (Tm × Tm)} {vs : List V} (h : SAts H ps vs) : vs.length = ps.length := by
 have := DAts.length h
 rw [List.length_map] at this
 exact this
def wH (ns : List Int) (lo hi : Option Int) : List Int := (ns.drop (HT.sIx ns.length 0 lo)).take (HT.sIx ns.length ns.length hi - HT.sIx ns.length 0 lo)
theorem cut_ints (ns : List Int) (lo hi : Option Int) : uK (ns.map V.int) lo hi = (wH ns lo hi).map V.int := by
 unfold uK wH
 rw [List.length_map, List.map_take, List.map_drop]
theorem cutI_len (ns : List Int) (lo hi : Option Int) : (wH ns lo hi).length <= ns.length := by
 unfold wH
 rw [List.length_take, List.length_drop]
 omega
section
variable {X : Cx} (K : PySem.W.Frag)
theorem ix_listK (h : X.K = K := by rfl) : IxR X (rIxL K) := by subst h; exact ix_list
theorem qU (h : X.K = K := by rfl) : IxR X (rIxT K) := by subst h; exact ix_tup
theorem call_lenK (h : X.K = K := by rfl) : jR X (.builtin "len") (fun xs H Q => ∃ x n, xs = [x] /\ LenV K x H n /\ Q (.int n) H) := by subst h; exact call_len
theorem uT (h : X.K = K := by rfl) : jR X (.type "list") (fun xs H Q => ∃ p ys, xs = [.ref p] /\ (SqL K H p ys \/ SqT K H p ys) /\ ∀ l, H l = none -> Q (.ref l) (upd H l (.lst ys))) := by subst h; exact call_list_of
end
end L2
namespace L2
open PySem
abbrev Cs := List Nat
def glue (j : Cs) : List Cs -> Cs
 | [] => []
 | [s] => s
 | s :: r :: q => s ++ j ++ glue j (r :: q)
def jAnd : Cs := [32, 38, 32]
def jOr : Cs := [32, 124, 32]
def jOf (w : Str) : Cs := if w = "both" then jAnd else jOr
def wrN (w : Str) (ss : List Cs) : Cs := if w = "not" then 33 :: ss.headD [] else if ss = [] then w.cps.toList else 40 :: (glue (jOf w) ss ++ [41])
mutual
def wr : Tm -> Cs
 | .name x => x.cps.toList
 | .node w ts => wrN w (wrs ts)
def wrs : List Tm -> List Cs
 | [] => []
 | t :: ts => wr t :: wrs ts
end
end L2
namespace L2
open PySem
def toS (s : Cs) : Str := ⟨s.toArray⟩
end L2
namespace L2
open PySem PySem.Builtin PySem.Builtin.Str PySem.StrLaws
structure Mark (y : Cs) (k m : Nat) : Prop where
 at_ : y[k]? = some m
 once : ∀ j, y[j]? = some m -> j = k
end L2
namespace L2
open PySem PySem.Spec PyProof.Rows PySem.Builtin PySem.Builtin.Str
section
variable {X : Cx}
end
structure HasM (P : Program) (w : World) (K : PySem.W.Frag) (mg : Str -> Option Value) (base : Heap) (k : Nat) (C : Addr) (m : Str) (ps : List Str) (sp : Sp) : Prop where
 ex : ∃ f fd, FnOk P w K mg base CX0 k f fd ps sp /\ Binds K fd ps [] /\ Meth K C m f
structure HasI (P : Program) (w : World) (K : PySem.W.Frag) (mg : Str -> Option Value) (base : Heap) (k : Nat) (C : Addr) (x : Str) (ps : List Str) (sp : Sp) : Prop where
 ex : ∃ f fd, FnOk P w K mg base CX0 k f fd ps sp /\ Binds K fd ps [] /\ Mk K C f /\ mg x = some (.ref C)
section
variable {X : Cx} {k : Nat} {C : Addr} {x m : Str} {ps : List Str} {sp : Sp} {p pos apos : Pos} {e o : Expr} {es : List Expr} {ta : TE} {t : TA}
theorem zR {pl : Sem Bool} (h : HasM X.prog X.w X.K X.mg X.base k C m ps sp) (c : Cls X.K C) (hr : Room k X.A) (he : PE X o ta) (ha : PA X (e :: es) t)
   (hst : starEach (e :: es) X.env = (false, eval e X.env) :: starEach es X.env := by rfl) (hpl : (backTo pos (starEach es X.env)).any (·.1) = false := by rfl)
   (ht : eval (.Call (.Attribute o m apos) (e :: es) [] pos) X.env = (do
     let ov ← eval o X.env
     standAt apos.atName
     let (f, first) ← holding [ov] (getMethod ov m pl)
     callWith pos f first (backTo pos (starEach (e :: es) X.env)) (backToKw pos (keywordEach [] X.env))) := by rfl) :
   PE X (.Call (.Attribute o m apos) (e :: es) [] pos) (yX C m sp [] E0 ta t) := by
 obtain ⟨f, fd, F, b, mm⟩ := h.ex
 exact pe_meth (pl := pl) he c mm F hr b .nil pass0 ha hst hpl ht
theorem pe_makeH (h : HasI X.prog X.w X.K X.mg X.base k C x ps sp) (hr : Room (k + 1) X.A) (hg : Gl X x) (ha : PA X (e :: es) t) (hdb : (x == ("__debug__" : Str)) = false := by decide)
   (he : starEach (e :: es) X.env = (false, eval e X.env) :: starEach es X.env := by rfl) (hpl : (backTo pos (starEach es X.env)).any (·.1) = false := by rfl) :
   PE X (.Call (.Name x p) (e :: es) [] pos) (tMake C sp [] E0 t) := by
 obtain ⟨f, fd, F, b, M, m⟩ := h.ex
 exact pe_make M F hr hg m b .nil pass0 ha hdb he hpl
end
def rdF (x : Cs) (k : Nat) : List (Str × V) := [("text", .str (toS x)), ("at", .int k)]
def RdAt (C : Addr) (H : Hp) (r : Addr) (x : Cs) (k : Nat) : Prop := ∃ dx, H r = some (.ins C dx (rdF x k))
def SameX (r : Addr) (H H' : Hp) : Prop := ∀ b o, H b = some o -> b ≠ r -> H' b = some o
theorem SameX.refl (r : Addr) (H : Hp) : SameX r H H := fun _ _ h _ => h
theorem SameX.trans {r : Addr} {H H1 H2 : Hp} (a : SameX r H H1) (b : SameX r H1 H2) : SameX r H H2 := fun c o h n => b c o (a c o h n) n
theorem Same.x {r : Addr} {H H' : Hp} (a : Same H H') : SameX r H H' := fun c o h _ => a c o h
theorem SameX.upd {r : Addr} {H H1 : Hp} {o : HO} (a : SameX r H H1) : SameX r H (L2.upd H1 r o) := fun c o' h n => by
 rw [zF n]
 exact a c o' h n
theorem SameX.tups {r : Addr} {H H' : Hp} {C : Addr} {x : Cs} {k : Nat} (a : SameX r H H') (h : RdAt C H r x k) : TupSame H H' := fun b xs e => by
 obtain ⟨dx, h⟩ := h
 exact a b _ e (xF e h (by intro z; cases z))
theorem RdAt.same {C : Addr} {H H' : Hp} {r : Addr} {x : Cs} {k : Nat} (h : RdAt C H r x k) (e : Same H H') : RdAt C H' r x k := by
 obtain ⟨dx, h⟩ := h
 exact ⟨dx, e _ _ h⟩
section
variable {prog : Program} {w : World} {A : Around} {E : Value -> Shared -> Prop} {s : Shared} {a : Addr} {its : Array Value} {n : Nat} {sl : Array (Option Value)}
end
section
variable {prog : Program} {w : World} {A : Around} {E : Value -> Shared -> Prop} {h : Heap} {g : Array GenState} {d : Drawn} {t : Nat} {os : OsState} {a : Addr} {its : Array Value} {n : Nat} {sl : Array (Option Value)}
end
section
variable {prog : Program} {w : World} {Kt : Type} [DecidableEq Kt] {knd : KeyKind prog w Kt} {A : Around} {E : Value -> Shared -> Prop} {s : Shared}
end
section
variable {X : Cx}
end
end L2
namespace L2
open PySem PySem.Spec PyProof.Rows PySem.W
section
variable {prog : Program} {w : World} {A : Around} {E : Value -> Shared -> Prop} {s : Shared} {T : String} {r d : Addr} {n : Nat} {P : Nat -> Value -> Prop} {OK : Heap -> Prop}
end
section
variable {X : Cx}
end
section
variable {X : Cx}
end
end L2
namespace L2
open PySem PyProof.Rows
section
variable {prog : Program} {w : World} {A : Around} {E : Value -> Shared -> Prop} {s : Shared}
end
end L2
namespace L2
open PySem PyProof.Rows
section
variable {prog : Program} {w : World} {A : Around} {E : Value -> Shared -> Prop} {s : Shared}
end
end L2
namespace L2
open PySem PyProof.Rows
section
variable {prog : Program} {w : World} {A : Around} {E : Value -> Shared -> Prop} {s : Shared}
end
end L2
namespace L2
open PySem PyProof.Rows
section
variable {prog : Program} {w : World} {A : Around} {R : Result -> Shared -> Prop} {I : Addr} {fp wr : List Addr} {G : Array GenState -> Array GenState -> Prop} {n : Nat} {P : Nat -> Value -> Prop} {St : Nat -> Shared -> Prop}
end
section
variable {prog : Program} {w : World} {A : Around} {E : Value -> Shared -> Prop} {s : Shared}
end
end L2
namespace L2
open PySem PyProof.Rows
section
variable {prog : Program} {w : World} {A : Around} {E : Value -> Shared -> Prop} {s : Shared}
end
end L2
namespace L2
open PySem PySem.Spec PyProof.Rows PySem.SeqAt
mutual
def deq : Dt -> Dt -> Bool
 | .non, .non => true
 | .bl a, .bl b => a == b
 | .int a, .int b => a == b
 | .bl a, .int b => (if a then 1 else 0) == b
 | .int a, .bl b => a == (if b then 1 else 0)
 | .str a, .str b => a == b
 | .tup xs, .tup ys => deqs xs ys
 | .lst xs, .lst ys => deqs xs ys
 | _, _ => false
def deqs : List Dt -> List Dt -> Bool
 | [], [] => true
 | x :: xs, y :: ys => deq x y && deqs xs ys
 | _, _ => false
end
mutual
theorem deq_refl : ∀ d : Dt, deq d d = true
 | .non => rfl
 | .bl a => by simp [deq]
 | .int a => by simp [deq]
 | .str a => by simp [deq]
 | .tup ds => by rw [deq]; exact deqs_refl ds
 | .lst ds => by rw [deq]; exact deqs_refl ds
theorem deqs_refl : ∀ ds : List Dt, deqs ds ds = true
 | [] => rfl
 | d :: ds => by rw [deqs, deq_refl d, deqs_refl ds]; rfl
end
def eat (xs ys : List Dt) (j : Nat) : Bool :=
 match xs[j]?, ys[j]? with
 | some x, some y => deq x y
 | _, _ => false
theorem deqs_all : ∀ xs ys : List Dt, ((List.range (min xs.length ys.length)).all (eat xs ys) && xs.length == ys.length) = deqs xs ys
 | [], [] => rfl
 | [], y :: ys => by simp [deqs]
 | x :: xs, [] => by simp [deqs]
 | x :: xs, y :: ys => by
   rw [deqs, ← deqs_all xs ys, List.length_cons, List.length_cons, Nat.succ_min_succ, List.range_succ_eq_map, List.all_cons, List.all_map]
   have e1 : eat (x :: xs) (y :: ys) 0 = deq x y := rfl
   have e2 : eat (x :: xs) (y :: ys) ∘ Nat.succ = eat xs ys := by funext j; simp [eat]
   rw [e1, e2, Bool.and_assoc]
   congr 2
   rw [Bool.eq_iff_iff]
   simp
mutual
theorem DAt.one_of {H : Hp} : ∀ {d d' : Dt} {v : V}, DAt H d v -> DAt H d' v -> d = d'
 | d, .non, v, h, h' => by have h' : v = .non := h'; subst h'; cases d <;> simp_all [DAt]
 | d, .bl b, v, h, h' => by have h' : v = .bl b := h'; subst h'; cases d <;> simp_all [DAt]
 | d, .int b, v, h, h' => by have h' : v = .int b := h'; subst h'; cases d <;> simp_all [DAt]
 | d, .str b, v, h, h' => by have h' : v = .str b := h'; subst h'; cases d <;> simp_all [DAt]
 | d, .tup ds', v, h, h' => by
   obtain ⟨a, vs, rfl, e2, e3⟩ := h'
   cases d with
   | tup ds =>
     obtain ⟨a', vs', e1', e2', e3'⟩ := h
     cases e1'
     rw [e2] at e2'
     cases e2'
     rw [DAts.one_of e3' e3]
   | lst ds =>
     obtain ⟨a', vs', e1', e2', e3'⟩ := h
     cases e1'
     rw [e2] at e2'
     cases e2'
   | _ => cases h
 | d, .lst ds', v, h, h' => by
   obtain ⟨a, vs, rfl, e2, e3⟩ := h'
   cases d with
   | lst ds =>
     obtain ⟨a', vs', e1', e2', e3'⟩ := h
     cases e1'
     rw [e2] at e2'
     cases e2'
     rw [DAts.one_of e3' e3]
   | tup ds =>
     obtain ⟨a', vs', e1', e2', e3'⟩ := h
     cases e1'
     rw [e2] at e2'
     cases e2'
   | _ => cases h
theorem DAts.one_of {H : Hp} : ∀ {ds ds' : List Dt} {vs : List V}, DAts H ds vs -> DAts H ds' vs -> ds = ds'
 | ds, [], vs, h, h' => by
   have h' : vs = [] := h'
   subst h'
   cases ds with
   | nil => rfl
   | cons d ds => obtain ⟨v, r, e, _⟩ := h; cases e
 | ds, d' :: ds', vs, h, h' => by
   obtain ⟨v, r, rfl, e2, e3⟩ := h'
   cases ds with
   | nil => cases h
   | cons d ds =>
     obtain ⟨v', r', e, e2', e3'⟩ := h
     cases e
     rw [DAt.one_of e2' e2, DAts.one_of e3' e3]
end
section
variable {P : Program} {w : World} {H : Hp} {s : Shared}
theorem DAts.tup_of (ok : HOk P w H s.heap) {a : Addr} {vs : List V} (h : H a = some (.tup vs)) : ∃ its : List Value, Vals vs its /\ s.heap.IsTuple a its.toArray := by
 obtain ⟨z, its, r, p⟩ := ok a _ h
 exact ⟨its, r, p⟩
theorem DAts.lst_of (ok : HOk P w H s.heap) {a : Addr} {vs : List V} (h : H a = some (.lst vs)) : ∃ its : List Value, Vals vs its /\ s.heap.IsList a its.toArray := by
 obtain ⟨z, its, n, r, p⟩ := ok a _ h
 exact ⟨its, r, _, p, rfl, n, rfl⟩
theorem vals_at : ∀ {xs : List V} {us : List Value} {i : Nat} {x : V} {u : Value}, Vals xs us -> xs[i]? = some x -> us[i]? = some u -> RelV x u
 | _, _, _, _, _, .nil, h, _ => by simp at h
 | _, _, 0, _, _, .cons r q, h, h' => by
   simp at h h'
   subst h
   subst h'
   exact r
 | _, _, i + 1, _, _, .cons r q, h, h' => vals_at q (by simpa using h) (by simpa using h')
theorem rc_lists (ok : HOk P w H s.heap) {n : Nat} {A : Around} (ih : ∀ {A : Around} {d d' : Dt} {v v' : V} {u u' : Value}, DAt H d v -> DAt H d' v' -> RelV v u -> RelV v' u' -> DFit n d -> A.units + n < cLine -> EqAt A s u u' (deq d d'))
   {l l' : Addr} {ds ds' : List Dt} {vs vs' : List V} {its its' : List Value} (hs : DAts H ds vs) (hs' : DAts H ds' vs') (rv : Vals vs its) (rv' : Vals vs' its') (hl : s.heap.IsList l its.toArray) (hl' : s.heap.IsList l' its'.toArray)
   (f : ∀ d ∈ ds, DFit n d) (hu : A.units + (n + 1) < cLine) : RcAt A s (.ref l) (.ref l') (deqs ds ds') := by
 have k1 := hs.length
 have k2 := hs'.length
 have k3 := rv.length
 have k4 := rv'.length
 by_cases hz : ds.length = ds'.length
 · have key := RcAt.lists (A := A) (e := eat ds ds') hl hl' (by rw [List.size_toArray, List.size_toArray]; omega) (by omega) fun j h1 h2 => ?_
   · rw [← deqs_all, hz, Nat.min_self, beq_self_eq_true, Bool.and_true]
     rw [List.size_toArray] at key
     rw [show ds'.length = its.length by omega]
     exact key
   · rw [List.size_toArray] at h1 h2
     have hj : j < ds.length := by omega
     have hj' : j < ds'.length := by omega
     obtain ⟨x, x1, x2⟩ := hs.get (List.getElem?_eq_getElem hj)
     obtain ⟨y, y1, y2⟩ := hs'.get (List.getElem?_eq_getElem hj')
     have e1 : eat ds ds' j = deq ds[j] ds'[j] := by unfold eat; rw [List.getElem?_eq_getElem hj, List.getElem?_eq_getElem hj']
     rw [e1]
     refine ih x2 y2 ?_ ?_ (f _ (List.getElem_mem hj)) (by show A.units + 1 + n < cLine; omega)
     · exact vals_at rv x1 (by rw [List.getElem_toArray]; exact List.getElem?_eq_getElem h1)
     · exact vals_at rv' y1 (by rw [List.getElem_toArray]; exact List.getElem?_eq_getElem h2)
 · have hf : deqs ds ds' = false := by rw [← deqs_all, show (ds.length == ds'.length) = false by simpa using hz, Bool.and_false]
   rw [hf]
   exact RcAt.lists_lengths hl hl' (by rw [List.size_toArray, List.size_toArray]; simp; omega) (by omega)
theorem deq_same (ok : HOk P w H s.heap) {A : Around} {d : Dt} {v : V} {u u' : Value} (h : DAt H d v) (r : RelV v u) (r' : RelV v u') : EqAt A s u u' true := by
 cases d with
 | non => have h : v = .non := h; subst h; cases r; cases r'; exact EqAt.same _
 | bl a => have h : v = .bl a := h; subst h; cases r; cases r'; exact EqAt.same _
 | int a =>
   have h : v = .int a := h
   subst h
   obtain ⟨t, rfl⟩ := r
   obtain ⟨t', rfl⟩ := r'
   have := EqAt.int_int (A := A) (s := s) a t a t'
   rwa [beq_self_eq_true] at this
 | str a =>
   have h : v = .str a := h
   subst h
   obtain ⟨t, rfl⟩ := r
   obtain ⟨t', rfl⟩ := r'
   have := EqAt.str_str (A := A) (s := s) a t a t'
   rwa [beq_self_eq_true] at this
 | tup ds => obtain ⟨l, vs, rfl, _⟩ := h; cases r; cases r'; exact EqAt.same _
 | lst ds => obtain ⟨l, vs, rfl, _⟩ := h; cases r; cases r'; exact EqAt.same _
theorem wD (ok : HOk P w H s.heap) {A : Around} {d d' : Dt} {v v' : V} {u u' : Value} (h : DAt H d v) (h' : DAt H d' v') (r : RelV v u) (r' : RelV v' u') (hu : A.units < cLine) (hk : ∀ ds ds', ¬ (d = .tup ds /\ d' = .tup ds') /\ ¬ (d = .lst ds /\ d' = .lst ds')) : EqAt A s u u' (deq d d') := by
 cases d with
 | non =>
   have h : v = .non := h
   subst h
   cases r
   cases d' with
   | non =>
     have h' : v' = .non := h'
     subst h'
     cases r'
     simp only [deq]
     exact EqAt.same _
   | bl b =>
     have h' : v' = .bl b := h'
     subst h'
     cases r'
     simp only [deq]
     exact EqAt.none_bool _
   | int b =>
     have h' : v' = .int b := h'
     subst h'
     obtain ⟨t', rfl⟩ := r'
     simp only [deq]
     exact EqAt.none_int _ _
   | str b =>
     have h' : v' = .str b := h'
     subst h'
     obtain ⟨t', rfl⟩ := r'
     simp only [deq]
     exact EqAt.none_str _ _
   | tup ds' =>
     obtain ⟨l', vs', rfl, e', hs'⟩ := h'
     cases r'
     obtain ⟨its', rv', hl'⟩ := DAts.tup_of ok e'
     simp only [deq]
     exact EqAt.none_tuple hl' hu
   | lst ds' =>
     obtain ⟨l', vs', rfl, e', hs'⟩ := h'
     cases r'
     obtain ⟨its', rv', hl'⟩ := DAts.lst_of ok e'
     simp only [deq]
     exact EqAt.none_list hl' hu
 | bl a =>
   have h : v = .bl a := h
   subst h
   cases r
   cases d' with
   | non =>
     have h' : v' = .non := h'
     subst h'
     cases r'
     simp only [deq]
     exact EqAt.bool_none _
   | bl b =>
     have h' : v' = .bl b := h'
     subst h'
     cases r'
     simp only [deq]
     exact EqAt.bool_bool _ _
   | int b =>
     have h' : v' = .int b := h'
     subst h'
     obtain ⟨t', rfl⟩ := r'
     simp only [deq]
     exact EqAt.bool_int _ _ _
   | str b =>
     have h' : v' = .str b := h'
     subst h'
     obtain ⟨t', rfl⟩ := r'
     simp only [deq]
     exact EqAt.bool_str _ _ _
   | tup ds' =>
     obtain ⟨l', vs', rfl, e', hs'⟩ := h'
     cases r'
     obtain ⟨its', rv', hl'⟩ := DAts.tup_of ok e'
     simp only [deq]
     exact EqAt.bool_tuple _ hl' hu
   | lst ds' =>
     obtain ⟨l', vs', rfl, e', hs'⟩ := h'
     cases r'
     obtain ⟨its', rv', hl'⟩ := DAts.lst_of ok e'
     simp only [deq]
     exact EqAt.bool_list _ hl' hu
 | int a =>
   have h : v = .int a := h
   subst h
   obtain ⟨t, rfl⟩ := r
   cases d' with
   | non =>
     have h' : v' = .non := h'
     subst h'
     cases r'
     simp only [deq]
     exact EqAt.int_none _ _
   | bl b =>
     have h' : v' = .bl b := h'
     subst h'
     cases r'
     simp only [deq]
     exact EqAt.int_bool _ _ _
   | int b =>
     have h' : v' = .int b := h'
     subst h'
     obtain ⟨t', rfl⟩ := r'
     simp only [deq]
     exact EqAt.int_int _ _ _ _
   | str b =>
     have h' : v' = .str b := h'
     subst h'
     obtain ⟨t', rfl⟩ := r'
     simp only [deq]
     exact EqAt.int_str _ _ _ _
   | tup ds' =>
     obtain ⟨l', vs', rfl, e', hs'⟩ := h'
     cases r'
     obtain ⟨its', rv', hl'⟩ := DAts.tup_of ok e'
     simp only [deq]
     exact EqAt.int_tuple _ _ hl' hu
   | lst ds' =>
     obtain ⟨l', vs', rfl, e', hs'⟩ := h'
     cases r'
     obtain ⟨its', rv', hl'⟩ := DAts.lst_of ok e'
     simp only [deq]
     exact EqAt.int_list _ _ hl' hu
 | str a =>
   have h : v = .str a := h
   subst h
   obtain ⟨t, rfl⟩ := r
   cases d' with
   | non =>
     have h' : v' = .non := h'
     subst h'
     cases r'
     simp only [deq]
     exact EqAt.str_none _ _
   | bl b =>
     have h' : v' = .bl b := h'
     subst h'
     cases r'
     simp only [deq]
     exact EqAt.str_bool _ _ _
   | int b =>
     have h' : v' = .int b := h'
     subst h'
     obtain ⟨t', rfl⟩ := r'
     simp only [deq]
     exact EqAt.str_int _ _ _ _
   | str b =>
     have h' : v' = .str b := h'
     subst h'
     obtain ⟨t', rfl⟩ := r'
     simp only [deq]
     exact EqAt.str_str _ _ _ _
   | tup ds' =>
     obtain ⟨l', vs', rfl, e', hs'⟩ := h'
     cases r'
     obtain ⟨its', rv', hl'⟩ := DAts.tup_of ok e'
     simp only [deq]
     exact EqAt.str_tuple _ _ hl' hu
   | lst ds' =>
     obtain ⟨l', vs', rfl, e', hs'⟩ := h'
     cases r'
     obtain ⟨its', rv', hl'⟩ := DAts.lst_of ok e'
     simp only [deq]
     exact EqAt.str_list _ _ hl' hu
 | tup ds =>
   obtain ⟨l, vs, rfl, e, hs⟩ := h
   cases r
   obtain ⟨its, rv, hl⟩ := DAts.tup_of ok e
   cases d' with
   | non =>
     have h' : v' = .non := h'
     subst h'
     cases r'
     simp only [deq]
     exact EqAt.tuple_none hl hu
   | bl b =>
     have h' : v' = .bl b := h'
     subst h'
     cases r'
     simp only [deq]
     exact EqAt.tuple_bool _ hl hu
   | int b =>
     have h' : v' = .int b := h'
     subst h'
     obtain ⟨t', rfl⟩ := r'
     simp only [deq]
     exact EqAt.tuple_int _ _ hl hu
   | str b =>
     have h' : v' = .str b := h'
     subst h'
     obtain ⟨t', rfl⟩ := r'
     simp only [deq]
     exact EqAt.tuple_str _ _ hl hu
   | tup ds' => exact absurd ⟨rfl, rfl⟩ (hk _ _).1
   | lst ds' =>
     obtain ⟨l', vs', rfl, e', hs'⟩ := h'
     cases r'
     obtain ⟨its', rv', hl'⟩ := DAts.lst_of ok e'
     simp only [deq]
     exact EqAt.tuple_list hl hl' hu
 | lst ds =>
   obtain ⟨l, vs, rfl, e, hs⟩ := h
   cases r
   obtain ⟨its, rv, hl⟩ := DAts.lst_of ok e
   cases d' with
   | non =>
     have h' : v' = .non := h'
     subst h'
     cases r'
     simp only [deq]
     exact EqAt.list_none hl hu
   | bl b =>
     have h' : v' = .bl b := h'
     subst h'
     cases r'
     simp only [deq]
     exact EqAt.list_bool _ hl hu
   | int b =>
     have h' : v' = .int b := h'
     subst h'
     obtain ⟨t', rfl⟩ := r'
     simp only [deq]
     exact EqAt.list_int _ _ hl hu
   | str b =>
     have h' : v' = .str b := h'
     subst h'
     obtain ⟨t', rfl⟩ := r'
     simp only [deq]
     exact EqAt.list_str _ _ hl hu
   | tup ds' =>
     obtain ⟨l', vs', rfl, e', hs'⟩ := h'
     cases r'
     obtain ⟨its', rv', hl'⟩ := DAts.tup_of ok e'
     simp only [deq]
     exact EqAt.list_tuple hl hl' hu
   | lst ds' => exact absurd ⟨rfl, rfl⟩ (hk _ _).2
theorem uJ (ok : HOk P w H s.heap) : ∀ (n : Nat) {A : Around} {d d' : Dt} {v v' : V} {u u' : Value}, DAt H d v -> DAt H d' v' -> RelV v u -> RelV v' u' -> DFit n d -> A.units + n < cLine -> EqAt A s u u' (deq d d') := by
 intro n
 induction n with
 | zero =>
   intro A d d' v v' u u' h h' r r' f hu
   exact wD ok h h' r r' hu fun ds ds' => ⟨fun e => by rw [e.1] at f; exact f, fun e => by rw [e.1] at f; exact f⟩
 | succ n ih =>
   intro A d d' v v' u u' h h' r r' f hu
   by_cases hvv : v = v'
   · subst hvv
     rw [DAt.one_of h h', deq_refl]
     have hd : d = d' := DAt.one_of h h'
     subst hd
     have hx := deq_same ok (A := A) h r r'
     exact hx
   cases d with
   | tup ds =>
     cases d' with
     | tup ds' =>
       obtain ⟨l, vs, rfl, e, hs⟩ := h
       obtain ⟨l', vs', rfl, e', hs'⟩ := h'
       cases r
       cases r'
       obtain ⟨its, rv, hl⟩ := DAts.tup_of ok e
       obtain ⟨its', rv', hl'⟩ := DAts.tup_of ok e'
       have k1 := hs.length
       have k2 := hs'.length
       have k3 := rv.length
       have k4 := rv'.length
       have key := RcAt.tuples (A := A) (e := eat ds ds') hl hl' (by omega) fun j h1 h2 => ?_
       · simp only [deq]
         rw [← deqs_all]
         refine EqAt.of_refs (fun z => hvv (by rw [z])) ?_
         rw [List.size_toArray, List.size_toArray] at key
         rw [← k1, ← k2, k3, k4]
         exact key
       · rw [List.size_toArray] at h1 h2
         have hj : j < ds.length := by omega
         have hj' : j < ds'.length := by omega
         obtain ⟨x, x1, x2⟩ := hs.get (List.getElem?_eq_getElem hj)
         obtain ⟨y, y1, y2⟩ := hs'.get (List.getElem?_eq_getElem hj')
         have e1 : eat ds ds' j = deq ds[j] ds'[j] := by unfold eat; rw [List.getElem?_eq_getElem hj, List.getElem?_eq_getElem hj']
         rw [e1]
         refine ih x2 y2 ?_ ?_ (f.2 _ (List.getElem_mem hj)) (by show A.units + 1 + n < cLine; omega)
         · exact vals_at rv x1 (by rw [List.getElem_toArray]; exact List.getElem?_eq_getElem h1)
         · exact vals_at rv' y1 (by rw [List.getElem_toArray]; exact List.getElem?_eq_getElem h2)
     | _ => exact wD ok h h' r r' (by omega) fun ds ds' => ⟨fun e => (by cases e.2), fun e => (by cases e.1)⟩
   | lst ds =>
     cases d' with
     | lst ds' =>
       obtain ⟨l, vs, rfl, e, hs⟩ := h
       obtain ⟨l', vs', rfl, e', hs'⟩ := h'
       cases r
       cases r'
       obtain ⟨its, rv, hl⟩ := DAts.lst_of ok e
       obtain ⟨its', rv', hl'⟩ := DAts.lst_of ok e'
       simp only [deq]
       exact EqAt.of_refs (fun z => hvv (by rw [z])) (rc_lists ok ih hs hs' rv rv' hl hl' f.2 hu)
     | _ => exact wD ok h h' r r' (by omega) fun ds ds' => ⟨fun e => (by cases e.1), fun e => (by cases e.2)⟩
   | _ => exact wD ok h h' r r' (by omega) fun ds ds' => ⟨fun e => (by cases e.1), fun e => (by cases e.1)⟩
end
section
variable {X : Cx}
end
end L2
namespace L2
open PySem PySem.Spec PyProof.Rows PySem.SeqAt
section
variable {X : Cx}
end
theorem cx_P {CX : CXT} {P : Program} {w : World} {K : PySem.W.Frag} {mg : Str -> Option Value} {base : Heap} {N : List Str} {qual : Str} {scope : Scope} {f : Addr} {cd : Value} {A : Around} {outer : List Env} {s : Shared} {H : Hp} {E : XK} : (uQ CX P w K mg base N qual scope f cd A outer s H E).prog = P := rfl
end L2
local macro_rules | `(tactic| simp! [$ts,*]) => `(tactic| simp only [L2.tSeq, L2.tFor_eq, L2.tLC_eq, L2.iRng1, L2.iRng2, L2.iList, L2.iTup, L2.iStr, L2.tIfS, L2.tRet, L2.tRetN, L2.tNext, L2.tAsg, L2.gName, L2.tVar, L2.tC, L2.tOp, L2.rI0, L2.rI, L2.tTest, L2.tB, L2.rEq, L2.rNe, L2.tCall, L2.tCons, L2.tNil, L2.tCB, L2.tLst, L2.tTup, L2.tAnd, L2.tOr, L2.tNot, L2.tAndV, L2.tOrV, L2.tNotV, L2.tIf, L2.tDrop, L2.tSl, L2.tPart, L2.tNoPart, L2.tChain, L2.tUn, L2.rU, L2.start, L2.cx_K, L2.bk_K, L2.cx_calm, L2.bk_calm, L2.lenV_str, and_assoc, Option.join, List.length_map, List.length_append, decide_eq_true_eq, Bool.false_eq_true, if_false, if_true, Bool.not_true, Bool.not_false, Bool.not_eq_true', decide_eq_false_iff_not, Bool.true_eq_false, List.length_cons, List.length_nil, List.map_cons, List.map_nil, List.replicate, List.cons_append, List.nil_append, List.append_nil, List.getElem?_cons_zero, List.getElem?_cons_succ, List.set_cons_zero, List.set_cons_succ, Nat.reduceSub, Nat.reduceAdd, Option.some.injEq, L2.V.int.injEq, L2.V.str.injEq, L2.V.bl.injEq, L2.V.ref.injEq, List.cons.injEq, and_true, true_and, exists_eq_left', exists_eq_left, exists_and_left, exists_eq_right, exists_const, L2.tBM, L2.tBM0, L2.rAppend, L2.rPop, L2.rIxL, L2.rIxT, L2.rIxS, L2.rSlL, L2.rSlT, L2.rSlS, L2.rCat, L2.rCatT, L2.tKGet, L2.cx_w, L2.bk_w, L2.tDGet, L2.tDisp, L2.tPairs, L2.tDNewK, L2.cx_P, $ts,*])
namespace L2
open PySem PySem.Spec PyProof.Rows PySem.SeqAt
section
variable {P : Program} {w : World} {H : Hp} {s : Shared}
theorem rc_tups (ok : HOk P w H s.heap) {n : Nat} {A : Around} (ih : ∀ {A : Around} {d d' : Dt} {v v' : V} {u u' : Value}, DAt H d v -> DAt H d' v' -> RelV v u -> RelV v' u' -> DFit n d -> A.units + n < cLine -> EqAt A s u u' (deq d d'))
   {l l' : Addr} {ds ds' : List Dt} {vs vs' : List V} {its its' : List Value} (hs : DAts H ds vs) (hs' : DAts H ds' vs') (rv : Vals vs its) (rv' : Vals vs' its') (hl : s.heap.IsTuple l its.toArray) (hl' : s.heap.IsTuple l' its'.toArray)
   (f : ∀ d ∈ ds, DFit n d) (hu : A.units + (n + 1) < cLine) : RcAt A s (.ref l) (.ref l') (deqs ds ds') := by
 have k1 := hs.length
 have k2 := hs'.length
 have k3 := rv.length
 have k4 := rv'.length
 have at_ : ∀ j (h1 : j < its.toArray.size) (h2 : j < its'.toArray.size), EqAt A.in1 s its.toArray[j] its'.toArray[j] (eat ds ds' j) := fun j h1 h2 => by
   rw [List.size_toArray] at h1 h2
   have hj : j < ds.length := by omega
   have hj' : j < ds'.length := by omega
   obtain ⟨x, x1, x2⟩ := hs.get (List.getElem?_eq_getElem hj)
   obtain ⟨y, y1, y2⟩ := hs'.get (List.getElem?_eq_getElem hj')
   have e1 : eat ds ds' j = deq ds[j] ds'[j] := by unfold eat; rw [List.getElem?_eq_getElem hj, List.getElem?_eq_getElem hj']
   rw [e1]
   refine ih x2 y2 ?_ ?_ (f _ (List.getElem_mem hj)) (by show A.units + 1 + n < cLine; omega)
   · exact vals_at rv x1 (by rw [List.getElem_toArray]; exact List.getElem?_eq_getElem h1)
   · exact vals_at rv' y1 (by rw [List.getElem_toArray]; exact List.getElem?_eq_getElem h2)
 have key := RcAt.tuples (A := A) (e := eat ds ds') hl hl' (by omega) at_
 rw [List.size_toArray, List.size_toArray] at key
 rw [← deqs_all, ← k1, ← k2, k3, k4]
 exact key
theorem rn_tups (ok : HOk P w H s.heap) {n : Nat} {A : Around} (ih : ∀ {A : Around} {d d' : Dt} {v v' : V} {u u' : Value}, DAt H d v -> DAt H d' v' -> RelV v u -> RelV v' u' -> DFit n d -> A.units + n < cLine -> EqAt A s u u' (deq d d'))
   {l l' : Addr} {ds ds' : List Dt} {vs vs' : List V} {its its' : List Value} (hs : DAts H ds vs) (hs' : DAts H ds' vs') (rv : Vals vs its) (rv' : Vals vs' its') (hl : s.heap.IsTuple l its.toArray) (hl' : s.heap.IsTuple l' its'.toArray)
   (f : ∀ d ∈ ds, DFit n d) (hu : A.units + (n + 1) < cLine) : RcNeAt A s (.ref l) (.ref l') (!deqs ds ds') := by
 have k1 := hs.length
 have k2 := hs'.length
 have k3 := rv.length
 have k4 := rv'.length
 have at_ : ∀ j (h1 : j < its.toArray.size) (h2 : j < its'.toArray.size), EqAt A.in1 s its.toArray[j] its'.toArray[j] (eat ds ds' j) := fun j h1 h2 => by
   rw [List.size_toArray] at h1 h2
   have hj : j < ds.length := by omega
   have hj' : j < ds'.length := by omega
   obtain ⟨x, x1, x2⟩ := hs.get (List.getElem?_eq_getElem hj)
   obtain ⟨y, y1, y2⟩ := hs'.get (List.getElem?_eq_getElem hj')
   have e1 : eat ds ds' j = deq ds[j] ds'[j] := by unfold eat; rw [List.getElem?_eq_getElem hj, List.getElem?_eq_getElem hj']
   rw [e1]
   refine ih x2 y2 ?_ ?_ (f _ (List.getElem_mem hj)) (by show A.units + 1 + n < cLine; omega)
   · exact vals_at rv x1 (by rw [List.getElem_toArray]; exact List.getElem?_eq_getElem h1)
   · exact vals_at rv' y1 (by rw [List.getElem_toArray]; exact List.getElem?_eq_getElem h2)
 have key := RcNeAt.tuples (A := A) (e := eat ds ds') hl hl' (by omega) at_
 rw [List.size_toArray, List.size_toArray] at key
 rw [← deqs_all, ← k1, ← k2, k3, k4]
 exact key
theorem rn_lists (ok : HOk P w H s.heap) {n : Nat} {A : Around} (ih : ∀ {A : Around} {d d' : Dt} {v v' : V} {u u' : Value}, DAt H d v -> DAt H d' v' -> RelV v u -> RelV v' u' -> DFit n d -> A.units + n < cLine -> EqAt A s u u' (deq d d'))
   {l l' : Addr} {ds ds' : List Dt} {vs vs' : List V} {its its' : List Value} (hs : DAts H ds vs) (hs' : DAts H ds' vs') (rv : Vals vs its) (rv' : Vals vs' its') (hl : s.heap.IsList l its.toArray) (hl' : s.heap.IsList l' its'.toArray)
   (f : ∀ d ∈ ds, DFit n d) (hu : A.units + (n + 1) < cLine) : RcNeAt A s (.ref l) (.ref l') (!deqs ds ds') := by
 have k1 := hs.length
 have k2 := hs'.length
 have k3 := rv.length
 have k4 := rv'.length
 have at_ : ∀ j (h1 : j < its.toArray.size) (h2 : j < its'.toArray.size), EqAt A.in1 s its.toArray[j] its'.toArray[j] (eat ds ds' j) := fun j h1 h2 => by
   rw [List.size_toArray] at h1 h2
   have hj : j < ds.length := by omega
   have hj' : j < ds'.length := by omega
   obtain ⟨x, x1, x2⟩ := hs.get (List.getElem?_eq_getElem hj)
   obtain ⟨y, y1, y2⟩ := hs'.get (List.getElem?_eq_getElem hj')
   have e1 : eat ds ds' j = deq ds[j] ds'[j] := by unfold eat; rw [List.getElem?_eq_getElem hj, List.getElem?_eq_getElem hj']
   rw [e1]
   refine ih x2 y2 ?_ ?_ (f _ (List.getElem_mem hj)) (by show A.units + 1 + n < cLine; omega)
   · exact vals_at rv x1 (by rw [List.getElem_toArray]; exact List.getElem?_eq_getElem h1)
   · exact vals_at rv' y1 (by rw [List.getElem_toArray]; exact List.getElem?_eq_getElem h2)
 by_cases hz : ds.length = ds'.length
 · have key := RcNeAt.lists (A := A) (e := eat ds ds') hl hl' (by rw [List.size_toArray, List.size_toArray]; omega) (by omega) at_
   rw [← deqs_all, hz, Nat.min_self, beq_self_eq_true, Bool.and_true]
   rw [List.size_toArray] at key
   rw [show ds'.length = its.length by omega]
   exact key
 · have hf : deqs ds ds' = false := by rw [← deqs_all, show (ds.length == ds'.length) = false by simpa using hz, Bool.and_false]
   rw [hf]
   exact RcNeAt.lists_lengths hl hl' (by rw [List.size_toArray, List.size_toArray]; simp; omega) (by omega)
theorem rc_at (ok : HOk P w H s.heap) {n : Nat} {A : Around} {d d' : Dt} {v v' : V} {u u' : Value} (h : DAt H d v) (h' : DAt H d' v') (r : RelV v u) (r' : RelV v' u') (f : DFit (n + 1) d) (hu : A.units + (n + 1) < cLine) : RcAt A s u u' (deq d d') := by
 have hu0 : A.units < cLine := by omega
 cases d with
 | non =>
   have h : v = .non := h
   subst h
   cases r
   cases d' with
   | non =>
     have h' : v' = .non := h'
     subst h'
     cases r'
     simp only [deq, Bool.not_false, Bool.not_true]
     exact RcAt.none_none
   | bl b =>
     have h' : v' = .bl b := h'
     subst h'
     cases r'
     simp only [deq, Bool.not_false, Bool.not_true]
     exact RcAt.none_bool _
   | int b =>
     have h' : v' = .int b := h'
     subst h'
     obtain ⟨t', rfl⟩ := r'
     simp only [deq, Bool.not_false, Bool.not_true]
     exact RcAt.none_int _ _
   | str b =>
     have h' : v' = .str b := h'
     subst h'
     obtain ⟨t', rfl⟩ := r'
     simp only [deq, Bool.not_false, Bool.not_true]
     exact RcAt.none_str _ _
   | tup ds' =>
     obtain ⟨l', vs', rfl, e', hs'⟩ := h'
     cases r'
     obtain ⟨its', rv', hl'⟩ := DAts.tup_of ok e'
     simp only [deq, Bool.not_false, Bool.not_true]
     exact RcAt.none_tuple hl' hu0
   | lst ds' =>
     obtain ⟨l', vs', rfl, e', hs'⟩ := h'
     cases r'
     obtain ⟨its', rv', hl'⟩ := DAts.lst_of ok e'
     simp only [deq, Bool.not_false, Bool.not_true]
     exact RcAt.none_list hl' hu0
 | bl a =>
   have h : v = .bl a := h
   subst h
   cases r
   cases d' with
   | non =>
     have h' : v' = .non := h'
     subst h'
     cases r'
     simp only [deq, Bool.not_false, Bool.not_true]
     exact RcAt.bool_none _
   | bl b =>
     have h' : v' = .bl b := h'
     subst h'
     cases r'
     simp only [deq, Bool.not_false, Bool.not_true]
     exact RcAt.bool_bool _ _
   | int b =>
     have h' : v' = .int b := h'
     subst h'
     obtain ⟨t', rfl⟩ := r'
     simp only [deq, Bool.not_false, Bool.not_true]
     exact RcAt.bool_int _ _ _
   | str b =>
     have h' : v' = .str b := h'
     subst h'
     obtain ⟨t', rfl⟩ := r'
     simp only [deq, Bool.not_false, Bool.not_true]
     exact RcAt.bool_str _ _ _
   | tup ds' =>
     obtain ⟨l', vs', rfl, e', hs'⟩ := h'
     cases r'
     obtain ⟨its', rv', hl'⟩ := DAts.tup_of ok e'
     simp only [deq, Bool.not_false, Bool.not_true]
     exact RcAt.bool_tuple _ hl' hu0
   | lst ds' =>
     obtain ⟨l', vs', rfl, e', hs'⟩ := h'
     cases r'
     obtain ⟨its', rv', hl'⟩ := DAts.lst_of ok e'
     simp only [deq, Bool.not_false, Bool.not_true]
     exact RcAt.bool_list _ hl' hu0
 | int a =>
   have h : v = .int a := h
   subst h
   obtain ⟨t, rfl⟩ := r
   cases d' with
   | non =>
     have h' : v' = .non := h'
     subst h'
     cases r'
     simp only [deq, Bool.not_false, Bool.not_true]
     exact RcAt.int_none _ _
   | bl b =>
     have h' : v' = .bl b := h'
     subst h'
     cases r'
     simp only [deq, Bool.not_false, Bool.not_true]
     exact RcAt.int_bool _ _ _
   | int b =>
     have h' : v' = .int b := h'
     subst h'
     obtain ⟨t', rfl⟩ := r'
     simp only [deq, Bool.not_false, Bool.not_true]
     exact RcAt.int_int _ _ _ _
   | str b =>
     have h' : v' = .str b := h'
     subst h'
     obtain ⟨t', rfl⟩ := r'
     simp only [deq, Bool.not_false, Bool.not_true]
     exact RcAt.int_str _ _ _ _
   | tup ds' =>
     obtain ⟨l', vs', rfl, e', hs'⟩ := h'
     cases r'
     obtain ⟨its', rv', hl'⟩ := DAts.tup_of ok e'
     simp only [deq, Bool.not_false, Bool.not_true]
     exact RcAt.int_tuple _ _ hl' hu0
   | lst ds' =>
     obtain ⟨l', vs', rfl, e', hs'⟩ := h'
     cases r'
     obtain ⟨its', rv', hl'⟩ := DAts.lst_of ok e'
     simp only [deq, Bool.not_false, Bool.not_true]
     exact RcAt.int_list _ _ hl' hu0
 | str a =>
   have h : v = .str a := h
   subst h
   obtain ⟨t, rfl⟩ := r
   cases d' with
   | non =>
     have h' : v' = .non := h'
     subst h'
     cases r'
     simp only [deq, Bool.not_false, Bool.not_true]
     exact RcAt.str_none _ _
   | bl b =>
     have h' : v' = .bl b := h'
     subst h'
     cases r'
     simp only [deq, Bool.not_false, Bool.not_true]
     exact RcAt.str_bool _ _ _
   | int b =>
     have h' : v' = .int b := h'
     subst h'
     obtain ⟨t', rfl⟩ := r'
     simp only [deq, Bool.not_false, Bool.not_true]
     exact RcAt.str_int _ _ _ _
   | str b =>
     have h' : v' = .str b := h'
     subst h'
     obtain ⟨t', rfl⟩ := r'
     simp only [deq, Bool.not_false, Bool.not_true]
     exact RcAt.str_str _ _ _ _
   | tup ds' =>
     obtain ⟨l', vs', rfl, e', hs'⟩ := h'
     cases r'
     obtain ⟨its', rv', hl'⟩ := DAts.tup_of ok e'
     simp only [deq, Bool.not_false, Bool.not_true]
     exact RcAt.str_tuple _ _ hl' hu0
   | lst ds' =>
     obtain ⟨l', vs', rfl, e', hs'⟩ := h'
     cases r'
     obtain ⟨its', rv', hl'⟩ := DAts.lst_of ok e'
     simp only [deq, Bool.not_false, Bool.not_true]
     exact RcAt.str_list _ _ hl' hu0
 | tup ds =>
   obtain ⟨l, vs, rfl, e, hs⟩ := h
   cases r
   obtain ⟨its, rv, hl⟩ := DAts.tup_of ok e
   cases d' with
   | non =>
     have h' : v' = .non := h'
     subst h'
     cases r'
     simp only [deq, Bool.not_false, Bool.not_true]
     exact RcAt.tuple_none hl hu0
   | bl b =>
     have h' : v' = .bl b := h'
     subst h'
     cases r'
     simp only [deq, Bool.not_false, Bool.not_true]
     exact RcAt.tuple_bool _ hl hu0
   | int b =>
     have h' : v' = .int b := h'
     subst h'
     obtain ⟨t', rfl⟩ := r'
     simp only [deq, Bool.not_false, Bool.not_true]
     exact RcAt.tuple_int _ _ hl hu0
   | str b =>
     have h' : v' = .str b := h'
     subst h'
     obtain ⟨t', rfl⟩ := r'
     simp only [deq, Bool.not_false, Bool.not_true]
     exact RcAt.tuple_str _ _ hl hu0
   | tup ds' =>
     obtain ⟨l', vs', rfl, e', hs'⟩ := h'
     cases r'
     obtain ⟨its', rv', hl'⟩ := DAts.tup_of ok e'
     simp only [deq, Bool.not_false, Bool.not_true]
     exact rc_tups ok (uJ ok n) hs hs' rv rv' hl hl' f.2 hu
   | lst ds' =>
     obtain ⟨l', vs', rfl, e', hs'⟩ := h'
     cases r'
     obtain ⟨its', rv', hl'⟩ := DAts.lst_of ok e'
     simp only [deq, Bool.not_false, Bool.not_true]
     exact RcAt.tuple_list hl hl' hu0
 | lst ds =>
   obtain ⟨l, vs, rfl, e, hs⟩ := h
   cases r
   obtain ⟨its, rv, hl⟩ := DAts.lst_of ok e
   cases d' with
   | non =>
     have h' : v' = .non := h'
     subst h'
     cases r'
     simp only [deq, Bool.not_false, Bool.not_true]
     exact RcAt.list_none hl hu0
   | bl b =>
     have h' : v' = .bl b := h'
     subst h'
     cases r'
     simp only [deq, Bool.not_false, Bool.not_true]
     exact RcAt.list_bool _ hl hu0
   | int b =>
     have h' : v' = .int b := h'
     subst h'
     obtain ⟨t', rfl⟩ := r'
     simp only [deq, Bool.not_false, Bool.not_true]
     exact RcAt.list_int _ _ hl hu0
   | str b =>
     have h' : v' = .str b := h'
     subst h'
     obtain ⟨t', rfl⟩ := r'
     simp only [deq, Bool.not_false, Bool.not_true]
     exact RcAt.list_str _ _ hl hu0
   | tup ds' =>
     obtain ⟨l', vs', rfl, e', hs'⟩ := h'
     cases r'
     obtain ⟨its', rv', hl'⟩ := DAts.tup_of ok e'
     simp only [deq, Bool.not_false, Bool.not_true]
     exact RcAt.list_tuple hl hl' hu0
   | lst ds' =>
     obtain ⟨l', vs', rfl, e', hs'⟩ := h'
     cases r'
     obtain ⟨its', rv', hl'⟩ := DAts.lst_of ok e'
     simp only [deq, Bool.not_false, Bool.not_true]
     exact rc_lists ok (uJ ok n) hs hs' rv rv' hl hl' f.2 hu
theorem rn_at (ok : HOk P w H s.heap) {n : Nat} {A : Around} {d d' : Dt} {v v' : V} {u u' : Value} (h : DAt H d v) (h' : DAt H d' v') (r : RelV v u) (r' : RelV v' u') (f : DFit (n + 1) d) (hu : A.units + (n + 1) < cLine) : RcNeAt A s u u' (!deq d d') := by
 have hu0 : A.units < cLine := by omega
 cases d with
 | non =>
   have h : v = .non := h
   subst h
   cases r
   cases d' with
   | non =>
     have h' : v' = .non := h'
     subst h'
     cases r'
     simp only [deq, Bool.not_false, Bool.not_true]
     exact RcNeAt.none_none
   | bl b =>
     have h' : v' = .bl b := h'
     subst h'
     cases r'
     simp only [deq, Bool.not_false, Bool.not_true]
     exact RcNeAt.none_bool _
   | int b =>
     have h' : v' = .int b := h'
     subst h'
     obtain ⟨t', rfl⟩ := r'
     simp only [deq, Bool.not_false, Bool.not_true]
     exact RcNeAt.none_int _ _
   | str b =>
     have h' : v' = .str b := h'
     subst h'
     obtain ⟨t', rfl⟩ := r'
     simp only [deq, Bool.not_false, Bool.not_true]
     exact RcNeAt.none_str _ _
   | tup ds' =>
     obtain ⟨l', vs', rfl, e', hs'⟩ := h'
     cases r'
     obtain ⟨its', rv', hl'⟩ := DAts.tup_of ok e'
     simp only [deq, Bool.not_false, Bool.not_true]
     exact RcNeAt.none_tuple hl' hu0
   | lst ds' =>
     obtain ⟨l', vs', rfl, e', hs'⟩ := h'
     cases r'
     obtain ⟨its', rv', hl'⟩ := DAts.lst_of ok e'
     simp only [deq, Bool.not_false, Bool.not_true]
     exact RcNeAt.none_list hl' hu0
 | bl a =>
   have h : v = .bl a := h
   subst h
   cases r
   cases d' with
   | non =>
     have h' : v' = .non := h'
     subst h'
     cases r'
     simp only [deq, Bool.not_false, Bool.not_true]
     exact RcNeAt.bool_none _
   | bl b =>
     have h' : v' = .bl b := h'
     subst h'
     cases r'
     simp only [deq, Bool.not_false, Bool.not_true]
     exact RcNeAt.bool_bool _ _
   | int b =>
     have h' : v' = .int b := h'
     subst h'
     obtain ⟨t', rfl⟩ := r'
     simp only [deq, Bool.not_false, Bool.not_true]
     exact RcNeAt.bool_int _ _ _
   | str b =>
     have h' : v' = .str b := h'
     subst h'
     obtain ⟨t', rfl⟩ := r'
     simp only [deq, Bool.not_false, Bool.not_true]
     exact RcNeAt.bool_str _ _ _
   | tup ds' =>
     obtain ⟨l', vs', rfl, e', hs'⟩ := h'
     cases r'
     obtain ⟨its', rv', hl'⟩ := DAts.tup_of ok e'
     simp only [deq, Bool.not_false, Bool.not_true]
     exact RcNeAt.bool_tuple _ hl' hu0
   | lst ds' =>
     obtain ⟨l', vs', rfl, e', hs'⟩ := h'
     cases r'
     obtain ⟨its', rv', hl'⟩ := DAts.lst_of ok e'
     simp only [deq, Bool.not_false, Bool.not_true]
     exact RcNeAt.bool_list _ hl' hu0
 | int a =>
   have h : v = .int a := h
   subst h
   obtain ⟨t, rfl⟩ := r
   cases d' with
   | non =>
     have h' : v' = .non := h'
     subst h'
     cases r'
     simp only [deq, Bool.not_false, Bool.not_true]
     exact RcNeAt.int_none _ _
   | bl b =>
     have h' : v' = .bl b := h'
     subst h'
     cases r'
     simp only [deq, Bool.not_false, Bool.not_true]
     exact RcNeAt.int_bool _ _ _
   | int b =>
     have h' : v' = .int b := h'
     subst h'
     obtain ⟨t', rfl⟩ := r'
     simp only [deq, Bool.not_false, Bool.not_true]
     exact RcNeAt.int_int _ _ _ _
   | str b =>
     have h' : v' = .str b := h'
     subst h'
     obtain ⟨t', rfl⟩ := r'
     simp only [deq, Bool.not_false, Bool.not_true]
     exact RcNeAt.int_str _ _ _ _
   | tup ds' =>
     obtain ⟨l', vs', rfl, e', hs'⟩ := h'
     cases r'
     obtain ⟨its', rv', hl'⟩ := DAts.tup_of ok e'
     simp only [deq, Bool.not_false, Bool.not_true]
     exact RcNeAt.int_tuple _ _ hl' hu0
   | lst ds' =>
     obtain ⟨l', vs', rfl, e', hs'⟩ := h'
     cases r'
     obtain ⟨its', rv', hl'⟩ := DAts.lst_of ok e'
     simp only [deq, Bool.not_false, Bool.not_true]
     exact RcNeAt.int_list _ _ hl' hu0
 | str a =>
   have h : v = .str a := h
   subst h
   obtain ⟨t, rfl⟩ := r
   cases d' with
   | non =>
     have h' : v' = .non := h'
     subst h'
     cases r'
     simp only [deq, Bool.not_false, Bool.not_true]
     exact RcNeAt.str_none _ _
   | bl b =>
     have h' : v' = .bl b := h'
     subst h'
     cases r'
     simp only [deq, Bool.not_false, Bool.not_true]
     exact RcNeAt.str_bool _ _ _
   | int b =>
     have h' : v' = .int b := h'
     subst h'
     obtain ⟨t', rfl⟩ := r'
     simp only [deq, Bool.not_false, Bool.not_true]
     exact RcNeAt.str_int _ _ _ _
   | str b =>
     have h' : v' = .str b := h'
     subst h'
     obtain ⟨t', rfl⟩ := r'
     simp only [deq, Bool.not_false, Bool.not_true]
     exact RcNeAt.str_str _ _ _ _
   | tup ds' =>
     obtain ⟨l', vs', rfl, e', hs'⟩ := h'
     cases r'
     obtain ⟨its', rv', hl'⟩ := DAts.tup_of ok e'
     simp only [deq, Bool.not_false, Bool.not_true]
     exact RcNeAt.str_tuple _ _ hl' hu0
   | lst ds' =>
     obtain ⟨l', vs', rfl, e', hs'⟩ := h'
     cases r'
     obtain ⟨its', rv', hl'⟩ := DAts.lst_of ok e'
     simp only [deq, Bool.not_false, Bool.not_true]
     exact RcNeAt.str_list _ _ hl' hu0
 | tup ds =>
   obtain ⟨l, vs, rfl, e, hs⟩ := h
   cases r
   obtain ⟨its, rv, hl⟩ := DAts.tup_of ok e
   cases d' with
   | non =>
     have h' : v' = .non := h'
     subst h'
     cases r'
     simp only [deq, Bool.not_false, Bool.not_true]
     exact RcNeAt.tuple_none hl hu0
   | bl b =>
     have h' : v' = .bl b := h'
     subst h'
     cases r'
     simp only [deq, Bool.not_false, Bool.not_true]
     exact RcNeAt.tuple_bool _ hl hu0
   | int b =>
     have h' : v' = .int b := h'
     subst h'
     obtain ⟨t', rfl⟩ := r'
     simp only [deq, Bool.not_false, Bool.not_true]
     exact RcNeAt.tuple_int _ _ hl hu0
   | str b =>
     have h' : v' = .str b := h'
     subst h'
     obtain ⟨t', rfl⟩ := r'
     simp only [deq, Bool.not_false, Bool.not_true]
     exact RcNeAt.tuple_str _ _ hl hu0
   | tup ds' =>
     obtain ⟨l', vs', rfl, e', hs'⟩ := h'
     cases r'
     obtain ⟨its', rv', hl'⟩ := DAts.tup_of ok e'
     simp only [deq, Bool.not_false, Bool.not_true]
     exact rn_tups ok (uJ ok n) hs hs' rv rv' hl hl' f.2 hu
   | lst ds' =>
     obtain ⟨l', vs', rfl, e', hs'⟩ := h'
     cases r'
     obtain ⟨its', rv', hl'⟩ := DAts.lst_of ok e'
     simp only [deq, Bool.not_false, Bool.not_true]
     exact RcNeAt.tuple_list hl hl' hu0
 | lst ds =>
   obtain ⟨l, vs, rfl, e, hs⟩ := h
   cases r
   obtain ⟨its, rv, hl⟩ := DAts.lst_of ok e
   cases d' with
   | non =>
     have h' : v' = .non := h'
     subst h'
     cases r'
     simp only [deq, Bool.not_false, Bool.not_true]
     exact RcNeAt.list_none hl hu0
   | bl b =>
     have h' : v' = .bl b := h'
     subst h'
     cases r'
     simp only [deq, Bool.not_false, Bool.not_true]
     exact RcNeAt.list_bool _ hl hu0
   | int b =>
     have h' : v' = .int b := h'
     subst h'
     obtain ⟨t', rfl⟩ := r'
     simp only [deq, Bool.not_false, Bool.not_true]
     exact RcNeAt.list_int _ _ hl hu0
   | str b =>
     have h' : v' = .str b := h'
     subst h'
     obtain ⟨t', rfl⟩ := r'
     simp only [deq, Bool.not_false, Bool.not_true]
     exact RcNeAt.list_str _ _ hl hu0
   | tup ds' =>
     obtain ⟨l', vs', rfl, e', hs'⟩ := h'
     cases r'
     obtain ⟨its', rv', hl'⟩ := DAts.tup_of ok e'
     simp only [deq, Bool.not_false, Bool.not_true]
     exact RcNeAt.list_tuple hl hl' hu0
   | lst ds' =>
     obtain ⟨l', vs', rfl, e', hs'⟩ := h'
     cases r'
     obtain ⟨its', rv', hl'⟩ := DAts.lst_of ok e'
     simp only [deq, Bool.not_false, Bool.not_true]
     exact rn_lists ok (uJ ok n) hs hs' rv rv' hl hl' f.2 hu
end
section
variable {X : Cx}
def rEqG : R2 := fun x y H Q => ∃ n d d', DAt H d x /\ DAt H d' y /\ DFit (n + 1) d /\ n <= 60 /\ Q (.bl (deq d d')) H
def rNeG : R2 := fun x y H Q => ∃ n d d', DAt H d x /\ DAt H d' y /\ DFit (n + 1) d /\ n <= 60 /\ Q (.bl (!deq d d')) H
theorem op_eqG (hu : X.A.units + 64 < cLine) : OpR X (compareOp .Eq) rEqG := by
 intro pins s σ H x y v u Q I rx ry h
 obtain ⟨n, d, d', h1, h2, f, hn, q⟩ := h
 exact rc_at I.hok h1 h2 rx ry f (by omega) X.prog X.w _ _ (yK I q rfl)
theorem op_neG (hu : X.A.units + 64 < cLine) : OpR X (compareOp .NotEq) rNeG := by
 intro pins s σ H x y v u Q I rx ry h
 obtain ⟨n, d, d', h1, h2, f, hn, q⟩ := h
 exact rn_at I.hok h1 h2 rx ry f (by omega) X.prog X.w _ _ (yK I q rfl)
def rInG (neg : Bool) : R2 := fun x y H Q => ∃ n d ds, DAt H d x /\ (DAt H (.lst ds) y \/ DAt H (.tup ds) y) /\ (∀ e ∈ ds, DFit n e) /\ n <= 60 /\ Q (.bl (neg ^^ ds.any fun e => deq e d)) H
open Classical in
theorem in_any {H : Hp} {its : List Value} {vs : List V} {ds : List Dt} {d : Dt} (hs : DAts H ds vs) (rv : Vals vs its) (e : Value -> Bool) (he : ∀ y, e y = decide (∃ d' v', DAt H d' v' /\ RelV v' y /\ deq d' d = true)) : its.toArray.any e = ds.any fun e => deq e d := by
 rw [List.any_toArray]
 induction ds generalizing vs its with
 | nil =>
   have hs : vs = [] := hs
   subst hs
   cases rv
   rfl
 | cons d0 ds ih =>
   obtain ⟨v, r, rfl, e1, e2⟩ := hs
   cases rv with
   | cons rr rt =>
     rename_i u us
     rw [List.any_cons, List.any_cons, ih e2 rt, he]
     congr 1
     rw [Bool.eq_iff_iff, decide_eq_true_eq]
     constructor
     · rintro ⟨d', v', q1, q2, q3⟩
       have := RelV.inj q2 rr
       subst this
       rw [DAt.one_of e1 q1]
       exact q3
     · intro q
       exact ⟨d0, v, e1, rr, q⟩
open Classical in
theorem in_eq {P : Program} {w : World} {H : Hp} {s : Shared} {A : Around} (ok : HOk P w H s.heap) {its : List Value} {vs : List V} {ds : List Dt} {d : Dt} {x : V} {u : Value} {n : Nat} (hs : DAts H ds vs) (rv : Vals vs its) (hx : DAt H d x) (ru : RelV x u) (f : ∀ e ∈ ds, DFit n e) (hu : A.units + (n + 1) < cLine)
   (y : Value) (hy : y ∈ its.toArray) : EqAt A.in1 s y u (decide (∃ d' v', DAt H d' v' /\ RelV v' y /\ deq d' d = true)) := by
 obtain ⟨j, hj, e⟩ := List.getElem_of_mem (show y ∈ its by simpa using hy)
 have k1 := hs.length
 have k2 := rv.length
 have hjd : j < ds.length := by omega
 obtain ⟨v, v1, v2⟩ := hs.get (List.getElem?_eq_getElem hjd)
 have rr : RelV v y := vals_at rv v1 (by rw [List.getElem?_eq_getElem hj, e])
 have : decide (∃ d' v', DAt H d' v' /\ RelV v' y /\ deq d' d = true) = deq ds[j] d := by
   rw [Bool.eq_iff_iff, decide_eq_true_eq]
   constructor
   · rintro ⟨d', v', q1, q2, q3⟩
     have := RelV.inj q2 rr
     subst this
     rw [DAt.one_of v2 q1]
     exact q3
   · intro q
     exact ⟨_, v, v2, rr, q⟩
 rw [this]
 exact uJ ok n v2 hx rr ru (f _ (List.getElem_mem hjd)) (by show A.units + 1 + n < cLine; omega)
theorem qH (hu : X.A.units + 64 < cLine) : OpR X (compareOp .NotIn) (rInG true) := by
 intro pins s σ H x y v u Q I rx ry h
 obtain ⟨n, d, ds, hx, hy, f, hn, q⟩ := h
 rw [Bool.true_xor] at q
 rcases hy with ⟨l, vs, rfl, e, hs⟩ | ⟨l, vs, rfl, e, hs⟩
 · cases ry
   obtain ⟨its, rv, hl⟩ := DAts.lst_of I.hok e
   refine notIn_listAt _ hl (in_eq I.hok hs rv hx rx f (by omega)) (yK I q ?_)
   rw [in_any hs rv _ fun _ => rfl]
 · cases ry
   obtain ⟨its, rv, hl⟩ := DAts.tup_of I.hok e
   refine notIn_tupleAt _ hl (in_eq I.hok hs rv hx rx f (by omega)) (yK I q ?_)
   rw [in_any hs rv _ fun _ => rfl]
end
end L2
namespace L2
open PySem PySem.Spec PyProof.Rows PySem.SeqAt
section
variable {prog : Program} {w : World} {A : Around} {E : Value -> Shared -> Prop} {s : Shared}
structure Apt (z TI TO i1 i2 l1 l2 : Addr) : Prop where
 nd : [z, TI, TO, i1, i2].Nodup
 a1 : l1 ≠ z /\ l1 ≠ TO /\ l1 ≠ i1 /\ l1 ≠ i2
 a2 : l2 ≠ z /\ l2 ≠ TO /\ l2 ≠ i1 /\ l2 ≠ i2
end
section
variable {X : Cx} {pins : List (Addr × Obj)} {σ : St} {H : Hp} {s : Shared} {h' : Heap}
theorem Inv.turnedL {t' : Nat} {ch : List Addr} (I : Inv X pins σ H s) (k : ∀ b o, b ∉ ch -> s.heap.get? b = some o -> h'.get? b = some o) (hf : ∀ b ∈ ch, uM X pins H b) : Inv X pins σ H { s with heap := h', toks := t' } := by
 have nit : ∀ b u, H b = some u -> b ∉ ch := fun b u e z => by rw [(hf b z).1] at e; cases e
 have hL : X.env.locals ∉ ch := fun z => (hf _ z).2.1 rfl
 refine I.step (g' := s.gens) (d' := s.drawn) (ch := ch) (fun b hb => ?_) (fun b o _ _ hc e _ => k b o hc e) (fun b o _ _ hc e _ => ⟨o.slots, k b o hc e⟩) (fun _ _ _ _ n => n) (fun b o hc e => ⟨o, k b o hc e⟩) (fun _ _ e => e) (fun _ _ _ e => e) (fun b ps e => ⟨#[], by rw [e]; simp⟩) (fun m hm => ?_) (fun b u e => ?_) I.bare
 · obtain ⟨f0, f1, f2, f3, f4, f5⟩ := hf b hb
   exact ⟨f3, f1, f4, f5⟩
 · obtain ⟨o, es, ep, ho, r⟩ := hm
   exact ⟨o, es, ep, k _ o hL ho, r⟩
 · refine (I.hok b u e).stay (fun c v hc q => k c v ?_ q) (fun _ q => q) fun _ _ q => q
   rcases hc with z | z
   · rw [z]; exact nit b u e
   · exact nit c _ z
theorem Inv.turnedN {t' : Nat} {ch : List Addr} {p : Addr} {o : HO} (I : Inv X pins σ H s) (k : ∀ b o, b ∉ ch -> s.heap.get? b = some o -> h'.get? b = some o) (hf : ∀ b ∈ ch, uM X pins H b) (hp : s.heap.objs.size <= p) (new : ObjOk X.prog X.w (upd H p o) h' p o) :
   Inv X pins σ (upd H p o) { s with heap := h', toks := t' } := by
 have nit : ∀ b u, H b = some u -> b ∉ ch := fun b u e z => by rw [(hf b z).1] at e; cases e
 have hL : X.env.locals ∉ ch := fun z => (hf _ z).2.1 rfl
 have hn := I.hok.fresh hp
 have nep : ∀ {b : Addr} {u : HO}, H b = some u -> b ≠ p := fun e z => by rw [z, hn] at e; cases e
 refine I.step (g' := s.gens) (d' := s.drawn) (ch := ch) (fun b hb => ?_) (fun b o _ _ hc e _ => k b o hc e) (fun b o _ _ hc e _ => ⟨o.slots, k b o hc e⟩) (fun b u _ e n => ?_) (fun b o hc e => ⟨o, k b o hc e⟩) (fun _ _ e => by rw [zF (nep e)]; exact e) (fun _ _ _ e => by rw [zF (nep e)]; exact e) (fun b ps e => ⟨#[], by rw [zF (nep e), e]; simp⟩) (fun m hm => ?_) (fun b u e => ?_) I.bare
 · obtain ⟨f0, f1, f2, f3, f4, f5⟩ := hf b hb
   exact ⟨f3, f1, f4, f5⟩
 · rw [zF (Nat.ne_of_lt (Nat.lt_of_lt_of_le (Heap.lt_size e) hp))]
   exact n
 · obtain ⟨o, es, ep, ho, r⟩ := hm
   exact ⟨o, es, ep, k _ o hL ho, r⟩
 · by_cases hb : b = p
   · subst hb
     rw [zB] at e
     cases e
     exact new
   · rw [zF hb] at e
     refine (I.hok b u e).stay (fun c v hc q => k c v ?_ q) (fun c q => by rw [zF (nep q)]; exact q) fun c _ q => by rw [zF (nep q)]; exact q
     rcases hc with z | z
     · rw [z]; exact nit b u e
     · exact nit c _ z
end
section
variable {X : Cx}
end
end L2
namespace L2
open PySem PySem.Spec PyProof.Rows PySem.SeqAt
def entI (w : World) : List DictEntry -> List (Str × Int) -> Prop
 | [], r => r = []
 | e :: es, r => ∃ x y t u r', r = (x, y) :: r' /\ e.hash = hashStr w x /\ e.key = .str x t /\ e.val = .int y u /\ entI w es r'
theorem entI.all {w : World} {P : Program} : ∀ {es : List DictEntry} {r : List (Str × Int)}, entI w es r -> (∀ e ∈ es, ∃ k, (zZ P w).is k e.key = true /\ e.hash = (zZ P w).hash k) /\
   ∃ vs : List (Key × Value), KV (r.map fun p => ((.inr p.1 : Key), V.int p.2)) vs /\ Pairs (zZ P w) es vs /\ vs.map (·.1) = r.map fun p => (.inr p.1 : Key)
 | [], r, h => by
   have h : r = [] := h
   subst h
   exact ⟨fun e he => (nomatch he), [], .nil, .nil, rfl⟩
 | e :: es, r, h => by
   obtain ⟨x, y, t, u, r', rfl, h1, h2, h3, h4⟩ := h
   obtain ⟨g, vs, a, b, c⟩ := entI.all (P := P) h4
   refine ⟨fun e' he => ?_, (.inr x, .int y u) :: vs, .cons ⟨rfl, u, rfl⟩ a, .cons (by rw [h2]; exact xM P w x t) h3 b, ?_⟩
   · rcases List.mem_cons.mp he with rfl | he
     · exact ⟨.inr x, by rw [h2]; exact xM P w x t, h1⟩
     · exact g e' he
   · rw [List.map_cons, List.map_cons, c]
end L2
namespace L2
open PySem PySem.Spec PyProof.Rows PySem.SeqAt
inductive Rw where
 | no | nm (x : Str) | bo (i j : Int)
def dRw : Rw -> Dt
 | .no => .tup [.str "none"]
 | .nm x => .tup [.str "name", .str x]
 | .bo i j => .tup [.str "both", .int i, .int j]
abbrev Pr := Int × Int
def dPr (p : Pr) : Dt := .tup [.int p.1, .int p.2]
abbrev zN := List Pr × Pr
def dNR (r : zN) : Dt := .tup [.lst (r.1.map dPr), dPr r.2]
inductive Wt where
 | n (i : Int) | ps (l : List Int)
def dWt : Wt -> Dt
 | .n i => .int i
 | .ps l => .tup (l.map .int)
structure Ln where
 i : Int
 j : Int
 w : Str
 as : List Wt
def uP (w : Str) (as : List Wt) : Dt := .tup (.str w :: as.map dWt)
def dLn (l : Ln) : Dt := .tup [.int l.i, .int l.j, uP l.w l.as]
def uU (b : Int) : Wt -> Bool
 | .n i => decide (0 <= i) && decide (i < b)
 | .ps _ => false
def jB (rows : List Rw) (n : Int) : List Int := if n % 2 = 0 then (match rows[(n / 2).toNat]? with | some (.bo i j) => [i, j] | _ => []) else []
def yY (ls : List Ln) (k : Nat) : Wt -> Option Pr
 | .n i => if 0 <= i /\ i < k then (ls[i.toNat]?).map fun l => (l.i, l.j) else none
 | .ps _ => none
def tn1 (n : Int) : Int := n + 1 - 2 * (n % 2)
def named (w : Str) : Option Int :=
 if w = "same" then some 0 else if w = "edge" then some 0 else if w = "part" then some 0 else if w = "both" then some 2 else if w = "turn" then some 1 else if w = "chain" then some 2 else if w = "clash" then some 1 else none
def yE (rows : List Rw) (i j : Int) (w : Str) (sd : List Pr) : Bool :=
 if w = "same" then i == j
 else if w = "edge" then i == 0 || j == 1
 else if w = "part" then (jB rows i).any fun x => x == j
 else if w = "both" then (match jB rows j with | [a, b] => sd == [(i, a), (i, b)] | _ => false)
 else if w = "turn" then sd == [(tn1 j, tn1 i)]
 else if w = "chain" then (match sd with | [p, q] => p.1 == i && p.2 == q.1 && q.2 == j | _ => false)
 else sd == [(i, tn1 i)]
def xZ (rules : List zN) (ls : List Ln) (k : Nat) (l : Ln) : Bool :=
 match l.as with
 | [.n r, .ps ps] => if 0 <= r /\ r < rules.length then (match rules[r.toNat]? with | some q => (l.i, l.j) == q.2 && (ps.map fun p => yY ls k (.n p)) == q.1.map some | none => false) else false
 | _ => false
def yR (rows : List Rw) (rules : List zN) (ls : List Ln) (k : Nat) (l : Ln) : Bool :=
 if ¬ (0 <= l.i /\ l.i < 2 * rows.length) \/ ¬ (0 <= l.j /\ l.j < 2 * rows.length) then false
 else if l.w = "rule" then xZ rules ls k l
 else if named l.w = some (l.as.length : Int) /\ (l.as.all fun a => (yY ls k a).isSome) = true then yE rows l.i l.j l.w (l.as.filterMap (yY ls k))
 else false
theorem xor1 (n : Int) : Builtin.bitXor n 1 = tn1 n := by
 rw [bitXor_and]
 unfold tn1
 rw [bitAnd_m1]
end L2
namespace L2
open PySem PySem.Spec PyProof.Rows PySem.SeqAt
section
variable {prog : Program} {w : World} {A : Around} {E : Value -> Shared -> Prop} {s : Shared}
end
section
variable {X : Cx}
end
end L2
namespace L2
open PySem
end L2
namespace L2
open PySem PyProof.Rows
section
variable {prog : Program} {w : World} {A : Around} {E : Value -> Shared -> Prop} {s : Shared}
end
section
variable {prog : Program} {w : World} {A : Around} {R : Result -> Shared -> Prop} {I : Addr} {fp wr : List Addr} {G : Array GenState -> Array GenState -> Prop} {n : Nat} {P : Nat -> Value -> Prop} {St : Nat -> Shared -> Prop}
end
section
variable {prog : Program} {w : World} {A : Around} {E : Value -> Shared -> Prop} {s : Shared}
end
end L2
namespace L2
open PySem PySem.Spec PyProof.Rows PySem.SeqAt PySem.W
section
variable {prog : Program} {w : World} {A : Around} {E : Value -> Shared -> Prop} {s : Shared} {T : String} {r d : Addr} {n : Nat} {P : Nat -> Value -> Prop} {OK : Heap -> Prop}
end
section
variable {X : Cx}
end
end L2
namespace L2
open PySem PySem.Spec PyProof.Rows PySem.SeqAt
def Ite (a : Addr) : It :=
 ⟨fun i H => ∃ xs x, H a = some (.lst xs) /\ xs[i]? = some x,
  fun i H v H' => ∃ p x, v = .ref p /\ H p = none /\ H' = upd H p (.tup [.int i, x]) /\ ∀ xs, H a = some (.lst xs) -> xs[i]? = some x,
  fun i H => ∃ xs, H a = some (.lst xs) /\ xs.length <= i⟩
def Eat (e it l : Addr) (i : Nat) (h : Heap) : Prop := (∃ old, IsEnum h e it i old) /\ h.IsListIter it l i
theorem turn_enum {P : Program} {w : World} {K : PySem.W.Frag} {elts : List Expr} {cx : _} {tp : Pos} (e it l : Addr) (ne : e ≠ it) :
   Turn P w K (.Tuple elts cx tp) (Ite l) [e, it] e (Eat e it l) where
 mem := by simp
 obj := fun i h st b hb => by
   obtain ⟨⟨old, ge⟩, ⟨o2, r2, _, d2⟩⟩ := st
   simp only [List.mem_cons, List.not_mem_nil, or_false] at hb
   rcases hb with rfl | rfl
   · exact ⟨_, ge, fun v e => by cases e⟩
   · exact ⟨_, r2, fun v e => by rw [d2] at e; cases e⟩
 keep := fun i h h' st k => by
   obtain ⟨⟨old, ge⟩, ⟨o2, r2, q2⟩⟩ := st
   exact ⟨⟨old, k _ (by simp) _ ge⟩, ⟨o2, k _ (by simp) _ r2, q2⟩⟩
 item := by
   intro X hP hw hK hc i pins s σ H E I hf st hg
   subst hP hw hK
   obtain ⟨xs, x, ha, hx⟩ := hg
   obtain ⟨its, rv, t1⟩ := DAts.lst_of I.hok ha
   obtain ⟨u, hu, ru⟩ := rv.get hx
   obtain ⟨⟨old, ge⟩, r1⟩ := st
   refine wpAny_pyNext_enum_item ge r1 t1 (by simpa using hu) ne fun h1 b1 b2 b3 b4 b5 => ?_
   refine ⟨_, rfl, wpAny_letOwnedTupleGo_enum (s := { s with heap := h1, toks := s.toks + 1 }) b1 fun h2 g2 s2 => ?_⟩
   have be : e < s.heap.objs.size := Heap.lt_size ge
   have bi : it < s.heap.objs.size := by obtain ⟨_, z, _⟩ := r1; exact Heap.lt_size z
   have keep2 : ∀ b o, b ∉ [e, it] -> s.heap.get? b = some o -> h2.get? b = some o := fun b o hb q => by
     simp only [List.mem_cons, List.not_mem_nil, or_false, not_or] at hb
     exact s2.extBut b o hb.1 (b5 b o hb.1 hb.2 q)
   have hfr : H s.heap.objs.size = none := I.hok.fresh (Nat.le_refl _)
   have gT := s2.extBut _ _ (Nat.ne_of_gt be) b3
   refine ⟨.ref s.heap.objs.size, _, I.turnedN (t' := s.toks + 1) (p := s.heap.objs.size) (o := .tup [.int i, x]) keep2 hf (Nat.le_refl _) ⟨zM (by simp), [.int i s.toks, u], .cons ⟨_, rfl⟩ (.cons ru .nil), ⟨_, gT, rfl, _, rfl⟩⟩, rfl, ⟨_, x, rfl, hfr, rfl, fun xs' e1 => ?_⟩, ?_, fun b hb => ?_⟩
   · rw [ha] at e1
     cases e1
     exact hx
   · obtain ⟨o2, b21, b22⟩ := b2
     exact ⟨⟨_, g2⟩, ⟨o2, s2.extBut _ _ (Ne.symm ne) b21, b22⟩⟩
   · have hb2 : b < s.heap.objs.size := by
       simp only [List.mem_cons, List.not_mem_nil, or_false] at hb
       rcases hb with rfl | rfl
       · exact be
       · exact bi
     rw [zF (Nat.ne_of_lt hb2)]
     exact (hf b hb).1
 done := by
   intro X hP hw hK hc i pins s σ H E I hf st hg
   subst hP hw hK
   obtain ⟨xs, ha, hl⟩ := hg
   obtain ⟨its, rv, t1⟩ := DAts.lst_of I.hok ha
   have k1 := rv.length
   obtain ⟨⟨old, ge⟩, r1⟩ := st
   refine wpAny_pyNext_enum_end (I.ok.hd hc) ge r1 t1 (by simp; omega) fun h1 kk => ⟨rfl, ?_⟩
   refine I.turnedL (ch := [it]) (t' := s.toks) (fun b o hb q => ?_) (fun b hb => hf b (by simp only [List.mem_cons, List.not_mem_nil, or_false] at hb ⊢; exact .inr hb))
   simp only [List.mem_cons, List.not_mem_nil, or_false] at hb
   exact kk b o hb q
 self := fun _ _ _ _ _ st h => by
   obtain ⟨⟨old, ge⟩, _⟩ := st
   exact wpAny_pyIter_enum ge h
section
variable {X : Cx}
def iEnum (ta : TA) : TI := fun σ H R => ta σ H fun vs H1 => ∃ a xs, vs = [.ref a] /\ H1 a = some (.lst xs) /\ R (Ite a) H1
theorem vW {elts : List Expr} {cx : _} {tp : Pos} {a : Expr} {ta : TA} {p pos : Pos} (hg : Gl X "enumerate") (hm : X.mg "enumerate" = none) (ha : PA X [a] ta) (hs : starEach [a] X.env = [(false, eval a X.env)] := by rfl) :
   PI X (.Tuple elts cx tp) (.Call (.Name "enumerate" p) [a] [] pos) (iEnum ta) := by
 intro pins s σ H R I h
 refine Call_ (jT I hg hm boot_enumerate (PyProof.Rows.callWith_type1 (thn (ha pos pins s σ H _ I h) fun us s1 ⟨vs, H1, I1, r1, q1⟩ => ?_) (by rw [hs]; rfl) (by rfl)))
 obtain ⟨l1, xs, e, h1, q⟩ := q1
 subst e
 cases r1 with
 | cons r rr =>
   cases rr
   cases r
   obtain ⟨its1, rv1, t1⟩ := DAts.lst_of I1.hok h1
   refine call_enumerate_list t1 fun h' gz g1 _ kk => ?_
   refine wpAny_pyIter_enum (s := { s1 with heap := h' }) gz ?_
   have fr : ∀ b, s1.heap.objs.size <= b -> uM X pins H1 b := fun b hb => I1.fpOk hb (I1.hok.fresh hb)
   refine ⟨_, [s1.heap.objs.size + 1, s1.heap.objs.size], _, _, H1, rfl, I1.kept (t' := s1.toks) kk, turn_enum _ _ l1 (Nat.succ_ne_self _), ⟨⟨_, gz⟩, g1⟩, fun b hb => ?_, q⟩
   simp only [List.mem_cons, List.not_mem_nil, or_false] at hb
   rcases hb with rfl | rfl <;> exact fr _ (by omega)
end
theorem wC {a : Addr} {xs : List V} {g : TG} {tb : TS} {D : Ends} {σ : St} {H : Hp} (Pv : Nat -> St -> Hp -> Prop) (h0 : Pv 0 σ H) (hl : ∀ i σ H, Pv i σ H -> H a = some (.lst xs))
   (hs : ∀ (i : Nat) x σ H p, xs[i]? = some x -> Pv i σ H -> H p = none -> g (.ref p) σ (upd H p (.tup [.int i, x])) fun σ2 H2 => tb { D with nx := Pv (i + 1), ct := Pv (i + 1), bk := D.nx } σ2 H2)
   (hd : ∀ σ H, Pv xs.length σ H -> D.nx σ H) : ForW (Ite a) g tb D σ H := by
 refine ⟨fun i m σ H => m = xs.length - i /\ i <= xs.length /\ Pv i σ H, ⟨_, by rfl, Nat.zero_le _, h0⟩, fun i m σ1 H1 ⟨hm, hi, hp⟩ => ?_⟩
 have k1 := hl i σ1 H1 hp
 by_cases h : i < xs.length
 · refine .inr ⟨⟨xs, _, k1, List.getElem?_eq_getElem h⟩, Pv (i + 1), fun σ' H' q => ⟨_, ?_, rfl, by omega, q⟩, fun v H' ⟨p, x, e1, e2, e3, e4⟩ => ?_⟩
   · omega
   · subst e1
     subst e3
     exact hs i x σ1 H1 p (e4 xs k1) hp e2
 · have e : i = xs.length := by omega
   subst e
   exact .inl ⟨⟨xs, k1, Nat.le_refl _⟩, hd σ1 H1 hp⟩
section
variable {X : Cx} {tg : Expr}
end
theorem pg_tupK {X : Cx} {K : PySem.W.Frag} {es : List Expr} {k : Nat} {t : TGs} {n : Nat} {pos : Pos} (hc : X.calm = true) (h : PGs X es t) (hK : X.K = K := by rfl)
   (hn : (assignEach es X.env).length = n := by rfl) (hst : (assignEach es X.env).findIdx? (·.1) = none := by rfl) : PG X (.Tuple es k pos) (gTup K n t) := by
 subst hK
 exact uE hc h hn hst
end L2
namespace L2
theorem odd_part : ∀ n : Nat, 0 < n -> ∃ t m, n = 2 ^ t * (2 * m + 1) := by
 intro n
 induction n using Nat.strongRecOn with
 | _ n ih =>
   intro h
   by_cases ho : n % 2 = 1
   · exact ⟨0, n / 2, by omega⟩
   · obtain ⟨t, m, e⟩ := ih (n / 2) (by omega) (by omega)
     refine ⟨t + 1, m, ?_⟩
     rw [Nat.pow_succ, Nat.mul_assoc, Nat.mul_left_comm, ← e]
     omega
theorem low_bits {n : Nat} (h : 0 < n) : ∃ t, n.testBit t = true /\ (∀ i, i < t -> n.testBit i = false) /\ n - (n &&& (n - 1)) = 2 ^ t /\ ∀ i, (n &&& (n - 1)).testBit i = (n.testBit i && decide (i ≠ t)) := by
 obtain ⟨t, m, e⟩ := odd_part n h
 have e1 : n = 2 ^ t * (2 * m + 1) + 0 := by omega
 have hp : 0 < 2 ^ t := Nat.two_pow_pos t
 have e2 : n - 1 = 2 ^ t * (2 * m) + (2 ^ t - 1) := by
   rw [e, Nat.mul_add, Nat.mul_one]
   omega
 have b1 : ∀ i, n.testBit i = if i < t then false else (2 * m + 1).testBit (i - t) := fun i => by
   rw [e, Nat.testBit_two_pow_mul]
   by_cases hi : i < t
   · rw [if_pos hi, decide_eq_false (by omega), Bool.false_and]
   · rw [if_neg hi, decide_eq_true (by omega), Bool.true_and]
 have b2 : ∀ i, (n - 1).testBit i = if i < t then true else (2 * m).testBit (i - t) := fun i => by
   rw [e2, Nat.testBit_two_pow_mul_add _ (by omega)]
   by_cases hi : i < t
   · rw [if_pos hi, if_pos hi, Nat.testBit_two_pow_sub_one, decide_eq_true hi]
   · rw [if_neg hi, if_neg hi]
 have ev : ∀ j, (2 * m).testBit j = ((2 * m + 1).testBit j && decide (j ≠ 0)) := fun j => by
   cases j with
   | zero => simp
   | succ j =>
     rw [Nat.testBit_succ, Nat.testBit_succ]
     have : (2 * m + 1) / 2 = 2 * m / 2 := by omega
     rw [this]
     simp
 have b3 : ∀ i, (n &&& (n - 1)).testBit i = (n.testBit i && decide (i ≠ t)) := fun i => by
   rw [Nat.testBit_and, b1, b2]
   by_cases hi : i < t
   · rw [if_pos hi, Bool.false_and, Bool.false_and]
   · rw [if_neg hi, if_neg hi, ev]
     have : decide (i - t ≠ 0) = decide (i ≠ t) := by
       rw [decide_eq_decide]
       omega
     rw [this]
     cases (2 * m + 1).testBit (i - t) <;> simp
 have e3 : n &&& (n - 1) = 2 ^ t * (2 * m) := by
   apply Nat.eq_of_testBit_eq
   intro i
   rw [b3, b1, Nat.testBit_two_pow_mul]
   by_cases hi : i < t
   · rw [if_pos hi, show decide (i ≥ t) = false from decide_eq_false (by omega), Bool.false_and, Bool.false_and]
   · rw [if_neg hi, show decide (i ≥ t) = true from decide_eq_true (by omega), Bool.true_and, ev]
     have : decide (i - t ≠ 0) = decide (i ≠ t) := by
       rw [decide_eq_decide]
       omega
     rw [this]
 refine ⟨t, ?_, fun i hi => ?_, ?_, b3⟩
 · rw [b1, if_neg (by omega), Nat.sub_self]
   simp
 · rw [b1, if_pos hi]
 · rw [e3, e, Nat.mul_add, Nat.mul_one]
   omega
def Bits (n : Nat) (xs : List Nat) : Prop := xs.Pairwise (· < ·) /\ ∀ i, n.testBit i = decide (i ∈ xs)
theorem Bits.nil {n : Nat} (h : Bits n []) : n = 0 := Nat.eq_of_testBit_eq fun i => by rw [h.2]; simp
theorem Bits.cons {n x : Nat} {xs : List Nat} (h : Bits n (x :: xs)) : 0 < n /\ n - (n &&& (n - 1)) = 2 ^ x /\ Bits (n &&& (n - 1)) xs := by
 have hx : n.testBit x = true := by rw [h.2]; simp
 have hn : 0 < n := Nat.pos_of_ne_zero fun z => by rw [z] at hx; simp at hx
 obtain ⟨t, t1, t2, t3, t4⟩ := low_bits hn
 have hp := List.pairwise_cons.mp h.1
 have e : t = x := by
   rw [h.2, decide_eq_true_eq] at t1
   rcases List.mem_cons.mp t1 with e | e
   · exact e
   · have := hp.1 t e
     rw [t2 x this] at hx
     cases hx
 subst e
 refine ⟨hn, t3, hp.2, fun i => ?_⟩
 rw [t4, h.2]
 by_cases hi : i = t
 · subst hi
   have : i ∉ xs := fun z => Nat.lt_irrefl _ (hp.1 i z)
   simp [this]
 · simp [hi]
end L2
namespace L2
open PySem PySem.Spec PyProof.Rows PySem.SeqAt
section
variable {X : Cx}
theorem ip_or : PIp X .BitOr (ipI fun i j => Builtin.bitOr i j) := by
 intro pins s σ H x y v u Q I r1 r2 h
 obtain ⟨i, j, e1, e2, q⟩ := h
 subst e1; subst e2
 obtain ⟨t, rfl⟩ := r1
 obtain ⟨t', rfl⟩ := r2
 exact ior_int ⟨.int _, H, I.tok _, ⟨_, rfl⟩, q⟩
theorem ip_xor : PIp X .BitXor (ipI fun i j => Builtin.bitXor i j) := by
 intro pins s σ H x y v u Q I r1 r2 h
 obtain ⟨i, j, e1, e2, q⟩ := h
 subst e1; subst e2
 obtain ⟨t, rfl⟩ := r1
 obtain ⟨t', rfl⟩ := r2
 exact ixor_int ⟨.int _, H, I.tok _, ⟨_, rfl⟩, q⟩
def rGetL : V -> V -> Hp -> VK -> Prop := fun x y H Q => ∃ (p : Addr) (xs : List V) (i : Nat) (v : V), x = .ref p /\ y = .int i /\ H p = some (.lst xs) /\ xs[i]? = some v /\ Q v H
theorem get_list : PGet X rGetL := by
 intro pins s σ H o i ov iv Q I ro ri h
 obtain ⟨p, xs, k, v, rfl, rfl, hp, hk, q⟩ := h
 cases ro
 obtain ⟨t, rfl⟩ := ri
 obtain ⟨its, r, pl, hz⟩ := I.list (SqL.of hp)
 obtain ⟨w, ew, rw'⟩ := r.get hk
 have hl := r.length
 have hkl := (List.getElem?_eq_some_iff.mp hk).1
 have hs := sizeLine_eq
 exact wpAny_getItem_list pl.isList (by omega) (by omega) (by simpa using ew) ⟨v, H, I, rw', q⟩
def rBitLen : V -> List V -> Hp -> VK -> Prop := fun x vs H Q => ∃ i : Int, x = .int i /\ vs = [] /\ Q (.int (Builtin.Int.intBits i)) H
theorem mt_bit_length : MtR X "int.bit_length" rBitLen := by
 intro pins s σ H x xs v us Q I rx rv h
 obtain ⟨i, rfl, rfl, q⟩ := h
 cases rv
 obtain ⟨t, rfl⟩ := rx
 exact call_int_bit_length ⟨.int _, H, I.tok _, ⟨_, rfl⟩, q⟩
end
theorem pe_fldK {X : Cx} (K : PySem.W.Frag) {e : Expr} {f : Str} {pos : Pos} {ta : TE} (he : PE X e ta) (hb : attributeBase e f X.env (eval e X.env) = eval e X.env) (hK : X.K = K := by rfl) : PE X (.Attribute e f pos) (jX K ta f) := by
 subst hK
 exact yO he hb
theorem not_not (x : Int) : Builtin.bitNot (Builtin.bitNot x) = x := by unfold Builtin.bitNot; omega
theorem or_mask (m n : Nat) : Builtin.bitOr (m : Int) (n : Int) = ((m ||| n : Nat) : Int) := by
 unfold Builtin.bitOr
 rw [bitAnd_nn (by unfold Builtin.bitNot; omega) (by unfold Builtin.bitNot; omega), not_not, not_not, not_not]
 simp
theorem and_mask (m n : Nat) : Builtin.bitAnd (m : Int) (n : Int) = ((m &&& n : Nat) : Int) := by
 rw [bitAnd_pp (by omega) (by omega)]
 simp
theorem low_mask {n : Nat} (h : 0 < n) : Builtin.bitAnd (n : Int) (-(n : Int)) = ((n - (n &&& (n - 1)) : Nat) : Int) := by
 rw [bitAnd_pn (by omega) (by omega)]
 have e : (Builtin.bitNot (-(n : Int))).toNat = n - 1 := by unfold Builtin.bitNot; omega
 rw [e, Int.toNat_natCast]
 have := Nat.and_le_left (n := n) (m := n - 1)
 omega
theorem xor_low {n x : Nat} (h : n - (n &&& (n - 1)) = 2 ^ x) (hb : n.testBit x = true) : Builtin.bitXor (n : Int) ((2 ^ x : Nat) : Int) = ((n &&& (n - 1) : Nat) : Int) := by
 rw [bitXor_and, and_mask]
 have e : n &&& 2 ^ x = 2 ^ x := by
   apply Nat.eq_of_testBit_eq
   intro i
   rw [Nat.testBit_and, Nat.testBit_two_pow]
   by_cases hi : x = i
   · subst hi; simp [hb]
   · simp [hi]
 rw [e]
 have := Nat.and_le_left (n := n) (m := n - 1)
 omega
theorem bits_pow (x : Nat) : Builtin.Int.intBits ((2 ^ x : Nat) : Int) = x + 1 := by
 unfold Builtin.Int.intBits
 have hp : 0 < 2 ^ x := Nat.two_pow_pos x
 rw [if_neg (by rw [beq_iff_eq]; omega), Int.natAbs_natCast, Nat.log2_two_pow]
theorem shl_one (x : Nat) : (1 : Int) * 2 ^ (x : Int).toNat = ((2 ^ x : Nat) : Int) := by
 rw [Int.one_mul, Int.toNat_natCast]
 simp
end L2
namespace L2
open PySem PySem.Spec PyProof.Rows PySem.SeqAt
section
variable {prog : Program} {w : World} {K : Type} [DecidableEq K] {knd : HeapKind prog w K} {A : Around} {E : Value -> Shared -> Prop} {s : Shared} {d a : Addr} {k : K} {xs : List (K × Addr × Value)}
theorem sdef_heap {v : Value} {Q : Value -> Shared -> Prop} (hu : knd.room A) (hkey : knd.is s.heap k a) (hm : s.heap.DictOfH knd d xs)
   (h1 : ∀ p, atKey xs k = some p -> Q p.2 { s with toks := s.toks + knd.draws k })
   (h2 : atKey xs k = none -> ∀ h', h'.DictOfH knd d (storedH xs k a v) -> Heap.SameBut d s.heap h' -> Q v { s with heap := h', toks := s.toks + knd.draws k })
   (hsz : xs.length <= sizeLine) : wpAny (model prog w) A (dictSetDefault d (.ref a) v) Q E s := by
 obtain ⟨o, es, ep, ho, hc, hd, he, his, hn⟩ := hm
 unfold dictSetDefault
 try with_reducible refine wpAny_holding ?_
 refine wpAny_bind (knd.pyHash hu hkey ?_)
 refine wpAny_bind (wpAny_dictFind_heap (s := { s with toks := s.toks + knd.draws k }) hu hkey ho hd he his hn ?_ ?_)
 · intro hno
   have hnot : k ∉ xs.map (·.1) := not_mem_keys_of_get hno
   refine wpAny_bind (wpAny_rule (wpAny_bind (wpAny_updateDictKeys (hz := by have e := size_of_entries he; omega) (s := { s with toks := s.toks + knd.draws k }) ho hd (wpAny_pure (h2 (atKey_none_of_get hno) _ ⟨_, _, ep + 1, Heap.get?_update_self _ ho (Obj.isFreed_of_dict (Obj.data_mapDictKeys hd _)),
     hc.mapDictKeys _, Obj.data_mapDictKeys hd _, ?_, ?_, ?_⟩ (Heap.SameBut.update ..))))))
   · rw [storedH_new (atKey_none_of_get hno)]
     simp [he, entryOfKey]
   · rw [storedH_new (atKey_none_of_get hno)]
     intro x hx
     rcases List.mem_append.mp hx with hx | hx
     · exact knd.keeps (his x hx) ho hd (Heap.SameBut.update ..)
     · simp only [List.mem_singleton] at hx
       subst hx
       exact knd.keeps hkey ho hd (Heap.SameBut.update ..)
   · rw [storedH_new (atKey_none_of_get hno)]
     rw [List.map_append, List.nodup_append]
     refine ⟨hn, by simp, ?_⟩
     intro x hx y hy
     simp only [List.map_cons, List.map_nil, List.mem_singleton] at hy
     subst hy
     exact fun e => hnot (e ▸ hx)
 · intro j p hj
   refine wpAny_bind (wpAny_dictEntries (s := { s with toks := s.toks + knd.draws k }) ho hd ?_)
   rw [entry_at he j, hj]
   exact wpAny_bind (wpAny_rule (wpAny_pure (h1 p (atKey_of_get hn hj))))
theorem sdef_meets (hd : (d == sysModules) = false) (dflt : Value) :
   MeetsIn prog w (Builtin.«dict.setdefault» ⟨[.ref d, .ref a, dflt], []⟩) (fun A R s => knd.room A.in1 /\ ∃ k xs, knd.is s.heap k a /\ s.heap.DictOfH knd d xs /\ xs.length <= sizeLine /\
     (∀ p, atKey xs k = some p -> R (.ok (.ret p.2)) { s with toks := s.toks + knd.draws k }) /\
     (atKey xs k = none -> ∀ h', h'.DictOfH knd d (storedH xs k a dflt) -> Heap.SameBut d s.heap h' -> R (.ok (.ret dflt)) { s with heap := h', toks := s.toks + knd.draws k })) :=
 .of_wp fun A R s ⟨hu, k, xs, hkey, hm, hz, h1, h2⟩ => by
   unfold Builtin.«dict.setdefault»
   refine wpAny_bind ?_
   unfold Builtin.Dict.keyAndDefault
   refine wpAny_bind (wpAny_notOrdered_dict hm.typeIs ?_)
   show wpAny _ _ (pure (d, Value.ref a, some dflt)) _ _ s
   refine wpAny_pure ?_
   show wpAny _ _ (if (d == sysModules) = true then _ else (dictSetDefault d (.ref a) dflt >>= _)) _ _ s
   rw [if_neg (by rw [hd]; exact Bool.false_ne_true)]
   exact wpAny_bind (sdef_heap hu hkey hm (fun p hp => wpAny_pure ⟨p.2, rfl, h1 p hp⟩) (fun hn h' hm' hs' => wpAny_pure ⟨dflt, rfl, h2 hn h' hm' hs'⟩) hz)
end
theorem relO_some {v : V} {u : Value} (h : RelO (some v) (some u)) : RelV v u := h
def tSDef (td ty tx : TE) : TE := fun σ H Q => td σ H fun x H1 => ∃ a, x = .ref a /\ IsD H1 a /\ ty σ H1 fun y H2 => tx σ H2 fun z H3 => ∃ (kvs : List (List Key × V)) (k : List Key) (b : Addr), H3 a = some (.dT kvs) /\ y = .ref b /\ H3 b = some (.tup (k.map kV)) /\ kvs.length < sizeLine /\
 (∀ v, yJ kvs k = some v -> Q v H3) /\ (yJ kvs k = none -> Q z (upd H3 a (.dT (xR kvs k z))))
section
variable {X : Cx} {o e f : Expr} {apos cpos : Pos} {td ty tx : TE}
theorem pe_sdef (hu : X.A.units + 1 < cLine) (ho : PE X o td) (he : PE X e ty) (hf : PE X f tx) (m : M2 X o "setdefault" apos e f cpos) : PE X (.Call (.Attribute o "setdefault" apos) [e, f] [] cpos) (tSDef td ty tx) := by
 intro pins s σ H Q I h
 refine wpAny_Call_method m.base m.few m.line PySem.F.plainAttrs_dict PySem.F.slot_dict_setdefault PySem.F.type_dict_setdefault (thn (ho pins s σ H _ I h) fun u s1 ⟨x, H1, I1, rx, a, ex, d, q1⟩ => ?_)
 subst ex
 obtain rfl : u = Value.ref a := rx
 obtain ⟨t1, t2, _⟩ := isD_at I1 d
 refine ⟨t1, t2, ?_⟩
 rw [m.trees]
 refine Calls.callWith_builtin rfl (Calls.evalArgs_plain (Calls.spliced_cons (thn (he pins s1 σ H1 _ I1 q1) fun iv s2 ⟨y, H2, I2, ry, q2⟩ =>
   Calls.spliced_cons (thn (hf pins s2 σ H2 _ I2 q2) fun fv s3 ⟨z, H3, I3, rz, kvs, k, b, e, ey, eb, l, q3, q4⟩ => Calls.spliced_nil ?_))))
 subst ey
 cases (show iv = Value.ref b from ry)
 obtain ⟨z0, hd, xs, rel, dd⟩ := dt_of I3.hok e
 have hz : xs.length <= sizeLine := by rw [← Paired.length rel]; exact z0
 have hl : (xR kvs k z).length <= sizeLine := by have := jD kvs k z; omega
 refine call_meetsIn PySem.F.slot_dict_setdefault dd.typeIs PySem.F.entry_dict_setdefault (PySem.F.args_dict_setdefault_3 _ _ _) (sdef_meets (knd := tupleKind (zZ X.prog X.w)) hd fv) ⟨tupleKind_room_in1 hu, k, xs, qJ I3.hok eb, dd, hz, fun p hp => ?_, fun hn h' dd' hs => ?_⟩
 · have rv := rel.val k
   rw [hp] at rv
   cases hv : yJ kvs k with
   | none => rw [hv] at rv; cases rv
   | some v =>
     rw [hv] at rv
     exact ⟨v, H3, I3.tok _, relO_some rv, q3 v hv⟩
 · have rv := rel.val k
   rw [hn] at rv
   have hv : yJ kvs k = none := by
     cases hv : yJ kvs k with
     | none => rfl
     | some v => rw [hv] at rv; cases rv
   obtain ⟨q, es, ep, hq, h2, h3, h4, _, h5⟩ := dd'
   refine ⟨z, upd H3 a (.dT (xR kvs k z)), wE I3 (by rw [e]; exact True.intro) hs ⟨q, hq⟩ ⟨hl, hd, _, (rel.put k eb rz).keeps fun c ys ec => ?_, q, es, ep, hq, h2, h3, h4, h5⟩, rz, q4 hv⟩
   rw [zF (xF ec e (fun z => nomatch z))]
   exact ec
end
end L2
namespace L2
open PySem PySem.Spec PyProof.Rows PySem.W
section
variable {prog : Program} {w : World} {A : Around} {E : Value -> Shared -> Prop} {s : Shared}
end
theorem vals_of : ∀ {ys : List V} {us : List Value}, ys.length = us.length -> (∀ (i : Nat) (y : V) (u : Value), ys[i]? = some y -> us[i]? = some u -> RelV y u) -> Vals ys us
 | [], [], _, _ => .nil
 | [], _ :: _, h, _ => by simp at h
 | _ :: _, [], h, _ => by simp at h
 | y :: ys, u :: us, h, hh => .cons (hh 0 y u rfl rfl) (vals_of (by simpa using h) fun i y' u' h1 h2 => hh (i + 1) y' u' (by simpa using h1) (by simpa using h2))
theorem KT.at {H : Hp} : ∀ {kvs : List (List Key × V)} {xs : List (List Key × Addr × Value)}, KT H kvs xs -> ∀ {i : Nat} {p : List Key × V} {q : List Key × Addr × Value}, kvs[i]? = some p -> xs[i]? = some q -> RelV p.2 q.2.2
 | _, _, .nil, i, p, q, h, _ => by simp at h
 | _, _, .cons hq t, 0, p, q, h1, h2 => by
   simp only [List.getElem?_cons_zero, Option.some.injEq] at h1 h2
   subst h1 h2
   exact hq.2.2
 | _, _, .cons hq t, i + 1, p, q, h1, h2 => KT.at t (by simpa using h1) (by simpa using h2)
section
variable {X : Cx}
end
end L2
namespace L2
open PySem PySem.Spec PyProof.Rows PySem.W
theorem rev_mro : mroOf (.type "reversed") = pure [.type "reversed", .type "object"] := by rw [mroOf_type]; kernel_rfl
theorem rev_lookup : typeLookup (.type "reversed") "__new__" = pure (some (.builtin "reversed.__new__")) := by rw [typeLookup_type, builtinLookup_eq_fast]; kernel_rfl
theorem rev_new : entryFor table "reversed.__new__" = some Builtin.«reversed.__new__» := entryFor_of_tree (by kernel_rfl)
theorem rev_plain : plainId "reversed.__new__" = true := by decide +kernel
theorem rev_check (a : Value) : checkBuiltinCall "reversed.__new__" ⟨[.type "reversed", a], []⟩ = pure () := by kernel_rfl
theorem rev_tcheck (a : Value) : checkTypeCall "reversed" ⟨[a], []⟩ = pure () := by kernel_rfl
theorem rev_made : Bind.madeBy (.type "reversed") = pure (some "reversed.__new__") := madeBy_type rev_mro rev_lookup (by decide +kernel)
theorem rev_sub : isSubtype (.type "reversed") (.type "reversed") = pure true := by rw [isSubtype_type]; kernel_rfl
theorem rev_nosub : isSubtype (.type "list_reverseiterator") (.type "reversed") = pure false := by rw [isSubtype_type]; kernel_rfl
theorem rev_can : ((Manifest.find? "reversed").bind (·.mro.findSome? fun t => (Manifest.find? t).bind fun b => if b.noNew then some true else if b.attrs.any (·.1 == "__new__") then some false else none)).getD false = false := by decide +kernel
theorem rev_not : (Value.type "reversed" == Value.type "type") = false := by decide +kernel
section
variable {prog : Program} {w : World} {A : Around} {E : Value -> Shared -> Prop} {s : Shared}
theorem uR {l : Addr} {items : Array Value} {n : Nat} {Q : Value -> Shared -> Prop} (hl : s.heap.get? l = some { cls := .type "list", dict := none, data := .seq items n, slots := #[] })
   (h : Q (.ref s.heap.objs.size) { s with heap := s.heap.push { cls := Value.type "list_reverseiterator", data := Data.fields #[Value.ref l, rawInt (((items.size : Nat) : Int) - 1)] } }) :
   codeAny (model prog w) A (.call (.builtin "reversed.__new__") ⟨[.type "reversed", .ref l], []⟩) (wants Q E) s := by
 refine codeAny_of_tree ?_
 show wpAny _ A.in1 (do checkBuiltinCall "reversed.__new__" ⟨[.type "reversed", .ref l], []⟩; again (.builtin "reversed.__new__" ⟨[.type "reversed", .ref l], []⟩)) _ _ s
 refine wpAny_bind (wpAny_of_eq (rev_check _) (wpAny_pure ⟨plainId_quiet rev_plain _, codeAny_builtin rev_new ?_⟩))
 rw [Around.under_plainId rev_plain _]
 have hT : s.TypeIs (.ref l) "list" := ⟨_, hl, rfl⟩
 have hs := rev_sub
 have hlk := PySem.F.slot_list_reversed.lookup
 have hb := PySem.F.slot_list_reversed.bind (.ref l)
 unfold Builtin.«reversed.__new__»
 unfold Builtin.SmallTypes.newClass
 repeat (any_goals (first | assumption | wp_step))
 refine codeAny_mono (codeAny_call_builtin PySem.F.slot_list_reversed.plain PySem.F.entry_list_reversed (PySem.F.slot_list_reversed.check _ _ _ _ _ _ _ _ hT (PySem.F.args_list_reversed_1 _) (PySem.AutoListH.list___reversed___list_0 l items n prog w A.in1 (wants (fun v s1 => v = .ref s.heap.objs.size /\ s1 = { s with heap := s.heap.push { cls := Value.type "list_reverseiterator", data := Data.fields #[Value.ref l, rawInt (((items.size : Nat) : Int) - 1)] } }) (fun _ _ => False)) s ⟨hl, rfl, rfl⟩))) fun r s1 hr => ?_
 cases r with
 | error e => exact hr.elim
 | ok fl =>
   cases fl with
   | ret obj =>
     obtain ⟨rfl, rfl⟩ := hr
     exact wpAny_pure h
   | _ => exact hr.elim
theorem uS {l : Addr} {items : Array Value} {n : Nat} {Q : Value -> Shared -> Prop} (hl : s.heap.get? l = some { cls := .type "list", dict := none, data := .seq items n, slots := #[] })
   (h : Q (.ref s.heap.objs.size) { s with heap := s.heap.push { cls := Value.type "list_reverseiterator", data := Data.fields #[Value.ref l, rawInt (((items.size : Nat) : Int) - 1)] } }) :
   wpAny (model prog w) A (call (.type "reversed") [.ref l]) Q E s := by
 have hmro := rev_mro
 have hmade := rev_made
 have hsub := rev_sub
 refine wpAny_call (codeAny_of_tree ?_)
 show wpAny _ _ (callAny (.type "reversed") _) _ _ _
 refine wpAny_pure ⟨Code.quiet_builtin _ (by decide +kernel), codeAny_builtin F.entry_type_call ?_⟩
 rw [Around.under_plain (weight_type_call_type "reversed" [.ref l] []) rfl]
 have h1 := rev_not
 have h2 := rev_can
 have h3 := rev_tcheck (.ref l)
 repeat (any_goals (first | assumption | wp_step))
 refine codeAny_mono (uR (E := E) (Q := fun v s1 => v = .ref s.heap.objs.size /\ s1 = { s with heap := s.heap.push { cls := Value.type "list_reverseiterator", data := Data.fields #[Value.ref l, rawInt (((items.size : Nat) : Int) - 1)] } }) hl ⟨rfl, rfl⟩) fun r s₁ hr => ?_
 cases r with
 | error e => exact hr
 | ok fl =>
   cases fl with
   | ret obj =>
     obtain ⟨rfl, rfl⟩ := hr
     have hT : Shared.TypeIs { s with heap := s.heap.push { cls := Value.type "list_reverseiterator", data := Data.fields #[Value.ref l, rawInt (((items.size : Nat) : Int) - 1)] } } (.ref s.heap.objs.size) "list_reverseiterator" := ⟨_, Heap.get?_push_size _ rfl, rfl⟩
     have hno := rev_nosub
     repeat (any_goals (first | assumption | wp_step))
   | _ => exact hr.elim
end
theorem ri_owner : Manifest.owners.lookup (String.ofList ['r', 'o', 't', 'a', 'r', 'e', 't', 'i', 'e', 's', 'r', 'e', 'v', 'e', 'r', '_', 't', 's', 'i', 'l'].reverse) = some Manifest.sig_list_reverseiterator := by kernel_rfl
theorem ri_next : Slot "list_reverseiterator" "__next__" "list_reverseiterator.__next__" := .of (owner := "list_reverseiterator") (n := "__next__") (by rw [typeLookup_type, builtinLookup_eq_fast]; kernel_rfl) (by decide +kernel) (by decide +kernel) (by decide +kernel) (by first | exact .inl (by decide +kernel) | exact .inr (by decide +kernel)) (by rw [isSubtype_type]; kernel_rfl)
theorem ri_iter : Slot "list_reverseiterator" "__iter__" "list_reverseiterator.__iter__" := .of (owner := "list_reverseiterator") (n := "__iter__") (by rw [typeLookup_type, builtinLookup_eq_fast]; kernel_rfl) (by decide +kernel) (by decide +kernel) (by decide +kernel) (by first | exact .inl (by decide +kernel) | exact .inr (by decide +kernel)) (by rw [isSubtype_type]; kernel_rfl)
theorem ri_enext : entryFor table "list_reverseiterator.__next__" = some Builtin.«list_reverseiterator.__next__» := entryFor_of_tree (by kernel_rfl)
theorem ri_eiter : entryFor table "list_reverseiterator.__iter__" = some Builtin.«dict_keyiterator.__iter__» := entryFor_alias (id' := "dict_keyiterator.__iter__") (by kernel_rfl) rfl (by decide +kernel) (by kernel_rfl)
theorem ri_anext (a : Value) : argsOk "list_reverseiterator.__next__" ⟨[a], []⟩ := by unfold argsOk; rw [signature?_of (id := "list_reverseiterator.__next__") (n := ['_', '_', 't', 'x', 'e', 'n', '_', '_']) (o := ['r', 'o', 't', 'a', 'r', 'e', 't', 'i', 'e', 's', 'r', 'e', 'v', 'e', 'r', '_', 't', 's', 'i', 'l']) (by kernel_rfl) ri_owner]; kernel_rfl
theorem ri_aiter (a : Value) : argsOk "list_reverseiterator.__iter__" ⟨[a], []⟩ := by unfold argsOk; rw [signature?_of (id := "list_reverseiterator.__iter__") (n := ['_', '_', 'r', 'e', 't', 'i', '_', '_']) (o := ['r', 'o', 't', 'a', 'r', 'e', 't', 'i', 'e', 's', 'r', 'e', 'v', 'e', 'r', '_', 't', 's', 'i', 'l']) (by kernel_rfl) ri_owner]; kernel_rfl
theorem ri_nolen : typeLookup (.type "list_reverseiterator") "__len__" = pure none := by rw [typeLookup_type, builtinLookup_eq_fast]; kernel_rfl
theorem ri_hint : typeLookup (.type "list_reverseiterator") "__length_hint__" = pure (some (.builtin "list_reverseiterator.__length_hint__")) := by rw [typeLookup_type, builtinLookup_eq_fast]; kernel_rfl
def IsRev (h : Heap) (it l : Addr) (k n : Nat) : Prop := ∃ o, h.get? it = some o /\ o.cls = .type "list_reverseiterator" /\ o.data = .fields #[.ref l, rawInt ((n : Int) - 1 - k)]
section
variable {prog : Program} {w : World} {A : Around} {E : Value -> Shared -> Prop} {s : Shared}
theorem IsRev.typeIs {it l : Addr} {k n : Nat} (x : IsRev s.heap it l k n) : s.TypeIs (.ref it) "list_reverseiterator" := let ⟨o, ho, hc, _⟩ := x; ⟨o, ho, hc⟩
theorem rev_item {it l : Addr} {k : Nat} {items : Array Value} {x : Value} {Q : Option Value -> Shared -> Prop} (hit : IsRev s.heap it l k items.size) (hl : s.heap.IsList l items) (hk : k < items.size) (hx : items[items.size - 1 - k]? = some x)
   (hQ : ∀ h', IsRev h' it l (k + 1) items.size -> Heap.SameBut it s.heap h' -> Q (some x) { s with heap := h' }) : wpAny (model prog w) A (pyNext (.ref it)) Q E s := by
 obtain ⟨o, a1, a2, a3⟩ := id hit; obtain ⟨ol, b1, _, nl, b3⟩ := hl
 unfold pyNext
 refine wpAny_bind (wpAny_attempt (wpAny_callSpecial?_slot (name := Str.ofString "__next__") hit.typeIs ri_next (wpAny_call_entry ri_next hit.typeIs ri_enext ?_ (ri_anext _))))
 show wpAny _ _ (field (.ref it) 1 >>= _) _ _ s
 refine wpAny_bind (wpAny_field a1 a3 (x := rawInt ((items.size : Int) - 1 - k)) rfl ?_)
 show wpAny _ _ (if ((items.size : Int) - 1 - k) < 0 then _ else _) _ _ s
 rw [if_neg (by omega)]; show wpAny _ _ (field (.ref it) 0 >>= _) _ _ s
 refine wpAny_bind (wpAny_field a1 a3 (x := .ref l) rfl ?_); refine wpAny_bind (wpAny_seqItems b1 b3 ?_)
 have e : ((items.size : Int) - 1 - k).toNat = items.size - 1 - k := by omega
 simp only [e, hx]
 refine wpAny_bind (wpAny_setField a1 a3 (by simp) (wpAny_pure ⟨x, rfl, wpAny_pure (hQ _ ?_ (Heap.SameBut.update ..))⟩))
 refine ⟨_, Heap.get?_update_self _ a1 (Obj.isFreed_of_fields (Obj.data_mapFields a3 _)), (Obj.cls_mapFields ..).trans a2, ?_⟩
 rw [Obj.data_mapFields a3, show (items.size : Int) - 1 - ((k + 1 : Nat) : Int) = (items.size : Int) - 1 - k - 1 by omega]
 simp [rawInt]
theorem rev_end {it l : Addr} {n : Nat} {Q : Option Value -> Shared -> Prop} (hh : A.handled = none) (hit : IsRev s.heap it l n n)
   (hQ : ∀ h', Heap.ExtBut it s.heap h' -> Q none { s with heap := h' }) : wpAny (model prog w) A (pyNext (.ref it)) Q E s := by
 obtain ⟨o, a1, a2, a3⟩ := id hit
 unfold pyNext
 refine wpAny_bind (wpAny_attempt (wpAny_callSpecial?_slot (name := Str.ofString "__next__") hit.typeIs ri_next (wpAny_call_entry ri_next hit.typeIs ri_enext ?_ (ri_anext _))))
 show wpAny _ _ (field (.ref it) 1 >>= _) _ _ s
 refine wpAny_bind (wpAny_field a1 a3 (x := rawInt ((n : Int) - 1 - n)) rfl ?_)
 show wpAny _ _ (if ((n : Int) - 1 - n) < 0 then _ else _) _ _ s
 rw [if_pos (by omega)]; refine wpAny_bind (wpAny_rule ?_); refine wpAny_bind ?_
 show wpAny _ _ (newExc (.type "StopIteration") [] >>= _) _ _ _; refine wpAny_bind ?_
 simp only [newExc, newTuple]; refine wpAny_bind (wpAny_newObj_type ?_ (by size_fits))
 refine wpAny_bind (m := firstArgMember _ _) (wpAny_of_eq (a := Value.none) (by first | rfl | (simp only [firstArgMember]; rfl)) ?_); refine wpAny_newObj_type ?_ (by size_fits)
 simp only [raiseNew]; refine wpAny_bind (wpAny_handled ?_); rw [show A.in1.handled = none from hh]
 refine wpAny_bind (wpAny_pure (wpAny_throw ?_)); refine wpAny_bind (wpAny_isInstance (T := "StopIteration") (b := true) ⟨_, Heap.get?_push_size _ rfl, rfl⟩ isSubtype_stop ?_)
 exact wpAny_pure (hQ _ (((Heap.SameBut.refl it s.heap).extBut.push _).push _))
theorem rev_self {it l : Addr} {k n : Nat} {Q : Value -> Shared -> Prop} (hit : IsRev s.heap it l k n) (h : Q (.ref it) s) : wpAny (model prog w) A (pyIter (.ref it)) Q E s := by
 refine wpAny_pyIter_slot hit.typeIs ri_iter (wpAny_call_entry ri_iter hit.typeIs ri_eiter ?_ (ri_aiter _))
 show wpAny _ _ (ret (.ref it)) _ _ s; exact wpAny_pure ⟨_, rfl, "list_reverseiterator", _, hit.typeIs, ri_next.lookup, h⟩
theorem rev_walks (hh : A.handled = none) (I l : Addr) (hne : l ≠ I) (items : Array Value) : Walks prog w A I [I, l] [I] items.size (fun i v => items[items.size - 1 - i]? = some v) (fun i h => IsRev h I l i items.size /\ h.IsList l items) where
 sub := fun b hb => by simp at hb; simp [hb]
 frame := fun _ _ _ st hk => ⟨let ⟨o, ho, r⟩ := st.1; ⟨o, hk I (by simp) o ho, r⟩, let ⟨o, ho, r⟩ := st.2; ⟨o, hk l (by simp) o ho, r⟩⟩
 item := fun i s Q E hi st hQ => by
   have hx : items[items.size - 1 - i]? = some items[items.size - 1 - i] := Array.getElem?_eq_getElem (by omega)
   refine rev_item st.1 st.2 hi hx fun h' it' hs' => ?_
   exact hQ _ h' s.toks hx ⟨it', let ⟨o, ho, r⟩ := st.2; ⟨o, hs'.extBut l o hne ho, r⟩⟩ fun b o hb e => hs'.extBut b o (fun h => hb (by simp [h])) e
 done := fun s Q E st hQ => rev_end hh st.1 fun h' he' => hQ h' s.toks fun b o hb e => he' b o (fun h => hb (by simp [h])) e
 self := fun _ _ _ _ st hQ => rev_self st.1 hQ
theorem rev_hint {r l : Addr} {k n : Nat} {Q : Bool -> Shared -> Prop} (hT : IsRev s.heap r l k n) (h : Q false s) : wpAny (model prog w) A (Builtin.List.listLengthHint (.ref r)) Q E s := by
 unfold Builtin.List.listLengthHint
 refine wpAny_bind (wpAny_specialOf hT.typeIs ri_nolen ?_)
 refine wpAny_ite_split (fun hab => absurd hab (by decide +kernel)) (fun _ => ?_)
 refine wpAny_ite_split (fun hab => absurd hab (by decide +kernel)) (fun _ => ?_)
 refine wpAny_bind (wpAny_specialOf hT.typeIs ri_hint ?_)
 generalize hid : ("list_reverseiterator.__length_hint__" : String) = id0
 wp_delta
 rw [show splitId id0 = some ("list_reverseiterator", "__length_hint__") from by subst hid; decide +kernel]
 subst hid
 refine wpAny_bind (wpAny_isInstance (T := "list_reverseiterator") (b := true) hT.typeIs (by rw [isSubtype_type]; kernel_rfl) ?_)
 refine wpAny_ite_split (fun hab => absurd hab (by decide)) (fun _ => ?_)
 refine wpAny_ite_split (fun _ => ?_) (fun hab => absurd (by decide +kernel) hab)
 refine wpAny_ite_split (fun hab => absurd hab (by decide +kernel)) (fun _ => ?_)
 exact wpAny_pure h
end
section
variable {prog : Program} {w : World} {A : Around} {E : Value -> Shared -> Prop} {s : Shared} {T : String} {J : Addr} {fp wr : List Addr} {n : Nat} {P : Nat -> Value -> Prop} {St : Nat -> Heap -> Prop}
structure ItSrc (prog : Program) (w : World) (T : String) (J : Addr) (fp wr : List Addr) (n : Nat) (P : Nat -> Value -> Prop) (St : Nat -> Heap -> Prop) : Prop where
 walks : ∀ A : Around, A.handled = none -> Walks prog w A J fp wr n P St
 type : ∀ s : Shared, St 0 s.heap -> s.TypeIs (.ref J) T
 nl : (Value.type T == Value.type "list") = false
 nt : (Value.type T == Value.type "tuple") = false
 hint : ∀ (A : Around) (E : Value -> Shared -> Prop) (s : Shared) (Q : Bool -> Shared -> Prop), St 0 s.heap -> Q false s -> wpAny (model prog w) A (Builtin.List.listLengthHint (.ref J)) Q E s
 mem : J ∈ fp
 sub : wr ⊆ fp
theorem it_extend {R : Result -> Shared -> Prop} (K : ItSrc prog w T J fp wr n P St) (hh : A.handled = none) (st : St 0 s.heap) (S : Addr) (hSf : S ∉ fp) (res : Value) (c₀ : Nat) (hS : s.heap.get? S = some { cls := .type "list", data := .seq #[] c₀ })
   (hR : ∀ h' tk acc' c', (∀ b o, b ≠ S -> b ∉ wr -> s.heap.get? b = some o -> h'.get? b = some o) -> h'.get? S = some { cls := .type "list", dict := none, data := .seq acc' c', slots := #[] } -> ItemsOf P acc' n -> R (.ok (.ret res)) { s with heap := h', toks := tk }) (hn : n <= sizeLine) :
   wpAny (model prog w) A.in1 (Builtin.List.listExtendWith (.ref S) (.ref J) res) (fun fin s' => match fin with | .done f => R (.ok f) s' | .again c' => c'.quiet = true /\ codeAny (model prog w) A c' R s') (fun e s' => R (.error e) s') s := by
 have hSJ : S ≠ J := fun e => hSf (e ▸ K.mem)
 have W := K.walks A.in1 hh
 have key : ∀ (h : Heap) (c₁ tk : Nat), St 0 h -> (∀ b o, b ≠ S -> s.heap.get? b = some o -> h.get? b = some o) -> h.get? S = some { cls := .type "list", data := .seq #[] c₁ } -> codeAny (model prog w) A (.builtin "list.extend.loop" ⟨[.ref S, .ref J, res], []⟩) R { s with heap := h, toks := tk } := by
   intro h c₁ tk hst hk hS₁
   refine codeAny_extend_loopS W.toS hn S hSf res n 0 _ #[] c₁ rfl (Nat.zero_le _) hst hS₁ (ItemsOf.nil _) fun s' acc' c' hm hS' hacc => ?_
   rw [Moved.eq_with hm]; refine hR s'.heap s'.toks acc' c' (fun b o hb hw e => hm.heap b o (fun hmem => ?_) (hk b o hb e)) hS' hacc
   rcases List.mem_cons.mp hmem with e' | hmem'
   · exact hb e'
   · exact hw hmem'
 unfold Builtin.List.listExtendWith; refine wpAny_bind (wpAny_typeOf (T := T) (K.type s st) ?_)
 have h1 : Builtin.List.listSameRef (.ref S) (.ref J) = false := by simp [Builtin.List.listSameRef, hSJ]
 simp only [h1, K.nl, K.nt, Bool.or_false, Bool.false_eq_true, if_false]; refine wpAny_bind (W.self 0 _ _ _ st ?_)
 refine wpAny_bind (wpAny_holding (K.hint _ _ _ _ st ?_))
 refine wpAny_ite_split (fun _ => ?_) (fun _ => wpAny_pure ⟨plainId_quiet PySem.F.plain_extend_loop _, key _ c₀ _ st (fun b o _ e => e) hS⟩)
 refine wpAny_bind (wpAny_rule ?_); refine wpAny_bind ?_
 show wpAny _ _ (updateSeq S (·.push .none) >>= fun _ => updateSeq S (·.pop)) _ _ _; refine wpAny_bind (wpAny_updateSeq hS rfl ?_)
 have hS₂ := Heap.get?_update_self (Obj.mapSeq (·.push Value.none)) hS rfl
 refine wpAny_updateSeq (hz := by seq_fits) hS₂ rfl ?_; have hS₃ := Heap.get?_update_self (Obj.mapSeq (·.pop)) hS₂ rfl
 have oth : ∀ b o, b ≠ S -> s.heap.get? b = some o -> ((s.heap.update S (Obj.mapSeq (·.push Value.none))).update S (Obj.mapSeq (·.pop))).get? b = some o := fun b o hb e => (Heap.get?_update_other _ _ (Ne.symm hb)).trans ((Heap.get?_update_other _ _ (Ne.symm hb)).trans e)
 exact wpAny_pure ⟨plainId_quiet PySem.F.plain_extend_loop _, key _ _ _ (W.frame 0 _ _ st fun b hb o e => oth b o (fun h => hSf (h ▸ hb)) e) oth hS₃⟩
theorem it_init {R : Result -> Shared -> Prop} (K : ItSrc prog w T J fp wr n P St) (hh : A.handled = none) (st : St 0 s.heap) (S : Addr) (hSf : S ∉ fp) (hS : s.heap.get? S = some { cls := .type "list", data := .seq #[] })
   (hR : ∀ h' tk acc' c', (∀ b o, b ≠ S -> b ∉ wr -> s.heap.get? b = some o -> h'.get? b = some o) -> h'.get? S = some { cls := .type "list", dict := none, data := .seq acc' c', slots := #[] } -> ItemsOf P acc' n -> R (.ok (.ret .none)) { s with heap := h', toks := tk }) (hn : n <= sizeLine) :
   wpAny (model prog w) A.in1 (Builtin.«list.__init__» ⟨[.ref S, .ref J], []⟩) (fun fin s' => match fin with | .done f => R (.ok f) s' | .again c' => c'.quiet = true /\ codeAny (model prog w) A c' R s') (fun e s' => R (.error e) s') s := by
 show wpAny _ _ (do let old ← Builtin.List.listItems (.ref S); Builtin.List.listUpdate (.ref S) (fun _ => #[]); letGo old.toList.reverse; Builtin.List.listExtendWith (.ref S) (.ref J) .none) _ _ s
 refine wpAny_bind ?_; unfold Builtin.List.listItems; refine wpAny_bind (wpAny_seqItems hS rfl (wpAny_pure ?_))
 show wpAny _ _ (updateSeq S (fun _ => #[]) >>= fun _ => letGo (#[] : Array Value).toList.reverse >>= fun _ => Builtin.List.listExtendWith (.ref S) (.ref J) .none) _ _ s
 refine wpAny_bind (wpAny_updateSeq hS rfl ?_); have hS₂ := Heap.get?_update_self (Obj.mapSeq (fun _ => (#[] : Array Value))) hS rfl
 have oth : ∀ b o, b ≠ S -> s.heap.get? b = some o -> (s.heap.update S (Obj.mapSeq (fun _ => (#[] : Array Value)))).get? b = some o := fun b o hb e => (Heap.get?_update_other _ _ (Ne.symm hb)).trans e
 refine wpAny_bind (wpAny_letGo ?_)
 refine it_extend K hh ((K.walks A.in1 hh).frame 0 _ _ st fun b hb o e => oth b o (fun h => hSf (h ▸ hb)) e) S hSf .none _ hS₂ (fun h' tk acc' c' hk hS' hacc => ?_) hn
 exact hR h' tk acc' c' (fun b o hb hw e => hk b o hb hw (oth b o hb e)) hS' hacc
theorem it_call {Q : Value -> Shared -> Prop} (K : ItSrc prog w T J fp wr n P St) (hh : A.handled = none) (st : St 0 s.heap) (hlt : ∀ b ∈ fp, b < s.heap.objs.size) (hn : n <= sizeLine)
   (hQ : ∀ h' tk acc' c', (∀ b o, b ∉ wr -> s.heap.get? b = some o -> h'.get? b = some o) -> h'.get? s.heap.objs.size = some { cls := .type "list", dict := none, data := .seq acc' c', slots := #[] } -> ItemsOf P acc' n -> Q (.ref s.heap.objs.size) { s with heap := h', toks := tk }) :
   wpAny (model prog w) A (call (.type "list") [.ref J]) Q E s := by
 refine callType_codes (Q₁ := fun obj s₁ => obj = .ref s.heap.objs.size /\ s₁ = { s with heap := s.heap.push { cls := .type "list", data := .seq #[] } }) PySem.F.called_list (PySem.F.typeCall_list_1 _) PySem.F.entry_list_init (code_list_new _ ⟨rfl, rfl⟩) fun obj s₁ h₁ => ?_
 obtain ⟨rfl, rfl⟩ := h₁
 have hS : (s.heap.push { cls := .type "list", data := .seq #[] }).get? s.heap.objs.size = some { cls := .type "list", data := .seq #[] } := Heap.get?_push_size _ rfl
 refine ⟨⟨_, hS, rfl⟩, PySem.F.args_list_init_2 _ _, it_init (A := A.in1) K hh ((K.walks A.in1 hh).frame 0 _ _ st fun b _ o e => Heap.get?_push_of_some _ e) _ (fun hm => Nat.lt_irrefl _ (hlt _ hm)) hS (fun h' tk acc' c' hk hS' hacc => ?_) hn⟩
 exact ⟨rfl, hQ h' tk acc' c' (fun b o hw e => hk b o (Nat.ne_of_lt (Heap.lt_size e)) hw (Heap.get?_push_of_some _ e)) hS' hacc⟩
theorem rev_src {r l : Addr} {items : Array Value} (hne : l ≠ r) : ItSrc prog w "list_reverseiterator" r [r, l] [r] items.size (fun i v => items[items.size - 1 - i]? = some v) (fun i h => IsRev h r l i items.size /\ h.IsList l items) :=
 ⟨fun A hh => rev_walks hh r l hne items, fun _ st => st.1.typeIs, by decide, by decide, fun _ _ _ _ st hq => rev_hint st.1 hq, by simp, by simp⟩
end
theorem bt_reversed : bootBuiltins "reversed" = some (.type "reversed") := by decide +kernel
section
variable {X : Cx}
def tLR (ta : TA) : TE := fun σ H Q => ta σ H fun vs H1 => ∃ a xs, vs = [.ref a] /\ H1 a = some (.lst xs) /\ ∀ l, H1 l = none -> Q (.ref l) (upd H1 l (.lst xs.reverse))
theorem pe_listRev {o : Expr} {ta : TA} {p p' ap pos : Pos} (hg : Gl X "list") (hm : X.mg "list" = none) (hg' : Gl X "reversed") (hm' : X.mg "reversed" = none) (hc : X.calm = true) (ha : PA X [o] ta) (hs : starEach [o] X.env = [(false, eval o X.env)] := by rfl)
   (he : starEach [Expr.Call (.Name "reversed" p') [o] [] ap] X.env = [(false, eval (.Call (.Name "reversed" p') [o] [] ap) X.env)] := by rfl) : PE X (.Call (.Name "list" p) [.Call (.Name "reversed" p') [o] [] ap] [] pos) (tLR ta) := by
 intro pins s σ H Q I h
 refine wpAny_Call_Name_kw (jT I hg hm bt_list ?_ (by decide) (by decide))
 refine PyProof.Rows.callWith_type1 ?_ he (by rfl)
 rw [he]
 show wpAny _ _ (spliced [(false, _)]) _ _ s
 refine Calls.spliced_cons ?_
 refine wpAny_Call_Name_kw (jT I hg' hm' bt_reversed ?_ (by decide) (by decide))
 refine PyProof.Rows.callWith_type1 (thn (ha ap pins s σ H _ I h) fun us s1 ⟨vs, H1, I1, r1, a, xs, e, h1, q⟩ => ?_) (by rw [hs]; rfl) (by rfl)
 subst e
 obtain ⟨u, rfl, ru⟩ := uX r1
 cases ru
 obtain ⟨hz, its, nn, rv, o1⟩ := (show ObjOk X.prog X.w H1 s1.heap a (.lst xs) from I1.hok a _ h1)
 have hlen := rv.length
 have hal : a < s1.heap.objs.size := Heap.lt_size o1
 refine uS o1 ?_
 refine Calls.spliced_nil ?_
 have o2 : (s1.heap.push { cls := Value.type "list_reverseiterator", data := Data.fields #[Value.ref a, rawInt (((its.toArray.size : Nat) : Int) - 1)] }).get? a = some { cls := .type "list", dict := none, data := .seq its.toArray nn, slots := #[] } := Heap.get?_push_of_some _ o1
 have ri : IsRev (s1.heap.push { cls := Value.type "list_reverseiterator", data := Data.fields #[Value.ref a, rawInt (((its.toArray.size : Nat) : Int) - 1)] }) s1.heap.objs.size a 0 its.toArray.size := ⟨_, Heap.get?_push_size _ rfl, rfl, by simp⟩
 have sz : (s1.heap.push { cls := Value.type "list_reverseiterator", data := Data.fields #[Value.ref a, rawInt (((its.toArray.size : Nat) : Int) - 1)] }).objs.size = s1.heap.objs.size + 1 := Heap.size_push ..
 refine it_call (rev_src (r := s1.heap.objs.size) (l := a) (items := its.toArray) (Nat.ne_of_lt hal)) (I.ok.hd hc) ⟨ri, ⟨_, o2, rfl, nn, rfl⟩⟩ (fun b hb => ?_) (by rw [List.size_toArray]; omega) fun h' tk acc c' hk hS hacc => ?_
 · show b < (s1.heap.push _).objs.size
   rw [sz]
   simp only [List.mem_cons, List.not_mem_nil, or_false] at hb
   rcases hb with e | e
   · rw [e]; exact Nat.lt_succ_self _
   · rw [e]; exact Nat.lt_succ_of_lt hal
 have hold : ∀ b o, s1.heap.get? b = some o -> h'.get? b = some o := fun b o e => hk b o (fun hm => by
   rw [List.mem_singleton] at hm
   exact absurd (hm ▸ Heap.lt_size e) (Nat.lt_irrefl _)) (Heap.get?_push_of_some _ e)
 have vals : Vals xs.reverse acc.toList := by
   have hal : acc.toList.length = its.length := by rw [Array.length_toList, hacc.1, List.size_toArray]
   refine vals_of (by rw [List.length_reverse, hal, hlen]) fun i y u hy hu => ?_
   have hi := (List.getElem?_eq_some_iff.mp hu).1
   rw [Array.getElem?_toList] at hu
   have e1 := hacc.2 i u hu
   rw [List.size_toArray] at e1
   have e2 : its[its.length - 1 - i]? = some u := by simpa using e1
   rw [List.getElem?_reverse (by omega)] at hy
   obtain ⟨u', hu', ru'⟩ := rv.get hy
   rw [hlen, e2] at hu'
   cases hu'
   exact ru'
 have hS' : h'.get? (s1.heap.objs.size + 1) = some { cls := Value.type "list", data := Data.seq acc c' } := by rw [← sz]; exact hS
 rw [show (Value.ref (Shared.heap { s1 with heap := s1.heap.push { cls := Value.type "list_reverseiterator", data := Data.fields #[Value.ref a, rawInt (((its.toArray.size : Nat) : Int) - 1)] } }).objs.size) = Value.ref (s1.heap.objs.size + 1) from congrArg Value.ref sz]
 exact ⟨.ref (s1.heap.objs.size + 1), _, I1.laid (a := s1.heap.objs.size + 1) (o := .lst xs.reverse) (t' := tk) hold (Nat.le_succ _) ⟨by rw [List.length_reverse]; exact hz, acc.toList, c', vals, by rw [Array.toArray_toList]; exact hS'⟩, rfl, q _ (I1.hok.fresh (Nat.le_succ _))⟩
end
end L2
set_option autoImplicit false
namespace L2
open PySem PyProof.Rows
abbrev SM := StateT SortSt Sem
def bey (l : Bool) (key : Keyed) (arr : Array Keyed) (base i : Nat) : SM (Option Bool) :=
 elem' arr (base + i) >>= fun x => if l = true then lt' x key else lt' key x >>= fun o => pure (Option.map (fun x => !x) o)
def gbin (be : Nat -> SM (Option Bool)) (n lo hi : Nat) : SM (Option Nat) :=
 (forIn [:n] ((none, lo, hi) : Option (Option Nat) × Nat × Nat) fun _ c =>
    if c.2.1 ≥ c.2.2 then pure (ForInStep.done (none, c.2.1, c.2.2))
    else be (c.2.1 + (c.2.2 - c.2.1) / 2) >>= fun o => match o with
      | some b => if b = true then pure (ForInStep.yield (none, c.2.1 + (c.2.2 - c.2.1) / 2 + 1, c.2.2)) else pure (ForInStep.yield (none, c.2.1, c.2.1 + (c.2.2 - c.2.1) / 2))
      | _ => pure (ForInStep.done (some none, c.2.1, c.2.2))) >>= fun c => match c.1 with
  | some r => pure r
  | none => pure (some c.2.2)
def gwalk (be : Nat -> SM (Option Bool)) (n mx : Nat) (f : Bool -> Bool) (g : Nat -> Nat) : SM (Option (Option Nat) × Nat × Nat) :=
 forIn [:n] ((none, 0, 1) : Option (Option Nat) × Nat × Nat) fun _ c =>
   if c.2.2 ≥ mx then pure (ForInStep.done (none, c.2.1, c.2.2))
   else be (g c.2.2) >>= fun o => match o with
     | some b => if f b = true then pure (ForInStep.done (none, c.2.1, c.2.2)) else pure (ForInStep.yield (none, c.2.2, 2 * c.2.2 + 1))
     | _ => pure (ForInStep.done (some none, c.2.1, c.2.2))
def gallop' : Bool -> Keyed -> Array Keyed -> Nat -> Nat -> Nat -> SM (Option Nat) := sortPriv% PySem.Builtin.gallop
theorem gallop'_eq (l : Bool) (key : Keyed) (arr : Array Keyed) (base n hint : Nat) : gallop' l key arr base n hint =
   (bey l key arr base hint >>= fun o => match o with
     | some right => if right = true then gwalk (bey l key arr base) n (n - hint) (fun b => !b) (fun o => hint + o) >>= fun c => (match c.1 with
           | some r => pure r
           | none => gbin (bey l key arr base) n (hint + c.2.1 + 1) (hint + min c.2.2 (n - hint)))
         else gwalk (bey l key arr base) n (hint + 1) (fun b => b) (fun o => hint - o) >>= fun c => (match c.1 with
           | some r => pure r
           | none => gbin (bey l key arr base) n (hint + 1 - min c.2.2 (hint + 1)) (hint - c.2.1))
     | _ => pure none) := by
 unfold gwalk gbin bey
 show (_ >>= _ : SM _) = _
 congr 1
 funext o
 cases o with
 | none => rfl
 | some right =>
   cases right
   · show (_ >>= _ : SM _) = _
     simp only [Bool.false_eq_true, if_false]
     congr 1
     funext c
     obtain ⟨r, u, v⟩ := c
     cases r
     · show (_ >>= _ : SM _) = _
       congr 1
       funext c
       obtain ⟨r, u, v⟩ := c
       cases r <;> rfl
     · rfl
   · show (_ >>= _ : SM _) = _
     simp only [if_true]
     congr 1
     funext c
     obtain ⟨r, u, v⟩ := c
     cases r
     · show (_ >>= _ : SM _) = _
       congr 1
       funext c
       obtain ⟨r, u, v⟩ := c
       cases r <;> rfl
     · rfl
section
variable {M : Model} {A : Around} {E : Value -> Shared -> Prop} {s : Shared} {st : SortSt} {be : Nat -> SM (Option Bool)} {P : Nat -> Bool} {n : Nat}
theorem gbin_ok {lo hi : Nat} {Q : Option Nat -> SortSt -> Prop} (hbe : ∀ i, i < n -> ∀ Q : Option Bool -> SortSt -> Prop, Q (some (P i)) st -> wpS M A E s (be i) Q st)
   (hm : ∀ i j, i <= j -> j < n -> P j = true -> P i = true) (h1 : lo <= hi) (h2 : hi <= n) (hlo : ∀ i, i < lo -> P i = true) (hhi : ∀ i, hi <= i -> i < n -> P i = false)
   (h : ∀ r, r <= n -> (∀ i, i < r -> P i = true) -> (∀ i, r <= i -> i < n -> P i = false) -> Q (some r) st) : wpS M A E s (gbin be n lo hi) Q st := by
 unfold gbin
 refine wpS_bind (wpS_mono (wpS_forRange
   (I := fun x c st' => st' = st /\ ∃ l r, c = (none, l, r) /\ l <= r /\ r <= n /\ r - l <= n - x /\ (∀ i, i < l -> P i = true) /\ (∀ i, r <= i -> i < n -> P i = false))
   (Q := fun c st' => st' = st /\ ∃ l r, c = (none, l, r) /\ r <= n /\ (∀ i, i < r -> P i = true) /\ (∀ i, r <= i -> i < n -> P i = false)) ?step ?fin ?init) ?post)
 case init => exact ⟨rfl, lo, hi, rfl, h1, h2, by omega, hlo, hhi⟩
 case fin =>
   rintro c st' ⟨rfl, l, r, rfl, a1, a2, a3, a4, a5⟩
   have : l = r := by omega
   subst this
   exact ⟨rfl, l, l, rfl, a2, a4, a5⟩
 case post =>
   rintro c st' ⟨rfl, l, r, rfl, a2, a4, a5⟩
   exact wpS_pure (h r a2 a4 a5)
 case step =>
   rintro x c st' _ hx ⟨rfl, l, r, rfl, a1, a2, a3, a4, a5⟩
   dsimp only
   by_cases hge : l ≥ r
   · rw [if_pos hge]
     have : l = r := by omega
     subst this
     exact wpS_pure ⟨rfl, l, l, rfl, a2, a4, a5⟩
   · rw [if_neg hge]
     refine wpS_bind (hbe _ (by omega) _ ?_)
     cases hp : P (l + (r - l) / 2)
     · simp only [Bool.false_eq_true, if_false]
       refine wpS_pure ⟨rfl, _, _, rfl, by omega, by omega, by omega, a4, fun i b1 b2 => ?_⟩
       cases hi : P i
       · rfl
       · rw [hm _ _ b1 b2 hi] at hp; exact absurd hp (by simp)
     · simp only [if_true]
       refine wpS_pure ⟨rfl, _, _, rfl, by omega, by omega, by omega, fun i b1 => hm i _ (by omega) (by omega) hp, a5⟩
theorem gallopP {l : Bool} {key : Keyed} {arr : Array Keyed} {base hint : Nat} {Q : Option Nat -> SortSt -> Prop} (hbe : ∀ i, i < n -> ∀ Q : Option Bool -> SortSt -> Prop, Q (some (P i)) st -> wpS M A E s (bey l key arr base i) Q st)
   (hm : ∀ i j, i <= j -> j < n -> P j = true -> P i = true) (hh : hint < n)
   (h : ∀ r, r <= n -> (∀ i, i < r -> P i = true) -> (∀ i, r <= i -> i < n -> P i = false) -> Q (some r) st) : wpS M A E s (gallop' l key arr base n hint) Q st := by
 rw [gallop'_eq]
 refine wpS_bind (hbe hint hh _ ?_)
 dsimp only
 have hf : ∀ i j, i <= j -> j < n -> P i = false -> P j = false := by
   intro i j a b c
   cases hj : P j
   · rfl
   · rw [hm i j a b hj] at c; exact absurd c (by simp)
 cases hp : P hint
 · simp only [Bool.false_eq_true, if_false]
   unfold gwalk
   refine wpS_bind (wpS_mono (wpS_forRange
     (I := fun x c st' => st' = st /\ ∃ u v, c = (none, u, v) /\ u < v /\ x + 1 <= v /\ u <= hint /\ P (hint - u) = false)
     (Q := fun c st' => st' = st /\ ∃ u v, c = (none, u, v) /\ u < v /\ u <= hint /\ P (hint - u) = false /\ (v ≥ hint + 1 \/ v <= hint /\ P (hint - v) = true)) ?step ?fin ?init) ?post)
   case init => exact ⟨rfl, 0, 1, rfl, by omega, by omega, by omega, hp⟩
   case fin =>
     rintro c st' ⟨rfl, u, v, rfl, a1, a2, a3, a4⟩
     exact ⟨rfl, u, v, rfl, a1, a3, a4, .inl (by omega)⟩
   case step =>
     rintro x c st' _ hx ⟨rfl, u, v, rfl, a1, a2, a3, a4⟩
     dsimp only
     by_cases hge : v ≥ hint + 1
     · rw [if_pos hge]; exact wpS_pure ⟨rfl, u, v, rfl, a1, a3, a4, .inl hge⟩
     · rw [if_neg hge]
       refine wpS_bind (hbe _ (by omega) _ ?_)
       cases hv : P (hint - v)
       · simp only [Bool.false_eq_true, if_false]
         exact wpS_pure ⟨rfl, _, _, rfl, by omega, by omega, by omega, hv⟩
       · simp only [if_true]
         exact wpS_pure ⟨rfl, u, v, rfl, a1, a3, a4, .inr ⟨by omega, hv⟩⟩
   case post =>
     rintro c st' ⟨rfl, u, v, rfl, a1, a3, a4, a5⟩
     dsimp only
     refine gbin_ok hbe hm (by omega) (by omega) (fun i hi => ?_) (fun i h1 h2 => hf _ _ h1 h2 a4) h
     rcases a5 with a5 | ⟨a5, a6⟩
     · omega
     · exact hm i _ (by omega) (by omega) a6
 · simp only [if_true]
   unfold gwalk
   refine wpS_bind (wpS_mono (wpS_forRange
     (I := fun x c st' => st' = st /\ ∃ u v, c = (none, u, v) /\ u < v /\ x + 1 <= v /\ hint + u < n /\ P (hint + u) = true)
     (Q := fun c st' => st' = st /\ ∃ u v, c = (none, u, v) /\ u < v /\ hint + u < n /\ P (hint + u) = true /\ (v ≥ n - hint \/ hint + v < n /\ P (hint + v) = false)) ?step ?fin ?init) ?post)
   case init => exact ⟨rfl, 0, 1, rfl, by omega, by omega, by omega, hp⟩
   case fin =>
     rintro c st' ⟨rfl, u, v, rfl, a1, a2, a3, a4⟩
     exact ⟨rfl, u, v, rfl, a1, a3, a4, .inl (by omega)⟩
   case step =>
     rintro x c st' _ hx ⟨rfl, u, v, rfl, a1, a2, a3, a4⟩
     dsimp only
     by_cases hge : v ≥ n - hint
     · rw [if_pos hge]; exact wpS_pure ⟨rfl, u, v, rfl, a1, a3, a4, .inl hge⟩
     · rw [if_neg hge]
       refine wpS_bind (hbe _ (by omega) _ ?_)
       cases hv : P (hint + v)
       · simp only [Bool.not_false, if_true]
         exact wpS_pure ⟨rfl, u, v, rfl, a1, a3, a4, .inr ⟨by omega, hv⟩⟩
       · simp only [Bool.not_true, Bool.false_eq_true, if_false]
         exact wpS_pure ⟨rfl, _, _, rfl, by omega, by omega, by omega, hv⟩
   case post =>
     rintro c st' ⟨rfl, u, v, rfl, a1, a3, a4, a5⟩
     dsimp only
     refine gbin_ok hbe hm (by omega) (by omega) (fun i hi => hm i _ (by omega) a3 a4) (fun i h1 h2 => ?_) h
     rcases a5 with a5 | ⟨a5, a6⟩
     · omega
     · exact hf _ _ (by omega) h2 a6
end
structure CmpO (M : Model) (A : Around) (E : Value -> Shared -> Prop) (s : Shared) (kd : SortKind) (S : Keyed -> Prop) (κ : Keyed -> Int) : Prop where
 lt : ∀ {x y : Keyed} {st : SortSt} {Q : Option Bool -> SortSt -> Prop}, S x -> S y -> kindOf st = kd -> Q (some (decide (κ x < κ y))) st -> wpS M A E s (lt' x y) Q st
def kAt (κ : Keyed -> Int) (xs : Array Keyed) (i : Nat) : Int := match xs[i]? with
 | some p => κ p
 | none => 0
theorem yA {κ : Keyed -> Int} {xs : Array Keyed} {i : Nat} {p : Keyed} (h : xs[i]? = some p) : kAt κ xs i = κ p := by unfold kAt; rw [h]
theorem xL {κ : Keyed -> Int} {xs ys : Array Keyed} {i j : Nat} (h : xs[i]? = ys[j]?) : kAt κ xs i = kAt κ ys j := by unfold kAt; rw [h]
def yW (κ : Keyed -> Int) (xs : Array Keyed) (i j : Nat) : Prop := ∀ p q, i <= p -> p <= q -> q < j -> kAt κ xs p <= kAt κ xs q
section
variable {M : Model} {A : Around} {E : Value -> Shared -> Prop} {s : Shared} {st : SortSt} {kd : SortKind} {S : Keyed -> Prop} {κ : Keyed -> Int}
theorem zY {arr : Array Keyed} {i : Nat} {p : Keyed} {Q : Keyed -> SortSt -> Prop} (hp : arr[i]? = some p) (h : Q p st) : wpS M A E s (elem' arr i) Q st := by
 rw [elem'_eq, hp]; exact wpS_pure h
theorem yT {arr : Array Keyed} {i : Nat} (h : i < arr.size) : ∃ p, arr[i]? = some p /\ p ∈ arr.toList := ⟨arr[i], getElem?_pos _ i h, by simp⟩
theorem vZ {key : Keyed} {arr : Array Keyed} {base n hint : Nat} {Q : Option Nat -> SortSt -> Prop} (C : CmpO M A E s kd S κ) (hk : kindOf st = kd) (hS : ∀ p, p ∈ arr.toList -> S p) (hK : S key)
   (hb : base + n <= arr.size) (hs : yW κ arr base (base + n)) (hh : hint < n)
   (h : ∀ r, r <= n -> (∀ i, i < r -> kAt κ arr (base + i) <= κ key) -> (∀ i, r <= i -> i < n -> κ key < kAt κ arr (base + i)) -> Q (some r) st) : wpS M A E s (gallop' false key arr base n hint) Q st := by
 refine gallopP (P := fun i => !decide (κ key < kAt κ arr (base + i))) (fun i hi Q hQ => ?_) (fun i j hij hj => ?_) hh fun r h1 h2 h3 => h r h1 (fun i hi => ?_) fun i ha hb => ?_
 · obtain ⟨p, e, hm⟩ := yT (arr := arr) (i := base + i) (by omega)
   unfold bey
   refine wpS_bind (zY e ?_)
   simp only [Bool.false_eq_true, if_false]
   refine wpS_bind (C.lt hK (hS p hm) hk ?_)
   rw [← yA (κ := κ) e]
   exact wpS_pure hQ
 · have := hs (base + i) (base + j) (by omega) (by omega) (by omega)
   simp only [Bool.not_eq_true', decide_eq_false_iff_not]
   omega
 · have := h2 i hi
   simp only [Bool.not_eq_true', decide_eq_false_iff_not] at this
   omega
 · simpa using h3 i ha hb
theorem wA {key : Keyed} {arr : Array Keyed} {base n hint : Nat} {Q : Option Nat -> SortSt -> Prop} (C : CmpO M A E s kd S κ) (hk : kindOf st = kd) (hS : ∀ p, p ∈ arr.toList -> S p) (hK : S key)
   (hb : base + n <= arr.size) (hs : yW κ arr base (base + n)) (hh : hint < n)
   (h : ∀ r, r <= n -> (∀ i, i < r -> kAt κ arr (base + i) < κ key) -> (∀ i, r <= i -> i < n -> κ key <= kAt κ arr (base + i)) -> Q (some r) st) : wpS M A E s (gallop' true key arr base n hint) Q st := by
 refine gallopP (P := fun i => decide (kAt κ arr (base + i) < κ key)) (fun i hi Q hQ => ?_) (fun i j hij hj => ?_) hh fun r h1 h2 h3 => h r h1 (fun i hi => ?_) fun i ha hb => ?_
 · obtain ⟨p, e, hm⟩ := yT (arr := arr) (i := base + i) (by omega)
   unfold bey
   refine wpS_bind (zY e ?_)
   simp only [if_true]
   refine C.lt (hS p hm) hK hk ?_
   rw [← yA (κ := κ) e]
   exact hQ
 · have := hs (base + i) (base + j) (by omega) (by omega) (by omega)
   simp only [decide_eq_true_eq]
   omega
 · simpa using h2 i hi
 · have := h3 i ha hb
   simp only [decide_eq_false_iff_not] at this
   omega
end
end L2
namespace L2
open PySem PyProof.Rows
structure Mst (κ : Keyed -> Int) (la lb ol : List Keyed) (ia ib : Nat) : Prop where
 perm : ol.Perm (la.take ia ++ lb.take ib)
 srt : ol.Pairwise fun x y => κ x <= κ y
 la : ∀ x ∈ ol, ∀ y ∈ la.drop ia, κ x <= κ y
 lb : ∀ x ∈ ol, ∀ y ∈ lb.drop ib, κ x <= κ y
section
variable {κ : Keyed -> Int} {la lb ol : List Keyed} {ia ib : Nat}
theorem Mst.swap (h : Mst κ la lb ol ia ib) : Mst κ lb la ol ib ia := ⟨h.perm.trans List.perm_append_comm, h.srt, h.lb, h.la⟩
theorem Mst.addA (h : Mst κ la lb ol ia ib) (k : Nat) (hs : la.Pairwise fun x y => κ x <= κ y) (hb : ∀ x ∈ (la.drop ia).take k, ∀ y ∈ lb.drop ib, κ x <= κ y) : Mst κ la lb (ol ++ (la.drop ia).take k) (ia + k) ib := by
 have hd : la.drop ia = (la.drop ia).take k ++ la.drop (ia + k) := by rw [← List.drop_drop]; exact (List.take_append_drop _ _).symm
 have hp : (la.drop ia).Pairwise fun x y => κ x <= κ y := hs.sublist (List.drop_sublist _ _)
 rw [hd, List.pairwise_append] at hp
 refine ⟨?_, ?_, ?_, ?_⟩
 · rw [List.take_add]
   refine (h.perm.append_right _).trans ?_
   rw [List.append_assoc, List.append_assoc]
   exact List.Perm.append_left _ List.perm_append_comm
 · rw [List.pairwise_append]
   exact ⟨h.srt, hp.1, fun x hx y hy => h.la x hx y (List.mem_of_mem_take hy)⟩
 · intro x hx y hy
   rcases List.mem_append.mp hx with hx | hx
   · exact h.la x hx y (by rw [hd]; exact List.mem_append_right _ hy)
   · exact hp.2.2 x hx y hy
 · intro x hx y hy
   rcases List.mem_append.mp hx with hx | hx
   · exact h.lb x hx y hy
   · exact hb x hx y hy
theorem Mst.addB (h : Mst κ la lb ol ia ib) (k : Nat) (hs : lb.Pairwise fun x y => κ x <= κ y) (hb : ∀ x ∈ (lb.drop ib).take k, ∀ y ∈ la.drop ia, κ x <= κ y) : Mst κ la lb (ol ++ (lb.drop ib).take k) ia (ib + k) := (h.swap.addA k hs hb).swap
theorem Mst.nil : Mst κ la lb [] 0 0 := ⟨by simp, .nil, by simp, by simp⟩
def Mgd (κ : Keyed -> Int) (la lb ol : List Keyed) : Prop := ol.Perm (la ++ lb) /\ ol.Pairwise fun x y => κ x <= κ y
theorem Mst.fin (h : Mst κ la lb ol ia ib) (h1 : la.length <= ia) (h2 : lb.length <= ib) : Mgd κ la lb ol := by
 refine ⟨?_, h.srt⟩
 have := h.perm
 rwa [List.take_of_length_le h1, List.take_of_length_le h2] at this
theorem Mst.endA (h : Mst κ la lb ol ia ib) (hs : la.Pairwise fun x y => κ x <= κ y) (h2 : lb.length <= ib) : Mgd κ la lb (ol ++ la.drop ia) := by
 have := h.addA la.length hs (by rw [List.drop_eq_nil_of_le h2]; simp)
 rw [List.take_of_length_le (by simp)] at this
 exact this.fin (by omega) h2
theorem Mst.endB (h : Mst κ la lb ol ia ib) (hs : lb.Pairwise fun x y => κ x <= κ y) (h1 : la.length <= ia) : Mgd κ la lb (ol ++ lb.drop ib) := by
 have := h.swap.endA hs h1
 exact ⟨this.1.trans List.perm_append_comm, this.2⟩
theorem jM {l : List Keyed} {i k : Nat} {y : Keyed} (h : y ∈ (l.drop i).take k) : ∃ j, i <= j /\ j < i + k /\ j < l.length /\ l[j]? = some y := by
 obtain ⟨j, hj, e⟩ := List.mem_iff_getElem.mp h
 rw [List.length_take, List.length_drop] at hj
 refine ⟨i + j, by omega, by omega, by omega, ?_⟩
 rw [List.getElem_take, List.getElem_drop] at e
 rw [← e]
 exact List.getElem?_eq_getElem (by omega)
theorem mem_dr {l : List Keyed} {i : Nat} {y : Keyed} (h : y ∈ l.drop i) : ∃ j, i <= j /\ j < l.length /\ l[j]? = some y := by
 obtain ⟨j, hj, e⟩ := List.mem_iff_getElem.mp h
 rw [List.length_drop] at hj
 refine ⟨i + j, by omega, by omega, ?_⟩
 rw [List.getElem_drop] at e
 rw [← e]
 exact List.getElem?_eq_getElem (by omega)
theorem jF {a : Array Keyed} {j : Nat} {y : Keyed} (h : a.toList[j]? = some y) : κ y = kAt κ a j := (yA (by rw [← Array.getElem?_toList]; exact h)).symm
theorem xO {a : Array Keyed} (h : yW κ a 0 a.size) : a.toList.Pairwise fun x y => κ x <= κ y := by
 rw [List.pairwise_iff_getElem]
 intro i j hi hj hij
 have := h i j (by omega) (by omega) (by simpa using hj)
 rwa [← jF (List.getElem?_eq_getElem hi), ← jF (List.getElem?_eq_getElem hj)] at this
end
def setG : Nat -> SM Unit := sortPriv% PySem.Builtin.setMinGallop
abbrev vS (st : SortSt) (g : Nat) : SortSt := SortSt.mk' (kindOf st) (arrOf st) (pendingOf st) g (failedOf st)
theorem qQ (g : Nat) : setG g = modify fun s => vS s g := rfl
structure SamS (st st' : SortSt) : Prop where
 kind : kindOf st' = kindOf st
 arr : arrOf st' = arrOf st
 pend : pendingOf st' = pendingOf st
 fail : failedOf st' = failedOf st
theorem SamS.rfl' {st : SortSt} : SamS st st := ⟨rfl, rfl, rfl, rfl⟩
theorem SamS.gal {st st' : SortSt} (h : SamS st st') (g : Nat) : SamS st (vS st' g) := ⟨h.kind, h.arr, h.pend, h.fail⟩
def dnL (a b out : Array Keyed) (ia ib : Nat) : Array Keyed := out ++ a.extract ia a.size ++ b.extract ib b.size
def lsL (a b out : Array Keyed) (ia ib : Nat) : Array Keyed := out ++ b.extract ib b.size ++ a.extract ia a.size
abbrev LoA := Option (Array Keyed) × Array Keyed × Nat × Nat × Nat × Nat
abbrev LoB := Option (Array Keyed) × Array Keyed × Nat × Nat × Nat × Nat × Nat
abbrev LoC := Option (Array Keyed) × Array Keyed × Nat × Nat × Nat
def lo1 (a b : Array Keyed) (mg : Nat) (c : LoA) : SM (ForInStep LoA) :=
 elem' b c.2.2.2.1 >>= fun y => elem' a c.2.2.1 >>= fun x => lt' y x >>= fun o => match o with
   | some w => if w = true then elem' b c.2.2.2.1 >>= fun z =>
         if (c.2.2.2.1 + 1 == b.size) = true then pure (ForInStep.done (some (dnL a b (c.2.1.push z) c.2.2.1 (c.2.2.2.1 + 1)), c.2.1.push z, c.2.2.1, c.2.2.2.1 + 1, 0, c.2.2.2.2.2 + 1))
         else if c.2.2.2.2.2 + 1 ≥ mg then pure (ForInStep.done (none, c.2.1.push z, c.2.2.1, c.2.2.2.1 + 1, 0, c.2.2.2.2.2 + 1))
         else pure (ForInStep.yield (none, c.2.1.push z, c.2.2.1, c.2.2.2.1 + 1, 0, c.2.2.2.2.2 + 1))
       else elem' a c.2.2.1 >>= fun z =>
         if (c.2.2.1 + 1 + 1 == a.size) = true then pure (ForInStep.done (some (lsL a b (c.2.1.push z) (c.2.2.1 + 1) c.2.2.2.1), c.2.1.push z, c.2.2.1 + 1, c.2.2.2.1, c.2.2.2.2.1 + 1, 0))
         else if c.2.2.2.2.1 + 1 ≥ mg then pure (ForInStep.done (none, c.2.1.push z, c.2.2.1 + 1, c.2.2.2.1, c.2.2.2.2.1 + 1, 0))
         else pure (ForInStep.yield (none, c.2.1.push z, c.2.2.1 + 1, c.2.2.2.1, c.2.2.2.2.1 + 1, 0))
   | _ => pure (ForInStep.done (some (dnL a b c.2.1 c.2.2.1 c.2.2.2.1), c.2.1, c.2.2.1, c.2.2.2.1, c.2.2.2.2.1, c.2.2.2.2.2))
def lo2c (a b : Array Keyed) (mg : Nat) (out : Array Keyed) (ia ib ac bc : Nat) : SM (ForInStep LoB) :=
 elem' a ia >>= fun z => if (ia + 1 + 1 == a.size) = true then pure (ForInStep.done (some (lsL a b (out.push z) (ia + 1) ib), out.push z, ia + 1, ib, mg, ac, bc))
   else if (decide (ac < 7) && decide (bc < 7)) = true then pure (ForInStep.done (none, out.push z, ia + 1, ib, mg, ac, bc))
   else pure (ForInStep.yield (none, out.push z, ia + 1, ib, mg, ac, bc))
def lo2b (a b : Array Keyed) (mg : Nat) (out : Array Keyed) (ia ib ac bc : Nat) : SM (ForInStep LoB) :=
 elem' b ib >>= fun z => if (ib + 1 == b.size) = true then pure (ForInStep.done (some (dnL a b (out.push z) ia (ib + 1)), out.push z, ia, ib + 1, mg, ac, bc))
   else elem' a ia >>= fun x => gallop' true x b (ib + 1) (b.size - (ib + 1)) 0 >>= fun o => match o with
     | some k => if k > 0 then (if (ib + 1 + k == b.size) = true then pure (ForInStep.done (some (dnL a b (out.push z ++ b.extract (ib + 1) (ib + 1 + k)) ia (ib + 1 + k)), out.push z ++ b.extract (ib + 1) (ib + 1 + k), ia, ib + 1 + k, mg, ac, k))
           else lo2c a b mg (out.push z ++ b.extract (ib + 1) (ib + 1 + k)) ia (ib + 1 + k) ac k)
         else lo2c a b mg (out.push z) ia (ib + 1) ac k
     | _ => pure (ForInStep.done (some (dnL a b (out.push z) ia (ib + 1)), out.push z, ia, ib + 1, mg, ac, bc))
def lo2a (a b : Array Keyed) (mg : Nat) (out : Array Keyed) (ia ib ac bc : Nat) : SM (ForInStep LoB) :=
 setG mg >>= fun _ => elem' b ib >>= fun y => gallop' false y a ia (a.size - ia) 0 >>= fun o => match o with
   | some k => if k > 0 then (if (ia + k + 1 == a.size) = true then pure (ForInStep.done (some (lsL a b (out ++ a.extract ia (ia + k)) (ia + k) ib), out ++ a.extract ia (ia + k), ia + k, ib, mg, k, bc))
         else if (ia + k == a.size) = true then pure (ForInStep.done (some (dnL a b (out ++ a.extract ia (ia + k)) (ia + k) ib), out ++ a.extract ia (ia + k), ia + k, ib, mg, k, bc))
         else lo2b a b mg (out ++ a.extract ia (ia + k)) (ia + k) ib k bc)
       else lo2b a b mg out ia ib k bc
   | _ => pure (ForInStep.done (some (dnL a b out ia ib), out, ia, ib, mg, ac, bc))
def lo2 (a b : Array Keyed) (c : LoB) : SM (ForInStep LoB) :=
 if c.2.2.2.2.1 > 1 then lo2a a b (c.2.2.2.2.1 - 1) c.2.1 c.2.2.1 c.2.2.2.1 c.2.2.2.2.2.1 c.2.2.2.2.2.2 else lo2a a b c.2.2.2.2.1 c.2.1 c.2.2.1 c.2.2.2.1 c.2.2.2.2.2.1 c.2.2.2.2.2.2
def lo3 (a b : Array Keyed) (c : LoC) : SM (ForInStep LoC) :=
 (forIn [:a.size + b.size] ((none, c.2.1, c.2.2.1, c.2.2.2.1, 0, 0) : LoA) fun _ d => lo1 a b c.2.2.2.2 d) >>= fun d => match d.1 with
   | some r => pure (ForInStep.done (some r, d.2.1, d.2.2.1, d.2.2.2.1, c.2.2.2.2))
   | none => liftM (rule "list.sort.gallop") >>= fun _ => (forIn [:a.size + b.size] ((none, d.2.1, d.2.2.1, d.2.2.2.1, c.2.2.2.2 + 1, d.2.2.2.2.1, d.2.2.2.2.2) : LoB) fun _ e => lo2 a b e) >>= fun e => match e.1 with
     | some r => pure (ForInStep.done (some r, e.2.1, e.2.2.1, e.2.2.2.1, e.2.2.2.2.1))
     | none => setG (e.2.2.2.2.1 + 1) >>= fun _ => pure (ForInStep.yield (none, e.2.1, e.2.2.1, e.2.2.2.1, e.2.2.2.2.1 + 1))
def mergeLo' : Array Keyed -> Array Keyed -> SM (Array Keyed) := sortPriv% PySem.Builtin.mergeLo
theorem mergeLo'_eq (a b : Array Keyed) : mergeLo' a b = (liftM (rule "list.sort.merge-lo") >>= fun _ => elem' b 0 >>= fun z =>
   if (1 == b.size) = true then pure (dnL a b #[z] 0 1) else if (0 + 1 == a.size) = true then pure (lsL a b #[z] 0 1)
   else get >>= fun st => (forIn [:a.size + b.size] ((none, #[z], 0, 1, gallopOf st) : LoC) fun _ c => lo3 a b c) >>= fun c => match c.1 with
     | some r => pure r
     | none => liftM (unsupported "internal:list.sort.merge-bound")) := by
 show (_ >>= _ : SM _) = _
 congr 1; funext u
 show (_ >>= _ : SM _) = _
 congr 1; funext z
 by_cases h : (1 == b.size) = true
 · exact (if_pos h).trans (if_pos h).symm
 · refine (if_neg h).trans (Eq.trans ?_ (if_neg h).symm)
   by_cases h2 : (0 + 1 == a.size) = true
   · exact (if_pos h2).trans (if_pos h2).symm
   · refine (if_neg h2).trans (Eq.trans ?_ (if_neg h2).symm)
     show (_ >>= _ : SM _) = _
     congr 1; funext st
     show (_ >>= _ : SM _) = _
     congr 1
     · congr 1; funext x c
       delta lo3
       show (_ >>= _ : SM _) = _
       congr 1; funext d
       obtain ⟨r, d⟩ := d
       cases r
       · show (_ >>= _ : SM _) = _
         congr 1; funext v
         show (_ >>= _ : SM _) = _
         congr 1; funext d
         obtain ⟨r, d⟩ := d
         cases r <;> rfl
       · rfl
     · funext c
       obtain ⟨r, d⟩ := c
       cases r <;> rfl
end L2
namespace L2
open PySem PyProof.Rows
structure MrH (S : Keyed -> Prop) (κ : Keyed -> Int) (a b : Array Keyed) : Prop where
 sa : yW κ a 0 a.size
 sb : yW κ b 0 b.size
 ma : ∀ p, p ∈ a.toList -> S p
 mb : ∀ p, p ∈ b.toList -> S p
 na : 1 <= a.size
 nb : 1 <= b.size
 b0 : ∀ i, i < a.size -> kAt κ b 0 < kAt κ a i
 al : ∀ j, j < b.size -> kAt κ b j < kAt κ a (a.size - 1)
section
variable {S : Keyed -> Prop} {κ : Keyed -> Int} {a b out : Array Keyed} {ia ib : Nat}
abbrev MsA (κ : Keyed -> Int) (a b out : Array Keyed) (ia ib : Nat) : Prop := Mst κ a.toList b.toList out.toList ia ib
abbrev MgA (κ : Keyed -> Int) (a b out : Array Keyed) : Prop := Mgd κ a.toList b.toList out.toList
theorem ext_l (a : Array Keyed) (i k : Nat) : (a.extract i (i + k)).toList = (a.toList.drop i).take k := by
 rw [Array.toList_extract, List.extract_eq_take_drop, Nat.add_sub_cancel_left]
theorem ext_e (a : Array Keyed) (i : Nat) : (a.extract i a.size).toList = a.toList.drop i := by
 rw [Array.toList_extract, List.extract_eq_take_drop, List.take_of_length_le (by simp)]
theorem one_l {l : List Keyed} {i : Nat} {z : Keyed} (h : l[i]? = some z) : [z] = (l.drop i).take 1 := by
 obtain ⟨hi, e⟩ := List.getElem?_eq_some_iff.mp h
 rw [List.drop_eq_getElem_cons hi, e]; rfl
theorem MsA.appA (H : MrH S κ a b) (h : MsA κ a b out ia ib) {k : Nat} (hq : ∀ i, ia <= i -> i < ia + k -> ∀ j, ib <= j -> j < b.size -> kAt κ a i <= kAt κ b j) : MsA κ a b (out ++ a.extract ia (ia + k)) (ia + k) ib := by
 have := Mst.addA h k (xO H.sa) fun x hx y hy => by
   obtain ⟨i, h1, h2, h3, h4⟩ := jM hx
   obtain ⟨j, g1, g2, g3⟩ := mem_dr hy
   rw [jF (κ := κ) h4, jF (κ := κ) g3]
   exact hq i h1 h2 j g1 (by simpa using g2)
 rw [MsA, Array.toList_append, ext_l]; exact this
theorem MsA.appB (H : MrH S κ a b) (h : MsA κ a b out ia ib) {k : Nat} (hq : ∀ j, ib <= j -> j < ib + k -> ∀ i, ia <= i -> i < a.size -> kAt κ b j <= kAt κ a i) : MsA κ a b (out ++ b.extract ib (ib + k)) ia (ib + k) := by
 have := Mst.addB h k (xO H.sb) fun x hx y hy => by
   obtain ⟨i, h1, h2, h3, h4⟩ := jM hx
   obtain ⟨j, g1, g2, g3⟩ := mem_dr hy
   rw [jF (κ := κ) h4, jF (κ := κ) g3]
   exact hq i h1 h2 j g1 (by simpa using g2)
 rw [MsA, Array.toList_append, ext_l]; exact this
theorem vU (o : Array Keyed) (z : Keyed) : (o.push z).toList = o.toList ++ [z] := by simp
theorem MsA.pushA (H : MrH S κ a b) (h : MsA κ a b out ia ib) {z : Keyed} (hz : a[ia]? = some z) (hq : ∀ j, ib <= j -> j < b.size -> κ z <= kAt κ b j) : MsA κ a b (out.push z) (ia + 1) ib := by
 have hz' : a.toList[ia]? = some z := by rw [Array.getElem?_toList]; exact hz
 have := h.appA H (k := 1) fun i h1 h2 j g1 g2 => by
   have : i = ia := by omega
   subst this
   rw [yA hz]; exact hq j g1 g2
 rw [MsA, Array.toList_append, ext_l, ← one_l hz'] at this
 rw [MsA, vU]; exact this
theorem MsA.pushB (H : MrH S κ a b) (h : MsA κ a b out ia ib) {z : Keyed} (hz : b[ib]? = some z) (hq : ∀ i, ia <= i -> i < a.size -> κ z <= kAt κ a i) : MsA κ a b (out.push z) ia (ib + 1) := by
 have hz' : b.toList[ib]? = some z := by rw [Array.getElem?_toList]; exact hz
 have := h.appB H (k := 1) fun i h1 h2 j g1 g2 => by
   have : i = ib := by omega
   subst this
   rw [yA hz]; exact hq j g1 g2
 rw [MsA, Array.toList_append, ext_l, ← one_l hz'] at this
 rw [MsA, vU]; exact this
theorem MsA.dn (H : MrH S κ a b) (h : MsA κ a b out ia ib) (hb : ib = b.size) : MgA κ a b (dnL a b out ia ib) := by
 have := Mst.endA h (xO H.sa) (by simp; omega)
 rw [MgA, dnL, Array.toList_append, Array.toList_append, ext_e, ext_e, List.drop_eq_nil_of_le (as := b.toList) (by simp; omega), List.append_nil]
 exact this
theorem MsA.ls (H : MrH S κ a b) (h : MsA κ a b out ia ib) (ha : ia + 1 = a.size) : MgA κ a b (lsL a b out ia ib) := by
 have h1 := Mst.addB h b.size (xO H.sb) fun x hx y hy => by
   obtain ⟨i, h1, h2, h3, h4⟩ := jM hx
   obtain ⟨j, g1, g2, g3⟩ := mem_dr hy
   rw [jF (κ := κ) h4, jF (κ := κ) g3]
   have : j = a.size - 1 := by simp at g2; omega
   subst this
   exact Int.le_of_lt (H.al i (by simpa using h3))
 rw [List.take_of_length_le (l := b.toList.drop ib) (by simp)] at h1
 have := h1.endA (xO H.sa) (by simp)
 rw [MgA, lsL, Array.toList_append, Array.toList_append, ext_e, ext_e]
 exact this
end
def LoN (κ : Keyed -> Int) (a b : Array Keyed) (N : Nat) (r : Option (Array Keyed)) (out : Array Keyed) (ia ib : Nat) : Prop :=
 r = none /\ MsA κ a b out ia ib /\ ia + 1 < a.size /\ ib < b.size /\ N <= ia + ib
def LoG (κ : Keyed -> Int) (a b : Array Keyed) (N : Nat) (r : Option (Array Keyed)) (out : Array Keyed) (ia ib : Nat) : Prop :=
 (∃ x, r = some x /\ MgA κ a b x) \/ LoN κ a b N r out ia ib
theorem lon {κ : Keyed -> Int} {a b out : Array Keyed} {N ia ib : Nat} (h1 : MsA κ a b out ia ib) (h2 : ia + 1 < a.size) (h3 : ib < b.size) (h4 : N <= ia + ib) : LoN κ a b N none out ia ib := ⟨rfl, h1, h2, h3, h4⟩
section
variable {M : Model} {A : Around} {E : Value -> Shared -> Prop} {s : Shared} {st : SortSt} {kd : SortKind} {S : Keyed -> Prop} {κ : Keyed -> Int} {a b : Array Keyed}
theorem lo1_ok (C : CmpO M A E s kd S κ) (H : MrH S κ a b) (hk : kindOf st = kd) {N mg ia ib ac bc : Nat} {out : Array Keyed} (h : LoN κ a b N none out ia ib) :
   wpS M A E s (lo1 a b mg (none, out, ia, ib, ac, bc)) (fun r st' => st' = st /\ match r with
     | .done c => LoG κ a b (N + 1) c.1 c.2.1 c.2.2.1 c.2.2.2.1
     | .yield c => LoN κ a b (N + 1) c.1 c.2.1 c.2.2.1 c.2.2.2.1) st := by
 obtain ⟨-, h1, h2, h3, h4⟩ := h
 obtain ⟨x, ex, hx⟩ := yT (arr := a) (i := ia) (by omega)
 obtain ⟨y, ey, hy⟩ := yT (arr := b) (i := ib) (by omega)
 unfold lo1
 refine wpS_bind (zY ey (wpS_bind (zY ex (wpS_bind (C.lt (H.mb y hy) (H.ma x hx) hk ?_)))))
 have kx := yA (κ := κ) ex
 have ky := yA (κ := κ) ey
 by_cases hl : κ y < κ x
 · simp only [hl, decide_true, if_true]
   refine wpS_bind (zY ey ?_)
   have hn : MsA κ a b (out.push y) ia (ib + 1) := h1.pushB H ey fun i g1 g2 => by
     have := H.sa ia i (by omega) g1 g2
     omega
   by_cases he : ib + 1 = b.size
   · rw [if_pos (by simpa using he)]
     exact wpS_pure ⟨rfl, .inl ⟨_, rfl, hn.dn H he⟩⟩
   · rw [if_neg (by simpa using he)]
     split
     · exact wpS_pure ⟨rfl, .inr (lon (N := N + 1) hn (h2) (by omega) (by omega) :)⟩
     · exact wpS_pure ⟨rfl, (lon (N := N + 1) hn (h2) (by omega) (by omega) :)⟩
 · simp only [hl, decide_false, Bool.false_eq_true, if_false]
   refine wpS_bind (zY ex ?_)
   have hn : MsA κ a b (out.push x) (ia + 1) ib := h1.pushA H ex fun i g1 g2 => by
     have := H.sb ib i (by omega) g1 g2
     omega
   by_cases he : ia + 1 + 1 = a.size
   · rw [if_pos (by simpa using he)]
     exact wpS_pure ⟨rfl, .inl ⟨_, rfl, hn.ls H he⟩⟩
   · rw [if_neg (by simpa using he)]
     split
     · exact wpS_pure ⟨rfl, .inr (lon (N := N + 1) hn (by omega) (by omega) (by omega) :)⟩
     · exact wpS_pure ⟨rfl, (lon (N := N + 1) hn (by omega) (by omega) (by omega) :)⟩
abbrev Lo2Q (κ : Keyed -> Int) (a b : Array Keyed) (N : Nat) (st : SortSt) (r : ForInStep LoB) (st' : SortSt) : Prop := SamS st st' /\ match r with
     | .done c => LoG κ a b N c.1 c.2.1 c.2.2.1 c.2.2.2.1
     | .yield c => LoN κ a b N c.1 c.2.1 c.2.2.1 c.2.2.2.1
theorem lo2c_ok {st0 : SortSt} (H : MrH S κ a b) {N mg ia ib ac bc : Nat} {out : Array Keyed} (hs : SamS st0 st) (h1 : MsA κ a b out ia ib) (h2 : ia + 1 < a.size) (h3 : ib < b.size) (h4 : N <= ia + ib)
   (hq : ∀ j, ib <= j -> j < b.size -> kAt κ a ia <= kAt κ b j) : wpS M A E s (lo2c a b mg out ia ib ac bc) (Lo2Q κ a b N st0) st := by
 obtain ⟨x, ex, hx⟩ := yT (arr := a) (i := ia) (by omega)
 unfold lo2c
 refine wpS_bind (zY ex ?_)
 have kx := yA (κ := κ) ex
 have hn : MsA κ a b (out.push x) (ia + 1) ib := h1.pushA H ex fun i g1 g2 => by rw [← kx]; exact hq i g1 g2
 by_cases he : ia + 1 + 1 = a.size
 · rw [if_pos (by simpa using he)]
   exact wpS_pure ⟨hs, .inl ⟨_, rfl, hn.ls H he⟩⟩
 · rw [if_neg (by simpa using he)]
   split
   · exact wpS_pure ⟨hs, .inr (lon (N := N) hn (by omega) (by omega) (by omega) :)⟩
   · exact wpS_pure ⟨hs, (lon (N := N) hn (by omega) (by omega) (by omega) :)⟩
theorem lo2b_ok {st0 : SortSt} (C : CmpO M A E s kd S κ) (H : MrH S κ a b) (hk : kindOf st = kd) {N mg ia ib ac bc : Nat} {out : Array Keyed} (hs : SamS st0 st) (h1 : MsA κ a b out ia ib) (h2 : ia + 1 < a.size) (h3 : ib < b.size) (h4 : N <= ia + ib)
   (hq : ∀ i, ia <= i -> i < a.size -> kAt κ b ib <= kAt κ a i) : wpS M A E s (lo2b a b mg out ia ib ac bc) (Lo2Q κ a b N st0) st := by
 obtain ⟨y, ey, hy⟩ := yT (arr := b) (i := ib) (by omega)
 obtain ⟨x, ex, hx⟩ := yT (arr := a) (i := ia) (by omega)
 unfold lo2b
 refine wpS_bind (zY ey ?_)
 have ky := yA (κ := κ) ey
 have kx := yA (κ := κ) ex
 have hn : MsA κ a b (out.push y) ia (ib + 1) := h1.pushB H ey fun i g1 g2 => by rw [← ky]; exact hq i g1 g2
 by_cases he : ib + 1 = b.size
 · rw [if_pos (by simpa using he)]
   exact wpS_pure ⟨hs, .inl ⟨_, rfl, hn.dn H he⟩⟩
 · rw [if_neg (by simpa using he)]
   refine wpS_bind (zY ex ?_)
   refine wpS_bind (wA C hk H.mb (H.ma x hx) (by omega) (fun p q r1 r2 r3 => H.sb p q (by omega) r2 (by omega)) (by omega) fun k g1 g2 g3 => ?_)
   dsimp only
   have hm : MsA κ a b (out.push y ++ b.extract (ib + 1) (ib + 1 + k)) ia (ib + 1 + k) := hn.appB H fun j r1 r2 i r3 r4 => by
     have := g2 (j - (ib + 1)) (by omega)
     rw [show ib + 1 + (j - (ib + 1)) = j by omega] at this
     have := H.sa ia i (by omega) r3 r4
     omega
   have hr : ∀ j, ib + 1 + k <= j -> j < b.size -> kAt κ a ia <= kAt κ b j := fun j r1 r2 => by
     have := g3 (j - (ib + 1)) (by omega) (by omega)
     rw [show ib + 1 + (j - (ib + 1)) = j by omega] at this
     omega
   by_cases hz : k > 0
   · rw [if_pos hz]
     by_cases he : ib + 1 + k = b.size
     · rw [if_pos (by simpa using he)]
       exact wpS_pure ⟨hs, .inl ⟨_, rfl, hm.dn H he⟩⟩
     · rw [if_neg (by simpa using he)]
       exact lo2c_ok H hs hm h2 (by omega) (by omega) hr
   · rw [if_neg hz]
     have : k = 0 := by omega
     subst this
     exact lo2c_ok H hs hn h2 (by omega) (by omega) hr
theorem lo2a_ok {st0 : SortSt} (C : CmpO M A E s kd S κ) (H : MrH S κ a b) (hk : kindOf st = kd) {N mg ia ib ac bc : Nat} {out : Array Keyed} (hs : SamS st0 st) (h1 : MsA κ a b out ia ib) (h2 : ia + 1 < a.size) (h3 : ib < b.size) (h4 : N <= ia + ib) :
   wpS M A E s (lo2a a b mg out ia ib ac bc) (Lo2Q κ a b N st0) st := by
 obtain ⟨y, ey, hy⟩ := yT (arr := b) (i := ib) (by omega)
 unfold lo2a
 rw [qQ]
 refine wpS_bind (wpS_modify (wpS_bind (zY ey ?_)))
 have hs' := hs.gal mg
 have hk' : kindOf (vS st mg) = kd := hk
 have ky := yA (κ := κ) ey
 refine wpS_bind (vZ C hk' H.ma (H.mb y hy) (by omega) (fun p q r1 r2 r3 => H.sa p q (by omega) r2 (by omega)) (by omega) fun k g1 g2 g3 => ?_)
 dsimp only
 have hl := H.al ib h3
 have hkl : ia + k < a.size := by
   by_cases hc : ia + k < a.size
   · exact hc
   · have := g2 (a.size - 1 - ia) (by omega)
     rw [show ia + (a.size - 1 - ia) = a.size - 1 by omega] at this
     omega
 have hm : MsA κ a b (out ++ a.extract ia (ia + k)) (ia + k) ib := h1.appA H fun j r1 r2 i r3 r4 => by
   have := g2 (j - ia) (by omega)
   rw [show ia + (j - ia) = j by omega] at this
   have := H.sb ib i (by omega) r3 r4
   omega
 have hr : ∀ j, ia + k <= j -> j < a.size -> kAt κ b ib <= kAt κ a j := fun j r1 r2 => by
   have := g3 (j - ia) (by omega) (by omega)
   rw [show ia + (j - ia) = j by omega] at this
   omega
 by_cases hz : k > 0
 · rw [if_pos hz]
   by_cases he : ia + k + 1 = a.size
   · rw [if_pos (by simpa using he)]
     exact wpS_pure ⟨hs', .inl ⟨_, rfl, hm.ls H he⟩⟩
   · rw [if_neg (by simpa using he), if_neg (by simp; omega)]
     exact lo2b_ok C H hk' hs' hm (by omega) h3 (by omega) hr
 · rw [if_neg hz]
   have : k = 0 := by omega
   subst this
   exact lo2b_ok C H hk' hs' h1 (by omega) h3 (by omega) hr
theorem lo2_ok {st0 : SortSt} (C : CmpO M A E s kd S κ) (H : MrH S κ a b) (hk : kindOf st = kd) {N mg ia ib ac bc : Nat} {out : Array Keyed} (hs : SamS st0 st) (h : LoN κ a b N none out ia ib) :
   wpS M A E s (lo2 a b (none, out, ia, ib, mg, ac, bc)) (Lo2Q κ a b N st0) st := by
 obtain ⟨-, h1, h2, h3, h4⟩ := h
 unfold lo2
 dsimp only
 split
 · exact lo2a_ok C H hk hs h1 h2 h3 h4
 · exact lo2a_ok C H hk hs h1 h2 h3 h4
theorem lo3_ok {st0 : SortSt} (C : CmpO M A E s kd S κ) (H : MrH S κ a b) (hk0 : kindOf st0 = kd) {N mg ia ib : Nat} {out : Array Keyed} (hs : SamS st0 st) (h : LoN κ a b N none out ia ib) :
   wpS M A E s (lo3 a b (none, out, ia, ib, mg)) (fun r st' => SamS st0 st' /\ match r with
     | .done c => ∃ x, c.1 = some x /\ MgA κ a b x
     | .yield c => LoN κ a b (N + 1) c.1 c.2.1 c.2.2.1 c.2.2.2.1) st := by
 unfold lo3
 dsimp only
 refine wpS_bind (wpS_mono (wpS_forRange
   (I := fun x c st' => st' = st /\ LoN κ a b (N + x) c.1 c.2.1 c.2.2.1 c.2.2.2.1)
   (Q := fun c st' => st' = st /\ LoG κ a b (N + 1) c.1 c.2.1 c.2.2.1 c.2.2.2.1) ?step ?fin ⟨rfl, h⟩) ?post)
 case fin =>
   rintro c st' ⟨rfl, h1, h2, h3, h4, h5⟩
   have := H.na
   exact ⟨rfl, .inr ⟨h1, h2, h3, h4, by omega⟩⟩
 case step =>
   rintro x ⟨r, out, ia, ib, ac, bc⟩ st' _ hx ⟨rfl, hc⟩
   have hr : r = none := hc.1
   subst hr
   refine wpS_mono (lo1_ok C H (hs.kind.trans hk0) hc) ?_
   rintro (c | c) st'' ⟨rfl, h'⟩
   · refine ⟨rfl, ?_⟩
     rcases h' with h' | ⟨a1, a2, a3, a4, a5⟩
     · exact .inl h'
     · exact .inr ⟨a1, a2, a3, a4, by omega⟩
   · exact ⟨rfl, h'⟩
 case post =>
   rintro ⟨r, out, ia, ib, ac, bc⟩ st' ⟨rfl, hc⟩
   rcases hc with ⟨x, hx, hg⟩ | hc
   · have hx : r = some x := hx
     subst hx
     exact wpS_pure ⟨hs, x, rfl, hg⟩
   · have hr : r = none := hc.1
     subst hr
     dsimp only
     refine wpS_bind (wpS_lift (wpAny_rule ⟨rfl, ?_⟩))
     refine wpS_bind (wpS_mono (wpS_forRange
       (I := fun x c st' => SamS st0 st' /\ LoN κ a b (N + 1) c.1 c.2.1 c.2.2.1 c.2.2.2.1)
       (Q := fun c st' => SamS st0 st' /\ LoG κ a b (N + 1) c.1 c.2.1 c.2.2.1 c.2.2.2.1) ?_ ?_ ⟨hs, hc⟩) ?_)
     · rintro x ⟨r, out, ia, ib, mg, ac, bc⟩ st' _ hx ⟨hs', hc⟩
       have hr : r = none := hc.1
       subst hr
       refine wpS_mono (lo2_ok C H (hs'.kind.trans hk0) hs' hc) ?_
       rintro (c | c) st'' h' <;> exact h'
     · rintro c st' ⟨h1, h2⟩
       exact ⟨h1, .inr h2⟩
     · rintro ⟨r, out, ia, ib, mg, ac, bc⟩ st' ⟨hs', hc⟩
       rcases hc with ⟨x, hx, hg⟩ | hc
       · have hx : r = some x := hx
         subst hx
         exact wpS_pure ⟨hs', x, rfl, hg⟩
       · have hr : r = none := hc.1
         subst hr
         dsimp only
         rw [qQ]
         exact wpS_bind (wpS_modify (wpS_pure ⟨hs'.gal _, hc⟩))
theorem mergeLo_ok (C : CmpO M A E s kd S κ) (H : MrH S κ a b) (hk : kindOf st = kd) {Q : Array Keyed -> SortSt -> Prop} (h : ∀ out st', SamS st st' -> MgA κ a b out -> Q out st') : wpS M A E s (mergeLo' a b) Q st := by
 have h0 := H.na
 have h0' := H.nb
 obtain ⟨y, ey, hy⟩ := yT (arr := b) (i := 0) (by omega)
 rw [mergeLo'_eq]
 refine wpS_bind (wpS_lift (wpAny_rule ⟨rfl, ?_⟩))
 refine wpS_bind (zY ey ?_)
 have ky := yA (κ := κ) ey
 have hn : MsA κ a b #[y] 0 1 := by
   have := MsA.pushB (out := #[]) H Mst.nil ey fun i g1 g2 => by
     have := H.b0 i g2
     omega
   simpa using this
 by_cases he : 1 = b.size
 · rw [if_pos (by simpa using he)]
   exact wpS_pure (h _ _ .rfl' (hn.dn H he))
 · rw [if_neg (by simpa using he)]
   by_cases he2 : 0 + 1 = a.size
   · rw [if_pos (by simpa using he2)]
     exact wpS_pure (h _ _ .rfl' (hn.ls H he2))
   · rw [if_neg (by simpa using he2)]
     refine wpS_bind (wpS_get ?_)
     refine wpS_bind (wpS_mono (wpS_forRange
       (I := fun x c st' => SamS st st' /\ LoN κ a b (x + 1) c.1 c.2.1 c.2.2.1 c.2.2.2.1)
       (Q := fun c st' => SamS st st' /\ ∃ x, c.1 = some x /\ MgA κ a b x) ?_ ?_ ⟨.rfl', (lon (N := 0 + 1) hn (by omega) (by omega) (by omega) :)⟩) ?_)
     · rintro x ⟨r, out, ia, ib, mg⟩ st' _ hx ⟨hs', hc⟩
       have hr : r = none := hc.1
       subst hr
       refine wpS_mono (lo3_ok C H hk hs' hc) ?_
       rintro (c | c) st'' ⟨h1, h2⟩
       · exact ⟨h1, h2⟩
       · exact ⟨h1, h2⟩
     · rintro c st' ⟨h1, -, h2, h3, h4, h5⟩
       omega
     · rintro ⟨r, c⟩ st' ⟨h1, x, hx, hg⟩
       have hx : r = some x := hx
       subst hx
       exact wpS_pure (h _ _ h1 hg)
end
end L2
namespace L2
open PySem PyProof.Rows
def dnH (a b out : Array Keyed) (na nb : Nat) : Array Keyed := a.extract 0 na ++ b.extract 0 nb ++ out.reverse
def fsH (a b out : Array Keyed) (na nb : Nat) : Array Keyed := b.extract 0 nb ++ a.extract 0 na ++ out.reverse
abbrev HiA := Option (Array Keyed) × Nat × Nat × Array Keyed × Nat × Nat
abbrev HiB := Option (Array Keyed) × Nat × Nat × Array Keyed × Nat × Nat × Nat
abbrev HiC := Option (Array Keyed) × Nat × Nat × Array Keyed × Nat
def hi1 (a b : Array Keyed) (mg : Nat) (c : HiA) : SM (ForInStep HiA) :=
 elem' b (c.2.2.1 - 1) >>= fun y => elem' a (c.2.1 - 1) >>= fun x => lt' y x >>= fun o => match o with
   | some w => if w = true then elem' a (c.2.1 - 1) >>= fun z =>
         if (c.2.1 - 1 == 0) = true then pure (ForInStep.done (some (dnH a b (c.2.2.2.1.push z) (c.2.1 - 1) c.2.2.1), c.2.1 - 1, c.2.2.1, c.2.2.2.1.push z, c.2.2.2.2.1 + 1, 0))
         else if c.2.2.2.2.1 + 1 ≥ mg then pure (ForInStep.done (none, c.2.1 - 1, c.2.2.1, c.2.2.2.1.push z, c.2.2.2.2.1 + 1, 0))
         else pure (ForInStep.yield (none, c.2.1 - 1, c.2.2.1, c.2.2.2.1.push z, c.2.2.2.2.1 + 1, 0))
       else elem' b (c.2.2.1 - 1) >>= fun z =>
         if (c.2.2.1 - 1 == 1) = true then pure (ForInStep.done (some (fsH a b (c.2.2.2.1.push z) c.2.1 (c.2.2.1 - 1)), c.2.1, c.2.2.1 - 1, c.2.2.2.1.push z, 0, c.2.2.2.2.2 + 1))
         else if c.2.2.2.2.2 + 1 ≥ mg then pure (ForInStep.done (none, c.2.1, c.2.2.1 - 1, c.2.2.2.1.push z, 0, c.2.2.2.2.2 + 1))
         else pure (ForInStep.yield (none, c.2.1, c.2.2.1 - 1, c.2.2.2.1.push z, 0, c.2.2.2.2.2 + 1))
   | _ => pure (ForInStep.done (some (dnH a b c.2.2.2.1 c.2.1 c.2.2.1), c.2.1, c.2.2.1, c.2.2.2.1, c.2.2.2.2.1, c.2.2.2.2.2))
def hi2c (a b : Array Keyed) (mg : Nat) (out : Array Keyed) (na nb ac bc : Nat) : SM (ForInStep HiB) :=
 elem' a (na - 1) >>= fun z => if (na - 1 == 0) = true then pure (ForInStep.done (some (dnH a b (out.push z) (na - 1) nb), na - 1, nb, out.push z, mg, ac, bc))
   else if (decide (ac < 7) && decide (bc < 7)) = true then pure (ForInStep.done (none, na - 1, nb, out.push z, mg, ac, bc))
   else pure (ForInStep.yield (none, na - 1, nb, out.push z, mg, ac, bc))
def hi2b (a b : Array Keyed) (mg : Nat) (out : Array Keyed) (na nb ac bc : Nat) : SM (ForInStep HiB) :=
 elem' b (nb - 1) >>= fun z => if (nb - 1 == 1) = true then pure (ForInStep.done (some (fsH a b (out.push z) na (nb - 1)), na, nb - 1, out.push z, mg, ac, bc))
   else elem' a (na - 1) >>= fun x => gallop' true x b 0 (nb - 1) (nb - 1 - 1) >>= fun o => match o with
     | some k => if nb - 1 - k > 0 then (if (k == 1) = true then pure (ForInStep.done (some (fsH a b (out.push z ++ (b.extract k (nb - 1)).reverse) na k), na, k, out.push z ++ (b.extract k (nb - 1)).reverse, mg, ac, nb - 1 - k))
           else if (k == 0) = true then pure (ForInStep.done (some (dnH a b (out.push z ++ (b.extract k (nb - 1)).reverse) na k), na, k, out.push z ++ (b.extract k (nb - 1)).reverse, mg, ac, nb - 1 - k))
           else hi2c a b mg (out.push z ++ (b.extract k (nb - 1)).reverse) na k ac (nb - 1 - k))
         else hi2c a b mg (out.push z) na (nb - 1) ac (nb - 1 - k)
     | _ => pure (ForInStep.done (some (dnH a b (out.push z) na (nb - 1)), na, nb - 1, out.push z, mg, ac, bc))
def hi2a (a b : Array Keyed) (mg : Nat) (out : Array Keyed) (na nb ac bc : Nat) : SM (ForInStep HiB) :=
 setG mg >>= fun _ => elem' b (nb - 1) >>= fun y => gallop' false y a 0 na (na - 1) >>= fun o => match o with
   | some k => if na - k > 0 then (if (k == 0) = true then pure (ForInStep.done (some (dnH a b (out ++ (a.extract k na).reverse) k nb), k, nb, out ++ (a.extract k na).reverse, mg, na - k, bc))
         else hi2b a b mg (out ++ (a.extract k na).reverse) k nb (na - k) bc)
       else hi2b a b mg out na nb (na - k) bc
   | _ => pure (ForInStep.done (some (dnH a b out na nb), na, nb, out, mg, ac, bc))
def hi2 (a b : Array Keyed) (c : HiB) : SM (ForInStep HiB) :=
 if c.2.2.2.2.1 > 1 then hi2a a b (c.2.2.2.2.1 - 1) c.2.2.2.1 c.2.1 c.2.2.1 c.2.2.2.2.2.1 c.2.2.2.2.2.2 else hi2a a b c.2.2.2.2.1 c.2.2.2.1 c.2.1 c.2.2.1 c.2.2.2.2.2.1 c.2.2.2.2.2.2
def hi3 (a b : Array Keyed) (c : HiC) : SM (ForInStep HiC) :=
 (forIn [:a.size + b.size] ((none, c.2.1, c.2.2.1, c.2.2.2.1, 0, 0) : HiA) fun _ d => hi1 a b c.2.2.2.2 d) >>= fun d => match d.1 with
   | some r => pure (ForInStep.done (some r, d.2.1, d.2.2.1, d.2.2.2.1, c.2.2.2.2))
   | none => liftM (rule "list.sort.gallop") >>= fun _ => (forIn [:a.size + b.size] ((none, d.2.1, d.2.2.1, d.2.2.2.1, c.2.2.2.2 + 1, d.2.2.2.2.1, d.2.2.2.2.2) : HiB) fun _ e => hi2 a b e) >>= fun e => match e.1 with
     | some r => pure (ForInStep.done (some r, e.2.1, e.2.2.1, e.2.2.2.1, e.2.2.2.2.1))
     | none => setG (e.2.2.2.2.1 + 1) >>= fun _ => pure (ForInStep.yield (none, e.2.1, e.2.2.1, e.2.2.2.1, e.2.2.2.2.1 + 1))
def mergeHi' : Array Keyed -> Array Keyed -> SM (Array Keyed) := sortPriv% PySem.Builtin.mergeHi
theorem mergeHi'_eq (a b : Array Keyed) : mergeHi' a b = (liftM (rule "list.sort.merge-hi") >>= fun _ => elem' a (a.size - 1) >>= fun z =>
   if (a.size - 1 == 0) = true then pure (dnH a b #[z] (a.size - 1) b.size) else if (b.size == 1) = true then pure (fsH a b #[z] (a.size - 1) b.size)
   else get >>= fun st => (forIn [:a.size + b.size] ((none, a.size - 1, b.size, #[z], gallopOf st) : HiC) fun _ c => hi3 a b c) >>= fun c => match c.1 with
     | some r => pure r
     | none => liftM (unsupported "internal:list.sort.merge-bound")) := by
 show (_ >>= _ : SM _) = _
 congr 1; funext u
 show (_ >>= _ : SM _) = _
 congr 1; funext z
 by_cases h : (a.size - 1 == 0) = true
 · exact (if_pos h).trans (if_pos h).symm
 · refine (if_neg h).trans (Eq.trans ?_ (if_neg h).symm)
   by_cases h2 : (b.size == 1) = true
   · exact (if_pos h2).trans (if_pos h2).symm
   · refine (if_neg h2).trans (Eq.trans ?_ (if_neg h2).symm)
     show (_ >>= _ : SM _) = _
     congr 1; funext st
     show (_ >>= _ : SM _) = _
     congr 1
     · congr 1; funext x c
       delta hi3
       show (_ >>= _ : SM _) = _
       congr 1; funext d
       obtain ⟨r, d⟩ := d
       cases r
       · show (_ >>= _ : SM _) = _
         congr 1; funext v
         show (_ >>= _ : SM _) = _
         congr 1; funext d
         obtain ⟨r, d⟩ := d
         cases r <;> rfl
       · rfl
     · funext c
       obtain ⟨r, d⟩ := c
       cases r <;> rfl
end L2
namespace L2
open PySem PyProof.Rows
abbrev MsH (κ : Keyed -> Int) (a b out : Array Keyed) (na nb : Nat) : Prop := Mst (fun x => - κ x) a.toList.reverse b.toList.reverse out.toList (a.size - na) (b.size - nb)
section
variable {S : Keyed -> Prop} {κ : Keyed -> Int} {a b out : Array Keyed} {na nb : Nat}
theorem uA {l : List Keyed} (h : l.Pairwise fun x y => κ x <= κ y) : l.reverse.Pairwise fun x y => - κ x <= - κ y := by
 rw [List.pairwise_reverse]
 exact h.imp fun h => by omega
theorem jA {l : List Keyed} {n : Nat} (h : n <= l.length) : l.reverse.drop (l.length - n) = (l.take n).reverse := by
 rw [List.drop_reverse, show l.length - (l.length - n) = n by omega]
theorem rev_seg {l : List Keyed} {n k : Nat} (h : n <= l.length) (hk : k <= n) : (l.reverse.drop (l.length - n)).take (n - k) = ((l.drop k).take (n - k)).reverse := by
 rw [jA h, List.take_reverse, List.length_take, show min n l.length - (n - k) = k by omega, List.drop_take]
theorem rext_l {a : Array Keyed} {k n : Nat} (h : n <= a.size) (hk : k <= n) : ((a.extract k n).reverse).toList = (a.toList.reverse.drop (a.size - n)).take (n - k) := by
 rw [Array.toList_reverse, Array.toList_extract, List.extract_eq_take_drop, ← Array.length_toList, rev_seg (by simpa using h) hk]
theorem rmem_seg {a : Array Keyed} {k n : Nat} {x : Keyed} (h : n <= a.size) (hk : k <= n) (hx : x ∈ (a.toList.reverse.drop (a.size - n)).take (n - k)) : ∃ i, k <= i /\ i < n /\ κ x = kAt κ a i := by
 rw [← Array.length_toList, rev_seg (by simpa using h) hk, List.mem_reverse] at hx
 obtain ⟨i, h1, h2, h3, h4⟩ := jM hx
 exact ⟨i, h1, by omega, jF h4⟩
theorem qR {a : Array Keyed} {n : Nat} {x : Keyed} (h : n <= a.size) (hx : x ∈ a.toList.reverse.drop (a.size - n)) : ∃ i, i < n /\ κ x = kAt κ a i := by
 rw [← Array.length_toList, jA (by simpa using h), List.mem_reverse] at hx
 rw [show a.toList.take n = (a.toList.drop 0).take n by simp] at hx
 obtain ⟨i, h1, h2, h3, h4⟩ := jM hx
 exact ⟨i, by omega, jF h4⟩
theorem MsH.appA (H : MrH S κ a b) (ha : na <= a.size) (hb : nb <= b.size) (h : MsH κ a b out na nb) {k : Nat} (hk : k <= na) (hq : ∀ i, k <= i -> i < na -> ∀ j, j < nb -> kAt κ b j <= kAt κ a i) : MsH κ a b (out ++ (a.extract k na).reverse) k nb := by
 have := Mst.addA h (na - k) (uA (xO H.sa)) fun x hx y hy => by
   obtain ⟨i, h1, h2, h3⟩ := rmem_seg (κ := κ) ha hk hx
   obtain ⟨j, g1, g2⟩ := qR (κ := κ) hb hy
   have := hq i h1 h2 j g1
   show - κ x <= - κ y
   omega
 rw [← rext_l ha hk, ← Array.toList_append, show a.size - na + (na - k) = a.size - k by omega] at this
 exact this
theorem MsH.appB (H : MrH S κ a b) (ha : na <= a.size) (hb : nb <= b.size) (h : MsH κ a b out na nb) {k : Nat} (hk : k <= nb) (hq : ∀ j, k <= j -> j < nb -> ∀ i, i < na -> kAt κ a i <= kAt κ b j) : MsH κ a b (out ++ (b.extract k nb).reverse) na k := by
 have := Mst.addB h (nb - k) (uA (xO H.sb)) fun x hx y hy => by
   obtain ⟨i, h1, h2, h3⟩ := rmem_seg (κ := κ) hb hk hx
   obtain ⟨j, g1, g2⟩ := qR (κ := κ) ha hy
   have := hq i h1 h2 j g1
   show - κ x <= - κ y
   omega
 rw [← rext_l hb hk, ← Array.toList_append, show b.size - nb + (nb - k) = b.size - k by omega] at this
 exact this
theorem one_ext {a : Array Keyed} {n : Nat} {z : Keyed} (h1 : 1 <= n) (hz : a[n - 1]? = some z) : (a.extract (n - 1) n).reverse.toList = [z] := by
 have hz' : a.toList[n - 1]? = some z := by rw [Array.getElem?_toList]; exact hz
 rw [Array.toList_reverse, Array.toList_extract, List.extract_eq_take_drop, show n - (n - 1) = 1 by omega, ← one_l hz']
 rfl
theorem MsH.pushA (H : MrH S κ a b) (ha : na <= a.size) (hb : nb <= b.size) (h : MsH κ a b out na nb) (h1 : 1 <= na) {z : Keyed} (hz : a[na - 1]? = some z) (hq : ∀ j, j < nb -> kAt κ b j <= κ z) : MsH κ a b (out.push z) (na - 1) nb := by
 have := h.appA H ha hb (k := na - 1) (by omega) fun i g1 g2 j g3 => by
   have : i = na - 1 := by omega
   subst this
   rw [yA hz]; exact hq j g3
 rw [MsH, Array.toList_append, one_ext h1 hz, ← vU] at this
 exact this
theorem MsH.pushB (H : MrH S κ a b) (ha : na <= a.size) (hb : nb <= b.size) (h : MsH κ a b out na nb) (h1 : 1 <= nb) {z : Keyed} (hz : b[nb - 1]? = some z) (hq : ∀ j, j < na -> kAt κ a j <= κ z) : MsH κ a b (out.push z) na (nb - 1) := by
 have := h.appB H ha hb (k := nb - 1) (by omega) fun i g1 g2 j g3 => by
   have : i = nb - 1 := by omega
   subst this
   rw [yA hz]; exact hq j g3
 rw [MsH, Array.toList_append, one_ext h1 hz, ← vU] at this
 exact this
theorem mgd_rev {la lb ol : List Keyed} (h : Mgd (fun x => - κ x) la.reverse lb.reverse ol) : Mgd κ la lb ol.reverse := by
 refine ⟨?_, ?_⟩
 · exact (List.reverse_perm _).trans (h.1.trans ((List.reverse_perm _).append (List.reverse_perm _)))
 · rw [List.pairwise_reverse]
   exact h.2.imp fun h => by dsimp only at h; omega
theorem vP {a : Array Keyed} {n : Nat} : (a.extract 0 n).toList = a.toList.take n := by simp
theorem MsH.dn (H : MrH S κ a b) (hb : nb <= b.size) (h : MsH κ a b out na nb) (h0 : na = 0) : MgA κ a b (dnH a b out na nb) := by
 subst h0
 have := mgd_rev (h.endB (uA (xO H.sb)) (by simp))
 rw [← Array.length_toList (xs := b), jA (by simpa using hb), List.reverse_append, List.reverse_reverse] at this
 rw [MgA, dnH, Array.toList_append, Array.toList_append, vP, vP, Array.toList_reverse, List.take_zero, List.nil_append]
 exact this
theorem MsH.fs (H : MrH S κ a b) (ha : na <= a.size) (h : MsH κ a b out na nb) (h0 : nb = 1) : MgA κ a b (fsH a b out na nb) := by
 subst h0
 have h1 := Mst.addA h a.size (uA (xO H.sa)) fun x hx y hy => by
   obtain ⟨i, h1, h2⟩ := qR (κ := κ) ha (List.mem_of_mem_take hx)
   obtain ⟨j, g1, g2⟩ := qR (κ := κ) H.nb hy
   have : j = 0 := by omega
   subst this
   have := H.b0 i (by omega)
   show - κ x <= - κ y
   omega
 rw [List.take_of_length_le (l := a.toList.reverse.drop (a.size - na)) (by simp)] at h1
 have := mgd_rev (h1.endB (uA (xO H.sb)) (by simp))
 have e1 : a.toList.reverse.drop (a.size - na) = (a.toList.take na).reverse := by rw [← Array.length_toList, jA (by simpa using ha)]
 have e2 : b.toList.reverse.drop (b.size - 1) = (b.toList.take 1).reverse := by rw [← Array.length_toList, jA (by simpa using H.nb)]
 rw [e1, e2, List.reverse_append, List.reverse_append, List.reverse_reverse, List.reverse_reverse, ← List.append_assoc] at this
 rw [MgA, fsH, Array.toList_append, Array.toList_append, vP, vP, Array.toList_reverse]
 exact this
end
def HiN (κ : Keyed -> Int) (a b : Array Keyed) (N : Nat) (r : Option (Array Keyed)) (out : Array Keyed) (na nb : Nat) : Prop :=
 r = none /\ MsH κ a b out na nb /\ 1 <= na /\ 2 <= nb /\ na <= a.size /\ nb <= b.size /\ na + nb + N <= a.size + b.size
def HiG (κ : Keyed -> Int) (a b : Array Keyed) (N : Nat) (r : Option (Array Keyed)) (out : Array Keyed) (na nb : Nat) : Prop :=
 (∃ x, r = some x /\ MgA κ a b x) \/ HiN κ a b N r out na nb
theorem hin {κ : Keyed -> Int} {a b out : Array Keyed} {N na nb : Nat} (h1 : MsH κ a b out na nb) (h2 : 1 <= na) (h3 : 2 <= nb) (h4 : na <= a.size) (h5 : nb <= b.size) (h6 : na + nb + N <= a.size + b.size) : HiN κ a b N none out na nb := ⟨rfl, h1, h2, h3, h4, h5, h6⟩
section
variable {M : Model} {A : Around} {E : Value -> Shared -> Prop} {s : Shared} {st : SortSt} {kd : SortKind} {S : Keyed -> Prop} {κ : Keyed -> Int} {a b : Array Keyed}
theorem hi1_ok (C : CmpO M A E s kd S κ) (H : MrH S κ a b) (hk : kindOf st = kd) {N mg na nb ac bc : Nat} {out : Array Keyed} (h : HiN κ a b N none out na nb) :
   wpS M A E s (hi1 a b mg (none, na, nb, out, ac, bc)) (fun r st' => st' = st /\ match r with
     | .done c => HiG κ a b (N + 1) c.1 c.2.2.2.1 c.2.1 c.2.2.1
     | .yield c => HiN κ a b (N + 1) c.1 c.2.2.2.1 c.2.1 c.2.2.1) st := by
 obtain ⟨-, h1, h2, h3, h4, h5, h6⟩ := h
 obtain ⟨x, ex, hx⟩ := yT (arr := a) (i := na - 1) (by omega)
 obtain ⟨y, ey, hy⟩ := yT (arr := b) (i := nb - 1) (by omega)
 unfold hi1
 refine wpS_bind (zY ey (wpS_bind (zY ex (wpS_bind (C.lt (H.mb y hy) (H.ma x hx) hk ?_)))))
 have kx := yA (κ := κ) ex
 have ky := yA (κ := κ) ey
 by_cases hl : κ y < κ x
 · simp only [hl, decide_true, if_true]
   refine wpS_bind (zY ex ?_)
   have hn : MsH κ a b (out.push x) (na - 1) nb := h1.pushA H h4 h5 h2 ex fun i g1 => by
     have := H.sb i (nb - 1) (by omega) (by omega) (by omega)
     omega
   by_cases he : na - 1 = 0
   · rw [if_pos (by simpa using he)]
     exact wpS_pure ⟨rfl, .inl ⟨_, rfl, hn.dn H h5 he⟩⟩
   · rw [if_neg (by simpa using he)]
     split
     · exact wpS_pure ⟨rfl, .inr (hin (N := N + 1) hn (by omega) (by omega) (by omega) (by omega) (by omega) :)⟩
     · exact wpS_pure ⟨rfl, (hin (N := N + 1) hn (by omega) (by omega) (by omega) (by omega) (by omega) :)⟩
 · simp only [hl, decide_false, Bool.false_eq_true, if_false]
   refine wpS_bind (zY ey ?_)
   have hn : MsH κ a b (out.push y) na (nb - 1) := h1.pushB H h4 h5 (by omega) ey fun i g1 => by
     have := H.sa i (na - 1) (by omega) (by omega) (by omega)
     omega
   by_cases he : nb - 1 = 1
   · rw [if_pos (by simpa using he)]
     exact wpS_pure ⟨rfl, .inl ⟨_, rfl, hn.fs H h4 he⟩⟩
   · rw [if_neg (by simpa using he)]
     split
     · exact wpS_pure ⟨rfl, .inr (hin (N := N + 1) hn (by omega) (by omega) (by omega) (by omega) (by omega) :)⟩
     · exact wpS_pure ⟨rfl, (hin (N := N + 1) hn (by omega) (by omega) (by omega) (by omega) (by omega) :)⟩
abbrev Hi2Q (κ : Keyed -> Int) (a b : Array Keyed) (N : Nat) (st : SortSt) (r : ForInStep HiB) (st' : SortSt) : Prop := SamS st st' /\ match r with
     | .done c => HiG κ a b N c.1 c.2.2.2.1 c.2.1 c.2.2.1
     | .yield c => HiN κ a b N c.1 c.2.2.2.1 c.2.1 c.2.2.1
theorem hi2c_ok {st0 : SortSt} (H : MrH S κ a b) {N mg na nb ac bc : Nat} {out : Array Keyed} (hs : SamS st0 st) (h1 : MsH κ a b out na nb) (h2 : 1 <= na) (h3 : 2 <= nb) (h4 : na <= a.size) (h5 : nb <= b.size) (h6 : na + nb + N <= a.size + b.size)
   (hq : ∀ j, j < nb -> kAt κ b j <= kAt κ a (na - 1)) : wpS M A E s (hi2c a b mg out na nb ac bc) (Hi2Q κ a b N st0) st := by
 obtain ⟨x, ex, hx⟩ := yT (arr := a) (i := na - 1) (by omega)
 unfold hi2c
 refine wpS_bind (zY ex ?_)
 have kx := yA (κ := κ) ex
 have hn : MsH κ a b (out.push x) (na - 1) nb := h1.pushA H h4 h5 h2 ex fun i g1 => by rw [← kx]; exact hq i g1
 by_cases he : na - 1 = 0
 · rw [if_pos (by simpa using he)]
   exact wpS_pure ⟨hs, .inl ⟨_, rfl, hn.dn H h5 he⟩⟩
 · rw [if_neg (by simpa using he)]
   split
   · exact wpS_pure ⟨hs, .inr (hin (N := N) hn (by omega) (by omega) (by omega) (by omega) (by omega) :)⟩
   · exact wpS_pure ⟨hs, (hin (N := N) hn (by omega) (by omega) (by omega) (by omega) (by omega) :)⟩
theorem hi2b_ok {st0 : SortSt} (C : CmpO M A E s kd S κ) (H : MrH S κ a b) (hk : kindOf st = kd) {N mg na nb ac bc : Nat} {out : Array Keyed} (hs : SamS st0 st) (h1 : MsH κ a b out na nb) (h2 : 1 <= na) (h3 : 2 <= nb) (h4 : na <= a.size) (h5 : nb <= b.size) (h6 : na + nb + N <= a.size + b.size)
   (hq : ∀ i, i < na -> kAt κ a i <= kAt κ b (nb - 1)) : wpS M A E s (hi2b a b mg out na nb ac bc) (Hi2Q κ a b N st0) st := by
 obtain ⟨y, ey, hy⟩ := yT (arr := b) (i := nb - 1) (by omega)
 obtain ⟨x, ex, hx⟩ := yT (arr := a) (i := na - 1) (by omega)
 unfold hi2b
 refine wpS_bind (zY ey ?_)
 have ky := yA (κ := κ) ey
 have kx := yA (κ := κ) ex
 have hn : MsH κ a b (out.push y) na (nb - 1) := h1.pushB H h4 h5 (by omega) ey fun i g1 => by rw [← ky]; exact hq i g1
 by_cases he : nb - 1 = 1
 · rw [if_pos (by simpa using he)]
   exact wpS_pure ⟨hs, .inl ⟨_, rfl, hn.fs H h4 he⟩⟩
 · rw [if_neg (by simpa using he)]
   refine wpS_bind (zY ex ?_)
   refine wpS_bind (wA C hk H.mb (H.ma x hx) (by omega) (fun p q r1 r2 r3 => H.sb p q (by omega) r2 (by omega)) (by omega) fun k g1 g2 g3 => ?_)
   dsimp only
   simp only [Nat.zero_add] at g2 g3
   have hk1 : 1 <= k := by
     by_cases hc : 1 <= k
     · exact hc
     · have := g3 0 (by omega) (by omega)
       have := H.b0 (na - 1) (by omega)
       omega
   have hm : MsH κ a b (out.push y ++ (b.extract k (nb - 1)).reverse) na k := hn.appB H h4 (by omega) g1 fun j r1 r2 i r3 => by
     have := g3 j (by omega) (by omega)
     have := H.sa i (na - 1) (by omega) (by omega) (by omega)
     omega
   have hr : ∀ j, j < k -> kAt κ b j <= kAt κ a (na - 1) := fun j r1 => by
     have := g2 j r1
     omega
   by_cases hz : nb - 1 - k > 0
   · rw [if_pos hz]
     by_cases he : k = 1
     · rw [if_pos (by simpa using he)]
       exact wpS_pure ⟨hs, .inl ⟨_, rfl, hm.fs H h4 he⟩⟩
     · rw [if_neg (by simpa using he), if_neg (by simp; omega)]
       exact hi2c_ok H hs hm h2 (by omega) h4 (by omega) (by omega) hr
   · rw [if_neg hz]
     have : k = nb - 1 := by omega
     subst this
     exact hi2c_ok H hs hn h2 (by omega) h4 (by omega) (by omega) hr
theorem hi2a_ok {st0 : SortSt} (C : CmpO M A E s kd S κ) (H : MrH S κ a b) (hk : kindOf st = kd) {N mg na nb ac bc : Nat} {out : Array Keyed} (hs : SamS st0 st) (h1 : MsH κ a b out na nb) (h2 : 1 <= na) (h3 : 2 <= nb) (h4 : na <= a.size) (h5 : nb <= b.size) (h6 : na + nb + N <= a.size + b.size) :
   wpS M A E s (hi2a a b mg out na nb ac bc) (Hi2Q κ a b N st0) st := by
 obtain ⟨y, ey, hy⟩ := yT (arr := b) (i := nb - 1) (by omega)
 unfold hi2a
 rw [qQ]
 refine wpS_bind (wpS_modify (wpS_bind (zY ey ?_)))
 have hs' := hs.gal mg
 have hk' : kindOf (vS st mg) = kd := hk
 have ky := yA (κ := κ) ey
 refine wpS_bind (vZ C hk' H.ma (H.mb y hy) (by omega) (fun p q r1 r2 r3 => H.sa p q (by omega) r2 (by omega)) (by omega) fun k g1 g2 g3 => ?_)
 dsimp only
 simp only [Nat.zero_add] at g2 g3
 have hm : MsH κ a b (out ++ (a.extract k na).reverse) k nb := h1.appA H h4 h5 g1 fun j r1 r2 i r3 => by
   have := g3 j (by omega) (by omega)
   have := H.sb i (nb - 1) (by omega) (by omega) (by omega)
   omega
 have hr : ∀ j, j < k -> kAt κ a j <= kAt κ b (nb - 1) := fun j r1 => by
   have := g2 j r1
   omega
 by_cases hz : na - k > 0
 · rw [if_pos hz]
   by_cases he : k = 0
   · rw [if_pos (by simpa using he)]
     exact wpS_pure ⟨hs', .inl ⟨_, rfl, hm.dn H h5 he⟩⟩
   · rw [if_neg (by simpa using he)]
     exact hi2b_ok C H hk' hs' hm (by omega) h3 (by omega) h5 (by omega) hr
 · rw [if_neg hz]
   have : k = na := by omega
   subst this
   exact hi2b_ok C H hk' hs' h1 h2 h3 h4 h5 (by omega) hr
theorem hi2_ok {st0 : SortSt} (C : CmpO M A E s kd S κ) (H : MrH S κ a b) (hk : kindOf st = kd) {N mg na nb ac bc : Nat} {out : Array Keyed} (hs : SamS st0 st) (h : HiN κ a b N none out na nb) :
   wpS M A E s (hi2 a b (none, na, nb, out, mg, ac, bc)) (Hi2Q κ a b N st0) st := by
 obtain ⟨-, h1, h2, h3, h4, h5, h6⟩ := h
 unfold hi2
 dsimp only
 split
 · exact hi2a_ok C H hk hs h1 h2 h3 h4 h5 h6
 · exact hi2a_ok C H hk hs h1 h2 h3 h4 h5 h6
theorem hi3_ok {st0 : SortSt} (C : CmpO M A E s kd S κ) (H : MrH S κ a b) (hk0 : kindOf st0 = kd) {N mg na nb : Nat} {out : Array Keyed} (hs : SamS st0 st) (h : HiN κ a b N none out na nb) :
   wpS M A E s (hi3 a b (none, na, nb, out, mg)) (fun r st' => SamS st0 st' /\ match r with
     | .done c => ∃ x, c.1 = some x /\ MgA κ a b x
     | .yield c => HiN κ a b (N + 1) c.1 c.2.2.2.1 c.2.1 c.2.2.1) st := by
 unfold hi3
 dsimp only
 refine wpS_bind (wpS_mono (wpS_forRange
   (I := fun x c st' => st' = st /\ HiN κ a b (N + x) c.1 c.2.2.2.1 c.2.1 c.2.2.1)
   (Q := fun c st' => st' = st /\ HiG κ a b (N + 1) c.1 c.2.2.2.1 c.2.1 c.2.2.1) ?step ?fin ⟨rfl, h⟩) ?post)
 case fin =>
   rintro c st' ⟨rfl, h1, h2, h3, h4, h5, h6, h7⟩
   have := H.na
   exact ⟨rfl, .inr ⟨h1, h2, h3, h4, h5, h6, by omega⟩⟩
 case step =>
   rintro x ⟨r, na, nb, out, ac, bc⟩ st' _ hx ⟨rfl, hc⟩
   have hr : r = none := hc.1
   subst hr
   refine wpS_mono (hi1_ok C H (hs.kind.trans hk0) hc) ?_
   rintro (c | c) st'' ⟨rfl, h'⟩
   · refine ⟨rfl, ?_⟩
     rcases h' with h' | ⟨a1, a2, a3, a4, a5, a6, a7⟩
     · exact .inl h'
     · exact .inr ⟨a1, a2, a3, a4, a5, a6, by omega⟩
   · exact ⟨rfl, h'⟩
 case post =>
   rintro ⟨r, na, nb, out, ac, bc⟩ st' ⟨rfl, hc⟩
   rcases hc with ⟨x, hx, hg⟩ | hc
   · have hx : r = some x := hx
     subst hx
     exact wpS_pure ⟨hs, x, rfl, hg⟩
   · have hr : r = none := hc.1
     subst hr
     dsimp only
     refine wpS_bind (wpS_lift (wpAny_rule ⟨rfl, ?_⟩))
     refine wpS_bind (wpS_mono (wpS_forRange
       (I := fun x c st' => SamS st0 st' /\ HiN κ a b (N + 1) c.1 c.2.2.2.1 c.2.1 c.2.2.1)
       (Q := fun c st' => SamS st0 st' /\ HiG κ a b (N + 1) c.1 c.2.2.2.1 c.2.1 c.2.2.1) ?_ ?_ ⟨hs, hc⟩) ?_)
     · rintro x ⟨r, na, nb, out, mg, ac, bc⟩ st' _ hx ⟨hs', hc⟩
       have hr : r = none := hc.1
       subst hr
       refine wpS_mono (hi2_ok C H (hs'.kind.trans hk0) hs' hc) ?_
       rintro (c | c) st'' h' <;> exact h'
     · rintro c st' ⟨h1, h2⟩
       exact ⟨h1, .inr h2⟩
     · rintro ⟨r, na, nb, out, mg, ac, bc⟩ st' ⟨hs', hc⟩
       rcases hc with ⟨x, hx, hg⟩ | hc
       · have hx : r = some x := hx
         subst hx
         exact wpS_pure ⟨hs', x, rfl, hg⟩
       · have hr : r = none := hc.1
         subst hr
         dsimp only
         rw [qQ]
         exact wpS_bind (wpS_modify (wpS_pure ⟨hs'.gal _, hc⟩))
theorem mergeHi_ok (C : CmpO M A E s kd S κ) (H : MrH S κ a b) (hk : kindOf st = kd) {Q : Array Keyed -> SortSt -> Prop} (h : ∀ out st', SamS st st' -> MgA κ a b out -> Q out st') : wpS M A E s (mergeHi' a b) Q st := by
 have h0 := H.na
 have h0' := H.nb
 obtain ⟨x, ex, hx⟩ := yT (arr := a) (i := a.size - 1) (by omega)
 rw [mergeHi'_eq]
 refine wpS_bind (wpS_lift (wpAny_rule ⟨rfl, ?_⟩))
 refine wpS_bind (zY ex ?_)
 have kx := yA (κ := κ) ex
 have hn : MsH κ a b #[x] (a.size - 1) b.size := by
   have h00 : MsH κ a b #[] a.size b.size := by
     show Mst _ _ _ _ _ _
     rw [Nat.sub_self, Nat.sub_self]
     exact Mst.nil
   have := h00.pushA H (Nat.le_refl _) (Nat.le_refl _) h0 ex fun i g1 => by
     have := H.al i g1
     omega
   simpa using this
 by_cases he : a.size - 1 = 0
 · rw [if_pos (by simpa using he)]
   exact wpS_pure (h _ _ .rfl' (hn.dn H (Nat.le_refl _) he))
 · rw [if_neg (by simpa using he)]
   by_cases he2 : b.size = 1
   · rw [if_pos (by simpa using he2)]
     exact wpS_pure (h _ _ .rfl' (hn.fs H (by omega) he2))
   · rw [if_neg (by simpa using he2)]
     refine wpS_bind (wpS_get ?_)
     refine wpS_bind (wpS_mono (wpS_forRange
       (I := fun x c st' => SamS st st' /\ HiN κ a b (x + 1) c.1 c.2.2.2.1 c.2.1 c.2.2.1)
       (Q := fun c st' => SamS st st' /\ ∃ x, c.1 = some x /\ MgA κ a b x) ?_ ?_ ⟨.rfl', (hin (N := 0 + 1) hn (by omega) (by omega) (by omega) (by omega) (by omega) :)⟩) ?_)
     · rintro x ⟨r, na, nb, out, mg⟩ st' _ hx ⟨hs', hc⟩
       have hr : r = none := hc.1
       subst hr
       refine wpS_mono (hi3_ok C H hk hs' hc) ?_
       rintro (c | c) st'' ⟨h1, h2⟩
       · exact ⟨h1, h2⟩
       · exact ⟨h1, h2⟩
     · rintro c st' ⟨h1, -, h2, h3, h4, h5, h6, h7⟩
       omega
     · rintro ⟨r, c⟩ st' ⟨h1, x, hx, hg⟩
       have hx : r = some x := hx
       subst hx
       exact wpS_pure (h _ _ h1 hg)
end
end L2
namespace L2
open PySem PyProof.Rows
def wrF (sa : Nat) (l : List (Keyed × Nat)) (xs : Array Keyed) : Array Keyed := l.foldl (fun a x => a.setIfInBounds (sa + x.2) x.1) xs
theorem wrF_at (sa : Nat) : ∀ (ms : List Keyed) (n : Nat) (xs : Array Keyed), sa + n + ms.length <= xs.size -> ∀ k, (wrF sa (ms.zipIdx n) xs)[k]? = if sa + n <= k /\ k < sa + n + ms.length then ms[k - (sa + n)]? else xs[k]?
 | [], n, xs, h, k => by
   rw [if_neg (by simp only [List.length_nil]; omega)]; rfl
 | m :: ms, n, xs, h, k => by
   rw [List.zipIdx_cons]
   show (wrF sa (ms.zipIdx (n + 1)) (xs.setIfInBounds (sa + n) m))[k]? = _
   simp only [List.length_cons] at h ⊢
   rw [wrF_at sa ms (n + 1) _ (by rw [Array.size_setIfInBounds]; omega) k, Array.getElem?_setIfInBounds]
   by_cases h1 : sa + n = k
   · rw [if_neg (by omega), if_pos h1, if_pos (by omega), if_pos (by omega)]
     rw [show k - (sa + n) = 0 by omega]; rfl
   · rw [if_neg h1]
     by_cases h2 : sa + (n + 1) <= k /\ k < sa + (n + 1) + ms.length
     · rw [if_pos h2, if_pos (by omega), show k - (sa + n) = (k - (sa + (n + 1))) + 1 by omega]; rfl
     · rw [if_neg h2, if_neg (by omega)]
theorem wrF_l {sa : Nat} {ms : List Keyed} {xs : Array Keyed} (h : sa + ms.length <= xs.size) : (wrF sa ms.zipIdx xs).toList = xs.toList.take sa ++ ms ++ xs.toList.drop (sa + ms.length) := by
 apply List.ext_getElem?
 intro k
 rw [Array.getElem?_toList, wrF_at sa ms 0 xs (by omega) k]
 simp only [Nat.add_zero]
 have hl : (xs.toList.take sa).length = sa := by rw [List.length_take, Array.length_toList]; omega
 by_cases h1 : k < sa
 · rw [if_neg (by omega), List.append_assoc, List.getElem?_append_left (by omega), List.getElem?_take, if_pos h1, Array.getElem?_toList]
 · by_cases h2 : k < sa + ms.length
   · rw [if_pos (by omega), List.getElem?_append_left (by rw [List.length_append]; omega), List.getElem?_append_right (by omega), hl]
   · rw [if_neg (by omega), List.getElem?_append_right (by rw [List.length_append]; omega), List.length_append, hl, List.getElem?_drop, Array.getElem?_toList]
     congr 1; omega
theorem wrF_perm {sa : Nat} {ms : List Keyed} {xs : Array Keyed} (h : sa + ms.length <= xs.size) (hp : ms.Perm ((xs.toList.drop sa).take ms.length)) : (wrF sa ms.zipIdx xs).toList.Perm xs.toList := by
 rw [wrF_l h]
 have e : xs.toList = xs.toList.take sa ++ (xs.toList.drop sa).take ms.length ++ xs.toList.drop (sa + ms.length) := by
   rw [List.append_assoc, ← List.drop_drop, List.take_append_drop, List.take_append_drop]
 exact ((hp.append_left _).append_right _).trans (by rw [← e])
structure SB (kd : SortKind) (a₀ : Array Keyed) (st : SortSt) : Prop where
 perm : (arrOf st).toList.Perm a₀.toList
 kind : kindOf st = kd
 fail : failedOf st = none
section
variable {M : Model} {A : Around} {E : Value -> Shared -> Prop} {s : Shared} {st : SortSt} {kd : SortKind} {S : Keyed -> Prop} {κ : Keyed -> Int} {a₀ : Array Keyed}
theorem SB.size (h : SB kd a₀ st) : (arrOf st).size = a₀.size := by
 have := h.perm.length_eq
 simpa using this
theorem SB.mem (h : SB kd a₀ st) (h0 : ∀ p, p ∈ a₀.toList -> S p) : ∀ p, p ∈ (arrOf st).toList -> S p := fun p hp => h0 p (h.perm.mem_iff.mp hp)
theorem SB.setArr (h : SB kd a₀ st) {xs : Array Keyed} (hp : xs.toList.Perm (arrOf st).toList) : SB kd a₀ (setArr st xs) := ⟨hp.trans h.perm, h.kind, h.fail⟩
theorem wpS_set {st' : SortSt} {Q : PUnit -> SortSt -> Prop} (h : Q ⟨⟩ st') : wpS M A E s (set st' : SM PUnit) Q st := by
 unfold wpS; rw [StateT.run_set]; exact wpAny_pure ⟨rfl, h⟩
end
def mgC (sa : Nat) (ms : Array Keyed) : SM Bool := modify (fun s => setArr s (wrF sa ms.toList.zipIdx (arrOf s))) >>= fun _ => get >>= fun s => pure (failedOf s).isNone
def mgB (st : SortSt) (sa na sb nb : Nat) : SM Bool :=
 if (na == 0) = true then pure true else elem' (arrOf st) (sa + na - 1) >>= fun key => gallop' true key (arrOf st) sb nb (nb - 1) >>= fun o => match o with
   | some nb => if (nb == 0) = true then pure true else if na <= nb then mergeLo' ((arrOf st).extract sa sb) ((arrOf st).extract sb (sb + nb)) >>= fun m => mgC sa m else mergeHi' ((arrOf st).extract sa sb) ((arrOf st).extract sb (sb + nb)) >>= fun m => mgC sa m
   | _ => pure false
def mgA (st : SortSt) (i sa na pw sb nb : Nat) : SM Bool :=
 set (setPending st (((pendingOf st).setIfInBounds i (sa, na + nb, pw)).eraseIdxIfInBounds (i + 1))) >>= fun _ => elem' (arrOf st) sb >>= fun key => gallop' false key (arrOf st) sa na 0 >>= fun o => match o with
   | some k => mgB st (sa + k) (na - k) sb nb
   | _ => pure false
theorem mergeAt'_eq (i : Nat) : mergeAt' i = (get >>= fun st => match ((pendingOf st)[i]?, (pendingOf st)[i + 1]?) with
   | (some (sa, na, pw), some (sb, nb, _)) => mgA st i sa na pw sb nb
   | _ => liftM (unsupported "internal:list.sort.pending")) := rfl
end L2
namespace L2
open PySem PyProof.Rows
section
variable {M : Model} {A : Around} {E : Value -> Shared -> Prop} {s : Shared} {st : SortSt} {kd : SortKind} {S : Keyed -> Prop} {κ : Keyed -> Int} {a₀ : Array Keyed}
theorem ext_at {xs : Array Keyed} {i j k : Nat} (h : i + k < j) : (xs.extract i j)[k]? = xs[i + k]? := by
 rw [Array.getElem?_extract]
 split
 · rfl
 · next h1 => rw [Array.getElem?_eq_none (by omega)]
theorem qN {xs : Array Keyed} {i j k : Nat} (h : i + k < j) : kAt κ (xs.extract i j) k = kAt κ xs (i + k) := xL (ext_at h)
theorem ext_mem {xs : Array Keyed} {i j : Nat} {p : Keyed} (h : p ∈ (xs.extract i j).toList) : p ∈ xs.toList := by
 rw [Array.toList_extract, List.extract_eq_take_drop] at h
 exact List.mem_of_mem_drop (List.mem_of_mem_take h)
theorem ext_idx {xs : Array Keyed} {i j : Nat} (hj : j <= xs.size) {p : Keyed} (h : p ∈ (xs.extract i j).toList) : ∃ t, i <= t /\ t < j /\ κ p = kAt κ xs t := by
 rw [Array.toList_extract, List.extract_eq_take_drop] at h
 obtain ⟨t, h1, h2, h3, h4⟩ := jM h
 exact ⟨t, h1, by omega, jF h4⟩
theorem mgC_ok {st' : SortSt} {sa na sb nb k n2 : Nat} {ms : Array Keyed} {Q : Bool -> SortSt -> Prop} (hB : SB kd a₀ st') (harr : arrOf st' = arrOf st)
   (hsb : sb = sa + na) (hle : sb + nb <= (arrOf st).size) (hsA : yW κ (arrOf st) sa (sa + na)) (hsB : yW κ (arrOf st) sb (sb + nb)) (hk : k < na) (hn2 : n2 <= nb) (hn0 : 0 < n2)
   (hg1 : ∀ i, i < k -> kAt κ (arrOf st) (sa + i) <= kAt κ (arrOf st) sb) (hg2 : ∀ i, n2 <= i -> i < nb -> kAt κ (arrOf st) (sb - 1) <= kAt κ (arrOf st) (sb + i))
   (hm : MgA κ ((arrOf st).extract (sa + k) sb) ((arrOf st).extract sb (sb + n2)) ms)
   (h : ∀ st'', SB kd a₀ st'' -> pendingOf st'' = pendingOf st' -> yW κ (arrOf st'') sa (sb + nb) -> (∀ j, j < sa \/ sb + nb <= j -> (arrOf st'')[j]? = (arrOf st)[j]?) -> Q true st'') : wpS M A E s (mgC (sa + k) ms) Q st' := by
 unfold mgC
 have hlen : ms.toList.length = na - k + n2 := by
   rw [hm.1.length_eq, List.length_append, Array.length_toList, Array.length_toList, Array.size_extract, Array.size_extract]
   omega
 have e1 : ms.toList.Perm (((arrOf st).toList.drop (sa + k)).take ms.toList.length) := by
   refine hm.1.trans (List.Perm.of_eq ?_)
   rw [hlen, Array.toList_extract, Array.toList_extract, List.extract_eq_take_drop, List.extract_eq_take_drop, List.take_add, List.drop_drop, show sa + k + (na - k) = sb by omega, show sb - (sa + k) = na - k by omega, Nat.add_sub_cancel_left]
 have hfit : (sa + k) + ms.toList.length <= (arrOf st).size := by omega
 refine wpS_bind (wpS_modify ?_)
 refine wpS_bind (wpS_get ?_)
 have hB2 : SB kd a₀ (setArr st' (wrF (sa + k) ms.toList.zipIdx (arrOf st'))) := hB.setArr (by rw [harr]; exact wrF_perm hfit e1)
 have hf : (failedOf (setArr st' (wrF (sa + k) ms.toList.zipIdx (arrOf st')))).isNone = true := by rw [hB2.fail]; rfl
 rw [hf]
 have hat := wrF_at (sa + k) ms.toList 0 (arrOf st) (by omega)
 simp only [Nat.add_zero, hlen] at hat
 have hmi : ∀ p, sa + k <= p -> p < sb + n2 -> ∃ t, sa + k <= t /\ t < sb + n2 /\ kAt κ (wrF (sa + k) ms.toList.zipIdx (arrOf st)) p = kAt κ (arrOf st) t := by
   intro p h1 h2
   have e := hat p
   rw [if_pos (by omega)] at e
   have hlt : p - (sa + k) < ms.toList.length := by omega
   rw [List.getElem?_eq_getElem hlt] at e
   have hin : ms.toList[p - (sa + k)] ∈ ms.toList := List.getElem_mem _
   rw [hm.1.mem_iff, List.mem_append] at hin
   rw [yA e]
   rcases hin with hin | hin
   · obtain ⟨t, b1, b2, b3⟩ := ext_idx (κ := κ) (by omega) hin
     exact ⟨t, b1, by omega, b3⟩
   · obtain ⟨t, b1, b2, b3⟩ := ext_idx (κ := κ) (by omega) hin
     exact ⟨t, by omega, b2, b3⟩
 have hou : ∀ p, p < sa + k \/ sb + n2 <= p -> (wrF (sa + k) ms.toList.zipIdx (arrOf st))[p]? = (arrOf st)[p]? := fun p hp => by rw [hat, if_neg (by omega)]
 have hok : ∀ p, p < sa + k \/ sb + n2 <= p -> kAt κ (wrF (sa + k) ms.toList.zipIdx (arrOf st)) p = kAt κ (arrOf st) p := fun p hp => xL (hou p hp)
 have hlo : ∀ p t, sa <= p -> p < sa + k -> p <= t -> t < sb + nb -> kAt κ (arrOf st) p <= kAt κ (arrOf st) t := by
   intro p t h1 h2 h3 h4
   by_cases ht : t < sb
   · exact hsA p t h1 h3 (by omega)
   · have := hg1 (p - sa) (by omega)
     rw [show sa + (p - sa) = p by omega] at this
     have := hsB sb t (by omega) (by omega) h4
     omega
 have hhi : ∀ t q, sa <= t -> t <= q -> sb + n2 <= q -> q < sb + nb -> kAt κ (arrOf st) t <= kAt κ (arrOf st) q := by
   intro t q h1 h2 h3 h4
   by_cases ht : t < sb
   · have := hsA t (sb - 1) h1 (by omega) (by omega)
     have := hg2 (q - sb) (by omega) (by omega)
     rw [show sb + (q - sb) = q by omega] at this
     omega
   · exact hsB t q (by omega) h2 h4
 refine wpS_pure (h _ hB2 rfl ?_ ?_)
 · show yW κ (wrF (sa + k) ms.toList.zipIdx (arrOf st')) sa (sb + nb)
   rw [harr]
   intro p q h1 h2 h3
   by_cases hp : p < sa + k
   · rw [hok p (.inl hp)]
     by_cases hq : sa + k <= q /\ q < sb + n2
     · obtain ⟨t, b1, b2, b3⟩ := hmi q hq.1 hq.2
       rw [b3]; exact hlo p t h1 hp (by omega) (by omega)
     · rw [hok q (by omega)]; exact hlo p q h1 hp h2 h3
   · by_cases hq : sb + n2 <= q
     · rw [hok q (.inr hq)]
       by_cases hp2 : sb + n2 <= p
       · rw [hok p (.inr hp2)]; exact hhi p q h1 h2 hq h3
       · obtain ⟨t, b1, b2, b3⟩ := hmi p (by omega) (by omega)
         rw [b3]; exact hhi t q (by omega) (by omega) hq h3
     · have ep := hat p
       have eq := hat q
       rw [if_pos (by omega), List.getElem?_eq_getElem (by omega)] at ep eq
       rw [yA ep, yA eq]
       by_cases hpq : p = q
       · subst hpq; exact Int.le_refl _
       · exact (List.pairwise_iff_getElem.mp hm.2) _ _ _ _ (by omega)
 · intro j hj
   show (wrF (sa + k) ms.toList.zipIdx (arrOf st'))[j]? = _
   rw [harr]; exact hou j (by omega)
theorem mergeAt_ok {i sa na pw sb nb w : Nat} {Q : Bool -> SortSt -> Prop} (C : CmpO M A E s kd S κ) (h0 : ∀ p, p ∈ a₀.toList -> S p) (hB : SB kd a₀ st)
   (h1 : (pendingOf st)[i]? = some (sa, na, pw)) (h2 : (pendingOf st)[i + 1]? = some (sb, nb, w)) (hna : 1 <= na) (hnb : 1 <= nb)
   (hsb : sb = sa + na) (hle : sb + nb <= a₀.size) (hsA : yW κ (arrOf st) sa (sa + na)) (hsB : yW κ (arrOf st) sb (sb + nb))
   (h : ∀ st', SB kd a₀ st' -> pendingOf st' = ((pendingOf st).setIfInBounds i (sa, na + nb, pw)).eraseIdxIfInBounds (i + 1) -> yW κ (arrOf st') sa (sb + nb) -> (∀ j, j < sa \/ sb + nb <= j -> (arrOf st')[j]? = (arrOf st)[j]?) -> Q true st') :
   wpS M A E s (mergeAt' i) Q st := by
 have hsz := hB.size
 rw [mergeAt'_eq]
 refine wpS_bind (wpS_get ?_)
 rw [h1, h2]
 dsimp only
 unfold mgA
 refine wpS_bind (wpS_set ?_)
 have hB1 : SB kd a₀ (setPending st (((pendingOf st).setIfInBounds i (sa, na + nb, pw)).eraseIdxIfInBounds (i + 1))) := ⟨hB.perm, hB.kind, hB.fail⟩
 obtain ⟨y, ey, hy⟩ := yT (arr := arrOf st) (i := sb) (by omega)
 have ky := yA (κ := κ) ey
 refine wpS_bind (zY ey ?_)
 refine wpS_bind (vZ C hB1.kind (hB.mem h0) (hB.mem h0 y hy) (by omega) hsA (by omega) fun k g1 g2 g3 => ?_)
 dsimp only
 unfold mgB
 by_cases hk : na - k = 0
 · rw [if_pos (by simpa using hk)]
   refine wpS_pure (h _ hB1 rfl ?_ fun j _ => rfl)
   intro p q b1 b2 b3
   show kAt κ (arrOf st) p <= kAt κ (arrOf st) q
   by_cases hq : q < sb
   · exact hsA p q b1 b2 (by omega)
   · by_cases hp : p < sb
     · have := g2 (p - sa) (by omega)
       rw [show sa + (p - sa) = p by omega] at this
       have := hsB sb q (by omega) (by omega) b3
       omega
     · exact hsB p q (by omega) b2 b3
 · rw [if_neg (by simpa using hk)]
   obtain ⟨x, ex, hx⟩ := yT (arr := arrOf st) (i := sa + k + (na - k) - 1) (by omega)
   have kx := yA (κ := κ) ex
   have ee : sa + k + (na - k) - 1 = sb - 1 := by omega
   refine wpS_bind (zY ex ?_)
   refine wpS_bind (wA C hB1.kind (hB.mem h0) (hB.mem h0 x hx) (by omega) hsB (by omega) fun n2 g4 g5 g6 => ?_)
   dsimp only
   rw [← kx, ee] at g5 g6
   rw [← ky] at g2 g3
   by_cases hn : n2 = 0
   · rw [if_pos (by simpa using hn)]
     refine wpS_pure (h _ hB1 rfl ?_ fun j _ => rfl)
     intro p q b1 b2 b3
     show kAt κ (arrOf st) p <= kAt κ (arrOf st) q
     by_cases hq : q < sb
     · exact hsA p q b1 b2 (by omega)
     · by_cases hp : p < sb
       · have := hsA p (sb - 1) b1 (by omega) (by omega)
         have := g6 (q - sb) (by omega) (by omega)
         rw [show sb + (q - sb) = q by omega] at this
         omega
       · exact hsB p q (by omega) b2 b3
   · rw [if_neg (by simpa using hn)]
     have hzA : ((arrOf st).extract (sa + k) sb).size = na - k := by rw [Array.size_extract]; omega
     have hzB : ((arrOf st).extract sb (sb + n2)).size = n2 := by rw [Array.size_extract]; omega
     have H : MrH S κ ((arrOf st).extract (sa + k) sb) ((arrOf st).extract sb (sb + n2)) := by
       refine ⟨?_, ?_, fun p hp => hB.mem h0 p (ext_mem hp), fun p hp => hB.mem h0 p (ext_mem hp), by omega, by omega, ?_, ?_⟩
       · intro p q b1 b2 b3
         rw [hzA] at b3
         rw [qN (by omega), qN (by omega)]
         exact hsA _ _ (by omega) (by omega) (by omega)
       · intro p q b1 b2 b3
         rw [hzB] at b3
         rw [qN (by omega), qN (by omega)]
         exact hsB _ _ (by omega) (by omega) (by omega)
       · intro j hj
         rw [hzA] at hj
         rw [qN (by omega), qN (by omega)]
         have := g3 (k + j) (by omega) (by omega)
         rw [show sa + (k + j) = sa + k + j by omega] at this
         simpa using this
       · intro j hj
         rw [hzB] at hj
         rw [hzA, qN (by omega), qN (by omega), show sa + k + (na - k - 1) = sb - 1 by omega]
         exact g5 j hj
     have fin : ∀ out st', SamS (setPending st (((pendingOf st).setIfInBounds i (sa, na + nb, pw)).eraseIdxIfInBounds (i + 1))) st' -> MgA κ ((arrOf st).extract (sa + k) sb) ((arrOf st).extract sb (sb + n2)) out -> wpS M A E s (mgC (sa + k) out) Q st' := by
       intro out st' hs hm
       refine mgC_ok (st := st) (na := na) (nb := nb) ⟨by rw [hs.arr]; exact hB.perm, by rw [hs.kind]; exact hB.kind, by rw [hs.fail]; exact hB.fail⟩ hs.arr hsb (by omega) hsA hsB (by omega) g4 (by omega) g2 g6 hm fun st'' b1 b2 b3 b4 => h st'' b1 (b2.trans hs.pend) b3 b4
     split
     · exact wpS_bind (mergeLo_ok C H hB1.kind fun out st' a1 a2 => fin out st' a1 a2)
     · exact wpS_bind (mergeHi_ok C H hB1.kind fun out st' a1 a2 => fin out st' a1 a2)
end
end L2
namespace L2
open PySem PyProof.Rows
def NiB (κ : Keyed -> Int) (xs : Array Keyed) (i j : Nat) : Prop := ∀ p q, i <= p -> p <= q -> q < j -> kAt κ xs q <= kAt κ xs p
abbrev AsT := Option (Option Nat) × Nat
abbrev DsT := Option (Option Nat) × Nat × Nat
def ascB (lo a nrem : Nat) : SM AsT := forIn [a:nrem] ((none, a) : AsT) fun _ c => ltAt' (lo + c.2) (lo + c.2 - 1) >>= fun o => match o with
 | some b => if b = true then pure (ForInStep.done (none, c.2)) else pure (ForInStep.yield (none, c.2 + 1))
 | _ => pure (ForInStep.done (some none, c.2))
def talB (lo n nrem : Nat) : SM (Option Nat) := reverseSlice' lo (lo + n) >>= fun _ => ascB lo n nrem >>= fun c => match c.1 with
 | some r => pure r
 | none => pure (some c.2)
def dscB (lo n nrem : Nat) : SM DsT := forIn [n:nrem] ((none, n, 0) : DsT) fun _ c => ltAt' (lo + c.2.1) (lo + c.2.1 - 1) >>= fun o => match o with
 | some b => if b = true then (if c.2.2 > 0 then reverseSlice' (lo + c.2.1 - (c.2.2 + 1)) (lo + c.2.1) >>= fun _ => pure (ForInStep.yield (none, c.2.1 + 1, 0)) else pure (ForInStep.yield (none, c.2.1 + 1, 0)))
     else ltAt' (lo + c.2.1 - 1) (lo + c.2.1) >>= fun o => match o with
       | some b => if b = true then pure (ForInStep.done (none, c.2.1, c.2.2)) else pure (ForInStep.yield (none, c.2.1 + 1, c.2.2 + 1))
       | _ => pure (ForInStep.done (some none, c.2.1, c.2.2))
 | _ => pure (ForInStep.done (some none, c.2.1, c.2.2))
def dptB (lo n nrem : Nat) : SM (Option Nat) := liftM (rule "list.sort.descending-run") >>= fun _ => dscB lo (n + 1) nrem >>= fun c => match c.1 with
 | some r => pure r
 | none => if c.2.2 > 0 then reverseSlice' (lo + c.2.1 - (c.2.2 + 1)) (lo + c.2.1) >>= fun _ => talB lo c.2.1 nrem else talB lo c.2.1 nrem
theorem countB_eq (lo nrem : Nat) : countRun' lo nrem = (ascB lo 1 nrem >>= fun c => match c.1 with
   | some r => pure r
   | none => if (c.2 == nrem) = true then pure (some c.2) else if c.2 > 1 then (ltAt' lo (lo + c.2 - 1) >>= fun o => match o with
       | some b => if b = true then pure (some c.2) else reverseSlice' lo (lo + c.2) >>= fun _ => dptB lo c.2 nrem
       | _ => pure none) else dptB lo c.2 nrem) := by
 rw [countRun'_eq]
 show (_ >>= _ : SM _) = _
 congr 1; funext c
 obtain ⟨r, n⟩ := c
 cases r with
 | some r => rfl
 | none =>
   dsimp only
   split
   · rfl
   · split
     · congr 1; funext x
       cases x with
       | none => rfl
       | some rose =>
         dsimp only
         split
         · rfl
         · congr 1; funext _
           unfold dptB
           congr 1; funext _
           show (_ >>= _ : SM _) = _
           congr 1; funext c
           obtain ⟨r, m, q⟩ := c
           cases r with
           | some r => rfl
           | none =>
             dsimp only
             split
             · congr 1; funext _
               unfold talB
               congr 1; funext _
               show (_ >>= _ : SM _) = _
               congr 1; funext c
               obtain ⟨r, m⟩ := c
               cases r <;> rfl
             · unfold talB
               congr 1; funext _
               show (_ >>= _ : SM _) = _
               congr 1; funext c
               obtain ⟨r, m⟩ := c
               cases r <;> rfl
     · unfold dptB
       congr 1; funext _
       show (_ >>= _ : SM _) = _
       congr 1; funext c
       obtain ⟨r, m, q⟩ := c
       cases r with
       | some r => rfl
       | none =>
         dsimp only
         split
         · congr 1; funext _
           unfold talB
           congr 1; funext _
           show (_ >>= _ : SM _) = _
           congr 1; funext c
           obtain ⟨r, m⟩ := c
           cases r <;> rfl
         · unfold talB
           congr 1; funext _
           show (_ >>= _ : SM _) = _
           congr 1; funext c
           obtain ⟨r, m⟩ := c
           cases r <;> rfl
end L2
namespace L2
open PySem PyProof.Rows
structure SBr (kd : SortKind) (a₀ : Array Keyed) (lo : Nat) (st0 st : SortSt) : Prop where
 sb : SB kd a₀ st
 pend : pendingOf st = pendingOf st0
 out : ∀ j, j < lo -> (arrOf st)[j]? = (arrOf st0)[j]?
theorem vX {κ : Keyed -> Int} {xs : Array Keyed} {i j : Nat} (hj : j <= xs.size) (k : Nat) : kAt κ (mirror xs i j ((j - i) / 2)) k = if i <= k /\ k < j then kAt κ xs (i + j - 1 - k) else kAt κ xs k := by
 have e := getElem?_mirror_all (i := i) hj k
 by_cases h1 : i <= k /\ k < j
 · rw [if_pos h1] at e ⊢; exact xL e
 · rw [if_neg h1] at e ⊢; exact xL e
theorem jE {κ : Keyed -> Int} {xs : Array Keyed} {i j : Nat} (hj : j <= xs.size) (heq : ∀ k, i <= k -> k < j -> kAt κ xs k = kAt κ xs (j - 1)) (k : Nat) : kAt κ (mirror xs i j ((j - i) / 2)) k = kAt κ xs k := by
 rw [vX hj]
 split
 · rw [heq _ (by omega) (by omega), heq k (by omega) (by omega)]
 · rfl
theorem kAt_bub {κ : Keyed -> Int} {xs : Array Keyed} {src d : Nat} (hs : src < xs.size) (hd : d <= src) (k : Nat) : kAt κ (bubble xs src d) k = if k = src - d then kAt κ xs src else if src - d < k /\ k <= src then kAt κ xs (k - 1) else kAt κ xs k := by
 have e := getElem?_bubble hs d hd k
 by_cases h1 : k = src - d
 · rw [if_pos h1] at e ⊢; exact xL e
 · rw [if_neg h1] at e ⊢
   by_cases h2 : src - d < k /\ k <= src
   · rw [if_pos h2] at e ⊢; exact xL e
   · rw [if_neg h2] at e ⊢; exact xL e
section
variable {M : Model} {A : Around} {E : Value -> Shared -> Prop} {s : Shared} {st st0 : SortSt} {kd : SortKind} {S : Keyed -> Prop} {κ : Keyed -> Int} {a₀ : Array Keyed} {lo : Nat}
theorem SBr.mir (h : SBr kd a₀ lo st0 st) {i j d : Nat} (hi : lo <= i) (hj : j <= (arrOf st).size) (hd : d = (j - i) / 2) : SBr kd a₀ lo st0 (setArr st (mirror (arrOf st) i j d)) := by
 subst hd
 refine ⟨h.sb.setArr (Array.perm_iff_toList_perm.mp (mirror_perm _ _ _ _)), h.pend, fun k hk => ?_⟩
 show (mirror (arrOf st) i j _)[k]? = _
 rw [getElem?_mirror_all hj, if_neg (by omega)]
 exact h.out k hk
theorem SBr.bub (h : SBr kd a₀ lo st0 st) {src d : Nat} (hs : src < (arrOf st).size) (hd : lo + d <= src) : SBr kd a₀ lo st0 (setArr st (bubble (arrOf st) src d)) := by
 refine ⟨h.sb.setArr (Array.perm_iff_toList_perm.mp (bubble_perm _ _ _)), h.pend, fun k hk => ?_⟩
 show (bubble (arrOf st) src d)[k]? = _
 rw [getElem?_bubble hs d (by omega), if_neg (by omega), if_neg (by omega)]
 exact h.out k hk
theorem qD {i j : Nat} {Q : Option Bool -> SortSt -> Prop} (C : CmpO M A E s kd S κ) (h0 : ∀ p, p ∈ a₀.toList -> S p) (hB : SB kd a₀ st) (hi : i < a₀.size) (hj : j < a₀.size)
   (h : Q (some (decide (kAt κ (arrOf st) i < kAt κ (arrOf st) j))) st) : wpS M A E s (ltAt' i j) Q st := by
 have hz := hB.size
 obtain ⟨x, ex, hx⟩ := yT (arr := arrOf st) (i := i) (by omega)
 obtain ⟨y, ey, hy⟩ := yT (arr := arrOf st) (i := j) (by omega)
 rw [ltAt'_eq]
 refine wpS_bind (wpS_get ?_)
 show wpS _ _ _ _ (elem' (arrOf st) i >>= fun x => elem' (arrOf st) j >>= fun y => lt' x y) Q st
 refine wpS_bind (zY ex (wpS_bind (zY ey (C.lt (hB.mem h0 x hx) (hB.mem h0 y hy) hB.kind ?_))))
 rw [← yA (κ := κ) ex, ← yA (κ := κ) ey]
 exact h
theorem vT {i j : Nat} {Q : Unit -> SortSt -> Prop} (h : Q () (setArr st (mirror (arrOf st) i j ((j - i) / 2)))) : wpS M A E s (reverseSlice' i j) Q st := by
 rw [reverseSlice'_eq]; exact wpS_modify h
theorem ascB_ok {a nrem : Nat} {Q : AsT -> SortSt -> Prop} (C : CmpO M A E s kd S κ) (h0 : ∀ p, p ∈ a₀.toList -> S p) (hn : lo + nrem <= a₀.size) (ha : 1 <= a) (han : a <= nrem) (hB : SB kd a₀ st)
   (hs : yW κ (arrOf st) lo (lo + a))
   (h : ∀ n, a <= n -> n <= nrem -> yW κ (arrOf st) lo (lo + n) -> (n = nrem \/ kAt κ (arrOf st) (lo + n) < kAt κ (arrOf st) (lo + n - 1)) -> Q (none, n) st) :
   wpS M A E s (ascB lo a nrem) Q st := by
 unfold ascB
 refine wpS_forRange (I := fun x c st' => st' = st /\ c = (none, x) /\ yW κ (arrOf st) lo (lo + x)) ?step ?fin ⟨rfl, rfl, hs⟩
 case fin =>
   rintro c st' ⟨rfl, rfl, hs'⟩
   rw [show max a nrem = nrem by omega] at hs' ⊢
   exact h nrem han (Nat.le_refl _) hs' (.inl rfl)
 case step =>
   rintro x c st' hax hxn ⟨rfl, rfl, hs'⟩
   dsimp only
   refine wpS_bind (qD C h0 hB (by omega) (by omega) ?_)
   by_cases hl : kAt κ (arrOf st') (lo + x) < kAt κ (arrOf st') (lo + x - 1)
   · simp only [hl, decide_true, if_true]
     exact wpS_pure (h x hax (by omega) hs' (.inr hl))
   · simp only [hl, decide_false, Bool.false_eq_true, if_false]
     refine wpS_pure ⟨rfl, rfl, fun i j hi hij hj => ?_⟩
     by_cases hjx : j < lo + x
     · exact hs' i j hi hij hjx
     · have hj' : j = lo + x := by omega
       subst hj'
       by_cases hi' : i = lo + x
       · subst hi'; exact Int.le_refl _
       · exact Int.le_trans (hs' i (lo + x - 1) hi (by omega) (by omega)) (Int.not_lt.mp hl)
theorem talB_ok {n nrem : Nat} {Q : Option Nat -> SortSt -> Prop} (C : CmpO M A E s kd S κ) (h0 : ∀ p, p ∈ a₀.toList -> S p) (hn : lo + nrem <= a₀.size) (h1 : 1 <= n) (hnn : n <= nrem) (hB : SBr kd a₀ lo st0 st)
   (hs : NiB κ (arrOf st) lo (lo + n)) (h : ∀ m st', SBr kd a₀ lo st0 st' -> 1 <= m -> m <= nrem -> yW κ (arrOf st') lo (lo + m) -> Q (some m) st') :
   wpS M A E s (talB lo n nrem) Q st := by
 unfold talB
 have hsz : lo + n <= (arrOf st).size := by rw [hB.sb.size]; omega
 refine wpS_bind (vT ?_)
 have hB' := hB.mir (i := lo) (j := lo + n) (Nat.le_refl _) hsz rfl
 refine wpS_bind (ascB_ok C h0 hn h1 hnn hB'.sb ?_ fun m hm1 hm2 hsm _ => wpS_pure (h m _ hB' (by omega) hm2 hsm))
 intro i j hi hij hj
 show kAt κ (mirror (arrOf st) lo (lo + n) _) i <= kAt κ (mirror (arrOf st) lo (lo + n) _) j
 rw [vX hsz, vX hsz, if_pos (by omega), if_pos (by omega)]
 exact hs _ _ (by omega) (by omega) (by omega)
theorem dscB_ok {n nrem : Nat} {Q : DsT -> SortSt -> Prop} (C : CmpO M A E s kd S κ) (h0 : ∀ p, p ∈ a₀.toList -> S p) (hn : lo + nrem <= a₀.size) (h1 : 1 <= n) (hnn : n <= nrem) (hB : SBr kd a₀ lo st0 st)
   (hs : NiB κ (arrOf st) lo (lo + n))
   (h : ∀ m q st', SBr kd a₀ lo st0 st' -> n <= m -> m <= nrem -> NiB κ (arrOf st') lo (lo + m) -> q + 1 <= m -> (∀ i, lo + m - (q + 1) <= i -> i < lo + m -> kAt κ (arrOf st') i = kAt κ (arrOf st') (lo + m - 1)) -> Q (none, m, q) st') :
   wpS M A E s (dscB lo n nrem) Q st := by
 unfold dscB
 refine wpS_forRange (I := fun x c st' => ∃ q, c = (none, x, q) /\ SBr kd a₀ lo st0 st' /\ NiB κ (arrOf st') lo (lo + x) /\ q + 1 <= x /\
     (∀ i, lo + x - (q + 1) <= i -> i < lo + x -> kAt κ (arrOf st') i = kAt κ (arrOf st') (lo + x - 1))) ?step ?fin ⟨0, rfl, hB, hs, by omega, fun i h1 h2 => by congr 1; omega⟩
 case fin =>
   rintro c st' ⟨q, rfl, hB', hs', hq, he⟩
   rw [show max n nrem = nrem by omega] at hs' hq he ⊢
   exact h nrem q st' hB' hnn (Nat.le_refl _) hs' hq he
 case step =>
   rintro x c st' hax hxn ⟨q, rfl, hB', hs', hq, he⟩
   dsimp only
   have hsz : lo + x <= (arrOf st').size := by rw [hB'.sb.size]; omega
   refine wpS_bind (qD C h0 hB'.sb (by omega) (by omega) ?_)
   by_cases hl : kAt κ (arrOf st') (lo + x) < kAt κ (arrOf st') (lo + x - 1)
   · simp only [hl, decide_true, if_true]
     have step1 : ∀ xs : Array Keyed, (∀ k, kAt κ xs k = kAt κ (arrOf st') k) -> NiB κ xs lo (lo + (x + 1)) := by
       intro xs hk i j hi hij hj
       rw [hk, hk]
       by_cases hjx : j < lo + x
       · exact hs' i j hi hij hjx
       · have hj' : j = lo + x := by omega
         subst hj'
         by_cases hi' : i = lo + x
         · subst hi'; exact Int.le_refl _
         · exact Int.le_trans (Int.le_of_lt hl) (hs' i (lo + x - 1) hi (by omega) (by omega))
     by_cases hz : q > 0
     · rw [if_pos hz]
       refine wpS_bind (vT (wpS_pure ⟨0, rfl, hB'.mir (by omega) hsz rfl, step1 _ (jE hsz he), by omega, fun i h1 h2 => by congr 1; omega⟩))
     · rw [if_neg hz]
       exact wpS_pure ⟨0, rfl, hB', step1 _ (fun _ => rfl), by omega, fun i h1 h2 => by congr 1; omega⟩
   · simp only [hl, decide_false, Bool.false_eq_true, if_false]
     refine wpS_bind (qD C h0 hB'.sb (by omega) (by omega) ?_)
     by_cases hg : kAt κ (arrOf st') (lo + x - 1) < kAt κ (arrOf st') (lo + x)
     · simp only [hg, decide_true, if_true]
       exact wpS_pure (h x q st' hB' hax (by omega) hs' hq he)
     · simp only [hg, decide_false, Bool.false_eq_true, if_false]
       have hx : kAt κ (arrOf st') (lo + x) = kAt κ (arrOf st') (lo + x - 1) := by omega
       refine wpS_pure ⟨q + 1, rfl, hB', fun i j hi hij hj => ?_, by omega, fun i h1 h2 => ?_⟩
       · by_cases hjx : j < lo + x
         · exact hs' i j hi hij hjx
         · have hj' : j = lo + x := by omega
           subst hj'
           by_cases hi' : i = lo + x
           · subst hi'; exact Int.le_refl _
           · rw [hx]; exact hs' i (lo + x - 1) hi (by omega) (by omega)
       · rw [show lo + (x + 1) - 1 = lo + x by omega]
         by_cases hix : i = lo + x
         · subst hix; rfl
         · rw [hx]; exact he i (by omega) (by omega)
theorem dptB_ok {n nrem : Nat} {Q : Option Nat -> SortSt -> Prop} (C : CmpO M A E s kd S κ) (h0 : ∀ p, p ∈ a₀.toList -> S p) (hn : lo + nrem <= a₀.size) (hnn : n + 1 <= nrem) (hB : SBr kd a₀ lo st0 st)
   (hs : NiB κ (arrOf st) lo (lo + (n + 1))) (h : ∀ m st', SBr kd a₀ lo st0 st' -> 1 <= m -> m <= nrem -> yW κ (arrOf st') lo (lo + m) -> Q (some m) st') :
   wpS M A E s (dptB lo n nrem) Q st := by
 unfold dptB
 refine wpS_bind (wpS_lift (wpAny_rule ⟨rfl, ?_⟩))
 refine wpS_bind (dscB_ok C h0 hn (by omega) hnn hB hs fun m q st' hB' hm1 hm2 hs' hq he => ?_)
 dsimp only
 have hsz : lo + m <= (arrOf st').size := by rw [hB'.sb.size]; omega
 by_cases hz : q > 0
 · rw [if_pos hz]
   refine wpS_bind (vT (talB_ok C h0 hn (by omega) hm2 (hB'.mir (by omega) hsz rfl) ?_ h))
   intro i j hi hij hj
   show kAt κ (mirror (arrOf st') _ _ _) j <= kAt κ (mirror (arrOf st') _ _ _) i
   rw [jE hsz he, jE hsz he]
   exact hs' i j hi hij hj
 · rw [if_neg hz]
   exact talB_ok C h0 hn (by omega) hm2 hB' hs' h
theorem countRun_ok {nrem : Nat} {Q : Option Nat -> SortSt -> Prop} (C : CmpO M A E s kd S κ) (h0 : ∀ p, p ∈ a₀.toList -> S p) (hn : lo + nrem <= a₀.size) (h1 : 1 <= nrem) (hB : SBr kd a₀ lo st0 st)
   (h : ∀ m st', SBr kd a₀ lo st0 st' -> 1 <= m -> m <= nrem -> yW κ (arrOf st') lo (lo + m) -> Q (some m) st') :
   wpS M A E s (countRun' lo nrem) Q st := by
 rw [countB_eq]
 refine wpS_bind (ascB_ok C h0 hn (Nat.le_refl 1) h1 hB.sb (fun i j hi hij hj => by have : i = j := (by omega); subst this; exact Int.le_refl _) fun n hn1 hn2 hsn hor => ?_)
 dsimp only
 by_cases hnn : n = nrem
 · rw [if_pos (by simpa using hnn)]
   exact wpS_pure (h n st hB hn1 hn2 hsn)
 · rw [if_neg (by simpa using hnn)]
   have hlt := hor.resolve_left hnn
   by_cases hgt : n > 1
   · rw [if_pos hgt]
     refine wpS_bind (qD C h0 hB.sb (by omega) (by omega) ?_)
     by_cases hr : kAt κ (arrOf st) lo < kAt κ (arrOf st) (lo + n - 1)
     · simp only [hr, decide_true, if_true]
       exact wpS_pure (h n st hB hn1 hn2 hsn)
     · simp only [hr, decide_false, Bool.false_eq_true, if_false]
       have hsz : lo + n <= (arrOf st).size := by rw [hB.sb.size]; omega
       have hall : ∀ k, lo <= k -> k < lo + n -> kAt κ (arrOf st) k = kAt κ (arrOf st) (lo + n - 1) := by
         intro k hk0 hk
         have a1 := hsn lo k (by omega) hk0 hk
         have a2 := hsn k (lo + n - 1) hk0 (by omega) (by omega)
         omega
       refine wpS_bind (vT (dptB_ok C h0 hn (by omega) (hB.mir (Nat.le_refl _) hsz rfl) ?_ h))
       intro i j hi hij hj
       show kAt κ (mirror (arrOf st) _ _ _) j <= kAt κ (mirror (arrOf st) _ _ _) i
       rw [jE hsz hall, jE hsz hall]
       by_cases hjn : j < lo + n
       · rw [hall i (by omega) (by omega), hall j (by omega) hjn]; exact Int.le_refl _
       · have hj' : j = lo + n := by omega
         subst hj'
         by_cases hi' : i = lo + n
         · subst hi'; exact Int.le_refl _
         · rw [hall i (by omega) (by omega)]; exact Int.le_of_lt hlt
   · rw [if_neg hgt]
     have hn1' : n = 1 := by omega
     subst hn1'
     refine dptB_ok C h0 hn (by omega) hB ?_ h
     intro i j hi hij hj
     by_cases hi' : i = j
     · subst hi'; exact Int.le_refl _
     · have hi0 : i = lo := by omega
       have hj1 : j = lo + 1 := by omega
       subst hi0; subst hj1
       rw [Nat.add_sub_cancel] at hlt
       exact Int.le_of_lt hlt
theorem binSort_ok {n ok : Nat} {Q : Bool -> SortSt -> Prop} (C : CmpO M A E s kd S κ) (h0 : ∀ p, p ∈ a₀.toList -> S p) (hn : lo + n <= a₀.size) (hok : ok <= n) (hB : SBr kd a₀ lo st0 st) (hs : yW κ (arrOf st) lo (lo + ok))
   (h : ∀ st', SBr kd a₀ lo st0 st' -> yW κ (arrOf st') lo (lo + n) -> Q true st') : wpS M A E s (binarySort' lo n ok) Q st := by
 rw [binarySort'_eq]
 refine wpS_bind (wpS_mono (wpS_forRange (I := fun k c st' => c = (none, ()) /\ SBr kd a₀ lo st0 st' /\ yW κ (arrOf st') lo (lo + min k n))
   (Q := fun c st' => c = (none, ()) /\ SBr kd a₀ lo st0 st' /\ yW κ (arrOf st') lo (lo + n)) ?step ?fin ?init) ?post)
 case post =>
   rintro c st' ⟨rfl, hB', hs'⟩
   exact wpS_pure (h st' hB' hs')
 case init =>
   refine ⟨rfl, hB, fun i j hi hij hj => ?_⟩
   by_cases h1 : ok = 0
   · have : i = j := by omega
     subst this; exact Int.le_refl _
   · exact hs i j hi hij (by omega)
 case fin =>
   rintro c st' ⟨hc, hB', hs'⟩
   refine ⟨hc, hB', ?_⟩
   rwa [show min (max (max ok 1) n) n = n by omega] at hs'
 case step =>
   rintro k c st' hak hkn ⟨rfl, hB', hs'⟩
   rw [show min k n = k by omega] at hs'
   have hk : lo + k < a₀.size := by omega
   refine wpS_bind (wpS_mono (wpS_forRange (I := fun x c st'' => st'' = st' /\ ∃ l r, c = (none, l, r) /\ l <= r /\ r <= k /\ r - l <= k - x /\
       (∀ i, i < l -> kAt κ (arrOf st') (lo + i) <= kAt κ (arrOf st') (lo + k)) /\ (∀ i, r <= i -> i < k -> kAt κ (arrOf st') (lo + k) < kAt κ (arrOf st') (lo + i)))
     (Q := fun c st'' => st'' = st' /\ ∃ l r, c = (none, l, r) /\ l <= k /\
       (∀ i, i < l -> kAt κ (arrOf st') (lo + i) <= kAt κ (arrOf st') (lo + k)) /\ (∀ i, l <= i -> i < k -> kAt κ (arrOf st') (lo + k) < kAt κ (arrOf st') (lo + i))) ?istep ?ifin ?iinit) ?ipost)
   case iinit => exact ⟨rfl, 0, k, rfl, by omega, by omega, by omega, fun i hi => by omega, fun i h1 h2 => by omega⟩
   case ifin =>
     rintro c st'' ⟨rfl, l, r, rfl, hlr, hrk, hm, hlo, hhi⟩
     have : l = r := by omega
     subst this
     exact ⟨rfl, l, l, rfl, hrk, hlo, hhi⟩
   case istep =>
     rintro x c st'' _ hxk ⟨rfl, l, r, rfl, hlr, hrk, hm, hlo, hhi⟩
     dsimp only
     by_cases hge : l ≥ r
     · rw [if_pos hge]
       have : l = r := by omega
       subst this
       exact wpS_pure ⟨rfl, l, l, rfl, hrk, hlo, hhi⟩
     · rw [if_neg hge]
       refine wpS_bind (qD C h0 hB'.sb hk (by omega) ?_)
       by_cases hl : kAt κ (arrOf st'') (lo + k) < kAt κ (arrOf st'') (lo + (l + r) / 2)
       · simp only [hl, decide_true, if_true]
         refine wpS_pure ⟨rfl, l, (l + r) / 2, rfl, by omega, by omega, by omega, hlo, fun i h1 h2 => ?_⟩
         exact Int.lt_of_lt_of_le hl (hs' _ _ (by omega) (by omega) (by omega))
       · simp only [hl, decide_false, Bool.false_eq_true, if_false]
         refine wpS_pure ⟨rfl, (l + r) / 2 + 1, r, rfl, by omega, by omega, by omega, fun i h1 => ?_, hhi⟩
         exact Int.le_trans (hs' (lo + i) (lo + (l + r) / 2) (by omega) (by omega) (by omega)) (Int.not_lt.mp hl)
   case ipost =>
     rintro c st'' ⟨rfl, l, r, rfl, hlk, hlo, hhi⟩
     show wpS _ _ _ _ (moveDown' (lo + k) (lo + l) >>= fun _ => pure (ForInStep.yield (none, ()))) _ _
     rw [moveDown'_eq]
     have hks : lo + k < (arrOf st'').size := by rw [hB'.sb.size]; exact hk
     refine wpS_bind (wpS_modify (wpS_pure ⟨rfl, hB'.bub hks (by omega), ?_⟩))
     rw [show min (k + 1) n = k + 1 by omega]
     intro i j hi hij hj
     show kAt κ (bubble (arrOf st'') (lo + k) (lo + k - (lo + l))) i <= kAt κ (bubble (arrOf st'') (lo + k) (lo + k - (lo + l))) j
     have hlo' : ∀ i, lo <= i -> i < lo + l -> kAt κ (arrOf st'') i <= kAt κ (arrOf st'') (lo + k) := fun i h1 h2 => by
       have := hlo (i - lo) (by omega)
       rwa [show lo + (i - lo) = i by omega] at this
     have hhi' : ∀ i, lo + l <= i -> i < lo + k -> kAt κ (arrOf st'') (lo + k) <= kAt κ (arrOf st'') i := fun i h1 h2 => by
       have := hhi (i - lo) (by omega) (by omega)
       rw [show lo + (i - lo) = i by omega] at this
       exact Int.le_of_lt this
     rw [kAt_bub hks (by omega), kAt_bub hks (by omega), show lo + k - (lo + k - (lo + l)) = lo + l by omega]
     repeat' split
     all_goals first
       | (exfalso; omega)
       | exact Int.le_refl _
       | exact hlo' _ (by omega) (by omega)
       | exact hhi' _ (by omega) (by omega)
       | exact hs' _ _ (by omega) (by omega) (by omega)
end
end L2
namespace L2
open PySem PyProof.Rows
abbrev uL := Nat × Nat × Nat
def Chn (κ : Keyed -> Int) (xs : Array Keyed) : Nat -> List uL -> Nat -> Prop
 | s, [], e => s = e
 | s, x :: l, e => x.1 = s /\ 1 <= x.2.1 /\ yW κ xs s (s + x.2.1) /\ Chn κ xs (s + x.2.1) l e
section
variable {κ : Keyed -> Int} {xs ys : Array Keyed}
theorem Chn.le : ∀ {l : List uL} {s e : Nat}, Chn κ xs s l e -> s + l.length <= e
 | [], s, e, h => by have h : s = e := h; simp [h]
 | x :: l, s, e, ⟨h1, h2, h3, h4⟩ => by
   have := Chn.le h4
   simp only [List.length_cons]; omega
theorem Chn.app : ∀ {l1 l2 : List uL} {s e : Nat}, Chn κ xs s (l1 ++ l2) e -> ∃ m, Chn κ xs s l1 m /\ Chn κ xs m l2 e
 | [], l2, s, e, h => ⟨s, rfl, h⟩
 | x :: l1, l2, s, e, ⟨h1, h2, h3, h4⟩ => by
   obtain ⟨m, a1, a2⟩ := Chn.app h4
   exact ⟨m, ⟨h1, h2, h3, a1⟩, a2⟩
theorem Chn.join : ∀ {l1 l2 : List uL} {s m e : Nat}, Chn κ xs s l1 m -> Chn κ xs m l2 e -> Chn κ xs s (l1 ++ l2) e
 | [], l2, s, m, e, h, h' => by have h : s = m := h; subst h; exact h'
 | x :: l1, l2, s, m, e, ⟨h1, h2, h3, h4⟩, h' => ⟨h1, h2, h3, Chn.join h4 h'⟩
theorem Chn.cg : ∀ {l : List uL} {s e : Nat}, Chn κ xs s l e -> (∀ j, s <= j -> j < e -> ys[j]? = xs[j]?) -> Chn κ ys s l e
 | [], s, e, h, _ => h
 | x :: l, s, e, ⟨h1, h2, h3, h4⟩, hc => by
   have hle := Chn.le h4
   refine ⟨h1, h2, fun p q a1 a2 a3 => ?_, Chn.cg h4 fun j a b => hc j (by omega) b⟩
   rw [xL (hc p (by omega) (by omega)), xL (hc q (by omega) (by omega))]
   exact h3 p q a1 a2 a3
theorem Chn.mod : ∀ {l : List uL} {s e : Nat} (i : Nat) (f : uL -> uL), (∀ x, (f x).1 = x.1 /\ (f x).2.1 = x.2.1) -> Chn κ xs s l e -> Chn κ xs s (l.modify i f) e
 | [], s, e, i, f, _, h => by simpa using h
 | x :: l, s, e, 0, f, hf, ⟨h1, h2, h3, h4⟩ => by
   show Chn κ xs s (f x :: l) e
   obtain ⟨a, b⟩ := hf x
   refine ⟨a.trans h1, ?_, ?_, ?_⟩ <;> rw [b] <;> assumption
 | x :: l, s, e, i + 1, f, hf, ⟨h1, h2, h3, h4⟩ => by
   show Chn κ xs s (x :: l.modify i f) e
   exact ⟨h1, h2, h3, Chn.mod i f hf h4⟩
theorem l_two {l : List uL} {i : Nat} (h : i + 1 < l.length) : ∃ l1 a b l2, l = l1 ++ a :: b :: l2 /\ l1.length = i /\ l[i]? = some a /\ l[i + 1]? = some b := by
 refine ⟨l.take i, l[i], l[i + 1], l.drop (i + 2), ?_, by rw [List.length_take]; omega, List.getElem?_eq_getElem _, List.getElem?_eq_getElem _⟩
 have e1 : l.drop i = l[i] :: l.drop (i + 1) := List.drop_eq_getElem_cons (by omega)
 have e2 : l.drop (i + 1) = l[i + 1] :: l.drop (i + 2) := List.drop_eq_getElem_cons (by omega)
 rw [← e2, ← e1, List.take_append_drop]
theorem l_merge (l1 l2 : List uL) (a b x : uL) : ((l1 ++ a :: b :: l2).set l1.length x).eraseIdx (l1.length + 1) = l1 ++ x :: l2 := by
 rw [List.set_append_right _ _ (Nat.le_refl _), Nat.sub_self, List.set_cons_zero, List.eraseIdx_append_of_length_le (by omega), Nat.add_sub_cancel_left]
 rfl
end
section
variable {M : Model} {A : Around} {E : Value -> Shared -> Prop} {s : Shared} {st st0 : SortSt} {kd : SortKind} {S : Keyed -> Prop} {κ : Keyed -> Int} {a₀ : Array Keyed}
theorem vB {i e : Nat} {Q : Bool -> SortSt -> Prop} (C : CmpO M A E s kd S κ) (h0 : ∀ p, p ∈ a₀.toList -> S p) (hB : SB kd a₀ st) (hc : Chn κ (arrOf st) 0 (pendingOf st).toList e) (he : e <= a₀.size) (hi : i + 1 < (pendingOf st).size)
   (h : ∀ st', SB kd a₀ st' -> Chn κ (arrOf st') 0 (pendingOf st').toList e -> (pendingOf st').size + 1 = (pendingOf st).size -> (∀ j, e <= j -> (arrOf st')[j]? = (arrOf st)[j]?) -> Q true st') : wpS M A E s (mergeAt' i) Q st := by
 obtain ⟨l1, ⟨sa, na, pw⟩, ⟨sb, nb, w⟩, l2, e1, e2, e3, e4⟩ := l_two (l := (pendingOf st).toList) (by simpa using hi)
 have hc' := hc
 rw [e1] at hc'
 obtain ⟨m, c1, c2, c3, c4, c5, c6, c7, c8⟩ := hc'.app
 dsimp only at c2 c3 c4 c5 c6 c7 c8
 have hl := c8.le
 have hm := c1.le
 subst c2
 refine mergeAt_ok C h0 hB (by rw [← Array.getElem?_toList]; exact e3) (by rw [← Array.getElem?_toList]; exact e4) c3 c6 c5 (by omega) c4 (by rw [c5]; exact c7) fun st' b1 b2 b3 b4 => ?_
 have hp : (pendingOf st').toList = l1 ++ (sa, na + nb, pw) :: l2 := by
   rw [b2]
   have : (((pendingOf st).setIfInBounds i (sa, na + nb, pw)).eraseIdxIfInBounds (i + 1)).toList = ((pendingOf st).toList.set i (sa, na + nb, pw)).eraseIdx (i + 1) := by simp
   rw [this, e1, ← e2, l_merge]
 refine h st' b1 ?_ ?_ fun j hj => b4 j (by omega)
 · rw [hp]
   refine (c1.cg fun j _ hj => b4 j (.inl hj)).join ⟨rfl, by dsimp only; omega, ?_, ?_⟩
   · dsimp only
     rw [← Nat.add_assoc, ← c5]; exact b3
   · dsimp only
     rw [← Nat.add_assoc]
     exact c8.cg fun j hj _ => b4 j (.inr (by omega))
 · rw [← Array.length_toList, ← Array.length_toList, hp, e1]
   simp only [List.length_append, List.length_cons]; omega
theorem force_ok {β : Type} {lo n mr size : Nat} {dn X Y : SM β} {Q : β -> SortSt -> Prop} (C : CmpO M A E s kd S κ) (h0 : ∀ p, p ∈ a₀.toList -> S p) (hsz : size = a₀.size) (hB : SBr kd a₀ lo st0 st) (h1 : 1 <= n) (hn : lo + n <= size) (hs : yW κ (arrOf st) lo (lo + n))
   (hX : ∀ n', n' = min (size - lo) mr -> ∀ st', SBr kd a₀ lo st0 st' -> 1 <= n' -> lo + n' <= size -> yW κ (arrOf st') lo (lo + n') -> wpS M A E s X Q st')
   (hY : ∀ n', n' = n -> ∀ st', SBr kd a₀ lo st0 st' -> 1 <= n' -> lo + n' <= size -> yW κ (arrOf st') lo (lo + n') -> wpS M A E s Y Q st') :
   wpS M A E s (if n < mr then (liftM (rule "list.sort.binary-insertion") >>= fun _ => binarySort' lo (min (size - lo) mr) n >>= fun b => if (!b) = true then dn else X) else Y) Q st := by
 by_cases hlt : n < mr
 · rw [if_pos hlt]
   refine wpS_bind (wpS_lift (wpAny_rule ⟨rfl, ?_⟩))
   refine wpS_bind (binSort_ok C h0 (by omega) (by omega) hB hs fun st' b1 b2 => ?_)
   simp only [Bool.not_true, Bool.false_eq_true, if_false]
   exact hX _ rfl st' b1 (by omega) (by omega) b2
 · rw [if_neg hlt]
   exact hY n rfl st hB h1 hn hs
theorem sortRuns_ok {Q : Unit -> SortSt -> Prop} (C : CmpO M A E s kd S κ) (h0 : ∀ p, p ∈ a₀.toList -> S p) (hB : SB kd a₀ st) (hp : pendingOf st = #[])
   (h : ∀ st', SB kd a₀ st' -> yW κ (arrOf st') 0 a₀.size -> Q () st') : wpS M A E s sortRuns' Q st := by
 rw [sortRuns'_eq]
 refine wpS_bind (wpS_get ?_)
 dsimp only
 simp only [hB.size]
 generalize minRun' a₀.size a₀.size 0 = mr
 refine wpS_bind (wpS_mono (wpS_forRange
   (I := fun x c st' => ∃ lo, c = (none, lo) /\ x <= lo /\ lo <= a₀.size /\ SB kd a₀ st' /\ Chn κ (arrOf st') 0 (pendingOf st').toList lo)
   (Q := fun c st' => c = (none, a₀.size) /\ SB kd a₀ st' /\ Chn κ (arrOf st') 0 (pendingOf st').toList a₀.size) ?step ?fin ⟨0, rfl, Nat.le_refl _, Nat.zero_le _, hB, by rw [hp]; rfl⟩) ?post)
 case fin =>
   rintro c st' ⟨lo, rfl, a1, a2, a3, a4⟩
   have : lo = a₀.size := by omega
   subst this
   exact ⟨rfl, a3, a4⟩
 case step =>
   rintro x c st' _ hx ⟨lo, rfl, a1, a2, a3, a4⟩
   dsimp only
   by_cases hge : lo ≥ a₀.size
   · rw [if_pos hge]
     have : lo = a₀.size := by omega
     subst this
     exact wpS_pure ⟨rfl, a3, a4⟩
   · rw [if_neg hge]
     refine wpS_bind (countRun_ok (st0 := st') C h0 (by omega) (by omega) ⟨a3, rfl, fun _ _ => rfl⟩ fun m st2 hB2 hm1 hm2 hs2 => ?_)
     dsimp only
     refine force_ok C h0 rfl hB2 hm1 (by omega) hs2 (fun n hn st3 hB3 hn1 hn2 hs3 => ?_) (fun n hn st3 hB3 hn1 hn2 hs3 => ?_)
     all_goals
       rw [← hn]
       have hc3 : Chn κ (arrOf st3) 0 (pendingOf st3).toList lo := by rw [hB3.pend]; exact a4.cg fun j _ hj => hB3.out j hj
       have fin : ∀ (st4 : SortSt), SB kd a₀ st4 -> Chn κ (arrOf st4) 0 (pendingOf st4).toList lo -> yW κ (arrOf st4) lo (lo + n) ->
           ∃ lo', (none, lo + n) = ((none, lo') : Option Unit × Nat) /\ x + 1 <= lo' /\ lo' <= a₀.size /\ SB kd a₀ (setPending st4 ((pendingOf st4).push (lo, n, 0))) /\ Chn κ (arrOf (setPending st4 ((pendingOf st4).push (lo, n, 0)))) 0 (pendingOf (setPending st4 ((pendingOf st4).push (lo, n, 0)))).toList lo' := by
         intro st4 b1 b2 b3
         refine ⟨lo + n, rfl, by omega, hn2, ⟨b1.perm, b1.kind, b1.fail⟩, ?_⟩
         show Chn κ (arrOf st4) 0 ((pendingOf st4).push (lo, n, 0)).toList (lo + n)
         rw [Array.toList_push]
         exact b2.join ⟨rfl, hn1, b3, rfl⟩
       refine wpS_bind (wpS_get ?_)
       cases hb : (pendingOf st3).back? with
       | none =>
         dsimp only
         exact wpS_bind (wpS_modify (wpS_pure (fin st3 hB3.sb hc3 hs3)))
       | some r =>
         obtain ⟨s1, n1, p1⟩ := r
         dsimp only
         generalize power' a₀.size (2 * s1 + n1) (2 * s1 + n1 + n1 + n) a₀.size = pw
         refine wpS_bind (wpS_mono (wpS_forRange
           (I := fun _ c st4 => c = (none, ()) /\ SB kd a₀ st4 /\ Chn κ (arrOf st4) 0 (pendingOf st4).toList lo /\ yW κ (arrOf st4) lo (lo + n))
           (Q := fun c st4 => c = (none, ()) /\ SB kd a₀ st4 /\ Chn κ (arrOf st4) 0 (pendingOf st4).toList lo /\ yW κ (arrOf st4) lo (lo + n)) ?_ (fun _ _ hh => hh) ⟨rfl, hB3.sb, hc3, hs3⟩) ?_)
         · rintro y c st4 _ _ ⟨rfl, b1, b2, b3⟩
           refine wpS_bind (wpS_get ?_)
           skip
           by_cases hz : (pendingOf st4).size > 1
           · rw [if_pos hz]
             rw [getElem?_pos (pendingOf st4) ((pendingOf st4).size - 2) (by omega)]
             generalize (pendingOf st4)[(pendingOf st4).size - 2] = r
             obtain ⟨r1, r2, older⟩ := r
             dsimp only
             by_cases ho : older <= pw
             · rw [if_pos ho]
               exact wpS_pure ⟨rfl, b1, b2, b3⟩
             · rw [if_neg ho]
               refine wpS_bind (vB C h0 b1 b2 a2 (by omega) fun st5 d1 d2 d3 d4 => ?_)
               simp only [Bool.not_true, Bool.false_eq_true, if_false]
               refine wpS_pure ⟨rfl, d1, d2, fun p q e1 e2 e3 => ?_⟩
               rw [xL (d4 p e1), xL (d4 q (by omega))]
               exact b3 p q e1 e2 e3
           · rw [if_neg hz]
             exact wpS_pure ⟨rfl, b1, b2, b3⟩
         · rintro c st4 ⟨rfl, b1, b2, b3⟩
           dsimp only
           refine wpS_bind (wpS_modify ?_)
           refine wpS_bind (wpS_modify (wpS_pure (fin (setPending st4 _) ⟨b1.perm, b1.kind, b1.fail⟩ ?_ b3)))
           show Chn κ (arrOf st4) 0 ((pendingOf st4).modify _ _).toList lo
           rw [Array.toList_modify]
           exact b2.mod _ _ fun _ => ⟨rfl, rfl⟩
 case post =>
   rintro c st' ⟨rfl, hB', hc'⟩
   dsimp only
   have hl0 := hc'.le
   rw [Array.length_toList] at hl0
   refine wpS_bind (wpS_mono (wpS_forRange
     (I := fun x c st'' => c = (none, ()) /\ SB kd a₀ st'' /\ Chn κ (arrOf st'') 0 (pendingOf st'').toList a₀.size /\ (pendingOf st'').size <= a₀.size - x + 1)
     (Q := fun c st'' => c = (none, ()) /\ SB kd a₀ st'' /\ Chn κ (arrOf st'') 0 (pendingOf st'').toList a₀.size /\ (pendingOf st'').size <= 1) ?_ ?_ ⟨rfl, hB', hc', by omega⟩) ?_)
   · rintro x c st4 _ hx ⟨rfl, b1, b2, b3⟩
     refine wpS_bind (wpS_get ?_)
     skip
     by_cases hz : (pendingOf st4).size <= 1
     · rw [if_pos hz]
       exact wpS_pure ⟨rfl, b1, b2, hz⟩
     · rw [if_neg hz]
       refine wpS_bind (vB C h0 b1 b2 (Nat.le_refl _) ?_ fun st5 d1 d2 d3 d4 => ?_)
       · by_cases hi0 : (pendingOf st4).size - 2 > 0
         · rw [if_pos hi0]
           split <;> omega
         · rw [if_neg hi0]
           simp only [Option.any_none, Bool.false_eq_true, if_false]
           omega
       · simp only [Bool.not_true, Bool.false_eq_true, if_false]
         exact wpS_pure ⟨rfl, d1, d2, by omega⟩
   · rintro c st4 ⟨rfl, b1, b2, b3⟩
     exact ⟨rfl, b1, b2, by omega⟩
   · rintro c st4 ⟨rfl, b1, b2, b3⟩
     refine wpS_pure (h st4 b1 ?_)
     rw [← Array.length_toList] at b3
     match hl : (pendingOf st4).toList, b2, b3 with
     | [], b2, _ =>
       have b2 : 0 = a₀.size := b2
       intro p q e1 e2 e3
       omega
     | [x], ⟨c1, c2, c3, c4⟩, _ =>
       have c4 : 0 + x.2.1 = a₀.size := c4
       rw [c4] at c3
       exact c3
end
end L2
namespace L2
open PySem PySem.Spec PyProof.Rows PySem.SeqAt PySem.W
def κP (pf : Addr -> Int × Int) (p : Keyed) : Int := match p.1 with
 | .ref a => 1000 * (pf a).1 + (pf a).2
 | _ => 0
def PrLie (h : Heap) (pf : Addr -> Int × Int) (a : Addr) : Prop := ∃ (o : Obj) (n : Nat) (t u : Tok), h.get? a = some o /\ o.cls = .type "tuple" /\ o.data = .seq #[.int (pf a).1 t, .int (pf a).2 u] n /\ (0 <= (pf a).1 /\ (pf a).1 < 1000) /\ 0 <= (pf a).2 /\ (pf a).2 < 1000
section
variable {prog : Program} {w : World} {A : Around} {E : Value -> Shared -> Prop} {s : Shared}
theorem oneLt_intG {a b : Int} {t u : Tok} {Q : Bool -> Shared -> Prop} (h : Q (decide (a < b)) s) : wpAny (model prog w) A (oneLt' false (.int a t) (.int b u)) Q E s := by
 rw [oneLt'_eq]
 simp only [Bool.false_eq_true, if_false]
 refine wpAny_bind (wpAny_richCompare_same (typeIs_int s a t) (typeIs_int s b u) slot_int_lt (call_int_lt ⟨(by intro z; cases z), ?_⟩))
 exact wpAny_truthy_bool h
theorem cmpP {as : List Addr} {pf : Addr -> Int × Int} (hp : ∀ a ∈ as, PrLie s.heap pf a) : CmpO (model prog w) A E s (tuples' true) (fun p => ∃ a ∈ as, p.1 = .ref a) (κP pf) := by
 refine ⟨fun {x y st Q} hx hy hk h => ?_⟩
 obtain ⟨a, ha, ex⟩ := hx
 obtain ⟨b, hb, ey⟩ := hy
 obtain ⟨oa, na, t1, u1, a1, a2, a3, a4, a5⟩ := hp a ha
 obtain ⟨ob, nb, t2, u2, b1, b2, b3, b4, b5⟩ := hp b hb
 rw [lt'_eq]
 refine wpS_bind (wpS_get ?_)
 rw [hk, ex, ey]
 have e : decide (κP pf x < κP pf y) = decide ((pf a).1 < (pf b).1 \/ ((pf a).1 = (pf b).1 /\ (pf a).2 < (pf b).2)) := by
   unfold κP
   rw [ex, ey]
   refine decide_eq_decide.mpr ?_
   show 1000 * (pf a).1 + (pf a).2 < 1000 * (pf b).1 + (pf b).2 ↔ _
   omega
 rw [e] at h
 refine wpS_bind (wpS_lift (wpAny_attempt (kat_lt a1 a3 b1 b3 ?_)))
 show KatLex _ _ _ _ _ _ ((Value.int (pf a).1 t1, Value.int (pf b).1 t2) :: (Value.int (pf a).2 u1, Value.int (pf b).2 u2) :: []) 0 s
 refine kat_cons (wpAny_eqBool_int ?_)
 by_cases c1 : (pf a).1 = (pf b).1
 · rw [show ((pf a).1 == (pf b).1) = true by simpa using c1]
   refine kat_yes (kat_cons (wpAny_eqBool_int ?_))
   by_cases c2 : (pf a).2 = (pf b).2
   · rw [show ((pf a).2 == (pf b).2) = true by simpa using c2]
     refine kat_yes (kat_nil ⟨rfl, ?_⟩)
     rw [decide_eq_false (by omega)] at h
     exact wpS_pure h
   · rw [show ((pf a).2 == (pf b).2) = false by simpa using c2]
     refine kat_no ?_
     show wpAny _ _ (oneLt' false _ _) _ _ _
     refine oneLt_intG ⟨rfl, ?_⟩
     rw [show decide ((pf a).1 < (pf b).1 \/ ((pf a).1 = (pf b).1 /\ (pf a).2 < (pf b).2)) = decide ((pf a).2 < (pf b).2) from decide_eq_decide.mpr (by omega)] at h
     exact wpS_pure h
 · rw [show ((pf a).1 == (pf b).1) = false by simpa using c1]
   refine kat_no ?_
   show wpAny _ _ (oneLt' true _ _) _ _ _
   refine oneLt_int ⟨rfl, ?_⟩
   rw [show decide ((pf a).1 < (pf b).1 \/ ((pf a).1 = (pf b).1 /\ (pf a).2 < (pf b).2)) = decide ((pf a).1 < (pf b).1) from decide_eq_decide.mpr (by omega)] at h
   exact wpS_pure h
theorem map_ref {as : List Addr} {l : List Value} (h : l.Perm (as.map Value.ref)) : ∃ as' : List Addr, l = as'.map Value.ref /\ as'.Perm as := by
 have hv : ∀ v ∈ l, ∃ a, v = Value.ref a := fun v hv => by
   obtain ⟨a, _, e⟩ := List.mem_map.mp (h.mem_iff.mp hv)
   exact ⟨a, e.symm⟩
 have ho : l = (l.map fun v => match v with | .ref a => a | _ => 0).map Value.ref := by
   rw [List.map_map]
   conv => lhs; rw [← List.map_id l]
   refine List.map_congr_left fun v hv' => ?_
   obtain ⟨a, rfl⟩ := hv v hv'
   rfl
 refine ⟨_, ho, ?_⟩
 have h2 := List.Perm.map (fun v : Value => match v with | .ref a => a | _ => (0 : Addr)) h
 rw [List.map_map] at h2
 have h3 : as.map ((fun v : Value => match v with | .ref a => a | _ => (0 : Addr)) ∘ Value.ref) = as := by
   conv => rhs; rw [← List.map_id as]
   rfl
 rwa [h3] at h2
theorem list_sortQ {a : Addr} {as : List Addr} {pf : Addr -> Int × Int} {n : Nat} {P : PySem.Fin -> Shared -> Prop} (ho : s.heap.get? a = some (seqObj "list" (as.map Value.ref).toArray n)) (hbig : as.length < 100000) (hp : ∀ b ∈ as, PrLie s.heap pf b)
   (h : ∀ (as' : List Addr), as'.Perm as -> (as'.Pairwise fun x y => 1000 * (pf x).1 + (pf x).2 <= 1000 * (pf y).1 + (pf y).2) -> P (.done (.ret .none)) { s with heap := sortedHeap s.heap a (as.map Value.ref) (as'.map Value.ref).toArray }) : wpAny (model prog w) A (Builtin.«list.sort» ⟨[.ref a], []⟩) P E s := by
 rw [list_sort_plain]
 have ha : a < s.heap.objs.size := Heap.lt_size ho
 have hsz : (as.map Value.ref).toArray.size = as.length := by simp
 refine wpAny_bind (listItems_at ho rfl ?_); refine wpAny_bind (listUpdate_at ho rfl ?_ (by rw [hsz, sizeLine_eq]; omega) (Nat.zero_le _))
 obtain ⟨e1, ho1⟩ : ∃ e1, (s.heap.update a (Obj.mapSeq fun _ => #[])).get? a = some (seqObj "list" #[] e1) := ⟨_, get?_update_seq ho (fun _ => #[])⟩
 refine wpAny_bind (seqEpoch_at ho1 rfl ?_); refine wpAny_bind (wpAny_newTuple ?_ (by show (as.map Value.ref).length <= _; rw [List.length_map, sizeLine_eq]; omega))
 refine wpAny_bind (wpAny_newList ?_ (Nat.zero_le _)); refine wpAny_holding ?_
 have ho6 : (((s.heap.update a (Obj.mapSeq fun _ => #[])).push (seqObj "tuple" (as.map Value.ref).toArray 0)).push (seqObj "list" #[] 0)).get? a = some (seqObj "list" #[] e1) := by
   rw [Heap.get?_push_ne _ _ _ (by rw [size_push', Heap.size_update]; exact Nat.ne_of_lt (Nat.lt_succ_of_lt ha)), Heap.get?_push_ne _ _ _ (by rw [Heap.size_update]; exact Nat.ne_of_lt ha)]; exact ho1
 have keep : ∀ b o, b ≠ a -> s.heap.get? b = some o -> (((s.heap.update a (Obj.mapSeq fun _ => #[])).push (seqObj "tuple" (as.map Value.ref).toArray 0)).push (seqObj "list" #[] 0)).get? b = some o := fun b o hb e => Heap.get?_push_of_some _ (Heap.get?_push_of_some _ ((Heap.get?_update_other _ _ (Ne.symm hb)).trans e))
 have hp' : ∀ b ∈ as, PrLie (((s.heap.update a (Obj.mapSeq fun _ => #[])).push (seqObj "tuple" (as.map Value.ref).toArray 0)).push (seqObj "list" #[] 0)) pf b := fun b hb => by
   obtain ⟨o, n', t, u, h1, h2, h3, h4⟩ := hp b hb
   have hne : b ≠ a := fun e => by
     rw [e, ho] at h1
     cases h1
     exact absurd (Value.type.inj h2) (by decide)
   exact ⟨o, n', t, u, keep b o hne h1, h2, h3, h4⟩
 show wpAny (model prog w) A _ P E { s with heap := ((s.heap.update a (Obj.mapSeq fun _ => #[])).push (seqObj "tuple" (as.map Value.ref).toArray 0)).push (seqObj "list" #[] 0) }
 generalize hG : ((s.heap.update a (Obj.mapSeq fun _ => #[])).push (seqObj "tuple" (as.map Value.ref).toArray 0)).push (seqObj "list" #[] 0) = G at ho6 hp' ⊢
 have fin : ∀ as' : List Addr, as'.Perm as -> (as'.Pairwise fun x y => 1000 * (pf x).1 + (pf x).2 <= 1000 * (pf y).1 + (pf y).2) -> P (.done (.ret .none)) { s with heap := G.update a (Obj.mapSeq fun _ => (as'.map Value.ref).toArray) } := fun as' h1 h2 => by
   have := h as' h1 h2
   unfold sortedHeap at this
   rw [hG] at this
   exact this
 dsimp only
 by_cases h2 : (as.map Value.ref).toArray.size < 2
 · rw [if_pos h2, if_pos h2]; refine wpAny_bind (wpAny_pure ?_)
   rw [StateT.run_pure]; refine wpAny_bind (wpAny_pure ?_); dsimp only
   have e : ((as.map Value.ref).toArray.zip (as.map Value.ref).toArray).map (·.2) = (as.map Value.ref).toArray := by
     apply Array.toList_inj.mp
     simp [List.map_snd_zip]
   refine wpAny_bind (seqEpoch_at ho6 rfl ?_)
   refine wpAny_bind (listUpdate_at ho6 rfl ?_ (Nat.zero_le _) (by show (((as.map Value.ref).toArray.zip (as.map Value.ref).toArray).map (·.2)).size <= _; rw [e, hsz, sizeLine_eq]; omega))
   simp only [bne_self_eq_false, Bool.false_eq_true, if_false]
   refine wpAny_pure ?_
   show P _ { s with heap := G.update a (Obj.mapSeq fun _ => ((as.map Value.ref).toArray.zip (as.map Value.ref).toArray).map (·.2)) }
   rw [e]
   refine fin as (List.Perm.refl _) ?_
   rw [hsz] at h2
   rcases as with _ | ⟨x, _ | ⟨y, l⟩⟩
   · exact .nil
   · simp
   · simp at h2; omega
 · rw [if_neg h2, if_neg h2]
   rw [hsz] at h2
   have hkk : ∀ (Q : SortKind -> Shared -> Prop), Q (tuples' true) { s with heap := G } -> wpAny (model prog w) A (keyKind' (as.map Value.ref).toArray) Q E { s with heap := G } := fun Q hq => by
     have kt : ∀ l : List Addr, (∀ b ∈ l, PrLie G pf b) -> ∃ fs, KatTups G (l.map Value.ref) fs /\ fs.length = l.length /\ ∀ f ∈ fs, ∃ z tk, f = Value.int z tk := by
       intro l
       induction l with
       | nil => exact fun _ => ⟨[], trivial, rfl, fun _ h => nomatch h⟩
       | cons b l ih =>
         intro hl
         obtain ⟨fs, k1, k2, k3⟩ := ih fun c hc => hl c (List.mem_cons_of_mem _ hc)
         obtain ⟨o, n', t, u, g1, g2, g3, _⟩ := hl b List.mem_cons_self
         refine ⟨Value.int (pf b).1 t :: fs, ⟨⟨b, o, _, n', rfl, g1, g2, g3, by simp⟩, k1⟩, by simp [k2], fun f hf => ?_⟩
         rcases List.mem_cons.mp hf with e | hf
         · exact ⟨_, t, e⟩
         · exact k3 f hf
     obtain ⟨fs, k1, k2, k3⟩ := kt as hp'
     refine kat_kind (T := .type "int") k1 (by omega) (fun v hv => ?_) (by decide) hq
     obtain ⟨z, tk, rfl⟩ := k3 v hv
     exact fun A Q E s _ q => wpAny_typeOf (typeIs_int s z tk) q
   refine wpAny_bind (hkk _ ?_)
   refine wpAny_bind (wpAny_mono (sortRuns_ok (s := { s with heap := G }) (a₀ := pairsOf (as.map Value.ref)) (st := SortSt.mk' (tuples' true) ((as.map Value.ref).toArray.zip (as.map Value.ref).toArray) #[] 7 none)
     (Q := fun _ st' => SB (tuples' true) (pairsOf (as.map Value.ref)) st' /\ yW (κP pf) (arrOf st') 0 (pairsOf (as.map Value.ref)).size) (cmpP hp') (fun p hp => by
       rw [pairsOf_toList] at hp
       obtain ⟨b, hb, e⟩ := List.mem_map.mp (mem_zip_self hp).2
       exact ⟨b, hb, e.symm⟩) ⟨List.Perm.refl _, rfl, rfl⟩ rfl fun st' b1 b2 => ⟨b1, b2⟩) ?_ fun _ _ e => e)
   rintro ⟨⟨⟩, st'⟩ s' ⟨rfl, hB, hs⟩
   dsimp only
   have hl : (arrOf st').toList.Perm ((as.map Value.ref).zip (as.map Value.ref)) := by rw [← pairsOf_toList]; exact hB.perm
   have hm : ((arrOf st').map (·.2)).toList.Perm (as.map Value.ref) := by
     rw [Array.toList_map]
     have := hl.map (fun p : Value × Value => p.2)
     have e : ((as.map Value.ref).zip (as.map Value.ref)).map (fun p => p.2) = as.map Value.ref := List.map_snd_zip (Nat.le_refl _)
     rwa [e] at this
   obtain ⟨as', e1, e2⟩ := map_ref hm
   have e3 : (arrOf st').map (·.2) = (as'.map Value.ref).toArray := by rw [← e1]
   have hz : ((arrOf st').map (·.2)).size = as.length := by rw [e3, List.size_toArray, List.length_map, e2.length_eq]
   refine wpAny_bind (seqEpoch_at ho6 rfl ?_)
   refine wpAny_bind (listUpdate_at ho6 rfl ?_ (Nat.zero_le _) (by rw [hz, sizeLine_eq]; omega))
   rw [hB.fail]
   simp only [bne_self_eq_false, Bool.false_eq_true, if_false]
   refine wpAny_pure ?_
   rw [e3]
   refine fin as' e2 ?_
   rw [List.pairwise_iff_getElem]
   intro i j hi hj hij
   have hsz2 : (pairsOf (as.map Value.ref)).size = as'.length := by rw [pairsOf_size, List.length_map, e2.length_eq]
   have := hs i j (Nat.zero_le _) (by omega) (by rw [hsz2]; exact hj)
   have at_ : ∀ (i : Nat) (hi : i < as'.length), kAt (κP pf) (arrOf st') i = 1000 * (pf as'[i]).1 + (pf as'[i]).2 := by
     intro i hi
     have hi2 : i < (arrOf st').size := by rw [hB.size, hsz2]; exact hi
     obtain ⟨p, ep, hpm⟩ := yT hi2
     have hpp := (mem_zip_self (hl.mem_iff.mp hpm)).1
     have e4 : ((arrOf st').map (·.2))[i]? = some p.2 := by rw [Array.getElem?_map, ep]; rfl
     rw [e3, List.getElem?_toArray, List.getElem?_map, List.getElem?_eq_getElem hi] at e4
     have e5 : Value.ref as'[i] = p.2 := Option.some.inj e4
     rw [yA ep]
     unfold κP
     rw [hpp, ← e5]
   rw [at_ i hi, at_ j hj] at this
   exact this
end
section
variable {X : Cx}
theorem call_sortedQ : jR X (.builtin "sorted") (fun xs H Q => ∃ (p : Addr) (as : List Addr) (pf : Addr -> Int × Int), xs = [.ref p] /\ H p = some (.lst (as.map V.ref)) /\ as.length < 100000 /\ (∀ a ∈ as, H a = some (.tup [.int (pf a).1, .int (pf a).2]) /\ (0 <= (pf a).1 /\ (pf a).1 < 1000) /\ 0 <= (pf a).2 /\ (pf a).2 < 1000) /\
   ∀ (l : Addr) (as' : List Addr), H l = none -> as'.Perm as -> (as'.Pairwise fun x y => 1000 * (pf x).1 + (pf x).2 <= 1000 * (pf y).1 + (pf y).2) -> Q (.ref l) (upd H l (.lst (as'.map V.ref)))) := by
 intro pins s σ H xs us Q I r h
 obtain ⟨p, as, pf, rfl, hp, hl, ht, q⟩ := h
 obtain ⟨u, rfl, ru⟩ := uX r
 cases ru
 obtain ⟨hz, its, nn, rv, o1⟩ := (show ObjOk X.prog X.w H s.heap p (.lst (as.map V.ref)) from I.hok p _ hp)
 have e : ∀ {as : List Addr} {us : List Value}, Vals (as.map V.ref) us -> us = as.map Value.ref := by
   intro as
   induction as with
   | nil => intro us h; cases h; rfl
   | cons a as ih =>
     intro us h
     cases h with
     | cons r t =>
       have e : _ = Value.ref a := r
       rw [e, ih t]
       rfl
 have e := e rv
 subst e
 have hlen : (as.map Value.ref).length = as.length := List.length_map _
 have hlie : ∀ b ∈ as, PrLie s.heap pf b := fun b hb => by
   obtain ⟨h1, h2, h3⟩ := ht b hb
   obtain ⟨_, its, rr, o, g1, g2, n, g3⟩ := (show ObjOk X.prog X.w H s.heap b (.tup [.int (pf b).1, .int (pf b).2]) from I.hok b _ h1)
   cases rr with
   | cons r1 r2 =>
     cases r2 with
     | cons r3 r4 =>
       cases r4
       obtain ⟨t1, rfl⟩ := r1
       obtain ⟨t2, rfl⟩ := r3
       exact ⟨o, n, t1, t2, g1, g2, g3, h2, h3⟩
 have hs : sizeLine = 16777216 := sizeLine_eq
 refine Calls.call_function_entry kind_sorted plain_sorted entry_sorted (args_sorted1 _) ?_
 unfold Builtin.«sorted»
 refine wpAny_bind (m := checkCount "sorted" 1 1 _) (wpAny_pure ?_)
 refine wpAny_bind (collect_list (vs := as.map Value.ref) ⟨_, o1, rfl, nn, rfl⟩ ?_ (by rw [hlen]; omega))
 refine wpAny_bind (wpAny_newList ?_ (by rw [hlen]; omega))
 generalize hG : (s.heap.push (seqObj "list" #[] 0)).update s.heap.objs.size (Obj.mapSeq (· ++ (as.map Value.ref).toArray)) = G
 have hGs : G.objs.size = s.heap.objs.size + 1 := by rw [← hG, Heap.size_update, size_push']
 have keep : ∀ b o, s.heap.get? b = some o -> G.get? b = some o := fun b o hb => by
   rw [← hG]
   exact (Heap.get?_update_other _ _ (Nat.ne_of_gt (Heap.lt_size hb))).trans (Heap.get?_push_of_some _ hb)
 have hoL : (G.push (seqObj "list" (as.map Value.ref).toArray 0)).get? G.objs.size = some (seqObj "list" (as.map Value.ref).toArray 0) := Heap.get?_push_size _ rfl
 show wpAny _ _ _ _ _ { s with heap := G.push (seqObj "list" (as.map Value.ref).toArray 0) }
 refine wpAny_bind (wpAny_holding (wpAny_call_entry slot_list_sort ⟨_, hoL, rfl⟩ entry_list_sort (list_sortQ (pf := pf) hoL (by omega) (fun b hb => ?_) fun as' a1 a2 => ⟨_, rfl, ?_⟩) (args_list_sort _)))
 · obtain ⟨o, n', t, u, g1, g2⟩ := hlie b hb
   exact ⟨o, n', t, u, Heap.get?_push_of_some _ (keep b o g1), g2⟩
 obtain ⟨e, he⟩ := sortedHeap_at (out := (as'.map Value.ref).toArray) hoL
 have hl' := a1.length_eq
 have vals : ∀ l : List Addr, Vals (l.map V.ref) (l.map Value.ref) := fun l => by
   induction l with
   | nil => exact .nil
   | cons a l ih => exact .cons rfl ih
 have vals := vals as'
 rw [hGs] at he
 refine wpAny_pure ⟨_, rfl, ?_⟩
 rw [hGs]
 refine ⟨.ref (s.heap.objs.size + 1), _, I.laid (a := s.heap.objs.size + 1) (o := .lst (as'.map V.ref)) (t' := s.toks) (fun b o hb => ?_) (Nat.le_succ _) ⟨by rw [List.length_map, sizeLine_eq]; omega, _, e, vals, he⟩, rfl, q _ _ (I.hok.fresh (Nat.le_succ _)) a1 a2⟩
 have hlt := Heap.lt_size hb
 rw [sortedHeap_old (Nat.ne_of_lt (Nat.lt_succ_of_lt hlt)) (by rw [size_push', hGs]; exact Nat.lt_succ_of_lt (Nat.lt_succ_of_lt hlt))]
 exact Heap.get?_push_of_some _ (keep b o hb)
end
end L2
set_option maxHeartbeats 8000000
namespace C
open PySem L2
seal PE PT PW PA PS PSs PG PGs PI PPs PO PSet PIf
def top (i : Nat) : Stmt := PySem.Challenge.pw_clashbook_k18_more_rules.main.body.getD i (.Pass ⟨0, 0, 0, 0⟩)
abbrev s_r : Stmt := top 3
theorem sc_r : FnScope ["n"] ["n"] (zG s_r) := ⟨rfl, rfl, rfl, by decide +kernel, rfl, by decide +kernel, by decide +kernel⟩
abbrev s_q : Stmt := top 4
theorem sc_q : FnScope ["n", "bound"] ["n", "bound"] (zG s_q) := ⟨rfl, rfl, rfl, by decide +kernel, rfl, by decide +kernel, by decide +kernel⟩
abbrev jQ (H : Hp) (rows : List Rw) (us : List V) : Prop := DAts H (rows.map dRw) us
abbrev vM (H : Hp) (ls : List Ln) (us : List V) : Prop := DAts H (ls.map dLn) us
abbrev WtAts (H : Hp) (as : List Wt) (us : List V) : Prop := DAts H (as.map dWt) us
theorem xG {α : Type} {H : Hp} {f : α -> Dt} {xs : List α} {us : List V} {i : Nat} {v : V} (h : DAts H (xs.map f) us) (hv : us[i]? = some v) : ∃ x, xs[i]? = some x /\ DAt H (f x) v := by
 have hl := DAts.length h
 rw [List.length_map] at hl
 have hi : i < xs.length := by rw [← hl]; exact (List.getElem?_eq_some_iff.mp hv).1
 obtain ⟨u, h1, h2⟩ := DAts.get (d := f xs[i]) h (by rw [List.getElem?_map, List.getElem?_eq_getElem hi]; rfl)
 rw [hv] at h1
 cases h1
 exact ⟨_, List.getElem?_eq_getElem hi, h2⟩
theorem yQ {α : Type} {H : Hp} {f : α -> Dt} {xs : List α} {us : List V} (h : DAts H (xs.map f) us) : us.length = xs.length := by
 have hl := DAts.length h
 rwa [List.length_map] at hl
theorem mapSnoc {α : Type} {H : Hp} {f : α -> Dt} {xs : List α} {us : List V} {i : Nat} {x : α} {v : V} (hx : xs[i]? = some x) (h : DAts H ((xs.take i).map f) us) (h1 : DAt H (f x) v) : DAts H ((xs.take (i + 1)).map f) (us ++ [v]) := by
 obtain ⟨hi, e⟩ := List.getElem?_eq_some_iff.mp hx
 rw [List.take_succ_eq_append_getElem hi, e, List.map_append]
 exact DAts.append h (DAts.one h1)
theorem at_toNat {α : Type} {xs : List α} {n : Int} {x : α} (h0 : 0 <= n) (h : xs[n.toNat]? = some x) : atI xs n = some x := by
 obtain ⟨m, rfl⟩ : ∃ m : Nat, n = (m : Int) := ⟨n.toNat, by omega⟩
 exact yL (by simpa using h)
theorem RwAt.out {H : Hp} {r : Rw} {v : V} (h : DAt H (dRw r) v) : ∃ a x us, v = .ref a /\ H a = some (.tup (.str x :: us)) /\ (match r with | .no => x = "none" /\ us = [] | .nm y => x = "name" /\ us = [.str y] | .bo i j => x = "both" /\ us = [.int i, .int j]) := by
 cases r with
 | no =>
   obtain ⟨a, vs, e1, e2, u1, r1, q1, h1, h2⟩ := h
   have h1 : u1 = .str "none" := h1
   have h2 : r1 = [] := h2
   subst h2 q1 h1
   exact ⟨a, _, _, e1, e2, rfl, rfl⟩
 | nm y =>
   obtain ⟨a, vs, e1, e2, u1, r1, q1, h1, u2, r2, q2, h2, h3⟩ := h
   have h1 : u1 = .str "name" := h1
   have h2 : u2 = .str y := h2
   have h3 : r2 = [] := h3
   subst h3 q2 q1 h1 h2
   exact ⟨a, _, _, e1, e2, rfl, rfl⟩
 | bo i j =>
   obtain ⟨a, vs, e1, e2, u1, r1, q1, h1, u2, r2, q2, h2, u3, r3, q3, h3, h4⟩ := h
   have h1 : u1 = .str "both" := h1
   have h2 : u2 = .int i := h2
   have h3 : u3 = .int j := h3
   have h4 : r3 = [] := h4
   subst h4 q3 q2 q1 h1 h2 h3
   exact ⟨a, _, _, e1, e2, rfl, rfl⟩
def ptsR : Rw -> List Int
 | .bo i j => [i, j]
 | _ => []
theorem qC {rows : List Rw} {n : Int} {r : Rw} (h : n % 2 = 0) (hr : rows[(n / 2).toNat]? = some r) : jB rows n = ptsR r := by
 unfold jB
 rw [if_pos h, hr]
 cases r <;> rfl
theorem said_pos {ls : List Ln} {k : Nat} {i : Int} {l : Ln} (h : 0 <= i /\ i < (k : Int)) (hl : ls[i.toNat]? = some l) : yY ls k (.n i) = some (l.i, l.j) := by
 show (if 0 <= i /\ i < (k : Int) then (ls[i.toNat]?).map fun l => (l.i, l.j) else none) = _
 rw [if_pos h, hl]
 rfl
theorem said_neg {ls : List Ln} {k : Nat} {i : Int} (h : ¬ (0 <= i /\ i < (k : Int))) : yY ls k (.n i) = none := by
 show (if 0 <= i /\ i < (k : Int) then (ls[i.toNat]?).map fun l => (l.i, l.j) else none) = _
 rw [if_neg h]
def isN : Wt -> Bool
 | .n _ => true
 | .ps _ => false
def spWh : Sp := fun vs H Q _ => ∃ (v : V) (x : Wt), vs = [v] /\ DAt H (dWt x) v /\ Q (.bl (isN x)) H
def spBel : Sp := fun vs H Q _ => ∃ (v : V) (x : Wt) (b : Int), vs = [v, .int b] /\ DAt H (dWt x) v /\ Q (.bl (uU b x)) H
section
variable {P : Program} {w : World} {K : PySem.W.Frag} {mg : Str -> Option Value} {base : Heap} {f : Addr} {fd : FuncData}
theorem ok_is_whole (bi : Bi mg) (F : Fun K "is_whole" "is_whole" s_r f fd) : FnOk P w K mg base CX0 1 f fd ["n"] spWh := by
 refine F.ok sc_r (fun vs H Q E h => ?_) (fun cdv A outer s H vs Q E hr h => ?_)
 · obtain ⟨v, x, rfl, _⟩ := h
   rfl
 obtain ⟨v, x, rfl, hv, q⟩ := h
 refine ⟨_, (zH (yN (pe_and (zP (call_isi (T := "int")) rfl bi.isinstance bt_isinstance (zA (pv 0) (zA (pe_ty bi.int bt_int rfl) pa_nil))) (pe_one (pe_not (zP (call_isi (T := "bool")) rfl bi.isinstance bt_isinstance (zA (pv 0) (zA (pe_ty bi.bool bt_bool rfl) pa_nil)))))))), ?_⟩
 cases x with
 | n i =>
   have e : v = .int i := hv
   subst e
   simp! []
   exact ⟨_, .int i, true, kit_same, iteT ⟨_, .int i, false, kit_ib, q⟩⟩
 | ps l =>
   obtain ⟨a, us, rfl, ha, hu⟩ := hv
   simp! []
   exact ⟨_, .tup ha, false, kit_ti, iteF q⟩
theorem ok_is_below (bi : Bi mg) (h_r : Has P w K mg base 1 "is_whole" ["n"] spWh) (F : Fun K "is_below" "is_below" s_q f fd) : FnOk P w K mg base CX0 2 f fd ["n", "bound"] spBel := by
 refine F.ok sc_q (fun vs H Q E h => ?_) (fun cdv A outer s H vs Q E hr h => ?_)
 · obtain ⟨v, x, b, rfl, _⟩ := h
   rfl
 obtain ⟨v, x, b, rfl, hv, q⟩ := h
 refine ⟨_, (zH (yN (pe_and (zS h_r (hr.mono (by omega)) rfl (zA (pv 0) pa_nil)) (pe_one (pe_chain op_le op_lt zE (pv 0) (pv 1)))))), ?_⟩
 simp! [spWh]
 refine ⟨x, hv, ?_⟩
 cases x with
 | n i =>
   have e : v = .int i := hv
   subst e
   rw [show isN (.n i) = true from rfl, if_pos rfl]
   have q : Q (.bl (decide (0 <= i) && decide (i < b))) H := q
   refine ⟨i, rfl, ?_⟩
   split
   · rename_i h
     rw [decide_eq_true h, Bool.true_and] at q
     exact ⟨i, rfl, q⟩
   · rename_i h
     rw [decide_eq_false h, Bool.false_and] at q
     exact q
 | ps l =>
   rw [show isN (.ps l) = false from rfl, if_neg Bool.false_ne_true]
   exact q
end
theorem fit_pr (n : Nat) (p : Pr) : DFit (n + 1) (dPr p) := ⟨by simp, fun d hd => by
 simp only [List.mem_cons, List.not_mem_nil, or_false] at hd
 rcases hd with rfl | rfl <;> (cases n <;> trivial)⟩
theorem prAt {H : Hp} {p : Pr} {v : V} (h : DAt H (dPr p) v) : ∃ a, v = .ref a /\ H a = some (.tup [.int p.1, .int p.2]) := by
 obtain ⟨a, vs, e1, e2, u1, r1, q1, h1, u2, r2, q2, h2, h3⟩ := h
 have h1 : u1 = .int p.1 := h1
 have h2 : u2 = .int p.2 := h2
 have h3 : r2 = [] := h3
 subst h3 q2 q1 h1 h2
 exact ⟨a, e1, e2⟩
section
variable {P : Program} {w : World} {K : PySem.W.Frag} {mg : Str -> Option Value} {base : Heap} {f : Addr} {fd : FuncData}
end
theorem nrAt {H : Hp} {r : zN} {v : V} (h : DAt H (dNR r) v) : ∃ a l b us, v = .ref a /\ H a = some (.tup [.ref l, .ref b]) /\ H l = some (.lst us) /\ DAts H (r.1.map dPr) us /\ H b = some (.tup [.int r.2.1, .int r.2.2]) := by
 obtain ⟨a, vs, e1, e2, u1, r1, q1, ⟨l, us, g1, g2, g3⟩, u2, r2, q2, h2, h3⟩ := h
 obtain ⟨b, g4, g5⟩ := prAt h2
 have h3 : r2 = [] := h3
 subst h3 q2 q1 g1 g4
 exact ⟨a, l, b, us, e1, e2, g2, g3, g5⟩
theorem rul_eq {rules : List zN} {ls : List Ln} {k : Nat} {l : Ln} {r : Int} {ps : List Int} (h : l.as = [.n r, .ps ps]) : xZ rules ls k l = if 0 <= r /\ r < rules.length then (match rules[r.toNat]? with | some q => (l.i, l.j) == q.2 && (ps.map fun p => yY ls k (.n p)) == q.1.map some | none => false) else false := by
 unfold xZ
 rw [h] <;> rfl
section
variable {P : Program} {w : World} {K : PySem.W.Frag} {mg : Str -> Option Value} {base : Heap} {f : Addr} {fd : FuncData}
end
section
variable {P : Program} {w : World} {K : PySem.W.Frag} {mg : Str -> Option Value} {base : Heap} {f : Addr} {fd : FuncData}
end
section
variable {P : Program} {w : World} {K : PySem.W.Frag} {mg : Str -> Option Value} {base : Heap} {f : Addr} {fd : FuncData}
end
abbrev s_n : Stmt := top 17
theorem sc_n : FnScope ["script", "k"] ["script", "k"] (zG s_n) := ⟨rfl, rfl, rfl, by decide +kernel, rfl, by decide +kernel, by decide +kernel⟩
abbrev s_j : Stmt := top 18
theorem sc_j : FnScope ["cell", "size", "letters", "made", "rest", "k"] ["cell", "size"] (zG s_j) := ⟨rfl, rfl, rfl, by decide +kernel, rfl, by decide +kernel, by decide +kernel⟩
abbrev s_a : Stmt := top 20
theorem sc_a : FnScope ["script", "most", "many", "rows", "rules", "raw", "cell", "top", "one", "other", "row"] ["script", "most", "many"] (zG s_a) := ⟨rfl, rfl, rfl, by decide +kernel, rfl, by decide +kernel, by decide +kernel⟩
def spCell (K : PySem.W.Frag) : Sp := fun vs H Q _ => ∃ (a : Addr) (ns : List Int) (k : Nat), vs = [.ref a, .int k] /\ SqL K H a (ns.map V.int) /\ Q (.int (ns.getD k 0)) H
def spName : Sp := fun vs H Q _ => ∃ c n : Int, vs = [.int c, .int n] /\ ∀ x : Str, Nm x -> Q (.str x) H
theorem p1018 : (0 : Int) < 10 ^ Int.toNat 18 := by show (0 : Int) < 10 ^ 18; simp
structure RC where
 o : Addr
 l : Addr
 t : Addr
 ps : List Pr
 q : Pr
def RcOk (H : Hp) (c : RC) : Prop := H c.o = some (.lst [.ref c.l, .ref c.t]) /\ (∃ us, H c.l = some (.lst us) /\ DAts H (c.ps.map dPr) us) /\ H c.t = some (.tup [.int c.q.1, .int c.q.2])
theorem RcOk.same {H H' : Hp} {c : RC} (e : Same H H') (h : RcOk H c) : RcOk H' c := by
 obtain ⟨h1, ⟨us, h2, h3⟩, h4⟩ := h
 exact ⟨e _ _ h1, ⟨us, e _ _ h2, DAts.same e h3⟩, e _ _ h4⟩
theorem uD {H H' : Hp} (e : TupSame H H') : ∀ {ps : List Pr} {us : List V}, DAts H (ps.map dPr) us -> DAts H' (ps.map dPr) us
 | [], us, h => h
 | p :: ps, us, h => by
   obtain ⟨v, r, e1, e2, e3⟩ := h
   obtain ⟨a, g1, g2⟩ := prAt e2
   exact ⟨v, r, e1, ⟨a, _, g1, e _ _ g2, _, _, rfl, rfl, _, _, rfl, rfl, rfl⟩, uD e e3⟩
theorem xY {H H' : Hp} (e : TupSame H H') : ∀ {rs : List Rw} {us : List V}, jQ H rs us -> jQ H' rs us
 | [], us, h => h
 | r :: rs, us, h => by
   obtain ⟨v, q, e1, e2, e3⟩ := h
   refine ⟨v, q, e1, ?_, xY e e3⟩
   obtain ⟨a, x, vs, g1, g2, g3⟩ := RwAt.out e2
   cases r with
   | no => obtain ⟨rfl, rfl⟩ := g3; exact ⟨a, _, g1, e _ _ g2, _, _, rfl, rfl, rfl⟩
   | nm y => obtain ⟨rfl, rfl⟩ := g3; exact ⟨a, _, g1, e _ _ g2, _, _, rfl, rfl, _, _, rfl, rfl, rfl⟩
   | bo i j => obtain ⟨rfl, rfl⟩ := g3; exact ⟨a, _, g1, e _ _ g2, _, _, rfl, rfl, _, _, rfl, rfl, _, _, rfl, rfl, rfl⟩
theorem RcOk.put {H : Hp} {c : RC} {a : Addr} {zs xs : List V} (h : RcOk H c) (ha : H a = some (.lst xs)) (n1 : c.o ≠ a) (n2 : c.l ≠ a) : RcOk (upd H a (.lst zs)) c := by
 have tu : TupSame H (upd H a (.lst zs)) := (TupSame.refl _).upd_lst ha
 obtain ⟨h1, ⟨us, h2, h3⟩, h4⟩ := h
 exact ⟨by rw [zF n1]; exact h1, ⟨us, by rw [zF n2]; exact h2, uD tu h3⟩, tu _ _ h4⟩
def RowsIn (rows : List Rw) : Prop := ∀ (k : Nat) (i j : Int), rows[k]? = some (.bo i j) -> (0 <= i /\ i < 2 * (k : Int)) /\ 0 <= j /\ j < 2 * (k : Int)
def RowB (r : Rw) (n : Int) : Prop := ∀ i j, r = .bo i j -> (0 <= i /\ i < n) /\ 0 <= j /\ j < n
theorem RowsIn.put {rows : List Rw} {r : Rw} (h : RowsIn rows) (hr : RowB r (2 * (rows.length : Int))) : RowsIn (rows ++ [r]) := fun k i j hk => by
 by_cases hl : k < rows.length
 · rw [List.getElem?_append_left hl] at hk
   exact h k i j hk
 · have h2 := (List.getElem?_eq_some_iff.mp hk).1
   rw [List.length_append, List.length_singleton] at h2
   have e : k = rows.length := by omega
   subst e
   rw [List.getElem?_append_right (Nat.le_refl _), Nat.sub_self] at hk
   have e : r = .bo i j := by simpa using hk
   exact hr i j e
structure SRI (H : Hp) (pc : Addr) (zs : List V) (i : Nat) (H' : Hp) (ra rb : Addr) (us : List V) (rows : List Rw) (rs : List RC) : Prop where
 same : Same H H'
 na : H ra = none
 nb : H rb = none
 ne : ra ≠ rb
 pk : H' pc = some (.lst zs)
 pn : pc ≠ ra /\ pc ≠ rb /\ ∀ c ∈ rs, pc ≠ c.o /\ pc ≠ c.l
 rw : H' ra = some (.lst us)
 rws : jQ H' rows us
 r1 : 1 <= rows.length
 r2 : rows.length <= i + 1
 rbd : RowsIn rows
 ru : H' rb = some (.lst (rs.map fun c => V.ref c.o))
 ok : ∀ c ∈ rs, RcOk H' c
 fr : ∀ c ∈ rs, H c.o = none /\ H c.l = none /\ c.o ≠ ra /\ c.o ≠ rb /\ c.l ≠ ra /\ c.l ≠ rb
 nd : (rs.map RC.l).Nodup
 ol : ∀ c ∈ rs, ∀ c' ∈ rs, c.o ≠ c'.l
 s1 : rs.length <= i
 s2 : ∀ c ∈ rs, c.ps.length <= i
 qb : ∀ c ∈ rs, (0 <= c.q.1 /\ c.q.1 < 2 * (rows.length : Int)) /\ (0 <= c.q.2 /\ c.q.2 < 2 * (rows.length : Int))
theorem fit_rw (n : Nat) (r : Rw) : DFit (n + 1) (dRw r) := by
 cases r with
 | no => exact ⟨by simp, fun d hd => by simp at hd; subst hd; cases n <;> trivial⟩
 | nm x => exact ⟨by simp, fun d hd => by simp at hd; rcases hd with rfl | rfl <;> (cases n <;> trivial)⟩
 | bo i j => exact ⟨by simp, fun d hd => by simp at hd; rcases hd with rfl | rfl | rfl <;> (cases n <;> trivial)⟩
theorem SRI.go {H : Hp} {pc : Addr} {zs : List V} {i : Nat} {H' H'' : Hp} {ra rb : Addr} {us : List V} {rows : List Rw} {rs : List RC} (S : SRI H pc zs i H' ra rb us rows rs) (e : Same H' H'') : SRI H pc zs i H'' ra rb us rows rs :=
 { S with same := S.same.trans e, pk := e _ _ S.pk, rw := e _ _ S.rw, rws := DAts.same e S.rws, ru := e _ _ S.ru, ok := fun c hc => (S.ok c hc).same e }
theorem SRI.up {H : Hp} {pc : Addr} {zs : List V} {i : Nat} {H' : Hp} {ra rb : Addr} {us : List V} {rows : List Rw} {rs : List RC} (S : SRI H pc zs i H' ra rb us rows rs) : SRI H pc zs (i + 1) H' ra rb us rows rs :=
 { S with r2 := Nat.le_succ_of_le S.r2, s1 := Nat.le_succ_of_le S.s1, s2 := fun c hc => Nat.le_succ_of_le (S.s2 c hc) }
theorem SRI.rowPut {H : Hp} {pc : Addr} {zs : List V} {i : Nat} {H' : Hp} {ra rb : Addr} {us : List V} {rows : List Rw} {rs : List RC} {r : Rw} {rv : V} (S : SRI H pc zs i H' ra rb us rows rs) (hr : DAt H' (dRw r) rv) (hrb : RowB r (2 * (rows.length : Int))) :
   SRI H pc zs (i + 1) (upd H' ra (.lst (us ++ [rv]))) ra rb (us ++ [rv]) (rows ++ [r]) rs := by
 have tu : TupSame H' (upd H' ra (.lst (us ++ [rv]))) := (TupSame.refl _).upd_lst S.rw
 refine { S with same := S.same.upd S.na, pk := by rw [zF S.pn.1]; exact S.pk, rw := zB, rws := ?_, r1 := by simp, r2 := by have := S.r2; simp; omega, rbd := S.rbd.put hrb, ru := by rw [zF (Ne.symm S.ne)]; exact S.ru, ok := fun c hc => (S.ok c hc).put S.rw (S.fr c hc).2.2.1 (S.fr c hc).2.2.2.2.1, s1 := Nat.le_succ_of_le S.s1, s2 := fun c hc => Nat.le_succ_of_le (S.s2 c hc), qb := fun c hc => by have := S.qb c hc; rw [List.length_append, List.length_singleton]; omega }
 unfold jQ
 rw [List.map_append]
 exact DAts.append (xY tu S.rws) (xY tu (DAts.one hr : jQ H' [r] [rv]))
theorem SRI.rulePut {H : Hp} {pc : Addr} {zs : List V} {i : Nat} {H' H'' : Hp} {ra rb : Addr} {us : List V} {rows : List Rw} {rs : List RC} {o l t : Addr} {q : Pr} (S : SRI H pc zs i H' ra rb us rows rs) (e : Same H' H'') (no : H' o = none) (nl : H' l = none) (ne : o ≠ l) (ho : H'' o = some (.lst [.ref l, .ref t])) (hl : H'' l = some (.lst [])) (ht : H'' t = some (.tup [.int q.1, .int q.2])) (hqb : (0 <= q.1 /\ q.1 < 2 * (rows.length : Int)) /\ (0 <= q.2 /\ q.2 < 2 * (rows.length : Int))) :
   SRI H pc zs (i + 1) (upd H'' rb (.lst ((rs.map fun c => V.ref c.o) ++ [.ref o]))) ra rb us rows (rs ++ [⟨o, l, t, [], q⟩]) := by
 have S2 := S.go e
 have tu : TupSame H'' (upd H'' rb (.lst ((rs.map fun c => V.ref c.o) ++ [.ref o]))) := (TupSame.refl _).upd_lst S2.ru
 have obr : o ≠ rb := fun z => by rw [z, S.ru] at no; cases no
 have lbr : l ≠ rb := fun z => by rw [z, S.ru] at nl; cases nl
 have new : RcOk (upd H'' rb (.lst ((rs.map fun c => V.ref c.o) ++ [.ref o]))) ⟨o, l, t, [], q⟩ := RcOk.put ⟨ho, ⟨[], hl, rfl⟩, ht⟩ S2.ru obr lbr
 have fo : ∀ {c : RC}, c ∈ rs -> c.o ≠ o /\ c.l ≠ l /\ c.o ≠ l /\ c.l ≠ o := fun {c} hc => by
   obtain ⟨h1, ⟨uu, h2, _⟩, _⟩ := S.ok c hc
   refine ⟨fun z => ?_, fun z => ?_, fun z => ?_, fun z => ?_⟩
   · rw [z, no] at h1; cases h1
   · rw [z, nl] at h2; cases h2
   · rw [z, nl] at h1; cases h1
   · rw [z, no] at h2; cases h2
 exact { S2 with
   same := S2.same.upd S.nb
   pk := by rw [zF S.pn.2.1]; exact S2.pk
   pn := ⟨S.pn.1, S.pn.2.1, fun c hc => by
     rcases List.mem_append.mp hc with hc | hc
     · exact S.pn.2.2 c hc
     · rw [List.mem_singleton.mp hc]
       exact ⟨fun z => (by have z : pc = o := z; rw [← z, S.pk] at no; cases no), fun z => (by have z : pc = l := z; rw [← z, S.pk] at nl; cases nl)⟩⟩
   rw := by rw [zF S.ne]; exact S2.rw
   rws := xY tu S2.rws
   r2 := Nat.le_succ_of_le S.r2
   ru := by rw [zB, List.map_append]; rfl
   ok := fun c hc => by
     rcases List.mem_append.mp hc with hc | hc
     · exact (S2.ok c hc).put S2.ru (S.fr c hc).2.2.2.1 (S.fr c hc).2.2.2.2.2
     · rw [List.mem_singleton.mp hc]; exact new
   fr := fun c hc => by
     rcases List.mem_append.mp hc with hc | hc
     · exact S.fr c hc
     · rw [List.mem_singleton.mp hc]
       exact ⟨S.same.free no, S.same.free nl, fun z => (by have z : o = ra := z; rw [z, S.rw] at no; cases no), obr, fun z => (by have z : l = ra := z; rw [z, S.rw] at nl; cases nl), lbr⟩
   nd := by
     rw [List.map_append]
     refine List.nodup_append.mpr ⟨S.nd, by simp, fun a ha b hb => ?_⟩
     obtain ⟨c, hc, rfl⟩ := List.mem_map.mp ha
     simp at hb
     rw [hb]
     exact (fo hc).2.1
   ol := fun c hc c' hc' => by
     rcases List.mem_append.mp hc with hc | hc <;> rcases List.mem_append.mp hc' with hc' | hc'
     · exact S.ol c hc c' hc'
     · rw [List.mem_singleton.mp hc']; exact (fo hc).2.2.1
     · rw [List.mem_singleton.mp hc]; exact (fo hc').2.2.2.symm
     · rw [List.mem_singleton.mp hc, List.mem_singleton.mp hc']; exact ne
   s1 := by have := S.s1; simp; omega
   s2 := fun c hc => by
     rcases List.mem_append.mp hc with hc | hc
     · exact Nat.le_succ_of_le (S.s2 c hc)
     · rw [List.mem_singleton.mp hc]; exact Nat.zero_le _
   qb := fun c hc => by
     rcases List.mem_append.mp hc with hc | hc
     · exact S.qb c hc
     · rw [List.mem_singleton.mp hc]; exact hqb }
theorem SRI.premPut {H : Hp} {pc : Addr} {zs : List V} {i : Nat} {H' : Hp} {ra rb : Addr} {us : List V} {rows : List Rw} {rs : List RC} {c : RC} {uc : List V} {p : Addr} {q : Pr} (S : SRI H pc zs i H' ra rb us rows (rs ++ [c])) (hl : H' c.l = some (.lst uc)) (hp : H' p = some (.tup [.int q.1, .int q.2])) :
   SRI H pc zs (i + 1) (upd H' c.l (.lst (uc ++ [.ref p]))) ra rb us rows (rs ++ [{ c with ps := c.ps ++ [q] }]) := by
 have tu : TupSame H' (upd H' c.l (.lst (uc ++ [.ref p]))) := (TupSame.refl _).upd_lst hl
 have mc : c ∈ rs ++ [c] := by simp
 have fc := S.fr c mc
 have old : ∀ c' ∈ rs, c' ∈ rs ++ [c] := fun c' h => List.mem_append_left _ h
 have nd := S.nd
 rw [List.map_append] at nd
 have ndl : ∀ c' ∈ rs, c'.l ≠ c.l := fun c' h => (List.nodup_append.mp nd).2.2 _ (List.mem_map.mpr ⟨c', h, rfl⟩) _ (by simp)
 have case : ∀ {R : RC -> Prop}, (∀ c' ∈ rs, R c') -> R { c with ps := c.ps ++ [q] } -> ∀ c' ∈ rs ++ [{ c with ps := c.ps ++ [q] }], R c' := fun a b c' h => by
   rcases List.mem_append.mp h with h | h
   · exact a c' h
   · rw [List.mem_singleton.mp h]; exact b
 exact { S with
   same := S.same.upd fc.2.1
   pk := by rw [zF (S.pn.2.2 c mc).2]; exact S.pk
   pn := ⟨S.pn.1, S.pn.2.1, case (fun c' h => S.pn.2.2 c' (old c' h)) (S.pn.2.2 c mc)⟩
   rw := by rw [zF (Ne.symm fc.2.2.2.2.1)]; exact S.rw
   rws := xY tu S.rws
   r2 := Nat.le_succ_of_le S.r2
   ru := by rw [zF (Ne.symm fc.2.2.2.2.2)]; have := S.ru; rw [List.map_append] at this ⊢; exact this
   ok := case (fun c' h => (S.ok c' (old c' h)).put hl (S.ol c' (old c' h) c mc) (ndl c' h)) (by
     obtain ⟨h1, ⟨uu, h2, h3⟩, h4⟩ := S.ok c mc
     rw [hl] at h2
     cases h2
     refine ⟨by rw [zF (S.ol c mc c mc)]; exact h1, ⟨_, zB, ?_⟩, tu _ _ h4⟩
     rw [List.map_append]
     exact DAts.append (uD tu h3) (DAts.one ⟨p, _, rfl, tu _ _ hp, _, _, rfl, rfl, _, _, rfl, rfl, rfl⟩))
   fr := case (fun c' h => S.fr c' (old c' h)) fc
   nd := by rw [List.map_append]; exact nd
   ol := case (fun c' h => case (fun c'' h2 => S.ol c' (old c' h) c'' (old c'' h2)) (S.ol c' (old c' h) c mc)) (case (fun c'' h2 => S.ol c mc c'' (old c'' h2)) (S.ol c mc c mc))
   s1 := by have := S.s1; simp at this ⊢; omega
   s2 := case (fun c' h => Nat.le_succ_of_le (S.s2 c' (old c' h))) (by have := S.s2 c mc; simp; omega)
   qb := case (fun c' h => S.qb c' (old c' h)) (S.qb c mc) }
def spSR (K : PySem.W.Frag) : Sp := fun vs H Q _ => ∃ (sa : Addr) (ns : List Int) (m n : Int), vs = [.ref sa, .int m, .int n] /\ SqL K H sa (ns.map V.int) /\ ns.length <= 63 /\
 ∀ (p ra rb : Addr) (us ws : List V) (rows : List Rw) (rules : List zN) H', Same H H' -> H' p = some (.tup [.ref ra, .ref rb]) -> H' ra = some (.lst us) -> jQ H' rows us -> H' rb = some (.lst ws) -> DAts H' (rules.map dNR) ws -> 1 <= rows.length -> rows.length <= 100 -> (rows.length <= 1 \/ (rows.length : Int) <= m) -> rules.length <= 90 -> (∀ r ∈ rules, r.1.length <= 100) -> RowsIn rows -> (∀ r ∈ rules, (0 <= r.2.1 /\ r.2.1 < 2 * (rows.length : Int)) /\ (0 <= r.2.2 /\ r.2.2 < 2 * (rows.length : Int))) -> Q (.ref p) H'
section
variable {P : Program} {w : World} {K : PySem.W.Frag} {mg : Str -> Option Value} {base : Heap} {f : Addr} {fd : FuncData}
theorem ok_cell (bi : Bi mg) (F : Fun K "_law_cell_at" "_law_cell_at" s_n f fd) : FnOk P w K mg base CX0 1 f fd ["script", "k"] (spCell K) := by
 refine F.ok sc_n (fun vs H Q E h => ?_) (fun cdv A outer s H vs Q E hr h => ?_)
 · obtain ⟨a, ns, k, rfl, _⟩ := h
   rfl
 obtain ⟨a, ns, k, rfl, hS, q⟩ := h
 refine ⟨_, (zD (xD (yC op_lt (pv 1) (zP call_len rfl bi.len bt_len (zA (pv 0) pa_nil)) (yP _)) (zH (yN (zV ix_list (pv 0) (pv 1) (fun _ _ => rfl)))) pss_nil) (zH (yN zE))), ?_⟩
 simp only [tSeq, tFor_eq, tLC_eq, iRng1, iRng2, iList, iTup, iStr, tIfS, tRet, tRetN, tNext, tAsg, gName, tVar, tC, tOp, rI0, rI, tTest, tB, rEq, rNe, tCall, tCons, tNil, tCB, tLst, tTup, tAnd, tOr, tNot, tAndV, tOrV, tNotV, tIf, tDrop, tSl, tPart, tNoPart, tChain, tUn, rU, L2.start, cx_K, bk_K, cx_calm, bk_calm, lenV_str, and_assoc, Option.join, List.length_map, List.length_append, decide_eq_true_eq, Bool.false_eq_true, if_false, if_true, Bool.not_true, Bool.not_false, Bool.not_eq_true', decide_eq_false_iff_not, Bool.true_eq_false, List.length_cons, List.length_nil, List.map_cons, List.map_nil, List.replicate, List.cons_append, List.nil_append, List.append_nil, List.getElem?_cons_zero, List.getElem?_cons_succ, List.set_cons_zero, List.set_cons_succ, Nat.reduceSub, Nat.reduceAdd, Option.some.injEq, V.int.injEq, V.str.injEq, V.bl.injEq, V.ref.injEq, List.cons.injEq, and_true, true_and, exists_eq_left', exists_eq_left, exists_and_left, exists_eq_right, exists_const]
 refine ⟨_, .inl ⟨_, hS, rfl⟩, ?_⟩
 split
 · rename_i hk
   rw [List.length_map] at hk
   exact ⟨a, _, k, _, rfl, rfl, hS, ix_nat hk, q⟩
 · rename_i hk
   rw [List.length_map] at hk
   rw [List.getD_eq_getElem?_getD, List.getElem?_eq_none (by omega)] at q
   exact q
theorem letter_at (c : Int) : ∃ d : Nat, atI ("abcdefghijklmnopqrstuvwxyz" : Str).cps.toList (c % 26) = some d /\ 97 <= d /\ d <= 122 := by
 have h : ∀ k : Fin 26, ∃ d : Nat, ("abcdefghijklmnopqrstuvwxyz" : Str).cps.toList[k.val]? = some d /\ 97 <= d /\ d <= 122 := by decide +kernel
 have h1 : 0 <= c % 26 := Int.emod_nonneg _ (by omega)
 have h2 : c % 26 < 26 := Int.emod_lt_of_pos _ (by omega)
 have e : c % 26 = ((c % 26).toNat : Nat) := by omega
 obtain ⟨d, h3, h4⟩ := h ⟨(c % 26).toNat, by omega⟩
 refine ⟨d, ?_, h4⟩
 rw [e]
 exact yL h3
theorem ok_name (bi : Bi mg) (F : Fun K "_law_name_by" "_law_name_by" s_j f fd) : FnOk P w K mg base CX0 1 f fd ["cell", "size"] spName := by
 refine F.ok sc_j (fun vs H Q E h => ?_) (fun cdv A outer s H vs Q E hr h => ?_)
 · obtain ⟨c, n, rfl, _⟩ := h
   rfl
 obtain ⟨c, n, rfl, q⟩ := h
 refine ⟨_, (zD (zO (i := 2) sc_j.nd rfl (Or.inl rfl) yF) (zD (zO (i := 3) sc_j.nd rfl (Or.inl rfl) yF) (zD (zO (i := 4) sc_j.nd rfl (Or.inl rfl) (zK op_mod (pv 0) (zK op_pow zE zE))) (zD (yZ PassesOwn.never rfl (xS rfl bi.range (zA (zK op_add zE (zK op_mod (pv 1) zE)) pa_nil)) (zQ (i := 5) sc_j.nd rfl (Or.inl rfl)) (zD (zO (i := 3) sc_j.nd rfl (Or.inl rfl) (zK op_add_str (pv 3) (zV ix_str (pv 2) (zK op_mod (pv 4) zE) (fun _ _ => rfl)))) (zH (zO (i := 4) sc_j.nd rfl (Or.inl rfl) (zK op_fdiv (pv 4) zE))))) (zD (xD (PW.pt (pw_or (yC op_eq (pv 3) yF (yP _)) (pw_or1 (yC op_eq (pv 3) yF (yP _))))) (zH (zO (i := 3) sc_j.nd rfl (Or.inl rfl) (zK op_add_str (pv 3) yF))) pss_nil) (zH (yN (pv 3)))))))), ?_⟩
 refine zI fun N hN => ?_
 simp only [tSeq, tFor_eq, tLC_eq, iRng1, iRng2, iList, iTup, iStr, tIfS, tRet, tRetN, tNext, tAsg, gName, tVar, tC, tOp, rI0, rI, tTest, tB, rEq, rNe, tCall, tCons, tNil, tCB, tLst, tTup, tAnd, tOr, tNot, tAndV, tOrV, tNotV, tIf, tDrop, tSl, tPart, tNoPart, tChain, tUn, rU, L2.start, cx_K, bk_K, cx_calm, bk_calm, lenV_str, and_assoc, Option.join, List.length_map, List.length_append, decide_eq_true_eq, Bool.false_eq_true, if_false, if_true, Bool.not_true, Bool.not_false, Bool.not_eq_true', decide_eq_false_iff_not, Bool.true_eq_false, List.length_cons, List.length_nil, List.map_cons, List.map_nil, List.replicate, List.cons_append, List.nil_append, List.append_nil, List.getElem?_cons_zero, List.getElem?_cons_succ, List.set_cons_zero, List.set_cons_succ, Nat.reduceSub, Nat.reduceAdd, Option.some.injEq, V.int.injEq, V.str.injEq, V.bl.injEq, V.ref.injEq, List.cons.injEq, and_true, true_and, exists_eq_left', exists_eq_left, exists_and_left, exists_eq_right, exists_const]
 refine hN _ _ ?_
 refine zI fun N hN => ?_
 simp only [tSeq, tFor_eq, tLC_eq, iRng1, iRng2, iList, iTup, iStr, tIfS, tRet, tRetN, tNext, tAsg, gName, tVar, tC, tOp, rI0, rI, tTest, tB, rEq, rNe, tCall, tCons, tNil, tCB, tLst, tTup, tAnd, tOr, tNot, tAndV, tOrV, tNotV, tIf, tDrop, tSl, tPart, tNoPart, tChain, tUn, rU, L2.start, cx_K, bk_K, cx_calm, bk_calm, lenV_str, and_assoc, Option.join, List.length_map, List.length_append, decide_eq_true_eq, Bool.false_eq_true, if_false, if_true, Bool.not_true, Bool.not_false, Bool.not_eq_true', decide_eq_false_iff_not, Bool.true_eq_false, List.length_cons, List.length_nil, List.map_cons, List.map_nil, List.replicate, List.cons_append, List.nil_append, List.append_nil, List.getElem?_cons_zero, List.getElem?_cons_succ, List.set_cons_zero, List.set_cons_succ, Nat.reduceSub, Nat.reduceAdd, Option.some.injEq, V.int.injEq, V.str.injEq, V.bl.injEq, V.ref.injEq, List.cons.injEq, and_true, true_and, exists_eq_left', exists_eq_left, exists_and_left, exists_eq_right, exists_const]
 refine hN _ _ ?_
 refine zI fun N hN => ?_
 simp only [tSeq, tFor_eq, tLC_eq, iRng1, iRng2, iList, iTup, iStr, tIfS, tRet, tRetN, tNext, tAsg, gName, tVar, tC, tOp, rI0, rI, tTest, tB, rEq, rNe, tCall, tCons, tNil, tCB, tLst, tTup, tAnd, tOr, tNot, tAndV, tOrV, tNotV, tIf, tDrop, tSl, tPart, tNoPart, tChain, tUn, rU, L2.start, cx_K, bk_K, cx_calm, bk_calm, lenV_str, and_assoc, Option.join, List.length_map, List.length_append, decide_eq_true_eq, Bool.false_eq_true, if_false, if_true, Bool.not_true, Bool.not_false, Bool.not_eq_true', decide_eq_false_iff_not, Bool.true_eq_false, List.length_cons, List.length_nil, List.map_cons, List.map_nil, List.replicate, List.cons_append, List.nil_append, List.append_nil, List.getElem?_cons_zero, List.getElem?_cons_succ, List.set_cons_zero, List.set_cons_succ, Nat.reduceSub, Nat.reduceAdd, Option.some.injEq, V.int.injEq, V.str.injEq, V.bl.injEq, V.ref.injEq, List.cons.injEq, and_true, true_and, exists_eq_left', exists_eq_left, exists_and_left, exists_eq_right, exists_const]
 refine ⟨⟨by decide, by decide, by decide⟩, by decide, hN _ _ ?_⟩
 generalize c % 26 ^ Int.toNat 8 = r0
 have hm : 0 <= n % 8 /\ n % 8 < 8 := by omega
 have e0 : ("" : Str).cps.toList = [] := by decide +kernel
 refine yH (fun σ H' => H' = H /\ ∃ (z : Str) (a b : Option V), z.length = 1 + (n % 8).toNat /\ (∀ d ∈ z.cps.toList, 97 <= d /\ d <= 122) /\ σ = [some (V.int c), some (V.int n), some (V.str "abcdefghijklmnopqrstuvwxyz"), some (V.str z), a, b]) (fun N hN => ?_) (fun σ H' h => ?_)
 · simp only [tSeq, tFor_eq, tLC_eq, iRng1, iRng2, iList, iTup, iStr, tIfS, tRet, tRetN, tNext, tAsg, gName, tVar, tC, tOp, rI0, rI, tTest, tB, rEq, rNe, tCall, tCons, tNil, tCB, tLst, tTup, tAnd, tOr, tNot, tAndV, tOrV, tNotV, tIf, tDrop, tSl, tPart, tNoPart, tChain, tUn, rU, L2.start, cx_K, bk_K, cx_calm, bk_calm, lenV_str, and_assoc, Option.join, List.length_map, List.length_append, decide_eq_true_eq, Bool.false_eq_true, if_false, if_true, Bool.not_true, Bool.not_false, Bool.not_eq_true', decide_eq_false_iff_not, Bool.true_eq_false, List.length_cons, List.length_nil, List.map_cons, List.map_nil, List.replicate, List.cons_append, List.nil_append, List.append_nil, List.getElem?_cons_zero, List.getElem?_cons_succ, List.set_cons_zero, List.set_cons_succ, Nat.reduceSub, Nat.reduceAdd, Option.some.injEq, V.int.injEq, V.str.injEq, V.bl.injEq, V.ref.injEq, List.cons.injEq, and_true, true_and, exists_eq_left', exists_eq_left, exists_and_left, exists_eq_right, exists_const]
   refine ⟨by decide, by omega, by omega, qF (n := (1 + n % 8).toNat) (fun i σ H' => H' = H /\ ∃ (z : Str) (r : Int) (o : Option V), z.length = i /\ (∀ d ∈ z.cps.toList, 97 <= d /\ d <= 122) /\ σ = [some (V.int c), some (V.int n), some (V.str "abcdefghijklmnopqrstuvwxyz"), some (V.str z), some (V.int r), o])
     ⟨rfl, _, _, _, rfl, (fun d hd => by rw [e0] at hd; cases hd), rfl⟩ (fun i σ H' hi e => ?_) (fun σ H' e => ?_)⟩
   · obtain ⟨rfl, z, r, o, hz, hl, rfl⟩ := e
     obtain ⟨d, hd, hd2⟩ := letter_at r
     simp only [tSeq, tFor_eq, tLC_eq, iRng1, iRng2, iList, iTup, iStr, tIfS, tRet, tRetN, tNext, tAsg, gName, tVar, tC, tOp, rI0, rI, tTest, tB, rEq, rNe, tCall, tCons, tNil, tCB, tLst, tTup, tAnd, tOr, tNot, tAndV, tOrV, tNotV, tIf, tDrop, tSl, tPart, tNoPart, tChain, tUn, rU, L2.start, cx_K, bk_K, cx_calm, bk_calm, lenV_str, and_assoc, Option.join, List.length_map, List.length_append, decide_eq_true_eq, Bool.false_eq_true, if_false, if_true, Bool.not_true, Bool.not_false, Bool.not_eq_true', decide_eq_false_iff_not, Bool.true_eq_false, List.length_cons, List.length_nil, List.map_cons, List.map_nil, List.replicate, List.cons_append, List.nil_append, List.append_nil, List.getElem?_cons_zero, List.getElem?_cons_succ, List.set_cons_zero, List.set_cons_succ, Nat.reduceSub, Nat.reduceAdd, Option.some.injEq, V.int.injEq, V.str.injEq, V.bl.injEq, V.ref.injEq, List.cons.injEq, and_true, true_and, exists_eq_left', exists_eq_left, exists_and_left, exists_eq_right, exists_const]
     refine ⟨by decide, _, _, d, rfl, rfl, zM (by decide +kernel), hd, ?_⟩
     have e1 : (⟨#[d]⟩ : Str).length = 1 := rfl
     refine ⟨_, rfl, zM (by omega), ⟨by decide, by decide⟩, rfl, _, ?_, ?_, rfl, _, rfl⟩
     · rw [len_app, hz, e1]
     · intro d' hd'
       rw [cps_app] at hd'
       rcases List.mem_append.mp hd' with h | h
       · exact hl d' h
       · have h : d' ∈ [d] := h
         rw [List.mem_singleton.mp h]
         exact hd2
   · obtain ⟨rfl, z, r, o, hz, hl, rfl⟩ := e
     exact hN _ _ ⟨rfl, z, _, _, by omega, hl, rfl⟩
 · obtain ⟨rfl, z, a, b, hz, hl, rfl⟩ := h
   refine yH (fun σ H'' => H'' = H' /\ ∃ (z : Str) (a b : Option V), Nm z /\ σ = [some (V.int c), some (V.int n), some (V.str "abcdefghijklmnopqrstuvwxyz"), some (V.str z), a, b]) (fun N hN => ?_) (fun σ H'' h => ?_)
   · simp only [tSeq, tFor_eq, tLC_eq, iRng1, iRng2, iList, iTup, iStr, tIfS, tRet, tRetN, tNext, tAsg, gName, tVar, tC, tOp, rI0, rI, tTest, tB, rEq, rNe, tCall, tCons, tNil, tCB, tLst, tTup, tAnd, tOr, tNot, tAndV, tOrV, tNotV, tIf, tDrop, tSl, tPart, tNoPart, tChain, tUn, rU, L2.start, cx_K, bk_K, cx_calm, bk_calm, lenV_str, and_assoc, Option.join, List.length_map, List.length_append, decide_eq_true_eq, Bool.false_eq_true, if_false, if_true, Bool.not_true, Bool.not_false, Bool.not_eq_true', decide_eq_false_iff_not, Bool.true_eq_false, List.length_cons, List.length_nil, List.map_cons, List.map_nil, List.replicate, List.cons_append, List.nil_append, List.append_nil, List.getElem?_cons_zero, List.getElem?_cons_succ, List.set_cons_zero, List.set_cons_succ, Nat.reduceSub, Nat.reduceAdd, Option.some.injEq, V.int.injEq, V.str.injEq, V.bl.injEq, V.ref.injEq, List.cons.injEq, and_true, true_and, exists_eq_left', exists_eq_left, exists_and_left, exists_eq_right, exists_const]
     refine ⟨rfl, ?_⟩
     have fin : ∀ z : Str, Nm z -> N [some (V.int c), some (V.int n), some (V.str "abcdefghijklmnopqrstuvwxyz"), some (V.str z), a, b] H' := fun z h => hN _ _ ⟨rfl, z, _, _, h, rfl⟩
     split
     · rename_i e
       subst e
       refine ⟨zM (by decide +kernel), fin _ ?_⟩
       exact ⟨by decide +kernel, by decide +kernel, by decide +kernel, by decide +kernel, by decide +kernel⟩
     · rename_i e
       refine ⟨rfl, ?_⟩
       split
       · rename_i e
         subst e
         refine ⟨zM (by decide +kernel), fin _ ?_⟩
         exact ⟨by decide +kernel, by decide +kernel, by decide +kernel, by decide +kernel, by decide +kernel⟩
       · rename_i e2
         exact fin z ⟨by omega, by omega, hl, e, e2⟩
   · obtain ⟨rfl, z, a, b, hz, rfl⟩ := h
     simp only [tSeq, tFor_eq, tLC_eq, iRng1, iRng2, iList, iTup, iStr, tIfS, tRet, tRetN, tNext, tAsg, gName, tVar, tC, tOp, rI0, rI, tTest, tB, rEq, rNe, tCall, tCons, tNil, tCB, tLst, tTup, tAnd, tOr, tNot, tAndV, tOrV, tNotV, tIf, tDrop, tSl, tPart, tNoPart, tChain, tUn, rU, L2.start, cx_K, bk_K, cx_calm, bk_calm, lenV_str, and_assoc, Option.join, List.length_map, List.length_append, decide_eq_true_eq, Bool.false_eq_true, if_false, if_true, Bool.not_true, Bool.not_false, Bool.not_eq_true', decide_eq_false_iff_not, Bool.true_eq_false, List.length_cons, List.length_nil, List.map_cons, List.map_nil, List.replicate, List.cons_append, List.nil_append, List.append_nil, List.getElem?_cons_zero, List.getElem?_cons_succ, List.set_cons_zero, List.set_cons_succ, Nat.reduceSub, Nat.reduceAdd, Option.some.injEq, V.int.injEq, V.str.injEq, V.bl.injEq, V.ref.injEq, List.cons.injEq, and_true, true_and, exists_eq_left', exists_eq_left, exists_and_left, exists_eq_right, exists_const]
     exact q z hz
theorem jS (bi : Bi mg) (h_j : Has P w K mg base 1 "_law_name_by" ["cell", "size"] spName) (F : Fun K "_law_sheet_and_rules" "_law_sheet_and_rules" s_a f fd) : FnOk P w K mg base CX0 2 f fd ["script", "most", "many"] (spSR K) := by
 refine F.ok sc_a (fun vs H Q E h => ?_) (fun cdv A outer s H vs Q E hr h => ?_)
 · obtain ⟨sa, ns, m, n, rfl, _⟩ := h
   rfl
 obtain ⟨sa, ns, m, n, rfl, hS, h63, q⟩ := h
 refine ⟨_, (zD (zO (i := 3) sc_a.nd rfl (Or.inl rfl) (yV (zA (zX (zA yF pa_nil)) pa_nil))) (zD (zO (i := 4) sc_a.nd rfl (Or.inl rfl) (yV pa_nil)) (zD (yZ PassesOwn.never rfl (yU (xT sl_list (pv 0) po_none (jK zE))) (zQ (i := 5) sc_a.nd rfl (Or.inl rfl)) (zD (zO (i := 6) sc_a.nd rfl (Or.inl rfl) (zK op_mod (pv 5) (zK op_pow zE zE))) (zD (zO (i := 7) sc_a.nd rfl (Or.inl rfl) (zK op_mul zE (zP call_len rfl bi.len bt_len (zA (pv 3) pa_nil)))) (zD (zO (i := 8) sc_a.nd rfl (Or.inl rfl) (zK op_mod (zK op_fdiv (zK op_mod (zK op_mul (zK op_fdiv (pv 6) zE) zE) zE) zE) (pv 7))) (zD (zO (i := 9) sc_a.nd rfl (Or.inl rfl) (zK op_mod (zK op_fdiv (zK op_mod (zK op_mul (zK op_fdiv (pv 6) zE) zE) zE) zE) (pv 7))) (zD (zO (i := 10) sc_a.nd rfl (Or.inl rfl) (zX (zA yF (zA (pv 8) (zA (pv 9) pa_nil))))) (zD (xD (yC op_eq (zK op_mod (pv 6) zE) zE (yP _)) (zH (zO (i := 10) sc_a.nd rfl (Or.inl rfl) (zX (zA yF (zA (zS h_j (hr.mono (by omega)) rfl (zA (zK op_fdiv (pv 6) zE) (zA (zK op_mod (zK op_fdiv (pv 6) zE) zE) pa_nil))) pa_nil))))) pss_nil) (zH (xD (PW.pt (uB (yC op_lt (zK op_mod (pv 6) zE) zE (yP _)) (uB (yC op_lt (zP call_len rfl bi.len bt_len (zA (pv 3) pa_nil)) (pv 1) (yP _)) (qS (yC (qH hr.units) (pv 10) (pv 3) (by with_unfolding_all rfl)))))) (zH (zT (qB PySem.F.plainAttrs_list PySem.F.slot_list_append PySem.F.type_list_append mt_append (pv 3) (zA (pv 10) pa_nil)))) (zH (xD (PW.pt (uB (yC op_lt (zP call_len rfl bi.len bt_len (zA (pv 4) pa_nil)) (pv 2) (yP _)) (qS (yC op_eq (zK op_mod (zK op_fdiv (pv 6) zE) zE) zE (yP _))))) (zH (zT (qB PySem.F.plainAttrs_list PySem.F.slot_list_append PySem.F.type_list_append mt_append (pv 4) (zA (yV (zA (yV pa_nil) (zA (zX (zA (pv 8) (zA (pv 9) pa_nil))) pa_nil))) pa_nil)))) (zH (xD (PW.pt (uB (yC op_gt (zP call_len rfl bi.len bt_len (zA (pv 4) pa_nil)) zE (yP _)) (qS (yC op_lt (zP call_len rfl bi.len bt_len (zA (zV ix_list (zV ix_list (pv 4) (pe_un un_neg zE) (fun _ _ => rfl)) zE (fun _ _ => rfl)) pa_nil)) zE (yP _))))) (zH (zT (qB PySem.F.plainAttrs_list PySem.F.slot_list_append PySem.F.type_list_append mt_append (zV ix_list (zV ix_list (pv 4) (pe_un un_neg zE) (fun _ _ => rfl)) zE (fun _ _ => rfl)) (zA (zX (zA (pv 9) (zA (pv 8) pa_nil))) pa_nil)))) pss_nil))))))))))))) (zH (yN (zX (zA (pv 3) (zA (jL ["rule"] [] [] (yU (pv 4)) (fun _ _ _ _ nd => zQ (i := 0) nd rfl (Or.inl rfl)) (fun _ _ _ _ => xV) (fun _ _ _ _ => (zX (zA (zV (ix_listK K) (pv 0) zE (fun _ _ => rfl)) (zA (zV (ix_listK K) (pv 0) zE (fun _ _ => rfl)) pa_nil))))) pa_nil)))))))), ?_⟩
 refine zI fun N hN => ?_
 simp! []
 refine ⟨zM (by simp), fun p0 hp0 => ⟨zM (by simp), fun ra hra => hN _ _ ?_⟩⟩
 have e1 := zC hp0 (.tup [.str "none"])
 have k1 : upd H p0 (.tup [.str "none"]) p0 = some (.tup [.str "none"]) := zB
 generalize upd H p0 (.tup [.str "none"]) = H1 at e1 k1 hra ⊢
 have e2 := zC hra (.lst [.ref p0])
 have k2 : upd H1 ra (.lst [.ref p0]) ra = some (.lst [.ref p0]) := zB
 generalize upd H1 ra (.lst [.ref p0]) = H2 at e2 k2 ⊢
 refine zI fun N hN => ?_
 simp! []
 refine ⟨zM (by simp), fun rb hrb => hN _ _ ?_⟩
 have e3 := zC hrb (.lst [])
 have k3 : upd H2 rb (.lst []) rb = some (.lst []) := zB
 generalize upd H2 rb (.lst []) = H3 at e3 k3 ⊢
 have e03 := (e1.trans e2).trans e3
 refine yH (fun σ H' => ∃ (pc : Addr) (zs : List V) (i : Nat) (us : List V) (rows : List Rw) (rs : List RC) (o1 o2 o3 o4 o5 o6 : Option V), i <= 63 /\ (SRI H pc zs i H' ra rb us rows rs /\ (rows.length <= 1 \/ (rows.length : Int) <= m)) /\ σ = [some (V.ref sa), some (V.int m), some (V.int n), some (V.ref ra), some (V.ref rb), o1, o2, o3, o4, o5, o6]) (fun N hN => ?_) (fun σ H' h => ?_)
 · simp! []
   refine ⟨_, Same.seq e03 hS, fun pc hpc => ?_⟩
   rw [cut_ints]
   have hcl := cutI_len ns none (some 60)
   generalize wH ns none (some 60) = cs at hcl
   have e4 := zC hpc (.lst (cs.map V.int))
   have k4 : upd H3 pc (.lst (cs.map V.int)) pc = some (.lst (cs.map V.int)) := zB
   generalize upd H3 pc (.lst (cs.map V.int)) = H4 at e4 k4 ⊢
   have nra : H ra = none := e1.free hra
   have nrb : H rb = none := (e1.trans e2).free hrb
   refine ⟨⟨_, SqL.of k4⟩, ?_⟩
   refine xW (xs := cs.map V.int) (fun i σ H' => ∃ (us : List V) (rows : List Rw) (rs : List RC) (o1 o2 o3 o4 o5 o6 : Option V), (SRI H pc (cs.map V.int) i H' ra rb us rows rs /\ (rows.length <= 1 \/ (rows.length : Int) <= m)) /\ σ = [some (V.ref sa), some (V.int m), some (V.int n), some (V.ref ra), some (V.ref rb), o1, o2, o3, o4, o5, o6]) ?_ (fun i σ H' _ h => ?_) (fun i x σ H' hx h => ?_) (fun σ H' h => ?_)
   · refine ⟨[.ref p0], [.no], [], _, _, _, _, _, _, ⟨⟨e03.trans e4, nra, nrb, yD k2 hrb, k4, ⟨(yD (e3 _ _ k2) hpc).symm, (yD k3 hpc).symm, (fun c z => by cases z)⟩, (e3.trans e4) _ _ k2, ⟨_, _, rfl, ⟨p0, _, rfl, ((e2.trans e3).trans e4) _ _ k1, _, _, rfl, rfl, rfl⟩, rfl⟩, by simp, by simp, (fun k i j hk => by have := (List.getElem?_eq_some_iff.mp hk).1; simp at this; subst this; cases hk), e4 _ _ k3, (fun c z => by cases z), (fun c z => by cases z), List.nodup_nil, (fun c z => by cases z), by simp, (fun c z => by cases z), (fun c z => by cases z)⟩, .inl (Nat.le_refl _)⟩, rfl⟩
   · obtain ⟨us, rows, rs, o1, o2, o3, o4, o5, o6, ⟨S, hmx⟩, rfl⟩ := h
     exact SqL.of S.pk
   · obtain ⟨us, rows, rs, o1, o2, o3, o4, o5, o6, ⟨S, hmx⟩, rfl⟩ := h
     obtain ⟨c, hc, rfl⟩ : ∃ c, cs[i]? = some c /\ x = .int c := by
       rw [List.getElem?_map] at hx
       cases e : cs[i]? with
       | none => rw [e] at hx; cases hx
       | some n => rw [e] at hx; cases hx; exact ⟨n, rfl, rfl⟩
     have hi63 : i < 63 := by have := (List.getElem?_eq_some_iff.mp hc).1; omega
     have hul := yQ S.rws
     show tSeq _ _ _ _ _
     refine zI fun N hN => ?_
     simp! []
     refine ⟨⟨by decide, by decide, by decide⟩, p1018, hN _ _ ?_⟩
     generalize c % 10 ^ Int.toNat 18 = cell
     refine zI fun N hN => ?_
     simp! []
     refine ⟨us.length, .inl ⟨_, SqL.of S.rw, rfl⟩, .inl ⟨by decide, by decide⟩, hN _ _ ?_⟩
     have htop : (0 : Int) < 2 * (us.length : Int) := by have := S.r1; omega
     generalize htq : 2 * (us.length : Int) = top at htop
     refine zI fun N hN => ?_
     simp! []
     refine ⟨⟨by decide, by decide⟩, .inr ⟨by decide, by decide⟩, by decide, ⟨by decide, by decide⟩, htop, hN _ _ ?_⟩
     have o1 := Int.emod_nonneg (cell / 5 * 48271 % 2147483647 / 64) (b := top) (by omega)
     have o2 := Int.emod_lt_of_pos (cell / 5 * 48271 % 2147483647 / 64) (b := top) htop
     generalize cell / 5 * 48271 % 2147483647 / 64 % top = one at o1 o2
     refine zI fun N hN => ?_
     simp! []
     refine ⟨⟨by decide, by decide⟩, .inr ⟨by decide, by decide⟩, by decide, ⟨by decide, by decide⟩, htop, hN _ _ ?_⟩
     have o3 := Int.emod_nonneg (cell / 5 * 39373 % 2147483629 / 1024) (b := top) (by omega)
     have o4 := Int.emod_lt_of_pos (cell / 5 * 39373 % 2147483629 / 1024) (b := top) htop
     generalize cell / 5 * 39373 % 2147483629 / 1024 % top = other at o3 o4
     refine zI fun N hN => ?_
     simp! []
     refine ⟨zM (by simp), fun pr hpr => hN _ _ ?_⟩
     have g1 := zC hpr (.tup [.str "both", .int one, .int other])
     have y1 : upd H' pr (.tup [.str "both", .int one, .int other]) pr = some (.tup [.str "both", .int one, .int other]) := zB
     generalize upd H' pr (.tup [.str "both", .int one, .int other]) = J1 at g1 y1 ⊢
     refine yH (fun σ H2 => Same H' H2 /\ ∃ (rv : V) (r : Rw), DAt H2 (dRw r) rv /\ RowB r top /\ σ = [some (V.ref sa), some (V.int m), some (V.int n), some (V.ref ra), some (V.ref rb), some (V.int c), some (V.int cell), some (V.int top), some (V.int one), some (V.int other), some rv]) (fun N hN => ?_) (fun σ H2 h => ?_)
     · simp! [spName]
       refine ⟨by decide, rfl, ?_⟩
       split
       · refine ⟨⟨by decide, by decide⟩, ⟨by decide, by decide⟩, by decide, fun nm gn => ⟨zM (by simp), fun p2 hp2 => hN _ _ ⟨g1.trans (zC hp2 _), _, .nm nm, ⟨p2, _, rfl, zB, _, _, rfl, rfl, _, _, rfl, rfl, rfl⟩, (fun i j z => by cases z), rfl⟩⟩⟩
       · exact hN _ _ ⟨g1, _, .bo one other, ⟨pr, _, rfl, y1, _, _, rfl, rfl, _, _, rfl, rfl, _, _, rfl, rfl, rfl⟩, (fun i j z => by cases z; exact ⟨⟨o1, o2⟩, o3, o4⟩), rfl⟩
     · obtain ⟨m2, rv, r, hrv, hrb, rfl⟩ := h
       rw [← htq, hul] at hrb
       have S2 := S.go m2
       refine if_abs fun T U hT hU => ?_
       have hU' : U H2 := by
         refine hU H2 ?_
         refine if_abs fun T2 U2 hT2 hU2 => ?_
         have hU2' : U2 H2 := by
           refine hU2 H2 ?_
           simp! []
           refine ⟨_, .inl ⟨_, SqL.of S2.ru, rfl⟩, ?_⟩
           split
           · rename_i hpos
             have hne : rs ≠ [] := by intro z; subst z; simp at hpos
             obtain ⟨rs', c', rfl⟩ : ∃ r x, rs = r ++ [x] := ⟨rs.dropLast, rs.getLast hne, (List.dropLast_concat_getLast hne).symm⟩
             obtain ⟨ho, ⟨uc, hl, hps⟩, ht⟩ := S2.ok c' (by simp)
             have hucl := yQ hps
             have hpl := S.s2 c' (by simp)
             have hru := S2.ru
             rw [List.map_append] at hru
             have hlast : atI ((rs'.map fun c => V.ref c.o) ++ [V.ref c'.o]) (-1) = some (.ref c'.o) := atI_last _ _
             refine ⟨_, SqL.of hru, .ref c'.o, hlast, c'.o, rfl, _, SqL.of ho, .ref c'.l, at0, uc.length, .inl ⟨_, SqL.of hl, rfl⟩, ?_⟩
             split
             · refine ⟨_, SqL.of hru, .ref c'.o, hlast, c'.o, rfl, _, SqL.of ho, .ref c'.l, at0, .inl ⟨rfl, _, SqL.of hl⟩, zM (by simp), fun p6 hp6 => ?_⟩
               have j2 := zC hp6 (.tup [.int other, .int one])
               have z2 : upd H2 p6 (.tup [.int other, .int one]) p6 = some (.tup [.int other, .int one]) := zB
               generalize upd H2 p6 (.tup [.int other, .int one]) = J3 at j2 z2 ⊢
               have hl3 := j2 _ _ hl
               exact ⟨c'.l, rfl, uc, hl3, Nat.lt_of_le_of_lt (m := 100000) (by omega) (by decide), us, rows, _, (S2.go j2).premPut (q := (other, one)) hl3 z2, hmx, _, rfl⟩
             · exact ⟨us, rows, _, S2.up, hmx, _, rfl⟩
           · exact ⟨us, rows, rs, S2.up, hmx, _, rfl⟩
         simp! []
         refine ⟨_, .inl ⟨_, SqL.of S2.ru, rfl⟩, ?_⟩
         split
         · refine ⟨⟨by decide, by decide⟩, by decide, rfl, ?_⟩
           split
           · refine hT2 H2 ?_
             simp! []
             refine ⟨.inl ⟨rfl, _, SqL.of S2.ru⟩, Nat.zero_le _, fun pl hpl => ?_⟩
             have j1 := zC hpl (.lst [])
             have z1 : upd H2 pl (.lst []) pl = some (.lst []) := zB
             generalize upd H2 pl (.lst []) = J2 at j1 z1 ⊢
             refine ⟨zM (by simp), fun pt hpt => ?_⟩
             have j2 := zC hpt (.tup [.int one, .int other])
             have z2 : upd J2 pt (.tup [.int one, .int other]) pt = some (.tup [.int one, .int other]) := zB
             generalize upd J2 pt (.tup [.int one, .int other]) = J3 at j2 z2 ⊢
             refine ⟨zM (by simp), fun po hpo => ?_⟩
             have j3 := zC hpo (.lst [.ref pl, .ref pt])
             have z3 : upd J3 po (.lst [.ref pl, .ref pt]) po = some (.lst [.ref pl, .ref pt]) := zB
             have npo : H2 po = none := (j1.trans j2).free hpo
             have nol : po ≠ pl := (yD (j2 _ _ z1) hpo).symm
             generalize upd J3 po (.lst [.ref pl, .ref pt]) = J4 at j3 z3 ⊢
             have j := (j1.trans j2).trans j3
             have hsl := S.s1
             refine ⟨_, j _ _ S2.ru, Nat.lt_of_le_of_lt (m := 100000) (by rw [List.length_map]; omega) (by decide), us, rows, _, S2.rulePut (q := (one, other)) j npo hpl nol z3 ((j2.trans j3) _ _ z1) (j3 _ _ z2) ⟨⟨o1, by rw [← hul, htq]; exact o2⟩, o3, by rw [← hul, htq]; exact o4⟩, hmx, _, rfl⟩
           · exact hU2'
         · exact hU2'
       simp! []
       refine ⟨by decide, ?_⟩
       split
       · refine ⟨_, .inl ⟨_, SqL.of S2.rw, rfl⟩, ?_⟩
         split
         · rename_i hguard
           refine ⟨2, dRw r, rows.map dRw, hrv, .inl ⟨ra, _, rfl, S2.rw, S2.rws⟩, fun d hd => ?_, by decide, _, rfl, ?_⟩
           · obtain ⟨z, _, rfl⟩ := List.mem_map.mp hd
             exact fit_rw 1 z
           · split
             · refine hT H2 ?_
               simp! []
               have hrl := S.r2
               exact ⟨.inl ⟨rfl, _, SqL.of S2.rw⟩, _, S2.rw, Nat.lt_of_le_of_lt (m := 100000) (by omega) (by decide), _, _, _, S2.rowPut hrv hrb, .inr (by rw [List.length_append, List.length_singleton]; omega), _, rfl⟩
             · exact hU'
         · exact hU'
       · exact hU'
   · obtain ⟨us, rows, rs, o1, o2, o3, o4, o5, o6, ⟨S, hmx⟩, rfl⟩ := h
     rw [List.length_map] at S
     exact hN _ _ ⟨_, _, _, us, rows, rs, _, _, _, _, _, _, by omega, ⟨S, hmx⟩, rfl⟩
 · obtain ⟨pc, zs, ii, us, rows, rs, o1, o2, o3, o4, o5, o6, hii, ⟨S, hmx⟩, rfl⟩ := h
   simp! []
   have hrl := S.s1
   have hr2 := S.r2
   refine ⟨⟨_, SqL.of S.ru⟩, ?_⟩
   refine qE (xs := rs.map fun c => V.ref c.o) (fun i ys σ H2 => Same H' H2 /\ DAts H2 ((rs.take i).map fun c => dNR (c.ps, c.q)) ys /\ ∃ o, σ = [o]) ⟨Same.refl _, rfl, _, rfl⟩ (zM (by rw [List.length_map]; omega)) (fun i ys σ H2 e => ?_) (fun i ys σ H2 e => SqL.of (e.1 _ _ S.ru)) (fun i x ys σ H2 C hx e hC => ?_) (fun ys σ H2 e p3 hp3 => ?_)
   · have := DAts.length e.2.1
     rw [List.length_map, List.length_take] at this
     omega
   · obtain ⟨es, hys, o, rfl⟩ := e
     rw [List.getElem?_map] at hx
     cases hci : rs[i]? with
     | none => rw [hci] at hx; cases hx
     | some c =>
       rw [hci] at hx
       cases hx
       obtain ⟨ho, ⟨uc, hl, hps⟩, ht⟩ := (S.ok c (List.mem_of_getElem? hci)).same es
       simp! []
       refine ⟨_, SqL.of ho, _, at0, _, SqL.of ho, _, at1, zM (by simp), fun p hp => hC _ _ _ ?_⟩
       have g := zC hp (.tup [.ref c.l, .ref c.t])
       refine ⟨es.trans g, mapSnoc (f := fun c : RC => dNR (c.ps, c.q)) hci (DAts.same g hys) ?_, _, rfl⟩
       exact ⟨p, _, rfl, zB, _, _, rfl, ⟨c.l, _, rfl, g _ _ hl, DAts.same g hps⟩, _, _, rfl, ⟨c.t, _, rfl, g _ _ ht, _, _, rfl, rfl, _, _, rfl, rfl, rfl⟩, rfl⟩
   · obtain ⟨es, hys, o, rfl⟩ := e
     rw [List.length_map, List.take_of_length_le (Nat.le_refl _)] at hys
     have g3 := zC hp3 (.lst ys)
     have z3 : upd H2 p3 (.lst ys) p3 = some (.lst ys) := zB
     generalize upd H2 p3 (.lst ys) = H3' at g3 z3 ⊢
     refine ⟨zM (by simp), fun p4 hp4 => ?_⟩
     have g4 := zC hp4 (.tup [.ref ra, .ref p3])
     have gg := (es.trans g3).trans g4
     refine q p4 ra p3 us ys rows (rs.map fun c => (c.ps, c.q)) _ (S.same.trans gg) zB (gg _ _ S.rw) (DAts.same gg S.rws) (g4 _ _ z3) ?_ S.r1 (by omega) hmx (by rw [List.length_map]; omega) (fun r hr => ?_) S.rbd (fun r hr => ?_)
     · rw [List.map_map]
       exact DAts.same (g3.trans g4) hys
     · obtain ⟨c, hc, rfl⟩ := List.mem_map.mp hr
       have := S.s2 c hc
       show c.ps.length <= 100
       omega
     · obtain ⟨c, hc, rfl⟩ := List.mem_map.mp hr
       exact S.qb c hc
end
abbrev s_k : Stmt := qW (top 6) 0
theorem sc_k : FnScope ["self", "many"] ["self", "many"] (zG s_k) := ⟨rfl, rfl, rfl, by decide +kernel, rfl, by decide +kernel, by decide +kernel⟩
abbrev s_b : Stmt := qW (top 6) 1
theorem sc_b : FnScope ["self", "i", "j"] ["self", "i", "j"] (zG s_b) := ⟨rfl, rfl, rfl, by decide +kernel, rfl, by decide +kernel, by decide +kernel⟩
abbrev s_m : Stmt := qW (top 6) 2
theorem sc_m : FnScope ["self", "i", "j"] ["self", "i", "j"] (zG s_m) := ⟨rfl, rfl, rfl, by decide +kernel, rfl, by decide +kernel, by decide +kernel⟩
abbrev s_d : Stmt := qW (top 6) 3
theorem sc_d : FnScope ["self", "i", "j", "why"] ["self", "i", "j", "why"] (zG s_d) := ⟨rfl, rfl, rfl, by decide +kernel, rfl, by decide +kernel, by decide +kernel⟩
abbrev s_s : Stmt := top 1
theorem sc_s : FnScope ["mask", "bits", "rest", "low"] ["mask"] (zG s_s) := ⟨rfl, rfl, rfl, by decide +kernel, rfl, by decide +kernel, by decide +kernel⟩
abbrev nV (n : Nat) : V := .int (n : Int)
def spBits : Sp := fun vs H Q _ => ∃ (m : Nat) (xs : List Nat), vs = [.int m] /\ Bits m xs /\ (∀ x ∈ xs, x < 300) /\ ∀ p H', Same H H' -> H p = none -> H' p = some (.lst (xs.map nV)) -> Q (.ref p) H'
theorem bits_len {m : Nat} {xs : List Nat} (h : Bits m xs) (hx : ∀ x ∈ xs, x < 300) : xs.length <= 300 := by
 have : ∀ (xs : List Nat) (b : Nat), xs.Pairwise (· < ·) -> (∀ x ∈ xs, b <= x /\ x < 300) -> xs.length + b <= 300 \/ xs = [] := by
   intro xs
   induction xs with
   | nil => intro b _ _; exact .inr rfl
   | cons x xs ih =>
     intro b hp hb
     have hp' := List.pairwise_cons.mp hp
     have hx := hb x List.mem_cons_self
     rcases ih (x + 1) hp'.2 (fun y hy => ⟨hp'.1 y hy, (hb y (List.mem_cons_of_mem _ hy)).2⟩) with h | h
     · left; rw [List.length_cons]; omega
     · subst h; left; rw [List.length_cons, List.length_nil]; omega
 rcases this xs 0 h.1 (fun x hx' => ⟨Nat.zero_le _, hx x hx'⟩) with h | h
 · omega
 · subst h; simp
section
variable {P : Program} {w : World} {K : PySem.W.Frag} {mg : Str -> Option Value} {base : Heap} {f : Addr} {fd : FuncData}
theorem ok_bits_of (bi : Bi mg) (F : Fun K "bits_of" "bits_of" s_s f fd) : FnOk P w K mg base CX0 1 f fd ["mask"] spBits := by
 refine F.ok sc_s (fun vs H Q E h => ?_) (fun cdv A outer s H vs Q E hr h => ?_)
 · obtain ⟨m, xs, rfl, _⟩ := h
   rfl
 obtain ⟨m, xs, rfl, hb, hx, q⟩ := h
 have hxl := bits_len hb hx
 refine ⟨_, (zD (zO (i := 1) sc_s.nd rfl (Or.inl rfl) (yV pa_nil)) (zD (zO (i := 2) sc_s.nd rfl (Or.inl rfl) (pv 0)) (zD (ps_while PassesOwn.never (pt_truth (pv 2) (fun _ => rfl)) (zD (zO (i := 3) sc_s.nd rfl (Or.inl rfl) (zK op_and (pv 2) (pe_un un_neg (pv 2)))) (zD (zT (qB PySem.F.plainAttrs_list PySem.F.slot_list_append PySem.F.type_list_append mt_append (pv 1) (zA (zK op_sub (pe_bm0 PySem.F.plainAttrs_int PySem.F.slot_int_bit_length PySem.F.type_int_bit_length mt_bit_length (pv 3)) zE) pa_nil))) (zH (ps_aug (i := 2) sc_s.nd rfl (Or.inl rfl) (pv 3) ip_xor))))) (zH (yN (pv 1)))))), ?_⟩
 refine zI fun N hN => ?_
 simp! []
 refine ⟨zM (by simp), fun p hp => hN _ _ ?_⟩
 clear hN
 refine zI fun N hN => ?_
 simp! []
 refine hN _ _ ?_
 clear hN
 have s1 := zC hp (.lst [])
 have k1 : upd H p (.lst []) p = some (.lst ((xs.take 0).map nV)) := zB
 generalize upd H p (.lst []) = H1 at s1 k1 ⊢
 refine yH (fun σ H' => ∃ (o1 o2 : Option V), Same H H' /\ H' p = some (.lst (xs.map nV)) /\ σ = [some (V.int m), some (V.ref p), o1, o2]) (fun N hN => ?_) (fun σ H' h => ?_)
 · simp! [tWhile]
   refine ⟨fun k σ H' => ∃ (i r : Nat) (o : Option V), k = xs.length - i /\ i <= xs.length /\ Same H H' /\ H' p = some (.lst ((xs.take i).map nV)) /\ Bits r (xs.drop i) /\ σ = [some (V.int m), some (V.ref p), some (V.int r), o], ⟨_, 0, m, _, rfl, Nat.zero_le _, s1, k1, hb, rfl⟩, fun k σ H' h => ?_⟩
   obtain ⟨i, r, o, rfl, hi, s2, k2, hr', rfl⟩ := h
   simp! []
   refine ⟨_, rfl, ?_⟩
   cases hd : xs.drop i with
   | nil =>
     rw [hd] at hr'
     have e0 := hr'.nil
     subst e0
     rw [if_neg (by decide)]
     have hil : xs.length <= i := by
       have := congrArg List.length hd
       rw [List.length_drop, List.length_nil] at this
       omega
     rw [List.take_of_length_le hil] at k2
     exact hN _ _ ⟨_, _, s2, k2, rfl⟩
   | cons x rest =>
     rw [hd] at hr'
     have hxb : r.testBit x = true := by rw [hr'.2]; simp
     obtain ⟨hr0, hl, hb2⟩ := hr'.cons
     rw [if_pos (by simp; omega)]
     have hil : i < xs.length := by
       have := congrArg List.length hd
       rw [List.length_drop, List.length_cons] at this
       omega
     have hxi : xs[i]? = some x := by
       have := congrArg (·[0]?) hd
       simpa using this
     have hdr : xs.drop (i + 1) = rest := by
       have := congrArg (List.drop 1) hd
       rw [List.drop_drop] at this
       simpa using this
     refine ⟨fun σ' H'' => ∃ (o : Option V), Same H H'' /\ H'' p = some (.lst ((xs.take (i + 1)).map nV)) /\ σ' = [some (V.int m), some (V.ref p), some (V.int ((r &&& (r - 1) : Nat) : Int)), o], fun σ' H'' h => ?_, ?_⟩
     · obtain ⟨o', a1, a2, rfl⟩ := h
       exact ⟨xs.length - (i + 1), by omega, i + 1, rfl, by omega, a1, a2, _, by rw [hdr]; exact hb2, _, rfl⟩
     have elow : Builtin.bitAnd (r : Int) (-(r : Int)) = ((2 ^ x : Nat) : Int) := by rw [low_mask hr0, hl]
     simp! [tAug, ipI, rBitLen]
     rw [elow, bits_pow]
     refine ⟨.inl ⟨rfl, _, SqL.of k2⟩, rfl, _, k2, jJ (by rw [List.length_map, List.length_take]; omega), s2.upd hp, ?_, xor_low hl hxb, _, rfl⟩
     have e : (((x + 1 : Nat) : Int) - 1) = (x : Int) := by omega
     obtain ⟨_, ei⟩ := List.getElem?_eq_some_iff.mp hxi
     rw [zB, e, List.take_succ_eq_append_getElem hil, ei, List.map_append]
     rfl
 obtain ⟨o1, o2, s2, k2, rfl⟩ := h
 simp! []
 exact q _ _ s2 hp k2
end
def OW (as : List Wt) : Prop := as.length <= 3 /\ ∀ ps, Wt.ps ps ∈ as -> ps.length <= 300
def zJ (ls : List Ln) (i j : Int) : Bool := ls.any fun l => l.i == i && l.j == j
theorem hasP_iff {ls : List Ln} {i j : Int} : zJ ls i j = true ↔ ∃ (p : Nat) (l : Ln), ls[p]? = some l /\ l.i = i /\ l.j = j := by
 unfold zJ
 rw [List.any_eq_true]
 constructor
 · rintro ⟨l, hl, h⟩
   rw [Bool.and_eq_true, beq_iff_eq, beq_iff_eq] at h
   obtain ⟨p, hp, e⟩ := List.getElem_of_mem hl
   exact ⟨p, l, by rw [List.getElem?_eq_getElem hp, e], h.1, h.2⟩
 · rintro ⟨p, l, hl, h1, h2⟩
   exact ⟨l, List.mem_of_getElem? hl, by rw [h1, h2]; simp⟩
theorem jG (ls t : List Ln) (i j : Int) : zJ (ls ++ t) i j = (zJ ls i j || zJ t i j) := by
 unfold zJ
 rw [List.any_append]
theorem uH (l : Ln) (i j : Int) : zJ [l] i j = (l.i == i && l.j == j) := by
 unfold zJ
 simp
def xH (i j : Int) : List Key := [.inl i, .inl j]
def plT : List Ln -> Nat -> List (List Key × V)
 | [], _ => []
 | l :: ls, k => (xH l.i l.j, .int k) :: plT ls (k + 1)
theorem plT_len : ∀ (ls : List Ln) (k : Nat), (plT ls k).length = ls.length
 | [], _ => rfl
 | l :: ls, k => by show (plT ls (k + 1)).length + 1 = _; rw [plT_len ls (k + 1)]; rfl
theorem plT_snoc (l : Ln) : ∀ (ls : List Ln) (k : Nat), plT (ls ++ [l]) k = plT ls k ++ [(xH l.i l.j, .int ((k + ls.length : Nat) : Int))]
 | [], k => rfl
 | l' :: ls, k => by
   show _ :: plT (ls ++ [l]) (k + 1) = _
   rw [plT_snoc l ls (k + 1), List.length_cons]
   show _ = _ :: _ ++ _
   rw [show k + 1 + ls.length = k + (ls.length + 1) by omega]
   rfl
theorem key2_inj {i j i' j' : Int} (h : xH i j = xH i' j') : i = i' /\ j = j' := by
 unfold xH at h
 injection h with h1 h2
 injection h2 with h2 h3
 exact ⟨Sum.inl.inj h1, Sum.inl.inj h2⟩
theorem qT {i j : Int} : ∀ (ls : List Ln) (k : Nat), (zJ ls i j = false /\ yJ (plT ls k) (xH i j) = none) \/ ∃ (p : Nat) (l : Ln), ls[p]? = some l /\ l.i = i /\ l.j = j /\ yJ (plT ls k) (xH i j) = some (.int ((k + p : Nat) : Int))
 | [], k => .inl ⟨rfl, rfl⟩
 | l :: ls, k => by
   by_cases h : l.i = i /\ l.j = j
   · refine .inr ⟨0, l, rfl, h.1, h.2, ?_⟩
     show yJ ((xH l.i l.j, V.int k) :: plT ls (k + 1)) (xH i j) = _
     rw [h.1, h.2, jV rfl]
     rfl
   · have e : yJ (plT (l :: ls) k) (xH i j) = yJ (plT ls (k + 1)) (xH i j) := jW (fun z => h (key2_inj z))
     rcases qT ls (k + 1) with ⟨h1, h2⟩ | ⟨p, l', h1, h2, h3, h4⟩
     · left
       refine ⟨?_, by rw [e]; exact h2⟩
       show ((l.i == i && l.j == j) || zJ ls i j) = false
       rw [h1, Bool.or_false]
       rw [Bool.eq_false_iff]
       intro z
       rw [Bool.and_eq_true, beq_iff_eq, beq_iff_eq] at z
       exact h z
     · right
       refine ⟨p + 1, l', h1, h2, h3, ?_⟩
       rw [e, h4]
       congr 2
       omega
theorem qA {κ : Type} [DecidableEq κ] {kvs : List (κ × V)} {k : κ} {v : V} (h : yJ kvs k = none) : xR kvs k v = kvs ++ [(k, v)] := by
 unfold xR
 rw [if_neg]
 intro z
 obtain ⟨x, hx, hk⟩ := List.any_eq_true.mp z
 unfold yJ at h
 rw [Option.map_eq_none_iff, List.find?_eq_none] at h
 exact h x hx hk
theorem said_ext {ls t : List Ln} {k : Nat} (h : k <= ls.length) (x : Wt) : yY (ls ++ t) k x = yY ls k x := by
 cases x with
 | ps l => rfl
 | n i =>
   show (if 0 <= i /\ i < (k : Int) then ((ls ++ t)[i.toNat]?).map fun l => (l.i, l.j) else none) = (if 0 <= i /\ i < (k : Int) then (ls[i.toNat]?).map fun l => (l.i, l.j) else none)
   by_cases hi : 0 <= i /\ i < (k : Int)
   · rw [if_pos hi, if_pos hi, List.getElem?_append_left (by omega)]
   · rw [if_neg hi, if_neg hi]
theorem step_ext {rows : List Rw} {rules : List zN} {ls t : List Ln} {k : Nat} {l : Ln} (h : k <= ls.length) : yR rows rules (ls ++ t) k l = yR rows rules ls k l := by
 have e : yY (ls ++ t) k = yY ls k := funext fun x => said_ext h x
 unfold yR xZ
 rw [e]
theorem xQ {rows : List Rw} {rules : List zN} {ls : List Ln} {k : Nat} {l : Ln} (h : yR rows rules ls k l = true) : (0 <= l.i /\ l.i < 2 * (rows.length : Int)) /\ 0 <= l.j /\ l.j < 2 * (rows.length : Int) := by
 unfold yR at h
 split at h
 · cases h
 · rename_i hn
   simp only [not_or, Classical.not_not] at hn
   exact hn
structure GOk (rows : List Rw) (rules : List zN) (ls : List Ln) : Prop where
 snd : ∀ (k : Nat) (l : Ln), ls[k]? = some l -> yR rows rules ls k l = true
 dis : ∀ (a b : Nat) (x y : Ln), ls[a]? = some x -> ls[b]? = some y -> x.i = y.i -> x.j = y.j -> a = b
 siz : ∀ l ∈ ls, OW l.as
theorem GOk.put {rows : List Rw} {rules : List zN} {ls : List Ln} {l : Ln} (h : GOk rows rules ls) (hn : zJ ls l.i l.j = false) (hs : yR rows rules ls ls.length l = true) (ho : OW l.as) : GOk rows rules (ls ++ [l]) := by
 have no : ∀ (a : Nat) (x : Ln), ls[a]? = some x -> x.i = l.i -> x.j = l.j -> False := fun a x hx h1 h2 => by
   have := hasP_iff.mpr ⟨a, x, hx, h1, h2⟩
   rw [hn] at this
   cases this
 have sp : ∀ (a : Nat) (x : Ln), (ls ++ [l])[a]? = some x -> ls[a]? = some x \/ a = ls.length /\ x = l := fun a x hx => by
   by_cases ha : a < ls.length
   · rw [List.getElem?_append_left ha] at hx
     exact .inl hx
   · have ha2 := (List.getElem?_eq_some_iff.mp hx).1
     rw [List.length_append, List.length_singleton] at ha2
     have e : a = ls.length := by omega
     subst e
     rw [List.getElem?_append_right (Nat.le_refl _), Nat.sub_self] at hx
     cases hx
     exact .inr ⟨rfl, rfl⟩
 refine ⟨fun k x hx => ?_, fun a b x y hx hy h1 h2 => ?_, fun x hx => ?_⟩
 · rcases sp k x hx with hx | ⟨rfl, rfl⟩
   · have hk := (List.getElem?_eq_some_iff.mp hx).1
     rw [step_ext (by omega)]
     exact h.snd k x hx
   · rw [step_ext (Nat.le_refl _)]
     exact hs
 · rcases sp a x hx with hx' | ⟨ea, ex⟩
   · rcases sp b y hy with hy' | ⟨eb, ey⟩
     · exact h.dis a b x y hx' hy' h1 h2
     · rw [ey] at h1 h2
       exact (no a x hx' h1 h2).elim
   · rcases sp b y hy with hy' | ⟨eb, ey⟩
     · rw [ex] at h1 h2
       exact (no b y hy' h1.symm h2.symm).elim
     · rw [ea, eb]
 · rcases List.mem_append.mp hx with hx | hx
   · exact h.siz x hx
   · rw [List.mem_singleton.mp hx]; exact ho
theorem nodup_subI : ∀ {l m : List Int}, l.Nodup -> (∀ x ∈ l, x ∈ m) -> l.length <= m.length
 | [], m, _, _ => Nat.zero_le _
 | x :: l, m, hn, hs => by
   have hx : x ∈ m := hs x List.mem_cons_self
   have hn' := List.nodup_cons.mp hn
   have := nodup_subI (l := l) (m := m.erase x) hn'.2 fun y hy => by
     have hy' := hs y (List.mem_cons_of_mem _ hy)
     have hne : y ≠ x := fun e => hn'.1 (by rw [← e]; exact hy)
     exact (List.mem_erase_of_ne hne).mpr hy'
   rw [List.length_erase_of_mem hx] at this
   have := List.length_pos_of_mem hx
   rw [List.length_cons]
   omega
theorem GOk.len {rows : List Rw} {rules : List zN} {ls : List Ln} (h : GOk rows rules ls) : ls.length <= (2 * rows.length) * (2 * rows.length) := by
 have hr : ∀ l ∈ ls, (0 <= l.i /\ l.i < 2 * (rows.length : Int)) /\ 0 <= l.j /\ l.j < 2 * (rows.length : Int) := fun l hl => by
   obtain ⟨p, hp, e⟩ := List.getElem_of_mem hl
   exact xQ (h.snd p l (by rw [List.getElem?_eq_getElem hp, e]))
 generalize hn : 2 * rows.length = n
 have hn' : 2 * (rows.length : Int) = (n : Int) := by omega
 rw [hn'] at hr
 have := nodup_subI (l := ls.map fun l => l.i * n + l.j) (m := (List.range (n * n)).map fun i : Nat => (i : Int)) ?_ fun x hx => ?_
 · rwa [List.length_map, List.length_map, List.length_range] at this
 · refine List.pairwise_iff_getElem.mpr fun a b ha hb hab e => ?_
   rw [List.length_map] at ha hb
   rw [List.getElem_map, List.getElem_map] at e
   have r1 := hr _ (List.getElem_mem ha)
   have r2 := hr _ (List.getElem_mem hb)
   have hi : ls[a].i = ls[b].i := by
     have e1 : (ls[a].i * n + ls[a].j) / n = ls[a].i := by
       rw [Int.add_comm, Int.add_mul_ediv_right _ _ (by omega), Int.ediv_eq_zero_of_lt r1.2.1 r1.2.2, Int.zero_add]
     have e2 : (ls[b].i * n + ls[b].j) / n = ls[b].i := by
       rw [Int.add_comm, Int.add_mul_ediv_right _ _ (by omega), Int.ediv_eq_zero_of_lt r2.2.1 r2.2.2, Int.zero_add]
     rw [← e1, e, e2]
   have hj : ls[a].j = ls[b].j := by rw [hi] at e; omega
   have := h.dis a b _ _ (List.getElem?_eq_getElem ha) (List.getElem?_eq_getElem hb) hi hj
   omega
 · obtain ⟨l, hl, rfl⟩ := List.mem_map.mp hx
   have r1 := hr l hl
   have b1 : l.i * n + l.j < n * n := by
     have : l.i * n <= (n - 1) * n := Int.mul_le_mul_of_nonneg_right (by omega) (by omega)
     rw [Int.sub_mul, Int.one_mul] at this
     omega
   have b0 : 0 <= l.i * n := Int.mul_nonneg r1.1.1 (by omega)
   rw [List.mem_map]
   exact ⟨(l.i * n + l.j).toNat, by rw [List.mem_range]; omega, by omega⟩
structure MkA (n : Nat) (hp : Nat -> Nat -> Bool) (as : List Nat) : Prop where
 len : as.length = n
 bit : ∀ (a c : Nat), as[a]? = some c -> ∀ b, c.testBit b = hp a b
theorem MkA.put {n a b c : Nat} {hp hp' : Nat -> Nat -> Bool} {as : List Nat} (h : MkA n hp as) (hc : as[a]? = some c) (e : ∀ x y, hp' x y = (hp x y || (x == a && y == b))) : MkA n hp' (as.set a (c ||| 2 ^ b)) := by
 have la := (List.getElem?_eq_some_iff.mp hc).1
 refine ⟨by rw [List.length_set]; exact h.len, fun x d hx y => ?_⟩
 rw [e]
 by_cases ex : a = x
 · subst ex
   rw [List.getElem?_set_self la] at hx
   cases hx
   rw [Nat.testBit_or, h.bit a c hc, Nat.testBit_two_pow]
   simp only [beq_self_eq_true, Bool.true_and]
   congr 1
   rw [Bool.eq_iff_iff, decide_eq_true_eq, beq_iff_eq]
   exact eq_comm
 · rw [List.getElem?_set_ne ex] at hx
   have : (x == a) = false := beq_eq_false_iff_ne.mpr (Ne.symm ex)
   rw [h.bit x d hx, this, Bool.false_and, Bool.or_false]
structure GAd where
 r : Addr
 la : Addr
 pa : Addr
 aa : Addr
 ba : Addr
def grF (g : GAd) : List (Str × V) := [("lines", .ref g.la), ("places", .ref g.pa), ("above", .ref g.aa), ("below", .ref g.ba)]
structure GrC (K : PySem.W.Frag) (C : Addr) : Prop where
 cl : Cls K C
 nL : NoAttr K C "lines"
 nP : NoAttr K C "places"
 nA : NoAttr K C "above"
 nB : NoAttr K C "below"
theorem gr_l (g : GAd) : (grF g).lookup ("lines" : Str) = some (.ref g.la) := by
 unfold grF
 rw [List.lookup_cons, show (("lines" : Str) == "lines") = true by decide +kernel]
theorem gr_p (g : GAd) : (grF g).lookup ("places" : Str) = some (.ref g.pa) := by
 unfold grF
 rw [List.lookup_cons, show (("places" : Str) == "lines") = false by decide +kernel, List.lookup_cons, show (("places" : Str) == "places") = true by decide +kernel]
theorem gr_a (g : GAd) : (grF g).lookup ("above" : Str) = some (.ref g.aa) := by
 unfold grF
 rw [List.lookup_cons, show (("above" : Str) == "lines") = false by decide +kernel, List.lookup_cons, show (("above" : Str) == "places") = false by decide +kernel, List.lookup_cons, show (("above" : Str) == "above") = true by decide +kernel]
theorem gr_b (g : GAd) : (grF g).lookup ("below" : Str) = some (.ref g.ba) := by
 unfold grF
 rw [List.lookup_cons, show (("below" : Str) == "lines") = false by decide +kernel, List.lookup_cons, show (("below" : Str) == "places") = false by decide +kernel, List.lookup_cons, show (("below" : Str) == "above") = false by decide +kernel, List.lookup_cons, show (("below" : Str) == "below") = true by decide +kernel]
theorem xN (g : GAd) {x : Str} (h1 : (x == ("lines" : Str)) = false) (h2 : (x == ("places" : Str)) = false) (h3 : (x == ("above" : Str)) = false) (h4 : (x == ("below" : Str)) = false) : (grF g).lookup x = none := by
 unfold grF
 rw [List.lookup_cons, h1, List.lookup_cons, h2, List.lookup_cons, h3, List.lookup_cons, h4]
 rfl
structure GrAt (C : Addr) (H : Hp) (g : GAd) (rows : List Rw) (rules : List zN) (ls : List Ln) : Prop where
 ins : ∃ dx, H g.r = some (.ins C dx (grF g))
 lin : ∃ ws, H g.la = some (.lst ws) /\ vM H ls ws
 plc : H g.pa = some (.dT (plT ls 0))
 abv : ∃ as, H g.aa = some (.lst (as.map nV)) /\ MkA (2 * rows.length) (fun a b => zJ ls a b) as
 blw : ∃ as, H g.ba = some (.lst (as.map nV)) /\ MkA (2 * rows.length) (fun a b => zJ ls b a) as
 ne : g.la ≠ g.aa /\ g.la ≠ g.ba /\ g.aa ≠ g.ba
 ok : GOk rows rules ls
def SameG (g : GAd) (H H' : Hp) : Prop := ∀ b o, H b = some o -> b ≠ g.la -> b ≠ g.pa -> b ≠ g.aa -> b ≠ g.ba -> H' b = some o
theorem SameG.trans {g : GAd} {H H1 H2 : Hp} (a : SameG g H H1) (b : SameG g H1 H2) : SameG g H H2 := fun c o h n1 n2 n3 n4 => b c o (a c o h n1 n2 n3 n4) n1 n2 n3 n4
theorem Same.g {g : GAd} {H H' : Hp} (a : Same H H') : SameG g H H' := fun c o h _ _ _ _ => a c o h
theorem GrAt.same {C : Addr} {H H' : Hp} {g : GAd} {rows : List Rw} {rules : List zN} {ls : List Ln} (e : Same H H') (h : GrAt C H g rows rules ls) : GrAt C H' g rows rules ls := by
 obtain ⟨⟨dx, h1⟩, ⟨ws, h2, h3⟩, h4, ⟨as, h5, h6⟩, ⟨bs, h7, h8⟩, h9, h10⟩ := h
 exact ⟨⟨dx, e _ _ h1⟩, ⟨ws, e _ _ h2, DAts.same e h3⟩, e _ _ h4, ⟨as, e _ _ h5, h6⟩, ⟨bs, e _ _ h7, h8⟩, h9, h10⟩
theorem GrAt.tups {C : Addr} {H H' : Hp} {g : GAd} {rows : List Rw} {rules : List zN} {ls : List Ln} (h : GrAt C H g rows rules ls) (e : SameG g H H') : TupSame H H' := fun b xs hb => by
 obtain ⟨ws, h2, _⟩ := h.lin
 obtain ⟨as, h5, _⟩ := h.abv
 obtain ⟨bs, h7, _⟩ := h.blw
 exact e b _ hb (xF hb h2 (by intro z; cases z)) (xF hb h.plc (by intro z; cases z)) (xF hb h5 (by intro z; cases z)) (xF hb h7 (by intro z; cases z))
theorem psAt {H : Hp} {ps : List Int} {v : V} (h : DAt H (dWt (.ps ps)) v) : ∃ a, v = .ref a /\ H a = some (.tup (ps.map V.int)) := by
 obtain ⟨a, us, e1, e2, e3⟩ := h
 have go : ∀ {ps : List Int} {us : List V}, DAts H (ps.map Dt.int) us -> us = ps.map V.int := fun {ps} => by
   induction ps with
   | nil => exact fun h => h
   | cons n ns ih =>
     intro us h
     obtain ⟨v, r, e1, e2, e3⟩ := h
     have e2 : v = .int n := e2
     rw [e1, e2, ih e3]
     rfl
 rw [go e3] at e2
 exact ⟨a, e1, e2⟩
theorem atPs {H : Hp} {a : Addr} {ps : List Int} (h : H a = some (.tup (ps.map V.int))) : DAt H (dWt (.ps ps)) (.ref a) := by
 refine ⟨a, _, rfl, h, ?_⟩
 clear h
 induction ps with
 | nil => rfl
 | cons n ns ih => exact ⟨_, _, rfl, rfl, ih⟩
theorem whyAt {H : Hp} {x : Str} {as : List Wt} {v : V} (h : DAt H (uP x as) v) : ∃ a us, v = .ref a /\ H a = some (.tup (.str x :: us)) /\ WtAts H as us := by
 obtain ⟨a, vs, e1, e2, u, r, e3, h1, h2⟩ := h
 have h1 : u = .str x := h1
 subst h1 e3
 exact ⟨a, r, e1, e2, h2⟩
theorem lnAt {H : Hp} {l : Ln} {v : V} (h : DAt H (dLn l) v) : ∃ a u, v = .ref a /\ H a = some (.tup [.int l.i, .int l.j, u]) /\ DAt H (uP l.w l.as) u := by
 obtain ⟨a, vs, e1, e2, u1, r1, rfl, d1, u2, r2, rfl, d2, u3, r3, rfl, d3, d4⟩ := h
 have d1 : u1 = .int l.i := d1
 have d2 : u2 = .int l.j := d2
 have d4 : r3 = [] := d4
 subst d1 d2 d4
 exact ⟨a, u3, e1, e2, d3⟩
theorem atLn {H : Hp} {i j : Int} {x : Str} {as : List Wt} {a : Addr} {u : V} (h : H a = some (.tup [.int i, .int j, u])) (hu : DAt H (uP x as) u) : DAt H (dLn ⟨i, j, x, as⟩) (.ref a) :=
 ⟨a, _, rfl, h, _, _, rfl, rfl, _, _, rfl, rfl, _, _, rfl, hu, rfl⟩
theorem qY {H H' : Hp} (e : TupSame H H') : ∀ {as : List Wt} {us : List V}, WtAts H as us -> WtAts H' as us
 | [], us, h => h
 | .n i :: as, us, h => by
   obtain ⟨v, r, e1, e2, e3⟩ := h
   exact ⟨v, r, e1, e2, qY e e3⟩
 | .ps l :: as, us, h => by
   obtain ⟨v, r, e1, e2, e3⟩ := h
   obtain ⟨a, rfl, g2⟩ := psAt e2
   exact ⟨_, r, e1, atPs (e _ _ g2), qY e e3⟩
theorem why_tups {H H' : Hp} (e : TupSame H H') {x : Str} {as : List Wt} {v : V} (h : DAt H (uP x as) v) : DAt H' (uP x as) v := by
 obtain ⟨b, us, rfl, h3, h4⟩ := whyAt h
 exact ⟨b, _, rfl, e _ _ h3, _, _, rfl, rfl, qY e h4⟩
theorem ln_tups {H H' : Hp} (e : TupSame H H') {l : Ln} {v : V} (h : DAt H (dLn l) v) : DAt H' (dLn l) v := by
 obtain ⟨a, u, rfl, h1, h2⟩ := lnAt h
 exact atLn (e _ _ h1) (why_tups e h2)
theorem jC {H H' : Hp} (e : TupSame H H') : ∀ {ls : List Ln} {us : List V}, vM H ls us -> vM H' ls us
 | [], us, h => h
 | l :: ls, us, h => by
   obtain ⟨v, r, e1, e2, e3⟩ := h
   exact ⟨v, r, e1, ln_tups e e2, jC e e3⟩
theorem ixN_nat {n p : Nat} (h : p < n) : ixN n (p : Int) = some p := by
 unfold ixN
 rw [if_pos (by omega), if_pos (by omega), Int.toNat_natCast]
def spLo (C : Addr) : Sp := fun vs H Q _ => ∃ (g : GAd) (rows : List Rw) (rules : List zN) (ls : List Ln) (i j : Int), vs = [.ref g.r, .int i, .int j] /\ GrAt C H g rows rules ls /\ zJ ls i j = true /\ ∀ (p : Nat) (l : Ln) H', Same H H' -> ls[p]? = some l -> l.i = i -> l.j = j -> Q (.int p) H'
def spHs (C : Addr) : Sp := fun vs H Q _ => ∃ (g : GAd) (rows : List Rw) (rules : List zN) (ls : List Ln) (i j : Int), vs = [.ref g.r, .int i, .int j] /\ GrAt C H g rows rules ls /\ ∀ H', Same H H' -> Q (.bl (zJ ls i j)) H'
def GrTo (C : Addr) (H : Hp) (g : GAd) (rows : List Rw) (rules : List zN) (ls : List Ln) (H' : Hp) : Prop := SameG g H H' /\ ∃ t, GrAt C H' g rows rules (ls ++ t)
def GrH (C : Addr) (H : Hp) (g : GAd) (rows : List Rw) (rules : List zN) (ls : List Ln) (R : List Ln -> Prop) (H' : Hp) : Prop := SameG g H H' /\ ∃ t, GrAt C H' g rows rules (ls ++ t) /\ R (ls ++ t)
def uN (C : Addr) : Sp := fun vs H Q _ => ∃ (g : GAd) (rows : List Rw) (rules : List zN) (ls : List Ln) (i j : Nat) (wv : V) (x : Str) (as : List Wt), vs = [.ref g.r, .int i, .int j, wv] /\ GrAt C H g rows rules ls /\ rows.length <= 100 /\ DAt H (uP x as) wv /\ yR rows rules ls ls.length ⟨i, j, x, as⟩ = true /\ OW as /\ ∀ H', GrH C H g rows rules ls (fun L => zJ L i j = true) H' -> Q .non H'
section
variable {P : Program} {w : World} {K : PySem.W.Frag} {mg : Str -> Option Value} {base : Heap} {f : Addr} {fd : FuncData}
theorem ok_line_of {C : Addr} (T : GrC K C) (F : Fun K "line_of" "Growth.line_of" s_b f fd) : FnOk P w K mg base CX0 1 f fd ["self", "i", "j"] (spLo C) := by
 refine F.ok sc_b (fun vs H Q E h => ?_) (fun cdv A outer s H vs Q E hr h => ?_)
 · obtain ⟨g, rows, rules, ls, i, j, rfl, _⟩ := h
   rfl
 obtain ⟨g, rows, rules, ls, i, j, rfl, hg, hh, q⟩ := h
 obtain ⟨dx, hi⟩ := hg.ins
 refine ⟨_, (zH (yN (pe_dget (hu_of hr) (yO (pv 0) rfl) (zX (zA (pv 1) (zA (pv 2) pa_nil))) (fun _ _ => rfl)))), ?_⟩
 simp! [jX]
 refine ⟨C, dx, _, hi, T.cl, T.nP, _, gr_p g, zM (by simp), fun p hp => ?_⟩
 have s1 := zC hp (.tup [.int i, .int j])
 rcases qT (i := i) (j := j) ls 0 with ⟨h1, _⟩ | ⟨p', l, h1, h2, h3, h4⟩
 · rw [hh] at h1; cases h1
 rw [Nat.zero_add] at h4
 exact ⟨g.pa, rfl, _, .inr ⟨_, xH i j, p, .inl (s1 _ _ hg.plc), rfl, zB, h4.symm⟩, q p' l _ s1 h1 h2 h3⟩
theorem ok_has {C : Addr} (T : GrC K C) (F : Fun K "has" "Growth.has" s_m f fd) : FnOk P w K mg base CX0 1 f fd ["self", "i", "j"] (spHs C) := by
 refine F.ok sc_m (fun vs H Q E h => ?_) (fun cdv A outer s H vs Q E hr h => ?_)
 · obtain ⟨g, rows, rules, ls, i, j, rfl, _⟩ := h
   rfl
 obtain ⟨g, rows, rules, ls, i, j, rfl, hg, q⟩ := h
 obtain ⟨dx, hi⟩ := hg.ins
 refine ⟨_, (zH (yN (pe_cmp (pc_din (hu_of hr) (zX (zA (pv 1) (zA (pv 2) pa_nil))) (yO (pv 0) rfl)) (by with_unfolding_all rfl)))), ?_⟩
 simp! [jX, tDIn]
 refine ⟨zM (by simp), fun p hp => ?_⟩
 have s1 := zC hp (.tup [.int i, .int j])
 refine ⟨C, dx, _, s1 _ _ hi, T.cl, T.nP, _, gr_p g, g.pa, rfl, _, .inr ⟨_, xH i j, p, .inl (s1 _ _ hg.plc), rfl, zB, rfl⟩, ?_⟩
 have e : (yJ (plT ls 0) (xH i j)).isSome = zJ ls i j := by
   rcases qT (i := i) (j := j) ls 0 with ⟨h1, h2⟩ | ⟨p', l, h1, h2, h3, h4⟩
   · rw [h1, h2]; rfl
   · rw [h4, hasP_iff.mpr ⟨p', l, h1, h2, h3⟩]; rfl
 rw [e]
 exact q _ s1
end
section
variable {P : Program} {w : World} {K : PySem.W.Frag} {mg : Str -> Option Value} {base : Heap} {f : Addr} {fd : FuncData}
theorem ok_grow {C : Addr} (T : GrC K C) (bi : Bi mg) (h_m : HasM P w K mg base 1 C "has" ["self", "i", "j"] (spHs C)) (F : Fun K "grow" "Growth.grow" s_d f fd) : FnOk P w K mg base CX0 2 f fd ["self", "i", "j", "why"] (uN C) := by
 refine F.ok sc_d (fun vs H Q E h => ?_) (fun cdv A outer s H vs Q E hr h => ?_)
 · obtain ⟨g, rows, rules, ls, i, j, wv, x, as, rfl, _⟩ := h
   rfl
 obtain ⟨g, rows, rules, ls, i, j, wv, x, as, rfl, hg, h30, hw, hst, how, q⟩ := h
 have cl_Growth := T.cl
 obtain ⟨dx, hi⟩ := hg.ins
 have hlen := hg.ok.len
 have hlen2 : ls.length <= 40000 := by
   have : 2 * rows.length * (2 * rows.length) <= 200 * 200 := Nat.mul_le_mul (by omega) (by omega)
   omega
 obtain ⟨⟨i0, i1⟩, j0, j1⟩ := xQ hst
 have i1 : (i : Int) < 2 * (rows.length : Int) := i1
 have j1 : (j : Int) < 2 * (rows.length : Int) := j1
 refine ⟨_, (zD (xD (uC (zR h_m cl_Growth (hr.mono (by omega)) (pv 0) (zA (pv 1) (zA (pv 2) pa_nil)))) (zH ps_retN) pss_nil) (zD (ps_dput (hu_of hr) (yO (pv 0) rfl) (zX (zA (pv 1) (zA (pv 2) pa_nil))) (zP call_len rfl bi.len bt_len (zA (yO (pv 0) rfl) pa_nil)) rfl) (zD (zT (qB PySem.F.plainAttrs_list PySem.F.slot_list_append PySem.F.type_list_append mt_append (yO (pv 0) rfl) (zA (zX (zA (pv 1) (zA (pv 2) (zA (pv 3) pa_nil)))) pa_nil))) (zD (ps_augS (yO (pv 0) rfl) (pv 1) get_list (zK op_shl zE (pv 2)) ip_or set_list) (zH (ps_augS (yO (pv 0) rfl) (pv 2) get_list (zK op_shl zE (pv 1)) ip_or set_list)))))), ?_⟩
 refine zI fun N hN => ?_
 simp! [yX]
 refine ⟨_, _, hi, xN g (by decide +kernel) (by decide +kernel) (by decide +kernel) (by decide +kernel), ?_⟩
 refine ⟨g, rows, rules, ls, i, j, rfl, hg, fun H1 s1 => ⟨_, rfl, ?_⟩⟩
 cases hb : zJ ls i j with
 | true =>
   rw [if_pos rfl]
   exact q _ ⟨Same.g s1, [], by rw [List.append_nil]; exact ⟨hg.same s1, hb⟩⟩
 | false =>
   rw [if_neg Bool.false_ne_true]
   refine hN _ _ ?_
   clear hN
   replace hg := hg.same s1
   replace hi := s1 _ _ hi
   replace hw := DAt.same s1 hw
   have h4' := hg.plc
   obtain ⟨⟨_, _⟩, ⟨ws, h2, h3⟩, h4, ⟨bs, h5, h6⟩, ⟨cs, h7, h8⟩, ⟨n1, n2, n3⟩, h10⟩ := hg
   have hwl := yQ h3
   have hpar : g.pa ≠ g.r := xF h4 hi (by intro z; cases z)
   have hlar : g.la ≠ g.r := xF h2 hi (by intro z; cases z)
   have haar : g.aa ≠ g.r := xF h5 hi (by intro z; cases z)
   have hbar : g.ba ≠ g.r := xF h7 hi (by intro z; cases z)
   have hpla : g.pa ≠ g.la := xF h4 h2 (by intro z; cases z)
   have hpaa : g.pa ≠ g.aa := xF h4 h5 (by intro z; cases z)
   have hpba : g.pa ≠ g.ba := xF h4 h7 (by intro z; cases z)
   refine zI fun N hN => ?_
   simp! [jX, sDPut]
   have sz : ∀ {n : Nat}, n <= 40000 -> n < sizeLine := fun h => Nat.lt_of_le_of_lt (m := 100000) (by omega) (by decide)
   refine ⟨C, dx, _, hi, T.cl, T.nL, _, gr_l g, ws.length, .inl ⟨_, SqL.of h2, rfl⟩, C, dx, _, hi, T.cl, T.nP, _, gr_p g, zM (by simp), fun p hp => ?_⟩
   have s2 := zC hp (.tup [.int (i : Int), .int (j : Int)])
   have kp : upd H1 p (.tup [.int (i : Int), .int (j : Int)]) p = some (.tup [.int (i : Int), .int (j : Int)]) := zB
   generalize upd H1 p (.tup [.int (i : Int), .int (j : Int)]) = H2 at s2 kp ⊢
   refine ⟨g.pa, rfl, _, .inr ⟨_, xH i j, p, s2 _ _ h4, rfl, kp, by rw [plT_len]; exact sz hlen2, rfl⟩, hN _ _ ?_⟩
   clear hN
   have vn : yJ (plT ls 0) (xH i j) = none := by
     rcases qT (i := i) (j := j) ls 0 with ⟨_, h⟩ | ⟨p', l, g1, g2, g3, _⟩
     · exact h
     · have := hasP_iff.mpr ⟨p', l, g1, g2, g3⟩
       rw [hb] at this
       cases this
   rw [qA vn]
   have ep : plT ls 0 ++ [(xH i j, V.int (ws.length : Int))] = plT (ls ++ [⟨i, j, x, as⟩]) 0 := by rw [plT_snoc, Nat.zero_add, hwl]
   rw [ep]
   have g3 : SameG g H1 (upd H2 g.pa (.dT (plT (ls ++ [⟨i, j, x, as⟩]) 0))) := fun b o hb _ n _ _ => by rw [zF n]; exact s2 _ _ hb
   have e1 : ∀ {b : Addr} {o : HO}, H1 b = some o -> b ≠ g.pa -> upd H2 g.pa (.dT (plT (ls ++ [⟨i, j, x, as⟩]) 0)) b = some o := fun hb n => by rw [zF n]; exact s2 _ _ hb
   replace hi := e1 hi (Ne.symm hpar)
   replace h2 := e1 h2 (Ne.symm hpla)
   replace h5 := e1 h5 (Ne.symm hpaa)
   replace h7 := e1 h7 (Ne.symm hpba)
   clear e1
   replace h4 : upd H2 g.pa (.dT (plT (ls ++ [⟨i, j, x, as⟩]) 0)) g.pa = some (.dT (plT (ls ++ [⟨i, j, x, as⟩]) 0)) := zB
   have tu : TupSame H1 (upd H2 g.pa (.dT (plT (ls ++ [⟨i, j, x, as⟩]) 0))) := fun b xs hb => by
     have hb2 := s2 _ _ hb
     rw [zF (xF hb h4' (by intro z; cases z))]
     exact hb2
   generalize upd H2 g.pa (.dT (plT (ls ++ [⟨i, j, x, as⟩]) 0)) = H3 at g3 hi h2 h5 h7 h4 tu ⊢
   replace h3 := jC tu h3
   replace hw := why_tups tu hw
   clear kp s2 hp vn ep tu
   refine zI fun N hN => ?_
   simp! [jX]
   refine ⟨C, dx, _, hi, T.cl, T.nL, _, gr_l g, .inl ⟨rfl, _, SqL.of h2⟩, zM (by simp), fun pt hpt => ?_⟩
   have s2 := zC hpt (.tup [.int (i : Int), .int (j : Int), wv])
   have kt : upd H3 pt (.tup [.int (i : Int), .int (j : Int), wv]) pt = some (.tup [.int (i : Int), .int (j : Int), wv]) := zB
   generalize upd H3 pt (.tup [.int (i : Int), .int (j : Int), wv]) = H4 at s2 kt ⊢
   refine ⟨g.la, rfl, _, s2 _ _ h2, sz (by omega), hN _ _ ?_⟩
   clear hN
   have e1 : ∀ {b : Addr} {o : HO}, H3 b = some o -> b ≠ g.la -> upd H4 g.la (.lst (ws ++ [.ref pt])) b = some o := fun hb n => by rw [zF n]; exact s2 _ _ hb
   have g4 : SameG g H3 (upd H4 g.la (.lst (ws ++ [.ref pt]))) := fun b o hb n _ _ _ => e1 hb n
   have tu : TupSame H4 (upd H4 g.la (.lst (ws ++ [.ref pt]))) := (TupSame.refl _).upd_lst (s2 _ _ h2)
   have h3' : vM (upd H4 g.la (.lst (ws ++ [.ref pt]))) (ls ++ [⟨i, j, x, as⟩]) (ws ++ [.ref pt]) := by
     refine jC tu ?_
     unfold vM
     rw [List.map_append]
     exact DAts.append (DAts.same s2 h3) (DAts.one (atLn kt (DAt.same s2 hw)))
   replace hi := e1 hi (Ne.symm hlar)
   replace h4 := e1 h4 hpla
   replace h5 := e1 h5 (Ne.symm n1)
   replace h7 := e1 h7 (Ne.symm n2)
   have h2' : upd H4 g.la (.lst (ws ++ [.ref pt])) g.la = some (.lst (ws ++ [.ref pt])) := zB
   replace g3 := g3.trans g4
   generalize upd H4 g.la (.lst (ws ++ [.ref pt])) = H5 at g3 hi h4 h5 h7 h2' h3' ⊢
   clear e1 g4 tu kt s2 hpt h2 h3 hw
   have li : i < bs.length := by rw [h6.len]; omega
   have lj : j < cs.length := by rw [h8.len]; omega
   have gi := List.getElem?_eq_getElem li
   have gj := List.getElem?_eq_getElem lj
   generalize bs[i] = ci at gi
   generalize cs[j] = cj at gj
   have mset : ∀ (cs : List Nat) (i v : Nat), (cs.map nV).set i (V.int (v : Int)) = (cs.set i v).map nV := fun cs i v => (List.map_set (f := nV) (l := cs) (i := i) (a := v)).symm
   refine zI fun N hN => ?_
   simp! [tAugS, jX, rGetL, ipI, rSetL]
   refine ⟨C, dx, _, hi, T.cl, T.nA, _, gr_a g, g.aa, rfl, _, i, rfl, h5, nV ci, by rw [List.getElem?_map, gi]; rfl, ⟨by omega, by omega, by decide⟩, _, rfl, g.aa, rfl, _, h5, i, ixN_nat (by rw [List.length_map]; exact li), hN _ _ ?_⟩
   clear hN
   rw [shl_one j, or_mask, mset]
   have bc : ∀ a b : Nat, (((a : Nat) : Int) == ((b : Nat) : Int)) = (b == a) := fun a b => by
     rw [Bool.eq_iff_iff, beq_iff_eq, beq_iff_eq]
     omega
   have e1 : ∀ {b : Addr} {o : HO}, H5 b = some o -> b ≠ g.aa -> upd H5 g.aa (.lst ((bs.set i (ci ||| 2 ^ j)).map nV)) b = some o := fun hb n => by rw [zF n]; exact hb
   have g4 : SameG g H5 (upd H5 g.aa (.lst ((bs.set i (ci ||| 2 ^ j)).map nV))) := fun b o hb _ _ n _ => e1 hb n
   have tu : TupSame H5 (upd H5 g.aa (.lst ((bs.set i (ci ||| 2 ^ j)).map nV))) := (TupSame.refl _).upd_lst h5
   replace h3' := jC tu h3'
   replace hi := e1 hi (Ne.symm haar)
   replace h4 := e1 h4 hpaa
   replace h2' := e1 h2' n1
   replace h7 := e1 h7 (Ne.symm n3)
   have h5' : upd H5 g.aa (.lst ((bs.set i (ci ||| 2 ^ j)).map nV)) g.aa = some (.lst ((bs.set i (ci ||| 2 ^ j)).map nV)) := zB
   replace g3 := g3.trans g4
   generalize upd H5 g.aa (.lst ((bs.set i (ci ||| 2 ^ j)).map nV)) = H6 at g3 hi h4 h5' h7 h2' h3' ⊢
   clear e1 g4 tu h5
   simp! [tAugS, jX, rGetL, ipI, rSetL]
   refine ⟨C, dx, _, hi, T.cl, T.nB, _, gr_b g, g.ba, rfl, _, j, rfl, h7, nV cj, by rw [List.getElem?_map, gj]; rfl, ⟨by omega, by omega, by decide⟩, _, rfl, g.ba, rfl, _, h7, j, ixN_nat (by rw [List.length_map]; exact lj), ?_⟩
   rw [shl_one i, or_mask, mset]
   have e1 : ∀ {b : Addr} {o : HO}, H6 b = some o -> b ≠ g.ba -> upd H6 g.ba (.lst ((cs.set j (cj ||| 2 ^ i)).map nV)) b = some o := fun hb n => by rw [zF n]; exact hb
   have g4 : SameG g H6 (upd H6 g.ba (.lst ((cs.set j (cj ||| 2 ^ i)).map nV))) := fun b o hb _ _ _ n => e1 hb n
   have tu : TupSame H6 (upd H6 g.ba (.lst ((cs.set j (cj ||| 2 ^ i)).map nV))) := (TupSame.refl _).upd_lst h7
   refine q _ ⟨((Same.g s1).trans g3).trans g4, [⟨i, j, x, as⟩], ⟨⟨⟨dx, e1 hi (Ne.symm hbar)⟩, ⟨_, e1 h2' n2, jC tu h3'⟩, e1 h4 hpba, ⟨_, e1 h5' n3, h6.put gi fun a b => ?_⟩, ⟨_, zB, h8.put gj fun a b => ?_⟩, ⟨n1, n2, n3⟩, h10.put hb hst how⟩, by show zJ (ls ++ [⟨i, j, x, as⟩]) i j = true; rw [jG, uH]; simp⟩⟩
   · rw [jG, uH]
     show (zJ ls a b || (((i : Nat) : Int) == ((a : Nat) : Int) && ((j : Nat) : Int) == ((b : Nat) : Int))) = _
     rw [bc, bc]
   · rw [jG, uH]
     show (zJ ls b a || (((i : Nat) : Int) == ((b : Nat) : Int) && ((j : Nat) : Int) == ((a : Nat) : Int))) = _
     rw [bc, bc, Bool.and_comm]
end
theorem rep_zero (m : Nat) : (List.replicate m [V.int 0]).flatten = (List.replicate m 0).map nV := by
 induction m with
 | zero => rfl
 | succ m ih =>
   rw [List.replicate_succ, List.flatten_cons, ih, List.replicate_succ, List.map_cons]
   rfl
theorem mk_nil (n : Nat) (hp : Nat -> Nat -> Bool) (h : ∀ a b, hp a b = false) : MkA n hp (List.replicate n 0) := ⟨List.length_replicate .., fun a c hc b => by
 obtain ⟨_, e⟩ := List.getElem?_eq_some_iff.mp hc
 rw [List.getElem_replicate] at e
 subst e
 rw [h]
 simp⟩
def spGI (C : Addr) : Sp := fun vs H Q _ => ∃ (r dx : Addr) (rows : List Rw) (rules : List zN), vs = [.ref r, .int ((2 * rows.length : Nat) : Int)] /\ H r = some (.ins C dx []) /\ rows.length <= 100 /\ ∀ (g : GAd) H', g.r = r -> SameX r H H' -> H g.la = none -> H g.pa = none -> H g.aa = none -> H g.ba = none -> GrAt C H' g rows rules [] -> Q .non H'
theorem xI {r l : Addr} {H H' : Hp} {o : HO} (e : SameX r H H') (h : H l = none) : SameX r H (upd H' l o) := fun b u hb n => by
 have : b ≠ l := fun z => by rw [z, h] at hb; cases hb
 rw [zF this]
 exact e b u hb n
theorem xJ {r l : Addr} {H H' : Hp} (e : SameX r H H') (h : H' l = none) (n : l ≠ r) : H l = none := by
 cases hl : H l with
 | none => rfl
 | some o => have := e l o hl n; rw [h] at this; cases this
section
variable {P : Program} {w : World} {K : PySem.W.Frag} {mg : Str -> Option Value} {base : Heap} {f : Addr} {fd : FuncData}
theorem ok_ginit {C : Addr} (T : GrC K C) (F : Fun K "__init__" "Growth.__init__" s_k f fd) : FnOk P w K mg base CX0 1 f fd ["self", "many"] (spGI C) := by
 refine F.ok sc_k (fun vs H Q E h => ?_) (fun cdv A outer s H vs Q E hr h => ?_)
 · obtain ⟨r, dx, rows, rules, rfl, _⟩ := h
   rfl
 obtain ⟨r, dx, rows, rules, rfl, hr', h30, q⟩ := h
 generalize hn : 2 * rows.length = n at q
 have n60 : n <= 200 := by omega
 have step : ∀ {H' : Hp} {b : Addr} {u : HO}, H' r = some u -> H' b = none -> b ≠ r := fun h1 h2 z => by rw [z, h1] at h2; cases h2
 refine ⟨_, (zD (vV (pv 0) (yV pa_nil) rfl) (zD (vV (pv 0) pe_dnewT rfl) (zD (vV (pv 0) (zK op_rep (yV (zA zE pa_nil)) (pv 1)) rfl) (zH (vV (pv 0) (zK op_rep (yV (zA zE pa_nil)) (pv 1)) rfl))))), ?_⟩
 refine zI fun N hN => ?_
 simp! [sFld]
 refine ⟨zM (by simp), fun la hla => ?_⟩
 have nla := step hr' hla
 refine ⟨C, dx, [], by rw [zF (Ne.symm nla)]; exact hr', T.cl, T.nL, by decide, hN _ _ ?_⟩
 clear hN
 have x1 : SameX r H (upd (upd H la (.lst [])) r (.ins C dx (yM "lines" (.ref la) []))) := SameX.upd (xI (SameX.refl r H) hla)
 have k1 : upd (upd H la (.lst [])) r (.ins C dx (yM "lines" (.ref la) [])) r = some (.ins C dx (yM "lines" (.ref la) [])) := zB
 have l1 : upd (upd H la (.lst [])) r (.ins C dx (yM "lines" (.ref la) [])) la = some (.lst []) := by rw [zF nla]; exact zB
 generalize upd (upd H la (.lst [])) r (.ins C dx (yM "lines" (.ref la) [])) = H1 at x1 k1 l1 ⊢
 refine zI fun N hN => ?_
 simp! [sFld, tDNewT]
 refine fun pa hpa => ?_
 have npa := step k1 hpa
 have hpa0 := xJ x1 hpa npa
 refine ⟨C, dx, _, by rw [zF (Ne.symm npa)]; exact k1, T.cl, T.nP, by show 1 < 1000; decide, hN _ _ ?_⟩
 clear hN
 have npl : pa ≠ la := fun z => by rw [z, l1] at hpa; cases hpa
 have x2 : SameX r H (upd (upd H1 pa (.dT [])) r (.ins C dx (yM "places" (.ref pa) (yM "lines" (.ref la) [])))) := SameX.upd (xI x1 hpa0)
 have k2 : upd (upd H1 pa (.dT [])) r (.ins C dx (yM "places" (.ref pa) (yM "lines" (.ref la) []))) r = some (.ins C dx (yM "places" (.ref pa) (yM "lines" (.ref la) []))) := zB
 have l2 : upd (upd H1 pa (.dT [])) r (.ins C dx (yM "places" (.ref pa) (yM "lines" (.ref la) []))) la = some (.lst []) := by rw [zF nla, zF (Ne.symm npl)]; exact l1
 have p2 : upd (upd H1 pa (.dT [])) r (.ins C dx (yM "places" (.ref pa) (yM "lines" (.ref la) []))) pa = some (.dT []) := by rw [zF npa]; exact zB
 generalize upd (upd H1 pa (.dT [])) r (.ins C dx (yM "places" (.ref pa) (yM "lines" (.ref la) []))) = H2 at x2 k2 l2 p2 ⊢
 refine zI fun N hN => ?_
 simp! [sFld, rRep]
 refine ⟨zM (by simp), fun p0 hp0 => ⟨[V.int 0], zB, by omega, by omega, zM (by simp; omega), fun aa haa => ?_⟩⟩
 have np0 := step k2 hp0
 have naa0 : aa ≠ p0 := fun z => by rw [z, zB] at haa; cases haa
 rw [zF naa0] at haa
 have naa := step k2 haa
 refine ⟨C, dx, _, by rw [zF (Ne.symm naa), zF (Ne.symm np0)]; exact k2, T.cl, T.nA, by show 2 < 1000; decide, hN _ _ ?_⟩
 clear hN
 rw [Int.toNat_natCast, rep_zero]
 have nal : aa ≠ la := fun z => by rw [z, l2] at haa; cases haa
 have nap : aa ≠ pa := fun z => by rw [z, p2] at haa; cases haa
 have n0l : p0 ≠ la := fun z => by rw [z, l2] at hp0; cases hp0
 have n0p : p0 ≠ pa := fun z => by rw [z, p2] at hp0; cases hp0
 have haa0 := xJ x2 haa naa
 have hp00 := xJ x2 hp0 np0
 generalize hfs : yM "above" (V.ref aa) (yM "places" (V.ref pa) (yM "lines" (V.ref la) [])) = fs3
 have x3 : SameX r H (upd (upd (upd H2 p0 (.lst [.int 0])) aa (.lst ((List.replicate n 0).map nV))) r (.ins C dx fs3)) := SameX.upd (xI (xI x2 hp00) haa0)
 have k3 : upd (upd (upd H2 p0 (.lst [.int 0])) aa (.lst ((List.replicate n 0).map nV))) r (.ins C dx fs3) r = some (.ins C dx fs3) := zB
 have l3 : upd (upd (upd H2 p0 (.lst [.int 0])) aa (.lst ((List.replicate n 0).map nV))) r (.ins C dx fs3) la = some (.lst []) := by rw [zF nla, zF (Ne.symm nal), zF (Ne.symm n0l)]; exact l2
 have p3 : upd (upd (upd H2 p0 (.lst [.int 0])) aa (.lst ((List.replicate n 0).map nV))) r (.ins C dx fs3) pa = some (.dT []) := by rw [zF npa, zF (Ne.symm nap), zF (Ne.symm n0p)]; exact p2
 have a3 : upd (upd (upd H2 p0 (.lst [.int 0])) aa (.lst ((List.replicate n 0).map nV))) r (.ins C dx fs3) aa = some (.lst ((List.replicate n 0).map nV)) := by rw [zF naa]; exact zB
 generalize upd (upd (upd H2 p0 (.lst [.int 0])) aa (.lst ((List.replicate n 0).map nV))) r (.ins C dx fs3) = H3 at x3 k3 l3 p3 a3 ⊢
 simp! [sFld, rRep]
 refine ⟨zM (by simp), fun q0 hq0 => ⟨[V.int 0], zB, by omega, by omega, zM (by simp; omega), fun ba hba => ?_⟩⟩
 have nq0 := step k3 hq0
 have nba0 : ba ≠ q0 := fun z => by rw [z, zB] at hba; cases hba
 rw [zF nba0] at hba
 have nba := step k3 hba
 refine ⟨C, dx, _, by rw [zF (Ne.symm nba), zF (Ne.symm nq0)]; exact k3, T.cl, T.nB, by rw [← hfs]; show 3 < 1000; decide, ?_⟩
 rw [Int.toNat_natCast, rep_zero]
 have nbl : ba ≠ la := fun z => by rw [z, l3] at hba; cases hba
 have nbp : ba ≠ pa := fun z => by rw [z, p3] at hba; cases hba
 have nb1 : ba ≠ aa := fun z => by rw [z, a3] at hba; cases hba
 have n1l : q0 ≠ la := fun z => by rw [z, l3] at hq0; cases hq0
 have n1p : q0 ≠ pa := fun z => by rw [z, p3] at hq0; cases hq0
 have n1a : q0 ≠ aa := fun z => by rw [z, a3] at hq0; cases hq0
 have hba0 := xJ x3 hba nba
 have hq00 := xJ x3 hq0 nq0
 rw [← hfs]
 refine q ⟨r, la, pa, aa, ba⟩ _ rfl (SameX.upd (xI (xI x3 hq00) hba0)) hla hpa0 haa0 hba0 ⟨⟨dx, zB⟩, ⟨[], ?_, rfl⟩, ?_, ⟨_, ?_, mk_nil _ _ fun a b => rfl⟩, ⟨_, ?_, mk_nil _ _ fun a b => rfl⟩, ⟨Ne.symm nal, Ne.symm nbl, Ne.symm nb1⟩, ⟨fun k l h => (by cases h), fun a b x y h => (by cases h), fun l h => (by cases h)⟩⟩
 · show upd _ r _ la = _
   rw [zF nla, zF (Ne.symm nbl), zF (Ne.symm n1l)]; exact l3
 · show upd _ r _ pa = _
   rw [zF npa, zF (Ne.symm nbp), zF (Ne.symm n1p)]; exact p3
 · show upd _ r _ aa = _
   rw [zF naa, zF (Ne.symm nb1), zF (Ne.symm n1a), hn]; exact a3
 · show upd _ r _ ba = _
   rw [zF nba, zB, hn]
end
abbrev s_t : Stmt := top 7
theorem sc_t : FnScope ["growth", "sheet", "n", "k", "row"] ["growth", "sheet"] (zG s_t) := ⟨rfl, rfl, rfl, by decide +kernel, rfl, by decide +kernel, by decide +kernel⟩
abbrev s_f : Stmt := top 8
theorem sc_f : FnScope ["sheet", "boths", "k", "row"] ["sheet"] (zG s_f) := ⟨rfl, rfl, rfl, by decide +kernel, rfl, by decide +kernel, by decide +kernel⟩
abbrev s_c : Stmt := top 9
theorem sc_c : FnScope ["rules", "waiting", "r", "rule", "premise"] ["rules"] (zG s_c) := ⟨rfl, rfl, rfl, by decide +kernel, rfl, by decide +kernel, by decide +kernel⟩
theorem GrTo.refl {C : Addr} {H : Hp} {g : GAd} {rows : List Rw} {rules : List zN} {ls : List Ln} (h : GrAt C H g rows rules ls) : GrTo C H g rows rules ls H := ⟨fun _ _ hb _ _ _ _ => hb, [], by rw [List.append_nil]; exact h⟩
theorem GrTo.same {C : Addr} {H H' H'' : Hp} {g : GAd} {rows : List Rw} {rules : List zN} {ls : List Ln} (h : GrTo C H g rows rules ls H') (e : Same H' H'') : GrTo C H g rows rules ls H'' := by
 obtain ⟨h1, t, h2⟩ := h
 exact ⟨h1.trans (Same.g e), t, h2.same e⟩
theorem GrTo.pre {C : Addr} {H H' H'' : Hp} {g : GAd} {rows : List Rw} {rules : List zN} {ls : List Ln} (e : Same H H') (h : GrTo C H' g rows rules ls H'') : GrTo C H g rows rules ls H'' := by
 obtain ⟨h1, h2⟩ := h
 exact ⟨(Same.g e).trans h1, h2⟩
theorem GrTo.then {C : Addr} {H H' H'' : Hp} {g : GAd} {rows : List Rw} {rules : List zN} {ls t : List Ln} (h : SameG g H H') (h' : GrTo C H' g rows rules (ls ++ t) H'') : GrTo C H g rows rules ls H'' := by
 obtain ⟨h1, t', h2⟩ := h'
 exact ⟨h.trans h1, t ++ t', by rw [← List.append_assoc]; exact h2⟩
theorem GrH.to {C : Addr} {H H' : Hp} {g : GAd} {rows : List Rw} {rules : List zN} {ls : List Ln} {R : List Ln -> Prop} (h : GrH C H g rows rules ls R H') : GrTo C H g rows rules ls H' := by
 obtain ⟨h1, t, h2, _⟩ := h
 exact ⟨h1, t, h2⟩
theorem GrH.same {C : Addr} {H H' H'' : Hp} {g : GAd} {rows : List Rw} {rules : List zN} {ls : List Ln} {R : List Ln -> Prop} (h : GrH C H g rows rules ls R H') (e : Same H' H'') : GrH C H g rows rules ls R H'' := by
 obtain ⟨h1, t, h2, h3⟩ := h
 exact ⟨h1.trans (Same.g e), t, h2.same e, h3⟩
theorem GrH.pre {C : Addr} {H H' H'' : Hp} {g : GAd} {rows : List Rw} {rules : List zN} {ls : List Ln} {R : List Ln -> Prop} (e : Same H H') (h : GrH C H' g rows rules ls R H'') : GrH C H g rows rules ls R H'' := by
 obtain ⟨h1, h2⟩ := h
 exact ⟨(Same.g e).trans h1, h2⟩
theorem GrH.refl {C : Addr} {H : Hp} {g : GAd} {rows : List Rw} {rules : List zN} {ls : List Ln} {R : List Ln -> Prop} (h : GrAt C H g rows rules ls) (hR : R ls) : GrH C H g rows rules ls R H := ⟨fun _ _ hb _ _ _ _ => hb, [], by rw [List.append_nil]; exact ⟨h, hR⟩⟩
def Le (ls L : List Ln) : Prop := ∃ t, L = ls ++ t
theorem Le.refl (ls : List Ln) : Le ls ls := ⟨[], (List.append_nil _).symm⟩
theorem Le.trans {a b c : List Ln} (h : Le a b) (h' : Le b c) : Le a c := by
 obtain ⟨t, rfl⟩ := h
 obtain ⟨t', rfl⟩ := h'
 exact ⟨t ++ t', by rw [List.append_assoc]⟩
theorem Le.has {a b : List Ln} (h : Le a b) {i j : Int} (hh : zJ a i j = true) : zJ b i j = true := by
 obtain ⟨t, rfl⟩ := h
 rw [jG, hh, Bool.true_or]
theorem GrH.then {C : Addr} {H H' H'' : Hp} {g : GAd} {rows : List Rw} {rules : List zN} {ls t : List Ln} {R R' : List Ln -> Prop} (h : SameG g H H') (h' : GrH C H' g rows rules (ls ++ t) R H'') (i : ∀ L, Le (ls ++ t) L -> R L -> R' L) : GrH C H g rows rules ls R' H'' := by
 obtain ⟨h1, t', h2, h3⟩ := h'
 rw [List.append_assoc] at h2 h3
 exact ⟨h.trans h1, t ++ t', h2, i _ ⟨t', by rw [List.append_assoc]⟩ h3⟩
def uV (g : GAd) (a : Addr) : Prop := a ≠ g.la /\ a ≠ g.pa /\ a ≠ g.aa /\ a ≠ g.ba
theorem SameG.out {g : GAd} {H H' : Hp} {a : Addr} {o : HO} (e : SameG g H H') (n : uV g a) (h : H a = some o) : H' a = some o := e a o h n.1 n.2.1 n.2.2.1 n.2.2.2
theorem st_plain {rows : List Rw} {rules : List zN} {ls : List Ln} {i j : Nat} {x : Str} (hi : i < 2 * rows.length) (hj : j < 2 * rows.length) (hx : x ≠ "rule") (hn : named x = some 0) (h : yE rows i j x [] = true) : yR rows rules ls ls.length ⟨i, j, x, []⟩ = true := by
 unfold yR
 rw [if_neg (by
   intro z
   rcases z with z | z
   · exact z ⟨by show (0 : Int) <= (i : Int); omega, by show (i : Int) < _; omega⟩
   · exact z ⟨by show (0 : Int) <= (j : Int); omega, by show (j : Int) < _; omega⟩), if_neg hx, if_pos ⟨hn, rfl⟩]
 exact h
theorem ow0 : OW [] := ⟨by simp, fun ps h => by cases h⟩
theorem jU {C : Addr} {H H' H2 : Hp} {g : GAd} {rows : List Rw} {rules : List zN} {ls t : List Ln} (hs : SameG g H H') (hg : GrAt C H' g rows rules (ls ++ t)) (h100 : rows.length <= 100) (e : Same H' H2) {i j : Nat} {x : Str} {as : List Wt} {wv : V} (hw : DAt H2 (uP x as) wv) (hst : yR rows rules (ls ++ t) (ls ++ t).length ⟨i, j, x, as⟩ = true) (ho : OW as) {Q : VK} {E : XK} {R : List Ln -> Prop} (hR : ∀ L, Le (ls ++ t) L -> zJ L i j = true -> R L) (q : ∀ v H3, GrH C H g rows rules ls R H3 -> Q v H3) :
   uN C [.ref g.r, .int i, .int j, wv] H2 Q E :=
 ⟨g, rows, rules, _, i, j, wv, x, as, rfl, hg.same e, h100, hw, hst, ho, fun H3 g3 => q _ _ (GrH.then (hs.trans (Same.g e)) g3 hR)⟩
theorem jH {C : Addr} {H H' : Hp} {g : GAd} {rows : List Rw} {rules : List zN} {ls t : List Ln} (hs : SameG g H H') (hg : GrAt C H' g rows rules (ls ++ t)) (h100 : rows.length <= 100) {i j : Nat} (hi : i < 2 * rows.length) (hj : j < 2 * rows.length) {x : Str} (hx : x ≠ "rule") (hn : named x = some 0) (hst : yE rows i j x [] = true) {p : Addr} (hp : H' p = none) {Q : VK} {E : XK} {R : List Ln -> Prop} (hR : ∀ L, Le (ls ++ t) L -> zJ L i j = true -> R L) (q : ∀ v H2, GrH C H g rows rules ls R H2 -> Q v H2) :
   uN C [.ref g.r, .int i, .int j, .ref p] (upd H' p (.tup [.str x])) Q E :=
 jU hs hg h100 (zC hp _) (x := x) (as := []) ⟨p, _, rfl, zB, _, _, rfl, rfl, rfl⟩ (st_plain hi hj hx hn hst) ow0 hR q
structure Pl (rows : List Rw) (n m : Nat) (L : List Ln) : Prop where
 same : ∀ x : Nat, x < n -> zJ L x x = true
 low : ∀ x : Nat, x < n -> zJ L 0 x = true
 high : ∀ x : Nat, x < n -> zJ L x 1 = true
 part : ∀ (k : Nat) (a b : Int), k < m -> rows[k]? = some (.bo a b) -> zJ L ((2 * k : Nat) : Int) a = true /\ zJ L ((2 * k : Nat) : Int) b = true
theorem Pl.le {rows : List Rw} {n m : Nat} {L L' : List Ln} (h : Pl rows n m L) (e : Le L L') : Pl rows n m L' := ⟨fun x hx => e.has (h.same x hx), fun x hx => e.has (h.low x hx), fun x hx => e.has (h.high x hx), fun k a b hk hr => ⟨e.has (h.part k a b hk hr).1, e.has (h.part k a b hk hr).2⟩⟩
def spBe (C : Addr) : Sp := fun vs H Q _ => ∃ (g : GAd) (sa : Addr) (us : List V) (rows : List Rw) (rules : List zN), vs = [.ref g.r, .ref sa] /\ GrAt C H g rows rules [] /\ rows.length <= 100 /\ H sa = some (.lst us) /\ jQ H rows us /\ uV g sa /\ RowsIn rows /\ ∀ H', GrH C H g rows rules [] (Pl rows (2 * rows.length) rows.length) H' -> Q .non H'
section
variable {P : Program} {w : World} {K : PySem.W.Frag} {mg : Str -> Option Value} {base : Heap} {f : Addr} {fd : FuncData}
theorem ok_begin {C : Addr} (T : GrC K C) (bi : Bi mg) (be : mg "enumerate" = none) (h_d : HasM P w K mg base 2 C "grow" ["self", "i", "j", "why"] (uN C)) (F : Fun K "begin" "begin" s_t f fd) : FnOk P w K mg base CX0 3 f fd ["growth", "sheet"] (spBe C) := by
 refine F.ok sc_t (fun vs H Q E h => ?_) (fun cdv A outer s H vs Q E hr h => ?_)
 · obtain ⟨g, sa, us, rows, rules, rfl, _⟩ := h
   rfl
 obtain ⟨g, sa, us, rows, rules, rfl, hg, h100, hsa, hrw, hout, hin, q⟩ := h
 have hul := yQ hrw
 have cl_Growth := T.cl
 have lk : (grF g).lookup ("grow" : Str) = none := xN g (by decide +kernel) (by decide +kernel) (by decide +kernel) (by decide +kernel)
 refine ⟨_, (zD (yZ PassesOwn.never rfl (xS rfl bi.range (zA (zK op_mul zE (zP call_len rfl bi.len bt_len (zA (pv 1) pa_nil))) pa_nil)) (zQ (i := 2) sc_t.nd rfl (Or.inl rfl)) (zD (zT (zR h_d cl_Growth (hr.mono (by omega)) (pv 0) (zA (pv 2) (zA (pv 2) (zA (zX (zA yF pa_nil)) pa_nil))))) (zD (zT (zR h_d cl_Growth (hr.mono (by omega)) (pv 0) (zA zE (zA (pv 2) (zA (zX (zA yF pa_nil)) pa_nil))))) (zH (zT (zR h_d cl_Growth (hr.mono (by omega)) (pv 0) (zA (pv 2) (zA zE (zA (zX (zA yF pa_nil)) pa_nil))))))))) (zH (yZ PassesOwn.never rfl (vW rfl be (zA (pv 1) pa_nil)) (uE rfl (yI (zQ (i := 3) sc_t.nd rfl (Or.inl rfl)) (yI (zQ (i := 4) sc_t.nd rfl (Or.inl rfl)) pgs_nil))) (zH (xD (yC op_eq (zV ix_tup (pv 4) zE (fun _ _ => rfl)) yF (yP _)) (zD (zT (zR h_d cl_Growth (hr.mono (by omega)) (pv 0) (zA (zK op_mul zE (pv 3)) (zA (zV ix_tup (pv 4) zE (fun _ _ => rfl)) (zA (zX (zA yF pa_nil)) pa_nil))))) (zH (zT (zR h_d cl_Growth (hr.mono (by omega)) (pv 0) (zA (zK op_mul zE (pv 3)) (zA (zV ix_tup (pv 4) zE (fun _ _ => rfl)) (zA (zX (zA yF pa_nil)) pa_nil))))))) pss_nil))))), ?_⟩
 refine yH (fun σ H' => ∃ (o1 o2 o3 : Option V), GrH C H g rows rules [] (Pl rows (2 * rows.length) 0) H' /\ σ = [some (V.ref g.r), some (V.ref sa), o1, o2, o3]) (fun N hN => ?_) (fun σ H' h => ?_)
 · simp! []
   refine ⟨us.length, .inl ⟨_, SqL.of hsa, rfl⟩, .inl ⟨by decide, by decide⟩, by omega, by omega, ?_⟩
   refine qF (n := (2 * (us.length : Int)).toNat) (fun i σ H' => ∃ (o1 o2 o3 : Option V), GrH C H g rows rules [] (Pl rows i 0) H' /\ σ = [some (V.ref g.r), some (V.ref sa), o1, o2, o3]) ⟨_, _, _, GrH.refl hg ⟨fun x hx => by omega, fun x hx => by omega, fun x hx => by omega, fun k a b hk => by omega⟩, rfl⟩ (fun i σ H' hi h => ?_) (fun σ H' h => ?_)
   rotate_left
   · rw [show (2 * (us.length : Int)).toNat = 2 * rows.length by omega] at h
     exact hN _ _ h
   obtain ⟨o1, o2, o3, ⟨gs, t, gt, hP⟩, rfl⟩ := h
   have hi' : i < 2 * rows.length := by omega
   have e0 : (0 : Int) + (i : Int) = ((i : Nat) : Int) := by omega
   show tSeq _ _ _ _ _
   refine zI fun N2 hN2 => ?_
   simp! [yX]
   rw [e0]
   obtain ⟨dx, hins⟩ := gt.ins
   refine ⟨_, _, hins, lk, zM (by simp), fun p hp => jH gs gt h100 hi' hi' (x := "same") (by decide) rfl (by unfold yE; rw [if_pos rfl]; simp) hp (R := fun L => Pl rows i 0 L /\ zJ L i i = true) (fun L e h => ⟨hP.le e, h⟩) fun _ H2 g2 => hN2 _ _ ?_⟩
   clear hN2 hins gs gt
   obtain ⟨gs, t, gt, hP, hp1⟩ := g2
   obtain ⟨dx, hins⟩ := gt.ins
   refine zI fun N2 hN2 => ?_
   simp! [yX]
   refine ⟨_, _, hins, lk, zM (by simp), fun p hp => jH (i := 0) gs gt h100 (by omega) hi' (x := "edge") (by decide) rfl (by unfold yE; rw [if_neg (by decide), if_pos rfl]; simp) hp (R := fun L => Pl rows i 0 L /\ zJ L i i = true /\ zJ L 0 i = true) (fun L e h => ⟨hP.le e, e.has hp1, h⟩) fun _ H2 g2 => hN2 _ _ ?_⟩
   clear hN2 hins gs gt
   obtain ⟨gs, t, gt, hP, hp1, hp2⟩ := g2
   obtain ⟨dx, hins⟩ := gt.ins
   simp! [yX]
   refine ⟨_, _, hins, lk, zM (by simp), fun p hp => jH (j := 1) gs gt h100 hi' (by omega) (x := "edge") (by decide) rfl (by unfold yE; rw [if_neg (by decide), if_pos rfl]; simp) hp (R := Pl rows (i + 1) 0) (fun L e h => ?_) fun _ H2 g2 => ?_⟩
   · have c : ∀ {x : Nat}, x < i + 1 -> x < i \/ x = i := fun h => by omega
     have hP' := hP.le e
     exact ⟨fun x hx => (c hx).elim (hP'.same x) fun z => z ▸ e.has hp1, fun x hx => (c hx).elim (hP'.low x) fun z => z ▸ e.has hp2, fun x hx => (c hx).elim (hP'.high x) fun z => z ▸ h, fun k a b hk => by omega⟩
   exact ⟨g2, _, rfl⟩
 obtain ⟨o1, o2, o3, hgt, rfl⟩ := h
 have hsa' := hgt.to.1.out hout hsa
 simp! [iEnum]
 refine ⟨_, hsa', ?_⟩
 refine wC (xs := us) (fun k σ H' => ∃ (o1 o2 o3 : Option V), GrH C H g rows rules [] (Pl rows (2 * rows.length) k) H' /\ σ = [some (V.ref g.r), some (V.ref sa), o1, o2, o3]) ⟨_, _, _, hgt, rfl⟩ (fun k σ H' h => ?_) (fun k x σ H' p hx h hp => ?_) (fun σ H' h => ?_)
 · obtain ⟨_, _, _, h, _⟩ := h
   exact h.to.1.out hout hsa
 · obtain ⟨o1, o2, o3, hgt, rfl⟩ := h
   have hk : k < rows.length := by rw [← hul]; exact (List.getElem?_eq_some_iff.mp hx).1
   obtain ⟨r, hr1, hr2⟩ := xG hrw hx
   have tu := hg.tups hgt.to.1
   obtain ⟨xa, x', vs, rfl, hxa, hcase⟩ := RwAt.out hr2
   have hxa0 := hxa
   replace hxa := tu _ _ hxa
   replace hgt := hgt.same (zC hp (.tup [.int k, .ref xa]))
   have hxa' := zC hp (.tup [.int k, .ref xa]) _ _ hxa
   have kp : upd H' p (.tup [.int k, .ref xa]) p = some (.tup [.int k, .ref xa]) := zB
   generalize upd H' p (.tup [.int k, .ref xa]) = H2 at hgt hxa' kp ⊢
   simp! [gTup, uI, gNil, yX]
   refine ⟨[.int k, .ref xa], SqT.of kp, rfl, .int k, [.ref xa], rfl, .ref xa, [], rfl, rfl, xa, rfl, _, SqT.of hxa', _, at0, rfl, ?_⟩
   have nob : ∀ {L : List Ln}, (∀ a b, r ≠ .bo a b) -> Pl rows (2 * rows.length) k L -> Pl rows (2 * rows.length) (k + 1) L := fun hno h => ⟨h.same, h.low, h.high, fun m a b hm hr' => by
     rcases Nat.lt_or_eq_of_le (Nat.le_of_lt_succ hm) with z | z
     · exact h.part m a b z hr'
     · subst z; rw [hr1] at hr'; cases hr'; exact absurd rfl (hno a b)⟩
   have weak : ∀ {R R' : List Ln -> Prop} {H'}, (∀ L, R L -> R' L) -> GrH C H g rows rules [] R H' -> GrH C H g rows rules [] R' H' := fun w h => by
     obtain ⟨h1, t, h2, h3⟩ := h
     exact ⟨h1, t, h2, w _ h3⟩
   cases r with
   | no =>
     obtain ⟨rfl, rfl⟩ := hcase
     rw [if_neg (by intro z; exact absurd (V.str.inj z) (by decide +kernel))]
     exact ⟨weak (fun L => nob (fun a b z => by cases z)) hgt, _, rfl⟩
   | nm y =>
     obtain ⟨rfl, rfl⟩ := hcase
     rw [if_neg (by intro z; exact absurd (V.str.inj z) (by decide +kernel))]
     exact ⟨weak (fun L => nob (fun a b z => by cases z)) hgt, _, rfl⟩
   | bo i j =>
     obtain ⟨rfl, rfl⟩ := hcase
     rw [if_pos rfl]
     obtain ⟨⟨b1, b2⟩, b3, b4⟩ := hin k i j hr1
     obtain ⟨a, rfl⟩ : ∃ a : Nat, i = (a : Int) := ⟨i.toNat, by omega⟩
     obtain ⟨b, rfl⟩ : ∃ b : Nat, j = (b : Int) := ⟨j.toNat, by omega⟩
     have e2 : (2 : Int) * (k : Int) = ((2 * k : Nat) : Int) := by omega
     have hpt : jB rows ((2 * k : Nat) : Int) = [(a : Int), (b : Int)] := qC (r := .bo a b) (by omega) (by rw [show (((2 * k : Nat) : Int) / 2).toNat = k by omega]; exact hr1)
     have hst : ∀ c : Nat, (c = a \/ c = b) -> yE rows ((2 * k : Nat) : Int) c "part" [] = true := fun c hc => by
       unfold yE
       rw [if_neg (by decide), if_neg (by decide), if_pos rfl, hpt]
       rcases hc with rfl | rfl <;> simp
     have at2 : ∀ {a b c : V}, atI [a, b, c] 2 = some c := yL (j := 2) rfl
     obtain ⟨gs, t, gt, hP⟩ := hgt
     obtain ⟨dx, hins⟩ := gt.ins
     refine ⟨_, _, hins, lk, _, rfl, .inl ⟨by decide, by decide⟩, xa, rfl, _, SqT.of hxa', _, at1, zM (by simp), fun p1 hp1 => ?_⟩
     rw [e2]
     refine jH (i := 2 * k) (j := a) gs gt h100 (by omega) (by omega) (x := "part") (by decide) rfl (hst a (.inl rfl)) hp1 (R := fun L => Pl rows (2 * rows.length) k L /\ zJ L ((2 * k : Nat) : Int) a = true) (fun L e h => ⟨hP.le e, h⟩) fun _ H3 g3 => ?_
     have hxa3 := hg.tups g3.1 _ _ hxa0
     obtain ⟨gs, t, gt, hP, hpa⟩ := g3
     obtain ⟨dx, hins⟩ := gt.ins
     refine ⟨_, _, hins, lk, _, rfl, .inl ⟨by decide, by decide⟩, xa, rfl, _, SqT.of hxa3, _, at2, zM (by simp), fun p2 hp2 => ?_⟩
     rw [e2]
     refine jH (i := 2 * k) (j := b) gs gt h100 (by omega) (by omega) (x := "part") (by decide) rfl (hst b (.inr rfl)) hp2 (R := Pl rows (2 * rows.length) (k + 1)) (fun L e h => ?_) fun _ H4 g4 => ⟨g4, _, rfl⟩
     have hP' := hP.le e
     refine ⟨hP'.same, hP'.low, hP'.high, fun m a' b' hm hr' => ?_⟩
     rcases Nat.lt_or_eq_of_le (Nat.le_of_lt_succ hm) with z | z
     · exact hP'.part m a' b' z hr'
     · subst z; rw [hr1] at hr'; cases hr'; exact ⟨e.has hpa, h⟩
 · obtain ⟨_, _, _, h, rfl⟩ := h
   rw [hul] at h
   exact q _ h
end
def Tri (rows : List Rw) (H : Hp) (v : V) : Prop := ∃ (t : Addr) (k : Nat) (a b : Int), v = .ref t /\ H t = some (.tup [.int (2 * (k : Int)), .int a, .int b]) /\ rows[k]? = some (.bo a b)
theorem Tri.tups {rows : List Rw} {H H' : Hp} (e : TupSame H H') {v : V} (h : Tri rows H v) : Tri rows H' v := by
 obtain ⟨t, k, a, b, h1, h2, h3⟩ := h
 exact ⟨t, k, a, b, h1, e _ _ h2, h3⟩
def BoP (rows : List Rw) (H : Hp) (qs : List Addr) (n : Nat) : Prop := ∀ q ∈ qs, ∃ us, H q = some (.lst us) /\ us.length <= n /\ ∀ v ∈ us, Tri rows H v
theorem BoP.same {rows : List Rw} {H H' : Hp} {qs : List Addr} {n : Nat} (e : Same H H') (h : BoP rows H qs n) : BoP rows H' qs n := fun q hq => by
 obtain ⟨us, h1, h2, h3⟩ := h q hq
 exact ⟨us, e _ _ h1, h2, fun v hv => (h3 v hv).tups e.tups⟩
theorem BoP.put {rows : List Rw} {H : Hp} {qs : List Addr} {n : Nat} {q : Addr} {us : List V} {v : V} (h : BoP rows H qs n) (hq : H q = some (.lst us)) (hl : us.length <= n) (hus : ∀ v ∈ us, Tri rows H v) (hv : Tri rows H v) : BoP rows (upd H q (.lst (us ++ [v]))) qs (n + 1) := fun q' hq' => by
 have tu : TupSame H (upd H q (.lst (us ++ [v]))) := (TupSame.refl _).upd_lst hq
 by_cases e : q' = q
 · subst e
   refine ⟨us ++ [v], zB, by simp; omega, fun x hx => ?_⟩
   rcases List.mem_append.mp hx with hx | hx
   · exact (hus x hx).tups tu
   · rw [List.mem_singleton.mp hx]; exact hv.tups tu
 · obtain ⟨us', h1, h2, h3⟩ := h q' hq'
   exact ⟨us', by rw [zF e]; exact h1, by omega, fun x hx => (h3 x hx).tups tu⟩
def InB (H : Hp) (q : Addr) (m : Nat) (a b : Int) : Prop := ∃ (us : List V) (t : Addr), H q = some (.lst us) /\ V.ref t ∈ us /\ H t = some (.tup [.int (2 * (m : Int)), .int a, .int b])
theorem InB.same {H H' : Hp} {q : Addr} {m : Nat} {a b : Int} (e : Same H H') (h : InB H q m a b) : InB H' q m a b := by
 obtain ⟨us, t, h1, h2, h3⟩ := h
 exact ⟨us, t, e _ _ h1, h2, e _ _ h3⟩
theorem InB.upd {H : Hp} {q : Addr} {m : Nat} {a b : Int} (h : InB H q m a b) {q1 : Addr} {us1 : List V} {v : V} (hq : H q1 = some (.lst us1)) : InB (upd H q1 (.lst (us1 ++ [v]))) q m a b := by
 obtain ⟨us, t, h1, h2, h3⟩ := h
 have h3' := (TupSame.refl H).upd_lst (o := .lst (us1 ++ [v])) hq _ _ h3
 by_cases e : q = q1
 · subst e
   rw [hq] at h1
   cases h1
   exact ⟨_, t, zB, List.mem_append_left _ h2, h3'⟩
 · exact ⟨us, t, (zF e).trans h1, h2, h3'⟩
def BoC (rows : List Rw) (H : Hp) (qs : List Addr) (k : Nat) : Prop := ∀ (m : Nat) (a b : Int), m < k -> rows[m]? = some (.bo a b) -> ∀ (x : Nat) (q : Addr), ((x : Int) = a \/ (x : Int) = b) -> qs[x]? = some q -> InB H q m a b
theorem BoC.same {rows : List Rw} {H H' : Hp} {qs : List Addr} {k : Nat} (e : Same H H') (h : BoC rows H qs k) : BoC rows H' qs k := fun m a b hm hr x q hx hq => (h m a b hm hr x q hx hq).same e
theorem BoC.upd {rows : List Rw} {H : Hp} {qs : List Addr} {k : Nat} (h : BoC rows H qs k) {q1 : Addr} {us1 : List V} {v : V} (hq1 : H q1 = some (.lst us1)) : BoC rows (upd H q1 (.lst (us1 ++ [v]))) qs k := fun m a b hm hr x q hx hq => (h m a b hm hr x q hx hq).upd hq1
theorem BoC.succ {rows : List Rw} {H : Hp} {qs : List Addr} {k : Nat} (h : BoC rows H qs k) (hk : ∀ (a b : Int), rows[k]? = some (.bo a b) -> ∀ (x : Nat) (q : Addr), ((x : Int) = a \/ (x : Int) = b) -> qs[x]? = some q -> InB H q k a b) : BoC rows H qs (k + 1) := fun m a b hm hr x q hx hq => by
 rcases Nat.lt_or_eq_of_le (Nat.le_of_lt_succ hm) with z | z
 · exact h m a b z hr x q hx hq
 · subst z
   exact hk a b hr x q hx hq
def spBo : Sp := fun vs H Q _ => ∃ (sa : Addr) (us : List V) (rows : List Rw), vs = [.ref sa] /\ H sa = some (.lst us) /\ jQ H rows us /\ rows.length <= 100 /\ RowsIn rows /\ ∀ (p : Addr) (qs : List Addr) (n : Nat) (H' : Hp), Same H H' -> H p = none -> (∀ q ∈ qs, H q = none) -> H' p = some (.lst (qs.map V.ref)) -> qs.length = 2 * rows.length -> BoP rows H' qs n -> BoC rows H' qs rows.length -> Q (.ref p) H'
def WaP (m : Nat) (H0 H : Hp) (kvs : List (List Key × V)) (n : Nat) : Prop := ∀ kv ∈ kvs, ∃ (q : Addr) (ns : List Nat), kv.2 = .ref q /\ H q = some (.lst (ns.map nV)) /\ H0 q = none /\ ns.length <= n /\ ∀ x ∈ ns, x < m
theorem WaP.same {m : Nat} {H0 H H' : Hp} {kvs : List (List Key × V)} {n : Nat} (e : Same H H') (h : WaP m H0 H kvs n) : WaP m H0 H' kvs n := fun kv hkv => by
 obtain ⟨q, ns, h1, h2, h3⟩ := h kv hkv
 exact ⟨q, ns, h1, e _ _ h2, h3⟩
theorem WaP.upd {m : Nat} {H0 H : Hp} {kvs : List (List Key × V)} {n : Nat} {q : Addr} {ns : List Nat} {r : Nat} (h : WaP m H0 H kvs n) (hl : ns.length <= n) (hns : ∀ x ∈ ns, x < m) (hr : r < m) (hq : H0 q = none) : WaP m H0 (upd H q (.lst (ns.map nV ++ [nV r]))) kvs (n + 1) := fun kv hkv => by
 obtain ⟨q', ns', h1, h2, h3, h4, h5⟩ := h kv hkv
 by_cases e : q' = q
 · subst e
   refine ⟨q', ns ++ [r], h1, by rw [zB, List.map_append]; rfl, hq, by simp; omega, fun x hx => ?_⟩
   rcases List.mem_append.mp hx with hx | hx
   · exact hns x hx
   · rw [List.mem_singleton.mp hx]; exact hr
 · exact ⟨q', ns', h1, (zF e).trans h2, h3, by omega, h5⟩
theorem valV_mem {κ : Type} [DecidableEq κ] {kvs : List (κ × V)} {k : κ} {v : V} (h : yJ kvs k = some v) : ∃ kv ∈ kvs, kv.2 = v := by
 unfold yJ at h
 obtain ⟨x, hx, e⟩ := Option.map_eq_some_iff.mp h
 exact ⟨x, List.mem_of_find?_eq_some hx, e⟩
theorem valV_old {κ : Type} [DecidableEq κ] {kvs t : List (κ × V)} {k : κ} {v : V} (h : yJ kvs k = some v) : yJ (kvs ++ t) k = some v := by
 unfold yJ at h ⊢
 obtain ⟨x, hx, e⟩ := Option.map_eq_some_iff.mp h
 rw [List.find?_append, hx]
 exact congrArg some e
theorem valV_new {κ : Type} [DecidableEq κ] {kvs : List (κ × V)} {k : κ} {v : V} (h : yJ kvs k = none) : yJ (kvs ++ [(k, v)]) k = some v := by
 unfold yJ at h ⊢
 rw [Option.map_eq_none_iff] at h
 rw [List.find?_append, h]
 simp
theorem nV_inj : ∀ {a b : List Nat}, a.map nV = b.map nV -> a = b
 | [], [], _ => rfl
 | [], _ :: _, h => by cases h
 | _ :: _, [], h => by cases h
 | x :: a, y :: b, h => by
   injection h with h1 h2
   have h3 := V.int.inj h1
   have h4 : x = y := by omega
   rw [h4, nV_inj h2]
def WaI (H : Hp) (kvs : List (List Key × V)) (pr : Pr) (r : Nat) : Prop := ∃ (q : Addr) (ns : List Nat), yJ kvs (xH pr.1 pr.2) = some (.ref q) /\ H q = some (.lst (ns.map nV)) /\ r ∈ ns
theorem WaI.same {H H' : Hp} {kvs : List (List Key × V)} {pr : Pr} {r : Nat} (e : Same H H') (h : WaI H kvs pr r) : WaI H' kvs pr r := by
 obtain ⟨q, ns, h1, h2, h3⟩ := h
 exact ⟨q, ns, h1, e _ _ h2, h3⟩
theorem WaI.app {H : Hp} {kvs t : List (List Key × V)} {pr : Pr} {r : Nat} (h : WaI H kvs pr r) : WaI H (kvs ++ t) pr r := by
 obtain ⟨q, ns, h1, h2, h3⟩ := h
 exact ⟨q, ns, valV_old h1, h2, h3⟩
theorem WaI.upd {H : Hp} {kvs : List (List Key × V)} {pr : Pr} {r : Nat} (h : WaI H kvs pr r) {q1 : Addr} {ns1 : List Nat} {x : Nat} (hq : H q1 = some (.lst (ns1.map nV))) : WaI (upd H q1 (.lst (ns1.map nV ++ [nV x]))) kvs pr r := by
 obtain ⟨q, ns, h1, h2, h3⟩ := h
 by_cases e : q = q1
 · subst e
   rw [hq] at h2
   have e2 : ns1 = ns := by
     have := HO.lst.inj (Option.some.inj h2)
     exact nV_inj this
   subst e2
   exact ⟨q, ns1 ++ [x], h1, by rw [zB, List.map_append]; rfl, List.mem_append_left _ h3⟩
 · exact ⟨q, ns, h1, (zF e).trans h2, h3⟩
theorem WaI.dic {H : Hp} {kvs : List (List Key × V)} {pr : Pr} {r : Nat} (h : WaI H kvs pr r) {p : Addr} {kvs0 : List (List Key × V)} {o : HO} (hp : H p = some (.dT kvs0)) : WaI (L2.upd H p o) kvs pr r := by
 obtain ⟨q, ns, h1, h2, h3⟩ := h
 exact ⟨q, ns, h1, (zF (fun z => by rw [z, hp] at h2; cases h2)).trans h2, h3⟩
def WaC (rules : List zN) (H : Hp) (kvs : List (List Key × V)) (k m : Nat) : Prop := ∀ (r : Nat) (q : zN) (x : Nat) (pr : Pr), rules[r]? = some q -> q.1[x]? = some pr -> (r < k \/ r = k /\ x < m) -> WaI H kvs pr r
def spWa : Sp := fun vs H Q _ => ∃ (ra : Addr) (us : List V) (rules : List zN), vs = [.ref ra] /\ H ra = some (.lst us) /\ DAts H (rules.map dNR) us /\ rules.length <= 100 /\ (∀ r ∈ rules, r.1.length <= 100) /\ ∀ (p : Addr) (kvs : List (List Key × V)) (n : Nat) (H' : Hp), Same H H' -> H p = none -> H' p = some (.dT kvs) -> WaP rules.length H H' kvs n -> WaC rules H' kvs rules.length 0 -> Q (.ref p) H'
section
variable {P : Program} {w : World} {K : PySem.W.Frag} {mg : Str -> Option Value} {base : Heap} {f : Addr} {fd : FuncData}
theorem ok_boths (bi : Bi mg) (be : mg "enumerate" = none) (F : Fun K "boths_by_part" "boths_by_part" s_f f fd) : FnOk P w K mg base CX0 1 f fd ["sheet"] spBo := by
 refine F.ok sc_f (fun vs H Q E h => ?_) (fun cdv A outer s H vs Q E hr h => ?_)
 · obtain ⟨sa, us, rows, rfl, _⟩ := h
   rfl
 obtain ⟨sa, us, rows, rfl, hsa, hrw, h100, hin, q⟩ := h
 have hul := yQ hrw
 refine ⟨_, (zD (ps_comp (i := 1) ["n"] [] [] sc_f.nd rfl (xS rfl bi.range (zA (zK op_mul zE (zP call_len rfl bi.len bt_len (zA (pv 0) pa_nil))) pa_nil)) (fun _ _ _ _ nd => zQ (i := 0) nd rfl (Or.inl rfl)) (fun _ _ _ _ => xV) (fun _ _ _ _ => (yV pa_nil))) (zD (yZ PassesOwn.never rfl (vW rfl be (zA (pv 0) pa_nil)) (uE rfl (yI (zQ (i := 2) sc_f.nd rfl (Or.inl rfl)) (yI (zQ (i := 3) sc_f.nd rfl (Or.inl rfl)) pgs_nil))) (zH (xD (yC op_eq (zV ix_tup (pv 3) zE (fun _ _ => rfl)) yF (yP _)) (zD (zT (qB PySem.F.plainAttrs_list PySem.F.slot_list_append PySem.F.type_list_append mt_append (zV ix_list (pv 1) (zV ix_tup (pv 3) zE (fun _ _ => rfl)) (fun _ _ => rfl)) (zA (zX (zA (zK op_mul zE (pv 2)) (zA (zV ix_tup (pv 3) zE (fun _ _ => rfl)) (zA (zV ix_tup (pv 3) zE (fun _ _ => rfl)) pa_nil)))) pa_nil))) (zH (zT (qB PySem.F.plainAttrs_list PySem.F.slot_list_append PySem.F.type_list_append mt_append (zV ix_list (pv 1) (zV ix_tup (pv 3) zE (fun _ _ => rfl)) (fun _ _ => rfl)) (zA (zX (zA (zK op_mul zE (pv 2)) (zA (zV ix_tup (pv 3) zE (fun _ _ => rfl)) (zA (zV ix_tup (pv 3) zE (fun _ _ => rfl)) pa_nil)))) pa_nil))))) pss_nil))) (zH (yN (pv 1))))), ?_⟩
 refine zI fun N hN => ?_
 simp! []
 refine ⟨us.length, .inl ⟨_, SqL.of hsa, rfl⟩, .inl ⟨by decide, by decide⟩, by omega, by omega, ?_⟩
 refine lc_range (lo := 0) (n := (2 * (us.length : Int)).toNat) (fun i ys σ H' => Same H H' /\ (∃ qs : List Addr, ys = qs.map V.ref /\ qs.length = i /\ (∀ q ∈ qs, H q = none) /\ BoP rows H' qs 0) /\ ∃ o, σ = [o]) ⟨Same.refl _, ⟨[], rfl, rfl, (fun q z => by cases z), fun q z => by cases z⟩, _, rfl⟩ (zM (by omega)) (fun i ys σ H' e => ?_) (fun i ys σ H' C hi e hC => ?_) (fun ys σ H' e p hp => hN _ _ ?_)
 · obtain ⟨_, ⟨qs, rfl, hl, _⟩, _⟩ := e
   rw [List.length_map]
   omega
 · obtain ⟨es, ⟨qs, rfl, hl, hfr, hbo⟩, o, rfl⟩ := e
   simp! []
   refine ⟨zM (by simp), fun q0 hq0 => hC _ _ _ ⟨es.trans (zC hq0 _), ⟨qs ++ [q0], by rw [List.map_append]; rfl, by simp [hl], fun q hq => ?_, fun q hq => ?_⟩, _, rfl⟩⟩
   · rcases List.mem_append.mp hq with hq | hq
     · exact hfr q hq
     · rw [List.mem_singleton.mp hq]; exact es.free hq0
   · rcases List.mem_append.mp hq with hq | hq
     · exact BoP.same (zC hq0 _) hbo q hq
     · rw [List.mem_singleton.mp hq]
       exact ⟨[], zB, Nat.le_refl _, fun v z => by cases z⟩
 obtain ⟨es, ⟨qs, rfl, hl, hfr, hbo⟩, o, rfl⟩ := e
 clear hN
 have s1 := zC hp (.lst (qs.map V.ref))
 have k1 : upd H' p (.lst (qs.map V.ref)) p = some (.lst (qs.map V.ref)) := zB
 have hp0 := es.free hp
 have hpq : p ∉ qs := fun z => by
   obtain ⟨_, h1, _⟩ := hbo p z
   rw [hp] at h1
   cases h1
 replace hbo := hbo.same s1
 replace es := es.trans s1
 generalize upd H' p (.lst (qs.map V.ref)) = H1 at k1 hbo es ⊢
 have hql : qs.length = 2 * rows.length := by omega
 clear s1 hp hl
 refine yH (fun σ H' => ∃ (o1 o2 : Option V) (n : Nat), Same H H' /\ H' p = some (.lst (qs.map V.ref)) /\ BoP rows H' qs n /\ BoC rows H' qs rows.length /\ σ = [some (V.ref sa), some (V.ref p), o1, o2]) (fun N hN => ?_) (fun σ H' h => ?_)
 · simp! [iEnum]
   refine ⟨_, es _ _ hsa, ?_⟩
   refine wC (xs := us) (fun k σ H' => ∃ (o1 o2 : Option V), Same H H' /\ H' p = some (.lst (qs.map V.ref)) /\ BoP rows H' qs (2 * k) /\ BoC rows H' qs k /\ σ = [some (V.ref sa), some (V.ref p), o1, o2]) ⟨_, _, es, k1, hbo, (fun m a b hm => by omega), rfl⟩ (fun k σ H' h => ?_) (fun k x σ H' pe hx h hpe => ?_) (fun σ H' h => ?_)
   · obtain ⟨_, _, h, _⟩ := h
     exact h _ _ hsa
   · obtain ⟨o1, o2, s2, k2, hb2, hc2, rfl⟩ := h
     have hk : k < rows.length := by rw [← hul]; exact (List.getElem?_eq_some_iff.mp hx).1
     obtain ⟨r, hr1, hr2⟩ := xG hrw hx
     obtain ⟨xa, x', vs, rfl, hxa, hcase⟩ := RwAt.out hr2
     have s3 := zC hpe (.tup [.int k, .ref xa])
     have kp : upd H' pe (.tup [.int k, .ref xa]) pe = some (.tup [.int k, .ref xa]) := zB
     generalize upd H' pe (.tup [.int k, .ref xa]) = H2 at s3 kp ⊢
     replace s2 := s2.trans s3
     replace k2 := s3 _ _ k2
     replace hb2 := hb2.same s3
     replace hc2 := hc2.same s3
     replace hxa := s2 _ _ hxa
     clear s3 hpe
     have more : ∀ {a b : Nat}, a <= b -> BoP rows H2 qs a -> BoP rows H2 qs b := fun hab h q hq => by
       obtain ⟨us, h1, h2, h3⟩ := h q hq
       exact ⟨us, h1, by omega, h3⟩
     simp! [gTup, uI, gNil]
     refine ⟨[.int k, .ref xa], SqT.of kp, rfl, .int k, [.ref xa], rfl, .ref xa, [], rfl, rfl, xa, rfl, _, SqT.of hxa, _, at0, rfl, ?_⟩
     cases r with
     | no =>
       obtain ⟨rfl, rfl⟩ := hcase
       rw [if_neg (by intro z; exact absurd (V.str.inj z) (by decide +kernel))]
       exact ⟨s2, k2, more (by omega) hb2, hc2.succ (fun a b z => by rw [hr1] at z; cases z), _, rfl⟩
     | nm y =>
       obtain ⟨rfl, rfl⟩ := hcase
       rw [if_neg (by intro z; exact absurd (V.str.inj z) (by decide +kernel))]
       exact ⟨s2, k2, more (by omega) hb2, hc2.succ (fun a b z => by rw [hr1] at z; cases z), _, rfl⟩
     | bo i j =>
       obtain ⟨rfl, rfl⟩ := hcase
       rw [if_pos rfl]
       obtain ⟨⟨b1, b2⟩, b3, b4⟩ := hin k i j hr1
       have hgx : ∀ (x : Int), 0 <= x -> x < 2 * (rows.length : Int) -> ∃ q, q ∈ qs /\ atI (qs.map V.ref) x = some (V.ref q) /\ qs[x.toNat]? = some q := fun x hx0 hx1 => by
         obtain ⟨m, rfl⟩ := Int.eq_ofNat_of_zero_le hx0
         have hm : m < qs.length := by omega
         refine ⟨qs[m], List.getElem_mem hm, ?_⟩
         exact ⟨yL (by rw [List.getElem?_map, List.getElem?_eq_getElem hm]; rfl), by rw [Int.toNat_natCast]; exact List.getElem?_eq_getElem hm⟩
       obtain ⟨q1, hq1, ha1, hx1⟩ := hgx i b1 (by omega)
       obtain ⟨q2, hq2, ha2, hx2⟩ := hgx j b3 (by omega)
       obtain ⟨us1, hu1, hl1, ht1⟩ := hb2 q1 hq1
       refine ⟨_, rfl, _, SqT.of hxa, _, at1, _, _, rfl, SqL.of k2, _, ha1, .inl ⟨rfl, _, SqL.of hu1⟩, _, rfl, .inl ⟨by decide, by decide⟩, _, rfl, _, SqT.of hxa, _, at1, _, rfl, _, SqT.of hxa, _, rfl, zM (by decide), fun t1 ht => ?_⟩
       have s3 := zC ht (.tup [.int (2 * (k : Int)), .int i, .int j])
       have tr : Tri rows (upd H2 t1 (.tup [.int (2 * (k : Int)), .int i, .int j])) (.ref t1) := ⟨t1, k, i, j, rfl, zB, hr1⟩
       have kt1 : upd H2 t1 (.tup [.int (2 * (k : Int)), .int i, .int j]) t1 = some (.tup [.int (2 * (k : Int)), .int i, .int j]) := zB
       generalize upd H2 t1 (.tup [.int (2 * (k : Int)), .int i, .int j]) = H3 at s3 tr kt1 ⊢
       replace k2 := s3 _ _ k2
       replace hxa := s3 _ _ hxa
       replace hu1 := s3 _ _ hu1
       replace ht1 : ∀ v ∈ us1, Tri rows H3 v := fun v hv => (ht1 v hv).tups s3.tups
       replace hb2 := (hb2.same s3).put hu1 hl1 ht1 tr
       replace hc2 := (hc2.same s3).upd (v := .ref t1) hu1
       have in1 : InB (upd H3 q1 (.lst (us1 ++ [V.ref t1]))) q1 k i j := ⟨_, t1, zB, by simp, (TupSame.refl H3).upd_lst hu1 _ _ kt1⟩
       refine ⟨q1, rfl, us1, hu1, jJ (by omega), ?_⟩
       replace s2 := (s2.trans s3).upd (o := .lst (us1 ++ [V.ref t1])) (hfr q1 hq1)
       have n1 : xa ≠ q1 := fun z => by rw [z, hu1] at hxa; cases hxa
       have n2 : p ≠ q1 := fun z => hpq (z ▸ hq1)
       replace hxa : upd H3 q1 (.lst (us1 ++ [V.ref t1])) xa = _ := (zF n1).trans hxa
       replace k2 : upd H3 q1 (.lst (us1 ++ [V.ref t1])) p = _ := (zF n2).trans k2
       clear kt1 hu1 hl1 ht1 tr s3 ht more
       generalize upd H3 q1 (.lst (us1 ++ [V.ref t1])) = H4 at s2 hxa k2 hb2 hc2 in1 ⊢
       obtain ⟨us2, hu2, hl2, ht2⟩ := hb2 q2 hq2
       refine ⟨_, rfl, _, SqT.of hxa, _, rfl, _, _, rfl, SqL.of k2, _, ha2, .inl ⟨rfl, _, SqL.of hu2⟩, _, rfl, .inl ⟨by decide, by decide⟩, _, rfl, _, SqT.of hxa, _, at1, _, rfl, _, SqT.of hxa, _, rfl, zM (by decide), fun t1 ht => ?_⟩
       have s3 := zC ht (.tup [.int (2 * (k : Int)), .int i, .int j])
       have tr : Tri rows (upd H4 t1 (.tup [.int (2 * (k : Int)), .int i, .int j])) (.ref t1) := ⟨t1, k, i, j, rfl, zB, hr1⟩
       have kt1 : upd H4 t1 (.tup [.int (2 * (k : Int)), .int i, .int j]) t1 = some (.tup [.int (2 * (k : Int)), .int i, .int j]) := zB
       generalize upd H4 t1 (.tup [.int (2 * (k : Int)), .int i, .int j]) = H5 at s3 tr kt1 ⊢
       replace k2 := s3 _ _ k2
       replace hu2 := s3 _ _ hu2
       replace ht2 : ∀ v ∈ us2, Tri rows H5 v := fun v hv => (ht2 v hv).tups s3.tups
       replace hb2 := (hb2.same s3).put hu2 hl2 ht2 tr
       replace hc2 := (hc2.same s3).upd (v := .ref t1) hu2
       replace in1 := (in1.same s3).upd (v := .ref t1) hu2
       have in2 : InB (upd H5 q2 (.lst (us2 ++ [V.ref t1]))) q2 k i j := ⟨_, t1, zB, by simp, (TupSame.refl H5).upd_lst hu2 _ _ kt1⟩
       have n2 : p ≠ q2 := fun z => hpq (z ▸ hq2)
       refine ⟨q2, rfl, us2, hu2, jJ (by omega), (s2.trans s3).upd (hfr q2 hq2), (zF n2).trans k2, hb2, hc2.succ (fun a b z x q' hx hq' => ?_), _, rfl⟩
       rw [hr1] at z
       cases z
       rcases hx with hx | hx
       · rw [← hx, Int.toNat_natCast, hq'] at hx1
         cases hx1
         exact in1
       · rw [← hx, Int.toNat_natCast, hq'] at hx2
         cases hx2
         exact in2
   · obtain ⟨o1, o2, s2, k2, hb2, hc2, rfl⟩ := h
     rw [hul] at hc2
     exact hN _ _ ⟨_, _, _, s2, k2, hb2, hc2, rfl⟩
 obtain ⟨o1, o2, n, s2, k2, hb2, hc2, rfl⟩ := h
 simp! []
 exact q p qs n _ s2 hp0 hfr k2 hql hb2 hc2
theorem jO (bi : Bi mg) (be : mg "enumerate" = none) (F : Fun K "rules_by_premise" "rules_by_premise" s_c f fd) : FnOk P w K mg base CX0 1 f fd ["rules"] spWa := by
 refine F.ok sc_c (fun vs H Q E h => ?_) (fun cdv A outer s H vs Q E hr h => ?_)
 · obtain ⟨ra, us, rules, rfl, _⟩ := h
   rfl
 obtain ⟨ra, us, rules, rfl, hra, hru, h100, hpr, q⟩ := h
 have hul := yQ hru
 refine ⟨_, (zD (zO (i := 1) sc_c.nd rfl (Or.inl rfl) pe_dnewT) (zD (yZ PassesOwn.never rfl (vW rfl be (zA (pv 0) pa_nil)) (uE rfl (yI (zQ (i := 2) sc_c.nd rfl (Or.inl rfl)) (yI (zQ (i := 3) sc_c.nd rfl (Or.inl rfl)) pgs_nil))) (zH (yZ PassesOwn.never rfl (yU (zV ix_tup (pv 3) zE (fun _ _ => rfl))) (zQ (i := 4) sc_c.nd rfl (Or.inl rfl)) (zH (zT (qB PySem.F.plainAttrs_list PySem.F.slot_list_append PySem.F.type_list_append mt_append (pe_sdef (hu_of hr) (pv 1) (pv 4) (yV pa_nil) ⟨rfl, rfl, rfl, rfl⟩) (zA (pv 2) pa_nil))))))) (zH (yN (pv 1))))), ?_⟩
 refine zI fun N hN => ?_
 simp! [tDNewT]
 refine fun p hp => hN _ _ ?_
 clear hN
 have s1 := zC hp (.dT [])
 have k1 : upd H p (.dT []) p = some (.dT []) := zB
 generalize upd H p (.dT []) = H1 at s1 k1 ⊢
 have sz : ∀ {n : Nat}, n <= 40000 -> n < sizeLine := fun h => Nat.lt_of_le_of_lt (m := 100000) (by omega) (by decide)
 refine yH (fun σ H' => ∃ (o1 o2 o3 : Option V) (kvs : List (List Key × V)) (n : Nat), Same H H' /\ H' p = some (.dT kvs) /\ WaP rules.length H H' kvs n /\ WaC rules H' kvs rules.length 0 /\ σ = [some (V.ref ra), some (V.ref p), o1, o2, o3]) (fun N hN => ?_) (fun σ H' h => ?_)
 · simp! [iEnum]
   refine ⟨_, s1 _ _ hra, ?_⟩
   refine wC (xs := us) (fun k σ H' => ∃ (o1 o2 o3 : Option V) (kvs : List (List Key × V)), Same H H' /\ H' p = some (.dT kvs) /\ kvs.length <= 100 * k /\ WaP rules.length H H' kvs (100 * k) /\ WaC rules H' kvs k 0 /\ σ = [some (V.ref ra), some (V.ref p), o1, o2, o3]) ⟨_, _, _, _, s1, k1, Nat.le_refl _, (fun kv z => by cases z), (fun r q x pr _ _ hz => by omega), rfl⟩ (fun k σ H' h => ?_) (fun k x σ H' pe hx h hpe => ?_) (fun σ H' h => ?_)
   · obtain ⟨_, _, _, _, h, _⟩ := h
     exact h _ _ hra
   · obtain ⟨o1, o2, o3, kvs, s2, k2, hkl, hw2, hc2, rfl⟩ := h
     have hk : k < rules.length := by rw [← hul]; exact (List.getElem?_eq_some_iff.mp hx).1
     obtain ⟨r, hr1, hr2⟩ := xG hru hx
     have hrl := hpr r (List.mem_of_getElem? hr1)
     obtain ⟨xa, xl, xb, ps, rfl, hxa, hxl, hps, hxb⟩ := nrAt hr2
     have hpl := yQ hps
     have s3 := zC hpe (.tup [.int k, .ref xa])
     have kp : upd H' pe (.tup [.int k, .ref xa]) pe = some (.tup [.int k, .ref xa]) := zB
     generalize upd H' pe (.tup [.int k, .ref xa]) = H2 at s3 kp ⊢
     replace s2 := s2.trans s3
     replace k2 := s3 _ _ k2
     replace hw2 := hw2.same s3
     replace hc2 : WaC rules H2 kvs k 0 := fun r q x pr h1 h2 h3 => (hc2 r q x pr h1 h2 h3).same s3
     replace hxa := s2 _ _ hxa
     clear s3 hpe
     simp! [gTup, uI, gNil]
     refine ⟨[.int k, .ref xa], SqT.of kp, rfl, .int k, [.ref xa], rfl, .ref xa, [], rfl, rfl, ?_⟩
     have hxl2 := s2 _ _ hxl
     refine ⟨_, rfl, _, SqT.of hxa, _, at0, _, rfl, ⟨_, SqL.of hxl2⟩, ?_⟩
     refine xW (xs := ps) (fun m σ H' => ∃ (o : Option V) (kvs : List (List Key × V)), Same H H' /\ H' p = some (.dT kvs) /\ kvs.length <= 100 * k + m /\ WaP rules.length H H' kvs (100 * k + m) /\ WaC rules H' kvs k m /\ σ = [some (V.ref ra), some (V.ref p), some (V.int k), some (V.ref xa), o]) ⟨_, _, s2, k2, hkl, hw2, hc2, rfl⟩ (fun m σ H' _ h => ?_) (fun m x σ H' hm h => ?_) (fun σ H' h => ?_)
     · obtain ⟨_, _, h, _⟩ := h
       exact SqL.of (h _ _ hxl)
     · obtain ⟨o, kvs, s4, k4, hl4, hw4, hc4, rfl⟩ := h
       have hmp : m < ps.length := (List.getElem?_eq_some_iff.mp hm).1
       obtain ⟨pr, hpm, hpx⟩ := xG hps hm
       obtain ⟨xp, _, rfl, hxp, _, _, rfl, hv1, _, _, rfl, hv2, hv3⟩ := hpx
       cases hv1
       cases hv2
       cases hv3
       replace hxp := s4 _ _ hxp
       simp! [tSDef, tBM]
       refine ⟨.inr ⟨_, .inl k4⟩, Nat.zero_le _, fun p1 hp1 => ?_⟩
       have n1 : p ≠ p1 := fun z => by rw [z, hp1] at k4; cases k4
       have n2 : xp ≠ p1 := fun z => by rw [z, hp1] at hxp; cases hxp
       have s5 := zC hp1 (.lst [])
       refine ⟨kvs, s5 _ _ k4, [.inl pr.1, .inl pr.2], s5 _ _ hxp, sz (by omega), fun v hv => ?_, fun hv => ?_⟩
       · obtain ⟨kv, hkv, rfl⟩ := valV_mem hv
         obtain ⟨q', ns', h1, h2, h3, h4, h5⟩ := hw4 kv hkv
         have n3 : p ≠ q' := fun z => by rw [z, h2] at k4; cases k4
         rw [h1]
         refine ⟨.inl ⟨rfl, _, SqL.of (s5 _ _ h2)⟩, q', rfl, _, s5 _ _ h2, sz (by rw [List.length_map]; omega), (s4.trans s5).upd h3, _, kvs, (zF n3).trans (s5 _ _ k4), by omega, WaP.upd (hw4.same s5) h4 h5 hk h3, ?_, rfl⟩
         intro r' q0 x pr' g1 g2 g3
         by_cases g4 : r' < k \/ r' = k /\ x < m
         · exact ((hc4 r' q0 x pr' g1 g2 g4).same s5).upd (s5 _ _ h2)
         · obtain ⟨rfl, rfl⟩ : r' = k /\ x = m := by omega
           rw [hr1] at g1
           cases g1
           rw [hpm] at g2
           cases g2
           exact ⟨q', ns' ++ [r'], by rw [← h1]; exact hv, by rw [zB, List.map_append]; rfl, by simp⟩
       · have e1 : upd (upd H' p1 (.lst [])) p (.dT (xR kvs [.inl pr.1, .inl pr.2] (V.ref p1))) p1 = some (.lst []) := (zF n1.symm).trans zB
         refine ⟨.inl ⟨rfl, _, SqL.of e1⟩, [], e1, sz (by simp), ((s4.trans s5).upd hp).upd (s4.free hp1), _, _, (zF n1).trans zB, ?_, ?_, ?_, rfl⟩
         · rw [qA hv, List.length_append, List.length_singleton]; omega
         · refine WaP.upd (ns := []) (n := 100 * k + m) (fun kv hkv => ?_) (Nat.zero_le _) (fun x z => by cases z) hk (s4.free hp1)
           rw [qA hv] at hkv
           rcases List.mem_append.mp hkv with hkv | hkv
           · obtain ⟨q', ns', h1, h2, h3, h4, h5⟩ := hw4 kv hkv
             have n3 : q' ≠ p := fun z => by rw [← z, h2] at k4; cases k4
             exact ⟨q', ns', h1, (zF n3).trans (s5 _ _ h2), h3, h4, h5⟩
           · rw [List.mem_singleton.mp hkv]
             exact ⟨p1, [], rfl, e1, s4.free hp1, Nat.zero_le _, fun x z => by cases z⟩
         · intro r' q0 x pr' g1 g2 g3
           by_cases g4 : r' < k \/ r' = k /\ x < m
           · have w := (((hc4 r' q0 x pr' g1 g2 g4).same s5).dic (s5 _ _ k4) (o := .dT (xR kvs [.inl pr.1, .inl pr.2] (V.ref p1)))).upd (ns1 := []) (x := k) e1
             rw [qA hv] at w ⊢
             exact w.app
           · obtain ⟨rfl, rfl⟩ : r' = k /\ x = m := by omega
             rw [hr1] at g1
             cases g1
             rw [hpm] at g2
             cases g2
             exact ⟨p1, [r'], by rw [qA hv]; exact valV_new hv, by rw [zB]; rfl, by simp⟩
     · obtain ⟨o, kvs, s4, k4, hl4, hw4, hc4, rfl⟩ := h
       refine ⟨s4, _, _, _, _, k4, by omega, fun kv hkv => ?_, fun r' q0 x pr' g1 g2 g3 => hc4 r' q0 x pr' g1 g2 ?_, rfl⟩
       rotate_left
       · rcases Nat.lt_or_eq_of_le (show r' <= k by omega) with z | z
         · exact .inl z
         · refine .inr ⟨z, ?_⟩
           rw [z, hr1] at g1
           cases g1
           rw [hpl]
           exact (List.getElem?_eq_some_iff.mp g2).1
       obtain ⟨q', ns', h1, h2, h3, h4, h5⟩ := hw4 kv hkv
       exact ⟨q', ns', h1, h2, h3, by omega, h5⟩
   · obtain ⟨o1, o2, o3, kvs, s2, k2, _, hw2, hc2, rfl⟩ := h
     rw [hul] at hc2
     exact hN _ _ ⟨_, _, _, _, _, s2, k2, hw2, hc2, rfl⟩
 obtain ⟨o1, o2, o3, kvs, n, s2, k2, hw2, hc2, rfl⟩ := h
 simp! []
 exact q p kvs n _ s2 hp k2 hw2 hc2
end
abbrev s_l : Stmt := top 10
theorem sc_l : FnScope ["growth", "i", "j"] ["growth", "i", "j"] (zG s_l) := ⟨rfl, rfl, rfl, by decide +kernel, rfl, by decide +kernel, by decide +kernel⟩
abbrev s_e : Stmt := top 11
theorem sc_e : FnScope ["growth", "i", "j", "line", "m", "h"] ["growth", "i", "j"] (zG s_e) := ⟨rfl, rfl, rfl, by decide +kernel, rfl, by decide +kernel, by decide +kernel⟩
abbrev s_i : Stmt := top 12
theorem sc_i : FnScope ["growth", "i", "boths", "n", "a", "b"] ["growth", "i", "boths"] (zG s_i) := ⟨rfl, rfl, rfl, by decide +kernel, rfl, by decide +kernel, by decide +kernel⟩
abbrev s_g : Stmt := top 13
theorem sc_g : FnScope ["growth", "i", "j", "n"] ["growth", "i", "j"] (zG s_g) := ⟨rfl, rfl, rfl, by decide +kernel, rfl, by decide +kernel, by decide +kernel⟩
theorem xU {ls : List Ln} {p : Nat} {l : Ln} (h : ls[p]? = some l) : yY ls ls.length (.n (p : Int)) = some (l.i, l.j) := by
 have hp := (List.getElem?_eq_some_iff.mp h).1
 show (if 0 <= (p : Int) /\ (p : Int) < (ls.length : Int) then (ls[(p : Int).toNat]?).map fun l => (l.i, l.j) else none) = _
 rw [if_pos ⟨by omega, by omega⟩, Int.toNat_natCast, h]
 rfl
theorem vQ {rows : List Rw} {rules : List zN} {ls : List Ln} {i j : Nat} {x : Str} {as : List Wt} {prs : List Pr} (hi : i < 2 * rows.length) (hj : j < 2 * rows.length) (hx : x ≠ "rule") (hn : named x = some (as.length : Int)) (hs : as.map (yY ls ls.length) = prs.map some) (h : yE rows i j x prs = true) : yR rows rules ls ls.length ⟨i, j, x, as⟩ = true := by
 have a1 : (as.all fun a => (yY ls ls.length a).isSome) = true := by
   have : (as.map (yY ls ls.length)).all (fun o => o.isSome) = true := by rw [hs]; simp
   rw [List.all_map] at this
   exact this
 have a2 : as.filterMap (yY ls ls.length) = prs := by
   have : (as.map (yY ls ls.length)).filterMap id = prs := by rw [hs]; simp [List.filterMap_map]
   rw [List.filterMap_map] at this
   exact this
 unfold yR
 rw [if_neg (by
   intro z
   rcases z with z | z
   · exact z ⟨by show (0 : Int) <= (i : Int); omega, by show (i : Int) < _; omega⟩
   · exact z ⟨by show (0 : Int) <= (j : Int); omega, by show (j : Int) < _; omega⟩), if_neg hx, if_pos ⟨hn, a1⟩, a2]
 exact h
theorem GOk.rng {rows : List Rw} {rules : List zN} {ls : List Ln} (h : GOk rows rules ls) {i j : Nat} (hh : zJ ls i j = true) : i < 2 * rows.length /\ j < 2 * rows.length := by
 obtain ⟨p, l, hl, h1, h2⟩ := hasP_iff.mp hh
 have := xQ (h.snd p l hl)
 omega
def tnN (n : Nat) : Nat := n + 1 - 2 * (n % 2)
theorem xE (n : Nat) : tn1 (n : Int) = ((tnN n : Nat) : Int) := by
 unfold tn1 tnN
 omega
theorem qP (n : Nat) : tnN (tnN n) = n := by
 unfold tnN
 omega
theorem vO {n m : Nat} (h : n < 2 * m) : tnN n < 2 * m := by
 unfold tnN
 omega
theorem zL {ls t : List Ln} {i j : Int} (h : zJ ls i j = true) : zJ (ls ++ t) i j = true := by
 rw [jG, h, Bool.true_or]
theorem ow_n {as : List Wt} (h : as.length <= 3) (hn : ∀ ps, Wt.ps ps ∈ as -> False) : OW as := ⟨h, fun ps z => (hn ps z).elim⟩
theorem st_turn {rows : List Rw} {rules : List zN} {ls : List Ln} {i j p : Nat} {l : Ln} (hi : i < 2 * rows.length) (hj : j < 2 * rows.length) (hl : ls[p]? = some l) (h1 : l.i = i) (h2 : l.j = j) : yR rows rules ls ls.length ⟨(tnN j : Nat), (tnN i : Nat), "turn", [.n p]⟩ = true := by
 refine vQ (prs := [((i : Int), (j : Int))]) (vO hj) (vO hi) (by decide) rfl ?_ ?_
 · show [yY ls ls.length (.n (p : Int))] = _
   rw [xU hl, h1, h2]
   rfl
 · unfold yE
   rw [if_neg (by decide), if_neg (by decide), if_neg (by decide), if_neg (by decide), if_pos rfl, xE, xE, qP, qP]
   exact beq_self_eq_true _
theorem st_clash {rows : List Rw} {rules : List zN} {ls : List Ln} {i j n p : Nat} {l : Ln} (hi : i < 2 * rows.length) (hn : n < 2 * rows.length) (hj : (j : Int) = tn1 i) (hl : ls[p]? = some l) (h1 : l.i = i) (h2 : l.j = j) : yR rows rules ls ls.length ⟨i, n, "clash", [.n p]⟩ = true := by
 refine vQ (prs := [((i : Int), (j : Int))]) hi hn (by decide) rfl ?_ ?_
 · show [yY ls ls.length (.n (p : Int))] = _
   rw [xU hl, h1, h2]
   rfl
 · unfold yE
   rw [if_neg (by decide), if_neg (by decide), if_neg (by decide), if_neg (by decide), if_neg (by decide), if_neg (by decide), hj]
   exact beq_self_eq_true _
theorem st_chain {rows : List Rw} {rules : List zN} {ls : List Ln} {i j m p p' : Nat} {l l' : Ln} (hi : i < 2 * rows.length) (hm : m < 2 * rows.length) (hl : ls[p]? = some l) (h1 : l.i = i) (h2 : l.j = j) (hl' : ls[p']? = some l') (h1' : l'.i = j) (h2' : l'.j = m) : yR rows rules ls ls.length ⟨i, m, "chain", [.n p, .n p']⟩ = true := by
 refine vQ (prs := [((i : Int), (j : Int)), ((j : Int), (m : Int))]) hi hm (by decide) rfl ?_ ?_
 · show [yY ls ls.length (.n (p : Int)), yY ls ls.length (.n (p' : Int))] = _
   rw [xU hl, h1, h2, xU hl', h1', h2']
   rfl
 · unfold yE
   rw [if_neg (by decide), if_neg (by decide), if_neg (by decide), if_neg (by decide), if_neg (by decide), if_pos rfl]
   simp
theorem st_both {rows : List Rw} {rules : List zN} {ls : List Ln} {i n p p' : Nat} {a b : Int} {l l' : Ln} (hi : i < 2 * rows.length) (hn : n < 2 * rows.length) (hpt : jB rows (n : Int) = [a, b]) (hl : ls[p]? = some l) (h1 : l.i = i) (h2 : l.j = a) (hl' : ls[p']? = some l') (h1' : l'.i = i) (h2' : l'.j = b) : yR rows rules ls ls.length ⟨i, n, "both", [.n p, .n p']⟩ = true := by
 refine vQ (prs := [((i : Int), a), ((i : Int), b)]) hi hn (by decide) rfl ?_ ?_
 · show [yY ls ls.length (.n (p : Int)), yY ls ls.length (.n (p' : Int))] = _
   rw [xU hl, h1, h2, xU hl', h1', h2']
   rfl
 · unfold yE
   rw [if_neg (by decide), if_neg (by decide), if_neg (by decide), if_pos rfl, hpt]
   exact beq_self_eq_true _
theorem ow_one {p : Nat} : OW [.n p] := ow_n (by simp) (fun ps z => by simp at z)
theorem ow_two {p q : Nat} : OW [.n p, .n q] := ow_n (by simp) (fun ps z => by simp at z)
theorem why_one {H : Hp} {p : Addr} {x : Str} {n : Nat} : DAt (upd H p (.tup [.str x, .int n])) (uP x [.n n]) (.ref p) := ⟨p, _, rfl, zB, _, _, rfl, rfl, _, _, rfl, rfl, rfl⟩
theorem vN {H : Hp} {p : Addr} {x : Str} {n m : Nat} : DAt (upd H p (.tup [.str x, .int n, .int m])) (uP x [.n n, .n m]) (.ref p) := ⟨p, _, rfl, zB, _, _, rfl, rfl, _, _, rfl, rfl, _, _, rfl, rfl, rfl⟩
theorem sub_mask : ∀ (n a b : Nat), a <= n -> ∃ d, a = (a &&& b) + d /\ ∀ x, d.testBit x = (a.testBit x && !b.testBit x)
 | 0, a, b, h => by
   have e : a = 0 := by omega
   subst e
   exact ⟨0, by simp, fun x => by simp⟩
 | n + 1, a, b, h => by
   obtain ⟨d, h1, h2⟩ := sub_mask n (a / 2) (b / 2) (by omega)
   have e1 : (a &&& b) / 2 = a / 2 &&& b / 2 := Nat.eq_of_testBit_eq fun i => by
     rw [Nat.testBit_div_two, Nat.testBit_and, Nat.testBit_and, Nat.testBit_div_two, Nat.testBit_div_two]
   have e2 : decide ((a &&& b) % 2 = 1) = (decide (a % 2 = 1) && decide (b % 2 = 1)) := by
     rw [← Nat.testBit_zero, ← Nat.testBit_zero, ← Nat.testBit_zero, Nat.testBit_and]
   rw [← e1] at h1
   refine ⟨2 * d + (if a % 2 = 1 /\ ¬ b % 2 = 1 then 1 else 0), ?_, fun x => ?_⟩
   · have e3 : (a &&& b) % 2 = 1 ↔ (a % 2 = 1 /\ b % 2 = 1) := by
       rw [Bool.eq_iff_iff, decide_eq_true_eq, Bool.and_eq_true, decide_eq_true_eq, decide_eq_true_eq] at e2
       exact e2
     clear e1 e2 h2
     generalize a &&& b = c at h1 e3 ⊢
     split <;> omega
   · cases x with
     | zero =>
       rw [Nat.testBit_zero, Nat.testBit_zero, Nat.testBit_zero]
       by_cases ha : a % 2 = 1 <;> by_cases hb : b % 2 = 1 <;> simp [ha, hb] <;> omega
     | succ x =>
       have ed : (2 * d + (if a % 2 = 1 /\ ¬ b % 2 = 1 then 1 else 0)) / 2 = d := by split <;> omega
       rw [← Nat.testBit_div_two, ed, h2, Nat.testBit_div_two, Nat.testBit_div_two]
theorem vC {a b : Nat} (h : ∀ x, a.testBit x = true -> x < 300) : ∃ (m : Nat) (xs : List Nat), Builtin.bitAnd (a : Int) (Builtin.bitNot (b : Int)) = (m : Int) /\ Bits m xs /\ (∀ x ∈ xs, x < 300 /\ a.testBit x = true) /\ ∀ x, a.testBit x = true -> x ∈ xs \/ b.testBit x = true := by
 obtain ⟨d, h1, h2⟩ := sub_mask a a b (Nat.le_refl _)
 have hd : ∀ x, d.testBit x = true -> a.testBit x = true := fun x hx => by
   rw [h2, Bool.and_eq_true] at hx
   exact hx.1
 refine ⟨d, (List.range 300).filter fun x => d.testBit x, ?_, ⟨List.Pairwise.filter _ List.pairwise_lt_range, fun i => ?_⟩, fun x hx => ?_, fun x hx => ?_⟩
 · unfold Builtin.bitAnd
   rw [not_not, decide_eq_true (show (0 : Int) <= (a : Int) by omega), decide_eq_false (show ¬ (0 : Int) <= Builtin.bitNot (b : Int) by unfold Builtin.bitNot; omega)]
   show (a : Int) - (((a : Int).toNat &&& (b : Int).toNat : Nat) : Int) = _
   rw [Int.toNat_natCast, Int.toNat_natCast]
   omega
 · rw [Bool.eq_iff_iff, decide_eq_true_eq, List.mem_filter, List.mem_range]
   exact ⟨fun z => ⟨h _ (hd _ z), z⟩, fun z => z.2⟩
 · obtain ⟨h3, h4⟩ := List.mem_filter.mp hx
   exact ⟨List.mem_range.mp h3, hd _ h4⟩
 · cases hb : b.testBit x with
   | true => exact .inr rfl
   | false =>
     left
     rw [List.mem_filter, List.mem_range]
     exact ⟨h x hx, by rw [h2, hx, hb]; rfl⟩
theorem GrAt.out {C : Addr} {H : Hp} {g : GAd} {rows : List Rw} {rules : List zN} {ls : List Ln} (h : GrAt C H g rows rules ls) {p : Addr} (hp : H p = none) : uV g p := by
 obtain ⟨ws, h2, _⟩ := h.lin
 obtain ⟨as, h5, _⟩ := h.abv
 obtain ⟨bs, h7, _⟩ := h.blw
 have go : ∀ {a : Addr} {o : HO}, H a = some o -> p ≠ a := fun ha z => by rw [z, ha] at hp; cases hp
 exact ⟨go h2, go h.plc, go h5, go h7⟩
def RTurn (_rows : List Rw) (_ls L : List Ln) (i j : Nat) : Prop := zJ L ((tnN j : Nat) : Int) ((tnN i : Nat) : Int) = true
def RChain (_rows : List Rw) (ls L : List Ln) (i j : Nat) : Prop := (∀ m : Nat, zJ ls j m = true -> zJ L i m = true) /\ ∀ h : Nat, zJ ls h i = true -> zJ L h j = true
def RClash (rows : List Rw) (_ls L : List Ln) (i j : Nat) : Prop := (j : Int) = tn1 i -> ∀ n : Nat, n < 2 * rows.length -> zJ L i n = true
def RBoth (H : Hp) (us : List V) (ls L : List Ln) (i : Nat) : Prop := ∀ (t : Addr) (m : Nat) (a b : Int), V.ref t ∈ us -> H t = some (.tup [.int (2 * (m : Int)), .int a, .int b]) -> zJ ls i a = true -> zJ ls i b = true -> zJ L i ((2 * m : Nat) : Int) = true
def uZ (R : List Rw -> List Ln -> List Ln -> Nat -> Nat -> Prop) (C : Addr) : Sp := fun vs H Q _ => ∃ (g : GAd) (rows : List Rw) (rules : List zN) (ls : List Ln) (i j : Nat), vs = [.ref g.r, .int i, .int j] /\ GrAt C H g rows rules ls /\ rows.length <= 100 /\ zJ ls i j = true /\ ∀ H', GrH C H g rows rules ls (fun L => R rows ls L i j) H' -> Q .non H'
def spGB (C : Addr) : Sp := fun vs H Q _ => ∃ (g : GAd) (rows : List Rw) (rules : List zN) (ls : List Ln) (i : Nat) (q : Addr) (us : List V), vs = [.ref g.r, .int i, .ref q] /\ GrAt C H g rows rules ls /\ rows.length <= 100 /\ i < 2 * rows.length /\ H q = some (.lst us) /\ uV g q /\ (∀ v ∈ us, Tri rows H v) /\ RowsIn rows /\ ∀ H', GrH C H g rows rules ls (fun L => RBoth H us ls L i) H' -> Q .non H'
section
variable {P : Program} {w : World} {K : PySem.W.Frag} {mg : Str -> Option Value} {base : Heap} {f : Addr} {fd : FuncData}
theorem ok_turn {C : Addr} (T : GrC K C) (h_b : HasM P w K mg base 1 C "line_of" ["self", "i", "j"] (spLo C)) (h_d : HasM P w K mg base 2 C "grow" ["self", "i", "j", "why"] (uN C)) (F : Fun K "grow_by_turn" "grow_by_turn" s_l f fd) : FnOk P w K mg base CX0 3 f fd ["growth", "i", "j"] (uZ RTurn C) := by
 refine F.ok sc_l (fun vs H Q E h => ?_) (fun cdv A outer s H vs Q E hr h => ?_)
 · obtain ⟨g, rows, rules, ls, i, j, rfl, _⟩ := h
   rfl
 obtain ⟨g, rows, rules, ls, i, j, rfl, hg, h100, hh, q⟩ := h
 have cl_Growth := T.cl
 have lk : (grF g).lookup ("grow" : Str) = none := xN g (by decide +kernel) (by decide +kernel) (by decide +kernel) (by decide +kernel)
 have lk2 : (grF g).lookup ("line_of" : Str) = none := xN g (by decide +kernel) (by decide +kernel) (by decide +kernel) (by decide +kernel)
 obtain ⟨dx, hins⟩ := hg.ins
 refine ⟨_, (zH (zT (zR h_d cl_Growth (hr.mono (by omega)) (pv 0) (zA (zK op_xor (pv 2) zE) (zA (zK op_xor (pv 1) zE) (zA (zX (zA yF (zA (zR h_b cl_Growth (hr.mono (by omega)) (pv 0) (zA (pv 1) (zA (pv 2) pa_nil))) pa_nil))) pa_nil)))))), ?_⟩
 simp! [yX]
 obtain ⟨hi, hj⟩ := hg.ok.rng hh
 refine ⟨_, _, hins, lk, _, _, hins, lk2, g, rows, rules, ls, i, j, rfl, hg, hh, fun p l H1 s1 hl h1 h2 => ⟨zM (by decide), fun p1 hp1 => ?_⟩⟩
 rw [xor1, xor1, xE, xE]
 exact jU (t := []) (Same.g s1) (by rw [List.append_nil]; exact hg.same s1) h100 (zC hp1 _) why_one (by rw [List.append_nil]; exact st_turn hi hj hl h1 h2) ow_one (fun L e h => h) fun _ H3 g3 => q _ g3
theorem ok_chain {C : Addr} (T : GrC K C) (bi : Bi mg) (h_s : Has P w K mg base 1 "bits_of" ["mask"] spBits) (h_b : HasM P w K mg base 1 C "line_of" ["self", "i", "j"] (spLo C)) (h_d : HasM P w K mg base 2 C "grow" ["self", "i", "j", "why"] (uN C)) (F : Fun K "grow_by_chain" "grow_by_chain" s_e f fd) : FnOk P w K mg base CX0 3 f fd ["growth", "i", "j"] (uZ RChain C) := by
 refine F.ok sc_e (fun vs H Q E h => ?_) (fun cdv A outer s H vs Q E hr h => ?_)
 · obtain ⟨g, rows, rules, ls, i, j, rfl, _⟩ := h
   rfl
 obtain ⟨g, rows, rules, ls, i, j, rfl, hg, h100, hh, q⟩ := h
 have cl_Growth := T.cl
 have lk : (grF g).lookup ("grow" : Str) = none := xN g (by decide +kernel) (by decide +kernel) (by decide +kernel) (by decide +kernel)
 have lk2 : (grF g).lookup ("line_of" : Str) = none := xN g (by decide +kernel) (by decide +kernel) (by decide +kernel) (by decide +kernel)
 obtain ⟨dx, hins⟩ := hg.ins
 refine ⟨_, (zD (zO (i := 3) sc_e.nd rfl (Or.inl rfl) (zR h_b cl_Growth (hr.mono (by omega)) (pv 0) (zA (pv 1) (zA (pv 2) pa_nil)))) (zD (yZ PassesOwn.never rfl (yU (zS h_s (hr.mono (by omega)) rfl (zA (zK op_and (zV ix_list (yO (pv 0) rfl) (pv 2) (fun _ _ => rfl)) (pe_un un_inv (zV ix_list (yO (pv 0) rfl) (pv 1) (fun _ _ => rfl)))) pa_nil))) (zQ (i := 4) sc_e.nd rfl (Or.inl rfl)) (zH (zT (zR h_d cl_Growth (hr.mono (by omega)) (pv 0) (zA (pv 1) (zA (pv 4) (zA (zX (zA yF (zA (pv 3) (zA (zR h_b cl_Growth (hr.mono (by omega)) (pv 0) (zA (pv 2) (zA (pv 4) pa_nil))) pa_nil)))) pa_nil))))))) (zH (yZ PassesOwn.never rfl (yU (zS h_s (hr.mono (by omega)) rfl (zA (zK op_and (zV ix_list (yO (pv 0) rfl) (pv 1) (fun _ _ => rfl)) (pe_un un_inv (zV ix_list (yO (pv 0) rfl) (pv 2) (fun _ _ => rfl)))) pa_nil))) (zQ (i := 5) sc_e.nd rfl (Or.inl rfl)) (zH (zT (zR h_d cl_Growth (hr.mono (by omega)) (pv 0) (zA (pv 5) (zA (pv 2) (zA (zX (zA yF (zA (zR h_b cl_Growth (hr.mono (by omega)) (pv 0) (zA (pv 5) (zA (pv 1) pa_nil))) (zA (pv 3) pa_nil)))) pa_nil)))))))))), ?_⟩
 refine zI fun N hN => ?_
 simp! [yX]
 obtain ⟨hi, hj⟩ := hg.ok.rng hh
 refine ⟨_, _, hins, lk2, g, rows, rules, ls, i, j, rfl, hg, hh, fun p l H1 s1 hl h1 h2 => hN _ _ ?_⟩
 clear hN
 refine yH (fun σ H' => ∃ (o1 o2 : Option V), GrH C H g rows rules ls (fun L => ∀ m : Nat, zJ ls j m = true -> zJ L i m = true) H' /\ σ = [some (V.ref g.r), some (V.int i), some (V.int j), some (V.int p), o1, o2]) (fun N hN => ?_) (fun σ H' h => ?_)
 · simp! [yX, jX]
   have hg1 := hg.same s1
   obtain ⟨dx, hins⟩ := hg1.ins
   obtain ⟨as, hab, hmk⟩ := hg1.abv
   have hil : i < as.length := by rw [hmk.len]; exact hi
   have hjl : j < as.length := by rw [hmk.len]; exact hj
   have hbit := hmk.bit j as[j] (List.getElem?_eq_getElem hjl)
   have hbx : ∀ x, as[j].testBit x = true -> x < 2 * rows.length := fun x hx => (hg.ok.rng (i := j) (by rw [← hbit x]; exact hx)).2
   obtain ⟨m, xs, em, hbm, hxs, hxa⟩ := vC (b := as[i]) fun x hx => Nat.lt_of_lt_of_le (hbx x hx) (by omega)
   have hat : ∀ {k : Nat} (hk : k < as.length), atI (as.map nV) (k : Int) = some (V.int ((as[k] : Nat) : Int)) := fun {k} hk => yL (by rw [List.getElem?_map, List.getElem?_eq_getElem hk]; rfl)
   refine ⟨_, _, _, hins, T.cl, T.nA, _, gr_a g, _, rfl, _, SqL.of hab, _, hat hjl, _, _, _, hins, T.cl, T.nA, _, gr_a g, _, rfl, _, SqL.of hab, _, hat hil, _, rfl, _, rfl, ?_⟩
   rw [em]
   refine ⟨m, xs, rfl, hbm, fun x hx => (hxs x hx).1, fun pb H2 s2 hpb0 hpb => ?_⟩
   have ho : uV g pb := hg1.out hpb0
   replace s1 := s1.trans s2
   have hg2 := hg.same s1
   refine ⟨_, rfl, ⟨_, SqL.of hpb⟩, ?_⟩
   refine xW (xs := xs.map nV) (fun k σ H' => ∃ (o1 o2 : Option V), GrH C H2 g rows rules ls (fun L => ∀ x ∈ xs.take k, zJ L i x = true) H' /\ σ = [some (V.ref g.r), some (V.int i), some (V.int j), some (V.int p), o1, o2]) ⟨_, _, GrH.refl hg2 (fun x z => by cases z), rfl⟩ (fun k σ H' _ h => ?_) (fun k x σ H' hx h => ?_) (fun σ H' h => ?_)
   · obtain ⟨_, _, h, _⟩ := h
     exact SqL.of (h.to.1.out ho hpb)
   · obtain ⟨o1, o2, ⟨gs, t, gt, hP⟩, rfl⟩ := h
     rw [List.getElem?_map] at hx
     obtain ⟨x', hx', rfl⟩ := Option.map_eq_some_iff.mp hx
     obtain ⟨_, hx2⟩ := hxs x' (List.mem_of_getElem? hx')
     have hjx : zJ ls j x' = true := by rw [← hbit x']; exact hx2
     have hx3 := hbx x' hx2
     obtain ⟨dx, hins⟩ := gt.ins
     simp! [yX]
     refine ⟨_, _, hins, lk, _, _, hins, lk2, g, rows, rules, _, j, x', rfl, gt, zL hjx, fun p' l' H4 s4 hl' h1' h2' => ⟨zM (by decide), fun p1 hp1 => ?_⟩⟩
     refine jU (gs.trans (Same.g s4)) (gt.same s4) h100 (zC hp1 _) vN (st_chain hi hx3 (by rw [List.getElem?_append_left (List.getElem?_eq_some_iff.mp hl).1]; exact hl) h1 h2 hl' h1' h2') ow_two (fun L e h x hx9 => ?_) fun _ H3 g3 => ⟨g3, _, rfl⟩
     obtain ⟨hkl, hke⟩ := List.getElem?_eq_some_iff.mp hx'
     rw [List.take_succ_eq_append_getElem hkl, hke] at hx9
     rcases List.mem_append.mp hx9 with hx9 | hx9
     · exact e.has (hP x hx9)
     · rw [List.mem_singleton.mp hx9]; exact h
   · obtain ⟨o1, o2, h, rfl⟩ := h
     obtain ⟨h1', t, h2', h3'⟩ := h
     rw [List.length_map, List.take_of_length_le (Nat.le_refl _)] at h3'
     refine hN _ _ ⟨_, _, GrH.pre s1 ⟨h1', t, h2', fun m hm => ?_⟩, rfl⟩
     rw [← hbit m] at hm
     rcases hxa m hm with z | z
     · exact h3' m z
     · rw [hmk.bit i as[i] (List.getElem?_eq_getElem hil)] at z
       exact zL z
 obtain ⟨o1, o2, ⟨gs, t, gt, hP1⟩, rfl⟩ := h
 have hl0 : (ls ++ t)[p]? = some l := by rw [List.getElem?_append_left (List.getElem?_eq_some_iff.mp hl).1]; exact hl
 have hh0 : zJ (ls ++ t) i j = true := zL hh
 simp! [yX, jX]
 obtain ⟨dx, hins⟩ := gt.ins
 obtain ⟨as, hab, hmk⟩ := gt.blw
 have hil : i < as.length := by rw [hmk.len]; exact hi
 have hjl : j < as.length := by rw [hmk.len]; exact hj
 have hbit := hmk.bit i as[i] (List.getElem?_eq_getElem hil)
 have hbx : ∀ x, as[i].testBit x = true -> x < 2 * rows.length := fun x hx => (gt.ok.rng (j := i) (by rw [← hbit x]; exact hx)).1
 obtain ⟨m, xs, em, hbm, hxs, hxa⟩ := vC (b := as[j]) fun x hx => Nat.lt_of_lt_of_le (hbx x hx) (by omega)
 have hat : ∀ {k : Nat} (hk : k < as.length), atI (as.map nV) (k : Int) = some (V.int ((as[k] : Nat) : Int)) := fun {k} hk => yL (by rw [List.getElem?_map, List.getElem?_eq_getElem hk]; rfl)
 refine ⟨_, _, _, hins, T.cl, T.nB, _, gr_b g, _, rfl, _, SqL.of hab, _, hat hil, _, _, _, hins, T.cl, T.nB, _, gr_b g, _, rfl, _, SqL.of hab, _, hat hjl, _, rfl, _, rfl, ?_⟩
 rw [em]
 refine ⟨m, xs, rfl, hbm, fun x hx => (hxs x hx).1, fun pb H2 s2 hpb0 hpb => ?_⟩
 have ho : uV g pb := gt.out hpb0
 have hg2 := gt.same s2
 replace gs := gs.trans (Same.g s2)
 refine ⟨_, rfl, ⟨_, SqL.of hpb⟩, ?_⟩
 refine xW (xs := xs.map nV) (fun k σ H' => ∃ (o1 o2 : Option V), GrH C H2 g rows rules (ls ++ t) (fun L => ∀ x ∈ xs.take k, zJ L x j = true) H' /\ σ = [some (V.ref g.r), some (V.int i), some (V.int j), some (V.int p), o1, o2]) ⟨_, _, GrH.refl hg2 (fun x z => by cases z), rfl⟩ (fun k σ H' _ h => ?_) (fun k x σ H' hx h => ?_) (fun σ H' h => ?_)
 · obtain ⟨_, _, h, _⟩ := h
   exact SqL.of (h.to.1.out ho hpb)
 · obtain ⟨o1, o2, ⟨gs', t', gt', hP⟩, rfl⟩ := h
   rw [List.getElem?_map] at hx
   obtain ⟨x', hx', rfl⟩ := Option.map_eq_some_iff.mp hx
   obtain ⟨_, hx2⟩ := hxs x' (List.mem_of_getElem? hx')
   have hjx : zJ (ls ++ t) x' i = true := by rw [← hbit x']; exact hx2
   have hx3 := hbx x' hx2
   obtain ⟨dx, hins⟩ := gt'.ins
   simp! [yX]
   refine ⟨_, _, hins, lk, _, _, hins, lk2, g, rows, rules, _, x', i, rfl, gt', zL hjx, fun p' l' H4 s4 hl' h1' h2' => ⟨zM (by decide), fun p1 hp1 => ?_⟩⟩
   refine jU (gs'.trans (Same.g s4)) (gt'.same s4) h100 (zC hp1 _) vN (st_chain hx3 hj hl' h1' h2' (by rw [List.getElem?_append_left (List.getElem?_eq_some_iff.mp hl0).1]; exact hl0) h1 h2) ow_two (fun L e h x hx9 => ?_) fun _ H3 g3 => ⟨g3, _, rfl⟩
   obtain ⟨hkl, hke⟩ := List.getElem?_eq_some_iff.mp hx'
   rw [List.take_succ_eq_append_getElem hkl, hke] at hx9
   rcases List.mem_append.mp hx9 with hx9 | hx9
   · exact e.has (hP x hx9)
   · rw [List.mem_singleton.mp hx9]; exact h
 · obtain ⟨o1, o2, h, rfl⟩ := h
   refine q _ (GrH.then gs h fun L e hL => ⟨fun m hm => e.has (hP1 m hm), fun h0 hh0 => ?_⟩)
   rw [List.length_map, List.take_of_length_le (Nat.le_refl _)] at hL
   have hm : as[i].testBit h0 = true := by rw [hbit h0]; exact zL hh0
   rcases hxa h0 hm with z | z
   · exact hL h0 z
   · rw [hmk.bit j as[j] (List.getElem?_eq_getElem hjl)] at z
     exact e.has z
theorem ok_both {C : Addr} (T : GrC K C) (h_b : HasM P w K mg base 1 C "line_of" ["self", "i", "j"] (spLo C)) (h_m : HasM P w K mg base 1 C "has" ["self", "i", "j"] (spHs C)) (h_d : HasM P w K mg base 2 C "grow" ["self", "i", "j", "why"] (uN C)) (F : Fun K "grow_by_both" "grow_by_both" s_i f fd) : FnOk P w K mg base CX0 3 f fd ["growth", "i", "boths"] (spGB C) := by
 refine F.ok sc_i (fun vs H Q E h => ?_) (fun cdv A outer s H vs Q E hr h => ?_)
 · obtain ⟨g, rows, rules, ls, i, qa, us, rfl, _⟩ := h
   rfl
 obtain ⟨g, rows, rules, ls, i, qa, us, rfl, hg, h100, hi, hqa, hout, htr, hin, q⟩ := h
 have cl_Growth := T.cl
 have lk : (grF g).lookup ("grow" : Str) = none := xN g (by decide +kernel) (by decide +kernel) (by decide +kernel) (by decide +kernel)
 have lk2 : (grF g).lookup ("line_of" : Str) = none := xN g (by decide +kernel) (by decide +kernel) (by decide +kernel) (by decide +kernel)
 have lk3 : (grF g).lookup ("has" : Str) = none := xN g (by decide +kernel) (by decide +kernel) (by decide +kernel) (by decide +kernel)
 refine ⟨_, (zH (yZ PassesOwn.never rfl (yU (pv 2)) (uE rfl (yI (zQ (i := 3) sc_i.nd rfl (Or.inl rfl)) (yI (zQ (i := 4) sc_i.nd rfl (Or.inl rfl)) (yI (zQ (i := 5) sc_i.nd rfl (Or.inl rfl)) pgs_nil)))) (zH (xD (PW.pt (uB (uC (zR h_m cl_Growth (hr.mono (by omega)) (pv 0) (zA (pv 1) (zA (pv 4) pa_nil)))) (qS (uC (zR h_m cl_Growth (hr.mono (by omega)) (pv 0) (zA (pv 1) (zA (pv 5) pa_nil))))))) (zH (zT (zR h_d cl_Growth (hr.mono (by omega)) (pv 0) (zA (pv 1) (zA (pv 3) (zA (zX (zA yF (zA (zR h_b cl_Growth (hr.mono (by omega)) (pv 0) (zA (pv 1) (zA (pv 4) pa_nil))) (zA (zR h_b cl_Growth (hr.mono (by omega)) (pv 0) (zA (pv 1) (zA (pv 5) pa_nil))) pa_nil)))) pa_nil)))))) pss_nil)))), ?_⟩
 simp! [yX]
 refine ⟨⟨_, SqL.of hqa⟩, ?_⟩
 refine xW (xs := us) (fun k σ H' => ∃ (o1 o2 o3 : Option V), GrH C H g rows rules ls (fun L => RBoth H (us.take k) ls L i) H' /\ σ = [some (V.ref g.r), some (V.int i), some (V.ref qa), o1, o2, o3]) ⟨_, _, _, GrH.refl hg (fun t m a b z => by cases z), rfl⟩ (fun k σ H' _ h => ?_) (fun k x σ H' hx h => ?_) (fun σ H' h => ?_)
 · obtain ⟨_, _, _, h, _⟩ := h
   exact SqL.of (h.to.1.out hout hqa)
 · obtain ⟨o1, o2, o3, hgt, rfl⟩ := h
   obtain ⟨xa, k', a, b, rfl, hxa, hrk⟩ := htr x (List.mem_of_getElem? hx)
   obtain ⟨⟨b1, b2⟩, b3, b4⟩ := hin k' a b hrk
   have hxa' := hg.tups hgt.to.1 _ _ hxa
   simp! [gTup, uI, gNil, yX]
   obtain ⟨gs, t, gt, hP⟩ := hgt
   have nxt : ∀ {L : List Ln}, Le (ls ++ t) L -> (zJ ls i a = true -> zJ ls i b = true -> zJ L i ((2 * k' : Nat) : Int) = true) -> RBoth H (us.take (k + 1)) ls L i := fun {L} e hL t0 m a0 b0 hm ht0 ha0 hb0 => by
     obtain ⟨hkl, hke⟩ := List.getElem?_eq_some_iff.mp hx
     rw [List.take_succ_eq_append_getElem hkl, hke] at hm
     rcases List.mem_append.mp hm with hm | hm
     · exact e.has (hP t0 m a0 b0 hm ht0 ha0 hb0)
     · have e1 := V.ref.inj (List.mem_singleton.mp hm)
       subst e1
       rw [hxa] at ht0
       have e2 := HO.tup.inj (Option.some.inj ht0)
       injection e2 with e3 e4
       injection e4 with e5 e6
       injection e6 with e7 _
       have e3 := V.int.inj e3
       have e5 := V.int.inj e5
       have e7 := V.int.inj e7
       subst e5 e7
       rw [show m = k' by omega]
       exact hL ha0 hb0
   obtain ⟨dx, hins⟩ := gt.ins
   refine ⟨_, SqT.of hxa', rfl, _, _, rfl, _, _, rfl, _, _, rfl, rfl, _, _, hins, lk3, g, rows, rules, _, i, a, rfl, gt, fun H1 s1 => ⟨_, rfl, ?_⟩⟩
   have ge1 : zJ (ls ++ t) i a = false -> GrH C H g rows rules ls (fun L => RBoth H (us.take (k + 1)) ls L i) H1 := fun z => ⟨gs.trans (Same.g s1), t, gt.same s1, nxt (Le.refl _) (fun ha _ => by rw [zL ha] at z; cases z)⟩
   by_cases c1 : zJ (ls ++ t) i a = true
   · rw [if_pos c1]
     replace gs := gs.trans (Same.g s1)
     replace gt := gt.same s1
     obtain ⟨dx, hins⟩ := gt.ins
     refine ⟨_, _, hins, lk3, g, rows, rules, _, i, b, rfl, gt, fun H2 s2 => ⟨_, rfl, ?_⟩⟩
     replace gs := gs.trans (Same.g s2)
     replace gt := gt.same s2
     by_cases c2 : zJ (ls ++ t) i b = true
     · rw [if_pos c2]
       obtain ⟨dx, hins⟩ := gt.ins
       have hk1 : k' < rows.length := (List.getElem?_eq_some_iff.mp hrk).1
       have e2 : (2 : Int) * (k' : Int) = ((2 * k' : Nat) : Int) := by omega
       have hpt : jB rows ((2 * k' : Nat) : Int) = [a, b] := qC (r := .bo a b) (by omega) (by rw [show (((2 * k' : Nat) : Int) / 2).toNat = k' by omega]; exact hrk)
       refine ⟨_, _, hins, lk, _, _, hins, lk2, g, rows, rules, _, i, a, rfl, gt, c1, fun p l H3 s3 hl h1 h2 => ?_⟩
       replace gs := gs.trans (Same.g s3)
       replace gt := gt.same s3
       obtain ⟨dx, hins⟩ := gt.ins
       refine ⟨_, _, hins, lk2, g, rows, rules, _, i, b, rfl, gt, c2, fun p' l' H4 s4 hl' h1' h2' => ⟨zM (by decide), fun p1 hp1 => ?_⟩⟩
       rw [e2]
       exact jU (gs.trans (Same.g s4)) (gt.same s4) h100 (zC hp1 _) vN (st_both hi (by omega) hpt hl h1 h2 hl' h1' h2') ow_two (fun L e h => nxt e fun _ _ => h) fun _ H3 g3 => ⟨g3, _, rfl⟩
     · rw [if_neg c2]
       exact ⟨⟨gs, t, gt, nxt (Le.refl _) (fun _ hb => absurd (zL hb) c2)⟩, _, rfl⟩
   · rw [if_neg c1]
     exact ⟨ge1 (Bool.eq_false_iff.mpr c1), _, rfl⟩
 · obtain ⟨_, _, _, h, rfl⟩ := h
   rw [List.take_of_length_le (Nat.le_refl _)] at h
   exact q _ h
theorem ok_clash {C : Addr} (T : GrC K C) (bi : Bi mg) (h_b : HasM P w K mg base 1 C "line_of" ["self", "i", "j"] (spLo C)) (h_d : HasM P w K mg base 2 C "grow" ["self", "i", "j", "why"] (uN C)) (F : Fun K "grow_by_clash" "grow_by_clash" s_g f fd) : FnOk P w K mg base CX0 3 f fd ["growth", "i", "j"] (uZ RClash C) := by
 refine F.ok sc_g (fun vs H Q E h => ?_) (fun cdv A outer s H vs Q E hr h => ?_)
 · obtain ⟨g, rows, rules, ls, i, j, rfl, _⟩ := h
   rfl
 obtain ⟨g, rows, rules, ls, i, j, rfl, hg, h100, hh, q⟩ := h
 have cl_Growth := T.cl
 have lk : (grF g).lookup ("grow" : Str) = none := xN g (by decide +kernel) (by decide +kernel) (by decide +kernel) (by decide +kernel)
 have lk2 : (grF g).lookup ("line_of" : Str) = none := xN g (by decide +kernel) (by decide +kernel) (by decide +kernel) (by decide +kernel)
 obtain ⟨dx, hins⟩ := hg.ins
 refine ⟨_, (zH (xD (yC op_eq (pv 2) (zK op_xor (pv 1) zE) (yP _)) (zH (yZ PassesOwn.never rfl (xS rfl bi.range (zA (zP call_len rfl bi.len bt_len (zA (yO (pv 0) rfl) pa_nil)) pa_nil)) (zQ (i := 3) sc_g.nd rfl (Or.inl rfl)) (zH (zT (zR h_d cl_Growth (hr.mono (by omega)) (pv 0) (zA (pv 1) (zA (pv 3) (zA (zX (zA yF (zA (zR h_b cl_Growth (hr.mono (by omega)) (pv 0) (zA (pv 1) (zA (pv 2) pa_nil))) pa_nil))) pa_nil)))))))) pss_nil)), ?_⟩
 simp! [yX, jX]
 refine ⟨rfl, ?_⟩
 obtain ⟨hi, hj⟩ := hg.ok.rng hh
 by_cases e : (j : Int) = Builtin.bitXor (i : Int) 1
 · rw [if_pos e]
   rw [xor1] at e
   obtain ⟨as, hab, hmk⟩ := hg.abv
   refine ⟨_, _, _, hins, T.cl, T.nA, _, gr_a g, as.length, .inl ⟨_, SqL.of hab, by simp⟩, by omega, by have := hmk.len; omega, ?_⟩
   refine qF (n := (as.length : Int).toNat) (fun k σ H' => ∃ (o1 : Option V), GrH C H g rows rules ls (fun L => ∀ n : Nat, n < k -> zJ L i n = true) H' /\ σ = [some (V.ref g.r), some (V.int i), some (V.int j), o1]) ⟨_, GrH.refl hg (fun n z => by omega), rfl⟩ (fun k σ H' hk h => ?_) (fun σ H' h => ?_)
   · obtain ⟨o1, ⟨gs, t, gt, hP⟩, rfl⟩ := h
     have hk' : k < 2 * rows.length := by have := hmk.len; omega
     have e0 : (0 : Int) + (k : Int) = ((k : Nat) : Int) := by omega
     obtain ⟨dx, hins⟩ := gt.ins
     simp! [yX]
     rw [e0]
     refine ⟨_, _, hins, lk, _, _, hins, lk2, g, rows, rules, _, i, j, rfl, gt, zL hh, fun p l H1 s1 hl h1 h2 => ⟨zM (by decide), fun p1 hp1 => ?_⟩⟩
     refine jU (gs.trans (Same.g s1)) (gt.same s1) h100 (zC hp1 _) why_one (st_clash hi hk' e hl h1 h2) ow_one (fun L e h n hn => ?_) fun _ H3 g3 => ⟨g3, _, rfl⟩
     rcases Nat.lt_or_eq_of_le (Nat.le_of_lt_succ hn) with z | z
     · exact e.has (hP n z)
     · rw [z]; exact h
   · obtain ⟨_, ⟨h1, t, h2, h3⟩, rfl⟩ := h
     exact q _ ⟨h1, t, h2, fun _ n hn => h3 n (by have := hmk.len; omega)⟩
 · rw [if_neg e]
   exact q _ (GrH.refl hg fun z => absurd (by rw [xor1]; exact z) e)
end
abbrev s_h : Stmt := top 14
theorem sc_h : FnScope ["growth", "rules", "r", "premises", "pair", "lines"] ["growth", "rules", "r"] (zG s_h) := ⟨rfl, rfl, rfl, by decide +kernel, rfl, by decide +kernel, by decide +kernel⟩
theorem st_rule {rows : List Rw} {rules : List zN} {ls : List Ln} {i j r : Nat} {q : zN} {ps : List Int} (hi : i < 2 * rows.length) (hj : j < 2 * rows.length) (hr : rules[r]? = some q) (hq : q.2 = ((i : Int), (j : Int))) (hp : (ps.map fun p => yY ls ls.length (.n p)) = q.1.map some) : yR rows rules ls ls.length ⟨i, j, "rule", [.n r, .ps ps]⟩ = true := by
 have hrl := (List.getElem?_eq_some_iff.mp hr).1
 unfold yR
 rw [if_neg (by
   intro z
   rcases z with z | z
   · exact z ⟨by show (0 : Int) <= (i : Int); omega, by show (i : Int) < _; omega⟩
   · exact z ⟨by show (0 : Int) <= (j : Int); omega, by show (j : Int) < _; omega⟩), if_pos rfl, rul_eq rfl, if_pos ⟨by omega, by omega⟩, Int.toNat_natCast, hr]
 show (((i : Int), (j : Int)) == q.2 && _ == _) = true
 rw [hq, hp, Bool.and_eq_true]
 exact ⟨beq_self_eq_true _, beq_self_eq_true _⟩
def InR (rows : List Rw) (q : zN) : Prop := (0 <= q.2.1 /\ q.2.1 < 2 * (rows.length : Int)) /\ (0 <= q.2.2 /\ q.2.2 < 2 * (rows.length : Int))
def RRule (rows : List Rw) (rules : List zN) (ls L : List Ln) (r : Nat) : Prop := ∀ q : zN, rules[r]? = some q -> InR rows q -> (∀ p ∈ q.1, zJ ls p.1 p.2 = true) -> zJ L q.2.1 q.2.2 = true
def spGR (C : Addr) : Sp := fun vs H Q _ => ∃ (g : GAd) (rows : List Rw) (rules : List zN) (ls : List Ln) (ra : Addr) (us : List V) (r : Nat), vs = [.ref g.r, .ref ra, .int r] /\ GrAt C H g rows rules ls /\ rows.length <= 100 /\ H ra = some (.lst us) /\ DAts H (rules.map dNR) us /\ r < rules.length /\ (∀ r ∈ rules, r.1.length <= 100) /\ ∀ H', GrH C H g rows rules ls (fun L => RRule rows rules ls L r) H' -> Q .non H'
section
variable {P : Program} {w : World} {K : PySem.W.Frag} {mg : Str -> Option Value} {base : Heap} {f : Addr} {fd : FuncData}
theorem ok_rule {C : Addr} (T : GrC K C) (bi : Bi mg) (h_q : Has P w K mg base 2 "is_below" ["n", "bound"] spBel) (h_b : HasM P w K mg base 1 C "line_of" ["self", "i", "j"] (spLo C)) (h_m : HasM P w K mg base 1 C "has" ["self", "i", "j"] (spHs C)) (h_d : HasM P w K mg base 2 C "grow" ["self", "i", "j", "why"] (uN C)) (F : Fun K "grow_by_rule" "grow_by_rule" s_h f fd) : FnOk P w K mg base CX0 3 f fd ["growth", "rules", "r"] (spGR C) := by
 refine F.ok sc_h (fun vs H Q E h => ?_) (fun cdv A outer s H vs Q E hr h => ?_)
 · obtain ⟨g, rows, rules, ls, ra, us, r, rfl, _⟩ := h
   rfl
 obtain ⟨g, rows, rules, ls, ra, us, r, rfl, hg, h100, hra, hru, hrl, hpr, q⟩ := h
 have hul := yQ hru
 have cl_Growth := T.cl
 have lk : (grF g).lookup ("grow" : Str) = none := xN g (by decide +kernel) (by decide +kernel) (by decide +kernel) (by decide +kernel)
 have lk2 : (grF g).lookup ("line_of" : Str) = none := xN g (by decide +kernel) (by decide +kernel) (by decide +kernel) (by decide +kernel)
 have lk3 : (grF g).lookup ("has" : Str) = none := xN g (by decide +kernel) (by decide +kernel) (by decide +kernel) (by decide +kernel)
 obtain ⟨dx, hins⟩ := hg.ins
 have hr1 : rules[r]? = some rules[r] := List.getElem?_eq_getElem hrl
 have hq1 := hpr _ (List.getElem_mem hrl)
 generalize rules[r] = nr at hr1 hq1
 obtain ⟨rv, hrv, hrd⟩ := DAts.get (d := dNR nr) hru (by rw [List.getElem?_map, hr1]; rfl)
 obtain ⟨xa, xl, xb, ps, rfl, hxa, hxl, hps, hxb⟩ := nrAt hrd
 have hpl := yQ hps
 refine ⟨_, (zD (zO (i := 3) sc_h.nd rfl (Or.inl rfl) (zV ix_tup (zV ix_list (pv 1) (pv 2) (fun _ _ => rfl)) zE (fun _ _ => rfl))) (zD (zO (i := 4) sc_h.nd rfl (Or.inl rfl) (zV ix_tup (zV ix_list (pv 1) (pv 2) (fun _ _ => rfl)) zE (fun _ _ => rfl))) (zD (xD (pt_not (uC (zP call_all rfl bi.all bt_all (zA (jL ["n"] ["growth"] [0] (pi_tup (pv 4)) (fun _ _ _ _ nd => zQ (i := 0) nd rfl (Or.inl rfl)) (fun _ _ _ _ => xV) (fun _ _ _ _ => (zS h_q (hr.mono (by omega)) rfl (zA (pv 0) (zA (zP (call_lenK K) rfl bi.len bt_len (zA (pe_fldK K (pv 1) rfl) pa_nil)) pa_nil))))) pa_nil)))) (zH ps_retN) pss_nil) (zH (xD (uC (zP call_all rfl bi.all bt_all (zA (jL ["i", "j"] ["growth"] [0] (yU (pv 3)) (fun _ _ _ _ nd => pg_tupK (K := K) (n := 2) rfl (yI (zQ (i := 0) nd rfl (Or.inl rfl)) (yI (zQ (i := 1) nd rfl (Or.inl rfl)) pgs_nil))) (fun _ _ _ _ => xV) (fun _ _ _ _ => (zR h_m cl_Growth (hr.mono (by omega)) (pv 2) (zA (pv 0) (zA (pv 1) pa_nil))))) pa_nil))) (zD (zO (i := 5) sc_h.nd rfl (Or.inl rfl) (qG call_tuple_of rfl bi.tuple bt_tuple (zA (jL ["i", "j"] ["growth"] [0] (yU (pv 3)) (fun _ _ _ _ nd => pg_tupK (K := K) (n := 2) rfl (yI (zQ (i := 0) nd rfl (Or.inl rfl)) (yI (zQ (i := 1) nd rfl (Or.inl rfl)) pgs_nil))) (fun _ _ _ _ => xV) (fun _ _ _ _ => (zR h_b cl_Growth (hr.mono (by omega)) (pv 2) (zA (pv 0) (zA (pv 1) pa_nil))))) pa_nil))) (zH (zT (zR h_d cl_Growth (hr.mono (by omega)) (pv 0) (zA (zV ix_tup (pv 4) zE (fun _ _ => rfl)) (zA (zV ix_tup (pv 4) zE (fun _ _ => rfl)) (zA (zX (zA yF (zA (pv 2) (zA (pv 5) pa_nil)))) pa_nil))))))) pss_nil))))), ?_⟩
 refine zI fun N hN => ?_
 simp! []
 refine ⟨_, SqL.of hra, _, yL hrv, xa, rfl, _, SqT.of hxa, _, at0, hN _ _ ?_⟩
 clear hN
 refine zI fun N hN => ?_
 simp! []
 refine ⟨_, SqL.of hra, _, yL hrv, xa, rfl, _, SqT.of hxa, _, at1, hN _ _ ?_⟩
 clear hN
 obtain ⟨as, hab, hmk⟩ := hg.abv
 have hlen := hmk.len
 refine zI fun N hN => ?_
 simp! []
 refine ⟨⟨_, SqT.of hxb⟩, ?_⟩
 refine lc_tup (xs := [.int nr.2.1, .int nr.2.2]) (fun i ys σ H' => Same H H' /\ ys = (([nr.2.1, nr.2.2].take i).map fun x => uU as.length (.n x)).map V.bl /\ ∃ o, σ = [o, some (V.ref g.r)]) ⟨Same.refl _, rfl, _, rfl⟩ (zM (by simp)) (fun i ys σ H' e => ?_) (fun i ys σ H' e => SqT.of (e.1 _ _ hxb)) (fun i x ys σ H' D hx e hD => ?_) (fun ys σ H' e p hp => ?_)
 · obtain ⟨_, rfl, _⟩ := e
   rw [List.length_map, List.length_map, List.length_take]
   omega
 · obtain ⟨es, rfl, o, rfl⟩ := e
   have hg' := hg.same es
   obtain ⟨dx, hins⟩ := hg'.ins
   have hx' : ∃ n, x = V.int n /\ [nr.2.1, nr.2.2][i]? = some n := by
     match i, hx with
     | 0, hx => cases hx; exact ⟨_, rfl, rfl⟩
     | 1, hx => cases hx; exact ⟨_, rfl, rfl⟩
   obtain ⟨n, rfl, hn⟩ := hx'
   obtain ⟨hil, hn2⟩ := List.getElem?_eq_some_iff.mp hn
   simp! [jX, spBel]
   refine ⟨C, dx, _, hins, T.cl, T.nA, _, gr_a g, as.length, .inl ⟨_, SqL.of (es _ _ hab), by simp⟩, .n n, rfl, hD _ _ _ ⟨es, ?_, _, rfl⟩⟩
   rw [List.take_succ_eq_append_getElem hil, hn2, List.map_append, List.map_append]
   rfl
 obtain ⟨es, rfl, o, rfl⟩ := e
 refine ⟨p, rfl, _, SqL.of zB, ?_⟩
 have s1 := es.trans (zC hp (.lst ((([nr.2.1, nr.2.2].take 2).map fun x => uU as.length (.n x)).map V.bl)))
 change (if ([uU as.length (.n nr.2.1), uU as.length (.n nr.2.2)].all id) = false then Q V.non (upd H' p (.lst ((([nr.2.1, nr.2.2].take 2).map fun x => uU as.length (.n x)).map V.bl))) else N _ (upd H' p (.lst ((([nr.2.1, nr.2.2].take 2).map fun x => uU as.length (.n x)).map V.bl))))
 generalize upd H' p (.lst ((([nr.2.1, nr.2.2].take 2).map fun x => uU as.length (.n x)).map V.bl)) = H1 at s1 ⊢
 clear hp es hins
 have hg1 := hg.same s1
 by_cases hB : (0 <= nr.2.1 /\ nr.2.1 < 2 * (rows.length : Int)) /\ (0 <= nr.2.2 /\ nr.2.2 < 2 * (rows.length : Int))
 case neg =>
   rw [if_pos]
   · exact q _ ((GrH.refl hg (fun q' hq' hr' _ => by rw [hr1] at hq'; cases hq'; exact absurd hr' hB)).same s1)
   · rw [Bool.eq_false_iff]
     intro z
     simp [uU] at z
     exact hB (by omega)
 rw [if_neg (by simp [uU]; omega)]
 refine hN _ _ ?_
 clear hN
 obtain ⟨⟨b1, b2⟩, b3, b4⟩ := hB
 obtain ⟨i, hi⟩ := Int.eq_ofNat_of_zero_le b1
 obtain ⟨j, hj⟩ := Int.eq_ofNat_of_zero_le b3
 have hps1 := DAts.same s1 hps
 have hxl1 := s1 _ _ hxl
 have hxb1 := s1 _ _ hxb
 clear hab hmk hlen
 simp! []
 refine ⟨⟨_, SqL.of hxl1⟩, ?_⟩
 refine qE (xs := ps) (fun k ys σ H' => Same H1 H' /\ ys = ((nr.1.take k).map fun x => zJ ls x.1 x.2).map V.bl /\ ∃ o1 o2, σ = [o1, o2, some (V.ref g.r)]) ⟨Same.refl _, rfl, _, _, rfl⟩ (zM (by omega)) (fun k ys σ H' e => ?_) (fun i ys σ H' e => SqL.of (e.1 _ _ hxl1)) (fun k x ys σ H' D hx e hD => ?_) (fun ys σ H' e p hp => ?_)
 · obtain ⟨_, rfl, _⟩ := e
   rw [List.length_map, List.length_map, List.length_take]
   omega
 · obtain ⟨es, rfl, o1, o2, rfl⟩ := e
   have hg' := hg1.same es
   obtain ⟨dx, hins⟩ := hg'.ins
   obtain ⟨pr, hpk, hpx⟩ := xG hps1 hx
   obtain ⟨xp, rfl, hxp⟩ := prAt hpx
   replace hxp := es _ _ hxp
   obtain ⟨hkl, hk2⟩ := List.getElem?_eq_some_iff.mp hpk
   simp! [gTup, uI, gNil, yX]
   refine ⟨_, SqT.of hxp, rfl, _, _, rfl, _, _, rfl, rfl, _, _, hins, lk3, g, rows, rules, ls, _, _, rfl, hg', fun H3 s3 => hD _ _ _ ⟨es.trans s3, ?_, _, _, rfl⟩⟩
   rw [List.take_succ_eq_append_getElem hkl, hk2, List.map_append, List.map_append]
   rfl
 obtain ⟨es, rfl, o1, o2, rfl⟩ := e
 refine ⟨p, rfl, _, SqL.of zB, ?_⟩
 rw [List.take_of_length_le (by omega)]
 have s2 := es.trans (zC hp (.lst ((nr.1.map fun x => zJ ls x.1 x.2).map V.bl)))
 generalize upd H' p (.lst ((nr.1.map fun x => zJ ls x.1 x.2).map V.bl)) = H2 at s2 ⊢
 clear hp es
 have hg2 := hg1.same s2
 replace hxl1 := s2 _ _ hxl1
 replace hxb1 := s2 _ _ hxb1
 replace hps1 := DAts.same s2 hps1
 by_cases hA : (nr.1.map fun x => zJ ls x.1 x.2).all id = true
 case neg =>
   rw [if_neg hA]
   exact q _ ((GrH.refl hg (fun q' hq' _ hp' => absurd (by rw [hr1] at hq'; cases hq'; rw [List.all_map, List.all_eq_true]; exact fun p hp => hp' p hp) hA)).same (s1.trans s2))
 rw [if_pos hA]
 rw [List.all_map, List.all_eq_true] at hA
 refine ⟨⟨_, SqL.of hxl1⟩, ?_⟩
 refine qE (xs := ps) (fun k ys σ H' => Same H2 H' /\ (∃ ns : List Int, ys = ns.map V.int /\ ns.length = k /\ (ns.map fun p => yY ls ls.length (.n p)) = (nr.1.take k).map some) /\ ∃ o1 o2, σ = [o1, o2, some (V.ref g.r)]) ⟨Same.refl _, ⟨[], rfl, rfl, rfl⟩, _, _, rfl⟩ (zM (by omega)) (fun k ys σ H' e => ?_) (fun i ys σ H' e => SqL.of (e.1 _ _ hxl1)) (fun k x ys σ H' D hx e hD => ?_) (fun ys σ H' e p hp => ?_)
 · obtain ⟨_, ⟨ns, rfl, hl, _⟩, _⟩ := e
   rw [List.length_map]
   omega
 · obtain ⟨es, ⟨ns, rfl, hl, hns⟩, o1, o2, rfl⟩ := e
   have hg' := hg2.same es
   obtain ⟨dx, hins⟩ := hg'.ins
   obtain ⟨pr, hpk, hpx⟩ := xG hps1 hx
   obtain ⟨xp, rfl, hxp⟩ := prAt hpx
   replace hxp := es _ _ hxp
   obtain ⟨hkl, hk2⟩ := List.getElem?_eq_some_iff.mp hpk
   simp! [gTup, uI, gNil, yX]
   refine ⟨_, SqT.of hxp, rfl, _, _, rfl, _, _, rfl, rfl, _, _, hins, lk2, g, rows, rules, ls, _, _, rfl, hg', hA pr (List.mem_of_getElem? hpk), fun p l H3 s3 hl1 h1 h2 => hD _ _ _ ⟨es.trans s3, ⟨ns ++ [(p : Int)], by rw [List.map_append]; rfl, by simp [hl], ?_⟩, _, _, rfl⟩⟩
   rw [List.take_succ_eq_append_getElem hkl, hk2, List.map_append, List.map_append, hns]
   show _ ++ [yY ls ls.length (.n (p : Int))] = _
   rw [xU hl1, h1, h2]
   rfl
 obtain ⟨es, ⟨ns, rfl, hl, hns⟩, o1, o2, rfl⟩ := e
 rw [List.take_of_length_le (by omega)] at hns
 refine ⟨p, rfl, _, .inl ⟨SqL.of zB, fun l hl' => ?_⟩⟩
 have s3 := (es.trans (zC hp (.lst (ns.map V.int)))).trans (zC hl' (.tup (ns.map V.int)))
 have kl : upd (upd H' p (.lst (ns.map V.int))) l (.tup (ns.map V.int)) l = some (.tup (ns.map V.int)) := zB
 generalize upd (upd H' p (.lst (ns.map V.int))) l (.tup (ns.map V.int)) = H3 at s3 kl ⊢
 replace hxb1 := s3 _ _ hxb1
 have hg3 := hg2.same s3
 obtain ⟨dx, hins⟩ := hg3.ins
 simp! [yX]
 refine ⟨_, _, hins, lk, _, SqT.of hxb1, _, at0, _, SqT.of hxb1, _, at1, zM (by decide), fun p2 hp2 => ?_⟩
 rw [hi, hj]
 refine jU (t := []) (Same.g ((s1.trans s2).trans s3)) (by rw [List.append_nil]; exact hg3) h100 (zC hp2 _) (x := "rule") (as := [.n r, .ps ns]) ⟨p2, _, rfl, zB, _, _, rfl, rfl, _, _, rfl, rfl, _, _, rfl, atPs (zC hp2 _ _ _ kl), rfl⟩ ?_ ⟨by simp, fun ps' h => ?_⟩ (fun L e h q' hq' _ _ => by rw [hr1] at hq'; cases hq'; rw [hi, hj]; exact h) fun _ H4 g4 => q _ g4
 · rw [List.append_nil]
   exact st_rule (by omega) (by omega) hr1 (Prod.ext hi hj) hns
 · simp at h
   subst h
   omega
end
abbrev s_p : Stmt := top 15
theorem sc_p : FnScope ["sheet", "rules", "growth", "boths", "waiting", "r", "k", "i", "j"] ["sheet", "rules"] (zG s_p) := ⟨rfl, rfl, rfl, by decide +kernel, rfl, by decide +kernel, by decide +kernel⟩
theorem Le.back {L L' : List Ln} (e : Le L L') {a : Nat} {l : Ln} (ha : a < L.length) (h : L'[a]? = some l) : L[a]? = some l := by
 obtain ⟨t, rfl⟩ := e
 rw [List.getElem?_append_left ha] at h
 exact h
structure Cl (rows : List Rw) (rules : List zN) (k : Nat) (L : List Ln) : Prop where
 turn : ∀ (a : Nat) (l : Ln) (i j : Nat), a < k -> L[a]? = some l -> l.i = i -> l.j = j -> zJ L ((tnN j : Nat) : Int) ((tnN i : Nat) : Int) = true
 clash : ∀ (a : Nat) (l : Ln) (i j : Nat), a < k -> L[a]? = some l -> l.i = i -> l.j = j -> (j : Int) = tn1 i -> ∀ n : Nat, n < 2 * rows.length -> zJ L i n = true
 chain : ∀ (a b : Nat) (l l' : Ln) (i j m : Nat), a < k -> b < k -> L[a]? = some l -> L[b]? = some l' -> l.i = i -> l.j = j -> l'.i = j -> l'.j = m -> zJ L i m = true
 both : ∀ (a b : Nat) (l l' : Ln) (i n : Nat) (x y : Int), a < k -> b < k -> L[a]? = some l -> L[b]? = some l' -> l.i = i -> l.j = x -> l'.i = i -> l'.j = y -> rows[n]? = some (.bo x y) -> zJ L i ((2 * n : Nat) : Int) = true
 rule : ∀ (r : Nat) (q : zN), rules[r]? = some q -> InR rows q -> (∀ p ∈ q.1, ∃ (a : Nat) (l : Ln), a < k /\ L[a]? = some l /\ l.i = p.1 /\ l.j = p.2) -> zJ L q.2.1 q.2.2 = true
theorem Cl.le {rows : List Rw} {rules : List zN} {k : Nat} {L L' : List Ln} (h : Cl rows rules k L) (hk : k <= L.length) (e : Le L L') : Cl rows rules k L' := by
 have b : ∀ {a : Nat} {l : Ln}, a < k -> L'[a]? = some l -> L[a]? = some l := fun ha hl => e.back (by omega) hl
 refine ⟨fun a l i j ha hl h1 h2 => e.has (h.turn a l i j ha (b ha hl) h1 h2), fun a l i j ha hl h1 h2 h3 n hn => e.has (h.clash a l i j ha (b ha hl) h1 h2 h3 n hn), fun a b' l l' i j m ha hb hl hl' h1 h2 h3 h4 => e.has (h.chain a b' l l' i j m ha hb (b ha hl) (b hb hl') h1 h2 h3 h4),
   fun a b' l l' i n x y ha hb hl hl' h1 h2 h3 h4 hr => e.has (h.both a b' l l' i n x y ha hb (b ha hl) (b hb hl') h1 h2 h3 h4 hr), fun r q hr hi hp => e.has (h.rule r q hr hi fun p hpq => ?_)⟩
 obtain ⟨a, l, ha, hl, h1, h2⟩ := hp p hpq
 exact ⟨a, l, ha, b ha hl, h1, h2⟩
theorem Cl.step {rows : List Rw} {rules : List zN} {k : Nat} {L L' : List Ln} (h : Cl rows rules k L) (e : Le L L') {l0 : Ln} {i j : Nat} (hk : L[k]? = some l0) (hi : l0.i = i) (hj : l0.j = j)
   (h1 : zJ L' ((tnN j : Nat) : Int) ((tnN i : Nat) : Int) = true) (h2 : ∀ m : Nat, zJ L j m = true -> zJ L' i m = true) (h3 : ∀ m : Nat, zJ L m i = true -> zJ L' m j = true)
   (h4 : ∀ (n : Nat) (x y : Int), rows[n]? = some (.bo x y) -> ((j : Int) = x \/ (j : Int) = y) -> zJ L i x = true -> zJ L i y = true -> zJ L' i ((2 * n : Nat) : Int) = true)
   (h5 : (j : Int) = tn1 i -> ∀ n : Nat, n < 2 * rows.length -> zJ L' i n = true)
   (h6 : ∀ (r : Nat) (q : zN), rules[r]? = some q -> InR rows q -> ((i : Int), (j : Int)) ∈ q.1 -> (∀ p ∈ q.1, zJ L p.1 p.2 = true) -> zJ L' q.2.1 q.2.2 = true) : Cl rows rules (k + 1) L' := by
 have hkl := (List.getElem?_eq_some_iff.mp hk).1
 have hc := h.le (by omega) e
 have b : ∀ {a : Nat} {l : Ln}, a < k + 1 -> L'[a]? = some l -> L[a]? = some l := fun ha hl => e.back (by omega) hl
 have z : ∀ {a : Nat}, a < k + 1 -> a < k \/ a = k := fun ha => by omega
 have lz : ∀ {a : Nat} {l : Ln}, a = k -> a < k + 1 -> L'[a]? = some l -> l = l0 := fun ea ha hl => by
   have := b ha hl
   rw [ea, hk] at this
   exact (Option.some.inj this).symm
 have hs : ∀ {a : Nat} {l : Ln}, a < k + 1 -> L'[a]? = some l -> zJ L l.i l.j = true := fun ha hl => hasP_iff.mpr ⟨_, _, b ha hl, rfl, rfl⟩
 refine ⟨fun a l i' j' ha hl g1 g2 => ?_, fun a l i' j' ha hl g1 g2 g3 n hn => ?_, fun a b' l l' i' j' m ha hb hl hl' g1 g2 g3 g4 => ?_, fun a b' l l' i' n x y ha hb hl hl' g1 g2 g3 g4 hr => ?_, fun r q hr hir hp => ?_⟩
 · rcases z ha with za | za
   · exact hc.turn a l i' j' za hl g1 g2
   · have el := lz za ha hl
     subst el
     have ei : i' = i := by omega
     have ej : j' = j := by omega
     rw [ei, ej]
     exact h1
 · rcases z ha with za | za
   · exact hc.clash a l i' j' za hl g1 g2 g3 n hn
   · have el := lz za ha hl
     subst el
     have ei : i' = i := by omega
     have ej : j' = j := by omega
     subst ei ej
     exact h5 g3 n hn
 · rcases z ha with za | za
   · rcases z hb with zb | zb
     · exact hc.chain a b' l l' i' j' m za zb hl hl' g1 g2 g3 g4
     · have el := lz zb hb hl'
       subst el
       have ej : j' = i := by omega
       have em : m = j := by omega
       have := hs ha hl
       rw [g1, g2, ej] at this
       rw [em]
       exact h3 i' this
   · have el := lz za ha hl
     subst el
     have ei : i' = i := by omega
     have ej : j' = j := by omega
     have := hs hb hl'
     rw [g3, g4, ej] at this
     rw [ei]
     exact h2 m this
 · have ha' := hs ha hl
   have hb' := hs hb hl'
   rw [g1, g2] at ha'
   rw [g3, g4] at hb'
   rcases z ha with za | za
   · rcases z hb with zb | zb
     · exact hc.both a b' l l' i' n x y za zb hl hl' g1 g2 g3 g4 hr
     · have el := lz zb hb hl'
       subst el
       have ei : i' = i := by omega
       subst ei
       exact h4 n x y hr (.inr (by omega)) ha' hb'
   · have el := lz za ha hl
     subst el
     have ei : i' = i := by omega
     subst ei
     exact h4 n x y hr (.inl (by omega)) ha' hb'
 · by_cases hall : ∀ p ∈ q.1, ∃ (a : Nat) (l : Ln), a < k /\ L'[a]? = some l /\ l.i = p.1 /\ l.j = p.2
   · exact hc.rule r q hr hir hall
   · refine h6 r q hr hir (Classical.byContradiction fun hno => hall fun p hpq => ?_) fun p hpq => ?_
     · obtain ⟨a, l, ha, hl, g1, g2⟩ := hp p hpq
       rcases z ha with za | za
       · exact ⟨a, l, za, hl, g1, g2⟩
       · have el := lz za ha hl
         subst el
         have ep : p = ((i : Int), (j : Int)) := Prod.ext (by rw [← g1, hi]) (by rw [← g2, hj])
         exact absurd (ep ▸ hpq) hno
     · obtain ⟨a, l, ha, hl, g1, g2⟩ := hp p hpq
       have := hs ha hl
       rw [g1, g2] at this
       exact this
def spClo : Sp := fun vs H Q _ => ∃ (sa ra : Addr) (us vs' : List V) (rows : List Rw) (rules : List zN), vs = [.ref sa, .ref ra] /\ H sa = some (.lst us) /\ jQ H rows us /\ H ra = some (.lst vs') /\ DAts H (rules.map dNR) vs' /\ rows.length <= 100 /\ RowsIn rows /\ rules.length <= 100 /\ (∀ r ∈ rules, r.1.length <= 100) /\ ∀ (la : Addr) (ws : List V) (ls : List Ln) H', Same H H' -> H' la = some (.lst ws) -> vM H' ls ws -> GOk rows rules ls -> Pl rows (2 * rows.length) rows.length ls -> Cl rows rules ls.length ls -> Q (.ref la) H'
theorem SameG.same {g : GAd} {H H2 H' : Hp} (s : Same H H2) (e : SameG g H2 H') (h1 : H g.la = none) (h2 : H g.pa = none) (h3 : H g.aa = none) (h4 : H g.ba = none) : Same H H' := fun b o hb => by
 have go : ∀ {a : Addr}, H a = none -> b ≠ a := fun ha z => by rw [z, ha] at hb; cases hb
 exact e b o (s b o hb) (go h1) (go h2) (go h3) (go h4)
section
variable {P : Program} {w : World} {K : PySem.W.Frag} {mg : Str -> Option Value} {base : Heap} {f : Addr} {fd : FuncData}
theorem ok_closing {C : Addr} (T : GrC K C) (bi : Bi mg) (h_k : HasI P w K mg base 1 C "Growth" ["self", "many"] (spGI C)) (h_f : Has P w K mg base 1 "boths_by_part" ["sheet"] spBo) (h_c : Has P w K mg base 1 "rules_by_premise" ["rules"] spWa) (h_t : Has P w K mg base 3 "begin" ["growth", "sheet"] (spBe C)) (h_l : Has P w K mg base 3 "grow_by_turn" ["growth", "i", "j"] (uZ RTurn C)) (h_e : Has P w K mg base 3 "grow_by_chain" ["growth", "i", "j"] (uZ RChain C)) (h_i : Has P w K mg base 3 "grow_by_both" ["growth", "i", "boths"] (spGB C)) (h_g : Has P w K mg base 3 "grow_by_clash" ["growth", "i", "j"] (uZ RClash C)) (h_h : Has P w K mg base 3 "grow_by_rule" ["growth", "rules", "r"] (spGR C)) (F : Fun K "closing" "closing" s_p f fd) : FnOk P w K mg base CX0 4 f fd ["sheet", "rules"] spClo := by
 refine F.ok sc_p (fun vs H Q E h => ?_) (fun cdv A outer s H vs Q E hr h => ?_)
 · obtain ⟨sa, ra, us, vs', rows, rules, rfl, _⟩ := h
   rfl
 obtain ⟨sa, ra, us, vs', rows, rules, rfl, hsa, hrw, hra, hru, h100, hin, hr100, hpr, q⟩ := h
 have hul := yQ hrw
 have hvl := yQ hru
 have cl_Growth := T.cl
 refine ⟨_, (zD (zO (i := 2) sc_p.nd rfl (Or.inl rfl) (pe_makeH h_k (hr.mono (by omega)) rfl (zA (zK op_mul zE (zP call_len rfl bi.len bt_len (zA (pv 0) pa_nil))) pa_nil))) (zD (zO (i := 3) sc_p.nd rfl (Or.inl rfl) (zS h_f (hr.mono (by omega)) rfl (zA (pv 0) pa_nil))) (zD (zO (i := 4) sc_p.nd rfl (Or.inl rfl) (zS h_c (hr.mono (by omega)) rfl (zA (pv 1) pa_nil))) (zD (zT (zS h_t (hr.mono (by omega)) rfl (zA (pv 2) (zA (pv 0) pa_nil)))) (zD (yZ PassesOwn.never rfl (xS rfl bi.range (zA (zP call_len rfl bi.len bt_len (zA (pv 1) pa_nil)) pa_nil)) (zQ (i := 5) sc_p.nd rfl (Or.inl rfl)) (zH (zT (zS h_h (hr.mono (by omega)) rfl (zA (pv 2) (zA (pv 1) (zA (pv 5) pa_nil))))))) (zD (zO (i := 6) sc_p.nd rfl (Or.inl rfl) zE) (zD (ps_while PassesOwn.never (yC op_lt (pv 6) (zP call_len rfl bi.len bt_len (zA (yO (pv 2) rfl) pa_nil)) (yP _)) (zD (zO (i := 7) sc_p.nd rfl (Or.inl rfl) (zV ix_tup (zV ix_list (yO (pv 2) rfl) (pv 6) (fun _ _ => rfl)) zE (fun _ _ => rfl))) (zD (zO (i := 8) sc_p.nd rfl (Or.inl rfl) (zV ix_tup (zV ix_list (yO (pv 2) rfl) (pv 6) (fun _ _ => rfl)) zE (fun _ _ => rfl))) (zD (zT (zS h_l (hr.mono (by omega)) rfl (zA (pv 2) (zA (pv 7) (zA (pv 8) pa_nil))))) (zD (zT (zS h_e (hr.mono (by omega)) rfl (zA (pv 2) (zA (pv 7) (zA (pv 8) pa_nil))))) (zD (zT (zS h_i (hr.mono (by omega)) rfl (zA (pv 2) (zA (pv 7) (zA (zV ix_list (pv 3) (pv 8) (fun _ _ => rfl)) pa_nil))))) (zD (zT (zS h_g (hr.mono (by omega)) rfl (zA (pv 2) (zA (pv 7) (zA (pv 8) pa_nil))))) (zD (yZ PassesOwn.never rfl (yU (pe_dget2 (hu_of hr) (pv 4) (zX (zA (pv 7) (zA (pv 8) pa_nil))) (yV pa_nil) ⟨rfl, rfl, rfl, rfl⟩)) (zQ (i := 5) sc_p.nd rfl (Or.inl rfl)) (zH (zT (zS h_h (hr.mono (by omega)) rfl (zA (pv 2) (zA (pv 1) (zA (pv 5) pa_nil))))))) (zH (ps_aug (i := 6) sc_p.nd rfl (Or.inl rfl) zE ip_add)))))))))) (zH (yN (yO (pv 2) rfl)))))))))), ?_⟩
 refine zI fun N hN => ?_
 simp! [tMake]
 refine ⟨us.length, .inl ⟨_, SqL.of hsa, rfl⟩, .inl ⟨by decide, by decide⟩, fun x dx hx hdx hne => ?_⟩
 have s1 : Same H (upd (upd H dx (.own x)) x (.ins C dx [])) := ((Same.refl H).upd hdx).upd hx
 have k1 : upd (upd H dx (.own x)) x (.ins C dx []) x = some (.ins C dx []) := zB
 generalize upd (upd H dx (.own x)) x (.ins C dx []) = H1 at s1 k1 ⊢
 have e2 : (2 : Int) * (us.length : Int) = ((2 * rows.length : Nat) : Int) := by rw [hul]; omega
 rw [e2]
 refine ⟨x, dx, rows, rules, rfl, k1, h100, fun g H2 hgr x2 hla hpa haa hba hg => ⟨rfl, hN _ _ ?_⟩⟩
 subst hgr
 clear hN
 have s2 : Same H H2 := fun b o hb => x2 b o (s1 _ _ hb) (fun z => by rw [z, hx] at hb; cases hb)
 replace hla := s1.free hla
 replace hpa := s1.free hpa
 replace haa := s1.free haa
 replace hba := s1.free hba
 have outH : ∀ {a : Addr} {o : HO}, H a = some o -> uV g a := fun {a o} ha => by
   have go : ∀ {b : Addr}, H b = none -> a ≠ b := fun hb z => by rw [z, hb] at ha; cases ha
   exact ⟨go hla, go hpa, go haa, go hba⟩
 clear x2 k1 s1
 refine zI fun N hN => ?_
 simp! []
 refine ⟨sa, us, rows, rfl, s2 _ _ hsa, DAts.same s2 hrw, h100, hin, fun pb qs n H3 s3 hpb0 hqs0 hpb hql hbo hbc => hN _ _ ?_⟩
 clear hN
 have outb := hg.out hpb0
 have outq : ∀ q ∈ qs, uV g q := fun q hq => hg.out (hqs0 q hq)
 replace hg := hg.same s3
 replace s2 := s2.trans s3
 clear s3 hqs0 hpb0
 refine zI fun N hN => ?_
 simp! []
 refine ⟨ra, vs', rules, rfl, s2 _ _ hra, DAts.same s2 hru, hr100, hpr, fun pw kvs n' H4 s4 hpw0 hpw hwa hwc => hN _ _ ?_⟩
 clear hN
 have outw := hg.out hpw0
 have hwa' : ∀ kv ∈ kvs, ∃ (q : Addr) (ns : List Nat), kv.2 = .ref q /\ H4 q = some (.lst (ns.map nV)) /\ uV g q /\ ∀ x ∈ ns, x < rules.length := fun kv hkv => by
   obtain ⟨q', ns', h1, h2, h3, h4, h5⟩ := hwa kv hkv
   exact ⟨q', ns', h1, h2, hg.out h3, h5⟩
 clear hwa
 replace hg := hg.same s4
 replace s2 := s2.trans s4
 replace hpb := s4 _ _ hpb
 replace hbo := hbo.same s4
 replace hbc := hbc.same s4
 clear s4 hpw0
 have SS : ∀ {H'}, SameG g H4 H' -> Same H H' := fun e => SameG.same s2 e hla hpa haa hba
 refine zI fun N hN => ?_
 simp! []
 refine ⟨g, sa, us, rows, rules, rfl, hg, h100, s2 _ _ hsa, DAts.same s2 hrw, outH hsa, hin, fun H5 g5 => hN _ _ ?_⟩
 clear hN
 have np : ∀ {r : Nat} {ls L L' : List Ln}, RRule rows rules ls L r -> Le L L' -> ∀ q : zN, rules[r]? = some q -> InR rows q -> q.1 = [] -> zJ L' q.2.1 q.2.2 = true := fun h e q hq hi h0 => e.has (h q hq hi (fun p hp => by rw [h0] at hp; cases hp))
 refine yH (fun σ H' => ∃ (o1 o2 o3 o4 : Option V), GrH C H4 g rows rules [] (fun L => Pl rows (2 * rows.length) rows.length L /\ Cl rows rules 0 L) H' /\ σ = [some (V.ref sa), some (V.ref ra), some (V.ref g.r), some (V.ref pb), some (V.ref pw), o1, o2, o3, o4]) (fun N hN => ?_) (fun σ H' h => ?_)
 · simp! []
   refine ⟨vs'.length, .inl ⟨_, SqL.of (SS g5.to.1 _ _ hra), rfl⟩, by omega, by omega, ?_⟩
   refine qF (n := (vs'.length : Int).toNat) (fun i σ H' => ∃ (o1 o2 o3 o4 : Option V), GrH C H4 g rows rules [] (fun L => Pl rows (2 * rows.length) rows.length L /\ ∀ r : Nat, r < i -> ∀ q : zN, rules[r]? = some q -> InR rows q -> q.1 = [] -> zJ L q.2.1 q.2.2 = true) H' /\ σ = [some (V.ref sa), some (V.ref ra), some (V.ref g.r), some (V.ref pb), some (V.ref pw), o1, o2, o3, o4]) ⟨_, _, _, _, (by
       obtain ⟨h1, t, h2, h3⟩ := g5
       exact ⟨h1, t, h2, h3, fun r hr => by omega⟩), rfl⟩ (fun i σ H' hi h => ?_) (fun σ H' h => ?_)
   rotate_left
   · obtain ⟨o1, o2, o3, o4, ⟨h1, t, h2, h3, h4⟩, rfl⟩ := h
     refine hN _ _ ⟨_, _, _, _, ⟨h1, t, h2, h3, ⟨fun a l i j ha => by omega, fun a l i j ha => by omega, fun a b l l' i j m ha => by omega, fun a b l l' i n x y ha => by omega, fun r q hr hir hp => ?_⟩⟩, rfl⟩
     refine h4 r (by have := (List.getElem?_eq_some_iff.mp hr).1; omega) q hr hir ?_
     cases hq : q.1 with
     | nil => rfl
     | cons p ps =>
       obtain ⟨a, l, ha, _⟩ := hp p (by rw [hq]; exact List.mem_cons_self)
       omega
   obtain ⟨o1, o2, o3, o4, ⟨gs, t, gt, hP, hR⟩, rfl⟩ := h
   have e0 : (0 : Int) + (i : Int) = ((i : Nat) : Int) := by omega
   simp! []
   rw [e0]
   refine ⟨g, rows, rules, _, ra, vs', i, rfl, gt, h100, SS gs _ _ hra, DAts.same (SS gs) hru, by omega, hpr, fun H6 g6 => ?_⟩
   refine ⟨GrH.then gs g6 (fun L e h => ⟨hP.le e, fun r hr => ?_⟩), _, rfl⟩
   rcases Nat.lt_or_eq_of_le (Nat.le_of_lt_succ hr) with z | z
   · exact fun q hq hi h0 => e.has (hR r z q hq hi h0)
   · rw [z]; exact np h (Le.refl _)
 obtain ⟨o1, o2, o3, o4, ⟨gs, t, gt, hP, hC⟩, rfl⟩ := h
 rw [List.nil_append] at gt hP hC
 refine zI fun N hN => ?_
 simp! []
 refine hN _ _ ?_
 clear hN
 refine yH (fun σ H' => ∃ (o1 o2 o3 o4 : Option V) (t : List Ln), SameG g H4 H' /\ GrAt C H' g rows rules t /\ Pl rows (2 * rows.length) rows.length t /\ Cl rows rules t.length t /\ σ = [some (V.ref sa), some (V.ref ra), some (V.ref g.r), some (V.ref pb), some (V.ref pw), o1, o2, o3, o4]) (fun N hN => ?_) (fun σ H' h => ?_)
 · simp! [tWhile]
   refine ⟨fun m σ H' => ∃ (k : Nat) (t : List Ln) (o1 o3 o4 : Option V), m = (2 * rows.length) * (2 * rows.length) - k /\ k <= t.length /\ SameG g H4 H' /\ GrAt C H' g rows rules t /\ Pl rows (2 * rows.length) rows.length t /\ Cl rows rules k t /\ σ = [some (V.ref sa), some (V.ref ra), some (V.ref g.r), some (V.ref pb), some (V.ref pw), o1, some (V.int k), o3, o4], ⟨_, 0, t, _, _, _, rfl, Nat.zero_le _, gs, gt, hP, hC, rfl⟩, fun m σ H' h => ?_⟩
   clear hP hC
   obtain ⟨k, t, o1, o3, o4, rfl, hk, gs, gt, hP, hC, rfl⟩ := h
   have htl := gt.ok.len
   obtain ⟨dx, hins⟩ := gt.ins
   obtain ⟨ws, hl, hws⟩ := gt.lin
   have hwl := yQ hws
   simp! [jX]
   refine ⟨_, _, _, hins, T.cl, T.nL, _, gr_l g, ws.length, .inl ⟨_, SqL.of hl, rfl⟩, ?_⟩
   by_cases hkl : k < t.length
   case neg =>
     rw [if_neg (by omega)]
     rw [show k = t.length by omega] at hC
     exact hN _ _ ⟨_, _, _, _, t, gs, gt, hP, hC, rfl⟩
   rw [if_pos (by omega)]
   have hlk : t[k]? = some t[k] := List.getElem?_eq_getElem hkl
   have hrng := xQ (gt.ok.snd k _ hlk)
   generalize t[k] = l0 at hlk hrng
   obtain ⟨i, hi⟩ : ∃ i : Nat, l0.i = (i : Int) := Int.eq_ofNat_of_zero_le hrng.1.1
   obtain ⟨j, hj⟩ : ∃ j : Nat, l0.j = (j : Int) := Int.eq_ofNat_of_zero_le hrng.2.1
   obtain ⟨v, hv, hvd⟩ := DAts.get (d := dLn l0) hws (by rw [List.getElem?_map, hlk]; rfl)
   obtain ⟨xa, u, rfl, hxa, _⟩ := lnAt hvd
   rw [hi, hj] at hxa hrng
   have hh : zJ t i j = true := hasP_iff.mpr ⟨k, l0, hlk, hi, hj⟩
   refine ⟨fun σ' H'' => ∃ (t' : List Ln) (o1 o3 o4 : Option V), k + 1 <= t'.length /\ SameG g H4 H'' /\ GrAt C H'' g rows rules t' /\ Pl rows (2 * rows.length) rows.length t' /\ Cl rows rules (k + 1) t' /\ σ' = [some (V.ref sa), some (V.ref ra), some (V.ref g.r), some (V.ref pb), some (V.ref pw), o1, some (V.int ((k + 1 : Nat) : Int)), o3, o4], fun σ' H'' h => ?_, ?_⟩
   · obtain ⟨t', o1, o3, o4, h1, h2, h3, h4, h5, rfl⟩ := h
     exact ⟨_, by omega, k + 1, rfl, t', h1, h2, h3, h4, h5, _, _, _, rfl⟩
   refine ⟨_, _, _, hins, T.cl, T.nL, _, gr_l g, _, rfl, _, SqL.of hl, _, yL hv, _, rfl, _, SqT.of hxa, _, at0, ?_⟩
   refine ⟨_, _, _, hins, T.cl, T.nL, _, gr_l g, _, rfl, _, SqL.of hl, _, yL hv, _, rfl, _, SqT.of hxa, _, at1, ?_⟩
   refine ⟨g, rows, rules, t, i, j, rfl, gt, h100, hh, fun H6 g6 => ?_⟩
   obtain ⟨gs6, t6, gt6, rt⟩ := g6
   replace gs := gs.trans gs6
   refine ⟨g, rows, rules, _, i, j, rfl, gt6, h100, zL hh, fun H7 g7 => ?_⟩
   obtain ⟨gs7, t7, gt7, rc⟩ := g7
   replace gs := gs.trans gs7
   have hjl : j < qs.length := by omega
   obtain ⟨us1, hu1, _, ht1⟩ := hbo qs[j] (List.getElem_mem hjl)
   have tu := hg.tups gs
   refine ⟨_, _, rfl, SqL.of (gs.out outb hpb), _, yL (by rw [List.getElem?_map, List.getElem?_eq_getElem hjl]; rfl), ?_⟩
   refine ⟨g, rows, rules, _, i, qs[j], us1, rfl, gt7, h100, by omega, gs.out (outq _ (List.getElem_mem hjl)) hu1, outq _ (List.getElem_mem hjl), fun v hv => (ht1 v hv).tups tu, hin, fun H8 g8 => ?_⟩
   obtain ⟨gs8, t8, gt8, rb⟩ := g8
   replace gs := gs.trans gs8
   refine ⟨g, rows, rules, _, i, j, rfl, gt8, h100, zL (zL (zL hh)), fun H9 g9 => ?_⟩
   obtain ⟨gs9, t9, gt9, rx⟩ := g9
   replace gs := gs.trans gs9
   have hk9 : k + 1 <= ((((t ++ t6) ++ t7) ++ t8) ++ t9).length := by simp only [List.length_append]; omega
   have h1 : zJ ((((t ++ t6) ++ t7) ++ t8) ++ t9) ((tnN j : Nat) : Int) ((tnN i : Nat) : Int) = true := zL (zL (zL rt))
   have h2 : ∀ m : Nat, zJ t j m = true -> zJ ((((t ++ t6) ++ t7) ++ t8) ++ t9) i m = true := fun m hm => zL (zL (rc.1 m (zL hm)))
   have h3 : ∀ m : Nat, zJ t m i = true -> zJ ((((t ++ t6) ++ t7) ++ t8) ++ t9) m j = true := fun m hm => zL (zL (rc.2 m (zL hm)))
   have h4 : ∀ (n : Nat) (x y : Int), rows[n]? = some (.bo x y) -> ((j : Int) = x \/ (j : Int) = y) -> zJ t i x = true -> zJ t i y = true -> zJ ((((t ++ t6) ++ t7) ++ t8) ++ t9) i ((2 * n : Nat) : Int) = true := fun n x y hn hxy hx hy => by
     obtain ⟨us', t', g1, g2, g3⟩ := hbc n x y (List.getElem?_eq_some_iff.mp hn).1 hn j qs[j] hxy (List.getElem?_eq_getElem hjl)
     rw [hu1] at g1
     cases g1
     exact zL (rb t' n x y g2 (tu _ _ g3) (zL (zL hx)) (zL (zL hy)))
   have h5 : (j : Int) = tn1 i -> ∀ n : Nat, n < 2 * rows.length -> zJ ((((t ++ t6) ++ t7) ++ t8) ++ t9) i n = true := rx
   have ett : Le t ((((t ++ t6) ++ t7) ++ t8) ++ t9) := ⟨t6 ++ (t7 ++ (t8 ++ t9)), by simp [List.append_assoc]⟩
   generalize (((t ++ t6) ++ t7) ++ t8) ++ t9 = tt at gt9 hk9 h1 h2 h3 h4 h5 ett
   clear rt rc rb rx
   clear gs6 gt6 gs7 gt7 gs8 gt8 gs9 tu hins hl hws htl gt
   simp! [tDGet2]
   have hpw9 := gs.out outw hpw
   refine ⟨.inr ⟨_, .inl hpw9⟩, zM (by decide), fun p hp => ⟨Nat.zero_le _, fun p1 hp1 => ?_⟩⟩
   have s10 := (zC hp (.tup [V.int i, V.int j])).trans (zC hp1 (.lst []))
   have kp : upd (upd H9 p (.tup [V.int i, V.int j])) p1 (.lst []) p = some (.tup [V.int i, V.int j]) := zC hp1 (.lst []) _ _ zB
   have kp1 : upd (upd H9 p (.tup [V.int i, V.int j])) p1 (.lst []) p1 = some (.lst []) := zB
   have op1 := (gt9.same (zC hp (.tup [V.int i, V.int j]))).out hp1
   generalize upd (upd H9 p (.tup [V.int i, V.int j])) p1 (.lst []) = H10 at s10 kp kp1 ⊢
   have hq : ∃ (q : Addr) (ns : List Nat), (yJ kvs (xH i j)).getD (.ref p1) = .ref q /\ H10 q = some (.lst (ns.map nV)) /\ uV g q /\ (∀ x ∈ ns, x < rules.length) /\ ∀ r, WaI H4 kvs ((i : Int), (j : Int)) r -> r ∈ ns := by
     cases hv : yJ kvs (xH i j) with
     | none => exact ⟨p1, [], rfl, kp1, op1, (fun x z => by cases z), fun r ⟨q, ns, g1, _⟩ => by rw [show yJ kvs (xH (i : Int) (j : Int)) = none from hv] at g1; cases g1⟩
     | some v =>
       obtain ⟨kv, hkv, rfl⟩ := valV_mem hv
       obtain ⟨q', ns', g1, g2, g3, g4⟩ := hwa' kv hkv
       refine ⟨q', ns', g1, s10 _ _ (gs.out g3 g2), g3, g4, fun r ⟨q, ns, w1, w2, w3⟩ => ?_⟩
       rw [show yJ kvs (xH (i : Int) (j : Int)) = some kv.2 from hv, g1] at w1
       have e1 := V.ref.inj (Option.some.inj w1)
       subst e1
       rw [g2] at w2
       rw [nV_inj (HO.lst.inj (Option.some.inj w2))]
       exact w3
   obtain ⟨qa, ns, hqa1, hqa2, hqa3, hqa4, hqa5⟩ := hq
   refine ⟨_, .inr ⟨_, xH i j, p, .inl (s10 _ _ hpw9), rfl, kp, rfl⟩, qa, hqa1, ⟨_, SqL.of hqa2⟩, ?_⟩
   replace gs := gs.trans (Same.g s10)
   replace gt9 := gt9.same s10
   clear s10 kp kp1 hp hp1 op1 hqa1
   refine xW (xs := ns.map nV) (fun m σ H' => ∃ (o1 : Option V) (t' : List Ln), k + 1 <= t'.length /\ SameG g H4 H' /\ SameG g H10 H' /\ GrAt C H' g rows rules t' /\ Le tt t' /\ (∀ r ∈ ns.take m, ∀ q : zN, rules[r]? = some q -> InR rows q -> (∀ p ∈ q.1, zJ tt p.1 p.2 = true) -> zJ t' q.2.1 q.2.2 = true) /\ σ = [some (V.ref sa), some (V.ref ra), some (V.ref g.r), some (V.ref pb), some (V.ref pw), o1, some (V.int k), some (V.int i), some (V.int j)]) ⟨_, tt, hk9, gs, Same.g (Same.refl _), gt9, Le.refl _, (fun r z => by cases z), rfl⟩ (fun m σ H' _ h => ?_) (fun m x σ H' hx h => ?_) (fun σ H' h => ?_)
   · obtain ⟨_, _, _, _, h, _⟩ := h
     exact SqL.of (h.out hqa3 hqa2)
   · obtain ⟨o1, t', hk', gs', gs2', gt', le', hR, rfl⟩ := h
     rw [List.getElem?_map] at hx
     obtain ⟨x', hx', rfl⟩ := Option.map_eq_some_iff.mp hx
     simp! []
     refine ⟨g, rows, rules, _, ra, vs', x', rfl, gt', h100, SS gs' _ _ hra, DAts.same (SS gs') hru, hqa4 _ (List.mem_of_getElem? hx'), hpr, fun H6 g6 => ?_⟩
     obtain ⟨gs6, t6, gt6, rr⟩ := g6
     refine ⟨_, t' ++ t6, by rw [List.length_append]; omega, gs'.trans gs6, gs2'.trans gs6, gt6, le'.trans ⟨t6, rfl⟩, fun r hr q hq hi0 hp0 => ?_, rfl⟩
     obtain ⟨hkl', hke⟩ := List.getElem?_eq_some_iff.mp hx'
     rw [List.take_succ_eq_append_getElem hkl', hke] at hr
     rcases List.mem_append.mp hr with hr | hr
     · exact zL (hR r hr q hq hi0 hp0)
     · rw [List.mem_singleton.mp hr] at hq
       exact rr q hq hi0 fun p hp => le'.has (hp0 p hp)
   · obtain ⟨o1, t', hk', gs', gs2', gt', le', hR, rfl⟩ := h
     rw [List.length_map, List.take_of_length_le (Nat.le_refl _)] at hR
     have e9 := ett.trans le'
     have hC' : Cl rows rules (k + 1) t' := hC.step e9 hlk hi hj (le'.has h1) (fun m hm => le'.has (h2 m hm)) (fun m hm => le'.has (h3 m hm)) (fun n x y a b c d => le'.has (h4 n x y a b c d)) (fun a n b => le'.has (h5 a n b)) (fun r q hr hir hin' hp => ?_)
     · simp! [tAug, ipI]
       exact ⟨t', hk', gs', gt', hP.le e9, hC', by omega, _, rfl⟩
     · obtain ⟨x, hx⟩ := List.getElem?_of_mem hin'
       exact hR r (hqa5 r (hwc r q x _ hr hx (.inl (List.getElem?_eq_some_iff.mp hr).1))) q hr hir fun p hpq => ett.has (hp p hpq)
 obtain ⟨o1, o2, o3, o4, t, gs, gt, hP, hC, rfl⟩ := h
 obtain ⟨dx, hins⟩ := gt.ins
 obtain ⟨ws, hl, hws⟩ := gt.lin
 simp! [jX]
 exact ⟨_, _, _, hins, T.cl, T.nL, _, gr_l g, q g.la ws t _ (SS gs) hl hws gt.ok hP hC⟩
end
abbrev In2 (n : Nat) (p : Pr) : Prop := (0 <= p.1 /\ p.1 < (n : Int)) /\ 0 <= p.2 /\ p.2 < (n : Int)
structure Clo (rows : List Rw) (rules : List zN) (X : Int -> Int -> Prop) : Prop where
 same : ∀ n : Nat, n < 2 * rows.length -> X n n
 low : ∀ n : Nat, n < 2 * rows.length -> X 0 n
 high : ∀ n : Nat, n < 2 * rows.length -> X n 1
 part : ∀ (k : Nat) (x y : Int), rows[k]? = some (.bo x y) -> X ((2 * k : Nat) : Int) x /\ X ((2 * k : Nat) : Int) y
 clash : ∀ i j : Nat, i < 2 * rows.length -> j < 2 * rows.length -> X i (tn1 i) -> X i j
 both : ∀ (i k : Nat) (x y : Int), i < 2 * rows.length -> rows[k]? = some (.bo x y) -> X i x -> X i y -> X i ((2 * k : Nat) : Int)
 chain : ∀ i m j : Nat, i < 2 * rows.length -> m < 2 * rows.length -> j < 2 * rows.length -> X i m -> X m j -> X i j
 turn : ∀ i j : Nat, i < 2 * rows.length -> j < 2 * rows.length -> X i j -> X (tn1 j) (tn1 i)
 rule : ∀ q ∈ rules, (∀ p ∈ q.1, X p.1 p.2) -> X q.2.1 q.2.2
theorem parts_bo {rows : List Rw} {n : Nat} {x : Int} (h : x ∈ jB rows n) : ∃ (k : Nat) (a b : Int), n = 2 * k /\ rows[k]? = some (.bo a b) /\ jB rows n = [a, b] := by
 unfold jB at h ⊢
 by_cases h2 : (n : Int) % 2 = 0
 · rw [if_pos h2] at h ⊢
   have e : ((n : Int) / 2).toNat = n / 2 := by omega
   rw [e] at h ⊢
   cases hr : rows[n / 2]? with
   | none => rw [hr] at h; cases h
   | some r =>
     rw [hr] at h
     cases r with
     | no => cases h
     | nm y => cases h
     | bo a b => exact ⟨n / 2, a, b, by omega, hr, rfl⟩
 · rw [if_neg h2] at h
   cases h
theorem lines_in {rows : List Rw} {rules : List zN} {ls : List Ln} {X : Int -> Int -> Prop} (c : Clo rows rules X) (h : GOk rows rules ls) : ∀ (k : Nat) (l : Ln), ls[k]? = some l -> X l.i l.j := by
 intro k
 induction k using Nat.strongRecOn with
 | ind k ih =>
   intro l hl
   have hs := h.snd k l hl
   have hr := xQ hs
   have sd : ∀ (a : Wt) (p : Pr), yY ls k a = some p -> In2 (2 * rows.length) p /\ X p.1 p.2 := fun a p hp => by
     cases a with
     | ps _ => cases hp
     | n i =>
       by_cases hi : 0 <= i /\ i < (k : Int)
       · cases hq : ls[i.toNat]? with
         | none =>
           have : yY ls k (.n i) = none := by
             show (if 0 <= i /\ i < (k : Int) then (ls[i.toNat]?).map fun l => (l.i, l.j) else none) = _
             rw [if_pos hi, hq]
             rfl
           rw [this] at hp
           cases hp
         | some l' =>
           rw [said_pos hi hq] at hp
           cases hp
           have hr' := xQ (h.snd _ l' hq)
           exact ⟨⟨⟨hr'.1.1, by have := hr'.1.2; show l'.i < _; omega⟩, hr'.2.1, by have := hr'.2.2; show l'.j < _; omega⟩, ih _ (by omega) l' hq⟩
       · rw [said_neg hi] at hp
         cases hp
   obtain ⟨⟨r1, r2⟩, r3, r4⟩ := hr
   unfold yR at hs
   rw [if_neg (by rintro (z | z); exact z ⟨r1, r2⟩; exact z ⟨r3, r4⟩)] at hs
   split at hs
   · unfold xZ at hs
     split at hs
     · rename_i r ps _
       split at hs
       · rename_i hrr
         split at hs
         · rename_i q hq
           rw [Bool.and_eq_true, beq_iff_eq, beq_iff_eq] at hs
           have e1 : l.i = q.2.1 := congrArg Prod.fst hs.1
           have e2 : l.j = q.2.2 := congrArg Prod.snd hs.1
           rw [e1, e2]
           refine c.rule q (List.mem_of_getElem? hq) fun p hp => ?_
           have hm : some p ∈ ps.map fun p => yY ls k (.n p) := by rw [hs.2]; exact List.mem_map.mpr ⟨p, hp, rfl⟩
           obtain ⟨x, _, hx⟩ := List.mem_map.mp hm
           exact (sd _ p hx).2
         · cases hs
       · cases hs
     · cases hs
   · split at hs
     · have hsd : ∀ p ∈ l.as.filterMap (yY ls k), In2 (2 * rows.length) p /\ X p.1 p.2 := fun p hp => by
         obtain ⟨a, _, ha⟩ := List.mem_filterMap.mp hp
         exact sd a p ha
       generalize l.as.filterMap (yY ls k) = ps at hs hsd
       obtain ⟨i, hi⟩ : ∃ i : Nat, l.i = (i : Int) := Int.eq_ofNat_of_zero_le r1
       obtain ⟨j, hj⟩ : ∃ j : Nat, l.j = (j : Int) := Int.eq_ofNat_of_zero_le r3
       rw [hi] at r2 hs ⊢
       rw [hj] at r4 hs ⊢
       have ri : i < 2 * rows.length := by omega
       have rj : j < 2 * rows.length := by omega
       unfold yE at hs
       split at hs
       · rw [beq_iff_eq] at hs
         rw [← hs]
         exact c.same i ri
       split at hs
       · rw [Bool.or_eq_true, beq_iff_eq, beq_iff_eq] at hs
         rcases hs with e | e
         · rw [e]; exact c.low j rj
         · rw [e]; exact c.high i ri
       split at hs
       · rw [List.any_eq_true] at hs
         obtain ⟨x, hx, e⟩ := hs
         rw [beq_iff_eq] at e
         obtain ⟨m, a, b, e1, e2, e3⟩ := parts_bo hx
         rw [e3] at hx
         have := c.part m a b e2
         rw [e1, ← e]
         simp only [List.mem_cons, List.not_mem_nil, or_false] at hx
         rcases hx with rfl | rfl
         · exact this.1
         · exact this.2
       split at hs
       · split at hs
         · rename_i a b hp
           rw [beq_iff_eq] at hs
           obtain ⟨m, a', b', e1, e2, e3⟩ := parts_bo (show a ∈ jB rows j by rw [hp]; exact List.mem_cons_self)
           rw [hp] at e3
           cases e3
           have x1 := (hsd (i, a) (by rw [hs]; simp)).2
           have x2 := (hsd (i, b) (by rw [hs]; simp)).2
           rw [e1]
           exact c.both i m a b ri e2 x1 x2
         · cases hs
       split at hs
       · rw [beq_iff_eq] at hs
         have x1 := (hsd (tn1 j, tn1 i) (by rw [hs]; simp)).2
         rw [xE, xE] at x1
         have := c.turn (tnN j) (tnN i) (vO rj) (vO ri) x1
         rw [xE, xE, qP, qP] at this
         exact this
       split at hs
       · split at hs
         · rename_i p q
           rw [Bool.and_eq_true, Bool.and_eq_true, beq_iff_eq, beq_iff_eq, beq_iff_eq] at hs
           obtain ⟨p1, p2⟩ := hsd p (by simp)
           obtain ⟨q1, q2⟩ := hsd q (by simp)
           obtain ⟨m, hm⟩ : ∃ m : Nat, p.2 = (m : Int) := Int.eq_ofNat_of_zero_le p1.2.1
           have hmr := p1.2.2
           rw [hm] at hmr
           rw [hs.1.1, hm] at p2
           rw [← hs.1.2, hs.2, hm] at q2
           exact c.chain i m j ri (by omega) rj p2 q2
         · cases hs
       · rw [beq_iff_eq] at hs
         exact c.clash i j ri rj (hsd (i, tn1 i) (by rw [hs]; simp)).2
     · cases hs
def ins (S : List Pr) (p : Pr) : List Pr := if p ∈ S then S else S ++ [p]
structure Stx (rows : List Rw) (rules : List zN) (S S' : List Pr) : Prop where
 pre : ∃ t, S' = S ++ t
 nd : S.Nodup -> S'.Nodup
 rng : (∀ p ∈ S, In2 (2 * rows.length) p) -> ∀ p ∈ S', In2 (2 * rows.length) p
 snd : ∀ X, Clo rows rules X -> (∀ p ∈ S, X p.1 p.2) -> ∀ p ∈ S', X p.1 p.2
theorem Stx.refl {rows : List Rw} {rules : List zN} (S : List Pr) : Stx rows rules S S := ⟨⟨[], by simp⟩, id, id, fun _ _ h => h⟩
theorem Stx.trans {rows : List Rw} {rules : List zN} {S S1 S2 : List Pr} (a : Stx rows rules S S1) (b : Stx rows rules S1 S2) : Stx rows rules S S2 := by
 obtain ⟨t1, e1⟩ := a.pre
 obtain ⟨t2, e2⟩ := b.pre
 exact ⟨⟨t1 ++ t2, by rw [e2, e1, List.append_assoc]⟩, fun h => b.nd (a.nd h), fun h => b.rng (a.rng h), fun X c h => b.snd X c (a.snd X c h)⟩
theorem Stx.ins {rows : List Rw} {rules : List zN} {S : List Pr} {p : Pr} (hin : In2 (2 * rows.length) p) (j : ∀ X, Clo rows rules X -> (∀ p ∈ S, X p.1 p.2) -> X p.1 p.2) : Stx rows rules S (C.ins S p) := by
 unfold C.ins
 split
 · exact Stx.refl _
 · rename_i hn
   refine ⟨⟨[p], rfl⟩, fun h => ?_, fun h x hx => ?_, fun X c h x hx => ?_⟩
   · rw [List.nodup_append]
     refine ⟨h, by simp, fun a ha b hb e => ?_⟩
     rw [List.mem_singleton.mp hb] at e
     exact hn (e ▸ ha)
   · rcases List.mem_append.mp hx with hx | hx
     · exact h x hx
     · rw [List.mem_singleton.mp hx]; exact hin
   · rcases List.mem_append.mp hx with hx | hx
     · exact h x hx
     · rw [List.mem_singleton.mp hx]; exact j X c h
def dS (S : List Pr) : List (List Key × V) := S.map fun p => (xH p.1 p.2, V.bl true)
structure PD (pd : Addr) (rows : List Rw) (rules : List zN) (H0 : Hp) (S0 : List Pr) (H : Hp) (S : List Pr) : Prop where
 was : ∃ kvs, H0 pd = some (.dT kvs)
 same : ∀ b o, b ≠ pd -> H0 b = some o -> H b = some o
 now : H pd = some (.dT (dS S))
 st : Stx rows rules S0 S
section
variable {pd p : Addr} {rows : List Rw} {rules : List zN} {H0 H : Hp} {S0 S : List Pr} {i j : Int}
theorem PD.tups (h : PD pd rows rules H0 S0 H S) : TupSame H0 H := fun b xs hb => h.same b _ (fun z => by
 obtain ⟨kvs, hk⟩ := h.was
 rw [z, hk] at hb
 cases hb) hb
theorem PD.lst (h : PD pd rows rules H0 S0 H S) {b : Addr} {xs : List V} (hb : H0 b = some (.lst xs)) : H b = some (.lst xs) := h.same b _ (fun z => by
 obtain ⟨kvs, hk⟩ := h.was
 rw [z, hk] at hb
 cases hb) hb
theorem PD.trans {H1 : Hp} {S1 : List Pr} (a : PD pd rows rules H0 S0 H1 S1) (b : PD pd rows rules H1 S1 H S) : PD pd rows rules H0 S0 H S := ⟨a.was, fun c o hc ho => b.same c o hc (a.same c o hc ho), b.now, a.st.trans b.st⟩
end
mutual
theorem DAt.keep {H H' : Hp} (ht : TupSame H H') (hl : ∀ b xs, H b = some (.lst xs) -> H' b = some (.lst xs)) : ∀ {d : Dt} {v : V}, DAt H d v -> DAt H' d v
 | .int _, v, h => h
 | .str _, v, h => h
 | .bl _, v, h => h
 | .non, v, h => h
 | .tup ds, v, h => by
   obtain ⟨a, vs, e1, e2, e3⟩ := h
   exact ⟨a, vs, e1, ht _ _ e2, DAts.keep ht hl e3⟩
 | .lst ds, v, h => by
   obtain ⟨a, vs, e1, e2, e3⟩ := h
   exact ⟨a, vs, e1, hl _ _ e2, DAts.keep ht hl e3⟩
theorem DAts.keep {H H' : Hp} (ht : TupSame H H') (hl : ∀ b xs, H b = some (.lst xs) -> H' b = some (.lst xs)) : ∀ {ds : List Dt} {vs : List V}, DAts H ds vs -> DAts H' ds vs
 | [], _, h => h
 | d :: ds, vs, h => by
   obtain ⟨v, r, e1, e2, e3⟩ := h
   exact ⟨v, r, e1, DAt.keep ht hl e2, DAts.keep ht hl e3⟩
end
abbrev s_o : Stmt := top 21
theorem sc_o : FnScope ["rows", "rules", "lines"] ["rows", "rules"] (zG s_o) := ⟨rfl, rfl, rfl, by decide +kernel, rfl, by decide +kernel, by decide +kernel⟩
structure CloOk (rows : List Rw) (rules : List zN) (ls : List Ln) : Prop where
 ok : GOk rows rules ls
 pl : Pl rows (2 * rows.length) rows.length ls
 cl : Cl rows rules ls.length ls
def prs (ls : List Ln) : List Pr := ls.map fun l => (l.i, l.j)
def spLP : Sp := fun vs H Q _ => ∃ (sa ra : Addr) (us vs' : List V) (rows : List Rw) (rules : List zN), vs = [.ref sa, .ref ra] /\ H sa = some (.lst us) /\ jQ H rows us /\ H ra = some (.lst vs') /\ DAts H (rules.map dNR) vs' /\ rows.length <= 100 /\ RowsIn rows /\ rules.length <= 100 /\ (∀ r ∈ rules, r.1.length <= 100) /\
 ∀ (pa : Addr) (as : List Addr) (ls : List Ln) H', Same H H' -> CloOk rows rules ls -> H' pa = some (.lst (as.map V.ref)) -> as.length = ls.length -> (∀ (i : Nat) (a : Addr) (l : Ln), as[i]? = some a -> ls[i]? = some l -> H' a = some (.tup [.int l.i, .int l.j])) -> Q (.ref pa) H'
section
variable {P : Program} {w : World} {K : PySem.W.Frag} {mg : Str -> Option Value} {base : Heap} {f : Addr} {fd : FuncData}
theorem ok_pairs (bi : Bi mg) (h_p : Has P w K mg base 4 "closing" ["sheet", "rules"] spClo) (F : Fun K "_law_pairs" "_law_pairs" s_o f fd) : FnOk P w K mg base CX0 5 f fd ["rows", "rules"] spLP := by
 refine F.ok sc_o (fun vs H Q E h => ?_) (fun cdv A outer s H vs Q E hr h => ?_)
 · obtain ⟨sa, ra, us, vs', rows, rules, rfl, _⟩ := h
   rfl
 obtain ⟨sa, ru, us, ws, rows, rules, rfl, hra, hrw, hru, hrl, r100, hin, u100, p100, q⟩ := h
 have hul := yQ hrw
 have hwl := yQ hrl
 refine ⟨_, (zD (zO (i := 2) sc_o.nd rfl (Or.inl rfl) (zS h_p (hr.mono (by omega)) rfl (zA (qG call_list_of rfl bi.list bt_list (zA (pv 0) pa_nil)) (zA (jL ["rule"] [] [] (yU (pv 1)) (fun _ _ _ _ nd => zQ (i := 0) nd rfl (Or.inl rfl)) (fun _ _ _ _ => xV) (fun _ _ _ _ => (zX (zA (qG (uT K) rfl bi.list bt_list (zA (zV (qU K) (pv 0) zE (fun _ _ => rfl)) pa_nil)) (zA (zV (qU K) (pv 0) zE (fun _ _ => rfl)) pa_nil))))) pa_nil)))) (zH (yN (jL ["line"] [] [] (yU (pv 2)) (fun _ _ _ _ nd => zQ (i := 0) nd rfl (Or.inl rfl)) (fun _ _ _ _ => xV) (fun _ _ _ _ => (zX (zA (zV (qU K) (pv 0) zE (fun _ _ => rfl)) (zA (zV (qU K) (pv 0) zE (fun _ _ => rfl)) pa_nil)))))))), ?_⟩
 refine zI fun N hN => ?_
 simp! []
 refine ⟨_, .inl (SqL.of hra), fun w1 v1 => ?_⟩
 have s1 := zC v1 (.lst us)
 have kw1 : upd H w1 (.lst us) w1 = some (.lst us) := zB
 generalize upd H w1 (.lst us) = H10 at s1 kw1 ⊢
 refine ⟨⟨_, SqL.of (s1 _ _ hru)⟩, ?_⟩
 refine qE (xs := ws) (fun i ys σ H2 => Same H10 H2 /\ DAts H2 ((rules.take i).map dNR) ys /\ ∃ o, σ = [o]) ⟨Same.refl _, rfl, _, rfl⟩ (zM (by omega)) (fun i ys σ H2 e => ?_) (fun i ys σ H2 e => SqL.of (e.1 _ _ (s1 _ _ hru))) (fun i x ys σ H2 C hx e hC => ?_) (fun ys σ H3 e w2 v2 => ?_)
 · have := DAts.length e.2.1
   rw [List.length_map, List.length_take] at this
   omega
 · obtain ⟨es, hys, o, rfl⟩ := e
   obtain ⟨r, hr1, hr2⟩ := xG hrl hx
   obtain ⟨a9, l9, b9, pus, rfl, ka9, kl9, kp9, kb9⟩ := nrAt (DAt.same (s1.trans es) hr2)
   simp! []
   refine ⟨_, SqT.of ka9, _, at0, l9, rfl, _, .inl (SqL.of kl9), fun w3 v3 => ?_⟩
   have s3 := zC v3 (.lst pus)
   refine ⟨_, SqT.of (s3 _ _ ka9), _, at1, zM (by simp), fun w4 v4 => hC _ _ _ ?_⟩
   have s4 := zC v4 (.tup [.ref w3, .ref b9])
   have s5 := s3.trans s4
   exact ⟨es.trans s5, mapSnoc hr1 (DAts.same s5 hys) ⟨w4, _, rfl, zB, _, _, rfl, ⟨w3, _, rfl, s4 _ _ zB, DAts.same s5 kp9⟩, _, _, rfl, ⟨b9, _, rfl, s5 _ _ kb9, _, _, rfl, rfl, _, _, rfl, rfl, rfl⟩, rfl⟩, _, rfl⟩
 obtain ⟨es, hys, o, rfl⟩ := e
 rw [hwl, List.take_of_length_le (Nat.le_refl _)] at hys
 have s2 := zC v2 (.lst ys)
 have kw2 : upd H3 w2 (.lst ys) w2 = some (.lst ys) := zB
 replace hys := DAts.same s2 hys
 replace s1 := s1.trans (es.trans s2)
 replace kw1 := s2 _ _ (es _ _ kw1)
 generalize upd H3 w2 (.lst ys) = H4 at s2 kw2 hys s1 kw1 ⊢
 refine ⟨w1, w2, us, ys, rows, rules, rfl, kw1, DAts.same s1 hrw, kw2, hys, r100, hin, u100, p100, fun la lw ln H6 s6 hla hln hok hPl hCl => hN _ _ ?_⟩
 clear hN
 have hll := yQ hln
 have hN2 : ln.length <= 40000 := by
   have h1 := hok.len
   have h2 : (2 * rows.length) * (2 * rows.length) <= 200 * 200 := Nat.mul_le_mul (by omega) (by omega)
   omega
 have sz : ∀ {n : Nat}, n <= 40000 -> n <= sizeLine := fun h => Nat.le_trans (m := 100000) (by omega) (by decide)
 simp! []
 refine ⟨⟨_, SqL.of hla⟩, ?_⟩
 refine qE (xs := lw) (fun i ys σ H' => Same H6 H' /\ (∃ as : List Addr, ys = as.map V.ref /\ as.length = i /\ ∀ (m : Nat) (a : Addr) (l : Ln), as[m]? = some a -> ln[m]? = some l -> H' a = some (.tup [.int l.i, .int l.j])) /\ ∃ o, σ = [o]) ⟨Same.refl _, ⟨[], rfl, rfl, fun m a l z => by cases z⟩, _, rfl⟩ (sz (by omega)) (fun i ys σ H' e => ?_) (fun i ys σ H' e => SqL.of (e.1 _ _ hla)) (fun i x ys σ H' C hx e hC => ?_) (fun ys σ H' e p3 hp3 => ?_)
 · obtain ⟨_, ⟨as, rfl, hal, _⟩, _⟩ := e
   rw [List.length_map]; omega
 · obtain ⟨es, ⟨as, rfl, hal, has⟩, o, rfl⟩ := e
   obtain ⟨l, hl1, hl2⟩ := xG hln hx
   obtain ⟨b, u, rfl, hb, _⟩ := lnAt (DAt.same es hl2)
   simp! []
   refine ⟨_, SqT.of hb, _, at0, _, SqT.of hb, _, at1, zM (by simp), fun p4 hp4 => hC _ _ _ ?_⟩
   have s4 := zC hp4 (.tup [.int l.i, .int l.j])
   refine ⟨es.trans s4, ⟨as ++ [p4], by rw [List.map_append]; rfl, by simp [hal], fun m a l' hm hl' => ?_⟩, _, rfl⟩
   by_cases hlt : m < as.length
   · rw [List.getElem?_append_left hlt] at hm
     exact s4 _ _ (has m a l' hm hl')
   · have hm2 := (List.getElem?_eq_some_iff.mp hm).1
     rw [List.length_append, List.length_singleton] at hm2
     have em : m = as.length := by omega
     subst em
     rw [List.getElem?_append_right (Nat.le_refl _), Nat.sub_self] at hm
     cases hm
     rw [hal, hl1] at hl'
     cases hl'
     exact zB
 obtain ⟨es, ⟨as, rfl, hal, has⟩, o, rfl⟩ := e
 have s7 := zC hp3 (.lst (as.map V.ref))
 exact q _ as ln _ (s1.trans (s6.trans (es.trans s7))) ⟨hok, hPl, hCl⟩ zB (by omega) fun i a l h1 h2 => s7 _ _ (has i a l h1 h2)
end
theorem Cl.hturn {rows : List Rw} {rules : List zN} {L : List Ln} (h : Cl rows rules L.length L) {i j : Nat} (hh : zJ L i j = true) : zJ L (tn1 j) (tn1 i) = true := by
 obtain ⟨p, l, hl, h1, h2⟩ := hasP_iff.mp hh
 rw [xE, xE]
 exact h.turn p l i j (List.getElem?_eq_some_iff.mp hl).1 hl h1 h2
theorem Cl.hclash {rows : List Rw} {rules : List zN} {L : List Ln} (h : Cl rows rules L.length L) {i n : Nat} (hh : zJ L i (tn1 i) = true) (hn : n < 2 * rows.length) : zJ L i n = true := by
 obtain ⟨p, l, hl, h1, h2⟩ := hasP_iff.mp hh
 rw [xE] at h2
 exact h.clash p l i (tnN i) (List.getElem?_eq_some_iff.mp hl).1 hl h1 h2 (xE i).symm n hn
theorem Cl.hchain {rows : List Rw} {rules : List zN} {L : List Ln} (h : Cl rows rules L.length L) {i m j : Nat} (h1 : zJ L i m = true) (h2 : zJ L m j = true) : zJ L i j = true := by
 obtain ⟨p, l, hl, a1, a2⟩ := hasP_iff.mp h1
 obtain ⟨p', l', hl', b1, b2⟩ := hasP_iff.mp h2
 exact h.chain p p' l l' i m j (List.getElem?_eq_some_iff.mp hl).1 (List.getElem?_eq_some_iff.mp hl').1 hl hl' a1 a2 b1 b2
theorem Cl.hboth {rows : List Rw} {rules : List zN} {L : List Ln} (h : Cl rows rules L.length L) {i n : Nat} {x y : Int} (h1 : zJ L i x = true) (h2 : zJ L i y = true) (hr : rows[n]? = some (.bo x y)) : zJ L i (2 * (n : Int)) = true := by
 obtain ⟨p, l, hl, a1, a2⟩ := hasP_iff.mp h1
 obtain ⟨p', l', hl', b1, b2⟩ := hasP_iff.mp h2
 rw [show 2 * (n : Int) = ((2 * n : Nat) : Int) by omega]
 exact h.both p p' l l' i n x y (List.getElem?_eq_some_iff.mp hl).1 (List.getElem?_eq_some_iff.mp hl').1 hl hl' a1 a2 b1 b2 hr
theorem Cl.hrule {rows : List Rw} {rules : List zN} {L : List Ln} (h : Cl rows rules L.length L) {r : Nat} {q : zN} (hr : rules[r]? = some q) (hi : InR rows q) (hp : ∀ p ∈ q.1, zJ L p.1 p.2 = true) : zJ L q.2.1 q.2.2 = true :=
 h.rule r q hr hi fun p hpq => by
   obtain ⟨a, l, hl, a1, a2⟩ := hasP_iff.mp (hp p hpq)
   exact ⟨a, l, (List.getElem?_eq_some_iff.mp hl).1, hl, a1, a2⟩
theorem jI {rows : List Rw} {rules : List zN} {L : List Ln} (p : Pl rows (2 * rows.length) rows.length L) (c : Cl rows rules L.length L) (hir : ∀ r ∈ rules, InR rows r) : Clo rows rules fun i j => zJ L i j = true :=
 ⟨p.same, p.low, p.high, fun k x y h => p.part k x y (List.getElem?_eq_some_iff.mp h).1 h, fun i j _ hj h => c.hclash h hj, fun i k x y _ hr h1 h2 => by
   have := c.hboth h1 h2 hr
   rwa [show 2 * (k : Int) = ((2 * k : Nat) : Int) by omega] at this, fun i m j _ _ _ h1 h2 => c.hchain h1 h2, fun i j _ _ h => c.hturn h, fun q hq hp => by
   obtain ⟨r, hr, e⟩ := List.getElem_of_mem hq
   exact c.hrule (r := r) (by rw [List.getElem?_eq_getElem hr, e]) (hir q hq) hp⟩
theorem Clo.mono {rows : List Rw} {rules rules' : List zN} {X : Int -> Int -> Prop} (c : Clo rows rules' X) (h : ∀ r ∈ rules, r ∈ rules') : Clo rows rules X :=
 ⟨c.same, c.low, c.high, c.part, c.clash, c.both, c.chain, c.turn, fun q hq hp => c.rule q (h q hq) hp⟩
theorem hasP_prs {ls : List Ln} {i j : Int} : zJ ls i j = true ↔ (i, j) ∈ prs ls := by
 rw [hasP_iff]
 unfold prs
 constructor
 · rintro ⟨k, l, hl, h1, h2⟩
   exact List.mem_map.mpr ⟨l, List.mem_of_getElem? hl, by rw [h1, h2]⟩
 · intro h
   obtain ⟨l, hl, e⟩ := List.mem_map.mp h
   obtain ⟨k, hk, ek⟩ := List.getElem_of_mem hl
   exact ⟨k, l, by rw [List.getElem?_eq_getElem hk, ek], congrArg Prod.fst e, congrArg Prod.snd e⟩
theorem clo_in {rows : List Rw} {rules : List zN} {ls : List Ln} {X : Int -> Int -> Prop} (h : CloOk rows rules ls) (c : Clo rows rules X) : ∀ p ∈ prs ls, X p.1 p.2 := fun p hp => by
 obtain ⟨l, hl, e⟩ := List.mem_map.mp hp
 obtain ⟨k, hk, ek⟩ := List.getElem_of_mem hl
 have := lines_in c h.ok k l (by rw [List.getElem?_eq_getElem hk, ek])
 rw [← e]
 exact this
theorem qX {rows : List Rw} {rules rules' : List zN} {ls ls' : List Ln} (h : CloOk rows rules ls) (h' : CloOk rows rules' ls') (hir : ∀ r ∈ rules', InR rows r) (hs : ∀ r ∈ rules, r ∈ rules') : ∀ p ∈ prs ls, p ∈ prs ls' := fun p hp =>
 hasP_prs.mp (clo_in h ((jI h'.pl h'.cl hir).mono hs) p hp)
theorem clo_idle {rows : List Rw} {rules rules' : List zN} {ls ls' : List Ln} (h : CloOk rows rules ls) (h' : CloOk rows rules' ls') (hir : ∀ r ∈ rules, InR rows r) (hs : ∀ r ∈ rules', r ∈ rules \/ r.2 ∈ prs ls) : ∀ p ∈ prs ls', p ∈ prs ls := fun p hp => by
 have c := jI h.pl h.cl hir
 refine hasP_prs.mp (clo_in h' (X := fun i j => zJ ls i j = true) ⟨c.same, c.low, c.high, c.part, c.clash, c.both, c.chain, c.turn, fun q hq hp => ?_⟩ p hp)
 rcases hs q hq with hq | hq
 · exact c.rule q hq hp
 · exact hasP_prs.mpr hq
theorem clo_free {rows : List Rw} {rules : List zN} {ls : List Ln} (h : CloOk rows rules ls) (hir : ∀ r ∈ rules, InR rows r) {p : Pr} (hp : ([], p) ∈ rules) : p ∈ prs ls :=
 hasP_prs.mp ((jI h.pl h.cl hir).rule _ hp fun _ z => by cases z)
theorem prs_nodup {rows : List Rw} {rules : List zN} {ls : List Ln} (h : GOk rows rules ls) : (prs ls).Nodup := by
 unfold prs
 rw [List.nodup_iff_pairwise_ne, List.pairwise_map, List.pairwise_iff_getElem]
 intro a b ha hb hab e
 have := h.dis a b _ _ (List.getElem?_eq_getElem ha) (List.getElem?_eq_getElem hb) (congrArg Prod.fst e) (congrArg Prod.snd e)
 omega
theorem rise_ext : ∀ {l m : List Int}, l.Pairwise (· < ·) -> m.Pairwise (· < ·) -> (∀ x, x ∈ l ↔ x ∈ m) -> l = m
 | [], [], _, _, _ => rfl
 | [], y :: m, _, _, h => absurd ((h y).mpr List.mem_cons_self) (by simp)
 | x :: l, [], _, _, h => absurd ((h x).mp List.mem_cons_self) (by simp)
 | x :: l, y :: m, hl, hm, h => by
   have hl' := List.pairwise_cons.mp hl
   have hm' := List.pairwise_cons.mp hm
   have e : x = y := by
     rcases List.mem_cons.mp ((h x).mp List.mem_cons_self) with e | hx
     · exact e
     · rcases List.mem_cons.mp ((h y).mpr List.mem_cons_self) with e | hy
       · exact e.symm
       · have := hm'.1 x hx
         have := hl'.1 y hy
         omega
   subst e
   rw [rise_ext hl'.2 hm'.2 fun z => ?_]
   constructor
   · intro hz
     rcases List.mem_cons.mp ((h z).mp (List.mem_cons_of_mem _ hz)) with e | hz'
     · have := hl'.1 z hz
       omega
     · exact hz'
   · intro hz
     rcases List.mem_cons.mp ((h z).mpr (List.mem_cons_of_mem _ hz)) with e | hz'
     · have := hm'.1 z hz
       omega
     · exact hz'
def kyP (p : Pr) : Int := 1000 * p.1 + p.2
def Sml (p : Pr) : Prop := (0 <= p.1 /\ p.1 < 1000) /\ 0 <= p.2 /\ p.2 < 1000
theorem kyP_inj {p q : Pr} (hp : Sml p) (hq : Sml q) (e : kyP p = kyP q) : p = q := by
 unfold kyP at e
 unfold Sml at hp hq
 exact Prod.ext (by omega) (by omega)
theorem uF {α β : Type} {f : α -> β} : ∀ {l m : List α}, (∀ x ∈ l, ∀ y ∈ m, f x = f y -> x = y) -> l.map f = m.map f -> l = m
 | [], [], _, _ => rfl
 | [], y :: m, _, h => by cases h
 | x :: l, [], _, h => by cases h
 | x :: l, y :: m, hi, h => by
   rw [List.map_cons, List.map_cons] at h
   have h1 := (List.cons.inj h).1
   have h2 := (List.cons.inj h).2
   rw [hi x List.mem_cons_self y List.mem_cons_self h1, uF (fun a ha b hb => hi a (List.mem_cons_of_mem _ ha) b (List.mem_cons_of_mem _ hb)) h2]
theorem sort_one {A B : List Pr} (hA : A.Nodup) (hB : B.Nodup) (sA : ∀ p ∈ A, Sml p) (sB : ∀ p ∈ B, Sml p) (rA : A.Pairwise fun x y => kyP x <= kyP y) (rB : B.Pairwise fun x y => kyP x <= kyP y) (h : ∀ p, p ∈ A ↔ p ∈ B) : A = B := by
 have st : ∀ {A : List Pr}, A.Nodup -> (∀ p ∈ A, Sml p) -> (A.Pairwise fun x y => kyP x <= kyP y) -> (A.map kyP).Pairwise (· < ·) := by
   intro A hA sA rA
   rw [List.pairwise_map]
   rw [List.pairwise_iff_getElem] at rA ⊢
   intro i j hi hj hij
   have h1 := rA i j hi hj hij
   have h2 : A[i] ≠ A[j] := (List.pairwise_iff_getElem.mp hA) i j hi hj hij
   have h3 : kyP A[i] ≠ kyP A[j] := fun e => h2 (kyP_inj (sA _ (List.getElem_mem hi)) (sA _ (List.getElem_mem hj)) e)
   omega
 refine uF (f := kyP) (fun x hx y hy e => kyP_inj (sA x hx) (sB y hy) e) (rise_ext (st hA sA rA) (st hB sB rB) fun z => ?_)
 rw [List.mem_map, List.mem_map]
 constructor
 · rintro ⟨p, hp, e⟩
   exact ⟨p, (h p).mp hp, e⟩
 · rintro ⟨p, hp, e⟩
   exact ⟨p, (h p).mpr hp, e⟩
abbrev s_u : Stmt := top 22
theorem sc_u : FnScope ["script", "made", "rows", "rules", "top", "first", "due", "again", "draw", "pair", "at", "more", "one", "low", "idle"] ["script"] (zG s_u) := ⟨rfl, rfl, rfl, by decide +kernel, rfl, by decide +kernel, by decide +kernel⟩
def spLaw (K : PySem.W.Frag) : Sp := fun vs H Q _ => ∃ (a : Addr) (ns : List Int), vs = [.ref a] /\ SqL K H a (ns.map V.int) /\ ns.length <= 63 /\ ∀ H', Q (.bl true) H'
theorem p1012 : (0 : Int) < 10 ^ Int.toNat 12 := by show (0 : Int) < 10 ^ 12; simp
def pfH (H : Hp) (a : Addr) : Pr := match H a with
 | some (.tup [.int i, .int j]) => (i, j)
 | _ => (0, 0)
theorem pfH_of {H : Hp} {a : Addr} {i j : Int} (h : H a = some (.tup [.int i, .int j])) : pfH H a = (i, j) := by
 unfold pfH
 rw [h]
def PsAt (H : Hp) (as : List Addr) (ls : List Ln) : Prop := as.length = ls.length /\ ∀ (i : Nat) (a : Addr) (l : Ln), as[i]? = some a -> ls[i]? = some l -> H a = some (.tup [.int l.i, .int l.j])
theorem PsAt.same {H H' : Hp} {as : List Addr} {ls : List Ln} (s : Same H H') (h : PsAt H as ls) : PsAt H' as ls := ⟨h.1, fun i a l h1 h2 => s _ _ (h.2 i a l h1 h2)⟩
theorem PsAt.map {H : Hp} {as : List Addr} {ls : List Ln} (h : PsAt H as ls) : as.map (pfH H) = prs ls := by
 unfold prs
 refine List.ext_getElem (by simp [h.1]) fun i h1 h2 => ?_
 rw [List.getElem_map, List.getElem_map]
 rw [List.length_map] at h1 h2
 exact pfH_of (h.2 i _ _ (List.getElem?_eq_getElem h1) (List.getElem?_eq_getElem h2))
theorem PsAt.at {H : Hp} {as : List Addr} {ls : List Ln} (h : PsAt H as ls) : ∀ a ∈ as, H a = some (.tup [.int (pfH H a).1, .int (pfH H a).2]) /\ pfH H a ∈ prs ls := fun a ha => by
 obtain ⟨i, hi, e⟩ := List.getElem_of_mem ha
 have hi' : i < ls.length := by rw [← h.1]; exact hi
 have := h.2 i a _ (by rw [List.getElem?_eq_getElem hi, e]) (List.getElem?_eq_getElem hi')
 rw [pfH_of this]
 exact ⟨this, List.mem_map.mpr ⟨_, List.getElem_mem hi', rfl⟩⟩
theorem jY {rows : List Rw} {rules : List zN} {ls : List Ln} (h : GOk rows rules ls) (hr : rows.length <= 100) : ∀ p ∈ prs ls, Sml p := fun p hp => by
 obtain ⟨l, hl, rfl⟩ := List.mem_map.mp hp
 obtain ⟨k, hk, e⟩ := List.getElem_of_mem hl
 have := h.snd k l (by rw [List.getElem?_eq_getElem hk, e])
 unfold yR at this
 split at this
 · cases this
 · next c =>
   have c1 : (0 <= l.i /\ l.i < 2 * rows.length) /\ (0 <= l.j /\ l.j < 2 * rows.length) := by
     by_cases a : 0 <= l.i /\ l.i < 2 * rows.length
     · by_cases b : 0 <= l.j /\ l.j < 2 * rows.length
       · exact ⟨a, b⟩
       · exact absurd (.inr b) c
     · exact absurd (.inl a) c
   unfold Sml
   dsimp only
   omega
def DueAt (H : Hp) (p : Addr) (A : List Pr) (ls : List Ln) : Prop := (∃ as' : List Addr, H p = some (.lst (as'.map V.ref)) /\ DAts H (A.map dPr) (as'.map V.ref)) /\ A.Nodup /\ (∀ q ∈ A, Sml q) /\ (A.Pairwise fun x y => kyP x <= kyP y) /\ A.Perm (prs ls)
theorem wG {H : Hp} {a : Addr} {p : Pr} (h : H a = some (.tup [.int p.1, .int p.2])) : DAt H (dPr p) (.ref a) := ⟨a, _, rfl, h, _, _, rfl, rfl, _, _, rfl, rfl, rfl⟩
theorem wF {H : Hp} : ∀ {as : List Addr}, (∀ a ∈ as, H a = some (.tup [.int (pfH H a).1, .int (pfH H a).2])) -> DAts H ((as.map (pfH H)).map dPr) (as.map V.ref)
 | [], _ => rfl
 | a :: as, h => ⟨_, _, rfl, wG (h a List.mem_cons_self), wF fun b hb => h b (List.mem_cons_of_mem _ hb)⟩
theorem due_of {H H' : Hp} {as as' : List Addr} {ls : List Ln} {rows : List Rw} {rules : List zN} {p : Addr} (hc : CloOk rows rules ls) (hr : rows.length <= 100) (h : PsAt H as ls) (hp : as'.Perm as)
   (hs : as'.Pairwise fun x y => 1000 * (pfH H x).1 + (pfH H x).2 <= 1000 * (pfH H y).1 + (pfH H y).2) (s : Same H H') (k : H' p = some (.lst (as'.map V.ref))) : DueAt H' p (as'.map (pfH H)) ls := by
 have hm : (as'.map (pfH H)).Perm (prs ls) := by rw [← h.map]; exact hp.map _
 refine ⟨⟨as', k, DAts.same s (wF fun a ha => (h.at a (hp.mem_iff.mp ha)).1)⟩, hm.nodup_iff.mpr (prs_nodup hc.ok), fun q hq => jY hc.ok hr q (hm.mem_iff.mp hq), ?_, hm⟩
 rw [List.pairwise_map]
 exact hs
theorem dats_rev {H : Hp} : ∀ {ds : List Dt} {vs : List V}, DAts H ds vs -> DAts H ds.reverse vs.reverse
 | [], vs, h => by
   have h : vs = [] := h
   subst h
   rfl
 | d :: ds, vs, h => by
   obtain ⟨v, r, rfl, h1, h2⟩ := h
   rw [List.reverse_cons, List.reverse_cons]
   exact DAts.append (dats_rev h2) (DAts.one h1)
theorem cutV_to {xs : List V} {k : Nat} (h : k <= xs.length) : uK xs none (some (k : Int)) = xs.take k := by
 unfold uK
 rw [HT.sIx_none, HT.sIx_nat, Nat.min_eq_left h]
 rfl
theorem vH {xs : List V} {k : Nat} (h : k <= xs.length) : uK xs (some (k : Int)) none = xs.drop k := by
 unfold uK
 rw [HT.sIx_none, HT.sIx_nat, Nat.min_eq_left h]
 exact List.take_of_length_le (by rw [List.length_drop]; exact Nat.le_refl _)
theorem among {rules : List zN} {k : Nat} {r : zN} {x : zN} : x ∈ rules.take k ++ [r] ++ rules.drop k ↔ x = r \/ x ∈ rules := by
 constructor
 · intro h
   rcases List.mem_append.mp h with h | h
   · rcases List.mem_append.mp h with h | h
     · exact .inr (List.mem_of_mem_take h)
     · exact .inl (List.mem_singleton.mp h)
   · exact .inr (List.mem_of_mem_drop h)
 · rintro (rfl | h)
   · exact List.mem_append_left _ (List.mem_append_right _ (List.mem_singleton.mpr rfl))
   · rw [← List.take_append_drop k rules] at h
     rcases List.mem_append.mp h with h | h
     · exact List.mem_append_left _ (List.mem_append_left _ h)
     · exact List.mem_append_right _ h
theorem any_pr {A : List Pr} {p : Pr} (h : p ∈ A) : ((A.map dPr).any fun e => deq e (dPr p)) = true :=
 List.any_eq_true.mpr ⟨_, List.mem_map.mpr ⟨p, h, rfl⟩, deq_refl _⟩
theorem fit_prs (n : Nat) {A : List Pr} (h : A.length <= 1000) : DFit (n + 2) (.lst (A.map dPr)) := ⟨by rw [List.length_map]; exact h, fun d hd => by
 obtain ⟨p, _, rfl⟩ := List.mem_map.mp hd
 exact fit_pr n p⟩
theorem fit_prA (n : Nat) (A : List Pr) : ∀ e ∈ A.map dPr, DFit (n + 1) e := fun e he => by
 obtain ⟨p, _, rfl⟩ := List.mem_map.mp he
 exact fit_pr n p
theorem DueAt.go {H H' : Hp} {p : Addr} {A : List Pr} {ls : List Ln} (s : Same H H') (h : DueAt H p A ls) : DueAt H' p A ls :=
 ⟨let ⟨as', k, d⟩ := h.1; ⟨as', s _ _ k, DAts.same s d⟩, h.2⟩
theorem DueAt.dat {H : Hp} {p : Addr} {A : List Pr} {ls : List Ln} (h : DueAt H p A ls) : DAt H (.lst (A.map dPr)) (.ref p) :=
 let ⟨as', k, d⟩ := h.1; ⟨p, _, rfl, k, d⟩
theorem due_same {H H' : Hp} {p p' : Addr} {A B : List Pr} {ls ls' : List Ln} (h : DueAt H p A ls) (h' : DueAt H' p' B ls') (e : ∀ x, x ∈ prs ls ↔ x ∈ prs ls') : A = B :=
 sort_one h.2.1 h'.2.1 h.2.2.1 h'.2.2.1 h.2.2.2.1 h'.2.2.2.1 fun x => by rw [h.2.2.2.2.mem_iff, e, h'.2.2.2.2.mem_iff]
theorem DueAt.len {H : Hp} {p : Addr} {A : List Pr} {ls : List Ln} {rows : List Rw} {rules : List zN} (h : DueAt H p A ls) (c : GOk rows rules ls) (r : rows.length <= 6) : A.length <= 1000 := by
 have h1 := c.len
 have h2 : (2 * rows.length) * (2 * rows.length) <= 12 * 12 := Nat.mul_le_mul (by omega) (by omega)
 have h3 := h.2.2.2.2.length_eq
 unfold prs at h3
 rw [List.length_map] at h3
 omega
theorem ls_len {rows : List Rw} {rules : List zN} {ls : List Ln} (c : GOk rows rules ls) (r : rows.length <= 6) : ls.length <= 144 := by
 have h1 := c.len
 have h2 : (2 * rows.length) * (2 * rows.length) <= 12 * 12 := Nat.mul_le_mul (by omega) (by omega)
 omega
theorem prs_in {rows : List Rw} {rules : List zN} {ls : List Ln} (h : GOk rows rules ls) : ∀ p ∈ prs ls, (0 <= p.1 /\ p.1 < 2 * (rows.length : Int)) /\ 0 <= p.2 /\ p.2 < 2 * (rows.length : Int) := fun p hp => by
 obtain ⟨l, hl, rfl⟩ := List.mem_map.mp hp
 obtain ⟨k, hk, e⟩ := List.getElem_of_mem hl
 have := h.snd k l (by rw [List.getElem?_eq_getElem hk, e])
 unfold yR at this
 split at this
 · cases this
 · next c =>
   by_cases a : 0 <= l.i /\ l.i < 2 * rows.length
   · by_cases b : 0 <= l.j /\ l.j < 2 * rows.length
     · exact ⟨a, b⟩
     · exact absurd (.inr b) c
   · exact absurd (.inl a) c
section
variable {P : Program} {w : World} {K : PySem.W.Frag} {mg : Str -> Option Value} {base : Heap} {f : Addr} {fd : FuncData}
theorem ok_law (bi : Bi mg) (brv : mg "reversed" = none) (h_n : Has P w K mg base 1 "_law_cell_at" ["script", "k"] (spCell K)) (h_a : Has P w K mg base 2 "_law_sheet_and_rules" ["script", "most", "many"] (spSR K)) (h_o : Has P w K mg base 5 "_law_pairs" ["rows", "rules"] spLP)
   (F : Fun K "law" "law" s_u f fd) : FnOk P w K mg base CX0 65 f fd ["script"] (spLaw K) := by
 refine F.ok sc_u (fun vs H Q E h => ?_) (fun cdv A outer s H vs Q E hr h => ?_)
 · obtain ⟨a, ns, rfl, _⟩ := h
   rfl
 obtain ⟨a, ns, rfl, hS, hl, q⟩ := h
 refine ⟨_, (zD (zO (i := 1) sc_u.nd rfl (Or.inl rfl) (zS h_a (hr.mono (by omega)) rfl (zA (xT sl_list (pv 0) (jK zE) po_none) (zA zE (zA zE pa_nil))))) (zD (zO (i := 2) sc_u.nd rfl (Or.inl rfl) (zV ix_tup (pv 1) zE (fun _ _ => rfl))) (zD (zO (i := 3) sc_u.nd rfl (Or.inl rfl) (zV ix_tup (pv 1) zE (fun _ _ => rfl))) (zD (zO (i := 4) sc_u.nd rfl (Or.inl rfl) (zK op_mul zE (zP call_len rfl bi.len bt_len (zA (pv 2) pa_nil)))) (zD (zO (i := 5) sc_u.nd rfl (Or.inl rfl) (zS h_o (hr.mono (by omega)) rfl (zA (pv 2) (zA (pv 3) pa_nil)))) (zD (zO (i := 6) sc_u.nd rfl (Or.inl rfl) (zP call_sortedQ rfl bi.sorted bt_sorted (zA (pv 5) pa_nil))) (zD (zO (i := 7) sc_u.nd rfl (Or.inl rfl) (pe_listRev rfl bi.list rfl brv rfl (zA (pv 3) pa_nil))) (zD (xD (yC op_gt (zP call_len rfl bi.len bt_len (zA (pv 3) pa_nil)) zE (yP _)) (zH (zT (qB PySem.F.plainAttrs_list PySem.F.slot_list_append PySem.F.type_list_append mt_append (pv 7) (zA (zV ix_list (pv 3) (zK op_mod (zS h_n (hr.mono (by omega)) rfl (zA (pv 0) (zA zE pa_nil))) (zP call_len rfl bi.len bt_len (zA (pv 3) pa_nil))) (fun _ _ => rfl)) pa_nil)))) pss_nil) (zD (xD (yC (op_neG hr.units) (zP call_sortedQ rfl bi.sorted bt_sorted (zA (zS h_o (hr.mono (by omega)) rfl (zA (pv 2) (zA (pv 7) pa_nil))) pa_nil)) (pv 6) (yP _)) (zH (yN pe_bl)) pss_nil) (zD (zO (i := 8) sc_u.nd rfl (Or.inl rfl) (zK op_mod (zS h_n (hr.mono (by omega)) rfl (zA (pv 0) (zA zE pa_nil))) (zK op_pow zE zE))) (zD (zO (i := 9) sc_u.nd rfl (Or.inl rfl) (zX (zA (zK op_mod (pv 8) (pv 4)) (zA (zK op_mod (zK op_fdiv (pv 8) (pv 4)) (pv 4)) pa_nil)))) (zD (zO (i := 10) sc_u.nd rfl (Or.inl rfl) (zK op_mod (zK op_fdiv (pv 8) zE) (zK op_add (zP call_len rfl bi.len bt_len (zA (pv 3) pa_nil)) zE))) (zD (zO (i := 11) sc_u.nd rfl (Or.inl rfl) (zS h_o (hr.mono (by omega)) rfl (zA (pv 2) (zA (zK op_cat (zK op_cat (xT sl_list (pv 3) po_none (jK (pv 10))) (yV (zA (zX (zA (yV pa_nil) (zA (pv 9) pa_nil))) pa_nil))) (xT sl_list (pv 3) (jK (pv 10)) po_none)) pa_nil)))) (zD (xD (yC (qH hr.units) (pv 9) (pv 11) (by with_unfolding_all rfl)) (zH (yN pe_bl)) pss_nil) (zD (yZ PassesOwn.never rfl (yU (pv 6)) (zQ (i := 12) sc_u.nd rfl (Or.inl rfl)) (zH (xD (yC (qH hr.units) (pv 12) (pv 11) (by with_unfolding_all rfl)) (zH (yN pe_bl)) pss_nil))) (zD (zO (i := 13) sc_u.nd rfl (Or.inl rfl) (zK op_mod (zS h_n (hr.mono (by omega)) rfl (zA (pv 0) (zA zE pa_nil))) (zK op_pow zE zE))) (zD (zO (i := 14) sc_u.nd rfl (Or.inl rfl) (zX (zA (yV (zA (zX (zA (zK op_mod (pv 13) (pv 4)) (zA (zK op_mod (zK op_fdiv (pv 13) (pv 4)) (pv 4)) pa_nil))) pa_nil)) (zA (zV ix_list (pv 5) (zK op_mod (zK op_fdiv (pv 13) zE) (zP call_len rfl bi.len bt_len (zA (pv 5) pa_nil))) (fun _ _ => rfl)) pa_nil)))) (zH (yN (pe_cmpR (op_eqG hr.units) (zP call_sortedQ rfl bi.sorted bt_sorted (zA (zS h_o (hr.mono (by omega)) rfl (zA (pv 2) (zA (zK op_cat (zK op_cat (xT sl_list (pv 3) po_none (jK (pv 10))) (yV (zA (pv 14) pa_nil))) (xT sl_list (pv 3) (jK (pv 10)) po_none)) pa_nil))) pa_nil)) (pv 6) (yP _))))))))))))))))))))), ?_⟩
 have hcl := cutI_len ns (some 3) none
 refine zI fun N hN => ?_
 simp! []
 refine ⟨_, hS, fun p0 hp0 => ?_⟩
 rw [cut_ints]
 have g0 := zC hp0 (.lst ((wH ns (some 3) none).map V.int))
 have k0 : upd H p0 (.lst ((wH ns (some 3) none).map V.int)) p0 = some (.lst ((wH ns (some 3) none).map V.int)) := zB
 generalize upd H p0 (.lst ((wH ns (some 3) none).map V.int)) = H1 at g0 k0 ⊢
 refine ⟨p0, _, _, _, rfl, SqL.of k0, by omega, fun mp ra ru us ws rows rules H2 s2 kmp hra hrw hru hrl r1 r100 r6 u100 p100 hin hir => hN _ _ ?_⟩
 have hul := yQ hrw
 have hwl := yQ hrl
 have hS := Same.seq (g0.trans s2) hS
 clear hN
 refine zI fun N hN => ?_
 simp! []
 refine ⟨_, SqT.of kmp, _, at0, hN _ _ ?_⟩
 refine zI fun N hN => ?_
 simp! []
 refine ⟨_, SqT.of kmp, _, at1, hN _ _ ?_⟩
 clear hN kmp
 refine zI fun N hN => ?_
 simp! []
 refine ⟨us.length, .inl ⟨_, SqL.of hra, rfl⟩, .inl ⟨by decide, by decide⟩, hN _ _ ?_⟩
 clear hN
 rw [show 2 * (us.length : Int) = ((2 * rows.length : Nat) : Int) by omega]
 refine zI fun N hN => ?_
 simp! []
 refine ⟨ra, ru, us, ws, rows, rules, rfl, hra, hrw, hru, hrl, r100, hin, by omega, p100, fun pa as ls H3 s3 hck kpa hal hat => hN _ _ ?_⟩
 clear hN
 have hps : PsAt H3 as ls := ⟨hal, hat⟩
 clear hal hat
 have hsm := jY hck.ok r100
 have hlen : as.length <= 40000 := by
   have h1 := hck.ok.len
   have h2 : (2 * rows.length) * (2 * rows.length) <= 200 * 200 := Nat.mul_le_mul (by omega) (by omega)
   have := hps.1
   omega
 refine zI fun N hN => ?_
 simp! []
 refine ⟨as, kpa, by omega, pfH H3, fun a ha => ⟨(hps.at a ha).1, (hsm _ (hps.at a ha).2).1.1, (hsm _ (hps.at a ha).2).1.2, (hsm _ (hps.at a ha).2).2.1, (hsm _ (hps.at a ha).2).2.2⟩, fun pd as' hpd hperm hrise => hN _ _ ?_⟩
 clear hN
 have hdue := due_of hck r100 hps hperm hrise (zC hpd (.lst (as'.map V.ref))) zB
 have g4 := zC hpd (.lst (as'.map V.ref))
 generalize upd H3 pd (.lst (as'.map V.ref)) = H4 at g4 hdue ⊢
 have s4 := s3.trans g4
 have hps4 := hps.same g4
 have kpa4 := g4 _ _ kpa
 have hra4 := s4 _ _ hra
 have hrw4 := DAts.same s4 hrw
 have hru4 := s4 _ _ hru
 have hrl4 := DAts.same s4 hrl
 have hS4 := Same.seq s4 hS
 have kpfH : as.map (pfH H3) = prs ls := hps.map
 generalize as'.map (pfH H3) = due at hdue
 clear hS hra hrw hru hrl s4 g4 hperm hrise hpd kpa hps s3 kpfH
 refine zI fun N hN => ?_
 simp! [tLR]
 refine ⟨ws, hru4, fun pg hpg => hN _ _ ?_⟩
 clear hN
 refine yH (fun σ H5 => ∃ (xs : List V) (rules' : List zN), Same H4 H5 /\ H5 pg = some (.lst xs) /\ DAts H5 (rules'.map dNR) xs /\ (∀ r, r ∈ rules' ↔ r ∈ rules) /\ rules'.length <= 100 /\ σ = [some (V.ref a), some (V.ref mp), some (V.ref ra), some (V.ref ru), some (V.int ((2 * rows.length : Nat) : Int)), some (V.ref pa), some (V.ref pd), some (V.ref pg), none, none, none, none, none, none, none]) (fun N hN => ?_) (fun σ H5 h => ?_)
 · simp! []
   have g5 := zC hpg (.lst ws.reverse)
   have k5 : upd H4 pg (.lst ws.reverse) pg = some (.lst ws.reverse) := zB
   have hrev : DAts H4 (rules.reverse.map dNR) ws.reverse := by rw [List.map_reverse]; exact dats_rev hrl4
   generalize upd H4 pg (.lst ws.reverse) = H5 at g5 k5 ⊢
   refine ⟨ws.length, .inl ⟨_, SqL.of (g5 _ _ hru4), rfl⟩, ?_⟩
   split
   · rename_i hpos
     have hx0 := Int.emod_nonneg (ns.getD 0 0) (show (ws.length : Int) ≠ 0 by omega)
     have hx1 := Int.emod_lt_of_pos (ns.getD 0 0) hpos
     have hx : ((ns.getD 0 0) % (ws.length : Int)).toNat < rules.length := by omega
     obtain ⟨v, hv1, hv2⟩ := DAts.get (d := dNR rules[((ns.getD 0 0) % (ws.length : Int)).toNat]) hrl4 (by rw [List.getElem?_map, List.getElem?_eq_getElem hx]; rfl)
     have s6 := g5.upd (o := .lst (ws.reverse ++ [v])) hpg
     refine ⟨.inl ⟨rfl, _, SqL.of k5⟩, a, ns, 0, rfl, Same.seq g5 hS4, ws.length, .inl ⟨_, SqL.of (g5 _ _ hru4), rfl⟩, _, rfl, hpos, ws, SqL.of (g5 _ _ hru4), v, at_toNat hx0 hv1, _, k5, zM (by rw [List.length_reverse]; omega), hN _ _ ⟨ws.reverse ++ [v], rules.reverse ++ [rules[((ns.getD 0 0) % (ws.length : Int)).toNat]], s6, zB, ?_, fun r => ?_, ?_, rfl⟩⟩
     · rw [List.map_append]
       exact DAts.append (DAts.same s6 hrev) (DAts.one (DAt.same s6 hv2))
     · rw [List.mem_append, List.mem_reverse, List.mem_singleton]
       exact ⟨fun h => h.elim id fun e => e ▸ List.getElem_mem hx, .inl⟩
     · rw [List.length_append, List.length_reverse, List.length_singleton]
       omega
   · exact hN _ _ ⟨_, rules.reverse, g5, k5, DAts.same g5 hrev, fun r => List.mem_reverse, by rw [List.length_reverse]; omega, rfl⟩
 clear hpg
 obtain ⟨xs, rules', s5, kpg, hxs, hmem, h100, rfl⟩ := h
 refine zI fun N hN => ?_
 simp! []
 refine ⟨ra, pg, us, xs, rows, rules', rfl, s5 _ _ hra4, DAts.same s5 hrw4, kpg, hxs, r100, hin, h100, fun r hr => p100 r ((hmem r).mp hr), fun pb bs ls2 H6 s6 hck2 kpb hbl hbt => ?_⟩
 have hps2 : PsAt H6 bs ls2 := ⟨hbl, hbt⟩
 clear hbl hbt
 have r6' : rows.length <= 6 := by omega
 have hsm2 := jY hck2.ok r100
 have hl2 := ls_len hck2.ok r6'
 have hl22 := hps2.1
 refine ⟨pb, rfl, bs, kpb, by omega, pfH H6, fun a ha => ⟨(hps2.at a ha).1, (hsm2 _ (hps2.at a ha).2).1.1, (hsm2 _ (hps2.at a ha).2).1.2, (hsm2 _ (hps2.at a ha).2).2.1, (hsm2 _ (hps2.at a ha).2).2.2⟩, fun pe es hpe hperm hrise => ?_⟩
 have hdue2 := due_of hck2 r100 hps2 hperm hrise (zC hpe (.lst (es.map V.ref))) zB
 have g7 := zC hpe (.lst (es.map V.ref))
 generalize upd H6 pe (.lst (es.map V.ref)) = H7 at g7 hdue2 ⊢
 generalize es.map (pfH H6) = due2 at hdue2
 have s7 := s5.trans (s6.trans g7)
 have hD := hdue.go s7
 have hirR : ∀ r ∈ rules, InR rows r := hir
 have e := due_same hdue2 hD fun x => ⟨qX hck2 hck hirR (fun r hr => (hmem r).mp hr) x, qX hck hck2 (fun r hr => hir r ((hmem r).mp hr)) (fun r hr => (hmem r).mpr hr) x⟩
 refine ⟨2, .lst (due2.map dPr), .lst (due.map dPr), hdue2.dat, hD.dat, fit_prs 1 (hdue2.len hck2.ok r6'), by omega, _, rfl, ?_⟩
 rw [e, deq_refl]
 refine hN _ _ ?_
 clear hN hdue2 hD e
 have hra5 := s7 _ _ hra4
 have hrw5 := DAts.same s7 hrw4
 have hru5 := s7 _ _ hru4
 have hrl5 := DAts.same s7 hrl4
 have hS5 := Same.seq s7 hS4
 have hdue5 := hdue.go s7
 have hps5 := hps4.same s7
 have kpa5 := s7 _ _ kpa4
 clear hra4 hrw4 hru4 hrl4 hS4 hdue hps4 kpa4 s7 g7 hperm hrise hpe hps2 kpb s6 hxs kpg s5 hsm2
 refine zI fun N hN => ?_
 simp! []
 refine ⟨a, ns, 1, rfl, hS5, ⟨by decide, by decide, by decide⟩, _, rfl, p1012, hN _ _ ?_⟩
 clear hN
 have hd0 := Int.emod_nonneg (ns.getD 1 0) (Int.ne_of_gt p1012)
 generalize ns.getD 1 0 % 10 ^ Int.toNat 12 = dr at hd0 ⊢
 refine zI fun N hN => ?_
 simp! []
 refine ⟨by omega, ⟨by omega, by omega⟩, by omega, zM (by simp), fun pp hpp => hN _ _ ?_⟩
 clear hN
 have i0l := Int.emod_nonneg dr (show ((2 * rows.length : Nat) : Int) ≠ 0 by omega)
 have i0u := Int.emod_lt_of_pos dr (show (0 : Int) < ((2 * rows.length : Nat) : Int) by omega)
 have j0l := Int.emod_nonneg (dr / ((2 * rows.length : Nat) : Int)) (show ((2 * rows.length : Nat) : Int) ≠ 0 by omega)
 have j0u := Int.emod_lt_of_pos (dr / ((2 * rows.length : Nat) : Int)) (show (0 : Int) < ((2 * rows.length : Nat) : Int) by omega)
 generalize dr % ((2 * rows.length : Nat) : Int) = i0 at i0l i0u ⊢
 generalize dr / ((2 * rows.length : Nat) : Int) % ((2 * rows.length : Nat) : Int) = j0 at j0l j0u ⊢
 have s8 := zC hpp (.tup [.int i0, .int j0])
 have kpp : upd H7 pp (.tup [.int i0, .int j0]) pp = some (.tup [.int i0, .int j0]) := zB
 generalize upd H7 pp (.tup [.int i0, .int j0]) = H8 at s8 kpp ⊢
 have hra6 := s8 _ _ hra5
 have hrw6 := DAts.same s8 hrw5
 have hru6 := s8 _ _ hru5
 have hrl6 := DAts.same s8 hrl5
 have hS6 := Same.seq s8 hS5
 have hdue6 := hdue5.go s8
 have hps6 := hps5.same s8
 have kpa6 := s8 _ _ kpa5
 clear hra5 hrw5 hru5 hrl5 hS5 hdue5 hps5 kpa5 s8 hpp
 refine zI fun N hN => ?_
 simp! []
 refine ⟨⟨by decide, by decide⟩, ws.length, .inl ⟨_, SqL.of hru6, rfl⟩, by omega, hN _ _ ?_⟩
 clear hN
 obtain ⟨k, hk⟩ : ∃ k : Nat, dr / 600 % ((ws.length : Int) + 1) = (k : Int) := ⟨_, (Int.toNat_of_nonneg (Int.emod_nonneg _ (by omega))).symm⟩
 have hkl : k <= ws.length := by
   have := Int.emod_lt_of_pos (dr / 600) (show (0 : Int) < (ws.length : Int) + 1 by omega)
   omega
 rw [hk]
 refine zI fun N hN => ?_
 simp! []
 refine ⟨ws, SqL.of hru6, fun p1 hp1 => ?_⟩
 rw [cutV_to hkl]
 have a1 := zC hp1 (.lst (ws.take k))
 have b1 : upd H8 p1 (.lst (ws.take k)) p1 = some (.lst (ws.take k)) := zB
 generalize upd H8 p1 (.lst (ws.take k)) = J1 at a1 b1 ⊢
 refine ⟨zM (by simp), fun p2 hp2 => ?_⟩
 have a2 := zC hp2 (.lst [])
 have b2 : upd J1 p2 (.lst []) p2 = some (.lst []) := zB
 generalize upd J1 p2 (.lst []) = J2 at a2 b2 ⊢
 refine ⟨zM (by simp), fun p3 hp3 => ?_⟩
 have a3 := zC hp3 (.tup [V.ref p2, V.ref pp])
 have b3 : upd J2 p3 (.tup [V.ref p2, V.ref pp]) p3 = some (.tup [V.ref p2, V.ref pp]) := zB
 generalize upd J2 p3 (.tup [V.ref p2, V.ref pp]) = J3 at a3 b3 ⊢
 refine ⟨zM (by simp), fun p4 hp4 => ?_⟩
 have a4 := zC hp4 (.lst [V.ref p3])
 have b4 : upd J3 p4 (.lst [V.ref p3]) p4 = some (.lst [V.ref p3]) := zB
 generalize upd J3 p4 (.lst [V.ref p3]) = J4 at a4 b4 ⊢
 have c4 := a1.trans (a2.trans (a3.trans a4))
 refine ⟨_, (a2.trans (a3.trans a4)) _ _ b1, _, b4, zM (by simp; omega), fun p5 hp5 => ?_⟩
 have a5 := zC hp5 (.lst (ws.take k ++ [V.ref p3]))
 have b5 : upd J4 p5 (.lst (ws.take k ++ [V.ref p3])) p5 = some (.lst (ws.take k ++ [V.ref p3])) := zB
 generalize upd J4 p5 (.lst (ws.take k ++ [V.ref p3])) = J5 at a5 b5 ⊢
 refine ⟨ws, SqL.of ((c4.trans a5) _ _ hru6), fun p6 hp6 => ?_⟩
 rw [vH hkl]
 have a6 := zC hp6 (.lst (ws.drop k))
 have b6 : upd J5 p6 (.lst (ws.drop k)) p6 = some (.lst (ws.drop k)) := zB
 generalize upd J5 p6 (.lst (ws.drop k)) = J6 at a6 b6 ⊢
 refine ⟨_, a6 _ _ b5, _, b6, zM (by simp; omega), fun p7 hp7 => ?_⟩
 have a7 := zC hp7 (.lst (ws.take k ++ [V.ref p3] ++ ws.drop k))
 have b7 : upd J6 p7 (.lst (ws.take k ++ [V.ref p3] ++ ws.drop k)) p7 = some (.lst (ws.take k ++ [V.ref p3] ++ ws.drop k)) := zB
 generalize upd J6 p7 (.lst (ws.take k ++ [V.ref p3] ++ ws.drop k)) = J7 at a7 b7 ⊢
 have c7 := a5.trans (a6.trans a7)
 have d7 := c4.trans c7
 have hnr : DAt J7 (dNR ([], (i0, j0))) (.ref p3) := ⟨p3, _, rfl, (a4.trans c7) _ _ b3, _, _, rfl, ⟨p2, _, rfl, (a3.trans (a4.trans c7)) _ _ b2, rfl⟩, _, _, rfl, ⟨pp, _, rfl, d7 _ _ kpp, _, _, rfl, rfl, _, _, rfl, rfl, rfl⟩, rfl⟩
 have hnw : DAts J7 ((rules.take k ++ [([], (i0, j0))] ++ rules.drop k).map dNR) (ws.take k ++ [V.ref p3] ++ ws.drop k) := by
   rw [List.map_append, List.map_append, List.map_take, List.map_drop]
   exact DAts.append (DAts.append (DAts.take k (DAts.same d7 hrl6)) (DAts.one hnr)) (DAts.drop k (DAts.same d7 hrl6))
 refine ⟨ra, p7, us, _, rows, rules.take k ++ [([], (i0, j0))] ++ rules.drop k, rfl, d7 _ _ hra6, DAts.same d7 hrw6, b7, hnw, r100, hin, by simp; omega, fun r hr => ?_, fun pm ms ls3 H9 s9 hck3 kpm hml hmt => hN _ _ ?_⟩
 · rcases among.mp hr with rfl | hr
   · exact Nat.zero_le _
   · exact p100 r hr
 clear hN
 have hir3 : ∀ r ∈ rules.take k ++ [([], (i0, j0))] ++ rules.drop k, InR rows r := fun r hr => by
   rcases among.mp hr with rfl | hr
   · exact ⟨⟨i0l, show i0 < 2 * (rows.length : Int) by omega⟩, j0l, show j0 < 2 * (rows.length : Int) by omega⟩
   · exact hir r hr
 have hin3 := clo_free hck3 hir3 (among.mpr (.inl rfl))
 have hsub3 := qX hck hck3 hir3 (fun r hr => among.mpr (.inr hr))
 have hps3 : PsAt H9 ms ls3 := ⟨hml, hmt⟩
 have d9 := d7.trans s9
 have kpp9 := d9 _ _ kpp
 have hra7 := d9 _ _ hra6
 have hrw7 := DAts.same d9 hrw6
 have hru7 := d9 _ _ hru6
 have hrl7 := DAts.same d9 hrl6
 have hS7 := Same.seq d9 hS6
 have hdue7 := hdue6.go d9
 have hps7 := hps6.same d9
 have kpa7 := d9 _ _ kpa6
 clear hml hmt hnw hnr d9 d7 c7 a7 b7 hp7 a6 b6 hp6 a5 b5 hp5 c4 a4 b4 hp4 a3 b3 hp3 a2 b2 hp2 a1 b1 hp1 s9 kpp hra6 hrw6 hru6 hrl6 hS6 hdue6 hps6 kpa6
 have hmd : DAt H9 (.lst ((prs ls3).map dPr)) (.ref pm) := ⟨pm, _, rfl, kpm, by rw [← hps3.map]; exact wF fun a ha => (hps3.at a ha).1⟩
 refine zI fun N hN => ?_
 simp! []
 refine ⟨2, dPr (i0, j0), (prs ls3).map dPr, wG (p := (i0, j0)) kpp9, .inl hmd, fit_prA 1 _, by omega, _, rfl, ?_⟩
 rw [any_pr hin3]
 refine hN _ _ ?_
 clear hN
 refine yH (fun σ H10 => H10 = H9 /\ ∃ o : Option V, σ = [some (V.ref a), some (V.ref mp), some (V.ref ra), some (V.ref ru), some (V.int ((2 * rows.length : Nat) : Int)), some (V.ref pa), some (V.ref pd), some (V.ref pg), some (V.int dr), some (V.ref pp), some (V.int (k : Int)), some (V.ref pm), o, none, none]) (fun N hN => ?_) (fun σ H10 h => ?_)
 · simp! []
   obtain ⟨qs, kqs, hqs⟩ := hdue7.1
   have hql := DAts.length hqs
   rw [List.length_map, List.length_map] at hql
   refine ⟨⟨_, SqL.of kqs⟩, ?_⟩
   refine xW (xs := qs.map V.ref) (fun n σ H10 => H10 = H9 /\ ∃ o : Option V, σ = [some (V.ref a), some (V.ref mp), some (V.ref ra), some (V.ref ru), some (V.int ((2 * rows.length : Nat) : Int)), some (V.ref pa), some (V.ref pd), some (V.ref pg), some (V.int dr), some (V.ref pp), some (V.int (k : Int)), some (V.ref pm), o, none, none]) ⟨rfl, _, rfl⟩ (fun n σ H' _ h => ?_) (fun n x σ H' hx h => ?_) (fun σ H' h => ?_)
   · rw [h.1]; exact SqL.of kqs
   · obtain ⟨rfl, o, rfl⟩ := h
     obtain ⟨q, hq1, hq2⟩ := xG hqs hx
     simp! []
     refine ⟨2, dPr q, (prs ls3).map dPr, hq2, .inl hmd, fit_prA 1 _, by omega, _, rfl, ?_⟩
     rw [any_pr (hsub3 q (hdue7.2.2.2.2.mem_iff.mp (List.mem_of_getElem? hq1)))]
     rw [if_neg (by decide)]
     exact ⟨rfl, _, rfl⟩
   · obtain ⟨rfl, o, rfl⟩ := h
     exact hN _ _ ⟨rfl, _, rfl⟩
 obtain ⟨rfl, o, rfl⟩ := h
 refine zI fun N hN => ?_
 simp! []
 refine ⟨a, ns, 2, rfl, hS7, ⟨by decide, by decide, by decide⟩, _, rfl, p1012, hN _ _ ?_⟩
 clear hN
 have hl0 := Int.emod_nonneg (ns.getD 2 0) (Int.ne_of_gt p1012)
 generalize ns.getD 2 0 % 10 ^ Int.toNat 12 = lo at hl0 ⊢
 refine zI fun N hN => ?_
 simp! []
 refine ⟨by omega, ⟨by omega, by omega⟩, by omega, zM (by simp), fun q1 hq1 => ?_⟩
 generalize lo % ((2 * rows.length : Nat) : Int) = i1
 generalize lo / ((2 * rows.length : Nat) : Int) % ((2 * rows.length : Nat) : Int) = j1
 have a1 := zC hq1 (.tup [V.int i1, V.int j1])
 have b1 : upd H10 q1 (.tup [V.int i1, V.int j1]) q1 = some (.tup [V.int i1, V.int j1]) := zB
 generalize upd H10 q1 (.tup [V.int i1, V.int j1]) = J1 at a1 b1 ⊢
 refine ⟨zM (by simp), fun q2 hq2 => ?_⟩
 have a2 := zC hq2 (.lst [V.ref q1])
 have b2 : upd J1 q2 (.lst [V.ref q1]) q2 = some (.lst [V.ref q1]) := zB
 generalize upd J1 q2 (.lst [V.ref q1]) = J2 at a2 b2 ⊢
 have c2 := a1.trans a2
 have hne : 1 <= ls.length := by
   obtain ⟨b, x, hx, _⟩ := hasP_iff.mp (hck.pl.same 0 (by omega))
   have := (List.getElem?_eq_some_iff.mp hx).1
   omega
 have hal : (as.map V.ref).length = ls.length := by rw [List.length_map]; exact hps7.1
 have hx0 := Int.emod_nonneg (lo / 600) (show ((as.map V.ref).length : Int) ≠ 0 by omega)
 have hx1 := Int.emod_lt_of_pos (lo / 600) (show (0 : Int) < ((as.map V.ref).length : Int) by omega)
 obtain ⟨ax, p, hax, kax, hpin⟩ : ∃ (ax : Addr) (p : Pr), atI (as.map V.ref) (lo / 600 % ((as.map V.ref).length : Int)) = some (V.ref ax) /\ H10 ax = some (.tup [.int p.1, .int p.2]) /\ p ∈ prs ls := by
   have hx : (lo / 600 % ((as.map V.ref).length : Int)).toNat < as.length := by
     rw [List.length_map] at hx1 ⊢
     rw [List.length_map] at hx0
     omega
   have hm := hps7.at _ (List.getElem_mem hx)
   exact ⟨_, _, at_toNat hx0 (by rw [List.getElem?_map, List.getElem?_eq_getElem hx]; rfl), hm.1, hm.2⟩
 refine ⟨⟨by decide, by decide⟩, _, .inl ⟨_, SqL.of (c2 _ _ kpa7), rfl⟩, by omega, _, SqL.of (c2 _ _ kpa7), _, hax, zM (by simp), fun q3 hq3 => hN _ _ ?_⟩
 clear hN hax hx0 hx1
 have a3 := zC hq3 (.tup [V.ref q2, V.ref ax])
 have b3 : upd J2 q3 (.tup [V.ref q2, V.ref ax]) q3 = some (.tup [V.ref q2, V.ref ax]) := zB
 generalize upd J2 q3 (.tup [V.ref q2, V.ref ax]) = J3 at a3 b3 ⊢
 have c3 := c2.trans a3
 have hnr : DAt J3 (dNR ([(i1, j1)], p)) (.ref q3) := ⟨q3, _, rfl, b3, _, _, rfl, ⟨q2, _, rfl, a3 _ _ b2, _, _, rfl, wG (p := (i1, j1)) ((a2.trans a3) _ _ b1), rfl⟩, _, _, rfl, wG (c3 _ _ kax), rfl⟩
 have hra8 := c3 _ _ hra7
 have hrw8 := DAts.same c3 hrw7
 have hru8 := c3 _ _ hru7
 have hrl8 := DAts.same c3 hrl7
 have hdue8 := hdue7.go c3
 clear hra7 hrw7 hru7 hrl7 hdue7 c3 a3 b3 c2 a2 b2 a1 b1 hq1 hq2 hq3 hS7 hps7 kpa7 kax hmd hin3 hsub3 hps3 kpm kpp9 hir3 hck3
 simp! []
 refine ⟨ws, SqL.of hru8, fun p1 hp1 => ?_⟩
 rw [cutV_to hkl]
 have a1 := zC hp1 (.lst (ws.take k))
 have b1 : upd J3 p1 (.lst (ws.take k)) p1 = some (.lst (ws.take k)) := zB
 generalize upd J3 p1 (.lst (ws.take k)) = J4 at a1 b1 ⊢
 refine ⟨zM (by simp), fun p4 hp4 => ?_⟩
 have a4 := zC hp4 (.lst [V.ref q3])
 have b4 : upd J4 p4 (.lst [V.ref q3]) p4 = some (.lst [V.ref q3]) := zB
 generalize upd J4 p4 (.lst [V.ref q3]) = J5 at a4 b4 ⊢
 have c4 := a1.trans a4
 refine ⟨_, a4 _ _ b1, _, b4, zM (by simp; omega), fun p5 hp5 => ?_⟩
 have a5 := zC hp5 (.lst (ws.take k ++ [V.ref q3]))
 have b5 : upd J5 p5 (.lst (ws.take k ++ [V.ref q3])) p5 = some (.lst (ws.take k ++ [V.ref q3])) := zB
 generalize upd J5 p5 (.lst (ws.take k ++ [V.ref q3])) = J6 at a5 b5 ⊢
 refine ⟨ws, SqL.of ((c4.trans a5) _ _ hru8), fun p6 hp6 => ?_⟩
 rw [vH hkl]
 have a6 := zC hp6 (.lst (ws.drop k))
 have b6 : upd J6 p6 (.lst (ws.drop k)) p6 = some (.lst (ws.drop k)) := zB
 generalize upd J6 p6 (.lst (ws.drop k)) = J7 at a6 b6 ⊢
 refine ⟨_, a6 _ _ b5, _, b6, zM (by simp; omega), fun p7 hp7 => ?_⟩
 have a7 := zC hp7 (.lst (ws.take k ++ [V.ref q3] ++ ws.drop k))
 have b7 : upd J7 p7 (.lst (ws.take k ++ [V.ref q3] ++ ws.drop k)) p7 = some (.lst (ws.take k ++ [V.ref q3] ++ ws.drop k)) := zB
 generalize upd J7 p7 (.lst (ws.take k ++ [V.ref q3] ++ ws.drop k)) = J8 at a7 b7 ⊢
 have d7 := c4.trans (a5.trans (a6.trans a7))
 have hnw : DAts J8 ((rules.take k ++ [([(i1, j1)], p)] ++ rules.drop k).map dNR) (ws.take k ++ [V.ref q3] ++ ws.drop k) := by
   rw [List.map_append, List.map_append, List.map_take, List.map_drop]
   exact DAts.append (DAts.append (DAts.take k (DAts.same d7 hrl8)) (DAts.one (DAt.same d7 hnr))) (DAts.drop k (DAts.same d7 hrl8))
 refine ⟨ra, p7, us, _, rows, rules.take k ++ [([(i1, j1)], p)] ++ rules.drop k, rfl, d7 _ _ hra8, DAts.same d7 hrw8, b7, hnw, r100, hin, by simp; omega, fun r hr => ?_, fun pm ms ls4 H11 s11 hck4 kpm hml hmt => ?_⟩
 · rcases among.mp hr with rfl | hr
   · show 1 <= 100
     omega
   · exact p100 r hr
 have hir4 : ∀ r ∈ rules.take k ++ [([(i1, j1)], p)] ++ rules.drop k, InR rows r := fun r hr => by
   rcases among.mp hr with rfl | hr
   · exact prs_in hck.ok p hpin
   · exact hir r hr
 have hps4 : PsAt H11 ms ls4 := ⟨hml, hmt⟩
 have hsm4 := jY hck4.ok r100
 have hl4 := ls_len hck4.ok r6'
 have hl44 := hps4.1
 refine ⟨pm, rfl, ms, kpm, by omega, pfH H11, fun a ha => ⟨(hps4.at a ha).1, (hsm4 _ (hps4.at a ha).2).1.1, (hsm4 _ (hps4.at a ha).2).1.2, (hsm4 _ (hps4.at a ha).2).2.1, (hsm4 _ (hps4.at a ha).2).2.2⟩, fun pe es hpe hperm hrise => ?_⟩
 have hdue4 := due_of hck4 r100 hps4 hperm hrise (zC hpe (.lst (es.map V.ref))) zB
 have g7 := zC hpe (.lst (es.map V.ref))
 generalize upd H11 pe (.lst (es.map V.ref)) = H12 at g7 hdue4 ⊢
 generalize es.map (pfH H11) = due4 at hdue4
 have hD := hdue8.go (d7.trans (s11.trans g7))
 have e := due_same hdue4 hD fun x => ⟨clo_idle hck hck4 hirR (fun r hr => (among.mp hr).elim (fun e => .inr (e ▸ hpin)) .inl) x, qX hck hck4 hir4 (fun r hr => among.mpr (.inr hr)) x⟩
 refine ⟨2, .lst (due4.map dPr), .lst (due.map dPr), hdue4.dat, hD.dat, fit_prs 1 (hdue4.len hck4.ok r6'), by omega, ?_⟩
 rw [e, deq_refl]
 exact q _
end
theorem ln0 {us : List Value} (h : us.length = 0) : us = [] := List.length_eq_zero_iff.mp h
theorem lnS {us : List Value} {n : Nat} (h : us.length = n + 1) : ∃ (u : Value) (r : List Value), us = u :: r /\ r.length = n := by
 cases us with
 | nil => cases h
 | cons u r => exact ⟨u, r, rfl, Nat.succ.inj h⟩
theorem ln1 {us : List Value} (h : us.length = 1) : ∃ a, us = [a] := by
 obtain ⟨a, r, rfl, g⟩ := lnS h
 cases ln0 g
 exact ⟨a, rfl⟩
theorem ln2 {us : List Value} (h : us.length = 2) : ∃ a b, us = [a, b] := by
 obtain ⟨a, r, rfl, g⟩ := lnS h
 obtain ⟨b, rfl⟩ := ln1 g
 exact ⟨a, b, rfl⟩
theorem ln3 {us : List Value} (h : us.length = 3) : ∃ a b c, us = [a, b, c] := by
 obtain ⟨a, r, rfl, g⟩ := lnS h
 obtain ⟨b, c, rfl⟩ := ln2 g
 exact ⟨a, b, c, rfl⟩
theorem ln4 {us : List Value} (h : us.length = 4) : ∃ a b c d, us = [a, b, c, d] := by
 obtain ⟨a, r, rfl, g⟩ := lnS h
 obtain ⟨b, c, d, rfl⟩ := ln3 g
 exact ⟨a, b, c, d, rfl⟩
theorem all_mk {l : PySem.W.OpenLaw} {w : World} {K : PySem.W.Frag} {h : Heap} {mg : Str -> Option Value} {fa : Addr} (X : K.In h) (G : h.Ns mainGlobals mg) (hfa : mg "law" = some (.ref fa))
   {C_Growth : Addr} (aC_Growth : PySem.W.nsIn K mainGlobals "Growth" = some (some (.ref C_Growth)))
   {f_k : Addr} {od_k an_k : Option Addr} {sl_k : Array (Option Value)} {oc_k kV_k dc_k pm_k cd_k ct_k : Value} (a_k : PySem.W.findIn K (.ref C_Growth) "__init__" = some (some (.ref f_k))) (i_k : PySem.W.isFn K (.ref f_k) = true) (l_k : K.lookup f_k = some ⟨oc_k, od_k, .func (PySem.W.fnOf "__init__" "Growth.__init__" (zW s_k) (zU s_k) (zG s_k) .none kV_k dc_k pm_k an_k cd_k ct_k), sl_k⟩) (c_k : PySem.W.codeIn K cd_k "Growth.__init__" = true) (k_k : PySem.W.keepIn K (.ref f_k) = true)
   {f_b : Addr} {od_b an_b : Option Addr} {sl_b : Array (Option Value)} {oc_b kV_b dc_b pm_b cd_b ct_b : Value} (a_b : PySem.W.findIn K (.ref C_Growth) "line_of" = some (some (.ref f_b))) (i_b : PySem.W.isFn K (.ref f_b) = true) (l_b : K.lookup f_b = some ⟨oc_b, od_b, .func (PySem.W.fnOf "line_of" "Growth.line_of" (zW s_b) (zU s_b) (zG s_b) .none kV_b dc_b pm_b an_b cd_b ct_b), sl_b⟩) (c_b : PySem.W.codeIn K cd_b "Growth.line_of" = true) (k_b : PySem.W.keepIn K (.ref f_b) = true)
   {f_m : Addr} {od_m an_m : Option Addr} {sl_m : Array (Option Value)} {oc_m kV_m dc_m pm_m cd_m ct_m : Value} (a_m : PySem.W.findIn K (.ref C_Growth) "has" = some (some (.ref f_m))) (i_m : PySem.W.isFn K (.ref f_m) = true) (l_m : K.lookup f_m = some ⟨oc_m, od_m, .func (PySem.W.fnOf "has" "Growth.has" (zW s_m) (zU s_m) (zG s_m) .none kV_m dc_m pm_m an_m cd_m ct_m), sl_m⟩) (c_m : PySem.W.codeIn K cd_m "Growth.has" = true) (k_m : PySem.W.keepIn K (.ref f_m) = true)
   {f_d : Addr} {od_d an_d : Option Addr} {sl_d : Array (Option Value)} {oc_d kV_d dc_d pm_d cd_d ct_d : Value} (a_d : PySem.W.findIn K (.ref C_Growth) "grow" = some (some (.ref f_d))) (i_d : PySem.W.isFn K (.ref f_d) = true) (l_d : K.lookup f_d = some ⟨oc_d, od_d, .func (PySem.W.fnOf "grow" "Growth.grow" (zW s_d) (zU s_d) (zG s_d) .none kV_d dc_d pm_d an_d cd_d ct_d), sl_d⟩) (c_d : PySem.W.codeIn K cd_d "Growth.grow" = true) (k_d : PySem.W.keepIn K (.ref f_d) = true)
   (pg_Growth : PySem.W.plainGet K C_Growth Str.empty = true) (hd_Growth : PySem.W.hasDictIn K C_Growth = true) (po_Growth : PySem.W.plainOver K C_Growth = true) (sa_Growth : PySem.W.findIn K (.ref C_Growth) "__setattr__" = some (some (.builtin "object.__setattr__"))) (mk_Growth : PySem.W.makesIn K C_Growth = true) (kc_Growth : PySem.W.keepIn K (.ref C_Growth) = true) (n_Growth_lines : PySem.W.findIn K (.ref C_Growth) "lines" = some none) (n_Growth_places : PySem.W.findIn K (.ref C_Growth) "places" = some none) (n_Growth_above : PySem.W.findIn K (.ref C_Growth) "above" = some none) (n_Growth_below : PySem.W.findIn K (.ref C_Growth) "below" = some none)
   {f_r : Addr} {od_r an_r : Option Addr} {sl_r : Array (Option Value)} {oc_r kV_r dc_r pm_r cd_r ct_r : Value} (a_r : PySem.W.nsIn K mainGlobals "is_whole" = some (some (.ref f_r))) (l_r : K.lookup f_r = some ⟨oc_r, od_r, .func (PySem.W.fnOf "is_whole" "is_whole" (zW s_r) (zU s_r) (zG s_r) .none kV_r dc_r pm_r an_r cd_r ct_r), sl_r⟩) (c_r : PySem.W.codeIn K cd_r "is_whole" = true) (k_r : PySem.W.keepIn K (.ref f_r) = true)
   {f_q : Addr} {od_q an_q : Option Addr} {sl_q : Array (Option Value)} {oc_q kV_q dc_q pm_q cd_q ct_q : Value} (a_q : PySem.W.nsIn K mainGlobals "is_below" = some (some (.ref f_q))) (l_q : K.lookup f_q = some ⟨oc_q, od_q, .func (PySem.W.fnOf "is_below" "is_below" (zW s_q) (zU s_q) (zG s_q) .none kV_q dc_q pm_q an_q cd_q ct_q), sl_q⟩) (c_q : PySem.W.codeIn K cd_q "is_below" = true) (k_q : PySem.W.keepIn K (.ref f_q) = true)
   {f_s : Addr} {od_s an_s : Option Addr} {sl_s : Array (Option Value)} {oc_s kV_s dc_s pm_s cd_s ct_s : Value} (a_s : PySem.W.nsIn K mainGlobals "bits_of" = some (some (.ref f_s))) (l_s : K.lookup f_s = some ⟨oc_s, od_s, .func (PySem.W.fnOf "bits_of" "bits_of" (zW s_s) (zU s_s) (zG s_s) .none kV_s dc_s pm_s an_s cd_s ct_s), sl_s⟩) (c_s : PySem.W.codeIn K cd_s "bits_of" = true) (k_s : PySem.W.keepIn K (.ref f_s) = true)
   {f_t : Addr} {od_t an_t : Option Addr} {sl_t : Array (Option Value)} {oc_t kV_t dc_t pm_t cd_t ct_t : Value} (a_t : PySem.W.nsIn K mainGlobals "begin" = some (some (.ref f_t))) (l_t : K.lookup f_t = some ⟨oc_t, od_t, .func (PySem.W.fnOf "begin" "begin" (zW s_t) (zU s_t) (zG s_t) .none kV_t dc_t pm_t an_t cd_t ct_t), sl_t⟩) (c_t : PySem.W.codeIn K cd_t "begin" = true) (k_t : PySem.W.keepIn K (.ref f_t) = true)
   {f_f : Addr} {od_f an_f : Option Addr} {sl_f : Array (Option Value)} {oc_f kV_f dc_f pm_f cd_f ct_f : Value} (a_f : PySem.W.nsIn K mainGlobals "boths_by_part" = some (some (.ref f_f))) (l_f : K.lookup f_f = some ⟨oc_f, od_f, .func (PySem.W.fnOf "boths_by_part" "boths_by_part" (zW s_f) (zU s_f) (zG s_f) .none kV_f dc_f pm_f an_f cd_f ct_f), sl_f⟩) (c_f : PySem.W.codeIn K cd_f "boths_by_part" = true) (k_f : PySem.W.keepIn K (.ref f_f) = true)
   {f_c : Addr} {od_c an_c : Option Addr} {sl_c : Array (Option Value)} {oc_c kV_c dc_c pm_c cd_c ct_c : Value} (a_c : PySem.W.nsIn K mainGlobals "rules_by_premise" = some (some (.ref f_c))) (l_c : K.lookup f_c = some ⟨oc_c, od_c, .func (PySem.W.fnOf "rules_by_premise" "rules_by_premise" (zW s_c) (zU s_c) (zG s_c) .none kV_c dc_c pm_c an_c cd_c ct_c), sl_c⟩) (c_c : PySem.W.codeIn K cd_c "rules_by_premise" = true) (k_c : PySem.W.keepIn K (.ref f_c) = true)
   {f_l : Addr} {od_l an_l : Option Addr} {sl_l : Array (Option Value)} {oc_l kV_l dc_l pm_l cd_l ct_l : Value} (a_l : PySem.W.nsIn K mainGlobals "grow_by_turn" = some (some (.ref f_l))) (l_l : K.lookup f_l = some ⟨oc_l, od_l, .func (PySem.W.fnOf "grow_by_turn" "grow_by_turn" (zW s_l) (zU s_l) (zG s_l) .none kV_l dc_l pm_l an_l cd_l ct_l), sl_l⟩) (c_l : PySem.W.codeIn K cd_l "grow_by_turn" = true) (k_l : PySem.W.keepIn K (.ref f_l) = true)
   {f_e : Addr} {od_e an_e : Option Addr} {sl_e : Array (Option Value)} {oc_e kV_e dc_e pm_e cd_e ct_e : Value} (a_e : PySem.W.nsIn K mainGlobals "grow_by_chain" = some (some (.ref f_e))) (l_e : K.lookup f_e = some ⟨oc_e, od_e, .func (PySem.W.fnOf "grow_by_chain" "grow_by_chain" (zW s_e) (zU s_e) (zG s_e) .none kV_e dc_e pm_e an_e cd_e ct_e), sl_e⟩) (c_e : PySem.W.codeIn K cd_e "grow_by_chain" = true) (k_e : PySem.W.keepIn K (.ref f_e) = true)
   {f_i : Addr} {od_i an_i : Option Addr} {sl_i : Array (Option Value)} {oc_i kV_i dc_i pm_i cd_i ct_i : Value} (a_i : PySem.W.nsIn K mainGlobals "grow_by_both" = some (some (.ref f_i))) (l_i : K.lookup f_i = some ⟨oc_i, od_i, .func (PySem.W.fnOf "grow_by_both" "grow_by_both" (zW s_i) (zU s_i) (zG s_i) .none kV_i dc_i pm_i an_i cd_i ct_i), sl_i⟩) (c_i : PySem.W.codeIn K cd_i "grow_by_both" = true) (k_i : PySem.W.keepIn K (.ref f_i) = true)
   {f_g : Addr} {od_g an_g : Option Addr} {sl_g : Array (Option Value)} {oc_g kV_g dc_g pm_g cd_g ct_g : Value} (a_g : PySem.W.nsIn K mainGlobals "grow_by_clash" = some (some (.ref f_g))) (l_g : K.lookup f_g = some ⟨oc_g, od_g, .func (PySem.W.fnOf "grow_by_clash" "grow_by_clash" (zW s_g) (zU s_g) (zG s_g) .none kV_g dc_g pm_g an_g cd_g ct_g), sl_g⟩) (c_g : PySem.W.codeIn K cd_g "grow_by_clash" = true) (k_g : PySem.W.keepIn K (.ref f_g) = true)
   {f_h : Addr} {od_h an_h : Option Addr} {sl_h : Array (Option Value)} {oc_h kV_h dc_h pm_h cd_h ct_h : Value} (a_h : PySem.W.nsIn K mainGlobals "grow_by_rule" = some (some (.ref f_h))) (l_h : K.lookup f_h = some ⟨oc_h, od_h, .func (PySem.W.fnOf "grow_by_rule" "grow_by_rule" (zW s_h) (zU s_h) (zG s_h) .none kV_h dc_h pm_h an_h cd_h ct_h), sl_h⟩) (c_h : PySem.W.codeIn K cd_h "grow_by_rule" = true) (k_h : PySem.W.keepIn K (.ref f_h) = true)
   {f_p : Addr} {od_p an_p : Option Addr} {sl_p : Array (Option Value)} {oc_p kV_p dc_p pm_p cd_p ct_p : Value} (a_p : PySem.W.nsIn K mainGlobals "closing" = some (some (.ref f_p))) (l_p : K.lookup f_p = some ⟨oc_p, od_p, .func (PySem.W.fnOf "closing" "closing" (zW s_p) (zU s_p) (zG s_p) .none kV_p dc_p pm_p an_p cd_p ct_p), sl_p⟩) (c_p : PySem.W.codeIn K cd_p "closing" = true) (k_p : PySem.W.keepIn K (.ref f_p) = true)
   {f_n : Addr} {od_n an_n : Option Addr} {sl_n : Array (Option Value)} {oc_n kV_n dc_n pm_n cd_n ct_n : Value} (a_n : PySem.W.nsIn K mainGlobals "_law_cell_at" = some (some (.ref f_n))) (l_n : K.lookup f_n = some ⟨oc_n, od_n, .func (PySem.W.fnOf "_law_cell_at" "_law_cell_at" (zW s_n) (zU s_n) (zG s_n) .none kV_n dc_n pm_n an_n cd_n ct_n), sl_n⟩) (c_n : PySem.W.codeIn K cd_n "_law_cell_at" = true) (k_n : PySem.W.keepIn K (.ref f_n) = true)
   {f_j : Addr} {od_j an_j : Option Addr} {sl_j : Array (Option Value)} {oc_j kV_j dc_j pm_j cd_j ct_j : Value} (a_j : PySem.W.nsIn K mainGlobals "_law_name_by" = some (some (.ref f_j))) (l_j : K.lookup f_j = some ⟨oc_j, od_j, .func (PySem.W.fnOf "_law_name_by" "_law_name_by" (zW s_j) (zU s_j) (zG s_j) .none kV_j dc_j pm_j an_j cd_j ct_j), sl_j⟩) (c_j : PySem.W.codeIn K cd_j "_law_name_by" = true) (k_j : PySem.W.keepIn K (.ref f_j) = true)
   {f_a : Addr} {od_a an_a : Option Addr} {sl_a : Array (Option Value)} {oc_a kV_a dc_a pm_a cd_a ct_a : Value} (a_a : PySem.W.nsIn K mainGlobals "_law_sheet_and_rules" = some (some (.ref f_a))) (l_a : K.lookup f_a = some ⟨oc_a, od_a, .func (PySem.W.fnOf "_law_sheet_and_rules" "_law_sheet_and_rules" (zW s_a) (zU s_a) (zG s_a) .none kV_a dc_a pm_a an_a cd_a ct_a), sl_a⟩) (c_a : PySem.W.codeIn K cd_a "_law_sheet_and_rules" = true) (k_a : PySem.W.keepIn K (.ref f_a) = true)
   {f_o : Addr} {od_o an_o : Option Addr} {sl_o : Array (Option Value)} {oc_o kV_o dc_o pm_o cd_o ct_o : Value} (a_o : PySem.W.nsIn K mainGlobals "_law_pairs" = some (some (.ref f_o))) (l_o : K.lookup f_o = some ⟨oc_o, od_o, .func (PySem.W.fnOf "_law_pairs" "_law_pairs" (zW s_o) (zU s_o) (zG s_o) .none kV_o dc_o pm_o an_o cd_o ct_o), sl_o⟩) (c_o : PySem.W.codeIn K cd_o "_law_pairs" = true) (k_o : PySem.W.keepIn K (.ref f_o) = true)
   {f_u : Addr} {od_u an_u : Option Addr} {sl_u : Array (Option Value)} {oc_u kV_u dc_u pm_u cd_u ct_u : Value} (a_u : PySem.W.nsIn K mainGlobals "law" = some (some (.ref f_u))) (l_u : K.lookup f_u = some ⟨oc_u, od_u, .func (PySem.W.fnOf "law" "law" (zW s_u) (zU s_u) (zG s_u) .none kV_u dc_u pm_u an_u cd_u ct_u), sl_u⟩) (c_u : PySem.W.codeIn K cd_u "law" = true) (k_u : PySem.W.keepIn K (.ref f_u) = true)
    (z_enumerate : PySem.W.nsIn K mainGlobals "enumerate" = some none)
    (z_reversed : PySem.W.nsIn K mainGlobals "reversed" = some none)
   (z_all : PySem.W.nsIn K mainGlobals "all" = some none)
   (z_bool : PySem.W.nsIn K mainGlobals "bool" = some none)
   (z_dict : PySem.W.nsIn K mainGlobals "dict" = some none)
   (z_int : PySem.W.nsIn K mainGlobals "int" = some none)
   (z_isinstance : PySem.W.nsIn K mainGlobals "isinstance" = some none)
   (z_len : PySem.W.nsIn K mainGlobals "len" = some none)
   (z_list : PySem.W.nsIn K mainGlobals "list" = some none)
   (z_max : PySem.W.nsIn K mainGlobals "max" = some none)
   (z_range : PySem.W.nsIn K mainGlobals "range" = some none)
   (z_set : PySem.W.nsIn K mainGlobals "set" = some none)
   (z_sorted : PySem.W.nsIn K mainGlobals "sorted" = some none)
   (z_str : PySem.W.nsIn K mainGlobals "str" = some none)
   (z_sum : PySem.W.nsIn K mainGlobals "sum" = some none)
   (z_tuple : PySem.W.nsIn K mainGlobals "tuple" = some none) :
   ∃ fd : FuncData, (∀ (s : Shared) (v : Value), BindsTo s fd ⟨[v], []⟩ [("script", v)]) /\ ∀ base : Heap, K.In base -> base.Ns mainGlobals mg -> FnOk l.prog w K mg base CX0 65 fa fd ["script"] (spLaw K) := by
 have e := hfa.symm.trans (PySem.W.mg_of X G a_u)
 cases e
 have cl_Growth : Cls K C_Growth := ⟨pg_Growth, hd_Growth, po_Growth, sa_Growth⟩
 have mC_Growth := PySem.W.mg_of X G aC_Growth
 have F_k := yG (st := s_k) l_k c_k k_k
 have b_k := F_k.binds (ps := ["self", "many"]) fun _ _ _ _ _ _ us hl => by obtain ⟨u0, u1, rfl⟩ := ln2 hl; rfl
 have t_k : Meth K C_Growth "__init__" f_k := ⟨a_k, i_k, k_k⟩
 have F_b := yG (st := s_b) l_b c_b k_b
 have b_b := F_b.binds (ps := ["self", "i", "j"]) fun _ _ _ _ _ _ us hl => by obtain ⟨u0, u1, u2, rfl⟩ := ln3 hl; rfl
 have t_b : Meth K C_Growth "line_of" f_b := ⟨a_b, i_b, k_b⟩
 have F_m := yG (st := s_m) l_m c_m k_m
 have b_m := F_m.binds (ps := ["self", "i", "j"]) fun _ _ _ _ _ _ us hl => by obtain ⟨u0, u1, u2, rfl⟩ := ln3 hl; rfl
 have t_m : Meth K C_Growth "has" f_m := ⟨a_m, i_m, k_m⟩
 have F_d := yG (st := s_d) l_d c_d k_d
 have b_d := F_d.binds (ps := ["self", "i", "j", "why"]) fun _ _ _ _ _ _ us hl => by obtain ⟨u0, u1, u2, u3, rfl⟩ := ln4 hl; rfl
 have t_d : Meth K C_Growth "grow" f_d := ⟨a_d, i_d, k_d⟩
 have F_r := yG (st := s_r) l_r c_r k_r
 have b_r := F_r.binds (ps := ["n"]) fun _ _ _ _ _ _ us hl => by obtain ⟨u0, rfl⟩ := ln1 hl; rfl
 have m_r := PySem.W.mg_of X G a_r
 have F_q := yG (st := s_q) l_q c_q k_q
 have b_q := F_q.binds (ps := ["n", "bound"]) fun _ _ _ _ _ _ us hl => by obtain ⟨u0, u1, rfl⟩ := ln2 hl; rfl
 have m_q := PySem.W.mg_of X G a_q
 have F_s := yG (st := s_s) l_s c_s k_s
 have b_s := F_s.binds (ps := ["mask"]) fun _ _ _ _ _ _ us hl => by obtain ⟨u0, rfl⟩ := ln1 hl; rfl
 have m_s := PySem.W.mg_of X G a_s
 have F_t := yG (st := s_t) l_t c_t k_t
 have b_t := F_t.binds (ps := ["growth", "sheet"]) fun _ _ _ _ _ _ us hl => by obtain ⟨u0, u1, rfl⟩ := ln2 hl; rfl
 have m_t := PySem.W.mg_of X G a_t
 have F_f := yG (st := s_f) l_f c_f k_f
 have b_f := F_f.binds (ps := ["sheet"]) fun _ _ _ _ _ _ us hl => by obtain ⟨u0, rfl⟩ := ln1 hl; rfl
 have m_f := PySem.W.mg_of X G a_f
 have F_c := yG (st := s_c) l_c c_c k_c
 have b_c := F_c.binds (ps := ["rules"]) fun _ _ _ _ _ _ us hl => by obtain ⟨u0, rfl⟩ := ln1 hl; rfl
 have m_c := PySem.W.mg_of X G a_c
 have F_l := yG (st := s_l) l_l c_l k_l
 have b_l := F_l.binds (ps := ["growth", "i", "j"]) fun _ _ _ _ _ _ us hl => by obtain ⟨u0, u1, u2, rfl⟩ := ln3 hl; rfl
 have m_l := PySem.W.mg_of X G a_l
 have F_e := yG (st := s_e) l_e c_e k_e
 have b_e := F_e.binds (ps := ["growth", "i", "j"]) fun _ _ _ _ _ _ us hl => by obtain ⟨u0, u1, u2, rfl⟩ := ln3 hl; rfl
 have m_e := PySem.W.mg_of X G a_e
 have F_i := yG (st := s_i) l_i c_i k_i
 have b_i := F_i.binds (ps := ["growth", "i", "boths"]) fun _ _ _ _ _ _ us hl => by obtain ⟨u0, u1, u2, rfl⟩ := ln3 hl; rfl
 have m_i := PySem.W.mg_of X G a_i
 have F_g := yG (st := s_g) l_g c_g k_g
 have b_g := F_g.binds (ps := ["growth", "i", "j"]) fun _ _ _ _ _ _ us hl => by obtain ⟨u0, u1, u2, rfl⟩ := ln3 hl; rfl
 have m_g := PySem.W.mg_of X G a_g
 have F_h := yG (st := s_h) l_h c_h k_h
 have b_h := F_h.binds (ps := ["growth", "rules", "r"]) fun _ _ _ _ _ _ us hl => by obtain ⟨u0, u1, u2, rfl⟩ := ln3 hl; rfl
 have m_h := PySem.W.mg_of X G a_h
 have F_p := yG (st := s_p) l_p c_p k_p
 have b_p := F_p.binds (ps := ["sheet", "rules"]) fun _ _ _ _ _ _ us hl => by obtain ⟨u0, u1, rfl⟩ := ln2 hl; rfl
 have m_p := PySem.W.mg_of X G a_p
 have F_n := yG (st := s_n) l_n c_n k_n
 have b_n := F_n.binds (ps := ["script", "k"]) fun _ _ _ _ _ _ us hl => by obtain ⟨u0, u1, rfl⟩ := ln2 hl; rfl
 have m_n := PySem.W.mg_of X G a_n
 have F_j := yG (st := s_j) l_j c_j k_j
 have b_j := F_j.binds (ps := ["cell", "size"]) fun _ _ _ _ _ _ us hl => by obtain ⟨u0, u1, rfl⟩ := ln2 hl; rfl
 have m_j := PySem.W.mg_of X G a_j
 have F_a := yG (st := s_a) l_a c_a k_a
 have b_a := F_a.binds (ps := ["script", "most", "many"]) fun _ _ _ _ _ _ us hl => by obtain ⟨u0, u1, u2, rfl⟩ := ln3 hl; rfl
 have m_a := PySem.W.mg_of X G a_a
 have F_o := yG (st := s_o) l_o c_o k_o
 have b_o := F_o.binds (ps := ["rows", "rules"]) fun _ _ _ _ _ _ us hl => by obtain ⟨u0, u1, rfl⟩ := ln2 hl; rfl
 have m_o := PySem.W.mg_of X G a_o
 have F_u := yG (st := s_u) l_u c_u k_u
 have b_u := F_u.binds (ps := ["script"]) fun _ _ _ _ _ _ us hl => by obtain ⟨u0, rfl⟩ := ln1 hl; rfl
 have m_u := PySem.W.mg_of X G a_u
 have bi : Bi mg := ⟨PySem.W.mg_none_of X G z_len, PySem.W.mg_none_of X G z_range, PySem.W.mg_none_of X G z_isinstance, PySem.W.mg_none_of X G z_max, PySem.W.mg_none_of X G z_sum, PySem.W.mg_none_of X G z_all, PySem.W.mg_none_of X G z_tuple, PySem.W.mg_none_of X G z_list, PySem.W.mg_none_of X G z_sorted, PySem.W.mg_none_of X G z_set, PySem.W.mg_none_of X G z_int, PySem.W.mg_none_of X G z_bool, PySem.W.mg_none_of X G z_str, PySem.W.mg_none_of X G z_dict⟩
 refine ⟨PySem.W.fnOf "law" "law" (zW s_u) (zU s_u) (zG s_u) .none kV_u dc_u pm_u an_u cd_u ct_u, fun s v => .of_eq rfl, fun base _ _ => ?_⟩
 have be : mg "enumerate" = none := PySem.W.mg_none_of X G z_enumerate
 have T : GrC K C_Growth := ⟨cl_Growth, n_Growth_lines, n_Growth_places, n_Growth_above, n_Growth_below⟩
 have h0 := yS F_r (ok_is_whole (P := l.prog) (w := w) (base := base) bi F_r) b_r m_r
 have h1 := yS F_q (ok_is_below bi h0 F_q) b_q m_q
 have h2 := yS F_s (ok_bits_of (P := l.prog) (w := w) (base := base) bi F_s) b_s m_s
 have g0 : HasI l.prog w K mg base 1 C_Growth "Growth" ["self", "many"] (spGI C_Growth) := ⟨_, _, ok_ginit T F_k, b_k, ⟨mk_Growth, a_k, i_k, kc_Growth⟩, mC_Growth⟩
 have g1 : HasM l.prog w K mg base 1 C_Growth "line_of" ["self", "i", "j"] (spLo C_Growth) := ⟨_, _, ok_line_of T F_b, b_b, t_b⟩
 have g2 : HasM l.prog w K mg base 1 C_Growth "has" ["self", "i", "j"] (spHs C_Growth) := ⟨_, _, ok_has T F_m, b_m, t_m⟩
 have g3 : HasM l.prog w K mg base 2 C_Growth "grow" ["self", "i", "j", "why"] (uN C_Growth) := ⟨_, _, ok_grow T bi g2 F_d, b_d, t_d⟩
 have c1 := yS F_t (ok_begin T bi be g3 F_t) b_t m_t
 have c2 := yS F_f (ok_boths (P := l.prog) (w := w) (base := base) bi be F_f) b_f m_f
 have c3 := yS F_c (jO (P := l.prog) (w := w) (base := base) bi be F_c) b_c m_c
 have c4 := yS F_l (ok_turn T g1 g3 F_l) b_l m_l
 have c5 := yS F_e (ok_chain T bi h2 g1 g3 F_e) b_e m_e
 have c6 := yS F_i (ok_both T g1 g2 g3 F_i) b_i m_i
 have c7 := yS F_g (ok_clash T bi g1 g3 F_g) b_g m_g
 have c8 := yS F_h (ok_rule T bi h1 g1 g2 g3 F_h) b_h m_h
 have c9 := yS F_p (ok_closing T bi g0 c2 c3 c1 c4 c5 c6 c7 c8 F_p) b_p m_p
 have h10 := yS F_j (ok_name (P := l.prog) (w := w) (base := base) bi F_j) b_j m_j
 have h12 := yS F_a (jS bi h10 F_a) b_a m_a
 have h13 := yS F_o (ok_pairs bi c9 F_o) b_o m_o
 have h21 := yS F_n (ok_cell (P := l.prog) (w := w) (base := base) bi F_n) b_n m_n
 have brv : mg "reversed" = none := PySem.W.mg_none_of X G z_reversed
 exact ok_law bi brv h21 h12 h13 F_u
theorem walk {l : PySem.W.OpenLaw} {q : Program} {loose : List Str} {XP : (Str -> Option Value) -> Heap -> Prop} {YP : World -> Heap -> Prop} {d : DefRec} {K : Params -> PySem.W.Frag} (hn : l.most = some 63) (hdf : d.params.defaults = [])
   (hY : ∀ (w : World) (h : Heap), YP w h -> (K w.params).In h)
   (F : ∀ (w : World) (mg : Str -> Option Value) (fa : Addr) (h : Heap), (K w.params).In h -> h.Ns mainGlobals mg -> mg d.name = some (.ref fa) ->
     ∃ fd : FuncData, (∀ (s : Shared) (u : Value), BindsTo s fd ⟨[u], []⟩ [("script", u)]) /\ ∀ base : Heap, (K w.params).In base -> base.Ns mainGlobals mg -> FnOk l.prog w (K w.params) mg base CX0 65 fa fd ["script"] (spLaw (K w.params))) :
   PySem.W.WalkO q loose XP YP l.row.toRowW d [] (fun f vs => PySem.call f vs) :=
 L2.walk_of (n := 63) (k := 65) (x := "script") (CX := fun _ => CX0) (sp := fun w => spLaw (K w.params)) hn (by decide) hdf ⟨rfl, by decide, by decide⟩ hY F (fun _ _ a ns hl _ hS => ⟨a, ns, rfl, hS, hl, fun _ => rfl⟩) fun _ _ _ _ _ z => z
end C
open PySem PySem.W PyProof.Rows
set_option maxRecDepth 100000 in
set_option maxHeartbeats 0 in
theorem PySem.Challenge.cw_clashbook_k18_more_rules_holds : PySem.Challenge.rw_clashbook_k18_more_rules.Holds := by
 w_on; o_law; k_head; (case hw => w_witness2)
 k_fill
 refine C.walk (l := PySem.Challenge.rw_clashbook_k18_more_rules) rfl rfl (fun w h Y => PySem.W.kIn_of Y) ?F
 case F =>
   intro w mg fa h KX G hmg
   refine' C.all_mk KX G hmg ?aC_Growth ?a_k ?i_k ?l_k ?c_k ?k_k ?a_b ?i_b ?l_b ?c_b ?k_b ?a_m ?i_m ?l_m ?c_m ?k_m ?a_d ?i_d ?l_d ?c_d ?k_d ?pg_Growth ?hd_Growth ?po_Growth ?sa_Growth ?mk_Growth ?kc_Growth ?n_Growth_lines ?n_Growth_places ?n_Growth_above ?n_Growth_below ?a_r ?l_r ?c_r ?k_r ?a_q ?l_q ?c_q ?k_q ?a_s ?l_s ?c_s ?k_s ?a_t ?l_t ?c_t ?k_t ?a_f ?l_f ?c_f ?k_f ?a_c ?l_c ?c_c ?k_c ?a_l ?l_l ?c_l ?k_l ?a_e ?l_e ?c_e ?k_e ?a_i ?l_i ?c_i ?k_i ?a_g ?l_g ?c_g ?k_g ?a_h ?l_h ?c_h ?k_h ?a_p ?l_p ?c_p ?k_p ?a_n ?l_n ?c_n ?k_n ?a_j ?l_j ?c_j ?k_j ?a_a ?l_a ?c_a ?k_a ?a_o ?l_o ?c_o ?k_o ?a_u ?l_u ?c_u ?k_u ?z_enumerate ?z_reversed ?z_all ?z_bool ?z_dict ?z_int ?z_isinstance ?z_len ?z_list ?z_max ?z_range ?z_set ?z_sorted ?z_str ?z_sum ?z_tuple
   (case aC_Growth => k_is); (case a_k => k_is); (case i_k => k_is); (case l_k => k_is)
   (case c_k => k_is); (case k_k => k_is); (case a_b => k_is); (case i_b => k_is)
   (case l_b => k_is); (case c_b => k_is); (case k_b => k_is); (case a_m => k_is)
   (case i_m => k_is); (case l_m => k_is); (case c_m => k_is); (case k_m => k_is)
   (case a_d => k_is); (case i_d => k_is); (case l_d => k_is); (case c_d => k_is)
   (case k_d => k_is); (case pg_Growth => k_is); (case hd_Growth => k_is); (case po_Growth => k_is)
   (case sa_Growth => k_is); (case mk_Growth => k_is); (case kc_Growth => k_is); (case n_Growth_lines => k_is)
   (case n_Growth_places => k_is); (case n_Growth_above => k_is); (case n_Growth_below => k_is); (case a_r => k_is)
   (case l_r => k_is); (case c_r => k_is); (case k_r => k_is); (case a_q => k_is)
   (case l_q => k_is); (case c_q => k_is); (case k_q => k_is); (case a_s => k_is)
   (case l_s => k_is); (case c_s => k_is); (case k_s => k_is); (case a_t => k_is)
   (case l_t => k_is); (case c_t => k_is); (case k_t => k_is); (case a_f => k_is)
   (case l_f => k_is); (case c_f => k_is); (case k_f => k_is); (case a_c => k_is)
   (case l_c => k_is); (case c_c => k_is); (case k_c => k_is); (case a_l => k_is)
   (case l_l => k_is); (case c_l => k_is); (case k_l => k_is); (case a_e => k_is)
   (case l_e => k_is); (case c_e => k_is); (case k_e => k_is); (case a_i => k_is)
   (case l_i => k_is); (case c_i => k_is); (case k_i => k_is); (case a_g => k_is)
   (case l_g => k_is); (case c_g => k_is); (case k_g => k_is); (case a_h => k_is)
   (case l_h => k_is); (case c_h => k_is); (case k_h => k_is); (case a_p => k_is)
   (case l_p => k_is); (case c_p => k_is); (case k_p => k_is); (case a_n => k_is)
   (case l_n => k_is); (case c_n => k_is); (case k_n => k_is); (case a_j => k_is)
   (case l_j => k_is); (case c_j => k_is); (case k_j => k_is); (case a_a => k_is)
   (case l_a => k_is); (case c_a => k_is); (case k_a => k_is); (case a_o => k_is)
   (case l_o => k_is); (case c_o => k_is); (case k_o => k_is); (case a_u => k_is)
   (case l_u => k_is); (case c_u => k_is); (case k_u => k_is); (case z_enumerate => k_is)
   (case z_reversed => k_is); (case z_all => k_is); (case z_bool => k_is); (case z_dict => k_is)
   (case z_int => k_is); (case z_isinstance => k_is); (case z_len => k_is); (case z_list => k_is)
   (case z_max => k_is); (case z_range => k_is); (case z_set => k_is); (case z_sorted => k_is)
   (case z_str => k_is); (case z_sum => k_is); (case z_tuple => k_is)
#print axioms PySem.Challenge.cw_clashbook_k18_more_rules_holds
