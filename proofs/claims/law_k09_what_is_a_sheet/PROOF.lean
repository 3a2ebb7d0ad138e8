import PyProof.Rows.All
import Wide.All
import OpenK.AllK
import Wide.FinOn
import Lean
import PyProof.EqAt
import PyProof.EqKinds
import PyProof.TupleCall
import PyProof.IsiH_list
import KE.KDictOf
import PyProof.Rows.Exc
import PyProof.RulesTry
import PyProof.ForAppend
import PyProof.Rows.Tup
import PyProof.CollectWalk
import PyProof.Rows.DictListVals
import PyProof.AutoSeq1
import PyProof.FactsAll.list_3
import KE.KDictSum
import PyProof.Rows.SortStr
import PyProof.Rows.SortWalk
import PyProof.SetKind
import PyProof.Rows.SetObj
import PyProof.DictKinds
import PyProof.DictIter
import PyProof.MakeMany
import PyProof.WalksS
import PyProof.Walks
import PyProof.Seq
import PyProof.TupleIter
import PyProof.FactsAll.set_1
import PyProof.ForAny
import PyProof.Rows.SetFrom
import PyProof.Rows.StrMeet
import PyProof.NeKinds
import PyProof.ZipIter
import PySem.SetOps
import PyProof.EnumMake
import PyProof.EnumFor
import PyProof.Rows.EnumRows
import PyProof.Rows.Range3
import PyProof.IsRules
import PyProof.SetRoads
import PySem.Challenge.RW_clashbook_k09_what_is_a_sheet
namespace PySem.W.Fast
def tw5335679546763729875:=0
def tw11961856329552048232:=0
def tw12287721714082499813:=0
def tw1101344761783084854:=0
def tw4491135847333181035:=0
def tw6475269644247837322:=0
def tw17746493282694052862:=0
def tw14644772612396613054:=0
def tw16019541976126614391:=0
def tw8769806891442431329:=0
def tw3055321871902429064:=0
def tw3590147442934312318:=0
def tw13419768821247974081:=0
def tw15024712744502829806:=0
def tw12457241346589118381:=0
def tw17338895830653149157:=0
def tw1782037725539755235:=0
def tw17765946420796863914:=0
def tw2779352201642505830:=0
def tw10557637716790748464:=0
def tw8535256328607211982:=0
def tw4019491775423145011:=0
def tw15344590413926130651:=0
def tw13605385596321019279:=0
def tw15076628528024594677:=0
def tw1320369817988628050:=0
def tw9435086587526393504:=0
def tw18044705532791168575:=0
def tw6376759366193872658:=0
def tw2798053520559491051:=0
def tw5374163474857598482:=0
def tw13760834068214254795:=0
def tw15117946343526520449:=0
def tw5266688650936006581:=0
def tw7708260901210517458:=0
def tw11785876888269877522:=0
def tw15685011401269427682:=0
def tw1801183949092334437:=0
def tw11528676902106871951:=0
def tw3165274041263096668:=0
def tw11903711686745578739:=0
def tw12069544183107805578:=0
def tw3139878907154527859:=0
def tw17012294464102709062:=0
def tw4991544278774742894:=0
def tw7074886642618769573:=0
def tw8904069956435820042:=0
def tw6445588704260138640:=0
def tw16044878474501647207:=0
def tw4937152922747193759:=0
def tw14165536014265556139:=0
def tw17052858606051002043:=0
def tw17757029801311589560:=0
def tw3375911489207386560:=0
def tw6657254670233378389:=0
def tw14364995972487499761:=0
def tw12200738731772316538:=0
def tw6522611161227539496:=0
def tw15137399208946606018:=0
def tw304150592984149400:=0
def tw14032841739188946555:=0
def tw16228565749476584892:=0
def tw3288718081629729278:=0
def tw7694618792564139101:=0
def tw191511685886853166:=0
def tw7602294523564987670:=0
def tw6309807653134225004:=0
def tw9514746598300450930:=0
def tw3602004422444969253:=0
def tw17750602302102839995:=0
def tw4798025154249221285:=0
def tw9675324758182701108:=0
def tw6153050170775333696:=0
def tw10384820400383527523:=0
def tw2841085074398718593:=0
def tw10316741977836342797:=0
def tw1941014698924576334:=0
def tw17566147148141561060:=0
def tw13753222242200953339:=0
def tw18170625197416079013:=0
def tw7768608489682795056:=0
def tw13992244374506579036:=0
def tw12944306303704955383:=0
def tw16521778441609084029:=0
def tw2359265618923127589:=0
def tw387716757021327590:=0
def tw6921767846850464556:=0
def tw744660295392956640:=0
def tw14288047924512682394:=0
def tw9620869055691149354:=0
def tw12184374648190153803:=0
def tw13107658390485752866:=0
def tw16772873091507220619:=0
def tw5479999583566559667:=0
def tw15639815324632152190:=0
def tw9459164714651783274:=0
def tw6693406135914251100:=0
def tw12774549508856998515:=0
def tw17373074521761632236:=0
def tw6938780524859866792:=0
def tw9038470430173109395:=0
def tw11501195486048089201:=0
def tw15924669526696726949:=0
def tw11781841567273541251:=0
def tw8489994537752714982:=0
end PySem.W.Fast
set_option Elab.async false
set_option linter.all false
set_option maxRecDepth 100000
namespace L2
open PySem PySem.Spec PyProof.Rows
abbrev Key := Sum Int Str
def keyIs : Key -> Value -> Bool
 | .inl k, v => Value.isInt k v
 | .inr x, v => Value.isStrOf x v
def keyH (w : World) : Key -> Int
 | .inl k => hashInt k
 | .inr x => hashStr w x
theorem keyIs_shape : ∀ {k : Key} {v : Value}, keyIs k v = true -> (∃ i t, k = Sum.inl i /\ v = Value.int i t) \/ (∃ x t, k = Sum.inr x /\ v = Value.str x t)
 | .inl i, v, h => by
   obtain ⟨t, e⟩ := Value.isInt_shape (k := i) (v := v) h
   exact .inl ⟨i, t, rfl, e⟩
 | .inr x, v, h => by
   obtain ⟨t, e⟩ := Value.isStrOf_shape (x := x) (v := v) h
   exact .inr ⟨x, t, rfl, e⟩
theorem keyIs_int (i : Int) (t : Tok) : keyIs (.inl i) (.int i t) = true := by simp [keyIs, Value.isInt]
theorem keyIs_str (x : Str) (t : Tok) : keyIs (.inr x) (.str x t) = true := by simp [keyIs, Value.isStrOf]
theorem key_ll (a b : Int) : decide ((Sum.inl a : Key) = Sum.inl b) = (a == b) := by
 by_cases e : a = b
 · subst e; simp
 · have h : ¬ (Sum.inl a : Key) = Sum.inl b := fun q => e (Sum.inl.inj q)
   rw [decide_eq_false h]
   exact (beq_eq_false_iff_ne.mpr e).symm
theorem key_rr (a b : Str) : decide ((Sum.inr a : Key) = Sum.inr b) = decide (a = b) := by
 by_cases e : a = b
 · subst e; simp
 · have h : ¬ (Sum.inr a : Key) = Sum.inr b := fun q => e (Sum.inr.inj q)
   rw [decide_eq_false h, decide_eq_false e]
theorem key_lr (a : Int) (b : Str) : decide ((Sum.inl a : Key) = Sum.inr b) = false := decide_eq_false (fun q => nomatch q)
theorem key_rl (a : Str) (b : Int) : decide ((Sum.inr a : Key) = Sum.inl b) = false := decide_eq_false (fun q => nomatch q)
def zZ (prog : Program) (w : World) : PySem.KeyKind prog w Key where
 is := keyIs
 hash := keyH w
 inj := fun v a b ha hb => by
   rcases keyIs_shape ha with ⟨i, t, rfl, rfl⟩ | ⟨x, t, rfl, rfl⟩
   · rcases keyIs_shape hb with ⟨j, u, rfl, e⟩ | ⟨y, u, rfl, e⟩
     · injection e with e1 _; rw [e1]
     · exact nomatch e
   · rcases keyIs_shape hb with ⟨j, u, rfl, e⟩ | ⟨y, u, rfl, e⟩
     · exact nomatch e
     · injection e with e1 _; rw [e1]
 byValue := fun k v h => by
   rcases keyIs_shape h with ⟨i, t, rfl, rfl⟩ | ⟨x, t, rfl, rfl⟩ <;> rfl
 pyHash := fun hv h => by
   rcases keyIs_shape hv with ⟨i, t, rfl, rfl⟩ | ⟨x, t, rfl, rfl⟩
   · exact wpAny_pyHash_int h
   · exact wpAny_pyHash_str h
 eqBool := fun hu hv h => by
   rcases keyIs_shape hu with ⟨i, t, rfl, rfl⟩ | ⟨x, t, rfl, rfl⟩
   · rcases keyIs_shape hv with ⟨j, u, rfl, rfl⟩ | ⟨y, u, rfl, rfl⟩
     · rw [key_ll] at h; exact wpAny_eqBool_int h
     · rw [key_lr] at h; exact SeqAt.EqAt.int_str i t y u _ _ _ _ h
   · rcases keyIs_shape hv with ⟨j, u, rfl, rfl⟩ | ⟨y, u, rfl, rfl⟩
     · rw [key_rl] at h; exact SeqAt.EqAt.str_int x t j u _ _ _ _ h
     · rw [key_rr] at h; exact wpAny_eqBool_str h
 «strs» := fun k x t v h => by
   rcases keyIs_shape h with ⟨i, u, rfl, e⟩ | ⟨y, u, rfl, e⟩
   · exact nomatch e
   · injection e with e1 _
     subst e1
     cases v <;> rfl
theorem mixKind_int (prog : Program) (w : World) (i : Int) (t : Tok) : (zZ prog w).is (.inl i) (.int i t) = true := keyIs_int i t
theorem xO (prog : Program) (w : World) (x : Str) (t : Tok) : (zZ prog w).is (.inr x) (.str x t) = true := keyIs_str x t
inductive V where
 | non | bl (b : Bool) | int (i : Int) | str (x : Str) | byt (b : Array UInt8) | flt (b : UInt64) | ref (a : Addr) | ty (n : String)
 deriving DecidableEq
def RelV : V -> Value -> Prop
 | .non, u => u = Value.none
 | .bl b, u => u = Value.bool b
 | .int i, u => ∃ t, u = Value.int i t
 | .str x, u => ∃ t, u = Value.str x t
 | .byt b, u => ∃ t, u = Value.bytes b t
 | .flt b, u => ∃ t, u = Value.float b t
 | .ref a, u => u = Value.ref a
 | .ty n, u => u = Value.type n
abbrev Vals : List V -> List Value -> Prop := Paired RelV
theorem Vals.length {xs : List V} {us : List Value} (r : Vals xs us) : xs.length = us.length := Paired.length r
theorem Vals.get : ∀ {xs : List V} {us : List Value} {i : Nat} {x : V}, Vals xs us -> xs[i]? = some x -> ∃ u, us[i]? = some u /\ RelV x u
 | _, _, _, _, .nil, e => by simp at e
 | _, _, 0, _, .cons r _, e => by simp at e; subst e; exact ⟨_, rfl, r⟩
 | _, _, i + 1, x, .cons _ t, e => by
   obtain ⟨u, h1, h2⟩ := Vals.get (i := i) (x := x) t (by simpa using e)
   exact ⟨u, by simpa using h1, h2⟩
theorem Vals.set {x : V} {u : Value} (r : RelV x u) : ∀ {xs : List V} {us : List Value} (i : Nat), Vals xs us -> Vals (xs.set i x) (us.set i u)
 | _, _, _, .nil => .nil
 | _, _, 0, .cons _ t => .cons r t
 | _, _, i + 1, .cons q t => .cons q (Vals.set r i t)
theorem Vals.append : ∀ {xs ys : List V} {us ws : List Value}, Vals xs us -> Vals ys ws -> Vals (xs ++ ys) (us ++ ws)
 | _, _, _, _, .nil, s => s
 | _, _, _, _, .cons r t, s => .cons r (Vals.append t s)
theorem Vals.take : ∀ {xs : List V} {us : List Value} (n : Nat), Vals xs us -> Vals (xs.take n) (us.take n)
 | _, _, 0, _ => .nil
 | _, _, _ + 1, .nil => .nil
 | _, _, n + 1, .cons r t => .cons r (Vals.take n t)
theorem Vals.drop : ∀ {xs : List V} {us : List Value} (n : Nat), Vals xs us -> Vals (xs.drop n) (us.drop n)
 | _, _, 0, r => r
 | _, _, _ + 1, .nil => .nil
 | _, _, n + 1, .cons _ t => Vals.drop n t
def RelO : Option V -> Option Value -> Prop
 | some v, some u => RelV v u
 | none, none => True
 | _, _ => False
def KV {κ : Type} : List (κ × V) -> List (κ × Value) -> Prop := Paired fun (p : κ × V) (q : κ × Value) => p.1 = q.1 /\ RelV p.2 q.2
def kV : Key -> V
 | .inl i => .int i
 | .inr x => .str x
inductive HO where
 | lst (xs : List V)
 | tup (xs : List V)
 | dK (kvs : List (Key × V)) | dT (kvs : List (List Key × V))
 | set (S : Int -> Bool) (n : Nat)
 | ins (C dx : Addr) (fs : List (Str × V))
 | own (x : Addr)
 | xd (fs : List (Str × V))
 | met (f x : Addr)
 | rng (lo hi : Int)
 | frz (o : Obj) (u : HO)
 | tbl (ps : Array Value)
 | ext (φ : Heap -> Prop)
abbrev Hp := Addr -> Option HO
def upd (H : Hp) (a : Addr) (o : HO) : Hp := fun b => if b = a then some o else H b
theorem zC {H : Hp} {a : Addr} {o : HO} : upd H a o a = some o := by unfold upd; rw [if_pos rfl]
theorem zP {H : Hp} {a b : Addr} {o : HO} (h : b ≠ a) : upd H a o b = H b := by unfold upd; rw [if_neg h]
theorem yE {H : Hp} {a b : Addr} {o : HO} (h : H a = some o) (h' : H b = none) : a ≠ b := by
 intro e; subst e; rw [h] at h'; cases h'
section
variable (P : Program) (w : World)
def ObjOk (H : Hp) (h : Heap) (a : Addr) : HO -> Prop
 | .lst xs => xs.length <= sizeLine /\ ∃ (its : List Value) (n : Nat), Vals xs its /\ h.get? a = some { cls := .type "list", data := .seq its.toArray n }
 | .tup xs => xs.length <= sizeLine /\ ∃ its : List Value, Vals xs its /\ IsTup h a its.toArray
 | .dK kvs => kvs.length <= sizeLine /\ (a == sysModules) = false /\ ∃ vs, KV kvs vs /\ h.DictOf (zZ P w) a vs
 | .dT kvs => kvs.length <= sizeLine /\ (a == sysModules) = false /\ ∃ xs : List (List Key × Addr × Value),
     Paired (fun (p : List Key × V) (q : List Key × Addr × Value) => p.1 = q.1 /\ H q.2.1 = some (.tup (p.1.map kV)) /\ RelV p.2 q.2.2) kvs xs /\
     ∃ o es ep, h.get? a = some o /\ o.ExactDict /\ o.data = .dict es ep /\ es.toList = xs.map (entryOfKey (tupleKind (zZ P w))) /\ (xs.map (·.1)).Nodup
 | .set S n => h.SetOf (intKind P w) a S n
 | .ins C dx fs => H dx = some (.own a) /\ fs.length <= 1000 /\ dx ≠ a /\ h.get? a = some (PySem.W.instObj C dx) /\
     ∃ mA, h.Ns1 dx mA /\ (∀ f, RelO (fs.lookup f) (mA f)) /\ PySem.Within mA (fs.map (·.1))
 | .own _ => ∃ o, h.get? a = some o
 | .xd fs => ∃ mA, h.Ns1 a mA /\ ∀ f, RelO (fs.lookup f) (mA f)
 | .rng lo hi => ∃ t u v, h.get? a = some { cls := .type "range", data := .fields #[.int lo t, .int hi u, .int 1 v] }
 | .frz o u => h.get? a = some o /\ ObjOk H h a u
 | .tbl ps => h.get? a = some { cls := .none, data := .fields ps }
 | .met f x => h.get? a = some (PySem.W.methodObj (.ref f) (.ref x))
 | .ext φ => φ h /\ (∃ o, h.get? a = some o) /\ ∀ h1 h2 : Heap, φ h1 -> (∀ o, h1.get? a = some o -> h2.get? a = some o) -> φ h2
def HOk (H : Hp) (h : Heap) : Prop := ∀ a o, H a = some o -> ObjOk P w H h a o
end
section
variable {P : Program} {w : World} {H H' : Hp} {h h' : Heap} {a : Addr} {o : HO}
theorem ObjOk.lt (x : ObjOk P w H h a o) : a < h.objs.size := by
 cases o with
 | lst xs => obtain ⟨_, _, _, _, e⟩ := x; exact Heap.lt_size e
 | tup xs => obtain ⟨_, _, _, p⟩ := x; exact p.lt
 | dK kvs => obtain ⟨_, _, _, _, o, _, _, e, _⟩ := x; exact Heap.lt_size e
 | dT kvs => obtain ⟨_, _, _, _, o, _, _, e, _⟩ := x; exact Heap.lt_size e
 | set S n => obtain ⟨o, _, _, _, e, _⟩ := x; exact Heap.lt_size e
 | ins C dx fs => obtain ⟨_, _, _, e, _⟩ := x; exact Heap.lt_size e
 | own y => obtain ⟨_, e⟩ := x; exact Heap.lt_size e
 | xd fs => obtain ⟨_, ⟨_, _, _, e, _⟩, _⟩ := x; exact Heap.lt_size e
 | rng lo hi => obtain ⟨_, _, _, e⟩ := x; exact Heap.lt_size e
 | frz ob u => obtain ⟨e, _⟩ := x; exact Heap.lt_size e
 | tbl ps => exact Heap.lt_size (show h.get? a = some _ from x)
 | met f y => exact Heap.lt_size (show h.get? a = some _ from x)
 | ext φ => obtain ⟨_, ⟨_, e⟩, _⟩ := x; exact Heap.lt_size e
theorem Paired.mapP {α β : Type} {F G : α -> β -> Prop} : ∀ {l₁ : List α} {l₂ : List β}, Paired F l₁ l₂ -> (∀ a b, F a b -> G a b) -> Paired G l₁ l₂
 | _, _, .nil, _ => .nil
 | _, _, .cons r t, f => .cons (f _ _ r) (Paired.mapP t f)
theorem ObjOk.stay (x : ObjOk P w H h a o) (k : ∀ b u, (b = a \/ H b = some (.own a)) -> h.get? b = some u -> h'.get? b = some u)
   (ho : ∀ b, H b = some (.own a) -> H' b = some (.own a)) (ht : ∀ b xs, H b = some (.tup xs) -> H' b = some (.tup xs)) : ObjOk P w H' h' a o := by
 induction o with
 | lst xs => obtain ⟨z, its, n, r, e⟩ := x; exact ⟨z, its, n, r, k _ _ (.inl rfl) e⟩
 | tup xs => obtain ⟨z, its, r, ob, e, c⟩ := x; exact ⟨z, its, r, ob, k _ _ (.inl rfl) e, c⟩
 | dK kvs => obtain ⟨z, y, vs, r, ob, es, ep, e, c⟩ := x; exact ⟨z, y, vs, r, ob, es, ep, k _ _ (.inl rfl) e, c⟩
 | dT kvs =>
   obtain ⟨z, y, xs, r, ob, es, ep, e, c⟩ := x
   exact ⟨z, y, xs, Paired.mapP r fun p q z => ⟨z.1, ht _ _ z.2.1, z.2.2⟩, ob, es, ep, k _ _ (.inl rfl) e, c⟩
 | set S n => obtain ⟨ob, es, ep, t, e, c⟩ := x; exact ⟨ob, es, ep, t, k _ _ (.inl rfl) e, c⟩
 | ins C dx fs =>
   obtain ⟨d, z, ne, e, mA, ⟨od, es, ep, e2, c⟩, r⟩ := x
   exact ⟨ho _ d, z, ne, k _ _ (.inl rfl) e, mA, ⟨od, es, ep, k _ _ (.inr d) e2, c⟩, r⟩
 | own y => obtain ⟨ob, e⟩ := x; exact ⟨ob, k _ _ (.inl rfl) e⟩
 | xd fs => obtain ⟨mA, ⟨od, es, ep, e, c⟩, r⟩ := x; exact ⟨mA, ⟨od, es, ep, k _ _ (.inl rfl) e, c⟩, r⟩
 | rng lo hi => obtain ⟨t, u, v, e⟩ := x; exact ⟨t, u, v, k _ _ (.inl rfl) e⟩
 | frz ob u ih => obtain ⟨e, q⟩ := x; exact ⟨k _ _ (.inl rfl) e, ih q⟩
 | tbl ps =>
   have e : h.get? a = some { cls := .none, data := .fields ps } := x
   show h'.get? a = some { cls := .none, data := .fields ps }
   exact k a _ (.inl rfl) e
 | met f y =>
   have e : h.get? a = some (PySem.W.methodObj (.ref f) (.ref y)) := x
   show h'.get? a = some (PySem.W.methodObj (.ref f) (.ref y))
   exact k a _ (.inl rfl) e
 | ext φ => obtain ⟨p, ⟨o, e⟩, st⟩ := x; exact ⟨st _ _ p fun o q => k _ _ (.inl rfl) q, ⟨o, k _ _ (.inl rfl) e⟩, st⟩
theorem HOk.lt (x : HOk P w H h) (e : H a = some o) : a < h.objs.size := (x a o e).lt
theorem HOk.fresh (x : HOk P w H h) (e : h.objs.size <= a) : H a = none := by
 cases q : H a with
 | none => rfl
 | some u => exact absurd (Nat.lt_of_lt_of_le (x.lt q) e) (Nat.lt_irrefl _)
theorem HOk.kept (x : HOk P w H h) (k : ∀ b u, h.get? b = some u -> h'.get? b = some u) : HOk P w H h' := fun a o e =>
 (x a o e).stay (fun b u _ q => k b u q) (fun _ q => q) fun _ _ q => q
theorem HOk.laid (x : HOk P w H h) (k : ∀ b u, h.get? b = some u -> h'.get? b = some u) (hp : h.objs.size <= a) (new : ObjOk P w (upd H a o) h' a o) : HOk P w (upd H a o) h' := fun b u e => by
 have hn := x.fresh hp
 by_cases hb : b = a
 · subst hb; rw [zC] at e; cases e; exact new
 · rw [zP hb] at e
   exact (x b u e).stay (fun c v _ q => k c v q) (fun c q => by rw [zP (yE q hn)]; exact q) fun c xs q => by rw [zP (yE q hn)]; exact q
end
def Rd (H : Hp) (a : Addr) (u : HO) : Prop := H a = some u \/ ∃ o, H a = some (.frz o u)
theorem Rd.ok {P : Program} {w : World} {H : Hp} {h : Heap} {a : Addr} {u : HO} (r : Rd H a u) (x : HOk P w H h) : ObjOk P w H h a u := by
 rcases r with r | ⟨o, r⟩
 · exact x a u r
 · obtain ⟨_, q⟩ := x a _ r
   exact q
def Mut : Option HO -> Prop
 | some (.lst _) => True
 | some (.dK _) => True
 | some (.dT _) => True
 | some (.set _ _) => True
 | some (.ins _ _ _) => True
 | some (.ext _) => True
 | _ => False
section
variable {P : Program} {w : World} {H : Hp} {h h' : Heap} {x e : Addr} {o' : HO}
theorem HOk.write (ok : HOk P w H h) (mu : Mut (H x)) (he : e = x \/ H e = some (.own x)) (k : ∀ b u, b ≠ e -> h.get? b = some u -> h'.get? b = some u) (heo : ∃ u, h'.get? e = some u)
   (new : ObjOk P w (upd H x o') h' x o') : HOk P w (upd H x o') h' := fun b u q => by
 have nown : ∀ c y, H c = some (.own y) -> c ≠ x := fun c y r z => by subst z; rw [r] at mu; exact mu
 have ntup : ∀ c xs, H c = some (.tup xs) -> c ≠ x := fun c xs r z => by subst z; rw [r] at mu; exact mu
 by_cases hb : b = x
 · subst hb; rw [zC] at q; cases q; exact new
 · rw [zP hb] at q
   by_cases hbe : b = e
   · have q' : H b = some (.own x) := by
       rcases he with z | z
       · exact absurd (hbe.trans z) hb
       · rw [hbe]; exact z
     rw [q] at q'; cases q'
     obtain ⟨v, hv⟩ := heo
     exact ⟨v, by rw [hbe]; exact hv⟩
   · refine (ok b u q).stay (fun c v hc r => k c v ?_ r) (fun c r => by rw [zP (nown c b r)]; exact r) fun c xs r => by rw [zP (ntup c xs r)]; exact r
     rcases hc with rfl | hc
     · exact hbe
     · rintro rfl
       rcases he with z | z
       · exact nown c b hc z
       · rw [hc] at z; cases z; exact hb rfl
end
structure Un (fs ex : List Addr) (H H' : Hp) (h h' : Heap) : Prop where
 keep : ∀ b o, h.get? b = some o -> H b = none -> b ∉ fs -> b ∉ ex -> h'.get? b = some o
 slot : ∀ b o, h.get? b = some o -> H b = none -> b ∈ fs -> b ∉ ex -> ∃ sl, h'.get? b = some { o with slots := sl }
 free : ∀ b o, h.get? b = some o -> H b = none -> b ∉ ex -> H' b = none
 there : ∀ b o, h.get? b = some o -> b ∉ ex -> ∃ o', h'.get? b = some o'
 tups : ∀ b xs, H b = some (.tup xs) -> H' b = some (.tup xs)
 frzs : ∀ b o u, H b = some (.frz o u) -> H' b = some (.frz o u)
 tbls : ∀ b ps, H b = some (.tbl ps) -> ∃ more, H' b = some (.tbl (ps ++ more))
section
variable {fs fs' ex ex' : List Addr} {H H1 H2 : Hp} {h h1 h2 h' : Heap} {a x e : Addr} {o : HO}
theorem Un.any (u : Un fs ex H H1 h h1) {b : Addr} {ob : Obj} (q : h.get? b = some ob) (n : H b = none) (hx : b ∉ ex) : ∃ sl, h1.get? b = some { ob with slots := sl } := by
 by_cases hb : b ∈ fs
 · exact u.slot b ob q n hb hx
 · exact ⟨ob.slots, u.keep b ob q n hb hx⟩
theorem Un.trans (a : Un fs ex H H1 h h1) (b : Un fs ex H1 H2 h1 h2) : Un fs ex H H2 h h2 where
 keep := fun c ob q n hc hx => b.keep c ob (a.keep c ob q n hc hx) (a.free c ob q n hx) hc hx
 slot := fun c ob q n hc hx => by
   obtain ⟨sl, e1⟩ := a.slot c ob q n hc hx
   obtain ⟨sl', e2⟩ := b.slot c _ e1 (a.free c ob q n hx) hc hx
   exact ⟨sl', e2⟩
 free := fun c ob q n hx => by
   obtain ⟨o', e1⟩ := a.there c ob q hx
   exact b.free c o' e1 (a.free c ob q n hx) hx
 there := fun c ob q hx => by
   obtain ⟨o', e1⟩ := a.there c ob q hx
   exact b.there c o' e1 hx
 tups := fun c xs q => b.tups c xs (a.tups c xs q)
 frzs := fun c ob xs q => b.frzs c ob xs (a.frzs c ob xs q)
 tbls := fun c ps q => by
   obtain ⟨m1, e1⟩ := a.tbls c ps q
   obtain ⟨m2, e2⟩ := b.tbls c _ e1
   exact ⟨m1 ++ m2, by rw [e2, Array.append_assoc]⟩
theorem Un.kept (k : ∀ b u, h.get? b = some u -> h'.get? b = some u) : Un fs ex H H h h' :=
 ⟨fun b ob q _ _ _ => k b ob q, fun b ob q _ _ _ => ⟨ob.slots, k b ob q⟩, fun _ _ _ n _ => n, fun b ob q _ => ⟨ob, k b ob q⟩, fun _ _ q => q, fun _ _ _ q => q, fun _ ps q => ⟨#[], by rw [q]; simp⟩⟩
theorem Un.refl : Un fs ex H H h h := Un.kept fun _ _ q => q
theorem Un.laid (k : ∀ b u, h.get? b = some u -> h'.get? b = some u) (hp : h.objs.size <= a) (hn : H a = none) : Un fs ex H (upd H a o) h h' where
 keep := fun b u q _ _ _ => k b u q
 slot := fun b u q _ _ _ => ⟨u.slots, k b u q⟩
 free := fun b u q n _ => by rw [zP (Nat.ne_of_lt (Nat.lt_of_lt_of_le (Heap.lt_size q) hp))]; exact n
 there := fun b u q _ => ⟨u, k b u q⟩
 tups := fun b xs q => by rw [zP (yE q hn)]; exact q
 frzs := fun b u xs q => by rw [zP (yE q hn)]; exact q
 tbls := fun b ps q => ⟨#[], by rw [zP (yE q hn), q]; simp⟩
theorem Un.write (mu : Mut (H x)) (he : e = x \/ H e = some (.own x)) (k : ∀ b u, b ≠ e -> h.get? b = some u -> h'.get? b = some u) (heo : ∃ u, h'.get? e = some u) : Un fs ex H (upd H x o) h h' := by
 have hx : ∀ b, H b = none -> b ≠ x := fun b n z => by subst z; rw [n] at mu; exact mu
 have hb : ∀ b, H b = none -> b ≠ e := fun b n z => by
   subst z
   rcases he with r | r
   · exact hx b n r
   · rw [n] at r; cases r
 have hm : ∀ b u, H b = some u -> ¬ Mut (some u) -> b ≠ x := fun b u q nm z => by subst z; rw [q] at mu; exact nm mu
 refine ⟨fun b u q n _ _ => k b u (hb b n) q, fun b u q n _ _ => ⟨u.slots, k b u (hb b n) q⟩, fun b u q n _ => by rw [zP (hx b n)]; exact n, fun b u q _ => ?_,
   fun b xs q => by rw [zP (hm b _ q fun z => z)]; exact q, fun b u xs q => by rw [zP (hm b _ q fun z => z)]; exact q, fun b ps q => ⟨#[], by rw [zP (hm b _ q fun z => z), q]; simp⟩⟩
 by_cases hbe : b = e
 · subst hbe; exact heo
 · exact ⟨u, k b u hbe q⟩
end
def trk (h : Heap) (H : Hp) : List Addr := (List.range h.objs.size).filter fun a => (H a).isSome
def qE (h : Heap) (H : Hp) : Heap := PySem.W.hideAll h (trk h H)
theorem hidT_size (h : Heap) (H : Hp) : (qE h H).objs.size = h.objs.size := PySem.W.hideAll_size _ _
theorem hidT_get {h : Heap} {H : Hp} {b : Addr} {o : Obj} (e : h.get? b = some o) (n : H b = none) : (qE h H).get? b = some o :=
 PySem.W.hideAll_get _ e fun hm => by
   have q : (H b).isSome = true := (List.mem_filter.mp hm).2
   rw [n] at q; simp at q
theorem of_hidT {h : Heap} {H : Hp} {b : Addr} {o : Obj} (e : (qE h H).get? b = some o) : h.get? b = some o /\ H b = none := by
 have e' : h.get? b = some o := PySem.W.of_hideAll (trk h H) e
 refine ⟨e', ?_⟩
 cases q : H b with
 | none => rfl
 | some x =>
   have hm : b ∈ trk h H := List.mem_filter.mpr ⟨List.mem_range.mpr (Heap.lt_size e'), by simp [q]⟩
   have z : (qE h H).get? b = none := PySem.W.hideAll_none (trk h H) hm
   rw [z] at e; cases e
def allNews (g h : Heap) (L : Addr) : List (Addr × Obj) := (List.range h.objs.size).filterMap fun a => if a = L \/ (g.get? a).isSome = true then none else (h.get? a).map fun o => (a, o)
def rest (g h : Heap) (L d : Addr) : List (Addr × Obj) := (allNews g h L).filter fun p => decide (p.1 ≠ d)
structure Mod (K : PySem.W.Frag) (mg : Str -> Option Value) (base : Heap) : Prop where
 kin : K.In base
 glob : base.Ns mainGlobals mg
 blt : ∃ mb, base.Ns builtinsNs mb /\ ∀ x : Str, x ≠ "__name__" -> mb x = bootBuiltins x
 nolimit : base.NoLimit
structure Cx where
 prog : Program
 w : World
 K : PySem.W.Frag
 mg : Str -> Option Value
 base : Heap
 A : Around
 N : List Str
 s₀ : Shared
 H₀ : Hp
 env : Env
 outer : List Env
 stack : List Env
 ex : List Addr
 fn : Str -> Bool
 calm : Bool
 pn : List (Addr × Obj)
 xe : Value -> Shared -> Prop
def frs (l : List Env) : List Addr := l.filterMap (·.frame)
abbrev Cx.fs (X : Cx) : List Addr := frs X.outer
def Vis (sc : Scope) (x : Str) : Prop := sc.names.lookup x = some .local \/ sc.names.lookup x = some .cell \/ sc.names.lookup x = some .free
def Loc (sc : Scope) (x : Str) : Prop := sc.names.lookup x = some .local \/ sc.names.lookup x = some .cell
def Look (env : Env) (h : Heap) (m : Str -> Option Value) (x : Str) (u : Value) : Prop :=
 (env.kindOf x = some .local /\ m x = some u) \/ ((env.kindOf x = some .cell \/ env.kindOf x = some .free) /\ ∃ c, env.cells.lookup x = some c /\ h.IsCell c (some u))
structure Cx.Ok (X : Cx) : Prop where
 mod : Mod X.K X.mg X.base
 kind : X.env.scope.kind = .function
 glob : X.env.globals = mainGlobals
 blt : X.env.builtins = builtinsNs
 above : X.s₀.heap.objs.size <= X.env.locals
 inj : ∀ x y c, X.env.cells.lookup x = some c -> X.env.cells.lookup y = some c -> x = y
 has : ∀ x, (X.env.kindOf x = some .cell \/ X.env.kindOf x = some .free) -> ∃ c, X.env.cells.lookup x = some c
 cab : ∀ x c, X.fn x = true -> X.env.cells.lookup x = some c -> X.s₀.heap.objs.size <= c
 hd : X.calm = true -> X.A.handled = none
 frames : X.A.frames = some X.stack
 stk : X.stack = X.outer \/ (X.stack = X.env :: X.outer /\ X.env.frame = some X.env.locals)
 exf : ∀ b ∈ X.ex, b ≠ X.env.locals /\ ∀ x c, X.env.cells.lookup x = some c -> c ≠ b
 bs : ∀ b o, X.base.get? b = some o -> X.s₀.heap.get? b = some o /\ X.H₀ b = none
 bsz : X.base.objs.size <= X.s₀.heap.objs.size
 noex : ∀ b o, X.base.get? b = some o -> b ∉ X.ex
 exfs : ∀ b ∈ X.ex, b ∉ X.fs
 funs : X.s₀.heap.FunFrames X.base X.outer
 frf : ∀ b ∈ X.fs, X.H₀ b = none
structure Inv (X : Cx) (pins : List (Addr × Obj)) (σ : List (Option V)) (H : Hp) (s : Shared) : Prop where
 ok : X.Ok
 os : s.os = X.s₀.os
 bare : AllBare s.gens
 base : Un X.fs X.ex X.H₀ H X.s₀.heap s.heap
 loc : ∃ m, s.heap.Ns X.env.locals m /\ ∀ (i : Nat) (x : Str) (v : V), X.N[i]? = some x -> σ[i]? = some (some v) -> Vis X.env.scope x -> ∃ u, RelV v u /\ Look X.env s.heap m x u
 cell : ∀ x c, X.env.cells.lookup x = some c -> ∃ v, s.heap.IsCell c v
 free : H X.env.locals = none
 freeC : ∀ x c, X.env.cells.lookup x = some c -> H c = none
 pin : ∀ p ∈ X.pn ++ pins, s.heap.get? p.1 = some p.2 /\ H p.1 = none /\ p.1 ≠ X.env.locals /\ p.1 ∉ X.fs /\ ∀ v, p.2.data ≠ .cell v
 hok : HOk X.prog X.w H s.heap
 len : σ.length = X.N.length
section
variable {X : Cx} {pins : List (Addr × Obj)} {σ : List (Option V)} {H H' : Hp} {s : Shared} {h' : Heap}
theorem Cx.Ok.nofr (ok : X.Ok) {b : Addr} {o : Obj} (e : X.base.get? b = some o) : b ∉ X.fs := fun hb => by
 have := (ok.funs.mem hb).1
 rw [e] at this; cases this
theorem Inv.bs (I : Inv X pins σ H s) : ∀ b o, X.base.get? b = some o -> s.heap.get? b = some o /\ H b = none := fun b o e =>
 ⟨I.base.keep b o (I.ok.bs b o e).1 (I.ok.bs b o e).2 (I.ok.nofr e) (I.ok.noex b o e), I.base.free b o (I.ok.bs b o e).1 (I.ok.bs b o e).2 (I.ok.noex b o e)⟩
theorem Inv.bk (I : Inv X pins σ H s) : ∀ b o, X.base.get? b = some o -> s.heap.get? b = some o := fun b o e => (I.bs b o e).1
theorem Inv.mod (I : Inv X pins σ H s) : Mod X.K X.mg X.base := I.ok.mod
theorem Inv.kIn (I : Inv X pins σ H s) : X.K.In s.heap := I.ok.mod.kin.keeps I.bk
theorem Inv.lt (I : Inv X pins σ H s) : X.env.locals < s.heap.objs.size := let ⟨_, hn, _⟩ := I.loc; hn.lt
theorem Inv.sz (I : Inv X pins σ H s) : X.s₀.heap.objs.size <= s.heap.objs.size := Nat.le_trans I.ok.above (Nat.le_of_lt I.lt)
theorem Inv.nofs (I : Inv X pins σ H s) {a : Addr} (h : s.heap.objs.size <= a) : a ∉ X.fs := fun hb => by
 obtain ⟨_, o, ho, _⟩ := I.ok.funs.mem hb
 exact absurd (Nat.lt_of_lt_of_le (Heap.lt_size ho) (Nat.le_trans I.sz h)) (Nat.lt_irrefl _)
theorem Inv.cne (I : Inv X pins σ H s) : ∀ x c, X.env.cells.lookup x = some c -> c ≠ X.env.locals := fun x c e z => by
 obtain ⟨v, o, ho, hd⟩ := I.cell x c e
 obtain ⟨m, ⟨o', es, ep, ho', hd', _⟩, _⟩ := I.loc
 rw [z, ho'] at ho; cases ho; rw [hd'] at hd; cases hd
theorem Inv.funs (I : Inv X pins σ H s) : s.heap.FunFrames X.base X.outer := by
 have all : ∀ (l : List Env), (∀ b ∈ frs l, b ∈ X.fs) -> X.s₀.heap.FunFrames X.base l -> s.heap.FunFrames X.base l := by
   intro l
   induction l with
   | nil => intro _ _; trivial
   | cons env r ih =>
     intro hs hl
     obtain ⟨hk, ⟨L, o, hf, hn, ho, hd⟩, hr⟩ := hl
     have hL : L ∈ X.fs := hs L (by unfold frs; rw [List.filterMap_cons, hf]; exact List.mem_cons_self)
     obtain ⟨sl, e⟩ := I.base.slot L o ho (I.ok.frf L hL) hL fun z => I.ok.exfs L z hL
     exact ⟨hk, ⟨L, _, hf, hn, e, hd⟩, ih (fun b hb => hs b (by unfold frs; rw [List.filterMap_cons, hf]; exact List.mem_cons_of_mem _ hb)) hr⟩
 exact all X.outer (fun _ hb => hb) I.ok.funs
theorem Inv.stack (I : Inv X pins σ H s) : s.heap.FunFrames X.base X.stack := by
 rcases I.ok.stk with e | ⟨e, hf⟩
 · rw [e]; exact I.funs
 · rw [e]
   obtain ⟨m, hn, _⟩ := I.loc
   refine .cons (by rw [I.ok.kind]; decide) hf hn ?_ I.funs
   exact Heap.get?_none_of_le (Nat.le_trans I.ok.bsz I.ok.above)
theorem Inv.stkSub (I : Inv X pins σ H s) : ∀ b ∈ frs X.stack, b ∈ X.env.locals :: X.fs := fun b hb => by
 rcases I.ok.stk with e | ⟨e, hf⟩
 · rw [e] at hb; exact List.mem_cons_of_mem _ hb
 · rw [e] at hb
   unfold frs at hb
   rw [List.filterMap_cons, hf] at hb
   exact hb
theorem Inv.stkFree (I : Inv X pins σ H s) : ∀ b ∈ frs X.stack, H b = none := fun b hb => by
 rcases List.mem_cons.mp (I.stkSub b hb) with e | hb
 · rw [e]; exact I.free
 · obtain ⟨_, o, ho, _⟩ := I.ok.funs.mem hb
   exact I.base.free b o ho (I.ok.frf b hb) fun z => I.ok.exfs b z hb
theorem Inv.step {g' : Array GenState} {t' : Nat} {d' : Drawn} {ch : List Addr} (I : Inv X pins σ H s)
   (hch : ∀ b ∈ ch, (b ∈ X.ex \/ X.s₀.heap.objs.size <= b) /\ b ≠ X.env.locals /\ (∀ x c, X.env.cells.lookup x = some c -> c ≠ b) /\ ∀ p ∈ X.pn ++ pins, p.1 ≠ b)
   (keep : ∀ b o, b ≠ X.env.locals -> b ∉ X.fs -> b ∉ ch -> s.heap.get? b = some o -> H b = none -> h'.get? b = some o)
   (slot : ∀ b o, b ≠ X.env.locals -> b ∈ X.fs -> b ∉ ch -> s.heap.get? b = some o -> H b = none -> ∃ sl, h'.get? b = some { o with slots := sl }) (free : ∀ b o, b ∉ ch -> s.heap.get? b = some o -> H b = none -> H' b = none)
   (there : ∀ b o, b ∉ ch -> s.heap.get? b = some o -> ∃ o', h'.get? b = some o')
   (tups : ∀ b xs, H b = some (.tup xs) -> H' b = some (.tup xs)) (frzs : ∀ b o u, H b = some (.frz o u) -> H' b = some (.frz o u)) (tbls : ∀ b ps, H b = some (.tbl ps) -> ∃ more, H' b = some (.tbl (ps ++ more)))
   (ns : ∀ m, s.heap.Ns X.env.locals m -> h'.Ns X.env.locals m) (hok : HOk X.prog X.w H' h') (hg : AllBare g') :
   Inv X pins σ H' { s with heap := h', gens := g', drawn := d', toks := t' } := by
 have neL : ∀ b o, X.s₀.heap.get? b = some o -> b ≠ X.env.locals := fun b o e => Nat.ne_of_lt (Nat.lt_of_lt_of_le (Heap.lt_size e) I.ok.above)
 have neC : ∀ b o, X.s₀.heap.get? b = some o -> b ∉ X.ex -> b ∉ ch := fun b o e hx hb => by
   rcases (hch b hb).1 with z | z
   · exact hx z
   · exact absurd (Nat.lt_of_lt_of_le (Heap.lt_size e) z) (Nat.lt_irrefl _)
 have cellK : ∀ x c, X.env.cells.lookup x = some c -> ∀ v, s.heap.IsCell c v -> h'.IsCell c v := fun x c e v ⟨o, ho, hd⟩ => by
   have nch : c ∉ ch := fun z => (hch c z).2.2.1 x c e rfl
   by_cases hc : c ∈ X.fs
   · obtain ⟨sl, q⟩ := slot c o (I.cne x c e) hc nch ho (I.freeC x c e)
     exact ⟨_, q, hd⟩
   · exact ⟨o, keep c o (I.cne x c e) hc nch ho (I.freeC x c e), hd⟩
 refine ⟨I.ok, I.os, hg, ⟨fun b o e n hb hx => ?_, fun b o e n hb hx => ?_, fun b o e n hx => ?_, fun b o e hx => ?_, fun b xs e => tups b xs (I.base.tups b xs e), fun b o xs e => frzs b o xs (I.base.frzs b o xs e), fun b ps e => ?_⟩, ?_, fun x c e => ?_, ?_, fun x c e => ?_, fun p hp => ?_, hok, I.len⟩
 · exact keep b o (neL b o e) hb (neC b o e hx) (I.base.keep b o e n hb hx) (I.base.free b o e n hx)
 · obtain ⟨sl, e1⟩ := I.base.slot b o e n hb hx
   obtain ⟨sl', e2⟩ := slot b _ (neL b o e) hb (neC b o e hx) e1 (I.base.free b o e n hx)
   exact ⟨sl', e2⟩
 · obtain ⟨o', e1⟩ := I.base.there b o e hx
   exact free b o' (neC b o e hx) e1 (I.base.free b o e n hx)
 · obtain ⟨o', e1⟩ := I.base.there b o e hx
   exact there b o' (neC b o e hx) e1
 · obtain ⟨m1, e1⟩ := I.base.tbls b ps e
   obtain ⟨m2, e2⟩ := tbls b _ e1
   exact ⟨m1 ++ m2, by rw [e2, Array.append_assoc]⟩
 · obtain ⟨m, hn, hl⟩ := I.loc
   refine ⟨m, ns m hn, fun i x v e1 e2 e3 => ?_⟩
   obtain ⟨u, r, l⟩ := hl i x v e1 e2 e3
   refine ⟨u, r, ?_⟩
   rcases l with l | ⟨k, c, e, z⟩
   · exact .inl l
   · exact .inr ⟨k, c, e, cellK x c e _ z⟩
 · obtain ⟨v, z⟩ := I.cell x c e
   exact ⟨v, cellK x c e v z⟩
 · obtain ⟨m, ⟨o, _, _, ho, _⟩, _⟩ := I.loc
   exact free _ o (fun z => (hch _ z).2.1 rfl) ho I.free
 · obtain ⟨v, o, ho, hd⟩ := I.cell x c e
   exact free c o (fun z => (hch c z).2.2.1 x c e rfl) ho (I.freeC x c e)
 · obtain ⟨e, n, ne, nf, d⟩ := I.pin p hp
   have nch : p.1 ∉ ch := fun z => (hch p.1 z).2.2.2 p hp rfl
   exact ⟨keep p.1 p.2 ne nf nch e n, free p.1 p.2 nch e n, ne, nf, d⟩
theorem Inv.un {t' : Nat} (I : Inv X pins σ H s) (u : Un X.fs [] H H' s.heap h') (hok : HOk X.prog X.w H' h') : Inv X pins σ H' { s with heap := h', toks := t' } := by
 obtain ⟨m, ⟨o, es, ep, ho, r⟩, _⟩ := id I.loc
 obtain ⟨sl, hL⟩ := u.any ho I.free (by simp)
 exact I.step (g' := s.gens) (d' := s.drawn) (ch := []) (fun _ z => nomatch z) (fun b o _ hb _ e n => u.keep b o e n hb (by simp)) (fun b o _ hb _ e n => u.slot b o e n hb (by simp)) (fun b o _ e n => u.free b o e n (by simp)) (fun b o _ e => u.there b o e (by simp)) u.tups u.frzs u.tbls (fun m' hm => by
   obtain ⟨o', es', ep', ho', r'⟩ := hm
   rw [ho] at ho'; cases ho'
   exact ⟨_, es', ep', hL, r'⟩) hok I.bare
theorem Inv.call {g' : Array GenState} {t' : Nat} {d' : Drawn} {ch : List Addr} (I : Inv X pins σ H s) (u : Un (frs X.stack) ch H H' s.heap h') (hok : HOk X.prog X.w H' h') (hg : AllBare g')
   (hch : ∀ b ∈ ch, (b ∈ X.ex \/ X.s₀.heap.objs.size <= b) /\ b ≠ X.env.locals /\ (∀ x c, X.env.cells.lookup x = some c -> c ≠ b) /\ ∀ p ∈ X.pn ++ pins, p.1 ≠ b) :
   Inv X pins σ H' { s with heap := h', gens := g', drawn := d', toks := t' } := by
 obtain ⟨m, ⟨o, es, ep, ho, r⟩, _⟩ := id I.loc
 obtain ⟨sl, hL⟩ := u.any ho I.free fun z => (hch _ z).2.1 rfl
 exact I.step (ch := ch) hch (fun b o hL hb hc e n => u.keep b o e n (fun z => (List.mem_cons.mp (I.stkSub b z)).elim hL hb) hc) (fun b o _ _ hc e n => u.any e n hc) (fun b o hc e n => u.free b o e n hc) (fun b o hc e => u.there b o e hc) u.tups u.frzs u.tbls (fun m' hm => by
   obtain ⟨o', es', ep', ho', r'⟩ := hm
   rw [ho] at ho'; cases ho'
   exact ⟨_, es', ep', hL, r'⟩) hok hg
theorem Inv.turned {t' : Nat} {it : Addr} (I : Inv X pins σ H s) (k : ∀ b o, b ≠ it -> s.heap.get? b = some o -> h'.get? b = some o) (hn : H it = none) (hL : it ≠ X.env.locals)
   (h1 : it ∈ X.ex \/ X.s₀.heap.objs.size <= it) (h2 : ∀ x c, X.env.cells.lookup x = some c -> c ≠ it) (h3 : ∀ p ∈ X.pn ++ pins, p.1 ≠ it) : Inv X pins σ H { s with heap := h', toks := t' } := by
 have nit : ∀ b u, H b = some u -> b ≠ it := fun b u e z => by rw [z, hn] at e; cases e
 refine I.step (g' := s.gens) (d' := s.drawn) (ch := [it]) (fun b hb => ?_) (fun b o _ _ hc e _ => k b o (fun z => hc (by simp [z])) e) (fun b o _ _ hc e _ => ⟨o.slots, k b o (fun z => hc (by simp [z])) e⟩) (fun _ _ _ _ n => n)
   (fun b o hc e => ⟨o, k b o (fun z => hc (by simp [z])) e⟩) (fun _ _ e => e) (fun _ _ _ e => e) (fun b ps e => ⟨#[], by rw [e]; simp⟩) (fun m hm => ?_) (fun b u e => ?_) I.bare
 · have e : b = it := by simpa using hb
   subst e
   exact ⟨h1, hL, h2, h3⟩
 · obtain ⟨o, es, ep, ho, r⟩ := hm
   exact ⟨o, es, ep, k _ o (Ne.symm hL) ho, r⟩
 · refine (I.hok b u e).stay (fun c v hc q => k c v ?_ q) (fun _ q => q) fun _ _ q => q
   rcases hc with z | z
   · rw [z]; exact nit b u e
   · exact nit c _ z
theorem Inv.tok (I : Inv X pins σ H s) (t : Nat) : Inv X pins σ H { s with toks := t } := I.un (h' := s.heap) (t' := t) Un.refl I.hok
theorem Inv.kept {t' : Nat} (I : Inv X pins σ H s) (k : ∀ b u, s.heap.get? b = some u -> h'.get? b = some u) : Inv X pins σ H { s with heap := h', toks := t' } := I.un (Un.kept k) (I.hok.kept k)
theorem Inv.laid {a : Addr} {o : HO} {t' : Nat} (I : Inv X pins σ H s) (k : ∀ b u, s.heap.get? b = some u -> h'.get? b = some u) (hp : s.heap.objs.size <= a) (new : ObjOk X.prog X.w (upd H a o) h' a o) :
   Inv X pins σ (upd H a o) { s with heap := h', toks := t' } := I.un (Un.laid k hp (I.hok.fresh hp)) (I.hok.laid k hp new)
theorem Inv.write {x e : Addr} {o : HO} {t' : Nat} (I : Inv X pins σ H s) (mu : Mut (H x)) (he : e = x \/ H e = some (.own x)) (k : ∀ b u, b ≠ e -> s.heap.get? b = some u -> h'.get? b = some u) (heo : ∃ u, h'.get? e = some u)
   (new : ObjOk X.prog X.w (upd H x o) h' x o) : Inv X pins σ (upd H x o) { s with heap := h', toks := t' } := I.un (Un.write mu he k heo) (I.hok.write mu he k heo new)
theorem Inv.pins_of {pins' : List (Addr × Obj)} (I : Inv X pins σ H s) (h : ∀ p ∈ pins', s.heap.get? p.1 = some p.2 /\ H p.1 = none /\ p.1 ≠ X.env.locals /\ p.1 ∉ X.fs /\ ∀ v, p.2.data ≠ .cell v) : Inv X pins' σ H s :=
 ⟨I.ok, I.os, I.bare, I.base, I.loc, I.cell, I.free, I.freeC, fun p hp => (List.mem_append.mp hp).elim (fun z => I.pin p (List.mem_append_left _ z)) (h p), I.hok, I.len⟩
theorem nodup_ix {N : List Str} (hN : N.Nodup) {i j : Nat} {x : Str} (a : N[i]? = some x) (b : N[j]? = some x) : i = j := by
 obtain ⟨h1, e1⟩ := List.getElem?_eq_some_iff.mp a
 obtain ⟨h2, e2⟩ := List.getElem?_eq_some_iff.mp b
 exact (List.getElem_inj hN).mp (e1.trans e2.symm)
theorem store_ok2 {M : Model} {A : Around} {E : Value -> Shared -> Prop} {i : Nat} {x : Str} {v : V} {u : Value} {Q : Unit -> Shared -> Prop} (I : Inv X pins σ H s) (hN : X.N.Nodup) (hi : X.N[i]? = some x) (hx : Loc X.env.scope x) (r : RelV v u)
   (h : ∀ s', Inv X pins (σ.set i (some v)) H s' -> (∃ a, Heap.SameBut a s.heap s'.heap /\ (a = X.env.locals \/ X.env.cells.lookup x = some a)) -> Q () s') (hf : X.fn x = true \/ X.env.scope.names.lookup x = some .local := by first | exact .inl rfl | exact .inr rfl | assumption) : wpAny M A (storeName X.env x u) Q E s := by
 obtain ⟨m, hn, hl⟩ := id I.loc
 have hcls : (X.env.scope.kind == .class || (X.env.scope.kind == .module && X.env.locals != X.env.globals)) = false := by rw [I.ok.kind]; rfl
 have hiσ : i < σ.length := by rw [I.len]; exact (List.getElem?_eq_some_iff.mp hi).1
 have cne := I.cne
 have tracked : ∀ {a : Addr} {h' : Heap}, (∃ o, s.heap.get? a = some o /\ H a = none) -> Heap.SameBut a s.heap h' -> HOk X.prog X.w H h' := fun {a h'} ha hs b ob e => by
   obtain ⟨_, _, hfree⟩ := ha
   refine (I.hok b ob e).stay (fun c w' hc q => (hs.2 c ?_).trans q) (fun _ q => q) fun _ _ q => q
   rintro rfl
   rcases hc with rfl | hc
   · rw [hfree] at e; cases e
   · rw [hfree] at hc; cases hc
 rcases hx with hk | hk
 · refine wpAny_storeName_local hk hn (fun h' hn' hs => ?_) hcls
   obtain ⟨oL, _, _, hoL, _⟩ := id hn
   refine h _ ⟨I.ok, I.os, I.bare, ⟨fun b o e n hb hx => ?_, fun b o e n hb hx => ?_, I.base.free, fun b o e hx => ?_, I.base.tups, I.base.frzs, I.base.tbls⟩, ⟨_, hn', fun j y v' e1 e2 e3 => ?_⟩, fun y c e => ?_, I.free, I.freeC, fun p hp => ?_, tracked ⟨oL, hoL, I.free⟩ hs, by simpa using I.len⟩ ⟨_, hs, .inl rfl⟩
   · exact (hs.2 b (Nat.ne_of_lt (Nat.lt_of_lt_of_le (Heap.lt_size e) I.ok.above))).trans (I.base.keep b o e n hb hx)
   · obtain ⟨sl, e1⟩ := I.base.slot b o e n hb hx
     exact ⟨sl, (hs.2 b (Nat.ne_of_lt (Nat.lt_of_lt_of_le (Heap.lt_size e) I.ok.above))).trans e1⟩
   · obtain ⟨o', e1⟩ := I.base.there b o e hx
     exact ⟨o', (hs.2 b (Nat.ne_of_lt (Nat.lt_of_lt_of_le (Heap.lt_size e) I.ok.above))).trans e1⟩
   · by_cases hj : j = i
     · subst hj
       rw [hi] at e1; cases e1
       rw [List.getElem?_set_self hiσ] at e2
       cases e2
       exact ⟨u, r, .inl ⟨hk, by simp⟩⟩
     · rw [List.getElem?_set_ne (Ne.symm hj)] at e2
       obtain ⟨u', r', q⟩ := hl j y v' e1 e2 e3
       refine ⟨u', r', ?_⟩
       rcases q with ⟨k, e⟩ | ⟨k, c, e, z⟩
       · refine .inl ⟨k, ?_⟩
         have : y ≠ x := fun e => hj (nodup_ix hN e1 (e ▸ hi))
         simp [this, e]
       · exact .inr ⟨k, c, e, z.sameBut hs (cne y c e)⟩
   · obtain ⟨w', z⟩ := I.cell y c e
     exact ⟨w', z.sameBut hs (cne y c e)⟩
   · obtain ⟨e, n, ne, nf, d⟩ := I.pin p hp
     exact ⟨(hs.2 p.1 ne).trans e, n, ne, nf, d⟩
 · have hfn : X.fn x = true := by
     rcases hf with z | z
     · exact z
     · rw [z] at hk; cases hk
   obtain ⟨c, hc⟩ := I.ok.has x (.inl hk)
   obtain ⟨w', z⟩ := I.cell x c hc
   refine wpAny_storeName_cell I.ok.kind hk hc z (fun h' hc' hs => ?_)
   obtain ⟨oc, hoc, hocd⟩ := id z
   refine h { s with heap := h' } ⟨I.ok, I.os, I.bare, ⟨fun b o e n hb hx => ?_, fun b o e n hb hx => ?_, I.base.free, fun b o e hx => ?_, I.base.tups, I.base.frzs, I.base.tbls⟩, ⟨m, hn.sameBut hs (Ne.symm (cne x c hc)), fun j y v' e1 e2 e3 => ?_⟩, fun y c' e => ?_, I.free, I.freeC, fun p hp => ?_, tracked ⟨oc, hoc, I.freeC x c hc⟩ hs, by simpa using I.len⟩ ⟨c, hs, .inr hc⟩
   · exact (hs.2 b (Nat.ne_of_lt (Nat.lt_of_lt_of_le (Heap.lt_size e) (I.ok.cab x c hfn hc)))).trans (I.base.keep b o e n hb hx)
   · obtain ⟨sl, e1⟩ := I.base.slot b o e n hb hx
     exact ⟨sl, (hs.2 b (Nat.ne_of_lt (Nat.lt_of_lt_of_le (Heap.lt_size e) (I.ok.cab x c hfn hc)))).trans e1⟩
   · obtain ⟨o', e1⟩ := I.base.there b o e hx
     exact ⟨o', (hs.2 b (Nat.ne_of_lt (Nat.lt_of_lt_of_le (Heap.lt_size e) (I.ok.cab x c hfn hc)))).trans e1⟩
   · by_cases hj : j = i
     · subst hj
       rw [hi] at e1; cases e1
       rw [List.getElem?_set_self hiσ] at e2
       cases e2
       exact ⟨u, r, .inr ⟨.inl hk, c, hc, hc'⟩⟩
     · rw [List.getElem?_set_ne (Ne.symm hj)] at e2
       obtain ⟨u', r', q⟩ := hl j y v' e1 e2 e3
       refine ⟨u', r', ?_⟩
       rcases q with q | ⟨k, c', e, z'⟩
       · exact .inl q
       · refine .inr ⟨k, c', e, z'.sameBut hs ?_⟩
         rintro rfl
         exact hj (nodup_ix hN e1 (I.ok.inj _ _ _ e hc ▸ hi))
   · by_cases hcc : c' = c
     · subst hcc; exact ⟨_, hc'⟩
     · obtain ⟨w2, z2⟩ := I.cell y c' e
       exact ⟨w2, z2.sameBut hs hcc⟩
   · obtain ⟨e, n, ne, nf, d⟩ := I.pin p hp
     refine ⟨(hs.2 p.1 ?_).trans e, n, ne, nf, d⟩
     intro q
     rw [q, hoc] at e
     have q' : oc = p.2 := Option.some.inj e
     exact d w' (by rw [← q']; exact hocd)
theorem store_ok {M : Model} {A : Around} {E : Value -> Shared -> Prop} {i : Nat} {x : Str} {v : V} {u : Value} {Q : Unit -> Shared -> Prop} (I : Inv X pins σ H s) (hN : X.N.Nodup) (hi : X.N[i]? = some x) (hx : Loc X.env.scope x) (r : RelV v u)
   (h : ∀ s', Inv X pins (σ.set i (some v)) H s' -> Q () s') (hf : X.fn x = true \/ X.env.scope.names.lookup x = some .local := by first | exact .inl rfl | exact .inr rfl | assumption) : wpAny M A (storeName X.env x u) Q E s :=
 store_ok2 I hN hi hx r (fun s' I' _ => h s' I') hf
theorem Inv.call' {s' : Shared} {ch : List Addr} (I : Inv X pins σ H s) (ho : s'.os = s.os) (u : Un (frs X.stack) ch H H' s.heap s'.heap) (hok : HOk X.prog X.w H' s'.heap) (hg : AllBare s'.gens)
   (hch : ∀ b ∈ ch, (b ∈ X.ex \/ X.s₀.heap.objs.size <= b) /\ b ≠ X.env.locals /\ (∀ x c, X.env.cells.lookup x = some c -> c ≠ b) /\ ∀ p ∈ X.pn ++ pins, p.1 ≠ b) : Inv X pins σ H' s' := by
 obtain ⟨h', g', d', t', o'⟩ := s'
 have e : o' = s.os := ho
 subst e
 exact I.call (g' := g') (t' := t') (d' := d') u hok hg hch
end
abbrev XK := Value -> Option Addr -> Hp -> Prop
abbrev St := List (Option V)
abbrev VK := V -> Hp -> Prop
abbrev TE := St -> Hp -> VK -> Prop
abbrev TT := St -> Hp -> (Bool -> Hp -> Prop) -> Prop
abbrev TA := St -> Hp -> (List V -> Hp -> Prop) -> Prop
structure Ends where
 nx : St -> Hp -> Prop
 rt : VK
 bk : St -> Hp -> Prop := fun _ _ => False
 ct : St -> Hp -> Prop := fun _ _ => False
abbrev TS := Ends -> St -> Hp -> Prop
def EP (X : Cx) (pins : List (Addr × Obj)) (σ : St) (Q : VK) (u : Value) (s' : Shared) : Prop := ∃ v H', Inv X pins σ H' s' /\ RelV v u /\ Q v H'
def TP (X : Cx) (pins : List (Addr × Obj)) (σ : St) (Q : Bool -> Hp -> Prop) (b : Bool) (s' : Shared) : Prop := ∃ H', Inv X pins σ H' s' /\ Q b H'
def AP (X : Cx) (pins : List (Addr × Obj)) (σ : St) (Q : List V -> Hp -> Prop) (us : List Value) (s' : Shared) : Prop := ∃ vs H', Inv X pins σ H' s' /\ Vals vs us /\ Q vs H'
def SP (X : Cx) (pins : List (Addr × Obj)) (D : Ends) (f : Flow) (s' : Shared) : Prop :=
 match f with
 | .next => ∃ σ' H', Inv X pins σ' H' s' /\ D.nx σ' H'
 | .brk => ∃ σ' H', Inv X pins σ' H' s' /\ D.bk σ' H'
 | .cont => ∃ σ' H', Inv X pins σ' H' s' /\ D.ct σ' H'
 | .ret u => ∃ v σ' H', Inv X pins σ' H' s' /\ RelV v u /\ D.rt v H'
def PE (X : Cx) (e : Expr) (t : TE) : Prop :=
 ∀ (pins : List (Addr × Obj)) (s : Shared) (σ : St) (H : Hp) (Q : VK), Inv X pins σ H s -> t σ H Q -> wpAny (model X.prog X.w) X.A (eval e X.env) (EP X pins σ Q) X.xe s
def PT (X : Cx) (e : Expr) (t : TT) : Prop :=
 ∀ (pins : List (Addr × Obj)) (s : Shared) (σ : St) (H : Hp) (Q : Bool -> Hp -> Prop), Inv X pins σ H s -> t σ H Q -> wpAny (model X.prog X.w) X.A (isTrue e X.env (eval e X.env)) (TP X pins σ Q) X.xe s
def PW (X : Cx) (e : Expr) (t : TT) : Prop :=
 ∀ (whole : Sem Value) (pins : List (Addr × Obj)) (s : Shared) (σ : St) (H : Hp) (Q : Bool -> Hp -> Prop), Inv X pins σ H s -> t σ H Q -> wpAny (model X.prog X.w) X.A (isTrue e X.env whole) (TP X pins σ Q) X.xe s
theorem PW.pt {X : Cx} {e : Expr} {t : TT} (h : PW X e t) : PT X e t := h _
def PA (X : Cx) (es : List Expr) (t : TA) : Prop :=
 ∀ (pos : Pos) (pins : List (Addr × Obj)) (s : Shared) (σ : St) (H : Hp) (Q : List V -> Hp -> Prop), Inv X pins σ H s -> t σ H Q -> wpAny (model X.prog X.w) X.A (spliced (backTo pos (starEach es X.env))) (AP X pins σ Q) X.xe s
def PS (X : Cx) (st : Stmt) (t : TS) : Prop :=
 ∀ (pins : List (Addr × Obj)) (s : Shared) (σ : St) (H : Hp) (D : Ends), Inv X pins σ H s -> t D σ H -> wpAny (model X.prog X.w) X.A (exec st X.env) (SP X pins D) X.xe s
def PSs (X : Cx) (st : List Stmt) (t : TS) : Prop :=
 ∀ (pins : List (Addr × Obj)) (s : Shared) (σ : St) (H : Hp) (D : Ends), Inv X pins σ H s -> t D σ H -> wpAny (model X.prog X.w) X.A (execs st X.env) (SP X pins D) X.xe s
theorem thn {α : Type} {t : Sem α} {Q Q' : α -> Shared -> Prop} {M : Model} {A : Around} {E : Value -> Shared -> Prop} {s : Shared} (h : wpAny M A t Q E s) (hQ : ∀ a s, Q a s -> Q' a s) : wpAny M A t Q' E s := wpAny_mono h hQ fun _ _ x => x
section
variable {X : Cx}
def tVar (i : Nat) : TE := fun σ H Q => ∃ v, σ[i]? = some (some v) /\ Q v H
def tC (v : V) : TE := fun _ H Q => Q v H
theorem pe_var {i : Nat} {x : Str} {pos : Pos} (hN : X.N[i]? = some x) (hv : Vis X.env.scope x) (hd : (x == ("__debug__" : Str)) = false := by decide) (hcd : (x == ("__classdict__" : Str)) = false := by decide) : PE X (.Name x pos) (tVar i) := by
 intro pins s σ H Q I h
 obtain ⟨v, e, h⟩ := h
 obtain ⟨m, hn, hl⟩ := I.loc
 obtain ⟨u, r, l⟩ := hl i x v hN e hv
 have fin : EP X pins σ Q u s := ⟨v, H, I, r, h⟩
 rcases l with ⟨hk, hm⟩ | ⟨hk, c, hc, hcell⟩
 · exact wpAny_Name (wpAny_loadName_local I.ok.kind hk hn hm fin) hd
 · rcases hk with hk | hk
   · exact wpAny_Name (wpAny_loadName_cell I.ok.kind hk hc hcell fin) hd
   · exact wpAny_Name (wpAny_loadName_free I.ok.kind hk hc hcell fin hcd) hd
theorem zB {i j pos} : PE X (.Constant (.int i) j pos) (tC (.int i)) := fun _ _ _ H _ I h => wpAny_Constant_int ⟨.int i, H, I.tok _, ⟨_, rfl⟩, h⟩
theorem xN {b j pos} : PE X (.Constant (.bool b) j pos) (tC (.bl b)) := fun _ _ _ H _ I h => Constant_bool ⟨.bl b, H, I, rfl, h⟩
theorem zI {x j pos} : PE X (.Constant (.str x) j pos) (tC (.str x)) := fun _ _ _ H _ I h => Calls.Constant_str ⟨.str x, H, I.tok _, ⟨_, rfl⟩, h⟩
def Gl (X : Cx) (x : Str) : Prop := X.env.kindOf x = some .globalImplicit
theorem ld_glob {E : Value -> Shared -> Prop} {pins : List (Addr × Obj)} {s : Shared} {σ : St} {H : Hp} {x : Str} {u : Value} {pos : Pos} {Q : Value -> Shared -> Prop} (I : Inv X pins σ H s) (hg : Gl X x) (hm : X.mg x = some u) (h : Q u s)
   (hd : (x == ("__debug__" : Str)) = false := by decide) : wpAny (model X.prog X.w) X.A (eval (.Name x pos) X.env) Q E s :=
 Calls.Name_function_global I.ok.kind hg (Calls.loadGlobal_global (by rw [I.ok.glob]; exact I.mod.glob.keeps I.bk) hm h) hd
theorem xZ {E : Value -> Shared -> Prop} {pins : List (Addr × Obj)} {s : Shared} {σ : St} {H : Hp} {x : Str} {u : Value} {pos : Pos} {Q : Value -> Shared -> Prop} (I : Inv X pins σ H s) (hg : Gl X x) (hm : X.mg x = none) (hv : bootBuiltins x = some u) (h : Q u s)
   (hn : x ≠ "__name__" := by decide) (hd : (x == ("__debug__" : Str)) = false := by decide) : wpAny (model X.prog X.w) X.A (eval (.Name x pos) X.env) Q E s := by
 obtain ⟨mb, h1, h2⟩ := I.mod.blt
 exact Calls.Name_function_global I.ok.kind hg (Calls.loadGlobal_builtin (by rw [I.ok.glob]; exact I.mod.glob.keeps I.bk) hm (by rw [I.ok.blt]; exact h1.keeps I.bk) ((h2 x hn).trans hv) h) hd
theorem pe_glob {x : Str} {v : V} {u : Value} {pos : Pos} (hg : Gl X x) (hm : X.mg x = some u) (r : RelV v u) (hd : (x == ("__debug__" : Str)) = false := by decide) : PE X (.Name x pos) (tC v) :=
 fun _ _ _ H _ I h => ld_glob I hg hm ⟨v, H, I, r, h⟩ hd
theorem pe_bltn {x : Str} {v : V} {u : Value} {pos : Pos} (hg : Gl X x) (hm : X.mg x = none) (hv : bootBuiltins x = some u) (r : RelV v u) (hn : x ≠ "__name__" := by decide) (hd : (x == ("__debug__" : Str)) = false := by decide) : PE X (.Name x pos) (tC v) :=
 fun _ _ _ H _ I h => xZ I hg hm hv ⟨v, H, I, r, h⟩ hn hd
variable {a b : Expr} {ta tb : TE} {pos : Pos}
def tB (t : TE) : TT := fun σ H Q => t σ H fun x H1 => ∃ c, x = .bl c /\ Q c H1
theorem pt_val {e : Expr} {t : TE} (h : PE X e t) (he : ∀ whole, isTrue e X.env whole = (do let v ← whole; standAt e.pos; holding [v] (truthy v)) := by intro _; rfl) : PT X e (tB t) := by
 intro pins s σ H Q I hw
 refine isTrue_plain (thn (h pins s σ H _ I hw) fun v s1 ⟨x, H1, I1, r1, q1⟩ => ?_) (he _)
 obtain ⟨d, rfl, q⟩ := q1
 cases r1
 exact wpAny_truthy_bool ⟨H1, I1, q⟩
variable {tA tB' : TT} {rest : List Expr}
def tAnd (t u : TT) : TT := fun σ H Q => t σ H fun c H1 => if c = true then u σ H1 Q else Q false H1
def tOr (t u : TT) : TT := fun σ H Q => t σ H fun c H1 => if c = true then Q true H1 else u σ H1 Q
def tNot (t : TT) : TT := fun σ H Q => t σ H fun c H1 => Q (!c) H1
theorem pw_and1 (ha : PT X a tA) : PW X (.BoolOp .And [a] pos) tA := by
 intro wh pins s σ H Q I h
 refine isTrue_and (thn (ha pins s σ H Q I h) fun c s1 e => ?_)
 cases c with
 | true => exact isTrue_and_nil e
 | false => exact e
theorem pw_or1 (ha : PT X a tA) : PW X (.BoolOp .Or [a] pos) tA := by
 intro wh pins s σ H Q I h
 refine isTrue_or (thn (ha pins s σ H Q I h) fun c s1 e => ?_)
 cases c with
 | false => exact isTrue_or_nil e
 | true => exact e
theorem pw_and (ha : PT X a tA) (hb : PW X (.BoolOp .And (b :: rest) pos) tB') : PW X (.BoolOp .And (a :: b :: rest) pos) (tAnd tA tB') := by
 intro wh pins s σ H Q I h
 refine isTrue_and (thn (ha pins s σ H _ I h) fun c s1 ⟨H1, I1, q1⟩ => ?_)
 cases c with
 | true => exact hb wh pins s1 σ H1 Q I1 q1
 | false => exact ⟨H1, I1, q1⟩
theorem pw_or (ha : PT X a tA) (hb : PW X (.BoolOp .Or (b :: rest) pos) tB') : PW X (.BoolOp .Or (a :: b :: rest) pos) (tOr tA tB') := by
 intro wh pins s σ H Q I h
 refine isTrue_or (thn (ha pins s σ H _ I h) fun c s1 ⟨H1, I1, q1⟩ => ?_)
 cases c with
 | true => exact ⟨H1, I1, q1⟩
 | false => exact hb wh pins s1 σ H1 Q I1 q1
theorem jW (ha : PT X a tA) : PT X (.UnaryOp .Not a pos) (tNot tA) := by
 intro pins s σ H Q I h
 exact isTrue_not (ha pins s σ H (fun c H1 => Q (!c) H1) I h)
def tAndV (ta tb : TE) : TE := fun σ H Q => ta σ H fun x H1 => ∃ c, x = .bl c /\ if c = true then tb σ H1 Q else Q (.bl false) H1
def tOrV (ta tb : TE) : TE := fun σ H Q => ta σ H fun x H1 => ∃ c, x = .bl c /\ if c = true then Q (.bl true) H1 else tb σ H1 Q
def tNotV (ta : TE) : TE := fun σ H Q => ta σ H fun x H1 => ∃ c, x = .bl c /\ Q (.bl (!c)) H1
theorem yX {op} {t : TE} (h : PE X a t) : PE X (.BoolOp op [a] pos) t := fun pins s σ H Q I hw => BoolOp_one (h pins s σ H Q I hw)
theorem yD (ha : PE X a ta) (hb : PE X (.BoolOp .And (b :: rest) pos) tb) : PE X (.BoolOp .And (a :: b :: rest) pos) (tAndV ta tb) := by
 intro pins s σ H Q I h
 refine BoolOp_and (thn (ha pins s σ H _ I h) fun v s1 ⟨x, H1, I1, r1, q1⟩ => ?_)
 obtain ⟨c, rfl, q1⟩ := q1
 cases r1
 refine wpAny_truthy_bool ?_
 cases c with
 | true => exact hb pins s1 σ H1 Q I1 q1
 | false => exact ⟨.bl false, H1, I1, rfl, q1⟩
theorem pe_not (ha : PE X a ta) : PE X (.UnaryOp .Not a pos) (tNotV ta) := by
 intro pins s σ H Q I h
 refine UnaryOp_ (thn (ha pins s σ H _ I h) fun v s1 ⟨x, H1, I1, r1, q1⟩ => ?_)
 obtain ⟨c, rfl, q1⟩ := q1
 cases r1
 exact not_of (wpAny_truthy_bool ⟨.bl (!c), H1, I1, rfl, q1⟩)
def tIf (t : TT) (ta tb : TE) : TE := fun σ H Q => t σ H fun c H1 => if c = true then ta σ H1 Q else tb σ H1 Q
end
def SqL (K : PySem.W.Frag) (H : Hp) (a : Addr) (xs : List V) : Prop :=
 Rd H a (.lst xs) \/
   ∃ (o : Obj) (its : Array Value) (n : Nat), K.lookup a = some o /\ o.cls = .type "list" /\ o.dict = none /\ o.data = .seq its n /\ its.size <= sizeLine /\ Vals xs its.toList
def SqT (K : PySem.W.Frag) (H : Hp) (a : Addr) (xs : List V) : Prop :=
 Rd H a (.tup xs) \/
   ∃ (o : Obj) (its : Array Value) (n : Nat), K.lookup a = some o /\ o.cls = .type "tuple" /\ o.data = .seq its n /\ its.size <= sizeLine /\ Vals xs its.toList
def absV : Value -> Option V
 | .none => some .non
 | .bool b => some (.bl b)
 | .int i _ => some (.int i)
 | .str x _ => some (.str x)
 | .bytes b _ => some (.byt b)
 | .float b _ => some (.flt b)
 | .ref a => some (.ref a)
 | .type n => some (.ty n)
 | _ => none
theorem RelV.abs {x : V} {u : Value} (r : RelV x u) : absV u = some x := by
 cases x with
 | non => cases r; rfl
 | bl _ => cases r; rfl
 | int _ => obtain ⟨t, rfl⟩ := r; rfl
 | str _ => obtain ⟨t, rfl⟩ := r; rfl
 | byt _ => obtain ⟨t, rfl⟩ := r; rfl
 | flt _ => obtain ⟨t, rfl⟩ := r; rfl
 | ref _ => cases r; rfl
 | ty _ => cases r; rfl
theorem RelV.inj {x y : V} {u : Value} (r : RelV x u) (q : RelV y u) : x = y := Option.some.inj (r.abs.symm.trans q.abs)
theorem Vals.inj : ∀ {xs ys : List V} {us : List Value}, Vals xs us -> Vals ys us -> xs = ys
 | _, _, _, .nil, .nil => rfl
 | _, _, _, .cons r t, .cons r' t' => by rw [r.inj r', Vals.inj t t']
section
variable {X : Cx} {pins : List (Addr × Obj)} {σ : St} {H : Hp} {s : Shared} {a : Addr} {xs ys : List V}
theorem SqL.of {K : PySem.W.Frag} (h : H a = some (.lst xs)) : SqL K H a xs := .inl (.inl h)
theorem SqT.of {K : PySem.W.Frag} (h : H a = some (.tup xs)) : SqT K H a xs := .inl (.inl h)
theorem Inv.list (I : Inv X pins σ H s) (h : SqL X.K H a xs) : ∃ its : List Value, Vals xs its /\ PlainL s.heap a its.toArray /\ xs.length <= sizeLine := by
 rcases h with h | ⟨o, its, n, hk, hc, hd, hs, hz, r⟩
 · obtain ⟨z, its, n, r, e⟩ := h.ok I.hok
   exact ⟨its, r, ⟨_, n, e, rfl, rfl, rfl⟩, z⟩
 · refine ⟨its.toList, r, ⟨o, n, I.kIn a o hk, hc, hd, by simpa using hs⟩, ?_⟩
   have e := r.length
   simp only [Array.length_toList] at e
   omega
theorem Inv.tuple (I : Inv X pins σ H s) (h : SqT X.K H a xs) : ∃ its : List Value, Vals xs its /\ IsTup s.heap a its.toArray /\ xs.length <= sizeLine := by
 rcases h with h | ⟨o, its, n, hk, hc, hs, hz, r⟩
 · obtain ⟨z, its, r, p⟩ := h.ok I.hok
   exact ⟨its, r, p, z⟩
 · refine ⟨its.toList, r, ⟨o, I.kIn a o hk, hc, n, by simpa using hs⟩, ?_⟩
   have e := r.length
   simp only [Array.length_toList] at e
   omega
theorem Inv.list_inj (I : Inv X pins σ H s) (h : SqL X.K H a xs) (h' : SqL X.K H a ys) : xs = ys := by
 obtain ⟨its, r, ⟨o, n, e, _, _, d⟩, _⟩ := I.list h
 obtain ⟨its', r', ⟨o', n', e', _, _, d'⟩, _⟩ := I.list h'
 rw [e] at e'; cases e'
 rw [d] at d'
 injection d' with d1 _
 have : its = its' := by simpa using congrArg Array.toList d1
 subst this
 exact r.inj r'
theorem Inv.tuple_inj (I : Inv X pins σ H s) (h : SqT X.K H a xs) (h' : SqT X.K H a ys) : xs = ys := by
 obtain ⟨its, r, ⟨o, e, _, n, d⟩, _⟩ := I.tuple h
 obtain ⟨its', r', ⟨o', e', _, n', d'⟩, _⟩ := I.tuple h'
 rw [e] at e'; cases e'
 rw [d] at d'
 injection d' with d1 _
 have : its = its' := by simpa using congrArg Array.toList d1
 subst this
 exact r.inj r'
end
abbrev Cx.wish (X : Cx) (E : Value -> Shared -> Prop) : Cx := { X with xe := E }
abbrev Cx.nox (X : Cx) : Cx := X.wish fun _ _ => False
theorem Cx.Ok.wish {X : Cx} (ok : X.Ok) (E : Value -> Shared -> Prop) : (X.wish E).Ok :=
 ⟨ok.mod, ok.kind, ok.glob, ok.blt, ok.above, ok.inj, ok.has, ok.cab, ok.hd, ok.frames, ok.stk, ok.exf, ok.bs, ok.bsz, ok.noex, ok.exfs, ok.funs, ok.frf⟩
theorem Cx.Ok.unwish {X : Cx} {E : Value -> Shared -> Prop} (ok : (X.wish E).Ok) : X.Ok :=
 ⟨ok.mod, ok.kind, ok.glob, ok.blt, ok.above, ok.inj, ok.has, ok.cab, ok.hd, ok.frames, ok.stk, ok.exf, ok.bs, ok.bsz, ok.noex, ok.exfs, ok.funs, ok.frf⟩
section
variable {X : Cx} {pins : List (Addr × Obj)} {σ : St} {H : Hp} {s : Shared} {E : Value -> Shared -> Prop}
theorem Inv.wish (I : Inv X pins σ H s) (E : Value -> Shared -> Prop) : Inv (X.wish E) pins σ H s := ⟨I.ok.wish E, I.os, I.bare, I.base, I.loc, I.cell, I.free, I.freeC, I.pin, I.hok, I.len⟩
theorem Inv.unwish (I : Inv (X.wish E) pins σ H s) : Inv X pins σ H s := ⟨I.ok.unwish, I.os, I.bare, I.base, I.loc, I.cell, I.free, I.freeC, I.pin, I.hok, I.len⟩
theorem SP.unwish {D : Ends} {f : Flow} {s' : Shared} (h : SP (X.wish E) pins D f s') : SP X pins D f s' := by
 cases f with
 | next => obtain ⟨σ', H', I, q⟩ := h; exact ⟨σ', H', I.unwish, q⟩
 | brk => obtain ⟨σ', H', I, q⟩ := h; exact ⟨σ', H', I.unwish, q⟩
 | cont => obtain ⟨σ', H', I, q⟩ := h; exact ⟨σ', H', I.unwish, q⟩
 | ret u => obtain ⟨v, σ', H', I, r, q⟩ := h; exact ⟨v, σ', H', I.unwish, r, q⟩
theorem PSs.nox {st : List Stmt} {t : TS} (h : PSs X.nox st t) : PSs X st t := fun pins s σ H D I hw =>
 wpAny_mono (h pins s σ H D (I.wish _) hw) (fun _ _ q => q.unwish) fun _ _ z => False.elim z
end
section
variable {X : Cx} {st : Stmt} {rest : List Stmt} {t u : TS} {e : Expr} {te : TE} {pos : Pos}
def tNext : TS := fun D σ H => D.nx σ H
def tSeq (t u : TS) : TS := fun D σ H => t { D with nx := u D } σ H
theorem pss_nil : PSs X [] tNext := fun _ _ σ H _ I h => wpAny_execs_nil ⟨σ, H, I, h⟩
theorem zD (h1 : PS X st t) (h2 : PSs X rest u) : PSs X (st :: rest) (tSeq t u) := by
 intro pins s σ H D I h
 refine wpAny_execs_cons (thn (h1 pins s σ H { D with nx := u D } I h) fun f s1 q => ?_)
 cases f with
 | next =>
   obtain ⟨σ', H', I', q⟩ := q
   exact h2 pins s1 σ' H' D I' q
 | ret v => exact q
 | brk => exact q
 | cont => exact q
theorem zF (h1 : PS X st t) : PSs X [st] t := by
 intro pins s σ H D I h
 refine wpAny_execs_cons (thn (h1 pins s σ H D I h) fun f s1 q => ?_)
 cases f with
 | next => exact wpAny_execs_nil q
 | ret v => exact q
 | brk => exact q
 | cont => exact q
theorem Inv.quiet {pins : List (Addr × Obj)} {σ : St} {H : Hp} {s : Shared} (I : Inv X pins σ H s) : interactive X.env = false := by simp [interactive, I.ok.kind]
def tDrop (te : TE) : TS := fun D σ H => te σ H fun _ H1 => D.nx σ H1
theorem ps_expr (he : PE X e te) (hs : swapsWith e none pos.line X.env = pure false := by rfl) : PS X (.Expr e pos) (tDrop te) := by
 intro pins s σ H D I h
 exact wpAny_Expr_any (thn (he pins s σ H _ I h) fun v s1 ⟨x, H1, I1, r1, q1⟩ => ⟨σ, H1, I1, q1⟩) I.quiet hs
def tRet (te : TE) : TS := fun D σ H => te σ H D.rt
theorem zN (he : PE X e te) : PS X (.Return (some e) pos) (tRet te) := by
 intro pins s σ H D I h
 exact wpAny_Return_some (thn (he pins s σ H _ I h) fun v s1 ⟨x, H1, I1, r1, q1⟩ => ⟨x, σ, H1, I1, r1, q1⟩)
def tRetN : TS := fun D _ H => D.rt .non H
def tIfS (c : TT) (t u : TS) : TS := fun D σ H => c σ H fun b H1 => if b = true then t D σ H1 else u D σ H1
theorem zW {c : Expr} {a b : List Stmt} {tc : TT} (hc : PT X c tc) (ha : PSs X a t) (hb : PSs X b u) : PS X (.If c a b pos) (tIfS tc t u) := by
 intro pins s σ H D I h
 refine wpAny_If (thn (hc pins s σ H _ I h) fun d s1 ⟨H1, I1, q1⟩ => ?_)
 cases d with
 | true => exact ha pins s1 σ H1 D I1 q1
 | false => exact hb pins s1 σ H1 D I1 q1
end
abbrev TG := V -> St -> Hp -> (St -> Hp -> Prop) -> Prop
abbrev TGs := List V -> St -> Hp -> (St -> Hp -> Prop) -> Prop
def PG (X : Cx) (target : Expr) (t : TG) : Prop :=
 ∀ (pins : List (Addr × Obj)) (s : Shared) (σ : St) (H : Hp) (v : V) (u : Value) (Q : St -> Hp -> Prop), Inv X pins σ H s -> RelV v u -> t v σ H Q ->
   wpAny (model X.prog X.w) X.A (assign target X.env u) (fun _ s' => ∃ σ' H', Inv X pins σ' H' s' /\ Q σ' H') X.xe s
def PGs (X : Cx) (ts : List Expr) (t : TGs) : Prop :=
 ∀ (pins : List (Addr × Obj)) (s : Shared) (σ : St) (H : Hp) (vs : List V) (us : List Value) (Q : St -> Hp -> Prop), Inv X pins σ H s -> Vals vs us -> t vs σ H Q ->
   wpAny (model X.prog X.w) X.A (assignInOrder ((assignEach ts X.env).map (·.2)) us) (fun _ s' => ∃ σ' H', Inv X pins σ' H' s' /\ Q σ' H') X.xe s
abbrev TSet := V -> V -> V -> Hp -> (Hp -> Prop) -> Prop
def PSet (X : Cx) (t : TSet) : Prop :=
 ∀ (pins : List (Addr × Obj)) (s : Shared) (σ : St) (H : Hp) (o i v : V) (ov iv u : Value) (Q : Hp -> Prop), Inv X pins σ H s -> RelV o ov -> RelV i iv -> RelV v u -> t o i v H Q ->
   wpAny (model X.prog X.w) X.A (setItem ov iv u) (fun _ s' => ∃ H', Inv X pins σ H' s' /\ Q H') X.xe s
section
variable {X : Cx} {pos : Pos}
def gName (i : Nat) : TG := fun v σ H Q => Q (σ.set i (some v)) H
theorem yT {i : Nat} {x : Str} (hN : X.N.Nodup) (hi : X.N[i]? = some x) (hx : Loc X.env.scope x) (hf : X.fn x = true \/ X.env.scope.names.lookup x = some .local := by first | exact .inl rfl | exact .inr rfl | assumption) : PG X (.Name x pos) (gName i) := by
 intro pins s σ H v u Q I r h
 exact wpAny_assign_Name (store_ok I hN hi hx r (fun s' I' => ⟨_, H, I', h⟩) hf)
def gNil : TGs := fun vs σ H Q => vs = [] /\ Q σ H
def gCons (t : TG) (u : TGs) : TGs := fun vs σ H Q => ∃ v r, vs = v :: r /\ t v σ H fun σ' H' => u r σ' H' Q
theorem pgs_nil : PGs X [] gNil := by
 intro pins s σ H vs us Q I r h
 obtain ⟨e, h⟩ := h
 subst e
 cases r
 exact assignInOrder_nil ⟨σ, H, I, h⟩
theorem pgs_cons {e : Expr} {es : List Expr} {t : TG} {u : TGs} (h1 : PG X e t) (h2 : PGs X es u)
   (hs : (assignEach (e :: es) X.env).map (·.2) = assign e X.env :: (assignEach es X.env).map (·.2) := by rfl) : PGs X (e :: es) (gCons t u) := by
 intro pins s σ H vs us Q I r h
 obtain ⟨v, vr, e1, h⟩ := h
 subst e1
 cases r with
 | cons r rr =>
   rw [hs]
   refine assignInOrder_cons (thn (h1 pins s σ H _ _ _ I r h) fun _ s1 ⟨σ1, H1, I1, q1⟩ => ?_)
   exact h2 pins s1 σ1 H1 _ _ Q I1 rr q1
def gTup (K : PySem.W.Frag) (n : Nat) (t : TGs) : TG := fun v σ H Q => ∃ a xs, v = .ref a /\ SqT K H a xs /\ xs.length = n /\ t xs σ H Q
theorem pg_tup {es : List Expr} {k : Nat} {t : TGs} {n : Nat} (hc : X.calm = true) (h : PGs X es t)
   (hn : (assignEach es X.env).length = n := by rfl) (hst : (assignEach es X.env).findIdx? (·.1) = none := by rfl) : PG X (.Tuple es k pos) (gTup X.K n t) := by
 intro pins s σ H v u Q I r hw
 obtain ⟨a, xs, e1, hq, hl, hw⟩ := hw
 subst e1
 cases r
 obtain ⟨its, rv, ht, hz⟩ := I.tuple hq
 refine assign_Tuple_tuple (I.ok.hd hc) ht (by simp [hn, ← hl, rv.length]) hst fun h' hx => ?_
 have I1 : Inv X pins σ H { s with heap := h' } := I.kept (t' := s.toks) fun b o e => hx b o (Nat.ne_of_lt (Heap.lt_size e)) e
 exact h pins _ σ H xs _ Q I1 (by simpa using rv) hw
def gSub (to ti : TE) (t : TSet) : TG := fun v σ H Q => to σ H fun o H1 => ti σ H1 fun i H2 => t o i v H2 fun H3 => Q σ H3
theorem pg_sub {o i : Expr} {to ti : TE} {t : TSet} (ho : PE X o to) (hi : PE X i ti) (hs : PSet X t)
   (ha : ∀ v, assign (.Subscript o i pos) X.env v = (do
     let ov ← holding [v] (eval o X.env)
     let iv ← holding [v, ov] (eval i X.env)
     standAt pos
     holding [v, ov, iv] (setItem ov iv v)
     release [v, ov, iv] []) := by intro _; rfl) : PG X (.Subscript o i pos) (gSub to ti t) := by
 intro pins s σ H v u Q I r h
 rw [ha]
 refine wpAny_bind (wpAny_holding (thn (ho pins s σ H _ I h) fun ov s1 ⟨x, H1, I1, r1, q1⟩ => ?_))
 refine wpAny_bind (wpAny_holding (thn (hi pins s1 σ H1 _ I1 q1) fun iv s2 ⟨y, H2, I2, r2, q2⟩ => ?_))
 refine wpAny_bind (wpAny_standAt (wpAny_bind (wpAny_holding (thn (hs pins s2 σ H2 x y v ov iv u _ I2 r1 r2 r q2) fun _ s3 ⟨H3, I3, q3⟩ => ?_))))
 exact wpAny_release ⟨σ, H3, I3, q3⟩
def tAsg (te : TE) (g : TG) : TS := fun D σ H => te σ H fun x H1 => g x σ H1 D.nx
theorem ps_asg {tg e : Expr} {te : TE} {g : TG} (he : PE X e te) (hg : PG X tg g) (hs : swapsWithSole [tg] e pos.line X.env = pure false := by rfl) (hw : swappedStores [tg] e X.env = pure none := by rfl)
   (h1 : (assignEach [tg] X.env).map (·.2) = [assign tg X.env] := by rfl) : PS X (.Assign [tg] e pos) (tAsg te g) := by
 intro pins s σ H D I h
 refine wpAny_Assign_stores (thn (he pins s σ H _ I h) fun v s1 ⟨x, H1, I1, r1, q1⟩ => ?_) hs hw
 rw [h1]
 exact thn (hg pins s1 σ H1 x v _ I1 r1 q1) fun _ s2 q => q
theorem zR {i : Nat} {x : Str} {e : Expr} {te : TE} {pos' : Pos} (hN : X.N.Nodup) (hi : X.N[i]? = some x) (hx : Loc X.env.scope x) (he : PE X e te) (hs : swapsWith e (some (.Name x pos')) pos.line X.env = pure false := by rfl) (hf : X.fn x = true \/ X.env.scope.names.lookup x = some .local := by first | exact .inl rfl | exact .inr rfl | assumption) :
   PS X (.Assign [.Name x pos'] e pos) (tAsg te (gName i)) := by
 intro pins s σ H D I h
 refine wpAny_Assign_Name (thn (he pins s σ H _ I h) fun v s1 ⟨y, H1, I1, r1, q1⟩ => ?_) hs
 exact store_ok I1 hN hi hx r1 (fun s2 I2 => ⟨_, H1, I2, q1⟩) hf
end
section
variable {X : Cx} {pos : Pos}
end
structure It where
 go : Nat -> Hp -> Prop
 yld : Nat -> Hp -> V -> Hp -> Prop
 stop : Nat -> Hp -> Prop
def jD (X : Cx) (pins : List (Addr × Obj)) (H : Hp) (b : Addr) : Prop :=
 H b = none /\ b ≠ X.env.locals /\ b ∉ X.fs /\ (b ∈ X.ex \/ X.s₀.heap.objs.size <= b) /\ (∀ x c, X.env.cells.lookup x = some c -> c ≠ b) /\ ∀ p ∈ X.pn ++ pins, p.1 ≠ b
theorem Inv.fpOk {X : Cx} {pins : List (Addr × Obj)} {σ : St} {H H' : Hp} {s : Shared} {b : Addr} (I : Inv X pins σ H s) (hb : s.heap.objs.size <= b) (hn : H' b = none) : jD X pins H' b := by
 refine ⟨hn, Nat.ne_of_gt (Nat.lt_of_lt_of_le I.lt hb), I.nofs hb, .inr (Nat.le_trans I.sz hb), fun x c e z => ?_, fun p hp z => ?_⟩
 · obtain ⟨v, q⟩ := I.cell x c e
   exact absurd (Nat.lt_of_lt_of_le q.lt (by rw [z]; exact hb)) (Nat.lt_irrefl _)
 · exact absurd (Nat.lt_of_lt_of_le (Heap.lt_size (I.pin p hp).1) (by rw [z]; exact hb)) (Nat.lt_irrefl _)
structure Turn (P : Program) (w : World) (K : PySem.W.Frag) (tg : Expr) (J : It) (fp : List Addr) (it : Addr) (tn : Nat -> Heap -> Prop) : Prop where
 mem : it ∈ fp
 obj : ∀ i h, tn i h -> ∀ b ∈ fp, ∃ o, h.get? b = some o /\ ∀ v, o.data ≠ .cell v
 keep : ∀ i h h', tn i h -> (∀ b ∈ fp, ∀ o, h.get? b = some o -> h'.get? b = some o) -> tn i h'
 item : ∀ (X : Cx), X.prog = P -> X.w = w -> X.K = K -> X.calm = true -> ∀ (i : Nat) (pins : List (Addr × Obj)) (s : Shared) (σ : St) (H : Hp) (E : Value -> Shared -> Prop), Inv X pins σ H s -> (∀ b ∈ fp, jD X pins H b) -> tn i s.heap -> J.go i H ->
   wpAny (model P w) X.A (pyNext (.ref it)) (fun r s1 => ∃ u, r = some u /\
     wpAny (model P w) X.A (letOwnedTupleGo tg (.ref it) u) (fun _ s2 => ∃ x H', Inv X pins σ H' s2 /\ RelV x u /\ J.yld i H x H' /\ tn (i + 1) s2.heap /\ ∀ b ∈ fp, H' b = none) E s1) E s
 done : ∀ (X : Cx), X.prog = P -> X.w = w -> X.K = K -> X.calm = true -> ∀ (i : Nat) (pins : List (Addr × Obj)) (s : Shared) (σ : St) (H : Hp) (E : Value -> Shared -> Prop), Inv X pins σ H s -> (∀ b ∈ fp, jD X pins H b) -> tn i s.heap -> J.stop i H ->
   wpAny (model P w) X.A (pyNext (.ref it)) (fun r s1 => r = none /\ Inv X pins σ H s1) E s
 self : ∀ (A : Around) (i : Nat) (s : Shared) (Q : Value -> Shared -> Prop) (E : Value -> Shared -> Prop), tn i s.heap -> Q (.ref it) s -> wpAny (model P w) A (pyIter (.ref it)) Q E s
abbrev TI := St -> Hp -> (It -> Hp -> Prop) -> Prop
def PIE (X : Cx) (pins : List (Addr × Obj)) (σ : St) (tg : Expr) (R : It -> Hp -> Prop) (itv : Value) (s2 : Shared) : Prop :=
 ∃ (it : Addr) (fp : List Addr) (tn : Nat -> Heap -> Prop) (J : It) (H' : Hp), itv = .ref it /\ Inv X pins σ H' s2 /\ Turn X.prog X.w X.K tg J fp it tn /\ tn 0 s2.heap /\ (∀ b ∈ fp, jD X pins H' b) /\ R J H'
def PI (X : Cx) (tg iter : Expr) (wi : TI) : Prop :=
 ∀ (pins : List (Addr × Obj)) (s : Shared) (σ : St) (H : Hp) (R : It -> Hp -> Prop), Inv X pins σ H s -> wi σ H R ->
   wpAny (model X.prog X.w) X.A (eval iter X.env) (fun v s1 => wpAny (model X.prog X.w) X.A (pyIter v) (PIE X pins σ tg R) X.xe s1) X.xe s
theorem go_of {M : Model} {A : Around} {E : Value -> Shared -> Prop} {s : Shared} {tg : Expr} {it : Addr} {u : Value} {o : Obj} {n : String} {vs : Array Value} {Q : Unit -> Shared -> Prop} (ho : s.heap.get? it = some o) (hc : o.cls = .type n) (hd : o.data = .fields vs)
   (hn : ["enumerate", "zip", "dict_itemiterator", "dict_reverseitemiterator", "odict_iterator", "itertools.zip_longest", "itertools.pairwise"].contains n = false) (hQ : Q () s) : wpAny M A (letOwnedTupleGo tg (.ref it) u) Q E s := by
 unfold letOwnedTupleGo
 cases tg <;> first
   | exact wpAny_pure hQ
   | (cases u <;> first
       | exact wpAny_pure hQ
       | (refine wpAny_bind (wpAny_load ho ?_)
          rw [hc, hd]
          show wpAny M A (if (["enumerate", "zip", "dict_itemiterator", "dict_reverseitemiterator", "odict_iterator", "itertools.zip_longest", "itertools.pairwise"].contains n && vs[0]? == some (rawInt _)) = true then _ else _) Q E s
          rw [if_neg (by intro h; rw [hn, Bool.false_and] at h; cases h)]
          exact wpAny_pure hQ))
def Itl (K : PySem.W.Frag) (a : Addr) : It :=
 ⟨fun i H => ∃ xs x, SqL K H a xs /\ xs[i]? = some x, fun i H x H' => H' = H /\ ∀ xs, SqL K H a xs -> xs[i]? = some x, fun i H => ∃ xs, SqL K H a xs /\ xs.length <= i⟩
def Itt (K : PySem.W.Frag) (a : Addr) : It :=
 ⟨fun i H => ∃ xs x, SqT K H a xs /\ xs[i]? = some x, fun i H x H' => H' = H /\ ∀ xs, SqT K H a xs -> xs[i]? = some x, fun i H => ∃ xs, SqT K H a xs /\ xs.length <= i⟩
def Itr (lo : Int) (n : Nat) : It := ⟨fun i _ => i < n, fun i H x H' => H' = H /\ x = .int (lo + i), fun i _ => n <= i⟩
theorem turn_list {P : Program} {w : World} {K : PySem.W.Frag} {tg : Expr} (a it : Addr) : Turn P w K tg (Itl K a) [it] it (fun i h => h.IsListIter it a i) where
 mem := by simp
 obj := fun i h st b hb => by
   have e : b = it := by simpa using hb
   subst e
   obtain ⟨o, e, c, d⟩ := st
   exact ⟨o, e, fun v z => by rw [d] at z; cases z⟩
 keep := fun i h h' st k => st.at fun o e => k it (by simp) o e
 item := by
   intro X hP hw hK hc i pins s σ H E I hf st hg
   subst hP hw hK
   obtain ⟨xs, x, hq, hx⟩ := hg
   obtain ⟨its, rv, p, hz⟩ := I.list hq
   obtain ⟨u, hu, ru⟩ := rv.get hx
   obtain ⟨f0, f1, f2, f3, f4, f5⟩ := hf it (by simp)
   refine wpAny_pyNext_list_item st p.isList (x := u) (by simpa using hu) fun h' st' sb => ?_
   have I1 : Inv X pins σ H { s with heap := h' } := I.turned (t' := s.toks) (fun b o hb e => (sb.2 b hb).trans e) f0 f1 f3 f4 f5
   obtain ⟨o, e, c, d⟩ := id st'
   exact ⟨u, rfl, go_of (s := { s with heap := h' }) e c d (by decide) ⟨x, H, I1, ru, ⟨rfl, fun ys hy => by rw [I.list_inj hy hq]; exact hx⟩, st', fun b hb => (hf b hb).1⟩⟩
 done := by
   intro X hP hw hK hc i pins s σ H E I hf st hg
   subst hP hw hK
   obtain ⟨xs, hq, hx⟩ := hg
   obtain ⟨its, rv, p, hz⟩ := I.list hq
   obtain ⟨f0, f1, f2, f3, f4, f5⟩ := hf it (by simp)
   have hl := rv.length
   exact wpAny_pyNext_list_end (I.ok.hd hc) st p.isList (by simp; omega) fun h' eb => ⟨rfl, I.turned (t' := s.toks) (fun b o hb e => eb b o hb e) f0 f1 f3 f4 f5⟩
 self := fun _ _ _ _ _ st h => wpAny_pyIter_listiter st h
theorem turn_range {P : Program} {w : World} {K : PySem.W.Frag} {tg : Expr} (it : Addr) (lo : Int) (n : Nat) : Turn P w K tg (Itr lo n) [it] it (fun i h => IsRangeIter h it (lo + (i : Nat) * 1) ((n : Int) - (i : Nat)) 1) where
 mem := by simp
 obj := fun i h st b hb => by
   have e : b = it := by simpa using hb
   subst e
   exact ⟨_, st, fun v z => by
     have z' : Data.fields _ = Data.cell v := z
     cases z'⟩
 keep := fun i h h' st k => k it (by simp) _ st
 item := by
   intro X hP hw hK hc i pins s σ H E I hf st hg
   subst hP hw hK
   obtain ⟨f0, f1, f2, f3, f4, f5⟩ := hf it (by simp)
   have W := Walks.range (prog := X.prog) (w := X.w) (I.ok.hd hc) it lo 1 n
   refine W.item i s _ _ hg st fun v h' tk hv st' kk => ?_
   obtain ⟨t, rfl⟩ := hv
   have I1 : Inv X pins σ H { s with heap := h', toks := tk } := I.turned (fun b o hb e => kk b o (by simpa using hb) e) f0 f1 f3 f4 f5
   refine ⟨_, rfl, go_of (s := { s with heap := h', toks := tk }) (n := "range_iterator") st' rfl rfl (by decide) ⟨.int (lo + i), H, I1, ⟨t, ?_⟩, ⟨rfl, rfl⟩, st', fun b hb => (hf b hb).1⟩⟩
   rw [Int.mul_one]
 done := by
   intro X hP hw hK hc i pins s σ H E I hf st hg
   subst hP hw hK
   obtain ⟨f0, f1, f2, f3, f4, f5⟩ := hf it (by simp)
   exact wpAny_pyNext_range_end (I.ok.hd hc) st (by have : n <= i := hg; omega) fun h' eb => ⟨rfl, I.turned (t' := s.toks) (fun b o hb e => eb b o hb e) f0 f1 f3 f4 f5⟩
 self := fun _ _ _ _ _ st h => wpAny_pyIter_rangeiter st h
section
variable {X : Cx} {tg : Expr}
def iList (K : PySem.W.Frag) (tl : TE) : TI := fun σ H R => tl σ H fun x H1 => ∃ a, x = .ref a /\ (∃ xs, SqL K H1 a xs) /\ R (Itl K a) H1
def iTup (K : PySem.W.Frag) (tl : TE) : TI := fun σ H R => tl σ H fun x H1 => ∃ a, x = .ref a /\ (∃ xs, SqT K H1 a xs) /\ R (Itt K a) H1
theorem pi_list {l : Expr} {tl : TE} (hl : PE X l tl) : PI X tg l (iList X.K tl) := by
 intro pins s σ H R I h
 refine thn (hl pins s σ H _ I h) fun v s1 ⟨x, H1, I1, r1, q1⟩ => ?_
 obtain ⟨a, e, ⟨xs, hq⟩, q⟩ := q1
 subst e
 cases r1
 obtain ⟨its, rv, p, hz⟩ := I1.list hq
 refine wpAny_pyIter_list p.isList ?_
 refine ⟨s1.heap.objs.size, [s1.heap.objs.size], _, _, H1, rfl, I1.kept (t' := s1.toks) fun b o e => Heap.get?_push_of_some _ e, turn_list a _, ⟨_, Heap.get?_push_size _ rfl, rfl, rfl⟩, fun b hb => ?_, q⟩
 have e : b = s1.heap.objs.size := by simpa using hb
 subst e
 exact I1.fpOk (Nat.le_refl _) (I1.hok.fresh (Nat.le_refl _))
theorem range_it {pins : List (Addr × Obj)} {σ : St} {H : Hp} {s : Shared} {R : It -> Hp -> Prop} {E : Value -> Shared -> Prop} {lo hi : Int} {t u v : Tok} {tk : Nat} (I : Inv X pins σ H s) (h1 : -(2 ^ 62) <= lo) (h2 : lo < 2 ^ 62) (h3 : -(2 ^ 62) <= hi) (h4 : hi < 2 ^ 62)
   (q : R (Itr lo (hi - lo).toNat) H) : wpAny (model X.prog X.w) X.A (pyIter (.ref s.heap.objs.size)) (PIE X pins σ tg R) E { s with heap := s.heap.push { cls := .type "range", data := .fields #[.int lo t, .int hi u, .int 1 v] }, toks := tk } := by
 refine wpAny_pyIter_range (IsRange.new ..) (small_one h1 h2 h3 h4) ?_
 have I1 : Inv X pins σ H { s with heap := s.heap.push { cls := .type "range", data := .fields #[.int lo t, .int hi u, .int 1 v] }, toks := tk } := I.kept fun b o e => Heap.get?_push_of_some _ e
 refine ⟨(s.heap.push { cls := .type "range", data := .fields #[.int lo t, .int hi u, .int 1 v] }).objs.size, [(s.heap.push { cls := .type "range", data := .fields #[.int lo t, .int hi u, .int 1 v] }).objs.size], _, _, H, rfl,
   I1.kept (t' := tk) fun b o e => Heap.get?_push_of_some _ e, turn_range _ lo (hi - lo).toNat, ?_, fun b hb => ?_, q⟩
 · have e1 : lo + ((0 : Nat) : Int) * 1 = lo := by simp
   have e2 : (((hi - lo).toNat : Nat) : Int) - ((0 : Nat) : Int) = Builtin.Range.rangeSize lo hi 1 := by rw [rangeSize_one]; split <;> omega
   show IsRangeIter _ _ (lo + ((0 : Nat) : Int) * 1) ((((hi - lo).toNat : Nat) : Int) - ((0 : Nat) : Int)) 1
   rw [e1, e2]
   exact Heap.get?_push_size _ rfl
 · have e : b = (s.heap.push { cls := .type "range", data := .fields #[.int lo t, .int hi u, .int 1 v] }).objs.size := by simpa using hb
   subst e
   exact I1.fpOk (Nat.le_refl _) (I1.hok.fresh (Nat.le_refl _))
def iRng1 (ta : TA) : TI := fun σ H R => ta σ H fun vs H1 => ∃ j : Int, vs = [.int j] /\ -(2 ^ 62) <= j /\ j < 2 ^ 62 /\ R (Itr 0 j.toNat) H1
def iRng2 (ta : TA) : TI := fun σ H R => ta σ H fun vs H1 => ∃ i j : Int, vs = [.int i, .int j] /\ (-(2 ^ 62) <= i /\ i < 2 ^ 62 /\ -(2 ^ 62) <= j /\ j < 2 ^ 62) /\ R (Itr i (j - i).toNat) H1
theorem jJ {a : Expr} {ta : TA} {p pos : Pos} (hg : Gl X "range") (hm : X.mg "range" = none) (ha : PA X [a] ta) (hs : starEach [a] X.env = [(false, eval a X.env)] := by rfl) : PI X tg (.Call (.Name "range" p) [a] [] pos) (iRng1 ta) := by
 intro pins s σ H R I h
 refine Call_ (xZ I hg hm boot_range (PyProof.Rows.callWith_type1 (thn (ha pos pins s σ H _ I h) fun us s1 ⟨vs, H1, I1, r1, q1⟩ => ?_) hs rfl))
 obtain ⟨j, e, q1, q2, q⟩ := q1
 subst e
 cases r1 with
 | cons r rr =>
   cases rr
   obtain ⟨t, rfl⟩ := r
   exact call_range_1 (range_it I1 (by omega) (by omega) q1 q2 (by simpa using q))
def tFor (wi : TI) (g : TG) (tb : TS) : TS := fun D σ H => wi σ H fun J H1 => ∃ W : Nat -> Nat -> St -> Hp -> Prop, (∃ m, W 0 m σ H1) /\ ∀ i m σ H, W i m σ H ->
 (J.stop i H /\ D.nx σ H) \/ (J.go i H /\ ∃ N : St -> Hp -> Prop, (∀ σ' H', N σ' H' -> ∃ m', m' < m /\ W (i + 1) m' σ' H') /\ ∀ x H', J.yld i H x H' -> g x σ H' fun σ2 H2 => tb { D with nx := N, ct := N, bk := D.nx } σ2 H2)
def yV (fp : List Addr) (h : Heap) : List (Addr × Obj) := fp.filterMap fun b => (h.get? b).map fun o => (b, o)
theorem yI {fp : List Addr} {h : Heap} {b : Addr} {o : Obj} (hb : b ∈ fp) (e : h.get? b = some o) : (b, o) ∈ yV fp h := List.mem_filterMap.mpr ⟨b, hb, by rw [e]; rfl⟩
theorem jM {fp : List Addr} {h : Heap} {p : Addr × Obj} (hp : p ∈ yV fp h) : p.1 ∈ fp /\ h.get? p.1 = some p.2 := by
 obtain ⟨b, hb, e⟩ := List.mem_filterMap.mp hp
 cases q : h.get? b with
 | none => rw [q] at e; cases e
 | some o =>
   rw [q] at e
   have e' : (b, o) = p := Option.some.inj e
   subst e'
   exact ⟨hb, q⟩
theorem Inv.pinned {pins : List (Addr × Obj)} {σ : St} {H : Hp} {s : Shared} {fp : List Addr} (I : Inv X pins σ H s) (hf : ∀ b ∈ fp, jD X pins H b) (ho : ∀ b ∈ fp, ∃ o, s.heap.get? b = some o /\ ∀ v, o.data ≠ .cell v) : Inv X (pins ++ yV fp s.heap) σ H s :=
 I.pins_of fun p hp => (List.mem_append.mp hp).elim (fun z => I.pin p (List.mem_append_right _ z)) fun z => by
   obtain ⟨hb, e⟩ := jM z
   obtain ⟨f0, f1, f2, _⟩ := hf p.1 hb
   obtain ⟨o, e', d⟩ := ho p.1 hb
   rw [e] at e'; cases e'
   exact ⟨e, f0, f1, f2, d⟩
theorem Inv.unpinned {pins pl : List (Addr × Obj)} {σ : St} {H : Hp} {s : Shared} (I : Inv X (pins ++ pl) σ H s) : Inv X pins σ H s := I.pins_of fun p hp => I.pin p (List.mem_append_right _ (List.mem_append_left _ hp))
theorem jX {iter : Expr} {body : List Stmt} {wi : TI} {g : TG} {tb : TS} {pos : Pos} (hp : PassesOwn (model X.prog X.w) X.A X.env X.xe) (hc : X.calm = true) (hi : PI X tg iter wi) (hg : PG X tg g) (hb : PSs X body tb)
   (hs : ∀ x, foldedSetIterable iter X.env x = pure x := by intro _; rfl) : PS X (.For tg iter body [] pos) (tFor wi g tb) := by
 intro pins s σ H D I h
 refine wpAny_For (thn (hi pins s σ H _ I h) fun v s1 h1 => thn h1 fun itv s2 h2 => ?_) hs
 obtain ⟨it, fp, tn, J, H2, e, I2, T, st2, f2, W, ⟨m0, w0⟩, turn⟩ := h2
 subst e
 have stat : ∀ {H' : Hp}, (∀ b ∈ fp, H' b = none) -> ∀ b ∈ fp, jD X pins H' b := fun hn b hb => ⟨hn b hb, (f2 b hb).2⟩
 refine codeAny_forLoop_any (fun n s' => ∃ i σ' H', Inv X pins σ' H' s' /\ tn i s'.heap /\ (∀ b ∈ fp, H' b = none) /\ W i n σ' H') ?_ m0 ⟨0, σ, H2, I2, st2, fun b hb => (f2 b hb).1, w0⟩
 rintro n s3 ⟨i, σ3, H3, I3, st3, fr3, w3⟩
 rcases turn i n σ3 H3 w3 with ⟨stop, qn⟩ | ⟨go, N, hN, step⟩
 · refine wpAny_passesOwn hp (thn (T.done X rfl rfl rfl hc i pins s3 σ3 H3 X.xe I3 (stat fr3) st3 stop) fun r s4 ⟨hr, I4⟩ => ?_)
   subst hr
   exact wpAny_execs_nil ⟨σ3, H3, I4, qn⟩
 · refine wpAny_passesOwn hp (thn (T.item X rfl rfl rfl hc i pins s3 σ3 H3 X.xe I3 (stat fr3) st3 go) fun r s4 ⟨u, hr, h4⟩ => ?_)
   subst hr
   refine wpAny_passesOwn hp (thn h4 fun _ s5 ⟨x, H5, I5, r5, y5, st5, fr5⟩ => ?_)
   have I5' := I5.pinned (stat fr5) (T.obj _ _ st5)
   refine wpAny_passesOwn hp (thn (hg _ s5 σ3 H5 x u _ I5' r5 (step x H5 y5)) fun _ s6 ⟨σ6, H6, I6, q6⟩ => ?_)
   refine wpAny_passesOwn hp (thn (hb _ s6 σ6 H6 _ I6 q6) fun f s7 q7 => ?_)
   have again : ∀ {σ7 : St} {H7 : Hp}, Inv X (pins ++ yV fp s5.heap) σ7 H7 s7 -> N σ7 H7 -> ∃ m, m < n /\ ∃ i σ' H', Inv X pins σ' H' s7 /\ tn i s7.heap /\ (∀ b ∈ fp, H' b = none) /\ W i m σ' H' := fun {σ7 H7} I7 n7 => by
     obtain ⟨m', hm, w7⟩ := hN σ7 H7 n7
     refine ⟨m', hm, i + 1, σ7, H7, I7.unpinned, T.keep _ _ _ st5 fun b hb o e => (I7.pin (b, o) (List.mem_append_right _ (List.mem_append_right _ (yI hb e)))).1, fun b hb => ?_, w7⟩
     obtain ⟨o, e, d⟩ := T.obj _ _ st5 b hb
     exact (I7.pin (b, o) (List.mem_append_right _ (List.mem_append_right _ (yI hb e)))).2.1
   cases f with
   | next => obtain ⟨σ7, H7, I7, n7⟩ := q7; exact again I7 n7
   | cont => obtain ⟨σ7, H7, I7, n7⟩ := q7; exact again I7 n7
   | brk => obtain ⟨σ7, H7, I7, q7⟩ := q7; exact ⟨σ7, H7, I7.unpinned, q7⟩
   | ret v => obtain ⟨x7, σ7, H7, I7, r7, q7⟩ := q7; exact ⟨x7, σ7, H7, I7.unpinned, r7, q7⟩
end
theorem for_list {K : PySem.W.Frag} {a : Addr} {xs : List V} {g : TG} {tb : TS} {D : Ends} {σ : St} {H : Hp} (Pv : Nat -> St -> Hp -> Prop) (h0 : Pv 0 σ H) (hl : ∀ i σ H, i <= xs.length -> Pv i σ H -> SqL K H a xs)
   (hs : ∀ i x σ H, xs[i]? = some x -> Pv i σ H -> g x σ H fun σ2 H2 => tb { D with nx := Pv (i + 1), ct := Pv (i + 1), bk := D.nx } σ2 H2) (hd : ∀ σ H, Pv xs.length σ H -> D.nx σ H) :
   ∃ W : Nat -> Nat -> St -> Hp -> Prop, (∃ m, W 0 m σ H) /\ ∀ i m σ H, W i m σ H ->
     ((Itl K a).stop i H /\ D.nx σ H) \/ ((Itl K a).go i H /\ ∃ N : St -> Hp -> Prop, (∀ σ' H', N σ' H' -> ∃ m', m' < m /\ W (i + 1) m' σ' H') /\ ∀ x H', (Itl K a).yld i H x H' -> g x σ H' fun σ2 H2 => tb { D with nx := N, ct := N, bk := D.nx } σ2 H2) := by
 refine ⟨fun i m σ H => m = xs.length - i /\ i <= xs.length /\ Pv i σ H, ⟨xs.length, by simp, Nat.zero_le _, h0⟩, ?_⟩
 rintro i m σ H ⟨rfl, hi, p⟩
 have q := hl i σ H hi p
 by_cases hlt : i < xs.length
 · refine .inr ⟨⟨xs, xs[i], q, by simp [hlt]⟩, Pv (i + 1), fun σ' H' p' => ⟨xs.length - (i + 1), by omega, rfl, hlt, p'⟩, fun x H' y => ?_⟩
   obtain ⟨e, y⟩ := y
   subst e
   exact hs i x σ _ (y xs q) p
 · have e : i = xs.length := by omega
   subst e
   exact .inl ⟨⟨xs, q, Nat.le_refl _⟩, hd σ H p⟩
theorem for_range {lo : Int} {n : Nat} {g : TG} {tb : TS} {D : Ends} {σ : St} {H : Hp} (Pv : Nat -> St -> Hp -> Prop) (h0 : Pv 0 σ H)
   (hs : ∀ i σ H, i < n -> Pv i σ H -> g (.int (lo + i)) σ H fun σ2 H2 => tb { D with nx := Pv (i + 1), ct := Pv (i + 1), bk := D.nx } σ2 H2) (hd : ∀ σ H, Pv n σ H -> D.nx σ H) :
   ∃ W : Nat -> Nat -> St -> Hp -> Prop, (∃ m, W 0 m σ H) /\ ∀ i m σ H, W i m σ H ->
     ((Itr lo n).stop i H /\ D.nx σ H) \/ ((Itr lo n).go i H /\ ∃ N : St -> Hp -> Prop, (∀ σ' H', N σ' H' -> ∃ m', m' < m /\ W (i + 1) m' σ' H') /\ ∀ x H', (Itr lo n).yld i H x H' -> g x σ H' fun σ2 H2 => tb { D with nx := N, ct := N, bk := D.nx } σ2 H2) := by
 refine ⟨fun i m σ H => m = n - i /\ i <= n /\ Pv i σ H, ⟨n, by simp, Nat.zero_le _, h0⟩, ?_⟩
 rintro i m σ H ⟨rfl, hi, p⟩
 by_cases hlt : i < n
 · refine .inr ⟨hlt, Pv (i + 1), fun σ' H' p' => ⟨n - (i + 1), by omega, rfl, hlt, p'⟩, fun x H' y => ?_⟩
   obtain ⟨e, y⟩ := y
   subst e y
   exact hs i σ _ hlt p
 · have e : i = n := by omega
   subst e
   exact .inl ⟨Nat.le_refl _, hd σ H p⟩
abbrev R2 := V -> V -> Hp -> VK -> Prop
def OpR (X : Cx) (f : Value -> Value -> Sem Value) (r : R2) : Prop :=
 ∀ (pins : List (Addr × Obj)) (s : Shared) (σ : St) (H : Hp) (x y : V) (v u : Value) (Q : VK), Inv X pins σ H s -> RelV x v -> RelV y u -> r x y H Q ->
   wpAny (model X.prog X.w) X.A (f v u) (EP X pins σ Q) X.xe s
def xQ (X : Cx) (f : Value) (r : List V -> Hp -> VK -> Prop) : Prop :=
 ∀ (pins : List (Addr × Obj)) (s : Shared) (σ : St) (H : Hp) (xs : List V) (us : List Value) (Q : VK), Inv X pins σ H s -> Vals xs us -> r xs H Q ->
   wpAny (model X.prog X.w) X.A (call f us) (EP X pins σ Q) X.xe s
def tOp (r : R2) (ta tb : TE) : TE := fun σ H Q => ta σ H fun x H1 => tb σ H1 fun y H2 => r x y H2 Q
def tUn (r : V -> Hp -> VK -> Prop) (ta : TE) : TE := fun σ H Q => ta σ H fun x H1 => r x H1 Q
def rI (C : Int -> Int -> Prop) (g : Int -> Int -> V) : R2 := fun x y H Q => ∃ i j, x = .int i /\ y = .int j /\ C i j /\ Q (g i j) H
def rI0 (g : Int -> Int -> V) : R2 := fun x y H Q => ∃ i j, x = .int i /\ y = .int j /\ Q (g i j) H
def rU (g : Int -> V) : V -> Hp -> VK -> Prop := fun x H Q => ∃ i, x = .int i /\ Q (g i) H
section
variable {X : Cx} {a b c : Expr} {ta tb tc : TE} {pos : Pos}
theorem binT (ha : PE X a ta) (hb : PE X b tb) {pins : List (Addr × Obj)} {s : Shared} {σ : St} {H : Hp} {R : V -> V -> Hp -> Prop} (I : Inv X pins σ H s)
   (h : ta σ H fun x H1 => tb σ H1 fun y H2 => R x y H2) {Q : Value -> Shared -> Prop} {f : Value -> Value -> Sem Value}
   (hf : ∀ v u s2 x y H2, Inv X pins σ H2 s2 -> RelV x v -> RelV y u -> R x y H2 -> wpAny (model X.prog X.w) X.A (f v u) Q X.xe s2) :
   wpAny (model X.prog X.w) X.A (eval a X.env) (fun v s₁ => wpAny (model X.prog X.w) X.A (eval b X.env) (fun u s₂ => wpAny (model X.prog X.w) X.A (f v u) Q X.xe s₂) X.xe s₁) X.xe s := by
 refine thn (ha pins s σ H _ I h) fun v s1 ⟨x, H1, I1, r1, q1⟩ => ?_
 refine thn (hb pins s1 σ H1 _ I1 q1) fun u s2 ⟨y, H2, I2, r2, q2⟩ => ?_
 exact hf v u s2 x y H2 I2 r1 r2 q2
theorem zH {op : Operator} {r : R2} (ho : OpR X (binaryOp op) r) (ha : PE X a ta) (hb : PE X b tb) : PE X (.BinOp a op b pos) (tOp r ta tb) := by
 intro pins s σ H Q I h
 exact wpAny_BinOp (binT ha hb I h fun v u s2 x y H2 I2 rx ry q => ho pins s2 σ H2 x y v u Q I2 rx ry q)
theorem opI {f : Value -> Value -> Sem Value} {C : Int -> Int -> Prop} {g : Int -> Int -> Int}
   (rule : ∀ (i j : Int) (t u : Tok) (s : Shared) (Q : Value -> Shared -> Prop) (E : Value -> Shared -> Prop), C i j -> Q (.int (g i j) s.toks) { s with toks := s.toks + 1 } -> wpAny (model X.prog X.w) X.A (f (.int i t) (.int j u)) Q E s) :
   OpR X f (rI C fun i j => .int (g i j)) := by
 intro pins s σ H x y v u Q I rx ry h
 obtain ⟨i, j, rfl, rfl, hc, q⟩ := h
 obtain ⟨t, rfl⟩ := rx
 obtain ⟨t', rfl⟩ := ry
 exact rule i j t t' s _ _ hc ⟨.int (g i j), H, I.tok _, ⟨_, rfl⟩, q⟩
theorem opI0 {f : Value -> Value -> Sem Value} {g : Int -> Int -> Int}
   (rule : ∀ (i j : Int) (t u : Tok) (s : Shared) (Q : Value -> Shared -> Prop) (E : Value -> Shared -> Prop), Q (.int (g i j) s.toks) { s with toks := s.toks + 1 } -> wpAny (model X.prog X.w) X.A (f (.int i t) (.int j u)) Q E s) :
   OpR X f (rI0 fun i j => .int (g i j)) := by
 intro pins s σ H x y v u Q I rx ry h
 obtain ⟨i, j, rfl, rfl, q⟩ := h
 obtain ⟨t, rfl⟩ := rx
 obtain ⟨t', rfl⟩ := ry
 exact rule i j t t' s _ _ ⟨.int (g i j), H, I.tok _, ⟨_, rfl⟩, q⟩
theorem opB0 {f : Value -> Value -> Sem Value} {g : Int -> Int -> Bool}
   (rule : ∀ (i j : Int) (t u : Tok) (s : Shared) (Q : Value -> Shared -> Prop) (E : Value -> Shared -> Prop), Q (.bool (g i j)) s -> wpAny (model X.prog X.w) X.A (f (.int i t) (.int j u)) Q E s) :
   OpR X f (rI0 fun i j => .bl (g i j)) := by
 intro pins s σ H x y v u Q I rx ry h
 obtain ⟨i, j, rfl, rfl, q⟩ := h
 obtain ⟨t, rfl⟩ := rx
 obtain ⟨t', rfl⟩ := ry
 exact rule i j t t' s _ _ ⟨.bl (g i j), H, I, rfl, q⟩
def CDiv (i j : Int) : Prop := 0 < j /\ j < 1073741824
def CPow (i j : Int) : Prop := 0 <= j /\ j <= 1000000 /\ i.natAbs < 2 ^ 64
def CMul (i j : Int) : Prop := (-(2 ^ 64) < i /\ i < 2 ^ 64) \/ (-(2 ^ 64) < j /\ j < 2 ^ 64)
theorem CMul.ok {i j : Int} (h : CMul i j) : IntMulOk i j := by
 rcases h with ⟨h1, h2⟩ | ⟨h1, h2⟩
 · exact .of_left (intBits_le_64 h1 h2)
 · exact .of_right (intBits_le_64 h1 h2)
theorem op_add : OpR X (binaryOp .Add) (rI0 fun i j => .int (i + j)) := opI0 fun _ _ _ _ _ _ _ q => add_int q
theorem op_sub : OpR X (binaryOp .Sub) (rI0 fun i j => .int (i - j)) := opI0 fun _ _ _ _ _ _ _ q => sub_int q
theorem op_mul : OpR X (binaryOp .Mult) (rI CMul fun i j => .int (i * j)) := opI fun _ _ _ _ _ _ _ hc q => mul_int q hc.ok
theorem op_fdiv : OpR X (binaryOp .FloorDiv) (rI CDiv fun i j => .int (i / j)) := opI fun i j _ _ _ _ _ hc q => by
 have h1 : (0 : Int) < j := hc.1
 have h2 : j < 1073741824 := hc.2
 exact floordiv_int (by omega) (by rw [Int.fdiv_eq_ediv_of_nonneg i (by omega)]; exact q) (.inl (PyProof.noPylong_small (by omega)))
theorem op_mod : OpR X (binaryOp .Mod) (rI (fun _ j => 0 < j) fun i j => .int (i % j)) := opI fun i j _ _ _ _ _ hc q => by
 have h1 : (0 : Int) < j := hc
 exact mod_int' (by omega) (by rw [Int.fmod_eq_emod_of_nonneg i (by omega)]; exact q)
theorem op_pow : OpR X (binaryOp .Pow) (rI CPow fun i j => .int (i ^ j.toNat)) := opI fun _ _ _ _ _ _ _ hc q => pow_int_small hc.1 hc.2.1 hc.2.2 q
end
def scal : V -> V -> Bool
 | .non, .non => true | .non, .int _ => true | .int _, .non => true | .non, .bl _ => true | .bl _, .non => true | .non, .str _ => true | .str _, .non => true
 | .int _, .int _ => true | .bl _, .bl _ => true | .str _, .str _ => true | .byt _, .byt _ => true
 | .int _, .str _ => true | .str _, .int _ => true | .bl _, .str _ => true | .str _, .bl _ => true
 | _, _ => false
def rEq : R2 := fun x y H Q => scal x y = true /\ Q (.bl (decide (x = y))) H
def rNe : R2 := fun x y H Q => scal x y = true /\ Q (.bl (!decide (x = y))) H
theorem dec_int {i j : Int} : decide (V.int i = V.int j) = (i == j) := by
 rw [Bool.eq_iff_iff]
 simp
theorem dec_bl {i j : Bool} : decide (V.bl i = V.bl j) = (i == j) := by
 rw [Bool.eq_iff_iff]
 simp
theorem dec_str {i j : Str} : decide (V.str i = V.str j) = (i == j) := by
 rw [Bool.eq_iff_iff]
 simp
theorem dec_byt {i j : Array UInt8} : decide (V.byt i = V.byt j) = (i.toList == j.toList) := by
 rw [Bool.eq_iff_iff]
 cases i
 cases j
 simp
section
variable {X : Cx} {a b c : Expr} {ta tb tc : TE} {pos : Pos}
theorem zL {pins : List (Addr × Obj)} {σ : St} {H : Hp} {s : Shared} {Q : VK} {k k' : Bool} (I : Inv X pins σ H s) (q : Q (.bl k) H) (e : k = k') : EP X pins σ Q (.bool k') s := by
 subst e
 exact ⟨.bl k, H, I, rfl, q⟩
theorem op_eq : OpR X (compareOp .Eq) rEq := by
 intro pins s σ H x y v u Q I rx ry h
 obtain ⟨hs, q⟩ := h
 cases x with
 | non =>
   cases rx
   cases y with
   | non => cases ry; exact PySem.EqNone.eq_none_none (zL I q (by simp))
   | bl j => cases ry; exact PySem.EqNone.eq_none_bool (zL I q (by simp))
   | int j => obtain ⟨t', rfl⟩ := ry; exact PySem.EqNone.eq_none_int (zL I q (by simp))
   | str j => obtain ⟨t', rfl⟩ := ry; exact PySem.EqNone.eq_none_str (zL I q (by simp))
   | _ => exact absurd (show false = true from hs) Bool.false_ne_true
 | bl i =>
   cases rx
   cases y with
   | non => cases ry; exact PySem.EqNone.eq_bool_none (zL I q (by simp))
   | bl j => cases ry; exact eq_bool (zL I q dec_bl)
   | str j => obtain ⟨t', rfl⟩ := ry; exact PySem.EqMixed.eq_bool_str (zL I q (by simp))
   | _ => exact absurd (show false = true from hs) Bool.false_ne_true
 | int i =>
   obtain ⟨t, rfl⟩ := rx
   cases y with
   | non => cases ry; exact PySem.EqNone.eq_int_none (zL I q (by simp))
   | int j => obtain ⟨t', rfl⟩ := ry; exact eq_int (zL I q dec_int)
   | str j => obtain ⟨t', rfl⟩ := ry; exact PySem.EqMixed.eq_int_str (zL I q (by simp))
   | _ => exact absurd (show false = true from hs) Bool.false_ne_true
 | str i =>
   obtain ⟨t, rfl⟩ := rx
   cases y with
   | non => cases ry; exact PySem.EqNone.eq_str_none (zL I q (by simp))
   | bl j => cases ry; exact PySem.EqMixed.eq_str_bool (zL I q (by simp))
   | int j => obtain ⟨t', rfl⟩ := ry; exact PySem.EqMixed.eq_str_int (zL I q (by simp))
   | str j => obtain ⟨t', rfl⟩ := ry; exact eq_str (zL I q dec_str)
   | _ => exact absurd (show false = true from hs) Bool.false_ne_true
 | byt i =>
   obtain ⟨t, rfl⟩ := rx
   cases y with
   | byt j => obtain ⟨t', rfl⟩ := ry; exact PySem.W.eq_bytes (zL I q dec_byt)
   | _ => exact absurd (show false = true from hs) Bool.false_ne_true
 | _ => cases y <;> exact absurd (show false = true from hs) Bool.false_ne_true
theorem op_ne : OpR X (compareOp .NotEq) rNe := by
 intro pins s σ H x y v u Q I rx ry h
 obtain ⟨hs, q⟩ := h
 cases x with
 | non =>
   cases rx
   cases y with
   | non => cases ry; exact PySem.EqNone.ne_none_none (zL I q (by simp))
   | bl j => cases ry; exact PySem.EqNone.ne_none_bool (zL I q (by simp))
   | int j => obtain ⟨t', rfl⟩ := ry; exact PySem.EqNone.ne_none_int (zL I q (by simp))
   | str j => obtain ⟨t', rfl⟩ := ry; exact PySem.EqNone.ne_none_str (zL I q (by simp))
   | _ => exact absurd (show false = true from hs) Bool.false_ne_true
 | bl i =>
   cases rx
   cases y with
   | non => cases ry; exact PySem.EqNone.ne_bool_none (zL I q (by simp))
   | bl j => cases ry; exact ne_bool (zL I q (congrArg not dec_bl))
   | str j => obtain ⟨t', rfl⟩ := ry; exact PySem.EqMixed.ne_bool_str (zL I q (by simp))
   | _ => exact absurd (show false = true from hs) Bool.false_ne_true
 | int i =>
   obtain ⟨t, rfl⟩ := rx
   cases y with
   | non => cases ry; exact PySem.EqNone.ne_int_none (zL I q (by simp))
   | int j => obtain ⟨t', rfl⟩ := ry; exact ne_int (zL I q (congrArg not dec_int))
   | str j => obtain ⟨t', rfl⟩ := ry; exact PySem.EqMixed.ne_int_str (zL I q (by simp))
   | _ => exact absurd (show false = true from hs) Bool.false_ne_true
 | str i =>
   obtain ⟨t, rfl⟩ := rx
   cases y with
   | non => cases ry; exact PySem.EqNone.ne_str_none (zL I q (by simp))
   | bl j => cases ry; exact PySem.EqMixed.ne_str_bool (zL I q (by simp))
   | int j => obtain ⟨t', rfl⟩ := ry; exact PySem.EqMixed.ne_str_int (zL I q (by simp))
   | str j => obtain ⟨t', rfl⟩ := ry; exact ne_str (zL I q (congrArg not dec_str))
   | _ => exact absurd (show false = true from hs) Bool.false_ne_true
 | byt i =>
   obtain ⟨t, rfl⟩ := rx
   cases y with
   | byt j => obtain ⟨t', rfl⟩ := ry; exact PySem.W.ne_bytes (zL I q (congrArg not dec_byt))
   | _ => exact absurd (show false = true from hs) Bool.false_ne_true
 | _ => cases y <;> exact absurd (show false = true from hs) Bool.false_ne_true
theorem op_lt : OpR X (compareOp .Lt) (rI0 fun i j => .bl (decide (i < j))) := opB0 fun _ _ _ _ _ _ _ q => lt_int q
theorem op_le : OpR X (compareOp .LtE) (rI0 fun i j => .bl (decide (i <= j))) := opB0 fun _ _ _ _ _ _ _ q => le_int q
theorem op_gt : OpR X (compareOp .Gt) (rI0 fun i j => .bl (decide (j < i))) := opB0 fun _ _ _ _ _ _ _ q => gt_int q
theorem op_in_str : OpR X (compareOp .In) (fun x y H Q => ∃ i j, x = .str i /\ y = .str j /\ Q (.bl (!(Builtin.Str.occurrences j i 0 j.length 1).isEmpty)) H) := by
 intro pins s σ H x y v u Q I rx ry h
 obtain ⟨i, j, rfl, rfl, q⟩ := h
 obtain ⟨t, rfl⟩ := rx
 obtain ⟨t', rfl⟩ := ry
 exact in_str (zL I q rfl)
theorem op_notin_str : OpR X (compareOp .NotIn) (fun x y H Q => ∃ i j, x = .str i /\ y = .str j /\ Q (.bl (!(!(Builtin.Str.occurrences j i 0 j.length 1).isEmpty))) H) := by
 intro pins s σ H x y v u Q I rx ry h
 obtain ⟨i, j, rfl, rfl, q⟩ := h
 obtain ⟨t, rfl⟩ := rx
 obtain ⟨t', rfl⟩ := ry
 exact notIn_str (zL I q rfl)
theorem zJ (b : Expr) {op : CmpOp} (h : op ≠ .In := by decide) (h2 : op ≠ .NotIn := by decide) : behindInMarks op b = false := by
 have e1 : (op == CmpOp.In) = false := by cases op <;> first | rfl | exact absurd rfl h
 have e2 : (op == CmpOp.NotIn) = false := by cases op <;> first | rfl | exact absurd rfl h2
 cases b <;> simp [behindInMarks, e1, e2]
theorem zV {op : CmpOp} {r : R2} (ho : OpR X (compareOp op) r) (ha : PE X a ta) (hb : PE X b tb) (hm : behindInMarks op b = false) : PE X (.Compare a [op] [b] pos) (tOp r ta tb) := by
 intro pins s σ H Q I h
 exact wpAny_Compare1 (binT ha hb I h fun v u s2 x y H2 I2 rx ry q => ho pins s2 σ H2 x y v u Q I2 rx ry q) hm
def tTest (t : TE) : TT := fun σ H Q => t σ H fun x H' => ∃ k, x = .bl k /\ Q k H'
theorem zK {op : CmpOp} {r : R2} (ho : OpR X (compareOp op) r) (ha : PE X a ta) (hb : PE X b tb) (hm : behindInMarks op b = false) : PT X (.Compare a [op] [b] pos) (tTest (tOp r ta tb)) := by
 intro pins s σ H Q I h
 refine wpAny_isTrue_Compare1 (thn (ha pins s σ H _ I h) fun v s1 ⟨x, H1, I1, r1, q1⟩ => thn (hb pins s1 σ H1 _ I1 q1) fun u s2 ⟨y, H2, I2, r2, q2⟩ =>
   thn (ho pins s2 σ H2 x y v u _ I2 r1 r2 q2) fun c s3 ⟨z, H3, I3, r3, k, e, q3⟩ => ?_) hm
 subst e
 cases r3
 exact wpAny_truthy_bool ⟨H3, I3, q3⟩
def tChain (r r' : R2) (ta tb tc : TE) : TE := fun σ H Q => ta σ H fun x H1 => tb σ H1 fun y H2 => r x y H2 fun z H3 => ∃ k, z = .bl k /\
 (if k = true then tc σ H3 fun w' H4 => r' y w' H4 Q else Q (.bl false) H3)
theorem pe_chain {op op' : CmpOp} {r r' : R2} (ho : OpR X (compareOp op) r) (ho' : OpR X (compareOp op') r') (ha : PE X a ta) (hb : PE X b tb) (hc : PE X c tc)
   (hm : lastMarks [op, op'] [b, c] = false := by with_unfolding_all rfl) : PE X (.Compare a [op, op'] [b, c] pos) (tChain r r' ta tb tc) := by
 intro pins s σ H Q I h
 refine Compare_chain (thn (ha pins s σ H _ I h) fun v s1 ⟨x, H1, I1, r1, q1⟩ => chain_link (thn (hb pins s1 σ H1 _ I1 q1) fun u s2 ⟨y, H2, I2, r2, q2⟩ =>
   thn (ho pins s2 σ H2 x y v u _ I2 r1 r2 q2) fun d s3 ⟨z, H3, I3, r3, k, e, q3⟩ => ?_)) hm
 subst e
 cases r3
 refine wpAny_truthy_bool ?_
 cases k with
 | false => exact ite_ff ⟨.bl false, H3, I3, rfl, q3⟩
 | true => exact ite_tt (chain_last (thn (hc pins s3 σ H3 _ I3 q3) fun w' s4 ⟨z', H4, I4, r4, q4⟩ => ho' pins s4 σ H4 y z' u w' Q I4 r2 r4 q4))
theorem pt_chain {op op' : CmpOp} {r r' : R2} (ho : OpR X (compareOp op) r) (ho' : OpR X (compareOp op') r') (ha : PE X a ta) (hb : PE X b tb) (hc : PE X c tc)
   (hm : lastMarks [op, op'] [b, c] = false := by with_unfolding_all rfl) : PT X (.Compare a [op, op'] [b, c] pos) (tTest (tChain r r' ta tb tc)) := by
 intro pins s σ H Q I h
 refine isTrue_chain (thn (ha pins s σ H _ I h) fun v s1 ⟨x, H1, I1, r1, q1⟩ => test_link (thn (hb pins s1 σ H1 _ I1 q1) fun u s2 ⟨y, H2, I2, r2, q2⟩ =>
   thn (ho pins s2 σ H2 x y v u _ I2 r1 r2 q2) fun d s3 ⟨z, H3, I3, r3, k, e, q3⟩ => ?_)) hm
 subst e
 cases r3
 refine wpAny_truthy_bool ?_
 cases k with
 | false =>
   obtain ⟨k', e', q'⟩ := q3
   cases e'
   exact ite_ff ⟨H3, I3, q'⟩
 | true =>
   refine ite_tt (test_last (thn (hc pins s3 σ H3 _ I3 q3) fun w' s4 ⟨z', H4, I4, r4, q4⟩ => thn (ho' pins s4 σ H4 y z' u w' _ I4 r2 r4 q4) fun d' s5 ⟨z2, H5, I5, r5, k2, e2, q5⟩ => ?_))
   subst e2
   cases r5
   exact wpAny_truthy_bool ⟨H5, I5, q5⟩
theorem line63 : (sizeLine : Nat) < 2 ^ 63 := by rw [sizeLine_eq]; decide
theorem op_add_str : OpR X (binaryOp .Add) (fun x y H Q => ∃ i j, x = .str i /\ y = .str j /\ i.length + j.length <= sizeLine /\ Q (.str (i ++ j)) H) := by
 intro pins s σ H x y v u Q I rx ry h
 obtain ⟨i, j, rfl, rfl, hz, q⟩ := h
 obtain ⟨t, rfl⟩ := rx
 obtain ⟨t', rfl⟩ := ry
 exact add_str (fun t' tk => ⟨.str (i ++ j), H, I.tok _, ⟨_, rfl⟩, q⟩) hz
theorem vals1 {x : V} {us : List Value} (r : Vals [x] us) : ∃ u, us = [u] /\ RelV x u := by
 cases r with
 | cons r1 r2 => cases r2; exact ⟨_, rfl, r1⟩
theorem vals2 {x y : V} {us : List Value} (r : Vals [x, y] us) : ∃ u w', us = [u, w'] /\ RelV x u /\ RelV y w' := by
 cases r with
 | cons r1 r2 =>
   cases r2 with
   | cons r3 r4 => cases r4; exact ⟨_, _, rfl, r1, r3⟩
def LenV (K : PySem.W.Frag) (x : V) (H : Hp) (n : Nat) : Prop :=
 match x with
 | .str y => y.length <= sizeLine /\ n = y.length
 | .byt y => y.size <= sizeLine /\ n = y.size
 | .ref p => (∃ xs, SqL K H p xs /\ n = xs.length) \/ ∃ xs, SqT K H p xs /\ n = xs.length
 | _ => False
theorem call_len : xQ X (.builtin "len") (fun xs H Q => ∃ x n, xs = [x] /\ LenV X.K x H n /\ Q (.int n) H) := by
 intro pins s σ H xs us Q I r h
 obtain ⟨x, n, rfl, e, q⟩ := h
 obtain ⟨u, rfl, rx⟩ := vals1 r
 have hl := line63
 have hs : sizeLine = 16777216 := sizeLine_eq
 cases x with
 | str y =>
   obtain ⟨t, rfl⟩ := rx
   obtain ⟨hy, e'⟩ : y.length <= sizeLine /\ n = y.length := e
   subst e'
   exact len_str (by omega) ⟨.int _, H, I.tok _, ⟨_, rfl⟩, q⟩
 | byt y =>
   obtain ⟨t, rfl⟩ := rx
   obtain ⟨hy, e'⟩ : y.size <= sizeLine /\ n = y.size := e
   subst e'
   exact PySem.W.len_bytes (by omega) ⟨.int _, H, I.tok _, ⟨_, rfl⟩, q⟩
 | ref p =>
   cases rx
   have e' : (∃ xs, SqL X.K H p xs /\ n = xs.length) \/ ∃ xs, SqT X.K H p xs /\ n = xs.length := e
   rcases e' with ⟨xs, hx, e'⟩ | ⟨xs, hx, e'⟩
   · subst e'
     obtain ⟨its, r', pl, hz⟩ := I.list hx
     have hlen := r'.length
     exact Calls.call_len_list pl.isList (by simp only [List.size_toArray]; omega) ⟨.int xs.length, H, I.tok _, ⟨_, by simp only [List.size_toArray]; rw [hlen]⟩, q⟩
   · subst e'
     obtain ⟨its, r', pl, hz⟩ := I.tuple hx
     have hlen := r'.length
     exact len_tuple pl (by simp only [List.size_toArray]; omega) ⟨.int xs.length, H, I.tok _, ⟨_, by simp only [List.size_toArray]; rw [hlen]⟩, q⟩
 | _ => exact (show False from e).elim
end
structure ObjM (h : Heap) (x dx C : Addr) (mA : Str -> Option Value) : Prop where
 obj : h.get? x = some (PySem.W.instObj C dx)
 ns : h.Ns1 dx mA
 ne : dx ≠ x
theorem lookIn_ns {h : Heap} {dx : Addr} {mA : Str -> Option Value} (n : h.Ns1 dx mA) : ∃ od, h.get? dx = some od /\ ∀ name, PySem.W.lookIn name od = some (mA name) := by
 obtain ⟨o, es, ep, ho, hd, hk, _, hm⟩ := n
 refine ⟨o, ho, fun name => ?_⟩
 have e := hm name
 unfold nsFind findBy at e
 rw [← Array.find?_toList] at e
 unfold PySem.W.lookIn
 rw [hd]
 dsimp only
 split
 · rename_i y q
   rw [q] at e
   exact congrArg some e
 · rename_i q
   rw [q] at e
   have a : es.toList.any (·.refKey) = false := by
     rw [List.any_eq_false]
     intro y hy
     obtain ⟨z, t, hkey⟩ := hk y (Array.mem_toList_iff.mp hy)
     simp [DictEntry.refKey, hkey]
   have a' : ¬ es.toList.any (·.refKey) = true := by rw [a]; exact Bool.false_ne_true
   rw [if_neg a']
   exact congrArg some e
theorem ObjM.look {h : Heap} {x dx C : Addr} {mA : Str -> Option Value} (I : ObjM h x dx C mA) : ∃ od, PySem.W.InstAt h x (PySem.W.instObj C dx) C (some od) /\ ∀ name, PySem.W.lookIn name od = some (mA name) :=
 let ⟨od, ho, hl⟩ := lookIn_ns I.ns
 ⟨od, ⟨I.obj, rfl, rfl, ho⟩, hl⟩
section
variable {prog : Program} {w : World} {A : Around} {E : Value -> Shared -> Prop} {s : Shared} {K : PySem.W.Frag} {x dx C f : Addr} {mA : Str -> Option Value} {name : Str} {v : Value}
end
section
variable {P : Program} {w : World} {H H' : Hp} {h h' : Heap} {a C dx : Addr} {fs fs' : List (Str × V)}
theorem ins_get (hok : HOk P w H h) (e : H a = some (.ins C dx fs)) : ∃ mA, ObjM h a dx C mA /\ (∀ f, RelO (fs.lookup f) (mA f)) /\ PySem.Within mA (fs.map (·.1)) /\ fs.length <= 1000 /\ H dx = some (.own a) := by
 obtain ⟨d, z, ne, ob, mA, n, r, q⟩ := (show ObjOk P w H h a (.ins C dx fs) from hok a _ e)
 exact ⟨mA, ⟨ob, n, ne⟩, r, q, z, d⟩
end
structure Cls (K : PySem.W.Frag) (C : Addr) : Prop where
 pg : PySem.W.plainGet K C Str.empty = true
 hd : PySem.W.hasDictIn K C = true
 po : PySem.W.plainOver K C = true
 sa : PySem.W.findIn K (.ref C) "__setattr__" = some (some (.builtin "object.__setattr__"))
theorem Cls.get {K : PySem.W.Frag} {C : Addr} (c : Cls K C) (f : Str) : PySem.W.plainGet K C f = true := c.pg
structure Con (K : PySem.W.Frag) (C : Addr) (f : Str) (v : V) (u : Value) : Prop where
 at_ : PySem.W.findIn K (.ref C) f = some (some u)
 rel : RelV v u
 get : PySem.W.specialIn K u "__get__" = some none
 cp : PySem.W.copiedNames.contains f = false
structure Meth (K : PySem.W.Frag) (C : Addr) (m : Str) (f : Addr) : Prop where
 at_ : PySem.W.findIn K (.ref C) m = some (some (.ref f))
 fn : PySem.W.isFn K (.ref f) = true
 kp : PySem.W.keepIn K (.ref f) = true
section
variable {X : Cx} {pins : List (Addr × Obj)} {σ : St} {H : Hp} {s : Shared} {a C dx : Addr} {fs : List (Str × V)} {f : Str} {v : V} {A : Around} {E : Value -> Shared -> Prop}
end
section
variable {X : Cx} {o e value : Expr} {f : Str} {pos pos' tpos : Pos} {ta tv : TE}
end
section
variable {X : Cx} {pins : List (Addr × Obj)} {σ : St} {H : Hp} {s : Shared} {A : Around} {E : Value -> Shared -> Prop} {Q : Value -> Shared -> Prop} {c : Value} {b : Bool}
inductive TyOf (K : PySem.W.Frag) (H : Hp) : V -> Value -> Prop where
 | non : TyOf K H .non (.type "NoneType")
 | bl (x : Bool) : TyOf K H (.bl x) (.type "bool")
 | int (i : Int) : TyOf K H (.int i) (.type "int")
 | str (x : Str) : TyOf K H (.str x) (.type "str")
 | flt (x : UInt64) : TyOf K H (.flt x) (.type "float")
 | lst {a : Addr} {xs : List V} (e : H a = some (.lst xs)) : TyOf K H (.ref a) (.type "list")
 | frz {a : Addr} {o : Obj} {xs : List V} (e : H a = some (.frz o (.lst xs))) : TyOf K H (.ref a) (.type "list")
 | tup {a : Addr} {xs : List V} (e : H a = some (.tup xs)) : TyOf K H (.ref a) (.type "tuple")
 | dK {a : Addr} {kvs : List (Key × V)} (e : H a = some (.dK kvs)) : TyOf K H (.ref a) (.type "dict")
 | dT {a : Addr} {kvs : List (List Key × V)} (e : H a = some (.dT kvs)) : TyOf K H (.ref a) (.type "dict")
 | ins {a C dx : Addr} {fs : List (Str × V)} (e : H a = some (.ins C dx fs)) (cl : Cls K C) (ha : PySem.W.findIn K (.ref C) "__class__" = some (some (.builtin "object.__class__")))
     (hn : PySem.W.specialIn K (.builtin "object.__class__") "__get__" = some (some (.builtin "getset_descriptor.__get__"))) (htk : PySem.W.takesIn K (.builtin "object.__class__") = some true)
     (hm : PySem.W.mroIn K C (.type "object") = some true) : TyOf K H (.ref a) (.ref C)
theorem isinst_ok {x : V} {u t : Value} (I : Inv X pins σ H s) (rx : RelV x u) (ty : TyOf X.K H x t) (e : PySem.W.kitOne X.K t c = some b) (h : ∀ tk, Q (.bool b) { s with toks := tk }) :
   wpAny (model X.prog X.w) A (call (.builtin "isinstance") [u, c]) Q E s := by
 cases ty with
 | non => cases (show u = Value.none from rx); exact PySem.W.kia_one PySem.W.kitx_none I.kIn True.intro e (fun z => nomatch z) h
 | bl y => cases (show u = Value.bool y from rx); exact PySem.W.kia_one PySem.W.kitx_bool I.kIn True.intro e (fun z => nomatch z) h
 | int i => obtain ⟨t, q⟩ := (show ∃ t, u = Value.int i t from rx); cases q; exact PySem.W.kia_one PySem.W.kitx_int I.kIn True.intro e (fun z => nomatch z) h
 | str y => obtain ⟨t, q⟩ := (show ∃ t, u = Value.str y t from rx); cases q; exact PySem.W.kia_one PySem.W.kitx_str I.kIn True.intro e (fun z => nomatch z) h
 | flt y => obtain ⟨t, q⟩ := (show ∃ t, u = Value.float y t from rx); cases q; exact PySem.W.kia_one PySem.W.kitx_float I.kIn True.intro e (fun z => nomatch z) h
 | @lst a xs ea =>
   cases (show u = Value.ref a from rx)
   obtain ⟨_, _, n, _, h1⟩ := (show ObjOk X.prog X.w H s.heap a (.lst xs) from I.hok a _ ea)
   exact PySem.W.kia_one PySem.W.kitx_list I.kIn ⟨_, h1, rfl⟩ e (fun z => nomatch z) h
 | @frz a ob xs ea =>
   cases (show u = Value.ref a from rx)
   obtain ⟨_, _, _, n, _, h1⟩ := (show ObjOk X.prog X.w H s.heap a (.frz ob (.lst xs)) from I.hok a _ ea)
   exact PySem.W.kia_one PySem.W.kitx_list I.kIn ⟨_, h1, rfl⟩ e (fun z => nomatch z) h
 | @tup a xs ea =>
   cases (show u = Value.ref a from rx)
   obtain ⟨_, _, _, p⟩ := (show ObjOk X.prog X.w H s.heap a (.tup xs) from I.hok a _ ea)
   obtain ⟨o, h1, h2, _⟩ := p
   exact PySem.W.kia_one PySem.W.kitx_tuple I.kIn ⟨o, h1, h2⟩ e (fun z => nomatch z) h
 | @dK a kvs ea =>
   cases (show u = Value.ref a from rx)
   obtain ⟨_, _, vs, _, p⟩ := (show ObjOk X.prog X.w H s.heap a (.dK kvs) from I.hok a _ ea)
   obtain ⟨o, es, ep, h1, h2, _⟩ := p
   exact PySem.W.kia_one PySem.W.kitx_dict I.kIn ⟨o, h1, h2.1⟩ e (fun z => nomatch z) h
 | @dT a kvs ea =>
   cases (show u = Value.ref a from rx)
   obtain ⟨_, _, xs, _, o, es, ep, h1, h2, _⟩ := (show ObjOk X.prog X.w H s.heap a (.dT kvs) from I.hok a _ ea)
   exact PySem.W.kia_one PySem.W.kitx_dict I.kIn ⟨o, h1, h2.1⟩ e (fun z => nomatch z) h
 | @ins a C dx fs ea cl ha hn htk hm =>
   cases (show u = Value.ref a from rx)
   obtain ⟨mA, O, _⟩ := ins_get I.hok ea
   obtain ⟨od, J, _⟩ := O.look
   exact PySem.W.kia_one (PySem.W.kitx_own (cl.get _) cl.hd ha hn htk hm) I.kIn J e (fun z => nomatch z) h
end
structure Room (k : Nat) (A : Around) : Prop where
 hd : A.handled = none
 dp : A.depth + 3 * k + 5 < recursionLimit
 un : A.units + 16 * k + 200 < cLine
theorem Room.mono {j k : Nat} {A : Around} (r : Room k A) (h : j <= k) : Room j A := ⟨r.hd, by have := r.dp; omega, by have := r.un; omega⟩
theorem Room.deeper {k : Nat} {A : Around} (r : Room (k + 1) A) (env : Env) : Room k (A.deeper env) :=
 ⟨r.hd, by have := r.dp; show A.depth + 1 + 3 * k + 5 < _; omega, by have := r.un; show A.units + 3 + 16 * k + 200 < _; omega⟩
theorem Room.depth {k : Nat} {A : Around} (r : Room k A) : A.depth < recursionLimit := by have := r.dp; omega
theorem Room.units {k : Nat} {A : Around} (r : Room k A) : A.units + 64 < cLine := by have := r.un; omega
def tNil : TA := fun _ H Q => Q [] H
def tCons (ta : TE) (tr : TA) : TA := fun σ H Q => ta σ H fun x H1 => tr σ H1 fun xs H2 => Q (x :: xs) H2
section
variable {X : Cx} {e : Expr} {es : List Expr} {te : TE} {t : TA} {pos : Pos}
theorem pa_nil : PA X [] tNil := fun _ _ _ _ H Q I h => Calls.spliced_nil ⟨[], H, I, .nil, h⟩
theorem zA (ha : PE X e te) (hr : PA X es t) (hs : starEach (e :: es) X.env = (false, eval e X.env) :: starEach es X.env := by rfl) : PA X (e :: es) (tCons te t) := by
 intro pos pins s σ H Q I h
 rw [hs]
 show wpAny _ _ (spliced ((false, eval e X.env) :: backTo pos (starEach es X.env))) _ _ s
 refine Calls.spliced_cons (thn (ha pins s σ H _ I h) fun u s1 ⟨x, H1, I1, r1, q1⟩ => ?_)
 exact thn (hr pos pins s1 σ H1 _ I1 q1) fun us s2 ⟨xs, H2, I2, r2, q2⟩ => ⟨x :: xs, H2, I2, .cons r1 r2, q2⟩
def tTup (t : TA) : TE := fun σ H Q => t σ H fun xs H1 => xs.length <= sizeLine /\ ∀ p, H1 p = none -> Q (.ref p) (upd H1 p (.tup xs))
def tLst (t : TA) : TE := fun σ H Q => t σ H fun xs H1 => xs.length <= sizeLine /\ ∀ p, H1 p = none -> Q (.ref p) (upd H1 p (.lst xs))
theorem yC {x1} (h : PA X es t) : PE X (.Tuple es x1 pos) (tTup t) := by
 intro pins s σ H Q I hq
 refine wpAny_Tuple_spliced (thn (h pos pins s σ H _ I hq) fun us s1 ⟨xs, H1, I1, r, z, q⟩ => ⟨by rw [← r.length]; exact z, ?_⟩)
 have hf : H1 s1.heap.objs.size = none := I1.hok.fresh (Nat.le_refl _)
 refine ⟨.ref s1.heap.objs.size, upd H1 s1.heap.objs.size (.tup xs), I1.laid (t' := s1.toks) (fun b u e => Heap.get?_push_of_some _ e) (Nat.le_refl _) ?_, rfl, q _ hf⟩
 exact ⟨z, us, r, ⟨_, Heap.get?_push_size _ rfl, rfl, _, rfl⟩⟩
theorem yY (h : PA X es t) : PE X (.List es pos) (tLst t) := by
 intro pins s σ H Q I hq
 refine wpAny_List_spliced (thn (h pos pins s σ H _ I hq) fun us s1 ⟨xs, H1, I1, r, z, q⟩ => ⟨by rw [← r.length]; exact z, ?_⟩)
 have hf : H1 s1.heap.objs.size = none := I1.hok.fresh (Nat.le_refl _)
 refine ⟨.ref s1.heap.objs.size, upd H1 s1.heap.objs.size (.lst xs), I1.laid (t' := s1.toks) (fun b u e => Heap.get?_push_of_some _ e) (Nat.le_refl _) ?_, rfl, q _ hf⟩
 exact ⟨z, us, 0, r, Heap.get?_push_size _ rfl⟩
end
abbrev Sp := List V -> Hp -> VK -> XK -> Prop
abbrev CXT := List Env -> Hp -> Shared -> XK -> Value -> Shared -> Prop
structure Env0 (P : Program) (w : World) (K : PySem.W.Frag) (mg : Str -> Option Value) (base : Heap) (A : Around) (outer : List Env) (s : Shared) (H : Hp) : Prop where
 frames : A.frames = some outer
 mod : Mod K mg base
 bs : ∀ b o, base.get? b = some o -> s.heap.get? b = some o /\ H b = none
 bsz : base.objs.size <= s.heap.objs.size
 funs : s.heap.FunFrames base outer
 frf : ∀ b ∈ frs outer, H b = none
 hok : HOk P w H s.heap
 bare : AllBare s.gens
def CE (outer : List Env) (P : Program) (w : World) (H : Hp) (s : Shared) (Q : VK) (u : Value) (s' : Shared) : Prop :=
 ∃ v H', s'.os = s.os /\ AllBare s'.gens /\ Un (frs outer) [] H H' s.heap s'.heap /\ HOk P w H' s'.heap /\ RelV v u /\ Q v H'
def CR (CX : CXT) (outer : List Env) (P : Program) (w : World) (H : Hp) (s : Shared) (Q : VK) (E : XK) (r : Result) (s' : Shared) : Prop :=
 match r with
 | .ok (.ret u) => CE outer P w H s Q u s'
 | .ok _ => False
 | .error e => CX outer H s E e s'
structure FnOk (P : Program) (w : World) (K : PySem.W.Frag) (mg : Str -> Option Value) (base : Heap) (CX : CXT) (k : Nat) (f : Addr) (fd : FuncData) (ps : List Str) (sp : Sp) : Prop where
 len : ∀ vs H Q E, sp vs H Q E -> vs.length = ps.length
 run : ∀ (A : Around) (outer : List Env) (s : Shared) (H : Hp) (args : Args) (us : List Value) (vs : List V) (Q : VK) (E : XK), Room k A -> Env0 P w K mg base A outer s H -> BindsTo s fd args (ps.zip us) -> Vals vs us -> sp vs H Q E ->
   codeAny (model P w) A (.call (.ref f) args) (CR CX outer P w H s Q E) s
section
variable {X : Cx} {pins : List (Addr × Obj)} {σ : St} {H : Hp} {s s' : Shared}
theorem Inv.env0 (I : Inv X pins σ H s) : Env0 X.prog X.w X.K X.mg X.base X.A X.stack s H :=
 ⟨I.ok.frames, I.ok.mod, I.bs, Nat.le_trans I.ok.bsz I.sz, I.stack, I.stkFree, I.hok, I.bare⟩
theorem Inv.after {Q : VK} {u : Value} (I : Inv X pins σ H s) (h : CE X.stack X.prog X.w H s Q u s') : EP X pins σ Q u s' := by
 obtain ⟨v, H', os, bare, un, hok, r, q⟩ := h
 obtain ⟨hh, g, d, t, os'⟩ := s'
 obtain rfl : os' = s.os := os
 exact ⟨v, H', I.call (h' := hh) (g' := g) (d' := d) (t' := t) (ch := []) un hok bare (fun b z => absurd z (by simp)), r, q⟩
end
def tCall (sp : Sp) (dvs : List V) (E : XK) (t : TA) : TE := fun σ H Q => t σ H fun vs H1 => sp (vs ++ dvs) H1 Q E
def Binds (K : PySem.W.Frag) (fd : FuncData) (ps : List Str) (ds : List Value) : Prop :=
 ∀ (s : Shared) (us : List Value), K.In s.heap -> (us ++ ds).length = ps.length -> BindsTo s fd ⟨us, []⟩ (ps.zip (us ++ ds))
theorem Binds.all {K : PySem.W.Frag} {fd : FuncData} {ps : List Str} (h : ∀ us : List Value, us.length = ps.length -> bindArgs fd ⟨us, []⟩ = pure (ps.zip us)) : Binds K fd ps [] := fun s us _ hl => by
 rw [List.append_nil] at hl ⊢
 exact .of_eq (h us hl)
def Passes (CX : CXT) (X : Cx) (E : XK) : Prop := ∀ (pins : List (Addr × Obj)) (σ : St) (H : Hp) (s : Shared) (e : Value) (s' : Shared), Inv X pins σ H s -> CX X.stack H s E e s' -> X.xe e s'
section
variable {X : Cx} {CX : CXT} {k : Nat} {f C : Addr} {fd : FuncData} {ps : List Str} {sp : Sp} {dvs : List V} {ds : List Value} {E : XK} {x m : Str} {p pos apos : Pos} {e o : Expr} {es : List Expr} {ta : TE} {t : TA}
theorem run_fn {pins : List (Addr × Obj)} {σ : St} {H : Hp} {s : Shared} {Q : VK} {us : List Value} {vs : List V} (F : FnOk X.prog X.w X.K X.mg X.base CX k f fd ps sp) (hr : Room k X.A) (hb : Binds X.K fd ps ds) (hd : Vals dvs ds) (hx : Passes CX X E)
   (I : Inv X pins σ H s) (r : Vals vs us) (h : sp (vs ++ dvs) H Q E) : wpAny (model X.prog X.w) X.A (call (.ref f) us) (EP X pins σ Q) X.xe s := by
 have r2 : Vals (vs ++ dvs) (us ++ ds) := r.append hd
 have hl : (us ++ ds).length = ps.length := by rw [← r2.length]; exact F.len _ _ _ _ h
 refine wpAny_call (codeAny_mono (F.run X.A X.stack s H ⟨us, []⟩ (us ++ ds) (vs ++ dvs) Q E hr I.env0 (hb s us I.kIn hl) r2 h) fun r s' hq => ?_)
 cases r with
 | error e => exact hx pins σ H s e s' I hq
 | ok fl =>
   cases fl with
   | ret u => exact I.after hq
   | next => exact False.elim hq
   | brk => exact False.elim hq
   | cont => exact False.elim hq
theorem pe_call (F : FnOk X.prog X.w X.K X.mg X.base CX k f fd ps sp) (hr : Room k X.A) (hg : Gl X x) (hm : X.mg x = some (.ref f)) (hk : PySem.W.keepIn X.K (.ref f) = true) (hb : Binds X.K fd ps ds) (hd : Vals dvs ds) (hx : Passes CX X E)
   (ha : PA X (e :: es) t) (hdb : (x == ("__debug__" : Str)) = false := by decide) (he : starEach (e :: es) X.env = (false, eval e X.env) :: starEach es X.env := by rfl) (hpl : (backTo pos (starEach es X.env)).any (·.1) = false := by rfl) :
   PE X (.Call (.Name x p) (e :: es) [] pos) (tCall sp dvs E t) := by
 intro pins s σ H Q I h
 refine wpAny_Call_Name_kw (ld_glob I hg hm ?_ hdb)
 refine PySem.W.callWith_K (h₀ := X.base) I.ok.mod.kin hk (thn (ha pos pins s σ H _ I h) fun us s1 ⟨vs, H1, I1, r, q⟩ => ⟨I1.kIn, ?_⟩) he hpl
 exact run_fn F hr hb hd hx I1 r q
structure Mk (K : PySem.W.Frag) (C f : Addr) : Prop where
 makes : PySem.W.makesIn K C = true
 init : PySem.W.findIn K (.ref C) "__init__" = some (some (.ref f))
 fn : PySem.W.isFn K (.ref f) = true
 kp : PySem.W.keepIn K (.ref C) = true
end
section
variable {X : Cx} {CX : CXT} {k : Nat} {f C : Addr} {fd : FuncData} {ps ks : List Str} {sp : Sp} {E : XK} {x m : Str} {p pos apos kpos : Pos} {e o : Expr} {es : List Expr} {kws : List Keyword} {te ta : TE} {t tk : TA} {nm : Option Str}
structure KBinds (K : PySem.W.Frag) (fd : FuncData) (ps ks : List Str) (g : List Value -> List Value -> List Value) (gV : List V -> List V -> List V) : Prop where
 to : ∀ (s : Shared) (us ws : List Value), K.In s.heap -> (g us ws).length = ps.length -> BindsTo s fd ⟨us, ks.zip ws⟩ (ps.zip (g us ws))
 rel : ∀ {vs : List V} {us : List Value} {zs : List V} {ws : List Value}, Vals vs us -> Vals zs ws -> Vals (gV vs zs) (g us ws)
variable {g : List Value -> List Value -> List Value} {gV : List V -> List V -> List V}
end
structure FnScope (N P : List Str) (sc : Scope) : Prop where
 kind : sc.kind = .function
 co : sc.isCoroutine = false
 gen : sc.isGenerator = false
 nd : N.Nodup
 pre : N.take P.length = P
 par : ∀ x ∈ P, sc.names.lookup x = some .local \/ sc.names.lookup x = some .cell
 nofree : ∀ y ∈ sc.names, y.2 ≠ .free
theorem jR {kindOf : Str -> Option NameKind} {x : Str} : ∀ {binds : List (Str × Value)} {m : Str -> Option Value}, (∀ v, (x, v) ∉ binds) -> bindL kindOf binds m x = m x
 | [], _, _ => rfl
 | (n, v) :: r, m, h => by
   unfold bindL
   rw [jR fun w hw => h w (List.mem_cons_of_mem _ hw)]
   split
   · have : x ≠ n := by rintro rfl; exact h v List.mem_cons_self
     simp [this]
   · rfl
theorem jT {kindOf : Str -> Option NameKind} {x : Str} : ∀ {binds : List (Str × Value)} {m : Str -> Option Value}, (∀ v, (x, v) ∉ binds) -> bindC kindOf binds m x = m x
 | [], _, _ => rfl
 | (n, v) :: r, m, h => by
   unfold bindC
   rw [jT fun w hw => h w (List.mem_cons_of_mem _ hw)]
   split
   · rfl
   · have : x ≠ n := by rintro rfl; exact h v List.mem_cons_self
     simp [this]
theorem jS {kindOf : Str -> Option NameKind} {x : Str} {v : Value} : ∀ {P : List Str} {vs : List Value} {i : Nat} {m : Str -> Option Value}, P.Nodup -> P[i]? = some x -> vs[i]? = some v -> kindOf x = some .local ->
   bindL kindOf (P.zip vs) m x = some v
 | [], _, _, _, _, h, _, _ => by simp at h
 | _ :: _, [], _, _, _, _, h, _ => by simp at h
 | p :: P, w :: vs, 0, m, nd, h1, h2, hk => by
   simp at h1 h2; subst h1; subst h2
   show bindL kindOf ((p, w) :: P.zip vs) m p = _
   unfold bindL
   rw [jR fun v hv => (List.nodup_cons.mp nd).1 (List.of_mem_zip hv).1, if_pos hk]
   simp
 | p :: P, w :: vs, i + 1, m, nd, h1, h2, hk => by
   show bindL kindOf ((p, w) :: P.zip vs) m x = _
   unfold bindL
   exact jS (i := i) (List.nodup_cons.mp nd).2 (by simpa using h1) (by simpa using h2) hk
theorem jU {kindOf : Str -> Option NameKind} {x : Str} {v : Value} : ∀ {P : List Str} {vs : List Value} {i : Nat} {m : Str -> Option Value}, P.Nodup -> P[i]? = some x -> vs[i]? = some v -> kindOf x ≠ some .local ->
   bindC kindOf (P.zip vs) m x = some v
 | [], _, _, _, _, h, _, _ => by simp at h
 | _ :: _, [], _, _, _, _, h, _ => by simp at h
 | p :: P, w :: vs, 0, m, nd, h1, h2, hk => by
   simp at h1 h2; subst h1; subst h2
   show bindC kindOf ((p, w) :: P.zip vs) m p = _
   unfold bindC
   rw [jT fun v hv => (List.nodup_cons.mp nd).1 (List.of_mem_zip hv).1, if_neg hk]
   simp
 | p :: P, w :: vs, i + 1, m, nd, h1, h2, hk => by
   show bindC kindOf ((p, w) :: P.zip vs) m x = _
   unfold bindC
   exact jU (i := i) (List.nodup_cons.mp nd).2 (by simpa using h1) (by simpa using h2) hk
def start (N : List Str) (vs : List V) : St := vs.map some ++ List.replicate (N.length - vs.length) none
def jF (CX : CXT) (P : Program) (w : World) (K : PySem.W.Frag) (mg : Str -> Option Value) (base : Heap) (N : List Str) (qual : Str) (scope : Scope) (f : Addr) (cd : Value) (A : Around) (outer : List Env) (s : Shared) (H : Hp) (E : XK) : Cx where
 prog := P
 w := w
 K := K
 mg := mg
 base := base
 A := A.deeper (envOfC qual scope s.heap.objs.size f cd)
 N := N
 s₀ := s
 H₀ := H
 env := envOfC qual scope s.heap.objs.size f cd
 outer := outer
 stack := envOfC qual scope s.heap.objs.size f cd :: outer
 ex := []
 calm := true
 fn := fun _ => true
 pn := []
 xe := fun e s' => wpAny (model P w) (A.deeper (envOfC qual scope s.heap.objs.size f cd)) (leaving (envOfC qual scope s.heap.objs.size f cd) e) (fun _ s'' => CX outer H s E e s'') (fun e' s'' => CX outer H s E e' s'') s'
theorem cell_has {sc : Scope} {n : Nat} {x : Str} (h : sc.names.lookup x = some .cell) : ∃ c, (cellsFrom n sc.names []).lookup x = some c := by
 have q := PySem.W.cellsFrom_some sc.names n [] (.inl h)
 exact Option.isSome_iff_exists.mp q
theorem inv_start {CX : CXT} {P : Program} {w : World} {K : PySem.W.Frag} {mg : Str -> Option Value} {base : Heap} {N ps : List Str} {qual : Str} {scope : Scope} {f : Addr} {cd : Value} {A : Around} {outer : List Env} {s s1 : Shared} {H : Hp} {E : XK} {us : List Value} {vs : List V}
   (S : FnScope N ps scope) (hd : A.handled = none) (e0 : Env0 P w K mg base A outer s H) (hl : vs.length = ps.length) (r : Vals vs us)
   (x : InCallC s s.heap.objs.size (bindL (envOfC qual scope s.heap.objs.size f cd).kindOf (ps.zip us) fun _ => none) (cellsFrom (s.heap.objs.size + 1) scope.names []) (bindC (envOfC qual scope s.heap.objs.size f cd).kindOf (ps.zip us) fun _ => none) s1) :
   Inv (jF CX P w K mg base N qual scope f cd A outer s H E) [] (start N vs) H s1 := by
 have hpl : ps.length <= N.length := by have := congrArg List.length S.pre; rw [List.length_take] at this; omega
 obtain ⟨h1, tk, rfl, hk⟩ := x.done
 have noA : ∀ b : Addr, b ∉ (jF CX P w K mg base N qual scope f cd A outer s H E).ex := fun b z => absurd (show b ∈ ([] : List Addr) from z) (by simp)
 refine ⟨⟨e0.mod, S.kind, rfl, rfl, Nat.le_refl _, fun y z c h1 h2 => ?_, fun y hy => ?_, fun y c _ h => ?_, fun _ => hd, Around.frames_deeper e0.frames, .inr ⟨rfl, rfl⟩, fun b z => absurd z (noA b), e0.bs, e0.bsz, fun b _ _ => noA b, fun b z => absurd z (noA b), e0.funs, e0.frf⟩,
   rfl, e0.bare, Un.kept hk, ⟨_, x.toInCall.ns, fun i y v h1 h2 h3 => ?_⟩, fun y c h => ⟨_, x.cell y c h⟩, e0.hok.fresh (Nat.le_refl _), fun y c h => ?_, fun p hp => absurd (show p ∈ ([] : List (Addr × Obj)) from hp) (by simp), e0.hok.kept hk, ?_⟩
 · exact name_of_addr x.apart (PySem.mem_of_lookup h1) (PySem.mem_of_lookup h2)
 · have hy : scope.names.lookup y = some .cell \/ scope.names.lookup y = some .free := hy
   rcases hy with hy | hy
   · exact cell_has hy
   · exact absurd rfl (S.nofree _ (PySem.mem_of_lookup hy))
 · exact Nat.le_of_lt (x.above y c (PySem.mem_of_lookup h))
 · have hi : i < vs.length := by
     unfold start at h2
     by_cases hi : i < vs.length
     · exact hi
     · rw [List.getElem?_append_right (by simpa using hi)] at h2
       rw [List.getElem?_replicate] at h2
       split at h2 <;> cases h2
   have ha : vs[i]? = some v := by
     unfold start at h2
     rw [List.getElem?_append_left (by simpa using hi), List.getElem?_map] at h2
     cases e : vs[i]? with
     | none => rw [e] at h2; cases h2
     | some a => rw [e] at h2; cases h2; rfl
   obtain ⟨u, hu, rv⟩ := r.get ha
   have hp : ps[i]? = some y := by
     rw [← S.pre, List.getElem?_take_of_lt (by omega)]; exact h1
   have ndP : ps.Nodup := by rw [← S.pre]; exact S.nd.sublist (List.take_sublist _ _)
   refine ⟨u, rv, ?_⟩
   rcases S.par y (List.mem_of_getElem? hp) with k | k
   · exact .inl ⟨k, jS ndP hp hu k⟩
   · obtain ⟨c, e⟩ := cell_has (n := s.heap.objs.size + 1) k
     refine .inr ⟨.inl k, c, e, ?_⟩
     have q := x.cell y c e
     rw [jU ndP hp hu (by show scope.names.lookup y ≠ _; rw [k]; decide)] at q
     exact q
 · exact e0.hok.fresh (Nat.le_of_lt (x.above y c (PySem.mem_of_lookup h)))
 · unfold start
   show _ = N.length
   rw [List.length_append, List.length_map, List.length_replicate]
   omega
theorem fn_of {CX : CXT} {P : Program} {w : World} {K : PySem.W.Frag} {mg : Str -> Option Value} {base : Heap} {k : Nat} {f : Addr} {name qual : Str} {params : Arguments} {body : List Stmt} {scope : Scope} {dV kV doc pm cdv ct oc : Value} {an od : Option Addr}
   {osl : Array (Option Value)} {N ps : List Str} {sp : Sp} (lk : K.lookup f = some ⟨oc, od, .func (PySem.W.fnOf name qual params body scope dV kV doc pm an cdv ct), osl⟩) (hcd : PySem.W.codeIn K cdv qual = true) (S : FnScope N ps scope)
   (len : ∀ vs H Q E, sp vs H Q E -> vs.length = ps.length)
   (hbody : ∀ (A : Around) (outer : List Env) (s : Shared) (H : Hp) (vs : List V) (Q : VK) (E : XK), Room k (A.deeper (envOfC qual scope s.heap.objs.size f cdv)) -> sp vs H Q E ->
     ∃ t, PSs (jF CX P w K mg base N qual scope f cdv A outer s H E) body t /\ t { nx := fun _ H' => Q .non H', rt := Q } (start N vs) H) :
   FnOk P w K mg base CX (k + 1) f (PySem.W.fnOf name qual params body scope dV kV doc pm an cdv ct) ps sp := by
 refine ⟨len, fun A outer s H args us vs Q E hr e0 hb r hsp => ?_⟩
 have hl := len _ _ _ _ hsp
 have KX : K.In s.heap := e0.mod.kin.keeps fun b o e => (e0.bs b o e).1
 have lim : s.heap.NoLimit := e0.mod.nolimit.keeps fun b o e => (e0.bs b o e).1
 have hkind : ∀ y ∈ ps.zip us, scope.names.lookup y.1 = some .local \/ (scope.names.lookup y.1 = some .cell /\ ((cellsFrom (s.heap.objs.size + 1) scope.names []).lookup y.1).isSome = true) := fun ⟨n, v⟩ hy => by
   rcases S.par n (List.of_mem_zip hy).1 with q | q
   · exact .inl q
   · exact .inr ⟨q, PySem.W.cellsFrom_some _ _ _ (.inl q)⟩
 refine codeAny_call_function hr.depth (KX _ _ lk) rfl S.co S.gen rfl (PySem.W.codeRec_of KX hcd) (hb _ _ _ _ ?_)
 refine wpAny_newFunctionEnv_cells S.kind hkind fun env he s1 x => ?_
 subst he
 refine ⟨lim.keeps x.toInCall.keep, codeAny_func ?_⟩
 obtain ⟨t, ht, hq⟩ := hbody A outer s H vs Q E (hr.deeper _) hsp
 have I : Inv (jF CX P w K mg base N qual scope f cdv A outer s H E) [] (start N vs) H s1 := inv_start S hr.hd e0 hl r x
 refine wpAny_mono (ht [] s1 (start N vs) H _ I hq) (fun fl s' hs => ?_) fun e s' hs => hs
 have fin : ∀ {σ' : St} {H' : Hp} {v : V} {u : Value}, Inv (jF CX P w K mg base N qual scope f cdv A outer s H E) [] σ' H' s' -> RelV v u -> Q v H' -> CE outer P w H s Q u s' :=
   fun {σ' H' v u} J rv q => ⟨v, H', J.os, J.bare, J.base, J.hok, rv, q⟩
 cases fl with
 | ret u =>
   obtain ⟨v, σ', H', J, rv, q⟩ := hs
   exact fin J rv q
 | next =>
   obtain ⟨σ', H', J, q⟩ := hs
   exact fin (v := V.non) (u := Value.none) J rfl q
 | brk =>
   obtain ⟨_, _, _, q⟩ := hs
   exact False.elim q
 | cont =>
   obtain ⟨_, _, _, q⟩ := hs
   exact False.elim q
section
variable {X : Cx} {x : Str} {p pos : Pos} {e : Expr} {es : List Expr} {t : TA} {id T : String} {r : List V -> Hp -> VK -> Prop}
def tCB (r : List V -> Hp -> VK -> Prop) (t : TA) : TE := fun σ H Q => t σ H fun vs H1 => r vs H1 Q
theorem zM (hc : xQ X (.builtin id) r) (hg : Gl X x) (hm : X.mg x = none) (hv : bootBuiltins x = some (.builtin id)) (ha : PA X (e :: es) t) (hn : x ≠ "__name__" := by decide) (hdb : (x == ("__debug__" : Str)) = false := by decide)
   (he : starEach (e :: es) X.env = (false, eval e X.env) :: starEach es X.env := by rfl) (hpl : (backTo pos (starEach es X.env)).any (·.1) = false := by rfl) : PE X (.Call (.Name x p) (e :: es) [] pos) (tCB r t) := by
 intro pins s σ H Q I h
 refine wpAny_Call_Name_kw (xZ I hg hm hv ?_ hn hdb)
 exact PyProof.Rows.callWith_builtin1 (thn (ha pos pins s σ H _ I h) fun us s1 ⟨vs, H1, I1, r1, q1⟩ => hc pins s1 σ H1 vs us Q I1 r1 q1) he hpl
theorem jK (hc : xQ X (.type T) r) (hg : Gl X x) (hm : X.mg x = none) (hv : bootBuiltins x = some (.type T)) (ha : PA X (e :: es) t) (hn : x ≠ "__name__" := by decide) (hdb : (x == ("__debug__" : Str)) = false := by decide)
   (he : starEach (e :: es) X.env = (false, eval e X.env) :: starEach es X.env := by rfl) (hpl : (backTo pos (starEach es X.env)).any (·.1) = false := by rfl) : PE X (.Call (.Name x p) (e :: es) [] pos) (tCB r t) := by
 intro pins s σ H Q I h
 refine wpAny_Call_Name_kw (xZ I hg hm hv ?_ hn hdb)
 exact PyProof.Rows.callWith_type1 (thn (ha pos pins s σ H _ I h) fun us s1 ⟨vs, H1, I1, r1, q1⟩ => hc pins s1 σ H1 vs us Q I1 r1 q1) he hpl
end
end L2
namespace HT
open PySem PyProof.Rows
section
open PySem.SeqAt
open PySem.AutoSeq1 (wpAny_loadPart')
open PySem.MeetsSeq PySem.MeetsSeq2 PySem.MeetsSeq3
end
section
variable {prog : Program} {w : World} {A : Around} {E : Value -> Shared -> Prop} {s : Shared}
def sIx (n d : Nat) : Option Int -> Nat
 | none => d
 | some v => if v < 0 then (v + (n : Int)).toNat else min v.toNat n
theorem sIx_none (n d : Nat) : sIx n d none = d := rfl
theorem sIx_nat (n d k : Nat) : sIx n d (some (k : Int)) = min k n := by
 show (if (k : Int) < 0 then ((k : Int) + (n : Int)).toNat else min (k : Int).toNat n) = min k n
 rw [if_neg (by omega), Int.toNat_natCast]
end
end HT
namespace L2
open PySem PySem.Spec PyProof.Rows
abbrev TO := St -> Hp -> (Option Int -> Hp -> Prop) -> Prop
def PO (X : Cx) (e : Option Expr) (t : TO) : Prop :=
 ∀ (pins : List (Addr × Obj)) (s : Shared) (σ : St) (H : Hp) (Q : Option Int -> Hp -> Prop), Inv X pins σ H s -> t σ H Q ->
   wpAny (model X.prog X.w) X.A (evalPart e X.env) (fun u s' => ∃ o H', Inv X pins σ H' s' /\ IsPart u o /\ Q o H') X.xe s
def tNoPart : TO := fun _ H Q => Q none H
def tPart (t : TE) : TO := fun σ H Q => t σ H fun x H1 => ∃ i, x = .int i /\ Q (some i) H1
section
variable {X : Cx} {e : Expr} {te : TE} {lo hi : Option Expr} {tl th : TO} {pos p2 : Pos}
theorem po_none : PO X none tNoPart := by
 intro pins s σ H Q I h
 rw [evalPart_none]
 exact wpAny_pure ⟨none, H, I, .none, h⟩
theorem yS (h : PE X e te) : PO X (some e) (tPart te) := by
 intro pins s σ H Q I hw
 rw [evalPart_some]
 refine thn (h pins s σ H _ I hw) fun u s1 ⟨x, H1, I1, r1, q1⟩ => ?_
 obtain ⟨i, rfl, q⟩ := q1
 obtain ⟨t, rfl⟩ := r1
 exact ⟨some i, H1, I1, .int i t, q⟩
def SlR (X : Cx) (r : V -> Option Int -> Option Int -> Hp -> VK -> Prop) : Prop :=
 ∀ (pins : List (Addr × Obj)) (s : Shared) (σ : St) (H : Hp) (x : V) (v vl vu : Value) (lo hi : Option Int) (sl : Addr) (Q : VK), Inv X pins σ H s -> RelV x v -> s.heap.IsSliceOf sl vl vu .none -> IsPart vl lo -> IsPart vu hi -> r x lo hi H Q ->
   ∃ T id, typeLookup (.type T) "__getitem__" = pure (some (.builtin id)) /\ s.TypeIs v T /\ wpAny (model X.prog X.w) X.A (getItem v (.ref sl)) (EP X pins σ Q) X.xe s
def tSl (r : V -> Option Int -> Option Int -> Hp -> VK -> Prop) (te : TE) (tl th : TO) : TE := fun σ H Q => te σ H fun x H1 => tl σ H1 fun l H2 => th σ H2 fun u H3 => r x l u H3 Q
theorem yP {r : V -> Option Int -> Option Int -> Hp -> VK -> Prop} (hr : SlR X r) (he : PE X e te) (hl : PO X lo tl) (hu : PO X hi th) : PE X (.Subscript e (.Slice lo hi none p2) pos) (tSl r te tl th) := by
 intro pins s σ H Q I h
 refine Subscript_ (thn (he pins s σ H _ I h) fun v s1 ⟨x, H1, I1, r1, q1⟩ => ?_)
 refine wpAny_Slice (thn (hl pins s1 σ H1 _ I1 q1) fun vl s2 ⟨l, H2, I2, pl, q2⟩ => thn (hu pins s2 σ H2 _ I2 q2) fun vu s3 ⟨u, H3, I3, pu, q3⟩ => ?_)
 rw [evalPart_none]
 refine wpAny_pure ?_
 have I4 : Inv X pins σ H3 { s3 with heap := s3.heap.push { cls := .type "slice", data := .fields #[vl, vu, .none] } } := I3.kept (t' := s3.toks) fun b ob q => Heap.get?_push_of_some _ q
 obtain ⟨T, id, hT, ht, hg⟩ := hr pins { s3 with heap := s3.heap.push { cls := .type "slice", data := .fields #[vl, vu, .none] } } σ H3 x v vl vu l u s3.heap.objs.size Q I4 r1 (Heap.IsSliceOf.new ..) pl pu q3
 show wpAny (model X.prog X.w) X.A (subscriptTail e (.Slice lo hi none p2) v (.ref s3.heap.objs.size)) (EP X pins σ Q) X.xe { s3 with heap := s3.heap.push { cls := .type "slice", data := .fields #[vl, vu, .none] } }
 exact tail_any (ops := [.ref s3.heap.objs.size, v]) ht hT hg (by with_unfolding_all rfl)
def xL (xs : List V) (lo hi : Option Int) : List V := (xs.drop (HT.sIx xs.length 0 lo)).take (HT.sIx xs.length xs.length hi - HT.sIx xs.length 0 lo)
theorem cutV_length (xs : List V) (lo hi : Option Int) : (xL xs lo hi).length <= xs.length := by
 unfold xL
 rw [List.length_take, List.length_drop]
 omega
def rSlT (K : PySem.W.Frag) : V -> Option Int -> Option Int -> Hp -> VK -> Prop := fun x lo hi H Q => ∃ a xs, x = .ref a /\ SqT K H a xs /\
 ¬ (HT.sIx xs.length 0 lo = 0 /\ HT.sIx xs.length xs.length hi = xs.length) /\ ∀ p, H p = none -> Q (.ref p) (upd H p (.tup (xL xs lo hi)))
def rCatT (K : PySem.W.Frag) : R2 := fun x y H Q => ∃ a b xs ys, x = .ref a /\ y = .ref b /\ SqT K H a xs /\ SqT K H b ys /\ xs ≠ [] /\ xs.length + ys.length <= sizeLine /\
 (ys = [] -> Q (.ref a) H) /\ (ys ≠ [] -> ∀ p, H p = none -> Q (.ref p) (upd H p (.tup (xs ++ ys))))
end
def ixN (n : Nat) (i : Int) : Option Nat := if 0 <= i then (if i < n then some i.toNat else none) else if -(n : Int) <= i then some (i + n).toNat else none
def atI {α : Type} (xs : List α) (i : Int) : Option α := (ixN xs.length i).bind fun j => xs[j]?
theorem ixN_seq {n : Nat} {i : Int} {j : Nat} (h : ixN n i = some j) : seqIndex? i n = some j /\ j < n /\ -(n : Int) <= i /\ i < n := by
 unfold ixN at h
 by_cases h0 : 0 <= i
 · rw [if_pos h0] at h
   by_cases h1 : i < n
   · rw [if_pos h1] at h
     have e : i.toNat = j := Option.some.inj h
     exact ⟨by rw [seqIndex_of h0 h1, e], by omega, by omega, h1⟩
   · rw [if_neg h1] at h; cases h
 · rw [if_neg h0] at h
   by_cases h1 : -(n : Int) <= i
   · rw [if_pos h1] at h
     have e : (i + n).toNat = j := Option.some.inj h
     exact ⟨by rw [seqIndex_neg (by omega) h1, e], by omega, h1, by omega⟩
   · rw [if_neg h1] at h; cases h
theorem qI {α : Type} {xs : List α} {i : Int} {v : α} (h : atI xs i = some v) : ∃ j, seqIndex? i xs.length = some j /\ xs[j]? = some v /\ j < xs.length /\ -(xs.length : Int) <= i /\ i < xs.length := by
 unfold atI at h
 cases e : ixN xs.length i with
 | none => rw [e] at h; cases h
 | some j =>
   rw [e] at h
   obtain ⟨h1, h2, h3, h4⟩ := ixN_seq e
   exact ⟨j, h1, h, h2, h3, h4⟩
theorem yU {α : Type} {xs : List α} {j : Nat} {v : α} (h : xs[j]? = some v) : atI xs (j : Int) = some v := by
 have hj : j < xs.length := (List.getElem?_eq_some_iff.mp h).1
 have e : ixN xs.length (j : Int) = some j := by
   unfold ixN
   rw [if_pos (by omega), if_pos (by omega)]; simp
 unfold atI; rw [e]; exact h
def PlainIx (b : Expr) : Prop := ∀ o i, subscripted b false o i = operate [o, i] (getItem o i)
def IxR (X : Cx) (r : R2) : Prop :=
 ∀ (value slice : Expr) (pins : List (Addr × Obj)) (s : Shared) (σ : St) (H : Hp) (x y : V) (v u : Value) (Q : VK), Inv X pins σ H s -> RelV x v -> RelV y u -> r x y H Q ->
   subscripted slice false v u = operate [v, u] (getItem v u) -> wpAny (model X.prog X.w) X.A (subscriptTail value slice v u) (EP X pins σ Q) X.xe s
def MtR (X : Cx) (id : String) (r : V -> List V -> Hp -> VK -> Prop) : Prop :=
 ∀ (pins : List (Addr × Obj)) (s : Shared) (σ : St) (H : Hp) (x : V) (xs : List V) (v : Value) (us : List Value) (Q : VK), Inv X pins σ H s -> RelV x v -> Vals xs us -> r x xs H Q ->
   wpAny (model X.prog X.w) X.A (call (.builtin id) (v :: us)) (EP X pins σ Q) X.xe s
section
variable {X : Cx} {a b : Expr} {ta tb : TE} {pos : Pos}
theorem yA {r : R2} (hr : IxR X r) (ha : PE X a ta) (hb : PE X b tb) (hs : PlainIx b) : PE X (.Subscript a b pos) (tOp r ta tb) := by
 intro pins s σ H Q I h
 exact Subscript_ (binT ha hb I h fun v u s2 x y H2 I2 rx ry q => hr a b pins s2 σ H2 x y v u Q I2 rx ry q (hs _ _))
def rIxL (K : PySem.W.Frag) : R2 := fun x y H Q => ∃ p xs i v, x = .ref p /\ y = .int i /\ SqL K H p xs /\ atI xs i = some v /\ Q v H
def rIxT (K : PySem.W.Frag) : R2 := fun x y H Q => ∃ p xs i v, x = .ref p /\ y = .int i /\ SqT K H p xs /\ atI xs i = some v /\ Q v H
def rIxS : R2 := fun x y H Q => ∃ z i c, x = .str z /\ y = .int i /\ z.length <= sizeLine /\ atI z.cps.toList i = some c /\ Q (.str ⟨#[c]⟩) H
theorem ix_list : IxR X (rIxL X.K) := by
 intro value slice pins s σ H x y v u Q I rx ry h hs
 obtain ⟨p, xs, i, z, rfl, rfl, hq, he, q⟩ := h
 cases rx
 obtain ⟨t, rfl⟩ := ry
 obtain ⟨its, r, pl, hz⟩ := I.list hq
 obtain ⟨j, h1, h2, h3, h4, h5⟩ := qI he
 obtain ⟨w, ew, rw'⟩ := r.get h2
 have hl := r.length
 have hn := line63
 have fin : EP X pins σ Q w s := ⟨z, H, I, rw', q⟩
 by_cases h0 : 0 <= i
 · have hj : i.toNat = j := by
     rw [seqIndex_of h0 h5] at h1
     exact Option.some.inj h1
   exact item_listR pl.isList h0 (by omega) (by rw [hj]; simpa using ew) fin hs
 · have hj : (i + (its.toArray.size : Int)).toNat = j := by
     rw [seqIndex_neg (by omega) h4] at h1
     rw [List.size_toArray, ← hl]
     exact Option.some.inj h1
   exact subscriptTail_builtinR (x := w) pl.isList.typeIs slot_list_getitem.lookup
     (wpAny_getItem_list_neg (Q := fun r s' => r = w /\ EP X pins σ Q r s') pl.isList (by omega) (by rw [List.size_toArray] <;> omega) (by omega) (by rw [hj]; simpa using ew) ⟨rfl, fin⟩) hs
theorem ix_tup : IxR X (rIxT X.K) := by
 intro value slice pins s σ H x y v u Q I rx ry h hs
 obtain ⟨p, xs, i, z, rfl, rfl, hq, he, q⟩ := h
 cases rx
 obtain ⟨t, rfl⟩ := ry
 obtain ⟨its, r, pl, hz⟩ := I.tuple hq
 obtain ⟨j, h1, h2, h3, h4, h5⟩ := qI he
 obtain ⟨w, ew, rw'⟩ := r.get h2
 have hl := r.length
 have hn := line63
 have fin : EP X pins σ Q w s := ⟨z, H, I, rw', q⟩
 exact subscriptTail_builtinR (x := w) pl.typeIs slot_tuple_getitem.lookup
   (getItem_tuple (j := j) (Q := fun r s' => r = w /\ EP X pins σ Q r s') pl (by omega) (by omega) (by rw [List.size_toArray, ← hl]; exact h1) (by simpa using ew) ⟨rfl, fin⟩) hs
theorem ix_str : IxR X rIxS := by
 intro value slice pins s σ H x y v u Q I rx ry h hs
 obtain ⟨z, i, c, rfl, rfl, hz, he, q⟩ := h
 obtain ⟨t, rfl⟩ := rx
 obtain ⟨t', rfl⟩ := ry
 obtain ⟨j, h1, h2, h3, h4, h5⟩ := qI he
 have hl : z.cps.toList.length = z.length := by simp [Str.length]
 rw [hl] at h1 h4 h5
 have hn := line63
 exact tail_any (typeIs_str s z t) slot_str_getitem.lookup (getItem_str (c := c) (by
   have e1 : decide (i < -(2 ^ 63 : Int)) = false := decide_eq_false (by omega)
   have e2 : decide (i ≥ 2 ^ 63) = false := decide_eq_false (by omega)
   rw [e1, e2, Bool.or_false]) (by rw [h1]; simpa using h2) ⟨.str ⟨#[c]⟩, H, I.tok _, ⟨_, rfl⟩, q⟩) hs
theorem mapSeq_set (its : List Value) (n j : Nat) (u : Value) : Obj.mapSeq (·.setIfInBounds j u) { cls := .type "list", data := .seq its.toArray n } = { cls := .type "list", data := .seq (its.set j u).toArray n } := by
 simp [Obj.mapSeq]
theorem Inv.lst {pins : List (Addr × Obj)} {σ : St} {H : Hp} {s : Shared} {p : Addr} {xs : List V} (I : Inv X pins σ H s) (h : H p = some (.lst xs)) :
   ∃ (its : List Value) (n : Nat), Vals xs its /\ s.heap.get? p = some { cls := .type "list", data := .seq its.toArray n } /\ xs.length <= sizeLine := by
 obtain ⟨z, its, n, r, e⟩ := I.hok p _ h
 exact ⟨its, n, r, e, z⟩
theorem Inv.lstUpd {pins : List (Addr × Obj)} {σ : St} {H : Hp} {s : Shared} {p : Addr} {xs ys : List V} {its its' : List Value} {n n' : Nat} {f : Obj -> Obj} (I : Inv X pins σ H s) (h : H p = some (.lst xs))
   (ho : s.heap.get? p = some { cls := .type "list", data := .seq its.toArray n }) (hf : f { cls := .type "list", data := .seq its.toArray n } = { cls := .type "list", data := .seq its'.toArray n' }) (r : Vals ys its') (hz : ys.length <= sizeLine) (t : Nat) :
   Inv X pins σ (upd H p (.lst ys)) { s with heap := s.heap.update p f, toks := t } := by
 have e : (s.heap.update p f).get? p = some { cls := .type "list", data := .seq its'.toArray n' } := by
   rw [Heap.get?_update_self f ho (by rw [hf] <;> rfl), hf]
 refine I.write (x := p) (e := p) (by rw [h]; trivial) (.inl rfl) (fun b u hb q => (Heap.get?_update_other _ _ (Ne.symm hb)).trans q) ⟨_, e⟩ ?_
 exact ⟨hz, its', n', r, e⟩
def rSetL : V -> V -> V -> Hp -> (Hp -> Prop) -> Prop := fun o i v H Q => ∃ p xs k j, o = .ref p /\ i = .int k /\ H p = some (.lst xs) /\ ixN xs.length k = some j /\ Q (upd H p (.lst (xs.set j v)))
theorem set_list : PSet X rSetL := by
 intro pins s σ H o i v ov iv u Q I ro ri rv h
 obtain ⟨p, xs, k, j, rfl, rfl, hp, hj, q⟩ := h
 cases ro
 obtain ⟨t, rfl⟩ := ri
 obtain ⟨its, n, r, ho, hz⟩ := I.lst hp
 obtain ⟨h1, h2, h3, h4⟩ := ixN_seq hj
 have hl := r.length
 have hn := line63
 have I' : Inv X pins σ (upd H p (.lst (xs.set j v))) { s with heap := s.heap.update p (Obj.mapSeq (·.setIfInBounds j u)) } :=
   I.lstUpd hp ho (mapSeq_set its n j u) (r.set rv j) (by rw [List.length_set]; exact hz) s.toks
 by_cases h0 : 0 <= k
 · have hk : k.toNat = j := by
     rw [seqIndex_of h0 h4] at h1
     exact Option.some.inj h1
   exact PySem.W.ki_setAt ho h0 (by omega) (by rw [List.size_toArray, ← hl]; exact h4) (by rw [hk]; exact ⟨_, I', q⟩)
 · have hk : (k + (its.toArray.size : Int)).toNat = j := by
     rw [seqIndex_neg (by omega) h3] at h1
     rw [List.size_toArray, ← hl]
     exact Option.some.inj h1
   exact PySem.W.ki_setBack ho (by omega) (by rw [List.size_toArray, ← hl]; exact h3) (by omega) (by rw [hk]; exact ⟨_, I', q⟩)
theorem jV (lo hi : Option Int) (n : Nat) : (sliceBounds lo hi none n).1 = ((HT.sIx n 0 lo : Nat) : Int) /\ (sliceBounds lo hi none n).2.1 = ((HT.sIx n n hi : Nat) : Int) /\ (sliceBounds lo hi none n).2.2 = 1 := by
 refine ⟨?_, ?_, rfl⟩
 · cases lo with
   | none => simp [sliceBounds, HT.sIx]
   | some i =>
     simp only [sliceBounds, HT.sIx, Option.getD_none, show (1 : Int) > 0 by decide, if_true]
     by_cases h : i < 0
     · simp only [h, if_true] <;> omega
     · simp only [h, if_false] <;> omega
 · cases hi with
   | none => simp [sliceBounds, HT.sIx]
   | some i =>
     simp only [sliceBounds, HT.sIx, Option.getD_none, show (1 : Int) > 0 by decide, if_true]
     by_cases h : i < 0
     · simp only [h, if_true] <;> omega
     · simp only [h, if_false] <;> omega
theorem jE (its : List Value) (lo hi : Option Int) : slicePick its.toArray lo hi none = ((its.drop (HT.sIx its.length 0 lo)).take (HT.sIx its.length its.length hi - HT.sIx its.length 0 lo)).toArray := by
 obtain ⟨h1, h2, h3⟩ := jV lo hi its.toArray.size
 unfold slicePick
 rw [h1, h2, h3]
 simp only [sliceRange_one, pick_run, List.size_toArray] <;> rfl
def rSlL (K : PySem.W.Frag) : V -> Option Int -> Option Int -> Hp -> VK -> Prop := fun x lo hi H Q => ∃ a xs, x = .ref a /\ SqL K H a xs /\ ∀ p, H p = none -> Q (.ref p) (upd H p (.lst (xL xs lo hi)))
theorem sl_list : SlR X (rSlL X.K) := by
 intro pins s σ H x v vl vu lo hi sl Q I rx hs pl pu h
 obtain ⟨a, xs, rfl, hx, q⟩ := h
 cases rx
 obtain ⟨its, r, ht, hz⟩ := I.list hx
 have hlen := r.length
 refine ⟨"list", _, slot_list_getitem.lookup, ht.isList.typeIs, ?_⟩
 refine wpAny_getItem_list_slice ht.isList hs pl pu .none (by simp) ?_ (by rw [List.size_toArray] <;> omega)
 rw [jE, ← hlen]
 refine ⟨.ref s.heap.objs.size, _, I.laid (t' := s.toks) (o := .lst (xL xs lo hi)) (fun b ob q => Heap.get?_push_of_some _ q) (Nat.le_refl _) ?_, rfl, q _ (I.hok.fresh (Nat.le_refl _))⟩
 exact ⟨Nat.le_trans (cutV_length xs lo hi) hz, _, 0, (r.drop (HT.sIx xs.length 0 lo)).take (HT.sIx xs.length xs.length hi - HT.sIx xs.length 0 lo), Heap.get?_push_size _ rfl⟩
def flatV : V -> Bool
 | .non => true
 | .bl _ => true
 | .int _ => true
 | .str _ => true
 | _ => false
def eqV : V -> V -> Bool
 | .non, .non => true
 | .bl a, .bl b => a == b
 | .bl a, .int b => (if a then 1 else 0) == b
 | .int a, .bl b => a == (if b then 1 else 0)
 | .int a, .int b => a == b
 | .str a, .str b => a == b
 | _, _ => false
theorem eqAt_V {A : Around} {s : Shared} {y x : V} {u v : Value} (ry : RelV y u) (rx : RelV x v) (fy : flatV y = true) (fx : flatV x = true) : SeqAt.EqAt A s u v (eqV y x) := by
 cases y with
 | non =>
   cases ry
   cases x with
   | non => cases rx; exact SeqAt.EqAt.same _
   | bl b => cases rx; exact SeqAt.EqAt.none_bool b
   | int b => obtain ⟨t, rfl⟩ := rx; exact SeqAt.EqAt.none_int b t
   | str b => obtain ⟨t, rfl⟩ := rx; exact SeqAt.EqAt.none_str b t
   | _ => exact absurd (show false = true from fx) Bool.false_ne_true
 | bl a =>
   cases ry
   cases x with
   | non => cases rx; exact SeqAt.EqAt.bool_none a
   | bl b => cases rx; exact SeqAt.EqAt.bool_bool a b
   | int b => obtain ⟨t, rfl⟩ := rx; exact SeqAt.EqAt.bool_int a b t
   | str b => obtain ⟨t, rfl⟩ := rx; exact SeqAt.EqAt.bool_str a b t
   | _ => exact absurd (show false = true from fx) Bool.false_ne_true
 | int a =>
   obtain ⟨t', rfl⟩ := ry
   cases x with
   | non => cases rx; exact SeqAt.EqAt.int_none a t'
   | bl b => cases rx; exact SeqAt.EqAt.int_bool a t' b
   | int b => obtain ⟨t, rfl⟩ := rx; exact SeqAt.EqAt.int_int a t' b t
   | str b => obtain ⟨t, rfl⟩ := rx; exact SeqAt.EqAt.int_str a t' b t
   | _ => exact absurd (show false = true from fx) Bool.false_ne_true
 | str a =>
   obtain ⟨t', rfl⟩ := ry
   cases x with
   | non => cases rx; exact SeqAt.EqAt.str_none a t'
   | bl b => cases rx; exact SeqAt.EqAt.str_bool a t' b
   | int b => obtain ⟨t, rfl⟩ := rx; exact SeqAt.EqAt.str_int a t' b t
   | str b => obtain ⟨t, rfl⟩ := rx; exact SeqAt.EqAt.str_str a t' b t
   | _ => exact absurd (show false = true from fx) Bool.false_ne_true
 | _ => exact absurd (show false = true from fy) Bool.false_ne_true
def eqU (x : V) (u : Value) : Bool := match u with
 | .none => eqV .non x
 | .bool b => eqV (.bl b) x
 | .int i _ => eqV (.int i) x
 | .str z _ => eqV (.str z) x
 | _ => false
theorem eqU_of {x y : V} {u : Value} (r : RelV y u) (f : flatV y = true) : eqU x u = eqV y x := by
 cases y with
 | non => cases r; rfl
 | bl b => cases r; rfl
 | int i => obtain ⟨t, rfl⟩ := r; rfl
 | str z => obtain ⟨t, rfl⟩ := r; rfl
 | _ => exact absurd (show false = true from f) Bool.false_ne_true
theorem qJ {x : V} : ∀ {xs : List V} {us : List Value}, Vals xs us -> xs.all flatV = true -> us.any (eqU x) = xs.any fun y => eqV y x
 | _, _, .nil, _ => rfl
 | y :: xs, u :: us, .cons r t, f => by
   rw [List.all_cons, Bool.and_eq_true] at f
   rw [List.any_cons, List.any_cons, eqU_of r f.1, qJ t f.2]
theorem xX {A : Around} {s : Shared} {x : V} {v : Value} (rx : RelV x v) (fx : flatV x = true) : ∀ {xs : List V} {us : List Value}, Vals xs us -> xs.all flatV = true -> ∀ u ∈ us, SeqAt.EqAt A s u v (eqU x u)
 | _, _, .nil, _ => fun u hu => by cases hu
 | y :: xs, u :: us, .cons r t, f => fun u' hu => by
   rw [List.all_cons, Bool.and_eq_true] at f
   rcases List.mem_cons.mp hu with rfl | hu
   · rw [eqU_of r f.1]; exact eqAt_V r rx f.1 fx
   · exact xX rx fx t f.2 u' hu
def inV (x : V) (xs : List V) : Bool := xs.any fun y => eqV y x
def rIn (K : PySem.W.Frag) (neg : Bool) : R2 := fun x y H Q => ∃ p xs, y = .ref p /\ (SqL K H p xs \/ SqT K H p xs) /\ flatV x = true /\ xs.all flatV = true /\ Q (.bl (if neg then !inV x xs else inV x xs)) H
theorem op_in_seq : OpR X (compareOp .In) (rIn X.K false) := by
 intro pins s σ H x y v u Q I rx ry h
 obtain ⟨p, xs, rfl, hq, fx, fs, q⟩ := h
 cases ry
 rcases hq with hq | hq
 · obtain ⟨its, r, pl, hz⟩ := I.list hq
   refine SeqAt.in_listAt (eqU x) pl.isList (fun w hw => xX rx fx r fs w (by simpa using hw)) ⟨.bl _, H, I, rfl, ?_⟩
   rw [show its.toArray.any (eqU x) = its.any (eqU x) by simp, qJ r fs]
   exact q
 · obtain ⟨its, r, pl, hz⟩ := I.tuple hq
   refine SeqAt.in_tupleAt (eqU x) pl (fun w hw => xX rx fx r fs w (by simpa using hw)) ⟨.bl _, H, I, rfl, ?_⟩
   rw [show its.toArray.any (eqU x) = its.any (eqU x) by simp, qJ r fs]
   exact q
theorem call_list_of : xQ X (.type "list") (fun xs H Q => ∃ p ys, xs = [.ref p] /\ (SqL X.K H p ys \/ SqT X.K H p ys) /\ ∀ l, H l = none -> Q (.ref l) (upd H l (.lst ys))) := by
 intro pins s σ H xs us Q I r h
 obtain ⟨p, ys, rfl, hq, q⟩ := h
 obtain ⟨u, rfl, rx⟩ := vals1 r
 cases rx
 have fin : ∀ (its : List Value), Vals ys its -> ys.length <= sizeLine -> ∀ (h' : Heap) (c' : Nat), (∀ b o', s.heap.get? b = some o' -> h'.get? b = some o') ->
     h'.get? s.heap.objs.size = some { cls := .type "list", dict := none, data := .seq its.toArray c', slots := #[] } -> EP X pins σ Q (.ref s.heap.objs.size) { s with heap := h' } := fun its r' hz h' c' kp e =>
   ⟨.ref s.heap.objs.size, _, I.laid (t' := s.toks) kp (Nat.le_refl _) (show ObjOk X.prog X.w _ h' _ (.lst ys) from ⟨hz, its, c', r', e⟩), rfl, q _ (I.hok.fresh (Nat.le_refl _))⟩
 rcases hq with hq | hq
 · obtain ⟨its, r', pl, hz⟩ := I.list hq
   have hlen := r'.length
   obtain ⟨o, ho, hc, n, hd⟩ := pl.isList
   exact call_list_seq p (.inl rfl) ho hc hd (fun h' c' kp e => fin its r' hz h' c' kp e) (by simp only [List.size_toArray] <;> omega)
 · obtain ⟨its, r', pl, hz⟩ := I.tuple hq
   have hlen := r'.length
   obtain ⟨o, ho, hc, n, hd⟩ := pl
   exact call_list_seq p (.inr rfl) ho hc hd (fun h' c' kp e => fin its r' hz h' c' kp e) (by simp only [List.size_toArray] <;> omega)
def tyV (K : PySem.W.Frag) (T : String) (x : V) (H : Hp) : Prop := match x with
 | .str _ => T = "str"
 | .int _ => T = "int"
 | .ref p => (T = "list" /\ ∃ xs, SqL K H p xs) \/ (T = "tuple" /\ ∃ o, K.lookup p = some o /\ o.cls = .type "tuple" /\ o.dict = none) \/
     (T = "dict" /\ ((∃ kvs, H p = some (.dK kvs)) \/ ∃ kvs, H p = some (.dT kvs))) \/ (T = "set" /\ ∃ S n, H p = some (.set S n))
 | _ => False
theorem tyV_is {pins : List (Addr × Obj)} {σ : St} {H : Hp} {s : Shared} {T : String} {x : V} {v : Value} (I : Inv X pins σ H s) (r : RelV x v) (ty : tyV X.K T x H) :
   s.TypeIs v T /\ ∀ a, v = .ref a -> ∃ ob, s.heap.get? a = some ob /\ ob.dict = none := by
 cases x with
 | str z =>
   obtain ⟨t, rfl⟩ := r
   cases (show T = "str" from ty)
   exact ⟨typeIs_str s z t, fun _ e => nomatch e⟩
 | int i =>
   obtain ⟨t, rfl⟩ := r
   cases (show T = "int" from ty)
   exact ⟨typeIs_int s i t, fun _ e => nomatch e⟩
 | ref p =>
   cases r
   rcases ty with ⟨rfl, xs, hq⟩ | ⟨rfl, o, hk, hc, hd⟩ | ⟨rfl, hk⟩ | ⟨rfl, S, n, hk⟩
   · obtain ⟨its, _, pl, _⟩ := I.list hq
     refine ⟨pl.isList.typeIs, fun a e => ?_⟩
     cases e
     obtain ⟨o, n, e, c, hd, _⟩ := pl
     exact ⟨o, e, hd⟩
   · refine ⟨⟨o, I.kIn p o hk, hc⟩, fun a e => ?_⟩
     cases e
     exact ⟨o, I.kIn _ o hk, hd⟩
   · have z : ∃ o, s.heap.get? p = some o /\ o.ExactDict := by
       rcases hk with ⟨kvs, hk⟩ | ⟨kvs, hk⟩
       · obtain ⟨_, _, _, _, o, _, _, e, ex, _⟩ := I.hok p _ hk
         exact ⟨o, e, ex⟩
       · obtain ⟨_, _, _, _, o, _, _, e, ex, _⟩ := I.hok p _ hk
         exact ⟨o, e, ex⟩
     obtain ⟨o, e, ex⟩ := z
     refine ⟨⟨o, e, ex.1⟩, fun a e2 => ?_⟩
     cases e2
     exact ⟨o, e, ex.2.1⟩
   · obtain ⟨o, _, _, _, e, ex, _⟩ := I.hok p _ hk
     refine ⟨⟨o, e, ex.1⟩, fun a e2 => ?_⟩
     cases e2
     exact ⟨o, e, ex.2.1⟩
 | _ => exact False.elim ty
def tBM0 (K : PySem.W.Frag) (T : String) (r : V -> List V -> Hp -> VK -> Prop) (to : TE) : TE := fun σ H Q => to σ H fun x H1 => tyV K T x H1 /\ r x [] H1 Q
def tBM (K : PySem.W.Frag) (T : String) (r : V -> List V -> Hp -> VK -> Prop) (to : TE) (t : TA) : TE := fun σ H Q => to σ H fun x H1 => tyV K T x H1 /\ t σ H1 fun xs H2 => r x xs H2 Q
variable {o e : Expr} {es : List Expr} {to : TE} {t : TA} {name : Str} {apos cpos : Pos} {T id : String} {r : V -> List V -> Hp -> VK -> Prop}
theorem pe_bm (pa : PlainAttrs T) (slot : Slot T name id) (hty : typeOf (.builtin id) = pure (.type "method_descriptor")) (hm : MtR X id r) (ho : PE X o to) (ha : PA X (e :: es) t)
   (hbase : attributeBase o name X.env (eval o X.env) = eval o X.env := by rfl)
   (hfew : ((backTo cpos (starEach (e :: es) X.env)).all (fun x => !x.1) && (backToKw cpos (keywordEach [] X.env)).all (fun x => x.1.isSome)
     && decide ((e :: es).length + ([] : List Keyword).length + (if ([] : List Keyword).isEmpty then 0 else 1) < 30)) = true := by rfl)
   (hline : (apos.endLine == cpos.line) = true := by rfl) (hs : starEach (e :: es) X.env = (false, eval e X.env) :: starEach es X.env := by rfl) (hplain : (backTo cpos (starEach es X.env)).any (·.1) = false := by rfl) :
   PE X (.Call (.Attribute o name apos) (e :: es) [] cpos) (tBM X.K T r to t) := by
 intro pins s σ H Q I h
 refine wpAny_Call_method_late hbase hfew hline rfl (thn (ho pins s σ H _ I h) fun v s1 ⟨x, H1, I1, r1, ty, q1⟩ => ?_)
 obtain ⟨h1, h2⟩ := tyV_is I1 r1 ty
 refine ⟨T, id, pa, slot, hty, h1, h2, ?_⟩
 have hA := ha cpos pins s1 σ H1 _ I1 q1
 rw [hs] at hA ⊢
 refine Calls.callWith_builtin (by show (false || (backTo cpos (starEach es X.env)).any (·.1)) = false; rw [hplain] <;> rfl) (Calls.evalArgs_plain ?_)
 exact thn hA fun us s2 ⟨vs, H2, I2, r2, q2⟩ => hm pins s2 σ H2 x vs v us Q I2 r1 r2 q2
end
def MtM (X : Cx) (id : String) (r : V -> List V -> Hp -> VK -> Prop) : Prop :=
 ∀ (pins : List (Addr × Obj)) (s : Shared) (σ : St) (H : Hp) (x : V) (xs : List V) (v : Value) (us : List Value) (Q : VK), Inv X pins σ H s -> RelV x v -> Vals xs us -> r x xs H Q ->
   wpAny (model X.prog X.w) X.A (call (.builtin id) (v :: us)) (EP X pins σ Q) X.xe s
theorem Vals.one : ∀ {x : V} {us : List Value}, Vals [x] us -> ∃ u, us = [u] /\ RelV x u
 | _, _, .cons r .nil => ⟨_, rfl, r⟩
theorem Vals.dropLast {xs : List V} {us : List Value} (h : Vals xs us) : Vals xs.dropLast us.dropLast := by
 induction h with
 | nil => exact .nil
 | cons r t ih =>
   cases t with
   | nil => exact .nil
   | cons q t' => exact .cons r ih
section
variable {X : Cx} {pins : List (Addr × Obj)} {σ : St} {H : Hp} {s : Shared} {l b : Addr} {xs ys zs : List V}
theorem Inv.lset {its its' : List Value} {n : Nat} {f : Array Value -> Array Value} {t' : Nat} (I : Inv X pins σ H s) (hH : H l = some (.lst xs))
   (e : s.heap.get? l = some { cls := .type "list", data := .seq its.toArray n }) (hf : f its.toArray = its'.toArray) (hv : Vals ys its') (hz : ys.length <= sizeLine) :
   Inv X pins σ (upd H l (.lst ys)) { s with heap := s.heap.update l (Obj.mapSeq f), toks := t' } := by
 have q := PySem.IsL.update e f
 rw [hf] at q
 refine I.write (x := l) (e := l) (by rw [hH]; exact trivial) (.inl rfl) (fun b' u hb hu => (Heap.get?_update_other s.heap (Obj.mapSeq f) (Ne.symm hb)).trans hu) ⟨_, q⟩ ?_
 exact ⟨hz, its', _, hv, q⟩
theorem Inv.lnew {its : List Value} {t' : Nat} (I : Inv X pins σ H s) (hv : Vals ys its) (hz : ys.length <= sizeLine) :
   Inv X pins σ (upd H s.heap.objs.size (.lst ys)) { s with heap := s.heap.push { cls := .type "list", data := .seq its.toArray }, toks := t' } :=
 I.laid (fun _ _ q => Heap.get?_push_of_some _ q) (Nat.le_refl _) ⟨hz, its, 0, hv, Heap.get?_push_size _ rfl⟩
theorem Inv.fresh (I : Inv X pins σ H s) : H s.heap.objs.size = none := I.hok.fresh (Nat.le_refl _)
theorem Inv.lstM (I : Inv X pins σ H s) (hH : H l = some (.lst xs)) : xs.length <= sizeLine /\ ∃ (its : List Value) (n : Nat), Vals xs its /\ xs.length = its.length /\ s.heap.get? l = some { cls := .type "list", data := .seq its.toArray n } := by
 obtain ⟨z, its, n, r, e⟩ := I.hok l _ hH
 exact ⟨z, its, n, r, r.length, e⟩
end
section
variable {X : Cx}
def rAppend : V -> List V -> Hp -> VK -> Prop := fun x vs H Q => ∃ l xs y, x = .ref l /\ vs = [y] /\ H l = some (.lst xs) /\ xs.length < sizeLine /\ Q .non (upd H l (.lst (xs ++ [y])))
theorem mt_append : MtM X "list.append" rAppend := by
 intro pins s σ H x vs v us Q I rx rv h
 obtain ⟨l, xs, y, rfl, rfl, hH, hz, q⟩ := h
 cases rx
 obtain ⟨u, rfl, ru⟩ := rv.one
 obtain ⟨z, its, n, r, hl, e⟩ := I.lstM hH
 refine call_meets F.slot_list_append ⟨_, e, rfl⟩ F.entry_list_append (F.args_list_append_2 _ _) (PySem.list_append l its.toArray n u (by rw [List.size_toArray]; omega)) ⟨e, ?_⟩
 refine ⟨.non, _, I.lset (its' := its ++ [u]) hH e (by simp) (r.append (.cons ru .nil)) ?_, rfl, q⟩
 rw [List.length_append, List.length_singleton]
 omega
def rPop : V -> List V -> Hp -> VK -> Prop := fun x vs H Q => ∃ l xs y, x = .ref l /\ vs = [] /\ H l = some (.lst xs) /\ xs[xs.length - 1]? = some y /\ Q y (upd H l (.lst xs.dropLast))
def rCat : R2 := fun x y H Q => ∃ l b xs zs, x = .ref l /\ y = .ref b /\ H l = some (.lst xs) /\ H b = some (.lst zs) /\ xs.length + zs.length <= sizeLine /\ ∀ p, H p = none -> Q (.ref p) (upd H p (.lst (xs ++ zs)))
theorem op_cat : OpR X (binaryOp .Add) rCat := by
 intro pins s σ H x y v u Q I rx ry h
 obtain ⟨l, b, xs, zs, rfl, rfl, hH, hB, hz, q⟩ := h
 cases rx
 cases ry
 obtain ⟨z, its, n, r, hl, e⟩ := I.lstM hH
 obtain ⟨z2, its2, n2, r2, hl2, e2⟩ := I.lstM hB
 refine PySem.P.add_list e e2 ?_ (by rw [List.size_toArray, List.size_toArray]; omega)
 have ea : its.toArray ++ its2.toArray = (its ++ its2).toArray := by simp
 rw [ea]
 exact ⟨.ref _, _, I.lnew (t' := s.toks) (r.append r2) (by rw [List.length_append]; omega), rfl, q _ I.fresh⟩
end
section
variable {prog : Program} {w : World} {A : Around} {E : Value -> Shared -> Prop} {s : Shared}
end
section
variable {X : Cx}
end
section
variable {κ : Type} [DecidableEq κ]
def xR (kvs : List (κ × V)) (k : κ) : Option V := (kvs.find? fun kv => decide (kv.1 = k)).map (·.2)
def putK (kvs : List (κ × V)) (k : κ) (v : V) : List (κ × V) :=
 if (kvs.any fun kv => decide (kv.1 = k)) = true then kvs.map (fun kv => if kv.1 = k then (kv.1, v) else kv) else kvs ++ [(k, v)]
theorem valV_pos {p : κ × V} {r : List (κ × V)} {k : κ} (e : p.1 = k) : xR (p :: r) k = some p.2 := by simp [xR, List.find?_cons, e]
theorem valV_neg {p : κ × V} {r : List (κ × V)} {k : κ} (e : ¬ p.1 = k) : xR (p :: r) k = xR r k := by simp [xR, List.find?_cons, e]
theorem KV.val {kvs : List (κ × V)} {vs : List (κ × Value)} (r : KV kvs vs) (k : κ) : RelO (xR kvs k) (valueAt vs k) := by
 unfold KV at r
 induction r with
 | nil => exact True.intro
 | @cons p q ps qs h t ih =>
   obtain ⟨h1, h2⟩ := h
   by_cases e : p.1 = k
   · have e' : q.1 = k := h1.symm.trans e
     have b : valueAt (q :: qs) k = some q.2 := by simp [valueAt, List.find?_cons, e']
     rw [valV_pos e, b]; exact h2
   · have e' : ¬ q.1 = k := fun z => e (h1.trans z)
     have b : valueAt (q :: qs) k = valueAt qs k := by simp [valueAt, List.find?_cons, e']
     rw [valV_neg e, b]; exact ih
theorem KV.any {kvs : List (κ × V)} {vs : List (κ × Value)} (r : KV kvs vs) (k : κ) : (kvs.any fun kv => decide (kv.1 = k)) = vs.any fun kv => decide (kv.1 = k) := by
 unfold KV at r
 induction r with
 | nil => rfl
 | cons h t ih => rw [List.any_cons, List.any_cons, ih, h.1]
theorem KV.keys {kvs : List (κ × V)} {vs : List (κ × Value)} (r : KV kvs vs) : kvs.map (·.1) = vs.map (·.1) := by
 unfold KV at r
 induction r with
 | nil => rfl
 | cons h t ih => rw [List.map_cons, List.map_cons, ih, h.1]
theorem KV.length {kvs : List (κ × V)} {vs : List (κ × Value)} (r : KV kvs vs) : kvs.length = vs.length := Paired.length r
end
theorem kV_is {P : Program} {w : World} {k : Key} {u : Value} (r : RelV (kV k) u) : (zZ P w).is k u = true := by
 cases k with
 | inl i => obtain ⟨t, e⟩ := (show ∃ t, u = Value.int i t from r); subst e; exact mixKind_int P w i t
 | inr x => obtain ⟨t, e⟩ := (show ∃ t, u = Value.str x t from r); subst e; exact xO P w x t
theorem jO {P : Program} {w : World} : ∀ {ks : List Key} {us : List Value}, Vals (ks.map kV) us -> ItemsAre (zZ P w) ks us
 | [], _, r => by rw [List.map_nil] at r; cases r; exact .nil
 | k :: ks, _, r => by
   rw [List.map_cons] at r
   cases r with
   | cons h t => exact .cons (kV_is h) (jO t)
abbrev KT (H : Hp) : List (List Key × V) -> List (List Key × Addr × Value) -> Prop := Paired fun p q => p.1 = q.1 /\ H q.2.1 = some (.tup (p.1.map kV)) /\ RelV p.2 q.2.2
theorem KT.val {H : Hp} {kvs : List (List Key × V)} {xs : List (List Key × Addr × Value)} (r : KT H kvs xs) (k : List Key) : RelO (xR kvs k) ((atKey xs k).map (·.2)) := by
 induction r with
 | nil => exact True.intro
 | @cons p q ps qs h t ih =>
   obtain ⟨h1, _, h2⟩ := h
   by_cases e : p.1 = k
   · have e' : q.1 = k := h1.symm.trans e
     have b : atKey (q :: qs) k = some q.2 := by simp [atKey, List.find?_cons, e']
     rw [valV_pos e, b]; exact h2
   · have e' : ¬ q.1 = k := fun z => e (h1.trans z)
     have b : atKey (q :: qs) k = atKey qs k := by simp [atKey, List.find?_cons, e']
     rw [valV_neg e, b]; exact ih
section
variable {P : Program} {w : World} {H : Hp} {h : Heap} {a : Addr}
theorem key_of {ks : List Key} (ok : HOk P w H h) (e : H a = some (.tup (ks.map kV))) : (tupleKind (zZ P w)).is h ks a := by
 obtain ⟨_, its, r, o, h1, h2, n, h3⟩ := (show ObjOk P w H h a (.tup (ks.map kV)) from ok a _ e)
 exact ⟨o, its.toArray, n, h1, h2, h3, by simpa using jO r⟩
end
def DGet (H : Hp) (a : Addr) (y : V) (r : Option V) : Prop :=
 (∃ kvs k, Rd H a (.dK kvs) /\ y = kV k /\ r = xR kvs k) \/ ∃ kvs k b, Rd H a (.dT kvs) /\ y = .ref b /\ H b = some (.tup (k.map kV)) /\ r = xR kvs k
def DPut (H : Hp) (a : Addr) (y v : V) (H' : Hp) : Prop :=
 (∃ kvs k, H a = some (.dK kvs) /\ y = kV k /\ kvs.length < sizeLine /\ H' = upd H a (.dK (putK kvs k v))) \/
 ∃ kvs k b, H a = some (.dT kvs) /\ y = .ref b /\ H b = some (.tup (k.map kV)) /\ kvs.length < sizeLine /\ H' = upd H a (.dT (putK kvs k v))
theorem DGet.k {H : Hp} {a : Addr} {kvs : List (Key × V)} {k : Key} (e : H a = some (.dK kvs)) : DGet H a (kV k) (xR kvs k) := .inl ⟨kvs, k, .inl e, rfl, rfl⟩
theorem DGet.t {H : Hp} {a b : Addr} {kvs : List (List Key × V)} {k : List Key} (e : H a = some (.dT kvs)) (eb : H b = some (.tup (k.map kV))) : DGet H a (.ref b) (xR kvs k) := .inr ⟨kvs, k, b, .inl e, rfl, eb, rfl⟩
theorem DPut.k {H : Hp} {a : Addr} {kvs : List (Key × V)} {k : Key} {v : V} (e : H a = some (.dK kvs)) (hl : kvs.length < sizeLine) : DPut H a (kV k) v (upd H a (.dK (putK kvs k v))) := .inl ⟨kvs, k, e, rfl, hl, rfl⟩
theorem DPut.t {H : Hp} {a b : Addr} {kvs : List (List Key × V)} {k : List Key} {v : V} (e : H a = some (.dT kvs)) (eb : H b = some (.tup (k.map kV))) (hl : kvs.length < sizeLine) :
   DPut H a (.ref b) v (upd H a (.dT (putK kvs k v))) := .inr ⟨kvs, k, b, e, rfl, eb, hl, rfl⟩
section
variable {X : Cx} {pins : List (Addr × Obj)} {σ : St} {H : Hp} {s : Shared} {a : Addr} {y v : V} {u r : Value} {o : Option V} {A : Around} {E : Value -> Shared -> Prop}
end
section
variable {X : Cx} {pins : List (Addr × Obj)} {σ : St} {H : Hp} {s : Shared} {a : Addr} {kvs : List (Key × V)} {k : Key} {u : Value} {A : Around} {E : Value -> Shared -> Prop}
end
def tDGet (td ty : TE) : TE := fun σ H Q => td σ H fun x H1 => ty σ H1 fun y H2 => ∃ a v, x = .ref a /\ DGet H2 a y (some v) /\ Q v H2
section
variable {X : Cx} {o i e value : Expr} {pos pos' tpos : Pos} {td ty tv : TE}
end
def tDNewK : TE := fun _ H Q => ∀ p, H p = none -> Q (.ref p) (upd H p (.dK []))
section
variable {X : Cx} {pos : Pos}
end
def tPairs : List (TE × TE) -> St -> Hp -> (List (V × V) -> Hp -> Prop) -> Prop
 | [], _, H, Q => Q [] H
 | (tk, tv) :: r, σ, H, Q => tk σ H fun x H1 => tv σ H1 fun y H2 => tPairs r σ H2 fun ps H3 => Q ((x, y) :: ps) H3
abbrev VV : List (V × V) -> List (Value × Value) -> Prop := Paired fun p q => RelV p.1 q.1 /\ RelV p.2 q.2
def PPs (X : Cx) (pos : Pos) (keys : List (Option Expr)) (values : List Expr) (trs : List (TE × TE)) : Prop :=
 ∀ (pins : List (Addr × Obj)) (s : Shared) (σ : St) (H : Hp) (Q : List (V × V) -> Hp -> Prop), Inv X pins σ H s -> tPairs trs σ H Q ->
   wpAny (model X.prog X.w) X.A (evalPairs (pairTrees keys values X.env pos)) (fun vs s' => ∃ ps H', Inv X pins σ H' s' /\ VV ps vs /\ Q ps H') X.xe s
def mergeK (kvs more : List (Key × V)) : List (Key × V) := more.foldl (fun acc kv => putK acc kv.1 kv.2) kvs
def tDisp (trs : List (TE × TE)) : TE := fun σ H Q => ∀ p, H p = none -> tPairs trs σ (upd H p (.dK [])) fun ps H2 => H2 p = some (.dK []) /\ ∃ kvs : List (Key × V), ps = kvs.map (fun kv => (kV kv.1, kv.2)) /\ kvs.length <= 15 /\ Q (.ref p) (upd H2 p (.dK (mergeK [] kvs)))
structure M1 (X : Cx) (o : Expr) (m : Str) (apos : Pos) (e : Expr) (cpos : Pos) : Prop where
 base : attributeBase o m X.env (eval o X.env) = eval o X.env
 few : ((backTo cpos (starEach [e] X.env)).all (fun x => !x.1) && (backToKw cpos (keywordEach [] X.env)).all (fun x => x.1.isSome)
   && decide (([e] : List Expr).length + ([] : List Keyword).length + (if ([] : List Keyword).isEmpty then 0 else 1) < 30)) = true
 line : (apos.endLine == cpos.line) = true
 trees : backTo cpos (starEach [e] X.env) = [(false, eval e X.env)]
structure M2 (X : Cx) (o : Expr) (m : Str) (apos : Pos) (e f : Expr) (cpos : Pos) : Prop where
 base : attributeBase o m X.env (eval o X.env) = eval o X.env
 few : ((backTo cpos (starEach [e, f] X.env)).all (fun x => !x.1) && (backToKw cpos (keywordEach [] X.env)).all (fun x => x.1.isSome)
   && decide (([e, f] : List Expr).length + ([] : List Keyword).length + (if ([] : List Keyword).isEmpty then 0 else 1) < 30)) = true
 line : (apos.endLine == cpos.line) = true
 trees : backTo cpos (starEach [e, f] X.env) = [(false, eval e X.env), (false, eval f X.env)]
section
variable {X : Cx} {pins : List (Addr × Obj)} {σ : St} {H : Hp} {s : Shared} {a : Addr} {y d : V} {u r : Value} {o : Option V} {A : Around} {E : Value -> Shared -> Prop}
end
section
variable {X : Cx} {o e f : Expr} {apos cpos : Pos} {td ty tx : TE}
end
section
variable {X : Cx} {pins : List (Addr × Obj)} {σ : St} {H : Hp} {s : Shared} {a : Addr} {kvs : List (Key × V)} {A : Around} {E : Value -> Shared -> Prop}
end
section
variable {X : Cx} {pins : List (Addr × Obj)} {σ : St} {H : Hp} {s : Shared} {a : Addr} {y : V} {u : Value} {A : Around} {E : Value -> Shared -> Prop}
end
end L2
namespace Att
open PySem PySem.W PySem.Calls PyProof.Rows
theorem xS {P : Params} {h : Heap} : ∀ (ns : List Int) (vs : List Value), WellAll P h vs (ns.map WData.int) -> IntsAre vs ns := by
 intro ns
 induction ns with
 | nil =>
   intro vs w
   rw [List.map_nil] at w
   cases w
   exact .nil
 | cons n ns ih =>
   intro vs w
   rw [List.map_cons] at w
   cases w with
   | cons a b =>
     cases a
     exact .cons _ _ (ih _ b)
theorem script_of {l : OpenLaw} {n : Nat} (hn : l.most = some n) {P : Params} {h : Heap} {args : List WData} {vals : List Value}
   (hpre : l.row.toRowW.claim.pre args = true) (hwl : WellAll P h vals args) :
   ∃ a vs ns, vals = [Value.ref a] /\ args = [WData.list (ns.map WData.int)] /\ h.get? a = some { cls := .type "list", data := .seq vs.toArray } /\ IntsAre vs ns /\ ns.length <= n := by
 have hsh : WShape.hasAll [] args [.list .int] = true := (pre_splitW hpre).1
 have hc : l.pre.holds [] { args := args } = true := (pre_splitW hpre).2
 obtain ⟨d, r, rfl, h1, h2⟩ := hasAllW_cons hsh
 obtain rfl := hasAllW_nil h2
 obtain ⟨xs, rfl, h3⟩ := hasW_list h1
 obtain ⟨ns, rfl⟩ := items_int h3
 have hlen : ns.length <= n := by
   unfold OpenLaw.pre at hc
   have h4 : (WTm.not (.lt (.lit (.int (n : Int))) (.len (.arg 0)))).holds [] { args := [.list (ns.map .int)] } = true := by
     have h4 := (holds_andW hc).1
     rw [hn] at h4
     exact h4
   have h5 := condW_of h4 (w_not (w_lt w_lit (w_len_list (w_arg rfl))))
   rw [List.length_map] at h5
   refine Nat.le_of_not_lt fun q => ?_
   have q' : (n : Int) < ((ns.length : Nat) : Int) := by omega
   first
     | (rw [decide_eq_true q'] at h5; exact absurd h5 (by decide))
     | (simp at h5; omega)
 cases hwl with
 | cons w1 w2 =>
   cases w2
   cases w1 with
   | list ho hall => exact ⟨_, _, ns, rfl, rfl, ho, xS ns _ hall, hlen⟩
theorem post_true (l : OpenLaw) (args : List WData) : l.row.toRowW.claim.post args (.bool true) args = true :=
 postW_of (r := l.row.toRowW) (X := (true == true))
   (show WShape.has [] (.bool true) .bool = true by first | rfl | decide | simp [WShape.has, WShape.arms, WShape.armsAll])
   (show (WTm.eq .res (.lit (.bool true))).value [] { args := args, res := some (.bool true), after := args } = some (.bool (true == true)) from w_eq_bool (w_res rfl) w_lit) rfl
theorem attach_call {l : OpenLaw} {n : Nat} {q : Program} {loose : List Str} {XP : (Str -> Option Value) -> Heap -> Prop} {YP : World -> Heap -> Prop} {d : DefRec}
   (hn : l.most = some n) (hdf : d.params.defaults = [])
   (call : ∀ (w : World) (s₀ s₁ : Shared) (mg mb : Str -> Option Value) (fa : Addr) (o : Obj) (pm cd doc : Value) (a : Addr) (vs : List Value) (ns : List Int),
     Ground q loose [] XP w s₀ mg mb s₁.heap -> YP w s₁.heap ->
     s₁.heap.get? fa = some o -> o.data = .func (docDef d.name d.params d.body d.scope pm cd doc) -> s₁.heap.CodeRec cd d.name -> mg d.name = some (.ref fa) ->
     s₁.heap.get? a = some { cls := .type "list", data := .seq vs.toArray } -> IntsAre vs ns -> ns.length <= n -> s₁.gens = #[] ->
     codeAny (model l.prog w) callerA (.call (.ref fa) ⟨[.ref a], []⟩) (fun r s' => r = .ok (.ret (.bool true)) /\ OldK s₁.heap s'.heap /\ s'.os = s₁.os /\ AllBare s'.gens) s₁) :
   WalkO q loose XP YP l.row.toRowW d [] (fun f vs => PySem.call f vs) := by
 intro w s₀ s₁ mg mb G Y fa o pm cd doc dV kV ho hd hcd hD hmg hg args vals as hpre hlay hrd hwl hlo
 obtain rfl : dV = .none := Dflts.none hD hdf
 obtain rfl : kV = .none := Dflts.noKw hD
 obtain ⟨a, vs, ns, rfl, rfl, hobj, hints, hlen⟩ := script_of hn hpre hwl
 refine enter_call (codeAny_mono (call w s₀ s₁ mg mb fa o pm cd doc a vs ns G Y ho (fd_plain hd) hcd hmg hobj hints hlen hg) fun r s' hq => ?_)
 obtain ⟨rfl, h2, h3, h4⟩ := hq
 exact ⟨.inl ⟨.bool true, .bool true, [], rfl, fun _ => rfl, .bool true, post_true l _, fun _ => ⟨List.Pairwise.nil, fun _ hm => (nomatch hm)⟩⟩, h2, h3, h4⟩
section
variable {prog : Program} {w : World} {A : Around} {E : Value -> Shared -> Prop} {s : Shared} {K : Frag}
end
end Att
namespace L2
open PySem PySem.Spec PyProof.Rows
theorem vals_ints : ∀ {vs : List Value} {ns : List Int}, IntsAre vs ns -> Vals (ns.map V.int) vs
 | _, _, .nil => .nil
 | _, _, .cons n t h => .cons ⟨t, rfl⟩ (vals_ints h)
def Only (H : Hp) : Prop := ∀ b, H b = none \/ ∃ o xs, H b = some (.frz o (.lst xs))
theorem law_call {P : Program} {w : World} {K : PySem.W.Frag} {mg mb : Str -> Option Value} {CX : CXT} {k : Nat} {fa a : Addr} {fd : FuncData} {x : Str} {sp : Sp} {s₁ : Shared} {vs : List Value} {ns : List Int}
   (KX : K.In s₁.heap) (hns : s₁.heap.Ns mainGlobals mg) (hb : s₁.heap.Ns builtinsNs mb) (hbb : ∀ x : Str, x ≠ "__name__" -> mb x = bootBuiltins x) (hlim : s₁.heap.NoLimit) (hg : s₁.gens = #[])
   (ha : s₁.heap.get? a = some { cls := .type "list", data := .seq vs.toArray }) (hi : IntsAre vs ns) (hl : ns.length <= sizeLine) (hr : Room k callerA)
   (F : ∀ base : Heap, K.In base -> base.Ns mainGlobals mg -> FnOk P w K mg base CX k fa fd [x] sp) (hbind : ∀ (s : Shared) (u : Value), BindsTo s fd ⟨[u], []⟩ [(x, u)])
   (hsp : ∀ H : Hp, Only H -> SqL K H a (ns.map V.int) -> sp [.ref a] H (fun v _ => v = .bl true) fun _ _ _ => False)
   (hCX : ∀ H e s', CX [] H s₁ (fun _ _ _ => False) e s' -> False) :
   codeAny (model P w) callerA (.call (.ref fa) ⟨[.ref a], []⟩) (fun r s' => r = .ok (.ret (.bool true)) /\ OldK s₁.heap s'.heap /\ s'.os = s₁.os /\ AllBare s'.gens) s₁ := by
 have rv := vals_ints hi
 have lenV := hi.length
 have core : ∀ H : Hp, Only H -> SqL K H a (ns.map V.int) -> HOk P w H s₁.heap -> (∀ b, H b ≠ none -> b = a) -> (H a ≠ none -> K.lookup a = none) ->
     codeAny (model P w) callerA (.call (.ref fa) ⟨[.ref a], []⟩) (fun r s' => r = .ok (.ret (.bool true)) /\ OldK s₁.heap s'.heap /\ s'.os = s₁.os /\ AllBare s'.gens) s₁ := by
   intro H hO hS hok hA hK
   have base_of : ∀ {b : Addr} {o : Obj}, s₁.heap.get? b = some o -> H b = none -> (qE s₁.heap H).get? b = some o := fun e n => hidT_get e n
   have noA : ∀ {b : Addr} {o : Obj} {es : Array DictEntry} {ep : Nat}, s₁.heap.get? b = some o -> o.data = .dict es ep -> H b = none := fun {b o es ep} e d => by
     cases q : H b with
     | none => rfl
     | some u =>
       have e' : b = a := hA b (by rw [q]; simp)
       subst e'
       rw [ha] at e; cases e
       have d' : Data.seq vs.toArray _ = Data.dict es ep := d
       cases d'
   have nsK : ∀ {b : Addr} {m : Str -> Option Value}, s₁.heap.Ns b m -> (qE s₁.heap H).Ns b m := fun {b m} ⟨o, es, ep, e, d, r⟩ => ⟨o, es, ep, base_of e (noA e d), d, r⟩
   have hKb : K.In (qE s₁.heap H) := fun b o e => base_of (KX b o e) (by
     cases q : H b with
     | none => rfl
     | some u =>
       have e' : b = a := hA b (by rw [q]; simp)
       subst e'
       rw [hK (by rw [q]; simp)] at e; cases e)
   have hM : Mod K mg (qE s₁.heap H) := ⟨hKb, nsK hns, ⟨mb, nsK hb, hbb⟩, let ⟨mc, h1, h2⟩ := hlim; ⟨mc, nsK h1, h2⟩⟩
   have e0 : Env0 P w K mg (qE s₁.heap H) callerA [] s₁ H := ⟨rfl, hM, fun b o e => of_hidT e, Nat.le_of_eq (hidT_size _ _), trivial, fun b hb => absurd (show b ∈ ([] : List Addr) from hb) (by simp), hok, .of_eq hg⟩
   refine codeAny_mono ((F _ hKb (nsK hns)).run callerA [] s₁ H ⟨[.ref a], []⟩ [.ref a] [.ref a] _ _ hr e0 (hbind s₁ (.ref a)) (.cons rfl .nil) (hsp H hO hS)) fun r s' h => ?_
   cases r with
   | error e => exact (hCX H e s' h).elim
   | ok fl =>
     cases fl with
     | next => exact False.elim h
     | brk => exact False.elim h
     | cont => exact False.elim h
     | ret u =>
       obtain ⟨v, H', os, bare, un, hok', r', q⟩ := h
       have q' : v = .bl true := q
       subst q'
       obtain rfl : u = Value.bool true := r'
       refine ⟨rfl, OldK.of_keep fun b o e => ?_, os, bare⟩
       cases q : H b with
       | none => exact un.keep b o e q (by intro z; exact absurd (show b ∈ ([] : List Addr) from z) (by simp)) (by simp)
       | some u =>
         rcases hO b with z | ⟨ob, xs, z⟩
         · rw [q] at z; cases z
         · have z2 := un.frzs b ob _ z
           obtain ⟨e1, _⟩ := hok b _ z
           obtain ⟨e2, _⟩ := hok' b _ z2
           rw [e] at e1; cases e1
           exact e2
 cases hk : K.lookup a with
 | some o =>
   have e := KX a o hk
   rw [ha] at e
   cases e
   refine core (fun _ => none) (fun _ => .inl rfl) (.inr ⟨_, vs.toArray, _, hk, rfl, rfl, rfl, by rw [List.size_toArray, lenV]; exact hl, by simpa using rv⟩) (fun b u z => by have z' : (none : Option HO) = some u := z; cases z') (fun b z => absurd rfl z) fun z => absurd rfl z
 | none =>
   refine core (fun b => if b = a then some (.frz { cls := .type "list", data := .seq vs.toArray } (.lst (ns.map V.int))) else none) (fun b => ?_) (.inl (.inr ⟨{ cls := .type "list", data := .seq vs.toArray }, if_pos rfl⟩)) (fun b u z => ?_) (fun b z => ?_) fun _ => hk
   · by_cases hb : b = a
     · exact .inr ⟨_, _, if_pos hb⟩
     · exact .inl (if_neg hb)
   · by_cases hb : b = a
     · have z' := (if_pos hb).symm.trans z
       cases z'
       subst hb
       exact ⟨ha, by rw [List.length_map]; exact hl, vs, _, rv, ha⟩
     · have z' := (if_neg hb).symm.trans z
       cases z'
   · by_cases hb : b = a
     · exact hb
     · exact absurd (if_neg hb) z
theorem walk_of {l : PySem.W.OpenLaw} {n k : Nat} {q : Program} {loose : List Str} {XP : (Str -> Option Value) -> Heap -> Prop} {YP : World -> Heap -> Prop} {d : DefRec} {K : Params -> PySem.W.Frag} {CX : World -> CXT} {sp : World -> Sp} {x : Str}
   (hn : l.most = some n) (hn2 : n <= sizeLine) (hdf : d.params.defaults = []) (hr : Room k callerA)
   (hY : ∀ (w : World) (h : Heap), YP w h -> (K w.params).In h)
   (F : ∀ (w : World) (mg : Str -> Option Value) (fa : Addr) (h : Heap), (K w.params).In h -> h.Ns mainGlobals mg -> mg d.name = some (.ref fa) ->
     ∃ fd : FuncData, (∀ (s : Shared) (u : Value), BindsTo s fd ⟨[u], []⟩ [(x, u)]) /\
       ∀ base : Heap, (K w.params).In base -> base.Ns mainGlobals mg -> FnOk l.prog w (K w.params) mg base (CX w) k fa fd [x] (sp w))
   (hsp : ∀ (w : World) (H : Hp) (a : Addr) (ns : List Int), ns.length <= n -> Only H -> SqL (K w.params) H a (ns.map V.int) -> sp w [.ref a] H (fun v _ => v = .bl true) fun _ _ _ => False)
   (hCX : ∀ (w : World) (H : Hp) (s : Shared) (e : Value) (s' : Shared), CX w [] H s (fun _ _ _ => False) e s' -> False) :
   PySem.W.WalkO q loose XP YP l.row.toRowW d [] (fun f vs => PySem.call f vs) := by
 refine Att.attach_call hn hdf fun w s₀ s₁ mg mb fa o pm cd doc a vs ns G Y ho hd hcd hmg hobj hints hlen hg => ?_
 have KX := hY w _ Y
 obtain ⟨fd, hb, hF⟩ := F w mg fa _ KX G.T.g hmg
 exact law_call KX G.T.g G.T.b G.T.builtins G.T.nolimit hg hobj hints (Nat.le_trans hlen hn2) hr hF hb (fun H hO hS => hsp w H a ns hlen hO hS) fun H e s' => hCX w H s₁ e s'
def zU (s : Stmt) : Arguments := match s with
 | .FunctionDef _ a _ _ _ _ _ _ _ _ => a
 | _ => { posonlyargs := [], args := [], vararg := none, kwonlyargs := [], kw_defaults := [], kwarg := none, defaults := [] }
def zS (s : Stmt) : List Stmt := match s with
 | .FunctionDef _ _ b _ _ _ _ _ _ _ => b
 | _ => []
def zG (s : Stmt) : Scope := match s with
 | .FunctionDef _ _ _ _ _ _ sc _ _ _ => sc
 | _ => { kind := .function, names := [], isGenerator := false, isCoroutine := false }
abbrev CX0 : CXT := fun _ _ _ _ _ _ => False
abbrev E0 : XK := fun _ _ _ => False
theorem pass0 {X : Cx} : Passes CX0 X E0 := fun _ _ _ _ _ _ _ h => h.elim
structure Fun (K : PySem.W.Frag) (x qual : Str) (st : Stmt) (f : Addr) (fd : FuncData) : Prop where
 ex : ∃ (oc : Value) (od : Option Addr) (kV doc pm : Value) (an : Option Addr) (cdv ct : Value) (osl : Array (Option Value)),
   fd = PySem.W.fnOf x qual (zU st) (zS st) (zG st) .none kV doc pm an cdv ct /\ K.lookup f = some ⟨oc, od, .func fd, osl⟩ /\ PySem.W.codeIn K cdv qual = true
 kp : PySem.W.keepIn K (.ref f) = true
section
variable {P : Program} {w : World} {K : PySem.W.Frag} {mg : Str -> Option Value} {base : Heap}
theorem Fun.ok {x qual : Str} {st : Stmt} {f : Addr} {fd : FuncData} {N ps : List Str} {k : Nat} {sp : Sp} (F : Fun K x qual st f fd) (S : FnScope N ps (zG st)) (len : ∀ vs H Q E, sp vs H Q E -> vs.length = ps.length)
   (hbody : ∀ (cdv : Value) (A : Around) (outer : List Env) (s : Shared) (H : Hp) (vs : List V) (Q : VK) (E : XK), Room k (A.deeper (envOfC qual (zG st) s.heap.objs.size f cdv)) -> sp vs H Q E ->
     ∃ t, PSs (jF CX0 P w K mg base N qual (zG st) f cdv A outer s H E).nox (zS st) t /\ t { nx := fun _ H' => Q .non H', rt := Q } (start N vs) H) : FnOk P w K mg base CX0 (k + 1) f fd ps sp := by
 obtain ⟨oc, od, kV, doc, pm, an, cdv, ct, osl, rfl, lk, hcd⟩ := F.ex
 refine fn_of lk hcd S len fun A outer s H vs Q E hr hsp => ?_
 obtain ⟨t, h, q⟩ := hbody cdv A outer s H vs Q E hr hsp
 exact ⟨t, h.nox, q⟩
theorem Fun.binds {x qual : Str} {st : Stmt} {f : Addr} {fd : FuncData} {ps : List Str} (F : Fun K x qual st f fd)
   (h : ∀ (kV doc pm : Value) (an : Option Addr) (cdv ct : Value) (us : List Value), us.length = ps.length -> bindArgs (PySem.W.fnOf x qual (zU st) (zS st) (zG st) .none kV doc pm an cdv ct) ⟨us, []⟩ = pure (ps.zip us)) : Binds K fd ps [] := by
 obtain ⟨oc, od, kV, doc, pm, an, cdv, ct, osl, rfl, lk, hcd⟩ := F.ex
 exact .all (h kV doc pm an cdv ct)
theorem yK {x qual : Str} {st : Stmt} {f : Addr} {oc : Value} {od an : Option Addr} {osl : Array (Option Value)} {kV doc pm cdv ct : Value} (l : K.lookup f = some ⟨oc, od, .func (PySem.W.fnOf x qual (zU st) (zS st) (zG st) .none kV doc pm an cdv ct), osl⟩)
   (c : PySem.W.codeIn K cdv qual = true) (k : PySem.W.keepIn K (.ref f) = true) : Fun K x qual st f (PySem.W.fnOf x qual (zU st) (zS st) (zG st) .none kV doc pm an cdv ct) := ⟨⟨oc, od, kV, doc, pm, an, cdv, ct, osl, rfl, l, c⟩, k⟩
end
theorem small1000 {n : Nat} (h : n <= 1000) : n < sizeLine := Nat.lt_of_le_of_lt h (by decide)
section
variable {X : Cx}
theorem pv (i : Nat) {x : Str} {pos : Pos} (hN : X.N[i]? = some x := by rfl) (hv : Vis X.env.scope x := by first | exact Or.inl rfl | exact Or.inr (Or.inl rfl) | exact Or.inr (Or.inr rfl)) (hd : (x == ("__debug__" : Str)) = false := by decide)
   (hcd : (x == ("__classdict__" : Str)) = false := by decide) : PE X (.Name x pos) (tVar i) := pe_var hN hv hd hcd
end
theorem iteT {A B : Prop} (h : A) : if true = true then A else B := by
 rw [if_pos rfl]
 exact h
def Same (H H' : Hp) : Prop := ∀ b o, H b = some o -> H' b = some o
theorem Same.refl (H : Hp) : Same H H := fun _ _ h => h
theorem Same.trans {H H1 H2 : Hp} (a : Same H H1) (b : Same H1 H2) : Same H H2 := fun c o h => b c o (a c o h)
theorem Same.free {H H' : Hp} (e : Same H H') {l : Addr} (h : H' l = Option.none) : H l = Option.none := by
 cases q : H l with
 | none => rfl
 | some o =>
   rw [e l o q] at h
   cases h
theorem Same.seq {K : PySem.W.Frag} {H H' : Hp} {a : Addr} {xs : List V} (e : Same H H') (h : SqL K H a xs) : SqL K H' a xs := by
 rcases h with (h | ⟨o, h⟩) | h
 · exact .inl (.inl (e _ _ h))
 · exact .inl (.inr ⟨o, e _ _ h⟩)
 · exact .inr h
section
variable {X : Cx}
end
section
variable {κ : Type} [DecidableEq κ]
end
def yH (env : Env) : List (Str × NameKind) -> List (Str × Addr) -> List (Str × Addr)
 | [], cs => cs
 | (n, k) :: r, cs => if (k == NameKind.free) = true then yH env r ((n, (env.cells.lookup n).getD 0) :: cs) else yH env r cs
theorem jG {scope : Scope} {env : Env} (h : ∀ x ∈ scope.names, x.2 = .free -> ∃ c, env.cells.lookup x.1 = some c) : closureFor scope env = pure (yH env scope.names []) := by
 unfold closureFor
 have go : ∀ (l : List (Str × NameKind)) (cs : List (Str × Addr)), (∀ x ∈ l, x.2 = .free -> ∃ c, env.cells.lookup x.1 = some c) ->
     (forIn l cs fun (x : Str × NameKind) (r : List (Str × Addr)) => (match x with
       | (name, kind) => if (kind == NameKind.free) = true then do let a ← cellOf env name; pure (ForInStep.yield ((name, a) :: r)) else pure (ForInStep.yield r) : Sem (ForInStep (List (Str × Addr))))) = (pure (yH env l cs) : Sem (List (Str × Addr))) := by
   intro l
   induction l with
   | nil => intro cs _; rfl
   | cons x r ih =>
     intro cs hl
     obtain ⟨n, k⟩ := x
     rw [List.forIn_cons]
     by_cases hk : (k == NameKind.free) = true
     · obtain ⟨c, hc⟩ := hl (n, k) List.mem_cons_self (by simpa using hk)
       have e : cellOf env n = pure c := by unfold cellOf; rw [hc]
       simp only [hk, if_true, e, pure_bind]
       rw [ih _ fun y hy => hl y (List.mem_cons_of_mem _ hy)]
       rw [yH, if_pos hk, hc]
       rfl
     · simp only [hk, if_false, Bool.false_eq_true, pure_bind]
       rw [ih _ fun y hy => hl y (List.mem_cons_of_mem _ hy)]
       rw [yH, if_neg hk]
 have q := go scope.names [] h
 simp only [pure_bind, bind_pure] at q ⊢
 exact q
theorem yW {env : Env} {y : Str} {c : Addr} : ∀ (l : List (Str × NameKind)) (cs : List (Str × Addr)), (∀ x ∈ l, x.2 = .free -> ∃ c, env.cells.lookup x.1 = some c) ->
   (∀ z d, cs.lookup z = some d -> env.cells.lookup z = some d) -> (yH env l cs).lookup y = some c -> env.cells.lookup y = some c
 | [], cs, _, hc, e => hc _ _ e
 | (n, k) :: r, cs, h, hc, e => by
   have hr : ∀ x ∈ r, x.2 = .free -> ∃ c, env.cells.lookup x.1 = some c := fun x hx => h x (List.mem_cons_of_mem _ hx)
   by_cases hk : (k == NameKind.free) = true
   · rw [yH, if_pos hk] at e
     refine yW r _ hr (fun z d ez => ?_) e
     obtain ⟨c', hc'⟩ := h (n, k) List.mem_cons_self (by simpa using hk)
     rw [List.lookup_cons] at ez
     cases hz : z == n with
     | true =>
       rw [hz] at ez
       have hz' : z = n := eq_of_beq hz
       subst hz'
       have e2 : (env.cells.lookup z).getD 0 = d := Option.some.inj ez
       have hc'' : env.cells.lookup z = some c' := hc'
       rw [hc''] at e2 ⊢
       exact congrArg some e2
     | false => rw [hz] at ez; exact hc z d ez
   · rw [yH, if_neg hk] at e
     exact yW r cs hr hc e
theorem xD {env : Env} {y : Str} : ∀ (l : List (Str × NameKind)) (cs : List (Str × Addr)), ((y, NameKind.free) ∈ l \/ ∃ c, cs.lookup y = some c) -> ∃ c, (yH env l cs).lookup y = some c
 | [], cs, h => h.elim (fun z => nomatch z) fun z => z
 | (n, k) :: r, cs, h => by
   by_cases hk : (k == NameKind.free) = true
   · rw [yH, if_pos hk]
     refine xD r _ ?_
     rcases h with h | ⟨c, h⟩
     · rcases List.mem_cons.mp h with h | h
       · cases h
         exact .inr ⟨_, by rw [List.lookup_cons, beq_self_eq_true]⟩
       · exact .inl h
     · cases hz : y == n with
       | true => exact .inr ⟨_, by rw [List.lookup_cons, hz]⟩
       | false => exact .inr ⟨c, by rw [List.lookup_cons, hz]; exact h⟩
   · rw [yH, if_neg hk]
     refine xD r _ ?_
     rcases h with h | h
     · rcases List.mem_cons.mp h with h | h
       · cases h
         exact absurd rfl hk
       · exact .inl h
     · exact .inr h
theorem yQ {env : Env} : ∀ {names : List (Str × NameKind)} {x : Str} {k' : NameKind},
   (names.map fun (n, k) => if (k == NameKind.free && env.scope.kind == .function && env.kindOf n == some .cell) then (n, NameKind.cell) else (n, k)).lookup x = some k' ->
   names.lookup x = some k' \/ (names.lookup x = some .free /\ k' = .cell)
 | [], _, _, h => by simp at h
 | (n, k) :: r, x, k', h => by
   have ih := @yQ env r x k'
   have h : List.lookup x ((if (k == NameKind.free && env.scope.kind == .function && env.kindOf n == some .cell) = true then (n, NameKind.cell) else (n, k)) :: _) = some k' := h
   rw [List.lookup_cons]
   by_cases hc : (k == NameKind.free && env.scope.kind == .function && env.kindOf n == some .cell) = true
   · rw [if_pos hc, List.lookup_cons] at h
     cases hx : x == n with
     | true =>
       rw [hx] at h
       have e1 : NameKind.cell = k' := Option.some.inj h
       simp only [Bool.and_eq_true] at hc
       exact .inr ⟨congrArg some (eq_of_beq hc.1.1), e1.symm⟩
     | false => rw [hx] at h; exact ih h
   · rw [if_neg hc, List.lookup_cons] at h
     cases hx : x == n with
     | true => rw [hx] at h; exact .inl h
     | false => rw [hx] at h; exact ih h
theorem xI {env : Env} : ∀ {names : List (Str × NameKind)} {x : Str}, names.lookup x = some .free ->
   (names.map fun (n, k) => if (k == NameKind.free && env.scope.kind == .function && env.kindOf n == some .cell) then (n, NameKind.cell) else (n, k)).lookup x = some .cell \/
   (names.map fun (n, k) => if (k == NameKind.free && env.scope.kind == .function && env.kindOf n == some .cell) then (n, NameKind.cell) else (n, k)).lookup x = some .free
 | [], _, h => by simp at h
 | (n, k) :: r, x, h => by
   have ih := @xI env r x
   show List.lookup x ((if (k == NameKind.free && env.scope.kind == .function && env.kindOf n == some .cell) = true then (n, NameKind.cell) else (n, k)) :: _) = _ \/ List.lookup x ((if (k == NameKind.free && env.scope.kind == .function && env.kindOf n == some .cell) = true then (n, NameKind.cell) else (n, k)) :: _) = _
   rw [List.lookup_cons] at h
   by_cases hc : (k == NameKind.free && env.scope.kind == .function && env.kindOf n == some .cell) = true
   · rw [if_pos hc, List.lookup_cons]
     cases hx : x == n with
     | true => exact .inl rfl
     | false => rw [hx] at h; exact ih h
   · rw [if_neg hc, List.lookup_cons]
     cases hx : x == n with
     | true => rw [hx] at h; exact .inr h
     | false => rw [hx] at h; exact ih h
structure LcScope (xs ys : List Str) (scope around : Scope) : Prop where
 kind : scope.kind = .function
 nd : (xs ++ ys).Nodup
 own : ∀ x ∈ xs, scope.names.lookup x = some .local
 cap : ∀ y ∈ ys, scope.names.lookup y = some .free /\ (around.names.lookup y = some .cell \/ around.names.lookup y = some .free)
 nocell : ∀ y ∈ scope.names, y.2 ≠ .cell
 names : ∀ y ∈ scope.names, y.2 = .local -> scope.names.lookup y.1 = some .local
 free : ∀ y ∈ scope.names, y.2 = .free -> y.1 ∈ ys
def zX (X : Cx) (xs ys : List Str) (scope : Scope) (C : Addr) (s₀ : Shared) (H₀ : Hp) (fp : List Addr) : Cx where
 prog := X.prog
 w := X.w
 K := X.K
 mg := X.mg
 base := X.base
 A := X.A
 N := xs ++ ys
 s₀ := s₀
 H₀ := H₀
 env := compEnvC scope (yH X.env scope.names []) C X.env
 outer := X.stack
 stack := X.stack
 ex := fp
 fn := fun _ => false
 calm := X.calm
 pn := []
 xe := fun _ _ => False
def lcSt (xs : List Str) (js : List Nat) (σ : St) : St := xs.map (fun _ => none) ++ js.map fun j => (σ[j]?).join
def LcW (J : It) (n : List Str) (js : List Nat) (g : TG) (tc : Option TT) (te : TE) (σ : St) (H1 : Hp) (Q : VK) : Prop := ∃ W : Nat -> Nat -> List V -> St -> Hp -> Prop, (∃ m, W 0 m [] (lcSt n js σ) H1) /\ ∀ i m ys σ1 H, W i m ys σ1 H ->
 (J.stop i H /\ ∀ p, H p = none -> Q (.ref p) (upd H p (.lst ys))) \/
 (J.go i H /\ ys.length < sizeLine /\ ∀ x H', J.yld i H x H' -> g x σ1 H' fun σ2 H2 => match tc with
   | none => te σ2 H2 fun y H3 => ∃ m', m' < m /\ W (i + 1) m' (ys ++ [y]) σ2 H3
   | some c => c σ2 H2 fun b H3 => if b = true then te σ2 H3 fun y H4 => ∃ m', m' < m /\ W (i + 1) m' (ys ++ [y]) σ2 H4 else ∃ m', m' < m /\ W (i + 1) m' ys σ2 H3)
def tLC (n : List Str) (js : List Nat) (wi : TI) (g : TG) (tc : Option TT) (te : TE) : TE := fun σ H Q => wi σ H fun J H1 => LcW J n js g tc te σ H1 Q
def PIf (X : Cx) (ifs : List Expr) (tc : Option TT) : Prop := match ifs, tc with
 | [], none => True
 | [c], some t => PT X c t
 | _, _ => False
section
variable {X : Cx} {pins : List (Addr × Obj)} {σ : St} {H : Hp} {s : Shared} {xs ys : List Str} {scope : Scope} {fp : List Addr} {C D : Addr} {js : List Nat}
def Caps (X : Cx) (ys : List Str) (js : List Nat) : Prop := js.length = ys.length /\ ∀ (i : Nat) (y : Str) (j : Nat), ys[i]? = some y -> js[i]? = some j -> X.N[j]? = some y
theorem clos_ok (I : Inv X pins σ H s) (S : LcScope xs ys scope X.env.scope) : ∀ x ∈ scope.names, x.2 = .free -> ∃ c, X.env.cells.lookup x.1 = some c := fun x hx hf =>
 I.ok.has x.1 ((S.cap x.1 (S.free x hx hf)).2.elim .inl .inr)
theorem clos_look (I : Inv X pins σ H s) (S : LcScope xs ys scope X.env.scope) {y : Str} {c : Addr} (e : (yH X.env scope.names []).lookup y = some c) : X.env.cells.lookup y = some c :=
 yW scope.names [] (clos_ok I S) (fun _ _ z => nomatch z) e
theorem block_start (I : Inv X pins σ H s) (S : LcScope xs ys scope X.env.scope) (hj : Caps X ys js) (f2 : ∀ b ∈ fp, jD X pins H b) (fo : ∀ b ∈ fp, b < s.heap.objs.size)
   {h₁ : Heap} {m : Str -> Option Value} {tk : Nat} {oD : Obj} (hC : s.heap.objs.size <= C) (hD : s.heap.objs.size <= D) (hDC : D ≠ C) (hn : h₁.Ns C m) (hd : h₁.get? D = some oD) (hdd : ∀ v, oD.data ≠ .cell v)
   (old : ∀ b o, s.heap.get? b = some o -> h₁.get? b = some o) :
   Inv (zX X xs ys scope C s H fp) [(D, oD)] (lcSt xs js σ) H { s with heap := h₁, toks := tk } := by
 have cl := fun y c => clos_look (y := y) (c := c) I S
 have nC : H C = none := I.hok.fresh hC
 have nD : H D = none := I.hok.fresh hD
 have lt_of : ∀ {b : Addr}, b < s.heap.objs.size -> b ≠ C := fun hb => Nat.ne_of_lt (Nat.lt_of_lt_of_le hb hC)
 have fsub : ∀ b, b ∈ frs X.stack -> b ∈ X.env.locals :: X.fs := I.stkSub
 refine ⟨⟨I.ok.mod, ?_, I.ok.glob, I.ok.blt, hC, fun x y c h1 h2 => I.ok.inj x y c (cl x c h1) (cl y c h2), fun x hx => ?_, (fun x c h => nomatch h), I.ok.hd, I.ok.frames, .inl rfl, fun b hb => ⟨lt_of (fo b hb), fun x c h => (f2 b hb).2.2.2.2.1 x c (cl x c h)⟩, I.bs,
   Nat.le_trans I.ok.bsz I.sz, fun b o e hb => ?_, fun b hb hf => ?_, I.stack, I.stkFree⟩,
   rfl, I.bare, Un.kept old, ⟨m, hn, fun i x v e1 e2 e3 => ?_⟩, fun x c h => ?_, nC, fun x c h => I.freeC x c (cl x c h), fun p hp => ?_, I.hok.kept old, ?_⟩
 · show scope.kind = _
   exact S.kind
 · have hx : (relabel scope X.env).names.lookup x = some .cell \/ (relabel scope X.env).names.lookup x = some .free := hx
   have hm : (x, NameKind.free) ∈ scope.names := by
     rcases hx with hx | hx
     · rcases yQ hx with z | z
       · exact absurd rfl (S.nocell _ (PySem.mem_of_lookup z))
       · exact PySem.mem_of_lookup z.1
     · rcases yQ hx with z | z
       · exact PySem.mem_of_lookup z
       · exact nomatch z.2
   exact xD scope.names [] (.inl hm)
 · rcases (f2 b hb).2.2.2.1 with z | z
   · exact I.ok.noex b o e z
   · exact absurd (Nat.lt_of_lt_of_le (Heap.lt_size e) (Nat.le_trans I.ok.bsz z)) (Nat.lt_irrefl _)
 · rcases List.mem_cons.mp (fsub b hf) with z | z
   · exact (f2 b hb).2.1 z
   · exact (f2 b hb).2.2.1 z
 · have e1 : (xs ++ ys)[i]? = some x := e1
   have e2 : (xs.map (fun _ => (none : Option V)) ++ js.map fun j => (σ[j]?).join)[i]? = some (some v) := e2
   by_cases hi : i < xs.length
   · rw [List.getElem?_append_left (by simpa using hi), List.getElem?_map] at e2
     cases q : xs[i]? with
     | none => rw [q] at e2; cases e2
     | some z => rw [q] at e2; cases e2
   · rw [List.getElem?_append_right (by simpa using hi), List.length_map, List.getElem?_map] at e2
     rw [List.getElem?_append_right (by simpa using hi)] at e1
     cases q : js[i - xs.length]? with
     | none => rw [q] at e2; cases e2
     | some j =>
       rw [q] at e2
       have e2' : (σ[j]?).join = some v := Option.some.inj e2
       have hy := hj.2 _ _ _ e1 q
       have hσ : σ[j]? = some (some v) := by
         cases z : σ[j]? with
         | none => rw [z] at e2'; cases e2'
         | some t => rw [z] at e2'; exact congrArg some e2'
       have ym : x ∈ ys := List.mem_of_getElem? e1
       obtain ⟨cf, ca⟩ := S.cap x ym
       obtain ⟨m0, _, hl⟩ := I.loc
       obtain ⟨u, ru, lk⟩ := hl j x v hy hσ (ca.elim (fun z => .inr (.inl z)) fun z => .inr (.inr z))
       refine ⟨u, ru, .inr ⟨?_, ?_⟩⟩
       · exact xI (env := X.env) cf
       · rcases lk with ⟨k, _⟩ | ⟨_, c, ec, zc⟩
         · have k : X.env.scope.names.lookup x = some .local := k
           rcases ca with z | z <;> · rw [k] at z; cases z
         · obtain ⟨c', ec'⟩ := xD (env := X.env) (y := x) scope.names [] (.inl (PySem.mem_of_lookup cf))
           have e3 := cl x c' ec'
           rw [ec] at e3
           cases e3
           obtain ⟨o, ho, hod⟩ := zc
           exact ⟨_, ec', o, old _ _ ho, hod⟩
 · obtain ⟨v, o, ho, hod⟩ := I.cell x c (cl x c h)
   exact ⟨v, o, old _ _ ho, hod⟩
 · have hp : p ∈ [(D, oD)] := by simpa [zX] using hp
   have e := List.mem_singleton.mp hp
   subst e
   refine ⟨hd, nD, hDC, fun hf => ?_, hdd⟩
   have hf : D ∈ frs X.stack := hf
   obtain ⟨o, ho⟩ : ∃ o, s.heap.get? D = some o := by
     rcases List.mem_cons.mp (fsub D hf) with z | z
     · obtain ⟨m0, ⟨o, _, _, ho, _⟩, _⟩ := I.loc
       have z : D = X.env.locals := z
       exact ⟨o, z ▸ ho⟩
     · exact absurd z (I.nofs hD)
   exact absurd (Heap.lt_size ho) (Nat.not_lt.mpr hD)
 · show (xs.map (fun _ => (none : Option V)) ++ js.map fun j => (σ[j]?).join).length = (xs ++ ys).length
   rw [List.length_append, List.length_append, List.length_map, List.length_map, hj.1]
end
section
variable {X : Cx} {pins : List (Addr × Obj)} {σ : St} {H : Hp} {s : Shared} {xs ys : List Str} {scope : Scope} {js : List Nat} {tg iter elt : Expr} {ifs : List Expr} {pos : Pos} {wi : TI} {g : TG} {tc : Option TT} {te : TE}
theorem jH {α : Type} {M : Model} {A : Around} {t : Sem α} {Q : α -> Shared -> Prop} {E : Value -> Shared -> Prop} {s : Shared} (h : wpAny M A t Q (fun _ _ => False) s) : wpAny M A t Q E s := wpAny_mono h (fun _ _ x => x) fun _ _ z => z.elim
theorem qH {prog : Program} {w : World} {A : Around} {R : Result -> Shared -> Prop} {it acc : Value} {env : Env} (J : Nat -> Shared -> Prop)
   (turn : ∀ n s, J n s -> wpAny (model prog w) A (pyNext it) (fun r s₁ => match r with
     | none => R (.ok .next) s₁
     | some v => wpAny (model prog w) A (letOwnedTupleGo tg it v) (fun _ s₁' => wpAny (model prog w) A (assign tg env v) (fun _ s₂ =>
         wpAny (model prog w) A (forIn ifs true fun c r => if r = true then do let ok ← isTrue c env (eval c env); pure (ForInStep.yield ok) else pure (ForInStep.yield r)) (fun ok s₃ =>
           if ok = true then wpAny (model prog w) A (eval elt env) (fun x s₄ =>
             wpAny (model prog w) A (call (.builtin "list.append") [acc, x]) (fun _ s₅ => ∃ m, m < n /\ J m s₅) (fun _ _ => False) s₄) (fun _ _ => False) s₃
           else ∃ m, m < n /\ J m s₃) (fun _ _ => False) s₂) (fun _ _ => False) s₁') (fun _ _ => False) s₁) (fun _ _ => False) s)
   (n : Nat) (h : J n s) : codeAny (model prog w) A (.compLoop (.ListComp elt [⟨tg, iter, ifs, 0⟩] scope pos) 0 it acc env) R s := by
 refine codeAny_loop rfl J (fun n s hI => ?_) n h
 show wpAny _ A ((compTurn (.ListComp elt [⟨tg, iter, ifs, 0⟩] scope pos) 0 it acc env).onRaise (fun x => do noteFrame x env; theTreesLotGoes x)) _ _ s
 refine wpAny_noted ?_
 rw [compTurn_list]
 refine wpAny_bind (wpAny_standAt (wpAny_bind (jH (thn (turn n s hI) fun r s₁ h₁ => ?_))))
 cases r with
 | none => exact wpAny_pure h₁
 | some v =>
   refine wpAny_bind (jH (thn h₁ fun _ s₁' h₁' => wpAny_bind (jH (thn h₁' fun _ s₂ h₂ => wpAny_bind (jH (thn h₂ fun ok s₃ h₃ => ?_))))))
   cases ok with
   | false => exact wpAny_pure ⟨rfl, h₃⟩
   | true => exact wpAny_bind (wpAny_bind (jH (thn h₃ fun x s₄ h₄ => wpAny_bind (jH (thn h₄ fun _ s₅ h₅ => wpAny_pure (wpAny_pure ⟨rfl, h₅⟩))))))
structure LcEnd (X : Cx) (pins : List (Addr × Obj)) (σ : St) (C : Addr) (H' : Hp) (s' : Shared) : Prop where
 inv : Inv X pins σ H' s'
 ns : ∃ m, s'.heap.Ns C m
 free : H' C = none
 ne : C ≠ X.env.locals
 up : X.s₀.heap.objs.size <= C
 cells : ∀ x c, X.env.cells.lookup x = some c -> c ≠ C
 pin : ∀ p ∈ X.pn ++ pins, p.1 ≠ C
theorem LcEnd.gone {C : Addr} {H' : Hp} {s' : Shared} (L : LcEnd X pins σ C H' s') {h' : Heap} (hs : Heap.SameBut C s'.heap h') : Inv X pins σ H' { s' with heap := h' } :=
 L.inv.turned (t' := s'.toks) (fun b o hb e => hs.extBut b o hb e) L.free L.ne (.inr L.up) L.cells L.pin
theorem lc_core (hc : X.calm = true) (S : LcScope xs ys scope X.env.scope) (hj : Caps X ys js) (hi : PI X tg iter wi)
   (hg : ∀ C s₀ H₀ fp, PG (zX X xs ys scope C s₀ H₀ fp) tg g) (hif : ∀ C s₀ H₀ fp, PIf (zX X xs ys scope C s₀ H₀ fp) ifs tc) (he : ∀ C s₀ H₀ fp, PE (zX X xs ys scope C s₀ H₀ fp) elt te)
   {RR : Value -> Addr -> Result -> Shared -> Prop} {Q : VK} (I : Inv X pins σ H s) (h : tLC xs js wi g tc te σ H Q)
   (fin : ∀ D C H' s', LcEnd X pins σ C H' s' -> Q (.ref D) H' -> RR (.ref D) C (.ok .next) s') :
   wpAny (model X.prog X.w) X.A (eval iter X.env) (fun x s₁ => wpAny (model X.prog X.w) X.A (pyIter x) (fun it s₂ => wpAny (model X.prog X.w) X.A (newList []) (fun acc s₃ =>
     wpAny (model X.prog X.w) X.A (newFunctionEnv scope X.env.globals (yH X.env scope.names []) [] X.env.qual none .none (some X.env)) (fun cenv s₄ =>
       codeAny (model X.prog X.w) X.A (.compStart (.ListComp elt [⟨tg, iter, ifs, 0⟩] scope pos) 0 it acc { cenv with scope := relabel scope X.env }) (RR acc cenv.locals) s₄) X.xe s₃) X.xe s₂) X.xe s₁) X.xe s := by
 refine thn (hi pins s σ H _ I h) fun v s1 h1 => thn h1 fun itv s2 h2 => ?_
 obtain ⟨it, fp, tn, J, H2, e, I2, T, st2, f2, W, ⟨m0, w0⟩, turn⟩ := h2
 subst e
 have fo : ∀ b ∈ fp, b < s2.heap.objs.size := fun b hb => let ⟨o, e, _⟩ := T.obj _ _ st2 b hb; Heap.lt_size e
 refine wpAny_newObj_type (wpAny_newFunctionEnv S.nocell (by intro y hy; simp at hy) (fun h₁ hns₁ hsb₁ => ?_) S.kind)
 dsimp only at hns₁ hsb₁ ⊢
 generalize hH2 : s2.heap.push { cls := .type "list", dict := none, data := .seq ([] : List Value).toArray } = G at hns₁ hsb₁ ⊢
 have hC : G.objs.size = s2.heap.objs.size + 1 := by rw [← hH2, Heap.size_push]
 have hDC : s2.heap.objs.size ≠ G.objs.size := by rw [hC]; exact Nat.ne_of_lt (Nat.lt_succ_self _)
 have hCle : s2.heap.objs.size <= G.objs.size := by rw [hC]; exact Nat.le_succ _
 have below : ∀ b, b < s2.heap.objs.size -> b ≠ G.objs.size /\ b ≠ s2.heap.objs.size := fun b hb => ⟨by rw [hC]; exact Nat.ne_of_lt (Nat.lt_succ_of_lt hb), Nat.ne_of_lt hb⟩
 have old : ∀ b o, s2.heap.get? b = some o -> h₁.get? b = some o := fun b o e => hsb₁.extBut b o (below b (Heap.lt_size e)).1 (Heap.get?_push_of_some _ (hH2 ▸ Heap.get?_push_of_some _ e))
 have hacc : h₁.get? s2.heap.objs.size = some (LCg.lst []) := hsb₁.extBut _ _ hDC (Heap.get?_push_of_some _ (hH2 ▸ Heap.get?_push_size _ rfl))
 have st₁ : tn 0 h₁ := T.keep _ _ _ st2 fun b _ o e => old b o e
 have I3 := block_start (C := G.objs.size) (D := s2.heap.objs.size) (tk := s2.toks + ([] : List (Str × Value)).length) I2 S hj f2 fo hCle (Nat.le_refl _) hDC hns₁ hacc (by intro v hv; cases hv) old
 generalize hX : zX X xs ys scope G.objs.size s2 H2 fp = B at I3
 have pB : B.prog = X.prog := by rw [← hX]; rfl
 have wB : B.w = X.w := by rw [← hX]; rfl
 have kB : B.K = X.K := by rw [← hX]; rfl
 have aB : B.A = X.A := by rw [← hX]; rfl
 have eB : B.env = compEnvC scope (yH X.env scope.names []) G.objs.size X.env := by rw [← hX]; rfl
 have cB : B.calm = true := by rw [← hX]; exact hc
 have xB : B.xe = fun _ _ => False := by rw [← hX]; rfl
 have gB : PG B tg g := by rw [← hX]; exact hg _ _ _ _
 have iB : PIf B ifs tc := by rw [← hX]; exact hif _ _ _ _
 have elB : PE B elt te := by rw [← hX]; exact he _ _ _ _
 have sB : B.s₀ = s2 := by rw [← hX]; rfl
 have hB : B.H₀ = H2 := by rw [← hX]; rfl
 have fB : B.fs = frs X.stack := by rw [← hX]; rfl
 have exB : B.ex = fp := by rw [← hX]; rfl
 have pnB : B.pn = [] := by rw [← hX]; rfl
 have statB : ∀ {H' : Hp} {oD : Obj} {σ' : St} {s' : Shared}, Inv B [(s2.heap.objs.size, oD)] σ' H' s' -> (∀ b ∈ fp, H' b = none) -> ∀ b ∈ fp, jD B [(s2.heap.objs.size, oD)] H' b := fun {H' oD σ' s'} I' hn b hb =>
   ⟨hn b hb, (I'.ok.exf b (exB ▸ hb)).1, I'.ok.exfs b (exB ▸ hb), .inl (exB ▸ hb), (I'.ok.exf b (exB ▸ hb)).2, fun p hp => by
     rw [pnB] at hp
     have e := List.mem_singleton.mp (show p ∈ [(s2.heap.objs.size, oD)] from hp)
     subst e
     exact Nat.ne_of_gt (fo b hb)⟩
 have loop : ∀ s₃ : Shared, s₃ = { s2 with heap := h₁, toks := s2.toks + ([] : List (Str × Value)).length } ->
     codeAny (model X.prog X.w) X.A (.compLoop (.ListComp elt [⟨tg, iter, ifs, 0⟩] scope pos) 0 (.ref it) (.ref s2.heap.objs.size) (compEnvC scope (yH X.env scope.names []) G.objs.size X.env)) (RR (.ref s2.heap.objs.size) G.objs.size) s₃ := by
   rintro s₃ rfl
   refine qH (fun n s' => ∃ i ys its σ1 H', Inv B [(s2.heap.objs.size, LCg.lst its)] σ1 H' s' /\ Vals ys its /\ tn i s'.heap /\ (∀ b ∈ fp, H' b = none) /\ ys.length <= sizeLine /\ W i n ys σ1 H') ?_ m0
     ⟨0, [], [], _, H2, I3, .nil, st₁, fun b hb => (f2 b hb).1, Nat.zero_le _, w0⟩
   rintro n s' ⟨i, ys', its, σ1, H', I', rv, st', fr', hz, w'⟩
   have rl := rv.length
   rcases turn i n ys' σ1 H' w' with ⟨stop, qn⟩ | ⟨go, hz', step⟩
   · have q := T.done B pB wB kB cB i _ s' σ1 H' (fun _ _ => False) I' (statB I' fr') st' stop
     rw [aB] at q
     refine thn q fun r s4 ⟨hr, I4⟩ => ?_
     subst hr
     have pD := (I4.pin (s2.heap.objs.size, LCg.lst its) (List.mem_append_right _ List.mem_cons_self))
     have hDn : H' s2.heap.objs.size = none := pD.2.1
     have ub := I4.base
     rw [fB, exB, hB, sB] at ub
     have neD : ∀ {b : Addr} {o : HO}, H' b = some o -> b ≠ s2.heap.objs.size := fun e z => by rw [z, hDn] at e; cases e
     have upk : ∀ {b : Addr} {o : HO}, H' b = some o -> upd H' s2.heap.objs.size (.lst ys') b = some o := fun e => by rw [zP (neD e)]; exact e
     have u : Un (frs X.stack) fp H2 (upd H' s2.heap.objs.size (.lst ys')) s2.heap s4.heap :=
       ⟨ub.keep, ub.slot, fun b o e n hx => by rw [zP (below b (Heap.lt_size e)).2]; exact ub.free b o e n hx, ub.there, fun b zs e => upk (ub.tups b zs e), fun b o zs e => upk (ub.frzs b o zs e), fun b ps e => let ⟨more, q⟩ := ub.tbls b ps e; ⟨more, upk q⟩⟩
     have hok4 : HOk X.prog X.w H' s4.heap := by have := I4.hok; rw [pB, wB] at this; exact this
     have hok : HOk X.prog X.w (upd H' s2.heap.objs.size (.lst ys')) s4.heap := fun b o e => by
       by_cases hb : b = s2.heap.objs.size
       · subst hb
         rw [zC] at e
         cases e
         exact ⟨hz, its, its.length, rv, pD.1⟩
       · rw [zP hb] at e
         exact (hok4 b o e).stay (fun _ _ _ q => q) (fun _ q => upk q) fun _ _ q => upk q
     have I5 : Inv X pins σ (upd H' s2.heap.objs.size (.lst ys')) s4 := I2.call' (ch := fp) (by rw [I4.os, sB]) u hok I4.bare fun b hb => let f := f2 b hb; ⟨f.2.2.2.1, f.2.1, f.2.2.2.2.1, f.2.2.2.2.2⟩
     refine fin s2.heap.objs.size G.objs.size _ s4 ⟨I5, ?_, ?_, ?_, Nat.le_trans I2.sz hCle, fun x c e z => ?_, fun p hp z => ?_⟩ (qn _ hDn)
     · obtain ⟨m, hn, _⟩ := I4.loc
       rw [eB] at hn
       exact ⟨m, hn⟩
     · have fr := I4.free
       rw [eB] at fr
       rw [zP (Ne.symm hDC)]
       exact fr
     · exact Ne.symm (below _ I2.lt).1
     · obtain ⟨_, o, ho, _⟩ := I2.cell x c e
       exact (below c (Heap.lt_size ho)).1 z
     · exact (below p.1 (Heap.lt_size (I2.pin p hp).1)).1 z
   · have q := T.item B pB wB kB cB i _ s' σ1 H' (fun _ _ => False) I' (statB I' fr') st' go
     rw [aB] at q
     refine thn q fun r s4 ⟨u, hr, h4⟩ => ?_
     subst hr
     refine thn h4 fun _ s5 ⟨x, H5, I5, r5, y5, st5, fr5⟩ => ?_
     have I5' := I5.pinned (statB I5 fr5) (T.obj _ _ st5)
     have q5 := gB _ s5 σ1 H5 x u _ I5' r5 (step x H5 y5)
     rw [pB, wB, aB, eB, xB] at q5
     refine thn q5 fun _ s6 ⟨σ6, H6, I6, q6⟩ => ?_
     have last : ∀ {s7 : Shared} {H7 : Hp}, Inv B ([(s2.heap.objs.size, LCg.lst its)] ++ yV fp s5.heap) σ6 H7 s7 -> (te σ6 H7 fun y H8 => ∃ m', m' < n /\ W (i + 1) m' (ys' ++ [y]) σ6 H8) ->
         wpAny (model X.prog X.w) X.A (eval elt (compEnvC scope (yH X.env scope.names []) G.objs.size X.env)) (fun x s₄ =>
             wpAny (model X.prog X.w) X.A (call (.builtin "list.append") [.ref s2.heap.objs.size, x]) (fun _ s₅ => ∃ m, m < n /\
               ∃ i ys its σ1 H', Inv B [(s2.heap.objs.size, LCg.lst its)] σ1 H' s₅ /\ Vals ys its /\ tn i s₅.heap /\ (∀ b ∈ fp, H' b = none) /\ ys.length <= sizeLine /\ W i m ys σ1 H') (fun _ _ => False) s₄) (fun _ _ => False) s7 := fun {s7 H7} I7 q7 => by
       have q8 := elB _ s7 σ6 H7 _ I7 q7
       rw [pB, wB, aB, eB, xB] at q8
       refine thn q8 fun uy s8 ⟨y, H8, I8, r8, m', hm', w8⟩ => ?_
       have pD := (I8.pin (s2.heap.objs.size, LCg.lst its) (List.mem_append_right _ (List.mem_append_left _ List.mem_cons_self)))
       refine append_at (its := its.toArray) (n := its.length) pD.1 (fun h9 hs9 hd9 => ?_) (by rw [List.size_toArray, ← rl]; exact hz)
       have dropped : Inv B (yV fp s5.heap) σ6 H8 s8 := I8.pins_of fun p hp => I8.pin p (List.mem_append_right _ (List.mem_append_right _ hp))
       have apart : ∀ p ∈ B.pn ++ yV fp s5.heap, p.1 ≠ s2.heap.objs.size := fun p hp => by
         rw [pnB] at hp
         exact Nat.ne_of_lt (fo _ (jM (show p ∈ yV fp s5.heap from hp)).1)
       have I9 : Inv B (yV fp s5.heap) σ6 H8 { s8 with heap := h9 } := dropped.turned (t' := s8.toks) (fun b o hb e => hs9.extBut b o hb e) pD.2.1 pD.2.2.1 (.inr (by rw [sB]; exact Nat.le_refl _)) (fun x c e => by
         intro z
         obtain ⟨v, o, ho, hd⟩ := I8.cell x c e
         rw [z, pD.1] at ho
         cases ho
         cases hd) apart
       have I9' : Inv B [(s2.heap.objs.size, LCg.lst (its ++ [uy]))] σ6 H8 { s8 with heap := h9 } := I9.pins_of fun p hp => by
         have e := List.mem_singleton.mp hp
         subst e
         exact ⟨hd9.trans (congrArg some (LCg.lst_snoc its uy)), pD.2.1, pD.2.2.1, pD.2.2.2.1, by intro v hv; cases hv⟩
       refine ⟨m', hm', i + 1, ys' ++ [y], its ++ [uy], σ6, H8, I9', Vals.append rv (.cons r8 .nil), T.keep _ _ _ st5 fun b hb o e => ?_, fun b hb => ?_, by rw [List.length_append]; exact hz', w8⟩
       · exact (I9.pin (b, o) (List.mem_append_right _ (yI hb e))).1
       · obtain ⟨o, e, d⟩ := T.obj _ _ st5 b hb
         exact (I9.pin (b, o) (List.mem_append_right _ (yI hb e))).2.1
     have again : ∀ {s7 : Shared} {H7 : Hp}, Inv B ([(s2.heap.objs.size, LCg.lst its)] ++ yV fp s5.heap) σ6 H7 s7 -> (∃ m', m' < n /\ W (i + 1) m' ys' σ6 H7) -> ∃ m, m < n /\
         ∃ i ys its σ1 H', Inv B [(s2.heap.objs.size, LCg.lst its)] σ1 H' s7 /\ Vals ys its /\ tn i s7.heap /\ (∀ b ∈ fp, H' b = none) /\ ys.length <= sizeLine /\ W i m ys σ1 H' := fun {s7 H7} I7 ⟨m', hm', w7⟩ => by
       refine ⟨m', hm', i + 1, ys', its, σ6, H7, I7.unpinned, rv, T.keep _ _ _ st5 fun b hb o e => (I7.pin (b, o) (List.mem_append_right _ (List.mem_append_right _ (yI hb e)))).1, fun b hb => ?_, hz, w7⟩
       obtain ⟨o, e, d⟩ := T.obj _ _ st5 b hb
       exact (I7.pin (b, o) (List.mem_append_right _ (List.mem_append_right _ (yI hb e)))).2.1
     match ifs, tc, iB, q6 with
     | [], none, _, q6 =>
       refine wpAny_tests_nil ?_
       rw [if_pos rfl]
       exact last I6 q6
     | [c], some t, iB, q6 =>
       have iB : PT B c t := iB
       have q7 := iB _ s6 σ6 H6 _ I6 q6
       rw [pB, wB, aB, eB, xB] at q7
       refine wpAny_tests_one (thn q7 fun b s7 ⟨H7, I7, q7⟩ => ?_)
       cases b with
       | true => rw [if_pos rfl] at q7 ⊢; exact last I7 q7
       | false => rw [if_neg Bool.false_ne_true] at q7 ⊢; exact again I7 q7
 exact codeAny_compStart_list (loop _ rfl) (T.self _ 0 _ _ _ st₁ (loop _ rfl))
theorem pe_lc (hc : X.calm = true) (S : LcScope xs ys scope X.env.scope) (hj : Caps X ys js) (hi : PI X tg iter wi)
   (hg : ∀ C s₀ H₀ fp, PG (zX X xs ys scope C s₀ H₀ fp) tg g) (hif : ∀ C s₀ H₀ fp, PIf (zX X xs ys scope C s₀ H₀ fp) ifs tc) (he : ∀ C s₀ H₀ fp, PE (zX X xs ys scope C s₀ H₀ fp) elt te)
   (hs : ∀ x, foldedSetIterable iter X.env x = pure x := by intro _; rfl) : PE X (.ListComp elt [⟨tg, iter, ifs, 0⟩] scope pos) (tLC xs js wi g tc te) := by
 intro pins s σ H Q I h
 rw [eval_ListComp]
 refine wpAny_comprehension_free (use := none) rfl hs (jG (clos_ok I S)) S.kind S.names ?_
 refine lc_core (RR := fun acc C => compPost (model X.prog X.w) X.A X.xe none (EP X pins σ Q) acc C) hc S hj hi hg hif he I h fun D C H' s' L q => ?_
 obtain ⟨m, hn⟩ := L.ns
 exact ⟨m, hn, fun h'' hs'' => ⟨.ref D, H', L.gone hs'', rfl, q⟩⟩
end
def Its (x : Str) : It := ⟨fun i _ => i < x.cps.size, fun i H v H' => H' = H /\ ∃ c, x.cps[i]? = some c /\ v = .str ⟨#[c]⟩, fun i _ => x.cps.size <= i⟩
section
variable {X : Cx} {tg : Expr}
theorem turn_walk {P : Program} {w : World} {K : PySem.W.Frag} {tg : Expr} {it : Addr} {n : Nat} {Pv : Nat -> Value -> Prop} {St : Nat -> Heap -> Prop} {J : It} {T : String}
   (W : ∀ A' : Around, A'.handled = none -> Walks P w A' it [it] [it] n Pv St) (ho : ∀ i h, St i h -> ∃ o vs, h.get? it = some o /\ o.cls = .type T /\ o.data = .fields vs)
   (hT : ["enumerate", "zip", "dict_itemiterator", "dict_reverseitemiterator", "odict_iterator", "itertools.zip_longest", "itertools.pairwise"].contains T = false)
   (hgo : ∀ i H, J.go i H -> i < n) (hst : ∀ i H, J.stop i H -> n <= i) (hy : ∀ i H u, Pv i u -> ∃ x, RelV x u /\ J.yld i H x H) (hself : ∀ (A : Around) (i : Nat) (s : Shared) (Q : Value -> Shared -> Prop) (E : Value -> Shared -> Prop), St i s.heap -> Q (.ref it) s -> wpAny (model P w) A (pyIter (.ref it)) Q E s) : Turn P w K tg J [it] it (fun i h => St i h /\ i <= n) where
 mem := by simp
 obj := fun i h st b hb => by
   have e : b = it := by simpa using hb
   subst e
   obtain ⟨o, vs, e, c, d⟩ := ho i h st.1
   exact ⟨o, e, fun v z => by rw [d] at z; cases z⟩
 keep := fun i h h' st k => ⟨(W {} rfl).frame i h h' st.1 k, st.2⟩
 item := by
   intro X hP hw hK hc i pins s σ H E I hf st hg
   subst hP hw hK
   obtain ⟨f0, f1, f2, f3, f4, f5⟩ := hf it (by simp)
   refine (W X.A (I.ok.hd hc)).item i s _ _ (hgo i H hg) st.1 fun v h' tk hv st' k => ?_
   have I1 : Inv X pins σ H { s with heap := h', toks := tk } := I.turned (fun b o hb e => k b o (by simpa using hb) e) f0 f1 f3 f4 f5
   obtain ⟨o, vs, e, c, d⟩ := ho _ _ st'
   obtain ⟨x, rx, yx⟩ := hy i H v hv
   exact ⟨v, rfl, go_of (s := { s with heap := h', toks := tk }) e c d hT ⟨x, H, I1, rx, yx, ⟨st', hgo i H hg⟩, fun b hb => (hf b hb).1⟩⟩
 done := by
   intro X hP hw hK hc i pins s σ H E I hf st hg
   subst hP hw hK
   obtain ⟨f0, f1, f2, f3, f4, f5⟩ := hf it (by simp)
   have e : i = n := Nat.le_antisymm st.2 (hst i H hg)
   subst e
   exact (W X.A (I.ok.hd hc)).done s _ _ st.1 fun h' tk k => ⟨rfl, I.turned (fun b o hb e => k b o (by simpa using hb) e) f0 f1 f3 f4 f5⟩
 self := fun A i s Q E st q => hself A i s Q E st.1 q
def iStr (tl : TE) : TI := fun σ H R => tl σ H fun x H1 => ∃ z, x = .str z /\ R (Its z) H1
theorem pi_str {l : Expr} {tl : TE} (hl : PE X l tl) : PI X tg l (iStr tl) := by
 intro pins s σ H R I h
 refine thn (hl pins s σ H _ I h) fun v s1 ⟨x, H1, I1, r1, z, e, q⟩ => ?_
 subst e
 obtain ⟨t, rfl⟩ := r1
 have go : ∀ (T : String) (o : Obj) (St : Nat -> Heap -> Prop), (∀ A' : Around, A'.handled = none -> Walks X.prog X.w A' s1.heap.objs.size [s1.heap.objs.size] [s1.heap.objs.size] z.cps.size (SignAt z) St) ->
     (∀ i h, St i h -> ∃ o vs, h.get? s1.heap.objs.size = some o /\ o.cls = .type T /\ o.data = .fields vs) ->
     (["enumerate", "zip", "dict_itemiterator", "dict_reverseitemiterator", "odict_iterator", "itertools.zip_longest", "itertools.pairwise"].contains T = false) -> St 0 (s1.heap.push o) ->
     (∀ (A : Around) (i : Nat) (s : Shared) (Q : Value -> Shared -> Prop) (E : Value -> Shared -> Prop), St i s.heap -> Q (.ref s1.heap.objs.size) s -> wpAny (model X.prog X.w) A (pyIter (.ref s1.heap.objs.size)) Q E s) ->
     PIE X pins σ tg R (.ref s1.heap.objs.size) { s1 with heap := s1.heap.push o } := fun T o St W ho hT st hself => by
   have I2 : Inv X pins σ H1 { s1 with heap := s1.heap.push o } := I1.kept (t' := s1.toks) fun b u e => Heap.get?_push_of_some _ e
   refine ⟨_, [s1.heap.objs.size], _, Its z, H1, rfl, I2, turn_walk (J := Its z) W ho hT (fun _ _ h => h) (fun _ _ h => h) (fun i H u ⟨c, t', hc, hu⟩ => ⟨.str ⟨#[c]⟩, ⟨t', hu⟩, rfl, c, hc, rfl⟩) hself, ⟨st, Nat.zero_le _⟩, fun b hb => ?_, q⟩
   have e : b = s1.heap.objs.size := by simpa using hb
   subst e
   exact I1.fpOk (Nat.le_refl _) (I1.hok.fresh (Nat.le_refl _))
 cases ha : z.cps.all (· < 128)
 · exact wpAny_pyIter_wide ha (go _ _ _ (fun A' hA => Walks.strWide hA _ z t) (fun i h ⟨o, e, c, d⟩ => ⟨o, _, e, c, d⟩) (by decide) ⟨_, Heap.get?_push_size _ rfl, rfl, rfl⟩ fun A i s Q E st q => wpAny_pyIter_striter_wide st q)
 · exact wpAny_pyIter_ascii ha (go _ _ _ (fun A' hA => Walks.strAscii hA _ z t) (fun i h ⟨o, e, c, d⟩ => ⟨o, _, e, c, d⟩) (by decide) ⟨_, Heap.get?_push_size _ rfl, rfl, rfl⟩ fun A i s Q E st q => wpAny_pyIter_striter_ascii st q)
end
def rSlS : V -> Option Int -> Option Int -> Hp -> VK -> Prop := fun x lo hi H Q => ∃ z, x = .str z /\ z.length <= sizeLine /\ Q (.str (Txt.slice z lo hi)) H
section
variable {X : Cx}
theorem call_all : xQ X (.builtin "all") (fun xs H Q => X.calm = true /\ ∃ (p : Addr) (bs : List Bool), xs = [.ref p] /\ SqL X.K H p (bs.map V.bl) /\ Q (.bl (bs.all id)) H) := by
 intro pins s σ H xs us Q I r h
 obtain ⟨hc, p, bs, rfl, hp, q⟩ := h
 obtain ⟨u, rfl, ru⟩ := vals1 r
 cases ru
 obtain ⟨its, rv, hl, hz⟩ := I.list hp
 have hlt : p < s.heap.objs.size := by obtain ⟨_, e, _⟩ := hl.isList; exact Heap.lt_size e
 have hlen := rv.length
 rw [List.length_map] at hlen
 refine call_all_walk (wpAny_pyIter_list hl.isList ?_)
 refine ⟨_, _, _, _, _, _, fun i => bs.getD i false, rfl, Walks.list (A := X.A.in1) (I.ok.hd hc) s.heap.objs.size p (Nat.ne_of_lt hlt) its.toArray, ⟨⟨_, Heap.get?_push_size _ rfl, rfl, rfl⟩, hl.isList.push _⟩, fun i v s' Q' E' hv q' => ?_, fun h' tk k => ?_⟩
 · have hv : its[i]? = some v := by simpa using hv
   have hi : i < bs.length := by
     have := (List.getElem?_eq_some_iff.mp hv).1
     omega
   obtain ⟨u', hu', ru'⟩ := rv.get (i := i) (x := .bl bs[i]) (by rw [List.getElem?_map, List.getElem?_eq_getElem hi]; rfl)
   rw [hv] at hu'
   cases hu'
   have e : v = Value.bool bs[i] := ru'
   subst e
   refine wpAny_truthy_bool ?_
   have e2 : bs.getD i false = bs[i] := by rw [List.getD_eq_getElem?_getD, List.getElem?_eq_getElem hi]; rfl
   rw [← e2]
   exact q'
 · refine ⟨.bl (bs.all id), H, ?_, ?_, q⟩
   · exact I.kept (h' := h') (t' := tk) fun b o e => k b o (by intro hm; have := List.mem_singleton.mp hm; exact absurd (this ▸ Heap.lt_size e) (Nat.lt_irrefl _)) (Heap.get?_push_of_some _ e)
   · have e : (List.range its.toArray.size).all (fun i => bs.getD i false) = bs.all id := by
       rw [List.size_toArray, ← hlen]
       rw [Bool.eq_iff_iff, List.all_eq_true, List.all_eq_true]
       constructor
       · intro a b hb
         obtain ⟨i, hi, rfl⟩ := List.getElem_of_mem hb
         have := a i (List.mem_range.mpr hi)
         rw [List.getD_eq_getElem?_getD, List.getElem?_eq_getElem hi] at this
         exact this
       · intro a i hi
         have hi := List.mem_range.mp hi
         rw [List.getD_eq_getElem?_getD, List.getElem?_eq_getElem hi]
         exact a _ (List.getElem_mem hi)
     show Value.bool _ = _
     rw [e]
theorem xA {T : String} : xQ X (.builtin "isinstance") (fun xs H Q => ∃ x t b, xs = [x, .ty T] /\ TyOf X.K H x t /\ PySem.W.kitOne X.K t (.type T) = some b /\ Q (.bl b) H) := by
 intro pins s σ H xs us Q I r h
 obtain ⟨x, t, b, rfl, ty, e, q⟩ := h
 obtain ⟨u, w', rfl, ru, rw'⟩ := vals2 r
 cases rw'
 exact isinst_ok I ru ty e fun tk => ⟨.bl b, H, I.tok tk, rfl, q⟩
end
structure Has (P : Program) (w : World) (K : PySem.W.Frag) (mg : Str -> Option Value) (base : Heap) (k : Nat) (x : Str) (ps : List Str) (sp : Sp) : Prop where
 ex : ∃ f fd, FnOk P w K mg base CX0 k f fd ps sp /\ Binds K fd ps [] /\ PySem.W.keepIn K (.ref f) = true /\ mg x = some (.ref f)
def Gc (mg : Str -> Option Value) (x : Str) (v : V) : Prop := ∃ u, mg x = some u /\ RelV v u
section
variable {X : Cx} {k : Nat} {x : Str} {ps : List Str} {sp : Sp} {p pos : Pos} {e : Expr} {es : List Expr} {t : TA} {v : V}
theorem zT (h : Has X.prog X.w X.K X.mg X.base k x ps sp) (hr : Room k X.A) (hg : Gl X x) (ha : PA X (e :: es) t) (hdb : (x == ("__debug__" : Str)) = false := by decide)
   (he : starEach (e :: es) X.env = (false, eval e X.env) :: starEach es X.env := by rfl) (hpl : (backTo pos (starEach es X.env)).any (·.1) = false := by rfl) : PE X (.Call (.Name x p) (e :: es) [] pos) (tCall sp [] E0 t) := by
 obtain ⟨f, fd, F, b, kp, m⟩ := h.ex
 exact pe_call F hr hg m kp b .nil pass0 ha hdb he hpl
theorem pe_gc (h : Gc X.mg x v) (hg : Gl X x) (hd : (x == ("__debug__" : Str)) = false := by decide) : PE X (.Name x pos) (tC v) := by
 obtain ⟨u, m, r⟩ := h
 exact pe_glob hg m r hd
theorem pe_ty {T : String} (hm : X.mg x = none) (hv : bootBuiltins x = some (.type T)) (hg : Gl X x) (hn : x ≠ "__name__" := by decide) (hd : (x == ("__debug__" : Str)) = false := by decide) : PE X (.Name x pos) (tC (.ty T)) :=
 pe_bltn hg hm hv rfl hn hd
end
theorem pif_nil {X : Cx} : PIf X [] none := trivial
theorem pif_one {X : Cx} {c : Expr} {t : TT} (h : PT X c t) : PIf X [c] (some t) := h
def lcOk (xs ys : List Str) (scope around : Scope) : Bool :=
 (scope.kind == .function) && decide (xs ++ ys).Nodup && xs.all (fun x => scope.names.lookup x == some .local) &&
 ys.all (fun y => (scope.names.lookup y == some .free) && ((around.names.lookup y == some .cell) || (around.names.lookup y == some .free))) &&
 scope.names.all (fun y => (y.2 != .cell) && ((y.2 != .local) || (scope.names.lookup y.1 == some .local)) && ((y.2 != .free) || ys.contains y.1))
theorem lcOk.scope {xs ys : List Str} {scope around : Scope} (h : lcOk xs ys scope around = true) : LcScope xs ys scope around := by
 unfold lcOk at h
 simp only [Bool.and_eq_true, beq_iff_eq, decide_eq_true_eq, List.all_eq_true, Bool.or_eq_true, bne_iff_ne, List.contains_iff_mem] at h
 obtain ⟨⟨⟨⟨h1, h2⟩, h3⟩, h4⟩, h5⟩ := h
 exact ⟨h1, h2, h3, h4, fun y hy => (h5 y hy).1.1, fun y hy hl => (h5 y hy).1.2.resolve_left (fun z => z hl), fun y hy hf => (h5 y hy).2.resolve_left (fun z => z hf)⟩
def capOk (N ys : List Str) (js : List Nat) : Bool := (js.length == ys.length) && (ys.zip js).all fun p => N[p.2]? == some p.1
theorem capOk.caps {X : Cx} {ys : List Str} {js : List Nat} (h : capOk X.N ys js = true) : Caps X ys js := by
 unfold capOk at h
 simp only [Bool.and_eq_true, beq_iff_eq, List.all_eq_true] at h
 refine ⟨h.1, fun i y j hy hj => ?_⟩
 refine h.2 (y, j) (List.mem_of_getElem? (i := i) ?_)
 rw [List.getElem?_zip_eq_some]
 exact ⟨hy, hj⟩
section
variable {X : Cx} {xs ys : List Str} {scope : Scope} {js : List Nat} {tg iter elt : Expr} {ifs : List Expr} {pos : Pos} {wi : TI} {g : TG} {tc : Option TT} {te : TE}
theorem jY (xs ys : List Str) (js : List Nat) (hi : PI X tg iter wi)
   (hg : ∀ C s₀ H₀ fp, (xs ++ ys).Nodup -> PG (zX X xs ys scope C s₀ H₀ fp) tg g) (hif : ∀ C s₀ H₀ fp, PIf (zX X xs ys scope C s₀ H₀ fp) ifs tc) (he : ∀ C s₀ H₀ fp, PE (zX X xs ys scope C s₀ H₀ fp) elt te)
   (hc : X.calm = true := by rfl) (S : lcOk xs ys scope X.env.scope = true := by rfl) (hj : capOk X.N ys js = true := by rfl)
   (hs : ∀ x, foldedSetIterable iter X.env x = pure x := by intro _; rfl) : PE X (.ListComp elt [⟨tg, iter, ifs, 0⟩] scope pos) (tLC xs js wi g tc te) :=
 pe_lc hc (lcOk.scope S) (capOk.caps hj) hi (fun C s₀ H₀ fp => hg C s₀ H₀ fp (lcOk.scope S).nd) hif he hs
end
theorem bt_len : bootBuiltins "len" = some (.builtin "len") := by decide +kernel
theorem bt_isinstance : bootBuiltins "isinstance" = some (.builtin "isinstance") := by decide +kernel
theorem bt_all : bootBuiltins "all" = some (.builtin "all") := by decide +kernel
theorem bt_list : bootBuiltins "list" = some (.type "list") := by decide +kernel
theorem bt_set : bootBuiltins "set" = some (.type "set") := by decide +kernel
theorem bt_int : bootBuiltins "int" = some (.type "int") := by decide +kernel
theorem bt_bool : bootBuiltins "bool" = some (.type "bool") := by decide +kernel
theorem bt_str : bootBuiltins "str" = some (.type "str") := by decide +kernel
theorem cx_K {CX : CXT} {P : Program} {w : World} {K : PySem.W.Frag} {mg : Str -> Option Value} {base : Heap} {N : List Str} {qual : Str} {scope : Scope} {f : Addr} {cd : Value} {A : Around} {outer : List Env} {s : Shared} {H : Hp} {E : XK} : (jF CX P w K mg base N qual scope f cd A outer s H E).K = K := rfl
theorem cx_calm {CX : CXT} {P : Program} {w : World} {K : PySem.W.Frag} {mg : Str -> Option Value} {base : Heap} {N : List Str} {qual : Str} {scope : Scope} {f : Addr} {cd : Value} {A : Around} {outer : List Env} {s : Shared} {H : Hp} {E : XK} : (jF CX P w K mg base N qual scope f cd A outer s H E).calm = true := rfl
theorem bk_calm {X : Cx} {xs ys : List Str} {scope : Scope} {C : Addr} {s₀ : Shared} {H₀ : Hp} {fp : List Addr} : (zX X xs ys scope C s₀ H₀ fp).calm = X.calm := rfl
theorem lenV_str {K : PySem.W.Frag} {y : Str} {H : Hp} {n : Nat} : LenV K (.str y) H n ↔ (y.length <= sizeLine /\ n = y.length) := Iff.rfl
theorem eqV_str (a b : Str) : eqV (.str a) (.str b) = decide (b = a) := by
 show (a == b) = _
 rw [Bool.eq_iff_iff, beq_iff_eq, decide_eq_true_eq, eq_comm]
theorem bk_K {X : Cx} {xs ys : List Str} {scope : Scope} {C : Addr} {s₀ : Shared} {H₀ : Hp} {fp : List Addr} : (zX X xs ys scope C s₀ H₀ fp).K = X.K := rfl
theorem ix_nat {ns : List Int} {k : Nat} (h : (k : Int) < ns.length) : atI (ns.map V.int) (k : Int) = some (.int (ns.getD k 0)) := by
 refine yU ?_
 have h' : k < ns.length := by omega
 rw [List.getElem?_map, List.getElem?_eq_getElem h', List.getD_eq_getElem?_getD, List.getElem?_eq_getElem h']
 rfl
theorem for_str {z : Str} {g : TG} {tb : TS} {D : Ends} {σ : St} {H : Hp} (Pv : Nat -> St -> Hp -> Prop) (h0 : Pv 0 σ H)
   (hs : ∀ (i c : Nat) σ H, z.cps[i]? = some c -> Pv i σ H -> g (.str ⟨#[c]⟩) σ H fun σ2 H2 => tb { D with nx := Pv (i + 1), ct := Pv (i + 1), bk := D.nx } σ2 H2) (hd : ∀ σ H, Pv z.cps.size σ H -> D.nx σ H) :
   ∃ W : Nat -> Nat -> St -> Hp -> Prop, (∃ m, W 0 m σ H) /\ ∀ i m σ H, W i m σ H ->
     ((Its z).stop i H /\ D.nx σ H) \/ ((Its z).go i H /\ ∃ N : St -> Hp -> Prop, (∀ σ' H', N σ' H' -> ∃ m', m' < m /\ W (i + 1) m' σ' H') /\ ∀ x H', (Its z).yld i H x H' -> g x σ H' fun σ2 H2 => tb { D with nx := N, ct := N, bk := D.nx } σ2 H2) := by
 refine ⟨fun i m σ H => i + m = z.cps.size /\ Pv i σ H, ⟨z.cps.size, by omega, h0⟩, fun i m σ H ⟨e, w⟩ => ?_⟩
 by_cases hi : i < z.cps.size
 · refine .inr ⟨hi, Pv (i + 1), fun σ' H' h => ⟨m - 1, by omega, by omega, h⟩, fun x H' ⟨e', c, hc, hx⟩ => ?_⟩
   subst e'; subst hx
   exact hs i c σ _ hc w
 · have : i = z.cps.size := by omega
   subst this
   exact .inl ⟨Nat.le_refl _, hd σ H w⟩
theorem lc_by {J : It} {n : Nat} {ns : List Str} {js : List Nat} {g : TG} {te : TE} {σ : St} {H : Hp} {Q : VK} (Pv : Nat -> List V -> St -> Hp -> Prop) (h0 : Pv 0 [] (lcSt ns js σ) H) (hn : n <= sizeLine) (hl : ∀ i ys σ H, Pv i ys σ H -> ys.length <= i)
   (hgo : ∀ i ys σ H, i < n -> Pv i ys σ H -> J.go i H) (hst : ∀ ys σ H, Pv n ys σ H -> J.stop n H)
   (hs : ∀ i ys σ H x H' (C : V -> St -> Hp -> Prop), i < n -> Pv i ys σ H -> J.yld i H x H' -> (∀ y σ2 H3, Pv (i + 1) (ys ++ [y]) σ2 H3 -> C y σ2 H3) -> g x σ H' fun σ2 H2 => te σ2 H2 fun y H3 => C y σ2 H3)
   (hd : ∀ ys σ H, Pv n ys σ H -> ∀ p, H p = none -> Q (.ref p) (upd H p (.lst ys))) :
   LcW J ns js g none te σ H Q := by
 refine ⟨fun i m ys σ H => i + m = n /\ Pv i ys σ H, ⟨n, by omega, h0⟩, fun i m ys σ H ⟨e, w⟩ => ?_⟩
 by_cases hi : i < n
 · refine .inr ⟨hgo i ys σ H hi w, Nat.lt_of_le_of_lt (hl _ _ _ _ w) (by omega), fun x H' hy => ?_⟩
   exact hs i ys σ H x H' (fun y σ2 H3 => ∃ m', m' < m /\ i + 1 + m' = n /\ Pv (i + 1) (ys ++ [y]) σ2 H3) hi w hy fun y σ2 H3 q => ⟨m - 1, by omega, by omega, q⟩
 · have : i = n := by omega
   subst this
   exact .inl ⟨hst ys σ H w, hd ys σ H w⟩
theorem lc_str {z : Str} {ns : List Str} {js : List Nat} {g : TG} {te : TE} {σ : St} {H : Hp} {Q : VK} (Pv : Nat -> List V -> St -> Hp -> Prop) (h0 : Pv 0 [] (lcSt ns js σ) H) (hz : z.cps.size <= sizeLine) (hl : ∀ i ys σ H, Pv i ys σ H -> ys.length <= i)
   (hs : ∀ (i c : Nat) ys σ H (C : V -> St -> Hp -> Prop), z.cps[i]? = some c -> Pv i ys σ H -> (∀ y σ2 H3, Pv (i + 1) (ys ++ [y]) σ2 H3 -> C y σ2 H3) -> g (.str ⟨#[c]⟩) σ H fun σ2 H2 => te σ2 H2 fun y H3 => C y σ2 H3)
   (hd : ∀ ys σ H, Pv z.cps.size ys σ H -> ∀ p, H p = none -> Q (.ref p) (upd H p (.lst ys))) :
   LcW (Its z) ns js g none te σ H Q :=
 lc_by (n := z.cps.size) Pv h0 hz hl (fun _ _ _ _ h _ => h) (fun _ _ _ _ => Nat.le_refl _) (fun i ys σ H x H' C hi w ⟨e, c, hc, hx⟩ hC => by subst e; subst hx; exact hs i c ys σ _ C hc w hC) hd
theorem lc_list {K : PySem.W.Frag} {a : Addr} {xs : List V} {ns : List Str} {js : List Nat} {g : TG} {te : TE} {σ : St} {H : Hp} {Q : VK} (Pv : Nat -> List V -> St -> Hp -> Prop) (h0 : Pv 0 [] (lcSt ns js σ) H) (hz : xs.length <= sizeLine) (hl : ∀ i ys σ H, Pv i ys σ H -> ys.length <= i)
   (hK : ∀ i ys σ H, Pv i ys σ H -> SqL K H a xs)
   (hs : ∀ (i : Nat) x ys σ H (C : V -> St -> Hp -> Prop), xs[i]? = some x -> Pv i ys σ H -> (∀ y σ2 H3, Pv (i + 1) (ys ++ [y]) σ2 H3 -> C y σ2 H3) -> g x σ H fun σ2 H2 => te σ2 H2 fun y H3 => C y σ2 H3)
   (hd : ∀ ys σ H, Pv xs.length ys σ H -> ∀ p, H p = none -> Q (.ref p) (upd H p (.lst ys))) :
   LcW (Itl K a) ns js g none te σ H Q :=
 lc_by (n := xs.length) Pv h0 hz hl (fun i ys σ H hi w => ⟨xs, xs[i], hK i ys σ H w, List.getElem?_eq_getElem hi⟩) (fun ys σ H w => ⟨xs, hK _ ys σ H w, Nat.le_refl _⟩)
   (fun i ys σ H x H' C hi w ⟨e, hx⟩ hC => by subst e; exact hs i x ys σ _ C (hx xs (hK i ys σ _ w)) w hC) hd
def ForW (J : It) (g : TG) (tb : TS) (D : Ends) (σ : St) (H : Hp) : Prop := ∃ W : Nat -> Nat -> St -> Hp -> Prop, (∃ m, W 0 m σ H) /\ ∀ i m σ H, W i m σ H ->
 (J.stop i H /\ D.nx σ H) \/ (J.go i H /\ ∃ N : St -> Hp -> Prop, (∀ σ' H', N σ' H' -> ∃ m', m' < m /\ W (i + 1) m' σ' H') /\ ∀ x H', J.yld i H x H' -> g x σ H' fun σ2 H2 => tb { D with nx := N, ct := N, bk := D.nx } σ2 H2)
theorem tFor_eq {wi : TI} {g : TG} {tb : TS} {D : Ends} {σ : St} {H : Hp} : tFor wi g tb D σ H = wi σ H fun J H1 => ForW J g tb D σ H1 := rfl
theorem tLC_eq {n : List Str} {js : List Nat} {wi : TI} {g : TG} {tc : Option TT} {te : TE} {σ : St} {H : Hp} {Q : VK} : tLC n js wi g tc te σ H Q = wi σ H fun J H1 => LcW J n js g tc te σ H1 Q := rfl
theorem fw_list {K : PySem.W.Frag} {a : Addr} {xs : List V} {g : TG} {tb : TS} {D : Ends} {σ : St} {H : Hp} (Pv : Nat -> St -> Hp -> Prop) (h0 : Pv 0 σ H) (hl : ∀ i σ H, i <= xs.length -> Pv i σ H -> SqL K H a xs)
   (hs : ∀ i x σ H, xs[i]? = some x -> Pv i σ H -> g x σ H fun σ2 H2 => tb { D with nx := Pv (i + 1), ct := Pv (i + 1), bk := D.nx } σ2 H2) (hd : ∀ σ H, Pv xs.length σ H -> D.nx σ H) : ForW (Itl K a) g tb D σ H := for_list Pv h0 hl hs hd
theorem fw_range {lo : Int} {n : Nat} {g : TG} {tb : TS} {D : Ends} {σ : St} {H : Hp} (Pv : Nat -> St -> Hp -> Prop) (h0 : Pv 0 σ H)
   (hs : ∀ i σ H, i < n -> Pv i σ H -> g (.int (lo + i)) σ H fun σ2 H2 => tb { D with nx := Pv (i + 1), ct := Pv (i + 1), bk := D.nx } σ2 H2) (hd : ∀ σ H, Pv n σ H -> D.nx σ H) : ForW (Itr lo n) g tb D σ H := for_range Pv h0 hs hd
theorem fw_str {z : Str} {g : TG} {tb : TS} {D : Ends} {σ : St} {H : Hp} (Pv : Nat -> St -> Hp -> Prop) (h0 : Pv 0 σ H)
   (hs : ∀ (i c : Nat) σ H, z.cps[i]? = some c -> Pv i σ H -> g (.str ⟨#[c]⟩) σ H fun σ2 H2 => tb { D with nx := Pv (i + 1), ct := Pv (i + 1), bk := D.nx } σ2 H2) (hd : ∀ σ H, Pv z.cps.size σ H -> D.nx σ H) : ForW (Its z) g tb D σ H := for_str Pv h0 hs hd
theorem zO {t u : TS} {D : Ends} {σ : St} {H : Hp} (h : ∀ N : St -> Hp -> Prop, (∀ σ H, u D σ H -> N σ H) -> t { D with nx := N } σ H) : tSeq t u D σ H := h (u D) fun _ _ z => z
theorem zY {t u : TS} {D : Ends} {σ : St} {H : Hp} (J : St -> Hp -> Prop) (h1 : ∀ N : St -> Hp -> Prop, (∀ σ H, J σ H -> N σ H) -> t { D with nx := N } σ H) (h2 : ∀ σ H, J σ H -> u D σ H) : tSeq t u D σ H := h1 (u D) h2
structure Bi (mg : Str -> Option Value) : Prop where
 len : mg "len" = none
 range : mg "range" = none
 isinstance : mg "isinstance" = none
 max : mg "max" = none
 sum : mg "sum" = none
 all : mg "all" = none
 tuple : mg "tuple" = none
 list : mg "list" = none
 sorted : mg "sorted" = none
 set : mg "set" = none
 int : mg "int" = none
 bool : mg "bool" = none
 str : mg "str" = none
 dict : mg "dict" = none
theorem yM {P : Program} {w : World} {K : PySem.W.Frag} {mg : Str -> Option Value} {base : Heap} {k : Nat} {x : Str} {ps : List Str} {sp : Sp} {st : Stmt} {f : Addr} {fd : FuncData} (F : Fun K x x st f fd) (ok : FnOk P w K mg base CX0 k f fd ps sp) (b : Binds K fd ps [])
   (m : mg x = some (.ref f)) : Has P w K mg base k x ps sp := ⟨f, fd, ok, b, F.kp, m⟩
inductive Dt where
 | non | bl (b : Bool) | int (i : Int) | str (x : Str) | tup (ds : List Dt) | lst (ds : List Dt)
mutual
def DAt (H : Hp) : Dt -> V -> Prop
 | .non, v => v = .non
 | .bl b, v => v = .bl b
 | .int i, v => v = .int i
 | .str x, v => v = .str x
 | .tup ds, v => ∃ a vs, v = .ref a /\ H a = some (.tup vs) /\ DAts H ds vs
 | .lst ds, v => ∃ a vs, v = .ref a /\ H a = some (.lst vs) /\ DAts H ds vs
def DAts (H : Hp) : List Dt -> List V -> Prop
 | [], vs => vs = []
 | d :: ds, vs => ∃ v r, vs = v :: r /\ DAt H d v /\ DAts H ds r
end
mutual
theorem DAt.same {H H' : Hp} (e : Same H H') : ∀ {d : Dt} {v : V}, DAt H d v -> DAt H' d v
 | .non, _, h => h
 | .bl _, _, h => h
 | .int _, _, h => h
 | .str _, _, h => h
 | .tup ds, v, h => by
   obtain ⟨a, vs, e1, e2, e3⟩ := h
   exact ⟨a, vs, e1, e _ _ e2, DAts.same e e3⟩
 | .lst ds, v, h => by
   obtain ⟨a, vs, e1, e2, e3⟩ := h
   exact ⟨a, vs, e1, e _ _ e2, DAts.same e e3⟩
theorem DAts.same {H H' : Hp} (e : Same H H') : ∀ {ds : List Dt} {vs : List V}, DAts H ds vs -> DAts H' ds vs
 | [], _, h => h
 | d :: ds, vs, h => by
   obtain ⟨v, r, e1, e2, e3⟩ := h
   exact ⟨v, r, e1, DAt.same e e2, DAts.same e e3⟩
end
theorem DAts.length {H : Hp} : ∀ {ds : List Dt} {vs : List V}, DAts H ds vs -> vs.length = ds.length
 | [], vs, h => by
   have h : vs = [] := h
   rw [h]
   rfl
 | d :: ds, vs, h => by
   obtain ⟨v, r, e1, e2, e3⟩ := h
   rw [e1, List.length_cons, List.length_cons, DAts.length e3]
theorem DAts.get {H : Hp} : ∀ {ds : List Dt} {vs : List V} {i : Nat} {d : Dt}, DAts H ds vs -> ds[i]? = some d -> ∃ v, vs[i]? = some v /\ DAt H d v
 | [], vs, i, d, _, e => by simp at e
 | d :: ds, vs, 0, d', h, e => by
   obtain ⟨v, r, e1, e2, e3⟩ := h
   simp at e
   subst e; subst e1
   exact ⟨v, rfl, e2⟩
 | d :: ds, vs, i + 1, d', h, e => by
   obtain ⟨v, r, e1, e2, e3⟩ := h
   subst e1
   simp at e
   obtain ⟨u, h1, h2⟩ := DAts.get e3 e
   exact ⟨u, by simpa using h1, h2⟩
theorem DAts.append {H : Hp} : ∀ {ds es : List Dt} {vs us : List V}, DAts H ds vs -> DAts H es us -> DAts H (ds ++ es) (vs ++ us)
 | [], es, vs, us, h, h' => by
   have h : vs = [] := h
   subst h
   exact h'
 | d :: ds, es, vs, us, h, h' => by
   obtain ⟨v, r, e1, e2, e3⟩ := h
   subst e1
   exact ⟨v, r ++ us, rfl, e2, DAts.append e3 h'⟩
theorem DAts.take {H : Hp} : ∀ {ds : List Dt} {vs : List V} (n : Nat), DAts H ds vs -> DAts H (ds.take n) (vs.take n)
 | ds, vs, 0, _ => rfl
 | [], vs, n + 1, h => by
   have h : vs = [] := h
   subst h
   rfl
 | d :: ds, vs, n + 1, h => by
   obtain ⟨v, r, e1, e2, e3⟩ := h
   subst e1
   exact ⟨v, r.take n, rfl, e2, DAts.take n e3⟩
theorem DAts.drop {H : Hp} : ∀ {ds : List Dt} {vs : List V} (n : Nat), DAts H ds vs -> DAts H (ds.drop n) (vs.drop n)
 | ds, vs, 0, h => by simpa using h
 | [], vs, n + 1, h => by
   have h : vs = [] := h
   subst h
   rfl
 | d :: ds, vs, n + 1, h => by
   obtain ⟨v, r, e1, e2, e3⟩ := h
   subst e1
   simpa using DAts.drop n e3
theorem DAts.one {H : Hp} {d : Dt} {v : V} (h : DAt H d v) : DAts H [d] [v] := ⟨v, [], rfl, h, rfl⟩
def DFit : Nat -> Dt -> Prop
 | n + 1, .tup ds => ds.length <= 1000 /\ ∀ d ∈ ds, DFit n d
 | n + 1, .lst ds => ds.length <= 1000 /\ ∀ d ∈ ds, DFit n d
 | 0, .tup _ => False
 | 0, .lst _ => False
 | _, _ => True
inductive Tm where
 | name (x : Str)
 | node (w : Str) (ts : List Tm)
mutual
def toD : Tm -> Dt
 | .name x => .tup [.str "name", .str x]
 | .node w ts => .tup (.str w :: toDs ts)
def toDs : List Tm -> List Dt
 | [] => []
 | t :: ts => toD t :: toDs ts
end
theorem toDs_map : ∀ ts : List Tm, toDs ts = ts.map toD
 | [] => rfl
 | t :: ts => by rw [toDs, toDs_map ts, List.map_cons]
theorem toD_node (w : Str) (ts : List Tm) : toD (.node w ts) = .tup (.str w :: ts.map toD) := by rw [toD, toDs_map]
abbrev TAt (H : Hp) (t : Tm) (v : V) : Prop := DAt H (toD t) v
abbrev TAts (H : Hp) (ts : List Tm) (vs : List V) : Prop := DAts H (ts.map toD) vs
theorem TAt.name {H : Hp} {x : Str} {v : V} (h : TAt H (.name x) v) : ∃ a, v = .ref a /\ H a = some (.tup [.str "name", .str x]) := by
 obtain ⟨a, vs, e1, e2, u, r, e3, e4, e5⟩ := h
 obtain ⟨u2, r2, e6, e7, e8⟩ := e5
 have e4 : u = .str "name" := e4
 have e7 : u2 = .str x := e7
 have e8 : r2 = [] := e8
 subst e3; subst e4; subst e6; subst e7; subst e8
 exact ⟨a, e1, e2⟩
theorem TAt.mkName {H : Hp} {x : Str} {a : Addr} (h : H a = some (.tup [.str "name", .str x])) : TAt H (.name x) (.ref a) :=
 ⟨a, _, rfl, h, _, _, rfl, rfl, _, _, rfl, rfl, rfl⟩
theorem TAt.node {H : Hp} {w : Str} {ts : List Tm} {v : V} (h : TAt H (.node w ts) v) : ∃ a vs, v = .ref a /\ H a = some (.tup (.str w :: vs)) /\ TAts H ts vs := by
 unfold TAt at h
 rw [toD_node] at h
 obtain ⟨a, vs, e1, e2, u, r, e3, e4, e5⟩ := h
 have e4 : u = .str w := e4
 subst e3; subst e4
 exact ⟨a, r, e1, e2, e5⟩
theorem TAt.mkNode {H : Hp} {w : Str} {ts : List Tm} {a : Addr} {vs : List V} (h : H a = some (.tup (.str w :: vs))) (hs : TAts H ts vs) : TAt H (.node w ts) (.ref a) := by
 unfold TAt
 rw [toD_node]
 exact ⟨a, _, rfl, h, _, _, rfl, rfl, hs⟩
structure Nm (x : Str) : Prop where
 pos : 1 <= x.length
 most : x.length <= 8
 low : ∀ c ∈ x.cps.toList, 97 <= c /\ c <= 122
 nn : x ≠ "none"
 na : x ≠ "all"
theorem zE {H : Hp} {p : Addr} (h : H p = none) (o : HO) : Same H (upd H p o) := fun b u q => by rw [zP (yE q h)]; exact q
theorem len_app (p q : Str) : (p ++ q).length = p.length + q.length := by
 show (p.cps ++ q.cps).size = p.cps.size + q.cps.size
 rw [Array.size_append]
theorem cps_app (p q : Str) : (p ++ q).cps.toList = p.cps.toList ++ q.cps.toList := by
 show (p.cps ++ q.cps).toList = _
 rw [Array.toList_append]
theorem zQ {n : Nat} (h : n <= 1000) : n <= sizeLine := Nat.le_of_lt (small1000 h)
theorem TAts.length {H : Hp} {ts : List Tm} {vs : List V} (h : TAts H ts vs) : vs.length = ts.length := by
 have := DAts.length h
 rw [List.length_map] at this
 exact this
def TupSame (H H' : Hp) : Prop := ∀ b xs, H b = some (.tup xs) -> H' b = some (.tup xs)
theorem TupSame.trans {H H1 H2 : Hp} (a : TupSame H H1) (b : TupSame H1 H2) : TupSame H H2 := fun c o h => b c o (a c o h)
theorem Same.tups {H H' : Hp} (e : Same H H') : TupSame H H' := fun b xs h => e b _ h
theorem Same.upd {H H1 : Hp} {a : Addr} {o : HO} (e : Same H H1) (h : H a = none) : Same H (upd H1 a o) := fun b u hb => by
 rw [zP (yE hb h)]
 exact e _ _ hb
mutual
theorem TAt.tups {H H' : Hp} (e : TupSame H H') : ∀ {t : Tm} {v : V}, TAt H t v -> TAt H' t v
 | .name x, v, h => by
   obtain ⟨a, e1, h2⟩ := TAt.name h
   subst e1
   exact TAt.mkName (e _ _ h2)
 | .node w ts, v, h => by
   obtain ⟨a, vs, e1, h2, hs⟩ := TAt.node h
   subst e1
   exact TAt.mkNode (e _ _ h2) (TAts.tups e hs)
theorem TAts.tups {H H' : Hp} (e : TupSame H H') : ∀ {ts : List Tm} {vs : List V}, TAts H ts vs -> TAts H' ts vs
 | [], vs, h => h
 | t :: ts, vs, h => by
   obtain ⟨v, r, e1, e2, e3⟩ := h
   exact ⟨v, r, e1, TAt.tups e e2, TAts.tups e e3⟩
end
structure KD (w : World) (K : PySem.W.Frag) (a : Addr) (kvs : List (Key × V)) : Prop where
 dict : ∀ (P : Program) (h : Heap), K.In h -> ∃ vs, KV kvs vs /\ h.DictOf (zZ P w) a vs
def tKGet (w : World) (K : PySem.W.Frag) (td ty : TE) : TE := fun σ H Q => td σ H fun x H1 => ty σ H1 fun y H2 => ∃ a kvs k v, x = .ref a /\ y = kV k /\ KD w K a kvs /\ xR kvs k = some v /\ Q v H2
def entOk (w : World) : List DictEntry -> List (Str × Str) -> Prop
 | [], r => r = []
 | e :: es, r => ∃ x y t u r', r = (x, y) :: r' /\ e.hash = hashStr w x /\ e.key = .str x t /\ e.val = .str y u /\ entOk w es r'
theorem entOk.keys {w : World} {P : Program} : ∀ {es : List DictEntry} {r : List (Str × Str)}, entOk w es r -> ∀ e ∈ es, ∃ k, (zZ P w).is k e.key = true /\ e.hash = (zZ P w).hash k
 | [], _, _, e, he => nomatch he
 | e :: es, r, h, e', he => by
   obtain ⟨x, y, t, u, r', _, h1, h2, _, h4⟩ := h
   rcases List.mem_cons.mp he with rfl | he
   · exact ⟨.inr x, by rw [h2]; exact xO P w x t, h1⟩
   · exact entOk.keys h4 e' he
theorem cx_w {CX : CXT} {P : Program} {w : World} {K : PySem.W.Frag} {mg : Str -> Option Value} {base : Heap} {N : List Str} {qual : Str} {scope : Scope} {f : Addr} {cd : Value} {A : Around} {outer : List Env} {s : Shared} {H : Hp} {E : XK} : (jF CX P w K mg base N qual scope f cd A outer s H E).w = w := rfl
theorem bk_w {X : Cx} {xs ys : List Str} {scope : Scope} {C : Addr} {s₀ : Shared} {H₀ : Hp} {fp : List Addr} : (zX X xs ys scope C s₀ H₀ fp).w = X.w := rfl
theorem jA {K : PySem.W.Frag} {T : String} : PySem.W.kitOne K (.type T) (.type T) = some true := by
 unfold PySem.W.kitOne
 rw [if_pos (by simp)]
def kitF (S T : String) : Bool := !(Value.type S == Value.type T) && PySem.W.kitMeta T && ((PySem.fastBuiltinMro S).map (·.contains (.type T)) == some false)
theorem kit_f {K : PySem.W.Frag} {S T : String} (h : kitF S T = true) : PySem.W.kitOne K (.type S) (.type T) = some false := by
 unfold kitF at h
 simp only [Bool.and_eq_true, Bool.not_eq_true', beq_iff_eq] at h
 unfold PySem.W.kitOne
 rw [if_neg (by rw [h.1.1]; decide)]
 show (if PySem.W.kitMeta T = true then PySem.W.subIn K (.type S) (.type T) else none) = _
 rw [if_pos h.1.2]
 exact h.2
theorem kit_ib {K : PySem.W.Frag} : PySem.W.kitOne K (.type "int") (.type "bool") = some false := kit_f (by decide +kernel)
theorem Same.tup {K : PySem.W.Frag} {H H' : Hp} {a : Addr} {xs : List V} (e : Same H H') (h : SqT K H a xs) : SqT K H' a xs := by
 rcases h with (h | ⟨o, h⟩) | h
 · exact .inl (.inl (e _ _ h))
 · exact .inl (.inr ⟨o, e _ _ h⟩)
 · exact .inr h
theorem at0 {α : Type} {x : α} {xs : List α} : atI (x :: xs) 0 = some x := yU (j := 0) (xs := x :: xs) rfl
theorem at1 {α : Type} {x y : α} {xs : List α} : atI (x :: y :: xs) 1 = some y := yU (j := 1) (xs := x :: y :: xs) rfl
def dSay (p : Tm × Tm) : Dt := .tup [toD p.1, toD p.2]
abbrev SAts (H : Hp) (ps : List (Tm × Tm)) (vs : List V) : Prop := DAts H (ps.map dSay) vs
theorem SAts.length {H : Hp} {ps : List (Tm × Tm)} {vs : List V} (h : SAts H ps vs) : vs.length = ps.length := by
 have := DAts.length h
 rw [List.length_map] at this
 exact this
def cutI (ns : List Int) (lo hi : Option Int) : List Int := (ns.drop (HT.sIx ns.length 0 lo)).take (HT.sIx ns.length ns.length hi - HT.sIx ns.length 0 lo)
theorem cut_ints (ns : List Int) (lo hi : Option Int) : xL (ns.map V.int) lo hi = (cutI ns lo hi).map V.int := by
 unfold xL cutI
 rw [List.length_map, List.map_take, List.map_drop]
theorem cutI_len (ns : List Int) (lo hi : Option Int) : (cutI ns lo hi).length <= ns.length := by
 unfold cutI
 rw [List.length_take, List.length_drop]
 omega
section
variable {X : Cx} (K : PySem.W.Frag)
end
end L2
namespace L2
open PySem
abbrev Cs := List Nat
def glue (j : Cs) : List Cs -> Cs
 | [] => []
 | [s] => s
 | s :: r :: q => s ++ j ++ glue j (r :: q)
def jAnd : Cs := [32, 38, 32]
def jOr : Cs := [32, 124, 32]
def jOf (w : Str) : Cs := if w = "both" then jAnd else jOr
def wrN (w : Str) (ss : List Cs) : Cs := if w = "not" then 33 :: ss.headD [] else if ss = [] then w.cps.toList else 40 :: (glue (jOf w) ss ++ [41])
mutual
def wr : Tm -> Cs
 | .name x => x.cps.toList
 | .node w ts => wrN w (wrs ts)
def wrs : List Tm -> List Cs
 | [] => []
 | t :: ts => wr t :: wrs ts
end
end L2
namespace L2
open PySem
def toS (s : Cs) : Str := ⟨s.toArray⟩
section
variable {prog : Program} {w : World} {A : Around} {E : Value -> Shared -> Prop} {s : Shared} {a : Addr} {its : Array Value} {n : Nat} {sl : Array (Option Value)}
end
section
variable {prog : Program} {w : World} {A : Around} {E : Value -> Shared -> Prop} {h : Heap} {g : Array GenState} {d : Drawn} {t : Nat} {os : OsState} {a : Addr} {its : Array Value} {n : Nat} {sl : Array (Option Value)}
end
section
variable {prog : Program} {w : World} {Kt : Type} [DecidableEq Kt] {knd : KeyKind prog w Kt} {A : Around} {E : Value -> Shared -> Prop} {s : Shared}
end
section
variable {X : Cx}
end
end L2
namespace L2
open PySem PySem.Spec PyProof.Rows PySem.W
section
variable {prog : Program} {w : World} {A : Around} {E : Value -> Shared -> Prop} {s : Shared} {T : String} {r d : Addr} {n : Nat} {P : Nat -> Value -> Prop} {OK : Heap -> Prop}
end
section
variable {X : Cx}
end
section
variable {X : Cx}
end
end L2
namespace L2
open PySem PyProof.Rows
def byTx (w : World) : Bool := w.params.followText "set-order"
section
variable {prog : Program} {w : World} {A : Around} {E : Value -> Shared -> Prop} {s : Shared}
end
end L2
namespace L2
open PySem PyProof.Rows
section
variable {prog : Program} {w : World} {A : Around} {E : Value -> Shared -> Prop} {s : Shared}
end
end L2
namespace L2
open PySem PyProof.Rows
section
variable {prog : Program} {w : World} {A : Around} {E : Value -> Shared -> Prop} {s : Shared}
end
end L2
namespace L2
open PySem PyProof.Rows
section
variable {prog : Program} {w : World} {A : Around} {R : Result -> Shared -> Prop} {I : Addr} {fp wr : List Addr} {G : Array GenState -> Array GenState -> Prop} {n : Nat} {P : Nat -> Value -> Prop} {St : Nat -> Shared -> Prop}
end
section
variable {prog : Program} {w : World} {A : Around} {E : Value -> Shared -> Prop} {s : Shared}
theorem tx_new (a : Value) {Q₁ : Value -> Shared -> Prop}
   (h : ∀ led : Bool, (byTx w = true \/ led = true) -> Q₁ (.ref s.heap.objs.size) { s with heap := s.heap.push { cls := .type "set", dict := none, data := .set #[] 0 (.fresh 0 0 led) } }) :
   codeAny (model prog w) A (.call (.builtin "set.__new__") ⟨[.type "set", a], []⟩) (wants Q₁ E) s := by
 refine codeAny_of_tree ?_
 show wpAny _ A.in1 (do checkBuiltinCall "set.__new__" ⟨[.type "set", a], []⟩; again (.builtin "set.__new__" ⟨[.type "set", a], []⟩)) _ _ s
 refine wpAny_bind (wpAny_of_eq (PySem.F.newCall_set_1 a) (wpAny_pure ⟨plainId_quiet PySem.F.plain_set_new _, codeAny_builtin PySem.F.entry_set_new ?_⟩))
 rw [Around.under_plainId PySem.F.plain_set_new _]
 unfold Builtin.«set.__new__» Builtin.Frozenset.newClass
 have hsub := sub_set_self
 obtain ⟨hp, g, d, tk, os⟩ := s
 dsimp only
 wp_walk
 refine wpAny_askSetting (wpAny_pure ?_)
 dsimp only
 simp only [newObj]
 refine wpAny_bind (wpAny_alloc (wpAny_pure ?_))
 refine wpAny_pure (h _ ?_)
 show w.params.followText "set-order" = true \/ (!w.params.followText "set-order") = true
 cases w.params.followText "set-order"
 · exact .inr rfl
 · exact .inl rfl
end
end L2
namespace L2
open PySem PyProof.Rows
section
variable {prog : Program} {w : World} {A : Around} {E : Value -> Shared -> Prop} {s : Shared}
end
end L2
namespace L2
open PySem PySem.Spec PyProof.Rows PySem.SeqAt
mutual
def deq : Dt -> Dt -> Bool
 | .non, .non => true
 | .bl a, .bl b => a == b
 | .int a, .int b => a == b
 | .bl a, .int b => (if a then 1 else 0) == b
 | .int a, .bl b => a == (if b then 1 else 0)
 | .str a, .str b => a == b
 | .tup xs, .tup ys => deqs xs ys
 | .lst xs, .lst ys => deqs xs ys
 | _, _ => false
def deqs : List Dt -> List Dt -> Bool
 | [], [] => true
 | x :: xs, y :: ys => deq x y && deqs xs ys
 | _, _ => false
end
mutual
theorem deq_refl : ∀ d : Dt, deq d d = true
 | .non => rfl
 | .bl a => by simp [deq]
 | .int a => by simp [deq]
 | .str a => by simp [deq]
 | .tup ds => by rw [deq]; exact deqs_refl ds
 | .lst ds => by rw [deq]; exact deqs_refl ds
theorem deqs_refl : ∀ ds : List Dt, deqs ds ds = true
 | [] => rfl
 | d :: ds => by rw [deqs, deq_refl d, deqs_refl ds]; rfl
end
def eat (xs ys : List Dt) (j : Nat) : Bool :=
 match xs[j]?, ys[j]? with
 | some x, some y => deq x y
 | _, _ => false
theorem deqs_all : ∀ xs ys : List Dt, ((List.range (min xs.length ys.length)).all (eat xs ys) && xs.length == ys.length) = deqs xs ys
 | [], [] => rfl
 | [], y :: ys => by simp [deqs]
 | x :: xs, [] => by simp [deqs]
 | x :: xs, y :: ys => by
   rw [deqs, ← deqs_all xs ys, List.length_cons, List.length_cons, Nat.succ_min_succ, List.range_succ_eq_map, List.all_cons, List.all_map]
   have e1 : eat (x :: xs) (y :: ys) 0 = deq x y := rfl
   have e2 : eat (x :: xs) (y :: ys) ∘ Nat.succ = eat xs ys := by funext j; simp [eat]
   rw [e1, e2, Bool.and_assoc]
   congr 2
   rw [Bool.eq_iff_iff]
   simp
mutual
theorem DAt.one_of {H : Hp} : ∀ {d d' : Dt} {v : V}, DAt H d v -> DAt H d' v -> d = d'
 | d, .non, v, h, h' => by have h' : v = .non := h'; subst h'; cases d <;> simp_all [DAt]
 | d, .bl b, v, h, h' => by have h' : v = .bl b := h'; subst h'; cases d <;> simp_all [DAt]
 | d, .int b, v, h, h' => by have h' : v = .int b := h'; subst h'; cases d <;> simp_all [DAt]
 | d, .str b, v, h, h' => by have h' : v = .str b := h'; subst h'; cases d <;> simp_all [DAt]
 | d, .tup ds', v, h, h' => by
   obtain ⟨a, vs, rfl, e2, e3⟩ := h'
   cases d with
   | tup ds =>
     obtain ⟨a', vs', e1', e2', e3'⟩ := h
     cases e1'
     rw [e2] at e2'
     cases e2'
     rw [DAts.one_of e3' e3]
   | lst ds =>
     obtain ⟨a', vs', e1', e2', e3'⟩ := h
     cases e1'
     rw [e2] at e2'
     cases e2'
   | _ => cases h
 | d, .lst ds', v, h, h' => by
   obtain ⟨a, vs, rfl, e2, e3⟩ := h'
   cases d with
   | lst ds =>
     obtain ⟨a', vs', e1', e2', e3'⟩ := h
     cases e1'
     rw [e2] at e2'
     cases e2'
     rw [DAts.one_of e3' e3]
   | tup ds =>
     obtain ⟨a', vs', e1', e2', e3'⟩ := h
     cases e1'
     rw [e2] at e2'
     cases e2'
   | _ => cases h
theorem DAts.one_of {H : Hp} : ∀ {ds ds' : List Dt} {vs : List V}, DAts H ds vs -> DAts H ds' vs -> ds = ds'
 | ds, [], vs, h, h' => by
   have h' : vs = [] := h'
   subst h'
   cases ds with
   | nil => rfl
   | cons d ds => obtain ⟨v, r, e, _⟩ := h; cases e
 | ds, d' :: ds', vs, h, h' => by
   obtain ⟨v, r, rfl, e2, e3⟩ := h'
   cases ds with
   | nil => cases h
   | cons d ds =>
     obtain ⟨v', r', e, e2', e3'⟩ := h
     cases e
     rw [DAt.one_of e2' e2, DAts.one_of e3' e3]
end
section
variable {P : Program} {w : World} {H : Hp} {s : Shared}
theorem DAts.tup_of (ok : HOk P w H s.heap) {a : Addr} {vs : List V} (h : H a = some (.tup vs)) : ∃ its : List Value, Vals vs its /\ s.heap.IsTuple a its.toArray := by
 obtain ⟨z, its, r, p⟩ := ok a _ h
 exact ⟨its, r, p⟩
theorem DAts.lst_of (ok : HOk P w H s.heap) {a : Addr} {vs : List V} (h : H a = some (.lst vs)) : ∃ its : List Value, Vals vs its /\ s.heap.IsList a its.toArray := by
 obtain ⟨z, its, n, r, p⟩ := ok a _ h
 exact ⟨its, r, _, p, rfl, n, rfl⟩
theorem vals_at : ∀ {xs : List V} {us : List Value} {i : Nat} {x : V} {u : Value}, Vals xs us -> xs[i]? = some x -> us[i]? = some u -> RelV x u
 | _, _, _, _, _, .nil, h, _ => by simp at h
 | _, _, 0, _, _, .cons r q, h, h' => by
   simp at h h'
   subst h
   subst h'
   exact r
 | _, _, i + 1, _, _, .cons r q, h, h' => vals_at q (by simpa using h) (by simpa using h')
theorem rc_lists (ok : HOk P w H s.heap) {n : Nat} {A : Around} (ih : ∀ {A : Around} {d d' : Dt} {v v' : V} {u u' : Value}, DAt H d v -> DAt H d' v' -> RelV v u -> RelV v' u' -> DFit n d -> A.units + n < cLine -> EqAt A s u u' (deq d d'))
   {l l' : Addr} {ds ds' : List Dt} {vs vs' : List V} {its its' : List Value} (hs : DAts H ds vs) (hs' : DAts H ds' vs') (rv : Vals vs its) (rv' : Vals vs' its') (hl : s.heap.IsList l its.toArray) (hl' : s.heap.IsList l' its'.toArray)
   (f : ∀ d ∈ ds, DFit n d) (hu : A.units + (n + 1) < cLine) : RcAt A s (.ref l) (.ref l') (deqs ds ds') := by
 have k1 := hs.length
 have k2 := hs'.length
 have k3 := rv.length
 have k4 := rv'.length
 by_cases hz : ds.length = ds'.length
 · have key := RcAt.lists (A := A) (e := eat ds ds') hl hl' (by rw [List.size_toArray, List.size_toArray]; omega) (by omega) fun j h1 h2 => ?_
   · rw [← deqs_all, hz, Nat.min_self, beq_self_eq_true, Bool.and_true]
     rw [List.size_toArray] at key
     rw [show ds'.length = its.length by omega]
     exact key
   · rw [List.size_toArray] at h1 h2
     have hj : j < ds.length := by omega
     have hj' : j < ds'.length := by omega
     obtain ⟨x, x1, x2⟩ := hs.get (List.getElem?_eq_getElem hj)
     obtain ⟨y, y1, y2⟩ := hs'.get (List.getElem?_eq_getElem hj')
     have e1 : eat ds ds' j = deq ds[j] ds'[j] := by unfold eat; rw [List.getElem?_eq_getElem hj, List.getElem?_eq_getElem hj']
     rw [e1]
     refine ih x2 y2 ?_ ?_ (f _ (List.getElem_mem hj)) (by show A.units + 1 + n < cLine; omega)
     · exact vals_at rv x1 (by rw [List.getElem_toArray]; exact List.getElem?_eq_getElem h1)
     · exact vals_at rv' y1 (by rw [List.getElem_toArray]; exact List.getElem?_eq_getElem h2)
 · have hf : deqs ds ds' = false := by rw [← deqs_all, show (ds.length == ds'.length) = false by simpa using hz, Bool.and_false]
   rw [hf]
   exact RcAt.lists_lengths hl hl' (by rw [List.size_toArray, List.size_toArray]; simp; omega) (by omega)
theorem deq_same (ok : HOk P w H s.heap) {A : Around} {d : Dt} {v : V} {u u' : Value} (h : DAt H d v) (r : RelV v u) (r' : RelV v u') : EqAt A s u u' true := by
 cases d with
 | non => have h : v = .non := h; subst h; cases r; cases r'; exact EqAt.same _
 | bl a => have h : v = .bl a := h; subst h; cases r; cases r'; exact EqAt.same _
 | int a =>
   have h : v = .int a := h
   subst h
   obtain ⟨t, rfl⟩ := r
   obtain ⟨t', rfl⟩ := r'
   have := EqAt.int_int (A := A) (s := s) a t a t'
   rwa [beq_self_eq_true] at this
 | str a =>
   have h : v = .str a := h
   subst h
   obtain ⟨t, rfl⟩ := r
   obtain ⟨t', rfl⟩ := r'
   have := EqAt.str_str (A := A) (s := s) a t a t'
   rwa [beq_self_eq_true] at this
 | tup ds => obtain ⟨l, vs, rfl, _⟩ := h; cases r; cases r'; exact EqAt.same _
 | lst ds => obtain ⟨l, vs, rfl, _⟩ := h; cases r; cases r'; exact EqAt.same _
theorem qF (ok : HOk P w H s.heap) {A : Around} {d d' : Dt} {v v' : V} {u u' : Value} (h : DAt H d v) (h' : DAt H d' v') (r : RelV v u) (r' : RelV v' u') (hu : A.units < cLine) (hk : ∀ ds ds', ¬ (d = .tup ds /\ d' = .tup ds') /\ ¬ (d = .lst ds /\ d' = .lst ds')) : EqAt A s u u' (deq d d') := by
 cases d with
 | non =>
   have h : v = .non := h
   subst h
   cases r
   cases d' with
   | non =>
     have h' : v' = .non := h'
     subst h'
     cases r'
     simp only [deq]
     exact EqAt.same _
   | bl b =>
     have h' : v' = .bl b := h'
     subst h'
     cases r'
     simp only [deq]
     exact EqAt.none_bool _
   | int b =>
     have h' : v' = .int b := h'
     subst h'
     obtain ⟨t', rfl⟩ := r'
     simp only [deq]
     exact EqAt.none_int _ _
   | str b =>
     have h' : v' = .str b := h'
     subst h'
     obtain ⟨t', rfl⟩ := r'
     simp only [deq]
     exact EqAt.none_str _ _
   | tup ds' =>
     obtain ⟨l', vs', rfl, e', hs'⟩ := h'
     cases r'
     obtain ⟨its', rv', hl'⟩ := DAts.tup_of ok e'
     simp only [deq]
     exact EqAt.none_tuple hl' hu
   | lst ds' =>
     obtain ⟨l', vs', rfl, e', hs'⟩ := h'
     cases r'
     obtain ⟨its', rv', hl'⟩ := DAts.lst_of ok e'
     simp only [deq]
     exact EqAt.none_list hl' hu
 | bl a =>
   have h : v = .bl a := h
   subst h
   cases r
   cases d' with
   | non =>
     have h' : v' = .non := h'
     subst h'
     cases r'
     simp only [deq]
     exact EqAt.bool_none _
   | bl b =>
     have h' : v' = .bl b := h'
     subst h'
     cases r'
     simp only [deq]
     exact EqAt.bool_bool _ _
   | int b =>
     have h' : v' = .int b := h'
     subst h'
     obtain ⟨t', rfl⟩ := r'
     simp only [deq]
     exact EqAt.bool_int _ _ _
   | str b =>
     have h' : v' = .str b := h'
     subst h'
     obtain ⟨t', rfl⟩ := r'
     simp only [deq]
     exact EqAt.bool_str _ _ _
   | tup ds' =>
     obtain ⟨l', vs', rfl, e', hs'⟩ := h'
     cases r'
     obtain ⟨its', rv', hl'⟩ := DAts.tup_of ok e'
     simp only [deq]
     exact EqAt.bool_tuple _ hl' hu
   | lst ds' =>
     obtain ⟨l', vs', rfl, e', hs'⟩ := h'
     cases r'
     obtain ⟨its', rv', hl'⟩ := DAts.lst_of ok e'
     simp only [deq]
     exact EqAt.bool_list _ hl' hu
 | int a =>
   have h : v = .int a := h
   subst h
   obtain ⟨t, rfl⟩ := r
   cases d' with
   | non =>
     have h' : v' = .non := h'
     subst h'
     cases r'
     simp only [deq]
     exact EqAt.int_none _ _
   | bl b =>
     have h' : v' = .bl b := h'
     subst h'
     cases r'
     simp only [deq]
     exact EqAt.int_bool _ _ _
   | int b =>
     have h' : v' = .int b := h'
     subst h'
     obtain ⟨t', rfl⟩ := r'
     simp only [deq]
     exact EqAt.int_int _ _ _ _
   | str b =>
     have h' : v' = .str b := h'
     subst h'
     obtain ⟨t', rfl⟩ := r'
     simp only [deq]
     exact EqAt.int_str _ _ _ _
   | tup ds' =>
     obtain ⟨l', vs', rfl, e', hs'⟩ := h'
     cases r'
     obtain ⟨its', rv', hl'⟩ := DAts.tup_of ok e'
     simp only [deq]
     exact EqAt.int_tuple _ _ hl' hu
   | lst ds' =>
     obtain ⟨l', vs', rfl, e', hs'⟩ := h'
     cases r'
     obtain ⟨its', rv', hl'⟩ := DAts.lst_of ok e'
     simp only [deq]
     exact EqAt.int_list _ _ hl' hu
 | str a =>
   have h : v = .str a := h
   subst h
   obtain ⟨t, rfl⟩ := r
   cases d' with
   | non =>
     have h' : v' = .non := h'
     subst h'
     cases r'
     simp only [deq]
     exact EqAt.str_none _ _
   | bl b =>
     have h' : v' = .bl b := h'
     subst h'
     cases r'
     simp only [deq]
     exact EqAt.str_bool _ _ _
   | int b =>
     have h' : v' = .int b := h'
     subst h'
     obtain ⟨t', rfl⟩ := r'
     simp only [deq]
     exact EqAt.str_int _ _ _ _
   | str b =>
     have h' : v' = .str b := h'
     subst h'
     obtain ⟨t', rfl⟩ := r'
     simp only [deq]
     exact EqAt.str_str _ _ _ _
   | tup ds' =>
     obtain ⟨l', vs', rfl, e', hs'⟩ := h'
     cases r'
     obtain ⟨its', rv', hl'⟩ := DAts.tup_of ok e'
     simp only [deq]
     exact EqAt.str_tuple _ _ hl' hu
   | lst ds' =>
     obtain ⟨l', vs', rfl, e', hs'⟩ := h'
     cases r'
     obtain ⟨its', rv', hl'⟩ := DAts.lst_of ok e'
     simp only [deq]
     exact EqAt.str_list _ _ hl' hu
 | tup ds =>
   obtain ⟨l, vs, rfl, e, hs⟩ := h
   cases r
   obtain ⟨its, rv, hl⟩ := DAts.tup_of ok e
   cases d' with
   | non =>
     have h' : v' = .non := h'
     subst h'
     cases r'
     simp only [deq]
     exact EqAt.tuple_none hl hu
   | bl b =>
     have h' : v' = .bl b := h'
     subst h'
     cases r'
     simp only [deq]
     exact EqAt.tuple_bool _ hl hu
   | int b =>
     have h' : v' = .int b := h'
     subst h'
     obtain ⟨t', rfl⟩ := r'
     simp only [deq]
     exact EqAt.tuple_int _ _ hl hu
   | str b =>
     have h' : v' = .str b := h'
     subst h'
     obtain ⟨t', rfl⟩ := r'
     simp only [deq]
     exact EqAt.tuple_str _ _ hl hu
   | tup ds' => exact absurd ⟨rfl, rfl⟩ (hk _ _).1
   | lst ds' =>
     obtain ⟨l', vs', rfl, e', hs'⟩ := h'
     cases r'
     obtain ⟨its', rv', hl'⟩ := DAts.lst_of ok e'
     simp only [deq]
     exact EqAt.tuple_list hl hl' hu
 | lst ds =>
   obtain ⟨l, vs, rfl, e, hs⟩ := h
   cases r
   obtain ⟨its, rv, hl⟩ := DAts.lst_of ok e
   cases d' with
   | non =>
     have h' : v' = .non := h'
     subst h'
     cases r'
     simp only [deq]
     exact EqAt.list_none hl hu
   | bl b =>
     have h' : v' = .bl b := h'
     subst h'
     cases r'
     simp only [deq]
     exact EqAt.list_bool _ hl hu
   | int b =>
     have h' : v' = .int b := h'
     subst h'
     obtain ⟨t', rfl⟩ := r'
     simp only [deq]
     exact EqAt.list_int _ _ hl hu
   | str b =>
     have h' : v' = .str b := h'
     subst h'
     obtain ⟨t', rfl⟩ := r'
     simp only [deq]
     exact EqAt.list_str _ _ hl hu
   | tup ds' =>
     obtain ⟨l', vs', rfl, e', hs'⟩ := h'
     cases r'
     obtain ⟨its', rv', hl'⟩ := DAts.tup_of ok e'
     simp only [deq]
     exact EqAt.list_tuple hl hl' hu
   | lst ds' => exact absurd ⟨rfl, rfl⟩ (hk _ _).2
theorem jC (ok : HOk P w H s.heap) : ∀ (n : Nat) {A : Around} {d d' : Dt} {v v' : V} {u u' : Value}, DAt H d v -> DAt H d' v' -> RelV v u -> RelV v' u' -> DFit n d -> A.units + n < cLine -> EqAt A s u u' (deq d d') := by
 intro n
 induction n with
 | zero =>
   intro A d d' v v' u u' h h' r r' f hu
   exact qF ok h h' r r' hu fun ds ds' => ⟨fun e => by rw [e.1] at f; exact f, fun e => by rw [e.1] at f; exact f⟩
 | succ n ih =>
   intro A d d' v v' u u' h h' r r' f hu
   by_cases hvv : v = v'
   · subst hvv
     rw [DAt.one_of h h', deq_refl]
     have hd : d = d' := DAt.one_of h h'
     subst hd
     have hx := deq_same ok (A := A) h r r'
     exact hx
   cases d with
   | tup ds =>
     cases d' with
     | tup ds' =>
       obtain ⟨l, vs, rfl, e, hs⟩ := h
       obtain ⟨l', vs', rfl, e', hs'⟩ := h'
       cases r
       cases r'
       obtain ⟨its, rv, hl⟩ := DAts.tup_of ok e
       obtain ⟨its', rv', hl'⟩ := DAts.tup_of ok e'
       have k1 := hs.length
       have k2 := hs'.length
       have k3 := rv.length
       have k4 := rv'.length
       have key := RcAt.tuples (A := A) (e := eat ds ds') hl hl' (by omega) fun j h1 h2 => ?_
       · simp only [deq]
         rw [← deqs_all]
         refine EqAt.of_refs (fun z => hvv (by rw [z])) ?_
         rw [List.size_toArray, List.size_toArray] at key
         rw [← k1, ← k2, k3, k4]
         exact key
       · rw [List.size_toArray] at h1 h2
         have hj : j < ds.length := by omega
         have hj' : j < ds'.length := by omega
         obtain ⟨x, x1, x2⟩ := hs.get (List.getElem?_eq_getElem hj)
         obtain ⟨y, y1, y2⟩ := hs'.get (List.getElem?_eq_getElem hj')
         have e1 : eat ds ds' j = deq ds[j] ds'[j] := by unfold eat; rw [List.getElem?_eq_getElem hj, List.getElem?_eq_getElem hj']
         rw [e1]
         refine ih x2 y2 ?_ ?_ (f.2 _ (List.getElem_mem hj)) (by show A.units + 1 + n < cLine; omega)
         · exact vals_at rv x1 (by rw [List.getElem_toArray]; exact List.getElem?_eq_getElem h1)
         · exact vals_at rv' y1 (by rw [List.getElem_toArray]; exact List.getElem?_eq_getElem h2)
     | _ => exact qF ok h h' r r' (by omega) fun ds ds' => ⟨fun e => (by cases e.2), fun e => (by cases e.1)⟩
   | lst ds =>
     cases d' with
     | lst ds' =>
       obtain ⟨l, vs, rfl, e, hs⟩ := h
       obtain ⟨l', vs', rfl, e', hs'⟩ := h'
       cases r
       cases r'
       obtain ⟨its, rv, hl⟩ := DAts.lst_of ok e
       obtain ⟨its', rv', hl'⟩ := DAts.lst_of ok e'
       simp only [deq]
       exact EqAt.of_refs (fun z => hvv (by rw [z])) (rc_lists ok ih hs hs' rv rv' hl hl' f.2 hu)
     | _ => exact qF ok h h' r r' (by omega) fun ds ds' => ⟨fun e => (by cases e.1), fun e => (by cases e.2)⟩
   | _ => exact qF ok h h' r r' (by omega) fun ds ds' => ⟨fun e => (by cases e.1), fun e => (by cases e.1)⟩
end
section
variable {X : Cx}
end
end L2
namespace L2
open PySem PySem.Spec PyProof.Rows PySem.SeqAt
section
variable {X : Cx}
end
theorem cx_P {CX : CXT} {P : Program} {w : World} {K : PySem.W.Frag} {mg : Str -> Option Value} {base : Heap} {N : List Str} {qual : Str} {scope : Scope} {f : Addr} {cd : Value} {A : Around} {outer : List Env} {s : Shared} {H : Hp} {E : XK} : (jF CX P w K mg base N qual scope f cd A outer s H E).prog = P := rfl
end L2
local macro_rules | `(tactic| simp! [$ts,*]) => `(tactic| simp only [L2.tSeq, L2.tFor_eq, L2.tLC_eq, L2.iRng1, L2.iRng2, L2.iList, L2.iTup, L2.iStr, L2.tIfS, L2.tRet, L2.tRetN, L2.tNext, L2.tAsg, L2.gName, L2.tVar, L2.tC, L2.tOp, L2.rI0, L2.rI, L2.tTest, L2.tB, L2.rEq, L2.rNe, L2.tCall, L2.tCons, L2.tNil, L2.tCB, L2.tLst, L2.tTup, L2.tAnd, L2.tOr, L2.tNot, L2.tAndV, L2.tOrV, L2.tNotV, L2.tIf, L2.tDrop, L2.tSl, L2.tPart, L2.tNoPart, L2.tChain, L2.tUn, L2.rU, L2.start, L2.cx_K, L2.bk_K, L2.cx_calm, L2.bk_calm, L2.lenV_str, and_assoc, Option.join, List.length_map, List.length_append, decide_eq_true_eq, Bool.false_eq_true, if_false, if_true, Bool.not_true, Bool.not_false, Bool.not_eq_true', decide_eq_false_iff_not, Bool.true_eq_false, List.length_cons, List.length_nil, List.map_cons, List.map_nil, List.replicate, List.cons_append, List.nil_append, List.append_nil, List.getElem?_cons_zero, List.getElem?_cons_succ, List.set_cons_zero, List.set_cons_succ, Nat.reduceSub, Nat.reduceAdd, Option.some.injEq, L2.V.int.injEq, L2.V.str.injEq, L2.V.bl.injEq, L2.V.ref.injEq, List.cons.injEq, and_true, true_and, exists_eq_left', exists_eq_left, exists_and_left, exists_eq_right, exists_const, L2.tBM, L2.tBM0, L2.rAppend, L2.rPop, L2.rIxL, L2.rIxT, L2.rIxS, L2.rSlL, L2.rSlT, L2.rSlS, L2.rCat, L2.rCatT, L2.tKGet, L2.cx_w, L2.bk_w, L2.tDGet, L2.tDisp, L2.tPairs, L2.tDNewK, L2.cx_P, $ts,*])
namespace L2
open PySem PySem.Spec PyProof.Rows PySem.SeqAt
section
variable {P : Program} {w : World} {H : Hp} {s : Shared}
theorem rc_tups (ok : HOk P w H s.heap) {n : Nat} {A : Around} (ih : ∀ {A : Around} {d d' : Dt} {v v' : V} {u u' : Value}, DAt H d v -> DAt H d' v' -> RelV v u -> RelV v' u' -> DFit n d -> A.units + n < cLine -> EqAt A s u u' (deq d d'))
   {l l' : Addr} {ds ds' : List Dt} {vs vs' : List V} {its its' : List Value} (hs : DAts H ds vs) (hs' : DAts H ds' vs') (rv : Vals vs its) (rv' : Vals vs' its') (hl : s.heap.IsTuple l its.toArray) (hl' : s.heap.IsTuple l' its'.toArray)
   (f : ∀ d ∈ ds, DFit n d) (hu : A.units + (n + 1) < cLine) : RcAt A s (.ref l) (.ref l') (deqs ds ds') := by
 have k1 := hs.length
 have k2 := hs'.length
 have k3 := rv.length
 have k4 := rv'.length
 have at_ : ∀ j (h1 : j < its.toArray.size) (h2 : j < its'.toArray.size), EqAt A.in1 s its.toArray[j] its'.toArray[j] (eat ds ds' j) := fun j h1 h2 => by
   rw [List.size_toArray] at h1 h2
   have hj : j < ds.length := by omega
   have hj' : j < ds'.length := by omega
   obtain ⟨x, x1, x2⟩ := hs.get (List.getElem?_eq_getElem hj)
   obtain ⟨y, y1, y2⟩ := hs'.get (List.getElem?_eq_getElem hj')
   have e1 : eat ds ds' j = deq ds[j] ds'[j] := by unfold eat; rw [List.getElem?_eq_getElem hj, List.getElem?_eq_getElem hj']
   rw [e1]
   refine ih x2 y2 ?_ ?_ (f _ (List.getElem_mem hj)) (by show A.units + 1 + n < cLine; omega)
   · exact vals_at rv x1 (by rw [List.getElem_toArray]; exact List.getElem?_eq_getElem h1)
   · exact vals_at rv' y1 (by rw [List.getElem_toArray]; exact List.getElem?_eq_getElem h2)
 have key := RcAt.tuples (A := A) (e := eat ds ds') hl hl' (by omega) at_
 rw [List.size_toArray, List.size_toArray] at key
 rw [← deqs_all, ← k1, ← k2, k3, k4]
 exact key
theorem rn_tups (ok : HOk P w H s.heap) {n : Nat} {A : Around} (ih : ∀ {A : Around} {d d' : Dt} {v v' : V} {u u' : Value}, DAt H d v -> DAt H d' v' -> RelV v u -> RelV v' u' -> DFit n d -> A.units + n < cLine -> EqAt A s u u' (deq d d'))
   {l l' : Addr} {ds ds' : List Dt} {vs vs' : List V} {its its' : List Value} (hs : DAts H ds vs) (hs' : DAts H ds' vs') (rv : Vals vs its) (rv' : Vals vs' its') (hl : s.heap.IsTuple l its.toArray) (hl' : s.heap.IsTuple l' its'.toArray)
   (f : ∀ d ∈ ds, DFit n d) (hu : A.units + (n + 1) < cLine) : RcNeAt A s (.ref l) (.ref l') (!deqs ds ds') := by
 have k1 := hs.length
 have k2 := hs'.length
 have k3 := rv.length
 have k4 := rv'.length
 have at_ : ∀ j (h1 : j < its.toArray.size) (h2 : j < its'.toArray.size), EqAt A.in1 s its.toArray[j] its'.toArray[j] (eat ds ds' j) := fun j h1 h2 => by
   rw [List.size_toArray] at h1 h2
   have hj : j < ds.length := by omega
   have hj' : j < ds'.length := by omega
   obtain ⟨x, x1, x2⟩ := hs.get (List.getElem?_eq_getElem hj)
   obtain ⟨y, y1, y2⟩ := hs'.get (List.getElem?_eq_getElem hj')
   have e1 : eat ds ds' j = deq ds[j] ds'[j] := by unfold eat; rw [List.getElem?_eq_getElem hj, List.getElem?_eq_getElem hj']
   rw [e1]
   refine ih x2 y2 ?_ ?_ (f _ (List.getElem_mem hj)) (by show A.units + 1 + n < cLine; omega)
   · exact vals_at rv x1 (by rw [List.getElem_toArray]; exact List.getElem?_eq_getElem h1)
   · exact vals_at rv' y1 (by rw [List.getElem_toArray]; exact List.getElem?_eq_getElem h2)
 have key := RcNeAt.tuples (A := A) (e := eat ds ds') hl hl' (by omega) at_
 rw [List.size_toArray, List.size_toArray] at key
 rw [← deqs_all, ← k1, ← k2, k3, k4]
 exact key
theorem rn_lists (ok : HOk P w H s.heap) {n : Nat} {A : Around} (ih : ∀ {A : Around} {d d' : Dt} {v v' : V} {u u' : Value}, DAt H d v -> DAt H d' v' -> RelV v u -> RelV v' u' -> DFit n d -> A.units + n < cLine -> EqAt A s u u' (deq d d'))
   {l l' : Addr} {ds ds' : List Dt} {vs vs' : List V} {its its' : List Value} (hs : DAts H ds vs) (hs' : DAts H ds' vs') (rv : Vals vs its) (rv' : Vals vs' its') (hl : s.heap.IsList l its.toArray) (hl' : s.heap.IsList l' its'.toArray)
   (f : ∀ d ∈ ds, DFit n d) (hu : A.units + (n + 1) < cLine) : RcNeAt A s (.ref l) (.ref l') (!deqs ds ds') := by
 have k1 := hs.length
 have k2 := hs'.length
 have k3 := rv.length
 have k4 := rv'.length
 have at_ : ∀ j (h1 : j < its.toArray.size) (h2 : j < its'.toArray.size), EqAt A.in1 s its.toArray[j] its'.toArray[j] (eat ds ds' j) := fun j h1 h2 => by
   rw [List.size_toArray] at h1 h2
   have hj : j < ds.length := by omega
   have hj' : j < ds'.length := by omega
   obtain ⟨x, x1, x2⟩ := hs.get (List.getElem?_eq_getElem hj)
   obtain ⟨y, y1, y2⟩ := hs'.get (List.getElem?_eq_getElem hj')
   have e1 : eat ds ds' j = deq ds[j] ds'[j] := by unfold eat; rw [List.getElem?_eq_getElem hj, List.getElem?_eq_getElem hj']
   rw [e1]
   refine ih x2 y2 ?_ ?_ (f _ (List.getElem_mem hj)) (by show A.units + 1 + n < cLine; omega)
   · exact vals_at rv x1 (by rw [List.getElem_toArray]; exact List.getElem?_eq_getElem h1)
   · exact vals_at rv' y1 (by rw [List.getElem_toArray]; exact List.getElem?_eq_getElem h2)
 by_cases hz : ds.length = ds'.length
 · have key := RcNeAt.lists (A := A) (e := eat ds ds') hl hl' (by rw [List.size_toArray, List.size_toArray]; omega) (by omega) at_
   rw [← deqs_all, hz, Nat.min_self, beq_self_eq_true, Bool.and_true]
   rw [List.size_toArray] at key
   rw [show ds'.length = its.length by omega]
   exact key
 · have hf : deqs ds ds' = false := by rw [← deqs_all, show (ds.length == ds'.length) = false by simpa using hz, Bool.and_false]
   rw [hf]
   exact RcNeAt.lists_lengths hl hl' (by rw [List.size_toArray, List.size_toArray]; simp; omega) (by omega)
theorem rc_at (ok : HOk P w H s.heap) {n : Nat} {A : Around} {d d' : Dt} {v v' : V} {u u' : Value} (h : DAt H d v) (h' : DAt H d' v') (r : RelV v u) (r' : RelV v' u') (f : DFit (n + 1) d) (hu : A.units + (n + 1) < cLine) : RcAt A s u u' (deq d d') := by
 have hu0 : A.units < cLine := by omega
 cases d with
 | non =>
   have h : v = .non := h
   subst h
   cases r
   cases d' with
   | non =>
     have h' : v' = .non := h'
     subst h'
     cases r'
     simp only [deq, Bool.not_false, Bool.not_true]
     exact RcAt.none_none
   | bl b =>
     have h' : v' = .bl b := h'
     subst h'
     cases r'
     simp only [deq, Bool.not_false, Bool.not_true]
     exact RcAt.none_bool _
   | int b =>
     have h' : v' = .int b := h'
     subst h'
     obtain ⟨t', rfl⟩ := r'
     simp only [deq, Bool.not_false, Bool.not_true]
     exact RcAt.none_int _ _
   | str b =>
     have h' : v' = .str b := h'
     subst h'
     obtain ⟨t', rfl⟩ := r'
     simp only [deq, Bool.not_false, Bool.not_true]
     exact RcAt.none_str _ _
   | tup ds' =>
     obtain ⟨l', vs', rfl, e', hs'⟩ := h'
     cases r'
     obtain ⟨its', rv', hl'⟩ := DAts.tup_of ok e'
     simp only [deq, Bool.not_false, Bool.not_true]
     exact RcAt.none_tuple hl' hu0
   | lst ds' =>
     obtain ⟨l', vs', rfl, e', hs'⟩ := h'
     cases r'
     obtain ⟨its', rv', hl'⟩ := DAts.lst_of ok e'
     simp only [deq, Bool.not_false, Bool.not_true]
     exact RcAt.none_list hl' hu0
 | bl a =>
   have h : v = .bl a := h
   subst h
   cases r
   cases d' with
   | non =>
     have h' : v' = .non := h'
     subst h'
     cases r'
     simp only [deq, Bool.not_false, Bool.not_true]
     exact RcAt.bool_none _
   | bl b =>
     have h' : v' = .bl b := h'
     subst h'
     cases r'
     simp only [deq, Bool.not_false, Bool.not_true]
     exact RcAt.bool_bool _ _
   | int b =>
     have h' : v' = .int b := h'
     subst h'
     obtain ⟨t', rfl⟩ := r'
     simp only [deq, Bool.not_false, Bool.not_true]
     exact RcAt.bool_int _ _ _
   | str b =>
     have h' : v' = .str b := h'
     subst h'
     obtain ⟨t', rfl⟩ := r'
     simp only [deq, Bool.not_false, Bool.not_true]
     exact RcAt.bool_str _ _ _
   | tup ds' =>
     obtain ⟨l', vs', rfl, e', hs'⟩ := h'
     cases r'
     obtain ⟨its', rv', hl'⟩ := DAts.tup_of ok e'
     simp only [deq, Bool.not_false, Bool.not_true]
     exact RcAt.bool_tuple _ hl' hu0
   | lst ds' =>
     obtain ⟨l', vs', rfl, e', hs'⟩ := h'
     cases r'
     obtain ⟨its', rv', hl'⟩ := DAts.lst_of ok e'
     simp only [deq, Bool.not_false, Bool.not_true]
     exact RcAt.bool_list _ hl' hu0
 | int a =>
   have h : v = .int a := h
   subst h
   obtain ⟨t, rfl⟩ := r
   cases d' with
   | non =>
     have h' : v' = .non := h'
     subst h'
     cases r'
     simp only [deq, Bool.not_false, Bool.not_true]
     exact RcAt.int_none _ _
   | bl b =>
     have h' : v' = .bl b := h'
     subst h'
     cases r'
     simp only [deq, Bool.not_false, Bool.not_true]
     exact RcAt.int_bool _ _ _
   | int b =>
     have h' : v' = .int b := h'
     subst h'
     obtain ⟨t', rfl⟩ := r'
     simp only [deq, Bool.not_false, Bool.not_true]
     exact RcAt.int_int _ _ _ _
   | str b =>
     have h' : v' = .str b := h'
     subst h'
     obtain ⟨t', rfl⟩ := r'
     simp only [deq, Bool.not_false, Bool.not_true]
     exact RcAt.int_str _ _ _ _
   | tup ds' =>
     obtain ⟨l', vs', rfl, e', hs'⟩ := h'
     cases r'
     obtain ⟨its', rv', hl'⟩ := DAts.tup_of ok e'
     simp only [deq, Bool.not_false, Bool.not_true]
     exact RcAt.int_tuple _ _ hl' hu0
   | lst ds' =>
     obtain ⟨l', vs', rfl, e', hs'⟩ := h'
     cases r'
     obtain ⟨its', rv', hl'⟩ := DAts.lst_of ok e'
     simp only [deq, Bool.not_false, Bool.not_true]
     exact RcAt.int_list _ _ hl' hu0
 | str a =>
   have h : v = .str a := h
   subst h
   obtain ⟨t, rfl⟩ := r
   cases d' with
   | non =>
     have h' : v' = .non := h'
     subst h'
     cases r'
     simp only [deq, Bool.not_false, Bool.not_true]
     exact RcAt.str_none _ _
   | bl b =>
     have h' : v' = .bl b := h'
     subst h'
     cases r'
     simp only [deq, Bool.not_false, Bool.not_true]
     exact RcAt.str_bool _ _ _
   | int b =>
     have h' : v' = .int b := h'
     subst h'
     obtain ⟨t', rfl⟩ := r'
     simp only [deq, Bool.not_false, Bool.not_true]
     exact RcAt.str_int _ _ _ _
   | str b =>
     have h' : v' = .str b := h'
     subst h'
     obtain ⟨t', rfl⟩ := r'
     simp only [deq, Bool.not_false, Bool.not_true]
     exact RcAt.str_str _ _ _ _
   | tup ds' =>
     obtain ⟨l', vs', rfl, e', hs'⟩ := h'
     cases r'
     obtain ⟨its', rv', hl'⟩ := DAts.tup_of ok e'
     simp only [deq, Bool.not_false, Bool.not_true]
     exact RcAt.str_tuple _ _ hl' hu0
   | lst ds' =>
     obtain ⟨l', vs', rfl, e', hs'⟩ := h'
     cases r'
     obtain ⟨its', rv', hl'⟩ := DAts.lst_of ok e'
     simp only [deq, Bool.not_false, Bool.not_true]
     exact RcAt.str_list _ _ hl' hu0
 | tup ds =>
   obtain ⟨l, vs, rfl, e, hs⟩ := h
   cases r
   obtain ⟨its, rv, hl⟩ := DAts.tup_of ok e
   cases d' with
   | non =>
     have h' : v' = .non := h'
     subst h'
     cases r'
     simp only [deq, Bool.not_false, Bool.not_true]
     exact RcAt.tuple_none hl hu0
   | bl b =>
     have h' : v' = .bl b := h'
     subst h'
     cases r'
     simp only [deq, Bool.not_false, Bool.not_true]
     exact RcAt.tuple_bool _ hl hu0
   | int b =>
     have h' : v' = .int b := h'
     subst h'
     obtain ⟨t', rfl⟩ := r'
     simp only [deq, Bool.not_false, Bool.not_true]
     exact RcAt.tuple_int _ _ hl hu0
   | str b =>
     have h' : v' = .str b := h'
     subst h'
     obtain ⟨t', rfl⟩ := r'
     simp only [deq, Bool.not_false, Bool.not_true]
     exact RcAt.tuple_str _ _ hl hu0
   | tup ds' =>
     obtain ⟨l', vs', rfl, e', hs'⟩ := h'
     cases r'
     obtain ⟨its', rv', hl'⟩ := DAts.tup_of ok e'
     simp only [deq, Bool.not_false, Bool.not_true]
     exact rc_tups ok (jC ok n) hs hs' rv rv' hl hl' f.2 hu
   | lst ds' =>
     obtain ⟨l', vs', rfl, e', hs'⟩ := h'
     cases r'
     obtain ⟨its', rv', hl'⟩ := DAts.lst_of ok e'
     simp only [deq, Bool.not_false, Bool.not_true]
     exact RcAt.tuple_list hl hl' hu0
 | lst ds =>
   obtain ⟨l, vs, rfl, e, hs⟩ := h
   cases r
   obtain ⟨its, rv, hl⟩ := DAts.lst_of ok e
   cases d' with
   | non =>
     have h' : v' = .non := h'
     subst h'
     cases r'
     simp only [deq, Bool.not_false, Bool.not_true]
     exact RcAt.list_none hl hu0
   | bl b =>
     have h' : v' = .bl b := h'
     subst h'
     cases r'
     simp only [deq, Bool.not_false, Bool.not_true]
     exact RcAt.list_bool _ hl hu0
   | int b =>
     have h' : v' = .int b := h'
     subst h'
     obtain ⟨t', rfl⟩ := r'
     simp only [deq, Bool.not_false, Bool.not_true]
     exact RcAt.list_int _ _ hl hu0
   | str b =>
     have h' : v' = .str b := h'
     subst h'
     obtain ⟨t', rfl⟩ := r'
     simp only [deq, Bool.not_false, Bool.not_true]
     exact RcAt.list_str _ _ hl hu0
   | tup ds' =>
     obtain ⟨l', vs', rfl, e', hs'⟩ := h'
     cases r'
     obtain ⟨its', rv', hl'⟩ := DAts.tup_of ok e'
     simp only [deq, Bool.not_false, Bool.not_true]
     exact RcAt.list_tuple hl hl' hu0
   | lst ds' =>
     obtain ⟨l', vs', rfl, e', hs'⟩ := h'
     cases r'
     obtain ⟨its', rv', hl'⟩ := DAts.lst_of ok e'
     simp only [deq, Bool.not_false, Bool.not_true]
     exact rc_lists ok (jC ok n) hs hs' rv rv' hl hl' f.2 hu
theorem rn_at (ok : HOk P w H s.heap) {n : Nat} {A : Around} {d d' : Dt} {v v' : V} {u u' : Value} (h : DAt H d v) (h' : DAt H d' v') (r : RelV v u) (r' : RelV v' u') (f : DFit (n + 1) d) (hu : A.units + (n + 1) < cLine) : RcNeAt A s u u' (!deq d d') := by
 have hu0 : A.units < cLine := by omega
 cases d with
 | non =>
   have h : v = .non := h
   subst h
   cases r
   cases d' with
   | non =>
     have h' : v' = .non := h'
     subst h'
     cases r'
     simp only [deq, Bool.not_false, Bool.not_true]
     exact RcNeAt.none_none
   | bl b =>
     have h' : v' = .bl b := h'
     subst h'
     cases r'
     simp only [deq, Bool.not_false, Bool.not_true]
     exact RcNeAt.none_bool _
   | int b =>
     have h' : v' = .int b := h'
     subst h'
     obtain ⟨t', rfl⟩ := r'
     simp only [deq, Bool.not_false, Bool.not_true]
     exact RcNeAt.none_int _ _
   | str b =>
     have h' : v' = .str b := h'
     subst h'
     obtain ⟨t', rfl⟩ := r'
     simp only [deq, Bool.not_false, Bool.not_true]
     exact RcNeAt.none_str _ _
   | tup ds' =>
     obtain ⟨l', vs', rfl, e', hs'⟩ := h'
     cases r'
     obtain ⟨its', rv', hl'⟩ := DAts.tup_of ok e'
     simp only [deq, Bool.not_false, Bool.not_true]
     exact RcNeAt.none_tuple hl' hu0
   | lst ds' =>
     obtain ⟨l', vs', rfl, e', hs'⟩ := h'
     cases r'
     obtain ⟨its', rv', hl'⟩ := DAts.lst_of ok e'
     simp only [deq, Bool.not_false, Bool.not_true]
     exact RcNeAt.none_list hl' hu0
 | bl a =>
   have h : v = .bl a := h
   subst h
   cases r
   cases d' with
   | non =>
     have h' : v' = .non := h'
     subst h'
     cases r'
     simp only [deq, Bool.not_false, Bool.not_true]
     exact RcNeAt.bool_none _
   | bl b =>
     have h' : v' = .bl b := h'
     subst h'
     cases r'
     simp only [deq, Bool.not_false, Bool.not_true]
     exact RcNeAt.bool_bool _ _
   | int b =>
     have h' : v' = .int b := h'
     subst h'
     obtain ⟨t', rfl⟩ := r'
     simp only [deq, Bool.not_false, Bool.not_true]
     exact RcNeAt.bool_int _ _ _
   | str b =>
     have h' : v' = .str b := h'
     subst h'
     obtain ⟨t', rfl⟩ := r'
     simp only [deq, Bool.not_false, Bool.not_true]
     exact RcNeAt.bool_str _ _ _
   | tup ds' =>
     obtain ⟨l', vs', rfl, e', hs'⟩ := h'
     cases r'
     obtain ⟨its', rv', hl'⟩ := DAts.tup_of ok e'
     simp only [deq, Bool.not_false, Bool.not_true]
     exact RcNeAt.bool_tuple _ hl' hu0
   | lst ds' =>
     obtain ⟨l', vs', rfl, e', hs'⟩ := h'
     cases r'
     obtain ⟨its', rv', hl'⟩ := DAts.lst_of ok e'
     simp only [deq, Bool.not_false, Bool.not_true]
     exact RcNeAt.bool_list _ hl' hu0
 | int a =>
   have h : v = .int a := h
   subst h
   obtain ⟨t, rfl⟩ := r
   cases d' with
   | non =>
     have h' : v' = .non := h'
     subst h'
     cases r'
     simp only [deq, Bool.not_false, Bool.not_true]
     exact RcNeAt.int_none _ _
   | bl b =>
     have h' : v' = .bl b := h'
     subst h'
     cases r'
     simp only [deq, Bool.not_false, Bool.not_true]
     exact RcNeAt.int_bool _ _ _
   | int b =>
     have h' : v' = .int b := h'
     subst h'
     obtain ⟨t', rfl⟩ := r'
     simp only [deq, Bool.not_false, Bool.not_true]
     exact RcNeAt.int_int _ _ _ _
   | str b =>
     have h' : v' = .str b := h'
     subst h'
     obtain ⟨t', rfl⟩ := r'
     simp only [deq, Bool.not_false, Bool.not_true]
     exact RcNeAt.int_str _ _ _ _
   | tup ds' =>
     obtain ⟨l', vs', rfl, e', hs'⟩ := h'
     cases r'
     obtain ⟨its', rv', hl'⟩ := DAts.tup_of ok e'
     simp only [deq, Bool.not_false, Bool.not_true]
     exact RcNeAt.int_tuple _ _ hl' hu0
   | lst ds' =>
     obtain ⟨l', vs', rfl, e', hs'⟩ := h'
     cases r'
     obtain ⟨its', rv', hl'⟩ := DAts.lst_of ok e'
     simp only [deq, Bool.not_false, Bool.not_true]
     exact RcNeAt.int_list _ _ hl' hu0
 | str a =>
   have h : v = .str a := h
   subst h
   obtain ⟨t, rfl⟩ := r
   cases d' with
   | non =>
     have h' : v' = .non := h'
     subst h'
     cases r'
     simp only [deq, Bool.not_false, Bool.not_true]
     exact RcNeAt.str_none _ _
   | bl b =>
     have h' : v' = .bl b := h'
     subst h'
     cases r'
     simp only [deq, Bool.not_false, Bool.not_true]
     exact RcNeAt.str_bool _ _ _
   | int b =>
     have h' : v' = .int b := h'
     subst h'
     obtain ⟨t', rfl⟩ := r'
     simp only [deq, Bool.not_false, Bool.not_true]
     exact RcNeAt.str_int _ _ _ _
   | str b =>
     have h' : v' = .str b := h'
     subst h'
     obtain ⟨t', rfl⟩ := r'
     simp only [deq, Bool.not_false, Bool.not_true]
     exact RcNeAt.str_str _ _ _ _
   | tup ds' =>
     obtain ⟨l', vs', rfl, e', hs'⟩ := h'
     cases r'
     obtain ⟨its', rv', hl'⟩ := DAts.tup_of ok e'
     simp only [deq, Bool.not_false, Bool.not_true]
     exact RcNeAt.str_tuple _ _ hl' hu0
   | lst ds' =>
     obtain ⟨l', vs', rfl, e', hs'⟩ := h'
     cases r'
     obtain ⟨its', rv', hl'⟩ := DAts.lst_of ok e'
     simp only [deq, Bool.not_false, Bool.not_true]
     exact RcNeAt.str_list _ _ hl' hu0
 | tup ds =>
   obtain ⟨l, vs, rfl, e, hs⟩ := h
   cases r
   obtain ⟨its, rv, hl⟩ := DAts.tup_of ok e
   cases d' with
   | non =>
     have h' : v' = .non := h'
     subst h'
     cases r'
     simp only [deq, Bool.not_false, Bool.not_true]
     exact RcNeAt.tuple_none hl hu0
   | bl b =>
     have h' : v' = .bl b := h'
     subst h'
     cases r'
     simp only [deq, Bool.not_false, Bool.not_true]
     exact RcNeAt.tuple_bool _ hl hu0
   | int b =>
     have h' : v' = .int b := h'
     subst h'
     obtain ⟨t', rfl⟩ := r'
     simp only [deq, Bool.not_false, Bool.not_true]
     exact RcNeAt.tuple_int _ _ hl hu0
   | str b =>
     have h' : v' = .str b := h'
     subst h'
     obtain ⟨t', rfl⟩ := r'
     simp only [deq, Bool.not_false, Bool.not_true]
     exact RcNeAt.tuple_str _ _ hl hu0
   | tup ds' =>
     obtain ⟨l', vs', rfl, e', hs'⟩ := h'
     cases r'
     obtain ⟨its', rv', hl'⟩ := DAts.tup_of ok e'
     simp only [deq, Bool.not_false, Bool.not_true]
     exact rn_tups ok (jC ok n) hs hs' rv rv' hl hl' f.2 hu
   | lst ds' =>
     obtain ⟨l', vs', rfl, e', hs'⟩ := h'
     cases r'
     obtain ⟨its', rv', hl'⟩ := DAts.lst_of ok e'
     simp only [deq, Bool.not_false, Bool.not_true]
     exact RcNeAt.tuple_list hl hl' hu0
 | lst ds =>
   obtain ⟨l, vs, rfl, e, hs⟩ := h
   cases r
   obtain ⟨its, rv, hl⟩ := DAts.lst_of ok e
   cases d' with
   | non =>
     have h' : v' = .non := h'
     subst h'
     cases r'
     simp only [deq, Bool.not_false, Bool.not_true]
     exact RcNeAt.list_none hl hu0
   | bl b =>
     have h' : v' = .bl b := h'
     subst h'
     cases r'
     simp only [deq, Bool.not_false, Bool.not_true]
     exact RcNeAt.list_bool _ hl hu0
   | int b =>
     have h' : v' = .int b := h'
     subst h'
     obtain ⟨t', rfl⟩ := r'
     simp only [deq, Bool.not_false, Bool.not_true]
     exact RcNeAt.list_int _ _ hl hu0
   | str b =>
     have h' : v' = .str b := h'
     subst h'
     obtain ⟨t', rfl⟩ := r'
     simp only [deq, Bool.not_false, Bool.not_true]
     exact RcNeAt.list_str _ _ hl hu0
   | tup ds' =>
     obtain ⟨l', vs', rfl, e', hs'⟩ := h'
     cases r'
     obtain ⟨its', rv', hl'⟩ := DAts.tup_of ok e'
     simp only [deq, Bool.not_false, Bool.not_true]
     exact RcNeAt.list_tuple hl hl' hu0
   | lst ds' =>
     obtain ⟨l', vs', rfl, e', hs'⟩ := h'
     cases r'
     obtain ⟨its', rv', hl'⟩ := DAts.lst_of ok e'
     simp only [deq, Bool.not_false, Bool.not_true]
     exact rn_lists ok (jC ok n) hs hs' rv rv' hl hl' f.2 hu
end
section
variable {X : Cx}
def rEqG : R2 := fun x y H Q => ∃ n d d', DAt H d x /\ DAt H d' y /\ DFit (n + 1) d /\ n <= 60 /\ Q (.bl (deq d d')) H
theorem op_eqG (hu : X.A.units + 64 < cLine) : OpR X (compareOp .Eq) rEqG := by
 intro pins s σ H x y v u Q I rx ry h
 obtain ⟨n, d, d', h1, h2, f, hn, q⟩ := h
 exact rc_at I.hok h1 h2 rx ry f (by omega) X.prog X.w _ _ (zL I q rfl)
def rInG (neg : Bool) : R2 := fun x y H Q => ∃ n d ds, DAt H d x /\ (DAt H (.lst ds) y \/ DAt H (.tup ds) y) /\ (∀ e ∈ ds, DFit n e) /\ n <= 60 /\ Q (.bl (neg ^^ ds.any fun e => deq e d)) H
open Classical in
theorem qD {H : Hp} {its : List Value} {vs : List V} {ds : List Dt} {d : Dt} (hs : DAts H ds vs) (rv : Vals vs its) (e : Value -> Bool) (he : ∀ y, e y = decide (∃ d' v', DAt H d' v' /\ RelV v' y /\ deq d' d = true)) : its.toArray.any e = ds.any fun e => deq e d := by
 rw [List.any_toArray]
 induction ds generalizing vs its with
 | nil =>
   have hs : vs = [] := hs
   subst hs
   cases rv
   rfl
 | cons d0 ds ih =>
   obtain ⟨v, r, rfl, e1, e2⟩ := hs
   cases rv with
   | cons rr rt =>
     rename_i u us
     rw [List.any_cons, List.any_cons, ih e2 rt, he]
     congr 1
     rw [Bool.eq_iff_iff, decide_eq_true_eq]
     constructor
     · rintro ⟨d', v', q1, q2, q3⟩
       have := RelV.inj q2 rr
       subst this
       rw [DAt.one_of e1 q1]
       exact q3
     · intro q
       exact ⟨d0, v, e1, rr, q⟩
open Classical in
theorem in_eq {P : Program} {w : World} {H : Hp} {s : Shared} {A : Around} (ok : HOk P w H s.heap) {its : List Value} {vs : List V} {ds : List Dt} {d : Dt} {x : V} {u : Value} {n : Nat} (hs : DAts H ds vs) (rv : Vals vs its) (hx : DAt H d x) (ru : RelV x u) (f : ∀ e ∈ ds, DFit n e) (hu : A.units + (n + 1) < cLine)
   (y : Value) (hy : y ∈ its.toArray) : EqAt A.in1 s y u (decide (∃ d' v', DAt H d' v' /\ RelV v' y /\ deq d' d = true)) := by
 obtain ⟨j, hj, e⟩ := List.getElem_of_mem (show y ∈ its by simpa using hy)
 have k1 := hs.length
 have k2 := rv.length
 have hjd : j < ds.length := by omega
 obtain ⟨v, v1, v2⟩ := hs.get (List.getElem?_eq_getElem hjd)
 have rr : RelV v y := vals_at rv v1 (by rw [List.getElem?_eq_getElem hj, e])
 have : decide (∃ d' v', DAt H d' v' /\ RelV v' y /\ deq d' d = true) = deq ds[j] d := by
   rw [Bool.eq_iff_iff, decide_eq_true_eq]
   constructor
   · rintro ⟨d', v', q1, q2, q3⟩
     have := RelV.inj q2 rr
     subst this
     rw [DAt.one_of v2 q1]
     exact q3
   · intro q
     exact ⟨_, v, v2, rr, q⟩
 rw [this]
 exact jC ok n v2 hx rr ru (f _ (List.getElem_mem hjd)) (by show A.units + 1 + n < cLine; omega)
theorem op_inG (hu : X.A.units + 64 < cLine) : OpR X (compareOp .In) (rInG false) := by
 intro pins s σ H x y v u Q I rx ry h
 obtain ⟨n, d, ds, hx, hy, f, hn, q⟩ := h
 rw [Bool.false_xor] at q
 rcases hy with ⟨l, vs, rfl, e, hs⟩ | ⟨l, vs, rfl, e, hs⟩
 · cases ry
   obtain ⟨its, rv, hl⟩ := DAts.lst_of I.hok e
   refine in_listAt _ hl (in_eq I.hok hs rv hx rx f (by omega)) (zL I q ?_)
   exact (qD hs rv _ fun _ => rfl).symm
 · cases ry
   obtain ⟨its, rv, hl⟩ := DAts.tup_of I.hok e
   refine in_tupleAt _ hl (in_eq I.hok hs rv hx rx f (by omega)) (zL I q ?_)
   exact (qD hs rv _ fun _ => rfl).symm
theorem op_notInG (hu : X.A.units + 64 < cLine) : OpR X (compareOp .NotIn) (rInG true) := by
 intro pins s σ H x y v u Q I rx ry h
 obtain ⟨n, d, ds, hx, hy, f, hn, q⟩ := h
 rw [Bool.true_xor] at q
 rcases hy with ⟨l, vs, rfl, e, hs⟩ | ⟨l, vs, rfl, e, hs⟩
 · cases ry
   obtain ⟨its, rv, hl⟩ := DAts.lst_of I.hok e
   refine notIn_listAt _ hl (in_eq I.hok hs rv hx rx f (by omega)) (zL I q ?_)
   rw [qD hs rv _ fun _ => rfl]
 · cases ry
   obtain ⟨its, rv, hl⟩ := DAts.tup_of I.hok e
   refine notIn_tupleAt _ hl (in_eq I.hok hs rv hx rx f (by omega)) (zL I q ?_)
   rw [qD hs rv _ fun _ => rfl]
end
end L2
namespace L2
open PySem PySem.Spec PyProof.Rows PySem.SeqAt
section
variable {prog : Program} {w : World} {A : Around} {E : Value -> Shared -> Prop} {s : Shared}
structure Apt (z TI TO i1 i2 l1 l2 : Addr) : Prop where
 nd : [z, TI, TO, i1, i2].Nodup
 a1 : l1 ≠ z /\ l1 ≠ TO /\ l1 ≠ i1 /\ l1 ≠ i2
 a2 : l2 ≠ z /\ l2 ≠ TO /\ l2 ≠ i1 /\ l2 ≠ i2
end
section
variable {X : Cx} {pins : List (Addr × Obj)} {σ : St} {H : Hp} {s : Shared} {h' : Heap}
theorem Inv.turnedL {t' : Nat} {ch : List Addr} (I : Inv X pins σ H s) (k : ∀ b o, b ∉ ch -> s.heap.get? b = some o -> h'.get? b = some o) (hf : ∀ b ∈ ch, jD X pins H b) : Inv X pins σ H { s with heap := h', toks := t' } := by
 have nit : ∀ b u, H b = some u -> b ∉ ch := fun b u e z => by rw [(hf b z).1] at e; cases e
 have hL : X.env.locals ∉ ch := fun z => (hf _ z).2.1 rfl
 refine I.step (g' := s.gens) (d' := s.drawn) (ch := ch) (fun b hb => ?_) (fun b o _ _ hc e _ => k b o hc e) (fun b o _ _ hc e _ => ⟨o.slots, k b o hc e⟩) (fun _ _ _ _ n => n) (fun b o hc e => ⟨o, k b o hc e⟩) (fun _ _ e => e) (fun _ _ _ e => e) (fun b ps e => ⟨#[], by rw [e]; simp⟩) (fun m hm => ?_) (fun b u e => ?_) I.bare
 · obtain ⟨f0, f1, f2, f3, f4, f5⟩ := hf b hb
   exact ⟨f3, f1, f4, f5⟩
 · obtain ⟨o, es, ep, ho, r⟩ := hm
   exact ⟨o, es, ep, k _ o hL ho, r⟩
 · refine (I.hok b u e).stay (fun c v hc q => k c v ?_ q) (fun _ q => q) fun _ _ q => q
   rcases hc with z | z
   · rw [z]; exact nit b u e
   · exact nit c _ z
theorem Inv.turnedN {t' : Nat} {ch : List Addr} {p : Addr} {o : HO} (I : Inv X pins σ H s) (k : ∀ b o, b ∉ ch -> s.heap.get? b = some o -> h'.get? b = some o) (hf : ∀ b ∈ ch, jD X pins H b) (hp : s.heap.objs.size <= p) (new : ObjOk X.prog X.w (upd H p o) h' p o) :
   Inv X pins σ (upd H p o) { s with heap := h', toks := t' } := by
 have nit : ∀ b u, H b = some u -> b ∉ ch := fun b u e z => by rw [(hf b z).1] at e; cases e
 have hL : X.env.locals ∉ ch := fun z => (hf _ z).2.1 rfl
 have hn := I.hok.fresh hp
 have nep : ∀ {b : Addr} {u : HO}, H b = some u -> b ≠ p := fun e z => by rw [z, hn] at e; cases e
 refine I.step (g' := s.gens) (d' := s.drawn) (ch := ch) (fun b hb => ?_) (fun b o _ _ hc e _ => k b o hc e) (fun b o _ _ hc e _ => ⟨o.slots, k b o hc e⟩) (fun b u _ e n => ?_) (fun b o hc e => ⟨o, k b o hc e⟩) (fun _ _ e => by rw [zP (nep e)]; exact e) (fun _ _ _ e => by rw [zP (nep e)]; exact e) (fun b ps e => ⟨#[], by rw [zP (nep e), e]; simp⟩) (fun m hm => ?_) (fun b u e => ?_) I.bare
 · obtain ⟨f0, f1, f2, f3, f4, f5⟩ := hf b hb
   exact ⟨f3, f1, f4, f5⟩
 · rw [zP (Nat.ne_of_lt (Nat.lt_of_lt_of_le (Heap.lt_size e) hp))]
   exact n
 · obtain ⟨o, es, ep, ho, r⟩ := hm
   exact ⟨o, es, ep, k _ o hL ho, r⟩
 · by_cases hb : b = p
   · subst hb
     rw [zC] at e
     cases e
     exact new
   · rw [zP hb] at e
     refine (I.hok b u e).stay (fun c v hc q => k c v ?_ q) (fun c q => by rw [zP (nep q)]; exact q) fun c _ q => by rw [zP (nep q)]; exact q
     rcases hc with z | z
     · rw [z]; exact nit b u e
     · exact nit c _ z
end
section
variable {X : Cx}
end
end L2
namespace L2
open PySem PySem.Spec PyProof.Rows PySem.SeqAt
end L2
namespace L2
open PySem
def Ris (xs : Array Nat) : Prop := xs.toList.Pairwise (· < ·)
theorem Ris.mono {xs : Array Nat} (h : Ris xs) : ∀ a b, a < b -> b < xs.size -> xs.getD a 0 < xs.getD b 0 := by
 intro a b hab hb
 have := List.pairwise_iff_getElem.mp h a b (by rw [Array.length_toList]; omega) (by rw [Array.length_toList]; exact hb) hab
 simpa [Array.getD, hb, Nat.lt_trans hab hb] using this
theorem getD_any (xs : Array Nat) {k : Nat} (a b : Nat) (h : k < xs.size) : xs.getD k a = xs.getD k b := by simp [Array.getD, h]
theorem below_go (xs : Array Nat) (j : Nat) (mono : ∀ a b, a < b -> b < xs.size -> xs.getD a 0 < xs.getD b 0) :
   ∀ (fuel lo hi : Nat), hi - lo <= fuel -> lo <= hi -> hi <= xs.size -> (∀ k, k < lo -> xs.getD k 0 < j) -> (∀ k, hi <= k -> k < xs.size -> j <= xs.getD k 0) ->
     SetTable.below.go xs j fuel lo hi <= xs.size /\ (∀ k, k < SetTable.below.go xs j fuel lo hi -> xs.getD k 0 < j) /\ (∀ k, SetTable.below.go xs j fuel lo hi <= k -> k < xs.size -> j <= xs.getD k 0) := by
 intro fuel
 induction fuel with
 | zero =>
   intro lo hi h1 h2 h3 h4 h5
   have : lo = hi := by omega
   subst this
   unfold SetTable.below.go
   exact ⟨h3, h4, h5⟩
 | succ n ih =>
   intro lo hi h1 h2 h3 h4 h5
   unfold SetTable.below.go
   by_cases hl : lo < hi
   · rw [if_pos hl]
     dsimp only
     have hm : (lo + hi) / 2 < xs.size := by omega
     rw [getD_any xs j 0 hm]
     by_cases hc : xs.getD ((lo + hi) / 2) 0 < j
     · rw [if_pos hc]
       refine ih _ _ (by omega) (by omega) h3 (fun k hk => ?_) h5
       by_cases e : k = (lo + hi) / 2
       · rw [e]; exact hc
       · exact Nat.lt_trans (mono k _ (by omega) hm) hc
     · rw [if_neg hc]
       refine ih _ _ (by omega) (by omega) (by omega) h4 (fun k hk hks => ?_)
       by_cases e : k = (lo + hi) / 2
       · rw [e]; omega
       · have := mono ((lo + hi) / 2) k (by omega) hks
         omega
   · rw [if_neg hl]
     have : lo = hi := by omega
     subst this
     exact ⟨h3, h4, h5⟩
theorem xG {xs : Array Nat} (h : Ris xs) (j : Nat) : SetTable.below xs j <= xs.size /\ (∀ k, k < SetTable.below xs j -> xs.getD k 0 < j) /\ (∀ k, SetTable.below xs j <= k -> k < xs.size -> j <= xs.getD k 0) :=
 below_go xs j h.mono xs.size 0 xs.size (by omega) (by omega) (Nat.le_refl _) (fun k hk => absurd hk (Nat.not_lt_zero _)) (fun k h1 h2 => absurd h2 (by omega))
theorem yL {α : Type} (xs : Array α) (p : Nat) (x : α) (hp : p <= xs.size) : (SetTable.insertAt xs p x).toList = xs.toList.take p ++ x :: xs.toList.drop p := by
 unfold SetTable.insertAt
 simp [Array.toList_extract, List.extract]
 exact List.take_of_length_le (by rw [List.length_drop, Array.length_toList]; omega)
theorem ris_insert {xs : Array Nat} (h : Ris xs) {j : Nat} (hj : xs[SetTable.below xs j]? ≠ some j) : Ris (SetTable.insertAt xs (SetTable.below xs j) j) := by
 obtain ⟨h1, h2, h3⟩ := xG h j
 unfold Ris
 rw [yL _ _ _ h1]
 have hg : ∀ k (hk : k < xs.toList.length), xs.toList[k] = xs.getD k 0 := fun k hk => by
   rw [Array.length_toList] at hk
   simp [Array.getD, hk]
 have up : ∀ b, b ∈ xs.toList.drop (SetTable.below xs j) -> j < b := by
   intro b hb
   obtain ⟨k, hk, rfl⟩ := List.getElem_of_mem hb
   rw [List.length_drop] at hk
   rw [List.getElem_drop, hg _ (by omega)]
   have hs : SetTable.below xs j + k < xs.size := by rw [← Array.length_toList]; omega
   have hle := h3 (SetTable.below xs j) (Nat.le_refl _) (by omega)
   have hne : xs.getD (SetTable.below xs j) 0 ≠ j := fun e => hj (by
     have hb : SetTable.below xs j < xs.size := by omega
     rw [Array.getElem?_eq_getElem hb]
     simpa [Array.getD, hb] using e)
   by_cases hk0 : k = 0
   · subst hk0
     simp only [Nat.add_zero]
     omega
   · have := h.mono (SetTable.below xs j) (SetTable.below xs j + k) (by omega) hs
     omega
 have lo : ∀ a, a ∈ xs.toList.take (SetTable.below xs j) -> a < j := by
   intro a ha
   obtain ⟨k, hk, rfl⟩ := List.getElem_of_mem ha
   rw [List.length_take] at hk
   rw [List.getElem_take, hg _ (by omega)]
   exact h2 k (by omega)
 refine List.pairwise_append.mpr ⟨h.sublist (List.take_sublist _ _), List.pairwise_cons.mpr ⟨fun b hb => up b hb, h.sublist (List.drop_sublist _ _)⟩, fun a ha b hb => ?_⟩
 rcases List.mem_cons.mp hb with rfl | hb
 · exact lo a ha
 · exact Nat.lt_trans (lo a ha) (up b hb)
end L2
namespace L2
open PySem PySem.Spec PyProof.Rows PySem.SeqAt
def Ite (a : Addr) : It :=
 ⟨fun i H => ∃ xs x, H a = some (.lst xs) /\ xs[i]? = some x,
  fun i H v H' => ∃ p x, v = .ref p /\ H p = none /\ H' = upd H p (.tup [.int i, x]) /\ ∀ xs, H a = some (.lst xs) -> xs[i]? = some x,
  fun i H => ∃ xs, H a = some (.lst xs) /\ xs.length <= i⟩
def Eat (e it l : Addr) (i : Nat) (h : Heap) : Prop := (∃ old, IsEnum h e it i old) /\ h.IsListIter it l i
theorem turn_enum {P : Program} {w : World} {K : PySem.W.Frag} {elts : List Expr} {cx : _} {tp : Pos} (e it l : Addr) (ne : e ≠ it) :
   Turn P w K (.Tuple elts cx tp) (Ite l) [e, it] e (Eat e it l) where
 mem := by simp
 obj := fun i h st b hb => by
   obtain ⟨⟨old, ge⟩, ⟨o2, r2, _, d2⟩⟩ := st
   simp only [List.mem_cons, List.not_mem_nil, or_false] at hb
   rcases hb with rfl | rfl
   · exact ⟨_, ge, fun v e => by cases e⟩
   · exact ⟨_, r2, fun v e => by rw [d2] at e; cases e⟩
 keep := fun i h h' st k => by
   obtain ⟨⟨old, ge⟩, ⟨o2, r2, q2⟩⟩ := st
   exact ⟨⟨old, k _ (by simp) _ ge⟩, ⟨o2, k _ (by simp) _ r2, q2⟩⟩
 item := by
   intro X hP hw hK hc i pins s σ H E I hf st hg
   subst hP hw hK
   obtain ⟨xs, x, ha, hx⟩ := hg
   obtain ⟨its, rv, t1⟩ := DAts.lst_of I.hok ha
   obtain ⟨u, hu, ru⟩ := rv.get hx
   obtain ⟨⟨old, ge⟩, r1⟩ := st
   refine wpAny_pyNext_enum_item ge r1 t1 (by simpa using hu) ne fun h1 b1 b2 b3 b4 b5 => ?_
   refine ⟨_, rfl, wpAny_letOwnedTupleGo_enum (s := { s with heap := h1, toks := s.toks + 1 }) b1 fun h2 g2 s2 => ?_⟩
   have be : e < s.heap.objs.size := Heap.lt_size ge
   have bi : it < s.heap.objs.size := by obtain ⟨_, z, _⟩ := r1; exact Heap.lt_size z
   have keep2 : ∀ b o, b ∉ [e, it] -> s.heap.get? b = some o -> h2.get? b = some o := fun b o hb q => by
     simp only [List.mem_cons, List.not_mem_nil, or_false, not_or] at hb
     exact s2.extBut b o hb.1 (b5 b o hb.1 hb.2 q)
   have hfr : H s.heap.objs.size = none := I.hok.fresh (Nat.le_refl _)
   have gT := s2.extBut _ _ (Nat.ne_of_gt be) b3
   refine ⟨.ref s.heap.objs.size, _, I.turnedN (t' := s.toks + 1) (p := s.heap.objs.size) (o := .tup [.int i, x]) keep2 hf (Nat.le_refl _) ⟨zQ (by simp), [.int i s.toks, u], .cons ⟨_, rfl⟩ (.cons ru .nil), ⟨_, gT, rfl, _, rfl⟩⟩, rfl, ⟨_, x, rfl, hfr, rfl, fun xs' e1 => ?_⟩, ?_, fun b hb => ?_⟩
   · rw [ha] at e1
     cases e1
     exact hx
   · obtain ⟨o2, b21, b22⟩ := b2
     exact ⟨⟨_, g2⟩, ⟨o2, s2.extBut _ _ (Ne.symm ne) b21, b22⟩⟩
   · have hb2 : b < s.heap.objs.size := by
       simp only [List.mem_cons, List.not_mem_nil, or_false] at hb
       rcases hb with rfl | rfl
       · exact be
       · exact bi
     rw [zP (Nat.ne_of_lt hb2)]
     exact (hf b hb).1
 done := by
   intro X hP hw hK hc i pins s σ H E I hf st hg
   subst hP hw hK
   obtain ⟨xs, ha, hl⟩ := hg
   obtain ⟨its, rv, t1⟩ := DAts.lst_of I.hok ha
   have k1 := rv.length
   obtain ⟨⟨old, ge⟩, r1⟩ := st
   refine wpAny_pyNext_enum_end (I.ok.hd hc) ge r1 t1 (by simp; omega) fun h1 kk => ⟨rfl, ?_⟩
   refine I.turnedL (ch := [it]) (t' := s.toks) (fun b o hb q => ?_) (fun b hb => hf b (by simp only [List.mem_cons, List.not_mem_nil, or_false] at hb ⊢; exact .inr hb))
   simp only [List.mem_cons, List.not_mem_nil, or_false] at hb
   exact kk b o hb q
 self := fun _ _ _ _ _ st h => by
   obtain ⟨⟨old, ge⟩, _⟩ := st
   exact wpAny_pyIter_enum ge h
section
variable {X : Cx}
def iEnum (ta : TA) : TI := fun σ H R => ta σ H fun vs H1 => ∃ a xs, vs = [.ref a] /\ H1 a = some (.lst xs) /\ R (Ite a) H1
theorem pi_enum {elts : List Expr} {cx : _} {tp : Pos} {a : Expr} {ta : TA} {p pos : Pos} (hg : Gl X "enumerate") (hm : X.mg "enumerate" = none) (ha : PA X [a] ta) (hs : starEach [a] X.env = [(false, eval a X.env)] := by rfl) :
   PI X (.Tuple elts cx tp) (.Call (.Name "enumerate" p) [a] [] pos) (iEnum ta) := by
 intro pins s σ H R I h
 refine Call_ (xZ I hg hm boot_enumerate (PyProof.Rows.callWith_type1 (thn (ha pos pins s σ H _ I h) fun us s1 ⟨vs, H1, I1, r1, q1⟩ => ?_) (by rw [hs]; rfl) (by rfl)))
 obtain ⟨l1, xs, e, h1, q⟩ := q1
 subst e
 cases r1 with
 | cons r rr =>
   cases rr
   cases r
   obtain ⟨its1, rv1, t1⟩ := DAts.lst_of I1.hok h1
   refine call_enumerate_list t1 fun h' gz g1 _ kk => ?_
   refine wpAny_pyIter_enum (s := { s1 with heap := h' }) gz ?_
   have fr : ∀ b, s1.heap.objs.size <= b -> jD X pins H1 b := fun b hb => I1.fpOk hb (I1.hok.fresh hb)
   refine ⟨_, [s1.heap.objs.size + 1, s1.heap.objs.size], _, _, H1, rfl, I1.kept (t' := s1.toks) kk, turn_enum _ _ l1 (Nat.succ_ne_self _), ⟨⟨_, gz⟩, g1⟩, fun b hb => ?_, q⟩
   simp only [List.mem_cons, List.not_mem_nil, or_false] at hb
   rcases hb with rfl | rfl <;> exact fr _ (by omega)
end
section
variable {X : Cx} {tg : Expr}
end
theorem pg_tupK {X : Cx} {K : PySem.W.Frag} {es : List Expr} {k : Nat} {t : TGs} {n : Nat} {pos : Pos} (hc : X.calm = true) (h : PGs X es t) (hK : X.K = K := by rfl)
   (hn : (assignEach es X.env).length = n := by rfl) (hst : (assignEach es X.env).findIdx? (·.1) = none := by rfl) : PG X (.Tuple es k pos) (gTup K n t) := by
 subst hK
 exact pg_tup hc h hn hst
end L2
namespace L2
open PySem
def yR (m : Nat) (p : SetTable.Probe) : SetTable.Probe :=
 if p.more > 0 then { p with j := p.j + 1, more := p.more - 1 } else
 { p with j := (SetTable.leap m p.i p.perturb).1, more := SetTable.runEnd m (SetTable.leap m p.i p.perturb).1 - (SetTable.leap m p.i p.perturb).1, i := (SetTable.leap m p.i p.perturb).1, perturb := (SetTable.leap m p.i p.perturb).2 }
theorem adv_eq (t : SetTable) (p : SetTable.Probe) : t.advance p = yR t.mask p := by
 unfold SetTable.advance yR
 split <;> rfl
theorem xH (m : Nat) (p : SetTable.Probe) : (yR m p).dummy = p.dummy := by
 unfold yR
 split <;> rfl
def yO (m i pt : Nat) : SetTable.Probe := { j := i, more := SetTable.runEnd m i - i, i := i, perturb := pt, dummy := none }
def itA (m : Nat) : Nat -> SetTable.Probe -> SetTable.Probe
 | 0, p => p
 | n + 1, p => itA m n (yR m p)
theorem itA_add (m : Nat) : ∀ (a b : Nat) (p : SetTable.Probe), itA m (a + b) p = itA m b (itA m a p)
 | 0, b, p => by rw [Nat.zero_add]; rfl
 | a + 1, b, p => by rw [Nat.add_right_comm]; exact itA_add m a b (yR m p)
theorem it_run (m i pt : Nat) : ∀ (r j : Nat), itA m (r + 1) ⟨j, r, i, pt, none⟩ = yO m (SetTable.leap m i pt).1 (SetTable.leap m i pt).2
 | 0, j => rfl
 | r + 1, j => by
   show itA m (r + 1) (yR m ⟨j, r + 1, i, pt, none⟩) = _
   have e : yR m ⟨j, r + 1, i, pt, none⟩ = ⟨j + 1, r, i, pt, none⟩ := by
     unfold yR
     rw [if_pos (Nat.succ_pos r)]
     rfl
   rw [e]
   exact it_run m i pt r (j + 1)
def lpN (m : Nat) : Nat -> Nat × Nat -> Nat × Nat
 | 0, x => x
 | k + 1, x => lpN m k (SetTable.leap m x.1 x.2)
theorem runEnd_le (m i : Nat) : SetTable.runEnd m i - i <= 9 := by
 unfold SetTable.runEnd
 split <;> omega
theorem runs_at (m : Nat) : ∀ (k i pt : Nat), ∃ n, n <= 10 * k /\ itA m n (yO m i pt) = yO m (lpN m k (i, pt)).1 (lpN m k (i, pt)).2
 | 0, i, pt => ⟨0, Nat.le_refl _, rfl⟩
 | k + 1, i, pt => by
   obtain ⟨n, h1, h2⟩ := runs_at m k (SetTable.leap m i pt).1 (SetTable.leap m i pt).2
   have h9 := runEnd_le m i
   refine ⟨SetTable.runEnd m i - i + 1 + n, by omega, ?_⟩
   rw [itA_add]
   have : itA m (SetTable.runEnd m i - i + 1) (yO m i pt) = _ := it_run m i pt (SetTable.runEnd m i - i) i
   rw [this, h2]
   rfl
def lcg (m i : Nat) : Nat := (i * 5 + 1) % (m + 1)
def itL (m : Nat) : Nat -> Nat -> Nat
 | 0, i => i
 | k + 1, i => itL m k (lcg m i)
theorem xT (m : Nat) : ∀ (a b i : Nat), itL m (a + b) i = itL m b (itL m a i)
 | 0, b, i => by rw [Nat.zero_add]; rfl
 | a + 1, b, i => by rw [Nat.add_right_comm]; exact xT m a b (lcg m i)
theorem lpN_add (m : Nat) : ∀ (a b : Nat) (x : Nat × Nat), lpN m (a + b) x = lpN m b (lpN m a x)
 | 0, b, x => by rw [Nat.zero_add]; rfl
 | a + 1, b, x => by rw [Nat.add_right_comm]; exact lpN_add m a b _
theorem lpN_low (m : Nat) : ∀ (k i pt : Nat), pt < 32 -> (lpN m k (i, pt)).1 = itL m k i
 | 0, i, pt, _ => rfl
 | k + 1, i, pt, h => by
   have e : SetTable.leap m i pt = (lcg m i, 0) := by
     unfold SetTable.leap lcg
     rw [Nat.div_eq_of_lt h]
   show (lpN m k (SetTable.leap m i pt)).1 = _
   rw [e]
   exact lpN_low m k (lcg m i) 0 (by decide)
theorem lpN_snd (m : Nat) : ∀ (k : Nat) (x : Nat × Nat), (lpN m k x).2 = x.2 / 32 ^ k
 | 0, x => by simp [lpN]
 | k + 1, x => by
   show (lpN m k (SetTable.leap m x.1 x.2)).2 = _
   rw [lpN_snd m k]
   show x.2 / 32 / 32 ^ k = _
   rw [Nat.div_div_eq_div_mul, Nat.pow_succ, Nat.mul_comm]
theorem lpN_fst (m : Nat) : ∀ (k : Nat) (x : Nat × Nat), x.1 <= m -> (lpN m k x).1 <= m
 | 0, x, h => h
 | k + 1, x, h => lpN_fst m k _ (by
   show (x.1 * 5 + 1 + x.2 / 32) % (m + 1) <= m
   exact Nat.le_of_lt_succ (Nat.mod_lt _ (Nat.succ_pos _)))
def MkT (m : Nat) : Prop := m = 7 \/ m = 31 \/ m = 127
def jL (m : Nat) : Nat -> Nat -> List Nat
 | 0, _ => []
 | n + 1, i => i :: jL m n (lcg m i)
theorem jN (m : Nat) : ∀ (n i e : Nat), e ∈ jL m n i -> ∃ k, k < n /\ itL m k i = e
 | 0, i, e, h => by cases h
 | n + 1, i, e, h => by
   rcases List.mem_cons.mp h with rfl | h
   · exact ⟨0, by omega, rfl⟩
   · obtain ⟨k, h1, h2⟩ := jN m n _ e h
     exact ⟨k + 1, by omega, h2⟩
theorem orb_all {m : Nat} (hm : MkT m) : (∀ e, e <= m -> ∃ k, k <= m /\ itL m k 0 = e) /\ itL m (m + 1) 0 = 0 := by
 have key : ∀ e, e <= m -> e ∈ jL m (m + 1) 0 := by
   rcases hm with rfl | rfl | rfl
   · have : ((List.range 8).all fun e => (jL 7 8 0).contains e) = true := by decide +kernel
     intro e he
     simpa using List.all_eq_true.mp this e (List.mem_range.mpr (by omega))
   · have : ((List.range 32).all fun e => (jL 31 32 0).contains e) = true := by decide +kernel
     intro e he
     simpa using List.all_eq_true.mp this e (List.mem_range.mpr (by omega))
   · have : ((List.range 128).all fun e => (jL 127 128 0).contains e) = true := by decide +kernel
     intro e he
     simpa using List.all_eq_true.mp this e (List.mem_range.mpr (by omega))
 refine ⟨fun e he => ?_, ?_⟩
 · obtain ⟨k, h1, h2⟩ := jN _ _ _ _ (key e he)
   exact ⟨k, by omega, h2⟩
 · rcases hm with rfl | rfl | rfl <;> decide +kernel
theorem lcg_all {m : Nat} (hm : MkT m) {i e : Nat} (hi : i <= m) (he : e <= m) : ∃ k, k <= m /\ itL m k i = e := by
 obtain ⟨h, h0⟩ := orb_all hm
 obtain ⟨a, ha, ea⟩ := h i hi
 obtain ⟨b, hb, eb⟩ := h e he
 by_cases hab : a <= b
 · refine ⟨b - a, by omega, ?_⟩
   rw [← ea, ← xT, show a + (b - a) = b by omega, eb]
 · refine ⟨m + 1 - a + b, by omega, ?_⟩
   rw [← ea, ← xT, show a + (m + 1 - a + b) = m + 1 + b by omega, xT, h0, eb]
theorem leap_all {m : Nat} (hm : MkT m) {i pt e : Nat} (hi : i <= m) (hpt : pt < 2 ^ 64) (he : e <= m) : ∃ k, k <= m + 12 /\ (lpN m k (i, pt)).1 = e := by
 have h12 : (lpN m 12 (i, pt)).2 < 32 := by
   rw [lpN_snd]
   exact Nat.div_lt_of_lt_mul (Nat.lt_of_lt_of_le hpt (by decide))
 obtain ⟨k, hk, ek⟩ := lcg_all hm (lpN_fst m 12 (i, pt) hi) he
 refine ⟨12 + k, by omega, ?_⟩
 rw [lpN_add, ← ek]
 exact lpN_low m k (lpN m 12 (i, pt)).1 (lpN m 12 (i, pt)).2 h12
theorem bits_lt (h : Int) : SetTable.bits h < 2 ^ 64 := by
 unfold SetTable.bits
 have h1 := Int.emod_nonneg h (show (2 ^ 64 : Int) ≠ 0 by decide)
 have h2 := Int.emod_lt_of_pos h (show (0 : Int) < 2 ^ 64 by decide)
 have : (2 ^ 64 : Nat) = ((2 ^ 64 : Int)).toNat := by decide
 omega
theorem slots_all {m : Nat} (hm : MkT m) (h : Int) {e : Nat} (he : e <= m) : ∃ n, n <= 10 * (m + 12) /\ (itA m n (yO m (SetTable.bits h % (m + 1)) (SetTable.bits h))).j = e := by
 obtain ⟨k, hk, ek⟩ := leap_all hm (i := SetTable.bits h % (m + 1)) (Nat.le_of_lt_succ (Nat.mod_lt _ (Nat.succ_pos _))) (bits_lt h) he
 obtain ⟨n, hn, en⟩ := runs_at m k (SetTable.bits h % (m + 1)) (SetTable.bits h)
 exact ⟨n, by omega, by rw [en]; exact ek⟩
inductive Rch (m : Nat) (L : Nat -> Prop) : SetTable.Probe -> Nat -> Prop
 | here (p : SetTable.Probe) : Rch m L p p.j
 | next {p : SetTable.Probe} {j : Nat} : L p.j -> Rch m L (yR m p) j -> Rch m L p j
theorem Rch.mono {m : Nat} {L L' : Nat -> Prop} {p : SetTable.Probe} {j : Nat} (hl : ∀ x, L x -> L' x) (h : Rch m L p j) : Rch m L' p j := by
 induction h with
 | here p => exact .here p
 | next h1 _ ih => exact .next (hl _ h1) ih
theorem yN {t : SetTable} (hr : Ris t.place) {j i : Nat} : t.slot j = .live i ↔ t.place[i]? = some j := by
 obtain ⟨h1, h2, h3⟩ := xG hr j
 constructor
 · intro h
   unfold SetTable.slot at h
   dsimp only at h
   split at h
   · next c =>
     cases h
     exact eq_of_beq c
   · split at h <;> cases h
 · intro h
   obtain ⟨hi, e⟩ := Array.getElem?_eq_some_iff.mp h
   have eD : t.place.getD i 0 = j := by simp [Array.getD, hi, e]
   have eb : SetTable.below t.place j = i := by
     by_cases c1 : SetTable.below t.place j < i
     · have a1 := h3 _ (Nat.le_refl _) (by omega)
       have a2 := hr.mono _ i c1 hi
       omega
     · by_cases c2 : i < SetTable.below t.place j
       · have := h2 i c2
         omega
       · omega
   unfold SetTable.slot
   dsimp only
   rw [eb, h]
   simp
theorem xE {t : SetTable} (hd : t.dummies = #[]) {j : Nat} (h : ∀ i, t.slot j ≠ .live i) : t.slot j = .empty := by
 unfold SetTable.slot at h ⊢
 dsimp only at h ⊢
 split
 · next c => rw [if_pos c] at h; exact absurd rfl (h _)
 · rw [hd]; rfl
theorem xF {t : SetTable} (hr : Ris t.place) (hd : t.dummies = #[]) {j : Nat} : t.slot j = .empty ↔ j ∉ t.place.toList := by
 constructor
 · intro h hm
   obtain ⟨i, hi, e⟩ := List.getElem_of_mem hm
   have : t.slot j = .live i := (yN hr).mpr (by rw [← Array.getElem?_toList, List.getElem?_eq_getElem hi, e])
   rw [h] at this
   cases this
 · intro h
   refine xE hd fun i e => h ?_
   have := (yN hr).mp e
   rw [← Array.getElem?_toList] at this
   exact List.mem_of_getElem? this
inductive Wk (t : SetTable) (hashAt : Nat -> Int) (h : Int) : SetTable.Probe -> SetTable.Probe -> Prop
 | refl (p : SetTable.Probe) : Wk t hashAt h p p
 | step {p p' : SetTable.Probe} {i : Nat} : t.slot p.j = .live i -> hashAt i ≠ h -> Wk t hashAt h (yR t.mask p) p' -> Wk t hashAt h p p'
theorem go_spec (t : SetTable) (hr : Ris t.place) (hd : t.dummies = #[]) (hashAt : Nat -> Int) (h : Int) : ∀ (n fuel : Nat) (p : SetTable.Probe), n < fuel -> p.dummy = none -> t.slot (itA t.mask n p).j = .empty ->
   (∃ p', SetTable.probe.go t hashAt h fuel p = some (.empty p'.j none) /\ t.slot p'.j = .empty /\ Wk t hashAt h p p') \/
   (∃ p' i k, SetTable.probe.go t hashAt h fuel p = some (.candidate p'.j i (yR t.mask p')) /\ t.slot p'.j = .live i /\ hashAt i = h /\ Wk t hashAt h p p' /\ k < n /\ p'.dummy = none /\ t.slot (itA t.mask k (yR t.mask p')).j = .empty)
 | n, 0, p, hf, _, _ => absurd hf (Nat.not_lt_zero _)
 | n, fuel + 1, p, hf, hp, he => by
   unfold SetTable.probe.go
   by_cases c : ∃ i, t.slot p.j = .live i
   · obtain ⟨i, hi⟩ := c
     rw [hi]
     dsimp only
     cases n with
     | zero =>
       have he : t.slot p.j = .empty := he
       rw [hi] at he
       cases he
     | succ n =>
       by_cases ch : hashAt i = h
       · rw [if_pos (by rw [ch]; exact beq_self_eq_true h)]
         exact .inr ⟨p, i, n, by rw [adv_eq], hi, ch, .refl p, Nat.lt_succ_self _, hp, he⟩
       · rw [if_neg (by simpa using ch), adv_eq]
         rcases go_spec t hr hd hashAt h n fuel (yR t.mask p) (by omega) (by rw [xH, hp]) he with ⟨p', a1, a2, a3⟩ | ⟨p', i', k, a1, a2, a3, a4, a5, a6⟩
         · exact .inl ⟨p', a1, a2, .step hi ch a3⟩
         · exact .inr ⟨p', i', k, a1, a2, a3, .step hi ch a4, by omega, a6⟩
   · have hs := xE hd fun i e => c ⟨i, e⟩
     rw [hs]
     dsimp only
     exact .inl ⟨p, by rw [hp], hs, .refl p⟩
structure TabOk (t : SetTable) (hs : List Int) : Prop where
 sz : t.place.size = hs.length
 du : t.dummies = #[]
 ri : Ris t.place
 up : ∀ j ∈ t.place.toList, j <= t.mask
 ms : MkT t.mask
 few : hs.length < t.mask
 rc : ∀ (q j : Nat) (h : Int), t.place.toList[q]? = some j -> hs[q]? = some h -> Rch t.mask (· ∈ t.place.toList) (yO t.mask (SetTable.bits h % (t.mask + 1)) (SetTable.bits h)) j
theorem TabOk.fits {t : SetTable} {hs : List Int} (h : TabOk t hs) : t.fits hs.length = true := by
 have h1 := h.sz
 have h2 := h.few
 unfold SetTable.fits SetTable.fill
 rw [h.du]
 simp [h1]
 omega
theorem TabOk.odd {t : SetTable} {hs : List Int} (h : TabOk t hs) : t.gaveWay = false := by
 unfold SetTable.gaveWay
 rcases h.ms with e | e | e <;> rw [e] <;> rfl
theorem room_of {m : Nat} {l : List Nat} (h : l.length <= m) : ∃ e, e <= m /\ e ∉ l := by
 apply Classical.byContradiction
 intro c
 have hall : ∀ e ∈ List.range (m + 1), e ∈ l := fun e he => Classical.byContradiction fun ne => c ⟨e, by have := List.mem_range.mp he; omega, ne⟩
 have := (List.nodup_range (n := m + 1)).length_le_of_subset (l₂ := l) hall
 rw [List.length_range] at this
 omega
theorem TabOk.some_empty {t : SetTable} {hs : List Int} (ok : TabOk t hs) (h : Int) : ∃ n, n <= 10 * (t.mask + 12) /\ t.slot (itA t.mask n (yO t.mask (SetTable.bits h % (t.mask + 1)) (SetTable.bits h))).j = .empty := by
 have h1 := ok.sz
 have h2 := ok.few
 obtain ⟨e, he, hn⟩ := room_of (m := t.mask) (l := t.place.toList) (by rw [Array.length_toList]; omega)
 obtain ⟨n, hn1, hn2⟩ := slots_all ok.ms h he
 exact ⟨n, hn1, by rw [hn2]; exact (xF ok.ri ok.du).mpr hn⟩
theorem TabOk.fresh (f m : Nat) (led : Bool) : TabOk (.fresh f m led) [] :=
 ⟨rfl, rfl, List.Pairwise.nil, (fun j h => by cases h), .inl rfl, (by show 0 < 7; decide), (fun q j h h1 => by cases h1)⟩
theorem get_put {α : Type} (xs : List α) (p : Nat) (x : α) (hp : p <= xs.length) (q : Nat) : (xs.take p ++ x :: xs.drop p)[q]? = if q < p then xs[q]? else if q = p then some x else xs[q - 1]? := by
 by_cases c : q < p
 · rw [if_pos c, List.getElem?_append_left (by rw [List.length_take]; omega), List.getElem?_take_of_lt c]
 · rw [if_neg c, List.getElem?_append_right (by rw [List.length_take]; omega), List.length_take, Nat.min_eq_left hp]
   by_cases c2 : q = p
   · rw [if_pos c2, c2, Nat.sub_self]
     rfl
   · rw [if_neg c2]
     obtain ⟨d, rfl⟩ : ∃ d, q = p + 1 + d := ⟨q - (p + 1), by omega⟩
     rw [show p + 1 + d - p = d + 1 by omega, List.getElem?_cons_succ, List.getElem?_drop, show p + 1 + d - 1 = p + d by omega]
theorem TabOk.put {t : SetTable} {hs : List Int} (ok : TabOk t hs) {h : Int} {j : Nat} (hj : t.slot j = .empty) (hjm : j <= t.mask) (few : hs.length + 1 < t.mask) (b : Bool)
   (hr : Rch t.mask (· ∈ t.place.toList) (yO t.mask (SetTable.bits h % (t.mask + 1)) (SetTable.bits h)) j) :
   (t.put j).2 <= hs.length /\ TabOk { (t.put j).1 with plain := b } (hs.take (t.put j).2 ++ h :: hs.drop (t.put j).2) := by
 obtain ⟨h1, _, _⟩ := xG ok.ri j
 have hn := (xF ok.ri ok.du).mp hj
 have hne : t.place[SetTable.below t.place j]? ≠ some j := fun e => hn (by rw [← Array.getElem?_toList] at e; exact List.mem_of_getElem? e)
 have hsz := ok.sz
 have hp2 : (t.put j).2 = SetTable.below t.place j := rfl
 have hpl : ((t.put j).1.place).toList = t.place.toList.take (SetTable.below t.place j) ++ j :: t.place.toList.drop (SetTable.below t.place j) := yL _ _ _ h1
 have hsub : ∀ x, x ∈ t.place.toList -> x ∈ (t.put j).1.place.toList := fun x hx => by
   rw [hpl]
   rw [← List.take_append_drop (SetTable.below t.place j) t.place.toList] at hx
   rcases List.mem_append.mp hx with hx | hx
   · exact List.mem_append_left _ hx
   · exact List.mem_append_right _ (List.mem_cons_of_mem _ hx)
 have hmem : ∀ x, x ∈ (t.put j).1.place.toList -> x = j \/ x ∈ t.place.toList := fun x hx => by
   rw [hpl] at hx
   rcases List.mem_append.mp hx with hx | hx
   · exact .inr (List.mem_of_mem_take hx)
   · rcases List.mem_cons.mp hx with hx | hx
     · exact .inl hx
     · exact .inr (List.mem_of_mem_drop hx)
 rw [hp2]
 refine ⟨by omega, ?_, ?_, ?_, ?_, ok.ms, ?_, ?_⟩
 · show (t.put j).1.place.size = _
   rw [← Array.length_toList, hpl]
   simp
   omega
 · show (t.put j).1.dummies = #[]
   unfold SetTable.put
   dsimp only
   rw [ok.du]
   rfl
 · exact ris_insert ok.ri hne
 · intro x hx
   rcases hmem x hx with rfl | hx
   · exact hjm
   · exact ok.up x hx
 · show _ < t.mask
   simp
   omega
 · intro q x h' hx hh
   have hx : (t.put j).1.place.toList[q]? = some x := hx
   rw [hpl, get_put _ _ _ (by rw [Array.length_toList]; exact h1)] at hx
   rw [get_put _ _ _ (by omega)] at hh
   show Rch t.mask (· ∈ (t.put j).1.place.toList) _ x
   split at hx
   · next c =>
     rw [if_pos c] at hh
     exact (ok.rc q x h' hx hh).mono hsub
   · next c =>
     rw [if_neg c] at hh
     split at hx
     · next c2 =>
       rw [if_pos c2] at hh
       cases hx
       cases hh
       exact hr.mono hsub
     · next c2 =>
       rw [if_neg c2] at hh
       exact (ok.rc _ x h' hx hh).mono hsub
theorem jI {m i pt : Nat} {L : Nat -> Prop} : ∀ (k r j : Nat), k <= r -> (∀ x, j <= x -> x < j + k -> L x) -> Rch m L ⟨j, r, i, pt, none⟩ (j + k)
 | 0, r, j, _, _ => .here _
 | k + 1, 0, j, h, _ => absurd h (by omega)
 | k + 1, r + 1, j, h, hl => by
   refine .next (hl j (Nat.le_refl _) (by omega)) ?_
   have e : yR m ⟨j, r + 1, i, pt, none⟩ = ⟨j + 1, r, i, pt, none⟩ := by
     unfold yR
     rw [if_pos (Nat.succ_pos r)]
     rfl
   rw [e, show j + (k + 1) = j + 1 + k by omega]
   exact jI k r (j + 1) (by omega) fun x h1 h2 => hl x (by omega) (by omega)
theorem xM {m i pt : Nat} {L : Nat -> Prop} {x : Nat} (h : Rch m L (yO m (SetTable.leap m i pt).1 (SetTable.leap m i pt).2) x) : ∀ (r j : Nat), (∀ y, j <= y -> y <= j + r -> L y) -> Rch m L ⟨j, r, i, pt, none⟩ x
 | 0, j, hl => .next (hl j (Nat.le_refl _) (Nat.le_refl _)) h
 | r + 1, j, hl => by
   refine .next (hl j (Nat.le_refl _) (by omega)) ?_
   have e : yR m ⟨j, r + 1, i, pt, none⟩ = ⟨j + 1, r, i, pt, none⟩ := by
     unfold yR
     rw [if_pos (Nat.succ_pos r)]
     rfl
   rw [e]
   exact xM h r (j + 1) fun y h1 h2 => hl y (by omega) (by omega)
theorem xJ {m i : Nat} (h : i <= m) : i <= SetTable.runEnd m i /\ SetTable.runEnd m i <= m := by
 unfold SetTable.runEnd
 split <;> omega
theorem jP {m : Nat} {owner : Array (Option Nat)} (hsz : owner.size = m + 1) : ∀ (fuel i pt : Nat), i <= m -> (∃ k, k < fuel /\ owner.getD (lpN m k (i, pt)).1 none = none) ->
   ∃ j, SetTable.layClean.free m owner fuel i pt = some j /\ j <= m /\ owner.getD j none = none /\ Rch m (fun x => (owner.getD x none).isSome = true) (yO m i pt) j
 | 0, i, pt, hi, h => by
   obtain ⟨k, hk, _⟩ := h
   exact absurd hk (Nat.not_lt_zero _)
 | fuel + 1, i, pt, hi, h => by
   obtain ⟨r1, r2⟩ := xJ hi
   have hg : ∀ x, x <= m -> owner.getD x (some 0) = owner.getD x none := fun x hx => by
     have : x < owner.size := by omega
     simp [Array.getD, this]
   unfold SetTable.layClean.free
   cases hf : List.find? (fun k => (owner.getD (i + k) (some 0)).isNone) (List.range (SetTable.runEnd m i + 1 - i)) with
   | some k =>
     dsimp only
     have h1 := List.find?_some hf
     have h2 := List.mem_range.mp (List.mem_of_find?_eq_some hf)
     have hle : i + k <= m := by omega
     rw [hg _ hle] at h1
     refine ⟨i + k, rfl, hle, by simpa using h1, ?_⟩
     refine jI k _ i (by omega) fun x hx1 hx2 => ?_
     rw [List.find?_range_eq_some] at hf
     have := hf.2.2 (x - i) (by omega)
     rw [show i + (x - i) = x by omega, hg x (by omega)] at this
     cases e : owner.getD x none with
     | none => rw [e] at this; simp at this
     | some v => rfl
   | none =>
     dsimp only
     have hall : ∀ x, i <= x -> x <= SetTable.runEnd m i -> (owner.getD x none).isSome = true := fun x h1 h2 => by
       have := List.find?_eq_none.mp hf (x - i) (List.mem_range.mpr (by omega))
       rw [show i + (x - i) = x by omega, hg x (by omega)] at this
       cases e : owner.getD x none with
       | none => rw [e] at this; simp at this
       | some v => rfl
     obtain ⟨k, hk, ek⟩ := h
     cases k with
     | zero =>
       have ek : owner.getD i none = none := ek
       have := hall i (Nat.le_refl _) r1
       rw [ek] at this
       cases this
     | succ k =>
       have hl : (SetTable.leap m i pt).1 <= m := by
         show (i * 5 + 1 + pt / 32) % (m + 1) <= m
         exact Nat.le_of_lt_succ (Nat.mod_lt _ (Nat.succ_pos _))
       obtain ⟨j, a1, a2, a3, a4⟩ := jP hsz fuel (SetTable.leap m i pt).1 (SetTable.leap m i pt).2 hl ⟨k, by omega, ek⟩
       exact ⟨j, a1, a2, a3, xM a4 _ i fun y h1 h2 => hall y h1 (by omega)⟩
structure LdOk (m : Nat) (hs : List Int) (owner : Array (Option Nat)) (js : List Nat) : Prop where
 sz : owner.size = m + 1
 len : js.length = hs.length
 own : ∀ x k, owner.getD x none = some k ↔ js[k]? = some x
 up : ∀ x ∈ js, x <= m
 nd : js.Nodup
 rc : ∀ (k x : Nat) (h : Int), js[k]? = some x -> hs[k]? = some h -> Rch m (· ∈ js) (yO m (SetTable.bits h % (m + 1)) (SetTable.bits h)) x
theorem lay_step {m : Nat} (hm : MkT m) {hs : List Int} {owner : Array (Option Nat)} {js : List Nat} (ok : LdOk m hs owner js) (few : hs.length <= m) (h : Int) :
   ∃ j, SetTable.layClean.free m owner (SetTable.turns m) (SetTable.bits h % (m + 1)) (SetTable.bits h) = some j /\ LdOk m (hs ++ [h]) (owner.setIfInBounds j (some hs.length)) (js ++ [j]) := by
 have hlen := ok.len
 obtain ⟨e, he, hn⟩ := room_of (m := m) (l := js) (by omega)
 have hin : ∀ x, (owner.getD x none).isSome = true -> x ∈ js := fun x hx => by
   obtain ⟨k, hk⟩ := Option.isSome_iff_exists.mp hx
   exact List.mem_of_getElem? ((ok.own x k).mp hk)
 have hfree : owner.getD e none = none := by
   cases c : owner.getD e none with
   | none => rfl
   | some k => exact absurd (hin e (by rw [c]; rfl)) hn
 have hi : SetTable.bits h % (m + 1) <= m := Nat.le_of_lt_succ (Nat.mod_lt _ (Nat.succ_pos _))
 obtain ⟨k, hk, ek⟩ := leap_all hm hi (bits_lt h) he
 obtain ⟨j, a1, a2, a3, a4⟩ := jP ok.sz (SetTable.turns m) _ (SetTable.bits h) hi ⟨k, by unfold SetTable.turns; omega, by rw [ek]; exact hfree⟩
 have hjn : j ∉ js := fun hj => by
   obtain ⟨k, hk⟩ := List.mem_iff_getElem?.mp hj
   have := (ok.own j k).mpr hk
   rw [a3] at this
   cases this
 have hsub : ∀ x, x ∈ js -> x ∈ js ++ [j] := fun x hx => List.mem_append_left _ hx
 have hjs : j < owner.size := by rw [ok.sz]; omega
 refine ⟨j, a1, ?_, ?_, fun x k => ?_, fun x hx => ?_, ?_, fun k x h' h1 h2 => ?_⟩
 · rw [Array.size_setIfInBounds]; exact ok.sz
 · rw [List.length_append, List.length_append, hlen]; rfl
 · have hget : (owner.setIfInBounds j (some hs.length)).getD x none = if j = x then some hs.length else owner.getD x none := by
     by_cases c : j = x
     · subst c
       simp [Array.getD, hjs]
     · by_cases hx : x < owner.size
       · simp [Array.getD, hx, c]
       · simp [Array.getD, hx, c]
   rw [hget]
   by_cases c : j = x
   · rw [if_pos c]
     subst c
     constructor
     · intro e
       cases e
       rw [← hlen, List.getElem?_append_right (Nat.le_refl _), Nat.sub_self]
       rfl
     · intro e
       by_cases c2 : k < js.length
       · rw [List.getElem?_append_left c2] at e
         exact absurd (List.mem_of_getElem? e) hjn
       · have := (List.getElem?_eq_some_iff.mp e).1
         rw [List.length_append, List.length_singleton] at this
         rw [show k = hs.length by omega]
   · rw [if_neg c, ok.own]
     by_cases c2 : k < js.length
     · rw [List.getElem?_append_left c2]
     · constructor
       · intro e
         exact absurd (List.getElem?_eq_some_iff.mp e).1 c2
       · intro e
         have h3 := (List.getElem?_eq_some_iff.mp e).1
         rw [List.length_append, List.length_singleton] at h3
         rw [show k = js.length by omega, List.getElem?_append_right (Nat.le_refl _), Nat.sub_self] at e
         exact absurd (Option.some.inj e) c
 · rcases List.mem_append.mp hx with hx | hx
   · exact ok.up x hx
   · rw [List.mem_singleton.mp hx]; exact a2
 · refine List.nodup_append.mpr ⟨ok.nd, by simp, fun a ha b hb => ?_⟩
   rw [List.mem_singleton] at hb
   rintro rfl
   exact hjn (hb ▸ ha)
 · by_cases c2 : k < js.length
   · rw [List.getElem?_append_left c2] at h1
     rw [List.getElem?_append_left (by omega)] at h2
     exact (ok.rc k x h' h1 h2).mono hsub
   · have h3 := (List.getElem?_eq_some_iff.mp h1).1
     rw [List.length_append, List.length_singleton] at h3
     have ek2 : k = js.length := by omega
     rw [ek2, List.getElem?_append_right (Nat.le_refl _), Nat.sub_self] at h1
     rw [ek2, hlen, List.getElem?_append_right (Nat.le_refl _), Nat.sub_self] at h2
     cases h1
     cases h2
     exact a4.mono fun x hx => hsub x (hin x hx)
theorem lay_all {m : Nat} (hm : MkT m) : ∀ (rest hs : List Int) (owner : Array (Option Nat)) (js : List Nat), LdOk m hs owner js -> hs.length + rest.length <= m + 1 ->
   ∃ owner' js' n, rest.foldl (fun acc h => do
     let (owner, k) ← acc
     let j ← SetTable.layClean.free m owner (SetTable.turns m) (SetTable.bits h % (m + 1)) (SetTable.bits h)
     pure (owner.setIfInBounds j (some k), k + 1)) (some (owner, hs.length)) = some (owner', n) /\ LdOk m (hs ++ rest) owner' js'
 | [], hs, owner, js, ok, _ => ⟨owner, js, _, rfl, by rw [List.append_nil]; exact ok⟩
 | h :: rest, hs, owner, js, ok, hl => by
   rw [List.length_cons] at hl
   obtain ⟨j, a1, a2⟩ := lay_step hm ok (by omega) h
   obtain ⟨owner', js', n, b1, b2⟩ := lay_all hm rest (hs ++ [h]) _ _ a2 (by rw [List.length_append, List.length_singleton]; omega)
   refine ⟨owner', js', n, ?_, by rw [List.append_assoc] at b2; exact b2⟩
   rw [List.foldl_cons, ← b1]
   congr 1
   show (SetTable.layClean.free m owner (SetTable.turns m) (SetTable.bits h % (m + 1)) (SetTable.bits h)).bind _ = _
   rw [a1, List.length_append]
   rfl
theorem xY (f : Nat -> Option Nat) : ∀ l : List Nat, (l.filterMap fun j => (f j).map (j, ·)).map (·.1) = l.filter fun j => (f j).isSome
 | [] => rfl
 | j :: l => by
   cases e : f j with
   | none => rw [List.filterMap_cons_none (by rw [e]; rfl), List.filter_cons_of_neg (by rw [e]; simp)]; exact xY f l
   | some k => rw [List.filterMap_cons_some (b := (j, k)) (by rw [e]; rfl), List.filter_cons_of_pos (by rw [e]; rfl), List.map_cons, xY f l]
theorem laid_spec {m : Nat} (hm : MkT m) (f mv : Nat) (led plain : Bool) (hashes : Array Int) (few : hashes.size < m) :
   ∃ (t : SetTable) (order : Array Nat), SetTable.laid m f mv led plain hashes = some (t, order) /\ t.mask = m /\ t.moves = mv /\ t.led = led /\ (∀ k, k ∈ order.toList ↔ k < hashes.size) /\ order.size = hashes.size /\
     ∀ hs' : List Int, hs'.length = hashes.size -> (∀ q k : Nat, order.toList[q]? = some k -> hs'[q]? = hashes.toList[k]?) -> TabOk t hs' := by
 have h0 : LdOk m [] (Array.replicate (m + 1) none) [] := ⟨by simp, rfl, (fun x k => by
   have : (Array.replicate (m + 1) (none : Option Nat)).getD x none = none := by
     by_cases c : x < m + 1 <;> simp [Array.getD, c]
   rw [this]; simp), (fun x h => by cases h), List.nodup_nil, (fun k x h e => by cases e)⟩
 obtain ⟨owner, js, n, e, ok⟩ := lay_all hm hashes.toList [] _ [] h0 (by simp; omega)
 rw [List.nil_append] at ok
 have hlay : SetTable.layClean m hashes = some owner := by
   unfold SetTable.layClean
   rw [← Array.foldl_toList]
   have e' := e
   simp only [List.length_nil] at e'
   exact congrArg (Option.map (·.1)) e'
 have hlen : js.length = hashes.size := by rw [ok.len]; exact Array.length_toList
 have hmem : ∀ j k, (j, k) ∈ ((List.range (m + 1)).filterMap fun j => (owner.getD j none).map (j, ·)) ↔ js[k]? = some j := fun j k => by
   rw [List.mem_filterMap]
   constructor
   · rintro ⟨x, _, hx⟩
     obtain ⟨k', h1, h2⟩ := Option.map_eq_some_iff.mp hx
     cases h2
     exact (ok.own _ _).mp h1
   · intro h
     refine ⟨j, List.mem_range.mpr ?_, by rw [(ok.own j k).mpr h]; rfl⟩
     have := ok.up j (List.mem_of_getElem? h)
     omega
 have hfst := xY (fun j => owner.getD j none) (List.range (m + 1))
 have hpm : ∀ x, x ∈ ((List.range (m + 1)).filterMap fun j => (owner.getD j none).map (j, ·)).map (·.1) ↔ x ∈ js := fun x => by
   rw [List.mem_map]
   constructor
   · rintro ⟨⟨j, k⟩, h1, rfl⟩
     exact List.mem_of_getElem? ((hmem j k).mp h1)
   · intro h
     obtain ⟨k, hk⟩ := List.mem_iff_getElem?.mp h
     exact ⟨(x, k), (hmem x k).mpr hk, rfl⟩
 have hris : (((List.range (m + 1)).filterMap fun j => (owner.getD j none).map (j, ·)).map (·.1)).Pairwise (· < ·) := by
   rw [hfst]
   exact List.pairwise_lt_range.filter _
 have hlaid : SetTable.laid m f mv led plain hashes = some ({ mask := m, place := (((List.range (m + 1)).filterMap fun j => (owner.getD j none).map (j, ·)).map (·.1)).toArray, dummies := #[], finger := f, led := led, moves := mv, plain := plain }, (((List.range (m + 1)).filterMap fun j => (owner.getD j none).map (j, ·)).map (·.2)).toArray) := by
   unfold SetTable.laid
   rw [hlay]
   rfl
 generalize ((List.range (m + 1)).filterMap fun j => (owner.getD j none).map (j, ·)) = live at hmem hpm hris hlaid
 have hnd : (live.map (·.1)).Nodup := hris.imp fun h => Nat.ne_of_lt h
 have hll : live.length = js.length := by
   have h1 := hnd.length_le_of_subset (l₂ := js) fun x hx => (hpm x).mp hx
   have h2 := ok.nd.length_le_of_subset (l₂ := live.map (·.1)) fun x hx => (hpm x).mpr hx
   rw [List.length_map] at h1 h2
   omega
 refine ⟨_, _, hlaid, rfl, rfl, rfl, fun k => ?_, ?_, fun hs' hl' hq => ⟨?_, rfl, hris, fun x hx => ok.up x ((hpm x).mp hx), hm, ?_, fun q j h hj hh => ?_⟩⟩
 · show k ∈ live.map (·.2) ↔ _
   rw [List.mem_map]
   constructor
   · rintro ⟨⟨j, k'⟩, h1, rfl⟩
     have := (List.getElem?_eq_some_iff.mp ((hmem j k').mp h1)).1
     omega
   · intro h
     have hk : k < js.length := by omega
     exact ⟨(js[k], k), (hmem _ _).mpr (List.getElem?_eq_getElem hk), rfl⟩
 · show (live.map (·.2)).length = _
   rw [List.length_map]
   omega
 · show (live.map (·.1)).length = _
   rw [List.length_map]
   omega
 · show _ < m
   omega
 · have hj : (live.map (·.1))[q]? = some j := hj
   rw [List.getElem?_map] at hj
   obtain ⟨⟨j', k⟩, e1, e2⟩ := Option.map_eq_some_iff.mp hj
   cases e2
   have hk : (live.map (·.2))[q]? = some k := by rw [List.getElem?_map, e1]; rfl
   have := hq q k hk
   rw [this] at hh
   exact (ok.rc k j' h ((hmem j' k).mp (List.mem_of_getElem? e1)) hh).mono fun x hx => (hpm x).mpr hx
end L2
namespace L2
open PySem PyProof.Rows
section
variable {prog : Program} {w : World} {A : Around} {E : Value -> Shared -> Prop} {s : Shared}
abbrev TK (prog : Program) (w : World) (h : Heap) (k : List Key) (b : Addr) : Prop := IsTupleKey (zZ prog w) h k b
abbrev tkH (prog : Program) (w : World) (k : List Key) : Int := tupleKeyHash (zZ prog w) k
def ElK (prog : Program) (w : World) (h : Heap) (ks : List (List Key)) (e : Int × Value) : Prop := ∃ b k, e.2 = .ref b /\ k ∈ ks /\ TK prog w h k b /\ e.1 = tkH prog w k
def Rst (m n : Nat) : Prop := (m = 7 /\ n <= 4) \/ (m = 31 /\ n <= 18) \/ (m = 127 /\ n <= 70)
structure TuOk (prog : Program) (w : World) (h : Heap) (ks : List (List Key)) (es : Array (Int × Value)) (t : SetTable) : Prop where
 tab : TabOk t (es.toList.map (·.1))
 el : ∀ e ∈ es.toList, ElK prog w h ks e
 ke : ∀ k ∈ ks, ∃ e ∈ es.toList, ∃ b, e.2 = .ref b /\ TK prog w h k b /\ e.1 = tkH prog w k
 nd : ks.Nodup
 len : ks.length = es.size
def TuSet (prog : Program) (w : World) (h : Heap) (a : Addr) (ks : List (List Key)) : Prop :=
 ∃ o es ep t, h.get? a = some o /\ o.ExactSet /\ o.data = .set es ep t /\ TuOk prog w h ks es t /\ Rst t.mask es.size
theorem TuOk.fits {h : Heap} {ks : List (List Key)} {es : Array (Int × Value)} {t : SetTable} (x : TuOk prog w h ks es t) : t.fits es.size = true := by
 have := x.tab.fits
 rwa [List.length_map, Array.length_toList] at this
theorem TK.keep {h h' : Heap} {k : List Key} {b : Addr} (x : TK prog w h k b) (y : ∀ o, h.get? b = some o -> o.cls = .type "tuple" -> h'.get? b = some o) : TK prog w h' k b := by
 obtain ⟨o, items, n, ho, hc, hd, hi⟩ := x
 exact ⟨o, items, n, y o ho hc, hc, hd, hi⟩
theorem TuOk.keep {h h' : Heap} {ks : List (List Key)} {es : Array (Int × Value)} {t : SetTable} (x : TuOk prog w h ks es t) (y : ∀ b o, h.get? b = some o -> o.cls = .type "tuple" -> h'.get? b = some o) : TuOk prog w h' ks es t :=
 ⟨x.tab, fun e he => let ⟨b, k, h1, h2, h3, h4⟩ := x.el e he; ⟨b, k, h1, h2, h3.keep (y b), h4⟩, fun k hk => let ⟨e, he, b, h1, h2, h3⟩ := x.ke k hk; ⟨e, he, b, h1, h2.keep (y b), h3⟩, x.nd, x.len⟩
theorem ItemsAre.by1 {x : List Key} {vs : List Value} (hx : ItemsAre (zZ prog w) x vs) : ∀ v ∈ vs, (∃ i t, v = .int i t) \/ ∃ z t, v = .str z t := by
 induction hx with
 | nil => intro v hv; cases hv
 | @cons k v' ks vs h1 _ ih =>
   intro v hv
   rcases List.mem_cons.mp hv with rfl | hv
   · rcases keyIs_shape h1 with ⟨i, t, rfl, rfl⟩ | ⟨z, t, rfl, rfl⟩
     · exact .inl ⟨_, _, rfl⟩
     · exact .inr ⟨_, _, rfl⟩
   · exact ih v hv
theorem xP {k : List Key} {b : Addr} {Q : Bool -> Shared -> Prop} (hk : TK prog w s.heap k b) (h : Q false s) : wpAny (model prog w) A (ofAClassStatement 8 (.ref b)) Q E s := by
 have hT := hk.typeIs
 obtain ⟨o, items, n, ho, _, hd, hi⟩ := hk
 unfold ofAClassStatement
 refine wpAny_bind (wpAny_typeOf hT ?_)
 dsimp only
 rw [if_pos (by decide +kernel)]
 refine wpAny_bind (wpAny_pure ?_)
 rw [if_neg (by decide)]
 refine wpAny_bind (wpAny_seqItems ho hd ?_)
 dsimp only
 refine wpAny_bind ?_
 rw [← Array.forIn_toList]
 refine wpAny_forIn_list _ (fun rest r s' => r.1 = none /\ s' = s /\ ∀ v ∈ rest, (∃ i t, v = Value.int i t) \/ ∃ z t, v = Value.str z t) _ ?_ ?_ _ _ ⟨rfl, rfl, ItemsAre.by1 hi⟩
 · rintro v rest r s' ⟨hr, rfl, hall⟩
   have e : ofAClassStatement 7 v = pure false := by
     rcases hall v List.mem_cons_self with ⟨i, t, rfl⟩ | ⟨z, t, rfl⟩ <;> unfold ofAClassStatement <;> rfl
   rw [e]
   refine wpAny_bind (wpAny_pure ?_)
   rw [if_neg (by decide)]
   exact wpAny_pure ⟨rfl, rfl, fun u hu' => hall u (List.mem_cons_of_mem _ hu')⟩
 · rintro ⟨r1, r2⟩ s' ⟨hr, rfl, _⟩
   simp only at hr
   subst hr
   exact wpAny_pure h
theorem seen_not {k : List Key} {b : Addr} {l : List Value} {Q : Bool -> Shared -> Prop} (hk : TK prog w s.heap k b) (hl : ∀ v ∈ l, ∃ b' k', v = .ref b' /\ TK prog w s.heap k' b') (h : Q false s) : wpAny (model prog w) A (searchCouldBeSeen (.ref b) l) Q E s := by
 unfold searchCouldBeSeen
 refine wpAny_bind ?_
 refine wpAny_forIn_list _ (fun rest r s' => r.1 = none /\ s' = s /\ ∀ v ∈ rest, ∃ b' k', v = Value.ref b' /\ TK prog w s.heap k' b') _ ?_ ?_ _ _ ⟨rfl, rfl, hl⟩
 · rintro v rest r s' ⟨hr, rfl, hall⟩
   obtain ⟨b', k', rfl, hk'⟩ := hall _ List.mem_cons_self
   have nx : ∀ (r : _), (fun (r : Option Bool × PUnit) (s'' : Shared) => r.1 = none /\ s'' = s' /\ ∀ v ∈ rest, ∃ b' k', v = Value.ref b' /\ TK prog w s'.heap k' b') (none, r) s' := fun r => ⟨rfl, rfl, fun u hu' => hall u (List.mem_cons_of_mem _ hu')⟩
   dsimp only
   split
   · exact wpAny_pure (nx _)
   · refine wpAny_bind (wpAny_eqIsQuiet_tuple hk ?_)
     simp only [Bool.not_true, Bool.false_eq_true, if_false]
     refine wpAny_bind (wpAny_eqIsQuiet_tuple hk' ?_)
     simp only [Bool.not_true, Bool.false_eq_true, if_false]
     refine wpAny_bind (xP hk ?_)
     simp only [Bool.false_eq_true, if_false]
     refine wpAny_bind (xP hk' ?_)
     simp only [Bool.false_eq_true, if_false]
     exact wpAny_pure (nx _)
 · rintro ⟨r1, r2⟩ s' ⟨hr, rfl, _⟩
   simp only at hr
   subst hr
   exact wpAny_pure h
theorem byValue_any {k : List Key} {b : Addr} {Q : Bool -> Shared -> Prop} (hk : TK prog w s.heap k b) (h : ∀ r, Q r s) : wpAny (model prog w) A (hashByValue 8 (.ref b)) Q E s := by
 have hT := hk.typeIs
 obtain ⟨o, items, n, ho, _, hd, hi⟩ := hk
 unfold hashByValue
 refine wpAny_bind (wpAny_specialOf hT F.slot_tuple_hash.lookup ?_)
 dsimp only
 refine wpAny_bind (wpAny_seqItems ho hd ?_)
 refine wpAny_bind ?_
 show wpAny _ _ (forIn items _ _) _ _ s
 rw [← Array.forIn_toList]
 refine wpAny_forIn_list _ (fun rest r s' => r.1 = none /\ s' = s /\ ∀ v ∈ rest, (∃ i t, v = Value.int i t) \/ ∃ z t, v = Value.str z t) _ ?_ ?_ _ _ ⟨rfl, rfl, ItemsAre.by1 hi⟩
 · rintro v rest r s' ⟨hr, rfl, hall⟩
   rcases hall v List.mem_cons_self with ⟨i, t, rfl⟩ | ⟨z, t, rfl⟩
   · have e : hashByValue 7 (.int i t) = pure true := by unfold hashByValue; rfl
     rw [e]
     refine wpAny_bind (wpAny_pure ?_)
     rw [if_neg (by decide)]
     exact wpAny_pure ⟨rfl, rfl, fun u hu' => hall u (List.mem_cons_of_mem _ hu')⟩
   · have e : hashByValue 7 (.str z t) = pure false := by unfold hashByValue; rfl
     rw [e]
     refine wpAny_bind (wpAny_pure ?_)
     rw [if_pos (by decide)]
     exact wpAny_pure (wpAny_pure (h _))
 · rintro ⟨r1, r2⟩ s' ⟨hr, rfl, _⟩
   simp only at hr
   subst hr
   exact wpAny_pure (h _)
theorem Rch.inv {m : Nat} {L : Nat -> Prop} {p : SetTable.Probe} {x : Nat} (h : Rch m L p x) : x = p.j \/ (L p.j /\ Rch m L (yR m p) x) := by
 cases h with
 | here => exact .inl rfl
 | next h1 h2 => exact .inr ⟨h1, h2⟩
def PokT (m : Nat) (p : SetTable.Probe) : Prop := p.j + p.more <= m
theorem PokT.adv {m : Nat} {p : SetTable.Probe} (h : PokT m p) : PokT m (yR m p) := by
 unfold PokT at h ⊢
 unfold yR
 split
 · next c =>
   show p.j + 1 + (p.more - 1) <= m
   omega
 · show (SetTable.leap m p.i p.perturb).1 + (SetTable.runEnd m (SetTable.leap m p.i p.perturb).1 - (SetTable.leap m p.i p.perturb).1) <= m
   have hl : (SetTable.leap m p.i p.perturb).1 <= m := by
     show (p.i * 5 + 1 + p.perturb / 32) % (m + 1) <= m
     exact Nat.le_of_lt_succ (Nat.mod_lt _ (Nat.succ_pos _))
   have := xJ hl
   omega
theorem pok_start (m : Nat) (h : Int) : PokT m (yO m (SetTable.bits h % (m + 1)) (SetTable.bits h)) := by
 have hl : SetTable.bits h % (m + 1) <= m := Nat.le_of_lt_succ (Nat.mod_lt _ (Nat.succ_pos _))
 have := xJ hl
 show SetTable.bits h % (m + 1) + (SetTable.runEnd m (SetTable.bits h % (m + 1)) - SetTable.bits h % (m + 1)) <= m
 omega
def hAt (es : Array (Int × Value)) (i : Nat) : Int := (es[i]?.map (·.1)).getD 0
def Tgt (prog : Program) (w : World) (h : Heap) (k : List Key) (es : Array (Int × Value)) (q : Nat) : Prop := ∃ e b, es[q]? = some e /\ e.2 = .ref b /\ TK prog w h k b /\ e.1 = tkH prog w k
structure SIv (prog : Program) (w : World) (h : Heap) (k : List Key) (es : Array (Int × Value)) (t : SetTable) (p : SetTable.Probe) : Prop where
 po : PokT t.mask p
 i1 : ∀ j, Rch t.mask (· ∈ t.place.toList) p j -> Rch t.mask (· ∈ t.place.toList) (yO t.mask (SetTable.bits (tkH prog w k) % (t.mask + 1)) (SetTable.bits (tkH prog w k))) j
 i2 : ∀ q x, Tgt prog w h k es q -> t.place[q]? = some x -> Rch t.mask (· ∈ t.place.toList) p x
theorem SIv.adv {h : Heap} {k : List Key} {es : Array (Int × Value)} {t : SetTable} {p : SetTable.Probe} (hr : Ris t.place) {i : Nat} (hi : t.slot p.j = .live i) (hn : ¬ Tgt prog w h k es i) (x : SIv prog w h k es t p) : SIv prog w h k es t (yR t.mask p) := by
 have hp := (yN hr).mp hi
 have hl : p.j ∈ t.place.toList := by rw [← Array.getElem?_toList] at hp; exact List.mem_of_getElem? hp
 refine ⟨x.po.adv, fun j hj => x.i1 j (.next hl hj), fun q y hq hy => ?_⟩
 rcases (x.i2 q y hq hy).inv with e | ⟨_, e⟩
 · subst e
   have h1 := (yN hr).mpr hy
   rw [hi] at h1
   cases h1
   exact absurd hq hn
 · exact e
theorem SIv.walk {h : Heap} {k : List Key} {es : Array (Int × Value)} {t : SetTable} {p p' : SetTable.Probe} (hr : Ris t.place) (wk : Wk t (hAt es) (tkH prog w k) p p') (x : SIv prog w h k es t p) : SIv prog w h k es t p' := by
 induction wk with
 | refl => exact x
 | @step p p' i h1 h2 _ ih =>
   refine ih (x.adv hr h1 ?_)
   rintro ⟨e, b, a1, _, _, a4⟩
   apply h2
   unfold hAt
   rw [a1]
   exact a4
theorem tu_search {a b : Addr} {o : Obj} {es : Array (Int × Value)} {ep : Nat} {t : SetTable} {ks : List (List Key)} {k : List Key} (ho : s.heap.get? a = some o) (hd : o.data = .set es ep t) (ok : TuOk prog w s.heap ks es t) (hk : TK prog w s.heap k b) (hu : A.units < cLine)
   {Q : SetFound -> Shared -> Prop} (hit : k ∈ ks -> Q (.there none) s)
   (fre : k ∉ ks -> ∀ j, t.slot j = .empty -> j <= t.mask -> Rch t.mask (· ∈ t.place.toList) (yO t.mask (SetTable.bits (tkH prog w k) % (t.mask + 1)) (SetTable.bits (tkH prog w k))) j -> Q (.free j false) s) :
   ∀ (fuel n : Nat) (stand : Option SetTable.Probe) (p : SetTable.Probe), stand.getD (t.probeStart (tkH prog w k)) = p -> n < fuel -> n <= 10 * (t.mask + 12) -> p.dummy = none -> t.slot (itA t.mask n p).j = .empty -> SIv prog w s.heap k es t p ->
     wpAny (model prog w) A (setSearchFrom a (.ref b) (tkH prog w k) true fuel stand) Q E s := by
 have hf := ok.fits
 have hr := ok.tab.ri
 intro fuel
 induction fuel with
 | zero => intro n _ _ _ h; exact absurd h (Nat.not_lt_zero _)
 | succ fuel ih =>
   intro n stand p hp hn hn2 hpd hse iv
   unfold setSearchFrom
   refine wpAny_bind (wpAny_setState_of ho hd hf ?_)
   dsimp only
   rw [ok.tab.odd, if_neg (by decide)]
   rw [hp]
   have hg := go_spec t hr ok.tab.du (hAt es) (tkH prog w k) n (10 * SetTable.turns t.mask) p (by unfold SetTable.turns; omega) hpd hse
   generalize hX : SetTable.probe t _ (tkH prog w k) p = X
   have hX : SetTable.probe.go t (hAt es) (tkH prog w k) (10 * SetTable.turns t.mask) p = X := hX
   rcases hg with ⟨p', g1, g2, g3⟩ | ⟨p', i, m, g1, g2, g3, g4, g5, g6, g7⟩
   · rw [g1] at hX
     subst hX
     dsimp only
     have iv' := iv.walk hr g3
     refine wpAny_pure (fre (fun hm => ?_) _ g2 ?_ (iv'.i1 _ (.here _)))
     · obtain ⟨e, he, b', e1, e2, e3⟩ := ok.ke k hm
       obtain ⟨q, hq, rfl⟩ := List.getElem_of_mem he
       have hq2 : q < t.place.size := by
         have := ok.tab.sz
         rw [List.length_map] at this
         omega
       rcases (iv'.i2 q _ ⟨_, b', by rw [← Array.getElem?_toList]; exact List.getElem?_eq_getElem hq, e1, e2, e3⟩ (Array.getElem?_eq_getElem hq2)).inv with c | ⟨c, _⟩
       · have := (yN hr).mpr (Array.getElem?_eq_getElem hq2)
         rw [c, g2] at this
         cases this
       · exact (xF hr ok.tab.du).mp g2 c
     · have := iv'.po
       unfold PokT at this
       omega
   · rw [g1] at hX
     subst hX
     dsimp only
     have iv' := iv.walk hr g4
     have hpl := (yN hr).mp g2
     have hi : i < es.size := by
       have h1 := (Array.getElem?_eq_some_iff.mp hpl).1
       have := ok.tab.sz
       rw [List.length_map, Array.length_toList] at this
       omega
     obtain ⟨⟨hh, y⟩, hei, b', k', e1, e2, e3, e4⟩ : ∃ e, es[i]? = some e /\ ElK prog w s.heap ks e := ⟨es[i], Array.getElem?_eq_getElem hi, ok.el es[i] (by rw [← Array.getElem_toList]; exact List.getElem_mem _)⟩
     dsimp only at e1 e4
     subst e1
     have nxt : k' ≠ k -> SIv prog w s.heap k es t (yR t.mask p') := fun hkk => iv'.adv hr g2 (by
       rintro ⟨e, b'', a1, a2, a3, a4⟩
       rw [hei] at a1
       cases a1
       cases a2
       exact hkk (e3.inj a3))
     have hsm : t.sameMemory t.moves t.mask = some true := by unfold SetTable.sameMemory; rw [if_pos (beq_self_eq_true _)]
     have hsn : ∀ v ∈ List.map (fun x : Int × Value => x.snd) (Array.filter (fun x => x.fst == tkH prog w k) es).toList, ∃ b' k', v = Value.ref b' /\ TK prog w s.heap k' b' := by
       intro v hv
       obtain ⟨e, he, rfl⟩ := List.mem_map.mp hv
       rw [Array.toList_filter] at he
       obtain ⟨b1, k1, a1, _, a3, _⟩ := ok.el e (List.mem_filter.mp he).1
       exact ⟨b1, k1, a1, a3⟩
     split
     · refine wpAny_bind (seen_not hk hsn ?_)
       rw [if_neg (by decide)]
       rw [hei]
       dsimp only
       refine wpAny_bind (wpAny_holding (wpAny_eqBool_tuple hu e3 hk ?_))
       refine wpAny_bind (wpAny_setState_of ho hd hf ?_)
       by_cases hkk : k' = k
       · rw [decide_eq_true hkk, if_pos (by decide)]
         exact wpAny_pure (hit (hkk ▸ e2))
       · rw [decide_eq_false hkk, if_neg (by decide)]
         dsimp only
         rw [hsm]
         dsimp only
         rw [if_pos rfl, g2]
         dsimp only
         rw [hei]
         dsimp only
         refine wpAny_bind (wpAny_isSame_ref_self ?_)
         refine wpAny_bind (wpAny_pure ?_)
         rw [if_pos rfl]
         dsimp only
         rw [if_neg (by decide)]
         exact ih m _ _ rfl (by omega) (by omega) ((xH _ _).trans g6) g7 (nxt hkk)
     · rw [hei]
       dsimp only
       refine wpAny_bind (wpAny_holding (wpAny_eqBool_tuple hu e3 hk ?_))
       refine wpAny_bind (wpAny_setState_of ho hd hf ?_)
       by_cases hkk : k' = k
       · rw [decide_eq_true hkk, if_pos (by decide)]
         exact wpAny_pure (hit (hkk ▸ e2))
       · rw [decide_eq_false hkk, if_neg (by decide)]
         dsimp only
         rw [hsm]
         dsimp only
         rw [if_pos rfl, g2]
         dsimp only
         rw [hei]
         dsimp only
         refine wpAny_bind (wpAny_isSame_ref_self ?_)
         refine wpAny_bind (wpAny_pure ?_)
         rw [if_pos rfl]
         dsimp only
         rw [if_neg (by decide)]
         exact ih m _ _ rfl (by omega) (by omega) ((xH _ _).trans g6) g7 (nxt hkk)
theorem xU {h h' : Heap} {a : Addr} {o : Obj} (ho : h.get? a = some o) (hc : o.cls = .type "set") (sb : Heap.SameBut a h h') : ∀ b o', h.get? b = some o' -> o'.cls = .type "tuple" -> h'.get? b = some o' := fun b o' hb ht => by
 have hne : b ≠ a := by
   rintro rfl
   rw [ho] at hb
   cases hb
   rw [hc] at ht
   exact absurd ht (by decide)
 rw [sb.2 b hne]
 exact hb
theorem tu_relay {a : Addr} {o : Obj} {es : Array (Int × Value)} {ep : Nat} {t : SetTable} {ks : List (List Key)} {m wanted : Nat} {Q : Unit -> Shared -> Prop} (ho : s.heap.get? a = some o) (hx : o.ExactSet) (hd : o.data = .set es ep t) (ok : TuOk prog w s.heap ks es t)
   (hm : MkT m) (hw : SetTable.sizeAbove wanted = m + 1) (rst : Rst m es.size) (hQ : ∀ h', Heap.SameBut a s.heap h' -> TuSet prog w h' a ks -> Q () { s with heap := h' }) :
   wpAny (model prog w) A (setRelay a wanted) Q E s := by
 unfold setRelay
 refine wpAny_bind (wpAny_setState_of ho hd ok.fits ?_)
 dsimp only
 have hfew : es.size < m := by rcases rst with ⟨rfl, _⟩ | ⟨rfl, _⟩ | ⟨rfl, _⟩ <;> omega
 rw [if_neg (by rw [hw, sizeLine_eq]; rcases hm with rfl | rfl | rfl <;> omega)]
 obtain ⟨t2, order, l1, l2, l3, l4, l5, l6, l7⟩ := laid_spec hm t.finger (t.movedTo m) t.led t.plain (es.map (·.1)) (by rw [Array.size_map]; exact hfew)
 rw [Array.size_map] at l5 l6 l7
 have hrl : t.relaid (es.map (·.1)) wanted = some (t2, order) := by
   unfold SetTable.relaid
   rw [hw]
   exact l1
 rw [hrl]
 have hes : (order.filterMap (es[·]?)).toList = order.toList.map fun k => es.toList.getD k (0, .none) := by
   rw [Array.toList_filterMap]
   have : ∀ l : List Nat, (∀ k ∈ l, k < es.size) -> (l.filterMap (es[·]?)) = l.map fun k => es.toList.getD k (0, .none) := by
     intro l
     induction l with
     | nil => intro _; rfl
     | cons k l ih =>
       intro hl
       have hk := hl k List.mem_cons_self
       rw [List.filterMap_cons_some (b := es[k]) (Array.getElem?_eq_getElem hk), List.map_cons, ih fun x hx => hl x (List.mem_cons_of_mem _ hx), List.getD_eq_getElem?_getD, Array.getElem?_toList, Array.getElem?_eq_getElem hk]
       rfl
   exact this _ fun k hk => (l5 k).mp hk
 have hsz : (order.filterMap (es[·]?)).size = es.size := by
   rw [← Array.length_toList, hes, List.length_map, Array.length_toList]
   exact l6
 have hgD : ∀ k, k < es.size -> es.toList.getD k (0, .none) ∈ es.toList := fun k hk => by
   rw [List.getD_eq_getElem?_getD, Array.getElem?_toList, Array.getElem?_eq_getElem hk]
   show es[k] ∈ es.toList
   rw [← Array.getElem_toList]
   exact List.getElem_mem _
 have hmem : ∀ e, e ∈ (order.filterMap (es[·]?)).toList ↔ e ∈ es.toList := fun e => by
   rw [hes, List.mem_map]
   constructor
   · rintro ⟨k, hk, rfl⟩
     exact hgD k ((l5 k).mp hk)
   · intro he
     obtain ⟨k, hk, rfl⟩ := List.getElem_of_mem he
     rw [Array.length_toList] at hk
     exact ⟨k, (l5 k).mpr hk, by rw [List.getD_eq_getElem?_getD, List.getElem?_eq_getElem (by rw [Array.length_toList]; exact hk)]; rfl⟩
 have htab : TabOk t2 ((order.filterMap (es[·]?)).toList.map (·.1)) := by
   refine l7 _ (by rw [List.length_map, Array.length_toList]; exact hsz) fun q k hq => ?_
   rw [hes, List.map_map, List.getElem?_map, hq]
   have hk := (l5 k).mp (List.mem_of_getElem? hq)
   rw [Array.toList_map, List.getElem?_map, Array.getElem?_toList, Array.getElem?_eq_getElem hk]
   show some (es.toList.getD k (0, Value.none)).1 = some es[k].1
   rw [List.getD_eq_getElem?_getD, Array.getElem?_toList, Array.getElem?_eq_getElem hk]
   rfl
 refine wpAny_bind (show wpAny _ _ (if ((order.filterMap (es[·]?)).size != es.size) = true then _ else pure (order.filterMap (es[·]?), t2)) _ _ _ from ?_)
 generalize order.filterMap (es[·]?) = es2 at hsz hmem htab
 rw [if_neg (by rw [hsz]; simp)]
 refine wpAny_pure ?_
 dsimp only
 refine wpAny_storeSet_of ho hd ?_ (by rw [hsz, sizeLine_eq]; rcases rst with ⟨_, h⟩ | ⟨_, h⟩ | ⟨_, h⟩ <;> omega)
 have sb := Heap.SameBut.update s.heap a (Obj.putSet es2 t2)
 have hg : (s.heap.update a (Obj.putSet es2 t2)).get? a = some { o with data := .set es2 (ep + 1) t2 } := by
   have q := Heap.get?_update_self (Obj.putSet es2 t2) ho (by rw [putSet_of es2 t2 hd]; rfl)
   rw [putSet_of es2 t2 hd] at q
   exact q
 have ok2 : TuOk prog w s.heap ks es2 t2 := ⟨htab, fun e he => ok.el e ((hmem e).mp he), fun k hk => let ⟨e, he, r⟩ := ok.ke k hk; ⟨e, (hmem e).mpr he, r⟩, ok.nd, ok.len.trans hsz.symm⟩
 exact hQ _ sb ⟨_, es2, ep + 1, t2, hg, hx, rfl, ok2.keep (xU ho hx.1 sb), by rw [l2, hsz]; exact rst⟩
theorem tu_add {a b : Addr} {ks : List (List Key)} {k : List Key} {Q : Bool -> Shared -> Prop} (hS : TuSet prog w s.heap a ks) (hk : TK prog w s.heap k b) (hu : A.units < cLine) (room : ks.length < 70)
   (h : ∀ h' ks', Heap.SameBut a s.heap h' -> TuSet prog w h' a ks' -> ((k ∈ ks /\ ks' = ks) \/ (k ∉ ks /\ ks' = ks ++ [k])) -> ∀ bb, Q bb { s with heap := h' }) :
   wpAny (model prog w) A (setAddHashed a (.ref b) (tkH prog w k)) Q E s := by
 obtain ⟨o, es, ep, t, ho, hx, hd, ok, rst⟩ := hS
 have hf := ok.fits
 have hlen := ok.len
 unfold setAddHashed setAddHashedIn
 refine wpAny_holding (wpAny_bind (wpAny_setState_of ho hd hf ?_))
 dsimp only
 rw [show byScan (.ref b) es = false from rfl, if_neg (by decide)]
 unfold setSearch
 obtain ⟨n, hn1, hn2⟩ := ok.tab.some_empty (tkH prog w k)
 have hm127 : t.mask <= 127 := by rcases ok.tab.ms with e | e | e <;> omega
 have iv0 : SIv prog w s.heap k es t (yO t.mask (SetTable.bits (tkH prog w k) % (t.mask + 1)) (SetTable.bits (tkH prog w k))) := by
   refine ⟨pok_start _ _, fun j hj => hj, fun q x ⟨e, b', a1, _, _, a4⟩ hxp => ?_⟩
   rw [← a4]
   refine ok.tab.rc q x e.1 (by rw [Array.getElem?_toList]; exact hxp) ?_
   rw [List.getElem?_map, Array.getElem?_toList, a1]
   rfl
 refine wpAny_bind (tu_search ho hd ok hk hu (fun hm => ?_) (fun hm j hj hjm hrc => ?_) 100000 n none _ rfl (by omega) hn1 rfl hn2 iv0)
 · dsimp only
   refine wpAny_pure ?_
   have q := h s.heap ks (Heap.SameBut.refl a s.heap) ⟨o, es, ep, t, ho, hx, hd, ok, rst⟩ (.inl ⟨hm, rfl⟩) false
   cases s
   exact q
 · dsimp only
   refine wpAny_bind (wpAny_setState_of ho hd hf ?_)
   dsimp only
   have few : es.size + 1 < t.mask := by rcases rst with ⟨e, _⟩ | ⟨e, _⟩ | ⟨e, _⟩ <;> omega
   have tl : ∀ (t1 : SetTable), (∃ c, t1 = { (t.put j).1 with plain := c }) -> wpAny (model prog w) A (storeSet a (SetTable.insertAt es (t.put j).2 (tkH prog w k, Value.ref b)) t1 >>= fun _ =>
       if (!false && t1.tooFull) = true then (setRelay a (SetTable.grown (es.size + 1)) >>= fun _ => pure true) else pure true) Q E s := by
     rintro t1 ⟨c, rfl⟩
     obtain ⟨hp, htab⟩ := ok.tab.put hj hjm (by rw [List.length_map, Array.length_toList]; exact few) c hrc
     rw [List.length_map, Array.length_toList] at hp
     have hl1 := yL es (t.put j).2 (tkH prog w k, Value.ref b) hp
     have htab : TabOk { (t.put j).1 with plain := c } ((SetTable.insertAt es (t.put j).2 (tkH prog w k, Value.ref b)).toList.map (·.1)) := by
       rw [hl1, List.map_append, List.map_cons, List.map_take, List.map_drop]
       exact htab
     have hmk : ({ (t.put j).1 with plain := c } : SetTable).mask = t.mask := rfl
     have hsz1 : (SetTable.insertAt es (t.put j).2 (tkH prog w k, Value.ref b)).size = es.size + 1 := by
       rw [← Array.length_toList, hl1, List.length_append, List.length_cons, List.length_take, List.length_drop, Array.length_toList]
       omega
     have hmem : ∀ e, e ∈ (SetTable.insertAt es (t.put j).2 (tkH prog w k, Value.ref b)).toList ↔ e = (tkH prog w k, Value.ref b) \/ e ∈ es.toList := fun e => by
       rw [hl1, List.mem_append, List.mem_cons]
       constructor
       · rintro (h | h | h)
         · exact .inr (List.mem_of_mem_take h)
         · exact .inl h
         · exact .inr (List.mem_of_mem_drop h)
       · rintro (h | h)
         · exact .inr (.inl h)
         · rw [← List.take_append_drop (t.put j).2 es.toList] at h
           rcases List.mem_append.mp h with h | h
           · exact .inl h
           · exact .inr (.inr h)
     have hfill : ({ (t.put j).1 with plain := c } : SetTable).tooFull = decide ((es.size + 1) * 5 ≥ t.mask * 3) := by
       have h1 := htab.sz
       have h2 := htab.du
       rw [List.length_map, Array.length_toList, hsz1] at h1
       unfold SetTable.tooFull SetTable.fill
       rw [h1, h2, hmk]
       rfl
     generalize ({ (t.put j).1 with plain := c } : SetTable) = t1 at htab hmk hfill ⊢
     generalize SetTable.insertAt es (t.put j).2 (tkH prog w k, Value.ref b) = es1 at htab hsz1 hmem ⊢
     have ok1 : TuOk prog w s.heap (ks ++ [k]) es1 t1 := by
       refine ⟨htab, fun e he => ?_, fun k' hk' => ?_, ?_, ?_⟩
       · rcases (hmem e).mp he with rfl | he
         · exact ⟨b, k, rfl, List.mem_append_right _ (List.mem_singleton.mpr rfl), hk, rfl⟩
         · obtain ⟨b', k', a1, a2, a3, a4⟩ := ok.el e he
           exact ⟨b', k', a1, List.mem_append_left _ a2, a3, a4⟩
       · rcases List.mem_append.mp hk' with hk' | hk'
         · obtain ⟨e, he, r⟩ := ok.ke k' hk'
           exact ⟨e, (hmem e).mpr (.inr he), r⟩
         · rw [List.mem_singleton.mp hk']
           exact ⟨_, (hmem _).mpr (.inl rfl), b, rfl, hk, rfl⟩
       · refine List.nodup_append.mpr ⟨ok.nd, by simp, fun x hx y hy => ?_⟩
         rw [List.mem_singleton] at hy
         rintro rfl
         exact hm (hy ▸ hx)
       · rw [List.length_append, List.length_singleton, hsz1, hlen]
     refine wpAny_bind (wpAny_storeSet_of ho hd ?_ (by rw [hsz1, sizeLine_eq]; omega))
     have sb := Heap.SameBut.update s.heap a (Obj.putSet es1 t1)
     have hg : (s.heap.update a (Obj.putSet es1 t1)).get? a = some { o with data := .set es1 (ep + 1) t1 } := by
       have q := Heap.get?_update_self (Obj.putSet es1 t1) ho (by rw [putSet_of es1 t1 hd]; rfl)
       rw [putSet_of es1 t1 hd] at q
       exact q
     have ok2 := ok1.keep (xU ho hx.1 sb)
     rw [hfill]
     by_cases hfu : (es.size + 1) * 5 ≥ t.mask * 3
     · rw [decide_eq_true hfu, if_pos (by decide)]
       rcases rst with ⟨e, h4⟩ | ⟨e, h4⟩ | ⟨e, h4⟩
       · have e4 : es.size = 4 := by omega
         refine wpAny_bind (tu_relay (s := { s with heap := s.heap.update a (Obj.putSet es1 t1) }) (m := 31) hg hx rfl ok2 (.inr (.inl rfl)) (by rw [e4]; decide +kernel) (.inr (.inl ⟨rfl, by omega⟩)) fun h' sb' hT => wpAny_pure (h _ _ (sb.trans sb') hT (.inr ⟨hm, rfl⟩) _))
       · have e4 : es.size = 18 := by omega
         refine wpAny_bind (tu_relay (s := { s with heap := s.heap.update a (Obj.putSet es1 t1) }) (m := 127) hg hx rfl ok2 (.inr (.inr rfl)) (by rw [e4]; decide +kernel) (.inr (.inr ⟨rfl, by omega⟩)) fun h' sb' hT => wpAny_pure (h _ _ (sb.trans sb') hT (.inr ⟨hm, rfl⟩) _))
       · exact absurd hfu (by omega)
     · rw [decide_eq_false hfu, if_neg (by decide)]
       refine wpAny_pure (h _ _ sb ⟨_, es1, ep + 1, t1, hg, hx, rfl, ok2, ?_⟩ (.inr ⟨hm, rfl⟩) _)
       rw [hmk, hsz1]
       rcases rst with ⟨e, h4⟩ | ⟨e, h4⟩ | ⟨e, h4⟩
       · exact .inl ⟨e, by omega⟩
       · exact .inr (.inl ⟨e, by omega⟩)
       · exact .inr (.inr ⟨e, by omega⟩)
   split
   · refine wpAny_bind (byValue_any hk fun r => ?_)
     cases r with
     | true => exact tl _ ⟨(t.put j).1.plain, rfl⟩
     | false => exact tl _ ⟨false, rfl⟩
   · exact wpAny_bind (wpAny_pure (tl _ ⟨(t.put j).1.plain, rfl⟩))
end
end L2
namespace L2
open PySem PyProof.Rows
section
variable {prog : Program} {w : World}
theorem TuSet.kept {h h' : Heap} {a : Addr} {ks : List (List Key)} (hS : TuSet prog w h a ks) (k : ∀ o, h.get? a = some o -> h'.get? a = some o) (y : ∀ b o, h.get? b = some o -> o.cls = .type "tuple" -> h'.get? b = some o) : TuSet prog w h' a ks := by
 obtain ⟨o, es, ep, t, ho, hx, hd, ok, rst⟩ := hS
 exact ⟨o, es, ep, t, k _ ho, hx, hd, ok.keep y, rst⟩
theorem tu_fresh (led : Bool) {h : Heap} {a : Addr} (ho : h.get? a = some { cls := .type "set", dict := none, data := .set #[] 0 (.fresh 0 0 led) }) : TuSet prog w h a [] :=
 ⟨_, #[], 0, .fresh 0 0 led, ho, ⟨rfl, rfl, rfl⟩, rfl, ⟨TabOk.fresh 0 0 led, (fun e he => by simp at he), (fun k hk => by cases hk), List.nodup_nil, rfl⟩, .inl ⟨rfl, Nat.zero_le _⟩⟩
end
section
variable {prog : Program} {w : World} {A : Around} {R : Result -> Shared -> Prop} {I : Addr} {fp wr : List Addr} {G : Array GenState -> Array GenState -> Prop} {n : Nat} {P : Nat -> Value -> Prop} {St : Nat -> Shared -> Prop}
theorem tu_loop (W : WalksS prog w A.in1 I fp wr G n P St) (S : Addr) (hSf : S ∉ fp) (val : Nat -> List Key) (ad : Nat -> Addr) (hval : ∀ i v, P i v -> v = .ref (ad i)) (had : ∀ i, i < n -> ad i ∉ S :: wr)
   (hwr : ∀ i s, St i s -> ∀ b ∈ wr, ∀ o, s.heap.get? b = some o -> o.cls ≠ .type "tuple") (hu : A.units + 1 < cLine) (hb : n <= 70) :
   ∀ (k i : Nat) (s : Shared) (zs : List (List Key)), n - i = k -> i <= n -> St i s -> (∀ j, j < n -> TK prog w s.heap (val j) (ad j)) -> TuSet prog w s.heap S zs -> zs.length <= i -> (∀ z, z ∈ zs ↔ ∃ j, j < i /\ val j = z) ->
     (∀ s' zs', Moved (S :: wr) G s s' -> TuSet prog w s'.heap S zs' -> zs'.length <= n -> (∀ z, z ∈ zs' ↔ ∃ j, j < n /\ val j = z) -> R (.ok (.ret .none)) s') ->
     codeAny (model prog w) A (.builtin "set.update.loop" ⟨[.ref S, .ref I], []⟩) R s := by
 have hSw : S ∉ wr := fun q => hSf (W.sub _ q)
 have hsub : ∀ b ∈ wr, b ∈ S :: wr := fun b q => List.mem_cons_of_mem _ q
 intro k
 induction k with
 | zero =>
   intro i s zs hk hi hst htk hS hl hz hR
   have hin : i = n := by omega
   subst hin
   refine codeAny_builtin PyProof.Rows.F.entry_set_update_loop ?_
   rw [Around.under_plainId PyProof.Rows.F.plain_set_update_loop _]
   show wpAny _ A.in1 (pyNext (.ref I) >>= _) _ _ s
   refine wpAny_bind (W.done s _ _ hst fun s' hm => ?_)
   show wpAny _ A.in1 (ret Value.none) _ _ s'
   exact wpAny_pure (hR s' zs (hm.mono hsub) (hS.kept (fun o q => hm.heap S _ hSw q) fun b o q ht => hm.heap b _ (fun hb => hwr _ _ hst b hb o q ht) q) hl hz)
 | succ k ih =>
   intro i s zs hk hi hst htk hS hl hz hR
   have hlt : i < n := by omega
   refine codeAny_builtin PyProof.Rows.F.entry_set_update_loop ?_
   rw [Around.under_plainId PyProof.Rows.F.plain_set_update_loop _]
   show wpAny _ A.in1 (pyNext (.ref I) >>= _) _ _ s
   refine wpAny_bind (W.item i s _ _ hlt hst fun v s' hP hst' hm => ?_)
   obtain rfl := hval i v hP
   have hty : ∀ b o, s.heap.get? b = some o -> o.cls = .type "tuple" -> s'.heap.get? b = some o := fun b o q ht => hm.heap b _ (fun hb => hwr _ _ hst b hb o q ht) q
   have hS' : TuSet prog w s'.heap S zs := hS.kept (fun o q => hm.heap S _ hSw q) hty
   have htk' : ∀ j, j < n -> TK prog w s'.heap (val j) (ad j) := fun j hj => (htk j hj).keep (hty _)
   show wpAny _ A.in1 (holding [Value.ref (ad i)] (setAdd S (.ref (ad i))) >>= _) _ _ s'
   refine wpAny_bind (wpAny_holding ?_)
   unfold setAdd
   refine wpAny_holding ?_
   refine wpAny_bind (wpAny_pyHash_tuple (knd := zZ prog w) hu (htk' i hlt) ?_)
   refine tu_add (s := { s' with toks := s'.toks + ((val i).length + 1) }) hS' (htk' i hlt) hu (by omega) fun h' zs' sb hS2 hz2 b => ?_
   obtain ⟨oS, _, _, _, hoS, hxS, _⟩ := hS'
   have hty2 := xU hoS hxS.1 sb
   refine wpAny_pure ⟨plainId_quiet PyProof.Rows.F.plain_set_update_loop _, ih (i + 1) _ zs' (by omega) hlt (W.frame _ s' _ _ hst' (Nat.le_add_right _ _) fun b hb o q => ?_) (fun j hj => (htk' j hj).keep (hty2 _)) hS2 ?_ (fun z => ?_) fun s'' zs'' hm'' hS'' => ?_⟩
   · rw [sb.2 b (fun y : b = S => hSf (y ▸ hb))]
     exact q
   · rcases hz2 with ⟨_, rfl⟩ | ⟨_, rfl⟩
     · omega
     · rw [List.length_append, List.length_singleton]; omega
   · have hz3 : z ∈ zs' ↔ z ∈ zs \/ z = val i := by
       rcases hz2 with ⟨hm, rfl⟩ | ⟨_, rfl⟩
       · exact ⟨.inl, fun y => y.elim id fun y => y ▸ hm⟩
       · rw [List.mem_append, List.mem_singleton]
     rw [hz3, hz]
     constructor
     · rintro (⟨j, h1, h2⟩ | h2)
       · exact ⟨j, by omega, h2⟩
       · exact ⟨i, Nat.lt_succ_self _, h2.symm⟩
     · rintro ⟨j, h1, h2⟩
       by_cases hj : j = i
       · subst hj
         exact .inr h2.symm
       · exact .inl ⟨j, by omega, h2⟩
   · refine hR s'' zs'' (Moved.trans W.gtrans ((hm.mono hsub).then_heap (Nat.le_add_right _ _) fun b o hb q => ?_) hm'') hS''
     rw [sb.2 b (fun y : b = S => hb (by rw [y]; exact List.mem_cons_self))]
     exact q
end
section
variable {prog : Program} {w : World} {A : Around} {E : Value -> Shared -> Prop} {s : Shared}
set_option maxHeartbeats 3200000 in
theorem tu_call {l : Addr} {items : Array Value} {val : Nat -> List Key} {ad : Nat -> Addr} {Q : Value -> Shared -> Prop} (hh : A.handled = none) (hu : A.units + 16 < cLine) (hl : s.heap.IsList l items) (hi : ∀ (i : Nat) (v : Value), items[i]? = some v -> v = .ref (ad i)) (htk : ∀ j, j < items.size -> TK prog w s.heap (val j) (ad j)) (hb : items.size <= 70)
   (h : ∀ (h' : Heap) (tk : Nat) (zs : List (List Key)), TuSet prog w h' s.heap.objs.size zs -> zs.length <= items.size -> (∀ z, z ∈ zs ↔ ∃ j, j < items.size /\ val j = z) ->
     (∀ b o, s.heap.get? b = some o -> h'.get? b = some o) -> Q (.ref s.heap.objs.size) { s with heap := h', toks := tk }) :
   wpAny (model prog w) A (call (.type "set") [.ref l]) Q E s := by
 obtain ⟨c, tl, hmro⟩ := PySem.F.called_set.mro
 have hmade := PySem.F.called_set.made
 have hsub := PySem.F.called_set.sub
 refine wpAny_call (codeAny_of_tree ?_)
 show wpAny _ _ (callAny (.type "set") _) _ _ _
 refine wpAny_pure ⟨Code.quiet_builtin _ (by decide +kernel), codeAny_builtin PySem.F.entry_type_call ?_⟩
 rw [Around.under_plain (weight_type_call_type "set" [.ref l] []) rfl]
 have h1 := PySem.F.called_set.notType
 have h2 := PySem.F.called_set.canCreate
 have hct := PySem.F.typeCall_set_1 (.ref l)
 repeat (any_goals (first | assumption | wp_step))
 refine codeAny_mono (tx_new (w := w) (.ref l) (E := E) (Q₁ := fun obj s₁ => ∃ led : Bool, (byTx w = true \/ led = true) /\ obj = .ref s.heap.objs.size /\ s₁ = { s with heap := s.heap.push { cls := .type "set", dict := none, data := .set #[] 0 (.fresh 0 0 led) } }) fun led hl => ⟨led, hl, rfl, rfl⟩) fun r s₁ hr => ?_
 cases r with
 | error e => exact hr
 | ok fl =>
   cases fl with
   | ret obj =>
     obtain ⟨led, hled, rfl, rfl⟩ := hr
     have hS : (s.heap.push { cls := .type "set", dict := none, data := .set #[] 0 (.fresh 0 0 led) }).get? s.heap.objs.size = some { cls := .type "set", dict := none, data := .set #[] 0 (.fresh 0 0 led) } := Heap.get?_push_size _ rfl
     have hT : Shared.TypeIs { s with heap := s.heap.push { cls := .type "set", dict := none, data := .set #[] 0 (.fresh 0 0 led) } } (.ref s.heap.objs.size) "set" := ⟨_, hS, rfl⟩
     have hli := PySem.F.called_set.init.lookup
     have hbi := PySem.F.called_set.init.bind (.ref s.heap.objs.size)
     repeat (any_goals (first | assumption | wp_step))
     refine codeAny_mono (codeAny_call_builtin (R := wants (fun r s₂ => r = .none /\ ∃ h' tk zs, s₂ = { s with heap := h', toks := tk } /\ TuSet prog w h' s.heap.objs.size zs /\ zs.length <= items.size /\ (∀ z, z ∈ zs ↔ ∃ j, j < items.size /\ val j = z) /\
         (∀ b o, s.heap.get? b = some o -> h'.get? b = some o)) E) PySem.F.called_set.init.plain PySem.F.entry_set_init (check_set_init_1 hT ?_)) fun r₂ s₂ hr₂ => ?_
     · obtain ⟨ol, hol, hcl, nl, hdl⟩ := hl
       obtain ⟨ocls, odict, odata, oslots⟩ := ol
       simp only at hcl hdl
       subst hcl; subst hdl
       have hol' := Heap.get?_push_of_some { cls := .type "set", dict := none, data := .set #[] 0 (.fresh 0 0 led) } hol
       have hsls := PySem.F.sub_list_set
       have hslf := PySem.F.sub_list_frozenset
       have hne : (Value.type "list" == Value.type "dict") = false := by decide
       have hl1 : (s.heap.push { cls := .type "set", dict := none, data := .set #[] 0 (.fresh 0 0 led) }).IsList l items := ⟨_, hol', rfl, nl, rfl⟩
       unfold Builtin.«set.__init__» noKeywords Builtin.Frozenset.updateFrom
       generalize hPI : pyIter = PI
       wp_walk
       subst hPI
       refine wpAny_pyIter_list hl1 ?_
       refine wpAny_bind (wpAny_runValue ?_)
       have hlS : l < s.heap.objs.size := Heap.lt_size hol
       have hh3 : A.in1.in1.in1.handled = none := by simp [hh]
       have hneI : l ≠ (s.heap.push { cls := .type "set", dict := none, data := .set #[] 0 (.fresh 0 0 led) }).objs.size := by
         rw [Heap.size_push]
         exact Nat.ne_of_lt (Nat.lt_succ_of_lt hlS)
       have hSf : s.heap.objs.size ∉ [(s.heap.push { cls := .type "set", dict := none, data := .set #[] 0 (.fresh 0 0 led) }).objs.size, l] := by
         rw [Heap.size_push]
         simp only [List.mem_cons, List.not_mem_nil, or_false, not_or]
         exact ⟨Nat.ne_of_lt (Nat.lt_succ_self _), Nat.ne_of_gt hlS⟩
       have hadn : ∀ i, i < items.size -> ad i ∉ s.heap.objs.size :: [(s.heap.push { cls := .type "set", dict := none, data := .set #[] 0 (.fresh 0 0 led) }).objs.size] := fun i hi => by
         obtain ⟨oo, _, _, h1, _⟩ := htk i hi
         have := Heap.lt_size h1
         rw [Heap.size_push]
         simp only [List.mem_cons, List.not_mem_nil, or_false, not_or]
         exact ⟨Nat.ne_of_lt this, Nat.ne_of_lt (Nat.lt_succ_of_lt this)⟩
       refine tu_loop ((Walks.list hh3 _ l hneI items).toS) s.heap.objs.size hSf val ad hi hadn (fun i s0 st b hb o e => by
         have := List.mem_singleton.mp hb
         subst this
         obtain ⟨⟨o', e1, e2, _⟩, _⟩ := st
         rw [e1] at e
         cases e
         rw [e2]
         decide) (by simp only [Around.in1_units]; omega) hb (items.size - 0) 0 _ [] (by omega) (Nat.zero_le _) ⟨⟨_, Heap.get?_push_size _ rfl, rfl, rfl⟩, (hl1.push _)⟩ (fun j hj => (htk j hj).keep fun o q _ => Heap.get?_push_of_some _ (Heap.get?_push_of_some _ q)) ?_ (Nat.zero_le _) (fun z => Iff.intro (fun q => by cases q) fun ⟨j, q, _⟩ => absurd q (Nat.not_lt_zero _)) ?_
       · exact tu_fresh led (Heap.get?_push_of_some _ hS)
       · intro s' zs hm hS' hlz hz
         obtain ⟨h', g', d', tk', os'⟩ := s'
         have eg : g' = s.gens := hm.gens
         have ed : d' = s.drawn := hm.drawn
         have eo : os' = s.os := hm.os
         subst eg; subst ed; subst eo
         show wpAny _ _ _ _ _ _
         refine wpAny_pure ?_
         show wpAny _ _ (ret Value.none) _ _ _
         refine wpAny_pure ⟨rfl, h', tk', zs, rfl, hS', hlz, hz, fun b o e => ?_⟩
         have hbl := Heap.lt_size e
         refine hm.heap b o ?_ (Heap.get?_push_of_some _ (Heap.get?_push_of_some _ e))
         rw [Heap.size_push]
         simp only [List.mem_cons, List.not_mem_nil, or_false, not_or]
         exact ⟨Nat.ne_of_lt hbl, Nat.ne_of_lt (Nat.lt_succ_of_lt hbl)⟩
     · cases r₂ with
       | error e => exact hr₂
       | ok fl₂ =>
         cases fl₂ with
         | ret r =>
           obtain ⟨rfl, h', tk, zs, rfl, hS', hlz, hz, hk'⟩ := hr₂
           repeat (any_goals (first | assumption | wp_step))
           exact h _ _ _ hS' hlz hz hk'
         | _ => exact hr₂.elim
   | _ => exact hr.elim
end
end L2
namespace L2
open PySem PySem.Spec PyProof.Rows PySem.SeqAt
theorem qB {α : Type} [DecidableEq α] : ∀ (L Z : List α), Z.Nodup -> (∀ z, z ∈ Z ↔ z ∈ L) -> (Z.length = L.length ↔ L.Nodup) := by
 have one : ∀ (L Z : List α), Z.Nodup -> (∀ z, z ∈ Z ↔ z ∈ L) -> Z.length = L.length -> L.Nodup := by
   intro L
   induction L with
   | nil => intro Z _ _ _; exact List.nodup_nil
   | cons x L ih =>
     intro Z hZ hm hl
     rw [List.length_cons] at hl
     have hx : x ∈ Z := (hm x).mpr List.mem_cons_self
     by_cases c : x ∈ L
     · have := hZ.length_le_of_subset (l₂ := L) fun z hz => by
         rcases List.mem_cons.mp ((hm z).mp hz) with rfl | h
         · exact c
         · exact h
       omega
     · refine List.nodup_cons.mpr ⟨c, ih (Z.erase x) (hZ.erase x) (fun z => ?_) ?_⟩
       · rw [hZ.mem_erase_iff, hm z, List.mem_cons]
         constructor
         · rintro ⟨h1, h2 | h2⟩
           · exact absurd h2 h1
           · exact h2
         · intro h
           exact ⟨fun e => c (e ▸ h), .inr h⟩
       · rw [List.length_erase_of_mem hx]
         omega
 intro L Z hZ hm
 refine ⟨one L Z hZ hm, fun hL => ?_⟩
 have h1 := hZ.length_le_of_subset (l₂ := L) fun z hz => (hm z).mp hz
 have h2 := hL.length_le_of_subset (l₂ := Z) fun z hz => (hm z).mpr hz
 omega
section
variable {X : Cx}
def SzO (p : Addr) (n : Nat) : HO := .ext fun h => ∃ o es ep t, h.get? p = some o /\ o.ExactSet /\ o.data = .set es ep t /\ t.fits es.size = true /\ es.size = n
theorem call_setU (hu : X.A.units + 64 < cLine) : xQ X (.type "set") (fun xs H Q => X.calm = true /\ ∃ (p : Addr) (as : List Addr) (kf : Addr -> List Key), xs = [.ref p] /\ SqL X.K H p (as.map V.ref) /\ as.length <= 70 /\ (∀ a ∈ as, H a = some (.tup ((kf a).map kV))) /\
   ∀ l n, H l = none -> (n = as.length ↔ (as.map kf).Nodup) -> n <= as.length -> Q (.ref l) (upd H l (SzO l n))) := by
 intro pins s σ H xs us Q I r h
 obtain ⟨hc, p, as, kf, rfl, hp, h4, hk, q⟩ := h
 obtain ⟨u, rfl, ru⟩ := vals1 r
 cases ru
 obtain ⟨its, rv, ⟨o, n, e1, e2, e3, e4⟩, z⟩ := I.list hp
 have hil : its.length = as.length := by have := rv.length; rw [List.length_map] at this; omega
 have hrefs : ∀ {as : List Addr} {its : List Value}, Vals (as.map V.ref) its -> its = as.map Value.ref := by
   intro as
   induction as with
   | nil => intro its r; cases r; rfl
   | cons a as ih =>
     intro its r
     cases r with
     | cons r1 r2 => rw [List.map_cons, ← ih r2]; cases r1; rfl
 have hits := hrefs rv
 refine tu_call (items := its.toArray) (val := fun i => kf (as.getD i 0)) (ad := fun i => as.getD i 0) (I.ok.hd hc) (by omega) ⟨o, e1, e2, n, by simpa using e4⟩ (fun i v hv => ?_) (fun j hj => ?_) (by rw [List.size_toArray]; omega) fun h' tk ys hS hly hz k => ?_
 · rw [List.getElem?_toArray, hits, List.getElem?_map] at hv
   obtain ⟨a, h1, h2⟩ := Option.map_eq_some_iff.mp hv
   rw [← h2, List.getD_eq_getElem?_getD, h1]
   rfl
 · rw [List.size_toArray, hil] at hj
   refine key_of I.hok (hk _ ?_)
   rw [List.getD_eq_getElem?_getD, List.getElem?_eq_getElem hj]
   exact List.getElem_mem hj
 · obtain ⟨oS, es, ep, t, a1, a2, a3, a4, a5⟩ := hS
   have hlen := a4.len
   have hiff := qB (as.map kf) ys a4.nd fun z => by
     rw [hz, List.size_toArray, hil, List.mem_map]
     constructor
     · rintro ⟨j, hj, rfl⟩
       refine ⟨as.getD j 0, ?_, rfl⟩
       rw [List.getD_eq_getElem?_getD, List.getElem?_eq_getElem hj]
       exact List.getElem_mem hj
     · rintro ⟨a, ha, rfl⟩
       obtain ⟨j, hj, e⟩ := List.getElem_of_mem ha
       exact ⟨j, hj, by rw [List.getD_eq_getElem?_getD, List.getElem?_eq_getElem hj, e]; rfl⟩
   rw [List.length_map] at hiff
   rw [List.size_toArray, hil] at hly
   refine ⟨.ref _, _, I.laid (a := s.heap.objs.size) (o := SzO s.heap.objs.size ys.length) (t' := tk) k (Nat.le_refl _) ⟨⟨oS, es, ep, t, a1, a2, a3, a4.fits, hlen.symm⟩, ⟨_, a1⟩, fun h1 h2 x y => ?_⟩, rfl, q _ _ (I.hok.fresh (Nat.le_refl _)) hiff hly⟩
   obtain ⟨o, es, ep, t, b1, b2⟩ := x
   exact ⟨o, es, ep, t, y _ b1, b2⟩
theorem call_lenSz : xQ X (.builtin "len") (fun xs H Q => ∃ p n, xs = [V.ref p] /\ H p = some (SzO p n) /\ n <= 100000 /\ Q (.int n) H) := by
 intro pins s σ H xs us Q I r h
 obtain ⟨p, n, rfl, hp, hn, q⟩ := h
 obtain ⟨u, rfl, ru⟩ := vals1 r
 cases ru
 obtain ⟨o, es, ep, t, a1, a2, a3, a4, a5⟩ := (I.hok p _ hp).1
 refine call_len_set a1 a2 a3 a4 (by have : (2 : Int) ^ 63 = 9223372036854775808 := by decide
                                     omega) ?_
 rw [a5]
 exact ⟨.int n, H, I.tok _, ⟨_, rfl⟩, q⟩
end
end L2
namespace L2
open PySem PySem.Spec PyProof.Rows PySem.SeqAt
section
mutual
theorem DAt.keepK {H H' : Hp} (k : ∀ b o, (∃ xs, o = .tup xs \/ o = .lst xs) -> H b = some o -> H' b = some o) : ∀ {d : Dt} {v : V}, DAt H d v -> DAt H' d v
 | .tup ds, v, h => let ⟨a, us, e1, e2, e3⟩ := h; ⟨a, us, e1, k _ _ ⟨us, .inl rfl⟩ e2, DAts.keepK k e3⟩
 | .lst ds, v, h => let ⟨a, us, e1, e2, e3⟩ := h; ⟨a, us, e1, k _ _ ⟨us, .inr rfl⟩ e2, DAts.keepK k e3⟩
 | .str z, v, h => h
 | .int i, v, h => h
 | .bl b, v, h => h
 | .non, v, h => h
theorem DAts.keepK {H H' : Hp} (k : ∀ b o, (∃ xs, o = .tup xs \/ o = .lst xs) -> H b = some o -> H' b = some o) : ∀ {ds : List Dt} {vs : List V}, DAts H ds vs -> DAts H' ds vs
 | [], vs, h => h
 | d :: ds, vs, h => let ⟨v, r, e, h1, h2⟩ := h; ⟨v, r, e, DAt.keepK k h1, DAts.keepK k h2⟩
end
end
section
variable {X : Cx}
def hpK (H : Hp) (c : Addr) (z : Str) : Hp := fun b => if b = c then some (HO.tup [.str z]) else match H b with | some (.tup xs) => some (.tup xs) | some (.lst xs) => some (.lst xs) | _ => none
def rNeK (K : PySem.W.Frag) : R2 := fun x y H Q => ∃ n ds p c z, DAt H (.lst ds) x /\ y = .ref p /\ H p = some (.lst [.ref c]) /\ SqT K H c [.str z] /\ DFit (n + 1) (.lst ds) /\ n <= 60 /\ Q (.bl (!deq (.lst ds) (.lst [.tup [.str z]]))) H
theorem op_neK (K : PySem.W.Frag) (hu : X.A.units + 64 < cLine) (hK : X.K = K := by rfl) : OpR X (compareOp .NotEq) (rNeK K) := by
 subst hK
 intro pins s σ H x y v u Q I rx ry h
 obtain ⟨n, ds, p, c, z, h1, rfl, hp, hc, f, hn, q⟩ := h
 obtain ⟨its, rv, ht, hz⟩ := I.tuple hc
 have nl : ∀ xs, H c ≠ some (.lst xs) := fun xs e => by
   obtain ⟨_, its', n', _, g⟩ := I.hok c _ e
   obtain ⟨o, g1, g2, _⟩ := ht
   rw [g] at g1
   cases g1
   exact absurd (show Value.type "list" = Value.type "tuple" from g2) (by decide)
 have nt : ∀ xs, H c = some (.tup xs) -> xs = [.str z] := fun xs e => I.tuple_inj (SqT.of e) hc
 have keep : ∀ b o, (∃ xs, o = .tup xs \/ o = .lst xs) -> H b = some o -> hpK H c z b = some o := by
   rintro b o ⟨xs, e⟩ hb
   unfold hpK
   by_cases hbc : b = c
   · subst hbc
     rw [if_pos rfl]
     rcases e with rfl | rfl
     · rw [nt xs hb]
     · exact absurd hb (nl xs)
   · rw [if_neg hbc, hb]
     rcases e with rfl | rfl <;> rfl
 have hok' : HOk X.prog X.w (hpK H c z) s.heap := by
   intro b o hb
   unfold hpK at hb
   by_cases hbc : b = c
   · rw [if_pos hbc] at hb
     cases hb
     subst hbc
     exact ⟨hz, its, rv, ht⟩
   · rw [if_neg hbc] at hb
     split at hb
     · next xs e =>
       cases hb
       exact I.hok b _ e
     · next xs e =>
       cases hb
       exact I.hok b _ e
     · cases hb
 have d1 := DAt.keepK keep h1
 have hc' : hpK H c z c = some (HO.tup [.str z]) := by
   unfold hpK
   rw [if_pos rfl]
 have d2 : DAt (hpK H c z) (.lst [.tup [.str z]]) (.ref p) := (⟨p, _, rfl, keep p _ ⟨_, .inr rfl⟩ hp, _, _, rfl, ⟨c, _, rfl, hc', _, _, rfl, rfl, rfl⟩, rfl⟩ : DAt (hpK H c z) (.lst [.tup [.str z]]) (.ref p))
 exact rn_at hok' d1 d2 rx ry f (by omega) X.prog X.w _ _ (zL I q rfl)
end
end L2
set_option maxHeartbeats 8000000
namespace C
open PySem L2
seal PE PT PW PA PS PSs PG PGs PI PPs PO PSet PIf
def top (i : Nat) : Stmt := PySem.Challenge.pw_clashbook_k09_what_is_a_sheet.main.body.getD i (.Pass ⟨0, 0, 0, 0⟩)
abbrev s_k : Stmt := top 4
theorem sc_k : FnScope ["text"] ["text"] (zG s_k) := ⟨rfl, rfl, rfl, by decide +kernel, rfl, by decide +kernel, by decide +kernel⟩
abbrev s_i : Stmt := top 7
theorem sc_i : FnScope ["n"] ["n"] (zG s_i) := ⟨rfl, rfl, rfl, by decide +kernel, rfl, by decide +kernel, by decide +kernel⟩
abbrev s_h : Stmt := top 8
theorem sc_h : FnScope ["n", "bound"] ["n", "bound"] (zG s_h) := ⟨rfl, rfl, rfl, by decide +kernel, rfl, by decide +kernel, by decide +kernel⟩
abbrev s_l : Stmt := top 9
theorem sc_l : FnScope ["row", "k"] ["row", "k"] (zG s_l) := ⟨rfl, rfl, rfl, by decide +kernel, rfl, by decide +kernel, by decide +kernel⟩
abbrev s_j : Stmt := top 10
theorem sc_j : FnScope ["rows"] ["rows"] (zG s_j) := ⟨rfl, rfl, rfl, by decide +kernel, rfl, by decide +kernel, by decide +kernel⟩
theorem big {n : Nat} (h : n <= 1000000) : n <= sizeLine := Nat.le_trans h (by decide)
def inL (c : Nat) : Bool := !(Builtin.Str.occurrences "abcdefghijklmnopqrstuvwxyz" ⟨#[c]⟩ 0 ("abcdefghijklmnopqrstuvwxyz" : Str).length 1).isEmpty
def isN (x : Str) : Bool := decide (1 <= x.length) && decide (x.length <= 8) && x.cps.toList.all inL && !decide (x = "none") && !decide (x = "all")
def spIs : Sp := fun vs H Q _ => ∃ x : Str, vs = [.str x] /\ x.length <= 5000 /\ ∀ H', Same H H' -> Q (.bl (isN x)) H'
theorem isN_no {x : Str} (h : ¬ (1 <= x.length /\ x.length <= 8)) : isN x = false := by
 unfold isN
 by_cases h1 : 1 <= x.length
 · have h2 : ¬ x.length <= 8 := fun z => h ⟨h1, z⟩
   simp [h2]
 · simp [h1]
theorem lc_enumIf {a : Addr} {xs : List V} {ns : List Str} {js : List Nat} {g : TG} {tc : TT} {te : TE} {σ : St} {H : Hp} {Q : VK} (Pv : Nat -> List V -> St -> Hp -> Prop) (h0 : Pv 0 [] (lcSt ns js σ) H) (hz : xs.length <= sizeLine) (hl : ∀ i ys σ H, Pv i ys σ H -> ys.length <= i)
   (hK : ∀ i ys σ H, Pv i ys σ H -> H a = some (.lst xs))
   (hs : ∀ (i : Nat) x ys σ H p (C : V -> St -> Hp -> Prop) (D : St -> Hp -> Prop), xs[i]? = some x -> Pv i ys σ H -> H p = none -> (∀ y σ2 H3, Pv (i + 1) (ys ++ [y]) σ2 H3 -> C y σ2 H3) -> (∀ σ2 H3, Pv (i + 1) ys σ2 H3 -> D σ2 H3) ->
     g (.ref p) σ (upd H p (.tup [.int i, x])) fun σ2 H2 => tc σ2 H2 fun b H3 => if b = true then te σ2 H3 fun y H4 => C y σ2 H4 else D σ2 H3)
   (hd : ∀ ys σ H, Pv xs.length ys σ H -> ∀ p, H p = none -> Q (.ref p) (upd H p (.lst ys))) :
   LcW (Ite a) ns js g (some tc) te σ H Q := by
 refine ⟨fun i m ys σ H => m = xs.length - i /\ i <= xs.length /\ Pv i ys σ H, ⟨xs.length, by omega, Nat.zero_le _, h0⟩, fun i m ys σ1 H1 ⟨hm, hi, hp⟩ => ?_⟩
 have k1 := hK i ys σ1 H1 hp
 by_cases h : i < xs.length
 · refine .inr ⟨⟨xs, xs[i], k1, List.getElem?_eq_getElem h⟩, ?_, fun x H' ⟨p, y, e1, e2, e3, e4⟩ => ?_⟩
   · have := hl i ys σ1 H1 hp
     omega
   · subst e1
     subst e3
     exact hs i y ys σ1 H1 p _ _ (e4 xs k1) hp e2 (fun y σ2 H3 q => ⟨xs.length - (i + 1), by omega, rfl, by omega, q⟩) fun σ2 H3 q => ⟨xs.length - (i + 1), by omega, rfl, by omega, q⟩
 · have e : i = xs.length := by omega
   subst e
   exact .inl ⟨⟨xs, k1, Nat.le_refl _⟩, hd ys σ1 H1 hp⟩
theorem qC {α : Type} {H : Hp} {f : α -> Dt} {xs : List α} {us : List V} {i : Nat} {v : V} (h : DAts H (xs.map f) us) (hv : us[i]? = some v) : ∃ x, xs[i]? = some x /\ DAt H (f x) v := by
 have hl := DAts.length h
 rw [List.length_map] at hl
 have hi : i < xs.length := by rw [← hl]; exact (List.getElem?_eq_some_iff.mp hv).1
 obtain ⟨u, h1, h2⟩ := DAts.get (d := f xs[i]) h (by rw [List.getElem?_map, List.getElem?_eq_getElem hi]; rfl)
 rw [hv] at h1
 cases h1
 exact ⟨_, List.getElem?_eq_getElem hi, h2⟩
theorem yZ {α : Type} {H : Hp} {f : α -> Dt} {xs : List α} {us : List V} (h : DAts H (xs.map f) us) : us.length = xs.length := by
 have hl := DAts.length h
 rwa [List.length_map] at hl
theorem at_toNat {α : Type} {xs : List α} {n : Int} {x : α} (h0 : 0 <= n) (h : xs[n.toNat]? = some x) : atI xs n = some x := by
 obtain ⟨m, rfl⟩ : ∃ m : Nat, n = (m : Int) := ⟨n.toNat, by omega⟩
 exact yU (by simpa using h)
theorem cutV_one (xs : List V) : xL xs none (some 1) = xs.take 1 := by
 unfold xL
 rw [HT.sIx_none]
 show (xs.drop 0).take (HT.sIx xs.length xs.length (some ((1 : Nat) : Int)) - 0) = _
 rw [HT.sIx_nat]
 cases xs with
 | nil => rfl
 | cons x xs => simp
def spWhI : Sp := fun vs H Q _ => ∃ i : Int, vs = [.int i] /\ Q (.bl true) H
def spBeI : Sp := fun vs H Q _ => ∃ i b : Int, vs = [.int i, .int b] /\ Q (.bl (decide (0 <= i /\ i < b))) H
inductive Rx where
 | a (w : Str)
 | b (w x : Str)
 | c (w : Str) (i j : Int)
 deriving DecidableEq
def dRx : Rx -> Dt
 | .a w => .tup [.str w]
 | .b w x => .tup [.str w, .str x]
 | .c w i j => .tup [.str w, .int i, .int j]
def kRx : Rx -> List Key
 | .a w => [.inr w]
 | .b w x => [.inr w, .inr x]
 | .c w i j => [.inr w, .inl i, .inl j]
theorem kRx_inj : ∀ {r r' : Rx}, kRx r = kRx r' -> r = r'
 | .a w, .a w', h => by simp [kRx] at h; rw [h]
 | .b w x, .b w' x', h => by simp [kRx] at h; rw [h.1, h.2]
 | .c w i j, .c w' i' j', h => by simp [kRx] at h; rw [h.1, h.2.1, h.2.2]
 | .a w, .b w' x', h => by simp [kRx] at h
 | .a w, .c w' i j, h => by simp [kRx] at h
 | .b w x, .a w', h => by simp [kRx] at h
 | .b w x, .c w' i j, h => by simp [kRx] at h
 | .c w i j, .a w', h => by simp [kRx] at h
 | .c w i j, .b w' x, h => by simp [kRx] at h
theorem rxAt {H : Hp} {r : Rx} {v : V} (h : DAt H (dRx r) v) : ∃ a, v = .ref a /\ H a = some (.tup ((kRx r).map kV)) := by
 cases r with
 | a w =>
   obtain ⟨a, vs, rfl, ha, x, s, rfl, hx, hs⟩ := h
   have hx : x = V.str w := hx
   have hs : s = [] := hs
   subst hx hs
   exact ⟨a, rfl, ha⟩
 | b w y =>
   obtain ⟨a, vs, rfl, ha, x, s, rfl, hx, x2, s2, rfl, hx2, hs⟩ := h
   have hx : x = V.str w := hx
   have hx2 : x2 = V.str y := hx2
   have hs : s2 = [] := hs
   subst hx hx2 hs
   exact ⟨a, rfl, ha⟩
 | c w i j =>
   obtain ⟨a, vs, rfl, ha, x, s, rfl, hx, x2, s2, rfl, hx2, x3, s3, rfl, hx3, hs⟩ := h
   have hx : x = V.str w := hx
   have hx2 : x2 = V.int i := hx2
   have hx3 : x3 = V.int j := hx3
   have hs : s3 = [] := hs
   subst hx hx2 hx3 hs
   exact ⟨a, rfl, ha⟩
theorem yF {H : Hp} {r : Rx} {a : Addr} (h : H a = some (.tup ((kRx r).map kV))) : DAt H (dRx r) (.ref a) := by
 cases r with
 | a w => exact ⟨a, _, rfl, h, _, _, rfl, rfl, rfl⟩
 | b w y => exact ⟨a, _, rfl, h, _, _, rfl, rfl, _, _, rfl, rfl, rfl⟩
 | c w i j => exact ⟨a, _, rfl, h, _, _, rfl, rfl, _, _, rfl, rfl, _, _, rfl, rfl, rfl⟩
theorem deq_rx (r r' : Rx) : deq (dRx r) (dRx r') = decide (r = r') := by
 cases r <;> cases r' <;> simp [dRx, deq, deqs, Bool.and_assoc] <;> (rw [Bool.eq_iff_iff]; simp)
theorem deqs_rx : ∀ xs ys : List Rx, deqs (xs.map dRx) (ys.map dRx) = decide (xs = ys)
 | [], [] => by simp [deqs]
 | [], y :: ys => by simp [deqs]
 | x :: xs, [] => by simp [deqs]
 | x :: xs, y :: ys => by
   simp only [List.map_cons, deqs, deq_rx, deqs_rx xs ys]
   by_cases h1 : x = y <;> by_cases h2 : xs = ys <;> simp [h1, h2]
theorem fit_rx (n : Nat) (r : Rx) : DFit (n + 1) (dRx r) := by
 cases r with
 | a w => exact ⟨by simp, fun d hd => by simp at hd; subst hd; cases n <;> trivial⟩
 | b w x => exact ⟨by simp, fun d hd => by simp at hd; rcases hd with rfl | rfl <;> cases n <;> trivial⟩
 | c w i j => exact ⟨by simp, fun d hd => by simp at hd; rcases hd with rfl | rfl | rfl <;> cases n <;> trivial⟩
theorem fit_rxs (n : Nat) {rows : List Rx} (h : rows.length <= 1000) : DFit (n + 2) (.lst (rows.map dRx)) := ⟨by rw [List.length_map]; exact h, fun d hd => by
 obtain ⟨r, _, rfl⟩ := List.mem_map.mp hd
 exact fit_rx n r⟩
theorem fit_rxA (n : Nat) (rows : List Rx) : ∀ e ∈ rows.map dRx, DFit (n + 1) e := fun e he => by
 obtain ⟨r, _, rfl⟩ := List.mem_map.mp he
 exact fit_rx n r
theorem any_rx (rows : List Rx) (r : Rx) : ((rows.map dRx).any fun e => deq e (dRx r)) = decide (r ∈ rows) := by
 rw [Bool.eq_iff_iff, List.any_eq_true, decide_eq_true_eq]
 constructor
 · rintro ⟨e, he, h⟩
   obtain ⟨x, hx, rfl⟩ := List.mem_map.mp he
   rw [deq_rx, decide_eq_true_eq] at h
   exact h ▸ hx
 · intro h
   exact ⟨_, List.mem_map.mpr ⟨r, h, rfl⟩, deq_refl _⟩
def vK : V -> Key
 | .int i => .inl i
 | .str z => .inr z
 | _ => .inl 0
theorem vK_kV : ∀ l : List Key, (l.map kV).map vK = l
 | [] => rfl
 | .inl i :: l => by rw [List.map_cons, List.map_cons, vK_kV l]; rfl
 | .inr z :: l => by rw [List.map_cons, List.map_cons, vK_kV l]; rfl
def kfH (H : Hp) (a : Addr) : List Key := match H a with
 | some (.tup xs) => xs.map vK
 | _ => []
theorem kfH_of {H : Hp} {a : Addr} {k : List Key} (h : H a = some (.tup (k.map kV))) : kfH H a = k := by
 unfold kfH
 rw [h]
 exact vK_kV k
theorem rx_refs {H : Hp} : ∀ {rows : List Rx} {us : List V}, DAts H (rows.map dRx) us -> ∃ as : List Addr, us = as.map V.ref /\ as.map (kfH H) = rows.map kRx /\ ∀ a ∈ as, H a = some (.tup ((kfH H a).map kV))
 | [], us, h => by
   have h : us = [] := h
   subst h
   exact ⟨[], rfl, rfl, fun a ha => by cases ha⟩
 | r :: rows, us, h => by
   obtain ⟨v, us', rfl, h1, h2⟩ := h
   obtain ⟨a, rfl, ha⟩ := rxAt h1
   obtain ⟨as, rfl, e1, e2⟩ := rx_refs h2
   refine ⟨a :: as, rfl, by rw [List.map_cons, List.map_cons, e1, kfH_of ha], fun b hb => ?_⟩
   rcases List.mem_cons.mp hb with rfl | hb
   · rw [kfH_of ha]; exact ha
   · exact e2 b hb
theorem nodup_kRx (rows : List Rx) : (rows.map kRx).Nodup ↔ rows.Nodup := by
 unfold List.Nodup
 rw [List.pairwise_map]
 exact ⟨fun h => h.imp fun h e => h (congrArg kRx e), fun h => h.imp fun h e => h (kRx_inj e)⟩
def SzR : Rx -> Prop
 | .b _ x => x.length <= 1000
 | _ => True
def yG (r : Rx) (k : Nat) : Bool := match r with
 | .a _ => false
 | .b w x => decide (w = "name") && isN x
 | .c w i j => decide (w = "both") && (decide (0 <= i /\ i < 2 * (k : Int)) && decide (0 <= j /\ j < 2 * (k : Int)))
def yB (rows : List Rx) (n : Nat) : List Bool := ((List.range n).filter fun k => decide (0 < k)).map fun k => yG (rows.getD k (.a "")) k
def xC (rows : List Rx) : Bool := decide (rows.take 1 = [.a "none"]) && ((yB rows rows.length).all id && decide rows.Nodup)
def spRow : Sp := fun vs H Q _ => ∃ (v : V) (r : Rx) (k : Nat), vs = [v, .int k] /\ DAt H (dRx r) v /\ SzR r /\ k <= 100000 /\ ∀ H', Same H H' -> Q (.bl (yG r k)) H'
def spSheet : Sp := fun vs H Q _ => ∃ (a : Addr) (us : List V) (rows : List Rx), vs = [.ref a] /\ H a = some (.lst us) /\ DAts H (rows.map dRx) us /\ rows.length <= 70 /\ (∀ r ∈ rows, SzR r) /\ ∀ H', Same H H' -> Q (.bl (xC rows)) H'
section
variable {P : Program} {w : World} {K : PySem.W.Frag} {mg : Str -> Option Value} {base : Heap} {f : Addr} {fd : FuncData}
theorem ok_is_name (bi : Bi mg) {aW : Addr} (g_LETTERS : Gc mg "LETTERS" (.str "abcdefghijklmnopqrstuvwxyz")) (g_LONGEST_NAME : Gc mg "LONGEST_NAME" (.int 8)) (g_WORDS : Gc mg "WORDS" (.ref aW)) (sW : ∀ H, SqT K H aW [.str "none", .str "all"])
   (F : Fun K "is_name" "is_name" s_k f fd) : FnOk P w K mg base CX0 1 f fd ["text"] spIs := by
 refine F.ok sc_k (fun vs H Q E h => ?_) (fun cdv A outer s H vs Q E hr h => ?_)
 · obtain ⟨x, rfl, _⟩ := h
   rfl
 obtain ⟨x, rfl, hx, q⟩ := h
 refine ⟨_, (zD (zW (PW.pt (pw_or (jW (pt_chain op_le op_le zB (zM call_len rfl bi.len bt_len (zA (pv 0) pa_nil)) (pe_gc g_LONGEST_NAME rfl))) (pw_or1 (zK op_in_seq (pv 0) (pe_gc g_WORDS rfl) (by with_unfolding_all rfl))))) (zF (zN xN)) pss_nil) (zF (zN (zM call_all rfl bi.all bt_all (zA (jY ["sign"] [] [] (pi_str (pv 0)) (fun _ _ _ _ nd => yT (i := 0) nd rfl (Or.inl rfl)) (fun _ _ _ _ => pif_nil) (fun _ _ _ _ => (zV op_in_str (pv 0) (pe_gc g_LETTERS rfl) (by with_unfolding_all rfl)))) pa_nil))))), ?_⟩
 simp only [tSeq, tFor_eq, tLC_eq, iRng1, iRng2, iList, iTup, iStr, tIfS, tRet, tRetN, tNext, tAsg, gName, tVar, tC, tOp, rI0, rI, tTest, tB, rEq, rNe, tCall, tCons, tNil, tCB, tLst, tTup, tAnd, tOr, tNot, tAndV, tOrV, tNotV, tIf, tDrop, tSl, tPart, tNoPart, tChain, tUn, rU, L2.start, cx_K, bk_K, cx_calm, bk_calm, lenV_str, and_assoc, Option.join, List.length_map, List.length_append, decide_eq_true_eq, Bool.false_eq_true, if_false, if_true, Bool.not_true, Bool.not_false, Bool.not_eq_true', decide_eq_false_iff_not, Bool.true_eq_false, List.length_cons, List.length_nil, List.map_cons, List.map_nil, List.replicate, List.cons_append, List.nil_append, List.append_nil, List.getElem?_cons_zero, List.getElem?_cons_succ, List.set_cons_zero, List.set_cons_succ, Nat.reduceSub, Nat.reduceAdd, Option.some.injEq, V.int.injEq, V.str.injEq, V.bl.injEq, V.ref.injEq, List.cons.injEq, and_true, true_and, exists_eq_left', exists_eq_left, exists_and_left, exists_eq_right, exists_const]
 refine ⟨big (by omega), ?_⟩
 have no : ¬ (1 <= x.length /\ x.length <= 8) -> Q (.bl false) H := fun h => by rw [← isN_no h]; exact q H (Same.refl H)
 split
 · rename_i h1
   split
   · rename_i h2
     exact no (fun z => h2 (by omega))
   · rename_i h2
     refine ⟨aW, _, rfl, .inr (sW H), rfl, rfl, _, rfl, ?_⟩
     have e : (if false = true then !inV (V.str x) [V.str "none", V.str "all"] else inV (V.str x) [V.str "none", V.str "all"]) = (decide (x = "none") || decide (x = "all")) := by
       simp only [Bool.false_eq_true, if_false, inV, List.any_cons, List.any_nil, eqV_str, Bool.or_false]
     rw [e]
     split
     · rename_i h3
       have e2 : isN x = false := by
         unfold isN
         rcases (Bool.or_eq_true _ _).mp h3 with h3 | h3
         · rw [h3, Bool.not_true, Bool.and_false, Bool.false_and]
         · rw [h3, Bool.not_true, Bool.and_false]
       rw [← e2]
       exact q H (Same.refl H)
     · rename_i h3
       refine lc_str (z := x) (fun i ys σ H' => H' = H /\ ys = ((x.cps.toList.take i).map inL).map V.bl /\ ∃ o, σ = [o]) ⟨rfl, rfl, none, rfl⟩ (big (show x.length <= 1000000 by omega)) (fun i ys σ H' e => ?_) (fun i c ys σ H' C hc e hC => ?_) (fun ys σ H' e p hp => ?_)
       · rw [e.2.1, List.length_map, List.length_map, List.length_take]
         omega
       · obtain ⟨eH, e, o, rfl⟩ := e
         simp only [tSeq, tFor_eq, tLC_eq, iRng1, iRng2, iList, iTup, iStr, tIfS, tRet, tRetN, tNext, tAsg, gName, tVar, tC, tOp, rI0, rI, tTest, tB, rEq, rNe, tCall, tCons, tNil, tCB, tLst, tTup, tAnd, tOr, tNot, tAndV, tOrV, tNotV, tIf, tDrop, tSl, tPart, tNoPart, tChain, tUn, rU, L2.start, cx_K, bk_K, cx_calm, bk_calm, lenV_str, and_assoc, Option.join, List.length_map, List.length_append, decide_eq_true_eq, Bool.false_eq_true, if_false, if_true, Bool.not_true, Bool.not_false, Bool.not_eq_true', decide_eq_false_iff_not, Bool.true_eq_false, List.length_cons, List.length_nil, List.map_cons, List.map_nil, List.replicate, List.cons_append, List.nil_append, List.append_nil, List.getElem?_cons_zero, List.getElem?_cons_succ, List.set_cons_zero, List.set_cons_succ, Nat.reduceSub, Nat.reduceAdd, Option.some.injEq, V.int.injEq, V.str.injEq, V.bl.injEq, V.ref.injEq, List.cons.injEq, and_true, true_and, exists_eq_left', exists_eq_left, exists_and_left, exists_eq_right, exists_const]
         refine hC _ _ _ ⟨eH, ?_, _, rfl⟩
         have hi : i < x.cps.toList.length := by simpa using (Array.getElem?_eq_some_iff.mp hc).1
         have hc' : x.cps.toList[i] = c := by simpa using (Array.getElem?_eq_some_iff.mp hc).2
         rw [e, List.take_succ_eq_append_getElem hi, List.map_append, List.map_append, hc']
         rfl
       · obtain ⟨rfl, e, _⟩ := e
         refine ⟨p, rfl, x.cps.toList.map inL, SqL.of ?_, ?_⟩
         · rw [zC, e, List.take_of_length_le (by simp)]
         · have e2 : isN x = (x.cps.toList.map inL).all id := by
             have h4 := Bool.or_eq_false_iff.mp (Bool.eq_false_iff.mpr h3)
             unfold isN
             rw [h4.1, h4.2, decide_eq_true (show 1 <= x.length by omega), decide_eq_true (show x.length <= 8 by omega), List.all_map]
             simp only [Bool.true_and, Bool.not_false, Bool.and_true]
             rfl
           rw [← e2]
           exact q _ (zE hp _)
 · rename_i h1
   exact no (fun z => h1 (by omega))
theorem jZ (bi : Bi mg) (F : Fun K "is_whole" "is_whole" s_i f fd) : FnOk P w K mg base CX0 1 f fd ["n"] spWhI := by
 refine F.ok sc_i (fun vs H Q E h => ?_) (fun cdv A outer s H vs Q E hr h => ?_)
 · obtain ⟨i, rfl, _⟩ := h
   rfl
 obtain ⟨i, rfl, q⟩ := h
 refine ⟨_, (zF (zN (yD (zM (xA (T := "int")) rfl bi.isinstance bt_isinstance (zA (pv 0) (zA (pe_ty bi.int bt_int rfl) pa_nil))) (yX (pe_not (zM (xA (T := "bool")) rfl bi.isinstance bt_isinstance (zA (pv 0) (zA (pe_ty bi.bool bt_bool rfl) pa_nil)))))))), ?_⟩
 simp! []
 exact ⟨_, .int i, true, jA, iteT ⟨_, .int i, false, kit_ib, q⟩⟩
theorem qA (bi : Bi mg) (h_i : Has P w K mg base 1 "is_whole" ["n"] spWhI) (F : Fun K "is_below" "is_below" s_h f fd) : FnOk P w K mg base CX0 2 f fd ["n", "bound"] spBeI := by
 refine F.ok sc_h (fun vs H Q E h => ?_) (fun cdv A outer s H vs Q E hr h => ?_)
 · obtain ⟨i, b, rfl, _⟩ := h
   rfl
 obtain ⟨i, b, rfl, q⟩ := h
 refine ⟨_, (zF (zN (yD (zT h_i (hr.mono (by omega)) rfl (zA (pv 0) pa_nil)) (yX (pe_chain op_le op_lt zB (pv 0) (pv 1)))))), ?_⟩
 simp! [spWhI]
 by_cases h : 0 <= i
 · rw [if_pos h]
   rw [show decide (0 <= i /\ i < b) = decide (i < b) by simp [h]] at q
   exact q
 · rw [if_neg h]
   rw [show decide (0 <= i /\ i < b) = false by simp [h]] at q
   exact q
theorem ok_is_row (bi : Bi mg) (h_k : Has P w K mg base 1 "is_name" ["text"] spIs) (h_h : Has P w K mg base 2 "is_below" ["n", "bound"] spBeI) (F : Fun K "is_row" "is_row" s_l f fd) : FnOk P w K mg base CX0 3 f fd ["row", "k"] spRow := by
 refine F.ok sc_l (fun vs H Q E h => ?_) (fun cdv A outer s H vs Q E hr h => ?_)
 · obtain ⟨v, r, k, rfl, _⟩ := h
   rfl
 obtain ⟨v, r, k, rfl, hv, hz, hk, q⟩ := h
 obtain ⟨a, rfl, ha⟩ := rxAt hv
 refine ⟨_, (zD (zW (zK op_eq (zM call_len rfl bi.len bt_len (zA (pv 0) pa_nil)) zB (zJ _)) (zF (zN (yD (zV op_eq (yA ix_tup (pv 0) zB (fun _ _ => rfl)) zI (zJ _)) (yD (zM (xA (T := "str")) rfl bi.isinstance bt_isinstance (zA (yA ix_tup (pv 0) zB (fun _ _ => rfl)) (zA (pe_ty bi.str bt_str rfl) pa_nil))) (yX (zT h_k (hr.mono (by omega)) rfl (zA (yA ix_tup (pv 0) zB (fun _ _ => rfl)) pa_nil))))))) pss_nil) (zD (zW (zK op_eq (zM call_len rfl bi.len bt_len (zA (pv 0) pa_nil)) zB (zJ _)) (zF (zN (yD (zV op_eq (yA ix_tup (pv 0) zB (fun _ _ => rfl)) zI (zJ _)) (yD (zT h_h (hr.mono (by omega)) rfl (zA (yA ix_tup (pv 0) zB (fun _ _ => rfl)) (zA (zH op_mul zB (pv 1)) pa_nil))) (yX (zT h_h (hr.mono (by omega)) rfl (zA (yA ix_tup (pv 0) zB (fun _ _ => rfl)) (zA (zH op_mul zB (pv 1)) pa_nil)))))))) pss_nil) (zF (zN xN)))), ?_⟩
 have q0 := q H (Same.refl H)
 cases r with
 | a w =>
   have ha : H a = some (.tup [.str w]) := ha
   simp! []
   refine ⟨1, .inr ⟨_, SqT.of ha, rfl⟩, rfl, ?_⟩
   rw [if_neg (by omega)]
   refine ⟨1, .inr ⟨_, SqT.of ha, rfl⟩, rfl, ?_⟩
   rw [if_neg (by omega)]
   exact q0
 | b w x =>
   have ha : H a = some (.tup [.str w, .str x]) := ha
   simp! []
   refine ⟨2, .inr ⟨_, SqT.of ha, rfl⟩, rfl, ?_⟩
   rw [if_pos (by omega)]
   refine ⟨_, SqT.of ha, _, at0, rfl, ?_⟩
   by_cases hw : w = "name"
   · rw [if_pos (congrArg V.str hw)]
     refine ⟨_, SqT.of ha, _, at1, _, .str x, true, jA, ?_⟩
     rw [if_pos rfl]
     refine ⟨_, SqT.of ha, _, at1, x, rfl, Nat.le_trans hz (by decide), fun H' s => ?_⟩
     have := q H' s
     rw [show yG (.b w x) k = (decide (w = "name") && isN x) from rfl, decide_eq_true hw, Bool.true_and] at this
     exact this
   · rw [if_neg (fun e => hw (V.str.inj e))]
     rw [show yG (.b w x) k = (decide (w = "name") && isN x) from rfl, decide_eq_false hw, Bool.false_and] at q0
     exact q0
 | c w i j =>
   have ha : H a = some (.tup [.str w, .int i, .int j]) := ha
   simp! []
   refine ⟨3, .inr ⟨_, SqT.of ha, rfl⟩, rfl, ?_⟩
   rw [if_neg (by omega)]
   refine ⟨3, .inr ⟨_, SqT.of ha, rfl⟩, rfl, ?_⟩
   rw [if_pos (by omega)]
   refine ⟨_, SqT.of ha, _, at0, rfl, ?_⟩
   by_cases hw : w = "both"
   · rw [if_pos (congrArg V.str hw)]
     rw [show yG (.c w i j) k = (decide (w = "both") && (decide (0 <= i /\ i < 2 * (k : Int)) && decide (0 <= j /\ j < 2 * (k : Int)))) from rfl, decide_eq_true hw, Bool.true_and] at q0
     have at2 : ∀ {a b c : V}, atI [a, b, c] 2 = some c := yU (j := 2) rfl
     refine ⟨_, SqT.of ha, _, at1, .inl ⟨by decide, by decide⟩, i, _, rfl, _, rfl, ?_⟩
     by_cases h1 : 0 <= i /\ i < 2 * (k : Int)
     · rw [decide_eq_true h1, if_pos rfl]
       rw [decide_eq_true h1, Bool.true_and] at q0
       exact ⟨_, SqT.of ha, _, at2, .inl ⟨by decide, by decide⟩, j, _, rfl, q0⟩
     · rw [decide_eq_false h1, if_neg (by decide)]
       rw [decide_eq_false h1, Bool.false_and] at q0
       exact q0
   · rw [if_neg (fun e => hw (V.str.inj e))]
     rw [show yG (.c w i j) k = (decide (w = "both") && (decide (0 <= i /\ i < 2 * (k : Int)) && decide (0 <= j /\ j < 2 * (k : Int)))) from rfl, decide_eq_false hw, Bool.false_and] at q0
     exact q0
theorem ok_is_sheet (bi : Bi mg) (be : mg "enumerate" = none) {aN : Addr} (g_NONE_ROW : Gc mg "NONE_ROW" (.ref aN)) (sN : ∀ H, SqT K H aN [.str "none"]) (h_l : Has P w K mg base 3 "is_row" ["row", "k"] spRow) (F : Fun K "is_sheet" "is_sheet" s_j f fd) : FnOk P w K mg base CX0 4 f fd ["rows"] spSheet := by
 refine F.ok sc_j (fun vs H Q E h => ?_) (fun cdv A outer s H vs Q E hr h => ?_)
 · obtain ⟨a, us, rows, rfl, _⟩ := h
   rfl
 obtain ⟨a, us, rows, rfl, ha, hus, h70, hz, q⟩ := h
 have hul := yZ hus
 refine ⟨_, (zD (zW (zK (op_neK K hr.units) (yP sl_list (pv 0) po_none (yS zB)) (yY (zA (pe_gc g_NONE_ROW rfl) pa_nil)) (zJ _)) (zF (zN xN)) pss_nil) (zD (zW (jW (pt_val (zM call_all rfl bi.all bt_all (zA (jY ["k", "row"] [] [] (pi_enum rfl be (zA (pv 0) pa_nil)) (fun _ _ _ _ nd => pg_tupK (K := K) (n := 2) rfl (pgs_cons (yT (i := 0) nd rfl (Or.inl rfl)) (pgs_cons (yT (i := 1) nd rfl (Or.inl rfl)) pgs_nil))) (fun _ _ _ _ => pif_one (zK op_gt (pv 0) zB (zJ _))) (fun _ _ _ _ => (zT h_l (hr.mono (by omega)) rfl (zA (pv 1) (zA (pv 0) pa_nil))))) pa_nil)))) (zF (zN xN)) pss_nil) (zF (zN (zV op_eq (zM call_lenSz rfl bi.len bt_len (zA (jK (call_setU hr.units) rfl bi.set bt_set (zA (pv 0) pa_nil)) pa_nil)) (zM call_len rfl bi.len bt_len (zA (pv 0) pa_nil)) (zJ _)))))), ?_⟩
 refine zO fun N hN => ?_
 simp! [rNeK]
 refine ⟨us, SqL.of ha, fun p hp => ?_⟩
 rw [cutV_one]
 have s1 := zE hp (.lst (us.take 1))
 have k1 : upd H p (.lst (us.take 1)) p = some (.lst (us.take 1)) := zC
 generalize upd H p (.lst (us.take 1)) = H1 at s1 k1 ⊢
 refine ⟨zQ (by simp), fun p1 hp1 => ?_⟩
 have s2 := zE hp1 (.lst [V.ref aN])
 have k2 : upd H1 p1 (.lst [V.ref aN]) p1 = some (.lst [V.ref aN]) := zC
 generalize upd H1 p1 (.lst [V.ref aN]) = H2 at s2 k2 ⊢
 have s := s1.trans s2
 refine ⟨2, (rows.take 1).map dRx, ⟨p, _, rfl, s2 _ _ k1, by rw [List.map_take]; exact DAts.take 1 (DAts.same s hus)⟩, aN, k2, "none", sN _, fit_rxs 1 (by rw [List.length_take]; omega), by omega, ?_⟩
 have hd : deq (.lst ((rows.take 1).map dRx)) (.lst [.tup [.str "none"]]) = decide (rows.take 1 = [.a "none"]) := by
   rw [← deqs_rx]
   simp [deq, dRx]
 rw [hd]
 by_cases hh : rows.take 1 = [.a "none"]
 case neg =>
   rw [decide_eq_false hh, if_pos rfl]
   have := q H2 s
   unfold xC at this
   rw [decide_eq_false hh, Bool.false_and] at this
   exact this
 rw [decide_eq_true hh, if_neg (by decide)]
 refine hN _ _ ?_
 clear hN
 have ha2 := s _ _ ha
 have hus2 := DAts.same s hus
 have eS : xC rows = ((yB rows rows.length).all id && decide rows.Nodup) := by
   unfold xC
   rw [decide_eq_true hh, Bool.true_and]
 rw [eS] at q
 replace q := fun H' s' => q H' (s.trans s')
 clear hd hh eS k1 k2 s s1 s2 hus ha hp1 hp
 refine zO fun N hN => ?_
 simp! [iEnum]
 refine ⟨us, ha2, ?_⟩
 refine lc_enumIf (xs := us) (fun i ys σ H' => Same H2 H' /\ ys = (yB rows i).map V.bl /\ ∃ o1 o2, σ = [o1, o2]) ⟨Same.refl _, rfl, _, _, rfl⟩ (zQ (by omega)) (fun i ys σ H' e => ?_) (fun i ys σ H' e => e.1 _ _ ha2) (fun i x ys σ H' p C D hx e hp hC hD => ?_) (fun ys σ H' e p hp => ?_)
 · obtain ⟨_, rfl, _⟩ := e
   unfold yB
   rw [List.length_map, List.length_map]
   exact Nat.le_trans (List.length_filter_le _ _) (by rw [List.length_range]; exact Nat.le_refl _)
 · obtain ⟨es, rfl, o1, o2, rfl⟩ := e
   obtain ⟨r, hr1, hr2⟩ := qC hus2 hx
   have er : rows.getD i (.a "") = r := by rw [List.getD_eq_getElem?_getD, hr1]; rfl
   have hi := (List.getElem?_eq_some_iff.mp hr1).1
   have e1 := es.trans (zE hp (.tup [V.int i, x]))
   simp! [gTup, gCons, gNil]
   refine ⟨_, SqT.of zC, rfl, _, _, rfl, _, _, rfl, rfl, ?_⟩
   generalize upd H' p (.tup [V.int i, x]) = H1 at e1 ⊢
   have estep : yB rows (i + 1) = if 0 < i then yB rows i ++ [yG r i] else yB rows i := by
     unfold yB
     rw [List.range_succ, List.filter_append, List.map_append]
     by_cases c : 0 < i
     · rw [if_pos c, List.filter_cons_of_pos (by simpa using c), List.filter_nil, List.map_cons, er]; rfl
     · rw [if_neg c, List.filter_cons_of_neg (by simpa using c), List.filter_nil, List.map_nil, List.append_nil]
   refine ⟨_, rfl, ?_⟩
   by_cases c : 0 < i
   · rw [if_pos (by omega)]
     refine ⟨x, r, i, rfl, DAt.same e1 hr2, hz r (List.mem_of_getElem? hr1), by omega, fun H3 s3 => hC _ _ _ ⟨e1.trans s3, ?_, _, _, rfl⟩⟩
     rw [estep, if_pos c, List.map_append]
     rfl
   · rw [if_neg (by omega)]
     exact hD _ _ ⟨e1, by rw [estep, if_neg c], _, _, rfl⟩
 obtain ⟨es, rfl, o1, o2, rfl⟩ := e
 rw [hul]
 have s3 := es.trans (zE hp (.lst ((yB rows rows.length).map V.bl)))
 have k3 : upd H' p (.lst ((yB rows rows.length).map V.bl)) p = some (.lst ((yB rows rows.length).map V.bl)) := zC
 generalize upd H' p (.lst ((yB rows rows.length).map V.bl)) = H3 at s3 k3 ⊢
 refine ⟨p, rfl, yB rows rows.length, SqL.of k3, ?_⟩
 cases hal : (yB rows rows.length).all id with
 | false =>
   rw [if_pos rfl]
   rw [hal, Bool.false_and] at q
   exact q _ s3
 | true =>
   rw [if_neg (by decide)]
   rw [hal, Bool.true_and] at q
   refine hN _ _ ?_
   clear hN
   have ha3 := s3 _ _ ha2
   have hus3 := DAts.same s3 hus2
   simp! []
   obtain ⟨as, rfl, e1, e2⟩ := rx_refs hus3
   have hal2 : as.length = rows.length := by rw [List.length_map] at hul; exact hul
   refine ⟨as, SqL.of ha3, by omega, kfH H3, e2, fun l n hl hn hle => ⟨n, zC, by omega, (as.map V.ref).length, .inl ⟨_, SqL.of (zE hl _ _ _ ha3), rfl⟩, rfl, ?_⟩⟩
   rw [e1, nodup_kRx] at hn
   have hdec : decide ((n : Int) = ((as.map V.ref).length : Int)) = decide rows.Nodup := by
     rw [List.length_map]
     rw [Bool.eq_iff_iff, decide_eq_true_eq, decide_eq_true_eq, ← hn]
     omega
   rw [hdec]
   exact q _ (s3.trans (zE hl _))
end
abbrev s_c : Stmt := top 12
theorem sc_c : FnScope ["script", "k"] ["script", "k"] (zG s_c) := ⟨rfl, rfl, rfl, by decide +kernel, rfl, by decide +kernel, by decide +kernel⟩
abbrev s_a : Stmt := top 13
theorem sc_a : FnScope ["cell", "size", "letters", "made", "rest", "k"] ["cell", "size"] (zG s_a) := ⟨rfl, rfl, rfl, by decide +kernel, rfl, by decide +kernel, by decide +kernel⟩
abbrev s_d : Stmt := top 14
theorem sc_d : FnScope ["word", "sign"] ["word"] (zG s_d) := ⟨rfl, rfl, rfl, by decide +kernel, rfl, by decide +kernel, by decide +kernel⟩
abbrev s_e : Stmt := top 15
theorem sc_e : FnScope ["cells", "rows", "cell", "row", "low"] ["cells"] (zG s_e) := ⟨rfl, rfl, rfl, by decide +kernel, rfl, by decide +kernel, by decide +kernel⟩
def spCell (K : PySem.W.Frag) : Sp := fun vs H Q _ => ∃ (a : Addr) (ns : List Int) (k : Nat), vs = [.ref a, .int k] /\ SqL K H a (ns.map V.int) /\ Q (.int (ns.getD k 0)) H
def spName : Sp := fun vs H Q _ => ∃ c n : Int, vs = [.int c, .int n] /\ ∀ x : Str, Nm x -> Q (.str x) H
def spIsL : Sp := fun vs H Q _ => ∃ x : Str, vs = [.str x] /\ x.length <= 1000 /\ Q (.bl (isN x)) H
theorem xV {H H' : Hp} (k : ∀ a xs, H a = some (.tup xs) -> H' a = some (.tup xs)) : ∀ {rows : List Rx} {us : List V}, DAts H (rows.map dRx) us -> DAts H' (rows.map dRx) us
 | [], us, h => h
 | r :: rows, us, h => by
   obtain ⟨v, us', rfl, h1, h2⟩ := h
   obtain ⟨a, rfl, ha⟩ := rxAt h1
   exact ⟨_, us', rfl, yF (k _ _ ha), xV k h2⟩
theorem tup_upd {H : Hp} {p : Addr} {xs : List V} {o : HO} (hp : H p = some (.lst xs)) : ∀ a ys, H a = some (.tup ys) -> upd H p o a = some (.tup ys) := fun a ys ha => by
 have : a ≠ p := fun e => by rw [e, hp] at ha; cases ha
 rw [zP this]
 exact ha
theorem rxs_snoc {H : Hp} {rows : List Rx} {us : List V} {r : Rx} {v : V} (h : DAts H (rows.map dRx) us) (h1 : DAt H (dRx r) v) : DAts H ((rows ++ [r]).map dRx) (us ++ [v]) := by
 rw [List.map_append]
 exact DAts.append h (DAts.one h1)
def spSh : Sp := fun vs H Q _ => ∃ (ca : Addr) (cs : List Int), vs = [.ref ca] /\ H ca = some (.lst (cs.map V.int)) /\ cs.length <= 63 /\
 ∀ (p : Addr) (us : List V) (rows : List Rx) H', Same H H' -> H p = none -> H' p = some (.lst us) -> DAts H' (rows.map dRx) us -> 1 <= rows.length -> rows.length <= 64 -> (∀ r ∈ rows, SzR r) -> Q (.ref p) H'
section
variable {P : Program} {w : World} {K : PySem.W.Frag} {mg : Str -> Option Value} {base : Heap} {f : Addr} {fd : FuncData}
theorem ok_cell (bi : Bi mg) (F : Fun K "_law_cell_at" "_law_cell_at" s_c f fd) : FnOk P w K mg base CX0 1 f fd ["script", "k"] (spCell K) := by
 refine F.ok sc_c (fun vs H Q E h => ?_) (fun cdv A outer s H vs Q E hr h => ?_)
 · obtain ⟨a, ns, k, rfl, _⟩ := h
   rfl
 obtain ⟨a, ns, k, rfl, hS, q⟩ := h
 refine ⟨_, (zD (zW (zK op_lt (pv 1) (zM call_len rfl bi.len bt_len (zA (pv 0) pa_nil)) (zJ _)) (zF (zN (yA ix_list (pv 0) (pv 1) (fun _ _ => rfl)))) pss_nil) (zF (zN zB))), ?_⟩
 simp only [tSeq, tFor_eq, tLC_eq, iRng1, iRng2, iList, iTup, iStr, tIfS, tRet, tRetN, tNext, tAsg, gName, tVar, tC, tOp, rI0, rI, tTest, tB, rEq, rNe, tCall, tCons, tNil, tCB, tLst, tTup, tAnd, tOr, tNot, tAndV, tOrV, tNotV, tIf, tDrop, tSl, tPart, tNoPart, tChain, tUn, rU, L2.start, cx_K, bk_K, cx_calm, bk_calm, lenV_str, and_assoc, Option.join, List.length_map, List.length_append, decide_eq_true_eq, Bool.false_eq_true, if_false, if_true, Bool.not_true, Bool.not_false, Bool.not_eq_true', decide_eq_false_iff_not, Bool.true_eq_false, List.length_cons, List.length_nil, List.map_cons, List.map_nil, List.replicate, List.cons_append, List.nil_append, List.append_nil, List.getElem?_cons_zero, List.getElem?_cons_succ, List.set_cons_zero, List.set_cons_succ, Nat.reduceSub, Nat.reduceAdd, Option.some.injEq, V.int.injEq, V.str.injEq, V.bl.injEq, V.ref.injEq, List.cons.injEq, and_true, true_and, exists_eq_left', exists_eq_left, exists_and_left, exists_eq_right, exists_const]
 refine ⟨_, .inl ⟨_, hS, rfl⟩, ?_⟩
 split
 · rename_i hk
   rw [List.length_map] at hk
   exact ⟨a, _, k, _, rfl, rfl, hS, ix_nat hk, q⟩
 · rename_i hk
   rw [List.length_map] at hk
   rw [List.getD_eq_getElem?_getD, List.getElem?_eq_none (by omega)] at q
   exact q
theorem letter_at (c : Int) : ∃ d : Nat, atI ("abcdefghijklmnopqrstuvwxyz" : Str).cps.toList (c % 26) = some d /\ 97 <= d /\ d <= 122 := by
 have h : ∀ k : Fin 26, ∃ d : Nat, ("abcdefghijklmnopqrstuvwxyz" : Str).cps.toList[k.val]? = some d /\ 97 <= d /\ d <= 122 := by decide +kernel
 have h1 : 0 <= c % 26 := Int.emod_nonneg _ (by omega)
 have h2 : c % 26 < 26 := Int.emod_lt_of_pos _ (by omega)
 have e : c % 26 = ((c % 26).toNat : Nat) := by omega
 obtain ⟨d, h3, h4⟩ := h ⟨(c % 26).toNat, by omega⟩
 refine ⟨d, ?_, h4⟩
 rw [e]
 exact yU h3
theorem ok_name (bi : Bi mg) (F : Fun K "_law_name_by" "_law_name_by" s_a f fd) : FnOk P w K mg base CX0 1 f fd ["cell", "size"] spName := by
 refine F.ok sc_a (fun vs H Q E h => ?_) (fun cdv A outer s H vs Q E hr h => ?_)
 · obtain ⟨c, n, rfl, _⟩ := h
   rfl
 obtain ⟨c, n, rfl, q⟩ := h
 refine ⟨_, (zD (zR (i := 2) sc_a.nd rfl (Or.inl rfl) zI) (zD (zR (i := 3) sc_a.nd rfl (Or.inl rfl) zI) (zD (zR (i := 4) sc_a.nd rfl (Or.inl rfl) (zH op_mod (pv 0) (zH op_pow zB zB))) (zD (jX PassesOwn.never rfl (jJ rfl bi.range (zA (zH op_add zB (zH op_mod (pv 1) zB)) pa_nil)) (yT (i := 5) sc_a.nd rfl (Or.inl rfl)) (zD (zR (i := 3) sc_a.nd rfl (Or.inl rfl) (zH op_add_str (pv 3) (yA ix_str (pv 2) (zH op_mod (pv 4) zB) (fun _ _ => rfl)))) (zF (zR (i := 4) sc_a.nd rfl (Or.inl rfl) (zH op_fdiv (pv 4) zB))))) (zD (zW (PW.pt (pw_or (zK op_eq (pv 3) zI (zJ _)) (pw_or1 (zK op_eq (pv 3) zI (zJ _))))) (zF (zR (i := 3) sc_a.nd rfl (Or.inl rfl) (zH op_add_str (pv 3) zI))) pss_nil) (zF (zN (pv 3)))))))), ?_⟩
 refine zO fun N hN => ?_
 simp only [tSeq, tFor_eq, tLC_eq, iRng1, iRng2, iList, iTup, iStr, tIfS, tRet, tRetN, tNext, tAsg, gName, tVar, tC, tOp, rI0, rI, tTest, tB, rEq, rNe, tCall, tCons, tNil, tCB, tLst, tTup, tAnd, tOr, tNot, tAndV, tOrV, tNotV, tIf, tDrop, tSl, tPart, tNoPart, tChain, tUn, rU, L2.start, cx_K, bk_K, cx_calm, bk_calm, lenV_str, and_assoc, Option.join, List.length_map, List.length_append, decide_eq_true_eq, Bool.false_eq_true, if_false, if_true, Bool.not_true, Bool.not_false, Bool.not_eq_true', decide_eq_false_iff_not, Bool.true_eq_false, List.length_cons, List.length_nil, List.map_cons, List.map_nil, List.replicate, List.cons_append, List.nil_append, List.append_nil, List.getElem?_cons_zero, List.getElem?_cons_succ, List.set_cons_zero, List.set_cons_succ, Nat.reduceSub, Nat.reduceAdd, Option.some.injEq, V.int.injEq, V.str.injEq, V.bl.injEq, V.ref.injEq, List.cons.injEq, and_true, true_and, exists_eq_left', exists_eq_left, exists_and_left, exists_eq_right, exists_const]
 refine hN _ _ ?_
 refine zO fun N hN => ?_
 simp only [tSeq, tFor_eq, tLC_eq, iRng1, iRng2, iList, iTup, iStr, tIfS, tRet, tRetN, tNext, tAsg, gName, tVar, tC, tOp, rI0, rI, tTest, tB, rEq, rNe, tCall, tCons, tNil, tCB, tLst, tTup, tAnd, tOr, tNot, tAndV, tOrV, tNotV, tIf, tDrop, tSl, tPart, tNoPart, tChain, tUn, rU, L2.start, cx_K, bk_K, cx_calm, bk_calm, lenV_str, and_assoc, Option.join, List.length_map, List.length_append, decide_eq_true_eq, Bool.false_eq_true, if_false, if_true, Bool.not_true, Bool.not_false, Bool.not_eq_true', decide_eq_false_iff_not, Bool.true_eq_false, List.length_cons, List.length_nil, List.map_cons, List.map_nil, List.replicate, List.cons_append, List.nil_append, List.append_nil, List.getElem?_cons_zero, List.getElem?_cons_succ, List.set_cons_zero, List.set_cons_succ, Nat.reduceSub, Nat.reduceAdd, Option.some.injEq, V.int.injEq, V.str.injEq, V.bl.injEq, V.ref.injEq, List.cons.injEq, and_true, true_and, exists_eq_left', exists_eq_left, exists_and_left, exists_eq_right, exists_const]
 refine hN _ _ ?_
 refine zO fun N hN => ?_
 simp only [tSeq, tFor_eq, tLC_eq, iRng1, iRng2, iList, iTup, iStr, tIfS, tRet, tRetN, tNext, tAsg, gName, tVar, tC, tOp, rI0, rI, tTest, tB, rEq, rNe, tCall, tCons, tNil, tCB, tLst, tTup, tAnd, tOr, tNot, tAndV, tOrV, tNotV, tIf, tDrop, tSl, tPart, tNoPart, tChain, tUn, rU, L2.start, cx_K, bk_K, cx_calm, bk_calm, lenV_str, and_assoc, Option.join, List.length_map, List.length_append, decide_eq_true_eq, Bool.false_eq_true, if_false, if_true, Bool.not_true, Bool.not_false, Bool.not_eq_true', decide_eq_false_iff_not, Bool.true_eq_false, List.length_cons, List.length_nil, List.map_cons, List.map_nil, List.replicate, List.cons_append, List.nil_append, List.append_nil, List.getElem?_cons_zero, List.getElem?_cons_succ, List.set_cons_zero, List.set_cons_succ, Nat.reduceSub, Nat.reduceAdd, Option.some.injEq, V.int.injEq, V.str.injEq, V.bl.injEq, V.ref.injEq, List.cons.injEq, and_true, true_and, exists_eq_left', exists_eq_left, exists_and_left, exists_eq_right, exists_const]
 refine ⟨⟨by decide, by decide, by decide⟩, by decide, hN _ _ ?_⟩
 generalize c % 26 ^ Int.toNat 8 = r0
 have hm : 0 <= n % 8 /\ n % 8 < 8 := by omega
 have e0 : ("" : Str).cps.toList = [] := by decide +kernel
 refine zY (fun σ H' => H' = H /\ ∃ (z : Str) (a b : Option V), z.length = 1 + (n % 8).toNat /\ (∀ d ∈ z.cps.toList, 97 <= d /\ d <= 122) /\ σ = [some (V.int c), some (V.int n), some (V.str "abcdefghijklmnopqrstuvwxyz"), some (V.str z), a, b]) (fun N hN => ?_) (fun σ H' h => ?_)
 · simp only [tSeq, tFor_eq, tLC_eq, iRng1, iRng2, iList, iTup, iStr, tIfS, tRet, tRetN, tNext, tAsg, gName, tVar, tC, tOp, rI0, rI, tTest, tB, rEq, rNe, tCall, tCons, tNil, tCB, tLst, tTup, tAnd, tOr, tNot, tAndV, tOrV, tNotV, tIf, tDrop, tSl, tPart, tNoPart, tChain, tUn, rU, L2.start, cx_K, bk_K, cx_calm, bk_calm, lenV_str, and_assoc, Option.join, List.length_map, List.length_append, decide_eq_true_eq, Bool.false_eq_true, if_false, if_true, Bool.not_true, Bool.not_false, Bool.not_eq_true', decide_eq_false_iff_not, Bool.true_eq_false, List.length_cons, List.length_nil, List.map_cons, List.map_nil, List.replicate, List.cons_append, List.nil_append, List.append_nil, List.getElem?_cons_zero, List.getElem?_cons_succ, List.set_cons_zero, List.set_cons_succ, Nat.reduceSub, Nat.reduceAdd, Option.some.injEq, V.int.injEq, V.str.injEq, V.bl.injEq, V.ref.injEq, List.cons.injEq, and_true, true_and, exists_eq_left', exists_eq_left, exists_and_left, exists_eq_right, exists_const]
   refine ⟨by decide, by omega, by omega, fw_range (n := (1 + n % 8).toNat) (fun i σ H' => H' = H /\ ∃ (z : Str) (r : Int) (o : Option V), z.length = i /\ (∀ d ∈ z.cps.toList, 97 <= d /\ d <= 122) /\ σ = [some (V.int c), some (V.int n), some (V.str "abcdefghijklmnopqrstuvwxyz"), some (V.str z), some (V.int r), o])
     ⟨rfl, _, _, _, rfl, (fun d hd => by rw [e0] at hd; cases hd), rfl⟩ (fun i σ H' hi e => ?_) (fun σ H' e => ?_)⟩
   · obtain ⟨rfl, z, r, o, hz, hl, rfl⟩ := e
     obtain ⟨d, hd, hd2⟩ := letter_at r
     simp only [tSeq, tFor_eq, tLC_eq, iRng1, iRng2, iList, iTup, iStr, tIfS, tRet, tRetN, tNext, tAsg, gName, tVar, tC, tOp, rI0, rI, tTest, tB, rEq, rNe, tCall, tCons, tNil, tCB, tLst, tTup, tAnd, tOr, tNot, tAndV, tOrV, tNotV, tIf, tDrop, tSl, tPart, tNoPart, tChain, tUn, rU, L2.start, cx_K, bk_K, cx_calm, bk_calm, lenV_str, and_assoc, Option.join, List.length_map, List.length_append, decide_eq_true_eq, Bool.false_eq_true, if_false, if_true, Bool.not_true, Bool.not_false, Bool.not_eq_true', decide_eq_false_iff_not, Bool.true_eq_false, List.length_cons, List.length_nil, List.map_cons, List.map_nil, List.replicate, List.cons_append, List.nil_append, List.append_nil, List.getElem?_cons_zero, List.getElem?_cons_succ, List.set_cons_zero, List.set_cons_succ, Nat.reduceSub, Nat.reduceAdd, Option.some.injEq, V.int.injEq, V.str.injEq, V.bl.injEq, V.ref.injEq, List.cons.injEq, and_true, true_and, exists_eq_left', exists_eq_left, exists_and_left, exists_eq_right, exists_const]
     refine ⟨by decide, _, _, d, rfl, rfl, zQ (by decide +kernel), hd, ?_⟩
     have e1 : (⟨#[d]⟩ : Str).length = 1 := rfl
     refine ⟨_, rfl, zQ (by omega), ⟨by decide, by decide⟩, rfl, _, ?_, ?_, rfl, _, rfl⟩
     · rw [len_app, hz, e1]
     · intro d' hd'
       rw [cps_app] at hd'
       rcases List.mem_append.mp hd' with h | h
       · exact hl d' h
       · have h : d' ∈ [d] := h
         rw [List.mem_singleton.mp h]
         exact hd2
   · obtain ⟨rfl, z, r, o, hz, hl, rfl⟩ := e
     exact hN _ _ ⟨rfl, z, _, _, by omega, hl, rfl⟩
 · obtain ⟨rfl, z, a, b, hz, hl, rfl⟩ := h
   refine zY (fun σ H'' => H'' = H' /\ ∃ (z : Str) (a b : Option V), Nm z /\ σ = [some (V.int c), some (V.int n), some (V.str "abcdefghijklmnopqrstuvwxyz"), some (V.str z), a, b]) (fun N hN => ?_) (fun σ H'' h => ?_)
   · simp only [tSeq, tFor_eq, tLC_eq, iRng1, iRng2, iList, iTup, iStr, tIfS, tRet, tRetN, tNext, tAsg, gName, tVar, tC, tOp, rI0, rI, tTest, tB, rEq, rNe, tCall, tCons, tNil, tCB, tLst, tTup, tAnd, tOr, tNot, tAndV, tOrV, tNotV, tIf, tDrop, tSl, tPart, tNoPart, tChain, tUn, rU, L2.start, cx_K, bk_K, cx_calm, bk_calm, lenV_str, and_assoc, Option.join, List.length_map, List.length_append, decide_eq_true_eq, Bool.false_eq_true, if_false, if_true, Bool.not_true, Bool.not_false, Bool.not_eq_true', decide_eq_false_iff_not, Bool.true_eq_false, List.length_cons, List.length_nil, List.map_cons, List.map_nil, List.replicate, List.cons_append, List.nil_append, List.append_nil, List.getElem?_cons_zero, List.getElem?_cons_succ, List.set_cons_zero, List.set_cons_succ, Nat.reduceSub, Nat.reduceAdd, Option.some.injEq, V.int.injEq, V.str.injEq, V.bl.injEq, V.ref.injEq, List.cons.injEq, and_true, true_and, exists_eq_left', exists_eq_left, exists_and_left, exists_eq_right, exists_const]
     refine ⟨rfl, ?_⟩
     have fin : ∀ z : Str, Nm z -> N [some (V.int c), some (V.int n), some (V.str "abcdefghijklmnopqrstuvwxyz"), some (V.str z), a, b] H' := fun z h => hN _ _ ⟨rfl, z, _, _, h, rfl⟩
     split
     · rename_i e
       subst e
       refine ⟨zQ (by decide +kernel), fin _ ?_⟩
       exact ⟨by decide +kernel, by decide +kernel, by decide +kernel, by decide +kernel, by decide +kernel⟩
     · rename_i e
       refine ⟨rfl, ?_⟩
       split
       · rename_i e
         subst e
         refine ⟨zQ (by decide +kernel), fin _ ?_⟩
         exact ⟨by decide +kernel, by decide +kernel, by decide +kernel, by decide +kernel, by decide +kernel⟩
       · rename_i e2
         exact fin z ⟨by omega, by omega, hl, e, e2⟩
   · obtain ⟨rfl, z, a, b, hz, rfl⟩ := h
     simp only [tSeq, tFor_eq, tLC_eq, iRng1, iRng2, iList, iTup, iStr, tIfS, tRet, tRetN, tNext, tAsg, gName, tVar, tC, tOp, rI0, rI, tTest, tB, rEq, rNe, tCall, tCons, tNil, tCB, tLst, tTup, tAnd, tOr, tNot, tAndV, tOrV, tNotV, tIf, tDrop, tSl, tPart, tNoPart, tChain, tUn, rU, L2.start, cx_K, bk_K, cx_calm, bk_calm, lenV_str, and_assoc, Option.join, List.length_map, List.length_append, decide_eq_true_eq, Bool.false_eq_true, if_false, if_true, Bool.not_true, Bool.not_false, Bool.not_eq_true', decide_eq_false_iff_not, Bool.true_eq_false, List.length_cons, List.length_nil, List.map_cons, List.map_nil, List.replicate, List.cons_append, List.nil_append, List.append_nil, List.getElem?_cons_zero, List.getElem?_cons_succ, List.set_cons_zero, List.set_cons_succ, Nat.reduceSub, Nat.reduceAdd, Option.some.injEq, V.int.injEq, V.str.injEq, V.bl.injEq, V.ref.injEq, List.cons.injEq, and_true, true_and, exists_eq_left', exists_eq_left, exists_and_left, exists_eq_right, exists_const]
     exact q z hz
theorem xW (bi : Bi mg)
   (F : Fun K "_law_is_name" "_law_is_name" s_d f fd) : FnOk P w K mg base CX0 1 f fd ["word"] spIsL := by
 refine F.ok sc_d (fun vs H Q E h => ?_) (fun cdv A outer s H vs Q E hr h => ?_)
 · obtain ⟨x, rfl, _⟩ := h
   rfl
 obtain ⟨x, rfl, hx, q⟩ := h
 refine ⟨_, (zD (zW (PW.pt (pw_or (jW (pt_val (zM (xA (T := "str")) rfl bi.isinstance bt_isinstance (zA (pv 0) (zA (pe_ty bi.str bt_str rfl) pa_nil))))) (pw_or (zK op_lt (zM call_len rfl bi.len bt_len (zA (pv 0) pa_nil)) zB (zJ _)) (pw_or1 (zK op_gt (zM call_len rfl bi.len bt_len (zA (pv 0) pa_nil)) zB (zJ _)))))) (zF (zN xN)) pss_nil) (zD (jX PassesOwn.never rfl (pi_str (pv 0)) (yT (i := 1) sc_d.nd rfl (Or.inl rfl)) (zF (zW (zK op_notin_str (pv 1) zI (by with_unfolding_all rfl)) (zF (zN xN)) pss_nil))) (zF (zN (yD (zV op_ne (pv 0) zI (zJ _)) (yX (zV op_ne (pv 0) zI (zJ _)))))))), ?_⟩
 simp! []
 have no : ¬ (1 <= x.length /\ x.length <= 8) -> Q (.bl false) H := fun h => by rw [← isN_no h]; exact q
 refine ⟨_, .str x, true, rfl, ?_⟩
 rw [if_neg (by decide)]
 refine ⟨zQ hx, ?_⟩
 split
 · exact no (by omega)
 rename_i h1
 refine ⟨zQ hx, ?_⟩
 split
 · exact no (by omega)
 rename_i h2
 refine fw_str (z := x) (fun i σ H' => H' = H /\ (x.cps.toList.take i).all inL = true /\ ∃ o, σ = [some (V.str x), o]) ⟨rfl, rfl, none, rfl⟩ (fun i c σ H' hc e => ?_) (fun σ H' e => ?_)
 · obtain ⟨rfl, e, o, rfl⟩ := e
   simp! []
   have hi : i < x.cps.toList.length := by simpa using (Array.getElem?_eq_some_iff.mp hc).1
   have hc' : x.cps.toList[i] = c := by simpa using (Array.getElem?_eq_some_iff.mp hc).2
   have ec : (!(Builtin.Str.occurrences "abcdefghijklmnopqrstuvwxyz" ⟨#[c]⟩ 0 ("abcdefghijklmnopqrstuvwxyz" : Str).length 1).isEmpty) = inL c := rfl
   rw [ec]
   by_cases hb : inL c = true
   · rw [if_neg (by rw [hb]; decide)]
     refine ⟨?_, _, rfl⟩
     rw [List.take_succ_eq_append_getElem hi, List.all_append, e, hc', List.all_cons, hb]
     rfl
   · rw [if_pos (Bool.eq_false_iff.mpr hb)]
     have e2 : isN x = false := by
       unfold isN
       have : x.cps.toList.all inL = false := by
         rw [Bool.eq_false_iff]
         intro z
         exact hb (hc' ▸ List.all_eq_true.mp z _ (List.getElem_mem hi))
       rw [this, Bool.and_false, Bool.false_and, Bool.false_and]
     rw [← e2]
     exact q
 · obtain ⟨rfl, e, o, rfl⟩ := e
   rw [List.take_of_length_le (by simp)] at e
   have en : ∀ b : Bool, b = isN x -> Q (.bl b) H' := fun b hb => by rw [hb]; exact q
   have eN : isN x = (!decide (x = "none") && !decide (x = "all")) := by
     unfold isN
     rw [e, decide_eq_true (show 1 <= x.length by omega), decide_eq_true (show x.length <= 8 by omega), Bool.true_and, Bool.true_and, Bool.true_and]
   simp! []
   refine ⟨rfl, ?_⟩
   by_cases h3 : x = "none"
   · rw [if_neg (by simpa using h3)]
     exact en _ (by rw [eN, decide_eq_true h3, Bool.not_true, Bool.false_and])
   · rw [if_pos (by simpa using h3)]
     refine ⟨rfl, en _ ?_⟩
     rw [eN, decide_eq_false h3, Bool.not_false, Bool.true_and]
theorem ok_sheet (bi : Bi mg) (h_a : Has P w K mg base 1 "_law_name_by" ["cell", "size"] spName) (F : Fun K "_law_sheet" "_law_sheet" s_e f fd) : FnOk P w K mg base CX0 2 f fd ["cells"] spSh := by
 refine F.ok sc_e (fun vs H Q E h => ?_) (fun cdv A outer s H vs Q E hr h => ?_)
 · obtain ⟨ca, cs, rfl, _⟩ := h
   rfl
 obtain ⟨ca, cs, rfl, hca, h63, q⟩ := h
 refine ⟨_, (zD (zR (i := 1) sc_e.nd rfl (Or.inl rfl) (yY (zA (yC (zA zI pa_nil)) pa_nil))) (zD (jX PassesOwn.never rfl (pi_list (pv 0)) (yT (i := 2) sc_e.nd rfl (Or.inl rfl)) (zD (zR (i := 3) sc_e.nd rfl (Or.inl rfl) (yC (zA zI (zA (zT h_a (hr.mono (by omega)) rfl (zA (zH op_fdiv (pv 2) zB) (zA (zH op_mod (zH op_fdiv (pv 2) zB) zB) pa_nil))) pa_nil)))) (zD (zW (zK op_gt (zH op_mod (pv 2) zB) zB (zJ _)) (zD (zR (i := 4) sc_e.nd rfl (Or.inl rfl) (zH op_mod (zH op_mul (pv 2) zB) zB)) (zF (zR (i := 3) sc_e.nd rfl (Or.inl rfl) (yC (zA zI (zA (zH op_mod (pv 4) (zH op_mul zB (zM call_len rfl bi.len bt_len (zA (pv 1) pa_nil)))) (zA (zH op_mod (zH op_fdiv (pv 4) zB) (zH op_mul zB (zM call_len rfl bi.len bt_len (zA (pv 1) pa_nil)))) pa_nil))))))) pss_nil) (zF (zW (zK (op_notInG hr.units) (pv 3) (pv 1) (by with_unfolding_all rfl)) (zF (ps_expr (pe_bm PySem.F.plainAttrs_list PySem.F.slot_list_append PySem.F.type_list_append mt_append (pv 1) (zA (pv 3) pa_nil)))) pss_nil))))) (zF (zN (pv 1))))), ?_⟩
 refine zO fun N hN => ?_
 simp! []
 refine ⟨zQ (by simp), fun p0 hp0 => ⟨zQ (by simp), fun p hp => hN _ _ ?_⟩⟩
 clear hN
 have s1 := zE hp0 (.tup [V.str "none"])
 have k1 : upd H p0 (.tup [V.str "none"]) p0 = some (.tup [V.str "none"]) := zC
 generalize upd H p0 (.tup [V.str "none"]) = H1 at s1 k1 hp ⊢
 have hpn : H p = none := s1.free hp
 have s2 := zE hp (.lst [V.ref p0])
 have k2 : upd H1 p (.lst [V.ref p0]) p = some (.lst [V.ref p0]) := zC
 have k3 : DAts (upd H1 p (.lst [V.ref p0])) ([Rx.a "none"].map dRx) [V.ref p0] := ⟨_, _, rfl, yF (r := .a "none") (s2 _ _ k1), rfl⟩
 have s3 := s1.trans s2
 generalize upd H1 p (.lst [V.ref p0]) = H2 at s2 k2 k3 s3 ⊢
 refine zY (fun σ H' => ∃ (us : List V) (rows : List Rx) (o1 o2 o3 : Option V), Same H H' /\ H' p = some (.lst us) /\ DAts H' (rows.map dRx) us /\ 1 <= rows.length /\ rows.length <= 64 /\ (∀ r ∈ rows, SzR r) /\ σ = [some (V.ref ca), some (V.ref p), o1, o2, o3]) (fun N hN => ?_) (fun σ H' h => ?_)
 · simp! []
   refine ⟨⟨_, SqL.of (s3 _ _ hca)⟩, ?_⟩
   refine fw_list (xs := cs.map V.int) (fun i σ H' => ∃ (us : List V) (rows : List Rx) (o1 o2 o3 : Option V), Same H H' /\ H' p = some (.lst us) /\ DAts H' (rows.map dRx) us /\ 1 <= rows.length /\ rows.length <= i + 1 /\ (∀ r ∈ rows, SzR r) /\ σ = [some (V.ref ca), some (V.ref p), o1, o2, o3]) ⟨_, [.a "none"], _, _, _, s3, k2, k3, by simp, by simp, (fun r hr => by rw [List.mem_singleton.mp hr]; trivial), rfl⟩ (fun i σ H' _ h => ?_) (fun i x σ H' hx h => ?_) (fun σ H' h => ?_)
   · obtain ⟨us, rows, o1, o2, o3, s4, _⟩ := h
     exact SqL.of (s4 _ _ hca)
   · obtain ⟨us, rows, o1, o2, o3, s4, k4, k5, r1, r2, r3, rfl⟩ := h
     obtain ⟨c, hc, rfl⟩ : ∃ c, cs[i]? = some c /\ x = .int c := by
       rw [List.getElem?_map] at hx
       obtain ⟨c, h1, h2⟩ := Option.map_eq_some_iff.mp hx
       exact ⟨c, h1, h2.symm⟩
     have hi : i < 63 := by have := (List.getElem?_eq_some_iff.mp hc).1; omega
     have hul := yZ k5
     show tSeq _ _ _ _ _
     refine zO fun N hN => ?_
     simp! [spName]
     refine ⟨⟨by decide, by decide⟩, ⟨by decide, by decide⟩, by decide, fun x hx => ⟨zQ (by simp), fun p1 hp1 => hN _ _ ?_⟩⟩
     clear hN
     have s5 := zE hp1 (.tup [V.str "name", V.str x])
     have k6 : DAt (upd H' p1 (.tup [V.str "name", V.str x])) (dRx (.b "name" x)) (.ref p1) := yF (r := .b "name" x) zC
     have hsz : SzR (.b "name" x) := Nat.le_trans hx.most (by decide)
     generalize upd H' p1 (.tup [V.str "name", V.str x]) = H4 at s5 k6 ⊢
     refine zY (fun σ H5 => ∃ (v : V) (r : Rx) (o : Option V), Same H' H5 /\ DAt H5 (dRx r) v /\ SzR r /\ σ = [some (V.ref ca), some (V.ref p), some (V.int c), some v, o]) (fun N hN => ?_) (fun σ H5 h => ?_)
     · simp! []
       refine ⟨by decide, ?_⟩
       split
       · have hk := s5 _ _ k4
         refine ⟨.inr ⟨by decide, by decide⟩, by decide, us.length, .inl ⟨_, SqL.of hk, rfl⟩, .inl ⟨by decide, by decide⟩, by omega, ⟨by decide, by decide⟩, us.length, .inl ⟨_, SqL.of hk, rfl⟩, .inl ⟨by decide, by decide⟩, by omega, zQ (by simp), fun p2 hp2 => hN _ _ ⟨_, .c "both" (c * 48271 % 2147483647 % (2 * (us.length : Int))) (c * 48271 % 2147483647 / 128 % (2 * (us.length : Int))), _, s5.trans (zE hp2 _), yF (r := .c "both" _ _) zC, trivial, rfl⟩⟩
       · exact hN _ _ ⟨_, _, _, s5, k6, hsz, rfl⟩
     · obtain ⟨v, r, o, s6, k7, hsz, rfl⟩ := h
       have k8 := s6 _ _ k4
       have k9 := DAts.same s6 k5
       have s7 := s4.trans s6
       simp! []
       refine ⟨2, dRx r, rows.map dRx, k7, .inl ⟨p, us, rfl, k8, k9⟩, fit_rxA 1 rows, by omega, _, rfl, ?_⟩
       rw [any_rx]
       by_cases hm : r ∈ rows
       · rw [decide_eq_true hm, if_neg (by decide)]
         exact ⟨s7, us, k8, rows, k9, r1, by omega, r3, _, rfl⟩
       · rw [decide_eq_false hm, if_pos (by decide)]
         refine ⟨.inl ⟨rfl, _, SqL.of k8⟩, us, k8, Nat.lt_of_le_of_lt (m := 100000) (by omega) (by decide), s7.upd hpn, us ++ [v], zC, rows ++ [r], xV (tup_upd k8) (rxs_snoc k9 k7), by simp, by simp; omega, fun r' hr' => ?_, _, rfl⟩
         rcases List.mem_append.mp hr' with hr' | hr'
         · exact r3 r' hr'
         · rw [List.mem_singleton.mp hr']; exact hsz
   · obtain ⟨us, rows, o1, o2, o3, s4, k4, k5, r1, r2, r3, rfl⟩ := h
     rw [List.length_map] at r2
     exact hN _ _ ⟨us, rows, _, _, _, s4, k4, k5, r1, by omega, r3, rfl⟩
 · obtain ⟨us, rows, o1, o2, o3, s4, k4, k5, r1, r2, r3, rfl⟩ := h
   simp! []
   exact q _ us rows _ s4 hpn k4 k5 r1 r2 r3
end
abbrev s_b : Stmt := top 16
theorem sc_b : FnScope ["cell", "bad"] ["cell"] (zG s_b) := ⟨rfl, rfl, rfl, by decide +kernel, rfl, by decide +kernel, by decide +kernel⟩
abbrev s_f : Stmt := top 17
theorem sc_f : FnScope ["rows", "at", "way", "cell"] ["rows", "at", "way", "cell"] (zG s_f) := ⟨rfl, rfl, rfl, by decide +kernel, rfl, by decide +kernel, by decide +kernel⟩
abbrev s_g : Stmt := top 18
theorem sc_g : FnScope ["rows", "k", "row", "good"] ["rows"] (zG s_g) := ⟨rfl, rfl, rfl, by decide +kernel, rfl, by decide +kernel, by decide +kernel⟩
theorem qG {xs : List V} {k : Nat} (h : k <= xs.length) : xL xs none (some (k : Int)) = xs.take k := by
 unfold xL
 rw [HT.sIx_none, HT.sIx_nat, Nat.min_eq_left h]
 rfl
theorem jQ {xs : List V} {k : Nat} (h : k <= xs.length) : xL xs (some (k : Int)) none = xs.drop k := by
 unfold xL
 rw [HT.sIx_none, HT.sIx_nat, Nat.min_eq_left h]
 exact List.take_of_length_le (by rw [List.length_drop]; exact Nat.le_refl _)
def g1 (r : Rx) (k : Nat) : Bool := decide (0 < k) && match r with
 | .b w x => decide (w = "name") && isN x
 | _ => false
def g2 (r : Rx) (k : Nat) : Bool := decide (0 < k) && yG r k
theorem xK (vs : List V) (h : 0 < vs.length) (c : Int) : ∃ v ∈ vs, atI vs (c % (vs.length : Int)) = some v := by
 have h1 := Int.emod_nonneg c (show (vs.length : Int) ≠ 0 by omega)
 have h2 := Int.emod_lt_of_pos c (show (0 : Int) < (vs.length : Int) by omega)
 have h3 : (c % (vs.length : Int)).toNat < vs.length := by omega
 exact ⟨_, List.getElem_mem h3, at_toNat h1 (List.getElem?_eq_getElem h3)⟩
def spBad : Sp := fun vs H Q _ => ∃ c : Int, vs = [.int c] /\ ∀ x H', Same H H' -> x.length <= 1000 -> Q (.str x) H'
def spOth : Sp := fun vs H Q _ => ∃ (p : Addr) (us : List V) (rows : List Rx) (a : Nat) (w c : Int), vs = [.ref p, .int a, .int w, .int c] /\ H p = some (.lst us) /\ DAts H (rows.map dRx) us /\ 1 <= rows.length /\ (∀ r ∈ rows, SzR r) /\ a <= 100 /\ 0 <= c /\ c < 1000000000000 /\
 ∀ v r H', Same H H' -> DAt H' (dRx r) v -> SzR r -> Q v H'
def yJ (r : Rx) (k : Nat) : Bool := if k = 0 then decide (r = .a "none") else yG r k
def jB (rows : List Rx) : Bool := ((List.range rows.length).all fun k => !decide (rows.getD k (.a "") ∈ rows.take k) && yJ (rows.getD k (.a "")) k) && decide (0 < rows.length)
def spGood : Sp := fun vs H Q _ => ∃ (p : Addr) (us : List V) (rows : List Rx), vs = [.ref p] /\ H p = some (.lst us) /\ DAts H (rows.map dRx) us /\ rows.length <= 70 /\ (∀ r ∈ rows, SzR r) /\ ∀ H', Same H H' -> Q (.bl (jB rows)) H'
section
variable {P : Program} {w : World} {K : PySem.W.Frag} {mg : Str -> Option Value} {base : Heap} {f : Addr} {fd : FuncData}
theorem ok_bad (bi : Bi mg) (F : Fun K "_law_bad_name" "_law_bad_name" s_b f fd) : FnOk P w K mg base CX0 1 f fd ["cell"] spBad := by
 refine F.ok sc_b (fun vs H Q E h => ?_) (fun cdv A outer s H vs Q E hr h => ?_)
 · obtain ⟨c, rfl, _⟩ := h
   rfl
 obtain ⟨c, rfl, q⟩ := h
 refine ⟨_, (zD (zR (i := 1) sc_b.nd rfl (Or.inl rfl) (yY (zA zI (zA zI (zA zI (zA zI (zA zI (zA zI (zA zI (zA zI (zA zI (zA zI pa_nil)))))))))))) (zF (zN (yA ix_list (pv 1) (zH op_mod (pv 0) zB) (fun _ _ => rfl))))), ?_⟩
 refine zO fun N hN => ?_
 simp! []
 refine ⟨zQ (by simp), fun p hp => hN _ _ ?_⟩
 clear hN
 simp! []
 have s1 := zE hp (.lst [V.str "", V.str "none", V.str "all", V.str "abcdefghi", V.str "A", V.str "a1", V.str "a b", V.str "aB", V.str "ab-", V.str "zzzzzzzzz"])
 obtain ⟨v, hv, hat⟩ := xK [V.str "", V.str "none", V.str "all", V.str "abcdefghi", V.str "A", V.str "a1", V.str "a b", V.str "aB", V.str "ab-", V.str "zzzzzzzzz"] (by decide) c
 refine ⟨by decide, _, SqL.of zC, v, hat, ?_⟩
 have hl : ∃ x : Str, v = .str x /\ x.length <= 1000 := by
   simp only [List.mem_cons, List.not_mem_nil, or_false] at hv
   rcases hv with rfl | rfl | rfl | rfl | rfl | rfl | rfl | rfl | rfl | rfl <;> exact ⟨_, rfl, by decide +kernel⟩
 obtain ⟨x, rfl, hx⟩ := hl
 exact q x _ s1 hx
theorem ok_other (bi : Bi mg) (h_b : Has P w K mg base 1 "_law_bad_name" ["cell"] spBad) (F : Fun K "_law_other" "_law_other" s_f f fd) : FnOk P w K mg base CX0 2 f fd ["rows", "at", "way", "cell"] spOth := by
 refine F.ok sc_f (fun vs H Q E h => ?_) (fun cdv A outer s H vs Q E hr h => ?_)
 · obtain ⟨p, us, rows, a, w, c, rfl, _⟩ := h
   rfl
 obtain ⟨p, us, rows, a, w, c, rfl, hp, hus, r1, hz, ha, c0, c1, q⟩ := h
 have hul := yZ hus
 refine ⟨_, (zD (zW (zK op_eq (pv 2) zB (zJ _)) (zF (zN (yA ix_list (pv 0) (zH op_mod (pv 3) (zM call_len rfl bi.len bt_len (zA (pv 0) pa_nil))) (fun _ _ => rfl)))) pss_nil) (zD (zW (zK op_eq (pv 2) zB (zJ _)) (zF (zN (yA ix_list (yY (zA (yC (zA zI pa_nil)) (zA (yC (zA zI pa_nil)) (zA (yC (zA zI pa_nil)) (zA (yC (zA zI pa_nil)) pa_nil))))) (zH op_mod (pv 3) zB) (fun _ _ => rfl)))) pss_nil) (zD (zW (zK op_eq (pv 2) zB (zJ _)) (zF (zN (yC (zA zI (zA (zT h_b (hr.mono (by omega)) rfl (zA (pv 3) pa_nil)) pa_nil))))) pss_nil) (zD (zW (zK op_eq (pv 2) zB (zJ _)) (zF (zN (yC (zA zI (zA (zH op_add (zH op_mul zB (pv 1)) (zH op_mod (pv 3) zB)) (zA (zH op_mod (zH op_fdiv (pv 3) zB) (zH op_add (zH op_mul zB (pv 1)) zB)) pa_nil)))))) pss_nil) (zD (zW (zK op_eq (pv 2) zB (zJ _)) (zF (zN (yC (zA zI (zA (zH op_mod (zH op_fdiv (pv 3) zB) (zH op_add (zH op_mul zB (pv 1)) zB)) (zA (zH op_sub (zH op_add (zH op_mul zB (pv 1)) (zH op_mod (pv 3) zB)) zB) pa_nil)))))) pss_nil) (zD (zW (zK op_eq (pv 2) zB (zJ _)) (zF (zN (yC (zA zI (zA (zH op_sub (zH op_sub zB zB) (zH op_mod (pv 3) zB)) (zA zB pa_nil)))))) pss_nil) (zD (zW (zK op_eq (pv 2) zB (zJ _)) (zF (zN (yC (zA zI (zA zB (zA (zH op_sub (zH op_sub zB zB) (zH op_mod (pv 3) (zH op_pow zB zB))) pa_nil)))))) pss_nil) (zD (zW (zK op_eq (pv 2) zB (zJ _)) (zF (zN (yC (zA (yA ix_list (yY (zA zI (zA zI (zA zI (zA zI pa_nil))))) (zH op_mod (pv 3) zB) (fun _ _ => rfl)) (zA zB (zA zB pa_nil)))))) pss_nil) (zF (zN (yC (zA (yA ix_list (yY (zA zI (zA zI (zA zI pa_nil)))) (zH op_mod (pv 3) zB) (fun _ _ => rfl)) (zA zI pa_nil))))))))))))), ?_⟩
 refine zO fun N hN => ?_
 simp! []
 refine ⟨rfl, ?_⟩
 by_cases w0 : w = 0
 · rw [if_pos w0]
   obtain ⟨v, hv, hat⟩ := xK us (by omega) c
   obtain ⟨i, hi, e⟩ := List.getElem_of_mem hv
   obtain ⟨r, h1, h2⟩ := qC hus (show us[i]? = some v by rw [List.getElem?_eq_getElem hi, e])
   exact ⟨us.length, .inl ⟨_, SqL.of hp, rfl⟩, by omega, _, SqL.of hp, v, hat, q v r _ (Same.refl _) h2 (hz r (List.mem_of_getElem? h1))⟩
 rw [if_neg w0]
 refine hN _ _ ?_
 clear hN
 refine zO fun N hN => ?_
 simp! []
 refine ⟨rfl, ?_⟩
 by_cases w0 : w = 1
 · rw [if_pos w0]
   refine ⟨zQ (by simp), fun p1 hp1 => ?_⟩
   have a1 := zE hp1 (.tup [V.str "none"])
   have b1 := yF (r := .a "none") (H := upd H p1 (.tup [V.str "none"])) (a := p1) zC
   generalize upd H p1 (.tup [V.str "none"]) = H1 at a1 b1 ⊢
   refine ⟨zQ (by simp), fun p2 hp2 => ?_⟩
   have a2 := zE hp2 (.tup [V.str "all"])
   have b2 := yF (r := .a "all") (H := upd H1 p2 (.tup [V.str "all"])) (a := p2) zC
   generalize upd H1 p2 (.tup [V.str "all"]) = H2 at a2 b2 ⊢
   refine ⟨zQ (by simp), fun p3 hp3 => ?_⟩
   have a3 := zE hp3 (.tup [V.str "name"])
   have b3 := yF (r := .a "name") (H := upd H2 p3 (.tup [V.str "name"])) (a := p3) zC
   generalize upd H2 p3 (.tup [V.str "name"]) = H3 at a3 b3 ⊢
   refine ⟨zQ (by simp), fun p4 hp4 => ?_⟩
   have a4 := zE hp4 (.tup [V.str "both"])
   have b4 := yF (r := .a "both") (H := upd H3 p4 (.tup [V.str "both"])) (a := p4) zC
   generalize upd H3 p4 (.tup [V.str "both"]) = H4 at a4 b4 ⊢
   refine ⟨zQ (by simp), fun p5 hp5 => ?_⟩
   have a5 := zE hp5 (.lst [V.ref p1, V.ref p2, V.ref p3, V.ref p4])
   obtain ⟨v, hv, hat⟩ := xK [V.ref p1, V.ref p2, V.ref p3, V.ref p4] (by simp) c
   refine ⟨by decide, _, SqL.of zC, v, hat, ?_⟩
   have sl := a1.trans (a2.trans (a3.trans (a4.trans a5)))
   simp only [List.mem_cons, List.not_mem_nil, or_false] at hv
   rcases hv with rfl | rfl | rfl | rfl
   · exact q _ _ _ sl (DAt.same (a2.trans (a3.trans (a4.trans a5))) b1) trivial
   · exact q _ _ _ sl (DAt.same (a3.trans (a4.trans a5)) b2) trivial
   · exact q _ _ _ sl (DAt.same (a4.trans a5) b3) trivial
   · exact q _ _ _ sl (DAt.same a5 b4) trivial
 rw [if_neg w0]
 refine hN _ _ ?_
 clear hN
 refine zO fun N hN => ?_
 simp! []
 refine ⟨rfl, ?_⟩
 by_cases w0 : w = 2
 · rw [if_pos w0]
   refine ⟨c, rfl, fun x H1 s1 hx => ⟨zQ (by simp), fun p1 hp1 => q _ (.b "name" x) _ (s1.trans (zE hp1 _)) (yF (r := .b "name" x) zC) hx⟩⟩
 rw [if_neg w0]
 refine hN _ _ ?_
 clear hN
 refine zO fun N hN => ?_
 simp! []
 refine ⟨rfl, ?_⟩
 by_cases w0 : w = 3
 · rw [if_pos w0]
   exact ⟨.inl ⟨by decide, by decide⟩, by decide, ⟨by decide, by decide⟩, .inl ⟨by decide, by decide⟩, by omega, zQ (by simp), fun p1 hp1 => q _ (.c "both" (2 * (a : Int) + c % 3) (c / 3 % (2 * (a : Int) + 1))) _ (zE hp1 _) (yF (r := .c "both" _ _) zC) trivial⟩
 rw [if_neg w0]
 refine hN _ _ ?_
 clear hN
 refine zO fun N hN => ?_
 simp! []
 refine ⟨rfl, ?_⟩
 by_cases w0 : w = 4
 · rw [if_pos w0]
   exact ⟨⟨by decide, by decide⟩, .inl ⟨by decide, by decide⟩, by omega, .inl ⟨by decide, by decide⟩, by decide, zQ (by simp), fun p1 hp1 => q _ (.c "both" (c / 5 % (2 * (a : Int) + 1)) (2 * (a : Int) + c % 5 - 1)) _ (zE hp1 _) (yF (r := .c "both" _ _) zC) trivial⟩
 rw [if_neg w0]
 refine hN _ _ ?_
 clear hN
 refine zO fun N hN => ?_
 simp! []
 refine ⟨rfl, ?_⟩
 by_cases w0 : w = 5
 · rw [if_pos w0]
   exact ⟨by decide, zQ (by simp), fun p1 hp1 => q _ (.c "both" (0 - 1 - c % 3) 0) _ (zE hp1 _) (yF (r := .c "both" _ _) zC) trivial⟩
 rw [if_neg w0]
 refine hN _ _ ?_
 clear hN
 refine zO fun N hN => ?_
 simp! []
 refine ⟨rfl, ?_⟩
 by_cases w0 : w = 6
 · rw [if_pos w0]
   exact ⟨⟨by decide, by decide, by decide⟩, by show (0 : Int) < 10 ^ 9; simp, zQ (by simp), fun p1 hp1 => q _ (.c "both" 0 (0 - 1 - c % 10 ^ Int.toNat 9)) _ (zE hp1 _) (yF (r := .c "both" _ _) zC) trivial⟩
 rw [if_neg w0]
 refine hN _ _ ?_
 clear hN
 refine zO fun N hN => ?_
 simp! []
 refine ⟨rfl, ?_⟩
 by_cases w0 : w = 7
 · rw [if_pos w0]
   refine ⟨zQ (by simp), fun p1 hp1 => ?_⟩
   have a1 := zE hp1 (.lst [V.str "either", V.str "not", V.str "same", V.str "Both"])
   have b1 : upd H p1 (.lst [V.str "either", V.str "not", V.str "same", V.str "Both"]) p1 = some (.lst [V.str "either", V.str "not", V.str "same", V.str "Both"]) := zC
   generalize upd H p1 (.lst [V.str "either", V.str "not", V.str "same", V.str "Both"]) = H1 at a1 b1 ⊢
   obtain ⟨v, hv, hat⟩ := xK [V.str "either", V.str "not", V.str "same", V.str "Both"] (by decide) c
   refine ⟨by decide, _, SqL.of b1, v, hat, zQ (by simp), fun p2 hp2 => ?_⟩
   have hl : ∃ x : Str, v = .str x := by
     simp only [List.mem_cons, List.not_mem_nil, or_false] at hv
     rcases hv with rfl | rfl | rfl | rfl <;> exact ⟨_, rfl⟩
   obtain ⟨x, rfl⟩ := hl
   exact q _ (.c x 0 1) _ (a1.trans (zE hp2 _)) (yF (r := .c x 0 1) zC) trivial
 rw [if_neg w0]
 refine hN _ _ ?_
 clear hN
 simp! []
 refine ⟨zQ (by simp), fun p1 hp1 => ?_⟩
 have a1 := zE hp1 (.lst [V.str "not", V.str "both", V.str "Name"])
 have b1 : upd H p1 (.lst [V.str "not", V.str "both", V.str "Name"]) p1 = some (.lst [V.str "not", V.str "both", V.str "Name"]) := zC
 generalize upd H p1 (.lst [V.str "not", V.str "both", V.str "Name"]) = H1 at a1 b1 ⊢
 obtain ⟨v, hv, hat⟩ := xK [V.str "not", V.str "both", V.str "Name"] (by decide) c
 refine ⟨by decide, _, SqL.of b1, v, hat, zQ (by simp), fun p2 hp2 => ?_⟩
 have hl : ∃ x : Str, v = .str x := by
   simp only [List.mem_cons, List.not_mem_nil, or_false] at hv
   rcases hv with rfl | rfl | rfl <;> exact ⟨_, rfl⟩
 obtain ⟨x, rfl⟩ := hl
 exact q _ (.b x "a") _ (a1.trans (zE hp2 _)) (yF (r := .b x "a") zC) (show ("a" : Str).length <= 1000 by decide +kernel)
theorem ok_good (bi : Bi mg) (h_d : Has P w K mg base 1 "_law_is_name" ["word"] spIsL) (F : Fun K "_law_good" "_law_good" s_g f fd) : FnOk P w K mg base CX0 2 f fd ["rows"] spGood := by
 refine F.ok sc_g (fun vs H Q E h => ?_) (fun cdv A outer s H vs Q E hr h => ?_)
 · obtain ⟨p, us, rows, rfl, _⟩ := h
   rfl
 obtain ⟨p, us, rows, rfl, hp, hus, h70, hz, q⟩ := h
 have hul := yZ hus
 refine ⟨_, (zD (jX PassesOwn.never rfl (jJ rfl bi.range (zA (zM call_len rfl bi.len bt_len (zA (pv 0) pa_nil)) pa_nil)) (yT (i := 1) sc_g.nd rfl (Or.inl rfl)) (zD (zR (i := 2) sc_g.nd rfl (Or.inl rfl) (yA ix_list (pv 0) (pv 1) (fun _ _ => rfl))) (zD (zW (zK (op_inG hr.units) (pv 2) (yP sl_list (pv 0) po_none (yS (pv 1))) (by with_unfolding_all rfl)) (zF (zN xN)) pss_nil) (zD (zR (i := 3) sc_g.nd rfl (Or.inl rfl) (yD (zV op_gt (pv 1) zB (zJ _)) (yD (zV op_eq (zM call_len rfl bi.len bt_len (zA (pv 2) pa_nil)) zB (zJ _)) (yD (zV op_eq (yA ix_tup (pv 2) zB (fun _ _ => rfl)) zI (zJ _)) (yX (zT h_d (hr.mono (by omega)) rfl (zA (yA ix_tup (pv 2) zB (fun _ _ => rfl)) pa_nil))))))) (zD (zW (PW.pt (pw_and (zK op_gt (pv 1) zB (zJ _)) (pw_and (zK op_eq (zM call_len rfl bi.len bt_len (zA (pv 2) pa_nil)) zB (zJ _)) (pw_and1 (zK op_eq (yA ix_tup (pv 2) zB (fun _ _ => rfl)) zI (zJ _)))))) (zF (zR (i := 3) sc_g.nd rfl (Or.inl rfl) (yD (zV op_le zB (yA ix_tup (pv 2) zB (fun _ _ => rfl)) (zJ _)) (yD (zV op_lt (yA ix_tup (pv 2) zB (fun _ _ => rfl)) (zH op_mul zB (pv 1)) (zJ _)) (yD (zV op_le zB (yA ix_tup (pv 2) zB (fun _ _ => rfl)) (zJ _)) (yX (zV op_lt (yA ix_tup (pv 2) zB (fun _ _ => rfl)) (zH op_mul zB (pv 1)) (zJ _)))))))) pss_nil) (zD (zW (zK op_eq (pv 1) zB (zJ _)) (zF (zR (i := 3) sc_g.nd rfl (Or.inl rfl) (zV (op_eqG hr.units) (pv 2) (yC (zA zI pa_nil)) (zJ _)))) pss_nil) (zF (zW (jW (pt_val (pv 3))) (zF (zN xN)) pss_nil)))))))) (zF (zN (zV op_gt (zM call_len rfl bi.len bt_len (zA (pv 0) pa_nil)) zB (zJ _))))), ?_⟩
 have bad : ∀ k, k < rows.length -> (!decide (rows.getD k (.a "") ∈ rows.take k) && yJ (rows.getD k (.a "")) k) = false -> jB rows = false := fun k hk h => by
   unfold jB
   rw [Bool.and_eq_false_iff]
   left
   rw [List.all_eq_false]
   exact ⟨k, List.mem_range.mpr hk, by rw [h]; decide⟩
 refine zY (fun σ H' => ∃ (o1 o2 o3 : Option V), Same H H' /\ ((List.range rows.length).all fun k => !decide (rows.getD k (.a "") ∈ rows.take k) && yJ (rows.getD k (.a "")) k) = true /\ σ = [some (V.ref p), o1, o2, o3]) (fun N hN => ?_) (fun σ H' h => ?_)
 · simp! []
   refine ⟨us.length, .inl ⟨_, SqL.of hp, rfl⟩, by omega, by omega, ?_⟩
   refine fw_range (n := us.length) (fun k σ H' => ∃ (o1 o2 o3 : Option V), Same H H' /\ ((List.range k).all fun k => !decide (rows.getD k (.a "") ∈ rows.take k) && yJ (rows.getD k (.a "")) k) = true /\ σ = [some (V.ref p), o1, o2, o3]) ⟨_, _, _, Same.refl _, rfl, rfl⟩ (fun k σ H' hk h => ?_) (fun σ H' h => ?_)
   · obtain ⟨o1, o2, o3, s1, hall, rfl⟩ := h
     have hk2 : k < rows.length := by omega
     obtain ⟨v, hv, hvd⟩ := DAts.get (d := dRx rows[k]) hus (by rw [List.getElem?_map, List.getElem?_eq_getElem hk2]; rfl)
     have er : rows.getD k (.a "") = rows[k] := by rw [List.getD_eq_getElem?_getD, List.getElem?_eq_getElem hk2]; rfl
     have hzr := hz _ (List.getElem_mem hk2)
     have badk := bad k hk2
     rw [er] at badk
     generalize rows[k] = r at hvd er hzr badk
     obtain ⟨ra, rfl, hra⟩ := rxAt hvd
     replace hra := s1 _ _ hra
     have hp1 := s1 _ _ hp
     have ek : (0 : Int) + (k : Int) = ((k : Nat) : Int) := by omega
     rw [ek]
     refine zO fun N hN => ?_
     simp! []
     refine ⟨us, SqL.of hp1, _, yU hv, hN _ _ ?_⟩
     clear hN
     refine zO fun N hN => ?_
     simp! []
     refine ⟨us, SqL.of hp1, fun p1 hp1n => ?_⟩
     rw [qG (by omega)]
     have s2 := zE hp1n (.lst (us.take k))
     have k2 : upd H' p1 (.lst (us.take k)) p1 = some (.lst (us.take k)) := zC
     generalize upd H' p1 (.lst (us.take k)) = H1 at s2 k2 ⊢
     have s3 := s1.trans s2
     refine ⟨2, dRx r, (rows.take k).map dRx, yF (s2 _ _ hra), .inl ⟨p1, _, rfl, k2, by rw [List.map_take]; exact DAts.take k (DAts.same s3 hus)⟩, fit_rxA 1 _, by omega, _, rfl, ?_⟩
     rw [any_rx]
     by_cases hm : r ∈ rows.take k
     · rw [decide_eq_true hm, if_pos (by decide)]
       rw [decide_eq_true hm] at badk
       have := q _ s3
       rw [badk rfl] at this
       exact this
     rw [decide_eq_false hm, if_neg (by decide)]
     refine hN _ _ ?_
     clear hN
     replace hra := s2 _ _ hra
     rw [decide_eq_false hm, Bool.not_false, Bool.true_and] at badk
     refine zY (fun σ H' => H' = H1 /\ σ = [some (V.ref p), some (V.int k), some (V.ref ra), some (V.bl (g1 r k))]) (fun N hN => ?_) (fun σ H3 h => ?_)
     · simp! []
       have fin : ∀ b, b = g1 r k -> N [some (V.ref p), some (V.int k), some (V.ref ra), some (V.bl b)] H1 := fun b hb => hN _ _ ⟨rfl, by rw [hb]⟩
       by_cases c : 0 < k
       case neg =>
         rw [if_neg (by omega)]
         exact fin _ (by unfold g1; rw [decide_eq_false c, Bool.false_and])
       rw [if_pos (by omega)]
       cases r with
       | a w =>
         have hra : H1 ra = some (.tup [.str w]) := hra
         refine ⟨1, .inr ⟨_, SqT.of hra, rfl⟩, rfl, ?_⟩
         rw [if_neg (by omega)]
         exact fin _ (by simp [g1])
       | b w x =>
         have hra : H1 ra = some (.tup [.str w, .str x]) := hra
         refine ⟨2, .inr ⟨_, SqT.of hra, rfl⟩, rfl, ?_⟩
         rw [if_pos (by omega)]
         refine ⟨_, SqT.of hra, _, at0, rfl, ?_⟩
         by_cases hw : w = "name"
         · rw [if_pos (congrArg V.str hw)]
           exact ⟨_, SqT.of hra, _, at1, x, rfl, hzr, fin _ (by simp [g1, c, hw])⟩
         · rw [if_neg (fun e => hw (V.str.inj e))]
           exact fin _ (by simp [g1, hw])
       | c w i j =>
         have hra : H1 ra = some (.tup [.str w, .int i, .int j]) := hra
         refine ⟨3, .inr ⟨_, SqT.of hra, rfl⟩, rfl, ?_⟩
         rw [if_neg (by omega)]
         exact fin _ (by simp [g1])
     obtain ⟨rfl, rfl⟩ := h
     refine zY (fun σ H' => H' = H3 /\ σ = [some (V.ref p), some (V.int k), some (V.ref ra), some (V.bl (g2 r k))]) (fun N hN => ?_) (fun σ H4 h => ?_)
     · simp! []
       have fin : ∀ b, b = g2 r k -> N [some (V.ref p), some (V.int k), some (V.ref ra), some (V.bl b)] H3 := fun b hb => hN _ _ ⟨rfl, by rw [hb]⟩
       by_cases c : 0 < k
       case neg =>
         rw [if_neg (by omega)]
         exact fin _ (by unfold g1 g2; rw [decide_eq_false c, Bool.false_and, Bool.false_and])
       rw [if_pos (by omega)]
       cases r with
       | a w =>
         have hra : H3 ra = some (.tup [.str w]) := hra
         refine ⟨1, .inr ⟨_, SqT.of hra, rfl⟩, rfl, ?_⟩
         rw [if_neg (by omega)]
         exact fin _ (by simp [g1, g2, yG])
       | b w x =>
         have hra : H3 ra = some (.tup [.str w, .str x]) := hra
         refine ⟨2, .inr ⟨_, SqT.of hra, rfl⟩, rfl, ?_⟩
         rw [if_neg (by omega)]
         exact fin _ (by simp [g1, g2, yG])
       | c w i j =>
         have hra : H3 ra = some (.tup [.str w, .int i, .int j]) := hra
         have at2 : ∀ {a b c : V}, atI [a, b, c] 2 = some c := yU (j := 2) rfl
         refine ⟨3, .inr ⟨_, SqT.of hra, rfl⟩, rfl, ?_⟩
         rw [if_pos (by omega)]
         refine ⟨_, SqT.of hra, _, at0, rfl, ?_⟩
         by_cases hw : w = "both"
         case neg =>
           rw [if_neg (fun e => hw (V.str.inj e))]
           exact fin _ (by simp [g1, g2, yG, hw])
         rw [if_pos (congrArg V.str hw)]
         refine ⟨_, SqT.of hra, _, at1, _, rfl, ?_⟩
         by_cases h1 : 0 <= i
         case neg =>
           rw [if_neg h1]
           exact fin _ (by simp [g2, yG, h1])
         rw [if_pos h1]
         refine ⟨_, SqT.of hra, _, at1, .inl ⟨by decide, by decide⟩, _, rfl, ?_⟩
         by_cases h2 : i < 2 * (k : Int)
         case neg =>
           rw [if_neg h2]
           exact fin _ (by simp [g2, yG, h2])
         rw [if_pos h2]
         refine ⟨_, SqT.of hra, _, at2, _, rfl, ?_⟩
         by_cases h3 : 0 <= j
         case neg =>
           rw [if_neg h3]
           exact fin _ (by simp [g2, yG, h3])
         rw [if_pos h3]
         exact ⟨_, SqT.of hra, _, at2, .inl ⟨by decide, by decide⟩, _, rfl, fin _ (by simp [g2, yG, h1, h2, h3, c, hw])⟩
     obtain ⟨rfl, rfl⟩ := h
     refine zY (fun σ H' => Same H4 H' /\ σ = [some (V.ref p), some (V.int k), some (V.ref ra), some (V.bl (yJ r k))]) (fun N hN => ?_) (fun σ H5 h => ?_)
     · simp! []
       refine ⟨rfl, ?_⟩
       by_cases c : k = 0
       · rw [if_pos (by omega)]
         refine ⟨zQ (by simp), fun p2 hp2 => ⟨2, dRx r, dRx (.a "none"), yF (zE hp2 _ _ _ hra), yF (r := .a "none") zC, fit_rx 2 r, by omega, hN _ _ ⟨zE hp2 _, ?_⟩⟩⟩
         rw [deq_rx]
         unfold yJ
         rw [if_pos c]
       · rw [if_neg (by omega)]
         refine hN _ _ ⟨Same.refl _, ?_⟩
         have : g2 r k = yJ r k := by
           unfold g2 yJ
           rw [if_neg c, decide_eq_true (by omega), Bool.true_and]
         rw [this]
     obtain ⟨s5, rfl⟩ := h
     simp! []
     have s6 := s3.trans s5
     cases hg : yJ r k with
     | false =>
       rw [if_pos rfl]
       have := q _ s6
       rw [badk hg] at this
       exact this
     | true =>
       rw [if_neg (by decide)]
       refine ⟨s6, ?_, _, rfl⟩
       rw [List.range_succ, List.all_append, hall, Bool.true_and, List.all_cons, List.all_nil, er, hg, decide_eq_false hm]
       rfl
   · obtain ⟨o1, o2, o3, s1, hall, rfl⟩ := h
     exact hN _ _ ⟨_, _, _, s1, by rw [← hul]; exact hall, rfl⟩
 · obtain ⟨o1, o2, o3, s1, hall, rfl⟩ := h
   simp! []
   refine ⟨us.length, .inl ⟨_, SqL.of (s1 _ _ hp), rfl⟩, ?_⟩
   have e : jB rows = decide ((0 : Int) < (us.length : Int)) := by
     unfold jB
     rw [hall, Bool.true_and, hul]
     rw [Bool.eq_iff_iff, decide_eq_true_eq, decide_eq_true_eq]
     omega
   rw [← e]
   exact q _ s1
end
abbrev s_m : Stmt := top 19
theorem sc_m : FnScope ["script", "rows", "way", "at", "cell", "handed", "found"] ["script"] (zG s_m) := ⟨rfl, rfl, rfl, by decide +kernel, rfl, by decide +kernel, by decide +kernel⟩
theorem nodup_take (l : List Rx) : l.Nodup ↔ ∀ k (h : k < l.length), l[k] ∉ l.take k := by
 unfold List.Nodup
 rw [List.pairwise_iff_getElem]
 constructor
 · intro h k hk hm
   obtain ⟨i, hi, e⟩ := List.getElem_of_mem hm
   rw [List.length_take] at hi
   rw [List.getElem_take] at e
   exact h i k (by omega) hk (by omega) e
 · intro h i j hi hj hij e
   apply h j hj
   rw [← e]
   have : i < (l.take j).length := by rw [List.length_take]; omega
   have e2 : (l.take j)[i] = l[i] := List.getElem_take
   rw [← e2]
   exact List.getElem_mem this
theorem good_sheet (rows : List Rx) : jB rows = xC rows := by
 have gD : ∀ k (h : k < rows.length), rows.getD k (.a "") = rows[k] := fun k h => by rw [List.getD_eq_getElem?_getD, List.getElem?_eq_getElem h]; rfl
 rw [Bool.eq_iff_iff]
 unfold jB xC
 rw [Bool.and_eq_true, Bool.and_eq_true, Bool.and_eq_true, decide_eq_true_eq, decide_eq_true_eq, decide_eq_true_eq, List.all_eq_true, nodup_take]
 have hro : (yB rows rows.length).all id = true ↔ ∀ k (h : k < rows.length), 0 < k -> yG rows[k] k = true := by
   unfold yB
   rw [List.all_eq_true]
   constructor
   · intro h k hk h0
     have := h (yG rows[k] k) (List.mem_map.mpr ⟨k, List.mem_filter.mpr ⟨List.mem_range.mpr hk, by simpa using h0⟩, by rw [gD k hk]⟩)
     exact this
   · intro h b hb
     obtain ⟨k, hk, rfl⟩ := List.mem_map.mp hb
     obtain ⟨h1, h2⟩ := List.mem_filter.mp hk
     have h1 := List.mem_range.mp h1
     rw [gD k h1]
     exact h k h1 (by simpa using h2)
 rw [hro]
 constructor
 · rintro ⟨h, h0⟩
   have each : ∀ k (hk : k < rows.length), rows[k] ∉ rows.take k /\ yJ rows[k] k = true := fun k hk => by
     have := h k (List.mem_range.mpr hk)
     rw [gD k hk, Bool.and_eq_true] at this
     exact ⟨by simpa using this.1, this.2⟩
   refine ⟨?_, fun k hk k0 => ?_, fun k hk => (each k hk).1⟩
   · have := (each 0 h0).2
     unfold yJ at this
     rw [if_pos rfl, decide_eq_true_eq] at this
     cases rows with
     | nil => cases h0
     | cons r rows => rw [show (r :: rows)[0] = r from rfl] at this; rw [this]; rfl
   · have := (each k hk).2
     unfold yJ at this
     rw [if_neg (by omega)] at this
     exact this
 · rintro ⟨h1, h2, h3⟩
   have h0 : 0 < rows.length := by
     cases rows with
     | nil => cases h1
     | cons r rows => simp
   refine ⟨fun k hk => ?_, h0⟩
   have hk := List.mem_range.mp hk
   rw [gD k hk, Bool.and_eq_true]
   refine ⟨by simpa using h3 k hk, ?_⟩
   unfold yJ
   by_cases c : k = 0
   · rw [if_pos c, decide_eq_true_eq]
     subst c
     cases rows with
     | nil => cases h1
     | cons r rows =>
       show r = _
       have h1 : [r] = [Rx.a "none"] := h1
       cases h1
       rfl
   · rw [if_neg c]
     exact h2 k hk (by omega)
theorem ixN_nat {n p : Nat} (h : p < n) : ixN n (p : Int) = some p := by
 unfold ixN
 rw [if_pos (by omega), if_pos (by omega), Int.toNat_natCast]
theorem rxs_set {H : Hp} {r : Rx} {v : V} (h1 : DAt H (dRx r) v) : ∀ {rows : List Rx} {us : List V} (k : Nat), DAts H (rows.map dRx) us -> DAts H ((rows.set k r).map dRx) (us.set k v)
 | [], us, k, h => by
   have h : us = [] := h
   subst h
   exact rfl
 | x :: rows, us, 0, h => by
   obtain ⟨y, us', rfl, _, h2⟩ := h
   exact ⟨v, us', rfl, h1, h2⟩
 | x :: rows, us, k + 1, h => by
   obtain ⟨y, us', rfl, h0, h2⟩ := h
   exact ⟨y, us'.set k v, rfl, h0, rxs_set h1 k h2⟩
def spLaw (K : PySem.W.Frag) : Sp := fun vs H Q _ => ∃ (a : Addr) (ns : List Int), vs = [.ref a] /\ SqL K H a (ns.map V.int) /\ ns.length <= 63 /\ ∀ H', Q (.bl true) H'
theorem p1012 : (0 : Int) < 10 ^ Int.toNat 12 := by show (0 : Int) < 10 ^ 12; simp
theorem p1018 : (0 : Int) < 10 ^ Int.toNat 18 := by show (0 : Int) < 10 ^ 18; simp
section
variable {P : Program} {w : World} {K : PySem.W.Frag} {mg : Str -> Option Value} {base : Heap} {f : Addr} {fd : FuncData}
theorem ok_law (bi : Bi mg) (h_c : Has P w K mg base 1 "_law_cell_at" ["script", "k"] (spCell K)) (h_e : Has P w K mg base 2 "_law_sheet" ["cells"] spSh) (h_f : Has P w K mg base 2 "_law_other" ["rows", "at", "way", "cell"] spOth) (h_g : Has P w K mg base 2 "_law_good" ["rows"] spGood) (h_j : Has P w K mg base 4 "is_sheet" ["rows"] spSheet)
   (F : Fun K "law" "law" s_m f fd) : FnOk P w K mg base CX0 65 f fd ["script"] (spLaw K) := by
 refine F.ok sc_m (fun vs H Q E h => ?_) (fun cdv A outer s H vs Q E hr h => ?_)
 · obtain ⟨a, ns, rfl, _⟩ := h
   rfl
 obtain ⟨a, ns, rfl, hS, hl, q⟩ := h
 refine ⟨_, (zD (zR (i := 1) sc_m.nd rfl (Or.inl rfl) (zT h_e (hr.mono (by omega)) rfl (zA (jY ["cell"] [] [] (pi_list (yP sl_list (pv 0) (yS zB) (yS zB))) (fun _ _ _ _ nd => yT (i := 0) nd rfl (Or.inl rfl)) (fun _ _ _ _ => pif_nil) (fun _ _ _ _ => (zH op_mod (pv 0) (zH op_pow zB zB)))) pa_nil))) (zD (zR (i := 2) sc_m.nd rfl (Or.inl rfl) (zH op_mod (zT h_c (hr.mono (by omega)) rfl (zA (pv 0) (zA zB pa_nil))) zB)) (zD (zR (i := 3) sc_m.nd rfl (Or.inl rfl) (zH op_mod (zT h_c (hr.mono (by omega)) rfl (zA (pv 0) (zA zB pa_nil))) (zM call_len rfl bi.len bt_len (zA (pv 1) pa_nil)))) (zD (zR (i := 4) sc_m.nd rfl (Or.inl rfl) (zH op_mod (zT h_c (hr.mono (by omega)) rfl (zA (pv 0) (zA zB pa_nil))) (zH op_pow zB zB))) (zD (zW (zK op_lt (pv 2) zB (zJ _)) (zF (ps_asg (zT h_f (hr.mono (by omega)) rfl (zA (pv 1) (zA (pv 3) (zA (pv 2) (zA (pv 4) pa_nil))))) (pg_sub (pv 1) (pv 3) set_list))) pss_nil) (zD (zW (zK op_eq (pv 2) zB (zJ _)) (zF (zR (i := 1) sc_m.nd rfl (Or.inl rfl) (zH op_cat (yP sl_list (pv 1) po_none (yS (pv 3))) (yP sl_list (pv 1) (yS (zH op_add (pv 3) zB)) po_none)))) pss_nil) (zD (zW (zK op_eq (pv 2) zB (zJ _)) (zF (zR (i := 1) sc_m.nd rfl (Or.inl rfl) (zH op_cat (zH op_cat (yP sl_list (pv 1) po_none (yS (pv 3))) (yY (zA (yA ix_list (pv 1) (zH op_mod (pv 4) (zM call_len rfl bi.len bt_len (zA (pv 1) pa_nil))) (fun _ _ => rfl)) pa_nil))) (yP sl_list (pv 1) (yS (pv 3)) po_none)))) pss_nil) (zD (zW (PW.pt (pw_and (zK op_eq (pv 2) zB (zJ _)) (pw_and1 (zK op_eq (zH op_mod (pv 4) zB) zB (zJ _))))) (zF (zR (i := 1) sc_m.nd rfl (Or.inl rfl) (yY pa_nil))) pss_nil) (zD (zR (i := 5) sc_m.nd rfl (Or.inl rfl) (jK call_list_of rfl bi.list bt_list (zA (pv 1) pa_nil))) (zD (zR (i := 6) sc_m.nd rfl (Or.inl rfl) (zT h_j (hr.mono (by omega)) rfl (zA (pv 5) pa_nil))) (zF (zN (yD (zM (xA (T := "bool")) rfl bi.isinstance bt_isinstance (zA (pv 6) (zA (pe_ty bi.bool bt_bool rfl) pa_nil))) (yD (zV op_eq (pv 6) (zT h_g (hr.mono (by omega)) rfl (zA (pv 1) pa_nil)) (zJ _)) (yX (zV (op_eqG hr.units) (pv 5) (pv 1) (zJ _))))))))))))))))), ?_⟩
 refine zO fun N hN => ?_
 simp! []
 have hcl := cutI_len ns (some 3) (some 63)
 refine ⟨_, hS, fun p0 hp0 => ?_⟩
 rw [cut_ints]
 generalize cutI ns (some 3) (some 63) = cs at hcl
 have g0 := zE hp0 (.lst (cs.map V.int))
 have k0 : upd H p0 (.lst (cs.map V.int)) p0 = some (.lst (cs.map V.int)) := zC
 generalize upd H p0 (.lst (cs.map V.int)) = H1 at g0 k0 ⊢
 refine ⟨⟨_, SqL.of k0⟩, ?_⟩
 refine lc_list (xs := cs.map V.int) (fun i ys σ H2 => H2 = H1 /\ ys = ((cs.take i).map fun c => c % 10 ^ Int.toNat 18).map V.int /\ ∃ o, σ = [o]) ⟨rfl, rfl, _, rfl⟩ (zQ (by rw [List.length_map]; omega)) (fun i ys σ H2 e => ?_) (fun i ys σ H2 e => by rw [e.1]; exact SqL.of k0) (fun i x ys σ H2 C hx e hC => ?_) (fun ys σ H2 e p1 hp1 => ?_)
 · rw [e.2.1, List.length_map, List.length_map, List.length_take]
   omega
 · obtain ⟨rfl, rfl, o, rfl⟩ := e
   rw [List.getElem?_map] at hx
   obtain ⟨c, hc, rfl⟩ := Option.map_eq_some_iff.mp hx
   simp! []
   refine ⟨⟨by decide, by decide, by decide⟩, p1018, hC _ _ _ ⟨rfl, ?_, _, rfl⟩⟩
   obtain ⟨hi, e⟩ := List.getElem?_eq_some_iff.mp hc
   rw [List.take_succ_eq_append_getElem hi, e, List.map_append, List.map_append]
   rfl
 obtain ⟨rfl, rfl, o, rfl⟩ := e
 rw [List.length_map, List.take_of_length_le (Nat.le_refl _)]
 have g1 := g0.trans (zE hp1 (.lst ((cs.map fun c => c % 10 ^ Int.toNat 18).map V.int)))
 have k1 : upd H2 p1 (.lst ((cs.map fun c => c % 10 ^ Int.toNat 18).map V.int)) p1 = some (.lst ((cs.map fun c => c % 10 ^ Int.toNat 18).map V.int)) := zC
 generalize upd H2 p1 (.lst ((cs.map fun c => c % 10 ^ Int.toNat 18).map V.int)) = H3 at g1 k1 ⊢
 refine ⟨p1, _, rfl, k1, by rw [List.length_map]; omega, fun p us rows H4 s4 hpn hp hus r1 r64 hz => hN _ _ ?_⟩
 clear hN
 have hS4 := Same.seq (g1.trans s4) hS
 have hul := yZ hus
 clear k1 g1 k0 g0 hp0 hp1 hpn s4
 refine zO fun N hN => ?_
 simp! []
 refine ⟨a, ns, 0, rfl, hS4, _, rfl, by decide, hN _ _ ?_⟩
 clear hN
 generalize ns.getD 0 0 % 16 = wy
 refine zO fun N hN => ?_
 simp! []
 refine ⟨a, ns, 1, rfl, hS4, us.length, .inl ⟨_, SqL.of hp, rfl⟩, _, rfl, by omega, hN _ _ ?_⟩
 clear hN
 obtain ⟨k, hk⟩ : ∃ k : Nat, ns.getD 1 0 % (us.length : Int) = (k : Int) := ⟨_, (Int.toNat_of_nonneg (Int.emod_nonneg _ (by omega))).symm⟩
 have hkl : k < rows.length := by
   have := Int.emod_lt_of_pos (ns.getD 1 0) (show (0 : Int) < (us.length : Int) by omega)
   omega
 rw [hk]
 refine zO fun N hN => ?_
 simp! []
 refine ⟨a, ns, 2, rfl, hS4, ⟨by decide, by decide, by decide⟩, _, rfl, p1012, hN _ _ ?_⟩
 clear hN
 have c0 := Int.emod_nonneg (ns.getD 2 0) (Int.ne_of_gt p1012)
 have c1 := Int.emod_lt_of_pos (ns.getD 2 0) p1012
 have e12 : (10 : Int) ^ Int.toNat 12 = 1000000000000 := by show (10 : Int) ^ 12 = _; simp
 rw [e12] at c0 c1 ⊢
 generalize ns.getD 2 0 % 1000000000000 = c at c0 c1 ⊢
 clear hS4 hk hcl
 refine zY (fun σ H' => ∃ (us : List V) (rows : List Rx), H' p = some (.lst us) /\ DAts H' (rows.map dRx) us /\ k < rows.length /\ rows.length <= 64 /\ (∀ r ∈ rows, SzR r) /\ σ = [some (V.ref a), some (V.ref p), some (V.int wy), some (V.int k), some (V.int c), none, none]) (fun N hN => ?_) (fun σ H5 h => ?_)
 · simp! []
   split
   · refine ⟨p, us, rows, k, wy, c, rfl, hp, hus, r1, hz, by omega, c0, c1, fun v r H5 s5 hv hzr => ?_⟩
     simp! [gSub, rSetL]
     have hp5 := s5 _ _ hp
     refine ⟨us, hp5, k, ixN_nat (by omega), hN _ _ ⟨us.set k v, rows.set k r, zC, xV (tup_upd hp5) (rxs_set hv k (DAts.same s5 hus)), by rw [List.length_set]; exact hkl, by rw [List.length_set]; exact r64, fun r' hr' => ?_, rfl⟩⟩
     rcases List.mem_or_eq_of_mem_set hr' with h | rfl
     · exact hz r' h
     · exact hzr
   · exact hN _ _ ⟨us, rows, hp, hus, hkl, r64, hz, rfl⟩
 clear hul hus hp r1 r64 hz hkl
 obtain ⟨us, rows, hp, hus, hkl, r64, hz, rfl⟩ := h
 have hul := yZ hus
 refine zY (fun σ H' => ∃ (p : Addr) (us : List V) (rows : List Rx), H' p = some (.lst us) /\ DAts H' (rows.map dRx) us /\ (wy ≠ 9 -> k < rows.length) /\ rows.length <= 64 /\ (∀ r ∈ rows, SzR r) /\ σ = [some (V.ref a), some (V.ref p), some (V.int wy), some (V.int k), some (V.int c), none, none]) (fun N hN => ?_) (fun σ H6 h => ?_)
 · simp! []
   refine ⟨rfl, ?_⟩
   by_cases c9 : wy = 9
   case neg =>
     rw [if_neg c9]
     exact hN _ _ ⟨p, us, rows, hp, hus, fun _ => hkl, r64, hz, rfl⟩
   rw [if_pos c9]
   refine ⟨us, SqL.of hp, fun p1 hp1 => ?_⟩
   rw [qG (by omega)]
   have a1 := zE hp1 (.lst (us.take k))
   have b1 : upd H5 p1 (.lst (us.take k)) p1 = some (.lst (us.take k)) := zC
   generalize upd H5 p1 (.lst (us.take k)) = J1 at a1 b1 ⊢
   refine ⟨us, SqL.of (a1 _ _ hp), fun p2 hp2 => ?_⟩
   rw [show ((k : Int) + 1) = ((k + 1 : Nat) : Int) from rfl, jQ (by omega)]
   have a2 := zE hp2 (.lst (us.drop (k + 1)))
   have b2 : upd J1 p2 (.lst (us.drop (k + 1))) p2 = some (.lst (us.drop (k + 1))) := zC
   generalize upd J1 p2 (.lst (us.drop (k + 1))) = J2 at a2 b2 ⊢
   refine ⟨_, a2 _ _ b1, _, b2, zQ (by simp; omega), fun p3 hp3 => hN _ _ ⟨p3, us.take k ++ us.drop (k + 1), rows.take k ++ rows.drop (k + 1), zC, ?_, fun h => absurd c9 h, by simp; omega, fun r hr => ?_, rfl⟩⟩
   · have a3 := a1.trans (a2.trans (zE hp3 (.lst (us.take k ++ us.drop (k + 1)))))
     rw [List.map_append, List.map_take, List.map_drop]
     exact DAts.append (DAts.take k (DAts.same a3 hus)) (DAts.drop (k + 1) (DAts.same a3 hus))
   · rcases List.mem_append.mp hr with h | h
     · exact hz r (List.mem_of_mem_take h)
     · exact hz r (List.mem_of_mem_drop h)
 clear hul hus hp r64 hz hkl
 obtain ⟨p, us, rows, hp, hus, hkl, r64, hz, rfl⟩ := h
 have hul := yZ hus
 refine zY (fun σ H' => ∃ (p : Addr) (us : List V) (rows : List Rx), H' p = some (.lst us) /\ DAts H' (rows.map dRx) us /\ rows.length <= 65 /\ (∀ r ∈ rows, SzR r) /\ σ = [some (V.ref a), some (V.ref p), some (V.int wy), some (V.int k), some (V.int c), none, none]) (fun N hN => ?_) (fun σ H7 h => ?_)
 · simp! []
   refine ⟨rfl, ?_⟩
   by_cases c9 : wy = 10
   case neg =>
     rw [if_neg c9]
     exact hN _ _ ⟨p, us, rows, hp, hus, by omega, hz, rfl⟩
   rw [if_pos c9]
   have hkl := hkl (by omega)
   refine ⟨us, SqL.of hp, fun p1 hp1 => ?_⟩
   rw [qG (by omega)]
   have a1 := zE hp1 (.lst (us.take k))
   have b1 : upd H6 p1 (.lst (us.take k)) p1 = some (.lst (us.take k)) := zC
   generalize upd H6 p1 (.lst (us.take k)) = J1 at a1 b1 ⊢
   obtain ⟨v, hv, hat⟩ := xK us (by omega) c
   obtain ⟨i, hi, e⟩ := List.getElem_of_mem hv
   obtain ⟨r, h1, h2⟩ := qC hus (show us[i]? = some v by rw [List.getElem?_eq_getElem hi, e])
   have hzr := hz r (List.mem_of_getElem? h1)
   refine ⟨us.length, .inl ⟨_, SqL.of (a1 _ _ hp), rfl⟩, by omega, us, SqL.of (a1 _ _ hp), v, hat, zQ (by simp), fun p2 hp2 => ?_⟩
   have a2 := zE hp2 (.lst [v])
   have b2 : upd J1 p2 (.lst [v]) p2 = some (.lst [v]) := zC
   generalize upd J1 p2 (.lst [v]) = J2 at a2 b2 ⊢
   refine ⟨_, a2 _ _ b1, _, b2, zQ (by simp; omega), fun p3 hp3 => ?_⟩
   have a3 := zE hp3 (.lst (us.take k ++ [v]))
   have b3 : upd J2 p3 (.lst (us.take k ++ [v])) p3 = some (.lst (us.take k ++ [v])) := zC
   generalize upd J2 p3 (.lst (us.take k ++ [v])) = J3 at a3 b3 ⊢
   have c3 := a1.trans (a2.trans a3)
   refine ⟨us, SqL.of (c3 _ _ hp), fun p4 hp4 => ?_⟩
   rw [jQ (by omega)]
   have a4 := zE hp4 (.lst (us.drop k))
   have b4 : upd J3 p4 (.lst (us.drop k)) p4 = some (.lst (us.drop k)) := zC
   generalize upd J3 p4 (.lst (us.drop k)) = J4 at a4 b4 ⊢
   refine ⟨_, a4 _ _ b3, _, b4, zQ (by simp; omega), fun p5 hp5 => hN _ _ ⟨p5, us.take k ++ [v] ++ us.drop k, rows.take k ++ [r] ++ rows.drop k, zC, ?_, by simp; omega, fun r' hr' => ?_, rfl⟩⟩
   · have a5 := c3.trans (a4.trans (zE hp5 (.lst (us.take k ++ [v] ++ us.drop k))))
     rw [List.map_append, List.map_append, List.map_take, List.map_drop]
     exact DAts.append (DAts.append (DAts.take k (DAts.same a5 hus)) (DAts.one (DAt.same a5 h2))) (DAts.drop k (DAts.same a5 hus))
   · rcases List.mem_append.mp hr' with h | h
     · rcases List.mem_append.mp h with h | h
       · exact hz r' (List.mem_of_mem_take h)
       · rw [List.mem_singleton.mp h]; exact hzr
     · exact hz r' (List.mem_of_mem_drop h)
 clear hul hus hp r64 hz hkl
 obtain ⟨p, us, rows, hp, hus, r65, hz, rfl⟩ := h
 refine zY (fun σ H' => ∃ (p : Addr) (us : List V) (rows : List Rx), H' p = some (.lst us) /\ DAts H' (rows.map dRx) us /\ rows.length <= 65 /\ (∀ r ∈ rows, SzR r) /\ σ = [some (V.ref a), some (V.ref p), some (V.int wy), some (V.int k), some (V.int c), none, none]) (fun N hN => ?_) (fun σ H8 h => ?_)
 · simp! []
   refine ⟨rfl, ?_⟩
   have same := hN _ _ ⟨p, us, rows, hp, hus, r65, hz, rfl⟩
   split
   · refine ⟨by decide, rfl, ?_⟩
     split
     · exact ⟨Nat.zero_le _, fun p1 hp1 => hN _ _ ⟨p1, [], [], zC, rfl, by simp, (fun r hr => by cases hr), rfl⟩⟩
     · exact same
   · exact same
 clear hus hp r65 hz
 obtain ⟨p, us, rows, hp, hus, r65, hz, rfl⟩ := h
 have hul := yZ hus
 refine zO fun N hN => ?_
 simp! []
 refine ⟨us, .inl (SqL.of hp), fun p2 hp2 => hN _ _ ?_⟩
 clear hN
 have s2 := zE hp2 (.lst us)
 have k2 : upd H8 p2 (.lst us) p2 = some (.lst us) := zC
 generalize upd H8 p2 (.lst us) = H9 at s2 k2 ⊢
 refine zO fun N hN => ?_
 simp! []
 refine ⟨p2, us, rows, rfl, k2, DAts.same s2 hus, by omega, hz, fun H10 s3 => hN _ _ ?_⟩
 clear hN
 simp! []
 have s4 := s2.trans s3
 refine ⟨_, .bl _, true, jA, ?_⟩
 rw [if_pos rfl]
 refine ⟨p, us, rows, rfl, s4 _ _ hp, DAts.same s4 hus, by omega, hz, fun H11 s5 => ⟨rfl, ?_⟩⟩
 rw [good_sheet, if_pos rfl]
 have s6 := s4.trans s5
 refine ⟨2, .lst (rows.map dRx), .lst (rows.map dRx), ⟨p2, us, rfl, (s3.trans s5) _ _ k2, DAts.same s6 hus⟩, ⟨p, us, rfl, s6 _ _ hp, DAts.same s6 hus⟩, fit_rxs 1 (by omega), by omega, ?_⟩
 rw [deq_refl]
 exact q _
end
theorem ln0 {us : List Value} (h : us.length = 0) : us = [] := List.length_eq_zero_iff.mp h
theorem lnS {us : List Value} {n : Nat} (h : us.length = n + 1) : ∃ (u : Value) (r : List Value), us = u :: r /\ r.length = n := by
 cases us with
 | nil => cases h
 | cons u r => exact ⟨u, r, rfl, Nat.succ.inj h⟩
theorem ln1 {us : List Value} (h : us.length = 1) : ∃ a, us = [a] := by
 obtain ⟨a, r, rfl, g⟩ := lnS h
 cases ln0 g
 exact ⟨a, rfl⟩
theorem ln2 {us : List Value} (h : us.length = 2) : ∃ a b, us = [a, b] := by
 obtain ⟨a, r, rfl, g⟩ := lnS h
 obtain ⟨b, rfl⟩ := ln1 g
 exact ⟨a, b, rfl⟩
theorem ln3 {us : List Value} (h : us.length = 3) : ∃ a b c, us = [a, b, c] := by
 obtain ⟨a, r, rfl, g⟩ := lnS h
 obtain ⟨b, c, rfl⟩ := ln2 g
 exact ⟨a, b, c, rfl⟩
theorem ln4 {us : List Value} (h : us.length = 4) : ∃ a b c d, us = [a, b, c, d] := by
 obtain ⟨a, r, rfl, g⟩ := lnS h
 obtain ⟨b, c, d, rfl⟩ := ln3 g
 exact ⟨a, b, c, d, rfl⟩
theorem all_mk {l : PySem.W.OpenLaw} {w : World} {K : PySem.W.Frag} {h : Heap} {mg : Str -> Option Value} {fa : Addr} (X : K.In h) (G : h.Ns mainGlobals mg) (hfa : mg "law" = some (.ref fa))
   {f_k : Addr} {od_k an_k : Option Addr} {sl_k : Array (Option Value)} {oc_k kV_k dc_k pm_k cd_k ct_k : Value} (a_k : PySem.W.nsIn K mainGlobals "is_name" = some (some (.ref f_k))) (l_k : K.lookup f_k = some ⟨oc_k, od_k, .func (PySem.W.fnOf "is_name" "is_name" (zU s_k) (zS s_k) (zG s_k) .none kV_k dc_k pm_k an_k cd_k ct_k), sl_k⟩) (c_k : PySem.W.codeIn K cd_k "is_name" = true) (k_k : PySem.W.keepIn K (.ref f_k) = true)
   {f_i : Addr} {od_i an_i : Option Addr} {sl_i : Array (Option Value)} {oc_i kV_i dc_i pm_i cd_i ct_i : Value} (a_i : PySem.W.nsIn K mainGlobals "is_whole" = some (some (.ref f_i))) (l_i : K.lookup f_i = some ⟨oc_i, od_i, .func (PySem.W.fnOf "is_whole" "is_whole" (zU s_i) (zS s_i) (zG s_i) .none kV_i dc_i pm_i an_i cd_i ct_i), sl_i⟩) (c_i : PySem.W.codeIn K cd_i "is_whole" = true) (k_i : PySem.W.keepIn K (.ref f_i) = true)
   {f_h : Addr} {od_h an_h : Option Addr} {sl_h : Array (Option Value)} {oc_h kV_h dc_h pm_h cd_h ct_h : Value} (a_h : PySem.W.nsIn K mainGlobals "is_below" = some (some (.ref f_h))) (l_h : K.lookup f_h = some ⟨oc_h, od_h, .func (PySem.W.fnOf "is_below" "is_below" (zU s_h) (zS s_h) (zG s_h) .none kV_h dc_h pm_h an_h cd_h ct_h), sl_h⟩) (c_h : PySem.W.codeIn K cd_h "is_below" = true) (k_h : PySem.W.keepIn K (.ref f_h) = true)
   {f_l : Addr} {od_l an_l : Option Addr} {sl_l : Array (Option Value)} {oc_l kV_l dc_l pm_l cd_l ct_l : Value} (a_l : PySem.W.nsIn K mainGlobals "is_row" = some (some (.ref f_l))) (l_l : K.lookup f_l = some ⟨oc_l, od_l, .func (PySem.W.fnOf "is_row" "is_row" (zU s_l) (zS s_l) (zG s_l) .none kV_l dc_l pm_l an_l cd_l ct_l), sl_l⟩) (c_l : PySem.W.codeIn K cd_l "is_row" = true) (k_l : PySem.W.keepIn K (.ref f_l) = true)
   {f_j : Addr} {od_j an_j : Option Addr} {sl_j : Array (Option Value)} {oc_j kV_j dc_j pm_j cd_j ct_j : Value} (a_j : PySem.W.nsIn K mainGlobals "is_sheet" = some (some (.ref f_j))) (l_j : K.lookup f_j = some ⟨oc_j, od_j, .func (PySem.W.fnOf "is_sheet" "is_sheet" (zU s_j) (zS s_j) (zG s_j) .none kV_j dc_j pm_j an_j cd_j ct_j), sl_j⟩) (c_j : PySem.W.codeIn K cd_j "is_sheet" = true) (k_j : PySem.W.keepIn K (.ref f_j) = true)
   {f_c : Addr} {od_c an_c : Option Addr} {sl_c : Array (Option Value)} {oc_c kV_c dc_c pm_c cd_c ct_c : Value} (a_c : PySem.W.nsIn K mainGlobals "_law_cell_at" = some (some (.ref f_c))) (l_c : K.lookup f_c = some ⟨oc_c, od_c, .func (PySem.W.fnOf "_law_cell_at" "_law_cell_at" (zU s_c) (zS s_c) (zG s_c) .none kV_c dc_c pm_c an_c cd_c ct_c), sl_c⟩) (c_c : PySem.W.codeIn K cd_c "_law_cell_at" = true) (k_c : PySem.W.keepIn K (.ref f_c) = true)
   {f_a : Addr} {od_a an_a : Option Addr} {sl_a : Array (Option Value)} {oc_a kV_a dc_a pm_a cd_a ct_a : Value} (a_a : PySem.W.nsIn K mainGlobals "_law_name_by" = some (some (.ref f_a))) (l_a : K.lookup f_a = some ⟨oc_a, od_a, .func (PySem.W.fnOf "_law_name_by" "_law_name_by" (zU s_a) (zS s_a) (zG s_a) .none kV_a dc_a pm_a an_a cd_a ct_a), sl_a⟩) (c_a : PySem.W.codeIn K cd_a "_law_name_by" = true) (k_a : PySem.W.keepIn K (.ref f_a) = true)
   {f_d : Addr} {od_d an_d : Option Addr} {sl_d : Array (Option Value)} {oc_d kV_d dc_d pm_d cd_d ct_d : Value} (a_d : PySem.W.nsIn K mainGlobals "_law_is_name" = some (some (.ref f_d))) (l_d : K.lookup f_d = some ⟨oc_d, od_d, .func (PySem.W.fnOf "_law_is_name" "_law_is_name" (zU s_d) (zS s_d) (zG s_d) .none kV_d dc_d pm_d an_d cd_d ct_d), sl_d⟩) (c_d : PySem.W.codeIn K cd_d "_law_is_name" = true) (k_d : PySem.W.keepIn K (.ref f_d) = true)
   {f_e : Addr} {od_e an_e : Option Addr} {sl_e : Array (Option Value)} {oc_e kV_e dc_e pm_e cd_e ct_e : Value} (a_e : PySem.W.nsIn K mainGlobals "_law_sheet" = some (some (.ref f_e))) (l_e : K.lookup f_e = some ⟨oc_e, od_e, .func (PySem.W.fnOf "_law_sheet" "_law_sheet" (zU s_e) (zS s_e) (zG s_e) .none kV_e dc_e pm_e an_e cd_e ct_e), sl_e⟩) (c_e : PySem.W.codeIn K cd_e "_law_sheet" = true) (k_e : PySem.W.keepIn K (.ref f_e) = true)
   {f_b : Addr} {od_b an_b : Option Addr} {sl_b : Array (Option Value)} {oc_b kV_b dc_b pm_b cd_b ct_b : Value} (a_b : PySem.W.nsIn K mainGlobals "_law_bad_name" = some (some (.ref f_b))) (l_b : K.lookup f_b = some ⟨oc_b, od_b, .func (PySem.W.fnOf "_law_bad_name" "_law_bad_name" (zU s_b) (zS s_b) (zG s_b) .none kV_b dc_b pm_b an_b cd_b ct_b), sl_b⟩) (c_b : PySem.W.codeIn K cd_b "_law_bad_name" = true) (k_b : PySem.W.keepIn K (.ref f_b) = true)
   {f_f : Addr} {od_f an_f : Option Addr} {sl_f : Array (Option Value)} {oc_f kV_f dc_f pm_f cd_f ct_f : Value} (a_f : PySem.W.nsIn K mainGlobals "_law_other" = some (some (.ref f_f))) (l_f : K.lookup f_f = some ⟨oc_f, od_f, .func (PySem.W.fnOf "_law_other" "_law_other" (zU s_f) (zS s_f) (zG s_f) .none kV_f dc_f pm_f an_f cd_f ct_f), sl_f⟩) (c_f : PySem.W.codeIn K cd_f "_law_other" = true) (k_f : PySem.W.keepIn K (.ref f_f) = true)
   {f_g : Addr} {od_g an_g : Option Addr} {sl_g : Array (Option Value)} {oc_g kV_g dc_g pm_g cd_g ct_g : Value} (a_g : PySem.W.nsIn K mainGlobals "_law_good" = some (some (.ref f_g))) (l_g : K.lookup f_g = some ⟨oc_g, od_g, .func (PySem.W.fnOf "_law_good" "_law_good" (zU s_g) (zS s_g) (zG s_g) .none kV_g dc_g pm_g an_g cd_g ct_g), sl_g⟩) (c_g : PySem.W.codeIn K cd_g "_law_good" = true) (k_g : PySem.W.keepIn K (.ref f_g) = true)
   {f_m : Addr} {od_m an_m : Option Addr} {sl_m : Array (Option Value)} {oc_m kV_m dc_m pm_m cd_m ct_m : Value} (a_m : PySem.W.nsIn K mainGlobals "law" = some (some (.ref f_m))) (l_m : K.lookup f_m = some ⟨oc_m, od_m, .func (PySem.W.fnOf "law" "law" (zU s_m) (zS s_m) (zG s_m) .none kV_m dc_m pm_m an_m cd_m ct_m), sl_m⟩) (c_m : PySem.W.codeIn K cd_m "law" = true) (k_m : PySem.W.keepIn K (.ref f_m) = true)
   {t_LETTERS : Tok} (g_LETTERS : PySem.W.nsIn K mainGlobals "LETTERS" = some (some (.str "abcdefghijklmnopqrstuvwxyz" t_LETTERS)))
   {t_LONGEST : Tok} (g_LONGEST_NAME : PySem.W.nsIn K mainGlobals "LONGEST_NAME" = some (some (.int 8 t_LONGEST)))
   {a_WORDS : Addr} {d_WORDS : Option Addr} {n_WORDS : Nat} {sl_WORDS : Array (Option Value)} {t_W1 t_W2 : Tok} (g_WORDS : PySem.W.nsIn K mainGlobals "WORDS" = some (some (.ref a_WORDS))) (o_WORDS : K.lookup a_WORDS = some ⟨.type "tuple", d_WORDS, .seq #[.str "none" t_W1, .str "all" t_W2] n_WORDS, sl_WORDS⟩)
   {a_NONE_ROW : Addr} {d_NONE_ROW : Option Addr} {n_NONE_ROW : Nat} {sl_NONE_ROW : Array (Option Value)} {t_N1 : Tok} (g_NONE_ROW : PySem.W.nsIn K mainGlobals "NONE_ROW" = some (some (.ref a_NONE_ROW))) (o_NONE_ROW : K.lookup a_NONE_ROW = some ⟨.type "tuple", d_NONE_ROW, .seq #[.str "none" t_N1] n_NONE_ROW, sl_NONE_ROW⟩)
    (z_enumerate : PySem.W.nsIn K mainGlobals "enumerate" = some none)
   (z_all : PySem.W.nsIn K mainGlobals "all" = some none)
   (z_bool : PySem.W.nsIn K mainGlobals "bool" = some none)
   (z_dict : PySem.W.nsIn K mainGlobals "dict" = some none)
   (z_int : PySem.W.nsIn K mainGlobals "int" = some none)
   (z_isinstance : PySem.W.nsIn K mainGlobals "isinstance" = some none)
   (z_len : PySem.W.nsIn K mainGlobals "len" = some none)
   (z_list : PySem.W.nsIn K mainGlobals "list" = some none)
   (z_max : PySem.W.nsIn K mainGlobals "max" = some none)
   (z_range : PySem.W.nsIn K mainGlobals "range" = some none)
   (z_set : PySem.W.nsIn K mainGlobals "set" = some none)
   (z_sorted : PySem.W.nsIn K mainGlobals "sorted" = some none)
   (z_str : PySem.W.nsIn K mainGlobals "str" = some none)
   (z_sum : PySem.W.nsIn K mainGlobals "sum" = some none)
   (z_tuple : PySem.W.nsIn K mainGlobals "tuple" = some none) :
   ∃ fd : FuncData, (∀ (s : Shared) (v : Value), BindsTo s fd ⟨[v], []⟩ [("script", v)]) /\ ∀ base : Heap, K.In base -> base.Ns mainGlobals mg -> FnOk l.prog w K mg base CX0 65 fa fd ["script"] (spLaw K) := by
 have e := hfa.symm.trans (PySem.W.mg_of X G a_m)
 cases e
 have F_k := yK (st := s_k) l_k c_k k_k
 have b_k := F_k.binds (ps := ["text"]) fun _ _ _ _ _ _ us hl => by obtain ⟨u0, rfl⟩ := ln1 hl; rfl
 have m_k := PySem.W.mg_of X G a_k
 have F_i := yK (st := s_i) l_i c_i k_i
 have b_i := F_i.binds (ps := ["n"]) fun _ _ _ _ _ _ us hl => by obtain ⟨u0, rfl⟩ := ln1 hl; rfl
 have m_i := PySem.W.mg_of X G a_i
 have F_h := yK (st := s_h) l_h c_h k_h
 have b_h := F_h.binds (ps := ["n", "bound"]) fun _ _ _ _ _ _ us hl => by obtain ⟨u0, u1, rfl⟩ := ln2 hl; rfl
 have m_h := PySem.W.mg_of X G a_h
 have F_l := yK (st := s_l) l_l c_l k_l
 have b_l := F_l.binds (ps := ["row", "k"]) fun _ _ _ _ _ _ us hl => by obtain ⟨u0, u1, rfl⟩ := ln2 hl; rfl
 have m_l := PySem.W.mg_of X G a_l
 have F_j := yK (st := s_j) l_j c_j k_j
 have b_j := F_j.binds (ps := ["rows"]) fun _ _ _ _ _ _ us hl => by obtain ⟨u0, rfl⟩ := ln1 hl; rfl
 have m_j := PySem.W.mg_of X G a_j
 have F_c := yK (st := s_c) l_c c_c k_c
 have b_c := F_c.binds (ps := ["script", "k"]) fun _ _ _ _ _ _ us hl => by obtain ⟨u0, u1, rfl⟩ := ln2 hl; rfl
 have m_c := PySem.W.mg_of X G a_c
 have F_a := yK (st := s_a) l_a c_a k_a
 have b_a := F_a.binds (ps := ["cell", "size"]) fun _ _ _ _ _ _ us hl => by obtain ⟨u0, u1, rfl⟩ := ln2 hl; rfl
 have m_a := PySem.W.mg_of X G a_a
 have F_d := yK (st := s_d) l_d c_d k_d
 have b_d := F_d.binds (ps := ["word"]) fun _ _ _ _ _ _ us hl => by obtain ⟨u0, rfl⟩ := ln1 hl; rfl
 have m_d := PySem.W.mg_of X G a_d
 have F_e := yK (st := s_e) l_e c_e k_e
 have b_e := F_e.binds (ps := ["cells"]) fun _ _ _ _ _ _ us hl => by obtain ⟨u0, rfl⟩ := ln1 hl; rfl
 have m_e := PySem.W.mg_of X G a_e
 have F_b := yK (st := s_b) l_b c_b k_b
 have b_b := F_b.binds (ps := ["cell"]) fun _ _ _ _ _ _ us hl => by obtain ⟨u0, rfl⟩ := ln1 hl; rfl
 have m_b := PySem.W.mg_of X G a_b
 have F_f := yK (st := s_f) l_f c_f k_f
 have b_f := F_f.binds (ps := ["rows", "at", "way", "cell"]) fun _ _ _ _ _ _ us hl => by obtain ⟨u0, u1, u2, u3, rfl⟩ := ln4 hl; rfl
 have m_f := PySem.W.mg_of X G a_f
 have F_g := yK (st := s_g) l_g c_g k_g
 have b_g := F_g.binds (ps := ["rows"]) fun _ _ _ _ _ _ us hl => by obtain ⟨u0, rfl⟩ := ln1 hl; rfl
 have m_g := PySem.W.mg_of X G a_g
 have F_m := yK (st := s_m) l_m c_m k_m
 have b_m := F_m.binds (ps := ["script"]) fun _ _ _ _ _ _ us hl => by obtain ⟨u0, rfl⟩ := ln1 hl; rfl
 have m_m := PySem.W.mg_of X G a_m
 have bi : Bi mg := ⟨PySem.W.mg_none_of X G z_len, PySem.W.mg_none_of X G z_range, PySem.W.mg_none_of X G z_isinstance, PySem.W.mg_none_of X G z_max, PySem.W.mg_none_of X G z_sum, PySem.W.mg_none_of X G z_all, PySem.W.mg_none_of X G z_tuple, PySem.W.mg_none_of X G z_list, PySem.W.mg_none_of X G z_sorted, PySem.W.mg_none_of X G z_set, PySem.W.mg_none_of X G z_int, PySem.W.mg_none_of X G z_bool, PySem.W.mg_none_of X G z_str, PySem.W.mg_none_of X G z_dict⟩
 refine ⟨PySem.W.fnOf "law" "law" (zU s_m) (zS s_m) (zG s_m) .none kV_m dc_m pm_m an_m cd_m ct_m, fun s v => .of_eq rfl, fun base _ _ => ?_⟩
 have be : mg "enumerate" = none := PySem.W.mg_none_of X G z_enumerate
 have sW : ∀ H, SqT K H a_WORDS [.str "none", .str "all"] := fun H => .inr ⟨_, _, _, o_WORDS, rfl, rfl, (by show 2 <= sizeLine; decide), .cons ⟨_, rfl⟩ (.cons ⟨_, rfl⟩ .nil)⟩
 have gW : Gc mg "WORDS" (.ref a_WORDS) := ⟨_, PySem.W.mg_of X G g_WORDS, rfl⟩
 have gL : Gc mg "LETTERS" (.str "abcdefghijklmnopqrstuvwxyz") := ⟨_, PySem.W.mg_of X G g_LETTERS, ⟨_, rfl⟩⟩
 have gN : Gc mg "NONE_ROW" (.ref a_NONE_ROW) := ⟨_, PySem.W.mg_of X G g_NONE_ROW, rfl⟩
 have sN : ∀ H, SqT K H a_NONE_ROW [.str "none"] := fun H => .inr ⟨_, _, _, o_NONE_ROW, rfl, rfl, (by show 1 <= sizeLine; decide), .cons ⟨_, rfl⟩ .nil⟩
 have h1 := yM F_k (ok_is_name (P := l.prog) (w := w) (base := base) bi gL ⟨_, PySem.W.mg_of X G g_LONGEST_NAME, ⟨_, rfl⟩⟩ gW sW F_k) b_k m_k
 have h2 := yM F_i (jZ (P := l.prog) (w := w) (base := base) bi F_i) b_i m_i
 have h3 := yM F_h (qA bi h2 F_h) b_h m_h
 have h4 := yM F_l (ok_is_row bi h1 h3 F_l) b_l m_l
 have h5 := yM F_j (ok_is_sheet bi be gN sN h4 F_j) b_j m_j
 have h6 := yM F_c (ok_cell (P := l.prog) (w := w) (base := base) bi F_c) b_c m_c
 have h7 := yM F_a (ok_name (P := l.prog) (w := w) (base := base) bi F_a) b_a m_a
 have h8 := yM F_d (xW (P := l.prog) (w := w) (base := base) bi F_d) b_d m_d
 have h9 := yM F_e (ok_sheet bi h7 F_e) b_e m_e
 have h10 := yM F_b (ok_bad (P := l.prog) (w := w) (base := base) bi F_b) b_b m_b
 have h11 := yM F_f (ok_other bi h10 F_f) b_f m_f
 have h12 := yM F_g (ok_good bi h8 F_g) b_g m_g
 exact ok_law bi h6 h9 h11 h12 h5 F_m
theorem walk {l : PySem.W.OpenLaw} {q : Program} {loose : List Str} {XP : (Str -> Option Value) -> Heap -> Prop} {YP : World -> Heap -> Prop} {d : DefRec} {K : Params -> PySem.W.Frag} (hn : l.most = some 63) (hdf : d.params.defaults = [])
   (hY : ∀ (w : World) (h : Heap), YP w h -> (K w.params).In h)
   (F : ∀ (w : World) (mg : Str -> Option Value) (fa : Addr) (h : Heap), (K w.params).In h -> h.Ns mainGlobals mg -> mg d.name = some (.ref fa) ->
     ∃ fd : FuncData, (∀ (s : Shared) (u : Value), BindsTo s fd ⟨[u], []⟩ [("script", u)]) /\ ∀ base : Heap, (K w.params).In base -> base.Ns mainGlobals mg -> FnOk l.prog w (K w.params) mg base CX0 65 fa fd ["script"] (spLaw (K w.params))) :
   PySem.W.WalkO q loose XP YP l.row.toRowW d [] (fun f vs => PySem.call f vs) :=
 L2.walk_of (n := 63) (k := 65) (x := "script") (CX := fun _ => CX0) (sp := fun w => spLaw (K w.params)) hn (by decide) hdf ⟨rfl, by decide, by decide⟩ hY F (fun _ _ a ns hl _ hS => ⟨a, ns, rfl, hS, hl, fun _ => rfl⟩) fun _ _ _ _ _ z => z
end C
open PySem PySem.W PyProof.Rows
set_option maxRecDepth 100000 in
set_option maxHeartbeats 0 in
theorem PySem.Challenge.cw_clashbook_k09_what_is_a_sheet_holds : PySem.Challenge.rw_clashbook_k09_what_is_a_sheet.Holds := by
 w_on; o_law; k_head; (case hw => w_witness2)
 k_fill
 refine C.walk (l := PySem.Challenge.rw_clashbook_k09_what_is_a_sheet) rfl rfl (fun w h Y => PySem.W.kIn_of Y) ?F
 case F =>
   intro w mg fa h KX G hmg
   refine' C.all_mk KX G hmg ?a_k ?l_k ?c_k ?k_k ?a_i ?l_i ?c_i ?k_i ?a_h ?l_h ?c_h ?k_h ?a_l ?l_l ?c_l ?k_l ?a_j ?l_j ?c_j ?k_j ?a_c ?l_c ?c_c ?k_c ?a_a ?l_a ?c_a ?k_a ?a_d ?l_d ?c_d ?k_d ?a_e ?l_e ?c_e ?k_e ?a_b ?l_b ?c_b ?k_b ?a_f ?l_f ?c_f ?k_f ?a_g ?l_g ?c_g ?k_g ?a_m ?l_m ?c_m ?k_m ?g_LETTERS ?g_LONGEST_NAME ?g_WORDS ?o_WORDS ?g_NONE_ROW ?o_NONE_ROW ?z_enumerate ?z_all ?z_bool ?z_dict ?z_int ?z_isinstance ?z_len ?z_list ?z_max ?z_range ?z_set ?z_sorted ?z_str ?z_sum ?z_tuple
   (case a_k => k_is); (case l_k => k_is); (case c_k => k_is); (case k_k => k_is)
   (case a_i => k_is); (case l_i => k_is); (case c_i => k_is); (case k_i => k_is)
   (case a_h => k_is); (case l_h => k_is); (case c_h => k_is); (case k_h => k_is)
   (case a_l => k_is); (case l_l => k_is); (case c_l => k_is); (case k_l => k_is)
   (case a_j => k_is); (case l_j => k_is); (case c_j => k_is); (case k_j => k_is)
   (case a_c => k_is); (case l_c => k_is); (case c_c => k_is); (case k_c => k_is)
   (case a_a => k_is); (case l_a => k_is); (case c_a => k_is); (case k_a => k_is)
   (case a_d => k_is); (case l_d => k_is); (case c_d => k_is); (case k_d => k_is)
   (case a_e => k_is); (case l_e => k_is); (case c_e => k_is); (case k_e => k_is)
   (case a_b => k_is); (case l_b => k_is); (case c_b => k_is); (case k_b => k_is)
   (case a_f => k_is); (case l_f => k_is); (case c_f => k_is); (case k_f => k_is)
   (case a_g => k_is); (case l_g => k_is); (case c_g => k_is); (case k_g => k_is)
   (case a_m => k_is); (case l_m => k_is); (case c_m => k_is); (case k_m => k_is)
   (case g_LETTERS => k_is); (case g_LONGEST_NAME => k_is); (case g_WORDS => k_is); (case o_WORDS => k_is)
   (case g_NONE_ROW => k_is); (case o_NONE_ROW => k_is); (case z_enumerate => k_is); (case z_all => k_is)
   (case z_bool => k_is); (case z_dict => k_is); (case z_int => k_is); (case z_isinstance => k_is)
   (case z_len => k_is); (case z_list => k_is); (case z_max => k_is); (case z_range => k_is)
   (case z_set => k_is); (case z_sorted => k_is); (case z_str => k_is); (case z_sum => k_is)
   (case z_tuple => k_is)
#print axioms PySem.Challenge.cw_clashbook_k09_what_is_a_sheet_holds
