import PyProof.Rows.All
import Wide.All
import OpenK.AllK
import Wide.FinOn
import Lean
import PyProof.EqAt
import PyProof.EqKinds
import PyProof.TupleCall
import PyProof.FitsReplace
import PyProof.StrLawsChain
import PyProof.Rows.StrMul
import PyProof.IsiH_list
import KE.KDictOf
import PyProof.Rows.Exc
import PyProof.RulesTry
import PyProof.ForAppend
import PyProof.Rows.Tup
import PyProof.CollectWalk
import PyProof.Rows.DictListVals
import PyProof.AutoSeq1
import PyProof.FactsAll.list_3
import KE.KDictSum
import PyProof.Rows.SortStr
import PyProof.Rows.SortWalk
import PyProof.SetKind
import PyProof.Rows.SetObj
import PyProof.DictKinds
import PyProof.DictIter
import PyProof.MakeMany
import PyProof.WalksS
import PyProof.Walks
import PyProof.Seq
import PyProof.TupleIter
import PyProof.FactsAll.set_1
import PyProof.ForAny
import PyProof.Rows.SetFrom
import PyProof.Rows.StrMeet
import PyProof.NeKinds
import PyProof.ZipIter
import PySem.SetOps
import KE.KDictList
import PyProof.DictWalks
import PyProof.AutoListH
import PyProof.FactsAll.list_2
import PyProof.CallType
import PyProof.ListNew
import PyProof.Conv_int_bool
import PyProof.ConsumeWalk
import OpenK.KOwn
import OpenK.KRaise
import PyProof.ExcClass3
import PyProof.RulesAs
import PyProof.NsDelKeeps
import PyProof.StationsW
import PyProof.Rows.Catch
import PyProof.ExcArgs
import KE.KIsAll
import KE.KIsNot
import PyProof.FString
import PyProof.DictFindH
import PyProof.Rows.TupDisplay
import PyProof.StrLawsIdx
import PySem.Challenge.RW_clashbook_k08_bounds_of_texts
namespace PySem.W.Fast
def tw12899207632840823683:=0
def tw1953133817943389620:=0
def tw3694051856137817196:=0
def tw3893503968851780727:=0
def tw1352926421693470268:=0
def tw5577484409348243341:=0
def tw10639437284873323187:=0
def tw10276922332977826430:=0
def tw15544521252892584748:=0
def tw7702512658617922745:=0
def tw15341520892641312758:=0
def tw7444673424984018681:=0
end PySem.W.Fast
set_option Elab.async false
set_option linter.all false
set_option maxRecDepth 100000
namespace L2
open PySem PySem.Spec PyProof.Rows
abbrev Key := Sum Int Str
def keyIs : Key -> Value -> Bool
 | .inl k, v => Value.isInt k v
 | .inr x, v => Value.isStrOf x v
def keyH (w : World) : Key -> Int
 | .inl k => hashInt k
 | .inr x => hashStr w x
theorem keyIs_shape : ∀ {k : Key} {v : Value}, keyIs k v = true -> (∃ i t, k = Sum.inl i /\ v = Value.int i t) \/ (∃ x t, k = Sum.inr x /\ v = Value.str x t)
 | .inl i, v, h => by
   obtain ⟨t, e⟩ := Value.isInt_shape (k := i) (v := v) h
   exact .inl ⟨i, t, rfl, e⟩
 | .inr x, v, h => by
   obtain ⟨t, e⟩ := Value.isStrOf_shape (x := x) (v := v) h
   exact .inr ⟨x, t, rfl, e⟩
theorem keyIs_int (i : Int) (t : Tok) : keyIs (.inl i) (.int i t) = true := by simp [keyIs, Value.isInt]
theorem keyIs_str (x : Str) (t : Tok) : keyIs (.inr x) (.str x t) = true := by simp [keyIs, Value.isStrOf]
theorem key_ll (a b : Int) : decide ((Sum.inl a : Key) = Sum.inl b) = (a == b) := by
 by_cases e : a = b
 · subst e; simp
 · have h : ¬ (Sum.inl a : Key) = Sum.inl b := fun q => e (Sum.inl.inj q)
   rw [decide_eq_false h]
   exact (beq_eq_false_iff_ne.mpr e).symm
theorem key_rr (a b : Str) : decide ((Sum.inr a : Key) = Sum.inr b) = decide (a = b) := by
 by_cases e : a = b
 · subst e; simp
 · have h : ¬ (Sum.inr a : Key) = Sum.inr b := fun q => e (Sum.inr.inj q)
   rw [decide_eq_false h, decide_eq_false e]
theorem key_lr (a : Int) (b : Str) : decide ((Sum.inl a : Key) = Sum.inr b) = false := decide_eq_false (fun q => nomatch q)
theorem key_rl (a : Str) (b : Int) : decide ((Sum.inr a : Key) = Sum.inl b) = false := decide_eq_false (fun q => nomatch q)
def xF (prog : Program) (w : World) : PySem.KeyKind prog w Key where
 is := keyIs
 hash := keyH w
 inj := fun v a b ha hb => by
   rcases keyIs_shape ha with ⟨i, t, rfl, rfl⟩ | ⟨x, t, rfl, rfl⟩
   · rcases keyIs_shape hb with ⟨j, u, rfl, e⟩ | ⟨y, u, rfl, e⟩
     · injection e with e1 _; rw [e1]
     · exact nomatch e
   · rcases keyIs_shape hb with ⟨j, u, rfl, e⟩ | ⟨y, u, rfl, e⟩
     · exact nomatch e
     · injection e with e1 _; rw [e1]
 byValue := fun k v h => by
   rcases keyIs_shape h with ⟨i, t, rfl, rfl⟩ | ⟨x, t, rfl, rfl⟩ <;> rfl
 pyHash := fun hv h => by
   rcases keyIs_shape hv with ⟨i, t, rfl, rfl⟩ | ⟨x, t, rfl, rfl⟩
   · exact wpAny_pyHash_int h
   · exact wpAny_pyHash_str h
 eqBool := fun hu hv h => by
   rcases keyIs_shape hu with ⟨i, t, rfl, rfl⟩ | ⟨x, t, rfl, rfl⟩
   · rcases keyIs_shape hv with ⟨j, u, rfl, rfl⟩ | ⟨y, u, rfl, rfl⟩
     · rw [key_ll] at h; exact wpAny_eqBool_int h
     · rw [key_lr] at h; exact SeqAt.EqAt.int_str i t y u _ _ _ _ h
   · rcases keyIs_shape hv with ⟨j, u, rfl, rfl⟩ | ⟨y, u, rfl, rfl⟩
     · rw [key_rl] at h; exact SeqAt.EqAt.str_int x t j u _ _ _ _ h
     · rw [key_rr] at h; exact wpAny_eqBool_str h
 «strs» := fun k x t v h => by
   rcases keyIs_shape h with ⟨i, u, rfl, e⟩ | ⟨y, u, rfl, e⟩
   · exact nomatch e
   · injection e with e1 _
     subst e1
     cases v <;> rfl
theorem mixKind_int (prog : Program) (w : World) (i : Int) (t : Tok) : (xF prog w).is (.inl i) (.int i t) = true := keyIs_int i t
theorem qD (prog : Program) (w : World) (x : Str) (t : Tok) : (xF prog w).is (.inr x) (.str x t) = true := keyIs_str x t
inductive V where
 | non | bl (b : Bool) | int (i : Int) | str (x : Str) | byt (b : Array UInt8) | flt (b : UInt64) | ref (a : Addr) | ty (n : String)
 deriving DecidableEq
def RelV : V -> Value -> Prop
 | .non, u => u = Value.none
 | .bl b, u => u = Value.bool b
 | .int i, u => ∃ t, u = Value.int i t
 | .str x, u => ∃ t, u = Value.str x t
 | .byt b, u => ∃ t, u = Value.bytes b t
 | .flt b, u => ∃ t, u = Value.float b t
 | .ref a, u => u = Value.ref a
 | .ty n, u => u = Value.type n
abbrev Vals : List V -> List Value -> Prop := Paired RelV
theorem Vals.length {xs : List V} {us : List Value} (r : Vals xs us) : xs.length = us.length := Paired.length r
theorem Vals.get : ∀ {xs : List V} {us : List Value} {i : Nat} {x : V}, Vals xs us -> xs[i]? = some x -> ∃ u, us[i]? = some u /\ RelV x u
 | _, _, _, _, .nil, e => by simp at e
 | _, _, 0, _, .cons r _, e => by simp at e; subst e; exact ⟨_, rfl, r⟩
 | _, _, i + 1, x, .cons _ t, e => by
   obtain ⟨u, h1, h2⟩ := Vals.get (i := i) (x := x) t (by simpa using e)
   exact ⟨u, by simpa using h1, h2⟩
theorem Vals.append : ∀ {xs ys : List V} {us ws : List Value}, Vals xs us -> Vals ys ws -> Vals (xs ++ ys) (us ++ ws)
 | _, _, _, _, .nil, s => s
 | _, _, _, _, .cons r t, s => .cons r (Vals.append t s)
theorem Vals.take : ∀ {xs : List V} {us : List Value} (n : Nat), Vals xs us -> Vals (xs.take n) (us.take n)
 | _, _, 0, _ => .nil
 | _, _, _ + 1, .nil => .nil
 | _, _, n + 1, .cons r t => .cons r (Vals.take n t)
theorem Vals.drop : ∀ {xs : List V} {us : List Value} (n : Nat), Vals xs us -> Vals (xs.drop n) (us.drop n)
 | _, _, 0, r => r
 | _, _, _ + 1, .nil => .nil
 | _, _, n + 1, .cons _ t => Vals.drop n t
def RelO : Option V -> Option Value -> Prop
 | some v, some u => RelV v u
 | none, none => True
 | _, _ => False
def KV {κ : Type} : List (κ × V) -> List (κ × Value) -> Prop := Paired fun (p : κ × V) (q : κ × Value) => p.1 = q.1 /\ RelV p.2 q.2
def kV : Key -> V
 | .inl i => .int i
 | .inr x => .str x
inductive HO where
 | lst (xs : List V)
 | tup (xs : List V)
 | dK (kvs : List (Key × V)) | dT (kvs : List (List Key × V))
 | set (S : Int -> Bool) (n : Nat)
 | ins (C dx : Addr) (fs : List (Str × V))
 | own (x : Addr)
 | xd (fs : List (Str × V))
 | met (f x : Addr)
 | rng (lo hi : Int)
 | frz (o : Obj) (u : HO)
 | tbl (ps : Array Value)
 | ext (φ : Heap -> Prop)
abbrev Hp := Addr -> Option HO
def upd (H : Hp) (a : Addr) (o : HO) : Hp := fun b => if b = a then some o else H b
theorem zK {H : Hp} {a : Addr} {o : HO} : upd H a o a = some o := by unfold upd; rw [if_pos rfl]
theorem yA {H : Hp} {a b : Addr} {o : HO} (h : b ≠ a) : upd H a o b = H b := by unfold upd; rw [if_neg h]
theorem ne_of {H : Hp} {a b : Addr} {o u : HO} (h : H a = some o) (h' : H b = some u) (d : o ≠ u) : a ≠ b := by
 intro e; subst e; rw [h] at h'; exact d (Option.some.inj h')
theorem yP {H : Hp} {a b : Addr} {o : HO} (h : H a = some o) (h' : H b = none) : a ≠ b := by
 intro e; subst e; rw [h] at h'; cases h'
section
variable (P : Program) (w : World)
def ObjOk (H : Hp) (h : Heap) (a : Addr) : HO -> Prop
 | .lst xs => xs.length <= sizeLine /\ ∃ (its : List Value) (n : Nat), Vals xs its /\ h.get? a = some { cls := .type "list", data := .seq its.toArray n }
 | .tup xs => xs.length <= sizeLine /\ ∃ its : List Value, Vals xs its /\ IsTup h a its.toArray
 | .dK kvs => kvs.length <= sizeLine /\ (a == sysModules) = false /\ ∃ vs, KV kvs vs /\ h.DictOf (xF P w) a vs
 | .dT kvs => kvs.length <= sizeLine /\ (a == sysModules) = false /\ ∃ xs : List (List Key × Addr × Value),
     Paired (fun (p : List Key × V) (q : List Key × Addr × Value) => p.1 = q.1 /\ H q.2.1 = some (.tup (p.1.map kV)) /\ RelV p.2 q.2.2) kvs xs /\
     ∃ o es ep, h.get? a = some o /\ o.ExactDict /\ o.data = .dict es ep /\ es.toList = xs.map (entryOfKey (tupleKind (xF P w))) /\ (xs.map (·.1)).Nodup
 | .set S n => h.SetOf (intKind P w) a S n
 | .ins C dx fs => H dx = some (.own a) /\ fs.length <= 1000 /\ dx ≠ a /\ h.get? a = some (PySem.W.instObj C dx) /\
     ∃ mA, h.Ns1 dx mA /\ (∀ f, RelO (fs.lookup f) (mA f)) /\ PySem.Within mA (fs.map (·.1))
 | .own _ => ∃ o, h.get? a = some o
 | .xd fs => ∃ mA, h.Ns1 a mA /\ ∀ f, RelO (fs.lookup f) (mA f)
 | .rng lo hi => ∃ t u v, h.get? a = some { cls := .type "range", data := .fields #[.int lo t, .int hi u, .int 1 v] }
 | .frz o u => h.get? a = some o /\ ObjOk H h a u
 | .tbl ps => h.get? a = some { cls := .none, data := .fields ps }
 | .met f x => h.get? a = some (PySem.W.methodObj (.ref f) (.ref x))
 | .ext φ => φ h /\ (∃ o, h.get? a = some o) /\ ∀ h1 h2 : Heap, φ h1 -> (∀ o, h1.get? a = some o -> h2.get? a = some o) -> φ h2
def HOk (H : Hp) (h : Heap) : Prop := ∀ a o, H a = some o -> ObjOk P w H h a o
end
section
variable {P : Program} {w : World} {H H' : Hp} {h h' : Heap} {a : Addr} {o : HO}
theorem ObjOk.lt (x : ObjOk P w H h a o) : a < h.objs.size := by
 cases o with
 | lst xs => obtain ⟨_, _, _, _, e⟩ := x; exact Heap.lt_size e
 | tup xs => obtain ⟨_, _, _, p⟩ := x; exact p.lt
 | dK kvs => obtain ⟨_, _, _, _, o, _, _, e, _⟩ := x; exact Heap.lt_size e
 | dT kvs => obtain ⟨_, _, _, _, o, _, _, e, _⟩ := x; exact Heap.lt_size e
 | set S n => obtain ⟨o, _, _, _, e, _⟩ := x; exact Heap.lt_size e
 | ins C dx fs => obtain ⟨_, _, _, e, _⟩ := x; exact Heap.lt_size e
 | own y => obtain ⟨_, e⟩ := x; exact Heap.lt_size e
 | xd fs => obtain ⟨_, ⟨_, _, _, e, _⟩, _⟩ := x; exact Heap.lt_size e
 | rng lo hi => obtain ⟨_, _, _, e⟩ := x; exact Heap.lt_size e
 | frz ob u => obtain ⟨e, _⟩ := x; exact Heap.lt_size e
 | tbl ps => exact Heap.lt_size (show h.get? a = some _ from x)
 | met f y => exact Heap.lt_size (show h.get? a = some _ from x)
 | ext φ => obtain ⟨_, ⟨_, e⟩, _⟩ := x; exact Heap.lt_size e
theorem Paired.mapP {α β : Type} {F G : α -> β -> Prop} : ∀ {l₁ : List α} {l₂ : List β}, Paired F l₁ l₂ -> (∀ a b, F a b -> G a b) -> Paired G l₁ l₂
 | _, _, .nil, _ => .nil
 | _, _, .cons r t, f => .cons (f _ _ r) (Paired.mapP t f)
theorem ObjOk.stay (x : ObjOk P w H h a o) (k : ∀ b u, (b = a \/ H b = some (.own a)) -> h.get? b = some u -> h'.get? b = some u)
   (ho : ∀ b, H b = some (.own a) -> H' b = some (.own a)) (ht : ∀ b xs, H b = some (.tup xs) -> H' b = some (.tup xs)) : ObjOk P w H' h' a o := by
 induction o with
 | lst xs => obtain ⟨z, its, n, r, e⟩ := x; exact ⟨z, its, n, r, k _ _ (.inl rfl) e⟩
 | tup xs => obtain ⟨z, its, r, ob, e, c⟩ := x; exact ⟨z, its, r, ob, k _ _ (.inl rfl) e, c⟩
 | dK kvs => obtain ⟨z, y, vs, r, ob, es, ep, e, c⟩ := x; exact ⟨z, y, vs, r, ob, es, ep, k _ _ (.inl rfl) e, c⟩
 | dT kvs =>
   obtain ⟨z, y, xs, r, ob, es, ep, e, c⟩ := x
   exact ⟨z, y, xs, Paired.mapP r fun p q z => ⟨z.1, ht _ _ z.2.1, z.2.2⟩, ob, es, ep, k _ _ (.inl rfl) e, c⟩
 | set S n => obtain ⟨ob, es, ep, t, e, c⟩ := x; exact ⟨ob, es, ep, t, k _ _ (.inl rfl) e, c⟩
 | ins C dx fs =>
   obtain ⟨d, z, ne, e, mA, ⟨od, es, ep, e2, c⟩, r⟩ := x
   exact ⟨ho _ d, z, ne, k _ _ (.inl rfl) e, mA, ⟨od, es, ep, k _ _ (.inr d) e2, c⟩, r⟩
 | own y => obtain ⟨ob, e⟩ := x; exact ⟨ob, k _ _ (.inl rfl) e⟩
 | xd fs => obtain ⟨mA, ⟨od, es, ep, e, c⟩, r⟩ := x; exact ⟨mA, ⟨od, es, ep, k _ _ (.inl rfl) e, c⟩, r⟩
 | rng lo hi => obtain ⟨t, u, v, e⟩ := x; exact ⟨t, u, v, k _ _ (.inl rfl) e⟩
 | frz ob u ih => obtain ⟨e, q⟩ := x; exact ⟨k _ _ (.inl rfl) e, ih q⟩
 | tbl ps =>
   have e : h.get? a = some { cls := .none, data := .fields ps } := x
   show h'.get? a = some { cls := .none, data := .fields ps }
   exact k a _ (.inl rfl) e
 | met f y =>
   have e : h.get? a = some (PySem.W.methodObj (.ref f) (.ref y)) := x
   show h'.get? a = some (PySem.W.methodObj (.ref f) (.ref y))
   exact k a _ (.inl rfl) e
 | ext φ => obtain ⟨p, ⟨o, e⟩, st⟩ := x; exact ⟨st _ _ p fun o q => k _ _ (.inl rfl) q, ⟨o, k _ _ (.inl rfl) e⟩, st⟩
theorem HOk.lt (x : HOk P w H h) (e : H a = some o) : a < h.objs.size := (x a o e).lt
theorem HOk.fresh (x : HOk P w H h) (e : h.objs.size <= a) : H a = none := by
 cases q : H a with
 | none => rfl
 | some u => exact absurd (Nat.lt_of_lt_of_le (x.lt q) e) (Nat.lt_irrefl _)
theorem HOk.kept (x : HOk P w H h) (k : ∀ b u, h.get? b = some u -> h'.get? b = some u) : HOk P w H h' := fun a o e =>
 (x a o e).stay (fun b u _ q => k b u q) (fun _ q => q) fun _ _ q => q
theorem HOk.laid (x : HOk P w H h) (k : ∀ b u, h.get? b = some u -> h'.get? b = some u) (hp : h.objs.size <= a) (new : ObjOk P w (upd H a o) h' a o) : HOk P w (upd H a o) h' := fun b u e => by
 have hn := x.fresh hp
 by_cases hb : b = a
 · subst hb; rw [zK] at e; cases e; exact new
 · rw [yA hb] at e
   exact (x b u e).stay (fun c v _ q => k c v q) (fun c q => by rw [yA (yP q hn)]; exact q) fun c xs q => by rw [yA (yP q hn)]; exact q
end
def Rd (H : Hp) (a : Addr) (u : HO) : Prop := H a = some u \/ ∃ o, H a = some (.frz o u)
theorem Rd.ok {P : Program} {w : World} {H : Hp} {h : Heap} {a : Addr} {u : HO} (r : Rd H a u) (x : HOk P w H h) : ObjOk P w H h a u := by
 rcases r with r | ⟨o, r⟩
 · exact x a u r
 · obtain ⟨_, q⟩ := x a _ r
   exact q
def Mut : Option HO -> Prop
 | some (.lst _) => True
 | some (.dK _) => True
 | some (.dT _) => True
 | some (.set _ _) => True
 | some (.ins _ _ _) => True
 | some (.ext _) => True
 | _ => False
section
variable {P : Program} {w : World} {H : Hp} {h h' : Heap} {x e : Addr} {o' : HO}
theorem HOk.write (ok : HOk P w H h) (mu : Mut (H x)) (he : e = x \/ H e = some (.own x)) (k : ∀ b u, b ≠ e -> h.get? b = some u -> h'.get? b = some u) (heo : ∃ u, h'.get? e = some u)
   (new : ObjOk P w (upd H x o') h' x o') : HOk P w (upd H x o') h' := fun b u q => by
 have nown : ∀ c y, H c = some (.own y) -> c ≠ x := fun c y r z => by subst z; rw [r] at mu; exact mu
 have ntup : ∀ c xs, H c = some (.tup xs) -> c ≠ x := fun c xs r z => by subst z; rw [r] at mu; exact mu
 by_cases hb : b = x
 · subst hb; rw [zK] at q; cases q; exact new
 · rw [yA hb] at q
   by_cases hbe : b = e
   · have q' : H b = some (.own x) := by
       rcases he with z | z
       · exact absurd (hbe.trans z) hb
       · rw [hbe]; exact z
     rw [q] at q'; cases q'
     obtain ⟨v, hv⟩ := heo
     exact ⟨v, by rw [hbe]; exact hv⟩
   · refine (ok b u q).stay (fun c v hc r => k c v ?_ r) (fun c r => by rw [yA (nown c b r)]; exact r) fun c xs r => by rw [yA (ntup c xs r)]; exact r
     rcases hc with rfl | hc
     · exact hbe
     · rintro rfl
       rcases he with z | z
       · exact nown c b hc z
       · rw [hc] at z; cases z; exact hb rfl
end
structure Un (fs ex : List Addr) (H H' : Hp) (h h' : Heap) : Prop where
 keep : ∀ b o, h.get? b = some o -> H b = none -> b ∉ fs -> b ∉ ex -> h'.get? b = some o
 slot : ∀ b o, h.get? b = some o -> H b = none -> b ∈ fs -> b ∉ ex -> ∃ sl, h'.get? b = some { o with slots := sl }
 free : ∀ b o, h.get? b = some o -> H b = none -> b ∉ ex -> H' b = none
 there : ∀ b o, h.get? b = some o -> b ∉ ex -> ∃ o', h'.get? b = some o'
 tups : ∀ b xs, H b = some (.tup xs) -> H' b = some (.tup xs)
 frzs : ∀ b o u, H b = some (.frz o u) -> H' b = some (.frz o u)
 tbls : ∀ b ps, H b = some (.tbl ps) -> ∃ more, H' b = some (.tbl (ps ++ more))
section
variable {fs fs' ex ex' : List Addr} {H H1 H2 : Hp} {h h1 h2 h' : Heap} {a x e : Addr} {o : HO}
theorem Un.any (u : Un fs ex H H1 h h1) {b : Addr} {ob : Obj} (q : h.get? b = some ob) (n : H b = none) (hx : b ∉ ex) : ∃ sl, h1.get? b = some { ob with slots := sl } := by
 by_cases hb : b ∈ fs
 · exact u.slot b ob q n hb hx
 · exact ⟨ob.slots, u.keep b ob q n hb hx⟩
theorem Un.kept (k : ∀ b u, h.get? b = some u -> h'.get? b = some u) : Un fs ex H H h h' :=
 ⟨fun b ob q _ _ _ => k b ob q, fun b ob q _ _ _ => ⟨ob.slots, k b ob q⟩, fun _ _ _ n _ => n, fun b ob q _ => ⟨ob, k b ob q⟩, fun _ _ q => q, fun _ _ _ q => q, fun _ ps q => ⟨#[], by rw [q]; simp⟩⟩
theorem Un.refl : Un fs ex H H h h := Un.kept fun _ _ q => q
theorem Un.laid (k : ∀ b u, h.get? b = some u -> h'.get? b = some u) (hp : h.objs.size <= a) (hn : H a = none) : Un fs ex H (upd H a o) h h' where
 keep := fun b u q _ _ _ => k b u q
 slot := fun b u q _ _ _ => ⟨u.slots, k b u q⟩
 free := fun b u q n _ => by rw [yA (Nat.ne_of_lt (Nat.lt_of_lt_of_le (Heap.lt_size q) hp))]; exact n
 there := fun b u q _ => ⟨u, k b u q⟩
 tups := fun b xs q => by rw [yA (yP q hn)]; exact q
 frzs := fun b u xs q => by rw [yA (yP q hn)]; exact q
 tbls := fun b ps q => ⟨#[], by rw [yA (yP q hn), q]; simp⟩
theorem Un.write (mu : Mut (H x)) (he : e = x \/ H e = some (.own x)) (k : ∀ b u, b ≠ e -> h.get? b = some u -> h'.get? b = some u) (heo : ∃ u, h'.get? e = some u) : Un fs ex H (upd H x o) h h' := by
 have hx : ∀ b, H b = none -> b ≠ x := fun b n z => by subst z; rw [n] at mu; exact mu
 have hb : ∀ b, H b = none -> b ≠ e := fun b n z => by
   subst z
   rcases he with r | r
   · exact hx b n r
   · rw [n] at r; cases r
 have hm : ∀ b u, H b = some u -> ¬ Mut (some u) -> b ≠ x := fun b u q nm z => by subst z; rw [q] at mu; exact nm mu
 refine ⟨fun b u q n _ _ => k b u (hb b n) q, fun b u q n _ _ => ⟨u.slots, k b u (hb b n) q⟩, fun b u q n _ => by rw [yA (hx b n)]; exact n, fun b u q _ => ?_,
   fun b xs q => by rw [yA (hm b _ q fun z => z)]; exact q, fun b u xs q => by rw [yA (hm b _ q fun z => z)]; exact q, fun b ps q => ⟨#[], by rw [yA (hm b _ q fun z => z), q]; simp⟩⟩
 by_cases hbe : b = e
 · subst hbe; exact heo
 · exact ⟨u, k b u hbe q⟩
end
def trk (h : Heap) (H : Hp) : List Addr := (List.range h.objs.size).filter fun a => (H a).isSome
def kF (h : Heap) (H : Hp) : Heap := PySem.W.hideAll h (trk h H)
theorem hidT_size (h : Heap) (H : Hp) : (kF h H).objs.size = h.objs.size := PySem.W.hideAll_size _ _
theorem hidT_get {h : Heap} {H : Hp} {b : Addr} {o : Obj} (e : h.get? b = some o) (n : H b = none) : (kF h H).get? b = some o :=
 PySem.W.hideAll_get _ e fun hm => by
   have q : (H b).isSome = true := (List.mem_filter.mp hm).2
   rw [n] at q; simp at q
theorem of_hidT {h : Heap} {H : Hp} {b : Addr} {o : Obj} (e : (kF h H).get? b = some o) : h.get? b = some o /\ H b = none := by
 have e' : h.get? b = some o := PySem.W.of_hideAll (trk h H) e
 refine ⟨e', ?_⟩
 cases q : H b with
 | none => rfl
 | some x =>
   have hm : b ∈ trk h H := List.mem_filter.mpr ⟨List.mem_range.mpr (Heap.lt_size e'), by simp [q]⟩
   have z : (kF h H).get? b = none := PySem.W.hideAll_none (trk h H) hm
   rw [z] at e; cases e
def allNews (g h : Heap) (L : Addr) : List (Addr × Obj) := (List.range h.objs.size).filterMap fun a => if a = L \/ (g.get? a).isSome = true then none else (h.get? a).map fun o => (a, o)
def rest (g h : Heap) (L d : Addr) : List (Addr × Obj) := (allNews g h L).filter fun p => decide (p.1 ≠ d)
structure Mod (K : PySem.W.Frag) (mg : Str -> Option Value) (base : Heap) : Prop where
 kin : K.In base
 glob : base.Ns mainGlobals mg
 blt : ∃ mb, base.Ns builtinsNs mb /\ ∀ x : Str, x ≠ "__name__" -> mb x = bootBuiltins x
 nolimit : base.NoLimit
structure Cx where
 prog : Program
 w : World
 K : PySem.W.Frag
 mg : Str -> Option Value
 base : Heap
 A : Around
 N : List Str
 s₀ : Shared
 H₀ : Hp
 env : Env
 outer : List Env
 stack : List Env
 ex : List Addr
 fn : Str -> Bool
 calm : Bool
 pn : List (Addr × Obj)
 xe : Value -> Shared -> Prop
def frs (l : List Env) : List Addr := l.filterMap (·.frame)
abbrev Cx.fs (X : Cx) : List Addr := frs X.outer
def Vis (sc : Scope) (x : Str) : Prop := sc.names.lookup x = some .local \/ sc.names.lookup x = some .cell \/ sc.names.lookup x = some .free
def Loc (sc : Scope) (x : Str) : Prop := sc.names.lookup x = some .local \/ sc.names.lookup x = some .cell
def Look (env : Env) (h : Heap) (m : Str -> Option Value) (x : Str) (u : Value) : Prop :=
 (env.kindOf x = some .local /\ m x = some u) \/ ((env.kindOf x = some .cell \/ env.kindOf x = some .free) /\ ∃ c, env.cells.lookup x = some c /\ h.IsCell c (some u))
structure Cx.Ok (X : Cx) : Prop where
 mod : Mod X.K X.mg X.base
 kind : X.env.scope.kind = .function
 glob : X.env.globals = mainGlobals
 blt : X.env.builtins = builtinsNs
 above : X.s₀.heap.objs.size <= X.env.locals
 inj : ∀ x y c, X.env.cells.lookup x = some c -> X.env.cells.lookup y = some c -> x = y
 has : ∀ x, (X.env.kindOf x = some .cell \/ X.env.kindOf x = some .free) -> ∃ c, X.env.cells.lookup x = some c
 cab : ∀ x c, X.fn x = true -> X.env.cells.lookup x = some c -> X.s₀.heap.objs.size <= c
 hd : X.calm = true -> X.A.handled = none
 frames : X.A.frames = some X.stack
 stk : X.stack = X.outer \/ (X.stack = X.env :: X.outer /\ X.env.frame = some X.env.locals)
 exf : ∀ b ∈ X.ex, b ≠ X.env.locals /\ ∀ x c, X.env.cells.lookup x = some c -> c ≠ b
 bs : ∀ b o, X.base.get? b = some o -> X.s₀.heap.get? b = some o /\ X.H₀ b = none
 bsz : X.base.objs.size <= X.s₀.heap.objs.size
 noex : ∀ b o, X.base.get? b = some o -> b ∉ X.ex
 exfs : ∀ b ∈ X.ex, b ∉ X.fs
 funs : X.s₀.heap.FunFrames X.base X.outer
 frf : ∀ b ∈ X.fs, X.H₀ b = none
structure Inv (X : Cx) (pins : List (Addr × Obj)) (σ : List (Option V)) (H : Hp) (s : Shared) : Prop where
 ok : X.Ok
 os : s.os = X.s₀.os
 bare : AllBare s.gens
 base : Un X.fs X.ex X.H₀ H X.s₀.heap s.heap
 loc : ∃ m, s.heap.Ns X.env.locals m /\ ∀ (i : Nat) (x : Str) (v : V), X.N[i]? = some x -> σ[i]? = some (some v) -> Vis X.env.scope x -> ∃ u, RelV v u /\ Look X.env s.heap m x u
 cell : ∀ x c, X.env.cells.lookup x = some c -> ∃ v, s.heap.IsCell c v
 free : H X.env.locals = none
 freeC : ∀ x c, X.env.cells.lookup x = some c -> H c = none
 pin : ∀ p ∈ X.pn ++ pins, s.heap.get? p.1 = some p.2 /\ H p.1 = none /\ p.1 ≠ X.env.locals /\ p.1 ∉ X.fs /\ ∀ v, p.2.data ≠ .cell v
 hok : HOk X.prog X.w H s.heap
 len : σ.length = X.N.length
section
variable {X : Cx} {pins : List (Addr × Obj)} {σ : List (Option V)} {H H' : Hp} {s : Shared} {h' : Heap}
theorem Cx.Ok.nofr (ok : X.Ok) {b : Addr} {o : Obj} (e : X.base.get? b = some o) : b ∉ X.fs := fun hb => by
 have := (ok.funs.mem hb).1
 rw [e] at this; cases this
theorem Inv.bs (I : Inv X pins σ H s) : ∀ b o, X.base.get? b = some o -> s.heap.get? b = some o /\ H b = none := fun b o e =>
 ⟨I.base.keep b o (I.ok.bs b o e).1 (I.ok.bs b o e).2 (I.ok.nofr e) (I.ok.noex b o e), I.base.free b o (I.ok.bs b o e).1 (I.ok.bs b o e).2 (I.ok.noex b o e)⟩
theorem Inv.bk (I : Inv X pins σ H s) : ∀ b o, X.base.get? b = some o -> s.heap.get? b = some o := fun b o e => (I.bs b o e).1
theorem Inv.mod (I : Inv X pins σ H s) : Mod X.K X.mg X.base := I.ok.mod
theorem Inv.kIn (I : Inv X pins σ H s) : X.K.In s.heap := I.ok.mod.kin.keeps I.bk
theorem Inv.lt (I : Inv X pins σ H s) : X.env.locals < s.heap.objs.size := let ⟨_, hn, _⟩ := I.loc; hn.lt
theorem Inv.sz (I : Inv X pins σ H s) : X.s₀.heap.objs.size <= s.heap.objs.size := Nat.le_trans I.ok.above (Nat.le_of_lt I.lt)
theorem Inv.nofs (I : Inv X pins σ H s) {a : Addr} (h : s.heap.objs.size <= a) : a ∉ X.fs := fun hb => by
 obtain ⟨_, o, ho, _⟩ := I.ok.funs.mem hb
 exact absurd (Nat.lt_of_lt_of_le (Heap.lt_size ho) (Nat.le_trans I.sz h)) (Nat.lt_irrefl _)
theorem Inv.cne (I : Inv X pins σ H s) : ∀ x c, X.env.cells.lookup x = some c -> c ≠ X.env.locals := fun x c e z => by
 obtain ⟨v, o, ho, hd⟩ := I.cell x c e
 obtain ⟨m, ⟨o', es, ep, ho', hd', _⟩, _⟩ := I.loc
 rw [z, ho'] at ho; cases ho; rw [hd'] at hd; cases hd
theorem Inv.funs (I : Inv X pins σ H s) : s.heap.FunFrames X.base X.outer := by
 have all : ∀ (l : List Env), (∀ b ∈ frs l, b ∈ X.fs) -> X.s₀.heap.FunFrames X.base l -> s.heap.FunFrames X.base l := by
   intro l
   induction l with
   | nil => intro _ _; trivial
   | cons env r ih =>
     intro hs hl
     obtain ⟨hk, ⟨L, o, hf, hn, ho, hd⟩, hr⟩ := hl
     have hL : L ∈ X.fs := hs L (by unfold frs; rw [List.filterMap_cons, hf]; exact List.mem_cons_self)
     obtain ⟨sl, e⟩ := I.base.slot L o ho (I.ok.frf L hL) hL fun z => I.ok.exfs L z hL
     exact ⟨hk, ⟨L, _, hf, hn, e, hd⟩, ih (fun b hb => hs b (by unfold frs; rw [List.filterMap_cons, hf]; exact List.mem_cons_of_mem _ hb)) hr⟩
 exact all X.outer (fun _ hb => hb) I.ok.funs
theorem Inv.stack (I : Inv X pins σ H s) : s.heap.FunFrames X.base X.stack := by
 rcases I.ok.stk with e | ⟨e, hf⟩
 · rw [e]; exact I.funs
 · rw [e]
   obtain ⟨m, hn, _⟩ := I.loc
   refine .cons (by rw [I.ok.kind]; decide) hf hn ?_ I.funs
   exact Heap.get?_none_of_le (Nat.le_trans I.ok.bsz I.ok.above)
theorem Inv.stkSub (I : Inv X pins σ H s) : ∀ b ∈ frs X.stack, b ∈ X.env.locals :: X.fs := fun b hb => by
 rcases I.ok.stk with e | ⟨e, hf⟩
 · rw [e] at hb; exact List.mem_cons_of_mem _ hb
 · rw [e] at hb
   unfold frs at hb
   rw [List.filterMap_cons, hf] at hb
   exact hb
theorem Inv.stkFree (I : Inv X pins σ H s) : ∀ b ∈ frs X.stack, H b = none := fun b hb => by
 rcases List.mem_cons.mp (I.stkSub b hb) with e | hb
 · rw [e]; exact I.free
 · obtain ⟨_, o, ho, _⟩ := I.ok.funs.mem hb
   exact I.base.free b o ho (I.ok.frf b hb) fun z => I.ok.exfs b z hb
theorem Inv.step {g' : Array GenState} {t' : Nat} {d' : Drawn} {ch : List Addr} (I : Inv X pins σ H s)
   (hch : ∀ b ∈ ch, (b ∈ X.ex \/ X.s₀.heap.objs.size <= b) /\ b ≠ X.env.locals /\ (∀ x c, X.env.cells.lookup x = some c -> c ≠ b) /\ ∀ p ∈ X.pn ++ pins, p.1 ≠ b)
   (keep : ∀ b o, b ≠ X.env.locals -> b ∉ X.fs -> b ∉ ch -> s.heap.get? b = some o -> H b = none -> h'.get? b = some o)
   (slot : ∀ b o, b ≠ X.env.locals -> b ∈ X.fs -> b ∉ ch -> s.heap.get? b = some o -> H b = none -> ∃ sl, h'.get? b = some { o with slots := sl }) (free : ∀ b o, b ∉ ch -> s.heap.get? b = some o -> H b = none -> H' b = none)
   (there : ∀ b o, b ∉ ch -> s.heap.get? b = some o -> ∃ o', h'.get? b = some o')
   (tups : ∀ b xs, H b = some (.tup xs) -> H' b = some (.tup xs)) (frzs : ∀ b o u, H b = some (.frz o u) -> H' b = some (.frz o u)) (tbls : ∀ b ps, H b = some (.tbl ps) -> ∃ more, H' b = some (.tbl (ps ++ more)))
   (ns : ∀ m, s.heap.Ns X.env.locals m -> h'.Ns X.env.locals m) (hok : HOk X.prog X.w H' h') (hg : AllBare g') :
   Inv X pins σ H' { s with heap := h', gens := g', drawn := d', toks := t' } := by
 have neL : ∀ b o, X.s₀.heap.get? b = some o -> b ≠ X.env.locals := fun b o e => Nat.ne_of_lt (Nat.lt_of_lt_of_le (Heap.lt_size e) I.ok.above)
 have neC : ∀ b o, X.s₀.heap.get? b = some o -> b ∉ X.ex -> b ∉ ch := fun b o e hx hb => by
   rcases (hch b hb).1 with z | z
   · exact hx z
   · exact absurd (Nat.lt_of_lt_of_le (Heap.lt_size e) z) (Nat.lt_irrefl _)
 have cellK : ∀ x c, X.env.cells.lookup x = some c -> ∀ v, s.heap.IsCell c v -> h'.IsCell c v := fun x c e v ⟨o, ho, hd⟩ => by
   have nch : c ∉ ch := fun z => (hch c z).2.2.1 x c e rfl
   by_cases hc : c ∈ X.fs
   · obtain ⟨sl, q⟩ := slot c o (I.cne x c e) hc nch ho (I.freeC x c e)
     exact ⟨_, q, hd⟩
   · exact ⟨o, keep c o (I.cne x c e) hc nch ho (I.freeC x c e), hd⟩
 refine ⟨I.ok, I.os, hg, ⟨fun b o e n hb hx => ?_, fun b o e n hb hx => ?_, fun b o e n hx => ?_, fun b o e hx => ?_, fun b xs e => tups b xs (I.base.tups b xs e), fun b o xs e => frzs b o xs (I.base.frzs b o xs e), fun b ps e => ?_⟩, ?_, fun x c e => ?_, ?_, fun x c e => ?_, fun p hp => ?_, hok, I.len⟩
 · exact keep b o (neL b o e) hb (neC b o e hx) (I.base.keep b o e n hb hx) (I.base.free b o e n hx)
 · obtain ⟨sl, e1⟩ := I.base.slot b o e n hb hx
   obtain ⟨sl', e2⟩ := slot b _ (neL b o e) hb (neC b o e hx) e1 (I.base.free b o e n hx)
   exact ⟨sl', e2⟩
 · obtain ⟨o', e1⟩ := I.base.there b o e hx
   exact free b o' (neC b o e hx) e1 (I.base.free b o e n hx)
 · obtain ⟨o', e1⟩ := I.base.there b o e hx
   exact there b o' (neC b o e hx) e1
 · obtain ⟨m1, e1⟩ := I.base.tbls b ps e
   obtain ⟨m2, e2⟩ := tbls b _ e1
   exact ⟨m1 ++ m2, by rw [e2, Array.append_assoc]⟩
 · obtain ⟨m, hn, hl⟩ := I.loc
   refine ⟨m, ns m hn, fun i x v e1 e2 e3 => ?_⟩
   obtain ⟨u, r, l⟩ := hl i x v e1 e2 e3
   refine ⟨u, r, ?_⟩
   rcases l with l | ⟨k, c, e, z⟩
   · exact .inl l
   · exact .inr ⟨k, c, e, cellK x c e _ z⟩
 · obtain ⟨v, z⟩ := I.cell x c e
   exact ⟨v, cellK x c e v z⟩
 · obtain ⟨m, ⟨o, _, _, ho, _⟩, _⟩ := I.loc
   exact free _ o (fun z => (hch _ z).2.1 rfl) ho I.free
 · obtain ⟨v, o, ho, hd⟩ := I.cell x c e
   exact free c o (fun z => (hch c z).2.2.1 x c e rfl) ho (I.freeC x c e)
 · obtain ⟨e, n, ne, nf, d⟩ := I.pin p hp
   have nch : p.1 ∉ ch := fun z => (hch p.1 z).2.2.2 p hp rfl
   exact ⟨keep p.1 p.2 ne nf nch e n, free p.1 p.2 nch e n, ne, nf, d⟩
theorem Inv.un {t' : Nat} (I : Inv X pins σ H s) (u : Un X.fs [] H H' s.heap h') (hok : HOk X.prog X.w H' h') : Inv X pins σ H' { s with heap := h', toks := t' } := by
 obtain ⟨m, ⟨o, es, ep, ho, r⟩, _⟩ := id I.loc
 obtain ⟨sl, hL⟩ := u.any ho I.free (by simp)
 exact I.step (g' := s.gens) (d' := s.drawn) (ch := []) (fun _ z => nomatch z) (fun b o _ hb _ e n => u.keep b o e n hb (by simp)) (fun b o _ hb _ e n => u.slot b o e n hb (by simp)) (fun b o _ e n => u.free b o e n (by simp)) (fun b o _ e => u.there b o e (by simp)) u.tups u.frzs u.tbls (fun m' hm => by
   obtain ⟨o', es', ep', ho', r'⟩ := hm
   rw [ho] at ho'; cases ho'
   exact ⟨_, es', ep', hL, r'⟩) hok I.bare
theorem Inv.call {g' : Array GenState} {t' : Nat} {d' : Drawn} {ch : List Addr} (I : Inv X pins σ H s) (u : Un (frs X.stack) ch H H' s.heap h') (hok : HOk X.prog X.w H' h') (hg : AllBare g')
   (hch : ∀ b ∈ ch, (b ∈ X.ex \/ X.s₀.heap.objs.size <= b) /\ b ≠ X.env.locals /\ (∀ x c, X.env.cells.lookup x = some c -> c ≠ b) /\ ∀ p ∈ X.pn ++ pins, p.1 ≠ b) :
   Inv X pins σ H' { s with heap := h', gens := g', drawn := d', toks := t' } := by
 obtain ⟨m, ⟨o, es, ep, ho, r⟩, _⟩ := id I.loc
 obtain ⟨sl, hL⟩ := u.any ho I.free fun z => (hch _ z).2.1 rfl
 exact I.step (ch := ch) hch (fun b o hL hb hc e n => u.keep b o e n (fun z => (List.mem_cons.mp (I.stkSub b z)).elim hL hb) hc) (fun b o _ _ hc e n => u.any e n hc) (fun b o hc e n => u.free b o e n hc) (fun b o hc e => u.there b o e hc) u.tups u.frzs u.tbls (fun m' hm => by
   obtain ⟨o', es', ep', ho', r'⟩ := hm
   rw [ho] at ho'; cases ho'
   exact ⟨_, es', ep', hL, r'⟩) hok hg
theorem Inv.turned {t' : Nat} {it : Addr} (I : Inv X pins σ H s) (k : ∀ b o, b ≠ it -> s.heap.get? b = some o -> h'.get? b = some o) (hn : H it = none) (hL : it ≠ X.env.locals)
   (h1 : it ∈ X.ex \/ X.s₀.heap.objs.size <= it) (h2 : ∀ x c, X.env.cells.lookup x = some c -> c ≠ it) (h3 : ∀ p ∈ X.pn ++ pins, p.1 ≠ it) : Inv X pins σ H { s with heap := h', toks := t' } := by
 have nit : ∀ b u, H b = some u -> b ≠ it := fun b u e z => by rw [z, hn] at e; cases e
 refine I.step (g' := s.gens) (d' := s.drawn) (ch := [it]) (fun b hb => ?_) (fun b o _ _ hc e _ => k b o (fun z => hc (by simp [z])) e) (fun b o _ _ hc e _ => ⟨o.slots, k b o (fun z => hc (by simp [z])) e⟩) (fun _ _ _ _ n => n)
   (fun b o hc e => ⟨o, k b o (fun z => hc (by simp [z])) e⟩) (fun _ _ e => e) (fun _ _ _ e => e) (fun b ps e => ⟨#[], by rw [e]; simp⟩) (fun m hm => ?_) (fun b u e => ?_) I.bare
 · have e : b = it := by simpa using hb
   subst e
   exact ⟨h1, hL, h2, h3⟩
 · obtain ⟨o, es, ep, ho, r⟩ := hm
   exact ⟨o, es, ep, k _ o (Ne.symm hL) ho, r⟩
 · refine (I.hok b u e).stay (fun c v hc q => k c v ?_ q) (fun _ q => q) fun _ _ q => q
   rcases hc with z | z
   · rw [z]; exact nit b u e
   · exact nit c _ z
theorem Inv.tok (I : Inv X pins σ H s) (t : Nat) : Inv X pins σ H { s with toks := t } := I.un (h' := s.heap) (t' := t) Un.refl I.hok
theorem Inv.kept {t' : Nat} (I : Inv X pins σ H s) (k : ∀ b u, s.heap.get? b = some u -> h'.get? b = some u) : Inv X pins σ H { s with heap := h', toks := t' } := I.un (Un.kept k) (I.hok.kept k)
theorem Inv.laid {a : Addr} {o : HO} {t' : Nat} (I : Inv X pins σ H s) (k : ∀ b u, s.heap.get? b = some u -> h'.get? b = some u) (hp : s.heap.objs.size <= a) (new : ObjOk X.prog X.w (upd H a o) h' a o) :
   Inv X pins σ (upd H a o) { s with heap := h', toks := t' } := I.un (Un.laid k hp (I.hok.fresh hp)) (I.hok.laid k hp new)
theorem Inv.write {x e : Addr} {o : HO} {t' : Nat} (I : Inv X pins σ H s) (mu : Mut (H x)) (he : e = x \/ H e = some (.own x)) (k : ∀ b u, b ≠ e -> s.heap.get? b = some u -> h'.get? b = some u) (heo : ∃ u, h'.get? e = some u)
   (new : ObjOk X.prog X.w (upd H x o) h' x o) : Inv X pins σ (upd H x o) { s with heap := h', toks := t' } := I.un (Un.write mu he k heo) (I.hok.write mu he k heo new)
theorem Inv.pins_of {pins' : List (Addr × Obj)} (I : Inv X pins σ H s) (h : ∀ p ∈ pins', s.heap.get? p.1 = some p.2 /\ H p.1 = none /\ p.1 ≠ X.env.locals /\ p.1 ∉ X.fs /\ ∀ v, p.2.data ≠ .cell v) : Inv X pins' σ H s :=
 ⟨I.ok, I.os, I.bare, I.base, I.loc, I.cell, I.free, I.freeC, fun p hp => (List.mem_append.mp hp).elim (fun z => I.pin p (List.mem_append_left _ z)) (h p), I.hok, I.len⟩
theorem vI {N : List Str} (hN : N.Nodup) {i j : Nat} {x : Str} (a : N[i]? = some x) (b : N[j]? = some x) : i = j := by
 obtain ⟨h1, e1⟩ := List.getElem?_eq_some_iff.mp a
 obtain ⟨h2, e2⟩ := List.getElem?_eq_some_iff.mp b
 exact (List.getElem_inj hN).mp (e1.trans e2.symm)
theorem store_ok2 {M : Model} {A : Around} {E : Value -> Shared -> Prop} {i : Nat} {x : Str} {v : V} {u : Value} {Q : Unit -> Shared -> Prop} (I : Inv X pins σ H s) (hN : X.N.Nodup) (hi : X.N[i]? = some x) (hx : Loc X.env.scope x) (r : RelV v u)
   (h : ∀ s', Inv X pins (σ.set i (some v)) H s' -> (∃ a, Heap.SameBut a s.heap s'.heap /\ (a = X.env.locals \/ X.env.cells.lookup x = some a)) -> Q () s') (hf : X.fn x = true \/ X.env.scope.names.lookup x = some .local := by first | exact .inl rfl | exact .inr rfl | assumption) : wpAny M A (storeName X.env x u) Q E s := by
 obtain ⟨m, hn, hl⟩ := id I.loc
 have hcls : (X.env.scope.kind == .class || (X.env.scope.kind == .module && X.env.locals != X.env.globals)) = false := by rw [I.ok.kind]; rfl
 have hiσ : i < σ.length := by rw [I.len]; exact (List.getElem?_eq_some_iff.mp hi).1
 have cne := I.cne
 have tracked : ∀ {a : Addr} {h' : Heap}, (∃ o, s.heap.get? a = some o /\ H a = none) -> Heap.SameBut a s.heap h' -> HOk X.prog X.w H h' := fun {a h'} ha hs b ob e => by
   obtain ⟨_, _, hfree⟩ := ha
   refine (I.hok b ob e).stay (fun c w' hc q => (hs.2 c ?_).trans q) (fun _ q => q) fun _ _ q => q
   rintro rfl
   rcases hc with rfl | hc
   · rw [hfree] at e; cases e
   · rw [hfree] at hc; cases hc
 rcases hx with hk | hk
 · refine wpAny_storeName_local hk hn (fun h' hn' hs => ?_) hcls
   obtain ⟨oL, _, _, hoL, _⟩ := id hn
   refine h _ ⟨I.ok, I.os, I.bare, ⟨fun b o e n hb hx => ?_, fun b o e n hb hx => ?_, I.base.free, fun b o e hx => ?_, I.base.tups, I.base.frzs, I.base.tbls⟩, ⟨_, hn', fun j y v' e1 e2 e3 => ?_⟩, fun y c e => ?_, I.free, I.freeC, fun p hp => ?_, tracked ⟨oL, hoL, I.free⟩ hs, by simpa using I.len⟩ ⟨_, hs, .inl rfl⟩
   · exact (hs.2 b (Nat.ne_of_lt (Nat.lt_of_lt_of_le (Heap.lt_size e) I.ok.above))).trans (I.base.keep b o e n hb hx)
   · obtain ⟨sl, e1⟩ := I.base.slot b o e n hb hx
     exact ⟨sl, (hs.2 b (Nat.ne_of_lt (Nat.lt_of_lt_of_le (Heap.lt_size e) I.ok.above))).trans e1⟩
   · obtain ⟨o', e1⟩ := I.base.there b o e hx
     exact ⟨o', (hs.2 b (Nat.ne_of_lt (Nat.lt_of_lt_of_le (Heap.lt_size e) I.ok.above))).trans e1⟩
   · by_cases hj : j = i
     · subst hj
       rw [hi] at e1; cases e1
       rw [List.getElem?_set_self hiσ] at e2
       cases e2
       exact ⟨u, r, .inl ⟨hk, by simp⟩⟩
     · rw [List.getElem?_set_ne (Ne.symm hj)] at e2
       obtain ⟨u', r', q⟩ := hl j y v' e1 e2 e3
       refine ⟨u', r', ?_⟩
       rcases q with ⟨k, e⟩ | ⟨k, c, e, z⟩
       · refine .inl ⟨k, ?_⟩
         have : y ≠ x := fun e => hj (vI hN e1 (e ▸ hi))
         simp [this, e]
       · exact .inr ⟨k, c, e, z.sameBut hs (cne y c e)⟩
   · obtain ⟨w', z⟩ := I.cell y c e
     exact ⟨w', z.sameBut hs (cne y c e)⟩
   · obtain ⟨e, n, ne, nf, d⟩ := I.pin p hp
     exact ⟨(hs.2 p.1 ne).trans e, n, ne, nf, d⟩
 · have hfn : X.fn x = true := by
     rcases hf with z | z
     · exact z
     · rw [z] at hk; cases hk
   obtain ⟨c, hc⟩ := I.ok.has x (.inl hk)
   obtain ⟨w', z⟩ := I.cell x c hc
   refine wpAny_storeName_cell I.ok.kind hk hc z (fun h' hc' hs => ?_)
   obtain ⟨oc, hoc, hocd⟩ := id z
   refine h { s with heap := h' } ⟨I.ok, I.os, I.bare, ⟨fun b o e n hb hx => ?_, fun b o e n hb hx => ?_, I.base.free, fun b o e hx => ?_, I.base.tups, I.base.frzs, I.base.tbls⟩, ⟨m, hn.sameBut hs (Ne.symm (cne x c hc)), fun j y v' e1 e2 e3 => ?_⟩, fun y c' e => ?_, I.free, I.freeC, fun p hp => ?_, tracked ⟨oc, hoc, I.freeC x c hc⟩ hs, by simpa using I.len⟩ ⟨c, hs, .inr hc⟩
   · exact (hs.2 b (Nat.ne_of_lt (Nat.lt_of_lt_of_le (Heap.lt_size e) (I.ok.cab x c hfn hc)))).trans (I.base.keep b o e n hb hx)
   · obtain ⟨sl, e1⟩ := I.base.slot b o e n hb hx
     exact ⟨sl, (hs.2 b (Nat.ne_of_lt (Nat.lt_of_lt_of_le (Heap.lt_size e) (I.ok.cab x c hfn hc)))).trans e1⟩
   · obtain ⟨o', e1⟩ := I.base.there b o e hx
     exact ⟨o', (hs.2 b (Nat.ne_of_lt (Nat.lt_of_lt_of_le (Heap.lt_size e) (I.ok.cab x c hfn hc)))).trans e1⟩
   · by_cases hj : j = i
     · subst hj
       rw [hi] at e1; cases e1
       rw [List.getElem?_set_self hiσ] at e2
       cases e2
       exact ⟨u, r, .inr ⟨.inl hk, c, hc, hc'⟩⟩
     · rw [List.getElem?_set_ne (Ne.symm hj)] at e2
       obtain ⟨u', r', q⟩ := hl j y v' e1 e2 e3
       refine ⟨u', r', ?_⟩
       rcases q with q | ⟨k, c', e, z'⟩
       · exact .inl q
       · refine .inr ⟨k, c', e, z'.sameBut hs ?_⟩
         rintro rfl
         exact hj (vI hN e1 (I.ok.inj _ _ _ e hc ▸ hi))
   · by_cases hcc : c' = c
     · subst hcc; exact ⟨_, hc'⟩
     · obtain ⟨w2, z2⟩ := I.cell y c' e
       exact ⟨w2, z2.sameBut hs hcc⟩
   · obtain ⟨e, n, ne, nf, d⟩ := I.pin p hp
     refine ⟨(hs.2 p.1 ?_).trans e, n, ne, nf, d⟩
     intro q
     rw [q, hoc] at e
     have q' : oc = p.2 := Option.some.inj e
     exact d w' (by rw [← q']; exact hocd)
theorem qQ {M : Model} {A : Around} {E : Value -> Shared -> Prop} {i : Nat} {x : Str} {v : V} {u : Value} {Q : Unit -> Shared -> Prop} (I : Inv X pins σ H s) (hN : X.N.Nodup) (hi : X.N[i]? = some x) (hx : Loc X.env.scope x) (r : RelV v u)
   (h : ∀ s', Inv X pins (σ.set i (some v)) H s' -> Q () s') (hf : X.fn x = true \/ X.env.scope.names.lookup x = some .local := by first | exact .inl rfl | exact .inr rfl | assumption) : wpAny M A (storeName X.env x u) Q E s :=
 store_ok2 I hN hi hx r (fun s' I' _ => h s' I') hf
theorem Inv.call' {s' : Shared} {ch : List Addr} (I : Inv X pins σ H s) (ho : s'.os = s.os) (u : Un (frs X.stack) ch H H' s.heap s'.heap) (hok : HOk X.prog X.w H' s'.heap) (hg : AllBare s'.gens)
   (hch : ∀ b ∈ ch, (b ∈ X.ex \/ X.s₀.heap.objs.size <= b) /\ b ≠ X.env.locals /\ (∀ x c, X.env.cells.lookup x = some c -> c ≠ b) /\ ∀ p ∈ X.pn ++ pins, p.1 ≠ b) : Inv X pins σ H' s' := by
 obtain ⟨h', g', d', t', o'⟩ := s'
 have e : o' = s.os := ho
 subst e
 exact I.call (g' := g') (t' := t') (d' := d') u hok hg hch
end
abbrev XK := Value -> Option Addr -> Hp -> Prop
abbrev St := List (Option V)
abbrev VK := V -> Hp -> Prop
abbrev TE := St -> Hp -> VK -> Prop
abbrev TT := St -> Hp -> (Bool -> Hp -> Prop) -> Prop
abbrev TA := St -> Hp -> (List V -> Hp -> Prop) -> Prop
structure Ends where
 nx : St -> Hp -> Prop
 rt : VK
 bk : St -> Hp -> Prop := fun _ _ => False
 ct : St -> Hp -> Prop := fun _ _ => False
abbrev TS := Ends -> St -> Hp -> Prop
def EP (X : Cx) (pins : List (Addr × Obj)) (σ : St) (Q : VK) (u : Value) (s' : Shared) : Prop := ∃ v H', Inv X pins σ H' s' /\ RelV v u /\ Q v H'
def TP (X : Cx) (pins : List (Addr × Obj)) (σ : St) (Q : Bool -> Hp -> Prop) (b : Bool) (s' : Shared) : Prop := ∃ H', Inv X pins σ H' s' /\ Q b H'
def AP (X : Cx) (pins : List (Addr × Obj)) (σ : St) (Q : List V -> Hp -> Prop) (us : List Value) (s' : Shared) : Prop := ∃ vs H', Inv X pins σ H' s' /\ Vals vs us /\ Q vs H'
def SP (X : Cx) (pins : List (Addr × Obj)) (D : Ends) (f : Flow) (s' : Shared) : Prop :=
 match f with
 | .next => ∃ σ' H', Inv X pins σ' H' s' /\ D.nx σ' H'
 | .brk => ∃ σ' H', Inv X pins σ' H' s' /\ D.bk σ' H'
 | .cont => ∃ σ' H', Inv X pins σ' H' s' /\ D.ct σ' H'
 | .ret u => ∃ v σ' H', Inv X pins σ' H' s' /\ RelV v u /\ D.rt v H'
def PE (X : Cx) (e : Expr) (t : TE) : Prop :=
 ∀ (pins : List (Addr × Obj)) (s : Shared) (σ : St) (H : Hp) (Q : VK), Inv X pins σ H s -> t σ H Q -> wpAny (model X.prog X.w) X.A (eval e X.env) (EP X pins σ Q) X.xe s
def PT (X : Cx) (e : Expr) (t : TT) : Prop :=
 ∀ (pins : List (Addr × Obj)) (s : Shared) (σ : St) (H : Hp) (Q : Bool -> Hp -> Prop), Inv X pins σ H s -> t σ H Q -> wpAny (model X.prog X.w) X.A (isTrue e X.env (eval e X.env)) (TP X pins σ Q) X.xe s
def PW (X : Cx) (e : Expr) (t : TT) : Prop :=
 ∀ (whole : Sem Value) (pins : List (Addr × Obj)) (s : Shared) (σ : St) (H : Hp) (Q : Bool -> Hp -> Prop), Inv X pins σ H s -> t σ H Q -> wpAny (model X.prog X.w) X.A (isTrue e X.env whole) (TP X pins σ Q) X.xe s
theorem PW.pt {X : Cx} {e : Expr} {t : TT} (h : PW X e t) : PT X e t := h _
def PA (X : Cx) (es : List Expr) (t : TA) : Prop :=
 ∀ (pos : Pos) (pins : List (Addr × Obj)) (s : Shared) (σ : St) (H : Hp) (Q : List V -> Hp -> Prop), Inv X pins σ H s -> t σ H Q -> wpAny (model X.prog X.w) X.A (spliced (backTo pos (starEach es X.env))) (AP X pins σ Q) X.xe s
def PS (X : Cx) (st : Stmt) (t : TS) : Prop :=
 ∀ (pins : List (Addr × Obj)) (s : Shared) (σ : St) (H : Hp) (D : Ends), Inv X pins σ H s -> t D σ H -> wpAny (model X.prog X.w) X.A (exec st X.env) (SP X pins D) X.xe s
def PSs (X : Cx) (st : List Stmt) (t : TS) : Prop :=
 ∀ (pins : List (Addr × Obj)) (s : Shared) (σ : St) (H : Hp) (D : Ends), Inv X pins σ H s -> t D σ H -> wpAny (model X.prog X.w) X.A (execs st X.env) (SP X pins D) X.xe s
theorem thn {α : Type} {t : Sem α} {Q Q' : α -> Shared -> Prop} {M : Model} {A : Around} {E : Value -> Shared -> Prop} {s : Shared} (h : wpAny M A t Q E s) (hQ : ∀ a s, Q a s -> Q' a s) : wpAny M A t Q' E s := wpAny_mono h hQ fun _ _ x => x
section
variable {X : Cx}
def tVar (i : Nat) : TE := fun σ H Q => ∃ v, σ[i]? = some (some v) /\ Q v H
def tC (v : V) : TE := fun _ H Q => Q v H
theorem pe_var {i : Nat} {x : Str} {pos : Pos} (hN : X.N[i]? = some x) (hv : Vis X.env.scope x) (hd : (x == ("__debug__" : Str)) = false := by decide) (hcd : (x == ("__classdict__" : Str)) = false := by decide) : PE X (.Name x pos) (tVar i) := by
 intro pins s σ H Q I h
 obtain ⟨v, e, h⟩ := h
 obtain ⟨m, hn, hl⟩ := I.loc
 obtain ⟨u, r, l⟩ := hl i x v hN e hv
 have fin : EP X pins σ Q u s := ⟨v, H, I, r, h⟩
 rcases l with ⟨hk, hm⟩ | ⟨hk, c, hc, hcell⟩
 · exact wpAny_Name (wpAny_loadName_local I.ok.kind hk hn hm fin) hd
 · rcases hk with hk | hk
   · exact wpAny_Name (wpAny_loadName_cell I.ok.kind hk hc hcell fin) hd
   · exact wpAny_Name (wpAny_loadName_free I.ok.kind hk hc hcell fin hcd) hd
theorem zC {i j pos} : PE X (.Constant (.int i) j pos) (tC (.int i)) := fun _ _ _ H _ I h => wpAny_Constant_int ⟨.int i, H, I.tok _, ⟨_, rfl⟩, h⟩
theorem xH {b j pos} : PE X (.Constant (.bool b) j pos) (tC (.bl b)) := fun _ _ _ H _ I h => Constant_bool ⟨.bl b, H, I, rfl, h⟩
theorem pe_non {j pos} : PE X (.Constant .none j pos) (tC .non) := fun _ _ _ H _ I h => Constant_none ⟨.non, H, I, rfl, h⟩
theorem zF {x j pos} : PE X (.Constant (.str x) j pos) (tC (.str x)) := fun _ _ _ H _ I h => Calls.Constant_str ⟨.str x, H, I.tok _, ⟨_, rfl⟩, h⟩
def Gl (X : Cx) (x : Str) : Prop := X.env.kindOf x = some .globalImplicit
theorem qH {E : Value -> Shared -> Prop} {pins : List (Addr × Obj)} {s : Shared} {σ : St} {H : Hp} {x : Str} {u : Value} {pos : Pos} {Q : Value -> Shared -> Prop} (I : Inv X pins σ H s) (hg : Gl X x) (hm : X.mg x = some u) (h : Q u s)
   (hd : (x == ("__debug__" : Str)) = false := by decide) : wpAny (model X.prog X.w) X.A (eval (.Name x pos) X.env) Q E s :=
 Calls.Name_function_global I.ok.kind hg (Calls.loadGlobal_global (by rw [I.ok.glob]; exact I.mod.glob.keeps I.bk) hm h) hd
theorem vJ {E : Value -> Shared -> Prop} {pins : List (Addr × Obj)} {s : Shared} {σ : St} {H : Hp} {x : Str} {u : Value} {pos : Pos} {Q : Value -> Shared -> Prop} (I : Inv X pins σ H s) (hg : Gl X x) (hm : X.mg x = none) (hv : bootBuiltins x = some u) (h : Q u s)
   (hn : x ≠ "__name__" := by decide) (hd : (x == ("__debug__" : Str)) = false := by decide) : wpAny (model X.prog X.w) X.A (eval (.Name x pos) X.env) Q E s := by
 obtain ⟨mb, h1, h2⟩ := I.mod.blt
 exact Calls.Name_function_global I.ok.kind hg (Calls.loadGlobal_builtin (by rw [I.ok.glob]; exact I.mod.glob.keeps I.bk) hm (by rw [I.ok.blt]; exact h1.keeps I.bk) ((h2 x hn).trans hv) h) hd
theorem pe_glob {x : Str} {v : V} {u : Value} {pos : Pos} (hg : Gl X x) (hm : X.mg x = some u) (r : RelV v u) (hd : (x == ("__debug__" : Str)) = false := by decide) : PE X (.Name x pos) (tC v) :=
 fun _ _ _ H _ I h => qH I hg hm ⟨v, H, I, r, h⟩ hd
theorem pe_bltn {x : Str} {v : V} {u : Value} {pos : Pos} (hg : Gl X x) (hm : X.mg x = none) (hv : bootBuiltins x = some u) (r : RelV v u) (hn : x ≠ "__name__" := by decide) (hd : (x == ("__debug__" : Str)) = false := by decide) : PE X (.Name x pos) (tC v) :=
 fun _ _ _ H _ I h => vJ I hg hm hv ⟨v, H, I, r, h⟩ hn hd
variable {a b : Expr} {ta tb : TE} {pos : Pos}
def tB (t : TE) : TT := fun σ H Q => t σ H fun x H1 => ∃ c, x = .bl c /\ Q c H1
theorem xC {e : Expr} {t : TE} (h : PE X e t) (he : ∀ whole, isTrue e X.env whole = (do let v ← whole; standAt e.pos; holding [v] (truthy v)) := by intro _; rfl) : PT X e (tB t) := by
 intro pins s σ H Q I hw
 refine isTrue_plain (thn (h pins s σ H _ I hw) fun v s1 ⟨x, H1, I1, r1, q1⟩ => ?_) (he _)
 obtain ⟨d, rfl, q⟩ := q1
 cases r1
 exact wpAny_truthy_bool ⟨H1, I1, q⟩
variable {tA tB' : TT} {rest : List Expr}
def tAnd (t u : TT) : TT := fun σ H Q => t σ H fun c H1 => if c = true then u σ H1 Q else Q false H1
def tOr (t u : TT) : TT := fun σ H Q => t σ H fun c H1 => if c = true then Q true H1 else u σ H1 Q
def tNot (t : TT) : TT := fun σ H Q => t σ H fun c H1 => Q (!c) H1
theorem uU (ha : PT X a tA) : PW X (.BoolOp .And [a] pos) tA := by
 intro wh pins s σ H Q I h
 refine isTrue_and (thn (ha pins s σ H Q I h) fun c s1 e => ?_)
 cases c with
 | true => exact isTrue_and_nil e
 | false => exact e
theorem qM (ha : PT X a tA) : PW X (.BoolOp .Or [a] pos) tA := by
 intro wh pins s σ H Q I h
 refine isTrue_or (thn (ha pins s σ H Q I h) fun c s1 e => ?_)
 cases c with
 | false => exact isTrue_or_nil e
 | true => exact e
theorem wX (ha : PT X a tA) (hb : PW X (.BoolOp .And (b :: rest) pos) tB') : PW X (.BoolOp .And (a :: b :: rest) pos) (tAnd tA tB') := by
 intro wh pins s σ H Q I h
 refine isTrue_and (thn (ha pins s σ H _ I h) fun c s1 ⟨H1, I1, q1⟩ => ?_)
 cases c with
 | true => exact hb wh pins s1 σ H1 Q I1 q1
 | false => exact ⟨H1, I1, q1⟩
theorem qJ (ha : PT X a tA) (hb : PW X (.BoolOp .Or (b :: rest) pos) tB') : PW X (.BoolOp .Or (a :: b :: rest) pos) (tOr tA tB') := by
 intro wh pins s σ H Q I h
 refine isTrue_or (thn (ha pins s σ H _ I h) fun c s1 ⟨H1, I1, q1⟩ => ?_)
 cases c with
 | true => exact ⟨H1, I1, q1⟩
 | false => exact hb wh pins s1 σ H1 Q I1 q1
theorem xT (ha : PT X a tA) : PT X (.UnaryOp .Not a pos) (tNot tA) := by
 intro pins s σ H Q I h
 exact isTrue_not (ha pins s σ H (fun c H1 => Q (!c) H1) I h)
def tAndV (ta tb : TE) : TE := fun σ H Q => ta σ H fun x H1 => ∃ c, x = .bl c /\ if c = true then tb σ H1 Q else Q (.bl false) H1
def tOrV (ta tb : TE) : TE := fun σ H Q => ta σ H fun x H1 => ∃ c, x = .bl c /\ if c = true then Q (.bl true) H1 else tb σ H1 Q
def tNotV (ta : TE) : TE := fun σ H Q => ta σ H fun x H1 => ∃ c, x = .bl c /\ Q (.bl (!c)) H1
theorem jP {op} {t : TE} (h : PE X a t) : PE X (.BoolOp op [a] pos) t := fun pins s σ H Q I hw => BoolOp_one (h pins s σ H Q I hw)
theorem jQ (ha : PE X a ta) (hb : PE X (.BoolOp .And (b :: rest) pos) tb) : PE X (.BoolOp .And (a :: b :: rest) pos) (tAndV ta tb) := by
 intro pins s σ H Q I h
 refine BoolOp_and (thn (ha pins s σ H _ I h) fun v s1 ⟨x, H1, I1, r1, q1⟩ => ?_)
 obtain ⟨c, rfl, q1⟩ := q1
 cases r1
 refine wpAny_truthy_bool ?_
 cases c with
 | true => exact hb pins s1 σ H1 Q I1 q1
 | false => exact ⟨.bl false, H1, I1, rfl, q1⟩
theorem pe_not (ha : PE X a ta) : PE X (.UnaryOp .Not a pos) (tNotV ta) := by
 intro pins s σ H Q I h
 refine UnaryOp_ (thn (ha pins s σ H _ I h) fun v s1 ⟨x, H1, I1, r1, q1⟩ => ?_)
 obtain ⟨c, rfl, q1⟩ := q1
 cases r1
 exact not_of (wpAny_truthy_bool ⟨.bl (!c), H1, I1, rfl, q1⟩)
def tIf (t : TT) (ta tb : TE) : TE := fun σ H Q => t σ H fun c H1 => if c = true then ta σ H1 Q else tb σ H1 Q
theorem vC {c : Expr} (hc : PT X c tA) (ha : PE X a ta) (hb : PE X b tb) : PE X (.IfExp c a b pos) (tIf tA ta tb) := by
 intro pins s σ H Q I h
 refine wpAny_IfExp (thn (hc pins s σ H _ I h) fun d s1 ⟨H1, I1, q1⟩ => ?_)
 cases d with
 | true => exact ha pins s1 σ H1 Q I1 q1
 | false => exact hb pins s1 σ H1 Q I1 q1
end
def SqL (K : PySem.W.Frag) (H : Hp) (a : Addr) (xs : List V) : Prop :=
 Rd H a (.lst xs) \/
   ∃ (o : Obj) (its : Array Value) (n : Nat), K.lookup a = some o /\ o.cls = .type "list" /\ o.dict = none /\ o.data = .seq its n /\ its.size <= sizeLine /\ Vals xs its.toList
def SqT (K : PySem.W.Frag) (H : Hp) (a : Addr) (xs : List V) : Prop :=
 Rd H a (.tup xs) \/
   ∃ (o : Obj) (its : Array Value) (n : Nat), K.lookup a = some o /\ o.cls = .type "tuple" /\ o.data = .seq its n /\ its.size <= sizeLine /\ Vals xs its.toList
def absV : Value -> Option V
 | .none => some .non
 | .bool b => some (.bl b)
 | .int i _ => some (.int i)
 | .str x _ => some (.str x)
 | .bytes b _ => some (.byt b)
 | .float b _ => some (.flt b)
 | .ref a => some (.ref a)
 | .type n => some (.ty n)
 | _ => none
theorem RelV.abs {x : V} {u : Value} (r : RelV x u) : absV u = some x := by
 cases x with
 | non => cases r; rfl
 | bl _ => cases r; rfl
 | int _ => obtain ⟨t, rfl⟩ := r; rfl
 | str _ => obtain ⟨t, rfl⟩ := r; rfl
 | byt _ => obtain ⟨t, rfl⟩ := r; rfl
 | flt _ => obtain ⟨t, rfl⟩ := r; rfl
 | ref _ => cases r; rfl
 | ty _ => cases r; rfl
theorem RelV.inj {x y : V} {u : Value} (r : RelV x u) (q : RelV y u) : x = y := Option.some.inj (r.abs.symm.trans q.abs)
theorem Vals.inj : ∀ {xs ys : List V} {us : List Value}, Vals xs us -> Vals ys us -> xs = ys
 | _, _, _, .nil, .nil => rfl
 | _, _, _, .cons r t, .cons r' t' => by rw [r.inj r', Vals.inj t t']
section
variable {X : Cx} {pins : List (Addr × Obj)} {σ : St} {H : Hp} {s : Shared} {a : Addr} {xs ys : List V}
theorem SqL.of {K : PySem.W.Frag} (h : H a = some (.lst xs)) : SqL K H a xs := .inl (.inl h)
theorem SqT.of {K : PySem.W.Frag} (h : H a = some (.tup xs)) : SqT K H a xs := .inl (.inl h)
theorem Inv.list (I : Inv X pins σ H s) (h : SqL X.K H a xs) : ∃ its : List Value, Vals xs its /\ PlainL s.heap a its.toArray /\ xs.length <= sizeLine := by
 rcases h with h | ⟨o, its, n, hk, hc, hd, hs, hz, r⟩
 · obtain ⟨z, its, n, r, e⟩ := h.ok I.hok
   exact ⟨its, r, ⟨_, n, e, rfl, rfl, rfl⟩, z⟩
 · refine ⟨its.toList, r, ⟨o, n, I.kIn a o hk, hc, hd, by simpa using hs⟩, ?_⟩
   have e := r.length
   simp only [Array.length_toList] at e
   omega
theorem Inv.tuple (I : Inv X pins σ H s) (h : SqT X.K H a xs) : ∃ its : List Value, Vals xs its /\ IsTup s.heap a its.toArray /\ xs.length <= sizeLine := by
 rcases h with h | ⟨o, its, n, hk, hc, hs, hz, r⟩
 · obtain ⟨z, its, r, p⟩ := h.ok I.hok
   exact ⟨its, r, p, z⟩
 · refine ⟨its.toList, r, ⟨o, I.kIn a o hk, hc, n, by simpa using hs⟩, ?_⟩
   have e := r.length
   simp only [Array.length_toList] at e
   omega
theorem Inv.list_inj (I : Inv X pins σ H s) (h : SqL X.K H a xs) (h' : SqL X.K H a ys) : xs = ys := by
 obtain ⟨its, r, ⟨o, n, e, _, _, d⟩, _⟩ := I.list h
 obtain ⟨its', r', ⟨o', n', e', _, _, d'⟩, _⟩ := I.list h'
 rw [e] at e'; cases e'
 rw [d] at d'
 injection d' with d1 _
 have : its = its' := by simpa using congrArg Array.toList d1
 subst this
 exact r.inj r'
theorem Inv.tuple_inj (I : Inv X pins σ H s) (h : SqT X.K H a xs) (h' : SqT X.K H a ys) : xs = ys := by
 obtain ⟨its, r, ⟨o, e, _, n, d⟩, _⟩ := I.tuple h
 obtain ⟨its', r', ⟨o', e', _, n', d'⟩, _⟩ := I.tuple h'
 rw [e] at e'; cases e'
 rw [d] at d'
 injection d' with d1 _
 have : its = its' := by simpa using congrArg Array.toList d1
 subst this
 exact r.inj r'
end
abbrev Cx.wish (X : Cx) (E : Value -> Shared -> Prop) : Cx := { X with xe := E }
abbrev Cx.nox (X : Cx) : Cx := X.wish fun _ _ => False
theorem Cx.Ok.wish {X : Cx} (ok : X.Ok) (E : Value -> Shared -> Prop) : (X.wish E).Ok :=
 ⟨ok.mod, ok.kind, ok.glob, ok.blt, ok.above, ok.inj, ok.has, ok.cab, ok.hd, ok.frames, ok.stk, ok.exf, ok.bs, ok.bsz, ok.noex, ok.exfs, ok.funs, ok.frf⟩
theorem Cx.Ok.unwish {X : Cx} {E : Value -> Shared -> Prop} (ok : (X.wish E).Ok) : X.Ok :=
 ⟨ok.mod, ok.kind, ok.glob, ok.blt, ok.above, ok.inj, ok.has, ok.cab, ok.hd, ok.frames, ok.stk, ok.exf, ok.bs, ok.bsz, ok.noex, ok.exfs, ok.funs, ok.frf⟩
section
variable {X : Cx} {pins : List (Addr × Obj)} {σ : St} {H : Hp} {s : Shared} {E : Value -> Shared -> Prop}
theorem Inv.wish (I : Inv X pins σ H s) (E : Value -> Shared -> Prop) : Inv (X.wish E) pins σ H s := ⟨I.ok.wish E, I.os, I.bare, I.base, I.loc, I.cell, I.free, I.freeC, I.pin, I.hok, I.len⟩
theorem Inv.unwish (I : Inv (X.wish E) pins σ H s) : Inv X pins σ H s := ⟨I.ok.unwish, I.os, I.bare, I.base, I.loc, I.cell, I.free, I.freeC, I.pin, I.hok, I.len⟩
theorem SP.unwish {D : Ends} {f : Flow} {s' : Shared} (h : SP (X.wish E) pins D f s') : SP X pins D f s' := by
 cases f with
 | next => obtain ⟨σ', H', I, q⟩ := h; exact ⟨σ', H', I.unwish, q⟩
 | brk => obtain ⟨σ', H', I, q⟩ := h; exact ⟨σ', H', I.unwish, q⟩
 | cont => obtain ⟨σ', H', I, q⟩ := h; exact ⟨σ', H', I.unwish, q⟩
 | ret u => obtain ⟨v, σ', H', I, r, q⟩ := h; exact ⟨v, σ', H', I.unwish, r, q⟩
theorem PSs.nox {st : List Stmt} {t : TS} (h : PSs X.nox st t) : PSs X st t := fun pins s σ H D I hw =>
 wpAny_mono (h pins s σ H D (I.wish _) hw) (fun _ _ q => q.unwish) fun _ _ z => False.elim z
end
section
variable {X : Cx} {st : Stmt} {rest : List Stmt} {t u : TS} {e : Expr} {te : TE} {pos : Pos}
def tNext : TS := fun D σ H => D.nx σ H
def tSeq (t u : TS) : TS := fun D σ H => t { D with nx := u D } σ H
theorem pss_nil : PSs X [] tNext := fun _ _ σ H _ I h => wpAny_execs_nil ⟨σ, H, I, h⟩
theorem zB (h1 : PS X st t) (h2 : PSs X rest u) : PSs X (st :: rest) (tSeq t u) := by
 intro pins s σ H D I h
 refine wpAny_execs_cons (thn (h1 pins s σ H { D with nx := u D } I h) fun f s1 q => ?_)
 cases f with
 | next =>
   obtain ⟨σ', H', I', q⟩ := q
   exact h2 pins s1 σ' H' D I' q
 | ret v => exact q
 | brk => exact q
 | cont => exact q
theorem zD (h1 : PS X st t) : PSs X [st] t := by
 intro pins s σ H D I h
 refine wpAny_execs_cons (thn (h1 pins s σ H D I h) fun f s1 q => ?_)
 cases f with
 | next => exact wpAny_execs_nil q
 | ret v => exact q
 | brk => exact q
 | cont => exact q
theorem Inv.quiet {pins : List (Addr × Obj)} {σ : St} {H : Hp} {s : Shared} (I : Inv X pins σ H s) : interactive X.env = false := by simp [interactive, I.ok.kind]
def tDrop (te : TE) : TS := fun D σ H => te σ H fun _ H1 => D.nx σ H1
theorem yG (he : PE X e te) (hs : swapsWith e none pos.line X.env = pure false := by rfl) : PS X (.Expr e pos) (tDrop te) := by
 intro pins s σ H D I h
 exact wpAny_Expr_any (thn (he pins s σ H _ I h) fun v s1 ⟨x, H1, I1, r1, q1⟩ => ⟨σ, H1, I1, q1⟩) I.quiet hs
def tRet (te : TE) : TS := fun D σ H => te σ H D.rt
theorem zM (he : PE X e te) : PS X (.Return (some e) pos) (tRet te) := by
 intro pins s σ H D I h
 exact wpAny_Return_some (thn (he pins s σ H _ I h) fun v s1 ⟨x, H1, I1, r1, q1⟩ => ⟨x, σ, H1, I1, r1, q1⟩)
def tRetN : TS := fun D _ H => D.rt .non H
def tIfS (c : TT) (t u : TS) : TS := fun D σ H => c σ H fun b H1 => if b = true then t D σ H1 else u D σ H1
theorem yB {c : Expr} {a b : List Stmt} {tc : TT} (hc : PT X c tc) (ha : PSs X a t) (hb : PSs X b u) : PS X (.If c a b pos) (tIfS tc t u) := by
 intro pins s σ H D I h
 refine wpAny_If (thn (hc pins s σ H _ I h) fun d s1 ⟨H1, I1, q1⟩ => ?_)
 cases d with
 | true => exact ha pins s1 σ H1 D I1 q1
 | false => exact hb pins s1 σ H1 D I1 q1
end
abbrev TG := V -> St -> Hp -> (St -> Hp -> Prop) -> Prop
abbrev TGs := List V -> St -> Hp -> (St -> Hp -> Prop) -> Prop
def PG (X : Cx) (target : Expr) (t : TG) : Prop :=
 ∀ (pins : List (Addr × Obj)) (s : Shared) (σ : St) (H : Hp) (v : V) (u : Value) (Q : St -> Hp -> Prop), Inv X pins σ H s -> RelV v u -> t v σ H Q ->
   wpAny (model X.prog X.w) X.A (assign target X.env u) (fun _ s' => ∃ σ' H', Inv X pins σ' H' s' /\ Q σ' H') X.xe s
def PGs (X : Cx) (ts : List Expr) (t : TGs) : Prop :=
 ∀ (pins : List (Addr × Obj)) (s : Shared) (σ : St) (H : Hp) (vs : List V) (us : List Value) (Q : St -> Hp -> Prop), Inv X pins σ H s -> Vals vs us -> t vs σ H Q ->
   wpAny (model X.prog X.w) X.A (assignInOrder ((assignEach ts X.env).map (·.2)) us) (fun _ s' => ∃ σ' H', Inv X pins σ' H' s' /\ Q σ' H') X.xe s
abbrev TSet := V -> V -> V -> Hp -> (Hp -> Prop) -> Prop
def PSet (X : Cx) (t : TSet) : Prop :=
 ∀ (pins : List (Addr × Obj)) (s : Shared) (σ : St) (H : Hp) (o i v : V) (ov iv u : Value) (Q : Hp -> Prop), Inv X pins σ H s -> RelV o ov -> RelV i iv -> RelV v u -> t o i v H Q ->
   wpAny (model X.prog X.w) X.A (setItem ov iv u) (fun _ s' => ∃ H', Inv X pins σ H' s' /\ Q H') X.xe s
section
variable {X : Cx} {pos : Pos}
def gName (i : Nat) : TG := fun v σ H Q => Q (σ.set i (some v)) H
theorem yV {i : Nat} {x : Str} (hN : X.N.Nodup) (hi : X.N[i]? = some x) (hx : Loc X.env.scope x) (hf : X.fn x = true \/ X.env.scope.names.lookup x = some .local := by first | exact .inl rfl | exact .inr rfl | assumption) : PG X (.Name x pos) (gName i) := by
 intro pins s σ H v u Q I r h
 exact wpAny_assign_Name (qQ I hN hi hx r (fun s' I' => ⟨_, H, I', h⟩) hf)
def tAsg (te : TE) (g : TG) : TS := fun D σ H => te σ H fun x H1 => g x σ H1 D.nx
theorem zR {i : Nat} {x : Str} {e : Expr} {te : TE} {pos' : Pos} (hN : X.N.Nodup) (hi : X.N[i]? = some x) (hx : Loc X.env.scope x) (he : PE X e te) (hs : swapsWith e (some (.Name x pos')) pos.line X.env = pure false := by rfl) (hf : X.fn x = true \/ X.env.scope.names.lookup x = some .local := by first | exact .inl rfl | exact .inr rfl | assumption) :
   PS X (.Assign [.Name x pos'] e pos) (tAsg te (gName i)) := by
 intro pins s σ H D I h
 refine wpAny_Assign_Name (thn (he pins s σ H _ I h) fun v s1 ⟨y, H1, I1, r1, q1⟩ => ?_) hs
 exact qQ I1 hN hi hx r1 (fun s2 I2 => ⟨_, H1, I2, q1⟩) hf
end
section
variable {X : Cx} {pos : Pos}
def tWhile (c : TT) (tb : TS) : TS := fun D σ H => ∃ W : Nat -> St -> Hp -> Prop, (∃ m, W m σ H) /\ ∀ m σ H, W m σ H ->
 c σ H fun b H1 => if b = true then ∃ N : St -> Hp -> Prop, (∀ σ' H', N σ' H' -> ∃ m', m' < m /\ W m' σ' H') /\ tb { D with nx := N, ct := N, bk := D.nx } σ H1 else D.nx σ H1
theorem ps_while {c : Expr} {body : List Stmt} {tc : TT} {tb : TS} (hp : PassesOwn (model X.prog X.w) X.A X.env X.xe) (hc : PT X c tc) (hb : PSs X body tb) : PS X (.While c body [] pos) (tWhile tc tb) := by
 intro pins s σ H D I h
 obtain ⟨W, ⟨m0, w0⟩, turn⟩ := h
 refine wpAny_While (codeAny_whileLoop (fun n s' => ∃ σ' H', Inv X pins σ' H' s' /\ W n σ' H') ?_ m0 ⟨σ, H, I, w0⟩)
 rintro n s1 ⟨σ1, H1, I1, w1⟩
 refine wpAny_passesOwn hp (thn (hc pins s1 σ1 H1 _ I1 (turn n σ1 H1 w1)) fun b s2 ⟨H2, I2, q2⟩ => ?_)
 cases b with
 | true =>
   obtain ⟨N, hN, q2⟩ := q2
   rw [if_pos rfl]
   refine wpAny_passesOwn hp (thn (hb pins s2 σ1 H2 _ I2 q2) fun f s3 q3 => ?_)
   cases f with
   | next =>
     obtain ⟨σ3, H3, I3, n3⟩ := q3
     obtain ⟨m', hm, w3⟩ := hN σ3 H3 n3
     exact ⟨m', hm, σ3, H3, I3, w3⟩
   | cont =>
     obtain ⟨σ3, H3, I3, n3⟩ := q3
     obtain ⟨m', hm, w3⟩ := hN σ3 H3 n3
     exact ⟨m', hm, σ3, H3, I3, w3⟩
   | brk => exact q3
   | ret v => exact q3
 | false =>
   rw [if_neg Bool.false_ne_true]
   exact wpAny_execs_nil ⟨σ1, H2, I2, q2⟩
end
structure It where
 go : Nat -> Hp -> Prop
 yld : Nat -> Hp -> V -> Hp -> Prop
 stop : Nat -> Hp -> Prop
def vT (X : Cx) (pins : List (Addr × Obj)) (H : Hp) (b : Addr) : Prop :=
 H b = none /\ b ≠ X.env.locals /\ b ∉ X.fs /\ (b ∈ X.ex \/ X.s₀.heap.objs.size <= b) /\ (∀ x c, X.env.cells.lookup x = some c -> c ≠ b) /\ ∀ p ∈ X.pn ++ pins, p.1 ≠ b
theorem Inv.fpOk {X : Cx} {pins : List (Addr × Obj)} {σ : St} {H H' : Hp} {s : Shared} {b : Addr} (I : Inv X pins σ H s) (hb : s.heap.objs.size <= b) (hn : H' b = none) : vT X pins H' b := by
 refine ⟨hn, Nat.ne_of_gt (Nat.lt_of_lt_of_le I.lt hb), I.nofs hb, .inr (Nat.le_trans I.sz hb), fun x c e z => ?_, fun p hp z => ?_⟩
 · obtain ⟨v, q⟩ := I.cell x c e
   exact absurd (Nat.lt_of_lt_of_le q.lt (by rw [z]; exact hb)) (Nat.lt_irrefl _)
 · exact absurd (Nat.lt_of_lt_of_le (Heap.lt_size (I.pin p hp).1) (by rw [z]; exact hb)) (Nat.lt_irrefl _)
structure Turn (P : Program) (w : World) (K : PySem.W.Frag) (tg : Expr) (J : It) (fp : List Addr) (it : Addr) (tn : Nat -> Heap -> Prop) : Prop where
 mem : it ∈ fp
 obj : ∀ i h, tn i h -> ∀ b ∈ fp, ∃ o, h.get? b = some o /\ ∀ v, o.data ≠ .cell v
 keep : ∀ i h h', tn i h -> (∀ b ∈ fp, ∀ o, h.get? b = some o -> h'.get? b = some o) -> tn i h'
 item : ∀ (X : Cx), X.prog = P -> X.w = w -> X.K = K -> X.calm = true -> ∀ (i : Nat) (pins : List (Addr × Obj)) (s : Shared) (σ : St) (H : Hp) (E : Value -> Shared -> Prop), Inv X pins σ H s -> (∀ b ∈ fp, vT X pins H b) -> tn i s.heap -> J.go i H ->
   wpAny (model P w) X.A (pyNext (.ref it)) (fun r s1 => ∃ u, r = some u /\
     wpAny (model P w) X.A (letOwnedTupleGo tg (.ref it) u) (fun _ s2 => ∃ x H', Inv X pins σ H' s2 /\ RelV x u /\ J.yld i H x H' /\ tn (i + 1) s2.heap /\ ∀ b ∈ fp, H' b = none) E s1) E s
 done : ∀ (X : Cx), X.prog = P -> X.w = w -> X.K = K -> X.calm = true -> ∀ (i : Nat) (pins : List (Addr × Obj)) (s : Shared) (σ : St) (H : Hp) (E : Value -> Shared -> Prop), Inv X pins σ H s -> (∀ b ∈ fp, vT X pins H b) -> tn i s.heap -> J.stop i H ->
   wpAny (model P w) X.A (pyNext (.ref it)) (fun r s1 => r = none /\ Inv X pins σ H s1) E s
 self : ∀ (A : Around) (i : Nat) (s : Shared) (Q : Value -> Shared -> Prop) (E : Value -> Shared -> Prop), tn i s.heap -> Q (.ref it) s -> wpAny (model P w) A (pyIter (.ref it)) Q E s
abbrev TI := St -> Hp -> (It -> Hp -> Prop) -> Prop
def PIE (X : Cx) (pins : List (Addr × Obj)) (σ : St) (tg : Expr) (R : It -> Hp -> Prop) (itv : Value) (s2 : Shared) : Prop :=
 ∃ (it : Addr) (fp : List Addr) (tn : Nat -> Heap -> Prop) (J : It) (H' : Hp), itv = .ref it /\ Inv X pins σ H' s2 /\ Turn X.prog X.w X.K tg J fp it tn /\ tn 0 s2.heap /\ (∀ b ∈ fp, vT X pins H' b) /\ R J H'
def PI (X : Cx) (tg iter : Expr) (wi : TI) : Prop :=
 ∀ (pins : List (Addr × Obj)) (s : Shared) (σ : St) (H : Hp) (R : It -> Hp -> Prop), Inv X pins σ H s -> wi σ H R ->
   wpAny (model X.prog X.w) X.A (eval iter X.env) (fun v s1 => wpAny (model X.prog X.w) X.A (pyIter v) (PIE X pins σ tg R) X.xe s1) X.xe s
theorem go_of {M : Model} {A : Around} {E : Value -> Shared -> Prop} {s : Shared} {tg : Expr} {it : Addr} {u : Value} {o : Obj} {n : String} {vs : Array Value} {Q : Unit -> Shared -> Prop} (ho : s.heap.get? it = some o) (hc : o.cls = .type n) (hd : o.data = .fields vs)
   (hn : ["enumerate", "zip", "dict_itemiterator", "dict_reverseitemiterator", "odict_iterator", "itertools.zip_longest", "itertools.pairwise"].contains n = false) (hQ : Q () s) : wpAny M A (letOwnedTupleGo tg (.ref it) u) Q E s := by
 unfold letOwnedTupleGo
 cases tg <;> first
   | exact wpAny_pure hQ
   | (cases u <;> first
       | exact wpAny_pure hQ
       | (refine wpAny_bind (wpAny_load ho ?_)
          rw [hc, hd]
          show wpAny M A (if (["enumerate", "zip", "dict_itemiterator", "dict_reverseitemiterator", "odict_iterator", "itertools.zip_longest", "itertools.pairwise"].contains n && vs[0]? == some (rawInt _)) = true then _ else _) Q E s
          rw [if_neg (by intro h; rw [hn, Bool.false_and] at h; cases h)]
          exact wpAny_pure hQ))
def Itl (K : PySem.W.Frag) (a : Addr) : It :=
 ⟨fun i H => ∃ xs x, SqL K H a xs /\ xs[i]? = some x, fun i H x H' => H' = H /\ ∀ xs, SqL K H a xs -> xs[i]? = some x, fun i H => ∃ xs, SqL K H a xs /\ xs.length <= i⟩
def Itt (K : PySem.W.Frag) (a : Addr) : It :=
 ⟨fun i H => ∃ xs x, SqT K H a xs /\ xs[i]? = some x, fun i H x H' => H' = H /\ ∀ xs, SqT K H a xs -> xs[i]? = some x, fun i H => ∃ xs, SqT K H a xs /\ xs.length <= i⟩
def Itr (lo : Int) (n : Nat) : It := ⟨fun i _ => i < n, fun i H x H' => H' = H /\ x = .int (lo + i), fun i _ => n <= i⟩
theorem turn_list {P : Program} {w : World} {K : PySem.W.Frag} {tg : Expr} (a it : Addr) : Turn P w K tg (Itl K a) [it] it (fun i h => h.IsListIter it a i) where
 mem := by simp
 obj := fun i h st b hb => by
   have e : b = it := by simpa using hb
   subst e
   obtain ⟨o, e, c, d⟩ := st
   exact ⟨o, e, fun v z => by rw [d] at z; cases z⟩
 keep := fun i h h' st k => st.at fun o e => k it (by simp) o e
 item := by
   intro X hP hw hK hc i pins s σ H E I hf st hg
   subst hP hw hK
   obtain ⟨xs, x, hq, hx⟩ := hg
   obtain ⟨its, rv, p, hz⟩ := I.list hq
   obtain ⟨u, hu, ru⟩ := rv.get hx
   obtain ⟨f0, f1, f2, f3, f4, f5⟩ := hf it (by simp)
   refine wpAny_pyNext_list_item st p.isList (x := u) (by simpa using hu) fun h' st' sb => ?_
   have I1 : Inv X pins σ H { s with heap := h' } := I.turned (t' := s.toks) (fun b o hb e => (sb.2 b hb).trans e) f0 f1 f3 f4 f5
   obtain ⟨o, e, c, d⟩ := id st'
   exact ⟨u, rfl, go_of (s := { s with heap := h' }) e c d (by decide) ⟨x, H, I1, ru, ⟨rfl, fun ys hy => by rw [I.list_inj hy hq]; exact hx⟩, st', fun b hb => (hf b hb).1⟩⟩
 done := by
   intro X hP hw hK hc i pins s σ H E I hf st hg
   subst hP hw hK
   obtain ⟨xs, hq, hx⟩ := hg
   obtain ⟨its, rv, p, hz⟩ := I.list hq
   obtain ⟨f0, f1, f2, f3, f4, f5⟩ := hf it (by simp)
   have hl := rv.length
   exact wpAny_pyNext_list_end (I.ok.hd hc) st p.isList (by simp; omega) fun h' eb => ⟨rfl, I.turned (t' := s.toks) (fun b o hb e => eb b o hb e) f0 f1 f3 f4 f5⟩
 self := fun _ _ _ _ _ st h => wpAny_pyIter_listiter st h
theorem turn_tuple {P : Program} {w : World} {K : PySem.W.Frag} {tg : Expr} (a it : Addr) : Turn P w K tg (Itt K a) [it] it (fun i h => h.IsTupleIter it a i) where
 mem := by simp
 obj := fun i h st b hb => by
   have e : b = it := by simpa using hb
   subst e
   obtain ⟨o, e, c, d⟩ := st
   exact ⟨o, e, fun v z => by rw [d] at z; cases z⟩
 keep := fun i h h' st k => st.at fun o e => k it (by simp) o e
 item := by
   intro X hP hw hK hc i pins s σ H E I hf st hg
   subst hP hw hK
   obtain ⟨xs, x, hq, hx⟩ := hg
   obtain ⟨its, rv, p, hz⟩ := I.tuple hq
   obtain ⟨u, hu, ru⟩ := rv.get hx
   obtain ⟨f0, f1, f2, f3, f4, f5⟩ := hf it (by simp)
   refine wpAny_pyNext_tuple_item st (show s.heap.IsTuple a its.toArray from p) (x := u) (by simpa using hu) fun h' st' sb => ?_
   have I1 : Inv X pins σ H { s with heap := h' } := I.turned (t' := s.toks) (fun b o hb e => (sb.2 b hb).trans e) f0 f1 f3 f4 f5
   obtain ⟨o, e, c, d⟩ := id st'
   exact ⟨u, rfl, go_of (s := { s with heap := h' }) e c d (by decide) ⟨x, H, I1, ru, ⟨rfl, fun ys hy => by rw [I.tuple_inj hy hq]; exact hx⟩, st', fun b hb => (hf b hb).1⟩⟩
 done := by
   intro X hP hw hK hc i pins s σ H E I hf st hg
   subst hP hw hK
   obtain ⟨xs, hq, hx⟩ := hg
   obtain ⟨its, rv, p, hz⟩ := I.tuple hq
   obtain ⟨f0, f1, f2, f3, f4, f5⟩ := hf it (by simp)
   have hl := rv.length
   exact wpAny_pyNext_tuple_end (I.ok.hd hc) st (show s.heap.IsTuple a its.toArray from p) (by simp; omega) fun h' eb => ⟨rfl, I.turned (t' := s.toks) (fun b o hb e => eb b o hb e) f0 f1 f3 f4 f5⟩
 self := fun _ _ _ _ _ st h => wpAny_pyIter_tupleiter st h
theorem turn_range {P : Program} {w : World} {K : PySem.W.Frag} {tg : Expr} (it : Addr) (lo : Int) (n : Nat) : Turn P w K tg (Itr lo n) [it] it (fun i h => IsRangeIter h it (lo + (i : Nat) * 1) ((n : Int) - (i : Nat)) 1) where
 mem := by simp
 obj := fun i h st b hb => by
   have e : b = it := by simpa using hb
   subst e
   exact ⟨_, st, fun v z => by
     have z' : Data.fields _ = Data.cell v := z
     cases z'⟩
 keep := fun i h h' st k => k it (by simp) _ st
 item := by
   intro X hP hw hK hc i pins s σ H E I hf st hg
   subst hP hw hK
   obtain ⟨f0, f1, f2, f3, f4, f5⟩ := hf it (by simp)
   have W := Walks.range (prog := X.prog) (w := X.w) (I.ok.hd hc) it lo 1 n
   refine W.item i s _ _ hg st fun v h' tk hv st' kk => ?_
   obtain ⟨t, rfl⟩ := hv
   have I1 : Inv X pins σ H { s with heap := h', toks := tk } := I.turned (fun b o hb e => kk b o (by simpa using hb) e) f0 f1 f3 f4 f5
   refine ⟨_, rfl, go_of (s := { s with heap := h', toks := tk }) (n := "range_iterator") st' rfl rfl (by decide) ⟨.int (lo + i), H, I1, ⟨t, ?_⟩, ⟨rfl, rfl⟩, st', fun b hb => (hf b hb).1⟩⟩
   rw [Int.mul_one]
 done := by
   intro X hP hw hK hc i pins s σ H E I hf st hg
   subst hP hw hK
   obtain ⟨f0, f1, f2, f3, f4, f5⟩ := hf it (by simp)
   exact wpAny_pyNext_range_end (I.ok.hd hc) st (by have : n <= i := hg; omega) fun h' eb => ⟨rfl, I.turned (t' := s.toks) (fun b o hb e => eb b o hb e) f0 f1 f3 f4 f5⟩
 self := fun _ _ _ _ _ st h => wpAny_pyIter_rangeiter st h
section
variable {X : Cx} {tg : Expr}
def iList (K : PySem.W.Frag) (tl : TE) : TI := fun σ H R => tl σ H fun x H1 => ∃ a, x = .ref a /\ (∃ xs, SqL K H1 a xs) /\ R (Itl K a) H1
def iTup (K : PySem.W.Frag) (tl : TE) : TI := fun σ H R => tl σ H fun x H1 => ∃ a, x = .ref a /\ (∃ xs, SqT K H1 a xs) /\ R (Itt K a) H1
theorem uW {l : Expr} {tl : TE} (hl : PE X l tl) : PI X tg l (iList X.K tl) := by
 intro pins s σ H R I h
 refine thn (hl pins s σ H _ I h) fun v s1 ⟨x, H1, I1, r1, q1⟩ => ?_
 obtain ⟨a, e, ⟨xs, hq⟩, q⟩ := q1
 subst e
 cases r1
 obtain ⟨its, rv, p, hz⟩ := I1.list hq
 refine wpAny_pyIter_list p.isList ?_
 refine ⟨s1.heap.objs.size, [s1.heap.objs.size], _, _, H1, rfl, I1.kept (t' := s1.toks) fun b o e => Heap.get?_push_of_some _ e, turn_list a _, ⟨_, Heap.get?_push_size _ rfl, rfl, rfl⟩, fun b hb => ?_, q⟩
 have e : b = s1.heap.objs.size := by simpa using hb
 subst e
 exact I1.fpOk (Nat.le_refl _) (I1.hok.fresh (Nat.le_refl _))
theorem pi_tup {l : Expr} {tl : TE} (hl : PE X l tl) : PI X tg l (iTup X.K tl) := by
 intro pins s σ H R I h
 refine thn (hl pins s σ H _ I h) fun v s1 ⟨x, H1, I1, r1, q1⟩ => ?_
 obtain ⟨a, e, ⟨xs, hq⟩, q⟩ := q1
 subst e
 cases r1
 obtain ⟨its, rv, p, hz⟩ := I1.tuple hq
 refine wpAny_pyIter_tuple (show s1.heap.IsTuple a its.toArray from p) ?_
 refine ⟨s1.heap.objs.size, [s1.heap.objs.size], _, _, H1, rfl, I1.kept (t' := s1.toks) fun b o e => Heap.get?_push_of_some _ e, turn_tuple a _, ⟨_, Heap.get?_push_size _ rfl, rfl, rfl⟩, fun b hb => ?_, q⟩
 have e : b = s1.heap.objs.size := by simpa using hb
 subst e
 exact I1.fpOk (Nat.le_refl _) (I1.hok.fresh (Nat.le_refl _))
theorem range_it {pins : List (Addr × Obj)} {σ : St} {H : Hp} {s : Shared} {R : It -> Hp -> Prop} {E : Value -> Shared -> Prop} {lo hi : Int} {t u v : Tok} {tk : Nat} (I : Inv X pins σ H s) (h1 : -(2 ^ 62) <= lo) (h2 : lo < 2 ^ 62) (h3 : -(2 ^ 62) <= hi) (h4 : hi < 2 ^ 62)
   (q : R (Itr lo (hi - lo).toNat) H) : wpAny (model X.prog X.w) X.A (pyIter (.ref s.heap.objs.size)) (PIE X pins σ tg R) E { s with heap := s.heap.push { cls := .type "range", data := .fields #[.int lo t, .int hi u, .int 1 v] }, toks := tk } := by
 refine wpAny_pyIter_range (IsRange.new ..) (small_one h1 h2 h3 h4) ?_
 have I1 : Inv X pins σ H { s with heap := s.heap.push { cls := .type "range", data := .fields #[.int lo t, .int hi u, .int 1 v] }, toks := tk } := I.kept fun b o e => Heap.get?_push_of_some _ e
 refine ⟨(s.heap.push { cls := .type "range", data := .fields #[.int lo t, .int hi u, .int 1 v] }).objs.size, [(s.heap.push { cls := .type "range", data := .fields #[.int lo t, .int hi u, .int 1 v] }).objs.size], _, _, H, rfl,
   I1.kept (t' := tk) fun b o e => Heap.get?_push_of_some _ e, turn_range _ lo (hi - lo).toNat, ?_, fun b hb => ?_, q⟩
 · have e1 : lo + ((0 : Nat) : Int) * 1 = lo := by simp
   have e2 : (((hi - lo).toNat : Nat) : Int) - ((0 : Nat) : Int) = Builtin.Range.rangeSize lo hi 1 := by rw [rangeSize_one]; split <;> omega
   show IsRangeIter _ _ (lo + ((0 : Nat) : Int) * 1) ((((hi - lo).toNat : Nat) : Int) - ((0 : Nat) : Int)) 1
   rw [e1, e2]
   exact Heap.get?_push_size _ rfl
 · have e : b = (s.heap.push { cls := .type "range", data := .fields #[.int lo t, .int hi u, .int 1 v] }).objs.size := by simpa using hb
   subst e
   exact I1.fpOk (Nat.le_refl _) (I1.hok.fresh (Nat.le_refl _))
def iRng1 (ta : TA) : TI := fun σ H R => ta σ H fun vs H1 => ∃ j : Int, vs = [.int j] /\ -(2 ^ 62) <= j /\ j < 2 ^ 62 /\ R (Itr 0 j.toNat) H1
def iRng2 (ta : TA) : TI := fun σ H R => ta σ H fun vs H1 => ∃ i j : Int, vs = [.int i, .int j] /\ (-(2 ^ 62) <= i /\ i < 2 ^ 62 /\ -(2 ^ 62) <= j /\ j < 2 ^ 62) /\ R (Itr i (j - i).toNat) H1
theorem xR {a : Expr} {ta : TA} {p pos : Pos} (hg : Gl X "range") (hm : X.mg "range" = none) (ha : PA X [a] ta) (hs : starEach [a] X.env = [(false, eval a X.env)] := by rfl) : PI X tg (.Call (.Name "range" p) [a] [] pos) (iRng1 ta) := by
 intro pins s σ H R I h
 refine Call_ (vJ I hg hm boot_range (PyProof.Rows.callWith_type1 (thn (ha pos pins s σ H _ I h) fun us s1 ⟨vs, H1, I1, r1, q1⟩ => ?_) hs rfl))
 obtain ⟨j, e, q1, q2, q⟩ := q1
 subst e
 cases r1 with
 | cons r rr =>
   cases rr
   obtain ⟨t, rfl⟩ := r
   exact call_range_1 (range_it I1 (by omega) (by omega) q1 q2 (by simpa using q))
theorem pi_range2 {a b : Expr} {ta : TA} {p pos : Pos} (hg : Gl X "range") (hm : X.mg "range" = none) (ha : PA X [a, b] ta) (hs : starEach [a, b] X.env = [(false, eval a X.env), (false, eval b X.env)] := by rfl) (hs2 : starEach [b] X.env = [(false, eval b X.env)] := by rfl) :
   PI X tg (.Call (.Name "range" p) [a, b] [] pos) (iRng2 ta) := by
 intro pins s σ H R I h
 refine Call_ (vJ I hg hm boot_range (PyProof.Rows.callWith_type1 (thn (ha pos pins s σ H _ I h) fun us s1 ⟨vs, H1, I1, r1, q1⟩ => ?_) (by rw [hs, hs2]) (by rw [hs2]; rfl)))
 obtain ⟨i, j, e, ⟨q1, q2, q3, q4⟩, q⟩ := q1
 subst e
 cases r1 with
 | cons r rr =>
   cases rr with
   | cons r' rr =>
     cases rr
     obtain ⟨t, rfl⟩ := r
     obtain ⟨t', rfl⟩ := r'
     exact call_range_2 (range_it I1 q1 q2 q3 q4 q)
def tFor (wi : TI) (g : TG) (tb : TS) : TS := fun D σ H => wi σ H fun J H1 => ∃ W : Nat -> Nat -> St -> Hp -> Prop, (∃ m, W 0 m σ H1) /\ ∀ i m σ H, W i m σ H ->
 (J.stop i H /\ D.nx σ H) \/ (J.go i H /\ ∃ N : St -> Hp -> Prop, (∀ σ' H', N σ' H' -> ∃ m', m' < m /\ W (i + 1) m' σ' H') /\ ∀ x H', J.yld i H x H' -> g x σ H' fun σ2 H2 => tb { D with nx := N, ct := N, bk := D.nx } σ2 H2)
def xD (fp : List Addr) (h : Heap) : List (Addr × Obj) := fp.filterMap fun b => (h.get? b).map fun o => (b, o)
theorem yZ {fp : List Addr} {h : Heap} {b : Addr} {o : Obj} (hb : b ∈ fp) (e : h.get? b = some o) : (b, o) ∈ xD fp h := List.mem_filterMap.mpr ⟨b, hb, by rw [e]; rfl⟩
theorem uF {fp : List Addr} {h : Heap} {p : Addr × Obj} (hp : p ∈ xD fp h) : p.1 ∈ fp /\ h.get? p.1 = some p.2 := by
 obtain ⟨b, hb, e⟩ := List.mem_filterMap.mp hp
 cases q : h.get? b with
 | none => rw [q] at e; cases e
 | some o =>
   rw [q] at e
   have e' : (b, o) = p := Option.some.inj e
   subst e'
   exact ⟨hb, q⟩
theorem Inv.pinned {pins : List (Addr × Obj)} {σ : St} {H : Hp} {s : Shared} {fp : List Addr} (I : Inv X pins σ H s) (hf : ∀ b ∈ fp, vT X pins H b) (ho : ∀ b ∈ fp, ∃ o, s.heap.get? b = some o /\ ∀ v, o.data ≠ .cell v) : Inv X (pins ++ xD fp s.heap) σ H s :=
 I.pins_of fun p hp => (List.mem_append.mp hp).elim (fun z => I.pin p (List.mem_append_right _ z)) fun z => by
   obtain ⟨hb, e⟩ := uF z
   obtain ⟨f0, f1, f2, _⟩ := hf p.1 hb
   obtain ⟨o, e', d⟩ := ho p.1 hb
   rw [e] at e'; cases e'
   exact ⟨e, f0, f1, f2, d⟩
theorem Inv.unpinned {pins pl : List (Addr × Obj)} {σ : St} {H : Hp} {s : Shared} (I : Inv X (pins ++ pl) σ H s) : Inv X pins σ H s := I.pins_of fun p hp => I.pin p (List.mem_append_right _ (List.mem_append_left _ hp))
theorem xN {iter : Expr} {body : List Stmt} {wi : TI} {g : TG} {tb : TS} {pos : Pos} (hp : PassesOwn (model X.prog X.w) X.A X.env X.xe) (hc : X.calm = true) (hi : PI X tg iter wi) (hg : PG X tg g) (hb : PSs X body tb)
   (hs : ∀ x, foldedSetIterable iter X.env x = pure x := by intro _; rfl) : PS X (.For tg iter body [] pos) (tFor wi g tb) := by
 intro pins s σ H D I h
 refine wpAny_For (thn (hi pins s σ H _ I h) fun v s1 h1 => thn h1 fun itv s2 h2 => ?_) hs
 obtain ⟨it, fp, tn, J, H2, e, I2, T, st2, f2, W, ⟨m0, w0⟩, turn⟩ := h2
 subst e
 have stat : ∀ {H' : Hp}, (∀ b ∈ fp, H' b = none) -> ∀ b ∈ fp, vT X pins H' b := fun hn b hb => ⟨hn b hb, (f2 b hb).2⟩
 refine codeAny_forLoop_any (fun n s' => ∃ i σ' H', Inv X pins σ' H' s' /\ tn i s'.heap /\ (∀ b ∈ fp, H' b = none) /\ W i n σ' H') ?_ m0 ⟨0, σ, H2, I2, st2, fun b hb => (f2 b hb).1, w0⟩
 rintro n s3 ⟨i, σ3, H3, I3, st3, fr3, w3⟩
 rcases turn i n σ3 H3 w3 with ⟨stop, qn⟩ | ⟨go, N, hN, step⟩
 · refine wpAny_passesOwn hp (thn (T.done X rfl rfl rfl hc i pins s3 σ3 H3 X.xe I3 (stat fr3) st3 stop) fun r s4 ⟨hr, I4⟩ => ?_)
   subst hr
   exact wpAny_execs_nil ⟨σ3, H3, I4, qn⟩
 · refine wpAny_passesOwn hp (thn (T.item X rfl rfl rfl hc i pins s3 σ3 H3 X.xe I3 (stat fr3) st3 go) fun r s4 ⟨u, hr, h4⟩ => ?_)
   subst hr
   refine wpAny_passesOwn hp (thn h4 fun _ s5 ⟨x, H5, I5, r5, y5, st5, fr5⟩ => ?_)
   have I5' := I5.pinned (stat fr5) (T.obj _ _ st5)
   refine wpAny_passesOwn hp (thn (hg _ s5 σ3 H5 x u _ I5' r5 (step x H5 y5)) fun _ s6 ⟨σ6, H6, I6, q6⟩ => ?_)
   refine wpAny_passesOwn hp (thn (hb _ s6 σ6 H6 _ I6 q6) fun f s7 q7 => ?_)
   have again : ∀ {σ7 : St} {H7 : Hp}, Inv X (pins ++ xD fp s5.heap) σ7 H7 s7 -> N σ7 H7 -> ∃ m, m < n /\ ∃ i σ' H', Inv X pins σ' H' s7 /\ tn i s7.heap /\ (∀ b ∈ fp, H' b = none) /\ W i m σ' H' := fun {σ7 H7} I7 n7 => by
     obtain ⟨m', hm, w7⟩ := hN σ7 H7 n7
     refine ⟨m', hm, i + 1, σ7, H7, I7.unpinned, T.keep _ _ _ st5 fun b hb o e => (I7.pin (b, o) (List.mem_append_right _ (List.mem_append_right _ (yZ hb e)))).1, fun b hb => ?_, w7⟩
     obtain ⟨o, e, d⟩ := T.obj _ _ st5 b hb
     exact (I7.pin (b, o) (List.mem_append_right _ (List.mem_append_right _ (yZ hb e)))).2.1
   cases f with
   | next => obtain ⟨σ7, H7, I7, n7⟩ := q7; exact again I7 n7
   | cont => obtain ⟨σ7, H7, I7, n7⟩ := q7; exact again I7 n7
   | brk => obtain ⟨σ7, H7, I7, q7⟩ := q7; exact ⟨σ7, H7, I7.unpinned, q7⟩
   | ret v => obtain ⟨x7, σ7, H7, I7, r7, q7⟩ := q7; exact ⟨x7, σ7, H7, I7.unpinned, r7, q7⟩
end
theorem for_list {K : PySem.W.Frag} {a : Addr} {xs : List V} {g : TG} {tb : TS} {D : Ends} {σ : St} {H : Hp} (Pv : Nat -> St -> Hp -> Prop) (h0 : Pv 0 σ H) (hl : ∀ i σ H, i <= xs.length -> Pv i σ H -> SqL K H a xs)
   (hs : ∀ i x σ H, xs[i]? = some x -> Pv i σ H -> g x σ H fun σ2 H2 => tb { D with nx := Pv (i + 1), ct := Pv (i + 1), bk := D.nx } σ2 H2) (hd : ∀ σ H, Pv xs.length σ H -> D.nx σ H) :
   ∃ W : Nat -> Nat -> St -> Hp -> Prop, (∃ m, W 0 m σ H) /\ ∀ i m σ H, W i m σ H ->
     ((Itl K a).stop i H /\ D.nx σ H) \/ ((Itl K a).go i H /\ ∃ N : St -> Hp -> Prop, (∀ σ' H', N σ' H' -> ∃ m', m' < m /\ W (i + 1) m' σ' H') /\ ∀ x H', (Itl K a).yld i H x H' -> g x σ H' fun σ2 H2 => tb { D with nx := N, ct := N, bk := D.nx } σ2 H2) := by
 refine ⟨fun i m σ H => m = xs.length - i /\ i <= xs.length /\ Pv i σ H, ⟨xs.length, by simp, Nat.zero_le _, h0⟩, ?_⟩
 rintro i m σ H ⟨rfl, hi, p⟩
 have q := hl i σ H hi p
 by_cases hlt : i < xs.length
 · refine .inr ⟨⟨xs, xs[i], q, by simp [hlt]⟩, Pv (i + 1), fun σ' H' p' => ⟨xs.length - (i + 1), by omega, rfl, hlt, p'⟩, fun x H' y => ?_⟩
   obtain ⟨e, y⟩ := y
   subst e
   exact hs i x σ _ (y xs q) p
 · have e : i = xs.length := by omega
   subst e
   exact .inl ⟨⟨xs, q, Nat.le_refl _⟩, hd σ H p⟩
theorem for_tup {K : PySem.W.Frag} {a : Addr} {xs : List V} {g : TG} {tb : TS} {D : Ends} {σ : St} {H : Hp} (Pv : Nat -> St -> Hp -> Prop) (h0 : Pv 0 σ H) (hl : ∀ i σ H, i <= xs.length -> Pv i σ H -> SqT K H a xs)
   (hs : ∀ i x σ H, xs[i]? = some x -> Pv i σ H -> g x σ H fun σ2 H2 => tb { D with nx := Pv (i + 1), ct := Pv (i + 1), bk := D.nx } σ2 H2) (hd : ∀ σ H, Pv xs.length σ H -> D.nx σ H) :
   ∃ W : Nat -> Nat -> St -> Hp -> Prop, (∃ m, W 0 m σ H) /\ ∀ i m σ H, W i m σ H ->
     ((Itt K a).stop i H /\ D.nx σ H) \/ ((Itt K a).go i H /\ ∃ N : St -> Hp -> Prop, (∀ σ' H', N σ' H' -> ∃ m', m' < m /\ W (i + 1) m' σ' H') /\ ∀ x H', (Itt K a).yld i H x H' -> g x σ H' fun σ2 H2 => tb { D with nx := N, ct := N, bk := D.nx } σ2 H2) := by
 refine ⟨fun i m σ H => m = xs.length - i /\ i <= xs.length /\ Pv i σ H, ⟨xs.length, by simp, Nat.zero_le _, h0⟩, ?_⟩
 rintro i m σ H ⟨rfl, hi, p⟩
 have q := hl i σ H hi p
 by_cases hlt : i < xs.length
 · refine .inr ⟨⟨xs, xs[i], q, by simp [hlt]⟩, Pv (i + 1), fun σ' H' p' => ⟨xs.length - (i + 1), by omega, rfl, hlt, p'⟩, fun x H' y => ?_⟩
   obtain ⟨e, y⟩ := y
   subst e
   exact hs i x σ _ (y xs q) p
 · have e : i = xs.length := by omega
   subst e
   exact .inl ⟨⟨xs, q, Nat.le_refl _⟩, hd σ H p⟩
theorem for_range {lo : Int} {n : Nat} {g : TG} {tb : TS} {D : Ends} {σ : St} {H : Hp} (Pv : Nat -> St -> Hp -> Prop) (h0 : Pv 0 σ H)
   (hs : ∀ i σ H, i < n -> Pv i σ H -> g (.int (lo + i)) σ H fun σ2 H2 => tb { D with nx := Pv (i + 1), ct := Pv (i + 1), bk := D.nx } σ2 H2) (hd : ∀ σ H, Pv n σ H -> D.nx σ H) :
   ∃ W : Nat -> Nat -> St -> Hp -> Prop, (∃ m, W 0 m σ H) /\ ∀ i m σ H, W i m σ H ->
     ((Itr lo n).stop i H /\ D.nx σ H) \/ ((Itr lo n).go i H /\ ∃ N : St -> Hp -> Prop, (∀ σ' H', N σ' H' -> ∃ m', m' < m /\ W (i + 1) m' σ' H') /\ ∀ x H', (Itr lo n).yld i H x H' -> g x σ H' fun σ2 H2 => tb { D with nx := N, ct := N, bk := D.nx } σ2 H2) := by
 refine ⟨fun i m σ H => m = n - i /\ i <= n /\ Pv i σ H, ⟨n, by simp, Nat.zero_le _, h0⟩, ?_⟩
 rintro i m σ H ⟨rfl, hi, p⟩
 by_cases hlt : i < n
 · refine .inr ⟨hlt, Pv (i + 1), fun σ' H' p' => ⟨n - (i + 1), by omega, rfl, hlt, p'⟩, fun x H' y => ?_⟩
   obtain ⟨e, y⟩ := y
   subst e y
   exact hs i σ _ hlt p
 · have e : i = n := by omega
   subst e
   exact .inl ⟨Nat.le_refl _, hd σ H p⟩
abbrev R2 := V -> V -> Hp -> VK -> Prop
def OpR (X : Cx) (f : Value -> Value -> Sem Value) (r : R2) : Prop :=
 ∀ (pins : List (Addr × Obj)) (s : Shared) (σ : St) (H : Hp) (x y : V) (v u : Value) (Q : VK), Inv X pins σ H s -> RelV x v -> RelV y u -> r x y H Q ->
   wpAny (model X.prog X.w) X.A (f v u) (EP X pins σ Q) X.xe s
def qL (X : Cx) (f : Value) (r : List V -> Hp -> VK -> Prop) : Prop :=
 ∀ (pins : List (Addr × Obj)) (s : Shared) (σ : St) (H : Hp) (xs : List V) (us : List Value) (Q : VK), Inv X pins σ H s -> Vals xs us -> r xs H Q ->
   wpAny (model X.prog X.w) X.A (call f us) (EP X pins σ Q) X.xe s
def TruR (X : Cx) (r : V -> Hp -> (Bool -> Hp -> Prop) -> Prop) : Prop :=
 ∀ (pins : List (Addr × Obj)) (s : Shared) (σ : St) (H : Hp) (x : V) (v : Value) (Q : Bool -> Hp -> Prop), Inv X pins σ H s -> RelV x v -> r x H Q ->
   wpAny (model X.prog X.w) X.A (truthy v) (TP X pins σ Q) X.xe s
def tOp (r : R2) (ta tb : TE) : TE := fun σ H Q => ta σ H fun x H1 => tb σ H1 fun y H2 => r x y H2 Q
def tUn (r : V -> Hp -> VK -> Prop) (ta : TE) : TE := fun σ H Q => ta σ H fun x H1 => r x H1 Q
def rI (C : Int -> Int -> Prop) (g : Int -> Int -> V) : R2 := fun x y H Q => ∃ i j, x = .int i /\ y = .int j /\ C i j /\ Q (g i j) H
def rI0 (g : Int -> Int -> V) : R2 := fun x y H Q => ∃ i j, x = .int i /\ y = .int j /\ Q (g i j) H
def rU (g : Int -> V) : V -> Hp -> VK -> Prop := fun x H Q => ∃ i, x = .int i /\ Q (g i) H
section
variable {X : Cx} {a b c : Expr} {ta tb tc : TE} {pos : Pos}
theorem binT (ha : PE X a ta) (hb : PE X b tb) {pins : List (Addr × Obj)} {s : Shared} {σ : St} {H : Hp} {R : V -> V -> Hp -> Prop} (I : Inv X pins σ H s)
   (h : ta σ H fun x H1 => tb σ H1 fun y H2 => R x y H2) {Q : Value -> Shared -> Prop} {f : Value -> Value -> Sem Value}
   (hf : ∀ v u s2 x y H2, Inv X pins σ H2 s2 -> RelV x v -> RelV y u -> R x y H2 -> wpAny (model X.prog X.w) X.A (f v u) Q X.xe s2) :
   wpAny (model X.prog X.w) X.A (eval a X.env) (fun v s₁ => wpAny (model X.prog X.w) X.A (eval b X.env) (fun u s₂ => wpAny (model X.prog X.w) X.A (f v u) Q X.xe s₂) X.xe s₁) X.xe s := by
 refine thn (ha pins s σ H _ I h) fun v s1 ⟨x, H1, I1, r1, q1⟩ => ?_
 refine thn (hb pins s1 σ H1 _ I1 q1) fun u s2 ⟨y, H2, I2, r2, q2⟩ => ?_
 exact hf v u s2 x y H2 I2 r1 r2 q2
theorem zI {op : Operator} {r : R2} (ho : OpR X (binaryOp op) r) (ha : PE X a ta) (hb : PE X b tb) : PE X (.BinOp a op b pos) (tOp r ta tb) := by
 intro pins s σ H Q I h
 exact wpAny_BinOp (binT ha hb I h fun v u s2 x y H2 I2 rx ry q => ho pins s2 σ H2 x y v u Q I2 rx ry q)
theorem opI {f : Value -> Value -> Sem Value} {C : Int -> Int -> Prop} {g : Int -> Int -> Int}
   (rule : ∀ (i j : Int) (t u : Tok) (s : Shared) (Q : Value -> Shared -> Prop) (E : Value -> Shared -> Prop), C i j -> Q (.int (g i j) s.toks) { s with toks := s.toks + 1 } -> wpAny (model X.prog X.w) X.A (f (.int i t) (.int j u)) Q E s) :
   OpR X f (rI C fun i j => .int (g i j)) := by
 intro pins s σ H x y v u Q I rx ry h
 obtain ⟨i, j, rfl, rfl, hc, q⟩ := h
 obtain ⟨t, rfl⟩ := rx
 obtain ⟨t', rfl⟩ := ry
 exact rule i j t t' s _ _ hc ⟨.int (g i j), H, I.tok _, ⟨_, rfl⟩, q⟩
theorem opI0 {f : Value -> Value -> Sem Value} {g : Int -> Int -> Int}
   (rule : ∀ (i j : Int) (t u : Tok) (s : Shared) (Q : Value -> Shared -> Prop) (E : Value -> Shared -> Prop), Q (.int (g i j) s.toks) { s with toks := s.toks + 1 } -> wpAny (model X.prog X.w) X.A (f (.int i t) (.int j u)) Q E s) :
   OpR X f (rI0 fun i j => .int (g i j)) := by
 intro pins s σ H x y v u Q I rx ry h
 obtain ⟨i, j, rfl, rfl, q⟩ := h
 obtain ⟨t, rfl⟩ := rx
 obtain ⟨t', rfl⟩ := ry
 exact rule i j t t' s _ _ ⟨.int (g i j), H, I.tok _, ⟨_, rfl⟩, q⟩
theorem opB0 {f : Value -> Value -> Sem Value} {g : Int -> Int -> Bool}
   (rule : ∀ (i j : Int) (t u : Tok) (s : Shared) (Q : Value -> Shared -> Prop) (E : Value -> Shared -> Prop), Q (.bool (g i j)) s -> wpAny (model X.prog X.w) X.A (f (.int i t) (.int j u)) Q E s) :
   OpR X f (rI0 fun i j => .bl (g i j)) := by
 intro pins s σ H x y v u Q I rx ry h
 obtain ⟨i, j, rfl, rfl, q⟩ := h
 obtain ⟨t, rfl⟩ := rx
 obtain ⟨t', rfl⟩ := ry
 exact rule i j t t' s _ _ ⟨.bl (g i j), H, I, rfl, q⟩
def CDiv (i j : Int) : Prop := 0 < j /\ j < 1073741824
def CPow (i j : Int) : Prop := 0 <= j /\ j <= 1000000 /\ i.natAbs < 2 ^ 64
def CMul (i j : Int) : Prop := (-(2 ^ 64) < i /\ i < 2 ^ 64) \/ (-(2 ^ 64) < j /\ j < 2 ^ 64)
theorem CMul.ok {i j : Int} (h : CMul i j) : IntMulOk i j := by
 rcases h with ⟨h1, h2⟩ | ⟨h1, h2⟩
 · exact .of_left (intBits_le_64 h1 h2)
 · exact .of_right (intBits_le_64 h1 h2)
theorem op_add : OpR X (binaryOp .Add) (rI0 fun i j => .int (i + j)) := opI0 fun _ _ _ _ _ _ _ q => add_int q
theorem op_sub : OpR X (binaryOp .Sub) (rI0 fun i j => .int (i - j)) := opI0 fun _ _ _ _ _ _ _ q => sub_int q
theorem op_mul : OpR X (binaryOp .Mult) (rI CMul fun i j => .int (i * j)) := opI fun _ _ _ _ _ _ _ hc q => mul_int q hc.ok
theorem op_fdiv : OpR X (binaryOp .FloorDiv) (rI CDiv fun i j => .int (i / j)) := opI fun i j _ _ _ _ _ hc q => by
 have h1 : (0 : Int) < j := hc.1
 have h2 : j < 1073741824 := hc.2
 exact floordiv_int (by omega) (by rw [Int.fdiv_eq_ediv_of_nonneg i (by omega)]; exact q) (.inl (PyProof.noPylong_small (by omega)))
theorem op_mod : OpR X (binaryOp .Mod) (rI (fun _ j => 0 < j) fun i j => .int (i % j)) := opI fun i j _ _ _ _ _ hc q => by
 have h1 : (0 : Int) < j := hc
 exact mod_int' (by omega) (by rw [Int.fmod_eq_emod_of_nonneg i (by omega)]; exact q)
theorem op_pow : OpR X (binaryOp .Pow) (rI CPow fun i j => .int (i ^ j.toNat)) := opI fun _ _ _ _ _ _ _ hc q => pow_int_small hc.1 hc.2.1 hc.2.2 q
end
def scal : V -> V -> Bool
 | .non, .non => true | .non, .int _ => true | .int _, .non => true | .non, .bl _ => true | .bl _, .non => true | .non, .str _ => true | .str _, .non => true
 | .int _, .int _ => true | .bl _, .bl _ => true | .str _, .str _ => true | .byt _, .byt _ => true
 | .int _, .str _ => true | .str _, .int _ => true | .bl _, .str _ => true | .str _, .bl _ => true
 | _, _ => false
def rEq : R2 := fun x y H Q => scal x y = true /\ Q (.bl (decide (x = y))) H
def rNe : R2 := fun x y H Q => scal x y = true /\ Q (.bl (!decide (x = y))) H
theorem dec_int {i j : Int} : decide (V.int i = V.int j) = (i == j) := by
 rw [Bool.eq_iff_iff]
 simp
theorem dec_bl {i j : Bool} : decide (V.bl i = V.bl j) = (i == j) := by
 rw [Bool.eq_iff_iff]
 simp
theorem dec_str {i j : Str} : decide (V.str i = V.str j) = (i == j) := by
 rw [Bool.eq_iff_iff]
 simp
theorem dec_byt {i j : Array UInt8} : decide (V.byt i = V.byt j) = (i.toList == j.toList) := by
 rw [Bool.eq_iff_iff]
 cases i
 cases j
 simp
section
variable {X : Cx} {a b c : Expr} {ta tb tc : TE} {pos : Pos}
theorem yH {pins : List (Addr × Obj)} {σ : St} {H : Hp} {s : Shared} {Q : VK} {k k' : Bool} (I : Inv X pins σ H s) (q : Q (.bl k) H) (e : k = k') : EP X pins σ Q (.bool k') s := by
 subst e
 exact ⟨.bl k, H, I, rfl, q⟩
theorem op_eq : OpR X (compareOp .Eq) rEq := by
 intro pins s σ H x y v u Q I rx ry h
 obtain ⟨hs, q⟩ := h
 cases x with
 | non =>
   cases rx
   cases y with
   | non => cases ry; exact PySem.EqNone.eq_none_none (yH I q (by simp))
   | bl j => cases ry; exact PySem.EqNone.eq_none_bool (yH I q (by simp))
   | int j => obtain ⟨t', rfl⟩ := ry; exact PySem.EqNone.eq_none_int (yH I q (by simp))
   | str j => obtain ⟨t', rfl⟩ := ry; exact PySem.EqNone.eq_none_str (yH I q (by simp))
   | _ => exact absurd (show false = true from hs) Bool.false_ne_true
 | bl i =>
   cases rx
   cases y with
   | non => cases ry; exact PySem.EqNone.eq_bool_none (yH I q (by simp))
   | bl j => cases ry; exact eq_bool (yH I q dec_bl)
   | str j => obtain ⟨t', rfl⟩ := ry; exact PySem.EqMixed.eq_bool_str (yH I q (by simp))
   | _ => exact absurd (show false = true from hs) Bool.false_ne_true
 | int i =>
   obtain ⟨t, rfl⟩ := rx
   cases y with
   | non => cases ry; exact PySem.EqNone.eq_int_none (yH I q (by simp))
   | int j => obtain ⟨t', rfl⟩ := ry; exact eq_int (yH I q dec_int)
   | str j => obtain ⟨t', rfl⟩ := ry; exact PySem.EqMixed.eq_int_str (yH I q (by simp))
   | _ => exact absurd (show false = true from hs) Bool.false_ne_true
 | str i =>
   obtain ⟨t, rfl⟩ := rx
   cases y with
   | non => cases ry; exact PySem.EqNone.eq_str_none (yH I q (by simp))
   | bl j => cases ry; exact PySem.EqMixed.eq_str_bool (yH I q (by simp))
   | int j => obtain ⟨t', rfl⟩ := ry; exact PySem.EqMixed.eq_str_int (yH I q (by simp))
   | str j => obtain ⟨t', rfl⟩ := ry; exact eq_str (yH I q dec_str)
   | _ => exact absurd (show false = true from hs) Bool.false_ne_true
 | byt i =>
   obtain ⟨t, rfl⟩ := rx
   cases y with
   | byt j => obtain ⟨t', rfl⟩ := ry; exact PySem.W.eq_bytes (yH I q dec_byt)
   | _ => exact absurd (show false = true from hs) Bool.false_ne_true
 | _ => cases y <;> exact absurd (show false = true from hs) Bool.false_ne_true
theorem op_ne : OpR X (compareOp .NotEq) rNe := by
 intro pins s σ H x y v u Q I rx ry h
 obtain ⟨hs, q⟩ := h
 cases x with
 | non =>
   cases rx
   cases y with
   | non => cases ry; exact PySem.EqNone.ne_none_none (yH I q (by simp))
   | bl j => cases ry; exact PySem.EqNone.ne_none_bool (yH I q (by simp))
   | int j => obtain ⟨t', rfl⟩ := ry; exact PySem.EqNone.ne_none_int (yH I q (by simp))
   | str j => obtain ⟨t', rfl⟩ := ry; exact PySem.EqNone.ne_none_str (yH I q (by simp))
   | _ => exact absurd (show false = true from hs) Bool.false_ne_true
 | bl i =>
   cases rx
   cases y with
   | non => cases ry; exact PySem.EqNone.ne_bool_none (yH I q (by simp))
   | bl j => cases ry; exact ne_bool (yH I q (congrArg not dec_bl))
   | str j => obtain ⟨t', rfl⟩ := ry; exact PySem.EqMixed.ne_bool_str (yH I q (by simp))
   | _ => exact absurd (show false = true from hs) Bool.false_ne_true
 | int i =>
   obtain ⟨t, rfl⟩ := rx
   cases y with
   | non => cases ry; exact PySem.EqNone.ne_int_none (yH I q (by simp))
   | int j => obtain ⟨t', rfl⟩ := ry; exact ne_int (yH I q (congrArg not dec_int))
   | str j => obtain ⟨t', rfl⟩ := ry; exact PySem.EqMixed.ne_int_str (yH I q (by simp))
   | _ => exact absurd (show false = true from hs) Bool.false_ne_true
 | str i =>
   obtain ⟨t, rfl⟩ := rx
   cases y with
   | non => cases ry; exact PySem.EqNone.ne_str_none (yH I q (by simp))
   | bl j => cases ry; exact PySem.EqMixed.ne_str_bool (yH I q (by simp))
   | int j => obtain ⟨t', rfl⟩ := ry; exact PySem.EqMixed.ne_str_int (yH I q (by simp))
   | str j => obtain ⟨t', rfl⟩ := ry; exact ne_str (yH I q (congrArg not dec_str))
   | _ => exact absurd (show false = true from hs) Bool.false_ne_true
 | byt i =>
   obtain ⟨t, rfl⟩ := rx
   cases y with
   | byt j => obtain ⟨t', rfl⟩ := ry; exact PySem.W.ne_bytes (yH I q (congrArg not dec_byt))
   | _ => exact absurd (show false = true from hs) Bool.false_ne_true
 | _ => cases y <;> exact absurd (show false = true from hs) Bool.false_ne_true
theorem op_lt : OpR X (compareOp .Lt) (rI0 fun i j => .bl (decide (i < j))) := opB0 fun _ _ _ _ _ _ _ q => lt_int q
theorem op_le : OpR X (compareOp .LtE) (rI0 fun i j => .bl (decide (i <= j))) := opB0 fun _ _ _ _ _ _ _ q => le_int q
theorem op_gt : OpR X (compareOp .Gt) (rI0 fun i j => .bl (decide (j < i))) := opB0 fun _ _ _ _ _ _ _ q => gt_int q
theorem op_ge : OpR X (compareOp .GtE) (rI0 fun i j => .bl (decide (j <= i))) := opB0 fun _ _ _ _ _ _ _ q => ge_int q
theorem op_in_str : OpR X (compareOp .In) (fun x y H Q => ∃ i j, x = .str i /\ y = .str j /\ Q (.bl (!(Builtin.Str.occurrences j i 0 j.length 1).isEmpty)) H) := by
 intro pins s σ H x y v u Q I rx ry h
 obtain ⟨i, j, rfl, rfl, q⟩ := h
 obtain ⟨t, rfl⟩ := rx
 obtain ⟨t', rfl⟩ := ry
 exact in_str (yH I q rfl)
theorem op_notin_str : OpR X (compareOp .NotIn) (fun x y H Q => ∃ i j, x = .str i /\ y = .str j /\ Q (.bl (!(!(Builtin.Str.occurrences j i 0 j.length 1).isEmpty))) H) := by
 intro pins s σ H x y v u Q I rx ry h
 obtain ⟨i, j, rfl, rfl, q⟩ := h
 obtain ⟨t, rfl⟩ := rx
 obtain ⟨t', rfl⟩ := ry
 exact notIn_str (yH I q rfl)
theorem zN (b : Expr) {op : CmpOp} (h : op ≠ .In := by decide) (h2 : op ≠ .NotIn := by decide) : behindInMarks op b = false := by
 have e1 : (op == CmpOp.In) = false := by cases op <;> first | rfl | exact absurd rfl h
 have e2 : (op == CmpOp.NotIn) = false := by cases op <;> first | rfl | exact absurd rfl h2
 cases b <;> simp [behindInMarks, e1, e2]
theorem yD {op : CmpOp} {r : R2} (ho : OpR X (compareOp op) r) (ha : PE X a ta) (hb : PE X b tb) (hm : behindInMarks op b = false) : PE X (.Compare a [op] [b] pos) (tOp r ta tb) := by
 intro pins s σ H Q I h
 exact wpAny_Compare1 (binT ha hb I h fun v u s2 x y H2 I2 rx ry q => ho pins s2 σ H2 x y v u Q I2 rx ry q) hm
def tTest (t : TE) : TT := fun σ H Q => t σ H fun x H' => ∃ k, x = .bl k /\ Q k H'
theorem zQ {op : CmpOp} {r : R2} (ho : OpR X (compareOp op) r) (ha : PE X a ta) (hb : PE X b tb) (hm : behindInMarks op b = false) : PT X (.Compare a [op] [b] pos) (tTest (tOp r ta tb)) := by
 intro pins s σ H Q I h
 refine wpAny_isTrue_Compare1 (thn (ha pins s σ H _ I h) fun v s1 ⟨x, H1, I1, r1, q1⟩ => thn (hb pins s1 σ H1 _ I1 q1) fun u s2 ⟨y, H2, I2, r2, q2⟩ =>
   thn (ho pins s2 σ H2 x y v u _ I2 r1 r2 q2) fun c s3 ⟨z, H3, I3, r3, k, e, q3⟩ => ?_) hm
 subst e
 cases r3
 exact wpAny_truthy_bool ⟨H3, I3, q3⟩
def tChain (r r' : R2) (ta tb tc : TE) : TE := fun σ H Q => ta σ H fun x H1 => tb σ H1 fun y H2 => r x y H2 fun z H3 => ∃ k, z = .bl k /\
 (if k = true then tc σ H3 fun w' H4 => r' y w' H4 Q else Q (.bl false) H3)
theorem pt_chain {op op' : CmpOp} {r r' : R2} (ho : OpR X (compareOp op) r) (ho' : OpR X (compareOp op') r') (ha : PE X a ta) (hb : PE X b tb) (hc : PE X c tc)
   (hm : lastMarks [op, op'] [b, c] = false := by with_unfolding_all rfl) : PT X (.Compare a [op, op'] [b, c] pos) (tTest (tChain r r' ta tb tc)) := by
 intro pins s σ H Q I h
 refine isTrue_chain (thn (ha pins s σ H _ I h) fun v s1 ⟨x, H1, I1, r1, q1⟩ => test_link (thn (hb pins s1 σ H1 _ I1 q1) fun u s2 ⟨y, H2, I2, r2, q2⟩ =>
   thn (ho pins s2 σ H2 x y v u _ I2 r1 r2 q2) fun d s3 ⟨z, H3, I3, r3, k, e, q3⟩ => ?_)) hm
 subst e
 cases r3
 refine wpAny_truthy_bool ?_
 cases k with
 | false =>
   obtain ⟨k', e', q'⟩ := q3
   cases e'
   exact ite_ff ⟨H3, I3, q'⟩
 | true =>
   refine ite_tt (test_last (thn (hc pins s3 σ H3 _ I3 q3) fun w' s4 ⟨z', H4, I4, r4, q4⟩ => thn (ho' pins s4 σ H4 y z' u w' _ I4 r2 r4 q4) fun d' s5 ⟨z2, H5, I5, r5, k2, e2, q5⟩ => ?_))
   subst e2
   cases r5
   exact wpAny_truthy_bool ⟨H5, I5, q5⟩
def TruV (K : PySem.W.Frag) (x : V) (H : Hp) (k : Bool) : Prop :=
 match x with
 | .non => k = false
 | .bl b => k = b
 | .int i => k = (i != 0)
 | .str y => y.length <= sizeLine /\ k = ((y.length : Int) != 0)
 | .byt y => y.size <= sizeLine /\ k = ((y.size : Int) != 0)
 | .ref p => (∃ xs, SqL K H p xs /\ k = !xs.isEmpty) \/ (∃ xs, SqT K H p xs /\ k = !xs.isEmpty) \/ ∃ kvs, H p = some (.dK kvs) /\ k = !kvs.isEmpty
 | _ => False
theorem isEmpty_kv {κ : Type} {kvs : List (κ × V)} {vs : List (κ × Value)} (r : KV kvs vs) : (!vs.isEmpty) = !kvs.isEmpty := by
 cases r <;> rfl
theorem vK {xs : List V} {its : List Value} (r : Vals xs its) : (!its.toArray.isEmpty) = !xs.isEmpty := by
 cases r <;> simp
theorem line63 : (sizeLine : Nat) < 2 ^ 63 := by rw [sizeLine_eq]; decide
theorem tru_ok : TruR X (fun x H Q => ∃ k, TruV X.K x H k /\ Q k H) := by
 intro pins s σ H x v Q I rx h
 obtain ⟨k, e, q⟩ := h
 have hl := line63
 have hs : sizeLine = 16777216 := sizeLine_eq
 cases x with
 | non =>
   cases rx
   have e' : k = false := e
   subst e'
   exact truthy_none ⟨H, I, q⟩
 | bl b =>
   cases rx
   have e' : k = b := e
   subst e'
   exact wpAny_truthy_bool ⟨H, I, q⟩
 | int i =>
   obtain ⟨t, rfl⟩ := rx
   have e' : k = (i != 0) := e
   subst e'
   exact PySem.P.truthy_int ⟨H, I, q⟩
 | str y =>
   obtain ⟨t, rfl⟩ := rx
   obtain ⟨hy, e'⟩ : y.length <= sizeLine /\ k = ((y.length : Int) != 0) := e
   subst e'
   exact PySem.P.truthy_str (by omega) ⟨H, I.tok _, q⟩
 | byt y =>
   obtain ⟨t, rfl⟩ := rx
   obtain ⟨hy, e'⟩ : y.size <= sizeLine /\ k = ((y.size : Int) != 0) := e
   subst e'
   exact PySem.W.truthy_bytes (by omega) ⟨H, I.tok _, q⟩
 | ref p =>
   cases rx
   have e' : (∃ xs, SqL X.K H p xs /\ k = !xs.isEmpty) \/ (∃ xs, SqT X.K H p xs /\ k = !xs.isEmpty) \/ ∃ kvs, H p = some (.dK kvs) /\ k = !kvs.isEmpty := e
   rcases e' with ⟨xs, hx, e'⟩ | ⟨xs, hx, e'⟩ | ⟨kvs, hx, e'⟩
   · subst e'
     obtain ⟨its, r, pl, hz⟩ := I.list hx
     have hlen := r.length
     exact wpAny_truthy_list pl.isList (by simp only [List.size_toArray]; omega) ⟨H, I.tok _, by rw [vK r]; exact q⟩
   · subst e'
     obtain ⟨its, r, pl, hz⟩ := I.tuple hx
     have hlen := r.length
     exact truthy_tuple pl (by simp only [List.size_toArray]; omega) ⟨H, I.tok _, by rw [vK r]; exact q⟩
   · subst e'
     obtain ⟨hz, hS, vs, r, m⟩ : kvs.length <= sizeLine /\ (p == sysModules) = false /\ ∃ vs, KV kvs vs /\ s.heap.DictOf (xF X.prog X.w) p vs := I.hok p _ hx
     have hlen : kvs.length = vs.length := Paired.length r
     exact wpAny_truthy_dict hS m (by omega) ⟨H, I.tok _, by rw [isEmpty_kv r]; exact q⟩
 | _ => exact (show False from e).elim
theorem pt_truth (ha : PE X a ta) (he : ∀ whole, isTrue a X.env whole = (do let v ← whole; standAt a.pos; holding [v] (truthy v))) :
   PT X a (fun σ H Q => ta σ H fun x H' => ∃ k, TruV X.K x H' k /\ Q k H') := by
 intro pins s σ H Q I h
 exact isTrue_plain (thn (ha pins s σ H _ I h) fun v s1 ⟨x, H1, I1, r1, q1⟩ => tru_ok pins s1 σ H1 x v Q I1 r1 q1) (he _)
theorem op_add_str : OpR X (binaryOp .Add) (fun x y H Q => ∃ i j, x = .str i /\ y = .str j /\ i.length + j.length <= sizeLine /\ Q (.str (i ++ j)) H) := by
 intro pins s σ H x y v u Q I rx ry h
 obtain ⟨i, j, rfl, rfl, hz, q⟩ := h
 obtain ⟨t, rfl⟩ := rx
 obtain ⟨t', rfl⟩ := ry
 exact add_str (fun t' tk => ⟨.str (i ++ j), H, I.tok _, ⟨_, rfl⟩, q⟩) hz
theorem vW {x : V} {us : List Value} (r : Vals [x] us) : ∃ u, us = [u] /\ RelV x u := by
 cases r with
 | cons r1 r2 => cases r2; exact ⟨_, rfl, r1⟩
theorem vals2 {x y : V} {us : List Value} (r : Vals [x, y] us) : ∃ u w', us = [u, w'] /\ RelV x u /\ RelV y w' := by
 cases r with
 | cons r1 r2 =>
   cases r2 with
   | cons r3 r4 => cases r4; exact ⟨_, _, rfl, r1, r3⟩
def LenV (K : PySem.W.Frag) (x : V) (H : Hp) (n : Nat) : Prop :=
 match x with
 | .str y => y.length <= sizeLine /\ n = y.length
 | .byt y => y.size <= sizeLine /\ n = y.size
 | .ref p => (∃ xs, SqL K H p xs /\ n = xs.length) \/ ∃ xs, SqT K H p xs /\ n = xs.length
 | _ => False
theorem call_len : qL X (.builtin "len") (fun xs H Q => ∃ x n, xs = [x] /\ LenV X.K x H n /\ Q (.int n) H) := by
 intro pins s σ H xs us Q I r h
 obtain ⟨x, n, rfl, e, q⟩ := h
 obtain ⟨u, rfl, rx⟩ := vW r
 have hl := line63
 have hs : sizeLine = 16777216 := sizeLine_eq
 cases x with
 | str y =>
   obtain ⟨t, rfl⟩ := rx
   obtain ⟨hy, e'⟩ : y.length <= sizeLine /\ n = y.length := e
   subst e'
   exact len_str (by omega) ⟨.int _, H, I.tok _, ⟨_, rfl⟩, q⟩
 | byt y =>
   obtain ⟨t, rfl⟩ := rx
   obtain ⟨hy, e'⟩ : y.size <= sizeLine /\ n = y.size := e
   subst e'
   exact PySem.W.len_bytes (by omega) ⟨.int _, H, I.tok _, ⟨_, rfl⟩, q⟩
 | ref p =>
   cases rx
   have e' : (∃ xs, SqL X.K H p xs /\ n = xs.length) \/ ∃ xs, SqT X.K H p xs /\ n = xs.length := e
   rcases e' with ⟨xs, hx, e'⟩ | ⟨xs, hx, e'⟩
   · subst e'
     obtain ⟨its, r', pl, hz⟩ := I.list hx
     have hlen := r'.length
     exact Calls.call_len_list pl.isList (by simp only [List.size_toArray]; omega) ⟨.int xs.length, H, I.tok _, ⟨_, by simp only [List.size_toArray]; rw [hlen]⟩, q⟩
   · subst e'
     obtain ⟨its, r', pl, hz⟩ := I.tuple hx
     have hlen := r'.length
     exact len_tuple pl (by simp only [List.size_toArray]; omega) ⟨.int xs.length, H, I.tok _, ⟨_, by simp only [List.size_toArray]; rw [hlen]⟩, q⟩
 | _ => exact (show False from e).elim
end
structure ObjM (h : Heap) (x dx C : Addr) (mA : Str -> Option Value) : Prop where
 obj : h.get? x = some (PySem.W.instObj C dx)
 ns : h.Ns1 dx mA
 ne : dx ≠ x
theorem lookIn_ns {h : Heap} {dx : Addr} {mA : Str -> Option Value} (n : h.Ns1 dx mA) : ∃ od, h.get? dx = some od /\ ∀ name, PySem.W.lookIn name od = some (mA name) := by
 obtain ⟨o, es, ep, ho, hd, hk, _, hm⟩ := n
 refine ⟨o, ho, fun name => ?_⟩
 have e := hm name
 unfold nsFind findBy at e
 rw [← Array.find?_toList] at e
 unfold PySem.W.lookIn
 rw [hd]
 dsimp only
 split
 · rename_i y q
   rw [q] at e
   exact congrArg some e
 · rename_i q
   rw [q] at e
   have a : es.toList.any (·.refKey) = false := by
     rw [List.any_eq_false]
     intro y hy
     obtain ⟨z, t, hkey⟩ := hk y (Array.mem_toList_iff.mp hy)
     simp [DictEntry.refKey, hkey]
   have a' : ¬ es.toList.any (·.refKey) = true := by rw [a]; exact Bool.false_ne_true
   rw [if_neg a']
   exact congrArg some e
theorem ObjM.look {h : Heap} {x dx C : Addr} {mA : Str -> Option Value} (I : ObjM h x dx C mA) : ∃ od, PySem.W.InstAt h x (PySem.W.instObj C dx) C (some od) /\ ∀ name, PySem.W.lookIn name od = some (mA name) :=
 let ⟨od, ho, hl⟩ := lookIn_ns I.ns
 ⟨od, ⟨I.obj, rfl, rfl, ho⟩, hl⟩
section
variable {prog : Program} {w : World} {A : Around} {E : Value -> Shared -> Prop} {s : Shared} {K : PySem.W.Frag} {x dx C f : Addr} {mA : Str -> Option Value} {name : Str} {v : Value}
theorem get_map {expr : Bool} {Q : Value -> Shared -> Prop} (X : K.In s.heap) (I : ObjM s.heap x dx C mA) (hg : PySem.W.plainGet K C name = true) (hh : PySem.W.hasDictIn K C = true)
   (ha : PySem.W.findIn K (.ref C) name = some none) (hv : mA name = some v) (hv' : PySem.W.handedIn v = true) (h : Q v { s with toks := s.toks + 1 }) :
   wpAny (model prog w) A (getAttr (.ref x) name expr) Q E s := by
 obtain ⟨od, J, hl⟩ := I.look
 exact PySem.W.get_value X J (PySem.W.plainGet_of hg).1 (PySem.W.findObj_own hh ha rfl (by rw [hl, hv])) hv' h
theorem get_meth {pl : Sem Bool} {Q : Value × List Value -> Shared -> Prop} (X : K.In s.heap) (I : ObjM s.heap x dx C mA) (hg : PySem.W.plainGet K C name = true)
   (hf : PySem.W.findIn K (.ref C) name = some (some (.ref f))) (ht : PySem.W.isFn K (.ref f) = true) (hv : mA name = none) (h : Q (.ref f, [.ref x]) s) :
   wpAny (model prog w) A (getMethod (.ref x) name pl) Q E s := by
 obtain ⟨od, J, hl⟩ := I.look
 exact PySem.W.method_fn X J (PySem.W.plainGet_of hg).1 (PySem.W.plainGet_of hg).2 hf (beq_iff_eq.mp ht) (by show (PySem.W.lookIn name od).map (·.isSome) = some false; rw [hl, hv]; rfl) h
theorem set_map {ns : List Str} {Q : Unit -> Shared -> Prop} (X : K.In s.heap) (I : ObjM s.heap x dx C mA)
   (hs : PySem.W.findIn K (.ref C) "__setattr__" = some (some (.builtin "object.__setattr__"))) (hp : PySem.W.plainOver K C = true) (ht : PySem.W.takerIn K C name = some none) (hh : PySem.W.hasDictIn K C = true)
   (hw : PySem.Within mA ns) (hsz : ns.length <= sizeLine)
   (h : ∀ h', ObjM h' x dx C (fun y => if y = name then some v else mA y) -> Heap.SameBut dx s.heap h' -> Q () { s with heap := h', toks := s.toks + 2 }) :
   wpAny (model prog w) A (setAttr (.ref x) name v) Q E s := by
 obtain ⟨od, J, hl⟩ := I.look
 refine PySem.W.set_plain X J hs (PySem.W.osa_open (s := { s with toks := s.toks + 1 }) (r := none) X J hp ht fun b => ?_)
 obtain ⟨cd, hc, hd'⟩ := PySem.W.any_some hh
 have hx : s.heap.get? x = some ⟨.ref C, some dx, .plain, #[]⟩ := I.obj
 refine wpAny_bind (wpAny_pure (wpAny_bind (wpAny_bind (wpAny_loadPart hx (wpAny_bind (PySem.W.Looks.here (s := { s with toks := s.toks + 1 }) (PySem.W.looks_clsIn X hc) ?_))))))
 rw [hd']
 refine wpAny_pure (a := some dx) (wpAny_bind (wpAny_pure (wpAny_bind ?_)))
 refine wpAny_nsSet1 (s := { s with toks := s.toks + 1 }) I.ns fun h' hn2 hs2 => ?_
 obtain ⟨oD, esD, epD, hoD, hdD, hcD⟩ := hn2.count (PySem.Within.cons name v hw)
 refine wpAny_bind (wpAny_lookBehind hoD (by rw [hdD]; exact pastItsLine_dict (Nat.le_trans hcD (by rw [List.length_cons]; omega))) ?_)
 exact wpAny_pure (h _ ⟨(hs2.2 _ (Ne.symm I.ne)).trans I.obj, hn2, I.ne⟩ hs2)
theorem make_map {R : Result -> Shared -> Prop} {vs : List Value} {kw : List (Str × Value)} (X : K.In s.heap) (hm : PySem.W.makesIn K C = true)
   (hi : PySem.W.findIn K (.ref C) "__init__" = some (some (.ref f))) (hf : PySem.W.typeIn K (.ref f) = some (.type "function"))
   (h : codeAny (model prog w) (A.under (.builtin "type.__call__" ⟨.ref C :: vs, kw⟩)) (.call (.ref f) ⟨.ref (s.heap.objs.size + 1) :: vs, kw⟩) (PySem.W.InitBack (s.heap.objs.size + 1) R)
     { s with heap := (s.heap.push PySem.W.emptyDict).push (PySem.W.instObj C s.heap.objs.size) }) :
   codeAny (model prog w) A (.call (.ref C) ⟨vs, kw⟩) R s := by
 obtain ⟨hh, g, d, t, os⟩ := s
 exact PySem.W.make_core (PySem.W.makes_of X hm) (PySem.W.looks_findIn X hi) (fun self => PySem.W.bind_fn X self hf) (.inl rfl) h
end
def jF (f : Str) (v : V) : List (Str × V) -> List (Str × V)
 | [] => [(f, v)]
 | (g, x) :: r => if g = f then (g, v) :: r else (g, x) :: jF f v r
theorem uK (f g : Str) (v : V) : ∀ fs : List (Str × V), (jF f v fs).lookup g = if g = f then some v else fs.lookup g
 | [] => by
   show List.lookup g [(f, v)] = _
   by_cases h : g = f
   · have hb : (g == f) = true := beq_iff_eq.mpr h
     simp only [List.lookup, hb, if_pos h]
   · have hb : (g == f) = false := beq_eq_false_iff_ne.mpr h
     simp only [List.lookup, hb, if_neg h]
 | (k, x) :: r => by
   have ih := uK f g v r
   rw [show jF f v ((k, x) :: r) = (if k = f then (k, v) :: r else (k, x) :: jF f v r) from rfl]
   by_cases hk : k = f
   · rw [if_pos hk]
     by_cases h : g = k
     · have hb : (g == k) = true := beq_iff_eq.mpr h
       simp only [List.lookup, hb, if_pos (h.trans hk)]
     · have hb : (g == k) = false := beq_eq_false_iff_ne.mpr h
       simp only [List.lookup, hb, if_neg (fun e : g = f => h (e.trans hk.symm))]
   · rw [if_neg hk]
     by_cases h : g = k
     · have hb : (g == k) = true := beq_iff_eq.mpr h
       simp only [List.lookup, hb, if_neg (fun e : g = f => hk (h.symm.trans e))]
     · have hb : (g == k) = false := beq_eq_false_iff_ne.mpr h
       simp only [List.lookup, hb]
       exact ih
theorem uG (f : Str) (v : V) : ∀ fs : List (Str × V), f ∈ (jF f v fs).map (·.1) /\ ∀ g, g ∈ fs.map (·.1) -> g ∈ (jF f v fs).map (·.1)
 | [] => ⟨by simp [jF], fun g h => by simp at h⟩
 | (k, x) :: r => by
   obtain ⟨i1, i2⟩ := uG f v r
   rw [show jF f v ((k, x) :: r) = (if k = f then (k, v) :: r else (k, x) :: jF f v r) from rfl]
   by_cases hk : k = f
   · rw [if_pos hk]
     subst hk
     exact ⟨by simp, fun g h => by simpa using h⟩
   · rw [if_neg hk]
     refine ⟨?_, fun g h => ?_⟩
     · rw [List.map_cons]
       exact List.mem_cons_of_mem _ i1
     · rw [List.map_cons] at h ⊢
       rcases List.mem_cons.mp h with e | e
       · exact List.mem_cons.mpr (.inl e)
       · exact List.mem_cons_of_mem _ (i2 g e)
theorem uL (f : Str) (v : V) : ∀ fs : List (Str × V), (jF f v fs).length <= fs.length + 1
 | [] => by simp [jF]
 | (k, x) :: r => by
   have ih := uL f v r
   rw [show jF f v ((k, x) :: r) = (if k = f then (k, v) :: r else (k, x) :: jF f v r) from rfl]
   by_cases hk : k = f
   · rw [if_pos hk, List.length_cons, List.length_cons]; omega
   · rw [if_neg hk, List.length_cons, List.length_cons]; omega
theorem RelO.some_of {v : V} {o : Option Value} (r : RelO (some v) o) : ∃ u, o = some u /\ RelV v u := by
 cases o with
 | none => exact (show False from r).elim
 | some u => exact ⟨u, rfl, r⟩
theorem RelO.none_of {o : Option Value} (r : RelO none o) : o = none := by
 cases o with
 | none => rfl
 | some u => exact (show False from r).elim
theorem handed_of {v : V} {u : Value} (r : RelV v u) : PySem.W.handedIn u = true := by
 cases v with
 | non => cases (show u = Value.none from r); rfl
 | bl b => cases (show u = Value.bool b from r); rfl
 | int i => obtain ⟨t, e⟩ := (show ∃ t, u = Value.int i t from r); cases e; rfl
 | str x => obtain ⟨t, e⟩ := (show ∃ t, u = Value.str x t from r); cases e; rfl
 | byt b => obtain ⟨t, e⟩ := (show ∃ t, u = Value.bytes b t from r); cases e; rfl
 | flt b => obtain ⟨t, e⟩ := (show ∃ t, u = Value.float b t from r); cases e; rfl
 | ref a => cases (show u = Value.ref a from r); rfl
 | ty n => cases (show u = Value.type n from r); rfl
section
variable {P : Program} {w : World} {H H' : Hp} {h h' : Heap} {a C dx : Addr} {fs fs' : List (Str × V)}
theorem uX (hok : HOk P w H h) (e : H a = some (.ins C dx fs)) : ∃ mA, ObjM h a dx C mA /\ (∀ f, RelO (fs.lookup f) (mA f)) /\ PySem.Within mA (fs.map (·.1)) /\ fs.length <= 1000 /\ H dx = some (.own a) := by
 obtain ⟨d, z, ne, ob, mA, n, r, q⟩ := (show ObjOk P w H h a (.ins C dx fs) from hok a _ e)
 exact ⟨mA, ⟨ob, n, ne⟩, r, q, z, d⟩
end
structure Cls (K : PySem.W.Frag) (C : Addr) : Prop where
 pg : PySem.W.plainGet K C Str.empty = true
 hd : PySem.W.hasDictIn K C = true
 po : PySem.W.plainOver K C = true
 sa : PySem.W.findIn K (.ref C) "__setattr__" = some (some (.builtin "object.__setattr__"))
theorem Cls.get {K : PySem.W.Frag} {C : Addr} (c : Cls K C) (f : Str) : PySem.W.plainGet K C f = true := c.pg
def NoAttr (K : PySem.W.Frag) (C : Addr) (f : Str) : Prop := PySem.W.findIn K (.ref C) f = some none
theorem NoAttr.taker {K : PySem.W.Frag} {C : Addr} {f : Str} (n : NoAttr K C f) : PySem.W.takerIn K C f = some none := by
 unfold PySem.W.takerIn
 rw [show PySem.W.findIn K (.ref C) f = some none from n]
 rfl
structure Con (K : PySem.W.Frag) (C : Addr) (f : Str) (v : V) (u : Value) : Prop where
 at_ : PySem.W.findIn K (.ref C) f = some (some u)
 rel : RelV v u
 get : PySem.W.specialIn K u "__get__" = some none
 cp : PySem.W.copiedNames.contains f = false
structure Meth (K : PySem.W.Frag) (C : Addr) (m : Str) (f : Addr) : Prop where
 at_ : PySem.W.findIn K (.ref C) m = some (some (.ref f))
 fn : PySem.W.isFn K (.ref f) = true
 kp : PySem.W.keepIn K (.ref f) = true
section
variable {X : Cx} {pins : List (Addr × Obj)} {σ : St} {H : Hp} {s : Shared} {a C dx : Addr} {fs : List (Str × V)} {f : Str} {v : V} {A : Around} {E : Value -> Shared -> Prop}
theorem vO {b : Bool} {Q : Value -> Shared -> Prop} (I : Inv X pins σ H s) (e : H a = some (.ins C dx fs)) (c : Cls X.K C) (n : NoAttr X.K C f) (l : fs.lookup f = some v)
   (h : ∀ u s', Inv X pins σ H s' -> RelV v u -> Q u s') : wpAny (model X.prog X.w) A (getAttr (.ref a) f b) Q E s := by
 obtain ⟨mA, O, r, _, _, _⟩ := uX I.hok e
 obtain ⟨u, hu, ru⟩ := RelO.some_of (v := v) (o := mA f) (by rw [← l]; exact r f)
 exact get_map I.kIn O (c.get f) c.hd n hu (handed_of ru) (h u _ (I.tok _) ru)
theorem vN {m : Str} {g : Addr} {pl : Sem Bool} {Q : Value × List Value -> Shared -> Prop} (I : Inv X pins σ H s) (e : H a = some (.ins C dx fs)) (c : Cls X.K C) (k : Meth X.K C m g) (l : fs.lookup m = none)
   (h : Q (.ref g, [.ref a]) s) : wpAny (model X.prog X.w) A (getMethod (.ref a) m pl) Q E s := by
 obtain ⟨mA, O, r, _, _, _⟩ := uX I.hok e
 have hn : mA m = none := RelO.none_of (by rw [← l]; exact r m)
 exact get_meth I.kIn O (c.get m) k.at_ k.fn hn h
theorem vB {y : V} {u : Value} {Q : Unit -> Shared -> Prop} (I : Inv X pins σ H s) (e : H a = some (.ins C dx fs)) (c : Cls X.K C) (n : NoAttr X.K C f) (hl : fs.length < 1000) (ry : RelV y u)
   (h : ∀ s', Inv X pins σ (upd H a (.ins C dx (jF f y fs))) s' -> Q () s') : wpAny (model X.prog X.w) A (setAttr (.ref a) f u) Q E s := by
 obtain ⟨mA, O, r, wi, _, ho⟩ := uX I.hok e
 have hz : (fs.map (·.1)).length <= sizeLine := by rw [List.length_map, sizeLine_eq]; omega
 refine set_map I.kIn O c.sa c.po n.taker c.hd wi hz fun h' O' sb => h _ ?_
 have hd : ∃ o, h'.get? dx = some o := let ⟨o, _, _, e', _⟩ := O'.ns; ⟨o, e'⟩
 refine I.write (x := a) (e := dx) (by rw [e]; exact True.intro) (.inr ho) (fun b q hb z => (sb.2 b hb).trans z) hd ?_
 refine ⟨by rw [yA O.ne]; exact ho, ?_, O.ne, O'.obj, _, O'.ns, fun g => ?_, fun g hg => ?_⟩
 · have := uL f y fs; omega
 · show RelO ((jF f y fs).lookup g) (if g = f then some u else mA g)
   rw [uK]
   by_cases q : g = f
   · rw [if_pos q, if_pos q]; exact ry
   · rw [if_neg q, if_neg q]; exact r g
 · by_cases q : g = f
   · rw [q]; exact (uG f y fs).1
   · refine (uG f y fs).2 g (wi g fun z => hg ?_)
     show (if g = f then some u else mA g) = none
     rw [if_neg q]; exact z
theorem Inv.made (I : Inv X pins σ H s) : Inv X pins σ (upd (upd H s.heap.objs.size (.own (s.heap.objs.size + 1))) (s.heap.objs.size + 1) (.ins C s.heap.objs.size []))
   { s with heap := (s.heap.push PySem.W.emptyDict).push (PySem.W.instObj C s.heap.objs.size) } := by
 have e1 : (s.heap.push PySem.W.emptyDict).get? s.heap.objs.size = some PySem.W.emptyDict := Heap.get?_push_size s.heap rfl
 have e2 : ((s.heap.push PySem.W.emptyDict).push (PySem.W.instObj C s.heap.objs.size)).get? (s.heap.objs.size + 1) = some (PySem.W.instObj C s.heap.objs.size) := by
   have := Heap.get?_push_size (s.heap.push PySem.W.emptyDict) (o := PySem.W.instObj C s.heap.objs.size) rfl
   rwa [Heap.size_push] at this
 have e3 : (s.heap.push PySem.W.emptyDict).Ns s.heap.objs.size (fun _ => none) := ⟨PySem.W.emptyDict, #[], _, e1, rfl, (fun e he => absurd he (by simp)), fun _ => rfl⟩
 have I1 := I.laid (a := s.heap.objs.size) (o := .own (s.heap.objs.size + 1)) (h' := s.heap.push PySem.W.emptyDict) (t' := s.toks) (fun b u q => Heap.get?_push_of_some _ q) (Nat.le_refl _) ⟨_, e1⟩
 refine I1.laid (a := s.heap.objs.size + 1) (o := .ins C s.heap.objs.size []) (t' := s.toks) (fun b u q => Heap.get?_push_of_some _ q) (Nat.le_of_eq (Heap.size_push _ _)) ?_
 have ne : s.heap.objs.size ≠ s.heap.objs.size + 1 := Nat.ne_of_lt (Nat.lt_succ_self _)
 refine ⟨by rw [yA ne, zK], Nat.zero_le _, ne, e2, fun _ => none, (Heap.Ns1.of_empty e3).at fun o q => Heap.get?_push_of_some _ q, fun _ => True.intro, fun y hy => absurd rfl hy⟩
theorem attr_of {prog : Program} {w : World} {env : Env} {e : Expr} {f : Str} {pos : Pos} {s : Shared} {Q : Value -> Shared -> Prop} (hb : attributeBase e f env (eval e env) = eval e env)
   (h : wpAny (model prog w) A (eval e env) (fun o s₁ => wpAny (model prog w) A (getAttr o f true) Q E s₁) E s) : wpAny (model prog w) A (eval (.Attribute e f pos) env) Q E s :=
 Attribute_any_ h (by rw [arm_eval_Attribute, hb])
end
def tFld (K : PySem.W.Frag) (ta : TE) (f : Str) : TE := fun σ H Q => ta σ H fun x H1 => ∃ a C dx fs v, x = .ref a /\ H1 a = some (.ins C dx fs) /\ Cls K C /\ NoAttr K C f /\ fs.lookup f = some v /\ Q v H1
def sFld (K : PySem.W.Frag) (ta tv : TE) (f : Str) : TS := fun D σ H => tv σ H fun y H1 => ta σ H1 fun x H2 => ∃ a C dx fs, x = .ref a /\ H2 a = some (.ins C dx fs) /\ Cls K C /\ NoAttr K C f /\ fs.length < 1000 /\
 D.nx σ (upd H2 a (.ins C dx (jF f y fs)))
def InOp (X : Cx) (op : Operator) (rd : V -> V -> Hp -> VK -> Prop) : Prop :=
 ∀ (pins : List (Addr × Obj)) (s : Shared) (σ : St) (H : Hp) (x y : V) (u v : Value) (Q : VK), Inv X pins σ H s -> RelV x u -> RelV y v -> rd x y H Q -> wpAny (model X.prog X.w) X.A (inplaceOp op u v) (EP X pins σ Q) X.xe s
def wU (K : PySem.W.Frag) (ta tv : TE) (rd : V -> V -> Hp -> VK -> Prop) (f : Str) : TS := fun D σ H => ta σ H fun x H1 => ∃ a C dx fs v, x = .ref a /\ H1 a = some (.ins C dx fs) /\ Cls K C /\ NoAttr K C f /\ fs.lookup f = some v /\
 tv σ H1 fun y H2 => rd v y H2 fun z H3 => ∃ dx' fs', H3 a = some (.ins C dx' fs') /\ fs'.length < 1000 /\ D.nx σ (upd H3 a (.ins C dx' (jF f z fs')))
section
variable {X : Cx} {o e value : Expr} {f : Str} {pos pos' tpos : Pos} {ta tv : TE}
theorem xK (he : PE X e ta) (hb : attributeBase e f X.env (eval e X.env) = eval e X.env) : PE X (.Attribute e f pos) (tFld X.K ta f) := by
 intro pins s σ H Q I h
 refine attr_of hb (thn (he pins s σ H _ I h) fun u s1 ⟨x, H1, I1, rx, a, C, dx, fs, v, ex, ea, c, n, l, q⟩ => ?_)
 subst ex
 obtain rfl : u = Value.ref a := rx
 exact vO I1 ea c n l fun u' s2 I2 ru => ⟨v, H1, I2, ru, q⟩
theorem ps_fld (ha : PE X o ta) (hv : PE X value tv) (hs : swapsWith value (some (.Attribute o f pos')) pos.line X.env = pure false) : PS X (.Assign [.Attribute o f pos'] value pos) (sFld X.K ta tv f) := by
 intro pins s σ H D I h
 refine plainObj_wpAny_Assign_Attribute (thn (hv pins s σ H _ I h) fun u s1 ⟨y, H1, I1, ry, q⟩ => thn (ha pins s1 σ H1 _ I1 q) fun ov s2 ⟨x, H2, I2, rx, a, C, dx, fs, ex, ea, c, n, l, q2⟩ => ?_) hs
 subst ex
 obtain rfl : ov = Value.ref a := rx
 exact vB I2 ea c n l ry fun s3 I3 => ⟨σ, _, I3, q2⟩
theorem vZ {op : Operator} {rd : V -> V -> Hp -> VK -> Prop} (ha : PE X o ta) (hv : PE X value tv) (hop : InOp X op rd) : PS X (.AugAssign (.Attribute o f tpos) op value pos) (wU X.K ta tv rd f) := by
 intro pins s σ H D I h
 refine wpAny_AugAssign_AttributeAny (thn (ha pins s σ H _ I h) fun ov s1 ⟨x, H1, I1, rx, a, C, dx, fs, v, ex, ea, c, n, l, q⟩ => ?_)
 subst ex
 obtain rfl : ov = Value.ref a := rx
 refine vO I1 ea c n l fun u s2 I2 ru => thn (hv pins s2 σ H1 _ I2 q) fun w3 s3 ⟨y, H2, I3, ry, q3⟩ => thn (hop pins s3 σ H2 v y u w3 _ I3 ru ry q3) fun w4 s4 ⟨z, H3, I4, rz, dx', fs', ea', l', q4⟩ => ?_
 exact vB I4 ea' c n l' rz fun s5 I5 => ⟨σ, _, I5, q4⟩
def rAdd : V -> V -> Hp -> VK -> Prop := fun x y H Q => ∃ i j, x = .int i /\ y = .int j /\ Q (.int (i + j)) H
theorem in_add : InOp X .Add rAdd := by
 rintro pins s σ H x y u v Q I rx ry ⟨i, j, rfl, rfl, q⟩
 obtain ⟨t, rfl⟩ := (show ∃ t, u = Value.int i t from rx)
 obtain ⟨t', rfl⟩ := (show ∃ t', v = Value.int j t' from ry)
 exact PyProof.Rows.iadd_int ⟨.int (i + j), H, I.tok _, ⟨_, rfl⟩, q⟩
end
section
variable {X : Cx} {pins : List (Addr × Obj)} {σ : St} {H : Hp} {s : Shared} {A : Around} {E : Value -> Shared -> Prop} {Q : Value -> Shared -> Prop} {c : Value} {b : Bool}
inductive TyOf (K : PySem.W.Frag) (H : Hp) : V -> Value -> Prop where
 | non : TyOf K H .non (.type "NoneType")
 | bl (x : Bool) : TyOf K H (.bl x) (.type "bool")
 | int (i : Int) : TyOf K H (.int i) (.type "int")
 | str (x : Str) : TyOf K H (.str x) (.type "str")
 | flt (x : UInt64) : TyOf K H (.flt x) (.type "float")
 | lst {a : Addr} {xs : List V} (e : H a = some (.lst xs)) : TyOf K H (.ref a) (.type "list")
 | frz {a : Addr} {o : Obj} {xs : List V} (e : H a = some (.frz o (.lst xs))) : TyOf K H (.ref a) (.type "list")
 | tup {a : Addr} {xs : List V} (e : H a = some (.tup xs)) : TyOf K H (.ref a) (.type "tuple")
 | dK {a : Addr} {kvs : List (Key × V)} (e : H a = some (.dK kvs)) : TyOf K H (.ref a) (.type "dict")
 | dT {a : Addr} {kvs : List (List Key × V)} (e : H a = some (.dT kvs)) : TyOf K H (.ref a) (.type "dict")
 | ins {a C dx : Addr} {fs : List (Str × V)} (e : H a = some (.ins C dx fs)) (cl : Cls K C) (ha : PySem.W.findIn K (.ref C) "__class__" = some (some (.builtin "object.__class__")))
     (hn : PySem.W.specialIn K (.builtin "object.__class__") "__get__" = some (some (.builtin "getset_descriptor.__get__"))) (htk : PySem.W.takesIn K (.builtin "object.__class__") = some true)
     (hm : PySem.W.mroIn K C (.type "object") = some true) : TyOf K H (.ref a) (.ref C)
theorem isinst_ok {x : V} {u t : Value} (I : Inv X pins σ H s) (rx : RelV x u) (ty : TyOf X.K H x t) (e : PySem.W.kitOne X.K t c = some b) (h : ∀ tk, Q (.bool b) { s with toks := tk }) :
   wpAny (model X.prog X.w) A (call (.builtin "isinstance") [u, c]) Q E s := by
 cases ty with
 | non => cases (show u = Value.none from rx); exact PySem.W.kia_one PySem.W.kitx_none I.kIn True.intro e (fun z => nomatch z) h
 | bl y => cases (show u = Value.bool y from rx); exact PySem.W.kia_one PySem.W.kitx_bool I.kIn True.intro e (fun z => nomatch z) h
 | int i => obtain ⟨t, q⟩ := (show ∃ t, u = Value.int i t from rx); cases q; exact PySem.W.kia_one PySem.W.kitx_int I.kIn True.intro e (fun z => nomatch z) h
 | str y => obtain ⟨t, q⟩ := (show ∃ t, u = Value.str y t from rx); cases q; exact PySem.W.kia_one PySem.W.kitx_str I.kIn True.intro e (fun z => nomatch z) h
 | flt y => obtain ⟨t, q⟩ := (show ∃ t, u = Value.float y t from rx); cases q; exact PySem.W.kia_one PySem.W.kitx_float I.kIn True.intro e (fun z => nomatch z) h
 | @lst a xs ea =>
   cases (show u = Value.ref a from rx)
   obtain ⟨_, _, n, _, h1⟩ := (show ObjOk X.prog X.w H s.heap a (.lst xs) from I.hok a _ ea)
   exact PySem.W.kia_one PySem.W.kitx_list I.kIn ⟨_, h1, rfl⟩ e (fun z => nomatch z) h
 | @frz a ob xs ea =>
   cases (show u = Value.ref a from rx)
   obtain ⟨_, _, _, n, _, h1⟩ := (show ObjOk X.prog X.w H s.heap a (.frz ob (.lst xs)) from I.hok a _ ea)
   exact PySem.W.kia_one PySem.W.kitx_list I.kIn ⟨_, h1, rfl⟩ e (fun z => nomatch z) h
 | @tup a xs ea =>
   cases (show u = Value.ref a from rx)
   obtain ⟨_, _, _, p⟩ := (show ObjOk X.prog X.w H s.heap a (.tup xs) from I.hok a _ ea)
   obtain ⟨o, h1, h2, _⟩ := p
   exact PySem.W.kia_one PySem.W.kitx_tuple I.kIn ⟨o, h1, h2⟩ e (fun z => nomatch z) h
 | @dK a kvs ea =>
   cases (show u = Value.ref a from rx)
   obtain ⟨_, _, vs, _, p⟩ := (show ObjOk X.prog X.w H s.heap a (.dK kvs) from I.hok a _ ea)
   obtain ⟨o, es, ep, h1, h2, _⟩ := p
   exact PySem.W.kia_one PySem.W.kitx_dict I.kIn ⟨o, h1, h2.1⟩ e (fun z => nomatch z) h
 | @dT a kvs ea =>
   cases (show u = Value.ref a from rx)
   obtain ⟨_, _, xs, _, o, es, ep, h1, h2, _⟩ := (show ObjOk X.prog X.w H s.heap a (.dT kvs) from I.hok a _ ea)
   exact PySem.W.kia_one PySem.W.kitx_dict I.kIn ⟨o, h1, h2.1⟩ e (fun z => nomatch z) h
 | @ins a C dx fs ea cl ha hn htk hm =>
   cases (show u = Value.ref a from rx)
   obtain ⟨mA, O, _⟩ := uX I.hok ea
   obtain ⟨od, J, _⟩ := O.look
   exact PySem.W.kia_one (PySem.W.kitx_own (cl.get _) cl.hd ha hn htk hm) I.kIn J e (fun z => nomatch z) h
end
structure Room (k : Nat) (A : Around) : Prop where
 hd : A.handled = none
 dp : A.depth + 3 * k + 5 < recursionLimit
 un : A.units + 16 * k + 200 < cLine
theorem Room.mono {j k : Nat} {A : Around} (r : Room k A) (h : j <= k) : Room j A := ⟨r.hd, by have := r.dp; omega, by have := r.un; omega⟩
theorem Room.deeper {k : Nat} {A : Around} (r : Room (k + 1) A) (env : Env) : Room k (A.deeper env) :=
 ⟨r.hd, by have := r.dp; show A.depth + 1 + 3 * k + 5 < _; omega, by have := r.un; show A.units + 3 + 16 * k + 200 < _; omega⟩
theorem make_depth {A : Around} {C : Addr} {us : List Value} {kw : List (Str × Value)} : (A.under (.builtin "type.__call__" ⟨.ref C :: us, kw⟩)).depth = A.depth + 1 := by
 first | rfl | simp [Around.under, Code.weight, Code.isCreation, Code.isGuard, Code.isCaller, Code.frames, Code.isFrame, guardIds]
theorem make_units {A : Around} {C : Addr} {us : List Value} {kw : List (Str × Value)} : (A.under (.builtin "type.__call__" ⟨.ref C :: us, kw⟩)).units = A.units + 1 := by
 first | rfl | simp [Around.under, Code.cUnits, Code.frames, Code.isFrame]
theorem Room.make {k : Nat} {A : Around} (r : Room (k + 1) A) (C : Addr) (us : List Value) (kw : List (Str × Value)) : Room k (A.under (.builtin "type.__call__" ⟨.ref C :: us, kw⟩)) :=
 ⟨r.hd, by have := r.dp; rw [make_depth]; omega, by have := r.un; rw [make_units]; omega⟩
theorem Room.depth {k : Nat} {A : Around} (r : Room k A) : A.depth < recursionLimit := by have := r.dp; omega
def tNil : TA := fun _ H Q => Q [] H
def tCons (ta : TE) (tr : TA) : TA := fun σ H Q => ta σ H fun x H1 => tr σ H1 fun xs H2 => Q (x :: xs) H2
section
variable {X : Cx} {e : Expr} {es : List Expr} {te : TE} {t : TA} {pos : Pos}
theorem pa_nil : PA X [] tNil := fun _ _ _ _ H Q I h => Calls.spliced_nil ⟨[], H, I, .nil, h⟩
theorem zA (ha : PE X e te) (hr : PA X es t) (hs : starEach (e :: es) X.env = (false, eval e X.env) :: starEach es X.env := by rfl) : PA X (e :: es) (tCons te t) := by
 intro pos pins s σ H Q I h
 rw [hs]
 show wpAny _ _ (spliced ((false, eval e X.env) :: backTo pos (starEach es X.env))) _ _ s
 refine Calls.spliced_cons (thn (ha pins s σ H _ I h) fun u s1 ⟨x, H1, I1, r1, q1⟩ => ?_)
 exact thn (hr pos pins s1 σ H1 _ I1 q1) fun us s2 ⟨xs, H2, I2, r2, q2⟩ => ⟨x :: xs, H2, I2, .cons r1 r2, q2⟩
def tTup (t : TA) : TE := fun σ H Q => t σ H fun xs H1 => xs.length <= sizeLine /\ ∀ p, H1 p = none -> Q (.ref p) (upd H1 p (.tup xs))
def tLst (t : TA) : TE := fun σ H Q => t σ H fun xs H1 => xs.length <= sizeLine /\ ∀ p, H1 p = none -> Q (.ref p) (upd H1 p (.lst xs))
theorem yR {x1} (h : PA X es t) : PE X (.Tuple es x1 pos) (tTup t) := by
 intro pins s σ H Q I hq
 refine wpAny_Tuple_spliced (thn (h pos pins s σ H _ I hq) fun us s1 ⟨xs, H1, I1, r, z, q⟩ => ⟨by rw [← r.length]; exact z, ?_⟩)
 have hf : H1 s1.heap.objs.size = none := I1.hok.fresh (Nat.le_refl _)
 refine ⟨.ref s1.heap.objs.size, upd H1 s1.heap.objs.size (.tup xs), I1.laid (t' := s1.toks) (fun b u e => Heap.get?_push_of_some _ e) (Nat.le_refl _) ?_, rfl, q _ hf⟩
 exact ⟨z, us, r, ⟨_, Heap.get?_push_size _ rfl, rfl, _, rfl⟩⟩
theorem jD (h : PA X es t) : PE X (.List es pos) (tLst t) := by
 intro pins s σ H Q I hq
 refine wpAny_List_spliced (thn (h pos pins s σ H _ I hq) fun us s1 ⟨xs, H1, I1, r, z, q⟩ => ⟨by rw [← r.length]; exact z, ?_⟩)
 have hf : H1 s1.heap.objs.size = none := I1.hok.fresh (Nat.le_refl _)
 refine ⟨.ref s1.heap.objs.size, upd H1 s1.heap.objs.size (.lst xs), I1.laid (t' := s1.toks) (fun b u e => Heap.get?_push_of_some _ e) (Nat.le_refl _) ?_, rfl, q _ hf⟩
 exact ⟨z, us, 0, r, Heap.get?_push_size _ rfl⟩
end
abbrev Sp := List V -> Hp -> VK -> XK -> Prop
abbrev CXT := List Env -> Hp -> Shared -> XK -> Value -> Shared -> Prop
structure Env0 (P : Program) (w : World) (K : PySem.W.Frag) (mg : Str -> Option Value) (base : Heap) (A : Around) (outer : List Env) (s : Shared) (H : Hp) : Prop where
 frames : A.frames = some outer
 mod : Mod K mg base
 bs : ∀ b o, base.get? b = some o -> s.heap.get? b = some o /\ H b = none
 bsz : base.objs.size <= s.heap.objs.size
 funs : s.heap.FunFrames base outer
 frf : ∀ b ∈ frs outer, H b = none
 hok : HOk P w H s.heap
 bare : AllBare s.gens
def CE (outer : List Env) (P : Program) (w : World) (H : Hp) (s : Shared) (Q : VK) (u : Value) (s' : Shared) : Prop :=
 ∃ v H', s'.os = s.os /\ AllBare s'.gens /\ Un (frs outer) [] H H' s.heap s'.heap /\ HOk P w H' s'.heap /\ RelV v u /\ Q v H'
def CR (CX : CXT) (outer : List Env) (P : Program) (w : World) (H : Hp) (s : Shared) (Q : VK) (E : XK) (r : Result) (s' : Shared) : Prop :=
 match r with
 | .ok (.ret u) => CE outer P w H s Q u s'
 | .ok _ => False
 | .error e => CX outer H s E e s'
structure FnOk (P : Program) (w : World) (K : PySem.W.Frag) (mg : Str -> Option Value) (base : Heap) (CX : CXT) (k : Nat) (f : Addr) (fd : FuncData) (ps : List Str) (sp : Sp) : Prop where
 len : ∀ vs H Q E, sp vs H Q E -> vs.length = ps.length
 run : ∀ (A : Around) (outer : List Env) (s : Shared) (H : Hp) (args : Args) (us : List Value) (vs : List V) (Q : VK) (E : XK), Room k A -> Env0 P w K mg base A outer s H -> BindsTo s fd args (ps.zip us) -> Vals vs us -> sp vs H Q E ->
   codeAny (model P w) A (.call (.ref f) args) (CR CX outer P w H s Q E) s
theorem Env0.make {P : Program} {w : World} {K : PySem.W.Frag} {mg : Str -> Option Value} {base : Heap} {A : Around} {outer : List Env} {s : Shared} {H : Hp} (e : Env0 P w K mg base A outer s H) (C : Addr) (us : List Value) (kw : List (Str × Value)) :
   Env0 P w K mg base (A.under (.builtin "type.__call__" ⟨.ref C :: us, kw⟩)) outer s H := ⟨by first | exact e.frames | (simpa [Around.under, Code.envs, Code.isFrame, pushEnvs] using e.frames), e.mod, e.bs, e.bsz, e.funs, e.frf, e.hok, e.bare⟩
section
variable {X : Cx} {pins : List (Addr × Obj)} {σ : St} {H : Hp} {s s' : Shared}
theorem Inv.env0 (I : Inv X pins σ H s) : Env0 X.prog X.w X.K X.mg X.base X.A X.stack s H :=
 ⟨I.ok.frames, I.ok.mod, I.bs, Nat.le_trans I.ok.bsz I.sz, I.stack, I.stkFree, I.hok, I.bare⟩
theorem Inv.after {Q : VK} {u : Value} (I : Inv X pins σ H s) (h : CE X.stack X.prog X.w H s Q u s') : EP X pins σ Q u s' := by
 obtain ⟨v, H', os, bare, un, hok, r, q⟩ := h
 obtain ⟨hh, g, d, t, os'⟩ := s'
 obtain rfl : os' = s.os := os
 exact ⟨v, H', I.call (h' := hh) (g' := g) (d' := d) (t' := t) (ch := []) un hok bare (fun b z => absurd z (by simp)), r, q⟩
end
def tCall (sp : Sp) (dvs : List V) (E : XK) (t : TA) : TE := fun σ H Q => t σ H fun vs H1 => sp (vs ++ dvs) H1 Q E
def jT (C : Addr) (m : Str) (sp : Sp) (dvs : List V) (E : XK) (ta : TE) (t : TA) : TE := fun σ H Q => ta σ H fun x H1 => ∃ a dx fs, x = .ref a /\ H1 a = some (.ins C dx fs) /\ fs.lookup m = none /\
 t σ H1 fun vs H2 => sp (x :: (vs ++ dvs)) H2 Q E
def tMake (C : Addr) (sp : Sp) (dvs : List V) (E : XK) (t : TA) : TE := fun σ H Q => t σ H fun vs H1 => ∀ x dx, H1 x = none -> H1 dx = none -> dx ≠ x ->
 sp (.ref x :: (vs ++ dvs)) (upd (upd H1 dx (.own x)) x (.ins C dx [])) (fun v H2 => v = .non /\ Q (.ref x) H2) E
def Binds (K : PySem.W.Frag) (fd : FuncData) (ps : List Str) (ds : List Value) : Prop :=
 ∀ (s : Shared) (us : List Value), K.In s.heap -> (us ++ ds).length = ps.length -> BindsTo s fd ⟨us, []⟩ (ps.zip (us ++ ds))
theorem Binds.all {K : PySem.W.Frag} {fd : FuncData} {ps : List Str} (h : ∀ us : List Value, us.length = ps.length -> bindArgs fd ⟨us, []⟩ = pure (ps.zip us)) : Binds K fd ps [] := fun s us _ hl => by
 rw [List.append_nil] at hl ⊢
 exact .of_eq (h us hl)
def jS (CX : CXT) (X : Cx) (E : XK) : Prop := ∀ (pins : List (Addr × Obj)) (σ : St) (H : Hp) (s : Shared) (e : Value) (s' : Shared), Inv X pins σ H s -> CX X.stack H s E e s' -> X.xe e s'
section
variable {X : Cx} {CX : CXT} {k : Nat} {f C : Addr} {fd : FuncData} {ps : List Str} {sp : Sp} {dvs : List V} {ds : List Value} {E : XK} {x m : Str} {p pos apos : Pos} {e o : Expr} {es : List Expr} {ta : TE} {t : TA}
theorem run_fn {pins : List (Addr × Obj)} {σ : St} {H : Hp} {s : Shared} {Q : VK} {us : List Value} {vs : List V} (F : FnOk X.prog X.w X.K X.mg X.base CX k f fd ps sp) (hr : Room k X.A) (hb : Binds X.K fd ps ds) (hd : Vals dvs ds) (hx : jS CX X E)
   (I : Inv X pins σ H s) (r : Vals vs us) (h : sp (vs ++ dvs) H Q E) : wpAny (model X.prog X.w) X.A (call (.ref f) us) (EP X pins σ Q) X.xe s := by
 have r2 : Vals (vs ++ dvs) (us ++ ds) := r.append hd
 have hl : (us ++ ds).length = ps.length := by rw [← r2.length]; exact F.len _ _ _ _ h
 refine wpAny_call (codeAny_mono (F.run X.A X.stack s H ⟨us, []⟩ (us ++ ds) (vs ++ dvs) Q E hr I.env0 (hb s us I.kIn hl) r2 h) fun r s' hq => ?_)
 cases r with
 | error e => exact hx pins σ H s e s' I hq
 | ok fl =>
   cases fl with
   | ret u => exact I.after hq
   | next => exact False.elim hq
   | brk => exact False.elim hq
   | cont => exact False.elim hq
theorem wY (F : FnOk X.prog X.w X.K X.mg X.base CX k f fd ps sp) (hr : Room k X.A) (hg : Gl X x) (hm : X.mg x = some (.ref f)) (hk : PySem.W.keepIn X.K (.ref f) = true) (hb : Binds X.K fd ps ds) (hd : Vals dvs ds) (hx : jS CX X E)
   (ha : PA X (e :: es) t) (hdb : (x == ("__debug__" : Str)) = false := by decide) (he : starEach (e :: es) X.env = (false, eval e X.env) :: starEach es X.env := by rfl) (hpl : (backTo pos (starEach es X.env)).any (·.1) = false := by rfl) :
   PE X (.Call (.Name x p) (e :: es) [] pos) (tCall sp dvs E t) := by
 intro pins s σ H Q I h
 refine wpAny_Call_Name_kw (qH I hg hm ?_ hdb)
 refine PySem.W.callWith_K (h₀ := X.base) I.ok.mod.kin hk (thn (ha pos pins s σ H _ I h) fun us s1 ⟨vs, H1, I1, r, q⟩ => ⟨I1.kIn, ?_⟩) he hpl
 exact run_fn F hr hb hd hx I1 r q
theorem pe_meth {pl : Sem Bool} (he : PE X o ta) (c : Cls X.K C) (hm : Meth X.K C m f) (F : FnOk X.prog X.w X.K X.mg X.base CX k f fd ps sp) (hr : Room k X.A) (hb : Binds X.K fd ps ds) (hd : Vals dvs ds) (hx : jS CX X E) (ha : PA X (e :: es) t)
   (hst : starEach (e :: es) X.env = (false, eval e X.env) :: starEach es X.env := by rfl) (hpl : (backTo pos (starEach es X.env)).any (·.1) = false := by rfl)
   (ht : eval (.Call (.Attribute o m apos) (e :: es) [] pos) X.env = (do
     let ov ← eval o X.env
     standAt apos.atName
     let (f, first) ← holding [ov] (getMethod ov m pl)
     callWith pos f first (backTo pos (starEach (e :: es) X.env)) (backToKw pos (keywordEach [] X.env))) := by rfl) :
   PE X (.Call (.Attribute o m apos) (e :: es) [] pos) (jT C m sp dvs E ta t) := by
 intro pins s σ H Q I h
 refine PySem.W.methodCall_KW (pl := pl) (thn (he pins s σ H _ I h) fun u s1 ⟨x, H1, I1, rx, a, dx, fs, ex, ea, l, q⟩ => ?_) ht
 subst ex
 obtain rfl : u = Value.ref a := rx
 refine vN I1 ea c hm l ?_
 refine PySem.W.callWith_K (first := [.ref a]) (h₀ := X.base) I.ok.mod.kin hm.kp (thn (ha pos pins s1 σ H1 _ I1 q) fun us s2 ⟨vs, H2, I2, r, q2⟩ => ⟨I2.kIn, ?_⟩) hst hpl
 exact run_fn (us := .ref a :: us) (vs := .ref a :: vs) F hr hb hd hx I2 (.cons rfl r) q2
theorem pe_meth0 {pl : Sem Bool} (he : PE X o ta) (c : Cls X.K C) (hm : Meth X.K C m f) (F : FnOk X.prog X.w X.K X.mg X.base CX k f fd ps sp) (hr : Room k X.A) (hb : Binds X.K fd ps ds) (hd : Vals dvs ds) (hx : jS CX X E)
   (ht : eval (.Call (.Attribute o m apos) [] [] pos) X.env = (do
     let ov ← eval o X.env
     standAt apos.atName
     let (f, first) ← holding [ov] (getMethod ov m pl)
     callWith pos f first (backTo pos (starEach [] X.env)) (backToKw pos (keywordEach [] X.env))) := by rfl) :
   PE X (.Call (.Attribute o m apos) [] [] pos) (jT C m sp dvs E ta tNil) := by
 intro pins s σ H Q I h
 refine PySem.W.methodCall_KW (pl := pl) (thn (he pins s σ H _ I h) fun u s1 ⟨x, H1, I1, rx, a, dx, fs, ex, ea, l, q⟩ => ?_) ht
 subst ex
 obtain rfl : u = Value.ref a := rx
 refine vN I1 ea c hm l ?_
 exact PySem.W.callWith_K0 (first := [.ref a]) I1.kIn hm.kp (run_fn (us := [.ref a]) (vs := [.ref a]) F hr hb hd hx I1 (.cons rfl .nil) q)
structure Mk (K : PySem.W.Frag) (C f : Addr) : Prop where
 makes : PySem.W.makesIn K C = true
 init : PySem.W.findIn K (.ref C) "__init__" = some (some (.ref f))
 fn : PySem.W.isFn K (.ref f) = true
 kp : PySem.W.keepIn K (.ref C) = true
theorem run_make {pins : List (Addr × Obj)} {σ : St} {H : Hp} {s : Shared} {Q : VK} {us : List Value} {vs : List V} (M : Mk X.K C f) (F : FnOk X.prog X.w X.K X.mg X.base CX k f fd ps sp) (hr : Room (k + 1) X.A) (hb : Binds X.K fd ps ds) (hd : Vals dvs ds)
   (hx : jS CX X E) (I : Inv X pins σ H s) (r : Vals vs us)
   (h : ∀ x dx, H x = none -> H dx = none -> dx ≠ x -> sp (.ref x :: (vs ++ dvs)) (upd (upd H dx (.own x)) x (.ins C dx [])) (fun v H2 => v = .non /\ Q (.ref x) H2) E) :
   wpAny (model X.prog X.w) X.A (call (.ref C) us) (EP X pins σ Q) X.xe s := by
 have hq := h (s.heap.objs.size + 1) s.heap.objs.size (I.hok.fresh (Nat.le_succ _)) (I.hok.fresh (Nat.le_refl _)) (Nat.ne_of_lt (Nat.lt_succ_self _))
 have I2 := Inv.made (C := C) I
 have r2 : Vals (V.ref (s.heap.objs.size + 1) :: (vs ++ dvs)) (Value.ref (s.heap.objs.size + 1) :: (us ++ ds)) := .cons rfl (r.append hd)
 have hl : (Value.ref (s.heap.objs.size + 1) :: us ++ ds).length = ps.length := by
   have e := r2.length
   rw [F.len _ _ _ _ hq] at e
   exact e.symm
 refine wpAny_call (make_map (f := f) I.kIn M.makes M.init (beq_iff_eq.mp M.fn) (codeAny_mono (F.run _ X.stack _ _ ⟨Value.ref (s.heap.objs.size + 1) :: us, []⟩ (Value.ref (s.heap.objs.size + 1) :: (us ++ ds)) _ _ E (hr.make C us [])
   (I2.env0.make C us []) (hb _ (Value.ref (s.heap.objs.size + 1) :: us) I2.kIn hl) r2 hq) fun r s' hq' => ?_))
 cases r with
 | error e => exact hx pins σ _ _ e s' I2 hq'
 | ok fl =>
   cases fl with
   | ret u =>
     obtain ⟨v, H', I3, rv, ev, q3⟩ := I2.after hq'
     subst ev
     exact ⟨rv, ⟨V.ref (s.heap.objs.size + 1), H', I3, rfl, q3⟩⟩
   | next => exact False.elim hq'
   | brk => exact False.elim hq'
   | cont => exact False.elim hq'
theorem pe_make (M : Mk X.K C f) (F : FnOk X.prog X.w X.K X.mg X.base CX k f fd ps sp) (hr : Room (k + 1) X.A) (hg : Gl X x) (hm : X.mg x = some (.ref C)) (hb : Binds X.K fd ps ds) (hd : Vals dvs ds) (hx : jS CX X E)
   (ha : PA X (e :: es) t) (hdb : (x == ("__debug__" : Str)) = false := by decide) (he : starEach (e :: es) X.env = (false, eval e X.env) :: starEach es X.env := by rfl) (hpl : (backTo pos (starEach es X.env)).any (·.1) = false := by rfl) :
   PE X (.Call (.Name x p) (e :: es) [] pos) (tMake C sp dvs E t) := by
 intro pins s σ H Q I h
 refine wpAny_Call_Name_kw (qH I hg hm ?_ hdb)
 refine PySem.W.callWith_K (h₀ := X.base) I.ok.mod.kin M.kp (thn (ha pos pins s σ H _ I h) fun us s1 ⟨vs, H1, I1, r, q⟩ => ⟨I1.kIn, ?_⟩) he hpl
 exact run_make M F hr hb hd hx I1 r q
end
section
variable {X : Cx} {CX : CXT} {k : Nat} {f C : Addr} {fd : FuncData} {ps ks : List Str} {sp : Sp} {E : XK} {x m : Str} {p pos apos kpos : Pos} {e o : Expr} {es : List Expr} {kws : List Keyword} {te ta : TE} {t tk : TA} {nm : Option Str}
structure KBinds (K : PySem.W.Frag) (fd : FuncData) (ps ks : List Str) (g : List Value -> List Value -> List Value) (gV : List V -> List V -> List V) : Prop where
 to : ∀ (s : Shared) (us ws : List Value), K.In s.heap -> (g us ws).length = ps.length -> BindsTo s fd ⟨us, ks.zip ws⟩ (ps.zip (g us ws))
 rel : ∀ {vs : List V} {us : List Value} {zs : List V} {ws : List Value}, Vals vs us -> Vals zs ws -> Vals (gV vs zs) (g us ws)
variable {g : List Value -> List Value -> List Value} {gV : List V -> List V -> List V}
end
structure FnScope (N P : List Str) (sc : Scope) : Prop where
 kind : sc.kind = .function
 co : sc.isCoroutine = false
 gen : sc.isGenerator = false
 nd : N.Nodup
 pre : N.take P.length = P
 par : ∀ x ∈ P, sc.names.lookup x = some .local \/ sc.names.lookup x = some .cell
 nofree : ∀ y ∈ sc.names, y.2 ≠ .free
theorem wN {kindOf : Str -> Option NameKind} {x : Str} : ∀ {binds : List (Str × Value)} {m : Str -> Option Value}, (∀ v, (x, v) ∉ binds) -> bindL kindOf binds m x = m x
 | [], _, _ => rfl
 | (n, v) :: r, m, h => by
   unfold bindL
   rw [wN fun w hw => h w (List.mem_cons_of_mem _ hw)]
   split
   · have : x ≠ n := by rintro rfl; exact h v List.mem_cons_self
     simp [this]
   · rfl
theorem wP {kindOf : Str -> Option NameKind} {x : Str} : ∀ {binds : List (Str × Value)} {m : Str -> Option Value}, (∀ v, (x, v) ∉ binds) -> bindC kindOf binds m x = m x
 | [], _, _ => rfl
 | (n, v) :: r, m, h => by
   unfold bindC
   rw [wP fun w hw => h w (List.mem_cons_of_mem _ hw)]
   split
   · rfl
   · have : x ≠ n := by rintro rfl; exact h v List.mem_cons_self
     simp [this]
theorem wO {kindOf : Str -> Option NameKind} {x : Str} {v : Value} : ∀ {P : List Str} {vs : List Value} {i : Nat} {m : Str -> Option Value}, P.Nodup -> P[i]? = some x -> vs[i]? = some v -> kindOf x = some .local ->
   bindL kindOf (P.zip vs) m x = some v
 | [], _, _, _, _, h, _, _ => by simp at h
 | _ :: _, [], _, _, _, _, h, _ => by simp at h
 | p :: P, w :: vs, 0, m, nd, h1, h2, hk => by
   simp at h1 h2; subst h1; subst h2
   show bindL kindOf ((p, w) :: P.zip vs) m p = _
   unfold bindL
   rw [wN fun v hv => (List.nodup_cons.mp nd).1 (List.of_mem_zip hv).1, if_pos hk]
   simp
 | p :: P, w :: vs, i + 1, m, nd, h1, h2, hk => by
   show bindL kindOf ((p, w) :: P.zip vs) m x = _
   unfold bindL
   exact wO (i := i) (List.nodup_cons.mp nd).2 (by simpa using h1) (by simpa using h2) hk
theorem wQ {kindOf : Str -> Option NameKind} {x : Str} {v : Value} : ∀ {P : List Str} {vs : List Value} {i : Nat} {m : Str -> Option Value}, P.Nodup -> P[i]? = some x -> vs[i]? = some v -> kindOf x ≠ some .local ->
   bindC kindOf (P.zip vs) m x = some v
 | [], _, _, _, _, h, _, _ => by simp at h
 | _ :: _, [], _, _, _, _, h, _ => by simp at h
 | p :: P, w :: vs, 0, m, nd, h1, h2, hk => by
   simp at h1 h2; subst h1; subst h2
   show bindC kindOf ((p, w) :: P.zip vs) m p = _
   unfold bindC
   rw [wP fun v hv => (List.nodup_cons.mp nd).1 (List.of_mem_zip hv).1, if_neg hk]
   simp
 | p :: P, w :: vs, i + 1, m, nd, h1, h2, hk => by
   show bindC kindOf ((p, w) :: P.zip vs) m x = _
   unfold bindC
   exact wQ (i := i) (List.nodup_cons.mp nd).2 (by simpa using h1) (by simpa using h2) hk
def start (N : List Str) (vs : List V) : St := vs.map some ++ List.replicate (N.length - vs.length) none
def yQ (CX : CXT) (P : Program) (w : World) (K : PySem.W.Frag) (mg : Str -> Option Value) (base : Heap) (N : List Str) (qual : Str) (scope : Scope) (f : Addr) (cd : Value) (A : Around) (outer : List Env) (s : Shared) (H : Hp) (E : XK) : Cx where
 prog := P
 w := w
 K := K
 mg := mg
 base := base
 A := A.deeper (envOfC qual scope s.heap.objs.size f cd)
 N := N
 s₀ := s
 H₀ := H
 env := envOfC qual scope s.heap.objs.size f cd
 outer := outer
 stack := envOfC qual scope s.heap.objs.size f cd :: outer
 ex := []
 calm := true
 fn := fun _ => true
 pn := []
 xe := fun e s' => wpAny (model P w) (A.deeper (envOfC qual scope s.heap.objs.size f cd)) (leaving (envOfC qual scope s.heap.objs.size f cd) e) (fun _ s'' => CX outer H s E e s'') (fun e' s'' => CX outer H s E e' s'') s'
theorem cell_has {sc : Scope} {n : Nat} {x : Str} (h : sc.names.lookup x = some .cell) : ∃ c, (cellsFrom n sc.names []).lookup x = some c := by
 have q := PySem.W.cellsFrom_some sc.names n [] (.inl h)
 exact Option.isSome_iff_exists.mp q
theorem inv_start {CX : CXT} {P : Program} {w : World} {K : PySem.W.Frag} {mg : Str -> Option Value} {base : Heap} {N ps : List Str} {qual : Str} {scope : Scope} {f : Addr} {cd : Value} {A : Around} {outer : List Env} {s s1 : Shared} {H : Hp} {E : XK} {us : List Value} {vs : List V}
   (S : FnScope N ps scope) (hd : A.handled = none) (e0 : Env0 P w K mg base A outer s H) (hl : vs.length = ps.length) (r : Vals vs us)
   (x : InCallC s s.heap.objs.size (bindL (envOfC qual scope s.heap.objs.size f cd).kindOf (ps.zip us) fun _ => none) (cellsFrom (s.heap.objs.size + 1) scope.names []) (bindC (envOfC qual scope s.heap.objs.size f cd).kindOf (ps.zip us) fun _ => none) s1) :
   Inv (yQ CX P w K mg base N qual scope f cd A outer s H E) [] (start N vs) H s1 := by
 have hpl : ps.length <= N.length := by have := congrArg List.length S.pre; rw [List.length_take] at this; omega
 obtain ⟨h1, tk, rfl, hk⟩ := x.done
 have noA : ∀ b : Addr, b ∉ (yQ CX P w K mg base N qual scope f cd A outer s H E).ex := fun b z => absurd (show b ∈ ([] : List Addr) from z) (by simp)
 refine ⟨⟨e0.mod, S.kind, rfl, rfl, Nat.le_refl _, fun y z c h1 h2 => ?_, fun y hy => ?_, fun y c _ h => ?_, fun _ => hd, Around.frames_deeper e0.frames, .inr ⟨rfl, rfl⟩, fun b z => absurd z (noA b), e0.bs, e0.bsz, fun b _ _ => noA b, fun b z => absurd z (noA b), e0.funs, e0.frf⟩,
   rfl, e0.bare, Un.kept hk, ⟨_, x.toInCall.ns, fun i y v h1 h2 h3 => ?_⟩, fun y c h => ⟨_, x.cell y c h⟩, e0.hok.fresh (Nat.le_refl _), fun y c h => ?_, fun p hp => absurd (show p ∈ ([] : List (Addr × Obj)) from hp) (by simp), e0.hok.kept hk, ?_⟩
 · exact name_of_addr x.apart (PySem.mem_of_lookup h1) (PySem.mem_of_lookup h2)
 · have hy : scope.names.lookup y = some .cell \/ scope.names.lookup y = some .free := hy
   rcases hy with hy | hy
   · exact cell_has hy
   · exact absurd rfl (S.nofree _ (PySem.mem_of_lookup hy))
 · exact Nat.le_of_lt (x.above y c (PySem.mem_of_lookup h))
 · have hi : i < vs.length := by
     unfold start at h2
     by_cases hi : i < vs.length
     · exact hi
     · rw [List.getElem?_append_right (by simpa using hi)] at h2
       rw [List.getElem?_replicate] at h2
       split at h2 <;> cases h2
   have ha : vs[i]? = some v := by
     unfold start at h2
     rw [List.getElem?_append_left (by simpa using hi), List.getElem?_map] at h2
     cases e : vs[i]? with
     | none => rw [e] at h2; cases h2
     | some a => rw [e] at h2; cases h2; rfl
   obtain ⟨u, hu, rv⟩ := r.get ha
   have hp : ps[i]? = some y := by
     rw [← S.pre, List.getElem?_take_of_lt (by omega)]; exact h1
   have ndP : ps.Nodup := by rw [← S.pre]; exact S.nd.sublist (List.take_sublist _ _)
   refine ⟨u, rv, ?_⟩
   rcases S.par y (List.mem_of_getElem? hp) with k | k
   · exact .inl ⟨k, wO ndP hp hu k⟩
   · obtain ⟨c, e⟩ := cell_has (n := s.heap.objs.size + 1) k
     refine .inr ⟨.inl k, c, e, ?_⟩
     have q := x.cell y c e
     rw [wQ ndP hp hu (by show scope.names.lookup y ≠ _; rw [k]; decide)] at q
     exact q
 · exact e0.hok.fresh (Nat.le_of_lt (x.above y c (PySem.mem_of_lookup h)))
 · unfold start
   show _ = N.length
   rw [List.length_append, List.length_map, List.length_replicate]
   omega
theorem fn_of {CX : CXT} {P : Program} {w : World} {K : PySem.W.Frag} {mg : Str -> Option Value} {base : Heap} {k : Nat} {f : Addr} {name qual : Str} {params : Arguments} {body : List Stmt} {scope : Scope} {dV kV doc pm cdv ct oc : Value} {an od : Option Addr}
   {osl : Array (Option Value)} {N ps : List Str} {sp : Sp} (lk : K.lookup f = some ⟨oc, od, .func (PySem.W.fnOf name qual params body scope dV kV doc pm an cdv ct), osl⟩) (hcd : PySem.W.codeIn K cdv qual = true) (S : FnScope N ps scope)
   (len : ∀ vs H Q E, sp vs H Q E -> vs.length = ps.length)
   (hbody : ∀ (A : Around) (outer : List Env) (s : Shared) (H : Hp) (vs : List V) (Q : VK) (E : XK), Room k (A.deeper (envOfC qual scope s.heap.objs.size f cdv)) -> sp vs H Q E ->
     ∃ t, PSs (yQ CX P w K mg base N qual scope f cdv A outer s H E) body t /\ t { nx := fun _ H' => Q .non H', rt := Q } (start N vs) H) :
   FnOk P w K mg base CX (k + 1) f (PySem.W.fnOf name qual params body scope dV kV doc pm an cdv ct) ps sp := by
 refine ⟨len, fun A outer s H args us vs Q E hr e0 hb r hsp => ?_⟩
 have hl := len _ _ _ _ hsp
 have KX : K.In s.heap := e0.mod.kin.keeps fun b o e => (e0.bs b o e).1
 have lim : s.heap.NoLimit := e0.mod.nolimit.keeps fun b o e => (e0.bs b o e).1
 have hkind : ∀ y ∈ ps.zip us, scope.names.lookup y.1 = some .local \/ (scope.names.lookup y.1 = some .cell /\ ((cellsFrom (s.heap.objs.size + 1) scope.names []).lookup y.1).isSome = true) := fun ⟨n, v⟩ hy => by
   rcases S.par n (List.of_mem_zip hy).1 with q | q
   · exact .inl q
   · exact .inr ⟨q, PySem.W.cellsFrom_some _ _ _ (.inl q)⟩
 refine codeAny_call_function hr.depth (KX _ _ lk) rfl S.co S.gen rfl (PySem.W.codeRec_of KX hcd) (hb _ _ _ _ ?_)
 refine wpAny_newFunctionEnv_cells S.kind hkind fun env he s1 x => ?_
 subst he
 refine ⟨lim.keeps x.toInCall.keep, codeAny_func ?_⟩
 obtain ⟨t, ht, hq⟩ := hbody A outer s H vs Q E (hr.deeper _) hsp
 have I : Inv (yQ CX P w K mg base N qual scope f cdv A outer s H E) [] (start N vs) H s1 := inv_start S hr.hd e0 hl r x
 refine wpAny_mono (ht [] s1 (start N vs) H _ I hq) (fun fl s' hs => ?_) fun e s' hs => hs
 have fin : ∀ {σ' : St} {H' : Hp} {v : V} {u : Value}, Inv (yQ CX P w K mg base N qual scope f cdv A outer s H E) [] σ' H' s' -> RelV v u -> Q v H' -> CE outer P w H s Q u s' :=
   fun {σ' H' v u} J rv q => ⟨v, H', J.os, J.bare, J.base, J.hok, rv, q⟩
 cases fl with
 | ret u =>
   obtain ⟨v, σ', H', J, rv, q⟩ := hs
   exact fin J rv q
 | next =>
   obtain ⟨σ', H', J, q⟩ := hs
   exact fin (v := V.non) (u := Value.none) J rfl q
 | brk =>
   obtain ⟨_, _, _, q⟩ := hs
   exact False.elim q
 | cont =>
   obtain ⟨_, _, _, q⟩ := hs
   exact False.elim q
section
variable {X : Cx} {x : Str} {p pos : Pos} {e : Expr} {es : List Expr} {t : TA} {id T : String} {r : List V -> Hp -> VK -> Prop}
def tCB (r : List V -> Hp -> VK -> Prop) (t : TA) : TE := fun σ H Q => t σ H fun vs H1 => r vs H1 Q
theorem zO (hc : qL X (.builtin id) r) (hg : Gl X x) (hm : X.mg x = none) (hv : bootBuiltins x = some (.builtin id)) (ha : PA X (e :: es) t) (hn : x ≠ "__name__" := by decide) (hdb : (x == ("__debug__" : Str)) = false := by decide)
   (he : starEach (e :: es) X.env = (false, eval e X.env) :: starEach es X.env := by rfl) (hpl : (backTo pos (starEach es X.env)).any (·.1) = false := by rfl) : PE X (.Call (.Name x p) (e :: es) [] pos) (tCB r t) := by
 intro pins s σ H Q I h
 refine wpAny_Call_Name_kw (vJ I hg hm hv ?_ hn hdb)
 exact PyProof.Rows.callWith_builtin1 (thn (ha pos pins s σ H _ I h) fun us s1 ⟨vs, H1, I1, r1, q1⟩ => hc pins s1 σ H1 vs us Q I1 r1 q1) he hpl
theorem wD (hc : qL X (.type T) r) (hg : Gl X x) (hm : X.mg x = none) (hv : bootBuiltins x = some (.type T)) (ha : PA X (e :: es) t) (hn : x ≠ "__name__" := by decide) (hdb : (x == ("__debug__" : Str)) = false := by decide)
   (he : starEach (e :: es) X.env = (false, eval e X.env) :: starEach es X.env := by rfl) (hpl : (backTo pos (starEach es X.env)).any (·.1) = false := by rfl) : PE X (.Call (.Name x p) (e :: es) [] pos) (tCB r t) := by
 intro pins s σ H Q I h
 refine wpAny_Call_Name_kw (vJ I hg hm hv ?_ hn hdb)
 exact PyProof.Rows.callWith_type1 (thn (ha pos pins s σ H _ I h) fun us s1 ⟨vs, H1, I1, r1, q1⟩ => hc pins s1 σ H1 vs us Q I1 r1 q1) he hpl
end
end L2
namespace HT
open PySem PyProof.Rows
section
open PySem.SeqAt
open PySem.AutoSeq1 (wpAny_loadPart')
open PySem.MeetsSeq PySem.MeetsSeq2 PySem.MeetsSeq3
end
section
variable {prog : Program} {w : World} {A : Around} {E : Value -> Shared -> Prop} {s : Shared}
theorem cat_tup {t b : Addr} {vs ws : List Value} {Q : Value -> Shared -> Prop} (ht : IsTup s.heap t vs.toArray) (hb : IsTup s.heap b ws.toArray) (hv : vs ≠ [])
   (h1 : ws = [] -> Q (.ref t) s) (h2 : ws ≠ [] -> Q (.ref s.heap.objs.size) { s with heap := s.heap.push { cls := .type "tuple", data := .seq (vs ++ ws).toArray } })
   (hsz : vs.length + ws.length <= sizeLine) : wpAny (model prog w) A (binaryOp .Add (.ref t) (.ref b)) Q E s := by
 obtain ⟨⟨cls, dd, data, sl⟩, ho, hc, n, hd⟩ := id ht
 obtain ⟨⟨cls2, dd2, data2, sl2⟩, ho2, hc2, n2, hd2⟩ := id hb
 simp only at hc hd hc2 hd2
 subst hc hd hc2 hd2
 have e : vs.toArray ++ ws.toArray = (vs ++ ws).toArray := by simp
 by_cases hw : ws = []
 · exact concat_meets ⟨_, ho, rfl⟩ ⟨_, ho2, rfl⟩ noFill_tuple_add seq_tuple_add PySem.F.slot_tuple_add PySem.F.entry_tuple_add (PySem.F.args_tuple_add_2 _ _)
     (tuple_addW1 t b vs.toArray ws.toArray n n2 dd dd2 sl sl2 (by simpa using hv) (by simp [hw])) ⟨ho, ho2, h1 hw⟩
 · refine concat_meets ⟨_, ho, rfl⟩ ⟨_, ho2, rfl⟩ noFill_tuple_add seq_tuple_add PySem.F.slot_tuple_add PySem.F.entry_tuple_add (PySem.F.args_tuple_add_2 _ _)
     (tuple_addW2 t b vs.toArray ws.toArray n n2 dd dd2 sl sl2 (by simpa using hv) (by simpa using hw) (by rw [List.size_toArray, List.size_toArray]; exact hsz)) ⟨ho, ho2, ?_⟩
   rw [e]
   exact h2 hw
def sIx (n d : Nat) : Option Int -> Nat
 | none => d
 | some v => if v < 0 then (v + (n : Int)).toNat else min v.toNat n
theorem sIx_none (n d : Nat) : sIx n d none = d := rfl
theorem sIx_nat (n d k : Nat) : sIx n d (some (k : Int)) = min k n := by
 show (if (k : Int) < 0 then ((k : Int) + (n : Int)).toNat else min (k : Int).toNat n) = min k n
 rw [if_neg (by omega), Int.toNat_natCast]
theorem sIx_le (n d : Nat) (hd : d <= n) (o : Option Int) : sIx n d o <= n := by
 cases o with
 | none => exact hd
 | some v =>
   show (if v < 0 then (v + (n : Int)).toNat else min v.toNat n) <= n
   by_cases hv : v < 0
   · rw [if_pos hv]; omega
   · rw [if_neg hv]; exact Nat.min_le_right _ _
theorem clip_eq (v : Int) (n d : Nat) : (if v < 0 then max (v + (n : Int)) 0 else min v (n : Int)) = ((sIx n d (some v) : Nat) : Int) := by
 show (if v < 0 then max (v + (n : Int)) 0 else min v (n : Int)) = (((if v < 0 then (v + (n : Int)).toNat else min v.toNat n) : Nat) : Int)
 by_cases hv : v < 0
 · simp only [if_pos hv]; omega
 · simp only [if_neg hv]; omega
theorem adjust_gen (lo hi : Option Int) (n : Nat) : Builtin.Slice.sliceAdjust lo hi 1 (n : Int) = (((sIx n 0 lo : Nat) : Int), ((sIx n n hi : Nat) : Int)) := by
 have h1 : ¬ ((1 : Int) < 0) := by omega
 unfold Builtin.Slice.sliceAdjust
 simp only [h1, if_false]
 refine Prod.ext ?_ ?_
 · cases lo with
   | none => rfl
   | some v => exact clip_eq v n 0
 · cases hi with
   | none => rfl
   | some v => exact clip_eq v n n
theorem places_gen (i j : Nat) : Builtin.Slice.slicePlaces (i : Int) (j : Int) 1 = j - i := by
 unfold Builtin.Slice.slicePlaces
 have h1 : (1 : Int) > 0 := by omega
 simp only [h1, if_true, Int.ediv_one]
 split <;> omega
theorem vA {v : Value} {o : Option Int} {Q : Option Int -> Shared -> Prop} (p : IsPart v o) (h : Q o s) : wpAny (model prog w) A (Builtin.Slice.slicePartIndex v) Q E s := by
 cases p with
 | none => exact slicePart_none h
 | int i t => exact slicePart_int h
theorem uE {sl : Addr} {vl vu : Value} {lo hi : Option Int} {n : Nat} {Q : Int × Int × Nat -> Shared -> Prop} (hs : s.heap.IsSliceOf sl vl vu .none) (pl : IsPart vl lo) (pu : IsPart vu hi)
   (h : Q (((sIx n 0 lo : Nat) : Int), 1, sIx n n hi - sIx n 0 lo) s) : wpAny (model prog w) A (Builtin.Slice.sliceApplied (.ref sl) (pure (n : Int))) Q E s := by
 obtain ⟨os, hos, hcs, hds⟩ := id hs
 unfold Builtin.Slice.sliceApplied Builtin.Slice.sliceFields
 refine wpAny_bind (wpAny_bind (wpAny_field hos hds (x := vl) rfl (wpAny_bind (wpAny_field hos hds (x := vu) rfl (wpAny_bind (wpAny_field hos hds (x := .none) rfl (wpAny_pure ?_)))))))
 refine wpAny_bind (slicePart_none ?_)
 show wpAny _ _ (if ((1 : Int) == 0) = true then _ else _) _ _ s
 rw [if_neg (by decide)]
 refine wpAny_bind (vA pl (wpAny_bind (vA pu (wpAny_bind (wpAny_pure ?_)))))
 show wpAny _ _ (match Builtin.Slice.sliceAdjust lo hi 1 (n : Int) with | (lo, hi) => pure (lo, (1 : Int), Builtin.Slice.slicePlaces lo hi 1)) _ _ s
 rw [adjust_gen lo hi n]
 show wpAny _ _ (pure (((sIx n 0 lo : Nat) : Int), (1 : Int), Builtin.Slice.slicePlaces ((sIx n 0 lo : Nat) : Int) ((sIx n n hi : Nat) : Int) 1)) _ _ s
 rw [places_gen]
 exact wpAny_pure h
theorem pick_gen (xs : Array Value) (i k : Nat) : ((List.range k).filterMap fun (m : Nat) => xs[((i : Int) + (m : Int) * 1).toNat]?).toArray = ((xs.toList.drop i).take k).toArray := by
 have e : (fun (m : Nat) => xs[((i : Int) + (m : Int) * 1).toNat]?) = fun m => xs[i + m]? := by
   funext m
   have : ((i : Int) + (m : Int) * 1).toNat = i + m := by omega
   rw [this]
 rw [e]
 have := pick_run xs i k
 rw [List.filterMap_map] at this
 have e2 : ((fun x => xs[x]?) ∘ fun x => i + x) = fun m => xs[i + m]? := rfl
 rw [e2] at this
 rw [this]
theorem getItem_tuple_cut {t sl : Addr} {items : Array Value} {vl vu : Value} {lo hi : Option Int} {Q : Value -> Shared -> Prop} (ht : IsTup s.heap t items) (hs : s.heap.IsSliceOf sl vl vu .none) (pl : IsPart vl lo) (pu : IsPart vu hi)
   (hw : ¬ (sIx items.size 0 lo = 0 /\ sIx items.size items.size hi = items.size))
   (h : Q (.ref s.heap.objs.size) { s with heap := s.heap.push { cls := .type "tuple", data := .seq ((items.toList.drop (sIx items.size 0 lo)).take (sIx items.size items.size hi - sIx items.size 0 lo)).toArray } })
   (hsz : items.size <= sizeLine) : wpAny (model prog w) A (getItem (.ref t) (.ref sl)) Q E s := by
 have htake : sizeOk (.seq ((items.toList.drop (sIx items.size 0 lo)).take (sIx items.size items.size hi - sIx items.size 0 lo)).toArray) := by
   show ((items.toList.drop (sIx items.size 0 lo)).take (sIx items.size items.size hi - sIx items.size 0 lo)).toArray.size <= sizeLine
   rw [List.size_toArray, List.length_take, List.length_drop, Array.length_toList]
   omega
 have hj : sIx items.size items.size hi <= items.size := sIx_le _ _ (Nat.le_refl _) hi
 obtain ⟨os, hos, hcs, hds⟩ := id hs
 have hTs : s.TypeIs (.ref sl) "slice" := ⟨os, hos, hcs⟩
 unfold getItem
 try with_reducible refine wpAny_holding ?_
 first | refine wpAny_bind (wpAny_pure ?_) | skip
 refine wpAny_bind (wpAny_sequenceKey ht.typeIs (by decide) ?_)
 refine wpAny_bind (wpAny_callSpecial?_slot (name := Str.ofString "__getitem__") ht.typeIs PyProof.Rows.slot_tuple_getitem
   (wpAny_call_entry PyProof.Rows.slot_tuple_getitem ht.typeIs entry_tuple_getitem ?_ (args_tuple_getitem _ _)))
 show wpAny _ _ (Builtin.Tuple.tupleItemsOf (.ref t) >>= _) _ _ s
 refine wpAny_bind (tupleItemsOf_ ht ?_)
 refine wpAny_bind (wpAny_typeOf hTs ?_)
 rw [if_pos (by decide)]
 refine wpAny_bind (uE hs pl pu ?_)
 have hno : ¬ ((((sIx items.size 0 lo : Nat) : Int) == 0 && (1 : Int) == 1 && (sIx items.size items.size hi - sIx items.size 0 lo) == items.size) = true) := by
   intro q
   rw [Bool.and_eq_true, Bool.and_eq_true] at q
   have q1 : ((sIx items.size 0 lo : Nat) : Int) = 0 := eq_of_beq q.1.1
   have q2 : sIx items.size items.size hi - sIx items.size 0 lo = items.size := eq_of_beq q.2
   exact hw ⟨by omega, by omega⟩
 show wpAny _ _ (if (((sIx items.size 0 lo : Nat) : Int) == 0 && (1 : Int) == 1 && (sIx items.size items.size hi - sIx items.size 0 lo) == items.size) = true then _ else _) _ _ s
 rw [if_neg hno, pick_gen]
 first
   | exact wpAny_bind (m := Builtin.Tuple.tupleExact _) (wpAny_newObj_type (wpAny_pure ⟨_, rfl, wpAny_pure h⟩) htake)
   | exact wpAny_bind (m := Builtin.Tuple.tupleExact _) (wpAny_newObj_type (wpAny_bind (wpAny_pure (wpAny_pure ⟨_, rfl, wpAny_pure h⟩))) htake)
   | exact wpAny_bind (wpAny_bind (m := Builtin.Tuple.tupleExact _) (wpAny_newObj_type (wpAny_pure (wpAny_pure ⟨_, rfl, wpAny_pure h⟩)) htake))
   | exact wpAny_bind (wpAny_bind (m := Builtin.Tuple.tupleExact _) (wpAny_newObj_type (wpAny_pure ⟨_, rfl, wpAny_pure h⟩) htake))
end
end HT
namespace L2
open PySem PySem.Spec PyProof.Rows
abbrev TO := St -> Hp -> (Option Int -> Hp -> Prop) -> Prop
def PO (X : Cx) (e : Option Expr) (t : TO) : Prop :=
 ∀ (pins : List (Addr × Obj)) (s : Shared) (σ : St) (H : Hp) (Q : Option Int -> Hp -> Prop), Inv X pins σ H s -> t σ H Q ->
   wpAny (model X.prog X.w) X.A (evalPart e X.env) (fun u s' => ∃ o H', Inv X pins σ H' s' /\ IsPart u o /\ Q o H') X.xe s
def tNoPart : TO := fun _ H Q => Q none H
def tPart (t : TE) : TO := fun σ H Q => t σ H fun x H1 => ∃ i, x = .int i /\ Q (some i) H1
section
variable {X : Cx} {e : Expr} {te : TE} {lo hi : Option Expr} {tl th : TO} {pos p2 : Pos}
theorem po_none : PO X none tNoPart := by
 intro pins s σ H Q I h
 rw [evalPart_none]
 exact wpAny_pure ⟨none, H, I, .none, h⟩
theorem jO (h : PE X e te) : PO X (some e) (tPart te) := by
 intro pins s σ H Q I hw
 rw [evalPart_some]
 refine thn (h pins s σ H _ I hw) fun u s1 ⟨x, H1, I1, r1, q1⟩ => ?_
 obtain ⟨i, rfl, q⟩ := q1
 obtain ⟨t, rfl⟩ := r1
 exact ⟨some i, H1, I1, .int i t, q⟩
def SlR (X : Cx) (r : V -> Option Int -> Option Int -> Hp -> VK -> Prop) : Prop :=
 ∀ (pins : List (Addr × Obj)) (s : Shared) (σ : St) (H : Hp) (x : V) (v vl vu : Value) (lo hi : Option Int) (sl : Addr) (Q : VK), Inv X pins σ H s -> RelV x v -> s.heap.IsSliceOf sl vl vu .none -> IsPart vl lo -> IsPart vu hi -> r x lo hi H Q ->
   ∃ T id, typeLookup (.type T) "__getitem__" = pure (some (.builtin id)) /\ s.TypeIs v T /\ wpAny (model X.prog X.w) X.A (getItem v (.ref sl)) (EP X pins σ Q) X.xe s
def tSl (r : V -> Option Int -> Option Int -> Hp -> VK -> Prop) (te : TE) (tl th : TO) : TE := fun σ H Q => te σ H fun x H1 => tl σ H1 fun l H2 => th σ H2 fun u H3 => r x l u H3 Q
theorem jG {r : V -> Option Int -> Option Int -> Hp -> VK -> Prop} (hr : SlR X r) (he : PE X e te) (hl : PO X lo tl) (hu : PO X hi th) : PE X (.Subscript e (.Slice lo hi none p2) pos) (tSl r te tl th) := by
 intro pins s σ H Q I h
 refine Subscript_ (thn (he pins s σ H _ I h) fun v s1 ⟨x, H1, I1, r1, q1⟩ => ?_)
 refine wpAny_Slice (thn (hl pins s1 σ H1 _ I1 q1) fun vl s2 ⟨l, H2, I2, pl, q2⟩ => thn (hu pins s2 σ H2 _ I2 q2) fun vu s3 ⟨u, H3, I3, pu, q3⟩ => ?_)
 rw [evalPart_none]
 refine wpAny_pure ?_
 have I4 : Inv X pins σ H3 { s3 with heap := s3.heap.push { cls := .type "slice", data := .fields #[vl, vu, .none] } } := I3.kept (t' := s3.toks) fun b ob q => Heap.get?_push_of_some _ q
 obtain ⟨T, id, hT, ht, hg⟩ := hr pins { s3 with heap := s3.heap.push { cls := .type "slice", data := .fields #[vl, vu, .none] } } σ H3 x v vl vu l u s3.heap.objs.size Q I4 r1 (Heap.IsSliceOf.new ..) pl pu q3
 show wpAny (model X.prog X.w) X.A (subscriptTail e (.Slice lo hi none p2) v (.ref s3.heap.objs.size)) (EP X pins σ Q) X.xe { s3 with heap := s3.heap.push { cls := .type "slice", data := .fields #[vl, vu, .none] } }
 exact tail_any (ops := [.ref s3.heap.objs.size, v]) ht hT hg (by with_unfolding_all rfl)
def kH (xs : List V) (lo hi : Option Int) : List V := (xs.drop (HT.sIx xs.length 0 lo)).take (HT.sIx xs.length xs.length hi - HT.sIx xs.length 0 lo)
theorem cutV_length (xs : List V) (lo hi : Option Int) : (kH xs lo hi).length <= xs.length := by
 unfold kH
 rw [List.length_take, List.length_drop]
 omega
def rSlT (K : PySem.W.Frag) : V -> Option Int -> Option Int -> Hp -> VK -> Prop := fun x lo hi H Q => ∃ a xs, x = .ref a /\ SqT K H a xs /\
 ¬ (HT.sIx xs.length 0 lo = 0 /\ HT.sIx xs.length xs.length hi = xs.length) /\ ∀ p, H p = none -> Q (.ref p) (upd H p (.tup (kH xs lo hi)))
theorem sl_tup : SlR X (rSlT X.K) := by
 intro pins s σ H x v vl vu lo hi sl Q I rx hs pl pu h
 obtain ⟨a, xs, rfl, hx, hw, q⟩ := h
 cases rx
 obtain ⟨its, r, ht, hz⟩ := I.tuple hx
 have hlen : its.toArray.size = xs.length := by rw [List.size_toArray]; exact r.length.symm
 refine ⟨"tuple", _, PyProof.Rows.slot_tuple_getitem.lookup, ht.typeIs, ?_⟩
 refine HT.getItem_tuple_cut ht hs pl pu (by rw [hlen]; exact hw) ?_ (by rw [hlen]; exact hz)
 rw [hlen]
 refine ⟨.ref s.heap.objs.size, _, I.laid (t' := s.toks) (o := .tup (kH xs lo hi)) (fun b ob q => Heap.get?_push_of_some _ q) (Nat.le_refl _) ?_, rfl, q _ (I.hok.fresh (Nat.le_refl _))⟩
 exact ⟨Nat.le_trans (cutV_length xs lo hi) hz, _, (r.drop (HT.sIx xs.length 0 lo)).take (HT.sIx xs.length xs.length hi - HT.sIx xs.length 0 lo), IsTup.new _ _⟩
def rCatT (K : PySem.W.Frag) : R2 := fun x y H Q => ∃ a b xs ys, x = .ref a /\ y = .ref b /\ SqT K H a xs /\ SqT K H b ys /\ xs ≠ [] /\ xs.length + ys.length <= sizeLine /\
 (ys = [] -> Q (.ref a) H) /\ (ys ≠ [] -> ∀ p, H p = none -> Q (.ref p) (upd H p (.tup (xs ++ ys))))
theorem Vals.nil_iff {xs : List V} {us : List Value} (r : Vals xs us) : us = [] ↔ xs = [] := by
 cases r with
 | nil => simp
 | cons _ _ => simp
theorem op_catT : OpR X (binaryOp .Add) (rCatT X.K) := by
 intro pins s σ H x y v u Q I rx ry h
 obtain ⟨a, b, xs, ys, rfl, rfl, ha, hb, hx, hz, q1, q2⟩ := h
 cases rx
 cases ry
 obtain ⟨its, r1, p1, _⟩ := I.tuple ha
 obtain ⟨its2, r2, p2, _⟩ := I.tuple hb
 refine HT.cat_tup p1 p2 (fun z => hx (r1.nil_iff.mp z)) (fun z => ⟨.ref a, H, I, rfl, q1 (r2.nil_iff.mp z)⟩) (fun z => ?_) (by rw [← r1.length, ← r2.length]; exact hz)
 refine ⟨.ref s.heap.objs.size, _, I.laid (t' := s.toks) (o := .tup (xs ++ ys)) (fun b ob q => Heap.get?_push_of_some _ q) (Nat.le_refl _) ?_, rfl, q2 (fun w => z (r2.nil_iff.mpr w)) _ (I.hok.fresh (Nat.le_refl _))⟩
 exact ⟨by rw [List.length_append]; exact hz, _, r1.append r2, IsTup.new _ _⟩
end
def ixN (n : Nat) (i : Int) : Option Nat := if 0 <= i then (if i < n then some i.toNat else none) else if -(n : Int) <= i then some (i + n).toNat else none
def atI {α : Type} (xs : List α) (i : Int) : Option α := (ixN xs.length i).bind fun j => xs[j]?
theorem ixN_seq {n : Nat} {i : Int} {j : Nat} (h : ixN n i = some j) : seqIndex? i n = some j /\ j < n /\ -(n : Int) <= i /\ i < n := by
 unfold ixN at h
 by_cases h0 : 0 <= i
 · rw [if_pos h0] at h
   by_cases h1 : i < n
   · rw [if_pos h1] at h
     have e : i.toNat = j := Option.some.inj h
     exact ⟨by rw [seqIndex_of h0 h1, e], by omega, by omega, h1⟩
   · rw [if_neg h1] at h; cases h
 · rw [if_neg h0] at h
   by_cases h1 : -(n : Int) <= i
   · rw [if_pos h1] at h
     have e : (i + n).toNat = j := Option.some.inj h
     exact ⟨by rw [seqIndex_neg (by omega) h1, e], by omega, h1, by omega⟩
   · rw [if_neg h1] at h; cases h
theorem kM {α : Type} {xs : List α} {i : Int} {v : α} (h : atI xs i = some v) : ∃ j, seqIndex? i xs.length = some j /\ xs[j]? = some v /\ j < xs.length /\ -(xs.length : Int) <= i /\ i < xs.length := by
 unfold atI at h
 cases e : ixN xs.length i with
 | none => rw [e] at h; cases h
 | some j =>
   rw [e] at h
   obtain ⟨h1, h2, h3, h4⟩ := ixN_seq e
   exact ⟨j, h1, h, h2, h3, h4⟩
theorem yM {α : Type} {xs : List α} {j : Nat} {v : α} (h : xs[j]? = some v) : atI xs (j : Int) = some v := by
 have hj : j < xs.length := (List.getElem?_eq_some_iff.mp h).1
 have e : ixN xs.length (j : Int) = some j := by
   unfold ixN
   rw [if_pos (by omega), if_pos (by omega)]; simp
 unfold atI; rw [e]; exact h
def PlainIx (b : Expr) : Prop := ∀ o i, subscripted b false o i = operate [o, i] (getItem o i)
def IxR (X : Cx) (r : R2) : Prop :=
 ∀ (value slice : Expr) (pins : List (Addr × Obj)) (s : Shared) (σ : St) (H : Hp) (x y : V) (v u : Value) (Q : VK), Inv X pins σ H s -> RelV x v -> RelV y u -> r x y H Q ->
   subscripted slice false v u = operate [v, u] (getItem v u) -> wpAny (model X.prog X.w) X.A (subscriptTail value slice v u) (EP X pins σ Q) X.xe s
def MtR (X : Cx) (id : String) (r : V -> List V -> Hp -> VK -> Prop) : Prop :=
 ∀ (pins : List (Addr × Obj)) (s : Shared) (σ : St) (H : Hp) (x : V) (xs : List V) (v : Value) (us : List Value) (Q : VK), Inv X pins σ H s -> RelV x v -> Vals xs us -> r x xs H Q ->
   wpAny (model X.prog X.w) X.A (call (.builtin id) (v :: us)) (EP X pins σ Q) X.xe s
section
variable {X : Cx} {a b : Expr} {ta tb : TE} {pos : Pos}
theorem yC {r : R2} (hr : IxR X r) (ha : PE X a ta) (hb : PE X b tb) (hs : PlainIx b) : PE X (.Subscript a b pos) (tOp r ta tb) := by
 intro pins s σ H Q I h
 exact Subscript_ (binT ha hb I h fun v u s2 x y H2 I2 rx ry q => hr a b pins s2 σ H2 x y v u Q I2 rx ry q (hs _ _))
def rIxL (K : PySem.W.Frag) : R2 := fun x y H Q => ∃ p xs i v, x = .ref p /\ y = .int i /\ SqL K H p xs /\ atI xs i = some v /\ Q v H
def rIxT (K : PySem.W.Frag) : R2 := fun x y H Q => ∃ p xs i v, x = .ref p /\ y = .int i /\ SqT K H p xs /\ atI xs i = some v /\ Q v H
def rIxS : R2 := fun x y H Q => ∃ z i c, x = .str z /\ y = .int i /\ z.length <= sizeLine /\ atI z.cps.toList i = some c /\ Q (.str ⟨#[c]⟩) H
theorem ix_list : IxR X (rIxL X.K) := by
 intro value slice pins s σ H x y v u Q I rx ry h hs
 obtain ⟨p, xs, i, z, rfl, rfl, hq, he, q⟩ := h
 cases rx
 obtain ⟨t, rfl⟩ := ry
 obtain ⟨its, r, pl, hz⟩ := I.list hq
 obtain ⟨j, h1, h2, h3, h4, h5⟩ := kM he
 obtain ⟨w, ew, rw'⟩ := r.get h2
 have hl := r.length
 have hn := line63
 have fin : EP X pins σ Q w s := ⟨z, H, I, rw', q⟩
 by_cases h0 : 0 <= i
 · have hj : i.toNat = j := by
     rw [seqIndex_of h0 h5] at h1
     exact Option.some.inj h1
   exact item_listR pl.isList h0 (by omega) (by rw [hj]; simpa using ew) fin hs
 · have hj : (i + (its.toArray.size : Int)).toNat = j := by
     rw [seqIndex_neg (by omega) h4] at h1
     rw [List.size_toArray, ← hl]
     exact Option.some.inj h1
   exact subscriptTail_builtinR (x := w) pl.isList.typeIs slot_list_getitem.lookup
     (wpAny_getItem_list_neg (Q := fun r s' => r = w /\ EP X pins σ Q r s') pl.isList (by omega) (by rw [List.size_toArray] <;> omega) (by omega) (by rw [hj]; simpa using ew) ⟨rfl, fin⟩) hs
theorem ix_tup : IxR X (rIxT X.K) := by
 intro value slice pins s σ H x y v u Q I rx ry h hs
 obtain ⟨p, xs, i, z, rfl, rfl, hq, he, q⟩ := h
 cases rx
 obtain ⟨t, rfl⟩ := ry
 obtain ⟨its, r, pl, hz⟩ := I.tuple hq
 obtain ⟨j, h1, h2, h3, h4, h5⟩ := kM he
 obtain ⟨w, ew, rw'⟩ := r.get h2
 have hl := r.length
 have hn := line63
 have fin : EP X pins σ Q w s := ⟨z, H, I, rw', q⟩
 exact subscriptTail_builtinR (x := w) pl.typeIs slot_tuple_getitem.lookup
   (getItem_tuple (j := j) (Q := fun r s' => r = w /\ EP X pins σ Q r s') pl (by omega) (by omega) (by rw [List.size_toArray, ← hl]; exact h1) (by simpa using ew) ⟨rfl, fin⟩) hs
theorem ix_str : IxR X rIxS := by
 intro value slice pins s σ H x y v u Q I rx ry h hs
 obtain ⟨z, i, c, rfl, rfl, hz, he, q⟩ := h
 obtain ⟨t, rfl⟩ := rx
 obtain ⟨t', rfl⟩ := ry
 obtain ⟨j, h1, h2, h3, h4, h5⟩ := kM he
 have hl : z.cps.toList.length = z.length := by simp [Str.length]
 rw [hl] at h1 h4 h5
 have hn := line63
 exact tail_any (typeIs_str s z t) slot_str_getitem.lookup (getItem_str (c := c) (by
   have e1 : decide (i < -(2 ^ 63 : Int)) = false := decide_eq_false (by omega)
   have e2 : decide (i ≥ 2 ^ 63) = false := decide_eq_false (by omega)
   rw [e1, e2, Bool.or_false]) (by rw [h1]; simpa using h2) ⟨.str ⟨#[c]⟩, H, I.tok _, ⟨_, rfl⟩, q⟩) hs
theorem Inv.lst {pins : List (Addr × Obj)} {σ : St} {H : Hp} {s : Shared} {p : Addr} {xs : List V} (I : Inv X pins σ H s) (h : H p = some (.lst xs)) :
   ∃ (its : List Value) (n : Nat), Vals xs its /\ s.heap.get? p = some { cls := .type "list", data := .seq its.toArray n } /\ xs.length <= sizeLine := by
 obtain ⟨z, its, n, r, e⟩ := I.hok p _ h
 exact ⟨its, n, r, e, z⟩
def rSlL (K : PySem.W.Frag) : V -> Option Int -> Option Int -> Hp -> VK -> Prop := fun x lo hi H Q => ∃ a xs, x = .ref a /\ SqL K H a xs /\ ∀ p, H p = none -> Q (.ref p) (upd H p (.lst (kH xs lo hi)))
def flatV : V -> Bool
 | .non => true
 | .bl _ => true
 | .int _ => true
 | .str _ => true
 | _ => false
def eqV : V -> V -> Bool
 | .non, .non => true
 | .bl a, .bl b => a == b
 | .bl a, .int b => (if a then 1 else 0) == b
 | .int a, .bl b => a == (if b then 1 else 0)
 | .int a, .int b => a == b
 | .str a, .str b => a == b
 | _, _ => false
theorem eqAt_V {A : Around} {s : Shared} {y x : V} {u v : Value} (ry : RelV y u) (rx : RelV x v) (fy : flatV y = true) (fx : flatV x = true) : SeqAt.EqAt A s u v (eqV y x) := by
 cases y with
 | non =>
   cases ry
   cases x with
   | non => cases rx; exact SeqAt.EqAt.same _
   | bl b => cases rx; exact SeqAt.EqAt.none_bool b
   | int b => obtain ⟨t, rfl⟩ := rx; exact SeqAt.EqAt.none_int b t
   | str b => obtain ⟨t, rfl⟩ := rx; exact SeqAt.EqAt.none_str b t
   | _ => exact absurd (show false = true from fx) Bool.false_ne_true
 | bl a =>
   cases ry
   cases x with
   | non => cases rx; exact SeqAt.EqAt.bool_none a
   | bl b => cases rx; exact SeqAt.EqAt.bool_bool a b
   | int b => obtain ⟨t, rfl⟩ := rx; exact SeqAt.EqAt.bool_int a b t
   | str b => obtain ⟨t, rfl⟩ := rx; exact SeqAt.EqAt.bool_str a b t
   | _ => exact absurd (show false = true from fx) Bool.false_ne_true
 | int a =>
   obtain ⟨t', rfl⟩ := ry
   cases x with
   | non => cases rx; exact SeqAt.EqAt.int_none a t'
   | bl b => cases rx; exact SeqAt.EqAt.int_bool a t' b
   | int b => obtain ⟨t, rfl⟩ := rx; exact SeqAt.EqAt.int_int a t' b t
   | str b => obtain ⟨t, rfl⟩ := rx; exact SeqAt.EqAt.int_str a t' b t
   | _ => exact absurd (show false = true from fx) Bool.false_ne_true
 | str a =>
   obtain ⟨t', rfl⟩ := ry
   cases x with
   | non => cases rx; exact SeqAt.EqAt.str_none a t'
   | bl b => cases rx; exact SeqAt.EqAt.str_bool a t' b
   | int b => obtain ⟨t, rfl⟩ := rx; exact SeqAt.EqAt.str_int a t' b t
   | str b => obtain ⟨t, rfl⟩ := rx; exact SeqAt.EqAt.str_str a t' b t
   | _ => exact absurd (show false = true from fx) Bool.false_ne_true
 | _ => exact absurd (show false = true from fy) Bool.false_ne_true
def eqU (x : V) (u : Value) : Bool := match u with
 | .none => eqV .non x
 | .bool b => eqV (.bl b) x
 | .int i _ => eqV (.int i) x
 | .str z _ => eqV (.str z) x
 | _ => false
theorem eqU_of {x y : V} {u : Value} (r : RelV y u) (f : flatV y = true) : eqU x u = eqV y x := by
 cases y with
 | non => cases r; rfl
 | bl b => cases r; rfl
 | int i => obtain ⟨t, rfl⟩ := r; rfl
 | str z => obtain ⟨t, rfl⟩ := r; rfl
 | _ => exact absurd (show false = true from f) Bool.false_ne_true
theorem qY {x : V} : ∀ {xs : List V} {us : List Value}, Vals xs us -> xs.all flatV = true -> us.any (eqU x) = xs.any fun y => eqV y x
 | _, _, .nil, _ => rfl
 | y :: xs, u :: us, .cons r t, f => by
   rw [List.all_cons, Bool.and_eq_true] at f
   rw [List.any_cons, List.any_cons, eqU_of r f.1, qY t f.2]
theorem qE {A : Around} {s : Shared} {x : V} {v : Value} (rx : RelV x v) (fx : flatV x = true) : ∀ {xs : List V} {us : List Value}, Vals xs us -> xs.all flatV = true -> ∀ u ∈ us, SeqAt.EqAt A s u v (eqU x u)
 | _, _, .nil, _ => fun u hu => by cases hu
 | y :: xs, u :: us, .cons r t, f => fun u' hu => by
   rw [List.all_cons, Bool.and_eq_true] at f
   rcases List.mem_cons.mp hu with rfl | hu
   · rw [eqU_of r f.1]; exact eqAt_V r rx f.1 fx
   · exact qE rx fx t f.2 u' hu
def inV (x : V) (xs : List V) : Bool := xs.any fun y => eqV y x
def rIn (K : PySem.W.Frag) (neg : Bool) : R2 := fun x y H Q => ∃ p xs, y = .ref p /\ (SqL K H p xs \/ SqT K H p xs) /\ flatV x = true /\ xs.all flatV = true /\ Q (.bl (if neg then !inV x xs else inV x xs)) H
theorem op_in_seq : OpR X (compareOp .In) (rIn X.K false) := by
 intro pins s σ H x y v u Q I rx ry h
 obtain ⟨p, xs, rfl, hq, fx, fs, q⟩ := h
 cases ry
 rcases hq with hq | hq
 · obtain ⟨its, r, pl, hz⟩ := I.list hq
   refine SeqAt.in_listAt (eqU x) pl.isList (fun w hw => qE rx fx r fs w (by simpa using hw)) ⟨.bl _, H, I, rfl, ?_⟩
   rw [show its.toArray.any (eqU x) = its.any (eqU x) by simp, qY r fs]
   exact q
 · obtain ⟨its, r, pl, hz⟩ := I.tuple hq
   refine SeqAt.in_tupleAt (eqU x) pl (fun w hw => qE rx fx r fs w (by simpa using hw)) ⟨.bl _, H, I, rfl, ?_⟩
   rw [show its.toArray.any (eqU x) = its.any (eqU x) by simp, qY r fs]
   exact q
theorem op_notIn_seq : OpR X (compareOp .NotIn) (rIn X.K true) := by
 intro pins s σ H x y v u Q I rx ry h
 obtain ⟨p, xs, rfl, hq, fx, fs, q⟩ := h
 cases ry
 rcases hq with hq | hq
 · obtain ⟨its, r, pl, hz⟩ := I.list hq
   refine SeqAt.notIn_listAt (eqU x) pl.isList (fun w hw => qE rx fx r fs w (by simpa using hw)) ⟨.bl _, H, I, rfl, ?_⟩
   rw [show its.toArray.any (eqU x) = its.any (eqU x) by simp, qY r fs]
   exact q
 · obtain ⟨its, r, pl, hz⟩ := I.tuple hq
   refine SeqAt.notIn_tupleAt (eqU x) pl (fun w hw => qE rx fx r fs w (by simpa using hw)) ⟨.bl _, H, I, rfl, ?_⟩
   rw [show its.toArray.any (eqU x) = its.any (eqU x) by simp, qY r fs]
   exact q
theorem call_tuple_of : qL X (.type "tuple") (fun xs H Q => ∃ p ys, xs = [.ref p] /\ ((SqL X.K H p ys /\ ∀ l, H l = none -> Q (.ref l) (upd H l (.tup ys))) \/ (SqT X.K H p ys /\ Q (.ref p) H))) := by
 intro pins s σ H xs us Q I r h
 obtain ⟨p, ys, rfl, h⟩ := h
 obtain ⟨u, rfl, rx⟩ := vW r
 cases rx
 rcases h with ⟨hq, q⟩ | ⟨hq, q⟩
 · obtain ⟨its, r', pl, hz⟩ := I.list hq
   have hlen := r'.length
   refine call_tuple_list pl.isList (fun h' kp => ?_) (by simp only [List.size_toArray] <;> omega)
   have I1 : Inv X pins σ H { s with heap := h' } := I.kept (t' := s.toks) kp
   have I2 : Inv X pins σ (upd H h'.objs.size (.tup ys)) { s with heap := h'.push { cls := .type "tuple", data := .seq its.toArray } } :=
     I1.laid (t' := s.toks) (fun b o e => Heap.get?_push_of_some _ e) (Nat.le_refl _) (show ObjOk X.prog X.w _ _ _ (.tup ys) from ⟨hz, its, r', IsTup.new _ _⟩)
   exact ⟨.ref h'.objs.size, _, I2, rfl, q _ (I1.hok.fresh (Nat.le_refl _))⟩
 · obtain ⟨its, r', pl, hz⟩ := I.tuple hq
   exact call_tuple_same pl ⟨.ref p, H, I, rfl, q⟩
def tyV (K : PySem.W.Frag) (T : String) (x : V) (H : Hp) : Prop := match x with
 | .str _ => T = "str"
 | .int _ => T = "int"
 | .ref p => (T = "list" /\ ∃ xs, SqL K H p xs) \/ (T = "tuple" /\ ∃ o, K.lookup p = some o /\ o.cls = .type "tuple" /\ o.dict = none) \/
     (T = "dict" /\ ((∃ kvs, H p = some (.dK kvs)) \/ ∃ kvs, H p = some (.dT kvs))) \/ (T = "set" /\ ∃ S n, H p = some (.set S n))
 | _ => False
theorem tyV_is {pins : List (Addr × Obj)} {σ : St} {H : Hp} {s : Shared} {T : String} {x : V} {v : Value} (I : Inv X pins σ H s) (r : RelV x v) (ty : tyV X.K T x H) :
   s.TypeIs v T /\ ∀ a, v = .ref a -> ∃ ob, s.heap.get? a = some ob /\ ob.dict = none := by
 cases x with
 | str z =>
   obtain ⟨t, rfl⟩ := r
   cases (show T = "str" from ty)
   exact ⟨typeIs_str s z t, fun _ e => nomatch e⟩
 | int i =>
   obtain ⟨t, rfl⟩ := r
   cases (show T = "int" from ty)
   exact ⟨typeIs_int s i t, fun _ e => nomatch e⟩
 | ref p =>
   cases r
   rcases ty with ⟨rfl, xs, hq⟩ | ⟨rfl, o, hk, hc, hd⟩ | ⟨rfl, hk⟩ | ⟨rfl, S, n, hk⟩
   · obtain ⟨its, _, pl, _⟩ := I.list hq
     refine ⟨pl.isList.typeIs, fun a e => ?_⟩
     cases e
     obtain ⟨o, n, e, c, hd, _⟩ := pl
     exact ⟨o, e, hd⟩
   · refine ⟨⟨o, I.kIn p o hk, hc⟩, fun a e => ?_⟩
     cases e
     exact ⟨o, I.kIn _ o hk, hd⟩
   · have z : ∃ o, s.heap.get? p = some o /\ o.ExactDict := by
       rcases hk with ⟨kvs, hk⟩ | ⟨kvs, hk⟩
       · obtain ⟨_, _, _, _, o, _, _, e, ex, _⟩ := I.hok p _ hk
         exact ⟨o, e, ex⟩
       · obtain ⟨_, _, _, _, o, _, _, e, ex, _⟩ := I.hok p _ hk
         exact ⟨o, e, ex⟩
     obtain ⟨o, e, ex⟩ := z
     refine ⟨⟨o, e, ex.1⟩, fun a e2 => ?_⟩
     cases e2
     exact ⟨o, e, ex.2.1⟩
   · obtain ⟨o, _, _, _, e, ex, _⟩ := I.hok p _ hk
     refine ⟨⟨o, e, ex.1⟩, fun a e2 => ?_⟩
     cases e2
     exact ⟨o, e, ex.2.1⟩
 | _ => exact False.elim ty
def tBM0 (K : PySem.W.Frag) (T : String) (r : V -> List V -> Hp -> VK -> Prop) (to : TE) : TE := fun σ H Q => to σ H fun x H1 => tyV K T x H1 /\ r x [] H1 Q
def tBM (K : PySem.W.Frag) (T : String) (r : V -> List V -> Hp -> VK -> Prop) (to : TE) (t : TA) : TE := fun σ H Q => to σ H fun x H1 => tyV K T x H1 /\ t σ H1 fun xs H2 => r x xs H2 Q
variable {o e : Expr} {es : List Expr} {to : TE} {t : TA} {name : Str} {apos cpos : Pos} {T id : String} {r : V -> List V -> Hp -> VK -> Prop}
theorem qV (pa : PlainAttrs T) (slot : Slot T name id) (hty : typeOf (.builtin id) = pure (.type "method_descriptor")) (hm : MtR X id r) (ho : PE X o to) (ha : PA X (e :: es) t)
   (hbase : attributeBase o name X.env (eval o X.env) = eval o X.env := by rfl)
   (hfew : ((backTo cpos (starEach (e :: es) X.env)).all (fun x => !x.1) && (backToKw cpos (keywordEach [] X.env)).all (fun x => x.1.isSome)
     && decide ((e :: es).length + ([] : List Keyword).length + (if ([] : List Keyword).isEmpty then 0 else 1) < 30)) = true := by rfl)
   (hline : (apos.endLine == cpos.line) = true := by rfl) (hs : starEach (e :: es) X.env = (false, eval e X.env) :: starEach es X.env := by rfl) (hplain : (backTo cpos (starEach es X.env)).any (·.1) = false := by rfl) :
   PE X (.Call (.Attribute o name apos) (e :: es) [] cpos) (tBM X.K T r to t) := by
 intro pins s σ H Q I h
 refine wpAny_Call_method_late hbase hfew hline rfl (thn (ho pins s σ H _ I h) fun v s1 ⟨x, H1, I1, r1, ty, q1⟩ => ?_)
 obtain ⟨h1, h2⟩ := tyV_is I1 r1 ty
 refine ⟨T, id, pa, slot, hty, h1, h2, ?_⟩
 have hA := ha cpos pins s1 σ H1 _ I1 q1
 rw [hs] at hA ⊢
 refine Calls.callWith_builtin (by show (false || (backTo cpos (starEach es X.env)).any (·.1)) = false; rw [hplain] <;> rfl) (Calls.evalArgs_plain ?_)
 exact thn hA fun us s2 ⟨vs, H2, I2, r2, q2⟩ => hm pins s2 σ H2 x vs v us Q I2 r1 r2 q2
end
def MtM (X : Cx) (id : String) (r : V -> List V -> Hp -> VK -> Prop) : Prop :=
 ∀ (pins : List (Addr × Obj)) (s : Shared) (σ : St) (H : Hp) (x : V) (xs : List V) (v : Value) (us : List Value) (Q : VK), Inv X pins σ H s -> RelV x v -> Vals xs us -> r x xs H Q ->
   wpAny (model X.prog X.w) X.A (call (.builtin id) (v :: us)) (EP X pins σ Q) X.xe s
theorem Vals.one : ∀ {x : V} {us : List Value}, Vals [x] us -> ∃ u, us = [u] /\ RelV x u
 | _, _, .cons r .nil => ⟨_, rfl, r⟩
theorem Vals.dropLast {xs : List V} {us : List Value} (h : Vals xs us) : Vals xs.dropLast us.dropLast := by
 induction h with
 | nil => exact .nil
 | cons r t ih =>
   cases t with
   | nil => exact .nil
   | cons q t' => exact .cons r ih
section
variable {X : Cx} {pins : List (Addr × Obj)} {σ : St} {H : Hp} {s : Shared} {l b : Addr} {xs ys zs : List V}
theorem Inv.lset {its its' : List Value} {n : Nat} {f : Array Value -> Array Value} {t' : Nat} (I : Inv X pins σ H s) (hH : H l = some (.lst xs))
   (e : s.heap.get? l = some { cls := .type "list", data := .seq its.toArray n }) (hf : f its.toArray = its'.toArray) (hv : Vals ys its') (hz : ys.length <= sizeLine) :
   Inv X pins σ (upd H l (.lst ys)) { s with heap := s.heap.update l (Obj.mapSeq f), toks := t' } := by
 have q := PySem.IsL.update e f
 rw [hf] at q
 refine I.write (x := l) (e := l) (by rw [hH]; exact trivial) (.inl rfl) (fun b' u hb hu => (Heap.get?_update_other s.heap (Obj.mapSeq f) (Ne.symm hb)).trans hu) ⟨_, q⟩ ?_
 exact ⟨hz, its', _, hv, q⟩
theorem Inv.lnew {its : List Value} {t' : Nat} (I : Inv X pins σ H s) (hv : Vals ys its) (hz : ys.length <= sizeLine) :
   Inv X pins σ (upd H s.heap.objs.size (.lst ys)) { s with heap := s.heap.push { cls := .type "list", data := .seq its.toArray }, toks := t' } :=
 I.laid (fun _ _ q => Heap.get?_push_of_some _ q) (Nat.le_refl _) ⟨hz, its, 0, hv, Heap.get?_push_size _ rfl⟩
theorem Inv.fresh (I : Inv X pins σ H s) : H s.heap.objs.size = none := I.hok.fresh (Nat.le_refl _)
theorem Inv.lstM (I : Inv X pins σ H s) (hH : H l = some (.lst xs)) : xs.length <= sizeLine /\ ∃ (its : List Value) (n : Nat), Vals xs its /\ xs.length = its.length /\ s.heap.get? l = some { cls := .type "list", data := .seq its.toArray n } := by
 obtain ⟨z, its, n, r, e⟩ := I.hok l _ hH
 exact ⟨z, its, n, r, r.length, e⟩
end
section
variable {X : Cx}
def rAppend : V -> List V -> Hp -> VK -> Prop := fun x vs H Q => ∃ l xs y, x = .ref l /\ vs = [y] /\ H l = some (.lst xs) /\ xs.length < sizeLine /\ Q .non (upd H l (.lst (xs ++ [y])))
theorem mt_append : MtM X "list.append" rAppend := by
 intro pins s σ H x vs v us Q I rx rv h
 obtain ⟨l, xs, y, rfl, rfl, hH, hz, q⟩ := h
 cases rx
 obtain ⟨u, rfl, ru⟩ := rv.one
 obtain ⟨z, its, n, r, hl, e⟩ := I.lstM hH
 refine call_meets F.slot_list_append ⟨_, e, rfl⟩ F.entry_list_append (F.args_list_append_2 _ _) (PySem.list_append l its.toArray n u (by rw [List.size_toArray]; omega)) ⟨e, ?_⟩
 refine ⟨.non, _, I.lset (its' := its ++ [u]) hH e (by simp) (r.append (.cons ru .nil)) ?_, rfl, q⟩
 rw [List.length_append, List.length_singleton]
 omega
def rPop : V -> List V -> Hp -> VK -> Prop := fun x vs H Q => ∃ l xs y, x = .ref l /\ vs = [] /\ H l = some (.lst xs) /\ xs[xs.length - 1]? = some y /\ Q y (upd H l (.lst xs.dropLast))
def rCat : R2 := fun x y H Q => ∃ l b xs zs, x = .ref l /\ y = .ref b /\ H l = some (.lst xs) /\ H b = some (.lst zs) /\ xs.length + zs.length <= sizeLine /\ ∀ p, H p = none -> Q (.ref p) (upd H p (.lst (xs ++ zs)))
end
section
variable {prog : Program} {w : World} {A : Around} {E : Value -> Shared -> Prop} {s : Shared}
end
section
variable {X : Cx}
end
section
variable {κ : Type} [DecidableEq κ]
def uO (kvs : List (κ × V)) (k : κ) : Option V := (kvs.find? fun kv => decide (kv.1 = k)).map (·.2)
def putK (kvs : List (κ × V)) (k : κ) (v : V) : List (κ × V) :=
 if (kvs.any fun kv => decide (kv.1 = k)) = true then kvs.map (fun kv => if kv.1 = k then (kv.1, v) else kv) else kvs ++ [(k, v)]
theorem valV_pos {p : κ × V} {r : List (κ × V)} {k : κ} (e : p.1 = k) : uO (p :: r) k = some p.2 := by simp [uO, List.find?_cons, e]
theorem valV_neg {p : κ × V} {r : List (κ × V)} {k : κ} (e : ¬ p.1 = k) : uO (p :: r) k = uO r k := by simp [uO, List.find?_cons, e]
theorem KV.val {kvs : List (κ × V)} {vs : List (κ × Value)} (r : KV kvs vs) (k : κ) : RelO (uO kvs k) (valueAt vs k) := by
 unfold KV at r
 induction r with
 | nil => exact True.intro
 | @cons p q ps qs h t ih =>
   obtain ⟨h1, h2⟩ := h
   by_cases e : p.1 = k
   · have e' : q.1 = k := h1.symm.trans e
     have b : valueAt (q :: qs) k = some q.2 := by simp [valueAt, List.find?_cons, e']
     rw [valV_pos e, b]; exact h2
   · have e' : ¬ q.1 = k := fun z => e (h1.trans z)
     have b : valueAt (q :: qs) k = valueAt qs k := by simp [valueAt, List.find?_cons, e']
     rw [valV_neg e, b]; exact ih
theorem KV.any {kvs : List (κ × V)} {vs : List (κ × Value)} (r : KV kvs vs) (k : κ) : (kvs.any fun kv => decide (kv.1 = k)) = vs.any fun kv => decide (kv.1 = k) := by
 unfold KV at r
 induction r with
 | nil => rfl
 | cons h t ih => rw [List.any_cons, List.any_cons, ih, h.1]
theorem KV.keys {kvs : List (κ × V)} {vs : List (κ × Value)} (r : KV kvs vs) : kvs.map (·.1) = vs.map (·.1) := by
 unfold KV at r
 induction r with
 | nil => rfl
 | cons h t ih => rw [List.map_cons, List.map_cons, ih, h.1]
theorem KV.length {kvs : List (κ × V)} {vs : List (κ × Value)} (r : KV kvs vs) : kvs.length = vs.length := Paired.length r
end
theorem kV_is {P : Program} {w : World} {k : Key} {u : Value} (r : RelV (kV k) u) : (xF P w).is k u = true := by
 cases k with
 | inl i => obtain ⟨t, e⟩ := (show ∃ t, u = Value.int i t from r); subst e; exact mixKind_int P w i t
 | inr x => obtain ⟨t, e⟩ := (show ∃ t, u = Value.str x t from r); subst e; exact qD P w x t
abbrev KT (H : Hp) : List (List Key × V) -> List (List Key × Addr × Value) -> Prop := Paired fun p q => p.1 = q.1 /\ H q.2.1 = some (.tup (p.1.map kV)) /\ RelV p.2 q.2.2
section
variable {P : Program} {w : World} {H : Hp} {h : Heap} {a : Addr}
end
def DGet (H : Hp) (a : Addr) (y : V) (r : Option V) : Prop :=
 (∃ kvs k, Rd H a (.dK kvs) /\ y = kV k /\ r = uO kvs k) \/ ∃ kvs k b, Rd H a (.dT kvs) /\ y = .ref b /\ H b = some (.tup (k.map kV)) /\ r = uO kvs k
def DPut (H : Hp) (a : Addr) (y v : V) (H' : Hp) : Prop :=
 (∃ kvs k, H a = some (.dK kvs) /\ y = kV k /\ kvs.length < sizeLine /\ H' = upd H a (.dK (putK kvs k v))) \/
 ∃ kvs k b, H a = some (.dT kvs) /\ y = .ref b /\ H b = some (.tup (k.map kV)) /\ kvs.length < sizeLine /\ H' = upd H a (.dT (putK kvs k v))
theorem DGet.k {H : Hp} {a : Addr} {kvs : List (Key × V)} {k : Key} (e : H a = some (.dK kvs)) : DGet H a (kV k) (uO kvs k) := .inl ⟨kvs, k, .inl e, rfl, rfl⟩
theorem DGet.t {H : Hp} {a b : Addr} {kvs : List (List Key × V)} {k : List Key} (e : H a = some (.dT kvs)) (eb : H b = some (.tup (k.map kV))) : DGet H a (.ref b) (uO kvs k) := .inr ⟨kvs, k, b, .inl e, rfl, eb, rfl⟩
theorem DPut.k {H : Hp} {a : Addr} {kvs : List (Key × V)} {k : Key} {v : V} (e : H a = some (.dK kvs)) (hl : kvs.length < sizeLine) : DPut H a (kV k) v (upd H a (.dK (putK kvs k v))) := .inl ⟨kvs, k, e, rfl, hl, rfl⟩
theorem DPut.t {H : Hp} {a b : Addr} {kvs : List (List Key × V)} {k : List Key} {v : V} (e : H a = some (.dT kvs)) (eb : H b = some (.tup (k.map kV))) (hl : kvs.length < sizeLine) :
   DPut H a (.ref b) v (upd H a (.dT (putK kvs k v))) := .inr ⟨kvs, k, b, e, rfl, eb, hl, rfl⟩
section
variable {X : Cx} {pins : List (Addr × Obj)} {σ : St} {H : Hp} {s : Shared} {a : Addr} {y v : V} {u r : Value} {o : Option V} {A : Around} {E : Value -> Shared -> Prop}
end
section
variable {X : Cx} {pins : List (Addr × Obj)} {σ : St} {H : Hp} {s : Shared} {a : Addr} {kvs : List (Key × V)} {k : Key} {u : Value} {A : Around} {E : Value -> Shared -> Prop}
end
def NoSl (i : Expr) : Prop := ∀ ov iv, subscripted i false ov iv = operate [ov, iv] (getItem ov iv)
theorem subD_of {prog : Program} {w : World} {A : Around} {E : Value -> Shared -> Prop} {s : Shared} {env : Env} {value slice : Expr} {pos : Pos} {T id : String} {Q : Value -> Shared -> Prop}
   (hl : typeLookup (.type T) "__getitem__" = pure (some (.builtin id))) (hs : NoSl slice)
   (h : wpAny (model prog w) A (eval value env) (fun o s₁ => wpAny (model prog w) A (eval slice env) (fun i s₂ => s₂.TypeIs o T /\ wpAny (model prog w) A (getItem o i) Q E s₂) E s₁) E s) :
   wpAny (model prog w) A (eval (.Subscript value slice pos) env) Q E s := by
 refine Subscript_ (wpAny_mono h (fun o s₁ h₁ => wpAny_mono h₁ (fun i s₂ h₂ => ?_) fun _ _ x => x) fun _ _ x => x)
 obtain ⟨hT, h₂⟩ := h₂
 unfold subscriptTail
 refine wpAny_bind ?_
 rw [getitemInPython_of_ne hT.not_modules]
 refine wpAny_bind (wpAny_specialOf hT hl ?_)
 have fin : wpAny (model prog w) A (subscripted slice false o i) (fun r s₃ => wpAny (model prog w) A (letTemporaryGo value o r >>= fun _ => pure r) Q E s₃) E s₂ := by
   rw [hs o i]
   exact wpAny_operating (wpAny_mono h₂ (fun r s₃ h₃ => wpAny_bind (wpAny_letTemporaryGo (wpAny_pure h₃))) fun _ _ x => x)
 first
   | exact wpAny_pure (wpAny_bind fin)
   | exact wpAny_bind (wpAny_pure (wpAny_bind fin))
   | exact wpAny_bind fin
def tDGet (td ty : TE) : TE := fun σ H Q => td σ H fun x H1 => ty σ H1 fun y H2 => ∃ a v, x = .ref a /\ DGet H2 a y (some v) /\ Q v H2
section
variable {X : Cx} {o i e value : Expr} {pos pos' tpos : Pos} {td ty tv : TE}
end
def tDNewK : TE := fun _ H Q => ∀ p, H p = none -> Q (.ref p) (upd H p (.dK []))
section
variable {X : Cx} {pos : Pos}
end
def tPairs : List (TE × TE) -> St -> Hp -> (List (V × V) -> Hp -> Prop) -> Prop
 | [], _, H, Q => Q [] H
 | (tk, tv) :: r, σ, H, Q => tk σ H fun x H1 => tv σ H1 fun y H2 => tPairs r σ H2 fun ps H3 => Q ((x, y) :: ps) H3
abbrev VV : List (V × V) -> List (Value × Value) -> Prop := Paired fun p q => RelV p.1 q.1 /\ RelV p.2 q.2
def PPs (X : Cx) (pos : Pos) (keys : List (Option Expr)) (values : List Expr) (trs : List (TE × TE)) : Prop :=
 ∀ (pins : List (Addr × Obj)) (s : Shared) (σ : St) (H : Hp) (Q : List (V × V) -> Hp -> Prop), Inv X pins σ H s -> tPairs trs σ H Q ->
   wpAny (model X.prog X.w) X.A (evalPairs (pairTrees keys values X.env pos)) (fun vs s' => ∃ ps H', Inv X pins σ H' s' /\ VV ps vs /\ Q ps H') X.xe s
def mergeK (kvs more : List (Key × V)) : List (Key × V) := more.foldl (fun acc kv => putK acc kv.1 kv.2) kvs
def tDisp (trs : List (TE × TE)) : TE := fun σ H Q => ∀ p, H p = none -> tPairs trs σ (upd H p (.dK [])) fun ps H2 => H2 p = some (.dK []) /\ ∃ kvs : List (Key × V), ps = kvs.map (fun kv => (kV kv.1, kv.2)) /\ kvs.length <= 15 /\ Q (.ref p) (upd H2 p (.dK (mergeK [] kvs)))
structure M1 (X : Cx) (o : Expr) (m : Str) (apos : Pos) (e : Expr) (cpos : Pos) : Prop where
 base : attributeBase o m X.env (eval o X.env) = eval o X.env
 few : ((backTo cpos (starEach [e] X.env)).all (fun x => !x.1) && (backToKw cpos (keywordEach [] X.env)).all (fun x => x.1.isSome)
   && decide (([e] : List Expr).length + ([] : List Keyword).length + (if ([] : List Keyword).isEmpty then 0 else 1) < 30)) = true
 line : (apos.endLine == cpos.line) = true
 trees : backTo cpos (starEach [e] X.env) = [(false, eval e X.env)]
structure M2 (X : Cx) (o : Expr) (m : Str) (apos : Pos) (e f : Expr) (cpos : Pos) : Prop where
 base : attributeBase o m X.env (eval o X.env) = eval o X.env
 few : ((backTo cpos (starEach [e, f] X.env)).all (fun x => !x.1) && (backToKw cpos (keywordEach [] X.env)).all (fun x => x.1.isSome)
   && decide (([e, f] : List Expr).length + ([] : List Keyword).length + (if ([] : List Keyword).isEmpty then 0 else 1) < 30)) = true
 line : (apos.endLine == cpos.line) = true
 trees : backTo cpos (starEach [e, f] X.env) = [(false, eval e X.env), (false, eval f X.env)]
section
variable {X : Cx} {pins : List (Addr × Obj)} {σ : St} {H : Hp} {s : Shared} {a : Addr} {y d : V} {u r : Value} {o : Option V} {A : Around} {E : Value -> Shared -> Prop}
end
section
variable {X : Cx} {o e f : Expr} {apos cpos : Pos} {td ty tx : TE}
end
section
variable {X : Cx} {pins : List (Addr × Obj)} {σ : St} {H : Hp} {s : Shared} {a : Addr} {kvs : List (Key × V)} {A : Around} {E : Value -> Shared -> Prop}
end
section
variable {X : Cx} {pins : List (Addr × Obj)} {σ : St} {H : Hp} {s : Shared} {a : Addr} {y : V} {u : Value} {A : Around} {E : Value -> Shared -> Prop}
end
end L2
namespace Att
open PySem PySem.W PySem.Calls PyProof.Rows
theorem uQ {P : Params} {h : Heap} : ∀ (ns : List Int) (vs : List Value), WellAll P h vs (ns.map WData.int) -> IntsAre vs ns := by
 intro ns
 induction ns with
 | nil =>
   intro vs w
   rw [List.map_nil] at w
   cases w
   exact .nil
 | cons n ns ih =>
   intro vs w
   rw [List.map_cons] at w
   cases w with
   | cons a b =>
     cases a
     exact .cons _ _ (ih _ b)
theorem script_of {l : OpenLaw} {n : Nat} (hn : l.most = some n) {P : Params} {h : Heap} {args : List WData} {vals : List Value}
   (hpre : l.row.toRowW.claim.pre args = true) (hwl : WellAll P h vals args) :
   ∃ a vs ns, vals = [Value.ref a] /\ args = [WData.list (ns.map WData.int)] /\ h.get? a = some { cls := .type "list", data := .seq vs.toArray } /\ IntsAre vs ns /\ ns.length <= n := by
 have hsh : WShape.hasAll [] args [.list .int] = true := (pre_splitW hpre).1
 have hc : l.pre.holds [] { args := args } = true := (pre_splitW hpre).2
 obtain ⟨d, r, rfl, h1, h2⟩ := hasAllW_cons hsh
 obtain rfl := hasAllW_nil h2
 obtain ⟨xs, rfl, h3⟩ := hasW_list h1
 obtain ⟨ns, rfl⟩ := items_int h3
 have hlen : ns.length <= n := by
   unfold OpenLaw.pre at hc
   have h4 : (WTm.not (.lt (.lit (.int (n : Int))) (.len (.arg 0)))).holds [] { args := [.list (ns.map .int)] } = true := by
     have h4 := (holds_andW hc).1
     rw [hn] at h4
     exact h4
   have h5 := condW_of h4 (w_not (w_lt w_lit (w_len_list (w_arg rfl))))
   rw [List.length_map] at h5
   refine Nat.le_of_not_lt fun q => ?_
   have q' : (n : Int) < ((ns.length : Nat) : Int) := by omega
   first
     | (rw [decide_eq_true q'] at h5; exact absurd h5 (by decide))
     | (simp at h5; omega)
 cases hwl with
 | cons w1 w2 =>
   cases w2
   cases w1 with
   | list ho hall => exact ⟨_, _, ns, rfl, rfl, ho, uQ ns _ hall, hlen⟩
theorem post_true (l : OpenLaw) (args : List WData) : l.row.toRowW.claim.post args (.bool true) args = true :=
 postW_of (r := l.row.toRowW) (X := (true == true))
   (show WShape.has [] (.bool true) .bool = true by first | rfl | decide | simp [WShape.has, WShape.arms, WShape.armsAll])
   (show (WTm.eq .res (.lit (.bool true))).value [] { args := args, res := some (.bool true), after := args } = some (.bool (true == true)) from w_eq_bool (w_res rfl) w_lit) rfl
theorem attach_call {l : OpenLaw} {n : Nat} {q : Program} {loose : List Str} {XP : (Str -> Option Value) -> Heap -> Prop} {YP : World -> Heap -> Prop} {d : DefRec}
   (hn : l.most = some n) (hdf : d.params.defaults = [])
   (call : ∀ (w : World) (s₀ s₁ : Shared) (mg mb : Str -> Option Value) (fa : Addr) (o : Obj) (pm cd doc : Value) (a : Addr) (vs : List Value) (ns : List Int),
     Ground q loose [] XP w s₀ mg mb s₁.heap -> YP w s₁.heap ->
     s₁.heap.get? fa = some o -> o.data = .func (docDef d.name d.params d.body d.scope pm cd doc) -> s₁.heap.CodeRec cd d.name -> mg d.name = some (.ref fa) ->
     s₁.heap.get? a = some { cls := .type "list", data := .seq vs.toArray } -> IntsAre vs ns -> ns.length <= n -> s₁.gens = #[] ->
     codeAny (model l.prog w) callerA (.call (.ref fa) ⟨[.ref a], []⟩) (fun r s' => r = .ok (.ret (.bool true)) /\ OldK s₁.heap s'.heap /\ s'.os = s₁.os /\ AllBare s'.gens) s₁) :
   WalkO q loose XP YP l.row.toRowW d [] (fun f vs => PySem.call f vs) := by
 intro w s₀ s₁ mg mb G Y fa o pm cd doc dV kV ho hd hcd hD hmg hg args vals as hpre hlay hrd hwl hlo
 obtain rfl : dV = .none := Dflts.none hD hdf
 obtain rfl : kV = .none := Dflts.noKw hD
 obtain ⟨a, vs, ns, rfl, rfl, hobj, hints, hlen⟩ := script_of hn hpre hwl
 refine enter_call (codeAny_mono (call w s₀ s₁ mg mb fa o pm cd doc a vs ns G Y ho (fd_plain hd) hcd hmg hobj hints hlen hg) fun r s' hq => ?_)
 obtain ⟨rfl, h2, h3, h4⟩ := hq
 exact ⟨.inl ⟨.bool true, .bool true, [], rfl, fun _ => rfl, .bool true, post_true l _, fun _ => ⟨List.Pairwise.nil, fun _ hm => (nomatch hm)⟩⟩, h2, h3, h4⟩
section
variable {prog : Program} {w : World} {A : Around} {E : Value -> Shared -> Prop} {s : Shared} {K : Frag}
end
end Att
namespace L2
open PySem PySem.Spec PyProof.Rows
theorem vals_ints : ∀ {vs : List Value} {ns : List Int}, IntsAre vs ns -> Vals (ns.map V.int) vs
 | _, _, .nil => .nil
 | _, _, .cons n t h => .cons ⟨t, rfl⟩ (vals_ints h)
def Only (H : Hp) : Prop := ∀ b, H b = none \/ ∃ o xs, H b = some (.frz o (.lst xs))
theorem law_call {P : Program} {w : World} {K : PySem.W.Frag} {mg mb : Str -> Option Value} {CX : CXT} {k : Nat} {fa a : Addr} {fd : FuncData} {x : Str} {sp : Sp} {s₁ : Shared} {vs : List Value} {ns : List Int}
   (KX : K.In s₁.heap) (hns : s₁.heap.Ns mainGlobals mg) (hb : s₁.heap.Ns builtinsNs mb) (hbb : ∀ x : Str, x ≠ "__name__" -> mb x = bootBuiltins x) (hlim : s₁.heap.NoLimit) (hg : s₁.gens = #[])
   (ha : s₁.heap.get? a = some { cls := .type "list", data := .seq vs.toArray }) (hi : IntsAre vs ns) (hl : ns.length <= sizeLine) (hr : Room k callerA)
   (F : ∀ base : Heap, K.In base -> base.Ns mainGlobals mg -> FnOk P w K mg base CX k fa fd [x] sp) (hbind : ∀ (s : Shared) (u : Value), BindsTo s fd ⟨[u], []⟩ [(x, u)])
   (hsp : ∀ H : Hp, Only H -> SqL K H a (ns.map V.int) -> sp [.ref a] H (fun v _ => v = .bl true) fun _ _ _ => False)
   (hCX : ∀ H e s', CX [] H s₁ (fun _ _ _ => False) e s' -> False) :
   codeAny (model P w) callerA (.call (.ref fa) ⟨[.ref a], []⟩) (fun r s' => r = .ok (.ret (.bool true)) /\ OldK s₁.heap s'.heap /\ s'.os = s₁.os /\ AllBare s'.gens) s₁ := by
 have rv := vals_ints hi
 have lenV := hi.length
 have core : ∀ H : Hp, Only H -> SqL K H a (ns.map V.int) -> HOk P w H s₁.heap -> (∀ b, H b ≠ none -> b = a) -> (H a ≠ none -> K.lookup a = none) ->
     codeAny (model P w) callerA (.call (.ref fa) ⟨[.ref a], []⟩) (fun r s' => r = .ok (.ret (.bool true)) /\ OldK s₁.heap s'.heap /\ s'.os = s₁.os /\ AllBare s'.gens) s₁ := by
   intro H hO hS hok hA hK
   have base_of : ∀ {b : Addr} {o : Obj}, s₁.heap.get? b = some o -> H b = none -> (kF s₁.heap H).get? b = some o := fun e n => hidT_get e n
   have noA : ∀ {b : Addr} {o : Obj} {es : Array DictEntry} {ep : Nat}, s₁.heap.get? b = some o -> o.data = .dict es ep -> H b = none := fun {b o es ep} e d => by
     cases q : H b with
     | none => rfl
     | some u =>
       have e' : b = a := hA b (by rw [q]; simp)
       subst e'
       rw [ha] at e; cases e
       have d' : Data.seq vs.toArray _ = Data.dict es ep := d
       cases d'
   have nsK : ∀ {b : Addr} {m : Str -> Option Value}, s₁.heap.Ns b m -> (kF s₁.heap H).Ns b m := fun {b m} ⟨o, es, ep, e, d, r⟩ => ⟨o, es, ep, base_of e (noA e d), d, r⟩
   have hKb : K.In (kF s₁.heap H) := fun b o e => base_of (KX b o e) (by
     cases q : H b with
     | none => rfl
     | some u =>
       have e' : b = a := hA b (by rw [q]; simp)
       subst e'
       rw [hK (by rw [q]; simp)] at e; cases e)
   have hM : Mod K mg (kF s₁.heap H) := ⟨hKb, nsK hns, ⟨mb, nsK hb, hbb⟩, let ⟨mc, h1, h2⟩ := hlim; ⟨mc, nsK h1, h2⟩⟩
   have e0 : Env0 P w K mg (kF s₁.heap H) callerA [] s₁ H := ⟨rfl, hM, fun b o e => of_hidT e, Nat.le_of_eq (hidT_size _ _), trivial, fun b hb => absurd (show b ∈ ([] : List Addr) from hb) (by simp), hok, .of_eq hg⟩
   refine codeAny_mono ((F _ hKb (nsK hns)).run callerA [] s₁ H ⟨[.ref a], []⟩ [.ref a] [.ref a] _ _ hr e0 (hbind s₁ (.ref a)) (.cons rfl .nil) (hsp H hO hS)) fun r s' h => ?_
   cases r with
   | error e => exact (hCX H e s' h).elim
   | ok fl =>
     cases fl with
     | next => exact False.elim h
     | brk => exact False.elim h
     | cont => exact False.elim h
     | ret u =>
       obtain ⟨v, H', os, bare, un, hok', r', q⟩ := h
       have q' : v = .bl true := q
       subst q'
       obtain rfl : u = Value.bool true := r'
       refine ⟨rfl, OldK.of_keep fun b o e => ?_, os, bare⟩
       cases q : H b with
       | none => exact un.keep b o e q (by intro z; exact absurd (show b ∈ ([] : List Addr) from z) (by simp)) (by simp)
       | some u =>
         rcases hO b with z | ⟨ob, xs, z⟩
         · rw [q] at z; cases z
         · have z2 := un.frzs b ob _ z
           obtain ⟨e1, _⟩ := hok b _ z
           obtain ⟨e2, _⟩ := hok' b _ z2
           rw [e] at e1; cases e1
           exact e2
 cases hk : K.lookup a with
 | some o =>
   have e := KX a o hk
   rw [ha] at e
   cases e
   refine core (fun _ => none) (fun _ => .inl rfl) (.inr ⟨_, vs.toArray, _, hk, rfl, rfl, rfl, by rw [List.size_toArray, lenV]; exact hl, by simpa using rv⟩) (fun b u z => by have z' : (none : Option HO) = some u := z; cases z') (fun b z => absurd rfl z) fun z => absurd rfl z
 | none =>
   refine core (fun b => if b = a then some (.frz { cls := .type "list", data := .seq vs.toArray } (.lst (ns.map V.int))) else none) (fun b => ?_) (.inl (.inr ⟨{ cls := .type "list", data := .seq vs.toArray }, if_pos rfl⟩)) (fun b u z => ?_) (fun b z => ?_) fun _ => hk
   · by_cases hb : b = a
     · exact .inr ⟨_, _, if_pos hb⟩
     · exact .inl (if_neg hb)
   · by_cases hb : b = a
     · have z' := (if_pos hb).symm.trans z
       cases z'
       subst hb
       exact ⟨ha, by rw [List.length_map]; exact hl, vs, _, rv, ha⟩
     · have z' := (if_neg hb).symm.trans z
       cases z'
   · by_cases hb : b = a
     · exact hb
     · exact absurd (if_neg hb) z
theorem walk_of {l : PySem.W.OpenLaw} {n k : Nat} {q : Program} {loose : List Str} {XP : (Str -> Option Value) -> Heap -> Prop} {YP : World -> Heap -> Prop} {d : DefRec} {K : Params -> PySem.W.Frag} {CX : World -> CXT} {sp : World -> Sp} {x : Str}
   (hn : l.most = some n) (hn2 : n <= sizeLine) (hdf : d.params.defaults = []) (hr : Room k callerA)
   (hY : ∀ (w : World) (h : Heap), YP w h -> (K w.params).In h)
   (F : ∀ (w : World) (mg : Str -> Option Value) (fa : Addr) (h : Heap), (K w.params).In h -> h.Ns mainGlobals mg -> mg d.name = some (.ref fa) ->
     ∃ fd : FuncData, (∀ (s : Shared) (u : Value), BindsTo s fd ⟨[u], []⟩ [(x, u)]) /\
       ∀ base : Heap, (K w.params).In base -> base.Ns mainGlobals mg -> FnOk l.prog w (K w.params) mg base (CX w) k fa fd [x] (sp w))
   (hsp : ∀ (w : World) (H : Hp) (a : Addr) (ns : List Int), ns.length <= n -> Only H -> SqL (K w.params) H a (ns.map V.int) -> sp w [.ref a] H (fun v _ => v = .bl true) fun _ _ _ => False)
   (hCX : ∀ (w : World) (H : Hp) (s : Shared) (e : Value) (s' : Shared), CX w [] H s (fun _ _ _ => False) e s' -> False) :
   PySem.W.WalkO q loose XP YP l.row.toRowW d [] (fun f vs => PySem.call f vs) := by
 refine Att.attach_call hn hdf fun w s₀ s₁ mg mb fa o pm cd doc a vs ns G Y ho hd hcd hmg hobj hints hlen hg => ?_
 have KX := hY w _ Y
 obtain ⟨fd, hb, hF⟩ := F w mg fa _ KX G.T.g hmg
 exact law_call KX G.T.g G.T.b G.T.builtins G.T.nolimit hg hobj hints (Nat.le_trans hlen hn2) hr hF hb (fun H hO hS => hsp w H a ns hlen hO hS) fun H e s' => hCX w H s₁ e s'
def qX (s : Stmt) (j : Nat) : Stmt := match s with
 | .ClassDef _ _ _ body _ _ _ _ _ _ _ => body.getD j (.Pass ⟨0, 0, 0, 0⟩)
 | _ => .Pass ⟨0, 0, 0, 0⟩
def zY (s : Stmt) : Arguments := match s with
 | .FunctionDef _ a _ _ _ _ _ _ _ _ => a
 | _ => { posonlyargs := [], args := [], vararg := none, kwonlyargs := [], kw_defaults := [], kwarg := none, defaults := [] }
def zW (s : Stmt) : List Stmt := match s with
 | .FunctionDef _ _ b _ _ _ _ _ _ _ => b
 | _ => []
def zE (s : Stmt) : Scope := match s with
 | .FunctionDef _ _ _ _ _ _ sc _ _ _ => sc
 | _ => { kind := .function, names := [], isGenerator := false, isCoroutine := false }
abbrev CX0 : CXT := fun _ _ _ _ _ _ => False
abbrev E0 : XK := fun _ _ _ => False
theorem pass0 {X : Cx} : jS CX0 X E0 := fun _ _ _ _ _ _ _ h => h.elim
structure Fun (K : PySem.W.Frag) (x qual : Str) (st : Stmt) (f : Addr) (fd : FuncData) : Prop where
 ex : ∃ (oc : Value) (od : Option Addr) (kV doc pm : Value) (an : Option Addr) (cdv ct : Value) (osl : Array (Option Value)),
   fd = PySem.W.fnOf x qual (zY st) (zW st) (zE st) .none kV doc pm an cdv ct /\ K.lookup f = some ⟨oc, od, .func fd, osl⟩ /\ PySem.W.codeIn K cdv qual = true
 kp : PySem.W.keepIn K (.ref f) = true
section
variable {P : Program} {w : World} {K : PySem.W.Frag} {mg : Str -> Option Value} {base : Heap}
theorem Fun.ok {x qual : Str} {st : Stmt} {f : Addr} {fd : FuncData} {N ps : List Str} {k : Nat} {sp : Sp} (F : Fun K x qual st f fd) (S : FnScope N ps (zE st)) (len : ∀ vs H Q E, sp vs H Q E -> vs.length = ps.length)
   (hbody : ∀ (cdv : Value) (A : Around) (outer : List Env) (s : Shared) (H : Hp) (vs : List V) (Q : VK) (E : XK), Room k (A.deeper (envOfC qual (zE st) s.heap.objs.size f cdv)) -> sp vs H Q E ->
     ∃ t, PSs (yQ CX0 P w K mg base N qual (zE st) f cdv A outer s H E).nox (zW st) t /\ t { nx := fun _ H' => Q .non H', rt := Q } (start N vs) H) : FnOk P w K mg base CX0 (k + 1) f fd ps sp := by
 obtain ⟨oc, od, kV, doc, pm, an, cdv, ct, osl, rfl, lk, hcd⟩ := F.ex
 refine fn_of lk hcd S len fun A outer s H vs Q E hr hsp => ?_
 obtain ⟨t, h, q⟩ := hbody cdv A outer s H vs Q E hr hsp
 exact ⟨t, h.nox, q⟩
theorem Fun.binds {x qual : Str} {st : Stmt} {f : Addr} {fd : FuncData} {ps : List Str} (F : Fun K x qual st f fd)
   (h : ∀ (kV doc pm : Value) (an : Option Addr) (cdv ct : Value) (us : List Value), us.length = ps.length -> bindArgs (PySem.W.fnOf x qual (zY st) (zW st) (zE st) .none kV doc pm an cdv ct) ⟨us, []⟩ = pure (ps.zip us)) : Binds K fd ps [] := by
 obtain ⟨oc, od, kV, doc, pm, an, cdv, ct, osl, rfl, lk, hcd⟩ := F.ex
 exact .all (h kV doc pm an cdv ct)
theorem yJ {x qual : Str} {st : Stmt} {f : Addr} {oc : Value} {od an : Option Addr} {osl : Array (Option Value)} {kV doc pm cdv ct : Value} (l : K.lookup f = some ⟨oc, od, .func (PySem.W.fnOf x qual (zY st) (zW st) (zE st) .none kV doc pm an cdv ct), osl⟩)
   (c : PySem.W.codeIn K cdv qual = true) (k : PySem.W.keepIn K (.ref f) = true) : Fun K x qual st f (PySem.W.fnOf x qual (zY st) (zW st) (zE st) .none kV doc pm an cdv ct) := ⟨⟨oc, od, kV, doc, pm, an, cdv, ct, osl, rfl, l, c⟩, k⟩
end
theorem small1000 {n : Nat} (h : n <= 1000) : n < sizeLine := Nat.lt_of_le_of_lt h (by decide)
section
variable {X : Cx}
theorem pv (i : Nat) {x : Str} {pos : Pos} (hN : X.N[i]? = some x := by rfl) (hv : Vis X.env.scope x := by first | exact Or.inl rfl | exact Or.inr (Or.inl rfl) | exact Or.inr (Or.inr rfl)) (hd : (x == ("__debug__" : Str)) = false := by decide)
   (hcd : (x == ("__classdict__" : Str)) = false := by decide) : PE X (.Name x pos) (tVar i) := pe_var hN hv hd hcd
end
def Same (H H' : Hp) : Prop := ∀ b o, H b = some o -> H' b = some o
theorem Same.refl (H : Hp) : Same H H := fun _ _ h => h
theorem Same.trans {H H1 H2 : Hp} (a : Same H H1) (b : Same H1 H2) : Same H H2 := fun c o h => b c o (a c o h)
theorem Same.seq {K : PySem.W.Frag} {H H' : Hp} {a : Addr} {xs : List V} (e : Same H H') (h : SqL K H a xs) : SqL K H' a xs := by
 rcases h with (h | ⟨o, h⟩) | h
 · exact .inl (.inl (e _ _ h))
 · exact .inl (.inr ⟨o, e _ _ h⟩)
 · exact .inr h
section
variable {X : Cx}
end
section
variable {κ : Type} [DecidableEq κ]
end
def yU (env : Env) : List (Str × NameKind) -> List (Str × Addr) -> List (Str × Addr)
 | [], cs => cs
 | (n, k) :: r, cs => if (k == NameKind.free) = true then yU env r ((n, (env.cells.lookup n).getD 0) :: cs) else yU env r cs
theorem qK {scope : Scope} {env : Env} (h : ∀ x ∈ scope.names, x.2 = .free -> ∃ c, env.cells.lookup x.1 = some c) : closureFor scope env = pure (yU env scope.names []) := by
 unfold closureFor
 have go : ∀ (l : List (Str × NameKind)) (cs : List (Str × Addr)), (∀ x ∈ l, x.2 = .free -> ∃ c, env.cells.lookup x.1 = some c) ->
     (forIn l cs fun (x : Str × NameKind) (r : List (Str × Addr)) => (match x with
       | (name, kind) => if (kind == NameKind.free) = true then do let a ← cellOf env name; pure (ForInStep.yield ((name, a) :: r)) else pure (ForInStep.yield r) : Sem (ForInStep (List (Str × Addr))))) = (pure (yU env l cs) : Sem (List (Str × Addr))) := by
   intro l
   induction l with
   | nil => intro cs _; rfl
   | cons x r ih =>
     intro cs hl
     obtain ⟨n, k⟩ := x
     rw [List.forIn_cons]
     by_cases hk : (k == NameKind.free) = true
     · obtain ⟨c, hc⟩ := hl (n, k) List.mem_cons_self (by simpa using hk)
       have e : cellOf env n = pure c := by unfold cellOf; rw [hc]
       simp only [hk, if_true, e, pure_bind]
       rw [ih _ fun y hy => hl y (List.mem_cons_of_mem _ hy)]
       rw [yU, if_pos hk, hc]
       rfl
     · simp only [hk, if_false, Bool.false_eq_true, pure_bind]
       rw [ih _ fun y hy => hl y (List.mem_cons_of_mem _ hy)]
       rw [yU, if_neg hk]
 have q := go scope.names [] h
 simp only [pure_bind, bind_pure] at q ⊢
 exact q
theorem jR {env : Env} {y : Str} {c : Addr} : ∀ (l : List (Str × NameKind)) (cs : List (Str × Addr)), (∀ x ∈ l, x.2 = .free -> ∃ c, env.cells.lookup x.1 = some c) ->
   (∀ z d, cs.lookup z = some d -> env.cells.lookup z = some d) -> (yU env l cs).lookup y = some c -> env.cells.lookup y = some c
 | [], cs, _, hc, e => hc _ _ e
 | (n, k) :: r, cs, h, hc, e => by
   have hr : ∀ x ∈ r, x.2 = .free -> ∃ c, env.cells.lookup x.1 = some c := fun x hx => h x (List.mem_cons_of_mem _ hx)
   by_cases hk : (k == NameKind.free) = true
   · rw [yU, if_pos hk] at e
     refine jR r _ hr (fun z d ez => ?_) e
     obtain ⟨c', hc'⟩ := h (n, k) List.mem_cons_self (by simpa using hk)
     rw [List.lookup_cons] at ez
     cases hz : z == n with
     | true =>
       rw [hz] at ez
       have hz' : z = n := eq_of_beq hz
       subst hz'
       have e2 : (env.cells.lookup z).getD 0 = d := Option.some.inj ez
       have hc'' : env.cells.lookup z = some c' := hc'
       rw [hc''] at e2 ⊢
       exact congrArg some e2
     | false => rw [hz] at ez; exact hc z d ez
   · rw [yU, if_neg hk] at e
     exact jR r cs hr hc e
theorem qI {env : Env} {y : Str} : ∀ (l : List (Str × NameKind)) (cs : List (Str × Addr)), ((y, NameKind.free) ∈ l \/ ∃ c, cs.lookup y = some c) -> ∃ c, (yU env l cs).lookup y = some c
 | [], cs, h => h.elim (fun z => nomatch z) fun z => z
 | (n, k) :: r, cs, h => by
   by_cases hk : (k == NameKind.free) = true
   · rw [yU, if_pos hk]
     refine qI r _ ?_
     rcases h with h | ⟨c, h⟩
     · rcases List.mem_cons.mp h with h | h
       · cases h
         exact .inr ⟨_, by rw [List.lookup_cons, beq_self_eq_true]⟩
       · exact .inl h
     · cases hz : y == n with
       | true => exact .inr ⟨_, by rw [List.lookup_cons, hz]⟩
       | false => exact .inr ⟨c, by rw [List.lookup_cons, hz]; exact h⟩
   · rw [yU, if_neg hk]
     refine qI r _ ?_
     rcases h with h | h
     · rcases List.mem_cons.mp h with h | h
       · cases h
         exact absurd rfl hk
       · exact .inl h
     · exact .inr h
theorem xW {env : Env} : ∀ {names : List (Str × NameKind)} {x : Str} {k' : NameKind},
   (names.map fun (n, k) => if (k == NameKind.free && env.scope.kind == .function && env.kindOf n == some .cell) then (n, NameKind.cell) else (n, k)).lookup x = some k' ->
   names.lookup x = some k' \/ (names.lookup x = some .free /\ k' = .cell)
 | [], _, _, h => by simp at h
 | (n, k) :: r, x, k', h => by
   have ih := @xW env r x k'
   have h : List.lookup x ((if (k == NameKind.free && env.scope.kind == .function && env.kindOf n == some .cell) = true then (n, NameKind.cell) else (n, k)) :: _) = some k' := h
   rw [List.lookup_cons]
   by_cases hc : (k == NameKind.free && env.scope.kind == .function && env.kindOf n == some .cell) = true
   · rw [if_pos hc, List.lookup_cons] at h
     cases hx : x == n with
     | true =>
       rw [hx] at h
       have e1 : NameKind.cell = k' := Option.some.inj h
       simp only [Bool.and_eq_true] at hc
       exact .inr ⟨congrArg some (eq_of_beq hc.1.1), e1.symm⟩
     | false => rw [hx] at h; exact ih h
   · rw [if_neg hc, List.lookup_cons] at h
     cases hx : x == n with
     | true => rw [hx] at h; exact .inl h
     | false => rw [hx] at h; exact ih h
theorem qS {env : Env} : ∀ {names : List (Str × NameKind)} {x : Str}, names.lookup x = some .free ->
   (names.map fun (n, k) => if (k == NameKind.free && env.scope.kind == .function && env.kindOf n == some .cell) then (n, NameKind.cell) else (n, k)).lookup x = some .cell \/
   (names.map fun (n, k) => if (k == NameKind.free && env.scope.kind == .function && env.kindOf n == some .cell) then (n, NameKind.cell) else (n, k)).lookup x = some .free
 | [], _, h => by simp at h
 | (n, k) :: r, x, h => by
   have ih := @qS env r x
   show List.lookup x ((if (k == NameKind.free && env.scope.kind == .function && env.kindOf n == some .cell) = true then (n, NameKind.cell) else (n, k)) :: _) = _ \/ List.lookup x ((if (k == NameKind.free && env.scope.kind == .function && env.kindOf n == some .cell) = true then (n, NameKind.cell) else (n, k)) :: _) = _
   rw [List.lookup_cons] at h
   by_cases hc : (k == NameKind.free && env.scope.kind == .function && env.kindOf n == some .cell) = true
   · rw [if_pos hc, List.lookup_cons]
     cases hx : x == n with
     | true => exact .inl rfl
     | false => rw [hx] at h; exact ih h
   · rw [if_neg hc, List.lookup_cons]
     cases hx : x == n with
     | true => rw [hx] at h; exact .inr h
     | false => rw [hx] at h; exact ih h
structure LcScope (xs ys : List Str) (scope around : Scope) : Prop where
 kind : scope.kind = .function
 nd : (xs ++ ys).Nodup
 own : ∀ x ∈ xs, scope.names.lookup x = some .local
 cap : ∀ y ∈ ys, scope.names.lookup y = some .free /\ (around.names.lookup y = some .cell \/ around.names.lookup y = some .free)
 nocell : ∀ y ∈ scope.names, y.2 ≠ .cell
 names : ∀ y ∈ scope.names, y.2 = .local -> scope.names.lookup y.1 = some .local
 free : ∀ y ∈ scope.names, y.2 = .free -> y.1 ∈ ys
def yO (X : Cx) (xs ys : List Str) (scope : Scope) (C : Addr) (s₀ : Shared) (H₀ : Hp) (fp : List Addr) : Cx where
 prog := X.prog
 w := X.w
 K := X.K
 mg := X.mg
 base := X.base
 A := X.A
 N := xs ++ ys
 s₀ := s₀
 H₀ := H₀
 env := compEnvC scope (yU X.env scope.names []) C X.env
 outer := X.stack
 stack := X.stack
 ex := fp
 fn := fun _ => false
 calm := X.calm
 pn := []
 xe := fun _ _ => False
def lcSt (xs : List Str) (js : List Nat) (σ : St) : St := xs.map (fun _ => none) ++ js.map fun j => (σ[j]?).join
def LcW (J : It) (n : List Str) (js : List Nat) (g : TG) (tc : Option TT) (te : TE) (σ : St) (H1 : Hp) (Q : VK) : Prop := ∃ W : Nat -> Nat -> List V -> St -> Hp -> Prop, (∃ m, W 0 m [] (lcSt n js σ) H1) /\ ∀ i m ys σ1 H, W i m ys σ1 H ->
 (J.stop i H /\ ∀ p, H p = none -> Q (.ref p) (upd H p (.lst ys))) \/
 (J.go i H /\ ys.length < sizeLine /\ ∀ x H', J.yld i H x H' -> g x σ1 H' fun σ2 H2 => match tc with
   | none => te σ2 H2 fun y H3 => ∃ m', m' < m /\ W (i + 1) m' (ys ++ [y]) σ2 H3
   | some c => c σ2 H2 fun b H3 => if b = true then te σ2 H3 fun y H4 => ∃ m', m' < m /\ W (i + 1) m' (ys ++ [y]) σ2 H4 else ∃ m', m' < m /\ W (i + 1) m' ys σ2 H3)
def tLC (n : List Str) (js : List Nat) (wi : TI) (g : TG) (tc : Option TT) (te : TE) : TE := fun σ H Q => wi σ H fun J H1 => LcW J n js g tc te σ H1 Q
def PIf (X : Cx) (ifs : List Expr) (tc : Option TT) : Prop := match ifs, tc with
 | [], none => True
 | [c], some t => PT X c t
 | _, _ => False
section
variable {X : Cx} {pins : List (Addr × Obj)} {σ : St} {H : Hp} {s : Shared} {xs ys : List Str} {scope : Scope} {fp : List Addr} {C D : Addr} {js : List Nat}
def Caps (X : Cx) (ys : List Str) (js : List Nat) : Prop := js.length = ys.length /\ ∀ (i : Nat) (y : Str) (j : Nat), ys[i]? = some y -> js[i]? = some j -> X.N[j]? = some y
theorem kJ (I : Inv X pins σ H s) (S : LcScope xs ys scope X.env.scope) : ∀ x ∈ scope.names, x.2 = .free -> ∃ c, X.env.cells.lookup x.1 = some c := fun x hx hf =>
 I.ok.has x.1 ((S.cap x.1 (S.free x hx hf)).2.elim .inl .inr)
theorem clos_look (I : Inv X pins σ H s) (S : LcScope xs ys scope X.env.scope) {y : Str} {c : Addr} (e : (yU X.env scope.names []).lookup y = some c) : X.env.cells.lookup y = some c :=
 jR scope.names [] (kJ I S) (fun _ _ z => nomatch z) e
theorem uN (I : Inv X pins σ H s) (S : LcScope xs ys scope X.env.scope) (hj : Caps X ys js) (f2 : ∀ b ∈ fp, vT X pins H b) (fo : ∀ b ∈ fp, b < s.heap.objs.size)
   {h₁ : Heap} {m : Str -> Option Value} {tk : Nat} {oD : Obj} (hC : s.heap.objs.size <= C) (hD : s.heap.objs.size <= D) (hDC : D ≠ C) (hn : h₁.Ns C m) (hd : h₁.get? D = some oD) (hdd : ∀ v, oD.data ≠ .cell v)
   (old : ∀ b o, s.heap.get? b = some o -> h₁.get? b = some o) :
   Inv (yO X xs ys scope C s H fp) [(D, oD)] (lcSt xs js σ) H { s with heap := h₁, toks := tk } := by
 have cl := fun y c => clos_look (y := y) (c := c) I S
 have nC : H C = none := I.hok.fresh hC
 have nD : H D = none := I.hok.fresh hD
 have lt_of : ∀ {b : Addr}, b < s.heap.objs.size -> b ≠ C := fun hb => Nat.ne_of_lt (Nat.lt_of_lt_of_le hb hC)
 have fsub : ∀ b, b ∈ frs X.stack -> b ∈ X.env.locals :: X.fs := I.stkSub
 refine ⟨⟨I.ok.mod, ?_, I.ok.glob, I.ok.blt, hC, fun x y c h1 h2 => I.ok.inj x y c (cl x c h1) (cl y c h2), fun x hx => ?_, (fun x c h => nomatch h), I.ok.hd, I.ok.frames, .inl rfl, fun b hb => ⟨lt_of (fo b hb), fun x c h => (f2 b hb).2.2.2.2.1 x c (cl x c h)⟩, I.bs,
   Nat.le_trans I.ok.bsz I.sz, fun b o e hb => ?_, fun b hb hf => ?_, I.stack, I.stkFree⟩,
   rfl, I.bare, Un.kept old, ⟨m, hn, fun i x v e1 e2 e3 => ?_⟩, fun x c h => ?_, nC, fun x c h => I.freeC x c (cl x c h), fun p hp => ?_, I.hok.kept old, ?_⟩
 · show scope.kind = _
   exact S.kind
 · have hx : (relabel scope X.env).names.lookup x = some .cell \/ (relabel scope X.env).names.lookup x = some .free := hx
   have hm : (x, NameKind.free) ∈ scope.names := by
     rcases hx with hx | hx
     · rcases xW hx with z | z
       · exact absurd rfl (S.nocell _ (PySem.mem_of_lookup z))
       · exact PySem.mem_of_lookup z.1
     · rcases xW hx with z | z
       · exact PySem.mem_of_lookup z
       · exact nomatch z.2
   exact qI scope.names [] (.inl hm)
 · rcases (f2 b hb).2.2.2.1 with z | z
   · exact I.ok.noex b o e z
   · exact absurd (Nat.lt_of_lt_of_le (Heap.lt_size e) (Nat.le_trans I.ok.bsz z)) (Nat.lt_irrefl _)
 · rcases List.mem_cons.mp (fsub b hf) with z | z
   · exact (f2 b hb).2.1 z
   · exact (f2 b hb).2.2.1 z
 · have e1 : (xs ++ ys)[i]? = some x := e1
   have e2 : (xs.map (fun _ => (none : Option V)) ++ js.map fun j => (σ[j]?).join)[i]? = some (some v) := e2
   by_cases hi : i < xs.length
   · rw [List.getElem?_append_left (by simpa using hi), List.getElem?_map] at e2
     cases q : xs[i]? with
     | none => rw [q] at e2; cases e2
     | some z => rw [q] at e2; cases e2
   · rw [List.getElem?_append_right (by simpa using hi), List.length_map, List.getElem?_map] at e2
     rw [List.getElem?_append_right (by simpa using hi)] at e1
     cases q : js[i - xs.length]? with
     | none => rw [q] at e2; cases e2
     | some j =>
       rw [q] at e2
       have e2' : (σ[j]?).join = some v := Option.some.inj e2
       have hy := hj.2 _ _ _ e1 q
       have hσ : σ[j]? = some (some v) := by
         cases z : σ[j]? with
         | none => rw [z] at e2'; cases e2'
         | some t => rw [z] at e2'; exact congrArg some e2'
       have ym : x ∈ ys := List.mem_of_getElem? e1
       obtain ⟨cf, ca⟩ := S.cap x ym
       obtain ⟨m0, _, hl⟩ := I.loc
       obtain ⟨u, ru, lk⟩ := hl j x v hy hσ (ca.elim (fun z => .inr (.inl z)) fun z => .inr (.inr z))
       refine ⟨u, ru, .inr ⟨?_, ?_⟩⟩
       · exact qS (env := X.env) cf
       · rcases lk with ⟨k, _⟩ | ⟨_, c, ec, zc⟩
         · have k : X.env.scope.names.lookup x = some .local := k
           rcases ca with z | z <;> · rw [k] at z; cases z
         · obtain ⟨c', ec'⟩ := qI (env := X.env) (y := x) scope.names [] (.inl (PySem.mem_of_lookup cf))
           have e3 := cl x c' ec'
           rw [ec] at e3
           cases e3
           obtain ⟨o, ho, hod⟩ := zc
           exact ⟨_, ec', o, old _ _ ho, hod⟩
 · obtain ⟨v, o, ho, hod⟩ := I.cell x c (cl x c h)
   exact ⟨v, o, old _ _ ho, hod⟩
 · have hp : p ∈ [(D, oD)] := by simpa [yO] using hp
   have e := List.mem_singleton.mp hp
   subst e
   refine ⟨hd, nD, hDC, fun hf => ?_, hdd⟩
   have hf : D ∈ frs X.stack := hf
   obtain ⟨o, ho⟩ : ∃ o, s.heap.get? D = some o := by
     rcases List.mem_cons.mp (fsub D hf) with z | z
     · obtain ⟨m0, ⟨o, _, _, ho, _⟩, _⟩ := I.loc
       have z : D = X.env.locals := z
       exact ⟨o, z ▸ ho⟩
     · exact absurd z (I.nofs hD)
   exact absurd (Heap.lt_size ho) (Nat.not_lt.mpr hD)
 · show (xs.map (fun _ => (none : Option V)) ++ js.map fun j => (σ[j]?).join).length = (xs ++ ys).length
   rw [List.length_append, List.length_append, List.length_map, List.length_map, hj.1]
end
section
variable {X : Cx} {pins : List (Addr × Obj)} {σ : St} {H : Hp} {s : Shared} {xs ys : List Str} {scope : Scope} {js : List Nat} {tg iter elt : Expr} {ifs : List Expr} {pos : Pos} {wi : TI} {g : TG} {tc : Option TT} {te : TE}
theorem vV {α : Type} {M : Model} {A : Around} {t : Sem α} {Q : α -> Shared -> Prop} {E : Value -> Shared -> Prop} {s : Shared} (h : wpAny M A t Q (fun _ _ => False) s) : wpAny M A t Q E s := wpAny_mono h (fun _ _ x => x) fun _ _ z => z.elim
theorem kI {prog : Program} {w : World} {A : Around} {R : Result -> Shared -> Prop} {it acc : Value} {env : Env} (J : Nat -> Shared -> Prop)
   (turn : ∀ n s, J n s -> wpAny (model prog w) A (pyNext it) (fun r s₁ => match r with
     | none => R (.ok .next) s₁
     | some v => wpAny (model prog w) A (letOwnedTupleGo tg it v) (fun _ s₁' => wpAny (model prog w) A (assign tg env v) (fun _ s₂ =>
         wpAny (model prog w) A (forIn ifs true fun c r => if r = true then do let ok ← isTrue c env (eval c env); pure (ForInStep.yield ok) else pure (ForInStep.yield r)) (fun ok s₃ =>
           if ok = true then wpAny (model prog w) A (eval elt env) (fun x s₄ =>
             wpAny (model prog w) A (call (.builtin "list.append") [acc, x]) (fun _ s₅ => ∃ m, m < n /\ J m s₅) (fun _ _ => False) s₄) (fun _ _ => False) s₃
           else ∃ m, m < n /\ J m s₃) (fun _ _ => False) s₂) (fun _ _ => False) s₁') (fun _ _ => False) s₁) (fun _ _ => False) s)
   (n : Nat) (h : J n s) : codeAny (model prog w) A (.compLoop (.ListComp elt [⟨tg, iter, ifs, 0⟩] scope pos) 0 it acc env) R s := by
 refine codeAny_loop rfl J (fun n s hI => ?_) n h
 show wpAny _ A ((compTurn (.ListComp elt [⟨tg, iter, ifs, 0⟩] scope pos) 0 it acc env).onRaise (fun x => do noteFrame x env; theTreesLotGoes x)) _ _ s
 refine wpAny_noted ?_
 rw [compTurn_list]
 refine wpAny_bind (wpAny_standAt (wpAny_bind (vV (thn (turn n s hI) fun r s₁ h₁ => ?_))))
 cases r with
 | none => exact wpAny_pure h₁
 | some v =>
   refine wpAny_bind (vV (thn h₁ fun _ s₁' h₁' => wpAny_bind (vV (thn h₁' fun _ s₂ h₂ => wpAny_bind (vV (thn h₂ fun ok s₃ h₃ => ?_))))))
   cases ok with
   | false => exact wpAny_pure ⟨rfl, h₃⟩
   | true => exact wpAny_bind (wpAny_bind (vV (thn h₃ fun x s₄ h₄ => wpAny_bind (vV (thn h₄ fun _ s₅ h₅ => wpAny_pure (wpAny_pure ⟨rfl, h₅⟩))))))
structure LcEnd (X : Cx) (pins : List (Addr × Obj)) (σ : St) (C : Addr) (H' : Hp) (s' : Shared) : Prop where
 inv : Inv X pins σ H' s'
 ns : ∃ m, s'.heap.Ns C m
 free : H' C = none
 ne : C ≠ X.env.locals
 up : X.s₀.heap.objs.size <= C
 cells : ∀ x c, X.env.cells.lookup x = some c -> c ≠ C
 pin : ∀ p ∈ X.pn ++ pins, p.1 ≠ C
theorem LcEnd.gone {C : Addr} {H' : Hp} {s' : Shared} (L : LcEnd X pins σ C H' s') {h' : Heap} (hs : Heap.SameBut C s'.heap h') : Inv X pins σ H' { s' with heap := h' } :=
 L.inv.turned (t' := s'.toks) (fun b o hb e => hs.extBut b o hb e) L.free L.ne (.inr L.up) L.cells L.pin
theorem lc_core (hc : X.calm = true) (S : LcScope xs ys scope X.env.scope) (hj : Caps X ys js) (hi : PI X tg iter wi)
   (hg : ∀ C s₀ H₀ fp, PG (yO X xs ys scope C s₀ H₀ fp) tg g) (hif : ∀ C s₀ H₀ fp, PIf (yO X xs ys scope C s₀ H₀ fp) ifs tc) (he : ∀ C s₀ H₀ fp, PE (yO X xs ys scope C s₀ H₀ fp) elt te)
   {RR : Value -> Addr -> Result -> Shared -> Prop} {Q : VK} (I : Inv X pins σ H s) (h : tLC xs js wi g tc te σ H Q)
   (fin : ∀ D C H' s', LcEnd X pins σ C H' s' -> Q (.ref D) H' -> RR (.ref D) C (.ok .next) s') :
   wpAny (model X.prog X.w) X.A (eval iter X.env) (fun x s₁ => wpAny (model X.prog X.w) X.A (pyIter x) (fun it s₂ => wpAny (model X.prog X.w) X.A (newList []) (fun acc s₃ =>
     wpAny (model X.prog X.w) X.A (newFunctionEnv scope X.env.globals (yU X.env scope.names []) [] X.env.qual none .none (some X.env)) (fun cenv s₄ =>
       codeAny (model X.prog X.w) X.A (.compStart (.ListComp elt [⟨tg, iter, ifs, 0⟩] scope pos) 0 it acc { cenv with scope := relabel scope X.env }) (RR acc cenv.locals) s₄) X.xe s₃) X.xe s₂) X.xe s₁) X.xe s := by
 refine thn (hi pins s σ H _ I h) fun v s1 h1 => thn h1 fun itv s2 h2 => ?_
 obtain ⟨it, fp, tn, J, H2, e, I2, T, st2, f2, W, ⟨m0, w0⟩, turn⟩ := h2
 subst e
 have fo : ∀ b ∈ fp, b < s2.heap.objs.size := fun b hb => let ⟨o, e, _⟩ := T.obj _ _ st2 b hb; Heap.lt_size e
 refine wpAny_newObj_type (wpAny_newFunctionEnv S.nocell (by intro y hy; simp at hy) (fun h₁ hns₁ hsb₁ => ?_) S.kind)
 dsimp only at hns₁ hsb₁ ⊢
 generalize hH2 : s2.heap.push { cls := .type "list", dict := none, data := .seq ([] : List Value).toArray } = G at hns₁ hsb₁ ⊢
 have hC : G.objs.size = s2.heap.objs.size + 1 := by rw [← hH2, Heap.size_push]
 have hDC : s2.heap.objs.size ≠ G.objs.size := by rw [hC]; exact Nat.ne_of_lt (Nat.lt_succ_self _)
 have hCle : s2.heap.objs.size <= G.objs.size := by rw [hC]; exact Nat.le_succ _
 have below : ∀ b, b < s2.heap.objs.size -> b ≠ G.objs.size /\ b ≠ s2.heap.objs.size := fun b hb => ⟨by rw [hC]; exact Nat.ne_of_lt (Nat.lt_succ_of_lt hb), Nat.ne_of_lt hb⟩
 have old : ∀ b o, s2.heap.get? b = some o -> h₁.get? b = some o := fun b o e => hsb₁.extBut b o (below b (Heap.lt_size e)).1 (Heap.get?_push_of_some _ (hH2 ▸ Heap.get?_push_of_some _ e))
 have hacc : h₁.get? s2.heap.objs.size = some (LCg.lst []) := hsb₁.extBut _ _ hDC (Heap.get?_push_of_some _ (hH2 ▸ Heap.get?_push_size _ rfl))
 have st₁ : tn 0 h₁ := T.keep _ _ _ st2 fun b _ o e => old b o e
 have I3 := uN (C := G.objs.size) (D := s2.heap.objs.size) (tk := s2.toks + ([] : List (Str × Value)).length) I2 S hj f2 fo hCle (Nat.le_refl _) hDC hns₁ hacc (by intro v hv; cases hv) old
 generalize hX : yO X xs ys scope G.objs.size s2 H2 fp = B at I3
 have pB : B.prog = X.prog := by rw [← hX]; rfl
 have wB : B.w = X.w := by rw [← hX]; rfl
 have kB : B.K = X.K := by rw [← hX]; rfl
 have aB : B.A = X.A := by rw [← hX]; rfl
 have eB : B.env = compEnvC scope (yU X.env scope.names []) G.objs.size X.env := by rw [← hX]; rfl
 have cB : B.calm = true := by rw [← hX]; exact hc
 have xB : B.xe = fun _ _ => False := by rw [← hX]; rfl
 have gB : PG B tg g := by rw [← hX]; exact hg _ _ _ _
 have iB : PIf B ifs tc := by rw [← hX]; exact hif _ _ _ _
 have elB : PE B elt te := by rw [← hX]; exact he _ _ _ _
 have sB : B.s₀ = s2 := by rw [← hX]; rfl
 have hB : B.H₀ = H2 := by rw [← hX]; rfl
 have fB : B.fs = frs X.stack := by rw [← hX]; rfl
 have exB : B.ex = fp := by rw [← hX]; rfl
 have pnB : B.pn = [] := by rw [← hX]; rfl
 have statB : ∀ {H' : Hp} {oD : Obj} {σ' : St} {s' : Shared}, Inv B [(s2.heap.objs.size, oD)] σ' H' s' -> (∀ b ∈ fp, H' b = none) -> ∀ b ∈ fp, vT B [(s2.heap.objs.size, oD)] H' b := fun {H' oD σ' s'} I' hn b hb =>
   ⟨hn b hb, (I'.ok.exf b (exB ▸ hb)).1, I'.ok.exfs b (exB ▸ hb), .inl (exB ▸ hb), (I'.ok.exf b (exB ▸ hb)).2, fun p hp => by
     rw [pnB] at hp
     have e := List.mem_singleton.mp (show p ∈ [(s2.heap.objs.size, oD)] from hp)
     subst e
     exact Nat.ne_of_gt (fo b hb)⟩
 have loop : ∀ s₃ : Shared, s₃ = { s2 with heap := h₁, toks := s2.toks + ([] : List (Str × Value)).length } ->
     codeAny (model X.prog X.w) X.A (.compLoop (.ListComp elt [⟨tg, iter, ifs, 0⟩] scope pos) 0 (.ref it) (.ref s2.heap.objs.size) (compEnvC scope (yU X.env scope.names []) G.objs.size X.env)) (RR (.ref s2.heap.objs.size) G.objs.size) s₃ := by
   rintro s₃ rfl
   refine kI (fun n s' => ∃ i ys its σ1 H', Inv B [(s2.heap.objs.size, LCg.lst its)] σ1 H' s' /\ Vals ys its /\ tn i s'.heap /\ (∀ b ∈ fp, H' b = none) /\ ys.length <= sizeLine /\ W i n ys σ1 H') ?_ m0
     ⟨0, [], [], _, H2, I3, .nil, st₁, fun b hb => (f2 b hb).1, Nat.zero_le _, w0⟩
   rintro n s' ⟨i, ys', its, σ1, H', I', rv, st', fr', hz, w'⟩
   have rl := rv.length
   rcases turn i n ys' σ1 H' w' with ⟨stop, qn⟩ | ⟨go, hz', step⟩
   · have q := T.done B pB wB kB cB i _ s' σ1 H' (fun _ _ => False) I' (statB I' fr') st' stop
     rw [aB] at q
     refine thn q fun r s4 ⟨hr, I4⟩ => ?_
     subst hr
     have pD := (I4.pin (s2.heap.objs.size, LCg.lst its) (List.mem_append_right _ List.mem_cons_self))
     have hDn : H' s2.heap.objs.size = none := pD.2.1
     have ub := I4.base
     rw [fB, exB, hB, sB] at ub
     have neD : ∀ {b : Addr} {o : HO}, H' b = some o -> b ≠ s2.heap.objs.size := fun e z => by rw [z, hDn] at e; cases e
     have upk : ∀ {b : Addr} {o : HO}, H' b = some o -> upd H' s2.heap.objs.size (.lst ys') b = some o := fun e => by rw [yA (neD e)]; exact e
     have u : Un (frs X.stack) fp H2 (upd H' s2.heap.objs.size (.lst ys')) s2.heap s4.heap :=
       ⟨ub.keep, ub.slot, fun b o e n hx => by rw [yA (below b (Heap.lt_size e)).2]; exact ub.free b o e n hx, ub.there, fun b zs e => upk (ub.tups b zs e), fun b o zs e => upk (ub.frzs b o zs e), fun b ps e => let ⟨more, q⟩ := ub.tbls b ps e; ⟨more, upk q⟩⟩
     have hok4 : HOk X.prog X.w H' s4.heap := by have := I4.hok; rw [pB, wB] at this; exact this
     have hok : HOk X.prog X.w (upd H' s2.heap.objs.size (.lst ys')) s4.heap := fun b o e => by
       by_cases hb : b = s2.heap.objs.size
       · subst hb
         rw [zK] at e
         cases e
         exact ⟨hz, its, its.length, rv, pD.1⟩
       · rw [yA hb] at e
         exact (hok4 b o e).stay (fun _ _ _ q => q) (fun _ q => upk q) fun _ _ q => upk q
     have I5 : Inv X pins σ (upd H' s2.heap.objs.size (.lst ys')) s4 := I2.call' (ch := fp) (by rw [I4.os, sB]) u hok I4.bare fun b hb => let f := f2 b hb; ⟨f.2.2.2.1, f.2.1, f.2.2.2.2.1, f.2.2.2.2.2⟩
     refine fin s2.heap.objs.size G.objs.size _ s4 ⟨I5, ?_, ?_, ?_, Nat.le_trans I2.sz hCle, fun x c e z => ?_, fun p hp z => ?_⟩ (qn _ hDn)
     · obtain ⟨m, hn, _⟩ := I4.loc
       rw [eB] at hn
       exact ⟨m, hn⟩
     · have fr := I4.free
       rw [eB] at fr
       rw [yA (Ne.symm hDC)]
       exact fr
     · exact Ne.symm (below _ I2.lt).1
     · obtain ⟨_, o, ho, _⟩ := I2.cell x c e
       exact (below c (Heap.lt_size ho)).1 z
     · exact (below p.1 (Heap.lt_size (I2.pin p hp).1)).1 z
   · have q := T.item B pB wB kB cB i _ s' σ1 H' (fun _ _ => False) I' (statB I' fr') st' go
     rw [aB] at q
     refine thn q fun r s4 ⟨u, hr, h4⟩ => ?_
     subst hr
     refine thn h4 fun _ s5 ⟨x, H5, I5, r5, y5, st5, fr5⟩ => ?_
     have I5' := I5.pinned (statB I5 fr5) (T.obj _ _ st5)
     have q5 := gB _ s5 σ1 H5 x u _ I5' r5 (step x H5 y5)
     rw [pB, wB, aB, eB, xB] at q5
     refine thn q5 fun _ s6 ⟨σ6, H6, I6, q6⟩ => ?_
     have last : ∀ {s7 : Shared} {H7 : Hp}, Inv B ([(s2.heap.objs.size, LCg.lst its)] ++ xD fp s5.heap) σ6 H7 s7 -> (te σ6 H7 fun y H8 => ∃ m', m' < n /\ W (i + 1) m' (ys' ++ [y]) σ6 H8) ->
         wpAny (model X.prog X.w) X.A (eval elt (compEnvC scope (yU X.env scope.names []) G.objs.size X.env)) (fun x s₄ =>
             wpAny (model X.prog X.w) X.A (call (.builtin "list.append") [.ref s2.heap.objs.size, x]) (fun _ s₅ => ∃ m, m < n /\
               ∃ i ys its σ1 H', Inv B [(s2.heap.objs.size, LCg.lst its)] σ1 H' s₅ /\ Vals ys its /\ tn i s₅.heap /\ (∀ b ∈ fp, H' b = none) /\ ys.length <= sizeLine /\ W i m ys σ1 H') (fun _ _ => False) s₄) (fun _ _ => False) s7 := fun {s7 H7} I7 q7 => by
       have q8 := elB _ s7 σ6 H7 _ I7 q7
       rw [pB, wB, aB, eB, xB] at q8
       refine thn q8 fun uy s8 ⟨y, H8, I8, r8, m', hm', w8⟩ => ?_
       have pD := (I8.pin (s2.heap.objs.size, LCg.lst its) (List.mem_append_right _ (List.mem_append_left _ List.mem_cons_self)))
       refine append_at (its := its.toArray) (n := its.length) pD.1 (fun h9 hs9 hd9 => ?_) (by rw [List.size_toArray, ← rl]; exact hz)
       have dropped : Inv B (xD fp s5.heap) σ6 H8 s8 := I8.pins_of fun p hp => I8.pin p (List.mem_append_right _ (List.mem_append_right _ hp))
       have apart : ∀ p ∈ B.pn ++ xD fp s5.heap, p.1 ≠ s2.heap.objs.size := fun p hp => by
         rw [pnB] at hp
         exact Nat.ne_of_lt (fo _ (uF (show p ∈ xD fp s5.heap from hp)).1)
       have I9 : Inv B (xD fp s5.heap) σ6 H8 { s8 with heap := h9 } := dropped.turned (t' := s8.toks) (fun b o hb e => hs9.extBut b o hb e) pD.2.1 pD.2.2.1 (.inr (by rw [sB]; exact Nat.le_refl _)) (fun x c e => by
         intro z
         obtain ⟨v, o, ho, hd⟩ := I8.cell x c e
         rw [z, pD.1] at ho
         cases ho
         cases hd) apart
       have I9' : Inv B [(s2.heap.objs.size, LCg.lst (its ++ [uy]))] σ6 H8 { s8 with heap := h9 } := I9.pins_of fun p hp => by
         have e := List.mem_singleton.mp hp
         subst e
         exact ⟨hd9.trans (congrArg some (LCg.lst_snoc its uy)), pD.2.1, pD.2.2.1, pD.2.2.2.1, by intro v hv; cases hv⟩
       refine ⟨m', hm', i + 1, ys' ++ [y], its ++ [uy], σ6, H8, I9', Vals.append rv (.cons r8 .nil), T.keep _ _ _ st5 fun b hb o e => ?_, fun b hb => ?_, by rw [List.length_append]; exact hz', w8⟩
       · exact (I9.pin (b, o) (List.mem_append_right _ (yZ hb e))).1
       · obtain ⟨o, e, d⟩ := T.obj _ _ st5 b hb
         exact (I9.pin (b, o) (List.mem_append_right _ (yZ hb e))).2.1
     have again : ∀ {s7 : Shared} {H7 : Hp}, Inv B ([(s2.heap.objs.size, LCg.lst its)] ++ xD fp s5.heap) σ6 H7 s7 -> (∃ m', m' < n /\ W (i + 1) m' ys' σ6 H7) -> ∃ m, m < n /\
         ∃ i ys its σ1 H', Inv B [(s2.heap.objs.size, LCg.lst its)] σ1 H' s7 /\ Vals ys its /\ tn i s7.heap /\ (∀ b ∈ fp, H' b = none) /\ ys.length <= sizeLine /\ W i m ys σ1 H' := fun {s7 H7} I7 ⟨m', hm', w7⟩ => by
       refine ⟨m', hm', i + 1, ys', its, σ6, H7, I7.unpinned, rv, T.keep _ _ _ st5 fun b hb o e => (I7.pin (b, o) (List.mem_append_right _ (List.mem_append_right _ (yZ hb e)))).1, fun b hb => ?_, hz, w7⟩
       obtain ⟨o, e, d⟩ := T.obj _ _ st5 b hb
       exact (I7.pin (b, o) (List.mem_append_right _ (List.mem_append_right _ (yZ hb e)))).2.1
     match ifs, tc, iB, q6 with
     | [], none, _, q6 =>
       refine wpAny_tests_nil ?_
       rw [if_pos rfl]
       exact last I6 q6
     | [c], some t, iB, q6 =>
       have iB : PT B c t := iB
       have q7 := iB _ s6 σ6 H6 _ I6 q6
       rw [pB, wB, aB, eB, xB] at q7
       refine wpAny_tests_one (thn q7 fun b s7 ⟨H7, I7, q7⟩ => ?_)
       cases b with
       | true => rw [if_pos rfl] at q7 ⊢; exact last I7 q7
       | false => rw [if_neg Bool.false_ne_true] at q7 ⊢; exact again I7 q7
 exact codeAny_compStart_list (loop _ rfl) (T.self _ 0 _ _ _ st₁ (loop _ rfl))
theorem pe_lc (hc : X.calm = true) (S : LcScope xs ys scope X.env.scope) (hj : Caps X ys js) (hi : PI X tg iter wi)
   (hg : ∀ C s₀ H₀ fp, PG (yO X xs ys scope C s₀ H₀ fp) tg g) (hif : ∀ C s₀ H₀ fp, PIf (yO X xs ys scope C s₀ H₀ fp) ifs tc) (he : ∀ C s₀ H₀ fp, PE (yO X xs ys scope C s₀ H₀ fp) elt te)
   (hs : ∀ x, foldedSetIterable iter X.env x = pure x := by intro _; rfl) : PE X (.ListComp elt [⟨tg, iter, ifs, 0⟩] scope pos) (tLC xs js wi g tc te) := by
 intro pins s σ H Q I h
 rw [eval_ListComp]
 refine wpAny_comprehension_free (use := none) rfl hs (qK (kJ I S)) S.kind S.names ?_
 refine lc_core (RR := fun acc C => compPost (model X.prog X.w) X.A X.xe none (EP X pins σ Q) acc C) hc S hj hi hg hif he I h fun D C H' s' L q => ?_
 obtain ⟨m, hn⟩ := L.ns
 exact ⟨m, hn, fun h'' hs'' => ⟨.ref D, H', L.gone hs'', rfl, q⟩⟩
end
def Its (x : Str) : It := ⟨fun i _ => i < x.cps.size, fun i H v H' => H' = H /\ ∃ c, x.cps[i]? = some c /\ v = .str ⟨#[c]⟩, fun i _ => x.cps.size <= i⟩
section
variable {X : Cx} {tg : Expr}
theorem turn_walk {P : Program} {w : World} {K : PySem.W.Frag} {tg : Expr} {it : Addr} {n : Nat} {Pv : Nat -> Value -> Prop} {St : Nat -> Heap -> Prop} {J : It} {T : String}
   (W : ∀ A' : Around, A'.handled = none -> Walks P w A' it [it] [it] n Pv St) (ho : ∀ i h, St i h -> ∃ o vs, h.get? it = some o /\ o.cls = .type T /\ o.data = .fields vs)
   (hT : ["enumerate", "zip", "dict_itemiterator", "dict_reverseitemiterator", "odict_iterator", "itertools.zip_longest", "itertools.pairwise"].contains T = false)
   (hgo : ∀ i H, J.go i H -> i < n) (hst : ∀ i H, J.stop i H -> n <= i) (hy : ∀ i H u, Pv i u -> ∃ x, RelV x u /\ J.yld i H x H) (hself : ∀ (A : Around) (i : Nat) (s : Shared) (Q : Value -> Shared -> Prop) (E : Value -> Shared -> Prop), St i s.heap -> Q (.ref it) s -> wpAny (model P w) A (pyIter (.ref it)) Q E s) : Turn P w K tg J [it] it (fun i h => St i h /\ i <= n) where
 mem := by simp
 obj := fun i h st b hb => by
   have e : b = it := by simpa using hb
   subst e
   obtain ⟨o, vs, e, c, d⟩ := ho i h st.1
   exact ⟨o, e, fun v z => by rw [d] at z; cases z⟩
 keep := fun i h h' st k => ⟨(W {} rfl).frame i h h' st.1 k, st.2⟩
 item := by
   intro X hP hw hK hc i pins s σ H E I hf st hg
   subst hP hw hK
   obtain ⟨f0, f1, f2, f3, f4, f5⟩ := hf it (by simp)
   refine (W X.A (I.ok.hd hc)).item i s _ _ (hgo i H hg) st.1 fun v h' tk hv st' k => ?_
   have I1 : Inv X pins σ H { s with heap := h', toks := tk } := I.turned (fun b o hb e => k b o (by simpa using hb) e) f0 f1 f3 f4 f5
   obtain ⟨o, vs, e, c, d⟩ := ho _ _ st'
   obtain ⟨x, rx, yx⟩ := hy i H v hv
   exact ⟨v, rfl, go_of (s := { s with heap := h', toks := tk }) e c d hT ⟨x, H, I1, rx, yx, ⟨st', hgo i H hg⟩, fun b hb => (hf b hb).1⟩⟩
 done := by
   intro X hP hw hK hc i pins s σ H E I hf st hg
   subst hP hw hK
   obtain ⟨f0, f1, f2, f3, f4, f5⟩ := hf it (by simp)
   have e : i = n := Nat.le_antisymm st.2 (hst i H hg)
   subst e
   exact (W X.A (I.ok.hd hc)).done s _ _ st.1 fun h' tk k => ⟨rfl, I.turned (fun b o hb e => k b o (by simpa using hb) e) f0 f1 f3 f4 f5⟩
 self := fun A i s Q E st q => hself A i s Q E st.1 q
def iStr (tl : TE) : TI := fun σ H R => tl σ H fun x H1 => ∃ z, x = .str z /\ R (Its z) H1
theorem pi_str {l : Expr} {tl : TE} (hl : PE X l tl) : PI X tg l (iStr tl) := by
 intro pins s σ H R I h
 refine thn (hl pins s σ H _ I h) fun v s1 ⟨x, H1, I1, r1, z, e, q⟩ => ?_
 subst e
 obtain ⟨t, rfl⟩ := r1
 have go : ∀ (T : String) (o : Obj) (St : Nat -> Heap -> Prop), (∀ A' : Around, A'.handled = none -> Walks X.prog X.w A' s1.heap.objs.size [s1.heap.objs.size] [s1.heap.objs.size] z.cps.size (SignAt z) St) ->
     (∀ i h, St i h -> ∃ o vs, h.get? s1.heap.objs.size = some o /\ o.cls = .type T /\ o.data = .fields vs) ->
     (["enumerate", "zip", "dict_itemiterator", "dict_reverseitemiterator", "odict_iterator", "itertools.zip_longest", "itertools.pairwise"].contains T = false) -> St 0 (s1.heap.push o) ->
     (∀ (A : Around) (i : Nat) (s : Shared) (Q : Value -> Shared -> Prop) (E : Value -> Shared -> Prop), St i s.heap -> Q (.ref s1.heap.objs.size) s -> wpAny (model X.prog X.w) A (pyIter (.ref s1.heap.objs.size)) Q E s) ->
     PIE X pins σ tg R (.ref s1.heap.objs.size) { s1 with heap := s1.heap.push o } := fun T o St W ho hT st hself => by
   have I2 : Inv X pins σ H1 { s1 with heap := s1.heap.push o } := I1.kept (t' := s1.toks) fun b u e => Heap.get?_push_of_some _ e
   refine ⟨_, [s1.heap.objs.size], _, Its z, H1, rfl, I2, turn_walk (J := Its z) W ho hT (fun _ _ h => h) (fun _ _ h => h) (fun i H u ⟨c, t', hc, hu⟩ => ⟨.str ⟨#[c]⟩, ⟨t', hu⟩, rfl, c, hc, rfl⟩) hself, ⟨st, Nat.zero_le _⟩, fun b hb => ?_, q⟩
   have e : b = s1.heap.objs.size := by simpa using hb
   subst e
   exact I1.fpOk (Nat.le_refl _) (I1.hok.fresh (Nat.le_refl _))
 cases ha : z.cps.all (· < 128)
 · exact wpAny_pyIter_wide ha (go _ _ _ (fun A' hA => Walks.strWide hA _ z t) (fun i h ⟨o, e, c, d⟩ => ⟨o, _, e, c, d⟩) (by decide) ⟨_, Heap.get?_push_size _ rfl, rfl, rfl⟩ fun A i s Q E st q => wpAny_pyIter_striter_wide st q)
 · exact wpAny_pyIter_ascii ha (go _ _ _ (fun A' hA => Walks.strAscii hA _ z t) (fun i h ⟨o, e, c, d⟩ => ⟨o, _, e, c, d⟩) (by decide) ⟨_, Heap.get?_push_size _ rfl, rfl, rfl⟩ fun A i s Q E st q => wpAny_pyIter_striter_ascii st q)
end
def rSlS : V -> Option Int -> Option Int -> Hp -> VK -> Prop := fun x lo hi H Q => ∃ z, x = .str z /\ z.length <= sizeLine /\ Q (.str (Txt.slice z lo hi)) H
section
variable {X : Cx}
theorem part_of {v : Value} {o : Option Int} (p : IsPart v o) : ∃ l : Option (Int × Tok), v = partValue l /\ o = l.map (·.1) := by
 cases p with
 | none => exact ⟨none, rfl, rfl⟩
 | int i t => exact ⟨some (i, t), rfl, rfl⟩
open PySem.Builtin PySem.Builtin.Str in
theorem sl_str : SlR X rSlS := by
 intro pins s σ H x v vl vu lo hi sl Q I rx hs pl pu h
 obtain ⟨z, rfl, hz, q⟩ := h
 obtain ⟨t, rfl⟩ := rx
 obtain ⟨l, rfl, rfl⟩ := part_of pl
 obtain ⟨u, rfl, rfl⟩ := part_of pu
 have key : (sliceMade z t l u none).post (EP X pins σ Q) s := by
   have e : Txt.slice z (l.map (·.1)) (u.map (·.1)) = if ((1 : Int) == 1 && (strSliceIndices (l.map (·.1)) (u.map (·.1)) 1 z.length).length == z.length) = true then z else ⟨((strSliceIndices (l.map (·.1)) (u.map (·.1)) 1 z.length).filterMap (z.cps[·]?)).toArray⟩ := rfl
   have h1 := Nat.le_trans (Txt.slice_le z (l.map (·.1)) (u.map (·.1))) hz
   rw [e] at h1 q
   show (if ((1 : Int) == 1 && (strSliceIndices (l.map (·.1)) (u.map (·.1)) 1 z.length).length == z.length) = true then Made.val (.str z t) else Made.str ⟨((strSliceIndices (l.map (·.1)) (u.map (·.1)) 1 z.length).filterMap (z.cps[·]?)).toArray⟩).post _ _
   exact post_val_or_str ⟨h1, fun t' k => ⟨.str (if ((1 : Int) == 1 && (strSliceIndices (l.map (·.1)) (u.map (·.1)) 1 z.length).length == z.length) = true then z else ⟨((strSliceIndices (l.map (·.1)) (u.map (·.1)) 1 z.length).filterMap (z.cps[·]?)).toArray⟩), H, I.tok k, ⟨t', rfl⟩, q⟩⟩
 exact ⟨"str", _, F.slot_str_getitem.lookup, typeIs_str _ _ _, wpAny_getItem_str_slice (l := l) (u := u) (st := none) hs rfl key⟩
theorem call_all : qL X (.builtin "all") (fun xs H Q => X.calm = true /\ ∃ (p : Addr) (bs : List Bool), xs = [.ref p] /\ SqL X.K H p (bs.map V.bl) /\ Q (.bl (bs.all id)) H) := by
 intro pins s σ H xs us Q I r h
 obtain ⟨hc, p, bs, rfl, hp, q⟩ := h
 obtain ⟨u, rfl, ru⟩ := vW r
 cases ru
 obtain ⟨its, rv, hl, hz⟩ := I.list hp
 have hlt : p < s.heap.objs.size := by obtain ⟨_, e, _⟩ := hl.isList; exact Heap.lt_size e
 have hlen := rv.length
 rw [List.length_map] at hlen
 refine call_all_walk (wpAny_pyIter_list hl.isList ?_)
 refine ⟨_, _, _, _, _, _, fun i => bs.getD i false, rfl, Walks.list (A := X.A.in1) (I.ok.hd hc) s.heap.objs.size p (Nat.ne_of_lt hlt) its.toArray, ⟨⟨_, Heap.get?_push_size _ rfl, rfl, rfl⟩, hl.isList.push _⟩, fun i v s' Q' E' hv q' => ?_, fun h' tk k => ?_⟩
 · have hv : its[i]? = some v := by simpa using hv
   have hi : i < bs.length := by
     have := (List.getElem?_eq_some_iff.mp hv).1
     omega
   obtain ⟨u', hu', ru'⟩ := rv.get (i := i) (x := .bl bs[i]) (by rw [List.getElem?_map, List.getElem?_eq_getElem hi]; rfl)
   rw [hv] at hu'
   cases hu'
   have e : v = Value.bool bs[i] := ru'
   subst e
   refine wpAny_truthy_bool ?_
   have e2 : bs.getD i false = bs[i] := by rw [List.getD_eq_getElem?_getD, List.getElem?_eq_getElem hi]; rfl
   rw [← e2]
   exact q'
 · refine ⟨.bl (bs.all id), H, ?_, ?_, q⟩
   · exact I.kept (h' := h') (t' := tk) fun b o e => k b o (by intro hm; have := List.mem_singleton.mp hm; exact absurd (this ▸ Heap.lt_size e) (Nat.lt_irrefl _)) (Heap.get?_push_of_some _ e)
   · have e : (List.range its.toArray.size).all (fun i => bs.getD i false) = bs.all id := by
       rw [List.size_toArray, ← hlen]
       rw [Bool.eq_iff_iff, List.all_eq_true, List.all_eq_true]
       constructor
       · intro a b hb
         obtain ⟨i, hi, rfl⟩ := List.getElem_of_mem hb
         have := a i (List.mem_range.mpr hi)
         rw [List.getD_eq_getElem?_getD, List.getElem?_eq_getElem hi] at this
         exact this
       · intro a i hi
         have hi := List.mem_range.mp hi
         rw [List.getD_eq_getElem?_getD, List.getElem?_eq_getElem hi]
         exact a _ (List.getElem_mem hi)
     show Value.bool _ = _
     rw [e]
theorem ints_pair : ∀ {ns : List Int} {its : List Value}, Vals (ns.map V.int) its -> ∃ xs : Array (Int × Tok), its.toArray = intItems xs /\ xs.toList.map (·.1) = ns
 | [], its, r => by
   rw [List.map_nil] at r
   cases r
   exact ⟨#[], by simp [intItems], rfl⟩
 | n :: ns, its, r => by
   rw [List.map_cons] at r
   cases r with
   | @cons a b as bs h t =>
     obtain ⟨xs, e, q⟩ := ints_pair t
     obtain ⟨tk, hb⟩ := (show ∃ tk, b = Value.int n tk from h)
     refine ⟨((n, tk) :: xs.toList).toArray, ?_, by simp [q]⟩
     have e2 : bs = (intItems xs).toList := by rw [← e]
     rw [hb, e2]
     simp [intItems]
theorem qC (xs : Array (Int × Tok)) : ∀ k, k <= xs.size -> preSum (numAt xs) k = ((xs.toList.map (·.1)).take k).sum
 | 0, _ => by simp [preSum]
 | k + 1, h => by
   have hk : k < (xs.toList.map (·.1)).length := by simp; omega
   rw [preSum, qC xs k (by omega), List.take_succ_eq_append_getElem hk, List.sum_append]
   simp [numAt, show k < xs.size by omega]
theorem call_sumI : qL X (.builtin "sum") (fun xs H Q => X.calm = true /\ ∃ (p : Addr) (ns : List Int), xs = [.ref p] /\ SqL X.K H p (ns.map V.int) /\ (∀ k, k <= ns.length -> -(2 ^ 62) <= (ns.take k).sum /\ (ns.take k).sum < 2 ^ 62) /\ (∀ n ∈ ns, -(2 ^ 62) <= n /\ n < 2 ^ 62) /\ Q (.int ns.sum) H) := by
 intro pins s σ H xs us Q I r h
 obtain ⟨hc, p, ns, rfl, hp, hb, hb2, q⟩ := h
 obtain ⟨u, rfl, ru⟩ := vW r
 cases ru
 obtain ⟨its, rv, hl, hz⟩ := I.list hp
 obtain ⟨xs, e1, e2⟩ := ints_pair rv
 have hn : xs.size = ns.length := by rw [← e2]; simp
 rw [e1] at hl
 refine sum_intList (I.ok.hd hc) hl.isList (fun j hj => ?_) fun h' tk t' k => ?_
 · have h1 := hb (j + 1) (by omega)
   have h2 : numAt xs j ∈ ns := by
     rw [← e2]
     simp only [numAt, Array.getElem?_eq_getElem hj, Option.map_some, Option.getD_some, List.mem_map]
     exact ⟨xs[j], by simp, rfl⟩
   have h3 := hb2 _ h2
   rw [qC xs (j + 1) (by omega), e2]
   unfold InLong
   omega
 · refine ⟨.int ns.sum, H, I.kept k, ⟨t', ?_⟩, q⟩
   rw [qC xs xs.size (Nat.le_refl _), e2, hn, List.take_length]
theorem yW {T : String} : qL X (.builtin "isinstance") (fun xs H Q => ∃ x t b, xs = [x, .ty T] /\ TyOf X.K H x t /\ PySem.W.kitOne X.K t (.type T) = some b /\ Q (.bl b) H) := by
 intro pins s σ H xs us Q I r h
 obtain ⟨x, t, b, rfl, ty, e, q⟩ := h
 obtain ⟨u, w', rfl, ru, rw'⟩ := vals2 r
 cases rw'
 exact isinst_ok I ru ty e fun tk => ⟨.bl b, H, I.tok tk, rfl, q⟩
end
structure Has (P : Program) (w : World) (K : PySem.W.Frag) (mg : Str -> Option Value) (base : Heap) (k : Nat) (x : Str) (ps : List Str) (sp : Sp) : Prop where
 ex : ∃ f fd, FnOk P w K mg base CX0 k f fd ps sp /\ Binds K fd ps [] /\ PySem.W.keepIn K (.ref f) = true /\ mg x = some (.ref f)
def Gc (mg : Str -> Option Value) (x : Str) (v : V) : Prop := ∃ u, mg x = some u /\ RelV v u
section
variable {X : Cx} {k : Nat} {x : Str} {ps : List Str} {sp : Sp} {p pos : Pos} {e : Expr} {es : List Expr} {t : TA} {v : V}
theorem zS (h : Has X.prog X.w X.K X.mg X.base k x ps sp) (hr : Room k X.A) (hg : Gl X x) (ha : PA X (e :: es) t) (hdb : (x == ("__debug__" : Str)) = false := by decide)
   (he : starEach (e :: es) X.env = (false, eval e X.env) :: starEach es X.env := by rfl) (hpl : (backTo pos (starEach es X.env)).any (·.1) = false := by rfl) : PE X (.Call (.Name x p) (e :: es) [] pos) (tCall sp [] E0 t) := by
 obtain ⟨f, fd, F, b, kp, m⟩ := h.ex
 exact wY F hr hg m kp b .nil pass0 ha hdb he hpl
theorem yY (h : Gc X.mg x v) (hg : Gl X x) (hd : (x == ("__debug__" : Str)) = false := by decide) : PE X (.Name x pos) (tC v) := by
 obtain ⟨u, m, r⟩ := h
 exact pe_glob hg m r hd
theorem jU {T : String} (hm : X.mg x = none) (hv : bootBuiltins x = some (.type T)) (hg : Gl X x) (hn : x ≠ "__name__" := by decide) (hd : (x == ("__debug__" : Str)) = false := by decide) : PE X (.Name x pos) (tC (.ty T)) :=
 pe_bltn hg hm hv rfl hn hd
end
theorem pif_nil {X : Cx} : PIf X [] none := trivial
def lcOk (xs ys : List Str) (scope around : Scope) : Bool :=
 (scope.kind == .function) && decide (xs ++ ys).Nodup && xs.all (fun x => scope.names.lookup x == some .local) &&
 ys.all (fun y => (scope.names.lookup y == some .free) && ((around.names.lookup y == some .cell) || (around.names.lookup y == some .free))) &&
 scope.names.all (fun y => (y.2 != .cell) && ((y.2 != .local) || (scope.names.lookup y.1 == some .local)) && ((y.2 != .free) || ys.contains y.1))
theorem lcOk.scope {xs ys : List Str} {scope around : Scope} (h : lcOk xs ys scope around = true) : LcScope xs ys scope around := by
 unfold lcOk at h
 simp only [Bool.and_eq_true, beq_iff_eq, decide_eq_true_eq, List.all_eq_true, Bool.or_eq_true, bne_iff_ne, List.contains_iff_mem] at h
 obtain ⟨⟨⟨⟨h1, h2⟩, h3⟩, h4⟩, h5⟩ := h
 exact ⟨h1, h2, h3, h4, fun y hy => (h5 y hy).1.1, fun y hy hl => (h5 y hy).1.2.resolve_left (fun z => z hl), fun y hy hf => (h5 y hy).2.resolve_left (fun z => z hf)⟩
def capOk (N ys : List Str) (js : List Nat) : Bool := (js.length == ys.length) && (ys.zip js).all fun p => N[p.2]? == some p.1
theorem capOk.caps {X : Cx} {ys : List Str} {js : List Nat} (h : capOk X.N ys js = true) : Caps X ys js := by
 unfold capOk at h
 simp only [Bool.and_eq_true, beq_iff_eq, List.all_eq_true] at h
 refine ⟨h.1, fun i y j hy hj => ?_⟩
 refine h.2 (y, j) (List.mem_of_getElem? (i := i) ?_)
 rw [List.getElem?_zip_eq_some]
 exact ⟨hy, hj⟩
section
variable {X : Cx} {xs ys : List Str} {scope : Scope} {js : List Nat} {tg iter elt : Expr} {ifs : List Expr} {pos : Pos} {wi : TI} {g : TG} {tc : Option TT} {te : TE}
theorem pe_comp (xs ys : List Str) (js : List Nat) (hi : PI X tg iter wi)
   (hg : ∀ C s₀ H₀ fp, (xs ++ ys).Nodup -> PG (yO X xs ys scope C s₀ H₀ fp) tg g) (hif : ∀ C s₀ H₀ fp, PIf (yO X xs ys scope C s₀ H₀ fp) ifs tc) (he : ∀ C s₀ H₀ fp, PE (yO X xs ys scope C s₀ H₀ fp) elt te)
   (hc : X.calm = true := by rfl) (S : lcOk xs ys scope X.env.scope = true := by rfl) (hj : capOk X.N ys js = true := by rfl)
   (hs : ∀ x, foldedSetIterable iter X.env x = pure x := by intro _; rfl) : PE X (.ListComp elt [⟨tg, iter, ifs, 0⟩] scope pos) (tLC xs js wi g tc te) :=
 pe_lc hc (lcOk.scope S) (capOk.caps hj) hi (fun C s₀ H₀ fp => hg C s₀ H₀ fp (lcOk.scope S).nd) hif he hs
end
theorem bt_len : bootBuiltins "len" = some (.builtin "len") := by decide +kernel
theorem bt_isinstance : bootBuiltins "isinstance" = some (.builtin "isinstance") := by decide +kernel
theorem bt_sum : bootBuiltins "sum" = some (.builtin "sum") := by decide +kernel
theorem bt_all : bootBuiltins "all" = some (.builtin "all") := by decide +kernel
theorem bt_tuple : bootBuiltins "tuple" = some (.type "tuple") := by decide +kernel
theorem bt_list : bootBuiltins "list" = some (.type "list") := by decide +kernel
theorem bt_int : bootBuiltins "int" = some (.type "int") := by decide +kernel
theorem bt_str : bootBuiltins "str" = some (.type "str") := by decide +kernel
theorem cx_K {CX : CXT} {P : Program} {w : World} {K : PySem.W.Frag} {mg : Str -> Option Value} {base : Heap} {N : List Str} {qual : Str} {scope : Scope} {f : Addr} {cd : Value} {A : Around} {outer : List Env} {s : Shared} {H : Hp} {E : XK} : (yQ CX P w K mg base N qual scope f cd A outer s H E).K = K := rfl
theorem cx_calm {CX : CXT} {P : Program} {w : World} {K : PySem.W.Frag} {mg : Str -> Option Value} {base : Heap} {N : List Str} {qual : Str} {scope : Scope} {f : Addr} {cd : Value} {A : Around} {outer : List Env} {s : Shared} {H : Hp} {E : XK} : (yQ CX P w K mg base N qual scope f cd A outer s H E).calm = true := rfl
theorem bk_calm {X : Cx} {xs ys : List Str} {scope : Scope} {C : Addr} {s₀ : Shared} {H₀ : Hp} {fp : List Addr} : (yO X xs ys scope C s₀ H₀ fp).calm = X.calm := rfl
theorem lenV_str {K : PySem.W.Frag} {y : Str} {H : Hp} {n : Nat} : LenV K (.str y) H n ↔ (y.length <= sizeLine /\ n = y.length) := Iff.rfl
theorem eqV_str (a b : Str) : eqV (.str a) (.str b) = decide (b = a) := by
 show (a == b) = _
 rw [Bool.eq_iff_iff, beq_iff_eq, decide_eq_true_eq, eq_comm]
theorem bk_K {X : Cx} {xs ys : List Str} {scope : Scope} {C : Addr} {s₀ : Shared} {H₀ : Hp} {fp : List Addr} : (yO X xs ys scope C s₀ H₀ fp).K = X.K := rfl
theorem ix_nat {ns : List Int} {k : Nat} (h : (k : Int) < ns.length) : atI (ns.map V.int) (k : Int) = some (.int (ns.getD k 0)) := by
 refine yM ?_
 have h' : k < ns.length := by omega
 rw [List.getElem?_map, List.getElem?_eq_getElem h', List.getD_eq_getElem?_getD, List.getElem?_eq_getElem h']
 rfl
theorem for_str {z : Str} {g : TG} {tb : TS} {D : Ends} {σ : St} {H : Hp} (Pv : Nat -> St -> Hp -> Prop) (h0 : Pv 0 σ H)
   (hs : ∀ (i c : Nat) σ H, z.cps[i]? = some c -> Pv i σ H -> g (.str ⟨#[c]⟩) σ H fun σ2 H2 => tb { D with nx := Pv (i + 1), ct := Pv (i + 1), bk := D.nx } σ2 H2) (hd : ∀ σ H, Pv z.cps.size σ H -> D.nx σ H) :
   ∃ W : Nat -> Nat -> St -> Hp -> Prop, (∃ m, W 0 m σ H) /\ ∀ i m σ H, W i m σ H ->
     ((Its z).stop i H /\ D.nx σ H) \/ ((Its z).go i H /\ ∃ N : St -> Hp -> Prop, (∀ σ' H', N σ' H' -> ∃ m', m' < m /\ W (i + 1) m' σ' H') /\ ∀ x H', (Its z).yld i H x H' -> g x σ H' fun σ2 H2 => tb { D with nx := N, ct := N, bk := D.nx } σ2 H2) := by
 refine ⟨fun i m σ H => i + m = z.cps.size /\ Pv i σ H, ⟨z.cps.size, by omega, h0⟩, fun i m σ H ⟨e, w⟩ => ?_⟩
 by_cases hi : i < z.cps.size
 · refine .inr ⟨hi, Pv (i + 1), fun σ' H' h => ⟨m - 1, by omega, by omega, h⟩, fun x H' ⟨e', c, hc, hx⟩ => ?_⟩
   subst e'; subst hx
   exact hs i c σ _ hc w
 · have : i = z.cps.size := by omega
   subst this
   exact .inl ⟨Nat.le_refl _, hd σ H w⟩
theorem lc_by {J : It} {n : Nat} {ns : List Str} {js : List Nat} {g : TG} {te : TE} {σ : St} {H : Hp} {Q : VK} (Pv : Nat -> List V -> St -> Hp -> Prop) (h0 : Pv 0 [] (lcSt ns js σ) H) (hn : n <= sizeLine) (hl : ∀ i ys σ H, Pv i ys σ H -> ys.length <= i)
   (hgo : ∀ i ys σ H, i < n -> Pv i ys σ H -> J.go i H) (hst : ∀ ys σ H, Pv n ys σ H -> J.stop n H)
   (hs : ∀ i ys σ H x H' (C : V -> St -> Hp -> Prop), i < n -> Pv i ys σ H -> J.yld i H x H' -> (∀ y σ2 H3, Pv (i + 1) (ys ++ [y]) σ2 H3 -> C y σ2 H3) -> g x σ H' fun σ2 H2 => te σ2 H2 fun y H3 => C y σ2 H3)
   (hd : ∀ ys σ H, Pv n ys σ H -> ∀ p, H p = none -> Q (.ref p) (upd H p (.lst ys))) :
   LcW J ns js g none te σ H Q := by
 refine ⟨fun i m ys σ H => i + m = n /\ Pv i ys σ H, ⟨n, by omega, h0⟩, fun i m ys σ H ⟨e, w⟩ => ?_⟩
 by_cases hi : i < n
 · refine .inr ⟨hgo i ys σ H hi w, Nat.lt_of_le_of_lt (hl _ _ _ _ w) (by omega), fun x H' hy => ?_⟩
   exact hs i ys σ H x H' (fun y σ2 H3 => ∃ m', m' < m /\ i + 1 + m' = n /\ Pv (i + 1) (ys ++ [y]) σ2 H3) hi w hy fun y σ2 H3 q => ⟨m - 1, by omega, by omega, q⟩
 · have : i = n := by omega
   subst this
   exact .inl ⟨hst ys σ H w, hd ys σ H w⟩
theorem lc_str {z : Str} {ns : List Str} {js : List Nat} {g : TG} {te : TE} {σ : St} {H : Hp} {Q : VK} (Pv : Nat -> List V -> St -> Hp -> Prop) (h0 : Pv 0 [] (lcSt ns js σ) H) (hz : z.cps.size <= sizeLine) (hl : ∀ i ys σ H, Pv i ys σ H -> ys.length <= i)
   (hs : ∀ (i c : Nat) ys σ H (C : V -> St -> Hp -> Prop), z.cps[i]? = some c -> Pv i ys σ H -> (∀ y σ2 H3, Pv (i + 1) (ys ++ [y]) σ2 H3 -> C y σ2 H3) -> g (.str ⟨#[c]⟩) σ H fun σ2 H2 => te σ2 H2 fun y H3 => C y σ2 H3)
   (hd : ∀ ys σ H, Pv z.cps.size ys σ H -> ∀ p, H p = none -> Q (.ref p) (upd H p (.lst ys))) :
   LcW (Its z) ns js g none te σ H Q :=
 lc_by (n := z.cps.size) Pv h0 hz hl (fun _ _ _ _ h _ => h) (fun _ _ _ _ => Nat.le_refl _) (fun i ys σ H x H' C hi w ⟨e, c, hc, hx⟩ hC => by subst e; subst hx; exact hs i c ys σ _ C hc w hC) hd
theorem lc_tup {K : PySem.W.Frag} {a : Addr} {xs : List V} {ns : List Str} {js : List Nat} {g : TG} {te : TE} {σ : St} {H : Hp} {Q : VK} (Pv : Nat -> List V -> St -> Hp -> Prop) (h0 : Pv 0 [] (lcSt ns js σ) H) (hz : xs.length <= sizeLine) (hl : ∀ i ys σ H, Pv i ys σ H -> ys.length <= i)
   (hK : ∀ i ys σ H, Pv i ys σ H -> SqT K H a xs)
   (hs : ∀ (i : Nat) x ys σ H (C : V -> St -> Hp -> Prop), xs[i]? = some x -> Pv i ys σ H -> (∀ y σ2 H3, Pv (i + 1) (ys ++ [y]) σ2 H3 -> C y σ2 H3) -> g x σ H fun σ2 H2 => te σ2 H2 fun y H3 => C y σ2 H3)
   (hd : ∀ ys σ H, Pv xs.length ys σ H -> ∀ p, H p = none -> Q (.ref p) (upd H p (.lst ys))) :
   LcW (Itt K a) ns js g none te σ H Q :=
 lc_by (n := xs.length) Pv h0 hz hl (fun i ys σ H hi w => ⟨xs, xs[i], hK i ys σ H w, List.getElem?_eq_getElem hi⟩) (fun ys σ H w => ⟨xs, hK _ ys σ H w, Nat.le_refl _⟩)
   (fun i ys σ H x H' C hi w ⟨e, hx⟩ hC => by subst e; exact hs i x ys σ _ C (hx xs (hK i ys σ _ w)) w hC) hd
theorem lc_list {K : PySem.W.Frag} {a : Addr} {xs : List V} {ns : List Str} {js : List Nat} {g : TG} {te : TE} {σ : St} {H : Hp} {Q : VK} (Pv : Nat -> List V -> St -> Hp -> Prop) (h0 : Pv 0 [] (lcSt ns js σ) H) (hz : xs.length <= sizeLine) (hl : ∀ i ys σ H, Pv i ys σ H -> ys.length <= i)
   (hK : ∀ i ys σ H, Pv i ys σ H -> SqL K H a xs)
   (hs : ∀ (i : Nat) x ys σ H (C : V -> St -> Hp -> Prop), xs[i]? = some x -> Pv i ys σ H -> (∀ y σ2 H3, Pv (i + 1) (ys ++ [y]) σ2 H3 -> C y σ2 H3) -> g x σ H fun σ2 H2 => te σ2 H2 fun y H3 => C y σ2 H3)
   (hd : ∀ ys σ H, Pv xs.length ys σ H -> ∀ p, H p = none -> Q (.ref p) (upd H p (.lst ys))) :
   LcW (Itl K a) ns js g none te σ H Q :=
 lc_by (n := xs.length) Pv h0 hz hl (fun i ys σ H hi w => ⟨xs, xs[i], hK i ys σ H w, List.getElem?_eq_getElem hi⟩) (fun ys σ H w => ⟨xs, hK _ ys σ H w, Nat.le_refl _⟩)
   (fun i ys σ H x H' C hi w ⟨e, hx⟩ hC => by subst e; exact hs i x ys σ _ C (hx xs (hK i ys σ _ w)) w hC) hd
def ForW (J : It) (g : TG) (tb : TS) (D : Ends) (σ : St) (H : Hp) : Prop := ∃ W : Nat -> Nat -> St -> Hp -> Prop, (∃ m, W 0 m σ H) /\ ∀ i m σ H, W i m σ H ->
 (J.stop i H /\ D.nx σ H) \/ (J.go i H /\ ∃ N : St -> Hp -> Prop, (∀ σ' H', N σ' H' -> ∃ m', m' < m /\ W (i + 1) m' σ' H') /\ ∀ x H', J.yld i H x H' -> g x σ H' fun σ2 H2 => tb { D with nx := N, ct := N, bk := D.nx } σ2 H2)
theorem tFor_eq {wi : TI} {g : TG} {tb : TS} {D : Ends} {σ : St} {H : Hp} : tFor wi g tb D σ H = wi σ H fun J H1 => ForW J g tb D σ H1 := rfl
theorem tLC_eq {n : List Str} {js : List Nat} {wi : TI} {g : TG} {tc : Option TT} {te : TE} {σ : St} {H : Hp} {Q : VK} : tLC n js wi g tc te σ H Q = wi σ H fun J H1 => LcW J n js g tc te σ H1 Q := rfl
theorem fw_list {K : PySem.W.Frag} {a : Addr} {xs : List V} {g : TG} {tb : TS} {D : Ends} {σ : St} {H : Hp} (Pv : Nat -> St -> Hp -> Prop) (h0 : Pv 0 σ H) (hl : ∀ i σ H, i <= xs.length -> Pv i σ H -> SqL K H a xs)
   (hs : ∀ i x σ H, xs[i]? = some x -> Pv i σ H -> g x σ H fun σ2 H2 => tb { D with nx := Pv (i + 1), ct := Pv (i + 1), bk := D.nx } σ2 H2) (hd : ∀ σ H, Pv xs.length σ H -> D.nx σ H) : ForW (Itl K a) g tb D σ H := for_list Pv h0 hl hs hd
theorem fw_tup {K : PySem.W.Frag} {a : Addr} {xs : List V} {g : TG} {tb : TS} {D : Ends} {σ : St} {H : Hp} (Pv : Nat -> St -> Hp -> Prop) (h0 : Pv 0 σ H) (hl : ∀ i σ H, i <= xs.length -> Pv i σ H -> SqT K H a xs)
   (hs : ∀ i x σ H, xs[i]? = some x -> Pv i σ H -> g x σ H fun σ2 H2 => tb { D with nx := Pv (i + 1), ct := Pv (i + 1), bk := D.nx } σ2 H2) (hd : ∀ σ H, Pv xs.length σ H -> D.nx σ H) : ForW (Itt K a) g tb D σ H := for_tup Pv h0 hl hs hd
theorem xX {lo : Int} {n : Nat} {g : TG} {tb : TS} {D : Ends} {σ : St} {H : Hp} (Pv : Nat -> St -> Hp -> Prop) (h0 : Pv 0 σ H)
   (hs : ∀ i σ H, i < n -> Pv i σ H -> g (.int (lo + i)) σ H fun σ2 H2 => tb { D with nx := Pv (i + 1), ct := Pv (i + 1), bk := D.nx } σ2 H2) (hd : ∀ σ H, Pv n σ H -> D.nx σ H) : ForW (Itr lo n) g tb D σ H := for_range Pv h0 hs hd
theorem fw_str {z : Str} {g : TG} {tb : TS} {D : Ends} {σ : St} {H : Hp} (Pv : Nat -> St -> Hp -> Prop) (h0 : Pv 0 σ H)
   (hs : ∀ (i c : Nat) σ H, z.cps[i]? = some c -> Pv i σ H -> g (.str ⟨#[c]⟩) σ H fun σ2 H2 => tb { D with nx := Pv (i + 1), ct := Pv (i + 1), bk := D.nx } σ2 H2) (hd : ∀ σ H, Pv z.cps.size σ H -> D.nx σ H) : ForW (Its z) g tb D σ H := for_str Pv h0 hs hd
theorem zG {t u : TS} {D : Ends} {σ : St} {H : Hp} (h : ∀ N : St -> Hp -> Prop, (∀ σ H, u D σ H -> N σ H) -> t { D with nx := N } σ H) : tSeq t u D σ H := h (u D) fun _ _ z => z
theorem yF {t u : TS} {D : Ends} {σ : St} {H : Hp} (J : St -> Hp -> Prop) (h1 : ∀ N : St -> Hp -> Prop, (∀ σ H, J σ H -> N σ H) -> t { D with nx := N } σ H) (h2 : ∀ σ H, J σ H -> u D σ H) : tSeq t u D σ H := h1 (u D) h2
structure Bi (mg : Str -> Option Value) : Prop where
 len : mg "len" = none
 range : mg "range" = none
 isinstance : mg "isinstance" = none
 max : mg "max" = none
 sum : mg "sum" = none
 all : mg "all" = none
 tuple : mg "tuple" = none
 list : mg "list" = none
 sorted : mg "sorted" = none
 set : mg "set" = none
 int : mg "int" = none
 bool : mg "bool" = none
 str : mg "str" = none
 dict : mg "dict" = none
theorem yT {P : Program} {w : World} {K : PySem.W.Frag} {mg : Str -> Option Value} {base : Heap} {k : Nat} {x : Str} {ps : List Str} {sp : Sp} {st : Stmt} {f : Addr} {fd : FuncData} (F : Fun K x x st f fd) (ok : FnOk P w K mg base CX0 k f fd ps sp) (b : Binds K fd ps [])
   (m : mg x = some (.ref f)) : Has P w K mg base k x ps sp := ⟨f, fd, ok, b, F.kp, m⟩
inductive Dt where
 | non | bl (b : Bool) | int (i : Int) | str (x : Str) | tup (ds : List Dt) | lst (ds : List Dt)
mutual
def DAt (H : Hp) : Dt -> V -> Prop
 | .non, v => v = .non
 | .bl b, v => v = .bl b
 | .int i, v => v = .int i
 | .str x, v => v = .str x
 | .tup ds, v => ∃ a vs, v = .ref a /\ H a = some (.tup vs) /\ DAts H ds vs
 | .lst ds, v => ∃ a vs, v = .ref a /\ H a = some (.lst vs) /\ DAts H ds vs
def DAts (H : Hp) : List Dt -> List V -> Prop
 | [], vs => vs = []
 | d :: ds, vs => ∃ v r, vs = v :: r /\ DAt H d v /\ DAts H ds r
end
mutual
theorem DAt.same {H H' : Hp} (e : Same H H') : ∀ {d : Dt} {v : V}, DAt H d v -> DAt H' d v
 | .non, _, h => h
 | .bl _, _, h => h
 | .int _, _, h => h
 | .str _, _, h => h
 | .tup ds, v, h => by
   obtain ⟨a, vs, e1, e2, e3⟩ := h
   exact ⟨a, vs, e1, e _ _ e2, DAts.same e e3⟩
 | .lst ds, v, h => by
   obtain ⟨a, vs, e1, e2, e3⟩ := h
   exact ⟨a, vs, e1, e _ _ e2, DAts.same e e3⟩
theorem DAts.same {H H' : Hp} (e : Same H H') : ∀ {ds : List Dt} {vs : List V}, DAts H ds vs -> DAts H' ds vs
 | [], _, h => h
 | d :: ds, vs, h => by
   obtain ⟨v, r, e1, e2, e3⟩ := h
   exact ⟨v, r, e1, DAt.same e e2, DAts.same e e3⟩
end
theorem DAts.length {H : Hp} : ∀ {ds : List Dt} {vs : List V}, DAts H ds vs -> vs.length = ds.length
 | [], vs, h => by
   have h : vs = [] := h
   rw [h]
   rfl
 | d :: ds, vs, h => by
   obtain ⟨v, r, e1, e2, e3⟩ := h
   rw [e1, List.length_cons, List.length_cons, DAts.length e3]
theorem DAts.get {H : Hp} : ∀ {ds : List Dt} {vs : List V} {i : Nat} {d : Dt}, DAts H ds vs -> ds[i]? = some d -> ∃ v, vs[i]? = some v /\ DAt H d v
 | [], vs, i, d, _, e => by simp at e
 | d :: ds, vs, 0, d', h, e => by
   obtain ⟨v, r, e1, e2, e3⟩ := h
   simp at e
   subst e; subst e1
   exact ⟨v, rfl, e2⟩
 | d :: ds, vs, i + 1, d', h, e => by
   obtain ⟨v, r, e1, e2, e3⟩ := h
   subst e1
   simp at e
   obtain ⟨u, h1, h2⟩ := DAts.get e3 e
   exact ⟨u, by simpa using h1, h2⟩
theorem DAts.append {H : Hp} : ∀ {ds es : List Dt} {vs us : List V}, DAts H ds vs -> DAts H es us -> DAts H (ds ++ es) (vs ++ us)
 | [], es, vs, us, h, h' => by
   have h : vs = [] := h
   subst h
   exact h'
 | d :: ds, es, vs, us, h, h' => by
   obtain ⟨v, r, e1, e2, e3⟩ := h
   subst e1
   exact ⟨v, r ++ us, rfl, e2, DAts.append e3 h'⟩
theorem DAts.one {H : Hp} {d : Dt} {v : V} (h : DAt H d v) : DAts H [d] [v] := ⟨v, [], rfl, h, rfl⟩
inductive Tm where
 | name (x : Str)
 | node (w : Str) (ts : List Tm)
mutual
def toD : Tm -> Dt
 | .name x => .tup [.str "name", .str x]
 | .node w ts => .tup (.str w :: toDs ts)
def toDs : List Tm -> List Dt
 | [] => []
 | t :: ts => toD t :: toDs ts
end
theorem toDs_map : ∀ ts : List Tm, toDs ts = ts.map toD
 | [] => rfl
 | t :: ts => by rw [toDs, toDs_map ts, List.map_cons]
theorem toD_node (w : Str) (ts : List Tm) : toD (.node w ts) = .tup (.str w :: ts.map toD) := by rw [toD, toDs_map]
abbrev TAt (H : Hp) (t : Tm) (v : V) : Prop := DAt H (toD t) v
abbrev TAts (H : Hp) (ts : List Tm) (vs : List V) : Prop := DAts H (ts.map toD) vs
theorem TAt.name {H : Hp} {x : Str} {v : V} (h : TAt H (.name x) v) : ∃ a, v = .ref a /\ H a = some (.tup [.str "name", .str x]) := by
 obtain ⟨a, vs, e1, e2, u, r, e3, e4, e5⟩ := h
 obtain ⟨u2, r2, e6, e7, e8⟩ := e5
 have e4 : u = .str "name" := e4
 have e7 : u2 = .str x := e7
 have e8 : r2 = [] := e8
 subst e3; subst e4; subst e6; subst e7; subst e8
 exact ⟨a, e1, e2⟩
theorem TAt.mkName {H : Hp} {x : Str} {a : Addr} (h : H a = some (.tup [.str "name", .str x])) : TAt H (.name x) (.ref a) :=
 ⟨a, _, rfl, h, _, _, rfl, rfl, _, _, rfl, rfl, rfl⟩
theorem TAt.node {H : Hp} {w : Str} {ts : List Tm} {v : V} (h : TAt H (.node w ts) v) : ∃ a vs, v = .ref a /\ H a = some (.tup (.str w :: vs)) /\ TAts H ts vs := by
 unfold TAt at h
 rw [toD_node] at h
 obtain ⟨a, vs, e1, e2, u, r, e3, e4, e5⟩ := h
 have e4 : u = .str w := e4
 subst e3; subst e4
 exact ⟨a, r, e1, e2, e5⟩
theorem TAt.mkNode {H : Hp} {w : Str} {ts : List Tm} {a : Addr} {vs : List V} (h : H a = some (.tup (.str w :: vs))) (hs : TAts H ts vs) : TAt H (.node w ts) (.ref a) := by
 unfold TAt
 rw [toD_node]
 exact ⟨a, _, rfl, h, _, _, rfl, rfl, hs⟩
def Wrd (w : Str) : Prop := w = "none" \/ w = "all" \/ w = "not" \/ w = "both" \/ w = "either"
theorem Wrd.ne {w : Str} (h : Wrd w) : w ≠ "name" := by
 rcases h with rfl | rfl | rfl | rfl | rfl <;> decide +kernel
def Sh (w : Str) (n : Nat) : Prop := (w = "none" /\ n = 0) \/ (w = "all" /\ n = 0) \/ (w = "not" /\ n = 1) \/ (w = "both" /\ 2 <= n) \/ (w = "either" /\ 2 <= n)
theorem Sh.wrd {w : Str} {n : Nat} (h : Sh w n) : Wrd w := by
 rcases h with h | h | h | h | h
 · exact .inl h.1
 · exact .inr (.inl h.1)
 · exact .inr (.inr (.inl h.1))
 · exact .inr (.inr (.inr (.inl h.1)))
 · exact .inr (.inr (.inr (.inr h.1)))
structure Nm (x : Str) : Prop where
 pos : 1 <= x.length
 most : x.length <= 8
 low : ∀ c ∈ x.cps.toList, 97 <= c /\ c <= 122
 nn : x ≠ "none"
 na : x ≠ "all"
def Fit : Nat -> Tm -> Prop
 | _, .name x => Nm x
 | 0, .node w ts => Sh w ts.length /\ ts = []
 | n + 1, .node w ts => Sh w ts.length /\ ∀ t ∈ ts, Fit n t
theorem Fit.up : ∀ {n : Nat} {t : Tm}, Fit n t -> Fit (n + 1) t
 | n, .name _, h => by unfold Fit at h ⊢; exact h
 | 0, .node w ts, h => by
   unfold Fit at h
   obtain ⟨h1, h2⟩ := h
   subst h2
   exact ⟨h1, fun _ z => nomatch z⟩
 | n + 1, .node w ts, h => by
   unfold Fit at h ⊢
   exact ⟨h.1, fun t ht => Fit.up (h.2 t ht)⟩
theorem Fit.mono {n m : Nat} {t : Tm} (h : Fit n t) (hm : n <= m) : Fit m t := by
 obtain ⟨k, rfl⟩ := Nat.le.dest hm
 induction k with
 | zero => exact h
 | succ k ih => exact Fit.up (ih (by omega))
theorem Fit.sh {n : Nat} {w : Str} {ts : List Tm} (h : Fit n (.node w ts)) : Sh w ts.length := by
 cases n with
 | zero => exact h.1
 | succ n => exact h.1
theorem Fit.wrd {n : Nat} {w : Str} {ts : List Tm} (h : Fit n (.node w ts)) : Wrd w := h.sh.wrd
theorem Fit.part {n : Nat} {w : Str} {ts : List Tm} {t : Tm} (h : Fit (n + 1) (.node w ts)) (ht : t ∈ ts) : Fit n t := h.2 t ht
mutual
def wt : Tm -> Nat
 | .name _ => 1
 | .node _ ts => 1 + wts ts
def wts : List Tm -> Nat
 | [] => 0
 | t :: ts => wt t + wts ts
end
theorem wt_pos : ∀ t : Tm, 1 <= wt t
 | .name _ => by rw [wt]; omega
 | .node _ _ => by rw [wt]; omega
theorem wts_len : ∀ ts : List Tm, ts.length <= wts ts
 | [] => by simp
 | t :: ts => by
   have := wts_len ts
   have := wt_pos t
   rw [wts, List.length_cons]
   omega
theorem wts_mem : ∀ {ts : List Tm} {t : Tm}, t ∈ ts -> wt t <= wts ts
 | u :: ts, t, h => by
   rw [wts]
   rcases List.mem_cons.mp h with h | h
   · subst h; omega
   · have := wts_mem h; omega
theorem wts_append : ∀ ts us : List Tm, wts (ts ++ us) = wts ts + wts us
 | [], us => by simp [wts]
 | t :: ts, us => by rw [List.cons_append, wts, wts, wts_append ts us]; omega
theorem zP {H : Hp} {p : Addr} (h : H p = none) (o : HO) : Same H (upd H p o) := fun b u q => by rw [yA (yP q h)]; exact q
theorem str_ext {x y : Str} (h : x.cps = y.cps) : x = y := by
 cases x; cases y; cases h; rfl
theorem zU (p q : Str) : (p ++ q).length = p.length + q.length := by
 show (p.cps ++ q.cps).size = p.cps.size + q.cps.size
 rw [Array.size_append]
theorem yE {n : Nat} (h : n <= 1000) : n <= sizeLine := Nat.le_of_lt (small1000 h)
theorem TAts.one {H : Hp} {t : Tm} {v : V} (h : TAt H t v) : TAts H [t] [v] := DAts.one h
theorem TAts.append {H : Hp} {ts us : List Tm} {vs ws : List V} (h : TAts H ts vs) (h' : TAts H us ws) : TAts H (ts ++ us) (vs ++ ws) := by
 unfold TAts
 rw [List.map_append]
 exact DAts.append h h'
theorem TAts.length {H : Hp} {ts : List Tm} {vs : List V} (h : TAts H ts vs) : vs.length = ts.length := by
 have := DAts.length h
 rw [List.length_map] at this
 exact this
theorem TAts.get {H : Hp} {ts : List Tm} {vs : List V} {i : Nat} {t : Tm} (h : TAts H ts vs) (ht : ts[i]? = some t) : ∃ v, vs[i]? = some v /\ TAt H t v :=
 DAts.get (d := toD t) h (by rw [List.getElem?_map, ht]; rfl)
theorem TAts.getV {H : Hp} {ts : List Tm} {vs : List V} {i : Nat} {v : V} (h : TAts H ts vs) (hv : vs[i]? = some v) : ∃ t, ts[i]? = some t /\ TAt H t v := by
 have hi : i < ts.length := by rw [← h.length]; exact (List.getElem?_eq_some_iff.mp hv).1
 obtain ⟨u, h1, h2⟩ := h.get (List.getElem?_eq_getElem hi)
 rw [hv] at h1
 cases h1
 exact ⟨_, List.getElem?_eq_getElem hi, h2⟩
def TupSame (H H' : Hp) : Prop := ∀ b xs, H b = some (.tup xs) -> H' b = some (.tup xs)
theorem TupSame.refl (H : Hp) : TupSame H H := fun _ _ h => h
theorem TupSame.trans {H H1 H2 : Hp} (a : TupSame H H1) (b : TupSame H1 H2) : TupSame H H2 := fun c o h => b c o (a c o h)
theorem Same.tups {H H' : Hp} (e : Same H H') : TupSame H H' := fun b xs h => e b _ h
theorem TupSame.upd_lst {H H' : Hp} {a : Addr} {o : HO} {xs : List V} (e : TupSame H H') (h : H' a = some (.lst xs)) : TupSame H (upd H' a o) := fun b ys hb => by
 rw [yA (ne_of (e _ _ hb) h (by intro z; cases z))]
 exact e _ _ hb
theorem Same.upd {H H1 : Hp} {a : Addr} {o : HO} (e : Same H H1) (h : H a = none) : Same H (upd H1 a o) := fun b u hb => by
 rw [yA (yP hb h)]
 exact e _ _ hb
mutual
theorem TAt.tups {H H' : Hp} (e : TupSame H H') : ∀ {t : Tm} {v : V}, TAt H t v -> TAt H' t v
 | .name x, v, h => by
   obtain ⟨a, e1, h2⟩ := TAt.name h
   subst e1
   exact TAt.mkName (e _ _ h2)
 | .node w ts, v, h => by
   obtain ⟨a, vs, e1, h2, hs⟩ := TAt.node h
   subst e1
   exact TAt.mkNode (e _ _ h2) (TAts.tups e hs)
theorem TAts.tups {H H' : Hp} (e : TupSame H H') : ∀ {ts : List Tm} {vs : List V}, TAts H ts vs -> TAts H' ts vs
 | [], vs, h => h
 | t :: ts, vs, h => by
   obtain ⟨v, r, e1, e2, e3⟩ := h
   exact ⟨v, r, e1, TAt.tups e e2, TAts.tups e e3⟩
end
structure KD (w : World) (K : PySem.W.Frag) (a : Addr) (kvs : List (Key × V)) : Prop where
 dict : ∀ (P : Program) (h : Heap), K.In h -> ∃ vs, KV kvs vs /\ h.DictOf (xF P w) a vs
def tKGet (w : World) (K : PySem.W.Frag) (td ty : TE) : TE := fun σ H Q => td σ H fun x H1 => ty σ H1 fun y H2 => ∃ a kvs k v, x = .ref a /\ y = kV k /\ KD w K a kvs /\ uO kvs k = some v /\ Q v H2
theorem pe_kdget {X : Cx} {o i : Expr} {pos : Pos} {td ty : TE} (ho : PE X o td) (hi : PE X i ty) (hs : NoSl i) : PE X (.Subscript o i pos) (tKGet X.w X.K td ty) := by
 intro pins s σ H Q I h
 refine subD_of PySem.F.slot_dict_getitem.lookup hs (thn (ho pins s σ H _ I h) fun u s1 ⟨x, H1, I1, rx, q1⟩ => thn (hi pins s1 σ H1 _ I1 q1) fun iv s2 ⟨y, H2, I2, ry, a, kvs, k, v, ex, ey, kd, l, q2⟩ => ?_)
 subst ex; subst ey
 obtain rfl : u = Value.ref a := rx
 obtain ⟨vs, rel, dd⟩ := kd.dict X.prog _ I2.kIn
 obtain ⟨w', hw, rw'⟩ := RelO.some_of (v := v) (o := valueAt vs k) (by rw [← l]; exact rel.val k)
 exact ⟨dd.typeIs, wpAny_getItem_of (kV_is ry) dd.mapOf hw ⟨v, H2, I2.tok _, rw', q2⟩⟩
def entOk (w : World) : List DictEntry -> List (Str × Str) -> Prop
 | [], r => r = []
 | e :: es, r => ∃ x y t u r', r = (x, y) :: r' /\ e.hash = hashStr w x /\ e.key = .str x t /\ e.val = .str y u /\ entOk w es r'
theorem entOk.keys {w : World} {P : Program} : ∀ {es : List DictEntry} {r : List (Str × Str)}, entOk w es r -> ∀ e ∈ es, ∃ k, (xF P w).is k e.key = true /\ e.hash = (xF P w).hash k
 | [], _, _, e, he => nomatch he
 | e :: es, r, h, e', he => by
   obtain ⟨x, y, t, u, r', _, h1, h2, _, h4⟩ := h
   rcases List.mem_cons.mp he with rfl | he
   · exact ⟨.inr x, by rw [h2]; exact qD P w x t, h1⟩
   · exact entOk.keys h4 e' he
theorem entOk.pairs {w : World} {P : Program} : ∀ {es : List DictEntry} {r : List (Str × Str)}, entOk w es r -> ∃ vs : List (Key × Value), KV (r.map fun p => ((.inr p.1 : Key), V.str p.2)) vs /\ Pairs (xF P w) es vs /\ vs.map (·.1) = r.map fun p => (.inr p.1 : Key)
 | [], r, h => by
   have h : r = [] := h
   subst h
   exact ⟨[], .nil, .nil, rfl⟩
 | e :: es, r, h => by
   obtain ⟨x, y, t, u, r', rfl, h1, h2, h3, h4⟩ := h
   obtain ⟨vs, a, b, c⟩ := entOk.pairs (P := P) h4
   refine ⟨(.inr x, .str y u) :: vs, .cons ⟨rfl, u, rfl⟩ a, .cons (by rw [h2]; exact qD P w x t) h3 b, ?_⟩
   rw [List.map_cons, List.map_cons, c]
theorem KD.of {w : World} {K : PySem.W.Frag} {a : Addr} {es : Array DictEntry} {ep : Nat} {r : List (Str × Str)} (o : K.lookup a = some ⟨.type "dict", none, .dict es ep, #[]⟩) (e : entOk w es.toList r) (n : (r.map fun p => (.inr p.1 : Key)).Nodup) :
   KD w K a (r.map fun p => ((.inr p.1 : Key), V.str p.2)) := ⟨fun P h X => by
 obtain ⟨vs, h1, h2, h3⟩ := entOk.pairs (P := P) e
 exact ⟨vs, h1, _, es, ep, X _ _ o, ⟨rfl, rfl, rfl⟩, rfl, fun x hx => entOk.keys e x (by simpa using hx), h2, by rw [h3]; exact n⟩⟩
theorem cx_w {CX : CXT} {P : Program} {w : World} {K : PySem.W.Frag} {mg : Str -> Option Value} {base : Heap} {N : List Str} {qual : Str} {scope : Scope} {f : Addr} {cd : Value} {A : Around} {outer : List Env} {s : Shared} {H : Hp} {E : XK} : (yQ CX P w K mg base N qual scope f cd A outer s H E).w = w := rfl
theorem bk_w {X : Cx} {xs ys : List Str} {scope : Scope} {C : Addr} {s₀ : Shared} {H₀ : Hp} {fp : List Addr} : (yO X xs ys scope C s₀ H₀ fp).w = X.w := rfl
theorem xA {K : PySem.W.Frag} {T : String} : PySem.W.kitOne K (.type T) (.type T) = some true := by
 unfold PySem.W.kitOne
 rw [if_pos (by simp)]
def kitF (S T : String) : Bool := !(Value.type S == Value.type T) && PySem.W.kitMeta T && ((PySem.fastBuiltinMro S).map (·.contains (.type T)) == some false)
theorem kit_f {K : PySem.W.Frag} {S T : String} (h : kitF S T = true) : PySem.W.kitOne K (.type S) (.type T) = some false := by
 unfold kitF at h
 simp only [Bool.and_eq_true, Bool.not_eq_true', beq_iff_eq] at h
 unfold PySem.W.kitOne
 rw [if_neg (by rw [h.1.1]; decide)]
 show (if PySem.W.kitMeta T = true then PySem.W.subIn K (.type S) (.type T) else none) = _
 rw [if_pos h.1.2]
 exact h.2
theorem wW {P : Program} {w : World} {K : PySem.W.Frag} {mg : Str -> Option Value} {base : Heap} {x : Str} {ps : List Str} {st : Stmt} {f : Addr} {fd : FuncData} {sp : Nat -> Sp} (F : Fun K x x st f fd) (b : Binds K fd ps []) (m : mg x = some (.ref f))
   (h0 : ∀ vs H Q E, ¬ sp 0 vs H Q E) (step : ∀ n, Has P w K mg base n x ps (sp n) -> FnOk P w K mg base CX0 (n + 1) f fd ps (sp (n + 1))) : ∀ n, FnOk P w K mg base CX0 n f fd ps (sp n)
 | 0 => ⟨fun vs H Q E h => (h0 vs H Q E h).elim, fun A outer s H args us vs Q E _ _ _ _ h => (h0 vs H Q E h).elim⟩
 | n + 1 => step n (yT F (wW F b m h0 step n) b m)
theorem cut_tail (x : V) (xs : List V) : kH (x :: xs) (some 1) none = xs := by
 unfold kH
 have e : HT.sIx (x :: xs).length 0 (some ((1 : Nat) : Int)) = 1 := by rw [HT.sIx_nat, List.length_cons]; omega
 have e : HT.sIx (x :: xs).length 0 (some 1) = 1 := e
 rw [e, HT.sIx_none, List.drop_one, List.tail_cons, List.take_of_length_le (by rw [List.length_cons]; omega)]
theorem uY (x : V) (xs : List V) : ¬ (HT.sIx (x :: xs).length 0 (some 1) = 0 /\ HT.sIx (x :: xs).length (x :: xs).length none = (x :: xs).length) := by
 have e : HT.sIx (x :: xs).length 0 (some ((1 : Nat) : Int)) = 1 := by rw [HT.sIx_nat, List.length_cons]; omega
 have e : HT.sIx (x :: xs).length 0 (some 1) = 1 := e
 rw [e]
 omega
theorem Same.tup {K : PySem.W.Frag} {H H' : Hp} {a : Addr} {xs : List V} (e : Same H H') (h : SqT K H a xs) : SqT K H' a xs := by
 rcases h with (h | ⟨o, h⟩) | h
 · exact .inl (.inl (e _ _ h))
 · exact .inl (.inr ⟨o, e _ _ h⟩)
 · exact .inr h
theorem at0 {α : Type} {x : α} {xs : List α} : atI (x :: xs) 0 = some x := yM (j := 0) (xs := x :: xs) rfl
theorem at1 {α : Type} {x y : α} {xs : List α} : atI (x :: y :: xs) 1 = some y := yM (j := 1) (xs := x :: y :: xs) rfl
def dSay (p : Tm × Tm) : Dt := .tup [toD p.1, toD p.2]
def dRule (r : List (Tm × Tm) × (Tm × Tm)) : Dt := .tup [.lst (r.1.map dSay), dSay r.2]
abbrev SAt (H : Hp) (p : Tm × Tm) (v : V) : Prop := DAt H (dSay p) v
abbrev SAts (H : Hp) (ps : List (Tm × Tm)) (vs : List V) : Prop := DAts H (ps.map dSay) vs
abbrev RAt (H : Hp) (r : List (Tm × Tm) × (Tm × Tm)) (v : V) : Prop := DAt H (dRule r) v
theorem SAt.out {H : Hp} {p : Tm × Tm} {v : V} (h : SAt H p v) : ∃ a v1 v2, v = .ref a /\ H a = some (.tup [v1, v2]) /\ TAt H p.1 v1 /\ TAt H p.2 v2 := by
 obtain ⟨a, vs, e1, e2, u, r, e3, h1, u2, r2, e4, h2, e5⟩ := h
 have e5 : r2 = [] := e5
 subst e5; subst e4; subst e3
 exact ⟨a, u, u2, e1, e2, h1, h2⟩
theorem SAt.mk {H : Hp} {p : Tm × Tm} {a : Addr} {v1 v2 : V} (h : H a = some (.tup [v1, v2])) (h1 : TAt H p.1 v1) (h2 : TAt H p.2 v2) : SAt H p (.ref a) :=
 ⟨a, _, rfl, h, v1, _, rfl, h1, v2, _, rfl, h2, rfl⟩
theorem RAt.out {H : Hp} {r : List (Tm × Tm) × (Tm × Tm)} {v : V} (h : RAt H r v) : ∃ a l s vs, v = .ref a /\ H a = some (.tup [.ref l, s]) /\ H l = some (.lst vs) /\ SAts H r.1 vs /\ SAt H r.2 s := by
 obtain ⟨a, vs, e1, e2, u, q, e3, ⟨l, ws, e6, e7, h1⟩, u2, r2, e4, h2, e5⟩ := h
 have e5 : r2 = [] := e5
 subst e5; subst e4; subst e3; subst e6
 exact ⟨a, l, u2, ws, e1, e2, e7, h1, h2⟩
theorem RAt.mk {H : Hp} {r : List (Tm × Tm) × (Tm × Tm)} {a l : Addr} {s : V} {vs : List V} (h : H a = some (.tup [.ref l, s])) (hl : H l = some (.lst vs)) (h1 : SAts H r.1 vs) (h2 : SAt H r.2 s) : RAt H r (.ref a) :=
 ⟨a, _, rfl, h, _, _, rfl, ⟨l, vs, rfl, hl, h1⟩, s, _, rfl, h2, rfl⟩
theorem SAts.length {H : Hp} {ps : List (Tm × Tm)} {vs : List V} (h : SAts H ps vs) : vs.length = ps.length := by
 have := DAts.length h
 rw [List.length_map] at this
 exact this
theorem SAts.snoc {H : Hp} {ps : List (Tm × Tm)} {vs : List V} {i : Nat} {p : Tm × Tm} {v : V} (ht : ps[i]? = some p) (h : SAts H (ps.take i) vs) (h1 : SAt H p v) : SAts H (ps.take (i + 1)) (vs ++ [v]) := by
 obtain ⟨hi, e⟩ := List.getElem?_eq_some_iff.mp ht
 unfold SAts
 rw [List.take_succ_eq_append_getElem hi, e, List.map_append]
 exact DAts.append h (DAts.one h1)
theorem SAts.getV {H : Hp} {ps : List (Tm × Tm)} {vs : List V} {i : Nat} {v : V} (h : SAts H ps vs) (hv : vs[i]? = some v) : ∃ p, ps[i]? = some p /\ SAt H p v := by
 have hi : i < ps.length := by rw [← h.length]; exact (List.getElem?_eq_some_iff.mp hv).1
 obtain ⟨u, h1, h2⟩ := DAts.get (d := dSay ps[i]) h (by rw [List.getElem?_map, List.getElem?_eq_getElem hi]; rfl)
 rw [hv] at h1
 cases h1
 exact ⟨_, List.getElem?_eq_getElem hi, h2⟩
def vU (n m : Nat) (p : Tm × Tm) : Prop := (Fit n p.1 /\ wt p.1 <= m) /\ Fit n p.2 /\ wt p.2 <= m
section
variable {X : Cx} (K : PySem.W.Frag)
end
end L2
namespace L2
open PySem
abbrev Cs := List Nat
def zZ (j : Cs) : List Cs -> Cs
 | [] => []
 | [s] => s
 | s :: r :: q => s ++ j ++ zZ j (r :: q)
def jAnd : Cs := [32, 38, 32]
def jOr : Cs := [32, 124, 32]
def jOf (w : Str) : Cs := if w = "both" then jAnd else jOr
def wrN (w : Str) (ss : List Cs) : Cs := if w = "not" then 33 :: ss.headD [] else if ss = [] then w.cps.toList else 40 :: (zZ (jOf w) ss ++ [41])
mutual
def wr : Tm -> Cs
 | .name x => x.cps.toList
 | .node w ts => wrN w (wrs ts)
def wrs : List Tm -> List Cs
 | [] => []
 | t :: ts => wr t :: wrs ts
end
theorem wrs_map : ∀ ts : List Tm, wrs ts = ts.map wr
 | [] => rfl
 | t :: ts => by rw [wrs, wrs_map ts, List.map_cons]
theorem wr_node (w : Str) (ts : List Tm) : wr (.node w ts) = wrN w (ts.map wr) := by rw [wr, wrs_map]
def cNone : Cs := [110, 111, 110, 101]
def cAll : Cs := [97, 108, 108]
theorem c_none : ("none" : Str).cps.toList = cNone := by decide +kernel
theorem c_all : ("all" : Str).cps.toList = cAll := by decide +kernel
theorem wr_none : wr (.node "none" []) = cNone := by decide +kernel
theorem wr_all : wr (.node "all" []) = cAll := by decide +kernel
theorem jA (t : Tm) : wr (.node "not" [t]) = 33 :: wr t := by
 rw [wr_node]
 unfold wrN
 rw [if_pos rfl]
 rfl
theorem xP {w : Str} {ts : List Tm} (hw : w = "both" \/ w = "either") (h : ts ≠ []) : wr (.node w ts) = 40 :: (zZ (jOf w) (ts.map wr) ++ [41]) := by
 rw [wr_node]
 unfold wrN
 rw [if_neg (by rcases hw with rfl | rfl <;> decide +kernel), if_neg (by simpa using h)]
def isL (c : Nat) : Bool := decide (97 <= c) && decide (c <= 122)
def nmOk (s : Cs) : Bool := decide (1 <= s.length) && decide (s.length <= 8)
def xY (s : Cs) : Option (Tm × Cs) :=
 let wd := s.takeWhile isL
 if wd = cNone then some (.node "none" [], s.dropWhile isL) else if wd = cAll then some (.node "all" [], s.dropWhile isL) else if nmOk wd then some (.name ⟨wd.toArray⟩, s.dropWhile isL) else none
def xI (p : Cs -> Option (Tm × Cs)) (j : Cs) : Nat -> Cs -> Option (List Tm × Cs)
 | 0, s => some ([], s)
 | f + 1, s => if j.isPrefixOf s = true then (match p (s.drop 3) with
     | none => none
     | some (t, r) => match xI p j f r with
       | none => none
       | some (ts, r') => some (t :: ts, r')) else some ([], s)
def yL (r : Cs) : Str := if jAnd.isPrefixOf r = true then "both" else "either"
def pTerm : Nat -> Cs -> Option (Tm × Cs)
 | 0, _ => none
 | n + 1, s => match s with
   | 33 :: r => (match pTerm n r with
     | none => none
     | some (t, r') => some (.node "not" [t], r'))
   | 40 :: r => (match pTerm n r with
     | none => none
     | some (t, r1) => match xI (pTerm n) (jOf (yL r1)) (r1.length + 1) r1 with
       | none => none
       | some (ts, r2) => match ts, r2 with
         | [], _ => none
         | u :: us, 41 :: r3 => some (.node (yL r1) (t :: u :: us), r3)
         | _, _ => none)
   | s => xY s
theorem all_isL {s : Cs} (h : ∀ c ∈ s, 97 <= c /\ c <= 122) : ∀ c ∈ s, isL c = true := fun c hc => by
 have := h c hc
 unfold isL
 simp [this.1, this.2]
theorem isL_iff {c : Nat} : isL c = true ↔ 97 <= c /\ c <= 122 := by
 unfold isL
 simp
def jV (r : Cs) : Prop := ∀ c q, r = c :: q -> isL c = false
theorem qZ {s r : Cs} (h : ∀ c ∈ s, isL c = true) (hr : jV r) : (s ++ r).takeWhile isL = s /\ (s ++ r).dropWhile isL = r := by
 induction s with
 | nil =>
   cases r with
   | nil => exact ⟨rfl, rfl⟩
   | cons c q =>
     have := hr c q rfl
     simp [List.takeWhile_cons, List.dropWhile_cons, this]
 | cons c q ih =>
   have h1 := h c (by simp)
   obtain ⟨a, b⟩ := ih fun d hd => h d (by simp [hd])
   constructor
   · rw [List.cons_append, List.takeWhile_cons, if_pos h1, a]
   · rw [List.cons_append, List.dropWhile_cons, if_pos h1, b]
theorem c_none_l : ∀ c ∈ cNone, isL c = true := by decide
theorem c_all_l : ∀ c ∈ cAll, isL c = true := by decide
theorem pLeaf_none {r : Cs} (hr : jV r) : xY (cNone ++ r) = some (.node "none" [], r) := by
 obtain ⟨a, b⟩ := qZ c_none_l hr
 unfold xY
 rw [a, b]
 rfl
theorem pLeaf_all {r : Cs} (hr : jV r) : xY (cAll ++ r) = some (.node "all" [], r) := by
 obtain ⟨a, b⟩ := qZ c_all_l hr
 unfold xY
 rw [a, b]
 rfl
theorem cs_ne {x y : Str} (h : x ≠ y) : x.cps.toList ≠ y.cps.toList := fun e => h (str_ext (Array.toList_inj.mp e))
theorem pLeaf_name {x : Str} {r : Cs} (h : Nm x) (hr : jV r) : xY (x.cps.toList ++ r) = some (.name x, r) := by
 obtain ⟨a, b⟩ := qZ (all_isL h.low) hr
 unfold xY
 rw [a, b]
 have h1 := h.pos
 have h2 := h.most
 have hl : x.cps.toList.length = x.length := rfl
 have h3 : nmOk x.cps.toList = true := by unfold nmOk; rw [hl]; simp [h1, h2]
 simp only
 rw [if_neg (by rw [← c_none]; exact cs_ne h.nn), if_neg (by rw [← c_all]; exact cs_ne h.na), if_pos h3]
theorem head_l {s : Cs} (h : ∀ c ∈ s, isL c = true) (h1 : 1 <= s.length) (r : Cs) : ∃ c q, s ++ r = c :: q /\ isL c = true := by
 cases s with
 | nil => simp at h1
 | cons c q => exact ⟨c, q ++ r, rfl, h c (by simp)⟩
theorem xU {n : Nat} {c : Nat} {q : Cs} (h : isL c = true) : pTerm (n + 1) (c :: q) = xY (c :: q) := by
 have h := isL_iff.mp h
 have a : c ≠ 33 := by omega
 have b : c ≠ 40 := by omega
 unfold pTerm
 split
 · rename_i e; simp at e; omega
 · rename_i e; simp at e; omega
 · rfl
theorem vE {n : Nat} {r : Cs} (hr : jV r) : pTerm (n + 1) (cNone ++ r) = some (.node "none" [], r) := by
 have e : cNone ++ r = 110 :: ([111, 110, 101] ++ r) := rfl
 rw [e, xU (by decide), ← e]
 exact pLeaf_none hr
theorem wH {n : Nat} {r : Cs} (hr : jV r) : pTerm (n + 1) (cAll ++ r) = some (.node "all" [], r) := by
 have e : cAll ++ r = 97 :: ([108, 108] ++ r) := rfl
 rw [e, xU (by decide), ← e]
 exact pLeaf_all hr
theorem stop_j {w : Str} (q : Cs) : jV (jOf w ++ q) := by
 unfold jOf
 split
 · intro c r e
   simp [jAnd] at e
   rw [← e.1]
   decide
 · intro c r e
   simp [jOr] at e
   rw [← e.1]
   decide
theorem stop_b (q : Cs) : jV (41 :: q) := by
 intro c r e
 simp at e
 rw [← e.1]
 decide
def zV (j : Cs) : List Cs -> Cs
 | [] => []
 | s :: r => j ++ s ++ zV j r
theorem yS (j : Cs) : ∀ (s : Cs) (r : List Cs), zZ j (s :: r) = s ++ zV j r
 | s, [] => by simp [zZ, zV]
 | s, a :: r => by
   rw [zZ, yS j a r, zV]
   simp
theorem pre_j (j q : Cs) : j.isPrefixOf (j ++ q) = true := by simp
theorem wJ (w : Str) : (jOf w).length = 3 := by unfold jOf; split <;> rfl
theorem no_pre_b (w : Str) (q : Cs) : (jOf w).isPrefixOf (41 :: q) = false := by unfold jOf; split <;> rfl
theorem vX {w : Str} {ss : List Cs} {q : Cs} : jV (zV (jOf w) ss ++ 41 :: q) := by
 cases ss with
 | nil => exact stop_b q
 | cons s r =>
   rw [zV, List.append_assoc, List.append_assoc]
   exact stop_j _
theorem pMore_wr {n : Nat} {w : Str} (ih : ∀ t r, Fit n t -> jV r -> pTerm (n + 1) (wr t ++ r) = some (t, r)) : ∀ (ts : List Tm) (f : Nat) (q : Cs), (∀ t ∈ ts, Fit n t) -> ts.length < f ->
   xI (pTerm (n + 1)) (jOf w) f (zV (jOf w) (ts.map wr) ++ 41 :: q) = some (ts, 41 :: q)
 | [], f, q, _, hf => by
   cases f with
   | zero => simp at hf
   | succ f =>
     show xI _ _ (f + 1) (41 :: q) = _
     rw [xI, if_neg (by rw [no_pre_b]; decide)]
 | t :: ts, f, q, h, hf => by
   cases f with
   | zero => simp at hf
   | succ f =>
     have e : zV (jOf w) ((t :: ts).map wr) ++ 41 :: q = jOf w ++ (wr t ++ (zV (jOf w) (ts.map wr) ++ 41 :: q)) := by
       rw [List.map_cons, zV]
       simp
     rw [e, xI, if_pos (pre_j _ _)]
     have e2 : (jOf w ++ (wr t ++ (zV (jOf w) (ts.map wr) ++ 41 :: q))).drop 3 = wr t ++ (zV (jOf w) (ts.map wr) ++ 41 :: q) := by
       rw [← wJ w, List.drop_left]
     rw [e2, ih t _ (h t (by simp)) vX]
     simp only
     rw [pMore_wr ih ts f q (fun u hu => h u (by simp [hu])) (by simp at hf; omega)]
theorem xS (j : Cs) (hj : 1 <= j.length) : ∀ ss : List Cs, ss.length <= (zV j ss).length
 | [] => by simp [zV]
 | s :: r => by
   have := xS j hj r
   rw [zV, List.length_append, List.length_append, List.length_cons]
   omega
theorem kind_and (q : Cs) : yL (jAnd ++ q) = "both" := by
 unfold yL
 rw [if_pos (by simp)]
theorem kind_or (q : Cs) : yL (jOr ++ q) = "either" := by
 unfold yL
 rw [if_neg (by simp [jAnd, jOr])]
theorem kind_of {w : Str} (hw : w = "both" \/ w = "either") (q : Cs) : yL (jOf w ++ q) = w := by
 rcases hw with rfl | rfl
 · have e : jOf "both" = jAnd := by decide +kernel
   rw [e]; exact kind_and q
 · have e : jOf "either" = jOr := by decide +kernel
   rw [e]; exact kind_or q
theorem pTerm_wr : ∀ (n : Nat) (t : Tm) (r : Cs), Fit n t -> jV r -> pTerm (n + 1) (wr t ++ r) = some (t, r)
 | n, .name x, r, h, hr => by
   have h : Nm x := by cases n <;> exact h
   rw [wr]
   obtain ⟨c, q, e, hc⟩ := head_l (all_isL h.low) h.pos r
   rw [e, xU hc, ← e]
   exact pLeaf_name h hr
 | 0, .node w ts, r, h, hr => by
   obtain ⟨h1, h2⟩ := h
   subst h2
   rcases h1 with ⟨rfl, _⟩ | ⟨rfl, _⟩ | ⟨_, h1⟩ | ⟨_, h1⟩ | ⟨_, h1⟩
   · rw [wr_none]
     exact vE hr
   · rw [wr_all]
     exact wH hr
   · simp at h1
   · simp at h1
   · simp at h1
 | n + 1, .node w ts, r, h, hr => by
   obtain ⟨h1, h2⟩ := h
   have ih : ∀ t r, Fit n t -> jV r -> pTerm (n + 1) (wr t ++ r) = some (t, r) := fun t r => pTerm_wr n t r
   have many : (w = "both" \/ w = "either") -> 2 <= ts.length -> pTerm (n + 1 + 1) (wr (.node w ts) ++ r) = some (.node w ts, r) := fun hw hl => by
     match ts, hl with
     | t :: u :: us, _ =>
       rw [xP hw (by simp), List.map_cons, yS]
       have e : 40 :: (wr t ++ zV (jOf w) ((u :: us).map wr) ++ [41]) ++ r = 40 :: (wr t ++ (zV (jOf w) ((u :: us).map wr) ++ 41 :: r)) := by simp
       rw [e]
       show (match pTerm (n + 1) (wr t ++ (zV (jOf w) ((u :: us).map wr) ++ 41 :: r)) with
         | none => none
         | some (t, r1) => match xI (pTerm (n + 1)) (jOf (yL r1)) (r1.length + 1) r1 with
           | none => none
           | some (ts, r2) => match ts, r2 with
             | [], _ => none
             | u :: us, 41 :: r3 => some (Tm.node (yL r1) (t :: u :: us), r3)
             | _, _ => none) = _
       rw [ih t _ (h2 t (by simp)) vX]
       simp only
       have ek : yL (zV (jOf w) ((u :: us).map wr) ++ 41 :: r) = w := by
         rw [List.map_cons, zV, List.append_assoc, List.append_assoc]
         exact kind_of hw _
       rw [ek, pMore_wr ih (u :: us) _ r (fun x hx => h2 x (List.mem_cons_of_mem _ hx)) (by
         have := xS (jOf w) (by rw [wJ]; omega) ((u :: us).map wr)
         rw [List.length_append]
         rw [List.length_map] at this
         omega)]
       rfl
   rcases h1 with ⟨rfl, h1⟩ | ⟨rfl, h1⟩ | ⟨rfl, h1⟩ | ⟨rfl, h1⟩ | ⟨rfl, h1⟩
   · have : ts = [] := List.eq_nil_of_length_eq_zero h1
     subst this
     rw [wr_none]
     exact vE hr
   · have : ts = [] := List.eq_nil_of_length_eq_zero h1
     subst this
     rw [wr_all]
     exact wH hr
   · match ts, h1 with
     | [t], _ =>
       rw [jA]
       show (match pTerm (n + 1) (wr t ++ r) with | none => none | some (t, r') => some (Tm.node "not" [t], r')) = _
       rw [ih t r (h2 t (by simp)) hr]
   · exact many (.inl rfl) h1
   · exact many (.inr rfl) h1
theorem uJ {s r : Cs} {t : Tm} (h : xY s = some (t, r)) : s = wr t ++ r /\ ∀ n, Fit n t := by
 unfold xY at h
 have e := List.takeWhile_append_dropWhile (p := isL) (l := s)
 simp only at h
 split at h
 · rename_i h1
   cases h
   rw [h1] at e
   refine ⟨by rw [wr_none]; exact e.symm, fun n => ?_⟩
   cases n with
   | zero => exact ⟨.inl ⟨rfl, rfl⟩, rfl⟩
   | succ n => exact ⟨.inl ⟨rfl, rfl⟩, fun _ z => nomatch z⟩
 · rename_i h1
   split at h
   · rename_i h2
     cases h
     rw [h2] at e
     refine ⟨by rw [wr_all]; exact e.symm, fun n => ?_⟩
     cases n with
     | zero => exact ⟨.inr (.inl ⟨rfl, rfl⟩), rfl⟩
     | succ n => exact ⟨.inr (.inl ⟨rfl, rfl⟩), fun _ z => nomatch z⟩
   · rename_i h2
     split at h
     · rename_i h3
       cases h
       unfold nmOk at h3
       simp only [Bool.and_eq_true, decide_eq_true_eq] at h3
       have nm : Nm ⟨(s.takeWhile isL).toArray⟩ := ⟨by simpa [Str.length] using h3.1, by simpa [Str.length] using h3.2, fun c hc => isL_iff.mp (by
           have hc : c ∈ s.takeWhile isL := by simpa using hc
           have := List.all_takeWhile (p := isL) (l := s)
           exact List.all_eq_true.mp this c hc), fun z => h1 (by
           have := congrArg (fun x : Str => x.cps.toList) z
           rw [c_none] at this
           simpa using this), fun z => h2 (by
           have := congrArg (fun x : Str => x.cps.toList) z
           rw [c_all] at this
           simpa using this)⟩
       refine ⟨by rw [wr]; simpa using e.symm, fun n => ?_⟩
       cases n <;> exact nm
     · cases h
theorem wA {j s : Cs} (h : j.isPrefixOf s = true) : s = j ++ s.drop j.length := by
 obtain ⟨q, rfl⟩ := List.isPrefixOf_iff_prefix.mp h
 rw [List.drop_left]
theorem uI {p : Cs -> Option (Tm × Cs)} {w : Str} {G : Tm -> Prop} (hp : ∀ s t r, p s = some (t, r) -> s = wr t ++ r /\ G t) : ∀ (f : Nat) (s : Cs) (ts : List Tm) (r : Cs), xI p (jOf w) f s = some (ts, r) -> s = zV (jOf w) (ts.map wr) ++ r /\ ∀ t ∈ ts, G t
 | 0, s, ts, r, h => by
   rw [xI] at h
   cases h
   exact ⟨rfl, fun _ z => nomatch z⟩
 | f + 1, s, ts, r, h => by
   rw [xI] at h
   split at h
   · rename_i hj
     split at h
     · cases h
     · rename_i t r1 e1
       split at h
       · cases h
       · rename_i us r2 e2
         cases h
         obtain ⟨a, b⟩ := hp _ _ _ e1
         obtain ⟨c, d⟩ := uI hp f r1 us _ e2
         refine ⟨?_, fun x hx => ?_⟩
         · have e := wA hj
           rw [wJ] at e
           rw [List.map_cons, zV, e, a, c]
           simp
         · rcases List.mem_cons.mp hx with rfl | hx
           · exact b
           · exact d x hx
   · cases h
     exact ⟨rfl, fun _ z => nomatch z⟩
theorem kE (r : Cs) : yL r = "both" \/ yL r = "either" := by
 unfold yL
 split
 · exact .inl rfl
 · exact .inr rfl
theorem pTerm_sound : ∀ (n : Nat) (s : Cs) (t : Tm) (r : Cs), pTerm (n + 1) s = some (t, r) -> s = wr t ++ r /\ Fit n t
 | 0, s, t, r, h => by
   unfold pTerm at h
   split at h
   · rw [pTerm] at h; cases h
   · rw [pTerm] at h; cases h
   · obtain ⟨a, b⟩ := uJ h
     exact ⟨a, b 0⟩
 | n + 1, s, t, r, h => by
   have ih := pTerm_sound n
   unfold pTerm at h
   split at h
   · split at h
     · cases h
     · rename_i q u r' e
       cases h
       obtain ⟨a, b⟩ := ih _ _ _ e
       refine ⟨by rw [jA, a]; rfl, .inr (.inr (.inl ⟨rfl, rfl⟩)), fun x hx => ?_⟩
       rw [List.mem_singleton.mp hx]
       exact b
   · split at h
     · cases h
     · rename_i q u r1 e
       split at h
       · cases h
       · rename_i ts r2 e2
         split at h
         · cases h
         · rename_i x us r3
           cases h
           obtain ⟨a, b⟩ := ih _ _ _ e
           obtain ⟨c, d⟩ := uI (G := Fit n) (w := yL r1) ih _ _ _ _ e2
           refine ⟨?_, ?_, fun y hy => ?_⟩
           · rw [xP (kE r1) (by simp), List.map_cons, yS, a]
             generalize jOf (yL r1) = j at c
             rw [c]
             simp
           · rcases kE r1 with k | k
             · exact .inr (.inr (.inr (.inl ⟨k, by simp⟩)))
             · exact .inr (.inr (.inr (.inr ⟨k, by simp⟩)))
           · rcases List.mem_cons.mp hy with rfl | hy
             · exact b
             · exact d y hy
         · cases h
   · obtain ⟨a, b⟩ := uJ h
     exact ⟨a, b _⟩
end L2
namespace L2
open PySem
def toS (s : Cs) : Str := ⟨s.toArray⟩
def ofS (x : Str) : Cs := x.cps.toList
theorem yK (x : Str) : toS (ofS x) = x := by cases x; simp [toS, ofS]
theorem kD (s : Cs) : ofS (toS s) = s := by simp [toS, ofS]
theorem zJ (a b : Cs) : toS a ++ toS b = toS (a ++ b) := by
 show (⟨a.toArray ++ b.toArray⟩ : Str) = ⟨(a ++ b).toArray⟩
 congr 1
 simp
theorem zH (a : Cs) : (toS a).length = a.length := by simp [toS, Str.length]
theorem yN {a b : Cs} (h : toS a = toS b) : a = b := by
 have := congrArg ofS h
 rwa [kD, kD] at this
theorem vL (j : Cs) : ∀ (r : List Cs) (acc : Cs), ((r.map toS).foldl (fun acc p => acc ++ (toS j).cps ++ p.cps) acc.toArray) = (acc ++ zV j r).toArray
 | [], acc => by simp [zV]
 | s :: r, acc => by
   rw [List.map_cons, List.foldl_cons]
   have e : acc.toArray ++ (toS j).cps ++ (toS s).cps = (acc ++ j ++ s).toArray := by simp [toS]
   rw [e, vL j r, zV]
   simp
theorem glued_toS (j : Cs) (ss : List Cs) : Builtin.Str.glued (toS j) (ss.map toS) = toS (zZ j ss) := by
 cases ss with
 | nil => rfl
 | cons s r =>
   show (⟨(r.map toS).foldl (fun acc p => acc ++ (toS j).cps ++ p.cps) (toS s).cps⟩ : Str) = _
   rw [yS, show (toS s).cps = s.toArray from rfl, vL]
   rfl
def wrS (t : Tm) : Str := toS (wr t)
def jUnder : Cs := [32, 60, 32]
def jComma : Cs := [44, 32]
def jArrow : Cs := [32, 61, 62, 32]
def zL (p : Tm × Tm) : Cs := wr p.1 ++ jUnder ++ wr p.2
def zX (r : List (Tm × Tm) × (Tm × Tm)) : Cs := if r.1 = [] then zL r.2 else zZ jComma (r.1.map zL) ++ jArrow ++ zL r.2
theorem jK {j : Cs} (hj : j.length <= 3) : ∀ ts : List Tm, (∀ t ∈ ts, (wr t).length + 3 <= 13 * wt t) -> (zV j (ts.map wr)).length <= 13 * wts ts
 | [], _ => by simp [zV]
 | t :: ts, h => by
   have a := h t (by simp)
   have b := jK hj ts fun u hu => h u (by simp [hu])
   rw [List.map_cons, zV, List.length_append, List.length_append, wts]
   omega
theorem wr_len : ∀ (n : Nat) (t : Tm), Fit n t -> (wr t).length + 3 <= 13 * wt t
 | n, .name x, h => by
   have h : Nm x := by cases n <;> exact h
   have := h.most
   rw [wr, wt]
   have : x.cps.toList.length = x.length := rfl
   omega
 | 0, .node w ts, h => by
   obtain ⟨h1, h2⟩ := h
   subst h2
   rcases h1 with ⟨rfl, _⟩ | ⟨rfl, _⟩ | ⟨_, h1⟩ | ⟨_, h1⟩ | ⟨_, h1⟩
   · rw [wr_none, wt, wts]; decide
   · rw [wr_all, wt, wts]; decide
   · simp at h1
   · simp at h1
   · simp at h1
 | n + 1, .node w ts, h => by
   obtain ⟨h1, h2⟩ := h
   have ih : ∀ t ∈ ts, (wr t).length + 3 <= 13 * wt t := fun t ht => wr_len n t (h2 t ht)
   have many : (w = "both" \/ w = "either") -> 2 <= ts.length -> (wr (.node w ts)).length + 3 <= 13 * wt (.node w ts) := fun hw hl => by
     match ts, hl with
     | t :: us, hl =>
       rw [xP hw (by simp), List.map_cons, yS]
       have a := ih t (by simp)
       have b := jK (j := jOf w) (by rw [wJ]; omega) us fun u hu => ih u (by simp [hu])
       rw [wt, wts, List.length_cons, List.length_append, List.length_append, List.length_singleton]
       omega
   rcases h1 with ⟨rfl, h1⟩ | ⟨rfl, h1⟩ | ⟨rfl, h1⟩ | ⟨rfl, h1⟩ | ⟨rfl, h1⟩
   · have : ts = [] := List.eq_nil_of_length_eq_zero h1
     subst this
     rw [wr_none, wt, wts]; decide
   · have : ts = [] := List.eq_nil_of_length_eq_zero h1
     subst this
     rw [wr_all, wt, wts]; decide
   · match ts, h1 with
     | [t], _ =>
       have a := ih t (by simp)
       rw [jA, wt, wts, wts, List.length_cons]
       omega
   · exact many (.inl rfl) h1
   · exact many (.inr rfl) h1
mutual
def lvs : Tm -> Nat
 | .name _ => 1
 | .node _ ts => if ts.isEmpty then 1 else lvss ts
def lvss : List Tm -> Nat
 | [] => 0
 | t :: ts => lvs t + lvss ts
end
end L2
namespace L2
open PySem PySem.Builtin PySem.Builtin.Str PySem.StrLaws
def atB (s sub : Str) (hi i : Nat) : Bool := decide (i + sub.length <= hi) && subAt s sub i
theorem qN (s sub : Str) (hi limit : Nat) : ∀ (l : List Nat) (st : Array Nat × Nat), l.Pairwise (· < ·) -> (∀ i ∈ l, atB s sub hi i = true -> st.snd <= i) ->
   (∀ i ∈ l, ∀ j ∈ l, atB s sub hi i = true -> atB s sub hi j = true -> i < j -> i + sub.length <= j) -> st.fst.size + l.length <= limit ->
   (forIn l st (occBody s sub hi limit)).run.fst.toList = st.fst.toList ++ l.filter (atB s sub hi)
 | [], st, _, _, _, _ => by simp
 | a :: l, st, hp, hf, hs, hn => by
   have hp' := (List.pairwise_cons.mp hp)
   rw [List.forIn_cons]
   unfold occBody
   rw [List.length_cons] at hn
   by_cases hc : atB s sub hi a = true
   · have h1 := hf a (by simp) hc
     have h2 := hc
     unfold atB at h2
     simp only [Bool.and_eq_true, decide_eq_true_eq] at h2
     rw [if_pos ⟨⟨⟨by omega, h1⟩, h2.1⟩, h2.2⟩]
     have := qN s sub hi limit l (st.fst.push a, a + sub.length) hp'.2 (fun i hi' ha => hs a (by simp) i (by simp [hi']) hc ha (hp'.1 i hi')) (fun i hi' j hj => hs i (by simp [hi']) j (by simp [hj])) (by simp; omega)
     refine Eq.trans this ?_
     rw [List.filter_cons, if_pos hc]
     simp
   · have h3 : ¬ (((st.fst.size < limit /\ st.snd <= a) /\ a + sub.length <= hi) /\ subAt s sub a = true) := fun z => hc (by unfold atB; simp [z.1.2, z.2])
     rw [if_neg h3]
     have := qN s sub hi limit l st hp'.2 (fun i hi' ha => hf i (by simp [hi']) ha) (fun i hi' j hj => hs i (by simp [hi']) j (by simp [hj])) (by omega)
     refine Eq.trans this ?_
     rw [List.filter_cons, if_neg hc]
def jW (w : Nat) : Nat -> List Cs -> List Nat
 | _, [] => []
 | _, [_] => []
 | a, p :: q :: r => (a + p.length) :: jW w (a + p.length + w) (q :: r)
theorem cuts_ge (w : Nat) : ∀ (a : Nat) (ps : List Cs), ∀ i ∈ jW w a ps, a <= i
 | a, [], i, h => nomatch h
 | a, [_], i, h => nomatch h
 | a, p :: q :: r, i, h => by
   rw [jW] at h
   rcases List.mem_cons.mp h with rfl | h
   · omega
   · have := cuts_ge w _ (q :: r) i h
     omega
theorem uM (w : Nat) (hw : 1 <= w) : ∀ (a : Nat) (ps : List Cs), (jW w a ps).Pairwise fun i j => i + w <= j
 | a, [] => .nil
 | a, [_] => .nil
 | a, p :: q :: r => by
   rw [jW]
   exact List.pairwise_cons.mpr ⟨fun j hj => cuts_ge w _ (q :: r) j hj, uM w hw _ (q :: r)⟩
structure Mark (y : Cs) (k m : Nat) : Prop where
 at_ : y[k]? = some m
 once : ∀ j, y[j]? = some m -> j = k
theorem marks {y : Cs} {k m : Nat} (M : Mark y k m) : ∀ (ps : List Cs) (a i : Nat), (∀ p ∈ ps, m ∉ p) -> (zZ y ps)[i]? = some m -> ∃ c ∈ jW y.length a ps, i + a = c + k
 | [], a, i, _, h => by simp [zZ] at h
 | [p], a, i, hm, h => by
   rw [zZ] at h
   exact absurd (List.mem_of_getElem? h) (hm p (by simp))
 | p :: q :: r, a, i, hm, h => by
   rw [zZ, List.append_assoc] at h
   by_cases h1 : i < p.length
   · rw [List.getElem?_append_left h1] at h
     exact absurd (List.mem_of_getElem? h) (hm p (by simp))
   · rw [List.getElem?_append_right (by omega)] at h
     by_cases h2 : i - p.length < y.length
     · rw [List.getElem?_append_left h2] at h
       refine ⟨_, List.mem_cons_self, ?_⟩
       have := M.once _ h
       omega
     · rw [List.getElem?_append_right (by omega)] at h
       obtain ⟨c, hc, e⟩ := marks M (q :: r) (a + p.length + y.length) _ (fun x hx => hm x (by simp [hx])) h
       exact ⟨c, List.mem_cons_of_mem _ hc, by omega⟩
theorem at_cut (y : Cs) : ∀ (ps : List Cs) (a c : Nat) (ahead : Cs), ahead.length = a -> c ∈ jW y.length a ps -> ∃ b, ahead ++ zZ y ps = b ++ y ++ (ahead ++ zZ y ps).drop (c + y.length) /\ b.length = c
 | [], _, _, _, _, h => nomatch h
 | [_], _, _, _, _, h => nomatch h
 | p :: q :: r, a, c, ahead, ha, h => by
   rw [jW] at h
   rw [zZ]
   rcases List.mem_cons.mp h with rfl | h
   · refine ⟨ahead ++ p, ?_, by simp [ha]⟩
     have e : ahead ++ (p ++ y ++ zZ y (q :: r)) = (ahead ++ p ++ y) ++ zZ y (q :: r) := by simp
     have l : (ahead ++ p ++ y).length = a + p.length + y.length := by simp [ha]; omega
     rw [e, ← l, List.drop_left]
   · have := at_cut y (q :: r) (a + p.length + y.length) c (ahead ++ p ++ y) (by simp [ha]; omega) h
     have e : ahead ++ (p ++ y ++ zZ y (q :: r)) = (ahead ++ p ++ y) ++ zZ y (q :: r) := by simp
     rw [e]
     exact this
theorem kL {y : Cs} {k m : Nat} (M : Mark y k m) {ps : List Cs} (hm : ∀ p ∈ ps, m ∉ p) (i : Nat) : atB (toS (zZ y ps)) (toS y) (toS (zZ y ps)).length i = true ↔ i ∈ jW y.length 0 ps := by
 have hk : k < y.length := (List.getElem?_eq_some_iff.mp M.at_).1
 unfold atB
 simp only [Bool.and_eq_true, decide_eq_true_eq, zH]
 rw [subAt_eq]
 have e1 : (toS (zZ y ps)).cps.toList = zZ y ps := by simp [toS]
 have e2 : (toS y).cps.toList = y := by simp [toS]
 have e3 : (toS y).length = y.length := zH y
 rw [e1, e2, e3, beq_iff_eq]
 constructor
 · rintro ⟨h1, h2⟩
   have : (zZ y ps)[i + k]? = some m := by
     have h3 : (((zZ y ps).drop i).take y.length)[k]? = some m := by rw [h2]; exact M.at_
     rw [List.getElem?_take_of_lt hk, List.getElem?_drop] at h3
     exact h3
   obtain ⟨c, hc, e⟩ := marks M ps 0 _ hm this
   have : i = c := by omega
   rw [this]
   exact hc
 · intro h
   obtain ⟨b, e, hb⟩ := at_cut y ps 0 i [] rfl h
   rw [List.nil_append] at e
   have hl := congrArg List.length e
   rw [List.length_append, List.length_append] at hl
   refine ⟨by omega, ?_⟩
   generalize (zZ y ps).drop (i + y.length) = d at e
   rw [e, ← hb, List.append_assoc, List.drop_left, List.take_left]
theorem sorted_ext : ∀ {l l' : List Nat}, l.Pairwise (· < ·) -> l'.Pairwise (· < ·) -> (∀ i, i ∈ l ↔ i ∈ l') -> l = l'
 | [], [], _, _, _ => rfl
 | [], b :: r, _, _, h => by have := (h b).mpr (by simp); cases this
 | a :: l, [], _, _, h => by have := (h a).mp (by simp); cases this
 | a :: l, b :: r, h1, h2, h => by
   have p1 := List.pairwise_cons.mp h1
   have p2 := List.pairwise_cons.mp h2
   have e : a = b := by
     have x := (h a).mp (by simp)
     have z := (h b).mpr (by simp)
     rcases List.mem_cons.mp x with x | x
     · exact x
     · rcases List.mem_cons.mp z with z | z
       · exact z.symm
       · have := p2.1 a x
         have := p1.1 b z
         omega
   subst e
   congr 1
   refine sorted_ext p1.2 p2.2 fun i => ⟨fun hi => ?_, fun hi => ?_⟩
   · rcases List.mem_cons.mp ((h i).mp (by simp [hi])) with z | z
     · have := p1.1 i hi; omega
     · exact z
   · rcases List.mem_cons.mp ((h i).mpr (by simp [hi])) with z | z
     · have := p2.1 i hi; omega
     · exact z
theorem occ_cuts {y : Cs} {k m : Nat} (M : Mark y k m) {ps : List Cs} (hm : ∀ p ∈ ps, m ∉ p) : occurrences (toS (zZ y ps)) (toS y) 0 (toS (zZ y ps)).length ((toS (zZ y ps)).length + 1) = jW y.length 0 ps := by
 have hk : k < y.length := (List.getElem?_eq_some_iff.mp M.at_).1
 have srt := uM y.length (by omega) 0 ps
 have lt : (jW y.length 0 ps).Pairwise (· < ·) := srt.imp (by intro a b h; omega)
 have far : ∀ i ∈ jW y.length 0 ps, ∀ j ∈ jW y.length 0 ps, i < j -> i + y.length <= j := by
   intro i hi j hj hij
   have : ∀ {l : List Nat}, l.Pairwise (fun i j => i + y.length <= j) -> i ∈ l -> j ∈ l -> i + y.length <= j := by
     intro l
     induction l with
     | nil => intro _ h _; cases h
     | cons a l ih =>
       intro hp hi hj
       have q := List.pairwise_cons.mp hp
       rcases List.mem_cons.mp hi with e1 | hi'
       · rcases List.mem_cons.mp hj with e2 | hj'
         · omega
         · rw [e1]; exact q.1 j hj'
       · rcases List.mem_cons.mp hj with e2 | hj'
         · have := q.1 i hi'; omega
         · exact ih q.2 hi' hj'
   exact this srt hi hj
 rw [occ_eq, qN]
 · simp only [List.nil_append]
   refine sorted_ext ?_ lt fun i => ?_
   · exact (List.pairwise_lt_range' (s := 0) (step := 1) (n := _) (by decide)).filter _
   · rw [List.mem_filter, kL M hm]
     constructor
     · exact fun h => h.2
     · intro h
       refine ⟨?_, h⟩
       have h2 := (kL M hm i).mpr h
       unfold atB at h2
       simp only [Bool.and_eq_true, decide_eq_true_eq] at h2
       simp [List.mem_range']
       omega
 · exact List.pairwise_lt_range' (s := 0) (step := 1) (n := _) (by decide)
 · intro i _ _; exact Nat.zero_le _
 · intro i _ j _ hi hj hij
   rw [zH]
   exact far i ((kL M hm i).mp hi) j ((kL M hm j).mp hj) hij
 · simp
theorem sub_toS (x : Cs) (a c : Nat) : strSub (toS x) a c = toS ((x.drop a).take (c - a)) := by
 apply Str.ext'
 apply Array.toList_inj.mp
 rw [strSub_toList]
 simp [toS]
theorem vD (y : Cs) : ∀ (ps : List Cs) (a : Nat) (x : Cs), ps ≠ [] -> x.drop a = zZ y ps -> a <= x.length -> partsFrom (toS x) y.length a (jW y.length a ps) = ps.map toS
 | [], _, _, h, _, _ => absurd rfl h
 | [p], a, x, _, e, ha => by
   show [strSub (toS x) a (toS x).length] = [toS p]
   rw [zZ] at e
   rw [sub_toS, zH, e, List.take_of_length_le]
   have := congrArg List.length e
   rw [List.length_drop] at this
   omega
 | p :: q :: r, a, x, _, e, ha => by
   rw [jW, partsFrom]
   rw [zZ] at e
   have e1 : (x.drop a).take (a + p.length - a) = p := by
     rw [e, show a + p.length - a = p.length by omega, List.append_assoc, List.take_left]
   have e2 : x.drop (a + p.length + y.length) = zZ y (q :: r) := by
     rw [show a + p.length + y.length = a + (p ++ y).length by rw [List.length_append]; omega, ← List.drop_drop, e, List.drop_left]
   have l := congrArg List.length e
   rw [List.length_drop, List.length_append, List.length_append] at l
   rw [sub_toS, e1, vD y (q :: r) _ x (by simp) e2 (by omega)]
   rfl
theorem xJ {y : Cs} {k m : Nat} (M : Mark y k m) {ps : List Cs} (hne : ps ≠ []) (hm : ∀ p ∈ ps, m ∉ p) (hy : ∀ c ∈ y, c < 256) : Txt.split (toS (zZ y ps)) (toS y) = ps.map toS := by
 have one : jW y.length 0 ps = [] -> toS (zZ y ps) = toS (zZ y ps) /\ ps.map toS = [toS (zZ y ps)] := fun h => by
   match ps, hne, h with
   | [p], _, _ => exact ⟨rfl, rfl⟩
   | p :: q :: r, _, h => rw [jW] at h; cases h
 unfold Txt.split
 rw [occ_cuts M hm]
 have hk : k < y.length := (List.getElem?_eq_some_iff.mp M.at_).1
 by_cases hc : jW y.length 0 ps = []
 · rw [hc]
   simp only [List.isEmpty_nil, if_true, ite_self]
   exact (one hc).2.symm
 · have hlen : y.length <= (zZ y ps).length := by
     match ps, hne, hc with
     | [p], _, hc => exact absurd rfl hc
     | p :: q :: r, _, _ => rw [zZ, List.length_append, List.length_append]; omega
   have hkind : Builtin.Str.strKind (toS y) = 1 := by
     unfold Builtin.Str.strKind
     rw [if_pos]
     rw [Array.all_eq_true]
     intro i hi
     have hi' : i < y.length := by simpa [toS] using hi
     have := hy _ (List.getElem_mem hi')
     exact decide_eq_true (by simpa [toS] using this)
   have hk2 : 1 <= Builtin.Str.strKind (toS (zZ y ps)) := by
     unfold Builtin.Str.strKind
     split
     · omega
     · split <;> omega
   rw [if_neg (by rw [hkind, zH, zH]; simp; omega), if_neg (by simpa using hc), zH, partsBetween_eq]
   exact vD y ps 0 _ hne rfl (Nat.zero_le _)
theorem qO (x y : Cs) : toS (zZ y ((Txt.split (toS x) (toS y)).map ofS)) = toS x := by
 have e : ∀ l : List Str, (l.map ofS).map toS = l := fun l => by
   induction l with
   | nil => rfl
   | cons a r ih => rw [List.map_cons, List.map_cons, ih, yK]
 rw [← glued_toS, e]
 unfold Txt.split
 split
 · rfl
 · split
   · rfl
   · exact glued_between_self (toS x) (toS y) _
theorem split_ne (x y : Str) : Txt.split x y ≠ [] := by
 unfold Txt.split
 split
 · simp
 · split
   · simp
   · rw [partsBetween_eq]
     obtain ⟨p, r, e⟩ := partsFrom_ne x y.length 0 (occurrences x y 0 x.length (x.length + 1))
     rw [e]
     simp
theorem mark_under : Mark jUnder 1 60 := ⟨rfl, fun j h => by
 match j with
 | 0 => cases h
 | 1 => rfl
 | 2 => cases h
 | j + 3 => cases h⟩
theorem mark_comma : Mark jComma 0 44 := ⟨rfl, fun j h => by
 match j with
 | 0 => rfl
 | 1 => cases h
 | j + 2 => cases h⟩
theorem mark_arrow : Mark jArrow 1 61 := ⟨rfl, fun j h => by
 match j with
 | 0 => cases h
 | 1 => rfl
 | 2 => cases h
 | 3 => cases h
 | j + 4 => cases h⟩
def okc (c : Nat) : Prop := (97 <= c /\ c <= 122) \/ c = 32 \/ c = 33 \/ c = 38 \/ c = 40 \/ c = 41 \/ c = 124
theorem okc_j {w : Str} : ∀ c ∈ jOf w, okc c := by
 intro c hc
 unfold jOf at hc
 unfold okc
 split at hc
 · simp [jAnd] at hc; omega
 · simp [jOr] at hc; omega
theorem okc_tail {w : Str} : ∀ ts : List Tm, (∀ t ∈ ts, ∀ c ∈ wr t, okc c) -> ∀ c ∈ zV (jOf w) (ts.map wr), okc c
 | [], _, c, hc => by simp [zV] at hc
 | t :: ts, h, c, hc => by
   rw [List.map_cons, zV] at hc
   rcases List.mem_append.mp hc with hc | hc
   · rcases List.mem_append.mp hc with hc | hc
     · exact okc_j c hc
     · exact h t (by simp) c hc
   · exact okc_tail ts (fun u hu => h u (by simp [hu])) c hc
theorem wr_okc : ∀ (n : Nat) (t : Tm), Fit n t -> ∀ c ∈ wr t, okc c
 | n, .name x, h, c, hc => by
   have h : Nm x := by cases n <;> exact h
   rw [wr] at hc
   exact .inl (h.low c hc)
 | 0, .node w ts, h, c, hc => by
   obtain ⟨h1, h2⟩ := h
   subst h2
   rcases h1 with ⟨rfl, _⟩ | ⟨rfl, _⟩ | ⟨_, h1⟩ | ⟨_, h1⟩ | ⟨_, h1⟩
   · rw [wr_none] at hc; simp [cNone] at hc; unfold okc; omega
   · rw [wr_all] at hc; simp [cAll] at hc; unfold okc; omega
   · simp at h1
   · simp at h1
   · simp at h1
 | n + 1, .node w ts, h, c, hc => by
   obtain ⟨h1, h2⟩ := h
   have ih : ∀ t ∈ ts, ∀ c ∈ wr t, okc c := fun t ht => wr_okc n t (h2 t ht)
   have many : (w = "both" \/ w = "either") -> 2 <= ts.length -> okc c := fun hw hl => by
     match ts, hl with
     | t :: us, hl =>
       rw [xP hw (by simp), List.map_cons, yS] at hc
       rcases List.mem_cons.mp hc with rfl | hc
       · unfold okc; omega
       · rcases List.mem_append.mp hc with hc | hc
         · rcases List.mem_append.mp hc with hc | hc
           · exact ih t (by simp) c hc
           · exact okc_tail us (fun u hu => ih u (by simp [hu])) c hc
         · simp at hc; unfold okc; omega
   rcases h1 with ⟨rfl, h1⟩ | ⟨rfl, h1⟩ | ⟨rfl, h1⟩ | ⟨rfl, h1⟩ | ⟨rfl, h1⟩
   · have : ts = [] := List.eq_nil_of_length_eq_zero h1
     subst this
     rw [wr_none] at hc; simp [cNone] at hc; unfold okc; omega
   · have : ts = [] := List.eq_nil_of_length_eq_zero h1
     subst this
     rw [wr_all] at hc; simp [cAll] at hc; unfold okc; omega
   · match ts, h1 with
     | [t], _ =>
       rw [jA] at hc
       rcases List.mem_cons.mp hc with rfl | hc
       · unfold okc; omega
       · exact ih t (by simp) c hc
   · exact many (.inl rfl) h1
   · exact many (.inr rfl) h1
def xG (n : Nat) (p : Tm × Tm) : Prop := Fit n p.1 /\ Fit n p.2
theorem say_glue (p : Tm × Tm) : zL p = zZ jUnder [wr p.1, wr p.2] := by rfl
theorem uS {n : Nat} {p : Tm × Tm} (h : xG n p) : ∀ c ∈ zL p, okc c \/ c = 60 := fun c hc => by
 unfold zL at hc
 rcases List.mem_append.mp hc with hc | hc
 · rcases List.mem_append.mp hc with hc | hc
   · exact .inl (wr_okc n _ h.1 c hc)
   · simp [jUnder] at hc; unfold okc; omega
 · exact .inl (wr_okc n _ h.2 c hc)
theorem vM {j : Cs} {c : Nat} : ∀ {ss : List Cs}, c ∈ zZ j ss -> c ∈ j \/ ∃ s ∈ ss, c ∈ s
 | [], h => by simp [zZ] at h
 | [s], h => .inr ⟨s, by simp, h⟩
 | s :: r :: q, h => by
   rw [zZ] at h
   rcases List.mem_append.mp h with h | h
   · rcases List.mem_append.mp h with h | h
     · exact .inr ⟨s, by simp, h⟩
     · exact .inl h
   · rcases vM h with h | ⟨x, hx, h⟩
     · exact .inl h
     · exact .inr ⟨x, by simp [hx], h⟩
theorem uA {n : Nat} {p : Tm × Tm} (h : xG n p) : Txt.split (toS (zL p)) (toS jUnder) = [toS (wr p.1), toS (wr p.2)] := by
 rw [say_glue]
 refine xJ mark_under (by simp) (fun s hs hm => ?_) (by decide)
 have : okc 60 := by
   rcases List.mem_cons.mp hs with rfl | hs
   · exact wr_okc n _ h.1 _ hm
   · rw [List.mem_singleton.mp hs] at hm
     exact wr_okc n _ h.2 _ hm
 unfold okc at this
 omega
theorem jL {n : Nat} {ps : List (Tm × Tm)} {q : Tm × Tm} (hne : ps ≠ []) (h : ∀ p ∈ ps, xG n p) (hq : xG n q) : Txt.split (toS (zX (ps, q))) (toS jArrow) = [toS (zZ jComma (ps.map zL)), toS (zL q)] := by
 have e : zX (ps, q) = zZ jArrow [zZ jComma (ps.map zL), zL q] := by
   unfold zX
   rw [if_neg hne]
   rfl
 rw [e]
 refine xJ mark_arrow (by simp) (fun s hs hm => ?_) (by decide)
 rcases List.mem_cons.mp hs with rfl | hs
 · rcases vM hm with z | ⟨x, hx, z⟩
   · simp [jComma] at z
   · obtain ⟨p, hp, rfl⟩ := List.mem_map.mp hx
     have := uS (h p hp) _ z
     unfold okc at this
     omega
 · rw [List.mem_singleton.mp hs] at hm
   have := uS hq _ hm
   unfold okc at this
   omega
theorem jX {n : Nat} {q : Tm × Tm} (hq : xG n q) : Txt.split (toS (zX ([], q))) (toS jArrow) = [toS (zL q)] := by
 have e : zX ([], q) = zZ jArrow [zL q] := rfl
 rw [e]
 refine xJ mark_arrow (by simp) (fun s hs hm => ?_) (by decide)
 rw [List.mem_singleton.mp hs] at hm
 have := uS hq _ hm
 unfold okc at this
 omega
theorem jY {n : Nat} {ps : List (Tm × Tm)} (hne : ps ≠ []) (h : ∀ p ∈ ps, xG n p) : Txt.split (toS (zZ jComma (ps.map zL))) (toS jComma) = (ps.map zL).map toS := by
 refine xJ mark_comma (by simpa using hne) (fun s hs hm => ?_) (by decide)
 obtain ⟨p, hp, rfl⟩ := List.mem_map.mp hs
 have := uS (h p hp) _ hm
 unfold okc at this
 omega
theorem s_not : ("!" : Str) = toS [33] := by decide +kernel
theorem s_open : ("(" : Str) = toS [40] := by decide +kernel
theorem s_close : (")" : Str) = toS [41] := by decide +kernel
theorem s_and : (" & " : Str) = toS jAnd := by decide +kernel
theorem s_or : (" | " : Str) = toS jOr := by decide +kernel
theorem s_under : (" < " : Str) = toS jUnder := by decide +kernel
theorem s_comma : (", " : Str) = toS jComma := by decide +kernel
theorem s_arrow : (" => " : Str) = toS jArrow := by decide +kernel
theorem s_empty : ("" : Str) = toS [] := by decide +kernel
theorem qP (x : Str) : wrS (.name x) = x := by unfold wrS; rw [wr]; exact yK x
theorem wrS_none : wrS (.node "none" []) = "none" := by decide +kernel
theorem wrS_all : wrS (.node "all" []) = "all" := by decide +kernel
theorem wS (t : Tm) : wrS (.node "not" [t]) = "!" ++ wrS t := by
 unfold wrS
 rw [jA, s_not, zJ]
 rfl
theorem jJ {n : Nat} {t : Tm} (h : Fit n t) : (wrS t).length + 3 <= 13 * wt t := by
 unfold wrS
 rw [zH]
 exact wr_len n t h
theorem jE (j : Cs) : ∀ (ss : List Cs) (s : Cs), zV j (ss ++ [s]) = zV j ss ++ (j ++ s)
 | [], s => by simp [zV]
 | a :: r, s => by rw [List.cons_append, zV, zV, jE j r s]; simp
theorem j_both : jOf "both" = jAnd := by decide +kernel
theorem j_either : jOf "either" = jOr := by decide +kernel
theorem wL (j : Cs) : ∀ (ss : List Cs) (s : Cs), ss ≠ [] -> zZ j (ss ++ [s]) = zZ j ss ++ (j ++ s)
 | [], _, h => absurd rfl h
 | a :: r, s, _ => by rw [List.cons_append, yS, yS, jE]; simp
def prS (ps : List (Tm × Tm)) : Str := toS (zZ jComma (ps.map zL))
def jC (p : Tm × Tm) : Str := toS (zL p)
def jZ (r : List (Tm × Tm) × (Tm × Tm)) : Str := toS (zX r)
theorem sayS_eq (p : Tm × Tm) : jC p = wrS p.1 ++ " < " ++ wrS p.2 := by
 unfold jC zL wrS
 rw [s_under, zJ, zJ]
theorem sayS_len {n : Nat} {p : Tm × Tm} (h1 : Fit n p.1) (h2 : Fit n p.2) : 3 <= (jC p).length /\ (jC p).length <= 13 * wt p.1 + 13 * wt p.2 := by
 have a := jJ h1
 have b := jJ h2
 unfold jC zL
 unfold wrS at a b
 rw [zH] at a b ⊢
 rw [List.length_append, List.length_append]
 have : jUnder.length = 3 := rfl
 omega
theorem ruleS_nil (q : Tm × Tm) : jZ ([], q) = jC q := rfl
theorem ruleS_cons {ps : List (Tm × Tm)} (q : Tm × Tm) (h : ps ≠ []) : jZ (ps, q) = prS ps ++ " => " ++ jC q := by
 unfold jZ prS jC zX
 rw [if_neg h, s_arrow, zJ, zJ]
theorem uV {m : Nat} : ∀ ps : List (Tm × Tm), (∀ p ∈ ps, (jC p).length <= m) -> (prS ps).length <= ps.length * (m + 2)
 | [], _ => by unfold prS; rw [zH]; simp [zZ]
 | [p], h => by
   have := h p (by simp)
   unfold prS
   rw [zH]
   unfold jC at this
   rw [zH] at this
   simp only [List.map_cons, List.map_nil, zZ, List.length_cons, List.length_nil]
   omega
 | p :: q :: r, h => by
   have a := h p (by simp)
   have b := uV (m := m) (q :: r) fun x hx => h x (by simp [hx])
   unfold prS at b ⊢
   unfold jC at a
   rw [zH] at a b ⊢
   rw [List.map_cons, List.map_cons, zZ, List.length_append, List.length_append]
   rw [List.map_cons] at b
   have : jComma.length = 2 := rfl
   rw [List.length_cons, Nat.add_mul]
   omega
end L2
set_option maxHeartbeats 4000000
namespace L2
open PySem PySem.Spec PyProof.Rows
theorem vF {X : Cx} : OpR X (binaryOp .Mult) (fun x y H Q => ∃ (z : Str) (i : Int), x = .str z /\ y = .int i /\ z.length <= 16 /\ 0 <= i /\ i <= 1000 /\ Q (.str (Txt.mul z i)) H) := by
 intro pins s σ H x y v u Q I rx ry h
 obtain ⟨z, i, rfl, rfl, hz, h0, hi, q⟩ := h
 obtain ⟨t, rfl⟩ := rx
 obtain ⟨t', rfl⟩ := ry
 exact SB.mul (mulOk_of 16 1000 hz (by omega) (by omega) (by decide) (by decide)) fun t' k => ⟨.str (Txt.mul z i), H, I.tok _, ⟨_, rfl⟩, q⟩
theorem vY (c : Array Nat) : ∀ (k : Nat) (acc : Array Nat), ((List.replicate k c).foldl (· ++ ·) acc).toList = acc.toList ++ (List.replicate k c.toList).flatten
 | 0, acc => by simp
 | k + 1, acc => by
   rw [List.replicate_succ, List.foldl_cons, vY c k, List.replicate_succ, List.flatten_cons]
   simp
theorem flat_one (c : Nat) : ∀ k, (List.replicate k [c]).flatten = List.replicate k c
 | 0 => rfl
 | k + 1 => by rw [List.replicate_succ, List.flatten_cons, flat_one c k, List.replicate_succ]; rfl
theorem mul_sign (c n : Nat) : Txt.mul (toS [c]) (n : Nat) = toS (List.replicate n c) := by
 have e : ofS (Txt.mul (toS [c]) (n : Nat)) = List.replicate n c := by
   unfold Txt.mul
   by_cases h1 : ((n : Nat) : Int) < 1
   · rw [if_pos h1]
     have : n = 0 := by omega
     subst this
     rfl
   · rw [if_neg h1]
     split
     · rename_i hc
       rw [Bool.or_eq_true, beq_iff_eq, beq_iff_eq] at hc
       rcases hc with h | h
       · have : n = 1 := by omega
         subst this
         rfl
       · cases h
     · show ((List.replicate ((n : Nat) : Int).toNat (toS [c]).cps).foldl (· ++ ·) #[]).toList = _
       rw [vY]
       have : (toS [c]).cps.toList = [c] := rfl
       rw [this, flat_one]
       simp
 rw [← e, yK]
end L2
namespace L2
open PySem PySem.Spec PyProof.Rows PySem.Builtin PySem.Builtin.Str
section
variable {X : Cx}
theorem mt_starts3 : MtR X "str.startswith" (fun x xs H Q => ∃ (z y : Str) (i : Int), x = .str z /\ xs = [.str y, .int i] /\ Q (.bl (Txt.startswith3 z y i)) H) := by
 intro pins s σ H x xs v us Q I rx rs h
 obtain ⟨z, y, i, rfl, rfl, q⟩ := h
 obtain ⟨tz, rfl⟩ := rx
 obtain ⟨u, w', rfl, ru, rw'⟩ := vals2 rs
 obtain ⟨tu, rfl⟩ := ru
 obtain ⟨ti, rfl⟩ := rw'
 exact SC.startswith3 ⟨.bl _, H, I, rfl, q⟩
theorem vals_strs : ∀ l : List (Str × Tok), Vals ((l.map (·.1)).map V.str) (strValues l)
 | [] => .nil
 | (x, t) :: r => .cons ⟨t, rfl⟩ (vals_strs r)
theorem mt_split : MtR X "str.split" (fun x xs H Q => ∃ z y : Str, x = .str z /\ xs = [.str y] /\ (y.length == 0) = false /\ z.length + 2 <= sizeLine /\ ∀ p, H p = none -> Q (.ref p) (upd H p (.lst ((Txt.split z y).map V.str)))) := by
 intro pins s σ H x xs v us Q I rx rs h
 obtain ⟨z, y, rfl, rfl, hy, hsz, q⟩ := h
 obtain ⟨tz, rfl⟩ := rx
 obtain ⟨u, rfl, ru⟩ := vW rs
 obtain ⟨tu, rfl⟩ := ru
 have hn : (partsBetween z (occurrences z y 0 z.length (z.length + 1)) y.length).length <= sizeLine := by
   have e1 := StrLaws.occ_length_le z y 0 z.length (z.length + 1)
   rw [length_partsBetween]; omega
 have go : ∀ (l : List (Str × Tok)) (tk : Nat), l.map (·.1) = Txt.split z y -> l.length <= sizeLine -> EP X pins σ Q (.ref s.heap.objs.size) { s with heap := s.heap.push { cls := .type "list", data := .seq (strValues l).toArray }, toks := tk } := fun l tk hl hz => by
   have I2 := I.lnew (t' := tk) (ys := (l.map (·.1)).map V.str) (vals_strs l) (by rw [List.length_map, List.length_map]; exact hz)
   refine ⟨.ref s.heap.objs.size, _, I2, rfl, ?_⟩
   rw [hl]
   exact q _ I.fresh
 cases h1 : (decide (z.length < y.length) || decide (Builtin.Str.strKind z < Builtin.Str.strKind y))
 · cases hf : (occurrences z y 0 z.length (z.length + 1)).isEmpty
   · refine call_meets F.slot_str_split (typeIs_str _ _ _) F.entry_str_split (F.args_str_split_2 _ _) (meets_str_split_sep z y tz tu h1 hy hf (by omega) hn) ?_
     show wants _ _ _ { s with toks := _, heap := s.heap.push { cls := .type "list", data := .seq (strsFrom s.toks (partsBetween z (occurrences z y 0 z.length (z.length + 1)) y.length)).toArray } }
     rw [strsFrom_eq]
     refine go (numbered s.toks _) _ ((numbered_texts _ _).trans ((if_neg (ne_true_of_eq_false h1)).trans (if_neg (ne_true_of_eq_false hf))).symm) ?_
     have := congrArg List.length (numbered_texts s.toks (partsBetween z (occurrences z y 0 z.length (z.length + 1)) y.length))
     rw [List.length_map] at this
     omega
   · exact call_meets F.slot_str_split (typeIs_str _ _ _) F.entry_str_split (F.args_str_split_2 _ _) (meets_str_split_not_found z y tz tu h1 hy hf)
       (go [(z, tz)] s.toks ((if_neg (ne_true_of_eq_false h1)).trans (if_pos hf)).symm (by show 1 <= sizeLine; decide))
 · exact call_meets F.slot_str_split (typeIs_str _ _ _) F.entry_str_split (F.args_str_split_2 _ _) (meets_str_split_cannot_occur z y tz tu h1)
     (go [(z, tz)] s.toks (if_pos h1).symm (by show 1 <= sizeLine; decide))
end
theorem sw_eq (x y : Cs) (k : Nat) (hk : k <= x.length) : Txt.startswith3 (toS x) (toS y) (k : Int) = y.isPrefixOf (x.drop k) := by
 unfold Txt.startswith3
 have e : fromIndex (toS x).length (k : Int) = k := by
   rw [zH]
   unfold fromIndex
   rw [if_neg (by omega)]
   omega
 rw [e, StrLaws.subAt_eq, zH, zH]
 have e1 : (toS x).cps.toList = x := by simp [toS]
 have e2 : (toS y).cps.toList = y := by simp [toS]
 rw [e1, e2, Bool.eq_iff_iff, Bool.and_eq_true, List.isPrefixOf_iff_prefix, decide_eq_true_eq, beq_iff_eq]
 constructor
 · rintro ⟨h1, h2⟩
   rw [← h2]
   exact List.take_prefix _ _
 · rintro ⟨r, h⟩
   have hl := congrArg List.length h
   rw [List.length_append, List.length_drop] at hl
   refine ⟨by omega, ?_⟩
   rw [← h, List.take_left]
structure HasM (P : Program) (w : World) (K : PySem.W.Frag) (mg : Str -> Option Value) (base : Heap) (k : Nat) (C : Addr) (m : Str) (ps : List Str) (sp : Sp) : Prop where
 ex : ∃ f fd, FnOk P w K mg base CX0 k f fd ps sp /\ Binds K fd ps [] /\ Meth K C m f
structure HasI (P : Program) (w : World) (K : PySem.W.Frag) (mg : Str -> Option Value) (base : Heap) (k : Nat) (C : Addr) (x : Str) (ps : List Str) (sp : Sp) : Prop where
 ex : ∃ f fd, FnOk P w K mg base CX0 k f fd ps sp /\ Binds K fd ps [] /\ Mk K C f /\ mg x = some (.ref C)
section
variable {X : Cx} {k : Nat} {C : Addr} {x m : Str} {ps : List Str} {sp : Sp} {p pos apos : Pos} {e o : Expr} {es : List Expr} {ta : TE} {t : TA}
theorem jH {pl : Sem Bool} (h : HasM X.prog X.w X.K X.mg X.base k C m ps sp) (c : Cls X.K C) (hr : Room k X.A) (he : PE X o ta) (ha : PA X (e :: es) t)
   (hst : starEach (e :: es) X.env = (false, eval e X.env) :: starEach es X.env := by rfl) (hpl : (backTo pos (starEach es X.env)).any (·.1) = false := by rfl)
   (ht : eval (.Call (.Attribute o m apos) (e :: es) [] pos) X.env = (do
     let ov ← eval o X.env
     standAt apos.atName
     let (f, first) ← holding [ov] (getMethod ov m pl)
     callWith pos f first (backTo pos (starEach (e :: es) X.env)) (backToKw pos (keywordEach [] X.env))) := by rfl) :
   PE X (.Call (.Attribute o m apos) (e :: es) [] pos) (jT C m sp [] E0 ta t) := by
 obtain ⟨f, fd, F, b, mm⟩ := h.ex
 exact pe_meth (pl := pl) he c mm F hr b .nil pass0 ha hst hpl ht
theorem pe_makeH (h : HasI X.prog X.w X.K X.mg X.base k C x ps sp) (hr : Room (k + 1) X.A) (hg : Gl X x) (ha : PA X (e :: es) t) (hdb : (x == ("__debug__" : Str)) = false := by decide)
   (he : starEach (e :: es) X.env = (false, eval e X.env) :: starEach es X.env := by rfl) (hpl : (backTo pos (starEach es X.env)).any (·.1) = false := by rfl) :
   PE X (.Call (.Name x p) (e :: es) [] pos) (tMake C sp [] E0 t) := by
 obtain ⟨f, fd, F, b, M, m⟩ := h.ex
 exact pe_make M F hr hg m b .nil pass0 ha hdb he hpl
end
def rdF (x : Cs) (k : Nat) : List (Str × V) := [("text", .str (toS x)), ("at", .int k)]
def RdAt (C : Addr) (H : Hp) (r : Addr) (x : Cs) (k : Nat) : Prop := ∃ dx, H r = some (.ins C dx (rdF x k))
theorem qT (x : Cs) (k : Nat) : (rdF x k).lookup ("text" : Str) = some (.str (toS x)) := by
 unfold rdF
 rw [List.lookup_cons]
 rw [show (("text" : Str) == "text") = true by decide +kernel]
theorem qU (x : Cs) (k : Nat) : (rdF x k).lookup ("at" : Str) = some (.int k) := by
 unfold rdF
 rw [List.lookup_cons, show (("at" : Str) == "text") = false by decide +kernel, List.lookup_cons, show (("at" : Str) == "at") = true by decide +kernel]
theorem rd_no (x : Cs) (k : Nat) {m : Str} (h1 : (m == ("text" : Str)) = false) (h2 : (m == ("at" : Str)) = false) : (rdF x k).lookup m = none := by
 unfold rdF
 rw [List.lookup_cons, h1, List.lookup_cons, h2]
 rfl
theorem rd_put (x : Cs) (k j : Nat) : jF "at" (.int j) (rdF x k) = rdF x j := by
 show (if ("text" : Str) = "at" then _ else (("text" : Str), V.str (toS x)) :: (if ("at" : Str) = "at" then [(("at" : Str), V.int j)] else _)) = _
 rw [if_neg (by decide +kernel), if_pos rfl]
 rfl
def SameX (r : Addr) (H H' : Hp) : Prop := ∀ b o, H b = some o -> b ≠ r -> H' b = some o
theorem SameX.refl (r : Addr) (H : Hp) : SameX r H H := fun _ _ h _ => h
theorem SameX.trans {r : Addr} {H H1 H2 : Hp} (a : SameX r H H1) (b : SameX r H1 H2) : SameX r H H2 := fun c o h n => b c o (a c o h n) n
theorem Same.x {r : Addr} {H H' : Hp} (a : Same H H') : SameX r H H' := fun c o h _ => a c o h
theorem SameX.upd {r : Addr} {H H1 : Hp} {o : HO} (a : SameX r H H1) : SameX r H (L2.upd H1 r o) := fun c o' h n => by
 rw [yA n]
 exact a c o' h n
theorem SameX.tups {r : Addr} {H H' : Hp} {C : Addr} {x : Cs} {k : Nat} (a : SameX r H H') (h : RdAt C H r x k) : TupSame H H' := fun b xs e => by
 obtain ⟨dx, h⟩ := h
 exact a b _ e (ne_of e h (by intro z; cases z))
theorem RdAt.same {C : Addr} {H H' : Hp} {r : Addr} {x : Cs} {k : Nat} (h : RdAt C H r x k) (e : Same H H') : RdAt C H' r x k := by
 obtain ⟨dx, h⟩ := h
 exact ⟨dx, e _ _ h⟩
theorem rd_new (x : Cs) : jF "at" (.int 0) (jF "text" (.str (toS x)) []) = rdF x 0 := by
 show (if ("text" : Str) = "at" then _ else (("text" : Str), V.str (toS x)) :: [(("at" : Str), V.int 0)]) = _
 rw [if_neg (by decide +kernel)]
 rfl
theorem uD (x : Cs) {a b : Nat} (hab : a <= b) (hb : b <= x.length) : Txt.slice (toS x) (some (a : Int)) (some (b : Int)) = toS ((x.drop a).take (b - a)) := by
 have hl : (toS x).length = x.length := zH x
 have e1 : (toS x).cps.toList = x := by simp [toS]
 have pk := StrLaws.strSliceIndices_plain (len := (toS x).length) hab (by omega)
 unfold Txt.slice
 split
 · rename_i h
   rw [pk] at h
   simp at h
   have : a = 0 /\ b = x.length := by omega
   obtain ⟨rfl, rfl⟩ := this
   simp
 · apply Str.ext'
   apply Array.toList_inj.mp
   have := StrLaws.sliced_plain (toS x) hab (by omega)
   rw [this, e1]
   simp [toS]
theorem tw_in {p : Nat -> Bool} : ∀ {s : Cs} {j : Nat}, j < (s.takeWhile p).length -> ∃ c, s[j]? = some c /\ p c = true
 | [], j, h => by simp at h
 | c :: s, j, h => by
   rw [List.takeWhile_cons] at h
   split at h
   · rename_i hc
     cases j with
     | zero => exact ⟨c, rfl, hc⟩
     | succ j =>
       obtain ⟨d, h1, h2⟩ := tw_in (s := s) (j := j) (by simpa using h)
       exact ⟨d, by simpa using h1, h2⟩
   · simp at h
theorem tw_out {p : Nat -> Bool} : ∀ {s : Cs}, (s.takeWhile p).length < s.length -> ∃ c, s[(s.takeWhile p).length]? = some c /\ p c = false
 | [], h => by simp at h
 | c :: s, h => by
   rw [List.takeWhile_cons] at h ⊢
   split at h
   · rename_i hc
     obtain ⟨d, h1, h2⟩ := tw_out (s := s) (by simpa using h)
     rw [if_pos hc]
     exact ⟨d, by simpa using h1, h2⟩
   · rename_i hc
     rw [if_neg hc]
     exact ⟨c, rfl, by simpa using hc⟩
theorem tw_le {p : Nat -> Bool} (s : Cs) : (s.takeWhile p).length <= s.length := by
 have := congrArg List.length (List.takeWhile_append_dropWhile (p := p) (l := s))
 rw [List.length_append] at this
 omega
theorem tw_take {p : Nat -> Bool} (s : Cs) : s.take (s.takeWhile p).length = s.takeWhile p := by
 have e := List.takeWhile_append_dropWhile (p := p) (l := s)
 generalize s.takeWhile p = a at e
 generalize s.dropWhile p = b at e
 rw [← e, List.take_left]
theorem dw_len {p : Nat -> Bool} (s : Cs) : (s.dropWhile p).length = s.length - (s.takeWhile p).length := by
 have := congrArg List.length (List.takeWhile_append_dropWhile (p := p) (l := s))
 rw [List.length_append] at this
 omega
theorem SameX.new {r p : Addr} {H H1 : Hp} {o : HO} (a : SameX r H H1) (h : H p = none) : SameX r H (L2.upd H1 p o) := fun c o' hc n => by
 rw [yA (yP hc h)]
 exact a c o' hc n
section
variable {prog : Program} {w : World} {A : Around} {E : Value -> Shared -> Prop} {s : Shared} {a : Addr} {its : Array Value} {n : Nat} {sl : Array (Option Value)}
end
section
variable {prog : Program} {w : World} {A : Around} {E : Value -> Shared -> Prop} {h : Heap} {g : Array GenState} {d : Drawn} {t : Nat} {os : OsState} {a : Addr} {its : Array Value} {n : Nat} {sl : Array (Option Value)}
end
section
variable {prog : Program} {w : World} {Kt : Type} [DecidableEq Kt] {knd : KeyKind prog w Kt} {A : Around} {E : Value -> Shared -> Prop} {s : Shared}
end
section
variable {X : Cx}
end
end L2
namespace L2
open PySem PySem.Spec PyProof.Rows PySem.W
section
variable {prog : Program} {w : World} {A : Around} {E : Value -> Shared -> Prop} {s : Shared} {T : String} {r d : Addr} {n : Nat} {P : Nat -> Value -> Prop} {OK : Heap -> Prop}
end
section
variable {X : Cx}
end
section
variable {X : Cx}
end
end L2
namespace L2
open PySem PyProof.Rows
section
variable {prog : Program} {w : World} {A : Around} {E : Value -> Shared -> Prop} {s : Shared}
end
end L2
namespace L2
open PySem PyProof.Rows
section
variable {prog : Program} {w : World} {A : Around} {E : Value -> Shared -> Prop} {s : Shared}
end
end L2
namespace L2
open PySem PyProof.Rows
section
variable {prog : Program} {w : World} {A : Around} {E : Value -> Shared -> Prop} {s : Shared}
end
end L2
namespace L2
open PySem PyProof.Rows
section
variable {prog : Program} {w : World} {A : Around} {R : Result -> Shared -> Prop} {I : Addr} {fp wr : List Addr} {G : Array GenState -> Array GenState -> Prop} {n : Nat} {P : Nat -> Value -> Prop} {St : Nat -> Shared -> Prop}
end
section
variable {prog : Program} {w : World} {A : Around} {E : Value -> Shared -> Prop} {s : Shared}
end
end L2
namespace L2
open PySem PyProof.Rows
section
variable {prog : Program} {w : World} {A : Around} {E : Value -> Shared -> Prop} {s : Shared}
end
end L2
namespace L2
open PySem PySem.Spec PyProof.Rows PySem.SeqAt
section
variable {P : Program} {w : World} {H : Hp} {s : Shared}
end
section
variable {X : Cx}
end
end L2
namespace L2
open PySem PySem.Spec PyProof.Rows PySem.SeqAt
section
variable {X : Cx}
end
theorem cx_P {CX : CXT} {P : Program} {w : World} {K : PySem.W.Frag} {mg : Str -> Option Value} {base : Heap} {N : List Str} {qual : Str} {scope : Scope} {f : Addr} {cd : Value} {A : Around} {outer : List Env} {s : Shared} {H : Hp} {E : XK} : (yQ CX P w K mg base N qual scope f cd A outer s H E).prog = P := rfl
end L2
local macro_rules | `(tactic| simp! [$ts,*]) => `(tactic| simp only [L2.tSeq, L2.tFor_eq, L2.tLC_eq, L2.iRng1, L2.iRng2, L2.iList, L2.iTup, L2.iStr, L2.tIfS, L2.tRet, L2.tRetN, L2.tNext, L2.tAsg, L2.gName, L2.tVar, L2.tC, L2.tOp, L2.rI0, L2.rI, L2.tTest, L2.tB, L2.rEq, L2.rNe, L2.tCall, L2.tCons, L2.tNil, L2.tCB, L2.tLst, L2.tTup, L2.tAnd, L2.tOr, L2.tNot, L2.tAndV, L2.tOrV, L2.tNotV, L2.tIf, L2.tDrop, L2.tSl, L2.tPart, L2.tNoPart, L2.tChain, L2.tUn, L2.rU, L2.start, L2.cx_K, L2.bk_K, L2.cx_calm, L2.bk_calm, L2.lenV_str, and_assoc, Option.join, List.length_map, List.length_append, decide_eq_true_eq, Bool.false_eq_true, if_false, if_true, Bool.not_true, Bool.not_false, Bool.not_eq_true', decide_eq_false_iff_not, Bool.true_eq_false, List.length_cons, List.length_nil, List.map_cons, List.map_nil, List.replicate, List.cons_append, List.nil_append, List.append_nil, List.getElem?_cons_zero, List.getElem?_cons_succ, List.set_cons_zero, List.set_cons_succ, Nat.reduceSub, Nat.reduceAdd, Option.some.injEq, L2.V.int.injEq, L2.V.str.injEq, L2.V.bl.injEq, L2.V.ref.injEq, List.cons.injEq, and_true, true_and, exists_eq_left', exists_eq_left, exists_and_left, exists_eq_right, exists_const, L2.tBM, L2.tBM0, L2.rAppend, L2.rPop, L2.rIxL, L2.rIxT, L2.rIxS, L2.rSlL, L2.rSlT, L2.rSlS, L2.rCat, L2.rCatT, L2.tKGet, L2.cx_w, L2.bk_w, L2.tDGet, L2.tDisp, L2.tPairs, L2.tDNewK, L2.cx_P, $ts,*])
namespace L2
open PySem PySem.Spec PyProof.Rows PySem.SeqAt
section
variable {P : Program} {w : World} {H : Hp} {s : Shared}
end
section
variable {X : Cx}
end
end L2
namespace L2
open PySem PySem.Spec PyProof.Rows PySem.SeqAt
section
variable {prog : Program} {w : World} {A : Around} {E : Value -> Shared -> Prop} {s : Shared}
structure Apt (z TI TO i1 i2 l1 l2 : Addr) : Prop where
 nd : [z, TI, TO, i1, i2].Nodup
 a1 : l1 ≠ z /\ l1 ≠ TO /\ l1 ≠ i1 /\ l1 ≠ i2
 a2 : l2 ≠ z /\ l2 ≠ TO /\ l2 ≠ i1 /\ l2 ≠ i2
end
section
variable {X : Cx} {pins : List (Addr × Obj)} {σ : St} {H : Hp} {s : Shared} {h' : Heap}
end
section
variable {X : Cx}
end
end L2
namespace L2
open PySem PySem.Spec PyProof.Rows PySem.SeqAt
end L2
namespace L2
open PySem
end L2
namespace L2
open PySem PyProof.Rows
section
variable {prog : Program} {w : World} {A : Around} {E : Value -> Shared -> Prop} {s : Shared}
end
section
variable {prog : Program} {w : World} {A : Around} {R : Result -> Shared -> Prop} {I : Addr} {fp wr : List Addr} {G : Array GenState -> Array GenState -> Prop} {n : Nat} {P : Nat -> Value -> Prop} {St : Nat -> Shared -> Prop}
end
section
variable {prog : Program} {w : World} {A : Around} {E : Value -> Shared -> Prop} {s : Shared}
end
end L2
namespace L2
open PySem PySem.Spec PyProof.Rows PySem.SeqAt PySem.W
section
variable {prog : Program} {w : World} {A : Around} {E : Value -> Shared -> Prop} {s : Shared} {T : String} {r d : Addr} {n : Nat} {P : Nat -> Value -> Prop} {OK : Heap -> Prop}
end
section
variable {X : Cx}
end
end L2
namespace L2
open PySem PySem.Spec PyProof.Rows PySem.W
section
variable {prog : Program} {w : World} {A : Around} {E : Value -> Shared -> Prop} {s : Shared}
end
theorem KT.at {H : Hp} : ∀ {kvs : List (List Key × V)} {xs : List (List Key × Addr × Value)}, KT H kvs xs -> ∀ {i : Nat} {p : List Key × V} {q : List Key × Addr × Value}, kvs[i]? = some p -> xs[i]? = some q -> RelV p.2 q.2.2
 | _, _, .nil, i, p, q, h, _ => by simp at h
 | _, _, .cons hq t, 0, p, q, h1, h2 => by
   simp only [List.getElem?_cons_zero, Option.some.injEq] at h1 h2
   subst h1 h2
   exact hq.2.2
 | _, _, .cons hq t, i + 1, p, q, h1, h2 => KT.at t (by simpa using h1) (by simpa using h2)
section
variable {X : Cx}
end
end L2
namespace L2
open PySem PySem.Spec PyProof.Rows PySem.W
section
variable {prog : Program} {w : World} {A : Around} {E : Value -> Shared -> Prop} {s : Shared}
end
section
variable {prog : Program} {w : World} {A : Around} {E : Value -> Shared -> Prop} {s : Shared}
end
section
variable {prog : Program} {w : World} {A : Around} {E : Value -> Shared -> Prop} {s : Shared} {T : String} {J : Addr} {fp wr : List Addr} {n : Nat} {P : Nat -> Value -> Prop} {St : Nat -> Heap -> Prop}
structure ItSrc (prog : Program) (w : World) (T : String) (J : Addr) (fp wr : List Addr) (n : Nat) (P : Nat -> Value -> Prop) (St : Nat -> Heap -> Prop) : Prop where
 walks : ∀ A : Around, A.handled = none -> Walks prog w A J fp wr n P St
 type : ∀ s : Shared, St 0 s.heap -> s.TypeIs (.ref J) T
 nl : (Value.type T == Value.type "list") = false
 nt : (Value.type T == Value.type "tuple") = false
 hint : ∀ (A : Around) (E : Value -> Shared -> Prop) (s : Shared) (Q : Bool -> Shared -> Prop), St 0 s.heap -> Q false s -> wpAny (model prog w) A (Builtin.List.listLengthHint (.ref J)) Q E s
 mem : J ∈ fp
 sub : wr ⊆ fp
end
section
variable {X : Cx}
theorem call_intB : qL X (.type "int") (fun xs H Q => ∃ b, xs = [.bl b] /\ Q (.int (if b then 1 else 0)) H) := by
 intro pins s σ H xs us Q I r h
 obtain ⟨b, rfl, q⟩ := h
 obtain ⟨u, rfl, ru⟩ := vW r
 have e : u = Value.bool b := ru
 subst e
 exact call_int_bool ⟨.int _, H, I.tok _, ⟨_, rfl⟩, q⟩
end
theorem ObjOk.there {P : Program} {w : World} {H : Hp} {h : Heap} {a : Addr} {o : HO} (x : ObjOk P w H h a o) : ∃ ob, h.get? a = some ob := by
 cases o with
 | lst xs => obtain ⟨_, _, _, _, e⟩ := x; exact ⟨_, e⟩
 | tup xs => obtain ⟨_, _, _, ob, e, _⟩ := x; exact ⟨_, e⟩
 | dK kvs => obtain ⟨_, _, _, _, o, _, _, e, _⟩ := x; exact ⟨_, e⟩
 | dT kvs => obtain ⟨_, _, _, _, o, _, _, e, _⟩ := x; exact ⟨_, e⟩
 | set S n => obtain ⟨o, _, _, _, e, _⟩ := x; exact ⟨_, e⟩
 | ins C dx fs => obtain ⟨_, _, _, e, _⟩ := x; exact ⟨_, e⟩
 | own y => exact x
 | xd fs => obtain ⟨_, ⟨_, _, _, e, _⟩, _⟩ := x; exact ⟨_, e⟩
 | rng lo hi => obtain ⟨_, _, _, e⟩ := x; exact ⟨_, e⟩
 | frz ob u => obtain ⟨e, _⟩ := x; exact ⟨_, e⟩
 | tbl ps => exact ⟨_, show h.get? a = some _ from x⟩
 | met f y => exact ⟨_, show h.get? a = some _ from x⟩
 | ext φ => obtain ⟨_, e, _⟩ := x; exact e
structure Fl (P : Program) (w : World) (l : List Env) (H : Hp) (h : Heap) (e C : Addr) (a0 : Value) (B : Heap) (H' : Hp) (h' : Heap) : Prop where
 fly : Heap.FlyingW B l e (.ref C) a0 h'
 stay : ∀ b o, h.get? b = some o -> b ∉ frs l -> ∃ o', B.get? b = some o' /\ (H b = none -> o' = o)
 slot : ∀ b o, h.get? b = some o -> H b = none -> b ∈ frs l -> ∃ sl, h'.get? b = some { o with slots := sl }
 free : ∀ b o, h.get? b = some o -> H b = none -> H' b = none
 hok : HOk P w H' B
 ef : H' e = none
 tups : ∀ b xs, H b = some (.tup xs) -> H' b = some (.tup xs)
 frzs : ∀ b o u, H b = some (.frz o u) -> H' b = some (.frz o u)
 tbls : ∀ b ps, H b = some (.tbl ps) -> ∃ more, H' b = some (.tbl (ps ++ more))
section
variable {P : Program} {w : World} {l outer : List Env} {H H' : Hp} {h h' h'' B : Heap} {e C : Addr} {a0 : Value}
theorem Fl.un (x : Fl P w l H h e C a0 B H' h') : Un (frs l) [] H H' h h' where
 keep := fun b o q n hb _ => by
   obtain ⟨o', hB, ho⟩ := x.stay b o q hb
   rw [ho n] at hB
   exact x.fly.1 b o hB
 slot := fun b o q n hb _ => x.slot b o q n hb
 free := fun b o q n _ => x.free b o q n
 there := fun b o q _ => by
   by_cases hb : b ∈ frs l
   · obtain ⟨_, o', ho, _⟩ := x.fly.2.2.1.mem hb
     exact ⟨o', ho⟩
   · obtain ⟨o', hB, _⟩ := x.stay b o q hb
     exact ⟨o', x.fly.1 b o' hB⟩
 tups := x.tups
 frzs := x.frzs
 tbls := x.tbls
theorem Fl.okH (x : Fl P w l H h e C a0 B H' h') : HOk P w H' h' := x.hok.kept x.fly.1
theorem Fl.step (x : Fl P w l H h e C a0 B H' h') (f : Heap.FlyingW B l e (.ref C) a0 h'') (u : h'.UpToSlots h'') : Fl P w l H h e C a0 B H' h'' :=
 ⟨f, x.stay, fun b o q n hb => by
   obtain ⟨sl, h1⟩ := x.slot b o q n hb
   obtain ⟨_, o2, h2, hd⟩ := x.fly.2.2.1.mem hb
   rw [h1] at h2
   cases h2
   obtain ⟨sl2, h4⟩ := u b _ h1 hd
   exact ⟨sl2, h4⟩, x.free, x.hok, x.ef, x.tups, x.frzs, x.tbls⟩
end
def CX1 (P : Program) (w : World) : CXT := fun outer H s E e s' => ∃ (ea C : Addr) (a0 : Value) (B : Heap) (H' : Hp), e = .ref ea /\ s'.os = s.os /\ AllBare s'.gens /\ Fl P w outer H s.heap ea C a0 B H' s'.heap /\ E (.ref C) none H'
structure Body (X : Cx) : Prop where
 stk : X.stack = X.env :: X.outer
 ex : X.ex = []
 fr : X.env.frame = some X.env.locals
 new : X.s₀.heap.get? X.env.locals = none
section
variable {X : Cx} {pins : List (Addr × Obj)} {σ : St} {H Hc H' : Hp} {s sc s' : Shared} {B h'' : Heap} {e C : Addr} {a0 : Value}
theorem Body.frs (b : Body X) : frs X.stack = X.env.locals :: L2.frs X.outer := by
 rw [b.stk]
 show (X.env :: X.outer).filterMap (·.frame) = _
 rw [List.filterMap_cons, b.fr]
 rfl
theorem Fl.up (b : Body X) (I : Inv X pins σ Hc sc) (x : Fl X.prog X.w X.stack Hc sc.heap e C a0 B H' s'.heap) (f : Heap.FlyingW B X.outer e (.ref C) a0 h'') (u : s'.heap.UpToSlots h'') :
   Fl X.prog X.w X.outer X.H₀ X.s₀.heap e C a0 B H' h'' := by
 have nex : ∀ c : Addr, c ∉ X.ex := fun c z => by rw [b.ex] at z; cases z
 have nL : ∀ c o, X.s₀.heap.get? c = some o -> c ≠ X.env.locals := fun c o hc z => by rw [z, b.new] at hc; cases hc
 refine ⟨f, fun c o hc hn => ?_, fun c o hc hH hn => ?_, fun c o hc hH => ?_, x.hok, x.ef, fun c xs q => x.tups _ _ (I.base.tups _ _ q), fun c o v q => x.frzs _ _ _ (I.base.frzs _ _ _ q), fun c ps q => ?_⟩
 · obtain ⟨o1, h1⟩ := I.base.there c o hc (nex c)
   obtain ⟨o', hB, ho⟩ := x.stay c o1 h1 (by rw [b.frs]; exact fun z => (List.mem_cons.mp z).elim (nL c o hc) hn)
   refine ⟨o', hB, fun hH => ?_⟩
   have h2 := I.base.keep c o hc hH hn (nex c)
   rw [h1] at h2
   cases h2
   exact ho (I.base.free c o hc hH (nex c))
 · obtain ⟨sl, h1⟩ := I.base.slot c o hc hH hn (nex c)
   have hm : c ∈ L2.frs X.stack := by rw [b.frs]; exact List.mem_cons_of_mem _ hn
   obtain ⟨sl2, h2⟩ := x.slot c _ h1 (I.base.free c o hc hH (nex c)) hm
   obtain ⟨_, o2, h3, hd⟩ := x.fly.2.2.1.mem hm
   rw [h2] at h3
   cases h3
   obtain ⟨sl3, h4⟩ := u c _ h2 hd
   exact ⟨sl3, h4⟩
 · obtain ⟨o1, h1⟩ := I.base.there c o hc (nex c)
   exact x.free c o1 h1 (I.base.free c o hc hH (nex c))
 · obtain ⟨m1, e1⟩ := I.base.tbls _ _ q
   obtain ⟨m2, e2⟩ := x.tbls _ _ e1
   exact ⟨m1 ++ m2, by rw [e2, Array.append_assoc]⟩
theorem Fl.made (b : Body X) (I : Inv X pins σ H s) {vs : List Value} {t : Addr} (hx : Heap.MadeExcOf s.heap s'.heap e (.ref C) vs)
   (f : Heap.FlyingW (PySem.W.hideAll s.heap (L2.frs X.stack)) X.outer e (.ref C) (.ref t) h'') (u : s'.heap.UpToSlots h'') :
   Fl X.prog X.w X.outer X.H₀ X.s₀.heap e C (.ref t) (PySem.W.hideAll s.heap (L2.frs X.stack)) H h'' := by
 have nex : ∀ c : Addr, c ∉ X.ex := fun c z => by rw [b.ex] at z; cases z
 have nL : ∀ c o, X.s₀.heap.get? c = some o -> c ≠ X.env.locals := fun c o hc z => by rw [z, b.new] at hc; cases hc
 have ok : HOk X.prog X.w H (PySem.W.hideAll s.heap (L2.frs X.stack)) := fun a o ha => by
   refine (I.hok a o ha).stay (fun c v hc q => PySem.W.hideAll_get _ q fun z => ?_) (fun _ q => q) (fun _ _ q => q)
   have hz := I.stkFree c z
   rcases hc with rfl | hc
   · rw [ha] at hz; cases hz
   · rw [hc] at hz; cases hz
 refine ⟨f, fun c o hc hn => ?_, fun c o hc hH hn => ?_, fun c o hc hH => I.base.free c o hc hH (nex c), ok, ?_, I.base.tups, I.base.frzs, I.base.tbls⟩
 · obtain ⟨o1, h1⟩ := I.base.there c o hc (nex c)
   refine ⟨o1, PySem.W.hideAll_get _ h1 (by rw [b.frs]; exact fun z => (List.mem_cons.mp z).elim (nL c o hc) hn), fun hH => ?_⟩
   have h2 := I.base.keep c o hc hH hn (nex c)
   rw [h1] at h2
   cases h2
   rfl
 · obtain ⟨sl, h1⟩ := I.base.slot c o hc hH hn (nex c)
   have hm : c ∈ L2.frs X.stack := by rw [b.frs]; exact List.mem_cons_of_mem _ hn
   obtain ⟨_, o2, h3, hd⟩ := I.stack.mem hm
   rw [h1] at h3
   cases h3
   obtain ⟨sl3, h4⟩ := u c _ (hx.keeps c _ h1) hd
   exact ⟨sl3, h4⟩
 · cases q : H e with
   | none => rfl
   | some o =>
     obtain ⟨o', ho⟩ := (I.hok e o q).there
     rw [hx.new] at ho
     cases ho
end
section
variable {P : Program} {w : World} {K : PySem.W.Frag} {mg : Str -> Option Value} {base : Heap} {N : List Str} {qual : Str} {scope : Scope} {f : Addr} {cd : Value} {A : Around} {outer : List Env} {s₀ : Shared} {H₀ : Hp} {E : XK}
theorem kK {CX : CXT} : Body (yQ CX P w K mg base N qual scope f cd A outer s₀ H₀ E) := ⟨rfl, rfl, rfl, Heap.get?_none_of_le (Nat.le_refl _)⟩
def tRaise (C : Addr) (E : XK) (t : TA) : TS := fun _ σ H => t σ H fun vs H1 => vs.length <= sizeLine /\ E (.ref C) none H1
theorem ps_raise {x : Str} {C : Addr} {bm : List Value} {B newId initId : String} {e₀ : Expr} {rest : List Expr} {t : TA} {np cpos pos : Pos}
   (O : OwnCls x C bm newId mg base) (FB : ExcBaseFacts B newId initId bm) (hg : Gl (yQ (CX1 P w) P w K mg base N qual scope f cd A outer s₀ H₀ E) x) (hm : mg x = some (.ref C))
   (ha : PA (yQ (CX1 P w) P w K mg base N qual scope f cd A outer s₀ H₀ E) (e₀ :: rest) t)
   (he : starEach (e₀ :: rest) (envOfC qual scope s₀.heap.objs.size f cd) = (false, eval e₀ (envOfC qual scope s₀.heap.objs.size f cd)) :: starEach rest (envOfC qual scope s₀.heap.objs.size f cd) := by rfl)
   (hpl : (backTo cpos (starEach rest (envOfC qual scope s₀.heap.objs.size f cd))).any (·.1) = false := by rfl) (hd : (x == ("__debug__" : Str)) = false := by decide) :
   PS (yQ (CX1 P w) P w K mg base N qual scope f cd A outer s₀ H₀ E) (.Raise (some (.Call (.Name x np) (e₀ :: rest) [] cpos)) none pos) (tRaise C E t) := by
 intro pins s σ H D I h
 obtain ⟨tl, N', nm, q, bs, hdct, sn, sub, ab, col, dd, k0, k1, k2, k3, k5, mN, hC, hN, hni, T⟩ := O.obj
 refine wpAny_Raise_call_subT (C := C) (nm := nm) (q := q) (N := N') (bs := bs) (bm := tl) (hdct := hdct) (sn := sn) (sub := sub) (ab := ab) (col := col) (dd := dd) (k0 := k0) (k1 := k1) (k2 := k2)
   (k3 := k3) (k5 := k5) FB (mN := mN) (T.hasType FB.hasBase) (I.ok.hd rfl) ?_ hni (qH I hg hm ⟨rfl, ?_⟩ hd)
 · show (backTo cpos (starEach (e₀ :: rest) (envOfC qual scope s₀.heap.objs.size f cd))).any (·.1) = false
   rw [he]
   show (false || (backTo cpos (starEach rest (envOfC qual scope s₀.heap.objs.size f cd))).any (·.1)) = false
   rw [hpl]
   rfl
 have hA : wpAny (model P w) (A.deeper (envOfC qual scope s₀.heap.objs.size f cd)) (spliced (backTo cpos (starEach (e₀ :: rest) (envOfC qual scope s₀.heap.objs.size f cd)))) _ _ s := ha cpos pins s σ H _ I h
 show wpAny (model P w) (A.deeper (envOfC qual scope s₀.heap.objs.size f cd)) (evalArgs (.ref C) true (backTo cpos (starEach (e₀ :: rest) (envOfC qual scope s₀.heap.objs.size f cd))) []) _ _ s
 rw [he] at hA ⊢
 refine Calls.evalArgs_plain (wpAny_mono hA (fun us s2 z => ?_) fun _ _ y => y)
 obtain ⟨vs, H1, I1, r, hl, hE⟩ := z
 refine ⟨rfl, by rw [← r.length]; exact hl, I1.bk _ _ hC, hN.keeps I1.bk, T.keeps I1.bk, fun h' e hm => ?_⟩
 refine wpAny_leaves_madeW (base := PySem.W.hideAll s2.heap (frs (envOfC qual scope s₀.heap.objs.size f cd :: outer))) (h := s2.heap) I1.ok.frames rfl (fun b o q => PySem.W.of_hideAll _ q)
   (PySem.W.funFrames_hide I1.stack fun env he b hb => List.mem_filterMap.mpr ⟨env, he, hb⟩) hm fun h2 t f1 _ _ u1 => ?_
 exact ⟨e, C, .ref t, _, H1, rfl, I1.os, I1.bare, Fl.made (s' := { s2 with heap := h' }) kK I1 hm f1 u1, hE⟩
theorem passX : jS (CX1 P w) (yQ (CX1 P w) P w K mg base N qual scope f cd A outer s₀ H₀ E) E := fun pins σ H s e s' I h => by
 obtain ⟨ea, C, a0, B, H', rfl, os, bare, x, q⟩ := h
 exact wpAny_leaves_onW I.ok.frames rfl x.fly fun h2 f1 u1 => ⟨ea, C, a0, B, H', rfl, os.trans I.os, bare, Fl.up (s' := s') kK I x f1 u1, q⟩
end
section
variable {P : Program} {w : World} {K : PySem.W.Frag} {mg : Str -> Option Value} {base : Heap}
theorem Fun.okX {x qual : Str} {st : Stmt} {f : Addr} {fd : FuncData} {N ps : List Str} {k : Nat} {sp : Sp} (F : Fun K x qual st f fd) (S : FnScope N ps (zE st)) (len : ∀ vs H Q E, sp vs H Q E -> vs.length = ps.length)
   (hbody : ∀ (cdv : Value) (A : Around) (outer : List Env) (s : Shared) (H : Hp) (vs : List V) (Q : VK) (E : XK), Room k (A.deeper (envOfC qual (zE st) s.heap.objs.size f cdv)) -> sp vs H Q E ->
     ∃ t, PSs (yQ (CX1 P w) P w K mg base N qual (zE st) f cdv A outer s H E) (zW st) t /\ t { nx := fun _ H' => Q .non H', rt := Q } (start N vs) H) : FnOk P w K mg base (CX1 P w) (k + 1) f fd ps sp := by
 obtain ⟨oc, od, kV, doc, pm, an, cdv, ct, osl, rfl, lk, hcd⟩ := F.ex
 exact fn_of lk hcd S len fun A outer s H vs Q E hr hsp => hbody cdv A outer s H vs Q E hr hsp
structure HasX (P : Program) (w : World) (K : PySem.W.Frag) (mg : Str -> Option Value) (base : Heap) (k : Nat) (x : Str) (ps : List Str) (sp : Sp) : Prop where
 ex : ∃ f fd, FnOk P w K mg base (CX1 P w) k f fd ps sp /\ Binds K fd ps [] /\ PySem.W.keepIn K (.ref f) = true /\ mg x = some (.ref f)
theorem xZ {x qual : Str} {st : Stmt} {f : Addr} {fd : FuncData} {k : Nat} {ps : List Str} {sp : Sp} (F : Fun K x qual st f fd) (h : FnOk P w K mg base (CX1 P w) k f fd ps sp) (b : Binds K fd ps []) (m : mg x = some (.ref f)) : HasX P w K mg base k x ps sp := ⟨f, fd, h, b, F.kp, m⟩
end
theorem zT {P : Program} {w : World} {K : PySem.W.Frag} {mg : Str -> Option Value} {base : Heap} {N : List Str} {qual : Str} {scope : Scope} {f : Addr} {cd : Value} {A : Around} {outer : List Env} {s₀ : Shared} {H₀ : Hp} {E : XK}
   {k : Nat} {x : Str} {ps : List Str} {sp : Sp} {e : Expr} {es : List Expr} {t : TA} {p pos : Pos} (h : HasX P w K mg base k x ps sp) (hr : Room k (A.deeper (envOfC qual scope s₀.heap.objs.size f cd)))
   (hg : Gl (yQ (CX1 P w) P w K mg base N qual scope f cd A outer s₀ H₀ E) x) (ha : PA (yQ (CX1 P w) P w K mg base N qual scope f cd A outer s₀ H₀ E) (e :: es) t) (hdb : (x == ("__debug__" : Str)) = false := by decide)
   (he : starEach (e :: es) (envOfC qual scope s₀.heap.objs.size f cd) = (false, eval e (envOfC qual scope s₀.heap.objs.size f cd)) :: starEach es (envOfC qual scope s₀.heap.objs.size f cd) := by rfl)
   (hpl : (backTo pos (starEach es (envOfC qual scope s₀.heap.objs.size f cd))).any (·.1) = false := by rfl) :
   PE (yQ (CX1 P w) P w K mg base N qual scope f cd A outer s₀ H₀ E) (.Call (.Name x p) (e :: es) [] pos) (tCall sp [] E t) := by
 obtain ⟨f', fd, F, b, kp, m⟩ := h.ex
 exact wY F hr hg m kp b .nil passX ha hdb he hpl
abbrev TX := (St -> Hp -> Prop) -> (Addr -> Hp -> Prop) -> St -> Hp -> Prop
def XP (X : Cx) (pins : List (Addr × Obj)) (σ : St) (Qx : Addr -> Hp -> Prop) (e : Value) (s' : Shared) : Prop :=
 ∃ (Hc : Hp) (sc : Shared) (ea C : Addr) (a0 : Value) (B : Heap) (H' : Hp), e = .ref ea /\ Inv X pins σ Hc sc /\ s'.os = sc.os /\ AllBare s'.gens /\ Fl X.prog X.w X.stack Hc sc.heap ea C a0 B H' s'.heap /\ Qx C H'
def PX (X : Cx) (st : List Stmt) (t : TX) : Prop :=
 ∀ (pins : List (Addr × Obj)) (s : Shared) (σ : St) (H : Hp) (Qn : St -> Hp -> Prop) (Qx : Addr -> Hp -> Prop), Inv X pins σ H s -> t Qn Qx σ H ->
   wpAny (model X.prog X.w) X.A (execs st X.env) (fun f s1 => f = .next /\ ∃ σ' H', Inv X pins σ' H' s1 /\ Qn σ' H') (XP X pins σ Qx) s
section
variable {X : Cx} {k : Nat} {f : Addr} {fd : FuncData} {ps : List Str} {sp : Sp} {x y : Str} {i : Nat} {p pos pos' pos2 : Pos} {e : Expr} {es : List Expr} {t : TA}
def tXSet (i : Nat) (sp : Sp) (t : TA) : TX := fun Qn Qx σ H => t σ H fun vs H1 => sp vs H1 (fun v H2 => Qn (σ.set i (some v)) H2) fun c _ H2 => ∃ C, c = .ref C /\ Qx C H2
theorem px_set (hxe : X.xe = fun _ _ => False) (h : HasX X.prog X.w X.K X.mg X.base k x ps sp) (hr : Room k X.A) (hg : Gl X x) (hN : X.N.Nodup) (hi : X.N[i]? = some y) (hy : Loc X.env.scope y) (ha : PA X (e :: es) t)
   (hs : swapsWith (.Call (.Name x p) (e :: es) [] pos) (some (.Name y pos')) pos2.line X.env = pure false := by rfl) (hf : X.fn y = true \/ X.env.scope.names.lookup y = some .local := by first | exact .inl rfl | exact .inr rfl | assumption)
   (hdb : (x == ("__debug__" : Str)) = false := by decide)
   (he : starEach (e :: es) X.env = (false, eval e X.env) :: starEach es X.env := by rfl) (hpl : (backTo pos (starEach es X.env)).any (·.1) = false := by rfl) :
   PX X [.Assign [.Name y pos'] (.Call (.Name x p) (e :: es) [] pos) pos2] (tXSet i sp t) := by
 intro pins s σ H Qn Qx I hq
 obtain ⟨f, fd, F, hb, hk, hm⟩ := h.ex
 have hA := ha pos pins s σ H _ I hq
 rw [hxe] at hA
 refine wpAny_execs_cons (wpAny_mono (Q := fun fl s1 => fl = .next /\ ∃ σ' H', Inv X pins σ' H' s1 /\ Qn σ' H') ?_ (fun fl s1 z => ?_) fun _ _ z => z)
 · refine wpAny_Assign_Name (wpAny_mono (Q := EP X pins σ fun v H2 => Qn (σ.set i (some v)) H2) ?_ (fun v s1 z => ?_) fun _ _ z => z) hs
   · refine wpAny_Call_Name_kw (qH I hg hm ?_ hdb)
     refine PySem.W.callWith_K (h₀ := X.base) I.ok.mod.kin hk (wpAny_mono hA (fun us s1 z => ?_) fun _ _ z => z.elim) he hpl
     obtain ⟨vs, H1, I1, r, q⟩ := z
     refine ⟨I1.kIn, ?_⟩
     have hl : us.length = ps.length := by rw [← r.length]; exact F.len _ _ _ _ q
     have hb2 := hb s1 us I1.kIn (by rw [List.append_nil]; exact hl)
     rw [List.append_nil] at hb2
     refine wpAny_call (codeAny_mono (F.run X.A X.stack s1 H1 ⟨us, []⟩ us vs _ _ hr I1.env0 hb2 r q) fun rr s2 z => ?_)
     cases rr with
     | error ev =>
       obtain ⟨ea, C, a0, B, H', rfl, os, bare, fl, C', eC, qx⟩ := z
       cases eC
       exact ⟨H1, s1, ea, C, a0, B, H', rfl, I1, os, bare, fl, qx⟩
     | ok fl =>
       cases fl with
       | ret u => exact I1.after z
       | next => exact False.elim z
       | brk => exact False.elim z
       | cont => exact False.elim z
   · obtain ⟨v', H1, I1, r1, q1⟩ := z
     exact qQ I1 hN hi hy r1 (fun s2 I2 => ⟨rfl, _, H1, I2, q1⟩) hf
 · obtain ⟨rfl, z⟩ := z
   exact wpAny_execs_nil ⟨rfl, z⟩
end
def xO (e C : Addr) : HO := .ext fun h => ∃ o vs, h.get? e = some o /\ o.cls = .ref C /\ o.data = .fields vs
abbrev Cx.held (X : Cx) (e : Addr) : Cx := { X with A := X.A.mark (some (.ref e)), calm := false }
section
variable {X : Cx} {pins : List (Addr × Obj)} {σ : St} {H : Hp} {s : Shared}
theorem Inv.held (I : Inv X pins σ H s) (e : Addr) : Inv (X.held e) pins σ H s :=
 ⟨⟨I.ok.mod, I.ok.kind, I.ok.glob, I.ok.blt, I.ok.above, I.ok.inj, I.ok.has, I.ok.cab, (fun z => nomatch z), I.ok.frames, I.ok.stk, I.ok.exf, I.ok.bs, I.ok.bsz, I.ok.noex, I.ok.exfs, I.ok.funs, I.ok.frf⟩, I.os, I.bare, I.base, I.loc, I.cell, I.free, I.freeC, I.pin, I.hok, I.len⟩
theorem Inv.unheld {e : Addr} (ok : X.Ok) (I : Inv (X.held e) pins σ H s) : Inv X pins σ H s := ⟨ok, I.os, I.bare, I.base, I.loc, I.cell, I.free, I.freeC, I.pin, I.hok, I.len⟩
theorem Inv.gone {i : Nat} {x : Str} {M : Model} {A : Around} {E : Value -> Shared -> Prop} {pos : Pos} {Q : Unit -> Shared -> Prop} (I : Inv X pins σ H s) (hN : X.N.Nodup) (hi : X.N[i]? = some x) (hk : X.env.scope.names.lookup x = some .local)
   (h : ∀ s', Inv X pins (σ.set i none) H s' -> Q () s') : wpAny M A (do bindName X.env x .none; unbindBehindTheSuite X.env x pos) Q E s := by
 obtain ⟨m, hn, hl⟩ := id I.loc
 have hcls : (X.env.scope.kind == .class || (X.env.scope.kind == .module && X.env.locals != X.env.globals)) = false := by rw [I.ok.kind]; rfl
 have hiσ : i < σ.length := by rw [I.len]; exact (List.getElem?_eq_some_iff.mp hi).1
 have cne := I.cne
 have neL : ∀ b o, X.s₀.heap.get? b = some o -> b ≠ X.env.locals := fun b o e => Nat.ne_of_lt (Nat.lt_of_lt_of_le (Heap.lt_size e) I.ok.above)
 refine wpAny_nameGoes_keeps hk hn hcls fun h' v hn' hs => ?_
 have ok : HOk X.prog X.w H h' := fun b ob e => by
   refine (I.hok b ob e).stay (fun c w' hc q => (hs.2 c ?_).trans q) (fun _ q => q) fun _ _ q => q
   rintro rfl
   have := I.free
   rcases hc with rfl | hc
   · rw [this] at e; cases e
   · rw [this] at hc; cases hc
 refine h _ ⟨I.ok, I.os, I.bare, ⟨fun b o e n hb hx => (hs.2 b (neL b o e)).trans (I.base.keep b o e n hb hx), fun b o e n hb hx => ?_, I.base.free, fun b o e hx => ?_, I.base.tups, I.base.frzs, I.base.tbls⟩, ⟨_, hn', fun j y v' e1 e2 e3 => ?_⟩, fun y c e => ?_, I.free, I.freeC, fun p hp => ?_, ok, by simpa using I.len⟩
 · obtain ⟨sl, e1⟩ := I.base.slot b o e n hb hx
   exact ⟨sl, (hs.2 b (neL b o e)).trans e1⟩
 · obtain ⟨o', e1⟩ := I.base.there b o e hx
   exact ⟨o', (hs.2 b (neL b o e)).trans e1⟩
 · by_cases hj : j = i
   · subst hj
     rw [List.getElem?_set_self hiσ] at e2
     cases e2
   · rw [List.getElem?_set_ne (Ne.symm hj)] at e2
     obtain ⟨u', r', q⟩ := hl j y v' e1 e2 e3
     refine ⟨u', r', ?_⟩
     rcases q with ⟨k, e⟩ | ⟨k, c, e, z⟩
     · refine .inl ⟨k, ?_⟩
       have : y ≠ x := fun e => hj (vI hN e1 (e ▸ hi))
       simp [this, e]
     · exact .inr ⟨k, c, e, z.sameBut hs (cne y c e)⟩
 · obtain ⟨w', z⟩ := I.cell y c e
   exact ⟨w', z.sameBut hs (cne y c e)⟩
 · obtain ⟨e, n, ne, nf, d⟩ := I.pin p hp
   exact ⟨(hs.2 p.1 ne).trans e, n, ne, nf, d⟩
end
def wR (K : PySem.W.Frag) (C : Addr) (v : Value) : Option Bool :=
 if PySem.W.ktsIn K C "BaseException" = true then
   match K.lookup C with
   | some ⟨_, _, .cls k, _⟩ => some (k.mro.contains v)
   | _ => none
 else none
theorem xSub_of {K : PySem.W.Frag} {h : Heap} {C : Addr} {v : Value} {b : Bool} (X : K.In h) (q : wR K C v = some b) : ∃ nm qn N bs bm hdct sn sub ab col dd k0 k1 k2 k3 k5 newId,
   h.get? C = some (excClassObj nm qn C N bs bm hdct sn sub ab col dd k0 k1 k2 k3 k5 newId) /\ bm.contains (.type "BaseException") = true /\ (Value.ref C :: bm).contains v = b := by
 unfold wR at q
 split at q
 · rename_i hk
   obtain ⟨nm, qn, N, bs, bm, hdct, sn, sub, ab, col, dd, k0, k1, k2, k3, k5, newId, hC, hB, _⟩ := PySem.W.kts_cls X hk
   refine ⟨nm, qn, N, bs, bm, hdct, sn, sub, ab, col, dd, k0, k1, k2, k3, k5, newId, hC, hB, ?_⟩
   split at q
   · rename_i ho
     have z := (X _ _ ho).symm.trans hC
     simp only [Option.some.injEq, Obj.mk.injEq, Data.cls.injEq] at z
     obtain ⟨_, _, rfl, _⟩ := z
     exact Option.some.inj q
   · cases q
 · cases q
section
variable {M : Model} {A : Around} {E : Value -> Shared -> Prop}
variable {nm q nm' q' : Str} {C N D N' : Addr} {bs bm bs' bm' : List Value} {hdct hdct' : Bool} {sn sn' : List Str} {sub sub' : List Value} {ab ab' : Bool} {col col' : Option Bool} {dd dd' : Option Addr} {k0 k1 k2 k3 k5 j0 j1 j2 j3 j5 : Option Value} {newId newId' : String}
theorem match_own {h : Heap} {g : Array GenState} {d : Drawn} {t : Nat} {os : OsState} {e : Addr} {oe : Obj} {Q : Bool -> Shared -> Prop} {b : Bool}
   (hC : h.get? C = some (excClassObj nm q C N bs bm hdct sn sub ab col dd k0 k1 k2 k3 k5 newId)) (hD : h.get? D = some (excClassObj nm' q' D N' bs' bm' hdct' sn' sub' ab' col' dd' j0 j1 j2 j3 j5 newId'))
   (he : h.get? e = some oe) (hcls : oe.cls = .ref C) (hbase : bm'.contains (.type "BaseException") = true) (hb : (Value.ref C :: bm).contains (.ref D) = b) (hq : Q b ⟨h, g, d, t, os⟩) :
   wpAny M A (excMatches (.ref e) (.ref D)) Q E ⟨h, g, d, t, os⟩ := by
 have hDB : (Value.ref D :: bm').contains (.type "BaseException") = true := by rw [List.contains_cons, hbase, Bool.or_true]
 have fT := tc_notTuple
 unfold excMatches
 repeat (first
   | (with_reducible refine wpAny_loadPart_at he ?_
      rw [hcls])
   | with_reducible refine wpAny_loadPart_at hD ?_
   | (with_reducible refine wpAny_isSubtype_exc hD ?_
      rw [hDB])
   | (with_reducible refine wpAny_isSubtype_exc hC ?_
      rw [hb])
   | wp_step)
 cases b <;> (wp_walk; exact hq)
end
theorem own_mk {K : PySem.W.Frag} {h : Heap} {mg : Str -> Option Value} {x : Str} {C : Addr} {bmB : List Value} {newId : String} (X : K.In h) (hm : mg x = some (.ref C)) (q : PySem.W.excIn K C bmB newId = true) : OwnCls x C bmB newId mg h := by
 refine ⟨hm, ?_⟩
 unfold PySem.W.excIn at q
 split at q
 rotate_left
 · cases q
 rename_i dict klass slots look
 split at q
 rotate_left
 · cases q
 rename_i C2 tail a0 a1 a2 a3 nid a5 em es
 simp only [beq_iff_eq, Bool.and_eq_true, Bool.not_eq_true'] at q
 obtain ⟨⟨⟨⟨⟨e1, e2⟩, e3⟩, e4⟩, e5⟩, e6⟩ := q
 subst e1 e2
 obtain ⟨nm, bs, mro, ns, qn, hd, sn, sub, ab, col, del⟩ := klass
 obtain ⟨l⟩ := slots
 dsimp only at em es e3 e5 e6
 subst em e3 es
 exact ⟨tail, ns, nm, qn, bs, hd, sn, sub, ab, col, dict, a0, a1, a2, a3, a5, _, X _ _ look, .of_isNs (PySem.W.isNs_of_in X e5),
   PySem.W.nsMap_none_of_in X e5 e6, PySem.W.tail_of_in X e4⟩
section
variable {X : Cx} {i : Nat} {y n : Str} {D₀ : Addr} {bD : Bool} {tb : TX} {th : TS} {body suite : List Stmt} {b₀ : Stmt} {np hpos pos : Pos}
def tTry (i : Nat) (cat : Addr -> Prop) (tb : TX) (th : TS) : TS := fun D σ H => tb D.nx (fun C H' => cat C /\ ∀ ea, H' ea = none ->
 th { nx := fun σ' H2 => D.nx (σ'.set i none) H2, rt := fun _ _ => False } (σ.set i (some (.ref ea))) (upd H' ea (xO ea C))) σ H
theorem ps_try (B : Body X) (hN : X.N.Nodup) (hi : X.N[i]? = some n) (hn : X.env.scope.names.lookup n = some .local) (hg : Gl X y) (hm : X.mg y = some (.ref D₀)) (hD : wR X.K D₀ (.type "BaseException") = some bD)
   (hxe : X.xe = fun _ _ => False) (hb : PX X body tb) (hh : ∀ ea, PSs (X.held ea) (b₀ :: suite) th) (hd : (y == ("__debug__" : Str)) = false := by decide) :
   PS X (.Try body [.ExceptHandler (some (.Name y np)) (some n) (b₀ :: suite) hpos] [] [] pos) (tTry i (fun C => wR X.K C (.ref D₀) = some true) tb th) := by
 intro pins s σ H D I h
 refine wpAny_Try_except (wpAny_mono (hb pins s σ H _ _ I h) (fun f s1 z => ?_) fun e s1 z => ?_)
 · obtain ⟨rfl, σ', H', I', q⟩ := z
   exact wpAny_execs_nil ⟨σ', H', I', q⟩
 obtain ⟨Hc, sc, ea, C, a0, Bs, H', rfl, Ic, os, bare, x, hcat, q⟩ := z
 have hfr : X.A.frames = some (X.env :: X.outer) := by rw [← B.stk]; exact I.ok.frames
 have hfl : Heap.FlyingW Bs (X.env :: X.outer) ea (.ref C) a0 s1.heap := by rw [← B.stk]; exact x.fly
 refine wpAny_looks_onW hfr B.fr hfl fun h4 held4 u4 => ?_
 refine wpAny_landsW held4 fun h5 fl5 u5 => ?_
 have x5 : Fl X.prog X.w X.stack Hc sc.heap ea C a0 Bs H' h5 := x.step (by rw [B.stk]; exact fl5) (u4.trans u5)
 have I5 : Inv X pins σ H' { s1 with heap := h5 } := Ic.call' (s' := { s1 with heap := h5 }) (ch := []) os x5.un x5.okH bare (fun b z => by cases z)
 refine wpAny_handleBy_cons (codeAny_handlers_test (qH (I5.held ea) hg hm ?_ hd)) (by intro q; cases q)
 obtain ⟨nm, qn, N, bs, bm, hdct, sn, sub, ab, col, dd, k0, k1, k2, k3, k5, newId, hC, hCB, hCc⟩ := xSub_of I5.kIn hcat
 obtain ⟨nm', qn', N', bs', bm', hdct', sn', sub', ab', col', dd', j0, j1, j2, j3, j5, newId', hD', hDB, _⟩ := xSub_of I5.kIn hD
 obtain ⟨ob, hob, hobc⟩ := x5.fly.there
 refine match_own hC hD' hob hobc hDB hCc ?_
 refine codeAny_handlers_suite_as (lands_againW fl5 fun h6 fl6 u6 => ?_)
 have x6 : Fl X.prog X.w X.stack Hc sc.heap ea C a0 Bs H' h6 := x5.step (by rw [B.stk]; exact fl6) u6
 have hsc : sc.heap.get? ea = none := by
   cases hq : sc.heap.get? ea with
   | none => rfl
   | some o =>
     by_cases hfm : ea ∈ frs X.stack
     · obtain ⟨_, o2, h2, hd2⟩ := x6.fly.2.2.1.mem hfm
       obtain ⟨oe, vs, _, _, _, h3, _, h4, _⟩ := x6.fly.2.2.2
       rw [h2] at h3
       cases h3
       exact absurd h4 (hd2 vs)
     · obtain ⟨o', hB, _⟩ := x6.stay ea o hq hfm
       rw [x6.fly.2.1] at hB
       cases hB
 have hup : ∀ b, b ≠ ea -> upd H' ea (xO ea C) b = H' b := fun b hb => yA hb
 have ok6 : HOk X.prog X.w (upd H' ea (xO ea C)) h6 := fun b ob e => by
   by_cases hb : b = ea
   · subst hb
     rw [zK] at e
     cases e
     obtain ⟨oe, vs, _, _, _, h3, hc3, h4, _⟩ := x6.fly.2.2.2
     exact ⟨⟨oe, vs, h3, hc3.1, h4⟩, ⟨oe, h3⟩, fun h1 h2 ⟨o, vs, z1, z2⟩ k => ⟨o, vs, k _ z1, z2⟩⟩
   · rw [yA hb] at e
     refine (x6.okH b ob e).stay (fun c v hc q => q) (fun c q => ?_) (fun c xs q => ?_)
     · rw [yA (fun z => by rw [z, x6.ef] at q; cases q)]; exact q
     · rw [yA (fun z => by rw [z, x6.ef] at q; cases q)]; exact q
 have un6 : Un (frs X.stack) [] Hc (upd H' ea (xO ea C)) sc.heap h6 := by
   have u := x6.un
   have nh : ∀ {c o}, H' c = some o -> c ≠ ea := fun {c o} q z => by rw [z, x6.ef] at q; cases q
   refine ⟨u.keep, u.slot, fun b o e hn hx => ?_, u.there, fun b xs e => ?_, fun b o v e => ?_, fun b ps e => ?_⟩
   · rw [yA (fun z => by rw [z, hsc] at e; cases e)]
     exact u.free b o e hn hx
   · have := u.tups b xs e
     rw [yA (nh this)]; exact this
   · have := u.frzs b o v e
     rw [yA (nh this)]; exact this
   · obtain ⟨more, this⟩ := u.tbls b ps e
     exact ⟨more, by rw [yA (nh this)]; exact this⟩
 have I6 : Inv X pins σ (upd H' ea (xO ea C)) { s1 with heap := h6 } := Ic.call' (s' := { s1 with heap := h6 }) (ch := []) os un6 ok6 bare (fun b z => by cases z)
 refine qQ (X := X.held ea) (v := .ref ea) (u := .ref ea) (I6.held ea) hN hi (.inl hn) rfl (fun s7 I7 => ?_) (.inr hn)
 have hS := hh ea pins s7 _ _ _ I7 (q ea x6.ef)
 have hxe2 : (X.held ea).xe = fun _ _ => False := hxe
 rw [hxe2] at hS
 refine wpAny_mono hS (fun f s8 z => ?_) fun _ _ z => z.elim
 cases f with
 | next =>
   obtain ⟨σ8, H8, I8, q8⟩ := z
   exact (I8.unheld I.ok).gone hN hi hn fun s9 I9 => ⟨_, _, I9, q8⟩
 | brk => obtain ⟨_, _, _, z⟩ := z; exact z.elim
 | cont => obtain ⟨_, _, _, z⟩ := z; exact z.elim
 | ret u => obtain ⟨_, _, _, _, _, z⟩ := z; exact z.elim
end
end L2
set_option maxHeartbeats 1000000
namespace L2
open PySem PySem.Spec PyProof.Rows
structure XCls (K : PySem.W.Frag) (C : Addr) : Prop where
 cls : (PySem.W.clsIn K C).isSome = true
 ga : PySem.W.findIn K (.ref C) "__getattribute__" = some (some (.builtin "BaseException.__getattribute__"))
 hk : PySem.W.findIn K (.ref C) "__getattr__" = some none
 kl : PySem.W.findIn K (.ref C) "__class__" = some (some (.builtin "object.__class__"))
 sp : PySem.W.specialIn K (.builtin "object.__class__") "__get__" = some (some (.builtin "getset_descriptor.__get__"))
 tk : PySem.W.takesIn K (.builtin "object.__class__") = some true
 mo : PySem.W.mroIn K C (.type "object") = some true
 mb : PySem.W.mroIn K C (.type "BaseException") = some true
section
open Builtin Builtin.Getset_descriptor
variable {prog : Program} {w : World} {A : Around} {E : Value -> Shared -> Prop} {s : Shared} {K : PySem.W.Frag} {x C : Addr} {ox : Obj}
theorem looks_xfind {M : Model} {h : Heap} (X : K.In h) (c : XCls K C) : PySem.W.Looks M h (Builtin.ObjectAttr.find (.ref x) (.ref C) "__class__") (.bind (.builtin "getset_descriptor.__get__") (.builtin "object.__class__")) := by
 refine (PySem.W.looks_findIn X c.kl).andThen ?_
 refine PySem.W.Looks.andThen (PySem.W.looks_specialIn X c.sp) ?_
 refine PySem.W.Looks.andThen ((PySem.W.looks_takesIn X c.tk).andThen .now) (PySem.W.Looks.tag .now)
theorem x_get {R : Result -> Shared -> Prop} {tp : Value} (X : K.In s.heap) (L0 : PySem.W.Looks (model prog w) s.heap (typeOf (.ref x)) (.ref C)) (c : XCls K C)
   (h : R (.ok (.ret (.ref C))) s) : codeAny (model prog w) A (.call (.builtin "getset_descriptor.__get__") ⟨[.builtin "object.__class__", .ref x, tp], []⟩) R s := by
 obtain ⟨hp, gs, dr, tk, ws⟩ := s
 have L1 := PySem.W.looks_mroIn (M := model prog w) X c.mo
 refine codeAny_call_builtin PySem.W.KF.slot_gs.plain PySem.W.KF.entry_gs
   (PySem.W.KF.slot_gs.check _ _ _ _ _ _ _ _ PySem.W.KF.type_class (PySem.W.KF.args_gs _ _ _) ?_)
 unfold Builtin.«getset_descriptor.__get__» descrGet
 rw [PySem.W.dga_obj]
 refine wpAny_bind
   (wpAny_pure ?_)
 unfold descrGetter descrCheckInstance
 unfold descrNameAndClass isInstance
 simp only [PySem.W.KF.owner_class]
 repeat lk
 refine ⟨Code.quiet_builtin _ (by decide +kernel),
   codeAny_builtin PySem.W.KF.entry_class ?_⟩
 unfold Builtin.«object.__class__»
 unfold shownTypeOf
 repeat lk
 exact h
theorem x_class {Q : Option Value -> Shared -> Prop} (X : K.In s.heap) (L0 : PySem.W.Looks (model prog w) s.heap (typeOf (.ref x)) (.ref C)) (c : XCls K C) (h : Q (some (.ref C)) { s with toks := s.toks + 1 }) : wpAny (model prog w) A (getAttr? (.ref x) "__class__") Q E s := by
 obtain ⟨hh, g, d, t, os⟩ := s
 have L1 := PySem.W.looks_findIn (M := model prog w) X c.ga
 have L2 := PySem.W.looks_findIn (M := model prog w) X c.hk
 have L3 := PySem.W.looks_mroIn (M := model prog w) X c.mb
 have L4 := looks_xfind (M := model prog w) (x := x) X c
 unfold getAttr? getAttrBy? getAttrBy
 refine wpAny_bind (wpAny_mkText (wpAny_bind (wpAny_attempt (wpAny_holding (wpAny_bind (L0.at (wpAny_bind (L1.at ?_))))))))
 show wpAny _ _ (getAttrByItsOwn _ _ _ _ _ _) _ _ _
 unfold getAttrByItsOwn hookBefore
 refine wpAny_bind ?_
 show wpAny _ _ (typeLookup _ _) _ _ _
 refine L2.at ?_
 refine wpAny_bind (wpAny_attempt (wpAny_holding ?_))
 show wpAny _ _ (boundAndCalled _ _ _) _ _ _
 unfold boundAndCalled
 refine wpAny_bind (wpAny_of_eq (F.excAttr_ValueError.ga.bind (.ref x)) ?_)
 refine wpAny_call (codeAny_call_builtin F.excAttr_ValueError.ga.plain F.entry_bexc_ga ?_)
 have kd : builtinKind "BaseException.__getattribute__" = some .slot := by decide +kernel
 have spl : splitId "BaseException.__getattribute__" = some ("BaseException", "__getattribute__") := by decide +kernel
 have fa := F.args_bexc_ga (.ref x) (.str "__class__" t)
 have fin : wpAny (model prog w) A.in1 (Builtin.«object.__getattribute__» ⟨[.ref x, .str "__class__" t], []⟩) (fun fin s' => fin = .done (.ret (.ref C)) /\ s' = ⟨hh, g, d, t + 1, os⟩) (fun _ _ => False) ⟨hh, g, d, t + 1, os⟩ := by
   unfold Builtin.«object.__getattribute__»
   repeat (first | with_reducible refine L0.at ?_ | with_reducible refine L4.at ?_ | wp_step)
   exact x_get X L0 c (wpAny_pure ⟨rfl, rfl⟩)
 have go : wpAny (model prog w) A.in1 (checkBuiltinCall "BaseException.__getattribute__" ⟨[.ref x, .str "__class__" t], []⟩) (fun _ s' => s' = ⟨hh, g, d, t + 1, os⟩) (fun _ _ => False) ⟨hh, g, d, t + 1, os⟩ := by
   simp only [checkBuiltinCall, kd, spl]
   refine wpAny_bind ?_
   unfold isInstance
   repeat (first | with_reducible refine L0.at ?_ | with_reducible refine L3.at ?_ | wp_step)
   rfl
 refine wpAny_mono go (fun _ s1 e1 => ?_) fun _ _ z => z.elim
 subst e1
 refine wpAny_mono fin (fun f1 s1 e1 => ?_) fun _ _ z => z.elim
 obtain ⟨rfl, rfl⟩ := e1
 exact wpAny_pure (wpAny_pure h)
theorem xcls_ob (c : XCls K C) : ∃ c' d' cd sl, K.lookup C = some ⟨c', d', .cls cd, sl⟩ := by
 obtain ⟨k, hk⟩ := Option.isSome_iff_exists.mp c.cls
 unfold PySem.W.clsIn at hk
 split at hk
 · rename_i c' d' cd sl ho
   exact ⟨c', d', cd, sl, ho⟩
 · cases hk
theorem kitx_exc (c : XCls K C) : PySem.W.KitX K (.ref x) (.ref C) (fun h => ∃ o, h.get? x = some o /\ o.cls = .ref C) where
 ty := fun M h _ ⟨o, ho, hc⟩ => hc ▸ (PySem.W.Looks.ld ho).andThen .now
 it := fun _ _ X _ => by
   obtain ⟨c', d', cd, sl, ho⟩ := xcls_ob c
   intro A1 Q1 E1 s1 k q
   unfold isType loadHead
   refine wpAny_bind ?_
   exact wpAny_loadPart (k _ _ (X _ _ ho)) (wpAny_pure q)
 ne := fun h tp dd its n sl X htp => by
   obtain ⟨c', d', cd, sl, ho⟩ := xcls_ob c
   refine Bool.eq_false_iff.mpr fun q => ?_
   cases Value.ref.inj (beq_iff_eq.mp q)
   cases (X _ _ ho).symm.trans htp
 ca := fun X p k => x_class X (p.elim fun o z => z.2 ▸ (PySem.W.Looks.ld z.1).andThen .now) c k
end
def ClV (v : V) (u : Value) : Prop := (∃ D, v = .ref D /\ u = .ref D) \/ ∃ T, v = .ty T /\ u = .type T
def rIsX (K : PySem.W.Frag) : List V -> Hp -> VK -> Prop := fun xs H Q => ∃ e C v u b, xs = [.ref e, v] /\ H e = some (xO e C) /\ XCls K C /\ ClV v u /\ PySem.W.kitOne K (.ref C) u = some b /\ Q (.bl b) H
theorem ClV.rel {v : V} {u u' : Value} (h : ClV v u) (r : RelV v u') : u' = u := by
 rcases h with ⟨D, rfl, rfl⟩ | ⟨T, rfl, rfl⟩
 · exact r
 · cases r; rfl
section
variable {X : Cx}
theorem call_isX : qL X (.builtin "isinstance") (rIsX X.K) := by
 intro pins s σ H xs us Q I r h
 obtain ⟨e, C, v, u, b, rfl, he, c, cv, hk, q⟩ := h
 obtain ⟨u1, u2, rfl, r1, r2⟩ := vals2 r
 cases (show u1 = Value.ref e from r1)
 cases cv.rel r2
 obtain ⟨⟨o, vs, ho, hc, _⟩, _⟩ := (show ObjOk X.prog X.w H s.heap e (xO e C) from I.hok e _ he)
 exact PySem.W.kia_one (kitx_exc c) I.kIn ⟨o, ho, hc⟩ hk (fun z => nomatch z) fun tk => ⟨.bl b, H, I.tok tk, rfl, q⟩
end
theorem body_nox {CX : CXT} {P : Program} {w : World} {K : PySem.W.Frag} {mg : Str -> Option Value} {base : Heap} {N : List Str} {qual : Str} {scope : Scope} {f : Addr} {cd : Value} {A : Around} {outer : List Env} {s₀ : Shared} {H₀ : Hp} {E : XK} :
   Body (yQ CX P w K mg base N qual scope f cd A outer s₀ H₀ E).nox := ⟨rfl, rfl, rfl, Heap.get?_none_of_le (Nat.le_refl _)⟩
section
variable {X : Cx}
theorem call_isXK (K : PySem.W.Frag) (h : X.K = K) : qL X (.builtin "isinstance") (rIsX K) := by subst h; exact call_isX
end
section
variable {prog : Program} {w : World} {Kt : Type} [DecidableEq Kt] {knd : HeapKind prog w Kt} {A : Around} {E : Value -> Shared -> Prop} {s : Shared}
def DictB (knd : HeapKind prog w Kt) (h : Heap) (d : Addr) (xs : List (Kt × Addr × Value)) : Prop :=
 ∃ o es ep, h.get? d = some o /\ o.ExactDict /\ o.data = .dict es ep /\ es.toList = xs.map (entryOfKey knd) /\ (xs.map (·.1)).Nodup
theorem DictB.at {h h' : Heap} {d : Addr} {xs : List (Kt × Addr × Value)} (x : DictB knd h d xs) (e : ∀ u, h.get? d = some u -> h'.get? d = some u) : DictB knd h' d xs := by
 obtain ⟨o, es, ep, h1, r⟩ := x
 exact ⟨o, es, ep, e _ h1, r⟩
end
section
variable {X : Cx}
end
structure HasF (P : Program) (w : World) (K : PySem.W.Frag) (mg : Str -> Option Value) (base : Heap) (k : Nat) (f : Addr) (ps : List Str) (sp : Sp) : Prop where
 ex : ∃ fd, FnOk P w K mg base CX0 k f fd ps sp /\ Binds K fd ps [] /\ PySem.W.keepIn K (.ref f) = true
section
variable {X : Cx} {k : Nat} {x : Str} {ps : List Str} {sp : Sp} {p pos : Pos} {e : Expr} {es : List Expr} {t : TA}
theorem Has.at {P : Program} {w : World} {K : PySem.W.Frag} {mg : Str -> Option Value} {base : Heap} {k : Nat} {f : Addr} (h : Has P w K mg base k x ps sp) (hm : mg x = some (.ref f)) : HasF P w K mg base k f ps sp := by
 obtain ⟨g, fd, F, b, kp, m⟩ := h.ex
 rw [hm] at m
 cases m
 exact ⟨fd, F, b, kp⟩
end
end L2
set_option maxHeartbeats 8000000
namespace L2
open PySem PySem.Spec PyProof.Rows PySem.W
section
variable {prog : Program} {w : World} {A : Around} {E : Value -> Shared -> Prop} {s : Shared}
end
end L2
namespace L2
open PySem PySem.Spec PyProof.Rows PySem.W
abbrev XE := List Key × Addr × V
abbrev XPr : List XE -> List (List Key × Addr × Value) -> Prop := Paired fun p q => p.1 = q.1 /\ p.2.1 = q.2.1 /\ RelV p.2.2 q.2.2
def DxRaw (P : Program) (w : World) (h : Heap) (a : Addr) (kvs : List XE) : Prop := ∃ xs, XPr kvs xs /\ ∃ o es ep, h.get? a = some o /\ o.ExactDict /\ o.data = .dict es ep /\ es.toList = xs.map (entryOfKey (tupleKind (xF P w))) /\ (xs.map (·.1)).Nodup
def DxO (P : Program) (w : World) (a : Addr) (kvs : List XE) : HO := .ext fun h => DxRaw P w h a kvs
structure DxAt (P : Program) (w : World) (K : PySem.W.Frag) (H : Hp) (a : Addr) (kvs : List XE) : Prop where
 is : H a = some (DxO P w a kvs)
 few : kvs.length <= 1000
 lo : (a == sysModules) = false
 keys : ∀ x ∈ kvs, SqT K H x.2.1 (x.1.map kV)
theorem XPr.at : ∀ {kvs : List XE} {xs : List (List Key × Addr × Value)}, XPr kvs xs -> ∀ {i : Nat} {p : XE} {q : List Key × Addr × Value}, kvs[i]? = some p -> xs[i]? = some q -> p.2.1 = q.2.1
 | _, _, .nil, i, p, q, h, _ => by simp at h
 | _, _, .cons hq t, 0, p, q, h1, h2 => by
   simp only [List.getElem?_cons_zero, Option.some.injEq] at h1 h2
   subst h1 h2
   exact hq.2.1
 | _, _, .cons hq t, i + 1, p, q, h1, h2 => XPr.at t (by simpa using h1) (by simpa using h2)
section
variable {X : Cx} {pins : List (Addr × Obj)} {σ : St} {H : Hp} {s : Shared} {a b : Addr} {kvs : List XE} {k : List Key}
end
section
variable {X : Cx}
end
inductive TyK (K : PySem.W.Frag) (H : Hp) : V -> Value -> Prop where
 | of {v : V} {t : Value} (h : TyOf K H v t) : TyK K H v t
 | kt {a : Addr} {xs : List V} (h : SqT K H a xs) : TyK K H (.ref a) (.type "tuple")
section
variable {X : Cx} {pins : List (Addr × Obj)} {σ : St} {H : Hp} {s : Shared} {A : Around} {E : Value -> Shared -> Prop} {Q : Value -> Shared -> Prop} {c : Value} {b : Bool}
end
section
variable {X : Cx}
end
theorem FnOk.calm {P : Program} {w : World} {K : PySem.W.Frag} {mg : Str -> Option Value} {base : Heap} {k : Nat} {f : Addr} {fd : FuncData} {ps : List Str} {sp : Sp} (F : FnOk P w K mg base (CX1 P w) k f fd ps sp) : FnOk P w K mg base CX0 k f fd ps (fun vs H Q _ => sp vs H Q E0) :=
 ⟨fun vs H Q E h => F.len vs H Q E0 h, fun A outer s H args us vs Q E hr h0 hb hv h => codeAny_mono (F.run A outer s H args us vs Q E0 hr h0 hb hv h) fun r s' hr => by
   cases r with
   | error e =>
     obtain ⟨ea, C, a0, B, H', _, _, _, _, q⟩ := hr
     exact q.elim
   | ok fl => cases fl <;> exact hr⟩
structure HasFX (P : Program) (w : World) (K : PySem.W.Frag) (mg : Str -> Option Value) (base : Heap) (k : Nat) (f : Addr) (ps : List Str) (sp : Sp) : Prop where
 ex : ∃ fd, FnOk P w K mg base (CX1 P w) k f fd ps sp /\ Binds K fd ps [] /\ PySem.W.keepIn K (.ref f) = true
theorem HasX.at {P : Program} {w : World} {K : PySem.W.Frag} {mg : Str -> Option Value} {base : Heap} {k : Nat} {f : Addr} {x : Str} {ps : List Str} {sp : Sp} (h : HasX P w K mg base k x ps sp) (hm : mg x = some (.ref f)) : HasFX P w K mg base k f ps sp := by
 obtain ⟨g, fd, F, b, kp, m⟩ := h.ex
 rw [hm] at m
 cases m
 exact ⟨fd, F, b, kp⟩
structure HasMX (P : Program) (w : World) (K : PySem.W.Frag) (mg : Str -> Option Value) (base : Heap) (k : Nat) (C : Addr) (m : Str) (ps : List Str) (sp : Sp) : Prop where
 ex : ∃ f fd, FnOk P w K mg base (CX1 P w) k f fd ps sp /\ Binds K fd ps [] /\ Meth K C m f
section
variable {P : Program} {w : World} {K : PySem.W.Frag} {mg : Str -> Option Value} {base : Heap} {N : List Str} {qual : Str} {scope : Scope} {f : Addr} {cd : Value} {A : Around} {outer : List Env} {s₀ : Shared} {H₀ : Hp} {E : XK}
   {k : Nat} {C : Addr} {m : Str} {ps : List Str} {sp : Sp} {e o : Expr} {es : List Expr} {ta : TE} {t : TA} {apos pos : Pos}
theorem xM {pl : Sem Bool} (h : HasMX P w K mg base k C m ps sp) (c : Cls K C) (hr : Room k (A.deeper (envOfC qual scope s₀.heap.objs.size f cd)))
   (he : PE (yQ (CX1 P w) P w K mg base N qual scope f cd A outer s₀ H₀ E) o ta) (ha : PA (yQ (CX1 P w) P w K mg base N qual scope f cd A outer s₀ H₀ E) (e :: es) t)
   (hst : starEach (e :: es) (envOfC qual scope s₀.heap.objs.size f cd) = (false, eval e (envOfC qual scope s₀.heap.objs.size f cd)) :: starEach es (envOfC qual scope s₀.heap.objs.size f cd) := by rfl)
   (hpl : (backTo pos (starEach es (envOfC qual scope s₀.heap.objs.size f cd))).any (·.1) = false := by rfl)
   (ht : eval (.Call (.Attribute o m apos) (e :: es) [] pos) (envOfC qual scope s₀.heap.objs.size f cd) = (do
     let ov ← eval o (envOfC qual scope s₀.heap.objs.size f cd)
     standAt apos.atName
     let (f', first) ← holding [ov] (getMethod ov m pl)
     callWith pos f' first (backTo pos (starEach (e :: es) (envOfC qual scope s₀.heap.objs.size f cd))) (backToKw pos (keywordEach [] (envOfC qual scope s₀.heap.objs.size f cd)))) := by rfl) :
   PE (yQ (CX1 P w) P w K mg base N qual scope f cd A outer s₀ H₀ E) (.Call (.Attribute o m apos) (e :: es) [] pos) (jT C m sp [] E ta t) := by
 obtain ⟨f', fd, F, b, mm⟩ := h.ex
 exact pe_meth (X := yQ (CX1 P w) P w K mg base N qual scope f cd A outer s₀ H₀ E) (pl := pl) he c mm F hr b .nil passX ha hst hpl ht
theorem wC {pl : Sem Bool} (h : HasMX P w K mg base k C m ps sp) (c : Cls K C) (hr : Room k (A.deeper (envOfC qual scope s₀.heap.objs.size f cd)))
   (he : PE (yQ (CX1 P w) P w K mg base N qual scope f cd A outer s₀ H₀ E) o ta)
   (ht : eval (.Call (.Attribute o m apos) [] [] pos) (envOfC qual scope s₀.heap.objs.size f cd) = (do
     let ov ← eval o (envOfC qual scope s₀.heap.objs.size f cd)
     standAt apos.atName
     let (f', first) ← holding [ov] (getMethod ov m pl)
     callWith pos f' first (backTo pos (starEach [] (envOfC qual scope s₀.heap.objs.size f cd))) (backToKw pos (keywordEach [] (envOfC qual scope s₀.heap.objs.size f cd)))) := by rfl) :
   PE (yQ (CX1 P w) P w K mg base N qual scope f cd A outer s₀ H₀ E) (.Call (.Attribute o m apos) [] [] pos) (jT C m sp [] E ta tNil) := by
 obtain ⟨f', fd, F, b, mm⟩ := h.ex
 exact pe_meth0 (X := yQ (CX1 P w) P w K mg base N qual scope f cd A outer s₀ H₀ E) (pl := pl) he c mm F hr b .nil passX ht
end
end L2
set_option maxHeartbeats 4000000
namespace L2
open PySem PySem.Spec PyProof.Rows
def FlyA (B : Heap) (l : List Env) (e : Addr) (cls a0 fl : Value) (h : Heap) : Prop := B.StaysIn h /\ B.get? e = none /\ h.FunFrames B l /\ h.TracedAtW B e cls a0 fl
section
variable {M : Model} {A : Around} {E : Value -> Shared -> Prop} {s : Shared} {B : Heap} {l outer : List Env} {env : Env} {e L : Addr} {cls a0 fl : Value} {Q : Unit -> Shared -> Prop}
theorem fly_flight {fr : Option Addr} (R : FlyA B l e cls a0 fl s.heap) (h : ∀ h', FlyA B l e cls a0 (fr.elim .none fun f => rawInt f) h' -> s.heap.UpToSlots h' -> Q () { s with heap := h' }) : wpAny M A (setFlight (.ref e) fr) Q E s := by
 obtain ⟨r1, r2, r3, oe, vs, T, oT, ts, he, hc, hd, h1, hn, hne, hT, hdT, h3⟩ := R
 have h3s : 3 < ts.size := (Array.getElem?_eq_some_iff.mp h3).1
 have sm := fun f => Heap.SameBut.update s.heap T f
 have nf : ∀ b o, s.heap.get? b = some o -> (∀ vs, o.data ≠ .fields vs) -> b ≠ T := fun b o hb k z => by
   rw [z, hT] at hb
   cases hb
   exact k ts hdT
 unfold setFlight
 refine wpAny_bind (wpAny_field he hd h1 ?_)
 rw [if_pos (show (Value.ref T != Value.none) = true from by simp)]
 refine wpAny_setField hT hdT h3s (h _ ⟨fun b o q => ((sm _).2 b fun z => by rw [z, hn] at q; cases q).trans (r1 b o q), r2, r3.of_keeps fun b o hb k => ⟨o, ((sm _).2 b (nf b o hb k)).trans hb, rfl⟩, ?_⟩ fun b o hb k => ⟨o.slots, ((sm _).2 b (nf b o hb k)).trans hb⟩)
 exact ⟨oe, vs, T, _, _, ((sm _).2 e (Ne.symm hne)).trans he, hc, hd, h1, hn, hne, Heap.get?_update_self _ hT (Obj.isFreed_of_fields (Obj.data_mapFields hdT _)), Obj.data_mapFields hdT _, by simp [h3s]⟩
theorem fly_leaves (hfr : A.frames = some (env :: outer)) (hf : env.frame = some L) (R : FlyA B (env :: outer) e cls a0 fl s.heap)
   (hQ : ∀ h', Heap.FlyingW B outer e cls a0 h' -> s.heap.UpToSlots h' -> Q () { s with heap := h' }) : wpAny M A (leaving env (.ref e)) Q E s := by
 by_cases hL : fl = rawInt L
 · subst hL
   unfold leaving
   refine wpAny_bind (wpAny_noteFrame_againW hf R.2.2.2 ?_)
   refine wpAny_landsW R fun h' x u => hQ h' ⟨x.1, x.2.1, x.2.2.1.2.2, x.2.2.2⟩ u
 · obtain ⟨r1, r2, r3, oe, vs, T, oT, ts, he, ⟨hcl, h0⟩, hd, h1, hn, hne, hT, hdT, h3⟩ := R
   subst hcl
   have h3s : 3 < ts.size := (Array.getElem?_eq_some_iff.mp h3).1
   have sm := fun f => Heap.SameBut.update s.heap T f
   have nf : ∀ b o, s.heap.get? b = some o -> (∀ vs, o.data ≠ .fields vs) -> b ≠ T := fun b o hb k z => by
     rw [z, hT] at hb
     cases hb
     exact k ts hdT
   unfold leaving noteFrame
   simp only [hf]
   refine wpAny_bind (wpAny_bind (wpAny_field he hd h1 ?_))
   rw [if_pos (show (Value.ref T != Value.none) = true from by simp)]
   refine wpAny_bind (wpAny_field hT hdT h3 ?_)
   rw [if_neg (show ¬ ((fl == rawInt L) = true) from fun z => hL (eq_of_beq z))]
   refine wpAny_bind (wpAny_setField hT hdT h3s ?_)
   refine wpAny_newEntryW hfr (r3.of_keeps fun b o hb k => ⟨o, ((sm _).2 b (nf b o hb k)).trans hb, rfl⟩) hf (((sm _).2 e (Ne.symm hne)).trans he) (fun b o q => ((sm _).2 b fun z => by rw [z, hn] at q; cases q).trans (r1 b o q)) r2 hd
     (Array.getElem?_eq_some_iff.mp h1).1 h0 fun h' x => hQ h' ⟨x.1, r2, x.2.1.2.2, x.2.2.1⟩ fun b o hb k => x.2.2.2 b o (((sm _).2 b (nf b o hb k)).trans hb) k
end
theorem vP {B B' h h' : Heap} {C : Addr} {oC : Obj} (k : B'.StaysIn B) (hC : B.get? C = some oC) (hs : ∀ b, b ≠ C -> h'.get? b = h.get? b) : ∀ {l : List Env}, h.FunFrames B l -> h'.FunFrames B' l
 | [], _ => trivial
 | _ :: _, ⟨hk, ⟨L, o, hf, hn, ho, hd⟩, hr⟩ => ⟨hk, ⟨L, o, hf, PySem.W.fresh_of_stays k hn, (hs L fun z => by rw [z, hC] at hn; cases hn).trans ho, hd⟩, vP k hC hs hr⟩
section
variable {X : Cx} {pins : List (Addr × Obj)} {σ : St} {Hc H' : Hp} {sc : Shared} {B h1 h'' : Heap} {e C : Addr} {a0 : Value}
theorem Fl.upC (b : Body X) (I : Inv X pins σ Hc sc) (x : Fl X.prog X.w X.stack Hc sc.heap e C a0 B H' h1) {Cb : Addr} {oC : Obj} (hCb : X.s₀.heap.get? Cb = none) (hcc : Hc Cb = none) (hco : sc.heap.get? Cb = some oC)
   (f : Heap.FlyingW (PySem.W.hideAll B [Cb]) X.outer e (.ref C) a0 h'') (u : ∀ c o, c ≠ Cb -> h1.get? c = some o -> (∀ vs, o.data ≠ .fields vs) -> ∃ sl, h''.get? c = some { o with slots := sl }) :
   Fl X.prog X.w X.outer X.H₀ X.s₀.heap e C a0 (PySem.W.hideAll B [Cb]) H' h'' := by
 have nex : ∀ c : Addr, c ∉ X.ex := fun c z => by rw [b.ex] at z; cases z
 have nL : ∀ c o, X.s₀.heap.get? c = some o -> c ≠ X.env.locals := fun c o hc z => by rw [z, b.new] at hc; cases hc
 have nB : ∀ c o, X.s₀.heap.get? c = some o -> c ≠ Cb := fun c o hc z => by rw [z, hCb] at hc; cases hc
 have hfree : H' Cb = none := x.free Cb oC hco hcc
 have ok : HOk X.prog X.w H' (PySem.W.hideAll B [Cb]) := fun a o ha => by
   refine (x.hok a o ha).stay (fun c v hc q => PySem.W.hideAll_get _ q fun z => ?_) (fun _ q => q) (fun _ _ q => q)
   have z := List.mem_singleton.mp z
   subst z
   rcases hc with rfl | hc
   · rw [ha] at hfree; cases hfree
   · rw [hc] at hfree; cases hfree
 refine ⟨f, fun c o hc hn => ?_, fun c o hc hH hn => ?_, fun c o hc hH => ?_, ok, x.ef, fun c xs q => x.tups _ _ (I.base.tups _ _ q), fun c o v q => x.frzs _ _ _ (I.base.frzs _ _ _ q), fun c ps q => ?_⟩
 · obtain ⟨o1, h1⟩ := I.base.there c o hc (nex c)
   obtain ⟨o', hB, ho⟩ := x.stay c o1 h1 (by rw [b.frs]; exact fun z => (List.mem_cons.mp z).elim (nL c o hc) hn)
   refine ⟨o', PySem.W.hideAll_get _ hB fun z => nB c o hc (List.mem_singleton.mp z), fun hH => ?_⟩
   have h2 := I.base.keep c o hc hH hn (nex c)
   rw [h1] at h2
   cases h2
   exact ho (I.base.free c o hc hH (nex c))
 · obtain ⟨sl, h1⟩ := I.base.slot c o hc hH hn (nex c)
   have hm : c ∈ L2.frs X.stack := by rw [b.frs]; exact List.mem_cons_of_mem _ hn
   obtain ⟨sl2, h2⟩ := x.slot c _ h1 (I.base.free c o hc hH (nex c)) hm
   obtain ⟨_, o2, h3, hd⟩ := x.fly.2.2.1.mem hm
   rw [h2] at h3
   cases h3
   obtain ⟨sl3, h4⟩ := u c _ (nB c o hc) h2 hd
   exact ⟨sl3, h4⟩
 · obtain ⟨o1, h1⟩ := I.base.there c o hc (nex c)
   exact x.free c o1 h1 (I.base.free c o hc hH (nex c))
 · obtain ⟨m1, e1⟩ := I.base.tbls _ _ q
   obtain ⟨m2, e2⟩ := x.tbls _ _ e1
   exact ⟨m1 ++ m2, by rw [e2, Array.append_assoc]⟩
end
def yX (X : Cx) (xs ys : List Str) (scope : Scope) (C : Addr) (s₀ : Shared) (H₀ : Hp) (fp : List Addr) (E : XK) : Cx :=
 { yO X xs ys scope C s₀ H₀ fp with xe := fun e s' => ∃ pins σ Hb sb, Inv (yO X xs ys scope C s₀ H₀ fp) pins σ Hb sb /\ CX1 X.prog X.w X.stack Hb sb E e s' }
section
variable {X : Cx} {pins : List (Addr × Obj)} {σ : St} {H : Hp} {s : Shared} {xs ys : List Str} {scope : Scope} {fp : List Addr} {C : Addr} {s₀ : Shared} {H₀ : Hp} {E : XK}
theorem Inv.toX (I : Inv (yO X xs ys scope C s₀ H₀ fp) pins σ H s) : Inv (yX X xs ys scope C s₀ H₀ fp E) pins σ H s :=
 ⟨⟨I.ok.mod, I.ok.kind, I.ok.glob, I.ok.blt, I.ok.above, I.ok.inj, I.ok.has, I.ok.cab, I.ok.hd, I.ok.frames, I.ok.stk, I.ok.exf, I.ok.bs, I.ok.bsz, I.ok.noex, I.ok.exfs, I.ok.funs, I.ok.frf⟩, I.os, I.bare, I.base, I.loc, I.cell, I.free, I.freeC, I.pin, I.hok, I.len⟩
theorem Inv.unX (I : Inv (yX X xs ys scope C s₀ H₀ fp E) pins σ H s) : Inv (yO X xs ys scope C s₀ H₀ fp) pins σ H s :=
 ⟨⟨I.ok.mod, I.ok.kind, I.ok.glob, I.ok.blt, I.ok.above, I.ok.inj, I.ok.has, I.ok.cab, I.ok.hd, I.ok.frames, I.ok.stk, I.ok.exf, I.ok.bs, I.ok.bsz, I.ok.noex, I.ok.exfs, I.ok.funs, I.ok.frf⟩, I.os, I.bare, I.base, I.loc, I.cell, I.free, I.freeC, I.pin, I.hok, I.len⟩
theorem passB : jS (CX1 X.prog X.w) (yX X xs ys scope C s₀ H₀ fp E) E := fun pins σ H s e s' I h => ⟨pins, σ, H, s, I.unX, h⟩
end
section
variable {X : Cx} {pins : List (Addr × Obj)} {σ : St} {H : Hp} {s : Shared} {xs ys : List Str} {scope : Scope} {js : List Nat} {tg iter elt : Expr} {pos : Pos} {wi : TI} {g : TG} {te : TE}
theorem vR {prog : Program} {w : World} {A : Around} {R : Result -> Shared -> Prop} {it acc : Value} {env : Env} (J : Nat -> Shared -> Prop)
   (turn : ∀ n s, J n s -> wpAny (model prog w) A (pyNext it) (fun r s₁ => match r with
     | none => R (.ok .next) s₁
     | some v => wpAny (model prog w) A (letOwnedTupleGo tg it v) (fun _ s₁' => wpAny (model prog w) A (assign tg env v) (fun _ s₂ =>
         wpAny (model prog w) A (eval elt env) (fun x s₄ =>
             wpAny (model prog w) A (call (.builtin "list.append") [acc, x]) (fun _ s₅ => ∃ m, m < n /\ J m s₅) (notedBy (model prog w) A env fun x s' => R (.error x) s') s₄) (notedBy (model prog w) A env fun x s' => R (.error x) s') s₂) (notedBy (model prog w) A env fun x s' => R (.error x) s') s₁') (notedBy (model prog w) A env fun x s' => R (.error x) s') s₁) (notedBy (model prog w) A env fun x s' => R (.error x) s') s)
   (n : Nat) (h : J n s) : codeAny (model prog w) A (.compLoop (.ListComp elt [⟨tg, iter, [], 0⟩] scope pos) 0 it acc env) R s := by
 refine codeAny_loop rfl J (fun n s hI => ?_) n h
 show wpAny _ A ((compTurn (.ListComp elt [⟨tg, iter, [], 0⟩] scope pos) 0 it acc env).onRaise (fun x => do noteFrame x env; theTreesLotGoes x)) _ _ s
 refine wpAny_noted ?_
 rw [compTurn_list]
 refine wpAny_bind (wpAny_standAt (wpAny_bind (thn (turn n s hI) fun r s₁ h₁ => ?_)))
 cases r with
 | none => exact wpAny_pure h₁
 | some v =>
   refine wpAny_bind (thn h₁ fun _ s₁' h₁' => wpAny_bind (thn h₁' fun _ s₂ h₂ => wpAny_bind (wpAny_tests_nil ?_)))
   exact wpAny_bind (wpAny_bind (thn h₂ fun x s₄ h₄ => wpAny_bind (thn h₄ fun _ s₅ h₅ => wpAny_pure (wpAny_pure ⟨rfl, h₅⟩))))
theorem lc_coreX {E : XK} (hc : X.calm = true) (S : LcScope xs ys scope X.env.scope) (hj : Caps X ys js) (hi : PI X tg iter wi)
   (hg : ∀ C s₀ H₀ fp, PG (yX X xs ys scope C s₀ H₀ fp E) tg g) (he : ∀ C s₀ H₀ fp, PE (yX X xs ys scope C s₀ H₀ fp E) elt te)
   {RR : Value -> Addr -> Result -> Shared -> Prop} {Q : VK} (I : Inv X pins σ H s) (h : tLC xs js wi g none te σ H Q)
   (err : ∀ (D C : Addr) (s2 : Shared) (H2 : Hp) (fp : List Addr), Inv X pins σ H2 s2 -> (∀ b ∈ fp, vT X pins H2 b) -> s2.heap.objs.size <= C -> ∀ e s', (yX X xs ys scope C s2 H2 fp E).xe e s' -> notedBy (model X.prog X.w) X.A (compEnvC scope (yU X.env scope.names []) C X.env) (fun x s'' => RR (.ref D) C (.error x) s'') e s')
   (fin : ∀ D C H' s', LcEnd X pins σ C H' s' -> Q (.ref D) H' -> RR (.ref D) C (.ok .next) s') :
   wpAny (model X.prog X.w) X.A (eval iter X.env) (fun x s₁ => wpAny (model X.prog X.w) X.A (pyIter x) (fun it s₂ => wpAny (model X.prog X.w) X.A (newList []) (fun acc s₃ =>
     wpAny (model X.prog X.w) X.A (newFunctionEnv scope X.env.globals (yU X.env scope.names []) [] X.env.qual none .none (some X.env)) (fun cenv s₄ =>
       codeAny (model X.prog X.w) X.A (.compStart (.ListComp elt [⟨tg, iter, [], 0⟩] scope pos) 0 it acc { cenv with scope := relabel scope X.env }) (RR acc cenv.locals) s₄) X.xe s₃) X.xe s₂) X.xe s₁) X.xe s := by
 refine thn (hi pins s σ H _ I h) fun v s1 h1 => thn h1 fun itv s2 h2 => ?_
 obtain ⟨it, fp, tn, J, H2, e, I2, T, st2, f2, W, ⟨m0, w0⟩, turn⟩ := h2
 subst e
 have fo : ∀ b ∈ fp, b < s2.heap.objs.size := fun b hb => let ⟨o, e, _⟩ := T.obj _ _ st2 b hb; Heap.lt_size e
 refine wpAny_newObj_type (wpAny_newFunctionEnv S.nocell (by intro y hy; simp at hy) (fun h₁ hns₁ hsb₁ => ?_) S.kind)
 dsimp only at hns₁ hsb₁ ⊢
 generalize hH2 : s2.heap.push { cls := .type "list", dict := none, data := .seq ([] : List Value).toArray } = G at hns₁ hsb₁ ⊢
 have hC : G.objs.size = s2.heap.objs.size + 1 := by rw [← hH2, Heap.size_push]
 have hDC : s2.heap.objs.size ≠ G.objs.size := by rw [hC]; exact Nat.ne_of_lt (Nat.lt_succ_self _)
 have hCle : s2.heap.objs.size <= G.objs.size := by rw [hC]; exact Nat.le_succ _
 have below : ∀ b, b < s2.heap.objs.size -> b ≠ G.objs.size /\ b ≠ s2.heap.objs.size := fun b hb => ⟨by rw [hC]; exact Nat.ne_of_lt (Nat.lt_succ_of_lt hb), Nat.ne_of_lt hb⟩
 have old : ∀ b o, s2.heap.get? b = some o -> h₁.get? b = some o := fun b o e => hsb₁.extBut b o (below b (Heap.lt_size e)).1 (Heap.get?_push_of_some _ (hH2 ▸ Heap.get?_push_of_some _ e))
 have hacc : h₁.get? s2.heap.objs.size = some (LCg.lst []) := hsb₁.extBut _ _ hDC (Heap.get?_push_of_some _ (hH2 ▸ Heap.get?_push_size _ rfl))
 have st₁ : tn 0 h₁ := T.keep _ _ _ st2 fun b _ o e => old b o e
 have I3 : Inv (yX X xs ys scope G.objs.size s2 H2 fp E) _ _ _ _ := Inv.toX (uN (C := G.objs.size) (D := s2.heap.objs.size) (tk := s2.toks + ([] : List (Str × Value)).length) I2 S hj f2 fo hCle (Nat.le_refl _) hDC hns₁ hacc (by intro v hv; cases hv) old)
 generalize hX : yX X xs ys scope G.objs.size s2 H2 fp E = B at I3
 have pB : B.prog = X.prog := by rw [← hX]; rfl
 have wB : B.w = X.w := by rw [← hX]; rfl
 have kB : B.K = X.K := by rw [← hX]; rfl
 have aB : B.A = X.A := by rw [← hX]; rfl
 have eB : B.env = compEnvC scope (yU X.env scope.names []) G.objs.size X.env := by rw [← hX]; rfl
 have cB : B.calm = true := by rw [← hX]; exact hc
 have xB : ∀ e s', B.xe e s' -> notedBy (model X.prog X.w) X.A (compEnvC scope (yU X.env scope.names []) G.objs.size X.env) (fun x s'' => RR (.ref s2.heap.objs.size) G.objs.size (.error x) s'') e s' := by rw [← hX]; exact err _ _ _ _ _ I2 f2 hCle
 have gB : PG B tg g := by rw [← hX]; exact hg _ _ _ _
 have elB : PE B elt te := by rw [← hX]; exact he _ _ _ _
 have sB : B.s₀ = s2 := by rw [← hX]; rfl
 have hB : B.H₀ = H2 := by rw [← hX]; rfl
 have fB : B.fs = frs X.stack := by rw [← hX]; rfl
 have exB : B.ex = fp := by rw [← hX]; rfl
 have pnB : B.pn = [] := by rw [← hX]; rfl
 have statB : ∀ {H' : Hp} {oD : Obj} {σ' : St} {s' : Shared}, Inv B [(s2.heap.objs.size, oD)] σ' H' s' -> (∀ b ∈ fp, H' b = none) -> ∀ b ∈ fp, vT B [(s2.heap.objs.size, oD)] H' b := fun {H' oD σ' s'} I' hn b hb =>
   ⟨hn b hb, (I'.ok.exf b (exB ▸ hb)).1, I'.ok.exfs b (exB ▸ hb), .inl (exB ▸ hb), (I'.ok.exf b (exB ▸ hb)).2, fun p hp => by
     rw [pnB] at hp
     have e := List.mem_singleton.mp (show p ∈ [(s2.heap.objs.size, oD)] from hp)
     subst e
     exact Nat.ne_of_gt (fo b hb)⟩
 have loop : ∀ s₃ : Shared, s₃ = { s2 with heap := h₁, toks := s2.toks + ([] : List (Str × Value)).length } ->
     codeAny (model X.prog X.w) X.A (.compLoop (.ListComp elt [⟨tg, iter, [], 0⟩] scope pos) 0 (.ref it) (.ref s2.heap.objs.size) (compEnvC scope (yU X.env scope.names []) G.objs.size X.env)) (RR (.ref s2.heap.objs.size) G.objs.size) s₃ := by
   rintro s₃ rfl
   refine vR (fun n s' => ∃ i ys its σ1 H', Inv B [(s2.heap.objs.size, LCg.lst its)] σ1 H' s' /\ Vals ys its /\ tn i s'.heap /\ (∀ b ∈ fp, H' b = none) /\ ys.length <= sizeLine /\ W i n ys σ1 H') ?_ m0
     ⟨0, [], [], _, H2, I3, .nil, st₁, fun b hb => (f2 b hb).1, Nat.zero_le _, w0⟩
   rintro n s' ⟨i, ys', its, σ1, H', I', rv, st', fr', hz, w'⟩
   have rl := rv.length
   rcases turn i n ys' σ1 H' w' with ⟨stop, qn⟩ | ⟨go, hz', step⟩
   · have q := T.done B pB wB kB cB i _ s' σ1 H' (notedBy (model X.prog X.w) X.A (compEnvC scope (yU X.env scope.names []) G.objs.size X.env) (fun x s'' => RR (.ref s2.heap.objs.size) G.objs.size (.error x) s'')) I' (statB I' fr') st' stop
     rw [aB] at q
     refine thn q fun r s4 ⟨hr, I4⟩ => ?_
     subst hr
     have pD := (I4.pin (s2.heap.objs.size, LCg.lst its) (List.mem_append_right _ List.mem_cons_self))
     have hDn : H' s2.heap.objs.size = none := pD.2.1
     have ub := I4.base
     rw [fB, exB, hB, sB] at ub
     have neD : ∀ {b : Addr} {o : HO}, H' b = some o -> b ≠ s2.heap.objs.size := fun e z => by rw [z, hDn] at e; cases e
     have upk : ∀ {b : Addr} {o : HO}, H' b = some o -> upd H' s2.heap.objs.size (.lst ys') b = some o := fun e => by rw [yA (neD e)]; exact e
     have u : Un (frs X.stack) fp H2 (upd H' s2.heap.objs.size (.lst ys')) s2.heap s4.heap :=
       ⟨ub.keep, ub.slot, fun b o e n hx => by rw [yA (below b (Heap.lt_size e)).2]; exact ub.free b o e n hx, ub.there, fun b zs e => upk (ub.tups b zs e), fun b o zs e => upk (ub.frzs b o zs e), fun b ps e => let ⟨more, q⟩ := ub.tbls b ps e; ⟨more, upk q⟩⟩
     have hok4 : HOk X.prog X.w H' s4.heap := by have := I4.hok; rw [pB, wB] at this; exact this
     have hok : HOk X.prog X.w (upd H' s2.heap.objs.size (.lst ys')) s4.heap := fun b o e => by
       by_cases hb : b = s2.heap.objs.size
       · subst hb
         rw [zK] at e
         cases e
         exact ⟨hz, its, its.length, rv, pD.1⟩
       · rw [yA hb] at e
         exact (hok4 b o e).stay (fun _ _ _ q => q) (fun _ q => upk q) fun _ _ q => upk q
     have I5 : Inv X pins σ (upd H' s2.heap.objs.size (.lst ys')) s4 := I2.call' (ch := fp) (by rw [I4.os, sB]) u hok I4.bare fun b hb => let f := f2 b hb; ⟨f.2.2.2.1, f.2.1, f.2.2.2.2.1, f.2.2.2.2.2⟩
     refine fin s2.heap.objs.size G.objs.size _ s4 ⟨I5, ?_, ?_, ?_, Nat.le_trans I2.sz hCle, fun x c e z => ?_, fun p hp z => ?_⟩ (qn _ hDn)
     · obtain ⟨m, hn, _⟩ := I4.loc
       rw [eB] at hn
       exact ⟨m, hn⟩
     · have fr := I4.free
       rw [eB] at fr
       rw [yA (Ne.symm hDC)]
       exact fr
     · exact Ne.symm (below _ I2.lt).1
     · obtain ⟨_, o, ho, _⟩ := I2.cell x c e
       exact (below c (Heap.lt_size ho)).1 z
     · exact (below p.1 (Heap.lt_size (I2.pin p hp).1)).1 z
   · have q := T.item B pB wB kB cB i _ s' σ1 H' (notedBy (model X.prog X.w) X.A (compEnvC scope (yU X.env scope.names []) G.objs.size X.env) (fun x s'' => RR (.ref s2.heap.objs.size) G.objs.size (.error x) s'')) I' (statB I' fr') st' go
     rw [aB] at q
     refine thn q fun r s4 ⟨u, hr, h4⟩ => ?_
     subst hr
     refine thn h4 fun _ s5 ⟨x, H5, I5, r5, y5, st5, fr5⟩ => ?_
     have I5' := I5.pinned (statB I5 fr5) (T.obj _ _ st5)
     have q5 := gB _ s5 σ1 H5 x u _ I5' r5 (step x H5 y5)
     rw [pB, wB, aB, eB] at q5
     refine wpAny_mono q5 ?_ xB
     intro _ s6 ⟨σ6, H6, I6, q6⟩
     have last : ∀ {s7 : Shared} {H7 : Hp}, Inv B ([(s2.heap.objs.size, LCg.lst its)] ++ xD fp s5.heap) σ6 H7 s7 -> (te σ6 H7 fun y H8 => ∃ m', m' < n /\ W (i + 1) m' (ys' ++ [y]) σ6 H8) ->
         wpAny (model X.prog X.w) X.A (eval elt (compEnvC scope (yU X.env scope.names []) G.objs.size X.env)) (fun x s₄ =>
             wpAny (model X.prog X.w) X.A (call (.builtin "list.append") [.ref s2.heap.objs.size, x]) (fun _ s₅ => ∃ m, m < n /\
               ∃ i ys its σ1 H', Inv B [(s2.heap.objs.size, LCg.lst its)] σ1 H' s₅ /\ Vals ys its /\ tn i s₅.heap /\ (∀ b ∈ fp, H' b = none) /\ ys.length <= sizeLine /\ W i m ys σ1 H') (notedBy (model X.prog X.w) X.A (compEnvC scope (yU X.env scope.names []) G.objs.size X.env) (fun x s'' => RR (.ref s2.heap.objs.size) G.objs.size (.error x) s'')) s₄) (notedBy (model X.prog X.w) X.A (compEnvC scope (yU X.env scope.names []) G.objs.size X.env) (fun x s'' => RR (.ref s2.heap.objs.size) G.objs.size (.error x) s'')) s7 := fun {s7 H7} I7 q7 => by
       have q8 := elB _ s7 σ6 H7 _ I7 q7
       rw [pB, wB, aB, eB] at q8
       refine wpAny_mono q8 ?_ xB
       intro uy s8 ⟨y, H8, I8, r8, m', hm', w8⟩
       have pD := (I8.pin (s2.heap.objs.size, LCg.lst its) (List.mem_append_right _ (List.mem_append_left _ List.mem_cons_self)))
       refine append_at (its := its.toArray) (n := its.length) pD.1 (fun h9 hs9 hd9 => ?_) (by rw [List.size_toArray, ← rl]; exact hz)
       have dropped : Inv B (xD fp s5.heap) σ6 H8 s8 := I8.pins_of fun p hp => I8.pin p (List.mem_append_right _ (List.mem_append_right _ hp))
       have apart : ∀ p ∈ B.pn ++ xD fp s5.heap, p.1 ≠ s2.heap.objs.size := fun p hp => by
         rw [pnB] at hp
         exact Nat.ne_of_lt (fo _ (uF (show p ∈ xD fp s5.heap from hp)).1)
       have I9 : Inv B (xD fp s5.heap) σ6 H8 { s8 with heap := h9 } := dropped.turned (t' := s8.toks) (fun b o hb e => hs9.extBut b o hb e) pD.2.1 pD.2.2.1 (.inr (by rw [sB]; exact Nat.le_refl _)) (fun x c e => by
         intro z
         obtain ⟨v, o, ho, hd⟩ := I8.cell x c e
         rw [z, pD.1] at ho
         cases ho
         cases hd) apart
       have I9' : Inv B [(s2.heap.objs.size, LCg.lst (its ++ [uy]))] σ6 H8 { s8 with heap := h9 } := I9.pins_of fun p hp => by
         have e := List.mem_singleton.mp hp
         subst e
         exact ⟨hd9.trans (congrArg some (LCg.lst_snoc its uy)), pD.2.1, pD.2.2.1, pD.2.2.2.1, by intro v hv; cases hv⟩
       refine ⟨m', hm', i + 1, ys' ++ [y], its ++ [uy], σ6, H8, I9', Vals.append rv (.cons r8 .nil), T.keep _ _ _ st5 fun b hb o e => ?_, fun b hb => ?_, by rw [List.length_append]; exact hz', w8⟩
       · exact (I9.pin (b, o) (List.mem_append_right _ (yZ hb e))).1
       · obtain ⟨o, e, d⟩ := T.obj _ _ st5 b hb
         exact (I9.pin (b, o) (List.mem_append_right _ (yZ hb e))).2.1
     exact last I6 q6
 exact codeAny_compStart_list (loop _ rfl) (T.self _ 0 _ _ _ st₁ (loop _ rfl))
end
section
variable {P : Program} {w : World} {K : PySem.W.Frag} {mg : Str -> Option Value} {base : Heap} {N : List Str} {qual : Str} {scope0 : Scope} {f : Addr} {cd : Value} {A : Around} {outer : List Env} {s₀ : Shared} {H₀ : Hp} {E : XK}
 {xs ys : List Str} {scope : Scope} {js : List Nat} {tg iter elt : Expr} {pos : Pos} {wi : TI} {g : TG} {te : TE}
theorem pe_compX (xs ys : List Str) (js : List Nat) (hi : PI (yQ (CX1 P w) P w K mg base N qual scope0 f cd A outer s₀ H₀ E) tg iter wi)
   (hg : ∀ C s1 H1 fp, (xs ++ ys).Nodup -> PG (yX (yQ (CX1 P w) P w K mg base N qual scope0 f cd A outer s₀ H₀ E) xs ys scope C s1 H1 fp E) tg g)
   (he : ∀ C s1 H1 fp, PE (yX (yQ (CX1 P w) P w K mg base N qual scope0 f cd A outer s₀ H₀ E) xs ys scope C s1 H1 fp E) elt te)
   (S : lcOk xs ys scope scope0 = true := by rfl) (hj : capOk N ys js = true := by rfl)
   (hs : ∀ x, foldedSetIterable iter (yQ (CX1 P w) P w K mg base N qual scope0 f cd A outer s₀ H₀ E).env x = pure x := by intro _; rfl) : PE (yQ (CX1 P w) P w K mg base N qual scope0 f cd A outer s₀ H₀ E) (.ListComp elt [⟨tg, iter, [], 0⟩] scope pos) (tLC xs js wi g none te) := by
 intro pins s σ H Q I h
 have S := lcOk.scope S
 have bd : Body (yQ (CX1 P w) P w K mg base N qual scope0 f cd A outer s₀ H₀ E) := kK
 rw [eval_ListComp]
 refine wpAny_comprehension_free (use := none) rfl hs (qK (kJ I S)) S.kind S.names ?_
 refine lc_coreX (E := E) (RR := fun acc C => compPost (model P w) (A.deeper (envOfC qual scope0 s₀.heap.objs.size f cd)) (yQ (CX1 P w) P w K mg base N qual scope0 f cd A outer s₀ H₀ E).xe none (EP (yQ (CX1 P w) P w K mg base N qual scope0 f cd A outer s₀ H₀ E) pins σ Q) acc C) rfl S (capOk.caps hj) hi (fun C s₀ H₀ fp => hg C s₀ H₀ fp S.nd) he I h ?_ fun D C H' s' L q => ?_
 rotate_left
 · obtain ⟨m, hn⟩ := L.ns
   exact ⟨m, hn, fun h'' hs'' => ⟨.ref D, H', L.gone hs'', rfl, q⟩⟩
 rintro D C s2 H2 fp I2 f2 hC e s' ⟨pins', σ', Hb, sb, Ib, ea, Cl, a0, B, H', rfl, os, bare, x, q⟩
 have IX : Inv (yQ (CX1 P w) P w K mg base N qual scope0 f cd A outer s₀ H₀ E) pins σ Hb sb := I2.call' (ch := fp) Ib.os Ib.base Ib.hok Ib.bare fun b hb => let f := f2 b hb; ⟨f.2.2.2.1, f.2.1, f.2.2.2.2.1, f.2.2.2.2.2⟩
 have nC : Hb C = none := Ib.free
 obtain ⟨m, hn, _⟩ := Ib.loc
 have hn : sb.heap.Ns C m := hn
 obtain ⟨oC, es, ep, hoC, hdC, rC⟩ := id hn
 have hfC : C ∉ frs (envOfC qual scope0 s₀.heap.objs.size f cd :: outer) := fun z => by
   obtain ⟨_, o2, h3, _⟩ := I2.stack.mem z
   exact absurd (Heap.lt_size h3) (Nat.not_lt.mpr hC)
 obtain ⟨oB, hB, hoB⟩ := x.stay C oC hoC hfC
 have := hoB nC
 subst this
 have hC0 : s₀.heap.get? C = none := Heap.get?_none_of_le (Nat.le_trans I2.sz hC)
 have nf : ∀ vs, oB.data ≠ .fields vs := fun vs z => by rw [hdC] at z; cases z
 show wpAny _ _ (noteFrame (.ref ea) (envOfC qual scope0 s₀.heap.objs.size f cd)) _ _ s'
 refine wpAny_looks_onW I.ok.frames rfl x.fly fun h4 held4 u4 => ?_
 have hn4 : h4.Ns C m := u4.ns ⟨_, es, ep, x.fly.1 _ _ hB, hdC, rC⟩
 refine ⟨m, hn4, fun h' hs' cenv hcenv => ?_⟩
 obtain ⟨g1, g2, g3, oe, vs, T, oT, ts, he', hc', hd', h1', hnT, hTe, hT, hdT, h3⟩ := held4
 have neC : ea ≠ C := fun z => by rw [z, hB] at g2; cases g2
 have neT : T ≠ C := fun z => by rw [z, hB] at hnT; cases hnT
 have hst : (PySem.W.hideAll B [C]).StaysIn B := fun b o q => PySem.W.of_hideAll _ q
 have ne' : ∀ b o, (PySem.W.hideAll B [C]).get? b = some o -> b ≠ C := fun b o q z => by rw [z, PySem.W.hideAll_none [C] (.head _)] at q; cases q
 have R : FlyA (PySem.W.hideAll B [C]) (envOfC qual scope0 s₀.heap.objs.size f cd :: outer) ea (.ref Cl) a0 (rawInt s₀.heap.objs.size) h' :=
   ⟨fun b o q => (hs'.2 b (ne' b o q)).trans (g1 b o (hst b o q)), PySem.W.fresh_of_stays hst g2, vP hst hB hs'.2 g3, oe, vs, T, oT, ts, (hs'.2 ea neC).trans he', hc', hd', h1', PySem.W.fresh_of_stays hst hnT, hTe, (hs'.2 T neT).trans hT, hdT, h3⟩
 have fin : ∀ fr : Option Addr, wpAny (model P w) (A.deeper (envOfC qual scope0 s₀.heap.objs.size f cd)) (setFlight (.ref ea) fr) (fun _ s5 => (yQ (CX1 P w) P w K mg base N qual scope0 f cd A outer s₀ H₀ E).xe (.ref ea) s5) (yQ (CX1 P w) P w K mg base N qual scope0 f cd A outer s₀ H₀ E).xe { s' with heap := h' } := fun fr => by
   refine fly_flight (s := { s' with heap := h' }) R fun h5 R5 u5 => ?_
   refine fly_leaves (s := { s' with heap := h5 }) I.ok.frames rfl R5 fun h6 f6 u6 => ?_
   refine ⟨ea, Cl, a0, _, H', rfl, os.trans IX.os, bare, Fl.upC bd IX x hC0 nC hoC f6 fun c o hc ho hno => ?_, q⟩
   obtain ⟨sl, h7⟩ := u4 c o ho hno
   have h8 : h'.get? c = _ := (hs'.2 c hc).trans h7
   obtain ⟨sl2, h9⟩ := (u5.trans u6) c _ h8 hno
   exact ⟨sl2, h9⟩
 unfold PySem.passOn
 refine wpAny_bind (wpAny_field ((hs'.2 ea neC).trans he') hd' h1' ?_)
 rw [if_neg (show ¬ ((Value.ref T == Value.none) = true) from by simp)]
 first
   | exact wpAny_bind (wpAny_pure (wpAny_bind (thn (fin cenv.frame) fun _ s5 z => wpAny_throw z)))
   | exact wpAny_bind (thn (fin cenv.frame) fun _ s5 z => wpAny_throw z)
theorem wE {C : Addr} {s1 : Shared} {H1 : Hp} {fp : List Addr} {k : Nat} {x : Str} {ps : List Str} {sp : Sp} {e : Expr} {es : List Expr} {t : TA} {p pos : Pos} (h : HasX P w K mg base k x ps sp) (hr : Room k (A.deeper (envOfC qual scope0 s₀.heap.objs.size f cd)))
   (hg : Gl (yX (yQ (CX1 P w) P w K mg base N qual scope0 f cd A outer s₀ H₀ E) xs ys scope C s1 H1 fp E) x) (ha : PA (yX (yQ (CX1 P w) P w K mg base N qual scope0 f cd A outer s₀ H₀ E) xs ys scope C s1 H1 fp E) (e :: es) t) (hdb : (x == ("__debug__" : Str)) = false := by decide)
   (he : starEach (e :: es) (yX (yQ (CX1 P w) P w K mg base N qual scope0 f cd A outer s₀ H₀ E) xs ys scope C s1 H1 fp E).env = (false, eval e (yX (yQ (CX1 P w) P w K mg base N qual scope0 f cd A outer s₀ H₀ E) xs ys scope C s1 H1 fp E).env) :: starEach es (yX (yQ (CX1 P w) P w K mg base N qual scope0 f cd A outer s₀ H₀ E) xs ys scope C s1 H1 fp E).env := by rfl)
   (hpl : (backTo pos (starEach es (yX (yQ (CX1 P w) P w K mg base N qual scope0 f cd A outer s₀ H₀ E) xs ys scope C s1 H1 fp E).env)).any (·.1) = false := by rfl) :
   PE (yX (yQ (CX1 P w) P w K mg base N qual scope0 f cd A outer s₀ H₀ E) xs ys scope C s1 H1 fp E) (.Call (.Name x p) (e :: es) [] pos) (tCall sp [] E t) := by
 obtain ⟨f', fd, F, b, kp, m⟩ := h.ex
 exact wY (X := yX (yQ (CX1 P w) P w K mg base N qual scope0 f cd A outer s₀ H₀ E) xs ys scope C s1 H1 fp E) F hr hg m kp b .nil passB ha hdb he hpl
end
end L2
set_option maxHeartbeats 8000000
namespace C
open PySem L2
seal PE PT PW PA PS PSs PG PGs PI PPs PO PSet PIf
def top (i : Nat) : Stmt := PySem.Challenge.pw_clashbook_k08_bounds_of_texts.main.body.getD i (.Pass ⟨0, 0, 0, 0⟩)
abbrev s_o : Stmt := top 26
theorem sc_o : FnScope ["script", "k"] ["script", "k"] (zE s_o) := ⟨rfl, rfl, rfl, by decide +kernel, rfl, by decide +kernel, by decide +kernel⟩
def uC (K : PySem.W.Frag) : Sp := fun vs H Q _ => ∃ (a : Addr) (ns : List Int) (k : Nat), vs = [.ref a, .int k] /\ SqL K H a (ns.map V.int) /\ Q (.int (ns.getD k 0)) H
def whole : List Tm -> Tm
 | [t] => t
 | ts => .node "both" ts
section
variable {P : Program} {w : World} {K : PySem.W.Frag} {mg : Str -> Option Value} {base : Heap} {f : Addr} {fd : FuncData}
theorem ok_cell (bi : Bi mg) (F : Fun K "_law_cell_at" "_law_cell_at" s_o f fd) : FnOk P w K mg base CX0 1 f fd ["script", "k"] (uC K) := by
 refine F.ok sc_o (fun vs H Q E h => ?_) (fun cdv A outer s H vs Q E hr h => ?_)
 · obtain ⟨a, ns, k, rfl, _⟩ := h
   rfl
 obtain ⟨a, ns, k, rfl, hS, q⟩ := h
 refine ⟨_, (zB (yB (zQ op_lt (pv 1) (zO call_len rfl bi.len bt_len (zA (pv 0) pa_nil)) (zN _)) (zD (zM (yC ix_list (pv 0) (pv 1) (fun _ _ => rfl)))) pss_nil) (zD (zM zC))), ?_⟩
 simp only [tSeq, tFor_eq, tLC_eq, iRng1, iRng2, iList, iTup, iStr, tIfS, tRet, tRetN, tNext, tAsg, gName, tVar, tC, tOp, rI0, rI, tTest, tB, rEq, rNe, tCall, tCons, tNil, tCB, tLst, tTup, tAnd, tOr, tNot, tAndV, tOrV, tNotV, tIf, tDrop, tSl, tPart, tNoPart, tChain, tUn, rU, L2.start, cx_K, bk_K, cx_calm, bk_calm, lenV_str, and_assoc, Option.join, List.length_map, List.length_append, decide_eq_true_eq, Bool.false_eq_true, if_false, if_true, Bool.not_true, Bool.not_false, Bool.not_eq_true', decide_eq_false_iff_not, Bool.true_eq_false, List.length_cons, List.length_nil, List.map_cons, List.map_nil, List.replicate, List.cons_append, List.nil_append, List.append_nil, List.getElem?_cons_zero, List.getElem?_cons_succ, List.set_cons_zero, List.set_cons_succ, Nat.reduceSub, Nat.reduceAdd, Option.some.injEq, V.int.injEq, V.str.injEq, V.bl.injEq, V.ref.injEq, List.cons.injEq, and_true, true_and, exists_eq_left', exists_eq_left, exists_and_left, exists_eq_right, exists_const]
 refine ⟨_, .inl ⟨_, hS, rfl⟩, ?_⟩
 split
 · rename_i hk
   rw [List.length_map] at hk
   exact ⟨a, _, k, _, rfl, rfl, hS, ix_nat hk, q⟩
 · rename_i hk
   rw [List.length_map] at hk
   rw [List.getD_eq_getElem?_getD, List.getElem?_eq_none (by omega)] at q
   exact q
theorem wI (c : Int) : ∃ d : Nat, atI ("abcdefghijklmnopqrstuvwxyz" : Str).cps.toList (c % 26) = some d /\ 97 <= d /\ d <= 122 := by
 have h : ∀ k : Fin 26, ∃ d : Nat, ("abcdefghijklmnopqrstuvwxyz" : Str).cps.toList[k.val]? = some d /\ 97 <= d /\ d <= 122 := by decide +kernel
 have h1 : 0 <= c % 26 := Int.emod_nonneg _ (by omega)
 have h2 : c % 26 < 26 := Int.emod_lt_of_pos _ (by omega)
 have e : c % 26 = ((c % 26).toNat : Nat) := by omega
 obtain ⟨d, h3, h4⟩ := h ⟨(c % 26).toNat, by omega⟩
 refine ⟨d, ?_, h4⟩
 rw [e]
 exact yM h3
end
abbrev s_i : Stmt := top 27
theorem sc_i : FnScope ["t", "mark", "made", "part"] ["t"] (zE s_i) := ⟨rfl, rfl, rfl, by decide +kernel, rfl, by decide +kernel, by decide +kernel⟩
abbrev s_a : Stmt := top 28
theorem sc_a : FnScope ["saying"] ["saying"] (zE s_a) := ⟨rfl, rfl, rfl, by decide +kernel, rfl, by decide +kernel, by decide +kernel⟩
abbrev s_b : Stmt := top 29
theorem sc_b : FnScope ["rule", "made", "one"] ["rule"] (zE s_b) := ⟨rfl, rfl, rfl, by decide +kernel, rfl, by decide +kernel, by decide +kernel⟩
def spWr : Nat -> Sp
 | 0 => fun _ _ _ _ => False
 | n + 1 => fun vs H Q _ => ∃ (v : V) (t : Tm), vs = [v] /\ TAt H t v /\ Fit n t /\ wt t <= 900 /\ ∀ H', Same H H' -> Q (.str (wrS t)) H'
def spWrS : Sp := fun vs H Q _ => ∃ (v : V) (p : Tm × Tm), vs = [v] /\ SAt H p v /\ vU 20 900 p /\ ∀ H', Same H H' -> Q (.str (jC p)) H'
def spWrR : Sp := fun vs H Q _ => ∃ (v : V) (r : List (Tm × Tm) × (Tm × Tm)), vs = [v] /\ RAt H r v /\ r.1.length <= 10 /\ (∀ p ∈ r.1, vU 20 900 p) /\ vU 20 900 r.2 /\ ∀ H', Same H H' -> Q (.str (jZ r)) H'
theorem big {n : Nat} (h : n <= 1000000) : n <= sizeLine := Nat.le_trans h (by decide)
section
variable {P : Program} {w : World} {K : PySem.W.Frag} {mg : Str -> Option Value} {base : Heap} {f : Addr} {fd : FuncData}
theorem ok_written (bi : Bi mg) (F : Fun K "_law_written" "_law_written" s_i f fd) (b : Binds K fd ["t"] []) (m : mg "_law_written" = some (.ref f)) : ∀ n, FnOk P w K mg base CX0 n f fd ["t"] (spWr n) := by
 refine wW F b m (fun vs H Q E h => h) (fun n h_i => ?_)
 refine F.ok sc_i (fun vs H Q E h => ?_) (fun cdv A outer s H vs Q E hr h => ?_)
 · obtain ⟨v, t, rfl, _⟩ := h
   rfl
 obtain ⟨v, t, rfl, ht, hf, hw, q⟩ := h
 refine ⟨_, (zB (yB (zQ op_eq (yC ix_tup (pv 0) zC (fun _ _ => rfl)) zF (zN _)) (zD (zM (yC ix_tup (pv 0) zC (fun _ _ => rfl)))) pss_nil) (zB (yB (zQ op_eq (zO call_len rfl bi.len bt_len (zA (pv 0) pa_nil)) zC (zN _)) (zD (zM (yC ix_tup (pv 0) zC (fun _ _ => rfl)))) pss_nil) (zB (yB (zQ op_eq (yC ix_tup (pv 0) zC (fun _ _ => rfl)) zF (zN _)) (zD (zM (zI op_add_str zF (zS h_i hr rfl (zA (yC ix_tup (pv 0) zC (fun _ _ => rfl)) pa_nil))))) pss_nil) (zB (zR (i := 1) sc_i.nd rfl (Or.inl rfl) zF) (zB (yB (zQ op_eq (yC ix_tup (pv 0) zC (fun _ _ => rfl)) zF (zN _)) (zD (zR (i := 1) sc_i.nd rfl (Or.inl rfl) zF)) pss_nil) (zB (zR (i := 2) sc_i.nd rfl (Or.inl rfl) (zI op_add_str zF (zS h_i hr rfl (zA (yC ix_tup (pv 0) zC (fun _ _ => rfl)) pa_nil)))) (zB (xN PassesOwn.never rfl (pi_tup (jG sl_tup (pv 0) (jO zC) po_none)) (yV (i := 3) sc_i.nd rfl (Or.inl rfl)) (zD (zR (i := 2) sc_i.nd rfl (Or.inl rfl) (zI op_add_str (zI op_add_str (pv 2) (pv 1)) (zS h_i hr rfl (zA (pv 3) pa_nil)))))) (zD (zM (zI op_add_str (pv 2) zF)))))))))), ?_⟩
 cases t with
 | name x =>
   obtain ⟨a, rfl, ha⟩ := TAt.name ht
   simp! []
   refine ⟨_, SqT.of ha, .str "name", at0, rfl, ?_⟩
   rw [if_pos rfl]
   rw [qP] at q
   exact ⟨_, SqT.of ha, .str x, at1, q _ (Same.refl _)⟩
 | node wd ts =>
   obtain ⟨a, us, rfl, ha, hu⟩ := TAt.node ht
   have hwd := hf.wrd
   have hl := hu.length
   have hll := wts_len ts
   have hsh := hf.sh
   rw [wt] at hw
   have part : ∀ (i : Nat) (t : Tm), ts[i]? = some t -> ∃ m, n = m + 1 /\ Fit m t /\ wt t <= 900 := fun i t hi => by
     have hm := List.mem_of_getElem? hi
     have := wts_mem hm
     cases n with
     | zero => rw [hf.2] at hm; cases hm
     | succ n => exact ⟨n, rfl, hf.part hm, by omega⟩
   refine zG fun N hN => ?_
   simp! []
   refine ⟨_, SqT.of ha, .str wd, at0, rfl, ?_⟩
   rw [if_neg (fun e => hwd.ne (V.str.inj e))]
   refine hN _ _ ?_
   refine zG fun N hN => ?_
   simp! []
   refine ⟨_, .inr ⟨_, SqT.of ha, rfl⟩, rfl, ?_⟩
   rw [List.length_cons]
   by_cases h0 : ts = []
   · subst h0
     have hus : us = [] := List.eq_nil_of_length_eq_zero hl
     subst hus
     rw [if_pos (by rfl)]
     refine ⟨_, SqT.of ha, .str wd, at0, ?_⟩
     have e : wrS (.node wd []) = wd := by
       rcases hsh with ⟨rfl, _⟩ | ⟨rfl, _⟩ | ⟨_, h⟩ | ⟨_, h⟩ | ⟨_, h⟩
       · exact wrS_none
       · exact wrS_all
       · cases h
       · cases h
       · cases h
     rw [e] at q
     exact q _ (Same.refl _)
   rw [if_neg (by intro e; exact h0 (List.eq_nil_of_length_eq_zero (by omega)))]
   refine hN _ _ ?_
   refine zG fun N hN => ?_
   simp! []
   refine ⟨_, SqT.of ha, .str wd, at0, rfl, ?_⟩
   by_cases hnot : wd = "not"
   · subst hnot
     rw [if_pos rfl]
     have h1 : ts.length = 1 := by
       rcases hsh with ⟨h, _⟩ | ⟨h, _⟩ | ⟨_, h⟩ | ⟨h, _⟩ | ⟨h, _⟩
       · exact absurd h (by decide +kernel)
       · exact absurd h (by decide +kernel)
       · exact h
       · exact absurd h (by decide +kernel)
       · exact absurd h (by decide +kernel)
     match ts, h1 with
     | [t], _ =>
       obtain ⟨u, r, e1, e2, e3⟩ := hu
       have e3 : r = [] := e3
       subst e3; subst e1
       obtain ⟨m, rfl, f1, f2⟩ := part 0 t rfl
       refine ⟨_, SqT.of ha, u, at1, ?_⟩
       simp only [spWr]
       refine ⟨u, t, rfl, e2, f1, f2, fun H1 e => ⟨_, rfl, ?_, ?_⟩⟩
       · have := jJ f1
         have : ("!" : Str).length = 1 := by decide +kernel
         exact big (by omega)
       · rw [← wS]
         exact q _ e
   rw [if_neg (fun e => hnot (V.str.inj e))]
   refine hN _ _ ?_
   have hbe : wd = "both" \/ wd = "either" := by
     rcases hsh with ⟨_, h⟩ | ⟨_, h⟩ | ⟨h, _⟩ | ⟨h, _⟩ | ⟨h, _⟩
     · exact absurd (List.eq_nil_of_length_eq_zero h) h0
     · exact absurd (List.eq_nil_of_length_eq_zero h) h0
     · exact absurd h hnot
     · exact .inl h
     · exact .inr h
   refine zG fun N hN => ?_
   simp! []
   refine hN _ _ ?_
   refine yF (fun σ H' => H' = H /\ σ = [some (V.ref a), some (V.str (toS (jOf wd))), none, none]) (fun N hN => ?_) (fun σ H' h => ?_)
   · simp! []
     refine ⟨_, SqT.of ha, .str wd, at0, rfl, ?_⟩
     rcases hbe with rfl | rfl
     · rw [if_neg (by decide +kernel)]
       exact hN _ _ ⟨rfl, by rw [j_both, s_and]⟩
     · rw [if_pos rfl]
       exact hN _ _ ⟨rfl, by rw [j_either, s_or]⟩
   obtain ⟨rfl, rfl⟩ := h
   match ts, h0 with
   | t :: ts, _ =>
     obtain ⟨u, us, rfl, ht1, hus⟩ := hu
     obtain ⟨m, rfl, f1, f2⟩ := part 0 t rfl
     have hjl := wJ wd
     refine zG fun N hN => ?_
     simp! [spWr]
     have hq1 : ("(" : Str).length = 1 := by decide +kernel
     have hl1 := jJ f1
     have e40 : ("(" : Str) ++ wrS t = toS (40 :: wr t) := by unfold wrS; rw [s_open, zJ]; rfl
     refine ⟨_, SqT.of ha, u, at1, t, ht1, f1, f2, fun H1 e1 => ⟨big (by omega), hN _ _ ?_⟩⟩
     rw [e40]
     have ha1 := e1 _ _ ha
     have lens : ∀ x ∈ ts, (wr x).length + 3 <= 13 * wt x := fun x hx => by
       obtain ⟨i, hi, rfl⟩ := List.getElem_of_mem hx
       obtain ⟨m', hm', g1, g2⟩ := part (i + 1) ts[i] (by simp [hi])
       exact wr_len m' _ g1
     refine yF (fun σ H2 => Same H' H2 /\ ∃ o, σ = [some (V.ref a), some (V.str (toS (jOf wd))), some (V.str (toS (40 :: (wr t ++ zV (jOf wd) (ts.map wr))))), o]) (fun N hN => ?_) (fun σ H2 h => ?_)
     · simp! []
       refine ⟨_, SqT.of ha1, ?_, fun p2 hp2 => ?_⟩
       · have e : HT.sIx (V.str wd :: u :: us).length 0 (some ((2 : Nat) : Int)) = 2 := by rw [HT.sIx_nat, List.length_cons, List.length_cons]; omega
         have e : HT.sIx (V.str wd :: u :: us).length 0 (some 2) = 2 := e
         rw [e]
         omega
       have ec : kH (V.str wd :: u :: us) (some 2) none = us := by
         unfold kH
         have e : HT.sIx (V.str wd :: u :: us).length 0 (some ((2 : Nat) : Int)) = 2 := by rw [HT.sIx_nat, List.length_cons, List.length_cons]; omega
         have e : HT.sIx (V.str wd :: u :: us).length 0 (some 2) = 2 := e
         rw [e, HT.sIx_none]
         show (us.take _) = us
         rw [List.take_of_length_le (by rw [List.length_cons, List.length_cons]; omega)]
       rw [ec]
       have e2 := zP hp2 (.tup us)
       have h2 : upd H1 p2 (.tup us) p2 = some (.tup us) := zK
       generalize upd H1 p2 (.tup us) = H2 at e2 h2 ⊢
       refine ⟨⟨_, SqT.of h2⟩, ?_⟩
       have hu2 : TAts H' ts us := hus
       have hul := hu2.length
       rw [wts] at hw
       have hll2 := wts_len ts
       refine fw_tup (xs := us) (fun i σ H3 => Same H2 H3 /\ ∃ o, σ = [some (V.ref a), some (V.str (toS (jOf wd))), some (V.str (toS (40 :: (wr t ++ zV (jOf wd) ((ts.take i).map wr))))), o]) ?_ (fun i σ H3 _ h => SqT.of (h.1 _ _ h2)) (fun i x σ H3 hx h => ?_) (fun σ H3 h => ?_)
       · refine ⟨Same.refl _, none, ?_⟩
         simp [zV]
       · obtain ⟨es, o, rfl⟩ := h
         obtain ⟨x', hx1, hx2⟩ := hu2.getV hx
         obtain ⟨m', hm', g1, g2⟩ := part (i + 1) x' (by simpa using hx1)
         cases hm'
         have gl := jJ g1
         have tb := jK (j := jOf wd) (by omega) (ts.take i) (fun y hy => lens y (List.mem_of_mem_take hy))
         have wtk : wts (ts.take i) <= wts ts := by
           have := wts_append (ts.take i) (ts.drop i)
           rw [List.take_append_drop] at this
           omega
         have il := (List.getElem?_eq_some_iff.mp hx1).1
         simp! [spWr]
         refine ⟨?_, x', TAt.tups ((e1.trans e2).trans es).tups hx2, g1, g2, fun H4 e4 => ⟨?_, es.trans e4, ?_⟩⟩
         · rw [zH, zH, List.length_cons, List.length_append]
           unfold wrS at hl1
           rw [zH] at hl1
           exact big (by omega)
         · unfold wrS at hl1 gl ⊢
           rw [zJ, zH, zH, List.length_append, List.length_cons, List.length_append]
           rw [zH] at hl1 gl
           exact big (by omega)
         · refine ⟨?_, _, rfl⟩
           unfold wrS
           rw [zJ, zJ]
           congr 1
           have il' : (ts.map wr).take (i + 1) = (ts.map wr).take i ++ [wr x'] := by
             rw [List.take_succ_eq_append_getElem (by rw [List.length_map]; exact il)]
             congr 2
             rw [List.getElem_map]
             congr 1
             exact (List.getElem?_eq_some_iff.mp hx1).2
           rw [List.map_take, List.map_take, il', jE]
           simp
       · obtain ⟨es, o, rfl⟩ := h
         rw [List.take_of_length_le (by omega)]
         exact hN _ _ ⟨(e1.trans e2).trans es, _, rfl⟩
     · obtain ⟨es, o, rfl⟩ := h
       simp! []
       have e41 : toS (40 :: (wr t ++ zV (jOf wd) (ts.map wr))) ++ (")" : Str) = wrS (.node wd (t :: ts)) := by
         unfold wrS
         rw [xP hbe (by simp), List.map_cons, yS, s_close, zJ]
         rfl
       rw [e41]
       refine ⟨?_, q _ es⟩
       have tb := jK (j := jOf wd) (by omega) ts lens
       have hq2 : (")" : Str).length = 1 := by decide +kernel
       unfold wrS at hl1
       rw [zH] at hl1
       rw [wts] at hw
       rw [zH, List.length_cons, List.length_append, hq2]
       exact big (by omega)
theorem qW (bi : Bi mg) (h_i : Has P w K mg base 21 "_law_written" ["t"] (spWr 21)) (F : Fun K "_law_written_saying" "_law_written_saying" s_a f fd) : FnOk P w K mg base CX0 22 f fd ["saying"] spWrS := by
 refine F.ok sc_a (fun vs H Q E h => ?_) (fun cdv A outer s H vs Q E hr h => ?_)
 · obtain ⟨v, t, rfl, _⟩ := h
   rfl
 obtain ⟨v, p, rfl, hp, hf, q⟩ := h
 obtain ⟨a, v1, v2, rfl, ha, h1, h2⟩ := hp.out
 have l1 := jJ hf.1.1
 have l2 := jJ hf.2.1
 have w1 := hf.1.2
 have w2 := hf.2.2
 have l3 : (" < " : Str).length = 3 := by decide +kernel
 refine ⟨_, (zD (zM (zI op_add_str (zI op_add_str (zS h_i (hr.mono (by omega)) rfl (zA (yC ix_tup (pv 0) zC (fun _ _ => rfl)) pa_nil)) zF) (zS h_i (hr.mono (by omega)) rfl (zA (yC ix_tup (pv 0) zC (fun _ _ => rfl)) pa_nil))))), ?_⟩
 simp! [spWr]
 refine ⟨_, SqT.of ha, v1, at0, _, h1, hf.1.1, hf.1.2, fun H1 e1 => ⟨big (by omega), _, SqT.of (e1 _ _ ha), v2, at1, _, TAt.tups e1.tups h2, hf.2.1, hf.2.2, fun H2 e2 => ⟨big (by rw [zU]; omega), ?_⟩⟩⟩
 rw [← sayS_eq]
 exact q _ (e1.trans e2)
theorem uP (bi : Bi mg) (h_a : Has P w K mg base 22 "_law_written_saying" ["saying"] spWrS) (F : Fun K "_law_written_rule" "_law_written_rule" s_b f fd) : FnOk P w K mg base CX0 23 f fd ["rule"] spWrR := by
 refine F.ok sc_b (fun vs H Q E h => ?_) (fun cdv A outer s H vs Q E hr h => ?_)
 · obtain ⟨v, t, rfl, _⟩ := h
   rfl
 obtain ⟨v, r, rfl, hr', hlen, hf1, hf2, q⟩ := h
 obtain ⟨a, l, sv, us, rfl, ha, hl, hu, hs⟩ := hr'.out
 have hul := SAts.length hu
 have sl : ∀ p, vU 20 900 p -> 3 <= (jC p).length /\ (jC p).length <= 24000 := fun p hp => by
   have := sayS_len hp.1.1 hp.2.1
   have := hp.1.2
   have := hp.2.2
   omega
 refine ⟨_, (zB (zR (i := 1) sc_b.nd rfl (Or.inl rfl) zF) (zB (xN PassesOwn.never rfl (uW (yC ix_tup (pv 0) zC (fun _ _ => rfl))) (yV (i := 2) sc_b.nd rfl (Or.inl rfl)) (zB (yB (zQ op_ne (pv 1) zF (zN _)) (zD (zR (i := 1) sc_b.nd rfl (Or.inl rfl) (zI op_add_str (pv 1) zF))) pss_nil) (zD (zR (i := 1) sc_b.nd rfl (Or.inl rfl) (zI op_add_str (pv 1) (zS h_a (hr.mono (by omega)) rfl (zA (pv 2) pa_nil))))))) (zB (yB (zQ op_gt (zO call_len rfl bi.len bt_len (zA (yC ix_tup (pv 0) zC (fun _ _ => rfl)) pa_nil)) zC (zN _)) (zD (zR (i := 1) sc_b.nd rfl (Or.inl rfl) (zI op_add_str (pv 1) zF))) pss_nil) (zD (zM (zI op_add_str (pv 1) (zS h_a (hr.mono (by omega)) rfl (zA (yC ix_tup (pv 0) zC (fun _ _ => rfl)) pa_nil)))))))), ?_⟩
 refine zG fun N hN => ?_
 simp! []
 refine hN _ _ ?_
 refine yF (fun σ H' => Same H H' /\ ∃ o, σ = [some (V.ref a), some (V.str (prS r.1)), o]) (fun N hN => ?_) (fun σ H' h => ?_)
 · simp! []
   refine ⟨_, SqT.of ha, .ref l, at0, l, rfl, ⟨_, SqL.of hl⟩, ?_⟩
   refine fw_list (xs := us) (fun i σ H' => Same H H' /\ ∃ o, σ = [some (V.ref a), some (V.str (prS (r.1.take i))), o]) ⟨Same.refl _, _, rfl⟩ (fun i σ H' _ h => SqL.of (h.1 _ _ hl)) (fun i x σ H' hx h => ?_) (fun σ H' h => ?_)
   · obtain ⟨es, o, rfl⟩ := h
     obtain ⟨p, hp1, hp2⟩ := SAts.getV hu hx
     have hpf := hf1 p (List.mem_of_getElem? hp1)
     obtain ⟨il, ie⟩ := List.getElem?_eq_some_iff.mp hp1
     have pl := uV (m := 24000) (r.1.take i) fun y hy => (sl y (hf1 y (List.mem_of_mem_take hy))).2
     have tl : (r.1.take i).length <= 10 := by rw [List.length_take]; omega
     have tb : (r.1.take i).length * (24000 + 2) <= 10 * 24002 := Nat.mul_le_mul_right _ tl
     have sp := sl p hpf
     have l2 : (", " : Str).length = 2 := by decide +kernel
     have tk : r.1.take (i + 1) = r.1.take i ++ [p] := by rw [List.take_succ_eq_append_getElem il, ie]
     simp only [gName]
     refine yF (fun σ H2 => H2 = H' /\ σ = [some (V.ref a), some (V.str (if i = 0 then "" else prS (r.1.take i) ++ ", ")), some x]) (fun N hN => ?_) (fun σ H2 h => ?_)
     · simp! []
       refine ⟨rfl, ?_⟩
       by_cases h0 : i = 0
       · subst h0
         rw [if_neg (by simp [prS, zZ, s_empty])]
         exact hN _ _ ⟨rfl, by rw [if_pos rfl]; rfl⟩
       · have hne : prS (r.1.take i) ≠ "" := fun e => by
           have e2 := congrArg Str.length e
           unfold prS at e2
           rw [zH, s_empty, zH] at e2
           match hh : r.1.take i with
           | [] =>
             have := congrArg List.length hh
             rw [List.length_take, List.length_nil] at this
             omega
           | y :: z =>
             rw [hh, List.map_cons, yS, List.length_append] at e2
             have hy : y ∈ r.1 := List.mem_of_mem_take (by rw [hh]; simp)
             have := (sl y (hf1 y hy)).1
             unfold jC at this
             rw [zH] at this
             rw [List.length_nil] at e2
             omega
         rw [if_pos (by simpa using hne)]
         refine ⟨big (by omega), hN _ _ ⟨rfl, by rw [if_neg h0]⟩⟩
     · obtain ⟨rfl, rfl⟩ := h
       simp! [spWrS]
       refine ⟨p, DAt.same es hp2, hpf, fun H3 e3 => ⟨?_, es.trans e3, ?_⟩⟩
       · split
         · have : ("" : Str).length = 0 := by decide +kernel
           exact big (by omega)
         · rw [zU]
           exact big (by omega)
       · refine ⟨?_, _, rfl⟩
         rw [tk]
         by_cases h0 : i = 0
         · subst h0
           rw [if_pos rfl, s_empty]
           unfold jC
           rw [zJ]
           rfl
         · rw [if_neg h0]
           unfold prS jC
           rw [s_comma, zJ, zJ, List.map_append]
           congr 1
           rw [show [p].map zL = [zL p] from rfl, wL]
           · simp
           · intro z
             have := congrArg List.length z
             rw [List.length_map, List.length_take, List.length_nil] at this
             omega
   · obtain ⟨es, o, rfl⟩ := h
     rw [List.take_of_length_le (by omega)]
     exact hN _ _ ⟨es, _, rfl⟩
 · obtain ⟨es, o, rfl⟩ := h
   have pl := uV (m := 24000) r.1 fun y hy => (sl y (hf1 y hy)).2
   have tb : r.1.length * (24000 + 2) <= 10 * 24002 := Nat.mul_le_mul_right _ hlen
   have s2 := sl _ hf2
   have l4 : (" => " : Str).length = 4 := by decide +kernel
   refine yF (fun σ H2 => H2 = H' /\ ∃ o, σ = [some (V.ref a), some (V.str (if r.1 = [] then "" else prS r.1 ++ " => ")), o]) (fun N hN => ?_) (fun σ H2 h => ?_)
   · simp! []
     refine ⟨_, SqT.of (es _ _ ha), .ref l, at0, _, .inl ⟨_, SqL.of (es _ _ hl), rfl⟩, ?_⟩
     by_cases h0 : r.1 = []
     · rw [if_neg (by rw [hul, h0]; decide)]
       refine hN _ _ ⟨rfl, o, ?_⟩
       rw [if_pos h0, h0]
       rfl
     · rw [if_pos (by have := List.length_pos_iff.mpr h0; omega)]
       exact ⟨big (by omega), hN _ _ ⟨rfl, _, by rw [if_neg h0]⟩⟩
   · obtain ⟨rfl, o2, rfl⟩ := h
     simp! [spWrS]
     refine ⟨_, SqT.of (es _ _ ha), sv, at1, _, DAt.same es hs, hf2, fun H3 e3 => ?_⟩
     by_cases h0 : r.1 = []
     · rw [if_pos h0]
       have : ("" : Str).length = 0 := by decide +kernel
       refine ⟨big (by omega), ?_⟩
       have er : jZ r = "" ++ jC r.2 := by
         obtain ⟨r1, r2⟩ := r
         simp only at h0
         subst h0
         rw [ruleS_nil, s_empty]
         unfold jC
         rw [zJ]
         rfl
       rw [← er]
       exact q _ (es.trans e3)
     · rw [if_neg h0]
       refine ⟨big (by rw [zU]; omega), ?_⟩
       rw [← ruleS_cons _ h0]
       exact q _ (es.trans e3)
end
abbrev s_C : Stmt := top 20
theorem sc_C : FnScope ["held", "words"] ["held", "words"] (zE s_C) := ⟨rfl, rfl, rfl, by decide +kernel, rfl, by decide +kernel, by decide +kernel⟩
abbrev s_A : Stmt := top 7
theorem sc_A : FnScope ["text"] ["text"] (zE s_A) := ⟨rfl, rfl, rfl, by decide +kernel, rfl, by decide +kernel, by decide +kernel⟩
abbrev s_m : Stmt := qX (top 21) 0
theorem sc_m : FnScope ["self", "text"] ["self", "text"] (zE s_m) := ⟨rfl, rfl, rfl, by decide +kernel, rfl, by decide +kernel, by decide +kernel⟩
abbrev s_j : Stmt := qX (top 21) 1
theorem sc_j : FnScope ["self", "signs"] ["self", "signs"] (zE s_j) := ⟨rfl, rfl, rfl, by decide +kernel, rfl, by decide +kernel, by decide +kernel⟩
abbrev s_k : Stmt := qX (top 21) 4
theorem sc_k : FnScope ["self", "start", "word"] ["self"] (zE s_k) := ⟨rfl, rfl, rfl, by decide +kernel, rfl, by decide +kernel, by decide +kernel⟩
def inL (c : Nat) : Bool := !(Builtin.Str.occurrences "abcdefghijklmnopqrstuvwxyz" ⟨#[c]⟩ 0 ("abcdefghijklmnopqrstuvwxyz" : Str).length 1).isEmpty
theorem inL_eq (c : Nat) : inL c = isL c := by
 have e : ("abcdefghijklmnopqrstuvwxyz" : Str).cps.toList = (List.range 26).map (· + 97) := by decide +kernel
 rw [Bool.eq_iff_iff]
 unfold inL
 rw [StrLaws.found_iff, isL_iff]
 constructor
 · rintro ⟨i, h1, h2⟩
   have := (StrLaws.subAt_one "abcdefghijklmnopqrstuvwxyz" c i).mp ⟨h1, h2⟩
   rw [e] at this
   have hm := List.mem_of_getElem? this
   obtain ⟨j, hj, rfl⟩ := List.mem_map.mp hm
   have := List.mem_range.mp hj
   omega
 · intro h
   refine ⟨c - 97, (StrLaws.subAt_one "abcdefghijklmnopqrstuvwxyz" c (c - 97)).mpr ?_⟩
   rw [e, List.getElem?_map, List.getElem?_range (by omega)]
   show some (c - 97 + 97) = some c
   rw [Nat.sub_add_cancel h.1]
def isN (x : Str) : Bool := decide (1 <= x.length) && decide (x.length <= 8) && x.cps.toList.all inL && !decide (x = "none") && !decide (x = "all")
def spIs : Sp := fun vs H Q _ => ∃ x : Str, vs = [.str x] /\ x.length <= 5000 /\ ∀ H', Same H H' -> Q (.bl (isN x)) H'
def yI (CT : Addr) : Sp := fun vs H Q E => ∃ (b : Bool) (x : Str), vs = [.bl b, .str x] /\ (b = true -> Q .non H) /\ (b = false -> E (.ref CT) none H)
def qR (C : Addr) : Sp := fun vs H Q _ => ∃ (r dx : Addr) (x : Cs), vs = [.ref r, .str (toS x)] /\ H r = some (.ins C dx []) /\ ∀ H', SameX r H H' -> RdAt C H' r x 0 -> Q .non H'
def jB (C : Addr) : Sp := fun vs H Q _ => ∃ (r : Addr) (x y : Cs) (k : Nat), vs = [.ref r, .str (toS y)] /\ RdAt C H r x k /\ k <= x.length /\ x.length <= 5000 /\ y.length <= 10 /\
 (y.isPrefixOf (x.drop k) = true -> ∀ H', SameX r H H' -> RdAt C H' r x (k + y.length) -> Q (.bl true) H') /\ (y.isPrefixOf (x.drop k) = false -> Q (.bl false) H)
def qG (C CT : Addr) : Sp := fun vs H Q E => ∃ (r : Addr) (x : Cs) (k : Nat), vs = [.ref r] /\ RdAt C H r x k /\ k <= x.length /\ x.length <= 5000 /\
 (∀ t rest, xY (x.drop k) = some (t, rest) -> ∀ v H', SameX r H H' -> RdAt C H' r x (x.length - rest.length) -> TAt H' t v -> Q v H') /\ (xY (x.drop k) = none -> ∀ H', SameX r H H' -> E (.ref CT) none H')
structure RdC (K : PySem.W.Frag) (C : Addr) : Prop where
 cl : Cls K C
 nT : NoAttr K C "text"
 nA : NoAttr K C "at"
theorem isN_no {x : Str} (h : ¬ (1 <= x.length /\ x.length <= 8)) : isN x = false := by
 unfold isN
 by_cases h1 : 1 <= x.length
 · have h2 : ¬ x.length <= 8 := fun z => h ⟨h1, z⟩
   simp [h2]
 · simp [h1]
section
variable {P : Program} {w : World} {K : PySem.W.Frag} {mg : Str -> Option Value} {base : Heap} {f : Addr} {fd : FuncData} {CT : Addr} {bm : List Value} {bn nid iid : String}
theorem ok_need (O_NoText : PyProof.Rows.OwnCls "NoText" CT bm nid mg base) (FB_NoText : ExcBaseFacts bn nid iid bm) (m_NoText : mg "NoText" = some (.ref CT)) (F : Fun K "need" "need" s_C f fd) : FnOk P w K mg base (CX1 P w) 1 f fd ["held", "words"] (yI CT) := by
 refine F.okX sc_C (fun vs H Q E h => ?_) (fun cdv A outer s H vs Q E hr h => ?_)
 · obtain ⟨b, x, rfl, _⟩ := h
   rfl
 obtain ⟨b, x, rfl, q1, q2⟩ := h
 refine ⟨_, (zD (yB (xT (xC (pv 0))) (zD (ps_raise O_NoText FB_NoText rfl m_NoText (zA (pv 1) pa_nil))) pss_nil)), ?_⟩
 simp! [tRaise]
 cases b with
 | true => rw [if_neg (by decide)]; exact q1 rfl
 | false => rw [if_pos rfl]; exact ⟨yE (by decide), q2 rfl⟩
theorem ok_is_name (bi : Bi mg) {aW : Addr} (g_LETTERS : Gc mg "LETTERS" (.str "abcdefghijklmnopqrstuvwxyz")) (g_LONGEST_NAME : Gc mg "LONGEST_NAME" (.int 8)) (g_WORDS : Gc mg "WORDS" (.ref aW)) (sW : ∀ H, SqT K H aW [.str "none", .str "all"])
   (F : Fun K "is_name" "is_name" s_A f fd) : FnOk P w K mg base CX0 1 f fd ["text"] spIs := by
 refine F.ok sc_A (fun vs H Q E h => ?_) (fun cdv A outer s H vs Q E hr h => ?_)
 · obtain ⟨x, rfl, _⟩ := h
   rfl
 obtain ⟨x, rfl, hx, q⟩ := h
 refine ⟨_, (zB (yB (PW.pt (qJ (xT (pt_chain op_le op_le zC (zO call_len rfl bi.len bt_len (zA (pv 0) pa_nil)) (yY g_LONGEST_NAME rfl))) (qM (zQ op_in_seq (pv 0) (yY g_WORDS rfl) (by with_unfolding_all rfl))))) (zD (zM xH)) pss_nil) (zD (zM (zO call_all rfl bi.all bt_all (zA (pe_comp ["sign"] [] [] (pi_str (pv 0)) (fun _ _ _ _ nd => yV (i := 0) nd rfl (Or.inl rfl)) (fun _ _ _ _ => pif_nil) (fun _ _ _ _ => (yD op_in_str (pv 0) (yY g_LETTERS rfl) (by with_unfolding_all rfl)))) pa_nil))))), ?_⟩
 simp only [tSeq, tFor_eq, tLC_eq, iRng1, iRng2, iList, iTup, iStr, tIfS, tRet, tRetN, tNext, tAsg, gName, tVar, tC, tOp, rI0, rI, tTest, tB, rEq, rNe, tCall, tCons, tNil, tCB, tLst, tTup, tAnd, tOr, tNot, tAndV, tOrV, tNotV, tIf, tDrop, tSl, tPart, tNoPart, tChain, tUn, rU, L2.start, cx_K, bk_K, cx_calm, bk_calm, lenV_str, and_assoc, Option.join, List.length_map, List.length_append, decide_eq_true_eq, Bool.false_eq_true, if_false, if_true, Bool.not_true, Bool.not_false, Bool.not_eq_true', decide_eq_false_iff_not, Bool.true_eq_false, List.length_cons, List.length_nil, List.map_cons, List.map_nil, List.replicate, List.cons_append, List.nil_append, List.append_nil, List.getElem?_cons_zero, List.getElem?_cons_succ, List.set_cons_zero, List.set_cons_succ, Nat.reduceSub, Nat.reduceAdd, Option.some.injEq, V.int.injEq, V.str.injEq, V.bl.injEq, V.ref.injEq, List.cons.injEq, and_true, true_and, exists_eq_left', exists_eq_left, exists_and_left, exists_eq_right, exists_const]
 refine ⟨big (by omega), ?_⟩
 have no : ¬ (1 <= x.length /\ x.length <= 8) -> Q (.bl false) H := fun h => by rw [← isN_no h]; exact q H (Same.refl H)
 split
 · rename_i h1
   split
   · rename_i h2
     exact no (fun z => h2 (by omega))
   · rename_i h2
     refine ⟨aW, _, rfl, .inr (sW H), rfl, rfl, _, rfl, ?_⟩
     have e : (if false = true then !inV (V.str x) [V.str "none", V.str "all"] else inV (V.str x) [V.str "none", V.str "all"]) = (decide (x = "none") || decide (x = "all")) := by
       simp only [Bool.false_eq_true, if_false, inV, List.any_cons, List.any_nil, eqV_str, Bool.or_false]
     rw [e]
     split
     · rename_i h3
       have e2 : isN x = false := by
         unfold isN
         rcases (Bool.or_eq_true _ _).mp h3 with h3 | h3
         · rw [h3, Bool.not_true, Bool.and_false, Bool.false_and]
         · rw [h3, Bool.not_true, Bool.and_false]
       rw [← e2]
       exact q H (Same.refl H)
     · rename_i h3
       refine lc_str (z := x) (fun i ys σ H' => H' = H /\ ys = ((x.cps.toList.take i).map inL).map V.bl /\ ∃ o, σ = [o]) ⟨rfl, rfl, none, rfl⟩ (big (show x.length <= 1000000 by omega)) (fun i ys σ H' e => ?_) (fun i c ys σ H' C hc e hC => ?_) (fun ys σ H' e p hp => ?_)
       · rw [e.2.1, List.length_map, List.length_map, List.length_take]
         omega
       · obtain ⟨eH, e, o, rfl⟩ := e
         simp only [tSeq, tFor_eq, tLC_eq, iRng1, iRng2, iList, iTup, iStr, tIfS, tRet, tRetN, tNext, tAsg, gName, tVar, tC, tOp, rI0, rI, tTest, tB, rEq, rNe, tCall, tCons, tNil, tCB, tLst, tTup, tAnd, tOr, tNot, tAndV, tOrV, tNotV, tIf, tDrop, tSl, tPart, tNoPart, tChain, tUn, rU, L2.start, cx_K, bk_K, cx_calm, bk_calm, lenV_str, and_assoc, Option.join, List.length_map, List.length_append, decide_eq_true_eq, Bool.false_eq_true, if_false, if_true, Bool.not_true, Bool.not_false, Bool.not_eq_true', decide_eq_false_iff_not, Bool.true_eq_false, List.length_cons, List.length_nil, List.map_cons, List.map_nil, List.replicate, List.cons_append, List.nil_append, List.append_nil, List.getElem?_cons_zero, List.getElem?_cons_succ, List.set_cons_zero, List.set_cons_succ, Nat.reduceSub, Nat.reduceAdd, Option.some.injEq, V.int.injEq, V.str.injEq, V.bl.injEq, V.ref.injEq, List.cons.injEq, and_true, true_and, exists_eq_left', exists_eq_left, exists_and_left, exists_eq_right, exists_const]
         refine hC _ _ _ ⟨eH, ?_, _, rfl⟩
         have hi : i < x.cps.toList.length := by simpa using (Array.getElem?_eq_some_iff.mp hc).1
         have hc' : x.cps.toList[i] = c := by simpa using (Array.getElem?_eq_some_iff.mp hc).2
         rw [e, List.take_succ_eq_append_getElem hi, List.map_append, List.map_append, hc']
         rfl
       · obtain ⟨rfl, e, _⟩ := e
         refine ⟨p, rfl, x.cps.toList.map inL, SqL.of ?_, ?_⟩
         · rw [zK, e, List.take_of_length_le (by simp)]
         · have e2 : isN x = (x.cps.toList.map inL).all id := by
             have h4 := Bool.or_eq_false_iff.mp (Bool.eq_false_iff.mpr h3)
             unfold isN
             rw [h4.1, h4.2, decide_eq_true (show 1 <= x.length by omega), decide_eq_true (show x.length <= 8 by omega), List.all_map]
             simp only [Bool.true_and, Bool.not_false, Bool.and_true]
             rfl
           rw [← e2]
           exact q _ (zP hp _)
 · rename_i h1
   exact no (fun z => h1 (by omega))
theorem ok_rinit {C : Addr} (T : RdC K C) (F : Fun K "__init__" "Reader.__init__" s_m f fd) : FnOk P w K mg base CX0 1 f fd ["self", "text"] (qR C) := by
 refine F.ok sc_m (fun vs H Q E h => ?_) (fun cdv A outer s H vs Q E hr h => ?_)
 · obtain ⟨r, dx, x, rfl, _⟩ := h
   rfl
 obtain ⟨r, dx, x, rfl, hr', q⟩ := h
 refine ⟨_, (zB (ps_fld (pv 0) (pv 1) rfl) (zD (ps_fld (pv 0) zC rfl))), ?_⟩
 simp! [sFld]
 refine ⟨C, dx, [], hr', T.cl, T.nT, by decide, C, dx, _, zK, T.cl, T.nA, by show 1 < 1000; decide, ?_⟩
 rw [rd_new]
 exact q _ ((SameX.refl r H).upd.upd) ⟨dx, zK⟩
theorem ok_take (bi : Bi mg) {C : Addr} (T : RdC K C) (F : Fun K "take" "Reader.take" s_j f fd) : FnOk P w K mg base CX0 1 f fd ["self", "signs"] (jB C) := by
 refine F.ok sc_j (fun vs H Q E h => ?_) (fun cdv A outer s H vs Q E hr h => ?_)
 · obtain ⟨r, x, y, k, rfl, _⟩ := h
   rfl
 obtain ⟨r, x, y, k, rfl, ⟨dx, hr'⟩, hk, hx, hy, q1, q2⟩ := h
 refine ⟨_, (zB (yB (xT (xC (qV PySem.F.plainAttrs_str PySem.F.slot_str_startswith PySem.F.type_str_startswith mt_starts3 (xK (pv 0) rfl) (zA (pv 1) (zA (xK (pv 0) rfl) pa_nil))))) (zD (zM xH)) pss_nil) (zB (vZ (pv 0) (zO call_len rfl bi.len bt_len (zA (pv 1) pa_nil)) in_add) (zD (zM xH)))), ?_⟩
 simp! [sFld, tFld, wU, rAdd]
 refine ⟨C, dx, _, hr', T.cl, T.nT, _, qT x k, rfl, C, dx, _, hr', T.cl, T.nA, _, qU x k, _, rfl, _, rfl, ?_⟩
 rw [sw_eq x y k hk]
 by_cases hp : y.isPrefixOf (x.drop k) = true
 · rw [if_neg (by rw [hp]; decide)]
   refine ⟨C, dx, _, hr', T.cl, T.nA, _, qU x k, by rw [zH]; exact big (by omega), _, rfl, dx, _, hr', by show 2 < 1000; decide, ?_⟩
   rw [zH, show (k : Int) + (y.length : Int) = ((k + y.length : Nat) : Int) by omega, rd_put]
   exact q1 hp _ (SameX.refl r H).upd ⟨dx, zK⟩
 · rw [if_pos (Bool.eq_false_iff.mpr hp)]
   exact q2 (Bool.eq_false_iff.mpr hp)
theorem ok_leafR (bi : Bi mg) {C aW : Addr} (T : RdC K C) (g_LETTERS : Gc mg "LETTERS" (.str "abcdefghijklmnopqrstuvwxyz")) (g_WORDS : Gc mg "WORDS" (.ref aW)) (sW : ∀ H, SqT K H aW [.str "none", .str "all"])
   (h_C : HasX P w K mg base 1 "need" ["held", "words"] (yI CT)) (h_A : Has P w K mg base 1 "is_name" ["text"] spIs) (F : Fun K "leaf" "Reader.leaf" s_k f fd) : FnOk P w K mg base (CX1 P w) 2 f fd ["self"] (qG C CT) := by
 refine F.okX sc_k (fun vs H Q E h => ?_) (fun cdv A outer s H vs Q E hr h => ?_)
 · obtain ⟨r, x, k, rfl, _⟩ := h
   rfl
 obtain ⟨r, x, k, rfl, ⟨dx, hr'⟩, hk, hx, q, qx⟩ := h
 refine ⟨_, (zB (zR (i := 1) sc_k.nd rfl (Or.inl rfl) (xK (pv 0) rfl)) (zB (ps_while PassesOwn.leaving (PW.pt (wX (zQ op_lt (xK (pv 0) rfl) (zO call_len rfl bi.len bt_len (zA (xK (pv 0) rfl) pa_nil)) (zN _)) (uU (zQ op_in_str (yC ix_str (xK (pv 0) rfl) (xK (pv 0) rfl) (fun _ _ => rfl)) (yY g_LETTERS rfl) (by with_unfolding_all rfl))))) (zD (vZ (pv 0) zC in_add))) (zB (zR (i := 2) sc_k.nd rfl (Or.inl rfl) (jG sl_str (xK (pv 0) rfl) (jO (pv 1)) (jO (xK (pv 0) rfl)))) (zB (yB (zQ op_in_seq (pv 2) (yY g_WORDS rfl) (by with_unfolding_all rfl)) (zD (zM (yR (zA (pv 2) pa_nil)))) pss_nil) (zB (yG (zT h_C (hr.mono (by omega)) rfl (zA (zS h_A (hr.mono (by omega)) rfl (zA (pv 2) pa_nil)) (zA zF pa_nil)))) (zD (zM (yR (zA zF (zA (pv 2) pa_nil)))))))))), ?_⟩
 refine zG fun N hN => ?_
 simp! [tFld]
 refine ⟨C, dx, _, hr', T.cl, T.nA, _, qU x k, hN _ _ ?_⟩
 have hwl : ((x.drop k).takeWhile isL).length <= x.length - k := by
   have := tw_le (p := isL) (x.drop k)
   rw [List.length_drop] at this
   exact this
 have hxl : (toS x).length = x.length := zH x
 refine yF (fun σ H' => SameX r H H' /\ RdAt C H' r x (k + ((x.drop k).takeWhile isL).length) /\ σ = [some (V.ref r), some (V.int k), none]) (fun N hN => ?_) (fun σ H' h => ?_)
 · refine ⟨fun m σ H' => SameX r H H' /\ (∃ j, j + m = ((x.drop k).takeWhile isL).length /\ RdAt C H' r x (k + j)) /\ σ = [some (V.ref r), some (V.int k), none], ⟨((x.drop k).takeWhile isL).length, SameX.refl r H, ⟨0, by omega, dx, hr'⟩, rfl⟩, fun m σ H' h => ?_⟩
   obtain ⟨es, ⟨j, hj, dj, hrj⟩, rfl⟩ := h
   simp! [tFld, wU, rAdd]
   refine ⟨C, dj, _, hrj, T.cl, T.nA, _, qU x _, C, dj, _, hrj, T.cl, T.nT, _, qT x _, _, ⟨by rw [hxl]; exact big (by omega), rfl⟩, _, rfl, ?_⟩
   rw [hxl]
   by_cases hlt : k + j < x.length
   · rw [if_pos (by omega)]
     refine ⟨C, dj, _, hrj, T.cl, T.nT, _, qT x _, C, dj, _, hrj, T.cl, T.nA, _, qU x _, ?_⟩
     have hc : x[k + j]? = some x[k + j] := List.getElem?_eq_getElem hlt
     have hci : atI (toS x).cps.toList ((k + j : Nat) : Int) = some x[k + j] := yM (by simpa [toS] using hc)
     refine ⟨_, rfl, _, rfl, by rw [hxl]; exact big (by omega), x[k + j], hci, ?_⟩
     have ein : (!(Builtin.Str.occurrences "abcdefghijklmnopqrstuvwxyz" ⟨#[x[k + j]]⟩ 0 ("abcdefghijklmnopqrstuvwxyz" : Str).length 1).isEmpty) = isL x[k + j] := inL_eq x[k + j]
     have hdj : (x.drop k)[j]? = some x[k + j] := by rw [List.getElem?_drop]; exact hc
     by_cases hL : isL x[k + j] = true
     · rw [if_pos (by rw [hL] at ein; simpa using ein)]
       have hjL : j < ((x.drop k).takeWhile isL).length := by
         by_cases z : j < ((x.drop k).takeWhile isL).length
         · exact z
         · have ej : j = ((x.drop k).takeWhile isL).length := by omega
           obtain ⟨c, h1, h2⟩ := tw_out (p := isL) (s := x.drop k) (by rw [List.length_drop]; omega)
           rw [← ej, hdj] at h1
           cases h1
           rw [hL] at h2
           cases h2
       refine ⟨fun σ' H2 => SameX r H H2 /\ RdAt C H2 r x (k + (j + 1)) /\ σ' = [some (V.ref r), some (V.int k), none], fun σ' H2 h => ⟨m - 1, by omega, h.1, ⟨j + 1, by omega, h.2.1⟩, h.2.2⟩, C, dj, _, hrj, T.cl, T.nA, _, qU x _, _, rfl, dj, _, hrj, by show 2 < 1000; decide, ?_⟩
       rw [show ((k + j : Nat) : Int) + 1 = ((k + (j + 1) : Nat) : Int) by omega, rd_put]
       exact ⟨es.upd, ⟨dj, zK⟩, rfl⟩
     · rw [if_neg (by rw [Bool.eq_false_iff.mpr hL] at ein; simpa using ein)]
       have ej : j = ((x.drop k).takeWhile isL).length := by
         by_cases z : j < ((x.drop k).takeWhile isL).length
         · obtain ⟨c, h1, h2⟩ := tw_in (p := isL) (s := x.drop k) z
           rw [hdj] at h1
           cases h1
           exact absurd h2 hL
         · omega
       refine hN _ _ ⟨es, ⟨dj, ?_⟩, rfl⟩
       rw [← ej]
       exact hrj
   · rw [if_neg (by omega)]
     refine hN _ _ ⟨es, ⟨dj, ?_⟩, rfl⟩
     rw [show k + ((x.drop k).takeWhile isL).length = k + j by omega]
     exact hrj
 · obtain ⟨es, ⟨dx', hr2⟩, rfl⟩ := h
   simp! [tFld, rIn]
   refine ⟨C, dx', _, hr2, T.cl, T.nT, _, qT x _, C, dx', _, hr2, T.cl, T.nA, _, qU x _, _, rfl, _, rfl, by rw [hxl]; exact big (by omega), ?_⟩
   have esl : Txt.slice (toS x) (some (k : Int)) (some ((k + ((x.drop k).takeWhile isL).length : Nat) : Int)) = toS ((x.drop k).takeWhile isL) := by
     rw [uD x (by omega) (by omega), show k + ((x.drop k).takeWhile isL).length - k = ((x.drop k).takeWhile isL).length by omega, tw_take]
   rw [esl]
   refine ⟨_, .inr (sW H'), rfl, rfl, ?_⟩
   have hwd : ∀ c ∈ (x.drop k).takeWhile isL, isL c = true := fun c hc => List.all_eq_true.mp (List.all_takeWhile (p := isL) (l := x.drop k)) c hc
   have hdl := dw_len (p := isL) (x.drop k)
   rw [List.length_drop] at hdl
   have hrl : x.length - ((x.drop k).dropWhile isL).length = k + ((x.drop k).takeWhile isL).length := by omega
   have rd2 : ∀ H2, Same H' H2 -> RdAt C H2 r x (x.length - ((x.drop k).dropWhile isL).length) := fun H2 e => by rw [hrl]; exact ⟨dx', e _ _ hr2⟩
   have hp : xY (x.drop k) = if (x.drop k).takeWhile isL = cNone then some (.node "none" [], (x.drop k).dropWhile isL) else if (x.drop k).takeWhile isL = cAll then some (.node "all" [], (x.drop k).dropWhile isL) else if nmOk ((x.drop k).takeWhile isL) then some (.name ⟨((x.drop k).takeWhile isL).toArray⟩, (x.drop k).dropWhile isL) else none := rfl
   generalize (x.drop k).takeWhile isL = wd at hp hwd hwl
   have ein : inV (V.str (toS wd)) [V.str "none", V.str "all"] = (decide (toS wd = "none") || decide (toS wd = "all")) := by
     simp only [inV, List.any_cons, List.any_nil, eqV_str, Bool.or_false]
   rw [ein]
   have s0 : ("none" : Str) = toS cNone := by decide +kernel
   have s1 : ("all" : Str) = toS cAll := by decide +kernel
   by_cases h0 : wd = cNone
   · rw [if_pos h0] at hp
     replace q := q _ _ hp
     subst h0
     rw [if_pos (by rw [s0]; simp)]
     refine ⟨yE (by decide), fun p hp2 => q _ _ (es.trans (zP hp2 _).x) (rd2 _ (zP hp2 _)) (TAt.mkNode (vs := []) ?_ rfl)⟩
     rw [zK, s0]
   · rw [if_neg h0] at hp
     by_cases h1 : wd = cAll
     · rw [if_pos h1] at hp
       replace q := q _ _ hp
       subst h1
       rw [if_pos (by rw [s1]; simp)]
       refine ⟨yE (by decide), fun p hp2 => q _ _ (es.trans (zP hp2 _).x) (rd2 _ (zP hp2 _)) (TAt.mkNode (vs := []) ?_ rfl)⟩
       rw [zK, s1]
     · rw [if_neg h1] at hp
       by_cases h2 : nmOk wd = true
       · rw [if_pos h2] at hp
         replace q := q _ _ hp
         have n0 : toS wd ≠ "none" := fun e => h0 (yN (e.trans s0))
         have n1 : toS wd ≠ "all" := fun e => h1 (yN (e.trans s1))
         rw [if_neg (by simp [n0, n1])]
         unfold nmOk at h2
         simp only [Bool.and_eq_true, decide_eq_true_eq] at h2
         have eN : isN (toS wd) = true := by
           unfold isN
           rw [zH, decide_eq_true h2.1, decide_eq_true h2.2, decide_eq_false n0, decide_eq_false n1]
           have : (toS wd).cps.toList.all inL = true := by
             rw [List.all_eq_true]
             intro c hc
             rw [inL_eq]
             exact hwd c (by simpa [toS] using hc)
           rw [this]
           rfl
         simp only [spIs, yI]
         refine ⟨_, rfl, by rw [zH]; omega, fun H2 e2 => ⟨_, _, by rw [eN], fun _ => ⟨yE (by decide), fun p hp2 => ?_⟩, fun z => by cases z⟩⟩
         refine q _ _ ((es.trans e2.x).trans (zP hp2 _).x) (rd2 _ (e2.trans (zP hp2 _))) ?_
         exact TAt.mkName zK
       · rw [if_neg h2] at hp
         have n0 : toS wd ≠ "none" := fun e => h0 (yN (e.trans s0))
         have n1 : toS wd ≠ "all" := fun e => h1 (yN (e.trans s1))
         rw [if_neg (by simp [n0, n1])]
         have eN : isN (toS wd) = false := by
           cases c : isN (toS wd) with
           | false => rfl
           | true =>
             exfalso
             apply h2
             unfold isN at c
             simp only [Bool.and_eq_true, decide_eq_true_eq] at c
             rw [zH] at c
             unfold nmOk
             simp only [Bool.and_eq_true, decide_eq_true_eq]
             exact ⟨c.1.1.1.1, c.1.1.1.2⟩
         simp only [spIs, yI]
         have hwl2 : wd.length <= 5000 := by omega
         exact ⟨_, rfl, by rw [zH]; exact hwl2, fun H2 e2 => ⟨_, _, by rw [eN], (fun z => by cases z), fun _ => qx hp _ (es.trans e2.x)⟩⟩
end
abbrev s_f : Stmt := qX (top 21) 2
theorem sc_f : FnScope ["self", "room"] ["self", "room"] (zE s_f) := ⟨rfl, rfl, rfl, by decide +kernel, rfl, by decide +kernel, by decide +kernel⟩
abbrev s_c : Stmt := qX (top 21) 3
theorem sc_c : FnScope ["self", "room", "parts", "kind"] ["self", "room"] (zE s_c) := ⟨rfl, rfl, rfl, by decide +kernel, rfl, by decide +kernel, by decide +kernel⟩
def jKV : List (Key × V) := [(.inr "both", .str " & "), (.inr "either", .str " | ")]
theorem j_val {w : Str} (h : w = "both" \/ w = "either") : uO jKV (.inr w) = some (.str (toS (jOf w))) := by
 rcases h with rfl | rfl <;> decide +kernel
def xE (C CT : Addr) (n : Nat) : Sp := fun vs H Q E => ∃ (r : Addr) (x : Cs) (k : Nat), vs = [.ref r, .int ((n : Int) - 1)] /\ RdAt C H r x k /\ k <= x.length /\ x.length <= 5000 /\
 (∀ t rest, pTerm n (x.drop k) = some (t, rest) -> ∀ v H', SameX r H H' -> RdAt C H' r x (x.length - rest.length) -> TAt H' t v -> Q v H') /\ (pTerm n (x.drop k) = none -> ∀ H', SameX r H H' -> E (.ref CT) none H')
def pBr (n : Nat) (s : Cs) : Option (Tm × Cs) := match pTerm n s with
 | none => none
 | some (t, r1) => match xI (pTerm n) (jOf (yL r1)) (r1.length + 1) r1 with
   | none => none
   | some (ts, r2) => match ts, r2 with
     | [], _ => none
     | u :: us, 41 :: r3 => some (.node (yL r1) (t :: u :: us), r3)
     | _, _ => none
theorem pTerm_open (n : Nat) (s : Cs) : pTerm (n + 1) (40 :: s) = pBr n s := by
 rw [pTerm]
 rfl
theorem wF (n : Nat) (s : Cs) : pTerm (n + 1) (33 :: s) = (pTerm n s).map fun p => (.node "not" [p.1], p.2) := by
 rw [pTerm]
 cases pTerm n s with
 | none => rfl
 | some p => rfl
theorem xU (n : Nat) {s : Cs} (h1 : ∀ r, s ≠ 33 :: r) (h2 : ∀ r, s ≠ 40 :: r) : pTerm (n + 1) s = xY s := by
 unfold pTerm
 split
 · exact absurd rfl (h1 _)
 · exact absurd rfl (h2 _)
 · rfl
def spBr (C CT : Addr) (n : Nat) : Sp := fun vs H Q E => ∃ (r : Addr) (x : Cs) (k : Nat), vs = [.ref r, .int ((n : Int) - 1)] /\ RdAt C H r x k /\ k <= x.length /\ x.length <= 5000 /\
 (∀ t rest, pBr n (x.drop k) = some (t, rest) -> ∀ v H', SameX r H H' -> RdAt C H' r x (x.length - rest.length) -> TAt H' t v -> Q v H') /\ (pBr n (x.drop k) = none -> ∀ H', SameX r H H' -> E (.ref CT) none H')
theorem wG {n : Nat} {s r : Cs} {t : Tm} (h : pTerm n s = some (t, r)) : ∃ m, n = m + 1 /\ s = wr t ++ r /\ Fit m t := by
 cases n with
 | zero => rw [pTerm] at h; cases h
 | succ n =>
   obtain ⟨a, b⟩ := pTerm_sound n s t r h
   exact ⟨n, rfl, a, b⟩
theorem wM {x s : Cs} {k : Nat} (hk : k <= x.length) (h : x.drop k = s) {a r : Cs} (e : s = a ++ r) : x.drop (x.length - r.length) = r /\ x.length - r.length = k + a.length /\ r.length <= x.length := by
 have l1 := congrArg List.length h
 have l2 := congrArg List.length e
 rw [List.length_drop] at l1
 rw [List.length_append] at l2
 have e2 : x.length - r.length = k + a.length := by omega
 refine ⟨?_, e2, by omega⟩
 rw [e2, ← List.drop_drop, h, e, List.drop_left]
section
variable {P : Program} {w : World} {K : PySem.W.Frag} {mg : Str -> Option Value} {base : Heap} {f : Addr} {fd : FuncData} {CT : Addr}
theorem ok_term0 (bi : Bi mg) {C : Addr} (cl_Reader : Cls K C) (h_C : HasX P w K mg base 1 "need" ["held", "words"] (yI CT)) (h_j : HasM P w K mg base 1 C "take" ["self", "signs"] (jB C)) (h_k : HasMX P w K mg base 2 C "leaf" ["self"] (qG C CT))
   (h_f : HasMX P w K mg base 2 C "term" ["self", "room"] (fun _ _ _ _ => False)) (h_c : HasMX P w K mg base 2 C "bracket" ["self", "room"] (fun _ _ _ _ => False)) (F : Fun K "term" "Reader.term" s_f f fd) : FnOk P w K mg base (CX1 P w) 3 f fd ["self", "room"] (xE C CT 0) := by
 refine F.okX sc_f (fun vs H Q E h => ?_) (fun cdv A outer s H vs Q E hr h => ?_)
 · obtain ⟨r, x, k, rfl, _⟩ := h
   rfl
 obtain ⟨r, x, k, rfl, hrd, hk, hx, q, qx⟩ := h
 refine ⟨_, (zB (yG (zT h_C (hr.mono (by omega)) rfl (zA (yD op_ge (pv 1) zC (zN _)) (zA zF pa_nil)))) (zB (yB (xC (jH h_j cl_Reader (hr.mono (by omega)) (pv 0) (zA zF pa_nil))) (zD (zM (yR (zA zF (zA (xM h_f cl_Reader (hr.mono (by omega)) (pv 0) (zA (zI op_sub (pv 1) zC) pa_nil)) pa_nil))))) pss_nil) (zB (yB (xC (jH h_j cl_Reader (hr.mono (by omega)) (pv 0) (zA zF pa_nil))) (zD (zM (xM h_c cl_Reader (hr.mono (by omega)) (pv 0) (zA (zI op_sub (pv 1) zC) pa_nil)))) pss_nil) (zD (zM (wC h_k cl_Reader (hr.mono (by omega)) (pv 0))))))), ?_⟩
 refine zG fun N hN => ?_
 simp! [yI]
 exact ⟨fun h => absurd h (by decide), fun _ => qx (by rw [pTerm]) H (SameX.refl r H)⟩
theorem ok_termR (bi : Bi mg) {C : Addr} (cl_Reader : Cls K C) (n : Nat) (h_C : HasX P w K mg base 1 "need" ["held", "words"] (yI CT)) (h_j : HasM P w K mg base 1 C "take" ["self", "signs"] (jB C)) (h_k : HasMX P w K mg base 2 C "leaf" ["self"] (qG C CT))
   (h_f : HasMX P w K mg base (2 * n + 3) C "term" ["self", "room"] (xE C CT n)) (h_c : HasMX P w K mg base (2 * n + 4) C "bracket" ["self", "room"] (spBr C CT n)) (F : Fun K "term" "Reader.term" s_f f fd) : FnOk P w K mg base (CX1 P w) (2 * n + 5) f fd ["self", "room"] (xE C CT (n + 1)) := by
 refine F.okX sc_f (fun vs H Q E h => ?_) (fun cdv A outer s H vs Q E hr h => ?_)
 · obtain ⟨r, x, k, rfl, _⟩ := h
   rfl
 obtain ⟨r, x, k, rfl, hrd, hk, hx, q, qx⟩ := h
 obtain ⟨dx, hr'⟩ := hrd
 have no : ∀ (m : Str), (m == ("text" : Str)) = false -> (m == ("at" : Str)) = false -> ∀ k, (rdF x k).lookup m = none := fun m h1 h2 k => rd_no x k h1 h2
 refine ⟨_, (zB (yG (zT h_C (hr.mono (by omega)) rfl (zA (yD op_ge (pv 1) zC (zN _)) (zA zF pa_nil)))) (zB (yB (xC (jH h_j cl_Reader (hr.mono (by omega)) (pv 0) (zA zF pa_nil))) (zD (zM (yR (zA zF (zA (xM h_f cl_Reader (hr.mono (by omega)) (pv 0) (zA (zI op_sub (pv 1) zC) pa_nil)) pa_nil))))) pss_nil) (zB (yB (xC (jH h_j cl_Reader (hr.mono (by omega)) (pv 0) (zA zF pa_nil))) (zD (zM (xM h_c cl_Reader (hr.mono (by omega)) (pv 0) (zA (zI op_sub (pv 1) zC) pa_nil)))) pss_nil) (zD (zM (wC h_k cl_Reader (hr.mono (by omega)) (pv 0))))))), ?_⟩
 refine zG fun N hN => ?_
 simp! [yI]
 rw [show (((n + 1 : Nat) : Int) - 1) = (n : Int) by omega]
 refine ⟨fun _ => hN _ _ ?_, fun h => absurd (by omega) h⟩
 clear hN
 refine zG fun N hN => ?_
 simp! [jT, jB, xE]
 refine ⟨dx, _, hr', no "take" (by decide +kernel) (by decide +kernel) _, x, [33], s_not, k, ⟨dx, hr'⟩, hk, hx, by decide, fun hpre H1 e1 rd1 => ?_, fun hpre => hN _ _ ?_⟩
 · obtain ⟨s1, hs1⟩ := List.isPrefixOf_iff_prefix.mp hpre
   have hs1 : x.drop k = 33 :: s1 := hs1.symm
   have hl1 : k + 1 <= x.length := by
     have := congrArg List.length hs1
     rw [List.length_drop, List.length_cons] at this
     omega
   have hd1 : x.drop (k + 1) = s1 := by rw [← List.drop_drop, hs1]; rfl
   rw [hs1, wF, ← hd1] at qx
   have q2 : ∀ u rest, pTerm n (x.drop (k + 1)) = some (u, rest) -> ∀ v H', SameX r H H' -> RdAt C H' r x (x.length - rest.length) -> TAt H' (.node "not" [u]) v -> Q v H' := fun u rest hu => q _ _ (by rw [hs1, wF, ← hd1, hu]; rfl)
   obtain ⟨d1, h1⟩ := rd1
   refine ⟨d1, _, h1, no "term" (by decide +kernel) (by decide +kernel) _, x, k + 1, ⟨d1, h1⟩, hl1, hx, fun u rest hu v H2 e2 rd2 tv => ⟨yE (by decide), fun p hp3 => ?_⟩, fun hnone H2 e2 => qx (by rw [hnone]; rfl) H2 (e1.trans e2)⟩
   exact q2 u rest hu _ _ ((e1.trans e2).trans (zP hp3 _).x) (rd2.same (zP hp3 _)) (TAt.mkNode (vs := [v]) zK (TAts.one (TAt.tups (zP hp3 _).tups tv)))
 have n33 : ∀ s1, x.drop k ≠ 33 :: s1 := fun s1 e => by
   rw [e] at hpre
   simp at hpre
 clear hN
 refine zG fun N hN => ?_
 simp! [jT, jB, spBr]
 refine ⟨dx, _, hr', no "take" (by decide +kernel) (by decide +kernel) _, x, [40], s_open, k, ⟨dx, hr'⟩, hk, hx, by decide, fun hpre2 H1 e1 rd1 => ?_, fun hpre2 => hN _ _ ?_⟩
 · obtain ⟨s1, hs1⟩ := List.isPrefixOf_iff_prefix.mp hpre2
   have hs1 : x.drop k = 40 :: s1 := hs1.symm
   have hl1 : k + 1 <= x.length := by
     have := congrArg List.length hs1
     rw [List.length_drop, List.length_cons] at this
     omega
   have hd1 : x.drop (k + 1) = s1 := by rw [← List.drop_drop, hs1]; rfl
   rw [hs1, pTerm_open, ← hd1] at q qx
   obtain ⟨d1, h1⟩ := rd1
   exact ⟨d1, _, h1, no "bracket" (by decide +kernel) (by decide +kernel) _, x, k + 1, ⟨d1, h1⟩, hl1, hx, fun u rest hu v H2 e2 rd2 tv => q u rest hu _ _ (e1.trans e2) rd2 tv, fun hnone H2 e2 => qx hnone H2 (e1.trans e2)⟩
 have n40 : ∀ s1, x.drop k ≠ 40 :: s1 := fun s1 e => by
   rw [e] at hpre2
   simp at hpre2
 rw [xU n n33 n40] at q qx
 simp! [jT, qG]
 exact ⟨dx, _, hr', no "leaf" (by decide +kernel) (by decide +kernel) _, x, k, ⟨dx, hr'⟩, hk, hx, q, qx⟩
theorem ok_bracket (bi : Bi mg) {C aJ : Addr} (T : RdC K C) (cl_Reader : Cls K C) (g_JOINTS : Gc mg "JOINTS" (.ref aJ)) (kd : KD w K aJ jKV) (n : Nat) (h_C : HasX P w K mg base 1 "need" ["held", "words"] (yI CT)) (h_j : HasM P w K mg base 1 C "take" ["self", "signs"] (jB C))
   (h_f : HasMX P w K mg base (2 * n + 3) C "term" ["self", "room"] (xE C CT n)) (F : Fun K "bracket" "Reader.bracket" s_c f fd) : FnOk P w K mg base (CX1 P w) (2 * n + 4) f fd ["self", "room"] (spBr C CT n) := by
 refine F.okX sc_c (fun vs H Q E h => ?_) (fun cdv A outer s H vs Q E hr h => ?_)
 · obtain ⟨r, x, k, rfl, _⟩ := h
   rfl
 obtain ⟨r, x, k, rfl, hrd, hk, hx, q, qx⟩ := h
 obtain ⟨dx, hr'⟩ := hrd
 have no : ∀ (m : Str), (m == ("text" : Str)) = false -> (m == ("at" : Str)) = false -> ∀ k, (rdF x k).lookup m = none := fun m h1 h2 k => rd_no x k h1 h2
 refine ⟨_, (zB (zR (i := 2) sc_c.nd rfl (Or.inl rfl) (jD (zA (xM h_f cl_Reader (hr.mono (by omega)) (pv 0) (zA (pv 1) pa_nil)) pa_nil))) (zB (zR (i := 3) sc_c.nd rfl (Or.inl rfl) (vC (xC (qV PySem.F.plainAttrs_str PySem.F.slot_str_startswith PySem.F.type_str_startswith mt_starts3 (xK (pv 0) rfl) (zA (pe_kdget (yY g_JOINTS rfl) zF (fun _ _ => rfl)) (zA (xK (pv 0) rfl) pa_nil)))) zF zF)) (zB (ps_while PassesOwn.leaving (xC (jH h_j cl_Reader (hr.mono (by omega)) (pv 0) (zA (pe_kdget (yY g_JOINTS rfl) (pv 3) (fun _ _ => rfl)) pa_nil))) (zD (yG (qV PySem.F.plainAttrs_list PySem.F.slot_list_append PySem.F.type_list_append mt_append (pv 2) (zA (xM h_f cl_Reader (hr.mono (by omega)) (pv 0) (zA (pv 1) pa_nil)) pa_nil))))) (zB (yG (zT h_C (hr.mono (by omega)) rfl (zA (yD op_gt (zO call_len rfl bi.len bt_len (zA (pv 2) pa_nil)) zC (zN _)) (zA zF pa_nil)))) (zB (yG (zT h_C (hr.mono (by omega)) rfl (zA (jH h_j cl_Reader (hr.mono (by omega)) (pv 0) (zA zF pa_nil)) (zA zF pa_nil)))) (zD (zM (zI op_catT (yR (zA (pv 3) pa_nil)) (wD call_tuple_of rfl bi.tuple bt_tuple (zA (pv 2) pa_nil)))))))))), ?_⟩
 refine zG fun N hN => ?_
 simp! [jT, xE]
 refine ⟨dx, _, hr', no "term" (by decide +kernel) (by decide +kernel) _, x, k, ⟨dx, hr'⟩, hk, hx, fun t r1 hp v H1 e1 rd1 tv => ⟨yE (by decide), fun pp hpp => hN _ _ ?_⟩, fun hnone H2 e2 => qx (by unfold pBr; rw [hnone]) H2 e2⟩
 clear hN
 obtain ⟨n', rfl, ew, ft⟩ := wG hp
 obtain ⟨dr1, er1, lr1⟩ := wM hk rfl ew
 have eBr : pBr (n' + 1) (x.drop k) = match xI (pTerm (n' + 1)) (jOf (yL r1)) (r1.length + 1) r1 with
   | none => none
   | some (ts, r2) => match ts, r2 with
     | [], _ => none
     | u :: us, 41 :: r3 => some (.node (yL r1) (t :: u :: us), r3)
     | _, _ => none := by unfold pBr; rw [hp]
 rw [eBr] at q qx
 clear eBr
 have npr : pp ≠ r := fun z => by
   obtain ⟨d1, h1⟩ := rd1
   rw [z, h1] at hpp
   cases hpp
 have e2 := zP hpp (.lst [v])
 have h2 : upd H1 pp (.lst [v]) pp = some (.lst [v]) := zK
 have rd2 := rd1.same e2
 have tv2 := TAt.tups e2.tups tv
 have e02 : SameX r H (upd H1 pp (.lst [v])) := e1.trans e2.x
 have npp : H pp = none := by
   cases z : H pp with
   | none => rfl
   | some o => have := e1 _ _ z npr; rw [hpp] at this; cases this
 generalize upd H1 pp (.lst [v]) = H2 at e2 h2 rd2 tv2 e02 ⊢
 clear e1 rd1 tv hpp e2
 refine zG fun N hN => ?_
 simp! [tFld]
 obtain ⟨d2, hr2⟩ := rd2
 refine ⟨C, d2, _, hr2, T.cl, T.nT, _, qT x _, rfl, jKV, .inr "both", rfl, kd, _, j_val (.inl rfl), C, d2, _, hr2, T.cl, T.nA, _, qU x _, _, rfl, _, rfl, _, rfl, ?_⟩
 rw [j_both, sw_eq x jAnd _ (by omega), dr1]
 have hkd : ∀ {A B : Prop}, (yL r1 = "both" -> A) -> (yL r1 = "either" -> B) -> if jAnd.isPrefixOf r1 = true then A else B := fun {A B} a b => by
   by_cases z : jAnd.isPrefixOf r1 = true
   · rw [if_pos z]
     exact a (by unfold yL; rw [if_pos z])
   · rw [if_neg z]
     exact b (by unfold yL; rw [if_neg z])
 have kis := kE r1
 suffices hgo : N [some (V.ref r), some (V.int (((n' + 1 : Nat) : Int) - 1)), some (V.ref pp), some (V.str (yL r1))] H2 by
   refine hkd (fun z => ?_) (fun z => ?_)
   · rw [z] at hgo; exact hgo
   · rw [z] at hgo; exact hgo
 refine hN _ _ ?_
 clear hN
 have jv := j_val kis
 have jl := wJ (yL r1)
 generalize yL r1 = kw at kis jv jl q qx
 generalize hM : xI (pTerm (n' + 1)) (jOf kw) (r1.length + 1) r1 = M at q qx
 refine yF (fun σ H3 => SameX r H H3 /\ ∃ (ts : List Tm) (s' : Cs) (ys : List V), M = some (ts, s') /\ H3 pp = some (.lst ys) /\ TAts H3 (t :: ts) ys /\ RdAt C H3 r x (x.length - s'.length) /\ x.drop (x.length - s'.length) = s' /\ s'.length <= x.length /\ ys.length <= 5001 /\ σ = [some (V.ref r), some (V.int (((n' + 1 : Nat) : Int) - 1)), some (V.ref pp), some (V.str kw)]) (fun N hN => ?_) (fun σ H3 h => ?_)
 · refine ⟨fun m σ H3 => SameX r H H3 /\ ∃ (done : List Tm) (ys : List V) (s' : Cs), M = (xI (pTerm (n' + 1)) (jOf kw) m s').map (fun p => (done ++ p.1, p.2)) /\ H3 pp = some (.lst ys) /\ TAts H3 (t :: done) ys /\ RdAt C H3 r x (x.length - s'.length) /\ x.drop (x.length - s'.length) = s' /\ s'.length <= x.length /\ s'.length < m /\ done.length + s'.length <= 5000 /\ σ = [some (V.ref r), some (V.int (((n' + 1 : Nat) : Int) - 1)), some (V.ref pp), some (V.str kw)],
     ⟨r1.length + 1, e02, [], [v], r1, by rw [hM]; cases M <;> rfl, h2, TAts.one tv2, ⟨d2, hr2⟩, dr1, lr1, by omega, by rw [List.length_nil]; omega, rfl⟩, fun m σ H3 h => ?_⟩
   obtain ⟨es, done, ys, s', hdone, hpp, hys, ⟨d3, hr3⟩, hds, hsl, hsm, hdl, rfl⟩ := h
   have hyl := hys.length
   rw [List.length_cons] at hyl
   cases m with
   | zero => omega
   | succ m =>
     simp! [jT, jB, xE]
     refine ⟨d3, _, hr3, no "take" (by decide +kernel) (by decide +kernel) _, jKV, .inr kw, rfl, kd, _, jv, x, jOf kw, rfl, x.length - s'.length, ⟨d3, hr3⟩, by omega, hx, by omega, fun hpre H4 e4 rd4 => ?_, fun hpre => ?_⟩
     · rw [hds] at hpre
       obtain ⟨d4, hr4⟩ := rd4
       rw [xI, if_pos hpre] at hdone
       have h3l : 3 <= s'.length := by
         have := wA hpre
         have := congrArg List.length this
         rw [List.length_append, jl] at this
         omega
       have hd4 : x.drop (x.length - s'.length + (jOf kw).length) = s'.drop 3 := by rw [jl, ← List.drop_drop, hds]
       refine ⟨fun σ' H5 => SameX r H H5 /\ ∃ (t1 : Tm) (r' : Cs) (ys' : List V), pTerm (n' + 1) (s'.drop 3) = some (t1, r') /\ H5 pp = some (.lst ys') /\ TAts H5 (t :: (done ++ [t1])) ys' /\ RdAt C H5 r x (x.length - r'.length) /\ σ' = [some (V.ref r), some (V.int (((n' + 1 : Nat) : Int) - 1)), some (V.ref pp), some (V.str kw)], fun σ' H5 h => ?_, .inl ⟨rfl, _, SqL.of (e4 _ _ hpp npr)⟩, d4, _, hr4, no "term" (by decide +kernel) (by decide +kernel) _, x, _, ⟨d4, hr4⟩, by omega, hx, fun t1 r' hp1 v1 H5 e5 rd5 tv5 => ?_, fun hnone H5 e5 => ?_⟩
       · obtain ⟨h1, t1, r', ys', hp1, h2', h3, h4, h5⟩ := h
         rw [hp1] at hdone
         obtain ⟨n2, en2, ew2, ft2⟩ := wG hp1
         have hlr : r'.length + 3 <= s'.length := by
           have := congrArg List.length ew2
           rw [List.length_drop, List.length_append] at this
           omega
         obtain ⟨dr2, er2, lr2⟩ := wM (k := x.length - s'.length + (jOf kw).length) (by omega) hd4 ew2
         refine ⟨m, by omega, h1, done ++ [t1], ys', r', ?_, h2', h3, h4, dr2, lr2, by omega, by rw [List.length_append, List.length_singleton]; omega, h5⟩
         have hdone2 : M = Option.map (fun p : List Tm × Cs => (done ++ p.1, p.2)) (match xI (pTerm (n' + 1)) (jOf kw) m r' with
           | none => none
           | some (ts, r2) => some (t1 :: ts, r2)) := hdone
         rw [hdone2]
         cases xI (pTerm (n' + 1)) (jOf kw) m r' with
         | none => rfl
         | some p => show some (done ++ (t1 :: p.1), p.2) = some (done ++ [t1] ++ p.1, p.2); rw [List.append_assoc]; rfl
       · rw [hd4] at hp1
         refine ⟨ys, e5 _ _ (e4 _ _ hpp npr) npr, big (by omega), ?_⟩
         have hpp5 := e5 _ _ (e4 _ _ hpp npr) npr
         have tu : TupSame H5 (upd H5 pp (.lst (ys ++ [v1]))) := (TupSame.refl _).upd_lst hpp5
         have t34 : TupSame H3 H5 := (SameX.tups e4 ⟨d3, hr3⟩).trans (SameX.tups e5 ⟨d4, hr4⟩)
         obtain ⟨d5, hr5⟩ := rd5
         refine ⟨((es.trans e4).trans e5).new npp, t1, r', ys ++ [v1], hp1, zK, ?_, ⟨d5, ?_⟩, rfl⟩
         · exact TAts.append (ts := t :: done) (TAts.tups (t34.trans tu) hys) (TAts.one (TAt.tups tu tv5))
         · rw [yA (Ne.symm npr)]
           exact hr5
       · rw [hd4] at hnone
         rw [hnone] at hdone
         exact qx (by rw [hdone]; rfl) H5 ((es.trans e4).trans e5)
     · rw [hds] at hpre
       rw [xI, if_neg (by rw [hpre]; decide)] at hdone
       exact hN _ _ ⟨es, done, s', ys, by rw [hdone]; show some (done ++ [], s') = _; rw [List.append_nil], hpp, hys, ⟨d3, hr3⟩, hds, hsl, by omega, rfl⟩
 · obtain ⟨es, ts, s', ys, hMs, hpp, hys, ⟨d3, hr3⟩, hds, hsl, hy5, rfl⟩ := h
   have hyl := hys.length
   rw [List.length_cons] at hyl
   rw [hMs] at q qx
   refine zG fun N hN => ?_
   simp! [yI]
   refine ⟨_, .inl ⟨_, SqL.of hpp, rfl⟩, fun hgt => hN _ _ ?_, fun hle => ?_⟩
   · clear hN
     obtain ⟨u, us, rfl⟩ : ∃ u us, ts = u :: us := by
       cases ts with
       | nil => rw [List.length_nil] at hyl; omega
       | cons u us => exact ⟨u, us, rfl⟩
     refine zG fun N hN => ?_
     simp! [yI, jT, jB]
     refine ⟨d3, _, hr3, no "take" (by decide +kernel) (by decide +kernel) _, x, [41], s_close, _, ⟨d3, hr3⟩, by omega, hx, by decide, fun hpre H4 e4 rd4 => ?_, fun hpre => ?_⟩
     · rw [hds] at hpre
       obtain ⟨r3, hr3'⟩ := List.isPrefixOf_iff_prefix.mp hpre
       have hr3' : s' = 41 :: r3 := hr3'.symm
       subst hr3'
       refine ⟨fun _ => hN _ _ ?_, fun z => z.elim⟩
       replace q := q _ _ rfl
       have hpp4 := e4 _ _ hpp npr
       have t34 := SameX.tups e4 ⟨d3, hr3⟩
       simp! []
       refine ⟨yE (by decide), fun p5 hp5 => ⟨ys, .inl ⟨SqL.of (zP hp5 _ _ _ hpp4), fun p6 hp6 => ?_⟩⟩⟩
       have e5 := zP hp5 (.tup [.str kw])
       have h5 : upd H4 p5 (.tup [.str kw]) p5 = some (.tup [.str kw]) := zK
       generalize upd H4 p5 (.tup [.str kw]) = H5 at e5 h5 hp6 ⊢
       have e6 := zP hp6 (.tup ys)
       have h6 : upd H5 p6 (.tup ys) p6 = some (.tup ys) := zK
       generalize upd H5 p6 (.tup ys) = H6 at e6 h6 ⊢
       refine ⟨_, SqT.of (e6 _ _ h5), _, SqT.of h6, by simp, big (by rw [List.length_singleton]; omega), fun z => ?_, fun _ p7 hp7 => ?_⟩
       · subst z; simp at hyl
       have e7 := zP hp7 (.tup ([V.str kw] ++ ys))
       have e47 := (e5.trans e6).trans e7
       have rd7 := rd4.same e47
       rw [List.length_cons] at rd7 hsl
       have hl : x.length - (r3.length + 1) + [41].length = x.length - r3.length := by
         show x.length - (r3.length + 1) + 1 = _
         omega
       rw [hl] at rd7
       exact q _ _ ((es.trans e4).trans e47.x) rd7 (TAt.mkNode (vs := ys) zK (TAts.tups (t34.trans e47.tups) hys))
     · rw [hds] at hpre
       refine ⟨fun z => z.elim, fun _ => qx ?_ H3 es⟩
       cases s' with
       | nil => rfl
       | cons c s' =>
         have hc : c ≠ 41 := fun z => by subst z; simp at hpre
         show (match u :: us, c :: s' with
           | [], _ => none
           | u :: us, 41 :: r3 => some (Tm.node kw (t :: u :: us), r3)
           | _, _ => none) = none
         split
         · rename_i e; cases e
         · rename_i e1 e2; cases e2; exact absurd rfl hc
         · rfl
   · have : ts = [] := by
       cases ts with
       | nil => rfl
       | cons u us => rw [List.length_cons] at hyl; omega
     subst this
     exact qx rfl H3 es
end
abbrev s_y : Stmt := top 8
theorem sc_y : FnScope ["t"] ["t"] (zE s_y) := ⟨rfl, rfl, rfl, by decide +kernel, rfl, by decide +kernel, by decide +kernel⟩
abbrev s_B : Stmt := top 9
theorem sc_B : FnScope ["t", "parts"] ["t"] (zE s_B) := ⟨rfl, rfl, rfl, by decide +kernel, rfl, by decide +kernel, by decide +kernel⟩
def prt : Tm -> List Tm
 | .name _ => []
 | .node _ ts => ts
mutual
def lv : Tm -> Nat
 | .name _ => 1
 | .node _ ts => max 1 (lvs ts)
def lvs : List Tm -> Nat
 | [] => 0
 | t :: ts => lv t + lvs ts
end
theorem lvs_sum : ∀ ts : List Tm, lvs ts = (ts.map lv).sum
 | [] => rfl
 | t :: ts => by rw [lvs, lvs_sum ts]; rfl
mutual
theorem lv_wt : ∀ t : Tm, 1 <= lv t /\ lv t <= wt t
 | .name x => by rw [lv, wt]; omega
 | .node w ts => by
   rw [lv, wt]
   obtain ⟨h1, h2⟩ := lvs_wt ts
   omega
theorem lvs_wt : ∀ ts : List Tm, ts.length <= lvs ts /\ lvs ts <= wts ts
 | [] => ⟨Nat.le_refl _, Nat.zero_le _⟩
 | t :: ts => by
   rw [lvs, wts, List.length_cons]
   have h1 := lv_wt t
   have h2 := lvs_wt ts
   omega
end
def spPt : Sp := fun vs H Q _ => ∃ (v : V) (t : Tm), vs = [v] /\ TAt H t v /\ (∀ w ts, t = .node w ts -> Wrd w) /\ ∀ p us H', Same H H' -> H' p = some (.tup us) -> TAts H' (prt t) us -> Q (.ref p) H'
def spLv : Nat -> Sp
 | 0 => fun _ _ _ _ => False
 | 1 => fun _ _ _ _ => False
 | n + 2 => fun vs H Q _ => ∃ (v : V) (t : Tm), vs = [v] /\ TAt H t v /\ Fit n t /\ wt t <= 900 /\ ∀ H', Same H H' -> Q (.int (lv t : Nat)) H'
theorem nat_sum (ms : List Nat) : (ms.map (fun m : Nat => (m : Int))).sum = (ms.sum : Nat) := by
 induction ms with
 | nil => rfl
 | cons m r ih => rw [List.map_cons, List.sum_cons, List.sum_cons, ih]; omega
theorem sum_take_le (ms : List Nat) (k : Nat) : (ms.take k).sum <= ms.sum := by
 have := congrArg List.sum (List.take_append_drop k ms)
 rw [List.sum_append] at this
 omega
theorem mem_sum {ms : List Nat} {m : Nat} (h : m ∈ ms) : m <= ms.sum := by
 induction ms with
 | nil => cases h
 | cons a r ih =>
   rw [List.sum_cons]
   rcases List.mem_cons.mp h with rfl | h
   · omega
   · have := ih h; omega
section
variable {P : Program} {w : World} {K : PySem.W.Frag} {mg : Str -> Option Value} {base : Heap} {f : Addr} {fd : FuncData}
theorem ok_parts_of (bi : Bi mg) (F : Fun K "parts_of" "parts_of" s_y f fd) : FnOk P w K mg base CX0 1 f fd ["t"] spPt := by
 refine F.ok sc_y (fun vs H Q E h => ?_) (fun cdv A outer s H vs Q E hr h => ?_)
 · obtain ⟨v, t, rfl, _⟩ := h
   rfl
 obtain ⟨v, t, rfl, ht, hw, q⟩ := h
 refine ⟨_, (zD (zM (vC (zQ op_eq (yC ix_tup (pv 0) zC (fun _ _ => rfl)) zF (zN _)) (yR pa_nil) (jG sl_tup (pv 0) (jO zC) po_none)))), ?_⟩
 cases t with
 | name x =>
   obtain ⟨a, rfl, ha⟩ := TAt.name ht
   simp! []
   refine ⟨_, SqT.of ha, .str "name", at0, rfl, ?_⟩
   rw [if_pos rfl]
   exact ⟨yE (by decide), fun p hp => q _ [] _ (zP hp _) zK rfl⟩
 | node wd ts =>
   obtain ⟨a, us, rfl, ha, hu⟩ := TAt.node ht
   simp! []
   refine ⟨_, SqT.of ha, .str wd, at0, rfl, ?_⟩
   rw [if_neg (fun e => (hw wd ts rfl).ne (V.str.inj e))]
   refine ⟨_, SqT.of ha, uY _ _, fun p hp => ?_⟩
   rw [cut_tail]
   exact q p us _ (zP hp _) zK (TAts.tups (zP hp _).tups hu)
theorem ok_leaves (bi : Bi mg) (h_y : Has P w K mg base 1 "parts_of" ["t"] spPt) (F : Fun K "leaves" "leaves" s_B f fd) (b : Binds K fd ["t"] []) (m : mg "leaves" = some (.ref f)) : ∀ n, FnOk P w K mg base CX0 n f fd ["t"] (spLv n) := by
 refine wW F b m (fun vs H Q E h => h) (fun n h_B => ?_)
 cases n with
 | zero => exact ⟨fun vs H Q E h => h.elim, fun A outer s H args us vs Q E _ _ _ _ h => h.elim⟩
 | succ n =>
 refine F.ok sc_B (fun vs H Q E h => ?_) (fun cdv A outer s H vs Q E hr h => ?_)
 · obtain ⟨v, t, rfl, _⟩ := h
   rfl
 obtain ⟨v, t, rfl, ht, hf, hw, q⟩ := h
 refine ⟨_, (zB (zR (i := 1) sc_B.nd rfl (Or.inl rfl) (zS h_y (hr.mono (by omega)) rfl (zA (pv 0) pa_nil))) (zD (zM (vC (pt_truth (pv 1) (fun _ => rfl)) (zO call_sumI rfl bi.sum bt_sum (zA (pe_comp ["part"] [] [] (pi_tup (pv 1)) (fun _ _ _ _ nd => yV (i := 0) nd rfl (Or.inl rfl)) (fun _ _ _ _ => pif_nil) (fun _ _ _ _ => (zS h_B hr rfl (zA (pv 0) pa_nil)))) pa_nil)) zC)))), ?_⟩
 have hp1 := wt_pos t
 refine zG fun N hN => ?_
 simp! [spPt]
 refine ⟨t, ht, fun wd ts e => by subst e; exact hf.wrd, fun p us H1 e1 hp hu => hN _ _ ?_⟩
 have hl := hu.length
 have part : ∀ (i : Nat) (u : Tm), (prt t)[i]? = some u -> ∃ m, n = m + 1 /\ Fit m u /\ wt u <= 900 := fun i u hi => by
   have hm := List.mem_of_getElem? hi
   cases t with
   | name x => cases hm
   | node wd ts =>
     have hm : u ∈ ts := hm
     have := wts_mem hm
     rw [wt] at hw
     cases n with
     | zero => rw [hf.2] at hm; cases hm
     | succ n => exact ⟨n, rfl, hf.part hm, by omega⟩
 have hwp : wts (prt t) <= wt t := by
   cases t with
   | name x => rw [prt, wts]; omega
   | node wd ts => rw [prt, wt]; omega
 have hwl := wts_len (prt t)
 simp! []
 refine ⟨!us.isEmpty, .inr (.inl ⟨_, SqT.of hp, rfl⟩), ?_⟩
 cases us with
 | nil =>
   have : lv t = 1 := by
     cases t with
     | name x => rw [lv]
     | node wd ts =>
       have : ts = [] := List.eq_nil_of_length_eq_zero hl.symm
       subst this
       rw [lv]
       rfl
   rw [this] at q
   exact q H1 e1
 | cons u0 us0 =>
   have elv : lv t = ((prt t).map lv).sum := by
     cases t with
     | name x => cases hl
     | node wd ts =>
       show lv (.node wd ts) = (ts.map lv).sum
       rw [lv, ← lvs_sum]
       have h1 := (lvs_wt ts).1
       have h2 : (u0 :: us0).length = ts.length := hl
       rw [List.length_cons] at h2
       omega
   have hlt := lv_wt t
   generalize hus : u0 :: us0 = us at hp hu hl
   rw [if_pos (by rw [← hus]; rfl)]
   refine ⟨⟨_, SqT.of hp⟩, ?_⟩
   refine lc_tup (xs := us) (fun i ys σ H' => Same H1 H' /\ (∃ ms : List Nat, ys = (ms.map (fun m : Nat => (m : Int))).map V.int /\ ms.length = i /\ ms = ((prt t).take i).map lv) /\ ∃ o, σ = [o]) ⟨Same.refl _, ⟨[], rfl, rfl, rfl⟩, _, rfl⟩ (yE (by omega)) (fun i ys σ H' e => ?_) (fun i ys σ H' e => SqT.of (e.1 _ _ hp)) (fun i x ys σ H' C hx e hC => ?_) (fun ys σ H' e p3 hp3 => ?_)
   · obtain ⟨_, ⟨ms, rfl, h2, h3⟩, _⟩ := e
     rw [List.length_map, List.length_map, h2]
     exact Nat.le_refl _
   · obtain ⟨es, ⟨ms, rfl, h2, h3⟩, o, rfl⟩ := e
     obtain ⟨u, hu', hx'⟩ := hu.getV hx
     obtain ⟨m', rfl, f1, f2⟩ := part i u hu'
     simp! [spLv]
     refine ⟨u, TAt.tups es.tups hx', f1, f2, fun H3 e3 => hC _ _ _ ⟨es.trans e3, ⟨ms ++ [lv u], by rw [List.map_append, List.map_append]; rfl, by rw [List.length_append, h2]; rfl, ?_⟩, _, rfl⟩⟩
     obtain ⟨il, ie⟩ := List.getElem?_eq_some_iff.mp hu'
     rw [List.take_succ_eq_append_getElem il, ie, List.map_append, ← h3]
     rfl
   · obtain ⟨es, ⟨ms, rfl, h2, h3⟩, o, rfl⟩ := e
     rw [List.take_of_length_le (by omega)] at h3
     have h4 : ms.sum = lv t := by rw [h3, elv]
     refine ⟨p3, rfl, _, SqL.of zK, fun k _ => ?_, fun k hk => ?_, ?_⟩
     · rw [← List.map_take, nat_sum]
       have := sum_take_le ms k
       constructor <;> omega
     · obtain ⟨m0, hm0, rfl⟩ := List.mem_map.mp hk
       have := mem_sum hm0
       constructor <;> omega
     · rw [nat_sum, h4]
       exact q _ ((e1.trans es).trans (zP hp3 _))
theorem wK (bi : Bi mg) {C CT aJ : Addr} (T : RdC K C) (g_JOINTS : Gc mg "JOINTS" (.ref aJ)) (kd : KD w K aJ jKV) (h_C : HasX P w K mg base 1 "need" ["held", "words"] (yI CT)) (h_take : HasM P w K mg base 1 C "take" ["self", "signs"] (jB C)) (h_leaf : HasMX P w K mg base 2 C "leaf" ["self"] (qG C CT))
   {f1 f2 : Addr} {fd1 fd2 : FuncData} (F1 : Fun K "term" "Reader.term" s_f f1 fd1) (F2 : Fun K "bracket" "Reader.bracket" s_c f2 fd2) (b1 : Binds K fd1 ["self", "room"] []) (b2 : Binds K fd2 ["self", "room"] []) (m1 : Meth K C "term" f1) (m2 : Meth K C "bracket" f2) :
   ∀ n, HasMX P w K mg base (2 * n + 3) C "term" ["self", "room"] (xE C CT n)
 | 0 => ⟨_, _, ok_term0 bi T.cl h_C h_take h_leaf ⟨_, _, ⟨fun vs H Q E h => h.elim, fun A outer s H args us vs Q E _ _ _ _ h => h.elim⟩, b1, m1⟩ ⟨_, _, ⟨fun vs H Q E h => h.elim, fun A outer s H args us vs Q E _ _ _ _ h => h.elim⟩, b2, m2⟩ F1, b1, m1⟩
 | n + 1 => by
   have h1 := wK bi T g_JOINTS kd h_C h_take h_leaf F1 F2 b1 b2 m1 m2 n
   have h2 : HasMX P w K mg base (2 * n + 4) C "bracket" ["self", "room"] (spBr C CT n) := ⟨_, _, ok_bracket bi T T.cl g_JOINTS kd n h_C h_take h1 F2, b2, m2⟩
   exact ⟨_, _, ok_termR bi T.cl n h_C h_take h_leaf h1 h2 F1, b1, m1⟩
end
abbrev s_D : Stmt := top 22
theorem sc_D : FnScope ["text", "reader", "t"] ["text"] (zE s_D) := ⟨rfl, rfl, rfl, by decide +kernel, rfl, by decide +kernel, by decide +kernel⟩
abbrev s_e : Stmt := top 23
theorem sc_e : FnScope ["text", "sides"] ["text"] (zE s_e) := ⟨rfl, rfl, rfl, by decide +kernel, rfl, by decide +kernel, by decide +kernel⟩
theorem uZ {j : Cs} : ∀ ts : List Tm, (∀ t ∈ ts, wt t <= (wr t).length) -> wts ts <= (zV j (ts.map wr)).length
 | [], _ => Nat.zero_le _
 | t :: ts, h => by
   have a := h t (by simp)
   have b := uZ (j := j) ts fun u hu => h u (by simp [hu])
   rw [List.map_cons, zV, List.length_append, List.length_append, wts]
   omega
theorem wt_wr : ∀ (n : Nat) (t : Tm), Fit n t -> wt t <= (wr t).length
 | n, .name x, h => by
   have h : Nm x := by cases n <;> exact h
   have := h.pos
   rw [wr, wt]
   have : x.cps.toList.length = x.length := rfl
   omega
 | 0, .node w ts, h => by
   obtain ⟨h1, h2⟩ := h
   subst h2
   rcases h1 with ⟨rfl, _⟩ | ⟨rfl, _⟩ | ⟨_, h1⟩ | ⟨_, h1⟩ | ⟨_, h1⟩
   · rw [wr_none, wt, wts]; decide
   · rw [wr_all, wt, wts]; decide
   · simp at h1
   · simp at h1
   · simp at h1
 | n + 1, .node w ts, h => by
   obtain ⟨h1, h2⟩ := h
   have ih : ∀ t ∈ ts, wt t <= (wr t).length := fun t ht => wt_wr n t (h2 t ht)
   have many : (w = "both" \/ w = "either") -> 2 <= ts.length -> wt (.node w ts) <= (wr (.node w ts)).length := fun hw hl => by
     match ts, hl with
     | t :: us, hl =>
       rw [xP hw (by simp), List.map_cons, yS]
       have a := ih t (by simp)
       have b := uZ (j := jOf w) us fun u hu => ih u (by simp [hu])
       rw [wt, wts, List.length_cons, List.length_append, List.length_append, List.length_singleton]
       omega
   rcases h1 with ⟨rfl, h1⟩ | ⟨rfl, h1⟩ | ⟨rfl, h1⟩ | ⟨rfl, h1⟩ | ⟨rfl, h1⟩
   · have : ts = [] := List.eq_nil_of_length_eq_zero h1
     subst this
     rw [wr_none, wt, wts]; decide
   · have : ts = [] := List.eq_nil_of_length_eq_zero h1
     subst this
     rw [wr_all, wt, wts]; decide
   · match ts, h1 with
     | [t], _ =>
       have a := ih t (by simp)
       rw [jA, wt, wts, wts, List.length_cons]
       omega
   · exact many (.inl rfl) h1
   · exact many (.inr rfl) h1
def RdOk (x : Cs) (t : Tm) : Prop := x = wr t /\ Fit 20 t /\ x.length <= 400 /\ lv t <= 60
theorem RdOk.term {x : Cs} {t : Tm} (h : RdOk x t) : pTerm 21 x = some (t, []) := by
 have := pTerm_wr 20 t [] h.2.1 (fun c q z => by cases z)
 rw [List.append_nil, ← h.1] at this
 exact this
def RdSOk (x : Cs) (p : Tm × Tm) : Prop := x = zL p /\ RdOk (wr p.1) p.1 /\ RdOk (wr p.2) p.2
def uB (CT : Addr) : Sp := fun vs H Q E => ∃ x : Cs, vs = [.str (toS x)] /\ x.length <= 5000 /\ (∀ t, RdOk x t -> ∀ v H', Same H H' -> TAt H' t v -> Q v H') /\ ((∀ t, ¬ RdOk x t) -> ∀ H', Same H H' -> E (.ref CT) none H')
def jM (CT : Addr) : Sp := fun vs H Q E => ∃ x : Cs, vs = [.str (toS x)] /\ x.length <= 5000 /\ (∀ p, RdSOk x p -> ∀ v H', Same H H' -> SAt H' p v -> Q v H') /\ ((∀ p, ¬ RdSOk x p) -> ∀ H', Same H H' -> E (.ref CT) none H')
theorem same_make {H H' : Hp} {x dx : Addr} {o : HO} {o2 : HO} (h1 : H x = none) (h2 : H dx = none) (e : SameX x (upd (upd H dx o) x o2) H') : Same H H' := fun b o' h => by
 have n1 : b ≠ x := yP h h1
 have n2 : b ≠ dx := yP h h2
 exact e b o' (by rw [yA n1, yA n2]; exact h) n1
section
variable {P : Program} {w : World} {K : PySem.W.Frag} {mg : Str -> Option Value} {base : Heap} {f : Addr} {fd : FuncData} {CT : Addr}
theorem ok_read (bi : Bi mg) {C : Addr} (T : RdC K C) (cl_Reader : Cls K C) (g_MOST_SIGNS_OF_TERM : Gc mg "MOST_SIGNS_OF_TERM" (.int 400)) (g_MOST_DEEP : Gc mg "MOST_DEEP" (.int 20)) (g_MOST_LEAVES : Gc mg "MOST_LEAVES" (.int 60))
   (h_C : HasX P w K mg base 1 "need" ["held", "words"] (yI CT)) (h_m : HasI P w K mg base 1 C "Reader" ["self", "text"] (qR C)) (h_f : HasMX P w K mg base 45 C "term" ["self", "room"] (xE C CT 21)) (h_B : Has P w K mg base 22 "leaves" ["t"] (spLv 22))
   (F : Fun K "read" "read" s_D f fd) : FnOk P w K mg base (CX1 P w) 46 f fd ["text"] (uB CT) := by
 refine F.okX sc_D (fun vs H Q E h => ?_) (fun cdv A outer s H vs Q E hr h => ?_)
 · obtain ⟨x, rfl, _⟩ := h
   rfl
 obtain ⟨x, rfl, hx5, q, qx⟩ := h
 have hxl : (toS x).length = x.length := zH x
 refine ⟨_, (zB (yG (zT h_C (hr.mono (by omega)) rfl (zA (zO (yW (T := "str")) rfl bi.isinstance bt_isinstance (zA (pv 0) (zA (jU bi.str bt_str rfl) pa_nil))) (zA zF pa_nil)))) (zB (yG (zT h_C (hr.mono (by omega)) rfl (zA (yD op_le (zO call_len rfl bi.len bt_len (zA (pv 0) pa_nil)) (yY g_MOST_SIGNS_OF_TERM rfl) (zN _)) (zA zF pa_nil)))) (zB (zR (i := 1) sc_D.nd rfl (Or.inl rfl) (pe_makeH h_m (hr.mono (by omega)) rfl (zA (pv 0) pa_nil))) (zB (zR (i := 2) sc_D.nd rfl (Or.inl rfl) (xM h_f cl_Reader (hr.mono (by omega)) (pv 1) (zA (yY g_MOST_DEEP rfl) pa_nil))) (zB (yG (zT h_C (hr.mono (by omega)) rfl (zA (yD op_eq (xK (pv 1) rfl) (zO call_len rfl bi.len bt_len (zA (pv 0) pa_nil)) (zN _)) (zA zF pa_nil)))) (zB (yG (zT h_C (hr.mono (by omega)) rfl (zA (yD op_le (zS h_B (hr.mono (by omega)) rfl (zA (pv 2) pa_nil)) (yY g_MOST_LEAVES rfl) (zN _)) (zA zF pa_nil)))) (zD (zM (pv 2))))))))), ?_⟩
 refine zG fun N hN => ?_
 simp! [yI]
 refine ⟨_, .str _, true, xA, fun _ => hN _ _ ?_, fun z => by cases z⟩
 clear hN
 refine zG fun N hN => ?_
 simp! [yI]
 rw [hxl]
 refine ⟨big (by omega), fun h4 => hN _ _ ?_, fun h4 => qx (fun t ht => h4 (by have := ht.2.2.1; omega)) H (Same.refl _)⟩
 clear hN
 have h400 : x.length <= 400 := by omega
 refine zG fun N hN => ?_
 simp! [tMake, qR]
 refine fun r dx hr1 hd1 hne => ⟨dx, x, rfl, zK, fun H1 e1 rd1 => hN _ _ ?_⟩
 clear hN
 have e01 := same_make hr1 hd1 e1
 obtain ⟨d1, hr1'⟩ := rd1
 have e02 : ∀ {H2 : Hp}, SameX r H1 H2 -> Same H H2 := fun e2 b o h => e2 b o (e01 b o h) (yP h hr1)
 refine zG fun N hN => ?_
 simp! [jT, xE]
 refine ⟨d1, _, hr1', rd_no _ _ (by decide +kernel) (by decide +kernel), by decide, x, 0, ⟨d1, hr1'⟩, Nat.zero_le _, by omega, fun t rest hp v H2 e2 rd2 tv => hN _ _ ?_, fun hnone H2 e2 => qx (fun t ht => ?_) H2 (e02 e2)⟩
 · clear hN
   rw [List.drop_zero] at hp
   obtain ⟨hs, hft⟩ := pTerm_sound 20 x t rest hp
   have e2' := e02 e2
   obtain ⟨d2, hr2⟩ := rd2
   refine zG fun N hN => ?_
   simp! [tFld, yI]
   rw [hxl]
   have hlr := congrArg List.length hs
   rw [List.length_append] at hlr
   refine ⟨C, d2, _, hr2, T.cl, T.nA, _, qU _ _, big (by omega), rfl, fun he => hN _ _ ?_, fun he => ?_⟩
   · clear hN
     have hr0 : rest.length = 0 := by
       have := V.int.inj he
       omega
     have hrn : rest = [] := List.eq_nil_of_length_eq_zero hr0
     subst hrn
     rw [List.append_nil] at hs
     have hwt := wt_wr 20 t hft
     rw [← hs] at hwt
     refine zG fun N hN => ?_
     simp! [yI, spLv]
     refine ⟨t, tv, hft, by omega, fun H3 e3 => ⟨fun h6 => hN _ _ ?_, fun h6 => ?_⟩⟩
     · simp! []
       exact q t ⟨hs, hft, h400, by omega⟩ _ _ (e2'.trans e3) (TAt.tups e3.tups tv)
     · refine qx (fun u hu => ?_) _ (e2'.trans e3)
       have := hu.term
       rw [hp] at this
       cases this
       have := hu.2.2.2
       omega
   · refine qx (fun u hu => ?_) _ e2'
     have := hu.term
     rw [hp] at this
     cases this
     exact he (by rw [List.length_nil, Nat.sub_zero])
 · have := ht.term
   rw [List.drop_zero, this] at hnone
   cases hnone
theorem vG (bi : Bi mg) (g_UNDER : Gc mg "UNDER" (.str " < ")) (h_C : HasX P w K mg base 1 "need" ["held", "words"] (yI CT)) (h_D : HasX P w K mg base 46 "read" ["text"] (uB CT)) (F : Fun K "read_saying" "read_saying" s_e f fd) : FnOk P w K mg base (CX1 P w) 47 f fd ["text"] (jM CT) := by
 refine F.okX sc_e (fun vs H Q E h => ?_) (fun cdv A outer s H vs Q E hr h => ?_)
 · obtain ⟨x, rfl, _⟩ := h
   rfl
 obtain ⟨x, rfl, hx5, q, qx⟩ := h
 have hxl : (toS x).length = x.length := zH x
 refine ⟨_, (zB (yG (zT h_C (hr.mono (by omega)) rfl (zA (zO (yW (T := "str")) rfl bi.isinstance bt_isinstance (zA (pv 0) (zA (jU bi.str bt_str rfl) pa_nil))) (zA zF pa_nil)))) (zB (zR (i := 1) sc_e.nd rfl (Or.inl rfl) (qV PySem.F.plainAttrs_str PySem.F.slot_str_split PySem.F.type_str_split mt_split (pv 0) (zA (yY g_UNDER rfl) pa_nil))) (zB (yG (zT h_C (hr.mono (by omega)) rfl (zA (yD op_eq (zO call_len rfl bi.len bt_len (zA (pv 1) pa_nil)) zC (zN _)) (zA zF pa_nil)))) (zD (zM (yR (zA (zT h_D (hr.mono (by omega)) rfl (zA (yC ix_list (pv 1) zC (fun _ _ => rfl)) pa_nil)) (zA (zT h_D (hr.mono (by omega)) rfl (zA (yC ix_list (pv 1) zC (fun _ _ => rfl)) pa_nil)) pa_nil)))))))), ?_⟩
 refine zG fun N hN => ?_
 simp! [yI]
 refine ⟨_, .str _, true, xA, fun _ => hN _ _ ?_, fun z => by cases z⟩
 clear hN
 refine zG fun N hN => ?_
 simp! []
 refine ⟨rfl, by decide +kernel, big (by omega), fun p1 hp1 => hN _ _ ?_⟩
 clear hN
 have hin : ∀ p, RdSOk x p -> Txt.split (toS x) " < " = [toS (wr p.1), toS (wr p.2)] := fun p hp => by
   rw [s_under, hp.1]
   exact uA ⟨hp.2.1.2.1, hp.2.2.2.1⟩
 have hgl : toS (zZ jUnder ((Txt.split (toS x) " < ").map ofS)) = toS x := by rw [s_under]; exact qO x jUnder
 have e1 := zP hp1 (.lst ((Txt.split (toS x) " < ").map V.str))
 have h1 : upd H p1 (.lst ((Txt.split (toS x) " < ").map V.str)) p1 = some (.lst ((Txt.split (toS x) " < ").map V.str)) := zK
 generalize Txt.split (toS x) " < " = sp at hin hgl e1 h1 ⊢
 generalize upd H p1 (.lst (sp.map V.str)) = H1 at e1 h1 ⊢
 refine zG fun N hN => ?_
 simp! [yI]
 refine ⟨_, .inl ⟨_, SqL.of h1, rfl⟩, rfl, fun h2 => hN _ _ ?_, fun h2 => qx (fun p hp => h2 ?_) H1 e1⟩
 · clear hN
   rw [List.length_map] at h2
   obtain ⟨a, b, rfl⟩ : ∃ a b, sp = [a, b] := by
     match sp, h2 with
     | [a, b], _ => exact ⟨a, b, rfl⟩
     | [], h => exact absurd h (by decide)
     | [_], h => simp at h
     | _ :: _ :: _ :: _, h => simp at h; omega
   obtain ⟨x1, rfl⟩ : ∃ x1, a = toS x1 := ⟨ofS a, (yK a).symm⟩
   obtain ⟨x2, rfl⟩ : ∃ x2, b = toS x2 := ⟨ofS b, (yK b).symm⟩
   have hg : x1 ++ jUnder ++ x2 = x := yN hgl
   have hgl2 := congrArg List.length hg
   rw [List.length_append, List.length_append] at hgl2
   simp! [uB]
   refine ⟨_, SqL.of h1, _, at0, x1, rfl, by omega, fun t1 r1 v1 H2 e2 tv1 => ?_, fun hno H2 e2 => qx (fun p hp => ?_) H2 (e1.trans e2)⟩
   · refine ⟨_, SqL.of (e2 _ _ h1), _, at1, x2, rfl, by omega, fun t2 r2 v2 H3 e3 tv2 => ⟨yE (by decide), fun p4 hp4 => ?_⟩, fun hno H3 e3 => qx (fun p hp => ?_) H3 (e1.trans (e2.trans e3))⟩
     · have e4 := zP hp4 (.tup [v1, v2])
       refine q (t1, t2) ⟨?_, ?_, ?_⟩ _ _ (((e1.trans e2).trans e3).trans e4) (SAt.mk zK (TAt.tups (e3.trans e4).tups tv1) (TAt.tups e4.tups tv2))
       · show x = wr t1 ++ jUnder ++ wr t2
         rw [← r1.1, ← r2.1, hg]
       · show RdOk (wr t1) t1
         rw [← r1.1]; exact r1
       · show RdOk (wr t2) t2
         rw [← r2.1]; exact r2
     · have hh := hin p hp
       have e5 : x2 = wr p.2 := yN (List.cons.inj (List.cons.inj hh).2).1
       exact hno p.2 (by rw [e5]; exact hp.2.2)
   · have hh := hin p hp
     have e5 : x1 = wr p.1 := yN (List.cons.inj hh).1
     exact hno p.1 (by rw [e5]; exact hp.2.1)
 · rw [hin p hp]
   rfl
end
abbrev s_r : Stmt := top 24
theorem sc_r : FnScope ["text", "halves", "premises"] ["text"] (zE s_r) := ⟨rfl, rfl, rfl, by decide +kernel, rfl, by decide +kernel, by decide +kernel⟩
def RdROk (x : Cs) (r : List (Tm × Tm) × (Tm × Tm)) : Prop := x = zX r /\ x.length <= 3000 /\ r.1.length <= 5 /\ (∀ p ∈ r.1, RdSOk (zL p) p) /\ RdSOk (zL r.2) r.2
theorem RdSOk.fit {x : Cs} {p : Tm × Tm} (h : RdSOk x p) : xG 20 p := ⟨h.2.1.2.1, h.2.2.2.1⟩
def wT (CT : Addr) : Sp := fun vs H Q E => ∃ x : Cs, vs = [.str (toS x)] /\ x.length <= 5000 /\ (∀ r, RdROk x r -> ∀ v H', Same H H' -> RAt H' r v -> Q v H') /\ ((∀ r, ¬ RdROk x r) -> ∀ H', Same H H' -> E (.ref CT) none H')
theorem RdROk.cut {x : Cs} {r : List (Tm × Tm) × (Tm × Tm)} (h : RdROk x r) : (r.1 = [] /\ x = zL r.2 /\ Txt.split (toS x) " => " = [toS x]) \/
   (r.1 ≠ [] /\ Txt.split (toS x) " => " = [toS (zZ jComma (r.1.map zL)), toS (zL r.2)] /\ Txt.split (toS (zZ jComma (r.1.map zL))) ", " = (r.1.map zL).map toS) := by
 obtain ⟨ps, c⟩ := r
 obtain ⟨hx, _, _, h1, h2⟩ := h
 have g1 : ∀ p ∈ ps, xG 20 p := fun p hp => (h1 p hp).fit
 have g2 : xG 20 c := h2.fit
 by_cases h0 : ps = []
 · subst h0
   refine .inl ⟨rfl, hx, ?_⟩
   rw [s_arrow, hx]
   exact jX g2
 · refine .inr ⟨h0, ?_, ?_⟩
   · rw [s_arrow, hx]
     exact jL h0 g1 g2
   · rw [s_comma]
     exact jY h0 g1
theorem glue_le {j : Cs} : ∀ {ss : List Cs} {y : Cs}, y ∈ ss -> y.length <= (zZ j ss).length
 | [a], y, h => by
   have := List.mem_singleton.mp h
   subst this
   exact Nat.le_refl _
 | a :: b :: r, y, h => by
   show y.length <= (a ++ j ++ zZ j (b :: r)).length
   rw [List.length_append, List.length_append]
   rcases List.mem_cons.mp h with rfl | h
   · omega
   · have := glue_le (j := j) h
     omega
theorem SAts.more {H : Hp} {ps : List (Tm × Tm)} {vs : List V} {p : Tm × Tm} {v : V} (h : SAts H ps vs) (h1 : SAt H p v) : SAts H (ps ++ [p]) (vs ++ [v]) := by
 have e : (ps ++ [p]).take (ps.length + 1) = ps ++ [p] := List.take_of_length_le (by simp)
 have := SAts.snoc (ps := ps ++ [p]) (i := ps.length) (p := p) (v := v) (by simp) (vs := vs) (by rw [List.take_left]; exact h) h1
 rw [e] at this
 exact this
section
variable {P : Program} {w : World} {K : PySem.W.Frag} {mg : Str -> Option Value} {base : Heap} {f : Addr} {fd : FuncData} {CT : Addr}
theorem wZ (bi : Bi mg) (g_COMMA : Gc mg "COMMA" (.str ", ")) (g_ARROW : Gc mg "ARROW" (.str " => ")) (g_MOST_SIGNS_OF_RULE : Gc mg "MOST_SIGNS_OF_RULE" (.int 3000)) (g_MOST_PREMISES : Gc mg "MOST_PREMISES" (.int 5)) (h_C : HasX P w K mg base 1 "need" ["held", "words"] (yI CT)) (h_e : HasX P w K mg base 47 "read_saying" ["text"] (jM CT)) (F : Fun K "read_rule" "read_rule" s_r f fd) : FnOk P w K mg base (CX1 P w) 48 f fd ["text"] (wT CT) := by
 refine F.okX sc_r (fun vs H Q E h => ?_) (fun cdv A outer s H vs Q E hr h => ?_)
 · obtain ⟨t, rfl, _⟩ := h
   rfl
 obtain ⟨x, rfl, hx5, q, qx⟩ := h
 have hxl : (toS x).length = x.length := zH x
 refine ⟨_, (zB (yG (zT h_C (hr.mono (by omega)) rfl (zA (zO (yW (T := "str")) rfl bi.isinstance bt_isinstance (zA (pv 0) (zA (jU bi.str bt_str rfl) pa_nil))) (zA zF pa_nil)))) (zB (yG (zT h_C (hr.mono (by omega)) rfl (zA (yD op_le (zO call_len rfl bi.len bt_len (zA (pv 0) pa_nil)) (yY g_MOST_SIGNS_OF_RULE rfl) (zN _)) (zA zF pa_nil)))) (zB (zR (i := 1) sc_r.nd rfl (Or.inl rfl) (qV PySem.F.plainAttrs_str PySem.F.slot_str_split PySem.F.type_str_split mt_split (pv 0) (zA (yY g_ARROW rfl) pa_nil))) (zB (yB (zQ op_eq (zO call_len rfl bi.len bt_len (zA (pv 1) pa_nil)) zC (zN _)) (zD (zM (yR (zA (jD pa_nil) (zA (zT h_e (hr.mono (by omega)) rfl (zA (pv 0) pa_nil)) pa_nil))))) pss_nil) (zB (yG (zT h_C (hr.mono (by omega)) rfl (zA (yD op_eq (zO call_len rfl bi.len bt_len (zA (pv 1) pa_nil)) zC (zN _)) (zA zF pa_nil)))) (zB (zR (i := 2) sc_r.nd rfl (Or.inl rfl) (qV PySem.F.plainAttrs_str PySem.F.slot_str_split PySem.F.type_str_split mt_split (yC ix_list (pv 1) zC (fun _ _ => rfl)) (zA (yY g_COMMA rfl) pa_nil))) (zB (yG (zT h_C (hr.mono (by omega)) rfl (zA (yD op_le (zO call_len rfl bi.len bt_len (zA (pv 2) pa_nil)) (yY g_MOST_PREMISES rfl) (zN _)) (zA zF pa_nil)))) (zD (zM (yR (zA (pe_compX ["premise"] [] [] (uW (pv 2)) (fun _ _ _ _ nd => yV (i := 0) nd rfl (Or.inl rfl)) (fun _ _ _ _ => (wE h_e (hr.mono (by omega)) rfl (zA (pv 0) pa_nil)))) (zA (zT h_e (hr.mono (by omega)) rfl (zA (yC ix_list (pv 1) zC (fun _ _ => rfl)) pa_nil)) pa_nil)))))))))))), ?_⟩
 refine zG fun N hN => ?_
 simp! [yI]
 refine ⟨_, .str _, true, xA, fun _ => hN _ _ ?_, fun z => by cases z⟩
 clear hN
 refine zG fun N hN => ?_
 simp! [yI]
 rw [hxl]
 refine ⟨big (by omega), fun h4 => hN _ _ ?_, fun h4 => qx (fun r hr => h4 (by have := hr.2.1; omega)) H (Same.refl _)⟩
 clear hN
 have h3000 : x.length <= 3000 := by omega
 refine zG fun N hN => ?_
 simp! []
 refine ⟨rfl, by decide +kernel, big (by omega), fun p1 hp1 => hN _ _ ?_⟩
 clear hN
 have hcut := fun r (hr : RdROk x r) => hr.cut
 have hgl : toS (zZ jArrow ((Txt.split (toS x) " => ").map ofS)) = toS x := by rw [s_arrow]; exact qO x jArrow
 have e1 := zP hp1 (.lst ((Txt.split (toS x) " => ").map V.str))
 have h1 : upd H p1 (.lst ((Txt.split (toS x) " => ").map V.str)) p1 = some (.lst ((Txt.split (toS x) " => ").map V.str)) := zK
 generalize Txt.split (toS x) " => " = sp at hcut hgl e1 h1 ⊢
 generalize upd H p1 (.lst (sp.map V.str)) = H1 at e1 h1 ⊢
 refine zG fun N hN => ?_
 simp! []
 refine ⟨_, .inl ⟨_, SqL.of h1, rfl⟩, rfl, ?_⟩
 rw [List.length_map]
 by_cases hl1 : sp.length = 1
 · rw [if_pos (by rw [hl1]; rfl)]
   clear hN
   refine ⟨yE (by decide), fun p2 hp2 => ⟨x, rfl, by omega, fun p hp v H3 e3 hv => ⟨yE (by decide), fun p4 hp4 => ?_⟩, fun hno H3 e3 => qx (fun r hr => ?_) H3 (e1.trans ((zP hp2 (.lst [])).trans e3))⟩⟩
   · have e2 := zP hp2 (.lst [])
     have e4 := zP hp4 (.tup [V.ref p2, v])
     have hsw : RdSOk (zL p) p := by rw [← hp.1]; exact hp
     exact q ([], p) ⟨hp.1, h3000, Nat.zero_le _, (fun _ z => by cases z), hsw⟩ _ _ (((e1.trans e2).trans e3).trans e4) (RAt.mk zK ((e3.trans e4) _ _ zK) rfl (DAt.same e4 hv))
   · rcases hcut r hr with ⟨_, hx, _⟩ | ⟨_, hs, _⟩
     · have hw : RdSOk x r.2 := by rw [hx]; exact hr.2.2.2.2
       exact hno r.2 hw
     · rw [hs] at hl1
       exact absurd hl1 (by simp)
 rw [if_neg (by omega)]
 refine hN _ _ ?_
 clear hN
 refine zG fun N hN => ?_
 simp! [yI]
 refine ⟨_, .inl ⟨_, SqL.of h1, rfl⟩, rfl, fun h2 => hN _ _ ?_, fun h2 => qx (fun r hr => ?_) H1 e1⟩
 rotate_left
 · rcases hcut r hr with ⟨_, _, hs⟩ | ⟨_, hs, _⟩
   · rw [hs] at hl1
     exact hl1 rfl
   · rw [hs] at h2
     exact h2 rfl
 clear hN
 rw [List.length_map] at h2
 obtain ⟨a, b, rfl⟩ : ∃ a b, sp = [a, b] := by
   match sp, h2 with
   | [a, b], _ => exact ⟨a, b, rfl⟩
   | [], h => exact absurd h (by decide)
   | [_], h => simp at h
   | _ :: _ :: _ :: _, h => simp at h; omega
 obtain ⟨x1, rfl⟩ : ∃ x1, a = toS x1 := ⟨ofS a, (yK a).symm⟩
 obtain ⟨x2, rfl⟩ : ∃ x2, b = toS x2 := ⟨ofS b, (yK b).symm⟩
 have hg : x1 ++ jArrow ++ x2 = x := yN hgl
 have hgl2 := congrArg List.length hg
 rw [List.length_append, List.length_append] at hgl2
 have hx1l : (toS x1).length = x1.length := zH x1
 have hin : ∀ r, RdROk x r -> r.1 ≠ [] /\ x2 = zL r.2 /\ Txt.split (toS x1) ", " = (r.1.map zL).map toS := fun r hr => by
   rcases hcut r hr with ⟨_, _, hs⟩ | ⟨h0, hs, hs2⟩
   · exact absurd (congrArg List.length hs) (by simp)
   · have a1 : x1 = zZ jComma (r.1.map zL) := yN (List.cons.inj hs).1
     have a2 : x2 = zL r.2 := yN (List.cons.inj (List.cons.inj hs).2).1
     exact ⟨h0, a2, by rw [a1]; exact hs2⟩
 refine zG fun N hN => ?_
 simp! []
 refine ⟨_, SqL.of h1, _, at0, rfl, _, rfl, by decide +kernel, big (by omega), fun p2 hp2 => hN _ _ ?_⟩
 clear hN
 have hgc : toS (zZ jComma ((Txt.split (toS x1) ", ").map ofS)) = toS x1 := by rw [s_comma]; exact qO x1 jComma
 have hne : Txt.split (toS x1) ", " ≠ [] := split_ne _ _
 have e2 := zP hp2 (.lst ((Txt.split (toS x1) ", ").map V.str))
 have h2 : upd H1 p2 (.lst ((Txt.split (toS x1) ", ").map V.str)) p2 = some (.lst ((Txt.split (toS x1) ", ").map V.str)) := zK
 generalize Txt.split (toS x1) ", " = ss at hin hgc hne e2 h2 ⊢
 generalize upd H1 p2 (.lst (ss.map V.str)) = H2 at e2 h2 ⊢
 refine zG fun N hN => ?_
 simp! [yI]
 refine ⟨_, .inl ⟨_, SqL.of h2, rfl⟩, fun h5 => hN _ _ ?_, fun h5 => qx (fun r hr => h5 ?_) H2 (e1.trans e2)⟩
 rotate_left
 · have := (hin r hr).2.2
   rw [this, List.length_map, List.length_map, List.length_map]
   have := hr.2.2.1
   omega
 clear hN
 rw [List.length_map] at h5
 have h5' : ss.length <= 5 := by omega
 have hbit : ∀ y ∈ ss, y.length <= x1.length := fun y hy => by
   have hm : ofS y ∈ ss.map ofS := List.mem_map.mpr ⟨y, hy, rfl⟩
   have := glue_le (j := jComma) hm
   rw [yN hgc] at this
   exact this
 simp! []
 refine ⟨⟨_, SqL.of h2⟩, ?_⟩
 refine lc_list (xs := ss.map V.str) (fun i ys σ H' => Same H2 H' /\ (∃ ps : List (Tm × Tm), ps.length = i /\ SAts H' ps ys /\ ss.take i = (ps.map zL).map toS /\ ∀ p ∈ ps, RdSOk (zL p) p) /\ ∃ o, σ = [o]) ⟨Same.refl _, ⟨[], rfl, rfl, rfl, fun _ z => by cases z⟩, _, rfl⟩ (yE (by rw [List.length_map]; omega)) (fun i ys σ H' e => ?_) (fun i ys σ H' e => SqL.of (e.1 _ _ h2)) (fun i x' ys σ H' C hx e hC => ?_) (fun ys σ H' e p3 hp3 => ?_)
 · obtain ⟨_, ⟨ps, hpl, hps, _⟩, _⟩ := e
   have := SAts.length hps
   omega
 · obtain ⟨es', ⟨ps, hpl, hps, hpt, hpo⟩, o, rfl⟩ := e
   rw [List.getElem?_map] at hx
   obtain ⟨y, hy, rfl⟩ := Option.map_eq_some_iff.mp hx
   have hym : y ∈ ss := List.mem_of_getElem? hy
   have hyl := hbit y hym
   obtain ⟨z, rfl⟩ : ∃ z, y = toS z := ⟨ofS y, (yK y).symm⟩
   have hzl : (toS z).length = z.length := zH z
   simp! [jM]
   refine ⟨z, rfl, by omega, fun p hp v H3 e3 hv => hC _ _ _ ⟨es'.trans e3, ⟨ps ++ [p], by simp [hpl], SAts.more (DAts.same e3 hps) hv, ?_, fun p' hp' => ?_⟩, _, rfl⟩, fun hno H3 e3 => qx (fun r hr => ?_) H3 (e1.trans (e2.trans (es'.trans e3)))⟩
   · obtain ⟨hi, hz⟩ := List.getElem?_eq_some_iff.mp hy
     rw [List.take_succ_eq_append_getElem hi, hz, hpt, List.map_append, List.map_append, List.map_cons, List.map_nil, List.map_cons, List.map_nil, ← hp.1]
   · rcases List.mem_append.mp hp' with h | h
     · exact hpo p' h
     · have := List.mem_singleton.mp h
       subst this
       rw [← hp.1]
       exact hp
   · have hs := (hin r hr).2.2
     rw [hs, List.map_map, List.getElem?_map] at hy
     obtain ⟨p, hp, hz⟩ := Option.map_eq_some_iff.mp hy
     have hz : zL p = z := yN hz
     exact hno p (by rw [← hz]; exact hr.2.2.2.1 p (List.mem_of_getElem? hp))
 · obtain ⟨es', ⟨ps, hpl, hps, hpt, hpo⟩, o, rfl⟩ := e
   rw [List.length_map] at hpl
   rw [List.length_map, List.take_length] at hpt
   have e3 := zP hp3 (.lst ys)
   have h3 : upd H' p3 (.lst ys) p3 = some (.lst ys) := zK
   generalize upd H' p3 (.lst ys) = H3 at e3 h3 ⊢
   simp only [jM]
   refine ⟨_, SqL.of ((e2.trans (es'.trans e3)) _ _ h1), _, at1, x2, rfl, by omega, fun c hc v H4 e4 hv => ⟨yE (by decide), fun p5 hp5 => ?_⟩, fun hno H4 e4 => qx (fun r hr => ?_) H4 (e1.trans (e2.trans ((es'.trans e3).trans e4)))⟩
   · have e5 := zP hp5 (.tup [V.ref p3, v])
     have hps0 : ps ≠ [] := fun z => by
       subst z
       exact hne hpt
     have hx1 : x1 = zZ jComma (ps.map zL) := by
       have := yN hgc
       rw [hpt, List.map_map] at this
       rw [← this]
       congr 1
       have : ∀ l : List Cs, l.map (ofS ∘ toS) = l := fun l => by
         induction l with
         | nil => rfl
         | cons a l ih => rw [List.map_cons, ih]; show ofS (toS a) :: l = _; rw [kD]
       exact this _
     refine q (ps, c) ⟨?_, h3000, by show ps.length <= 5; omega, hpo, by rw [← hc.1]; exact hc⟩ _ _ ((((e1.trans e2).trans (es'.trans e3)).trans e4).trans e5) (RAt.mk zK ((e4.trans e5) _ _ h3) (DAts.same ((e3.trans e4).trans e5) hps) (DAt.same e5 hv))
     show x = zX (ps, c)
     unfold zX
     rw [if_neg hps0, ← hg, hx1, hc.1]
   · exact hno r.2 (by rw [(hin r hr).2.1]; exact hr.2.2.2.2)
end
abbrev s_p : Stmt := top 30
theorem sc_p : FnScope ["word", "sign"] ["word"] (zE s_p) := ⟨rfl, rfl, rfl, by decide +kernel, rfl, by decide +kernel, by decide +kernel⟩
abbrev s_n : Stmt := top 31
theorem sc_n : FnScope ["t", "room", "part"] ["t", "room"] (zE s_n) := ⟨rfl, rfl, rfl, by decide +kernel, rfl, by decide +kernel, by decide +kernel⟩
abbrev s_h : Stmt := top 38
theorem sc_h : FnScope ["found"] ["found"] (zE s_h) := ⟨rfl, rfl, rfl, by decide +kernel, rfl, by decide +kernel, by decide +kernel⟩
abbrev s_q : Stmt := top 39
theorem sc_q : FnScope ["found", "one"] ["found"] (zE s_q) := ⟨rfl, rfl, rfl, by decide +kernel, rfl, by decide +kernel, by decide +kernel⟩
def spNm : Sp := fun vs H Q _ => ∃ x : Str, vs = [.str x] /\ Nm x /\ Q (.bl true) H
def spIsT : Nat -> Sp
 | 0 => fun _ _ _ _ => False
 | 1 => fun _ _ _ _ => False
 | n + 2 => fun vs H Q _ => ∃ (v : V) (t : Tm), vs = [v, .int (n : Nat)] /\ TAt H t v /\ Fit n t /\ wt t <= 900 /\ ∀ H', Same H H' -> Q (.bl true) H'
def spIsS : Sp := fun vs H Q _ => ∃ (v : V) (p : Tm × Tm), vs = [v] /\ SAt H p v /\ vU 20 900 p /\ ∀ H', Same H H' -> Q (.bl true) H'
def spIsR : Sp := fun vs H Q _ => ∃ (v : V) (r : List (Tm × Tm) × (Tm × Tm)), vs = [v] /\ RAt H r v /\ r.1.length <= 5 /\ (∀ p ∈ r.1, vU 20 900 p) /\ vU 20 900 r.2 /\ ∀ H', Same H H' -> Q (.bl true) H'
theorem nm_inL {x : Str} (h : Nm x) : ∀ c ∈ x.cps.toList, inL c = true := fun c hc => by
 have := h.low c hc
 rw [inL_eq]
 unfold L2.isL
 simp
 omega
section
variable {P : Program} {w : World} {K : PySem.W.Frag} {mg : Str -> Option Value} {base : Heap} {f : Addr} {fd : FuncData}
theorem vH (bi : Bi mg) (F : Fun K "_law_is_name" "_law_is_name" s_p f fd) : FnOk P w K mg base CX0 1 f fd ["word"] spNm := by
 refine F.ok sc_p (fun vs H Q E h => ?_) (fun cdv A outer s H vs Q E hr h => ?_)
 · obtain ⟨x, rfl, _⟩ := h
   rfl
 obtain ⟨x, rfl, hx, q⟩ := h
 have hp := hx.pos
 have hm := hx.most
 refine ⟨_, (zB (yB (PW.pt (qJ (xT (xC (zO (yW (T := "str")) rfl bi.isinstance bt_isinstance (zA (pv 0) (zA (jU bi.str bt_str rfl) pa_nil))))) (qJ (zQ op_lt (zO call_len rfl bi.len bt_len (zA (pv 0) pa_nil)) zC (zN _)) (qM (zQ op_gt (zO call_len rfl bi.len bt_len (zA (pv 0) pa_nil)) zC (zN _)))))) (zD (zM xH)) pss_nil) (zB (xN PassesOwn.never rfl (pi_str (pv 0)) (yV (i := 1) sc_p.nd rfl (Or.inl rfl)) (zD (yB (zQ op_notin_str (pv 1) zF (by with_unfolding_all rfl)) (zD (zM xH)) pss_nil))) (zD (zM (jQ (yD op_ne (pv 0) zF (zN _)) (jP (yD op_ne (pv 0) zF (zN _)))))))), ?_⟩
 refine zG fun N hN => ?_
 simp! []
 refine ⟨_, .str x, true, xA, ?_⟩
 rw [if_neg (by decide)]
 refine ⟨yE (by omega), ?_⟩
 rw [if_neg (by omega)]
 refine ⟨yE (by omega), ?_⟩
 rw [if_neg (by omega)]
 refine hN _ _ ?_
 clear hN
 simp! []
 refine fw_str (z := x) (fun i σ H' => H' = H /\ ∃ o, σ = [some (V.str x), o]) ⟨rfl, none, rfl⟩ (fun i c σ H' hc e => ?_) (fun σ H' e => ?_)
 · obtain ⟨rfl, o, rfl⟩ := e
   simp! []
   have hi : i < x.cps.toList.length := by simpa using (Array.getElem?_eq_some_iff.mp hc).1
   have hc' : x.cps.toList[i] = c := by simpa using (Array.getElem?_eq_some_iff.mp hc).2
   have ec : (!(Builtin.Str.occurrences "abcdefghijklmnopqrstuvwxyz" ⟨#[c]⟩ 0 ("abcdefghijklmnopqrstuvwxyz" : Str).length 1).isEmpty) = inL c := rfl
   rw [ec, nm_inL hx c (hc' ▸ List.getElem_mem hi)]
   rw [if_neg (by decide)]
   exact ⟨_, rfl⟩
 · obtain ⟨rfl, o, rfl⟩ := e
   simp! []
   refine ⟨rfl, ?_⟩
   rw [if_pos (by simpa using hx.nn)]
   refine ⟨rfl, ?_⟩
   rw [decide_eq_false hx.na]
   exact q
theorem ok_is_term (bi : Bi mg) (h_p : Has P w K mg base 1 "_law_is_name" ["word"] spNm) (F : Fun K "_law_is_term" "_law_is_term" s_n f fd) (b : Binds K fd ["t", "room"] []) (m : mg "_law_is_term" = some (.ref f)) : ∀ n, FnOk P w K mg base CX0 n f fd ["t", "room"] (spIsT n) := by
 refine wW F b m (fun vs H Q E h => h) (fun n h_n => ?_)
 cases n with
 | zero => exact ⟨fun vs H Q E h => (show False from h).elim, fun A outer s H args us vs Q E _ _ _ _ h => (show False from h).elim⟩
 | succ n =>
 refine F.ok sc_n (fun vs H Q E h => ?_) (fun cdv A outer s H vs Q E hr h => ?_)
 · obtain ⟨v, t, rfl, _⟩ := h
   rfl
 obtain ⟨v, t, rfl, ht, hf, hw, q⟩ := h
 refine ⟨_, (zB (yB (PW.pt (qJ (xT (xC (zO (yW (T := "tuple")) rfl bi.isinstance bt_isinstance (zA (pv 0) (zA (jU bi.tuple bt_tuple rfl) pa_nil))))) (qJ (zQ op_lt (zO call_len rfl bi.len bt_len (zA (pv 0) pa_nil)) zC (zN _)) (qM (xT (xC (zO (yW (T := "str")) rfl bi.isinstance bt_isinstance (zA (yC ix_tup (pv 0) zC (fun _ _ => rfl)) (zA (jU bi.str bt_str rfl) pa_nil))))))))) (zD (zM xH)) pss_nil) (zB (yB (PW.pt (qJ (zQ op_eq (yC ix_tup (pv 0) zC (fun _ _ => rfl)) zF (zN _)) (qM (zQ op_eq (yC ix_tup (pv 0) zC (fun _ _ => rfl)) zF (zN _))))) (zD (zM (yD op_eq (zO call_len rfl bi.len bt_len (zA (pv 0) pa_nil)) zC (zN _)))) pss_nil) (zB (yB (zQ op_eq (yC ix_tup (pv 0) zC (fun _ _ => rfl)) zF (zN _)) (zD (zM (jQ (yD op_eq (zO call_len rfl bi.len bt_len (zA (pv 0) pa_nil)) zC (zN _)) (jP (zS h_p (hr.mono (by omega)) rfl (zA (yC ix_tup (pv 0) zC (fun _ _ => rfl)) pa_nil)))))) pss_nil) (zB (yB (PW.pt (wX (zQ op_eq (yC ix_tup (pv 0) zC (fun _ _ => rfl)) zF (zN _)) (uU (zQ op_ne (zO call_len rfl bi.len bt_len (zA (pv 0) pa_nil)) zC (zN _))))) (zD (zM xH)) pss_nil) (zB (yB (PW.pt (wX (zQ op_ne (yC ix_tup (pv 0) zC (fun _ _ => rfl)) zF (zN _)) (uU (PW.pt (qJ (zQ op_notIn_seq (yC ix_tup (pv 0) zC (fun _ _ => rfl)) (jD (zA zF (zA zF pa_nil))) (by with_unfolding_all rfl)) (qM (zQ op_lt (zO call_len rfl bi.len bt_len (zA (pv 0) pa_nil)) zC (zN _)))))))) (zD (zM xH)) pss_nil) (zB (yB (zQ op_eq (pv 1) zC (zN _)) (zD (zM xH)) pss_nil) (zB (xN PassesOwn.never rfl (pi_tup (jG sl_tup (pv 0) (jO zC) po_none)) (yV (i := 2) sc_n.nd rfl (Or.inl rfl)) (zD (yB (xT (xC (zS h_n hr rfl (zA (pv 2) (zA (zI op_sub (pv 1) zC) pa_nil))))) (zD (zM xH)) pss_nil))) (zD (zM xH))))))))), ?_⟩
 cases t with
 | name x =>
   obtain ⟨a, rfl, ha⟩ := TAt.name ht
   have hx : Nm x := by cases n <;> exact hf
   refine zG fun N hN => ?_
   simp! []
   refine ⟨_, .tup ha, true, xA, ?_⟩
   rw [if_neg (by decide)]
   refine ⟨_, .inr ⟨_, SqT.of ha, rfl⟩, ?_⟩
   rw [if_neg (by simp)]
   refine ⟨_, SqT.of ha, .str "name", at0, _, .str "name", true, xA, ?_⟩
   rw [if_neg (by decide)]
   refine hN _ _ ?_
   clear hN
   refine zG fun N hN => ?_
   simp! []
   refine ⟨_, SqT.of ha, .str "name", at0, rfl, ?_⟩
   rw [if_neg (by decide +kernel)]
   refine ⟨_, SqT.of ha, .str "name", at0, rfl, ?_⟩
   rw [if_neg (by decide +kernel)]
   refine hN _ _ ?_
   clear hN
   simp! [spNm]
   refine ⟨_, SqT.of ha, .str "name", at0, rfl, ?_⟩
   rw [if_pos rfl]
   refine ⟨_, .inr ⟨_, SqT.of ha, rfl⟩, rfl, ?_⟩
   rw [if_pos (by simp)]
   exact ⟨_, SqT.of ha, .str x, at1, x, rfl, hx, q _ (Same.refl _)⟩
 | node wd ts =>
   obtain ⟨a, us, rfl, ha, hu⟩ := TAt.node ht
   have hwd := hf.wrd
   have hl := hu.length
   have hsh := hf.sh
   rw [wt] at hw
   have hll := wts_len ts
   refine zG fun N hN => ?_
   simp! []
   refine ⟨_, .tup ha, true, xA, ?_⟩
   rw [if_neg (by decide)]
   refine ⟨_, .inr ⟨_, SqT.of ha, rfl⟩, ?_⟩
   rw [List.length_cons, if_neg (by omega)]
   refine ⟨_, SqT.of ha, .str wd, at0, _, .str wd, true, xA, ?_⟩
   rw [if_neg (by decide)]
   refine hN _ _ ?_
   clear hN
   by_cases h0 : ts = []
   · subst h0
     have hus : us = [] := List.eq_nil_of_length_eq_zero hl
     subst hus
     have hna : wd = "none" \/ wd = "all" := by
       rcases hsh with ⟨h, _⟩ | ⟨h, _⟩ | ⟨_, h⟩ | ⟨_, h⟩ | ⟨_, h⟩
       · exact .inl h
       · exact .inr h
       · cases h
       · cases h
       · cases h
     refine zG fun N hN => ?_
     simp! []
     refine ⟨_, SqT.of ha, .str wd, at0, rfl, ?_⟩
     rcases hna with rfl | rfl
     · rw [if_pos rfl]
       refine ⟨_, .inr ⟨_, SqT.of ha, rfl⟩, rfl, ?_⟩
       exact q _ (Same.refl _)
     · rw [if_neg (by decide +kernel)]
       refine ⟨_, SqT.of ha, .str "all", at0, rfl, ?_⟩
       rw [if_pos rfl]
       refine ⟨_, .inr ⟨_, SqT.of ha, rfl⟩, rfl, ?_⟩
       exact q _ (Same.refl _)
   have nn : wd ≠ "none" := fun z => by
     subst z
     rcases hsh with ⟨_, h⟩ | ⟨h, _⟩ | ⟨h, _⟩ | ⟨h, _⟩ | ⟨h, _⟩
     · exact h0 (List.eq_nil_of_length_eq_zero h)
     · exact absurd h (by decide +kernel)
     · exact absurd h (by decide +kernel)
     · exact absurd h (by decide +kernel)
     · exact absurd h (by decide +kernel)
   have na : wd ≠ "all" := fun z => by
     subst z
     rcases hsh with ⟨h, _⟩ | ⟨_, h⟩ | ⟨h, _⟩ | ⟨h, _⟩ | ⟨h, _⟩
     · exact absurd h (by decide +kernel)
     · exact h0 (List.eq_nil_of_length_eq_zero h)
     · exact absurd h (by decide +kernel)
     · exact absurd h (by decide +kernel)
     · exact absurd h (by decide +kernel)
   refine zG fun N hN => ?_
   simp! []
   refine ⟨_, SqT.of ha, .str wd, at0, rfl, ?_⟩
   rw [if_neg (fun e => nn (V.str.inj e))]
   refine ⟨_, SqT.of ha, .str wd, at0, rfl, ?_⟩
   rw [if_neg (fun e => na (V.str.inj e))]
   refine hN _ _ ?_
   clear hN
   refine zG fun N hN => ?_
   simp! []
   refine ⟨_, SqT.of ha, .str wd, at0, rfl, ?_⟩
   rw [if_neg (fun e => hwd.ne (V.str.inj e))]
   refine hN _ _ ?_
   clear hN
   have hsh2 : (wd = "not" /\ ts.length = 1) \/ ((wd = "both" \/ wd = "either") /\ 2 <= ts.length) := by
     rcases hsh with ⟨h, _⟩ | ⟨h, _⟩ | h | ⟨h, h2⟩ | ⟨h, h2⟩
     · exact absurd h nn
     · exact absurd h na
     · exact .inl h
     · exact .inr ⟨.inl h, h2⟩
     · exact .inr ⟨.inr h, h2⟩
   refine zG fun N hN => ?_
   simp! []
   refine ⟨_, SqT.of ha, .str wd, at0, rfl, ?_⟩
   have go4 : N [some (V.ref a), some (V.int ((n : Nat) : Int)), none] H := hN _ _ ?_
   · rcases hsh2 with ⟨rfl, h1⟩ | ⟨hb, h2⟩
     · rw [if_pos rfl]
       refine ⟨_, .inr ⟨_, SqT.of ha, rfl⟩, rfl, ?_⟩
       rw [List.length_cons, if_neg (by omega)]
       exact go4
     · rw [if_neg (by rcases hb with rfl | rfl <;> decide +kernel)]
       exact go4
   clear hN
   refine yF (fun σ H' => Same H H' /\ σ = [some (V.ref a), some (V.int ((n : Nat) : Int)), none]) (fun N hN => ?_) (fun σ H' h => ?_)
   · simp! []
     refine ⟨_, SqT.of ha, .str wd, at0, rfl, ?_⟩
     rcases hsh2 with ⟨rfl, h1⟩ | ⟨hb, h2⟩
     · rw [if_neg (by simp)]
       exact hN _ _ ⟨Same.refl _, rfl⟩
     · rw [if_pos (by rcases hb with rfl | rfl <;> decide +kernel)]
       refine ⟨_, SqT.of ha, .str wd, at0, yE (by decide), fun p1 hp1 => ?_⟩
       have e1 := zP hp1 (.lst [V.str "both", V.str "either"])
       refine ⟨p1, _, rfl, .inl (SqL.of zK), rfl, rfl, false, ?_, ?_⟩
       · rcases hb with rfl | rfl <;> decide +kernel
       rw [if_neg (by decide)]
       refine ⟨_, .inr ⟨_, SqT.of (e1 _ _ ha), rfl⟩, ?_⟩
       rw [List.length_cons, if_neg (by omega)]
       exact hN _ _ ⟨e1, rfl⟩
   obtain ⟨e1, rfl⟩ := h
   have ha1 := e1 _ _ ha
   refine zG fun N hN => ?_
   simp! []
   have hn0 : n ≠ 0 := fun z => by
     subst z
     exact h0 hf.2
   refine ⟨rfl, ?_⟩
   rw [if_neg (by omega)]
   refine hN _ _ ?_
   clear hN
   refine yF (fun σ H2 => Same H H2) (fun N hN => ?_) (fun σ H2 h => ?_)
   · simp! []
     refine ⟨_, SqT.of ha1, ?_, fun p2 hp2 => ?_⟩
     · have e : HT.sIx (V.str wd :: us).length 0 (some ((1 : Nat) : Int)) = 1 := by rw [HT.sIx_nat, List.length_cons]; omega
       have e : HT.sIx (V.str wd :: us).length 0 (some 1) = 1 := e
       rw [e]
       omega
     rw [cut_tail]
     have e2 := zP hp2 (.tup us)
     have h2 : upd H' p2 (.tup us) p2 = some (.tup us) := zK
     generalize upd H' p2 (.tup us) = H2 at e2 h2 ⊢
     refine ⟨⟨_, SqT.of h2⟩, ?_⟩
     refine fw_tup (xs := us) (fun i σ H3 => Same H2 H3 /\ ∃ o, σ = [some (V.ref a), some (V.int ((n : Nat) : Int)), o]) ⟨Same.refl _, none, rfl⟩ (fun i σ H3 _ h => SqT.of (h.1 _ _ h2)) (fun i x σ H3 hx h => ?_) (fun σ H3 h => hN _ _ (e1.trans (e2.trans h.1)))
     obtain ⟨es, o, rfl⟩ := h
     obtain ⟨x', hx1, hx2⟩ := hu.getV hx
     have hm := List.mem_of_getElem? hx1
     have := wts_mem hm
     obtain ⟨k, rfl⟩ : ∃ k, n = k + 1 := ⟨n - 1, by omega⟩
     have hfx : Fit k x' := hf.part hm
     simp! []
     refine ⟨x, x', ?_, TAt.tups ((e1.trans e2).trans es).tups hx2, hfx, by omega, fun H4 e4 => ?_⟩
     · congr 2
       simp
     refine ⟨true, rfl, ?_⟩
     rw [if_neg (by decide)]
     exact ⟨es.trans e4, _, rfl⟩
   · simp! []
     exact q _ h
theorem kC (bi : Bi mg) (h_n : Has P w K mg base 22 "_law_is_term" ["t", "room"] (spIsT 22)) (F : Fun K "_law_is_saying" "_law_is_saying" s_h f fd) : FnOk P w K mg base CX0 23 f fd ["found"] spIsS := by
 refine F.ok sc_h (fun vs H Q E h => ?_) (fun cdv A outer s H vs Q E hr h => ?_)
 · obtain ⟨v, t, rfl, _⟩ := h
   rfl
 obtain ⟨v, p, rfl, hs, hf, q⟩ := h
 obtain ⟨a, v1, v2, rfl, ha, t1, t2⟩ := hs.out
 refine ⟨_, (zB (yB (PW.pt (qJ (xT (xC (zO (yW (T := "tuple")) rfl bi.isinstance bt_isinstance (zA (pv 0) (zA (jU bi.tuple bt_tuple rfl) pa_nil))))) (qM (zQ op_ne (zO call_len rfl bi.len bt_len (zA (pv 0) pa_nil)) zC (zN _))))) (zD (zM xH)) pss_nil) (zD (zM (jQ (zS h_n (hr.mono (by omega)) rfl (zA (yC ix_tup (pv 0) zC (fun _ _ => rfl)) (zA zC pa_nil))) (jP (zS h_n (hr.mono (by omega)) rfl (zA (yC ix_tup (pv 0) zC (fun _ _ => rfl)) (zA zC pa_nil)))))))), ?_⟩
 refine zG fun N hN => ?_
 simp! []
 refine ⟨_, .tup ha, true, xA, ?_⟩
 rw [if_neg (by decide)]
 refine ⟨_, .inr ⟨_, SqT.of ha, rfl⟩, rfl, ?_⟩
 rw [if_neg (by simp)]
 refine hN _ _ ?_
 clear hN
 simp! [spIsT]
 refine ⟨_, SqT.of ha, v1, at0, rfl, p.1, t1, hf.1.1, hf.1.2, fun H1 e1 => ?_⟩
 exact ⟨_, SqT.of (e1 _ _ ha), v2, at1, rfl, p.2, TAt.tups e1.tups t2, hf.2.1, hf.2.2, fun H2 e2 => q _ (e1.trans e2)⟩
theorem ok_is_rule (bi : Bi mg) (h_h : Has P w K mg base 23 "_law_is_saying" ["found"] spIsS) (F : Fun K "_law_is_rule" "_law_is_rule" s_q f fd) : FnOk P w K mg base CX0 24 f fd ["found"] spIsR := by
 refine F.ok sc_q (fun vs H Q E h => ?_) (fun cdv A outer s H vs Q E hr h => ?_)
 · obtain ⟨v, t, rfl, _⟩ := h
   rfl
 obtain ⟨v, r, rfl, hr', hlen, hf1, hf2, q⟩ := h
 obtain ⟨a, l, sv, us, rfl, ha, hl, hu, hs⟩ := hr'.out
 have hul := SAts.length hu
 refine ⟨_, (zB (yB (PW.pt (qJ (xT (xC (zO (yW (T := "tuple")) rfl bi.isinstance bt_isinstance (zA (pv 0) (zA (jU bi.tuple bt_tuple rfl) pa_nil))))) (qJ (zQ op_ne (zO call_len rfl bi.len bt_len (zA (pv 0) pa_nil)) zC (zN _)) (qM (xT (xC (zO (yW (T := "list")) rfl bi.isinstance bt_isinstance (zA (yC ix_tup (pv 0) zC (fun _ _ => rfl)) (zA (jU bi.list bt_list rfl) pa_nil))))))))) (zD (zM xH)) pss_nil) (zB (xN PassesOwn.never rfl (uW (yC ix_tup (pv 0) zC (fun _ _ => rfl))) (yV (i := 1) sc_q.nd rfl (Or.inl rfl)) (zD (yB (xT (xC (zS h_h (hr.mono (by omega)) rfl (zA (pv 1) pa_nil)))) (zD (zM xH)) pss_nil))) (zD (zM (jQ (yD op_lt (zO call_len rfl bi.len bt_len (zA (yC ix_tup (pv 0) zC (fun _ _ => rfl)) pa_nil)) zC (zN _)) (jP (zS h_h (hr.mono (by omega)) rfl (zA (yC ix_tup (pv 0) zC (fun _ _ => rfl)) pa_nil)))))))), ?_⟩
 refine zG fun N hN => ?_
 simp! []
 refine ⟨_, .tup ha, true, xA, ?_⟩
 rw [if_neg (by decide)]
 refine ⟨_, .inr ⟨_, SqT.of ha, rfl⟩, rfl, ?_⟩
 rw [if_neg (by simp)]
 refine ⟨_, SqT.of ha, .ref l, at0, _, .lst hl, true, xA, ?_⟩
 rw [if_neg (by decide)]
 refine hN _ _ ?_
 clear hN
 refine yF (fun σ H2 => Same H H2 /\ ∃ o, σ = [some (V.ref a), o]) (fun N hN => ?_) (fun σ H2 h => ?_)
 · simp! []
   refine ⟨_, SqT.of ha, .ref l, at0, l, rfl, ⟨_, SqL.of hl⟩, ?_⟩
   refine fw_list (xs := us) (fun i σ H' => Same H H' /\ ∃ o, σ = [some (V.ref a), o]) ⟨Same.refl _, _, rfl⟩ (fun i σ H' _ h => SqL.of (h.1 _ _ hl)) (fun i x σ H' hx h => ?_) (fun σ H' h => hN _ _ h)
   obtain ⟨es, o, rfl⟩ := h
   obtain ⟨p, hp1, hp2⟩ := SAts.getV hu hx
   simp! [spIsS]
   refine ⟨p, DAt.same es hp2, hf1 p (List.mem_of_getElem? hp1), fun H3 e3 => ⟨es.trans e3, _, rfl⟩⟩
 · obtain ⟨es, o, rfl⟩ := h
   simp! [spIsS]
   refine ⟨_, SqT.of (es _ _ ha), .ref l, at0, _, .inl ⟨_, SqL.of (es _ _ hl), rfl⟩, ?_⟩
   rw [if_pos (by omega)]
   exact ⟨_, SqT.of (es _ _ ha), sv, at1, r.2, DAt.same es hs, hf2, fun H3 e3 => q _ (es.trans e3)⟩
end
abbrev s_g : Stmt := top 32
theorem sc_g : FnScope ["cell", "turn", "made", "rest", "k"] ["cell", "turn"] (zE s_g) := ⟨rfl, rfl, rfl, by decide +kernel, rfl, by decide +kernel, by decide +kernel⟩
abbrev s_z : Stmt := top 33
theorem sc_z : FnScope ["cell", "many", "mark", "made", "k"] ["cell", "many", "mark"] (zE s_z) := ⟨rfl, rfl, rfl, by decide +kernel, rfl, by decide +kernel, by decide +kernel⟩
abbrev s_w : Stmt := top 35
theorem sc_w : FnScope ["name", "many", "mark", "made", "k"] ["name", "many", "mark"] (zE s_w) := ⟨rfl, rfl, rfl, by decide +kernel, rfl, by decide +kernel, by decide +kernel⟩
theorem slice_to (x : Cs) {b : Nat} (hb : b <= x.length) : Txt.slice (toS x) none (some (b : Int)) = toS (x.take b) := by
 have e : Txt.slice (toS x) none (some (b : Int)) = Txt.slice (toS x) (some ((0 : Nat) : Int)) (some (b : Int)) := by
   unfold Txt.slice
   rw [PySem.StrLaws.sliceIdx_none_lo]
   rfl
 rw [e, uD x (Nat.zero_le _) hb]
 rfl
theorem slice_from (x : Cs) {a : Nat} (ha : a <= x.length) : Txt.slice (toS x) (some (a : Int)) none = toS (x.drop a) := by
 have e : Txt.slice (toS x) (some (a : Int)) none = Txt.slice (toS x) (some (a : Int)) (some (x.length : Int)) := by
   unfold Txt.slice
   rw [PySem.StrLaws.sliceIdx_none_hi, zH]
 rw [e, uD x ha (Nat.le_refl _), List.take_of_length_le (by rw [List.length_drop]; omega)]
def spLong : Sp := fun vs H Q _ => ∃ c tn : Nat, vs = [.int c, .int tn] /\ ∀ y : Str, Nm y -> y.length = 8 -> Q (.str y) H
def xL (wd : Str) (xs : List Str) : Tm := .node wd (xs.map .name)
def Jw (wd : Str) : Prop := wd = "both" \/ wd = "either"
def spRow : Sp := fun vs H Q _ => ∃ (c m : Nat) (wd : Str), vs = [.int c, .int m, .str (toS (jOf wd))] /\ Jw wd /\ 1 <= m /\ m <= 100 /\ ∀ xs : List Str, xs.length = m -> (∀ x ∈ xs, Nm x /\ x.length = 8) -> Q (.str (wrS (xL wd xs))) H
def spMany : Sp := fun vs H Q _ => ∃ (nm : Str) (m : Nat) (wd : Str), vs = [.str nm, .int m, .str (toS (jOf wd))] /\ Jw wd /\ nm.length = 1 /\ 1 <= m /\ m <= 100 /\ Q (.str (wrS (xL wd (List.replicate m nm)))) H
theorem row_wr {wd : Str} (h : Jw wd) {x : Str} {xs : List Str} : wr (xL wd (x :: xs)) = 40 :: (ofS x ++ zV (jOf wd) (xs.map ofS) ++ [41]) := by
 unfold xL
 rw [xP h (by simp), List.map_map, List.map_cons, yS]
 rfl
theorem xS {j : Cs} {n m : Nat} (hj : j.length = 3) : ∀ xs : List Str, xs.length = n -> (∀ x ∈ xs, x.length = m) -> (zV j (xs.map ofS)).length = n * (m + 3)
 | [], h, _ => by subst h; show 0 = 0 * _; omega
 | x :: xs, h, hx => by
   have h1 : (ofS x).length = m := hx x (by simp)
   have := xS hj xs rfl fun y hy => hx y (List.mem_cons_of_mem _ hy)
   rw [List.map_cons, zV, List.length_append, List.length_append, hj, this, h1, ← h, List.length_cons, Nat.add_mul]
   omega
theorem j3 (wd : Str) : (jOf wd).length = 3 := by
 unfold jOf
 split <;> rfl
theorem jN {wd : Str} (h : Jw wd) {xs : List Str} {n m : Nat} (hn : xs.length = n + 1) (hm : ∀ x ∈ xs, x.length = m) : (wr (xL wd xs)).length = n * (m + 3) + m + 2 := by
 match xs, hn with
 | x :: xs, hn =>
   have h1 : (ofS x).length = m := hm x (by simp)
   rw [row_wr h, List.length_cons, List.length_append, List.length_append, h1, xS (j3 wd) xs (by simpa using hn) fun y hy => hm y (List.mem_cons_of_mem _ hy), List.length_singleton]
   omega
section
variable {P : Program} {w : World} {K : PySem.W.Frag} {mg : Str -> Option Value} {base : Heap} {f : Addr} {fd : FuncData}
theorem kA (bi : Bi mg) (F : Fun K "_law_long_name" "_law_long_name" s_g f fd) : FnOk P w K mg base CX0 1 f fd ["cell", "turn"] spLong := by
 refine F.ok sc_g (fun vs H Q E h => ?_) (fun cdv A outer s H vs Q E hr h => ?_)
 · obtain ⟨c, n, rfl, _⟩ := h
   rfl
 obtain ⟨c, tn, rfl, q⟩ := h
 refine ⟨_, (zB (zR (i := 2) sc_g.nd rfl (Or.inl rfl) zF) (zB (zR (i := 3) sc_g.nd rfl (Or.inl rfl) (zI op_mod (pv 0) (zI op_pow zC zC))) (zB (xN PassesOwn.never rfl (xR rfl bi.range (zA zC pa_nil)) (yV (i := 4) sc_g.nd rfl (Or.inl rfl)) (zB (zR (i := 2) sc_g.nd rfl (Or.inl rfl) (zI op_add_str (pv 2) (yC ix_str zF (zI op_mod (pv 3) zC) (fun _ _ => rfl)))) (zD (zR (i := 3) sc_g.nd rfl (Or.inl rfl) (zI op_fdiv (pv 3) zC))))) (zD (zM (zI op_add_str (zI op_add_str (jG sl_str (pv 2) po_none (jO (zI op_mod (pv 1) zC))) (yC ix_str zF (zI op_mod (zI op_fdiv (pv 1) zC) zC) (fun _ _ => rfl))) (jG sl_str (pv 2) (jO (zI op_mod (pv 1) zC)) po_none))))))), ?_⟩
 refine zG fun N hN => ?_
 simp! []
 refine hN _ _ ?_
 clear hN
 refine zG fun N hN => ?_
 simp! []
 refine ⟨⟨by decide, by decide, by decide⟩, by decide, hN _ _ ?_⟩
 clear hN
 generalize (c : Int) % 26 ^ Int.toNat 7 = r0
 refine yF (fun σ H' => H' = H /\ ∃ (z : Cs) (a b : Option V), z.length = 7 /\ (∀ d ∈ z, 97 <= d /\ d <= 122) /\ σ = [some (V.int c), some (V.int tn), some (V.str (toS z)), a, b]) (fun N hN => ?_) (fun σ H' h => ?_)
 · simp! []
   refine ⟨by decide, by decide, xX (n := (7 : Int).toNat) (fun i σ H' => H' = H /\ ∃ (z : Cs) (r : Int) (o : Option V), z.length = i /\ (∀ d ∈ z, 97 <= d /\ d <= 122) /\ σ = [some (V.int c), some (V.int tn), some (V.str (toS z)), some (V.int r), o])
     ⟨rfl, [], _, _, rfl, (fun d hd => by cases hd), by rw [← s_empty]⟩ (fun i σ H' hi e => ?_) (fun σ H' e => ?_)⟩
   · obtain ⟨rfl, z, r, o, hz, hl, rfl⟩ := e
     obtain ⟨d, hd, hd2⟩ := wI r
     simp! []
     have hi7 : i < 7 := hi
     have e1 : (⟨#[d]⟩ : Str) = toS [d] := rfl
     refine ⟨by decide, yE (by decide +kernel), d, hd, ?_, ⟨by decide, by decide⟩, z ++ [d], ?_, ?_, ?_⟩
     · rw [e1, zH, zH]
       exact yE (by rw [List.length_singleton]; omega)
     · rw [List.length_append, hz]; rfl
     · intro d' hd'
       rcases List.mem_append.mp hd' with h | h
       · exact hl d' h
       · rw [List.mem_singleton.mp h]
         exact hd2
     · rw [e1, zJ]
       exact ⟨rfl, _, rfl⟩
   · obtain ⟨rfl, z, r, o, hz, hl, rfl⟩ := e
     exact hN _ _ ⟨rfl, z, _, _, hz, hl, rfl⟩
 obtain ⟨rfl, z, a, b, hz, hl, rfl⟩ := h
 simp! []
 obtain ⟨m, hm, hml⟩ : ∃ m : Nat, (tn : Int) % 8 = (m : Nat) /\ m <= 7 := ⟨tn % 8, by omega, by omega⟩
 rw [hm, slice_to z (by omega), slice_from z (by omega)]
 have hzs : (toS z).length <= sizeLine := yE (by rw [zH]; omega)
 have hqz : ∃ d : Nat, atI ("qz" : Str).cps.toList ((tn : Int) / 8 % 2) = some d /\ 97 <= d /\ d <= 122 := by
   have : (tn : Int) / 8 % 2 = 0 \/ (tn : Int) / 8 % 2 = 1 := by omega
   rcases this with h | h
   · rw [h]; exact ⟨113, by decide +kernel, by decide, by decide⟩
   · rw [h]; exact ⟨122, by decide +kernel, by decide, by decide⟩
 obtain ⟨d, hd, hd2⟩ := hqz
 have e1 : (⟨#[d]⟩ : Str) = toS [d] := rfl
 refine ⟨by decide, hzs, ⟨by decide, by decide⟩, by decide, yE (by decide +kernel), d, hd, ?_, by decide, hzs, ?_, ?_⟩
 · rw [e1, zH, zH, List.length_take]
   exact yE (by rw [List.length_singleton]; omega)
 · rw [e1, zJ, zH, zH, List.length_append, List.length_take, List.length_drop]
   exact yE (by rw [List.length_singleton]; omega)
 · rw [e1, zJ, zJ]
   have hl8 : (z.take m ++ [d] ++ z.drop m).length = 8 := by
     rw [List.length_append, List.length_append, List.length_take, List.length_drop, List.length_singleton]
     omega
   have h8 : (toS (z.take m ++ [d] ++ z.drop m)).length = 8 := by rw [zH]; exact hl8
   refine q _ ⟨by omega, by omega, fun e he => ?_, fun z => ?_, fun z => ?_⟩ h8
   · have he : e ∈ z.take m ++ [d] ++ z.drop m := by simpa [toS] using he
     rcases List.mem_append.mp he with he | he
     · rcases List.mem_append.mp he with he | he
       · exact hl e (List.mem_of_mem_take he)
       · rw [List.mem_singleton.mp he]; exact hd2
     · exact hl e (List.mem_of_mem_drop he)
   · rw [z] at h8; exact absurd h8 (by decide +kernel)
   · rw [z] at h8; exact absurd h8 (by decide +kernel)
theorem ok_row (bi : Bi mg) (h_g : Has P w K mg base 1 "_law_long_name" ["cell", "turn"] spLong) (F : Fun K "_law_row" "_law_row" s_z f fd) : FnOk P w K mg base CX0 2 f fd ["cell", "many", "mark"] spRow := by
 refine F.ok sc_z (fun vs H Q E h => ?_) (fun cdv A outer s H vs Q E hr h => ?_)
 · obtain ⟨c, m, wd, rfl, _⟩ := h
   rfl
 obtain ⟨c, m, wd, rfl, hj, h1, hm, q⟩ := h
 have hjl := j3 wd
 refine ⟨_, (zB (zR (i := 3) sc_z.nd rfl (Or.inl rfl) (zI op_add_str zF (zS h_g (hr.mono (by omega)) rfl (zA (pv 0) (zA zC pa_nil))))) (zB (xN PassesOwn.never rfl (pi_range2 rfl bi.range (zA zC (zA (pv 1) pa_nil))) (yV (i := 4) sc_z.nd rfl (Or.inl rfl)) (zD (zR (i := 3) sc_z.nd rfl (Or.inl rfl) (zI op_add_str (zI op_add_str (pv 3) (pv 2)) (zS h_g (hr.mono (by omega)) rfl (zA (zI op_fdiv (pv 0) (zI op_add zC (zI op_mod (pv 4) zC))) (zA (pv 4) pa_nil))))))) (zD (zM (zI op_add_str (pv 3) zF))))), ?_⟩
 refine zG fun N hN => ?_
 simp! [spLong]
 refine ⟨c, rfl, 0, rfl, fun x hx hx8 => ⟨?_, hN _ _ ?_⟩⟩
 · exact yE (by rw [hx8, s_open, zH]; decide)
 clear hN
 have ex : ("(" : Str) ++ x = toS (40 :: (ofS x ++ zV (jOf wd) (([] : List Str).map ofS))) := by
   rw [s_open]
   conv => lhs; rw [← yK x]
   rw [zJ]
   show toS (40 :: ofS x) = toS (40 :: (ofS x ++ []))
   rw [List.append_nil]
 rw [ex]
 refine yF (fun σ H' => H' = H /\ ∃ (xs : List Str) (o : Option V), xs.length = m - 1 /\ (∀ y ∈ xs, Nm y /\ y.length = 8) /\ σ = [some (V.int c), some (V.int m), some (V.str (toS (jOf wd))), some (V.str (toS (40 :: (ofS x ++ zV (jOf wd) (xs.map ofS))))), o]) (fun N hN => ?_) (fun σ H' h => ?_)
 · simp! []
   refine ⟨by omega, by omega, by omega, by omega, xX (fun i σ H' => H' = H /\ ∃ (xs : List Str) (o : Option V), xs.length = i /\ (∀ y ∈ xs, Nm y /\ y.length = 8) /\ σ = [some (V.int c), some (V.int m), some (V.str (toS (jOf wd))), some (V.str (toS (40 :: (ofS x ++ zV (jOf wd) (xs.map ofS))))), o])
     ⟨rfl, [], _, rfl, (fun d hd => by cases hd), rfl⟩ (fun i σ H' hi e => ?_) (fun σ H' e => ?_)⟩
   · obtain ⟨rfl, xs, o, hxl, hxs, rfl⟩ := e
     simp! [spLong]
     have ed : (1 : Int) + (1 + (i : Nat)) % 3 = ((1 + (1 + i) % 3 : Nat) : Int) := by omega
     have hd3 : 1 + (1 + i) % 3 <= 3 /\ 0 < 1 + (1 + i) % 3 := by omega
     rw [ed]
     generalize 1 + (1 + i) % 3 = d at hd3
     have tl := xS hjl xs hxl fun y hy => (hxs y hy).2
     have hx1 : (ofS x).length = 8 := hx8
     have hi2 : i < 100 := by omega
     refine ⟨?_, by decide, ⟨by omega, by omega⟩, c / d, (Int.natCast_ediv c d).symm, 1 + i, by omega, fun y hy hy8 => ⟨?_, xs ++ [y], by simp [hxl], fun y' hy' => ?_, ?_, _, rfl⟩⟩
     · rw [zH, zH, List.length_cons, List.length_append, tl, hx1, hjl]
       exact big (by omega)
     · rw [zJ, zH, List.length_append, List.length_cons, List.length_append, tl, hx1, hjl, hy8]
       exact big (by omega)
     · rcases List.mem_append.mp hy' with h | h
       · exact hxs y' h
       · rw [List.mem_singleton.mp h]; exact ⟨hy, hy8⟩
     · conv => lhs; rw [← yK y]
       rw [zJ, zJ, List.map_append, List.map_cons, List.map_nil, jE]
       simp
   · obtain ⟨rfl, xs, o, hxl, hxs, rfl⟩ := e
     exact hN _ _ ⟨rfl, xs, _, by omega, hxs, rfl⟩
 obtain ⟨rfl, xs, o, hxl, hxs, rfl⟩ := h
 simp! []
 have ef : toS (40 :: (ofS x ++ zV (jOf wd) (xs.map ofS))) ++ (")" : Str) = wrS (xL wd (x :: xs)) := by
   unfold wrS
   rw [row_wr hj, s_close, zJ]
   simp
 have hl := jN hj (xs := x :: xs) (n := m - 1) (m := 8) (by simp [hxl]) (fun y hy => by
   rcases List.mem_cons.mp hy with rfl | hy
   · exact hx8
   · exact (hxs y hy).2)
 rw [ef]
 refine ⟨?_, q (x :: xs) (by simp; omega) fun y hy => ?_⟩
 · have : (toS (40 :: (ofS x ++ zV (jOf wd) (xs.map ofS)))).length + (")" : Str).length = (wrS (xL wd (x :: xs))).length := by rw [← ef, zU]
   rw [this]
   unfold wrS
   rw [zH, hl]
   exact big (by omega)
 · rcases List.mem_cons.mp hy with rfl | hy
   · exact ⟨hx, hx8⟩
   · exact hxs y hy
theorem ok_many (bi : Bi mg) (F : Fun K "_law_many" "_law_many" s_w f fd) : FnOk P w K mg base CX0 1 f fd ["name", "many", "mark"] spMany := by
 refine F.ok sc_w (fun vs H Q E h => ?_) (fun cdv A outer s H vs Q E hr h => ?_)
 · obtain ⟨c, m, wd, rfl, _⟩ := h
   rfl
 obtain ⟨x, m, wd, rfl, hj, hx1, h1, hm, q⟩ := h
 have hjl := j3 wd
 have hx1' : (ofS x).length = 1 := hx1
 have l1 : ("(" : Str).length = 1 := by decide +kernel
 refine ⟨_, (zB (zR (i := 3) sc_w.nd rfl (Or.inl rfl) (zI op_add_str zF (pv 0))) (zB (xN PassesOwn.never rfl (xR rfl bi.range (zA (zI op_sub (pv 1) zC) pa_nil)) (yV (i := 4) sc_w.nd rfl (Or.inl rfl)) (zD (zR (i := 3) sc_w.nd rfl (Or.inl rfl) (zI op_add_str (zI op_add_str (pv 3) (pv 2)) (pv 0))))) (zD (zM (zI op_add_str (pv 3) zF))))), ?_⟩
 refine zG fun N hN => ?_
 simp! []
 refine ⟨yE (by omega), hN _ _ ?_⟩
 clear hN
 have ex : ("(" : Str) ++ x = toS (40 :: (ofS x ++ zV (jOf wd) ((List.replicate 0 x).map ofS))) := by
   rw [s_open]
   conv => lhs; rw [← yK x]
   rw [zJ]
   show toS (40 :: ofS x) = toS (40 :: (ofS x ++ []))
   rw [List.append_nil]
 rw [ex]
 refine yF (fun σ H' => H' = H /\ ∃ (o : Option V), σ = [some (V.str x), some (V.int m), some (V.str (toS (jOf wd))), some (V.str (toS (40 :: (ofS x ++ zV (jOf wd) ((List.replicate (m - 1) x).map ofS))))), o]) (fun N hN => ?_) (fun σ H' h => ?_)
 · simp! []
   have em : ((m : Nat) : Int) - 1 = ((m - 1 : Nat) : Int) := by omega
   rw [em]
   refine ⟨by omega, by omega, xX (fun i σ H' => H' = H /\ ∃ (o : Option V), σ = [some (V.str x), some (V.int m), some (V.str (toS (jOf wd))), some (V.str (toS (40 :: (ofS x ++ zV (jOf wd) ((List.replicate i x).map ofS))))), o])
     ⟨rfl, _, rfl⟩ (fun i σ H' hi e => ?_) (fun σ H' e => ?_)⟩
   · obtain ⟨rfl, o, rfl⟩ := e
     have tl := xS hjl (List.replicate i x) List.length_replicate (m := 1) fun y hy => by rw [List.eq_of_mem_replicate hy]; exact hx1
     have hi2 : i < 100 := by omega
     simp! []
     refine ⟨?_, ?_, ?_, _, rfl⟩
     · rw [zH, zH, List.length_cons, List.length_append, tl, hx1', hjl]
       exact big (by omega)
     · rw [zJ, zH, List.length_append, List.length_cons, List.length_append, tl, hx1', hjl, hx1]
       exact big (by omega)
     · have er : ofS x :: (List.replicate i x).map ofS = (List.replicate i x).map ofS ++ [ofS x] := by
         rw [← List.map_cons, ← List.replicate_succ, List.replicate_succ', List.map_append]
         rfl
       conv => lhs; rw [← yK x]
       rw [zJ, zJ, yK, er, jE]
       simp
   · obtain ⟨rfl, o, rfl⟩ := e
     exact hN _ _ ⟨rfl, _, rfl⟩
 obtain ⟨rfl, o, rfl⟩ := h
 have em : List.replicate m x = x :: List.replicate (m - 1) x := by
   rw [← List.replicate_succ]
   congr 1
   omega
 have ef : toS (40 :: (ofS x ++ zV (jOf wd) ((List.replicate (m - 1) x).map ofS))) ++ (")" : Str) = wrS (xL wd (List.replicate m x)) := by
   unfold wrS
   rw [em, row_wr hj, s_close, zJ]
   simp
 have hl := jN hj (xs := List.replicate m x) (n := m - 1) (m := 1) (by rw [List.length_replicate]; omega) (fun y hy => by rw [List.eq_of_mem_replicate hy]; exact hx1)
 generalize hz : toS (40 :: (ofS x ++ zV (jOf wd) ((List.replicate (m - 1) x).map ofS))) = z at ef
 simp! []
 rw [ef]
 refine ⟨?_, q⟩
 rw [← zU, ef]
 unfold wrS
 rw [zH, hl]
 exact big (by omega)
end
abbrev s_v : Stmt := top 34
theorem sc_v : FnScope ["cell", "name", "over", "made", "rest", "k"] ["cell", "name", "over"] (zE s_v) := ⟨rfl, rfl, rfl, by decide +kernel, rfl, by decide +kernel, by decide +kernel⟩
abbrev s_l : Stmt := top 36
theorem sc_l : FnScope ["cell", "name", "many", "made", "k"] ["cell", "name", "many"] (zE s_l) := ⟨rfl, rfl, rfl, by decide +kernel, rfl, by decide +kernel, by decide +kernel⟩
structure Dp (n : Nat) (t : Tm) : Prop where
 fit : Fit n t
 deep : ∀ m, m < n -> ¬ Fit m t
 lv : lv t <= n + 1
 len : (wr t).length <= 9 * n + 1
def tNone : Tm := .node "none" []
def tAll : Tm := .node "all" []
theorem qF (n : Nat) : Fit n tNone := by
 cases n with
 | zero => exact ⟨.inl ⟨rfl, rfl⟩, rfl⟩
 | succ n => exact ⟨.inl ⟨rfl, rfl⟩, fun t ht => by cases ht⟩
theorem kG (n : Nat) : Fit n tAll := by
 cases n with
 | zero => exact ⟨.inr (.inl ⟨rfl, rfl⟩), rfl⟩
 | succ n => exact ⟨.inr (.inl ⟨rfl, rfl⟩), fun t ht => by cases ht⟩
theorem jI {x : Str} (h : Nm x) (n : Nat) : Fit n (.name x) := by cases n <;> exact h
theorem Dp.more {n : Nat} {t : Tm} {w : Str} {ts : List Tm} (h : Dp n t) (hm : t ∈ ts) (hs : Sh w ts.length) (hf : ∀ u ∈ ts, Fit n u) (hl : _root_.C.lv (.node w ts) <= n + 2) (hn : (wr (.node w ts)).length <= 9 * (n + 1) + 1) : Dp (n + 1) (.node w ts) := by
 refine ⟨⟨hs, hf⟩, fun m hm' hfm => ?_, hl, hn⟩
 cases m with
 | zero =>
   rw [hfm.2] at hm
   cases hm
 | succ m => exact h.deep m (by omega) (hfm.2 t hm)
theorem dp_name {x : Str} (h : Nm x) (h1 : x.length = 1) : Dp 0 (.name x) := by
 refine ⟨jI h 0, (fun m hm => absurd hm (Nat.not_lt_zero _)), by rw [C.lv]; omega, ?_⟩
 have : (ofS x).length = 1 := h1
 rw [wr]
 show (ofS x).length <= _
 omega
theorem dp_not {n : Nat} {t : Tm} (h : Dp n t) : Dp (n + 1) (.node "not" [t]) := by
 refine h.more (by simp) (.inr (.inr (.inl ⟨rfl, rfl⟩))) (fun u hu => by rw [List.mem_singleton.mp hu]; exact h.fit) ?_ ?_
 · have := h.lv
   rw [C.lv, lvs, lvs]
   omega
 · have := h.len
   rw [jA, List.length_cons]
   omega
theorem wr_both {t : Tm} {x : Str} : wr (.node "both" [t, .name x]) = 40 :: (wr t ++ jAnd ++ ofS x ++ [41]) := by
 rw [xP (.inl rfl) (by simp), j_both]
 rfl
theorem wr_ei {t : Tm} : wr (.node "either" [tNone, t]) = 40 :: (cNone ++ jOr ++ wr t ++ [41]) := by
 rw [xP (.inr rfl) (by simp), j_either, List.map_cons]
 unfold tNone
 rw [wr_none]
 rfl
theorem dp_both {n : Nat} {t : Tm} {x : Str} (h : Dp n t) (hx : Nm x) (h1 : x.length = 1) : Dp (n + 1) (.node "both" [t, .name x]) := by
 refine h.more (by simp) (.inr (.inr (.inr (.inl ⟨rfl, Nat.le_refl _⟩)))) (fun u hu => ?_) ?_ ?_
 · rcases List.mem_cons.mp hu with rfl | hu
   · exact h.fit
   · rw [List.mem_singleton.mp hu]; exact jI hx n
 · have := h.lv
   rw [C.lv, lvs, lvs, lvs, C.lv]
   omega
 · have := h.len
   have h2 : (ofS x).length = 1 := h1
   have h3 : jAnd.length = 3 := rfl
   rw [wr_both, List.length_cons, List.length_append, List.length_append, List.length_append, h2, h3, List.length_singleton]
   omega
theorem dp_ei {n : Nat} {t : Tm} (h : Dp n t) : Dp (n + 1) (.node "either" [tNone, t]) := by
 refine h.more (by simp) (.inr (.inr (.inr (.inr ⟨rfl, Nat.le_refl _⟩)))) (fun u hu => ?_) ?_ ?_
 · rcases List.mem_cons.mp hu with rfl | hu
   · exact qF n
   · rw [List.mem_singleton.mp hu]; exact h.fit
 · have := h.lv
   rw [C.lv, lvs, lvs, lvs]
   have : C.lv tNone = 1 := rfl
   omega
 · have := h.len
   have h3 : jOr.length = 3 := rfl
   have h4 : cNone.length = 4 := rfl
   rw [wr_ei, List.length_cons, List.length_append, List.length_append, List.length_append, h4, h3, List.length_singleton]
   omega
def spDeep : Sp := fun vs H Q _ => ∃ (c : Int) (nm : Str) (ov : Int) (n : Nat), vs = [.int c, .str nm, .int ov] /\ Nm nm /\ nm.length = 1 /\ 20 + ov = (n : Nat) /\ n <= 30 /\ ∀ t, Dp n t -> Q (.str (wrS t)) H
def spPrem : Sp := fun vs H Q _ => ∃ (c : Nat) (nm : Str) (m : Nat), vs = [.int c, .str nm, .int m] /\ Nm nm /\ nm.length = 1 /\ 1 <= m /\ m <= 10 /\ ∀ (ps : List (Tm × Tm)) H', Same H H' -> ps.length = m -> (∀ p ∈ ps, RdSOk (zL p) p /\ (zL p).length <= 10) -> Q (.str (jZ (ps, (.name nm, tNone)))) H'
theorem xV {x : Str} (h : Nm x) : RdOk (wr (.name x)) (.name x) := by
 refine ⟨rfl, jI h 20, ?_, by rw [C.lv]; omega⟩
 have := h.most
 rw [wr]
 show x.length <= _
 omega
theorem none_rd : RdOk (wr tNone) tNone := ⟨rfl, qF 20, by unfold tNone; rw [wr_none]; decide, by unfold tNone; rw [C.lv, lvs]; decide⟩
theorem all_rd : RdOk (wr tAll) tAll := ⟨rfl, kG 20, by unfold tAll; rw [wr_all]; decide, by unfold tAll; rw [C.lv, lvs]; decide⟩
theorem not_rd {x : Str} (h : Nm x) : RdOk (wr (.node "not" [.name x])) (.node "not" [.name x]) := by
 refine ⟨rfl, ⟨.inr (.inr (.inl ⟨rfl, rfl⟩)), fun t ht => by rw [List.mem_singleton.mp ht]; exact jI h 19⟩, ?_, by rw [C.lv, lvs, lvs, C.lv]; decide⟩
 have := h.most
 rw [jA, List.length_cons, wr]
 show x.length + 1 <= _
 omega
theorem word3 {x : Str} (hx : Nm x) (h1 : x.length = 1) {z : Int} (h0 : 0 <= z) (h3 : z < 3) : ∃ t : Tm, atI [V.str "none", V.str x, V.str (("!" : Str) ++ x)] z = some (V.str (wrS t)) /\ RdOk (wr t) t /\ (wr t).length <= 4 := by
 have hx1 : (ofS x).length = 1 := h1
 have : z = ((0 : Nat) : Int) \/ z = ((1 : Nat) : Int) \/ z = ((2 : Nat) : Int) := by omega
 rcases this with rfl | rfl | rfl
 · refine ⟨tNone, ?_, none_rd, by unfold tNone; rw [wr_none]; decide⟩
   unfold tNone
   rw [wrS_none]
   exact yM rfl
 · refine ⟨.name x, ?_, xV hx, by rw [wr]; show (ofS x).length <= 4; omega⟩
   rw [qP]
   exact yM rfl
 · refine ⟨.node "not" [.name x], ?_, not_rd hx, by rw [jA, List.length_cons, wr]; show (ofS x).length + 1 <= 4; omega⟩
   rw [wS, qP]
   exact yM rfl
theorem prS_more (ps : List (Tm × Tm)) (t : Tm) (x : Str) : toS (if ps = [] then [] else zZ jComma (ps.map zL) ++ jComma) ++ wrS t ++ (" < " : Str) ++ x = prS (ps ++ [(t, .name x)]) := by
 have ew : zL (t, .name x) = wr t ++ jUnder ++ ofS x := rfl
 unfold prS wrS
 conv => lhs; rw [← yK x]
 rw [s_under, zJ, zJ, zJ, List.map_append, List.map_cons, List.map_nil, ew]
 congr 1
 by_cases h : ps = []
 · subst h
   rw [if_pos rfl]
   rfl
 · rw [if_neg h, wL _ _ _ (fun z => h (List.map_eq_nil_iff.mp z))]
   simp
theorem prS_end {ps : List (Tm × Tm)} (h : ps ≠ []) (x : Str) : prS ps ++ (" => " : Str) ++ x ++ (" < none" : Str) = jZ (ps, (.name x, tNone)) := by
 have e1 : (" < none" : Str) = toS (jUnder ++ cNone) := by decide +kernel
 have ew : zL (.name x, tNone) = ofS x ++ jUnder ++ cNone := by
   show wr (.name x) ++ jUnder ++ wr tNone = _
   unfold tNone
   rw [wr_none, wr]
   rfl
 unfold prS jZ zX
 rw [if_neg h]
 conv => lhs; rw [← yK x]
 rw [s_arrow, e1, zJ, zJ, zJ, ew]
 simp
section
variable {P : Program} {w : World} {K : PySem.W.Frag} {mg : Str -> Option Value} {base : Heap} {f : Addr} {fd : FuncData}
theorem ok_deep (bi : Bi mg) (F : Fun K "_law_deep" "_law_deep" s_v f fd) : FnOk P w K mg base CX0 1 f fd ["cell", "name", "over"] spDeep := by
 refine F.ok sc_v (fun vs H Q E h => ?_) (fun cdv A outer s H vs Q E hr h => ?_)
 · obtain ⟨c, m, ov, n, rfl, _⟩ := h
   rfl
 obtain ⟨c, x, ov, n, rfl, hx, hx1, ho, hn, q⟩ := h
 refine ⟨_, (zB (zR (i := 3) sc_v.nd rfl (Or.inl rfl) (pv 1)) (zB (zR (i := 4) sc_v.nd rfl (Or.inl rfl) (pv 0)) (zB (xN PassesOwn.never rfl (xR rfl bi.range (zA (zI op_add zC (pv 2)) pa_nil)) (yV (i := 5) sc_v.nd rfl (Or.inl rfl)) (zB (yB (zQ op_eq (zI op_mod (pv 4) zC) zC (zN _)) (zD (zR (i := 3) sc_v.nd rfl (Or.inl rfl) (zI op_add_str zF (pv 3)))) (zD (yB (zQ op_eq (zI op_mod (pv 4) zC) zC (zN _)) (zD (zR (i := 3) sc_v.nd rfl (Or.inl rfl) (zI op_add_str (zI op_add_str (zI op_add_str (zI op_add_str zF (pv 3)) zF) (pv 1)) zF))) (zD (zR (i := 3) sc_v.nd rfl (Or.inl rfl) (zI op_add_str (zI op_add_str zF (pv 3)) zF)))))) (zD (zR (i := 4) sc_v.nd rfl (Or.inl rfl) (zI op_fdiv (pv 4) zC))))) (zD (zM (pv 3)))))), ?_⟩
 refine zG fun N hN => ?_
 simp! []
 refine hN _ _ ?_
 clear hN
 refine zG fun N hN => ?_
 simp! []
 refine hN _ _ ?_
 clear hN
 refine yF (fun σ H' => H' = H /\ ∃ (t : Tm) (a b : Option V), Dp n t /\ σ = [some (V.int c), some (V.str x), some (V.int ov), some (V.str (wrS t)), a, b]) (fun N hN => ?_) (fun σ H' h => ?_)
 · simp! []
   rw [ho]
   refine ⟨by omega, by omega, xX (fun i σ H' => H' = H /\ ∃ (t : Tm) (r : Int) (b : Option V), Dp i t /\ σ = [some (V.int c), some (V.str x), some (V.int ov), some (V.str (wrS t)), some (V.int r), b]) ⟨rfl, .name x, _, _, dp_name hx hx1, by rw [qP]⟩ (fun i σ H' hi e => ?_) (fun σ H' e => ?_)⟩
   · obtain ⟨rfl, t, r, b, hd, rfl⟩ := e
     have hi30 : i < 30 := by omega
     have hl := hd.len
     have hl2 : (wrS t).length = (wr t).length := zH _
     simp only [gName]
     refine yF (fun σ H'' => H'' = H' /\ ∃ (t : Tm), Dp (i + 1) t /\ σ = [some (V.int c), some (V.str x), some (V.int ov), some (V.str (wrS t)), some (V.int r), some (V.int (0 + (i : Nat)))]) (fun N hN => ?_) (fun σ H'' h => ?_)
     · simp! []
       have l1 : ("!" : Str).length = 1 := by decide +kernel
       have l2 : ("(" : Str).length = 1 := by decide +kernel
       have l3 : (" & " : Str).length = 3 := by decide +kernel
       have l4 : (")" : Str).length = 1 := by decide +kernel
       have l5 : ("(none | " : Str).length = 8 := by decide +kernel
       refine ⟨by decide, rfl, ?_⟩
       split
       · refine ⟨big (by omega), hN _ _ ⟨rfl, _, dp_not hd, by rw [wS]⟩⟩
       · refine ⟨by decide, rfl, ?_⟩
         split
         · refine ⟨big (by omega), big (by rw [zU]; omega), big (by rw [zU, zU]; omega), big (by rw [zU, zU, zU]; omega), hN _ _ ⟨rfl, _, dp_both hd hx hx1, ?_⟩⟩
           have : ("(" : Str) ++ wrS t ++ " & " ++ x ++ ")" = wrS (.node "both" [t, .name x]) := by
             unfold wrS
             rw [wr_both, s_open, s_and, s_close]
             conv => lhs; rw [← yK x]
             rw [zJ, zJ, zJ, zJ]
             simp
           rw [this]
         · refine ⟨big (by omega), big (by rw [zU]; omega), hN _ _ ⟨rfl, _, dp_ei hd, ?_⟩⟩
           have e8 : ("(none | " : Str) = toS (40 :: (cNone ++ jOr)) := by decide +kernel
           have : ("(none | " : Str) ++ wrS t ++ ")" = wrS (.node "either" [tNone, t]) := by
             unfold wrS
             rw [wr_ei, e8, s_close, zJ, zJ]
             simp
           rw [this]
     · obtain ⟨rfl, t, hd, rfl⟩ := h
       simp! []
       exact ⟨⟨by decide, by decide⟩, t, hd, ⟨rfl, _, rfl⟩⟩
   · obtain ⟨rfl, t, r, b, hd, rfl⟩ := e
     exact hN _ _ ⟨rfl, t, _, _, hd, rfl⟩
 obtain ⟨rfl, t, a, b, hd, rfl⟩ := h
 simp! []
 exact q t hd
theorem ok_premises (bi : Bi mg) (F : Fun K "_law_premises" "_law_premises" s_l f fd) : FnOk P w K mg base CX0 1 f fd ["cell", "name", "many"] spPrem := by
 refine F.ok sc_l (fun vs H Q E h => ?_) (fun cdv A outer s H vs Q E hr h => ?_)
 · obtain ⟨c, x, m, rfl, _⟩ := h
   rfl
 obtain ⟨c, x, m, rfl, hx, hx1, h1, hm, q⟩ := h
 have l1 : ("!" : Str).length = 1 := by decide +kernel
 have l2 : (", " : Str).length = 2 := by decide +kernel
 have l3 : (" < " : Str).length = 3 := by decide +kernel
 have l4 : (" => " : Str).length = 4 := by decide +kernel
 have l5 : (" < none" : Str).length = 7 := by decide +kernel
 have hx1' : (ofS x).length = 1 := hx1
 have sz : ∀ ps : List (Tm × Tm), ps.length <= 10 -> (∀ p ∈ ps, RdSOk (zL p) p /\ (zL p).length <= 10) -> (prS ps).length <= 120 := fun ps hl hp => by
   have := uV (m := 10) ps fun p hp' => by unfold jC; rw [zH]; exact (hp p hp').2
   have : ps.length * (10 + 2) <= 10 * 12 := Nat.mul_le_mul_right _ hl
   omega
 refine ⟨_, (zB (zR (i := 3) sc_l.nd rfl (Or.inl rfl) zF) (zB (xN PassesOwn.never rfl (xR rfl bi.range (zA (pv 2) pa_nil)) (yV (i := 4) sc_l.nd rfl (Or.inl rfl)) (zB (yB (zQ op_gt (pv 4) zC (zN _)) (zD (zR (i := 3) sc_l.nd rfl (Or.inl rfl) (zI op_add_str (pv 3) zF))) pss_nil) (zD (zR (i := 3) sc_l.nd rfl (Or.inl rfl) (zI op_add_str (zI op_add_str (zI op_add_str (pv 3) (yC ix_list (jD (zA zF (zA (pv 1) (zA (zI op_add_str zF (pv 1)) pa_nil)))) (zI op_mod (zI op_fdiv (pv 0) (zI op_add zC (pv 4))) zC) (fun _ _ => rfl))) zF) (pv 1)))))) (zD (zM (zI op_add_str (zI op_add_str (zI op_add_str (pv 3) zF) (pv 1)) zF))))), ?_⟩
 refine zG fun N hN => ?_
 simp! []
 refine hN _ _ ?_
 clear hN
 refine yF (fun σ H' => Same H H' /\ ∃ (ps : List (Tm × Tm)) (b : Option V), ps.length = m /\ (∀ p ∈ ps, RdSOk (zL p) p /\ (zL p).length <= 10) /\ σ = [some (V.int c), some (V.str x), some (V.int m), some (V.str (prS ps)), b]) (fun N hN => ?_) (fun σ H' h => ?_)
 · simp! []
   refine ⟨by omega, by omega, xX (fun i σ H' => Same H H' /\ ∃ (ps : List (Tm × Tm)) (b : Option V), ps.length = i /\ (∀ p ∈ ps, RdSOk (zL p) p /\ (zL p).length <= 10) /\ σ = [some (V.int c), some (V.str x), some (V.int m), some (V.str (prS ps)), b]) ⟨Same.refl _, [], _, rfl, (fun p hp => by cases hp), by rw [s_empty]; rfl⟩ (fun i σ H' hi e => ?_) (fun σ H' e => ?_)⟩
   · obtain ⟨es, ps, b, hpl, hps, rfl⟩ := e
     have hi10 : i < 10 := by omega
     have hsz := sz ps (by omega) hps
     have e0 : (0 : Int) + (i : Nat) = (i : Nat) := by omega
     rw [e0]
     simp only [gName]
     refine yF (fun σ H'' => H'' = H' /\ σ = [some (V.int c), some (V.str x), some (V.int m), some (V.str (toS (if ps = [] then [] else zZ jComma (ps.map zL) ++ jComma))), some (V.int (i : Nat))]) (fun N hN => ?_) (fun σ H'' h => ?_)
     · simp! []
       by_cases h0 : ps = []
       · subst h0
         have : i = 0 := hpl.symm
         subst this
         rw [if_neg (by decide)]
         exact hN _ _ ⟨rfl, rfl⟩
       · have : 0 < i := by rw [← hpl]; exact List.length_pos_iff.mpr h0
         rw [if_pos (by omega)]
         refine ⟨big (by omega), hN _ _ ⟨rfl, ?_⟩⟩
         rw [if_neg h0]
         unfold prS
         rw [s_comma, zJ]
     · obtain ⟨rfl, rfl⟩ := h
       simp! []
       have ed : (1 : Int) + (i : Nat) = ((1 + i : Nat) : Int) := by omega
       rw [ed]
       obtain ⟨t, ht, hr1, hr2⟩ := word3 hx hx1 (z := (c : Int) / ((1 + i : Nat) : Int) % 3) (by omega) (by omega)
       have hlm : (toS (if ps = [] then [] else zZ jComma (ps.map zL) ++ jComma)).length <= 122 := by
         rw [zH]
         split
         · exact Nat.zero_le _
         · unfold prS at hsz
           rw [zH] at hsz
           rw [List.length_append]
           have : jComma.length = 2 := rfl
           omega
       have hlt : (wrS t).length <= 4 := by unfold wrS; rw [zH]; exact hr2
       refine ⟨yE (by omega), yE (by decide), fun p hp => ⟨⟨by omega, by omega⟩, by decide, _, SqL.of zK, _, ht, ?_⟩⟩
       have e1 := zP hp (.lst [V.str "none", V.str x, V.str (("!" : Str) ++ x)])
       refine ⟨_, rfl, big (by omega), big (by rw [zU]; omega), big (by rw [zU, zU]; omega), es.trans e1, ps ++ [(t, .name x)], by simp [hpl], fun p' hp' => ?_, ?_, _, rfl⟩
       · rcases List.mem_append.mp hp' with h | h
         · exact hps p' h
         · rw [List.mem_singleton.mp h]
           refine ⟨⟨rfl, hr1, xV hx⟩, ?_⟩
           show (wr t ++ jUnder ++ wr (.name x)).length <= 10
           rw [List.length_append, List.length_append, wr]
           have : jUnder.length = 3 := rfl
           show (wr t).length + _ + (ofS x).length <= 10
           omega
       · exact prS_more ps t x
   · obtain ⟨es, ps, b, hpl, hps, rfl⟩ := e
     exact hN _ _ ⟨es, ps, _, hpl, hps, rfl⟩
 obtain ⟨es, ps, b, hpl, hps, rfl⟩ := h
 have hsz := sz ps (by omega) hps
 have hne : ps ≠ [] := fun z => by subst z; simp at hpl; omega
 simp! []
 have ef : prS ps ++ (" => " : Str) ++ x ++ (" < none" : Str) = jZ (ps, (.name x, tNone)) := by
   exact prS_end hne x
 rw [ef]
 exact ⟨big (by omega), big (by rw [zU]; omega), big (by rw [zU, zU]; omega), q ps _ es hpl hps⟩
end
abbrev s_d : Stmt := top 37
theorem sc_d : FnScope ["cell", "over", "made", "k", "j", "marks"] ["cell", "over"] (zE s_d) := ⟨rfl, rfl, rfl, by decide +kernel, rfl, by decide +kernel, by decide +kernel⟩
def nots : Nat -> Tm -> Tm
 | 0, t => t
 | n + 1, t => .node "not" [nots n t]
theorem nots_wr : ∀ (n : Nat) (t : Tm), wr (nots n t) = List.replicate n 33 ++ wr t
 | 0, t => rfl
 | n + 1, t => by rw [nots, jA, nots_wr n t, List.replicate_succ]; rfl
theorem nots_fit : ∀ (n : Nat) {m : Nat} {t : Tm}, Fit m t -> Fit (m + n) (nots n t)
 | 0, m, t, h => h
 | n + 1, m, t, h => ⟨.inr (.inr (.inl ⟨rfl, rfl⟩)), fun u hu => by rw [List.mem_singleton.mp hu]; exact nots_fit n h⟩
theorem nots_lv : ∀ (n : Nat) (t : Tm), C.lv (nots n t) = C.lv t
 | 0, t => rfl
 | n + 1, t => by
   have := (lv_wt t).1
   rw [nots, C.lv, lvs, lvs, nots_lv n t]
   omega
theorem wV {wd : Str} (h : Jw wd) {xs : List Str} (hl : 2 <= xs.length) (hx : ∀ x ∈ xs, Nm x) : Fit 1 (xL wd xs) := by
 refine ⟨?_, fun t ht => ?_⟩
 · rw [List.length_map]
   rcases h with rfl | rfl
   · exact .inr (.inr (.inr (.inl ⟨rfl, hl⟩)))
   · exact .inr (.inr (.inr (.inr ⟨rfl, hl⟩)))
 · obtain ⟨x, hx', rfl⟩ := List.mem_map.mp ht
   exact jI (hx x hx') 0
theorem lvs_names : ∀ xs : List Str, lvs (xs.map .name) = xs.length
 | [] => rfl
 | x :: xs => by rw [List.map_cons, lvs, C.lv, lvs_names xs, List.length_cons]; omega
theorem row_lv {wd : Str} {xs : List Str} (hl : 1 <= xs.length) : C.lv (xL wd xs) = xs.length := by
 unfold xL
 rw [C.lv, lvs_names]
 omega
def gb (ov : Int) (m : Nat) : Nat := if ((m : Nat) : Int) < 6 + ov then 1 else 0
structure Gs (ov : Int) (m : Nat) (t : Tm) : Prop where
 rd : RdOk (wr t) t
 len : (wr t).length = 247 + gb ov m
theorem gs_mk {ov : Int} {m : Nat} {wd : Str} (h : Jw wd) {xs : List Str} (hl : xs.length = 22) (hx : ∀ x ∈ xs, Nm x /\ x.length = 8) : Gs ov m (nots (6 + gb ov m) (xL wd xs)) := by
 have h1 := wV h (by omega) fun x hx' => (hx x hx').1
 have h2 := jN h (xs := xs) (n := 21) (m := 8) hl fun x hx' => (hx x hx').2
 have h3 : gb ov m <= 1 := by unfold gb; split <;> omega
 have h4 := nots_fit (6 + gb ov m) h1
 have h5 : (wr (nots (6 + gb ov m) (xL wd xs))).length = 247 + gb ov m := by
   rw [nots_wr, List.length_append, List.length_replicate, h2]
   omega
 exact ⟨⟨rfl, h4.mono (by omega), by omega, by rw [nots_lv, row_lv (by omega)]; omega⟩, h5⟩
structure Gd (ov : Int) (k : Nat) (p : Tm × Tm) : Prop where
 one : Gs ov (2 * k) p.1
 two : Gs ov (2 * k + 1) p.2
theorem Gd.rd {ov : Int} {k : Nat} {p : Tm × Tm} (h : Gd ov k p) : RdSOk (zL p) p := ⟨rfl, h.one.rd, h.two.rd⟩
theorem Gd.len {ov : Int} {k : Nat} {p : Tm × Tm} (h : Gd ov k p) : (zL p).length = 497 + gb ov (2 * k) + gb ov (2 * k + 1) := by
 show (wr p.1 ++ jUnder ++ wr p.2).length = _
 have h3 : jUnder.length = 3 := rfl
 rw [List.length_append, List.length_append, h.one.len, h.two.len, h3]
 omega
def sep (k : Nat) : Cs := if k < 4 then jComma else if k = 4 then jArrow else []
def acc : Nat -> List (Tm × Tm) -> Cs
 | _, [] => []
 | k, p :: r => zL p ++ sep k ++ acc (k + 1) r
theorem acc_snoc : ∀ (k : Nat) (ps : List (Tm × Tm)) (p : Tm × Tm), acc k (ps ++ [p]) = acc k ps ++ zL p ++ sep (k + ps.length)
 | k, [], p => by show zL p ++ sep k ++ [] = [] ++ zL p ++ sep k; simp
 | k, q :: r, p => by
   rw [List.cons_append, acc, acc_snoc (k + 1) r p, acc, List.length_cons, show k + 1 + r.length = k + (r.length + 1) by omega]
   simp
theorem acc_len {ov : Int} : ∀ (k : Nat) (ps : List (Tm × Tm)), (∀ j p, ps[j]? = some p -> Gd ov (k + j) p) -> (acc k ps).length <= ps.length * 600
 | k, [], _ => Nat.zero_le _
 | k, p :: r, h => by
   have h1 := (h 0 p rfl).len
   have h2 := acc_len (k + 1) r fun j q hq => by have := h (j + 1) q (by simpa using hq); rwa [show k + (j + 1) = k + 1 + j by omega] at this
   have h3 : (sep k).length <= 4 := by unfold sep; split <;> (try split) <;> decide
   have h4 : ∀ m, gb ov m <= 1 := fun m => by unfold gb; split <;> omega
   have h5 := h4 (2 * (k + 0))
   have h6 := h4 (2 * (k + 0) + 1)
   rw [acc, List.length_append, List.length_append, List.length_cons, Nat.add_mul]
   omega
theorem acc_end {ov : Int} (ho : ov = -1 \/ ov = 0 \/ ov = 1) {ps : List (Tm × Tm)} (h : ps.length = 6) (hg : ∀ j p, ps[j]? = some p -> Gd ov j p) : ∃ r : List (Tm × Tm) × (Tm × Tm), acc 0 ps = zX r /\ r.1.length = 5 /\ (∀ p ∈ r.1, RdSOk (zL p) p) /\ RdSOk (zL r.2) r.2 /\ ((zX r).length : Int) = 3000 + ov := by
 match ps, h with
 | [p0, p1, p2, p3, p4, p5], _ =>
   have g0 := hg 0 p0 rfl
   have g1 := hg 1 p1 rfl
   have g2 := hg 2 p2 rfl
   have g3 := hg 3 p3 rfl
   have g4 := hg 4 p4 rfl
   have g5 := hg 5 p5 rfl
   have e : acc 0 [p0, p1, p2, p3, p4, p5] = zX ([p0, p1, p2, p3, p4], p5) := by
     unfold zX
     rw [if_neg (by simp)]
     simp [acc, sep, zZ]
   refine ⟨([p0, p1, p2, p3, p4], p5), e, rfl, fun p hp => ?_, g5.rd, ?_⟩
   · have hp : p ∈ [p0, p1, p2, p3, p4] := hp
     simp at hp
     rcases hp with rfl | rfl | rfl | rfl | rfl
     · exact g0.rd
     · exact g1.rd
     · exact g2.rd
     · exact g3.rd
     · exact g4.rd
   · rw [← e]
     have l0 := g0.len
     have l1 := g1.len
     have l2 := g2.len
     have l3 := g3.len
     have l4 := g4.len
     have l5 := g5.len
     have s2 : jComma.length = 2 := rfl
     have s4 : jArrow.length = 4 := rfl
     simp only [acc, sep, List.length_append, List.length_nil, l0, l1, l2, l3, l4, l5, s2, s4]
     rcases ho with rfl | rfl | rfl <;> rfl
def spGreat : Sp := fun vs H Q _ => ∃ (c : Nat) (ov : Int), vs = [.int c, .int ov] /\ (ov = -1 \/ ov = 0 \/ ov = 1) /\ ∀ (r : List (Tm × Tm) × (Tm × Tm)) H', Same H H' -> r.1.length = 5 -> (∀ p ∈ r.1, RdSOk (zL p) p) -> RdSOk (zL r.2) r.2 -> ((zX r).length : Int) = 3000 + ov -> Q (.str (jZ r)) H'
section
variable {P : Program} {w : World} {K : PySem.W.Frag} {mg : Str -> Option Value} {base : Heap} {f : Addr} {fd : FuncData}
theorem ok_great (bi : Bi mg) (h_z : Has P w K mg base 2 "_law_row" ["cell", "many", "mark"] spRow) (F : Fun K "_law_great_rule" "_law_great_rule" s_d f fd) : FnOk P w K mg base CX0 3 f fd ["cell", "over"] spGreat := by
 refine F.ok sc_d (fun vs H Q E h => ?_) (fun cdv A outer s H vs Q E hr h => ?_)
 · obtain ⟨c, x, rfl, _⟩ := h
   rfl
 obtain ⟨c, ov, rfl, ho, q⟩ := h
 refine ⟨_, (zB (zR (i := 2) sc_d.nd rfl (Or.inl rfl) zF) (zB (xN PassesOwn.never rfl (xR rfl bi.range (zA zC pa_nil)) (yV (i := 3) sc_d.nd rfl (Or.inl rfl)) (zB (xN PassesOwn.never rfl (xR rfl bi.range (zA zC pa_nil)) (yV (i := 4) sc_d.nd rfl (Or.inl rfl)) (zB (zR (i := 5) sc_d.nd rfl (Or.inl rfl) (zI vF zF (zI op_add zC (wD call_intB rfl bi.int bt_int (zA (yD op_lt (zI op_add (zI op_mul zC (pv 3)) (pv 4)) (zI op_add zC (pv 1)) (zN _)) pa_nil))))) (zB (zR (i := 2) sc_d.nd rfl (Or.inl rfl) (zI op_add_str (zI op_add_str (pv 2) (pv 5)) (zS h_z (hr.mono (by omega)) rfl (zA (zI op_fdiv (pv 0) (zI op_add zC (pv 3))) (zA zC (zA (yC ix_list (jD (zA zF (zA zF pa_nil))) (pv 4) (fun _ _ => rfl)) pa_nil)))))) (zD (yB (zQ op_eq (pv 4) zC (zN _)) (zD (zR (i := 2) sc_d.nd rfl (Or.inl rfl) (zI op_add_str (pv 2) zF))) pss_nil))))) (zB (yB (zQ op_lt (pv 3) zC (zN _)) (zD (zR (i := 2) sc_d.nd rfl (Or.inl rfl) (zI op_add_str (pv 2) zF))) pss_nil) (zD (yB (zQ op_eq (pv 3) zC (zN _)) (zD (zR (i := 2) sc_d.nd rfl (Or.inl rfl) (zI op_add_str (pv 2) zF))) pss_nil))))) (zD (zM (pv 2))))), ?_⟩
 refine zG fun N hN => ?_
 simp! []
 refine hN _ _ ?_
 clear hN
 refine yF (fun σ H' => Same H H' /\ ∃ (ps : List (Tm × Tm)) (o3 o4 o5 : Option V), ps.length = 6 /\ (∀ j p, ps[j]? = some p -> Gd ov j p) /\ σ = [some (V.int c), some (V.int ov), some (V.str (toS (acc 0 ps))), o3, o4, o5]) (fun N hN => ?_) (fun σ H' h => ?_)
 · simp! []
   refine ⟨by decide, by decide, xX (n := (6 : Int).toNat) (fun i σ H' => Same H H' /\ ∃ (ps : List (Tm × Tm)) (o3 o4 o5 : Option V), ps.length = i /\ (∀ j p, ps[j]? = some p -> Gd ov j p) /\ σ = [some (V.int c), some (V.int ov), some (V.str (toS (acc 0 ps))), o3, o4, o5]) ⟨Same.refl _, [], _, _, _, rfl, (fun j p hp => by simp at hp), by rw [s_empty]; rfl⟩ (fun i σ H' hi e => ?_) (fun σ H' e => ?_)⟩
   · obtain ⟨es, ps, o3, o4, o5, hpl, hps, rfl⟩ := e
     have hi6 : i < 6 := hi
     have hal := acc_len 0 ps (ov := ov) fun j p hp => by rw [Nat.zero_add]; exact hps j p hp
     have hal2 : (acc 0 ps).length <= 3600 := by omega
     have e0 : (0 : Int) + (i : Nat) = (i : Nat) := by omega
     rw [e0]
     simp only [gName]
     refine yF (fun σ H'' => Same H H'' /\ ∃ (p : Tm × Tm) (o4 o5 : Option V), Gd ov i p /\ σ = [some (V.int c), some (V.int ov), some (V.str (toS (acc 0 ps ++ zL p))), some (V.int (i : Nat)), o4, o5]) (fun N hN => ?_) (fun σ H'' h => ?_)
     · simp! []
       refine ⟨by decide, by decide, xX (n := (2 : Int).toNat) (fun j σ H'' => Same H H'' /\ ∃ (y : Cs) (o4 o5 : Option V), ((j = 0 /\ y = []) \/ (j = 1 /\ ∃ a, Gs ov (2 * i) a /\ y = wr a ++ jUnder) \/ (j = 2 /\ ∃ p, Gd ov i p /\ y = zL p)) /\ σ = [some (V.int c), some (V.int ov), some (V.str (toS (acc 0 ps ++ y))), some (V.int (i : Nat)), o4, o5]) ⟨es, [], _, _, .inl ⟨rfl, rfl⟩, by rw [List.append_nil]⟩ (fun j σ H'' hj e => ?_) (fun σ H'' e => ?_)⟩
       · obtain ⟨es2, y, o4, o5, hy, rfl⟩ := e
         have hj2 : j < 2 := hj
         have ej : (0 : Int) + (j : Nat) = (j : Nat) := by omega
         rw [ej]
         simp only [gName]
         refine zG fun N hN => ?_
         simp! []
         have eg : (6 : Int) + (if 2 * ((i : Nat) : Int) + (j : Nat) < 6 + ov then 1 else 0) = ((6 + gb ov (2 * i + j) : Nat) : Int) := by
           unfold gb
           have : ((2 * i + j : Nat) : Int) = 2 * ((i : Nat) : Int) + (j : Nat) := by omega
           rw [this]
           split <;> rfl
         have hg1 : gb ov (2 * i + j) <= 1 := by unfold gb; split <;> omega
         rw [eg, s_not, mul_sign]
         have hyl : y.length <= 300 := by
           rcases hy with ⟨_, rfl⟩ | ⟨_, a, ha, rfl⟩ | ⟨h, _⟩
           · exact Nat.zero_le _
           · have := ha.len
             have h3 : jUnder.length = 3 := rfl
             have : gb ov (2 * i) <= 1 := by unfold gb; split <;> omega
             rw [List.length_append]
             omega
           · omega
         refine ⟨.inl ⟨by decide, by decide⟩, by decide +kernel, by omega, by omega, hN _ _ ?_⟩
         clear hN
         refine zG fun N hN => ?_
         simp! [spRow]
         have ed : (1 : Int) + (i : Nat) = ((1 + i : Nat) : Int) := by omega
         rw [ed]
         have hmk : ∃ wd, Jw wd /\ atI [V.str " & ", V.str " | "] (j : Nat) = some (V.str (toS (jOf wd))) := by
           have : j = 0 \/ j = 1 := by omega
           rcases this with rfl | rfl
           · exact ⟨"both", .inl rfl, by rw [j_both, ← s_and]; exact yM rfl⟩
           · exact ⟨"either", .inr rfl, by rw [j_either, ← s_or]; exact yM rfl⟩
         obtain ⟨wd, hwd, hat⟩ := hmk
         refine ⟨?_, ⟨by omega, by omega⟩, yE (by decide), fun p hp => ⟨_, SqL.of zK, _, hat, c / (1 + i), (Int.natCast_ediv c (1 + i)).symm, 22, rfl, wd, rfl, hwd, by decide, by decide, fun xs hxl hxs => ⟨?_, hN _ _ ?_⟩⟩⟩
         · rw [zH, zH, List.length_append, List.length_replicate]
           exact big (by omega)
         · have := jN hwd (xs := xs) (n := 21) (m := 8) hxl fun x hx' => (hxs x hx').2
           unfold wrS
           rw [zJ, zH, zH, List.length_append, List.length_append, List.length_replicate, this]
           exact big (by omega)
         clear hN
         have gs := gs_mk (ov := ov) (m := 2 * i + j) hwd hxl hxs
         have e1 := es2.trans (zP hp (.lst [V.str " & ", V.str " | "]))
         generalize upd H'' p (HO.lst [V.str " & ", V.str " | "]) = H3 at e1 ⊢
         have em : toS (acc 0 ps ++ y) ++ toS (List.replicate (6 + gb ov (2 * i + j)) 33) ++ wrS (xL wd xs) = toS (acc 0 ps ++ (y ++ wr (nots (6 + gb ov (2 * i + j)) (xL wd xs)))) := by
           unfold wrS
           rw [nots_wr, zJ, zJ]
           simp
         rw [em]
         generalize nots (6 + gb ov (2 * i + j)) (xL wd xs) = a at gs
         simp! []
         refine ⟨rfl, ?_⟩
         rcases hy with ⟨rfl, rfl⟩ | ⟨rfl, a0, ha0, rfl⟩ | ⟨h, _⟩
         · rw [if_pos (by rfl)]
           have l3 : (" < " : Str).length = 3 := by decide +kernel
           have ga := gs.len
           refine ⟨?_, e1, _, .inr (.inl ⟨rfl, a, gs, rfl⟩), ?_, _, rfl⟩
           · rw [zH, List.length_append, List.nil_append, l3]
             exact big (by omega)
           · rw [s_under, zJ]
             simp
         · rw [if_neg (by omega)]
           exact ⟨e1, _, .inr (.inr ⟨rfl, (a0, a), ⟨ha0, gs⟩, rfl⟩), rfl, _, rfl⟩
         · omega
       · obtain ⟨es2, y, o4, o5, hy, rfl⟩ := e
         rcases hy with ⟨h, _⟩ | ⟨h, _⟩ | ⟨_, p, hp, rfl⟩
         · exact absurd h (by decide)
         · exact absurd h (by decide)
         · exact hN _ _ ⟨es2, p, _, _, hp, rfl⟩
     · obtain ⟨es2, p, o4, o5, hp, rfl⟩ := h
       have hpl2 := hp.len
       have h4 : ∀ m, gb ov m <= 1 := fun m => by unfold gb; split <;> omega
       have h5 := h4 (2 * i)
       have h6 := h4 (2 * i + 1)
       have hz : (toS (acc 0 ps ++ zL p)).length <= 4200 := by
         rw [zH, List.length_append]
         omega
       have hgd : ∀ j q, (ps ++ [p])[j]? = some q -> Gd ov j q := fun j q hq => by
         by_cases h : j < ps.length
         · rw [List.getElem?_append_left h] at hq
           exact hps j q hq
         · rw [List.getElem?_append_right (by omega)] at hq
           have : j - ps.length = 0 := by
             have := (List.getElem?_eq_some_iff.mp hq).1
             simp at this
             omega
           rw [this] at hq
           cases hq
           have : j = i := by omega
           rw [this]
           exact hp
       have hac := acc_snoc 0 ps p
       rw [Nat.zero_add, hpl] at hac
       have l2 : (", " : Str).length = 2 := by decide +kernel
       have l4 : (" => " : Str).length = 4 := by decide +kernel
       refine yF (fun σ H3 => H3 = H'' /\ σ = [some (V.int c), some (V.int ov), some (V.str (toS (acc 0 ps ++ zL p ++ (if i < 4 then jComma else [])))), some (V.int (i : Nat)), o4, o5]) (fun N hN => ?_) (fun σ H3 h => ?_)
       · simp! []
         by_cases h : i < 4
         · rw [if_pos (by omega)]
           refine ⟨big (by omega), hN _ _ ⟨rfl, ?_⟩⟩
           rw [if_pos h, s_comma, zJ]
         · rw [if_neg (by omega)]
           exact hN _ _ ⟨rfl, by rw [if_neg h, List.append_nil]⟩
       · obtain ⟨rfl, rfl⟩ := h
         simp! []
         refine ⟨rfl, ?_⟩
         by_cases h : i = 4
         · subst h
           rw [if_pos (show ((4 : Nat) : Int) = 4 from rfl), if_neg (by decide), List.append_nil]
           refine ⟨big (by omega), es2, ps ++ [p], by simp [hpl], hgd, ?_, _, rfl⟩
           rw [hac, s_arrow, zJ]
           rfl
         · rw [if_neg (by omega)]
           refine ⟨es2, ps ++ [p], by simp [hpl], hgd, ?_, _, rfl⟩
           rw [hac]
           unfold sep
           by_cases h2 : i < 4
           · rw [if_pos h2, if_pos h2]
           · rw [if_neg h2, if_neg h2, if_neg h]
   · obtain ⟨es, ps, o3, o4, o5, hpl, hps, rfl⟩ := e
     exact hN _ _ ⟨es, ps, _, _, _, hpl, hps, rfl⟩
 obtain ⟨es, ps, o3, o4, o5, hpl, hps, rfl⟩ := h
 simp! []
 obtain ⟨r, he, h5, h1, h2, hl⟩ := acc_end ho hpl hps
 rw [he]
 exact q r _ es h5 h1 h2 hl
end
abbrev s_t : Stmt := top 40
theorem sc_t : FnScope ["kind", "text"] ["kind", "text"] (zE s_t) := ⟨rfl, rfl, rfl, by decide +kernel, rfl, by decide +kernel, by decide +kernel⟩
abbrev s_u : Stmt := top 41
theorem sc_u : FnScope ["kind", "found", "text"] ["kind", "found", "text"] (zE s_u) := ⟨rfl, rfl, rfl, by decide +kernel, rfl, by decide +kernel, by decide +kernel⟩
inductive Th
 | tm (t : Tm)
 | sy (p : Tm × Tm)
 | ru (r : List (Tm × Tm) × (Tm × Tm))
def Th.kind : Th -> Nat
 | .tm _ => 0
 | .sy _ => 1
 | .ru _ => 2
def Th.Ok (x : Cs) : Th -> Prop
 | .tm t => RdOk x t
 | .sy p => RdSOk x p
 | .ru r => RdROk x r
def Th.At (H : Hp) (v : V) : Th -> Prop
 | .tm t => TAt H t v
 | .sy p => SAt H p v
 | .ru r => RAt H r v
def spAsk (CT : Addr) : Sp := fun vs H Q E => ∃ (k : Nat) (x : Cs), vs = [.int k, .str (toS x)] /\ k < 3 /\ x.length <= 5000 /\ (∀ g : Th, g.kind = k -> g.Ok x -> ∀ v H', Same H H' -> g.At H' v -> Q v H') /\ ((∀ g : Th, g.kind = k -> ¬ g.Ok x) -> ∀ H', Same H H' -> E (.ref CT) none H')
def spTell : Sp := fun vs H Q _ => ∃ (v : V) (x : Cs) (g : Th), vs = [.int g.kind, v, .str (toS x)] /\ g.Ok x /\ g.At H v /\ ∀ H', Q (.bl true) H'
theorem RdOk.wt {x : Cs} {t : Tm} (h : RdOk x t) : L2.wt t <= 900 := by
 have := wt_wr 20 t h.2.1
 rw [← h.1] at this
 have := h.2.2.1
 omega
theorem RdSOk.fits {x : Cs} {p : Tm × Tm} (h : RdSOk x p) : vU 20 900 p := ⟨⟨h.2.1.2.1, h.2.1.wt⟩, ⟨h.2.2.2.1, h.2.2.wt⟩⟩
section
variable {P : Program} {w : World} {K : PySem.W.Frag} {mg : Str -> Option Value} {base : Heap} {f : Addr} {fd : FuncData} {CT : Addr}
theorem ok_asked (bi : Bi mg) (h_D : HasX P w K mg base 46 "read" ["text"] (uB CT)) (h_e : HasX P w K mg base 47 "read_saying" ["text"] (jM CT)) (h_r : HasX P w K mg base 48 "read_rule" ["text"] (wT CT)) (F : Fun K "_law_asked" "_law_asked" s_t f fd) : FnOk P w K mg base (CX1 P w) 49 f fd ["kind", "text"] (spAsk CT) := by
 refine F.okX sc_t (fun vs H Q E h => ?_) (fun cdv A outer s H vs Q E hr h => ?_)
 · obtain ⟨k, x, rfl, _⟩ := h
   rfl
 obtain ⟨k, x, rfl, hk, hx, q, qx⟩ := h
 refine ⟨_, (zB (yB (zQ op_eq (pv 0) zC (zN _)) (zD (zM (zT h_D (hr.mono (by omega)) rfl (zA (pv 1) pa_nil)))) pss_nil) (zB (yB (zQ op_eq (pv 0) zC (zN _)) (zD (zM (zT h_e (hr.mono (by omega)) rfl (zA (pv 1) pa_nil)))) pss_nil) (zD (zM (zT h_r (hr.mono (by omega)) rfl (zA (pv 1) pa_nil)))))), ?_⟩
 refine zG fun N hN => ?_
 simp! [uB]
 refine ⟨rfl, ?_⟩
 split
 · have : k = 0 := by omega
   subst this
   refine ⟨x, rfl, hx, fun t ht => q (.tm t) rfl ht, fun hn => qx fun g hg => ?_⟩
   cases g with
   | tm t => exact hn t
   | sy p => cases hg
   | ru r => cases hg
 refine hN _ _ ?_
 clear hN
 simp! [jM, wT]
 refine ⟨rfl, ?_⟩
 split
 · have : k = 1 := by omega
   subst this
   refine ⟨x, rfl, hx, fun t ht => q (.sy t) rfl ht, fun hn => qx fun g hg => ?_⟩
   cases g with
   | tm t => cases hg
   | sy p => exact hn p
   | ru r => cases hg
 · have : k = 2 := by omega
   subst this
   refine ⟨x, rfl, hx, fun t ht => q (.ru t) rfl ht, fun hn => qx fun g hg => ?_⟩
   cases g with
   | tm t => cases hg
   | sy p => cases hg
   | ru r => exact hn r
theorem ok_tells (bi : Bi mg) (h_n : Has P w K mg base 22 "_law_is_term" ["t", "room"] (spIsT 22)) (h_h : Has P w K mg base 23 "_law_is_saying" ["found"] spIsS) (h_q : Has P w K mg base 24 "_law_is_rule" ["found"] spIsR) (h_i : Has P w K mg base 21 "_law_written" ["t"] (spWr 21)) (h_a : Has P w K mg base 22 "_law_written_saying" ["saying"] spWrS) (h_b : Has P w K mg base 23 "_law_written_rule" ["rule"] spWrR) (F : Fun K "_law_tells" "_law_tells" s_u f fd) : FnOk P w K mg base CX0 25 f fd ["kind", "found", "text"] spTell := by
 refine F.ok sc_u (fun vs H Q E h => ?_) (fun cdv A outer s H vs Q E hr h => ?_)
 · obtain ⟨v, x, g, rfl, _⟩ := h
   rfl
 obtain ⟨v, x, g, rfl, ho, ha, q⟩ := h
 refine ⟨_, (zB (yB (zQ op_eq (pv 0) zC (zN _)) (zD (zM (jQ (zS h_n (hr.mono (by omega)) rfl (zA (pv 1) (zA zC pa_nil))) (jP (yD op_eq (zS h_i (hr.mono (by omega)) rfl (zA (pv 1) pa_nil)) (pv 2) (zN _)))))) pss_nil) (zB (yB (zQ op_eq (pv 0) zC (zN _)) (zD (zM (jQ (zS h_h (hr.mono (by omega)) rfl (zA (pv 1) pa_nil)) (jP (yD op_eq (zS h_a (hr.mono (by omega)) rfl (zA (pv 1) pa_nil)) (pv 2) (zN _)))))) pss_nil) (zD (zM (jQ (zS h_q (hr.mono (by omega)) rfl (zA (pv 1) pa_nil)) (jP (yD op_eq (zS h_b (hr.mono (by omega)) rfl (zA (pv 1) pa_nil)) (pv 2) (zN _)))))))), ?_⟩
 cases g with
 | tm t =>
   have ho : RdOk x t := ho
   have ha : TAt H t v := ha
   simp! [spIsT, spWr, Th.kind]
   refine ⟨rfl, ?_⟩
   rw [if_pos (by rfl)]
   refine ⟨rfl, t, ha, ho.2.1, ho.wt, fun H1 e1 => ⟨t, TAt.tups e1.tups ha, ho.2.1, ho.wt, fun H2 e2 => ⟨rfl, ?_⟩⟩⟩
   have : wrS t = toS x := by rw [ho.1]; rfl
   rw [this, decide_eq_true rfl]
   exact q _
 | sy p =>
   have ho : RdSOk x p := ho
   have ha : SAt H p v := ha
   simp! [spIsS, spWrS, Th.kind]
   refine ⟨rfl, ?_⟩
   rw [if_neg (by decide)]
   refine ⟨rfl, ?_⟩
   rw [if_pos (by rfl)]
   refine ⟨p, ha, ho.fits, fun H1 e1 => ⟨p, DAt.same e1 ha, ho.fits, fun H2 e2 => ⟨rfl, ?_⟩⟩⟩
   have : jC p = toS x := by rw [ho.1]; rfl
   rw [this, decide_eq_true rfl]
   exact q _
 | ru r =>
   have ho : RdROk x r := ho
   have ha : RAt H r v := ha
   have f1 : ∀ p ∈ r.1, vU 20 900 p := fun p hp => (ho.2.2.2.1 p hp).fits
   have f2 : vU 20 900 r.2 := ho.2.2.2.2.fits
   have h5 := ho.2.2.1
   simp! [spIsR, spWrR, Th.kind]
   refine ⟨rfl, ?_⟩
   rw [if_neg (by decide)]
   refine ⟨rfl, ?_⟩
   rw [if_neg (by decide)]
   refine ⟨r, ha, h5, f1, f2, fun H1 e1 => ⟨r, DAt.same e1 ha, by omega, f1, f2, fun H2 e2 => ⟨rfl, ?_⟩⟩⟩
   have : jZ r = toS x := by rw [ho.1]; rfl
   rw [this, decide_eq_true rfl]
   exact q _
end
abbrev s_s : Stmt := top 42
theorem sc_s : FnScope ["text", "cell", "name"] ["text", "cell", "name"] (zE s_s) := ⟨rfl, rfl, rfl, by decide +kernel, rfl, by decide +kernel, by decide +kernel⟩
abbrev s_x : Stmt := top 43
theorem sc_x : FnScope ["way", "cell", "name", "over", "mark"] ["way", "cell", "name", "over"] (zE s_x) := ⟨rfl, rfl, rfl, by decide +kernel, rfl, by decide +kernel, by decide +kernel⟩
def Th.wr : Th -> Cs
 | .tm t => L2.wr t
 | .sy p => zL p
 | .ru r => zX r
def Th.Fit (n : Nat) : Th -> Prop
 | .tm t => L2.Fit n t
 | .sy p => xG n p
 | .ru r => (∀ p ∈ r.1, xG n p) /\ xG n r.2
theorem wr_inj {n : Nat} {t t' : Tm} (h : Fit n t) (h' : Fit n t') (e : wr t = wr t') : t = t' := by
 have a := pTerm_wr n t [] h (fun c q z => by cases z)
 have b := pTerm_wr n t' [] h' (fun c q z => by cases z)
 rw [e, b] at a
 cases a
 rfl
theorem uT {n : Nat} {p p' : Tm × Tm} (h : xG n p) (h' : xG n p') (e : zL p = zL p') : p = p' := by
 have a := uA h
 rw [e, uA h'] at a
 have a1 := yN (List.cons.inj a).1
 have a2 := yN (List.cons.inj (List.cons.inj a).2).1
 obtain ⟨p1, p2⟩ := p
 obtain ⟨q1, q2⟩ := p'
 have b1 : q1 = p1 := wr_inj h'.1 h.1 a1
 have b2 : q2 = p2 := wr_inj h'.2 h.2 a2
 rw [b1, b2]
theorem says_inj {n : Nat} : ∀ {ps ps' : List (Tm × Tm)}, (∀ p ∈ ps, xG n p) -> (∀ p ∈ ps', xG n p) -> (ps.map zL).map toS = (ps'.map zL).map toS -> ps = ps'
 | [], [], _, _, _ => rfl
 | [], _ :: _, _, _, e => by simp at e
 | _ :: _, [], _, _, e => by simp at e
 | p :: ps, p' :: ps', h, h', e => by
   have e1 := yN (List.cons.inj e).1
   have e2 := (List.cons.inj e).2
   rw [uT (h p (by simp)) (h' p' (by simp)) e1, says_inj (fun q hq => h q (List.mem_cons_of_mem _ hq)) (fun q hq => h' q (List.mem_cons_of_mem _ hq)) e2]
theorem rule_inj {n : Nat} {r r' : List (Tm × Tm) × (Tm × Tm)} (h : (∀ p ∈ r.1, xG n p) /\ xG n r.2) (h' : (∀ p ∈ r'.1, xG n p) /\ xG n r'.2) (e : zX r = zX r') : r = r' := by
 obtain ⟨ps, q⟩ := r
 obtain ⟨ps', q'⟩ := r'
 have h1 : ∀ p ∈ ps, xG n p := h.1
 have h2 : xG n q := h.2
 have h1' : ∀ p ∈ ps', xG n p := h'.1
 have h2' : xG n q' := h'.2
 by_cases h0 : ps = []
 · subst h0
   have a := jX h2
   by_cases h0' : ps' = []
   · subst h0'
     rw [uT h2 h2' e]
   · rw [e, jL h0' h1' h2'] at a
     exact absurd (congrArg List.length a) (by simp)
 · have a := jL h0 h1 h2
   by_cases h0' : ps' = []
   · subst h0'
     rw [e, jX h2'] at a
     exact absurd (congrArg List.length a) (by simp)
   · rw [e, jL h0' h1' h2'] at a
     have a1 := (List.cons.inj a).1
     have a2 := yN (List.cons.inj (List.cons.inj a).2).1
     have b := jY h0 h1
     rw [← a1, jY h0' h1'] at b
     rw [says_inj h1' h1 b, uT h2' h2 a2]
theorem Th.only {g g' : Th} (h : g.Fit 30) (hk : g'.kind = g.kind) (h' : g'.Ok g.wr) : g' = g := by
 cases g with
 | tm t =>
   cases g' with
   | tm t' =>
     have h' : RdOk (L2.wr t) t' := h'
     rw [wr_inj (h'.2.1.mono (show 20 <= 30 by omega)) h h'.1.symm]
   | sy p => cases hk
   | ru r => cases hk
 | sy p =>
   cases g' with
   | tm t' => cases hk
   | sy p' =>
     have h' : RdSOk (zL p) p' := h'
     have f := h'.fit
     rw [uT (n := 30) ⟨f.1.mono (by omega), f.2.mono (by omega)⟩ h h'.1.symm]
   | ru r => cases hk
 | ru r =>
   cases g' with
   | tm t' => cases hk
   | sy p => cases hk
   | ru r' =>
     have h' : RdROk (zX r) r' := h'
     have f1 : ∀ p ∈ r'.1, xG 30 p := fun p hp => ⟨(h'.2.2.2.1 p hp).fit.1.mono (by omega), (h'.2.2.2.1 p hp).fit.2.mono (by omega)⟩
     have f2 : xG 30 r'.2 := ⟨h'.2.2.2.2.fit.1.mono (by omega), h'.2.2.2.2.fit.2.mono (by omega)⟩
     rw [rule_inj ⟨f1, f2⟩ h h'.1.symm]
structure Ask (b : Prop) (k : Nat) (x : Cs) : Prop where
 kd : k < 3
 len : x.length <= 5000
 yes : b -> ∃ g : Th, g.kind = k /\ g.Ok x
 no : ¬ b -> ∀ g : Th, g.kind = k -> ¬ g.Ok x
theorem Ask.of {b : Prop} {g : Th} (h : g.Fit 30) (hl : g.wr.length <= 5000) (hb : g.Ok g.wr ↔ b) : Ask b g.kind g.wr := by
 refine ⟨?_, hl, fun hb' => ⟨g, rfl, hb.mpr hb'⟩, fun hb' g' hk h' => ?_⟩
 · cases g <;> simp [Th.kind]
 · rw [Th.only h hk h'] at h'
   exact hb' (hb.mp h')
def TpAt (H : Hp) (a : Addr) (k : Nat) (x : Cs) : Prop := H a = some (.tup [.int (k : Nat), .str (toS x)])
def spWith : Sp := fun vs H Q _ => ∃ (t : Tm) (c : Nat) (nm : Str), vs = [.str (wrS t), .int c, .str nm] /\ Fit 30 t /\ (wr t).length <= 500 /\ Nm nm /\ nm.length = 1 /\ ∀ a k x H', Same H H' -> TpAt H' a k x -> Ask (RdOk (wr t) t) k x -> Q (.ref a) H'
def spCase : Sp := fun vs H Q _ => ∃ (wy c : Nat) (nm : Str) (ov : Int), vs = [.int wy, .int c, .str nm, .int ov] /\ wy < 8 /\ Nm nm /\ nm.length = 1 /\ (ov = -1 \/ ov = 0 \/ ov = 1) /\ ∀ a k x H', Same H H' -> TpAt H' a k x -> Ask (ov <= 0) k x -> Q (.ref a) H'
theorem fp30 {t u : Tm} (h : Fit 30 t) (h' : RdOk (wr u) u) : xG 30 (t, u) := ⟨h, h'.2.1.mono (by omega)⟩
theorem fp30' {t u : Tm} (h : Fit 30 t) (h' : RdOk (wr u) u) : xG 30 (u, t) := ⟨h'.2.1.mono (by omega), h⟩
theorem xQ (p : Tm × Tm) : (zL p).length = (wr p.1).length + 3 + (wr p.2).length := by
 show (wr p.1 ++ jUnder ++ wr p.2).length = _
 rw [List.length_append, List.length_append]
 rfl
section
variable {t : Tm} {x : Str} (ht : Fit 30 t) (hl : (wr t).length <= 500) (hx : Nm x) (h1 : x.length = 1)
include ht hl hx h1
theorem ask0 : Ask (RdOk (wr t) t) 0 (wr t) := Ask.of (g := .tm t) ht (by show (wr t).length <= 5000; omega) Iff.rfl
theorem wn_len : (wr (.name x)).length = 1 := by rw [wr]; exact h1
theorem ask1 : Ask (RdOk (wr t) t) 1 (zL (t, .name x)) := by
 have h2 := wn_len ht hl hx h1
 refine Ask.of (g := .sy (t, .name x)) (fp30 ht (xV hx)) ?_ ⟨fun h => ?_, fun h => ⟨rfl, h, xV hx⟩⟩
 · show (zL (t, .name x)).length <= 5000
   rw [xQ]
   show (wr t).length + 3 + (wr (.name x)).length <= 5000
   omega
 · have h : RdSOk (zL (t, .name x)) (t, .name x) := h
   exact h.2.1
theorem ask2 : Ask (RdOk (wr t) t) 1 (zL (.name x, t)) := by
 have h2 := wn_len ht hl hx h1
 refine Ask.of (g := .sy (.name x, t)) (fp30' ht (xV hx)) ?_ ⟨fun h => ?_, fun h => ⟨rfl, xV hx, h⟩⟩
 · show (zL (.name x, t)).length <= 5000
   rw [xQ]
   show (wr (.name x)).length + 3 + (wr t).length <= 5000
   omega
 · have h : RdSOk (zL (.name x, t)) (.name x, t) := h
   exact h.2.2
theorem wr_tNone : wr tNone = cNone := by unfold tNone; exact wr_none
theorem wr_tAll : wr tAll = cAll := by unfold tAll; exact wr_all
def qB (t : Tm) (x : Str) : List (Tm × Tm) × (Tm × Tm) := ([(.name x, tNone), (tAll, t)], (.name x, .name x))
def qA (t : Tm) (x : Str) : List (Tm × Tm) × (Tm × Tm) := ([(tAll, .name x)], (t, tNone))
theorem rule3_wr : zX (qB t x) = zL (.name x, tNone) ++ jComma ++ zL (tAll, t) ++ jArrow ++ zL (.name x, .name x) := by
 unfold zX qB
 rw [if_neg (by simp)]
 rfl
theorem rule4_wr : zX (qA t x) = zL (tAll, .name x) ++ jArrow ++ zL (t, tNone) := by
 unfold zX qA
 rw [if_neg (by simp)]
 rfl
theorem ask3 : Ask (RdOk (wr t) t) 2 (zX (qB t x)) := by
 have h2 := wn_len ht hl hx h1
 have l1 : cNone.length = 4 := rfl
 have l2 : cAll.length = 3 := rfl
 have l3 : jComma.length = 2 := rfl
 have l4 : jArrow.length = 4 := rfl
 have len : (zX (qB t x)).length <= 3000 := by
   rw [rule3_wr ht hl hx h1, List.length_append, List.length_append, List.length_append, List.length_append, xQ, xQ, xQ]
   show (wr (.name x)).length + 3 + (wr tNone).length + _ + ((wr tAll).length + 3 + (wr t).length) + _ + ((wr (.name x)).length + 3 + (wr (.name x)).length) <= 3000
   rw [wr_tNone ht hl hx h1, wr_tAll ht hl hx h1]
   omega
 have f : Th.Fit 30 (.ru (qB t x)) := by
   refine ⟨fun p hp => ?_, ⟨(xV hx).2.1.mono (by omega), (xV hx).2.1.mono (by omega)⟩⟩
   have hp : p ∈ [(Tm.name x, tNone), (tAll, t)] := hp
   rcases List.mem_cons.mp hp with rfl | hp
   · exact ⟨(xV hx).2.1.mono (by omega), qF 30⟩
   · rw [List.mem_singleton.mp hp]
     exact ⟨kG 30, ht⟩
 refine Ask.of (g := .ru (qB t x)) f (by show (zX (qB t x)).length <= 5000; omega) ⟨fun h => ?_, fun h => ⟨rfl, len, by show 2 <= 5; omega, fun p hp => ?_, ⟨rfl, xV hx, xV hx⟩⟩⟩
 · have h : RdROk (zX (qB t x)) (qB t x) := h
   exact (h.2.2.2.1 (tAll, t) (by show (tAll, t) ∈ [(Tm.name x, tNone), (tAll, t)]; simp)).2.2
 · have hp : p ∈ [(Tm.name x, tNone), (tAll, t)] := hp
   rcases List.mem_cons.mp hp with rfl | hp
   · exact ⟨rfl, xV hx, none_rd⟩
   · rw [List.mem_singleton.mp hp]
     exact ⟨rfl, all_rd, h⟩
theorem ask4 : Ask (RdOk (wr t) t) 2 (zX (qA t x)) := by
 have h2 := wn_len ht hl hx h1
 have l1 : cNone.length = 4 := rfl
 have l2 : cAll.length = 3 := rfl
 have l4 : jArrow.length = 4 := rfl
 have len : (zX (qA t x)).length <= 3000 := by
   rw [rule4_wr ht hl hx h1, List.length_append, List.length_append, xQ, xQ]
   show (wr tAll).length + 3 + (wr (.name x)).length + _ + ((wr t).length + 3 + (wr tNone).length) <= 3000
   rw [wr_tNone ht hl hx h1, wr_tAll ht hl hx h1]
   omega
 have f : Th.Fit 30 (.ru (qA t x)) := by
   refine ⟨fun p hp => ?_, ⟨ht, qF 30⟩⟩
   have hp : p ∈ [(tAll, Tm.name x)] := hp
   rw [List.mem_singleton.mp hp]
   exact ⟨kG 30, (xV hx).2.1.mono (by omega)⟩
 refine Ask.of (g := .ru (qA t x)) f (by show (zX (qA t x)).length <= 5000; omega) ⟨fun h => ?_, fun h => ⟨rfl, len, by show 1 <= 5; omega, fun p hp => ?_, ⟨rfl, h, none_rd⟩⟩⟩
 · have h : RdROk (zX (qA t x)) (qA t x) := h
   exact h.2.2.2.2.2.1
 · have hp : p ∈ [(tAll, Tm.name x)] := hp
   rw [List.mem_singleton.mp hp]
   exact ⟨rfl, all_rd, xV hx⟩
end
section
variable {P : Program} {w : World} {K : PySem.W.Frag} {mg : Str -> Option Value} {base : Heap} {f : Addr} {fd : FuncData}
theorem ok_within (bi : Bi mg) (F : Fun K "_law_within" "_law_within" s_s f fd) : FnOk P w K mg base CX0 1 f fd ["text", "cell", "name"] spWith := by
 refine F.ok sc_s (fun vs H Q E h => ?_) (fun cdv A outer s H vs Q E hr h => ?_)
 · obtain ⟨t, c, x, rfl, _⟩ := h
   rfl
 obtain ⟨t, c, x, rfl, ht, hl, hx, h1, q⟩ := h
 have hl2 : (wrS t).length <= 500 := by unfold wrS; rw [zH]; exact hl
 have l3 : (" < " : Str).length = 3 := by decide +kernel
 have l4 : (" => " : Str).length = 4 := by decide +kernel
 have l5 : (" < none, all < " : Str).length = 15 := by decide +kernel
 have l6 : ("all < " : Str).length = 6 := by decide +kernel
 have l7 : (" < none" : Str).length = 7 := by decide +kernel
 have ex : wr (.name x) = ofS x := by rw [wr]; rfl
 have two : (2 : Nat) <= sizeLine := by decide
 refine ⟨_, (zB (yB (zQ op_eq (zI op_mod (pv 1) zC) zC (zN _)) (zD (zM (yR (zA zC (zA (pv 0) pa_nil))))) pss_nil) (zB (yB (zQ op_eq (zI op_mod (pv 1) zC) zC (zN _)) (zD (zM (yR (zA zC (zA (zI op_add_str (zI op_add_str (pv 0) zF) (pv 2)) pa_nil))))) pss_nil) (zB (yB (zQ op_eq (zI op_mod (pv 1) zC) zC (zN _)) (zD (zM (yR (zA zC (zA (zI op_add_str (zI op_add_str (pv 2) zF) (pv 0)) pa_nil))))) pss_nil) (zB (yB (zQ op_eq (zI op_mod (pv 1) zC) zC (zN _)) (zD (zM (yR (zA zC (zA (zI op_add_str (zI op_add_str (zI op_add_str (zI op_add_str (zI op_add_str (zI op_add_str (pv 2) zF) (pv 0)) zF) (pv 2)) zF) (pv 2)) pa_nil))))) pss_nil) (zD (zM (yR (zA zC (zA (zI op_add_str (zI op_add_str (zI op_add_str (zI op_add_str zF (pv 2)) zF) (pv 0)) zF) pa_nil))))))))), ?_⟩
 refine zG fun N hN => ?_
 simp! []
 refine ⟨by decide, rfl, ?_⟩
 split
 · exact ⟨two, fun p hp => q p 0 (wr t) _ (zP hp _) zK (ask0 ht hl hx h1)⟩
 refine hN _ _ ?_
 clear hN
 refine zG fun N hN => ?_
 simp! []
 refine ⟨by decide, rfl, ?_⟩
 split
 · refine ⟨big (by omega), big (by rw [zU]; omega), two, fun p hp => q p 1 (zL (t, .name x)) _ (zP hp _) ?_ (ask1 ht hl hx h1)⟩
   have e : wrS t ++ (" < " : Str) ++ x = toS (zL (t, .name x)) := by
     unfold wrS
     conv => lhs; rw [← yK x]
     rw [s_under, zJ, zJ]
     rfl
   rw [e]
   exact zK
 refine hN _ _ ?_
 clear hN
 refine zG fun N hN => ?_
 simp! []
 refine ⟨by decide, rfl, ?_⟩
 split
 · refine ⟨big (by omega), big (by rw [zU]; omega), two, fun p hp => q p 1 (zL (.name x, t)) _ (zP hp _) ?_ (ask2 ht hl hx h1)⟩
   have e : x ++ (" < " : Str) ++ wrS t = toS (zL (.name x, t)) := by
     unfold wrS
     conv => lhs; rw [← yK x]
     rw [s_under, zJ, zJ]
     rfl
   rw [e]
   exact zK
 refine hN _ _ ?_
 clear hN
 simp! []
 refine ⟨by decide, rfl, ?_⟩
 split
 · refine ⟨big (by omega), big (by rw [zU]; omega), big (by rw [zU, zU]; omega), big (by rw [zU, zU, zU]; omega), big (by rw [zU, zU, zU, zU]; omega), big (by rw [zU, zU, zU, zU, zU]; omega), two, fun p hp => q p 2 (zX (qB t x)) _ (zP hp _) ?_ (ask3 ht hl hx h1)⟩
   have e5 : (" < none, all < " : Str) = toS (jUnder ++ cNone ++ jComma ++ cAll ++ jUnder) := by decide +kernel
   have e : x ++ (" < none, all < " : Str) ++ wrS t ++ (" => " : Str) ++ x ++ (" < " : Str) ++ x = toS (zX (qB t x)) := by
     rw [rule3_wr ht hl hx h1]
     have w1 : zL (.name x, tNone) = ofS x ++ jUnder ++ cNone := by show wr (.name x) ++ jUnder ++ wr tNone = _; rw [wr_tNone ht hl hx h1, ex]
     have w2 : zL (tAll, t) = cAll ++ jUnder ++ wr t := by show wr tAll ++ jUnder ++ wr t = _; rw [wr_tAll ht hl hx h1]
     have w3 : zL (.name x, .name x) = ofS x ++ jUnder ++ ofS x := by show wr (.name x) ++ jUnder ++ wr (.name x) = _; rw [ex]
     rw [w1, w2, w3]
     unfold wrS
     conv => lhs; rw [← yK x]
     rw [e5, s_arrow, s_under, zJ, zJ, zJ, zJ, zJ, zJ]
     simp
   rw [e]
   exact zK
 · refine ⟨big (by omega), big (by rw [zU]; omega), big (by rw [zU, zU]; omega), big (by rw [zU, zU, zU]; omega), two, fun p hp => q p 2 (zX (qA t x)) _ (zP hp _) ?_ (ask4 ht hl hx h1)⟩
   have e6 : ("all < " : Str) = toS (cAll ++ jUnder) := by decide +kernel
   have e7 : (" < none" : Str) = toS (jUnder ++ cNone) := by decide +kernel
   have e : ("all < " : Str) ++ x ++ (" => " : Str) ++ wrS t ++ (" < none" : Str) = toS (zX (qA t x)) := by
     rw [rule4_wr ht hl hx h1]
     have w1 : zL (t, tNone) = wr t ++ jUnder ++ cNone := by show wr t ++ jUnder ++ wr tNone = _; rw [wr_tNone ht hl hx h1]
     have w2 : zL (tAll, .name x) = cAll ++ jUnder ++ ofS x := by show wr tAll ++ jUnder ++ wr (.name x) = _; rw [wr_tAll ht hl hx h1, ex]
     rw [w1, w2]
     unfold wrS
     conv => lhs; rw [← yK x]
     rw [e6, e7, s_arrow, zJ, zJ, zJ, zJ]
     simp
   rw [e]
   exact zK
end
theorem Ask.mono {b b' : Prop} {k : Nat} {x : Cs} (h : Ask b k x) (e : b ↔ b') : Ask b' k x := ⟨h.kd, h.len, fun z => h.yes (e.mpr z), fun z => h.no fun y => z (e.mp y)⟩
theorem rd_nots {ov : Int} {n : Nat} (ho : 5 + ov = (n : Nat)) (hn : n <= 6) {wd : Str} (h : Jw wd) {xs : List Str} (hl : xs.length = 36) (hx : ∀ x ∈ xs, Nm x /\ x.length = 8) :
   Fit 30 (nots n (xL wd xs)) /\ (wr (nots n (xL wd xs))).length <= 500 /\ (RdOk (wr (nots n (xL wd xs))) (nots n (xL wd xs)) ↔ ov <= 0) := by
 have h1 := wV h (by omega) fun x hx' => (hx x hx').1
 have h2 := jN h (xs := xs) (n := 35) (m := 8) hl fun x hx' => (hx x hx').2
 have h4 := nots_fit n h1
 have h5 : (wr (nots n (xL wd xs))).length = 395 + n := by
   rw [nots_wr, List.length_append, List.length_replicate, h2]
   omega
 refine ⟨h4.mono (by omega), by omega, fun z => ?_, fun z => ⟨rfl, h4.mono (by omega), by omega, by rw [nots_lv, row_lv (by omega)]; omega⟩⟩
 have := z.2.2.1
 omega
theorem rd_deep {ov : Int} {n : Nat} (ho : 20 + ov = (n : Nat)) (hn : n <= 21) {t : Tm} (h : Dp n t) : Fit 30 t /\ (wr t).length <= 500 /\ (RdOk (wr t) t ↔ ov <= 0) := by
 have hl := h.len
 have hv := h.lv
 refine ⟨h.fit.mono (by omega), by omega, fun z => ?_, fun z => ⟨rfl, h.fit.mono (by omega), by omega, by omega⟩⟩
 have hf := z.2.1
 by_cases h21 : n <= 20
 · omega
 · exact absurd hf (h.deep 20 (by omega))
theorem rd_many {ov : Int} {n : Nat} (ho : 60 + ov = (n : Nat)) (hn : n <= 61) (hn2 : 59 <= n) {wd : Str} (h : Jw wd) {x : Str} (hx : Nm x) (h1 : x.length = 1) :
   Fit 30 (xL wd (List.replicate n x)) /\ (wr (xL wd (List.replicate n x))).length <= 500 /\ (RdOk (wr (xL wd (List.replicate n x))) (xL wd (List.replicate n x)) ↔ ov <= 0) := by
 have hf := wV h (xs := List.replicate n x) (by rw [List.length_replicate]; omega) fun y hy => by rw [List.eq_of_mem_replicate hy]; exact hx
 have h2 := jN h (xs := List.replicate n x) (n := n - 1) (m := 1) (by rw [List.length_replicate]; omega) fun y hy => by rw [List.eq_of_mem_replicate hy]; exact h1
 have h3 := row_lv (wd := wd) (xs := List.replicate n x) (by rw [List.length_replicate]; omega)
 rw [List.length_replicate] at h3
 refine ⟨hf.mono (by omega), by omega, fun z => ?_, fun z => ⟨rfl, hf.mono (by omega), by omega, by omega⟩⟩
 have := z.2.2.2
 omega
theorem ask_prem {ov : Int} {n : Nat} (ho : 5 + ov = (n : Nat)) (hn : n <= 6) {ps : List (Tm × Tm)} {x : Str} (hx : Nm x) (h1 : x.length = 1) (hl : ps.length = n) (hp : ∀ p ∈ ps, RdSOk (zL p) p /\ (zL p).length <= 10) : Ask (ov <= 0) 2 (zX (ps, (.name x, tNone))) := by
 have lw : (zL (.name x, tNone)).length <= 10 := by
   rw [xQ]
   show (wr (.name x)).length + 3 + (wr tNone).length <= 10
   have : (wr (.name x)).length = 1 := by rw [wr]; exact h1
   have : wr tNone = cNone := by unfold tNone; exact wr_none
   rw [this]
   have : cNone.length = 4 := rfl
   omega
 have gl : ∀ ss : List Cs, (∀ y ∈ ss, y.length <= 10) -> (zZ jComma ss).length <= ss.length * 12 := fun ss => by
   induction ss with
   | nil => exact fun _ => Nat.zero_le _
   | cons a r ih =>
     intro h
     have ha := h a (by simp)
     have hr := ih fun y hy => h y (List.mem_cons_of_mem _ hy)
     cases r with
     | nil => show a.length <= 1 * 12; omega
     | cons b q =>
       show (a ++ jComma ++ zZ jComma (b :: q)).length <= ((b :: q).length + 1) * 12
       have : jComma.length = 2 := rfl
       rw [List.length_append, List.length_append, Nat.add_mul]
       omega
 have len : (zX (ps, (.name x, tNone))).length <= 3000 := by
   unfold zX
   split
   · show (zL (.name x, tNone)).length <= 3000
     omega
   · have := gl (ps.map zL) fun y hy => by
       obtain ⟨p, hp', rfl⟩ := List.mem_map.mp hy
       exact (hp p hp').2
     rw [List.length_map] at this
     show (zZ jComma (ps.map zL) ++ jArrow ++ zL (.name x, tNone)).length <= 3000
     have : jArrow.length = 4 := rfl
     rw [List.length_append, List.length_append]
     omega
 have fx : xG 30 (.name x, tNone) := ⟨jI hx 30, qF 30⟩
 refine Ask.of (g := .ru (ps, (.name x, tNone))) ⟨fun p hp' => ⟨(hp p hp').1.fit.1.mono (by omega), (hp p hp').1.fit.2.mono (by omega)⟩, fx⟩ (by show (zX (ps, (.name x, tNone))).length <= 5000; omega) ⟨fun h => ?_, fun h => ⟨rfl, len, by show ps.length <= 5; omega, fun p hp' => (hp p hp').1, ⟨rfl, xV hx, none_rd⟩⟩⟩
 have h : RdROk (zX (ps, (.name x, tNone))) (ps, (.name x, tNone)) := h
 have h5 : ps.length <= 5 := h.2.2.1
 omega
theorem ask_great {ov : Int} (ho : ov = -1 \/ ov = 0 \/ ov = 1) {r : List (Tm × Tm) × (Tm × Tm)} (h5 : r.1.length = 5) (h1 : ∀ p ∈ r.1, RdSOk (zL p) p) (h2 : RdSOk (zL r.2) r.2) (hl : ((zX r).length : Int) = 3000 + ov) : Ask (ov <= 0) 2 (zX r) := by
 refine Ask.of (g := .ru r) ⟨fun p hp' => ⟨(h1 p hp').fit.1.mono (by omega), (h1 p hp').fit.2.mono (by omega)⟩, ⟨h2.fit.1.mono (by omega), h2.fit.2.mono (by omega)⟩⟩ (by show (zX r).length <= 5000; omega) ⟨fun h => ?_, fun h => ⟨rfl, by show (zX r).length <= 3000; omega, by omega, h1, h2⟩⟩
 have h : RdROk (zX r) r := h
 have := h.2.1
 omega
section
variable {P : Program} {w : World} {K : PySem.W.Frag} {mg : Str -> Option Value} {base : Heap} {f : Addr} {fd : FuncData}
theorem ok_case (bi : Bi mg) (h_z : Has P w K mg base 2 "_law_row" ["cell", "many", "mark"] spRow) (h_v : Has P w K mg base 1 "_law_deep" ["cell", "name", "over"] spDeep) (h_w : Has P w K mg base 1 "_law_many" ["name", "many", "mark"] spMany) (h_l : Has P w K mg base 1 "_law_premises" ["cell", "name", "many"] spPrem) (h_d : Has P w K mg base 3 "_law_great_rule" ["cell", "over"] spGreat) (h_s : Has P w K mg base 1 "_law_within" ["text", "cell", "name"] spWith) (F : Fun K "_law_case" "_law_case" s_x f fd) : FnOk P w K mg base CX0 4 f fd ["way", "cell", "name", "over"] spCase := by
 refine F.ok sc_x (fun vs H Q E h => ?_) (fun cdv A outer s H vs Q E hr h => ?_)
 · obtain ⟨wy, c, x, ov, rfl, _⟩ := h
   rfl
 obtain ⟨wy, c, x, ov, rfl, hwy, hx, h1, ho, q⟩ := h
 refine ⟨_, (zB (zR (i := 4) sc_x.nd rfl (Or.inl rfl) (yC ix_list (jD (zA zF (zA zF pa_nil))) (zI op_mod (pv 1) zC) (fun _ _ => rfl))) (zB (yB (zQ op_lt (pv 0) zC (zN _)) (zD (zM (zS h_s (hr.mono (by omega)) rfl (zA (zI op_add_str (zI vF zF (zI op_add zC (pv 3))) (zS h_z (hr.mono (by omega)) rfl (zA (pv 1) (zA zC (zA (pv 4) pa_nil))))) (zA (zI op_fdiv (pv 1) zC) (zA (pv 2) pa_nil)))))) pss_nil) (zB (yB (zQ op_eq (pv 0) zC (zN _)) (zD (zM (zS h_s (hr.mono (by omega)) rfl (zA (zS h_v (hr.mono (by omega)) rfl (zA (pv 1) (zA (pv 2) (zA (pv 3) pa_nil)))) (zA (zI op_fdiv (pv 1) zC) (zA (pv 2) pa_nil)))))) pss_nil) (zB (yB (zQ op_lt (pv 0) zC (zN _)) (zD (zM (zS h_s (hr.mono (by omega)) rfl (zA (zS h_w (hr.mono (by omega)) rfl (zA (pv 2) (zA (zI op_add zC (pv 3)) (zA (pv 4) pa_nil)))) (zA (zI op_fdiv (pv 1) zC) (zA (pv 2) pa_nil)))))) pss_nil) (zB (yB (zQ op_eq (pv 0) zC (zN _)) (zD (zM (yR (zA zC (zA (zS h_l (hr.mono (by omega)) rfl (zA (pv 1) (zA (pv 2) (zA (zI op_add zC (pv 3)) pa_nil)))) pa_nil))))) pss_nil) (zD (zM (yR (zA zC (zA (zS h_d (hr.mono (by omega)) rfl (zA (pv 1) (zA (pv 3) pa_nil))) pa_nil)))))))))), ?_⟩
 have hmk : ∃ wd, Jw wd /\ atI [V.str " & ", V.str " | "] ((c : Int) % 2) = some (V.str (toS (jOf wd))) := by
   have : (c : Int) % 2 = ((0 : Nat) : Int) \/ (c : Int) % 2 = ((1 : Nat) : Int) := by omega
   rcases this with h | h
   · exact ⟨"both", .inl rfl, by rw [h, j_both, ← s_and]; exact yM rfl⟩
   · exact ⟨"either", .inr rfl, by rw [h, j_either, ← s_or]; exact yM rfl⟩
 obtain ⟨wd, hwd, hat⟩ := hmk
 refine zG fun N hN => ?_
 simp! []
 refine ⟨yE (by decide), fun p hp => ⟨by decide, _, SqL.of zK, _, hat, hN _ _ ?_⟩⟩
 clear hN
 have e1 := zP hp (.lst [V.str " & ", V.str " | "])
 generalize upd H p (HO.lst [V.str " & ", V.str " | "]) = H1 at e1 ⊢
 have hc2 : (c : Int) / 2 = ((c / 2 : Nat) : Int) := (Int.natCast_ediv c 2).symm
 refine zG fun N hN => ?_
 simp! [spRow, spWith]
 split
 · obtain ⟨n, hn, hn6⟩ : ∃ n : Nat, 5 + ov = (n : Nat) /\ n <= 6 := ⟨(5 + ov).toNat, by omega, by omega⟩
   rw [hn, s_not, mul_sign]
   refine ⟨by decide +kernel, by omega, by omega, c, rfl, 36, rfl, wd, rfl, hwd, by decide, by decide, fun xs hxl hxs => ⟨?_, ⟨by decide, by decide⟩, nots n (xL wd xs), ?_, c / 2, hc2, ?_⟩⟩
   · have := jN hwd (xs := xs) (n := 35) (m := 8) hxl fun x hx' => (hxs x hx').2
     unfold wrS
     rw [zH, zH, List.length_replicate, this]
     exact big (by omega)
   · unfold wrS
     rw [nots_wr, zJ]
   · obtain ⟨r1, r2, r3⟩ := rd_nots hn hn6 hwd hxl hxs
     exact ⟨r1, r2, hx, h1, fun a k y H' e2 ta ak => q a k y H' (e1.trans e2) ta (ak.mono r3)⟩
 refine hN _ _ ?_
 clear hN
 refine zG fun N hN => ?_
 simp! [spDeep, spWith]
 refine ⟨rfl, ?_⟩
 split
 · obtain ⟨n, hn, hn6⟩ : ∃ n : Nat, 20 + ov = (n : Nat) /\ n <= 21 := ⟨(20 + ov).toNat, by omega, by omega⟩
   refine ⟨hx, h1, n, hn, by omega, fun t ht => ⟨⟨by decide, by decide⟩, t, rfl, c / 2, hc2, ?_⟩⟩
   obtain ⟨r1, r2, r3⟩ := rd_deep hn hn6 ht
   exact ⟨r1, r2, hx, h1, fun a k y H' e2 ta ak => q a k y H' (e1.trans e2) ta (ak.mono r3)⟩
 refine hN _ _ ?_
 clear hN
 refine zG fun N hN => ?_
 simp! [spMany, spWith]
 split
 · obtain ⟨n, hn, hn6, hn7⟩ : ∃ n : Nat, 60 + ov = (n : Nat) /\ n <= 61 /\ 59 <= n := ⟨(60 + ov).toNat, by omega, by omega, by omega⟩
   refine ⟨n, hn, wd, rfl, hwd, h1, by omega, by omega, ⟨by decide, by decide⟩, _, rfl, c / 2, hc2, ?_⟩
   obtain ⟨r1, r2, r3⟩ := rd_many hn hn6 hn7 hwd hx h1
   exact ⟨r1, r2, hx, h1, fun a k y H' e2 ta ak => q a k y H' (e1.trans e2) ta (ak.mono r3)⟩
 refine hN _ _ ?_
 clear hN
 simp! [spPrem, spGreat]
 refine ⟨rfl, ?_⟩
 split
 · obtain ⟨n, hn, hn6, hn7⟩ : ∃ n : Nat, 5 + ov = (n : Nat) /\ n <= 6 /\ 1 <= n := ⟨(5 + ov).toNat, by omega, by omega, by omega⟩
   refine ⟨c, rfl, n, hn, hx, h1, hn7, by omega, fun ps H2 e2 hl hps => ⟨yE (by decide), fun p2 hp2 => ?_⟩⟩
   exact q p2 2 _ _ (e1.trans (e2.trans (zP hp2 _))) zK (ask_prem hn hn6 hx h1 hl hps)
 · refine ⟨c, rfl, ho, fun r H2 e2 h5 g1 g2 hl => ⟨yE (by decide), fun p2 hp2 => ?_⟩⟩
   exact q p2 2 _ _ (e1.trans (e2.trans (zP hp2 _))) zK (ask_great ho h5 g1 g2 hl)
end
def NoStr (K : PySem.W.Frag) (H : Hp) (v : V) : Prop := ∃ T, TyOf K H v (.type T) /\ PySem.W.kitOne K (.type T) (.type "str") = some false
def uH (K : PySem.W.Frag) (CT : Addr) : Sp := fun vs H Q E => ∃ v, vs = [v] /\ NoStr K H v /\ ∀ H', Same H H' -> E (.ref CT) none H'
def spAskB (K : PySem.W.Frag) (CT : Addr) : Sp := fun vs H Q E => ∃ (k : Nat) (v : V), vs = [.int k, v] /\ NoStr K H v /\ ∀ H', Same H H' -> E (.ref CT) none H'
theorem FnOk.or {P : Program} {w : World} {K : PySem.W.Frag} {mg : Str -> Option Value} {base : Heap} {CX : CXT} {k : Nat} {f : Addr} {fd : FuncData} {ps : List Str} {sp sp' : Sp} (F : FnOk P w K mg base CX k f fd ps sp) (F' : FnOk P w K mg base CX k f fd ps sp') :
   FnOk P w K mg base CX k f fd ps (fun vs H Q E => sp vs H Q E \/ sp' vs H Q E) :=
 ⟨fun vs H Q E q => q.elim (F.len vs H Q E) (F'.len vs H Q E), fun A outer s H args us vs Q E hr he hb hv hs => hs.elim (F.run A outer s H args us vs Q E hr he hb hv) (F'.run A outer s H args us vs Q E hr he hb hv)⟩
section
variable {P : Program} {w : World} {K : PySem.W.Frag} {mg : Str -> Option Value} {base : Heap} {f : Addr} {fd : FuncData} {CT : Addr}
theorem bad_read (bi : Bi mg) {C : Addr} (T : RdC K C) (cl_Reader : Cls K C) (g_MOST_SIGNS_OF_TERM : Gc mg "MOST_SIGNS_OF_TERM" (.int 400)) (g_MOST_DEEP : Gc mg "MOST_DEEP" (.int 20)) (g_MOST_LEAVES : Gc mg "MOST_LEAVES" (.int 60))
   (h_C : HasX P w K mg base 1 "need" ["held", "words"] (yI CT)) (h_m : HasI P w K mg base 1 C "Reader" ["self", "text"] (qR C)) (h_f : HasMX P w K mg base 45 C "term" ["self", "room"] (xE C CT 21)) (h_B : Has P w K mg base 22 "leaves" ["t"] (spLv 22))
   (F : Fun K "read" "read" s_D f fd) : FnOk P w K mg base (CX1 P w) 46 f fd ["text"] (uH K CT) := by
 refine F.okX sc_D (fun vs H Q E h => ?_) (fun cdv A outer s H vs Q E hr h => ?_)
 · obtain ⟨x, rfl, _⟩ := h
   rfl
 obtain ⟨v, rfl, ⟨T, ty, hk⟩, qx⟩ := h
 refine ⟨_, (zB (yG (zT h_C (hr.mono (by omega)) rfl (zA (zO (yW (T := "str")) rfl bi.isinstance bt_isinstance (zA (pv 0) (zA (jU bi.str bt_str rfl) pa_nil))) (zA zF pa_nil)))) (zB (yG (zT h_C (hr.mono (by omega)) rfl (zA (yD op_le (zO call_len rfl bi.len bt_len (zA (pv 0) pa_nil)) (yY g_MOST_SIGNS_OF_TERM rfl) (zN _)) (zA zF pa_nil)))) (zB (zR (i := 1) sc_D.nd rfl (Or.inl rfl) (pe_makeH h_m (hr.mono (by omega)) rfl (zA (pv 0) pa_nil))) (zB (zR (i := 2) sc_D.nd rfl (Or.inl rfl) (xM h_f cl_Reader (hr.mono (by omega)) (pv 1) (zA (yY g_MOST_DEEP rfl) pa_nil))) (zB (yG (zT h_C (hr.mono (by omega)) rfl (zA (yD op_eq (xK (pv 1) rfl) (zO call_len rfl bi.len bt_len (zA (pv 0) pa_nil)) (zN _)) (zA zF pa_nil)))) (zB (yG (zT h_C (hr.mono (by omega)) rfl (zA (yD op_le (zS h_B (hr.mono (by omega)) rfl (zA (pv 2) pa_nil)) (yY g_MOST_LEAVES rfl) (zN _)) (zA zF pa_nil)))) (zD (zM (pv 2))))))))), ?_⟩
 refine zG fun N hN => ?_
 simp! [yI]
 exact ⟨_, ty, false, hk, (fun z => by cases z), fun _ => qx H (Same.refl _)⟩
theorem uR (bi : Bi mg) (g_UNDER : Gc mg "UNDER" (.str " < ")) (h_C : HasX P w K mg base 1 "need" ["held", "words"] (yI CT)) (h_D : HasX P w K mg base 46 "read" ["text"] (uB CT)) (F : Fun K "read_saying" "read_saying" s_e f fd) : FnOk P w K mg base (CX1 P w) 47 f fd ["text"] (uH K CT) := by
 refine F.okX sc_e (fun vs H Q E h => ?_) (fun cdv A outer s H vs Q E hr h => ?_)
 · obtain ⟨x, rfl, _⟩ := h
   rfl
 obtain ⟨v, rfl, ⟨T, ty, hk⟩, qx⟩ := h
 refine ⟨_, (zB (yG (zT h_C (hr.mono (by omega)) rfl (zA (zO (yW (T := "str")) rfl bi.isinstance bt_isinstance (zA (pv 0) (zA (jU bi.str bt_str rfl) pa_nil))) (zA zF pa_nil)))) (zB (zR (i := 1) sc_e.nd rfl (Or.inl rfl) (qV PySem.F.plainAttrs_str PySem.F.slot_str_split PySem.F.type_str_split mt_split (pv 0) (zA (yY g_UNDER rfl) pa_nil))) (zB (yG (zT h_C (hr.mono (by omega)) rfl (zA (yD op_eq (zO call_len rfl bi.len bt_len (zA (pv 1) pa_nil)) zC (zN _)) (zA zF pa_nil)))) (zD (zM (yR (zA (zT h_D (hr.mono (by omega)) rfl (zA (yC ix_list (pv 1) zC (fun _ _ => rfl)) pa_nil)) (zA (zT h_D (hr.mono (by omega)) rfl (zA (yC ix_list (pv 1) zC (fun _ _ => rfl)) pa_nil)) pa_nil)))))))), ?_⟩
 refine zG fun N hN => ?_
 simp! [yI]
 exact ⟨_, ty, false, hk, (fun z => by cases z), fun _ => qx H (Same.refl _)⟩
theorem vS (bi : Bi mg) (g_COMMA : Gc mg "COMMA" (.str ", ")) (g_ARROW : Gc mg "ARROW" (.str " => ")) (g_MOST_SIGNS_OF_RULE : Gc mg "MOST_SIGNS_OF_RULE" (.int 3000)) (g_MOST_PREMISES : Gc mg "MOST_PREMISES" (.int 5)) (h_C : HasX P w K mg base 1 "need" ["held", "words"] (yI CT)) (h_e : HasX P w K mg base 47 "read_saying" ["text"] (jM CT)) (F : Fun K "read_rule" "read_rule" s_r f fd) : FnOk P w K mg base (CX1 P w) 48 f fd ["text"] (uH K CT) := by
 refine F.okX sc_r (fun vs H Q E h => ?_) (fun cdv A outer s H vs Q E hr h => ?_)
 · obtain ⟨x, rfl, _⟩ := h
   rfl
 obtain ⟨v, rfl, ⟨T, ty, hk⟩, qx⟩ := h
 refine ⟨_, (zB (yG (zT h_C (hr.mono (by omega)) rfl (zA (zO (yW (T := "str")) rfl bi.isinstance bt_isinstance (zA (pv 0) (zA (jU bi.str bt_str rfl) pa_nil))) (zA zF pa_nil)))) (zB (yG (zT h_C (hr.mono (by omega)) rfl (zA (yD op_le (zO call_len rfl bi.len bt_len (zA (pv 0) pa_nil)) (yY g_MOST_SIGNS_OF_RULE rfl) (zN _)) (zA zF pa_nil)))) (zB (zR (i := 1) sc_r.nd rfl (Or.inl rfl) (qV PySem.F.plainAttrs_str PySem.F.slot_str_split PySem.F.type_str_split mt_split (pv 0) (zA (yY g_ARROW rfl) pa_nil))) (zB (yB (zQ op_eq (zO call_len rfl bi.len bt_len (zA (pv 1) pa_nil)) zC (zN _)) (zD (zM (yR (zA (jD pa_nil) (zA (zT h_e (hr.mono (by omega)) rfl (zA (pv 0) pa_nil)) pa_nil))))) pss_nil) (zB (yG (zT h_C (hr.mono (by omega)) rfl (zA (yD op_eq (zO call_len rfl bi.len bt_len (zA (pv 1) pa_nil)) zC (zN _)) (zA zF pa_nil)))) (zB (zR (i := 2) sc_r.nd rfl (Or.inl rfl) (qV PySem.F.plainAttrs_str PySem.F.slot_str_split PySem.F.type_str_split mt_split (yC ix_list (pv 1) zC (fun _ _ => rfl)) (zA (yY g_COMMA rfl) pa_nil))) (zB (yG (zT h_C (hr.mono (by omega)) rfl (zA (yD op_le (zO call_len rfl bi.len bt_len (zA (pv 2) pa_nil)) (yY g_MOST_PREMISES rfl) (zN _)) (zA zF pa_nil)))) (zD (zM (yR (zA (pe_compX ["premise"] [] [] (uW (pv 2)) (fun _ _ _ _ nd => yV (i := 0) nd rfl (Or.inl rfl)) (fun _ _ _ _ => (wE h_e (hr.mono (by omega)) rfl (zA (pv 0) pa_nil)))) (zA (zT h_e (hr.mono (by omega)) rfl (zA (yC ix_list (pv 1) zC (fun _ _ => rfl)) pa_nil)) pa_nil)))))))))))), ?_⟩
 refine zG fun N hN => ?_
 simp! [yI]
 exact ⟨_, ty, false, hk, (fun z => by cases z), fun _ => qx H (Same.refl _)⟩
theorem bad_asked (bi : Bi mg) (h_D : HasX P w K mg base 46 "read" ["text"] (uH K CT)) (h_e : HasX P w K mg base 47 "read_saying" ["text"] (uH K CT)) (h_r : HasX P w K mg base 48 "read_rule" ["text"] (uH K CT)) (F : Fun K "_law_asked" "_law_asked" s_t f fd) : FnOk P w K mg base (CX1 P w) 49 f fd ["kind", "text"] (spAskB K CT) := by
 refine F.okX sc_t (fun vs H Q E h => ?_) (fun cdv A outer s H vs Q E hr h => ?_)
 · obtain ⟨k, x, rfl, _⟩ := h
   rfl
 obtain ⟨k, v, rfl, hb, qx⟩ := h
 refine ⟨_, (zB (yB (zQ op_eq (pv 0) zC (zN _)) (zD (zM (zT h_D (hr.mono (by omega)) rfl (zA (pv 1) pa_nil)))) pss_nil) (zB (yB (zQ op_eq (pv 0) zC (zN _)) (zD (zM (zT h_e (hr.mono (by omega)) rfl (zA (pv 1) pa_nil)))) pss_nil) (zD (zM (zT h_r (hr.mono (by omega)) rfl (zA (pv 1) pa_nil)))))), ?_⟩
 refine zG fun N hN => ?_
 simp! [uH]
 refine ⟨rfl, ?_⟩
 split
 · exact ⟨hb, qx⟩
 refine hN _ _ ?_
 clear hN
 simp! [uH]
 refine ⟨rfl, ?_⟩
 split
 · exact ⟨hb, qx⟩
 · exact ⟨hb, qx⟩
end
theorem no_hole {ss : List Cs} {tl : Cs} (he : [] ∈ ss) (h1 : ∀ s ∈ ss, 44 ∉ s /\ 61 ∉ s) (h2 : 61 ∉ tl) (r : List (Tm × Tm) × (Tm × Tm)) : ¬ RdROk (zZ jComma ss ++ jArrow ++ tl) r := fun h => by
 have hne : ss ≠ [] := fun z => by rw [z] at he; cases he
 have ha : Txt.split (toS (zZ jComma ss ++ jArrow ++ tl)) " => " = [toS (zZ jComma ss), toS tl] := by
   rw [s_arrow]
   refine xJ (ps := [zZ jComma ss, tl]) mark_arrow (by simp) (fun p hp => ?_) (by decide)
   rcases List.mem_cons.mp hp with rfl | hp
   · intro hc
     rcases vM hc with hc | ⟨s, hs, hc⟩
     · exact absurd hc (by decide)
     · exact (h1 s hs).2 hc
   · rw [List.mem_singleton.mp hp]
     exact h2
 rcases h.cut with ⟨_, _, hs⟩ | ⟨_, hs, hs2⟩
 · rw [ha] at hs
   exact absurd (congrArg List.length hs) (by simp)
 · rw [ha] at hs
   have e1 : zZ jComma ss = zZ jComma (r.1.map zL) := yN (List.cons.inj hs).1
   rw [← e1, s_comma, xJ mark_comma hne (fun p hp => (h1 p hp).1) (by decide)] at hs2
   have : toS [] ∈ ss.map toS := List.mem_map.mpr ⟨[], he, rfl⟩
   rw [hs2] at this
   obtain ⟨y, hy, hz⟩ := List.mem_map.mp this
   obtain ⟨p, hp, rfl⟩ := List.mem_map.mp hy
   have hz : zL p = [] := yN hz
   have := congrArg List.length hz
   rw [xQ] at this
   simp at this
theorem vQ {ss : List Cs} {tl : Cs} (he : [] ∈ ss) (h1 : ∀ s ∈ ss, 44 ∉ s /\ 61 ∉ s) (h2 : 61 ∉ tl) (hl : (zZ jComma ss ++ jArrow ++ tl).length <= 5000) : Ask ((1 : Int) <= 0) 2 (zZ jComma ss ++ jArrow ++ tl) := by
 refine ⟨by omega, hl, fun h => absurd h (by decide), fun _ g hk h => ?_⟩
 cases g with
 | tm t => cases hk
 | sy p => cases hk
 | ru r => exact no_hole he h1 h2 r h
theorem hole3 {x : Str} (hx : Nm x) (h1 : x.length = 1) {z : Int} (h0 : 0 <= z) (h3 : z < 3) : ∃ y : Cs, atI [V.str "", V.str ((", " : Str) ++ x ++ (" < all" : Str)), V.str (x ++ (" < all, , all < " : Str) ++ x)] z = some (V.str (toS y)) /\ y.length <= 30 /\ Ask ((1 : Int) <= 0) 2 (y ++ jArrow ++ (ofS x ++ jUnder ++ cNone)) := by
 have hx1 : (ofS x).length = 1 := h1
 have lo : ∀ c ∈ ofS x, 97 <= c /\ c <= 122 := hx.low
 have n44 : 44 ∉ ofS x := fun h => by have := lo _ h; omega
 have n61 : 61 ∉ ofS x := fun h => by have := lo _ h; omega
 have ht : 61 ∉ ofS x ++ jUnder ++ cNone := by
   simp only [List.mem_append, not_or]
   exact ⟨⟨n61, by decide⟩, by decide⟩
 have hA : 44 ∉ ofS x ++ (jUnder ++ cAll) /\ 61 ∉ ofS x ++ (jUnder ++ cAll) := by
   simp only [List.mem_append, not_or]
   exact ⟨⟨n44, by decide, by decide⟩, n61, by decide, by decide⟩
 have hB : 44 ∉ cAll ++ jUnder ++ ofS x /\ 61 ∉ cAll ++ jUnder ++ ofS x := by
   simp only [List.mem_append, not_or]
   exact ⟨⟨⟨by decide, by decide⟩, n44⟩, ⟨by decide, by decide⟩, n61⟩
 have l1 : jUnder.length = 3 := rfl
 have l2 : cAll.length = 3 := rfl
 have l3 : jComma.length = 2 := rfl
 have l4 : jArrow.length = 4 := rfl
 have l5 : cNone.length = 4 := rfl
 have : z = ((0 : Nat) : Int) \/ z = ((1 : Nat) : Int) \/ z = ((2 : Nat) : Int) := by omega
 rcases this with rfl | rfl | rfl
 · refine ⟨[], by rw [← s_empty]; exact yM rfl, by decide, vQ (ss := [[]]) (by simp) (fun s hs => by rw [List.mem_singleton.mp hs]; exact ⟨by decide, by decide⟩) ht ?_⟩
   show ([] ++ jArrow ++ (ofS x ++ jUnder ++ cNone)).length <= 5000
   simp only [List.length_append, List.length_nil]
   omega
 · have e : (", " : Str) ++ x ++ (" < all" : Str) = toS (zZ jComma [[], ofS x ++ (jUnder ++ cAll)]) := by
     have e1 : (" < all" : Str) = toS (jUnder ++ cAll) := by decide +kernel
     conv => lhs; rw [← yK x]
     rw [s_comma, e1, zJ, zJ]
     simp [zZ]
   refine ⟨_, by rw [e]; exact yM rfl, ?_, vQ (ss := [[], ofS x ++ (jUnder ++ cAll)]) (by simp) (fun s hs => ?_) ht ?_⟩
   · simp only [zZ, List.length_append, List.length_nil]
     omega
   · rcases List.mem_cons.mp hs with rfl | hs
     · exact ⟨by decide, by decide⟩
     · rw [List.mem_singleton.mp hs]; exact hA
   · simp only [zZ, List.length_append, List.length_nil]
     omega
 · have e : x ++ (" < all, , all < " : Str) ++ x = toS (zZ jComma [ofS x ++ (jUnder ++ cAll), [], cAll ++ jUnder ++ ofS x]) := by
     have e1 : (" < all, , all < " : Str) = toS (jUnder ++ cAll ++ jComma ++ jComma ++ cAll ++ jUnder) := by decide +kernel
     conv => lhs; rw [← yK x]
     rw [e1, zJ, zJ]
     simp [zZ]
   refine ⟨_, by rw [e]; exact yM rfl, ?_, vQ (ss := [ofS x ++ (jUnder ++ cAll), [], cAll ++ jUnder ++ ofS x]) (by simp) (fun s hs => ?_) ht ?_⟩
   · simp only [zZ, List.length_append, List.length_nil]
     omega
   · rcases List.mem_cons.mp hs with rfl | hs
     · exact hA
     · rcases List.mem_cons.mp hs with rfl | hs
       · exact ⟨by decide, by decide⟩
       · rw [List.mem_singleton.mp hs]; exact hB
   · simp only [zZ, List.length_append, List.length_nil]
     omega
abbrev s_E : Stmt := top 44
theorem sc_E : FnScope ["script", "cell", "name", "way", "over", "case", "ahead", "found", "refused", "good", "e"] ["script"] (zE s_E) := ⟨rfl, rfl, rfl, by decide +kernel, rfl, by decide +kernel, by decide +kernel⟩
structure Errs (K : PySem.W.Frag) (mg : Str -> Option Value) (CE CT : Addr) : Prop where
 ce : mg "ClashError" = some (.ref CE)
 cb : wR K CE (.type "BaseException") = some true
 ct : wR K CT (.ref CE) = some true
 xc : XCls K CT
 g0 : Gc mg "NoText" (.ref CT)
 k0 : PySem.W.kitOne K (.ref CT) (.ref CT) = some true
def Hand (K : PySem.W.Frag) (H : Hp) (ov : Int) (k : Nat) (v : V) : Prop := (∃ x, v = .str (toS x) /\ Ask (ov <= 0) k x) \/ (NoStr K H v /\ 0 < ov)
def spLaw (K : PySem.W.Frag) : Sp := fun vs H Q _ => ∃ (a : Addr) (ns : List Int), vs = [.ref a] /\ SqL K H a (ns.map V.int) /\ ns.length <= 63 /\ ∀ H', Q (.bl true) H'
theorem bad5 {K : PySem.W.Frag} {H : Hp} {p p1 : Addr} {x : Str} (hl : H p = some (.lst [V.str x])) (ht : H p1 = some (.tup [V.str x])) {z : Int} (h0 : 0 <= z) (h5 : z < 5) : ∃ v, atI [V.non, V.int 7, V.bl true, V.ref p, V.ref p1] z = some v /\ NoStr K H v := by
 have : z = ((0 : Nat) : Int) \/ z = ((1 : Nat) : Int) \/ z = ((2 : Nat) : Int) \/ z = ((3 : Nat) : Int) \/ z = ((4 : Nat) : Int) := by omega
 rcases this with rfl | rfl | rfl | rfl | rfl
 · exact ⟨_, yM rfl, _, .non, kit_f (by decide +kernel)⟩
 · exact ⟨_, yM rfl, _, .int _, kit_f (by decide +kernel)⟩
 · exact ⟨_, yM rfl, _, .bl _, kit_f (by decide +kernel)⟩
 · exact ⟨_, yM rfl, _, .lst hl, kit_f (by decide +kernel)⟩
 · exact ⟨_, yM rfl, _, .tup ht, kit_f (by decide +kernel)⟩
section
variable {P : Program} {w : World} {K : PySem.W.Frag} {mg : Str -> Option Value} {base : Heap} {f : Addr} {fd : FuncData} {CE CT : Addr}
theorem ok_law (Er : Errs K mg CE CT) (bi : Bi mg) (h_o : Has P w K mg base 1 "_law_cell_at" ["script", "k"] (uC K)) (h_x : Has P w K mg base 4 "_law_case" ["way", "cell", "name", "over"] spCase) (h_t : HasX P w K mg base 49 "_law_asked" ["kind", "text"] (fun vs H Q E => spAsk CT vs H Q E \/ spAskB K CT vs H Q E)) (h_u : Has P w K mg base 25 "_law_tells" ["kind", "found", "text"] spTell)
   (F : Fun K "law" "law" s_E f fd) : FnOk P w K mg base CX0 65 f fd ["script"] (spLaw K) := by
 have m_ClashError := Er.ce
 have xb_ClashError := Er.cb
 have g_NoText := Er.g0
 refine F.ok sc_E (fun vs H Q E h => ?_) (fun cdv A outer s H vs Q E hr h => ?_)
 · obtain ⟨a, ns, rfl, _⟩ := h
   rfl
 obtain ⟨a, ns, rfl, hS, h63, q⟩ := h
 refine ⟨_, (zB (zR (i := 1) sc_E.nd rfl (Or.inl rfl) (zI op_mod (zS h_o (hr.mono (by omega)) rfl (zA (pv 0) (zA zC pa_nil))) (zI op_pow zC zC))) (zB (zR (i := 2) sc_E.nd rfl (Or.inl rfl) (yC ix_str zF (zI op_mod (zS h_o (hr.mono (by omega)) rfl (zA (pv 0) (zA zC pa_nil))) zC) (fun _ _ => rfl))) (zB (zR (i := 3) sc_E.nd rfl (Or.inl rfl) (zI op_mod (zS h_o (hr.mono (by omega)) rfl (zA (pv 0) (zA zC pa_nil))) zC)) (zB (zR (i := 4) sc_E.nd rfl (Or.inl rfl) (zI op_sub (zI op_mod (zS h_o (hr.mono (by omega)) rfl (zA (pv 0) (zA zC pa_nil))) zC) zC)) (zB (zR (i := 5) sc_E.nd rfl (Or.inl rfl) (zS h_x (hr.mono (by omega)) rfl (zA (pv 3) (zA (pv 1) (zA (pv 2) (zA (pv 4) pa_nil)))))) (zB (yB (PW.pt (wX (zQ op_eq (pv 3) zC (zN _)) (uU (zQ op_eq (zI op_mod (pv 1) zC) zC (zN _))))) (zB (zR (i := 6) sc_E.nd rfl (Or.inl rfl) (yC ix_list (jD (zA zF (zA (zI op_add_str (zI op_add_str zF (pv 2)) zF) (zA (zI op_add_str (zI op_add_str (pv 2) zF) (pv 2)) pa_nil)))) (zI op_mod (zI op_fdiv (pv 1) zC) zC) (fun _ _ => rfl))) (zB (zR (i := 5) sc_E.nd rfl (Or.inl rfl) (yR (zA zC (zA (zI op_add_str (zI op_add_str (zI op_add_str (pv 6) zF) (pv 2)) zF) pa_nil)))) (zD (zR (i := 4) sc_E.nd rfl (Or.inl rfl) zC)))) pss_nil) (zB (yB (zQ op_eq (pv 3) zC (zN _)) (zB (zR (i := 5) sc_E.nd rfl (Or.inl rfl) (yR (zA (zI op_mod (pv 1) zC) (zA (yC ix_list (jD (zA pe_non (zA zC (zA xH (zA (jD (zA (pv 2) pa_nil)) (zA (yR (zA (pv 2) pa_nil)) pa_nil)))))) (zI op_mod (zI op_fdiv (pv 1) zC) zC) (fun _ _ => rfl)) pa_nil)))) (zD (zR (i := 4) sc_E.nd rfl (Or.inl rfl) zC))) pss_nil) (zB (zR (i := 7) sc_E.nd rfl (Or.inl rfl) pe_non) (zB (zR (i := 8) sc_E.nd rfl (Or.inl rfl) xH) (zB (zR (i := 9) sc_E.nd rfl (Or.inl rfl) xH) (zB (ps_try (i := 10) body_nox sc_E.nd rfl rfl rfl m_ClashError xb_ClashError rfl (px_set (i := 7) rfl h_t (hr.mono (by omega)) rfl sc_E.nd rfl (Or.inl rfl) (zA (yC ix_tup (pv 5) zC (fun _ _ => rfl)) (zA (yC ix_tup (pv 5) zC (fun _ _ => rfl)) pa_nil))) (fun _ => (zB (zR (i := 8) sc_E.nd rfl (Or.inl rfl) xH) (zD (zR (i := 9) sc_E.nd rfl (Or.inl rfl) (zO (call_isXK K rfl) rfl bi.isinstance bt_isinstance (zA (pv 10) (zA (yY g_NoText rfl) pa_nil)))))))) (zB (yB (zQ op_gt (pv 4) zC (zN _)) (zD (zM (jQ (pv 8) (jP (pv 9))))) pss_nil) (zD (zM (jQ (pe_not (pv 8)) (jP (zS h_u (hr.mono (by omega)) rfl (zA (yC ix_tup (pv 5) zC (fun _ _ => rfl)) (zA (pv 7) (zA (yC ix_tup (pv 5) zC (fun _ _ => rfl)) pa_nil)))))))))))))))))))), ?_⟩
 refine zG fun N hN => ?_
 simp! [uC]
 refine ⟨ns, 1, rfl, hS, ⟨by decide, by decide, by decide⟩, by show (0 : Int) < 10 ^ 18; decide, hN _ _ ?_⟩
 clear hN
 obtain ⟨c, hc⟩ : ∃ c : Nat, ns.getD 1 0 % 10 ^ (18 : Int).toNat = (c : Nat) := ⟨_, (Int.toNat_of_nonneg (Int.emod_nonneg _ (by show (10 : Int) ^ 18 ≠ 0; decide))).symm⟩
 rw [hc]
 clear hc
 obtain ⟨d, hd, hd2⟩ := wI (ns.getD 2 0)
 refine zG fun N hN => ?_
 simp! [uC]
 refine ⟨ns, 2, rfl, hS, by decide, yE (by decide +kernel), d, hd, hN _ _ ?_⟩
 clear hN
 have hx1 : (⟨#[d]⟩ : Str).length = 1 := rfl
 have hx : Nm ⟨#[d]⟩ := ⟨Nat.le_refl _, by rw [hx1]; decide, fun e he => by
   have he : e ∈ [d] := he
   rw [List.mem_singleton.mp he]; exact hd2, fun z => by have := congrArg Str.length z; rw [hx1] at this; exact absurd this (by decide +kernel), fun z => by have := congrArg Str.length z; rw [hx1] at this; exact absurd this (by decide +kernel)⟩
 generalize (⟨#[d]⟩ : Str) = x at hx hx1
 clear hd hd2
 refine zG fun N hN => ?_
 simp! [uC]
 refine ⟨ns, 0, rfl, hS, by decide, hN _ _ ?_⟩
 clear hN
 obtain ⟨wy, hwy, hwy8⟩ : ∃ m : Nat, ns.getD 0 0 % 8 = (m : Nat) /\ m < 8 := ⟨(ns.getD 0 0 % 8).toNat, by omega, by omega⟩
 rw [hwy]
 clear hwy
 refine zG fun N hN => ?_
 simp! [uC]
 refine ⟨ns, 3, rfl, hS, by decide, hN _ _ ?_⟩
 clear hN
 have hov : ns.getD 3 0 % 3 - 1 = -1 \/ ns.getD 3 0 % 3 - 1 = 0 \/ ns.getD 3 0 % 3 - 1 = 1 := by omega
 generalize ns.getD 3 0 % 3 - 1 = ov at hov
 refine zG fun N hN => ?_
 simp! [spCase]
 refine ⟨wy, rfl, c, rfl, hwy8, hx, hx1, hov, fun ca k y H1 e1 hta hak => hN _ _ ?_⟩
 clear hN hS
 refine yF (fun σ H' => ∃ (ca : Addr) (k : Nat) (v : V) (ov : Int) (o6 : Option V), H' ca = some (.tup [.int (k : Nat), v]) /\ Hand K H' ov k v /\ σ = [some (V.ref a), some (V.int (c : Nat)), some (V.str x), some (V.int (wy : Nat)), some (V.int ov), some (V.ref ca), o6, none, none, none, none]) (fun N hN => ?_) (fun σ H2 h => ?_)
 · simp! []
   refine ⟨rfl, ?_⟩
   have keep : N [some (V.ref a), some (V.int (c : Nat)), some (V.str x), some (V.int (wy : Nat)), some (V.int ov), some (V.ref ca), none, none, none, none, none] H1 := hN _ _ ⟨ca, k, _, ov, _, hta, .inl ⟨y, rfl, hak⟩, rfl⟩
   split
   · refine ⟨by decide, rfl, ?_⟩
     split
     · have l1 : (", " : Str).length = 2 := by decide +kernel
       have l2 : (" < all" : Str).length = 6 := by decide +kernel
       have l3 : (" < all, , all < " : Str).length = 16 := by decide +kernel
       have l4 : (" => " : Str).length = 4 := by decide +kernel
       have l5 : (" < none" : Str).length = 7 := by decide +kernel
       obtain ⟨y, hy, hyl, hya⟩ := hole3 hx hx1 (z := (c : Int) / 4 % 3) (by omega) (by omega)
       have hyl2 : (toS y).length <= 30 := by rw [zH]; exact hyl
       refine ⟨yE (by omega), yE (by rw [zU]; omega), yE (by omega), yE (by rw [zU]; omega), yE (by decide), fun p hp => ⟨⟨by decide, by decide⟩, by decide, _, SqL.of zK, _, hy, _, rfl, yE (by omega), yE (by rw [zU]; omega), yE (by rw [zU, zU]; omega), yE (by decide), fun p2 hp2 => hN _ _ ?_⟩⟩
       refine ⟨p2, 2, _, 1, _, zK, .inl ⟨_, ?_, hya⟩, rfl⟩
       have e1 : (" < none" : Str) = toS (jUnder ++ cNone) := by decide +kernel
       conv => lhs; rw [← yK x]
       rw [s_arrow, e1, zJ, zJ, zJ]
       simp
     · exact keep
   · exact keep
 clear hta hak e1
 obtain ⟨ca, k, v, ov, o6, hta, hh, rfl⟩ := h
 refine yF (fun σ H' => ∃ (ca : Addr) (k : Nat) (v : V) (ov : Int) (o6 : Option V), H' ca = some (.tup [.int (k : Nat), v]) /\ Hand K H' ov k v /\ σ = [some (V.ref a), some (V.int (c : Nat)), some (V.str x), some (V.int (wy : Nat)), some (V.int ov), some (V.ref ca), o6, none, none, none, none]) (fun N hN => ?_) (fun σ H3 h => ?_)
 · simp! []
   refine ⟨rfl, ?_⟩
   split
   · refine ⟨by decide, yE (by decide), fun p hp => ⟨yE (by decide), fun p1 hp1 => ⟨yE (by decide), fun p2 hp2 => ?_⟩⟩⟩
     have s1 := zP hp (.lst [V.str x])
     have k1 : upd H2 p (.lst [V.str x]) p = some (.lst [V.str x]) := zK
     have s2 := zP hp1 (.tup [V.str x])
     have k2 : upd (upd H2 p (.lst [V.str x])) p1 (.tup [V.str x]) p1 = some (.tup [V.str x]) := zK
     have s3 := zP hp2 (.lst [V.non, V.int 7, V.bl true, V.ref p, V.ref p1])
     refine ⟨⟨by decide, by decide⟩, by decide, _, SqL.of zK, ?_⟩
     replace k1 := (s2.trans s3) _ _ k1
     replace k2 := s3 _ _ k2
     generalize upd (upd (upd H2 p (.lst [V.str x])) p1 (.tup [V.str x])) p2 (.lst [V.non, V.int 7, V.bl true, V.ref p, V.ref p1]) = H3 at k1 k2 ⊢
     obtain ⟨v, hv, _⟩ := bad5 (K := K) k1 k2 (z := (c : Int) / 3 % 5) (by omega) (by omega)
     refine ⟨v, hv, yE (by decide), fun p4 hp4 => hN _ _ ?_⟩
     have s4 := zP hp4 (.tup [V.int ((c : Int) % 3), v])
     obtain ⟨v', hv', hb⟩ := bad5 (K := K) (s4 _ _ k1) (s4 _ _ k2) (z := (c : Int) / 3 % 5) (by omega) (by omega)
     rw [hv] at hv'
     cases hv'
     have ec : (c : Int) % 3 = ((c % 3 : Nat) : Int) := by omega
     exact ⟨p4, c % 3, v, 1, _, by rw [← ec]; exact zK, .inr ⟨hb, by decide⟩, rfl⟩
   · exact hN _ _ ⟨ca, k, v, ov, _, hta, hh, rfl⟩
 clear hta hh
 obtain ⟨ca, k, v, ov, o6, hta, hh, rfl⟩ := h
 refine zG fun N hN => ?_
 simp! []
 refine hN _ _ ?_
 clear hN
 refine zG fun N hN => ?_
 simp! []
 refine hN _ _ ?_
 clear hN
 refine zG fun N hN => ?_
 simp! []
 refine hN _ _ ?_
 clear hN
 refine zG fun N hN => ?_
 simp! [tTry, tXSet, rIsX]
 have refu : 0 < ov -> ∀ H', N [some (V.ref a), some (V.int (c : Nat)), some (V.str x), some (V.int (wy : Nat)), some (V.int ov), some (V.ref ca), o6, some V.non, some (V.bl true), some (V.bl true), none] H' := fun ho H' => hN _ _ (by
   simp! []
   rw [if_pos ho]
   exact q _)
 have rais : 0 < ov -> ∀ H', ∃ C, Value.ref CT = Value.ref C /\ wR K C (Value.ref CE) = some true /\ ∀ (ea : Addr), H' ea = none -> ∃ x_6, upd H' ea (xO ea C) ea = some (xO ea x_6) /\ XCls K x_6 /\ ∃ x_7, ClV (V.ref CT) x_7 /\ ∃ x_8, PySem.W.kitOne K (Value.ref x_6) x_7 = some x_8 /\
     N [some (V.ref a), some (V.int (c : Nat)), some (V.str x), some (V.int (wy : Nat)), some (V.int ov), some (V.ref ca), o6, some V.non, some (V.bl true), some (V.bl x_8), none] (upd H' ea (xO ea C)) := fun ho H' => ⟨CT, rfl, Er.ct, fun ea hea => ⟨CT, zK, Er.xc, _, .inl ⟨_, rfl, rfl⟩, true, Er.k0, refu ho _⟩⟩
 refine ⟨_, SqT.of hta, _, at0, _, SqT.of hta, _, at1, ?_⟩
 rcases hh with ⟨y, rfl, hak⟩ | ⟨hb, ho⟩
 · refine .inl ⟨k, y, rfl, hak.kd, hak.len, fun g hg hok v H4 e4 hat => hN _ _ ?_, fun hno H4 e4 => rais ?_ H4⟩
   · have ho : ov <= 0 := by
       by_cases h : ov <= 0
       · exact h
       · exact absurd hok (hak.no h g hg)
     simp! [spTell]
     rw [if_neg (by omega)]
     have hta4 := e4 _ _ hta
     exact ⟨_, SqT.of hta4, _, at0, _, SqT.of hta4, _, at1, v, y, g, by rw [hg], rfl, rfl, hok, hat, q⟩
   · by_cases h : ov <= 0
     · obtain ⟨g, hg, hok⟩ := hak.yes h
       exact absurd hok (hno g hg)
     · omega
 · exact .inr ⟨k, v, rfl, hb, fun H4 e4 => rais ho H4⟩
end
theorem ln0 {us : List Value} (h : us.length = 0) : us = [] := List.length_eq_zero_iff.mp h
theorem lnS {us : List Value} {n : Nat} (h : us.length = n + 1) : ∃ (u : Value) (r : List Value), us = u :: r /\ r.length = n := by
 cases us with
 | nil => cases h
 | cons u r => exact ⟨u, r, rfl, Nat.succ.inj h⟩
theorem ln1 {us : List Value} (h : us.length = 1) : ∃ a, us = [a] := by
 obtain ⟨a, r, rfl, g⟩ := lnS h
 cases ln0 g
 exact ⟨a, rfl⟩
theorem ln2 {us : List Value} (h : us.length = 2) : ∃ a b, us = [a, b] := by
 obtain ⟨a, r, rfl, g⟩ := lnS h
 obtain ⟨b, rfl⟩ := ln1 g
 exact ⟨a, b, rfl⟩
theorem ln3 {us : List Value} (h : us.length = 3) : ∃ a b c, us = [a, b, c] := by
 obtain ⟨a, r, rfl, g⟩ := lnS h
 obtain ⟨b, c, rfl⟩ := ln2 g
 exact ⟨a, b, c, rfl⟩
theorem ln4 {us : List Value} (h : us.length = 4) : ∃ a b c d, us = [a, b, c, d] := by
 obtain ⟨a, r, rfl, g⟩ := lnS h
 obtain ⟨b, c, d, rfl⟩ := ln3 g
 exact ⟨a, b, c, d, rfl⟩
theorem all_mk {l : PySem.W.OpenLaw} {w : World} {K : PySem.W.Frag} {h : Heap} {mg : Str -> Option Value} {fa : Addr} (X : K.In h) (G : h.Ns mainGlobals mg) (hfa : mg "law" = some (.ref fa))
   {C_Reader : Addr} (aC_Reader : PySem.W.nsIn K mainGlobals "Reader" = some (some (.ref C_Reader)))
   {f_m : Addr} {od_m an_m : Option Addr} {sl_m : Array (Option Value)} {oc_m kV_m dc_m pm_m cd_m ct_m : Value} (a_m : PySem.W.findIn K (.ref C_Reader) "__init__" = some (some (.ref f_m))) (i_m : PySem.W.isFn K (.ref f_m) = true) (l_m : K.lookup f_m = some ⟨oc_m, od_m, .func (PySem.W.fnOf "__init__" "Reader.__init__" (zY s_m) (zW s_m) (zE s_m) .none kV_m dc_m pm_m an_m cd_m ct_m), sl_m⟩) (c_m : PySem.W.codeIn K cd_m "Reader.__init__" = true) (k_m : PySem.W.keepIn K (.ref f_m) = true)
   {f_j : Addr} {od_j an_j : Option Addr} {sl_j : Array (Option Value)} {oc_j kV_j dc_j pm_j cd_j ct_j : Value} (a_j : PySem.W.findIn K (.ref C_Reader) "take" = some (some (.ref f_j))) (i_j : PySem.W.isFn K (.ref f_j) = true) (l_j : K.lookup f_j = some ⟨oc_j, od_j, .func (PySem.W.fnOf "take" "Reader.take" (zY s_j) (zW s_j) (zE s_j) .none kV_j dc_j pm_j an_j cd_j ct_j), sl_j⟩) (c_j : PySem.W.codeIn K cd_j "Reader.take" = true) (k_j : PySem.W.keepIn K (.ref f_j) = true)
   {f_f : Addr} {od_f an_f : Option Addr} {sl_f : Array (Option Value)} {oc_f kV_f dc_f pm_f cd_f ct_f : Value} (a_f : PySem.W.findIn K (.ref C_Reader) "term" = some (some (.ref f_f))) (i_f : PySem.W.isFn K (.ref f_f) = true) (l_f : K.lookup f_f = some ⟨oc_f, od_f, .func (PySem.W.fnOf "term" "Reader.term" (zY s_f) (zW s_f) (zE s_f) .none kV_f dc_f pm_f an_f cd_f ct_f), sl_f⟩) (c_f : PySem.W.codeIn K cd_f "Reader.term" = true) (k_f : PySem.W.keepIn K (.ref f_f) = true)
   {f_c : Addr} {od_c an_c : Option Addr} {sl_c : Array (Option Value)} {oc_c kV_c dc_c pm_c cd_c ct_c : Value} (a_c : PySem.W.findIn K (.ref C_Reader) "bracket" = some (some (.ref f_c))) (i_c : PySem.W.isFn K (.ref f_c) = true) (l_c : K.lookup f_c = some ⟨oc_c, od_c, .func (PySem.W.fnOf "bracket" "Reader.bracket" (zY s_c) (zW s_c) (zE s_c) .none kV_c dc_c pm_c an_c cd_c ct_c), sl_c⟩) (c_c : PySem.W.codeIn K cd_c "Reader.bracket" = true) (k_c : PySem.W.keepIn K (.ref f_c) = true)
   {f_k : Addr} {od_k an_k : Option Addr} {sl_k : Array (Option Value)} {oc_k kV_k dc_k pm_k cd_k ct_k : Value} (a_k : PySem.W.findIn K (.ref C_Reader) "leaf" = some (some (.ref f_k))) (i_k : PySem.W.isFn K (.ref f_k) = true) (l_k : K.lookup f_k = some ⟨oc_k, od_k, .func (PySem.W.fnOf "leaf" "Reader.leaf" (zY s_k) (zW s_k) (zE s_k) .none kV_k dc_k pm_k an_k cd_k ct_k), sl_k⟩) (c_k : PySem.W.codeIn K cd_k "Reader.leaf" = true) (k_k : PySem.W.keepIn K (.ref f_k) = true)
   (pg_Reader : PySem.W.plainGet K C_Reader Str.empty = true) (hd_Reader : PySem.W.hasDictIn K C_Reader = true) (po_Reader : PySem.W.plainOver K C_Reader = true) (sa_Reader : PySem.W.findIn K (.ref C_Reader) "__setattr__" = some (some (.builtin "object.__setattr__"))) (mk_Reader : PySem.W.makesIn K C_Reader = true) (kc_Reader : PySem.W.keepIn K (.ref C_Reader) = true) (n_Reader_text : PySem.W.findIn K (.ref C_Reader) "text" = some none) (n_Reader_at : PySem.W.findIn K (.ref C_Reader) "at" = some none)
   {f_A : Addr} {od_A an_A : Option Addr} {sl_A : Array (Option Value)} {oc_A kV_A dc_A pm_A cd_A ct_A : Value} (a_A : PySem.W.nsIn K mainGlobals "is_name" = some (some (.ref f_A))) (l_A : K.lookup f_A = some ⟨oc_A, od_A, .func (PySem.W.fnOf "is_name" "is_name" (zY s_A) (zW s_A) (zE s_A) .none kV_A dc_A pm_A an_A cd_A ct_A), sl_A⟩) (c_A : PySem.W.codeIn K cd_A "is_name" = true) (k_A : PySem.W.keepIn K (.ref f_A) = true)
   {f_y : Addr} {od_y an_y : Option Addr} {sl_y : Array (Option Value)} {oc_y kV_y dc_y pm_y cd_y ct_y : Value} (a_y : PySem.W.nsIn K mainGlobals "parts_of" = some (some (.ref f_y))) (l_y : K.lookup f_y = some ⟨oc_y, od_y, .func (PySem.W.fnOf "parts_of" "parts_of" (zY s_y) (zW s_y) (zE s_y) .none kV_y dc_y pm_y an_y cd_y ct_y), sl_y⟩) (c_y : PySem.W.codeIn K cd_y "parts_of" = true) (k_y : PySem.W.keepIn K (.ref f_y) = true)
   {f_B : Addr} {od_B an_B : Option Addr} {sl_B : Array (Option Value)} {oc_B kV_B dc_B pm_B cd_B ct_B : Value} (a_B : PySem.W.nsIn K mainGlobals "leaves" = some (some (.ref f_B))) (l_B : K.lookup f_B = some ⟨oc_B, od_B, .func (PySem.W.fnOf "leaves" "leaves" (zY s_B) (zW s_B) (zE s_B) .none kV_B dc_B pm_B an_B cd_B ct_B), sl_B⟩) (c_B : PySem.W.codeIn K cd_B "leaves" = true) (k_B : PySem.W.keepIn K (.ref f_B) = true)
   {f_C : Addr} {od_C an_C : Option Addr} {sl_C : Array (Option Value)} {oc_C kV_C dc_C pm_C cd_C ct_C : Value} (a_C : PySem.W.nsIn K mainGlobals "need" = some (some (.ref f_C))) (l_C : K.lookup f_C = some ⟨oc_C, od_C, .func (PySem.W.fnOf "need" "need" (zY s_C) (zW s_C) (zE s_C) .none kV_C dc_C pm_C an_C cd_C ct_C), sl_C⟩) (c_C : PySem.W.codeIn K cd_C "need" = true) (k_C : PySem.W.keepIn K (.ref f_C) = true)
   {f_D : Addr} {od_D an_D : Option Addr} {sl_D : Array (Option Value)} {oc_D kV_D dc_D pm_D cd_D ct_D : Value} (a_D : PySem.W.nsIn K mainGlobals "read" = some (some (.ref f_D))) (l_D : K.lookup f_D = some ⟨oc_D, od_D, .func (PySem.W.fnOf "read" "read" (zY s_D) (zW s_D) (zE s_D) .none kV_D dc_D pm_D an_D cd_D ct_D), sl_D⟩) (c_D : PySem.W.codeIn K cd_D "read" = true) (k_D : PySem.W.keepIn K (.ref f_D) = true)
   {f_e : Addr} {od_e an_e : Option Addr} {sl_e : Array (Option Value)} {oc_e kV_e dc_e pm_e cd_e ct_e : Value} (a_e : PySem.W.nsIn K mainGlobals "read_saying" = some (some (.ref f_e))) (l_e : K.lookup f_e = some ⟨oc_e, od_e, .func (PySem.W.fnOf "read_saying" "read_saying" (zY s_e) (zW s_e) (zE s_e) .none kV_e dc_e pm_e an_e cd_e ct_e), sl_e⟩) (c_e : PySem.W.codeIn K cd_e "read_saying" = true) (k_e : PySem.W.keepIn K (.ref f_e) = true)
   {f_r : Addr} {od_r an_r : Option Addr} {sl_r : Array (Option Value)} {oc_r kV_r dc_r pm_r cd_r ct_r : Value} (a_r : PySem.W.nsIn K mainGlobals "read_rule" = some (some (.ref f_r))) (l_r : K.lookup f_r = some ⟨oc_r, od_r, .func (PySem.W.fnOf "read_rule" "read_rule" (zY s_r) (zW s_r) (zE s_r) .none kV_r dc_r pm_r an_r cd_r ct_r), sl_r⟩) (c_r : PySem.W.codeIn K cd_r "read_rule" = true) (k_r : PySem.W.keepIn K (.ref f_r) = true)
   {f_o : Addr} {od_o an_o : Option Addr} {sl_o : Array (Option Value)} {oc_o kV_o dc_o pm_o cd_o ct_o : Value} (a_o : PySem.W.nsIn K mainGlobals "_law_cell_at" = some (some (.ref f_o))) (l_o : K.lookup f_o = some ⟨oc_o, od_o, .func (PySem.W.fnOf "_law_cell_at" "_law_cell_at" (zY s_o) (zW s_o) (zE s_o) .none kV_o dc_o pm_o an_o cd_o ct_o), sl_o⟩) (c_o : PySem.W.codeIn K cd_o "_law_cell_at" = true) (k_o : PySem.W.keepIn K (.ref f_o) = true)
   {f_i : Addr} {od_i an_i : Option Addr} {sl_i : Array (Option Value)} {oc_i kV_i dc_i pm_i cd_i ct_i : Value} (a_i : PySem.W.nsIn K mainGlobals "_law_written" = some (some (.ref f_i))) (l_i : K.lookup f_i = some ⟨oc_i, od_i, .func (PySem.W.fnOf "_law_written" "_law_written" (zY s_i) (zW s_i) (zE s_i) .none kV_i dc_i pm_i an_i cd_i ct_i), sl_i⟩) (c_i : PySem.W.codeIn K cd_i "_law_written" = true) (k_i : PySem.W.keepIn K (.ref f_i) = true)
   {f_a : Addr} {od_a an_a : Option Addr} {sl_a : Array (Option Value)} {oc_a kV_a dc_a pm_a cd_a ct_a : Value} (a_a : PySem.W.nsIn K mainGlobals "_law_written_saying" = some (some (.ref f_a))) (l_a : K.lookup f_a = some ⟨oc_a, od_a, .func (PySem.W.fnOf "_law_written_saying" "_law_written_saying" (zY s_a) (zW s_a) (zE s_a) .none kV_a dc_a pm_a an_a cd_a ct_a), sl_a⟩) (c_a : PySem.W.codeIn K cd_a "_law_written_saying" = true) (k_a : PySem.W.keepIn K (.ref f_a) = true)
   {f_b : Addr} {od_b an_b : Option Addr} {sl_b : Array (Option Value)} {oc_b kV_b dc_b pm_b cd_b ct_b : Value} (a_b : PySem.W.nsIn K mainGlobals "_law_written_rule" = some (some (.ref f_b))) (l_b : K.lookup f_b = some ⟨oc_b, od_b, .func (PySem.W.fnOf "_law_written_rule" "_law_written_rule" (zY s_b) (zW s_b) (zE s_b) .none kV_b dc_b pm_b an_b cd_b ct_b), sl_b⟩) (c_b : PySem.W.codeIn K cd_b "_law_written_rule" = true) (k_b : PySem.W.keepIn K (.ref f_b) = true)
   {f_p : Addr} {od_p an_p : Option Addr} {sl_p : Array (Option Value)} {oc_p kV_p dc_p pm_p cd_p ct_p : Value} (a_p : PySem.W.nsIn K mainGlobals "_law_is_name" = some (some (.ref f_p))) (l_p : K.lookup f_p = some ⟨oc_p, od_p, .func (PySem.W.fnOf "_law_is_name" "_law_is_name" (zY s_p) (zW s_p) (zE s_p) .none kV_p dc_p pm_p an_p cd_p ct_p), sl_p⟩) (c_p : PySem.W.codeIn K cd_p "_law_is_name" = true) (k_p : PySem.W.keepIn K (.ref f_p) = true)
   {f_n : Addr} {od_n an_n : Option Addr} {sl_n : Array (Option Value)} {oc_n kV_n dc_n pm_n cd_n ct_n : Value} (a_n : PySem.W.nsIn K mainGlobals "_law_is_term" = some (some (.ref f_n))) (l_n : K.lookup f_n = some ⟨oc_n, od_n, .func (PySem.W.fnOf "_law_is_term" "_law_is_term" (zY s_n) (zW s_n) (zE s_n) .none kV_n dc_n pm_n an_n cd_n ct_n), sl_n⟩) (c_n : PySem.W.codeIn K cd_n "_law_is_term" = true) (k_n : PySem.W.keepIn K (.ref f_n) = true)
   {f_h : Addr} {od_h an_h : Option Addr} {sl_h : Array (Option Value)} {oc_h kV_h dc_h pm_h cd_h ct_h : Value} (a_h : PySem.W.nsIn K mainGlobals "_law_is_saying" = some (some (.ref f_h))) (l_h : K.lookup f_h = some ⟨oc_h, od_h, .func (PySem.W.fnOf "_law_is_saying" "_law_is_saying" (zY s_h) (zW s_h) (zE s_h) .none kV_h dc_h pm_h an_h cd_h ct_h), sl_h⟩) (c_h : PySem.W.codeIn K cd_h "_law_is_saying" = true) (k_h : PySem.W.keepIn K (.ref f_h) = true)
   {f_q : Addr} {od_q an_q : Option Addr} {sl_q : Array (Option Value)} {oc_q kV_q dc_q pm_q cd_q ct_q : Value} (a_q : PySem.W.nsIn K mainGlobals "_law_is_rule" = some (some (.ref f_q))) (l_q : K.lookup f_q = some ⟨oc_q, od_q, .func (PySem.W.fnOf "_law_is_rule" "_law_is_rule" (zY s_q) (zW s_q) (zE s_q) .none kV_q dc_q pm_q an_q cd_q ct_q), sl_q⟩) (c_q : PySem.W.codeIn K cd_q "_law_is_rule" = true) (k_q : PySem.W.keepIn K (.ref f_q) = true)
   {f_g : Addr} {od_g an_g : Option Addr} {sl_g : Array (Option Value)} {oc_g kV_g dc_g pm_g cd_g ct_g : Value} (a_g : PySem.W.nsIn K mainGlobals "_law_long_name" = some (some (.ref f_g))) (l_g : K.lookup f_g = some ⟨oc_g, od_g, .func (PySem.W.fnOf "_law_long_name" "_law_long_name" (zY s_g) (zW s_g) (zE s_g) .none kV_g dc_g pm_g an_g cd_g ct_g), sl_g⟩) (c_g : PySem.W.codeIn K cd_g "_law_long_name" = true) (k_g : PySem.W.keepIn K (.ref f_g) = true)
   {f_z : Addr} {od_z an_z : Option Addr} {sl_z : Array (Option Value)} {oc_z kV_z dc_z pm_z cd_z ct_z : Value} (a_z : PySem.W.nsIn K mainGlobals "_law_row" = some (some (.ref f_z))) (l_z : K.lookup f_z = some ⟨oc_z, od_z, .func (PySem.W.fnOf "_law_row" "_law_row" (zY s_z) (zW s_z) (zE s_z) .none kV_z dc_z pm_z an_z cd_z ct_z), sl_z⟩) (c_z : PySem.W.codeIn K cd_z "_law_row" = true) (k_z : PySem.W.keepIn K (.ref f_z) = true)
   {f_v : Addr} {od_v an_v : Option Addr} {sl_v : Array (Option Value)} {oc_v kV_v dc_v pm_v cd_v ct_v : Value} (a_v : PySem.W.nsIn K mainGlobals "_law_deep" = some (some (.ref f_v))) (l_v : K.lookup f_v = some ⟨oc_v, od_v, .func (PySem.W.fnOf "_law_deep" "_law_deep" (zY s_v) (zW s_v) (zE s_v) .none kV_v dc_v pm_v an_v cd_v ct_v), sl_v⟩) (c_v : PySem.W.codeIn K cd_v "_law_deep" = true) (k_v : PySem.W.keepIn K (.ref f_v) = true)
   {f_w : Addr} {od_w an_w : Option Addr} {sl_w : Array (Option Value)} {oc_w kV_w dc_w pm_w cd_w ct_w : Value} (a_w : PySem.W.nsIn K mainGlobals "_law_many" = some (some (.ref f_w))) (l_w : K.lookup f_w = some ⟨oc_w, od_w, .func (PySem.W.fnOf "_law_many" "_law_many" (zY s_w) (zW s_w) (zE s_w) .none kV_w dc_w pm_w an_w cd_w ct_w), sl_w⟩) (c_w : PySem.W.codeIn K cd_w "_law_many" = true) (k_w : PySem.W.keepIn K (.ref f_w) = true)
   {f_l : Addr} {od_l an_l : Option Addr} {sl_l : Array (Option Value)} {oc_l kV_l dc_l pm_l cd_l ct_l : Value} (a_l : PySem.W.nsIn K mainGlobals "_law_premises" = some (some (.ref f_l))) (l_l : K.lookup f_l = some ⟨oc_l, od_l, .func (PySem.W.fnOf "_law_premises" "_law_premises" (zY s_l) (zW s_l) (zE s_l) .none kV_l dc_l pm_l an_l cd_l ct_l), sl_l⟩) (c_l : PySem.W.codeIn K cd_l "_law_premises" = true) (k_l : PySem.W.keepIn K (.ref f_l) = true)
   {f_d : Addr} {od_d an_d : Option Addr} {sl_d : Array (Option Value)} {oc_d kV_d dc_d pm_d cd_d ct_d : Value} (a_d : PySem.W.nsIn K mainGlobals "_law_great_rule" = some (some (.ref f_d))) (l_d : K.lookup f_d = some ⟨oc_d, od_d, .func (PySem.W.fnOf "_law_great_rule" "_law_great_rule" (zY s_d) (zW s_d) (zE s_d) .none kV_d dc_d pm_d an_d cd_d ct_d), sl_d⟩) (c_d : PySem.W.codeIn K cd_d "_law_great_rule" = true) (k_d : PySem.W.keepIn K (.ref f_d) = true)
   {f_t : Addr} {od_t an_t : Option Addr} {sl_t : Array (Option Value)} {oc_t kV_t dc_t pm_t cd_t ct_t : Value} (a_t : PySem.W.nsIn K mainGlobals "_law_asked" = some (some (.ref f_t))) (l_t : K.lookup f_t = some ⟨oc_t, od_t, .func (PySem.W.fnOf "_law_asked" "_law_asked" (zY s_t) (zW s_t) (zE s_t) .none kV_t dc_t pm_t an_t cd_t ct_t), sl_t⟩) (c_t : PySem.W.codeIn K cd_t "_law_asked" = true) (k_t : PySem.W.keepIn K (.ref f_t) = true)
   {f_u : Addr} {od_u an_u : Option Addr} {sl_u : Array (Option Value)} {oc_u kV_u dc_u pm_u cd_u ct_u : Value} (a_u : PySem.W.nsIn K mainGlobals "_law_tells" = some (some (.ref f_u))) (l_u : K.lookup f_u = some ⟨oc_u, od_u, .func (PySem.W.fnOf "_law_tells" "_law_tells" (zY s_u) (zW s_u) (zE s_u) .none kV_u dc_u pm_u an_u cd_u ct_u), sl_u⟩) (c_u : PySem.W.codeIn K cd_u "_law_tells" = true) (k_u : PySem.W.keepIn K (.ref f_u) = true)
   {f_s : Addr} {od_s an_s : Option Addr} {sl_s : Array (Option Value)} {oc_s kV_s dc_s pm_s cd_s ct_s : Value} (a_s : PySem.W.nsIn K mainGlobals "_law_within" = some (some (.ref f_s))) (l_s : K.lookup f_s = some ⟨oc_s, od_s, .func (PySem.W.fnOf "_law_within" "_law_within" (zY s_s) (zW s_s) (zE s_s) .none kV_s dc_s pm_s an_s cd_s ct_s), sl_s⟩) (c_s : PySem.W.codeIn K cd_s "_law_within" = true) (k_s : PySem.W.keepIn K (.ref f_s) = true)
   {f_x : Addr} {od_x an_x : Option Addr} {sl_x : Array (Option Value)} {oc_x kV_x dc_x pm_x cd_x ct_x : Value} (a_x : PySem.W.nsIn K mainGlobals "_law_case" = some (some (.ref f_x))) (l_x : K.lookup f_x = some ⟨oc_x, od_x, .func (PySem.W.fnOf "_law_case" "_law_case" (zY s_x) (zW s_x) (zE s_x) .none kV_x dc_x pm_x an_x cd_x ct_x), sl_x⟩) (c_x : PySem.W.codeIn K cd_x "_law_case" = true) (k_x : PySem.W.keepIn K (.ref f_x) = true)
   {f_E : Addr} {od_E an_E : Option Addr} {sl_E : Array (Option Value)} {oc_E kV_E dc_E pm_E cd_E ct_E : Value} (a_E : PySem.W.nsIn K mainGlobals "law" = some (some (.ref f_E))) (l_E : K.lookup f_E = some ⟨oc_E, od_E, .func (PySem.W.fnOf "law" "law" (zY s_E) (zW s_E) (zE s_E) .none kV_E dc_E pm_E an_E cd_E ct_E), sl_E⟩) (c_E : PySem.W.codeIn K cd_E "law" = true) (k_E : PySem.W.keepIn K (.ref f_E) = true)
   {t_LETTERS : Tok} (g_LETTERS : PySem.W.nsIn K mainGlobals "LETTERS" = some (some (.str "abcdefghijklmnopqrstuvwxyz" t_LETTERS)))
   {t_LONGEST : Tok} (g_LONGEST_NAME : PySem.W.nsIn K mainGlobals "LONGEST_NAME" = some (some (.int 8 t_LONGEST)))
   {a_WORDS : Addr} {d_WORDS : Option Addr} {n_WORDS : Nat} {sl_WORDS : Array (Option Value)} {t_W1 t_W2 : Tok} (g_WORDS : PySem.W.nsIn K mainGlobals "WORDS" = some (some (.ref a_WORDS))) (o_WORDS : K.lookup a_WORDS = some ⟨.type "tuple", d_WORDS, .seq #[.str "none" t_W1, .str "all" t_W2] n_WORDS, sl_WORDS⟩)
   {a_JOINTS : Addr} {es_JOINTS : Array DictEntry} {ep_JOINTS : Nat} (g_JOINTS : PySem.W.nsIn K mainGlobals "JOINTS" = some (some (.ref a_JOINTS))) (o_JOINTS : K.lookup a_JOINTS = some ⟨.type "dict", none, .dict es_JOINTS ep_JOINTS, #[]⟩) (e_JOINTS : entOk w es_JOINTS.toList [("both", " & "), ("either", " | ")])
   {t_UNDER : Tok} (g_UNDER : PySem.W.nsIn K mainGlobals "UNDER" = some (some (.str " < " t_UNDER)))
   {t_COMMA : Tok} (g_COMMA : PySem.W.nsIn K mainGlobals "COMMA" = some (some (.str ", " t_COMMA)))
   {t_ARROW : Tok} (g_ARROW : PySem.W.nsIn K mainGlobals "ARROW" = some (some (.str " => " t_ARROW)))
   {t_MOST_SIGNS_OF_TERM : Tok} (g_MOST_SIGNS_OF_TERM : PySem.W.nsIn K mainGlobals "MOST_SIGNS_OF_TERM" = some (some (.int 400 t_MOST_SIGNS_OF_TERM)))
   {t_MOST_SIGNS_OF_RULE : Tok} (g_MOST_SIGNS_OF_RULE : PySem.W.nsIn K mainGlobals "MOST_SIGNS_OF_RULE" = some (some (.int 3000 t_MOST_SIGNS_OF_RULE)))
   {t_MOST_DEEP : Tok} (g_MOST_DEEP : PySem.W.nsIn K mainGlobals "MOST_DEEP" = some (some (.int 20 t_MOST_DEEP)))
   {t_MOST_LEAVES : Tok} (g_MOST_LEAVES : PySem.W.nsIn K mainGlobals "MOST_LEAVES" = some (some (.int 60 t_MOST_LEAVES)))
   {t_MOST_PREMISES : Tok} (g_MOST_PREMISES : PySem.W.nsIn K mainGlobals "MOST_PREMISES" = some (some (.int 5 t_MOST_PREMISES)))
   {C_ClashError : Addr} (a_ClashError : PySem.W.nsIn K mainGlobals "ClashError" = some (some (.ref C_ClashError)))
   {C_NoText : Addr} (a_NoText : PySem.W.nsIn K mainGlobals "NoText" = some (some (.ref C_NoText)))
    (ei_NoText : PySem.W.excIn K C_NoText [.type "ValueError", .type "Exception", .type "BaseException", .type "object"] "ValueError.__new__" = true) (x1_NoText : (PySem.W.clsIn K C_NoText).isSome = true) (x2_NoText : PySem.W.findIn K (.ref C_NoText) "__getattribute__" = some (some (.builtin "BaseException.__getattribute__"))) (x3_NoText : PySem.W.findIn K (.ref C_NoText) "__getattr__" = some none) (x4_NoText : PySem.W.findIn K (.ref C_NoText) "__class__" = some (some (.builtin "object.__class__"))) (x5_NoText : PySem.W.specialIn K (.builtin "object.__class__") "__get__" = some (some (.builtin "getset_descriptor.__get__"))) (x6_NoText : PySem.W.takesIn K (.builtin "object.__class__") = some true) (x7_NoText : PySem.W.mroIn K C_NoText (.type "object") = some true) (x8_NoText : PySem.W.mroIn K C_NoText (.type "BaseException") = some true) (xb_NoText : wR K C_ClashError (.type "BaseException") = some true) (xt_NoText : wR K C_NoText (.ref C_ClashError) = some true) (kv_NoText : PySem.W.kitOne K (.ref C_NoText) (.type "ValueError") = some true)
    (ko_NoText_NoText : PySem.W.kitOne K (.ref C_NoText) (.ref C_NoText) = some true)
   (z_all : PySem.W.nsIn K mainGlobals "all" = some none)
   (z_bool : PySem.W.nsIn K mainGlobals "bool" = some none)
   (z_dict : PySem.W.nsIn K mainGlobals "dict" = some none)
   (z_int : PySem.W.nsIn K mainGlobals "int" = some none)
   (z_isinstance : PySem.W.nsIn K mainGlobals "isinstance" = some none)
   (z_len : PySem.W.nsIn K mainGlobals "len" = some none)
   (z_list : PySem.W.nsIn K mainGlobals "list" = some none)
   (z_max : PySem.W.nsIn K mainGlobals "max" = some none)
   (z_range : PySem.W.nsIn K mainGlobals "range" = some none)
   (z_set : PySem.W.nsIn K mainGlobals "set" = some none)
   (z_sorted : PySem.W.nsIn K mainGlobals "sorted" = some none)
   (z_str : PySem.W.nsIn K mainGlobals "str" = some none)
   (z_sum : PySem.W.nsIn K mainGlobals "sum" = some none)
   (z_tuple : PySem.W.nsIn K mainGlobals "tuple" = some none) :
   ∃ fd : FuncData, (∀ (s : Shared) (v : Value), BindsTo s fd ⟨[v], []⟩ [("script", v)]) /\ ∀ base : Heap, K.In base -> base.Ns mainGlobals mg -> FnOk l.prog w K mg base CX0 65 fa fd ["script"] (spLaw K) := by
 have e := hfa.symm.trans (PySem.W.mg_of X G a_E)
 cases e
 have cl_Reader : Cls K C_Reader := ⟨pg_Reader, hd_Reader, po_Reader, sa_Reader⟩
 have mC_Reader := PySem.W.mg_of X G aC_Reader
 have F_m := yJ (st := s_m) l_m c_m k_m
 have b_m := F_m.binds (ps := ["self", "text"]) fun _ _ _ _ _ _ us hl => by obtain ⟨u0, u1, rfl⟩ := ln2 hl; rfl
 have t_m : Meth K C_Reader "__init__" f_m := ⟨a_m, i_m, k_m⟩
 have F_j := yJ (st := s_j) l_j c_j k_j
 have b_j := F_j.binds (ps := ["self", "signs"]) fun _ _ _ _ _ _ us hl => by obtain ⟨u0, u1, rfl⟩ := ln2 hl; rfl
 have t_j : Meth K C_Reader "take" f_j := ⟨a_j, i_j, k_j⟩
 have F_f := yJ (st := s_f) l_f c_f k_f
 have b_f := F_f.binds (ps := ["self", "room"]) fun _ _ _ _ _ _ us hl => by obtain ⟨u0, u1, rfl⟩ := ln2 hl; rfl
 have t_f : Meth K C_Reader "term" f_f := ⟨a_f, i_f, k_f⟩
 have F_c := yJ (st := s_c) l_c c_c k_c
 have b_c := F_c.binds (ps := ["self", "room"]) fun _ _ _ _ _ _ us hl => by obtain ⟨u0, u1, rfl⟩ := ln2 hl; rfl
 have t_c : Meth K C_Reader "bracket" f_c := ⟨a_c, i_c, k_c⟩
 have F_k := yJ (st := s_k) l_k c_k k_k
 have b_k := F_k.binds (ps := ["self"]) fun _ _ _ _ _ _ us hl => by obtain ⟨u0, rfl⟩ := ln1 hl; rfl
 have t_k : Meth K C_Reader "leaf" f_k := ⟨a_k, i_k, k_k⟩
 have F_A := yJ (st := s_A) l_A c_A k_A
 have b_A := F_A.binds (ps := ["text"]) fun _ _ _ _ _ _ us hl => by obtain ⟨u0, rfl⟩ := ln1 hl; rfl
 have m_A := PySem.W.mg_of X G a_A
 have F_y := yJ (st := s_y) l_y c_y k_y
 have b_y := F_y.binds (ps := ["t"]) fun _ _ _ _ _ _ us hl => by obtain ⟨u0, rfl⟩ := ln1 hl; rfl
 have m_y := PySem.W.mg_of X G a_y
 have F_B := yJ (st := s_B) l_B c_B k_B
 have b_B := F_B.binds (ps := ["t"]) fun _ _ _ _ _ _ us hl => by obtain ⟨u0, rfl⟩ := ln1 hl; rfl
 have m_B := PySem.W.mg_of X G a_B
 have F_C := yJ (st := s_C) l_C c_C k_C
 have b_C := F_C.binds (ps := ["held", "words"]) fun _ _ _ _ _ _ us hl => by obtain ⟨u0, u1, rfl⟩ := ln2 hl; rfl
 have m_C := PySem.W.mg_of X G a_C
 have F_D := yJ (st := s_D) l_D c_D k_D
 have b_D := F_D.binds (ps := ["text"]) fun _ _ _ _ _ _ us hl => by obtain ⟨u0, rfl⟩ := ln1 hl; rfl
 have m_D := PySem.W.mg_of X G a_D
 have F_e := yJ (st := s_e) l_e c_e k_e
 have b_e := F_e.binds (ps := ["text"]) fun _ _ _ _ _ _ us hl => by obtain ⟨u0, rfl⟩ := ln1 hl; rfl
 have m_e := PySem.W.mg_of X G a_e
 have F_r := yJ (st := s_r) l_r c_r k_r
 have b_r := F_r.binds (ps := ["text"]) fun _ _ _ _ _ _ us hl => by obtain ⟨u0, rfl⟩ := ln1 hl; rfl
 have m_r := PySem.W.mg_of X G a_r
 have F_o := yJ (st := s_o) l_o c_o k_o
 have b_o := F_o.binds (ps := ["script", "k"]) fun _ _ _ _ _ _ us hl => by obtain ⟨u0, u1, rfl⟩ := ln2 hl; rfl
 have m_o := PySem.W.mg_of X G a_o
 have F_i := yJ (st := s_i) l_i c_i k_i
 have b_i := F_i.binds (ps := ["t"]) fun _ _ _ _ _ _ us hl => by obtain ⟨u0, rfl⟩ := ln1 hl; rfl
 have m_i := PySem.W.mg_of X G a_i
 have F_a := yJ (st := s_a) l_a c_a k_a
 have b_a := F_a.binds (ps := ["saying"]) fun _ _ _ _ _ _ us hl => by obtain ⟨u0, rfl⟩ := ln1 hl; rfl
 have m_a := PySem.W.mg_of X G a_a
 have F_b := yJ (st := s_b) l_b c_b k_b
 have b_b := F_b.binds (ps := ["rule"]) fun _ _ _ _ _ _ us hl => by obtain ⟨u0, rfl⟩ := ln1 hl; rfl
 have m_b := PySem.W.mg_of X G a_b
 have F_p := yJ (st := s_p) l_p c_p k_p
 have b_p := F_p.binds (ps := ["word"]) fun _ _ _ _ _ _ us hl => by obtain ⟨u0, rfl⟩ := ln1 hl; rfl
 have m_p := PySem.W.mg_of X G a_p
 have F_n := yJ (st := s_n) l_n c_n k_n
 have b_n := F_n.binds (ps := ["t", "room"]) fun _ _ _ _ _ _ us hl => by obtain ⟨u0, u1, rfl⟩ := ln2 hl; rfl
 have m_n := PySem.W.mg_of X G a_n
 have F_h := yJ (st := s_h) l_h c_h k_h
 have b_h := F_h.binds (ps := ["found"]) fun _ _ _ _ _ _ us hl => by obtain ⟨u0, rfl⟩ := ln1 hl; rfl
 have m_h := PySem.W.mg_of X G a_h
 have F_q := yJ (st := s_q) l_q c_q k_q
 have b_q := F_q.binds (ps := ["found"]) fun _ _ _ _ _ _ us hl => by obtain ⟨u0, rfl⟩ := ln1 hl; rfl
 have m_q := PySem.W.mg_of X G a_q
 have F_g := yJ (st := s_g) l_g c_g k_g
 have b_g := F_g.binds (ps := ["cell", "turn"]) fun _ _ _ _ _ _ us hl => by obtain ⟨u0, u1, rfl⟩ := ln2 hl; rfl
 have m_g := PySem.W.mg_of X G a_g
 have F_z := yJ (st := s_z) l_z c_z k_z
 have b_z := F_z.binds (ps := ["cell", "many", "mark"]) fun _ _ _ _ _ _ us hl => by obtain ⟨u0, u1, u2, rfl⟩ := ln3 hl; rfl
 have m_z := PySem.W.mg_of X G a_z
 have F_v := yJ (st := s_v) l_v c_v k_v
 have b_v := F_v.binds (ps := ["cell", "name", "over"]) fun _ _ _ _ _ _ us hl => by obtain ⟨u0, u1, u2, rfl⟩ := ln3 hl; rfl
 have m_v := PySem.W.mg_of X G a_v
 have F_w := yJ (st := s_w) l_w c_w k_w
 have b_w := F_w.binds (ps := ["name", "many", "mark"]) fun _ _ _ _ _ _ us hl => by obtain ⟨u0, u1, u2, rfl⟩ := ln3 hl; rfl
 have m_w := PySem.W.mg_of X G a_w
 have F_l := yJ (st := s_l) l_l c_l k_l
 have b_l := F_l.binds (ps := ["cell", "name", "many"]) fun _ _ _ _ _ _ us hl => by obtain ⟨u0, u1, u2, rfl⟩ := ln3 hl; rfl
 have m_l := PySem.W.mg_of X G a_l
 have F_d := yJ (st := s_d) l_d c_d k_d
 have b_d := F_d.binds (ps := ["cell", "over"]) fun _ _ _ _ _ _ us hl => by obtain ⟨u0, u1, rfl⟩ := ln2 hl; rfl
 have m_d := PySem.W.mg_of X G a_d
 have F_t := yJ (st := s_t) l_t c_t k_t
 have b_t := F_t.binds (ps := ["kind", "text"]) fun _ _ _ _ _ _ us hl => by obtain ⟨u0, u1, rfl⟩ := ln2 hl; rfl
 have m_t := PySem.W.mg_of X G a_t
 have F_u := yJ (st := s_u) l_u c_u k_u
 have b_u := F_u.binds (ps := ["kind", "found", "text"]) fun _ _ _ _ _ _ us hl => by obtain ⟨u0, u1, u2, rfl⟩ := ln3 hl; rfl
 have m_u := PySem.W.mg_of X G a_u
 have F_s := yJ (st := s_s) l_s c_s k_s
 have b_s := F_s.binds (ps := ["text", "cell", "name"]) fun _ _ _ _ _ _ us hl => by obtain ⟨u0, u1, u2, rfl⟩ := ln3 hl; rfl
 have m_s := PySem.W.mg_of X G a_s
 have F_x := yJ (st := s_x) l_x c_x k_x
 have b_x := F_x.binds (ps := ["way", "cell", "name", "over"]) fun _ _ _ _ _ _ us hl => by obtain ⟨u0, u1, u2, u3, rfl⟩ := ln4 hl; rfl
 have m_x := PySem.W.mg_of X G a_x
 have F_E := yJ (st := s_E) l_E c_E k_E
 have b_E := F_E.binds (ps := ["script"]) fun _ _ _ _ _ _ us hl => by obtain ⟨u0, rfl⟩ := ln1 hl; rfl
 have m_E := PySem.W.mg_of X G a_E
 have bi : Bi mg := ⟨PySem.W.mg_none_of X G z_len, PySem.W.mg_none_of X G z_range, PySem.W.mg_none_of X G z_isinstance, PySem.W.mg_none_of X G z_max, PySem.W.mg_none_of X G z_sum, PySem.W.mg_none_of X G z_all, PySem.W.mg_none_of X G z_tuple, PySem.W.mg_none_of X G z_list, PySem.W.mg_none_of X G z_sorted, PySem.W.mg_none_of X G z_set, PySem.W.mg_none_of X G z_int, PySem.W.mg_none_of X G z_bool, PySem.W.mg_none_of X G z_str, PySem.W.mg_none_of X G z_dict⟩
 refine ⟨PySem.W.fnOf "law" "law" (zY s_E) (zW s_E) (zE s_E) .none kV_E dc_E pm_E an_E cd_E ct_E, fun s v => .of_eq rfl, fun base Xb Gb => ?_⟩
 have m_NoText := PySem.W.mg_of X G a_NoText
 have Er : Errs K mg C_ClashError C_NoText := ⟨PySem.W.mg_of X G a_ClashError, xb_NoText, xt_NoText, ⟨x1_NoText, x2_NoText, x3_NoText, x4_NoText, x5_NoText, x6_NoText, x7_NoText, x8_NoText⟩, ⟨_, m_NoText, rfl⟩, ko_NoText_NoText⟩
 have O_NoText := own_mk (x := "NoText") (mg := mg) Xb m_NoText ei_NoText
 have kd : KD w K a_JOINTS jKV := KD.of (r := [("both", " & "), ("either", " | ")]) o_JOINTS e_JOINTS (by decide +kernel)
 have sW : ∀ H, SqT K H a_WORDS [.str "none", .str "all"] := fun H => .inr ⟨_, _, _, o_WORDS, rfl, rfl, (by show 2 <= sizeLine; decide), .cons ⟨_, rfl⟩ (.cons ⟨_, rfl⟩ .nil)⟩
 have gW : Gc mg "WORDS" (.ref a_WORDS) := ⟨_, PySem.W.mg_of X G g_WORDS, rfl⟩
 have gJ : Gc mg "JOINTS" (.ref a_JOINTS) := ⟨_, PySem.W.mg_of X G g_JOINTS, rfl⟩
 have gL : Gc mg "LETTERS" (.str "abcdefghijklmnopqrstuvwxyz") := ⟨_, PySem.W.mg_of X G g_LETTERS, ⟨_, rfl⟩⟩
 have gU : Gc mg "UNDER" (.str " < ") := ⟨_, PySem.W.mg_of X G g_UNDER, ⟨_, rfl⟩⟩
 have gC : Gc mg "COMMA" (.str ", ") := ⟨_, PySem.W.mg_of X G g_COMMA, ⟨_, rfl⟩⟩
 have gA : Gc mg "ARROW" (.str " => ") := ⟨_, PySem.W.mg_of X G g_ARROW, ⟨_, rfl⟩⟩
 have T : RdC K C_Reader := ⟨cl_Reader, n_Reader_text, n_Reader_at⟩
 have r1 := xZ F_C (ok_need (P := l.prog) (w := w) O_NoText PySem.F.excBase_ValueError m_NoText F_C) b_C m_C
 have r2 := yT F_A (ok_is_name (P := l.prog) (w := w) (base := base) bi gL ⟨_, PySem.W.mg_of X G g_LONGEST_NAME, ⟨_, rfl⟩⟩ gW sW F_A) b_A m_A
 have r3 := yT F_y (ok_parts_of (P := l.prog) (w := w) (base := base) bi F_y) b_y m_y
 have r4 := yT F_B (ok_leaves bi r3 F_B b_B m_B 22) b_B m_B
 have r5 : HasI l.prog w K mg base 1 C_Reader "Reader" ["self", "text"] (qR C_Reader) := ⟨_, _, ok_rinit T F_m, b_m, ⟨mk_Reader, a_m, i_m, kc_Reader⟩, mC_Reader⟩
 have r6 : HasM l.prog w K mg base 1 C_Reader "take" ["self", "signs"] (jB C_Reader) := ⟨_, _, ok_take bi T F_j, b_j, t_j⟩
 have r7 : HasMX l.prog w K mg base 2 C_Reader "leaf" ["self"] (qG C_Reader C_NoText) := ⟨_, _, ok_leafR bi T gL gW sW r1 r2 F_k, b_k, t_k⟩
 have r8 := wK bi T gJ kd r1 r6 r7 F_f F_c b_f b_c t_f t_c 21
 have gT : Gc mg "MOST_SIGNS_OF_TERM" (.int 400) := ⟨_, PySem.W.mg_of X G g_MOST_SIGNS_OF_TERM, ⟨_, rfl⟩⟩
 have gD : Gc mg "MOST_DEEP" (.int 20) := ⟨_, PySem.W.mg_of X G g_MOST_DEEP, ⟨_, rfl⟩⟩
 have gV : Gc mg "MOST_LEAVES" (.int 60) := ⟨_, PySem.W.mg_of X G g_MOST_LEAVES, ⟨_, rfl⟩⟩
 have gR : Gc mg "MOST_SIGNS_OF_RULE" (.int 3000) := ⟨_, PySem.W.mg_of X G g_MOST_SIGNS_OF_RULE, ⟨_, rfl⟩⟩
 have gP : Gc mg "MOST_PREMISES" (.int 5) := ⟨_, PySem.W.mg_of X G g_MOST_PREMISES, ⟨_, rfl⟩⟩
 have r9 := xZ F_D (ok_read bi T cl_Reader gT gD gV r1 r5 r8 r4 F_D) b_D m_D
 have r10 := xZ F_e (vG bi gU r1 r9 F_e) b_e m_e
 have r11 := xZ F_r (wZ bi gC gA gR gP r1 r10 F_r) b_r m_r
 have q9 := xZ F_D (bad_read bi T cl_Reader gT gD gV r1 r5 r8 r4 F_D) b_D m_D
 have q10 := xZ F_e (uR bi gU r1 r9 F_e) b_e m_e
 have q11 := xZ F_r (vS bi gC gA gR gP r1 r10 F_r) b_r m_r
 have h1 := yT F_o (ok_cell (P := l.prog) (w := w) (base := base) bi F_o) b_o m_o
 have h8 := yT F_i (ok_written (P := l.prog) (w := w) (base := base) bi F_i b_i m_i 21) b_i m_i
 have h9 := yT F_a (qW bi h8 F_a) b_a m_a
 have h10 := yT F_b (uP bi h9 F_b) b_b m_b
 have s1 := yT F_p (vH (P := l.prog) (w := w) (base := base) bi F_p) b_p m_p
 have s4 := yT F_n (ok_is_term bi s1 F_n b_n m_n 22) b_n m_n
 have s5 := yT F_h (kC bi s4 F_h) b_h m_h
 have s6 := yT F_q (ok_is_rule bi s5 F_q) b_q m_q
 have t1 := xZ F_t (FnOk.or (ok_asked bi r9 r10 r11 F_t) (bad_asked bi q9 q10 q11 F_t)) b_t m_t
 have t2 := yT F_u (ok_tells bi s4 s5 s6 h8 h9 h10 F_u) b_u m_u
 have u1 := yT F_g (kA (P := l.prog) (w := w) (base := base) bi F_g) b_g m_g
 have u2 := yT F_z (ok_row bi u1 F_z) b_z m_z
 have u3 := yT F_v (ok_deep (P := l.prog) (w := w) (base := base) bi F_v) b_v m_v
 have u4 := yT F_w (ok_many (P := l.prog) (w := w) (base := base) bi F_w) b_w m_w
 have u5 := yT F_l (ok_premises (P := l.prog) (w := w) (base := base) bi F_l) b_l m_l
 have u6 := yT F_d (ok_great bi u2 F_d) b_d m_d
 have u7 := yT F_s (ok_within (P := l.prog) (w := w) (base := base) bi F_s) b_s m_s
 have u8 := yT F_x (ok_case bi u2 u3 u4 u5 u6 u7 F_x) b_x m_x
 exact ok_law Er bi h1 u8 t1 t2 F_E
theorem walk {l : PySem.W.OpenLaw} {q : Program} {loose : List Str} {XP : (Str -> Option Value) -> Heap -> Prop} {YP : World -> Heap -> Prop} {d : DefRec} {K : Params -> PySem.W.Frag} (hn : l.most = some 63) (hdf : d.params.defaults = [])
   (hY : ∀ (w : World) (h : Heap), YP w h -> (K w.params).In h)
   (F : ∀ (w : World) (mg : Str -> Option Value) (fa : Addr) (h : Heap), (K w.params).In h -> h.Ns mainGlobals mg -> mg d.name = some (.ref fa) ->
     ∃ fd : FuncData, (∀ (s : Shared) (u : Value), BindsTo s fd ⟨[u], []⟩ [("script", u)]) /\ ∀ base : Heap, (K w.params).In base -> base.Ns mainGlobals mg -> FnOk l.prog w (K w.params) mg base CX0 65 fa fd ["script"] (spLaw (K w.params))) :
   PySem.W.WalkO q loose XP YP l.row.toRowW d [] (fun f vs => PySem.call f vs) :=
 L2.walk_of (n := 63) (k := 65) (x := "script") (CX := fun _ => CX0) (sp := fun w => spLaw (K w.params)) hn (by decide) hdf ⟨rfl, by decide, by decide⟩ hY F (fun _ _ a ns hl _ hS => ⟨a, ns, rfl, hS, hl, fun _ => rfl⟩) fun _ _ _ _ _ z => z
end C
open PySem PySem.W PyProof.Rows
set_option maxRecDepth 100000 in
set_option maxHeartbeats 0 in
theorem PySem.Challenge.cw_clashbook_k08_bounds_of_texts_holds : PySem.Challenge.rw_clashbook_k08_bounds_of_texts.Holds := by
 w_on; o_law; k_head; (case hw => w_witness2)
 k_fill
 refine C.walk (l := PySem.Challenge.rw_clashbook_k08_bounds_of_texts) rfl rfl (fun w h Y => PySem.W.kIn_of Y) ?F
 case F =>
   intro w mg fa h KX G hmg
   refine' C.all_mk KX G hmg ?aC_Reader ?a_m ?i_m ?l_m ?c_m ?k_m ?a_j ?i_j ?l_j ?c_j ?k_j ?a_f ?i_f ?l_f ?c_f ?k_f ?a_c ?i_c ?l_c ?c_c ?k_c ?a_k ?i_k ?l_k ?c_k ?k_k ?pg_Reader ?hd_Reader ?po_Reader ?sa_Reader ?mk_Reader ?kc_Reader ?n_Reader_text ?n_Reader_at ?a_A ?l_A ?c_A ?k_A ?a_y ?l_y ?c_y ?k_y ?a_B ?l_B ?c_B ?k_B ?a_C ?l_C ?c_C ?k_C ?a_D ?l_D ?c_D ?k_D ?a_e ?l_e ?c_e ?k_e ?a_r ?l_r ?c_r ?k_r ?a_o ?l_o ?c_o ?k_o ?a_i ?l_i ?c_i ?k_i ?a_a ?l_a ?c_a ?k_a ?a_b ?l_b ?c_b ?k_b ?a_p ?l_p ?c_p ?k_p ?a_n ?l_n ?c_n ?k_n ?a_h ?l_h ?c_h ?k_h ?a_q ?l_q ?c_q ?k_q ?a_g ?l_g ?c_g ?k_g ?a_z ?l_z ?c_z ?k_z ?a_v ?l_v ?c_v ?k_v ?a_w ?l_w ?c_w ?k_w ?a_l ?l_l ?c_l ?k_l ?a_d ?l_d ?c_d ?k_d ?a_t ?l_t ?c_t ?k_t ?a_u ?l_u ?c_u ?k_u ?a_s ?l_s ?c_s ?k_s ?a_x ?l_x ?c_x ?k_x ?a_E ?l_E ?c_E ?k_E ?g_LETTERS ?g_LONGEST_NAME ?g_WORDS ?o_WORDS ?g_JOINTS ?o_JOINTS ?e_JOINTS ?g_UNDER ?g_COMMA ?g_ARROW ?g_MOST_SIGNS_OF_TERM ?g_MOST_SIGNS_OF_RULE ?g_MOST_DEEP ?g_MOST_LEAVES ?g_MOST_PREMISES ?a_ClashError ?a_NoText ?ei_NoText ?x1_NoText ?x2_NoText ?x3_NoText ?x4_NoText ?x5_NoText ?x6_NoText ?x7_NoText ?x8_NoText ?xb_NoText ?xt_NoText ?kv_NoText ?ko_NoText_NoText ?z_all ?z_bool ?z_dict ?z_int ?z_isinstance ?z_len ?z_list ?z_max ?z_range ?z_set ?z_sorted ?z_str ?z_sum ?z_tuple
   (case aC_Reader => k_is); (case a_m => k_is); (case i_m => k_is); (case l_m => k_is)
   (case c_m => k_is); (case k_m => k_is); (case a_j => k_is); (case i_j => k_is)
   (case l_j => k_is); (case c_j => k_is); (case k_j => k_is); (case a_f => k_is)
   (case i_f => k_is); (case l_f => k_is); (case c_f => k_is); (case k_f => k_is)
   (case a_c => k_is); (case i_c => k_is); (case l_c => k_is); (case c_c => k_is)
   (case k_c => k_is); (case a_k => k_is); (case i_k => k_is); (case l_k => k_is)
   (case c_k => k_is); (case k_k => k_is); (case pg_Reader => k_is); (case hd_Reader => k_is)
   (case po_Reader => k_is); (case sa_Reader => k_is); (case mk_Reader => k_is); (case kc_Reader => k_is)
   (case n_Reader_text => k_is); (case n_Reader_at => k_is); (case a_A => k_is); (case l_A => k_is)
   (case c_A => k_is); (case k_A => k_is); (case a_y => k_is); (case l_y => k_is)
   (case c_y => k_is); (case k_y => k_is); (case a_B => k_is); (case l_B => k_is)
   (case c_B => k_is); (case k_B => k_is); (case a_C => k_is); (case l_C => k_is)
   (case c_C => k_is); (case k_C => k_is); (case a_D => k_is); (case l_D => k_is)
   (case c_D => k_is); (case k_D => k_is); (case a_e => k_is); (case l_e => k_is)
   (case c_e => k_is); (case k_e => k_is); (case a_r => k_is); (case l_r => k_is)
   (case c_r => k_is); (case k_r => k_is); (case a_o => k_is); (case l_o => k_is)
   (case c_o => k_is); (case k_o => k_is); (case a_i => k_is); (case l_i => k_is)
   (case c_i => k_is); (case k_i => k_is); (case a_a => k_is); (case l_a => k_is)
   (case c_a => k_is); (case k_a => k_is); (case a_b => k_is); (case l_b => k_is)
   (case c_b => k_is); (case k_b => k_is); (case a_p => k_is); (case l_p => k_is)
   (case c_p => k_is); (case k_p => k_is); (case a_n => k_is); (case l_n => k_is)
   (case c_n => k_is); (case k_n => k_is); (case a_h => k_is); (case l_h => k_is)
   (case c_h => k_is); (case k_h => k_is); (case a_q => k_is); (case l_q => k_is)
   (case c_q => k_is); (case k_q => k_is); (case a_g => k_is); (case l_g => k_is)
   (case c_g => k_is); (case k_g => k_is); (case a_z => k_is); (case l_z => k_is)
   (case c_z => k_is); (case k_z => k_is); (case a_v => k_is); (case l_v => k_is)
   (case c_v => k_is); (case k_v => k_is); (case a_w => k_is); (case l_w => k_is)
   (case c_w => k_is); (case k_w => k_is); (case a_l => k_is); (case l_l => k_is)
   (case c_l => k_is); (case k_l => k_is); (case a_d => k_is); (case l_d => k_is)
   (case c_d => k_is); (case k_d => k_is); (case a_t => k_is); (case l_t => k_is)
   (case c_t => k_is); (case k_t => k_is); (case a_u => k_is); (case l_u => k_is)
   (case c_u => k_is); (case k_u => k_is); (case a_s => k_is); (case l_s => k_is)
   (case c_s => k_is); (case k_s => k_is); (case a_x => k_is); (case l_x => k_is)
   (case c_x => k_is); (case k_x => k_is); (case a_E => k_is); (case l_E => k_is)
   (case c_E => k_is); (case k_E => k_is); (case g_LETTERS => k_is); (case g_LONGEST_NAME => k_is)
   (case g_WORDS => k_is); (case o_WORDS => k_is); (case g_JOINTS => k_is); (case o_JOINTS => k_is)
   (case e_JOINTS => exact ⟨_, _, _, _, _, rfl, rfl, rfl, rfl, ⟨_, _, _, _, _, rfl, rfl, rfl, rfl, rfl⟩⟩); (case g_UNDER => k_is); (case g_COMMA => k_is); (case g_ARROW => k_is)
   (case g_MOST_SIGNS_OF_TERM => k_is); (case g_MOST_SIGNS_OF_RULE => k_is); (case g_MOST_DEEP => k_is); (case g_MOST_LEAVES => k_is)
   (case g_MOST_PREMISES => k_is); (case a_ClashError => k_is); (case a_NoText => k_is); (case ei_NoText => first | k_is | kernel_rfl)
   (case x1_NoText => first | k_is | kernel_rfl); (case x2_NoText => first | k_is | kernel_rfl); (case x3_NoText => first | k_is | kernel_rfl); (case x4_NoText => first | k_is | kernel_rfl)
   (case x5_NoText => first | k_is | kernel_rfl); (case x6_NoText => first | k_is | kernel_rfl); (case x7_NoText => first | k_is | kernel_rfl); (case x8_NoText => first | k_is | kernel_rfl)
   (case xb_NoText => first | k_is | kernel_rfl); (case xt_NoText => first | k_is | kernel_rfl); (case kv_NoText => first | k_is | kernel_rfl); (case ko_NoText_NoText => first | k_is | kernel_rfl)
   (case z_all => k_is); (case z_bool => k_is); (case z_dict => k_is); (case z_int => k_is)
   (case z_isinstance => k_is); (case z_len => k_is); (case z_list => k_is); (case z_max => k_is)
   (case z_range => k_is); (case z_set => k_is); (case z_sorted => k_is); (case z_str => k_is)
   (case z_sum => k_is); (case z_tuple => k_is)
#print axioms PySem.Challenge.cw_clashbook_k08_bounds_of_texts_holds
