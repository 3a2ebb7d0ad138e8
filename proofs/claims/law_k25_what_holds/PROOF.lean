import PyProof.Rows.All
import Wide.All
import OpenK.AllK
import Wide.FinOn
import Lean
import PyProof.EqAt
import PyProof.EqKinds
import PyProof.TupleCall
import PyProof.FitsReplace
import PyProof.StrLawsChain
import PyProof.IsiH_list
import KE.KDictOf
import PyProof.Rows.Exc
import PyProof.RulesTry
import PyProof.ForAppend
import PyProof.Rows.Tup
import PyProof.CollectWalk
import PyProof.Rows.DictListVals
import PyProof.AutoSeq1
import PyProof.FactsAll.list_3
import KE.KDictSum
import PyProof.Rows.SortStr
import PyProof.Rows.SortWalk
import PyProof.SetKind
import PyProof.Rows.SetObj
import PyProof.DictKinds
import PyProof.DictIter
import PyProof.MakeMany
import PyProof.WalksS
import PyProof.Walks
import PyProof.Seq
import PyProof.TupleIter
import PyProof.FactsAll.set_1
import PyProof.ForAny
import PyProof.Rows.SetFrom
import PyProof.Rows.StrMeet
import PyProof.NeKinds
import PyProof.ZipIter
import KE.BitLaws
import PyProof.Rows.TupAdd
import PySem.SetOps
import PyProof.EnumMake
import PyProof.EnumFor
import PyProof.Rows.EnumRows
import PyProof.Rows.Range3
import PyProof.Rows.BitMore
import PyProof.Rows.RuleM_int
import PyProof.DictRoadsH
import KE.KDictList
import PyProof.DictWalks
import PyProof.AutoListH
import PyProof.FactsAll.list_2
import PyProof.CallType
import PyProof.ListNew
import PyProof.Conv_int_bool
import PyProof.ConsumeWalk
import KE.KSortTup
import OpenK.KOwn
import OpenK.KRaise
import PyProof.ExcClass3
import PyProof.RulesAs
import PyProof.NsDelKeeps
import PyProof.StationsW
import PyProof.Rows.Catch
import PyProof.ExcArgs
import KE.KIsAll
import KE.KIsNot
import PyProof.FString
import PyProof.ExcBaseAll.ValueError
import PySem.Challenge.RW_clashbook_k25_what_holds
namespace PySem.W.Fast
def tw13151330367571590889:=0
def tw7787046267792782166:=0
def tw5801354064508254734:=0
def tw14963336868824958859:=0
def tw8028733872440471519:=0
def tw16467563121661650266:=0
def tw4312239855243546621:=0
def tw1077365849074140002:=0
def tw938640590091364779:=0
def tw9643288707379438679:=0
def tw5381476207556171294:=0
def tw7236324756380987084:=0
def tw14856054698701280198:=0
def tw18191430408550756267:=0
def tw7425552699194973179:=0
def tw126266605999021627:=0
def tw15710937373174552476:=0
end PySem.W.Fast
set_option genSizeOfSpec false
set_option Elab.async false
set_option linter.all false
set_option maxRecDepth 100000
namespace L2
open PySem PySem.Spec PyProof.Rows
abbrev Key := Sum Int Str
def keyIs : Key -> Value -> Bool
 | .inl k, v => Value.isInt k v
 | .inr x, v => Value.isStrOf x v
def keyH (w : World) : Key -> Int
 | .inl k => hashInt k
 | .inr x => hashStr w x
theorem keyIs_shape : ∀ {k : Key} {v : Value}, keyIs k v = true -> (∃ i t, k = Sum.inl i /\ v = Value.int i t) \/ (∃ x t, k = Sum.inr x /\ v = Value.str x t)
 | .inl i, v, h => by
   obtain ⟨t, e⟩ := Value.isInt_shape (k := i) (v := v) h
   exact .inl ⟨i, t, rfl, e⟩
 | .inr x, v, h => by
   obtain ⟨t, e⟩ := Value.isStrOf_shape (x := x) (v := v) h
   exact .inr ⟨x, t, rfl, e⟩
theorem keyIs_int (i : Int) (t : Tok) : keyIs (.inl i) (.int i t) = true := by simp [keyIs, Value.isInt]
theorem keyIs_str (x : Str) (t : Tok) : keyIs (.inr x) (.str x t) = true := by simp [keyIs, Value.isStrOf]
theorem key_ll (a b : Int) : decide ((Sum.inl a : Key) = Sum.inl b) = (a == b) := by
 by_cases e : a = b
 · subst e; simp
 · have h : ¬ (Sum.inl a : Key) = Sum.inl b := fun q => e (Sum.inl.inj q)
   rw [decide_eq_false h]
   exact (beq_eq_false_iff_ne.mpr e).symm
theorem key_rr (a b : Str) : decide ((Sum.inr a : Key) = Sum.inr b) = decide (a = b) := by
 by_cases e : a = b
 · subst e; simp
 · have h : ¬ (Sum.inr a : Key) = Sum.inr b := fun q => e (Sum.inr.inj q)
   rw [decide_eq_false h, decide_eq_false e]
theorem key_lr (a : Int) (b : Str) : decide ((Sum.inl a : Key) = Sum.inr b) = false := decide_eq_false (fun q => nomatch q)
theorem key_rl (a : Str) (b : Int) : decide ((Sum.inr a : Key) = Sum.inl b) = false := decide_eq_false (fun q => nomatch q)
def yG (prog : Program) (w : World) : PySem.KeyKind prog w Key where
 is := keyIs
 hash := keyH w
 inj := fun v a b ha hb => by
   rcases keyIs_shape ha with ⟨i, t, rfl, rfl⟩ | ⟨x, t, rfl, rfl⟩
   · rcases keyIs_shape hb with ⟨j, u, rfl, e⟩ | ⟨y, u, rfl, e⟩
     · injection e with e1 _; rw [e1]
     · exact nomatch e
   · rcases keyIs_shape hb with ⟨j, u, rfl, e⟩ | ⟨y, u, rfl, e⟩
     · exact nomatch e
     · injection e with e1 _; rw [e1]
 byValue := fun k v h => by
   rcases keyIs_shape h with ⟨i, t, rfl, rfl⟩ | ⟨x, t, rfl, rfl⟩ <;> rfl
 pyHash := fun hv h => by
   rcases keyIs_shape hv with ⟨i, t, rfl, rfl⟩ | ⟨x, t, rfl, rfl⟩
   · exact wpAny_pyHash_int h
   · exact wpAny_pyHash_str h
 eqBool := fun hu hv h => by
   rcases keyIs_shape hu with ⟨i, t, rfl, rfl⟩ | ⟨x, t, rfl, rfl⟩
   · rcases keyIs_shape hv with ⟨j, u, rfl, rfl⟩ | ⟨y, u, rfl, rfl⟩
     · rw [key_ll] at h; exact wpAny_eqBool_int h
     · rw [key_lr] at h; exact SeqAt.EqAt.int_str i t y u _ _ _ _ h
   · rcases keyIs_shape hv with ⟨j, u, rfl, rfl⟩ | ⟨y, u, rfl, rfl⟩
     · rw [key_rl] at h; exact SeqAt.EqAt.str_int x t j u _ _ _ _ h
     · rw [key_rr] at h; exact wpAny_eqBool_str h
 «strs» := fun k x t v h => by
   rcases keyIs_shape h with ⟨i, u, rfl, e⟩ | ⟨y, u, rfl, e⟩
   · exact nomatch e
   · injection e with e1 _
     subst e1
     cases v <;> rfl
theorem mixKind_int (prog : Program) (w : World) (i : Int) (t : Tok) : (yG prog w).is (.inl i) (.int i t) = true := keyIs_int i t
theorem qP (prog : Program) (w : World) (x : Str) (t : Tok) : (yG prog w).is (.inr x) (.str x t) = true := keyIs_str x t
inductive V where
 | non | bl (b : Bool) | int (i : Int) | str (x : Str) | byt (b : Array UInt8) | flt (b : UInt64) | ref (a : Addr) | ty (n : String)
 deriving DecidableEq
def RelV : V -> Value -> Prop
 | .non, u => u = Value.none
 | .bl b, u => u = Value.bool b
 | .int i, u => ∃ t, u = Value.int i t
 | .str x, u => ∃ t, u = Value.str x t
 | .byt b, u => ∃ t, u = Value.bytes b t
 | .flt b, u => ∃ t, u = Value.float b t
 | .ref a, u => u = Value.ref a
 | .ty n, u => u = Value.type n
abbrev Vals : List V -> List Value -> Prop := Paired RelV
theorem Vals.length {xs : List V} {us : List Value} (r : Vals xs us) : xs.length = us.length := Paired.length r
theorem Vals.get : ∀ {xs : List V} {us : List Value} {i : Nat} {x : V}, Vals xs us -> xs[i]? = some x -> ∃ u, us[i]? = some u /\ RelV x u
 | _, _, _, _, .nil, e => by simp at e
 | _, _, 0, _, .cons r _, e => by simp at e; subst e; exact ⟨_, rfl, r⟩
 | _, _, i + 1, x, .cons _ t, e => by
   obtain ⟨u, h1, h2⟩ := Vals.get (i := i) (x := x) t (by simpa using e)
   exact ⟨u, by simpa using h1, h2⟩
theorem Vals.set {x : V} {u : Value} (r : RelV x u) : ∀ {xs : List V} {us : List Value} (i : Nat), Vals xs us -> Vals (xs.set i x) (us.set i u)
 | _, _, _, .nil => .nil
 | _, _, 0, .cons _ t => .cons r t
 | _, _, i + 1, .cons q t => .cons q (Vals.set r i t)
theorem Vals.append : ∀ {xs ys : List V} {us ws : List Value}, Vals xs us -> Vals ys ws -> Vals (xs ++ ys) (us ++ ws)
 | _, _, _, _, .nil, s => s
 | _, _, _, _, .cons r t, s => .cons r (Vals.append t s)
theorem Vals.take : ∀ {xs : List V} {us : List Value} (n : Nat), Vals xs us -> Vals (xs.take n) (us.take n)
 | _, _, 0, _ => .nil
 | _, _, _ + 1, .nil => .nil
 | _, _, n + 1, .cons r t => .cons r (Vals.take n t)
theorem Vals.drop : ∀ {xs : List V} {us : List Value} (n : Nat), Vals xs us -> Vals (xs.drop n) (us.drop n)
 | _, _, 0, r => r
 | _, _, _ + 1, .nil => .nil
 | _, _, n + 1, .cons _ t => Vals.drop n t
def RelO : Option V -> Option Value -> Prop
 | some v, some u => RelV v u
 | none, none => True
 | _, _ => False
def KV {κ : Type} : List (κ × V) -> List (κ × Value) -> Prop := Paired fun (p : κ × V) (q : κ × Value) => p.1 = q.1 /\ RelV p.2 q.2
def kV : Key -> V
 | .inl i => .int i
 | .inr x => .str x
inductive HO where
 | lst (xs : List V)
 | tup (xs : List V)
 | dK (kvs : List (Key × V)) | dT (kvs : List (List Key × V))
 | set (S : Int -> Bool) (n : Nat)
 | ins (C dx : Addr) (fs : List (Str × V))
 | own (x : Addr)
 | xd (fs : List (Str × V))
 | met (f x : Addr)
 | rng (lo hi : Int)
 | frz (o : Obj) (u : HO)
 | tbl (ps : Array Value)
 | ext (φ : Heap -> Prop)
abbrev Hp := Addr -> Option HO
def upd (H : Hp) (a : Addr) (o : HO) : Hp := fun b => if b = a then some o else H b
theorem zB {H : Hp} {a : Addr} {o : HO} : upd H a o a = some o := by unfold upd; rw [if_pos rfl]
theorem zQ {H : Hp} {a b : Addr} {o : HO} (h : b ≠ a) : upd H a o b = H b := by unfold upd; rw [if_neg h]
theorem ne_of {H : Hp} {a b : Addr} {o u : HO} (h : H a = some o) (h' : H b = some u) (d : o ≠ u) : a ≠ b := by
 intro e; subst e; rw [h] at h'; exact d (Option.some.inj h')
theorem yK {H : Hp} {a b : Addr} {o : HO} (h : H a = some o) (h' : H b = none) : a ≠ b := by
 intro e; subst e; rw [h] at h'; cases h'
section
variable (P : Program) (w : World)
def ObjOk (H : Hp) (h : Heap) (a : Addr) : HO -> Prop
 | .lst xs => xs.length <= sizeLine /\ ∃ (its : List Value) (n : Nat), Vals xs its /\ h.get? a = some { cls := .type "list", data := .seq its.toArray n }
 | .tup xs => xs.length <= sizeLine /\ ∃ its : List Value, Vals xs its /\ IsTup h a its.toArray
 | .dK kvs => kvs.length <= sizeLine /\ (a == sysModules) = false /\ ∃ vs, KV kvs vs /\ h.DictOf (yG P w) a vs
 | .dT kvs => kvs.length <= sizeLine /\ (a == sysModules) = false /\ ∃ xs : List (List Key × Addr × Value),
     Paired (fun (p : List Key × V) (q : List Key × Addr × Value) => p.1 = q.1 /\ H q.2.1 = some (.tup (p.1.map kV)) /\ RelV p.2 q.2.2) kvs xs /\
     ∃ o es ep, h.get? a = some o /\ o.ExactDict /\ o.data = .dict es ep /\ es.toList = xs.map (entryOfKey (tupleKind (yG P w))) /\ (xs.map (·.1)).Nodup
 | .set S n => h.SetOf (intKind P w) a S n
 | .ins C dx fs => H dx = some (.own a) /\ fs.length <= 1000 /\ dx ≠ a /\ h.get? a = some (PySem.W.instObj C dx) /\
     ∃ mA, h.Ns1 dx mA /\ (∀ f, RelO (fs.lookup f) (mA f)) /\ PySem.Within mA (fs.map (·.1))
 | .own _ => ∃ o, h.get? a = some o
 | .xd fs => ∃ mA, h.Ns1 a mA /\ ∀ f, RelO (fs.lookup f) (mA f)
 | .rng lo hi => ∃ t u v, h.get? a = some { cls := .type "range", data := .fields #[.int lo t, .int hi u, .int 1 v] }
 | .frz o u => h.get? a = some o /\ ObjOk H h a u
 | .tbl ps => h.get? a = some { cls := .none, data := .fields ps }
 | .met f x => h.get? a = some (PySem.W.methodObj (.ref f) (.ref x))
 | .ext φ => φ h /\ (∃ o, h.get? a = some o) /\ ∀ h1 h2 : Heap, φ h1 -> (∀ o, h1.get? a = some o -> h2.get? a = some o) -> φ h2
def HOk (H : Hp) (h : Heap) : Prop := ∀ a o, H a = some o -> ObjOk P w H h a o
end
section
variable {P : Program} {w : World} {H H' : Hp} {h h' : Heap} {a : Addr} {o : HO}
theorem ObjOk.lt (x : ObjOk P w H h a o) : a < h.objs.size := by
 cases o with
 | lst xs => obtain ⟨_, _, _, _, e⟩ := x; exact Heap.lt_size e
 | tup xs => obtain ⟨_, _, _, p⟩ := x; exact p.lt
 | dK kvs => obtain ⟨_, _, _, _, o, _, _, e, _⟩ := x; exact Heap.lt_size e
 | dT kvs => obtain ⟨_, _, _, _, o, _, _, e, _⟩ := x; exact Heap.lt_size e
 | set S n => obtain ⟨o, _, _, _, e, _⟩ := x; exact Heap.lt_size e
 | ins C dx fs => obtain ⟨_, _, _, e, _⟩ := x; exact Heap.lt_size e
 | own y => obtain ⟨_, e⟩ := x; exact Heap.lt_size e
 | xd fs => obtain ⟨_, ⟨_, _, _, e, _⟩, _⟩ := x; exact Heap.lt_size e
 | rng lo hi => obtain ⟨_, _, _, e⟩ := x; exact Heap.lt_size e
 | frz ob u => obtain ⟨e, _⟩ := x; exact Heap.lt_size e
 | tbl ps => exact Heap.lt_size (show h.get? a = some _ from x)
 | met f y => exact Heap.lt_size (show h.get? a = some _ from x)
 | ext φ => obtain ⟨_, ⟨_, e⟩, _⟩ := x; exact Heap.lt_size e
theorem Paired.mapP {α β : Type} {F G : α -> β -> Prop} : ∀ {l₁ : List α} {l₂ : List β}, Paired F l₁ l₂ -> (∀ a b, F a b -> G a b) -> Paired G l₁ l₂
 | _, _, .nil, _ => .nil
 | _, _, .cons r t, f => .cons (f _ _ r) (Paired.mapP t f)
theorem ObjOk.stay (x : ObjOk P w H h a o) (k : ∀ b u, (b = a \/ H b = some (.own a)) -> h.get? b = some u -> h'.get? b = some u)
   (ho : ∀ b, H b = some (.own a) -> H' b = some (.own a)) (ht : ∀ b xs, H b = some (.tup xs) -> H' b = some (.tup xs)) : ObjOk P w H' h' a o := by
 induction o with
 | lst xs => obtain ⟨z, its, n, r, e⟩ := x; exact ⟨z, its, n, r, k _ _ (.inl rfl) e⟩
 | tup xs => obtain ⟨z, its, r, ob, e, c⟩ := x; exact ⟨z, its, r, ob, k _ _ (.inl rfl) e, c⟩
 | dK kvs => obtain ⟨z, y, vs, r, ob, es, ep, e, c⟩ := x; exact ⟨z, y, vs, r, ob, es, ep, k _ _ (.inl rfl) e, c⟩
 | dT kvs =>
   obtain ⟨z, y, xs, r, ob, es, ep, e, c⟩ := x
   exact ⟨z, y, xs, Paired.mapP r fun p q z => ⟨z.1, ht _ _ z.2.1, z.2.2⟩, ob, es, ep, k _ _ (.inl rfl) e, c⟩
 | set S n => obtain ⟨ob, es, ep, t, e, c⟩ := x; exact ⟨ob, es, ep, t, k _ _ (.inl rfl) e, c⟩
 | ins C dx fs =>
   obtain ⟨d, z, ne, e, mA, ⟨od, es, ep, e2, c⟩, r⟩ := x
   exact ⟨ho _ d, z, ne, k _ _ (.inl rfl) e, mA, ⟨od, es, ep, k _ _ (.inr d) e2, c⟩, r⟩
 | own y => obtain ⟨ob, e⟩ := x; exact ⟨ob, k _ _ (.inl rfl) e⟩
 | xd fs => obtain ⟨mA, ⟨od, es, ep, e, c⟩, r⟩ := x; exact ⟨mA, ⟨od, es, ep, k _ _ (.inl rfl) e, c⟩, r⟩
 | rng lo hi => obtain ⟨t, u, v, e⟩ := x; exact ⟨t, u, v, k _ _ (.inl rfl) e⟩
 | frz ob u ih => obtain ⟨e, q⟩ := x; exact ⟨k _ _ (.inl rfl) e, ih q⟩
 | tbl ps =>
   have e : h.get? a = some { cls := .none, data := .fields ps } := x
   show h'.get? a = some { cls := .none, data := .fields ps }
   exact k a _ (.inl rfl) e
 | met f y =>
   have e : h.get? a = some (PySem.W.methodObj (.ref f) (.ref y)) := x
   show h'.get? a = some (PySem.W.methodObj (.ref f) (.ref y))
   exact k a _ (.inl rfl) e
 | ext φ => obtain ⟨p, ⟨o, e⟩, st⟩ := x; exact ⟨st _ _ p fun o q => k _ _ (.inl rfl) q, ⟨o, k _ _ (.inl rfl) e⟩, st⟩
theorem HOk.lt (x : HOk P w H h) (e : H a = some o) : a < h.objs.size := (x a o e).lt
theorem HOk.fresh (x : HOk P w H h) (e : h.objs.size <= a) : H a = none := by
 cases q : H a with
 | none => rfl
 | some u => exact absurd (Nat.lt_of_lt_of_le (x.lt q) e) (Nat.lt_irrefl _)
theorem HOk.kept (x : HOk P w H h) (k : ∀ b u, h.get? b = some u -> h'.get? b = some u) : HOk P w H h' := fun a o e =>
 (x a o e).stay (fun b u _ q => k b u q) (fun _ q => q) fun _ _ q => q
theorem HOk.laid (x : HOk P w H h) (k : ∀ b u, h.get? b = some u -> h'.get? b = some u) (hp : h.objs.size <= a) (new : ObjOk P w (upd H a o) h' a o) : HOk P w (upd H a o) h' := fun b u e => by
 have hn := x.fresh hp
 by_cases hb : b = a
 · subst hb; rw [zB] at e; cases e; exact new
 · rw [zQ hb] at e
   exact (x b u e).stay (fun c v _ q => k c v q) (fun c q => by rw [zQ (yK q hn)]; exact q) fun c xs q => by rw [zQ (yK q hn)]; exact q
end
def Rd (H : Hp) (a : Addr) (u : HO) : Prop := H a = some u \/ ∃ o, H a = some (.frz o u)
theorem Rd.ok {P : Program} {w : World} {H : Hp} {h : Heap} {a : Addr} {u : HO} (r : Rd H a u) (x : HOk P w H h) : ObjOk P w H h a u := by
 rcases r with r | ⟨o, r⟩
 · exact x a u r
 · obtain ⟨_, q⟩ := x a _ r
   exact q
def Mut : Option HO -> Prop
 | some (.lst _) => True
 | some (.dK _) => True
 | some (.dT _) => True
 | some (.set _ _) => True
 | some (.ins _ _ _) => True
 | some (.ext _) => True
 | _ => False
section
variable {P : Program} {w : World} {H : Hp} {h h' : Heap} {x e : Addr} {o' : HO}
theorem HOk.write (ok : HOk P w H h) (mu : Mut (H x)) (he : e = x \/ H e = some (.own x)) (k : ∀ b u, b ≠ e -> h.get? b = some u -> h'.get? b = some u) (heo : ∃ u, h'.get? e = some u)
   (new : ObjOk P w (upd H x o') h' x o') : HOk P w (upd H x o') h' := fun b u q => by
 have nown : ∀ c y, H c = some (.own y) -> c ≠ x := fun c y r z => by subst z; rw [r] at mu; exact mu
 have ntup : ∀ c xs, H c = some (.tup xs) -> c ≠ x := fun c xs r z => by subst z; rw [r] at mu; exact mu
 by_cases hb : b = x
 · subst hb; rw [zB] at q; cases q; exact new
 · rw [zQ hb] at q
   by_cases hbe : b = e
   · have q' : H b = some (.own x) := by
       rcases he with z | z
       · exact absurd (hbe.trans z) hb
       · rw [hbe]; exact z
     rw [q] at q'; cases q'
     obtain ⟨v, hv⟩ := heo
     exact ⟨v, by rw [hbe]; exact hv⟩
   · refine (ok b u q).stay (fun c v hc r => k c v ?_ r) (fun c r => by rw [zQ (nown c b r)]; exact r) fun c xs r => by rw [zQ (ntup c xs r)]; exact r
     rcases hc with rfl | hc
     · exact hbe
     · rintro rfl
       rcases he with z | z
       · exact nown c b hc z
       · rw [hc] at z; cases z; exact hb rfl
end
structure Un (fs ex : List Addr) (H H' : Hp) (h h' : Heap) : Prop where
 keep : ∀ b o, h.get? b = some o -> H b = none -> b ∉ fs -> b ∉ ex -> h'.get? b = some o
 slot : ∀ b o, h.get? b = some o -> H b = none -> b ∈ fs -> b ∉ ex -> ∃ sl, h'.get? b = some { o with slots := sl }
 free : ∀ b o, h.get? b = some o -> H b = none -> b ∉ ex -> H' b = none
 there : ∀ b o, h.get? b = some o -> b ∉ ex -> ∃ o', h'.get? b = some o'
 tups : ∀ b xs, H b = some (.tup xs) -> H' b = some (.tup xs)
 frzs : ∀ b o u, H b = some (.frz o u) -> H' b = some (.frz o u)
 tbls : ∀ b ps, H b = some (.tbl ps) -> ∃ more, H' b = some (.tbl (ps ++ more))
section
variable {fs fs' ex ex' : List Addr} {H H1 H2 : Hp} {h h1 h2 h' : Heap} {a x e : Addr} {o : HO}
theorem Un.any (u : Un fs ex H H1 h h1) {b : Addr} {ob : Obj} (q : h.get? b = some ob) (n : H b = none) (hx : b ∉ ex) : ∃ sl, h1.get? b = some { ob with slots := sl } := by
 by_cases hb : b ∈ fs
 · exact u.slot b ob q n hb hx
 · exact ⟨ob.slots, u.keep b ob q n hb hx⟩
theorem Un.kept (k : ∀ b u, h.get? b = some u -> h'.get? b = some u) : Un fs ex H H h h' :=
 ⟨fun b ob q _ _ _ => k b ob q, fun b ob q _ _ _ => ⟨ob.slots, k b ob q⟩, fun _ _ _ n _ => n, fun b ob q _ => ⟨ob, k b ob q⟩, fun _ _ q => q, fun _ _ _ q => q, fun _ ps q => ⟨#[], by rw [q]; simp⟩⟩
theorem Un.refl : Un fs ex H H h h := Un.kept fun _ _ q => q
theorem Un.laid (k : ∀ b u, h.get? b = some u -> h'.get? b = some u) (hp : h.objs.size <= a) (hn : H a = none) : Un fs ex H (upd H a o) h h' where
 keep := fun b u q _ _ _ => k b u q
 slot := fun b u q _ _ _ => ⟨u.slots, k b u q⟩
 free := fun b u q n _ => by rw [zQ (Nat.ne_of_lt (Nat.lt_of_lt_of_le (Heap.lt_size q) hp))]; exact n
 there := fun b u q _ => ⟨u, k b u q⟩
 tups := fun b xs q => by rw [zQ (yK q hn)]; exact q
 frzs := fun b u xs q => by rw [zQ (yK q hn)]; exact q
 tbls := fun b ps q => ⟨#[], by rw [zQ (yK q hn), q]; simp⟩
theorem Un.write (mu : Mut (H x)) (he : e = x \/ H e = some (.own x)) (k : ∀ b u, b ≠ e -> h.get? b = some u -> h'.get? b = some u) (heo : ∃ u, h'.get? e = some u) : Un fs ex H (upd H x o) h h' := by
 have hx : ∀ b, H b = none -> b ≠ x := fun b n z => by subst z; rw [n] at mu; exact mu
 have hb : ∀ b, H b = none -> b ≠ e := fun b n z => by
   subst z
   rcases he with r | r
   · exact hx b n r
   · rw [n] at r; cases r
 have hm : ∀ b u, H b = some u -> ¬ Mut (some u) -> b ≠ x := fun b u q nm z => by subst z; rw [q] at mu; exact nm mu
 refine ⟨fun b u q n _ _ => k b u (hb b n) q, fun b u q n _ _ => ⟨u.slots, k b u (hb b n) q⟩, fun b u q n _ => by rw [zQ (hx b n)]; exact n, fun b u q _ => ?_,
   fun b xs q => by rw [zQ (hm b _ q fun z => z)]; exact q, fun b u xs q => by rw [zQ (hm b _ q fun z => z)]; exact q, fun b ps q => ⟨#[], by rw [zQ (hm b _ q fun z => z), q]; simp⟩⟩
 by_cases hbe : b = e
 · subst hbe; exact heo
 · exact ⟨u, k b u hbe q⟩
end
def trk (h : Heap) (H : Hp) : List Addr := (List.range h.objs.size).filter fun a => (H a).isSome
def wW (h : Heap) (H : Hp) : Heap := PySem.W.hideAll h (trk h H)
theorem hidT_size (h : Heap) (H : Hp) : (wW h H).objs.size = h.objs.size := PySem.W.hideAll_size _ _
theorem hidT_get {h : Heap} {H : Hp} {b : Addr} {o : Obj} (e : h.get? b = some o) (n : H b = none) : (wW h H).get? b = some o :=
 PySem.W.hideAll_get _ e fun hm => by
   have q : (H b).isSome = true := (List.mem_filter.mp hm).2
   rw [n] at q; simp at q
theorem of_hidT {h : Heap} {H : Hp} {b : Addr} {o : Obj} (e : (wW h H).get? b = some o) : h.get? b = some o /\ H b = none := by
 have e' : h.get? b = some o := PySem.W.of_hideAll (trk h H) e
 refine ⟨e', ?_⟩
 cases q : H b with
 | none => rfl
 | some x =>
   have hm : b ∈ trk h H := List.mem_filter.mpr ⟨List.mem_range.mpr (Heap.lt_size e'), by simp [q]⟩
   have z : (wW h H).get? b = none := PySem.W.hideAll_none (trk h H) hm
   rw [z] at e; cases e
def allNews (g h : Heap) (L : Addr) : List (Addr × Obj) := (List.range h.objs.size).filterMap fun a => if a = L \/ (g.get? a).isSome = true then none else (h.get? a).map fun o => (a, o)
def rest (g h : Heap) (L d : Addr) : List (Addr × Obj) := (allNews g h L).filter fun p => decide (p.1 ≠ d)
structure Mod (K : PySem.W.Frag) (mg : Str -> Option Value) (base : Heap) : Prop where
 kin : K.In base
 glob : base.Ns mainGlobals mg
 blt : ∃ mb, base.Ns builtinsNs mb /\ ∀ x : Str, x ≠ "__name__" -> mb x = bootBuiltins x
 nolimit : base.NoLimit
structure Cx where
 prog : Program
 w : World
 K : PySem.W.Frag
 mg : Str -> Option Value
 base : Heap
 A : Around
 N : List Str
 s₀ : Shared
 H₀ : Hp
 env : Env
 outer : List Env
 stack : List Env
 ex : List Addr
 fn : Str -> Bool
 calm : Bool
 pn : List (Addr × Obj)
 xe : Value -> Shared -> Prop
def frs (l : List Env) : List Addr := l.filterMap (·.frame)
abbrev Cx.fs (X : Cx) : List Addr := frs X.outer
def Vis (sc : Scope) (x : Str) : Prop := sc.names.lookup x = some .local \/ sc.names.lookup x = some .cell \/ sc.names.lookup x = some .free
def Loc (sc : Scope) (x : Str) : Prop := sc.names.lookup x = some .local \/ sc.names.lookup x = some .cell
def Look (env : Env) (h : Heap) (m : Str -> Option Value) (x : Str) (u : Value) : Prop :=
 (env.kindOf x = some .local /\ m x = some u) \/ ((env.kindOf x = some .cell \/ env.kindOf x = some .free) /\ ∃ c, env.cells.lookup x = some c /\ h.IsCell c (some u))
structure Cx.Ok (X : Cx) : Prop where
 mod : Mod X.K X.mg X.base
 kind : X.env.scope.kind = .function
 glob : X.env.globals = mainGlobals
 blt : X.env.builtins = builtinsNs
 above : X.s₀.heap.objs.size <= X.env.locals
 inj : ∀ x y c, X.env.cells.lookup x = some c -> X.env.cells.lookup y = some c -> x = y
 has : ∀ x, (X.env.kindOf x = some .cell \/ X.env.kindOf x = some .free) -> ∃ c, X.env.cells.lookup x = some c
 cab : ∀ x c, X.fn x = true -> X.env.cells.lookup x = some c -> X.s₀.heap.objs.size <= c
 hd : X.calm = true -> X.A.handled = none
 frames : X.A.frames = some X.stack
 stk : X.stack = X.outer \/ (X.stack = X.env :: X.outer /\ X.env.frame = some X.env.locals)
 exf : ∀ b ∈ X.ex, b ≠ X.env.locals /\ ∀ x c, X.env.cells.lookup x = some c -> c ≠ b
 bs : ∀ b o, X.base.get? b = some o -> X.s₀.heap.get? b = some o /\ X.H₀ b = none
 bsz : X.base.objs.size <= X.s₀.heap.objs.size
 noex : ∀ b o, X.base.get? b = some o -> b ∉ X.ex
 exfs : ∀ b ∈ X.ex, b ∉ X.fs
 funs : X.s₀.heap.FunFrames X.base X.outer
 frf : ∀ b ∈ X.fs, X.H₀ b = none
structure Inv (X : Cx) (pins : List (Addr × Obj)) (σ : List (Option V)) (H : Hp) (s : Shared) : Prop where
 ok : X.Ok
 os : s.os = X.s₀.os
 bare : AllBare s.gens
 base : Un X.fs X.ex X.H₀ H X.s₀.heap s.heap
 loc : ∃ m, s.heap.Ns X.env.locals m /\ ∀ (i : Nat) (x : Str) (v : V), X.N[i]? = some x -> σ[i]? = some (some v) -> Vis X.env.scope x -> ∃ u, RelV v u /\ Look X.env s.heap m x u
 cell : ∀ x c, X.env.cells.lookup x = some c -> ∃ v, s.heap.IsCell c v
 free : H X.env.locals = none
 freeC : ∀ x c, X.env.cells.lookup x = some c -> H c = none
 pin : ∀ p ∈ X.pn ++ pins, s.heap.get? p.1 = some p.2 /\ H p.1 = none /\ p.1 ≠ X.env.locals /\ p.1 ∉ X.fs /\ ∀ v, p.2.data ≠ .cell v
 hok : HOk X.prog X.w H s.heap
 len : σ.length = X.N.length
section
variable {X : Cx} {pins : List (Addr × Obj)} {σ : List (Option V)} {H H' : Hp} {s : Shared} {h' : Heap}
theorem Cx.Ok.nofr (ok : X.Ok) {b : Addr} {o : Obj} (e : X.base.get? b = some o) : b ∉ X.fs := fun hb => by
 have := (ok.funs.mem hb).1
 rw [e] at this; cases this
theorem Inv.bs (I : Inv X pins σ H s) : ∀ b o, X.base.get? b = some o -> s.heap.get? b = some o /\ H b = none := fun b o e =>
 ⟨I.base.keep b o (I.ok.bs b o e).1 (I.ok.bs b o e).2 (I.ok.nofr e) (I.ok.noex b o e), I.base.free b o (I.ok.bs b o e).1 (I.ok.bs b o e).2 (I.ok.noex b o e)⟩
theorem Inv.bk (I : Inv X pins σ H s) : ∀ b o, X.base.get? b = some o -> s.heap.get? b = some o := fun b o e => (I.bs b o e).1
theorem Inv.mod (I : Inv X pins σ H s) : Mod X.K X.mg X.base := I.ok.mod
theorem Inv.kIn (I : Inv X pins σ H s) : X.K.In s.heap := I.ok.mod.kin.keeps I.bk
theorem Inv.lt (I : Inv X pins σ H s) : X.env.locals < s.heap.objs.size := let ⟨_, hn, _⟩ := I.loc; hn.lt
theorem Inv.sz (I : Inv X pins σ H s) : X.s₀.heap.objs.size <= s.heap.objs.size := Nat.le_trans I.ok.above (Nat.le_of_lt I.lt)
theorem Inv.nofs (I : Inv X pins σ H s) {a : Addr} (h : s.heap.objs.size <= a) : a ∉ X.fs := fun hb => by
 obtain ⟨_, o, ho, _⟩ := I.ok.funs.mem hb
 exact absurd (Nat.lt_of_lt_of_le (Heap.lt_size ho) (Nat.le_trans I.sz h)) (Nat.lt_irrefl _)
theorem Inv.cne (I : Inv X pins σ H s) : ∀ x c, X.env.cells.lookup x = some c -> c ≠ X.env.locals := fun x c e z => by
 obtain ⟨v, o, ho, hd⟩ := I.cell x c e
 obtain ⟨m, ⟨o', es, ep, ho', hd', _⟩, _⟩ := I.loc
 rw [z, ho'] at ho; cases ho; rw [hd'] at hd; cases hd
theorem Inv.funs (I : Inv X pins σ H s) : s.heap.FunFrames X.base X.outer := by
 have all : ∀ (l : List Env), (∀ b ∈ frs l, b ∈ X.fs) -> X.s₀.heap.FunFrames X.base l -> s.heap.FunFrames X.base l := by
   intro l
   induction l with
   | nil => intro _ _; trivial
   | cons env r ih =>
     intro hs hl
     obtain ⟨hk, ⟨L, o, hf, hn, ho, hd⟩, hr⟩ := hl
     have hL : L ∈ X.fs := hs L (by unfold frs; rw [List.filterMap_cons, hf]; exact List.mem_cons_self)
     obtain ⟨sl, e⟩ := I.base.slot L o ho (I.ok.frf L hL) hL fun z => I.ok.exfs L z hL
     exact ⟨hk, ⟨L, _, hf, hn, e, hd⟩, ih (fun b hb => hs b (by unfold frs; rw [List.filterMap_cons, hf]; exact List.mem_cons_of_mem _ hb)) hr⟩
 exact all X.outer (fun _ hb => hb) I.ok.funs
theorem Inv.stack (I : Inv X pins σ H s) : s.heap.FunFrames X.base X.stack := by
 rcases I.ok.stk with e | ⟨e, hf⟩
 · rw [e]; exact I.funs
 · rw [e]
   obtain ⟨m, hn, _⟩ := I.loc
   refine .cons (by rw [I.ok.kind]; decide) hf hn ?_ I.funs
   exact Heap.get?_none_of_le (Nat.le_trans I.ok.bsz I.ok.above)
theorem Inv.stkSub (I : Inv X pins σ H s) : ∀ b ∈ frs X.stack, b ∈ X.env.locals :: X.fs := fun b hb => by
 rcases I.ok.stk with e | ⟨e, hf⟩
 · rw [e] at hb; exact List.mem_cons_of_mem _ hb
 · rw [e] at hb
   unfold frs at hb
   rw [List.filterMap_cons, hf] at hb
   exact hb
theorem Inv.stkFree (I : Inv X pins σ H s) : ∀ b ∈ frs X.stack, H b = none := fun b hb => by
 rcases List.mem_cons.mp (I.stkSub b hb) with e | hb
 · rw [e]; exact I.free
 · obtain ⟨_, o, ho, _⟩ := I.ok.funs.mem hb
   exact I.base.free b o ho (I.ok.frf b hb) fun z => I.ok.exfs b z hb
theorem Inv.step {g' : Array GenState} {t' : Nat} {d' : Drawn} {ch : List Addr} (I : Inv X pins σ H s)
   (hch : ∀ b ∈ ch, (b ∈ X.ex \/ X.s₀.heap.objs.size <= b) /\ b ≠ X.env.locals /\ (∀ x c, X.env.cells.lookup x = some c -> c ≠ b) /\ ∀ p ∈ X.pn ++ pins, p.1 ≠ b)
   (keep : ∀ b o, b ≠ X.env.locals -> b ∉ X.fs -> b ∉ ch -> s.heap.get? b = some o -> H b = none -> h'.get? b = some o)
   (slot : ∀ b o, b ≠ X.env.locals -> b ∈ X.fs -> b ∉ ch -> s.heap.get? b = some o -> H b = none -> ∃ sl, h'.get? b = some { o with slots := sl }) (free : ∀ b o, b ∉ ch -> s.heap.get? b = some o -> H b = none -> H' b = none)
   (there : ∀ b o, b ∉ ch -> s.heap.get? b = some o -> ∃ o', h'.get? b = some o')
   (tups : ∀ b xs, H b = some (.tup xs) -> H' b = some (.tup xs)) (frzs : ∀ b o u, H b = some (.frz o u) -> H' b = some (.frz o u)) (tbls : ∀ b ps, H b = some (.tbl ps) -> ∃ more, H' b = some (.tbl (ps ++ more)))
   (ns : ∀ m, s.heap.Ns X.env.locals m -> h'.Ns X.env.locals m) (hok : HOk X.prog X.w H' h') (hg : AllBare g') :
   Inv X pins σ H' { s with heap := h', gens := g', drawn := d', toks := t' } := by
 have neL : ∀ b o, X.s₀.heap.get? b = some o -> b ≠ X.env.locals := fun b o e => Nat.ne_of_lt (Nat.lt_of_lt_of_le (Heap.lt_size e) I.ok.above)
 have neC : ∀ b o, X.s₀.heap.get? b = some o -> b ∉ X.ex -> b ∉ ch := fun b o e hx hb => by
   rcases (hch b hb).1 with z | z
   · exact hx z
   · exact absurd (Nat.lt_of_lt_of_le (Heap.lt_size e) z) (Nat.lt_irrefl _)
 have cellK : ∀ x c, X.env.cells.lookup x = some c -> ∀ v, s.heap.IsCell c v -> h'.IsCell c v := fun x c e v ⟨o, ho, hd⟩ => by
   have nch : c ∉ ch := fun z => (hch c z).2.2.1 x c e rfl
   by_cases hc : c ∈ X.fs
   · obtain ⟨sl, q⟩ := slot c o (I.cne x c e) hc nch ho (I.freeC x c e)
     exact ⟨_, q, hd⟩
   · exact ⟨o, keep c o (I.cne x c e) hc nch ho (I.freeC x c e), hd⟩
 refine ⟨I.ok, I.os, hg, ⟨fun b o e n hb hx => ?_, fun b o e n hb hx => ?_, fun b o e n hx => ?_, fun b o e hx => ?_, fun b xs e => tups b xs (I.base.tups b xs e), fun b o xs e => frzs b o xs (I.base.frzs b o xs e), fun b ps e => ?_⟩, ?_, fun x c e => ?_, ?_, fun x c e => ?_, fun p hp => ?_, hok, I.len⟩
 · exact keep b o (neL b o e) hb (neC b o e hx) (I.base.keep b o e n hb hx) (I.base.free b o e n hx)
 · obtain ⟨sl, e1⟩ := I.base.slot b o e n hb hx
   obtain ⟨sl', e2⟩ := slot b _ (neL b o e) hb (neC b o e hx) e1 (I.base.free b o e n hx)
   exact ⟨sl', e2⟩
 · obtain ⟨o', e1⟩ := I.base.there b o e hx
   exact free b o' (neC b o e hx) e1 (I.base.free b o e n hx)
 · obtain ⟨o', e1⟩ := I.base.there b o e hx
   exact there b o' (neC b o e hx) e1
 · obtain ⟨m1, e1⟩ := I.base.tbls b ps e
   obtain ⟨m2, e2⟩ := tbls b _ e1
   exact ⟨m1 ++ m2, by rw [e2, Array.append_assoc]⟩
 · obtain ⟨m, hn, hl⟩ := I.loc
   refine ⟨m, ns m hn, fun i x v e1 e2 e3 => ?_⟩
   obtain ⟨u, r, l⟩ := hl i x v e1 e2 e3
   refine ⟨u, r, ?_⟩
   rcases l with l | ⟨k, c, e, z⟩
   · exact .inl l
   · exact .inr ⟨k, c, e, cellK x c e _ z⟩
 · obtain ⟨v, z⟩ := I.cell x c e
   exact ⟨v, cellK x c e v z⟩
 · obtain ⟨m, ⟨o, _, _, ho, _⟩, _⟩ := I.loc
   exact free _ o (fun z => (hch _ z).2.1 rfl) ho I.free
 · obtain ⟨v, o, ho, hd⟩ := I.cell x c e
   exact free c o (fun z => (hch c z).2.2.1 x c e rfl) ho (I.freeC x c e)
 · obtain ⟨e, n, ne, nf, d⟩ := I.pin p hp
   have nch : p.1 ∉ ch := fun z => (hch p.1 z).2.2.2 p hp rfl
   exact ⟨keep p.1 p.2 ne nf nch e n, free p.1 p.2 nch e n, ne, nf, d⟩
theorem Inv.un {t' : Nat} (I : Inv X pins σ H s) (u : Un X.fs [] H H' s.heap h') (hok : HOk X.prog X.w H' h') : Inv X pins σ H' { s with heap := h', toks := t' } := by
 obtain ⟨m, ⟨o, es, ep, ho, r⟩, _⟩ := id I.loc
 obtain ⟨sl, hL⟩ := u.any ho I.free (by simp)
 exact I.step (g' := s.gens) (d' := s.drawn) (ch := []) (fun _ z => nomatch z) (fun b o _ hb _ e n => u.keep b o e n hb (by simp)) (fun b o _ hb _ e n => u.slot b o e n hb (by simp)) (fun b o _ e n => u.free b o e n (by simp)) (fun b o _ e => u.there b o e (by simp)) u.tups u.frzs u.tbls (fun m' hm => by
   obtain ⟨o', es', ep', ho', r'⟩ := hm
   rw [ho] at ho'; cases ho'
   exact ⟨_, es', ep', hL, r'⟩) hok I.bare
theorem Inv.call {g' : Array GenState} {t' : Nat} {d' : Drawn} {ch : List Addr} (I : Inv X pins σ H s) (u : Un (frs X.stack) ch H H' s.heap h') (hok : HOk X.prog X.w H' h') (hg : AllBare g')
   (hch : ∀ b ∈ ch, (b ∈ X.ex \/ X.s₀.heap.objs.size <= b) /\ b ≠ X.env.locals /\ (∀ x c, X.env.cells.lookup x = some c -> c ≠ b) /\ ∀ p ∈ X.pn ++ pins, p.1 ≠ b) :
   Inv X pins σ H' { s with heap := h', gens := g', drawn := d', toks := t' } := by
 obtain ⟨m, ⟨o, es, ep, ho, r⟩, _⟩ := id I.loc
 obtain ⟨sl, hL⟩ := u.any ho I.free fun z => (hch _ z).2.1 rfl
 exact I.step (ch := ch) hch (fun b o hL hb hc e n => u.keep b o e n (fun z => (List.mem_cons.mp (I.stkSub b z)).elim hL hb) hc) (fun b o _ _ hc e n => u.any e n hc) (fun b o hc e n => u.free b o e n hc) (fun b o hc e => u.there b o e hc) u.tups u.frzs u.tbls (fun m' hm => by
   obtain ⟨o', es', ep', ho', r'⟩ := hm
   rw [ho] at ho'; cases ho'
   exact ⟨_, es', ep', hL, r'⟩) hok hg
theorem Inv.turned {t' : Nat} {it : Addr} (I : Inv X pins σ H s) (k : ∀ b o, b ≠ it -> s.heap.get? b = some o -> h'.get? b = some o) (hn : H it = none) (hL : it ≠ X.env.locals)
   (h1 : it ∈ X.ex \/ X.s₀.heap.objs.size <= it) (h2 : ∀ x c, X.env.cells.lookup x = some c -> c ≠ it) (h3 : ∀ p ∈ X.pn ++ pins, p.1 ≠ it) : Inv X pins σ H { s with heap := h', toks := t' } := by
 have nit : ∀ b u, H b = some u -> b ≠ it := fun b u e z => by rw [z, hn] at e; cases e
 refine I.step (g' := s.gens) (d' := s.drawn) (ch := [it]) (fun b hb => ?_) (fun b o _ _ hc e _ => k b o (fun z => hc (by simp [z])) e) (fun b o _ _ hc e _ => ⟨o.slots, k b o (fun z => hc (by simp [z])) e⟩) (fun _ _ _ _ n => n)
   (fun b o hc e => ⟨o, k b o (fun z => hc (by simp [z])) e⟩) (fun _ _ e => e) (fun _ _ _ e => e) (fun b ps e => ⟨#[], by rw [e]; simp⟩) (fun m hm => ?_) (fun b u e => ?_) I.bare
 · have e : b = it := by simpa using hb
   subst e
   exact ⟨h1, hL, h2, h3⟩
 · obtain ⟨o, es, ep, ho, r⟩ := hm
   exact ⟨o, es, ep, k _ o (Ne.symm hL) ho, r⟩
 · refine (I.hok b u e).stay (fun c v hc q => k c v ?_ q) (fun _ q => q) fun _ _ q => q
   rcases hc with z | z
   · rw [z]; exact nit b u e
   · exact nit c _ z
theorem Inv.tok (I : Inv X pins σ H s) (t : Nat) : Inv X pins σ H { s with toks := t } := I.un (h' := s.heap) (t' := t) Un.refl I.hok
theorem Inv.kept {t' : Nat} (I : Inv X pins σ H s) (k : ∀ b u, s.heap.get? b = some u -> h'.get? b = some u) : Inv X pins σ H { s with heap := h', toks := t' } := I.un (Un.kept k) (I.hok.kept k)
theorem Inv.laid {a : Addr} {o : HO} {t' : Nat} (I : Inv X pins σ H s) (k : ∀ b u, s.heap.get? b = some u -> h'.get? b = some u) (hp : s.heap.objs.size <= a) (new : ObjOk X.prog X.w (upd H a o) h' a o) :
   Inv X pins σ (upd H a o) { s with heap := h', toks := t' } := I.un (Un.laid k hp (I.hok.fresh hp)) (I.hok.laid k hp new)
theorem Inv.write {x e : Addr} {o : HO} {t' : Nat} (I : Inv X pins σ H s) (mu : Mut (H x)) (he : e = x \/ H e = some (.own x)) (k : ∀ b u, b ≠ e -> s.heap.get? b = some u -> h'.get? b = some u) (heo : ∃ u, h'.get? e = some u)
   (new : ObjOk X.prog X.w (upd H x o) h' x o) : Inv X pins σ (upd H x o) { s with heap := h', toks := t' } := I.un (Un.write mu he k heo) (I.hok.write mu he k heo new)
theorem Inv.pins_of {pins' : List (Addr × Obj)} (I : Inv X pins σ H s) (h : ∀ p ∈ pins', s.heap.get? p.1 = some p.2 /\ H p.1 = none /\ p.1 ≠ X.env.locals /\ p.1 ∉ X.fs /\ ∀ v, p.2.data ≠ .cell v) : Inv X pins' σ H s :=
 ⟨I.ok, I.os, I.bare, I.base, I.loc, I.cell, I.free, I.freeC, fun p hp => (List.mem_append.mp hp).elim (fun z => I.pin p (List.mem_append_left _ z)) (h p), I.hok, I.len⟩
theorem uT {N : List Str} (hN : N.Nodup) {i j : Nat} {x : Str} (a : N[i]? = some x) (b : N[j]? = some x) : i = j := by
 obtain ⟨h1, e1⟩ := List.getElem?_eq_some_iff.mp a
 obtain ⟨h2, e2⟩ := List.getElem?_eq_some_iff.mp b
 exact (List.getElem_inj hN).mp (e1.trans e2.symm)
theorem qJ {M : Model} {A : Around} {E : Value -> Shared -> Prop} {i : Nat} {x : Str} {v : V} {u : Value} {Q : Unit -> Shared -> Prop} (I : Inv X pins σ H s) (hN : X.N.Nodup) (hi : X.N[i]? = some x) (hx : Loc X.env.scope x) (r : RelV v u)
   (h : ∀ s', Inv X pins (σ.set i (some v)) H s' -> (∃ a, Heap.SameBut a s.heap s'.heap /\ (a = X.env.locals \/ X.env.cells.lookup x = some a)) -> Q () s') (hf : X.fn x = true \/ X.env.scope.names.lookup x = some .local := by first | exact .inl rfl | exact .inr rfl | assumption) : wpAny M A (storeName X.env x u) Q E s := by
 obtain ⟨m, hn, hl⟩ := id I.loc
 have hcls : (X.env.scope.kind == .class || (X.env.scope.kind == .module && X.env.locals != X.env.globals)) = false := by rw [I.ok.kind]; rfl
 have hiσ : i < σ.length := by rw [I.len]; exact (List.getElem?_eq_some_iff.mp hi).1
 have cne := I.cne
 have tracked : ∀ {a : Addr} {h' : Heap}, (∃ o, s.heap.get? a = some o /\ H a = none) -> Heap.SameBut a s.heap h' -> HOk X.prog X.w H h' := fun {a h'} ha hs b ob e => by
   obtain ⟨_, _, hfree⟩ := ha
   refine (I.hok b ob e).stay (fun c w' hc q => (hs.2 c ?_).trans q) (fun _ q => q) fun _ _ q => q
   rintro rfl
   rcases hc with rfl | hc
   · rw [hfree] at e; cases e
   · rw [hfree] at hc; cases hc
 rcases hx with hk | hk
 · refine wpAny_storeName_local hk hn (fun h' hn' hs => ?_) hcls
   obtain ⟨oL, _, _, hoL, _⟩ := id hn
   refine h _ ⟨I.ok, I.os, I.bare, ⟨fun b o e n hb hx => ?_, fun b o e n hb hx => ?_, I.base.free, fun b o e hx => ?_, I.base.tups, I.base.frzs, I.base.tbls⟩, ⟨_, hn', fun j y v' e1 e2 e3 => ?_⟩, fun y c e => ?_, I.free, I.freeC, fun p hp => ?_, tracked ⟨oL, hoL, I.free⟩ hs, by simpa using I.len⟩ ⟨_, hs, .inl rfl⟩
   · exact (hs.2 b (Nat.ne_of_lt (Nat.lt_of_lt_of_le (Heap.lt_size e) I.ok.above))).trans (I.base.keep b o e n hb hx)
   · obtain ⟨sl, e1⟩ := I.base.slot b o e n hb hx
     exact ⟨sl, (hs.2 b (Nat.ne_of_lt (Nat.lt_of_lt_of_le (Heap.lt_size e) I.ok.above))).trans e1⟩
   · obtain ⟨o', e1⟩ := I.base.there b o e hx
     exact ⟨o', (hs.2 b (Nat.ne_of_lt (Nat.lt_of_lt_of_le (Heap.lt_size e) I.ok.above))).trans e1⟩
   · by_cases hj : j = i
     · subst hj
       rw [hi] at e1; cases e1
       rw [List.getElem?_set_self hiσ] at e2
       cases e2
       exact ⟨u, r, .inl ⟨hk, by simp⟩⟩
     · rw [List.getElem?_set_ne (Ne.symm hj)] at e2
       obtain ⟨u', r', q⟩ := hl j y v' e1 e2 e3
       refine ⟨u', r', ?_⟩
       rcases q with ⟨k, e⟩ | ⟨k, c, e, z⟩
       · refine .inl ⟨k, ?_⟩
         have : y ≠ x := fun e => hj (uT hN e1 (e ▸ hi))
         simp [this, e]
       · exact .inr ⟨k, c, e, z.sameBut hs (cne y c e)⟩
   · obtain ⟨w', z⟩ := I.cell y c e
     exact ⟨w', z.sameBut hs (cne y c e)⟩
   · obtain ⟨e, n, ne, nf, d⟩ := I.pin p hp
     exact ⟨(hs.2 p.1 ne).trans e, n, ne, nf, d⟩
 · have hfn : X.fn x = true := by
     rcases hf with z | z
     · exact z
     · rw [z] at hk; cases hk
   obtain ⟨c, hc⟩ := I.ok.has x (.inl hk)
   obtain ⟨w', z⟩ := I.cell x c hc
   refine wpAny_storeName_cell I.ok.kind hk hc z (fun h' hc' hs => ?_)
   obtain ⟨oc, hoc, hocd⟩ := id z
   refine h { s with heap := h' } ⟨I.ok, I.os, I.bare, ⟨fun b o e n hb hx => ?_, fun b o e n hb hx => ?_, I.base.free, fun b o e hx => ?_, I.base.tups, I.base.frzs, I.base.tbls⟩, ⟨m, hn.sameBut hs (Ne.symm (cne x c hc)), fun j y v' e1 e2 e3 => ?_⟩, fun y c' e => ?_, I.free, I.freeC, fun p hp => ?_, tracked ⟨oc, hoc, I.freeC x c hc⟩ hs, by simpa using I.len⟩ ⟨c, hs, .inr hc⟩
   · exact (hs.2 b (Nat.ne_of_lt (Nat.lt_of_lt_of_le (Heap.lt_size e) (I.ok.cab x c hfn hc)))).trans (I.base.keep b o e n hb hx)
   · obtain ⟨sl, e1⟩ := I.base.slot b o e n hb hx
     exact ⟨sl, (hs.2 b (Nat.ne_of_lt (Nat.lt_of_lt_of_le (Heap.lt_size e) (I.ok.cab x c hfn hc)))).trans e1⟩
   · obtain ⟨o', e1⟩ := I.base.there b o e hx
     exact ⟨o', (hs.2 b (Nat.ne_of_lt (Nat.lt_of_lt_of_le (Heap.lt_size e) (I.ok.cab x c hfn hc)))).trans e1⟩
   · by_cases hj : j = i
     · subst hj
       rw [hi] at e1; cases e1
       rw [List.getElem?_set_self hiσ] at e2
       cases e2
       exact ⟨u, r, .inr ⟨.inl hk, c, hc, hc'⟩⟩
     · rw [List.getElem?_set_ne (Ne.symm hj)] at e2
       obtain ⟨u', r', q⟩ := hl j y v' e1 e2 e3
       refine ⟨u', r', ?_⟩
       rcases q with q | ⟨k, c', e, z'⟩
       · exact .inl q
       · refine .inr ⟨k, c', e, z'.sameBut hs ?_⟩
         rintro rfl
         exact hj (uT hN e1 (I.ok.inj _ _ _ e hc ▸ hi))
   · by_cases hcc : c' = c
     · subst hcc; exact ⟨_, hc'⟩
     · obtain ⟨w2, z2⟩ := I.cell y c' e
       exact ⟨w2, z2.sameBut hs hcc⟩
   · obtain ⟨e, n, ne, nf, d⟩ := I.pin p hp
     refine ⟨(hs.2 p.1 ?_).trans e, n, ne, nf, d⟩
     intro q
     rw [q, hoc] at e
     have q' : oc = p.2 := Option.some.inj e
     exact d w' (by rw [← q']; exact hocd)
theorem jL {M : Model} {A : Around} {E : Value -> Shared -> Prop} {i : Nat} {x : Str} {v : V} {u : Value} {Q : Unit -> Shared -> Prop} (I : Inv X pins σ H s) (hN : X.N.Nodup) (hi : X.N[i]? = some x) (hx : Loc X.env.scope x) (r : RelV v u)
   (h : ∀ s', Inv X pins (σ.set i (some v)) H s' -> Q () s') (hf : X.fn x = true \/ X.env.scope.names.lookup x = some .local := by first | exact .inl rfl | exact .inr rfl | assumption) : wpAny M A (storeName X.env x u) Q E s :=
 qJ I hN hi hx r (fun s' I' _ => h s' I') hf
theorem Inv.call' {s' : Shared} {ch : List Addr} (I : Inv X pins σ H s) (ho : s'.os = s.os) (u : Un (frs X.stack) ch H H' s.heap s'.heap) (hok : HOk X.prog X.w H' s'.heap) (hg : AllBare s'.gens)
   (hch : ∀ b ∈ ch, (b ∈ X.ex \/ X.s₀.heap.objs.size <= b) /\ b ≠ X.env.locals /\ (∀ x c, X.env.cells.lookup x = some c -> c ≠ b) /\ ∀ p ∈ X.pn ++ pins, p.1 ≠ b) : Inv X pins σ H' s' := by
 obtain ⟨h', g', d', t', o'⟩ := s'
 have e : o' = s.os := ho
 subst e
 exact I.call (g' := g') (t' := t') (d' := d') u hok hg hch
end
abbrev XK := Value -> Option Addr -> Hp -> Prop
abbrev St := List (Option V)
abbrev VK := V -> Hp -> Prop
abbrev TE := St -> Hp -> VK -> Prop
abbrev TT := St -> Hp -> (Bool -> Hp -> Prop) -> Prop
abbrev TA := St -> Hp -> (List V -> Hp -> Prop) -> Prop
structure Ends where
 nx : St -> Hp -> Prop
 rt : VK
 bk : St -> Hp -> Prop := fun _ _ => False
 ct : St -> Hp -> Prop := fun _ _ => False
abbrev TS := Ends -> St -> Hp -> Prop
def EP (X : Cx) (pins : List (Addr × Obj)) (σ : St) (Q : VK) (u : Value) (s' : Shared) : Prop := ∃ v H', Inv X pins σ H' s' /\ RelV v u /\ Q v H'
def TP (X : Cx) (pins : List (Addr × Obj)) (σ : St) (Q : Bool -> Hp -> Prop) (b : Bool) (s' : Shared) : Prop := ∃ H', Inv X pins σ H' s' /\ Q b H'
def AP (X : Cx) (pins : List (Addr × Obj)) (σ : St) (Q : List V -> Hp -> Prop) (us : List Value) (s' : Shared) : Prop := ∃ vs H', Inv X pins σ H' s' /\ Vals vs us /\ Q vs H'
def SP (X : Cx) (pins : List (Addr × Obj)) (D : Ends) (f : Flow) (s' : Shared) : Prop :=
 match f with
 | .next => ∃ σ' H', Inv X pins σ' H' s' /\ D.nx σ' H'
 | .brk => ∃ σ' H', Inv X pins σ' H' s' /\ D.bk σ' H'
 | .cont => ∃ σ' H', Inv X pins σ' H' s' /\ D.ct σ' H'
 | .ret u => ∃ v σ' H', Inv X pins σ' H' s' /\ RelV v u /\ D.rt v H'
def PE (X : Cx) (e : Expr) (t : TE) : Prop :=
 ∀ (pins : List (Addr × Obj)) (s : Shared) (σ : St) (H : Hp) (Q : VK), Inv X pins σ H s -> t σ H Q -> wpAny (model X.prog X.w) X.A (eval e X.env) (EP X pins σ Q) X.xe s
def PT (X : Cx) (e : Expr) (t : TT) : Prop :=
 ∀ (pins : List (Addr × Obj)) (s : Shared) (σ : St) (H : Hp) (Q : Bool -> Hp -> Prop), Inv X pins σ H s -> t σ H Q -> wpAny (model X.prog X.w) X.A (isTrue e X.env (eval e X.env)) (TP X pins σ Q) X.xe s
def PW (X : Cx) (e : Expr) (t : TT) : Prop :=
 ∀ (whole : Sem Value) (pins : List (Addr × Obj)) (s : Shared) (σ : St) (H : Hp) (Q : Bool -> Hp -> Prop), Inv X pins σ H s -> t σ H Q -> wpAny (model X.prog X.w) X.A (isTrue e X.env whole) (TP X pins σ Q) X.xe s
theorem PW.pt {X : Cx} {e : Expr} {t : TT} (h : PW X e t) : PT X e t := h _
def PA (X : Cx) (es : List Expr) (t : TA) : Prop :=
 ∀ (pos : Pos) (pins : List (Addr × Obj)) (s : Shared) (σ : St) (H : Hp) (Q : List V -> Hp -> Prop), Inv X pins σ H s -> t σ H Q -> wpAny (model X.prog X.w) X.A (spliced (backTo pos (starEach es X.env))) (AP X pins σ Q) X.xe s
def PS (X : Cx) (st : Stmt) (t : TS) : Prop :=
 ∀ (pins : List (Addr × Obj)) (s : Shared) (σ : St) (H : Hp) (D : Ends), Inv X pins σ H s -> t D σ H -> wpAny (model X.prog X.w) X.A (exec st X.env) (SP X pins D) X.xe s
def PSs (X : Cx) (st : List Stmt) (t : TS) : Prop :=
 ∀ (pins : List (Addr × Obj)) (s : Shared) (σ : St) (H : Hp) (D : Ends), Inv X pins σ H s -> t D σ H -> wpAny (model X.prog X.w) X.A (execs st X.env) (SP X pins D) X.xe s
theorem thn {α : Type} {t : Sem α} {Q Q' : α -> Shared -> Prop} {M : Model} {A : Around} {E : Value -> Shared -> Prop} {s : Shared} (h : wpAny M A t Q E s) (hQ : ∀ a s, Q a s -> Q' a s) : wpAny M A t Q' E s := wpAny_mono h hQ fun _ _ x => x
section
variable {X : Cx}
def tVar (i : Nat) : TE := fun σ H Q => ∃ v, σ[i]? = some (some v) /\ Q v H
def tC (v : V) : TE := fun _ H Q => Q v H
theorem pe_var {i : Nat} {x : Str} {pos : Pos} (hN : X.N[i]? = some x) (hv : Vis X.env.scope x) (hd : (x == ("__debug__" : Str)) = false := by decide) (hcd : (x == ("__classdict__" : Str)) = false := by decide) : PE X (.Name x pos) (tVar i) := by
 intro pins s σ H Q I h
 obtain ⟨v, e, h⟩ := h
 obtain ⟨m, hn, hl⟩ := I.loc
 obtain ⟨u, r, l⟩ := hl i x v hN e hv
 have fin : EP X pins σ Q u s := ⟨v, H, I, r, h⟩
 rcases l with ⟨hk, hm⟩ | ⟨hk, c, hc, hcell⟩
 · exact wpAny_Name (wpAny_loadName_local I.ok.kind hk hn hm fin) hd
 · rcases hk with hk | hk
   · exact wpAny_Name (wpAny_loadName_cell I.ok.kind hk hc hcell fin) hd
   · exact wpAny_Name (wpAny_loadName_free I.ok.kind hk hc hcell fin hcd) hd
theorem zD {i j pos} : PE X (.Constant (.int i) j pos) (tC (.int i)) := fun _ _ _ H _ I h => wpAny_Constant_int ⟨.int i, H, I.tok _, ⟨_, rfl⟩, h⟩
theorem xH {b j pos} : PE X (.Constant (.bool b) j pos) (tC (.bl b)) := fun _ _ _ H _ I h => Constant_bool ⟨.bl b, H, I, rfl, h⟩
theorem pe_non {j pos} : PE X (.Constant .none j pos) (tC .non) := fun _ _ _ H _ I h => Constant_none ⟨.non, H, I, rfl, h⟩
theorem yA {x j pos} : PE X (.Constant (.str x) j pos) (tC (.str x)) := fun _ _ _ H _ I h => Calls.Constant_str ⟨.str x, H, I.tok _, ⟨_, rfl⟩, h⟩
def Gl (X : Cx) (x : Str) : Prop := X.env.kindOf x = some .globalImplicit
theorem jO {E : Value -> Shared -> Prop} {pins : List (Addr × Obj)} {s : Shared} {σ : St} {H : Hp} {x : Str} {u : Value} {pos : Pos} {Q : Value -> Shared -> Prop} (I : Inv X pins σ H s) (hg : Gl X x) (hm : X.mg x = some u) (h : Q u s)
   (hd : (x == ("__debug__" : Str)) = false := by decide) : wpAny (model X.prog X.w) X.A (eval (.Name x pos) X.env) Q E s :=
 Calls.Name_function_global I.ok.kind hg (Calls.loadGlobal_global (by rw [I.ok.glob]; exact I.mod.glob.keeps I.bk) hm h) hd
theorem jU {E : Value -> Shared -> Prop} {pins : List (Addr × Obj)} {s : Shared} {σ : St} {H : Hp} {x : Str} {u : Value} {pos : Pos} {Q : Value -> Shared -> Prop} (I : Inv X pins σ H s) (hg : Gl X x) (hm : X.mg x = none) (hv : bootBuiltins x = some u) (h : Q u s)
   (hn : x ≠ "__name__" := by decide) (hd : (x == ("__debug__" : Str)) = false := by decide) : wpAny (model X.prog X.w) X.A (eval (.Name x pos) X.env) Q E s := by
 obtain ⟨mb, h1, h2⟩ := I.mod.blt
 exact Calls.Name_function_global I.ok.kind hg (Calls.loadGlobal_builtin (by rw [I.ok.glob]; exact I.mod.glob.keeps I.bk) hm (by rw [I.ok.blt]; exact h1.keeps I.bk) ((h2 x hn).trans hv) h) hd
theorem pe_glob {x : Str} {v : V} {u : Value} {pos : Pos} (hg : Gl X x) (hm : X.mg x = some u) (r : RelV v u) (hd : (x == ("__debug__" : Str)) = false := by decide) : PE X (.Name x pos) (tC v) :=
 fun _ _ _ H _ I h => jO I hg hm ⟨v, H, I, r, h⟩ hd
theorem pe_bltn {x : Str} {v : V} {u : Value} {pos : Pos} (hg : Gl X x) (hm : X.mg x = none) (hv : bootBuiltins x = some u) (r : RelV v u) (hn : x ≠ "__name__" := by decide) (hd : (x == ("__debug__" : Str)) = false := by decide) : PE X (.Name x pos) (tC v) :=
 fun _ _ _ H _ I h => jU I hg hm hv ⟨v, H, I, r, h⟩ hn hd
variable {a b : Expr} {ta tb : TE} {pos : Pos}
def PC (X : Cx) (op : CmpOp) (a b : Expr) (t : TE) : Prop :=
 ∀ (pins : List (Addr × Obj)) (s : Shared) (σ : St) (H : Hp) (Q : VK), Inv X pins σ H s -> t σ H Q ->
   wpAny (model X.prog X.w) X.A (eval a X.env) (fun v s₁ => wpAny (model X.prog X.w) X.A (eval b X.env) (fun u s₂ => wpAny (model X.prog X.w) X.A (compareOp op v u) (EP X pins σ Q) X.xe s₂) X.xe s₁) X.xe s
theorem nobehind (b : Expr) {op : CmpOp} (h : op ≠ .In) (h2 : op ≠ .NotIn) : behindInMarks op b = false := by
 have e1 : (op == CmpOp.In) = false := by cases op <;> first | rfl | exact absurd rfl h
 have e2 : (op == CmpOp.NotIn) = false := by cases op <;> first | rfl | exact absurd rfl h2
 cases b <;> simp [behindInMarks, e1, e2]
def tB (t : TE) : TT := fun σ H Q => t σ H fun x H1 => ∃ c, x = .bl c /\ Q c H1
theorem pt_cmp {op : CmpOp} {t : TE} (h : PC X op a b t) (h1 : behindInMarks op b = false := by first | exact nobehind _ (by decide) (by decide) | rfl) : PT X (.Compare a [op] [b] pos) (tB t) := by
 intro pins s σ H Q I hw
 refine wpAny_isTrue_Compare1 (thn (h pins s σ H _ I hw) fun v s1 h1 => thn h1 fun u s2 h2 => thn h2 fun c s3 ⟨x, H1, I1, r1, q1⟩ => ?_) h1
 obtain ⟨d, rfl, q⟩ := q1
 cases r1
 exact wpAny_truthy_bool ⟨H1, I1, q⟩
theorem xU {e : Expr} {t : TE} (h : PE X e t) (he : ∀ whole, isTrue e X.env whole = (do let v ← whole; standAt e.pos; holding [v] (truthy v)) := by intro _; rfl) : PT X e (tB t) := by
 intro pins s σ H Q I hw
 refine isTrue_plain (thn (h pins s σ H _ I hw) fun v s1 ⟨x, H1, I1, r1, q1⟩ => ?_) (he _)
 obtain ⟨d, rfl, q⟩ := q1
 cases r1
 exact wpAny_truthy_bool ⟨H1, I1, q⟩
variable {tA tB' : TT} {rest : List Expr}
def tAnd (t u : TT) : TT := fun σ H Q => t σ H fun c H1 => if c = true then u σ H1 Q else Q false H1
def tOr (t u : TT) : TT := fun σ H Q => t σ H fun c H1 => if c = true then Q true H1 else u σ H1 Q
def tNot (t : TT) : TT := fun σ H Q => t σ H fun c H1 => Q (!c) H1
theorem wI (ha : PT X a tA) : PW X (.BoolOp .And [a] pos) tA := by
 intro wh pins s σ H Q I h
 refine isTrue_and (thn (ha pins s σ H Q I h) fun c s1 e => ?_)
 cases c with
 | true => exact isTrue_and_nil e
 | false => exact e
theorem wH (ha : PT X a tA) : PW X (.BoolOp .Or [a] pos) tA := by
 intro wh pins s σ H Q I h
 refine isTrue_or (thn (ha pins s σ H Q I h) fun c s1 e => ?_)
 cases c with
 | false => exact isTrue_or_nil e
 | true => exact e
theorem pw_and (ha : PT X a tA) (hb : PW X (.BoolOp .And (b :: rest) pos) tB') : PW X (.BoolOp .And (a :: b :: rest) pos) (tAnd tA tB') := by
 intro wh pins s σ H Q I h
 refine isTrue_and (thn (ha pins s σ H _ I h) fun c s1 ⟨H1, I1, q1⟩ => ?_)
 cases c with
 | true => exact hb wh pins s1 σ H1 Q I1 q1
 | false => exact ⟨H1, I1, q1⟩
theorem pw_or (ha : PT X a tA) (hb : PW X (.BoolOp .Or (b :: rest) pos) tB') : PW X (.BoolOp .Or (a :: b :: rest) pos) (tOr tA tB') := by
 intro wh pins s σ H Q I h
 refine isTrue_or (thn (ha pins s σ H _ I h) fun c s1 ⟨H1, I1, q1⟩ => ?_)
 cases c with
 | true => exact ⟨H1, I1, q1⟩
 | false => exact hb wh pins s1 σ H1 Q I1 q1
theorem wJ (ha : PT X a tA) : PT X (.UnaryOp .Not a pos) (tNot tA) := by
 intro pins s σ H Q I h
 exact isTrue_not (ha pins s σ H (fun c H1 => Q (!c) H1) I h)
def tAndV (ta tb : TE) : TE := fun σ H Q => ta σ H fun x H1 => ∃ c, x = .bl c /\ if c = true then tb σ H1 Q else Q (.bl false) H1
def tOrV (ta tb : TE) : TE := fun σ H Q => ta σ H fun x H1 => ∃ c, x = .bl c /\ if c = true then Q (.bl true) H1 else tb σ H1 Q
def tNotV (ta : TE) : TE := fun σ H Q => ta σ H fun x H1 => ∃ c, x = .bl c /\ Q (.bl (!c)) H1
theorem uN {op} {t : TE} (h : PE X a t) : PE X (.BoolOp op [a] pos) t := fun pins s σ H Q I hw => BoolOp_one (h pins s σ H Q I hw)
theorem pe_and (ha : PE X a ta) (hb : PE X (.BoolOp .And (b :: rest) pos) tb) : PE X (.BoolOp .And (a :: b :: rest) pos) (tAndV ta tb) := by
 intro pins s σ H Q I h
 refine BoolOp_and (thn (ha pins s σ H _ I h) fun v s1 ⟨x, H1, I1, r1, q1⟩ => ?_)
 obtain ⟨c, rfl, q1⟩ := q1
 cases r1
 refine wpAny_truthy_bool ?_
 cases c with
 | true => exact hb pins s1 σ H1 Q I1 q1
 | false => exact ⟨.bl false, H1, I1, rfl, q1⟩
theorem pe_or (ha : PE X a ta) (hb : PE X (.BoolOp .Or (b :: rest) pos) tb) : PE X (.BoolOp .Or (a :: b :: rest) pos) (tOrV ta tb) := by
 intro pins s σ H Q I h
 refine BoolOp_or (thn (ha pins s σ H _ I h) fun v s1 ⟨x, H1, I1, r1, q1⟩ => ?_)
 obtain ⟨c, rfl, q1⟩ := q1
 cases r1
 refine wpAny_truthy_bool ?_
 cases c with
 | false => exact hb pins s1 σ H1 Q I1 q1
 | true => exact ⟨.bl true, H1, I1, rfl, q1⟩
theorem pe_not (ha : PE X a ta) : PE X (.UnaryOp .Not a pos) (tNotV ta) := by
 intro pins s σ H Q I h
 refine UnaryOp_ (thn (ha pins s σ H _ I h) fun v s1 ⟨x, H1, I1, r1, q1⟩ => ?_)
 obtain ⟨c, rfl, q1⟩ := q1
 cases r1
 exact not_of (wpAny_truthy_bool ⟨.bl (!c), H1, I1, rfl, q1⟩)
def tIf (t : TT) (ta tb : TE) : TE := fun σ H Q => t σ H fun c H1 => if c = true then ta σ H1 Q else tb σ H1 Q
theorem pe_ifExp {c : Expr} (hc : PT X c tA) (ha : PE X a ta) (hb : PE X b tb) : PE X (.IfExp c a b pos) (tIf tA ta tb) := by
 intro pins s σ H Q I h
 refine wpAny_IfExp (thn (hc pins s σ H _ I h) fun d s1 ⟨H1, I1, q1⟩ => ?_)
 cases d with
 | true => exact ha pins s1 σ H1 Q I1 q1
 | false => exact hb pins s1 σ H1 Q I1 q1
end
def SqL (K : PySem.W.Frag) (H : Hp) (a : Addr) (xs : List V) : Prop :=
 Rd H a (.lst xs) \/
   ∃ (o : Obj) (its : Array Value) (n : Nat), K.lookup a = some o /\ o.cls = .type "list" /\ o.dict = none /\ o.data = .seq its n /\ its.size <= sizeLine /\ Vals xs its.toList
def SqT (K : PySem.W.Frag) (H : Hp) (a : Addr) (xs : List V) : Prop :=
 Rd H a (.tup xs) \/
   ∃ (o : Obj) (its : Array Value) (n : Nat), K.lookup a = some o /\ o.cls = .type "tuple" /\ o.data = .seq its n /\ its.size <= sizeLine /\ Vals xs its.toList
def absV : Value -> Option V
 | .none => some .non
 | .bool b => some (.bl b)
 | .int i _ => some (.int i)
 | .str x _ => some (.str x)
 | .bytes b _ => some (.byt b)
 | .float b _ => some (.flt b)
 | .ref a => some (.ref a)
 | .type n => some (.ty n)
 | _ => none
theorem RelV.abs {x : V} {u : Value} (r : RelV x u) : absV u = some x := by
 cases x with
 | non => cases r; rfl
 | bl _ => cases r; rfl
 | int _ => obtain ⟨t, rfl⟩ := r; rfl
 | str _ => obtain ⟨t, rfl⟩ := r; rfl
 | byt _ => obtain ⟨t, rfl⟩ := r; rfl
 | flt _ => obtain ⟨t, rfl⟩ := r; rfl
 | ref _ => cases r; rfl
 | ty _ => cases r; rfl
theorem RelV.inj {x y : V} {u : Value} (r : RelV x u) (q : RelV y u) : x = y := Option.some.inj (r.abs.symm.trans q.abs)
theorem Vals.inj : ∀ {xs ys : List V} {us : List Value}, Vals xs us -> Vals ys us -> xs = ys
 | _, _, _, .nil, .nil => rfl
 | _, _, _, .cons r t, .cons r' t' => by rw [r.inj r', Vals.inj t t']
section
variable {X : Cx} {pins : List (Addr × Obj)} {σ : St} {H : Hp} {s : Shared} {a : Addr} {xs ys : List V}
theorem SqL.of {K : PySem.W.Frag} (h : H a = some (.lst xs)) : SqL K H a xs := .inl (.inl h)
theorem SqT.of {K : PySem.W.Frag} (h : H a = some (.tup xs)) : SqT K H a xs := .inl (.inl h)
theorem Inv.list (I : Inv X pins σ H s) (h : SqL X.K H a xs) : ∃ its : List Value, Vals xs its /\ PlainL s.heap a its.toArray /\ xs.length <= sizeLine := by
 rcases h with h | ⟨o, its, n, hk, hc, hd, hs, hz, r⟩
 · obtain ⟨z, its, n, r, e⟩ := h.ok I.hok
   exact ⟨its, r, ⟨_, n, e, rfl, rfl, rfl⟩, z⟩
 · refine ⟨its.toList, r, ⟨o, n, I.kIn a o hk, hc, hd, by simpa using hs⟩, ?_⟩
   have e := r.length
   simp only [Array.length_toList] at e
   omega
theorem Inv.tuple (I : Inv X pins σ H s) (h : SqT X.K H a xs) : ∃ its : List Value, Vals xs its /\ IsTup s.heap a its.toArray /\ xs.length <= sizeLine := by
 rcases h with h | ⟨o, its, n, hk, hc, hs, hz, r⟩
 · obtain ⟨z, its, r, p⟩ := h.ok I.hok
   exact ⟨its, r, p, z⟩
 · refine ⟨its.toList, r, ⟨o, I.kIn a o hk, hc, n, by simpa using hs⟩, ?_⟩
   have e := r.length
   simp only [Array.length_toList] at e
   omega
theorem Inv.list_inj (I : Inv X pins σ H s) (h : SqL X.K H a xs) (h' : SqL X.K H a ys) : xs = ys := by
 obtain ⟨its, r, ⟨o, n, e, _, _, d⟩, _⟩ := I.list h
 obtain ⟨its', r', ⟨o', n', e', _, _, d'⟩, _⟩ := I.list h'
 rw [e] at e'; cases e'
 rw [d] at d'
 injection d' with d1 _
 have : its = its' := by simpa using congrArg Array.toList d1
 subst this
 exact r.inj r'
theorem Inv.tuple_inj (I : Inv X pins σ H s) (h : SqT X.K H a xs) (h' : SqT X.K H a ys) : xs = ys := by
 obtain ⟨its, r, ⟨o, e, _, n, d⟩, _⟩ := I.tuple h
 obtain ⟨its', r', ⟨o', e', _, n', d'⟩, _⟩ := I.tuple h'
 rw [e] at e'; cases e'
 rw [d] at d'
 injection d' with d1 _
 have : its = its' := by simpa using congrArg Array.toList d1
 subst this
 exact r.inj r'
end
abbrev Cx.wish (X : Cx) (E : Value -> Shared -> Prop) : Cx := { X with xe := E }
abbrev Cx.nox (X : Cx) : Cx := X.wish fun _ _ => False
theorem Cx.Ok.wish {X : Cx} (ok : X.Ok) (E : Value -> Shared -> Prop) : (X.wish E).Ok :=
 ⟨ok.mod, ok.kind, ok.glob, ok.blt, ok.above, ok.inj, ok.has, ok.cab, ok.hd, ok.frames, ok.stk, ok.exf, ok.bs, ok.bsz, ok.noex, ok.exfs, ok.funs, ok.frf⟩
theorem Cx.Ok.unwish {X : Cx} {E : Value -> Shared -> Prop} (ok : (X.wish E).Ok) : X.Ok :=
 ⟨ok.mod, ok.kind, ok.glob, ok.blt, ok.above, ok.inj, ok.has, ok.cab, ok.hd, ok.frames, ok.stk, ok.exf, ok.bs, ok.bsz, ok.noex, ok.exfs, ok.funs, ok.frf⟩
section
variable {X : Cx} {pins : List (Addr × Obj)} {σ : St} {H : Hp} {s : Shared} {E : Value -> Shared -> Prop}
theorem Inv.wish (I : Inv X pins σ H s) (E : Value -> Shared -> Prop) : Inv (X.wish E) pins σ H s := ⟨I.ok.wish E, I.os, I.bare, I.base, I.loc, I.cell, I.free, I.freeC, I.pin, I.hok, I.len⟩
theorem Inv.unwish (I : Inv (X.wish E) pins σ H s) : Inv X pins σ H s := ⟨I.ok.unwish, I.os, I.bare, I.base, I.loc, I.cell, I.free, I.freeC, I.pin, I.hok, I.len⟩
theorem SP.unwish {D : Ends} {f : Flow} {s' : Shared} (h : SP (X.wish E) pins D f s') : SP X pins D f s' := by
 cases f with
 | next => obtain ⟨σ', H', I, q⟩ := h; exact ⟨σ', H', I.unwish, q⟩
 | brk => obtain ⟨σ', H', I, q⟩ := h; exact ⟨σ', H', I.unwish, q⟩
 | cont => obtain ⟨σ', H', I, q⟩ := h; exact ⟨σ', H', I.unwish, q⟩
 | ret u => obtain ⟨v, σ', H', I, r, q⟩ := h; exact ⟨v, σ', H', I.unwish, r, q⟩
theorem PSs.nox {st : List Stmt} {t : TS} (h : PSs X.nox st t) : PSs X st t := fun pins s σ H D I hw =>
 wpAny_mono (h pins s σ H D (I.wish _) hw) (fun _ _ q => q.unwish) fun _ _ z => False.elim z
end
section
variable {X : Cx} {st : Stmt} {rest : List Stmt} {t u : TS} {e : Expr} {te : TE} {pos : Pos}
def tNext : TS := fun D σ H => D.nx σ H
def tSeq (t u : TS) : TS := fun D σ H => t { D with nx := u D } σ H
theorem pss_nil : PSs X [] tNext := fun _ _ σ H _ I h => wpAny_execs_nil ⟨σ, H, I, h⟩
theorem zE (h1 : PS X st t) (h2 : PSs X rest u) : PSs X (st :: rest) (tSeq t u) := by
 intro pins s σ H D I h
 refine wpAny_execs_cons (thn (h1 pins s σ H { D with nx := u D } I h) fun f s1 q => ?_)
 cases f with
 | next =>
   obtain ⟨σ', H', I', q⟩ := q
   exact h2 pins s1 σ' H' D I' q
 | ret v => exact q
 | brk => exact q
 | cont => exact q
theorem zH (h1 : PS X st t) : PSs X [st] t := by
 intro pins s σ H D I h
 refine wpAny_execs_cons (thn (h1 pins s σ H D I h) fun f s1 q => ?_)
 cases f with
 | next => exact wpAny_execs_nil q
 | ret v => exact q
 | brk => exact q
 | cont => exact q
theorem Inv.quiet {pins : List (Addr × Obj)} {σ : St} {H : Hp} {s : Shared} (I : Inv X pins σ H s) : interactive X.env = false := by simp [interactive, I.ok.kind]
def tDrop (te : TE) : TS := fun D σ H => te σ H fun _ H1 => D.nx σ H1
theorem yT (he : PE X e te) (hs : swapsWith e none pos.line X.env = pure false := by rfl) : PS X (.Expr e pos) (tDrop te) := by
 intro pins s σ H D I h
 exact wpAny_Expr_any (thn (he pins s σ H _ I h) fun v s1 ⟨x, H1, I1, r1, q1⟩ => ⟨σ, H1, I1, q1⟩) I.quiet hs
def tRet (te : TE) : TS := fun D σ H => te σ H D.rt
theorem zO (he : PE X e te) : PS X (.Return (some e) pos) (tRet te) := by
 intro pins s σ H D I h
 exact wpAny_Return_some (thn (he pins s σ H _ I h) fun v s1 ⟨x, H1, I1, r1, q1⟩ => ⟨x, σ, H1, I1, r1, q1⟩)
def tRetN : TS := fun D _ H => D.rt .non H
def tIfS (c : TT) (t u : TS) : TS := fun D σ H => c σ H fun b H1 => if b = true then t D σ H1 else u D σ H1
theorem yC {c : Expr} {a b : List Stmt} {tc : TT} (hc : PT X c tc) (ha : PSs X a t) (hb : PSs X b u) : PS X (.If c a b pos) (tIfS tc t u) := by
 intro pins s σ H D I h
 refine wpAny_If (thn (hc pins s σ H _ I h) fun d s1 ⟨H1, I1, q1⟩ => ?_)
 cases d with
 | true => exact ha pins s1 σ H1 D I1 q1
 | false => exact hb pins s1 σ H1 D I1 q1
end
abbrev TG := V -> St -> Hp -> (St -> Hp -> Prop) -> Prop
abbrev TGs := List V -> St -> Hp -> (St -> Hp -> Prop) -> Prop
def PG (X : Cx) (target : Expr) (t : TG) : Prop :=
 ∀ (pins : List (Addr × Obj)) (s : Shared) (σ : St) (H : Hp) (v : V) (u : Value) (Q : St -> Hp -> Prop), Inv X pins σ H s -> RelV v u -> t v σ H Q ->
   wpAny (model X.prog X.w) X.A (assign target X.env u) (fun _ s' => ∃ σ' H', Inv X pins σ' H' s' /\ Q σ' H') X.xe s
def PGs (X : Cx) (ts : List Expr) (t : TGs) : Prop :=
 ∀ (pins : List (Addr × Obj)) (s : Shared) (σ : St) (H : Hp) (vs : List V) (us : List Value) (Q : St -> Hp -> Prop), Inv X pins σ H s -> Vals vs us -> t vs σ H Q ->
   wpAny (model X.prog X.w) X.A (assignInOrder ((assignEach ts X.env).map (·.2)) us) (fun _ s' => ∃ σ' H', Inv X pins σ' H' s' /\ Q σ' H') X.xe s
abbrev TSet := V -> V -> V -> Hp -> (Hp -> Prop) -> Prop
def PSet (X : Cx) (t : TSet) : Prop :=
 ∀ (pins : List (Addr × Obj)) (s : Shared) (σ : St) (H : Hp) (o i v : V) (ov iv u : Value) (Q : Hp -> Prop), Inv X pins σ H s -> RelV o ov -> RelV i iv -> RelV v u -> t o i v H Q ->
   wpAny (model X.prog X.w) X.A (setItem ov iv u) (fun _ s' => ∃ H', Inv X pins σ H' s' /\ Q H') X.xe s
abbrev TIp := V -> V -> Hp -> VK -> Prop
def PIp (X : Cx) (op : Operator) (t : TIp) : Prop :=
 ∀ (pins : List (Addr × Obj)) (s : Shared) (σ : St) (H : Hp) (x y : V) (v u : Value) (Q : VK), Inv X pins σ H s -> RelV x v -> RelV y u -> t x y H Q ->
   wpAny (model X.prog X.w) X.A (inplaceOp op v u) (EP X pins σ Q) X.xe s
section
variable {X : Cx} {pos : Pos}
def gName (i : Nat) : TG := fun v σ H Q => Q (σ.set i (some v)) H
theorem zP {i : Nat} {x : Str} (hN : X.N.Nodup) (hi : X.N[i]? = some x) (hx : Loc X.env.scope x) (hf : X.fn x = true \/ X.env.scope.names.lookup x = some .local := by first | exact .inl rfl | exact .inr rfl | assumption) : PG X (.Name x pos) (gName i) := by
 intro pins s σ H v u Q I r h
 exact wpAny_assign_Name (jL I hN hi hx r (fun s' I' => ⟨_, H, I', h⟩) hf)
def gNil : TGs := fun vs σ H Q => vs = [] /\ Q σ H
def gCons (t : TG) (u : TGs) : TGs := fun vs σ H Q => ∃ v r, vs = v :: r /\ t v σ H fun σ' H' => u r σ' H' Q
theorem pgs_nil : PGs X [] gNil := by
 intro pins s σ H vs us Q I r h
 obtain ⟨e, h⟩ := h
 subst e
 cases r
 exact assignInOrder_nil ⟨σ, H, I, h⟩
theorem xG {e : Expr} {es : List Expr} {t : TG} {u : TGs} (h1 : PG X e t) (h2 : PGs X es u)
   (hs : (assignEach (e :: es) X.env).map (·.2) = assign e X.env :: (assignEach es X.env).map (·.2) := by rfl) : PGs X (e :: es) (gCons t u) := by
 intro pins s σ H vs us Q I r h
 obtain ⟨v, vr, e1, h⟩ := h
 subst e1
 cases r with
 | cons r rr =>
   rw [hs]
   refine assignInOrder_cons (thn (h1 pins s σ H _ _ _ I r h) fun _ s1 ⟨σ1, H1, I1, q1⟩ => ?_)
   exact h2 pins s1 σ1 H1 _ _ Q I1 rr q1
def gTup (K : PySem.W.Frag) (n : Nat) (t : TGs) : TG := fun v σ H Q => ∃ a xs, v = .ref a /\ SqT K H a xs /\ xs.length = n /\ t xs σ H Q
theorem wN {es : List Expr} {k : Nat} {t : TGs} {n : Nat} (hc : X.calm = true) (h : PGs X es t)
   (hn : (assignEach es X.env).length = n := by rfl) (hst : (assignEach es X.env).findIdx? (·.1) = none := by rfl) : PG X (.Tuple es k pos) (gTup X.K n t) := by
 intro pins s σ H v u Q I r hw
 obtain ⟨a, xs, e1, hq, hl, hw⟩ := hw
 subst e1
 cases r
 obtain ⟨its, rv, ht, hz⟩ := I.tuple hq
 refine assign_Tuple_tuple (I.ok.hd hc) ht (by simp [hn, ← hl, rv.length]) hst fun h' hx => ?_
 have I1 : Inv X pins σ H { s with heap := h' } := I.kept (t' := s.toks) fun b o e => hx b o (Nat.ne_of_lt (Heap.lt_size e)) e
 exact h pins _ σ H xs _ Q I1 (by simpa using rv) hw
def gSub (to ti : TE) (t : TSet) : TG := fun v σ H Q => to σ H fun o H1 => ti σ H1 fun i H2 => t o i v H2 fun H3 => Q σ H3
theorem pg_sub {o i : Expr} {to ti : TE} {t : TSet} (ho : PE X o to) (hi : PE X i ti) (hs : PSet X t)
   (ha : ∀ v, assign (.Subscript o i pos) X.env v = (do
     let ov ← holding [v] (eval o X.env)
     let iv ← holding [v, ov] (eval i X.env)
     standAt pos
     holding [v, ov, iv] (setItem ov iv v)
     release [v, ov, iv] []) := by intro _; rfl) : PG X (.Subscript o i pos) (gSub to ti t) := by
 intro pins s σ H v u Q I r h
 rw [ha]
 refine wpAny_bind (wpAny_holding (thn (ho pins s σ H _ I h) fun ov s1 ⟨x, H1, I1, r1, q1⟩ => ?_))
 refine wpAny_bind (wpAny_holding (thn (hi pins s1 σ H1 _ I1 q1) fun iv s2 ⟨y, H2, I2, r2, q2⟩ => ?_))
 refine wpAny_bind (wpAny_standAt (wpAny_bind (wpAny_holding (thn (hs pins s2 σ H2 x y v ov iv u _ I2 r1 r2 r q2) fun _ s3 ⟨H3, I3, q3⟩ => ?_))))
 exact wpAny_release ⟨σ, H3, I3, q3⟩
def tAsg (te : TE) (g : TG) : TS := fun D σ H => te σ H fun x H1 => g x σ H1 D.nx
theorem ps_asg {tg e : Expr} {te : TE} {g : TG} (he : PE X e te) (hg : PG X tg g) (hs : swapsWithSole [tg] e pos.line X.env = pure false := by rfl) (hw : swappedStores [tg] e X.env = pure none := by rfl)
   (h1 : (assignEach [tg] X.env).map (·.2) = [assign tg X.env] := by rfl) : PS X (.Assign [tg] e pos) (tAsg te g) := by
 intro pins s σ H D I h
 refine wpAny_Assign_stores (thn (he pins s σ H _ I h) fun v s1 ⟨x, H1, I1, r1, q1⟩ => ?_) hs hw
 rw [h1]
 exact thn (hg pins s1 σ H1 x v _ I1 r1 q1) fun _ s2 q => q
theorem zM {i : Nat} {x : Str} {e : Expr} {te : TE} {pos' : Pos} (hN : X.N.Nodup) (hi : X.N[i]? = some x) (hx : Loc X.env.scope x) (he : PE X e te) (hs : swapsWith e (some (.Name x pos')) pos.line X.env = pure false := by rfl) (hf : X.fn x = true \/ X.env.scope.names.lookup x = some .local := by first | exact .inl rfl | exact .inr rfl | assumption) :
   PS X (.Assign [.Name x pos'] e pos) (tAsg te (gName i)) := by
 intro pins s σ H D I h
 refine wpAny_Assign_Name (thn (he pins s σ H _ I h) fun v s1 ⟨y, H1, I1, r1, q1⟩ => ?_) hs
 exact jL I1 hN hi hx r1 (fun s2 I2 => ⟨_, H1, I2, q1⟩) hf
def tAug (i : Nat) (te : TE) (ti : TIp) : TS := fun D σ H => ∃ x, σ[i]? = some (some x) /\ te σ H fun y H1 => ti x y H1 fun z H2 => D.nx (σ.set i (some z)) H2
theorem ps_aug {i : Nat} {x : Str} {e : Expr} {te : TE} {op : Operator} {ti : TIp} {pos' : Pos} (hN : X.N.Nodup) (hi : X.N[i]? = some x) (hx : Loc X.env.scope x) (he : PE X e te) (ho : PIp X op ti) (hf : X.fn x = true \/ X.env.scope.names.lookup x = some .local := by first | exact .inl rfl | exact .inr rfl | assumption) :
   PS X (.AugAssign (.Name x pos') op e pos) (tAug i te ti) := by
 intro pins s σ H D I h
 obtain ⟨v, e1, h⟩ := h
 obtain ⟨m, hn, hl⟩ := I.loc
 have vis : Vis X.env.scope x := by rcases hx with k | k; exact .inl k; exact .inr (.inl k)
 obtain ⟨u, r, l⟩ := hl i x v hi e1 vis
 refine wpAny_AugAssign_Name ?_
 have go : wpAny (model X.prog X.w) X.A (eval e X.env) (fun w s₂ => wpAny (model X.prog X.w) X.A (inplaceOp op u w) (fun r s₃ => wpAny (model X.prog X.w) X.A (storeName X.env x r) (fun _ => SP X pins D .next) X.xe s₃) X.xe s₂) X.xe s := by
   refine thn (he pins s σ H _ I h) fun w s1 ⟨y, H1, I1, r1, q1⟩ => ?_
   refine thn (ho pins s1 σ H1 v y u w _ I1 r r1 q1) fun z s2 ⟨zv, H2, I2, r2, q2⟩ => ?_
   exact jL I2 hN hi hx r2 (fun s3 I3 => ⟨_, H2, I3, q2⟩) hf
 rcases l with ⟨hk, hm⟩ | ⟨hk, c, hc, hcell⟩
 · exact wpAny_loadName_local I.ok.kind hk hn hm go
 · rcases hk with hk | hk
   · exact wpAny_loadName_cell I.ok.kind hk hc hcell go
   · rcases hx with k | k
     · have : X.env.scope.names.lookup x = some .free := hk
       rw [k] at this; cases this
     · have : X.env.scope.names.lookup x = some .free := hk
       rw [k] at this; cases this
def tAugS (to ti te : TE) (tget : V -> V -> Hp -> VK -> Prop) (tip : TIp) (tset : TSet) : TS := fun D σ H => to σ H fun o H1 => ti σ H1 fun i H2 => tget o i H2 fun x H3 => te σ H3 fun y H4 => tip x y H4 fun z H5 => tset o i z H5 fun H6 => D.nx σ H6
def PGet (X : Cx) (t : V -> V -> Hp -> VK -> Prop) : Prop :=
 ∀ (pins : List (Addr × Obj)) (s : Shared) (σ : St) (H : Hp) (o i : V) (ov iv : Value) (Q : VK), Inv X pins σ H s -> RelV o ov -> RelV i iv -> t o i H Q ->
   wpAny (model X.prog X.w) X.A (getItem ov iv) (EP X pins σ Q) X.xe s
theorem ps_augS {o i e : Expr} {to ti te : TE} {tget : V -> V -> Hp -> VK -> Prop} {tip : TIp} {tset : TSet} {op : Operator} {tpos : Pos} (ho : PE X o to) (hi : PE X i ti) (hg : PGet X tget) (he : PE X e te) (hp : PIp X op tip) (hs : PSet X tset)
   (ha : ∀ ov iv new, augStore i ov iv new = (do holding [new, ov, iv] (setItem ov iv new); release [new, ov, iv] []; pure .next) := by intros; rfl) : PS X (.AugAssign (.Subscript o i tpos) op e pos) (tAugS to ti te tget tip tset) := by
 intro pins s σ H D I h
 refine wpAny_AugAssign_SubscriptAny (thn (ho pins s σ H _ I h) fun ov s1 ⟨x1, H1, I1, r1, q1⟩ => ?_) ha
 refine thn (hi pins s1 σ H1 _ I1 q1) fun iv s2 ⟨x2, H2, I2, r2, q2⟩ => ?_
 refine thn (hg pins s2 σ H2 x1 x2 ov iv _ I2 r1 r2 q2) fun old s3 ⟨x3, H3, I3, r3, q3⟩ => ?_
 refine thn (he pins s3 σ H3 _ I3 q3) fun v s4 ⟨x4, H4, I4, r4, q4⟩ => ?_
 refine thn (hp pins s4 σ H4 x3 x4 old v _ I4 r3 r4 q4) fun new s5 ⟨x5, H5, I5, r5, q5⟩ => ?_
 exact thn (hs pins s5 σ H5 x1 x2 x5 ov iv new _ I5 r1 r2 r5 q5) fun _ s6 ⟨H6, I6, q6⟩ => ⟨σ, H6, I6, q6⟩
def ipI (f : Int -> Int -> Int) : TIp := fun x y H Q => ∃ i j, x = .int i /\ y = .int j /\ Q (.int (f i j)) H
end
section
variable {X : Cx} {pos : Pos}
def tWhile (c : TT) (tb : TS) : TS := fun D σ H => ∃ W : Nat -> St -> Hp -> Prop, (∃ m, W m σ H) /\ ∀ m σ H, W m σ H ->
 c σ H fun b H1 => if b = true then ∃ N : St -> Hp -> Prop, (∀ σ' H', N σ' H' -> ∃ m', m' < m /\ W m' σ' H') /\ tb { D with nx := N, ct := N, bk := D.nx } σ H1 else D.nx σ H1
theorem ps_while {c : Expr} {body : List Stmt} {tc : TT} {tb : TS} (hp : PassesOwn (model X.prog X.w) X.A X.env X.xe) (hc : PT X c tc) (hb : PSs X body tb) : PS X (.While c body [] pos) (tWhile tc tb) := by
 intro pins s σ H D I h
 obtain ⟨W, ⟨m0, w0⟩, turn⟩ := h
 refine wpAny_While (codeAny_whileLoop (fun n s' => ∃ σ' H', Inv X pins σ' H' s' /\ W n σ' H') ?_ m0 ⟨σ, H, I, w0⟩)
 rintro n s1 ⟨σ1, H1, I1, w1⟩
 refine wpAny_passesOwn hp (thn (hc pins s1 σ1 H1 _ I1 (turn n σ1 H1 w1)) fun b s2 ⟨H2, I2, q2⟩ => ?_)
 cases b with
 | true =>
   obtain ⟨N, hN, q2⟩ := q2
   rw [if_pos rfl]
   refine wpAny_passesOwn hp (thn (hb pins s2 σ1 H2 _ I2 q2) fun f s3 q3 => ?_)
   cases f with
   | next =>
     obtain ⟨σ3, H3, I3, n3⟩ := q3
     obtain ⟨m', hm, w3⟩ := hN σ3 H3 n3
     exact ⟨m', hm, σ3, H3, I3, w3⟩
   | cont =>
     obtain ⟨σ3, H3, I3, n3⟩ := q3
     obtain ⟨m', hm, w3⟩ := hN σ3 H3 n3
     exact ⟨m', hm, σ3, H3, I3, w3⟩
   | brk => exact q3
   | ret v => exact q3
 | false =>
   rw [if_neg Bool.false_ne_true]
   exact wpAny_execs_nil ⟨σ1, H2, I2, q2⟩
end
structure It where
 go : Nat -> Hp -> Prop
 yld : Nat -> Hp -> V -> Hp -> Prop
 stop : Nat -> Hp -> Prop
def vH (X : Cx) (pins : List (Addr × Obj)) (H : Hp) (b : Addr) : Prop :=
 H b = none /\ b ≠ X.env.locals /\ b ∉ X.fs /\ (b ∈ X.ex \/ X.s₀.heap.objs.size <= b) /\ (∀ x c, X.env.cells.lookup x = some c -> c ≠ b) /\ ∀ p ∈ X.pn ++ pins, p.1 ≠ b
theorem Inv.fpOk {X : Cx} {pins : List (Addr × Obj)} {σ : St} {H H' : Hp} {s : Shared} {b : Addr} (I : Inv X pins σ H s) (hb : s.heap.objs.size <= b) (hn : H' b = none) : vH X pins H' b := by
 refine ⟨hn, Nat.ne_of_gt (Nat.lt_of_lt_of_le I.lt hb), I.nofs hb, .inr (Nat.le_trans I.sz hb), fun x c e z => ?_, fun p hp z => ?_⟩
 · obtain ⟨v, q⟩ := I.cell x c e
   exact absurd (Nat.lt_of_lt_of_le q.lt (by rw [z]; exact hb)) (Nat.lt_irrefl _)
 · exact absurd (Nat.lt_of_lt_of_le (Heap.lt_size (I.pin p hp).1) (by rw [z]; exact hb)) (Nat.lt_irrefl _)
structure Turn (P : Program) (w : World) (K : PySem.W.Frag) (tg : Expr) (J : It) (fp : List Addr) (it : Addr) (tn : Nat -> Heap -> Prop) : Prop where
 mem : it ∈ fp
 obj : ∀ i h, tn i h -> ∀ b ∈ fp, ∃ o, h.get? b = some o /\ ∀ v, o.data ≠ .cell v
 keep : ∀ i h h', tn i h -> (∀ b ∈ fp, ∀ o, h.get? b = some o -> h'.get? b = some o) -> tn i h'
 item : ∀ (X : Cx), X.prog = P -> X.w = w -> X.K = K -> X.calm = true -> ∀ (i : Nat) (pins : List (Addr × Obj)) (s : Shared) (σ : St) (H : Hp) (E : Value -> Shared -> Prop), Inv X pins σ H s -> (∀ b ∈ fp, vH X pins H b) -> tn i s.heap -> J.go i H ->
   wpAny (model P w) X.A (pyNext (.ref it)) (fun r s1 => ∃ u, r = some u /\
     wpAny (model P w) X.A (letOwnedTupleGo tg (.ref it) u) (fun _ s2 => ∃ x H', Inv X pins σ H' s2 /\ RelV x u /\ J.yld i H x H' /\ tn (i + 1) s2.heap /\ ∀ b ∈ fp, H' b = none) E s1) E s
 done : ∀ (X : Cx), X.prog = P -> X.w = w -> X.K = K -> X.calm = true -> ∀ (i : Nat) (pins : List (Addr × Obj)) (s : Shared) (σ : St) (H : Hp) (E : Value -> Shared -> Prop), Inv X pins σ H s -> (∀ b ∈ fp, vH X pins H b) -> tn i s.heap -> J.stop i H ->
   wpAny (model P w) X.A (pyNext (.ref it)) (fun r s1 => r = none /\ Inv X pins σ H s1) E s
 self : ∀ (A : Around) (i : Nat) (s : Shared) (Q : Value -> Shared -> Prop) (E : Value -> Shared -> Prop), tn i s.heap -> Q (.ref it) s -> wpAny (model P w) A (pyIter (.ref it)) Q E s
abbrev TI := St -> Hp -> (It -> Hp -> Prop) -> Prop
def PIE (X : Cx) (pins : List (Addr × Obj)) (σ : St) (tg : Expr) (R : It -> Hp -> Prop) (itv : Value) (s2 : Shared) : Prop :=
 ∃ (it : Addr) (fp : List Addr) (tn : Nat -> Heap -> Prop) (J : It) (H' : Hp), itv = .ref it /\ Inv X pins σ H' s2 /\ Turn X.prog X.w X.K tg J fp it tn /\ tn 0 s2.heap /\ (∀ b ∈ fp, vH X pins H' b) /\ R J H'
def PI (X : Cx) (tg iter : Expr) (wi : TI) : Prop :=
 ∀ (pins : List (Addr × Obj)) (s : Shared) (σ : St) (H : Hp) (R : It -> Hp -> Prop), Inv X pins σ H s -> wi σ H R ->
   wpAny (model X.prog X.w) X.A (eval iter X.env) (fun v s1 => wpAny (model X.prog X.w) X.A (pyIter v) (PIE X pins σ tg R) X.xe s1) X.xe s
theorem go_of {M : Model} {A : Around} {E : Value -> Shared -> Prop} {s : Shared} {tg : Expr} {it : Addr} {u : Value} {o : Obj} {n : String} {vs : Array Value} {Q : Unit -> Shared -> Prop} (ho : s.heap.get? it = some o) (hc : o.cls = .type n) (hd : o.data = .fields vs)
   (hn : ["enumerate", "zip", "dict_itemiterator", "dict_reverseitemiterator", "odict_iterator", "itertools.zip_longest", "itertools.pairwise"].contains n = false) (hQ : Q () s) : wpAny M A (letOwnedTupleGo tg (.ref it) u) Q E s := by
 unfold letOwnedTupleGo
 cases tg <;> first
   | exact wpAny_pure hQ
   | (cases u <;> first
       | exact wpAny_pure hQ
       | (refine wpAny_bind (wpAny_load ho ?_)
          rw [hc, hd]
          show wpAny M A (if (["enumerate", "zip", "dict_itemiterator", "dict_reverseitemiterator", "odict_iterator", "itertools.zip_longest", "itertools.pairwise"].contains n && vs[0]? == some (rawInt _)) = true then _ else _) Q E s
          rw [if_neg (by intro h; rw [hn, Bool.false_and] at h; cases h)]
          exact wpAny_pure hQ))
def Itl (K : PySem.W.Frag) (a : Addr) : It :=
 ⟨fun i H => ∃ xs x, SqL K H a xs /\ xs[i]? = some x, fun i H x H' => H' = H /\ ∀ xs, SqL K H a xs -> xs[i]? = some x, fun i H => ∃ xs, SqL K H a xs /\ xs.length <= i⟩
def Itt (K : PySem.W.Frag) (a : Addr) : It :=
 ⟨fun i H => ∃ xs x, SqT K H a xs /\ xs[i]? = some x, fun i H x H' => H' = H /\ ∀ xs, SqT K H a xs -> xs[i]? = some x, fun i H => ∃ xs, SqT K H a xs /\ xs.length <= i⟩
def Itr (lo : Int) (n : Nat) : It := ⟨fun i _ => i < n, fun i H x H' => H' = H /\ x = .int (lo + i), fun i _ => n <= i⟩
theorem turn_list {P : Program} {w : World} {K : PySem.W.Frag} {tg : Expr} (a it : Addr) : Turn P w K tg (Itl K a) [it] it (fun i h => h.IsListIter it a i) where
 mem := by simp
 obj := fun i h st b hb => by
   have e : b = it := by simpa using hb
   subst e
   obtain ⟨o, e, c, d⟩ := st
   exact ⟨o, e, fun v z => by rw [d] at z; cases z⟩
 keep := fun i h h' st k => st.at fun o e => k it (by simp) o e
 item := by
   intro X hP hw hK hc i pins s σ H E I hf st hg
   subst hP hw hK
   obtain ⟨xs, x, hq, hx⟩ := hg
   obtain ⟨its, rv, p, hz⟩ := I.list hq
   obtain ⟨u, hu, ru⟩ := rv.get hx
   obtain ⟨f0, f1, f2, f3, f4, f5⟩ := hf it (by simp)
   refine wpAny_pyNext_list_item st p.isList (x := u) (by simpa using hu) fun h' st' sb => ?_
   have I1 : Inv X pins σ H { s with heap := h' } := I.turned (t' := s.toks) (fun b o hb e => (sb.2 b hb).trans e) f0 f1 f3 f4 f5
   obtain ⟨o, e, c, d⟩ := id st'
   exact ⟨u, rfl, go_of (s := { s with heap := h' }) e c d (by decide) ⟨x, H, I1, ru, ⟨rfl, fun ys hy => by rw [I.list_inj hy hq]; exact hx⟩, st', fun b hb => (hf b hb).1⟩⟩
 done := by
   intro X hP hw hK hc i pins s σ H E I hf st hg
   subst hP hw hK
   obtain ⟨xs, hq, hx⟩ := hg
   obtain ⟨its, rv, p, hz⟩ := I.list hq
   obtain ⟨f0, f1, f2, f3, f4, f5⟩ := hf it (by simp)
   have hl := rv.length
   exact wpAny_pyNext_list_end (I.ok.hd hc) st p.isList (by simp; omega) fun h' eb => ⟨rfl, I.turned (t' := s.toks) (fun b o hb e => eb b o hb e) f0 f1 f3 f4 f5⟩
 self := fun _ _ _ _ _ st h => wpAny_pyIter_listiter st h
theorem turn_tuple {P : Program} {w : World} {K : PySem.W.Frag} {tg : Expr} (a it : Addr) : Turn P w K tg (Itt K a) [it] it (fun i h => h.IsTupleIter it a i) where
 mem := by simp
 obj := fun i h st b hb => by
   have e : b = it := by simpa using hb
   subst e
   obtain ⟨o, e, c, d⟩ := st
   exact ⟨o, e, fun v z => by rw [d] at z; cases z⟩
 keep := fun i h h' st k => st.at fun o e => k it (by simp) o e
 item := by
   intro X hP hw hK hc i pins s σ H E I hf st hg
   subst hP hw hK
   obtain ⟨xs, x, hq, hx⟩ := hg
   obtain ⟨its, rv, p, hz⟩ := I.tuple hq
   obtain ⟨u, hu, ru⟩ := rv.get hx
   obtain ⟨f0, f1, f2, f3, f4, f5⟩ := hf it (by simp)
   refine wpAny_pyNext_tuple_item st (show s.heap.IsTuple a its.toArray from p) (x := u) (by simpa using hu) fun h' st' sb => ?_
   have I1 : Inv X pins σ H { s with heap := h' } := I.turned (t' := s.toks) (fun b o hb e => (sb.2 b hb).trans e) f0 f1 f3 f4 f5
   obtain ⟨o, e, c, d⟩ := id st'
   exact ⟨u, rfl, go_of (s := { s with heap := h' }) e c d (by decide) ⟨x, H, I1, ru, ⟨rfl, fun ys hy => by rw [I.tuple_inj hy hq]; exact hx⟩, st', fun b hb => (hf b hb).1⟩⟩
 done := by
   intro X hP hw hK hc i pins s σ H E I hf st hg
   subst hP hw hK
   obtain ⟨xs, hq, hx⟩ := hg
   obtain ⟨its, rv, p, hz⟩ := I.tuple hq
   obtain ⟨f0, f1, f2, f3, f4, f5⟩ := hf it (by simp)
   have hl := rv.length
   exact wpAny_pyNext_tuple_end (I.ok.hd hc) st (show s.heap.IsTuple a its.toArray from p) (by simp; omega) fun h' eb => ⟨rfl, I.turned (t' := s.toks) (fun b o hb e => eb b o hb e) f0 f1 f3 f4 f5⟩
 self := fun _ _ _ _ _ st h => wpAny_pyIter_tupleiter st h
theorem turn_range {P : Program} {w : World} {K : PySem.W.Frag} {tg : Expr} (it : Addr) (lo : Int) (n : Nat) : Turn P w K tg (Itr lo n) [it] it (fun i h => IsRangeIter h it (lo + (i : Nat) * 1) ((n : Int) - (i : Nat)) 1) where
 mem := by simp
 obj := fun i h st b hb => by
   have e : b = it := by simpa using hb
   subst e
   exact ⟨_, st, fun v z => by
     have z' : Data.fields _ = Data.cell v := z
     cases z'⟩
 keep := fun i h h' st k => k it (by simp) _ st
 item := by
   intro X hP hw hK hc i pins s σ H E I hf st hg
   subst hP hw hK
   obtain ⟨f0, f1, f2, f3, f4, f5⟩ := hf it (by simp)
   have W := Walks.range (prog := X.prog) (w := X.w) (I.ok.hd hc) it lo 1 n
   refine W.item i s _ _ hg st fun v h' tk hv st' kk => ?_
   obtain ⟨t, rfl⟩ := hv
   have I1 : Inv X pins σ H { s with heap := h', toks := tk } := I.turned (fun b o hb e => kk b o (by simpa using hb) e) f0 f1 f3 f4 f5
   refine ⟨_, rfl, go_of (s := { s with heap := h', toks := tk }) (n := "range_iterator") st' rfl rfl (by decide) ⟨.int (lo + i), H, I1, ⟨t, ?_⟩, ⟨rfl, rfl⟩, st', fun b hb => (hf b hb).1⟩⟩
   rw [Int.mul_one]
 done := by
   intro X hP hw hK hc i pins s σ H E I hf st hg
   subst hP hw hK
   obtain ⟨f0, f1, f2, f3, f4, f5⟩ := hf it (by simp)
   exact wpAny_pyNext_range_end (I.ok.hd hc) st (by have : n <= i := hg; omega) fun h' eb => ⟨rfl, I.turned (t' := s.toks) (fun b o hb e => eb b o hb e) f0 f1 f3 f4 f5⟩
 self := fun _ _ _ _ _ st h => wpAny_pyIter_rangeiter st h
section
variable {X : Cx} {tg : Expr}
def iList (K : PySem.W.Frag) (tl : TE) : TI := fun σ H R => tl σ H fun x H1 => ∃ a, x = .ref a /\ (∃ xs, SqL K H1 a xs) /\ R (Itl K a) H1
def iTup (K : PySem.W.Frag) (tl : TE) : TI := fun σ H R => tl σ H fun x H1 => ∃ a, x = .ref a /\ (∃ xs, SqT K H1 a xs) /\ R (Itt K a) H1
theorem yD {l : Expr} {tl : TE} (hl : PE X l tl) : PI X tg l (iList X.K tl) := by
 intro pins s σ H R I h
 refine thn (hl pins s σ H _ I h) fun v s1 ⟨x, H1, I1, r1, q1⟩ => ?_
 obtain ⟨a, e, ⟨xs, hq⟩, q⟩ := q1
 subst e
 cases r1
 obtain ⟨its, rv, p, hz⟩ := I1.list hq
 refine wpAny_pyIter_list p.isList ?_
 refine ⟨s1.heap.objs.size, [s1.heap.objs.size], _, _, H1, rfl, I1.kept (t' := s1.toks) fun b o e => Heap.get?_push_of_some _ e, turn_list a _, ⟨_, Heap.get?_push_size _ rfl, rfl, rfl⟩, fun b hb => ?_, q⟩
 have e : b = s1.heap.objs.size := by simpa using hb
 subst e
 exact I1.fpOk (Nat.le_refl _) (I1.hok.fresh (Nat.le_refl _))
theorem wM {l : Expr} {tl : TE} (hl : PE X l tl) : PI X tg l (iTup X.K tl) := by
 intro pins s σ H R I h
 refine thn (hl pins s σ H _ I h) fun v s1 ⟨x, H1, I1, r1, q1⟩ => ?_
 obtain ⟨a, e, ⟨xs, hq⟩, q⟩ := q1
 subst e
 cases r1
 obtain ⟨its, rv, p, hz⟩ := I1.tuple hq
 refine wpAny_pyIter_tuple (show s1.heap.IsTuple a its.toArray from p) ?_
 refine ⟨s1.heap.objs.size, [s1.heap.objs.size], _, _, H1, rfl, I1.kept (t' := s1.toks) fun b o e => Heap.get?_push_of_some _ e, turn_tuple a _, ⟨_, Heap.get?_push_size _ rfl, rfl, rfl⟩, fun b hb => ?_, q⟩
 have e : b = s1.heap.objs.size := by simpa using hb
 subst e
 exact I1.fpOk (Nat.le_refl _) (I1.hok.fresh (Nat.le_refl _))
theorem range_it {pins : List (Addr × Obj)} {σ : St} {H : Hp} {s : Shared} {R : It -> Hp -> Prop} {E : Value -> Shared -> Prop} {lo hi : Int} {t u v : Tok} {tk : Nat} (I : Inv X pins σ H s) (h1 : -(2 ^ 62) <= lo) (h2 : lo < 2 ^ 62) (h3 : -(2 ^ 62) <= hi) (h4 : hi < 2 ^ 62)
   (q : R (Itr lo (hi - lo).toNat) H) : wpAny (model X.prog X.w) X.A (pyIter (.ref s.heap.objs.size)) (PIE X pins σ tg R) E { s with heap := s.heap.push { cls := .type "range", data := .fields #[.int lo t, .int hi u, .int 1 v] }, toks := tk } := by
 refine wpAny_pyIter_range (IsRange.new ..) (small_one h1 h2 h3 h4) ?_
 have I1 : Inv X pins σ H { s with heap := s.heap.push { cls := .type "range", data := .fields #[.int lo t, .int hi u, .int 1 v] }, toks := tk } := I.kept fun b o e => Heap.get?_push_of_some _ e
 refine ⟨(s.heap.push { cls := .type "range", data := .fields #[.int lo t, .int hi u, .int 1 v] }).objs.size, [(s.heap.push { cls := .type "range", data := .fields #[.int lo t, .int hi u, .int 1 v] }).objs.size], _, _, H, rfl,
   I1.kept (t' := tk) fun b o e => Heap.get?_push_of_some _ e, turn_range _ lo (hi - lo).toNat, ?_, fun b hb => ?_, q⟩
 · have e1 : lo + ((0 : Nat) : Int) * 1 = lo := by simp
   have e2 : (((hi - lo).toNat : Nat) : Int) - ((0 : Nat) : Int) = Builtin.Range.rangeSize lo hi 1 := by rw [rangeSize_one]; split <;> omega
   show IsRangeIter _ _ (lo + ((0 : Nat) : Int) * 1) ((((hi - lo).toNat : Nat) : Int) - ((0 : Nat) : Int)) 1
   rw [e1, e2]
   exact Heap.get?_push_size _ rfl
 · have e : b = (s.heap.push { cls := .type "range", data := .fields #[.int lo t, .int hi u, .int 1 v] }).objs.size := by simpa using hb
   subst e
   exact I1.fpOk (Nat.le_refl _) (I1.hok.fresh (Nat.le_refl _))
def iRng1 (ta : TA) : TI := fun σ H R => ta σ H fun vs H1 => ∃ j : Int, vs = [.int j] /\ -(2 ^ 62) <= j /\ j < 2 ^ 62 /\ R (Itr 0 j.toNat) H1
def iRng2 (ta : TA) : TI := fun σ H R => ta σ H fun vs H1 => ∃ i j : Int, vs = [.int i, .int j] /\ (-(2 ^ 62) <= i /\ i < 2 ^ 62 /\ -(2 ^ 62) <= j /\ j < 2 ^ 62) /\ R (Itr i (j - i).toNat) H1
theorem yM {a : Expr} {ta : TA} {p pos : Pos} (hg : Gl X "range") (hm : X.mg "range" = none) (ha : PA X [a] ta) (hs : starEach [a] X.env = [(false, eval a X.env)] := by rfl) : PI X tg (.Call (.Name "range" p) [a] [] pos) (iRng1 ta) := by
 intro pins s σ H R I h
 refine Call_ (jU I hg hm boot_range (PyProof.Rows.callWith_type1 (thn (ha pos pins s σ H _ I h) fun us s1 ⟨vs, H1, I1, r1, q1⟩ => ?_) hs rfl))
 obtain ⟨j, e, q1, q2, q⟩ := q1
 subst e
 cases r1 with
 | cons r rr =>
   cases rr
   obtain ⟨t, rfl⟩ := r
   exact call_range_1 (range_it I1 (by omega) (by omega) q1 q2 (by simpa using q))
theorem vL {a b : Expr} {ta : TA} {p pos : Pos} (hg : Gl X "range") (hm : X.mg "range" = none) (ha : PA X [a, b] ta) (hs : starEach [a, b] X.env = [(false, eval a X.env), (false, eval b X.env)] := by rfl) (hs2 : starEach [b] X.env = [(false, eval b X.env)] := by rfl) :
   PI X tg (.Call (.Name "range" p) [a, b] [] pos) (iRng2 ta) := by
 intro pins s σ H R I h
 refine Call_ (jU I hg hm boot_range (PyProof.Rows.callWith_type1 (thn (ha pos pins s σ H _ I h) fun us s1 ⟨vs, H1, I1, r1, q1⟩ => ?_) (by rw [hs, hs2]) (by rw [hs2]; rfl)))
 obtain ⟨i, j, e, ⟨q1, q2, q3, q4⟩, q⟩ := q1
 subst e
 cases r1 with
 | cons r rr =>
   cases rr with
   | cons r' rr =>
     cases rr
     obtain ⟨t, rfl⟩ := r
     obtain ⟨t', rfl⟩ := r'
     exact call_range_2 (range_it I1 q1 q2 q3 q4 q)
def tFor (wi : TI) (g : TG) (tb : TS) : TS := fun D σ H => wi σ H fun J H1 => ∃ W : Nat -> Nat -> St -> Hp -> Prop, (∃ m, W 0 m σ H1) /\ ∀ i m σ H, W i m σ H ->
 (J.stop i H /\ D.nx σ H) \/ (J.go i H /\ ∃ N : St -> Hp -> Prop, (∀ σ' H', N σ' H' -> ∃ m', m' < m /\ W (i + 1) m' σ' H') /\ ∀ x H', J.yld i H x H' -> g x σ H' fun σ2 H2 => tb { D with nx := N, ct := N, bk := D.nx } σ2 H2)
def xV (fp : List Addr) (h : Heap) : List (Addr × Obj) := fp.filterMap fun b => (h.get? b).map fun o => (b, o)
theorem xE {fp : List Addr} {h : Heap} {b : Addr} {o : Obj} (hb : b ∈ fp) (e : h.get? b = some o) : (b, o) ∈ xV fp h := List.mem_filterMap.mpr ⟨b, hb, by rw [e]; rfl⟩
theorem vN {fp : List Addr} {h : Heap} {p : Addr × Obj} (hp : p ∈ xV fp h) : p.1 ∈ fp /\ h.get? p.1 = some p.2 := by
 obtain ⟨b, hb, e⟩ := List.mem_filterMap.mp hp
 cases q : h.get? b with
 | none => rw [q] at e; cases e
 | some o =>
   rw [q] at e
   have e' : (b, o) = p := Option.some.inj e
   subst e'
   exact ⟨hb, q⟩
theorem Inv.pinned {pins : List (Addr × Obj)} {σ : St} {H : Hp} {s : Shared} {fp : List Addr} (I : Inv X pins σ H s) (hf : ∀ b ∈ fp, vH X pins H b) (ho : ∀ b ∈ fp, ∃ o, s.heap.get? b = some o /\ ∀ v, o.data ≠ .cell v) : Inv X (pins ++ xV fp s.heap) σ H s :=
 I.pins_of fun p hp => (List.mem_append.mp hp).elim (fun z => I.pin p (List.mem_append_right _ z)) fun z => by
   obtain ⟨hb, e⟩ := vN z
   obtain ⟨f0, f1, f2, _⟩ := hf p.1 hb
   obtain ⟨o, e', d⟩ := ho p.1 hb
   rw [e] at e'; cases e'
   exact ⟨e, f0, f1, f2, d⟩
theorem Inv.unpinned {pins pl : List (Addr × Obj)} {σ : St} {H : Hp} {s : Shared} (I : Inv X (pins ++ pl) σ H s) : Inv X pins σ H s := I.pins_of fun p hp => I.pin p (List.mem_append_right _ (List.mem_append_left _ hp))
theorem yO {iter : Expr} {body : List Stmt} {wi : TI} {g : TG} {tb : TS} {pos : Pos} (hp : PassesOwn (model X.prog X.w) X.A X.env X.xe) (hc : X.calm = true) (hi : PI X tg iter wi) (hg : PG X tg g) (hb : PSs X body tb)
   (hs : ∀ x, foldedSetIterable iter X.env x = pure x := by intro _; rfl) : PS X (.For tg iter body [] pos) (tFor wi g tb) := by
 intro pins s σ H D I h
 refine wpAny_For (thn (hi pins s σ H _ I h) fun v s1 h1 => thn h1 fun itv s2 h2 => ?_) hs
 obtain ⟨it, fp, tn, J, H2, e, I2, T, st2, f2, W, ⟨m0, w0⟩, turn⟩ := h2
 subst e
 have stat : ∀ {H' : Hp}, (∀ b ∈ fp, H' b = none) -> ∀ b ∈ fp, vH X pins H' b := fun hn b hb => ⟨hn b hb, (f2 b hb).2⟩
 refine codeAny_forLoop_any (fun n s' => ∃ i σ' H', Inv X pins σ' H' s' /\ tn i s'.heap /\ (∀ b ∈ fp, H' b = none) /\ W i n σ' H') ?_ m0 ⟨0, σ, H2, I2, st2, fun b hb => (f2 b hb).1, w0⟩
 rintro n s3 ⟨i, σ3, H3, I3, st3, fr3, w3⟩
 rcases turn i n σ3 H3 w3 with ⟨stop, qn⟩ | ⟨go, N, hN, step⟩
 · refine wpAny_passesOwn hp (thn (T.done X rfl rfl rfl hc i pins s3 σ3 H3 X.xe I3 (stat fr3) st3 stop) fun r s4 ⟨hr, I4⟩ => ?_)
   subst hr
   exact wpAny_execs_nil ⟨σ3, H3, I4, qn⟩
 · refine wpAny_passesOwn hp (thn (T.item X rfl rfl rfl hc i pins s3 σ3 H3 X.xe I3 (stat fr3) st3 go) fun r s4 ⟨u, hr, h4⟩ => ?_)
   subst hr
   refine wpAny_passesOwn hp (thn h4 fun _ s5 ⟨x, H5, I5, r5, y5, st5, fr5⟩ => ?_)
   have I5' := I5.pinned (stat fr5) (T.obj _ _ st5)
   refine wpAny_passesOwn hp (thn (hg _ s5 σ3 H5 x u _ I5' r5 (step x H5 y5)) fun _ s6 ⟨σ6, H6, I6, q6⟩ => ?_)
   refine wpAny_passesOwn hp (thn (hb _ s6 σ6 H6 _ I6 q6) fun f s7 q7 => ?_)
   have again : ∀ {σ7 : St} {H7 : Hp}, Inv X (pins ++ xV fp s5.heap) σ7 H7 s7 -> N σ7 H7 -> ∃ m, m < n /\ ∃ i σ' H', Inv X pins σ' H' s7 /\ tn i s7.heap /\ (∀ b ∈ fp, H' b = none) /\ W i m σ' H' := fun {σ7 H7} I7 n7 => by
     obtain ⟨m', hm, w7⟩ := hN σ7 H7 n7
     refine ⟨m', hm, i + 1, σ7, H7, I7.unpinned, T.keep _ _ _ st5 fun b hb o e => (I7.pin (b, o) (List.mem_append_right _ (List.mem_append_right _ (xE hb e)))).1, fun b hb => ?_, w7⟩
     obtain ⟨o, e, d⟩ := T.obj _ _ st5 b hb
     exact (I7.pin (b, o) (List.mem_append_right _ (List.mem_append_right _ (xE hb e)))).2.1
   cases f with
   | next => obtain ⟨σ7, H7, I7, n7⟩ := q7; exact again I7 n7
   | cont => obtain ⟨σ7, H7, I7, n7⟩ := q7; exact again I7 n7
   | brk => obtain ⟨σ7, H7, I7, q7⟩ := q7; exact ⟨σ7, H7, I7.unpinned, q7⟩
   | ret v => obtain ⟨x7, σ7, H7, I7, r7, q7⟩ := q7; exact ⟨x7, σ7, H7, I7.unpinned, r7, q7⟩
end
theorem for_list {K : PySem.W.Frag} {a : Addr} {xs : List V} {g : TG} {tb : TS} {D : Ends} {σ : St} {H : Hp} (Pv : Nat -> St -> Hp -> Prop) (h0 : Pv 0 σ H) (hl : ∀ i σ H, i <= xs.length -> Pv i σ H -> SqL K H a xs)
   (hs : ∀ i x σ H, xs[i]? = some x -> Pv i σ H -> g x σ H fun σ2 H2 => tb { D with nx := Pv (i + 1), ct := Pv (i + 1), bk := D.nx } σ2 H2) (hd : ∀ σ H, Pv xs.length σ H -> D.nx σ H) :
   ∃ W : Nat -> Nat -> St -> Hp -> Prop, (∃ m, W 0 m σ H) /\ ∀ i m σ H, W i m σ H ->
     ((Itl K a).stop i H /\ D.nx σ H) \/ ((Itl K a).go i H /\ ∃ N : St -> Hp -> Prop, (∀ σ' H', N σ' H' -> ∃ m', m' < m /\ W (i + 1) m' σ' H') /\ ∀ x H', (Itl K a).yld i H x H' -> g x σ H' fun σ2 H2 => tb { D with nx := N, ct := N, bk := D.nx } σ2 H2) := by
 refine ⟨fun i m σ H => m = xs.length - i /\ i <= xs.length /\ Pv i σ H, ⟨xs.length, by simp, Nat.zero_le _, h0⟩, ?_⟩
 rintro i m σ H ⟨rfl, hi, p⟩
 have q := hl i σ H hi p
 by_cases hlt : i < xs.length
 · refine .inr ⟨⟨xs, xs[i], q, by simp [hlt]⟩, Pv (i + 1), fun σ' H' p' => ⟨xs.length - (i + 1), by omega, rfl, hlt, p'⟩, fun x H' y => ?_⟩
   obtain ⟨e, y⟩ := y
   subst e
   exact hs i x σ _ (y xs q) p
 · have e : i = xs.length := by omega
   subst e
   exact .inl ⟨⟨xs, q, Nat.le_refl _⟩, hd σ H p⟩
theorem for_tup {K : PySem.W.Frag} {a : Addr} {xs : List V} {g : TG} {tb : TS} {D : Ends} {σ : St} {H : Hp} (Pv : Nat -> St -> Hp -> Prop) (h0 : Pv 0 σ H) (hl : ∀ i σ H, i <= xs.length -> Pv i σ H -> SqT K H a xs)
   (hs : ∀ i x σ H, xs[i]? = some x -> Pv i σ H -> g x σ H fun σ2 H2 => tb { D with nx := Pv (i + 1), ct := Pv (i + 1), bk := D.nx } σ2 H2) (hd : ∀ σ H, Pv xs.length σ H -> D.nx σ H) :
   ∃ W : Nat -> Nat -> St -> Hp -> Prop, (∃ m, W 0 m σ H) /\ ∀ i m σ H, W i m σ H ->
     ((Itt K a).stop i H /\ D.nx σ H) \/ ((Itt K a).go i H /\ ∃ N : St -> Hp -> Prop, (∀ σ' H', N σ' H' -> ∃ m', m' < m /\ W (i + 1) m' σ' H') /\ ∀ x H', (Itt K a).yld i H x H' -> g x σ H' fun σ2 H2 => tb { D with nx := N, ct := N, bk := D.nx } σ2 H2) := by
 refine ⟨fun i m σ H => m = xs.length - i /\ i <= xs.length /\ Pv i σ H, ⟨xs.length, by simp, Nat.zero_le _, h0⟩, ?_⟩
 rintro i m σ H ⟨rfl, hi, p⟩
 have q := hl i σ H hi p
 by_cases hlt : i < xs.length
 · refine .inr ⟨⟨xs, xs[i], q, by simp [hlt]⟩, Pv (i + 1), fun σ' H' p' => ⟨xs.length - (i + 1), by omega, rfl, hlt, p'⟩, fun x H' y => ?_⟩
   obtain ⟨e, y⟩ := y
   subst e
   exact hs i x σ _ (y xs q) p
 · have e : i = xs.length := by omega
   subst e
   exact .inl ⟨⟨xs, q, Nat.le_refl _⟩, hd σ H p⟩
theorem for_range {lo : Int} {n : Nat} {g : TG} {tb : TS} {D : Ends} {σ : St} {H : Hp} (Pv : Nat -> St -> Hp -> Prop) (h0 : Pv 0 σ H)
   (hs : ∀ i σ H, i < n -> Pv i σ H -> g (.int (lo + i)) σ H fun σ2 H2 => tb { D with nx := Pv (i + 1), ct := Pv (i + 1), bk := D.nx } σ2 H2) (hd : ∀ σ H, Pv n σ H -> D.nx σ H) :
   ∃ W : Nat -> Nat -> St -> Hp -> Prop, (∃ m, W 0 m σ H) /\ ∀ i m σ H, W i m σ H ->
     ((Itr lo n).stop i H /\ D.nx σ H) \/ ((Itr lo n).go i H /\ ∃ N : St -> Hp -> Prop, (∀ σ' H', N σ' H' -> ∃ m', m' < m /\ W (i + 1) m' σ' H') /\ ∀ x H', (Itr lo n).yld i H x H' -> g x σ H' fun σ2 H2 => tb { D with nx := N, ct := N, bk := D.nx } σ2 H2) := by
 refine ⟨fun i m σ H => m = n - i /\ i <= n /\ Pv i σ H, ⟨n, by simp, Nat.zero_le _, h0⟩, ?_⟩
 rintro i m σ H ⟨rfl, hi, p⟩
 by_cases hlt : i < n
 · refine .inr ⟨hlt, Pv (i + 1), fun σ' H' p' => ⟨n - (i + 1), by omega, rfl, hlt, p'⟩, fun x H' y => ?_⟩
   obtain ⟨e, y⟩ := y
   subst e y
   exact hs i σ _ hlt p
 · have e : i = n := by omega
   subst e
   exact .inl ⟨Nat.le_refl _, hd σ H p⟩
abbrev R2 := V -> V -> Hp -> VK -> Prop
def OpR (X : Cx) (f : Value -> Value -> Sem Value) (r : R2) : Prop :=
 ∀ (pins : List (Addr × Obj)) (s : Shared) (σ : St) (H : Hp) (x y : V) (v u : Value) (Q : VK), Inv X pins σ H s -> RelV x v -> RelV y u -> r x y H Q ->
   wpAny (model X.prog X.w) X.A (f v u) (EP X pins σ Q) X.xe s
def UnR (X : Cx) (f : Value -> Sem Value) (r : V -> Hp -> VK -> Prop) : Prop :=
 ∀ (pins : List (Addr × Obj)) (s : Shared) (σ : St) (H : Hp) (x : V) (v : Value) (Q : VK), Inv X pins σ H s -> RelV x v -> r x H Q ->
   wpAny (model X.prog X.w) X.A (f v) (EP X pins σ Q) X.xe s
def xI (X : Cx) (f : Value) (r : List V -> Hp -> VK -> Prop) : Prop :=
 ∀ (pins : List (Addr × Obj)) (s : Shared) (σ : St) (H : Hp) (xs : List V) (us : List Value) (Q : VK), Inv X pins σ H s -> Vals xs us -> r xs H Q ->
   wpAny (model X.prog X.w) X.A (call f us) (EP X pins σ Q) X.xe s
def TruR (X : Cx) (r : V -> Hp -> (Bool -> Hp -> Prop) -> Prop) : Prop :=
 ∀ (pins : List (Addr × Obj)) (s : Shared) (σ : St) (H : Hp) (x : V) (v : Value) (Q : Bool -> Hp -> Prop), Inv X pins σ H s -> RelV x v -> r x H Q ->
   wpAny (model X.prog X.w) X.A (truthy v) (TP X pins σ Q) X.xe s
def tOp (r : R2) (ta tb : TE) : TE := fun σ H Q => ta σ H fun x H1 => tb σ H1 fun y H2 => r x y H2 Q
def tUn (r : V -> Hp -> VK -> Prop) (ta : TE) : TE := fun σ H Q => ta σ H fun x H1 => r x H1 Q
def rI (C : Int -> Int -> Prop) (g : Int -> Int -> V) : R2 := fun x y H Q => ∃ i j, x = .int i /\ y = .int j /\ C i j /\ Q (g i j) H
def rI0 (g : Int -> Int -> V) : R2 := fun x y H Q => ∃ i j, x = .int i /\ y = .int j /\ Q (g i j) H
def rU (g : Int -> V) : V -> Hp -> VK -> Prop := fun x H Q => ∃ i, x = .int i /\ Q (g i) H
section
variable {X : Cx} {a b c : Expr} {ta tb tc : TE} {pos : Pos}
theorem binT (ha : PE X a ta) (hb : PE X b tb) {pins : List (Addr × Obj)} {s : Shared} {σ : St} {H : Hp} {R : V -> V -> Hp -> Prop} (I : Inv X pins σ H s)
   (h : ta σ H fun x H1 => tb σ H1 fun y H2 => R x y H2) {Q : Value -> Shared -> Prop} {f : Value -> Value -> Sem Value}
   (hf : ∀ v u s2 x y H2, Inv X pins σ H2 s2 -> RelV x v -> RelV y u -> R x y H2 -> wpAny (model X.prog X.w) X.A (f v u) Q X.xe s2) :
   wpAny (model X.prog X.w) X.A (eval a X.env) (fun v s₁ => wpAny (model X.prog X.w) X.A (eval b X.env) (fun u s₂ => wpAny (model X.prog X.w) X.A (f v u) Q X.xe s₂) X.xe s₁) X.xe s := by
 refine thn (ha pins s σ H _ I h) fun v s1 ⟨x, H1, I1, r1, q1⟩ => ?_
 refine thn (hb pins s1 σ H1 _ I1 q1) fun u s2 ⟨y, H2, I2, r2, q2⟩ => ?_
 exact hf v u s2 x y H2 I2 r1 r2 q2
theorem zL {op : Operator} {r : R2} (ho : OpR X (binaryOp op) r) (ha : PE X a ta) (hb : PE X b tb) : PE X (.BinOp a op b pos) (tOp r ta tb) := by
 intro pins s σ H Q I h
 exact wpAny_BinOp (binT ha hb I h fun v u s2 x y H2 I2 rx ry q => ho pins s2 σ H2 x y v u Q I2 rx ry q)
theorem xT {op : UnaryOp} {r : V -> Hp -> VK -> Prop} (ho : UnR X (unaryOp op) r) (ha : PE X a ta) : PE X (.UnaryOp op a pos) (tUn r ta) := by
 intro pins s σ H Q I h
 exact UnaryOp_ (thn (ha pins s σ H _ I h) fun v s1 ⟨x, H1, I1, r1, q1⟩ => ho pins s1 σ H1 x v Q I1 r1 q1)
theorem opI {f : Value -> Value -> Sem Value} {C : Int -> Int -> Prop} {g : Int -> Int -> Int}
   (rule : ∀ (i j : Int) (t u : Tok) (s : Shared) (Q : Value -> Shared -> Prop) (E : Value -> Shared -> Prop), C i j -> Q (.int (g i j) s.toks) { s with toks := s.toks + 1 } -> wpAny (model X.prog X.w) X.A (f (.int i t) (.int j u)) Q E s) :
   OpR X f (rI C fun i j => .int (g i j)) := by
 intro pins s σ H x y v u Q I rx ry h
 obtain ⟨i, j, rfl, rfl, hc, q⟩ := h
 obtain ⟨t, rfl⟩ := rx
 obtain ⟨t', rfl⟩ := ry
 exact rule i j t t' s _ _ hc ⟨.int (g i j), H, I.tok _, ⟨_, rfl⟩, q⟩
theorem opI0 {f : Value -> Value -> Sem Value} {g : Int -> Int -> Int}
   (rule : ∀ (i j : Int) (t u : Tok) (s : Shared) (Q : Value -> Shared -> Prop) (E : Value -> Shared -> Prop), Q (.int (g i j) s.toks) { s with toks := s.toks + 1 } -> wpAny (model X.prog X.w) X.A (f (.int i t) (.int j u)) Q E s) :
   OpR X f (rI0 fun i j => .int (g i j)) := by
 intro pins s σ H x y v u Q I rx ry h
 obtain ⟨i, j, rfl, rfl, q⟩ := h
 obtain ⟨t, rfl⟩ := rx
 obtain ⟨t', rfl⟩ := ry
 exact rule i j t t' s _ _ ⟨.int (g i j), H, I.tok _, ⟨_, rfl⟩, q⟩
theorem opB0 {f : Value -> Value -> Sem Value} {g : Int -> Int -> Bool}
   (rule : ∀ (i j : Int) (t u : Tok) (s : Shared) (Q : Value -> Shared -> Prop) (E : Value -> Shared -> Prop), Q (.bool (g i j)) s -> wpAny (model X.prog X.w) X.A (f (.int i t) (.int j u)) Q E s) :
   OpR X f (rI0 fun i j => .bl (g i j)) := by
 intro pins s σ H x y v u Q I rx ry h
 obtain ⟨i, j, rfl, rfl, q⟩ := h
 obtain ⟨t, rfl⟩ := rx
 obtain ⟨t', rfl⟩ := ry
 exact rule i j t t' s _ _ ⟨.bl (g i j), H, I, rfl, q⟩
def CDiv (i j : Int) : Prop := 0 < j /\ j < 1073741824
def CPow (i j : Int) : Prop := 0 <= j /\ j <= 1000000 /\ i.natAbs < 2 ^ 64
def CMul (i j : Int) : Prop := (-(2 ^ 64) < i /\ i < 2 ^ 64) \/ (-(2 ^ 64) < j /\ j < 2 ^ 64)
theorem CMul.ok {i j : Int} (h : CMul i j) : IntMulOk i j := by
 rcases h with ⟨h1, h2⟩ | ⟨h1, h2⟩
 · exact .of_left (intBits_le_64 h1 h2)
 · exact .of_right (intBits_le_64 h1 h2)
theorem op_add : OpR X (binaryOp .Add) (rI0 fun i j => .int (i + j)) := opI0 fun _ _ _ _ _ _ _ q => add_int q
theorem op_sub : OpR X (binaryOp .Sub) (rI0 fun i j => .int (i - j)) := opI0 fun _ _ _ _ _ _ _ q => sub_int q
theorem op_mul : OpR X (binaryOp .Mult) (rI CMul fun i j => .int (i * j)) := opI fun _ _ _ _ _ _ _ hc q => mul_int q hc.ok
theorem op_fdiv : OpR X (binaryOp .FloorDiv) (rI CDiv fun i j => .int (i / j)) := opI fun i j _ _ _ _ _ hc q => by
 have h1 : (0 : Int) < j := hc.1
 have h2 : j < 1073741824 := hc.2
 exact floordiv_int (by omega) (by rw [Int.fdiv_eq_ediv_of_nonneg i (by omega)]; exact q) (.inl (PyProof.noPylong_small (by omega)))
theorem op_mod : OpR X (binaryOp .Mod) (rI (fun _ j => 0 < j) fun i j => .int (i % j)) := opI fun i j _ _ _ _ _ hc q => by
 have h1 : (0 : Int) < j := hc
 exact mod_int' (by omega) (by rw [Int.fmod_eq_emod_of_nonneg i (by omega)]; exact q)
theorem op_pow : OpR X (binaryOp .Pow) (rI CPow fun i j => .int (i ^ j.toNat)) := opI fun _ _ _ _ _ _ _ hc q => pow_int_small hc.1 hc.2.1 hc.2.2 q
theorem op_shl : OpR X (binaryOp .LShift) (rI CPow fun i j => .int (i * 2 ^ j.toNat)) := opI fun _ _ _ _ _ _ _ hc q => lshift_int_small hc.1 hc.2.1 hc.2.2 q
theorem op_and : OpR X (binaryOp .BitAnd) (rI0 fun i j => .int (Builtin.bitAnd i j)) := opI0 fun _ _ _ _ _ _ _ q => and_int q
theorem unI {f : Value -> Sem Value} {g : Int -> Int}
   (rule : ∀ (i : Int) (t : Tok) (s : Shared) (Q : Value -> Shared -> Prop) (E : Value -> Shared -> Prop), Q (.int (g i) s.toks) { s with toks := s.toks + 1 } -> wpAny (model X.prog X.w) X.A (f (.int i t)) Q E s) :
   UnR X f (rU fun i => .int (g i)) := by
 intro pins s σ H x v Q I rx h
 obtain ⟨i, rfl, q⟩ := h
 obtain ⟨t, rfl⟩ := rx
 exact rule i t s _ _ ⟨.int (g i), H, I.tok _, ⟨_, rfl⟩, q⟩
theorem un_neg : UnR X (unaryOp .USub) (rU fun i => .int (-i)) := unI fun _ _ _ _ _ q => neg_int q
theorem un_inv : UnR X (unaryOp .Invert) (rU fun i => .int (Builtin.bitNot i)) := unI fun _ _ _ _ _ q => invert_int q
end
def scal : V -> V -> Bool
 | .non, .non => true | .non, .int _ => true | .int _, .non => true | .non, .bl _ => true | .bl _, .non => true | .non, .str _ => true | .str _, .non => true
 | .int _, .int _ => true | .bl _, .bl _ => true | .str _, .str _ => true | .byt _, .byt _ => true
 | .int _, .str _ => true | .str _, .int _ => true | .bl _, .str _ => true | .str _, .bl _ => true
 | _, _ => false
def rEq : R2 := fun x y H Q => scal x y = true /\ Q (.bl (decide (x = y))) H
def rNe : R2 := fun x y H Q => scal x y = true /\ Q (.bl (!decide (x = y))) H
theorem dec_int {i j : Int} : decide (V.int i = V.int j) = (i == j) := by
 rw [Bool.eq_iff_iff]
 simp
theorem dec_bl {i j : Bool} : decide (V.bl i = V.bl j) = (i == j) := by
 rw [Bool.eq_iff_iff]
 simp
theorem dec_str {i j : Str} : decide (V.str i = V.str j) = (i == j) := by
 rw [Bool.eq_iff_iff]
 simp
theorem dec_byt {i j : Array UInt8} : decide (V.byt i = V.byt j) = (i.toList == j.toList) := by
 rw [Bool.eq_iff_iff]
 cases i
 cases j
 simp
section
variable {X : Cx} {a b c : Expr} {ta tb tc : TE} {pos : Pos}
theorem zZ {pins : List (Addr × Obj)} {σ : St} {H : Hp} {s : Shared} {Q : VK} {k k' : Bool} (I : Inv X pins σ H s) (q : Q (.bl k) H) (e : k = k') : EP X pins σ Q (.bool k') s := by
 subst e
 exact ⟨.bl k, H, I, rfl, q⟩
theorem op_eq : OpR X (compareOp .Eq) rEq := by
 intro pins s σ H x y v u Q I rx ry h
 obtain ⟨hs, q⟩ := h
 cases x with
 | non =>
   cases rx
   cases y with
   | non => cases ry; exact PySem.EqNone.eq_none_none (zZ I q (by simp))
   | bl j => cases ry; exact PySem.EqNone.eq_none_bool (zZ I q (by simp))
   | int j => obtain ⟨t', rfl⟩ := ry; exact PySem.EqNone.eq_none_int (zZ I q (by simp))
   | str j => obtain ⟨t', rfl⟩ := ry; exact PySem.EqNone.eq_none_str (zZ I q (by simp))
   | _ => exact absurd (show false = true from hs) Bool.false_ne_true
 | bl i =>
   cases rx
   cases y with
   | non => cases ry; exact PySem.EqNone.eq_bool_none (zZ I q (by simp))
   | bl j => cases ry; exact eq_bool (zZ I q dec_bl)
   | str j => obtain ⟨t', rfl⟩ := ry; exact PySem.EqMixed.eq_bool_str (zZ I q (by simp))
   | _ => exact absurd (show false = true from hs) Bool.false_ne_true
 | int i =>
   obtain ⟨t, rfl⟩ := rx
   cases y with
   | non => cases ry; exact PySem.EqNone.eq_int_none (zZ I q (by simp))
   | int j => obtain ⟨t', rfl⟩ := ry; exact eq_int (zZ I q dec_int)
   | str j => obtain ⟨t', rfl⟩ := ry; exact PySem.EqMixed.eq_int_str (zZ I q (by simp))
   | _ => exact absurd (show false = true from hs) Bool.false_ne_true
 | str i =>
   obtain ⟨t, rfl⟩ := rx
   cases y with
   | non => cases ry; exact PySem.EqNone.eq_str_none (zZ I q (by simp))
   | bl j => cases ry; exact PySem.EqMixed.eq_str_bool (zZ I q (by simp))
   | int j => obtain ⟨t', rfl⟩ := ry; exact PySem.EqMixed.eq_str_int (zZ I q (by simp))
   | str j => obtain ⟨t', rfl⟩ := ry; exact eq_str (zZ I q dec_str)
   | _ => exact absurd (show false = true from hs) Bool.false_ne_true
 | byt i =>
   obtain ⟨t, rfl⟩ := rx
   cases y with
   | byt j => obtain ⟨t', rfl⟩ := ry; exact PySem.W.eq_bytes (zZ I q dec_byt)
   | _ => exact absurd (show false = true from hs) Bool.false_ne_true
 | _ => cases y <;> exact absurd (show false = true from hs) Bool.false_ne_true
theorem op_ne : OpR X (compareOp .NotEq) rNe := by
 intro pins s σ H x y v u Q I rx ry h
 obtain ⟨hs, q⟩ := h
 cases x with
 | non =>
   cases rx
   cases y with
   | non => cases ry; exact PySem.EqNone.ne_none_none (zZ I q (by simp))
   | bl j => cases ry; exact PySem.EqNone.ne_none_bool (zZ I q (by simp))
   | int j => obtain ⟨t', rfl⟩ := ry; exact PySem.EqNone.ne_none_int (zZ I q (by simp))
   | str j => obtain ⟨t', rfl⟩ := ry; exact PySem.EqNone.ne_none_str (zZ I q (by simp))
   | _ => exact absurd (show false = true from hs) Bool.false_ne_true
 | bl i =>
   cases rx
   cases y with
   | non => cases ry; exact PySem.EqNone.ne_bool_none (zZ I q (by simp))
   | bl j => cases ry; exact ne_bool (zZ I q (congrArg not dec_bl))
   | str j => obtain ⟨t', rfl⟩ := ry; exact PySem.EqMixed.ne_bool_str (zZ I q (by simp))
   | _ => exact absurd (show false = true from hs) Bool.false_ne_true
 | int i =>
   obtain ⟨t, rfl⟩ := rx
   cases y with
   | non => cases ry; exact PySem.EqNone.ne_int_none (zZ I q (by simp))
   | int j => obtain ⟨t', rfl⟩ := ry; exact ne_int (zZ I q (congrArg not dec_int))
   | str j => obtain ⟨t', rfl⟩ := ry; exact PySem.EqMixed.ne_int_str (zZ I q (by simp))
   | _ => exact absurd (show false = true from hs) Bool.false_ne_true
 | str i =>
   obtain ⟨t, rfl⟩ := rx
   cases y with
   | non => cases ry; exact PySem.EqNone.ne_str_none (zZ I q (by simp))
   | bl j => cases ry; exact PySem.EqMixed.ne_str_bool (zZ I q (by simp))
   | int j => obtain ⟨t', rfl⟩ := ry; exact PySem.EqMixed.ne_str_int (zZ I q (by simp))
   | str j => obtain ⟨t', rfl⟩ := ry; exact ne_str (zZ I q (congrArg not dec_str))
   | _ => exact absurd (show false = true from hs) Bool.false_ne_true
 | byt i =>
   obtain ⟨t, rfl⟩ := rx
   cases y with
   | byt j => obtain ⟨t', rfl⟩ := ry; exact PySem.W.ne_bytes (zZ I q (congrArg not dec_byt))
   | _ => exact absurd (show false = true from hs) Bool.false_ne_true
 | _ => cases y <;> exact absurd (show false = true from hs) Bool.false_ne_true
theorem op_lt : OpR X (compareOp .Lt) (rI0 fun i j => .bl (decide (i < j))) := opB0 fun _ _ _ _ _ _ _ q => lt_int q
theorem op_gt : OpR X (compareOp .Gt) (rI0 fun i j => .bl (decide (j < i))) := opB0 fun _ _ _ _ _ _ _ q => gt_int q
theorem op_ge : OpR X (compareOp .GtE) (rI0 fun i j => .bl (decide (j <= i))) := opB0 fun _ _ _ _ _ _ _ q => ge_int q
theorem zW (b : Expr) {op : CmpOp} (h : op ≠ .In := by decide) (h2 : op ≠ .NotIn := by decide) : behindInMarks op b = false := by
 have e1 : (op == CmpOp.In) = false := by cases op <;> first | rfl | exact absurd rfl h
 have e2 : (op == CmpOp.NotIn) = false := by cases op <;> first | rfl | exact absurd rfl h2
 cases b <;> simp [behindInMarks, e1, e2]
theorem yZ {op : CmpOp} {r : R2} (ho : OpR X (compareOp op) r) (ha : PE X a ta) (hb : PE X b tb) (hm : behindInMarks op b = false) : PE X (.Compare a [op] [b] pos) (tOp r ta tb) := by
 intro pins s σ H Q I h
 exact wpAny_Compare1 (binT ha hb I h fun v u s2 x y H2 I2 rx ry q => ho pins s2 σ H2 x y v u Q I2 rx ry q) hm
def tTest (t : TE) : TT := fun σ H Q => t σ H fun x H' => ∃ k, x = .bl k /\ Q k H'
theorem zU {op : CmpOp} {r : R2} (ho : OpR X (compareOp op) r) (ha : PE X a ta) (hb : PE X b tb) (hm : behindInMarks op b = false) : PT X (.Compare a [op] [b] pos) (tTest (tOp r ta tb)) := by
 intro pins s σ H Q I h
 refine wpAny_isTrue_Compare1 (thn (ha pins s σ H _ I h) fun v s1 ⟨x, H1, I1, r1, q1⟩ => thn (hb pins s1 σ H1 _ I1 q1) fun u s2 ⟨y, H2, I2, r2, q2⟩ =>
   thn (ho pins s2 σ H2 x y v u _ I2 r1 r2 q2) fun c s3 ⟨z, H3, I3, r3, k, e, q3⟩ => ?_) hm
 subst e
 cases r3
 exact wpAny_truthy_bool ⟨H3, I3, q3⟩
def tChain (r r' : R2) (ta tb tc : TE) : TE := fun σ H Q => ta σ H fun x H1 => tb σ H1 fun y H2 => r x y H2 fun z H3 => ∃ k, z = .bl k /\
 (if k = true then tc σ H3 fun w' H4 => r' y w' H4 Q else Q (.bl false) H3)
def TruV (K : PySem.W.Frag) (x : V) (H : Hp) (k : Bool) : Prop :=
 match x with
 | .non => k = false
 | .bl b => k = b
 | .int i => k = (i != 0)
 | .str y => y.length <= sizeLine /\ k = ((y.length : Int) != 0)
 | .byt y => y.size <= sizeLine /\ k = ((y.size : Int) != 0)
 | .ref p => (∃ xs, SqL K H p xs /\ k = !xs.isEmpty) \/ (∃ xs, SqT K H p xs /\ k = !xs.isEmpty) \/ ∃ kvs, H p = some (.dK kvs) /\ k = !kvs.isEmpty
 | _ => False
theorem isEmpty_kv {κ : Type} {kvs : List (κ × V)} {vs : List (κ × Value)} (r : KV kvs vs) : (!vs.isEmpty) = !kvs.isEmpty := by
 cases r <;> rfl
theorem uX {xs : List V} {its : List Value} (r : Vals xs its) : (!its.toArray.isEmpty) = !xs.isEmpty := by
 cases r <;> simp
theorem line63 : (sizeLine : Nat) < 2 ^ 63 := by rw [sizeLine_eq]; decide
theorem tru_ok : TruR X (fun x H Q => ∃ k, TruV X.K x H k /\ Q k H) := by
 intro pins s σ H x v Q I rx h
 obtain ⟨k, e, q⟩ := h
 have hl := line63
 have hs : sizeLine = 16777216 := sizeLine_eq
 cases x with
 | non =>
   cases rx
   have e' : k = false := e
   subst e'
   exact truthy_none ⟨H, I, q⟩
 | bl b =>
   cases rx
   have e' : k = b := e
   subst e'
   exact wpAny_truthy_bool ⟨H, I, q⟩
 | int i =>
   obtain ⟨t, rfl⟩ := rx
   have e' : k = (i != 0) := e
   subst e'
   exact PySem.P.truthy_int ⟨H, I, q⟩
 | str y =>
   obtain ⟨t, rfl⟩ := rx
   obtain ⟨hy, e'⟩ : y.length <= sizeLine /\ k = ((y.length : Int) != 0) := e
   subst e'
   exact PySem.P.truthy_str (by omega) ⟨H, I.tok _, q⟩
 | byt y =>
   obtain ⟨t, rfl⟩ := rx
   obtain ⟨hy, e'⟩ : y.size <= sizeLine /\ k = ((y.size : Int) != 0) := e
   subst e'
   exact PySem.W.truthy_bytes (by omega) ⟨H, I.tok _, q⟩
 | ref p =>
   cases rx
   have e' : (∃ xs, SqL X.K H p xs /\ k = !xs.isEmpty) \/ (∃ xs, SqT X.K H p xs /\ k = !xs.isEmpty) \/ ∃ kvs, H p = some (.dK kvs) /\ k = !kvs.isEmpty := e
   rcases e' with ⟨xs, hx, e'⟩ | ⟨xs, hx, e'⟩ | ⟨kvs, hx, e'⟩
   · subst e'
     obtain ⟨its, r, pl, hz⟩ := I.list hx
     have hlen := r.length
     exact wpAny_truthy_list pl.isList (by simp only [List.size_toArray]; omega) ⟨H, I.tok _, by rw [uX r]; exact q⟩
   · subst e'
     obtain ⟨its, r, pl, hz⟩ := I.tuple hx
     have hlen := r.length
     exact truthy_tuple pl (by simp only [List.size_toArray]; omega) ⟨H, I.tok _, by rw [uX r]; exact q⟩
   · subst e'
     obtain ⟨hz, hS, vs, r, m⟩ : kvs.length <= sizeLine /\ (p == sysModules) = false /\ ∃ vs, KV kvs vs /\ s.heap.DictOf (yG X.prog X.w) p vs := I.hok p _ hx
     have hlen : kvs.length = vs.length := Paired.length r
     exact wpAny_truthy_dict hS m (by omega) ⟨H, I.tok _, by rw [isEmpty_kv r]; exact q⟩
 | _ => exact (show False from e).elim
theorem pt_truth (ha : PE X a ta) (he : ∀ whole, isTrue a X.env whole = (do let v ← whole; standAt a.pos; holding [v] (truthy v))) :
   PT X a (fun σ H Q => ta σ H fun x H' => ∃ k, TruV X.K x H' k /\ Q k H') := by
 intro pins s σ H Q I h
 exact isTrue_plain (thn (ha pins s σ H _ I h) fun v s1 ⟨x, H1, I1, r1, q1⟩ => tru_ok pins s1 σ H1 x v Q I1 r1 q1) (he _)
theorem op_add_str : OpR X (binaryOp .Add) (fun x y H Q => ∃ i j, x = .str i /\ y = .str j /\ i.length + j.length <= sizeLine /\ Q (.str (i ++ j)) H) := by
 intro pins s σ H x y v u Q I rx ry h
 obtain ⟨i, j, rfl, rfl, hz, q⟩ := h
 obtain ⟨t, rfl⟩ := rx
 obtain ⟨t', rfl⟩ := ry
 exact add_str (fun t' tk => ⟨.str (i ++ j), H, I.tok _, ⟨_, rfl⟩, q⟩) hz
theorem jH {x : V} {us : List Value} (r : Vals [x] us) : ∃ u, us = [u] /\ RelV x u := by
 cases r with
 | cons r1 r2 => cases r2; exact ⟨_, rfl, r1⟩
theorem vals2 {x y : V} {us : List Value} (r : Vals [x, y] us) : ∃ u w', us = [u, w'] /\ RelV x u /\ RelV y w' := by
 cases r with
 | cons r1 r2 =>
   cases r2 with
   | cons r3 r4 => cases r4; exact ⟨_, _, rfl, r1, r3⟩
def LenV (K : PySem.W.Frag) (x : V) (H : Hp) (n : Nat) : Prop :=
 match x with
 | .str y => y.length <= sizeLine /\ n = y.length
 | .byt y => y.size <= sizeLine /\ n = y.size
 | .ref p => (∃ xs, SqL K H p xs /\ n = xs.length) \/ ∃ xs, SqT K H p xs /\ n = xs.length
 | _ => False
theorem call_len : xI X (.builtin "len") (fun xs H Q => ∃ x n, xs = [x] /\ LenV X.K x H n /\ Q (.int n) H) := by
 intro pins s σ H xs us Q I r h
 obtain ⟨x, n, rfl, e, q⟩ := h
 obtain ⟨u, rfl, rx⟩ := jH r
 have hl := line63
 have hs : sizeLine = 16777216 := sizeLine_eq
 cases x with
 | str y =>
   obtain ⟨t, rfl⟩ := rx
   obtain ⟨hy, e'⟩ : y.length <= sizeLine /\ n = y.length := e
   subst e'
   exact len_str (by omega) ⟨.int _, H, I.tok _, ⟨_, rfl⟩, q⟩
 | byt y =>
   obtain ⟨t, rfl⟩ := rx
   obtain ⟨hy, e'⟩ : y.size <= sizeLine /\ n = y.size := e
   subst e'
   exact PySem.W.len_bytes (by omega) ⟨.int _, H, I.tok _, ⟨_, rfl⟩, q⟩
 | ref p =>
   cases rx
   have e' : (∃ xs, SqL X.K H p xs /\ n = xs.length) \/ ∃ xs, SqT X.K H p xs /\ n = xs.length := e
   rcases e' with ⟨xs, hx, e'⟩ | ⟨xs, hx, e'⟩
   · subst e'
     obtain ⟨its, r', pl, hz⟩ := I.list hx
     have hlen := r'.length
     exact Calls.call_len_list pl.isList (by simp only [List.size_toArray]; omega) ⟨.int xs.length, H, I.tok _, ⟨_, by simp only [List.size_toArray]; rw [hlen]⟩, q⟩
   · subst e'
     obtain ⟨its, r', pl, hz⟩ := I.tuple hx
     have hlen := r'.length
     exact len_tuple pl (by simp only [List.size_toArray]; omega) ⟨.int xs.length, H, I.tok _, ⟨_, by simp only [List.size_toArray]; rw [hlen]⟩, q⟩
 | _ => exact (show False from e).elim
end
structure ObjM (h : Heap) (x dx C : Addr) (mA : Str -> Option Value) : Prop where
 obj : h.get? x = some (PySem.W.instObj C dx)
 ns : h.Ns1 dx mA
 ne : dx ≠ x
theorem lookIn_ns {h : Heap} {dx : Addr} {mA : Str -> Option Value} (n : h.Ns1 dx mA) : ∃ od, h.get? dx = some od /\ ∀ name, PySem.W.lookIn name od = some (mA name) := by
 obtain ⟨o, es, ep, ho, hd, hk, _, hm⟩ := n
 refine ⟨o, ho, fun name => ?_⟩
 have e := hm name
 unfold nsFind findBy at e
 rw [← Array.find?_toList] at e
 unfold PySem.W.lookIn
 rw [hd]
 dsimp only
 split
 · rename_i y q
   rw [q] at e
   exact congrArg some e
 · rename_i q
   rw [q] at e
   have a : es.toList.any (·.refKey) = false := by
     rw [List.any_eq_false]
     intro y hy
     obtain ⟨z, t, hkey⟩ := hk y (Array.mem_toList_iff.mp hy)
     simp [DictEntry.refKey, hkey]
   have a' : ¬ es.toList.any (·.refKey) = true := by rw [a]; exact Bool.false_ne_true
   rw [if_neg a']
   exact congrArg some e
theorem ObjM.look {h : Heap} {x dx C : Addr} {mA : Str -> Option Value} (I : ObjM h x dx C mA) : ∃ od, PySem.W.InstAt h x (PySem.W.instObj C dx) C (some od) /\ ∀ name, PySem.W.lookIn name od = some (mA name) :=
 let ⟨od, ho, hl⟩ := lookIn_ns I.ns
 ⟨od, ⟨I.obj, rfl, rfl, ho⟩, hl⟩
section
variable {prog : Program} {w : World} {A : Around} {E : Value -> Shared -> Prop} {s : Shared} {K : PySem.W.Frag} {x dx C f : Addr} {mA : Str -> Option Value} {name : Str} {v : Value}
theorem get_map {expr : Bool} {Q : Value -> Shared -> Prop} (X : K.In s.heap) (I : ObjM s.heap x dx C mA) (hg : PySem.W.plainGet K C name = true) (hh : PySem.W.hasDictIn K C = true)
   (ha : PySem.W.findIn K (.ref C) name = some none) (hv : mA name = some v) (hv' : PySem.W.handedIn v = true) (h : Q v { s with toks := s.toks + 1 }) :
   wpAny (model prog w) A (getAttr (.ref x) name expr) Q E s := by
 obtain ⟨od, J, hl⟩ := I.look
 exact PySem.W.get_value X J (PySem.W.plainGet_of hg).1 (PySem.W.findObj_own hh ha rfl (by rw [hl, hv])) hv' h
theorem get_meth {pl : Sem Bool} {Q : Value × List Value -> Shared -> Prop} (X : K.In s.heap) (I : ObjM s.heap x dx C mA) (hg : PySem.W.plainGet K C name = true)
   (hf : PySem.W.findIn K (.ref C) name = some (some (.ref f))) (ht : PySem.W.isFn K (.ref f) = true) (hv : mA name = none) (h : Q (.ref f, [.ref x]) s) :
   wpAny (model prog w) A (getMethod (.ref x) name pl) Q E s := by
 obtain ⟨od, J, hl⟩ := I.look
 exact PySem.W.method_fn X J (PySem.W.plainGet_of hg).1 (PySem.W.plainGet_of hg).2 hf (beq_iff_eq.mp ht) (by show (PySem.W.lookIn name od).map (·.isSome) = some false; rw [hl, hv]; rfl) h
theorem set_map {ns : List Str} {Q : Unit -> Shared -> Prop} (X : K.In s.heap) (I : ObjM s.heap x dx C mA)
   (hs : PySem.W.findIn K (.ref C) "__setattr__" = some (some (.builtin "object.__setattr__"))) (hp : PySem.W.plainOver K C = true) (ht : PySem.W.takerIn K C name = some none) (hh : PySem.W.hasDictIn K C = true)
   (hw : PySem.Within mA ns) (hsz : ns.length <= sizeLine)
   (h : ∀ h', ObjM h' x dx C (fun y => if y = name then some v else mA y) -> Heap.SameBut dx s.heap h' -> Q () { s with heap := h', toks := s.toks + 2 }) :
   wpAny (model prog w) A (setAttr (.ref x) name v) Q E s := by
 obtain ⟨od, J, hl⟩ := I.look
 refine PySem.W.set_plain X J hs (PySem.W.osa_open (s := { s with toks := s.toks + 1 }) (r := none) X J hp ht fun b => ?_)
 obtain ⟨cd, hc, hd'⟩ := PySem.W.any_some hh
 have hx : s.heap.get? x = some ⟨.ref C, some dx, .plain, #[]⟩ := I.obj
 refine wpAny_bind (wpAny_pure (wpAny_bind (wpAny_bind (wpAny_loadPart hx (wpAny_bind (PySem.W.Looks.here (s := { s with toks := s.toks + 1 }) (PySem.W.looks_clsIn X hc) ?_))))))
 rw [hd']
 refine wpAny_pure (a := some dx) (wpAny_bind (wpAny_pure (wpAny_bind ?_)))
 refine wpAny_nsSet1 (s := { s with toks := s.toks + 1 }) I.ns fun h' hn2 hs2 => ?_
 obtain ⟨oD, esD, epD, hoD, hdD, hcD⟩ := hn2.count (PySem.Within.cons name v hw)
 refine wpAny_bind (wpAny_lookBehind hoD (by rw [hdD]; exact pastItsLine_dict (Nat.le_trans hcD (by rw [List.length_cons]; omega))) ?_)
 exact wpAny_pure (h _ ⟨(hs2.2 _ (Ne.symm I.ne)).trans I.obj, hn2, I.ne⟩ hs2)
theorem make_map {R : Result -> Shared -> Prop} {vs : List Value} {kw : List (Str × Value)} (X : K.In s.heap) (hm : PySem.W.makesIn K C = true)
   (hi : PySem.W.findIn K (.ref C) "__init__" = some (some (.ref f))) (hf : PySem.W.typeIn K (.ref f) = some (.type "function"))
   (h : codeAny (model prog w) (A.under (.builtin "type.__call__" ⟨.ref C :: vs, kw⟩)) (.call (.ref f) ⟨.ref (s.heap.objs.size + 1) :: vs, kw⟩) (PySem.W.InitBack (s.heap.objs.size + 1) R)
     { s with heap := (s.heap.push PySem.W.emptyDict).push (PySem.W.instObj C s.heap.objs.size) }) :
   codeAny (model prog w) A (.call (.ref C) ⟨vs, kw⟩) R s := by
 obtain ⟨hh, g, d, t, os⟩ := s
 exact PySem.W.make_core (PySem.W.makes_of X hm) (PySem.W.looks_findIn X hi) (fun self => PySem.W.bind_fn X self hf) (.inl rfl) h
end
def xK (f : Str) (v : V) : List (Str × V) -> List (Str × V)
 | [] => [(f, v)]
 | (g, x) :: r => if g = f then (g, v) :: r else (g, x) :: xK f v r
theorem qQ (f g : Str) (v : V) : ∀ fs : List (Str × V), (xK f v fs).lookup g = if g = f then some v else fs.lookup g
 | [] => by
   show List.lookup g [(f, v)] = _
   by_cases h : g = f
   · have hb : (g == f) = true := beq_iff_eq.mpr h
     simp only [List.lookup, hb, if_pos h]
   · have hb : (g == f) = false := beq_eq_false_iff_ne.mpr h
     simp only [List.lookup, hb, if_neg h]
 | (k, x) :: r => by
   have ih := qQ f g v r
   rw [show xK f v ((k, x) :: r) = (if k = f then (k, v) :: r else (k, x) :: xK f v r) from rfl]
   by_cases hk : k = f
   · rw [if_pos hk]
     by_cases h : g = k
     · have hb : (g == k) = true := beq_iff_eq.mpr h
       simp only [List.lookup, hb, if_pos (h.trans hk)]
     · have hb : (g == k) = false := beq_eq_false_iff_ne.mpr h
       simp only [List.lookup, hb, if_neg (fun e : g = f => h (e.trans hk.symm))]
   · rw [if_neg hk]
     by_cases h : g = k
     · have hb : (g == k) = true := beq_iff_eq.mpr h
       simp only [List.lookup, hb, if_neg (fun e : g = f => hk (h.symm.trans e))]
     · have hb : (g == k) = false := beq_eq_false_iff_ne.mpr h
       simp only [List.lookup, hb]
       exact ih
theorem qL (f : Str) (v : V) : ∀ fs : List (Str × V), f ∈ (xK f v fs).map (·.1) /\ ∀ g, g ∈ fs.map (·.1) -> g ∈ (xK f v fs).map (·.1)
 | [] => ⟨by simp [xK], fun g h => by simp at h⟩
 | (k, x) :: r => by
   obtain ⟨i1, i2⟩ := qL f v r
   rw [show xK f v ((k, x) :: r) = (if k = f then (k, v) :: r else (k, x) :: xK f v r) from rfl]
   by_cases hk : k = f
   · rw [if_pos hk]
     subst hk
     exact ⟨by simp, fun g h => by simpa using h⟩
   · rw [if_neg hk]
     refine ⟨?_, fun g h => ?_⟩
     · rw [List.map_cons]
       exact List.mem_cons_of_mem _ i1
     · rw [List.map_cons] at h ⊢
       rcases List.mem_cons.mp h with e | e
       · exact List.mem_cons.mpr (.inl e)
       · exact List.mem_cons_of_mem _ (i2 g e)
theorem qS (f : Str) (v : V) : ∀ fs : List (Str × V), (xK f v fs).length <= fs.length + 1
 | [] => by simp [xK]
 | (k, x) :: r => by
   have ih := qS f v r
   rw [show xK f v ((k, x) :: r) = (if k = f then (k, v) :: r else (k, x) :: xK f v r) from rfl]
   by_cases hk : k = f
   · rw [if_pos hk, List.length_cons, List.length_cons]; omega
   · rw [if_neg hk, List.length_cons, List.length_cons]; omega
theorem RelO.some_of {v : V} {o : Option Value} (r : RelO (some v) o) : ∃ u, o = some u /\ RelV v u := by
 cases o with
 | none => exact (show False from r).elim
 | some u => exact ⟨u, rfl, r⟩
theorem RelO.none_of {o : Option Value} (r : RelO none o) : o = none := by
 cases o with
 | none => rfl
 | some u => exact (show False from r).elim
theorem handed_of {v : V} {u : Value} (r : RelV v u) : PySem.W.handedIn u = true := by
 cases v with
 | non => cases (show u = Value.none from r); rfl
 | bl b => cases (show u = Value.bool b from r); rfl
 | int i => obtain ⟨t, e⟩ := (show ∃ t, u = Value.int i t from r); cases e; rfl
 | str x => obtain ⟨t, e⟩ := (show ∃ t, u = Value.str x t from r); cases e; rfl
 | byt b => obtain ⟨t, e⟩ := (show ∃ t, u = Value.bytes b t from r); cases e; rfl
 | flt b => obtain ⟨t, e⟩ := (show ∃ t, u = Value.float b t from r); cases e; rfl
 | ref a => cases (show u = Value.ref a from r); rfl
 | ty n => cases (show u = Value.type n from r); rfl
section
variable {P : Program} {w : World} {H H' : Hp} {h h' : Heap} {a C dx : Addr} {fs fs' : List (Str × V)}
theorem uD (hok : HOk P w H h) (e : H a = some (.ins C dx fs)) : ∃ mA, ObjM h a dx C mA /\ (∀ f, RelO (fs.lookup f) (mA f)) /\ PySem.Within mA (fs.map (·.1)) /\ fs.length <= 1000 /\ H dx = some (.own a) := by
 obtain ⟨d, z, ne, ob, mA, n, r, q⟩ := (show ObjOk P w H h a (.ins C dx fs) from hok a _ e)
 exact ⟨mA, ⟨ob, n, ne⟩, r, q, z, d⟩
end
structure Cls (K : PySem.W.Frag) (C : Addr) : Prop where
 pg : PySem.W.plainGet K C Str.empty = true
 hd : PySem.W.hasDictIn K C = true
 po : PySem.W.plainOver K C = true
 sa : PySem.W.findIn K (.ref C) "__setattr__" = some (some (.builtin "object.__setattr__"))
theorem Cls.get {K : PySem.W.Frag} {C : Addr} (c : Cls K C) (f : Str) : PySem.W.plainGet K C f = true := c.pg
def NoAttr (K : PySem.W.Frag) (C : Addr) (f : Str) : Prop := PySem.W.findIn K (.ref C) f = some none
theorem NoAttr.taker {K : PySem.W.Frag} {C : Addr} {f : Str} (n : NoAttr K C f) : PySem.W.takerIn K C f = some none := by
 unfold PySem.W.takerIn
 rw [show PySem.W.findIn K (.ref C) f = some none from n]
 rfl
structure Con (K : PySem.W.Frag) (C : Addr) (f : Str) (v : V) (u : Value) : Prop where
 at_ : PySem.W.findIn K (.ref C) f = some (some u)
 rel : RelV v u
 get : PySem.W.specialIn K u "__get__" = some none
 cp : PySem.W.copiedNames.contains f = false
structure Meth (K : PySem.W.Frag) (C : Addr) (m : Str) (f : Addr) : Prop where
 at_ : PySem.W.findIn K (.ref C) m = some (some (.ref f))
 fn : PySem.W.isFn K (.ref f) = true
 kp : PySem.W.keepIn K (.ref f) = true
section
variable {X : Cx} {pins : List (Addr × Obj)} {σ : St} {H : Hp} {s : Shared} {a C dx : Addr} {fs : List (Str × V)} {f : Str} {v : V} {A : Around} {E : Value -> Shared -> Prop}
theorem getattr_ok {b : Bool} {Q : Value -> Shared -> Prop} (I : Inv X pins σ H s) (e : H a = some (.ins C dx fs)) (c : Cls X.K C) (n : NoAttr X.K C f) (l : fs.lookup f = some v)
   (h : ∀ u s', Inv X pins σ H s' -> RelV v u -> Q u s') : wpAny (model X.prog X.w) A (getAttr (.ref a) f b) Q E s := by
 obtain ⟨mA, O, r, _, _, _⟩ := uD I.hok e
 obtain ⟨u, hu, ru⟩ := RelO.some_of (v := v) (o := mA f) (by rw [← l]; exact r f)
 exact get_map I.kIn O (c.get f) c.hd n hu (handed_of ru) (h u _ (I.tok _) ru)
theorem getmeth_ok {m : Str} {g : Addr} {pl : Sem Bool} {Q : Value × List Value -> Shared -> Prop} (I : Inv X pins σ H s) (e : H a = some (.ins C dx fs)) (c : Cls X.K C) (k : Meth X.K C m g) (l : fs.lookup m = none)
   (h : Q (.ref g, [.ref a]) s) : wpAny (model X.prog X.w) A (getMethod (.ref a) m pl) Q E s := by
 obtain ⟨mA, O, r, _, _, _⟩ := uD I.hok e
 have hn : mA m = none := RelO.none_of (by rw [← l]; exact r m)
 exact get_meth I.kIn O (c.get m) k.at_ k.fn hn h
theorem setattr_ok {y : V} {u : Value} {Q : Unit -> Shared -> Prop} (I : Inv X pins σ H s) (e : H a = some (.ins C dx fs)) (c : Cls X.K C) (n : NoAttr X.K C f) (hl : fs.length < 1000) (ry : RelV y u)
   (h : ∀ s', Inv X pins σ (upd H a (.ins C dx (xK f y fs))) s' -> Q () s') : wpAny (model X.prog X.w) A (setAttr (.ref a) f u) Q E s := by
 obtain ⟨mA, O, r, wi, _, ho⟩ := uD I.hok e
 have hz : (fs.map (·.1)).length <= sizeLine := by rw [List.length_map, sizeLine_eq]; omega
 refine set_map I.kIn O c.sa c.po n.taker c.hd wi hz fun h' O' sb => h _ ?_
 have hd : ∃ o, h'.get? dx = some o := let ⟨o, _, _, e', _⟩ := O'.ns; ⟨o, e'⟩
 refine I.write (x := a) (e := dx) (by rw [e]; exact True.intro) (.inr ho) (fun b q hb z => (sb.2 b hb).trans z) hd ?_
 refine ⟨by rw [zQ O.ne]; exact ho, ?_, O.ne, O'.obj, _, O'.ns, fun g => ?_, fun g hg => ?_⟩
 · have := qS f y fs; omega
 · show RelO ((xK f y fs).lookup g) (if g = f then some u else mA g)
   rw [qQ]
   by_cases q : g = f
   · rw [if_pos q, if_pos q]; exact ry
   · rw [if_neg q, if_neg q]; exact r g
 · by_cases q : g = f
   · rw [q]; exact (qL f y fs).1
   · refine (qL f y fs).2 g (wi g fun z => hg ?_)
     show (if g = f then some u else mA g) = none
     rw [if_neg q]; exact z
theorem Inv.made (I : Inv X pins σ H s) : Inv X pins σ (upd (upd H s.heap.objs.size (.own (s.heap.objs.size + 1))) (s.heap.objs.size + 1) (.ins C s.heap.objs.size []))
   { s with heap := (s.heap.push PySem.W.emptyDict).push (PySem.W.instObj C s.heap.objs.size) } := by
 have e1 : (s.heap.push PySem.W.emptyDict).get? s.heap.objs.size = some PySem.W.emptyDict := Heap.get?_push_size s.heap rfl
 have e2 : ((s.heap.push PySem.W.emptyDict).push (PySem.W.instObj C s.heap.objs.size)).get? (s.heap.objs.size + 1) = some (PySem.W.instObj C s.heap.objs.size) := by
   have := Heap.get?_push_size (s.heap.push PySem.W.emptyDict) (o := PySem.W.instObj C s.heap.objs.size) rfl
   rwa [Heap.size_push] at this
 have e3 : (s.heap.push PySem.W.emptyDict).Ns s.heap.objs.size (fun _ => none) := ⟨PySem.W.emptyDict, #[], _, e1, rfl, (fun e he => absurd he (by simp)), fun _ => rfl⟩
 have I1 := I.laid (a := s.heap.objs.size) (o := .own (s.heap.objs.size + 1)) (h' := s.heap.push PySem.W.emptyDict) (t' := s.toks) (fun b u q => Heap.get?_push_of_some _ q) (Nat.le_refl _) ⟨_, e1⟩
 refine I1.laid (a := s.heap.objs.size + 1) (o := .ins C s.heap.objs.size []) (t' := s.toks) (fun b u q => Heap.get?_push_of_some _ q) (Nat.le_of_eq (Heap.size_push _ _)) ?_
 have ne : s.heap.objs.size ≠ s.heap.objs.size + 1 := Nat.ne_of_lt (Nat.lt_succ_self _)
 refine ⟨by rw [zQ ne, zB], Nat.zero_le _, ne, e2, fun _ => none, (Heap.Ns1.of_empty e3).at fun o q => Heap.get?_push_of_some _ q, fun _ => True.intro, fun y hy => absurd rfl hy⟩
theorem attr_of {prog : Program} {w : World} {env : Env} {e : Expr} {f : Str} {pos : Pos} {s : Shared} {Q : Value -> Shared -> Prop} (hb : attributeBase e f env (eval e env) = eval e env)
   (h : wpAny (model prog w) A (eval e env) (fun o s₁ => wpAny (model prog w) A (getAttr o f true) Q E s₁) E s) : wpAny (model prog w) A (eval (.Attribute e f pos) env) Q E s :=
 Attribute_any_ h (by rw [arm_eval_Attribute, hb])
end
def jK (K : PySem.W.Frag) (ta : TE) (f : Str) : TE := fun σ H Q => ta σ H fun x H1 => ∃ a C dx fs v, x = .ref a /\ H1 a = some (.ins C dx fs) /\ Cls K C /\ NoAttr K C f /\ fs.lookup f = some v /\ Q v H1
def sFld (K : PySem.W.Frag) (ta tv : TE) (f : Str) : TS := fun D σ H => tv σ H fun y H1 => ta σ H1 fun x H2 => ∃ a C dx fs, x = .ref a /\ H2 a = some (.ins C dx fs) /\ Cls K C /\ NoAttr K C f /\ fs.length < 1000 /\
 D.nx σ (upd H2 a (.ins C dx (xK f y fs)))
section
variable {X : Cx} {o e value : Expr} {f : Str} {pos pos' tpos : Pos} {ta tv : TE}
theorem uP (he : PE X e ta) (hb : attributeBase e f X.env (eval e X.env) = eval e X.env) : PE X (.Attribute e f pos) (jK X.K ta f) := by
 intro pins s σ H Q I h
 refine attr_of hb (thn (he pins s σ H _ I h) fun u s1 ⟨x, H1, I1, rx, a, C, dx, fs, v, ex, ea, c, n, l, q⟩ => ?_)
 subst ex
 obtain rfl : u = Value.ref a := rx
 exact getattr_ok I1 ea c n l fun u' s2 I2 ru => ⟨v, H1, I2, ru, q⟩
theorem ps_fld (ha : PE X o ta) (hv : PE X value tv) (hs : swapsWith value (some (.Attribute o f pos')) pos.line X.env = pure false) : PS X (.Assign [.Attribute o f pos'] value pos) (sFld X.K ta tv f) := by
 intro pins s σ H D I h
 refine plainObj_wpAny_Assign_Attribute (thn (hv pins s σ H _ I h) fun u s1 ⟨y, H1, I1, ry, q⟩ => thn (ha pins s1 σ H1 _ I1 q) fun ov s2 ⟨x, H2, I2, rx, a, C, dx, fs, ex, ea, c, n, l, q2⟩ => ?_) hs
 subst ex
 obtain rfl : ov = Value.ref a := rx
 exact setattr_ok I2 ea c n l ry fun s3 I3 => ⟨σ, _, I3, q2⟩
end
section
variable {X : Cx} {pins : List (Addr × Obj)} {σ : St} {H : Hp} {s : Shared} {A : Around} {E : Value -> Shared -> Prop} {Q : Value -> Shared -> Prop} {c : Value} {b : Bool}
inductive TyOf (K : PySem.W.Frag) (H : Hp) : V -> Value -> Prop where
 | non : TyOf K H .non (.type "NoneType")
 | bl (x : Bool) : TyOf K H (.bl x) (.type "bool")
 | int (i : Int) : TyOf K H (.int i) (.type "int")
 | str (x : Str) : TyOf K H (.str x) (.type "str")
 | flt (x : UInt64) : TyOf K H (.flt x) (.type "float")
 | lst {a : Addr} {xs : List V} (e : H a = some (.lst xs)) : TyOf K H (.ref a) (.type "list")
 | frz {a : Addr} {o : Obj} {xs : List V} (e : H a = some (.frz o (.lst xs))) : TyOf K H (.ref a) (.type "list")
 | tup {a : Addr} {xs : List V} (e : H a = some (.tup xs)) : TyOf K H (.ref a) (.type "tuple")
 | dK {a : Addr} {kvs : List (Key × V)} (e : H a = some (.dK kvs)) : TyOf K H (.ref a) (.type "dict")
 | dT {a : Addr} {kvs : List (List Key × V)} (e : H a = some (.dT kvs)) : TyOf K H (.ref a) (.type "dict")
 | ins {a C dx : Addr} {fs : List (Str × V)} (e : H a = some (.ins C dx fs)) (cl : Cls K C) (ha : PySem.W.findIn K (.ref C) "__class__" = some (some (.builtin "object.__class__")))
     (hn : PySem.W.specialIn K (.builtin "object.__class__") "__get__" = some (some (.builtin "getset_descriptor.__get__"))) (htk : PySem.W.takesIn K (.builtin "object.__class__") = some true)
     (hm : PySem.W.mroIn K C (.type "object") = some true) : TyOf K H (.ref a) (.ref C)
theorem isinst_ok {x : V} {u t : Value} (I : Inv X pins σ H s) (rx : RelV x u) (ty : TyOf X.K H x t) (e : PySem.W.kitOne X.K t c = some b) (h : ∀ tk, Q (.bool b) { s with toks := tk }) :
   wpAny (model X.prog X.w) A (call (.builtin "isinstance") [u, c]) Q E s := by
 cases ty with
 | non => cases (show u = Value.none from rx); exact PySem.W.kia_one PySem.W.kitx_none I.kIn True.intro e (fun z => nomatch z) h
 | bl y => cases (show u = Value.bool y from rx); exact PySem.W.kia_one PySem.W.kitx_bool I.kIn True.intro e (fun z => nomatch z) h
 | int i => obtain ⟨t, q⟩ := (show ∃ t, u = Value.int i t from rx); cases q; exact PySem.W.kia_one PySem.W.kitx_int I.kIn True.intro e (fun z => nomatch z) h
 | str y => obtain ⟨t, q⟩ := (show ∃ t, u = Value.str y t from rx); cases q; exact PySem.W.kia_one PySem.W.kitx_str I.kIn True.intro e (fun z => nomatch z) h
 | flt y => obtain ⟨t, q⟩ := (show ∃ t, u = Value.float y t from rx); cases q; exact PySem.W.kia_one PySem.W.kitx_float I.kIn True.intro e (fun z => nomatch z) h
 | @lst a xs ea =>
   cases (show u = Value.ref a from rx)
   obtain ⟨_, _, n, _, h1⟩ := (show ObjOk X.prog X.w H s.heap a (.lst xs) from I.hok a _ ea)
   exact PySem.W.kia_one PySem.W.kitx_list I.kIn ⟨_, h1, rfl⟩ e (fun z => nomatch z) h
 | @frz a ob xs ea =>
   cases (show u = Value.ref a from rx)
   obtain ⟨_, _, _, n, _, h1⟩ := (show ObjOk X.prog X.w H s.heap a (.frz ob (.lst xs)) from I.hok a _ ea)
   exact PySem.W.kia_one PySem.W.kitx_list I.kIn ⟨_, h1, rfl⟩ e (fun z => nomatch z) h
 | @tup a xs ea =>
   cases (show u = Value.ref a from rx)
   obtain ⟨_, _, _, p⟩ := (show ObjOk X.prog X.w H s.heap a (.tup xs) from I.hok a _ ea)
   obtain ⟨o, h1, h2, _⟩ := p
   exact PySem.W.kia_one PySem.W.kitx_tuple I.kIn ⟨o, h1, h2⟩ e (fun z => nomatch z) h
 | @dK a kvs ea =>
   cases (show u = Value.ref a from rx)
   obtain ⟨_, _, vs, _, p⟩ := (show ObjOk X.prog X.w H s.heap a (.dK kvs) from I.hok a _ ea)
   obtain ⟨o, es, ep, h1, h2, _⟩ := p
   exact PySem.W.kia_one PySem.W.kitx_dict I.kIn ⟨o, h1, h2.1⟩ e (fun z => nomatch z) h
 | @dT a kvs ea =>
   cases (show u = Value.ref a from rx)
   obtain ⟨_, _, xs, _, o, es, ep, h1, h2, _⟩ := (show ObjOk X.prog X.w H s.heap a (.dT kvs) from I.hok a _ ea)
   exact PySem.W.kia_one PySem.W.kitx_dict I.kIn ⟨o, h1, h2.1⟩ e (fun z => nomatch z) h
 | @ins a C dx fs ea cl ha hn htk hm =>
   cases (show u = Value.ref a from rx)
   obtain ⟨mA, O, _⟩ := uD I.hok ea
   obtain ⟨od, J, _⟩ := O.look
   exact PySem.W.kia_one (PySem.W.kitx_own (cl.get _) cl.hd ha hn htk hm) I.kIn J e (fun z => nomatch z) h
end
structure Room (k : Nat) (A : Around) : Prop where
 hd : A.handled = none
 dp : A.depth + 3 * k + 5 < recursionLimit
 un : A.units + 16 * k + 200 < cLine
theorem Room.mono {j k : Nat} {A : Around} (r : Room k A) (h : j <= k) : Room j A := ⟨r.hd, by have := r.dp; omega, by have := r.un; omega⟩
theorem Room.deeper {k : Nat} {A : Around} (r : Room (k + 1) A) (env : Env) : Room k (A.deeper env) :=
 ⟨r.hd, by have := r.dp; show A.depth + 1 + 3 * k + 5 < _; omega, by have := r.un; show A.units + 3 + 16 * k + 200 < _; omega⟩
theorem make_depth {A : Around} {C : Addr} {us : List Value} {kw : List (Str × Value)} : (A.under (.builtin "type.__call__" ⟨.ref C :: us, kw⟩)).depth = A.depth + 1 := by
 first | rfl | simp [Around.under, Code.weight, Code.isCreation, Code.isGuard, Code.isCaller, Code.frames, Code.isFrame, guardIds]
theorem make_units {A : Around} {C : Addr} {us : List Value} {kw : List (Str × Value)} : (A.under (.builtin "type.__call__" ⟨.ref C :: us, kw⟩)).units = A.units + 1 := by
 first | rfl | simp [Around.under, Code.cUnits, Code.frames, Code.isFrame]
theorem Room.make {k : Nat} {A : Around} (r : Room (k + 1) A) (C : Addr) (us : List Value) (kw : List (Str × Value)) : Room k (A.under (.builtin "type.__call__" ⟨.ref C :: us, kw⟩)) :=
 ⟨r.hd, by have := r.dp; rw [make_depth]; omega, by have := r.un; rw [make_units]; omega⟩
theorem Room.depth {k : Nat} {A : Around} (r : Room k A) : A.depth < recursionLimit := by have := r.dp; omega
theorem Room.units {k : Nat} {A : Around} (r : Room k A) : A.units + 64 < cLine := by have := r.un; omega
def tNil : TA := fun _ H Q => Q [] H
def tCons (ta : TE) (tr : TA) : TA := fun σ H Q => ta σ H fun x H1 => tr σ H1 fun xs H2 => Q (x :: xs) H2
section
variable {X : Cx} {e : Expr} {es : List Expr} {te : TE} {t : TA} {pos : Pos}
theorem pa_nil : PA X [] tNil := fun _ _ _ _ H Q I h => Calls.spliced_nil ⟨[], H, I, .nil, h⟩
theorem zA (ha : PE X e te) (hr : PA X es t) (hs : starEach (e :: es) X.env = (false, eval e X.env) :: starEach es X.env := by rfl) : PA X (e :: es) (tCons te t) := by
 intro pos pins s σ H Q I h
 rw [hs]
 show wpAny _ _ (spliced ((false, eval e X.env) :: backTo pos (starEach es X.env))) _ _ s
 refine Calls.spliced_cons (thn (ha pins s σ H _ I h) fun u s1 ⟨x, H1, I1, r1, q1⟩ => ?_)
 exact thn (hr pos pins s1 σ H1 _ I1 q1) fun us s2 ⟨xs, H2, I2, r2, q2⟩ => ⟨x :: xs, H2, I2, .cons r1 r2, q2⟩
def tTup (t : TA) : TE := fun σ H Q => t σ H fun xs H1 => xs.length <= sizeLine /\ ∀ p, H1 p = none -> Q (.ref p) (upd H1 p (.tup xs))
def tLst (t : TA) : TE := fun σ H Q => t σ H fun xs H1 => xs.length <= sizeLine /\ ∀ p, H1 p = none -> Q (.ref p) (upd H1 p (.lst xs))
theorem yJ {x1} (h : PA X es t) : PE X (.Tuple es x1 pos) (tTup t) := by
 intro pins s σ H Q I hq
 refine wpAny_Tuple_spliced (thn (h pos pins s σ H _ I hq) fun us s1 ⟨xs, H1, I1, r, z, q⟩ => ⟨by rw [← r.length]; exact z, ?_⟩)
 have hf : H1 s1.heap.objs.size = none := I1.hok.fresh (Nat.le_refl _)
 refine ⟨.ref s1.heap.objs.size, upd H1 s1.heap.objs.size (.tup xs), I1.laid (t' := s1.toks) (fun b u e => Heap.get?_push_of_some _ e) (Nat.le_refl _) ?_, rfl, q _ hf⟩
 exact ⟨z, us, r, ⟨_, Heap.get?_push_size _ rfl, rfl, _, rfl⟩⟩
theorem zX (h : PA X es t) : PE X (.List es pos) (tLst t) := by
 intro pins s σ H Q I hq
 refine wpAny_List_spliced (thn (h pos pins s σ H _ I hq) fun us s1 ⟨xs, H1, I1, r, z, q⟩ => ⟨by rw [← r.length]; exact z, ?_⟩)
 have hf : H1 s1.heap.objs.size = none := I1.hok.fresh (Nat.le_refl _)
 refine ⟨.ref s1.heap.objs.size, upd H1 s1.heap.objs.size (.lst xs), I1.laid (t' := s1.toks) (fun b u e => Heap.get?_push_of_some _ e) (Nat.le_refl _) ?_, rfl, q _ hf⟩
 exact ⟨z, us, 0, r, Heap.get?_push_size _ rfl⟩
end
abbrev Sp := List V -> Hp -> VK -> XK -> Prop
abbrev CXT := List Env -> Hp -> Shared -> XK -> Value -> Shared -> Prop
structure Env0 (P : Program) (w : World) (K : PySem.W.Frag) (mg : Str -> Option Value) (base : Heap) (A : Around) (outer : List Env) (s : Shared) (H : Hp) : Prop where
 frames : A.frames = some outer
 mod : Mod K mg base
 bs : ∀ b o, base.get? b = some o -> s.heap.get? b = some o /\ H b = none
 bsz : base.objs.size <= s.heap.objs.size
 funs : s.heap.FunFrames base outer
 frf : ∀ b ∈ frs outer, H b = none
 hok : HOk P w H s.heap
 bare : AllBare s.gens
def CE (outer : List Env) (P : Program) (w : World) (H : Hp) (s : Shared) (Q : VK) (u : Value) (s' : Shared) : Prop :=
 ∃ v H', s'.os = s.os /\ AllBare s'.gens /\ Un (frs outer) [] H H' s.heap s'.heap /\ HOk P w H' s'.heap /\ RelV v u /\ Q v H'
def CR (CX : CXT) (outer : List Env) (P : Program) (w : World) (H : Hp) (s : Shared) (Q : VK) (E : XK) (r : Result) (s' : Shared) : Prop :=
 match r with
 | .ok (.ret u) => CE outer P w H s Q u s'
 | .ok _ => False
 | .error e => CX outer H s E e s'
structure FnOk (P : Program) (w : World) (K : PySem.W.Frag) (mg : Str -> Option Value) (base : Heap) (CX : CXT) (k : Nat) (f : Addr) (fd : FuncData) (ps : List Str) (sp : Sp) : Prop where
 len : ∀ vs H Q E, sp vs H Q E -> vs.length = ps.length
 run : ∀ (A : Around) (outer : List Env) (s : Shared) (H : Hp) (args : Args) (us : List Value) (vs : List V) (Q : VK) (E : XK), Room k A -> Env0 P w K mg base A outer s H -> BindsTo s fd args (ps.zip us) -> Vals vs us -> sp vs H Q E ->
   codeAny (model P w) A (.call (.ref f) args) (CR CX outer P w H s Q E) s
theorem Env0.make {P : Program} {w : World} {K : PySem.W.Frag} {mg : Str -> Option Value} {base : Heap} {A : Around} {outer : List Env} {s : Shared} {H : Hp} (e : Env0 P w K mg base A outer s H) (C : Addr) (us : List Value) (kw : List (Str × Value)) :
   Env0 P w K mg base (A.under (.builtin "type.__call__" ⟨.ref C :: us, kw⟩)) outer s H := ⟨by first | exact e.frames | (simpa [Around.under, Code.envs, Code.isFrame, pushEnvs] using e.frames), e.mod, e.bs, e.bsz, e.funs, e.frf, e.hok, e.bare⟩
section
variable {X : Cx} {pins : List (Addr × Obj)} {σ : St} {H : Hp} {s s' : Shared}
theorem Inv.env0 (I : Inv X pins σ H s) : Env0 X.prog X.w X.K X.mg X.base X.A X.stack s H :=
 ⟨I.ok.frames, I.ok.mod, I.bs, Nat.le_trans I.ok.bsz I.sz, I.stack, I.stkFree, I.hok, I.bare⟩
theorem Inv.after {Q : VK} {u : Value} (I : Inv X pins σ H s) (h : CE X.stack X.prog X.w H s Q u s') : EP X pins σ Q u s' := by
 obtain ⟨v, H', os, bare, un, hok, r, q⟩ := h
 obtain ⟨hh, g, d, t, os'⟩ := s'
 obtain rfl : os' = s.os := os
 exact ⟨v, H', I.call (h' := hh) (g' := g) (d' := d) (t' := t) (ch := []) un hok bare (fun b z => absurd z (by simp)), r, q⟩
end
def tCall (sp : Sp) (dvs : List V) (E : XK) (t : TA) : TE := fun σ H Q => t σ H fun vs H1 => sp (vs ++ dvs) H1 Q E
def yW (C : Addr) (m : Str) (sp : Sp) (dvs : List V) (E : XK) (ta : TE) (t : TA) : TE := fun σ H Q => ta σ H fun x H1 => ∃ a dx fs, x = .ref a /\ H1 a = some (.ins C dx fs) /\ fs.lookup m = none /\
 t σ H1 fun vs H2 => sp (x :: (vs ++ dvs)) H2 Q E
def vK (C : Addr) (sp : Sp) (dvs : List V) (E : XK) (t : TA) : TE := fun σ H Q => t σ H fun vs H1 => ∀ x dx, H1 x = none -> H1 dx = none -> dx ≠ x ->
 sp (.ref x :: (vs ++ dvs)) (upd (upd H1 dx (.own x)) x (.ins C dx [])) (fun v H2 => v = .non /\ Q (.ref x) H2) E
def Binds (K : PySem.W.Frag) (fd : FuncData) (ps : List Str) (ds : List Value) : Prop :=
 ∀ (s : Shared) (us : List Value), K.In s.heap -> (us ++ ds).length = ps.length -> BindsTo s fd ⟨us, []⟩ (ps.zip (us ++ ds))
theorem Binds.all {K : PySem.W.Frag} {fd : FuncData} {ps : List Str} (h : ∀ us : List Value, us.length = ps.length -> bindArgs fd ⟨us, []⟩ = pure (ps.zip us)) : Binds K fd ps [] := fun s us _ hl => by
 rw [List.append_nil] at hl ⊢
 exact .of_eq (h us hl)
def jY (CX : CXT) (X : Cx) (E : XK) : Prop := ∀ (pins : List (Addr × Obj)) (σ : St) (H : Hp) (s : Shared) (e : Value) (s' : Shared), Inv X pins σ H s -> CX X.stack H s E e s' -> X.xe e s'
section
variable {X : Cx} {CX : CXT} {k : Nat} {f C : Addr} {fd : FuncData} {ps : List Str} {sp : Sp} {dvs : List V} {ds : List Value} {E : XK} {x m : Str} {p pos apos : Pos} {e o : Expr} {es : List Expr} {ta : TE} {t : TA}
theorem run_fn {pins : List (Addr × Obj)} {σ : St} {H : Hp} {s : Shared} {Q : VK} {us : List Value} {vs : List V} (F : FnOk X.prog X.w X.K X.mg X.base CX k f fd ps sp) (hr : Room k X.A) (hb : Binds X.K fd ps ds) (hd : Vals dvs ds) (hx : jY CX X E)
   (I : Inv X pins σ H s) (r : Vals vs us) (h : sp (vs ++ dvs) H Q E) : wpAny (model X.prog X.w) X.A (call (.ref f) us) (EP X pins σ Q) X.xe s := by
 have r2 : Vals (vs ++ dvs) (us ++ ds) := r.append hd
 have hl : (us ++ ds).length = ps.length := by rw [← r2.length]; exact F.len _ _ _ _ h
 refine wpAny_call (codeAny_mono (F.run X.A X.stack s H ⟨us, []⟩ (us ++ ds) (vs ++ dvs) Q E hr I.env0 (hb s us I.kIn hl) r2 h) fun r s' hq => ?_)
 cases r with
 | error e => exact hx pins σ H s e s' I hq
 | ok fl =>
   cases fl with
   | ret u => exact I.after hq
   | next => exact False.elim hq
   | brk => exact False.elim hq
   | cont => exact False.elim hq
theorem pe_call (F : FnOk X.prog X.w X.K X.mg X.base CX k f fd ps sp) (hr : Room k X.A) (hg : Gl X x) (hm : X.mg x = some (.ref f)) (hk : PySem.W.keepIn X.K (.ref f) = true) (hb : Binds X.K fd ps ds) (hd : Vals dvs ds) (hx : jY CX X E)
   (ha : PA X (e :: es) t) (hdb : (x == ("__debug__" : Str)) = false := by decide) (he : starEach (e :: es) X.env = (false, eval e X.env) :: starEach es X.env := by rfl) (hpl : (backTo pos (starEach es X.env)).any (·.1) = false := by rfl) :
   PE X (.Call (.Name x p) (e :: es) [] pos) (tCall sp dvs E t) := by
 intro pins s σ H Q I h
 refine wpAny_Call_Name_kw (jO I hg hm ?_ hdb)
 refine PySem.W.callWith_K (h₀ := X.base) I.ok.mod.kin hk (thn (ha pos pins s σ H _ I h) fun us s1 ⟨vs, H1, I1, r, q⟩ => ⟨I1.kIn, ?_⟩) he hpl
 exact run_fn F hr hb hd hx I1 r q
theorem pe_meth {pl : Sem Bool} (he : PE X o ta) (c : Cls X.K C) (hm : Meth X.K C m f) (F : FnOk X.prog X.w X.K X.mg X.base CX k f fd ps sp) (hr : Room k X.A) (hb : Binds X.K fd ps ds) (hd : Vals dvs ds) (hx : jY CX X E) (ha : PA X (e :: es) t)
   (hst : starEach (e :: es) X.env = (false, eval e X.env) :: starEach es X.env := by rfl) (hpl : (backTo pos (starEach es X.env)).any (·.1) = false := by rfl)
   (ht : eval (.Call (.Attribute o m apos) (e :: es) [] pos) X.env = (do
     let ov ← eval o X.env
     standAt apos.atName
     let (f, first) ← holding [ov] (getMethod ov m pl)
     callWith pos f first (backTo pos (starEach (e :: es) X.env)) (backToKw pos (keywordEach [] X.env))) := by rfl) :
   PE X (.Call (.Attribute o m apos) (e :: es) [] pos) (yW C m sp dvs E ta t) := by
 intro pins s σ H Q I h
 refine PySem.W.methodCall_KW (pl := pl) (thn (he pins s σ H _ I h) fun u s1 ⟨x, H1, I1, rx, a, dx, fs, ex, ea, l, q⟩ => ?_) ht
 subst ex
 obtain rfl : u = Value.ref a := rx
 refine getmeth_ok I1 ea c hm l ?_
 refine PySem.W.callWith_K (first := [.ref a]) (h₀ := X.base) I.ok.mod.kin hm.kp (thn (ha pos pins s1 σ H1 _ I1 q) fun us s2 ⟨vs, H2, I2, r, q2⟩ => ⟨I2.kIn, ?_⟩) hst hpl
 exact run_fn (us := .ref a :: us) (vs := .ref a :: vs) F hr hb hd hx I2 (.cons rfl r) q2
structure Mk (K : PySem.W.Frag) (C f : Addr) : Prop where
 makes : PySem.W.makesIn K C = true
 init : PySem.W.findIn K (.ref C) "__init__" = some (some (.ref f))
 fn : PySem.W.isFn K (.ref f) = true
 kp : PySem.W.keepIn K (.ref C) = true
theorem run_make {pins : List (Addr × Obj)} {σ : St} {H : Hp} {s : Shared} {Q : VK} {us : List Value} {vs : List V} (M : Mk X.K C f) (F : FnOk X.prog X.w X.K X.mg X.base CX k f fd ps sp) (hr : Room (k + 1) X.A) (hb : Binds X.K fd ps ds) (hd : Vals dvs ds)
   (hx : jY CX X E) (I : Inv X pins σ H s) (r : Vals vs us)
   (h : ∀ x dx, H x = none -> H dx = none -> dx ≠ x -> sp (.ref x :: (vs ++ dvs)) (upd (upd H dx (.own x)) x (.ins C dx [])) (fun v H2 => v = .non /\ Q (.ref x) H2) E) :
   wpAny (model X.prog X.w) X.A (call (.ref C) us) (EP X pins σ Q) X.xe s := by
 have hq := h (s.heap.objs.size + 1) s.heap.objs.size (I.hok.fresh (Nat.le_succ _)) (I.hok.fresh (Nat.le_refl _)) (Nat.ne_of_lt (Nat.lt_succ_self _))
 have I2 := Inv.made (C := C) I
 have r2 : Vals (V.ref (s.heap.objs.size + 1) :: (vs ++ dvs)) (Value.ref (s.heap.objs.size + 1) :: (us ++ ds)) := .cons rfl (r.append hd)
 have hl : (Value.ref (s.heap.objs.size + 1) :: us ++ ds).length = ps.length := by
   have e := r2.length
   rw [F.len _ _ _ _ hq] at e
   exact e.symm
 refine wpAny_call (make_map (f := f) I.kIn M.makes M.init (beq_iff_eq.mp M.fn) (codeAny_mono (F.run _ X.stack _ _ ⟨Value.ref (s.heap.objs.size + 1) :: us, []⟩ (Value.ref (s.heap.objs.size + 1) :: (us ++ ds)) _ _ E (hr.make C us [])
   (I2.env0.make C us []) (hb _ (Value.ref (s.heap.objs.size + 1) :: us) I2.kIn hl) r2 hq) fun r s' hq' => ?_))
 cases r with
 | error e => exact hx pins σ _ _ e s' I2 hq'
 | ok fl =>
   cases fl with
   | ret u =>
     obtain ⟨v, H', I3, rv, ev, q3⟩ := I2.after hq'
     subst ev
     exact ⟨rv, ⟨V.ref (s.heap.objs.size + 1), H', I3, rfl, q3⟩⟩
   | next => exact False.elim hq'
   | brk => exact False.elim hq'
   | cont => exact False.elim hq'
theorem pe_make (M : Mk X.K C f) (F : FnOk X.prog X.w X.K X.mg X.base CX k f fd ps sp) (hr : Room (k + 1) X.A) (hg : Gl X x) (hm : X.mg x = some (.ref C)) (hb : Binds X.K fd ps ds) (hd : Vals dvs ds) (hx : jY CX X E)
   (ha : PA X (e :: es) t) (hdb : (x == ("__debug__" : Str)) = false := by decide) (he : starEach (e :: es) X.env = (false, eval e X.env) :: starEach es X.env := by rfl) (hpl : (backTo pos (starEach es X.env)).any (·.1) = false := by rfl) :
   PE X (.Call (.Name x p) (e :: es) [] pos) (vK C sp dvs E t) := by
 intro pins s σ H Q I h
 refine wpAny_Call_Name_kw (jO I hg hm ?_ hdb)
 refine PySem.W.callWith_K (h₀ := X.base) I.ok.mod.kin M.kp (thn (ha pos pins s σ H _ I h) fun us s1 ⟨vs, H1, I1, r, q⟩ => ⟨I1.kIn, ?_⟩) he hpl
 exact run_make M F hr hb hd hx I1 r q
end
section
variable {X : Cx} {CX : CXT} {k : Nat} {f C : Addr} {fd : FuncData} {ps ks : List Str} {sp : Sp} {E : XK} {x m : Str} {p pos apos kpos : Pos} {e o : Expr} {es : List Expr} {kws : List Keyword} {te ta : TE} {t tk : TA} {nm : Option Str}
structure KBinds (K : PySem.W.Frag) (fd : FuncData) (ps ks : List Str) (g : List Value -> List Value -> List Value) (gV : List V -> List V -> List V) : Prop where
 to : ∀ (s : Shared) (us ws : List Value), K.In s.heap -> (g us ws).length = ps.length -> BindsTo s fd ⟨us, ks.zip ws⟩ (ps.zip (g us ws))
 rel : ∀ {vs : List V} {us : List Value} {zs : List V} {ws : List Value}, Vals vs us -> Vals zs ws -> Vals (gV vs zs) (g us ws)
variable {g : List Value -> List Value -> List Value} {gV : List V -> List V -> List V}
end
structure FnScope (N P : List Str) (sc : Scope) : Prop where
 kind : sc.kind = .function
 co : sc.isCoroutine = false
 gen : sc.isGenerator = false
 nd : N.Nodup
 pre : N.take P.length = P
 par : ∀ x ∈ P, sc.names.lookup x = some .local \/ sc.names.lookup x = some .cell
 nofree : ∀ y ∈ sc.names, y.2 ≠ .free
theorem vY {kindOf : Str -> Option NameKind} {x : Str} : ∀ {binds : List (Str × Value)} {m : Str -> Option Value}, (∀ v, (x, v) ∉ binds) -> bindL kindOf binds m x = m x
 | [], _, _ => rfl
 | (n, v) :: r, m, h => by
   unfold bindL
   rw [vY fun w hw => h w (List.mem_cons_of_mem _ hw)]
   split
   · have : x ≠ n := by rintro rfl; exact h v List.mem_cons_self
     simp [this]
   · rfl
theorem wA {kindOf : Str -> Option NameKind} {x : Str} : ∀ {binds : List (Str × Value)} {m : Str -> Option Value}, (∀ v, (x, v) ∉ binds) -> bindC kindOf binds m x = m x
 | [], _, _ => rfl
 | (n, v) :: r, m, h => by
   unfold bindC
   rw [wA fun w hw => h w (List.mem_cons_of_mem _ hw)]
   split
   · rfl
   · have : x ≠ n := by rintro rfl; exact h v List.mem_cons_self
     simp [this]
theorem vZ {kindOf : Str -> Option NameKind} {x : Str} {v : Value} : ∀ {P : List Str} {vs : List Value} {i : Nat} {m : Str -> Option Value}, P.Nodup -> P[i]? = some x -> vs[i]? = some v -> kindOf x = some .local ->
   bindL kindOf (P.zip vs) m x = some v
 | [], _, _, _, _, h, _, _ => by simp at h
 | _ :: _, [], _, _, _, _, h, _ => by simp at h
 | p :: P, w :: vs, 0, m, nd, h1, h2, hk => by
   simp at h1 h2; subst h1; subst h2
   show bindL kindOf ((p, w) :: P.zip vs) m p = _
   unfold bindL
   rw [vY fun v hv => (List.nodup_cons.mp nd).1 (List.of_mem_zip hv).1, if_pos hk]
   simp
 | p :: P, w :: vs, i + 1, m, nd, h1, h2, hk => by
   show bindL kindOf ((p, w) :: P.zip vs) m x = _
   unfold bindL
   exact vZ (i := i) (List.nodup_cons.mp nd).2 (by simpa using h1) (by simpa using h2) hk
theorem wC {kindOf : Str -> Option NameKind} {x : Str} {v : Value} : ∀ {P : List Str} {vs : List Value} {i : Nat} {m : Str -> Option Value}, P.Nodup -> P[i]? = some x -> vs[i]? = some v -> kindOf x ≠ some .local ->
   bindC kindOf (P.zip vs) m x = some v
 | [], _, _, _, _, h, _, _ => by simp at h
 | _ :: _, [], _, _, _, _, h, _ => by simp at h
 | p :: P, w :: vs, 0, m, nd, h1, h2, hk => by
   simp at h1 h2; subst h1; subst h2
   show bindC kindOf ((p, w) :: P.zip vs) m p = _
   unfold bindC
   rw [wA fun v hv => (List.nodup_cons.mp nd).1 (List.of_mem_zip hv).1, if_neg hk]
   simp
 | p :: P, w :: vs, i + 1, m, nd, h1, h2, hk => by
   show bindC kindOf ((p, w) :: P.zip vs) m x = _
   unfold bindC
   exact wC (i := i) (List.nodup_cons.mp nd).2 (by simpa using h1) (by simpa using h2) hk
def start (N : List Str) (vs : List V) : St := vs.map some ++ List.replicate (N.length - vs.length) none
def jB (CX : CXT) (P : Program) (w : World) (K : PySem.W.Frag) (mg : Str -> Option Value) (base : Heap) (N : List Str) (qual : Str) (scope : Scope) (f : Addr) (cd : Value) (A : Around) (outer : List Env) (s : Shared) (H : Hp) (E : XK) : Cx where
 prog := P
 w := w
 K := K
 mg := mg
 base := base
 A := A.deeper (envOfC qual scope s.heap.objs.size f cd)
 N := N
 s₀ := s
 H₀ := H
 env := envOfC qual scope s.heap.objs.size f cd
 outer := outer
 stack := envOfC qual scope s.heap.objs.size f cd :: outer
 ex := []
 calm := true
 fn := fun _ => true
 pn := []
 xe := fun e s' => wpAny (model P w) (A.deeper (envOfC qual scope s.heap.objs.size f cd)) (leaving (envOfC qual scope s.heap.objs.size f cd) e) (fun _ s'' => CX outer H s E e s'') (fun e' s'' => CX outer H s E e' s'') s'
theorem cell_has {sc : Scope} {n : Nat} {x : Str} (h : sc.names.lookup x = some .cell) : ∃ c, (cellsFrom n sc.names []).lookup x = some c := by
 have q := PySem.W.cellsFrom_some sc.names n [] (.inl h)
 exact Option.isSome_iff_exists.mp q
theorem inv_start {CX : CXT} {P : Program} {w : World} {K : PySem.W.Frag} {mg : Str -> Option Value} {base : Heap} {N ps : List Str} {qual : Str} {scope : Scope} {f : Addr} {cd : Value} {A : Around} {outer : List Env} {s s1 : Shared} {H : Hp} {E : XK} {us : List Value} {vs : List V}
   (S : FnScope N ps scope) (hd : A.handled = none) (e0 : Env0 P w K mg base A outer s H) (hl : vs.length = ps.length) (r : Vals vs us)
   (x : InCallC s s.heap.objs.size (bindL (envOfC qual scope s.heap.objs.size f cd).kindOf (ps.zip us) fun _ => none) (cellsFrom (s.heap.objs.size + 1) scope.names []) (bindC (envOfC qual scope s.heap.objs.size f cd).kindOf (ps.zip us) fun _ => none) s1) :
   Inv (jB CX P w K mg base N qual scope f cd A outer s H E) [] (start N vs) H s1 := by
 have hpl : ps.length <= N.length := by have := congrArg List.length S.pre; rw [List.length_take] at this; omega
 obtain ⟨h1, tk, rfl, hk⟩ := x.done
 have noA : ∀ b : Addr, b ∉ (jB CX P w K mg base N qual scope f cd A outer s H E).ex := fun b z => absurd (show b ∈ ([] : List Addr) from z) (by simp)
 refine ⟨⟨e0.mod, S.kind, rfl, rfl, Nat.le_refl _, fun y z c h1 h2 => ?_, fun y hy => ?_, fun y c _ h => ?_, fun _ => hd, Around.frames_deeper e0.frames, .inr ⟨rfl, rfl⟩, fun b z => absurd z (noA b), e0.bs, e0.bsz, fun b _ _ => noA b, fun b z => absurd z (noA b), e0.funs, e0.frf⟩,
   rfl, e0.bare, Un.kept hk, ⟨_, x.toInCall.ns, fun i y v h1 h2 h3 => ?_⟩, fun y c h => ⟨_, x.cell y c h⟩, e0.hok.fresh (Nat.le_refl _), fun y c h => ?_, fun p hp => absurd (show p ∈ ([] : List (Addr × Obj)) from hp) (by simp), e0.hok.kept hk, ?_⟩
 · exact name_of_addr x.apart (PySem.mem_of_lookup h1) (PySem.mem_of_lookup h2)
 · have hy : scope.names.lookup y = some .cell \/ scope.names.lookup y = some .free := hy
   rcases hy with hy | hy
   · exact cell_has hy
   · exact absurd rfl (S.nofree _ (PySem.mem_of_lookup hy))
 · exact Nat.le_of_lt (x.above y c (PySem.mem_of_lookup h))
 · have hi : i < vs.length := by
     unfold start at h2
     by_cases hi : i < vs.length
     · exact hi
     · rw [List.getElem?_append_right (by simpa using hi)] at h2
       rw [List.getElem?_replicate] at h2
       split at h2 <;> cases h2
   have ha : vs[i]? = some v := by
     unfold start at h2
     rw [List.getElem?_append_left (by simpa using hi), List.getElem?_map] at h2
     cases e : vs[i]? with
     | none => rw [e] at h2; cases h2
     | some a => rw [e] at h2; cases h2; rfl
   obtain ⟨u, hu, rv⟩ := r.get ha
   have hp : ps[i]? = some y := by
     rw [← S.pre, List.getElem?_take_of_lt (by omega)]; exact h1
   have ndP : ps.Nodup := by rw [← S.pre]; exact S.nd.sublist (List.take_sublist _ _)
   refine ⟨u, rv, ?_⟩
   rcases S.par y (List.mem_of_getElem? hp) with k | k
   · exact .inl ⟨k, vZ ndP hp hu k⟩
   · obtain ⟨c, e⟩ := cell_has (n := s.heap.objs.size + 1) k
     refine .inr ⟨.inl k, c, e, ?_⟩
     have q := x.cell y c e
     rw [wC ndP hp hu (by show scope.names.lookup y ≠ _; rw [k]; decide)] at q
     exact q
 · exact e0.hok.fresh (Nat.le_of_lt (x.above y c (PySem.mem_of_lookup h)))
 · unfold start
   show _ = N.length
   rw [List.length_append, List.length_map, List.length_replicate]
   omega
theorem fn_of {CX : CXT} {P : Program} {w : World} {K : PySem.W.Frag} {mg : Str -> Option Value} {base : Heap} {k : Nat} {f : Addr} {name qual : Str} {params : Arguments} {body : List Stmt} {scope : Scope} {dV kV doc pm cdv ct oc : Value} {an od : Option Addr}
   {osl : Array (Option Value)} {N ps : List Str} {sp : Sp} (lk : K.lookup f = some ⟨oc, od, .func (PySem.W.fnOf name qual params body scope dV kV doc pm an cdv ct), osl⟩) (hcd : PySem.W.codeIn K cdv qual = true) (S : FnScope N ps scope)
   (len : ∀ vs H Q E, sp vs H Q E -> vs.length = ps.length)
   (hbody : ∀ (A : Around) (outer : List Env) (s : Shared) (H : Hp) (vs : List V) (Q : VK) (E : XK), Room k (A.deeper (envOfC qual scope s.heap.objs.size f cdv)) -> sp vs H Q E ->
     ∃ t, PSs (jB CX P w K mg base N qual scope f cdv A outer s H E) body t /\ t { nx := fun _ H' => Q .non H', rt := Q } (start N vs) H) :
   FnOk P w K mg base CX (k + 1) f (PySem.W.fnOf name qual params body scope dV kV doc pm an cdv ct) ps sp := by
 refine ⟨len, fun A outer s H args us vs Q E hr e0 hb r hsp => ?_⟩
 have hl := len _ _ _ _ hsp
 have KX : K.In s.heap := e0.mod.kin.keeps fun b o e => (e0.bs b o e).1
 have lim : s.heap.NoLimit := e0.mod.nolimit.keeps fun b o e => (e0.bs b o e).1
 have hkind : ∀ y ∈ ps.zip us, scope.names.lookup y.1 = some .local \/ (scope.names.lookup y.1 = some .cell /\ ((cellsFrom (s.heap.objs.size + 1) scope.names []).lookup y.1).isSome = true) := fun ⟨n, v⟩ hy => by
   rcases S.par n (List.of_mem_zip hy).1 with q | q
   · exact .inl q
   · exact .inr ⟨q, PySem.W.cellsFrom_some _ _ _ (.inl q)⟩
 refine codeAny_call_function hr.depth (KX _ _ lk) rfl S.co S.gen rfl (PySem.W.codeRec_of KX hcd) (hb _ _ _ _ ?_)
 refine wpAny_newFunctionEnv_cells S.kind hkind fun env he s1 x => ?_
 subst he
 refine ⟨lim.keeps x.toInCall.keep, codeAny_func ?_⟩
 obtain ⟨t, ht, hq⟩ := hbody A outer s H vs Q E (hr.deeper _) hsp
 have I : Inv (jB CX P w K mg base N qual scope f cdv A outer s H E) [] (start N vs) H s1 := inv_start S hr.hd e0 hl r x
 refine wpAny_mono (ht [] s1 (start N vs) H _ I hq) (fun fl s' hs => ?_) fun e s' hs => hs
 have fin : ∀ {σ' : St} {H' : Hp} {v : V} {u : Value}, Inv (jB CX P w K mg base N qual scope f cdv A outer s H E) [] σ' H' s' -> RelV v u -> Q v H' -> CE outer P w H s Q u s' :=
   fun {σ' H' v u} J rv q => ⟨v, H', J.os, J.bare, J.base, J.hok, rv, q⟩
 cases fl with
 | ret u =>
   obtain ⟨v, σ', H', J, rv, q⟩ := hs
   exact fin J rv q
 | next =>
   obtain ⟨σ', H', J, q⟩ := hs
   exact fin (v := V.non) (u := Value.none) J rfl q
 | brk =>
   obtain ⟨_, _, _, q⟩ := hs
   exact False.elim q
 | cont =>
   obtain ⟨_, _, _, q⟩ := hs
   exact False.elim q
section
variable {X : Cx} {x : Str} {p pos : Pos} {e : Expr} {es : List Expr} {t : TA} {id T : String} {r : List V -> Hp -> VK -> Prop}
def tCB (r : List V -> Hp -> VK -> Prop) (t : TA) : TE := fun σ H Q => t σ H fun vs H1 => r vs H1 Q
theorem zS (hc : xI X (.builtin id) r) (hg : Gl X x) (hm : X.mg x = none) (hv : bootBuiltins x = some (.builtin id)) (ha : PA X (e :: es) t) (hn : x ≠ "__name__" := by decide) (hdb : (x == ("__debug__" : Str)) = false := by decide)
   (he : starEach (e :: es) X.env = (false, eval e X.env) :: starEach es X.env := by rfl) (hpl : (backTo pos (starEach es X.env)).any (·.1) = false := by rfl) : PE X (.Call (.Name x p) (e :: es) [] pos) (tCB r t) := by
 intro pins s σ H Q I h
 refine wpAny_Call_Name_kw (jU I hg hm hv ?_ hn hdb)
 exact PyProof.Rows.callWith_builtin1 (thn (ha pos pins s σ H _ I h) fun us s1 ⟨vs, H1, I1, r1, q1⟩ => hc pins s1 σ H1 vs us Q I1 r1 q1) he hpl
theorem xD (hc : xI X (.type T) r) (hg : Gl X x) (hm : X.mg x = none) (hv : bootBuiltins x = some (.type T)) (ha : PA X (e :: es) t) (hn : x ≠ "__name__" := by decide) (hdb : (x == ("__debug__" : Str)) = false := by decide)
   (he : starEach (e :: es) X.env = (false, eval e X.env) :: starEach es X.env := by rfl) (hpl : (backTo pos (starEach es X.env)).any (·.1) = false := by rfl) : PE X (.Call (.Name x p) (e :: es) [] pos) (tCB r t) := by
 intro pins s σ H Q I h
 refine wpAny_Call_Name_kw (jU I hg hm hv ?_ hn hdb)
 exact PyProof.Rows.callWith_type1 (thn (ha pos pins s σ H _ I h) fun us s1 ⟨vs, H1, I1, r1, q1⟩ => hc pins s1 σ H1 vs us Q I1 r1 q1) he hpl
end
end L2
namespace HT
open PySem PyProof.Rows
section
open PySem.SeqAt
open PySem.AutoSeq1 (wpAny_loadPart')
open PySem.MeetsSeq PySem.MeetsSeq2 PySem.MeetsSeq3
end
section
variable {prog : Program} {w : World} {A : Around} {E : Value -> Shared -> Prop} {s : Shared}
def sIx (n d : Nat) : Option Int -> Nat
 | none => d
 | some v => if v < 0 then (v + (n : Int)).toNat else min v.toNat n
theorem sIx_none (n d : Nat) : sIx n d none = d := rfl
theorem sIx_nat (n d k : Nat) : sIx n d (some (k : Int)) = min k n := by
 show (if (k : Int) < 0 then ((k : Int) + (n : Int)).toNat else min (k : Int).toNat n) = min k n
 rw [if_neg (by omega), Int.toNat_natCast]
theorem sIx_le (n d : Nat) (hd : d <= n) (o : Option Int) : sIx n d o <= n := by
 cases o with
 | none => exact hd
 | some v =>
   show (if v < 0 then (v + (n : Int)).toNat else min v.toNat n) <= n
   by_cases hv : v < 0
   · rw [if_pos hv]; omega
   · rw [if_neg hv]; exact Nat.min_le_right _ _
theorem clip_eq (v : Int) (n d : Nat) : (if v < 0 then max (v + (n : Int)) 0 else min v (n : Int)) = ((sIx n d (some v) : Nat) : Int) := by
 show (if v < 0 then max (v + (n : Int)) 0 else min v (n : Int)) = (((if v < 0 then (v + (n : Int)).toNat else min v.toNat n) : Nat) : Int)
 by_cases hv : v < 0
 · simp only [if_pos hv]; omega
 · simp only [if_neg hv]; omega
theorem adjust_gen (lo hi : Option Int) (n : Nat) : Builtin.Slice.sliceAdjust lo hi 1 (n : Int) = (((sIx n 0 lo : Nat) : Int), ((sIx n n hi : Nat) : Int)) := by
 have h1 : ¬ ((1 : Int) < 0) := by omega
 unfold Builtin.Slice.sliceAdjust
 simp only [h1, if_false]
 refine Prod.ext ?_ ?_
 · cases lo with
   | none => rfl
   | some v => exact clip_eq v n 0
 · cases hi with
   | none => rfl
   | some v => exact clip_eq v n n
theorem places_gen (i j : Nat) : Builtin.Slice.slicePlaces (i : Int) (j : Int) 1 = j - i := by
 unfold Builtin.Slice.slicePlaces
 have h1 : (1 : Int) > 0 := by omega
 simp only [h1, if_true, Int.ediv_one]
 split <;> omega
theorem uJ {v : Value} {o : Option Int} {Q : Option Int -> Shared -> Prop} (p : IsPart v o) (h : Q o s) : wpAny (model prog w) A (Builtin.Slice.slicePartIndex v) Q E s := by
 cases p with
 | none => exact slicePart_none h
 | int i t => exact slicePart_int h
theorem qK {sl : Addr} {vl vu : Value} {lo hi : Option Int} {n : Nat} {Q : Int × Int × Nat -> Shared -> Prop} (hs : s.heap.IsSliceOf sl vl vu .none) (pl : IsPart vl lo) (pu : IsPart vu hi)
   (h : Q (((sIx n 0 lo : Nat) : Int), 1, sIx n n hi - sIx n 0 lo) s) : wpAny (model prog w) A (Builtin.Slice.sliceApplied (.ref sl) (pure (n : Int))) Q E s := by
 obtain ⟨os, hos, hcs, hds⟩ := id hs
 unfold Builtin.Slice.sliceApplied Builtin.Slice.sliceFields
 refine wpAny_bind (wpAny_bind (wpAny_field hos hds (x := vl) rfl (wpAny_bind (wpAny_field hos hds (x := vu) rfl (wpAny_bind (wpAny_field hos hds (x := .none) rfl (wpAny_pure ?_)))))))
 refine wpAny_bind (slicePart_none ?_)
 show wpAny _ _ (if ((1 : Int) == 0) = true then _ else _) _ _ s
 rw [if_neg (by decide)]
 refine wpAny_bind (uJ pl (wpAny_bind (uJ pu (wpAny_bind (wpAny_pure ?_)))))
 show wpAny _ _ (match Builtin.Slice.sliceAdjust lo hi 1 (n : Int) with | (lo, hi) => pure (lo, (1 : Int), Builtin.Slice.slicePlaces lo hi 1)) _ _ s
 rw [adjust_gen lo hi n]
 show wpAny _ _ (pure (((sIx n 0 lo : Nat) : Int), (1 : Int), Builtin.Slice.slicePlaces ((sIx n 0 lo : Nat) : Int) ((sIx n n hi : Nat) : Int) 1)) _ _ s
 rw [places_gen]
 exact wpAny_pure h
theorem pick_gen (xs : Array Value) (i k : Nat) : ((List.range k).filterMap fun (m : Nat) => xs[((i : Int) + (m : Int) * 1).toNat]?).toArray = ((xs.toList.drop i).take k).toArray := by
 have e : (fun (m : Nat) => xs[((i : Int) + (m : Int) * 1).toNat]?) = fun m => xs[i + m]? := by
   funext m
   have : ((i : Int) + (m : Int) * 1).toNat = i + m := by omega
   rw [this]
 rw [e]
 have := pick_run xs i k
 rw [List.filterMap_map] at this
 have e2 : ((fun x => xs[x]?) ∘ fun x => i + x) = fun m => xs[i + m]? := rfl
 rw [e2] at this
 rw [this]
theorem getItem_tuple_cut {t sl : Addr} {items : Array Value} {vl vu : Value} {lo hi : Option Int} {Q : Value -> Shared -> Prop} (ht : IsTup s.heap t items) (hs : s.heap.IsSliceOf sl vl vu .none) (pl : IsPart vl lo) (pu : IsPart vu hi)
   (hw : ¬ (sIx items.size 0 lo = 0 /\ sIx items.size items.size hi = items.size))
   (h : Q (.ref s.heap.objs.size) { s with heap := s.heap.push { cls := .type "tuple", data := .seq ((items.toList.drop (sIx items.size 0 lo)).take (sIx items.size items.size hi - sIx items.size 0 lo)).toArray } })
   (hsz : items.size <= sizeLine) : wpAny (model prog w) A (getItem (.ref t) (.ref sl)) Q E s := by
 have htake : sizeOk (.seq ((items.toList.drop (sIx items.size 0 lo)).take (sIx items.size items.size hi - sIx items.size 0 lo)).toArray) := by
   show ((items.toList.drop (sIx items.size 0 lo)).take (sIx items.size items.size hi - sIx items.size 0 lo)).toArray.size <= sizeLine
   rw [List.size_toArray, List.length_take, List.length_drop, Array.length_toList]
   omega
 have hj : sIx items.size items.size hi <= items.size := sIx_le _ _ (Nat.le_refl _) hi
 obtain ⟨os, hos, hcs, hds⟩ := id hs
 have hTs : s.TypeIs (.ref sl) "slice" := ⟨os, hos, hcs⟩
 unfold getItem
 try with_reducible refine wpAny_holding ?_
 first | refine wpAny_bind (wpAny_pure ?_) | skip
 refine wpAny_bind (wpAny_sequenceKey ht.typeIs (by decide) ?_)
 refine wpAny_bind (wpAny_callSpecial?_slot (name := Str.ofString "__getitem__") ht.typeIs PyProof.Rows.slot_tuple_getitem
   (wpAny_call_entry PyProof.Rows.slot_tuple_getitem ht.typeIs entry_tuple_getitem ?_ (args_tuple_getitem _ _)))
 show wpAny _ _ (Builtin.Tuple.tupleItemsOf (.ref t) >>= _) _ _ s
 refine wpAny_bind (tupleItemsOf_ ht ?_)
 refine wpAny_bind (wpAny_typeOf hTs ?_)
 rw [if_pos (by decide)]
 refine wpAny_bind (qK hs pl pu ?_)
 have hno : ¬ ((((sIx items.size 0 lo : Nat) : Int) == 0 && (1 : Int) == 1 && (sIx items.size items.size hi - sIx items.size 0 lo) == items.size) = true) := by
   intro q
   rw [Bool.and_eq_true, Bool.and_eq_true] at q
   have q1 : ((sIx items.size 0 lo : Nat) : Int) = 0 := eq_of_beq q.1.1
   have q2 : sIx items.size items.size hi - sIx items.size 0 lo = items.size := eq_of_beq q.2
   exact hw ⟨by omega, by omega⟩
 show wpAny _ _ (if (((sIx items.size 0 lo : Nat) : Int) == 0 && (1 : Int) == 1 && (sIx items.size items.size hi - sIx items.size 0 lo) == items.size) = true then _ else _) _ _ s
 rw [if_neg hno, pick_gen]
 first
   | exact wpAny_bind (m := Builtin.Tuple.tupleExact _) (wpAny_newObj_type (wpAny_pure ⟨_, rfl, wpAny_pure h⟩) htake)
   | exact wpAny_bind (m := Builtin.Tuple.tupleExact _) (wpAny_newObj_type (wpAny_bind (wpAny_pure (wpAny_pure ⟨_, rfl, wpAny_pure h⟩))) htake)
   | exact wpAny_bind (wpAny_bind (m := Builtin.Tuple.tupleExact _) (wpAny_newObj_type (wpAny_pure (wpAny_pure ⟨_, rfl, wpAny_pure h⟩)) htake))
   | exact wpAny_bind (wpAny_bind (m := Builtin.Tuple.tupleExact _) (wpAny_newObj_type (wpAny_pure ⟨_, rfl, wpAny_pure h⟩) htake))
end
end HT
namespace L2
open PySem PySem.Spec PyProof.Rows
abbrev TO := St -> Hp -> (Option Int -> Hp -> Prop) -> Prop
def PO (X : Cx) (e : Option Expr) (t : TO) : Prop :=
 ∀ (pins : List (Addr × Obj)) (s : Shared) (σ : St) (H : Hp) (Q : Option Int -> Hp -> Prop), Inv X pins σ H s -> t σ H Q ->
   wpAny (model X.prog X.w) X.A (evalPart e X.env) (fun u s' => ∃ o H', Inv X pins σ H' s' /\ IsPart u o /\ Q o H') X.xe s
def tNoPart : TO := fun _ H Q => Q none H
def tPart (t : TE) : TO := fun σ H Q => t σ H fun x H1 => ∃ i, x = .int i /\ Q (some i) H1
section
variable {X : Cx} {e : Expr} {te : TE} {lo hi : Option Expr} {tl th : TO} {pos p2 : Pos}
theorem po_none : PO X none tNoPart := by
 intro pins s σ H Q I h
 rw [evalPart_none]
 exact wpAny_pure ⟨none, H, I, .none, h⟩
theorem xL (h : PE X e te) : PO X (some e) (tPart te) := by
 intro pins s σ H Q I hw
 rw [evalPart_some]
 refine thn (h pins s σ H _ I hw) fun u s1 ⟨x, H1, I1, r1, q1⟩ => ?_
 obtain ⟨i, rfl, q⟩ := q1
 obtain ⟨t, rfl⟩ := r1
 exact ⟨some i, H1, I1, .int i t, q⟩
def SlR (X : Cx) (r : V -> Option Int -> Option Int -> Hp -> VK -> Prop) : Prop :=
 ∀ (pins : List (Addr × Obj)) (s : Shared) (σ : St) (H : Hp) (x : V) (v vl vu : Value) (lo hi : Option Int) (sl : Addr) (Q : VK), Inv X pins σ H s -> RelV x v -> s.heap.IsSliceOf sl vl vu .none -> IsPart vl lo -> IsPart vu hi -> r x lo hi H Q ->
   ∃ T id, typeLookup (.type T) "__getitem__" = pure (some (.builtin id)) /\ s.TypeIs v T /\ wpAny (model X.prog X.w) X.A (getItem v (.ref sl)) (EP X pins σ Q) X.xe s
def tSl (r : V -> Option Int -> Option Int -> Hp -> VK -> Prop) (te : TE) (tl th : TO) : TE := fun σ H Q => te σ H fun x H1 => tl σ H1 fun l H2 => th σ H2 fun u H3 => r x l u H3 Q
theorem yY {r : V -> Option Int -> Option Int -> Hp -> VK -> Prop} (hr : SlR X r) (he : PE X e te) (hl : PO X lo tl) (hu : PO X hi th) : PE X (.Subscript e (.Slice lo hi none p2) pos) (tSl r te tl th) := by
 intro pins s σ H Q I h
 refine Subscript_ (thn (he pins s σ H _ I h) fun v s1 ⟨x, H1, I1, r1, q1⟩ => ?_)
 refine wpAny_Slice (thn (hl pins s1 σ H1 _ I1 q1) fun vl s2 ⟨l, H2, I2, pl, q2⟩ => thn (hu pins s2 σ H2 _ I2 q2) fun vu s3 ⟨u, H3, I3, pu, q3⟩ => ?_)
 rw [evalPart_none]
 refine wpAny_pure ?_
 have I4 : Inv X pins σ H3 { s3 with heap := s3.heap.push { cls := .type "slice", data := .fields #[vl, vu, .none] } } := I3.kept (t' := s3.toks) fun b ob q => Heap.get?_push_of_some _ q
 obtain ⟨T, id, hT, ht, hg⟩ := hr pins { s3 with heap := s3.heap.push { cls := .type "slice", data := .fields #[vl, vu, .none] } } σ H3 x v vl vu l u s3.heap.objs.size Q I4 r1 (Heap.IsSliceOf.new ..) pl pu q3
 show wpAny (model X.prog X.w) X.A (subscriptTail e (.Slice lo hi none p2) v (.ref s3.heap.objs.size)) (EP X pins σ Q) X.xe { s3 with heap := s3.heap.push { cls := .type "slice", data := .fields #[vl, vu, .none] } }
 exact tail_any (ops := [.ref s3.heap.objs.size, v]) ht hT hg (by with_unfolding_all rfl)
def jR (xs : List V) (lo hi : Option Int) : List V := (xs.drop (HT.sIx xs.length 0 lo)).take (HT.sIx xs.length xs.length hi - HT.sIx xs.length 0 lo)
theorem qU (xs : List V) (lo hi : Option Int) : (jR xs lo hi).length <= xs.length := by
 unfold jR
 rw [List.length_take, List.length_drop]
 omega
def rSlT (K : PySem.W.Frag) : V -> Option Int -> Option Int -> Hp -> VK -> Prop := fun x lo hi H Q => ∃ a xs, x = .ref a /\ SqT K H a xs /\
 ¬ (HT.sIx xs.length 0 lo = 0 /\ HT.sIx xs.length xs.length hi = xs.length) /\ ∀ p, H p = none -> Q (.ref p) (upd H p (.tup (jR xs lo hi)))
theorem sl_tup : SlR X (rSlT X.K) := by
 intro pins s σ H x v vl vu lo hi sl Q I rx hs pl pu h
 obtain ⟨a, xs, rfl, hx, hw, q⟩ := h
 cases rx
 obtain ⟨its, r, ht, hz⟩ := I.tuple hx
 have hlen : its.toArray.size = xs.length := by rw [List.size_toArray]; exact r.length.symm
 refine ⟨"tuple", _, PyProof.Rows.slot_tuple_getitem.lookup, ht.typeIs, ?_⟩
 refine HT.getItem_tuple_cut ht hs pl pu (by rw [hlen]; exact hw) ?_ (by rw [hlen]; exact hz)
 rw [hlen]
 refine ⟨.ref s.heap.objs.size, _, I.laid (t' := s.toks) (o := .tup (jR xs lo hi)) (fun b ob q => Heap.get?_push_of_some _ q) (Nat.le_refl _) ?_, rfl, q _ (I.hok.fresh (Nat.le_refl _))⟩
 exact ⟨Nat.le_trans (qU xs lo hi) hz, _, (r.drop (HT.sIx xs.length 0 lo)).take (HT.sIx xs.length xs.length hi - HT.sIx xs.length 0 lo), IsTup.new _ _⟩
def rCatT (K : PySem.W.Frag) : R2 := fun x y H Q => ∃ a b xs ys, x = .ref a /\ y = .ref b /\ SqT K H a xs /\ SqT K H b ys /\ xs ≠ [] /\ xs.length + ys.length <= sizeLine /\
 (ys = [] -> Q (.ref a) H) /\ (ys ≠ [] -> ∀ p, H p = none -> Q (.ref p) (upd H p (.tup (xs ++ ys))))
end
def ixN (n : Nat) (i : Int) : Option Nat := if 0 <= i then (if i < n then some i.toNat else none) else if -(n : Int) <= i then some (i + n).toNat else none
def atI {α : Type} (xs : List α) (i : Int) : Option α := (ixN xs.length i).bind fun j => xs[j]?
theorem ixN_seq {n : Nat} {i : Int} {j : Nat} (h : ixN n i = some j) : seqIndex? i n = some j /\ j < n /\ -(n : Int) <= i /\ i < n := by
 unfold ixN at h
 by_cases h0 : 0 <= i
 · rw [if_pos h0] at h
   by_cases h1 : i < n
   · rw [if_pos h1] at h
     have e : i.toNat = j := Option.some.inj h
     exact ⟨by rw [seqIndex_of h0 h1, e], by omega, by omega, h1⟩
   · rw [if_neg h1] at h; cases h
 · rw [if_neg h0] at h
   by_cases h1 : -(n : Int) <= i
   · rw [if_pos h1] at h
     have e : (i + n).toNat = j := Option.some.inj h
     exact ⟨by rw [seqIndex_neg (by omega) h1, e], by omega, h1, by omega⟩
   · rw [if_neg h1] at h; cases h
theorem kF {α : Type} {xs : List α} {i : Int} {v : α} (h : atI xs i = some v) : ∃ j, seqIndex? i xs.length = some j /\ xs[j]? = some v /\ j < xs.length /\ -(xs.length : Int) <= i /\ i < xs.length := by
 unfold atI at h
 cases e : ixN xs.length i with
 | none => rw [e] at h; cases h
 | some j =>
   rw [e] at h
   obtain ⟨h1, h2, h3, h4⟩ := ixN_seq e
   exact ⟨j, h1, h, h2, h3, h4⟩
theorem yB {α : Type} {xs : List α} {j : Nat} {v : α} (h : xs[j]? = some v) : atI xs (j : Int) = some v := by
 have hj : j < xs.length := (List.getElem?_eq_some_iff.mp h).1
 have e : ixN xs.length (j : Int) = some j := by
   unfold ixN
   rw [if_pos (by omega), if_pos (by omega)]; simp
 unfold atI; rw [e]; exact h
def PlainIx (b : Expr) : Prop := ∀ o i, subscripted b false o i = operate [o, i] (getItem o i)
def IxR (X : Cx) (r : R2) : Prop :=
 ∀ (value slice : Expr) (pins : List (Addr × Obj)) (s : Shared) (σ : St) (H : Hp) (x y : V) (v u : Value) (Q : VK), Inv X pins σ H s -> RelV x v -> RelV y u -> r x y H Q ->
   subscripted slice false v u = operate [v, u] (getItem v u) -> wpAny (model X.prog X.w) X.A (subscriptTail value slice v u) (EP X pins σ Q) X.xe s
def MtR (X : Cx) (id : String) (r : V -> List V -> Hp -> VK -> Prop) : Prop :=
 ∀ (pins : List (Addr × Obj)) (s : Shared) (σ : St) (H : Hp) (x : V) (xs : List V) (v : Value) (us : List Value) (Q : VK), Inv X pins σ H s -> RelV x v -> Vals xs us -> r x xs H Q ->
   wpAny (model X.prog X.w) X.A (call (.builtin id) (v :: us)) (EP X pins σ Q) X.xe s
section
variable {X : Cx} {a b : Expr} {ta tb : TE} {pos : Pos}
theorem zN {r : R2} (hr : IxR X r) (ha : PE X a ta) (hb : PE X b tb) (hs : PlainIx b) : PE X (.Subscript a b pos) (tOp r ta tb) := by
 intro pins s σ H Q I h
 exact Subscript_ (binT ha hb I h fun v u s2 x y H2 I2 rx ry q => hr a b pins s2 σ H2 x y v u Q I2 rx ry q (hs _ _))
def rIxL (K : PySem.W.Frag) : R2 := fun x y H Q => ∃ p xs i v, x = .ref p /\ y = .int i /\ SqL K H p xs /\ atI xs i = some v /\ Q v H
def rIxT (K : PySem.W.Frag) : R2 := fun x y H Q => ∃ p xs i v, x = .ref p /\ y = .int i /\ SqT K H p xs /\ atI xs i = some v /\ Q v H
def rIxS : R2 := fun x y H Q => ∃ z i c, x = .str z /\ y = .int i /\ z.length <= sizeLine /\ atI z.cps.toList i = some c /\ Q (.str ⟨#[c]⟩) H
theorem ix_list : IxR X (rIxL X.K) := by
 intro value slice pins s σ H x y v u Q I rx ry h hs
 obtain ⟨p, xs, i, z, rfl, rfl, hq, he, q⟩ := h
 cases rx
 obtain ⟨t, rfl⟩ := ry
 obtain ⟨its, r, pl, hz⟩ := I.list hq
 obtain ⟨j, h1, h2, h3, h4, h5⟩ := kF he
 obtain ⟨w, ew, rw'⟩ := r.get h2
 have hl := r.length
 have hn := line63
 have fin : EP X pins σ Q w s := ⟨z, H, I, rw', q⟩
 by_cases h0 : 0 <= i
 · have hj : i.toNat = j := by
     rw [seqIndex_of h0 h5] at h1
     exact Option.some.inj h1
   exact item_listR pl.isList h0 (by omega) (by rw [hj]; simpa using ew) fin hs
 · have hj : (i + (its.toArray.size : Int)).toNat = j := by
     rw [seqIndex_neg (by omega) h4] at h1
     rw [List.size_toArray, ← hl]
     exact Option.some.inj h1
   exact subscriptTail_builtinR (x := w) pl.isList.typeIs slot_list_getitem.lookup
     (wpAny_getItem_list_neg (Q := fun r s' => r = w /\ EP X pins σ Q r s') pl.isList (by omega) (by rw [List.size_toArray] <;> omega) (by omega) (by rw [hj]; simpa using ew) ⟨rfl, fin⟩) hs
theorem ix_tup : IxR X (rIxT X.K) := by
 intro value slice pins s σ H x y v u Q I rx ry h hs
 obtain ⟨p, xs, i, z, rfl, rfl, hq, he, q⟩ := h
 cases rx
 obtain ⟨t, rfl⟩ := ry
 obtain ⟨its, r, pl, hz⟩ := I.tuple hq
 obtain ⟨j, h1, h2, h3, h4, h5⟩ := kF he
 obtain ⟨w, ew, rw'⟩ := r.get h2
 have hl := r.length
 have hn := line63
 have fin : EP X pins σ Q w s := ⟨z, H, I, rw', q⟩
 exact subscriptTail_builtinR (x := w) pl.typeIs slot_tuple_getitem.lookup
   (getItem_tuple (j := j) (Q := fun r s' => r = w /\ EP X pins σ Q r s') pl (by omega) (by omega) (by rw [List.size_toArray, ← hl]; exact h1) (by simpa using ew) ⟨rfl, fin⟩) hs
theorem ix_str : IxR X rIxS := by
 intro value slice pins s σ H x y v u Q I rx ry h hs
 obtain ⟨z, i, c, rfl, rfl, hz, he, q⟩ := h
 obtain ⟨t, rfl⟩ := rx
 obtain ⟨t', rfl⟩ := ry
 obtain ⟨j, h1, h2, h3, h4, h5⟩ := kF he
 have hl : z.cps.toList.length = z.length := by simp [Str.length]
 rw [hl] at h1 h4 h5
 have hn := line63
 exact tail_any (typeIs_str s z t) slot_str_getitem.lookup (getItem_str (c := c) (by
   have e1 : decide (i < -(2 ^ 63 : Int)) = false := decide_eq_false (by omega)
   have e2 : decide (i ≥ 2 ^ 63) = false := decide_eq_false (by omega)
   rw [e1, e2, Bool.or_false]) (by rw [h1]; simpa using h2) ⟨.str ⟨#[c]⟩, H, I.tok _, ⟨_, rfl⟩, q⟩) hs
theorem mapSeq_set (its : List Value) (n j : Nat) (u : Value) : Obj.mapSeq (·.setIfInBounds j u) { cls := .type "list", data := .seq its.toArray n } = { cls := .type "list", data := .seq (its.set j u).toArray n } := by
 simp [Obj.mapSeq]
theorem Inv.lst {pins : List (Addr × Obj)} {σ : St} {H : Hp} {s : Shared} {p : Addr} {xs : List V} (I : Inv X pins σ H s) (h : H p = some (.lst xs)) :
   ∃ (its : List Value) (n : Nat), Vals xs its /\ s.heap.get? p = some { cls := .type "list", data := .seq its.toArray n } /\ xs.length <= sizeLine := by
 obtain ⟨z, its, n, r, e⟩ := I.hok p _ h
 exact ⟨its, n, r, e, z⟩
theorem Inv.lstUpd {pins : List (Addr × Obj)} {σ : St} {H : Hp} {s : Shared} {p : Addr} {xs ys : List V} {its its' : List Value} {n n' : Nat} {f : Obj -> Obj} (I : Inv X pins σ H s) (h : H p = some (.lst xs))
   (ho : s.heap.get? p = some { cls := .type "list", data := .seq its.toArray n }) (hf : f { cls := .type "list", data := .seq its.toArray n } = { cls := .type "list", data := .seq its'.toArray n' }) (r : Vals ys its') (hz : ys.length <= sizeLine) (t : Nat) :
   Inv X pins σ (upd H p (.lst ys)) { s with heap := s.heap.update p f, toks := t } := by
 have e : (s.heap.update p f).get? p = some { cls := .type "list", data := .seq its'.toArray n' } := by
   rw [Heap.get?_update_self f ho (by rw [hf] <;> rfl), hf]
 refine I.write (x := p) (e := p) (by rw [h]; trivial) (.inl rfl) (fun b u hb q => (Heap.get?_update_other _ _ (Ne.symm hb)).trans q) ⟨_, e⟩ ?_
 exact ⟨hz, its', n', r, e⟩
def rSetL : V -> V -> V -> Hp -> (Hp -> Prop) -> Prop := fun o i v H Q => ∃ p xs k j, o = .ref p /\ i = .int k /\ H p = some (.lst xs) /\ ixN xs.length k = some j /\ Q (upd H p (.lst (xs.set j v)))
theorem set_list : PSet X rSetL := by
 intro pins s σ H o i v ov iv u Q I ro ri rv h
 obtain ⟨p, xs, k, j, rfl, rfl, hp, hj, q⟩ := h
 cases ro
 obtain ⟨t, rfl⟩ := ri
 obtain ⟨its, n, r, ho, hz⟩ := I.lst hp
 obtain ⟨h1, h2, h3, h4⟩ := ixN_seq hj
 have hl := r.length
 have hn := line63
 have I' : Inv X pins σ (upd H p (.lst (xs.set j v))) { s with heap := s.heap.update p (Obj.mapSeq (·.setIfInBounds j u)) } :=
   I.lstUpd hp ho (mapSeq_set its n j u) (r.set rv j) (by rw [List.length_set]; exact hz) s.toks
 by_cases h0 : 0 <= k
 · have hk : k.toNat = j := by
     rw [seqIndex_of h0 h4] at h1
     exact Option.some.inj h1
   exact PySem.W.ki_setAt ho h0 (by omega) (by rw [List.size_toArray, ← hl]; exact h4) (by rw [hk]; exact ⟨_, I', q⟩)
 · have hk : (k + (its.toArray.size : Int)).toNat = j := by
     rw [seqIndex_neg (by omega) h3] at h1
     rw [List.size_toArray, ← hl]
     exact Option.some.inj h1
   exact PySem.W.ki_setBack ho (by omega) (by rw [List.size_toArray, ← hl]; exact h3) (by omega) (by rw [hk]; exact ⟨_, I', q⟩)
theorem wE (lo hi : Option Int) (n : Nat) : (sliceBounds lo hi none n).1 = ((HT.sIx n 0 lo : Nat) : Int) /\ (sliceBounds lo hi none n).2.1 = ((HT.sIx n n hi : Nat) : Int) /\ (sliceBounds lo hi none n).2.2 = 1 := by
 refine ⟨?_, ?_, rfl⟩
 · cases lo with
   | none => simp [sliceBounds, HT.sIx]
   | some i =>
     simp only [sliceBounds, HT.sIx, Option.getD_none, show (1 : Int) > 0 by decide, if_true]
     by_cases h : i < 0
     · simp only [h, if_true] <;> omega
     · simp only [h, if_false] <;> omega
 · cases hi with
   | none => simp [sliceBounds, HT.sIx]
   | some i =>
     simp only [sliceBounds, HT.sIx, Option.getD_none, show (1 : Int) > 0 by decide, if_true]
     by_cases h : i < 0
     · simp only [h, if_true] <;> omega
     · simp only [h, if_false] <;> omega
theorem vE (its : List Value) (lo hi : Option Int) : slicePick its.toArray lo hi none = ((its.drop (HT.sIx its.length 0 lo)).take (HT.sIx its.length its.length hi - HT.sIx its.length 0 lo)).toArray := by
 obtain ⟨h1, h2, h3⟩ := wE lo hi its.toArray.size
 unfold slicePick
 rw [h1, h2, h3]
 simp only [sliceRange_one, pick_run, List.size_toArray] <;> rfl
def rSlL (K : PySem.W.Frag) : V -> Option Int -> Option Int -> Hp -> VK -> Prop := fun x lo hi H Q => ∃ a xs, x = .ref a /\ SqL K H a xs /\ ∀ p, H p = none -> Q (.ref p) (upd H p (.lst (jR xs lo hi)))
theorem sl_list : SlR X (rSlL X.K) := by
 intro pins s σ H x v vl vu lo hi sl Q I rx hs pl pu h
 obtain ⟨a, xs, rfl, hx, q⟩ := h
 cases rx
 obtain ⟨its, r, ht, hz⟩ := I.list hx
 have hlen := r.length
 refine ⟨"list", _, slot_list_getitem.lookup, ht.isList.typeIs, ?_⟩
 refine wpAny_getItem_list_slice ht.isList hs pl pu .none (by simp) ?_ (by rw [List.size_toArray] <;> omega)
 rw [vE, ← hlen]
 refine ⟨.ref s.heap.objs.size, _, I.laid (t' := s.toks) (o := .lst (jR xs lo hi)) (fun b ob q => Heap.get?_push_of_some _ q) (Nat.le_refl _) ?_, rfl, q _ (I.hok.fresh (Nat.le_refl _))⟩
 exact ⟨Nat.le_trans (qU xs lo hi) hz, _, 0, (r.drop (HT.sIx xs.length 0 lo)).take (HT.sIx xs.length xs.length hi - HT.sIx xs.length 0 lo), Heap.get?_push_size _ rfl⟩
def flatV : V -> Bool
 | .non => true
 | .bl _ => true
 | .int _ => true
 | .str _ => true
 | _ => false
def eqV : V -> V -> Bool
 | .non, .non => true
 | .bl a, .bl b => a == b
 | .bl a, .int b => (if a then 1 else 0) == b
 | .int a, .bl b => a == (if b then 1 else 0)
 | .int a, .int b => a == b
 | .str a, .str b => a == b
 | _, _ => false
theorem eqAt_V {A : Around} {s : Shared} {y x : V} {u v : Value} (ry : RelV y u) (rx : RelV x v) (fy : flatV y = true) (fx : flatV x = true) : SeqAt.EqAt A s u v (eqV y x) := by
 cases y with
 | non =>
   cases ry
   cases x with
   | non => cases rx; exact SeqAt.EqAt.same _
   | bl b => cases rx; exact SeqAt.EqAt.none_bool b
   | int b => obtain ⟨t, rfl⟩ := rx; exact SeqAt.EqAt.none_int b t
   | str b => obtain ⟨t, rfl⟩ := rx; exact SeqAt.EqAt.none_str b t
   | _ => exact absurd (show false = true from fx) Bool.false_ne_true
 | bl a =>
   cases ry
   cases x with
   | non => cases rx; exact SeqAt.EqAt.bool_none a
   | bl b => cases rx; exact SeqAt.EqAt.bool_bool a b
   | int b => obtain ⟨t, rfl⟩ := rx; exact SeqAt.EqAt.bool_int a b t
   | str b => obtain ⟨t, rfl⟩ := rx; exact SeqAt.EqAt.bool_str a b t
   | _ => exact absurd (show false = true from fx) Bool.false_ne_true
 | int a =>
   obtain ⟨t', rfl⟩ := ry
   cases x with
   | non => cases rx; exact SeqAt.EqAt.int_none a t'
   | bl b => cases rx; exact SeqAt.EqAt.int_bool a t' b
   | int b => obtain ⟨t, rfl⟩ := rx; exact SeqAt.EqAt.int_int a t' b t
   | str b => obtain ⟨t, rfl⟩ := rx; exact SeqAt.EqAt.int_str a t' b t
   | _ => exact absurd (show false = true from fx) Bool.false_ne_true
 | str a =>
   obtain ⟨t', rfl⟩ := ry
   cases x with
   | non => cases rx; exact SeqAt.EqAt.str_none a t'
   | bl b => cases rx; exact SeqAt.EqAt.str_bool a t' b
   | int b => obtain ⟨t, rfl⟩ := rx; exact SeqAt.EqAt.str_int a t' b t
   | str b => obtain ⟨t, rfl⟩ := rx; exact SeqAt.EqAt.str_str a t' b t
   | _ => exact absurd (show false = true from fx) Bool.false_ne_true
 | _ => exact absurd (show false = true from fy) Bool.false_ne_true
def eqU (x : V) (u : Value) : Bool := match u with
 | .none => eqV .non x
 | .bool b => eqV (.bl b) x
 | .int i _ => eqV (.int i) x
 | .str z _ => eqV (.str z) x
 | _ => false
theorem eqU_of {x y : V} {u : Value} (r : RelV y u) (f : flatV y = true) : eqU x u = eqV y x := by
 cases y with
 | non => cases r; rfl
 | bl b => cases r; rfl
 | int i => obtain ⟨t, rfl⟩ := r; rfl
 | str z => obtain ⟨t, rfl⟩ := r; rfl
 | _ => exact absurd (show false = true from f) Bool.false_ne_true
theorem kG {x : V} : ∀ {xs : List V} {us : List Value}, Vals xs us -> xs.all flatV = true -> us.any (eqU x) = xs.any fun y => eqV y x
 | _, _, .nil, _ => rfl
 | y :: xs, u :: us, .cons r t, f => by
   rw [List.all_cons, Bool.and_eq_true] at f
   rw [List.any_cons, List.any_cons, eqU_of r f.1, kG t f.2]
theorem uU {A : Around} {s : Shared} {x : V} {v : Value} (rx : RelV x v) (fx : flatV x = true) : ∀ {xs : List V} {us : List Value}, Vals xs us -> xs.all flatV = true -> ∀ u ∈ us, SeqAt.EqAt A s u v (eqU x u)
 | _, _, .nil, _ => fun u hu => by cases hu
 | y :: xs, u :: us, .cons r t, f => fun u' hu => by
   rw [List.all_cons, Bool.and_eq_true] at f
   rcases List.mem_cons.mp hu with rfl | hu
   · rw [eqU_of r f.1]; exact eqAt_V r rx f.1 fx
   · exact uU rx fx t f.2 u' hu
def inV (x : V) (xs : List V) : Bool := xs.any fun y => eqV y x
def rIn (K : PySem.W.Frag) (neg : Bool) : R2 := fun x y H Q => ∃ p xs, y = .ref p /\ (SqL K H p xs \/ SqT K H p xs) /\ flatV x = true /\ xs.all flatV = true /\ Q (.bl (if neg then !inV x xs else inV x xs)) H
theorem op_in_seq : OpR X (compareOp .In) (rIn X.K false) := by
 intro pins s σ H x y v u Q I rx ry h
 obtain ⟨p, xs, rfl, hq, fx, fs, q⟩ := h
 cases ry
 rcases hq with hq | hq
 · obtain ⟨its, r, pl, hz⟩ := I.list hq
   refine SeqAt.in_listAt (eqU x) pl.isList (fun w hw => uU rx fx r fs w (by simpa using hw)) ⟨.bl _, H, I, rfl, ?_⟩
   rw [show its.toArray.any (eqU x) = its.any (eqU x) by simp, kG r fs]
   exact q
 · obtain ⟨its, r, pl, hz⟩ := I.tuple hq
   refine SeqAt.in_tupleAt (eqU x) pl (fun w hw => uU rx fx r fs w (by simpa using hw)) ⟨.bl _, H, I, rfl, ?_⟩
   rw [show its.toArray.any (eqU x) = its.any (eqU x) by simp, kG r fs]
   exact q
theorem call_list_of : xI X (.type "list") (fun xs H Q => ∃ p ys, xs = [.ref p] /\ (SqL X.K H p ys \/ SqT X.K H p ys) /\ ∀ l, H l = none -> Q (.ref l) (upd H l (.lst ys))) := by
 intro pins s σ H xs us Q I r h
 obtain ⟨p, ys, rfl, hq, q⟩ := h
 obtain ⟨u, rfl, rx⟩ := jH r
 cases rx
 have fin : ∀ (its : List Value), Vals ys its -> ys.length <= sizeLine -> ∀ (h' : Heap) (c' : Nat), (∀ b o', s.heap.get? b = some o' -> h'.get? b = some o') ->
     h'.get? s.heap.objs.size = some { cls := .type "list", dict := none, data := .seq its.toArray c', slots := #[] } -> EP X pins σ Q (.ref s.heap.objs.size) { s with heap := h' } := fun its r' hz h' c' kp e =>
   ⟨.ref s.heap.objs.size, _, I.laid (t' := s.toks) kp (Nat.le_refl _) (show ObjOk X.prog X.w _ h' _ (.lst ys) from ⟨hz, its, c', r', e⟩), rfl, q _ (I.hok.fresh (Nat.le_refl _))⟩
 rcases hq with hq | hq
 · obtain ⟨its, r', pl, hz⟩ := I.list hq
   have hlen := r'.length
   obtain ⟨o, ho, hc, n, hd⟩ := pl.isList
   exact call_list_seq p (.inl rfl) ho hc hd (fun h' c' kp e => fin its r' hz h' c' kp e) (by simp only [List.size_toArray] <;> omega)
 · obtain ⟨its, r', pl, hz⟩ := I.tuple hq
   have hlen := r'.length
   obtain ⟨o, ho, hc, n, hd⟩ := pl
   exact call_list_seq p (.inr rfl) ho hc hd (fun h' c' kp e => fin its r' hz h' c' kp e) (by simp only [List.size_toArray] <;> omega)
def tyV (K : PySem.W.Frag) (T : String) (x : V) (H : Hp) : Prop := match x with
 | .str _ => T = "str"
 | .int _ => T = "int"
 | .ref p => (T = "list" /\ ∃ xs, SqL K H p xs) \/ (T = "tuple" /\ ∃ o, K.lookup p = some o /\ o.cls = .type "tuple" /\ o.dict = none) \/
     (T = "dict" /\ ((∃ kvs, H p = some (.dK kvs)) \/ ∃ kvs, H p = some (.dT kvs))) \/ (T = "set" /\ ∃ S n, H p = some (.set S n))
 | _ => False
theorem tyV_is {pins : List (Addr × Obj)} {σ : St} {H : Hp} {s : Shared} {T : String} {x : V} {v : Value} (I : Inv X pins σ H s) (r : RelV x v) (ty : tyV X.K T x H) :
   s.TypeIs v T /\ ∀ a, v = .ref a -> ∃ ob, s.heap.get? a = some ob /\ ob.dict = none := by
 cases x with
 | str z =>
   obtain ⟨t, rfl⟩ := r
   cases (show T = "str" from ty)
   exact ⟨typeIs_str s z t, fun _ e => nomatch e⟩
 | int i =>
   obtain ⟨t, rfl⟩ := r
   cases (show T = "int" from ty)
   exact ⟨typeIs_int s i t, fun _ e => nomatch e⟩
 | ref p =>
   cases r
   rcases ty with ⟨rfl, xs, hq⟩ | ⟨rfl, o, hk, hc, hd⟩ | ⟨rfl, hk⟩ | ⟨rfl, S, n, hk⟩
   · obtain ⟨its, _, pl, _⟩ := I.list hq
     refine ⟨pl.isList.typeIs, fun a e => ?_⟩
     cases e
     obtain ⟨o, n, e, c, hd, _⟩ := pl
     exact ⟨o, e, hd⟩
   · refine ⟨⟨o, I.kIn p o hk, hc⟩, fun a e => ?_⟩
     cases e
     exact ⟨o, I.kIn _ o hk, hd⟩
   · have z : ∃ o, s.heap.get? p = some o /\ o.ExactDict := by
       rcases hk with ⟨kvs, hk⟩ | ⟨kvs, hk⟩
       · obtain ⟨_, _, _, _, o, _, _, e, ex, _⟩ := I.hok p _ hk
         exact ⟨o, e, ex⟩
       · obtain ⟨_, _, _, _, o, _, _, e, ex, _⟩ := I.hok p _ hk
         exact ⟨o, e, ex⟩
     obtain ⟨o, e, ex⟩ := z
     refine ⟨⟨o, e, ex.1⟩, fun a e2 => ?_⟩
     cases e2
     exact ⟨o, e, ex.2.1⟩
   · obtain ⟨o, _, _, _, e, ex, _⟩ := I.hok p _ hk
     refine ⟨⟨o, e, ex.1⟩, fun a e2 => ?_⟩
     cases e2
     exact ⟨o, e, ex.2.1⟩
 | _ => exact False.elim ty
def tBM0 (K : PySem.W.Frag) (T : String) (r : V -> List V -> Hp -> VK -> Prop) (to : TE) : TE := fun σ H Q => to σ H fun x H1 => tyV K T x H1 /\ r x [] H1 Q
def tBM (K : PySem.W.Frag) (T : String) (r : V -> List V -> Hp -> VK -> Prop) (to : TE) (t : TA) : TE := fun σ H Q => to σ H fun x H1 => tyV K T x H1 /\ t σ H1 fun xs H2 => r x xs H2 Q
variable {o e : Expr} {es : List Expr} {to : TE} {t : TA} {name : Str} {apos cpos : Pos} {T id : String} {r : V -> List V -> Hp -> VK -> Prop}
theorem pe_bm0 (pa : PlainAttrs T) (slot : Slot T name id) (hty : typeOf (.builtin id) = pure (.type "method_descriptor")) (hm : MtR X id r) (ho : PE X o to)
   (hbase : attributeBase o name X.env (eval o X.env) = eval o X.env := by rfl) (hline : (apos.endLine == cpos.line) = true := by rfl) : PE X (.Call (.Attribute o name apos) [] [] cpos) (tBM0 X.K T r to) := by
 intro pins s σ H Q I h
 refine wpAny_Call_method0_late hbase hline (thn (ho pins s σ H _ I h) fun v s1 ⟨x, H1, I1, r1, ty, q1⟩ => ?_)
 obtain ⟨h1, h2⟩ := tyV_is I1 r1 ty
 exact ⟨T, id, pa, slot, hty, h1, h2, Calls.callWith_builtin rfl (PySem.evalArgs_none (hm pins s1 σ H1 x [] v [] Q I1 r1 .nil q1))⟩
theorem xZ (pa : PlainAttrs T) (slot : Slot T name id) (hty : typeOf (.builtin id) = pure (.type "method_descriptor")) (hm : MtR X id r) (ho : PE X o to) (ha : PA X (e :: es) t)
   (hbase : attributeBase o name X.env (eval o X.env) = eval o X.env := by rfl)
   (hfew : ((backTo cpos (starEach (e :: es) X.env)).all (fun x => !x.1) && (backToKw cpos (keywordEach [] X.env)).all (fun x => x.1.isSome)
     && decide ((e :: es).length + ([] : List Keyword).length + (if ([] : List Keyword).isEmpty then 0 else 1) < 30)) = true := by rfl)
   (hline : (apos.endLine == cpos.line) = true := by rfl) (hs : starEach (e :: es) X.env = (false, eval e X.env) :: starEach es X.env := by rfl) (hplain : (backTo cpos (starEach es X.env)).any (·.1) = false := by rfl) :
   PE X (.Call (.Attribute o name apos) (e :: es) [] cpos) (tBM X.K T r to t) := by
 intro pins s σ H Q I h
 refine wpAny_Call_method_late hbase hfew hline rfl (thn (ho pins s σ H _ I h) fun v s1 ⟨x, H1, I1, r1, ty, q1⟩ => ?_)
 obtain ⟨h1, h2⟩ := tyV_is I1 r1 ty
 refine ⟨T, id, pa, slot, hty, h1, h2, ?_⟩
 have hA := ha cpos pins s1 σ H1 _ I1 q1
 rw [hs] at hA ⊢
 refine Calls.callWith_builtin (by show (false || (backTo cpos (starEach es X.env)).any (·.1)) = false; rw [hplain] <;> rfl) (Calls.evalArgs_plain ?_)
 exact thn hA fun us s2 ⟨vs, H2, I2, r2, q2⟩ => hm pins s2 σ H2 x vs v us Q I2 r1 r2 q2
end
def MtM (X : Cx) (id : String) (r : V -> List V -> Hp -> VK -> Prop) : Prop :=
 ∀ (pins : List (Addr × Obj)) (s : Shared) (σ : St) (H : Hp) (x : V) (xs : List V) (v : Value) (us : List Value) (Q : VK), Inv X pins σ H s -> RelV x v -> Vals xs us -> r x xs H Q ->
   wpAny (model X.prog X.w) X.A (call (.builtin id) (v :: us)) (EP X pins σ Q) X.xe s
theorem Vals.one : ∀ {x : V} {us : List Value}, Vals [x] us -> ∃ u, us = [u] /\ RelV x u
 | _, _, .cons r .nil => ⟨_, rfl, r⟩
theorem Vals.two : ∀ {x y : V} {us : List Value}, Vals [x, y] us -> ∃ u v, us = [u, v] /\ RelV x u /\ RelV y v
 | _, _, _, .cons r (.cons q .nil) => ⟨_, _, rfl, r, q⟩
theorem Vals.dropLast {xs : List V} {us : List Value} (h : Vals xs us) : Vals xs.dropLast us.dropLast := by
 induction h with
 | nil => exact .nil
 | cons r t ih =>
   cases t with
   | nil => exact .nil
   | cons q t' => exact .cons r ih
theorem Vals.rep {xs : List V} {us : List Value} (h : Vals xs us) : ∀ k : Nat, Vals (List.replicate k xs).flatten (List.replicate k us).flatten
 | 0 => .nil
 | k + 1 => by
   rw [List.replicate_succ, List.replicate_succ, List.flatten_cons, List.flatten_cons]
   exact Vals.append h (Vals.rep h k)
theorem vU (its : List Value) : ∀ (k : Nat) (acc : List Value),
   List.foldl (fun x1 x2 => x1 ++ x2) acc.toArray (List.replicate k its.toArray) = (acc ++ (List.replicate k its).flatten).toArray
 | 0, acc => by simp
 | k + 1, acc => by
   have e : acc.toArray ++ its.toArray = (acc ++ its).toArray := by simp
   have e2 : (acc ++ its) ++ (List.replicate k its).flatten = acc ++ (List.replicate (k + 1) its).flatten := by
     rw [List.replicate_succ, List.flatten_cons, List.append_assoc]
   rw [← e2, ← vU its k (acc ++ its), ← e, List.replicate_succ, List.foldl_cons]
section
variable {X : Cx} {pins : List (Addr × Obj)} {σ : St} {H : Hp} {s : Shared} {l b : Addr} {xs ys zs : List V}
theorem Inv.lset {its its' : List Value} {n : Nat} {f : Array Value -> Array Value} {t' : Nat} (I : Inv X pins σ H s) (hH : H l = some (.lst xs))
   (e : s.heap.get? l = some { cls := .type "list", data := .seq its.toArray n }) (hf : f its.toArray = its'.toArray) (hv : Vals ys its') (hz : ys.length <= sizeLine) :
   Inv X pins σ (upd H l (.lst ys)) { s with heap := s.heap.update l (Obj.mapSeq f), toks := t' } := by
 have q := PySem.IsL.update e f
 rw [hf] at q
 refine I.write (x := l) (e := l) (by rw [hH]; exact trivial) (.inl rfl) (fun b' u hb hu => (Heap.get?_update_other s.heap (Obj.mapSeq f) (Ne.symm hb)).trans hu) ⟨_, q⟩ ?_
 exact ⟨hz, its', _, hv, q⟩
theorem Inv.lnew {its : List Value} {t' : Nat} (I : Inv X pins σ H s) (hv : Vals ys its) (hz : ys.length <= sizeLine) :
   Inv X pins σ (upd H s.heap.objs.size (.lst ys)) { s with heap := s.heap.push { cls := .type "list", data := .seq its.toArray }, toks := t' } :=
 I.laid (fun _ _ q => Heap.get?_push_of_some _ q) (Nat.le_refl _) ⟨hz, its, 0, hv, Heap.get?_push_size _ rfl⟩
theorem Inv.fresh (I : Inv X pins σ H s) : H s.heap.objs.size = none := I.hok.fresh (Nat.le_refl _)
theorem Inv.lstM (I : Inv X pins σ H s) (hH : H l = some (.lst xs)) : xs.length <= sizeLine /\ ∃ (its : List Value) (n : Nat), Vals xs its /\ xs.length = its.length /\ s.heap.get? l = some { cls := .type "list", data := .seq its.toArray n } := by
 obtain ⟨z, its, n, r, e⟩ := I.hok l _ hH
 exact ⟨z, its, n, r, r.length, e⟩
theorem notLongL {n : Nat} (h : n <= sizeLine) : Builtin.List.listTooLong n = false := by
 unfold Builtin.List.listTooLong
 exact decide_eq_false (by omega)
end
section
variable {X : Cx}
def rAppend : V -> List V -> Hp -> VK -> Prop := fun x vs H Q => ∃ l xs y, x = .ref l /\ vs = [y] /\ H l = some (.lst xs) /\ xs.length < sizeLine /\ Q .non (upd H l (.lst (xs ++ [y])))
theorem mt_append : MtM X "list.append" rAppend := by
 intro pins s σ H x vs v us Q I rx rv h
 obtain ⟨l, xs, y, rfl, rfl, hH, hz, q⟩ := h
 cases rx
 obtain ⟨u, rfl, ru⟩ := rv.one
 obtain ⟨z, its, n, r, hl, e⟩ := I.lstM hH
 refine call_meets F.slot_list_append ⟨_, e, rfl⟩ F.entry_list_append (F.args_list_append_2 _ _) (PySem.list_append l its.toArray n u (by rw [List.size_toArray]; omega)) ⟨e, ?_⟩
 refine ⟨.non, _, I.lset (its' := its ++ [u]) hH e (by simp) (r.append (.cons ru .nil)) ?_, rfl, q⟩
 rw [List.length_append, List.length_singleton]
 omega
def rPop : V -> List V -> Hp -> VK -> Prop := fun x vs H Q => ∃ l xs y, x = .ref l /\ vs = [] /\ H l = some (.lst xs) /\ xs[xs.length - 1]? = some y /\ Q y (upd H l (.lst xs.dropLast))
def rCat : R2 := fun x y H Q => ∃ l b xs zs, x = .ref l /\ y = .ref b /\ H l = some (.lst xs) /\ H b = some (.lst zs) /\ xs.length + zs.length <= sizeLine /\ ∀ p, H p = none -> Q (.ref p) (upd H p (.lst (xs ++ zs)))
theorem op_cat : OpR X (binaryOp .Add) rCat := by
 intro pins s σ H x y v u Q I rx ry h
 obtain ⟨l, b, xs, zs, rfl, rfl, hH, hB, hz, q⟩ := h
 cases rx
 cases ry
 obtain ⟨z, its, n, r, hl, e⟩ := I.lstM hH
 obtain ⟨z2, its2, n2, r2, hl2, e2⟩ := I.lstM hB
 refine PySem.P.add_list e e2 ?_ (by rw [List.size_toArray, List.size_toArray]; omega)
 have ea : its.toArray ++ its2.toArray = (its ++ its2).toArray := by simp
 rw [ea]
 exact ⟨.ref _, _, I.lnew (t' := s.toks) (r.append r2) (by rw [List.length_append]; omega), rfl, q _ I.fresh⟩
def rRep : R2 := fun x y H Q => ∃ l k xs, x = .ref l /\ y = .int k /\ H l = some (.lst xs) /\ -(2 ^ 63) <= k /\ k < 2 ^ 63 /\ xs.length * k.toNat <= sizeLine /\
 ∀ p, H p = none -> Q (.ref p) (upd H p (.lst (List.replicate k.toNat xs).flatten))
theorem len_rep {α : Type} (xs : List α) (k : Nat) : (List.replicate k xs).flatten.length = k * xs.length := by
 induction k with
 | zero => simp
 | succ k ih => rw [List.replicate_succ, List.flatten_cons, List.length_append, ih, Nat.succ_mul, Nat.add_comm]
theorem op_rep : OpR X (binaryOp .Mult) rRep := by
 intro pins s σ H x y v u Q I rx ry h
 obtain ⟨l, k, xs, rfl, rfl, hH, h1, h2, hz, q⟩ := h
 cases rx
 obtain ⟨t, rfl⟩ := ry
 obtain ⟨z, its, n, r, hl, e⟩ := I.lstM hH
 have hlen : its.toArray.size * k.toNat <= sizeLine := by rw [List.size_toArray, ← hl]; exact hz
 have hcap : ¬ its.toArray.size * k.toNat > (2 ^ 63 - 1) / 8 := by
   have : (sizeLine : Nat) <= (2 ^ 63 - 1) / 8 := by decide
   omega
 have hfit : ¬ (!Builtin.List.listFitsIndex k) = true := by
   rw [fitsIndex_both h1 h2]
   exact Bool.false_ne_true
 have hlong : ¬ Builtin.List.listTooLong (its.toArray.size * k.toNat) = true := by
   rw [notLongL hlen]
   exact Bool.false_ne_true
 have hnew : List.foldl (fun x1 x2 => x1 ++ x2) #[] (List.replicate (if its.toArray.isEmpty = true then 0 else k.toNat) its.toArray) = (List.replicate k.toNat its).flatten.toArray := by
   have f0 : ∀ m : Nat, List.foldl (fun x1 x2 => x1 ++ x2) #[] (List.replicate m its.toArray) = (List.replicate m its).flatten.toArray := fun m => by
     have := vU its m []
     rw [List.nil_append] at this
     exact this
   rw [f0]
   cases its with
   | nil => simp
   | cons a r' => rw [if_neg (by simp)]
 refine wpAny_binaryOp_repeat_ref (T := "list") (U := "int") (by decide) ⟨_, e, rfl⟩ (fun s' => typeIs_int s' k t) noFill_list_mul F.fills_int_mul F.slot_int_rmul repeat_list F.slot_int_index.lookup
   (call_meets F.slot_int_rmul (typeIs_int s k t) F.entry_int_rmul (F.args_int_rmul_2 _ _) (int___rmul___int_list k t l its.toArray n)
     ⟨e, rfl, ⟨_, e, rfl⟩, call_meets F.slot_list_mul ⟨_, e, rfl⟩ F.entry_list_mul (F.args_list_mul_2 _ _) (AutoListH.list___mul___list_int_3 l its.toArray n k t hfit hcap hlong) ⟨e, ?_⟩⟩)
 rw [hnew]
 exact ⟨.ref _, _, I.lnew (t' := s.toks) (r.rep k.toNat) (by rw [len_rep, Nat.mul_comm]; exact hz), rfl, q _ I.fresh⟩
end
section
variable {prog : Program} {w : World} {A : Around} {E : Value -> Shared -> Prop} {s : Shared}
end
section
variable {X : Cx}
end
section
variable {κ : Type} [DecidableEq κ]
def yP (kvs : List (κ × V)) (k : κ) : Option V := (kvs.find? fun kv => decide (kv.1 = k)).map (·.2)
def jM (kvs : List (κ × V)) (k : κ) (v : V) : List (κ × V) :=
 if (kvs.any fun kv => decide (kv.1 = k)) = true then kvs.map (fun kv => if kv.1 = k then (kv.1, v) else kv) else kvs ++ [(k, v)]
theorem jJ {p : κ × V} {r : List (κ × V)} {k : κ} (e : p.1 = k) : yP (p :: r) k = some p.2 := by simp [yP, List.find?_cons, e]
theorem xS {p : κ × V} {r : List (κ × V)} {k : κ} (e : ¬ p.1 = k) : yP (p :: r) k = yP r k := by simp [yP, List.find?_cons, e]
theorem uH (k : κ) : ∀ kvs : List (κ × V), (kvs.any fun kv => decide (kv.1 = k)) = (yP kvs k).isSome
 | [] => rfl
 | p :: r => by
   rw [List.any_cons]
   by_cases e : p.1 = k
   · simp only [jJ e, decide_eq_true e, Bool.true_or, Option.isSome_some]
   · rw [xS e, decide_eq_false e, Bool.false_or]; exact uH k r
theorem qR (kvs : List (κ × V)) (k : κ) (v : V) : (jM kvs k v).length <= kvs.length + 1 := by
 unfold jM
 split
 · rw [List.length_map]; omega
 · rw [List.length_append, List.length_cons, List.length_nil]; omega
theorem putK_new {kvs : List (κ × V)} {k : κ} (v : V) (h : yP kvs k = none) : jM kvs k v = kvs ++ [(k, v)] := by
 unfold jM
 rw [uH, h]
 exact if_neg (by decide)
theorem RelO.isSome_eq {o : Option V} {u : Option Value} (r : RelO o u) : o.isSome = u.isSome := by
 cases o with
 | none => cases u with
   | none => rfl
   | some _ => exact (show False from r).elim
 | some _ => cases u with
   | none => exact (show False from r).elim
   | some _ => rfl
theorem KV.val {kvs : List (κ × V)} {vs : List (κ × Value)} (r : KV kvs vs) (k : κ) : RelO (yP kvs k) (valueAt vs k) := by
 unfold KV at r
 induction r with
 | nil => exact True.intro
 | @cons p q ps qs h t ih =>
   obtain ⟨h1, h2⟩ := h
   by_cases e : p.1 = k
   · have e' : q.1 = k := h1.symm.trans e
     have b : valueAt (q :: qs) k = some q.2 := by simp [valueAt, List.find?_cons, e']
     rw [jJ e, b]; exact h2
   · have e' : ¬ q.1 = k := fun z => e (h1.trans z)
     have b : valueAt (q :: qs) k = valueAt qs k := by simp [valueAt, List.find?_cons, e']
     rw [xS e, b]; exact ih
theorem KV.any {kvs : List (κ × V)} {vs : List (κ × Value)} (r : KV kvs vs) (k : κ) : (kvs.any fun kv => decide (kv.1 = k)) = vs.any fun kv => decide (kv.1 = k) := by
 unfold KV at r
 induction r with
 | nil => rfl
 | cons h t ih => rw [List.any_cons, List.any_cons, ih, h.1]
theorem KV.repl {kvs : List (κ × V)} {vs : List (κ × Value)} (r : KV kvs vs) (k : κ) {y : V} {u : Value} (ry : RelV y u) :
   KV (kvs.map fun kv => if kv.1 = k then (kv.1, y) else kv) (vs.map fun kv => if kv.1 = k then (kv.1, u) else kv) := by
 unfold KV at r ⊢
 induction r with
 | nil => exact .nil
 | @cons p q ps qs h t ih =>
   rw [List.map_cons, List.map_cons]
   refine .cons ?_ ih
   obtain ⟨h1, h2⟩ := h
   by_cases e : p.1 = k
   · rw [if_pos e, if_pos (h1.symm.trans e)]; exact ⟨h1, ry⟩
   · rw [if_neg e, if_neg (fun z => e (h1.trans z))]; exact ⟨h1, h2⟩
theorem KV.put {kvs : List (κ × V)} {vs : List (κ × Value)} (r : KV kvs vs) (k : κ) {y : V} {u : Value} (ry : RelV y u) : KV (jM kvs k y) (stored vs k u) := by
 unfold jM stored
 rw [r.any k]
 by_cases e : (vs.any fun kv => decide (kv.1 = k)) = true
 · rw [if_pos e, if_pos e]; exact r.repl k ry
 · rw [if_neg e, if_neg e]; exact Paired.snoc r ⟨rfl, ry⟩
theorem KV.keys {kvs : List (κ × V)} {vs : List (κ × Value)} (r : KV kvs vs) : kvs.map (·.1) = vs.map (·.1) := by
 unfold KV at r
 induction r with
 | nil => rfl
 | cons h t ih => rw [List.map_cons, List.map_cons, ih, h.1]
theorem KV.length {kvs : List (κ × V)} {vs : List (κ × Value)} (r : KV kvs vs) : kvs.length = vs.length := Paired.length r
end
theorem kV_is {P : Program} {w : World} {k : Key} {u : Value} (r : RelV (kV k) u) : (yG P w).is k u = true := by
 cases k with
 | inl i => obtain ⟨t, e⟩ := (show ∃ t, u = Value.int i t from r); subst e; exact mixKind_int P w i t
 | inr x => obtain ⟨t, e⟩ := (show ∃ t, u = Value.str x t from r); subst e; exact qP P w x t
theorem vS {P : Program} {w : World} : ∀ {ks : List Key} {us : List Value}, Vals (ks.map kV) us -> ItemsAre (yG P w) ks us
 | [], _, r => by rw [List.map_nil] at r; cases r; exact .nil
 | k :: ks, _, r => by
   rw [List.map_cons] at r
   cases r with
   | cons h t => exact .cons (kV_is h) (vS t)
abbrev KT (H : Hp) : List (List Key × V) -> List (List Key × Addr × Value) -> Prop := Paired fun p q => p.1 = q.1 /\ H q.2.1 = some (.tup (p.1.map kV)) /\ RelV p.2 q.2.2
theorem KT.val {H : Hp} {kvs : List (List Key × V)} {xs : List (List Key × Addr × Value)} (r : KT H kvs xs) (k : List Key) : RelO (yP kvs k) ((atKey xs k).map (·.2)) := by
 induction r with
 | nil => exact True.intro
 | @cons p q ps qs h t ih =>
   obtain ⟨h1, _, h2⟩ := h
   by_cases e : p.1 = k
   · have e' : q.1 = k := h1.symm.trans e
     have b : atKey (q :: qs) k = some q.2 := by simp [atKey, List.find?_cons, e']
     rw [jJ e, b]; exact h2
   · have e' : ¬ q.1 = k := fun z => e (h1.trans z)
     have b : atKey (q :: qs) k = atKey qs k := by simp [atKey, List.find?_cons, e']
     rw [xS e, b]; exact ih
theorem KT.repl {H : Hp} {kvs : List (List Key × V)} {xs : List (List Key × Addr × Value)} (r : KT H kvs xs) (k : List Key) {y : V} {u : Value} (ry : RelV y u) :
   KT H (kvs.map fun kv => if kv.1 = k then (kv.1, y) else kv) (xs.map (putAt k u)) := by
 induction r with
 | nil => exact .nil
 | @cons p q ps qs h t ih =>
   rw [List.map_cons, List.map_cons]
   refine .cons ?_ ih
   obtain ⟨h1, h2, h3⟩ := h
   unfold putAt
   by_cases e : p.1 = k
   · rw [if_pos e, if_pos (h1.symm.trans e)]; exact ⟨h1, h2, ry⟩
   · rw [if_neg e, if_neg (fun z => e (h1.trans z))]; exact ⟨h1, h2, h3⟩
theorem KT.put {H : Hp} {kvs : List (List Key × V)} {xs : List (List Key × Addr × Value)} (r : KT H kvs xs) (k : List Key) {b : Addr} {y : V} {u : Value} (hb : H b = some (.tup (k.map kV))) (ry : RelV y u) :
   KT H (jM kvs k y) (storedH xs k b u) := by
 have e : (kvs.any fun kv => decide (kv.1 = k)) = (atKey xs k).isSome := by
   rw [uH, (r.val k).isSome_eq, Option.isSome_map]
 unfold jM storedH
 rw [e]
 by_cases q : (atKey xs k).isSome = true
 · rw [if_pos q, if_pos q]; exact r.repl k ry
 · rw [if_neg q, if_neg q]; exact Paired.snoc r ⟨rfl, hb, ry⟩
theorem KT.keeps {H H' : Hp} {kvs : List (List Key × V)} {xs : List (List Key × Addr × Value)} (r : KT H kvs xs) (ht : ∀ b ys, H b = some (.tup ys) -> H' b = some (.tup ys)) : KT H' kvs xs :=
 Paired.mapP r fun _ _ z => ⟨z.1, ht _ _ z.2.1, z.2.2⟩
section
variable {P : Program} {w : World} {H : Hp} {h : Heap} {a : Addr}
theorem rd_of {u : HO} (ok : HOk P w H h) (e : Rd H a u) : ObjOk P w H h a u := e.ok ok
theorem dk_rd {kvs : List (Key × V)} (ok : HOk P w H h) (e : Rd H a (.dK kvs)) : kvs.length <= sizeLine /\ (a == sysModules) = false /\ ∃ vs, KV kvs vs /\ h.DictOf (yG P w) a vs :=
 show ObjOk P w H h a (.dK kvs) from rd_of ok e
theorem dk_of {kvs : List (Key × V)} (ok : HOk P w H h) (e : H a = some (.dK kvs)) : kvs.length <= sizeLine /\ (a == sysModules) = false /\ ∃ vs, KV kvs vs /\ h.DictOf (yG P w) a vs := dk_rd ok (.inl e)
theorem wU {ks : List Key} (ok : HOk P w H h) (e : H a = some (.tup (ks.map kV))) : (tupleKind (yG P w)).is h ks a := by
 obtain ⟨_, its, r, o, h1, h2, n, h3⟩ := (show ObjOk P w H h a (.tup (ks.map kV)) from ok a _ e)
 exact ⟨o, its.toArray, n, h1, h2, h3, by simpa using vS r⟩
theorem dt_rd {kvs : List (List Key × V)} (ok : HOk P w H h) (e : Rd H a (.dT kvs)) : kvs.length <= sizeLine /\ (a == sysModules) = false /\
   ∃ xs, KT H kvs xs /\ h.DictOfH (tupleKind (yG P w)) a xs := by
 obtain ⟨z, y, xs, r, o, es, ep, h1, h2, h3, h4, h5⟩ := (show ObjOk P w H h a (.dT kvs) from rd_of ok e)
 refine ⟨z, y, xs, r, o, es, ep, h1, h2, h3, h4, fun x hx => ?_, h5⟩
 have all : ∀ {l : List (List Key × V)} {m : List (List Key × Addr × Value)}, KT H l m -> ∀ x ∈ m, (tupleKind (yG P w)).is h x.1 x.2.1 := by
   intro l m q
   induction q with
   | nil => intro x hx; exact nomatch hx
   | @cons p q ps qs hq t ih =>
     intro x hx
     rcases List.mem_cons.mp hx with e | hx
     · subst e
       exact wU ok (by rw [← hq.1]; exact hq.2.1)
     · exact ih x hx
 exact all r x hx
theorem dt_of {kvs : List (List Key × V)} (ok : HOk P w H h) (e : H a = some (.dT kvs)) : kvs.length <= sizeLine /\ (a == sysModules) = false /\
   ∃ xs, KT H kvs xs /\ h.DictOfH (tupleKind (yG P w)) a xs := dt_rd ok (.inl e)
end
def DGet (H : Hp) (a : Addr) (y : V) (r : Option V) : Prop :=
 (∃ kvs k, Rd H a (.dK kvs) /\ y = kV k /\ r = yP kvs k) \/ ∃ kvs k b, Rd H a (.dT kvs) /\ y = .ref b /\ H b = some (.tup (k.map kV)) /\ r = yP kvs k
def DPut (H : Hp) (a : Addr) (y v : V) (H' : Hp) : Prop :=
 (∃ kvs k, H a = some (.dK kvs) /\ y = kV k /\ kvs.length < sizeLine /\ H' = upd H a (.dK (jM kvs k v))) \/
 ∃ kvs k b, H a = some (.dT kvs) /\ y = .ref b /\ H b = some (.tup (k.map kV)) /\ kvs.length < sizeLine /\ H' = upd H a (.dT (jM kvs k v))
theorem DGet.k {H : Hp} {a : Addr} {kvs : List (Key × V)} {k : Key} (e : H a = some (.dK kvs)) : DGet H a (kV k) (yP kvs k) := .inl ⟨kvs, k, .inl e, rfl, rfl⟩
theorem DGet.t {H : Hp} {a b : Addr} {kvs : List (List Key × V)} {k : List Key} (e : H a = some (.dT kvs)) (eb : H b = some (.tup (k.map kV))) : DGet H a (.ref b) (yP kvs k) := .inr ⟨kvs, k, b, .inl e, rfl, eb, rfl⟩
theorem DPut.k {H : Hp} {a : Addr} {kvs : List (Key × V)} {k : Key} {v : V} (e : H a = some (.dK kvs)) (hl : kvs.length < sizeLine) : DPut H a (kV k) v (upd H a (.dK (jM kvs k v))) := .inl ⟨kvs, k, e, rfl, hl, rfl⟩
theorem DPut.t {H : Hp} {a b : Addr} {kvs : List (List Key × V)} {k : List Key} {v : V} (e : H a = some (.dT kvs)) (eb : H b = some (.tup (k.map kV))) (hl : kvs.length < sizeLine) :
   DPut H a (.ref b) v (upd H a (.dT (jM kvs k v))) := .inr ⟨kvs, k, b, e, rfl, eb, hl, rfl⟩
section
variable {X : Cx} {pins : List (Addr × Obj)} {σ : St} {H : Hp} {s : Shared} {a : Addr} {y v : V} {u r : Value} {o : Option V} {A : Around} {E : Value -> Shared -> Prop}
theorem Inv.big (I : Inv X pins σ H s) : sysModules < s.heap.objs.size := by
 have h : mainGlobals < s.heap.objs.size := (I.mod.glob.keeps I.bk).lt
 exact Nat.lt_trans (by decide) h
theorem d_getItem {Q : Value -> Shared -> Prop} (hu : A.units + 1 < cLine) (I : Inv X pins σ H s) (g : DGet H a y (some v)) (ry : RelV y u) (h : ∀ w' s', Inv X pins σ H s' -> RelV v w' -> Q w' s') :
   wpAny (model X.prog X.w) A (getItem (.ref a) u) Q E s := by
 rcases g with ⟨kvs, k, e, ey, l⟩ | ⟨kvs, k, b, e, ey, eb, l⟩
 · subst ey
   obtain ⟨z, hd, vs, rel, dd⟩ := dk_rd I.hok e
   obtain ⟨w', hw, rw'⟩ := RelO.some_of (v := v) (o := valueAt vs k) (by rw [l]; exact rel.val k)
   exact wpAny_getItem_of (kV_is ry) dd.mapOf hw (h w' _ (I.tok _) rw')
 · subst ey
   cases (show u = Value.ref b from ry)
   obtain ⟨z, hd, xs, rel, dd⟩ := dt_rd I.hok e
   obtain ⟨w', hw, rw'⟩ := RelO.some_of (v := v) (o := (atKey xs k).map (·.2)) (by rw [l]; exact rel.val k)
   obtain ⟨p, hp, hp2⟩ := Option.map_eq_some_iff.mp hw
   refine wpAny_getItem_heap (tupleKind_room_in1 hu) (wU I.hok eb) dd hp ?_
   rw [hp2]
   exact h w' _ (I.tok _) rw'
theorem d_notIn {Q : Value -> Shared -> Prop} (hu : A.units + 1 < cLine) (I : Inv X pins σ H s) (g : DGet H a y o) (ry : RelV y u) (h : ∀ s', Inv X pins σ H s' -> Q (.bool (!o.isSome)) s') :
   wpAny (model X.prog X.w) A (compareOp .NotIn u (.ref a)) Q E s := by
 rcases g with ⟨kvs, k, e, ey, l⟩ | ⟨kvs, k, b, e, ey, eb, l⟩
 · subst ey
   obtain ⟨z, hd, vs, rel, dd⟩ := dk_rd I.hok e
   refine wpAny_notIn_of (kV_is ry) hd dd.mapOf ?_
   rw [← (rel.val k).isSome_eq, ← l]
   exact h _ (I.tok _)
 · subst ey
   cases (show u = Value.ref b from ry)
   obtain ⟨z, hd, xs, rel, dd⟩ := dt_rd I.hok e
   refine wpAny_notIn_heap (tupleKind_room_in1 hu) (wU I.hok eb) hd dd ?_
   have q := (rel.val k).isSome_eq
   rw [Option.isSome_map] at q
   rw [← q, ← l]
   exact h _ (I.tok _)
theorem d_write {h' : Heap} {t' : Nat} {ob : HO} (I : Inv X pins σ H s) (mu : Mut (H a)) (hs : Heap.SameBut a s.heap h') (he : ∃ q, h'.get? a = some q) (new : ObjOk X.prog X.w (upd H a ob) h' a ob) :
   Inv X pins σ (upd H a ob) { s with heap := h', toks := t' } :=
 I.write (x := a) (e := a) mu (.inl rfl) (fun b q hb z => (hs.2 b hb).trans z) he new
theorem dk_new {P : Program} {w : World} {H' : Hp} {h' : Heap} {kvs : List (Key × V)} {vs : List (Key × Value)} (z : kvs.length <= sizeLine) (hd : (a == sysModules) = false) (rel : KV kvs vs) (dd : h'.DictOf (yG P w) a vs) :
   ObjOk P w H' h' a (.dK kvs) := ⟨z, hd, vs, rel, dd⟩
theorem d_setItem {H' : Hp} {Q : Unit -> Shared -> Prop} (hu : A.units + 1 < cLine) (I : Inv X pins σ H s) (g : DPut H a y v H') (ry : RelV y u) (rv : RelV v r) (h : ∀ s', Inv X pins σ H' s' -> Q () s') :
   wpAny (model X.prog X.w) A (setItem (.ref a) u r) Q E s := by
 rcases g with ⟨kvs, k, e, ey, l, eH⟩ | ⟨kvs, k, b, e, ey, eb, l, eH⟩
 · subst ey eH
   obtain ⟨z, hd, vs, rel, dd⟩ := dk_of I.hok e
   have hz : vs.length <= sizeLine := by rw [← rel.length]; exact z
   have hl : (jM kvs k v).length <= sizeLine := by have := qR kvs k v; omega
   refine wpAny_setItem_pairs (hsz := hz) (kV_is ry) dd fun h' dd' hs => h _ ?_
   have he : ∃ q, h'.get? a = some q := let ⟨q, _, _, hq, _⟩ := dd'; ⟨q, hq⟩
   exact d_write I (by rw [e]; exact True.intro) hs he (dk_new hl hd (rel.put k rv) dd')
 · subst ey eH
   cases (show u = Value.ref b from ry)
   obtain ⟨z, hd, xs, rel, dd⟩ := dt_of I.hok e
   have hz : xs.length <= sizeLine := by rw [← Paired.length rel]; exact z
   have hl : (jM kvs k v).length <= sizeLine := by have := qR kvs k v; omega
   refine wpAny_setItem_heap (hsz := hz) (tupleKind_room_in1 hu) (wU I.hok eb) dd fun h' dd' hs => h _ ?_
   obtain ⟨q, es, ep, hq, h2, h3, h4, _, h5⟩ := dd'
   refine d_write I (by rw [e]; exact True.intro) hs ⟨q, hq⟩ ⟨hl, hd, _, (rel.put k eb rv).keeps fun c ys ec => ?_, q, es, ep, hq, h2, h3, h4, h5⟩
   rw [zQ (ne_of ec e (fun z => nomatch z))]
   exact ec
end
section
variable {X : Cx} {pins : List (Addr × Obj)} {σ : St} {H : Hp} {s : Shared} {a : Addr} {kvs : List (Key × V)} {k : Key} {u : Value} {A : Around} {E : Value -> Shared -> Prop}
end
def NoSl (i : Expr) : Prop := ∀ ov iv, subscripted i false ov iv = operate [ov, iv] (getItem ov iv)
theorem subD_of {prog : Program} {w : World} {A : Around} {E : Value -> Shared -> Prop} {s : Shared} {env : Env} {value slice : Expr} {pos : Pos} {T id : String} {Q : Value -> Shared -> Prop}
   (hl : typeLookup (.type T) "__getitem__" = pure (some (.builtin id))) (hs : NoSl slice)
   (h : wpAny (model prog w) A (eval value env) (fun o s₁ => wpAny (model prog w) A (eval slice env) (fun i s₂ => s₂.TypeIs o T /\ wpAny (model prog w) A (getItem o i) Q E s₂) E s₁) E s) :
   wpAny (model prog w) A (eval (.Subscript value slice pos) env) Q E s := by
 refine Subscript_ (wpAny_mono h (fun o s₁ h₁ => wpAny_mono h₁ (fun i s₂ h₂ => ?_) fun _ _ x => x) fun _ _ x => x)
 obtain ⟨hT, h₂⟩ := h₂
 unfold subscriptTail
 refine wpAny_bind ?_
 rw [getitemInPython_of_ne hT.not_modules]
 refine wpAny_bind (wpAny_specialOf hT hl ?_)
 have fin : wpAny (model prog w) A (subscripted slice false o i) (fun r s₃ => wpAny (model prog w) A (letTemporaryGo value o r >>= fun _ => pure r) Q E s₃) E s₂ := by
   rw [hs o i]
   exact wpAny_operating (wpAny_mono h₂ (fun r s₃ h₃ => wpAny_bind (wpAny_letTemporaryGo (wpAny_pure h₃))) fun _ _ x => x)
 first
   | exact wpAny_pure (wpAny_bind fin)
   | exact wpAny_bind (wpAny_pure (wpAny_bind fin))
   | exact wpAny_bind fin
theorem dict_typeIs {X : Cx} {pins : List (Addr × Obj)} {σ : St} {H : Hp} {s : Shared} {a : Addr} {y : V} {o : Option V} (I : Inv X pins σ H s) (g : DGet H a y o) : s.TypeIs (.ref a) "dict" := by
 rcases g with ⟨kvs, k, e, _, _⟩ | ⟨kvs, k, b, e, _, _, _⟩
 · obtain ⟨_, _, vs, _, dd⟩ := dk_rd I.hok e
   exact dd.typeIs
 · obtain ⟨_, _, xs, _, dd⟩ := dt_rd I.hok e
   exact dd.typeIs
def tDGet (td ty : TE) : TE := fun σ H Q => td σ H fun x H1 => ty σ H1 fun y H2 => ∃ a v, x = .ref a /\ DGet H2 a y (some v) /\ Q v H2
def tDNotIn (ty td : TE) : TE := fun σ H Q => ty σ H fun y H1 => td σ H1 fun x H2 => ∃ a o, x = .ref a /\ DGet H2 a y o /\ Q (.bl (!o.isSome)) H2
def sDPut (td ty tv : TE) : TS := fun D σ H => tv σ H fun v H1 => td σ H1 fun x H2 => ty σ H2 fun y H3 => ∃ a H4, x = .ref a /\ DPut H3 a y v H4 /\ D.nx σ H4
section
variable {X : Cx} {o i e value : Expr} {pos pos' tpos : Pos} {td ty tv : TE}
theorem pe_dget (hu : X.A.units + 1 < cLine) (ho : PE X o td) (hi : PE X i ty) (hs : NoSl i) : PE X (.Subscript o i pos) (tDGet td ty) := by
 intro pins s σ H Q I h
 refine subD_of PySem.F.slot_dict_getitem.lookup hs (thn (ho pins s σ H _ I h) fun u s1 ⟨x, H1, I1, rx, q1⟩ => thn (hi pins s1 σ H1 _ I1 q1) fun iv s2 ⟨y, H2, I2, ry, a, v, ex, g, q2⟩ => ?_)
 subst ex
 obtain rfl : u = Value.ref a := rx
 exact ⟨dict_typeIs I2 g, d_getItem hu I2 g ry fun w' s3 I3 rw' => ⟨v, H2, I3, rw', q2⟩⟩
theorem pc_dnotin (hu : X.A.units + 1 < cLine) (hi : PE X i ty) (ho : PE X o td) : PC X .NotIn i o (tDNotIn ty td) := by
 intro pins s σ H Q I h
 refine thn (hi pins s σ H _ I h) fun iv s1 ⟨y, H1, I1, ry, q1⟩ => thn (ho pins s1 σ H1 _ I1 q1) fun u s2 ⟨x, H2, I2, rx, a, ov, ex, g, q2⟩ => ?_
 subst ex
 obtain rfl : u = Value.ref a := rx
 exact d_notIn hu I2 g ry fun s3 I3 => ⟨.bl (!ov.isSome), H2, I3, rfl, q2⟩
theorem ps_dput (hu : X.A.units + 1 < cLine) (ho : PE X o td) (hi : PE X i ty) (hv : PE X value tv) (hs : swapsWith value (some (.Subscript o i pos')) pos.line X.env = pure false) :
   PS X (.Assign [.Subscript o i pos'] value pos) (sDPut td ty tv) := by
 intro pins s σ H D I h
 refine wpAny_Assign_Subscript (thn (hv pins s σ H _ I h) fun r s1 ⟨v, H1, I1, rv, q1⟩ => thn (ho pins s1 σ H1 _ I1 q1) fun u s2 ⟨x, H2, I2, rx, q2⟩ => thn (hi pins s2 σ H2 _ I2 q2) fun iv s3 ⟨y, H3, I3, ry, a, H4, ex, g, q3⟩ => ?_) hs
 subst ex
 obtain rfl : u = Value.ref a := rx
 exact d_setItem hu I3 g ry rv fun s4 I4 => ⟨σ, H4, I4, q3⟩
end
theorem dk_empty {P : Program} {w : World} {H : Hp} (h : Heap) (hb : sysModules < h.objs.size) : ObjOk P w H (h.push { cls := .type "dict", data := .dict #[] }) h.objs.size (.dK []) :=
 ⟨Nat.zero_le _, beq_eq_false_iff_ne.mpr (Ne.symm (Nat.ne_of_lt hb)), [], .nil, Heap.DictOf.new h⟩
def tDNewK : TE := fun _ H Q => ∀ p, H p = none -> Q (.ref p) (upd H p (.dK []))
section
variable {X : Cx} {pos : Pos}
theorem pe_dnewK : PE X (.Dict [] [] pos) tDNewK := fun pins s σ H Q I h =>
 wpAny_Dict_empty ⟨.ref s.heap.objs.size, _, I.laid (a := s.heap.objs.size) (o := .dK []) (t' := s.toks) (fun _ _ q => Heap.get?_push_of_some _ q) (Nat.le_refl _) (dk_empty s.heap I.big), rfl, h _ (I.hok.fresh (Nat.le_refl _))⟩
end
def tPairs : List (TE × TE) -> St -> Hp -> (List (V × V) -> Hp -> Prop) -> Prop
 | [], _, H, Q => Q [] H
 | (tk, tv) :: r, σ, H, Q => tk σ H fun x H1 => tv σ H1 fun y H2 => tPairs r σ H2 fun ps H3 => Q ((x, y) :: ps) H3
abbrev VV : List (V × V) -> List (Value × Value) -> Prop := Paired fun p q => RelV p.1 q.1 /\ RelV p.2 q.2
def PPs (X : Cx) (pos : Pos) (keys : List (Option Expr)) (values : List Expr) (trs : List (TE × TE)) : Prop :=
 ∀ (pins : List (Addr × Obj)) (s : Shared) (σ : St) (H : Hp) (Q : List (V × V) -> Hp -> Prop), Inv X pins σ H s -> tPairs trs σ H Q ->
   wpAny (model X.prog X.w) X.A (evalPairs (pairTrees keys values X.env pos)) (fun vs s' => ∃ ps H', Inv X pins σ H' s' /\ VV ps vs /\ Q ps H') X.xe s
def mergeK (kvs more : List (Key × V)) : List (Key × V) := more.foldl (fun acc kv => jM acc kv.1 kv.2) kvs
def tDisp (trs : List (TE × TE)) : TE := fun σ H Q => ∀ p, H p = none -> tPairs trs σ (upd H p (.dK [])) fun ps H2 => H2 p = some (.dK []) /\ ∃ kvs : List (Key × V), ps = kvs.map (fun kv => (kV kv.1, kv.2)) /\ kvs.length <= 15 /\ Q (.ref p) (upd H2 p (.dK (mergeK [] kvs)))
structure M1 (X : Cx) (o : Expr) (m : Str) (apos : Pos) (e : Expr) (cpos : Pos) : Prop where
 base : attributeBase o m X.env (eval o X.env) = eval o X.env
 few : ((backTo cpos (starEach [e] X.env)).all (fun x => !x.1) && (backToKw cpos (keywordEach [] X.env)).all (fun x => x.1.isSome)
   && decide (([e] : List Expr).length + ([] : List Keyword).length + (if ([] : List Keyword).isEmpty then 0 else 1) < 30)) = true
 line : (apos.endLine == cpos.line) = true
 trees : backTo cpos (starEach [e] X.env) = [(false, eval e X.env)]
structure M2 (X : Cx) (o : Expr) (m : Str) (apos : Pos) (e f : Expr) (cpos : Pos) : Prop where
 base : attributeBase o m X.env (eval o X.env) = eval o X.env
 few : ((backTo cpos (starEach [e, f] X.env)).all (fun x => !x.1) && (backToKw cpos (keywordEach [] X.env)).all (fun x => x.1.isSome)
   && decide (([e, f] : List Expr).length + ([] : List Keyword).length + (if ([] : List Keyword).isEmpty then 0 else 1) < 30)) = true
 line : (apos.endLine == cpos.line) = true
 trees : backTo cpos (starEach [e, f] X.env) = [(false, eval e X.env), (false, eval f X.env)]
section
variable {X : Cx} {pins : List (Addr × Obj)} {σ : St} {H : Hp} {s : Shared} {a : Addr} {y d : V} {u r : Value} {o : Option V} {A : Around} {E : Value -> Shared -> Prop}
end
section
variable {X : Cx} {o e f : Expr} {apos cpos : Pos} {td ty tx : TE}
end
section
variable {X : Cx} {pins : List (Addr × Obj)} {σ : St} {H : Hp} {s : Shared} {a : Addr} {kvs : List (Key × V)} {A : Around} {E : Value -> Shared -> Prop}
end
section
variable {X : Cx} {pins : List (Addr × Obj)} {σ : St} {H : Hp} {s : Shared} {a : Addr} {y : V} {u : Value} {A : Around} {E : Value -> Shared -> Prop}
end
end L2
namespace Att
open PySem PySem.W PySem.Calls PyProof.Rows
theorem qY {P : Params} {h : Heap} : ∀ (ns : List Int) (vs : List Value), WellAll P h vs (ns.map WData.int) -> IntsAre vs ns := by
 intro ns
 induction ns with
 | nil =>
   intro vs w
   rw [List.map_nil] at w
   cases w
   exact .nil
 | cons n ns ih =>
   intro vs w
   rw [List.map_cons] at w
   cases w with
   | cons a b =>
     cases a
     exact .cons _ _ (ih _ b)
theorem script_of {l : OpenLaw} {n : Nat} (hn : l.most = some n) {P : Params} {h : Heap} {args : List WData} {vals : List Value}
   (hpre : l.row.toRowW.claim.pre args = true) (hwl : WellAll P h vals args) :
   ∃ a vs ns, vals = [Value.ref a] /\ args = [WData.list (ns.map WData.int)] /\ h.get? a = some { cls := .type "list", data := .seq vs.toArray } /\ IntsAre vs ns /\ ns.length <= n := by
 have hsh : WShape.hasAll [] args [.list .int] = true := (pre_splitW hpre).1
 have hc : l.pre.holds [] { args := args } = true := (pre_splitW hpre).2
 obtain ⟨d, r, rfl, h1, h2⟩ := hasAllW_cons hsh
 obtain rfl := hasAllW_nil h2
 obtain ⟨xs, rfl, h3⟩ := hasW_list h1
 obtain ⟨ns, rfl⟩ := items_int h3
 have hlen : ns.length <= n := by
   unfold OpenLaw.pre at hc
   have h4 : (WTm.not (.lt (.lit (.int (n : Int))) (.len (.arg 0)))).holds [] { args := [.list (ns.map .int)] } = true := by
     have h4 := (holds_andW hc).1
     rw [hn] at h4
     exact h4
   have h5 := condW_of h4 (w_not (w_lt w_lit (w_len_list (w_arg rfl))))
   rw [List.length_map] at h5
   refine Nat.le_of_not_lt fun q => ?_
   have q' : (n : Int) < ((ns.length : Nat) : Int) := by omega
   first
     | (rw [decide_eq_true q'] at h5; exact absurd h5 (by decide))
     | (simp at h5; omega)
 cases hwl with
 | cons w1 w2 =>
   cases w2
   cases w1 with
   | list ho hall => exact ⟨_, _, ns, rfl, rfl, ho, qY ns _ hall, hlen⟩
theorem post_true (l : OpenLaw) (args : List WData) : l.row.toRowW.claim.post args (.bool true) args = true :=
 postW_of (r := l.row.toRowW) (X := (true == true))
   (show WShape.has [] (.bool true) .bool = true by first | rfl | decide | simp [WShape.has, WShape.arms, WShape.armsAll])
   (show (WTm.eq .res (.lit (.bool true))).value [] { args := args, res := some (.bool true), after := args } = some (.bool (true == true)) from w_eq_bool (w_res rfl) w_lit) rfl
theorem attach_call {l : OpenLaw} {n : Nat} {q : Program} {loose : List Str} {XP : (Str -> Option Value) -> Heap -> Prop} {YP : World -> Heap -> Prop} {d : DefRec}
   (hn : l.most = some n) (hdf : d.params.defaults = [])
   (call : ∀ (w : World) (s₀ s₁ : Shared) (mg mb : Str -> Option Value) (fa : Addr) (o : Obj) (pm cd doc : Value) (a : Addr) (vs : List Value) (ns : List Int),
     Ground q loose [] XP w s₀ mg mb s₁.heap -> YP w s₁.heap ->
     s₁.heap.get? fa = some o -> o.data = .func (docDef d.name d.params d.body d.scope pm cd doc) -> s₁.heap.CodeRec cd d.name -> mg d.name = some (.ref fa) ->
     s₁.heap.get? a = some { cls := .type "list", data := .seq vs.toArray } -> IntsAre vs ns -> ns.length <= n -> s₁.gens = #[] ->
     codeAny (model l.prog w) callerA (.call (.ref fa) ⟨[.ref a], []⟩) (fun r s' => r = .ok (.ret (.bool true)) /\ OldK s₁.heap s'.heap /\ s'.os = s₁.os /\ AllBare s'.gens) s₁) :
   WalkO q loose XP YP l.row.toRowW d [] (fun f vs => PySem.call f vs) := by
 intro w s₀ s₁ mg mb G Y fa o pm cd doc dV kV ho hd hcd hD hmg hg args vals as hpre hlay hrd hwl hlo
 obtain rfl : dV = .none := Dflts.none hD hdf
 obtain rfl : kV = .none := Dflts.noKw hD
 obtain ⟨a, vs, ns, rfl, rfl, hobj, hints, hlen⟩ := script_of hn hpre hwl
 refine enter_call (codeAny_mono (call w s₀ s₁ mg mb fa o pm cd doc a vs ns G Y ho (fd_plain hd) hcd hmg hobj hints hlen hg) fun r s' hq => ?_)
 obtain ⟨rfl, h2, h3, h4⟩ := hq
 exact ⟨.inl ⟨.bool true, .bool true, [], rfl, fun _ => rfl, .bool true, post_true l _, fun _ => ⟨List.Pairwise.nil, fun _ hm => (nomatch hm)⟩⟩, h2, h3, h4⟩
section
variable {prog : Program} {w : World} {A : Around} {E : Value -> Shared -> Prop} {s : Shared} {K : Frag}
end
end Att
namespace L2
open PySem PySem.Spec PyProof.Rows
theorem vals_ints : ∀ {vs : List Value} {ns : List Int}, IntsAre vs ns -> Vals (ns.map V.int) vs
 | _, _, .nil => .nil
 | _, _, .cons n t h => .cons ⟨t, rfl⟩ (vals_ints h)
def Only (H : Hp) : Prop := ∀ b, H b = none \/ ∃ o xs, H b = some (.frz o (.lst xs))
theorem law_call {P : Program} {w : World} {K : PySem.W.Frag} {mg mb : Str -> Option Value} {CX : CXT} {k : Nat} {fa a : Addr} {fd : FuncData} {x : Str} {sp : Sp} {s₁ : Shared} {vs : List Value} {ns : List Int}
   (KX : K.In s₁.heap) (hns : s₁.heap.Ns mainGlobals mg) (hb : s₁.heap.Ns builtinsNs mb) (hbb : ∀ x : Str, x ≠ "__name__" -> mb x = bootBuiltins x) (hlim : s₁.heap.NoLimit) (hg : s₁.gens = #[])
   (ha : s₁.heap.get? a = some { cls := .type "list", data := .seq vs.toArray }) (hi : IntsAre vs ns) (hl : ns.length <= sizeLine) (hr : Room k callerA)
   (F : ∀ base : Heap, K.In base -> base.Ns mainGlobals mg -> FnOk P w K mg base CX k fa fd [x] sp) (hbind : ∀ (s : Shared) (u : Value), BindsTo s fd ⟨[u], []⟩ [(x, u)])
   (hsp : ∀ H : Hp, Only H -> SqL K H a (ns.map V.int) -> sp [.ref a] H (fun v _ => v = .bl true) fun _ _ _ => False)
   (hCX : ∀ H e s', CX [] H s₁ (fun _ _ _ => False) e s' -> False) :
   codeAny (model P w) callerA (.call (.ref fa) ⟨[.ref a], []⟩) (fun r s' => r = .ok (.ret (.bool true)) /\ OldK s₁.heap s'.heap /\ s'.os = s₁.os /\ AllBare s'.gens) s₁ := by
 have rv := vals_ints hi
 have lenV := hi.length
 have core : ∀ H : Hp, Only H -> SqL K H a (ns.map V.int) -> HOk P w H s₁.heap -> (∀ b, H b ≠ none -> b = a) -> (H a ≠ none -> K.lookup a = none) ->
     codeAny (model P w) callerA (.call (.ref fa) ⟨[.ref a], []⟩) (fun r s' => r = .ok (.ret (.bool true)) /\ OldK s₁.heap s'.heap /\ s'.os = s₁.os /\ AllBare s'.gens) s₁ := by
   intro H hO hS hok hA hK
   have base_of : ∀ {b : Addr} {o : Obj}, s₁.heap.get? b = some o -> H b = none -> (wW s₁.heap H).get? b = some o := fun e n => hidT_get e n
   have noA : ∀ {b : Addr} {o : Obj} {es : Array DictEntry} {ep : Nat}, s₁.heap.get? b = some o -> o.data = .dict es ep -> H b = none := fun {b o es ep} e d => by
     cases q : H b with
     | none => rfl
     | some u =>
       have e' : b = a := hA b (by rw [q]; simp)
       subst e'
       rw [ha] at e; cases e
       have d' : Data.seq vs.toArray _ = Data.dict es ep := d
       cases d'
   have nsK : ∀ {b : Addr} {m : Str -> Option Value}, s₁.heap.Ns b m -> (wW s₁.heap H).Ns b m := fun {b m} ⟨o, es, ep, e, d, r⟩ => ⟨o, es, ep, base_of e (noA e d), d, r⟩
   have hKb : K.In (wW s₁.heap H) := fun b o e => base_of (KX b o e) (by
     cases q : H b with
     | none => rfl
     | some u =>
       have e' : b = a := hA b (by rw [q]; simp)
       subst e'
       rw [hK (by rw [q]; simp)] at e; cases e)
   have hM : Mod K mg (wW s₁.heap H) := ⟨hKb, nsK hns, ⟨mb, nsK hb, hbb⟩, let ⟨mc, h1, h2⟩ := hlim; ⟨mc, nsK h1, h2⟩⟩
   have e0 : Env0 P w K mg (wW s₁.heap H) callerA [] s₁ H := ⟨rfl, hM, fun b o e => of_hidT e, Nat.le_of_eq (hidT_size _ _), trivial, fun b hb => absurd (show b ∈ ([] : List Addr) from hb) (by simp), hok, .of_eq hg⟩
   refine codeAny_mono ((F _ hKb (nsK hns)).run callerA [] s₁ H ⟨[.ref a], []⟩ [.ref a] [.ref a] _ _ hr e0 (hbind s₁ (.ref a)) (.cons rfl .nil) (hsp H hO hS)) fun r s' h => ?_
   cases r with
   | error e => exact (hCX H e s' h).elim
   | ok fl =>
     cases fl with
     | next => exact False.elim h
     | brk => exact False.elim h
     | cont => exact False.elim h
     | ret u =>
       obtain ⟨v, H', os, bare, un, hok', r', q⟩ := h
       have q' : v = .bl true := q
       subst q'
       obtain rfl : u = Value.bool true := r'
       refine ⟨rfl, OldK.of_keep fun b o e => ?_, os, bare⟩
       cases q : H b with
       | none => exact un.keep b o e q (by intro z; exact absurd (show b ∈ ([] : List Addr) from z) (by simp)) (by simp)
       | some u =>
         rcases hO b with z | ⟨ob, xs, z⟩
         · rw [q] at z; cases z
         · have z2 := un.frzs b ob _ z
           obtain ⟨e1, _⟩ := hok b _ z
           obtain ⟨e2, _⟩ := hok' b _ z2
           rw [e] at e1; cases e1
           exact e2
 cases hk : K.lookup a with
 | some o =>
   have e := KX a o hk
   rw [ha] at e
   cases e
   refine core (fun _ => none) (fun _ => .inl rfl) (.inr ⟨_, vs.toArray, _, hk, rfl, rfl, rfl, by rw [List.size_toArray, lenV]; exact hl, by simpa using rv⟩) (fun b u z => by have z' : (none : Option HO) = some u := z; cases z') (fun b z => absurd rfl z) fun z => absurd rfl z
 | none =>
   refine core (fun b => if b = a then some (.frz { cls := .type "list", data := .seq vs.toArray } (.lst (ns.map V.int))) else none) (fun b => ?_) (.inl (.inr ⟨{ cls := .type "list", data := .seq vs.toArray }, if_pos rfl⟩)) (fun b u z => ?_) (fun b z => ?_) fun _ => hk
   · by_cases hb : b = a
     · exact .inr ⟨_, _, if_pos hb⟩
     · exact .inl (if_neg hb)
   · by_cases hb : b = a
     · have z' := (if_pos hb).symm.trans z
       cases z'
       subst hb
       exact ⟨ha, by rw [List.length_map]; exact hl, vs, _, rv, ha⟩
     · have z' := (if_neg hb).symm.trans z
       cases z'
   · by_cases hb : b = a
     · exact hb
     · exact absurd (if_neg hb) z
theorem walk_of {l : PySem.W.OpenLaw} {n k : Nat} {q : Program} {loose : List Str} {XP : (Str -> Option Value) -> Heap -> Prop} {YP : World -> Heap -> Prop} {d : DefRec} {K : Params -> PySem.W.Frag} {CX : World -> CXT} {sp : World -> Sp} {x : Str}
   (hn : l.most = some n) (hn2 : n <= sizeLine) (hdf : d.params.defaults = []) (hr : Room k callerA)
   (hY : ∀ (w : World) (h : Heap), YP w h -> (K w.params).In h)
   (F : ∀ (w : World) (mg : Str -> Option Value) (fa : Addr) (h : Heap), (K w.params).In h -> h.Ns mainGlobals mg -> mg d.name = some (.ref fa) ->
     ∃ fd : FuncData, (∀ (s : Shared) (u : Value), BindsTo s fd ⟨[u], []⟩ [(x, u)]) /\
       ∀ base : Heap, (K w.params).In base -> base.Ns mainGlobals mg -> FnOk l.prog w (K w.params) mg base (CX w) k fa fd [x] (sp w))
   (hsp : ∀ (w : World) (H : Hp) (a : Addr) (ns : List Int), ns.length <= n -> Only H -> SqL (K w.params) H a (ns.map V.int) -> sp w [.ref a] H (fun v _ => v = .bl true) fun _ _ _ => False)
   (hCX : ∀ (w : World) (H : Hp) (s : Shared) (e : Value) (s' : Shared), CX w [] H s (fun _ _ _ => False) e s' -> False) :
   PySem.W.WalkO q loose XP YP l.row.toRowW d [] (fun f vs => PySem.call f vs) := by
 refine Att.attach_call hn hdf fun w s₀ s₁ mg mb fa o pm cd doc a vs ns G Y ho hd hcd hmg hobj hints hlen hg => ?_
 have KX := hY w _ Y
 obtain ⟨fd, hb, hF⟩ := F w mg fa _ KX G.T.g hmg
 exact law_call KX G.T.g G.T.b G.T.builtins G.T.nolimit hg hobj hints (Nat.le_trans hlen hn2) hr hF hb (fun H hO hS => hsp w H a ns hlen hO hS) fun H e s' => hCX w H s₁ e s'
def qE (s : Stmt) (j : Nat) : Stmt := match s with
 | .ClassDef _ _ _ body _ _ _ _ _ _ _ => body.getD j (.Pass ⟨0, 0, 0, 0⟩)
 | _ => .Pass ⟨0, 0, 0, 0⟩
def zV (s : Stmt) : Arguments := match s with
 | .FunctionDef _ a _ _ _ _ _ _ _ _ => a
 | _ => { posonlyargs := [], args := [], vararg := none, kwonlyargs := [], kw_defaults := [], kwarg := none, defaults := [] }
def zT (s : Stmt) : List Stmt := match s with
 | .FunctionDef _ _ b _ _ _ _ _ _ _ => b
 | _ => []
def zG (s : Stmt) : Scope := match s with
 | .FunctionDef _ _ _ _ _ _ sc _ _ _ => sc
 | _ => { kind := .function, names := [], isGenerator := false, isCoroutine := false }
abbrev CX0 : CXT := fun _ _ _ _ _ _ => False
abbrev E0 : XK := fun _ _ _ => False
theorem pass0 {X : Cx} : jY CX0 X E0 := fun _ _ _ _ _ _ _ h => h.elim
structure Fun (K : PySem.W.Frag) (x qual : Str) (st : Stmt) (f : Addr) (fd : FuncData) : Prop where
 ex : ∃ (oc : Value) (od : Option Addr) (kV doc pm : Value) (an : Option Addr) (cdv ct : Value) (osl : Array (Option Value)),
   fd = PySem.W.fnOf x qual (zV st) (zT st) (zG st) .none kV doc pm an cdv ct /\ K.lookup f = some ⟨oc, od, .func fd, osl⟩ /\ PySem.W.codeIn K cdv qual = true
 kp : PySem.W.keepIn K (.ref f) = true
section
variable {P : Program} {w : World} {K : PySem.W.Frag} {mg : Str -> Option Value} {base : Heap}
theorem Fun.ok {x qual : Str} {st : Stmt} {f : Addr} {fd : FuncData} {N ps : List Str} {k : Nat} {sp : Sp} (F : Fun K x qual st f fd) (S : FnScope N ps (zG st)) (len : ∀ vs H Q E, sp vs H Q E -> vs.length = ps.length)
   (hbody : ∀ (cdv : Value) (A : Around) (outer : List Env) (s : Shared) (H : Hp) (vs : List V) (Q : VK) (E : XK), Room k (A.deeper (envOfC qual (zG st) s.heap.objs.size f cdv)) -> sp vs H Q E ->
     ∃ t, PSs (jB CX0 P w K mg base N qual (zG st) f cdv A outer s H E).nox (zT st) t /\ t { nx := fun _ H' => Q .non H', rt := Q } (start N vs) H) : FnOk P w K mg base CX0 (k + 1) f fd ps sp := by
 obtain ⟨oc, od, kV, doc, pm, an, cdv, ct, osl, rfl, lk, hcd⟩ := F.ex
 refine fn_of lk hcd S len fun A outer s H vs Q E hr hsp => ?_
 obtain ⟨t, h, q⟩ := hbody cdv A outer s H vs Q E hr hsp
 exact ⟨t, h.nox, q⟩
theorem Fun.binds {x qual : Str} {st : Stmt} {f : Addr} {fd : FuncData} {ps : List Str} (F : Fun K x qual st f fd)
   (h : ∀ (kV doc pm : Value) (an : Option Addr) (cdv ct : Value) (us : List Value), us.length = ps.length -> bindArgs (PySem.W.fnOf x qual (zV st) (zT st) (zG st) .none kV doc pm an cdv ct) ⟨us, []⟩ = pure (ps.zip us)) : Binds K fd ps [] := by
 obtain ⟨oc, od, kV, doc, pm, an, cdv, ct, osl, rfl, lk, hcd⟩ := F.ex
 exact .all (h kV doc pm an cdv ct)
theorem zY {x qual : Str} {st : Stmt} {f : Addr} {oc : Value} {od an : Option Addr} {osl : Array (Option Value)} {kV doc pm cdv ct : Value} (l : K.lookup f = some ⟨oc, od, .func (PySem.W.fnOf x qual (zV st) (zT st) (zG st) .none kV doc pm an cdv ct), osl⟩)
   (c : PySem.W.codeIn K cdv qual = true) (k : PySem.W.keepIn K (.ref f) = true) : Fun K x qual st f (PySem.W.fnOf x qual (zV st) (zT st) (zG st) .none kV doc pm an cdv ct) := ⟨⟨oc, od, kV, doc, pm, an, cdv, ct, osl, rfl, l, c⟩, k⟩
end
theorem hu_of {A : Around} {k : Nat} (hr : Room k A) : A.units + 1 < cLine := Nat.lt_of_le_of_lt (Nat.add_le_add_left (by decide : 1 <= 64) _) hr.units
theorem xP {n : Nat} (h : n <= 1000) : n < sizeLine := Nat.lt_of_le_of_lt h (by decide)
section
variable {X : Cx}
theorem pv (i : Nat) {x : Str} {pos : Pos} (hN : X.N[i]? = some x := by rfl) (hv : Vis X.env.scope x := by first | exact Or.inl rfl | exact Or.inr (Or.inl rfl) | exact Or.inr (Or.inr rfl)) (hd : (x == ("__debug__" : Str)) = false := by decide)
   (hcd : (x == ("__classdict__" : Str)) = false := by decide) : PE X (.Name x pos) (tVar i) := pe_var hN hv hd hcd
end
def Same (H H' : Hp) : Prop := ∀ b o, H b = some o -> H' b = some o
theorem Same.refl (H : Hp) : Same H H := fun _ _ h => h
theorem Same.trans {H H1 H2 : Hp} (a : Same H H1) (b : Same H1 H2) : Same H H2 := fun c o h => b c o (a c o h)
theorem Same.free {H H' : Hp} (e : Same H H') {l : Addr} (h : H' l = Option.none) : H l = Option.none := by
 cases q : H l with
 | none => rfl
 | some o =>
   rw [e l o q] at h
   cases h
theorem Same.seq {K : PySem.W.Frag} {H H' : Hp} {a : Addr} {xs : List V} (e : Same H H') (h : SqL K H a xs) : SqL K H' a xs := by
 rcases h with (h | ⟨o, h⟩) | h
 · exact .inl (.inl (e _ _ h))
 · exact .inl (.inr ⟨o, e _ _ h⟩)
 · exact .inr h
section
variable {X : Cx}
end
section
variable {κ : Type} [DecidableEq κ]
end
def yQ (env : Env) : List (Str × NameKind) -> List (Str × Addr) -> List (Str × Addr)
 | [], cs => cs
 | (n, k) :: r, cs => if (k == NameKind.free) = true then yQ env r ((n, (env.cells.lookup n).getD 0) :: cs) else yQ env r cs
theorem xW {scope : Scope} {env : Env} (h : ∀ x ∈ scope.names, x.2 = .free -> ∃ c, env.cells.lookup x.1 = some c) : closureFor scope env = pure (yQ env scope.names []) := by
 unfold closureFor
 have go : ∀ (l : List (Str × NameKind)) (cs : List (Str × Addr)), (∀ x ∈ l, x.2 = .free -> ∃ c, env.cells.lookup x.1 = some c) ->
     (forIn l cs fun (x : Str × NameKind) (r : List (Str × Addr)) => (match x with
       | (name, kind) => if (kind == NameKind.free) = true then do let a ← cellOf env name; pure (ForInStep.yield ((name, a) :: r)) else pure (ForInStep.yield r) : Sem (ForInStep (List (Str × Addr))))) = (pure (yQ env l cs) : Sem (List (Str × Addr))) := by
   intro l
   induction l with
   | nil => intro cs _; rfl
   | cons x r ih =>
     intro cs hl
     obtain ⟨n, k⟩ := x
     rw [List.forIn_cons]
     by_cases hk : (k == NameKind.free) = true
     · obtain ⟨c, hc⟩ := hl (n, k) List.mem_cons_self (by simpa using hk)
       have e : cellOf env n = pure c := by unfold cellOf; rw [hc]
       simp only [hk, if_true, e, pure_bind]
       rw [ih _ fun y hy => hl y (List.mem_cons_of_mem _ hy)]
       rw [yQ, if_pos hk, hc]
       rfl
     · simp only [hk, if_false, Bool.false_eq_true, pure_bind]
       rw [ih _ fun y hy => hl y (List.mem_cons_of_mem _ hy)]
       rw [yQ, if_neg hk]
 have q := go scope.names [] h
 simp only [pure_bind, bind_pure] at q ⊢
 exact q
theorem xN {env : Env} {y : Str} {c : Addr} : ∀ (l : List (Str × NameKind)) (cs : List (Str × Addr)), (∀ x ∈ l, x.2 = .free -> ∃ c, env.cells.lookup x.1 = some c) ->
   (∀ z d, cs.lookup z = some d -> env.cells.lookup z = some d) -> (yQ env l cs).lookup y = some c -> env.cells.lookup y = some c
 | [], cs, _, hc, e => hc _ _ e
 | (n, k) :: r, cs, h, hc, e => by
   have hr : ∀ x ∈ r, x.2 = .free -> ∃ c, env.cells.lookup x.1 = some c := fun x hx => h x (List.mem_cons_of_mem _ hx)
   by_cases hk : (k == NameKind.free) = true
   · rw [yQ, if_pos hk] at e
     refine xN r _ hr (fun z d ez => ?_) e
     obtain ⟨c', hc'⟩ := h (n, k) List.mem_cons_self (by simpa using hk)
     rw [List.lookup_cons] at ez
     cases hz : z == n with
     | true =>
       rw [hz] at ez
       have hz' : z = n := eq_of_beq hz
       subst hz'
       have e2 : (env.cells.lookup z).getD 0 = d := Option.some.inj ez
       have hc'' : env.cells.lookup z = some c' := hc'
       rw [hc''] at e2 ⊢
       exact congrArg some e2
     | false => rw [hz] at ez; exact hc z d ez
   · rw [yQ, if_neg hk] at e
     exact xN r cs hr hc e
theorem xR {env : Env} {y : Str} : ∀ (l : List (Str × NameKind)) (cs : List (Str × Addr)), ((y, NameKind.free) ∈ l \/ ∃ c, cs.lookup y = some c) -> ∃ c, (yQ env l cs).lookup y = some c
 | [], cs, h => h.elim (fun z => nomatch z) fun z => z
 | (n, k) :: r, cs, h => by
   by_cases hk : (k == NameKind.free) = true
   · rw [yQ, if_pos hk]
     refine xR r _ ?_
     rcases h with h | ⟨c, h⟩
     · rcases List.mem_cons.mp h with h | h
       · cases h
         exact .inr ⟨_, by rw [List.lookup_cons, beq_self_eq_true]⟩
       · exact .inl h
     · cases hz : y == n with
       | true => exact .inr ⟨_, by rw [List.lookup_cons, hz]⟩
       | false => exact .inr ⟨c, by rw [List.lookup_cons, hz]; exact h⟩
   · rw [yQ, if_neg hk]
     refine xR r _ ?_
     rcases h with h | h
     · rcases List.mem_cons.mp h with h | h
       · cases h
         exact absurd rfl hk
       · exact .inl h
     · exact .inr h
theorem yR {env : Env} : ∀ {names : List (Str × NameKind)} {x : Str} {k' : NameKind},
   (names.map fun (n, k) => if (k == NameKind.free && env.scope.kind == .function && env.kindOf n == some .cell) then (n, NameKind.cell) else (n, k)).lookup x = some k' ->
   names.lookup x = some k' \/ (names.lookup x = some .free /\ k' = .cell)
 | [], _, _, h => by simp at h
 | (n, k) :: r, x, k', h => by
   have ih := @yR env r x k'
   have h : List.lookup x ((if (k == NameKind.free && env.scope.kind == .function && env.kindOf n == some .cell) = true then (n, NameKind.cell) else (n, k)) :: _) = some k' := h
   rw [List.lookup_cons]
   by_cases hc : (k == NameKind.free && env.scope.kind == .function && env.kindOf n == some .cell) = true
   · rw [if_pos hc, List.lookup_cons] at h
     cases hx : x == n with
     | true =>
       rw [hx] at h
       have e1 : NameKind.cell = k' := Option.some.inj h
       simp only [Bool.and_eq_true] at hc
       exact .inr ⟨congrArg some (eq_of_beq hc.1.1), e1.symm⟩
     | false => rw [hx] at h; exact ih h
   · rw [if_neg hc, List.lookup_cons] at h
     cases hx : x == n with
     | true => rw [hx] at h; exact .inl h
     | false => rw [hx] at h; exact ih h
theorem jE {env : Env} : ∀ {names : List (Str × NameKind)} {x : Str}, names.lookup x = some .free ->
   (names.map fun (n, k) => if (k == NameKind.free && env.scope.kind == .function && env.kindOf n == some .cell) then (n, NameKind.cell) else (n, k)).lookup x = some .cell \/
   (names.map fun (n, k) => if (k == NameKind.free && env.scope.kind == .function && env.kindOf n == some .cell) then (n, NameKind.cell) else (n, k)).lookup x = some .free
 | [], _, h => by simp at h
 | (n, k) :: r, x, h => by
   have ih := @jE env r x
   show List.lookup x ((if (k == NameKind.free && env.scope.kind == .function && env.kindOf n == some .cell) = true then (n, NameKind.cell) else (n, k)) :: _) = _ \/ List.lookup x ((if (k == NameKind.free && env.scope.kind == .function && env.kindOf n == some .cell) = true then (n, NameKind.cell) else (n, k)) :: _) = _
   rw [List.lookup_cons] at h
   by_cases hc : (k == NameKind.free && env.scope.kind == .function && env.kindOf n == some .cell) = true
   · rw [if_pos hc, List.lookup_cons]
     cases hx : x == n with
     | true => exact .inl rfl
     | false => rw [hx] at h; exact ih h
   · rw [if_neg hc, List.lookup_cons]
     cases hx : x == n with
     | true => rw [hx] at h; exact .inr h
     | false => rw [hx] at h; exact ih h
structure LcScope (xs ys : List Str) (scope around : Scope) : Prop where
 kind : scope.kind = .function
 nd : (xs ++ ys).Nodup
 own : ∀ x ∈ xs, scope.names.lookup x = some .local
 cap : ∀ y ∈ ys, scope.names.lookup y = some .free /\ (around.names.lookup y = some .cell \/ around.names.lookup y = some .free)
 nocell : ∀ y ∈ scope.names, y.2 ≠ .cell
 names : ∀ y ∈ scope.names, y.2 = .local -> scope.names.lookup y.1 = some .local
 free : ∀ y ∈ scope.names, y.2 = .free -> y.1 ∈ ys
def yE (X : Cx) (xs ys : List Str) (scope : Scope) (C : Addr) (s₀ : Shared) (H₀ : Hp) (fp : List Addr) : Cx where
 prog := X.prog
 w := X.w
 K := X.K
 mg := X.mg
 base := X.base
 A := X.A
 N := xs ++ ys
 s₀ := s₀
 H₀ := H₀
 env := compEnvC scope (yQ X.env scope.names []) C X.env
 outer := X.stack
 stack := X.stack
 ex := fp
 fn := fun _ => false
 calm := X.calm
 pn := []
 xe := fun _ _ => False
def uW (xs : List Str) (js : List Nat) (σ : St) : St := xs.map (fun _ => none) ++ js.map fun j => (σ[j]?).join
def LcW (J : It) (n : List Str) (js : List Nat) (g : TG) (tc : Option TT) (te : TE) (σ : St) (H1 : Hp) (Q : VK) : Prop := ∃ W : Nat -> Nat -> List V -> St -> Hp -> Prop, (∃ m, W 0 m [] (uW n js σ) H1) /\ ∀ i m ys σ1 H, W i m ys σ1 H ->
 (J.stop i H /\ ∀ p, H p = none -> Q (.ref p) (upd H p (.lst ys))) \/
 (J.go i H /\ ys.length < sizeLine /\ ∀ x H', J.yld i H x H' -> g x σ1 H' fun σ2 H2 => match tc with
   | none => te σ2 H2 fun y H3 => ∃ m', m' < m /\ W (i + 1) m' (ys ++ [y]) σ2 H3
   | some c => c σ2 H2 fun b H3 => if b = true then te σ2 H3 fun y H4 => ∃ m', m' < m /\ W (i + 1) m' (ys ++ [y]) σ2 H4 else ∃ m', m' < m /\ W (i + 1) m' ys σ2 H3)
def tLC (n : List Str) (js : List Nat) (wi : TI) (g : TG) (tc : Option TT) (te : TE) : TE := fun σ H Q => wi σ H fun J H1 => LcW J n js g tc te σ H1 Q
def PIf (X : Cx) (ifs : List Expr) (tc : Option TT) : Prop := match ifs, tc with
 | [], none => True
 | [c], some t => PT X c t
 | _, _ => False
section
variable {X : Cx} {pins : List (Addr × Obj)} {σ : St} {H : Hp} {s : Shared} {xs ys : List Str} {scope : Scope} {fp : List Addr} {C D : Addr} {js : List Nat}
def Caps (X : Cx) (ys : List Str) (js : List Nat) : Prop := js.length = ys.length /\ ∀ (i : Nat) (y : Str) (j : Nat), ys[i]? = some y -> js[i]? = some j -> X.N[j]? = some y
theorem kC (I : Inv X pins σ H s) (S : LcScope xs ys scope X.env.scope) : ∀ x ∈ scope.names, x.2 = .free -> ∃ c, X.env.cells.lookup x.1 = some c := fun x hx hf =>
 I.ok.has x.1 ((S.cap x.1 (S.free x hx hf)).2.elim .inl .inr)
theorem clos_look (I : Inv X pins σ H s) (S : LcScope xs ys scope X.env.scope) {y : Str} {c : Addr} (e : (yQ X.env scope.names []).lookup y = some c) : X.env.cells.lookup y = some c :=
 xN scope.names [] (kC I S) (fun _ _ z => nomatch z) e
theorem block_start (I : Inv X pins σ H s) (S : LcScope xs ys scope X.env.scope) (hj : Caps X ys js) (f2 : ∀ b ∈ fp, vH X pins H b) (fo : ∀ b ∈ fp, b < s.heap.objs.size)
   {h₁ : Heap} {m : Str -> Option Value} {tk : Nat} {oD : Obj} (hC : s.heap.objs.size <= C) (hD : s.heap.objs.size <= D) (hDC : D ≠ C) (hn : h₁.Ns C m) (hd : h₁.get? D = some oD) (hdd : ∀ v, oD.data ≠ .cell v)
   (old : ∀ b o, s.heap.get? b = some o -> h₁.get? b = some o) :
   Inv (yE X xs ys scope C s H fp) [(D, oD)] (uW xs js σ) H { s with heap := h₁, toks := tk } := by
 have cl := fun y c => clos_look (y := y) (c := c) I S
 have nC : H C = none := I.hok.fresh hC
 have nD : H D = none := I.hok.fresh hD
 have lt_of : ∀ {b : Addr}, b < s.heap.objs.size -> b ≠ C := fun hb => Nat.ne_of_lt (Nat.lt_of_lt_of_le hb hC)
 have fsub : ∀ b, b ∈ frs X.stack -> b ∈ X.env.locals :: X.fs := I.stkSub
 refine ⟨⟨I.ok.mod, ?_, I.ok.glob, I.ok.blt, hC, fun x y c h1 h2 => I.ok.inj x y c (cl x c h1) (cl y c h2), fun x hx => ?_, (fun x c h => nomatch h), I.ok.hd, I.ok.frames, .inl rfl, fun b hb => ⟨lt_of (fo b hb), fun x c h => (f2 b hb).2.2.2.2.1 x c (cl x c h)⟩, I.bs,
   Nat.le_trans I.ok.bsz I.sz, fun b o e hb => ?_, fun b hb hf => ?_, I.stack, I.stkFree⟩,
   rfl, I.bare, Un.kept old, ⟨m, hn, fun i x v e1 e2 e3 => ?_⟩, fun x c h => ?_, nC, fun x c h => I.freeC x c (cl x c h), fun p hp => ?_, I.hok.kept old, ?_⟩
 · show scope.kind = _
   exact S.kind
 · have hx : (relabel scope X.env).names.lookup x = some .cell \/ (relabel scope X.env).names.lookup x = some .free := hx
   have hm : (x, NameKind.free) ∈ scope.names := by
     rcases hx with hx | hx
     · rcases yR hx with z | z
       · exact absurd rfl (S.nocell _ (PySem.mem_of_lookup z))
       · exact PySem.mem_of_lookup z.1
     · rcases yR hx with z | z
       · exact PySem.mem_of_lookup z
       · exact nomatch z.2
   exact xR scope.names [] (.inl hm)
 · rcases (f2 b hb).2.2.2.1 with z | z
   · exact I.ok.noex b o e z
   · exact absurd (Nat.lt_of_lt_of_le (Heap.lt_size e) (Nat.le_trans I.ok.bsz z)) (Nat.lt_irrefl _)
 · rcases List.mem_cons.mp (fsub b hf) with z | z
   · exact (f2 b hb).2.1 z
   · exact (f2 b hb).2.2.1 z
 · have e1 : (xs ++ ys)[i]? = some x := e1
   have e2 : (xs.map (fun _ => (none : Option V)) ++ js.map fun j => (σ[j]?).join)[i]? = some (some v) := e2
   by_cases hi : i < xs.length
   · rw [List.getElem?_append_left (by simpa using hi), List.getElem?_map] at e2
     cases q : xs[i]? with
     | none => rw [q] at e2; cases e2
     | some z => rw [q] at e2; cases e2
   · rw [List.getElem?_append_right (by simpa using hi), List.length_map, List.getElem?_map] at e2
     rw [List.getElem?_append_right (by simpa using hi)] at e1
     cases q : js[i - xs.length]? with
     | none => rw [q] at e2; cases e2
     | some j =>
       rw [q] at e2
       have e2' : (σ[j]?).join = some v := Option.some.inj e2
       have hy := hj.2 _ _ _ e1 q
       have hσ : σ[j]? = some (some v) := by
         cases z : σ[j]? with
         | none => rw [z] at e2'; cases e2'
         | some t => rw [z] at e2'; exact congrArg some e2'
       have ym : x ∈ ys := List.mem_of_getElem? e1
       obtain ⟨cf, ca⟩ := S.cap x ym
       obtain ⟨m0, _, hl⟩ := I.loc
       obtain ⟨u, ru, lk⟩ := hl j x v hy hσ (ca.elim (fun z => .inr (.inl z)) fun z => .inr (.inr z))
       refine ⟨u, ru, .inr ⟨?_, ?_⟩⟩
       · exact jE (env := X.env) cf
       · rcases lk with ⟨k, _⟩ | ⟨_, c, ec, zc⟩
         · have k : X.env.scope.names.lookup x = some .local := k
           rcases ca with z | z <;> · rw [k] at z; cases z
         · obtain ⟨c', ec'⟩ := xR (env := X.env) (y := x) scope.names [] (.inl (PySem.mem_of_lookup cf))
           have e3 := cl x c' ec'
           rw [ec] at e3
           cases e3
           obtain ⟨o, ho, hod⟩ := zc
           exact ⟨_, ec', o, old _ _ ho, hod⟩
 · obtain ⟨v, o, ho, hod⟩ := I.cell x c (cl x c h)
   exact ⟨v, o, old _ _ ho, hod⟩
 · have hp : p ∈ [(D, oD)] := by simpa [yE] using hp
   have e := List.mem_singleton.mp hp
   subst e
   refine ⟨hd, nD, hDC, fun hf => ?_, hdd⟩
   have hf : D ∈ frs X.stack := hf
   obtain ⟨o, ho⟩ : ∃ o, s.heap.get? D = some o := by
     rcases List.mem_cons.mp (fsub D hf) with z | z
     · obtain ⟨m0, ⟨o, _, _, ho, _⟩, _⟩ := I.loc
       have z : D = X.env.locals := z
       exact ⟨o, z ▸ ho⟩
     · exact absurd z (I.nofs hD)
   exact absurd (Heap.lt_size ho) (Nat.not_lt.mpr hD)
 · show (xs.map (fun _ => (none : Option V)) ++ js.map fun j => (σ[j]?).join).length = (xs ++ ys).length
   rw [List.length_append, List.length_append, List.length_map, List.length_map, hj.1]
end
section
variable {X : Cx} {pins : List (Addr × Obj)} {σ : St} {H : Hp} {s : Shared} {xs ys : List Str} {scope : Scope} {js : List Nat} {tg iter elt : Expr} {ifs : List Expr} {pos : Pos} {wi : TI} {g : TG} {tc : Option TT} {te : TE}
theorem vI {α : Type} {M : Model} {A : Around} {t : Sem α} {Q : α -> Shared -> Prop} {E : Value -> Shared -> Prop} {s : Shared} (h : wpAny M A t Q (fun _ _ => False) s) : wpAny M A t Q E s := wpAny_mono h (fun _ _ x => x) fun _ _ z => z.elim
theorem wY {prog : Program} {w : World} {A : Around} {R : Result -> Shared -> Prop} {it acc : Value} {env : Env} (J : Nat -> Shared -> Prop)
   (turn : ∀ n s, J n s -> wpAny (model prog w) A (pyNext it) (fun r s₁ => match r with
     | none => R (.ok .next) s₁
     | some v => wpAny (model prog w) A (letOwnedTupleGo tg it v) (fun _ s₁' => wpAny (model prog w) A (assign tg env v) (fun _ s₂ =>
         wpAny (model prog w) A (forIn ifs true fun c r => if r = true then do let ok ← isTrue c env (eval c env); pure (ForInStep.yield ok) else pure (ForInStep.yield r)) (fun ok s₃ =>
           if ok = true then wpAny (model prog w) A (eval elt env) (fun x s₄ =>
             wpAny (model prog w) A (call (.builtin "list.append") [acc, x]) (fun _ s₅ => ∃ m, m < n /\ J m s₅) (fun _ _ => False) s₄) (fun _ _ => False) s₃
           else ∃ m, m < n /\ J m s₃) (fun _ _ => False) s₂) (fun _ _ => False) s₁') (fun _ _ => False) s₁) (fun _ _ => False) s)
   (n : Nat) (h : J n s) : codeAny (model prog w) A (.compLoop (.ListComp elt [⟨tg, iter, ifs, 0⟩] scope pos) 0 it acc env) R s := by
 refine codeAny_loop rfl J (fun n s hI => ?_) n h
 show wpAny _ A ((compTurn (.ListComp elt [⟨tg, iter, ifs, 0⟩] scope pos) 0 it acc env).onRaise (fun x => do noteFrame x env; theTreesLotGoes x)) _ _ s
 refine wpAny_noted ?_
 rw [compTurn_list]
 refine wpAny_bind (wpAny_standAt (wpAny_bind (vI (thn (turn n s hI) fun r s₁ h₁ => ?_))))
 cases r with
 | none => exact wpAny_pure h₁
 | some v =>
   refine wpAny_bind (vI (thn h₁ fun _ s₁' h₁' => wpAny_bind (vI (thn h₁' fun _ s₂ h₂ => wpAny_bind (vI (thn h₂ fun ok s₃ h₃ => ?_))))))
   cases ok with
   | false => exact wpAny_pure ⟨rfl, h₃⟩
   | true => exact wpAny_bind (wpAny_bind (vI (thn h₃ fun x s₄ h₄ => wpAny_bind (vI (thn h₄ fun _ s₅ h₅ => wpAny_pure (wpAny_pure ⟨rfl, h₅⟩))))))
structure LcEnd (X : Cx) (pins : List (Addr × Obj)) (σ : St) (C : Addr) (H' : Hp) (s' : Shared) : Prop where
 inv : Inv X pins σ H' s'
 ns : ∃ m, s'.heap.Ns C m
 free : H' C = none
 ne : C ≠ X.env.locals
 up : X.s₀.heap.objs.size <= C
 cells : ∀ x c, X.env.cells.lookup x = some c -> c ≠ C
 pin : ∀ p ∈ X.pn ++ pins, p.1 ≠ C
theorem LcEnd.gone {C : Addr} {H' : Hp} {s' : Shared} (L : LcEnd X pins σ C H' s') {h' : Heap} (hs : Heap.SameBut C s'.heap h') : Inv X pins σ H' { s' with heap := h' } :=
 L.inv.turned (t' := s'.toks) (fun b o hb e => hs.extBut b o hb e) L.free L.ne (.inr L.up) L.cells L.pin
theorem lc_tail {B : Cx} {cl : List (Str × Addr)} {tk : Nat} {G h₁ : Heap} {s2 : Shared} {H2 : Hp} {fp : List Addr} {it : Addr} {tn : Nat -> Heap -> Prop} {J : It} {W : Nat -> Nat -> List V -> St -> Hp -> Prop} {m0 : Nat}
   {RR : Value -> Addr -> Result -> Shared -> Prop} {Q : VK} (I2 : Inv X pins σ H2 s2) (T : Turn X.prog X.w X.K tg J fp it tn) (f2 : ∀ b ∈ fp, vH X pins H2 b) (w0 : W 0 m0 [] (uW xs js σ) H2)
   (turn : ∀ i m ys σ1 H, W i m ys σ1 H -> (J.stop i H /\ ∀ p, H p = none -> Q (.ref p) (upd H p (.lst ys))) \/ (J.go i H /\ ys.length < sizeLine /\ ∀ x H', J.yld i H x H' -> g x σ1 H' fun σ2 H2 => match tc with
     | none => te σ2 H2 fun y H3 => ∃ m', m' < m /\ W (i + 1) m' (ys ++ [y]) σ2 H3
     | some c => c σ2 H2 fun b H3 => if b = true then te σ2 H3 fun y H4 => ∃ m', m' < m /\ W (i + 1) m' (ys ++ [y]) σ2 H4 else ∃ m', m' < m /\ W (i + 1) m' ys σ2 H3))
   (fin : ∀ D C H' s', LcEnd X pins σ C H' s' -> Q (.ref D) H' -> RR (.ref D) C (.ok .next) s')
   (fo : ∀ b ∈ fp, b < s2.heap.objs.size) (hC : G.objs.size = s2.heap.objs.size + 1) (hDC : s2.heap.objs.size ≠ G.objs.size) (hCle : s2.heap.objs.size <= G.objs.size)
   (below : ∀ b, b < s2.heap.objs.size -> b ≠ G.objs.size /\ b ≠ s2.heap.objs.size) (st₁ : tn 0 h₁)
   (I3 : Inv B [(s2.heap.objs.size, LCg.lst [])] (uW xs js σ) H2 { s2 with heap := h₁, toks := tk })
   (pB : B.prog = X.prog) (wB : B.w = X.w) (kB : B.K = X.K) (aB : B.A = X.A) (eB : B.env = compEnvC scope cl G.objs.size X.env) (cB : B.calm = true) (xB : B.xe = fun _ _ => False) (gB : PG B tg g) (iB : PIf B ifs tc) (elB : PE B elt te)
   (sB : B.s₀ = s2) (hB : B.H₀ = H2) (fB : B.fs = frs X.stack) (exB : B.ex = fp) (pnB : B.pn = []) :
   codeAny (model X.prog X.w) X.A (.compStart (.ListComp elt [⟨tg, iter, ifs, 0⟩] scope pos) 0 (.ref it) (.ref s2.heap.objs.size) (compEnvC scope cl G.objs.size X.env)) (RR (.ref s2.heap.objs.size) G.objs.size) { s2 with heap := h₁, toks := tk } := by
 have statB : ∀ {H' : Hp} {oD : Obj} {σ' : St} {s' : Shared}, Inv B [(s2.heap.objs.size, oD)] σ' H' s' -> (∀ b ∈ fp, H' b = none) -> ∀ b ∈ fp, vH B [(s2.heap.objs.size, oD)] H' b := fun {H' oD σ' s'} I' hn b hb =>
   ⟨hn b hb, (I'.ok.exf b (exB ▸ hb)).1, I'.ok.exfs b (exB ▸ hb), .inl (exB ▸ hb), (I'.ok.exf b (exB ▸ hb)).2, fun p hp => by
     rw [pnB] at hp
     have e := List.mem_singleton.mp (show p ∈ [(s2.heap.objs.size, oD)] from hp)
     subst e
     exact Nat.ne_of_gt (fo b hb)⟩
 have loop : ∀ s₃ : Shared, s₃ = { s2 with heap := h₁, toks := tk } ->
     codeAny (model X.prog X.w) X.A (.compLoop (.ListComp elt [⟨tg, iter, ifs, 0⟩] scope pos) 0 (.ref it) (.ref s2.heap.objs.size) (compEnvC scope cl G.objs.size X.env)) (RR (.ref s2.heap.objs.size) G.objs.size) s₃ := by
   rintro s₃ rfl
   refine wY (fun n s' => ∃ i ys its σ1 H', Inv B [(s2.heap.objs.size, LCg.lst its)] σ1 H' s' /\ Vals ys its /\ tn i s'.heap /\ (∀ b ∈ fp, H' b = none) /\ ys.length <= sizeLine /\ W i n ys σ1 H') ?_ m0
     ⟨0, [], [], _, H2, I3, .nil, st₁, fun b hb => (f2 b hb).1, Nat.zero_le _, w0⟩
   rintro n s' ⟨i, ys', its, σ1, H', I', rv, st', fr', hz, w'⟩
   have rl := rv.length
   rcases turn i n ys' σ1 H' w' with ⟨stop, qn⟩ | ⟨go, hz', step⟩
   · have q := T.done B pB wB kB cB i _ s' σ1 H' (fun _ _ => False) I' (statB I' fr') st' stop
     rw [aB] at q
     refine thn q fun r s4 ⟨hr, I4⟩ => ?_
     subst hr
     have pD := (I4.pin (s2.heap.objs.size, LCg.lst its) (List.mem_append_right _ List.mem_cons_self))
     have hDn : H' s2.heap.objs.size = none := pD.2.1
     have ub := I4.base
     rw [fB, exB, hB, sB] at ub
     have neD : ∀ {b : Addr} {o : HO}, H' b = some o -> b ≠ s2.heap.objs.size := fun e z => by rw [z, hDn] at e; cases e
     have upk : ∀ {b : Addr} {o : HO}, H' b = some o -> upd H' s2.heap.objs.size (.lst ys') b = some o := fun e => by rw [zQ (neD e)]; exact e
     have u : Un (frs X.stack) fp H2 (upd H' s2.heap.objs.size (.lst ys')) s2.heap s4.heap :=
       ⟨ub.keep, ub.slot, fun b o e n hx => by rw [zQ (below b (Heap.lt_size e)).2]; exact ub.free b o e n hx, ub.there, fun b zs e => upk (ub.tups b zs e), fun b o zs e => upk (ub.frzs b o zs e), fun b ps e => let ⟨more, q⟩ := ub.tbls b ps e; ⟨more, upk q⟩⟩
     have hok4 : HOk X.prog X.w H' s4.heap := by have := I4.hok; rw [pB, wB] at this; exact this
     have hok : HOk X.prog X.w (upd H' s2.heap.objs.size (.lst ys')) s4.heap := fun b o e => by
       by_cases hb : b = s2.heap.objs.size
       · subst hb
         rw [zB] at e
         cases e
         exact ⟨hz, its, its.length, rv, pD.1⟩
       · rw [zQ hb] at e
         exact (hok4 b o e).stay (fun _ _ _ q => q) (fun _ q => upk q) fun _ _ q => upk q
     have I5 : Inv X pins σ (upd H' s2.heap.objs.size (.lst ys')) s4 := I2.call' (ch := fp) (by rw [I4.os, sB]) u hok I4.bare fun b hb => let f := f2 b hb; ⟨f.2.2.2.1, f.2.1, f.2.2.2.2.1, f.2.2.2.2.2⟩
     refine fin s2.heap.objs.size G.objs.size _ s4 ⟨I5, ?_, ?_, ?_, Nat.le_trans I2.sz hCle, fun x c e z => ?_, fun p hp z => ?_⟩ (qn _ hDn)
     · obtain ⟨m, hn, _⟩ := I4.loc
       rw [eB] at hn
       exact ⟨m, hn⟩
     · have fr := I4.free
       rw [eB] at fr
       rw [zQ (Ne.symm hDC)]
       exact fr
     · exact Ne.symm (below _ I2.lt).1
     · obtain ⟨_, o, ho, _⟩ := I2.cell x c e
       exact (below c (Heap.lt_size ho)).1 z
     · exact (below p.1 (Heap.lt_size (I2.pin p hp).1)).1 z
   · have q := T.item B pB wB kB cB i _ s' σ1 H' (fun _ _ => False) I' (statB I' fr') st' go
     rw [aB] at q
     refine thn q fun r s4 ⟨u, hr, h4⟩ => ?_
     subst hr
     refine thn h4 fun _ s5 ⟨x, H5, I5, r5, y5, st5, fr5⟩ => ?_
     have I5' := I5.pinned (statB I5 fr5) (T.obj _ _ st5)
     have q5 := gB _ s5 σ1 H5 x u _ I5' r5 (step x H5 y5)
     rw [pB, wB, aB, eB, xB] at q5
     refine thn q5 fun _ s6 ⟨σ6, H6, I6, q6⟩ => ?_
     have last : ∀ {s7 : Shared} {H7 : Hp}, Inv B ([(s2.heap.objs.size, LCg.lst its)] ++ xV fp s5.heap) σ6 H7 s7 -> (te σ6 H7 fun y H8 => ∃ m', m' < n /\ W (i + 1) m' (ys' ++ [y]) σ6 H8) ->
         wpAny (model X.prog X.w) X.A (eval elt (compEnvC scope cl G.objs.size X.env)) (fun x s₄ =>
             wpAny (model X.prog X.w) X.A (call (.builtin "list.append") [.ref s2.heap.objs.size, x]) (fun _ s₅ => ∃ m, m < n /\
               ∃ i ys its σ1 H', Inv B [(s2.heap.objs.size, LCg.lst its)] σ1 H' s₅ /\ Vals ys its /\ tn i s₅.heap /\ (∀ b ∈ fp, H' b = none) /\ ys.length <= sizeLine /\ W i m ys σ1 H') (fun _ _ => False) s₄) (fun _ _ => False) s7 := fun {s7 H7} I7 q7 => by
       have q8 := elB _ s7 σ6 H7 _ I7 q7
       rw [pB, wB, aB, eB, xB] at q8
       refine thn q8 fun uy s8 ⟨y, H8, I8, r8, m', hm', w8⟩ => ?_
       have pD := (I8.pin (s2.heap.objs.size, LCg.lst its) (List.mem_append_right _ (List.mem_append_left _ List.mem_cons_self)))
       refine append_at (its := its.toArray) (n := its.length) pD.1 (fun h9 hs9 hd9 => ?_) (by rw [List.size_toArray, ← rl]; exact hz)
       have dropped : Inv B (xV fp s5.heap) σ6 H8 s8 := I8.pins_of fun p hp => I8.pin p (List.mem_append_right _ (List.mem_append_right _ hp))
       have apart : ∀ p ∈ B.pn ++ xV fp s5.heap, p.1 ≠ s2.heap.objs.size := fun p hp => by
         rw [pnB] at hp
         exact Nat.ne_of_lt (fo _ (vN (show p ∈ xV fp s5.heap from hp)).1)
       have I9 : Inv B (xV fp s5.heap) σ6 H8 { s8 with heap := h9 } := dropped.turned (t' := s8.toks) (fun b o hb e => hs9.extBut b o hb e) pD.2.1 pD.2.2.1 (.inr (by rw [sB]; exact Nat.le_refl _)) (fun x c e => by
         intro z
         obtain ⟨v, o, ho, hd⟩ := I8.cell x c e
         rw [z, pD.1] at ho
         cases ho
         cases hd) apart
       have I9' : Inv B [(s2.heap.objs.size, LCg.lst (its ++ [uy]))] σ6 H8 { s8 with heap := h9 } := I9.pins_of fun p hp => by
         have e := List.mem_singleton.mp hp
         subst e
         exact ⟨hd9.trans (congrArg some (LCg.lst_snoc its uy)), pD.2.1, pD.2.2.1, pD.2.2.2.1, by intro v hv; cases hv⟩
       refine ⟨m', hm', i + 1, ys' ++ [y], its ++ [uy], σ6, H8, I9', Vals.append rv (.cons r8 .nil), T.keep _ _ _ st5 fun b hb o e => ?_, fun b hb => ?_, by rw [List.length_append]; exact hz', w8⟩
       · exact (I9.pin (b, o) (List.mem_append_right _ (xE hb e))).1
       · obtain ⟨o, e, d⟩ := T.obj _ _ st5 b hb
         exact (I9.pin (b, o) (List.mem_append_right _ (xE hb e))).2.1
     have again : ∀ {s7 : Shared} {H7 : Hp}, Inv B ([(s2.heap.objs.size, LCg.lst its)] ++ xV fp s5.heap) σ6 H7 s7 -> (∃ m', m' < n /\ W (i + 1) m' ys' σ6 H7) -> ∃ m, m < n /\
         ∃ i ys its σ1 H', Inv B [(s2.heap.objs.size, LCg.lst its)] σ1 H' s7 /\ Vals ys its /\ tn i s7.heap /\ (∀ b ∈ fp, H' b = none) /\ ys.length <= sizeLine /\ W i m ys σ1 H' := fun {s7 H7} I7 ⟨m', hm', w7⟩ => by
       refine ⟨m', hm', i + 1, ys', its, σ6, H7, I7.unpinned, rv, T.keep _ _ _ st5 fun b hb o e => (I7.pin (b, o) (List.mem_append_right _ (List.mem_append_right _ (xE hb e)))).1, fun b hb => ?_, hz, w7⟩
       obtain ⟨o, e, d⟩ := T.obj _ _ st5 b hb
       exact (I7.pin (b, o) (List.mem_append_right _ (List.mem_append_right _ (xE hb e)))).2.1
     match ifs, tc, iB, q6 with
     | [], none, _, q6 =>
       refine wpAny_tests_nil ?_
       rw [if_pos rfl]
       exact last I6 q6
     | [c], some t, iB, q6 =>
       have iB : PT B c t := iB
       have q7 := iB _ s6 σ6 H6 _ I6 q6
       rw [pB, wB, aB, eB, xB] at q7
       refine wpAny_tests_one (thn q7 fun b s7 ⟨H7, I7, q7⟩ => ?_)
       cases b with
       | true => rw [if_pos rfl] at q7 ⊢; exact last I7 q7
       | false => rw [if_neg Bool.false_ne_true] at q7 ⊢; exact again I7 q7
 exact codeAny_compStart_list (loop _ rfl) (T.self _ 0 _ _ _ st₁ (loop _ rfl))
theorem lc_core (hc : X.calm = true) (S : LcScope xs ys scope X.env.scope) (hj : Caps X ys js) (hi : PI X tg iter wi)
   (hg : ∀ C s₀ H₀ fp, PG (yE X xs ys scope C s₀ H₀ fp) tg g) (hif : ∀ C s₀ H₀ fp, PIf (yE X xs ys scope C s₀ H₀ fp) ifs tc) (he : ∀ C s₀ H₀ fp, PE (yE X xs ys scope C s₀ H₀ fp) elt te)
   {RR : Value -> Addr -> Result -> Shared -> Prop} {Q : VK} (I : Inv X pins σ H s) (h : tLC xs js wi g tc te σ H Q)
   (fin : ∀ D C H' s', LcEnd X pins σ C H' s' -> Q (.ref D) H' -> RR (.ref D) C (.ok .next) s') :
   wpAny (model X.prog X.w) X.A (eval iter X.env) (fun x s₁ => wpAny (model X.prog X.w) X.A (pyIter x) (fun it s₂ => wpAny (model X.prog X.w) X.A (newList []) (fun acc s₃ =>
     wpAny (model X.prog X.w) X.A (newFunctionEnv scope X.env.globals (yQ X.env scope.names []) [] X.env.qual none .none (some X.env)) (fun cenv s₄ =>
       codeAny (model X.prog X.w) X.A (.compStart (.ListComp elt [⟨tg, iter, ifs, 0⟩] scope pos) 0 it acc { cenv with scope := relabel scope X.env }) (RR acc cenv.locals) s₄) X.xe s₃) X.xe s₂) X.xe s₁) X.xe s := by
 refine thn (hi pins s σ H _ I h) fun v s1 h1 => thn h1 fun itv s2 h2 => ?_
 obtain ⟨it, fp, tn, J, H2, e, I2, T, st2, f2, W, ⟨m0, w0⟩, turn⟩ := h2
 subst e
 have fo : ∀ b ∈ fp, b < s2.heap.objs.size := fun b hb => let ⟨o, e, _⟩ := T.obj _ _ st2 b hb; Heap.lt_size e
 refine wpAny_newObj_type (wpAny_newFunctionEnv S.nocell (by intro y hy; simp at hy) (fun h₁ hns₁ hsb₁ => ?_) S.kind)
 dsimp only at hns₁ hsb₁ ⊢
 generalize hH2 : s2.heap.push { cls := .type "list", dict := none, data := .seq ([] : List Value).toArray } = G at hns₁ hsb₁ ⊢
 have hC : G.objs.size = s2.heap.objs.size + 1 := by rw [← hH2, Heap.size_push]
 have hDC : s2.heap.objs.size ≠ G.objs.size := by rw [hC]; exact Nat.ne_of_lt (Nat.lt_succ_self _)
 have hCle : s2.heap.objs.size <= G.objs.size := by rw [hC]; exact Nat.le_succ _
 have below : ∀ b, b < s2.heap.objs.size -> b ≠ G.objs.size /\ b ≠ s2.heap.objs.size := fun b hb => ⟨by rw [hC]; exact Nat.ne_of_lt (Nat.lt_succ_of_lt hb), Nat.ne_of_lt hb⟩
 have old : ∀ b o, s2.heap.get? b = some o -> h₁.get? b = some o := fun b o e => hsb₁.extBut b o (below b (Heap.lt_size e)).1 (Heap.get?_push_of_some _ (hH2 ▸ Heap.get?_push_of_some _ e))
 have hacc : h₁.get? s2.heap.objs.size = some (LCg.lst []) := hsb₁.extBut _ _ hDC (Heap.get?_push_of_some _ (hH2 ▸ Heap.get?_push_size _ rfl))
 have st₁ : tn 0 h₁ := T.keep _ _ _ st2 fun b _ o e => old b o e
 have I3 := block_start (C := G.objs.size) (D := s2.heap.objs.size) (tk := s2.toks + ([] : List (Str × Value)).length) I2 S hj f2 fo hCle (Nat.le_refl _) hDC hns₁ hacc (by intro v hv; cases hv) old
 generalize hX : yE X xs ys scope G.objs.size s2 H2 fp = B at I3
 have pB : B.prog = X.prog := by rw [← hX]; rfl
 have wB : B.w = X.w := by rw [← hX]; rfl
 have kB : B.K = X.K := by rw [← hX]; rfl
 have aB : B.A = X.A := by rw [← hX]; rfl
 have eB : B.env = compEnvC scope (yQ X.env scope.names []) G.objs.size X.env := by rw [← hX]; rfl
 have cB : B.calm = true := by rw [← hX]; exact hc
 have xB : B.xe = fun _ _ => False := by rw [← hX]; rfl
 have gB : PG B tg g := by rw [← hX]; exact hg _ _ _ _
 have iB : PIf B ifs tc := by rw [← hX]; exact hif _ _ _ _
 have elB : PE B elt te := by rw [← hX]; exact he _ _ _ _
 have sB : B.s₀ = s2 := by rw [← hX]; rfl
 have hB : B.H₀ = H2 := by rw [← hX]; rfl
 have fB : B.fs = frs X.stack := by rw [← hX]; rfl
 have exB : B.ex = fp := by rw [← hX]; rfl
 have pnB : B.pn = [] := by rw [← hX]; rfl
 exact lc_tail (cl := (yQ X.env scope.names [])) I2 T f2 w0 turn fin fo hC hDC hCle below st₁ I3 pB wB kB aB eB cB xB gB iB elB sB hB fB exB pnB
theorem pe_lc (hc : X.calm = true) (S : LcScope xs ys scope X.env.scope) (hj : Caps X ys js) (hi : PI X tg iter wi)
   (hg : ∀ C s₀ H₀ fp, PG (yE X xs ys scope C s₀ H₀ fp) tg g) (hif : ∀ C s₀ H₀ fp, PIf (yE X xs ys scope C s₀ H₀ fp) ifs tc) (he : ∀ C s₀ H₀ fp, PE (yE X xs ys scope C s₀ H₀ fp) elt te)
   (hs : ∀ x, foldedSetIterable iter X.env x = pure x := by intro _; rfl) : PE X (.ListComp elt [⟨tg, iter, ifs, 0⟩] scope pos) (tLC xs js wi g tc te) := by
 intro pins s σ H Q I h
 rw [eval_ListComp]
 refine wpAny_comprehension_free (use := none) rfl hs (xW (kC I S)) S.kind S.names ?_
 refine lc_core (RR := fun acc C => compPost (model X.prog X.w) X.A X.xe none (EP X pins σ Q) acc C) hc S hj hi hg hif he I h fun D C H' s' L q => ?_
 obtain ⟨m, hn⟩ := L.ns
 exact ⟨m, hn, fun h'' hs'' => ⟨.ref D, H', L.gone hs'', rfl, q⟩⟩
theorem ps_setLC {i : Nat} {x : Str} {p' p : Pos} (hN : X.N.Nodup) (hx : X.N[i]? = some x) (hl : X.env.scope.names.lookup x = some .local) (hc : X.calm = true) (S : LcScope xs ys scope X.env.scope) (hj : Caps X ys js) (hi : PI X tg iter wi)
   (hg : ∀ C s₀ H₀ fp, PG (yE X xs ys scope C s₀ H₀ fp) tg g) (hif : ∀ C s₀ H₀ fp, PIf (yE X xs ys scope C s₀ H₀ fp) ifs tc) (he : ∀ C s₀ H₀ fp, PE (yE X xs ys scope C s₀ H₀ fp) elt te)
   (hsw : swapsWith (.ListComp elt [⟨tg, iter, ifs, 0⟩] scope pos) (some (.Name x p')) p.line X.env = pure true := by rfl)
   (hs : ∀ x, foldedSetIterable iter X.env x = pure x := by intro _; rfl) : PS X (.Assign [.Name x p'] (.ListComp elt [⟨tg, iter, ifs, 0⟩] scope pos) p) (tAsg (tLC xs js wi g tc te) (gName i)) := by
 intro pins s σ H D I h
 rw [exec_Assign_Name_used _ _ _ _ hsw]
 refine wpAny_bind (wpAny_standAt (wpAny_bind ?_))
 show wpAny _ X.A (do let _ ← comprehension (.ListComp elt [⟨tg, iter, ifs, 0⟩] scope pos) scope X.env _ (newList []) false (eval iter X.env) (some (assign (.Name x p') X.env))) _ _ s
 refine wpAny_bind (wpAny_mono (wpAny_comprehension_free (use := some (assign (.Name x p') X.env)) (Q := fun _ s' => SP X pins D .next s') rfl hs (xW (kC I S)) S.kind S.names ?_) (fun _ s' hq => wpAny_pure (wpAny_pure hq)) fun _ _ e => e)
 refine lc_core (Q := fun v H' => gName i v σ H' D.nx) (RR := fun acc C => compPost (model X.prog X.w) X.A X.xe (some (assign (.Name x p') X.env)) (fun _ s' => SP X pins D .next s') acc C) hc S hj hi hg hif he I h fun A C H' s' L q => ?_
 show wpAny _ X.A (assign (.Name x p') X.env (.ref A)) _ _ _
 refine wpAny_assign_Name (qJ (v := .ref A) L.inv hN hx (.inl hl) rfl (fun s'' I'' ⟨a, sb, ha⟩ => ?_) (.inr hl))
 have cne : ∀ {b : Addr}, (b = X.env.locals \/ X.env.cells.lookup x = some b) -> C ≠ b := fun z e => by
   rcases z with z | z
   · exact L.ne (e.trans z)
   · exact L.cells x _ z e.symm
 obtain ⟨m, hn⟩ := L.ns
 refine ⟨m, hn.sameBut sb (cne ha), fun h'' hs'' => ⟨_, _, ?_, q⟩⟩
 exact LcEnd.gone ⟨I'', ⟨m, hn.sameBut sb (cne ha)⟩, L.free, L.ne, L.up, L.cells, L.pin⟩ hs''
end
def Its (x : Str) : It := ⟨fun i _ => i < x.cps.size, fun i H v H' => H' = H /\ ∃ c, x.cps[i]? = some c /\ v = .str ⟨#[c]⟩, fun i _ => x.cps.size <= i⟩
section
variable {X : Cx} {tg : Expr}
def iStr (tl : TE) : TI := fun σ H R => tl σ H fun x H1 => ∃ z, x = .str z /\ R (Its z) H1
end
def rSlS : V -> Option Int -> Option Int -> Hp -> VK -> Prop := fun x lo hi H Q => ∃ z, x = .str z /\ z.length <= sizeLine /\ Q (.str (Txt.slice z lo hi)) H
section
variable {X : Cx}
theorem call_all : xI X (.builtin "all") (fun xs H Q => X.calm = true /\ ∃ (p : Addr) (bs : List Bool), xs = [.ref p] /\ SqL X.K H p (bs.map V.bl) /\ Q (.bl (bs.all id)) H) := by
 intro pins s σ H xs us Q I r h
 obtain ⟨hc, p, bs, rfl, hp, q⟩ := h
 obtain ⟨u, rfl, ru⟩ := jH r
 cases ru
 obtain ⟨its, rv, hl, hz⟩ := I.list hp
 have hlt : p < s.heap.objs.size := by obtain ⟨_, e, _⟩ := hl.isList; exact Heap.lt_size e
 have hlen := rv.length
 rw [List.length_map] at hlen
 refine call_all_walk (wpAny_pyIter_list hl.isList ?_)
 refine ⟨_, _, _, _, _, _, fun i => bs.getD i false, rfl, Walks.list (A := X.A.in1) (I.ok.hd hc) s.heap.objs.size p (Nat.ne_of_lt hlt) its.toArray, ⟨⟨_, Heap.get?_push_size _ rfl, rfl, rfl⟩, hl.isList.push _⟩, fun i v s' Q' E' hv q' => ?_, fun h' tk k => ?_⟩
 · have hv : its[i]? = some v := by simpa using hv
   have hi : i < bs.length := by
     have := (List.getElem?_eq_some_iff.mp hv).1
     omega
   obtain ⟨u', hu', ru'⟩ := rv.get (i := i) (x := .bl bs[i]) (by rw [List.getElem?_map, List.getElem?_eq_getElem hi]; rfl)
   rw [hv] at hu'
   cases hu'
   have e : v = Value.bool bs[i] := ru'
   subst e
   refine wpAny_truthy_bool ?_
   have e2 : bs.getD i false = bs[i] := by rw [List.getD_eq_getElem?_getD, List.getElem?_eq_getElem hi]; rfl
   rw [← e2]
   exact q'
 · refine ⟨.bl (bs.all id), H, ?_, ?_, q⟩
   · exact I.kept (h' := h') (t' := tk) fun b o e => k b o (by intro hm; have := List.mem_singleton.mp hm; exact absurd (this ▸ Heap.lt_size e) (Nat.lt_irrefl _)) (Heap.get?_push_of_some _ e)
   · have e : (List.range its.toArray.size).all (fun i => bs.getD i false) = bs.all id := by
       rw [List.size_toArray, ← hlen]
       rw [Bool.eq_iff_iff, List.all_eq_true, List.all_eq_true]
       constructor
       · intro a b hb
         obtain ⟨i, hi, rfl⟩ := List.getElem_of_mem hb
         have := a i (List.mem_range.mpr hi)
         rw [List.getD_eq_getElem?_getD, List.getElem?_eq_getElem hi] at this
         exact this
       · intro a i hi
         have hi := List.mem_range.mp hi
         rw [List.getD_eq_getElem?_getD, List.getElem?_eq_getElem hi]
         exact a _ (List.getElem_mem hi)
     show Value.bool _ = _
     rw [e]
theorem call_isi {T : String} : xI X (.builtin "isinstance") (fun xs H Q => ∃ x t b, xs = [x, .ty T] /\ TyOf X.K H x t /\ PySem.W.kitOne X.K t (.type T) = some b /\ Q (.bl b) H) := by
 intro pins s σ H xs us Q I r h
 obtain ⟨x, t, b, rfl, ty, e, q⟩ := h
 obtain ⟨u, w', rfl, ru, rw'⟩ := vals2 r
 cases rw'
 exact isinst_ok I ru ty e fun tk => ⟨.bl b, H, I.tok tk, rfl, q⟩
theorem strsAre_of : ∀ {ys : List Str} {us : List Value}, Vals (ys.map V.str) us -> StrsAre us ys
 | [], us, r => by
   rw [List.map_nil] at r
   cases r
   exact .nil
 | y :: ys, us, r => by
   rw [List.map_cons] at r
   cases r with
   | @cons a b as bs h t =>
     obtain ⟨tk, hb⟩ := (show ∃ tk, b = Value.str y tk from h)
     subst hb
     exact .cons y tk (strsAre_of t)
theorem mt_join : MtR X "str.join" (fun x xs H Q => ∃ (z : Str) (p : Addr) (ys : List Str), x = .str z /\ xs = [.ref p] /\ SqL X.K H p (ys.map V.str) /\ (ys.map (·.length)).sum + ys.length * z.length <= 16777216 /\ Q (.str (Txt.join z ys)) H) := by
 intro pins s σ H x xs v us Q I rx rs h
 obtain ⟨z, p, ys, rfl, rfl, hp, hb, q⟩ := h
 obtain ⟨tz, rfl⟩ := rx
 obtain ⟨u, rfl, ru⟩ := jH rs
 cases ru
 obtain ⟨its, rv, hl, hz⟩ := I.list hp
 exact join_list hl.isList (strsAre_of rv) hb fun t' k => ⟨.str (Txt.join z ys), H, I.tok k, ⟨t', rfl⟩, q⟩
end
structure Has (P : Program) (w : World) (K : PySem.W.Frag) (mg : Str -> Option Value) (base : Heap) (k : Nat) (x : Str) (ps : List Str) (sp : Sp) : Prop where
 ex : ∃ f fd, FnOk P w K mg base CX0 k f fd ps sp /\ Binds K fd ps [] /\ PySem.W.keepIn K (.ref f) = true /\ mg x = some (.ref f)
def Gc (mg : Str -> Option Value) (x : Str) (v : V) : Prop := ∃ u, mg x = some u /\ RelV v u
section
variable {X : Cx} {k : Nat} {x : Str} {ps : List Str} {sp : Sp} {p pos : Pos} {e : Expr} {es : List Expr} {t : TA} {v : V}
theorem zJ (h : Has X.prog X.w X.K X.mg X.base k x ps sp) (hr : Room k X.A) (hg : Gl X x) (ha : PA X (e :: es) t) (hdb : (x == ("__debug__" : Str)) = false := by decide)
   (he : starEach (e :: es) X.env = (false, eval e X.env) :: starEach es X.env := by rfl) (hpl : (backTo pos (starEach es X.env)).any (·.1) = false := by rfl) : PE X (.Call (.Name x p) (e :: es) [] pos) (tCall sp [] E0 t) := by
 obtain ⟨f, fd, F, b, kp, m⟩ := h.ex
 exact pe_call F hr hg m kp b .nil pass0 ha hdb he hpl
theorem vM (h : Gc X.mg x v) (hg : Gl X x) (hd : (x == ("__debug__" : Str)) = false := by decide) : PE X (.Name x pos) (tC v) := by
 obtain ⟨u, m, r⟩ := h
 exact pe_glob hg m r hd
theorem pe_ty {T : String} (hm : X.mg x = none) (hv : bootBuiltins x = some (.type T)) (hg : Gl X x) (hn : x ≠ "__name__" := by decide) (hd : (x == ("__debug__" : Str)) = false := by decide) : PE X (.Name x pos) (tC (.ty T)) :=
 pe_bltn hg hm hv rfl hn hd
end
theorem yI {X : Cx} : PIf X [] none := trivial
theorem wL {X : Cx} {c : Expr} {t : TT} (h : PT X c t) : PIf X [c] (some t) := h
def lcOk (xs ys : List Str) (scope around : Scope) : Bool :=
 (scope.kind == .function) && decide (xs ++ ys).Nodup && xs.all (fun x => scope.names.lookup x == some .local) &&
 ys.all (fun y => (scope.names.lookup y == some .free) && ((around.names.lookup y == some .cell) || (around.names.lookup y == some .free))) &&
 scope.names.all (fun y => (y.2 != .cell) && ((y.2 != .local) || (scope.names.lookup y.1 == some .local)) && ((y.2 != .free) || ys.contains y.1))
theorem lcOk.scope {xs ys : List Str} {scope around : Scope} (h : lcOk xs ys scope around = true) : LcScope xs ys scope around := by
 unfold lcOk at h
 simp only [Bool.and_eq_true, beq_iff_eq, decide_eq_true_eq, List.all_eq_true, Bool.or_eq_true, bne_iff_ne, List.contains_iff_mem] at h
 obtain ⟨⟨⟨⟨h1, h2⟩, h3⟩, h4⟩, h5⟩ := h
 exact ⟨h1, h2, h3, h4, fun y hy => (h5 y hy).1.1, fun y hy hl => (h5 y hy).1.2.resolve_left (fun z => z hl), fun y hy hf => (h5 y hy).2.resolve_left (fun z => z hf)⟩
def capOk (N ys : List Str) (js : List Nat) : Bool := (js.length == ys.length) && (ys.zip js).all fun p => N[p.2]? == some p.1
theorem capOk.caps {X : Cx} {ys : List Str} {js : List Nat} (h : capOk X.N ys js = true) : Caps X ys js := by
 unfold capOk at h
 simp only [Bool.and_eq_true, beq_iff_eq, List.all_eq_true] at h
 refine ⟨h.1, fun i y j hy hj => ?_⟩
 refine h.2 (y, j) (List.mem_of_getElem? (i := i) ?_)
 rw [List.getElem?_zip_eq_some]
 exact ⟨hy, hj⟩
section
variable {X : Cx} {xs ys : List Str} {scope : Scope} {js : List Nat} {tg iter elt : Expr} {ifs : List Expr} {pos : Pos} {wi : TI} {g : TG} {tc : Option TT} {te : TE}
theorem yL (xs ys : List Str) (js : List Nat) (hi : PI X tg iter wi)
   (hg : ∀ C s₀ H₀ fp, (xs ++ ys).Nodup -> PG (yE X xs ys scope C s₀ H₀ fp) tg g) (hif : ∀ C s₀ H₀ fp, PIf (yE X xs ys scope C s₀ H₀ fp) ifs tc) (he : ∀ C s₀ H₀ fp, PE (yE X xs ys scope C s₀ H₀ fp) elt te)
   (hc : X.calm = true := by rfl) (S : lcOk xs ys scope X.env.scope = true := by rfl) (hj : capOk X.N ys js = true := by rfl)
   (hs : ∀ x, foldedSetIterable iter X.env x = pure x := by intro _; rfl) : PE X (.ListComp elt [⟨tg, iter, ifs, 0⟩] scope pos) (tLC xs js wi g tc te) :=
 pe_lc hc (lcOk.scope S) (capOk.caps hj) hi (fun C s₀ H₀ fp => hg C s₀ H₀ fp (lcOk.scope S).nd) hif he hs
theorem wK {i : Nat} {x : Str} {p' p : Pos} (xs ys : List Str) (js : List Nat) (hN : X.N.Nodup) (hx : X.N[i]? = some x) (hi : PI X tg iter wi)
   (hg : ∀ C s₀ H₀ fp, (xs ++ ys).Nodup -> PG (yE X xs ys scope C s₀ H₀ fp) tg g) (hif : ∀ C s₀ H₀ fp, PIf (yE X xs ys scope C s₀ H₀ fp) ifs tc) (he : ∀ C s₀ H₀ fp, PE (yE X xs ys scope C s₀ H₀ fp) elt te)
   (hl : X.env.scope.names.lookup x = some .local := by rfl) (hc : X.calm = true := by rfl) (S : lcOk xs ys scope X.env.scope = true := by rfl) (hj : capOk X.N ys js = true := by rfl)
   (hsw : swapsWith (.ListComp elt [⟨tg, iter, ifs, 0⟩] scope pos) (some (.Name x p')) p.line X.env = pure true := by rfl)
   (hs : ∀ x, foldedSetIterable iter X.env x = pure x := by intro _; rfl) : PS X (.Assign [.Name x p'] (.ListComp elt [⟨tg, iter, ifs, 0⟩] scope pos) p) (tAsg (tLC xs js wi g tc te) (gName i)) :=
 ps_setLC hN hx hl hc (lcOk.scope S) (capOk.caps hj) hi (fun C s₀ H₀ fp => hg C s₀ H₀ fp (lcOk.scope S).nd) hif he hsw hs
end
theorem bt_len : bootBuiltins "len" = some (.builtin "len") := by decide +kernel
theorem bt_isinstance : bootBuiltins "isinstance" = some (.builtin "isinstance") := by decide +kernel
theorem bt_all : bootBuiltins "all" = some (.builtin "all") := by decide +kernel
theorem bt_sorted : bootBuiltins "sorted" = some (.builtin "sorted") := by decide +kernel
theorem bt_range : bootBuiltins "range" = some (.type "range") := by decide +kernel
theorem bt_list : bootBuiltins "list" = some (.type "list") := by decide +kernel
theorem bt_set : bootBuiltins "set" = some (.type "set") := by decide +kernel
theorem bt_int : bootBuiltins "int" = some (.type "int") := by decide +kernel
theorem bt_bool : bootBuiltins "bool" = some (.type "bool") := by decide +kernel
theorem bt_dict : bootBuiltins "dict" = some (.type "dict") := by decide +kernel
theorem cx_K {CX : CXT} {P : Program} {w : World} {K : PySem.W.Frag} {mg : Str -> Option Value} {base : Heap} {N : List Str} {qual : Str} {scope : Scope} {f : Addr} {cd : Value} {A : Around} {outer : List Env} {s : Shared} {H : Hp} {E : XK} : (jB CX P w K mg base N qual scope f cd A outer s H E).K = K := rfl
theorem cx_calm {CX : CXT} {P : Program} {w : World} {K : PySem.W.Frag} {mg : Str -> Option Value} {base : Heap} {N : List Str} {qual : Str} {scope : Scope} {f : Addr} {cd : Value} {A : Around} {outer : List Env} {s : Shared} {H : Hp} {E : XK} : (jB CX P w K mg base N qual scope f cd A outer s H E).calm = true := rfl
theorem bk_calm {X : Cx} {xs ys : List Str} {scope : Scope} {C : Addr} {s₀ : Shared} {H₀ : Hp} {fp : List Addr} : (yE X xs ys scope C s₀ H₀ fp).calm = X.calm := rfl
theorem lenV_str {K : PySem.W.Frag} {y : Str} {H : Hp} {n : Nat} : LenV K (.str y) H n ↔ (y.length <= sizeLine /\ n = y.length) := Iff.rfl
theorem bk_K {X : Cx} {xs ys : List Str} {scope : Scope} {C : Addr} {s₀ : Shared} {H₀ : Hp} {fp : List Addr} : (yE X xs ys scope C s₀ H₀ fp).K = X.K := rfl
theorem lc_by {J : It} {n : Nat} {ns : List Str} {js : List Nat} {g : TG} {te : TE} {σ : St} {H : Hp} {Q : VK} (Pv : Nat -> List V -> St -> Hp -> Prop) (h0 : Pv 0 [] (uW ns js σ) H) (hn : n <= sizeLine) (hl : ∀ i ys σ H, Pv i ys σ H -> ys.length <= i)
   (hgo : ∀ i ys σ H, i < n -> Pv i ys σ H -> J.go i H) (hst : ∀ ys σ H, Pv n ys σ H -> J.stop n H)
   (hs : ∀ i ys σ H x H' (C : V -> St -> Hp -> Prop), i < n -> Pv i ys σ H -> J.yld i H x H' -> (∀ y σ2 H3, Pv (i + 1) (ys ++ [y]) σ2 H3 -> C y σ2 H3) -> g x σ H' fun σ2 H2 => te σ2 H2 fun y H3 => C y σ2 H3)
   (hd : ∀ ys σ H, Pv n ys σ H -> ∀ p, H p = none -> Q (.ref p) (upd H p (.lst ys))) :
   LcW J ns js g none te σ H Q := by
 refine ⟨fun i m ys σ H => i + m = n /\ Pv i ys σ H, ⟨n, by omega, h0⟩, fun i m ys σ H ⟨e, w⟩ => ?_⟩
 by_cases hi : i < n
 · refine .inr ⟨hgo i ys σ H hi w, Nat.lt_of_le_of_lt (hl _ _ _ _ w) (by omega), fun x H' hy => ?_⟩
   exact hs i ys σ H x H' (fun y σ2 H3 => ∃ m', m' < m /\ i + 1 + m' = n /\ Pv (i + 1) (ys ++ [y]) σ2 H3) hi w hy fun y σ2 H3 q => ⟨m - 1, by omega, by omega, q⟩
 · have : i = n := by omega
   subst this
   exact .inl ⟨hst ys σ H w, hd ys σ H w⟩
theorem uV {lo : Int} {n : Nat} {ns : List Str} {js : List Nat} {g : TG} {te : TE} {σ : St} {H : Hp} {Q : VK} (Pv : Nat -> List V -> St -> Hp -> Prop) (h0 : Pv 0 [] (uW ns js σ) H) (hz : n <= sizeLine) (hl : ∀ i ys σ H, Pv i ys σ H -> ys.length <= i)
   (hs : ∀ (i : Nat) ys σ H (C : V -> St -> Hp -> Prop), i < n -> Pv i ys σ H -> (∀ y σ2 H3, Pv (i + 1) (ys ++ [y]) σ2 H3 -> C y σ2 H3) -> g (.int (lo + i)) σ H fun σ2 H2 => te σ2 H2 fun y H3 => C y σ2 H3)
   (hd : ∀ ys σ H, Pv n ys σ H -> ∀ p, H p = none -> Q (.ref p) (upd H p (.lst ys))) :
   LcW (Itr lo n) ns js g none te σ H Q :=
 lc_by (n := n) Pv h0 hz hl (fun _ _ _ _ h _ => h) (fun _ _ _ _ => Nat.le_refl _) (fun i ys σ H x H' C hi w ⟨e, hx⟩ hC => by subst e; subst hx; exact hs i ys σ _ C hi w hC) hd
theorem lc_tup {K : PySem.W.Frag} {a : Addr} {xs : List V} {ns : List Str} {js : List Nat} {g : TG} {te : TE} {σ : St} {H : Hp} {Q : VK} (Pv : Nat -> List V -> St -> Hp -> Prop) (h0 : Pv 0 [] (uW ns js σ) H) (hz : xs.length <= sizeLine) (hl : ∀ i ys σ H, Pv i ys σ H -> ys.length <= i)
   (hK : ∀ i ys σ H, Pv i ys σ H -> SqT K H a xs)
   (hs : ∀ (i : Nat) x ys σ H (C : V -> St -> Hp -> Prop), xs[i]? = some x -> Pv i ys σ H -> (∀ y σ2 H3, Pv (i + 1) (ys ++ [y]) σ2 H3 -> C y σ2 H3) -> g x σ H fun σ2 H2 => te σ2 H2 fun y H3 => C y σ2 H3)
   (hd : ∀ ys σ H, Pv xs.length ys σ H -> ∀ p, H p = none -> Q (.ref p) (upd H p (.lst ys))) :
   LcW (Itt K a) ns js g none te σ H Q :=
 lc_by (n := xs.length) Pv h0 hz hl (fun i ys σ H hi w => ⟨xs, xs[i], hK i ys σ H w, List.getElem?_eq_getElem hi⟩) (fun ys σ H w => ⟨xs, hK _ ys σ H w, Nat.le_refl _⟩)
   (fun i ys σ H x H' C hi w ⟨e, hx⟩ hC => by subst e; exact hs i x ys σ _ C (hx xs (hK i ys σ _ w)) w hC) hd
theorem xA {K : PySem.W.Frag} {a : Addr} {xs : List V} {ns : List Str} {js : List Nat} {g : TG} {te : TE} {σ : St} {H : Hp} {Q : VK} (Pv : Nat -> List V -> St -> Hp -> Prop) (h0 : Pv 0 [] (uW ns js σ) H) (hz : xs.length <= sizeLine) (hl : ∀ i ys σ H, Pv i ys σ H -> ys.length <= i)
   (hK : ∀ i ys σ H, Pv i ys σ H -> SqL K H a xs)
   (hs : ∀ (i : Nat) x ys σ H (C : V -> St -> Hp -> Prop), xs[i]? = some x -> Pv i ys σ H -> (∀ y σ2 H3, Pv (i + 1) (ys ++ [y]) σ2 H3 -> C y σ2 H3) -> g x σ H fun σ2 H2 => te σ2 H2 fun y H3 => C y σ2 H3)
   (hd : ∀ ys σ H, Pv xs.length ys σ H -> ∀ p, H p = none -> Q (.ref p) (upd H p (.lst ys))) :
   LcW (Itl K a) ns js g none te σ H Q :=
 lc_by (n := xs.length) Pv h0 hz hl (fun i ys σ H hi w => ⟨xs, xs[i], hK i ys σ H w, List.getElem?_eq_getElem hi⟩) (fun ys σ H w => ⟨xs, hK _ ys σ H w, Nat.le_refl _⟩)
   (fun i ys σ H x H' C hi w ⟨e, hx⟩ hC => by subst e; exact hs i x ys σ _ C (hx xs (hK i ys σ _ w)) w hC) hd
def ForW (J : It) (g : TG) (tb : TS) (D : Ends) (σ : St) (H : Hp) : Prop := ∃ W : Nat -> Nat -> St -> Hp -> Prop, (∃ m, W 0 m σ H) /\ ∀ i m σ H, W i m σ H ->
 (J.stop i H /\ D.nx σ H) \/ (J.go i H /\ ∃ N : St -> Hp -> Prop, (∀ σ' H', N σ' H' -> ∃ m', m' < m /\ W (i + 1) m' σ' H') /\ ∀ x H', J.yld i H x H' -> g x σ H' fun σ2 H2 => tb { D with nx := N, ct := N, bk := D.nx } σ2 H2)
theorem tFor_eq {wi : TI} {g : TG} {tb : TS} {D : Ends} {σ : St} {H : Hp} : tFor wi g tb D σ H = wi σ H fun J H1 => ForW J g tb D σ H1 := rfl
theorem tLC_eq {n : List Str} {js : List Nat} {wi : TI} {g : TG} {tc : Option TT} {te : TE} {σ : St} {H : Hp} {Q : VK} : tLC n js wi g tc te σ H Q = wi σ H fun J H1 => LcW J n js g tc te σ H1 Q := rfl
theorem xM {K : PySem.W.Frag} {a : Addr} {xs : List V} {g : TG} {tb : TS} {D : Ends} {σ : St} {H : Hp} (Pv : Nat -> St -> Hp -> Prop) (h0 : Pv 0 σ H) (hl : ∀ i σ H, i <= xs.length -> Pv i σ H -> SqL K H a xs)
   (hs : ∀ i x σ H, xs[i]? = some x -> Pv i σ H -> g x σ H fun σ2 H2 => tb { D with nx := Pv (i + 1), ct := Pv (i + 1), bk := D.nx } σ2 H2) (hd : ∀ σ H, Pv xs.length σ H -> D.nx σ H) : ForW (Itl K a) g tb D σ H := for_list Pv h0 hl hs hd
theorem fw_tup {K : PySem.W.Frag} {a : Addr} {xs : List V} {g : TG} {tb : TS} {D : Ends} {σ : St} {H : Hp} (Pv : Nat -> St -> Hp -> Prop) (h0 : Pv 0 σ H) (hl : ∀ i σ H, i <= xs.length -> Pv i σ H -> SqT K H a xs)
   (hs : ∀ i x σ H, xs[i]? = some x -> Pv i σ H -> g x σ H fun σ2 H2 => tb { D with nx := Pv (i + 1), ct := Pv (i + 1), bk := D.nx } σ2 H2) (hd : ∀ σ H, Pv xs.length σ H -> D.nx σ H) : ForW (Itt K a) g tb D σ H := for_tup Pv h0 hl hs hd
theorem xC {lo : Int} {n : Nat} {g : TG} {tb : TS} {D : Ends} {σ : St} {H : Hp} (Pv : Nat -> St -> Hp -> Prop) (h0 : Pv 0 σ H)
   (hs : ∀ i σ H, i < n -> Pv i σ H -> g (.int (lo + i)) σ H fun σ2 H2 => tb { D with nx := Pv (i + 1), ct := Pv (i + 1), bk := D.nx } σ2 H2) (hd : ∀ σ H, Pv n σ H -> D.nx σ H) : ForW (Itr lo n) g tb D σ H := for_range Pv h0 hs hd
theorem zI {t u : TS} {D : Ends} {σ : St} {H : Hp} (h : ∀ N : St -> Hp -> Prop, (∀ σ H, u D σ H -> N σ H) -> t { D with nx := N } σ H) : tSeq t u D σ H := h (u D) fun _ _ z => z
theorem if_abs {c : TT} {t u : TS} {D : Ends} {σ : St} {H : Hp} (h : ∀ T U : Hp -> Prop, (∀ H1, t D σ H1 -> T H1) -> (∀ H1, u D σ H1 -> U H1) -> c σ H fun b H1 => if b = true then T H1 else U H1) : tIfS c t u D σ H := h (t D σ) (u D σ) (fun _ z => z) fun _ z => z
theorem zR {t u : TS} {D : Ends} {σ : St} {H : Hp} (J : St -> Hp -> Prop) (h1 : ∀ N : St -> Hp -> Prop, (∀ σ H, J σ H -> N σ H) -> t { D with nx := N } σ H) (h2 : ∀ σ H, J σ H -> u D σ H) : tSeq t u D σ H := h1 (u D) h2
structure Bi (mg : Str -> Option Value) : Prop where
 len : mg "len" = none
 range : mg "range" = none
 isinstance : mg "isinstance" = none
 max : mg "max" = none
 sum : mg "sum" = none
 all : mg "all" = none
 tuple : mg "tuple" = none
 list : mg "list" = none
 sorted : mg "sorted" = none
 set : mg "set" = none
 int : mg "int" = none
 bool : mg "bool" = none
 str : mg "str" = none
 dict : mg "dict" = none
theorem yH {P : Program} {w : World} {K : PySem.W.Frag} {mg : Str -> Option Value} {base : Heap} {k : Nat} {x : Str} {ps : List Str} {sp : Sp} {st : Stmt} {f : Addr} {fd : FuncData} (F : Fun K x x st f fd) (ok : FnOk P w K mg base CX0 k f fd ps sp) (b : Binds K fd ps [])
   (m : mg x = some (.ref f)) : Has P w K mg base k x ps sp := ⟨f, fd, ok, b, F.kp, m⟩
inductive Dt where
 | non | bl (b : Bool) | int (i : Int) | str (x : Str) | tup (ds : List Dt) | lst (ds : List Dt)
mutual
def DAt (H : Hp) : Dt -> V -> Prop
 | .non, v => v = .non
 | .bl b, v => v = .bl b
 | .int i, v => v = .int i
 | .str x, v => v = .str x
 | .tup ds, v => ∃ a vs, v = .ref a /\ H a = some (.tup vs) /\ DAts H ds vs
 | .lst ds, v => ∃ a vs, v = .ref a /\ H a = some (.lst vs) /\ DAts H ds vs
def DAts (H : Hp) : List Dt -> List V -> Prop
 | [], vs => vs = []
 | d :: ds, vs => ∃ v r, vs = v :: r /\ DAt H d v /\ DAts H ds r
end
mutual
theorem DAt.same {H H' : Hp} (e : Same H H') : ∀ {d : Dt} {v : V}, DAt H d v -> DAt H' d v
 | .non, _, h => h
 | .bl _, _, h => h
 | .int _, _, h => h
 | .str _, _, h => h
 | .tup ds, v, h => by
   obtain ⟨a, vs, e1, e2, e3⟩ := h
   exact ⟨a, vs, e1, e _ _ e2, DAts.same e e3⟩
 | .lst ds, v, h => by
   obtain ⟨a, vs, e1, e2, e3⟩ := h
   exact ⟨a, vs, e1, e _ _ e2, DAts.same e e3⟩
theorem DAts.same {H H' : Hp} (e : Same H H') : ∀ {ds : List Dt} {vs : List V}, DAts H ds vs -> DAts H' ds vs
 | [], _, h => h
 | d :: ds, vs, h => by
   obtain ⟨v, r, e1, e2, e3⟩ := h
   exact ⟨v, r, e1, DAt.same e e2, DAts.same e e3⟩
end
theorem DAts.length {H : Hp} : ∀ {ds : List Dt} {vs : List V}, DAts H ds vs -> vs.length = ds.length
 | [], vs, h => by
   have h : vs = [] := h
   rw [h]
   rfl
 | d :: ds, vs, h => by
   obtain ⟨v, r, e1, e2, e3⟩ := h
   rw [e1, List.length_cons, List.length_cons, DAts.length e3]
theorem DAts.get {H : Hp} : ∀ {ds : List Dt} {vs : List V} {i : Nat} {d : Dt}, DAts H ds vs -> ds[i]? = some d -> ∃ v, vs[i]? = some v /\ DAt H d v
 | [], vs, i, d, _, e => by simp at e
 | d :: ds, vs, 0, d', h, e => by
   obtain ⟨v, r, e1, e2, e3⟩ := h
   simp at e
   subst e; subst e1
   exact ⟨v, rfl, e2⟩
 | d :: ds, vs, i + 1, d', h, e => by
   obtain ⟨v, r, e1, e2, e3⟩ := h
   subst e1
   simp at e
   obtain ⟨u, h1, h2⟩ := DAts.get e3 e
   exact ⟨u, by simpa using h1, h2⟩
theorem DAts.append {H : Hp} : ∀ {ds es : List Dt} {vs us : List V}, DAts H ds vs -> DAts H es us -> DAts H (ds ++ es) (vs ++ us)
 | [], es, vs, us, h, h' => by
   have h : vs = [] := h
   subst h
   exact h'
 | d :: ds, es, vs, us, h, h' => by
   obtain ⟨v, r, e1, e2, e3⟩ := h
   subst e1
   exact ⟨v, r ++ us, rfl, e2, DAts.append e3 h'⟩
theorem DAts.take {H : Hp} : ∀ {ds : List Dt} {vs : List V} (n : Nat), DAts H ds vs -> DAts H (ds.take n) (vs.take n)
 | ds, vs, 0, _ => rfl
 | [], vs, n + 1, h => by
   have h : vs = [] := h
   subst h
   rfl
 | d :: ds, vs, n + 1, h => by
   obtain ⟨v, r, e1, e2, e3⟩ := h
   subst e1
   exact ⟨v, r.take n, rfl, e2, DAts.take n e3⟩
theorem DAts.drop {H : Hp} : ∀ {ds : List Dt} {vs : List V} (n : Nat), DAts H ds vs -> DAts H (ds.drop n) (vs.drop n)
 | ds, vs, 0, h => by simpa using h
 | [], vs, n + 1, h => by
   have h : vs = [] := h
   subst h
   rfl
 | d :: ds, vs, n + 1, h => by
   obtain ⟨v, r, e1, e2, e3⟩ := h
   subst e1
   simpa using DAts.drop n e3
theorem DAts.one {H : Hp} {d : Dt} {v : V} (h : DAt H d v) : DAts H [d] [v] := ⟨v, [], rfl, h, rfl⟩
def DFit : Nat -> Dt -> Prop
 | n + 1, .tup ds => ds.length <= 1000 /\ ∀ d ∈ ds, DFit n d
 | n + 1, .lst ds => ds.length <= 1000 /\ ∀ d ∈ ds, DFit n d
 | 0, .tup _ => False
 | 0, .lst _ => False
 | _, _ => True
inductive Tm where
 | name (x : Str)
 | node (w : Str) (ts : List Tm)
mutual
def toD : Tm -> Dt
 | .name x => .tup [.str "name", .str x]
 | .node w ts => .tup (.str w :: toDs ts)
def toDs : List Tm -> List Dt
 | [] => []
 | t :: ts => toD t :: toDs ts
end
theorem toDs_map : ∀ ts : List Tm, toDs ts = ts.map toD
 | [] => rfl
 | t :: ts => by rw [toDs, toDs_map ts, List.map_cons]
theorem uI (w : Str) (ts : List Tm) : toD (.node w ts) = .tup (.str w :: ts.map toD) := by rw [toD, toDs_map]
abbrev TAt (H : Hp) (t : Tm) (v : V) : Prop := DAt H (toD t) v
abbrev TAts (H : Hp) (ts : List Tm) (vs : List V) : Prop := DAts H (ts.map toD) vs
theorem TAt.name {H : Hp} {x : Str} {v : V} (h : TAt H (.name x) v) : ∃ a, v = .ref a /\ H a = some (.tup [.str "name", .str x]) := by
 obtain ⟨a, vs, e1, e2, u, r, e3, e4, e5⟩ := h
 obtain ⟨u2, r2, e6, e7, e8⟩ := e5
 have e4 : u = .str "name" := e4
 have e7 : u2 = .str x := e7
 have e8 : r2 = [] := e8
 subst e3; subst e4; subst e6; subst e7; subst e8
 exact ⟨a, e1, e2⟩
theorem TAt.mkName {H : Hp} {x : Str} {a : Addr} (h : H a = some (.tup [.str "name", .str x])) : TAt H (.name x) (.ref a) :=
 ⟨a, _, rfl, h, _, _, rfl, rfl, _, _, rfl, rfl, rfl⟩
theorem TAt.node {H : Hp} {w : Str} {ts : List Tm} {v : V} (h : TAt H (.node w ts) v) : ∃ a vs, v = .ref a /\ H a = some (.tup (.str w :: vs)) /\ TAts H ts vs := by
 unfold TAt at h
 rw [uI] at h
 obtain ⟨a, vs, e1, e2, u, r, e3, e4, e5⟩ := h
 have e4 : u = .str w := e4
 subst e3; subst e4
 exact ⟨a, r, e1, e2, e5⟩
theorem TAt.mkNode {H : Hp} {w : Str} {ts : List Tm} {a : Addr} {vs : List V} (h : H a = some (.tup (.str w :: vs))) (hs : TAts H ts vs) : TAt H (.node w ts) (.ref a) := by
 unfold TAt
 rw [uI]
 exact ⟨a, _, rfl, h, _, _, rfl, rfl, hs⟩
def Wrd (w : Str) : Prop := w = "none" \/ w = "all" \/ w = "not" \/ w = "both" \/ w = "either"
theorem Wrd.ne {w : Str} (h : Wrd w) : w ≠ "name" := by
 rcases h with rfl | rfl | rfl | rfl | rfl <;> decide +kernel
def Sh (w : Str) (n : Nat) : Prop := (w = "none" /\ n = 0) \/ (w = "all" /\ n = 0) \/ (w = "not" /\ n = 1) \/ (w = "both" /\ 2 <= n) \/ (w = "either" /\ 2 <= n)
theorem Sh.wrd {w : Str} {n : Nat} (h : Sh w n) : Wrd w := by
 rcases h with h | h | h | h | h
 · exact .inl h.1
 · exact .inr (.inl h.1)
 · exact .inr (.inr (.inl h.1))
 · exact .inr (.inr (.inr (.inl h.1)))
 · exact .inr (.inr (.inr (.inr h.1)))
structure Nm (x : Str) : Prop where
 pos : 1 <= x.length
 most : x.length <= 8
 low : ∀ c ∈ x.cps.toList, 97 <= c /\ c <= 122
 nn : x ≠ "none"
 na : x ≠ "all"
def Fit : Nat -> Tm -> Prop
 | _, .name x => Nm x
 | 0, .node w ts => Sh w ts.length /\ ts = []
 | n + 1, .node w ts => Sh w ts.length /\ ∀ t ∈ ts, Fit n t
theorem Fit.up : ∀ {n : Nat} {t : Tm}, Fit n t -> Fit (n + 1) t
 | n, .name _, h => by unfold Fit at h ⊢; exact h
 | 0, .node w ts, h => by
   unfold Fit at h
   obtain ⟨h1, h2⟩ := h
   subst h2
   exact ⟨h1, fun _ z => nomatch z⟩
 | n + 1, .node w ts, h => by
   unfold Fit at h ⊢
   exact ⟨h.1, fun t ht => Fit.up (h.2 t ht)⟩
theorem Fit.mono {n m : Nat} {t : Tm} (h : Fit n t) (hm : n <= m) : Fit m t := by
 obtain ⟨k, rfl⟩ := Nat.le.dest hm
 induction k with
 | zero => exact h
 | succ k ih => exact Fit.up (ih (by omega))
theorem Fit.sh {n : Nat} {w : Str} {ts : List Tm} (h : Fit n (.node w ts)) : Sh w ts.length := by
 cases n with
 | zero => exact h.1
 | succ n => exact h.1
theorem Fit.wrd {n : Nat} {w : Str} {ts : List Tm} (h : Fit n (.node w ts)) : Wrd w := h.sh.wrd
theorem Fit.part {n : Nat} {w : Str} {ts : List Tm} {t : Tm} (h : Fit (n + 1) (.node w ts)) (ht : t ∈ ts) : Fit n t := h.2 t ht
mutual
def wt : Tm -> Nat
 | .name _ => 1
 | .node _ ts => 1 + wts ts
def wts : List Tm -> Nat
 | [] => 0
 | t :: ts => wt t + wts ts
end
theorem wt_pos : ∀ t : Tm, 1 <= wt t
 | .name _ => by rw [wt]; omega
 | .node _ _ => by rw [wt]; omega
theorem wts_len : ∀ ts : List Tm, ts.length <= wts ts
 | [] => by simp
 | t :: ts => by
   have := wts_len ts
   have := wt_pos t
   rw [wts, List.length_cons]
   omega
theorem wts_mem : ∀ {ts : List Tm} {t : Tm}, t ∈ ts -> wt t <= wts ts
 | u :: ts, t, h => by
   rw [wts]
   rcases List.mem_cons.mp h with h | h
   · subst h; omega
   · have := wts_mem h; omega
theorem wts_append : ∀ ts us : List Tm, wts (ts ++ us) = wts ts + wts us
 | [], us => by simp [wts]
 | t :: ts, us => by rw [List.cons_append, wts, wts, wts_append ts us]; omega
theorem Fit.dfit : ∀ {n : Nat} {t : Tm}, Fit n t -> wt t <= 900 -> DFit (n + 1) (toD t)
 | n, .name x, _, _ => by
   rw [toD]
   unfold DFit
   refine ⟨by simp, fun d hd => ?_⟩
   rcases List.mem_cons.mp hd with rfl | hd
   · cases n <;> trivial
   · rw [List.mem_singleton.mp hd]
     cases n <;> trivial
 | n, .node w ts, h, hw => by
   rw [uI]
   rw [wt] at hw
   have hl := wts_len ts
   unfold DFit
   refine ⟨by rw [List.length_cons, List.length_map]; omega, fun d hd => ?_⟩
   rcases List.mem_cons.mp hd with rfl | hd
   · cases n <;> trivial
   · obtain ⟨t, ht, rfl⟩ := List.mem_map.mp hd
     have hm := wts_mem ht
     cases n with
     | zero => rw [h.2] at ht; cases ht
     | succ n => exact Fit.dfit (h.2 t ht) (by omega)
theorem zC {H : Hp} {p : Addr} (h : H p = none) (o : HO) : Same H (upd H p o) := fun b u q => by rw [zQ (yK q h)]; exact q
theorem str_ext {x y : Str} (h : x.cps = y.cps) : x = y := by
 cases x; cases y; cases h; rfl
theorem len_app (p q : Str) : (p ++ q).length = p.length + q.length := by
 show (p.cps ++ q.cps).size = p.cps.size + q.cps.size
 rw [Array.size_append]
theorem cps_app (p q : Str) : (p ++ q).cps.toList = p.cps.toList ++ q.cps.toList := by
 show (p.cps ++ q.cps).toList = _
 rw [Array.toList_append]
theorem zK {n : Nat} (h : n <= 1000) : n <= sizeLine := Nat.le_of_lt (xP h)
theorem TAts.one {H : Hp} {t : Tm} {v : V} (h : TAt H t v) : TAts H [t] [v] := DAts.one h
theorem TAts.append {H : Hp} {ts us : List Tm} {vs ws : List V} (h : TAts H ts vs) (h' : TAts H us ws) : TAts H (ts ++ us) (vs ++ ws) := by
 unfold TAts
 rw [List.map_append]
 exact DAts.append h h'
theorem TAts.take {H : Hp} {ts : List Tm} {vs : List V} (n : Nat) (h : TAts H ts vs) : TAts H (ts.take n) (vs.take n) := by
 unfold TAts
 rw [List.map_take]
 exact DAts.take n h
theorem TAts.drop {H : Hp} {ts : List Tm} {vs : List V} (n : Nat) (h : TAts H ts vs) : TAts H (ts.drop n) (vs.drop n) := by
 unfold TAts
 rw [List.map_drop]
 exact DAts.drop n h
theorem TAts.length {H : Hp} {ts : List Tm} {vs : List V} (h : TAts H ts vs) : vs.length = ts.length := by
 have := DAts.length h
 rw [List.length_map] at this
 exact this
theorem TAts.get {H : Hp} {ts : List Tm} {vs : List V} {i : Nat} {t : Tm} (h : TAts H ts vs) (ht : ts[i]? = some t) : ∃ v, vs[i]? = some v /\ TAt H t v :=
 DAts.get (d := toD t) h (by rw [List.getElem?_map, ht]; rfl)
theorem TAts.getV {H : Hp} {ts : List Tm} {vs : List V} {i : Nat} {v : V} (h : TAts H ts vs) (hv : vs[i]? = some v) : ∃ t, ts[i]? = some t /\ TAt H t v := by
 have hi : i < ts.length := by rw [← h.length]; exact (List.getElem?_eq_some_iff.mp hv).1
 obtain ⟨u, h1, h2⟩ := h.get (List.getElem?_eq_getElem hi)
 rw [hv] at h1
 cases h1
 exact ⟨_, List.getElem?_eq_getElem hi, h2⟩
def TupSame (H H' : Hp) : Prop := ∀ b xs, H b = some (.tup xs) -> H' b = some (.tup xs)
theorem TupSame.refl (H : Hp) : TupSame H H := fun _ _ h => h
theorem TupSame.trans {H H1 H2 : Hp} (a : TupSame H H1) (b : TupSame H1 H2) : TupSame H H2 := fun c o h => b c o (a c o h)
theorem Same.tups {H H' : Hp} (e : Same H H') : TupSame H H' := fun b xs h => e b _ h
theorem TupSame.upd_lst {H H' : Hp} {a : Addr} {o : HO} {xs : List V} (e : TupSame H H') (h : H' a = some (.lst xs)) : TupSame H (upd H' a o) := fun b ys hb => by
 rw [zQ (ne_of (e _ _ hb) h (by intro z; cases z))]
 exact e _ _ hb
theorem Same.upd {H H1 : Hp} {a : Addr} {o : HO} (e : Same H H1) (h : H a = none) : Same H (upd H1 a o) := fun b u hb => by
 rw [zQ (yK hb h)]
 exact e _ _ hb
mutual
theorem TAt.tups {H H' : Hp} (e : TupSame H H') : ∀ {t : Tm} {v : V}, TAt H t v -> TAt H' t v
 | .name x, v, h => by
   obtain ⟨a, e1, h2⟩ := TAt.name h
   subst e1
   exact TAt.mkName (e _ _ h2)
 | .node w ts, v, h => by
   obtain ⟨a, vs, e1, h2, hs⟩ := TAt.node h
   subst e1
   exact TAt.mkNode (e _ _ h2) (TAts.tups e hs)
theorem TAts.tups {H H' : Hp} (e : TupSame H H') : ∀ {ts : List Tm} {vs : List V}, TAts H ts vs -> TAts H' ts vs
 | [], vs, h => h
 | t :: ts, vs, h => by
   obtain ⟨v, r, e1, e2, e3⟩ := h
   exact ⟨v, r, e1, TAt.tups e e2, TAts.tups e e3⟩
end
structure KD (w : World) (K : PySem.W.Frag) (a : Addr) (kvs : List (Key × V)) : Prop where
 dict : ∀ (P : Program) (h : Heap), K.In h -> ∃ vs, KV kvs vs /\ h.DictOf (yG P w) a vs
def tKGet (w : World) (K : PySem.W.Frag) (td ty : TE) : TE := fun σ H Q => td σ H fun x H1 => ty σ H1 fun y H2 => ∃ a kvs k v, x = .ref a /\ y = kV k /\ KD w K a kvs /\ yP kvs k = some v /\ Q v H2
def entOk (w : World) : List DictEntry -> List (Str × Str) -> Prop
 | [], r => r = []
 | e :: es, r => ∃ x y t u r', r = (x, y) :: r' /\ e.hash = hashStr w x /\ e.key = .str x t /\ e.val = .str y u /\ entOk w es r'
theorem entOk.keys {w : World} {P : Program} : ∀ {es : List DictEntry} {r : List (Str × Str)}, entOk w es r -> ∀ e ∈ es, ∃ k, (yG P w).is k e.key = true /\ e.hash = (yG P w).hash k
 | [], _, _, e, he => nomatch he
 | e :: es, r, h, e', he => by
   obtain ⟨x, y, t, u, r', _, h1, h2, _, h4⟩ := h
   rcases List.mem_cons.mp he with rfl | he
   · exact ⟨.inr x, by rw [h2]; exact qP P w x t, h1⟩
   · exact entOk.keys h4 e' he
theorem cx_w {CX : CXT} {P : Program} {w : World} {K : PySem.W.Frag} {mg : Str -> Option Value} {base : Heap} {N : List Str} {qual : Str} {scope : Scope} {f : Addr} {cd : Value} {A : Around} {outer : List Env} {s : Shared} {H : Hp} {E : XK} : (jB CX P w K mg base N qual scope f cd A outer s H E).w = w := rfl
theorem bk_w {X : Cx} {xs ys : List Str} {scope : Scope} {C : Addr} {s₀ : Shared} {H₀ : Hp} {fp : List Addr} : (yE X xs ys scope C s₀ H₀ fp).w = X.w := rfl
theorem kit_same {K : PySem.W.Frag} {T : String} : PySem.W.kitOne K (.type T) (.type T) = some true := by
 unfold PySem.W.kitOne
 rw [if_pos (by simp)]
theorem wG {P : Program} {w : World} {K : PySem.W.Frag} {mg : Str -> Option Value} {base : Heap} {x : Str} {ps : List Str} {st : Stmt} {f : Addr} {fd : FuncData} {sp : Nat -> Sp} (F : Fun K x x st f fd) (b : Binds K fd ps []) (m : mg x = some (.ref f))
   (h0 : ∀ vs H Q E, ¬ sp 0 vs H Q E) (step : ∀ n, Has P w K mg base n x ps (sp n) -> FnOk P w K mg base CX0 (n + 1) f fd ps (sp (n + 1))) : ∀ n, FnOk P w K mg base CX0 n f fd ps (sp n)
 | 0 => ⟨fun vs H Q E h => (h0 vs H Q E h).elim, fun A outer s H args us vs Q E _ _ _ _ h => (h0 vs H Q E h).elim⟩
 | n + 1 => step n (yH F (wG F b m h0 step n) b m)
theorem qF (x : V) (xs : List V) : jR (x :: xs) (some 1) none = xs := by
 unfold jR
 have e : HT.sIx (x :: xs).length 0 (some ((1 : Nat) : Int)) = 1 := by rw [HT.sIx_nat, List.length_cons]; omega
 have e : HT.sIx (x :: xs).length 0 (some 1) = 1 := e
 rw [e, HT.sIx_none, List.drop_one, List.tail_cons, List.take_of_length_le (by rw [List.length_cons]; omega)]
theorem yX (x : V) (xs : List V) : ¬ (HT.sIx (x :: xs).length 0 (some 1) = 0 /\ HT.sIx (x :: xs).length (x :: xs).length none = (x :: xs).length) := by
 have e : HT.sIx (x :: xs).length 0 (some ((1 : Nat) : Int)) = 1 := by rw [HT.sIx_nat, List.length_cons]; omega
 have e : HT.sIx (x :: xs).length 0 (some 1) = 1 := e
 rw [e]
 omega
theorem Same.tup {K : PySem.W.Frag} {H H' : Hp} {a : Addr} {xs : List V} (e : Same H H') (h : SqT K H a xs) : SqT K H' a xs := by
 rcases h with (h | ⟨o, h⟩) | h
 · exact .inl (.inl (e _ _ h))
 · exact .inl (.inr ⟨o, e _ _ h⟩)
 · exact .inr h
theorem at0 {α : Type} {x : α} {xs : List α} : atI (x :: xs) 0 = some x := yB (j := 0) (xs := x :: xs) rfl
theorem at1 {α : Type} {x y : α} {xs : List α} : atI (x :: y :: xs) 1 = some y := yB (j := 1) (xs := x :: y :: xs) rfl
def dSay (p : Tm × Tm) : Dt := .tup [toD p.1, toD p.2]
def vW (r : List (Tm × Tm) × (Tm × Tm)) : Dt := .tup [.lst (r.1.map dSay), dSay r.2]
abbrev SAt (H : Hp) (p : Tm × Tm) (v : V) : Prop := DAt H (dSay p) v
abbrev SAts (H : Hp) (ps : List (Tm × Tm)) (vs : List V) : Prop := DAts H (ps.map dSay) vs
abbrev RAt (H : Hp) (r : List (Tm × Tm) × (Tm × Tm)) (v : V) : Prop := DAt H (vW r) v
theorem SAt.out {H : Hp} {p : Tm × Tm} {v : V} (h : SAt H p v) : ∃ a v1 v2, v = .ref a /\ H a = some (.tup [v1, v2]) /\ TAt H p.1 v1 /\ TAt H p.2 v2 := by
 obtain ⟨a, vs, e1, e2, u, r, e3, h1, u2, r2, e4, h2, e5⟩ := h
 have e5 : r2 = [] := e5
 subst e5; subst e4; subst e3
 exact ⟨a, u, u2, e1, e2, h1, h2⟩
theorem RAt.out {H : Hp} {r : List (Tm × Tm) × (Tm × Tm)} {v : V} (h : RAt H r v) : ∃ a l s vs, v = .ref a /\ H a = some (.tup [.ref l, s]) /\ H l = some (.lst vs) /\ SAts H r.1 vs /\ SAt H r.2 s := by
 obtain ⟨a, vs, e1, e2, u, q, e3, ⟨l, ws, e6, e7, h1⟩, u2, r2, e4, h2, e5⟩ := h
 have e5 : r2 = [] := e5
 subst e5; subst e4; subst e3; subst e6
 exact ⟨a, l, u2, ws, e1, e2, e7, h1, h2⟩
theorem SAts.length {H : Hp} {ps : List (Tm × Tm)} {vs : List V} (h : SAts H ps vs) : vs.length = ps.length := by
 have := DAts.length h
 rw [List.length_map] at this
 exact this
theorem SAts.getV {H : Hp} {ps : List (Tm × Tm)} {vs : List V} {i : Nat} {v : V} (h : SAts H ps vs) (hv : vs[i]? = some v) : ∃ p, ps[i]? = some p /\ SAt H p v := by
 have hi : i < ps.length := by rw [← h.length]; exact (List.getElem?_eq_some_iff.mp hv).1
 obtain ⟨u, h1, h2⟩ := DAts.get (d := dSay ps[i]) h (by rw [List.getElem?_map, List.getElem?_eq_getElem hi]; rfl)
 rw [hv] at h1
 cases h1
 exact ⟨_, List.getElem?_eq_getElem hi, h2⟩
def FitS (n m : Nat) (p : Tm × Tm) : Prop := (Fit n p.1 /\ wt p.1 <= m) /\ Fit n p.2 /\ wt p.2 <= m
theorem FitS.dfit {n m : Nat} {p : Tm × Tm} (h : FitS n m p) (hm : m <= 900) : DFit (n + 2) (dSay p) := by
 refine ⟨by simp, fun d hd => ?_⟩
 rcases List.mem_cons.mp hd with rfl | hd
 · exact h.1.1.dfit (Nat.le_trans h.1.2 hm)
 · rw [List.mem_singleton.mp hd]
   exact h.2.1.dfit (Nat.le_trans h.2.2 hm)
theorem DFit.up : ∀ {n : Nat} {d : Dt}, DFit n d -> DFit (n + 1) d
 | n, .non, _ => by cases n <;> trivial
 | n, .bl _, _ => by cases n <;> trivial
 | n, .int _, _ => by cases n <;> trivial
 | n, .str _, _ => by cases n <;> trivial
 | 0, .tup _, h => h.elim
 | 0, .lst _, h => h.elim
 | n + 1, .tup ds, h => ⟨h.1, fun d hd => DFit.up (h.2 d hd)⟩
 | n + 1, .lst ds, h => ⟨h.1, fun d hd => DFit.up (h.2 d hd)⟩
theorem rule_dfit {n m : Nat} {r : List (Tm × Tm) × (Tm × Tm)} (h : ∀ p ∈ r.1, FitS n m p) (h2 : FitS n m r.2) (hm : m <= 900) (hl : r.1.length <= 900) : DFit (n + 4) (vW r) := by
 refine ⟨by simp, fun d hd => ?_⟩
 rcases List.mem_cons.mp hd with rfl | hd
 · refine ⟨by rw [List.length_map]; omega, fun d hd => ?_⟩
   obtain ⟨p, hp, rfl⟩ := List.mem_map.mp hd
   exact (h p hp).dfit hm
 · rw [List.mem_singleton.mp hd]
   exact (h2.dfit hm).up
section
variable {X : Cx} (K : PySem.W.Frag)
theorem qD (h : X.K = K := by rfl) : IxR X (rIxL K) := by subst h; exact ix_list
theorem qC (h : X.K = K := by rfl) : IxR X (rIxT K) := by subst h; exact ix_tup
theorem sl_listK (h : X.K = K := by rfl) : SlR X (rSlL K) := by subst h; exact sl_list
theorem uS (h : X.K = K := by rfl) : OpR X (compareOp .In) (rIn K false) := by subst h; exact op_in_seq
theorem vG (h : X.K = K := by rfl) : xI X (.type "list") (fun xs H Q => ∃ p ys, xs = [.ref p] /\ (SqL K H p ys \/ SqT K H p ys) /\ ∀ l, H l = none -> Q (.ref l) (upd H l (.lst ys))) := by subst h; exact call_list_of
end
end L2
namespace L2
open PySem
abbrev Cs := List Nat
def glue (j : Cs) : List Cs -> Cs
 | [] => []
 | [s] => s
 | s :: r :: q => s ++ j ++ glue j (r :: q)
def jAnd : Cs := [32, 38, 32]
def jOr : Cs := [32, 124, 32]
def jOf (w : Str) : Cs := if w = "both" then jAnd else jOr
def wrN (w : Str) (ss : List Cs) : Cs := if w = "not" then 33 :: ss.headD [] else if ss = [] then w.cps.toList else 40 :: (glue (jOf w) ss ++ [41])
mutual
def wr : Tm -> Cs
 | .name x => x.cps.toList
 | .node w ts => wrN w (wrs ts)
def wrs : List Tm -> List Cs
 | [] => []
 | t :: ts => wr t :: wrs ts
end
def jS (j : Cs) : List Cs -> Cs
 | [] => []
 | s :: r => j ++ s ++ jS j r
theorem vT (j : Cs) : ∀ (s : Cs) (r : List Cs), glue j (s :: r) = s ++ jS j r
 | s, [] => by simp [glue, jS]
 | s, a :: r => by
   rw [glue, vT j a r, jS]
   simp
end L2
namespace L2
open PySem
def toS (s : Cs) : Str := ⟨s.toArray⟩
theorem uY (j : Cs) : ∀ (r : List Cs) (acc : Cs), ((r.map toS).foldl (fun acc p => acc ++ (toS j).cps ++ p.cps) acc.toArray) = (acc ++ jS j r).toArray
 | [], acc => by simp [jS]
 | s :: r, acc => by
   rw [List.map_cons, List.foldl_cons]
   have e : acc.toArray ++ (toS j).cps ++ (toS s).cps = (acc ++ j ++ s).toArray := by simp [toS]
   rw [e, uY j r, jS]
   simp
theorem glued_toS (j : Cs) (ss : List Cs) : Builtin.Str.glued (toS j) (ss.map toS) = toS (glue j ss) := by
 cases ss with
 | nil => rfl
 | cons s r =>
   show (⟨(r.map toS).foldl (fun acc p => acc ++ (toS j).cps ++ p.cps) (toS s).cps⟩ : Str) = _
   rw [vT, show (toS s).cps = s.toArray from rfl, uY]
   rfl
end L2
namespace L2
open PySem PySem.Builtin PySem.Builtin.Str PySem.StrLaws
structure Mark (y : Cs) (k m : Nat) : Prop where
 at_ : y[k]? = some m
 once : ∀ j, y[j]? = some m -> j = k
end L2
namespace L2
open PySem PySem.Spec PyProof.Rows PySem.Builtin PySem.Builtin.Str
section
variable {X : Cx}
end
structure HasM (P : Program) (w : World) (K : PySem.W.Frag) (mg : Str -> Option Value) (base : Heap) (k : Nat) (C : Addr) (m : Str) (ps : List Str) (sp : Sp) : Prop where
 ex : ∃ f fd, FnOk P w K mg base CX0 k f fd ps sp /\ Binds K fd ps [] /\ Meth K C m f
structure HasI (P : Program) (w : World) (K : PySem.W.Frag) (mg : Str -> Option Value) (base : Heap) (k : Nat) (C : Addr) (x : Str) (ps : List Str) (sp : Sp) : Prop where
 ex : ∃ f fd, FnOk P w K mg base CX0 k f fd ps sp /\ Binds K fd ps [] /\ Mk K C f /\ mg x = some (.ref C)
section
variable {X : Cx} {k : Nat} {C : Addr} {x m : Str} {ps : List Str} {sp : Sp} {p pos apos : Pos} {e o : Expr} {es : List Expr} {ta : TE} {t : TA}
theorem yN {pl : Sem Bool} (h : HasM X.prog X.w X.K X.mg X.base k C m ps sp) (c : Cls X.K C) (hr : Room k X.A) (he : PE X o ta) (ha : PA X (e :: es) t)
   (hst : starEach (e :: es) X.env = (false, eval e X.env) :: starEach es X.env := by rfl) (hpl : (backTo pos (starEach es X.env)).any (·.1) = false := by rfl)
   (ht : eval (.Call (.Attribute o m apos) (e :: es) [] pos) X.env = (do
     let ov ← eval o X.env
     standAt apos.atName
     let (f, first) ← holding [ov] (getMethod ov m pl)
     callWith pos f first (backTo pos (starEach (e :: es) X.env)) (backToKw pos (keywordEach [] X.env))) := by rfl) :
   PE X (.Call (.Attribute o m apos) (e :: es) [] pos) (yW C m sp [] E0 ta t) := by
 obtain ⟨f, fd, F, b, mm⟩ := h.ex
 exact pe_meth (pl := pl) he c mm F hr b .nil pass0 ha hst hpl ht
theorem uO (h : HasI X.prog X.w X.K X.mg X.base k C x ps sp) (hr : Room (k + 1) X.A) (hg : Gl X x) (ha : PA X (e :: es) t) (hdb : (x == ("__debug__" : Str)) = false := by decide)
   (he : starEach (e :: es) X.env = (false, eval e X.env) :: starEach es X.env := by rfl) (hpl : (backTo pos (starEach es X.env)).any (·.1) = false := by rfl) :
   PE X (.Call (.Name x p) (e :: es) [] pos) (vK C sp [] E0 t) := by
 obtain ⟨f, fd, F, b, M, m⟩ := h.ex
 exact pe_make M F hr hg m b .nil pass0 ha hdb he hpl
end
def rdF (x : Cs) (k : Nat) : List (Str × V) := [("text", .str (toS x)), ("at", .int k)]
def RdAt (C : Addr) (H : Hp) (r : Addr) (x : Cs) (k : Nat) : Prop := ∃ dx, H r = some (.ins C dx (rdF x k))
def SameX (r : Addr) (H H' : Hp) : Prop := ∀ b o, H b = some o -> b ≠ r -> H' b = some o
theorem SameX.refl (r : Addr) (H : Hp) : SameX r H H := fun _ _ h _ => h
theorem Same.x {r : Addr} {H H' : Hp} (a : Same H H') : SameX r H H' := fun c o h _ => a c o h
theorem SameX.upd {r : Addr} {H H1 : Hp} {o : HO} (a : SameX r H H1) : SameX r H (L2.upd H1 r o) := fun c o' h n => by
 rw [zQ n]
 exact a c o' h n
theorem RdAt.same {C : Addr} {H H' : Hp} {r : Addr} {x : Cs} {k : Nat} (h : RdAt C H r x k) (e : Same H H') : RdAt C H' r x k := by
 obtain ⟨dx, h⟩ := h
 exact ⟨dx, e _ _ h⟩
theorem F.lk_list_keys : typeLookup (.type "list") "keys" = pure none := by rw [typeLookup_type, PySem.builtinLookup_eq_fast]; kernel_rfl
theorem F.lk_list_ga : typeLookup (.type "list") "__getattr__" = pure none := by rw [typeLookup_type, PySem.builtinLookup_eq_fast]; kernel_rfl
theorem F.sub_ae : isSubtype (.type "AttributeError") (.type "AttributeError") = pure true := by rw [isSubtype_type]; kernel_rfl
def AeAt (h h' : Heap) (e : Addr) : Prop := (∀ b u, h.get? b = some u -> h'.get? b = some u) /\ ∃ o, h'.get? e = some o /\ o.cls = .type "AttributeError"
section
variable {prog : Program} {w : World} {A : Around} {E : Value -> Shared -> Prop} {s : Shared} {a : Addr} {its : Array Value} {n : Nat} {sl : Array (Option Value)}
theorem raiseAttr {α : Type} {o : Value} {name msg : Str} {Q : α -> Shared -> Prop} (hA : A.handled = none) (hm : msg.length <= sizeLine)
   (hq : ∀ h' t' e, AeAt s.heap h' e -> E (.ref e) { s with heap := h', toks := t' }) : wpAny (model prog w) A (raiseAttrError o name msg : Sem α) Q E s := by
 unfold raiseAttrError
 refine wpAny_bind (wpAny_mkStr (wpAny_bind ?_) hm)
 unfold newExc newTuple
 refine wpAny_bind (wpAny_newObj_type ?_ (by size_fits))
 refine wpAny_bind (m := firstArgMember _ _) (wpAny_of_eq (a := Value.none) (by
   simp only [firstArgMember]
   rw [show ((Manifest.find? "AttributeError").elim false fun t => t.mro.contains "StopIteration" || t.mro.contains "SystemExit") = false by decide +kernel]
   rfl) ?_)
 refine wpAny_newObj_type ?_ (by size_fits)
 refine wpAny_bind (wpAny_mkText ?_)
 refine wpAny_bind ?_
 obtain ⟨h, g, d, t, os⟩ := s
 dsimp only at hq ⊢
 have hk1 : ∀ b u, h.get? b = some u -> (h.push { cls := Value.type "tuple", data := Data.seq #[Value.str msg t] }).get? b = some u := fun b u e => Heap.get?_push_of_some _ e
 generalize h.push { cls := Value.type "tuple", data := Data.seq #[Value.str msg t] } = h1 at hk1 ⊢
 have hE := Heap.get?_push_size h1 (o := { cls := Value.type "AttributeError", data := Data.fields (#[Value.ref h.objs.size, Value.none, Value.none, Value.none, Value.bool false, Value.none] ++ ownMembersOf (Value.type "AttributeError") [Value.str msg t]) }) rfl
 have hk2 : ∀ b u, h1.get? b = some u -> (h1.push { cls := Value.type "AttributeError", data := Data.fields (#[Value.ref h.objs.size, Value.none, Value.none, Value.none, Value.bool false, Value.none] ++ ownMembersOf (Value.type "AttributeError") [Value.str msg t]) }).get? b = some u := fun b u e => Heap.get?_push_of_some _ e
 have hne : ∀ b u, h1.get? b = some u -> b ≠ h1.objs.size := fun b u e => Nat.ne_of_lt (Heap.lt_size e)
 generalize h1.push { cls := Value.type "AttributeError", data := Data.fields (#[Value.ref h.objs.size, Value.none, Value.none, Value.none, Value.bool false, Value.none] ++ ownMembersOf (Value.type "AttributeError") [Value.str msg t]) } = h2 at hE hk2 ⊢
 generalize h1.objs.size = e at hE hne ⊢
 have hT : (⟨h2, g, d, t + 1 + 1, os⟩ : Shared).TypeIs (.ref e) "AttributeError" := ⟨_, hE, rfl⟩
 have f1 := F.sub_ae
 unfold noteAttr
 dsimp only
 refine wpAny_bind ?_
 unfold lacksNameAndObj
 dsimp only
 refine wpAny_bind (wpAny_isInstance hT f1 ?_)
 rw [if_neg (by decide)]
 refine wpAny_bind (wpAny_load hE ?_)
 dsimp only
 rw [if_neg (by simp [ownMembersOf, unsetMember, rawInt]), if_neg (by simp [ownMembersOf, unsetMember, doubtfulMember, rawInt])]
 refine wpAny_pure ?_
 rw [if_pos rfl]
 refine wpAny_bind (wpAny_rule ?_)
 refine wpAny_bind (wpAny_typeOf hT ?_)
 dsimp only
 unfold layMembers
 refine wpAny_bind (wpAny_load hE ?_)
 dsimp only
 refine wpAny_update hE ?_
 refine wpAny_raiseNew_none hA (hq _ _ _ ⟨fun b u hb => ?_, ⟨_, Heap.get?_update_self _ hE (Obj.isFreed_of_fields (Obj.data_mapFields rfl _)), Obj.cls_mapFields _ _⟩⟩)
 exact (Heap.get?_update_other _ _ (Ne.symm (hne b u (hk1 b u hb)))).trans (hk2 b u (hk1 b u hb))
end
section
variable {prog : Program} {w : World} {A : Around} {E : Value -> Shared -> Prop} {h : Heap} {g : Array GenState} {d : Drawn} {t : Nat} {os : OsState} {a : Addr} {its : Array Value} {n : Nat} {sl : Array (Option Value)}
theorem wR {tk : Tok} {Q : PySem.Fin -> Shared -> Prop} (hA : A.handled = none) (hx : h.get? a = some ⟨.type "list", none, .seq its n, sl⟩)
   (hq : ∀ h' t' e, AeAt h h' e -> E (.ref e) ⟨h', g, d, t', os⟩) :
   wpAny (model prog w) A (Builtin.«object.__getattribute__» ⟨[.ref a, .str "keys" tk], []⟩) Q E ⟨h, g, d, t, os⟩ := by
 have hT : (⟨h, g, d, t, os⟩ : Shared).TypeIs (.ref a) "list" := ⟨_, hx, rfl⟩
 have f4 := F.lk_list_keys
 repeat (any_goals (first | assumption | wp_step))
 exact raiseAttr hA (by decide +kernel) hq
theorem nokeys_call {tk : Tok} {R : Result -> Shared -> Prop} (hA : A.handled = none) (hx : h.get? a = some ⟨.type "list", none, .seq its n, sl⟩)
   (hq : ∀ h' t' e, AeAt h h' e -> R (.error (.ref e)) ⟨h', g, d, t', os⟩) :
   codeAny (model prog w) A (.call (.builtin "list.__getattribute__") ⟨[.ref a, .str "keys" tk], []⟩) R ⟨h, g, d, t, os⟩ :=
 codeAny_call_builtin PySem.F.slot_list_getattribute.plain PySem.F.entry_list_ga (PySem.F.slot_list_getattribute.check _ _ _ _ _ _ _ _ (show (⟨h, g, d, t, os⟩ : Shared).TypeIs (.ref a) "list" from ⟨_, hx, rfl⟩) (PySem.F.args_list_getattribute_2 _ _) (wR hA hx hq))
theorem nokeys_by {tk : Tok} {Q : Value -> Shared -> Prop} (hA : A.handled = none) (hx : h.get? a = some ⟨.type "list", none, .seq its n, sl⟩)
   (hq : ∀ h' t' e, AeAt h h' e -> E (.ref e) ⟨h', g, d, t', os⟩) : wpAny (model prog w) A (getAttrBy (.ref a) (.str "keys" tk) false) Q E ⟨h, g, d, t, os⟩ := by
 have hT : (⟨h, g, d, t, os⟩ : Shared).TypeIs (.ref a) "list" := ⟨_, hx, rfl⟩
 have f2 := PySem.F.slot_list_getattribute.lookup
 have f3 := PySem.F.slot_list_getattribute.bind (.ref a)
 have f5 := F.lk_list_ga
 have f6 := F.sub_ae
 repeat (any_goals (first | assumption | wp_step))
 refine nokeys_call hA hx fun h' t' e ae => ?_
 have hT2 : (⟨h', g, d, t', os⟩ : Shared).TypeIs (.ref e) "AttributeError" := ae.2
 repeat (any_goals (first | assumption | exact hq _ _ _ ae | wp_step))
theorem nokeys {Q : Option Value -> Shared -> Prop} (hA : A.handled = none) (hx : h.get? a = some ⟨.type "list", none, .seq its n, sl⟩)
   (hq : ∀ h' t', (∀ b u, h.get? b = some u -> h'.get? b = some u) -> Q none ⟨h', g, d, t', os⟩) : wpAny (model prog w) A (getAttr? (.ref a) "keys") Q E ⟨h, g, d, t, os⟩ := by
 unfold getAttr? getAttrBy?
 refine wpAny_bind (wpAny_mkText (wpAny_bind (wpAny_attempt (nokeys_by hA hx fun h' t' e ae => ?_))))
 dsimp only
 have hT2 : (⟨h', g, d, t', os⟩ : Shared).TypeIs (.ref e) "AttributeError" := ae.2
 refine wpAny_bind (wpAny_isInstance hT2 F.sub_ae ?_)
 rw [if_pos rfl]
 exact wpAny_pure (hq _ _ ae.1)
end
theorem F.plain_dul : plainId "dict.update.loop" = true := by decide +kernel
theorem F.entry_dul : entryFor table "dict.update.loop" = some Builtin.«dict.update.loop» := entryFor_of_tree (by kernel_rfl)
section
variable {prog : Program} {w : World} {Kt : Type} [DecidableEq Kt] {knd : KeyKind prog w Kt} {A : Around} {E : Value -> Shared -> Prop} {s : Shared}
theorem stored_take {kvs : List (Kt × Value)} (hn : (kvs.map (·.1)).Nodup) {i : Nat} {k : Kt} {v : Value} (h : kvs[i]? = some (k, v)) : stored (kvs.take i) k v = kvs.take (i + 1) := by
 obtain ⟨il, ie⟩ := List.getElem?_eq_some_iff.mp h
 have hno : (kvs.take i).any (fun kv => kv.1 = k) = false := by
   rw [Bool.eq_false_iff]
   intro z
   obtain ⟨x, hx, hk⟩ := List.any_eq_true.mp z
   have hk : x.1 = k := by simpa using hk
   obtain ⟨j, hj, e⟩ := List.getElem_of_mem hx
   rw [List.length_take] at hj
   rw [List.getElem_take] at e
   exact List.pairwise_iff_getElem.mp hn j i (by rw [List.length_map]; omega) (by rw [List.length_map]; omega) (by omega) (by simp [e, ie, hk])
 unfold stored
 rw [hno, List.take_succ_eq_append_getElem il, ie]
 rfl
theorem pairs_loop {R : Result -> Shared -> Prop} {d it l : Addr} {its : Array Value} {kvs : List (Kt × Value)} {h0 : Heap} (hA : A.handled = none) (hdi : d ≠ it) (hl : h0.IsList l its) (hd0 : ∀ u, h0.get? d ≠ some u) (hi0 : ∀ u, h0.get? it ≠ some u)
   (hn : (kvs.map (·.1)).Nodup) (hsz : kvs.length <= sizeLine) (hlen : its.size = kvs.length) (hp : ∀ (i : Nat) (k : Kt) (v : Value), kvs[i]? = some (k, v) -> ∃ (a : Addr) (key : Value), its[i]? = some (Value.ref a) /\ IsTup h0 a #[key, v] /\ knd.is k key = true) :
   ∀ (m i : Nat) (t : Tok) (s : Shared), kvs.length - i = m -> i <= kvs.length -> s.heap.IsListIter it l i -> s.heap.DictOf knd d (kvs.take i) -> (∀ b u, h0.get? b = some u -> s.heap.get? b = some u) ->
   (∀ h' t', (∀ b u, h0.get? b = some u -> h'.get? b = some u) -> h'.DictOf knd d kvs -> R (.ok (.ret .none)) { s with heap := h', toks := t' }) ->
   codeAny (model prog w) A (.builtin "dict.update.loop" ⟨[.ref d, .ref it, .int i t, .none], []⟩) R s := by
 intro m
 induction m with
 | zero =>
   intro i t s hm hi hit hd hk hR
   have hin : i = kvs.length := by omega
   subst hin
   have hl' : s.heap.IsList l its := by obtain ⟨o, ho, r⟩ := hl; exact ⟨o, hk _ _ ho, r⟩
   refine codeAny_builtin F.entry_dul ?_
   rw [Around.under_plainId F.plain_dul _]
   show wpAny _ A.in1 (pyNext (.ref it) >>= _) _ _ s
   refine wpAny_bind (wpAny_pyNext_list_end (A := A.in1) hA hit hl' (by rw [Array.getElem?_eq_none_iff]; omega) fun h' he => ?_)
   rw [List.take_of_length_le (Nat.le_refl _)] at hd
   show wpAny _ A.in1 (Builtin.Dict.addKeywords d [] >>= _) _ _ _
   refine wpAny_bind (wpAny_pure (wpAny_pure (hR h' s.toks (fun b u hb => he b u (fun z => hi0 u (by rw [← z]; exact hb)) (hk b u hb)) (hd.extBut he hdi))))
 | succ m ih =>
   intro i t s hm hi hit hd hk hR
   have hlt : i < kvs.length := by omega
   have hl' : s.heap.IsList l its := by obtain ⟨o, ho, r⟩ := hl; exact ⟨o, hk _ _ ho, r⟩
   obtain ⟨a, key, ha, ht, hkey⟩ := hp i kvs[i].1 kvs[i].2 (List.getElem?_eq_getElem hlt)
   refine codeAny_builtin F.entry_dul ?_
   rw [Around.under_plainId F.plain_dul _]
   show wpAny _ A.in1 (pyNext (.ref it) >>= _) _ _ s
   refine wpAny_bind (wpAny_pyNext_list_item (A := A.in1) hit hl' ha fun h1 hit1 hs1 => ?_)
   have hk1 : ∀ b u, h0.get? b = some u -> h1.get? b = some u := fun b u hb => (hs1.2 b (fun z => hi0 u (by rw [← z]; exact hb))).trans (hk b u hb)
   have hd1 : h1.DictOf knd d (kvs.take i) := hd.sameBut hs1 hdi
   obtain ⟨ot, hot, hct, nt, hdt⟩ := ht
   have hot1 := hk1 _ _ hot
   have hT : ({ s with heap := h1 } : Shared).TypeIs (.ref a) "tuple" := ⟨_, hot1, hct⟩
   refine wpAny_bind (wpAny_holding (wpAny_bind ?_))
   refine wpAny_tryCatch ?_
   unfold Builtin.Dict.pairItems
   refine wpAny_bind (wpAny_typeOf hT ?_)
   rw [if_pos (by decide)]
   refine wpAny_bind (wpAny_seqItems hot1 hdt (wpAny_pure ?_))
   refine wpAny_holding (wpAny_dictSet_pairs (kvs := kvs.take i) hkey hd1 (fun h2 hd2 hs2 => ?_) (by rw [List.length_take]; omega))
   rw [stored_take hn (show kvs[i]? = some (kvs[i].1, kvs[i].2) from List.getElem?_eq_getElem hlt)] at hd2
   refine wpAny_pure ⟨plainId_quiet F.plain_dul _, ?_⟩
   have hk2 : ∀ b u, h0.get? b = some u -> h2.get? b = some u := fun b u hb => (hs2.2 b (fun z => hd0 u (by rw [← z]; exact hb))).trans (hk1 b u hb)
   have hit2 : h2.IsListIter it l (i + 1) := by obtain ⟨o, ho, r⟩ := hit1; exact ⟨o, (hs2.2 _ (Ne.symm hdi)).trans ho, r⟩
   exact ih (i + 1) _ { s with heap := h2, toks := s.toks + 1 } (by omega) hlt hit2 hd2 hk2 hR
theorem uA {l : Addr} {its : Array Value} {kvs : List (Kt × Value)} {Q : Value -> Shared -> Prop} (hA : A.handled = none) (hl : PlainL s.heap l its)
   (hn : (kvs.map (·.1)).Nodup) (hsz : kvs.length <= sizeLine) (hlen : its.size = kvs.length) (hp : ∀ (i : Nat) (k : Kt) (v : Value), kvs[i]? = some (k, v) -> ∃ (a : Addr) (key : Value), its[i]? = some (Value.ref a) /\ IsTup s.heap a #[key, v] /\ knd.is k key = true)
   (h : ∀ h' t', (∀ b u, s.heap.get? b = some u -> h'.get? b = some u) -> h'.DictOf knd s.heap.objs.size kvs -> Q (.ref s.heap.objs.size) { s with heap := h', toks := t' }) :
   wpAny (model prog w) A (call (.type "dict") [.ref l]) Q E s := by
 refine callType_codes (Q₁ := fun obj s₁ => obj = .ref s.heap.objs.size /\ s₁ = { s with heap := s.heap.push { cls := .type "dict", data := .dict #[] } }) PySem.F.kt_called_dict (PySem.F.kt_typeCall_dict_1 _) PySem.F.entry_dict_init (kt_code_dict_new _ ⟨rfl, rfl⟩) ?_
 rintro obj s₁ ⟨rfl, rfl⟩
 have hnew : (s.heap.push { cls := .type "dict", data := .dict #[] }).DictOf knd s.heap.objs.size [] := Heap.DictOf.new s.heap
 refine ⟨hnew.typeIs, PySem.F.args_dict_init_2 _ _, ?_⟩
 obtain ⟨ol, nl, hol, hlc, hld, hls⟩ := hl
 have hol1 : (s.heap.push { cls := .type "dict", data := .dict #[] }).get? l = some ol := Heap.get?_push_of_some _ hol
 have hT : ({ s with heap := s.heap.push { cls := .type "dict", data := .dict #[] } } : Shared).TypeIs (.ref l) "list" := ⟨_, hol1, hlc⟩
 unfold Builtin.«dict.__init__»
 refine wpAny_bind ?_
 unfold Builtin.Dict.selfAndRest
 refine wpAny_bind (wpAny_notOrdered_dict hnew.typeIs ?_)
 show wpAny _ _ (pure (s.heap.objs.size, [Value.ref l])) _ _ _
 refine wpAny_pure ?_
 show wpAny _ _ (Builtin.Dict.updateFrom "dict.__init__" s.heap.objs.size (.ref l) [] .none) _ _ _
 unfold Builtin.Dict.updateFrom
 refine wpAny_bind (wpAny_typeOf hT ?_)
 rw [if_pos (by decide)]
 have hkd : ∀ b u, s.heap.get? b = some u -> (s.heap.push { cls := .type "dict", data := .dict #[] }).get? b = some u := fun b u e => Heap.get?_push_of_some _ e
 have hd0 : ∀ u, s.heap.get? s.heap.objs.size ≠ some u := fun u z => Nat.lt_irrefl _ (Heap.lt_size z)
 obtain ⟨hp0, g, d, t, os⟩ := s
 dsimp only at *
 generalize hp0.push { cls := .type "dict", data := .dict #[] } = h1 at hnew hol1 hT hkd ⊢
 generalize hp0.objs.size = D at hnew hd0 h ⊢
 obtain ⟨c1, c2, c3, c4⟩ := ol
 dsimp only at hlc hld hls
 subst hlc hld hls
 refine wpAny_bind (nokeys (A := A.in1.in1) hA hol1 fun h2 t2 hk2 => ?_)
 rw [if_pos (by rfl)]
 refine wpAny_bind (wpAny_rule ?_)
 have hl2 : h2.IsList l its := ⟨_, hk2 _ _ hol1, rfl, _, rfl⟩
 refine wpAny_bind (wpAny_pyIter_list hl2 ?_)
 refine wpAny_pure ⟨plainId_quiet F.plain_dul _, ?_⟩
 have hd2 := hnew.keep hk2
 have hit0 : ∀ u, hp0.get? h2.objs.size ≠ some u := fun u z => Nat.lt_irrefl _ (Heap.lt_size (hk2 _ _ (hkd _ _ z)))
 have hDi : D ≠ h2.objs.size := fun z => by
   obtain ⟨o, _, _, ho, _⟩ := hd2
   exact Nat.lt_irrefl _ (by have := Heap.lt_size ho; rw [z] at this; exact this)
 refine pairs_loop (h0 := hp0) (kvs := kvs) (A := A.in1) hA hDi ⟨_, hol, rfl, _, rfl⟩ hd0 hit0 hn hsz hlen hp kvs.length 0 _ _ (by omega) (Nat.zero_le _) ⟨_, Heap.get?_push_size _ rfl, rfl, rfl⟩ (hd2.push _) (fun b u hb => Heap.get?_push_of_some _ (hk2 _ _ (hkd _ _ hb))) fun h' t' hk' hd' => ?_
 exact ⟨rfl, h h' t' hk' hd'⟩
end
section
variable {X : Cx}
theorem pairs_of {P : Program} {w : World} {h : Heap} : ∀ (kvs : List (Key × V)) (as : List Addr), (∀ (i : Nat) (k : Key) (v : V), kvs[i]? = some (k, v) -> ∃ a its, as[i]? = some a /\ Vals [kV k, v] its /\ IsTup h a its.toArray) ->
   ∃ vs : List (Key × Value), KV kvs vs /\ ∀ (i : Nat) (k : Key) (v : Value), vs[i]? = some (k, v) -> ∃ (a : Addr) (key : Value), as[i]? = some a /\ IsTup h a #[key, v] /\ (yG P w).is k key = true
 | [], as, _ => ⟨[], .nil, fun i k v e => by simp at e⟩
 | (k, v) :: kvs, as, hh => by
   obtain ⟨a, its, h1, h2, h3⟩ := hh 0 k v rfl
   cases as with
   | nil => simp at h1
   | cons a0 as =>
     simp at h1
     subst h1
     obtain ⟨ku, vu, rfl, rk, rv⟩ := h2.two
     obtain ⟨vs, g1, g2⟩ := pairs_of (P := P) (w := w) kvs as fun i k v e => by
       obtain ⟨a, its, e1, e2⟩ := hh (i + 1) k v (by simpa using e)
       exact ⟨a, its, by simpa using e1, e2⟩
     refine ⟨(k, vu) :: vs, .cons ⟨rfl, rv⟩ g1, fun i k' v' e => ?_⟩
     cases i with
     | zero =>
       simp at e
       obtain ⟨rfl, rfl⟩ := e
       exact ⟨a0, ku, rfl, h3, kV_is rk⟩
     | succ i =>
       obtain ⟨a, key, e1, e2⟩ := g2 i k' v' (by simpa using e)
       exact ⟨a, key, by simpa using e1, e2⟩
theorem wT {κ : Type} : ∀ {kvs : List (κ × V)} {vs : List (κ × Value)}, KV kvs vs -> vs.map (·.1) = kvs.map (·.1)
 | _, _, .nil => rfl
 | _, _, .cons h r => by rw [List.map_cons, List.map_cons, wT r, h.1]
theorem call_dictP : xI X (.type "dict") (fun xs H Q => X.calm = true /\ ∃ (p : Addr) (as : List Addr) (kvs : List (Key × V)), xs = [.ref p] /\ SqL X.K H p (as.map V.ref) /\ as.length = kvs.length /\ (kvs.map (·.1)).Nodup /\
   (∀ (i : Nat) (k : Key) (v : V), kvs[i]? = some (k, v) -> ∃ a, as[i]? = some a /\ SqT X.K H a [kV k, v]) /\ ∀ l, H l = none -> Q (.ref l) (upd H l (.dK kvs))) := by
 intro pins s σ H xs us Q I r h
 obtain ⟨hc, p, as, kvs, rfl, hp, hlen, hn, hk, q⟩ := h
 obtain ⟨u, rfl, ru⟩ := jH r
 cases ru
 obtain ⟨its, rv, hl, hz⟩ := I.list hp
 have hil := rv.length
 rw [List.length_map] at hil hz
 obtain ⟨vs, g1, g2⟩ := pairs_of (P := X.prog) (w := X.w) (h := s.heap) kvs as fun i k v e => by
   obtain ⟨a, e1, e2⟩ := hk i k v e
   obtain ⟨its, r2, t2, _⟩ := I.tuple e2
   exact ⟨a, its, e1, r2, t2⟩
 have hvl : kvs.length = vs.length := Paired.length g1
 refine uA (knd := yG X.prog X.w) (kvs := vs) (I.ok.hd hc) hl (by rw [wT g1]; exact hn) (by omega) (by rw [List.size_toArray]; omega) (fun i k v e => ?_) fun h' t' hk' hd' => ?_
 · obtain ⟨a, key, e1, e2, e3⟩ := g2 i k v e
   obtain ⟨u, h1, h2⟩ := rv.get (i := i) (x := V.ref a) (by rw [List.getElem?_map, e1]; rfl)
   cases h2
   exact ⟨a, key, by simpa using h1, e2, e3⟩
 · exact ⟨.ref s.heap.objs.size, _, I.laid (a := s.heap.objs.size) (o := .dK kvs) (t' := t') hk' (Nat.le_refl _) (dk_new (by omega) (beq_eq_false_iff_ne.mpr (Ne.symm (Nat.ne_of_lt I.big))) g1 hd'), rfl, q _ (I.hok.fresh (Nat.le_refl _))⟩
end
end L2
namespace L2
open PySem PySem.Spec PyProof.Rows PySem.W
section
variable {prog : Program} {w : World} {A : Around} {E : Value -> Shared -> Prop} {s : Shared} {T : String} {r d : Addr} {n : Nat} {P : Nat -> Value -> Prop} {OK : Heap -> Prop}
theorem strs_of : ∀ {vs : List Value} {ss : List Str}, vs.length = ss.length -> (∀ (i : Nat) (v : Value) (x : Str), vs[i]? = some v -> ss[i]? = some x -> ∃ t, v = .str x t) -> StrsAre vs ss
 | [], [], _, _ => .nil
 | [], _ :: _, h, _ => by simp at h
 | _ :: _, [], h, _ => by simp at h
 | v :: vs, x :: ss, h, hh => by
   obtain ⟨t, rfl⟩ := hh 0 v x rfl rfl
   exact .cons x t (strs_of (by simpa using h) fun i v' x' h1 h2 => hh (i + 1) v' x' (by simpa using h1) (by simpa using h2))
theorem strs_vals : ∀ {vs : List Value} {ss : List Str}, StrsAre vs ss -> Vals (ss.map V.str) vs
 | _, _, .nil => .nil
 | _, _, .cons y t h => .cons ⟨t, rfl⟩ (strs_vals h)
theorem sorted_src {Q : Value -> Shared -> Prop} (K : KdlSrc prog w T r d n P OK) (hh : A.handled = none) (hok : OK s.heap) (hn : n < 64) {ss : List Str} (hl : ss.length = n) (hP : ∀ (i : Nat) (v : Value) (x : Str), P i v -> ss[i]? = some x -> ∃ t, v = .str x t)
   (h : ∀ (h1 h' : Heap) (tk : Nat) (vs' : List Value) (ss' : List Str) (e : Nat), (∀ b o, s.heap.get? b = some o -> h1.get? b = some o) -> (∀ b o, h1.get? b = some o -> h'.get? b = some o) -> h'.get? h1.objs.size = some { cls := .type "list", data := .seq vs'.toArray e } -> StrsAre vs' ss' -> ss'.Perm ss -> sortedS ss' = true -> Q (.ref h1.objs.size) { s with heap := h', toks := tk }) :
   wpAny (model prog w) A (call (.builtin "sorted") [.ref r]) Q E s := by
 have hs : sizeLine = 16777216 := sizeLine_eq
 refine Calls.call_function_entry kind_sorted plain_sorted entry_sorted (args_sorted1 _) ?_
 unfold Builtin.«sorted»
 refine wpAny_bind (m := checkCount "sorted" 1 1 _) (wpAny_pure ?_)
 refine wpAny_bind (kdu_collect (A := A.in1) K hh hok (by omega) fun h' tk acc hk hacc => ?_)
 have hl2 : acc.toList.length = n := by rw [Array.length_toList]; exact hacc.1
 have hS : StrsAre acc.toList ss := strs_of (by omega) fun i v x h1 h2 => hP i v x (hacc.2 i v (by rw [← Array.getElem?_toList]; exact h1)) h2
 generalize acc.toList = vs at hl2 hS
 refine wpAny_bind (wpAny_newList ?_ (by omega))
 have hoL : (h'.push (seqObj "list" vs.toArray 0)).get? h'.objs.size = some (seqObj "list" vs.toArray 0) := Heap.get?_push_size _ rfl
 show wpAny _ _ _ _ _ { s with heap := h'.push (seqObj "list" vs.toArray 0), toks := tk }
 refine wpAny_bind (wpAny_holding (wpAny_call_entry slot_list_sort ⟨_, hoL, rfl⟩ entry_list_sort (list_sort_treeK (A := A.in1.in1) strKind_oneLt hoL hS.keysOf (fun v₁ v₂ rest e => keyKind_strs (by rw [← e]; exact hS)) (by omega) fun st' a1 a2 => ⟨_, rfl, ?_⟩) (args_list_sort _)))
 obtain ⟨ss', h1, h2, h3⟩ := sorted_out_str hS a1 a2
 obtain ⟨e, he⟩ := sortedHeap_at (out := (arrOf st').map (·.2)) hoL
 refine wpAny_pure ⟨_, rfl, h h' _ tk _ ss' e hk (fun b o hb' => ?_) (by rw [Array.toArray_toList]; exact he) h1 h2 h3⟩
 have hlt := Heap.lt_size hb'
 rw [sortedHeap_old (Nat.ne_of_lt hlt) (by rw [size_push']; exact Nat.lt_succ_of_lt hlt)]
 exact Heap.get?_push_of_some _ hb'
end
section
variable {X : Cx}
theorem call_sortedD : xI X (.builtin "sorted") (fun xs H Q => X.calm = true /\ ∃ (p : Addr) (kvs : List (Key × V)) (zs : List Str), xs = [.ref p] /\ H p = some (.dK kvs) /\ kvs.map (·.1) = zs.map Sum.inr /\ zs.length < 64 /\
   ∀ l zs', H l = none -> zs'.Perm zs -> sortedS zs' = true -> Q (.ref l) (upd H l (.lst (zs'.map V.str)))) := by
 intro pins s σ H xs us Q I r h
 obtain ⟨hc, p, kvs, zs, rfl, hp, hk, h64, q⟩ := h
 obtain ⟨u, rfl, ru⟩ := jH r
 cases ru
 obtain ⟨z, hd, vs, rel, dd⟩ := dk_rd I.hok (.inl hp)
 obtain ⟨ep, hat⟩ := dd.dictAt
 have hvl : kvs.length = vs.length := Paired.length rel
 have hkl : kvs.length = zs.length := by have := congrArg List.length hk; rwa [List.length_map, List.length_map] at this
 have hkeys : vs.map (·.1) = zs.map Sum.inr := (wT rel).trans hk
 refine sorted_src (kdl_dict (knd := yG X.prog X.w) (kvs := vs) (ep := ep) hd) (I.ok.hd hc) hat (by omega) (ss := zs) (by omega) (fun i v x hP hx => ?_) fun h1 h' tk vs' ss' e k1 k2 hB hS hp2 hs2 => ?_
 · obtain ⟨k, y, h1, h2⟩ := hP
   have e1 : (vs.map (·.1))[i]? = some k := by rw [List.getElem?_map, h1]; rfl
   rw [hkeys, List.getElem?_map, hx] at e1
   cases e1
   have h2 : keyIs (.inr x) v = true := h2
   rcases keyIs_shape h2 with ⟨_, _, e, _⟩ | ⟨x', t, e, e2⟩
   · cases e
   · cases e
     exact ⟨t, e2⟩
 · have I1 : Inv X pins σ H { s with heap := h1, toks := tk } := I.kept k1
   have hlen : ss'.length = zs.length := hp2.length_eq
   exact ⟨.ref h1.objs.size, _, I1.laid (a := h1.objs.size) (o := .lst (ss'.map V.str)) (t' := tk) k2 (Nat.le_refl _) ⟨by rw [List.length_map, sizeLine_eq]; omega, vs', e, strs_vals hS, hB⟩, rfl, q _ _ (I1.hok.fresh (Nat.le_refl _)) hp2 hs2⟩
end
theorem extend_tup (l : Addr) (items : Array Value) (n : Nat) (b : Addr) (dd : Option Addr) (sl : Array (Option Value)) (items2 : Array Value) (n2 : Nat) (hs0 : ¬(!items.isEmpty && Builtin.List.listTooLong (items.size + items2.size)) = true) (hs1 : items.size <= sizeLine) (hs2 : items.size + items2.size <= sizeLine + 1) :
   Meets (Builtin.«list.extend» ⟨[.ref l, .ref b], []⟩) (fun _ R s => s.heap.get? l = some { cls := .type "list", dict := none, data := .seq items n, slots := #[] } /\ s.heap.get? b = some ⟨.type "tuple", dd, .seq items2 n2, sl⟩ /\ R (.ok (.ret Value.none)) { s with heap := s.heap.update l (Obj.mapSeq fun x => x ++ items2), toks := s.toks }) :=
 .of_wp fun prog w A R s h => by
   obtain ⟨hp, g, d, tk, os⟩ := s
   obtain ⟨hl, hb, h⟩ := h
   have f2 := PySem.AutoSeq1.sub_tuple_tuple
   have f4 := PySem.AutoSeq1.sub_tuple_list
   have hz' : (items ++ items2).size <= sizeLine + 1 := by rw [Array.size_append]; exact hs2
   wp_walk using (wpAny_updateSeq hl rfl (hz := hs1) (_hz' := hz')), PySem.AutoSeq1.wpAny_loadPart' hl, PySem.AutoSeq1.wpAny_loadPart' hb
   exact ⟨_, rfl, h⟩
section
variable {X : Cx}
def qB (K : PySem.W.Frag) : V -> List V -> Hp -> VK -> Prop := fun x vs H Q => ∃ l b xs zs, x = .ref l /\ vs = [.ref b] /\ H l = some (.lst xs) /\ SqT K H b zs /\ xs.length + zs.length <= sizeLine /\ Q .non (upd H l (.lst (xs ++ zs)))
theorem mt_extendT : MtM X "list.extend" (qB X.K) := by
 intro pins s σ H x vs v us Q I rx rv h
 obtain ⟨l, b, xs, zs, rfl, rfl, hH, hB, hz, q⟩ := h
 cases rx
 obtain ⟨u, rfl, ru⟩ := rv.one
 cases ru
 obtain ⟨z, its, n, r, hl, e⟩ := I.lstM hH
 obtain ⟨its2, r2, ⟨o2, e2, c2, n2, d2⟩, z2⟩ := I.tuple hB
 obtain ⟨k1, k2, k3, k4⟩ := o2
 dsimp only at c2 d2
 subst c2 d2
 have hl2 := r2.length
 have hsz : its.toArray.size + its2.toArray.size <= sizeLine := by rw [List.size_toArray, List.size_toArray]; omega
 have hlong : ¬ (!its.toArray.isEmpty && Builtin.List.listTooLong (its.toArray.size + its2.toArray.size)) = true := by
   rw [notLongL hsz, Bool.and_false]
   exact Bool.false_ne_true
 refine call_meets PySem.F.slot_list_extend ⟨_, e, rfl⟩ PySem.F.entry_list_extend (PySem.F.args_list_extend_2 _ _)
   (extend_tup l its.toArray n b k2 k4 its2.toArray n2 hlong (by rw [List.size_toArray]; omega) (by omega)) ⟨e, e2, ?_⟩
 refine ⟨.non, _, I.lset (its' := its ++ its2) hH e (by simp) (r.append r2) ?_, rfl, q⟩
 rw [List.length_append]
 omega
end
end L2
namespace L2
open PySem PyProof.Rows
def qO (w : World) : Bool := w.params.followText "set-order"
section
variable {prog : Program} {w : World} {A : Around} {E : Value -> Shared -> Prop} {s : Shared}
theorem lay_led (t : SetTable) (es : Array (Int × Value)) (h : Int) (x : Value) : (layNew t es h x).2.1.led = t.led := by
 unfold layNew
 split
 · dsimp only
   unfold SetTable.orStandIn
   split <;> rfl
 · rfl
theorem wF {t t' : SetTable} {hs : Array Int} {n : Nat} {o : Array Nat} (h : t.relaid hs n = some (t', o)) : t'.led = t.led /\ t'.plain = t.plain := by
 unfold SetTable.relaid SetTable.laid at h
 cases hc : SetTable.layClean (SetTable.sizeAbove n - 1) hs with
 | none => rw [hc] at h; cases h
 | some ow =>
   rw [hc] at h
   have h := Option.some.inj h
   have e := congrArg Prod.fst h
   dsimp only at e
   rw [← e]
   exact ⟨rfl, rfl⟩
theorem relay_led (t : SetTable) (es : Array (Int × Value)) (n : Nat) : (relayAll t es n).2.1.led = t.led := by
 unfold relayAll
 split
 · rename_i t' o hr
   dsimp only
   split
   · exact (wF hr).1
   · rfl
 · rfl
end
end L2
namespace L2
open PySem PyProof.Rows
theorem slot_setit : Slot "set_iterator" "__next__" "set_iterator.__next__" :=
 .of (owner := "set_iterator") (n := "__next__") (by rw [typeLookup_type, builtinLookup_eq_fast]; kernel_rfl) (by decide +kernel) (by decide +kernel) (by decide +kernel)
   (by first | exact .inl (by decide +kernel) | exact .inr (by decide +kernel)) (by rw [isSubtype_type]; kernel_rfl)
theorem slot_setit2 : Slot "set_iterator" "__iter__" "set_iterator.__iter__" :=
 .of (owner := "set_iterator") (n := "__iter__") (by rw [typeLookup_type, builtinLookup_eq_fast]; kernel_rfl) (by decide +kernel) (by decide +kernel) (by decide +kernel)
   (by first | exact .inl (by decide +kernel) | exact .inr (by decide +kernel)) (by rw [isSubtype_type]; kernel_rfl)
theorem entry_setit : entryFor table "set_iterator.__next__" = some Builtin.«set_iterator.__next__» := entryFor_of_tree (by kernel_rfl)
theorem entry_setit2 : entryFor table "set_iterator.__iter__" = some Builtin.«dict_keyiterator.__iter__» :=
 entryFor_alias (id' := "dict_keyiterator.__iter__") (by kernel_rfl) rfl (by decide +kernel) (by kernel_rfl)
theorem entry_setiter : entryFor table "set.__iter__" = some Builtin.«frozenset.__iter__» :=
 entryFor_alias (id' := "frozenset.__iter__") (by kernel_rfl) rfl (by decide +kernel) (by kernel_rfl)
theorem owner_setit : Manifest.owners.lookup (String.ofList ['r', 'o', 't', 'a', 'r', 'e', 't', 'i', '_', 't', 'e', 's'].reverse) = some Manifest.sig_set_iterator := by kernel_rfl
theorem vC (a : Value) : argsOk "set_iterator.__next__" ⟨[a], []⟩ := by
 unfold argsOk; rw [signature?_of (id := "set_iterator.__next__") (n := ['_', '_', 't', 'x', 'e', 'n', '_', '_']) (o := ['r', 'o', 't', 'a', 'r', 'e', 't', 'i', '_', 't', 'e', 's']) (by kernel_rfl) owner_setit]; kernel_rfl
theorem args_setit2 (a : Value) : argsOk "set_iterator.__iter__" ⟨[a], []⟩ := by
 unfold argsOk; rw [signature?_of (id := "set_iterator.__iter__") (n := ['_', '_', 'r', 'e', 't', 'i', '_', '_']) (o := ['r', 'o', 't', 'a', 'r', 'e', 't', 'i', '_', 't', 'e', 's']) (by kernel_rfl) owner_setit]; kernel_rfl
theorem jV {α : Type} : ∀ (l : List α) (i : Nat) (h : i < l.length), (l[i] :: l.eraseIdx i).Perm l
 | [], i, h => by simp at h
 | x :: l, 0, h => List.Perm.refl _
 | x :: l, i + 1, h => by
   have := jV l i (by simpa using h)
   simp only [List.getElem_cons_succ, List.eraseIdx_cons_succ]
   exact (List.Perm.swap _ _ _).trans (List.Perm.cons _ this)
theorem xQ {α : Type} (f : Nat -> Nat) (xs : Array α) : (pickOrder f xs).toList.Perm xs.toList := by
 have key : ∀ (n k : Nat) (left : List α) (out : Array α), left.length = n -> (pickOrder.go f n k left out).toList.Perm (out.toList ++ left) := by
   intro n
   induction n with
   | zero =>
     intro k left out hl
     have : left = [] := List.length_eq_zero_iff.mp hl
     subst this
     unfold pickOrder.go
     simp
   | succ n ih =>
     intro k left out hl
     unfold pickOrder.go
     have hlt : f k % left.length < left.length := Nat.mod_lt _ (by omega)
     rw [List.getElem?_eq_getElem hlt]
     dsimp only
     refine (ih (k + 1) _ _ (by rw [List.length_eraseIdx_of_lt hlt]; omega)).trans ?_
     rw [Array.toList_push, List.append_assoc]
     refine List.Perm.append_left _ ?_
     exact jV _ _ hlt
 unfold pickOrder
 have := key xs.size 0 xs.toList #[] (by simp)
 simpa using this
section
variable {prog : Program} {w : World} {A : Around} {E : Value -> Shared -> Prop} {s : Shared}
theorem wp_choose {M : Model} {src : Source} {n : Nat} {Q : Nat -> Shared -> Prop} (hn : n ≠ 0) (h : ∀ i d, i < n -> Q i { s with drawn := d }) : wpAny M A (choose src n) Q E s :=
 fun Γ p _ => ⟨hn, h _ _ (Nat.mod_lt _ (Nat.pos_of_ne_zero hn))⟩
theorem vV {M : Model} {α : Type} : ∀ (n : Nat) (xs : List α) {Q : List α -> Shared -> Prop} {s : Shared}, xs.length = n -> (∀ ys d, ys.Perm xs -> Q ys { s with drawn := d }) -> wpAny M A (drawOrder n xs) Q E s
 | 0, xs, Q, s, hl, h => by
   have : xs = [] := List.length_eq_zero_iff.mp hl
   subst this
   unfold drawOrder
   have := h [] s.drawn (List.Perm.refl _)
   cases s
   exact wpAny_pure this
 | n + 1, [], Q, s, hl, h => by simp at hl
 | n + 1, x :: xs, Q, s, hl, h => by
   unfold drawOrder
   refine wpAny_bind (wp_choose (by simp) fun i d hi => ?_)
   rw [List.getElem?_eq_getElem hi]
   dsimp only
   refine wpAny_bind (vV n _ (by rw [List.length_eraseIdx_of_lt hi]; simp at hl ⊢; omega) fun ys d2 hp => ?_)
   refine wpAny_pure (h _ d2 ?_)
   exact (List.Perm.cons _ hp).trans (jV _ _ hi)
def vD (h : Heap) (I a : Addr) (fst : Value) (i n ep : Nat) : Prop := h.get? I = some { cls := .type "set_iterator", data := .fields #[fst, .int i 0, .ref a, .int n 0, .int ep 0] }
theorem qM {t : SetTable} {n : Nat} (h : t.fits n = true) : t.place.size = n := by
 simp only [SetTable.fits, Bool.and_eq_true, beq_iff_eq] at h
 exact h.1
theorem wp_setDrawn {a : Addr} {o : Obj} {es : Array (Int × Value)} {ep : Nat} {t : SetTable} {Q : Bool -> Shared -> Prop} (ho : s.heap.get? a = some o) (hd : o.data = .set es ep t) (hf : t.fits es.size = true)
   (h : Q (!qO w && (!t.plain && decide (es.size > 1))) s) : wpAny (model prog w) A (setDrawn a) Q E s := by
 unfold setDrawn
 refine wpAny_bind (wpAny_setState_of ho hd hf ?_)
 dsimp only
 unfold setsByText
 refine wpAny_bind (wpAny_bind (wpAny_askSetting (wpAny_pure ?_)))
 exact wpAny_pure h
theorem wp_sizeOf {a : Addr} {o : Obj} {es : Array (Int × Value)} {ep : Nat} {t : SetTable} {Q : Nat -> Shared -> Prop} (ho : s.heap.get? a = some o) (hd : o.data = .set es ep t) (hf : t.fits es.size = true)
   (h : Q es.size s) : wpAny (model prog w) A (Builtin.Frozenset.sizeOf a) Q E s := by
 unfold Builtin.Frozenset.sizeOf setEntries
 refine wpAny_bind (wpAny_bind (wpAny_setState_of ho hd hf (wpAny_pure ?_)))
 exact wpAny_pure h
end
end L2
namespace L2
open PySem PyProof.Rows
section
variable {prog : Program} {w : World} {A : Around} {E : Value -> Shared -> Prop} {s : Shared}
theorem next_by {a : Addr} {o : Obj} {es : Array (Int × Value)} {ep slot g : Nat} {t : SetTable} {Q : Option (Value × Nat) -> Shared -> Prop} (ho : s.heap.get? a = some o) (hd : o.data = .set es ep t) (hf : t.fits es.size = true) (hB : qO w = true)
   (h : Q (((pickOrder (w.params.setOrder a ep) es)[g]?).map fun e => (e.2, slot)) s) : wpAny (model prog w) A (setNext a slot g ep) Q E s := by
 have hB' : w.params.followText "set-order" = true := hB
 unfold setNext
 refine wpAny_bind (wpAny_setState_of ho hd hf ?_)
 dsimp only
 unfold setsByText
 refine wpAny_bind (wpAny_bind (wpAny_askSetting (wpAny_pure ?_)))
 show wpAny _ _ (if w.params.followText "set-order" = true then _ else _) _ _ _
 rw [if_pos hB', if_neg (by simp)]
 unfold setWalk
 refine wpAny_bind (wpAny_bind (wpAny_setState_of ho hd hf ?_))
 dsimp only
 unfold setsByText
 refine wpAny_bind (wpAny_bind (wpAny_askSetting (wpAny_pure ?_)))
 show wpAny _ _ (if w.params.followText "set-order" = true then _ else _) _ _ _
 rw [if_pos hB']
 refine wpAny_bind (wpAny_askSetting (wpAny_pure ?_))
 exact wpAny_pure h
end
end L2
namespace L2
open PySem PyProof.Rows
section
variable {prog : Program} {w : World} {A : Around} {R : Result -> Shared -> Prop} {I : Addr} {fp wr : List Addr} {G : Array GenState -> Array GenState -> Prop} {n : Nat} {P : Nat -> Value -> Prop} {St : Nat -> Shared -> Prop}
end
section
variable {prog : Program} {w : World} {A : Around} {E : Value -> Shared -> Prop} {s : Shared}
theorem tx_new (a : Value) {Q₁ : Value -> Shared -> Prop}
   (h : ∀ led : Bool, (qO w = true \/ led = true) -> Q₁ (.ref s.heap.objs.size) { s with heap := s.heap.push { cls := .type "set", dict := none, data := .set #[] 0 (.fresh 0 0 led) } }) :
   codeAny (model prog w) A (.call (.builtin "set.__new__") ⟨[.type "set", a], []⟩) (wants Q₁ E) s := by
 refine codeAny_of_tree ?_
 show wpAny _ A.in1 (do checkBuiltinCall "set.__new__" ⟨[.type "set", a], []⟩; again (.builtin "set.__new__" ⟨[.type "set", a], []⟩)) _ _ s
 refine wpAny_bind (wpAny_of_eq (PySem.F.newCall_set_1 a) (wpAny_pure ⟨plainId_quiet PySem.F.plain_set_new _, codeAny_builtin PySem.F.entry_set_new ?_⟩))
 rw [Around.under_plainId PySem.F.plain_set_new _]
 unfold Builtin.«set.__new__» Builtin.Frozenset.newClass
 have hsub := sub_set_self
 obtain ⟨hp, g, d, tk, os⟩ := s
 dsimp only
 wp_walk
 refine wpAny_askSetting (wpAny_pure ?_)
 dsimp only
 simp only [newObj]
 refine wpAny_bind (wpAny_alloc (wpAny_pure ?_))
 refine wpAny_pure (h _ ?_)
 show w.params.followText "set-order" = true \/ (!w.params.followText "set-order") = true
 cases w.params.followText "set-order"
 · exact .inr rfl
 · exact .inl rfl
end
end L2
namespace L2
open PySem PyProof.Rows
section
variable {prog : Program} {w : World} {A : Around} {E : Value -> Shared -> Prop} {s : Shared}
theorem hint_tx {r : Addr} {Q : Bool -> Shared -> Prop} (hT : s.TypeIs (.ref r) "set") (h : Q false s) : wpAny (model prog w) A (Builtin.List.listLengthHint (.ref r)) Q E s := by
 unfold Builtin.List.listLengthHint
 refine wpAny_bind (wpAny_specialOf hT PySem.F.slot_set_len.lookup ?_)
 generalize hid : ("set.__len__" : String) = id0
 wp_delta
 rw [show splitId id0 = some ("set", "__len__") from by subst hid; decide +kernel]
 subst hid
 refine wpAny_bind (wpAny_isInstance (T := "set") (b := true) hT (by rw [isSubtype_type]; kernel_rfl) ?_)
 refine wpAny_ite_split (fun hab => absurd hab (by decide)) (fun _ => ?_)
 refine wpAny_ite_split (fun _ => ?_) (fun hab => absurd (by decide +kernel) hab)
 refine wpAny_bind (wpAny_typeOf hT ?_)
 exact wpAny_pure h
end
end L2
namespace L2
open PySem PySem.Spec PyProof.Rows PySem.SeqAt
mutual
def deq : Dt -> Dt -> Bool
 | .non, .non => true
 | .bl a, .bl b => a == b
 | .int a, .int b => a == b
 | .bl a, .int b => (if a then 1 else 0) == b
 | .int a, .bl b => a == (if b then 1 else 0)
 | .str a, .str b => a == b
 | .tup xs, .tup ys => deqs xs ys
 | .lst xs, .lst ys => deqs xs ys
 | _, _ => false
def deqs : List Dt -> List Dt -> Bool
 | [], [] => true
 | x :: xs, y :: ys => deq x y && deqs xs ys
 | _, _ => false
end
mutual
theorem deq_refl : ∀ d : Dt, deq d d = true
 | .non => rfl
 | .bl a => by simp [deq]
 | .int a => by simp [deq]
 | .str a => by simp [deq]
 | .tup ds => by rw [deq]; exact deqs_refl ds
 | .lst ds => by rw [deq]; exact deqs_refl ds
theorem deqs_refl : ∀ ds : List Dt, deqs ds ds = true
 | [] => rfl
 | d :: ds => by rw [deqs, deq_refl d, deqs_refl ds]; rfl
end
def eat (xs ys : List Dt) (j : Nat) : Bool :=
 match xs[j]?, ys[j]? with
 | some x, some y => deq x y
 | _, _ => false
theorem deqs_all : ∀ xs ys : List Dt, ((List.range (min xs.length ys.length)).all (eat xs ys) && xs.length == ys.length) = deqs xs ys
 | [], [] => rfl
 | [], y :: ys => by simp [deqs]
 | x :: xs, [] => by simp [deqs]
 | x :: xs, y :: ys => by
   rw [deqs, ← deqs_all xs ys, List.length_cons, List.length_cons, Nat.succ_min_succ, List.range_succ_eq_map, List.all_cons, List.all_map]
   have e1 : eat (x :: xs) (y :: ys) 0 = deq x y := rfl
   have e2 : eat (x :: xs) (y :: ys) ∘ Nat.succ = eat xs ys := by funext j; simp [eat]
   rw [e1, e2, Bool.and_assoc]
   congr 2
   rw [Bool.eq_iff_iff]
   simp
mutual
theorem DAt.one_of {H : Hp} : ∀ {d d' : Dt} {v : V}, DAt H d v -> DAt H d' v -> d = d'
 | d, .non, v, h, h' => by have h' : v = .non := h'; subst h'; cases d <;> simp_all [DAt]
 | d, .bl b, v, h, h' => by have h' : v = .bl b := h'; subst h'; cases d <;> simp_all [DAt]
 | d, .int b, v, h, h' => by have h' : v = .int b := h'; subst h'; cases d <;> simp_all [DAt]
 | d, .str b, v, h, h' => by have h' : v = .str b := h'; subst h'; cases d <;> simp_all [DAt]
 | d, .tup ds', v, h, h' => by
   obtain ⟨a, vs, rfl, e2, e3⟩ := h'
   cases d with
   | tup ds =>
     obtain ⟨a', vs', e1', e2', e3'⟩ := h
     cases e1'
     rw [e2] at e2'
     cases e2'
     rw [DAts.one_of e3' e3]
   | lst ds =>
     obtain ⟨a', vs', e1', e2', e3'⟩ := h
     cases e1'
     rw [e2] at e2'
     cases e2'
   | _ => cases h
 | d, .lst ds', v, h, h' => by
   obtain ⟨a, vs, rfl, e2, e3⟩ := h'
   cases d with
   | lst ds =>
     obtain ⟨a', vs', e1', e2', e3'⟩ := h
     cases e1'
     rw [e2] at e2'
     cases e2'
     rw [DAts.one_of e3' e3]
   | tup ds =>
     obtain ⟨a', vs', e1', e2', e3'⟩ := h
     cases e1'
     rw [e2] at e2'
     cases e2'
   | _ => cases h
theorem DAts.one_of {H : Hp} : ∀ {ds ds' : List Dt} {vs : List V}, DAts H ds vs -> DAts H ds' vs -> ds = ds'
 | ds, [], vs, h, h' => by
   have h' : vs = [] := h'
   subst h'
   cases ds with
   | nil => rfl
   | cons d ds => obtain ⟨v, r, e, _⟩ := h; cases e
 | ds, d' :: ds', vs, h, h' => by
   obtain ⟨v, r, rfl, e2, e3⟩ := h'
   cases ds with
   | nil => cases h
   | cons d ds =>
     obtain ⟨v', r', e, e2', e3'⟩ := h
     cases e
     rw [DAt.one_of e2' e2, DAts.one_of e3' e3]
end
section
variable {P : Program} {w : World} {H : Hp} {s : Shared}
theorem DAts.tup_of (ok : HOk P w H s.heap) {a : Addr} {vs : List V} (h : H a = some (.tup vs)) : ∃ its : List Value, Vals vs its /\ s.heap.IsTuple a its.toArray := by
 obtain ⟨z, its, r, p⟩ := ok a _ h
 exact ⟨its, r, p⟩
theorem DAts.lst_of (ok : HOk P w H s.heap) {a : Addr} {vs : List V} (h : H a = some (.lst vs)) : ∃ its : List Value, Vals vs its /\ s.heap.IsList a its.toArray := by
 obtain ⟨z, its, n, r, p⟩ := ok a _ h
 exact ⟨its, r, _, p, rfl, n, rfl⟩
theorem vals_at : ∀ {xs : List V} {us : List Value} {i : Nat} {x : V} {u : Value}, Vals xs us -> xs[i]? = some x -> us[i]? = some u -> RelV x u
 | _, _, _, _, _, .nil, h, _ => by simp at h
 | _, _, 0, _, _, .cons r q, h, h' => by
   simp at h h'
   subst h
   subst h'
   exact r
 | _, _, i + 1, _, _, .cons r q, h, h' => vals_at q (by simpa using h) (by simpa using h')
theorem uL (ok : HOk P w H s.heap) {n : Nat} {A : Around} (ih : ∀ {A : Around} {d d' : Dt} {v v' : V} {u u' : Value}, DAt H d v -> DAt H d' v' -> RelV v u -> RelV v' u' -> DFit n d -> A.units + n < cLine -> EqAt A s u u' (deq d d'))
   {l l' : Addr} {ds ds' : List Dt} {vs vs' : List V} {its its' : List Value} (hs : DAts H ds vs) (hs' : DAts H ds' vs') (rv : Vals vs its) (rv' : Vals vs' its') (hl : s.heap.IsList l its.toArray) (hl' : s.heap.IsList l' its'.toArray)
   (f : ∀ d ∈ ds, DFit n d) (hu : A.units + (n + 1) < cLine) : RcAt A s (.ref l) (.ref l') (deqs ds ds') := by
 have k1 := hs.length
 have k2 := hs'.length
 have k3 := rv.length
 have k4 := rv'.length
 by_cases hz : ds.length = ds'.length
 · have key := RcAt.lists (A := A) (e := eat ds ds') hl hl' (by rw [List.size_toArray, List.size_toArray]; omega) (by omega) fun j h1 h2 => ?_
   · rw [← deqs_all, hz, Nat.min_self, beq_self_eq_true, Bool.and_true]
     rw [List.size_toArray] at key
     rw [show ds'.length = its.length by omega]
     exact key
   · rw [List.size_toArray] at h1 h2
     have hj : j < ds.length := by omega
     have hj' : j < ds'.length := by omega
     obtain ⟨x, x1, x2⟩ := hs.get (List.getElem?_eq_getElem hj)
     obtain ⟨y, y1, y2⟩ := hs'.get (List.getElem?_eq_getElem hj')
     have e1 : eat ds ds' j = deq ds[j] ds'[j] := by unfold eat; rw [List.getElem?_eq_getElem hj, List.getElem?_eq_getElem hj']
     rw [e1]
     refine ih x2 y2 ?_ ?_ (f _ (List.getElem_mem hj)) (by show A.units + 1 + n < cLine; omega)
     · exact vals_at rv x1 (by rw [List.getElem_toArray]; exact List.getElem?_eq_getElem h1)
     · exact vals_at rv' y1 (by rw [List.getElem_toArray]; exact List.getElem?_eq_getElem h2)
 · have hf : deqs ds ds' = false := by rw [← deqs_all, show (ds.length == ds'.length) = false by simpa using hz, Bool.and_false]
   rw [hf]
   exact RcAt.lists_lengths hl hl' (by rw [List.size_toArray, List.size_toArray]; simp; omega) (by omega)
theorem deq_same (ok : HOk P w H s.heap) {A : Around} {d : Dt} {v : V} {u u' : Value} (h : DAt H d v) (r : RelV v u) (r' : RelV v u') : EqAt A s u u' true := by
 cases d with
 | non => have h : v = .non := h; subst h; cases r; cases r'; exact EqAt.same _
 | bl a => have h : v = .bl a := h; subst h; cases r; cases r'; exact EqAt.same _
 | int a =>
   have h : v = .int a := h
   subst h
   obtain ⟨t, rfl⟩ := r
   obtain ⟨t', rfl⟩ := r'
   have := EqAt.int_int (A := A) (s := s) a t a t'
   rwa [beq_self_eq_true] at this
 | str a =>
   have h : v = .str a := h
   subst h
   obtain ⟨t, rfl⟩ := r
   obtain ⟨t', rfl⟩ := r'
   have := EqAt.str_str (A := A) (s := s) a t a t'
   rwa [beq_self_eq_true] at this
 | tup ds => obtain ⟨l, vs, rfl, _⟩ := h; cases r; cases r'; exact EqAt.same _
 | lst ds => obtain ⟨l, vs, rfl, _⟩ := h; cases r; cases r'; exact EqAt.same _
theorem wX (ok : HOk P w H s.heap) {A : Around} {d d' : Dt} {v v' : V} {u u' : Value} (h : DAt H d v) (h' : DAt H d' v') (r : RelV v u) (r' : RelV v' u') (hu : A.units < cLine) (hk : ∀ ds ds', ¬ (d = .tup ds /\ d' = .tup ds') /\ ¬ (d = .lst ds /\ d' = .lst ds')) : EqAt A s u u' (deq d d') := by
 cases d with
 | non =>
   have h : v = .non := h
   subst h
   cases r
   cases d' with
   | non =>
     have h' : v' = .non := h'
     subst h'
     cases r'
     simp only [deq]
     exact EqAt.same _
   | bl b =>
     have h' : v' = .bl b := h'
     subst h'
     cases r'
     simp only [deq]
     exact EqAt.none_bool _
   | int b =>
     have h' : v' = .int b := h'
     subst h'
     obtain ⟨t', rfl⟩ := r'
     simp only [deq]
     exact EqAt.none_int _ _
   | str b =>
     have h' : v' = .str b := h'
     subst h'
     obtain ⟨t', rfl⟩ := r'
     simp only [deq]
     exact EqAt.none_str _ _
   | tup ds' =>
     obtain ⟨l', vs', rfl, e', hs'⟩ := h'
     cases r'
     obtain ⟨its', rv', hl'⟩ := DAts.tup_of ok e'
     simp only [deq]
     exact EqAt.none_tuple hl' hu
   | lst ds' =>
     obtain ⟨l', vs', rfl, e', hs'⟩ := h'
     cases r'
     obtain ⟨its', rv', hl'⟩ := DAts.lst_of ok e'
     simp only [deq]
     exact EqAt.none_list hl' hu
 | bl a =>
   have h : v = .bl a := h
   subst h
   cases r
   cases d' with
   | non =>
     have h' : v' = .non := h'
     subst h'
     cases r'
     simp only [deq]
     exact EqAt.bool_none _
   | bl b =>
     have h' : v' = .bl b := h'
     subst h'
     cases r'
     simp only [deq]
     exact EqAt.bool_bool _ _
   | int b =>
     have h' : v' = .int b := h'
     subst h'
     obtain ⟨t', rfl⟩ := r'
     simp only [deq]
     exact EqAt.bool_int _ _ _
   | str b =>
     have h' : v' = .str b := h'
     subst h'
     obtain ⟨t', rfl⟩ := r'
     simp only [deq]
     exact EqAt.bool_str _ _ _
   | tup ds' =>
     obtain ⟨l', vs', rfl, e', hs'⟩ := h'
     cases r'
     obtain ⟨its', rv', hl'⟩ := DAts.tup_of ok e'
     simp only [deq]
     exact EqAt.bool_tuple _ hl' hu
   | lst ds' =>
     obtain ⟨l', vs', rfl, e', hs'⟩ := h'
     cases r'
     obtain ⟨its', rv', hl'⟩ := DAts.lst_of ok e'
     simp only [deq]
     exact EqAt.bool_list _ hl' hu
 | int a =>
   have h : v = .int a := h
   subst h
   obtain ⟨t, rfl⟩ := r
   cases d' with
   | non =>
     have h' : v' = .non := h'
     subst h'
     cases r'
     simp only [deq]
     exact EqAt.int_none _ _
   | bl b =>
     have h' : v' = .bl b := h'
     subst h'
     cases r'
     simp only [deq]
     exact EqAt.int_bool _ _ _
   | int b =>
     have h' : v' = .int b := h'
     subst h'
     obtain ⟨t', rfl⟩ := r'
     simp only [deq]
     exact EqAt.int_int _ _ _ _
   | str b =>
     have h' : v' = .str b := h'
     subst h'
     obtain ⟨t', rfl⟩ := r'
     simp only [deq]
     exact EqAt.int_str _ _ _ _
   | tup ds' =>
     obtain ⟨l', vs', rfl, e', hs'⟩ := h'
     cases r'
     obtain ⟨its', rv', hl'⟩ := DAts.tup_of ok e'
     simp only [deq]
     exact EqAt.int_tuple _ _ hl' hu
   | lst ds' =>
     obtain ⟨l', vs', rfl, e', hs'⟩ := h'
     cases r'
     obtain ⟨its', rv', hl'⟩ := DAts.lst_of ok e'
     simp only [deq]
     exact EqAt.int_list _ _ hl' hu
 | str a =>
   have h : v = .str a := h
   subst h
   obtain ⟨t, rfl⟩ := r
   cases d' with
   | non =>
     have h' : v' = .non := h'
     subst h'
     cases r'
     simp only [deq]
     exact EqAt.str_none _ _
   | bl b =>
     have h' : v' = .bl b := h'
     subst h'
     cases r'
     simp only [deq]
     exact EqAt.str_bool _ _ _
   | int b =>
     have h' : v' = .int b := h'
     subst h'
     obtain ⟨t', rfl⟩ := r'
     simp only [deq]
     exact EqAt.str_int _ _ _ _
   | str b =>
     have h' : v' = .str b := h'
     subst h'
     obtain ⟨t', rfl⟩ := r'
     simp only [deq]
     exact EqAt.str_str _ _ _ _
   | tup ds' =>
     obtain ⟨l', vs', rfl, e', hs'⟩ := h'
     cases r'
     obtain ⟨its', rv', hl'⟩ := DAts.tup_of ok e'
     simp only [deq]
     exact EqAt.str_tuple _ _ hl' hu
   | lst ds' =>
     obtain ⟨l', vs', rfl, e', hs'⟩ := h'
     cases r'
     obtain ⟨its', rv', hl'⟩ := DAts.lst_of ok e'
     simp only [deq]
     exact EqAt.str_list _ _ hl' hu
 | tup ds =>
   obtain ⟨l, vs, rfl, e, hs⟩ := h
   cases r
   obtain ⟨its, rv, hl⟩ := DAts.tup_of ok e
   cases d' with
   | non =>
     have h' : v' = .non := h'
     subst h'
     cases r'
     simp only [deq]
     exact EqAt.tuple_none hl hu
   | bl b =>
     have h' : v' = .bl b := h'
     subst h'
     cases r'
     simp only [deq]
     exact EqAt.tuple_bool _ hl hu
   | int b =>
     have h' : v' = .int b := h'
     subst h'
     obtain ⟨t', rfl⟩ := r'
     simp only [deq]
     exact EqAt.tuple_int _ _ hl hu
   | str b =>
     have h' : v' = .str b := h'
     subst h'
     obtain ⟨t', rfl⟩ := r'
     simp only [deq]
     exact EqAt.tuple_str _ _ hl hu
   | tup ds' => exact absurd ⟨rfl, rfl⟩ (hk _ _).1
   | lst ds' =>
     obtain ⟨l', vs', rfl, e', hs'⟩ := h'
     cases r'
     obtain ⟨its', rv', hl'⟩ := DAts.lst_of ok e'
     simp only [deq]
     exact EqAt.tuple_list hl hl' hu
 | lst ds =>
   obtain ⟨l, vs, rfl, e, hs⟩ := h
   cases r
   obtain ⟨its, rv, hl⟩ := DAts.lst_of ok e
   cases d' with
   | non =>
     have h' : v' = .non := h'
     subst h'
     cases r'
     simp only [deq]
     exact EqAt.list_none hl hu
   | bl b =>
     have h' : v' = .bl b := h'
     subst h'
     cases r'
     simp only [deq]
     exact EqAt.list_bool _ hl hu
   | int b =>
     have h' : v' = .int b := h'
     subst h'
     obtain ⟨t', rfl⟩ := r'
     simp only [deq]
     exact EqAt.list_int _ _ hl hu
   | str b =>
     have h' : v' = .str b := h'
     subst h'
     obtain ⟨t', rfl⟩ := r'
     simp only [deq]
     exact EqAt.list_str _ _ hl hu
   | tup ds' =>
     obtain ⟨l', vs', rfl, e', hs'⟩ := h'
     cases r'
     obtain ⟨its', rv', hl'⟩ := DAts.tup_of ok e'
     simp only [deq]
     exact EqAt.list_tuple hl hl' hu
   | lst ds' => exact absurd ⟨rfl, rfl⟩ (hk _ _).2
theorem uZ (ok : HOk P w H s.heap) : ∀ (n : Nat) {A : Around} {d d' : Dt} {v v' : V} {u u' : Value}, DAt H d v -> DAt H d' v' -> RelV v u -> RelV v' u' -> DFit n d -> A.units + n < cLine -> EqAt A s u u' (deq d d') := by
 intro n
 induction n with
 | zero =>
   intro A d d' v v' u u' h h' r r' f hu
   exact wX ok h h' r r' hu fun ds ds' => ⟨fun e => by rw [e.1] at f; exact f, fun e => by rw [e.1] at f; exact f⟩
 | succ n ih =>
   intro A d d' v v' u u' h h' r r' f hu
   by_cases hvv : v = v'
   · subst hvv
     rw [DAt.one_of h h', deq_refl]
     have hd : d = d' := DAt.one_of h h'
     subst hd
     have hx := deq_same ok (A := A) h r r'
     exact hx
   cases d with
   | tup ds =>
     cases d' with
     | tup ds' =>
       obtain ⟨l, vs, rfl, e, hs⟩ := h
       obtain ⟨l', vs', rfl, e', hs'⟩ := h'
       cases r
       cases r'
       obtain ⟨its, rv, hl⟩ := DAts.tup_of ok e
       obtain ⟨its', rv', hl'⟩ := DAts.tup_of ok e'
       have k1 := hs.length
       have k2 := hs'.length
       have k3 := rv.length
       have k4 := rv'.length
       have key := RcAt.tuples (A := A) (e := eat ds ds') hl hl' (by omega) fun j h1 h2 => ?_
       · simp only [deq]
         rw [← deqs_all]
         refine EqAt.of_refs (fun z => hvv (by rw [z])) ?_
         rw [List.size_toArray, List.size_toArray] at key
         rw [← k1, ← k2, k3, k4]
         exact key
       · rw [List.size_toArray] at h1 h2
         have hj : j < ds.length := by omega
         have hj' : j < ds'.length := by omega
         obtain ⟨x, x1, x2⟩ := hs.get (List.getElem?_eq_getElem hj)
         obtain ⟨y, y1, y2⟩ := hs'.get (List.getElem?_eq_getElem hj')
         have e1 : eat ds ds' j = deq ds[j] ds'[j] := by unfold eat; rw [List.getElem?_eq_getElem hj, List.getElem?_eq_getElem hj']
         rw [e1]
         refine ih x2 y2 ?_ ?_ (f.2 _ (List.getElem_mem hj)) (by show A.units + 1 + n < cLine; omega)
         · exact vals_at rv x1 (by rw [List.getElem_toArray]; exact List.getElem?_eq_getElem h1)
         · exact vals_at rv' y1 (by rw [List.getElem_toArray]; exact List.getElem?_eq_getElem h2)
     | _ => exact wX ok h h' r r' (by omega) fun ds ds' => ⟨fun e => (by cases e.2), fun e => (by cases e.1)⟩
   | lst ds =>
     cases d' with
     | lst ds' =>
       obtain ⟨l, vs, rfl, e, hs⟩ := h
       obtain ⟨l', vs', rfl, e', hs'⟩ := h'
       cases r
       cases r'
       obtain ⟨its, rv, hl⟩ := DAts.lst_of ok e
       obtain ⟨its', rv', hl'⟩ := DAts.lst_of ok e'
       simp only [deq]
       exact EqAt.of_refs (fun z => hvv (by rw [z])) (uL ok ih hs hs' rv rv' hl hl' f.2 hu)
     | _ => exact wX ok h h' r r' (by omega) fun ds ds' => ⟨fun e => (by cases e.1), fun e => (by cases e.2)⟩
   | _ => exact wX ok h h' r r' (by omega) fun ds ds' => ⟨fun e => (by cases e.1), fun e => (by cases e.1)⟩
end
section
variable {X : Cx}
def rEqD : R2 := fun x y H Q => ∃ n ds ds', DAt H (.lst ds) x /\ DAt H (.lst ds') y /\ (∀ d ∈ ds, DFit n d) /\ n <= 60 /\ Q (.bl (deqs ds ds')) H
theorem op_eqD (hu : X.A.units + 64 < cLine) : OpR X (compareOp .Eq) rEqD := by
 intro pins s σ H x y v u Q I rx ry h
 obtain ⟨n, ds, ds', ⟨l, vs, rfl, e, hs⟩, ⟨l', vs', rfl, e', hs'⟩, f, hn, q⟩ := h
 cases rx
 cases ry
 obtain ⟨its, rv, hl⟩ := DAts.lst_of I.hok e
 obtain ⟨its', rv', hl'⟩ := DAts.lst_of I.hok e'
 exact uL I.hok (fun a b c d f g => uZ I.hok n a b c d f g) hs hs' rv rv' hl hl' f (by omega) X.prog X.w _ _ (zZ I q rfl)
end
end L2
namespace L2
open PySem PySem.Spec PyProof.Rows PySem.SeqAt
section
variable {X : Cx}
theorem Inv.drawn {pins : List (Addr × Obj)} {σ : St} {H : Hp} {s : Shared} (I : Inv X pins σ H s) (d : _) : Inv X pins σ H { s with drawn := d } := ⟨I.ok, I.os, I.bare, I.base, I.loc, I.cell, I.free, I.freeC, I.pin, I.hok, I.len⟩
end
theorem cx_P {CX : CXT} {P : Program} {w : World} {K : PySem.W.Frag} {mg : Str -> Option Value} {base : Heap} {N : List Str} {qual : Str} {scope : Scope} {f : Addr} {cd : Value} {A : Around} {outer : List Env} {s : Shared} {H : Hp} {E : XK} : (jB CX P w K mg base N qual scope f cd A outer s H E).prog = P := rfl
end L2
local macro_rules | `(tactic| simp! [$ts,*]) => `(tactic| simp only [L2.tSeq, L2.tFor_eq, L2.tLC_eq, L2.iRng1, L2.iRng2, L2.iList, L2.iTup, L2.iStr, L2.tIfS, L2.tRet, L2.tRetN, L2.tNext, L2.tAsg, L2.gName, L2.tVar, L2.tC, L2.tOp, L2.rI0, L2.rI, L2.tTest, L2.tB, L2.rEq, L2.rNe, L2.tCall, L2.tCons, L2.tNil, L2.tCB, L2.tLst, L2.tTup, L2.tAnd, L2.tOr, L2.tNot, L2.tAndV, L2.tOrV, L2.tNotV, L2.tIf, L2.tDrop, L2.tSl, L2.tPart, L2.tNoPart, L2.tChain, L2.tUn, L2.rU, L2.start, L2.cx_K, L2.bk_K, L2.cx_calm, L2.bk_calm, L2.lenV_str, and_assoc, Option.join, List.length_map, List.length_append, decide_eq_true_eq, Bool.false_eq_true, if_false, if_true, Bool.not_true, Bool.not_false, Bool.not_eq_true', decide_eq_false_iff_not, Bool.true_eq_false, List.length_cons, List.length_nil, List.map_cons, List.map_nil, List.replicate, List.cons_append, List.nil_append, List.append_nil, List.getElem?_cons_zero, List.getElem?_cons_succ, List.set_cons_zero, List.set_cons_succ, Nat.reduceSub, Nat.reduceAdd, Option.some.injEq, L2.V.int.injEq, L2.V.str.injEq, L2.V.bl.injEq, L2.V.ref.injEq, List.cons.injEq, and_true, true_and, exists_eq_left', exists_eq_left, exists_and_left, exists_eq_right, exists_const, L2.tBM, L2.tBM0, L2.rAppend, L2.rPop, L2.rIxL, L2.rIxT, L2.rIxS, L2.rSlL, L2.rSlT, L2.rSlS, L2.rCat, L2.rCatT, L2.tKGet, L2.cx_w, L2.bk_w, L2.tDGet, L2.tDisp, L2.tPairs, L2.tDNewK, L2.cx_P, $ts,*])
namespace L2
open PySem PySem.Spec PyProof.Rows PySem.SeqAt
section
variable {P : Program} {w : World} {H : Hp} {s : Shared}
theorem rc_tups (ok : HOk P w H s.heap) {n : Nat} {A : Around} (ih : ∀ {A : Around} {d d' : Dt} {v v' : V} {u u' : Value}, DAt H d v -> DAt H d' v' -> RelV v u -> RelV v' u' -> DFit n d -> A.units + n < cLine -> EqAt A s u u' (deq d d'))
   {l l' : Addr} {ds ds' : List Dt} {vs vs' : List V} {its its' : List Value} (hs : DAts H ds vs) (hs' : DAts H ds' vs') (rv : Vals vs its) (rv' : Vals vs' its') (hl : s.heap.IsTuple l its.toArray) (hl' : s.heap.IsTuple l' its'.toArray)
   (f : ∀ d ∈ ds, DFit n d) (hu : A.units + (n + 1) < cLine) : RcAt A s (.ref l) (.ref l') (deqs ds ds') := by
 have k1 := hs.length
 have k2 := hs'.length
 have k3 := rv.length
 have k4 := rv'.length
 have at_ : ∀ j (h1 : j < its.toArray.size) (h2 : j < its'.toArray.size), EqAt A.in1 s its.toArray[j] its'.toArray[j] (eat ds ds' j) := fun j h1 h2 => by
   rw [List.size_toArray] at h1 h2
   have hj : j < ds.length := by omega
   have hj' : j < ds'.length := by omega
   obtain ⟨x, x1, x2⟩ := hs.get (List.getElem?_eq_getElem hj)
   obtain ⟨y, y1, y2⟩ := hs'.get (List.getElem?_eq_getElem hj')
   have e1 : eat ds ds' j = deq ds[j] ds'[j] := by unfold eat; rw [List.getElem?_eq_getElem hj, List.getElem?_eq_getElem hj']
   rw [e1]
   refine ih x2 y2 ?_ ?_ (f _ (List.getElem_mem hj)) (by show A.units + 1 + n < cLine; omega)
   · exact vals_at rv x1 (by rw [List.getElem_toArray]; exact List.getElem?_eq_getElem h1)
   · exact vals_at rv' y1 (by rw [List.getElem_toArray]; exact List.getElem?_eq_getElem h2)
 have key := RcAt.tuples (A := A) (e := eat ds ds') hl hl' (by omega) at_
 rw [List.size_toArray, List.size_toArray] at key
 rw [← deqs_all, ← k1, ← k2, k3, k4]
 exact key
theorem rn_tups (ok : HOk P w H s.heap) {n : Nat} {A : Around} (ih : ∀ {A : Around} {d d' : Dt} {v v' : V} {u u' : Value}, DAt H d v -> DAt H d' v' -> RelV v u -> RelV v' u' -> DFit n d -> A.units + n < cLine -> EqAt A s u u' (deq d d'))
   {l l' : Addr} {ds ds' : List Dt} {vs vs' : List V} {its its' : List Value} (hs : DAts H ds vs) (hs' : DAts H ds' vs') (rv : Vals vs its) (rv' : Vals vs' its') (hl : s.heap.IsTuple l its.toArray) (hl' : s.heap.IsTuple l' its'.toArray)
   (f : ∀ d ∈ ds, DFit n d) (hu : A.units + (n + 1) < cLine) : RcNeAt A s (.ref l) (.ref l') (!deqs ds ds') := by
 have k1 := hs.length
 have k2 := hs'.length
 have k3 := rv.length
 have k4 := rv'.length
 have at_ : ∀ j (h1 : j < its.toArray.size) (h2 : j < its'.toArray.size), EqAt A.in1 s its.toArray[j] its'.toArray[j] (eat ds ds' j) := fun j h1 h2 => by
   rw [List.size_toArray] at h1 h2
   have hj : j < ds.length := by omega
   have hj' : j < ds'.length := by omega
   obtain ⟨x, x1, x2⟩ := hs.get (List.getElem?_eq_getElem hj)
   obtain ⟨y, y1, y2⟩ := hs'.get (List.getElem?_eq_getElem hj')
   have e1 : eat ds ds' j = deq ds[j] ds'[j] := by unfold eat; rw [List.getElem?_eq_getElem hj, List.getElem?_eq_getElem hj']
   rw [e1]
   refine ih x2 y2 ?_ ?_ (f _ (List.getElem_mem hj)) (by show A.units + 1 + n < cLine; omega)
   · exact vals_at rv x1 (by rw [List.getElem_toArray]; exact List.getElem?_eq_getElem h1)
   · exact vals_at rv' y1 (by rw [List.getElem_toArray]; exact List.getElem?_eq_getElem h2)
 have key := RcNeAt.tuples (A := A) (e := eat ds ds') hl hl' (by omega) at_
 rw [List.size_toArray, List.size_toArray] at key
 rw [← deqs_all, ← k1, ← k2, k3, k4]
 exact key
theorem rn_lists (ok : HOk P w H s.heap) {n : Nat} {A : Around} (ih : ∀ {A : Around} {d d' : Dt} {v v' : V} {u u' : Value}, DAt H d v -> DAt H d' v' -> RelV v u -> RelV v' u' -> DFit n d -> A.units + n < cLine -> EqAt A s u u' (deq d d'))
   {l l' : Addr} {ds ds' : List Dt} {vs vs' : List V} {its its' : List Value} (hs : DAts H ds vs) (hs' : DAts H ds' vs') (rv : Vals vs its) (rv' : Vals vs' its') (hl : s.heap.IsList l its.toArray) (hl' : s.heap.IsList l' its'.toArray)
   (f : ∀ d ∈ ds, DFit n d) (hu : A.units + (n + 1) < cLine) : RcNeAt A s (.ref l) (.ref l') (!deqs ds ds') := by
 have k1 := hs.length
 have k2 := hs'.length
 have k3 := rv.length
 have k4 := rv'.length
 have at_ : ∀ j (h1 : j < its.toArray.size) (h2 : j < its'.toArray.size), EqAt A.in1 s its.toArray[j] its'.toArray[j] (eat ds ds' j) := fun j h1 h2 => by
   rw [List.size_toArray] at h1 h2
   have hj : j < ds.length := by omega
   have hj' : j < ds'.length := by omega
   obtain ⟨x, x1, x2⟩ := hs.get (List.getElem?_eq_getElem hj)
   obtain ⟨y, y1, y2⟩ := hs'.get (List.getElem?_eq_getElem hj')
   have e1 : eat ds ds' j = deq ds[j] ds'[j] := by unfold eat; rw [List.getElem?_eq_getElem hj, List.getElem?_eq_getElem hj']
   rw [e1]
   refine ih x2 y2 ?_ ?_ (f _ (List.getElem_mem hj)) (by show A.units + 1 + n < cLine; omega)
   · exact vals_at rv x1 (by rw [List.getElem_toArray]; exact List.getElem?_eq_getElem h1)
   · exact vals_at rv' y1 (by rw [List.getElem_toArray]; exact List.getElem?_eq_getElem h2)
 by_cases hz : ds.length = ds'.length
 · have key := RcNeAt.lists (A := A) (e := eat ds ds') hl hl' (by rw [List.size_toArray, List.size_toArray]; omega) (by omega) at_
   rw [← deqs_all, hz, Nat.min_self, beq_self_eq_true, Bool.and_true]
   rw [List.size_toArray] at key
   rw [show ds'.length = its.length by omega]
   exact key
 · have hf : deqs ds ds' = false := by rw [← deqs_all, show (ds.length == ds'.length) = false by simpa using hz, Bool.and_false]
   rw [hf]
   exact RcNeAt.lists_lengths hl hl' (by rw [List.size_toArray, List.size_toArray]; simp; omega) (by omega)
theorem rc_at (ok : HOk P w H s.heap) {n : Nat} {A : Around} {d d' : Dt} {v v' : V} {u u' : Value} (h : DAt H d v) (h' : DAt H d' v') (r : RelV v u) (r' : RelV v' u') (f : DFit (n + 1) d) (hu : A.units + (n + 1) < cLine) : RcAt A s u u' (deq d d') := by
 have hu0 : A.units < cLine := by omega
 cases d with
 | non =>
   have h : v = .non := h
   subst h
   cases r
   cases d' with
   | non =>
     have h' : v' = .non := h'
     subst h'
     cases r'
     simp only [deq, Bool.not_false, Bool.not_true]
     exact RcAt.none_none
   | bl b =>
     have h' : v' = .bl b := h'
     subst h'
     cases r'
     simp only [deq, Bool.not_false, Bool.not_true]
     exact RcAt.none_bool _
   | int b =>
     have h' : v' = .int b := h'
     subst h'
     obtain ⟨t', rfl⟩ := r'
     simp only [deq, Bool.not_false, Bool.not_true]
     exact RcAt.none_int _ _
   | str b =>
     have h' : v' = .str b := h'
     subst h'
     obtain ⟨t', rfl⟩ := r'
     simp only [deq, Bool.not_false, Bool.not_true]
     exact RcAt.none_str _ _
   | tup ds' =>
     obtain ⟨l', vs', rfl, e', hs'⟩ := h'
     cases r'
     obtain ⟨its', rv', hl'⟩ := DAts.tup_of ok e'
     simp only [deq, Bool.not_false, Bool.not_true]
     exact RcAt.none_tuple hl' hu0
   | lst ds' =>
     obtain ⟨l', vs', rfl, e', hs'⟩ := h'
     cases r'
     obtain ⟨its', rv', hl'⟩ := DAts.lst_of ok e'
     simp only [deq, Bool.not_false, Bool.not_true]
     exact RcAt.none_list hl' hu0
 | bl a =>
   have h : v = .bl a := h
   subst h
   cases r
   cases d' with
   | non =>
     have h' : v' = .non := h'
     subst h'
     cases r'
     simp only [deq, Bool.not_false, Bool.not_true]
     exact RcAt.bool_none _
   | bl b =>
     have h' : v' = .bl b := h'
     subst h'
     cases r'
     simp only [deq, Bool.not_false, Bool.not_true]
     exact RcAt.bool_bool _ _
   | int b =>
     have h' : v' = .int b := h'
     subst h'
     obtain ⟨t', rfl⟩ := r'
     simp only [deq, Bool.not_false, Bool.not_true]
     exact RcAt.bool_int _ _ _
   | str b =>
     have h' : v' = .str b := h'
     subst h'
     obtain ⟨t', rfl⟩ := r'
     simp only [deq, Bool.not_false, Bool.not_true]
     exact RcAt.bool_str _ _ _
   | tup ds' =>
     obtain ⟨l', vs', rfl, e', hs'⟩ := h'
     cases r'
     obtain ⟨its', rv', hl'⟩ := DAts.tup_of ok e'
     simp only [deq, Bool.not_false, Bool.not_true]
     exact RcAt.bool_tuple _ hl' hu0
   | lst ds' =>
     obtain ⟨l', vs', rfl, e', hs'⟩ := h'
     cases r'
     obtain ⟨its', rv', hl'⟩ := DAts.lst_of ok e'
     simp only [deq, Bool.not_false, Bool.not_true]
     exact RcAt.bool_list _ hl' hu0
 | int a =>
   have h : v = .int a := h
   subst h
   obtain ⟨t, rfl⟩ := r
   cases d' with
   | non =>
     have h' : v' = .non := h'
     subst h'
     cases r'
     simp only [deq, Bool.not_false, Bool.not_true]
     exact RcAt.int_none _ _
   | bl b =>
     have h' : v' = .bl b := h'
     subst h'
     cases r'
     simp only [deq, Bool.not_false, Bool.not_true]
     exact RcAt.int_bool _ _ _
   | int b =>
     have h' : v' = .int b := h'
     subst h'
     obtain ⟨t', rfl⟩ := r'
     simp only [deq, Bool.not_false, Bool.not_true]
     exact RcAt.int_int _ _ _ _
   | str b =>
     have h' : v' = .str b := h'
     subst h'
     obtain ⟨t', rfl⟩ := r'
     simp only [deq, Bool.not_false, Bool.not_true]
     exact RcAt.int_str _ _ _ _
   | tup ds' =>
     obtain ⟨l', vs', rfl, e', hs'⟩ := h'
     cases r'
     obtain ⟨its', rv', hl'⟩ := DAts.tup_of ok e'
     simp only [deq, Bool.not_false, Bool.not_true]
     exact RcAt.int_tuple _ _ hl' hu0
   | lst ds' =>
     obtain ⟨l', vs', rfl, e', hs'⟩ := h'
     cases r'
     obtain ⟨its', rv', hl'⟩ := DAts.lst_of ok e'
     simp only [deq, Bool.not_false, Bool.not_true]
     exact RcAt.int_list _ _ hl' hu0
 | str a =>
   have h : v = .str a := h
   subst h
   obtain ⟨t, rfl⟩ := r
   cases d' with
   | non =>
     have h' : v' = .non := h'
     subst h'
     cases r'
     simp only [deq, Bool.not_false, Bool.not_true]
     exact RcAt.str_none _ _
   | bl b =>
     have h' : v' = .bl b := h'
     subst h'
     cases r'
     simp only [deq, Bool.not_false, Bool.not_true]
     exact RcAt.str_bool _ _ _
   | int b =>
     have h' : v' = .int b := h'
     subst h'
     obtain ⟨t', rfl⟩ := r'
     simp only [deq, Bool.not_false, Bool.not_true]
     exact RcAt.str_int _ _ _ _
   | str b =>
     have h' : v' = .str b := h'
     subst h'
     obtain ⟨t', rfl⟩ := r'
     simp only [deq, Bool.not_false, Bool.not_true]
     exact RcAt.str_str _ _ _ _
   | tup ds' =>
     obtain ⟨l', vs', rfl, e', hs'⟩ := h'
     cases r'
     obtain ⟨its', rv', hl'⟩ := DAts.tup_of ok e'
     simp only [deq, Bool.not_false, Bool.not_true]
     exact RcAt.str_tuple _ _ hl' hu0
   | lst ds' =>
     obtain ⟨l', vs', rfl, e', hs'⟩ := h'
     cases r'
     obtain ⟨its', rv', hl'⟩ := DAts.lst_of ok e'
     simp only [deq, Bool.not_false, Bool.not_true]
     exact RcAt.str_list _ _ hl' hu0
 | tup ds =>
   obtain ⟨l, vs, rfl, e, hs⟩ := h
   cases r
   obtain ⟨its, rv, hl⟩ := DAts.tup_of ok e
   cases d' with
   | non =>
     have h' : v' = .non := h'
     subst h'
     cases r'
     simp only [deq, Bool.not_false, Bool.not_true]
     exact RcAt.tuple_none hl hu0
   | bl b =>
     have h' : v' = .bl b := h'
     subst h'
     cases r'
     simp only [deq, Bool.not_false, Bool.not_true]
     exact RcAt.tuple_bool _ hl hu0
   | int b =>
     have h' : v' = .int b := h'
     subst h'
     obtain ⟨t', rfl⟩ := r'
     simp only [deq, Bool.not_false, Bool.not_true]
     exact RcAt.tuple_int _ _ hl hu0
   | str b =>
     have h' : v' = .str b := h'
     subst h'
     obtain ⟨t', rfl⟩ := r'
     simp only [deq, Bool.not_false, Bool.not_true]
     exact RcAt.tuple_str _ _ hl hu0
   | tup ds' =>
     obtain ⟨l', vs', rfl, e', hs'⟩ := h'
     cases r'
     obtain ⟨its', rv', hl'⟩ := DAts.tup_of ok e'
     simp only [deq, Bool.not_false, Bool.not_true]
     exact rc_tups ok (uZ ok n) hs hs' rv rv' hl hl' f.2 hu
   | lst ds' =>
     obtain ⟨l', vs', rfl, e', hs'⟩ := h'
     cases r'
     obtain ⟨its', rv', hl'⟩ := DAts.lst_of ok e'
     simp only [deq, Bool.not_false, Bool.not_true]
     exact RcAt.tuple_list hl hl' hu0
 | lst ds =>
   obtain ⟨l, vs, rfl, e, hs⟩ := h
   cases r
   obtain ⟨its, rv, hl⟩ := DAts.lst_of ok e
   cases d' with
   | non =>
     have h' : v' = .non := h'
     subst h'
     cases r'
     simp only [deq, Bool.not_false, Bool.not_true]
     exact RcAt.list_none hl hu0
   | bl b =>
     have h' : v' = .bl b := h'
     subst h'
     cases r'
     simp only [deq, Bool.not_false, Bool.not_true]
     exact RcAt.list_bool _ hl hu0
   | int b =>
     have h' : v' = .int b := h'
     subst h'
     obtain ⟨t', rfl⟩ := r'
     simp only [deq, Bool.not_false, Bool.not_true]
     exact RcAt.list_int _ _ hl hu0
   | str b =>
     have h' : v' = .str b := h'
     subst h'
     obtain ⟨t', rfl⟩ := r'
     simp only [deq, Bool.not_false, Bool.not_true]
     exact RcAt.list_str _ _ hl hu0
   | tup ds' =>
     obtain ⟨l', vs', rfl, e', hs'⟩ := h'
     cases r'
     obtain ⟨its', rv', hl'⟩ := DAts.tup_of ok e'
     simp only [deq, Bool.not_false, Bool.not_true]
     exact RcAt.list_tuple hl hl' hu0
   | lst ds' =>
     obtain ⟨l', vs', rfl, e', hs'⟩ := h'
     cases r'
     obtain ⟨its', rv', hl'⟩ := DAts.lst_of ok e'
     simp only [deq, Bool.not_false, Bool.not_true]
     exact uL ok (uZ ok n) hs hs' rv rv' hl hl' f.2 hu
theorem rn_at (ok : HOk P w H s.heap) {n : Nat} {A : Around} {d d' : Dt} {v v' : V} {u u' : Value} (h : DAt H d v) (h' : DAt H d' v') (r : RelV v u) (r' : RelV v' u') (f : DFit (n + 1) d) (hu : A.units + (n + 1) < cLine) : RcNeAt A s u u' (!deq d d') := by
 have hu0 : A.units < cLine := by omega
 cases d with
 | non =>
   have h : v = .non := h
   subst h
   cases r
   cases d' with
   | non =>
     have h' : v' = .non := h'
     subst h'
     cases r'
     simp only [deq, Bool.not_false, Bool.not_true]
     exact RcNeAt.none_none
   | bl b =>
     have h' : v' = .bl b := h'
     subst h'
     cases r'
     simp only [deq, Bool.not_false, Bool.not_true]
     exact RcNeAt.none_bool _
   | int b =>
     have h' : v' = .int b := h'
     subst h'
     obtain ⟨t', rfl⟩ := r'
     simp only [deq, Bool.not_false, Bool.not_true]
     exact RcNeAt.none_int _ _
   | str b =>
     have h' : v' = .str b := h'
     subst h'
     obtain ⟨t', rfl⟩ := r'
     simp only [deq, Bool.not_false, Bool.not_true]
     exact RcNeAt.none_str _ _
   | tup ds' =>
     obtain ⟨l', vs', rfl, e', hs'⟩ := h'
     cases r'
     obtain ⟨its', rv', hl'⟩ := DAts.tup_of ok e'
     simp only [deq, Bool.not_false, Bool.not_true]
     exact RcNeAt.none_tuple hl' hu0
   | lst ds' =>
     obtain ⟨l', vs', rfl, e', hs'⟩ := h'
     cases r'
     obtain ⟨its', rv', hl'⟩ := DAts.lst_of ok e'
     simp only [deq, Bool.not_false, Bool.not_true]
     exact RcNeAt.none_list hl' hu0
 | bl a =>
   have h : v = .bl a := h
   subst h
   cases r
   cases d' with
   | non =>
     have h' : v' = .non := h'
     subst h'
     cases r'
     simp only [deq, Bool.not_false, Bool.not_true]
     exact RcNeAt.bool_none _
   | bl b =>
     have h' : v' = .bl b := h'
     subst h'
     cases r'
     simp only [deq, Bool.not_false, Bool.not_true]
     exact RcNeAt.bool_bool _ _
   | int b =>
     have h' : v' = .int b := h'
     subst h'
     obtain ⟨t', rfl⟩ := r'
     simp only [deq, Bool.not_false, Bool.not_true]
     exact RcNeAt.bool_int _ _ _
   | str b =>
     have h' : v' = .str b := h'
     subst h'
     obtain ⟨t', rfl⟩ := r'
     simp only [deq, Bool.not_false, Bool.not_true]
     exact RcNeAt.bool_str _ _ _
   | tup ds' =>
     obtain ⟨l', vs', rfl, e', hs'⟩ := h'
     cases r'
     obtain ⟨its', rv', hl'⟩ := DAts.tup_of ok e'
     simp only [deq, Bool.not_false, Bool.not_true]
     exact RcNeAt.bool_tuple _ hl' hu0
   | lst ds' =>
     obtain ⟨l', vs', rfl, e', hs'⟩ := h'
     cases r'
     obtain ⟨its', rv', hl'⟩ := DAts.lst_of ok e'
     simp only [deq, Bool.not_false, Bool.not_true]
     exact RcNeAt.bool_list _ hl' hu0
 | int a =>
   have h : v = .int a := h
   subst h
   obtain ⟨t, rfl⟩ := r
   cases d' with
   | non =>
     have h' : v' = .non := h'
     subst h'
     cases r'
     simp only [deq, Bool.not_false, Bool.not_true]
     exact RcNeAt.int_none _ _
   | bl b =>
     have h' : v' = .bl b := h'
     subst h'
     cases r'
     simp only [deq, Bool.not_false, Bool.not_true]
     exact RcNeAt.int_bool _ _ _
   | int b =>
     have h' : v' = .int b := h'
     subst h'
     obtain ⟨t', rfl⟩ := r'
     simp only [deq, Bool.not_false, Bool.not_true]
     exact RcNeAt.int_int _ _ _ _
   | str b =>
     have h' : v' = .str b := h'
     subst h'
     obtain ⟨t', rfl⟩ := r'
     simp only [deq, Bool.not_false, Bool.not_true]
     exact RcNeAt.int_str _ _ _ _
   | tup ds' =>
     obtain ⟨l', vs', rfl, e', hs'⟩ := h'
     cases r'
     obtain ⟨its', rv', hl'⟩ := DAts.tup_of ok e'
     simp only [deq, Bool.not_false, Bool.not_true]
     exact RcNeAt.int_tuple _ _ hl' hu0
   | lst ds' =>
     obtain ⟨l', vs', rfl, e', hs'⟩ := h'
     cases r'
     obtain ⟨its', rv', hl'⟩ := DAts.lst_of ok e'
     simp only [deq, Bool.not_false, Bool.not_true]
     exact RcNeAt.int_list _ _ hl' hu0
 | str a =>
   have h : v = .str a := h
   subst h
   obtain ⟨t, rfl⟩ := r
   cases d' with
   | non =>
     have h' : v' = .non := h'
     subst h'
     cases r'
     simp only [deq, Bool.not_false, Bool.not_true]
     exact RcNeAt.str_none _ _
   | bl b =>
     have h' : v' = .bl b := h'
     subst h'
     cases r'
     simp only [deq, Bool.not_false, Bool.not_true]
     exact RcNeAt.str_bool _ _ _
   | int b =>
     have h' : v' = .int b := h'
     subst h'
     obtain ⟨t', rfl⟩ := r'
     simp only [deq, Bool.not_false, Bool.not_true]
     exact RcNeAt.str_int _ _ _ _
   | str b =>
     have h' : v' = .str b := h'
     subst h'
     obtain ⟨t', rfl⟩ := r'
     simp only [deq, Bool.not_false, Bool.not_true]
     exact RcNeAt.str_str _ _ _ _
   | tup ds' =>
     obtain ⟨l', vs', rfl, e', hs'⟩ := h'
     cases r'
     obtain ⟨its', rv', hl'⟩ := DAts.tup_of ok e'
     simp only [deq, Bool.not_false, Bool.not_true]
     exact RcNeAt.str_tuple _ _ hl' hu0
   | lst ds' =>
     obtain ⟨l', vs', rfl, e', hs'⟩ := h'
     cases r'
     obtain ⟨its', rv', hl'⟩ := DAts.lst_of ok e'
     simp only [deq, Bool.not_false, Bool.not_true]
     exact RcNeAt.str_list _ _ hl' hu0
 | tup ds =>
   obtain ⟨l, vs, rfl, e, hs⟩ := h
   cases r
   obtain ⟨its, rv, hl⟩ := DAts.tup_of ok e
   cases d' with
   | non =>
     have h' : v' = .non := h'
     subst h'
     cases r'
     simp only [deq, Bool.not_false, Bool.not_true]
     exact RcNeAt.tuple_none hl hu0
   | bl b =>
     have h' : v' = .bl b := h'
     subst h'
     cases r'
     simp only [deq, Bool.not_false, Bool.not_true]
     exact RcNeAt.tuple_bool _ hl hu0
   | int b =>
     have h' : v' = .int b := h'
     subst h'
     obtain ⟨t', rfl⟩ := r'
     simp only [deq, Bool.not_false, Bool.not_true]
     exact RcNeAt.tuple_int _ _ hl hu0
   | str b =>
     have h' : v' = .str b := h'
     subst h'
     obtain ⟨t', rfl⟩ := r'
     simp only [deq, Bool.not_false, Bool.not_true]
     exact RcNeAt.tuple_str _ _ hl hu0
   | tup ds' =>
     obtain ⟨l', vs', rfl, e', hs'⟩ := h'
     cases r'
     obtain ⟨its', rv', hl'⟩ := DAts.tup_of ok e'
     simp only [deq, Bool.not_false, Bool.not_true]
     exact rn_tups ok (uZ ok n) hs hs' rv rv' hl hl' f.2 hu
   | lst ds' =>
     obtain ⟨l', vs', rfl, e', hs'⟩ := h'
     cases r'
     obtain ⟨its', rv', hl'⟩ := DAts.lst_of ok e'
     simp only [deq, Bool.not_false, Bool.not_true]
     exact RcNeAt.tuple_list hl hl' hu0
 | lst ds =>
   obtain ⟨l, vs, rfl, e, hs⟩ := h
   cases r
   obtain ⟨its, rv, hl⟩ := DAts.lst_of ok e
   cases d' with
   | non =>
     have h' : v' = .non := h'
     subst h'
     cases r'
     simp only [deq, Bool.not_false, Bool.not_true]
     exact RcNeAt.list_none hl hu0
   | bl b =>
     have h' : v' = .bl b := h'
     subst h'
     cases r'
     simp only [deq, Bool.not_false, Bool.not_true]
     exact RcNeAt.list_bool _ hl hu0
   | int b =>
     have h' : v' = .int b := h'
     subst h'
     obtain ⟨t', rfl⟩ := r'
     simp only [deq, Bool.not_false, Bool.not_true]
     exact RcNeAt.list_int _ _ hl hu0
   | str b =>
     have h' : v' = .str b := h'
     subst h'
     obtain ⟨t', rfl⟩ := r'
     simp only [deq, Bool.not_false, Bool.not_true]
     exact RcNeAt.list_str _ _ hl hu0
   | tup ds' =>
     obtain ⟨l', vs', rfl, e', hs'⟩ := h'
     cases r'
     obtain ⟨its', rv', hl'⟩ := DAts.tup_of ok e'
     simp only [deq, Bool.not_false, Bool.not_true]
     exact RcNeAt.list_tuple hl hl' hu0
   | lst ds' =>
     obtain ⟨l', vs', rfl, e', hs'⟩ := h'
     cases r'
     obtain ⟨its', rv', hl'⟩ := DAts.lst_of ok e'
     simp only [deq, Bool.not_false, Bool.not_true]
     exact rn_lists ok (uZ ok n) hs hs' rv rv' hl hl' f.2 hu
end
section
variable {X : Cx}
def rEqG : R2 := fun x y H Q => ∃ n d d', DAt H d x /\ DAt H d' y /\ DFit (n + 1) d /\ n <= 60 /\ Q (.bl (deq d d')) H
def rNeG : R2 := fun x y H Q => ∃ n d d', DAt H d x /\ DAt H d' y /\ DFit (n + 1) d /\ n <= 60 /\ Q (.bl (!deq d d')) H
theorem op_eqG (hu : X.A.units + 64 < cLine) : OpR X (compareOp .Eq) rEqG := by
 intro pins s σ H x y v u Q I rx ry h
 obtain ⟨n, d, d', h1, h2, f, hn, q⟩ := h
 exact rc_at I.hok h1 h2 rx ry f (by omega) X.prog X.w _ _ (zZ I q rfl)
theorem op_neG (hu : X.A.units + 64 < cLine) : OpR X (compareOp .NotEq) rNeG := by
 intro pins s σ H x y v u Q I rx ry h
 obtain ⟨n, d, d', h1, h2, f, hn, q⟩ := h
 exact rn_at I.hok h1 h2 rx ry f (by omega) X.prog X.w _ _ (zZ I q rfl)
end
end L2
namespace L2
open PySem PySem.Spec PyProof.Rows PySem.SeqAt
section
variable {prog : Program} {w : World} {A : Around} {E : Value -> Shared -> Prop} {s : Shared}
structure Apt (z TI TO i1 i2 l1 l2 : Addr) : Prop where
 nd : [z, TI, TO, i1, i2].Nodup
 a1 : l1 ≠ z /\ l1 ≠ TO /\ l1 ≠ i1 /\ l1 ≠ i2
 a2 : l2 ≠ z /\ l2 ≠ TO /\ l2 ≠ i1 /\ l2 ≠ i2
end
section
variable {X : Cx} {pins : List (Addr × Obj)} {σ : St} {H : Hp} {s : Shared} {h' : Heap}
end
section
variable {X : Cx}
end
end L2
namespace L2
open PySem PySem.Spec PyProof.Rows PySem.SeqAt
theorem lc_rangeIf {lo : Int} {n : Nat} {ns : List Str} {js : List Nat} {g : TG} {tc : TT} {te : TE} {σ : St} {H : Hp} {Q : VK} (Pv : Nat -> List V -> St -> Hp -> Prop) (h0 : Pv 0 [] (uW ns js σ) H) (hz : n <= sizeLine) (hl : ∀ i ys σ H, Pv i ys σ H -> ys.length <= i)
   (hs : ∀ (i : Nat) ys σ H (C : V -> St -> Hp -> Prop) (D : St -> Hp -> Prop), i < n -> Pv i ys σ H -> (∀ y σ2 H3, Pv (i + 1) (ys ++ [y]) σ2 H3 -> C y σ2 H3) -> (∀ σ2 H3, Pv (i + 1) ys σ2 H3 -> D σ2 H3) ->
     g (.int (lo + i)) σ H fun σ2 H2 => tc σ2 H2 fun b H3 => if b = true then te σ2 H3 fun y H4 => C y σ2 H4 else D σ2 H3)
   (hd : ∀ ys σ H, Pv n ys σ H -> ∀ p, H p = none -> Q (.ref p) (upd H p (.lst ys))) :
   LcW (Itr lo n) ns js g (some tc) te σ H Q := by
 refine ⟨fun i m ys σ H => m = n - i /\ i <= n /\ Pv i ys σ H, ⟨n, by omega, Nat.zero_le _, h0⟩, fun i m ys σ1 H1 ⟨hm, hi, hp⟩ => ?_⟩
 by_cases h : i < n
 · refine .inr ⟨h, ?_, fun x H' ⟨e, hx⟩ => ?_⟩
   · have := hl i ys σ1 H1 hp
     omega
   · subst e
     subst hx
     exact hs i ys σ1 _ _ _ h hp (fun y σ2 H3 q => ⟨n - (i + 1), by omega, rfl, by omega, q⟩) fun σ2 H3 q => ⟨n - (i + 1), by omega, rfl, by omega, q⟩
 · have e : i = n := by omega
   subst e
   exact .inl ⟨Nat.le_refl _, hd ys σ1 H1 hp⟩
end L2
namespace L2
open PySem PySem.Spec PyProof.Rows PySem.SeqAt
inductive Rw where
 | no | nm (x : Str) | bo (i j : Int)
inductive Wt where
 | n (i : Int) | ps (l : List Int)
structure Ln where
 i : Int
 j : Int
 w : Str
 as : List Wt
def parts (rows : List Rw) (n : Int) : List Int := if n % 2 = 0 then (match rows[(n / 2).toNat]? with | some (.bo i j) => [i, j] | _ => []) else []
def named (w : Str) : Option Int :=
 if w = "same" then some 0 else if w = "edge" then some 0 else if w = "part" then some 0 else if w = "both" then some 2 else if w = "turn" then some 1 else if w = "chain" then some 2 else if w = "clash" then some 1 else none
end L2
namespace L2
open PySem PySem.Spec PyProof.Rows PySem.SeqAt
section
variable {prog : Program} {w : World} {A : Around} {E : Value -> Shared -> Prop} {s : Shared}
end
section
variable {X : Cx}
end
end L2
namespace L2
open PySem PySem.Spec PyProof.Rows PySem.SeqAt
section
variable {X : Cx}
end
end L2
namespace L2
open PySem
def Ris (xs : Array Nat) : Prop := xs.toList.Pairwise (· < ·)
theorem Ris.mono {xs : Array Nat} (h : Ris xs) : ∀ a b, a < b -> b < xs.size -> xs.getD a 0 < xs.getD b 0 := by
 intro a b hab hb
 have := List.pairwise_iff_getElem.mp h a b (by rw [Array.length_toList]; omega) (by rw [Array.length_toList]; exact hb) hab
 simpa [Array.getD, hb, Nat.lt_trans hab hb] using this
theorem getD_any (xs : Array Nat) {k : Nat} (a b : Nat) (h : k < xs.size) : xs.getD k a = xs.getD k b := by simp [Array.getD, h]
theorem below_go (xs : Array Nat) (j : Nat) (mono : ∀ a b, a < b -> b < xs.size -> xs.getD a 0 < xs.getD b 0) :
   ∀ (fuel lo hi : Nat), hi - lo <= fuel -> lo <= hi -> hi <= xs.size -> (∀ k, k < lo -> xs.getD k 0 < j) -> (∀ k, hi <= k -> k < xs.size -> j <= xs.getD k 0) ->
     SetTable.below.go xs j fuel lo hi <= xs.size /\ (∀ k, k < SetTable.below.go xs j fuel lo hi -> xs.getD k 0 < j) /\ (∀ k, SetTable.below.go xs j fuel lo hi <= k -> k < xs.size -> j <= xs.getD k 0) := by
 intro fuel
 induction fuel with
 | zero =>
   intro lo hi h1 h2 h3 h4 h5
   have : lo = hi := by omega
   subst this
   unfold SetTable.below.go
   exact ⟨h3, h4, h5⟩
 | succ n ih =>
   intro lo hi h1 h2 h3 h4 h5
   unfold SetTable.below.go
   by_cases hl : lo < hi
   · rw [if_pos hl]
     dsimp only
     have hm : (lo + hi) / 2 < xs.size := by omega
     rw [getD_any xs j 0 hm]
     by_cases hc : xs.getD ((lo + hi) / 2) 0 < j
     · rw [if_pos hc]
       refine ih _ _ (by omega) (by omega) h3 (fun k hk => ?_) h5
       by_cases e : k = (lo + hi) / 2
       · rw [e]; exact hc
       · exact Nat.lt_trans (mono k _ (by omega) hm) hc
     · rw [if_neg hc]
       refine ih _ _ (by omega) (by omega) (by omega) h4 (fun k hk hks => ?_)
       by_cases e : k = (lo + hi) / 2
       · rw [e]; omega
       · have := mono ((lo + hi) / 2) k (by omega) hks
         omega
   · rw [if_neg hl]
     have : lo = hi := by omega
     subst this
     exact ⟨h3, h4, h5⟩
theorem vB {xs : Array Nat} (h : Ris xs) (j : Nat) : SetTable.below xs j <= xs.size /\ (∀ k, k < SetTable.below xs j -> xs.getD k 0 < j) /\ (∀ k, SetTable.below xs j <= k -> k < xs.size -> j <= xs.getD k 0) :=
 below_go xs j h.mono xs.size 0 xs.size (by omega) (by omega) (Nat.le_refl _) (fun k hk => absurd hk (Nat.not_lt_zero _)) (fun k h1 h2 => absurd h2 (by omega))
def xX (xs : Array Nat) (i : Nat) : Nat := if i = 0 then 0 else xs.getD (i - 1) 0 + 1
theorem vA {xs : Array Nat} (h : Ris xs) {i : Nat} (hi : i <= xs.size) : SetTable.below xs (xX xs i) = i := by
 obtain ⟨h1, h2, h3⟩ := vB h (xX xs i)
 unfold xX at *
 by_cases h0 : i = 0
 · subst h0
   rw [if_pos rfl] at *
   by_cases e : SetTable.below xs 0 = 0
   · exact e
   · have := h2 0 (by omega)
     omega
 · rw [if_neg h0] at *
   generalize SetTable.below xs (xs.getD (i - 1) 0 + 1) = r at *
   have a1 : ¬ r <= i - 1 := fun hr => by have := h3 (i - 1) hr (by omega); omega
   have a2 : ¬ i < r := fun hr => by
     have e1 := h2 i hr
     have e2 := h.mono (i - 1) i (by omega) (by omega)
     omega
   omega
theorem qZ {α : Type} (xs : Array α) (p : Nat) (x : α) (hp : p <= xs.size) : (SetTable.insertAt xs p x).toList = xs.toList.take p ++ x :: xs.toList.drop p := by
 unfold SetTable.insertAt
 simp [Array.toList_extract, List.extract]
 exact List.take_of_length_le (by rw [List.length_drop, Array.length_toList]; omega)
theorem ris_insert {xs : Array Nat} (h : Ris xs) {j : Nat} (hj : xs[SetTable.below xs j]? ≠ some j) : Ris (SetTable.insertAt xs (SetTable.below xs j) j) := by
 obtain ⟨h1, h2, h3⟩ := vB h j
 unfold Ris
 rw [qZ _ _ _ h1]
 have hg : ∀ k (hk : k < xs.toList.length), xs.toList[k] = xs.getD k 0 := fun k hk => by
   rw [Array.length_toList] at hk
   simp [Array.getD, hk]
 have up : ∀ b, b ∈ xs.toList.drop (SetTable.below xs j) -> j < b := by
   intro b hb
   obtain ⟨k, hk, rfl⟩ := List.getElem_of_mem hb
   rw [List.length_drop] at hk
   rw [List.getElem_drop, hg _ (by omega)]
   have hs : SetTable.below xs j + k < xs.size := by rw [← Array.length_toList]; omega
   have hle := h3 (SetTable.below xs j) (Nat.le_refl _) (by omega)
   have hne : xs.getD (SetTable.below xs j) 0 ≠ j := fun e => hj (by
     have hb : SetTable.below xs j < xs.size := by omega
     rw [Array.getElem?_eq_getElem hb]
     simpa [Array.getD, hb] using e)
   by_cases hk0 : k = 0
   · subst hk0
     simp only [Nat.add_zero]
     omega
   · have := h.mono (SetTable.below xs j) (SetTable.below xs j + k) (by omega) hs
     omega
 have lo : ∀ a, a ∈ xs.toList.take (SetTable.below xs j) -> a < j := by
   intro a ha
   obtain ⟨k, hk, rfl⟩ := List.getElem_of_mem ha
   rw [List.length_take] at hk
   rw [List.getElem_take, hg _ (by omega)]
   exact h2 k (by omega)
 refine List.pairwise_append.mpr ⟨h.sublist (List.take_sublist _ _), List.pairwise_cons.mpr ⟨fun b hb => up b hb, h.sublist (List.drop_sublist _ _)⟩, fun a ha b hb => ?_⟩
 rcases List.mem_cons.mp hb with rfl | hb
 · exact lo a ha
 · exact Nat.lt_trans (lo a ha) (up b hb)
theorem wD (t : SetTable) (p : SetTable.Probe) : (t.advance p).dummy = p.dummy := by
 unfold SetTable.advance
 split <;> rfl
theorem slot_not {t : SetTable} {j : Nat} (h : ∀ i, t.slot j ≠ .live i) : t.place[SetTable.below t.place j]? ≠ some j := by
 intro e
 apply h (SetTable.below t.place j)
 unfold SetTable.slot
 simp [e]
theorem probe_empty (t : SetTable) (hashAt : Nat -> Int) (hh : Int) : ∀ (fuel : Nat) (p : SetTable.Probe) (j : Nat) (d : Option Nat), (∀ e, p.dummy = some e -> t.place[SetTable.below t.place e]? ≠ some e) ->
   SetTable.probe.go t hashAt hh fuel p = some (.empty j d) -> t.place[SetTable.below t.place (d.getD j)]? ≠ some (d.getD j) := by
 intro fuel
 induction fuel with
 | zero => intro p j d _ h; unfold SetTable.probe.go at h; cases h
 | succ n ih =>
   intro p j d hp h
   unfold SetTable.probe.go at h
   cases hs : t.slot p.j with
   | empty =>
     rw [hs] at h
     dsimp only at h
     have h := Option.some.inj h
     injection h with h1 h2
     subst h1 h2
     cases hd : p.dummy with
     | none => exact slot_not (j := p.j) fun i e => by rw [hs] at e; cases e
     | some e => exact hp e hd
   | dummy =>
     rw [hs] at h
     dsimp only at h
     refine ih _ j d (fun e he => ?_) h
     rw [wD] at he
     cases he
     exact slot_not fun i e => by rw [hs] at e; cases e
   | live i =>
     rw [hs] at h
     dsimp only at h
     split at h
     · cases h
     · exact ih _ j d (fun e he => hp e (by rw [wD] at he; exact he)) h
theorem free_not {t : SetTable} {hh : Int} {j : Nat} {b : Bool} (h : t.freeSlot hh = some (j, b)) : t.place[SetTable.below t.place j]? ≠ some j := by
 unfold SetTable.freeSlot at h
 split at h
 · rename_i j' d hp
   have h := Option.some.inj h
   have e : d.getD j' = j := congrArg Prod.fst h
   rw [← e]
   unfold SetTable.probe at hp
   refine probe_empty t _ _ _ _ j' d (fun e he => ?_) hp
   unfold SetTable.probeStart at he
   cases he
 · cases h
def FlN (t : SetTable) : Prop := t.plain = false \/ Ris t.place
theorem lay_fl {t : SetTable} (h : FlN t) (es : Array (Int × Value)) (hh : Int) (x : Value) : FlN (layNew t es hh x).2.1 := by
 unfold layNew
 split
 · rename_i slot wd hs
   dsimp only
   unfold SetTable.orStandIn
   split
   · rcases h with h | h
     · exact .inl h
     · exact .inr (ris_insert h (free_not hs))
   · exact .inl rfl
 · exact .inl rfl
theorem live_ris (owner : Array (Option Nat)) (m : Nat) : Ris ((((List.range (m + 1)).filterMap fun j => (owner.getD j none).map fun x => (j, x)).map (·.1)).toArray) := by
 unfold Ris
 rw [List.toList_toArray]
 rw [List.pairwise_map]
 refine List.Pairwise.filterMap _ (fun a a' haa b hb b' hb' => ?_) (List.pairwise_lt_range (n := m + 1))
 cases h1 : owner.getD a none with
 | none => rw [h1] at hb; cases hb
 | some y =>
   cases h2 : owner.getD a' none with
   | none => rw [h2] at hb'; cases hb'
   | some y' =>
     rw [h1] at hb
     rw [h2] at hb'
     cases hb
     cases hb'
     exact haa
theorem relaid_ris {t t' : SetTable} {hs : Array Int} {n : Nat} {o : Array Nat} (h : t.relaid hs n = some (t', o)) : Ris t'.place := by
 unfold SetTable.relaid SetTable.laid at h
 cases hc : SetTable.layClean (SetTable.sizeAbove n - 1) hs with
 | none => rw [hc] at h; cases h
 | some ow =>
   rw [hc] at h
   have h := Option.some.inj h
   have e := congrArg Prod.fst h
   dsimp only at e
   rw [← e]
   exact live_ris ow _
theorem relay_fl {t : SetTable} (h : FlN t) (es : Array (Int × Value)) (n : Nat) : FlN (relayAll t es n).2.1 := by
 unfold relayAll
 split
 · rename_i t' o hr
   dsimp only
   split
   · exact .inr (relaid_ris hr)
   · exact .inl rfl
 · exact .inl rfl
end L2
namespace L2
open PySem PyProof.Rows
def nuv : Value -> Option Int
 | .int z _ => some z
 | _ => none
def nus (l : List (Int × Value)) : List Int := l.filterMap fun e => nuv e.2
section
variable {prog : Program} {w : World} {A : Around} {E : Value -> Shared -> Prop} {s : Shared}
def NuSet (prog : Program) (w : World) (h : Heap) (a : Addr) (zs : List Int) : Prop :=
 ∃ o es ep t, h.get? a = some o /\ o.ExactSet /\ o.data = .set es ep t /\ ElemsOf (intKind prog w) es.toList /\ zs = nus es.toList /\ zs.Nodup /\ es.size < scanBound /\ t.fits es.size = true /\
   (qO w = true \/ t.led = true /\ FlN t)
theorem wV {k : Int} {v : Value} (h : (intKind prog w).is k v = true) : ∃ t, v = .int k t := Value.isInt_shape h
theorem is_int (k : Int) (t : Tok) : (intKind prog w).is k (.int k t) = true := by simp [PySem.intKind, Value.isInt]
theorem mem_nus {l : List (Int × Value)} (he : ElemsOf (intKind prog w) l) (k : Int) : k ∈ nus l ↔ ∃ e ∈ l, (intKind prog w).is k e.2 = true := by
 unfold nus
 rw [List.mem_filterMap]
 constructor
 · rintro ⟨e, h1, h2⟩
   obtain ⟨⟨k', hk, _⟩, _⟩ := he e h1
   obtain ⟨t, ht⟩ := wV hk
   rw [ht] at h2
   cases h2
   exact ⟨e, h1, hk⟩
 · rintro ⟨e, h1, h2⟩
   obtain ⟨t, ht⟩ := wV h2
   exact ⟨e, h1, by rw [ht]; rfl⟩
theorem jF {l : List (Int × Value)} (he : ElemsOf (intKind prog w) l) : (nus l).length = l.length := by
 induction l with
 | nil => rfl
 | cons e l ih =>
   obtain ⟨⟨k, hk, _⟩, _⟩ := he.head
   obtain ⟨t, ht⟩ := wV hk
   have : nus (e :: l) = k :: nus l := by
     unfold nus
     rw [List.filterMap_cons_some (b := k) (by rw [ht]; rfl)]
   rw [this, List.length_cons, List.length_cons, ih he.tail]
theorem wQ {l : List (Int × Value)} (he : ElemsOf (intKind prog w) l) {i : Nat} {e : Int × Value} (h : l[i]? = some e) : ∃ z t, e.2 = .int z t /\ (nus l)[i]? = some z := by
 induction l generalizing i with
 | nil => cases h
 | cons e' l ih =>
   obtain ⟨⟨k, hk, _⟩, _⟩ := he.head
   obtain ⟨t, ht⟩ := wV hk
   have : nus (e' :: l) = k :: nus l := by
     unfold nus
     rw [List.filterMap_cons_some (b := k) (by rw [ht]; rfl)]
   rw [this]
   cases i with
   | zero => cases h; exact ⟨k, t, ht, rfl⟩
   | succ i => exact ih he.tail h
theorem nu_fresh (led : Bool) (hl : qO w = true \/ led = true) {h : Heap} {a : Addr} (ho : h.get? a = some { cls := .type "set", dict := none, data := .set #[] 0 (.fresh 0 0 led) }) : NuSet prog w h a [] :=
 ⟨_, #[], 0, .fresh 0 0 led, ho, ⟨rfl, rfl, rfl⟩, rfl, fun e he => by simp at he, rfl, List.Pairwise.nil, by decide, by rfl, hl.elim .inl fun h => .inr ⟨h, .inr List.Pairwise.nil⟩⟩
theorem NuSet.kept {h h' : Heap} {a : Addr} {zs : List Int} (hS : NuSet prog w h a zs) (k : ∀ o, h.get? a = some o -> h'.get? a = some o) : NuSet prog w h' a zs := by
 obtain ⟨o, es, ep, t, ho, r⟩ := hS
 exact ⟨o, es, ep, t, k _ ho, r⟩
theorem vO {h : Heap} {a : Addr} {o : Obj} {es es' : Array (Int × Value)} {ep : Nat} {t t' : SetTable} (ho : h.get? a = some o) (hx : o.ExactSet) (hd : o.data = .set es ep t)
   (he : ElemsOf (intKind prog w) es'.toList) (hn : (nus es'.toList).Nodup) (hb : es'.size < scanBound) (hf : t'.fits es'.size = true) (hfl : qO w = true \/ t'.led = true /\ FlN t') :
   (h.update a (Obj.putSet es' t')).get? a = some { o with data := .set es' (ep + 1) t' } /\ NuSet prog w (h.update a (Obj.putSet es' t')) a (nus es'.toList) := by
 have hg : (h.update a (Obj.putSet es' t')).get? a = some { o with data := .set es' (ep + 1) t' } := by
   have q := Heap.get?_update_self (Obj.putSet es' t') ho (by rw [putSet_of es' t' hd]; rfl)
   rw [putSet_of es' t' hd] at q
   exact q
 exact ⟨hg, _, es', ep + 1, t', hg, hx, rfl, he, rfl, hn, hb, hf, hfl⟩
theorem nu_tail {g : Bool -> Sem Unit} (hg : ∀ (b : Bool) (s₁ : Shared) (Q' : Unit -> Shared -> Prop), Q' () s₁ -> wpAny (model prog w) A (g b) Q' E s₁)
   {a : Addr} {o : Obj} {es es1 : Array (Int × Value)} {ep : Nat} {t t2 : SetTable} {wd : Bool} {R : Option Bool -> Shared -> Prop}
   (ho : s.heap.get? a = some o) (hx : o.ExactSet) (hd : o.data = .set es ep t) (he1 : ElemsOf (intKind prog w) es1.toList) (hn1 : (nus es1.toList).Nodup) (hb1 : es1.size < scanBound)
   (hf2 : t2.fits es1.size = true) (hfl2 : qO w = true \/ t2.led = true /\ FlN t2)
   (h : ∀ h' zs', Heap.SameBut a s.heap h' -> NuSet prog w h' a zs' -> zs'.Perm (nus es1.toList) -> R (some true) { s with heap := h' }) :
   wpAny (model prog w) A (storeSet a es1 t2 >>= fun _ =>
     if (!wd && t2.tooFull) = true then
       g (relayAll t2 es1 (SetTable.grown es1.size)).2.2 >>= fun _ =>
         storeSet a (relayAll t2 es1 (SetTable.grown es1.size)).1 (relayAll t2 es1 (SetTable.grown es1.size)).2.1 >>= fun _ => pure (some true)
     else pure (some true)) R E s := by
 refine wpAny_bind (wpAny_storeSet_of ho hd ?_ (fits_of_scanBound hb1))
 obtain ⟨ho1, hS1⟩ := vO (prog := prog) (w := w) ho hx hd he1 hn1 hb1 hf2 hfl2
 have sb1 := Heap.SameBut.update s.heap a (Obj.putSet es1 t2)
 split
 · have hp2 := relayAll_perm t2 es1 (SetTable.grown es1.size)
   have hf3 := relayAll_fits t2 es1 (SetTable.grown es1.size)
   have hl3 := relay_led t2 es1 (SetTable.grown es1.size)
   have hl4 := fun hx : FlN t2 => relay_fl hx es1 (SetTable.grown es1.size)
   generalize relayAll t2 es1 (SetTable.grown es1.size) = L2 at hp2 hf3 hl3 hl4 ⊢
   obtain ⟨es2, t3, g2⟩ := L2
   dsimp only at hp2 hf3 hl3 hl4 ⊢
   have hsz2 : es2.size = es1.size := by rw [← Array.length_toList, hp2.length_eq, Array.length_toList]
   have hzp2 : (nus es2.toList).Perm (nus es1.toList) := hp2.filterMap _
   refine wpAny_bind (hg _ _ _ ?_)
   refine wpAny_bind (wpAny_storeSet_of ho1 rfl ?_ (fits_of_scanBound (by omega)))
   obtain ⟨_, hS2⟩ := vO (prog := prog) (w := w) ho1 hx rfl (he1.perm hp2) (hzp2.nodup_iff.mpr hn1) (by omega) hf3 (hfl2.imp id fun y => ⟨hl3.trans y.1, hl4 y.2⟩)
   exact wpAny_pure (h _ _ (sb1.trans (Heap.SameBut.update _ a _)) hS2 hzp2)
 · exact wpAny_pure (h _ _ sb1 hS1 (List.Perm.refl _))
theorem nu_add {a : Addr} {zs : List Int} {k : Int} {tk : Tok} {Q : Bool -> Shared -> Prop} (hS : NuSet prog w s.heap a zs) (room : zs.length + 1 < scanBound)
   (h : ∀ h' zs', Heap.SameBut a s.heap h' -> NuSet prog w h' a zs' -> zs'.length <= zs.length + 1 -> (∀ z, z ∈ zs' ↔ z ∈ zs \/ z = k) -> ∀ b, Q b { s with heap := h' }) :
   wpAny (model prog w) A (setAddHashed a (.int k tk) ((intKind prog w).hash k)) Q E s := by
 obtain ⟨o, es, ep, t, ho, hx, hd, he, hz, hn, hb, hf, hfl⟩ := hS
 have hlen : zs.length = es.size := by rw [hz, jF he, Array.length_toList]
 have hkey : (intKind prog w).is k (.int k tk) = true := is_int k tk
 unfold setAddHashed setAddHashedIn
 refine wpAny_holding (wpAny_bind (wpAny_setState_of ho hd hf ?_))
 dsimp only
 rw [byScan_of rfl hb he]
 simp only [↓reduceIte]
 unfold setAddByScan
 refine wpAny_bind (wpAny_bind (wpAny_rule (wpAny_bind (wpAny_setScan_of hkey ho hd hf he ?_))))
 cases hr : List.findIdx? (fun e => (intKind prog w).is k e.2) es.toList with
 | some j =>
   dsimp only
   obtain ⟨hj, hpj, _⟩ := List.findIdx?_eq_some_iff_getElem.mp hr
   have hk : k ∈ zs := by rw [hz, mem_nus he]; exact ⟨_, List.getElem_mem hj, hpj⟩
   refine wpAny_pure (wpAny_pure ?_)
   have q := h s.heap zs (Heap.SameBut.refl a s.heap) ⟨o, es, ep, t, ho, hx, hd, he, hz, hn, hb, hf, hfl⟩ (Nat.le_succ _) (fun z => ⟨.inl, fun y => y.elim id fun y => y ▸ hk⟩) false
   cases s
   exact q
 | none =>
   dsimp only
   have hk : k ∉ zs := by
     rw [hz, mem_nus he]
     rintro ⟨e, h1, h2⟩
     have := List.findIdx?_eq_none_iff.mp hr e h1
     rw [h2] at this
     cases this
   have hp := layNew_perm t es ((intKind prog w).hash k) (.int k tk)
   have hfi := layNew_fits t es ((intKind prog w).hash k) (.int k tk)
   have hl1 := lay_led t es ((intKind prog w).hash k) (.int k tk)
   have hl2 := fun hx : FlN t => lay_fl hx es ((intKind prog w).hash k) (.int k tk)
   generalize layNew t es ((intKind prog w).hash k) (.int k tk) = L at hp hfi hl1 hl2 ⊢
   obtain ⟨es1, t1, wd, gv⟩ := L
   dsimp only at hp hfi hl1 hl2 ⊢
   rw [Array.toList_push] at hp
   have he1 : ElemsOf (intKind prog w) es1.toList := (he.push hkey rfl).perm hp
   have hsz : es1.size = es.size + 1 := by rw [← Array.length_toList, hp.length_eq, List.length_append, Array.length_toList]; rfl
   have hzp : (nus es1.toList).Perm (zs ++ [k]) := by
     have := hp.filterMap (fun e : Int × Value => nuv e.2)
     rw [List.filterMap_append] at this
     rw [hz]
     exact this
   have hn1 : (nus es1.toList).Nodup := by
     refine hzp.nodup_iff.mpr (List.nodup_append.mpr ⟨hn, by simp, fun a ha b hb => ?_⟩)
     rw [List.mem_singleton] at hb
     rintro rfl
     exact hk (hb ▸ ha)
   have hm1 : ∀ z, z ∈ nus es1.toList ↔ z ∈ zs \/ z = k := fun z => by rw [hzp.mem_iff, List.mem_append, List.mem_singleton]
   have hle1 : (nus es1.toList).length <= zs.length + 1 := by rw [hzp.length_eq, List.length_append]; exact Nat.le_refl _
   have hb1 : es1.size < scanBound := by omega
   have hgw : ∀ (b : Bool) {s₁ : Shared} {Q' : Unit -> Shared -> Prop}, Q' () s₁ -> wpAny (model prog w) A (match b with | true => rule "set.scan.the-table-gave-way" | false => pure ()) Q' E s₁ :=
     fun b s₁ Q' hq => by cases b <;> first | exact wpAny_pure hq | exact wpAny_rule hq
   refine wpAny_bind (hgw _ ?_)
   have fin : ∀ h' zs', Heap.SameBut a s.heap h' -> NuSet prog w h' a zs' -> zs'.Perm (nus es1.toList) -> ∀ b, Q b { s with heap := h' } := fun h' zs' sb hS hp2 =>
     h h' zs' sb hS (by rw [hp2.length_eq]; exact hle1) fun z => by rw [hp2.mem_iff]; exact hm1 z
   have hq : ∀ (b : Bool) (s₁ : Shared) (Q' : Unit -> Shared -> Prop), Q' () s₁ -> wpAny (model prog w) A (match b with | true => rule "set.scan.the-table-gave-way" | false => pure ()) Q' E s₁ := fun b s₁ Q' hq => hgw b hq
   split
   · refine wpAny_bind ?_
     rw [hashByValue_scannable 8 (x := Value.int k tk) rfl]
     refine wpAny_pure ?_
     refine nu_tail hq ho hx hd he1 hn1 hb1 hfi ?_ fun h' zs' sb hS hp2 => wpAny_pure (fin h' zs' sb hS hp2 _)
     exact hfl.imp id fun y => ⟨hl1.trans y.1, hl2 y.2⟩
   · rename_i hpl
     refine wpAny_bind (wpAny_pure ?_)
     simp only [↓reduceIte]
     refine nu_tail hq ho hx hd he1 hn1 hb1 hfi ?_ fun h' zs' sb hS hp2 => wpAny_pure (fin h' zs' sb hS hp2 _)
     exact hfl.imp id fun y => ⟨hl1.trans y.1, hl2 y.2⟩
def qV (w : World) (a T : Addr) (es : Array (Int × Value)) (ep : Nat) (t : SetTable) (ord : List Int) (h : Heap) (i : Nat) (fst : Value) : Prop :=
 (qO w = true /\ fst = .int 0 0 /\ ord = nus (pickOrder (w.params.setOrder a ep) es).toList) \/
 (qO w = false /\ (!t.plain && decide (es.size > 1)) = false /\ Ris t.place /\ t.led = true /\ ord = nus es.toList /\ fst = .int (xX t.place i : Nat) 0) \/
 (qO w = false /\ ∃ pl : List Nat, h.get? T = some { cls := .type "tuple", data := .seq (pl.map fun i : Nat => rawInt i).toArray } /\ pl.Perm (List.range es.size) /\ fst = .ref T /\
   ord.map some = pl.map fun j => (nus es.toList)[j]?)
theorem iter_nu {a : Addr} {zs : List Int} {Q : Value -> Shared -> Prop} (hS : NuSet prog w s.heap a zs)
   (h : ∀ (h' : Heap) d o es ep t I T fst ord, (∀ b o, s.heap.get? b = some o -> h'.get? b = some o) -> s.heap.objs.size <= I -> (T = a \/ s.heap.objs.size <= T /\ T ≠ I) -> I ≠ a -> h'.get? a = some o -> o.data = .set es ep t -> t.fits es.size = true -> ElemsOf (intKind prog w) es.toList -> es.size = zs.length -> vD h' I a fst 0 es.size ep -> qV w a T es ep t ord h' 0 fst -> ord.Perm zs ->
     Q (.ref I) { s with heap := h', drawn := d }) :
   wpAny (model prog w) A (pyIter (.ref a)) Q E s := by
 obtain ⟨o, es, ep, t, ho, hx, hd, he, hz, hn, hb, hf, hfl⟩ := hS
 have hlen : zs.length = es.size := by rw [hz, jF he, Array.length_toList]
 have hT : s.TypeIs (.ref a) "set" := ⟨o, ho, hx.1⟩
 have halt : a < s.heap.objs.size := Heap.lt_size ho
 refine wpAny_pyIter_slot hT F.slot_set_iter (wpAny_call_entry F.slot_set_iter hT entry_setiter ?_ (F.args_set_iter_1 _))
 unfold Builtin.«frozenset.__iter__»
 refine wpAny_bind (m := Builtin.Frozenset.slot0 _ _) (wpAny_pure ?_)
 refine wpAny_bind (wp_sizeOf ho hd hf ?_)
 refine wpAny_bind (wp_setDrawn ho hd hf ?_)
 have fin : ∀ (h1 : Heap) d (T : Addr) (fst : Value) (ord : List Int), (∀ b o, s.heap.get? b = some o -> h1.get? b = some o) -> (T = a \/ s.heap.objs.size <= T /\ T < h1.objs.size) ->
     s.heap.objs.size <= h1.objs.size -> qV w a T es ep t ord (h1.push { cls := .type "set_iterator", data := .fields #[fst, .int 0 0, .ref a, .int es.size 0, .int ep 0] }) 0 fst -> ord.Perm zs ->
     Q (.ref h1.objs.size) { s with heap := h1.push { cls := .type "set_iterator", data := .fields #[fst, .int 0 0, .ref a, .int es.size 0, .int ep 0] }, drawn := d } := by
   intro h1 d T fst ord k1 hT1 hle hm hp
   refine h _ d o es ep t _ T fst ord (fun b o q => Heap.get?_push_of_some _ (k1 b o q)) hle ?_ (Nat.ne_of_gt (Nat.lt_of_lt_of_le halt hle)) (Heap.get?_push_of_some _ (k1 _ _ ho)) hd hf he hlen.symm (Heap.get?_push_size _ rfl) hm hp
   rcases hT1 with e | ⟨e1, e2⟩
   · exact .inl e
   · exact .inr ⟨e1, Nat.ne_of_lt e2⟩
 cases hB : qO w with
 | true =>
   simp only [Bool.not_true, Bool.false_and, Bool.false_eq_true, if_false]
   refine wpAny_bind (wpAny_pure ?_)
   refine wpAny_bind (wpAny_setEpoch_of ho hd hf ?_)
   refine wpAny_bind (m := newFields _ _) (wpAny_newObj_type ?_)
   refine wpAny_pure ⟨_, rfl, "set_iterator", _, ⟨_, Heap.get?_push_size _ rfl, rfl⟩, slot_setit.lookup, ?_⟩
   have q := fin s.heap s.drawn a (.int 0 0) _ (fun _ _ q => q) (.inl rfl) (Nat.le_refl _) (.inl ⟨hB, rfl, rfl⟩) (by rw [hz]; exact (xQ _ _).filterMap _)
   cases s
   exact q
 | false =>
   have hfl : t.led = true /\ FlN t := hfl.resolve_left (by rw [hB]; exact Bool.false_ne_true)
   by_cases h1 : (!t.plain && decide (es.size > 1)) = true
   · rw [h1]
     simp only [Bool.not_false, Bool.true_and, if_true]
     refine wpAny_bind (vV es.size (List.range es.size) List.length_range fun ys d hpy => ?_)
     have hyl : ys.length = es.size := by rw [hpy.length_eq, List.length_range]
     refine wpAny_bind (wpAny_newTuple ?_ (by rw [List.length_map, hyl]; exact fits_of_scanBound hb))
     have hoT : (s.heap.push { cls := .type "tuple", data := .seq (ys.map fun i : Nat => rawInt i).toArray }).get? a = some o := Heap.get?_push_of_some _ ho
     refine wpAny_bind (wpAny_setEpoch_of (s := { s with heap := s.heap.push { cls := .type "tuple", data := .seq (ys.map fun i : Nat => rawInt i).toArray }, drawn := d }) hoT hd hf ?_)
     refine wpAny_bind (m := newFields _ _) (wpAny_newObj_type ?_)
     refine wpAny_pure ⟨_, rfl, "set_iterator", _, ⟨_, Heap.get?_push_size _ rfl, rfl⟩, slot_setit.lookup, ?_⟩
     have hord : ∃ ord : List Int, (ord.map some = ys.map fun j => (nus es.toList)[j]?) /\ ord.Perm zs := by
       refine ⟨ys.filterMap fun j => (nus es.toList)[j]?, ?_, ?_⟩
       · have : ∀ (l : List Nat), (∀ j ∈ l, j < es.size) -> (l.filterMap fun j => (nus es.toList)[j]?).map some = l.map fun j => (nus es.toList)[j]? := by
           intro l
           induction l with
           | nil => intro _; rfl
           | cons j l ih =>
             intro hl
             have hj : j < (nus es.toList).length := by rw [← hz, hlen]; exact hl j List.mem_cons_self
             rw [List.filterMap_cons_some (b := (nus es.toList)[j]) (List.getElem?_eq_getElem hj), List.map_cons, List.map_cons, ih fun i hi => hl i (List.mem_cons_of_mem _ hi), List.getElem?_eq_getElem hj]
         exact this ys fun j hj => by simpa using hpy.mem_iff.mp hj
       · refine (hpy.filterMap _).trans ?_
         rw [← hlen, hz, List.filterMap_getElem?_range_length]
     obtain ⟨ord, ho1, ho2⟩ := hord
     exact fin (s.heap.push { cls := .type "tuple", data := .seq (ys.map fun i : Nat => rawInt i).toArray }) d s.heap.objs.size (.ref s.heap.objs.size) ord (fun b o q => Heap.get?_push_of_some _ q) (.inr ⟨Nat.le_refl _, by rw [Heap.size_push]; exact Nat.lt_succ_self _⟩) (by rw [Heap.size_push]; exact Nat.le_succ _)
       (.inr (.inr ⟨hB, ys, Heap.get?_push_of_some _ (Heap.get?_push_size _ rfl), hpy, rfl, ho1⟩)) ho2
   · have h1 := Bool.eq_false_iff.mpr h1
     rw [h1]
     simp only [Bool.and_false, Bool.false_eq_true, if_false]
     have hris : Ris t.place := by
       rcases hfl.2 with hp | hp
       · have hz : ¬ es.size > 1 := fun z => by rw [hp, decide_eq_true z] at h1; cases h1
         have hps := qM hf
         unfold Ris
         refine List.pairwise_iff_getElem.mpr fun i j hi hj hij => ?_
         rw [Array.length_toList] at hj
         omega
       · exact hp
     refine wpAny_bind (wpAny_pure ?_)
     refine wpAny_bind (wpAny_setEpoch_of ho hd hf ?_)
     refine wpAny_bind (m := newFields _ _) (wpAny_newObj_type ?_)
     refine wpAny_pure ⟨_, rfl, "set_iterator", _, ⟨_, Heap.get?_push_size _ rfl, rfl⟩, slot_setit.lookup, ?_⟩
     have q := fin s.heap s.drawn a (.int 0 0) zs (fun _ _ q => q) (.inl rfl) (Nat.le_refl _) (.inr (.inl ⟨hB, h1, hris, hfl.1, hz, rfl⟩)) (List.Perm.refl _)
     cases s
     exact q
theorem uR {a T : Addr} {es : Array (Int × Value)} {ep : Nat} {t : SetTable} {ord : List Int} {h : Heap} {i : Nat} {fst : Value} (he : ElemsOf (intKind prog w) es.toList) (hm : qV w a T es ep t ord h i fst) : ord.length = es.size := by
 rcases hm with ⟨_, _, e⟩ | ⟨_, _, _, _, e, _⟩ | ⟨_, pl, _, hp, _, e⟩
 · rw [e, jF (he.perm (xQ _ _)), (xQ _ _).length_eq, Array.length_toList]
 · rw [e, jF he, Array.length_toList]
 · have := congrArg List.length e
   rw [List.length_map, List.length_map, hp.length_eq, List.length_range] at this
   exact this
theorem next_plN {a : Addr} {o : Obj} {es : Array (Int × Value)} {ep slot g : Nat} {t : SetTable} {Q : Option (Value × Nat) -> Shared -> Prop} (ho : s.heap.get? a = some o) (hd : o.data = .set es ep t) (hf : t.fits es.size = true) (hB : qO w = false)
   (hs : (!t.plain && decide (es.size > 1)) = false) (hl : t.led = true)
   (h : Q (match es[SetTable.below t.place slot]?, t.place[SetTable.below t.place slot]? with | some (_, x), some j => some (x, j + 1) | _, _ => none) s) : wpAny (model prog w) A (setNext a slot g ep) Q E s := by
 have hB' : w.params.followText "set-order" = false := hB
 unfold setNext
 refine wpAny_bind (wpAny_setState_of ho hd hf ?_)
 dsimp only
 unfold setsByText
 refine wpAny_bind (wpAny_bind (wpAny_askSetting (wpAny_pure ?_)))
 show wpAny _ _ (if w.params.followText "set-order" = true then _ else _) _ _ _
 rw [hB', if_neg Bool.false_ne_true]
 show wpAny _ _ (if (!t.plain && decide (es.size > 1)) = true then _ else _) _ _ _
 rw [hs, if_neg Bool.false_ne_true]
 refine wpAny_bind (show wpAny _ _ (if (!t.led && !es.isEmpty) = true then _ else _) _ _ _ from ?_)
 rw [hl, if_neg (by simp)]
 exact wpAny_pure (wpAny_pure h)
theorem next_nu {a I T : Addr} {o : Obj} {es : Array (Int × Value)} {ep : Nat} {t : SetTable} {ord : List Int} {fst : Value} {i : Nat} {z : Int} {Q : Option Value -> Shared -> Prop}
   (ho : s.heap.get? a = some o) (hd : o.data = .set es ep t) (hf : t.fits es.size = true) (he : ElemsOf (intKind prog w) es.toList) (hit : vD s.heap I a fst i es.size ep) (hm : qV w a T es ep t ord s.heap i fst)
   (hz : ord[i]? = some z) (hTI : T ≠ I) (haI : a ≠ I)
   (h : ∀ h' fst' tk, (∀ b o, b ≠ I -> s.heap.get? b = some o -> h'.get? b = some o) -> vD h' I a fst' (i + 1) es.size ep -> qV w a T es ep t ord h' (i + 1) fst' -> Q (some (.int z tk)) { s with heap := h' }) :
   wpAny (model prog w) A (pyNext (.ref I)) Q E s := by
 have hol := uR he hm
 have hi : i < es.size := by rw [← hol]; exact (List.getElem?_eq_some_iff.mp hz).1
 have hT : s.TypeIs (.ref I) "set_iterator" := ⟨_, hit, rfl⟩
 unfold pyNext
 refine wpAny_bind (wpAny_attempt (wpAny_callSpecial?_slot (name := Str.ofString "__next__") hT slot_setit (wpAny_call_entry slot_setit hT entry_setit ?_ (vC _))))
 unfold Builtin.«set_iterator.__next__»
 refine wpAny_bind (m := slotArgs _ _ _) (wpAny_pure ?_)
 refine wpAny_bind (wpAny_fieldsOf hit rfl ?_)
 dsimp only
 unfold setEntries
 refine wpAny_bind (wpAny_bind (wpAny_setState_of ho hd hf (wpAny_pure ?_)))
 rw [if_neg (by simp)]
 refine wpAny_bind (wpAny_pure ?_)
 have two : ∀ (E' : Value -> Shared -> Prop) (nx : Nat) (v : Value) (hm' : ∀ h' : Heap, (∀ b o, b ≠ I -> s.heap.get? b = some o -> h'.get? b = some o) -> qV w a T es ep t ord h' (i + 1) (.int nx 0)), (∃ tk, v = .int z tk) ->
     wpAny (model prog w) A.in1 (do setField (.ref I) 0 (rawInt nx); setField (.ref I) 1 (rawInt ((i : Int) + 1)); ret v)
       (fun fin s' => ∃ v, fin = Fin.done (Flow.ret v) /\ wpAny (model prog w) A (pure (some v)) Q E s') E' s := by
   rintro E' nx v hm' ⟨tk, rfl⟩
   refine wpAny_bind (wpAny_setField_rec hit (by simp) fun h1 e1 sb1 => ?_)
   refine wpAny_bind (wpAny_setField_rec (s := { s with heap := h1 }) e1 (by simp) fun h2 e2 sb2 => ?_)
   have k : ∀ b o, b ≠ I -> s.heap.get? b = some o -> h2.get? b = some o := fun b o hb q => sb2.extBut b o hb (sb1.extBut b o hb q)
   exact wpAny_pure ⟨_, rfl, wpAny_pure (h h2 (.int nx 0) tk k (by simpa [vD, rawInt] using e2) (hm' h2 k))⟩
 rcases hm with ⟨hB, rfl, rfl⟩ | ⟨hB, h1, hris, hl, rfl, rfl⟩ | ⟨hB, pl, hoT, hp, rfl, hor⟩
 · dsimp only
   refine wpAny_bind (next_by ho hd hf hB ?_)
   simp only [Int.toNat_natCast]
   have hsz : (pickOrder (w.params.setOrder a ep) es).size = es.size := by rw [← Array.length_toList, (xQ _ _).length_eq, Array.length_toList]
   have hel := Array.getElem?_eq_getElem (xs := pickOrder (w.params.setOrder a ep) es) (i := i) (by omega)
   obtain ⟨z', tk, e1, e2⟩ := wQ (he.perm (xQ (w.params.setOrder a ep) es)) (by rw [Array.getElem?_toList]; exact hel)
   rw [hz] at e2
   cases e2
   rw [hel]
   dsimp only [Option.map]
   exact two _ 0 _ (fun h' _ => .inl ⟨hB, rfl, rfl⟩) ⟨tk, e1⟩
 · dsimp only
   refine wpAny_bind (next_plN ho hd hf hB h1 hl ?_)
   have hps : t.place.size = es.size := qM hf
   rw [Int.toNat_natCast, vA hris (i := i) (by omega)]
   have hel := Array.getElem?_eq_getElem (xs := es) (i := i) hi
   have hpe := Array.getElem?_eq_getElem (xs := t.place) (i := i) (by omega)
   obtain ⟨z', tk, e1, e2⟩ := wQ he (by rw [Array.getElem?_toList]; exact hel)
   rw [hz] at e2
   cases e2
   rw [hel, hpe]
   dsimp only
   refine two _ (t.place[i] + 1) _ (fun h' _ => .inr (.inl ⟨hB, h1, hris, hl, rfl, ?_⟩)) ⟨tk, e1⟩
   have hpi : i < t.place.size := by omega
   simp [xX, Array.getD, hpi]
 · dsimp only
   have hpl : i < pl.length := by rw [hp.length_eq, List.length_range]; exact hi
   have hpi : pl[i] < es.size := by simpa using hp.mem_iff.mp (List.getElem_mem hpl)
   refine wpAny_bind (wpAny_seqItems hoT rfl ?_)
   dsimp only
   have hget : ((pl.map fun i : Nat => rawInt i).toArray)[(i : Int).toNat]? = some (.int (pl[i] : Nat) 0) := by
     rw [Int.toNat_natCast, List.getElem?_toArray, List.getElem?_map, List.getElem?_eq_getElem hpl]
     rfl
   rw [hget]
   dsimp only
   unfold setNextDrawn
   refine wpAny_bind (wpAny_bind (wpAny_setState_of ho hd hf ?_))
   dsimp only
   rw [if_neg (by simp)]
   have hel := Array.getElem?_eq_getElem (xs := es) (i := pl[i]) hpi
   obtain ⟨z', tk, e1, e2⟩ := wQ he (by rw [Array.getElem?_toList]; exact hel)
   have hzz : z' = z := by
     have : (ord.map some)[i]? = (pl.map fun j => (nus es.toList)[j]?)[i]? := by rw [hor]
     rw [List.getElem?_map, List.getElem?_map, hz, List.getElem?_eq_getElem hpl, Option.map_some, Option.map_some, e2] at this
     cases this
     rfl
   subst hzz
   rw [Int.toNat_natCast, hel]
   dsimp only
   refine wpAny_pure ?_
   refine wpAny_bind (wpAny_setField_rec hit (by simp) fun h1 ee sb1 => ?_)
   have k : ∀ b o, b ≠ I -> s.heap.get? b = some o -> h1.get? b = some o := fun b o hb q => sb1.extBut b o hb q
   rw [e1]
   exact wpAny_pure ⟨_, rfl, wpAny_pure (h h1 (.ref T) tk k (by simpa [vD, rawInt] using ee) (.inr (.inr ⟨hB, pl, k _ _ hTI hoT, hp, rfl, hor⟩)))⟩
theorem end_nu {a I T : Addr} {o : Obj} {es : Array (Int × Value)} {ep : Nat} {t : SetTable} {ord : List Int} {fst : Value} {Q : Option Value -> Shared -> Prop} (hh : A.handled = none)
   (ho : s.heap.get? a = some o) (hd : o.data = .set es ep t) (hf : t.fits es.size = true) (he : ElemsOf (intKind prog w) es.toList) (hit : vD s.heap I a fst es.size es.size ep) (hm : qV w a T es ep t ord s.heap es.size fst)
   (h : ∀ h', (∀ b o, b ≠ I -> s.heap.get? b = some o -> h'.get? b = some o) -> Q none { s with heap := h' }) :
   wpAny (model prog w) A (pyNext (.ref I)) Q E s := by
 have hT : s.TypeIs (.ref I) "set_iterator" := ⟨_, hit, rfl⟩
 unfold pyNext
 refine wpAny_bind (wpAny_attempt (wpAny_callSpecial?_slot (name := Str.ofString "__next__") hT slot_setit (wpAny_call_entry slot_setit hT entry_setit ?_ (vC _))))
 unfold Builtin.«set_iterator.__next__»
 refine wpAny_bind (m := slotArgs _ _ _) (wpAny_pure ?_)
 refine wpAny_bind (wpAny_fieldsOf hit rfl ?_)
 dsimp only
 unfold setEntries
 refine wpAny_bind (wpAny_bind (wpAny_setState_of ho hd hf (wpAny_pure ?_)))
 rw [if_neg (by simp)]
 refine wpAny_bind (wpAny_pure ?_)
 have stop : ∀ (h1 : Heap), (∀ b o, b ≠ I -> s.heap.get? b = some o -> h1.get? b = some o) ->
     wpAny (model prog w) A.in1 (newExc (.type "StopIteration") [] >>= fun e => (raiseNew e : Sem Fin)) (fun fin s' => ∃ v, fin = Fin.done (Flow.ret v) /\ wpAny (model prog w) A (pure (some v)) Q E s')
       (fun e s' => wpAny (model prog w) A (do if ← isInstance e (Value.type "StopIteration") then pure none else throw e) Q E s') { s with heap := h1 } := by
   intro h1 k1
   refine wpAny_bind ?_
   simp only [newExc, newTuple]
   refine wpAny_bind (wpAny_newObj_type ?_ (by size_fits))
   refine wpAny_bind (m := firstArgMember _ _) (wpAny_of_eq (a := Value.none) (by first | rfl | (simp only [firstArgMember]; rfl)) ?_)
   refine wpAny_newObj_type ?_ (by size_fits)
   refine wpAny_raiseNew_none (A := A.in1) hh ?_
   refine wpAny_bind (wpAny_isInstance (T := "StopIteration") (b := true) ⟨_, Heap.get?_push_size _ rfl, rfl⟩ isSubtype_stop ?_)
   exact wpAny_pure (h _ fun b o hb q => Heap.get?_push_of_some _ (Heap.get?_push_of_some _ (k1 b o hb q)))
 rcases hm with ⟨hB, rfl, rfl⟩ | ⟨hB, h1, hris, hl, rfl, rfl⟩ | ⟨hB, pl, hoT, hp, rfl, hor⟩
 · dsimp only
   refine wpAny_bind (next_by ho hd hf hB ?_)
   have hsz : (pickOrder (w.params.setOrder a ep) es).size = es.size := by rw [← Array.length_toList, (xQ _ _).length_eq, Array.length_toList]
   simp only [Int.toNat_natCast]
   rw [Array.getElem?_eq_none (by omega)]
   dsimp only [Option.map]
   refine wpAny_bind (wpAny_setField_rec hit (by simp) fun h1 e1 sb1 => ?_)
   exact stop h1 fun b o hb q => sb1.extBut b o hb q
 · dsimp only
   refine wpAny_bind (next_plN ho hd hf hB h1 hl ?_)
   have hps := qM hf
   have hbl : SetTable.below t.place ((xX t.place es.size : Nat) : Int).toNat = es.size := by
     rw [Int.toNat_natCast, vA hris (by omega)]
   rw [hbl, Array.getElem?_eq_none (Nat.le_refl _)]
   dsimp only
   refine wpAny_bind (wpAny_setField_rec hit (by simp) fun h1 e1 sb1 => ?_)
   exact stop h1 fun b o hb q => sb1.extBut b o hb q
 · dsimp only
   refine wpAny_bind (wpAny_seqItems hoT rfl ?_)
   dsimp only
   have hget : ((pl.map fun i : Nat => rawInt i).toArray)[(es.size : Int).toNat]? = none := by
     rw [Int.toNat_natCast, List.getElem?_toArray, List.getElem?_eq_none (by rw [List.length_map, hp.length_eq, List.length_range]; exact Nat.le_refl _)]
   rw [hget]
   dsimp only
   refine wpAny_bind (wpAny_setField_rec hit (by simp) fun h1 e1 sb1 => ?_)
   refine wpAny_bind (wpAny_setField_rec (s := { s with heap := h1 }) e1 (by simp) fun h2 e2 sb2 => ?_)
   exact stop h2 fun b o hb q => sb2.extBut b o hb (sb1.extBut b o hb q)
theorem walk_nu (hh : A.handled = none) {a I T : Addr} {o : Obj} {es : Array (Int × Value)} {ep : Nat} {t : SetTable} {ord : List Int} (hTI : T ≠ I) (haI : a ≠ I) (hd : o.data = .set es ep t) (hf : t.fits es.size = true) (he : ElemsOf (intKind prog w) es.toList) :
   Walks prog w A I [I, a, T] [I] es.size (fun i v => ∃ z tk, ord[i]? = some z /\ v = .int z tk) (fun i h => h.get? a = some o /\ ∃ fst, vD h I a fst i es.size ep /\ qV w a T es ep t ord h i fst) where
 sub := fun b hb => by simp at hb; simp [hb]
 frame := fun i h h' st k => by
   obtain ⟨e1, fst, e2, e3⟩ := st
   refine ⟨k a (by simp) _ e1, fst, k I (by simp) _ e2, ?_⟩
   rcases e3 with m | m | ⟨hB, pl, hoT, r⟩
   · exact .inl m
   · exact .inr (.inl m)
   · exact .inr (.inr ⟨hB, pl, k T (by simp) _ hoT, r⟩)
 item := fun i s Q E hi st hQ => by
   obtain ⟨e1, fst, e2, e3⟩ := st
   have hl := uR he e3
   have hz := List.getElem?_eq_getElem (l := ord) (i := i) (by omega)
   refine next_nu e1 hd hf he e2 e3 hz hTI haI fun h' fst' tk k i2 m2 => ?_
   have := hQ (.int ord[i] tk) h' s.toks ⟨_, tk, hz, rfl⟩ ⟨k a o haI e1, fst', i2, m2⟩ fun b o hb q => k b o (by simpa using hb) q
   exact this
 done := fun s Q E st hQ => by
   obtain ⟨e1, fst, e2, e3⟩ := st
   exact end_nu hh e1 hd hf he e2 e3 fun h' k => hQ h' s.toks fun b o hb q => k b o (by simpa using hb) q
 self := fun i s Q E st hQ => by
   obtain ⟨e1, fst, e2, e3⟩ := st
   have hT : s.TypeIs (.ref I) "set_iterator" := ⟨_, e2, rfl⟩
   refine wpAny_pyIter_slot hT slot_setit2 (wpAny_call_entry slot_setit2 hT entry_setit2 ?_ (args_setit2 _))
   show wpAny _ _ (ret (.ref I)) _ _ s
   exact wpAny_pure ⟨_, rfl, "set_iterator", _, hT, slot_setit.lookup, hQ⟩
end
section
variable {prog : Program} {w : World} {A : Around} {R : Result -> Shared -> Prop} {I : Addr} {fp wr : List Addr} {G : Array GenState -> Array GenState -> Prop} {n : Nat} {P : Nat -> Value -> Prop} {St : Nat -> Shared -> Prop}
theorem nu_loop (W : WalksS prog w A.in1 I fp wr G n P St) (S : Addr) (hSf : S ∉ fp) (val : Nat -> Int) (hval : ∀ i v, P i v -> ∃ t, v = .int (val i) t) (hb : n + 1 < scanBound) :
   ∀ (k i : Nat) (s : Shared) (zs : List Int), n - i = k -> i <= n -> St i s -> NuSet prog w s.heap S zs -> zs.length <= i -> (∀ z, z ∈ zs ↔ ∃ j, j < i /\ val j = z) ->
     (∀ s' zs', Moved (S :: wr) G s s' -> NuSet prog w s'.heap S zs' -> zs'.length <= n -> (∀ z, z ∈ zs' ↔ ∃ j, j < n /\ val j = z) -> R (.ok (.ret .none)) s') ->
     codeAny (model prog w) A (.builtin "set.update.loop" ⟨[.ref S, .ref I], []⟩) R s := by
 have hSw : S ∉ wr := fun q => hSf (W.sub _ q)
 have hsub : ∀ b ∈ wr, b ∈ S :: wr := fun b q => List.mem_cons_of_mem _ q
 intro k
 induction k with
 | zero =>
   intro i s zs hk hi hst hS hl hz hR
   have hin : i = n := by omega
   subst hin
   refine codeAny_builtin PyProof.Rows.F.entry_set_update_loop ?_
   rw [Around.under_plainId PyProof.Rows.F.plain_set_update_loop _]
   show wpAny _ A.in1 (pyNext (.ref I) >>= _) _ _ s
   refine wpAny_bind (W.done s _ _ hst fun s' hm => ?_)
   show wpAny _ A.in1 (ret Value.none) _ _ s'
   exact wpAny_pure (hR s' zs (hm.mono hsub) (hS.kept fun o q => hm.heap S _ hSw q) hl hz)
 | succ k ih =>
   intro i s zs hk hi hst hS hl hz hR
   have hlt : i < n := by omega
   refine codeAny_builtin PyProof.Rows.F.entry_set_update_loop ?_
   rw [Around.under_plainId PyProof.Rows.F.plain_set_update_loop _]
   show wpAny _ A.in1 (pyNext (.ref I) >>= _) _ _ s
   refine wpAny_bind (W.item i s _ _ hlt hst fun v s' hP hst' hm => ?_)
   obtain ⟨t, rfl⟩ := hval i v hP
   have hS' : NuSet prog w s'.heap S zs := hS.kept fun o q => hm.heap S _ hSw q
   show wpAny _ A.in1 (holding [Value.int (val i) t] (setAdd S (.int (val i) t)) >>= _) _ _ s'
   refine wpAny_bind (wpAny_holding ?_)
   unfold setAdd
   refine wpAny_holding ?_
   refine wpAny_bind ((intKind prog w).pyHash (k := val i) (is_int _ _) ?_)
   refine nu_add (s := { s' with toks := s'.toks + 1 }) hS' (by omega) fun h' zs' sb hS2 hl2 hz2 b => ?_
   refine wpAny_pure ⟨plainId_quiet PyProof.Rows.F.plain_set_update_loop _, ih (i + 1) _ zs' (by omega) hlt (W.frame _ s' _ _ hst' (Nat.le_succ _) fun b hb o q => ?_) hS2 (by omega) (fun z => ?_) fun s'' zs'' hm'' hS'' => ?_⟩
   · rw [sb.2 b (fun y : b = S => hSf (y ▸ hb))]
     exact q
   · rw [hz2, hz]
     constructor
     · rintro (⟨j, h1, h2⟩ | h2)
       · exact ⟨j, by omega, h2⟩
       · exact ⟨i, Nat.lt_succ_self _, h2.symm⟩
     · rintro ⟨j, h1, h2⟩
       by_cases hj : j = i
       · subst hj
         exact .inr h2.symm
       · exact .inl ⟨j, by omega, h2⟩
   · refine hR s'' zs'' (Moved.trans W.gtrans ((hm.mono hsub).then_heap (Nat.le_succ _) fun b o hb q => ?_) hm'') hS''
     rw [sb.2 b (fun y : b = S => hb (by rw [y]; exact List.mem_cons_self))]
     exact q
end
section
variable {prog : Program} {w : World} {A : Around} {E : Value -> Shared -> Prop} {s : Shared}
set_option maxHeartbeats 3200000 in
theorem nu_call {l : Addr} {items : Array Value} {val : Nat -> Int} {Q : Value -> Shared -> Prop} (hh : A.handled = none) (hl : s.heap.IsList l items) (hi : ∀ (i : Nat) (v : Value), items[i]? = some v -> ∃ t, v = .int (val i) t) (hb : items.size + 1 < scanBound)
   (h : ∀ (h' : Heap) (tk : Nat) (zs : List Int), NuSet prog w h' s.heap.objs.size zs -> zs.length <= items.size -> (∀ z, z ∈ zs ↔ ∃ j, j < items.size /\ val j = z) ->
     (∀ b o, s.heap.get? b = some o -> h'.get? b = some o) -> Q (.ref s.heap.objs.size) { s with heap := h', toks := tk }) :
   wpAny (model prog w) A (call (.type "set") [.ref l]) Q E s := by
 obtain ⟨c, tl, hmro⟩ := PySem.F.called_set.mro
 have hmade := PySem.F.called_set.made
 have hsub := PySem.F.called_set.sub
 refine wpAny_call (codeAny_of_tree ?_)
 show wpAny _ _ (callAny (.type "set") _) _ _ _
 refine wpAny_pure ⟨Code.quiet_builtin _ (by decide +kernel), codeAny_builtin PySem.F.entry_type_call ?_⟩
 rw [Around.under_plain (weight_type_call_type "set" [.ref l] []) rfl]
 have h1 := PySem.F.called_set.notType
 have h2 := PySem.F.called_set.canCreate
 have hct := PySem.F.typeCall_set_1 (.ref l)
 repeat (any_goals (first | assumption | wp_step))
 refine codeAny_mono (tx_new (w := w) (.ref l) (E := E) (Q₁ := fun obj s₁ => ∃ led : Bool, (qO w = true \/ led = true) /\ obj = .ref s.heap.objs.size /\ s₁ = { s with heap := s.heap.push { cls := .type "set", dict := none, data := .set #[] 0 (.fresh 0 0 led) } }) fun led hl => ⟨led, hl, rfl, rfl⟩) fun r s₁ hr => ?_
 cases r with
 | error e => exact hr
 | ok fl =>
   cases fl with
   | ret obj =>
     obtain ⟨led, hled, rfl, rfl⟩ := hr
     have hS : (s.heap.push { cls := .type "set", dict := none, data := .set #[] 0 (.fresh 0 0 led) }).get? s.heap.objs.size = some { cls := .type "set", dict := none, data := .set #[] 0 (.fresh 0 0 led) } := Heap.get?_push_size _ rfl
     have hT : Shared.TypeIs { s with heap := s.heap.push { cls := .type "set", dict := none, data := .set #[] 0 (.fresh 0 0 led) } } (.ref s.heap.objs.size) "set" := ⟨_, hS, rfl⟩
     have hli := PySem.F.called_set.init.lookup
     have hbi := PySem.F.called_set.init.bind (.ref s.heap.objs.size)
     repeat (any_goals (first | assumption | wp_step))
     refine codeAny_mono (codeAny_call_builtin (R := wants (fun r s₂ => r = .none /\ ∃ h' tk zs, s₂ = { s with heap := h', toks := tk } /\ NuSet prog w h' s.heap.objs.size zs /\ zs.length <= items.size /\ (∀ z, z ∈ zs ↔ ∃ j, j < items.size /\ val j = z) /\
         (∀ b o, s.heap.get? b = some o -> h'.get? b = some o)) E) PySem.F.called_set.init.plain PySem.F.entry_set_init (check_set_init_1 hT ?_)) fun r₂ s₂ hr₂ => ?_
     · obtain ⟨ol, hol, hcl, nl, hdl⟩ := hl
       obtain ⟨ocls, odict, odata, oslots⟩ := ol
       simp only at hcl hdl
       subst hcl; subst hdl
       have hol' := Heap.get?_push_of_some { cls := .type "set", dict := none, data := .set #[] 0 (.fresh 0 0 led) } hol
       have hsls := PySem.F.sub_list_set
       have hslf := PySem.F.sub_list_frozenset
       have hne : (Value.type "list" == Value.type "dict") = false := by decide
       have hl1 : (s.heap.push { cls := .type "set", dict := none, data := .set #[] 0 (.fresh 0 0 led) }).IsList l items := ⟨_, hol', rfl, nl, rfl⟩
       unfold Builtin.«set.__init__» noKeywords Builtin.Frozenset.updateFrom
       generalize hPI : pyIter = PI
       wp_walk
       subst hPI
       refine wpAny_pyIter_list hl1 ?_
       refine wpAny_bind (wpAny_runValue ?_)
       have hlS : l < s.heap.objs.size := Heap.lt_size hol
       have hh3 : A.in1.in1.in1.handled = none := by simp [hh]
       have hneI : l ≠ (s.heap.push { cls := .type "set", dict := none, data := .set #[] 0 (.fresh 0 0 led) }).objs.size := by
         rw [Heap.size_push]
         exact Nat.ne_of_lt (Nat.lt_succ_of_lt hlS)
       have hSf : s.heap.objs.size ∉ [(s.heap.push { cls := .type "set", dict := none, data := .set #[] 0 (.fresh 0 0 led) }).objs.size, l] := by
         rw [Heap.size_push]
         simp only [List.mem_cons, List.not_mem_nil, or_false, not_or]
         exact ⟨Nat.ne_of_lt (Nat.lt_succ_self _), Nat.ne_of_gt hlS⟩
       refine nu_loop ((Walks.list hh3 _ l hneI items).toS) s.heap.objs.size hSf val hi hb (items.size - 0) 0 _ [] (by omega) (Nat.zero_le _) ⟨⟨_, Heap.get?_push_size _ rfl, rfl, rfl⟩, (hl1.push _)⟩ ?_ (Nat.zero_le _) (fun z => Iff.intro (fun q => by cases q) fun ⟨j, q, _⟩ => absurd q (Nat.not_lt_zero _)) ?_
       · exact nu_fresh led hled (Heap.get?_push_of_some _ hS)
       · intro s' zs hm hS' hlz hz
         obtain ⟨h', g', d', tk', os'⟩ := s'
         have eg : g' = s.gens := hm.gens
         have ed : d' = s.drawn := hm.drawn
         have eo : os' = s.os := hm.os
         subst eg; subst ed; subst eo
         show wpAny _ _ _ _ _ _
         refine wpAny_pure ?_
         show wpAny _ _ (ret Value.none) _ _ _
         refine wpAny_pure ⟨rfl, h', tk', zs, rfl, hS', hlz, hz, fun b o e => ?_⟩
         have hbl := Heap.lt_size e
         refine hm.heap b o ?_ (Heap.get?_push_of_some _ (Heap.get?_push_of_some _ e))
         rw [Heap.size_push]
         simp only [List.mem_cons, List.not_mem_nil, or_false, not_or]
         exact ⟨Nat.ne_of_lt hbl, Nat.ne_of_lt (Nat.lt_succ_of_lt hbl)⟩
     · cases r₂ with
       | error e => exact hr₂
       | ok fl₂ =>
         cases fl₂ with
         | ret r =>
           obtain ⟨rfl, h', tk, zs, rfl, hS', hlz, hz, hk'⟩ := hr₂
           repeat (any_goals (first | assumption | wp_step))
           exact h _ _ _ hS' hlz hz hk'
         | _ => exact hr₂.elim
   | _ => exact hr.elim
theorem ints_ofT : ∀ {vs : List Value} {ss : List Int}, vs.length = ss.length -> (∀ (i : Nat) (v : Value) (x : Int), vs[i]? = some v -> ss[i]? = some x -> ∃ t, v = .int x t) -> IntsAre vs ss
 | [], [], _, _ => .nil
 | [], _ :: _, h, _ => by simp at h
 | _ :: _, [], h, _ => by simp at h
 | v :: vs, x :: ss, h, hh => by
   obtain ⟨t, rfl⟩ := hh 0 v x rfl rfl
   exact .cons x t (ints_ofT (by simpa using h) fun i v' x' h1 h2 => hh (i + 1) v' x' (by simpa using h1) (by simpa using h2))
theorem ints_len : ∀ {vs : List Value} {ss : List Int}, IntsAre vs ss -> vs.length = ss.length
 | _, _, .nil => rfl
 | _, _, .cons y t h => by rw [List.length_cons, List.length_cons, ints_len h]
def RqN (s : Shared) (zs : List Int) (L : Addr) (q : Result) (s' : Shared) : Prop := ∃ (h' : Heap) (tk : Nat) (d : _) (vs : Array Value) (c' : Nat) (ord : List Int), q = .ok (.ret (.ref L)) /\ s' = { s with heap := h', toks := tk, drawn := d } /\
 (∀ b o, s.heap.get? b = some o -> h'.get? b = some o) /\ h'.get? L = some { cls := .type "list", dict := none, data := .seq vs c', slots := #[] } /\ ord.Perm zs /\ IntsAre vs.toList ord
theorem collect_nu {r : Addr} {zs : List Int} {R : List Value -> Shared -> Prop} (hh : A.handled = none) (hS : NuSet prog w s.heap r zs)
   (h : ∀ (h' : Heap) (tk : Nat) d (vs : List Value) (ord : List Int), (∀ b o, s.heap.get? b = some o -> h'.get? b = some o) -> IntsAre vs ord -> ord.Perm zs -> R vs { s with heap := h', toks := tk, drawn := d }) :
   wpAny (model prog w) A (collect (.ref r)) R E s := by
 have hrT : s.TypeIs (.ref r) "set" := by obtain ⟨o, es, ep, t, ho, hx, _⟩ := hS; exact ⟨o, ho, hx.1⟩
 have hrl : r < s.heap.objs.size := by obtain ⟨o, es, ep, t, ho, hx, _⟩ := hS; exact Heap.lt_size ho
 unfold collect
 refine wpAny_bind (wpAny_runValue (codeAny_builtin entry_proto_collect' ?_))
 rw [Around.under_plainId PySem.F.plain_proto_collect _]
 show wpAny _ A.in1 (newList [] >>= fun l => again (.builtin "list.__iadd__" ⟨[l, .ref r], []⟩)) _ _ s
 refine wpAny_bind (wpAny_newObj_type ?_)
 refine wpAny_pure ⟨plainId_quiet PySem.F.plain_list_iadd _, codeAny_builtin entry_list_iadd' ?_⟩
 rw [Around.under_plainId PySem.F.plain_list_iadd _]
 generalize hh1 : s.heap.push { cls := .type "list", data := .seq ([] : List Value).toArray } = h1
 have hS1 : h1.get? s.heap.objs.size = some { cls := .type "list", data := .seq #[] } := by rw [← hh1]; exact Heap.get?_push_size _ rfl
 have k1 : ∀ b o, s.heap.get? b = some o -> h1.get? b = some o := fun b o q => by rw [← hh1]; exact Heap.get?_push_of_some _ q
 have hz1 : h1.objs.size = s.heap.objs.size + 1 := by rw [← hh1, Heap.size_push]
 generalize hL : s.heap.objs.size = L at hS1 hz1 hrl ⊢
 have key : wpAny (model prog w) A.in1 (Builtin.List.listExtendWith (.ref L) (.ref r) (.ref L)) (fun fin s' => match fin with | .done f => RqN s zs L (.ok f) s' | .again c' => c'.quiet = true /\ codeAny (model prog w) A c' (RqN s zs L) s') (fun e s' => RqN s zs L (.error e) s') { s with heap := h1 } := by
   unfold Builtin.List.listExtendWith
   have hr1 : NuSet prog w h1 r zs := hS.kept fun o q => k1 _ _ q
   have hT1 : Shared.TypeIs { s with heap := h1 } (.ref r) "set" := by obtain ⟨o, es, ep, t, ho, hx, _⟩ := hr1; exact ⟨o, ho, hx.1⟩
   refine wpAny_bind (wpAny_typeOf (T := "set") hT1 ?_)
   have hLr : Builtin.List.listSameRef (.ref L) (.ref r) = false := by
     have : L ≠ r := Nat.ne_of_gt hrl
     simp [Builtin.List.listSameRef, this]
   have e1 : (Value.type "set" == Value.type "list") = false := by decide
   have e2 : (Value.type "set" == Value.type "tuple") = false := by decide
   simp only [hLr, e1, e2, Bool.or_false, Bool.false_eq_true, if_false]
   refine wpAny_bind (iter_nu (s := { s with heap := h1 }) hr1 fun h2 d o es ep t I T fst ord k2 hI hTT hIr ho hd hf he hsz hit hm hp => ?_)
   have hT2 : Shared.TypeIs { s with heap := h2, drawn := d } (.ref r) "set" := by
     obtain ⟨o', es', ep', t', ho', hx', _⟩ := hr1
     exact ⟨o', k2 _ _ ho', hx'.1⟩
   refine wpAny_bind (wpAny_holding (hint_tx (s := { s with heap := h2, drawn := d }) hT2 ?_))
   have hI1 : L + 1 <= I := by rw [← hz1]; exact hI
   have hTI : T ≠ I := by
     rcases hTT with e | ⟨_, e⟩
     · rw [e]; exact Nat.ne_of_lt (Nat.lt_of_lt_of_le (Nat.lt_succ_of_lt hrl) hI1)
     · exact e
   have hTL : T ≠ L := by
     rcases hTT with e | ⟨e, _⟩
     · rw [e]; exact Nat.ne_of_lt hrl
     · exact Nat.ne_of_gt (Nat.lt_of_lt_of_le (by rw [show h1.objs.size = L + 1 from hz1]; exact Nat.lt_succ_self _) e)
   have hS2 : h2.get? L = some { cls := .type "list", data := .seq #[] } := k2 _ _ hS1
   have hLf : L ∉ [I, r, T] := by
     simp only [List.mem_cons, List.not_mem_nil, or_false, not_or]
     exact ⟨Nat.ne_of_lt (Nat.lt_of_succ_le hI1), Nat.ne_of_gt hrl, hTL.symm⟩
   have hlen := uR he hm
   have hn : es.size <= sizeLine := by
     obtain ⟨o', es', ep', t', ho', hx', hd', _, hz', _, hb', _⟩ := hr1
     have := k2 _ _ ho'
     rw [ho] at this
     cases this
     rw [hd] at hd'
     cases hd'
     exact fits_of_scanBound hb'
   have go : ∀ (h3 : Heap) (c : Nat), (∀ b o, b ≠ L -> h2.get? b = some o -> h3.get? b = some o) -> h3.get? L = some { cls := .type "list", data := .seq #[] c } ->
       codeAny (model prog w) A (.builtin "list.extend.loop" ⟨[.ref L, .ref I, .ref L], []⟩) (RqN s zs L) { s with heap := h3, drawn := d } := by
     intro h3 c k3 hS3
     have W := walk_nu (prog := prog) (w := w) (A := A.in1) hh (ord := ord) hTI hIr.symm hd hf he
     refine codeAny_extend_loopS W.toS hn L hLf (.ref L) es.size 0 _ #[] c rfl (Nat.zero_le _) ?_ hS3 (ItemsOf.nil _) fun s' acc' c' hm' hS' hacc => ?_
     · exact W.frame 0 h2 h3 ⟨ho, fst, hit, hm⟩ fun b hb o q => k3 b o (fun e => hLf (e ▸ hb)) q
     · obtain ⟨h', g', d', tk', os'⟩ := s'
       have eg : g' = s.gens := hm'.gens
       have ed : d' = d := hm'.drawn
       have eo : os' = s.os := hm'.os
       subst eg; subst ed; subst eo
       refine ⟨h', tk', _, acc', c', ord, rfl, rfl, fun b o q => ?_, hS', hp, ints_ofT (by rw [Array.length_toList, hacc.1, hlen]) fun i v x h1 h2 => ?_⟩
       rotate_left
       · obtain ⟨z, t, e1, e2⟩ := hacc.2 i v (by rw [← Array.getElem?_toList]; exact h1)
         rw [h2] at e1
         cases e1
         exact ⟨t, e2⟩
       have hbl : b < L := by rw [← hL]; exact Heap.lt_size q
       refine hm'.heap b o ?_ (k3 b o (Nat.ne_of_lt hbl) (k2 b o (k1 b o q)))
       simp only [List.mem_cons, List.not_mem_nil, or_false, not_or]
       exact ⟨Nat.ne_of_lt hbl, Nat.ne_of_lt (Nat.lt_trans hbl (Nat.lt_of_succ_le hI1))⟩
   refine wpAny_ite_split (fun _ => ?_) (fun _ => wpAny_pure ⟨plainId_quiet PySem.F.plain_extend_loop _, go h2 0 (fun b o _ q => q) hS2⟩)
   refine wpAny_bind (wpAny_rule ?_)
   refine wpAny_bind ?_
   show wpAny _ _ (updateSeq L (·.push .none) >>= fun _ => updateSeq L (·.pop)) _ _ _
   refine wpAny_bind (wpAny_updateSeq hS2 rfl ?_)
   have hS3 := Heap.get?_update_self (Obj.mapSeq (·.push Value.none)) hS2 rfl
   refine wpAny_updateSeq (hz := by seq_fits) hS3 rfl ?_
   have hS4 := Heap.get?_update_self (Obj.mapSeq (·.pop)) hS3 rfl
   refine wpAny_pure ⟨plainId_quiet PySem.F.plain_extend_loop _, go _ _ (fun b o hb q => ?_) hS4⟩
   exact (Heap.get?_update_other _ _ (Ne.symm hb)).trans ((Heap.get?_update_other _ _ (Ne.symm hb)).trans q)
 refine wpAny_mono key (fun fin s' x => ?_) fun e s' x => ?_
 · cases fin with
   | done f =>
     obtain ⟨h', tk, d, vs, c', ord, e, rfl, k', hL', hp, hst⟩ := x
     cases e
     show wpAny _ A (load L >>= _) _ _ _
     exact wpAny_bind (wpAny_load hL' (wpAny_pure (h h' tk d vs.toList ord k' hst hp)))
   | again c1 =>
     refine ⟨x.1, codeAny_mono x.2 fun q s2 y => ?_⟩
     obtain ⟨h', tk, d, vs, c', ord, rfl, rfl, k', hL', hp, hst⟩ := y
     show wpAny _ A (load L >>= _) _ _ _
     exact wpAny_bind (wpAny_load hL' (wpAny_pure (h h' tk d vs.toList ord k' hst hp)))
 · obtain ⟨_, _, _, _, _, _, e, _⟩ := x
   cases e
theorem sorted_nu {r : Addr} {zs : List Int} {Q : Value -> Shared -> Prop} (hh : A.handled = none) (hS : NuSet prog w s.heap r zs) (hn : zs.length < 64)
   (h : ∀ (h1 h' : Heap) (tk : Nat) d (vs' : List Value) (ss' : List Int) (e : Nat), (∀ b o, s.heap.get? b = some o -> h1.get? b = some o) -> (∀ b o, h1.get? b = some o -> h'.get? b = some o) -> h'.get? h1.objs.size = some { cls := .type "list", data := .seq vs'.toArray e } -> IntsAre vs' ss' -> ss'.Perm zs -> ss'.Pairwise (· <= ·) -> Q (.ref h1.objs.size) { s with heap := h', toks := tk, drawn := d }) :
   wpAny (model prog w) A (call (.builtin "sorted") [.ref r]) Q E s := by
 refine Calls.call_function_entry kind_sorted plain_sorted entry_sorted (args_sorted1 _) ?_
 unfold Builtin.«sorted»
 refine wpAny_bind (m := checkCount "sorted" 1 1 _) (wpAny_pure ?_)
 refine wpAny_bind (collect_nu (A := A.in1) hh hS fun h' tk d vs ord hk hA hp => ?_)
 have hl2 : vs.length = zs.length := by rw [ints_len hA, hp.length_eq]
 have hsl : sizeLine = 16777216 := sizeLine_eq
 refine wpAny_bind (wpAny_newList ?_ (by omega))
 have hoL : (h'.push (seqObj "list" vs.toArray 0)).get? h'.objs.size = some (seqObj "list" vs.toArray 0) := Heap.get?_push_size _ rfl
 show wpAny _ _ _ _ _ { s with heap := h'.push (seqObj "list" vs.toArray 0), toks := tk, drawn := d }
 refine wpAny_bind (wpAny_holding (wpAny_call_entry slot_list_sort ⟨_, hoL, rfl⟩ entry_list_sort (list_sort_tree (A := A.in1.in1) hoL hA (by omega) fun out ss' a1 a2 a3 => ⟨_, rfl, ?_⟩) (args_list_sort _)))
 obtain ⟨e, he⟩ := sortedHeap_at (out := out) hoL
 refine wpAny_pure ⟨_, rfl, h h' _ tk d _ ss' e hk (fun b o hb' => ?_) (by rw [Array.toArray_toList]; exact he) a1 (a2.trans hp) a3⟩
 have hlt := Heap.lt_size hb'
 rw [sortedHeap_old (Nat.ne_of_lt hlt) (by rw [size_push']; exact Nat.lt_succ_of_lt hlt)]
 exact Heap.get?_push_of_some _ hb'
end
end L2
namespace L2
open PySem PySem.Spec PyProof.Rows PySem.SeqAt PySem.W
theorem ints_vals : ∀ {vs : List Value} {ss : List Int}, IntsAre vs ss -> Vals (ss.map V.int) vs
 | _, _, .nil => .nil
 | _, _, .cons y t h => .cons ⟨t, rfl⟩ (ints_vals h)
theorem vals_int : ∀ {zs : List Int} {its : List Value}, Vals (zs.map V.int) its -> ∀ (i : Nat) (v : Value), its[i]? = some v -> ∃ z t, zs[i]? = some z /\ v = .int z t
 | [], _, .nil, i, v, h => by simp at h
 | z :: zs, _, .cons r q, 0, v, h => by
   obtain ⟨t, rfl⟩ := r
   simp at h
   exact ⟨z, t, rfl, h.symm⟩
 | z :: zs, _, .cons r q, i + 1, v, h => by
   obtain ⟨z', t, e1, e2⟩ := vals_int q i v (by simpa using h)
   exact ⟨z', t, by simpa using e1, e2⟩
section
variable {prog : Program} {w : World} {A : Around} {E : Value -> Shared -> Prop} {s : Shared} {T : String} {r d : Addr} {n : Nat} {P : Nat -> Value -> Prop} {OK : Heap -> Prop}
end
section
variable {X : Cx}
def NuO (P : Program) (w : World) (p : Addr) (zs : List Int) : HO := .ext fun h => NuSet P w h p zs
theorem call_setI : xI X (.type "set") (fun xs H Q => X.calm = true /\ ∃ (p : Addr) (zs : List Int), xs = [.ref p] /\ SqL X.K H p (zs.map V.int) /\ zs.length < 4000 /\
   ∀ l ys, H l = none -> ys.Nodup -> (∀ z, z ∈ ys ↔ z ∈ zs) -> Q (.ref l) (upd H l (NuO X.prog X.w l ys))) := by
 intro pins s σ H xs us Q I r h
 obtain ⟨hc, p, zs, rfl, hp, h4, q⟩ := h
 obtain ⟨u, rfl, ru⟩ := jH r
 cases ru
 obtain ⟨its, rv, ⟨o, n, e1, e2, e3, e4⟩, z⟩ := I.list hp
 have hil : its.length = zs.length := by have := rv.length; rw [List.length_map] at this; omega
 have hsb : scanBound = 4096 := rfl
 refine nu_call (items := its.toArray) (val := fun i => zs.getD i 0) (I.ok.hd hc) ⟨o, e1, e2, n, by simpa using e4⟩ (fun i v hv => ?_) (by rw [List.size_toArray]; omega) fun h' tk ys hS hly hz k => ?_
 · obtain ⟨z, t, a1, a2⟩ := vals_int rv i v (by rw [← List.getElem?_toArray]; exact hv)
   exact ⟨t, by rw [a2, List.getD_eq_getElem?_getD, a1]; rfl⟩
 · have hnd : ys.Nodup := by obtain ⟨_, _, _, _, _, _, _, _, _, x, _⟩ := hS; exact x
   have hth : ∃ o, h'.get? s.heap.objs.size = some o := by obtain ⟨o, _, _, _, x, _⟩ := hS; exact ⟨o, x⟩
   refine ⟨.ref _, _, I.laid (a := s.heap.objs.size) (o := NuO X.prog X.w s.heap.objs.size ys) (t' := tk) k (Nat.le_refl _) ⟨hS, hth, fun h1 h2 x y => x.kept y⟩, rfl, q _ _ (I.hok.fresh (Nat.le_refl _)) hnd fun z => ?_⟩
   rw [hz, List.size_toArray, hil]
   constructor
   · rintro ⟨j, hj, rfl⟩
     rw [List.getD_eq_getElem?_getD, List.getElem?_eq_getElem hj]
     exact List.getElem_mem hj
   · intro hm
     obtain ⟨j, hj, e⟩ := List.getElem_of_mem hm
     exact ⟨j, hj, by rw [List.getD_eq_getElem?_getD, List.getElem?_eq_getElem hj]; exact e⟩
theorem call_sortedN : xI X (.builtin "sorted") (fun xs H Q => X.calm = true /\ ∃ (p : Addr) (ys : List Int), xs = [.ref p] /\ H p = some (NuO X.prog X.w p ys) /\ ys.length < 64 /\
   ∀ (l : Addr) (zs' : List Int), H l = none -> zs'.Perm ys -> zs'.Pairwise (· <= ·) -> Q (.ref l) (upd H l (.lst (zs'.map V.int)))) := by
 intro pins s σ H xs us Q I r h
 obtain ⟨hc, p, ys, rfl, hp, h64, q⟩ := h
 obtain ⟨u, rfl, ru⟩ := jH r
 cases ru
 have hS : NuSet X.prog X.w s.heap p ys := (I.hok p _ hp).1
 refine sorted_nu (I.ok.hd hc) hS h64 fun h1 h' tk d vs' ss' e k1 k2 hB hA hp2 hs2 => ?_
 have I1 : Inv X pins σ H { s with heap := h1, toks := tk, drawn := d } := (I.kept k1).drawn d
 have hlen : ss'.length = ys.length := hp2.length_eq
 exact ⟨.ref h1.objs.size, _, I1.laid (a := h1.objs.size) (o := .lst (ss'.map V.int)) (t' := tk) k2 (Nat.le_refl _) ⟨by rw [List.length_map, sizeLine_eq]; omega, vs', e, ints_vals hA, hB⟩, rfl, q _ _ (I1.hok.fresh (Nat.le_refl _)) hp2 hs2⟩
end
theorem vR {K : PySem.W.Frag} {a : Addr} {xs : List V} {ns : List Str} {js : List Nat} {g : TG} {tc : TT} {te : TE} {σ : St} {H : Hp} {Q : VK} (Pv : Nat -> List V -> St -> Hp -> Prop) (h0 : Pv 0 [] (uW ns js σ) H) (hz : xs.length <= sizeLine) (hl : ∀ i ys σ H, Pv i ys σ H -> ys.length <= i)
   (hK : ∀ i ys σ H, Pv i ys σ H -> SqL K H a xs)
   (hs : ∀ (i : Nat) x ys σ H (C : V -> St -> Hp -> Prop) (D : St -> Hp -> Prop), xs[i]? = some x -> Pv i ys σ H -> (∀ y σ2 H3, Pv (i + 1) (ys ++ [y]) σ2 H3 -> C y σ2 H3) -> (∀ σ2 H3, Pv (i + 1) ys σ2 H3 -> D σ2 H3) ->
     g x σ H fun σ2 H2 => tc σ2 H2 fun b H3 => if b = true then te σ2 H3 fun y H4 => C y σ2 H4 else D σ2 H3)
   (hd : ∀ ys σ H, Pv xs.length ys σ H -> ∀ p, H p = none -> Q (.ref p) (upd H p (.lst ys))) :
   LcW (Itl K a) ns js g (some tc) te σ H Q := by
 refine ⟨fun i m ys σ H => m = xs.length - i /\ i <= xs.length /\ Pv i ys σ H, ⟨xs.length, by omega, Nat.zero_le _, h0⟩, fun i m ys σ1 H1 ⟨hm, hi, hp⟩ => ?_⟩
 by_cases h : i < xs.length
 · refine .inr ⟨⟨xs, xs[i], hK i ys σ1 H1 hp, List.getElem?_eq_getElem h⟩, ?_, fun x H' ⟨e, hx⟩ => ?_⟩
   · have := hl i ys σ1 H1 hp
     omega
   · subst e
     exact hs i x ys σ1 _ _ _ (hx xs (hK i ys σ1 _ hp)) hp (fun y σ2 H3 q => ⟨xs.length - (i + 1), by omega, rfl, by omega, q⟩) fun σ2 H3 q => ⟨xs.length - (i + 1), by omega, rfl, by omega, q⟩
 · have e : i = xs.length := by omega
   subst e
   exact .inl ⟨⟨xs, hK _ ys σ1 H1 hp, Nat.le_refl _⟩, hd ys σ1 H1 hp⟩
end L2
namespace L2
open PySem PySem.Spec PyProof.Rows PySem.SeqAt
section
variable {X : Cx}
end
section
variable {X : Cx} {tg : Expr}
end
theorem pg_tupK {X : Cx} {K : PySem.W.Frag} {es : List Expr} {k : Nat} {t : TGs} {n : Nat} {pos : Pos} (hc : X.calm = true) (h : PGs X es t) (hK : X.K = K := by rfl)
   (hn : (assignEach es X.env).length = n := by rfl) (hst : (assignEach es X.env).findIdx? (·.1) = none := by rfl) : PG X (.Tuple es k pos) (gTup K n t) := by
 subst hK
 exact wN hc h hn hst
theorem pe_bmK {X : Cx} (K : PySem.W.Frag) {o e : Expr} {es : List Expr} {to : TE} {t : TA} {name : Str} {apos cpos : Pos} {T id : String} {r : V -> List V -> Hp -> VK -> Prop} (pa : PlainAttrs T) (slot : Slot T name id) (hty : typeOf (.builtin id) = pure (.type "method_descriptor")) (hm : MtR X id r) (ho : PE X o to) (ha : PA X (e :: es) t)
   (hK : X.K = K := by rfl) (hbase : attributeBase o name X.env (eval o X.env) = eval o X.env := by rfl)
   (hfew : ((backTo cpos (starEach (e :: es) X.env)).all (fun x => !x.1) && (backToKw cpos (keywordEach [] X.env)).all (fun x => x.1.isSome)
     && decide ((e :: es).length + ([] : List Keyword).length + (if ([] : List Keyword).isEmpty then 0 else 1) < 30)) = true := by rfl)
   (hline : (apos.endLine == cpos.line) = true := by rfl) (hs : starEach (e :: es) X.env = (false, eval e X.env) :: starEach es X.env := by rfl) (hplain : (backTo cpos (starEach es X.env)).any (·.1) = false := by rfl) :
   PE X (.Call (.Attribute o name apos) (e :: es) [] cpos) (tBM K T r to t) := by
 subst hK
 exact xZ pa slot hty hm ho ha hbase hfew hline hs hplain
end L2
namespace L2
theorem odd_part : ∀ n : Nat, 0 < n -> ∃ t m, n = 2 ^ t * (2 * m + 1) := by
 intro n
 induction n using Nat.strongRecOn with
 | _ n ih =>
   intro h
   by_cases ho : n % 2 = 1
   · exact ⟨0, n / 2, by omega⟩
   · obtain ⟨t, m, e⟩ := ih (n / 2) (by omega) (by omega)
     refine ⟨t + 1, m, ?_⟩
     rw [Nat.pow_succ, Nat.mul_assoc, Nat.mul_left_comm, ← e]
     omega
theorem low_bits {n : Nat} (h : 0 < n) : ∃ t, n.testBit t = true /\ (∀ i, i < t -> n.testBit i = false) /\ n - (n &&& (n - 1)) = 2 ^ t /\ ∀ i, (n &&& (n - 1)).testBit i = (n.testBit i && decide (i ≠ t)) := by
 obtain ⟨t, m, e⟩ := odd_part n h
 have e1 : n = 2 ^ t * (2 * m + 1) + 0 := by omega
 have hp : 0 < 2 ^ t := Nat.two_pow_pos t
 have e2 : n - 1 = 2 ^ t * (2 * m) + (2 ^ t - 1) := by
   rw [e, Nat.mul_add, Nat.mul_one]
   omega
 have b1 : ∀ i, n.testBit i = if i < t then false else (2 * m + 1).testBit (i - t) := fun i => by
   rw [e, Nat.testBit_two_pow_mul]
   by_cases hi : i < t
   · rw [if_pos hi, decide_eq_false (by omega), Bool.false_and]
   · rw [if_neg hi, decide_eq_true (by omega), Bool.true_and]
 have b2 : ∀ i, (n - 1).testBit i = if i < t then true else (2 * m).testBit (i - t) := fun i => by
   rw [e2, Nat.testBit_two_pow_mul_add _ (by omega)]
   by_cases hi : i < t
   · rw [if_pos hi, if_pos hi, Nat.testBit_two_pow_sub_one, decide_eq_true hi]
   · rw [if_neg hi, if_neg hi]
 have ev : ∀ j, (2 * m).testBit j = ((2 * m + 1).testBit j && decide (j ≠ 0)) := fun j => by
   cases j with
   | zero => simp
   | succ j =>
     rw [Nat.testBit_succ, Nat.testBit_succ]
     have : (2 * m + 1) / 2 = 2 * m / 2 := by omega
     rw [this]
     simp
 have b3 : ∀ i, (n &&& (n - 1)).testBit i = (n.testBit i && decide (i ≠ t)) := fun i => by
   rw [Nat.testBit_and, b1, b2]
   by_cases hi : i < t
   · rw [if_pos hi, Bool.false_and, Bool.false_and]
   · rw [if_neg hi, if_neg hi, ev]
     have : decide (i - t ≠ 0) = decide (i ≠ t) := by
       rw [decide_eq_decide]
       omega
     rw [this]
     cases (2 * m + 1).testBit (i - t) <;> simp
 have e3 : n &&& (n - 1) = 2 ^ t * (2 * m) := by
   apply Nat.eq_of_testBit_eq
   intro i
   rw [b3, b1, Nat.testBit_two_pow_mul]
   by_cases hi : i < t
   · rw [if_pos hi, show decide (i ≥ t) = false from decide_eq_false (by omega), Bool.false_and, Bool.false_and]
   · rw [if_neg hi, show decide (i ≥ t) = true from decide_eq_true (by omega), Bool.true_and, ev]
     have : decide (i - t ≠ 0) = decide (i ≠ t) := by
       rw [decide_eq_decide]
       omega
     rw [this]
 refine ⟨t, ?_, fun i hi => ?_, ?_, b3⟩
 · rw [b1, if_neg (by omega), Nat.sub_self]
   simp
 · rw [b1, if_pos hi]
 · rw [e3, e, Nat.mul_add, Nat.mul_one]
   omega
def Bits (n : Nat) (xs : List Nat) : Prop := xs.Pairwise (· < ·) /\ ∀ i, n.testBit i = decide (i ∈ xs)
theorem Bits.nil {n : Nat} (h : Bits n []) : n = 0 := Nat.eq_of_testBit_eq fun i => by rw [h.2]; simp
theorem Bits.cons {n x : Nat} {xs : List Nat} (h : Bits n (x :: xs)) : 0 < n /\ n - (n &&& (n - 1)) = 2 ^ x /\ Bits (n &&& (n - 1)) xs := by
 have hx : n.testBit x = true := by rw [h.2]; simp
 have hn : 0 < n := Nat.pos_of_ne_zero fun z => by rw [z] at hx; simp at hx
 obtain ⟨t, t1, t2, t3, t4⟩ := low_bits hn
 have hp := List.pairwise_cons.mp h.1
 have e : t = x := by
   rw [h.2, decide_eq_true_eq] at t1
   rcases List.mem_cons.mp t1 with e | e
   · exact e
   · have := hp.1 t e
     rw [t2 x this] at hx
     cases hx
 subst e
 refine ⟨hn, t3, hp.2, fun i => ?_⟩
 rw [t4, h.2]
 by_cases hi : i = t
 · subst hi
   have : i ∉ xs := fun z => Nat.lt_irrefl _ (hp.1 i z)
   simp [this]
 · simp [hi]
end L2
namespace L2
open PySem PySem.Spec PyProof.Rows PySem.SeqAt
section
variable {X : Cx}
theorem ip_or : PIp X .BitOr (ipI fun i j => Builtin.bitOr i j) := by
 intro pins s σ H x y v u Q I r1 r2 h
 obtain ⟨i, j, e1, e2, q⟩ := h
 subst e1; subst e2
 obtain ⟨t, rfl⟩ := r1
 obtain ⟨t', rfl⟩ := r2
 exact ior_int ⟨.int _, H, I.tok _, ⟨_, rfl⟩, q⟩
theorem ip_and : PIp X .BitAnd (ipI fun i j => Builtin.bitAnd i j) := by
 intro pins s σ H x y v u Q I r1 r2 h
 obtain ⟨i, j, e1, e2, q⟩ := h
 subst e1; subst e2
 obtain ⟨t, rfl⟩ := r1
 obtain ⟨t', rfl⟩ := r2
 exact iand_int ⟨.int _, H, I.tok _, ⟨_, rfl⟩, q⟩
theorem ip_xor : PIp X .BitXor (ipI fun i j => Builtin.bitXor i j) := by
 intro pins s σ H x y v u Q I r1 r2 h
 obtain ⟨i, j, e1, e2, q⟩ := h
 subst e1; subst e2
 obtain ⟨t, rfl⟩ := r1
 obtain ⟨t', rfl⟩ := r2
 exact ixor_int ⟨.int _, H, I.tok _, ⟨_, rfl⟩, q⟩
def rGetL : V -> V -> Hp -> VK -> Prop := fun x y H Q => ∃ (p : Addr) (xs : List V) (i : Nat) (v : V), x = .ref p /\ y = .int i /\ H p = some (.lst xs) /\ xs[i]? = some v /\ Q v H
theorem get_list : PGet X rGetL := by
 intro pins s σ H o i ov iv Q I ro ri h
 obtain ⟨p, xs, k, v, rfl, rfl, hp, hk, q⟩ := h
 cases ro
 obtain ⟨t, rfl⟩ := ri
 obtain ⟨its, r, pl, hz⟩ := I.list (SqL.of hp)
 obtain ⟨w, ew, rw'⟩ := r.get hk
 have hl := r.length
 have hkl := (List.getElem?_eq_some_iff.mp hk).1
 have hs := sizeLine_eq
 exact wpAny_getItem_list pl.isList (by omega) (by omega) (by simpa using ew) ⟨v, H, I, rw', q⟩
def rBitLen : V -> List V -> Hp -> VK -> Prop := fun x vs H Q => ∃ i : Int, x = .int i /\ vs = [] /\ Q (.int (Builtin.Int.intBits i)) H
theorem mt_bit_length : MtR X "int.bit_length" rBitLen := by
 intro pins s σ H x xs v us Q I rx rv h
 obtain ⟨i, rfl, rfl, q⟩ := h
 cases rv
 obtain ⟨t, rfl⟩ := rx
 exact call_int_bit_length ⟨.int _, H, I.tok _, ⟨_, rfl⟩, q⟩
end
theorem pe_fldK {X : Cx} (K : PySem.W.Frag) {e : Expr} {f : Str} {pos : Pos} {ta : TE} (he : PE X e ta) (hb : attributeBase e f X.env (eval e X.env) = eval e X.env) (hK : X.K = K := by rfl) : PE X (.Attribute e f pos) (jK K ta f) := by
 subst hK
 exact uP he hb
theorem not_not (x : Int) : Builtin.bitNot (Builtin.bitNot x) = x := by unfold Builtin.bitNot; omega
theorem wP (m n : Nat) : Builtin.bitOr (m : Int) (n : Int) = ((m ||| n : Nat) : Int) := by
 unfold Builtin.bitOr
 rw [bitAnd_nn (by unfold Builtin.bitNot; omega) (by unfold Builtin.bitNot; omega), not_not, not_not, not_not]
 simp
theorem and_mask (m n : Nat) : Builtin.bitAnd (m : Int) (n : Int) = ((m &&& n : Nat) : Int) := by
 rw [bitAnd_pp (by omega) (by omega)]
 simp
theorem low_mask {n : Nat} (h : 0 < n) : Builtin.bitAnd (n : Int) (-(n : Int)) = ((n - (n &&& (n - 1)) : Nat) : Int) := by
 rw [bitAnd_pn (by omega) (by omega)]
 have e : (Builtin.bitNot (-(n : Int))).toNat = n - 1 := by unfold Builtin.bitNot; omega
 rw [e, Int.toNat_natCast]
 have := Nat.and_le_left (n := n) (m := n - 1)
 omega
theorem xor_low {n x : Nat} (h : n - (n &&& (n - 1)) = 2 ^ x) (hb : n.testBit x = true) : Builtin.bitXor (n : Int) ((2 ^ x : Nat) : Int) = ((n &&& (n - 1) : Nat) : Int) := by
 rw [bitXor_and, and_mask]
 have e : n &&& 2 ^ x = 2 ^ x := by
   apply Nat.eq_of_testBit_eq
   intro i
   rw [Nat.testBit_and, Nat.testBit_two_pow]
   by_cases hi : x = i
   · subst hi; simp [hb]
   · simp [hi]
 rw [e]
 have := Nat.and_le_left (n := n) (m := n - 1)
 omega
theorem bits_pow (x : Nat) : Builtin.Int.intBits ((2 ^ x : Nat) : Int) = x + 1 := by
 unfold Builtin.Int.intBits
 have hp : 0 < 2 ^ x := Nat.two_pow_pos x
 rw [if_neg (by rw [beq_iff_eq]; omega), Int.natAbs_natCast, Nat.log2_two_pow]
theorem uB (x : Nat) : (1 : Int) * 2 ^ (x : Int).toNat = ((2 ^ x : Nat) : Int) := by
 rw [Int.one_mul, Int.toNat_natCast]
 simp
end L2
namespace L2
open PySem PySem.Spec PyProof.Rows PySem.SeqAt
section
variable {prog : Program} {w : World} {K : Type} [DecidableEq K] {knd : HeapKind prog w K} {A : Around} {E : Value -> Shared -> Prop} {s : Shared} {d a : Addr} {k : K} {xs : List (K × Addr × Value)}
end
section
variable {X : Cx} {o e f : Expr} {apos cpos : Pos} {td ty tx : TE}
end
end L2
namespace L2
open PySem PySem.Spec PyProof.Rows PySem.W
section
variable {prog : Program} {w : World} {A : Around} {E : Value -> Shared -> Prop} {s : Shared}
end
theorem vals_of : ∀ {ys : List V} {us : List Value}, ys.length = us.length -> (∀ (i : Nat) (y : V) (u : Value), ys[i]? = some y -> us[i]? = some u -> RelV y u) -> Vals ys us
 | [], [], _, _ => .nil
 | [], _ :: _, h, _ => by simp at h
 | _ :: _, [], h, _ => by simp at h
 | y :: ys, u :: us, h, hh => .cons (hh 0 y u rfl rfl) (vals_of (by simpa using h) fun i y' u' h1 h2 => hh (i + 1) y' u' (by simpa using h1) (by simpa using h2))
theorem KT.at {H : Hp} : ∀ {kvs : List (List Key × V)} {xs : List (List Key × Addr × Value)}, KT H kvs xs -> ∀ {i : Nat} {p : List Key × V} {q : List Key × Addr × Value}, kvs[i]? = some p -> xs[i]? = some q -> RelV p.2 q.2.2
 | _, _, .nil, i, p, q, h, _ => by simp at h
 | _, _, .cons hq t, 0, p, q, h1, h2 => by
   simp only [List.getElem?_cons_zero, Option.some.injEq] at h1 h2
   subst h1 h2
   exact hq.2.2
 | _, _, .cons hq t, i + 1, p, q, h1, h2 => KT.at t (by simpa using h1) (by simpa using h2)
section
variable {X : Cx}
end
end L2
namespace L2
open PySem PySem.Spec PyProof.Rows PySem.W
section
variable {prog : Program} {w : World} {A : Around} {E : Value -> Shared -> Prop} {s : Shared}
end
section
variable {prog : Program} {w : World} {A : Around} {E : Value -> Shared -> Prop} {s : Shared}
end
section
variable {prog : Program} {w : World} {A : Around} {E : Value -> Shared -> Prop} {s : Shared} {T : String} {J : Addr} {fp wr : List Addr} {n : Nat} {P : Nat -> Value -> Prop} {St : Nat -> Heap -> Prop}
structure ItSrc (prog : Program) (w : World) (T : String) (J : Addr) (fp wr : List Addr) (n : Nat) (P : Nat -> Value -> Prop) (St : Nat -> Heap -> Prop) : Prop where
 walks : ∀ A : Around, A.handled = none -> Walks prog w A J fp wr n P St
 type : ∀ s : Shared, St 0 s.heap -> s.TypeIs (.ref J) T
 nl : (Value.type T == Value.type "list") = false
 nt : (Value.type T == Value.type "tuple") = false
 hint : ∀ (A : Around) (E : Value -> Shared -> Prop) (s : Shared) (Q : Bool -> Shared -> Prop), St 0 s.heap -> Q false s -> wpAny (model prog w) A (Builtin.List.listLengthHint (.ref J)) Q E s
 mem : J ∈ fp
 sub : wr ⊆ fp
end
theorem bt_any : bootBuiltins "any" = some (.builtin "any") := by decide +kernel
section
variable {X : Cx}
theorem call_intB : xI X (.type "int") (fun xs H Q => ∃ b, xs = [.bl b] /\ Q (.int (if b then 1 else 0)) H) := by
 intro pins s σ H xs us Q I r h
 obtain ⟨b, rfl, q⟩ := h
 obtain ⟨u, rfl, ru⟩ := jH r
 have e : u = Value.bool b := ru
 subst e
 exact call_int_bool ⟨.int _, H, I.tok _, ⟨_, rfl⟩, q⟩
theorem call_any : xI X (.builtin "any") (fun xs H Q => X.calm = true /\ ∃ (p : Addr) (bs : List Bool), xs = [.ref p] /\ SqL X.K H p (bs.map V.bl) /\ Q (.bl (bs.any id)) H) := by
 intro pins s σ H xs us Q I r h
 obtain ⟨hc, p, bs, rfl, hp, q⟩ := h
 obtain ⟨u, rfl, ru⟩ := jH r
 cases ru
 obtain ⟨its, rv, hl, hz⟩ := I.list hp
 have hlt : p < s.heap.objs.size := by obtain ⟨_, e, _⟩ := hl.isList; exact Heap.lt_size e
 have hlen := rv.length
 rw [List.length_map] at hlen
 refine call_any_walk (wpAny_pyIter_list hl.isList ?_)
 refine ⟨_, _, _, _, _, _, fun i => bs.getD i false, rfl, Walks.list (A := X.A.in1) (I.ok.hd hc) s.heap.objs.size p (Nat.ne_of_lt hlt) its.toArray, ⟨⟨_, Heap.get?_push_size _ rfl, rfl, rfl⟩, hl.isList.push _⟩, fun i v s' Q' E' hv q' => ?_, fun h' tk k => ?_⟩
 · have hv : its[i]? = some v := by simpa using hv
   have hi : i < bs.length := by
     have := (List.getElem?_eq_some_iff.mp hv).1
     omega
   obtain ⟨u', hu', ru'⟩ := rv.get (i := i) (x := .bl bs[i]) (by rw [List.getElem?_map, List.getElem?_eq_getElem hi]; rfl)
   rw [hv] at hu'
   cases hu'
   have e : v = Value.bool bs[i] := ru'
   subst e
   refine wpAny_truthy_bool ?_
   have e2 : bs.getD i false = bs[i] := by rw [List.getD_eq_getElem?_getD, List.getElem?_eq_getElem hi]; rfl
   rw [← e2]
   exact q'
 · refine ⟨.bl (bs.any id), H, ?_, ?_, q⟩
   · exact I.kept (h' := h') (t' := tk) fun b o e => k b o (by intro hm; have := List.mem_singleton.mp hm; exact absurd (this ▸ Heap.lt_size e) (Nat.lt_irrefl _)) (Heap.get?_push_of_some _ e)
   · have e : (List.range its.toArray.size).any (fun i => bs.getD i false) = bs.any id := by
       rw [List.size_toArray, ← hlen]
       rw [Bool.eq_iff_iff, List.any_eq_true, List.any_eq_true]
       constructor
       · rintro ⟨i, hi, h⟩
         have hi := List.mem_range.mp hi
         rw [List.getD_eq_getElem?_getD, List.getElem?_eq_getElem hi] at h
         exact ⟨_, List.getElem_mem hi, h⟩
       · rintro ⟨b, hb, h⟩
         obtain ⟨i, hi, rfl⟩ := List.getElem_of_mem hb
         refine ⟨i, List.mem_range.mpr hi, ?_⟩
         rw [List.getD_eq_getElem?_getD, List.getElem?_eq_getElem hi]
         exact h
     show Value.bool _ = _
     rw [e]
theorem mt_joinK (K : PySem.W.Frag) (h : X.K = K := by rfl) : MtR X "str.join" (fun x xs H Q => ∃ (z : Str) (p : Addr) (ys : List Str), x = .str z /\ xs = [.ref p] /\ SqL K H p (ys.map V.str) /\ (ys.map (·.length)).sum + ys.length * z.length <= 16777216 /\ Q (.str (Txt.join z ys)) H) := by subst h; exact mt_join
end
end L2
namespace L2
open PySem PySem.Spec PyProof.Rows PySem.W
section
variable {X : Cx}
theorem pi_listK {tg l : Expr} {tl : TE} (K : PySem.W.Frag) (hl : PE X l tl) (h : X.K = K := by rfl) : PI X tg l (iList K tl) := by subst h; exact yD hl
end
end L2
namespace L2
open PySem PySem.Spec PyProof.Rows PySem.W
def KOk (n : Nat) {α : Type} (P : α -> Prop) : KasT α -> Prop
 | .ret a => P a
 | .ask i j k => i < n /\ j < n /\ i ≠ j /\ ∀ b, KOk n P (k b)
theorem KOk.bind {n : Nat} {α β : Type} {P : α -> Prop} {R : β -> Prop} {f : α -> KasT β} : ∀ {t : KasT α}, KOk n P t -> (∀ a, P a -> KOk n R (f a)) -> KOk n R (t.bind f)
 | .ret a, h, hf => hf a h
 | .ask i j k, h, hf => ⟨h.1, h.2.1, h.2.2.1, fun b => KOk.bind (h.2.2.2 b) hf⟩
theorem KOk.mono {n : Nat} {α : Type} {P R : α -> Prop} (hp : ∀ a, P a -> R a) : ∀ {t : KasT α}, KOk n P t -> KOk n R t
 | .ret a, h => hp a h
 | .ask i j k, h => ⟨h.1, h.2.1, h.2.2.1, fun b => KOk.mono hp (h.2.2.2 b)⟩
theorem KOk.wp {n : Nat} {α : Type} {P : α -> Prop} {cmp : Nat -> Nat -> (Bool -> Shared -> Prop) -> Shared -> Prop} {I : Shared -> Prop} {Q : α -> Shared -> Prop}
   (hc : ∀ i j C s, I s -> i < n -> j < n -> i ≠ j -> (∀ b s', I s' -> C b s') -> cmp i j C s) (hq : ∀ a s, P a -> I s -> Q a s) : ∀ {t : KasT α} {s : Shared}, KOk n P t -> I s -> t.kasWp cmp Q s
 | .ret a, s, h, hi => hq a s h hi
 | .ask i j k, s, h, hi => hc i j _ s hi h.1 h.2.1 h.2.2.1 fun b s' hi' => KOk.wp hc hq (h.2.2.2 b) hi'
def PermN (n : Nat) (p : Array Nat) : Prop := p.toList.Perm (List.range n)
theorem PermN.size {n : Nat} {p : Array Nat} (h : PermN n p) : p.size = n := by
 have := List.Perm.length_eq h
 rwa [Array.length_toList, List.length_range] at this
theorem PermN.of {n : Nat} {p q : Array Nat} (h : PermN n p) (e : q.Perm p) : PermN n q := (Array.perm_iff_toList_perm.mp e).trans h
theorem PermN.rev {n : Nat} {p : Array Nat} (h : PermN n p) (i j : Nat) : PermN n (kas_rev p i j) := h.of (mirror_perm _ _ _ _)
theorem PermN.at {n : Nat} {p : Array Nat} (h : PermN n p) {i : Nat} (hi : i < n) : p.getD i 0 < n := by
 have hs : i < p.size := by rw [h.size]; exact hi
 have e : p.getD i 0 = p[i] := by simp [Array.getD, hs]
 rw [e]
 exact List.mem_range.mp (h.mem_iff.mp (by simp))
theorem PermN.ne {n : Nat} {p : Array Nat} (h : PermN n p) {i j : Nat} (hi : i < n) (hj : j < n) (hij : i ≠ j) : p.getD i 0 ≠ p.getD j 0 := by
 have hs : i < p.size := by rw [h.size]; exact hi
 have hs' : j < p.size := by rw [h.size]; exact hj
 have e : p.getD i 0 = p[i] := by simp [Array.getD, hs]
 have e' : p.getD j 0 = p[j] := by simp [Array.getD, hs']
 rw [e, e']
 have nd : p.toList.Nodup := h.nodup_iff.mpr List.nodup_range
 intro z
 have := List.pairwise_iff_getElem.mp nd
 rcases Nat.lt_or_gt_of_ne hij with l | l
 · exact this i j (by simpa using hs) (by simpa using hs') l (by simpa using z)
 · exact this j i (by simpa using hs') (by simpa using hs) l (by simpa using z.symm)
theorem PermN.ask {n : Nat} {p : Array Nat} (h : PermN n p) {α : Type} {P : α -> Prop} {i j : Nat} {k : Bool -> KasT α} (hi : i < n) (hj : j < n) (hij : i ≠ j) (hk : ∀ b, KOk n P (k b)) : KOk n P (.ask (p.getD i 0) (p.getD j 0) k) := ⟨h.at hi, h.at hj, h.ne hi hj hij, hk⟩
theorem asc_ok {n : Nat} {p : Array Nat} (h : PermN n p) : ∀ (f m : Nat), 1 <= m -> m + f <= n -> KOk n (fun r => m <= r /\ r <= m + f) (kas_asc p f m)
 | 0, m, _, _ => ⟨Nat.le_refl _, Nat.le_refl _⟩
 | f + 1, m, h1, h2 => by
   refine h.ask (by omega) (by omega) (by omega) fun b => ?_
   cases b with
   | true => exact ⟨Nat.le_refl _, by omega⟩
   | false => exact KOk.mono (fun r hr => ⟨by omega, by omega⟩) (asc_ok h f (m + 1) (by omega) (by omega))
theorem desc_ok {n : Nat} : ∀ (f : Nat) (p : Array Nat) (m q : Nat), PermN n p -> 1 <= m -> m + f <= n -> KOk n (fun r => PermN n r.1 /\ m <= r.2.1 /\ r.2.1 <= m + f) (kas_desc f p m q)
 | 0, p, m, q, h, _, _ => ⟨h, Nat.le_refl _, Nat.le_refl _⟩
 | f + 1, p, m, q, h, h1, h2 => by
   have up : ∀ p' q', PermN n p' -> KOk n (fun r => PermN n r.1 /\ m <= r.2.1 /\ r.2.1 <= m + (f + 1)) (kas_desc f p' (m + 1) q') := fun p' q' hp' => KOk.mono (fun r hr => ⟨hr.1, by omega, by omega⟩) (desc_ok f p' (m + 1) q' hp' (by omega) (by omega))
   refine h.ask (by omega) (by omega) (by omega) fun b => ?_
   cases b with
   | true =>
     show KOk n _ (if q > 0 then _ else _)
     split
     · exact up _ _ (h.rev _ _)
     · exact up _ _ h
   | false =>
     refine h.ask (by omega) (by omega) (by omega) fun b => ?_
     cases b with
     | true => exact ⟨h, by show m <= m; omega, by show m <= _; omega⟩
     | false => exact up _ _ h
theorem tail3_ok {n m : Nat} {p : Array Nat} (h : PermN n p) (h1 : 1 <= m) (h2 : m <= n) : KOk n (fun r => PermN n r.2 /\ 1 <= r.1 /\ r.1 <= n) (kas_tail3 m n p) := by
 refine KOk.bind (asc_ok (h.rev _ _) (n - m) m h1 (by omega)) fun a ha => ?_
 exact ⟨h.rev _ _, by show 1 <= a; omega, by show a <= n; omega⟩
theorem qT {n m : Nat} {p : Array Nat} (h : PermN n p) (h1 : 1 <= m) (h2 : m + 1 <= n) : KOk n (fun r => PermN n r.2 /\ 1 <= r.1 /\ r.1 <= n) (kas_descPart m n p) := by
 refine KOk.bind (desc_ok (n - (m + 1)) p (m + 1) 0 h (by omega) (by omega)) fun r hr => ?_
 split
 · exact tail3_ok (hr.1.rev _ _) (by omega) (by omega)
 · exact tail3_ok hr.1 (by omega) (by omega)
theorem count_ok {n : Nat} {p : Array Nat} (h : PermN n p) (hn : 1 <= n) : KOk n (fun r => PermN n r.2 /\ 1 <= r.1 /\ r.1 <= n) (kas_count n p) := by
 refine KOk.bind (asc_ok h (n - 1) 1 (Nat.le_refl _) (by omega)) fun a ha => ?_
 by_cases e : (a == n) = true
 · rw [if_pos e]
   exact ⟨h, by show 1 <= a; omega, by show a <= n; omega⟩
 rw [if_neg e]
 have ne : a ≠ n := fun z => e (by rw [z]; simp)
 by_cases g : a > 1
 · rw [if_pos g]
   refine h.ask (by omega) (by omega) (by omega) fun b => ?_
   cases b with
   | true => exact ⟨h, by show 1 <= a; omega, by show a <= n; omega⟩
   | false => exact qT (h.rev _ _) (by omega) (by omega)
 · rw [if_neg g]
   exact qT h (by omega) (by omega)
theorem uM {n : Nat} {p : Array Nat} (h : PermN n p) {k : Nat} (hk : k < n) : ∀ (f l r : Nat), l <= k -> r <= k -> KOk n (fun x => x <= k) (kas_place p k f l r)
 | 0, l, r, hl, _ => hl
 | f + 1, l, r, hl, hr => by
   show KOk n _ (if l ≥ r then _ else _)
   split
   · exact hl
   · refine h.ask (by omega) (by omega) (by omega) fun b => ?_
     cases b with
     | true => exact uM h hk f l _ hl (by omega)
     | false => exact uM h hk f _ r (by omega) hr
theorem bin_ok {n : Nat} : ∀ (f : Nat) (p : Array Nat) (k : Nat), PermN n p -> k + f <= n -> KOk n (PermN n) (kas_bin f p k)
 | 0, p, k, h, _ => h
 | f + 1, p, k, h, hk => KOk.bind (uM h (by omega) k 0 k (by omega) (by omega)) fun l _ => bin_ok f _ (k + 1) (h.of (bubble_perm _ _ _)) (by omega)
theorem sort_ok {n : Nat} (hn : 1 <= n) : KOk n (PermN n) (kas_sort n) := by
 refine KOk.bind (count_ok (n := n) (p := List.toArray (List.range n)) (List.Perm.refl _) hn) fun r hr => ?_
 split
 · refine bin_ok _ _ _ hr.1 ?_
   have : max r.1 1 = r.1 := by omega
   omega
 · exact hr.1
section
variable {prog : Program} {w : World} {A : Around} {E : Value -> Shared -> Prop} {s : Shared}
theorem perm_out {vs : List Value} {p : Array Nat} (h : PermN vs.length p) : (p.toList.map fun i => vs.getD i Value.none).Perm vs := by
 have h1 : (p.toList.map fun i => vs.getD i Value.none).Perm ((List.range vs.length).map fun i => vs.getD i Value.none) := List.Perm.map _ h
 have e : (List.range vs.length).map (fun i => vs.getD i Value.none) = vs := by
   refine List.ext_getElem (by simp) fun i h1 h2 => ?_
   rw [List.getElem_map, List.getElem_range]
   rw [List.getD_eq_getElem?_getD, List.getElem?_eq_getElem h2]
   rfl
 rwa [e] at h1
theorem perm_sort {κ : SortKind} {a : Addr} {vs : List Value} {n : Nat} {P : PySem.Fin -> Shared -> Prop} (ho : s.heap.get? a = some (seqObj "list" vs.toArray n)) (h64 : vs.length < 64)
   (hk : ∀ (s' : Shared) (Q : SortKind -> Shared -> Prop), 2 <= vs.length -> (∀ b o, b ≠ a -> s.heap.get? b = some o -> s'.heap.get? b = some o) -> Q κ s' -> wpAny (model prog w) A (keyKind' vs.toArray) Q E s')
   (hc : ∀ (s' : Shared) (i j : Nat) (C : Bool -> Shared -> Prop), (∀ b o, b ≠ a -> s.heap.get? b = some o -> s'.heap.get? b = some o) -> i < vs.length -> j < vs.length -> i ≠ j -> (∀ b tk, C b { s' with toks := tk }) -> wpAny (model prog w) A (keyLt' κ (vs.getD i Value.none) (vs.getD j Value.none)) C (fun _ _ => False) s')
   (h : ∀ (out : List Value) (tk : Nat), out.Perm vs -> P (.done (.ret .none)) { s with heap := sortedHeap s.heap a vs out.toArray, toks := tk }) : wpAny (model prog w) A (Builtin.«list.sort» ⟨[.ref a], []⟩) P E s := by
 rw [list_sort_plain]
 have ha : a < s.heap.objs.size := Heap.lt_size ho
 have hsz : vs.toArray.size = vs.length := by simp
 refine wpAny_bind (listItems_at ho rfl ?_); refine wpAny_bind (listUpdate_at ho rfl ?_ (by rw [hsz, sizeLine_eq]; omega) (Nat.zero_le _))
 obtain ⟨e1, ho1⟩ : ∃ e1, (s.heap.update a (Obj.mapSeq fun _ => #[])).get? a = some (seqObj "list" #[] e1) := ⟨_, get?_update_seq ho (fun _ => #[])⟩
 refine wpAny_bind (seqEpoch_at ho1 rfl ?_); refine wpAny_bind (wpAny_newTuple ?_ (by show vs.length <= _; rw [sizeLine_eq]; omega))
 refine wpAny_bind (wpAny_newList ?_ (Nat.zero_le _)); refine wpAny_holding ?_
 have ho6 : (((s.heap.update a (Obj.mapSeq fun _ => #[])).push (seqObj "tuple" vs.toArray 0)).push (seqObj "list" #[] 0)).get? a = some (seqObj "list" #[] e1) := by
   rw [Heap.get?_push_ne _ _ _ (by rw [size_push', Heap.size_update]; exact Nat.ne_of_lt (Nat.lt_succ_of_lt ha)), Heap.get?_push_ne _ _ _ (by rw [Heap.size_update]; exact Nat.ne_of_lt ha)]; exact ho1
 have keep : ∀ b o, b ≠ a -> s.heap.get? b = some o -> (((s.heap.update a (Obj.mapSeq fun _ => #[])).push (seqObj "tuple" vs.toArray 0)).push (seqObj "list" #[] 0)).get? b = some o := fun b o hb e => Heap.get?_push_of_some _ (Heap.get?_push_of_some _ ((Heap.get?_update_other _ _ (Ne.symm hb)).trans e))
 show wpAny (model prog w) A _ P E { s with heap := ((s.heap.update a (Obj.mapSeq fun _ => #[])).push (seqObj "tuple" vs.toArray 0)).push (seqObj "list" #[] 0) }
 dsimp only
 by_cases h2 : vs.toArray.size < 2
 · rw [if_pos h2, if_pos h2]; refine wpAny_bind (wpAny_pure ?_)
   rw [StateT.run_pure]; refine wpAny_bind (wpAny_pure ?_); dsimp only
   have e : (vs.toArray.zip vs.toArray).map (·.2) = vs.toArray := by
     apply Array.toList_inj.mp
     simp [List.map_snd_zip]
   refine wpAny_bind (seqEpoch_at ho6 rfl ?_)
   refine wpAny_bind (listUpdate_at ho6 rfl ?_ (Nat.zero_le _) (by show ((vs.toArray.zip vs.toArray).map (·.2)).size <= _; rw [e, hsz, sizeLine_eq]; omega))
   simp only [bne_self_eq_false, Bool.false_eq_true, if_false]
   refine wpAny_pure ?_
   show P _ { s with heap := sortedHeap s.heap a vs ((vs.toArray.zip vs.toArray).map (·.2)) }
   rw [e]
   exact h vs s.toks (List.Perm.refl _)
 · rw [if_neg h2, if_neg h2]
   have h2' : 2 <= vs.length := by omega
   refine wpAny_bind (hk _ _ h2' keep ?_)
   have hwp : (kas_sort vs.length).kasWp (kas_ask prog w A κ vs) (fun p s' => PermN vs.length p /\ ∃ tk, s' = { s with heap := ((s.heap.update a (Obj.mapSeq fun _ => #[])).push (seqObj "tuple" vs.toArray 0)).push (seqObj "list" #[] 0), toks := tk }) { s with heap := ((s.heap.update a (Obj.mapSeq fun _ => #[])).push (seqObj "tuple" vs.toArray 0)).push (seqObj "list" #[] 0) } := by
     refine KOk.wp (I := fun s' => ∃ tk, s' = { s with heap := ((s.heap.update a (Obj.mapSeq fun _ => #[])).push (seqObj "tuple" vs.toArray 0)).push (seqObj "list" #[] 0), toks := tk }) (fun i j C s' hI hi hj hij hC => ?_) (fun p s' hp hI => ⟨hp, hI⟩) (sort_ok (by omega)) ⟨s.toks, rfl⟩
     obtain ⟨tk, rfl⟩ := hI
     exact hc _ i j C keep hi hj hij (fun b tk => hC b _ ⟨tk, rfl⟩)
   refine wpAny_bind (wpAny_mono (kat_run (Q := fun st' s' => ∃ p : Array Nat, p.size = vs.length /\ arrOf st' = p.map (kas_item (vs.toArray.zip vs.toArray)) /\ failedOf st' = none /\ PermN vs.length p /\ ∃ tk, s' = { s with heap := ((s.heap.update a (Obj.mapSeq fun _ => #[])).push (seqObj "tuple" vs.toArray 0)).push (seqObj "list" #[] 0), toks := tk }) rfl h2' h64 (fun p st' s' a1 a2 a3 a4 => ⟨p, a1, a2, a3, a4⟩) hwp) ?_ fun _ _ e => e)
   rintro ⟨⟨⟩, st'⟩ s' ⟨p, hp, har, hf, hpn, tk, rfl⟩
   dsimp only
   have hout := kat_snds (ks := vs) (vs := vs) rfl har
   have ho7 : (Shared.heap { s with heap := ((s.heap.update a (Obj.mapSeq fun _ => #[])).push (seqObj "tuple" vs.toArray 0)).push (seqObj "list" #[] 0), toks := tk }).get? a = some (seqObj "list" #[] e1) := ho6
   refine wpAny_bind (seqEpoch_at ho7 rfl ?_)
   refine wpAny_bind (listUpdate_at ho7 rfl ?_ (Nat.zero_le _) (by rw [hout, List.size_toArray, List.length_map, Array.length_toList, hp, sizeLine_eq]; omega))
   rw [hf]
   simp only [bne_self_eq_false, Bool.false_eq_true, if_false]
   refine wpAny_pure ?_
   rw [hout]
   exact h _ tk (perm_out hpn)
theorem perm_sorted {κ : SortKind} {l : Addr} {vs : List Value} {Q : Value -> Shared -> Prop} (hl : s.heap.IsList l vs.toArray) (h64 : vs.length < 64)
   (hk : ∀ (s' : Shared) (E : Value -> Shared -> Prop) (Q : SortKind -> Shared -> Prop), 2 <= vs.length -> (∀ b o, s.heap.get? b = some o -> s'.heap.get? b = some o) -> Q κ s' -> wpAny (model prog w) A.in1.in1 (keyKind' vs.toArray) Q E s')
   (hc : ∀ (s' : Shared) (i j : Nat) (C : Bool -> Shared -> Prop), (∀ b o, s.heap.get? b = some o -> s'.heap.get? b = some o) -> i < vs.length -> j < vs.length -> i ≠ j -> (∀ b tk, C b { s' with toks := tk }) -> wpAny (model prog w) A.in1.in1 (keyLt' κ (vs.getD i Value.none) (vs.getD j Value.none)) C (fun _ _ => False) s')
   (h : ∀ (h' : Heap) (tk e : Nat) (out : List Value), out.Perm vs -> (∀ b o, s.heap.get? b = some o -> h'.get? b = some o) -> h'.get? (s.heap.objs.size + 1) = some (seqObj "list" out.toArray e) -> Q (.ref (s.heap.objs.size + 1)) { s with heap := h', toks := tk }) :
   wpAny (model prog w) A (call (.builtin "sorted") [.ref l]) Q E s := by
 refine Calls.call_function_entry kind_sorted plain_sorted entry_sorted (args_sorted1 _) ?_
 unfold Builtin.«sorted»; refine wpAny_bind (m := checkCount "sorted" 1 1 _) (wpAny_pure ?_)
 refine wpAny_bind (collect_list hl ?_ (by rw [sizeLine_eq]; omega)); refine wpAny_bind (wpAny_newList ?_ (by rw [sizeLine_eq]; omega))
 have hsz : ((s.heap.push (seqObj "list" #[] 0)).update s.heap.objs.size (Obj.mapSeq (· ++ vs.toArray))).objs.size = s.heap.objs.size + 1 := by rw [Heap.size_update, size_push']
 have hoL : (((s.heap.push (seqObj "list" #[] 0)).update s.heap.objs.size (Obj.mapSeq (· ++ vs.toArray))).push (seqObj "list" vs.toArray 0)).get? (s.heap.objs.size + 1) = some (seqObj "list" vs.toArray 0) := by rw [← hsz]; exact Heap.get?_push_size _ rfl
 have keep : ∀ b o, s.heap.get? b = some o -> (((s.heap.push (seqObj "list" #[] 0)).update s.heap.objs.size (Obj.mapSeq (· ++ vs.toArray))).push (seqObj "list" vs.toArray 0)).get? b = some o := fun b o q => by
   have hlt : b < s.heap.objs.size := Heap.lt_size q
   rw [Heap.get?_push_ne _ _ _ (by rw [hsz]; exact Nat.ne_of_lt (Nat.lt_succ_of_lt hlt)), Heap.get?_update_ne _ _ _ _ (Nat.ne_of_lt hlt), Heap.get?_push_ne _ _ _ (Nat.ne_of_lt hlt)]; exact q
 have nb : ∀ {b : Addr} {o : Obj}, s.heap.get? b = some o -> b ≠ s.heap.objs.size + 1 := fun q => Nat.ne_of_lt (Nat.lt_succ_of_lt (Heap.lt_size q))
 show wpAny _ _ _ _ _ { s with heap := ((s.heap.push (seqObj "list" #[] 0)).update s.heap.objs.size (Obj.mapSeq (· ++ vs.toArray))).push (seqObj "list" vs.toArray 0) }
 rw [hsz]
 refine wpAny_bind (wpAny_holding (wpAny_call_entry slot_list_sort ⟨_, hoL, rfl⟩ entry_list_sort (perm_sort (κ := κ) (A := A.in1.in1) hoL h64 (fun s' Q' h2 kp hq => hk s' _ Q' h2 (fun b o e => kp b o (nb e) (keep b o e)) hq) (fun s' i j C kp hi hj hij hC => hc s' i j C (fun b o e => kp b o (nb e) (keep b o e)) hi hj hij hC) fun out tk hp => ⟨_, rfl, ?_⟩) (args_list_sort _)))
 obtain ⟨e, he⟩ := sortedHeap_at (out := out.toArray) hoL
 refine wpAny_pure ⟨_, rfl, h _ tk e out hp (fun b o q => ?_) he⟩
 rw [sortedHeap_old (nb q) (Heap.lt_size (keep b o q))]
 exact keep b o q
end
section
variable {X : Cx}
theorem refs_are : ∀ {as : List Addr} {us : List Value}, Vals (as.map V.ref) us -> us = as.map Value.ref
 | [], _, .nil => rfl
 | a :: as, _, .cons r t => by
   have e : _ = Value.ref a := r
   rw [e, refs_are t]
   rfl
def TupS (H : Hp) (a : Addr) (z : Str) : Prop := ∃ r, H a = some (.tup (.str z :: r))
theorem TupS.raw {P : Program} {w : World} {H : Hp} {h : Heap} {a : Addr} {z : Str} (ok : HOk P w H h) (t : TupS H a z) : ∃ o xs n tk r, h.get? a = some o /\ o.cls = .type "tuple" /\ o.data = .seq xs n /\ xs = (Value.str z tk :: r).toArray := by
 obtain ⟨r, ht⟩ := t
 obtain ⟨_, its, rr, o, h1, h2, n, h3⟩ := (show ObjOk P w H h a (.tup (.str z :: r)) from ok a _ ht)
 cases rr with
 | cons r1 r2 =>
   obtain ⟨tk, rfl⟩ := r1
   exact ⟨o, _, n, tk, _, h1, h2, h3, rfl⟩
theorem kat_of {P : Program} {w : World} {H : Hp} {h h' : Heap} (ok : HOk P w H h) (kp : ∀ b o, h.get? b = some o -> h'.get? b = some o) : ∀ (as : List Addr) (zs : List Str), as.length = zs.length -> (∀ (i : Nat) (a : Addr) (z : Str), as[i]? = some a -> zs[i]? = some z -> TupS H a z) -> ∃ fs, KatTups h' (as.map Value.ref) fs /\ fs.length = as.length /\ ∀ f ∈ fs, ∃ z tk, f = Value.str z tk
 | [], [], _, _ => ⟨[], trivial, rfl, fun _ h => nomatch h⟩
 | [], _ :: _, h, _ => by simp at h
 | _ :: _, [], h, _ => by simp at h
 | a :: as, z :: zs, hl, ht => by
   obtain ⟨fs, h1, h2, h3⟩ := kat_of ok kp as zs (by simpa using hl) fun i a' z' ha hz => ht (i + 1) a' z' (by simpa using ha) (by simpa using hz)
   obtain ⟨o, xs, n, tk, r, g1, g2, g3, g4⟩ := (ht 0 a z rfl rfl).raw ok
   refine ⟨Value.str z tk :: fs, ⟨⟨a, o, xs, n, rfl, kp _ _ g1, g2, g3, by rw [g4]; simp⟩, h1⟩, by simp [h2], fun f hf => ?_⟩
   rcases List.mem_cons.mp hf with e | hf
   · exact ⟨z, tk, e⟩
   · exact h3 f hf
theorem looks_str {M : Model} {h : Heap} {z : Str} {tk : Tok} : Looks M h (typeOf (.str z tk)) (.type "str") := fun A Q E s _ q => wpAny_typeOf (typeIs_str s z tk) q
theorem call_sortedP : xI X (.builtin "sorted") (fun xs H Q => X.calm = true /\ ∃ (p : Addr) (as : List Addr) (zs : List Str), xs = [.ref p] /\ H p = some (.lst (as.map V.ref)) /\ as.length = zs.length /\ zs.length < 64 /\ zs.Nodup /\ (∀ (i : Nat) (a : Addr) (z : Str), as[i]? = some a -> zs[i]? = some z -> TupS H a z) /\
   ∀ (l : Addr) (as' : List Addr), H l = none -> as'.Perm as -> Q (.ref l) (upd H l (.lst (as'.map V.ref)))) := by
 intro pins s σ H xs us Q I r h
 obtain ⟨hcalm, p, as, zs, rfl, hp, hl, h64, hnd, ht, q⟩ := h
 obtain ⟨u, rfl, ru⟩ := jH r
 cases ru
 obtain ⟨hz, its, nn, rv, o1⟩ := (show ObjOk X.prog X.w H s.heap p (.lst (as.map V.ref)) from I.hok p _ hp)
 have e := refs_are rv
 subst e
 have hlen : (as.map Value.ref).length = as.length := List.length_map _
 refine perm_sorted (κ := tuples' true) (vs := as.map Value.ref) ⟨_, o1, rfl, nn, rfl⟩ (by omega) (fun s' E' Q' h2 kp hq => ?_) (fun s' i j C kp hi hj hij hC => ?_) fun h' tk e out hperm kp hS => ?_
 · obtain ⟨fs, k1, k2, k3⟩ := kat_of I.hok kp as zs hl ht
   refine kat_kind (T := .type "str") k1 (by omega) (fun v hv => ?_) (by decide) hq
   obtain ⟨z, tk, rfl⟩ := k3 v hv
   exact looks_str
 · rw [hlen] at hi hj
   have gi : (as.map Value.ref).getD i Value.none = .ref as[i] := by rw [List.getD_eq_getElem?_getD, List.getElem?_map, List.getElem?_eq_getElem hi]; rfl
   have gj : (as.map Value.ref).getD j Value.none = .ref as[j] := by rw [List.getD_eq_getElem?_getD, List.getElem?_map, List.getElem?_eq_getElem hj]; rfl
   have hiz : i < zs.length := by omega
   have hjz : j < zs.length := by omega
   obtain ⟨oi, xi, ni, ti, ri, a1, a2, a3, a4⟩ := (ht i as[i] zs[i] (List.getElem?_eq_getElem hi) (List.getElem?_eq_getElem hiz)).raw I.hok
   obtain ⟨oj, xj, nj, tj, rj, b1, b2, b3, b4⟩ := (ht j as[j] zs[j] (List.getElem?_eq_getElem hj) (List.getElem?_eq_getElem hjz)).raw I.hok
   have hne : zs[i] ≠ zs[j] := by
     rcases Nat.lt_or_gt_of_ne hij with l | l
     · exact (List.pairwise_iff_getElem.mp hnd) i j hiz hjz l
     · exact ((List.pairwise_iff_getElem.mp hnd) j i hjz hiz l).symm
   rw [gi, gj]
   subst a4 b4
   refine kat_lt (kp _ _ a1) a3 (kp _ _ b1) b3 ?_
   show KatLex _ _ _ _ _ _ ((Value.str zs[i] ti, Value.str zs[j] tj) :: ri.zip rj) 0 s'
   refine kat_cons (wpAny_eqBool_str ?_)
   rw [decide_eq_false hne]
   refine kat_no ?_
   show wpAny _ _ (oneLt' true _ _) _ _ _
   exact oneLt_str (hC _ s'.toks)
 · obtain ⟨as', e1, e2⟩ : ∃ as' : List Addr, out = as'.map Value.ref /\ as'.Perm as := by
     have : ∀ v ∈ out, ∃ a, v = Value.ref a := fun v hv => by
       obtain ⟨a, _, e⟩ := List.mem_map.mp (hperm.mem_iff.mp hv)
       exact ⟨a, e.symm⟩
     have ho : out = (out.map fun v => match v with | .ref a => a | _ => 0).map Value.ref := by
       rw [List.map_map]
       conv => lhs; rw [← List.map_id out]
       refine List.map_congr_left fun v hv => ?_
       obtain ⟨a, rfl⟩ := this v hv
       rfl
     refine ⟨_, ho, ?_⟩
     have h2 := List.Perm.map (fun v : Value => match v with | .ref a => a | _ => (0 : Addr)) hperm
     rw [List.map_map] at h2
     have h3 : as.map ((fun v : Value => match v with | .ref a => a | _ => (0 : Addr)) ∘ Value.ref) = as := by
       conv => rhs; rw [← List.map_id as]
       rfl
     rwa [h3] at h2
   subst e1
   have hl' := e2.length_eq
   have vals : Vals (as'.map V.ref) (as'.map Value.ref) := vals_of (by simp) fun i y u hy hu => by
     rw [List.getElem?_map] at hy hu
     obtain ⟨a1, g1, rfl⟩ := Option.map_eq_some_iff.mp hy
     obtain ⟨a2, g2, rfl⟩ := Option.map_eq_some_iff.mp hu
     rw [g1] at g2
     cases g2
     rfl
   exact ⟨.ref (s.heap.objs.size + 1), _, I.laid (a := s.heap.objs.size + 1) (o := .lst (as'.map V.ref)) (t' := tk) kp (Nat.le_succ _) ⟨by rw [List.length_map, sizeLine_eq]; omega, _, e, vals, hS⟩, rfl, q _ _ (I.hok.fresh (Nat.le_succ _)) e2⟩
end
end L2
namespace L2
open PySem PySem.Spec PyProof.Rows PySem.W
section
variable {X : Cx}
def tLRg (ta : TA) : TE := fun σ H Q => ta σ H fun vs H1 => ∃ n : Nat, vs = [.int n] /\ n <= 100000 /\ ∀ l, H1 l = none -> Q (.ref l) (upd H1 l (.lst ((List.range n).map fun i : Nat => V.int i)))
theorem wO {o : Expr} {ta : TA} {p p' ap pos : Pos} (hg : Gl X "list") (hm : X.mg "list" = none) (hg' : Gl X "range") (hm' : X.mg "range" = none) (hc : X.calm = true) (ha : PA X [o] ta) (hs : starEach [o] X.env = [(false, eval o X.env)] := by rfl)
   (he : starEach [Expr.Call (.Name "range" p') [o] [] ap] X.env = [(false, eval (.Call (.Name "range" p') [o] [] ap) X.env)] := by rfl) : PE X (.Call (.Name "list" p) [.Call (.Name "range" p') [o] [] ap] [] pos) (tLRg ta) := by
 intro pins s σ H Q I h
 refine wpAny_Call_Name_kw (jU I hg hm bt_list ?_ (by decide) (by decide))
 refine PyProof.Rows.callWith_type1 ?_ he (by rfl)
 rw [he]
 show wpAny _ _ (spliced [(false, _)]) _ _ s
 refine Calls.spliced_cons ?_
 refine wpAny_Call_Name_kw (jU I hg' hm' bt_range ?_ (by decide) (by decide))
 refine PyProof.Rows.callWith_type1 (thn (ha ap pins s σ H _ I h) fun us s1 ⟨vs, H1, I1, r1, n, e, hn, q⟩ => ?_) (by rw [hs]; rfl) (by rfl)
 subst e
 obtain ⟨u, rfl, t, rfl⟩ := jH r1
 refine call_range_1 ?_
 refine Calls.spliced_nil ?_
 have hsz : Builtin.Range.rangeSize 0 (n : Int) 1 = ((n : Nat) : Int) := by rw [rangeSize_one]; split <;> omega
 refine call_list_range (n := n) (I.ok.hd hc) (IsRange.new ..) (small_one (by omega) (by omega) (by omega) (by omega)) hsz (by omega) fun h' tk acc c' hk hS hacc => ?_
 have I2 : Inv X pins σ H1 { s1 with heap := s1.heap.push { cls := Value.type "range", data := Data.fields #[Value.int 0 s1.toks, Value.int (n : Int) t, Value.int 1 (s1.toks + 1)] }, toks := s1.toks + 1 + 1 } := I1.kept fun b o e => Heap.get?_push_of_some _ e
 have hal : acc.toList.length = n := by rw [Array.length_toList]; exact hacc.1
 have vals : Vals ((List.range n).map fun i : Nat => V.int i) acc.toList := by
   refine vals_of (by rw [List.length_map, List.length_range, hal]) fun i y u hy hu => ?_
   have hi := (List.getElem?_eq_some_iff.mp hu).1
   rw [Array.getElem?_toList] at hu
   obtain ⟨tt, e⟩ := hacc.2 i u hu
   rw [List.getElem?_map, List.getElem?_range (by omega)] at hy
   have hy : V.int (i : Int) = y := Option.some.inj hy
   subst hy e
   exact ⟨tt, by simp⟩
 exact ⟨.ref _, _, I2.laid (a := _) (o := .lst ((List.range n).map fun i : Nat => V.int i)) (t' := tk) hk (Nat.le_refl _) ⟨by rw [List.length_map, List.length_range, sizeLine_eq]; omega, acc.toList, c', vals, by rw [Array.toArray_toList]; exact hS⟩, rfl, q _ (I2.hok.fresh (Nat.le_refl _))⟩
theorem call_allK (K : PySem.W.Frag) (h : X.K = K := by rfl) (hc : X.calm = true := by rfl) : xI X (.builtin "all") (fun xs H Q => ∃ (p : Addr) (bs : List Bool), xs = [.ref p] /\ SqL K H p (bs.map V.bl) /\ Q (.bl (bs.all id)) H) := by
 subst h
 intro pins s σ H xs us Q I r h
 exact call_all pins s σ H xs us Q I r ⟨hc, h⟩
end
structure LzScope (z : Str) (xs ys : List Str) (scope around : Scope) : Prop where
 kind : scope.kind = .function
 nd : (xs ++ ys).Nodup
 zc : scope.names.lookup z = some .cell
 cap : ∀ y ∈ ys, scope.names.lookup y = some .free /\ (around.names.lookup y = some .cell \/ around.names.lookup y = some .free)
 onecell : ∀ y ∈ scope.names, y.2 = .cell -> y.1 = z
 names : ∀ y ∈ scope.names, y.2 = .local -> scope.names.lookup y.1 = some .local
 free : ∀ y ∈ scope.names, y.2 = .free -> y.1 ∈ ys
 cf : ∀ n cl, cellsFrom n scope.names cl = (z, n) :: cl
 pc : ∀ h, pushCells h scope.names = h.push { cls := .type "cell", data := .cell none }
theorem LzScope.ne {z : Str} {xs ys : List Str} {scope around : Scope} (S : LzScope z xs ys scope around) {y : Str} (h : y ∈ ys) : (y == z) = false := by
 cases e : y == z with
 | false => rfl
 | true =>
   have e := eq_of_beq e
   subst e
   have := (S.cap y h).1
   rw [S.zc] at this
   cases this
theorem nfe_cell {M : Model} {A : Around} {E : Value -> Shared -> Prop} {s : Shared} {z : Str} {scope : Scope} {globals : Addr} {closure : List (Str × Addr)} {qual : Str} {around : Env} {Q : Env -> Shared -> Prop}
   (cf : ∀ n cl, cellsFrom n scope.names cl = (z, n) :: cl) (pc : ∀ h, pushCells h scope.names = h.push { cls := .type "cell", data := .cell none })
   (hQ : Q (newEnv scope s.heap.objs.size globals ((z, s.heap.objs.size + 1) :: closure) qual none .none (some around) builtinsNs) { s with heap := (s.heap.push { cls := .type "dict", data := .dict #[] }).push { cls := .type "cell", data := .cell none } }) :
   wpAny M A (newFunctionEnv scope globals closure [] qual none .none (some around)) Q E s := by
 simp only [newFunctionEnv, Option.isSome_some, if_true]
 refine wpAny_bind (wpAny_alloc ?_)
 refine wpAny_bind (wpAny_layCells _ (fun name kind cells => by cases hkc : kind == NameKind.cell <;> simp [hkc]) _ _ _ _ ?_)
 rw [cf, pc, show ({ s with heap := s.heap.push { cls := .type "dict", data := .dict #[] } } : Shared).heap.objs.size = s.heap.objs.size + 1 from Heap.size_push ..]
 exact wpAny_pure hQ
def yV (z : Str) (X : Cx) (xs ys : List Str) (scope : Scope) (C : Addr) (s₀ : Shared) (H₀ : Hp) (fp : List Addr) : Cx where
 prog := X.prog
 w := X.w
 K := X.K
 mg := X.mg
 base := X.base
 A := X.A
 N := xs ++ ys
 s₀ := s₀
 H₀ := H₀
 env := compEnvC scope ((z, C + 1) :: yQ X.env scope.names []) C X.env
 outer := X.stack
 stack := X.stack
 ex := fp
 fn := fun x => x == z
 calm := X.calm
 pn := []
 xe := fun _ _ => False
section
variable {z : Str} {X : Cx} {pins : List (Addr × Obj)} {σ : St} {H : Hp} {s : Shared} {xs ys : List Str} {scope : Scope} {fp : List Addr} {C D : Addr} {js : List Nat}
theorem clos_okz (I : Inv X pins σ H s) (S : LzScope z xs ys scope X.env.scope) : ∀ x ∈ scope.names, x.2 = .free -> ∃ c, X.env.cells.lookup x.1 = some c := fun x hx hf =>
 I.ok.has x.1 ((S.cap x.1 (S.free x hx hf)).2.elim .inl .inr)
theorem clos_lookz (I : Inv X pins σ H s) (S : LzScope z xs ys scope X.env.scope) {y : Str} {c : Addr} (e : (yQ X.env scope.names []).lookup y = some c) : X.env.cells.lookup y = some c :=
 xN scope.names [] (clos_okz I S) (fun _ _ z => nomatch z) e
theorem kD (I : Inv X pins σ H s) (S : LzScope z xs ys scope X.env.scope) (hj : Caps X ys js) (f2 : ∀ b ∈ fp, vH X pins H b) (fo : ∀ b ∈ fp, b < s.heap.objs.size)
   {h₁ : Heap} {m : Str -> Option Value} {tk : Nat} {oD : Obj} (hC : s.heap.objs.size <= C) (hD : s.heap.objs.size <= D) (hDC : D ≠ C) (hn : h₁.Ns C m) (hd : h₁.get? D = some oD) (hdd : ∀ v, oD.data ≠ .cell v) (hz : h₁.IsCell (C + 1) none)
   (old : ∀ b o, s.heap.get? b = some o -> h₁.get? b = some o) :
   Inv (yV z X xs ys scope C s H fp) [(D, oD)] (uW xs js σ) H { s with heap := h₁, toks := tk } := by
 have cl := fun y c => clos_lookz (y := y) (c := c) I S
 have nC : H C = none := I.hok.fresh hC
 have hC1 : s.heap.objs.size <= C + 1 := Nat.le_succ_of_le hC
 have nC1 : H (C + 1) = none := I.hok.fresh hC1
 have cz : ∀ x c, ((z, C + 1) :: yQ X.env scope.names []).lookup x = some c -> ((x == z) = true /\ c = C + 1) \/ ((x == z) = false /\ X.env.cells.lookup x = some c /\ c < s.heap.objs.size) := fun x c h => by
   rw [List.lookup_cons] at h
   cases e : x == z with
   | true => rw [e] at h; exact .inl ⟨rfl, (Option.some.inj h).symm⟩
   | false =>
     rw [e] at h
     have h2 := cl x c h
     obtain ⟨v, o, ho, hod⟩ := I.cell x c h2
     exact .inr ⟨rfl, h2, Heap.lt_size ho⟩
 have nD : H D = none := I.hok.fresh hD
 have lt_of : ∀ {b : Addr}, b < s.heap.objs.size -> b ≠ C := fun hb => Nat.ne_of_lt (Nat.lt_of_lt_of_le hb hC)
 have fsub : ∀ b, b ∈ frs X.stack -> b ∈ X.env.locals :: X.fs := I.stkSub
 refine ⟨⟨I.ok.mod, ?_, I.ok.glob, I.ok.blt, hC, fun x y c h1 h2 => ?_, fun x hx => ?_, (fun x c h1 h => ?_), I.ok.hd, I.ok.frames, .inl rfl, fun b hb => ⟨lt_of (fo b hb), fun x c h => ?_⟩, I.bs,
   Nat.le_trans I.ok.bsz I.sz, fun b o e hb => ?_, fun b hb hf => ?_, I.stack, I.stkFree⟩,
   rfl, I.bare, Un.kept old, ⟨m, hn, fun i x v e1 e2 e3 => ?_⟩, fun x c h => ?_, nC, fun x c h => ?_, fun p hp => ?_, I.hok.kept old, ?_⟩
 · show scope.kind = _
   exact S.kind
 · rcases cz x c h1 with ⟨e1, ec⟩ | ⟨e1, ec, lt⟩
   · rcases cz y c h2 with ⟨e2, _⟩ | ⟨e2, _, lt2⟩
     · exact (eq_of_beq e1).trans (eq_of_beq e2).symm
     · rw [ec] at lt2; exact absurd lt2 (Nat.not_lt.mpr hC1)
   · rcases cz y c h2 with ⟨e2, ec2⟩ | ⟨e2, ec2, lt2⟩
     · rw [ec2] at lt; exact absurd lt (Nat.not_lt.mpr hC1)
     · exact I.ok.inj x y c ec ec2
 · have hx : (relabel scope X.env).names.lookup x = some .cell \/ (relabel scope X.env).names.lookup x = some .free := hx
   show ∃ c, ((z, C + 1) :: yQ X.env scope.names []).lookup x = some c
   rw [List.lookup_cons]
   cases exz : x == z with
   | true => exact ⟨_, rfl⟩
   | false =>
   have hm : (x, NameKind.free) ∈ scope.names := by
     rcases hx with hx | hx
     · rcases yR hx with z' | z'
       · have := S.onecell _ (PySem.mem_of_lookup z') rfl
         rw [show x = z from this, beq_self_eq_true] at exz
         cases exz
       · exact PySem.mem_of_lookup z'.1
     · rcases yR hx with z | z
       · exact PySem.mem_of_lookup z
       · exact nomatch z.2
   exact xR scope.names [] (.inl hm)
 · rcases cz x c h with ⟨_, ec⟩ | ⟨e, _, _⟩
   · rw [ec]; exact hC1
   · rw [show (x == z) = true from h1] at e; cases e
 · rcases cz x c h with ⟨_, ec⟩ | ⟨_, ec, _⟩
   · rw [ec]; exact Nat.ne_of_gt (Nat.lt_of_lt_of_le (fo b hb) hC1)
   · exact (f2 b hb).2.2.2.2.1 x c ec
 · rcases (f2 b hb).2.2.2.1 with z | z
   · exact I.ok.noex b o e z
   · exact absurd (Nat.lt_of_lt_of_le (Heap.lt_size e) (Nat.le_trans I.ok.bsz z)) (Nat.lt_irrefl _)
 · rcases List.mem_cons.mp (fsub b hf) with z | z
   · exact (f2 b hb).2.1 z
   · exact (f2 b hb).2.2.1 z
 · have e1 : (xs ++ ys)[i]? = some x := e1
   have e2 : (xs.map (fun _ => (none : Option V)) ++ js.map fun j => (σ[j]?).join)[i]? = some (some v) := e2
   by_cases hi : i < xs.length
   · rw [List.getElem?_append_left (by simpa using hi), List.getElem?_map] at e2
     cases q : xs[i]? with
     | none => rw [q] at e2; cases e2
     | some z => rw [q] at e2; cases e2
   · rw [List.getElem?_append_right (by simpa using hi), List.length_map, List.getElem?_map] at e2
     rw [List.getElem?_append_right (by simpa using hi)] at e1
     cases q : js[i - xs.length]? with
     | none => rw [q] at e2; cases e2
     | some j =>
       rw [q] at e2
       have e2' : (σ[j]?).join = some v := Option.some.inj e2
       have hy := hj.2 _ _ _ e1 q
       have hσ : σ[j]? = some (some v) := by
         cases z : σ[j]? with
         | none => rw [z] at e2'; cases e2'
         | some t => rw [z] at e2'; exact congrArg some e2'
       have ym : x ∈ ys := List.mem_of_getElem? e1
       obtain ⟨cf, ca⟩ := S.cap x ym
       obtain ⟨m0, _, hl⟩ := I.loc
       obtain ⟨u, ru, lk⟩ := hl j x v hy hσ (ca.elim (fun z => .inr (.inl z)) fun z => .inr (.inr z))
       refine ⟨u, ru, .inr ⟨?_, ?_⟩⟩
       · exact jE (env := X.env) cf
       · rcases lk with ⟨k, _⟩ | ⟨_, c, ec, zc⟩
         · have k : X.env.scope.names.lookup x = some .local := k
           rcases ca with z' | z' <;> · rw [k] at z'; cases z'
         · obtain ⟨c', ec'⟩ := xR (env := X.env) (y := x) scope.names [] (.inl (PySem.mem_of_lookup cf))
           have e3 := cl x c' ec'
           rw [ec] at e3
           cases e3
           obtain ⟨o, ho, hod⟩ := zc
           refine ⟨_, ?_, o, old _ _ ho, hod⟩
           show ((z, C + 1) :: yQ X.env scope.names []).lookup x = _
           rw [List.lookup_cons, S.ne ym]
           exact ec'
 · rcases cz x c h with ⟨_, ec⟩ | ⟨_, ec, _⟩
   · rw [ec]; exact ⟨_, hz⟩
   · obtain ⟨v, o, ho, hod⟩ := I.cell x c ec
     exact ⟨v, o, old _ _ ho, hod⟩
 · rcases cz x c h with ⟨_, ec⟩ | ⟨_, ec, _⟩
   · rw [ec]; exact nC1
   · exact I.freeC x c ec
 · have hp : p ∈ [(D, oD)] := by simpa [yV] using hp
   have e := List.mem_singleton.mp hp
   subst e
   refine ⟨hd, nD, hDC, fun hf => ?_, hdd⟩
   have hf : D ∈ frs X.stack := hf
   obtain ⟨o, ho⟩ : ∃ o, s.heap.get? D = some o := by
     rcases List.mem_cons.mp (fsub D hf) with z | z
     · obtain ⟨m0, ⟨o, _, _, ho, _⟩, _⟩ := I.loc
       have z : D = X.env.locals := z
       exact ⟨o, z ▸ ho⟩
     · exact absurd z (I.nofs hD)
   exact absurd (Heap.lt_size ho) (Nat.not_lt.mpr hD)
 · show (xs.map (fun _ => (none : Option V)) ++ js.map fun j => (σ[j]?).join).length = (xs ++ ys).length
   rw [List.length_append, List.length_append, List.length_map, List.length_map, hj.1]
end
section
variable {z : Str} {X : Cx} {pins : List (Addr × Obj)} {σ : St} {H : Hp} {s : Shared} {xs ys : List Str} {scope : Scope} {js : List Nat} {tg iter elt : Expr} {ifs : List Expr} {pos : Pos} {wi : TI} {g : TG} {tc : Option TT} {te : TE}
theorem lc_corez (hc : X.calm = true) (S : LzScope z xs ys scope X.env.scope) (hj : Caps X ys js) (hi : PI X tg iter wi)
   (hg : ∀ C s₀ H₀ fp, PG (yV z X xs ys scope C s₀ H₀ fp) tg g) (hif : ∀ C s₀ H₀ fp, PIf (yV z X xs ys scope C s₀ H₀ fp) ifs tc) (he : ∀ C s₀ H₀ fp, PE (yV z X xs ys scope C s₀ H₀ fp) elt te)
   {RR : Value -> Addr -> Result -> Shared -> Prop} {Q : VK} (I : Inv X pins σ H s) (h : tLC xs js wi g tc te σ H Q)
   (fin : ∀ D C H' s', LcEnd X pins σ C H' s' -> Q (.ref D) H' -> RR (.ref D) C (.ok .next) s') :
   wpAny (model X.prog X.w) X.A (eval iter X.env) (fun x s₁ => wpAny (model X.prog X.w) X.A (pyIter x) (fun it s₂ => wpAny (model X.prog X.w) X.A (newList []) (fun acc s₃ =>
     wpAny (model X.prog X.w) X.A (newFunctionEnv scope X.env.globals (yQ X.env scope.names []) [] X.env.qual none .none (some X.env)) (fun cenv s₄ =>
       codeAny (model X.prog X.w) X.A (.compStart (.ListComp elt [⟨tg, iter, ifs, 0⟩] scope pos) 0 it acc { cenv with scope := relabel scope X.env }) (RR acc cenv.locals) s₄) X.xe s₃) X.xe s₂) X.xe s₁) X.xe s := by
 refine thn (hi pins s σ H _ I h) fun v s1 h1 => thn h1 fun itv s2 h2 => ?_
 obtain ⟨it, fp, tn, J, H2, e, I2, T, st2, f2, W, ⟨m0, w0⟩, turn⟩ := h2
 subst e
 have fo : ∀ b ∈ fp, b < s2.heap.objs.size := fun b hb => let ⟨o, e, _⟩ := T.obj _ _ st2 b hb; Heap.lt_size e
 refine wpAny_newObj_type (nfe_cell S.cf S.pc ?_)
 dsimp only
 generalize hH2 : s2.heap.push { cls := .type "list", dict := none, data := .seq ([] : List Value).toArray } = G
 generalize hh1 : (G.push { cls := .type "dict", data := .dict #[] }).push { cls := .type "cell", data := .cell none } = h₁
 have hC : G.objs.size = s2.heap.objs.size + 1 := by rw [← hH2, Heap.size_push]
 have hDC : s2.heap.objs.size ≠ G.objs.size := by rw [hC]; exact Nat.ne_of_lt (Nat.lt_succ_self _)
 have hCle : s2.heap.objs.size <= G.objs.size := by rw [hC]; exact Nat.le_succ _
 have keep1 : ∀ b o, G.get? b = some o -> h₁.get? b = some o := fun b o e => hh1 ▸ Heap.get?_push_of_some _ (Heap.get?_push_of_some _ e)
 have hns₁ : h₁.Ns G.objs.size (fun _ => none) := hh1 ▸ (Heap.Ns.new G (.type "dict")).keeps fun b o e => Heap.get?_push_of_some _ e
 have hz1 : h₁.IsCell (G.objs.size + 1) none := by
   have q := Heap.get?_push_size (G.push { cls := .type "dict", data := .dict #[] }) (o := { cls := .type "cell", data := .cell none }) rfl
   rw [Heap.size_push, hh1] at q
   exact ⟨_, q, rfl⟩
 have below : ∀ b, b < s2.heap.objs.size -> b ≠ G.objs.size /\ b ≠ s2.heap.objs.size := fun b hb => ⟨by rw [hC]; exact Nat.ne_of_lt (Nat.lt_succ_of_lt hb), Nat.ne_of_lt hb⟩
 have old : ∀ b o, s2.heap.get? b = some o -> h₁.get? b = some o := fun b o e => keep1 b o (hH2 ▸ Heap.get?_push_of_some _ e)
 have hacc : h₁.get? s2.heap.objs.size = some (LCg.lst []) := keep1 _ _ (hH2 ▸ Heap.get?_push_size _ rfl)
 have st₁ : tn 0 h₁ := T.keep _ _ _ st2 fun b _ o e => old b o e
 have I3 := kD (C := G.objs.size) (D := s2.heap.objs.size) (tk := s2.toks) I2 S hj f2 fo hCle (Nat.le_refl _) hDC hns₁ hacc (by intro v hv; cases hv) hz1 old
 generalize hX : yV z X xs ys scope G.objs.size s2 H2 fp = B at I3
 have pB : B.prog = X.prog := by rw [← hX]; rfl
 have wB : B.w = X.w := by rw [← hX]; rfl
 have kB : B.K = X.K := by rw [← hX]; rfl
 have aB : B.A = X.A := by rw [← hX]; rfl
 have eB : B.env = compEnvC scope ((z, G.objs.size + 1) :: yQ X.env scope.names []) G.objs.size X.env := by rw [← hX]; rfl
 have cB : B.calm = true := by rw [← hX]; exact hc
 have xB : B.xe = fun _ _ => False := by rw [← hX]; rfl
 have gB : PG B tg g := by rw [← hX]; exact hg _ _ _ _
 have iB : PIf B ifs tc := by rw [← hX]; exact hif _ _ _ _
 have elB : PE B elt te := by rw [← hX]; exact he _ _ _ _
 have sB : B.s₀ = s2 := by rw [← hX]; rfl
 have hB : B.H₀ = H2 := by rw [← hX]; rfl
 have fB : B.fs = frs X.stack := by rw [← hX]; rfl
 have exB : B.ex = fp := by rw [← hX]; rfl
 have pnB : B.pn = [] := by rw [← hX]; rfl
 exact lc_tail (cl := (z, G.objs.size + 1) :: yQ X.env scope.names []) I2 T f2 w0 turn fin fo hC hDC hCle below st₁ I3 pB wB kB aB eB cB xB gB iB elB sB hB fB exB pnB
theorem ps_setLCz {i : Nat} {x : Str} {p' p : Pos} (hN : X.N.Nodup) (hx : X.N[i]? = some x) (hl : X.env.scope.names.lookup x = some .local) (hc : X.calm = true) (S : LzScope z xs ys scope X.env.scope) (hj : Caps X ys js) (hi : PI X tg iter wi)
   (hg : ∀ C s₀ H₀ fp, PG (yV z X xs ys scope C s₀ H₀ fp) tg g) (hif : ∀ C s₀ H₀ fp, PIf (yV z X xs ys scope C s₀ H₀ fp) ifs tc) (he : ∀ C s₀ H₀ fp, PE (yV z X xs ys scope C s₀ H₀ fp) elt te)
   (hsw : swapsWith (.ListComp elt [⟨tg, iter, ifs, 0⟩] scope pos) (some (.Name x p')) p.line X.env = pure true := by rfl)
   (hs : ∀ x, foldedSetIterable iter X.env x = pure x := by intro _; rfl) : PS X (.Assign [.Name x p'] (.ListComp elt [⟨tg, iter, ifs, 0⟩] scope pos) p) (tAsg (tLC xs js wi g tc te) (gName i)) := by
 intro pins s σ H D I h
 rw [exec_Assign_Name_used _ _ _ _ hsw]
 refine wpAny_bind (wpAny_standAt (wpAny_bind ?_))
 show wpAny _ X.A (do let _ ← comprehension (.ListComp elt [⟨tg, iter, ifs, 0⟩] scope pos) scope X.env _ (newList []) false (eval iter X.env) (some (assign (.Name x p') X.env))) _ _ s
 refine wpAny_bind (wpAny_mono (wpAny_comprehension_free (use := some (assign (.Name x p') X.env)) (Q := fun _ s' => SP X pins D .next s') rfl hs (xW (clos_okz I S)) S.kind S.names ?_) (fun _ s' hq => wpAny_pure (wpAny_pure hq)) fun _ _ e => e)
 refine lc_corez (Q := fun v H' => gName i v σ H' D.nx) (RR := fun acc C => compPost (model X.prog X.w) X.A X.xe (some (assign (.Name x p') X.env)) (fun _ s' => SP X pins D .next s') acc C) hc S hj hi hg hif he I h fun A C H' s' L q => ?_
 show wpAny _ X.A (assign (.Name x p') X.env (.ref A)) _ _ _
 refine wpAny_assign_Name (qJ (v := .ref A) L.inv hN hx (.inl hl) rfl (fun s'' I'' ⟨a, sb, ha⟩ => ?_) (.inr hl))
 have cne : ∀ {b : Addr}, (b = X.env.locals \/ X.env.cells.lookup x = some b) -> C ≠ b := fun z e => by
   rcases z with z | z
   · exact L.ne (e.trans z)
   · exact L.cells x _ z e.symm
 obtain ⟨m, hn⟩ := L.ns
 refine ⟨m, hn.sameBut sb (cne ha), fun h'' hs'' => ⟨_, _, ?_, q⟩⟩
 exact LcEnd.gone ⟨I'', ⟨m, hn.sameBut sb (cne ha)⟩, L.free, L.ne, L.up, L.cells, L.pin⟩ hs''
end
def lzOk (z : Str) (xs ys : List Str) (scope around : Scope) : Bool :=
 (scope.kind == .function) && decide (xs ++ ys).Nodup && (scope.names.lookup z == some .cell) &&
 ys.all (fun y => (scope.names.lookup y == some .free) && ((around.names.lookup y == some .cell) || (around.names.lookup y == some .free))) &&
 scope.names.all (fun y => ((y.2 != .cell) || (y.1 == z)) && ((y.2 != .local) || (scope.names.lookup y.1 == some .local)) && ((y.2 != .free) || ys.contains y.1))
theorem lzOk.scope {z : Str} {xs ys : List Str} {scope around : Scope} (h : lzOk z xs ys scope around = true) (cf : ∀ n cl, cellsFrom n scope.names cl = (z, n) :: cl) (pc : ∀ h, pushCells h scope.names = h.push { cls := .type "cell", data := .cell none }) : LzScope z xs ys scope around := by
 unfold lzOk at h
 simp only [Bool.and_eq_true, beq_iff_eq, decide_eq_true_eq, List.all_eq_true, Bool.or_eq_true, bne_iff_ne, List.contains_iff_mem] at h
 obtain ⟨⟨⟨⟨h1, h2⟩, h3⟩, h4⟩, h5⟩ := h
 exact ⟨h1, h2, h3, h4, fun y hy hl => (h5 y hy).1.1.resolve_left (fun z => z hl), fun y hy hl => (h5 y hy).1.2.resolve_left (fun z => z hl), fun y hy hf => (h5 y hy).2.resolve_left (fun z => z hf), cf, pc⟩
section
variable {X : Cx} {xs ys : List Str} {scope : Scope} {js : List Nat} {tg iter elt : Expr} {ifs : List Expr} {pos : Pos} {wi : TI} {g : TG} {tc : Option TT} {te : TE}
theorem ps_compz {i : Nat} {x : Str} {p' p : Pos} (z : Str) (xs ys : List Str) (js : List Nat) (hN : X.N.Nodup) (hx : X.N[i]? = some x) (hi : PI X tg iter wi)
   (hg : ∀ C s₀ H₀ fp, (xs ++ ys).Nodup -> PG (yV z X xs ys scope C s₀ H₀ fp) tg g) (hif : ∀ C s₀ H₀ fp, PIf (yV z X xs ys scope C s₀ H₀ fp) ifs tc) (he : ∀ C s₀ H₀ fp, PE (yV z X xs ys scope C s₀ H₀ fp) elt te)
   (hl : X.env.scope.names.lookup x = some .local := by rfl) (hc : X.calm = true := by rfl) (S : lzOk z xs ys scope X.env.scope = true := by rfl) (hj : capOk X.N ys js = true := by rfl) (cf : ∀ n cl, cellsFrom n scope.names cl = (z, n) :: cl := by intro _ _; rfl) (pc : ∀ h, pushCells h scope.names = h.push { cls := .type "cell", data := .cell none } := by intro _; rfl)
   (hsw : swapsWith (.ListComp elt [⟨tg, iter, ifs, 0⟩] scope pos) (some (.Name x p')) p.line X.env = pure true := by rfl)
   (hs : ∀ x, foldedSetIterable iter X.env x = pure x := by intro _; rfl) : PS X (.Assign [.Name x p'] (.ListComp elt [⟨tg, iter, ifs, 0⟩] scope pos) p) (tAsg (tLC xs js wi g tc te) (gName i)) :=
 ps_setLCz hN hx hl hc (lzOk.scope S cf pc) (capOk.caps hj) hi (fun C s₀ H₀ fp => hg C s₀ H₀ fp (lzOk.scope S cf pc).nd) hif he hsw hs
end
end L2
set_option maxHeartbeats 4000000
namespace L2
open PySem PySem.Spec PyProof.Rows
theorem ObjOk.there {P : Program} {w : World} {H : Hp} {h : Heap} {a : Addr} {o : HO} (x : ObjOk P w H h a o) : ∃ ob, h.get? a = some ob := by
 cases o with
 | lst xs => obtain ⟨_, _, _, _, e⟩ := x; exact ⟨_, e⟩
 | tup xs => obtain ⟨_, _, _, ob, e, _⟩ := x; exact ⟨_, e⟩
 | dK kvs => obtain ⟨_, _, _, _, o, _, _, e, _⟩ := x; exact ⟨_, e⟩
 | dT kvs => obtain ⟨_, _, _, _, o, _, _, e, _⟩ := x; exact ⟨_, e⟩
 | set S n => obtain ⟨o, _, _, _, e, _⟩ := x; exact ⟨_, e⟩
 | ins C dx fs => obtain ⟨_, _, _, e, _⟩ := x; exact ⟨_, e⟩
 | own y => exact x
 | xd fs => obtain ⟨_, ⟨_, _, _, e, _⟩, _⟩ := x; exact ⟨_, e⟩
 | rng lo hi => obtain ⟨_, _, _, e⟩ := x; exact ⟨_, e⟩
 | frz ob u => obtain ⟨e, _⟩ := x; exact ⟨_, e⟩
 | tbl ps => exact ⟨_, show h.get? a = some _ from x⟩
 | met f y => exact ⟨_, show h.get? a = some _ from x⟩
 | ext φ => obtain ⟨_, e, _⟩ := x; exact e
structure Fl (P : Program) (w : World) (l : List Env) (H : Hp) (h : Heap) (e C : Addr) (a0 : Value) (B : Heap) (H' : Hp) (h' : Heap) : Prop where
 fly : Heap.FlyingW B l e (.ref C) a0 h'
 stay : ∀ b o, h.get? b = some o -> b ∉ frs l -> ∃ o', B.get? b = some o' /\ (H b = none -> o' = o)
 slot : ∀ b o, h.get? b = some o -> H b = none -> b ∈ frs l -> ∃ sl, h'.get? b = some { o with slots := sl }
 free : ∀ b o, h.get? b = some o -> H b = none -> H' b = none
 hok : HOk P w H' B
 ef : H' e = none
 tups : ∀ b xs, H b = some (.tup xs) -> H' b = some (.tup xs)
 frzs : ∀ b o u, H b = some (.frz o u) -> H' b = some (.frz o u)
 tbls : ∀ b ps, H b = some (.tbl ps) -> ∃ more, H' b = some (.tbl (ps ++ more))
section
variable {P : Program} {w : World} {l outer : List Env} {H H' : Hp} {h h' h'' B : Heap} {e C : Addr} {a0 : Value}
theorem Fl.un (x : Fl P w l H h e C a0 B H' h') : Un (frs l) [] H H' h h' where
 keep := fun b o q n hb _ => by
   obtain ⟨o', hB, ho⟩ := x.stay b o q hb
   rw [ho n] at hB
   exact x.fly.1 b o hB
 slot := fun b o q n hb _ => x.slot b o q n hb
 free := fun b o q n _ => x.free b o q n
 there := fun b o q _ => by
   by_cases hb : b ∈ frs l
   · obtain ⟨_, o', ho, _⟩ := x.fly.2.2.1.mem hb
     exact ⟨o', ho⟩
   · obtain ⟨o', hB, _⟩ := x.stay b o q hb
     exact ⟨o', x.fly.1 b o' hB⟩
 tups := x.tups
 frzs := x.frzs
 tbls := x.tbls
theorem Fl.okH (x : Fl P w l H h e C a0 B H' h') : HOk P w H' h' := x.hok.kept x.fly.1
theorem Fl.step (x : Fl P w l H h e C a0 B H' h') (f : Heap.FlyingW B l e (.ref C) a0 h'') (u : h'.UpToSlots h'') : Fl P w l H h e C a0 B H' h'' :=
 ⟨f, x.stay, fun b o q n hb => by
   obtain ⟨sl, h1⟩ := x.slot b o q n hb
   obtain ⟨_, o2, h2, hd⟩ := x.fly.2.2.1.mem hb
   rw [h1] at h2
   cases h2
   obtain ⟨sl2, h4⟩ := u b _ h1 hd
   exact ⟨sl2, h4⟩, x.free, x.hok, x.ef, x.tups, x.frzs, x.tbls⟩
end
def CX1 (P : Program) (w : World) : CXT := fun outer H s E e s' => ∃ (ea C : Addr) (a0 : Value) (B : Heap) (H' : Hp), e = .ref ea /\ s'.os = s.os /\ AllBare s'.gens /\ Fl P w outer H s.heap ea C a0 B H' s'.heap /\ E (.ref C) none H'
structure Body (X : Cx) : Prop where
 stk : X.stack = X.env :: X.outer
 ex : X.ex = []
 fr : X.env.frame = some X.env.locals
 new : X.s₀.heap.get? X.env.locals = none
section
variable {X : Cx} {pins : List (Addr × Obj)} {σ : St} {H Hc H' : Hp} {s sc s' : Shared} {B h'' : Heap} {e C : Addr} {a0 : Value}
theorem Body.frs (b : Body X) : frs X.stack = X.env.locals :: L2.frs X.outer := by
 rw [b.stk]
 show (X.env :: X.outer).filterMap (·.frame) = _
 rw [List.filterMap_cons, b.fr]
 rfl
theorem Fl.up (b : Body X) (I : Inv X pins σ Hc sc) (x : Fl X.prog X.w X.stack Hc sc.heap e C a0 B H' s'.heap) (f : Heap.FlyingW B X.outer e (.ref C) a0 h'') (u : s'.heap.UpToSlots h'') :
   Fl X.prog X.w X.outer X.H₀ X.s₀.heap e C a0 B H' h'' := by
 have nex : ∀ c : Addr, c ∉ X.ex := fun c z => by rw [b.ex] at z; cases z
 have nL : ∀ c o, X.s₀.heap.get? c = some o -> c ≠ X.env.locals := fun c o hc z => by rw [z, b.new] at hc; cases hc
 refine ⟨f, fun c o hc hn => ?_, fun c o hc hH hn => ?_, fun c o hc hH => ?_, x.hok, x.ef, fun c xs q => x.tups _ _ (I.base.tups _ _ q), fun c o v q => x.frzs _ _ _ (I.base.frzs _ _ _ q), fun c ps q => ?_⟩
 · obtain ⟨o1, h1⟩ := I.base.there c o hc (nex c)
   obtain ⟨o', hB, ho⟩ := x.stay c o1 h1 (by rw [b.frs]; exact fun z => (List.mem_cons.mp z).elim (nL c o hc) hn)
   refine ⟨o', hB, fun hH => ?_⟩
   have h2 := I.base.keep c o hc hH hn (nex c)
   rw [h1] at h2
   cases h2
   exact ho (I.base.free c o hc hH (nex c))
 · obtain ⟨sl, h1⟩ := I.base.slot c o hc hH hn (nex c)
   have hm : c ∈ L2.frs X.stack := by rw [b.frs]; exact List.mem_cons_of_mem _ hn
   obtain ⟨sl2, h2⟩ := x.slot c _ h1 (I.base.free c o hc hH (nex c)) hm
   obtain ⟨_, o2, h3, hd⟩ := x.fly.2.2.1.mem hm
   rw [h2] at h3
   cases h3
   obtain ⟨sl3, h4⟩ := u c _ h2 hd
   exact ⟨sl3, h4⟩
 · obtain ⟨o1, h1⟩ := I.base.there c o hc (nex c)
   exact x.free c o1 h1 (I.base.free c o hc hH (nex c))
 · obtain ⟨m1, e1⟩ := I.base.tbls _ _ q
   obtain ⟨m2, e2⟩ := x.tbls _ _ e1
   exact ⟨m1 ++ m2, by rw [e2, Array.append_assoc]⟩
theorem Fl.made (b : Body X) (I : Inv X pins σ H s) {vs : List Value} {t : Addr} (hx : Heap.MadeExcOf s.heap s'.heap e (.ref C) vs)
   (f : Heap.FlyingW (PySem.W.hideAll s.heap (L2.frs X.stack)) X.outer e (.ref C) (.ref t) h'') (u : s'.heap.UpToSlots h'') :
   Fl X.prog X.w X.outer X.H₀ X.s₀.heap e C (.ref t) (PySem.W.hideAll s.heap (L2.frs X.stack)) H h'' := by
 have nex : ∀ c : Addr, c ∉ X.ex := fun c z => by rw [b.ex] at z; cases z
 have nL : ∀ c o, X.s₀.heap.get? c = some o -> c ≠ X.env.locals := fun c o hc z => by rw [z, b.new] at hc; cases hc
 have ok : HOk X.prog X.w H (PySem.W.hideAll s.heap (L2.frs X.stack)) := fun a o ha => by
   refine (I.hok a o ha).stay (fun c v hc q => PySem.W.hideAll_get _ q fun z => ?_) (fun _ q => q) (fun _ _ q => q)
   have hz := I.stkFree c z
   rcases hc with rfl | hc
   · rw [ha] at hz; cases hz
   · rw [hc] at hz; cases hz
 refine ⟨f, fun c o hc hn => ?_, fun c o hc hH hn => ?_, fun c o hc hH => I.base.free c o hc hH (nex c), ok, ?_, I.base.tups, I.base.frzs, I.base.tbls⟩
 · obtain ⟨o1, h1⟩ := I.base.there c o hc (nex c)
   refine ⟨o1, PySem.W.hideAll_get _ h1 (by rw [b.frs]; exact fun z => (List.mem_cons.mp z).elim (nL c o hc) hn), fun hH => ?_⟩
   have h2 := I.base.keep c o hc hH hn (nex c)
   rw [h1] at h2
   cases h2
   rfl
 · obtain ⟨sl, h1⟩ := I.base.slot c o hc hH hn (nex c)
   have hm : c ∈ L2.frs X.stack := by rw [b.frs]; exact List.mem_cons_of_mem _ hn
   obtain ⟨_, o2, h3, hd⟩ := I.stack.mem hm
   rw [h1] at h3
   cases h3
   obtain ⟨sl3, h4⟩ := u c _ (hx.keeps c _ h1) hd
   exact ⟨sl3, h4⟩
 · cases q : H e with
   | none => rfl
   | some o =>
     obtain ⟨o', ho⟩ := (I.hok e o q).there
     rw [hx.new] at ho
     cases ho
end
section
variable {P : Program} {w : World} {K : PySem.W.Frag} {mg : Str -> Option Value} {base : Heap} {N : List Str} {qual : Str} {scope : Scope} {f : Addr} {cd : Value} {A : Around} {outer : List Env} {s₀ : Shared} {H₀ : Hp} {E : XK}
theorem body_cx {CX : CXT} : Body (jB CX P w K mg base N qual scope f cd A outer s₀ H₀ E) := ⟨rfl, rfl, rfl, Heap.get?_none_of_le (Nat.le_refl _)⟩
def tRaise (C : Addr) (E : XK) (t : TA) : TS := fun _ σ H => t σ H fun vs H1 => vs.length <= sizeLine /\ E (.ref C) none H1
theorem ps_raise {x : Str} {C : Addr} {bm : List Value} {B newId initId : String} {e₀ : Expr} {rest : List Expr} {t : TA} {np cpos pos : Pos}
   (O : OwnCls x C bm newId mg base) (FB : ExcBaseFacts B newId initId bm) (hg : Gl (jB (CX1 P w) P w K mg base N qual scope f cd A outer s₀ H₀ E) x) (hm : mg x = some (.ref C))
   (ha : PA (jB (CX1 P w) P w K mg base N qual scope f cd A outer s₀ H₀ E) (e₀ :: rest) t)
   (he : starEach (e₀ :: rest) (envOfC qual scope s₀.heap.objs.size f cd) = (false, eval e₀ (envOfC qual scope s₀.heap.objs.size f cd)) :: starEach rest (envOfC qual scope s₀.heap.objs.size f cd) := by rfl)
   (hpl : (backTo cpos (starEach rest (envOfC qual scope s₀.heap.objs.size f cd))).any (·.1) = false := by rfl) (hd : (x == ("__debug__" : Str)) = false := by decide) :
   PS (jB (CX1 P w) P w K mg base N qual scope f cd A outer s₀ H₀ E) (.Raise (some (.Call (.Name x np) (e₀ :: rest) [] cpos)) none pos) (tRaise C E t) := by
 intro pins s σ H D I h
 obtain ⟨tl, N', nm, q, bs, hdct, sn, sub, ab, col, dd, k0, k1, k2, k3, k5, mN, hC, hN, hni, T⟩ := O.obj
 refine wpAny_Raise_call_subT (C := C) (nm := nm) (q := q) (N := N') (bs := bs) (bm := tl) (hdct := hdct) (sn := sn) (sub := sub) (ab := ab) (col := col) (dd := dd) (k0 := k0) (k1 := k1) (k2 := k2)
   (k3 := k3) (k5 := k5) FB (mN := mN) (T.hasType FB.hasBase) (I.ok.hd rfl) ?_ hni (jO I hg hm ⟨rfl, ?_⟩ hd)
 · show (backTo cpos (starEach (e₀ :: rest) (envOfC qual scope s₀.heap.objs.size f cd))).any (·.1) = false
   rw [he]
   show (false || (backTo cpos (starEach rest (envOfC qual scope s₀.heap.objs.size f cd))).any (·.1)) = false
   rw [hpl]
   rfl
 have hA : wpAny (model P w) (A.deeper (envOfC qual scope s₀.heap.objs.size f cd)) (spliced (backTo cpos (starEach (e₀ :: rest) (envOfC qual scope s₀.heap.objs.size f cd)))) _ _ s := ha cpos pins s σ H _ I h
 show wpAny (model P w) (A.deeper (envOfC qual scope s₀.heap.objs.size f cd)) (evalArgs (.ref C) true (backTo cpos (starEach (e₀ :: rest) (envOfC qual scope s₀.heap.objs.size f cd))) []) _ _ s
 rw [he] at hA ⊢
 refine Calls.evalArgs_plain (wpAny_mono hA (fun us s2 z => ?_) fun _ _ y => y)
 obtain ⟨vs, H1, I1, r, hl, hE⟩ := z
 refine ⟨rfl, by rw [← r.length]; exact hl, I1.bk _ _ hC, hN.keeps I1.bk, T.keeps I1.bk, fun h' e hm => ?_⟩
 refine wpAny_leaves_madeW (base := PySem.W.hideAll s2.heap (frs (envOfC qual scope s₀.heap.objs.size f cd :: outer))) (h := s2.heap) I1.ok.frames rfl (fun b o q => PySem.W.of_hideAll _ q)
   (PySem.W.funFrames_hide I1.stack fun env he b hb => List.mem_filterMap.mpr ⟨env, he, hb⟩) hm fun h2 t f1 _ _ u1 => ?_
 exact ⟨e, C, .ref t, _, H1, rfl, I1.os, I1.bare, Fl.made (s' := { s2 with heap := h' }) body_cx I1 hm f1 u1, hE⟩
theorem passX : jY (CX1 P w) (jB (CX1 P w) P w K mg base N qual scope f cd A outer s₀ H₀ E) E := fun pins σ H s e s' I h => by
 obtain ⟨ea, C, a0, B, H', rfl, os, bare, x, q⟩ := h
 exact wpAny_leaves_onW I.ok.frames rfl x.fly fun h2 f1 u1 => ⟨ea, C, a0, B, H', rfl, os.trans I.os, bare, Fl.up (s' := s') body_cx I x f1 u1, q⟩
end
section
variable {P : Program} {w : World} {K : PySem.W.Frag} {mg : Str -> Option Value} {base : Heap}
theorem Fun.okX {x qual : Str} {st : Stmt} {f : Addr} {fd : FuncData} {N ps : List Str} {k : Nat} {sp : Sp} (F : Fun K x qual st f fd) (S : FnScope N ps (zG st)) (len : ∀ vs H Q E, sp vs H Q E -> vs.length = ps.length)
   (hbody : ∀ (cdv : Value) (A : Around) (outer : List Env) (s : Shared) (H : Hp) (vs : List V) (Q : VK) (E : XK), Room k (A.deeper (envOfC qual (zG st) s.heap.objs.size f cdv)) -> sp vs H Q E ->
     ∃ t, PSs (jB (CX1 P w) P w K mg base N qual (zG st) f cdv A outer s H E) (zT st) t /\ t { nx := fun _ H' => Q .non H', rt := Q } (start N vs) H) : FnOk P w K mg base (CX1 P w) (k + 1) f fd ps sp := by
 obtain ⟨oc, od, kV, doc, pm, an, cdv, ct, osl, rfl, lk, hcd⟩ := F.ex
 exact fn_of lk hcd S len fun A outer s H vs Q E hr hsp => hbody cdv A outer s H vs Q E hr hsp
structure HasX (P : Program) (w : World) (K : PySem.W.Frag) (mg : Str -> Option Value) (base : Heap) (k : Nat) (x : Str) (ps : List Str) (sp : Sp) : Prop where
 ex : ∃ f fd, FnOk P w K mg base (CX1 P w) k f fd ps sp /\ Binds K fd ps [] /\ PySem.W.keepIn K (.ref f) = true /\ mg x = some (.ref f)
theorem uE {x qual : Str} {st : Stmt} {f : Addr} {fd : FuncData} {k : Nat} {ps : List Str} {sp : Sp} (F : Fun K x qual st f fd) (h : FnOk P w K mg base (CX1 P w) k f fd ps sp) (b : Binds K fd ps []) (m : mg x = some (.ref f)) : HasX P w K mg base k x ps sp := ⟨f, fd, h, b, F.kp, m⟩
end
theorem uQ {P : Program} {w : World} {K : PySem.W.Frag} {mg : Str -> Option Value} {base : Heap} {N : List Str} {qual : Str} {scope : Scope} {f : Addr} {cd : Value} {A : Around} {outer : List Env} {s₀ : Shared} {H₀ : Hp} {E : XK}
   {k : Nat} {x : Str} {ps : List Str} {sp : Sp} {e : Expr} {es : List Expr} {t : TA} {p pos : Pos} (h : HasX P w K mg base k x ps sp) (hr : Room k (A.deeper (envOfC qual scope s₀.heap.objs.size f cd)))
   (hg : Gl (jB (CX1 P w) P w K mg base N qual scope f cd A outer s₀ H₀ E) x) (ha : PA (jB (CX1 P w) P w K mg base N qual scope f cd A outer s₀ H₀ E) (e :: es) t) (hdb : (x == ("__debug__" : Str)) = false := by decide)
   (he : starEach (e :: es) (envOfC qual scope s₀.heap.objs.size f cd) = (false, eval e (envOfC qual scope s₀.heap.objs.size f cd)) :: starEach es (envOfC qual scope s₀.heap.objs.size f cd) := by rfl)
   (hpl : (backTo pos (starEach es (envOfC qual scope s₀.heap.objs.size f cd))).any (·.1) = false := by rfl) :
   PE (jB (CX1 P w) P w K mg base N qual scope f cd A outer s₀ H₀ E) (.Call (.Name x p) (e :: es) [] pos) (tCall sp [] E t) := by
 obtain ⟨f', fd, F, b, kp, m⟩ := h.ex
 exact pe_call F hr hg m kp b .nil passX ha hdb he hpl
abbrev TX := (St -> Hp -> Prop) -> (Addr -> Hp -> Prop) -> St -> Hp -> Prop
def XP (X : Cx) (pins : List (Addr × Obj)) (σ : St) (Qx : Addr -> Hp -> Prop) (e : Value) (s' : Shared) : Prop :=
 ∃ (Hc : Hp) (sc : Shared) (ea C : Addr) (a0 : Value) (B : Heap) (H' : Hp), e = .ref ea /\ Inv X pins σ Hc sc /\ s'.os = sc.os /\ AllBare s'.gens /\ Fl X.prog X.w X.stack Hc sc.heap ea C a0 B H' s'.heap /\ Qx C H'
def PX (X : Cx) (st : List Stmt) (t : TX) : Prop :=
 ∀ (pins : List (Addr × Obj)) (s : Shared) (σ : St) (H : Hp) (Qn : St -> Hp -> Prop) (Qx : Addr -> Hp -> Prop), Inv X pins σ H s -> t Qn Qx σ H ->
   wpAny (model X.prog X.w) X.A (execs st X.env) (fun f s1 => f = .next /\ ∃ σ' H', Inv X pins σ' H' s1 /\ Qn σ' H') (XP X pins σ Qx) s
section
variable {X : Cx} {k : Nat} {f : Addr} {fd : FuncData} {ps : List Str} {sp : Sp} {x y : Str} {i : Nat} {p pos pos' pos2 : Pos} {e : Expr} {es : List Expr} {t : TA}
def tXSet (i : Nat) (sp : Sp) (t : TA) : TX := fun Qn Qx σ H => t σ H fun vs H1 => sp vs H1 (fun v H2 => Qn (σ.set i (some v)) H2) fun c _ H2 => ∃ C, c = .ref C /\ Qx C H2
theorem px_set (hxe : X.xe = fun _ _ => False) (h : HasX X.prog X.w X.K X.mg X.base k x ps sp) (hr : Room k X.A) (hg : Gl X x) (hN : X.N.Nodup) (hi : X.N[i]? = some y) (hy : Loc X.env.scope y) (ha : PA X (e :: es) t)
   (hs : swapsWith (.Call (.Name x p) (e :: es) [] pos) (some (.Name y pos')) pos2.line X.env = pure false := by rfl) (hf : X.fn y = true \/ X.env.scope.names.lookup y = some .local := by first | exact .inl rfl | exact .inr rfl | assumption)
   (hdb : (x == ("__debug__" : Str)) = false := by decide)
   (he : starEach (e :: es) X.env = (false, eval e X.env) :: starEach es X.env := by rfl) (hpl : (backTo pos (starEach es X.env)).any (·.1) = false := by rfl) :
   PX X [.Assign [.Name y pos'] (.Call (.Name x p) (e :: es) [] pos) pos2] (tXSet i sp t) := by
 intro pins s σ H Qn Qx I hq
 obtain ⟨f, fd, F, hb, hk, hm⟩ := h.ex
 have hA := ha pos pins s σ H _ I hq
 rw [hxe] at hA
 refine wpAny_execs_cons (wpAny_mono (Q := fun fl s1 => fl = .next /\ ∃ σ' H', Inv X pins σ' H' s1 /\ Qn σ' H') ?_ (fun fl s1 z => ?_) fun _ _ z => z)
 · refine wpAny_Assign_Name (wpAny_mono (Q := EP X pins σ fun v H2 => Qn (σ.set i (some v)) H2) ?_ (fun v s1 z => ?_) fun _ _ z => z) hs
   · refine wpAny_Call_Name_kw (jO I hg hm ?_ hdb)
     refine PySem.W.callWith_K (h₀ := X.base) I.ok.mod.kin hk (wpAny_mono hA (fun us s1 z => ?_) fun _ _ z => z.elim) he hpl
     obtain ⟨vs, H1, I1, r, q⟩ := z
     refine ⟨I1.kIn, ?_⟩
     have hl : us.length = ps.length := by rw [← r.length]; exact F.len _ _ _ _ q
     have hb2 := hb s1 us I1.kIn (by rw [List.append_nil]; exact hl)
     rw [List.append_nil] at hb2
     refine wpAny_call (codeAny_mono (F.run X.A X.stack s1 H1 ⟨us, []⟩ us vs _ _ hr I1.env0 hb2 r q) fun rr s2 z => ?_)
     cases rr with
     | error ev =>
       obtain ⟨ea, C, a0, B, H', rfl, os, bare, fl, C', eC, qx⟩ := z
       cases eC
       exact ⟨H1, s1, ea, C, a0, B, H', rfl, I1, os, bare, fl, qx⟩
     | ok fl =>
       cases fl with
       | ret u => exact I1.after z
       | next => exact False.elim z
       | brk => exact False.elim z
       | cont => exact False.elim z
   · obtain ⟨v', H1, I1, r1, q1⟩ := z
     exact jL I1 hN hi hy r1 (fun s2 I2 => ⟨rfl, _, H1, I2, q1⟩) hf
 · obtain ⟨rfl, z⟩ := z
   exact wpAny_execs_nil ⟨rfl, z⟩
end
def xO (e C : Addr) : HO := .ext fun h => ∃ o vs, h.get? e = some o /\ o.cls = .ref C /\ o.data = .fields vs
abbrev Cx.held (X : Cx) (e : Addr) : Cx := { X with A := X.A.mark (some (.ref e)), calm := false }
section
variable {X : Cx} {pins : List (Addr × Obj)} {σ : St} {H : Hp} {s : Shared}
theorem Inv.held (I : Inv X pins σ H s) (e : Addr) : Inv (X.held e) pins σ H s :=
 ⟨⟨I.ok.mod, I.ok.kind, I.ok.glob, I.ok.blt, I.ok.above, I.ok.inj, I.ok.has, I.ok.cab, (fun z => nomatch z), I.ok.frames, I.ok.stk, I.ok.exf, I.ok.bs, I.ok.bsz, I.ok.noex, I.ok.exfs, I.ok.funs, I.ok.frf⟩, I.os, I.bare, I.base, I.loc, I.cell, I.free, I.freeC, I.pin, I.hok, I.len⟩
theorem Inv.unheld {e : Addr} (ok : X.Ok) (I : Inv (X.held e) pins σ H s) : Inv X pins σ H s := ⟨ok, I.os, I.bare, I.base, I.loc, I.cell, I.free, I.freeC, I.pin, I.hok, I.len⟩
theorem Inv.gone {i : Nat} {x : Str} {M : Model} {A : Around} {E : Value -> Shared -> Prop} {pos : Pos} {Q : Unit -> Shared -> Prop} (I : Inv X pins σ H s) (hN : X.N.Nodup) (hi : X.N[i]? = some x) (hk : X.env.scope.names.lookup x = some .local)
   (h : ∀ s', Inv X pins (σ.set i none) H s' -> Q () s') : wpAny M A (do bindName X.env x .none; unbindBehindTheSuite X.env x pos) Q E s := by
 obtain ⟨m, hn, hl⟩ := id I.loc
 have hcls : (X.env.scope.kind == .class || (X.env.scope.kind == .module && X.env.locals != X.env.globals)) = false := by rw [I.ok.kind]; rfl
 have hiσ : i < σ.length := by rw [I.len]; exact (List.getElem?_eq_some_iff.mp hi).1
 have cne := I.cne
 have neL : ∀ b o, X.s₀.heap.get? b = some o -> b ≠ X.env.locals := fun b o e => Nat.ne_of_lt (Nat.lt_of_lt_of_le (Heap.lt_size e) I.ok.above)
 refine wpAny_nameGoes_keeps hk hn hcls fun h' v hn' hs => ?_
 have ok : HOk X.prog X.w H h' := fun b ob e => by
   refine (I.hok b ob e).stay (fun c w' hc q => (hs.2 c ?_).trans q) (fun _ q => q) fun _ _ q => q
   rintro rfl
   have := I.free
   rcases hc with rfl | hc
   · rw [this] at e; cases e
   · rw [this] at hc; cases hc
 refine h _ ⟨I.ok, I.os, I.bare, ⟨fun b o e n hb hx => (hs.2 b (neL b o e)).trans (I.base.keep b o e n hb hx), fun b o e n hb hx => ?_, I.base.free, fun b o e hx => ?_, I.base.tups, I.base.frzs, I.base.tbls⟩, ⟨_, hn', fun j y v' e1 e2 e3 => ?_⟩, fun y c e => ?_, I.free, I.freeC, fun p hp => ?_, ok, by simpa using I.len⟩
 · obtain ⟨sl, e1⟩ := I.base.slot b o e n hb hx
   exact ⟨sl, (hs.2 b (neL b o e)).trans e1⟩
 · obtain ⟨o', e1⟩ := I.base.there b o e hx
   exact ⟨o', (hs.2 b (neL b o e)).trans e1⟩
 · by_cases hj : j = i
   · subst hj
     rw [List.getElem?_set_self hiσ] at e2
     cases e2
   · rw [List.getElem?_set_ne (Ne.symm hj)] at e2
     obtain ⟨u', r', q⟩ := hl j y v' e1 e2 e3
     refine ⟨u', r', ?_⟩
     rcases q with ⟨k, e⟩ | ⟨k, c, e, z⟩
     · refine .inl ⟨k, ?_⟩
       have : y ≠ x := fun e => hj (uT hN e1 (e ▸ hi))
       simp [this, e]
     · exact .inr ⟨k, c, e, z.sameBut hs (cne y c e)⟩
 · obtain ⟨w', z⟩ := I.cell y c e
   exact ⟨w', z.sameBut hs (cne y c e)⟩
 · obtain ⟨e, n, ne, nf, d⟩ := I.pin p hp
   exact ⟨(hs.2 p.1 ne).trans e, n, ne, nf, d⟩
end
def xSub (K : PySem.W.Frag) (C : Addr) (v : Value) : Option Bool :=
 if PySem.W.ktsIn K C "BaseException" = true then
   match K.lookup C with
   | some ⟨_, _, .cls k, _⟩ => some (k.mro.contains v)
   | _ => none
 else none
theorem xSub_of {K : PySem.W.Frag} {h : Heap} {C : Addr} {v : Value} {b : Bool} (X : K.In h) (q : xSub K C v = some b) : ∃ nm qn N bs bm hdct sn sub ab col dd k0 k1 k2 k3 k5 newId,
   h.get? C = some (excClassObj nm qn C N bs bm hdct sn sub ab col dd k0 k1 k2 k3 k5 newId) /\ bm.contains (.type "BaseException") = true /\ (Value.ref C :: bm).contains v = b := by
 unfold xSub at q
 split at q
 · rename_i hk
   obtain ⟨nm, qn, N, bs, bm, hdct, sn, sub, ab, col, dd, k0, k1, k2, k3, k5, newId, hC, hB, _⟩ := PySem.W.kts_cls X hk
   refine ⟨nm, qn, N, bs, bm, hdct, sn, sub, ab, col, dd, k0, k1, k2, k3, k5, newId, hC, hB, ?_⟩
   split at q
   · rename_i ho
     have z := (X _ _ ho).symm.trans hC
     simp only [Option.some.injEq, Obj.mk.injEq, Data.cls.injEq] at z
     obtain ⟨_, _, rfl, _⟩ := z
     exact Option.some.inj q
   · cases q
 · cases q
section
variable {M : Model} {A : Around} {E : Value -> Shared -> Prop}
variable {nm q nm' q' : Str} {C N D N' : Addr} {bs bm bs' bm' : List Value} {hdct hdct' : Bool} {sn sn' : List Str} {sub sub' : List Value} {ab ab' : Bool} {col col' : Option Bool} {dd dd' : Option Addr} {k0 k1 k2 k3 k5 j0 j1 j2 j3 j5 : Option Value} {newId newId' : String}
theorem match_own {h : Heap} {g : Array GenState} {d : Drawn} {t : Nat} {os : OsState} {e : Addr} {oe : Obj} {Q : Bool -> Shared -> Prop} {b : Bool}
   (hC : h.get? C = some (excClassObj nm q C N bs bm hdct sn sub ab col dd k0 k1 k2 k3 k5 newId)) (hD : h.get? D = some (excClassObj nm' q' D N' bs' bm' hdct' sn' sub' ab' col' dd' j0 j1 j2 j3 j5 newId'))
   (he : h.get? e = some oe) (hcls : oe.cls = .ref C) (hbase : bm'.contains (.type "BaseException") = true) (hb : (Value.ref C :: bm).contains (.ref D) = b) (hq : Q b ⟨h, g, d, t, os⟩) :
   wpAny M A (excMatches (.ref e) (.ref D)) Q E ⟨h, g, d, t, os⟩ := by
 have hDB : (Value.ref D :: bm').contains (.type "BaseException") = true := by rw [List.contains_cons, hbase, Bool.or_true]
 have fT := tc_notTuple
 unfold excMatches
 repeat (first
   | (with_reducible refine wpAny_loadPart_at he ?_
      rw [hcls])
   | with_reducible refine wpAny_loadPart_at hD ?_
   | (with_reducible refine wpAny_isSubtype_exc hD ?_
      rw [hDB])
   | (with_reducible refine wpAny_isSubtype_exc hC ?_
      rw [hb])
   | wp_step)
 cases b <;> (wp_walk; exact hq)
end
theorem own_mk {K : PySem.W.Frag} {h : Heap} {mg : Str -> Option Value} {x : Str} {C : Addr} {bmB : List Value} {newId : String} (X : K.In h) (hm : mg x = some (.ref C)) (q : PySem.W.excIn K C bmB newId = true) : OwnCls x C bmB newId mg h := by
 refine ⟨hm, ?_⟩
 unfold PySem.W.excIn at q
 split at q
 rotate_left
 · cases q
 rename_i dict klass slots look
 split at q
 rotate_left
 · cases q
 rename_i C2 tail a0 a1 a2 a3 nid a5 em es
 simp only [beq_iff_eq, Bool.and_eq_true, Bool.not_eq_true'] at q
 obtain ⟨⟨⟨⟨⟨e1, e2⟩, e3⟩, e4⟩, e5⟩, e6⟩ := q
 subst e1 e2
 obtain ⟨nm, bs, mro, ns, qn, hd, sn, sub, ab, col, del⟩ := klass
 obtain ⟨l⟩ := slots
 dsimp only at em es e3 e5 e6
 subst em e3 es
 exact ⟨tail, ns, nm, qn, bs, hd, sn, sub, ab, col, dict, a0, a1, a2, a3, a5, _, X _ _ look, .of_isNs (PySem.W.isNs_of_in X e5),
   PySem.W.nsMap_none_of_in X e5 e6, PySem.W.tail_of_in X e4⟩
section
variable {X : Cx} {i : Nat} {y n : Str} {D₀ : Addr} {bD : Bool} {tb : TX} {th : TS} {body suite : List Stmt} {b₀ : Stmt} {np hpos pos : Pos}
def tTry (i : Nat) (cat : Addr -> Prop) (tb : TX) (th : TS) : TS := fun D σ H => tb D.nx (fun C H' => cat C /\ ∀ ea, H' ea = none ->
 th { nx := fun σ' H2 => D.nx (σ'.set i none) H2, rt := fun _ _ => False } (σ.set i (some (.ref ea))) (upd H' ea (xO ea C))) σ H
theorem ps_try (B : Body X) (hN : X.N.Nodup) (hi : X.N[i]? = some n) (hn : X.env.scope.names.lookup n = some .local) (hg : Gl X y) (hm : X.mg y = some (.ref D₀)) (hD : xSub X.K D₀ (.type "BaseException") = some bD)
   (hxe : X.xe = fun _ _ => False) (hb : PX X body tb) (hh : ∀ ea, PSs (X.held ea) (b₀ :: suite) th) (hd : (y == ("__debug__" : Str)) = false := by decide) :
   PS X (.Try body [.ExceptHandler (some (.Name y np)) (some n) (b₀ :: suite) hpos] [] [] pos) (tTry i (fun C => xSub X.K C (.ref D₀) = some true) tb th) := by
 intro pins s σ H D I h
 refine wpAny_Try_except (wpAny_mono (hb pins s σ H _ _ I h) (fun f s1 z => ?_) fun e s1 z => ?_)
 · obtain ⟨rfl, σ', H', I', q⟩ := z
   exact wpAny_execs_nil ⟨σ', H', I', q⟩
 obtain ⟨Hc, sc, ea, C, a0, Bs, H', rfl, Ic, os, bare, x, hcat, q⟩ := z
 have hfr : X.A.frames = some (X.env :: X.outer) := by rw [← B.stk]; exact I.ok.frames
 have hfl : Heap.FlyingW Bs (X.env :: X.outer) ea (.ref C) a0 s1.heap := by rw [← B.stk]; exact x.fly
 refine wpAny_looks_onW hfr B.fr hfl fun h4 held4 u4 => ?_
 refine wpAny_landsW held4 fun h5 fl5 u5 => ?_
 have x5 : Fl X.prog X.w X.stack Hc sc.heap ea C a0 Bs H' h5 := x.step (by rw [B.stk]; exact fl5) (u4.trans u5)
 have I5 : Inv X pins σ H' { s1 with heap := h5 } := Ic.call' (s' := { s1 with heap := h5 }) (ch := []) os x5.un x5.okH bare (fun b z => by cases z)
 refine wpAny_handleBy_cons (codeAny_handlers_test (jO (I5.held ea) hg hm ?_ hd)) (by intro q; cases q)
 obtain ⟨nm, qn, N, bs, bm, hdct, sn, sub, ab, col, dd, k0, k1, k2, k3, k5, newId, hC, hCB, hCc⟩ := xSub_of I5.kIn hcat
 obtain ⟨nm', qn', N', bs', bm', hdct', sn', sub', ab', col', dd', j0, j1, j2, j3, j5, newId', hD', hDB, _⟩ := xSub_of I5.kIn hD
 obtain ⟨ob, hob, hobc⟩ := x5.fly.there
 refine match_own hC hD' hob hobc hDB hCc ?_
 refine codeAny_handlers_suite_as (lands_againW fl5 fun h6 fl6 u6 => ?_)
 have x6 : Fl X.prog X.w X.stack Hc sc.heap ea C a0 Bs H' h6 := x5.step (by rw [B.stk]; exact fl6) u6
 have hsc : sc.heap.get? ea = none := by
   cases hq : sc.heap.get? ea with
   | none => rfl
   | some o =>
     by_cases hfm : ea ∈ frs X.stack
     · obtain ⟨_, o2, h2, hd2⟩ := x6.fly.2.2.1.mem hfm
       obtain ⟨oe, vs, _, _, _, h3, _, h4, _⟩ := x6.fly.2.2.2
       rw [h2] at h3
       cases h3
       exact absurd h4 (hd2 vs)
     · obtain ⟨o', hB, _⟩ := x6.stay ea o hq hfm
       rw [x6.fly.2.1] at hB
       cases hB
 have hup : ∀ b, b ≠ ea -> upd H' ea (xO ea C) b = H' b := fun b hb => zQ hb
 have ok6 : HOk X.prog X.w (upd H' ea (xO ea C)) h6 := fun b ob e => by
   by_cases hb : b = ea
   · subst hb
     rw [zB] at e
     cases e
     obtain ⟨oe, vs, _, _, _, h3, hc3, h4, _⟩ := x6.fly.2.2.2
     exact ⟨⟨oe, vs, h3, hc3.1, h4⟩, ⟨oe, h3⟩, fun h1 h2 ⟨o, vs, z1, z2⟩ k => ⟨o, vs, k _ z1, z2⟩⟩
   · rw [zQ hb] at e
     refine (x6.okH b ob e).stay (fun c v hc q => q) (fun c q => ?_) (fun c xs q => ?_)
     · rw [zQ (fun z => by rw [z, x6.ef] at q; cases q)]; exact q
     · rw [zQ (fun z => by rw [z, x6.ef] at q; cases q)]; exact q
 have un6 : Un (frs X.stack) [] Hc (upd H' ea (xO ea C)) sc.heap h6 := by
   have u := x6.un
   have nh : ∀ {c o}, H' c = some o -> c ≠ ea := fun {c o} q z => by rw [z, x6.ef] at q; cases q
   refine ⟨u.keep, u.slot, fun b o e hn hx => ?_, u.there, fun b xs e => ?_, fun b o v e => ?_, fun b ps e => ?_⟩
   · rw [zQ (fun z => by rw [z, hsc] at e; cases e)]
     exact u.free b o e hn hx
   · have := u.tups b xs e
     rw [zQ (nh this)]; exact this
   · have := u.frzs b o v e
     rw [zQ (nh this)]; exact this
   · obtain ⟨more, this⟩ := u.tbls b ps e
     exact ⟨more, by rw [zQ (nh this)]; exact this⟩
 have I6 : Inv X pins σ (upd H' ea (xO ea C)) { s1 with heap := h6 } := Ic.call' (s' := { s1 with heap := h6 }) (ch := []) os un6 ok6 bare (fun b z => by cases z)
 refine jL (X := X.held ea) (v := .ref ea) (u := .ref ea) (I6.held ea) hN hi (.inl hn) rfl (fun s7 I7 => ?_) (.inr hn)
 have hS := hh ea pins s7 _ _ _ I7 (q ea x6.ef)
 have hxe2 : (X.held ea).xe = fun _ _ => False := hxe
 rw [hxe2] at hS
 refine wpAny_mono hS (fun f s8 z => ?_) fun _ _ z => z.elim
 cases f with
 | next =>
   obtain ⟨σ8, H8, I8, q8⟩ := z
   exact (I8.unheld I.ok).gone hN hi hn fun s9 I9 => ⟨_, _, I9, q8⟩
 | brk => obtain ⟨_, _, _, z⟩ := z; exact z.elim
 | cont => obtain ⟨_, _, _, z⟩ := z; exact z.elim
 | ret u => obtain ⟨_, _, _, _, _, z⟩ := z; exact z.elim
end
end L2
set_option maxHeartbeats 1000000
namespace L2
open PySem PySem.Spec PyProof.Rows
structure XCls (K : PySem.W.Frag) (C : Addr) : Prop where
 cls : (PySem.W.clsIn K C).isSome = true
 ga : PySem.W.findIn K (.ref C) "__getattribute__" = some (some (.builtin "BaseException.__getattribute__"))
 hk : PySem.W.findIn K (.ref C) "__getattr__" = some none
 kl : PySem.W.findIn K (.ref C) "__class__" = some (some (.builtin "object.__class__"))
 sp : PySem.W.specialIn K (.builtin "object.__class__") "__get__" = some (some (.builtin "getset_descriptor.__get__"))
 tk : PySem.W.takesIn K (.builtin "object.__class__") = some true
 mo : PySem.W.mroIn K C (.type "object") = some true
 mb : PySem.W.mroIn K C (.type "BaseException") = some true
section
open Builtin Builtin.Getset_descriptor
variable {prog : Program} {w : World} {A : Around} {E : Value -> Shared -> Prop} {s : Shared} {K : PySem.W.Frag} {x C : Addr} {ox : Obj}
theorem looks_xfind {M : Model} {h : Heap} (X : K.In h) (c : XCls K C) : PySem.W.Looks M h (Builtin.ObjectAttr.find (.ref x) (.ref C) "__class__") (.bind (.builtin "getset_descriptor.__get__") (.builtin "object.__class__")) := by
 refine (PySem.W.looks_findIn X c.kl).andThen ?_
 refine PySem.W.Looks.andThen (PySem.W.looks_specialIn X c.sp) ?_
 refine PySem.W.Looks.andThen ((PySem.W.looks_takesIn X c.tk).andThen .now) (PySem.W.Looks.tag .now)
theorem x_get {R : Result -> Shared -> Prop} {tp : Value} (X : K.In s.heap) (L0 : PySem.W.Looks (model prog w) s.heap (typeOf (.ref x)) (.ref C)) (c : XCls K C)
   (h : R (.ok (.ret (.ref C))) s) : codeAny (model prog w) A (.call (.builtin "getset_descriptor.__get__") ⟨[.builtin "object.__class__", .ref x, tp], []⟩) R s := by
 obtain ⟨hp, gs, dr, tk, ws⟩ := s
 have L1 := PySem.W.looks_mroIn (M := model prog w) X c.mo
 refine codeAny_call_builtin PySem.W.KF.slot_gs.plain PySem.W.KF.entry_gs
   (PySem.W.KF.slot_gs.check _ _ _ _ _ _ _ _ PySem.W.KF.type_class (PySem.W.KF.args_gs _ _ _) ?_)
 unfold Builtin.«getset_descriptor.__get__» descrGet
 rw [PySem.W.dga_obj]
 refine wpAny_bind
   (wpAny_pure ?_)
 unfold descrGetter descrCheckInstance
 unfold descrNameAndClass isInstance
 simp only [PySem.W.KF.owner_class]
 repeat lk
 refine ⟨Code.quiet_builtin _ (by decide +kernel),
   codeAny_builtin PySem.W.KF.entry_class ?_⟩
 unfold Builtin.«object.__class__»
 unfold shownTypeOf
 repeat lk
 exact h
theorem x_class {Q : Option Value -> Shared -> Prop} (X : K.In s.heap) (L0 : PySem.W.Looks (model prog w) s.heap (typeOf (.ref x)) (.ref C)) (c : XCls K C) (h : Q (some (.ref C)) { s with toks := s.toks + 1 }) : wpAny (model prog w) A (getAttr? (.ref x) "__class__") Q E s := by
 obtain ⟨hh, g, d, t, os⟩ := s
 have L1 := PySem.W.looks_findIn (M := model prog w) X c.ga
 have L2 := PySem.W.looks_findIn (M := model prog w) X c.hk
 have L3 := PySem.W.looks_mroIn (M := model prog w) X c.mb
 have L4 := looks_xfind (M := model prog w) (x := x) X c
 unfold getAttr? getAttrBy? getAttrBy
 refine wpAny_bind (wpAny_mkText (wpAny_bind (wpAny_attempt (wpAny_holding (wpAny_bind (L0.at (wpAny_bind (L1.at ?_))))))))
 show wpAny _ _ (getAttrByItsOwn _ _ _ _ _ _) _ _ _
 unfold getAttrByItsOwn hookBefore
 refine wpAny_bind ?_
 show wpAny _ _ (typeLookup _ _) _ _ _
 refine L2.at ?_
 refine wpAny_bind (wpAny_attempt (wpAny_holding ?_))
 show wpAny _ _ (boundAndCalled _ _ _) _ _ _
 unfold boundAndCalled
 refine wpAny_bind (wpAny_of_eq (F.excAttr_ValueError.ga.bind (.ref x)) ?_)
 refine wpAny_call (codeAny_call_builtin F.excAttr_ValueError.ga.plain F.entry_bexc_ga ?_)
 have kd : builtinKind "BaseException.__getattribute__" = some .slot := by decide +kernel
 have spl : splitId "BaseException.__getattribute__" = some ("BaseException", "__getattribute__") := by decide +kernel
 have fa := F.args_bexc_ga (.ref x) (.str "__class__" t)
 have fin : wpAny (model prog w) A.in1 (Builtin.«object.__getattribute__» ⟨[.ref x, .str "__class__" t], []⟩) (fun fin s' => fin = .done (.ret (.ref C)) /\ s' = ⟨hh, g, d, t + 1, os⟩) (fun _ _ => False) ⟨hh, g, d, t + 1, os⟩ := by
   unfold Builtin.«object.__getattribute__»
   repeat (first | with_reducible refine L0.at ?_ | with_reducible refine L4.at ?_ | wp_step)
   exact x_get X L0 c (wpAny_pure ⟨rfl, rfl⟩)
 have go : wpAny (model prog w) A.in1 (checkBuiltinCall "BaseException.__getattribute__" ⟨[.ref x, .str "__class__" t], []⟩) (fun _ s' => s' = ⟨hh, g, d, t + 1, os⟩) (fun _ _ => False) ⟨hh, g, d, t + 1, os⟩ := by
   simp only [checkBuiltinCall, kd, spl]
   refine wpAny_bind ?_
   unfold isInstance
   repeat (first | with_reducible refine L0.at ?_ | with_reducible refine L3.at ?_ | wp_step)
   rfl
 refine wpAny_mono go (fun _ s1 e1 => ?_) fun _ _ z => z.elim
 subst e1
 refine wpAny_mono fin (fun f1 s1 e1 => ?_) fun _ _ z => z.elim
 obtain ⟨rfl, rfl⟩ := e1
 exact wpAny_pure (wpAny_pure h)
theorem xcls_ob (c : XCls K C) : ∃ c' d' cd sl, K.lookup C = some ⟨c', d', .cls cd, sl⟩ := by
 obtain ⟨k, hk⟩ := Option.isSome_iff_exists.mp c.cls
 unfold PySem.W.clsIn at hk
 split at hk
 · rename_i c' d' cd sl ho
   exact ⟨c', d', cd, sl, ho⟩
 · cases hk
theorem kitx_exc (c : XCls K C) : PySem.W.KitX K (.ref x) (.ref C) (fun h => ∃ o, h.get? x = some o /\ o.cls = .ref C) where
 ty := fun M h _ ⟨o, ho, hc⟩ => hc ▸ (PySem.W.Looks.ld ho).andThen .now
 it := fun _ _ X _ => by
   obtain ⟨c', d', cd, sl, ho⟩ := xcls_ob c
   intro A1 Q1 E1 s1 k q
   unfold isType loadHead
   refine wpAny_bind ?_
   exact wpAny_loadPart (k _ _ (X _ _ ho)) (wpAny_pure q)
 ne := fun h tp dd its n sl X htp => by
   obtain ⟨c', d', cd, sl, ho⟩ := xcls_ob c
   refine Bool.eq_false_iff.mpr fun q => ?_
   cases Value.ref.inj (beq_iff_eq.mp q)
   cases (X _ _ ho).symm.trans htp
 ca := fun X p k => x_class X (p.elim fun o z => z.2 ▸ (PySem.W.Looks.ld z.1).andThen .now) c k
end
def ClV (v : V) (u : Value) : Prop := (∃ D, v = .ref D /\ u = .ref D) \/ ∃ T, v = .ty T /\ u = .type T
def rIsX (K : PySem.W.Frag) : List V -> Hp -> VK -> Prop := fun xs H Q => ∃ e C v u b, xs = [.ref e, v] /\ H e = some (xO e C) /\ XCls K C /\ ClV v u /\ PySem.W.kitOne K (.ref C) u = some b /\ Q (.bl b) H
theorem ClV.rel {v : V} {u u' : Value} (h : ClV v u) (r : RelV v u') : u' = u := by
 rcases h with ⟨D, rfl, rfl⟩ | ⟨T, rfl, rfl⟩
 · exact r
 · cases r; rfl
section
variable {X : Cx}
theorem call_isX : xI X (.builtin "isinstance") (rIsX X.K) := by
 intro pins s σ H xs us Q I r h
 obtain ⟨e, C, v, u, b, rfl, he, c, cv, hk, q⟩ := h
 obtain ⟨u1, u2, rfl, r1, r2⟩ := vals2 r
 cases (show u1 = Value.ref e from r1)
 cases cv.rel r2
 obtain ⟨⟨o, vs, ho, hc, _⟩, _⟩ := (show ObjOk X.prog X.w H s.heap e (xO e C) from I.hok e _ he)
 exact PySem.W.kia_one (kitx_exc c) I.kIn ⟨o, ho, hc⟩ hk (fun z => nomatch z) fun tk => ⟨.bl b, H, I.tok tk, rfl, q⟩
end
theorem body_nox {CX : CXT} {P : Program} {w : World} {K : PySem.W.Frag} {mg : Str -> Option Value} {base : Heap} {N : List Str} {qual : Str} {scope : Scope} {f : Addr} {cd : Value} {A : Around} {outer : List Env} {s₀ : Shared} {H₀ : Hp} {E : XK} :
   Body (jB CX P w K mg base N qual scope f cd A outer s₀ H₀ E).nox := ⟨rfl, rfl, rfl, Heap.get?_none_of_le (Nat.le_refl _)⟩
section
variable {X : Cx}
theorem xF (K : PySem.W.Frag) (h : X.K = K) : xI X (.builtin "isinstance") (rIsX K) := by subst h; exact call_isX
theorem bt_ValueError : bootBuiltins "ValueError" = some (.type "ValueError") := by decide +kernel
def tXIf (c : TT) (ta tb : TX) : TX := fun Qn Qx σ H => c σ H fun d H1 => if d = true then ta Qn Qx σ H1 else tb Qn Qx σ H1
theorem px_if {c : Expr} {a b : List Stmt} {tc : TT} {ta tb : TX} {pos : Pos} (hxe : X.xe = fun _ _ => False) (hc : PT X c tc) (ha : PX X a ta) (hb : PX X b tb) : PX X [.If c a b pos] (tXIf tc ta tb) := by
 intro pins s σ H Qn Qx I h
 have hC := hc pins s σ H _ I h
 rw [hxe] at hC
 refine wpAny_execs_cons (wpAny_mono (Q := fun fl s1 => fl = .next /\ ∃ σ' H', Inv X pins σ' H' s1 /\ Qn σ' H') ?_ (fun fl s1 z => ?_) fun _ _ z => z)
 · refine wpAny_If (wpAny_mono hC (fun d s1 z => ?_) fun _ _ z => z.elim)
   obtain ⟨H1, I1, q1⟩ := z
   cases d with
   | true => exact ha pins s1 σ H1 Qn Qx I1 q1
   | false => exact hb pins s1 σ H1 Qn Qx I1 q1
 · obtain ⟨rfl, z⟩ := z
   exact wpAny_execs_nil ⟨rfl, z⟩
def tFS (ta tv : TE) : TE := fun σ H Q => ta σ H fun x H1 => ∃ a, x = .str a /\ a.length <= 1000 /\ tv σ H1 fun y H2 => ∃ b, y = .str b /\ b.length <= 1000 /\ Q (.str (a ++ b)) H2
theorem pe_fst {a v : Expr} {ta tv : TE} {p1 p2 : Pos} (ha : PE X a ta) (hv : PE X v tv) : PE X (.JoinedStr [a, .FormattedValue v (-1) none p1] p2) (tFS ta tv) := by
 intro pins s σ H Q I h
 refine wpAny_JoinedStr (thn (ha pins s σ H _ I h) fun u s1 z => ?_)
 obtain ⟨x, H1, I1, r, x', rfl, hl, q⟩ := z
 obtain ⟨t, rfl⟩ := (show ∃ t, u = Value.str x' t from r)
 have e0 : (Str.empty ++ x' : Str).length = x'.length := by rw [strLen_append]; exact Nat.zero_add _
 have e1 : (Str.empty ++ x' : Str) = x' := by
   show (⟨#[] ++ x'.cps⟩ : Str) = x'
   rw [Array.empty_append]
 refine ⟨x', t, rfl, by rw [e0]; exact zK hl, ?_⟩
 rw [e1]
 refine wpAny_FormattedValue_plain (thn (hv pins s1 σ H1 _ I1 q) fun u2 s2 z => ?_)
 obtain ⟨y, H2, I2, r2, y', rfl, hl2, q2⟩ := z
 obtain ⟨t2, rfl⟩ := (show ∃ t, u2 = Value.str y' t from r2)
 have e2 : (x' ++ y').length <= sizeLine := by rw [strLen_append]; exact Nat.le_trans (Nat.add_le_add hl hl2) (by decide)
 refine wpAny_formatField_str ?_ ?_ (zK hl2)
 · exact ⟨y', t2, rfl, e2, e2, .str (x' ++ y'), H2, I2.tok _, ⟨_, rfl⟩, q2⟩
 · exact ⟨y', _, rfl, e2, e2, .str (x' ++ y'), H2, (I2.tok _).tok _, ⟨_, rfl⟩, q2⟩
end
end L2
set_option maxHeartbeats 8000000
namespace C
open PySem L2
seal PE PT PW PA PS PSs PG PGs PI PPs PO PSet PIf
def top (i : Nat) : Stmt := PySem.Challenge.pw_clashbook_k25_what_holds.main.body.getD i (.Pass ⟨0, 0, 0, 0⟩)
abbrev s_n : Stmt := top 26
theorem sc_n : FnScope ["script", "k", "cell", "mixed"] ["script", "k"] (zG s_n) := ⟨rfl, rfl, rfl, by decide +kernel, rfl, by decide +kernel, by decide +kernel⟩
abbrev s_k : Stmt := top 28
theorem sc_k : FnScope ["script", "k", "many", "letters", "first", "spell", "row", "j", "size", "at", "names", "n", "word"] ["script", "k", "many"] (zG s_k) := ⟨rfl, rfl, rfl, by decide +kernel, rfl, by decide +kernel, by decide +kernel⟩
theorem p1060 : (0 : Int) < 10 ^ Int.toNat 60 := by show (0 : Int) < 10 ^ 60; simp
theorem at_toNat {α : Type} {xs : List α} {n : Int} {x : α} (h0 : 0 <= n) (h : xs[n.toNat]? = some x) : atI xs n = some x := by
 obtain ⟨m, rfl⟩ : ∃ m : Nat, n = (m : Int) := ⟨n.toNat, by omega⟩
 exact yB (by simpa using h)
theorem idxI (zs : List Int) (k : Int) (h0 : 0 <= k) (h1 : k < zs.length) : ∃ z, atI (zs.map V.int) k = some (.int z) := by
 have hk : k.toNat < zs.length := by omega
 exact ⟨zs[k.toNat], at_toNat h0 (by rw [List.getElem?_map, List.getElem?_eq_getElem hk]; rfl)⟩
def spDr (K : PySem.W.Frag) : Sp := fun vs H Q _ => ∃ (a : Addr) (ns : List Int) (k : Nat), vs = [.ref a, .int k] /\ SqL K H a (ns.map V.int) /\ ns.length <= 63 /\ k <= 100 /\ ∀ z : Int, 0 <= z -> Q (.int z) H
abbrev nV (n : Nat) : V := .int (n : Int)
structure Nms (H : Hp) (p : Addr) (m : Nat) (zs : List Str) : Prop where
 lst : H p = some (.lst (zs.map V.str))
 len : zs.length = m
 nd : zs.Nodup
 nm : ∀ z ∈ zs, Nm z
theorem Nms.same {H H' : Hp} {p : Addr} {m : Nat} {zs : List Str} (e : Same H H') (h : Nms H p m zs) : Nms H' p m zs := ⟨e _ _ h.lst, h.len, h.nd, h.nm⟩
def spNs (K : PySem.W.Frag) : Sp := fun vs H Q _ => ∃ (a : Addr) (ns : List Int) (k m : Nat), vs = [.ref a, .int k, .int m] /\ SqL K H a (ns.map V.int) /\ ns.length <= 63 /\ k <= 99 /\ 1 <= m /\ m <= 5 /\ ∀ p zs H', Same H H' -> Nms H' p m zs -> Q (.ref p) H'
def wd (rs : List Nat) : Str := ⟨(rs.map (97 + ·)).toArray⟩
theorem jI (rs : List Nat) : (wd rs).length = rs.length := by
 show ((rs.map (97 + ·)).toArray).size = _
 rw [List.size_toArray, List.length_map]
theorem wd_cps (rs : List Nat) : (wd rs).cps.toList = rs.map (97 + ·) := rfl
theorem wd_inj {rs ts : List Nat} (h : wd rs = wd ts) : rs = ts := by
 have h2 : rs.map (97 + ·) = ts.map (97 + ·) := congrArg (fun x : Str => x.cps.toList) h
 clear h
 induction rs generalizing ts with
 | nil => cases ts with
   | nil => rfl
   | cons t ts => simp at h2
 | cons r rs ih => cases ts with
   | nil => simp at h2
   | cons t ts =>
     simp only [List.map_cons, List.cons.injEq] at h2
     rw [ih h2.2, show r = t by omega]
theorem vQ (n : Nat) (h : n < 26) : atI ("abcdefghijklmnopqrstuvwxyz" : Str).cps.toList (n : Int) = some (97 + n) := by
 have h2 : ∀ k : Fin 26, ("abcdefghijklmnopqrstuvwxyz" : Str).cps.toList[k.val]? = some (97 + k.val) := by decide +kernel
 exact yB (h2 ⟨n, h⟩)
theorem glue_one : ∀ (rs : List Nat), glue [] (rs.map fun r => [97 + r]) = rs.map (97 + ·)
 | [] => rfl
 | [r] => rfl
 | r :: r' :: rs => by
   have ih := glue_one (r' :: rs)
   show [97 + r] ++ [] ++ glue [] ((r' :: rs).map fun r => [97 + r]) = _
   rw [ih]
   rfl
theorem join_wd (rs : List Nat) : Txt.join "" (rs.map fun r => (⟨#[97 + r]⟩ : Str)) = wd rs := by
 have h := glued_toS [] (rs.map fun r => [97 + r])
 rw [List.map_map, glue_one] at h
 have e : ("" : Str) = toS [] := by decide +kernel
 show Builtin.Str.glued "" _ = _
 rw [e]
 exact h
def wn (rs : List Nat) (sz at' n : Nat) : List Nat := (List.range sz).map fun j => (rs.getD j 0 + (if j = at' then n else 0)) % 26
open Classical in
noncomputable def nmF (qs : List Nat) : Str := if wd qs = "none" \/ wd qs = "all" then wd qs ++ "x" else wd qs
theorem qI (rs : List Nat) (sz at' n : Nat) : (wn rs sz at' n).length = sz := by unfold wn; rw [List.length_map, List.length_range]
theorem nmF_nm {rs : List Nat} {sz at' n : Nat} (hsz : 1 <= sz /\ sz <= 8) : Nm (nmF (wn rs sz at' n)) := by
 have hl := qI rs sz at' n
 have hq : ∀ r ∈ wn rs sz at' n, r < 26 := fun r hr => by
   unfold wn at hr
   obtain ⟨j, _, rfl⟩ := List.mem_map.mp hr
   omega
 generalize wn rs sz at' n = qs at hl hq
 have hw : ∀ c ∈ (wd qs).cps.toList, 97 <= c /\ c <= 122 := fun c hc => by
   rw [wd_cps] at hc
   obtain ⟨r, hr, rfl⟩ := List.mem_map.mp hc
   have := hq r hr
   omega
 unfold nmF
 by_cases h : wd qs = "none" \/ wd qs = "all"
 · rw [if_pos h]
   rcases h with h | h
   · rw [h]; exact ⟨by decide +kernel, by decide +kernel, by decide +kernel, by decide +kernel, by decide +kernel⟩
   · rw [h]; exact ⟨by decide +kernel, by decide +kernel, by decide +kernel, by decide +kernel, by decide +kernel⟩
 · rw [if_neg h]
   exact ⟨by rw [jI]; omega, by rw [jI]; omega, hw, fun e => h (.inl e), fun e => h (.inr e)⟩
theorem app_x {x y : Str} (h : x ++ "x" = y ++ "x") : x = y := by
 have h2 := congrArg (fun z : Str => z.cps.toList) h
 simp only [cps_app] at h2
 have h3 := List.append_cancel_right h2
 exact str_ext (by rw [← Array.toList_inj]; exact h3)
theorem nmF_inj {qs ts : List Nat} (hl : qs.length = ts.length) (h : nmF qs = nmF ts) : qs = ts := by
 have hx : ("x" : Str).length = 1 := by decide +kernel
 unfold nmF at h
 by_cases h1 : wd qs = "none" \/ wd qs = "all" <;> by_cases h2 : wd ts = "none" \/ wd ts = "all"
 · rw [if_pos h1, if_pos h2] at h
   exact wd_inj (app_x h)
 · rw [if_pos h1, if_neg h2] at h
   have := congrArg Str.length h
   rw [len_app, hx, jI, jI] at this
   omega
 · rw [if_neg h1, if_pos h2] at h
   have := congrArg Str.length h
   rw [len_app, hx, jI, jI] at this
   omega
 · rw [if_neg h1, if_neg h2] at h
   exact wd_inj h
theorem nmF_nd {rs : List Nat} {sz at' m : Nat} (hrl : rs.length = 8) (hr : ∀ r ∈ rs, r < 26) (hsz : sz <= 8) (hat : at' < sz) (hm : m <= 5) : ((List.range m).map fun n => nmF (wn rs sz at' n)).Nodup := by
 refine List.pairwise_iff_getElem.mpr fun x y hx hy hxy e => ?_
 rw [List.length_map, List.length_range] at hx hy
 rw [List.getElem_map, List.getElem_map, List.getElem_range, List.getElem_range] at e
 have e2 := nmF_inj (by rw [qI, qI]) e
 have e3 := congrArg (·[at']?) e2
 unfold wn at e3
 simp only [List.getElem?_map, List.getElem?_range hat, Option.map_some, Option.some.injEq, if_true] at e3
 omega
theorem cut_take (xs : List V) (k : Nat) (h : k <= xs.length) : jR xs none (some (k : Int)) = xs.take k := by
 unfold jR
 rw [HT.sIx_nat, HT.sIx_none, List.drop_zero, Nat.sub_zero, Nat.min_eq_left h]
section
variable {P : Program} {w : World} {K : PySem.W.Frag} {mg : Str -> Option Value} {base : Heap} {f : Addr} {fd : FuncData}
theorem ok_draw (bi : Bi mg) (F : Fun K "_law_draw" "_law_draw" s_n f fd) : FnOk P w K mg base CX0 1 f fd ["script", "k"] (spDr K) := by
 refine F.ok sc_n (fun vs H Q E h => ?_) (fun cdv A outer s H vs Q E hr h => ?_)
 · obtain ⟨a, ns, k, rfl, _⟩ := h
   rfl
 obtain ⟨a, ns, k, rfl, hS, hl, hk, q⟩ := h
 refine ⟨_, (zE (yC (zU op_eq (zS call_len rfl bi.len bt_len (zA (pv 0) pa_nil)) zD (zW _)) (zH (zO zD)) pss_nil) (zE (zM (i := 2) sc_n.nd rfl (Or.inl rfl) (zL op_mod (zN ix_list (pv 0) (zL op_mod (pv 1) (zS call_len rfl bi.len bt_len (zA (pv 0) pa_nil))) (fun _ _ => rfl)) (zL op_pow zD zD))) (zE (yC (zU op_lt (pv 1) (zS call_len rfl bi.len bt_len (zA (pv 0) pa_nil)) (zW _)) (zH (zO (pv 2))) pss_nil) (zE (zM (i := 3) sc_n.nd rfl (Or.inl rfl) (zL op_mod (zL op_add (zL op_add (pv 2) (zL op_mul (zL op_mul zD (pv 1)) (pv 1))) zD) zD)) (zH (zO (zL op_mod (zL op_mul (pv 3) (pv 3)) zD))))))), ?_⟩
 refine zI fun N hN => ?_
 simp! []
 refine ⟨_, .inl ⟨_, hS, rfl⟩, rfl, ?_⟩
 rw [List.length_map]
 by_cases h0 : ns.length = 0
 · rw [if_pos (by omega)]
   exact q 0 (by omega)
 rw [if_neg (by omega)]
 refine hN _ _ ?_
 clear hN
 refine zI fun N hN => ?_
 simp! []
 have hm0 : 0 <= (k : Int) % (ns.length : Int) := Int.emod_nonneg _ (by omega)
 have hm1 : (k : Int) % (ns.length : Int) < ns.length := Int.emod_lt_of_pos _ (by omega)
 obtain ⟨z, hz⟩ := idxI ns ((k : Int) % (ns.length : Int)) hm0 hm1
 refine ⟨ns.length, .inl ⟨_, hS, by rw [List.length_map]⟩, by omega, _, hS, _, hz, ⟨by decide, by decide, by decide⟩, _, rfl, p1060, hN _ _ ?_⟩
 clear hN
 have hc := Int.emod_nonneg z (b := 10 ^ Int.toNat 60) (Int.ne_of_gt p1060)
 generalize z % 10 ^ Int.toNat 60 = cell at hc
 refine zI fun N hN => ?_
 simp! []
 refine ⟨ns.length, .inl ⟨_, hS, by rw [List.length_map]⟩, ?_⟩
 split
 · exact q cell hc
 refine hN _ _ ?_
 clear hN
 refine zI fun N hN => ?_
 simp! []
 refine ⟨.inl ⟨by decide, by decide⟩, .inl ⟨by omega, by omega⟩, by decide, hN _ _ ?_⟩
 clear hN
 have h1 := Int.emod_nonneg (cell + 7919 * (k : Int) * (k : Int) + 1) (b := 2147483647) (by decide)
 have h2 := Int.emod_lt_of_pos (cell + 7919 * (k : Int) * (k : Int) + 1) (b := 2147483647) (by decide)
 generalize (cell + 7919 * (k : Int) * (k : Int) + 1) % 2147483647 = mixed at h1 h2
 simp! []
 refine ⟨.inl ⟨by omega, by omega⟩, by decide, q _ (Int.emod_nonneg _ (by decide))⟩
theorem ok_names (bi : Bi mg) (h_n : Has P w K mg base 1 "_law_draw" ["script", "k"] (spDr K)) (F : Fun K "_law_names" "_law_names" s_k f fd) : FnOk P w K mg base CX0 2 f fd ["script", "k", "many"] (spNs K) := by
 refine F.ok sc_k (fun vs H Q E h => ?_) (fun cdv A outer s H vs Q E hr h => ?_)
 · obtain ⟨a, ns, k, m, rfl, _⟩ := h
   rfl
 obtain ⟨a, ns, k, m, rfl, hS, hl, hk, h1, h5, q⟩ := h
 refine ⟨_, (zE (zM (i := 3) sc_k.nd rfl (Or.inr rfl) yA) (zE (zM (i := 4) sc_k.nd rfl (Or.inl rfl) (zJ h_n (hr.mono (by omega)) rfl (zA (pv 0) (zA (pv 1) pa_nil)))) (zE (zM (i := 5) sc_k.nd rfl (Or.inl rfl) (zL op_mod (zL op_mul (zJ h_n (hr.mono (by omega)) rfl (zA (pv 0) (zA (zL op_add (pv 1) zD) pa_nil))) zD) (zL op_pow zD zD))) (zE (zM (i := 6) sc_k.nd rfl (Or.inr rfl) (zX pa_nil)) (zE (yO PassesOwn.never rfl (yM rfl bi.range (zA zD pa_nil)) (zP (i := 7) sc_k.nd rfl (Or.inl rfl)) (zE (yT (xZ PySem.F.plainAttrs_list PySem.F.slot_list_append PySem.F.type_list_append mt_append (pv 6) (zA (zL op_mod (pv 5) zD) pa_nil))) (zH (zM (i := 5) sc_k.nd rfl (Or.inl rfl) (zL op_fdiv (pv 5) zD))))) (zE (yC (zU op_eq (zL op_mod (pv 4) zD) zD (zW _)) (zE (ps_asg (zL op_add zD (zL op_mod (zN ix_list (pv 6) zD (fun _ _ => rfl)) zD)) (pg_sub (pv 6) zD set_list)) (zH (zO (yL ["j"] ["letters", "row"] [3, 6] (yM rfl bi.range (zA (pv 2) pa_nil)) (fun _ _ _ _ nd => zP (i := 0) nd rfl (Or.inl rfl)) (fun _ _ _ _ => yI) (fun _ _ _ _ => (pe_bmK K PySem.F.plainAttrs_str PySem.F.slot_str_join PySem.F.type_str_join (mt_joinK K) yA (zA (by exact (yL ["n"] ["letters"] [1] (pi_listK K (yY (sl_listK K) (pv 2) po_none (xL (zL op_add (pv 0) zD)))) (fun _ _ _ _ nd => zP (i := 0) nd rfl (Or.inl rfl)) (fun _ _ _ _ => yI) (fun _ _ _ _ => (zN ix_str (pv 1) (pv 0) (fun _ _ => rfl))))) pa_nil))))))) pss_nil) (zE (zM (i := 8) sc_k.nd rfl (Or.inl rfl) (zL op_add zD (zL op_mod (zL op_fdiv (pv 4) zD) zD))) (zE (zM (i := 9) sc_k.nd rfl (Or.inr rfl) (zL op_mod (zL op_fdiv (pv 4) zD) (pv 8))) (zE (zM (i := 10) sc_k.nd rfl (Or.inl rfl) (zX pa_nil)) (zE (yO PassesOwn.never rfl (yM rfl bi.range (zA (pv 2) pa_nil)) (zP (i := 11) sc_k.nd rfl (Or.inr rfl)) (zE (zM (i := 12) sc_k.nd rfl (Or.inl rfl) (xZ PySem.F.plainAttrs_str PySem.F.slot_str_join PySem.F.type_str_join mt_join yA (zA (yL ["j"] ["letters", "row", "n", "at"] [3, 6, 11, 9] (yM rfl bi.range (zA (pv 8) pa_nil)) (fun _ _ _ _ nd => zP (i := 0) nd rfl (Or.inl rfl)) (fun _ _ _ _ => yI) (fun _ _ _ _ => (zN ix_str (pv 1) (zL op_mod (zL op_add (zN (qD K) (pv 2) (pv 0) (fun _ _ => rfl)) (zL op_mul (pv 3) (xD call_intB rfl bi.int bt_int (zA (yZ op_eq (pv 0) (pv 4) (zW _)) pa_nil)))) zD) (fun _ _ => rfl)))) pa_nil))) (zE (yC (PW.pt (pw_or (zU op_eq (pv 12) yA (zW _)) (wH (zU op_eq (pv 12) yA (zW _))))) (zH (zM (i := 12) sc_k.nd rfl (Or.inl rfl) (zL op_add_str (pv 12) yA))) pss_nil) (zH (yT (xZ PySem.F.plainAttrs_list PySem.F.slot_list_append PySem.F.type_list_append mt_append (pv 10) (zA (pv 12) pa_nil))))))) (zH (zO (pv 10))))))))))))), ?_⟩
 refine zI fun N hN => ?_
 simp! []
 refine hN _ _ ?_
 clear hN
 refine zI fun N hN => ?_
 simp! [spDr]
 refine ⟨ns, k, rfl, hS, hl, by omega, fun fi hfi => hN _ _ ?_⟩
 clear hN
 refine zI fun N hN => ?_
 simp! [spDr]
 refine ⟨ns, k + 1, by omega, hS, hl, by omega, fun z hz => ⟨.inr ⟨by decide, by decide⟩, ⟨by decide, by decide, by decide⟩, by decide, hN _ _ ?_⟩⟩
 clear hN
 have hsp := Int.emod_nonneg (z * 982451653) (b := 26 ^ Int.toNat 8) (by decide)
 generalize z * 982451653 % 26 ^ Int.toNat 8 = sp at hsp
 refine zI fun N hN => ?_
 simp! []
 refine ⟨zK (by decide), fun pr hpr => hN _ _ ?_⟩
 clear hN
 have s1 := zC hpr (.lst [])
 have k1 : upd H pr (.lst []) pr = some (.lst (([] : List Nat).map nV)) := zB
 generalize upd H pr (.lst []) = H1 at s1 k1 ⊢
 refine zR (fun σ H' => ∃ (rs : List Nat) (sp : Int) (o : Option V), Same H H' /\ H' pr = some (.lst (rs.map nV)) /\ rs.length = 8 /\ (∀ r ∈ rs, r < 26) /\ σ = [some (V.ref a), some (V.int k), some (V.int m), some (V.str "abcdefghijklmnopqrstuvwxyz"), some (V.int fi), some (V.int sp), some (V.ref pr), o, none, none, none, none, none]) (fun N hN => ?_) (fun σ H' h => ?_)
 · simp! []
   refine ⟨by decide, by decide, ?_⟩
   refine xC (n := Int.toNat 8) (fun i σ H' => ∃ (rs : List Nat) (sp : Int) (o : Option V), Same H H' /\ H' pr = some (.lst (rs.map nV)) /\ rs.length = i /\ (∀ r ∈ rs, r < 26) /\ 0 <= sp /\ σ = [some (V.ref a), some (V.int k), some (V.int m), some (V.str "abcdefghijklmnopqrstuvwxyz"), some (V.int fi), some (V.int sp), some (V.ref pr), o, none, none, none, none, none]) ⟨[], _, _, s1, k1, rfl, (fun r hr => by cases hr), hsp, rfl⟩ (fun i σ H' hi h => ?_) (fun σ H' h => ?_)
   · obtain ⟨rs, sp, o, s2, k2, hrl, hr26, hs0, rfl⟩ := h
     have hi8 : i < 8 := hi
     simp! []
     have h0 : 0 <= sp % 26 := by omega
     refine ⟨.inl ⟨rfl, _, SqL.of k2⟩, by decide, _, k2, xP (by rw [List.length_map]; omega), ⟨by decide, by decide⟩, s2.upd hpr, rs ++ [(sp % 26).toNat], ?_, by rw [List.length_append, hrl]; rfl, fun r hr => ?_, sp / 26, by omega, rfl, _, rfl⟩
     · rw [zB, List.map_append]
       show some (HO.lst (rs.map nV ++ [V.int (sp % 26)])) = some (HO.lst (rs.map nV ++ [V.int (((sp % 26).toNat : Nat) : Int)]))
       rw [show (((sp % 26).toNat : Nat) : Int) = sp % 26 by omega]
     · rcases List.mem_append.mp hr with hr | hr
       · exact hr26 r hr
       · rw [List.mem_singleton.mp hr]; omega
   · obtain ⟨rs, sp, o, s2, k2, hrl, hr26, hs0, rfl⟩ := h
     exact hN _ _ ⟨rs, _, _, s2, k2, hrl, hr26, rfl⟩
 clear s1 k1
 obtain ⟨rs, sp, o, s1, k1, hrl, hr26, rfl⟩ := h
 refine zI fun N hN => ?_
 simp! [gSub, rSetL]
 refine ⟨by decide, rfl, ?_⟩
 by_cases hf3 : fi % 3 = 0
 · rw [if_pos hf3]
   obtain ⟨r0, rt, rfl⟩ : ∃ r0 rt, rs = r0 :: rt := by
     cases rs with
     | nil => simp at hrl
     | cons r0 rt => exact ⟨r0, rt, rfl⟩
   replace k1 : H' pr = some (.lst (nV r0 :: rt.map nV)) := k1
   refine ⟨_, SqL.of k1, nV r0, at0, _, rfl, by decide, ?_⟩
   obtain ⟨r1, hr1, e1⟩ : ∃ r1 : Nat, (1 <= r1 /\ r1 <= 12) /\ (1 + (r0 : Int) % 12) = (r1 : Int) := ⟨1 + r0 % 12, by omega, by omega⟩
   rw [e1]
   refine ⟨_, k1, 0, by simp [ixN], by omega, by omega, ?_⟩
   show LcW _ _ _ _ _ _ _ (upd H' pr (HO.lst ((r1 :: rt).map nV))) Q
   have hr' : ∀ r ∈ r1 :: rt, r < 26 := fun r hr => by
     rcases List.mem_cons.mp hr with rfl | hr
     · omega
     · exact hr26 r (List.mem_cons_of_mem _ hr)
   have hrl' : (r1 :: rt).length = 8 := hrl
   have s2 := s1.upd (o := .lst ((r1 :: rt).map nV)) hpr
   have k2 : upd H' pr (.lst ((r1 :: rt).map nV)) pr = some (.lst ((r1 :: rt).map nV)) := zB
   generalize upd H' pr (.lst ((r1 :: rt).map nV)) = H2 at s2 k2 ⊢
   clear k1 s1 hrl hr26
   refine uV (n := (m : Int).toNat) (fun i ys σ H3 => Same H2 H3 /\ ys = (List.range i).map (fun j => V.str (wd ((r1 :: rt).take (j + 1)))) /\ ∃ o, σ = [o, some (V.str "abcdefghijklmnopqrstuvwxyz"), some (V.ref pr)]) ⟨Same.refl _, rfl, _, rfl⟩ (zK (by omega)) (fun i ys σ H3 e => ?_) (fun i ys σ H3 C hi e hC => ?_) (fun ys σ H3 e p hp => ?_)
   · rw [e.2.1, List.length_map, List.length_range]
     exact Nat.le_refl _
   · obtain ⟨s3, rfl, o, rfl⟩ := e
     have e0 : (0 : Int) + (i : Int) + 1 = ((i + 1 : Nat) : Int) := by omega
     simp! []
     refine ⟨rfl, _, SqL.of (s3 _ _ k2), fun p1 hp1 => ?_⟩
     rw [e0, cut_take _ _ (by rw [List.length_map]; omega), ← List.map_take]
     have s4 := s3.trans (zC hp1 (.lst (((r1 :: rt).take (i + 1)).map nV)))
     have k4 : upd H3 p1 (.lst (((r1 :: rt).take (i + 1)).map nV)) p1 = some (.lst (((r1 :: rt).take (i + 1)).map nV)) := zB
     generalize upd H3 p1 (.lst (((r1 :: rt).take (i + 1)).map nV)) = H4 at s4 k4 ⊢
     have hq : ∀ r ∈ (r1 :: rt).take (i + 1), r < 26 := fun r hr => hr' r (List.mem_of_mem_take hr)
     have hql : ((r1 :: rt).take (i + 1)).length <= 8 := by rw [List.length_take]; omega
     generalize hqs : (r1 :: rt).take (i + 1) = qs at k4 hq hql ⊢
     refine ⟨⟨_, SqL.of k4⟩, ?_⟩
     refine xA (xs := qs.map nV) (fun k ys σ H5 => H5 = H4 /\ ys = (qs.take k).map (fun r => V.str ⟨#[97 + r]⟩) /\ ∃ o, σ = [o, some (V.str "abcdefghijklmnopqrstuvwxyz")]) ⟨rfl, rfl, _, rfl⟩ (zK (by rw [List.length_map]; omega)) (fun k ys σ H5 e => ?_) (fun k ys σ H5 e => by rw [e.1]; exact SqL.of k4) (fun k x ys σ H5 C' hx e hC' => ?_) (fun ys σ H5 e p hp => ?_)
     · rw [e.2.1, List.length_map, List.length_take]
       exact Nat.min_le_left ..
     · obtain ⟨rfl, rfl, o, rfl⟩ := e
       rw [List.getElem?_map] at hx
       obtain ⟨r, hr, rfl⟩ := Option.map_eq_some_iff.mp hx
       obtain ⟨hkl, hk2⟩ := List.getElem?_eq_some_iff.mp hr
       simp! []
       refine ⟨zK (by decide +kernel), _, vQ r (hq r (List.mem_of_getElem? hr)), hC' _ _ _ ⟨rfl, ?_, _, rfl⟩⟩
       rw [List.take_succ_eq_append_getElem hkl, hk2, List.map_append]
       rfl
     · obtain ⟨rfl, rfl, o, rfl⟩ := e
       rw [List.length_map, List.take_of_length_le (Nat.le_refl _)]
       refine ⟨p, rfl, qs.map (fun r => (⟨#[97 + r]⟩ : Str)), SqL.of (by rw [zB, List.map_map]; rfl), ?_, hC _ _ _ ⟨s4.trans (zC hp _), ?_, _, rfl⟩⟩
       · rw [List.map_map]
         have e1 : ((fun x : Str => x.length) ∘ fun r => (⟨#[97 + r]⟩ : Str)) = fun _ => 1 := rfl
         rw [e1, List.length_map]
         have e2 : (qs.map fun _ => 1).sum = qs.length := by
           clear hqs k4 hq hql
           induction qs with
           | nil => rfl
           | cons q qs ih => rw [List.map_cons, List.sum_cons, ih, List.length_cons]; omega
         rw [e2, show (Str.ofString "").length = 0 from rfl]
         omega
       · rw [join_wd, List.range_succ, List.map_append, ← hqs]
         rfl
   · obtain ⟨s3, rfl, o, rfl⟩ := e
     rw [show (m : Int).toNat = m from Int.toNat_natCast _]
     refine q p ((List.range m).map fun j => wd ((r1 :: rt).take (j + 1))) _ ((s2.trans s3).trans (zC hp _)) ⟨by rw [zB, List.map_map]; rfl, by rw [List.length_map, List.length_range], ?_, fun z hz => ?_⟩
     · refine List.pairwise_iff_getElem.mpr fun x y hx hy hxy e => ?_
       rw [List.length_map, List.length_range] at hx hy
       rw [List.getElem_map, List.getElem_map, List.getElem_range, List.getElem_range] at e
       have := congrArg List.length (wd_inj e)
       rw [List.length_take, List.length_take] at this
       omega
     · obtain ⟨j, hj, rfl⟩ := List.mem_map.mp hz
       have hj := List.mem_range.mp hj
       have hlj : (wd ((r1 :: rt).take (j + 1))).length = j + 1 := by rw [jI, List.length_take]; omega
       have h0 : (wd ((r1 :: rt).take (j + 1))).cps.toList[0]? = some (97 + r1) := by rw [wd_cps]; rfl
       refine ⟨by omega, by omega, fun c hc => ?_, fun e => ?_, fun e => ?_⟩
       · rw [wd_cps] at hc
         obtain ⟨r, hr, rfl⟩ := List.mem_map.mp hc
         have := hr' r (List.mem_of_mem_take hr)
         omega
       · rw [e, show ("none" : Str).cps.toList[0]? = some 110 by decide +kernel] at h0
         have := Option.some.inj h0
         omega
       · rw [e, show ("all" : Str).cps.toList[0]? = some 97 by decide +kernel] at h0
         have := Option.some.inj h0
         omega
 rw [if_neg hf3]
 refine hN _ _ ?_
 clear hN
 refine zI fun N hN => ?_
 simp! []
 refine ⟨⟨by decide, by decide⟩, by decide, hN _ _ ?_⟩
 clear hN
 obtain ⟨sz, hsz, esz⟩ : ∃ sz : Nat, (1 <= sz /\ sz <= 8) /\ 1 + fi / 3 % 8 = (sz : Int) := ⟨(1 + fi / 3 % 8).toNat, by omega, by omega⟩
 rw [esz]
 refine zI fun N hN => ?_
 simp! []
 refine ⟨⟨by decide, by decide⟩, by omega, hN _ _ ?_⟩
 clear hN
 have ha0 := Int.emod_nonneg (fi / 24) (b := (sz : Int)) (by omega)
 have ha1 := Int.emod_lt_of_pos (fi / 24) (b := (sz : Int)) (by omega)
 obtain ⟨at', hat, eat⟩ : ∃ at' : Nat, at' < sz /\ fi / 24 % (sz : Int) = (at' : Int) := ⟨(fi / 24 % (sz : Int)).toNat, by omega, by omega⟩
 rw [eat]
 clear ha0 ha1 eat esz
 refine zI fun N hN => ?_
 simp! []
 refine ⟨zK (by decide), fun pn hpn => hN _ _ ?_⟩
 clear hN
 have npn := s1.free hpn
 have nrn : pr ≠ pn := yK k1 hpn
 have s2 := s1.trans (zC hpn (.lst []))
 have k2 : upd H' pn (.lst []) pn = some (.lst (([] : List Str).map V.str)) := zB
 replace k1 := zC hpn (.lst []) _ _ k1
 generalize upd H' pn (.lst []) = H2 at s2 k1 k2 ⊢
 refine zR (fun σ H' => ∃ (o7 o11 o12 : Option V), Same H H' /\ H' pn = some (.lst (((List.range m).map fun n => nmF (wn rs sz at' n)).map V.str)) /\ σ = [some (V.ref a), some (V.int k), some (V.int m), some (V.str "abcdefghijklmnopqrstuvwxyz"), some (V.int fi), some (V.int sp), some (V.ref pr), o7, some (V.int sz), some (V.int at'), some (V.ref pn), o11, o12]) (fun N hN => ?_) (fun σ H' h => ?_)
 · simp! []
   refine ⟨by omega, by omega, ?_⟩
   refine xC (n := (m : Int).toNat) (fun i σ H' => ∃ (o7 o11 o12 : Option V), Same H H' /\ H' pr = some (.lst (rs.map nV)) /\ H' pn = some (.lst (((List.range i).map fun n => nmF (wn rs sz at' n)).map V.str)) /\ σ = [some (V.ref a), some (V.int k), some (V.int m), some (V.str "abcdefghijklmnopqrstuvwxyz"), some (V.int fi), some (V.int sp), some (V.ref pr), o7, some (V.int sz), some (V.int at'), some (V.ref pn), o11, o12]) ⟨_, _, _, s2, k1, k2, rfl⟩ (fun i σ H' hi h => ?_) (fun σ H' h => ?_)
   rotate_left
   · obtain ⟨o7, o11, o12, s3, _, k3, rfl⟩ := h
     rw [show (m : Int).toNat = m from Int.toNat_natCast _] at k3
     exact hN _ _ ⟨_, _, _, s3, k3, rfl⟩
   obtain ⟨o7, o11, o12, s3, kr, k3, rfl⟩ := h
   have e0 : (0 : Int) + (i : Int) = ((i : Nat) : Int) := by omega
   have him : i < m := by omega
   show tSeq _ _ _ _ _
   refine zI fun N hN => ?_
   simp! []
   rw [e0]
   refine ⟨rfl, by omega, by omega, ?_⟩
   refine uV (n := (sz : Int).toNat) (fun j ys σ H5 => H5 = H' /\ ys = ((wn rs sz at' i).take j).map (fun r => V.str ⟨#[97 + r]⟩) /\ ∃ o, σ = [o, some (V.str "abcdefghijklmnopqrstuvwxyz"), some (V.ref pr), some (V.int i), some (V.int at')]) ⟨rfl, rfl, _, rfl⟩ (zK (by omega)) (fun j ys σ H5 e => ?_) (fun j ys σ H5 C' hj e hC' => ?_) (fun ys σ H5 e p hp => ?_)
   · rw [e.2.1, List.length_map, List.length_take]
     exact Nat.min_le_left ..
   · obtain ⟨rfl, rfl, o, rfl⟩ := e
     have e1 : (0 : Int) + (j : Int) = ((j : Nat) : Int) := by omega
     have hj8 : j < rs.length := by omega
     simp! []
     rw [e1]
     refine ⟨_, SqL.of kr, nV rs[j], yB (by rw [List.getElem?_map, List.getElem?_eq_getElem hj8]; rfl), ?_⟩
     have e2 : ((rs[j] : Int) + (i : Int) * (if (j : Int) = (at' : Int) then 1 else 0)) % 26 = (((rs.getD j 0 + (if j = at' then i else 0)) % 26 : Nat) : Int) := by
       rw [List.getD_eq_getElem?_getD, List.getElem?_eq_getElem hj8]
       show ((rs[j] : Int) + (i : Int) * (if (j : Int) = (at' : Int) then 1 else 0)) % 26 = (((rs[j] + (if j = at' then i else 0)) % 26 : Nat) : Int)
       by_cases hja : j = at'
       · rw [if_pos hja, if_pos (by omega)]; omega
       · rw [if_neg hja, if_neg (by omega)]; omega
     refine ⟨rfl, .inl ⟨by omega, by omega⟩, _, rfl, by decide, zK (by decide +kernel), 97 + (rs.getD j 0 + (if j = at' then i else 0)) % 26, ?_, hC' _ _ _ ⟨rfl, ?_, _, rfl⟩⟩
     · rw [e2]
       exact vQ _ (by omega)
     · have hjl : j < (wn rs sz at' i).length := by rw [qI]; omega
       rw [List.take_succ_eq_append_getElem hjl, List.map_append]
       have e3 : (wn rs sz at' i)[j] = (rs.getD j 0 + (if j = at' then i else 0)) % 26 := by
         have : (wn rs sz at' i)[j]? = some ((rs.getD j 0 + (if j = at' then i else 0)) % 26) := by
           unfold wn
           rw [List.getElem?_map, List.getElem?_range (by omega)]
           rfl
         rw [List.getElem?_eq_getElem hjl] at this
         exact Option.some.inj this
       rw [e3]
       rfl
   obtain ⟨rfl, rfl, o, rfl⟩ := e
   rw [show (sz : Int).toNat = sz from Int.toNat_natCast _, List.take_of_length_le (by rw [qI]; exact Nat.le_refl _)]
   have hwl := qI rs sz at' i
   refine ⟨p, rfl, (wn rs sz at' i).map (fun r => (⟨#[97 + r]⟩ : Str)), SqL.of (by rw [zB, List.map_map]; rfl), ?_, hN _ _ ?_⟩
   · rw [List.map_map]
     have e1 : ((fun x : Str => x.length) ∘ fun r => (⟨#[97 + r]⟩ : Str)) = fun _ => 1 := rfl
     rw [e1, List.length_map]
     have e2 : ∀ qs : List Nat, (qs.map fun _ => 1).sum = qs.length := fun qs => by
       induction qs with
       | nil => rfl
       | cons q qs ih => rw [List.map_cons, List.sum_cons, ih, List.length_cons]; omega
     rw [e2, show (Str.ofString "").length = 0 from rfl]
     omega
   clear hN
   rw [join_wd]
   have s4 := s3.trans (zC hp (.lst ((wn rs sz at' i).map fun r => V.str ⟨#[97 + r]⟩)))
   replace kr := zC hp (.lst ((wn rs sz at' i).map fun r => V.str ⟨#[97 + r]⟩)) _ _ kr
   replace k3 := zC hp (.lst ((wn rs sz at' i).map fun r => V.str ⟨#[97 + r]⟩)) _ _ k3
   generalize upd H5 p (.lst ((wn rs sz at' i).map fun r => V.str ⟨#[97 + r]⟩)) = H6 at s4 kr k3 ⊢
   refine zR (fun σ H' => H' = H6 /\ σ = [some (V.ref a), some (V.int k), some (V.int m), some (V.str "abcdefghijklmnopqrstuvwxyz"), some (V.int fi), some (V.int sp), some (V.ref pr), o7, some (V.int sz), some (V.int at'), some (V.ref pn), some (V.int i), some (V.str (nmF (wn rs sz at' i)))]) (fun N hN => ?_) (fun σ H' h => ?_)
   · have hx1 : (wd (wn rs sz at' i)).length + (Str.ofString "x").length <= sizeLine := by
       rw [jI, hwl, show (Str.ofString "x").length = 1 by decide +kernel]
       exact zK (by omega)
     simp! []
     unfold nmF at hN
     refine ⟨rfl, ?_⟩
     by_cases c1 : wd (wn rs sz at' i) = "none"
     · rw [if_pos c1]
       rw [if_pos (.inl c1)] at hN
       exact ⟨hx1, hN _ _ ⟨rfl, rfl⟩⟩
     rw [if_neg c1]
     refine ⟨rfl, ?_⟩
     by_cases c2 : wd (wn rs sz at' i) = "all"
     · rw [if_pos c2]
       rw [if_pos (.inr c2)] at hN
       exact ⟨hx1, hN _ _ ⟨rfl, rfl⟩⟩
     rw [if_neg c2]
     rw [if_neg (by rintro (z | z); exact c1 z; exact c2 z)] at hN
     exact hN _ _ ⟨rfl, rfl⟩
   obtain ⟨rfl, rfl⟩ := h
   simp! []
   refine ⟨.inl ⟨rfl, _, SqL.of k3⟩, _, k3, xP (by rw [List.length_map, List.length_map, List.length_range]; omega), s4.upd npn, by rw [zQ nrn]; exact kr, ?_, _, rfl⟩
   rw [zB, List.range_succ, List.map_append, List.map_append]
   rfl
 obtain ⟨o7, o11, o12, s3, k3, rfl⟩ := h
 simp! []
 exact q pn _ _ s3 ⟨k3, by rw [List.length_map, List.length_range], nmF_nd hrl hr26 hsz.2 hat h5, fun z hz => by
   obtain ⟨n, _, rfl⟩ := List.mem_map.mp hz
   exact nmF_nm hsz⟩
end
abbrev s_m : Stmt := top 34
theorem sc_m : FnScope ["stack", "cell", "names", "way", "pick"] ["stack", "cell", "names"] (zG s_m) := ⟨rfl, rfl, rfl, by decide +kernel, rfl, by decide +kernel, by decide +kernel⟩
abbrev s_p : Stmt := top 35
theorem sc_p : FnScope ["script", "k", "many", "names", "stack", "n"] ["script", "k", "many", "names"] (zG s_p) := ⟨rfl, rfl, rfl, by decide +kernel, rfl, by decide +kernel, by decide +kernel⟩
mutual
def nms : Tm -> List Str
 | .name x => [x]
 | .node _ ts => nmss ts
def nmss : List Tm -> List Str
 | [] => []
 | t :: ts => nms t ++ nmss ts
end
theorem nmss_mem {x : Str} : ∀ {ts : List Tm}, x ∈ nmss ts ↔ ∃ t ∈ ts, x ∈ nms t
 | [] => by simp [nmss]
 | t :: ts => by rw [nmss, List.mem_append, nmss_mem (ts := ts)]; simp
structure TsOk (zs : List Str) (d n : Nat) (ts : List Tm) : Prop where
 fit : ∀ t ∈ ts, Fit d t
 nam : ∀ t ∈ ts, ∀ x ∈ nms t, x ∈ zs
 sz : wts ts <= n
theorem atI_neg {xs : List V} {k : Nat} (h1 : 1 <= k) (h : k <= xs.length) : atI xs (-(k : Int)) = xs[xs.length - k]? := by
 have e : ixN xs.length (-(k : Int)) = some (xs.length - k) := by
   unfold ixN
   rw [if_neg (by omega), if_pos (by omega)]
   congr 1
   omega
 unfold atI
 rw [e]
 rfl
theorem qG (xs : List V) (k : Nat) (h1 : 1 <= k) (h : k <= xs.length) : jR xs none (some (-(k : Int))) = xs.take (xs.length - k) := by
 unfold jR
 have e : HT.sIx xs.length xs.length (some (-(k : Int))) = xs.length - k := by
   unfold HT.sIx
   simp only
   rw [if_pos (by omega)]
   omega
 rw [e, HT.sIx_none, List.drop_zero, Nat.sub_zero]
theorem jP {us : List V} {k j : Nat} (hk : k <= us.length) (hj : j < k) : atI us (-((k - j : Nat) : Int)) = (us.drop (us.length - k))[j]? := by
 rw [atI_neg (by omega) (by omega), List.getElem?_drop]
 congr 1
 omega
theorem last1 {us : List V} (h : 1 <= us.length) : ∃ a, us.drop (us.length - 1) = [a] /\ atI us (-1) = some a := by
 have hl : (us.drop (us.length - 1)).length = 1 := by rw [List.length_drop]; omega
 have d0 := jP (k := 1) (j := 0) h (by omega)
 match hd : us.drop (us.length - 1), hl with
 | [a], _ =>
   rw [hd] at d0
   exact ⟨a, rfl, d0⟩
theorem last2 {us : List V} (h : 2 <= us.length) : ∃ a b, us.drop (us.length - 2) = [a, b] /\ atI us (-2) = some a /\ atI us (-1) = some b := by
 have hl : (us.drop (us.length - 2)).length = 2 := by rw [List.length_drop]; omega
 have d0 := jP (k := 2) (j := 0) h (by omega)
 have d1 := jP (k := 2) (j := 1) h (by omega)
 match hd : us.drop (us.length - 2), hl with
 | [a, b], _ =>
   rw [hd] at d0 d1
   exact ⟨a, b, rfl, d0, d1⟩
theorem last3 {us : List V} (h : 3 <= us.length) : ∃ a b c, us.drop (us.length - 3) = [a, b, c] /\ atI us (-3) = some a /\ atI us (-2) = some b /\ atI us (-1) = some c := by
 have hl : (us.drop (us.length - 3)).length = 3 := by rw [List.length_drop]; omega
 have d0 := jP (k := 3) (j := 0) h (by omega)
 have d1 := jP (k := 3) (j := 1) h (by omega)
 have d2 := jP (k := 3) (j := 2) h (by omega)
 match hd : us.drop (us.length - 3), hl with
 | [a, b, c], _ =>
   rw [hd] at d0 d1 d2
   exact ⟨a, b, c, rfl, d0, d1, d2⟩
theorem vJ (j : Int) (h : 0 <= j /\ j < 2) : ∃ w : Str, (w = "both" \/ w = "either") /\ atI [V.str "both", V.str "either"] j = some (.str w) := by
 have : j = 0 \/ j = 1 := by omega
 rcases this with rfl | rfl
 · exact ⟨"both", .inl rfl, rfl⟩
 · exact ⟨"either", .inr rfl, rfl⟩
theorem sh_two {w : Str} {k : Nat} (hw : w = "both" \/ w = "either") (hk : 2 <= k) : Sh w k := by
 rcases hw with h | h
 · exact .inr (.inr (.inr (.inl ⟨h, hk⟩)))
 · exact .inr (.inr (.inr (.inr ⟨h, hk⟩)))
theorem TsOk.fold {zs : List Str} {d n : Nat} {ts : List Tm} (h : TsOk zs d n ts) (k : Nat) (w : Str) (hk : k <= ts.length) (hs : Sh w k) : TsOk zs (d + 1) (n + 1) (ts.take (ts.length - k) ++ [.node w (ts.drop (ts.length - k))]) := by
 have hl : (ts.drop (ts.length - k)).length = k := by rw [List.length_drop]; omega
 refine ⟨fun t ht => ?_, fun t ht => ?_, ?_⟩
 · rcases List.mem_append.mp ht with ht | ht
   · exact (h.fit t (List.mem_of_mem_take ht)).up
   · rw [List.mem_singleton.mp ht]
     exact ⟨by rw [hl]; exact hs, fun u hu => h.fit u (List.mem_of_mem_drop hu)⟩
 · rcases List.mem_append.mp ht with ht | ht
   · exact h.nam t (List.mem_of_mem_take ht)
   · rw [List.mem_singleton.mp ht]
     intro x hx
     rw [nms] at hx
     obtain ⟨u, hu, hx⟩ := nmss_mem.mp hx
     exact h.nam u (List.mem_of_mem_drop hu) x hx
 · have e := wts_append (ts.take (ts.length - k)) (ts.drop (ts.length - k))
   rw [List.take_append_drop] at e
   have := h.sz
   rw [wts_append, wts, wts, wt]
   omega
theorem TsOk.leaf {zs : List Str} {d n : Nat} {ts : List Tm} (h : TsOk zs d n ts) {t : Tm} (hf : Fit 0 t) (hn : ∀ x ∈ nms t, x ∈ zs) (hw : wt t = 1) : TsOk zs d (n + 1) (ts ++ [t]) := by
 refine ⟨fun u hu => ?_, fun u hu => ?_, ?_⟩
 · rcases List.mem_append.mp hu with hu | hu
   · exact h.fit u hu
   · rw [List.mem_singleton.mp hu]; exact hf.mono (Nat.zero_le _)
 · rcases List.mem_append.mp hu with hu | hu
   · exact h.nam u hu
   · rw [List.mem_singleton.mp hu]; exact hn
 · have := h.sz
   rw [wts_append, wts, wts]
   omega
def spPu : Sp := fun vs H Q _ => ∃ (sa na : Addr) (c : Int) (us : List V) (ts : List Tm) (m d n : Nat) (zs : List Str), vs = [.ref sa, .int c, .ref na] /\ 0 <= c /\ H sa = some (.lst us) /\ TAts H ts us /\ TsOk zs d n ts /\ ts.length <= 100 /\ Nms H na m zs /\ 1 <= m /\ m <= 5 /\
 ∀ p us' ts' d' H', Same H H' -> H' p = some (.lst us') -> TAts H' ts' us' -> TsOk zs d' (n + 1) ts' -> ts' ≠ [] -> ts'.length <= ts.length + 1 -> d' + ts'.length <= d + ts.length + 1 -> Q (.ref p) H'
def spTe (K : PySem.W.Frag) : Sp := fun vs H Q _ => ∃ (a na : Addr) (ns : List Int) (k m j : Nat) (zs : List Str), vs = [.ref a, .int k, .int m, .ref na] /\ SqL K H a (ns.map V.int) /\ ns.length <= 63 /\ k <= 50 /\ 1 <= m /\ m <= 20 /\ Nms H na j zs /\ 1 <= j /\ j <= 5 /\ ∀ v t H', Same H H' -> TAt H' t v -> Fit 20 t -> wt t <= 100 -> (∀ x ∈ nms t, x ∈ zs) -> Q v H'
section
variable {P : Program} {w : World} {K : PySem.W.Frag} {mg : Str -> Option Value} {base : Heap} {f : Addr} {fd : FuncData}
theorem ok_pushed (bi : Bi mg) (F : Fun K "_law_pushed" "_law_pushed" s_m f fd) : FnOk P w K mg base CX0 1 f fd ["stack", "cell", "names"] spPu := by
 refine F.ok sc_m (fun vs H Q E h => ?_) (fun cdv A outer s H vs Q E hr h => ?_)
 · obtain ⟨sa, na, c, us, ts, m, d, n, zs, rfl, _⟩ := h
   rfl
 obtain ⟨sa, na, c, us, ts, m, d, n, zs, rfl, hc, hsa, hts, ok, hl, hn, hm1, hm5, q⟩ := h
 have hul := hts.length
 refine ⟨_, (zE (zM (i := 3) sc_m.nd rfl (Or.inl rfl) (zL op_mod (pv 1) zD)) (zE (zM (i := 4) sc_m.nd rfl (Or.inl rfl) (zL op_mod (zL op_fdiv (pv 1) zD) (zL op_add (zL op_mul zD (zS call_len rfl bi.len bt_len (zA (pv 2) pa_nil))) zD))) (zE (yC (PW.pt (pw_and (PW.pt (pw_or (zU op_eq (pv 3) zD (zW _)) (wH (zU op_eq (pv 3) zD (zW _))))) (wI (zU op_gt (zS call_len rfl bi.len bt_len (zA (pv 0) pa_nil)) zD (zW _))))) (zH (zO (zL op_cat (yY sl_list (pv 0) po_none (xL (xT un_neg zD))) (zX (zA (yJ (zA yA (zA (zN ix_list (pv 0) (xT un_neg zD) (fun _ _ => rfl)) pa_nil))) pa_nil))))) pss_nil) (zE (yC (PW.pt (pw_and (PW.pt (pw_or (zU op_eq (pv 3) zD (zW _)) (wH (zU op_eq (pv 3) zD (zW _))))) (wI (zU op_gt (zS call_len rfl bi.len bt_len (zA (pv 0) pa_nil)) zD (zW _))))) (zH (zO (zL op_cat (yY sl_list (pv 0) po_none (xL (xT un_neg zD))) (zX (zA (yJ (zA (zN ix_list (zX (zA yA (zA yA pa_nil))) (zL op_sub (pv 3) zD) (fun _ _ => rfl)) (zA (zN ix_list (pv 0) (xT un_neg zD) (fun _ _ => rfl)) (zA (zN ix_list (pv 0) (xT un_neg zD) (fun _ _ => rfl)) pa_nil)))) pa_nil))))) pss_nil) (zE (yC (PW.pt (pw_and (zU op_eq (pv 3) zD (zW _)) (wI (zU op_gt (zS call_len rfl bi.len bt_len (zA (pv 0) pa_nil)) zD (zW _))))) (zH (zO (zL op_cat (yY sl_list (pv 0) po_none (xL (xT un_neg zD))) (zX (zA (yJ (zA (zN ix_list (zX (zA yA (zA yA pa_nil))) (zL op_mod (pv 4) zD) (fun _ _ => rfl)) (zA (zN ix_list (pv 0) (xT un_neg zD) (fun _ _ => rfl)) (zA (zN ix_list (pv 0) (xT un_neg zD) (fun _ _ => rfl)) (zA (zN ix_list (pv 0) (xT un_neg zD) (fun _ _ => rfl)) pa_nil))))) pa_nil))))) pss_nil) (zE (yC (zU op_ge (pv 4) (zL op_mul zD (zS call_len rfl bi.len bt_len (zA (pv 2) pa_nil))) (zW _)) (zH (zO (zL op_cat (pv 0) (zX (zA (zN ix_list (zX (zA (yJ (zA yA pa_nil)) (zA (yJ (zA yA pa_nil)) pa_nil))) (zL op_sub (pv 4) (zL op_mul zD (zS call_len rfl bi.len bt_len (zA (pv 2) pa_nil)))) (fun _ _ => rfl)) pa_nil))))) pss_nil) (zH (zO (zL op_cat (pv 0) (zX (zA (yJ (zA yA (zA (zN ix_list (pv 2) (zL op_mod (pv 4) (zS call_len rfl bi.len bt_len (zA (pv 2) pa_nil))) (fun _ _ => rfl)) pa_nil))) pa_nil))))))))))), ?_⟩
 refine zI fun N hN => ?_
 simp! []
 refine ⟨by decide, hN _ _ ?_⟩
 clear hN
 refine zI fun N hN => ?_
 simp! []
 refine ⟨⟨by decide, by decide⟩, m, .inl ⟨_, SqL.of hn.lst, by rw [List.length_map, hn.len]⟩, .inl ⟨by decide, by decide⟩, by omega, hN _ _ ?_⟩
 clear hN
 have hp0 := Int.emod_nonneg (c / 8) (b := 2 * (m : Int) + 2) (by omega)
 have hp1 := Int.emod_lt_of_pos (c / 8) (b := 2 * (m : Int) + 2) (by omega)
 generalize c / 8 % (2 * (m : Int) + 2) = pick at hp0 hp1
 have hw : 0 <= c % 8 /\ c % 8 < 8 := by omega
 generalize c % 8 = way at hw
 have fin : ∀ (k : Nat) (w : Str) (J : Hp) (p1 p3 : Addr), 1 <= k -> k <= ts.length -> Sh w k -> Same H J -> J p1 = some (.tup (.str w :: us.drop (us.length - k))) -> J p3 = some (.lst (us.take (us.length - k) ++ [.ref p1])) -> Q (.ref p3) J := fun k w J p1 p3 hk1 hk hs sJ j1 j3 => by
   refine q p3 _ (ts.take (ts.length - k) ++ [.node w (ts.drop (ts.length - k))]) (d + 1) J sJ j3 ?_ (ok.fold k w hk hs) (by simp) (by rw [List.length_append, List.length_take, List.length_singleton]; omega) (by rw [List.length_append, List.length_take, List.length_singleton]; omega)
   rw [hul] at j1 ⊢
   exact TAts.append (TAts.take _ (DAts.same sJ hts)) (TAts.one (TAt.mkNode j1 (TAts.drop _ (DAts.same sJ hts))))
 have tk : ∀ (k : Nat), (us.take (us.length - k)).length + 1 <= sizeLine := fun k => zK (by rw [List.length_take]; omega)
 refine zR (fun σ H' => H' = H /\ σ = [some (V.ref sa), some (V.int c), some (V.ref na), some (V.int way), some (V.int pick)]) (fun N hN => ?_) (fun σ H' h => ?_)
 · refine if_abs fun T U hT hU => ?_
   have hU' : U H := hU H (by simp! []; exact hN _ _ ⟨rfl, rfl⟩)
   have hT' : 1 <= us.length -> T H := fun h => by
     refine hT H ?_
     obtain ⟨a, hd, ha⟩ := last1 h
     simp! []
     have ci : jR us none (some (-1)) = us.take (us.length - 1) := qG us 1 (by omega) h
     refine ⟨_, SqL.of hsa, fun p1 hp1 => ?_⟩
     rw [ci]
     have s1 := zC hp1 (.lst (us.take (us.length - 1)))
     have k1 : upd H p1 (.lst (us.take (us.length - 1))) p1 = some (.lst (us.take (us.length - 1))) := zB
     generalize upd H p1 (.lst (us.take (us.length - 1))) = H1 at s1 k1 ⊢
     refine ⟨_, SqL.of (s1 _ _ hsa), a, ha, zK (by decide), fun p2 hp2 => ?_⟩
     have s2 := zC hp2 (.tup [V.str "not", a])
     have k2 : upd H1 p2 (.tup [V.str "not", a]) p2 = some (.tup (V.str "not" :: us.drop (us.length - 1))) := by rw [zB, hd]
     replace k1 := s2 _ _ k1
     generalize upd H1 p2 (.tup [V.str "not", a]) = H2 at s2 k1 k2 ⊢
     refine ⟨zK (by decide), fun p3 hp3 => ?_⟩
     have s3 := zC hp3 (.lst [V.ref p2])
     have k3 : upd H2 p3 (.lst [V.ref p2]) p3 = some (.lst [V.ref p2]) := zB
     replace k1 := s3 _ _ k1
     replace k2 := s3 _ _ k2
     generalize upd H2 p3 (.lst [V.ref p2]) = H3 at s3 k1 k2 k3 ⊢
     refine ⟨_, k1, _, k3, tk 1, fun p4 hp4 => ?_⟩
     have s4 := zC hp4 (.lst (us.take (us.length - 1) ++ [V.ref p2]))
     exact fin 1 "not" _ p2 p4 (by omega) (by omega) (.inr (.inr (.inl ⟨rfl, rfl⟩))) (((s1.trans s2).trans s3).trans s4) (s4 _ _ k2) zB
   simp! []
   have both : ∃ x, LenV K (V.ref sa) H x /\ if (0 : Int) < (x : Int) then T H else U H := by
     refine ⟨us.length, .inl ⟨_, SqL.of hsa, rfl⟩, ?_⟩
     split
     · exact hT' (by omega)
     · exact hU'
   refine ⟨rfl, ?_⟩
   split
   · exact both
   · refine ⟨rfl, ?_⟩
     split
     · exact both
     · exact hU'
 obtain ⟨rfl, rfl⟩ := h
 refine zR (fun σ H'' => H'' = H' /\ σ = [some (V.ref sa), some (V.int c), some (V.ref na), some (V.int way), some (V.int pick)]) (fun N hN => ?_) (fun σ H'' h => ?_)
 · refine if_abs fun T U hT hU => ?_
   have hU' : U H' := hU H' (by simp! []; exact hN _ _ ⟨rfl, rfl⟩)
   have hT' : 2 <= us.length -> 0 <= way - 5 /\ way - 5 < 2 -> T H' := fun h hway => by
     refine hT H' ?_
     obtain ⟨a, b, hd, ha, hb⟩ := last2 h
     obtain ⟨wd, hwd, hwi⟩ := vJ _ hway
     simp! []
     have ci : jR us none (some (-2)) = us.take (us.length - 2) := qG us 2 (by omega) h
     refine ⟨_, SqL.of hsa, fun p1 hp1 => ?_⟩
     rw [ci]
     have s1 := zC hp1 (.lst (us.take (us.length - 2)))
     have k1 : upd H' p1 (.lst (us.take (us.length - 2))) p1 = some (.lst (us.take (us.length - 2))) := zB
     generalize upd H' p1 (.lst (us.take (us.length - 2))) = H1 at s1 k1 ⊢
     refine ⟨zK (by decide), fun p0 hp0 => ?_⟩
     have s0 := zC hp0 (.lst [V.str "both", V.str "either"])
     have k0 : upd H1 p0 (.lst [V.str "both", V.str "either"]) p0 = some (.lst [V.str "both", V.str "either"]) := zB
     replace k1 := s0 _ _ k1
     replace s1 := s1.trans s0
     generalize upd H1 p0 (.lst [V.str "both", V.str "either"]) = H0 at s0 k0 k1 s1 ⊢
     refine ⟨_, SqL.of k0, _, hwi, _, SqL.of (s1 _ _ hsa), a, ha, _, SqL.of (s1 _ _ hsa), b, hb, zK (by decide), fun p2 hp2 => ?_⟩
     have s2 := zC hp2 (.tup [V.str wd, a, b])
     have k2 : upd H0 p2 (.tup [V.str wd, a, b]) p2 = some (.tup (V.str wd :: us.drop (us.length - 2))) := by rw [zB, hd]
     replace k1 := s2 _ _ k1
     generalize upd H0 p2 (.tup [V.str wd, a, b]) = H2 at s2 k1 k2 ⊢
     refine ⟨zK (by decide), fun p3 hp3 => ?_⟩
     have s3 := zC hp3 (.lst [V.ref p2])
     have k3 : upd H2 p3 (.lst [V.ref p2]) p3 = some (.lst [V.ref p2]) := zB
     replace k1 := s3 _ _ k1
     replace k2 := s3 _ _ k2
     generalize upd H2 p3 (.lst [V.ref p2]) = H3 at s3 k1 k2 k3 ⊢
     refine ⟨_, k1, _, k3, tk 2, fun p4 hp4 => ?_⟩
     have s4 := zC hp4 (.lst (us.take (us.length - 2) ++ [V.ref p2]))
     exact fin 2 wd _ p2 p4 (by omega) (by omega) (sh_two hwd (by omega)) (((s1.trans s2).trans s3).trans s4) (s4 _ _ k2) zB
   simp! []
   have both : 0 <= way - 5 /\ way - 5 < 2 -> ∃ x, LenV K (V.ref sa) H' x /\ if (1 : Int) < (x : Int) then T H' else U H' := fun hway => by
     refine ⟨us.length, .inl ⟨_, SqL.of hsa, rfl⟩, ?_⟩
     split
     · exact hT' (by omega) hway
     · exact hU'
   refine ⟨rfl, ?_⟩
   split
   · exact both (by omega)
   · refine ⟨rfl, ?_⟩
     split
     · exact both (by omega)
     · exact hU'
 obtain ⟨rfl, rfl⟩ := h
 refine zR (fun σ H' => H' = H'' /\ σ = [some (V.ref sa), some (V.int c), some (V.ref na), some (V.int way), some (V.int pick)]) (fun N hN => ?_) (fun σ H' h => ?_)
 · refine if_abs fun T U hT hU => ?_
   have hU' : U H'' := hU H'' (by simp! []; exact hN _ _ ⟨rfl, rfl⟩)
   have hT' : 3 <= us.length -> T H'' := fun h => by
     refine hT H'' ?_
     obtain ⟨a, b, e, hd, ha, hb, he⟩ := last3 h
     obtain ⟨wd, hwd, hwi⟩ := vJ (pick % 2) (by omega)
     simp! []
     have ci : jR us none (some (-3)) = us.take (us.length - 3) := qG us 3 (by omega) h
     refine ⟨_, SqL.of hsa, fun p1 hp1 => ?_⟩
     rw [ci]
     have s1 := zC hp1 (.lst (us.take (us.length - 3)))
     have k1 : upd H'' p1 (.lst (us.take (us.length - 3))) p1 = some (.lst (us.take (us.length - 3))) := zB
     generalize upd H'' p1 (.lst (us.take (us.length - 3))) = H1 at s1 k1 ⊢
     refine ⟨zK (by decide), fun p0 hp0 => ?_⟩
     have s0 := zC hp0 (.lst [V.str "both", V.str "either"])
     have k0 : upd H1 p0 (.lst [V.str "both", V.str "either"]) p0 = some (.lst [V.str "both", V.str "either"]) := zB
     replace k1 := s0 _ _ k1
     replace s1 := s1.trans s0
     generalize upd H1 p0 (.lst [V.str "both", V.str "either"]) = H0 at s0 k0 k1 s1 ⊢
     refine ⟨by decide, _, SqL.of k0, _, hwi, _, SqL.of (s1 _ _ hsa), a, ha, _, SqL.of (s1 _ _ hsa), b, hb, _, SqL.of (s1 _ _ hsa), e, he, zK (by decide), fun p2 hp2 => ?_⟩
     have s2 := zC hp2 (.tup [V.str wd, a, b, e])
     have k2 : upd H0 p2 (.tup [V.str wd, a, b, e]) p2 = some (.tup (V.str wd :: us.drop (us.length - 3))) := by rw [zB, hd]
     replace k1 := s2 _ _ k1
     generalize upd H0 p2 (.tup [V.str wd, a, b, e]) = H2 at s2 k1 k2 ⊢
     refine ⟨zK (by decide), fun p3 hp3 => ?_⟩
     have s3 := zC hp3 (.lst [V.ref p2])
     have k3 : upd H2 p3 (.lst [V.ref p2]) p3 = some (.lst [V.ref p2]) := zB
     replace k1 := s3 _ _ k1
     replace k2 := s3 _ _ k2
     generalize upd H2 p3 (.lst [V.ref p2]) = H3 at s3 k1 k2 k3 ⊢
     refine ⟨_, k1, _, k3, tk 3, fun p4 hp4 => ?_⟩
     have s4 := zC hp4 (.lst (us.take (us.length - 3) ++ [V.ref p2]))
     exact fin 3 wd _ p2 p4 (by omega) (by omega) (sh_two hwd (by omega)) (((s1.trans s2).trans s3).trans s4) (s4 _ _ k2) zB
   simp! []
   refine ⟨rfl, ?_⟩
   split
   · refine ⟨us.length, .inl ⟨_, SqL.of hsa, rfl⟩, ?_⟩
     split
     · exact hT' (by omega)
     · exact hU'
   · exact hU'
 obtain ⟨rfl, rfl⟩ := h
 refine zR (fun σ H'' => H'' = H' /\ pick < 2 * (m : Int) /\ σ = [some (V.ref sa), some (V.int c), some (V.ref na), some (V.int way), some (V.int pick)]) (fun N hN => ?_) (fun σ H'' h => ?_)
 · simp! []
   have lm : ∀ {J : Hp}, Same H' J -> LenV K (V.ref na) J m := fun sJ => .inl ⟨_, SqL.of (sJ _ _ hn.lst), by rw [List.length_map, hn.len]⟩
   refine ⟨m, lm (Same.refl _), .inl ⟨by decide, by decide⟩, ?_⟩
   by_cases hpm : 2 * (m : Int) <= pick
   case neg =>
     rw [if_neg hpm]
     exact hN _ _ ⟨rfl, by omega, rfl⟩
   rw [if_pos hpm]
   refine ⟨zK (by decide), fun p1 hp1 => ?_⟩
   have s1 := zC hp1 (.tup [V.str "none"])
   have k1 : upd H' p1 (.tup [V.str "none"]) p1 = some (.tup [V.str "none"]) := zB
   generalize upd H' p1 (.tup [V.str "none"]) = H1 at s1 k1 ⊢
   refine ⟨zK (by decide), fun p2 hp2 => ?_⟩
   have s2 := zC hp2 (.tup [V.str "all"])
   have k2 : upd H1 p2 (.tup [V.str "all"]) p2 = some (.tup [V.str "all"]) := zB
   replace k1 := s2 _ _ k1
   replace s1 := s1.trans s2
   generalize upd H1 p2 (.tup [V.str "all"]) = H2 at s1 k1 k2 ⊢
   clear s2
   refine ⟨zK (by decide), fun p3 hp3 => ?_⟩
   have s3 := zC hp3 (.lst [V.ref p1, V.ref p2])
   have k3 : upd H2 p3 (.lst [V.ref p1, V.ref p2]) p3 = some (.lst [V.ref p1, V.ref p2]) := zB
   replace k1 := s3 _ _ k1
   replace k2 := s3 _ _ k2
   replace s1 := s1.trans s3
   generalize upd H2 p3 (.lst [V.ref p1, V.ref p2]) = H3 at s1 k1 k2 k3 ⊢
   clear s3
   obtain ⟨w, pw, hpw, hw0, hwi⟩ : ∃ (w : Str) (pw : Addr), H3 pw = some (.tup [V.str w]) /\ Sh w 0 /\ atI [V.ref p1, V.ref p2] (pick - 2 * (m : Int)) = some (.ref pw) := by
     have : pick - 2 * (m : Int) = 0 \/ pick - 2 * (m : Int) = 1 := by omega
     rcases this with e | e
     · rw [e]; exact ⟨"none", p1, k1, .inl ⟨rfl, rfl⟩, rfl⟩
     · rw [e]; exact ⟨"all", p2, k2, .inr (.inl ⟨rfl, rfl⟩), rfl⟩
   refine ⟨m, lm s1, .inl ⟨by decide, by decide⟩, _, SqL.of k3, _, hwi, zK (by decide), fun p4 hp4 => ?_⟩
   have s4 := zC hp4 (.lst [V.ref pw])
   have k4 : upd H3 p4 (.lst [V.ref pw]) p4 = some (.lst [V.ref pw]) := zB
   replace hpw := s4 _ _ hpw
   replace s1 := s1.trans s4
   generalize upd H3 p4 (.lst [V.ref pw]) = H4 at s1 hpw k4 ⊢
   refine ⟨_, s1 _ _ hsa, _, k4, zK (by simp; omega), fun p5 hp5 => ?_⟩
   have s5 := zC hp5 (.lst (us ++ [V.ref pw]))
   refine q p5 (us ++ [V.ref pw]) (ts ++ [.node w []]) d _ (s1.trans s5) zB (TAts.append (DAts.same (s1.trans s5) hts) (TAts.one (TAt.mkNode (ts := []) (vs := []) (s5 _ _ hpw) rfl))) (ok.leaf (t := .node w []) ⟨hw0, rfl⟩ (fun x hx => by rw [nms, nmss] at hx; cases hx) (by rw [wt, wts])) (by simp) (by simp) (by simp; omega)
 obtain ⟨rfl, hpk, rfl⟩ := h
 simp! []
 obtain ⟨j, hj, hjl⟩ : ∃ j : Nat, pick % (m : Int) = (j : Int) /\ j < m := by
   have a1 := Int.emod_nonneg pick (b := (m : Int)) (by omega)
   have a2 := Int.emod_lt_of_pos pick (b := (m : Int)) (by omega)
   exact ⟨(pick % (m : Int)).toNat, by omega, by omega⟩
 have hjz : j < zs.length := by rw [hn.len]; exact hjl
 refine ⟨m, .inl ⟨_, SqL.of hn.lst, by rw [List.length_map, hn.len]⟩, by omega, _, SqL.of hn.lst, .str zs[j], by rw [hj]; exact yB (by rw [List.getElem?_map, List.getElem?_eq_getElem hjz]; rfl), zK (by decide), fun p1 hp1 => ?_⟩
 have s1 := zC hp1 (.tup [V.str "name", V.str zs[j]])
 have k1 : upd H'' p1 (.tup [V.str "name", V.str zs[j]]) p1 = some (.tup [V.str "name", V.str zs[j]]) := zB
 generalize upd H'' p1 (.tup [V.str "name", V.str zs[j]]) = H1 at s1 k1 ⊢
 refine ⟨zK (by decide), fun p4 hp4 => ?_⟩
 have s4 := zC hp4 (.lst [V.ref p1])
 have k4 : upd H1 p4 (.lst [V.ref p1]) p4 = some (.lst [V.ref p1]) := zB
 replace k1 := s4 _ _ k1
 replace s1 := s1.trans s4
 generalize upd H1 p4 (.lst [V.ref p1]) = H4 at s1 k1 k4 ⊢
 refine ⟨_, s1 _ _ hsa, _, k4, zK (by simp; omega), fun p5 hp5 => ?_⟩
 have s5 := zC hp5 (.lst (us ++ [V.ref p1]))
 refine q p5 (us ++ [V.ref p1]) (ts ++ [.name zs[j]]) d _ (s1.trans s5) zB (TAts.append (DAts.same (s1.trans s5) hts) (TAts.one (TAt.mkName (s5 _ _ k1)))) (ok.leaf (t := .name zs[j]) (hn.nm _ (List.getElem_mem hjz)) (fun x hx => by rw [nms, List.mem_singleton] at hx; rw [hx]; exact List.getElem_mem hjz) (by rw [wt])) (by simp) (by simp) (by simp; omega)
theorem ok_term (bi : Bi mg) (h_n : Has P w K mg base 1 "_law_draw" ["script", "k"] (spDr K)) (h_m : Has P w K mg base 1 "_law_pushed" ["stack", "cell", "names"] spPu) (F : Fun K "_law_term" "_law_term" s_p f fd) : FnOk P w K mg base CX0 2 f fd ["script", "k", "many", "names"] (spTe K) := by
 refine F.ok sc_p (fun vs H Q E h => ?_) (fun cdv A outer s H vs Q E hr h => ?_)
 · obtain ⟨a, na, ns, k, m, j, zs, rfl, _⟩ := h
   rfl
 obtain ⟨a, na, ns, k, m, j, zs, rfl, hS, hl, hk, h1, h5, hn, hj1, hj2, q⟩ := h
 refine ⟨_, (zE (zM (i := 4) sc_p.nd rfl (Or.inl rfl) (zX pa_nil)) (zE (yO PassesOwn.never rfl (vL rfl bi.range (zA (pv 1) (zA (zL op_add (pv 1) (pv 2)) pa_nil))) (zP (i := 5) sc_p.nd rfl (Or.inl rfl)) (zH (zM (i := 4) sc_p.nd rfl (Or.inl rfl) (zJ h_m (hr.mono (by omega)) rfl (zA (pv 4) (zA (zJ h_n (hr.mono (by omega)) rfl (zA (pv 0) (zA (pv 5) pa_nil))) (zA (pv 3) pa_nil))))))) (zE (ps_while PassesOwn.never (zU op_gt (zS call_len rfl bi.len bt_len (zA (pv 4) pa_nil)) zD (zW _)) (zH (zM (i := 4) sc_p.nd rfl (Or.inl rfl) (zL op_cat (yY sl_list (pv 4) po_none (xL (xT un_neg zD))) (zX (zA (yJ (zA yA (zA (zN ix_list (pv 4) (xT un_neg zD) (fun _ _ => rfl)) (zA (zN ix_list (pv 4) (xT un_neg zD) (fun _ _ => rfl)) pa_nil)))) pa_nil)))))) (zH (zO (zN ix_list (pv 4) zD (fun _ _ => rfl))))))), ?_⟩
 refine zI fun N hN => ?_
 simp! []
 refine ⟨zK (by decide), fun p0 hp0 => hN _ _ ?_⟩
 clear hN
 have s0 := zC hp0 (.lst [])
 have k0 : upd H p0 (.lst []) p0 = some (.lst []) := zB
 generalize upd H p0 (.lst []) = H0 at s0 k0 ⊢
 refine zR (fun σ H' => ∃ (p : Addr) (us : List V) (ts : List Tm) (d : Nat) (o : Option V), Same H H' /\ H' p = some (.lst us) /\ TAts H' ts us /\ TsOk zs d m ts /\ ts ≠ [] /\ d + ts.length <= m /\ σ = [some (V.ref a), some (V.int k), some (V.int m), some (V.ref na), some (V.ref p), o]) (fun N hN => ?_) (fun σ H' h => ?_)
 · simp! []
   refine ⟨by omega, by omega, by omega, by omega, ?_⟩
   refine xC (n := ((k : Int) + (m : Int) - (k : Int)).toNat) (fun i σ H' => ∃ (p : Addr) (us : List V) (ts : List Tm) (d : Nat) (o : Option V), Same H H' /\ H' p = some (.lst us) /\ TAts H' ts us /\ TsOk zs d i ts /\ (0 < i -> ts ≠ []) /\ d + ts.length <= i /\ σ = [some (V.ref a), some (V.int k), some (V.int m), some (V.ref na), some (V.ref p), o]) ⟨p0, [], [], 0, _, s0, k0, rfl, ⟨(fun t ht => by cases ht), (fun t ht => by cases ht), Nat.le_refl _⟩, fun z => absurd z (Nat.lt_irrefl _), Nat.le_refl _, rfl⟩ (fun i σ H' hi h => ?_) (fun σ H' h => ?_)
   · obtain ⟨p, us, ts, dd, o, s1, k1, hts, ok, hne, htl, rfl⟩ := h
     have e0 : (k : Int) + (i : Int) = ((k + i : Nat) : Int) := by omega
     simp! [spDr, spPu]
     rw [e0]
     refine ⟨ns, k + i, rfl, Same.seq s1 hS, hl, by omega, fun z hz => ?_⟩
     refine ⟨hz, us, k1, ts, hts, j, dd, i, zs, ok, by omega, hn.same s1, hj1, hj2, fun p' us' ts' d' H2 s2 k2 hts2 ok2 hne2 hl2 hd2 => ?_⟩
     exact ⟨s1.trans s2, p', us', k2, ts', hts2, d', ok2, fun _ => hne2, by omega, rfl, _, rfl⟩
   · obtain ⟨p, us, ts, dd, o, s1, k1, hts, ok, hne, htl, rfl⟩ := h
     have em : ((k : Int) + (m : Int) - (k : Int)).toNat = m := by omega
     rw [em] at ok hne htl
     exact hN _ _ ⟨p, us, ts, dd, _, s1, k1, hts, ok, hne (by omega), htl, rfl⟩
 obtain ⟨p, us, ts, dd, o, s1, k1, hts, ok, hne, htl, rfl⟩ := h
 refine zR (fun σ H' => ∃ (p : Addr) (v : V) (t : Tm) (o : Option V), Same H H' /\ H' p = some (.lst [v]) /\ TAt H' t v /\ Fit 20 t /\ wt t <= 100 /\ (∀ x ∈ nms t, x ∈ zs) /\ σ = [some (V.ref a), some (V.int k), some (V.int m), some (V.ref na), some (V.ref p), o]) (fun N hN => ?_) (fun σ H' h => ?_)
 · simp! [tWhile]
   refine ⟨fun mm σ H' => ∃ (p : Addr) (us : List V) (ts : List Tm) (o : Option V) (d n : Nat), mm = ts.length /\ Same H H' /\ H' p = some (.lst us) /\ TAts H' ts us /\ TsOk zs d n ts /\ ts ≠ [] /\ d + ts.length <= m /\ n + ts.length <= 2 * m /\ σ = [some (V.ref a), some (V.int k), some (V.int m), some (V.ref na), some (V.ref p), o], ⟨_, p, us, ts, _, dd, m, rfl, s1, k1, hts, ok, hne, by omega, by omega, rfl⟩, fun mm σ H' h => ?_⟩
   clear s1 k1 hts ok hne htl
   obtain ⟨p, us, ts, o, d, n, rfl, s1, k1, hts, ok, hne, hd, hn', rfl⟩ := h
   have hul := hts.length
   simp! []
   refine ⟨us.length, .inl ⟨_, SqL.of k1, rfl⟩, ?_⟩
   by_cases h2 : (1 : Int) < (us.length : Int)
   case neg =>
     rw [if_neg h2]
     have hl1 : ts.length = 1 := by
       have : ts.length ≠ 0 := fun z => hne (List.eq_nil_of_length_eq_zero z)
       omega
     obtain ⟨t, rfl⟩ : ∃ t, ts = [t] := by
       match ts, hl1 with
       | [t], _ => exact ⟨t, rfl⟩
     obtain ⟨v, r, e1, e2, e3⟩ := hts
     have e3 : r = [] := e3
     subst e3; subst e1
     have hw := ok.sz
     rw [wts, wts] at hw
     exact hN _ _ ⟨p, v, t, _, s1, k1, e2, (ok.fit t (by simp)).mono (by omega), by omega, ok.nam t (by simp), rfl⟩
   rw [if_pos h2]
   obtain ⟨x, y, hdr, hx, hy⟩ := last2 (us := us) (by omega)
   have ci : jR us none (some (-2)) = us.take (us.length - 2) := qG us 2 (by omega) (by omega)
   refine ⟨fun σ' H'' => ∃ (p' : Addr) (us' : List V), Same H H'' /\ H'' p' = some (.lst us') /\ TAts H'' (ts.take (ts.length - 2) ++ [.node "both" (ts.drop (ts.length - 2))]) us' /\ σ' = [some (V.ref a), some (V.int k), some (V.int m), some (V.ref na), some (V.ref p'), o], fun σ' H'' h => ?_, ?_⟩
   · obtain ⟨p', us', s2, k2, hts2, rfl⟩ := h
     have e : (ts.take (ts.length - 2) ++ [Tm.node "both" (ts.drop (ts.length - 2))]).length = ts.length - 1 := by rw [List.length_append, List.length_take, List.length_singleton]; omega
     exact ⟨(ts.take (ts.length - 2) ++ [Tm.node "both" (ts.drop (ts.length - 2))]).length, by rw [e]; omega, p', us', ts.take (ts.length - 2) ++ [Tm.node "both" (ts.drop (ts.length - 2))], rfl, s2, k2, hts2, _, d + 1, n + 1, ok.fold 2 "both" (by omega) (sh_two (.inl rfl) (by omega)), by simp, by rw [e]; omega, by rw [e]; omega, rfl⟩
   refine ⟨_, SqL.of k1, fun p1 hp1 => ?_⟩
   rw [ci]
   have s2 := zC hp1 (.lst (us.take (us.length - 2)))
   have k2 : upd H' p1 (.lst (us.take (us.length - 2))) p1 = some (.lst (us.take (us.length - 2))) := zB
   generalize upd H' p1 (.lst (us.take (us.length - 2))) = H1 at s2 k2 ⊢
   refine ⟨_, SqL.of (s2 _ _ k1), x, hx, _, SqL.of (s2 _ _ k1), y, hy, zK (by decide), fun p2 hp2 => ?_⟩
   have s3 := zC hp2 (.tup [V.str "both", x, y])
   have k3 : upd H1 p2 (.tup [V.str "both", x, y]) p2 = some (.tup (V.str "both" :: us.drop (us.length - 2))) := by rw [zB, hdr]
   replace k2 := s3 _ _ k2
   generalize upd H1 p2 (.tup [V.str "both", x, y]) = H2 at s3 k2 k3 ⊢
   refine ⟨zK (by decide), fun p3 hp3 => ?_⟩
   have s4 := zC hp3 (.lst [V.ref p2])
   have k4 : upd H2 p3 (.lst [V.ref p2]) p3 = some (.lst [V.ref p2]) := zB
   replace k2 := s4 _ _ k2
   replace k3 := s4 _ _ k3
   generalize upd H2 p3 (.lst [V.ref p2]) = H3 at s4 k2 k3 k4 ⊢
   refine ⟨_, k2, _, k4, zK (by rw [List.length_take]; simp; omega), fun p4 hp4 => ?_⟩
   have s5 := zC hp4 (.lst (us.take (us.length - 2) ++ [V.ref p2]))
   have sA := ((s2.trans s3).trans s4).trans s5
   replace k3 := s5 _ _ k3
   have k5 : upd H3 p4 (.lst (us.take (us.length - 2) ++ [V.ref p2])) p4 = some (.lst (us.take (us.length - 2) ++ [V.ref p2])) := zB
   generalize upd H3 p4 (.lst (us.take (us.length - 2) ++ [V.ref p2])) = H4 at sA k3 k5 ⊢
   refine ⟨p4, _, s1.trans sA, k5, ?_, rfl⟩
   rw [hul] at k3 ⊢
   exact TAts.append (TAts.take _ (DAts.same sA hts)) (TAts.one (TAt.mkNode k3 (TAts.drop _ (DAts.same sA hts))))
 obtain ⟨p, v, t, o, s2, k2, htv, hf, hw, hnm, rfl⟩ := h
 simp! []
 exact ⟨_, SqL.of k2, v, at0, q v t _ s2 htv hf hw hnm⟩
end
abbrev s_B : Stmt := top 10
theorem sc_B : FnScope ["numbers", "mask", "n"] ["numbers"] (zG s_B) := ⟨rfl, rfl, rfl, by decide +kernel, rfl, by decide +kernel, by decide +kernel⟩
abbrev s_A : Stmt := top 11
theorem sc_A : FnScope ["mask", "bits", "rest", "low"] ["mask"] (zG s_A) := ⟨rfl, rfl, rfl, by decide +kernel, rfl, by decide +kernel, by decide +kernel⟩
abbrev s_g : Stmt := qE (top 20) 0
theorem sc_g : FnScope ["self", "many", "clashes", "a", "b"] ["self", "many", "clashes"] (zG s_g) := ⟨rfl, rfl, rfl, by decide +kernel, rfl, by decide +kernel, by decide +kernel⟩
abbrev s_b : Stmt := qE (top 20) 1
theorem sc_b : FnScope ["self", "sets", "common", "spots"] ["self", "sets"] (zG s_b) := ⟨rfl, rfl, rfl, by decide +kernel, rfl, by decide +kernel, by decide +kernel⟩
abbrev s_a : Stmt := qE (top 20) 2
theorem sc_a : FnScope ["self", "spots"] ["self", "spots"] (zG s_a) := ⟨rfl, rfl, rfl, by decide +kernel, rfl, by decide +kernel, by decide +kernel⟩
def yS (m : Nat) (ns : List Nat) : Prop := ∀ i, m.testBit i = decide (i ∈ ns)
def spMask (K : PySem.W.Frag) : Sp := fun vs H Q _ => ∃ (a : Addr) (ns : List Nat), vs = [.ref a] /\ SqL K H a (ns.map nV) /\ (∀ n ∈ ns, n < 100) /\ ∀ m : Nat, yS m ns -> Q (.int m) H
def spBits : Sp := fun vs H Q _ => ∃ (m : Nat) (xs : List Nat), vs = [.int m] /\ Bits m xs /\ (∀ x ∈ xs, x < 100) /\ ∀ p H', Same H H' -> H p = none -> H' p = some (.lst (xs.map nV)) -> Q (.ref p) H'
theorem mask_put {m n : Nat} {ns : List Nat} (h : yS m ns) : yS (m ||| 2 ^ n) (ns ++ [n]) := fun i => by
 rw [Nat.testBit_or, h, Nat.testBit_two_pow]
 by_cases e : n = i
 · subst e; simp
 · simp [e, Ne.symm e]
theorem bits_len {m : Nat} {xs : List Nat} (h : Bits m xs) (hx : ∀ x ∈ xs, x < 100) : xs.length <= 100 := by
 have : ∀ (xs : List Nat) (b : Nat), xs.Pairwise (· < ·) -> (∀ x ∈ xs, b <= x /\ x < 100) -> xs.length + b <= 100 \/ xs = [] := by
   intro xs
   induction xs with
   | nil => intro b _ _; exact .inr rfl
   | cons x xs ih =>
     intro b hp hb
     have hp' := List.pairwise_cons.mp hp
     have hx := hb x List.mem_cons_self
     rcases ih (x + 1) hp'.2 (fun y hy => ⟨hp'.1 y hy, (hb y (List.mem_cons_of_mem _ hy)).2⟩) with h | h
     · left; rw [List.length_cons]; omega
     · subst h; left; rw [List.length_cons, List.length_nil]; omega
 rcases this xs 0 h.1 (fun x hx' => ⟨Nat.zero_le _, hx x hx'⟩) with h | h
 · omega
 · subst h; simp
section
variable {P : Program} {w : World} {K : PySem.W.Frag} {mg : Str -> Option Value} {base : Heap} {f : Addr} {fd : FuncData}
theorem ok_mask_of (bi : Bi mg) (F : Fun K "mask_of" "mask_of" s_B f fd) : FnOk P w K mg base CX0 1 f fd ["numbers"] (spMask K) := by
 refine F.ok sc_B (fun vs H Q E h => ?_) (fun cdv A outer s H vs Q E hr h => ?_)
 · obtain ⟨a, ns, rfl, _⟩ := h
   rfl
 obtain ⟨a, ns, rfl, ha, hn, q⟩ := h
 refine ⟨_, (zE (zM (i := 1) sc_B.nd rfl (Or.inl rfl) zD) (zE (yO PassesOwn.never rfl (yD (pv 0)) (zP (i := 2) sc_B.nd rfl (Or.inl rfl)) (zH (ps_aug (i := 1) sc_B.nd rfl (Or.inl rfl) (zL op_shl zD (pv 2)) ip_or))) (zH (zO (pv 1))))), ?_⟩
 refine zI fun N hN => ?_
 simp! []
 refine hN _ _ ?_
 clear hN
 refine zR (fun σ H' => H' = H /\ ∃ (m : Nat) (o : Option V), yS m ns /\ σ = [some (V.ref a), some (V.int m), o]) (fun N hN => ?_) (fun σ H' h => ?_)
 · simp! []
   refine ⟨⟨_, ha⟩, ?_⟩
   refine xM (xs := ns.map nV) (fun i σ H' => H' = H /\ ∃ (m : Nat) (o : Option V), yS m (ns.take i) /\ σ = [some (V.ref a), some (V.int m), o]) ⟨rfl, 0, _, fun i => by simp, rfl⟩ (fun i σ H' _ h => by rw [h.1]; exact ha) (fun i x σ H' hx h => ?_) (fun σ H' h => ?_)
   · obtain ⟨rfl, m, o, hm, rfl⟩ := h
     rw [List.getElem?_map] at hx
     cases hni : ns[i]? with
     | none => rw [hni] at hx; cases hx
     | some n =>
       rw [hni] at hx
       cases hx
       have hnb := hn n (List.mem_of_getElem? hni)
       simp! [tAug, ipI]
       refine ⟨⟨by omega, by omega, by decide⟩, m ||| 2 ^ n, ?_, ?_, _, rfl⟩
       · obtain ⟨hi, e⟩ := List.getElem?_eq_some_iff.mp hni
         rw [List.take_succ_eq_append_getElem hi, e]
         exact mask_put hm
       · rw [uB, wP]
   · obtain ⟨rfl, m, o, hm, rfl⟩ := h
     rw [List.length_map, List.take_of_length_le (Nat.le_refl _)] at hm
     exact hN _ _ ⟨rfl, m, o, hm, rfl⟩
 obtain ⟨rfl, m, o, hm, rfl⟩ := h
 simp! []
 exact q m hm
theorem ok_bits_of (bi : Bi mg) (F : Fun K "bits_of" "bits_of" s_A f fd) : FnOk P w K mg base CX0 1 f fd ["mask"] spBits := by
 refine F.ok sc_A (fun vs H Q E h => ?_) (fun cdv A outer s H vs Q E hr h => ?_)
 · obtain ⟨m, xs, rfl, _⟩ := h
   rfl
 obtain ⟨m, xs, rfl, hb, hx, q⟩ := h
 have hxl := bits_len hb hx
 refine ⟨_, (zE (zM (i := 1) sc_A.nd rfl (Or.inl rfl) (zX pa_nil)) (zE (zM (i := 2) sc_A.nd rfl (Or.inl rfl) (pv 0)) (zE (ps_while PassesOwn.never (pt_truth (pv 2) (fun _ => rfl)) (zE (zM (i := 3) sc_A.nd rfl (Or.inl rfl) (zL op_and (pv 2) (xT un_neg (pv 2)))) (zE (yT (xZ PySem.F.plainAttrs_list PySem.F.slot_list_append PySem.F.type_list_append mt_append (pv 1) (zA (zL op_sub (pe_bm0 PySem.F.plainAttrs_int PySem.F.slot_int_bit_length PySem.F.type_int_bit_length mt_bit_length (pv 3)) zD) pa_nil))) (zH (ps_aug (i := 2) sc_A.nd rfl (Or.inl rfl) (pv 3) ip_xor))))) (zH (zO (pv 1)))))), ?_⟩
 refine zI fun N hN => ?_
 simp! []
 refine ⟨zK (by simp), fun p hp => hN _ _ ?_⟩
 clear hN
 refine zI fun N hN => ?_
 simp! []
 refine hN _ _ ?_
 clear hN
 have s1 := zC hp (.lst [])
 have k1 : upd H p (.lst []) p = some (.lst ((xs.take 0).map nV)) := zB
 generalize upd H p (.lst []) = H1 at s1 k1 ⊢
 refine zR (fun σ H' => ∃ (o1 o2 : Option V), Same H H' /\ H' p = some (.lst (xs.map nV)) /\ σ = [some (V.int m), some (V.ref p), o1, o2]) (fun N hN => ?_) (fun σ H' h => ?_)
 · simp! [tWhile]
   refine ⟨fun k σ H' => ∃ (i r : Nat) (o : Option V), k = xs.length - i /\ i <= xs.length /\ Same H H' /\ H' p = some (.lst ((xs.take i).map nV)) /\ Bits r (xs.drop i) /\ σ = [some (V.int m), some (V.ref p), some (V.int r), o], ⟨_, 0, m, _, rfl, Nat.zero_le _, s1, k1, hb, rfl⟩, fun k σ H' h => ?_⟩
   obtain ⟨i, r, o, rfl, hi, s2, k2, hr', rfl⟩ := h
   simp! []
   refine ⟨_, rfl, ?_⟩
   cases hd : xs.drop i with
   | nil =>
     rw [hd] at hr'
     have e0 := hr'.nil
     subst e0
     rw [if_neg (by decide)]
     have hil : xs.length <= i := by
       have := congrArg List.length hd
       rw [List.length_drop, List.length_nil] at this
       omega
     rw [List.take_of_length_le hil] at k2
     exact hN _ _ ⟨_, _, s2, k2, rfl⟩
   | cons x rest =>
     rw [hd] at hr'
     have hxb : r.testBit x = true := by rw [hr'.2]; simp
     obtain ⟨hr0, hl, hb2⟩ := hr'.cons
     rw [if_pos (by simp; omega)]
     have hil : i < xs.length := by
       have := congrArg List.length hd
       rw [List.length_drop, List.length_cons] at this
       omega
     have hxi : xs[i]? = some x := by
       have := congrArg (·[0]?) hd
       simpa using this
     have hdr : xs.drop (i + 1) = rest := by
       have := congrArg (List.drop 1) hd
       rw [List.drop_drop] at this
       simpa using this
     refine ⟨fun σ' H'' => ∃ (o : Option V), Same H H'' /\ H'' p = some (.lst ((xs.take (i + 1)).map nV)) /\ σ' = [some (V.int m), some (V.ref p), some (V.int ((r &&& (r - 1) : Nat) : Int)), o], fun σ' H'' h => ?_, ?_⟩
     · obtain ⟨o', a1, a2, rfl⟩ := h
       exact ⟨xs.length - (i + 1), by omega, i + 1, rfl, by omega, a1, a2, _, by rw [hdr]; exact hb2, _, rfl⟩
     have elow : Builtin.bitAnd (r : Int) (-(r : Int)) = ((2 ^ x : Nat) : Int) := by rw [low_mask hr0, hl]
     simp! [tAug, ipI, rBitLen]
     rw [elow, bits_pow]
     refine ⟨.inl ⟨rfl, _, SqL.of k2⟩, rfl, _, k2, xP (by rw [List.length_map, List.length_take]; omega), s2.upd hp, ?_, xor_low hl hxb, _, rfl⟩
     have e : (((x + 1 : Nat) : Int) - 1) = (x : Int) := by omega
     obtain ⟨_, ei⟩ := List.getElem?_eq_some_iff.mp hxi
     rw [zB, e, List.take_succ_eq_append_getElem hil, ei, List.map_append]
     rfl
 obtain ⟨o1, o2, s2, k2, rfl⟩ := h
 simp! []
 exact q _ _ s2 hp k2
end
def yU (ps : List (Nat × Nat)) (a b : Nat) : Bool := ps.any fun p => (p.1 == a && p.2 == b) || (p.1 == b && p.2 == a)
theorem clOf_comm (ps : List (Nat × Nat)) (a b : Nat) : yU ps a b = yU ps b a := by
 unfold yU
 congr 1
 funext p
 rw [Bool.or_comm]
theorem vX (ps : List (Nat × Nat)) (p : Nat × Nat) (a b : Nat) : yU (ps ++ [p]) a b = (yU ps a b || ((p.1 == a && p.2 == b) || (p.1 == b && p.2 == a))) := by
 unfold yU
 rw [List.any_append]
 simp
def dP2 (p : Nat × Nat) : Dt := .tup [.int p.1, .int p.2]
def Ok2 (m : Nat) (ps : List (Nat × Nat)) : Prop := ∀ p ∈ ps, p.1 < p.2 /\ p.2 < m
theorem p2At {H : Hp} {p : Nat × Nat} {v : V} (h : DAt H (dP2 p) v) : ∃ a, v = .ref a /\ H a = some (.tup [nV p.1, nV p.2]) := by
 obtain ⟨a, vs, e1, e2, u1, r1, q1, h1, u2, r2, q2, h2, h3⟩ := h
 have h1 : u1 = nV p.1 := h1
 have h2 : u2 = nV p.2 := h2
 have h3 : r2 = [] := h3
 subst h3 q2 q1 h1 h2
 exact ⟨a, e1, e2⟩
def cnt (m : Nat) (ps : List (Nat × Nat)) (sp : List Nat) : List Nat := (List.range m).filter fun i => sp.all fun a => yU ps a i
theorem cnt_mem {m : Nat} {ps : List (Nat × Nat)} {sp : List Nat} {i : Nat} : i ∈ cnt m ps sp ↔ i < m /\ (sp.all fun a => yU ps a i) = true := by
 unfold cnt
 rw [List.mem_filter, List.mem_range]
theorem qH (m : Nat) (ps : List (Nat × Nat)) (sp : List Nat) : (cnt m ps sp).Pairwise (· < ·) := List.Pairwise.filter _ List.pairwise_lt_range
theorem all_congr {xs ys : List Nat} (h : ∀ x, x ∈ xs ↔ x ∈ ys) (f : Nat -> Bool) : xs.all f = ys.all f := by
 rw [Bool.eq_iff_iff, List.all_eq_true, List.all_eq_true]
 exact ⟨fun g x hx => g x ((h x).mpr hx), fun g x hx => g x ((h x).mp hx)⟩
theorem qN {m : Nat} {ps : List (Nat × Nat)} {xs ys : List Nat} (h : ∀ x, x ∈ xs ↔ x ∈ ys) : cnt m ps xs = cnt m ps ys := by
 unfold cnt
 congr 1
 funext i
 exact all_congr h _
theorem kE (m : Nat) (ns : List Nat) (h : yS m ns) : ∃ xs, Bits m xs /\ ∀ x, x ∈ xs ↔ x ∈ ns := by
 refine ⟨(List.range (m + 1)).filter fun i => m.testBit i, ⟨List.Pairwise.filter _ List.pairwise_lt_range, fun i => ?_⟩, fun x => ?_⟩
 · rw [Bool.eq_iff_iff, decide_eq_true_eq, List.mem_filter, List.mem_range]
   constructor
   · intro hb
     have := Nat.ge_two_pow_of_testBit hb
     have := Nat.lt_two_pow_self (n := i)
     exact ⟨by omega, hb⟩
   · exact fun hb => hb.2
 · rw [List.mem_filter, List.mem_range, h x, decide_eq_true_eq]
   constructor
   · exact fun hb => hb.2
   · intro hb
     have hb' : m.testBit x = true := by rw [h x]; simpa using hb
     have := Nat.ge_two_pow_of_testBit hb'
     have := Nat.lt_two_pow_self (n := x)
     exact ⟨by omega, hb⟩
structure FlC (K : PySem.W.Frag) (C : Addr) : Prop where
 cl : Cls K C
 nE : NoAttr K C "everywhere"
 nC : NoAttr K C "clashing"
def flF (e : Nat) (l : Addr) : List (Str × V) := [("everywhere", nV e), ("clashing", .ref l)]
theorem fl_e (e : Nat) (l : Addr) : (flF e l).lookup ("everywhere" : Str) = some (nV e) := by
 unfold flF
 rw [List.lookup_cons, show (("everywhere" : Str) == "everywhere") = true by decide +kernel]
theorem fl_c (e : Nat) (l : Addr) : (flF e l).lookup ("clashing" : Str) = some (.ref l) := by
 unfold flF
 rw [List.lookup_cons, show (("clashing" : Str) == "everywhere") = false by decide +kernel, List.lookup_cons, show (("clashing" : Str) == "clashing") = true by decide +kernel]
structure Msk (m : Nat) (ps : List (Nat × Nat)) (cs : List Nat) : Prop where
 len : cs.length = m
 bit : ∀ (a c : Nat), cs[a]? = some c -> ∀ i, c.testBit i = yU ps a i
def FlAt (C : Addr) (H : Hp) (r : Addr) (m : Nat) (ps : List (Nat × Nat)) : Prop := ∃ dx l cs, H r = some (.ins C dx (flF (2 ^ m - 1) l)) /\ H l = some (.lst (cs.map nV)) /\ Msk m ps cs
theorem FlAt.same {C : Addr} {H H' : Hp} {r : Addr} {m : Nat} {ps : List (Nat × Nat)} (e : Same H H') (h : FlAt C H r m ps) : FlAt C H' r m ps := by
 obtain ⟨dx, l, cs, h1, h2, h3⟩ := h
 exact ⟨dx, l, cs, e _ _ h1, e _ _ h2, h3⟩
theorem msk_nil (m : Nat) : Msk m [] (List.replicate m 0) := ⟨List.length_replicate .., fun a c h i => by
 obtain ⟨_, e⟩ := List.getElem?_eq_some_iff.mp h
 rw [List.getElem_replicate] at e
 subst e
 simp [yU]⟩
theorem msk_put {m : Nat} {ps : List (Nat × Nat)} {cs : List Nat} {a b ca cb : Nat} (h : Msk m ps cs) (hab : a ≠ b) (ha : cs[a]? = some ca) (hb : cs[b]? = some cb) : Msk m (ps ++ [(a, b)]) ((cs.set a (ca ||| 2 ^ b)).set b (cb ||| 2 ^ a)) := by
 refine ⟨by rw [List.length_set, List.length_set]; exact h.len, fun x c hx i => ?_⟩
 have la := (List.getElem?_eq_some_iff.mp ha).1
 have lb := (List.getElem?_eq_some_iff.mp hb).1
 rw [vX]
 by_cases e1 : b = x
 · subst e1
   rw [List.getElem?_set_self (by rw [List.length_set]; exact lb)] at hx
   cases hx
   rw [Nat.testBit_or, h.bit b cb hb, Nat.testBit_two_pow]
   have : (a == b) = false := beq_eq_false_iff_ne.mpr hab
   simp only [this, Bool.false_and, Bool.false_or, beq_self_eq_true, Bool.and_true]
   congr 1
 · rw [List.getElem?_set_ne e1] at hx
   by_cases e2 : a = x
   · subst e2
     rw [List.getElem?_set_self la] at hx
     cases hx
     rw [Nat.testBit_or, h.bit a ca ha, Nat.testBit_two_pow]
     have : (b == a) = false := beq_eq_false_iff_ne.mpr (Ne.symm hab)
     simp only [this, Bool.and_false, Bool.or_false, beq_self_eq_true, Bool.true_and]
     congr 1
   · rw [List.getElem?_set_ne e2] at hx
     rw [h.bit x c hx]
     have t1 : (a == x) = false := beq_eq_false_iff_ne.mpr e2
     have t2 : (b == x) = false := beq_eq_false_iff_ne.mpr e1
     simp [t1, t2]
def spFI (C : Addr) : Sp := fun vs H Q _ => ∃ (r dx ca : Addr) (m : Nat) (us : List V) (ps : List (Nat × Nat)), vs = [.ref r, .int m, .ref ca] /\ H r = some (.ins C dx []) /\ ca ≠ r /\ H ca = some (.lst us) /\ DAts H (ps.map dP2) us /\ Ok2 m ps /\ m <= 90 /\ ∀ H', SameX r H H' -> FlAt C H' r m ps -> Q .non H'
def spCo (K : PySem.W.Frag) (C : Addr) : Sp := fun vs H Q _ => ∃ (r sa : Addr) (m : Nat) (ps : List (Nat × Nat)) (ms : List Nat), vs = [.ref r, .ref sa] /\ FlAt C H r m ps /\ SqL K H sa (ms.map nV) /\ ms.length <= 1000 /\ ∀ c : Nat, (∀ i, c.testBit i = (decide (i < m) && ms.all fun x => x.testBit i)) -> Q (.int c) H
def spCn (C : Addr) : Sp := fun vs H Q _ => ∃ (r : Addr) (m s : Nat) (ps : List (Nat × Nat)) (xs : List Nat), vs = [.ref r, .int s] /\ FlAt C H r m ps /\ m <= 90 /\ Bits s xs /\ (∀ x ∈ xs, x < m) /\ ∀ (c : Nat) H', Same H H' -> yS c (cnt m ps xs) -> Q (.int c) H'
section
variable {P : Program} {w : World} {K : PySem.W.Frag} {mg : Str -> Option Value} {base : Heap} {f : Addr} {fd : FuncData}
theorem ok_common {C : Addr} (T : FlC K C) (F : Fun K "common_of" "Floor.common_of" s_b f fd) : FnOk P w K mg base CX0 1 f fd ["self", "sets"] (spCo K C) := by
 refine F.ok sc_b (fun vs H Q E h => ?_) (fun cdv A outer s H vs Q E hr h => ?_)
 · obtain ⟨r, sa, m, ps, ms, rfl, _⟩ := h
   rfl
 obtain ⟨r, sa, m, ps, ms, rfl, ⟨dx, l, cs, hr', hl, hm⟩, hs, h1000, q⟩ := h
 refine ⟨_, (zE (zM (i := 2) sc_b.nd rfl (Or.inl rfl) (uP (pv 0) rfl)) (zE (yO PassesOwn.never rfl (yD (pv 1)) (zP (i := 3) sc_b.nd rfl (Or.inl rfl)) (zH (ps_aug (i := 2) sc_b.nd rfl (Or.inl rfl) (pv 3) ip_and))) (zH (zO (pv 2))))), ?_⟩
 refine zI fun N hN => ?_
 simp! [jK]
 refine ⟨C, dx, _, hr', T.cl, T.nE, _, fl_e _ _, hN _ _ ?_⟩
 clear hN
 refine zR (fun σ H' => H' = H /\ ∃ (c : Nat) (o : Option V), (∀ i, c.testBit i = (decide (i < m) && ms.all fun x => x.testBit i)) /\ σ = [some (V.ref r), some (V.ref sa), some (nV c), o]) (fun N hN => ?_) (fun σ H' h => ?_)
 · simp! []
   refine ⟨⟨_, hs⟩, ?_⟩
   refine xM (xs := ms.map nV) (fun k σ H' => H' = H /\ ∃ (c : Nat) (o : Option V), (∀ i, c.testBit i = (decide (i < m) && (ms.take k).all fun x => x.testBit i)) /\ σ = [some (V.ref r), some (V.ref sa), some (nV c), o]) ⟨rfl, 2 ^ m - 1, _, fun i => by rw [Nat.testBit_two_pow_sub_one]; simp, rfl⟩ (fun i σ H' _ h => by rw [h.1]; exact hs) (fun k x σ H' hx h => ?_) (fun σ H' h => ?_)
   · obtain ⟨rfl, c, o, hc, rfl⟩ := h
     rw [List.getElem?_map] at hx
     cases hni : ms[k]? with
     | none => rw [hni] at hx; cases hx
     | some n =>
       rw [hni] at hx
       cases hx
       simp! [tAug, ipI]
       refine ⟨c &&& n, fun i => ?_, and_mask c n, _, rfl⟩
       obtain ⟨hk, e⟩ := List.getElem?_eq_some_iff.mp hni
       rw [Nat.testBit_and, hc, List.take_succ_eq_append_getElem hk, e, List.all_append, Bool.and_assoc]
       simp
   · obtain ⟨rfl, c, o, hc, rfl⟩ := h
     rw [List.length_map, List.take_of_length_le (Nat.le_refl _)] at hc
     exact hN _ _ ⟨rfl, c, o, hc, rfl⟩
 obtain ⟨rfl, c, o, hc, rfl⟩ := h
 simp! []
 exact q c hc
end
theorem jA (e : Nat) (l : Addr) {x : Str} (h1 : (x == ("everywhere" : Str)) = false) (h2 : (x == ("clashing" : Str)) = false) : (flF e l).lookup x = none := by
 unfold flF
 rw [List.lookup_cons, h1, List.lookup_cons, h2]
 rfl
theorem fl_new (e : Nat) (l : Addr) : xK "clashing" (.ref l) (xK "everywhere" (nV e) []) = flF e l := by
 unfold flF
 rfl
theorem all_mask (m : Nat) : (1 : Int) * 2 ^ (m : Int).toNat - 1 = ((2 ^ m - 1 : Nat) : Int) := by
 rw [uB]
 have := Nat.two_pow_pos m
 omega
theorem rep_zero (m : Nat) : (List.replicate m [V.int 0]).flatten = (List.replicate m 0).map nV := by
 induction m with
 | zero => rfl
 | succ m ih =>
   rw [List.replicate_succ, List.flatten_cons, ih, List.replicate_succ, List.map_cons]
   rfl
theorem uC {n p : Nat} (h : p < n) : ixN n (p : Int) = some p := by
 unfold ixN
 rw [if_pos (by omega), if_pos (by omega), Int.toNat_natCast]
theorem jN {r l : Addr} {H H' : Hp} {o : HO} (e : SameX r H H') (h : H l = none) : SameX r H (upd H' l o) := fun b u hb n => by
 have : b ≠ l := fun z => by rw [z, h] at hb; cases hb
 rw [zQ this]
 exact e b u hb n
section
variable {P : Program} {w : World} {K : PySem.W.Frag} {mg : Str -> Option Value} {base : Heap} {f : Addr} {fd : FuncData}
theorem ok_finit {C : Addr} (T : FlC K C) (F : Fun K "__init__" "Floor.__init__" s_g f fd) : FnOk P w K mg base CX0 1 f fd ["self", "many", "clashes"] (spFI C) := by
 refine F.ok sc_g (fun vs H Q E h => ?_) (fun cdv A outer s H vs Q E hr h => ?_)
 · obtain ⟨r, dx, ca, m, us, ps, rfl, _⟩ := h
   rfl
 obtain ⟨r, dx, ca, m, us, ps, rfl, hr', hcr, hca, hps, hok, hm, q⟩ := h
 have hul : us.length = ps.length := by have := DAts.length hps; rwa [List.length_map] at this
 refine ⟨_, (zE (ps_fld (pv 0) (zL op_sub (zL op_shl zD (pv 1)) zD) rfl) (zE (ps_fld (pv 0) (zL op_rep (zX (zA zD pa_nil)) (pv 1)) rfl) (zH (yO PassesOwn.never rfl (yD (pv 2)) (wN rfl (xG (zP (i := 3) sc_g.nd rfl (Or.inl rfl)) (xG (zP (i := 4) sc_g.nd rfl (Or.inl rfl)) pgs_nil))) (zE (ps_augS (uP (pv 0) rfl) (pv 3) get_list (zL op_shl zD (pv 4)) ip_or set_list) (zH (ps_augS (uP (pv 0) rfl) (pv 4) get_list (zL op_shl zD (pv 3)) ip_or set_list))))))), ?_⟩
 refine zI fun N hN => ?_
 simp! [sFld]
 refine ⟨⟨by omega, by omega, by decide⟩, C, dx, [], hr', T.cl, T.nE, by decide, hN _ _ ?_⟩
 clear hN
 rw [all_mask]
 refine zI fun N hN => ?_
 simp! [sFld, rRep]
 refine ⟨zK (by simp), fun p0 hp0 => ⟨[V.int 0], zB, by omega, by omega, zK (by simp; omega), fun l hl => ?_⟩⟩
 have hn0 : p0 ≠ r := fun z => by rw [z, zB] at hp0; cases hp0
 have hH0 : H p0 = none := by rw [zQ hn0] at hp0; exact hp0
 have hln : l ≠ p0 := fun z => by rw [z, zB] at hl; cases hl
 rw [zQ hln] at hl
 have hlr : l ≠ r := fun z => by rw [z, zB] at hl; cases hl
 rw [zQ hlr] at hl
 have kr : upd (upd (upd H r (.ins C dx (xK "everywhere" (nV (2 ^ m - 1)) []))) p0 (.lst [.int 0])) l (.lst ((List.replicate (m : Int).toNat [V.int 0]).flatten)) r = some (.ins C dx (xK "everywhere" (nV (2 ^ m - 1)) [])) := by
   rw [zQ (Ne.symm hlr), zQ (Ne.symm hn0), zB]
 refine ⟨C, dx, _, kr, T.cl, T.nC, by show 1 < 1000; decide, hN _ _ ?_⟩
 clear hN
 rw [fl_new]
 have x1 : SameX r H (upd (upd (upd (upd H r (.ins C dx (xK "everywhere" (nV (2 ^ m - 1)) []))) p0 (.lst [.int 0])) l (.lst ((List.replicate (m : Int).toNat [V.int 0]).flatten))) r (.ins C dx (flF (2 ^ m - 1) l))) := SameX.upd (jN (jN (SameX.upd (SameX.refl r H)) hH0) hl)
 have x2 : upd (upd (upd (upd H r (.ins C dx (xK "everywhere" (nV (2 ^ m - 1)) []))) p0 (.lst [.int 0])) l (.lst ((List.replicate (m : Int).toNat [V.int 0]).flatten))) r (.ins C dx (flF (2 ^ m - 1) l)) r = some (.ins C dx (flF (2 ^ m - 1) l)) := zB
 have x3 : upd (upd (upd (upd H r (.ins C dx (xK "everywhere" (nV (2 ^ m - 1)) []))) p0 (.lst [.int 0])) l (.lst ((List.replicate (m : Int).toNat [V.int 0]).flatten))) r (.ins C dx (flF (2 ^ m - 1) l)) l = some (.lst ((List.replicate m 0).map nV)) := by
   rw [zQ hlr, zB, Int.toNat_natCast, rep_zero]
 generalize upd (upd (upd (upd H r (.ins C dx (xK "everywhere" (nV (2 ^ m - 1)) []))) p0 (.lst [.int 0])) l (.lst ((List.replicate (m : Int).toNat [V.int 0]).flatten))) r (.ins C dx (flF (2 ^ m - 1) l)) = H1 at x1 x2 x3 ⊢
 clear kr hn0 hln hp0 hH0
 simp! []
 refine ⟨⟨_, SqL.of (x1 _ _ hca hcr)⟩, ?_⟩
 refine xM (xs := us) (fun k σ H' => ∃ (o1 o2 : Option V) (cs : List Nat), SameX r H H' /\ H' r = some (.ins C dx (flF (2 ^ m - 1) l)) /\ H' l = some (.lst (cs.map nV)) /\ Msk m (ps.take k) cs /\ σ = [some (V.ref r), some (V.int m), some (V.ref ca), o1, o2]) ⟨_, _, _, x1, x2, x3, msk_nil m, rfl⟩ (fun k σ H' _ h => ?_) (fun k x σ H' hx h => ?_) (fun σ H' h => ?_)
 · obtain ⟨o1, o2, cs, h1, _⟩ := h
   exact SqL.of (h1 _ _ hca hcr)
 · obtain ⟨o1, o2, cs, h1, h2, h3, h4, rfl⟩ := h
   have hk : k < ps.length := by rw [← hul]; exact (List.getElem?_eq_some_iff.mp hx).1
   obtain ⟨v, hv1, hv2⟩ := DAts.get (d := dP2 ps[k]) hps (by rw [List.getElem?_map, List.getElem?_eq_getElem hk]; rfl)
   rw [hx] at hv1
   cases hv1
   have hab := hok _ (List.getElem_mem hk)
   obtain ⟨t, rfl, ht⟩ := p2At hv2
   have htr : t ≠ r := fun z => by rw [z, hr'] at ht; cases ht
   have ht' := h1 _ _ ht htr
   have e4 : ps.take (k + 1) = ps.take k ++ [(ps[k].1, ps[k].2)] := by rw [List.take_succ_eq_append_getElem hk]
   rw [e4]
   clear e4
   generalize ps[k].1 = a at ht' hab
   generalize ps[k].2 = b at ht' hab
   have la : a < cs.length := by rw [h4.len]; omega
   have lb : b < cs.length := by rw [h4.len]; omega
   have ga := List.getElem?_eq_getElem la
   have gb := List.getElem?_eq_getElem lb
   generalize cs[a] = ca' at ga
   generalize cs[b] = cb' at gb
   simp! [gTup, gCons, gNil, tAugS, jK, rGetL, ipI, rSetL]
   refine ⟨[nV a, nV b], SqT.of ht', rfl, nV a, [nV b], rfl, nV b, [], rfl, rfl, ?_⟩
   have mset : ∀ (cs : List Nat) (i v : Nat), (cs.map nV).set i (V.int (v : Int)) = (cs.set i v).map nV := fun cs i v => (List.map_set (f := nV) (l := cs) (i := i) (a := v)).symm
   refine ⟨C, dx, _, h2, T.cl, T.nC, _, fl_c _ _, l, rfl, _, a, rfl, h3, nV ca', by rw [List.getElem?_map, ga]; rfl, _, rfl, ⟨by omega, by omega, by decide⟩, _, rfl, l, rfl, _, _, rfl, h3, a, uC (by rw [List.length_map]; exact la), ?_⟩
   rw [uB b, wP, mset]
   have gb' : (cs.set a (ca' ||| 2 ^ b))[b]? = some cb' := by rw [List.getElem?_set_ne (by omega)]; exact gb
   have lb' : b < (cs.set a (ca' ||| 2 ^ b)).length := by rw [List.length_set]; exact lb
   have j1 : upd H' l (.lst ((cs.set a (ca' ||| 2 ^ b)).map nV)) r = some (.ins C dx (flF (2 ^ m - 1) l)) := by rw [zQ (Ne.symm hlr)]; exact h2
   have j2 : upd H' l (.lst ((cs.set a (ca' ||| 2 ^ b)).map nV)) l = some (.lst ((cs.set a (ca' ||| 2 ^ b)).map nV)) := zB
   have j3 := jN (o := .lst ((cs.set a (ca' ||| 2 ^ b)).map nV)) h1 hl
   generalize upd H' l (.lst ((cs.set a (ca' ||| 2 ^ b)).map nV)) = H2 at j1 j2 j3 ⊢
   refine ⟨C, dx, _, j1, T.cl, T.nC, _, fl_c _ _, l, rfl, _, b, rfl, j2, nV cb', by rw [List.getElem?_map, gb']; rfl, _, rfl, ⟨by omega, by omega, by decide⟩, _, rfl, l, rfl, _, _, rfl, j2, b, uC (by rw [List.length_map]; exact lb'), ?_⟩
   rw [uB a, wP, mset]
   exact ⟨jN j3 hl, by rw [zQ (Ne.symm hlr)]; exact j1, _, _, _, zB, msk_put h4 (by omega) ga gb, rfl, rfl⟩
 · obtain ⟨o1, o2, cs, h1, h2, h3, h4, rfl⟩ := h
   rw [hul, List.take_of_length_le (Nat.le_refl _)] at h4
   exact q _ h1 ⟨dx, l, cs, h2, h3, h4⟩
theorem vF {C : Addr} (T : FlC K C) (bi : Bi mg) (h_A : Has P w K mg base 1 "bits_of" ["mask"] spBits) (h_b : HasM P w K mg base 1 C "common_of" ["self", "sets"] (spCo K C)) (F : Fun K "counter_of" "Floor.counter_of" s_a f fd) : FnOk P w K mg base CX0 2 f fd ["self", "spots"] (spCn C) := by
 refine F.ok sc_a (fun vs H Q E h => ?_) (fun cdv A outer s H vs Q E hr h => ?_)
 · obtain ⟨r, m, s', ps, xs, rfl, _⟩ := h
   rfl
 obtain ⟨r, m, s', ps, xs, rfl, hfl, hm90, hb, hxm, q⟩ := h
 have hfl' := hfl
 obtain ⟨dx, l, cs, hr', hl, hm⟩ := hfl'
 have hx100 : ∀ x ∈ xs, x < 100 := fun x hx => by have := hxm x hx; omega
 have hxl := bits_len hb hx100
 have cl_Floor := T.cl
 refine ⟨_, (zH (zO (yN h_b cl_Floor (hr.mono (by omega)) (pv 0) (zA (yL ["a"] ["self"] [0] (yD (zJ h_A (hr.mono (by omega)) rfl (zA (pv 1) pa_nil))) (fun _ _ _ _ nd => zP (i := 0) nd rfl (Or.inl rfl)) (fun _ _ _ _ => yI) (fun _ _ _ _ => (zN (qD K) (pe_fldK K (pv 1) rfl) (pv 0) (fun _ _ => rfl)))) pa_nil)))), ?_⟩
 simp! [yW, jK]
 refine ⟨_, _, hr', jA _ _ (by decide +kernel) (by decide +kernel), ?_⟩
 refine ⟨s', xs, rfl, hb, hx100, fun p H1 s1 hp k1 => ⟨p, rfl, ⟨_, SqL.of k1⟩, ?_⟩⟩
 refine xA (xs := xs.map nV) (fun i ys σ H' => H' = H1 /\ ys = ((xs.take i).map fun a => cs.getD a 0).map nV /\ ∃ o, σ = [o, some (V.ref r)]) ⟨rfl, rfl, _, rfl⟩ (zK (by rw [List.length_map]; omega)) (fun i ys σ H' e => ?_) (fun i ys σ H' e => by rw [e.1]; exact SqL.of k1) (fun i x ys σ H' C' hx e hC => ?_) (fun ys σ H' e p3 hp3 => ?_)
 · obtain ⟨_, rfl, _⟩ := e
   rw [List.length_map, List.length_map, List.length_take]
   omega
 · obtain ⟨rfl, rfl, o, rfl⟩ := e
   rw [List.getElem?_map] at hx
   cases hni : xs[i]? with
   | none => rw [hni] at hx; cases hx
   | some n =>
     rw [hni] at hx
     cases hx
     have hn := hxm n (List.mem_of_getElem? hni)
     have hnc : n < cs.length := by rw [hm.len]; exact hn
     simp! [jK]
     refine ⟨C, dx, _, s1 _ _ hr', T.cl, T.nC, _, fl_c _ _, l, rfl, _, SqL.of (s1 _ _ hl), nV (cs.getD n 0), ?_, hC _ _ _ ⟨rfl, ?_, _, rfl⟩⟩
     · refine yB (j := n) ?_
       rw [List.getElem?_map, List.getD_eq_getElem?_getD, List.getElem?_eq_getElem hnc]
       rfl
     · obtain ⟨hi, e⟩ := List.getElem?_eq_some_iff.mp hni
       rw [List.take_succ_eq_append_getElem hi, e, List.map_append, List.map_append]
       rfl
 obtain ⟨rfl, rfl, o, rfl⟩ := e
 rw [List.length_map, List.take_of_length_le (Nat.le_refl _)]
 have s3 := zC hp3 (.lst ((xs.map fun a => cs.getD a 0).map nV))
 refine ⟨r, p3, m, ps, xs.map fun a => cs.getD a 0, rfl, FlAt.same (s1.trans s3) hfl, SqL.of zB, by rw [List.length_map]; omega, fun c hc => q c _ (s1.trans s3) fun i => ?_⟩
 rw [hc, Bool.eq_iff_iff, decide_eq_true_eq, cnt_mem, Bool.and_eq_true, decide_eq_true_eq, List.all_map]
 refine and_congr_right fun _ => ?_
 rw [List.all_eq_true, List.all_eq_true]
 have hbit : ∀ x ∈ xs, (cs.getD x 0).testBit i = yU ps x i := fun x hx => by
   have hnc : x < cs.length := by rw [hm.len]; exact hxm x hx
   rw [List.getD_eq_getElem?_getD, List.getElem?_eq_getElem hnc]
   exact hm.bit x _ (List.getElem?_eq_getElem hnc) i
 constructor
 · intro h x hx
   rw [← hbit x hx]
   exact h x hx
 · intro h x hx
   show (cs.getD x 0).testBit i = true
   rw [hbit x hx]
   exact h x hx
end
abbrev s_j : Stmt := top 29
theorem sc_j : FnScope ["spell", "many", "pairs", "a", "b"] ["spell", "many"] (zG s_j) := ⟨rfl, rfl, rfl, by decide +kernel, rfl, by decide +kernel, by decide +kernel⟩
abbrev s_r : Stmt := top 30
theorem sc_r : FnScope ["many", "pairs", "near", "a", "b"] ["many", "pairs"] (zG s_r) := ⟨rfl, rfl, rfl, by decide +kernel, rfl, by decide +kernel, by decide +kernel⟩
abbrev s_h : Stmt := top 31
theorem sc_h : FnScope ["near", "spots", "found", "spot"] ["near", "spots"] (zG s_h) := ⟨rfl, rfl, rfl, by decide +kernel, rfl, by decide +kernel, by decide +kernel⟩
abbrev s_s : Stmt := top 32
theorem sc_s : FnScope ["cell", "many", "spell", "found", "spot"] ["cell", "many"] (zG s_s) := ⟨rfl, rfl, rfl, by decide +kernel, rfl, by decide +kernel, by decide +kernel⟩
theorem p2s_tups {H H' : Hp} (e : TupSame H H') : ∀ {ps : List (Nat × Nat)} {us : List V}, DAts H (ps.map dP2) us -> DAts H' (ps.map dP2) us
 | [], us, h => h
 | p :: ps, us, h => by
   obtain ⟨v, r, e1, e2, e3⟩ := h
   obtain ⟨a, g1, g2⟩ := p2At e2
   exact ⟨v, r, e1, ⟨a, _, g1, e _ _ g2, _, _, rfl, rfl, _, _, rfl, rfl, rfl⟩, p2s_tups e e3⟩
theorem pair_put {H : Hp} {p t : Addr} {us : List V} {ps : List (Nat × Nat)} {a b : Nat} (k : H p = some (.lst us)) (h : DAts H (ps.map dP2) us) (ht : H t = some (.tup [nV a, nV b])) : DAts (upd H p (.lst (us ++ [.ref t]))) ((ps ++ [(a, b)]).map dP2) (us ++ [.ref t]) := by
 have tu : TupSame H (upd H p (.lst (us ++ [.ref t]))) := (TupSame.refl _).upd_lst k
 refine p2s_tups tu ?_
 rw [List.map_append]
 exact DAts.append h (DAts.one ⟨t, _, rfl, ht, _, _, rfl, rfl, _, _, rfl, rfl, rfl⟩)
theorem ok2_put {m a b : Nat} {ps : List (Nat × Nat)} (h : Ok2 m ps) (h1 : a < b) (h2 : b < m) : Ok2 m (ps ++ [(a, b)]) := fun p hp => by
 rcases List.mem_append.mp hp with hp | hp
 · exact h p hp
 · rw [List.mem_singleton.mp hp]; exact ⟨h1, h2⟩
def spCs : Sp := fun vs H Q _ => ∃ (z : Int) (m : Nat), vs = [.int z, .int m] /\ m <= 90 /\ ∀ p us ps H', Same H H' -> H p = none -> H' p = some (.lst us) -> DAts H' (ps.map dP2) us -> Ok2 m ps -> ps.length <= m * 90 -> Q (.ref p) H'
section
variable {P : Program} {w : World} {K : PySem.W.Frag} {mg : Str -> Option Value} {base : Heap} {f : Addr} {fd : FuncData}
theorem ok_clashes (bi : Bi mg) (F : Fun K "_law_clashes" "_law_clashes" s_j f fd) : FnOk P w K mg base CX0 1 f fd ["spell", "many"] spCs := by
 refine F.ok sc_j (fun vs H Q E h => ?_) (fun cdv A outer s H vs Q E hr h => ?_)
 · obtain ⟨z, m, rfl, _⟩ := h
   rfl
 obtain ⟨z, m, rfl, hm, q⟩ := h
 refine ⟨_, (zE (zM (i := 2) sc_j.nd rfl (Or.inl rfl) (zX pa_nil)) (zE (yO PassesOwn.never rfl (yM rfl bi.range (zA (pv 1) pa_nil)) (zP (i := 3) sc_j.nd rfl (Or.inl rfl)) (zH (yO PassesOwn.never rfl (vL rfl bi.range (zA (zL op_add (pv 3) zD) (zA (pv 1) pa_nil))) (zP (i := 4) sc_j.nd rfl (Or.inl rfl)) (zE (yC (zU op_eq (zL op_mod (pv 0) zD) zD (zW _)) (zH (yT (xZ PySem.F.plainAttrs_list PySem.F.slot_list_append PySem.F.type_list_append mt_append (pv 2) (zA (yJ (zA (pv 3) (zA (pv 4) pa_nil))) pa_nil)))) pss_nil) (zH (zM (i := 0) sc_j.nd rfl (Or.inl rfl) (zL op_fdiv (pv 0) zD))))))) (zH (zO (pv 2))))), ?_⟩
 refine zI fun N hN => ?_
 simp! []
 refine ⟨zK (by simp), fun p hp => hN _ _ ?_⟩
 clear hN
 have s1 := zC hp (.lst [])
 have k1 : upd H p (.lst []) p = some (.lst []) := zB
 generalize upd H p (.lst []) = H1 at s1 k1 ⊢
 refine zR (fun σ H' => ∃ (o1 o2 o3 : Option V) (us : List V) (ps : List (Nat × Nat)), Same H H' /\ H' p = some (.lst us) /\ DAts H' (ps.map dP2) us /\ Ok2 m ps /\ ps.length <= m * 90 /\ σ = [o1, some (V.int m), some (V.ref p), o2, o3]) (fun N hN => ?_) (fun σ H' h => ?_)
 · simp! []
   refine ⟨by omega, by omega, ?_⟩
   refine xC (n := (m : Int).toNat) (fun i σ H' => ∃ (o2 o3 : Option V) (z : Int) (us : List V) (ps : List (Nat × Nat)), Same H H' /\ H' p = some (.lst us) /\ DAts H' (ps.map dP2) us /\ Ok2 m ps /\ ps.length <= i * 90 /\ σ = [some (V.int z), some (V.int m), some (V.ref p), o2, o3]) ⟨_, _, _, [], [], s1, k1, rfl, (fun p z => by cases z), by simp, rfl⟩ (fun i σ H' hi h => ?_) (fun σ H' h => ?_)
   · obtain ⟨o2, o3, z, us, ps, s2, k2, h2, hok, hpl, rfl⟩ := h
     have him : i < m := by omega
     simp! []
     refine ⟨by omega, by omega, by omega, by omega, ?_⟩
     refine xC (fun j σ H' => ∃ (o : Option V) (z : Int) (us : List V) (ps : List (Nat × Nat)), Same H H' /\ H' p = some (.lst us) /\ DAts H' (ps.map dP2) us /\ Ok2 m ps /\ ps.length <= i * 90 + j /\ σ = [some (V.int z), some (V.int m), some (V.ref p), some (V.int (0 + i)), o]) ⟨_, _, us, ps, s2, k2, h2, hok, by omega, rfl⟩ (fun j σ H' hj h => ?_) (fun σ H' h => ?_)
     · obtain ⟨o, z, us, ps, s3, k3, h3, hok, hpl, rfl⟩ := h
       have hjm : i + 1 + j < m := by omega
       have e1 : (0 : Int) + (i : Int) = ((i : Nat) : Int) := by omega
       have e2 : (0 : Int) + (i : Int) + 1 + (j : Int) = ((i + 1 + j : Nat) : Int) := by omega
       simp! []
       refine ⟨by decide, rfl, ?_⟩
       split
       · refine ⟨.inl ⟨rfl, _, SqL.of k3⟩, zK (by simp), fun t ht => ?_⟩
         rw [e2, e1] at *
         have s4 := zC ht (.tup [nV i, nV (i + 1 + j)])
         have kt : upd H' t (.tup [nV i, nV (i + 1 + j)]) t = some (.tup [nV i, nV (i + 1 + j)]) := zB
         generalize upd H' t (.tup [nV i, nV (i + 1 + j)]) = H4 at s4 kt ⊢
         have hul : us.length = ps.length := by have := DAts.length h3; rwa [List.length_map] at this
         exact ⟨us, s4 _ _ k3, Nat.lt_of_le_of_lt (m := 100000) (by omega) (by decide), ⟨by decide, by decide⟩, (s3.trans s4).upd hp, _, _, _, zB, _, pair_put (s4 _ _ k3) (DAts.same s4 h3) kt, ok2_put hok (by omega) hjm, by simp; omega, rfl, rfl⟩
       · exact ⟨⟨by decide, by decide⟩, s3, _, _, us, k3, ps, h3, hok, by omega, rfl, rfl⟩
     · obtain ⟨o, z, us, ps, s3, k3, h3, hok, hpl, rfl⟩ := h
       exact ⟨s3, _, _, _, _, k3, _, h3, hok, by omega, rfl⟩
   · obtain ⟨o2, o3, z, us, ps, s2, k2, h2, hok, hpl, rfl⟩ := h
     exact hN _ _ ⟨_, _, _, us, ps, s2, k2, h2, hok, by omega, rfl⟩
 obtain ⟨o1, o2, o3, us, ps, s2, k2, h2, hok, hpl, rfl⟩ := h
 simp! []
 exact q p us ps _ s2 hp k2 h2 hok hpl
end
def jD (m : Nat) (ps : List (Nat × Nat)) (a : Nat) : List V := (List.range m).map fun b => V.bl (yU ps a b)
def NrAt (H : Hp) (p : Addr) (m : Nat) (ps : List (Nat × Nat)) : Prop := ∃ rs : List Addr, H p = some (.lst (rs.map V.ref)) /\ rs.length = m /\ ∀ (a : Nat) (r : Addr), rs[a]? = some r -> H r = some (.lst (jD m ps a))
theorem NrAt.same {H H' : Hp} {p : Addr} {m : Nat} {ps : List (Nat × Nat)} (e : Same H H') (h : NrAt H p m ps) : NrAt H' p m ps := by
 obtain ⟨rs, h1, h2, h3⟩ := h
 exact ⟨rs, e _ _ h1, h2, fun a r hr => e _ _ (h3 a r hr)⟩
theorem row_set {m b : Nat} (f : Nat -> Bool) (hb : b < m) : ((List.range m).map fun j => V.bl (f j)).set b (V.bl true) = (List.range m).map fun j => V.bl (f j || (b == j)) := by
 apply List.ext_getElem?
 intro i
 by_cases hi : b = i
 · subst hi
   rw [List.getElem?_set_self (by rw [List.length_map, List.length_range]; exact hb), List.getElem?_map, List.getElem?_range hb]
   simp
 · rw [List.getElem?_set_ne hi, List.getElem?_map, List.getElem?_map]
   cases h : (List.range m)[i]? with
   | none => rfl
   | some j =>
     have : j = i := by
       have := List.getElem?_eq_some_iff.mp h
       obtain ⟨h1, h2⟩ := this
       rw [List.getElem_range] at h2
       exact h2.symm
     subst this
     have : (b == j) = false := beq_eq_false_iff_ne.mpr hi
     simp [this]
theorem uK {m a b x : Nat} {ps : List (Nat × Nat)} (hab : a ≠ b) : jD m (ps ++ [(a, b)]) x = (List.range m).map fun j => V.bl (if x = a then yU ps a j || (b == j) else if x = b then yU ps b j || (a == j) else yU ps x j) := by
 unfold jD
 refine List.map_congr_left fun j _ => ?_
 rw [vX]
 congr 1
 by_cases h1 : x = a
 · subst h1
   rw [if_pos rfl]
   have : (b == x) = false := beq_eq_false_iff_ne.mpr (Ne.symm hab)
   simp [this]
 · rw [if_neg h1]
   have t1 : (a == x) = false := beq_eq_false_iff_ne.mpr (Ne.symm h1)
   by_cases h2 : x = b
   · subst h2
     rw [if_pos rfl]
     simp [t1]
   · rw [if_neg h2]
     have t2 : (b == x) = false := beq_eq_false_iff_ne.mpr (Ne.symm h2)
     simp [t1, t2]
theorem rowB_a {m a b : Nat} {ps : List (Nat × Nat)} (hab : a ≠ b) : jD m (ps ++ [(a, b)]) a = (List.range m).map fun j => V.bl (yU ps a j || (b == j)) := by
 rw [uK hab]
 simp only [if_true]
theorem rowB_b {m a b : Nat} {ps : List (Nat × Nat)} (hab : a ≠ b) : jD m (ps ++ [(a, b)]) b = (List.range m).map fun j => V.bl (yU ps b j || (a == j)) := by
 rw [uK hab]
 simp only [if_neg (Ne.symm hab), if_true]
theorem rowB_o {m a b x : Nat} {ps : List (Nat × Nat)} (hab : a ≠ b) (h1 : x ≠ a) (h2 : x ≠ b) : jD m (ps ++ [(a, b)]) x = jD m ps x := by
 rw [uK hab]
 simp only [if_neg h1, if_neg h2]
 rfl
theorem rep_false (m : Nat) (a : Nat) : (List.replicate m [V.bl false]).flatten = jD m [] a := by
 unfold jD yU
 induction m with
 | zero => rfl
 | succ m ih =>
   rw [List.range_succ, List.map_append, ← ih, List.replicate_succ', List.flatten_append]
   rfl
def spNr : Sp := fun vs H Q _ => ∃ (m : Nat) (pa : Addr) (us : List V) (ps : List (Nat × Nat)), vs = [.int m, .ref pa] /\ m <= 90 /\ H pa = some (.lst us) /\ DAts H (ps.map dP2) us /\ Ok2 m ps /\ ∀ p H', Same H H' -> NrAt H' p m ps -> Q (.ref p) H'
def spLc (K : PySem.W.Frag) : Sp := fun vs H Q _ => ∃ (na sa : Addr) (m : Nat) (ps : List (Nat × Nat)) (sp : List Nat), vs = [.ref na, .ref sa] /\ m <= 90 /\ NrAt H na m ps /\ SqL K H sa (sp.map nV) /\ (∀ x ∈ sp, x < m) /\ sp.length <= 1000 /\ ∀ p H', Same H H' -> H p = none -> H' p = some (.lst ((cnt m ps sp).map nV)) -> Q (.ref p) H'
section
variable {P : Program} {w : World} {K : PySem.W.Frag} {mg : Str -> Option Value} {base : Heap} {f : Addr} {fd : FuncData}
theorem ok_near (bi : Bi mg) (F : Fun K "_law_near" "_law_near" s_r f fd) : FnOk P w K mg base CX0 1 f fd ["many", "pairs"] spNr := by
 refine F.ok sc_r (fun vs H Q E h => ?_) (fun cdv A outer s H vs Q E hr h => ?_)
 · obtain ⟨m, pa, us, ps, rfl, _⟩ := h
   rfl
 obtain ⟨m, pa, us, ps, rfl, hm, hpa, hps, hok, q⟩ := h
 have hul : us.length = ps.length := by have := DAts.length hps; rwa [List.length_map] at this
 refine ⟨_, (zE (wK (i := 2) ["a"] ["many"] [0] sc_r.nd rfl (yM rfl bi.range (zA (pv 0) pa_nil)) (fun _ _ _ _ nd => zP (i := 0) nd rfl (Or.inl rfl)) (fun _ _ _ _ => yI) (fun _ _ _ _ => (zL op_rep (zX (zA xH pa_nil)) (pv 1)))) (zE (yO PassesOwn.never rfl (yD (pv 1)) (wN rfl (xG (zP (i := 3) sc_r.nd rfl (Or.inl rfl)) (xG (zP (i := 4) sc_r.nd rfl (Or.inl rfl)) pgs_nil))) (zE (ps_asg xH (pg_sub (zN ix_list (pv 2) (pv 3) (fun _ _ => rfl)) (pv 4) set_list)) (zH (ps_asg xH (pg_sub (zN ix_list (pv 2) (pv 4) (fun _ _ => rfl)) (pv 3) set_list))))) (zH (zO (pv 2))))), ?_⟩
 refine zI fun N hN => ?_
 simp! []
 refine ⟨by omega, by omega, ?_⟩
 refine uV (lo := 0) (n := (m : Int).toNat) (fun i ys σ H' => Same H H' /\ (∃ rs : List Addr, ys = rs.map V.ref /\ rs.length = i /\ rs.Nodup /\ (∀ r ∈ rs, H r = none) /\ ∀ r ∈ rs, H' r = some (.lst (jD m [] 0))) /\ ∃ o, σ = [o, some (V.int m)]) ⟨Same.refl _, ⟨[], rfl, rfl, List.nodup_nil, (fun r z => by cases z), fun r z => by cases z⟩, _, rfl⟩ (zK (by omega)) (fun i ys σ H' e => ?_) (fun i ys σ H' C hi e hC => ?_) (fun ys σ H' e p hp => hN _ _ ?_)
 · obtain ⟨_, ⟨rs, rfl, hl, _⟩, _⟩ := e
   rw [List.length_map]
   omega
 · obtain ⟨es, ⟨rs, rfl, hl, hnd, hfr, hrw⟩, o, rfl⟩ := e
   simp! [rRep]
   refine ⟨zK (by simp), fun p0 hp0 => ⟨[V.bl false], zB, by omega, by omega, zK (by simp; omega), fun r hr' => hC _ _ _ ?_⟩⟩
   have s1 := zC hp0 (.lst [V.bl false])
   have s2 := zC hr' (.lst ((List.replicate (m : Int).toNat [V.bl false]).flatten))
   have kr : upd (upd H' p0 (.lst [V.bl false])) r (.lst ((List.replicate (m : Int).toNat [V.bl false]).flatten)) r = some (.lst (jD m [] 0)) := by rw [zB, Int.toNat_natCast, rep_false m 0]
   have hrn : r ∉ rs := fun z => by
     have := s1 _ _ (hrw r z)
     rw [hr'] at this
     cases this
   generalize upd (upd H' p0 (.lst [V.bl false])) r (.lst ((List.replicate (m : Int).toNat [V.bl false]).flatten)) = H2 at s2 kr ⊢
   have ss := s1.trans s2
   refine ⟨es.trans ss, ⟨rs ++ [r], by rw [List.map_append]; rfl, by simp [hl], List.nodup_append.mpr ⟨hnd, by simp, fun x hx y hy e => hrn (by rw [List.mem_singleton.mp hy] at e; rw [← e]; exact hx)⟩, fun x hx => ?_, fun x hx => ?_⟩, _, rfl⟩
   · rcases List.mem_append.mp hx with hx | hx
     · exact hfr x hx
     · rw [List.mem_singleton.mp hx]
       exact (es.trans s1).free hr'
   · rcases List.mem_append.mp hx with hx | hx
     · exact ss _ _ (hrw x hx)
     · rw [List.mem_singleton.mp hx]
       exact kr
 obtain ⟨es, ⟨rs, rfl, hl, hnd, hfr, hrw⟩, o, rfl⟩ := e
 clear hN
 have s1 := zC hp (.lst (rs.map V.ref))
 have k1 : upd H' p (.lst (rs.map V.ref)) p = some (.lst (rs.map V.ref)) := zB
 have hpr : p ∉ rs := fun z => by
   have := hrw p z
   rw [hp] at this
   cases this
 generalize upd H' p (.lst (rs.map V.ref)) = H1 at s1 k1 ⊢
 have s2 := es.trans s1
 have hrl : rs.length = m := by omega
 have hr0 : ∀ (a : Nat) (r : Addr), rs[a]? = some r -> H1 r = some (.lst (jD m [] a)) := fun a r hr' => by
   have := s1 _ _ (hrw r (List.mem_of_getElem? hr'))
   exact this
 clear hrw hl s1
 refine zR (fun σ H' => ∃ (o1 o2 : Option V), Same H H' /\ H' p = some (.lst (rs.map V.ref)) /\ (∀ (a : Nat) (r : Addr), rs[a]? = some r -> H' r = some (.lst (jD m ps a))) /\ σ = [some (V.int m), some (V.ref pa), some (V.ref p), o1, o2]) (fun N hN => ?_) (fun σ H' h => ?_)
 · simp! []
   refine ⟨⟨_, SqL.of (s2 _ _ hpa)⟩, ?_⟩
   refine xM (xs := us) (fun k σ H' => ∃ (o1 o2 : Option V), Same H H' /\ H' p = some (.lst (rs.map V.ref)) /\ (∀ (a : Nat) (r : Addr), rs[a]? = some r -> H' r = some (.lst (jD m (ps.take k) a))) /\ σ = [some (V.int m), some (V.ref pa), some (V.ref p), o1, o2]) ⟨_, _, s2, k1, hr0, rfl⟩ (fun k σ H' _ h => ?_) (fun k x σ H' hx h => ?_) (fun σ H' h => ?_)
   · obtain ⟨o1, o2, h1, _⟩ := h
     exact SqL.of (h1 _ _ hpa)
   · obtain ⟨o1, o2, h1, h2, h3, rfl⟩ := h
     have hk : k < ps.length := by rw [← hul]; exact (List.getElem?_eq_some_iff.mp hx).1
     obtain ⟨v, hv1, hv2⟩ := DAts.get (d := dP2 ps[k]) hps (by rw [List.getElem?_map, List.getElem?_eq_getElem hk]; rfl)
     rw [hx] at hv1
     cases hv1
     have hab := hok _ (List.getElem_mem hk)
     obtain ⟨t, rfl, ht⟩ := p2At hv2
     have ht' := h1 _ _ ht
     have e4 : ps.take (k + 1) = ps.take k ++ [(ps[k].1, ps[k].2)] := by rw [List.take_succ_eq_append_getElem hk]
     rw [e4]
     clear e4
     generalize ps[k].1 = a at ht' hab
     generalize ps[k].2 = b at ht' hab
     generalize ps.take k = qs at h3 ⊢
     have la : a < rs.length := by omega
     have lb : b < rs.length := by omega
     have ga := List.getElem?_eq_getElem la
     have gb := List.getElem?_eq_getElem lb
     have hne : rs[a] ≠ rs[b] := fun z => by
       have := (List.getElem_inj hnd).mp z
       omega
     have ra := h3 a _ ga
     have rb := h3 b _ gb
     have fa := hfr _ (List.getElem_mem la)
     have fb := hfr _ (List.getElem_mem lb)
     have npa : p ≠ rs[a] := fun z => hpr (by rw [z]; exact List.getElem_mem la)
     have npb : p ≠ rs[b] := fun z => hpr (by rw [z]; exact List.getElem_mem lb)
     simp! [gTup, gCons, gNil, gSub, rSetL]
     refine ⟨[nV a, nV b], SqT.of ht', rfl, nV a, [nV b], rfl, nV b, [], rfl, rfl, ?_⟩
     have rl : ∀ x, (jD m qs x).length = m := fun x => by unfold jD; rw [List.length_map, List.length_range]
     refine ⟨_, _, rfl, SqL.of h2, _, yB (j := a) (by rw [List.getElem?_map, ga]; rfl), rs[a], rfl, _, _, rfl, ra, b, uC (by rw [rl]; omega), _, _, rfl, SqL.of (by rw [zQ npa]; exact h2), _, yB (j := b) (by rw [List.getElem?_map, gb]; rfl), rs[b], rfl, _, _, rfl, by rw [zQ (Ne.symm hne)]; exact rb, a, uC (by rw [rl]; omega), (h1.upd fa).upd fb, by rw [zQ npb, zQ npa]; exact h2, fun x r hr' => ?_, _, rfl⟩
     have hab' : a ≠ b := by omega
     have ux : r = rs[x]'(List.getElem?_eq_some_iff.mp hr').1 := (List.getElem?_eq_some_iff.mp hr').2.symm
     have lx := (List.getElem?_eq_some_iff.mp hr').1
     by_cases e1 : x = b
     · subst e1
       rw [ux, zB, rowB_b hab']
       unfold jD
       rw [row_set (fun j => yU qs x j) (by omega)]
     · have n1 : r ≠ rs[b] := fun z => by
         rw [ux] at z
         exact e1 ((List.getElem_inj hnd).mp z)
       rw [zQ n1]
       by_cases e2 : x = a
       · subst e2
         rw [ux, zB, rowB_a hab']
         unfold jD
         rw [row_set (fun j => yU qs x j) (by omega)]
       · have n2 : r ≠ rs[a] := fun z => by
           rw [ux] at z
           exact e2 ((List.getElem_inj hnd).mp z)
         rw [zQ n2, rowB_o hab' e2 e1]
         exact h3 x r hr'
   · obtain ⟨o1, o2, h1, h2, h3, rfl⟩ := h
     rw [hul, List.take_of_length_le (Nat.le_refl _)] at h3
     exact hN _ _ ⟨_, _, h1, h2, h3, rfl⟩
 obtain ⟨o1, o2, h1, h2, h3, rfl⟩ := h
 simp! []
 exact q p _ h1 ⟨rs, h2, hrl, h3⟩
theorem ok_lcounter (bi : Bi mg) (F : Fun K "_law_counter" "_law_counter" s_h f fd) : FnOk P w K mg base CX0 1 f fd ["near", "spots"] (spLc K) := by
 refine F.ok sc_h (fun vs H Q E h => ?_) (fun cdv A outer s H vs Q E hr h => ?_)
 · obtain ⟨na, sa, m, ps, sp, rfl, _⟩ := h
   rfl
 obtain ⟨na, sa, m, ps, sp, rfl, hm, hnr, hs, hsm, hsl, q⟩ := h
 obtain ⟨rs, hn, hrl, hrw⟩ := hnr
 refine ⟨_, (zE (zM (i := 2) sc_h.nd rfl (Or.inl rfl) (zX pa_nil)) (zE (yO PassesOwn.never rfl (yM rfl bi.range (zA (zS call_len rfl bi.len bt_len (zA (pv 0) pa_nil)) pa_nil)) (zP (i := 3) sc_h.nd rfl (Or.inr rfl)) (zH (yC (xU (zS call_all rfl bi.all bt_all (zA (yL ["other"] ["near", "spot"] [0, 3] (yD (pv 1)) (fun _ _ _ _ nd => zP (i := 0) nd rfl (Or.inl rfl)) (fun _ _ _ _ => yI) (fun _ _ _ _ => (zN (qD K) (zN (qD K) (pv 1) (pv 2) (fun _ _ => rfl)) (pv 0) (fun _ _ => rfl)))) pa_nil))) (zH (yT (xZ PySem.F.plainAttrs_list PySem.F.slot_list_append PySem.F.type_list_append mt_append (pv 2) (zA (pv 3) pa_nil)))) pss_nil))) (zH (zO (pv 2))))), ?_⟩
 refine zI fun N hN => ?_
 simp! []
 refine ⟨zK (by simp), fun p hp => hN _ _ ?_⟩
 clear hN
 have s1 := zC hp (.lst [])
 have k1 : upd H p (.lst []) p = some (.lst []) := zB
 generalize upd H p (.lst []) = H1 at s1 k1 ⊢
 refine zR (fun σ H' => ∃ (o : Option V), Same H H' /\ H' p = some (.lst ((cnt m ps sp).map nV)) /\ σ = [some (V.ref na), some (V.ref sa), some (V.ref p), o]) (fun N hN => ?_) (fun σ H' h => ?_)
 · simp! []
   refine ⟨_, .inl ⟨_, SqL.of (s1 _ _ hn), rfl⟩, by rw [List.length_map]; omega, by rw [List.length_map]; omega, ?_⟩
   rw [List.length_map, hrl]
   refine xC (n := (m : Int).toNat) (fun i σ H' => ∃ (o : Option V), Same H H' /\ H' p = some (.lst (((List.range i).filter fun i => sp.all fun a => yU ps a i).map nV)) /\ σ = [some (V.ref na), some (V.ref sa), some (V.ref p), o]) ⟨_, s1, k1, rfl⟩ (fun i σ H' hi h => ?_) (fun σ H' h => ?_)
   · obtain ⟨o, s2, k2, rfl⟩ := h
     have him : i < m := by omega
     have hir : i < rs.length := by omega
     have e0 : (0 : Int) + (i : Int) = ((i : Nat) : Int) := by omega
     simp! []
     rw [e0]
     refine ⟨⟨_, Same.seq s2 hs⟩, ?_⟩
     refine xA (xs := sp.map nV) (fun k ys σ H'' => H'' = H' /\ ys = ((sp.take k).map fun a => yU ps i a).map V.bl /\ ∃ o, σ = [o, some (V.ref na), some (V.int i)]) ⟨rfl, rfl, _, rfl⟩ (zK (by rw [List.length_map]; omega)) (fun k ys σ H'' e => ?_) (fun k ys σ H'' e => by rw [e.1]; exact Same.seq s2 hs) (fun k x ys σ H'' C hx e hC => ?_) (fun ys σ H'' e p3 hp3 => ?_)
     · obtain ⟨_, rfl, _⟩ := e
       rw [List.length_map, List.length_map, List.length_take]
       omega
     · obtain ⟨rfl, rfl, o, rfl⟩ := e
       rw [List.getElem?_map] at hx
       cases hni : sp[k]? with
       | none => rw [hni] at hx; cases hx
       | some n =>
         rw [hni] at hx
         cases hx
         have hn' := hsm n (List.mem_of_getElem? hni)
         have gr := hrw i _ (List.getElem?_eq_getElem hir)
         simp! []
         refine ⟨_, SqL.of (s2 _ _ hn), _, yB (j := i) (by rw [List.getElem?_map, List.getElem?_eq_getElem hir]; rfl), rs[i], rfl, _, SqL.of (s2 _ _ gr), V.bl (yU ps i n), yB (j := n) ?_, hC _ _ _ ⟨rfl, ?_, _, rfl⟩⟩
         · unfold jD
           rw [List.getElem?_map, List.getElem?_range hn']
           rfl
         · obtain ⟨hi, e⟩ := List.getElem?_eq_some_iff.mp hni
           rw [List.take_succ_eq_append_getElem hi, e, List.map_append, List.map_append]
           rfl
     obtain ⟨rfl, rfl, oo, rfl⟩ := e
     rw [List.length_map, List.take_of_length_le (Nat.le_refl _)]
     have s3 := zC hp3 (.lst ((sp.map fun a => yU ps i a).map V.bl))
     refine ⟨p3, rfl, _, SqL.of zB, ?_⟩
     have ea : ((sp.map fun a => yU ps i a).all id) = (sp.all fun a => yU ps a i) := by
       rw [List.all_map]
       congr 1
       funext a
       exact clOf_comm ps i a
     rw [ea]
     have hfl : ∀ b : Bool, (sp.all fun a => yU ps a i) = b -> (List.range (i + 1)).filter (fun i => sp.all fun a => yU ps a i) = (List.range i).filter (fun i => sp.all fun a => yU ps a i) ++ (if b = true then [i] else []) := fun b hb => by
       rw [List.range_succ, List.filter_append, List.filter_cons, List.filter_nil, hb]
     have hflen : ((List.range i).filter (fun i => sp.all fun a => yU ps a i)).length <= i := by
       have := List.length_filter_le (fun i => sp.all fun a => yU ps a i) (List.range i)
       rwa [List.length_range] at this
     cases hb : (sp.all fun a => yU ps a i) with
     | false =>
       rw [if_neg Bool.false_ne_true]
       refine ⟨s2.trans s3, ?_, _, rfl⟩
       rw [hfl false hb, if_neg Bool.false_ne_true, List.append_nil]
       exact s3 _ _ k2
     | true =>
       rw [if_pos rfl]
       refine ⟨.inl ⟨rfl, _, SqL.of (s3 _ _ k2)⟩, _, s3 _ _ k2, xP (by rw [List.length_map]; omega), (s2.trans s3).upd hp, ?_, _, rfl⟩
       rw [zB, hfl true hb, if_pos rfl, List.map_append]
       rfl
   · obtain ⟨o, s2, k2, rfl⟩ := h
     rw [Int.toNat_natCast] at k2
     exact hN _ _ ⟨_, s2, k2, rfl⟩
 obtain ⟨o, s2, k2, rfl⟩ := h
 simp! []
 exact q p _ s2 hp k2
end
theorem p1025 : (0 : Int) < 10 ^ Int.toNat 25 := by show (0 : Int) < 10 ^ 25; simp
def spSm : Sp := fun vs H Q _ => ∃ (z : Int) (m : Nat), vs = [.int z, .int m] /\ 1 <= m /\ m <= 90 /\ ∀ (p : Addr) (sp : List Nat) (H' : Hp), Same H H' -> H' p = some (.lst (sp.map nV)) -> (∀ x ∈ sp, x < m) -> sp.length <= 100 -> Q (.ref p) H'
theorem nat_mod {z : Int} {m : Nat} (h : 1 <= m) : ∃ n : Nat, z % (m : Int) = n /\ n < m := by
 have h1 := Int.emod_nonneg z (b := (m : Int)) (by omega)
 have h2 := Int.emod_lt_of_pos z (b := (m : Int)) (by omega)
 exact ⟨(z % (m : Int)).toNat, by omega, by omega⟩
theorem nats_of {zs : List Int} {m : Nat} (h : ∀ z ∈ zs, 0 <= z /\ z < (m : Int)) : ∃ sp : List Nat, zs.map V.int = sp.map nV /\ sp.length = zs.length /\ ∀ x ∈ sp, x < m := by
 refine ⟨zs.map Int.toNat, ?_, List.length_map .., fun x hx => ?_⟩
 · rw [List.map_map]
   refine List.map_congr_left fun z hz => ?_
   have := h z hz
   show V.int z = V.int (z.toNat : Int)
   congr 1
   omega
 · obtain ⟨z, hz, rfl⟩ := List.mem_map.mp hx
   have := h z hz
   omega
theorem nodup_subI : ∀ {l m : List Int}, l.Nodup -> (∀ x ∈ l, x ∈ m) -> l.length <= m.length
 | [], m, _, _ => Nat.zero_le _
 | x :: l, m, hn, hs => by
   have hx : x ∈ m := hs x List.mem_cons_self
   have hn' := List.nodup_cons.mp hn
   have := nodup_subI (l := l) (m := m.erase x) hn'.2 fun y hy => by
     have hy' := hs y (List.mem_cons_of_mem _ hy)
     have hne : y ≠ x := fun e => hn'.1 (by rw [← e]; exact hy)
     exact (List.mem_erase_of_ne hne).mpr hy'
   rw [List.length_erase_of_mem hx] at this
   have := List.length_pos_of_mem hx
   rw [List.length_cons]
   omega
theorem wS (H : Hp) : ∀ zs : List Nat, DAts H (zs.map fun n : Nat => Dt.int n) (zs.map nV)
 | [] => rfl
 | z :: zs => ⟨_, _, rfl, rfl, wS H zs⟩
section
variable {P : Program} {w : World} {K : PySem.W.Frag} {mg : Str -> Option Value} {base : Heap} {f : Addr} {fd : FuncData}
theorem ok_some (bi : Bi mg) (F : Fun K "_law_some" "_law_some" s_s f fd) : FnOk P w K mg base CX0 1 f fd ["cell", "many"] spSm := by
 refine F.ok sc_s (fun vs H Q E h => ?_) (fun cdv A outer s H vs Q E hr h => ?_)
 · obtain ⟨z, m, rfl, _⟩ := h
   rfl
 obtain ⟨z, m, rfl, h1, hm, q⟩ := h
 obtain ⟨x, ex, hx⟩ := nat_mod (z := z / 3) h1
 obtain ⟨y, ey, hy⟩ := nat_mod (z := z / 3 / m) h1
 have hmp : (0 : Int) < m := by omega
 refine ⟨_, (zE (yC (zU op_eq (zL op_mod (pv 0) zD) zD (zW _)) (zH (zO (zX (zA (zL op_mod (zL op_fdiv (pv 0) zD) (pv 1)) pa_nil)))) pss_nil) (zE (yC (zU op_eq (zL op_mod (pv 0) zD) zD (zW _)) (zH (zO (zS call_sortedN rfl bi.sorted bt_sorted (zA (xD call_setI rfl bi.set bt_set (zA (zX (zA (zL op_mod (zL op_fdiv (pv 0) zD) (pv 1)) (zA (zL op_mod (zL op_fdiv (zL op_fdiv (pv 0) zD) (pv 1)) (pv 1)) pa_nil))) pa_nil)) pa_nil)))) pss_nil) (zE (zM (i := 2) sc_s.nd rfl (Or.inl rfl) (zL op_mod (zL op_mul (zL op_fdiv (pv 0) zD) zD) (zL op_pow zD zD))) (zE (zM (i := 3) sc_s.nd rfl (Or.inl rfl) (zX pa_nil)) (zE (yO PassesOwn.never rfl (yM rfl bi.range (zA (pv 1) pa_nil)) (zP (i := 4) sc_s.nd rfl (Or.inl rfl)) (zE (yC (zU op_eq (zL op_mod (pv 2) zD) zD (zW _)) (zH (yT (xZ PySem.F.plainAttrs_list PySem.F.slot_list_append PySem.F.type_list_append mt_append (pv 3) (zA (pv 4) pa_nil)))) pss_nil) (zH (zM (i := 2) sc_s.nd rfl (Or.inl rfl) (zL op_fdiv (pv 2) zD))))) (zH (zO (pv 3)))))))), ?_⟩
 refine zI fun N hN => ?_
 simp! []
 refine ⟨by decide, rfl, ?_⟩
 by_cases c0 : z % 3 = 0
 · rw [if_pos c0]
   refine ⟨⟨by decide, by decide⟩, hmp, zK (by simp), fun p hp => ?_⟩
   rw [ex]
   exact q p [x] _ (zC hp _) zB (fun y hy => by rw [List.mem_singleton.mp hy]; exact hx) (by simp)
 rw [if_neg c0]
 refine hN _ _ ?_
 clear hN
 refine zI fun N hN => ?_
 simp! []
 refine ⟨by decide, rfl, ?_⟩
 by_cases c1 : z % 3 = 1
 · rw [if_pos c1]
   refine ⟨⟨by decide, by decide⟩, hmp, ⟨by decide, by decide⟩, ⟨hmp, by omega⟩, hmp, zK (by simp), fun p hp => ?_⟩
   rw [ex, ey]
   have s1 := zC hp (.lst [nV x, nV y])
   refine ⟨[(x : Int), (y : Int)], SqL.of zB, by simp, fun p2 ys hp2 hnd hmem => ?_⟩
   have hyl := nodup_subI hnd fun x hx => (hmem x).mp hx
   have s2 := zC hp2 (NuO P w p2 ys)
   refine ⟨ys, zB, by simp at hyl; omega, fun p3 zs hp3 hpm hso => ?_⟩
   have s3 := zC hp3 (.lst (zs.map V.int))
   obtain ⟨sp, e1, e2, e3⟩ := nats_of (zs := zs) (m := m) fun z hz => by
     have := (hmem z).mp (hpm.mem_iff.mp hz)
     simp only [List.mem_cons, List.not_mem_nil, or_false] at this
     rcases this with rfl | rfl <;> omega
   have hzl := hpm.length_eq
   refine q p3 sp _ ((s1.trans s2).trans s3) (by rw [zB, e1]) e3 (by simp at hyl; omega)
 rw [if_neg c1]
 refine hN _ _ ?_
 clear hN
 refine zI fun N hN => ?_
 simp! []
 refine ⟨⟨by decide, by decide⟩, .inr ⟨by decide, by decide⟩, ⟨by decide, by decide, by decide⟩, p1025, hN _ _ ?_⟩
 clear hN
 generalize z / 3 * 982451653 % 10 ^ Int.toNat 25 = sl
 refine zI fun N hN => ?_
 simp! []
 refine ⟨zK (by simp), fun p hp => hN _ _ ?_⟩
 clear hN
 have s1 := zC hp (.lst [])
 have k1 : upd H p (.lst []) p = some (.lst []) := zB
 generalize upd H p (.lst []) = H1 at s1 k1 ⊢
 refine zR (fun σ H' => ∃ (o1 o2 : Option V) (sp : List Nat), Same H H' /\ H' p = some (.lst (sp.map nV)) /\ (∀ x ∈ sp, x < m) /\ sp.length <= 100 /\ σ = [some (V.int z), some (V.int m), o1, some (V.ref p), o2]) (fun N hN => ?_) (fun σ H' h => ?_)
 · simp! []
   refine ⟨by omega, by omega, ?_⟩
   refine xC (n := (m : Int).toNat) (fun i σ H' => ∃ (sl : Int) (o2 : Option V) (sp : List Nat), Same H H' /\ H' p = some (.lst (sp.map nV)) /\ (∀ x ∈ sp, x < m) /\ sp.length <= i /\ σ = [some (V.int z), some (V.int m), some (V.int sl), some (V.ref p), o2]) ⟨_, _, [], s1, k1, (fun x z => by cases z), Nat.le_refl _, rfl⟩ (fun i σ H' hi h => ?_) (fun σ H' h => ?_)
   · obtain ⟨sl, o2, sp, s2, k2, h2, h3, rfl⟩ := h
     have e0 : (0 : Int) + (i : Int) = ((i : Nat) : Int) := by omega
     simp! []
     refine ⟨by decide, rfl, ?_⟩
     rw [e0]
     split
     · refine ⟨.inl ⟨rfl, _, SqL.of k2⟩, _, k2, xP (by rw [List.length_map]; omega), ⟨by decide, by decide⟩, s2.upd hp, _, _, sp ++ [i], by rw [zB, List.map_append]; rfl, fun x hx => ?_, by simp; omega, rfl, rfl⟩
       rcases List.mem_append.mp hx with hx | hx
       · exact h2 x hx
       · rw [List.mem_singleton.mp hx]; omega
     · exact ⟨⟨by decide, by decide⟩, s2, _, _, sp, k2, h2, by omega, rfl, rfl⟩
   · obtain ⟨sl, o2, sp, s2, k2, h2, h3, rfl⟩ := h
     exact hN _ _ ⟨_, _, sp, s2, k2, h2, by omega, rfl⟩
 obtain ⟨o1, o2, sp, s2, k2, h2, h3, rfl⟩ := h
 simp! []
 exact q p sp _ s2 k2 h2 h3
end
theorem nmss_app : ∀ ts us : List Tm, nmss (ts ++ us) = nmss ts ++ nmss us
 | [], us => by simp [nmss]
 | t :: ts, us => by rw [List.cons_append, nmss, nmss, nmss_app ts us, List.append_assoc]
theorem vP {ts : List Tm} {i : Nat} {t : Tm} (h : ts[i]? = some t) : nmss (ts.take (i + 1)) = nmss (ts.take i) ++ nms t := by
 obtain ⟨il, ie⟩ := List.getElem?_eq_some_iff.mp h
 rw [List.take_succ_eq_append_getElem il, ie, nmss_app]
 show _ ++ (nms t ++ nmss []) = _
 rw [nmss, List.append_nil]
mutual
theorem nms_len : ∀ t : Tm, (nms t).length <= wt t
 | .name _ => by rw [nms, wt]; exact Nat.le_refl _
 | .node _ ts => by
   rw [nms, wt]
   have := nmss_len ts
   omega
theorem nmss_len : ∀ ts : List Tm, (nmss ts).length <= wts ts
 | [] => by rw [nmss, wts]; exact Nat.le_refl _
 | t :: ts => by
   rw [nmss, wts, List.length_append]
   have := nms_len t
   have := nmss_len ts
   omega
end
abbrev s_x : Stmt := top 13
theorem sc_x : FnScope ["t"] ["t"] (zG s_x) := ⟨rfl, rfl, rfl, by decide +kernel, rfl, by decide +kernel, by decide +kernel⟩
def prt : Tm -> List Tm
 | .name _ => []
 | .node _ ts => ts
def spPt : Sp := fun vs H Q _ => ∃ (v : V) (t : Tm), vs = [v] /\ TAt H t v /\ (∀ w ts, t = .node w ts -> Wrd w) /\ ∀ p us H', Same H H' -> H' p = some (.tup us) -> TAts H' (prt t) us -> Q (.ref p) H'
abbrev s_e : Stmt := top 14
theorem sc_e : FnScope ["t", "found", "part"] ["t", "found"] (zG s_e) := ⟨rfl, rfl, rfl, by decide +kernel, rfl, by decide +kernel, by decide +kernel⟩
abbrev s_f : Stmt := top 15
theorem sc_f : FnScope ["terms", "found", "t"] ["terms"] (zG s_f) := ⟨rfl, rfl, rfl, by decide +kernel, rfl, by decide +kernel, by decide +kernel⟩
abbrev s_y : Stmt := top 16
theorem sc_y : FnScope ["t"] ["t"] (zG s_y) := ⟨rfl, rfl, rfl, by decide +kernel, rfl, by decide +kernel, by decide +kernel⟩
def jW (zs : List Str) (x : Str) : List Str := if x ∈ zs then zs else zs ++ [x]
def yF (zs : List Str) (xs : List Str) : List Str := xs.foldl jW zs
theorem jX (zs xs ys : List Str) : yF zs (xs ++ ys) = yF (yF zs xs) ys := by unfold yF; rw [List.foldl_append]
theorem addAll_len : ∀ (xs zs : List Str), (yF zs xs).length <= zs.length + xs.length
 | [], zs => by simp [yF]
 | x :: xs, zs => by
   have := addAll_len xs (jW zs x)
   have h2 : (jW zs x).length <= zs.length + 1 := by unfold jW; split <;> simp
   show (yF (jW zs x) xs).length <= _
   rw [List.length_cons]
   omega
def dz (zs : List Str) : List (Key × V) := zs.map fun x => (.inr x, .bl true)
theorem putK_dz (zs : List Str) (x : Str) : jM (dz zs) (.inr x : Key) (.bl true) = dz (jW zs x) := by
 have e : ((dz zs).any fun kv => decide (kv.1 = (.inr x : Key))) = decide (x ∈ zs) := by
   rw [Bool.eq_iff_iff, List.any_eq_true, decide_eq_true_eq]
   unfold dz
   constructor
   · rintro ⟨p, hp, h⟩
     obtain ⟨y, hy, rfl⟩ := List.mem_map.mp hp
     have h : (Sum.inr y : Key) = .inr x := by simpa using h
     rw [← Sum.inr.inj h]
     exact hy
   · intro h
     exact ⟨_, List.mem_map.mpr ⟨x, h, rfl⟩, by simp⟩
 unfold jM jW
 rw [e]
 by_cases h : x ∈ zs
 · rw [if_pos (by simpa using h), if_pos h]
   unfold dz
   rw [List.map_map]
   apply List.map_congr_left
   intro y hy
   simp only [Function.comp]
   split <;> rfl
 · rw [if_neg (by simpa using h), if_neg h]
   unfold dz
   rw [List.map_append]
   rfl
def SameD (d : Addr) (H H' : Hp) : Prop := ∀ b o, H b = some o -> b ≠ d -> H' b = some o
theorem SameD.refl (d : Addr) (H : Hp) : SameD d H H := fun _ _ h _ => h
theorem SameD.trans {d : Addr} {H H1 H2 : Hp} (a : SameD d H H1) (b : SameD d H1 H2) : SameD d H H2 := fun c o h n => b c o (a c o h n) n
theorem SameD.of {d : Addr} {H H' : Hp} (a : Same H H') : SameD d H H' := fun c o h _ => a c o h
theorem SameD.upd {d : Addr} {H H1 : Hp} {o : HO} (a : SameD d H H1) : SameD d H (L2.upd H1 d o) := fun c o' h n => by
 rw [zQ n]
 exact a c o' h n
theorem SameD.tups {d : Addr} {H H' : Hp} {kvs : List (Key × V)} (a : SameD d H H') (h : H d = some (.dK kvs)) : TupSame H H' := fun b xs e => a b _ e (ne_of e h (by intro z; cases z))
def hdn : Tm -> List Str
 | .name x => [x]
 | .node _ _ => []
def spGa : Nat -> Sp
 | 0 => fun _ _ _ _ => False
 | 1 => fun _ _ _ _ => False
 | n + 2 => fun vs H Q _ => ∃ (v : V) (d : Addr) (t : Tm) (zs : List Str), vs = [v, .ref d] /\ TAt H t v /\ Fit n t /\ wt t <= 900 /\ H d = some (.dK (dz zs)) /\ zs.length + wt t <= 100000 /\ ∀ H', SameD d H H' -> H' d = some (.dK (dz (yF zs (nms t)))) -> Q .non H'
def spNA : Sp := fun vs H Q _ => ∃ (a : Addr) (us : List V) (ts : List Tm), vs = [.ref a] /\ H a = some (.lst us) /\ TAts H ts us /\ (∀ t ∈ ts, Fit 20 t /\ wt t <= 900) /\ wts ts <= 20000 /\ (yF [] (nmss ts)).length < 64 /\
 ∀ p zs' H', Same H H' -> H' p = some (.lst (zs'.map V.str)) -> zs'.Perm (yF [] (nmss ts)) -> PyProof.Rows.sortedS zs' = true -> Q (.ref p) H'
def spNO : Sp := fun vs H Q _ => ∃ (v : V) (t : Tm), vs = [v] /\ TAt H t v /\ Fit 20 t /\ wt t <= 900 /\ (yF [] (nms t)).length < 64 /\ ∀ p zs' H', Same H H' -> H' p = some (.lst (zs'.map V.str)) -> zs'.Perm (yF [] (nms t)) -> PyProof.Rows.sortedS zs' = true -> Q (.ref p) H'
section
variable {P : Program} {w : World} {K : PySem.W.Frag} {mg : Str -> Option Value} {base : Heap} {f : Addr} {fd : FuncData}
theorem ok_parts_of (bi : Bi mg) (F : Fun K "parts_of" "parts_of" s_x f fd) : FnOk P w K mg base CX0 1 f fd ["t"] spPt := by
 refine F.ok sc_x (fun vs H Q E h => ?_) (fun cdv A outer s H vs Q E hr h => ?_)
 · obtain ⟨v, t, rfl, _⟩ := h
   rfl
 obtain ⟨v, t, rfl, ht, hw, q⟩ := h
 refine ⟨_, (zH (zO (pe_ifExp (zU op_eq (zN ix_tup (pv 0) zD (fun _ _ => rfl)) yA (zW _)) (yJ pa_nil) (yY sl_tup (pv 0) (xL zD) po_none)))), ?_⟩
 cases t with
 | name x =>
   obtain ⟨a, rfl, ha⟩ := TAt.name ht
   simp! []
   refine ⟨_, SqT.of ha, .str "name", at0, rfl, ?_⟩
   rw [if_pos rfl]
   exact ⟨zK (by decide), fun p hp => q _ [] _ (zC hp _) zB rfl⟩
 | node wd ts =>
   obtain ⟨a, us, rfl, ha, hu⟩ := TAt.node ht
   simp! []
   refine ⟨_, SqT.of ha, .str wd, at0, rfl, ?_⟩
   rw [if_neg (fun e => (hw wd ts rfl).ne (V.str.inj e))]
   refine ⟨_, SqT.of ha, yX _ _, fun p hp => ?_⟩
   rw [qF]
   exact q p us _ (zC hp _) zB (TAts.tups (zC hp _).tups hu)
theorem qX (bi : Bi mg) (h_x : Has P w K mg base 1 "parts_of" ["t"] spPt) (F : Fun K "gather_names" "gather_names" s_e f fd) (b : Binds K fd ["t", "found"] []) (m : mg "gather_names" = some (.ref f)) : ∀ n, FnOk P w K mg base CX0 n f fd ["t", "found"] (spGa n) := by
 refine wG F b m (fun vs H Q E h => h) (fun n h_e => ?_)
 cases n with
 | zero => exact ⟨fun vs H Q E h => h.elim, fun A outer s H args us vs Q E _ _ _ _ h => h.elim⟩
 | succ n =>
 refine F.ok sc_e (fun vs H Q E h => ?_) (fun cdv A outer s H vs Q E hr h => ?_)
 · obtain ⟨v, d, t, zs, rfl, _⟩ := h
   rfl
 obtain ⟨v, d, t, zs, rfl, ht, hf, hw, hd, hz, q⟩ := h
 refine ⟨_, (zE (yC (zU op_eq (zN ix_tup (pv 0) zD (fun _ _ => rfl)) yA (zW _)) (zH (ps_dput (hu_of hr) (pv 1) (zN ix_tup (pv 0) zD (fun _ _ => rfl)) xH rfl)) pss_nil) (zH (yO PassesOwn.never rfl (wM (zJ h_x (hr.mono (by omega)) rfl (zA (pv 0) pa_nil))) (zP (i := 2) sc_e.nd rfl (Or.inl rfl)) (zH (yT (zJ h_e hr rfl (zA (pv 2) (zA (pv 1) pa_nil)))))))), ?_⟩
 have hnm : nms t = hdn t ++ nmss (prt t) := by
   cases t with
   | name x => rw [nms, hdn, prt, nmss]; rfl
   | node wd ts => rw [nms, hdn, prt]; rfl
 have hwp : wts (prt t) <= wt t /\ (hdn t).length + wts (prt t) <= wt t := by
   cases t with
   | name x => rw [prt, wts, hdn, wt]; exact ⟨by omega, by simp⟩
   | node wd ts => rw [prt, wt, hdn]; exact ⟨by omega, by simp⟩
 have hwr : ∀ w ts, t = .node w ts -> Wrd w := fun w ts e => by subst e; exact hf.wrd
 have part : ∀ (i : Nat) (u : Tm), (prt t)[i]? = some u -> ∃ m, n = m + 1 /\ Fit m u /\ wt u <= wts (prt t) := fun i u hi => by
   have hm := List.mem_of_getElem? hi
   have := wts_mem hm
   cases t with
   | name x => cases hm
   | node wd ts =>
     have hm : u ∈ ts := hm
     cases n with
     | zero => rw [hf.2] at hm; cases hm
     | succ n => exact ⟨n, rfl, hf.part hm, this⟩
 refine zR (fun σ H' => SameD d H H' /\ H' d = some (.dK (dz (yF zs (hdn t)))) /\ ∃ o, σ = [some v, some (V.ref d), o]) (fun N hN => ?_) (fun σ H' h => ?_)
 · simp! [sDPut]
   cases t with
   | name x =>
     obtain ⟨a, rfl, ha⟩ := TAt.name ht
     refine ⟨_, rfl, _, SqT.of ha, .str "name", at0, rfl, ?_⟩
     rw [if_pos rfl]
     refine ⟨_, rfl, _, SqT.of ha, .str x, at1, _, DPut.k (k := .inr x) hd (Nat.lt_of_le_of_lt (show (dz zs).length <= 1000000 by unfold dz; rw [List.length_map]; omega) (by decide)), hN _ _ ?_⟩
     rw [putK_dz]
     exact ⟨(SameD.refl d H).upd, zB, _, rfl⟩
   | node wd ts =>
     obtain ⟨a, us, rfl, ha, hu⟩ := TAt.node ht
     refine ⟨_, rfl, _, SqT.of ha, .str wd, at0, rfl, ?_⟩
     rw [if_neg (fun e => hf.wrd.ne (V.str.inj e))]
     exact hN _ _ ⟨SameD.refl d H, hd, _, rfl⟩
 · obtain ⟨es, hd1, o, rfl⟩ := h
   have ht1 := TAt.tups (es.tups hd) ht
   simp! [spPt]
   refine ⟨t, ht1, hwr, fun p us H2 e2 hp hu => ⟨⟨_, SqT.of hp⟩, ?_⟩⟩
   have hl := hu.length
   have hpd : p ≠ d := ne_of hp (e2 _ _ hd1) (by intro z; cases z)
   refine fw_tup (xs := us) (fun i σ H' => SameD d H2 H' /\ H' p = some (.tup us) /\ H' d = some (.dK (dz (yF (yF zs (hdn t)) (nmss ((prt t).take i))))) /\ ∃ o, σ = [some v, some (V.ref d), o]) ?_ (fun i σ H' _ h => SqT.of h.2.1) (fun i x σ H' hx h => ?_) (fun σ H' h => ?_)
   · exact ⟨SameD.refl _ _, hp, e2 _ _ hd1, _, rfl⟩
   · obtain ⟨es3, hp3, hd3, o', rfl⟩ := h
     obtain ⟨u, hu', hx'⟩ := hu.getV hx
     obtain ⟨m', rfl, f1, f2⟩ := part i u hu'
     have l1 := addAll_len (hdn t) zs
     have l2 := addAll_len (nmss ((prt t).take i)) (yF zs (hdn t))
     have l3 := nmss_len ((prt t).take i)
     have l4 : wts ((prt t).take (i + 1)) <= wts (prt t) := by
       have := congrArg wts (List.take_append_drop (i + 1) (prt t))
       rw [wts_append] at this
       omega
     have l5 : wts ((prt t).take (i + 1)) = wts ((prt t).take i) + wt u := by
       obtain ⟨il, ie⟩ := List.getElem?_eq_some_iff.mp hu'
       rw [List.take_succ_eq_append_getElem il, ie, wts_append]
       show _ + (wt u + wts []) = _
       rw [wts]
       omega
     simp! [spGa]
     refine ⟨u, TAt.tups (es3.tups (e2 _ _ hd1)) hx', f1, by omega, _, hd3, by omega, fun H4 e4 h4 => ⟨es3.trans e4, e4 _ _ hp3 hpd, ?_, _, rfl⟩⟩
     rw [vP hu', jX]
     exact h4
   · obtain ⟨es3, hp3, hd3, o', rfl⟩ := h
     rw [List.take_of_length_le (by omega)] at hd3
     refine q _ ((es.trans (SameD.of e2)).trans es3) ?_
     rw [hnm, jX]
     exact hd3
theorem qW (bi : Bi mg) (h_e : Has P w K mg base 22 "gather_names" ["t", "found"] (spGa 22)) (F : Fun K "names_of_all" "names_of_all" s_f f fd) : FnOk P w K mg base CX0 23 f fd ["terms"] spNA := by
 refine F.ok sc_f (fun vs H Q E h => ?_) (fun cdv A outer s H vs Q E hr h => ?_)
 · obtain ⟨a, us, ts, rfl, _⟩ := h
   rfl
 obtain ⟨a, us, ts, rfl, ha, hu, hf, hw, h64, q⟩ := h
 have hl := hu.length
 have hwl := wts_len ts
 refine ⟨_, (zE (zM (i := 1) sc_f.nd rfl (Or.inl rfl) pe_dnewK) (zE (yO PassesOwn.never rfl (yD (pv 0)) (zP (i := 2) sc_f.nd rfl (Or.inl rfl)) (zH (yT (zJ h_e (hr.mono (by omega)) rfl (zA (pv 2) (zA (pv 1) pa_nil)))))) (zH (zO (zS call_sortedD rfl bi.sorted bt_sorted (zA (pv 1) pa_nil)))))), ?_⟩
 refine zI fun N hN => ?_
 simp! []
 refine fun d hnd => hN _ _ ?_
 have e1 := zC hnd (.dK [])
 have h1 : upd H d (.dK []) d = some (.dK (dz [])) := zB
 generalize upd H d (.dK []) = H1 at e1 h1 ⊢
 have had : a ≠ d := yK ha hnd
 refine zR (fun σ H' => SameD d H1 H' /\ H' d = some (.dK (dz (yF [] (nmss ts)))) /\ ∃ o1 o2, σ = [o1, some (V.ref d), o2]) (fun N hN => ?_) (fun σ H' h => ?_)
 · simp! []
   refine ⟨⟨_, SqL.of (e1 _ _ ha)⟩, ?_⟩
   refine xM (xs := us) (fun i σ H' => SameD d H1 H' /\ H' d = some (.dK (dz (yF [] (nmss (ts.take i))))) /\ ∃ o1 o2, σ = [o1, some (V.ref d), o2]) ?_ (fun i σ H' _ h => SqL.of (h.1 _ _ (e1 _ _ ha) had)) (fun i x σ H' hx h => ?_) (fun σ H' h => ?_)
   · exact ⟨SameD.refl _ _, h1, _, _, rfl⟩
   · obtain ⟨es3, hd3, o1, o2, rfl⟩ := h
     obtain ⟨u, hu', hx'⟩ := hu.getV hx
     have hm := List.mem_of_getElem? hu'
     have l0 := wts_mem hm
     have l2 := addAll_len (nmss (ts.take i)) []
     have l3 := nmss_len (ts.take i)
     have l4 : wts (ts.take i) <= wts ts := by
       have := congrArg wts (List.take_append_drop i ts)
       rw [wts_append] at this
       omega
     simp! [spGa]
     refine ⟨u, TAt.tups (e1.tups.trans (es3.tups h1)) hx', (hf u hm).1, (hf u hm).2, _, hd3, by simp at l2; omega, fun H4 e4 h4 => ⟨es3.trans e4, ?_, _, rfl⟩⟩
     rw [vP hu', jX]
     exact h4
   · obtain ⟨es3, hd3, o1, o2, rfl⟩ := h
     rw [List.take_of_length_le (by omega)] at hd3
     exact hN _ _ ⟨es3, hd3, _, _, rfl⟩
 · obtain ⟨es3, hd3, o1, o2, rfl⟩ := h
   simp! []
   refine ⟨_, hd3, yF [] (nmss ts), by unfold dz; rw [List.map_map]; rfl, h64, fun l zs' hl' hp hs => ?_⟩
   have es : Same H H' := fun b o hb => es3 b o (e1 _ _ hb) (yK hb hnd)
   exact q _ _ _ (es.trans (zC hl' _)) zB hp hs
theorem ok_names_of (bi : Bi mg) (h_f : Has P w K mg base 23 "names_of_all" ["terms"] spNA) (F : Fun K "names_of" "names_of" s_y f fd) : FnOk P w K mg base CX0 24 f fd ["t"] spNO := by
 refine F.ok sc_y (fun vs H Q E h => ?_) (fun cdv A outer s H vs Q E hr h => ?_)
 · obtain ⟨v, t, rfl, _⟩ := h
   rfl
 obtain ⟨v, t, rfl, ht, hf, hw, h64, q⟩ := h
 refine ⟨_, (zH (zO (zJ h_f (hr.mono (by omega)) rfl (zA (zX (zA (pv 0) pa_nil)) pa_nil)))), ?_⟩
 simp! [spNA]
 refine ⟨zK (by decide), fun p hp => ⟨[v], zB, [t], TAts.one (TAt.tups (zC hp _).tups ht), fun u hu => ?_, ?_, ?_, fun p2 zs' H' e h2 hpm hs => ?_⟩⟩
 · rw [List.mem_singleton.mp hu]; exact ⟨hf, hw⟩
 · show wt t + 0 <= 20000; omega
 · rw [nmss, nmss, List.append_nil]; exact h64
 · rw [nmss, nmss, List.append_nil] at hpm
   exact q _ _ _ ((zC hp _).trans e) h2 hpm hs
end
abbrev s_c : Stmt := qE (top 20) 4
theorem sc_c : FnScope ["self", "sets", "t", "values"] ["self", "sets", "t"] (zG s_c) := ⟨rfl, rfl, rfl, by decide +kernel, rfl, by decide +kernel, by decide +kernel⟩
abbrev s_q : Stmt := top 21
theorem sc_q : FnScope ["world", "names", "sets", "name"] ["world", "names"] (zG s_q) := ⟨rfl, rfl, rfl, by decide +kernel, rfl, by decide +kernel, by decide +kernel⟩
abbrev s_E : Stmt := top 22
theorem sc_E : FnScope ["world", "t", "sets"] ["world", "t"] (zG s_E) := ⟨rfl, rfl, rfl, by decide +kernel, rfl, by decide +kernel, by decide +kernel⟩
def cmn (m : Nat) (vs : List (List Nat)) : List Nat := (List.range m).filter fun i => vs.all fun v => decide (i ∈ v)
def xJ (m : Nat) (ps : List (Nat × Nat)) (w : Str) (vs : List (List Nat)) : List Nat :=
 if w = "none" then [] else if w = "all" then List.range m else if w = "not" then cnt m ps (vs.headD []) else if w = "both" then cmn m vs else cnt m ps (cmn m (vs.map (cnt m ps)))
mutual
def val (m : Nat) (ps : List (Nat × Nat)) (S : Str -> List Nat) : Tm -> List Nat
 | .name x => S x
 | .node w ts => xJ m ps w (vals m ps S ts)
def vals (m : Nat) (ps : List (Nat × Nat)) (S : Str -> List Nat) : List Tm -> List (List Nat)
 | [] => []
 | t :: ts => val m ps S t :: vals m ps S ts
end
theorem uF (m : Nat) (ps : List (Nat × Nat)) (S : Str -> List Nat) : ∀ ts : List Tm, vals m ps S ts = ts.map (val m ps S)
 | [] => rfl
 | t :: ts => by rw [vals, uF m ps S ts, List.map_cons]
theorem wZ {m : Nat} {ps : List (Nat × Nat)} {sp : List Nat} {i : Nat} (h : i ∈ cnt m ps sp) : i < m := (cnt_mem.mp h).1
theorem kA {m : Nat} {vs : List (List Nat)} {i : Nat} (h : i ∈ cmn m vs) : i < m := List.mem_range.mp (List.mem_filter.mp h).1
theorem valN_lt {m : Nat} {ps : List (Nat × Nat)} {w : Str} {vs : List (List Nat)} {i : Nat} (h : i ∈ xJ m ps w vs) : i < m := by
 unfold xJ at h
 split at h
 · cases h
 split at h
 · exact List.mem_range.mp h
 split at h
 · exact wZ h
 split at h
 · exact kA h
 · exact wZ h
theorem uG {m : Nat} {ps : List (Nat × Nat)} {S : Str -> List Nat} (hS : ∀ x, ∀ i ∈ S x, i < m) : ∀ (t : Tm) {i : Nat}, i ∈ val m ps S t -> i < m
 | .name x, i, h => by rw [val] at h; exact hS x i h
 | .node w ts, i, h => by rw [val] at h; exact valN_lt h
theorem cmn_rise (m : Nat) (vs : List (List Nat)) : (cmn m vs).Pairwise (· < ·) := List.Pairwise.filter _ List.pairwise_lt_range
theorem jZ {m : Nat} {ps : List (Nat × Nat)} {S : Str -> List Nat} (hS : ∀ x, (S x).Pairwise (· < ·)) : ∀ t : Tm, (val m ps S t).Pairwise (· < ·)
 | .name x => by rw [val]; exact hS x
 | .node w ts => by
   rw [val]
   unfold xJ
   split
   · exact .nil
   split
   · exact List.pairwise_lt_range
   split
   · exact qH ..
   split
   · exact cmn_rise ..
   · exact qH ..
theorem addN_nd {zs : List Str} {x : Str} (h : zs.Nodup) : (jW zs x).Nodup := by
 unfold jW
 split
 · exact h
 · rename_i hx
   rw [List.nodup_append]
   refine ⟨h, by simp, fun a ha b hb e => ?_⟩
   rw [List.mem_singleton.mp hb] at e
   exact hx (e ▸ ha)
theorem addAll_nd : ∀ (xs zs : List Str), zs.Nodup -> (yF zs xs).Nodup
 | [], zs, h => h
 | x :: xs, zs, h => addAll_nd xs (jW zs x) (addN_nd h)
theorem addAll_mem : ∀ (xs zs : List Str) {y : Str}, y ∈ yF zs xs -> y ∈ zs \/ y ∈ xs
 | [], zs, y, h => .inl h
 | x :: xs, zs, y, h => by
   rcases addAll_mem xs (jW zs x) h with h | h
   · unfold jW at h
     split at h
     · exact .inl h
     · rcases List.mem_append.mp h with h | h
       · exact .inl h
       · exact .inr (by rw [List.mem_singleton.mp h]; exact List.mem_cons_self)
   · exact .inr (List.mem_cons_of_mem _ h)
theorem jT {α : Type} [DecidableEq α] : ∀ {l m : List α}, l.Nodup -> (∀ x ∈ l, x ∈ m) -> l.length <= m.length
 | [], m, _, _ => Nat.zero_le _
 | x :: l, m, hn, hs => by
   have hx : x ∈ m := hs x List.mem_cons_self
   have hn' := List.nodup_cons.mp hn
   have := jT (l := l) (m := m.erase x) hn'.2 fun y hy => by
     have hy' := hs y (List.mem_cons_of_mem _ hy)
     have hne : y ≠ x := fun e => hn'.1 (by rw [← e]; exact hy)
     exact (List.mem_erase_of_ne hne).mpr hy'
   rw [List.length_erase_of_mem hx] at this
   have := List.length_pos_of_mem hx
   rw [List.length_cons]
   omega
def Masks (cs : List Nat) (vs : List (List Nat)) : Prop := cs.length = vs.length /\ ∀ (i : Nat) (c : Nat) (v : List Nat), cs[i]? = some c -> vs[i]? = some v -> yS c v
theorem Masks.snoc {cs : List Nat} {vs : List (List Nat)} {c : Nat} {v : List Nat} (h : Masks cs vs) (hc : yS c v) : Masks (cs ++ [c]) (vs ++ [v]) := by
 refine ⟨by rw [List.length_append, List.length_append, h.1]; rfl, fun i c' v' h1 h2 => ?_⟩
 by_cases hi : i < cs.length
 · rw [List.getElem?_append_left hi] at h1
   rw [List.getElem?_append_left (by rw [← h.1]; exact hi)] at h2
   exact h.2 i c' v' h1 h2
 · have : i = cs.length := by
     have := (List.getElem?_eq_some_iff.mp h1).1
     rw [List.length_append, List.length_singleton] at this
     omega
   subst this
   rw [List.getElem?_append_right (Nat.le_refl _), Nat.sub_self] at h1
   rw [List.getElem?_append_right (by rw [h.1]; exact Nat.le_refl _), h.1, Nat.sub_self] at h2
   simp at h1 h2
   subst h1 h2
   exact hc
theorem Masks.cmn {m : Nat} {cs : List Nat} {vs : List (List Nat)} (h : Masks cs vs) {c : Nat} (hc : ∀ i, c.testBit i = (decide (i < m) && cs.all fun x => x.testBit i)) : yS c (C.cmn m vs) := fun i => by
 rw [hc, Bool.eq_iff_iff, decide_eq_true_eq, Bool.and_eq_true, decide_eq_true_eq, List.all_eq_true]
 unfold C.cmn
 rw [List.mem_filter, List.mem_range, List.all_eq_true]
 refine and_congr_right fun _ => ⟨fun g v hv => ?_, fun g x hx => ?_⟩
 · obtain ⟨j, hj, e⟩ := List.getElem_of_mem hv
   have hj' : j < cs.length := by rw [h.1]; exact hj
   have := g cs[j] (List.getElem_mem hj')
   rw [h.2 j cs[j] v (List.getElem?_eq_getElem hj') (by rw [List.getElem?_eq_getElem hj, e]) i] at this
   exact this
 · obtain ⟨j, hj, e⟩ := List.getElem_of_mem hx
   have hj' : j < vs.length := by rw [← h.1]; exact hj
   rw [h.2 j x vs[j] (by rw [List.getElem?_eq_getElem hj, e]) (List.getElem?_eq_getElem hj') i]
   exact g vs[j] (List.getElem_mem hj')
theorem recM_ok {P : Program} {w : World} {K : PySem.W.Frag} {mg : Str -> Option Value} {base : Heap} {C : Addr} {x : Str} {ps : List Str} {f : Addr} {fd : FuncData} {sp : Nat -> Sp} (b : Binds K fd ps []) (m : Meth K C x f)
   (h0 : ∀ vs H Q E, ¬ sp 0 vs H Q E) (step : ∀ n, HasM P w K mg base n C x ps (sp n) -> FnOk P w K mg base CX0 (n + 1) f fd ps (sp (n + 1))) : ∀ n, FnOk P w K mg base CX0 n f fd ps (sp n)
 | 0 => ⟨fun vs H Q E h => (h0 vs H Q E h).elim, fun A outer s H args us vs Q E _ _ _ _ h => (h0 vs H Q E h).elim⟩
 | n + 1 => step n ⟨f, fd, recM_ok b m h0 step n, b, m⟩
def spVo (C : Addr) : Nat -> Sp
 | 0 => fun _ _ _ _ => False
 | 1 => fun _ _ _ _ => False
 | 2 => fun _ _ _ _ => False
 | n + 3 => fun vs H Q _ => ∃ (r d : Addr) (v : V) (t : Tm) (m : Nat) (ps : List (Nat × Nat)) (kvs : List (Key × V)) (S : Str -> List Nat), vs = [.ref r, .ref d, v] /\ FlAt C H r m ps /\ m <= 90 /\ TAt H t v /\ Fit n t /\ wt t <= 900 /\ H d = some (.dK kvs) /\ (∀ x ∈ nms t, ∃ c : Nat, yP kvs (.inr x) = some (nV c) /\ yS c (S x)) /\ (∀ x, ∀ i ∈ S x, i < m) /\ ∀ (c : Nat) H', Same H H' -> yS c (val m ps S t) -> Q (.int c) H'
theorem no_ok {P : Program} {w : World} {K : PySem.W.Frag} {mg : Str -> Option Value} {base : Heap} {n : Nat} {f : Addr} {fd : FuncData} {ps : List Str} {sp : Sp} (h : ∀ vs H Q E, ¬ sp vs H Q E) : FnOk P w K mg base CX0 n f fd ps sp := ⟨fun vs H Q E g => (h vs H Q E g).elim, fun A outer s H args us vs Q E _ _ _ _ g => (h vs H Q E g).elim⟩
structure RowsAt (H : Hp) (la : Addr) (zs : List Str) (Ss : List (List Nat)) (m : Nat) : Prop where
 ex : ∃ (as ls : List Addr), H la = some (.lst (as.map V.ref)) /\ as.length = zs.length /\ ls.length = zs.length /\ ∀ (i : Nat) (z : Str) (sp : List Nat), zs[i]? = some z -> Ss[i]? = some sp -> ∃ a l, as[i]? = some a /\ ls[i]? = some l /\ H a = some (.tup [.str z, .ref l]) /\ H l = some (.lst (sp.map nV))
 len : Ss.length = zs.length
 low : ∀ sp ∈ Ss, (∀ i ∈ sp, i < m) /\ sp.Pairwise (· < ·)
theorem RowsAt.same {H H' : Hp} {la : Addr} {zs : List Str} {Ss : List (List Nat)} {m : Nat} (e : Same H H') (h : RowsAt H la zs Ss m) : RowsAt H' la zs Ss m := by
 obtain ⟨⟨as, ls, h1, h2, h3, h4⟩, h5, h6⟩ := h
 refine ⟨⟨as, ls, e _ _ h1, h2, h3, fun i z sp hz hs => ?_⟩, h5, h6⟩
 obtain ⟨a, l, g1, g2, g3, g4⟩ := h4 i z sp hz hs
 exact ⟨a, l, g1, g2, e _ _ g3, e _ _ g4⟩
theorem RowsAt.mono {H : Hp} {la : Addr} {zs : List Str} {Ss : List (List Nat)} {m n : Nat} (h : RowsAt H la zs Ss m) (hm : m <= n) : RowsAt H la zs Ss n := ⟨h.ex, h.len, fun sp hsp => ⟨fun i hi => Nat.lt_of_lt_of_le ((h.low sp hsp).1 i hi) hm, (h.low sp hsp).2⟩⟩
def zc (zs : List Str) (cs : List Nat) : List (Key × V) := (zs.zip cs).map fun p => (.inr p.1, nV p.2)
theorem zc_val : ∀ {zs : List Str} {cs : List Nat} {i : Nat} {x : Str} {c : Nat}, zs.Nodup -> zs[i]? = some x -> cs[i]? = some c -> yP (zc zs cs) (.inr x) = some (nV c)
 | z :: zs, d :: cs, 0, x, c, _, h1, h2 => by
   simp only [List.getElem?_cons_zero, Option.some.injEq] at h1 h2
   subst h1 h2
   exact jJ rfl
 | z :: zs, d :: cs, i + 1, x, c, hn, h1, h2 => by
   simp only [List.getElem?_cons_succ] at h1 h2
   have hn' := List.nodup_cons.mp hn
   have e : yP (zc (z :: zs) (d :: cs)) (.inr x) = yP (zc zs cs) (.inr x) := xS (fun e => hn'.1 (by rw [show z = x from Sum.inr.inj e]; exact List.mem_of_getElem? h1))
   rw [e]
   exact zc_val hn'.2 h1 h2
 | [], _, i, x, c, _, h1, _ => by simp at h1
 | _, [], i, x, c, _, _, h2 => by simp at h2
section
variable {P : Program} {w : World} {K : PySem.W.Frag} {mg : Str -> Option Value} {base : Heap} {f : Addr} {fd : FuncData}
theorem ok_value_of {C : Addr} (T : FlC K C) (bi : Bi mg) (h_b : HasM P w K mg base 1 C "common_of" ["self", "sets"] (spCo K C)) (h_a : HasM P w K mg base 2 C "counter_of" ["self", "spots"] (spCn C)) (F : Fun K "value_of" "Floor.value_of" s_c f fd) (b : Binds K fd ["self", "sets", "t"] []) (mt : Meth K C "value_of" f) : ∀ n, FnOk P w K mg base CX0 n f fd ["self", "sets", "t"] (spVo C n) := by
 refine recM_ok b mt (fun vs H Q E h => h) (fun n h_c => ?_)
 match n with
 | 0 => exact no_ok fun vs H Q E h => h
 | 1 => exact no_ok fun vs H Q E h => h
 | n + 2 =>
 refine F.ok sc_c (fun vs H Q E h => ?_) (fun cdv A outer s H vs Q E hr h => ?_)
 · obtain ⟨r, d, v, t, m, ps, kvs, S, rfl, _⟩ := h
   rfl
 obtain ⟨r, d, v, t, m, ps, kvs, S, rfl, hfl, hm90, ht, hf, hw, hd, hS, hSm, q⟩ := h
 have hfl' := hfl
 obtain ⟨dx, lx, cs, hr', hl', hmk⟩ := hfl'
 have cl_Floor := T.cl
 refine ⟨_, (zE (yC (zU op_eq (zN ix_tup (pv 2) zD (fun _ _ => rfl)) yA (zW _)) (zH (zO zD)) pss_nil) (zE (yC (zU op_eq (zN ix_tup (pv 2) zD (fun _ _ => rfl)) yA (zW _)) (zH (zO (uP (pv 0) rfl))) pss_nil) (zE (yC (zU op_eq (zN ix_tup (pv 2) zD (fun _ _ => rfl)) yA (zW _)) (zH (zO (pe_dget (hu_of hr) (pv 1) (zN ix_tup (pv 2) zD (fun _ _ => rfl)) (fun _ _ => rfl)))) pss_nil) (zE (wK (i := 3) ["part"] ["sets", "self"] [1, 0] sc_c.nd rfl (wM (yY sl_tup (pv 2) (xL zD) po_none)) (fun _ _ _ _ nd => zP (i := 0) nd rfl (Or.inl rfl)) (fun _ _ _ _ => yI) (fun _ _ _ _ => (yN h_c cl_Floor (hr.mono (by omega)) (pv 2) (zA (pv 1) (zA (pv 0) pa_nil))))) (zE (yC (zU op_eq (zN ix_tup (pv 2) zD (fun _ _ => rfl)) yA (zW _)) (zH (zO (yN h_a cl_Floor (hr.mono (by omega)) (pv 0) (zA (zN ix_list (pv 3) zD (fun _ _ => rfl)) pa_nil)))) pss_nil) (zE (yC (zU op_eq (zN ix_tup (pv 2) zD (fun _ _ => rfl)) yA (zW _)) (zH (zO (yN h_b cl_Floor (hr.mono (by omega)) (pv 0) (zA (pv 3) pa_nil)))) pss_nil) (zH (zO (yN h_a cl_Floor (hr.mono (by omega)) (pv 0) (zA (yN h_b cl_Floor (hr.mono (by omega)) (pv 0) (zA (yL ["spots"] ["self"] [0] (yD (pv 3)) (fun _ _ _ _ nd => zP (i := 0) nd rfl (Or.inl rfl)) (fun _ _ _ _ => yI) (fun _ _ _ _ => (yN h_a cl_Floor (hr.mono (by omega)) (pv 1) (zA (pv 0) pa_nil)))) pa_nil)) pa_nil)))))))))), ?_⟩
 cases t with
 | name x =>
   obtain ⟨a, rfl, ha⟩ := TAt.name ht
   obtain ⟨c, hc1, hc2⟩ := hS x (by rw [nms]; exact List.mem_singleton.mpr rfl)
   simp! [yW, jK]
   refine ⟨_, SqT.of ha, .str "name", at0, rfl, ?_⟩
   rw [if_neg (by intro z; exact absurd (V.str.inj z) (by decide +kernel))]
   refine ⟨_, SqT.of ha, .str "name", at0, rfl, ?_⟩
   rw [if_neg (by intro z; exact absurd (V.str.inj z) (by decide +kernel))]
   refine ⟨_, SqT.of ha, .str "name", at0, rfl, ?_⟩
   rw [if_pos rfl]
   refine ⟨_, SqT.of ha, .str x, at1, _, hc1 ▸ DGet.k (k := .inr x) hd, ?_⟩
   exact q c _ (Same.refl _) (by rw [val]; exact hc2)
 | node wd ts =>
   obtain ⟨a, us, rfl, ha, hu⟩ := TAt.node ht
   have hwd := hf.wrd
   have hsh := hf.sh
   have hl := hu.length
   have hll := wts_len ts
   rw [wt] at hw
   have hwr : val m ps S (.node wd ts) = xJ m ps wd (ts.map (val m ps S)) := by rw [val, uF]
   rw [hwr] at q
   have hSm' : ∀ t ∈ ts, ∀ x ∈ nms t, ∃ c : Nat, yP kvs (.inr x) = some (nV c) /\ yS c (S x) := fun t ht x hx => hS x (by rw [nms]; exact nmss_mem.mpr ⟨t, ht, hx⟩)
   refine zI fun N hN => ?_
   simp! [yW, jK]
   refine ⟨_, SqT.of ha, .str wd, at0, rfl, ?_⟩
   by_cases c1 : wd = "none"
   · rw [if_pos (by rw [c1])]
     have e : xJ m ps wd (ts.map (val m ps S)) = [] := by unfold xJ; rw [if_pos c1]
     rw [e] at q
     exact q 0 _ (Same.refl _) fun i => by simp
   rw [if_neg (fun z => c1 (V.str.inj z))]
   refine hN _ _ ?_
   clear hN
   refine zI fun N hN => ?_
   simp! [yW, jK]
   refine ⟨_, SqT.of ha, .str wd, at0, rfl, ?_⟩
   by_cases c2 : wd = "all"
   · rw [if_pos (by rw [c2])]
     have e : xJ m ps wd (ts.map (val m ps S)) = List.range m := by unfold xJ; rw [if_neg c1, if_pos c2]
     rw [e] at q
     exact ⟨C, dx, _, hr', T.cl, T.nE, _, fl_e _ _, q (2 ^ m - 1) _ (Same.refl _) fun i => by rw [Nat.testBit_two_pow_sub_one]; simp⟩
   rw [if_neg (fun z => c2 (V.str.inj z))]
   refine hN _ _ ?_
   clear hN
   refine zI fun N hN => ?_
   simp! [yW, jK]
   refine ⟨_, SqT.of ha, .str wd, at0, rfl, ?_⟩
   rw [if_neg (fun z => hwd.ne (V.str.inj z))]
   refine hN _ _ ?_
   clear hN
   refine zI fun N hN => ?_
   simp! [yW, jK]
   refine ⟨_, SqT.of ha, yX _ _, fun p2 hp2 => ?_⟩
   rw [qF]
   have s2 := zC hp2 (.tup us)
   have k2 : upd H p2 (.tup us) p2 = some (.tup us) := zB
   generalize upd H p2 (.tup us) = H2 at s2 k2 ⊢
   refine ⟨⟨_, SqT.of k2⟩, ?_⟩
   refine lc_tup (xs := us) (fun i ys σ H' => Same H2 H' /\ (∃ cs : List Nat, ys = cs.map nV /\ cs.length = i /\ Masks cs ((ts.map (val m ps S)).take i)) /\ ∃ o, σ = [o, some (V.ref d), some (V.ref r)]) ⟨Same.refl _, ⟨[], rfl, rfl, rfl, fun i c v h => by simp at h⟩, _, rfl⟩ (zK (by omega)) (fun i ys σ H' e => ?_) (fun i ys σ H' e => SqT.of (e.1 _ _ k2)) (fun i x ys σ H' C' hx e hC => ?_) (fun ys σ H' e p3 hp3 => hN _ _ ?_)
   · obtain ⟨_, ⟨cs, rfl, h1, _⟩, _⟩ := e
     rw [List.length_map, h1]
     exact Nat.le_refl _
   · obtain ⟨es, ⟨cs, rfl, hcl, hcs⟩, o, rfl⟩ := e
     obtain ⟨t, ht', hx'⟩ := hu.getV hx
     cases n with
     | zero => have := hf.2; subst this; simp at ht'
     | succ n =>
       have hm := List.mem_of_getElem? ht'
       have hmt := wts_mem hm
       have s3 := s2.trans es
       simp! [yW, jK, spVo]
       refine ⟨_, _, s3 _ _ hr', jA _ _ (by decide +kernel) (by decide +kernel), t, m, ps, hfl.same s3, hm90, TAt.tups s3.tups hx', hf.part hm, by omega, kvs, s3 _ _ hd, S, hSm' t hm, hSm, fun c H3 e3 hc => hC _ _ _ ⟨es.trans e3, ⟨cs ++ [c], by rw [List.map_append]; rfl, by rw [List.length_append, hcl]; rfl, ?_⟩, _, rfl⟩⟩
       obtain ⟨hil, hi2⟩ := List.getElem?_eq_some_iff.mp (show (ts.map (val m ps S))[i]? = some (val m ps S t) by rw [List.getElem?_map, ht']; rfl)
       rw [List.take_succ_eq_append_getElem hil, hi2]
       exact hcs.snoc hc
   clear hN
   obtain ⟨es, ⟨cs, rfl, hcl, hcs⟩, o, rfl⟩ := e
   rw [show (ts.map (val m ps S)).take us.length = ts.map (val m ps S) from List.take_of_length_le (by rw [List.length_map]; omega)] at hcs
   have s3 := (s2.trans es).trans (zC hp3 (.lst (cs.map nV)))
   have k3 : upd H' p3 (.lst (cs.map nV)) p3 = some (.lst (cs.map nV)) := zB
   generalize upd H' p3 (.lst (cs.map nV)) = H3 at s3 k3 ⊢
   have hfl3 := hfl.same s3
   have hlt : ∀ (i : Nat) (v : List Nat), (ts.map (val m ps S))[i]? = some v -> ∀ x ∈ v, x < m := fun i v hv x hx => by
     rw [List.getElem?_map] at hv
     obtain ⟨t, ht, rfl⟩ := Option.map_eq_some_iff.mp hv
     exact uG hSm t hx
   have hvl : (ts.map (val m ps S)).length = ts.length := List.length_map _
   generalize hvs : ts.map (val m ps S) = vs at hcs q hlt hvl
   refine zI fun N hN => ?_
   simp! [yW, jK]
   refine ⟨_, SqT.of (s3 _ _ ha), .str wd, at0, rfl, ?_⟩
   by_cases c3 : wd = "not"
   · rw [if_pos (by rw [c3])]
     have h1 : ts.length = 1 := by
       rcases hsh with h | h | h | h | h
       · exact absurd h.1 c1
       · exact absurd h.1 c2
       · exact h.2
       · rw [c3] at h; exact absurd h.1 (by decide +kernel)
       · rw [c3] at h; exact absurd h.1 (by decide +kernel)
     obtain ⟨v0, rfl⟩ : ∃ v0, vs = [v0] := by
       match vs, (show vs.length = 1 by omega) with
       | [v0], _ => exact ⟨v0, rfl⟩
     obtain ⟨c0, rfl⟩ : ∃ c0, cs = [c0] := by
       match cs, (show cs.length = 1 by rw [hcs.1]; rfl) with
       | [c0], _ => exact ⟨c0, rfl⟩
     have e : xJ m ps wd [v0] = cnt m ps v0 := by unfold xJ; rw [if_neg c1, if_neg c2, if_pos c3]; rfl
     rw [e] at q
     obtain ⟨xs, hx1, hx2⟩ := kE c0 v0 (hcs.2 0 c0 v0 rfl rfl)
     refine ⟨_, _, s3 _ _ hr', jA _ _ (by decide +kernel) (by decide +kernel), _, SqL.of k3, nV c0, at0, ?_⟩
     refine ⟨r, m, c0, ps, xs, rfl, hfl3, hm90, hx1, fun x hx => hlt 0 v0 rfl x ((hx2 x).mp hx), fun c H4 s4 hc => q c _ (s3.trans s4) ?_⟩
     rw [qN hx2] at hc
     exact hc
   rw [if_neg (fun z => c3 (V.str.inj z))]
   refine hN _ _ ?_
   clear hN
   refine zI fun N hN => ?_
   simp! [yW, jK]
   refine ⟨_, SqT.of (s3 _ _ ha), .str wd, at0, rfl, ?_⟩
   by_cases c4 : wd = "both"
   · rw [if_pos (by rw [c4])]
     have e : xJ m ps wd vs = cmn m vs := by unfold xJ; rw [if_neg c1, if_neg c2, if_neg c3, if_pos c4]
     rw [e] at q
     refine ⟨_, _, s3 _ _ hr', jA _ _ (by decide +kernel) (by decide +kernel), ?_⟩
     exact ⟨r, p3, m, ps, cs, rfl, hfl3, SqL.of k3, by omega, fun c hc => q c _ s3 (hcs.cmn hc)⟩
   rw [if_neg (fun z => c4 (V.str.inj z))]
   refine hN _ _ ?_
   clear hN
   have e : xJ m ps wd vs = cnt m ps (cmn m (vs.map (cnt m ps))) := by unfold xJ; rw [if_neg c1, if_neg c2, if_neg c3, if_neg c4]
   rw [e] at q
   simp! [yW, jK]
   refine ⟨_, _, s3 _ _ hr', jA _ _ (by decide +kernel) (by decide +kernel), _, _, s3 _ _ hr', jA _ _ (by decide +kernel) (by decide +kernel), ⟨_, SqL.of k3⟩, ?_⟩
   refine xA (xs := cs.map nV) (fun i ys σ H' => Same H3 H' /\ (∃ ds : List Nat, ys = ds.map nV /\ ds.length = i /\ Masks ds ((vs.map (cnt m ps)).take i)) /\ ∃ o, σ = [o, some (V.ref r)]) ⟨Same.refl _, ⟨[], rfl, rfl, rfl, fun i c v h => by simp at h⟩, _, rfl⟩ (zK (by rw [List.length_map]; omega)) (fun i ys σ H' e => ?_) (fun i ys σ H' e => SqL.of (e.1 _ _ k3)) (fun i x ys σ H' C' hx e hC => ?_) (fun ys σ H' e p4 hp4 => ?_)
   · obtain ⟨_, ⟨ds, rfl, h1, _⟩, _⟩ := e
     rw [List.length_map, h1]
     exact Nat.le_refl _
   · obtain ⟨es', ⟨ds, rfl, hdl, hds⟩, o, rfl⟩ := e
     rw [List.getElem?_map] at hx
     obtain ⟨c0, hc0, rfl⟩ := Option.map_eq_some_iff.mp hx
     have hiv : i < vs.length := by rw [← hcs.1]; exact (List.getElem?_eq_some_iff.mp hc0).1
     have hv0 : vs[i]? = some vs[i] := List.getElem?_eq_getElem hiv
     obtain ⟨xs, hx1, hx2⟩ := kE c0 vs[i] (hcs.2 i c0 _ hc0 hv0)
     have s4 := s3.trans es'
     simp! [yW, jK]
     refine ⟨_, _, s4 _ _ hr', jA _ _ (by decide +kernel) (by decide +kernel), r, m, c0, ps, xs, rfl, hfl.same s4, hm90, hx1, fun x hx => hlt i _ hv0 x ((hx2 x).mp hx), fun c H4 s5 hc => hC _ _ _ ⟨es'.trans s5, ⟨ds ++ [c], by rw [List.map_append]; rfl, by rw [List.length_append, hdl]; rfl, ?_⟩, _, rfl⟩⟩
     rw [qN hx2] at hc
     obtain ⟨hil, hi2⟩ := List.getElem?_eq_some_iff.mp (show (vs.map (cnt m ps))[i]? = some (cnt m ps vs[i]) by rw [List.getElem?_map, hv0]; rfl)
     rw [List.take_succ_eq_append_getElem hil, hi2]
     exact hds.snoc hc
   obtain ⟨es', ⟨ds, rfl, hdl, hds⟩, o, rfl⟩ := e
   rw [List.length_map] at hds hdl
   rw [show (vs.map (cnt m ps)).take cs.length = vs.map (cnt m ps) from List.take_of_length_le (by rw [List.length_map, hcs.1]; exact Nat.le_refl _)] at hds
   have s4 := (s3.trans es').trans (zC hp4 (.lst (ds.map nV)))
   have k4 : upd H' p4 (.lst (ds.map nV)) p4 = some (.lst (ds.map nV)) := zB
   generalize upd H' p4 (.lst (ds.map nV)) = H4 at s4 k4 ⊢
   refine ⟨r, p4, m, ps, ds, rfl, hfl.same s4, SqL.of k4, by omega, fun c hc => ?_⟩
   have hm1 := hds.cmn hc
   obtain ⟨xs, hx1, hx2⟩ := kE c _ hm1
   refine ⟨r, m, c, ps, xs, rfl, hfl.same s4, hm90, hx1, fun x hx => kA ((hx2 x).mp hx), fun c' H5 s5 hc' => q c' _ (s4.trans s5) ?_⟩
   rw [qN hx2] at hc'
   exact hc'
end
abbrev s_l : Stmt := top 33
theorem sc_l : FnScope ["near", "sets", "t", "parts", "kept"] ["near", "sets", "t"] (zG s_l) := ⟨rfl, rfl, rfl, by decide +kernel, rfl, by decide +kernel, by decide +kernel⟩
theorem xY {m : Nat} {xs : List Nat} (h1 : xs.Pairwise (· < ·)) (h2 : ∀ x ∈ xs, x < m) : xs.length <= m := by
 have := jT (l := xs) (m := List.range m) (h1.imp fun h => Nat.ne_of_lt h) fun x hx => List.mem_range.mpr (h2 x hx)
 rwa [List.length_range] at this
def LstsAt (H : Hp) (qs : List Addr) (vs : List (List Nat)) : Prop := qs.length = vs.length /\ ∀ (i : Nat) (p : Addr) (v : List Nat), qs[i]? = some p -> vs[i]? = some v -> H p = some (.lst (v.map nV))
theorem LstsAt.same {H H' : Hp} {qs : List Addr} {vs : List (List Nat)} (e : Same H H') (h : LstsAt H qs vs) : LstsAt H' qs vs := ⟨h.1, fun i p v h1 h2 => e _ _ (h.2 i p v h1 h2)⟩
theorem LstsAt.snoc {H : Hp} {qs : List Addr} {vs : List (List Nat)} {p : Addr} {v : List Nat} (h : LstsAt H qs vs) (hp : H p = some (.lst (v.map nV))) : LstsAt H (qs ++ [p]) (vs ++ [v]) := by
 refine ⟨by rw [List.length_append, List.length_append, h.1]; rfl, fun i p' v' h1 h2 => ?_⟩
 by_cases hi : i < qs.length
 · rw [List.getElem?_append_left hi] at h1
   rw [List.getElem?_append_left (by rw [← h.1]; exact hi)] at h2
   exact h.2 i p' v' h1 h2
 · have : i = qs.length := by
     have := (List.getElem?_eq_some_iff.mp h1).1
     rw [List.length_append, List.length_singleton] at this
     omega
   subst this
   rw [List.getElem?_append_right (Nat.le_refl _), Nat.sub_self] at h1
   rw [List.getElem?_append_right (by rw [h.1]; exact Nat.le_refl _), h.1, Nat.sub_self] at h2
   simp at h1 h2
   subst h1 h2
   exact hp
theorem flat_nVs (l : List Nat) : (l.map nV).all flatV = true := by
 rw [List.all_eq_true]
 intro x hx
 obtain ⟨y, _, rfl⟩ := List.mem_map.mp hx
 rfl
theorem inV_nVs {i : Nat} {l : List Nat} : inV (V.int i) (l.map nV) = decide (i ∈ l) := by
 rw [Bool.eq_iff_iff, decide_eq_true_eq]
 unfold inV
 rw [List.any_map, List.any_eq_true]
 constructor
 · rintro ⟨y, hy, e⟩
   have e : ((y : Int) == (i : Int)) = true := e
   have e : y = i := by have := eq_of_beq e; omega
   rw [← e]; exact hy
 · intro h
   exact ⟨i, h, show ((i : Int) == (i : Int)) = true by simp⟩
def spLw (K : PySem.W.Frag) : Nat -> Sp
 | 0 => fun _ _ _ _ => False
 | 1 => fun _ _ _ _ => False
 | n + 2 => fun vs H Q _ => ∃ (na d : Addr) (v : V) (t : Tm) (m : Nat) (ps : List (Nat × Nat)) (kvs : List (Key × V)) (S : Str -> List Nat), vs = [.ref na, .ref d, v] /\ NrAt H na m ps /\ m <= 90 /\ TAt H t v /\ Fit n t /\ wt t <= 900 /\ H d = some (.dK kvs) /\ (∀ x ∈ nms t, ∃ l, yP kvs (.inr x) = some (.ref l) /\ H l = some (.lst ((S x).map nV))) /\ (∀ z, (∀ i ∈ S z, i < m) /\ (S z).Pairwise (· < ·)) /\ ∀ (p : Addr) H', Same H H' -> H p = none -> H' p = some (.lst ((val m ps S t).map nV)) -> Q (.ref p) H'
section
variable {P : Program} {w : World} {K : PySem.W.Frag} {mg : Str -> Option Value} {base : Heap} {f : Addr} {fd : FuncData}
theorem ok_lworth (bi : Bi mg) (h_h : Has P w K mg base 1 "_law_counter" ["near", "spots"] (spLc K)) (F : Fun K "_law_worth" "_law_worth" s_l f fd) (b : Binds K fd ["near", "sets", "t"] []) (m : mg "_law_worth" = some (.ref f)) : ∀ n, FnOk P w K mg base CX0 n f fd ["near", "sets", "t"] (spLw K n) := by
 refine wG F b m (fun vs H Q E h => h) (fun n h_l => ?_)
 match n with
 | 0 => exact no_ok fun vs H Q E h => h
 | n + 1 =>
 refine F.ok sc_l (fun vs H Q E h => ?_) (fun cdv A outer s H vs Q E hr h => ?_)
 · obtain ⟨na, d, v, t, m, ps, kvs, S, rfl, _⟩ := h
   rfl
 obtain ⟨na, d, v, t, m, ps, kvs, S, rfl, hna, hm90, ht, hf, hw, hd, hS, hSr, q⟩ := h
 have hNl : ∀ {J : Hp}, Same H J -> ∃ xs : List V, SqL K J na xs /\ xs.length = m := fun sJ => by
   obtain ⟨us, h1, h2, _⟩ := hna
   exact ⟨_, SqL.of (sJ _ _ h1), by rw [List.length_map, h2]⟩
 refine ⟨_, (zE (yC (zU op_eq (zN ix_tup (pv 2) zD (fun _ _ => rfl)) yA (zW _)) (zH (zO (zX pa_nil))) pss_nil) (zE (yC (zU op_eq (zN ix_tup (pv 2) zD (fun _ _ => rfl)) yA (zW _)) (zH (zO (wO rfl bi.list rfl bi.range rfl (zA (zS call_len rfl bi.len bt_len (zA (pv 0) pa_nil)) pa_nil)))) pss_nil) (zE (yC (zU op_eq (zN ix_tup (pv 2) zD (fun _ _ => rfl)) yA (zW _)) (zH (zO (xD call_list_of rfl bi.list bt_list (zA (pe_dget (hu_of hr) (pv 1) (zN ix_tup (pv 2) zD (fun _ _ => rfl)) (fun _ _ => rfl)) pa_nil)))) pss_nil) (zE (zM (i := 3) sc_l.nd rfl (Or.inr rfl) (yL ["part"] ["near", "sets"] [0, 1] (wM (yY sl_tup (pv 2) (xL zD) po_none)) (fun _ _ _ _ nd => zP (i := 0) nd rfl (Or.inl rfl)) (fun _ _ _ _ => yI) (fun _ _ _ _ => (zJ h_l hr rfl (zA (pv 1) (zA (pv 2) (zA (pv 0) pa_nil))))))) (zE (yC (zU op_eq (zN ix_tup (pv 2) zD (fun _ _ => rfl)) yA (zW _)) (zH (zO (zJ h_h (hr.mono (by omega)) rfl (zA (pv 0) (zA (zN ix_list (pv 3) zD (fun _ _ => rfl)) pa_nil))))) pss_nil) (zE (yC (zU op_eq (zN ix_tup (pv 2) zD (fun _ _ => rfl)) yA (zW _)) (zH (zM (i := 3) sc_l.nd rfl (Or.inr rfl) (yL ["part"] ["near"] [0] (yD (pv 3)) (fun _ _ _ _ nd => zP (i := 0) nd rfl (Or.inl rfl)) (fun _ _ _ _ => yI) (fun _ _ _ _ => (zJ h_h (hr.mono (by omega)) rfl (zA (pv 1) (zA (pv 0) pa_nil))))))) pss_nil) (zE (ps_compz (i := 4) "spot" ["spot"] ["parts"] [3] sc_l.nd rfl (yM rfl bi.range (zA (zS call_len rfl bi.len bt_len (zA (pv 0) pa_nil)) pa_nil)) (fun _ _ _ _ nd => zP (i := 0) nd rfl (Or.inr rfl)) (fun _ _ _ _ => wL (xU (zS (call_allK K) rfl bi.all bt_all (zA (by exact (yL ["part"] ["spot"] [0] (pi_listK K (pv 1)) (fun _ _ _ _ nd => zP (i := 0) nd rfl (Or.inl rfl)) (fun _ _ _ _ => yI) (fun _ _ _ _ => (yZ (uS K) (pv 1) (pv 0) (by with_unfolding_all rfl))))) pa_nil)))) (fun _ _ _ _ => (pv 0))) (zE (yC (zU op_eq (zN ix_tup (pv 2) zD (fun _ _ => rfl)) yA (zW _)) (zH (zO (zJ h_h (hr.mono (by omega)) rfl (zA (pv 0) (zA (pv 4) pa_nil))))) pss_nil) (zH (zO (pv 4))))))))))), ?_⟩
 cases t with
 | name x =>
   obtain ⟨a, rfl, ha⟩ := TAt.name ht
   obtain ⟨l, hl1, hl2⟩ := hS x (by rw [nms]; exact List.mem_singleton.mpr rfl)
   refine zI fun N hN => ?_
   simp! []
   refine ⟨_, SqT.of ha, .str "name", at0, rfl, ?_⟩
   rw [if_neg (by intro z; exact absurd (V.str.inj z) (by decide +kernel))]
   refine hN _ _ ?_
   clear hN
   refine zI fun N hN => ?_
   simp! []
   refine ⟨_, SqT.of ha, .str "name", at0, rfl, ?_⟩
   rw [if_neg (by intro z; exact absurd (V.str.inj z) (by decide +kernel))]
   refine hN _ _ ?_
   clear hN
   refine zI fun N hN => ?_
   simp! []
   refine ⟨_, SqT.of ha, .str "name", at0, rfl, ?_⟩
   rw [if_pos rfl]
   refine ⟨_, SqT.of ha, .str x, at1, _, hl1 ▸ DGet.k (k := .inr x) hd, ?_⟩
   refine ⟨l, rfl, _, .inl (SqL.of hl2), fun p hp => q p _ (zC hp _) hp ?_⟩
   rw [val]
   exact zB
 | node wd ts =>
   obtain ⟨a, us, rfl, ha, hu⟩ := TAt.node ht
   have hwd := hf.wrd
   have hsh := hf.sh
   have hl := hu.length
   have hll := wts_len ts
   rw [wt] at hw
   have hwr : val m ps S (.node wd ts) = xJ m ps wd (ts.map (val m ps S)) := by rw [val, uF]
   rw [hwr] at q
   have hSm' : ∀ t ∈ ts, ∀ x ∈ nms t, ∃ l, yP kvs (.inr x) = some (.ref l) /\ H l = some (.lst ((S x).map nV)) := fun t ht x hx => hS x (by rw [nms]; exact nmss_mem.mpr ⟨t, ht, hx⟩)
   refine zI fun N hN => ?_
   simp! []
   refine ⟨_, SqT.of ha, .str wd, at0, rfl, ?_⟩
   by_cases c1 : wd = "none"
   · rw [if_pos (by rw [c1])]
     have e : xJ m ps wd (ts.map (val m ps S)) = [] := by unfold xJ; rw [if_pos c1]
     rw [e] at q
     exact ⟨zK (by decide), fun p hp => q p _ (zC hp _) hp zB⟩
   rw [if_neg (fun z => c1 (V.str.inj z))]
   refine hN _ _ ?_
   clear hN
   refine zI fun N hN => ?_
   simp! []
   refine ⟨_, SqT.of ha, .str wd, at0, rfl, ?_⟩
   by_cases c2 : wd = "all"
   · rw [if_pos (by rw [c2])]
     have e : xJ m ps wd (ts.map (val m ps S)) = List.range m := by unfold xJ; rw [if_neg c1, if_pos c2]
     rw [e] at q
     obtain ⟨xs, hx1, hx2⟩ := hNl (Same.refl _)
     simp! [tLRg]
     refine ⟨m, .inl ⟨xs, hx1, hx2.symm⟩, m, rfl, by omega, fun p hp => q p _ (zC hp _) hp ?_⟩
     rw [zB]
   rw [if_neg (fun z => c2 (V.str.inj z))]
   refine hN _ _ ?_
   clear hN
   refine zI fun N hN => ?_
   simp! []
   refine ⟨_, SqT.of ha, .str wd, at0, rfl, ?_⟩
   rw [if_neg (fun z => hwd.ne (V.str.inj z))]
   refine hN _ _ ?_
   clear hN
   refine zI fun N hN => ?_
   simp! []
   refine ⟨_, SqT.of ha, yX _ _, fun p2 hp2 => ?_⟩
   rw [qF]
   have s2 := zC hp2 (.tup us)
   have k2 : upd H p2 (.tup us) p2 = some (.tup us) := zB
   generalize upd H p2 (.tup us) = H2 at s2 k2 ⊢
   refine ⟨⟨_, SqT.of k2⟩, ?_⟩
   refine lc_tup (xs := us) (fun i ys σ H' => Same H2 H' /\ (∃ qs : List Addr, ys = qs.map V.ref /\ qs.length = i /\ LstsAt H' qs ((ts.map (val m ps S)).take i)) /\ ∃ o, σ = [o, some (V.ref na), some (V.ref d)]) ⟨Same.refl _, ⟨[], rfl, rfl, rfl, fun i c v h => by simp at h⟩, _, rfl⟩ (zK (by omega)) (fun i ys σ H' e => ?_) (fun i ys σ H' e => SqT.of (e.1 _ _ k2)) (fun i x ys σ H' C' hx e hC => ?_) (fun ys σ H' e p3 hp3 => hN _ _ ?_)
   · obtain ⟨_, ⟨qs, rfl, h1, _⟩, _⟩ := e
     rw [List.length_map, h1]
     exact Nat.le_refl _
   · obtain ⟨es, ⟨qs, rfl, hcl, hcs⟩, o, rfl⟩ := e
     obtain ⟨t, ht', hx'⟩ := hu.getV hx
     cases n with
     | zero => have := hf.2; subst this; simp at ht'
     | succ n =>
       have hm := List.mem_of_getElem? ht'
       have hmt := wts_mem hm
       have s3 := s2.trans es
       simp! []
       refine ⟨na, d, x, t, m, ps, kvs, S, rfl, hna.same s3, hm90, TAt.tups s3.tups hx', hf.2 t hm, by omega, s3 _ _ hd, fun x hx => ?_, hSr, fun p H3 e3 hp k3 => hC _ _ _ ⟨es.trans e3, ⟨qs ++ [p], by rw [List.map_append]; rfl, by rw [List.length_append, hcl]; rfl, ?_⟩, _, rfl⟩⟩
       · obtain ⟨l, q1, q2⟩ := hSm' t hm x hx
         exact ⟨l, q1, s3 _ _ q2⟩
       obtain ⟨hil, hi2⟩ := List.getElem?_eq_some_iff.mp (show (ts.map (val m ps S))[i]? = some (val m ps S t) by rw [List.getElem?_map, ht']; rfl)
       rw [List.take_succ_eq_append_getElem hil, hi2]
       exact (hcs.same e3).snoc k3
   clear hN
   obtain ⟨es, ⟨qs, rfl, hcl, hcs⟩, o, rfl⟩ := e
   rw [show (ts.map (val m ps S)).take us.length = ts.map (val m ps S) from List.take_of_length_le (by rw [List.length_map]; omega)] at hcs
   have s3 := (s2.trans es).trans (zC hp3 (.lst (qs.map V.ref)))
   replace hcs := hcs.same (zC hp3 (.lst (qs.map V.ref)))
   have k3 : upd H' p3 (.lst (qs.map V.ref)) p3 = some (.lst (qs.map V.ref)) := zB
   generalize upd H' p3 (.lst (qs.map V.ref)) = H3 at s3 k3 hcs ⊢
   have hlt : ∀ v ∈ ts.map (val m ps S), (∀ x ∈ v, x < m) /\ v.length <= m := fun v hv => by
     obtain ⟨t, ht, rfl⟩ := List.mem_map.mp hv
     have h1 : ∀ x ∈ val m ps S t, x < m := fun x hx => uG (fun y i hi => (hSr y).1 i hi) t hx
     exact ⟨h1, xY (jZ (fun y => (hSr y).2) t) h1⟩
   have hvl : (ts.map (val m ps S)).length = ts.length := List.length_map _
   generalize hvs : ts.map (val m ps S) = vs at hcs q hlt hvl
   refine zI fun N hN => ?_
   simp! []
   refine ⟨_, SqT.of (s3 _ _ ha), .str wd, at0, rfl, ?_⟩
   by_cases c3 : wd = "not"
   · rw [if_pos (by rw [c3])]
     have h1 : ts.length = 1 := by
       rcases hsh with h | h | h | h | h
       · exact absurd h.1 c1
       · exact absurd h.1 c2
       · exact h.2
       · rw [c3] at h; exact absurd h.1 (by decide +kernel)
       · rw [c3] at h; exact absurd h.1 (by decide +kernel)
     obtain ⟨v0, rfl⟩ : ∃ v0, vs = [v0] := by
       match vs, (show vs.length = 1 by omega) with
       | [v0], _ => exact ⟨v0, rfl⟩
     obtain ⟨q0, rfl⟩ : ∃ q0, qs = [q0] := by
       match qs, (show qs.length = 1 by rw [hcs.1]; rfl) with
       | [c0], _ => exact ⟨c0, rfl⟩
     have e : xJ m ps wd [v0] = cnt m ps v0 := by unfold xJ; rw [if_neg c1, if_neg c2, if_pos c3]; rfl
     rw [e] at q
     have hv0 := hlt v0 List.mem_cons_self
     refine ⟨_, SqL.of k3, .ref q0, at0, ?_⟩
     exact ⟨na, q0, m, ps, v0, rfl, hm90, hna.same s3, SqL.of (hcs.2 0 q0 v0 rfl rfl), hv0.1, by omega, fun p H4 s4 hp k4 => q p H4 (s3.trans s4) (s3.free hp) k4⟩
   rw [if_neg (fun z => c3 (V.str.inj z))]
   refine hN _ _ ?_
   clear hN
   refine zR (fun σ H' => ∃ (p4 : Addr) (qs' : List Addr), Same H3 H' /\ H' p4 = some (.lst (qs'.map V.ref)) /\ LstsAt H' qs' (if wd = "either" then vs.map (cnt m ps) else vs) /\ σ = [some (V.ref na), some (V.ref d), some (V.ref a), some (V.ref p4), none]) (fun N hN => ?_) (fun σ H4 h => ?_)
   · simp! []
     refine ⟨_, SqT.of (s3 _ _ ha), .str wd, at0, rfl, ?_⟩
     by_cases c5 : wd = "either"
     · rw [if_pos (by rw [c5])]
       refine ⟨⟨_, SqL.of k3⟩, ?_⟩
       refine xA (xs := qs.map V.ref) (fun i ys σ H' => Same H3 H' /\ (∃ rs : List Addr, ys = rs.map V.ref /\ rs.length = i /\ LstsAt H' rs ((vs.map (cnt m ps)).take i)) /\ ∃ o, σ = [o, some (V.ref na)]) ⟨Same.refl _, ⟨[], rfl, rfl, rfl, fun i c v h => by simp at h⟩, _, rfl⟩ (zK (by rw [List.length_map, hcs.1]; omega)) (fun i ys σ H' e => ?_) (fun i ys σ H' e => SqL.of (e.1 _ _ k3)) (fun i x ys σ H' C' hx e hC => ?_) (fun ys σ H' e p4 hp4 => hN _ _ ?_)
       · obtain ⟨_, ⟨rs, rfl, h1, _⟩, _⟩ := e
         rw [List.length_map, h1]
         exact Nat.le_refl _
       · obtain ⟨es', ⟨rs, rfl, hdl, hds⟩, o, rfl⟩ := e
         rw [List.getElem?_map] at hx
         obtain ⟨q0, hq0, rfl⟩ := Option.map_eq_some_iff.mp hx
         have hiv : i < vs.length := by rw [← hcs.1]; exact (List.getElem?_eq_some_iff.mp hq0).1
         have hv0 : vs[i]? = some vs[i] := List.getElem?_eq_getElem hiv
         have hlv := hlt vs[i] (List.getElem_mem hiv)
         have s4 := s3.trans es'
         simp! []
         refine ⟨na, q0, m, ps, vs[i], rfl, hm90, hna.same s4, SqL.of (es' _ _ (hcs.2 i q0 _ hq0 hv0)), hlv.1, by omega, fun p H4 s5 hp k5 => hC _ _ _ ⟨es'.trans s5, ⟨rs ++ [p], by rw [List.map_append]; rfl, by rw [List.length_append, hdl]; rfl, ?_⟩, _, rfl⟩⟩
         obtain ⟨hil, hi2⟩ := List.getElem?_eq_some_iff.mp (show (vs.map (cnt m ps))[i]? = some (cnt m ps vs[i]) by rw [List.getElem?_map, hv0]; rfl)
         rw [List.take_succ_eq_append_getElem hil, hi2]
         exact (hds.same s5).snoc k5
       obtain ⟨es', ⟨rs, rfl, hdl, hds⟩, o, rfl⟩ := e
       rw [List.length_map] at hds hdl
       rw [show (vs.map (cnt m ps)).take qs.length = vs.map (cnt m ps) from List.take_of_length_le (by rw [List.length_map, hcs.1]; exact Nat.le_refl _)] at hds
       refine ⟨p4, rs, es'.trans (zC hp4 _), zB, ?_, rfl⟩
       rw [if_pos c5]
       exact hds.same (zC hp4 _)
     · rw [if_neg (fun z => c5 (V.str.inj z))]
       refine hN _ _ ⟨p3, qs, Same.refl _, k3, ?_, rfl⟩
       rw [if_neg c5]
       exact hcs
   obtain ⟨p4, rs, s34, k4, hrs, rfl⟩ := h
   have s4 := s3.trans s34
   have hlt' : (if wd = "either" then vs.map (cnt m ps) else vs).length <= 900 := by
     split
     · rw [List.length_map]; omega
     · omega
   have hlt2 : ∀ v ∈ (if wd = "either" then vs.map (cnt m ps) else vs), v.length <= m := fun v hv => by
     split at hv
     · obtain ⟨u, _, rfl⟩ := List.mem_map.mp hv
       exact xY (qH ..) fun x hx => wZ hx
     · exact (hlt v hv).2
   generalize hws : (if wd = "either" then vs.map (cnt m ps) else vs) = ws at hrs hlt' hlt2
   have hval : xJ m ps wd vs = if wd = "either" then cnt m ps (cmn m ws) else cmn m ws := by
     unfold xJ
     rw [if_neg c1, if_neg c2, if_neg c3, ← hws]
     by_cases c5 : wd = "either"
     · rw [if_pos c5, if_pos c5, if_neg (by rw [c5]; decide +kernel)]
     · rw [if_neg c5, if_neg c5, if_pos]
       rcases hsh with h | h | h | h | h
       · exact absurd h.1 c1
       · exact absurd h.1 c2
       · exact absurd h.1 c3
       · exact h.1
       · exact absurd h.1 c5
   rw [hval] at q
   refine zI fun N hN => ?_
   simp! []
   obtain ⟨xs, hx1, hx2⟩ := hNl s4
   refine ⟨m, .inl ⟨xs, hx1, hx2.symm⟩, by omega, by omega, ?_⟩
   refine lc_rangeIf (n := (m : Int).toNat) (fun i ys σ H' => Same H4 H' /\ ys = ((List.range i).filter fun i => ws.all fun v => decide (i ∈ v)).map nV /\ ∃ o, σ = [o, some (V.ref p4)]) ⟨Same.refl _, rfl, _, rfl⟩ (zK (by omega)) (fun i ys σ H' e => ?_) (fun i ys σ H' C' D' hi e hC hD => ?_) (fun ys σ H' e p5 hp5 => hN _ _ ?_)
   · rw [e.2.1, List.length_map]
     exact Nat.le_trans (List.length_filter_le _ _) (by rw [List.length_range]; exact Nat.le_refl _)
   · obtain ⟨es', rfl, o, rfl⟩ := e
     have e0 : (0 : Int) + (i : Int) = ((i : Nat) : Int) := by omega
     simp! []
     rw [e0]
     refine ⟨⟨_, SqL.of (es' _ _ k4)⟩, ?_⟩
     refine xA (xs := rs.map V.ref) (fun k ys σ H'' => H'' = H' /\ ys = ((ws.take k).map fun v => decide (i ∈ v)).map V.bl /\ ∃ o, σ = [o, some (V.int i)]) ⟨rfl, rfl, _, rfl⟩ (zK (by rw [List.length_map, hrs.1]; omega)) (fun k ys σ H'' e => ?_) (fun k ys σ H'' e => by rw [e.1]; exact SqL.of (es' _ _ k4)) (fun k x ys σ H'' C hx e hC' => ?_) (fun ys σ H'' e p6 hp6 => ?_)
     · obtain ⟨_, rfl, _⟩ := e
       rw [List.length_map, List.length_map, List.length_take]
       omega
     · obtain ⟨rfl, rfl, o, rfl⟩ := e
       rw [List.getElem?_map] at hx
       obtain ⟨q0, hq0, rfl⟩ := Option.map_eq_some_iff.mp hx
       have hiv : k < ws.length := by rw [← hrs.1]; exact (List.getElem?_eq_some_iff.mp hq0).1
       simp! []
       refine ⟨q0, _, rfl, .inl (SqL.of (es' _ _ (hrs.2 k q0 _ hq0 (List.getElem?_eq_getElem hiv)))), rfl, flat_nVs _, ?_⟩
       rw [if_neg Bool.false_ne_true, inV_nVs]
       refine hC' _ _ _ ⟨rfl, ?_, _, rfl⟩
       rw [List.take_succ_eq_append_getElem hiv, List.map_append, List.map_append]
       rfl
     obtain ⟨rfl, rfl, oo, rfl⟩ := e
     rw [List.length_map, List.take_of_length_le (by rw [hrs.1]; exact Nat.le_refl _)]
     have s6 := zC hp6 (.lst ((ws.map fun v => decide (i ∈ v)).map V.bl))
     refine ⟨p6, rfl, _, SqL.of zB, ?_⟩
     have ea : ((ws.map fun v => decide (i ∈ v)).all id) = (ws.all fun v => decide (i ∈ v)) := by
       rw [List.all_map]
       rfl
     rw [ea]
     have hfl : (List.range (i + 1)).filter (fun i => ws.all fun v => decide (i ∈ v)) = (List.range i).filter (fun i => ws.all fun v => decide (i ∈ v)) ++ (if (ws.all fun v => decide (i ∈ v)) = true then [i] else []) := by
       rw [List.range_succ, List.filter_append, List.filter_cons, List.filter_nil]
     by_cases hb : (ws.all fun v => decide (i ∈ v)) = true
     · rw [if_pos hb]
       refine hC _ _ _ ⟨es'.trans s6, ?_, _, rfl⟩
       rw [hfl, if_pos hb, List.map_append]
       rfl
     · rw [if_neg hb]
       refine hD _ _ ⟨es'.trans s6, ?_, _, rfl⟩
       rw [hfl, if_neg hb, List.append_nil]
   clear hN
   obtain ⟨es', rfl, o, rfl⟩ := e
   rw [Int.toNat_natCast]
   have s5 := (s4.trans es').trans (zC hp5 (.lst (((List.range m).filter fun i => ws.all fun v => decide (i ∈ v)).map nV)))
   have k5 : upd H' p5 (.lst (((List.range m).filter fun i => ws.all fun v => decide (i ∈ v)).map nV)) p5 = some (.lst ((cmn m ws).map nV)) := zB
   have hfr : H p5 = none := (s4.trans es').free hp5
   generalize upd H' p5 (.lst (((List.range m).filter fun i => ws.all fun v => decide (i ∈ v)).map nV)) = H5 at s5 k5 ⊢
   refine zI fun N hN => ?_
   simp! []
   refine ⟨_, SqT.of (s5 _ _ ha), .str wd, at0, rfl, ?_⟩
   by_cases c5 : wd = "either"
   · rw [if_pos (by rw [c5])]
     rw [if_pos c5] at q
     exact ⟨na, p5, m, ps, cmn m ws, rfl, hm90, hna.same s5, SqL.of k5, fun x hx => kA hx, by have := xY (cmn_rise m ws) (fun x hx => kA hx); omega, fun p H6 s6 hp k6 => q p H6 (s5.trans s6) (s5.free hp) k6⟩
   · rw [if_neg (fun z => c5 (V.str.inj z))]
     rw [if_neg c5] at q
     refine hN _ _ ?_
     clear hN
     simp! []
     exact q p5 H5 s5 hfr k5
end
abbrev s_o : Stmt := top 36
theorem sc_o : FnScope ["script", "k", "names", "many", "pairs", "near", "rows", "n", "some"] ["script", "k", "names"] (zG s_o) := ⟨rfl, rfl, rfl, by decide +kernel, rfl, by decide +kernel, by decide +kernel⟩
abbrev s_w : Stmt := top 37
theorem sc_w : FnScope ["world"] ["world"] (zG s_w) := ⟨rfl, rfl, rfl, by decide +kernel, rfl, by decide +kernel, by decide +kernel⟩
abbrev s_t : Stmt := top 38
theorem sc_t : FnScope ["world", "sets", "name", "spots"] ["world"] (zG s_t) := ⟨rfl, rfl, rfl, by decide +kernel, rfl, by decide +kernel, by decide +kernel⟩
abbrev Ro := Addr × Str × Addr × List Nat
def TrAt (H : Hp) (m : Nat) (T : List Ro) : Prop := ∀ e ∈ T, H e.1 = some (.tup [.str e.2.1, .ref e.2.2.1]) /\ H e.2.2.1 = some (.lst (e.2.2.2.map nV)) /\ (∀ i ∈ e.2.2.2, i < m) /\ e.2.2.2.Pairwise (· < ·)
theorem TrAt.same {H H' : Hp} {m : Nat} {T : List Ro} (e : Same H H') (h : TrAt H m T) : TrAt H' m T := fun r hr => let ⟨h1, h2, h3⟩ := h r hr; ⟨e _ _ h1, e _ _ h2, h3⟩
structure WdAt (H : Hp) (wa : Addr) (m : Nat) (ps : List (Nat × Nat)) (T : List Ro) (ca la : Addr) (us : List V) : Prop where
 tup : H wa = some (.tup [nV m, .ref ca, .ref la])
 cl : H ca = some (.lst us)
 dat : DAts H (ps.map dP2) us
 ok2 : Ok2 m ps
 pl : ps.length <= 1000
 m1 : 1 <= m
 m90 : m <= 90
 rows : H la = some (.lst ((T.map (·.1)).map V.ref))
 tr : TrAt H m T
 nd : (T.map (·.2.1)).Nodup
 tl : T.length <= 5
theorem WdAt.same {H H' : Hp} {wa : Addr} {m : Nat} {ps : List (Nat × Nat)} {T : List Ro} {ca la : Addr} {us : List V} (e : Same H H') (h : WdAt H wa m ps T ca la us) : WdAt H' wa m ps T ca la us :=
 ⟨e _ _ h.tup, e _ _ h.cl, DAts.same e h.dat, h.ok2, h.pl, h.m1, h.m90, e _ _ h.rows, h.tr.same e, h.nd, h.tl⟩
theorem perm_map_ex {α β : Type} {f : α -> β} {l' l : List β} (h : l'.Perm l) : ∀ T : List α, l = T.map f -> ∃ T' : List α, T'.Perm T /\ l' = T'.map f := by
 induction h with
 | nil => intro T e; exact ⟨T, List.Perm.refl _, e⟩
 | cons x _ ih =>
   intro T e
   cases T with
   | nil => cases e
   | cons t T1 =>
     rw [List.map_cons] at e
     obtain ⟨e1, e2⟩ := List.cons.inj e
     obtain ⟨T', p, e3⟩ := ih T1 e2
     exact ⟨t :: T', p.cons _, by rw [List.map_cons, e1, e3]⟩
 | swap x y l =>
   intro T e
   cases T with
   | nil => cases e
   | cons t1 T =>
     cases T with
     | nil => cases (List.cons.inj e).2
     | cons t2 T1 =>
       rw [List.map_cons, List.map_cons] at e
       obtain ⟨e1, e2⟩ := List.cons.inj e
       obtain ⟨e2, e3⟩ := List.cons.inj e2
       exact ⟨t2 :: t1 :: T1, List.Perm.swap .., by rw [List.map_cons, List.map_cons, e1, e2, e3]⟩
 | trans _ _ ih1 ih2 =>
   intro T e
   obtain ⟨T1, p1, e1⟩ := ih2 T e
   obtain ⟨T2, p2, e2⟩ := ih1 T1 e1
   exact ⟨T2, p2.trans p1, e2⟩
theorem rk_no : ∀ {T : List Ro} {x : Str}, x ∉ T.map (·.2.1) -> yP (T.map fun e => ((.inr e.2.1 : Key), V.ref e.2.2.1)) (.inr x) = none
 | [], x, _ => rfl
 | e :: T, x, h => by
   rw [List.map_cons] at h
   have h1 := List.ne_of_not_mem_cons h
   have e1 : yP ((e :: T).map fun e => ((.inr e.2.1 : Key), V.ref e.2.2.1)) (.inr x) = yP (T.map fun e => ((.inr e.2.1 : Key), V.ref e.2.2.1)) (.inr x) := xS (fun z => h1 (Sum.inr.inj z).symm)
   rw [e1]
   exact rk_no (List.not_mem_of_not_mem_cons h)
theorem rk_val : ∀ {T : List Ro} {e : Ro}, (T.map (·.2.1)).Nodup -> e ∈ T -> yP (T.map fun e => ((.inr e.2.1 : Key), V.ref e.2.2.1)) (.inr e.2.1) = some (.ref e.2.2.1)
 | r :: T, e, hn, h => by
   rw [List.map_cons] at hn
   have hn' := List.nodup_cons.mp hn
   rcases List.mem_cons.mp h with h | h
   · subst h
     exact jJ rfl
   · have e1 : yP ((r :: T).map fun e => ((.inr e.2.1 : Key), V.ref e.2.2.1)) (.inr e.2.1) = yP (T.map fun e => ((.inr e.2.1 : Key), V.ref e.2.2.1)) (.inr e.2.1) := xS (fun z => hn'.1 (List.mem_map.mpr ⟨e, h, (Sum.inr.inj z).symm⟩))
     rw [e1]
     exact rk_val hn'.2 h
def spWd (K : PySem.W.Frag) : Sp := fun vs H Q _ => ∃ (a na : Addr) (ns : List Int) (k j : Nat) (zs : List Str), vs = [.ref a, .int k, .ref na] /\ SqL K H a (ns.map V.int) /\ ns.length <= 63 /\ k <= 50 /\ Nms H na j zs /\ 1 <= j /\ j <= 5 /\ ∀ (wa : Addr) (m : Nat) (ps : List (Nat × Nat)) (T : List Ro) (ca la : Addr) (us : List V) (H' : Hp), Same H H' -> WdAt H' wa m ps T ca la us -> (T.map (·.2.1)).Perm zs -> Q (.ref wa) H'
def spCy : Sp := fun vs H Q _ => ∃ (wa : Addr) (m : Nat) (ps : List (Nat × Nat)) (T : List Ro) (ca la : Addr) (us : List V), vs = [.ref wa] /\ WdAt H wa m ps T ca la us /\ ∀ (wa' : Addr) (T' : List Ro) (ca' la' : Addr) (us' : List V) (H' : Hp), Same H H' -> WdAt H' wa' m ps T' ca' la' us' -> T'.map (·.2.1) = T.map (·.2.1) -> T'.map (·.2.2.2) = T.map (·.2.2.2) -> Q (.ref wa') H'
def spSt : Sp := fun vs H Q _ => ∃ (wa : Addr) (m : Nat) (ps : List (Nat × Nat)) (T : List Ro) (ca la : Addr) (us : List V), vs = [.ref wa] /\ WdAt H wa m ps T ca la us /\ ∀ (p : Addr) (H' : Hp), Same H H' -> H' p = some (.dK (T.map fun e => (.inr e.2.1, .ref e.2.2.1))) -> Q (.ref p) H'
section
variable {P : Program} {w : World} {K : PySem.W.Frag} {mg : Str -> Option Value} {base : Heap} {f : Addr} {fd : FuncData}
theorem ok_world (bi : Bi mg) (h_n : Has P w K mg base 1 "_law_draw" ["script", "k"] (spDr K)) (h_j : Has P w K mg base 1 "_law_clashes" ["spell", "many"] spCs) (h_r : Has P w K mg base 1 "_law_near" ["many", "pairs"] spNr) (h_s : Has P w K mg base 1 "_law_some" ["cell", "many"] spSm) (h_h : Has P w K mg base 1 "_law_counter" ["near", "spots"] (spLc K)) (F : Fun K "_law_world" "_law_world" s_o f fd) : FnOk P w K mg base CX0 2 f fd ["script", "k", "names"] (spWd K) := by
 refine F.ok sc_o (fun vs H Q E h => ?_) (fun cdv A outer s H vs Q E hr h => ?_)
 · obtain ⟨a, na, ns, k, j, zs, rfl, _⟩ := h
   rfl
 obtain ⟨a, na, ns, k, j, zs, rfl, hS, hl, hk, hnm, hj1, hj5, q⟩ := h
 refine ⟨_, (zE (zM (i := 3) sc_o.nd rfl (Or.inl rfl) (zL op_add zD (zL op_mod (zJ h_n (hr.mono (by omega)) rfl (zA (pv 0) (zA (pv 1) pa_nil))) zD))) (zE (zM (i := 4) sc_o.nd rfl (Or.inl rfl) (zJ h_j (hr.mono (by omega)) rfl (zA (zL op_mod (zL op_mul (zJ h_n (hr.mono (by omega)) rfl (zA (pv 0) (zA (zL op_add (pv 1) zD) pa_nil))) zD) (zL op_pow zD zD)) (zA (pv 3) pa_nil)))) (zE (zM (i := 5) sc_o.nd rfl (Or.inl rfl) (zJ h_r (hr.mono (by omega)) rfl (zA (pv 3) (zA (pv 4) pa_nil)))) (zE (zM (i := 6) sc_o.nd rfl (Or.inl rfl) (zX pa_nil)) (zE (yO PassesOwn.never rfl (yM rfl bi.range (zA (zS call_len rfl bi.len bt_len (zA (pv 2) pa_nil)) pa_nil)) (zP (i := 7) sc_o.nd rfl (Or.inl rfl)) (zE (zM (i := 8) sc_o.nd rfl (Or.inl rfl) (zJ h_s (hr.mono (by omega)) rfl (zA (zJ h_n (hr.mono (by omega)) rfl (zA (pv 0) (zA (zL op_add (zL op_add (pv 1) zD) (pv 7)) pa_nil))) (zA (pv 3) pa_nil)))) (zH (yT (xZ PySem.F.plainAttrs_list PySem.F.slot_list_append PySem.F.type_list_append mt_append (pv 6) (zA (yJ (zA (zN ix_list (pv 2) (pv 7) (fun _ _ => rfl)) (zA (zJ h_h (hr.mono (by omega)) rfl (zA (pv 5) (zA (pv 8) pa_nil))) pa_nil))) pa_nil)))))) (zH (zO (yJ (zA (pv 3) (zA (pv 4) (zA (zS call_sortedP rfl bi.sorted bt_sorted (zA (pv 6) pa_nil)) pa_nil))))))))))), ?_⟩
 refine zI fun N hN => ?_
 simp! []
 refine ⟨a, ns, k, rfl, hS, hl, by omega, fun z hz => ⟨z, rfl, by decide, hN _ _ ?_⟩⟩
 clear hN
 obtain ⟨m, em⟩ : ∃ m : Nat, 1 + z % 7 = (m : Int) := ⟨(1 + z % 7).toNat, by omega⟩
 have hm1 : 1 <= m := by omega
 have hm7 : m <= 7 := by omega
 rw [em]
 refine zI fun N hN => ?_
 simp! []
 refine ⟨a, ns, k + 1, rfl, hS, hl, by omega, fun z2 hz2 => ⟨z2, rfl, .inr ⟨by decide, by decide⟩, ⟨by decide, by decide, by decide⟩, by decide, ?_⟩⟩
 refine ⟨_, m, rfl, by omega, fun ca us ps H1 s1 hca kca hps hok hpl => hN _ _ ?_⟩
 clear hN
 replace hS := Same.seq s1 hS
 replace hnm := hnm.same s1
 refine zI fun N hN => ?_
 simp! []
 refine ⟨m, ca, us, ps, rfl, by omega, kca, hps, hok, fun nr H2 s2 hnr => hN _ _ ?_⟩
 clear hN
 replace hS := Same.seq s2 hS
 replace hnm := hnm.same s2
 replace kca := s2 _ _ kca
 replace hps := DAts.same s2 hps
 have s02 := s1.trans s2
 refine zI fun N hN => ?_
 simp! []
 refine ⟨zK (by decide), fun ra hra => hN _ _ ?_⟩
 clear hN
 have s3 := zC hra (.lst [])
 have kra : upd H2 ra (.lst []) ra = some (.lst []) := zB
 generalize upd H2 ra (.lst []) = H3 at s3 kra ⊢
 have hjz := hnm.len
 refine zR (fun σ H' => ∃ (o1 o2 : Option V) (T : List Ro), Same H2 H' /\ H' ra = some (.lst ((T.map (·.1)).map V.ref)) /\ TrAt H' m T /\ T.map (·.2.1) = zs /\ σ = [some (V.ref a), some (V.int k), some (V.ref na), some (V.int m), some (V.ref ca), some (V.ref nr), some (V.ref ra), o1, o2]) (fun N hN => ?_) (fun σ H' h => ?_)
 · simp! []
   refine ⟨zs.length, .inl ⟨_, SqL.of (s3 _ _ hnm.lst), (List.length_map _).symm⟩, by omega, by omega, ?_⟩
   refine xC (n := (zs.length : Int).toNat) (fun i σ H' => ∃ (o1 o2 : Option V) (T : List Ro), Same H2 H' /\ H' ra = some (.lst ((T.map (·.1)).map V.ref)) /\ TrAt H' m T /\ (∀ e ∈ T, e.2.2.1 ≠ ra) /\ T.map (·.2.1) = zs.take i /\ σ = [some (V.ref a), some (V.int k), some (V.ref na), some (V.int m), some (V.ref ca), some (V.ref nr), some (V.ref ra), o1, o2]) ⟨_, _, [], s3, kra, (fun e h => by cases h), (fun e h => by cases h), rfl, rfl⟩ (fun i σ H' hi h => ?_) (fun σ H' h => ?_)
   · obtain ⟨o1, o2, T, s4, k4, h4, hne, hT, rfl⟩ := h
     have hiz : i < zs.length := by omega
     have e0 : (0 : Int) + (i : Int) = ((i : Nat) : Int) := by omega
     rw [e0]
     refine zI fun N hN => ?_
     simp! []
     refine ⟨a, ns, k + 2 + i, rfl, Same.seq s4 hS, hl, by omega, fun z3 hz3 => ?_⟩
     refine ⟨z3, m, rfl, hm1, by omega, fun sa sp H5 s5 k5 hsp hspl => hN _ _ ?_⟩
     clear hN
     have s45 := s4.trans s5
     simp! []
     have hTl : T.length = i := by have := congrArg List.length hT; rw [List.length_map, List.length_take] at this; omega
     refine ⟨.inl ⟨rfl, _, SqL.of (s5 _ _ k4)⟩, _, SqL.of (s45 _ _ hnm.lst), V.str zs[i], yB (j := i) (by rw [List.getElem?_map, List.getElem?_eq_getElem hiz]; rfl), ?_⟩
     refine ⟨nr, sa, m, ps, sp, rfl, by omega, hnr.same s45, SqL.of k5, hsp, by omega, fun lp H6 s6 hlp k6 => ⟨zK (by decide), fun p hp => ?_⟩⟩
     have s7 := zC hp (.tup [V.str zs[i], V.ref lp])
     have k7 : upd H6 p (.tup [V.str zs[i], V.ref lp]) p = some (.tup [V.str zs[i], V.ref lp]) := zB
     generalize upd H6 p (.tup [V.str zs[i], V.ref lp]) = H7 at s7 k7 ⊢
     have k4' := (s5.trans (s6.trans s7)) _ _ k4
     have hlpne : lp ≠ ra := fun z => by rw [z, s5 _ _ k4] at hlp; cases hlp
     refine ⟨_, k4', by rw [List.length_map, List.length_map, hTl]; exact Nat.lt_of_lt_of_le (show i < 64 by omega) (zK (by decide)), (s45.trans (s6.trans s7)).upd hra, _, _, T ++ [(p, zs[i], lp, cnt m ps sp)], ?_, fun e he => ?_, fun e he => ?_, ?_, rfl, rfl⟩
     · rw [zB, List.map_append, List.map_append]
       rfl
     · have key : H7 e.1 = some (.tup [.str e.2.1, .ref e.2.2.1]) /\ H7 e.2.2.1 = some (.lst (e.2.2.2.map nV)) /\ ((∀ i ∈ e.2.2.2, i < m) /\ e.2.2.2.Pairwise (· < ·)) /\ e.2.2.1 ≠ ra := by
         rcases List.mem_append.mp he with he | he
         · have := h4.same (s5.trans (s6.trans s7)) e he
           exact ⟨this.1, this.2.1, this.2.2, hne e he⟩
         · rw [List.mem_singleton.mp he]
           exact ⟨k7, s7 _ _ k6, ⟨fun x hx => wZ hx, qH ..⟩, hlpne⟩
       obtain ⟨g1, g2, g3, g4⟩ := key
       have g5 : e.1 ≠ ra := fun z => by rw [z, k4'] at g1; cases g1
       exact ⟨by rw [zQ g5]; exact g1, by rw [zQ g4]; exact g2, g3⟩
     · rcases List.mem_append.mp he with he | he
       · exact hne e he
       · rw [List.mem_singleton.mp he]; exact hlpne
     · rw [List.map_append, hT, List.take_succ_eq_append_getElem hiz]
       rfl
   · obtain ⟨o1, o2, T, s4, k4, h4, _, hT, rfl⟩ := h
     rw [Int.toNat_natCast, List.take_of_length_le (Nat.le_refl _)] at hT
     exact hN _ _ ⟨_, _, T, s4, k4, h4, hT, rfl⟩
 obtain ⟨o1, o2, T, s4, k4, h4, hT, rfl⟩ := h
 have hTl : T.length = zs.length := by have := congrArg List.length hT; rwa [List.length_map] at this
 simp! []
 refine ⟨T.map (·.1), k4, zs, by rw [List.length_map, hTl], by omega, hnm.nd, fun i b z hb hz => ?_, fun l as' hl' hperm => ⟨zK (by decide), fun p hp => ?_⟩⟩
 · rw [List.getElem?_map] at hb
   obtain ⟨e, he, rfl⟩ := Option.map_eq_some_iff.mp hb
   rw [← hT, List.getElem?_map, he] at hz
   cases hz
   exact ⟨_, (h4 e (List.mem_of_getElem? he)).1⟩
 obtain ⟨T', hp', rfl⟩ := perm_map_ex hperm T rfl
 have s5 := (zC hl' (.lst ((T'.map (·.1)).map V.ref))).trans (zC hp (.tup [V.int m, V.ref ca, V.ref l]))
 have hpn : (T'.map (·.2.1)).Perm zs := by rw [← hT]; exact hp'.map _
 refine q p m ps T' ca l us _ ((s02.trans s4).trans s5) ⟨zB, (s4.trans s5) _ _ kca, DAts.same (s4.trans s5) hps, hok, by omega, hm1, by omega, zC hp _ _ _ zB, fun e he => h4.same s5 e (hp'.mem_iff.mp he), hpn.nodup_iff.mpr hnm.nd, by rw [hp'.length_eq]; omega⟩ hpn
theorem ok_copy (bi : Bi mg) (F : Fun K "_law_copy" "_law_copy" s_w f fd) : FnOk P w K mg base CX0 1 f fd ["world"] spCy := by
 refine F.ok sc_w (fun vs H Q E h => ?_) (fun cdv A outer s H vs Q E hr h => ?_)
 · obtain ⟨wa, m, ps, T, ca, la, us, rfl, _⟩ := h
   rfl
 obtain ⟨wa, m, ps, T, ca, la, us, rfl, hw, q⟩ := h
 refine ⟨_, (zH (zO (yJ (zA (zN ix_tup (pv 0) zD (fun _ _ => rfl)) (zA (xD call_list_of rfl bi.list bt_list (zA (zN ix_tup (pv 0) zD (fun _ _ => rfl)) pa_nil)) (zA (yL ["one"] [] [] (yD (zN ix_tup (pv 0) zD (fun _ _ => rfl))) (fun _ _ _ _ nd => zP (i := 0) nd rfl (Or.inl rfl)) (fun _ _ _ _ => yI) (fun _ _ _ _ => (yJ (zA (zN (qC K) (pv 0) zD (fun _ _ => rfl)) (zA (xD (vG K) rfl bi.list bt_list (zA (zN (qC K) (pv 0) zD (fun _ _ => rfl)) pa_nil)) pa_nil))))) pa_nil)))))), ?_⟩
 simp! []
 have at1' : ∀ {a b c : V}, atI [a, b, c] 1 = some b := yB (j := 1) rfl
 have at2 : ∀ {a b c : V}, atI [a, b, c] 2 = some c := yB (j := 2) rfl
 refine ⟨_, SqT.of hw.tup, _, at0, _, SqT.of hw.tup, _, at1', ca, rfl, us, .inl (SqL.of hw.cl), fun l hl => ?_⟩
 have s1 := zC hl (.lst us)
 have k1 : upd H l (.lst us) l = some (.lst us) := zB
 generalize upd H l (.lst us) = H1 at s1 k1 ⊢
 refine ⟨_, SqT.of (s1 _ _ hw.tup), _, at2, la, rfl, ⟨_, SqL.of (s1 _ _ hw.rows)⟩, ?_⟩
 refine xA (xs := (T.map (·.1)).map V.ref) (fun i ys σ H' => Same H1 H' /\ (∃ T' : List Ro, ys = (T'.map (·.1)).map V.ref /\ T'.map (·.2.1) = (T.take i).map (·.2.1) /\ T'.map (·.2.2.2) = (T.take i).map (·.2.2.2) /\ TrAt H' m T') /\ ∃ o, σ = [o]) ⟨Same.refl _, ⟨[], rfl, rfl, rfl, fun e h => by cases h⟩, _, rfl⟩ (zK (by rw [List.length_map, List.length_map]; have := hw.tl; omega)) (fun i ys σ H' e => ?_) (fun i ys σ H' e => SqL.of ((s1.trans e.1) _ _ hw.rows)) (fun i x ys σ H' C' hx e hC => ?_) (fun ys σ H' e p3 hp3 => ?_)
 · obtain ⟨_, ⟨T', rfl, h1, _⟩, _⟩ := e
   have := congrArg List.length h1
   rw [List.length_map, List.length_map, List.length_take] at this
   rw [List.length_map, List.length_map]
   omega
 · obtain ⟨es, ⟨T', rfl, h1, h2, h3⟩, o, rfl⟩ := e
   rw [List.getElem?_map, List.getElem?_map] at hx
   obtain ⟨a, ha, rfl⟩ := Option.map_eq_some_iff.mp hx
   obtain ⟨e, he, rfl⟩ := Option.map_eq_some_iff.mp ha
   have htr := hw.tr e (List.mem_of_getElem? he)
   obtain ⟨hil, hie⟩ := List.getElem?_eq_some_iff.mp he
   have s2 := s1.trans es
   simp! []
   refine ⟨_, SqT.of (s2 _ _ htr.1), _, at0, _, SqT.of (s2 _ _ htr.1), _, at1, e.2.2.1, rfl, _, .inl (SqL.of (s2 _ _ htr.2.1)), fun l2 hl2 => ⟨zK (by decide), fun p hp => hC _ _ _ ⟨es.trans ((zC hl2 _).trans (zC hp _)), ⟨T' ++ [(p, e.2.1, l2, e.2.2.2)], ?_, ?_, ?_, fun r hr => ?_⟩, _, rfl⟩⟩⟩
   · rw [List.map_append, List.map_append]; rfl
   · rw [List.map_append, h1, List.take_succ_eq_append_getElem hil, List.map_append, hie]; rfl
   · rw [List.map_append, h2, List.take_succ_eq_append_getElem hil, List.map_append, hie]; rfl
   · rcases List.mem_append.mp hr with hr | hr
     · exact h3.same ((zC hl2 _).trans (zC hp _)) r hr
     · rw [List.mem_singleton.mp hr]
       exact ⟨zB, zC hp _ _ _ zB, htr.2.2⟩
 obtain ⟨es, ⟨T', rfl, h1, h2, h3⟩, o, rfl⟩ := e
 rw [List.length_map, List.length_map, List.take_of_length_le (Nat.le_refl _)] at h1 h2
 have s2 := (s1.trans es).trans (zC hp3 (.lst ((T'.map (·.1)).map V.ref)))
 have k3 : upd H' p3 (.lst ((T'.map (·.1)).map V.ref)) p3 = some (.lst ((T'.map (·.1)).map V.ref)) := zB
 replace k1 := (es.trans (zC hp3 (.lst ((T'.map (·.1)).map V.ref)))) _ _ k1
 replace h3 := h3.same (zC hp3 (.lst ((T'.map (·.1)).map V.ref)))
 generalize upd H' p3 (.lst ((T'.map (·.1)).map V.ref)) = H3 at s2 k3 k1 h3 ⊢
 refine ⟨zK (by decide), fun p hp => ?_⟩
 have s4 := zC hp (.tup [nV m, .ref l, .ref p3])
 have hTl : T'.length = T.length := by have := congrArg List.length h1; rwa [List.length_map, List.length_map] at this
 exact q p T' l p3 us _ (s2.trans s4) ⟨zB, s4 _ _ k1, DAts.same (s2.trans s4) hw.dat, hw.ok2, hw.pl, hw.m1, hw.m90, s4 _ _ k3, h3.same s4, by rw [h1]; exact hw.nd, by rw [hTl]; exact hw.tl⟩ h1 h2
theorem ok_sets (bi : Bi mg) (F : Fun K "_law_sets" "_law_sets" s_t f fd) : FnOk P w K mg base CX0 1 f fd ["world"] spSt := by
 refine F.ok sc_t (fun vs H Q E h => ?_) (fun cdv A outer s H vs Q E hr h => ?_)
 · obtain ⟨wa, m, ps, T, ca, la, us, rfl, _⟩ := h
   rfl
 obtain ⟨wa, m, ps, T, ca, la, us, rfl, hw, q⟩ := h
 refine ⟨_, (zE (zM (i := 1) sc_t.nd rfl (Or.inl rfl) pe_dnewK) (zE (yO PassesOwn.never rfl (yD (zN ix_tup (pv 0) zD (fun _ _ => rfl))) (wN rfl (xG (zP (i := 2) sc_t.nd rfl (Or.inl rfl)) (xG (zP (i := 3) sc_t.nd rfl (Or.inl rfl)) pgs_nil))) (zH (ps_dput (hu_of hr) (pv 1) (pv 2) (pv 3) rfl))) (zH (zO (pv 1))))), ?_⟩
 refine zI fun N hN => ?_
 simp! []
 intro p hp
 refine hN _ _ ?_
 clear hN
 have s1 := zC hp (.dK [])
 have k1 : upd H p (.dK []) p = some (.dK []) := zB
 generalize upd H p (.dK []) = H1 at s1 k1 ⊢
 have at2 : ∀ {a b c : V}, atI [a, b, c] 2 = some c := yB (j := 2) rfl
 refine zR (fun σ H' => ∃ o1 o2 : Option V, Same H H' /\ H' p = some (.dK (T.map fun e => (.inr e.2.1, .ref e.2.2.1))) /\ σ = [some (V.ref wa), some (V.ref p), o1, o2]) (fun N hN => ?_) (fun σ H' h => ?_)
 · simp! []
   refine ⟨_, SqT.of (s1 _ _ hw.tup), _, at2, la, rfl, ⟨_, SqL.of (s1 _ _ hw.rows)⟩, ?_⟩
   refine xM (xs := (T.map (·.1)).map V.ref) (fun k σ H' => Same H H' /\ H' p = some (.dK ((T.take k).map fun e => (.inr e.2.1, .ref e.2.2.1))) /\ ∃ o1 o2, σ = [some (V.ref wa), some (V.ref p), o1, o2]) ⟨s1, k1, _, _, rfl⟩ (fun k σ H' _ h => ?_) (fun k x σ H' hx h => ?_) (fun σ H' h => ?_)
   · exact SqL.of (h.1 _ _ hw.rows)
   · obtain ⟨s2, k2, o1, o2, rfl⟩ := h
     rw [List.getElem?_map, List.getElem?_map] at hx
     obtain ⟨a, ha, rfl⟩ := Option.map_eq_some_iff.mp hx
     obtain ⟨e, he, rfl⟩ := Option.map_eq_some_iff.mp ha
     have htr := hw.tr e (List.mem_of_getElem? he)
     simp! [gTup, gCons, gNil, sDPut]
     obtain ⟨hil, hie⟩ := List.getElem?_eq_some_iff.mp he
     have hno : yP ((T.take k).map fun e => ((.inr e.2.1 : Key), V.ref e.2.2.1)) (.inr e.2.1) = none := by
       refine rk_no fun hm => ?_
       obtain ⟨e', he', hh⟩ := List.mem_map.mp hm
       obtain ⟨j, hj, rfl⟩ := List.getElem_of_mem he'
       rw [List.length_take] at hj
       rw [List.getElem_take] at hh
       have nd := hw.nd
       refine List.pairwise_iff_getElem.mp nd j k (by rw [List.length_map]; omega) (by rw [List.length_map]; omega) (by omega) ?_
       rw [List.getElem_map, List.getElem_map, hh, hie]
     refine ⟨_, SqT.of (s2 _ _ htr.1), rfl, _, _, rfl, _, _, rfl, rfl, _, DPut.k (k := .inr e.2.1) k2 (by have := hw.tl; have := sizeLine_eq; rw [List.length_map, List.length_take]; omega), s2.upd hp, ?_, _, rfl⟩
     rw [zB, putK_new _ hno, List.take_succ_eq_append_getElem hil, List.map_append, hie]
     rfl
   · obtain ⟨s2, k2, o1, o2, rfl⟩ := h
     rw [List.length_map, List.length_map, List.take_of_length_le (Nat.le_refl _)] at k2
     exact hN _ _ ⟨_, _, s2, k2, rfl⟩
 obtain ⟨o1, o2, s2, k2, rfl⟩ := h
 simp! []
 exact q p H' s2 k2
end
abbrev s_u : Stmt := top 17
theorem sc_u : FnScope ["book", "saying", "terms", "rule", "premise"] ["book", "saying"] (zG s_u) := ⟨rfl, rfl, rfl, by decide +kernel, rfl, by decide +kernel, by decide +kernel⟩
abbrev s_v : Stmt := top 18
theorem sc_v : FnScope ["book", "saying"] ["book", "saying"] (zG s_v) := ⟨rfl, rfl, rfl, by decide +kernel, rfl, by decide +kernel, by decide +kernel⟩
abbrev s_d : Stmt := qE (top 20) 5
theorem sc_d : FnScope ["self", "sets", "saying"] ["self", "sets", "saying"] (zG s_d) := ⟨rfl, rfl, rfl, by decide +kernel, rfl, by decide +kernel, by decide +kernel⟩
abbrev s_z : Stmt := top 39
theorem sc_z : FnScope ["t", "name"] ["t", "name"] (zG s_z) := ⟨rfl, rfl, rfl, by decide +kernel, rfl, by decide +kernel, by decide +kernel⟩
abbrev s_D : Stmt := top 40
theorem sc_D : FnScope ["near", "sets", "saying", "one", "other"] ["near", "sets", "saying"] (zG s_D) := ⟨rfl, rfl, rfl, by decide +kernel, rfl, by decide +kernel, by decide +kernel⟩
abbrev Rul := List (Tm × Tm) × (Tm × Tm)
def tmP (p : Tm × Tm) : List Tm := [p.1, p.2]
def jC (ps : List (Tm × Tm)) : List Tm := ps.flatMap tmP
def tmR (r : Rul) : List Tm := jC r.1 ++ tmP r.2
def tmB (rs : List Rul) : List Tm := rs.flatMap tmR
theorem tmPs_take {ps : List (Tm × Tm)} {i : Nat} {p : Tm × Tm} (h : ps[i]? = some p) : jC (ps.take (i + 1)) = jC (ps.take i) ++ tmP p := by
 obtain ⟨il, ie⟩ := List.getElem?_eq_some_iff.mp h
 unfold jC
 rw [List.take_succ_eq_append_getElem il, ie, List.flatMap_append]
 simp
theorem tmB_take {rs : List Rul} {i : Nat} {r : Rul} (h : rs[i]? = some r) : tmB (rs.take (i + 1)) = tmB (rs.take i) ++ tmR r := by
 obtain ⟨il, ie⟩ := List.getElem?_eq_some_iff.mp h
 unfold tmB
 rw [List.take_succ_eq_append_getElem il, ie, List.flatMap_append]
 simp
theorem tmB_split (rs : List Rul) (i : Nat) : (tmB (rs.take i)).length <= (tmB rs).length := by
 have : tmB rs = tmB (rs.take i) ++ tmB (rs.drop i) := by
   unfold tmB
   rw [← List.flatMap_append, List.take_append_drop]
 rw [this, List.length_append]
 omega
theorem tmPs_split (ps : List (Tm × Tm)) (i : Nat) : (jC (ps.take i)).length <= (jC ps).length := by
 have : jC ps = jC (ps.take i) ++ jC (ps.drop i) := by
   unfold jC
   rw [← List.flatMap_append, List.take_append_drop]
 rw [this, List.length_append]
 omega
abbrev RAts (H : Hp) (rs : List Rul) (vs : List V) : Prop := DAts H (rs.map vW) vs
theorem RAts.length {H : Hp} {rs : List Rul} {vs : List V} (h : RAts H rs vs) : vs.length = rs.length := by
 have := DAts.length h
 rw [List.length_map] at this
 exact this
theorem RAts.getV {H : Hp} {rs : List Rul} {vs : List V} {i : Nat} {v : V} (h : RAts H rs vs) (hv : vs[i]? = some v) : ∃ r, rs[i]? = some r /\ RAt H r v := by
 have hi : i < rs.length := by rw [← h.length]; exact (List.getElem?_eq_some_iff.mp hv).1
 obtain ⟨u, h1, h2⟩ := DAts.get (d := vW rs[i]) h (by rw [List.getElem?_map, List.getElem?_eq_getElem hi]; rfl)
 rw [hv] at h1
 cases h1
 exact ⟨_, List.getElem?_eq_getElem hi, h2⟩
theorem SAt.two {H : Hp} {p : Tm × Tm} {v : V} (h : SAt H p v) : ∃ a us, v = .ref a /\ H a = some (.tup us) /\ TAts H (tmP p) us /\ us.length = 2 := by
 obtain ⟨a, v1, v2, e1, e2, e3, e4⟩ := SAt.out h
 exact ⟨a, _, e1, e2, ⟨v1, _, rfl, e3, v2, _, rfl, e4, rfl⟩, rfl⟩
theorem qA {H H' : Hp} {p : Addr} {o : HO} (e : Same H H') (hp : H p = none) : Same H (upd H' p o) := e.upd hp
def spTI : Sp := fun vs H Q _ => ∃ (a : Addr) (sv : V) (bs : List V) (rs : List Rul) (s : Tm × Tm), vs = [.ref a, sv] /\ H a = some (.lst bs) /\ RAts H rs bs /\ SAt H s sv /\ (tmB rs).length <= 1000 /\
 ∀ p us H', Same H H' -> H' p = some (.lst us) -> TAts H' (tmB rs ++ tmP s) us -> Q (.ref p) H'
def spNI : Sp := fun vs H Q _ => ∃ (a : Addr) (sv : V) (bs : List V) (rs : List Rul) (s : Tm × Tm), vs = [.ref a, sv] /\ H a = some (.lst bs) /\ RAts H rs bs /\ SAt H s sv /\ (tmB rs).length <= 1000 /\
 (∀ t ∈ tmB rs ++ tmP s, Fit 20 t /\ wt t <= 900) /\ wts (tmB rs ++ tmP s) <= 20000 /\ (yF [] (nmss (tmB rs ++ tmP s))).length < 64 /\
 ∀ p zs' H', Same H H' -> H' p = some (.lst (zs'.map V.str)) -> zs'.Perm (yF [] (nmss (tmB rs ++ tmP s))) -> PyProof.Rows.sortedS zs' = true -> Q (.ref p) H'
def jQ (m : Nat) (ps : List (Nat × Nat)) (S : Str -> List Nat) (s : Tm × Tm) : Bool := (val m ps S s.1).all fun i => decide (i ∈ val m ps S s.2)
def spUn (C : Addr) : Sp := fun vs H Q _ => ∃ (r d : Addr) (v : V) (s : Tm × Tm) (m : Nat) (ps : List (Nat × Nat)) (kvs : List (Key × V)) (S : Str -> List Nat), vs = [.ref r, .ref d, v] /\ FlAt C H r m ps /\ m <= 90 /\ SAt H s v /\ (Fit 20 s.1 /\ wt s.1 <= 900) /\ (Fit 20 s.2 /\ wt s.2 <= 900) /\ H d = some (.dK kvs) /\ (∀ x, x ∈ nms s.1 \/ x ∈ nms s.2 -> ∃ c : Nat, yP kvs (.inr x) = some (nV c) /\ yS c (S x)) /\ (∀ x, ∀ i ∈ S x, i < m) /\ ∀ H', Same H H' -> Q (.bl (jQ m ps S s)) H'
def spHs : Nat -> Sp
 | 0 => fun _ _ _ _ => False
 | n + 1 => fun vs H Q _ => ∃ (v : V) (x : Str) (t : Tm), vs = [v, .str x] /\ TAt H t v /\ Fit n t /\ wt t <= 900 /\ ∀ H', Same H H' -> Q (.bl (decide (x ∈ nms t))) H'
def spIn (K : PySem.W.Frag) : Sp := fun vs H Q _ => ∃ (nr sd : Addr) (v : V) (s : Tm × Tm) (m : Nat) (ps : List (Nat × Nat)) (kvs : List (Key × V)) (S : Str -> List Nat), vs = [.ref nr, .ref sd, v] /\ NrAt H nr m ps /\ m <= 90 /\ SAt H s v /\ (Fit 20 s.1 /\ wt s.1 <= 900) /\ (Fit 20 s.2 /\ wt s.2 <= 900) /\ H sd = some (.dK kvs) /\ (∀ y, y ∈ nms s.1 \/ y ∈ nms s.2 -> ∃ l, yP kvs (.inr y) = some (.ref l) /\ H l = some (.lst ((S y).map nV))) /\ (∀ z, (∀ i ∈ S z, i < m) /\ (S z).Pairwise (· < ·)) /\ ∀ H', Same H H' -> Q (.bl (jQ m ps S s)) H'
theorem und_mask {a b : Nat} {u v : List Nat} (ha : yS a u) (hb : yS b v) : decide (Builtin.bitAnd (a : Int) (Builtin.bitNot (b : Int)) = 0) = u.all fun i => decide (i ∈ v) := by
 have e : Builtin.bitAnd (a : Int) (Builtin.bitNot (b : Int)) = (a : Int) - ((a &&& b : Nat) : Int) := by
   unfold Builtin.bitAnd
   rw [not_not, decide_eq_true (show (0 : Int) <= (a : Int) by omega), decide_eq_false (show ¬ (0 : Int) <= Builtin.bitNot (b : Int) by unfold Builtin.bitNot; omega)]
   rfl
 rw [e, Bool.eq_iff_iff, decide_eq_true_eq, List.all_eq_true]
 constructor
 · intro h i hi
   have h2 : a &&& b = a := by omega
   have h3 : (a &&& b).testBit i = true := by rw [h2, ha i]; exact decide_eq_true hi
   rw [Nat.testBit_and, Bool.and_eq_true, hb i] at h3
   exact h3.2
 · intro h
   have h2 : a &&& b = a := Nat.eq_of_testBit_eq fun i => by
     rw [Nat.testBit_and]
     cases hq : a.testBit i with
     | false => rfl
     | true =>
       rw [ha i] at hq
       have := h i (of_decide_eq_true hq)
       rw [Bool.true_and, hb i]
       exact this
   rw [h2]
   omega
theorem any_nms (x : Str) (ts : List Tm) : ((ts.map fun t => decide (x ∈ nms t)).any id) = decide (x ∈ nmss ts) := by
 rw [Bool.eq_iff_iff, List.any_map, List.any_eq_true, decide_eq_true_eq, nmss_mem]
 exact ⟨fun ⟨t, h1, h2⟩ => ⟨t, h1, of_decide_eq_true h2⟩, fun ⟨t, h1, h2⟩ => ⟨t, h1, decide_eq_true h2⟩⟩
section
variable {P : Program} {w : World} {K : PySem.W.Frag} {mg : Str -> Option Value} {base : Heap} {f : Addr} {fd : FuncData}
theorem ok_terms_in (bi : Bi mg) (F : Fun K "terms_in" "terms_in" s_u f fd) : FnOk P w K mg base CX0 1 f fd ["book", "saying"] spTI := by
 refine F.ok sc_u (fun vs H Q E h => ?_) (fun cdv A outer s H vs Q E hr h => ?_)
 · obtain ⟨a, sv, bs, rs, s, rfl, _⟩ := h
   rfl
 obtain ⟨a, sv, bs, rs, s, rfl, ha, hr', hs, hz, q⟩ := h
 have hbl := hr'.length
 refine ⟨_, (zE (zM (i := 2) sc_u.nd rfl (Or.inl rfl) (zX pa_nil)) (zE (yO PassesOwn.never rfl (yD (pv 0)) (zP (i := 3) sc_u.nd rfl (Or.inl rfl)) (zE (yO PassesOwn.never rfl (yD (zN ix_tup (pv 3) zD (fun _ _ => rfl))) (zP (i := 4) sc_u.nd rfl (Or.inl rfl)) (zH (yT (xZ PySem.F.plainAttrs_list PySem.F.slot_list_extend PySem.F.type_list_extend mt_extendT (pv 2) (zA (pv 4) pa_nil))))) (zH (yT (xZ PySem.F.plainAttrs_list PySem.F.slot_list_extend PySem.F.type_list_extend mt_extendT (pv 2) (zA (zN ix_tup (pv 3) zD (fun _ _ => rfl)) pa_nil)))))) (zE (yT (xZ PySem.F.plainAttrs_list PySem.F.slot_list_extend PySem.F.type_list_extend mt_extendT (pv 2) (zA (pv 1) pa_nil))) (zH (zO (pv 2)))))), ?_⟩
 refine zI fun N hN => ?_
 simp! []
 refine ⟨zK (by decide), fun p hp => hN _ _ ?_⟩
 refine zR (fun σ H' => Same H H' /\ (∃ us, H' p = some (.lst us) /\ TAts H (tmB rs) us) /\ ∃ o1 o2, σ = [some (V.ref a), some sv, some (V.ref p), o1, o2]) (fun N hN => ?_) (fun σ H' h => ?_)
 · simp! []
   refine ⟨⟨_, SqL.of (zC hp _ _ _ ha)⟩, ?_⟩
   refine xM (xs := bs) (fun i σ H' => Same H H' /\ (∃ us, H' p = some (.lst us) /\ TAts H (tmB (rs.take i)) us) /\ ∃ o1 o2, σ = [some (V.ref a), some sv, some (V.ref p), o1, o2]) ?_ (fun i σ H' _ h => SqL.of (h.1 _ _ ha)) (fun i x σ H' hx h => ?_) (fun σ H' h => ?_)
   · exact ⟨zC hp _, ⟨[], zB, rfl⟩, _, _, rfl⟩
   · obtain ⟨es, ⟨us, hus, hut⟩, o1, o2, rfl⟩ := h
     obtain ⟨r, hri, hx'⟩ := hr'.getV hx
     obtain ⟨ra, l, sv2, vs, rfl, hra, hl, hps, hs2⟩ := RAt.out hx'
     have hln : vs.length = r.1.length := SAts.length hps
     have hb1 := tmB_split rs (i + 1)
     rw [tmB_take hri, List.length_append] at hb1
     have hb2 : (tmR r).length = (jC r.1).length + 2 := by unfold tmR; rw [List.length_append]; rfl
     show tSeq _ _ _ _ _
     refine zR (fun σ H' => Same H H' /\ (∃ us, H' p = some (.lst us) /\ TAts H (tmB (rs.take i) ++ jC r.1) us) /\ ∃ o2, σ = [some (V.ref a), some sv, some (V.ref p), some (V.ref ra), o2]) (fun N hN => ?_) (fun σ H' h => ?_)
     · simp! []
       refine ⟨_, SqT.of (es _ _ hra), .ref l, at0, _, rfl, ⟨_, SqL.of (es _ _ hl)⟩, ?_⟩
       refine xM (xs := vs) (fun j σ H' => Same H H' /\ (∃ us, H' p = some (.lst us) /\ TAts H (tmB (rs.take i) ++ jC (r.1.take j)) us) /\ ∃ o2, σ = [some (V.ref a), some sv, some (V.ref p), some (V.ref ra), o2]) ?_ (fun j σ H' _ h => SqL.of (h.1 _ _ hl)) (fun j y σ H' hy h => ?_) (fun σ H' h => ?_)
       · exact ⟨es, ⟨us, hus, by simpa [jC] using hut⟩, _, rfl⟩
       · obtain ⟨es, ⟨us, hus, hut⟩, o2, rfl⟩ := h
         obtain ⟨pr, hpi, hy'⟩ := SAts.getV hps hy
         obtain ⟨sa, ws, rfl, hsa, hws, hw2⟩ := SAt.two hy'
         have hlu := hut.length
         have hb3 := tmPs_split r.1 j
         rw [List.length_append] at hlu
         simp! [qB]
         refine ⟨.inl ⟨rfl, _, SqL.of hus⟩, _, hus, _, SqT.of (es _ _ hsa), Nat.le_trans (m := 1000000) (by omega) (by decide), ?_⟩
         refine ⟨qA es hp, ⟨_, zB, ?_⟩, _, rfl⟩
         rw [tmPs_take hpi, ← List.append_assoc]
         exact TAts.append hut hws
       · obtain ⟨es, ⟨us, hus, hut⟩, o2, rfl⟩ := h
         rw [show r.1.take vs.length = r.1 from List.take_of_length_le (by omega)] at hut
         exact hN _ _ ⟨es, ⟨us, hus, hut⟩, _, rfl⟩
     · obtain ⟨es, ⟨us, hus, hut⟩, o2, rfl⟩ := h
       obtain ⟨sa, ws, rfl, hsa, hws, hw2⟩ := SAt.two hs2
       have hlu := hut.length
       rw [List.length_append] at hlu
       simp! [qB]
       refine ⟨.inl ⟨rfl, _, SqL.of hus⟩, _, SqT.of (es _ _ hra), .ref sa, at1, sa, rfl, _, hus, _, SqT.of (es _ _ hsa), Nat.le_trans (m := 1000000) (by omega) (by decide), ?_⟩
       refine ⟨qA es hp, ⟨_, zB, ?_⟩, _, rfl⟩
       rw [tmB_take hri]
       unfold tmR
       rw [← List.append_assoc]
       exact TAts.append hut hws
   · obtain ⟨es, ⟨us, hus, hut⟩, o1, o2, rfl⟩ := h
     rw [List.take_of_length_le (by omega)] at hut
     exact hN _ _ ⟨es, ⟨us, hus, hut⟩, _, _, rfl⟩
 · obtain ⟨es, ⟨us, hus, hut⟩, o1, o2, rfl⟩ := h
   obtain ⟨sa, ws, rfl, hsa, hws, hw2⟩ := SAt.two hs
   have hlu := hut.length
   refine zI fun N hN => ?_
   simp! [qB]
   refine ⟨.inl ⟨rfl, _, SqL.of hus⟩, _, hus, _, SqT.of (es _ _ hsa), Nat.le_trans (m := 1000000) (by omega) (by decide), hN _ _ ?_⟩
   simp! []
   exact q p _ _ (qA es hp) zB (DAts.same (qA es hp) (TAts.append hut hws))
theorem ok_names_in (bi : Bi mg) (h_f : Has P w K mg base 23 "names_of_all" ["terms"] spNA) (h_u : Has P w K mg base 1 "terms_in" ["book", "saying"] spTI) (F : Fun K "names_in" "names_in" s_v f fd) : FnOk P w K mg base CX0 24 f fd ["book", "saying"] spNI := by
 refine F.ok sc_v (fun vs H Q E h => ?_) (fun cdv A outer s H vs Q E hr h => ?_)
 · obtain ⟨a, sv, bs, rs, s, rfl, _⟩ := h
   rfl
 obtain ⟨a, sv, bs, rs, s, rfl, ha, hr', hs, hz, hf, hw, h64, q⟩ := h
 refine ⟨_, (zH (zO (zJ h_f (hr.mono (by omega)) rfl (zA (zJ h_u (hr.mono (by omega)) rfl (zA (pv 0) (zA (pv 1) pa_nil))) pa_nil)))), ?_⟩
 simp! [spNA, spTI]
 refine ⟨_, ha, rs, hr', s, hs, hz, fun p us H1 e1 hp hu => ?_⟩
 exact ⟨us, hp, _, hu, hf, hw, h64, fun p2 zs' H2 e2 h2 hpm hso => q p2 zs' H2 (e1.trans e2) h2 hpm hso⟩
theorem ok_is_under {C : Addr} (T : FlC K C) (bi : Bi mg) (h_c : HasM P w K mg base 23 C "value_of" ["self", "sets", "t"] (spVo C 23)) (F : Fun K "is_under" "Floor.is_under" s_d f fd) : FnOk P w K mg base CX0 24 f fd ["self", "sets", "saying"] (spUn C) := by
 refine F.ok sc_d (fun vs H Q E h => ?_) (fun cdv A outer s H vs Q E hr h => ?_)
 · obtain ⟨r, d, v, s, m, ps, kvs, S, rfl, _⟩ := h
   rfl
 obtain ⟨r, d, v, s, m, ps, kvs, S, rfl, hfl, hm90, hs, hf1, hf2, hd, hS, hSm, q⟩ := h
 have cl_Floor := T.cl
 refine ⟨_, (zH (zO (yZ op_eq (zL op_and (yN h_c cl_Floor (hr.mono (by omega)) (pv 0) (zA (pv 1) (zA (zN ix_tup (pv 2) zD (fun _ _ => rfl)) pa_nil))) (xT un_inv (yN h_c cl_Floor (hr.mono (by omega)) (pv 0) (zA (pv 1) (zA (zN ix_tup (pv 2) zD (fun _ _ => rfl)) pa_nil))))) zD (zW _)))), ?_⟩
 obtain ⟨dx, lx, cs, hr', hl', hmk⟩ := id hfl
 obtain ⟨sa, v1, v2, rfl, hsa, h1, h2⟩ := SAt.out hs
 simp! [yW, jK]
 refine ⟨_, _, hr', jA _ _ (by decide +kernel) (by decide +kernel), _, SqT.of hsa, v1, at0, ?_⟩
 refine ⟨r, d, v1, s.1, m, ps, kvs, S, rfl, hfl, hm90, h1, hf1.1, hf1.2, hd, fun x hx => hS x (.inl hx), hSm, fun c1 H1 s1 hc1 => ?_⟩
 refine ⟨_, _, s1 _ _ hr', jA _ _ (by decide +kernel) (by decide +kernel), _, SqT.of (s1 _ _ hsa), v2, at1, ?_⟩
 refine ⟨r, d, v2, s.2, m, ps, kvs, S, rfl, hfl.same s1, hm90, TAt.tups s1.tups h2, hf2.1, hf2.2, s1 _ _ hd, fun x hx => hS x (.inr hx), hSm, fun c2 H2 s2 hc2 => ?_⟩
 refine ⟨c2, rfl, c1, rfl, rfl, ?_⟩
 rw [und_mask hc1 hc2]
 exact q _ (s1.trans s2)
theorem ok_has (bi : Bi mg) (ban : mg "any" = none) (F : Fun K "_law_has" "_law_has" s_z f fd) (b : Binds K fd ["t", "name"] []) (m : mg "_law_has" = some (.ref f)) : ∀ n, FnOk P w K mg base CX0 n f fd ["t", "name"] (spHs n) := by
 refine wG F b m (fun vs H Q E h => h) (fun n h_z => ?_)
 refine F.ok sc_z (fun vs H Q E h => ?_) (fun cdv A outer s H vs Q E hr h => ?_)
 · obtain ⟨v, x, t, rfl, _⟩ := h
   rfl
 obtain ⟨v, x, t, rfl, ht, hf, hw, q⟩ := h
 refine ⟨_, (zE (yC (zU op_eq (zN ix_tup (pv 0) zD (fun _ _ => rfl)) yA (zW _)) (zH (zO (yZ op_eq (zN ix_tup (pv 0) zD (fun _ _ => rfl)) (pv 1) (zW _)))) pss_nil) (zH (zO (zS call_any rfl ban bt_any (zA (yL ["part"] ["name"] [1] (wM (yY sl_tup (pv 0) (xL zD) po_none)) (fun _ _ _ _ nd => zP (i := 0) nd rfl (Or.inl rfl)) (fun _ _ _ _ => yI) (fun _ _ _ _ => (zJ h_z hr rfl (zA (pv 0) (zA (pv 1) pa_nil))))) pa_nil))))), ?_⟩
 cases t with
 | name y =>
   obtain ⟨a, rfl, ha⟩ := TAt.name ht
   simp! []
   refine ⟨_, SqT.of ha, .str "name", at0, rfl, ?_⟩
   rw [if_pos rfl]
   refine ⟨_, SqT.of ha, .str y, at1, rfl, ?_⟩
   have := q _ (Same.refl _)
   rw [nms] at this
   rw [show decide (V.str y = V.str x) = decide (x ∈ [y]) by simp [eq_comm]]
   exact this
 | node wd ts =>
   obtain ⟨a, us, rfl, ha, hu⟩ := TAt.node ht
   have hwd := hf.wrd
   have hl := hu.length
   have hll := wts_len ts
   rw [wt] at hw
   rw [nms] at q
   refine zI fun N hN => ?_
   simp! []
   refine ⟨_, SqT.of ha, .str wd, at0, rfl, ?_⟩
   rw [if_neg (fun z => hwd.ne (V.str.inj z))]
   refine hN _ _ ?_
   clear hN
   simp! []
   refine ⟨_, SqT.of ha, yX _ _, fun p2 hp2 => ?_⟩
   rw [qF]
   have s2 := zC hp2 (.tup us)
   have k2 : upd H p2 (.tup us) p2 = some (.tup us) := zB
   generalize upd H p2 (.tup us) = H2 at s2 k2 ⊢
   refine ⟨⟨_, SqT.of k2⟩, ?_⟩
   refine lc_tup (xs := us) (fun i ys σ H' => Same H2 H' /\ ys = ((ts.map fun t => decide (x ∈ nms t)).take i).map V.bl /\ ∃ o, σ = [o, some (V.str x)]) ⟨Same.refl _, rfl, _, rfl⟩ (zK (by omega)) (fun i ys σ H' e => ?_) (fun i ys σ H' e => SqT.of (e.1 _ _ k2)) (fun i y ys σ H' C hx e hC => ?_) (fun ys σ H' e p3 hp3 => ?_)
   · rw [e.2.1, List.length_map, List.length_take]
     exact Nat.min_le_left ..
   · obtain ⟨es, rfl, o, rfl⟩ := e
     obtain ⟨t, ht', hx'⟩ := hu.getV hx
     cases n with
     | zero => have := hf.2; subst this; simp at ht'
     | succ n =>
       have hm := List.mem_of_getElem? ht'
       have hmt := wts_mem hm
       have s3 := s2.trans es
       simp! [spHs]
       refine ⟨t, TAt.tups s3.tups hx', hf.part hm, by omega, fun H3 e3 => hC _ _ _ ⟨es.trans e3, ?_, _, rfl⟩⟩
       obtain ⟨hil, hi2⟩ := List.getElem?_eq_some_iff.mp (show (ts.map fun t => decide (x ∈ nms t))[i]? = some (decide (x ∈ nms t)) by rw [List.getElem?_map, ht']; rfl)
       rw [List.take_succ_eq_append_getElem hil, hi2, List.map_append]
       rfl
   obtain ⟨es, rfl, o, rfl⟩ := e
   rw [show (ts.map fun t => decide (x ∈ nms t)).take us.length = ts.map fun t => decide (x ∈ nms t) from List.take_of_length_le (by rw [List.length_map]; omega)]
   refine ⟨p3, rfl, _, SqL.of zB, ?_⟩
   rw [any_nms]
   exact q _ ((s2.trans es).trans (zC hp3 _))
theorem ok_in (bi : Bi mg) (h_l : Has P w K mg base 22 "_law_worth" ["near", "sets", "t"] (spLw K 22)) (F : Fun K "_law_in" "_law_in" s_D f fd) : FnOk P w K mg base CX0 23 f fd ["near", "sets", "saying"] (spIn K) := by
 refine F.ok sc_D (fun vs H Q E h => ?_) (fun cdv A outer s H vs Q E hr h => ?_)
 · obtain ⟨nr, sd, v, s, m, ps, kvs, S, rfl, _⟩ := h
   rfl
 obtain ⟨nr, sd, v, s, m, ps, kvs, S, rfl, hnr, hm90, hs, hf1, hf2, hsd, hS, hSr, q⟩ := h
 refine ⟨_, (zE (zM (i := 3) sc_D.nd rfl (Or.inl rfl) (zJ h_l (hr.mono (by omega)) rfl (zA (pv 0) (zA (pv 1) (zA (zN ix_tup (pv 2) zD (fun _ _ => rfl)) pa_nil))))) (zE (zM (i := 4) sc_D.nd rfl (Or.inr rfl) (zJ h_l (hr.mono (by omega)) rfl (zA (pv 0) (zA (pv 1) (zA (zN ix_tup (pv 2) zD (fun _ _ => rfl)) pa_nil))))) (zH (zO (zS call_all rfl bi.all bt_all (zA (yL ["spot"] ["other"] [4] (yD (pv 3)) (fun _ _ _ _ nd => zP (i := 0) nd rfl (Or.inl rfl)) (fun _ _ _ _ => yI) (fun _ _ _ _ => (yZ (uS K) (pv 0) (pv 1) (by with_unfolding_all rfl)))) pa_nil)))))), ?_⟩
 obtain ⟨sa, v1, v2, rfl, hsa, h1, h2⟩ := SAt.out hs
 refine zI fun N hN => ?_
 simp! []
 refine ⟨_, SqT.of hsa, v1, at0, nr, sd, v1, s.1, m, ps, kvs, S, rfl, hnr, hm90, h1, hf1.1, hf1.2, hsd, fun y hy => hS y (.inl hy), hSr, fun p1 H1 s1 hp1 k1 => hN _ _ ?_⟩
 clear hN
 refine zI fun N hN => ?_
 simp! []
 refine ⟨_, SqT.of (s1 _ _ hsa), v2, at1, nr, sd, v2, s.2, m, ps, kvs, S, rfl, hnr.same s1, hm90, TAt.tups s1.tups h2, hf2.1, hf2.2, s1 _ _ hsd, fun y hy => ?_, hSr, fun p2 H2 s2 hp2 k2 => hN _ _ ?_⟩
 · obtain ⟨l, e1, e2⟩ := hS y (.inr hy)
   exact ⟨l, e1, s1 _ _ e2⟩
 clear hN
 have hl1 : (val m ps S s.1).length <= m := xY (jZ (fun y => (hSr y).2) _) fun i hi => uG (fun y i hi => (hSr y).1 i hi) _ hi
 simp! []
 refine ⟨⟨_, SqL.of (s2 _ _ k1)⟩, ?_⟩
 refine xA (xs := (val m ps S s.1).map nV) (fun i ys σ H' => H' = H2 /\ ys = (((val m ps S s.1).take i).map fun i => decide (i ∈ val m ps S s.2)).map V.bl /\ ∃ o, σ = [o, some (V.ref p2)]) ⟨rfl, rfl, _, rfl⟩ (zK (by rw [List.length_map]; omega)) (fun i ys σ H' e => ?_) (fun i ys σ H' e => by rw [e.1]; exact SqL.of (s2 _ _ k1)) (fun i x ys σ H' C hx e hC => ?_) (fun ys σ H' e p3 hp3 => ?_)
 · rw [e.2.1, List.length_map, List.length_map, List.length_take]; omega
 · obtain ⟨rfl, rfl, o, rfl⟩ := e
   rw [List.getElem?_map] at hx
   obtain ⟨n1, h1, rfl⟩ := Option.map_eq_some_iff.mp hx
   obtain ⟨hil, hie⟩ := List.getElem?_eq_some_iff.mp h1
   simp! []
   refine ⟨p2, _, rfl, .inl (SqL.of k2), rfl, ?_, ?_⟩
   · rw [List.all_map, List.all_eq_true]
     exact fun _ _ => rfl
   rw [if_neg (by decide), inV_nVs]
   refine hC _ _ _ ⟨rfl, ?_, _, rfl⟩
   rw [List.take_succ_eq_append_getElem hil, hie, List.map_append, List.map_append]
   rfl
 obtain ⟨rfl, rfl, o, rfl⟩ := e
 rw [List.length_map, List.take_of_length_le (Nat.le_refl _)]
 refine ⟨p3, rfl, _, SqL.of zB, ?_⟩
 rw [show ((val m ps S s.1).map fun i => decide (i ∈ val m ps S s.2)).all id = jQ m ps S s by rw [List.all_map]; rfl]
 exact q _ ((s1.trans s2).trans (zC hp3 _))
end
abbrev s_F : Stmt := top 23
theorem sc_F : FnScope ["world", "saying", "sets"] ["world", "saying"] (zG s_F) := ⟨rfl, rfl, rfl, by decide +kernel, rfl, by decide +kernel, by decide +kernel⟩
abbrev s_H : Stmt := top 24
theorem sc_H : FnScope ["world", "rule", "sets", "floor"] ["world", "rule"] (zG s_H) := ⟨rfl, rfl, rfl, by decide +kernel, rfl, by decide +kernel, by decide +kernel⟩
structure Wx (H : Hp) (wa : Addr) (m : Nat) (ps : List (Nat × Nat)) (zs : List Str) (S : Str -> List Nat) : Prop where
 ex : ∃ (ca : Addr) (us : List V) (la : Addr) (Ss : List (List Nat)), H wa = some (.tup [nV m, .ref ca, .ref la]) /\ H ca = some (.lst us) /\ DAts H (ps.map dP2) us /\ RowsAt H la zs Ss m /\ ∀ (i : Nat) (z : Str), zs[i]? = some z -> Ss[i]? = some (S z)
 ok2 : Ok2 m ps
 m90 : m <= 90
 nd : zs.Nodup
 zl : zs.length <= 5
 sr : ∀ z, (∀ i ∈ S z, i < m) /\ (S z).Pairwise (· < ·)
theorem Wx.same {H H' : Hp} {wa : Addr} {m : Nat} {ps : List (Nat × Nat)} {zs : List Str} {S : Str -> List Nat} (e : Same H H') (h : Wx H wa m ps zs S) : Wx H' wa m ps zs S := by
 obtain ⟨⟨ca, us, la, Ss, h1, h2, h3, h4, h5⟩, r1, r2, r3, r4, r5⟩ := h
 exact ⟨⟨ca, us, la, Ss, e _ _ h1, e _ _ h2, DAts.same e h3, h4.same e, h5⟩, r1, r2, r3, r4, r5⟩
def Few (xs : List Str) : Prop := ∃ pl : List Str, pl.length <= 20 /\ ∀ x ∈ xs, x ∈ pl /\ x.length <= 8
theorem addAll_sub : ∀ (xs zs : List Str) {y : Str}, y ∈ zs \/ y ∈ xs -> y ∈ yF zs xs
 | [], zs, y, h => h.elim id fun z => by cases z
 | x :: xs, zs, y, h => addAll_sub xs (jW zs x) (by
   rcases h with h | h
   · left
     unfold jW
     split
     · exact h
     · exact List.mem_append_left _ h
   · rcases List.mem_cons.mp h with e | h
     · left
       subst e
       unfold jW
       split
       · rename_i hx; exact hx
       · exact List.mem_append_right _ (List.mem_singleton.mpr rfl)
     · exact .inr h)
theorem zc_no : ∀ {zs : List Str} {cs : List Nat} {x : Str}, x ∉ zs -> yP (zc zs cs) (.inr x) = none
 | [], _, x, _ => rfl
 | _ :: _, [], x, _ => rfl
 | z :: zs, c :: cs, x, h => by
   have h1 := List.ne_of_not_mem_cons h
   have e1 : yP (zc (z :: zs) (c :: cs)) (.inr x) = yP (zc zs cs) (.inr x) := xS (fun e => h1 (Sum.inr.inj e).symm)
   rw [e1]
   exact zc_no (List.not_mem_of_not_mem_cons h)
theorem Few.len {xs : List Str} (h : Few xs) : (yF [] xs).length < 64 := by
 obtain ⟨pl, h1, h2⟩ := h
 have := jT (addAll_nd xs [] .nil) (m := pl) fun y hy => by
   rcases addAll_mem _ _ hy with h | h
   · cases h
   · exact (h2 y h).1
 omega
def spSX (K : PySem.W.Frag) (CN : Addr) : Sp := fun vs H Q E => ∃ (wa na : Addr) (ys : List Str) (m : Nat) (cps : V) (la : Addr) (zs : List Str) (Ss : List (List Nat)), vs = [.ref wa, .ref na] /\ H wa = some (.tup [nV m, cps, .ref la]) /\ RowsAt H la zs Ss 90 /\ H na = some (.lst (ys.map V.str)) /\ (∀ y ∈ ys, y.length <= 8) /\ (zs.Nodup /\ zs.length <= 5) /\ ((∀ y ∈ ys, y ∈ zs) -> ∀ p cs H', Same H H' -> H' p = some (.dK (zc zs cs)) -> Masks cs Ss -> Q (.ref p) H') /\ ((∃ y ∈ ys, y ∉ zs) -> ∀ H', Same H H' -> E (.ref CN) none H')
def spVX (K : PySem.W.Frag) (CN : Addr) : Sp := fun vs H Q E => ∃ (wa : Addr) (v : V) (t : Tm) (m : Nat) (ps : List (Nat × Nat)) (zs : List Str) (S : Str -> List Nat), vs = [.ref wa, v] /\ Wx H wa m ps zs S /\ TAt H t v /\ Fit 20 t /\ wt t <= 900 /\ Few (nms t) /\ ((∀ x ∈ nms t, x ∈ zs) -> ∀ (p : Addr) (H' : Hp), Same H H' -> H' p = some (.lst ((val m ps S t).map nV)) -> Q (.ref p) H') /\ ((∃ x ∈ nms t, x ∉ zs) -> ∀ H', Same H H' -> E (.ref CN) none H')
def spHX (K : PySem.W.Frag) (CN : Addr) : Sp := fun vs H Q E => ∃ (wa : Addr) (v : V) (s : Tm × Tm) (m : Nat) (ps : List (Nat × Nat)) (zs : List Str) (S : Str -> List Nat), vs = [.ref wa, v] /\ Wx H wa m ps zs S /\ SAt H s v /\ (Fit 20 s.1 /\ wt s.1 <= 900) /\ (Fit 20 s.2 /\ wt s.2 <= 900) /\ Few (nms s.1 ++ nms s.2) /\ ((∀ x ∈ nms s.1 ++ nms s.2, x ∈ zs) -> ∀ H', Same H H' -> Q (.bl (jQ m ps S s)) H') /\ ((∃ x ∈ nms s.1 ++ nms s.2, x ∉ zs) -> ∀ H', Same H H' -> E (.ref CN) none H')
theorem tmPs_len : ∀ ps : List (Tm × Tm), (jC ps).length = 2 * ps.length
 | [] => rfl
 | p :: ps => by
   show (tmP p ++ jC ps).length = _
   rw [List.length_append, tmPs_len ps, List.length_cons]
   show 2 + _ = _
   omega
def jG (m : Nat) (ps : List (Nat × Nat)) (S : Str -> List Nat) (r : Rul) : Bool := !(r.1.all (jQ m ps S)) || jQ m ps S r.2
def spTX (K : PySem.W.Frag) (CN : Addr) : Sp := fun vs H Q E => ∃ (wa : Addr) (v : V) (r : Rul) (m : Nat) (ps : List (Nat × Nat)) (zs : List Str) (S : Str -> List Nat), vs = [.ref wa, v] /\ Wx H wa m ps zs S /\ RAt H r v /\ r.1.length <= 8 /\ (∀ t ∈ tmR r, Fit 20 t /\ wt t <= 900) /\ Few (nmss (tmR r)) /\ ((∀ x ∈ nmss (tmR r), x ∈ zs) -> ∀ H', Same H H' -> Q (.bl (jG m ps S r)) H') /\ ((∃ x ∈ nmss (tmR r), x ∉ zs) -> ∀ H', Same H H' -> E (.ref CN) none H')
section
variable {P : Program} {w : World} {K : PySem.W.Frag} {mg : Str -> Option Value} {base : Heap} {f : Addr} {fd : FuncData} {C_NoName : Addr} {bm : List Value} {bn nid iid : String}
theorem ok_sets_for (O_NoName : PyProof.Rows.OwnCls "NoName" C_NoName bm nid mg base) (FB_NoName : ExcBaseFacts bn nid iid bm) (m_NoName : mg "NoName" = some (.ref C_NoName)) (bi : Bi mg) (h_B : Has P w K mg base 1 "mask_of" ["numbers"] (spMask K)) (F : Fun K "sets_for" "sets_for" s_q f fd) : FnOk P w K mg base (CX1 P w) 2 f fd ["world", "names"] (spSX K C_NoName) := by
 refine F.okX sc_q (fun vs H Q E h => ?_) (fun cdv A outer s H vs Q E hr h => ?_)
 · obtain ⟨wa, na, ys, m, cps, la, zs, Ss, rfl, _⟩ := h
   rfl
 obtain ⟨wa, na, ys, m, cps, la, zs, Ss, rfl, hwa, hrw, hys, hy8, hnd, q, qx⟩ := h
 refine ⟨_, (zE (zM (i := 2) sc_q.nd rfl (Or.inl rfl) (xD call_dictP rfl bi.dict bt_dict (zA (yL ["name", "spots"] [] [] (yD (zN ix_tup (pv 0) zD (fun _ _ => rfl))) (fun _ _ _ _ nd => pg_tupK (K := K) (n := 2) rfl (xG (zP (i := 0) nd rfl (Or.inl rfl)) (xG (zP (i := 1) nd rfl (Or.inl rfl)) pgs_nil))) (fun _ _ _ _ => yI) (fun _ _ _ _ => (yJ (zA (pv 0) (zA (zJ h_B (hr.mono (by omega)) rfl (zA (pv 1) pa_nil)) pa_nil))))) pa_nil))) (zE (yO PassesOwn.leaving rfl (yD (pv 1)) (zP (i := 3) sc_q.nd rfl (Or.inl rfl)) (zH (yC (pt_cmp (pc_dnotin (hu_of hr) (pv 3) (pv 2)) (by with_unfolding_all rfl)) (zH (ps_raise O_NoName FB_NoName rfl m_NoName (zA (pe_fst yA (pv 3)) pa_nil))) pss_nil))) (zH (zO (pv 2))))), ?_⟩
 refine zI fun N hN => ?_
 simp! []
 have at2 : ∀ {a b c : V}, atI [a, b, c] 2 = some c := yB (j := 2) rfl
 obtain ⟨⟨as, ls, h1, h2, h3, h4⟩, h5, h6⟩ := hrw
 refine ⟨_, SqT.of hwa, .ref la, at2, la, rfl, ⟨_, SqL.of h1⟩, ?_⟩
 refine xA (xs := as.map V.ref) (fun i ys σ H' => Same H H' /\ (∃ (bs : List Addr) (cs : List Nat), ys = bs.map V.ref /\ bs.length = i /\ Masks cs (Ss.take i) /\ ∀ (j : Nat) (z : Str) (c : Nat), (zs.take i)[j]? = some z -> cs[j]? = some c -> ∃ b, bs[j]? = some b /\ H' b = some (.tup [.str z, nV c])) /\ ∃ o1 o2, σ = [o1, o2]) ⟨Same.refl _, ⟨[], [], rfl, rfl, ⟨rfl, fun i c v h => by simp at h⟩, fun j z c h => by simp at h⟩, _, _, rfl⟩ (zK (by rw [List.length_map]; omega)) (fun i ys σ H' e => ?_) (fun i ys σ H' e => SqL.of (e.1 _ _ h1)) (fun i x ys σ H' C' hx e hC => ?_) (fun ys σ H' e p3 hp3 => ?_)
 · obtain ⟨_, ⟨bs, cs, rfl, h1, _⟩, _⟩ := e
   rw [List.length_map, h1]
   exact Nat.le_refl _
 · obtain ⟨es, ⟨bs, cs, rfl, hbl, hcs, hbs⟩, o1, o2, rfl⟩ := e
   rw [List.getElem?_map] at hx
   obtain ⟨a, ha, rfl⟩ := Option.map_eq_some_iff.mp hx
   have hia := (List.getElem?_eq_some_iff.mp ha).1
   have hiz : i < zs.length := by omega
   have hiS : i < Ss.length := by omega
   obtain ⟨a', l, g1, g2, g3, g4⟩ := h4 i zs[i] Ss[i] (List.getElem?_eq_getElem hiz) (List.getElem?_eq_getElem hiS)
   rw [ha] at g1
   cases g1
   have hlow := h6 Ss[i] (List.getElem_mem hiS)
   simp! [gTup, gCons, gNil, spMask]
   refine ⟨_, SqT.of (es _ _ g3), rfl, _, _, rfl, _, _, rfl, rfl, l, rfl, Ss[i], SqL.of (es _ _ g4), fun n hn => by have := hlow.1 n hn; omega, fun c hc => ⟨zK (by decide), fun p hp => hC _ _ _ ⟨es.trans (zC hp _), ⟨bs ++ [p], cs ++ [c], by rw [List.map_append]; rfl, by rw [List.length_append, hbl]; rfl, ?_, fun j z c' hz hc' => ?_⟩, _, _, rfl⟩⟩⟩
   · rw [List.take_succ_eq_append_getElem hiS]
     exact hcs.snoc hc
   · have hcl : cs.length = i := by rw [hcs.1, List.length_take]; omega
     have hjl := (List.getElem?_eq_some_iff.mp hc').1
     rw [List.length_append, List.length_singleton] at hjl
     by_cases hj : j < i
     · rw [List.getElem?_append_left (by omega)] at hc'
       rw [List.getElem?_take_of_lt (by omega)] at hz
       obtain ⟨b, q1, q2⟩ := hbs j z c' (by rw [List.getElem?_take_of_lt hj]; exact hz) hc'
       exact ⟨b, by rw [List.getElem?_append_left (by omega)]; exact q1, zC hp _ _ _ q2⟩
     · have hji : j = i := by omega
       subst hji
       rw [List.getElem?_take_of_lt (by omega), List.getElem?_eq_getElem hiz] at hz
       rw [List.getElem?_append_right (by omega), hcl, Nat.sub_self] at hc'
       simp at hc'
       cases hz
       subst hc'
       exact ⟨p, by rw [List.getElem?_append_right (by omega), hbl]; simp, zB⟩
 obtain ⟨es, ⟨bs, cs, rfl, hbl, hcs, hbs⟩, o1, o2, rfl⟩ := e
 rw [List.length_map] at hbl hcs hbs
 rw [List.take_of_length_le (by omega)] at hcs hbs
 have hcl : cs.length = zs.length := by rw [hcs.1]; omega
 have s3 := es.trans (zC hp3 (.lst (bs.map V.ref)))
 have k3 : upd H' p3 (.lst (bs.map V.ref)) p3 = some (.lst (bs.map V.ref)) := zB
 have hbs3 : ∀ (j : Nat) (z : Str) (c : Nat), zs[j]? = some z -> cs[j]? = some c -> ∃ b, bs[j]? = some b /\ upd H' p3 (.lst (bs.map V.ref)) b = some (.tup [.str z, nV c]) := fun j z c hz hc => by
   obtain ⟨b, q1, q2⟩ := hbs j z c hz hc
   exact ⟨b, q1, zC hp3 _ _ _ q2⟩
 generalize upd H' p3 (.lst (bs.map V.ref)) = H3 at s3 k3 hbs3 ⊢
 have hkl : (zc zs cs).length = zs.length := by
   unfold zc
   rw [List.length_map, List.length_zip]
   omega
 refine ⟨p3, rfl, bs, SqL.of k3, zc zs cs, by omega, ?_, fun i k u hi => ?_, fun l hl => hN _ _ ?_⟩
 · have e : (zc zs cs).map (·.1) = zs.map Sum.inr := by
     unfold zc
     rw [List.map_map]
     have : ((fun x : Key × V => x.1) ∘ fun p : Str × Nat => ((.inr p.1 : Key), nV p.2)) = Sum.inr ∘ Prod.fst := rfl
     rw [this, ← List.map_map, List.map_fst_zip (by omega)]
   rw [e]
   exact List.Pairwise.map _ (fun a b h e => h (Sum.inr.inj e)) hnd.1
 · unfold zc at hi
   rw [List.getElem?_map] at hi
   obtain ⟨y, hy, ey⟩ := Option.map_eq_some_iff.mp hi
   obtain ⟨y1, y2⟩ := List.getElem?_zip_eq_some.mp hy
   cases ey
   obtain ⟨b, q1, q2⟩ := hbs3 i y.1 y.2 y1 y2
   exact ⟨b, q1, SqT.of q2⟩
 clear hN
 have s4 := s3.trans (zC hl (.dK (zc zs cs)))
 have k4 : upd H3 l (.dK (zc zs cs)) l = some (.dK (zc zs cs)) := zB
 generalize upd H3 l (.dK (zc zs cs)) = H4 at s4 k4 ⊢
 refine zR (fun σ H' => H' = H4 /\ (∀ y ∈ ys, y ∈ zs) /\ ∃ o, σ = [some (V.ref wa), some (V.ref na), some (V.ref l), o]) (fun N hN => ?_) (fun σ H' h => ?_)
 · simp! []
   refine ⟨⟨_, SqL.of (s4 _ _ hys)⟩, ?_⟩
   refine xM (xs := ys.map V.str) (fun i σ H' => H' = H4 /\ (∀ y ∈ ys.take i, y ∈ zs) /\ ∃ o, σ = [some (V.ref wa), some (V.ref na), some (V.ref l), o]) ⟨rfl, (fun y hy => by cases hy), _, rfl⟩ (fun i σ H' _ h => by rw [h.1]; exact SqL.of (s4 _ _ hys)) (fun i x σ H' hx h => ?_) (fun σ H' h => ?_)
   rotate_left
   · rw [List.length_map, List.take_of_length_le (Nat.le_refl _)] at h
     exact hN _ _ h
   obtain ⟨rfl, hin, o, rfl⟩ := h
   rw [List.getElem?_map] at hx
   obtain ⟨y, hy, rfl⟩ := Option.map_eq_some_iff.mp hx
   obtain ⟨hil, hie⟩ := List.getElem?_eq_some_iff.mp hy
   simp! [tDNotIn, tRaise, tFS]
   refine ⟨_, DGet.k (k := .inr y) k4, ?_⟩
   by_cases hyz : y ∈ zs
   · obtain ⟨j, hj, e⟩ := List.getElem_of_mem hyz
     have hv := zc_val hnd.1 (show zs[j]? = some y by rw [List.getElem?_eq_getElem hj, e]) (List.getElem?_eq_getElem (show j < cs.length by omega))
     rw [hv, if_neg (by simp)]
     refine ⟨fun z hz => ?_, _, rfl⟩
     rw [List.take_succ_eq_append_getElem hil, hie] at hz
     rcases List.mem_append.mp hz with hz | hz
     · exact hin z hz
     · rw [List.mem_singleton.mp hz]; exact hyz
   · rw [zc_no hyz, if_pos (by simp)]
     have h8 := hy8 y (List.mem_of_getElem? hy)
     exact ⟨by decide +kernel, by omega, zK (by decide), qx ⟨y, List.mem_of_getElem? hy, hyz⟩ _ s4⟩
 obtain ⟨rfl, hin, o, rfl⟩ := h
 simp! []
 exact q hin _ _ _ s4 k4 hcs
theorem ok_value {C : Addr} (T : FlC K C) (bi : Bi mg) (h_q : HasX P w K mg base 2 "sets_for" ["world", "names"] (spSX K C_NoName)) (h_y : Has P w K mg base 24 "names_of" ["t"] spNO) (h_A : Has P w K mg base 1 "bits_of" ["mask"] spBits) (h_g : HasI P w K mg base 1 C "Floor" ["self", "many", "clashes"] (spFI C)) (h_c : HasM P w K mg base 23 C "value_of" ["self", "sets", "t"] (spVo C 23)) (F : Fun K "value" "value" s_E f fd) : FnOk P w K mg base (CX1 P w) 25 f fd ["world", "t"] (spVX K C_NoName) := by
 refine F.okX sc_E (fun vs H Q E h => ?_) (fun cdv A outer s H vs Q E hr h => ?_)
 · obtain ⟨wa, v, t, m, ps, zs, S, rfl, _⟩ := h
   rfl
 obtain ⟨wa, v, t, m, ps, zs, S, rfl, hW, ht, hf, hw, few, q, qx⟩ := h
 obtain ⟨⟨ca, us, la, Ss, hwa, hca, hps, hrw, hSS⟩, hok2, hm90, hnd, hzl, hSr⟩ := hW
 have cl_Floor := T.cl
 refine ⟨_, (zE (zM (i := 2) sc_E.nd rfl (Or.inl rfl) (uQ h_q (hr.mono (by omega)) rfl (zA (pv 0) (zA (zJ h_y (hr.mono (by omega)) rfl (zA (pv 1) pa_nil)) pa_nil)))) (zH (zO (zJ h_A (hr.mono (by omega)) rfl (zA (yN h_c cl_Floor (hr.mono (by omega)) (uO h_g (hr.mono (by omega)) rfl (zA (zN ix_tup (pv 0) zD (fun _ _ => rfl)) (zA (zN ix_tup (pv 0) zD (fun _ _ => rfl)) pa_nil))) (zA (pv 2) (zA (pv 1) pa_nil))) pa_nil))))), ?_⟩
 refine zI fun N hN => ?_
 simp! []
 have hal := few.len
 obtain ⟨pl, _, hpl⟩ := few
 refine ⟨v, t, rfl, ht, hf, hw, by omega, fun pn zs' H1 s1 k1 hperm _ => ?_⟩
 have hmem : ∀ y, y ∈ zs' ↔ y ∈ nms t := fun y => by
   rw [hperm.mem_iff]
   exact ⟨fun h => (addAll_mem _ _ h).elim (fun z => by cases z) id, fun h => addAll_sub _ _ (.inr h)⟩
 refine ⟨wa, pn, zs', m, .ref ca, la, zs, Ss, rfl, s1 _ _ hwa, (hrw.same s1).mono hm90, k1, fun y hy => (hpl y ((hmem y).mp hy)).2, ⟨hnd, hzl⟩, fun hin => ?_, fun ⟨y, hy, hn⟩ H2 s2 => qx ⟨y, (hmem y).mp hy, hn⟩ _ (s1.trans s2)⟩
 have hsub : ∀ x ∈ nms t, x ∈ zs := fun x hx => hin x ((hmem x).mpr hx)
 intro pd cs H2 s2 k2 hcs
 refine hN _ _ ?_
 clear hN
 replace s2 := s1.trans s2
 simp! [yW, vK]
 have at1' : ∀ {a b c : V}, atI [a, b, c] 1 = some b := yB (j := 1) rfl
 refine ⟨_, SqT.of (s2 _ _ hwa), _, at0, _, SqT.of (s2 _ _ hwa), _, at1', fun x dx hx hdx hne => ?_⟩
 have s3 : Same H2 (upd (upd H2 dx (.own x)) x (.ins C dx [])) := ((Same.refl H2).upd hdx).upd hx
 have k3 : upd (upd H2 dx (.own x)) x (.ins C dx []) x = some (.ins C dx []) := zB
 generalize upd (upd H2 dx (.own x)) x (.ins C dx []) = H3 at s3 k3 ⊢
 have hca2 := s2 _ _ hca
 have hcx : ca ≠ x := fun z => by rw [z, hx] at hca2; cases hca2
 refine ⟨x, dx, ca, m, us, ps, rfl, k3, hcx, s3 _ _ hca2, DAts.same (s2.trans s3) hps, hok2, hm90, fun H4 s4 hfl => ?_⟩
 have s24 : Same H2 H4 := fun b o hb => s4 b o (s3 _ _ hb) (fun z => by rw [z, hx] at hb; cases hb)
 have hfl' := hfl
 obtain ⟨dx', l, cs', hr', _, _⟩ := hfl'
 have s5 := s2.trans s24
 refine ⟨rfl, _, _, hr', jA _ _ (by decide +kernel) (by decide +kernel), ?_⟩
 refine ⟨x, pd, v, t, m, ps, zc zs cs, S, rfl, hfl, hm90, TAt.tups s5.tups ht, hf, hw, s24 _ _ k2, fun y hy => ?_, fun y i hi => (hSr y).1 i hi, fun c H6 s6 hc => ?_⟩
 · obtain ⟨j, hj, e⟩ := List.getElem_of_mem (hsub y hy)
   have hz : zs[j]? = some y := by rw [List.getElem?_eq_getElem hj, e]
   have hjc : j < cs.length := by rw [hcs.1, hrw.len]; exact hj
   exact ⟨cs[j], zc_val hnd hz (List.getElem?_eq_getElem hjc), hcs.2 j _ _ (List.getElem?_eq_getElem hjc) (hSS j y hz)⟩
 · refine ⟨c, val m ps S t, rfl, ⟨jZ (fun y => (hSr y).2) t, hc⟩, fun y hy => by have := uG (fun y i hi => (hSr y).1 i hi) t hy; omega, fun p H7 s7 hp k7 => q hsub p H7 ((s5.trans s6).trans s7) k7⟩
theorem ok_holds {C : Addr} (T : FlC K C) (bi : Bi mg) (h_q : HasX P w K mg base 2 "sets_for" ["world", "names"] (spSX K C_NoName)) (h_v : Has P w K mg base 24 "names_in" ["book", "saying"] spNI) (h_g : HasI P w K mg base 1 C "Floor" ["self", "many", "clashes"] (spFI C)) (h_d : HasM P w K mg base 24 C "is_under" ["self", "sets", "saying"] (spUn C)) (F : Fun K "holds" "holds" s_F f fd) : FnOk P w K mg base (CX1 P w) 25 f fd ["world", "saying"] (spHX K C_NoName) := by
 refine F.okX sc_F (fun vs H Q E h => ?_) (fun cdv A outer s H vs Q E hr h => ?_)
 · obtain ⟨wa, v, s, m, ps, zs, S, rfl, _⟩ := h
   rfl
 obtain ⟨wa, v, sy, m, ps, zs, S, rfl, hW, hs, hf1, hf2, few, q, qx⟩ := h
 obtain ⟨⟨ca, us, la, Ss, hwa, hca, hps, hrw, hSS⟩, hok2, hm90, hnd, hzl, hSr⟩ := hW
 have cl_Floor := T.cl
 refine ⟨_, (zE (zM (i := 2) sc_F.nd rfl (Or.inl rfl) (uQ h_q (hr.mono (by omega)) rfl (zA (pv 0) (zA (zJ h_v (hr.mono (by omega)) rfl (zA (zX pa_nil) (zA (pv 1) pa_nil))) pa_nil)))) (zH (zO (yN h_d cl_Floor (hr.mono (by omega)) (uO h_g (hr.mono (by omega)) rfl (zA (zN ix_tup (pv 0) zD (fun _ _ => rfl)) (zA (zN ix_tup (pv 0) zD (fun _ _ => rfl)) pa_nil))) (zA (pv 2) (zA (pv 1) pa_nil)))))), ?_⟩
 refine zI fun N hN => ?_
 simp! []
 have hnn : nmss (tmB [] ++ tmP sy) = nms sy.1 ++ nms sy.2 := by
   show nms sy.1 ++ (nms sy.2 ++ nmss []) = _
   rw [nmss, List.append_nil]
 have hal := few.len
 obtain ⟨pl, _, hpl⟩ := few
 refine ⟨zK (by decide), fun pb hpb => ?_⟩
 have s0 := zC hpb (.lst [])
 have k0 : upd H pb (.lst []) pb = some (.lst []) := zB
 generalize upd H pb (.lst []) = H0 at s0 k0 ⊢
 refine ⟨pb, v, [], [], sy, rfl, k0, rfl, DAt.same s0 hs, by decide, fun t ht => ?_, ?_, by rw [hnn]; exact hal, fun pn zs' H1 s1 k1 hperm _ => ?_⟩
 · have ht : t ∈ [sy.1, sy.2] := ht
   simp only [List.mem_cons, List.not_mem_nil, or_false] at ht
   rcases ht with rfl | rfl
   · exact hf1
   · exact hf2
 · show wt sy.1 + (wt sy.2 + 0) <= 20000
   have := hf1.2
   have := hf2.2
   omega
 rw [hnn] at hperm
 replace s1 := s0.trans s1
 have hmem : ∀ y, y ∈ zs' ↔ y ∈ nms sy.1 ++ nms sy.2 := fun y => by
   rw [hperm.mem_iff]
   exact ⟨fun h => (addAll_mem _ _ h).elim (fun z => by cases z) id, fun h => addAll_sub _ _ (.inr h)⟩
 refine ⟨wa, pn, zs', m, .ref ca, la, zs, Ss, rfl, s1 _ _ hwa, (hrw.same s1).mono hm90, k1, fun y hy => (hpl y ((hmem y).mp hy)).2, ⟨hnd, hzl⟩, fun hin => ?_, fun ⟨y, hy, hn⟩ H2 s2 => qx ⟨y, (hmem y).mp hy, hn⟩ _ (s1.trans s2)⟩
 have hsub : ∀ x ∈ nms sy.1 ++ nms sy.2, x ∈ zs := fun x hx => hin x ((hmem x).mpr hx)
 intro pd cs H2 s2 k2 hcs
 refine hN _ _ ?_
 clear hN
 replace s2 := s1.trans s2
 simp! [yW, vK]
 have at1' : ∀ {a b c : V}, atI [a, b, c] 1 = some b := yB (j := 1) rfl
 refine ⟨_, SqT.of (s2 _ _ hwa), _, at0, _, SqT.of (s2 _ _ hwa), _, at1', fun x dx hx hdx hne => ?_⟩
 have s3 : Same H2 (upd (upd H2 dx (.own x)) x (.ins C dx [])) := ((Same.refl H2).upd hdx).upd hx
 have k3 : upd (upd H2 dx (.own x)) x (.ins C dx []) x = some (.ins C dx []) := zB
 generalize upd (upd H2 dx (.own x)) x (.ins C dx []) = H3 at s3 k3 ⊢
 have hca2 := s2 _ _ hca
 have hcx : ca ≠ x := fun z => by rw [z, hx] at hca2; cases hca2
 refine ⟨x, dx, ca, m, us, ps, rfl, k3, hcx, s3 _ _ hca2, DAts.same (s2.trans s3) hps, hok2, hm90, fun H4 s4 hfl => ?_⟩
 have s24 : Same H2 H4 := fun b o hb => s4 b o (s3 _ _ hb) (fun z => by rw [z, hx] at hb; cases hb)
 have hfl' := hfl
 obtain ⟨dx', l, cs', hr', _, _⟩ := hfl'
 have s5 := s2.trans s24
 refine ⟨rfl, _, _, hr', jA _ _ (by decide +kernel) (by decide +kernel), ?_⟩
 refine ⟨x, pd, v, sy, m, ps, zc zs cs, S, rfl, hfl, hm90, DAt.same s5 hs, hf1, hf2, s24 _ _ k2, fun y hy => ?_, fun y i hi => (hSr y).1 i hi, fun H6 s6 => q hsub _ (s5.trans s6)⟩
 obtain ⟨j, hj, e⟩ := List.getElem_of_mem (hsub y (List.mem_append.mpr hy))
 have hz : zs[j]? = some y := by rw [List.getElem?_eq_getElem hj, e]
 have hjc : j < cs.length := by rw [hcs.1, hrw.len]; exact hj
 exact ⟨cs[j], zc_val hnd hz (List.getElem?_eq_getElem hjc), hcs.2 j _ _ (List.getElem?_eq_getElem hjc) (hSS j y hz)⟩
theorem ok_fits {C : Addr} (T : FlC K C) (bi : Bi mg) (h_q : HasX P w K mg base 2 "sets_for" ["world", "names"] (spSX K C_NoName)) (h_v : Has P w K mg base 24 "names_in" ["book", "saying"] spNI) (h_g : HasI P w K mg base 1 C "Floor" ["self", "many", "clashes"] (spFI C)) (h_d : HasM P w K mg base 24 C "is_under" ["self", "sets", "saying"] (spUn C)) (F : Fun K "fits" "fits" s_H f fd) : FnOk P w K mg base (CX1 P w) 25 f fd ["world", "rule"] (spTX K C_NoName) := by
 refine F.okX sc_H (fun vs H Q E h => ?_) (fun cdv A outer s H vs Q E hr h => ?_)
 · obtain ⟨wa, v, r, m, ps, zs, S, rfl, _⟩ := h
   rfl
 obtain ⟨wa, v, r, m, ps, zs, S, rfl, hW, hv, hpl10, hft, few, q, qx⟩ := h
 obtain ⟨⟨ca, us, la, Ss, hwa, hca, hps, hrw, hSS⟩, hok2, hm90, hnd, hzl, hSr⟩ := hW
 have cl_Floor := T.cl
 refine ⟨_, (zE (zM (i := 2) sc_H.nd rfl (Or.inr rfl) (uQ h_q (hr.mono (by omega)) rfl (zA (pv 0) (zA (zJ h_v (hr.mono (by omega)) rfl (zA (zX (zA (pv 1) pa_nil)) (zA (zN ix_tup (pv 1) zD (fun _ _ => rfl)) pa_nil))) pa_nil)))) (zE (zM (i := 3) sc_H.nd rfl (Or.inr rfl) (uO h_g (hr.mono (by omega)) rfl (zA (zN ix_tup (pv 0) zD (fun _ _ => rfl)) (zA (zN ix_tup (pv 0) zD (fun _ _ => rfl)) pa_nil)))) (zE (yC (wJ (xU (zS call_all rfl bi.all bt_all (zA (yL ["premise"] ["sets", "floor"] [2, 3] (yD (zN ix_tup (pv 1) zD (fun _ _ => rfl))) (fun _ _ _ _ nd => zP (i := 0) nd rfl (Or.inl rfl)) (fun _ _ _ _ => yI) (fun _ _ _ _ => (yN h_d cl_Floor (hr.mono (by omega)) (pv 2) (zA (pv 1) (zA (pv 0) pa_nil))))) pa_nil)))) (zH (zO xH)) pss_nil) (zH (zO (yN h_d cl_Floor (hr.mono (by omega)) (pv 3) (zA (pv 2) (zA (zN ix_tup (pv 1) zD (fun _ _ => rfl)) pa_nil)))))))), ?_⟩
 obtain ⟨ra, l, sv, vs, rfl, hra, hl, hps1, hs2⟩ := RAt.out hv
 have hvl : vs.length = r.1.length := SAts.length hps1
 have hnn : ∀ y, y ∈ nmss (tmB [r] ++ tmP r.2) ↔ y ∈ nmss (tmR r) := fun y => by
   rw [nmss_app, List.mem_append, show tmB [r] = tmR r by show tmR r ++ [] = _; rw [List.append_nil]]
   refine ⟨fun h => h.elim id fun h => ?_, .inl⟩
   unfold tmR
   rw [nmss_app]
   exact List.mem_append_right _ h
 have hftB : ∀ t ∈ tmB [r] ++ tmP r.2, Fit 20 t /\ wt t <= 900 := fun t ht => hft t (by
   rcases List.mem_append.mp ht with h | h
   · rw [show tmB [r] = tmR r by show tmR r ++ [] = _; rw [List.append_nil]] at h; exact h
   · unfold tmR; exact List.mem_append_right _ h)
 have hlenR : (tmR r).length = 2 * r.1.length + 2 := by
   unfold tmR
   rw [List.length_append, tmPs_len]
   rfl
 have hwB : ∀ (l : List Tm), (∀ t ∈ l, wt t <= 900) -> wts l <= 900 * l.length := fun l => by
   induction l with
   | nil => intro _; rw [wts]; exact Nat.zero_le _
   | cons t l ih =>
     intro h
     have h1 := h t List.mem_cons_self
     have h2 := ih fun u hu => h u (List.mem_cons_of_mem _ hu)
     rw [wts, List.length_cons]
     omega
 have few2 : (yF [] (nmss (tmB [r] ++ tmP r.2))).length < 64 := by
   obtain ⟨pl, h1, h2⟩ := id few
   exact Few.len ⟨pl, h1, fun x hx => h2 x ((hnn x).mp hx)⟩
 obtain ⟨pl, _, hpl⟩ := few
 refine zI fun N hN => ?_
 simp! []
 refine ⟨zK (by decide), fun pb hpb => ?_⟩
 have s0 := zC hpb (.lst [V.ref ra])
 have k0 : upd H pb (.lst [V.ref ra]) pb = some (.lst [V.ref ra]) := zB
 generalize upd H pb (.lst [V.ref ra]) = H0 at s0 k0 ⊢
 refine ⟨_, SqT.of (s0 _ _ hra), sv, at1, pb, sv, [V.ref ra], [r], r.2, rfl, k0, DAts.one (DAt.same s0 hv), DAt.same s0 hs2, ?_, hftB, ?_, few2, fun pn zs' H1 s1 k1 hperm _ => ?_⟩
 · rw [show tmB [r] = tmR r by show tmR r ++ [] = _; rw [List.append_nil]]; omega
 · have := hwB _ fun t ht => (hftB t ht).2
   rw [show tmB [r] = tmR r by show tmR r ++ [] = _; rw [List.append_nil]] at this ⊢
   rw [List.length_append] at this
   have e2 : (tmP r.2).length = 2 := rfl
   omega
 replace s1 := s0.trans s1
 have hmem : ∀ y, y ∈ zs' ↔ y ∈ nmss (tmR r) := fun y => by
   rw [hperm.mem_iff, ← hnn y]
   exact ⟨fun h => (addAll_mem _ _ h).elim (fun z => by cases z) id, fun h => addAll_sub _ _ (.inr h)⟩
 refine ⟨wa, pn, zs', m, .ref ca, la, zs, Ss, rfl, s1 _ _ hwa, (hrw.same s1).mono hm90, k1, fun y hy => (hpl y ((hmem y).mp hy)).2, ⟨hnd, hzl⟩, fun hin => ?_, fun ⟨y, hy, hn⟩ H2 s2 => qx ⟨y, (hmem y).mp hy, hn⟩ _ (s1.trans s2)⟩
 have hsub : ∀ x ∈ nmss (tmR r), x ∈ zs := fun x hx => hin x ((hmem x).mpr hx)
 intro pd cs H2 s2 k2 hcs
 refine hN _ _ ?_
 clear hN
 replace s2 := s1.trans s2
 refine zI fun N hN => ?_
 simp! [yW, vK]
 have at1' : ∀ {a b c : V}, atI [a, b, c] 1 = some b := yB (j := 1) rfl
 refine ⟨_, SqT.of (s2 _ _ hwa), _, at0, _, SqT.of (s2 _ _ hwa), _, at1', fun x dx hx hdx hne => ?_⟩
 have s3 : Same H2 (upd (upd H2 dx (.own x)) x (.ins C dx [])) := ((Same.refl H2).upd hdx).upd hx
 have k3 : upd (upd H2 dx (.own x)) x (.ins C dx []) x = some (.ins C dx []) := zB
 generalize upd (upd H2 dx (.own x)) x (.ins C dx []) = H3 at s3 k3 ⊢
 have hca2 := s2 _ _ hca
 have hcx : ca ≠ x := fun z => by rw [z, hx] at hca2; cases hca2
 refine ⟨x, dx, ca, m, us, ps, rfl, k3, hcx, s3 _ _ hca2, DAts.same (s2.trans s3) hps, hok2, hm90, fun H4 s4 hfl => ⟨rfl, hN _ _ ?_⟩⟩
 clear hN
 have s24 : Same H2 H4 := fun b o hb => s4 b o (s3 _ _ hb) (fun z => by rw [z, hx] at hb; cases hb)
 have hfl' := hfl
 obtain ⟨dx', lx, cs', hr', _, _⟩ := hfl'
 have s5 := s2.trans s24
 have k5 := s24 _ _ k2
 have hSk : ∀ y, y ∈ nmss (tmR r) -> ∃ c : Nat, yP (zc zs cs) (.inr y) = some (nV c) /\ yS c (S y) := fun y hy => by
   obtain ⟨j, hj, e⟩ := List.getElem_of_mem (hsub y hy)
   have hz : zs[j]? = some y := by rw [List.getElem?_eq_getElem hj, e]
   have hjc : j < cs.length := by rw [hcs.1, hrw.len]; exact hj
   exact ⟨cs[j], zc_val hnd hz (List.getElem?_eq_getElem hjc), hcs.2 j _ _ (List.getElem?_eq_getElem hjc) (hSS j y hz)⟩
 have inR : ∀ p ∈ r.1, ∀ t, t = p.1 \/ t = p.2 -> t ∈ tmR r := fun p hp t ht => by
   unfold tmR jC
   refine List.mem_append_left _ (List.mem_flatMap.mpr ⟨p, hp, ?_⟩)
   rcases ht with rfl | rfl <;> simp [tmP]
 have inR2 : ∀ t, t = r.2.1 \/ t = r.2.2 -> t ∈ tmR r := fun t ht => by
   unfold tmR
   refine List.mem_append_right _ ?_
   rcases ht with rfl | rfl <;> simp [tmP]
 refine zI fun N hN => ?_
 simp! [yW, vK]
 refine ⟨_, SqT.of (s5 _ _ hra), .ref l, at0, l, rfl, ⟨_, SqL.of (s5 _ _ hl)⟩, ?_⟩
 refine xA (xs := vs) (fun i ys σ H' => Same H4 H' /\ ys = ((r.1.take i).map (jQ m ps S)).map V.bl /\ ∃ o, σ = [o, some (V.ref pd), some (V.ref x)]) ⟨Same.refl _, rfl, _, rfl⟩ (zK (by omega)) (fun i ys σ H' e => ?_) (fun i ys σ H' e => SqL.of ((s5.trans e.1) _ _ hl)) (fun i y ys σ H' C' hy e hC => ?_) (fun ys σ H' e p3 hp3 => ?_)
 · rw [e.2.1, List.length_map, List.length_map, List.length_take]; omega
 · obtain ⟨es, rfl, o, rfl⟩ := e
   obtain ⟨pr, hpi, hy'⟩ := SAts.getV hps1 hy
   obtain ⟨hil, hie⟩ := List.getElem?_eq_some_iff.mp hpi
   have hpm := List.mem_of_getElem? hpi
   have s6 := s5.trans es
   simp! [yW]
   refine ⟨_, _, es _ _ hr', jA _ _ (by decide +kernel) (by decide +kernel), x, pd, y, pr, m, ps, zc zs cs, S, rfl, hfl.same es, hm90, DAt.same s6 hy', hft _ (inR pr hpm _ (.inl rfl)), hft _ (inR pr hpm _ (.inr rfl)), es _ _ k5, fun z hz => hSk z (nmss_mem.mpr ?_), fun z i hi => (hSr z).1 i hi, fun H6 s7 => hC _ _ _ ⟨es.trans s7, ?_, _, rfl⟩⟩
   · rcases hz with hz | hz
     · exact ⟨_, inR pr hpm _ (.inl rfl), hz⟩
     · exact ⟨_, inR pr hpm _ (.inr rfl), hz⟩
   · rw [List.take_succ_eq_append_getElem hil, hie, List.map_append, List.map_append]
     rfl
 obtain ⟨es, rfl, o, rfl⟩ := e
 rw [hvl, List.take_of_length_le (Nat.le_refl _)]
 have s6 := es.trans (zC hp3 (.lst ((r.1.map (jQ m ps S)).map V.bl)))
 refine ⟨p3, rfl, _, SqL.of zB, ?_⟩
 generalize upd H' p3 (.lst ((r.1.map (jQ m ps S)).map V.bl)) = H6 at s6 ⊢
 rw [show (r.1.map (jQ m ps S)).all id = r.1.all (jQ m ps S) by rw [List.all_map]; rfl]
 cases c1 : r.1.all (jQ m ps S) with
 | false =>
   rw [if_pos rfl]
   have := q hsub _ (s5.trans s6)
   unfold jG at this
   rw [c1] at this
   exact this
 | true =>
 rw [if_neg (by decide)]
 refine hN _ _ ?_
 clear hN
 simp! [yW]
 have s56 := s5.trans s6
 refine ⟨_, _, s6 _ _ hr', jA _ _ (by decide +kernel) (by decide +kernel), _, SqT.of (s56 _ _ hra), sv, at1, x, pd, sv, r.2, m, ps, zc zs cs, S, rfl, hfl.same s6, hm90, DAt.same s56 hs2, hft _ (inR2 _ (.inl rfl)), hft _ (inR2 _ (.inr rfl)), s6 _ _ k5, fun z hz => hSk z (nmss_mem.mpr ?_), fun z i hi => (hSr z).1 i hi, fun H7 s7 => ?_⟩
 · rcases hz with hz | hz
   · exact ⟨_, inR2 _ (.inl rfl), hz⟩
   · exact ⟨_, inR2 _ (.inr rfl), hz⟩
 · have := q hsub _ (s56.trans s7)
   unfold jG at this
   rw [c1] at this
   exact this
end
abbrev s_i : Stmt := top 41
theorem sc_i : FnScope ["way", "world", "thing", "kinds", "found", "e"] ["way", "world", "thing"] (zG s_i) := ⟨rfl, rfl, rfl, by decide +kernel, rfl, by decide +kernel, by decide +kernel⟩
abbrev s_C : Stmt := top 42
theorem sc_C : FnScope ["answer", "refused", "due"] ["answer", "refused", "due"] (zG s_C) := ⟨rfl, rfl, rfl, by decide +kernel, rfl, by decide +kernel, by decide +kernel⟩
structure Errs (K : PySem.W.Frag) (mg : Str -> Option Value) (CE CN CT CR CW CM CU : Addr) : Prop where
 ce : mg "ClashError" = some (.ref CE)
 cb : xSub K CE (.type "BaseException") = some true
 ct : xSub K CN (.ref CE) = some true
 xc : XCls K CN
 ve : mg "ValueError" = none
 g1 : Gc mg "NoName" (.ref CN)
 g2 : Gc mg "NoText" (.ref CT)
 g3 : Gc mg "NoRule" (.ref CR)
 g4 : Gc mg "NoRow" (.ref CW)
 g5 : Gc mg "NoMiddle" (.ref CM)
 g6 : Gc mg "TooMuch" (.ref CU)
 k0 : PySem.W.kitOne K (.ref CN) (.type "ValueError") = some true
 k1 : PySem.W.kitOne K (.ref CN) (.ref CN) = some true
 k2 : PySem.W.kitOne K (.ref CN) (.ref CT) = some false
 k3 : PySem.W.kitOne K (.ref CN) (.ref CR) = some false
 k4 : PySem.W.kitOne K (.ref CN) (.ref CW) = some false
 k5 : PySem.W.kitOne K (.ref CN) (.ref CM) = some false
 k6 : PySem.W.kitOne K (.ref CN) (.ref CU) = some false
def kB : List Bool := [true, true, false, false, false, false, false]
theorem blsAt (H : Hp) : ∀ bs : List Bool, DAts H (bs.map Dt.bl) (bs.map V.bl)
 | [] => rfl
 | b :: bs => ⟨_, _, rfl, rfl, blsAt H bs⟩
def kN : List V := [.bl true, .bl true, .bl false, .bl false, .bl false, .bl false, .bl false]
def Told (H : Hp) (Q : VK) (ok : Prop) (A : Hp -> V -> Prop) : Prop :=
 (ok -> ∀ (p k : Addr) (u : V) H', Same H H' -> A H' u -> H' p = some (.tup [.ref k, u]) -> H' k = some (.lst []) -> Q (.ref p) H') /\ (¬ ok -> ∀ (p k : Addr) H', Same H H' -> H' p = some (.tup [.ref k, .non]) -> H' k = some (.lst kN) -> Q (.ref p) H')
def spAn (K : PySem.W.Frag) : Sp := fun vs H Q _ =>
 (∃ (wa : Addr) (v : V) (s : Tm × Tm) (m : Nat) (ps : List (Nat × Nat)) (zs : List Str) (S : Str -> List Nat), vs = [.int 0, .ref wa, v] /\ Wx H wa m ps zs S /\ SAt H s v /\ (Fit 20 s.1 /\ wt s.1 <= 900) /\ (Fit 20 s.2 /\ wt s.2 <= 900) /\ Few (nms s.1 ++ nms s.2) /\ Told H Q (∀ x ∈ nms s.1 ++ nms s.2, x ∈ zs) fun _ u => u = .bl (jQ m ps S s)) \/
 (∃ (wa : Addr) (v : V) (r : Rul) (m : Nat) (ps : List (Nat × Nat)) (zs : List Str) (S : Str -> List Nat), vs = [.int 1, .ref wa, v] /\ Wx H wa m ps zs S /\ RAt H r v /\ r.1.length <= 8 /\ (∀ t ∈ tmR r, Fit 20 t /\ wt t <= 900) /\ Few (nmss (tmR r)) /\ Told H Q (∀ x ∈ nmss (tmR r), x ∈ zs) fun _ u => u = .bl (jG m ps S r)) \/
 (∃ (wa : Addr) (v : V) (t : Tm) (m : Nat) (ps : List (Nat × Nat)) (zs : List Str) (S : Str -> List Nat), vs = [.int 2, .ref wa, v] /\ Wx H wa m ps zs S /\ TAt H t v /\ Fit 20 t /\ wt t <= 900 /\ Few (nms t) /\ Told H Q (∀ x ∈ nms t, x ∈ zs) fun H' u => ∃ l, u = .ref l /\ H' l = some (.lst ((val m ps S t).map nV)))
def spDu : Sp := fun vs H Q _ => ∃ (p k : Addr) (u : V) (rf du : Bool), vs = [.ref p, .bl rf, .bl du] /\ H p = some (.tup [.ref k, u]) /\ ((rf = true /\ H k = some (.lst kN)) \/ (rf = false /\ H k = some (.lst []) /\ u = .bl du)) /\ ∀ H', Same H H' -> Q (.bl true) H'
section
variable {P : Program} {w : World} {K : PySem.W.Frag} {mg : Str -> Option Value} {base : Heap} {f : Addr} {fd : FuncData} {CE CN CT CR CW CM CU : Addr}
theorem ok_answer (Er : Errs K mg CE CN CT CR CW CM CU) (bi : Bi mg) (h_F : HasX P w K mg base 25 "holds" ["world", "saying"] (spHX K CN)) (h_H : HasX P w K mg base 25 "fits" ["world", "rule"] (spTX K CN)) (h_E : HasX P w K mg base 25 "value" ["world", "t"] (spVX K CN)) (F : Fun K "_law_answer" "_law_answer" s_i f fd) : FnOk P w K mg base CX0 26 f fd ["way", "world", "thing"] (spAn K) := by
 have m_ClashError := Er.ce
 have xb_ClashError := Er.cb
 have bz_ValueError := Er.ve
 have g_NoName := Er.g1
 have g_NoText := Er.g2
 have g_NoRule := Er.g3
 have g_NoRow := Er.g4
 have g_NoMiddle := Er.g5
 have g_TooMuch := Er.g6
 refine F.ok sc_i (fun vs H Q E h => ?_) (fun cdv A outer s H vs Q E hr h => ?_)
 · rcases h with ⟨wa, v, s, m, ps, zs, S, rfl, _⟩ | ⟨wa, v, s, m, ps, zs, S, rfl, _⟩ | ⟨wa, v, s, m, ps, zs, S, rfl, _⟩ <;> rfl
 refine ⟨_, (zE (zM (i := 3) sc_i.nd rfl (Or.inl rfl) (zX pa_nil)) (zE (zM (i := 4) sc_i.nd rfl (Or.inl rfl) pe_non) (zE (ps_try (i := 5) body_nox sc_i.nd rfl rfl rfl m_ClashError xb_ClashError rfl (px_if rfl (zU op_eq (pv 0) zD (zW _)) (px_set (i := 4) rfl h_F (hr.mono (by omega)) rfl sc_i.nd rfl (Or.inl rfl) (zA (pv 1) (zA (pv 2) pa_nil))) (px_if rfl (zU op_eq (pv 0) zD (zW _)) (px_set (i := 4) rfl h_H (hr.mono (by omega)) rfl sc_i.nd rfl (Or.inl rfl) (zA (pv 1) (zA (pv 2) pa_nil))) (px_set (i := 4) rfl h_E (hr.mono (by omega)) rfl sc_i.nd rfl (Or.inl rfl) (zA (pv 1) (zA (pv 2) pa_nil))))) (fun _ => (zE (zM (i := 3) sc_i.nd rfl (Or.inl rfl) (zX (zA (zS (xF K rfl) rfl bi.isinstance bt_isinstance (zA (pv 5) (zA (vM g_NoName rfl) pa_nil))) (zA (zS (xF K rfl) rfl bi.isinstance bt_isinstance (zA (pv 5) (zA (pe_ty bz_ValueError bt_ValueError rfl) pa_nil))) (zA (zS (xF K rfl) rfl bi.isinstance bt_isinstance (zA (pv 5) (zA (vM g_NoText rfl) pa_nil))) (zA (zS (xF K rfl) rfl bi.isinstance bt_isinstance (zA (pv 5) (zA (vM g_NoRule rfl) pa_nil))) pa_nil)))))) (zH (zM (i := 3) sc_i.nd rfl (Or.inl rfl) (zL op_cat (pv 3) (zX (zA (zS (xF K rfl) rfl bi.isinstance bt_isinstance (zA (pv 5) (zA (vM g_NoRow rfl) pa_nil))) (zA (zS (xF K rfl) rfl bi.isinstance bt_isinstance (zA (pv 5) (zA (vM g_NoMiddle rfl) pa_nil))) (zA (zS (xF K rfl) rfl bi.isinstance bt_isinstance (zA (pv 5) (zA (vM g_TooMuch rfl) pa_nil))) pa_nil)))))))))) (zH (zO (yJ (zA (pv 3) (zA (pv 4) pa_nil)))))))), ?_⟩
 obtain ⟨n, wa, v, rfl⟩ : ∃ (n : Int) (wa : Addr) (v : V), vs = [.int n, .ref wa, v] := by
   rcases h with ⟨wa, v, s, m, ps, zs, S, rfl, _⟩ | ⟨wa, v, s, m, ps, zs, S, rfl, _⟩ | ⟨wa, v, s, m, ps, zs, S, rfl, _⟩ <;> exact ⟨_, _, _, rfl⟩
 refine zI fun N hN => ?_
 simp! []
 refine ⟨zK (by decide), fun k hk => hN _ _ ?_⟩
 clear hN
 have s1 := zC hk (.lst [])
 have k1 : upd H k (.lst []) k = some (.lst []) := zB
 generalize upd H k (.lst []) = H1 at s1 k1 ⊢
 refine zI fun N hN => ?_
 simp! []
 refine hN _ _ ?_
 clear hN
 refine zI fun N hN => ?_
 have good : ∀ {J : Hp} {u : V}, Same H1 J -> (∀ (p : Addr) H', Same J H' -> H' p = some (.tup [.ref k, u]) -> H' k = some (.lst []) -> Q (.ref p) H') -> N [some (.int n), some (.ref wa), some v, some (.ref k), some u, none] J := fun {J u} sJ hq => hN _ _ (by
   simp! []
   exact ⟨zK (by decide), fun p hp => hq p _ (zC hp _) zB (zC hp _ _ _ (sJ _ _ k1))⟩)
 have bad : ∀ {J : Hp}, Same H1 J -> (∀ (p k' : Addr) H', Same J H' -> H' p = some (.tup [.ref k', .non]) -> H' k' = some (.lst kN) -> Q (.ref p) H') -> ∀ k', J k' = some (.lst kN) -> N [some (.int n), some (.ref wa), some v, some (.ref k'), some .non, none] J := fun {J} sJ hq k' hk' => hN _ _ (by
   simp! []
   exact ⟨zK (by decide), fun p hp => hq p k' _ (zC hp _) zB (zC hp _ _ _ hk')⟩)
 clear hN
 simp! [tTry, tXIf, tXSet, rIsX]
 refine ⟨rfl, ?_⟩
 rcases h with ⟨wa', v', sy, m, ps, zs, S, e, hW, hv, hf1, hf2, few, qg, qb⟩ | ⟨wa', v', r, m, ps, zs, S, e, hW, hv, hrl, hft, few, qg, qb⟩ | ⟨wa', v', t, m, ps, zs, S, e, hW, hv, hf, hw, few, qg, qb⟩
 · cases e
   rw [if_pos rfl]
   refine ⟨wa, v, sy, m, ps, zs, S, rfl, hW.same s1, DAt.same s1 hv, hf1, hf2, few, fun hin H2 s2 => good s2 fun p H' sH h1 h2 => qg hin p k _ H' ((s1.trans s2).trans sH) rfl h1 h2, fun hex H2 s2 => ?_⟩
   have hno : ¬ ∀ x ∈ nms sy.1 ++ nms sy.2, x ∈ zs := fun z => hex.elim fun x hx => hx.2 (z x hx.1)
   refine ⟨CN, rfl, Er.ct, fun ea hea => ?_⟩
   have se := zC hea (xO ea CN)
   refine ⟨CN, zB, Er.xc, _, .inl ⟨_, rfl, rfl⟩, _, Er.k1, CN, zB, Er.xc, _, .inr ⟨_, rfl, rfl⟩, _, Er.k0, CN, zB, Er.xc, _, .inl ⟨_, rfl, rfl⟩, _, Er.k2, CN, zB, Er.xc, _, .inl ⟨_, rfl, rfl⟩, _, Er.k3, zK (by decide), fun p1 hp1 => ?_⟩
   have sp1 := zC hp1 (.lst [V.bl true, V.bl true, V.bl false, V.bl false])
   refine ⟨CN, sp1 _ _ zB, Er.xc, _, .inl ⟨_, rfl, rfl⟩, _, Er.k4, CN, sp1 _ _ zB, Er.xc, _, .inl ⟨_, rfl, rfl⟩, _, Er.k5, CN, sp1 _ _ zB, Er.xc, _, .inl ⟨_, rfl, rfl⟩, _, Er.k6, zK (by decide), fun p2 hp2 => ?_⟩
   refine ⟨_, zC hp2 _ _ _ zB, _, zB, zK (by decide), fun p3 hp3 => ?_⟩
   have sall := ((se.trans sp1).trans (zC hp2 (.lst [V.bl false, V.bl false, V.bl false]))).trans (zC hp3 (.lst kN))
   exact bad (s2.trans sall) (fun p k' H' sH h1 h2 => qb hno p k' H' ((s1.trans s2).trans (sall.trans sH)) h1 h2) p3 zB
 · cases e
   rw [if_neg (by decide)]
   refine ⟨rfl, ?_⟩
   rw [if_pos rfl]
   refine ⟨wa, v, r, m, ps, zs, S, rfl, hW.same s1, DAt.same s1 hv, hrl, hft, few, fun hin H2 s2 => good s2 fun p H' sH h1 h2 => qg hin p k _ H' ((s1.trans s2).trans sH) rfl h1 h2, fun hex H2 s2 => ?_⟩
   have hno : ¬ ∀ x ∈ nmss (tmR r), x ∈ zs := fun z => hex.elim fun x hx => hx.2 (z x hx.1)
   refine ⟨CN, rfl, Er.ct, fun ea hea => ?_⟩
   have se := zC hea (xO ea CN)
   refine ⟨CN, zB, Er.xc, _, .inl ⟨_, rfl, rfl⟩, _, Er.k1, CN, zB, Er.xc, _, .inr ⟨_, rfl, rfl⟩, _, Er.k0, CN, zB, Er.xc, _, .inl ⟨_, rfl, rfl⟩, _, Er.k2, CN, zB, Er.xc, _, .inl ⟨_, rfl, rfl⟩, _, Er.k3, zK (by decide), fun p1 hp1 => ?_⟩
   have sp1 := zC hp1 (.lst [V.bl true, V.bl true, V.bl false, V.bl false])
   refine ⟨CN, sp1 _ _ zB, Er.xc, _, .inl ⟨_, rfl, rfl⟩, _, Er.k4, CN, sp1 _ _ zB, Er.xc, _, .inl ⟨_, rfl, rfl⟩, _, Er.k5, CN, sp1 _ _ zB, Er.xc, _, .inl ⟨_, rfl, rfl⟩, _, Er.k6, zK (by decide), fun p2 hp2 => ?_⟩
   refine ⟨_, zC hp2 _ _ _ zB, _, zB, zK (by decide), fun p3 hp3 => ?_⟩
   have sall := ((se.trans sp1).trans (zC hp2 (.lst [V.bl false, V.bl false, V.bl false]))).trans (zC hp3 (.lst kN))
   exact bad (s2.trans sall) (fun p k' H' sH h1 h2 => qb hno p k' H' ((s1.trans s2).trans (sall.trans sH)) h1 h2) p3 zB
 · cases e
   rw [if_neg (by decide)]
   refine ⟨rfl, ?_⟩
   rw [if_neg (by decide)]
   refine ⟨wa, v, t, m, ps, zs, S, rfl, hW.same s1, TAt.tups s1.tups hv, hf, hw, few, fun hin l H2 s2 hl => good s2 fun p H' sH h1 h2 => qg hin p k _ H' ((s1.trans s2).trans sH) ⟨l, rfl, sH _ _ hl⟩ h1 h2, fun hex H2 s2 => ?_⟩
   have hno : ¬ ∀ x ∈ nms t, x ∈ zs := fun z => hex.elim fun x hx => hx.2 (z x hx.1)
   refine ⟨CN, rfl, Er.ct, fun ea hea => ?_⟩
   have se := zC hea (xO ea CN)
   refine ⟨CN, zB, Er.xc, _, .inl ⟨_, rfl, rfl⟩, _, Er.k1, CN, zB, Er.xc, _, .inr ⟨_, rfl, rfl⟩, _, Er.k0, CN, zB, Er.xc, _, .inl ⟨_, rfl, rfl⟩, _, Er.k2, CN, zB, Er.xc, _, .inl ⟨_, rfl, rfl⟩, _, Er.k3, zK (by decide), fun p1 hp1 => ?_⟩
   have sp1 := zC hp1 (.lst [V.bl true, V.bl true, V.bl false, V.bl false])
   refine ⟨CN, sp1 _ _ zB, Er.xc, _, .inl ⟨_, rfl, rfl⟩, _, Er.k4, CN, sp1 _ _ zB, Er.xc, _, .inl ⟨_, rfl, rfl⟩, _, Er.k5, CN, sp1 _ _ zB, Er.xc, _, .inl ⟨_, rfl, rfl⟩, _, Er.k6, zK (by decide), fun p2 hp2 => ?_⟩
   refine ⟨_, zC hp2 _ _ _ zB, _, zB, zK (by decide), fun p3 hp3 => ?_⟩
   have sall := ((se.trans sp1).trans (zC hp2 (.lst [V.bl false, V.bl false, V.bl false]))).trans (zC hp3 (.lst kN))
   exact bad (s2.trans sall) (fun p k' H' sH h1 h2 => qb hno p k' H' ((s1.trans s2).trans (sall.trans sH)) h1 h2) p3 zB
theorem ok_due (bi : Bi mg) (F : Fun K "_law_due" "_law_due" s_C f fd) : FnOk P w K mg base CX0 1 f fd ["answer", "refused", "due"] spDu := by
 refine F.ok sc_C (fun vs H Q E h => ?_) (fun cdv A outer s H vs Q E hr h => ?_)
 · obtain ⟨p, k, u, rf, du, rfl, _⟩ := h
   rfl
 obtain ⟨p, k, u, rf, du, rfl, hp, hc, q⟩ := h
 refine ⟨_, (zE (yC (xU (pv 1)) (zH (zO (yZ (op_eqD hr.units) (zN ix_tup (pv 0) zD (fun _ _ => rfl)) (zL op_cat (zX (zA xH (zA xH pa_nil))) (zL op_rep (zX (zA xH pa_nil)) zD)) (zW _)))) pss_nil) (zH (zO (pe_and (yZ (op_eqD hr.units) (zN ix_tup (pv 0) zD (fun _ _ => rfl)) (zX pa_nil) (zW _)) (pe_and (zS (call_isi (T := "bool")) rfl bi.isinstance bt_isinstance (zA (zN ix_tup (pv 0) zD (fun _ _ => rfl)) (zA (pe_ty bi.bool bt_bool rfl) pa_nil))) (uN (yZ op_eq (zN ix_tup (pv 0) zD (fun _ _ => rfl)) (pv 2) (zW _)))))))), ?_⟩
 refine zI fun N hN => ?_
 simp! [rRep, rEqD]
 rcases hc with ⟨rfl, hk⟩ | ⟨rfl, hk, rfl⟩
 · rw [if_pos rfl]
   refine ⟨_, SqT.of hp, _, at0, zK (by decide), fun p1 h1 => ⟨zK (by decide), fun p2 h2 => ?_⟩⟩
   refine ⟨[V.bl false], zB, by decide, by decide, zK (by decide), fun p3 h3 => ⟨_, zC h3 _ _ _ (zC h2 _ _ _ zB), _, zB, zK (by decide), fun p4 h4 => ?_⟩⟩
   have sall := ((zC h1 (.lst [V.bl true, V.bl true])).trans (zC h2 (.lst [V.bl false]))).trans ((zC h3 (.lst (List.replicate (Int.toNat 5) [V.bl false]).flatten)).trans (zC h4 (.lst ([V.bl true, V.bl true] ++ (List.replicate (Int.toNat 5) [V.bl false]).flatten))))
   refine ⟨1, kB.map Dt.bl, ⟨k, kN, rfl, sall _ _ hk, blsAt _ kB⟩, kB.map Dt.bl, ⟨p4, kN, rfl, zB, blsAt _ kB⟩, fun d hd => ?_, by omega, ?_⟩
   · obtain ⟨b, _, rfl⟩ := List.mem_map.mp hd
     trivial
   · rw [deqs_refl]
     exact q _ sall
 · rw [if_neg (by decide)]
   refine hN _ _ ?_
   clear hN
   simp! [rEqD]
   refine ⟨_, SqT.of hp, _, at0, zK (by decide), fun p1 h1 => ⟨1, [], ⟨k, _, rfl, zC h1 _ _ _ hk, rfl⟩, [], ⟨p1, _, rfl, zB, rfl⟩, (fun d hd => by cases hd), by omega, ?_⟩⟩
   rw [if_pos (show deqs [] [] = true from rfl)]
   refine ⟨_, SqT.of (zC h1 _ _ _ hp), _, at1, _, .bl _, true, kit_same, ?_⟩
   rw [if_pos rfl]
   refine ⟨_, SqT.of (zC h1 _ _ _ hp), _, at1, rfl, ?_⟩
   rw [decide_eq_true rfl]
   exact q _ (zC h1 _)
end
abbrev s_G : Stmt := top 43
theorem sc_G : FnScope ["script", "names", "world", "near", "sets", "lacking", "fewer", "size", "saying", "premises", "n", "stands", "bare", "some", "handed", "found", "whole"] ["script"] (zG s_G) := ⟨rfl, rfl, rfl, by decide +kernel, rfl, by decide +kernel, by decide +kernel⟩
def spLaw (K : PySem.W.Frag) : Sp := fun vs H Q _ => ∃ (a : Addr) (ns : List Int), vs = [.ref a] /\ SqL K H a (ns.map V.int) /\ ns.length <= 63 /\ ∀ H', Q (.bl true) H'
def sOf : List Str -> List (List Nat) -> Str -> List Nat
 | z :: zs, s :: ss, x => if z = x then s else sOf zs ss x
 | _, _, _ => []
theorem sOf_at : ∀ {zs : List Str} {ss : List (List Nat)} {i : Nat} {z : Str} {s : List Nat}, zs.Nodup -> zs[i]? = some z -> ss[i]? = some s -> sOf zs ss z = s
 | z :: zs, s :: ss, 0, x, t, _, h1, h2 => by
   simp only [List.getElem?_cons_zero, Option.some.injEq] at h1 h2
   subst h1 h2
   rw [sOf, if_pos rfl]
 | z :: zs, s :: ss, i + 1, x, t, hn, h1, h2 => by
   simp only [List.getElem?_cons_succ] at h1 h2
   have hn' := List.nodup_cons.mp hn
   rw [sOf, if_neg (fun e => hn'.1 (by rw [e]; exact List.mem_of_getElem? h1))]
   exact sOf_at hn'.2 h1 h2
 | [], _, i, x, t, _, h1, _ => by simp at h1
 | _ :: _, [], i, x, t, _, _, h2 => by simp at h2
theorem sOf_low {p : List Nat -> Prop} (h0 : p []) : ∀ {zs : List Str} {ss : List (List Nat)} (x : Str), (∀ s ∈ ss, p s) -> p (sOf zs ss x)
 | z :: zs, s :: ss, x, h => by
   rw [sOf]
   split
   · exact h s List.mem_cons_self
   · exact sOf_low h0 x fun s hs => h s (List.mem_cons_of_mem _ hs)
 | [], ss, x, h => by cases ss <;> exact h0
 | _ :: _, [], x, h => h0
def dRo (z : Str) (sp : List Nat) : Dt := .tup [.str z, .lst (sp.map fun n : Nat => Dt.int n)]
theorem zip_ro {β : Type} (g : Str -> List Nat -> β) : ∀ T : List Ro, (T.map fun e => g e.2.1 e.2.2.2) = List.zipWith g (T.map (·.2.1)) (T.map (·.2.2.2))
 | [] => rfl
 | e :: T => by rw [List.map_cons, List.map_cons, List.map_cons, List.zipWith_cons_cons, zip_ro g T]
theorem rosAt {H : Hp} {m : Nat} : ∀ {T : List Ro}, TrAt H m T -> DAts H (T.map fun e => dRo e.2.1 e.2.2.2) ((T.map (·.1)).map V.ref)
 | [], _ => rfl
 | e :: T, h => by
   have h1 := h e List.mem_cons_self
   exact ⟨_, _, rfl, ⟨e.1, _, rfl, h1.1, _, _, rfl, rfl, _, _, rfl, ⟨e.2.2.1, _, rfl, h1.2.1, wS _ _⟩, rfl⟩, rosAt fun e he => h e (List.mem_cons_of_mem _ he)⟩
def dWd (m : Nat) (ps : List (Nat × Nat)) (ros : List Dt) : Dt := .tup [.int m, .lst (ps.map dP2), .lst ros]
theorem WdAt.dt {H : Hp} {wa : Addr} {m : Nat} {ps : List (Nat × Nat)} {T : List Ro} {ca la : Addr} {us : List V} (h : WdAt H wa m ps T ca la us) : DAt H (dWd m ps (T.map fun e => dRo e.2.1 e.2.2.2)) (.ref wa) :=
 ⟨wa, _, rfl, h.tup, _, _, rfl, rfl, _, _, rfl, ⟨ca, _, rfl, h.cl, h.dat⟩, _, _, rfl, ⟨la, _, rfl, h.rows, rosAt h.tr⟩, rfl⟩
theorem WdAt.fit {H : Hp} {wa : Addr} {m : Nat} {ps : List (Nat × Nat)} {T : List Ro} {ca la : Addr} {us : List V} (h : WdAt H wa m ps T ca la us) : DFit 5 (dWd m ps (T.map fun e => dRo e.2.1 e.2.2.2)) := by
 have hps := h.pl
 have hT := h.tl
 have h90 := h.m90
 refine ⟨by simp, fun d hd => ?_⟩
 simp only [List.mem_cons, List.not_mem_nil, or_false] at hd
 rcases hd with rfl | rfl | rfl
 · trivial
 · refine ⟨by rw [List.length_map]; omega, fun d hd => ?_⟩
   obtain ⟨p, _, rfl⟩ := List.mem_map.mp hd
   refine ⟨by simp, fun d hd => ?_⟩
   simp only [List.mem_cons, List.not_mem_nil, or_false] at hd
   rcases hd with rfl | rfl <;> trivial
 · refine ⟨by rw [List.length_map]; omega, fun d hd => ?_⟩
   obtain ⟨e, he, rfl⟩ := List.mem_map.mp hd
   have htr := h.tr e he
   have hl := xY htr.2.2.2 htr.2.2.1
   refine ⟨by simp, fun d hd => ?_⟩
   simp only [List.mem_cons, List.not_mem_nil, or_false] at hd
   rcases hd with rfl | rfl
   · trivial
   · refine ⟨by rw [List.length_map]; omega, fun d hd => ?_⟩
     obtain ⟨n, _, rfl⟩ := List.mem_map.mp hd
     trivial
theorem WdAt.rowsAt {H : Hp} {wa : Addr} {m : Nat} {ps : List (Nat × Nat)} {T : List Ro} {ca la : Addr} {us : List V} (h : WdAt H wa m ps T ca la us) : RowsAt H la (T.map (·.2.1)) (T.map (·.2.2.2)) m := by
 refine ⟨⟨T.map (·.1), T.map (·.2.2.1), h.rows, by rw [List.length_map, List.length_map], by rw [List.length_map, List.length_map], fun i z sp hz hs => ?_⟩, by rw [List.length_map, List.length_map], fun sp hsp => ?_⟩
 · rw [List.getElem?_map] at hz hs
   obtain ⟨e, he, rfl⟩ := Option.map_eq_some_iff.mp hz
   rw [he] at hs
   cases hs
   have htr := h.tr e (List.mem_of_getElem? he)
   exact ⟨e.1, e.2.2.1, by rw [List.getElem?_map, he]; rfl, by rw [List.getElem?_map, he]; rfl, htr.1, htr.2.1⟩
 · obtain ⟨e, he, rfl⟩ := List.mem_map.mp hsp
   exact (h.tr e he).2.2
theorem WdAt.sS {H : Hp} {wa : Addr} {m : Nat} {ps : List (Nat × Nat)} {T : List Ro} {ca la : Addr} {us : List V} (h : WdAt H wa m ps T ca la us) {e : Ro} (he : e ∈ T) : sOf (T.map (·.2.1)) (T.map (·.2.2.2)) e.2.1 = e.2.2.2 := by
 obtain ⟨j, hj, rfl⟩ := List.getElem_of_mem he
 exact sOf_at (i := j) h.nd (by rw [List.getElem?_map, List.getElem?_eq_getElem hj]; rfl) (by rw [List.getElem?_map, List.getElem?_eq_getElem hj]; rfl)
theorem WdAt.wx {H : Hp} {wa : Addr} {m : Nat} {ps : List (Nat × Nat)} {T : List Ro} {ca la : Addr} {us : List V} {S : Str -> List Nat} (h : WdAt H wa m ps T ca la us) (hS : ∀ e ∈ T, S e.2.1 = e.2.2.2) (hr : ∀ z, (∀ i ∈ S z, i < m) /\ (S z).Pairwise (· < ·)) : Wx H wa m ps (T.map (·.2.1)) S := by
 refine ⟨⟨ca, us, la, T.map (·.2.2.2), h.tup, h.cl, h.dat, h.rowsAt, fun i z hz => ?_⟩, h.ok2, h.m90, h.nd, by rw [List.length_map]; exact h.tl, hr⟩
 rw [List.getElem?_map] at hz ⊢
 obtain ⟨e, he, rfl⟩ := Option.map_eq_some_iff.mp hz
 rw [he, hS e (List.mem_of_getElem? he)]
 rfl
def Gd (zs : List Str) (p : Tm × Tm) : Prop := (Fit 20 p.1 /\ wt p.1 <= 900) /\ (Fit 20 p.2 /\ wt p.2 <= 900) /\ ∀ x ∈ nms p.1 ++ nms p.2, x ∈ zs
theorem SAt.tups {H H' : Hp} (e : TupSame H H') {p : Tm × Tm} {v : V} (h : SAt H p v) : SAt H' p v := by
 obtain ⟨a, v1, v2, rfl, ha, h1, h2⟩ := SAt.out h
 exact ⟨a, _, rfl, e _ _ ha, _, _, rfl, TAt.tups e h1, _, _, rfl, TAt.tups e h2, rfl⟩
theorem SAts.tups {H H' : Hp} (e : TupSame H H') : ∀ {ps : List (Tm × Tm)} {vs : List V}, SAts H ps vs -> SAts H' ps vs
 | [], vs, h => h
 | p :: ps, vs, h => by
   obtain ⟨v, r, rfl, h1, h2⟩ := h
   exact ⟨v, r, rfl, SAt.tups e h1, SAts.tups e h2⟩
section
variable {P : Program} {w : World} {K : PySem.W.Frag} {mg : Str -> Option Value} {base : Heap} {f : Addr} {fd : FuncData}
theorem ok_law (bi : Bi mg) (h_n : Has P w K mg base 1 "_law_draw" ["script", "k"] (spDr K)) (h_k : Has P w K mg base 2 "_law_names" ["script", "k", "many"] (spNs K)) (h_o : Has P w K mg base 2 "_law_world" ["script", "k", "names"] (spWd K)) (h_r : Has P w K mg base 1 "_law_near" ["many", "pairs"] spNr) (h_t : Has P w K mg base 1 "_law_sets" ["world"] spSt) (h_p : Has P w K mg base 2 "_law_term" ["script", "k", "many", "names"] (spTe K)) (h_w : Has P w K mg base 1 "_law_copy" ["world"] spCy) (h_l : Has P w K mg base 22 "_law_worth" ["near", "sets", "t"] (spLw K 22)) (h_D : Has P w K mg base 23 "_law_in" ["near", "sets", "saying"] (spIn K)) (h_z : Has P w K mg base 22 "_law_has" ["t", "name"] (spHs 22)) (h_i : Has P w K mg base 26 "_law_answer" ["way", "world", "thing"] (spAn K)) (h_C : Has P w K mg base 1 "_law_due" ["answer", "refused", "due"] spDu)
   (F : Fun K "law" "law" s_G f fd) : FnOk P w K mg base CX0 65 f fd ["script"] (spLaw K) := by
 refine F.ok sc_G (fun vs H Q E h => ?_) (fun cdv A outer s H vs Q E hr h => ?_)
 · obtain ⟨a, ns, rfl, _⟩ := h
   rfl
 obtain ⟨a, ns, rfl, hS, hl, q⟩ := h
 refine ⟨_, (zE (zM (i := 1) sc_G.nd rfl (Or.inl rfl) (zJ h_k (hr.mono (by omega)) rfl (zA (pv 0) (zA zD (zA (zL op_add zD (zL op_mod (zJ h_n (hr.mono (by omega)) rfl (zA (pv 0) (zA zD pa_nil))) zD)) pa_nil))))) (zE (zM (i := 2) sc_G.nd rfl (Or.inl rfl) (zJ h_o (hr.mono (by omega)) rfl (zA (pv 0) (zA zD (zA (pv 1) pa_nil))))) (zE (zM (i := 3) sc_G.nd rfl (Or.inr rfl) (zJ h_r (hr.mono (by omega)) rfl (zA (zN ix_tup (pv 2) zD (fun _ _ => rfl)) (zA (zN ix_tup (pv 2) zD (fun _ _ => rfl)) pa_nil)))) (zE (zM (i := 4) sc_G.nd rfl (Or.inr rfl) (zJ h_t (hr.mono (by omega)) rfl (zA (pv 2) pa_nil))) (zE (zM (i := 5) sc_G.nd rfl (Or.inr rfl) yA) (zE (zM (i := 6) sc_G.nd rfl (Or.inl rfl) (zJ h_w (hr.mono (by omega)) rfl (zA (pv 2) pa_nil))) (zE (yC (zU op_eq (zL op_mod (zJ h_n (hr.mono (by omega)) rfl (zA (pv 0) (zA zD pa_nil))) zD) zD (zW _)) (zE (zM (i := 5) sc_G.nd rfl (Or.inr rfl) (zN ix_list (pv 1) (zL op_mod (zL op_fdiv (zJ h_n (hr.mono (by omega)) rfl (zA (pv 0) (zA zD pa_nil))) zD) (zS call_len rfl bi.len bt_len (zA (pv 1) pa_nil))) (fun _ _ => rfl))) (zH (zM (i := 6) sc_G.nd rfl (Or.inl rfl) (yJ (zA (zN ix_tup (pv 6) zD (fun _ _ => rfl)) (zA (zN ix_tup (pv 6) zD (fun _ _ => rfl)) (zA (yL ["one"] ["lacking"] [5] (yD (zN ix_tup (pv 6) zD (fun _ _ => rfl))) (fun _ _ _ _ nd => zP (i := 0) nd rfl (Or.inl rfl)) (fun _ _ _ _ => wL (zU op_ne (zN (qC K) (pv 0) zD (fun _ _ => rfl)) (pv 1) (zW _))) (fun _ _ _ _ => (pv 0))) pa_nil))))))) pss_nil) (zE (zM (i := 7) sc_G.nd rfl (Or.inl rfl) (zL op_add zD (zL op_mod (zJ h_n (hr.mono (by omega)) rfl (zA (pv 0) (zA zD pa_nil))) zD))) (zE (zM (i := 8) sc_G.nd rfl (Or.inl rfl) (yJ (zA (zJ h_p (hr.mono (by omega)) rfl (zA (pv 0) (zA zD (zA (pv 7) (zA (pv 1) pa_nil))))) (zA (zJ h_p (hr.mono (by omega)) rfl (zA (pv 0) (zA zD (zA (pv 7) (zA (pv 1) pa_nil))))) pa_nil)))) (zE (zM (i := 9) sc_G.nd rfl (Or.inl rfl) (zX pa_nil)) (zE (yO PassesOwn.never rfl (yM rfl bi.range (zA (zL op_mod (zJ h_n (hr.mono (by omega)) rfl (zA (pv 0) (zA zD pa_nil))) zD) pa_nil)) (zP (i := 10) sc_G.nd rfl (Or.inl rfl)) (zH (yT (xZ PySem.F.plainAttrs_list PySem.F.slot_list_append PySem.F.type_list_append mt_append (pv 9) (zA (yJ (zA (zJ h_p (hr.mono (by omega)) rfl (zA (pv 0) (zA (zL op_add zD (zL op_mul zD (pv 10))) (zA (zL op_add zD (pv 10)) (zA (pv 1) pa_nil))))) (zA (zJ h_p (hr.mono (by omega)) rfl (zA (pv 0) (zA (zL op_add zD (zL op_mul zD (pv 10))) (zA zD (zA (pv 1) pa_nil))))) pa_nil))) pa_nil))))) (zE (zM (i := 11) sc_G.nd rfl (Or.inl rfl) (pe_or (zJ h_D (hr.mono (by omega)) rfl (zA (pv 3) (zA (pv 4) (zA (pv 8) pa_nil)))) (uN (pe_not (zS call_all rfl bi.all bt_all (zA (yL ["one"] ["near", "sets"] [3, 4] (yD (pv 9)) (fun _ _ _ _ nd => zP (i := 0) nd rfl (Or.inl rfl)) (fun _ _ _ _ => yI) (fun _ _ _ _ => (zJ h_D (hr.mono (by omega)) rfl (zA (pv 1) (zA (pv 2) (zA (pv 0) pa_nil)))))) pa_nil)))))) (zE (zM (i := 12) sc_G.nd rfl (Or.inl rfl) (pe_or (zJ h_z (hr.mono (by omega)) rfl (zA (zN ix_tup (pv 8) zD (fun _ _ => rfl)) (zA (pv 5) pa_nil))) (uN (zJ h_z (hr.mono (by omega)) rfl (zA (zN ix_tup (pv 8) zD (fun _ _ => rfl)) (zA (pv 5) pa_nil)))))) (zE (wK (i := 13) ["one"] ["lacking"] [5] sc_G.nd rfl (yD (pv 9)) (fun _ _ _ _ nd => zP (i := 0) nd rfl (Or.inl rfl)) (fun _ _ _ _ => wL (PW.pt (pw_or (xU (zJ h_z (hr.mono (by omega)) rfl (zA (zN (qC K) (pv 0) zD (fun _ _ => rfl)) (zA (pv 1) pa_nil)))) (wH (xU (zJ h_z (hr.mono (by omega)) rfl (zA (zN (qC K) (pv 0) zD (fun _ _ => rfl)) (zA (pv 1) pa_nil)))))))) (fun _ _ _ _ => (pv 0))) (zE (zM (i := 14) sc_G.nd rfl (Or.inl rfl) (yJ (zA (xD call_list_of rfl bi.list bt_list (zA (pv 9) pa_nil)) (zA (pv 8) pa_nil)))) (zE (yC (wJ (xU (zJ h_C (hr.mono (by omega)) rfl (zA (zJ h_i (hr.mono (by omega)) rfl (zA zD (zA (pv 6) (zA (pv 8) pa_nil)))) (zA (pv 12) (zA (zJ h_D (hr.mono (by omega)) rfl (zA (pv 3) (zA (pv 4) (zA (pv 8) pa_nil)))) pa_nil)))))) (zH (zO xH)) pss_nil) (zE (yC (wJ (xU (zJ h_C (hr.mono (by omega)) rfl (zA (zJ h_i (hr.mono (by omega)) rfl (zA zD (zA (pv 6) (zA (pv 14) pa_nil)))) (zA (pe_or (pv 12) (uN (yZ op_gt (zS call_len rfl bi.len bt_len (zA (pv 13) pa_nil)) zD (zW _)))) (zA (pv 11) pa_nil)))))) (zH (zO xH)) pss_nil) (zE (zM (i := 15) sc_G.nd rfl (Or.inl rfl) (zJ h_i (hr.mono (by omega)) rfl (zA zD (zA (pv 6) (zA (zN ix_tup (pv 8) zD (fun _ _ => rfl)) pa_nil))))) (zE (yC (xU (zJ h_z (hr.mono (by omega)) rfl (zA (zN ix_tup (pv 8) zD (fun _ _ => rfl)) (zA (pv 5) pa_nil)))) (zH (yC (zU (op_neG hr.units) (zN ix_tup (pv 15) zD (fun _ _ => rfl)) (zL op_cat (zX (zA xH (zA xH pa_nil))) (zL op_rep (zX (zA xH pa_nil)) zD)) (zW _)) (zH (zO xH)) pss_nil)) (zH (yC (zU (op_neG hr.units) (pv 15) (yJ (zA (zX pa_nil) (zA (zJ h_l (hr.mono (by omega)) rfl (zA (pv 3) (zA (pv 4) (zA (zN ix_tup (pv 8) zD (fun _ _ => rfl)) pa_nil)))) pa_nil))) (zW _)) (zH (zO xH)) pss_nil))) (zE (zM (i := 16) sc_G.nd rfl (Or.inl rfl) (zJ h_w (hr.mono (by omega)) rfl (zA (pv 2) pa_nil))) (zE (yC (wJ (xU (zJ h_C (hr.mono (by omega)) rfl (zA (zJ h_i (hr.mono (by omega)) rfl (zA zD (zA (pv 16) (zA (pv 14) pa_nil)))) (zA xH (zA (pv 11) pa_nil)))))) (zH (zO xH)) pss_nil) (zH (zO (pe_and (yZ (op_eqG hr.units) (pv 16) (pv 2) (zW _)) (uN (yZ (op_eqG hr.units) (pv 14) (yJ (zA (pv 9) (zA (pv 8) pa_nil))) (zW _))))))))))))))))))))))))))), ?_⟩
 refine zI fun N hN => ?_
 simp! []
 refine ⟨a, ns, 2, rfl, hS, hl, by omega, fun z hz => ⟨z, rfl, by decide, ?_⟩⟩
 obtain ⟨j, ej⟩ : ∃ j : Nat, 2 + z % 3 = (j : Int) := ⟨(2 + z % 3).toNat, by omega⟩
 have hj1 : 1 <= j := by omega
 have hj5 : j <= 5 := by omega
 rw [ej]
 refine ⟨a, ns, 0, j, rfl, hS, hl, by omega, hj1, hj5, fun na zs H1 s1 hnm => hN _ _ ?_⟩
 clear hN
 replace hS := Same.seq s1 hS
 refine zI fun N hN => ?_
 simp! []
 refine ⟨a, na, ns, 3, j, zs, rfl, hS, hl, by omega, hnm, hj1, hj5, fun wa m ps T ca la us H2 s2 hw hpz => hN _ _ ?_⟩
 clear hN
 replace hS := Same.seq s2 hS
 replace hnm := hnm.same s2
 have at1' : ∀ {a b c : V}, atI [a, b, c] 1 = some b := yB (j := 1) rfl
 have at2 : ∀ {a b c : V}, atI [a, b, c] 2 = some c := yB (j := 2) rfl
 refine zI fun N hN => ?_
 simp! []
 refine ⟨_, SqT.of hw.tup, _, at0, _, SqT.of hw.tup, _, at1', ?_⟩
 refine ⟨m, ca, us, ps, rfl, hw.m90, hw.cl, hw.dat, hw.ok2, fun nr H3 s3 hnr => hN _ _ ?_⟩
 clear hN
 replace hS := Same.seq s3 hS
 replace hnm := hnm.same s3
 replace hw := hw.same s3
 refine zI fun N hN => ?_
 simp! []
 refine ⟨wa, m, ps, T, ca, la, us, rfl, hw, fun sd H4 s4 ksd => hN _ _ ?_⟩
 clear hN
 replace hS := Same.seq s4 hS
 replace hnm := hnm.same s4
 replace hw := hw.same s4
 replace hnr := hnr.same s4
 refine zI fun N hN => ?_
 simp! []
 refine hN _ _ ?_
 clear hN
 refine zI fun N hN => ?_
 simp! []
 refine ⟨wa, m, ps, T, ca, la, us, rfl, hw, fun wa' T' ca' la' us' H6 s6 hw' hz' hs' => hN _ _ ?_⟩
 clear hN
 replace hS := Same.seq s6 hS
 replace hnm := hnm.same s6
 replace hw := hw.same s6
 replace hnr := hnr.same s6
 replace ksd := s6 _ _ ksd
 have hjz := hnm.len
 have hSl : ∀ z, (∀ i ∈ sOf (T.map (·.2.1)) (T.map (·.2.2.2)) z, i < m) /\ (sOf (T.map (·.2.1)) (T.map (·.2.2.2)) z).Pairwise (· < ·) := fun z => sOf_low (p := fun l => (∀ i ∈ l, i < m) /\ l.Pairwise (· < ·)) ⟨(fun i h => by cases h), .nil⟩ z fun sp hsp => hw.rowsAt.low sp hsp
 have hST : ∀ e ∈ T, sOf (T.map (·.2.1)) (T.map (·.2.2.2)) e.2.1 = e.2.2.2 := fun e he => hw.sS he
 have hST' : ∀ e ∈ T', sOf (T.map (·.2.1)) (T.map (·.2.2.2)) e.2.1 = e.2.2.2 := fun e he => by
   have := hw'.sS he
   rwa [hz', hs'] at this
 have hsd : ∀ y ∈ zs, ∃ l, yP (T.map fun e => ((.inr e.2.1 : Key), V.ref e.2.2.1)) (.inr y) = some (.ref l) /\ H6 l = some (.lst ((sOf (T.map (·.2.1)) (T.map (·.2.2.2)) y).map nV)) := fun y hy => by
   obtain ⟨e, he, rfl⟩ := List.mem_map.mp (hpz.mem_iff.mpr hy)
   exact ⟨e.2.2.1, rk_val hw.nd he, by rw [hST e he]; exact (hw.tr e he).2.1⟩
 generalize sOf (T.map (·.2.1)) (T.map (·.2.2.2)) = S at hSl hST hST' hsd
 refine zR (fun σ H' => ∃ (lk : Str) (fa : Addr) (T2 : List Ro) (cf lf : Addr) (uf : List V), Same H6 H' /\ WdAt H' fa m ps T2 cf lf uf /\ (∀ e ∈ T2, S e.2.1 = e.2.2.2) /\ (∀ x ∈ zs, x ∈ T2.map (·.2.1) ↔ x ≠ lk) /\ σ = [some (V.ref a), some (V.ref na), some (V.ref wa), some (V.ref nr), some (V.ref sd), some (V.str lk), some (V.ref fa), none, none, none, none, none, none, none, none, none, none]) (fun N hN => ?_) (fun σ H' h => ?_)
 · simp! []
   refine ⟨a, ns, 9, rfl, hS, hl, by omega, fun z9 hz9 => ⟨z9, rfl, by decide, rfl, ?_⟩⟩
   by_cases c9 : z9 % 3 = 0
   · rw [if_pos c9]
     refine ⟨a, ns, 9, rfl, hS, hl, by omega, fun z8 hz8 => ⟨z8, rfl, ⟨by decide, by decide⟩, zs.length, .inl ⟨_, SqL.of hnm.lst, (List.length_map _).symm⟩, by omega, _, SqL.of hnm.lst, ?_⟩⟩
     obtain ⟨n, en, hn⟩ : ∃ n : Nat, z8 / 3 % (zs.length : Int) = (n : Int) /\ n < zs.length := by
       have h1 := Int.emod_nonneg (z8 / 3) (b := (zs.length : Int)) (by omega)
       have h2 := Int.emod_lt_of_pos (z8 / 3) (b := (zs.length : Int)) (by omega)
       exact ⟨(z8 / 3 % (zs.length : Int)).toNat, by omega, by omega⟩
     rw [en]
     refine ⟨V.str zs[n], yB (by rw [List.getElem?_map, List.getElem?_eq_getElem hn]; rfl), _, SqT.of hw'.tup, _, at0, _, SqT.of hw'.tup, _, at1', _, SqT.of hw'.tup, _, at2, la', rfl, ⟨_, SqL.of hw'.rows⟩, ?_⟩
     generalize zs[n] = lk
     refine vR (xs := (T'.map (·.1)).map V.ref) (fun i ys σ H' => H' = H6 /\ ys = (((T'.take i).filter fun e => decide (e.2.1 ≠ lk)).map (·.1)).map V.ref /\ ∃ o, σ = [o, some (V.str lk)]) ⟨rfl, rfl, _, rfl⟩ (zK (by rw [List.length_map, List.length_map]; have := hw'.tl; omega)) (fun i ys σ H' e => ?_) (fun i ys σ H' e => by rw [e.1]; exact SqL.of hw'.rows) (fun i x ys σ H' C D hx e hC hD => ?_) (fun ys σ H' e p3 hp3 => ?_)
     · rw [e.2.1, List.length_map, List.length_map]
       exact Nat.le_trans (List.length_filter_le ..) (by rw [List.length_take]; omega)
     · obtain ⟨rfl, rfl, o, rfl⟩ := e
       rw [List.getElem?_map, List.getElem?_map] at hx
       obtain ⟨b, hb, rfl⟩ := Option.map_eq_some_iff.mp hx
       obtain ⟨e, he, rfl⟩ := Option.map_eq_some_iff.mp hb
       obtain ⟨hil, hie⟩ := List.getElem?_eq_some_iff.mp he
       have htr := hw'.tr e (List.mem_of_getElem? he)
       simp! []
       refine ⟨_, SqT.of htr.1, _, at0, rfl, ?_⟩
       by_cases ce : e.2.1 = lk
       · rw [if_neg (by rw [ce]; simp)]
         refine hD _ _ ⟨rfl, ?_, _, rfl⟩
         rw [List.take_succ_eq_append_getElem hil, hie, List.filter_append, List.filter_cons_of_neg (by simp [ce]), List.filter_nil, List.append_nil]
       · rw [if_pos (fun z => ce (V.str.inj z))]
         refine hC _ _ _ ⟨rfl, ?_, _, rfl⟩
         rw [List.take_succ_eq_append_getElem hil, hie, List.filter_append, List.filter_cons_of_pos (by simp [ce]), List.filter_nil, List.map_append, List.map_append]
         rfl
     obtain ⟨rfl, rfl, o, rfl⟩ := e
     rw [List.length_map, List.length_map, List.take_of_length_le (Nat.le_refl _)]
     have sp3 := zC hp3 (.lst (((T'.filter fun e => decide (e.2.1 ≠ lk)).map (·.1)).map V.ref))
     have kp3 : upd H' p3 (.lst (((T'.filter fun e => decide (e.2.1 ≠ lk)).map (·.1)).map V.ref)) p3 = some (.lst (((T'.filter fun e => decide (e.2.1 ≠ lk)).map (·.1)).map V.ref)) := zB
     generalize upd H' p3 (.lst (((T'.filter fun e => decide (e.2.1 ≠ lk)).map (·.1)).map V.ref)) = H7 at sp3 kp3 ⊢
     refine ⟨zK (by decide), fun p hp => hN _ _ ⟨lk, p, T'.filter fun e => decide (e.2.1 ≠ lk), ca', p3, us', sp3.trans (zC hp _), ?_, fun e he => hST' e ((List.mem_filter.mp he).1), fun x hx => ?_, rfl⟩⟩
     · have h7 := hw'.same (sp3.trans (zC hp (.tup [nV m, .ref ca', .ref p3])))
       exact ⟨zB, h7.cl, h7.dat, h7.ok2, h7.pl, h7.m1, h7.m90, zC hp _ _ _ kp3, fun e he => h7.tr e ((List.mem_filter.mp he).1), h7.nd.sublist ((List.filter_sublist ..).map _), Nat.le_trans (List.length_filter_le ..) h7.tl⟩
     · rw [List.mem_map]
       constructor
       · rintro ⟨e, he, rfl⟩
         exact of_decide_eq_true (List.mem_filter.mp he).2
       · intro hne
         have hx' : x ∈ T'.map (·.2.1) := by rw [hz']; exact hpz.mem_iff.mpr hx
         obtain ⟨e, he, rfl⟩ := List.mem_map.mp hx'
         exact ⟨e, List.mem_filter.mpr ⟨he, decide_eq_true hne⟩, rfl⟩
   · rw [if_neg c9]
     refine hN _ _ ⟨"", wa', T', ca', la', us', Same.refl _, hw', hST', fun x hx => ⟨fun _ e => ?_, fun _ => by rw [hz']; exact hpz.mem_iff.mpr hx⟩, rfl⟩
     have := (hnm.nm x hx).pos
     rw [e] at this
     exact absurd this (by decide +kernel)
 obtain ⟨lk, fa, T2, cf, lf, uf, s7, hf, hfS, hfz, rfl⟩ := h
 clear hST' hs' hz' hw' T' ca' la' us' wa'
 replace hS := Same.seq s7 hS
 replace hnm := hnm.same s7
 replace hw := hw.same s7
 replace hnr := hnr.same s7
 replace ksd := s7 _ _ ksd
 replace hsd : ∀ y ∈ zs, ∃ l, yP (T.map fun e => ((.inr e.2.1 : Key), V.ref e.2.2.1)) (.inr y) = some (.ref l) /\ H' l = some (.lst ((S y).map nV)) := fun y hy => let ⟨l, h1, h2⟩ := hsd y hy; ⟨l, h1, s7 _ _ h2⟩
 have hWf := hf.wx hfS hSl
 clear hf hfS
 generalize T2.map (·.2.1) = zF at hWf hfz
 refine zI fun N hN => ?_
 simp! []
 refine ⟨a, ns, 10, rfl, hS, hl, by omega, fun z10 hz10 => ⟨z10, rfl, by decide, hN _ _ ?_⟩⟩
 clear hN
 obtain ⟨sz, esz⟩ : ∃ sz : Nat, 1 + z10 % 5 = (sz : Int) := ⟨(1 + z10 % 5).toNat, by omega⟩
 rw [esz]
 refine zI fun N hN => ?_
 simp! []
 refine ⟨a, na, ns, 12, sz, j, zs, rfl, hS, hl, by omega, by omega, by omega, hnm, hj1, hj5, fun v1 t1 H8 s8 ht1 hf1 hw1 hn1 => ?_⟩
 refine ⟨a, na, ns, 17, sz, j, zs, rfl, Same.seq s8 hS, hl, by omega, by omega, by omega, hnm.same s8, hj1, hj5, fun v2 t2 H9 s9 ht2 hf2 hw2 hn2 => ⟨zK (by decide), fun sa hsa => hN _ _ ?_⟩⟩
 clear hN
 have s10 := zC hsa (.tup [v1, v2])
 have s810 := s8.trans (s9.trans s10)
 have hsy : SAt (upd H9 sa (.tup [v1, v2])) (t1, t2) (.ref sa) := ⟨sa, _, rfl, zB, _, _, rfl, TAt.tups (s9.trans s10).tups ht1, _, _, rfl, TAt.tups s10.tups ht2, rfl⟩
 generalize upd H9 sa (.tup [v1, v2]) = H10 at s10 s810 hsy ⊢
 have hGs : Gd zs (t1, t2) := ⟨⟨hf1, Nat.le_trans hw1 (by decide)⟩, ⟨hf2, Nat.le_trans hw2 (by decide)⟩, fun x hx => (List.mem_append.mp hx).elim (hn1 x) (hn2 x)⟩
 replace hS := Same.seq s810 hS
 replace hnm := hnm.same s810
 replace hw := hw.same s810
 replace hnr := hnr.same s810
 replace ksd := s810 _ _ ksd
 replace hsd : ∀ y ∈ zs, ∃ l, yP (T.map fun e => ((.inr e.2.1 : Key), V.ref e.2.2.1)) (.inr y) = some (.ref l) /\ H10 l = some (.lst ((S y).map nV)) := fun y hy => let ⟨l, h1, h2⟩ := hsd y hy; ⟨l, h1, s810 _ _ h2⟩
 replace hWf := hWf.same s810
 clear ht1 ht2 s8 s9 s10 s810 hsa
 refine zI fun N hN => ?_
 simp! []
 refine ⟨zK (by decide), fun pa hpa => hN _ _ ?_⟩
 clear hN
 refine zR (fun σ H' => ∃ (us' : List V) (prs : List (Tm × Tm)) (o : Option V), Same H10 H' /\ H' pa = some (.lst us') /\ SAts H' prs us' /\ prs.length <= 3 /\ (∀ p ∈ prs, Gd zs p) /\ σ = [some (V.ref a), some (V.ref na), some (V.ref wa), some (V.ref nr), some (V.ref sd), some (V.str lk), some (V.ref fa), some (V.int sz), some (V.ref sa), some (V.ref pa), o, none, none, none, none, none, none]) (fun N hN => ?_) (fun σ H' h => ?_)
 · simp! []
   refine ⟨a, ns, 11, rfl, Same.seq (zC hpa _) hS, hl, by omega, fun z11 hz11 => ⟨z11, rfl, by decide, by omega, by omega, ?_⟩⟩
   refine xC (n := (z11 % 4).toNat) (fun i σ H' => ∃ (us' : List V) (prs : List (Tm × Tm)) (o : Option V), Same H10 H' /\ H' pa = some (.lst us') /\ SAts H' prs us' /\ prs.length = i /\ (∀ p ∈ prs, Gd zs p) /\ σ = [some (V.ref a), some (V.ref na), some (V.ref wa), some (V.ref nr), some (V.ref sd), some (V.str lk), some (V.ref fa), some (V.int sz), some (V.ref sa), some (V.ref pa), o, none, none, none, none, none, none]) ⟨[], [], _, zC hpa _, zB, rfl, rfl, (fun p hp => by cases hp), rfl⟩ (fun i σ H' hi h => ?_) (fun σ H' h => ?_)
   · obtain ⟨us', prs, o, es, kpa, hps, hpl, hpg, rfl⟩ := h
     have e0 : (0 : Int) + (i : Int) = ((i : Nat) : Int) := by omega
     rw [e0]
     simp! []
     refine ⟨.inl ⟨rfl, _, SqL.of kpa⟩, .inl ⟨by decide, by decide⟩, a, na, ns, 22 + 6 * i, 1 + i, j, zs, rfl, Same.seq es hS, hl, by omega, by omega, by omega, hnm.same es, hj1, hj5, fun v3 t3 H11 s11 ht3 hf3 hw3 hn3 => ?_⟩
     refine ⟨.inl ⟨by decide, by decide⟩, a, na, ns, 25 + 6 * i, 3, j, zs, rfl, Same.seq (es.trans s11) hS, hl, by omega, by omega, by omega, hnm.same (es.trans s11), hj1, hj5, fun v4 t4 H12 s12 ht4 hf4 hw4 hn4 => ⟨zK (by decide), fun tp htp => ?_⟩⟩
     have s13 := zC htp (.tup [v3, v4])
     have hn34 : SAt (upd H12 tp (.tup [v3, v4])) (t3, t4) (.ref tp) := ⟨tp, _, rfl, zB, _, _, rfl, TAt.tups (s12.trans s13).tups ht3, _, _, rfl, TAt.tups s13.tups ht4, rfl⟩
     have s113 := (s11.trans s12).trans s13
     generalize upd H12 tp (.tup [v3, v4]) = H13 at s13 hn34 s113 ⊢
     have kpa3 := s113 _ _ kpa
     have tsm : TupSame H13 (upd H13 pa (.lst (us' ++ [V.ref tp]))) := fun b xs h => by
       rw [zQ (fun z => by rw [z, kpa3] at h; cases h)]
       exact h
     have hul : us'.length = prs.length := SAts.length hps
     refine ⟨us', kpa3, Nat.lt_of_lt_of_le (show us'.length < 64 by omega) (zK (by decide)), (es.trans s113).upd hpa, _, zB, prs ++ [(t3, t4)], ?_, by rw [List.length_append, hpl]; rfl, fun p hp => ?_, _, rfl⟩
     · unfold SAts
       rw [List.map_append]
       exact DAts.append (SAts.tups tsm (SAts.tups s113.tups hps)) (DAts.one (SAt.tups tsm hn34))
     · rcases List.mem_append.mp hp with hp | hp
       · exact hpg p hp
       · rw [List.mem_singleton.mp hp]
         exact ⟨⟨hf3, Nat.le_trans hw3 (by decide)⟩, ⟨hf4, Nat.le_trans hw4 (by decide)⟩, fun x hx => (List.mem_append.mp hx).elim (hn3 x) (hn4 x)⟩
   · obtain ⟨us', prs, o, es, kpa, hps, hpl, hpg, rfl⟩ := h
     exact hN _ _ ⟨us', prs, o, es, kpa, hps, by omega, hpg, rfl⟩
 obtain ⟨us', prs, o, es, kpa, hps, hpl, hpg, rfl⟩ := h
 have hsyD := hsy
 replace hS := Same.seq es hS
 replace hnm := hnm.same es
 replace hw := hw.same es
 replace hnr := hnr.same es
 replace ksd := es _ _ ksd
 replace hsd : ∀ y ∈ zs, ∃ l, yP (T.map fun e => ((.inr e.2.1 : Key), V.ref e.2.2.1)) (.inr y) = some (.ref l) /\ H' l = some (.lst ((S y).map nV)) := fun y hy => let ⟨l, h1, h2⟩ := hsd y hy; ⟨l, h1, es _ _ h2⟩
 replace hWf := hWf.same es
 replace hsy := DAt.same es hsy
 clear es hsyD
 generalize H' = H11 at *
 have hm90 := hw.m90
 have hul : us'.length = prs.length := SAts.length hps
 have lin : ∀ {J : Hp} {v : V} {p : Tm × Tm} {Q1 : VK}, Same H11 J -> SAt H11 p v -> Gd zs p -> (∀ J', Same J J' -> Q1 (.bl (jQ m ps S p)) J') -> spIn K [.ref nr, .ref sd, v] J Q1 E0 := fun {J v p Q1} sJ hp hg q1 =>
   ⟨nr, sd, v, p, m, ps, _, S, rfl, hnr.same sJ, hm90, DAt.same sJ hp, hg.1, hg.2.1, sJ _ _ ksd, fun y hy => by
     obtain ⟨l, h1, h2⟩ := hsd y (hg.2.2 y (List.mem_append.mpr hy))
     exact ⟨l, h1, sJ _ _ h2⟩, hSl, q1⟩
 refine zR (fun σ H' => Same H11 H' /\ σ = [some (V.ref a), some (V.ref na), some (V.ref wa), some (V.ref nr), some (V.ref sd), some (V.str lk), some (V.ref fa), some (V.int sz), some (V.ref sa), some (V.ref pa), o, some (V.bl (jG m ps S (prs, (t1, t2)))), none, none, none, none, none]) (fun N hN => ?_) (fun σ H' h => ?_)
 · simp! []
   refine lin (Same.refl _) hsy hGs fun J sJ => ⟨_, rfl, ?_⟩
   cases c1 : jQ m ps S (t1, t2) with
   | true =>
     rw [if_pos rfl]
     refine hN _ _ ⟨sJ, ?_⟩
     unfold jG
     rw [c1, Bool.or_true]
   | false =>
   rw [if_neg (by decide)]
   refine ⟨⟨_, SqL.of (sJ _ _ kpa)⟩, ?_⟩
   refine xA (xs := us') (fun i ys σ H' => Same H11 H' /\ ys = ((prs.take i).map (jQ m ps S)).map V.bl /\ ∃ o, σ = [o, some (V.ref nr), some (V.ref sd)]) ⟨sJ, rfl, _, rfl⟩ (zK (by omega)) (fun i ys σ H' e => ?_) (fun i ys σ H' e => SqL.of (e.1 _ _ kpa)) (fun i y ys σ H' C' hy e hC => ?_) (fun ys σ H' e p3 hp3 => ?_)
   · rw [e.2.1, List.length_map, List.length_map, List.length_take]; omega
   · obtain ⟨es, rfl, o', rfl⟩ := e
     obtain ⟨pr, hpi, hy'⟩ := SAts.getV hps hy
     obtain ⟨hil, hie⟩ := List.getElem?_eq_some_iff.mp hpi
     simp! []
     refine lin es hy' (hpg pr (List.mem_of_getElem? hpi)) fun J' sJ' => hC _ _ _ ⟨es.trans sJ', ?_, _, rfl⟩
     rw [List.take_succ_eq_append_getElem hil, hie, List.map_append, List.map_append]
     rfl
   obtain ⟨es, rfl, o', rfl⟩ := e
   rw [hul, List.take_of_length_le (Nat.le_refl _)]
   refine ⟨p3, rfl, _, SqL.of zB, hN _ _ ⟨es.trans (zC hp3 _), ?_⟩⟩
   unfold jG
   rw [c1, Bool.or_false, List.all_map]
   rfl
 obtain ⟨s12, rfl⟩ := h
 have lhas : ∀ {J : Hp} {v : V} {t : Tm} {Q1 : VK}, Same H11 J -> TAt H11 t v -> Fit 20 t /\ wt t <= 900 -> (∀ J', Same J J' -> Q1 (.bl (decide (lk ∈ nms t))) J') -> spHs 22 [v, .str lk] J Q1 E0 := fun {J v t Q1} sJ ht hf q1 =>
   ⟨v, lk, t, rfl, TAt.tups sJ.tups ht, Fit.mono (m := 21) hf.1 (by decide), hf.2, q1⟩
 obtain ⟨sa', v1', v2', esa, hsa, hv1, hv2⟩ := SAt.out hsy
 cases esa
 refine zR (fun σ H' => Same H11 H' /\ σ = [some (V.ref a), some (V.ref na), some (V.ref wa), some (V.ref nr), some (V.ref sd), some (V.str lk), some (V.ref fa), some (V.int sz), some (V.ref sa), some (V.ref pa), o, some (V.bl (jG m ps S (prs, (t1, t2)))), some (V.bl (decide (lk ∈ nms t1 ++ nms t2))), none, none, none, none]) (fun N hN => ?_) (fun σ H' h => ?_)
 · simp! []
   refine ⟨_, SqT.of (s12 _ _ hsa), _, at0, lhas s12 hv1 hGs.1 fun J sJ => ⟨_, rfl, ?_⟩⟩
   have s13 := s12.trans sJ
   by_cases c1 : lk ∈ nms t1
   · rw [decide_eq_true c1, if_pos rfl]
     refine hN _ _ ⟨s13, ?_⟩
     rw [decide_eq_true (List.mem_append_left _ c1)]
   · rw [decide_eq_false c1, if_neg (by decide)]
     refine ⟨_, SqT.of (s13 _ _ hsa), _, at1, lhas s13 hv2 hGs.2.1 fun J' sJ' => hN _ _ ⟨s13.trans sJ', ?_⟩⟩
     rw [show decide (lk ∈ nms t1 ++ nms t2) = decide (lk ∈ nms t2) by rw [decide_eq_decide, List.mem_append]; exact ⟨fun h => h.elim (fun z => absurd z c1) id, .inr⟩]
 obtain ⟨s13, rfl⟩ := h
 clear s12
 refine zR (fun σ H' => ∃ (so : Addr) (ws : List V), Same H11 H' /\ H' so = some (.lst ws) /\ ws.length <= 3 /\ (ws.length = 0 ↔ ∀ p ∈ prs, lk ∉ nms p.1 ++ nms p.2) /\ σ = [some (V.ref a), some (V.ref na), some (V.ref wa), some (V.ref nr), some (V.ref sd), some (V.str lk), some (V.ref fa), some (V.int sz), some (V.ref sa), some (V.ref pa), o, some (V.bl (jG m ps S (prs, (t1, t2)))), some (V.bl (decide (lk ∈ nms t1 ++ nms t2))), some (V.ref so), none, none, none]) (fun N hN => ?_) (fun σ H' h => ?_)
 · simp! []
   refine ⟨⟨_, SqL.of (s13 _ _ kpa)⟩, ?_⟩
   refine vR (xs := us') (fun i ys σ H' => Same H11 H' /\ ys.length <= i /\ (ys.length = 0 ↔ ∀ p ∈ prs.take i, lk ∉ nms p.1 ++ nms p.2) /\ ∃ o, σ = [o, some (V.str lk)]) ⟨s13, Nat.le_refl _, ⟨fun _ p hp => by simp at hp, fun _ => rfl⟩, _, rfl⟩ (zK (by omega)) (fun i ys σ H' e => e.2.1) (fun i ys σ H' e => SqL.of (e.1 _ _ kpa)) (fun i y ys σ H' C D hy e hC hD => ?_) (fun ys σ H' e p3 hp3 => ?_)
   · obtain ⟨es, hyl, hiff, o', rfl⟩ := e
     obtain ⟨pr, hpi, hy'⟩ := SAts.getV hps hy
     obtain ⟨hil, hie⟩ := List.getElem?_eq_some_iff.mp hpi
     obtain ⟨ya, w1, w2, rfl, hya, hw1', hw2'⟩ := SAt.out hy'
     have hg := hpg pr (List.mem_of_getElem? hpi)
     have htk : prs.take (i + 1) = prs.take i ++ [pr] := by rw [List.take_succ_eq_append_getElem hil, hie]
     have yes : ∀ {J : Hp}, Same H11 J -> lk ∈ nms pr.1 ++ nms pr.2 -> C (.ref ya) [some (V.ref ya), some (V.str lk)] J := fun sJ hin => hC _ _ _ ⟨sJ, by rw [List.length_append]; exact Nat.succ_le_succ hyl, ⟨fun z => (by rw [List.length_append] at z; cases z), fun z => absurd hin (z pr (by rw [htk]; exact List.mem_append_right _ (List.mem_singleton.mpr rfl)))⟩, _, rfl⟩
     simp! []
     refine ⟨_, SqT.of (es _ _ hya), _, at0, lhas es hw1' hg.1 fun J sJ => ⟨_, rfl, ?_⟩⟩
     have sJ1 := es.trans sJ
     by_cases c1 : lk ∈ nms pr.1
     · rw [decide_eq_true c1, if_pos rfl]
       exact yes sJ1 (List.mem_append_left _ c1)
     · rw [decide_eq_false c1, if_neg (by decide)]
       refine ⟨_, SqT.of (sJ1 _ _ hya), _, at1, lhas sJ1 hw2' hg.2.1 fun J' sJ' => ⟨_, rfl, ?_⟩⟩
       have sJ2 := sJ1.trans sJ'
       by_cases c2 : lk ∈ nms pr.2
       · rw [decide_eq_true c2, if_pos rfl]
         exact yes sJ2 (List.mem_append_right _ c2)
       · rw [decide_eq_false c2, if_neg (by decide)]
         refine hD _ _ ⟨sJ2, by omega, ?_, _, rfl⟩
         rw [hiff, htk]
         refine ⟨fun z p hp => ?_, fun z p hp => z p (List.mem_append_left _ hp)⟩
         rcases List.mem_append.mp hp with hp | hp
         · exact z p hp
         · rw [List.mem_singleton.mp hp]
           exact fun z => (List.mem_append.mp z).elim c1 c2
   obtain ⟨es, hyl, hiff, o', rfl⟩ := e
   rw [hul, List.take_of_length_le (Nat.le_refl _)] at hiff
   exact hN _ _ ⟨p3, ys, es.trans (zC hp3 _), zB, by omega, hiff, rfl⟩
 obtain ⟨so, ws, s14, kso, hwl, hws, rfl⟩ := h
 clear s13
 refine zI fun N hN => ?_
 simp! []
 refine ⟨us', .inl (SqL.of (s14 _ _ kpa)), fun hl1 hhl1 => ⟨zK (by decide), fun hd hhd => hN _ _ ?_⟩⟩
 clear hN
 have s15 := (zC hhl1 (.lst us')).trans (zC hhd (.tup [V.ref hl1, V.ref sa]))
 have hrh : RAt (upd (upd H' hl1 (.lst us')) hd (.tup [V.ref hl1, V.ref sa])) (prs, (t1, t2)) (.ref hd) := ⟨hd, _, rfl, zB, _, _, rfl, ⟨hl1, us', rfl, zC hhd _ _ _ zB, DAts.same (s14.trans s15) hps⟩, _, _, rfl, DAt.same (s14.trans s15) hsy, rfl⟩
 have s16 := s14.trans s15
 replace kso := s15 _ _ kso
 generalize upd (upd H' hl1 (.lst us')) hd (.tup [V.ref hl1, V.ref sa]) = H16 at s15 hrh s16 kso ⊢
 clear s14 s15 hhl1 hhd
 have okF : ∀ {l : List Str}, (∀ x ∈ l, x ∈ zs) -> ((∀ x ∈ l, x ∈ zF) ↔ lk ∉ l) := fun {l} hlz => ⟨fun h hk => (hfz lk (hlz lk hk)).mp (h lk hk) rfl, fun h x hx => (hfz x (hlz x hx)).mpr fun e => h (e ▸ hx)⟩
 have few : ∀ {l : List Str}, (∀ x ∈ l, x ∈ zs) -> Few l := fun {l} hlz => ⟨zs, by omega, fun x hx => ⟨hlz x hx, (hnm.nm x (hlz x hx)).most⟩⟩
 have hrn : ∀ x, x ∈ nmss (tmR (prs, (t1, t2))) ↔ (∃ p ∈ prs, x ∈ nms p.1 ++ nms p.2) \/ x ∈ nms t1 ++ nms t2 := fun x => by
   unfold tmR jC tmP
   rw [nmss_app, List.mem_append, nmss_mem]
   refine or_congr ⟨fun ⟨t, h1, h2⟩ => ?_, fun ⟨p, h1, h2⟩ => ?_⟩ ?_
   · obtain ⟨p, hp, ht⟩ := List.mem_flatMap.mp h1
     refine ⟨p, hp, List.mem_append.mpr ?_⟩
     simp only [List.mem_cons, List.not_mem_nil, or_false] at ht
     rcases ht with rfl | rfl
     · exact .inl h2
     · exact .inr h2
   · rcases List.mem_append.mp h2 with h2 | h2
     · exact ⟨p.1, List.mem_flatMap.mpr ⟨p, h1, by simp⟩, h2⟩
     · exact ⟨p.2, List.mem_flatMap.mpr ⟨p, h1, by simp⟩, h2⟩
   · show x ∈ nms t1 ++ (nms t2 ++ nmss []) ↔ _
     rw [nmss, List.append_nil]
 have hrz : ∀ x ∈ nmss (tmR (prs, (t1, t2))), x ∈ zs := fun x hx => by
   rcases (hrn x).mp hx with ⟨p, hp, h⟩ | h
   · exact (hpg p hp).2.2 x h
   · exact hGs.2.2 x h
 have hrf : ∀ t ∈ tmR (prs, (t1, t2)), Fit 20 t /\ wt t <= 900 := fun t ht => by
   unfold tmR jC tmP at ht
   rcases List.mem_append.mp ht with h | h
   · obtain ⟨p, hp, ht⟩ := List.mem_flatMap.mp h
     simp only [List.mem_cons, List.not_mem_nil, or_false] at ht
     rcases ht with rfl | rfl
     · exact (hpg p hp).1
     · exact (hpg p hp).2.1
   · simp only [List.mem_cons, List.not_mem_nil, or_false] at h
     rcases h with rfl | rfl
     · exact hGs.1
     · exact hGs.2.1
 refine zR (fun σ H' => Same H16 H' /\ σ = [some (V.ref a), some (V.ref na), some (V.ref wa), some (V.ref nr), some (V.ref sd), some (V.str lk), some (V.ref fa), some (V.int sz), some (V.ref sa), some (V.ref pa), o, some (V.bl (jG m ps S (prs, (t1, t2)))), some (V.bl (decide (lk ∈ nms t1 ++ nms t2))), some (V.ref so), some (V.ref hd), none, none]) (fun N hN => ?_) (fun σ H' h => ?_)
 · simp! []
   refine .inl ⟨fa, .ref sa, (t1, t2), m, ps, zF, S, rfl, hWf.same s16, DAt.same s16 hsy, hGs.1, hGs.2.1, few hGs.2.2, fun hok p k u H17 s17 hu hp hk => ?_, fun hok p k H17 s17 hp hk => ?_⟩
   · refine lin (s16.trans s17) hsy hGs fun J sJ => ⟨p, k, u, _, _, rfl, sJ _ _ hp, .inr ⟨decide_eq_false ((okF hGs.2.2).mp hok), sJ _ _ hk, hu⟩, fun J' sJ' => ⟨true, rfl, ?_⟩⟩
     rw [if_neg (by decide)]
     exact hN _ _ ⟨s17.trans (sJ.trans sJ'), rfl⟩
   · refine lin (s16.trans s17) hsy hGs fun J sJ => ⟨p, k, .non, _, _, rfl, sJ _ _ hp, .inl ⟨decide_eq_true (Decidable.byContradiction fun z => hok ((okF hGs.2.2).mpr z)), sJ _ _ hk⟩, fun J' sJ' => ⟨true, rfl, ?_⟩⟩
     rw [if_neg (by decide)]
     exact hN _ _ ⟨s17.trans (sJ.trans sJ'), rfl⟩
 obtain ⟨s17, rfl⟩ := h
 have two : ∀ {J : Hp} {fa' : Addr} {z2 : List Str} {rf : Bool} {Q1 W : VK}, Same H16 J -> Wx J fa' m ps z2 S -> (rf = true ↔ ¬ ∀ x ∈ nmss (tmR (prs, (t1, t2))), x ∈ z2) -> (∀ J', Same J J' -> Q1 (.bl true) J') -> (∀ (x : V) (J1 : Hp), Same J J1 -> spDu [x, .bl rf, .bl (jG m ps S (prs, (t1, t2)))] J1 Q1 E0 -> W x J1) -> spAn K [.int 1, .ref fa', .ref hd] J W E0 := fun {J fa' z2 rf Q1 W} sJ hWJ hrf' q1 hW => by
   refine .inr (.inl ⟨fa', .ref hd, (prs, (t1, t2)), m, ps, z2, S, rfl, hWJ, DAt.same sJ hrh, Nat.le_trans hpl (by decide), hrf, few hrz, fun hok p k u J2 s2 hu hp hk => ?_, fun hok p k J2 s2 hp hk => ?_⟩)
   · refine hW _ _ s2 ⟨p, k, u, rf, _, rfl, hp, .inr ⟨?_, hk, hu⟩, fun J' sJ' => q1 _ (s2.trans sJ')⟩
     cases rf with
     | false => rfl
     | true => exact absurd hok (hrf'.mp rfl)
   · exact hW _ _ s2 ⟨p, k, .non, rf, _, rfl, hp, .inl ⟨hrf'.mpr hok, hk⟩, fun J' sJ' => q1 _ (s2.trans sJ')⟩
 have hlkr : (¬ ∀ x ∈ nmss (tmR (prs, (t1, t2))), x ∈ zF) ↔ (lk ∈ nms t1 ++ nms t2 \/ ¬ ws.length = 0) := by
   rw [okF hrz, Decidable.not_not, hrn, hws]
   constructor
   · rintro (⟨p, hp, h⟩ | h)
     · exact .inr fun z => z p hp h
     · exact .inl h
   · rintro (h | h)
     · exact .inr h
     · exact .inl (Classical.byContradiction fun z => h fun p hp hk => z ⟨p, hp, hk⟩)
 refine zR (fun σ H' => Same H16 H' /\ σ = [some (V.ref a), some (V.ref na), some (V.ref wa), some (V.ref nr), some (V.ref sd), some (V.str lk), some (V.ref fa), some (V.int sz), some (V.ref sa), some (V.ref pa), o, some (V.bl (jG m ps S (prs, (t1, t2)))), some (V.bl (decide (lk ∈ nms t1 ++ nms t2))), some (V.ref so), some (V.ref hd), none, none]) (fun N hN => ?_) (fun σ H' h => ?_)
 · simp! []
   have fin : ∀ J', Same H' J' -> (fun (x : V) (H1 : Hp) => ∃ c, x = V.bl c /\ if c = false then Q (V.bl false) H1 else N [some (V.ref a), some (V.ref na), some (V.ref wa), some (V.ref nr), some (V.ref sd), some (V.str lk), some (V.ref fa), some (V.int sz), some (V.ref sa), some (V.ref pa), o, some (V.bl (jG m ps S (prs, (t1, t2)))), some (V.bl (decide (lk ∈ nms t1 ++ nms t2))), some (V.ref so), some (V.ref hd), none, none] H1) (V.bl true) J' := fun J' sJ' => ⟨true, rfl, by
     rw [if_neg (by decide)]
     exact hN _ _ ⟨s17.trans sJ', rfl⟩⟩
   by_cases c1 : lk ∈ nms t1 ++ nms t2
   · refine two (rf := true) (Q1 := fun x H1 => ∃ c, x = V.bl c /\ if c = false then Q (V.bl false) H1 else N [some (V.ref a), some (V.ref na), some (V.ref wa), some (V.ref nr), some (V.ref sd), some (V.str lk), some (V.ref fa), some (V.int sz), some (V.ref sa), some (V.ref pa), o, some (V.bl (jG m ps S (prs, (t1, t2)))), some (V.bl (decide (lk ∈ nms t1 ++ nms t2))), some (V.ref so), some (V.ref hd), none, none] H1) s17 (hWf.same (s16.trans s17)) ⟨fun _ => hlkr.mpr (.inl c1), fun _ => rfl⟩ fin fun x J1 sJ1 h => ?_
     rw [if_pos c1]
     exact h
   · refine two (rf := decide ((0 : Int) < (ws.length : Int))) (Q1 := fun x H1 => ∃ c, x = V.bl c /\ if c = false then Q (V.bl false) H1 else N [some (V.ref a), some (V.ref na), some (V.ref wa), some (V.ref nr), some (V.ref sd), some (V.str lk), some (V.ref fa), some (V.int sz), some (V.ref sa), some (V.ref pa), o, some (V.bl (jG m ps S (prs, (t1, t2)))), some (V.bl (decide (lk ∈ nms t1 ++ nms t2))), some (V.ref so), some (V.ref hd), none, none] H1) s17 (hWf.same (s16.trans s17)) ?_ fin fun x J1 sJ1 h => ?_
     · rw [hlkr, decide_eq_true_eq]
       exact ⟨fun h => .inr (by omega), fun h => h.elim (fun z => absurd z c1) fun z => by omega⟩
     · rw [if_neg c1]
       exact ⟨ws.length, .inl ⟨_, SqL.of ((s17.trans sJ1) _ _ kso), rfl⟩, h⟩
 obtain ⟨s18, rfl⟩ := h
 clear s17
 refine zR (fun σ H' => ∃ (fp k : Addr) (u : V), Same H16 H' /\ H' fp = some (.tup [.ref k, u]) /\ ((lk ∉ nms t1 /\ H' k = some (.lst []) /\ ∃ l, u = .ref l /\ H' l = some (.lst ((val m ps S t1).map nV))) \/ (lk ∈ nms t1 /\ H' k = some (.lst kN))) /\ σ = [some (V.ref a), some (V.ref na), some (V.ref wa), some (V.ref nr), some (V.ref sd), some (V.str lk), some (V.ref fa), some (V.int sz), some (V.ref sa), some (V.ref pa), o, some (V.bl (jG m ps S (prs, (t1, t2)))), some (V.bl (decide (lk ∈ nms t1 ++ nms t2))), some (V.ref so), some (V.ref hd), some (V.ref fp), none]) (fun N hN => ?_) (fun σ H' h => ?_)
 · simp! []
   have hn1z : ∀ x ∈ nms t1, x ∈ zs := fun x hx => hGs.2.2 x (List.mem_append_left _ hx)
   have s168 := s16.trans s18
   refine ⟨_, SqT.of (s168 _ _ hsa), _, at0, .inr (.inr ⟨fa, _, t1, m, ps, zF, S, rfl, hWf.same s168, TAt.tups s168.tups hv1, hGs.1.1, hGs.1.2, few hn1z, fun hok p k u J2 s2 hu hp hk => ?_, fun hok p k J2 s2 hp hk => ?_⟩)⟩
   · exact hN _ _ ⟨p, k, u, s18.trans s2, hp, .inl ⟨(okF hn1z).mp hok, hk, hu⟩, rfl⟩
   · exact hN _ _ ⟨p, k, .non, s18.trans s2, hp, .inr ⟨Decidable.byContradiction fun z => hok ((okF hn1z).mpr z), hk⟩, rfl⟩
 obtain ⟨fp, k, u, s19, kfp, hfp, rfl⟩ := h
 clear s18
 refine zR (fun σ H' => Same H16 H' /\ σ = [some (V.ref a), some (V.ref na), some (V.ref wa), some (V.ref nr), some (V.ref sd), some (V.str lk), some (V.ref fa), some (V.int sz), some (V.ref sa), some (V.ref pa), o, some (V.bl (jG m ps S (prs, (t1, t2)))), some (V.bl (decide (lk ∈ nms t1 ++ nms t2))), some (V.ref so), some (V.ref hd), some (V.ref fp), none]) (fun N hN => ?_) (fun σ H' h => ?_)
 · simp! [rRep]
   have s169 := s16.trans s19
   refine ⟨_, SqT.of (s169 _ _ hsa), _, at0, lhas s169 hv1 hGs.1 fun J sJ => ⟨_, rfl, ?_⟩⟩
   rcases hfp with ⟨hno, hk, l, rfl, hl'⟩ | ⟨hin, hk⟩
   · rw [decide_eq_false hno, if_neg (by decide)]
     refine ⟨zK (by decide), fun p1 h1 => ?_⟩
     have sp1 := zC h1 (.lst [])
     have kp1 : upd J p1 (.lst []) p1 = some (.lst []) := zB
     generalize upd J p1 (.lst []) = J1 at sp1 kp1 ⊢
     have sJ1 := (s169.trans sJ).trans sp1
     refine ⟨_, SqT.of (sJ1 _ _ hsa), _, at0, nr, sd, _, t1, m, ps, _, S, rfl, hnr.same sJ1, hm90, TAt.tups sJ1.tups hv1, hGs.1.1, hGs.1.2, sJ1 _ _ ksd, fun y hy => ?_, hSl, fun p2 J2 s2 hp2 k2 => ⟨zK (by decide), fun p3 h3 => ?_⟩⟩
     · obtain ⟨l2, e1, e2⟩ := hsd y (hGs.2.2 y (List.mem_append_left _ hy))
       exact ⟨l2, e1, sJ1 _ _ e2⟩
     have hvl : (val m ps S t1).length <= m := xY (jZ (fun y => (hSl y).2) _) fun i hi => uG (fun y i hi => (hSl y).1 i hi) _ hi
     have s23 := s2.trans (zC h3 (.tup [V.ref p1, V.ref p2]))
     have sK := (sJ.trans sp1).trans s23
     refine ⟨3, .tup [.lst [], .lst ((val m ps S t1).map fun n : Nat => Dt.int n)], .tup [.lst [], .lst ((val m ps S t1).map fun n : Nat => Dt.int n)], ⟨fp, _, rfl, sK _ _ kfp, _, _, rfl, ⟨k, _, rfl, sK _ _ hk, rfl⟩, _, _, rfl, ⟨l, _, rfl, sK _ _ hl', wS _ _⟩, rfl⟩, ⟨p3, _, rfl, zB, _, _, rfl, ⟨p1, _, rfl, s23 _ _ kp1, rfl⟩, _, _, rfl, ⟨p2, _, rfl, zC h3 _ _ _ k2, wS _ _⟩, rfl⟩, ⟨by simp, fun d hd => ?_⟩, by omega, _, rfl, ?_⟩
     · simp only [List.mem_cons, List.not_mem_nil, or_false] at hd
       rcases hd with rfl | rfl
       · exact ⟨by simp, fun d hd => by cases hd⟩
       · refine ⟨by rw [List.length_map]; omega, fun d hd => ?_⟩
         obtain ⟨n, _, rfl⟩ := List.mem_map.mp hd
         trivial
     · rw [deq_refl, if_neg (by decide)]
       exact hN _ _ ⟨s19.trans sK, rfl⟩
   · rw [decide_eq_true hin, if_pos rfl]
     refine ⟨_, SqT.of (sJ _ _ kfp), _, at0, zK (by decide), fun p1 h1 => ⟨zK (by decide), fun p2 h2 => ⟨[V.bl false], zB, by decide, by decide, zK (by decide), fun p3 h3 => ⟨_, zC h3 _ _ _ (zC h2 _ _ _ zB), _, zB, zK (by decide), fun p4 h4 => ?_⟩⟩⟩⟩
     have sall := sJ.trans (((zC h1 (.lst [V.bl true, V.bl true])).trans (zC h2 (.lst [V.bl false]))).trans ((zC h3 (.lst (List.replicate (Int.toNat 5) [V.bl false]).flatten)).trans (zC h4 (.lst ([V.bl true, V.bl true] ++ (List.replicate (Int.toNat 5) [V.bl false]).flatten)))))
     refine ⟨3, .lst (kB.map Dt.bl), .lst (kB.map Dt.bl), ⟨k, kN, rfl, sall _ _ hk, blsAt _ kB⟩, ⟨p4, kN, rfl, zB, blsAt _ kB⟩, ⟨by decide, fun d hd => ?_⟩, by omega, _, rfl, ?_⟩
     · obtain ⟨b, _, rfl⟩ := List.mem_map.mp hd
       trivial
     · rw [deq_refl, if_neg (by decide)]
       exact hN _ _ ⟨s19.trans sall, rfl⟩
 obtain ⟨s20, rfl⟩ := h
 refine zI fun N hN => ?_
 simp! []
 refine ⟨wa, m, ps, T, ca, la, us, rfl, hw.same (s16.trans s20), fun wh Th ch lh uh H21 s21 hwh hzh hsh => hN _ _ ?_⟩
 clear hN
 have s21' := s20.trans s21
 have hSTh : ∀ e ∈ Th, S e.2.1 = e.2.2.2 := fun e he => by
   obtain ⟨i, hi, rfl⟩ := List.getElem_of_mem he
   have hl2 : Th.length = T.length := by have := congrArg List.length hzh; rwa [List.length_map, List.length_map] at this
   have hiT : i < T.length := by omega
   have e1 : (Th.map (·.2.1))[i]? = (T.map (·.2.1))[i]? := by rw [hzh]
   have e2 : (Th.map (·.2.2.2))[i]? = (T.map (·.2.2.2))[i]? := by rw [hsh]
   rw [List.getElem?_map, List.getElem?_map, List.getElem?_eq_getElem hi, List.getElem?_eq_getElem hiT] at e1 e2
   have e1 : Th[i].2.1 = T[i].2.1 := Option.some.inj e1
   have e2 : Th[i].2.2.2 = T[i].2.2.2 := Option.some.inj e2
   rw [e1, e2]
   exact hST _ (List.getElem_mem hiT)
 refine zR (fun σ H' => Same H21 H' /\ σ = [some (V.ref a), some (V.ref na), some (V.ref wa), some (V.ref nr), some (V.ref sd), some (V.str lk), some (V.ref fa), some (V.int sz), some (V.ref sa), some (V.ref pa), o, some (V.bl (jG m ps S (prs, (t1, t2)))), some (V.bl (decide (lk ∈ nms t1 ++ nms t2))), some (V.ref so), some (V.ref hd), some (V.ref fp), some (V.ref wh)]) (fun N hN => ?_) (fun σ H' h => ?_)
 · simp! []
   refine two (rf := false) (Q1 := fun x H1 => ∃ c, x = V.bl c /\ if c = false then Q (V.bl false) H1 else N [some (V.ref a), some (V.ref na), some (V.ref wa), some (V.ref nr), some (V.ref sd), some (V.str lk), some (V.ref fa), some (V.int sz), some (V.ref sa), some (V.ref pa), o, some (V.bl (jG m ps S (prs, (t1, t2)))), some (V.bl (decide (lk ∈ nms t1 ++ nms t2))), some (V.ref so), some (V.ref hd), some (V.ref fp), some (V.ref wh)] H1) s21' (hwh.wx hSTh hSl) ⟨fun z => (nomatch z), fun h => absurd (fun x hx => ?_) h⟩ (fun J' sJ' => ⟨true, rfl, ?_⟩) fun x J1 sJ1 h => h
   · rw [hzh]
     exact hpz.mem_iff.mpr (hrz x hx)
   · rw [if_neg (by decide)]
     exact hN _ _ ⟨sJ', rfl⟩
 obtain ⟨s22, rfl⟩ := h
 simp! [rEqG]
 have s162 := (s16.trans s21').trans s22
 refine ⟨4, _, (hwh.same s22).dt, _, (hw.same s162).dt, (hwh.same s22).fit, by omega, ?_⟩
 rw [zip_ro dRo T, zip_ro dRo Th, hzh, hsh, deq_refl, if_pos rfl]
 refine ⟨zK (by decide), fun p hp => ?_⟩
 have s23 := zC hp (.tup [V.ref pa, V.ref sa])
 have s163 := s162.trans s23
 refine ⟨23, vW (prs, (t1, t2)), DAt.same ((s21'.trans s22).trans s23) hrh, vW (prs, (t1, t2)), ⟨p, _, rfl, zB, _, _, rfl, ⟨pa, us', rfl, s163 _ _ kpa, DAts.same s163 hps⟩, _, _, rfl, DAt.same s163 hsy, rfl⟩, rule_dfit (n := 20) (m := 900) (fun p hp => ⟨(hpg p hp).1, (hpg p hp).2.1⟩) ⟨hGs.1, hGs.2.1⟩ (by decide) (Nat.le_trans hpl (by decide)), by omega, ?_⟩
 rw [deq_refl]
 exact q _
end
theorem ln0 {us : List Value} (h : us.length = 0) : us = [] := List.length_eq_zero_iff.mp h
theorem lnS {us : List Value} {n : Nat} (h : us.length = n + 1) : ∃ (u : Value) (r : List Value), us = u :: r /\ r.length = n := by
 cases us with
 | nil => cases h
 | cons u r => exact ⟨u, r, rfl, Nat.succ.inj h⟩
theorem ln1 {us : List Value} (h : us.length = 1) : ∃ a, us = [a] := by
 obtain ⟨a, r, rfl, g⟩ := lnS h
 cases ln0 g
 exact ⟨a, rfl⟩
theorem ln2 {us : List Value} (h : us.length = 2) : ∃ a b, us = [a, b] := by
 obtain ⟨a, r, rfl, g⟩ := lnS h
 obtain ⟨b, rfl⟩ := ln1 g
 exact ⟨a, b, rfl⟩
theorem ln3 {us : List Value} (h : us.length = 3) : ∃ a b c, us = [a, b, c] := by
 obtain ⟨a, r, rfl, g⟩ := lnS h
 obtain ⟨b, c, rfl⟩ := ln2 g
 exact ⟨a, b, c, rfl⟩
theorem ln4 {us : List Value} (h : us.length = 4) : ∃ a b c d, us = [a, b, c, d] := by
 obtain ⟨a, r, rfl, g⟩ := lnS h
 obtain ⟨b, c, d, rfl⟩ := ln3 g
 exact ⟨a, b, c, d, rfl⟩
theorem all_mk {l : PySem.W.OpenLaw} {w : World} {K : PySem.W.Frag} {h : Heap} {mg : Str -> Option Value} {fa : Addr} (X : K.In h) (G : h.Ns mainGlobals mg) (hfa : mg "law" = some (.ref fa))
   {C_Floor : Addr} (aC_Floor : PySem.W.nsIn K mainGlobals "Floor" = some (some (.ref C_Floor)))
   {f_g : Addr} {od_g an_g : Option Addr} {sl_g : Array (Option Value)} {oc_g kV_g dc_g pm_g cd_g ct_g : Value} (a_g : PySem.W.findIn K (.ref C_Floor) "__init__" = some (some (.ref f_g))) (i_g : PySem.W.isFn K (.ref f_g) = true) (l_g : K.lookup f_g = some ⟨oc_g, od_g, .func (PySem.W.fnOf "__init__" "Floor.__init__" (zV s_g) (zT s_g) (zG s_g) .none kV_g dc_g pm_g an_g cd_g ct_g), sl_g⟩) (c_g : PySem.W.codeIn K cd_g "Floor.__init__" = true) (k_g : PySem.W.keepIn K (.ref f_g) = true)
   {f_b : Addr} {od_b an_b : Option Addr} {sl_b : Array (Option Value)} {oc_b kV_b dc_b pm_b cd_b ct_b : Value} (a_b : PySem.W.findIn K (.ref C_Floor) "common_of" = some (some (.ref f_b))) (i_b : PySem.W.isFn K (.ref f_b) = true) (l_b : K.lookup f_b = some ⟨oc_b, od_b, .func (PySem.W.fnOf "common_of" "Floor.common_of" (zV s_b) (zT s_b) (zG s_b) .none kV_b dc_b pm_b an_b cd_b ct_b), sl_b⟩) (c_b : PySem.W.codeIn K cd_b "Floor.common_of" = true) (k_b : PySem.W.keepIn K (.ref f_b) = true)
   {f_a : Addr} {od_a an_a : Option Addr} {sl_a : Array (Option Value)} {oc_a kV_a dc_a pm_a cd_a ct_a : Value} (a_a : PySem.W.findIn K (.ref C_Floor) "counter_of" = some (some (.ref f_a))) (i_a : PySem.W.isFn K (.ref f_a) = true) (l_a : K.lookup f_a = some ⟨oc_a, od_a, .func (PySem.W.fnOf "counter_of" "Floor.counter_of" (zV s_a) (zT s_a) (zG s_a) .none kV_a dc_a pm_a an_a cd_a ct_a), sl_a⟩) (c_a : PySem.W.codeIn K cd_a "Floor.counter_of" = true) (k_a : PySem.W.keepIn K (.ref f_a) = true)
   {f_c : Addr} {od_c an_c : Option Addr} {sl_c : Array (Option Value)} {oc_c kV_c dc_c pm_c cd_c ct_c : Value} (a_c : PySem.W.findIn K (.ref C_Floor) "value_of" = some (some (.ref f_c))) (i_c : PySem.W.isFn K (.ref f_c) = true) (l_c : K.lookup f_c = some ⟨oc_c, od_c, .func (PySem.W.fnOf "value_of" "Floor.value_of" (zV s_c) (zT s_c) (zG s_c) .none kV_c dc_c pm_c an_c cd_c ct_c), sl_c⟩) (c_c : PySem.W.codeIn K cd_c "Floor.value_of" = true) (k_c : PySem.W.keepIn K (.ref f_c) = true)
   {f_d : Addr} {od_d an_d : Option Addr} {sl_d : Array (Option Value)} {oc_d kV_d dc_d pm_d cd_d ct_d : Value} (a_d : PySem.W.findIn K (.ref C_Floor) "is_under" = some (some (.ref f_d))) (i_d : PySem.W.isFn K (.ref f_d) = true) (l_d : K.lookup f_d = some ⟨oc_d, od_d, .func (PySem.W.fnOf "is_under" "Floor.is_under" (zV s_d) (zT s_d) (zG s_d) .none kV_d dc_d pm_d an_d cd_d ct_d), sl_d⟩) (c_d : PySem.W.codeIn K cd_d "Floor.is_under" = true) (k_d : PySem.W.keepIn K (.ref f_d) = true)
   (pg_Floor : PySem.W.plainGet K C_Floor Str.empty = true) (hd_Floor : PySem.W.hasDictIn K C_Floor = true) (po_Floor : PySem.W.plainOver K C_Floor = true) (sa_Floor : PySem.W.findIn K (.ref C_Floor) "__setattr__" = some (some (.builtin "object.__setattr__"))) (mk_Floor : PySem.W.makesIn K C_Floor = true) (kc_Floor : PySem.W.keepIn K (.ref C_Floor) = true) (n_Floor_everywhere : PySem.W.findIn K (.ref C_Floor) "everywhere" = some none) (n_Floor_clashing : PySem.W.findIn K (.ref C_Floor) "clashing" = some none)
   {f_B : Addr} {od_B an_B : Option Addr} {sl_B : Array (Option Value)} {oc_B kV_B dc_B pm_B cd_B ct_B : Value} (a_B : PySem.W.nsIn K mainGlobals "mask_of" = some (some (.ref f_B))) (l_B : K.lookup f_B = some ⟨oc_B, od_B, .func (PySem.W.fnOf "mask_of" "mask_of" (zV s_B) (zT s_B) (zG s_B) .none kV_B dc_B pm_B an_B cd_B ct_B), sl_B⟩) (c_B : PySem.W.codeIn K cd_B "mask_of" = true) (k_B : PySem.W.keepIn K (.ref f_B) = true)
   {f_A : Addr} {od_A an_A : Option Addr} {sl_A : Array (Option Value)} {oc_A kV_A dc_A pm_A cd_A ct_A : Value} (a_A : PySem.W.nsIn K mainGlobals "bits_of" = some (some (.ref f_A))) (l_A : K.lookup f_A = some ⟨oc_A, od_A, .func (PySem.W.fnOf "bits_of" "bits_of" (zV s_A) (zT s_A) (zG s_A) .none kV_A dc_A pm_A an_A cd_A ct_A), sl_A⟩) (c_A : PySem.W.codeIn K cd_A "bits_of" = true) (k_A : PySem.W.keepIn K (.ref f_A) = true)
   {f_q : Addr} {od_q an_q : Option Addr} {sl_q : Array (Option Value)} {oc_q kV_q dc_q pm_q cd_q ct_q : Value} (a_q : PySem.W.nsIn K mainGlobals "sets_for" = some (some (.ref f_q))) (l_q : K.lookup f_q = some ⟨oc_q, od_q, .func (PySem.W.fnOf "sets_for" "sets_for" (zV s_q) (zT s_q) (zG s_q) .none kV_q dc_q pm_q an_q cd_q ct_q), sl_q⟩) (c_q : PySem.W.codeIn K cd_q "sets_for" = true) (k_q : PySem.W.keepIn K (.ref f_q) = true)
   {f_E : Addr} {od_E an_E : Option Addr} {sl_E : Array (Option Value)} {oc_E kV_E dc_E pm_E cd_E ct_E : Value} (a_E : PySem.W.nsIn K mainGlobals "value" = some (some (.ref f_E))) (l_E : K.lookup f_E = some ⟨oc_E, od_E, .func (PySem.W.fnOf "value" "value" (zV s_E) (zT s_E) (zG s_E) .none kV_E dc_E pm_E an_E cd_E ct_E), sl_E⟩) (c_E : PySem.W.codeIn K cd_E "value" = true) (k_E : PySem.W.keepIn K (.ref f_E) = true)
   {f_F : Addr} {od_F an_F : Option Addr} {sl_F : Array (Option Value)} {oc_F kV_F dc_F pm_F cd_F ct_F : Value} (a_F : PySem.W.nsIn K mainGlobals "holds" = some (some (.ref f_F))) (l_F : K.lookup f_F = some ⟨oc_F, od_F, .func (PySem.W.fnOf "holds" "holds" (zV s_F) (zT s_F) (zG s_F) .none kV_F dc_F pm_F an_F cd_F ct_F), sl_F⟩) (c_F : PySem.W.codeIn K cd_F "holds" = true) (k_F : PySem.W.keepIn K (.ref f_F) = true)
   {f_H : Addr} {od_H an_H : Option Addr} {sl_H : Array (Option Value)} {oc_H kV_H dc_H pm_H cd_H ct_H : Value} (a_H : PySem.W.nsIn K mainGlobals "fits" = some (some (.ref f_H))) (l_H : K.lookup f_H = some ⟨oc_H, od_H, .func (PySem.W.fnOf "fits" "fits" (zV s_H) (zT s_H) (zG s_H) .none kV_H dc_H pm_H an_H cd_H ct_H), sl_H⟩) (c_H : PySem.W.codeIn K cd_H "fits" = true) (k_H : PySem.W.keepIn K (.ref f_H) = true)
   {f_x : Addr} {od_x an_x : Option Addr} {sl_x : Array (Option Value)} {oc_x kV_x dc_x pm_x cd_x ct_x : Value} (a_x : PySem.W.nsIn K mainGlobals "parts_of" = some (some (.ref f_x))) (l_x : K.lookup f_x = some ⟨oc_x, od_x, .func (PySem.W.fnOf "parts_of" "parts_of" (zV s_x) (zT s_x) (zG s_x) .none kV_x dc_x pm_x an_x cd_x ct_x), sl_x⟩) (c_x : PySem.W.codeIn K cd_x "parts_of" = true) (k_x : PySem.W.keepIn K (.ref f_x) = true)
   {f_e : Addr} {od_e an_e : Option Addr} {sl_e : Array (Option Value)} {oc_e kV_e dc_e pm_e cd_e ct_e : Value} (a_e : PySem.W.nsIn K mainGlobals "gather_names" = some (some (.ref f_e))) (l_e : K.lookup f_e = some ⟨oc_e, od_e, .func (PySem.W.fnOf "gather_names" "gather_names" (zV s_e) (zT s_e) (zG s_e) .none kV_e dc_e pm_e an_e cd_e ct_e), sl_e⟩) (c_e : PySem.W.codeIn K cd_e "gather_names" = true) (k_e : PySem.W.keepIn K (.ref f_e) = true)
   {f_f : Addr} {od_f an_f : Option Addr} {sl_f : Array (Option Value)} {oc_f kV_f dc_f pm_f cd_f ct_f : Value} (a_f : PySem.W.nsIn K mainGlobals "names_of_all" = some (some (.ref f_f))) (l_f : K.lookup f_f = some ⟨oc_f, od_f, .func (PySem.W.fnOf "names_of_all" "names_of_all" (zV s_f) (zT s_f) (zG s_f) .none kV_f dc_f pm_f an_f cd_f ct_f), sl_f⟩) (c_f : PySem.W.codeIn K cd_f "names_of_all" = true) (k_f : PySem.W.keepIn K (.ref f_f) = true)
   {f_y : Addr} {od_y an_y : Option Addr} {sl_y : Array (Option Value)} {oc_y kV_y dc_y pm_y cd_y ct_y : Value} (a_y : PySem.W.nsIn K mainGlobals "names_of" = some (some (.ref f_y))) (l_y : K.lookup f_y = some ⟨oc_y, od_y, .func (PySem.W.fnOf "names_of" "names_of" (zV s_y) (zT s_y) (zG s_y) .none kV_y dc_y pm_y an_y cd_y ct_y), sl_y⟩) (c_y : PySem.W.codeIn K cd_y "names_of" = true) (k_y : PySem.W.keepIn K (.ref f_y) = true)
   {f_u : Addr} {od_u an_u : Option Addr} {sl_u : Array (Option Value)} {oc_u kV_u dc_u pm_u cd_u ct_u : Value} (a_u : PySem.W.nsIn K mainGlobals "terms_in" = some (some (.ref f_u))) (l_u : K.lookup f_u = some ⟨oc_u, od_u, .func (PySem.W.fnOf "terms_in" "terms_in" (zV s_u) (zT s_u) (zG s_u) .none kV_u dc_u pm_u an_u cd_u ct_u), sl_u⟩) (c_u : PySem.W.codeIn K cd_u "terms_in" = true) (k_u : PySem.W.keepIn K (.ref f_u) = true)
   {f_v : Addr} {od_v an_v : Option Addr} {sl_v : Array (Option Value)} {oc_v kV_v dc_v pm_v cd_v ct_v : Value} (a_v : PySem.W.nsIn K mainGlobals "names_in" = some (some (.ref f_v))) (l_v : K.lookup f_v = some ⟨oc_v, od_v, .func (PySem.W.fnOf "names_in" "names_in" (zV s_v) (zT s_v) (zG s_v) .none kV_v dc_v pm_v an_v cd_v ct_v), sl_v⟩) (c_v : PySem.W.codeIn K cd_v "names_in" = true) (k_v : PySem.W.keepIn K (.ref f_v) = true)
   {f_n : Addr} {od_n an_n : Option Addr} {sl_n : Array (Option Value)} {oc_n kV_n dc_n pm_n cd_n ct_n : Value} (a_n : PySem.W.nsIn K mainGlobals "_law_draw" = some (some (.ref f_n))) (l_n : K.lookup f_n = some ⟨oc_n, od_n, .func (PySem.W.fnOf "_law_draw" "_law_draw" (zV s_n) (zT s_n) (zG s_n) .none kV_n dc_n pm_n an_n cd_n ct_n), sl_n⟩) (c_n : PySem.W.codeIn K cd_n "_law_draw" = true) (k_n : PySem.W.keepIn K (.ref f_n) = true)
   {f_k : Addr} {od_k an_k : Option Addr} {sl_k : Array (Option Value)} {oc_k kV_k dc_k pm_k cd_k ct_k : Value} (a_k : PySem.W.nsIn K mainGlobals "_law_names" = some (some (.ref f_k))) (l_k : K.lookup f_k = some ⟨oc_k, od_k, .func (PySem.W.fnOf "_law_names" "_law_names" (zV s_k) (zT s_k) (zG s_k) .none kV_k dc_k pm_k an_k cd_k ct_k), sl_k⟩) (c_k : PySem.W.codeIn K cd_k "_law_names" = true) (k_k : PySem.W.keepIn K (.ref f_k) = true)
   {f_j : Addr} {od_j an_j : Option Addr} {sl_j : Array (Option Value)} {oc_j kV_j dc_j pm_j cd_j ct_j : Value} (a_j : PySem.W.nsIn K mainGlobals "_law_clashes" = some (some (.ref f_j))) (l_j : K.lookup f_j = some ⟨oc_j, od_j, .func (PySem.W.fnOf "_law_clashes" "_law_clashes" (zV s_j) (zT s_j) (zG s_j) .none kV_j dc_j pm_j an_j cd_j ct_j), sl_j⟩) (c_j : PySem.W.codeIn K cd_j "_law_clashes" = true) (k_j : PySem.W.keepIn K (.ref f_j) = true)
   {f_r : Addr} {od_r an_r : Option Addr} {sl_r : Array (Option Value)} {oc_r kV_r dc_r pm_r cd_r ct_r : Value} (a_r : PySem.W.nsIn K mainGlobals "_law_near" = some (some (.ref f_r))) (l_r : K.lookup f_r = some ⟨oc_r, od_r, .func (PySem.W.fnOf "_law_near" "_law_near" (zV s_r) (zT s_r) (zG s_r) .none kV_r dc_r pm_r an_r cd_r ct_r), sl_r⟩) (c_r : PySem.W.codeIn K cd_r "_law_near" = true) (k_r : PySem.W.keepIn K (.ref f_r) = true)
   {f_h : Addr} {od_h an_h : Option Addr} {sl_h : Array (Option Value)} {oc_h kV_h dc_h pm_h cd_h ct_h : Value} (a_h : PySem.W.nsIn K mainGlobals "_law_counter" = some (some (.ref f_h))) (l_h : K.lookup f_h = some ⟨oc_h, od_h, .func (PySem.W.fnOf "_law_counter" "_law_counter" (zV s_h) (zT s_h) (zG s_h) .none kV_h dc_h pm_h an_h cd_h ct_h), sl_h⟩) (c_h : PySem.W.codeIn K cd_h "_law_counter" = true) (k_h : PySem.W.keepIn K (.ref f_h) = true)
   {f_s : Addr} {od_s an_s : Option Addr} {sl_s : Array (Option Value)} {oc_s kV_s dc_s pm_s cd_s ct_s : Value} (a_s : PySem.W.nsIn K mainGlobals "_law_some" = some (some (.ref f_s))) (l_s : K.lookup f_s = some ⟨oc_s, od_s, .func (PySem.W.fnOf "_law_some" "_law_some" (zV s_s) (zT s_s) (zG s_s) .none kV_s dc_s pm_s an_s cd_s ct_s), sl_s⟩) (c_s : PySem.W.codeIn K cd_s "_law_some" = true) (k_s : PySem.W.keepIn K (.ref f_s) = true)
   {f_l : Addr} {od_l an_l : Option Addr} {sl_l : Array (Option Value)} {oc_l kV_l dc_l pm_l cd_l ct_l : Value} (a_l : PySem.W.nsIn K mainGlobals "_law_worth" = some (some (.ref f_l))) (l_l : K.lookup f_l = some ⟨oc_l, od_l, .func (PySem.W.fnOf "_law_worth" "_law_worth" (zV s_l) (zT s_l) (zG s_l) .none kV_l dc_l pm_l an_l cd_l ct_l), sl_l⟩) (c_l : PySem.W.codeIn K cd_l "_law_worth" = true) (k_l : PySem.W.keepIn K (.ref f_l) = true)
   {f_z : Addr} {od_z an_z : Option Addr} {sl_z : Array (Option Value)} {oc_z kV_z dc_z pm_z cd_z ct_z : Value} (a_z : PySem.W.nsIn K mainGlobals "_law_has" = some (some (.ref f_z))) (l_z : K.lookup f_z = some ⟨oc_z, od_z, .func (PySem.W.fnOf "_law_has" "_law_has" (zV s_z) (zT s_z) (zG s_z) .none kV_z dc_z pm_z an_z cd_z ct_z), sl_z⟩) (c_z : PySem.W.codeIn K cd_z "_law_has" = true) (k_z : PySem.W.keepIn K (.ref f_z) = true)
   {f_D : Addr} {od_D an_D : Option Addr} {sl_D : Array (Option Value)} {oc_D kV_D dc_D pm_D cd_D ct_D : Value} (a_D : PySem.W.nsIn K mainGlobals "_law_in" = some (some (.ref f_D))) (l_D : K.lookup f_D = some ⟨oc_D, od_D, .func (PySem.W.fnOf "_law_in" "_law_in" (zV s_D) (zT s_D) (zG s_D) .none kV_D dc_D pm_D an_D cd_D ct_D), sl_D⟩) (c_D : PySem.W.codeIn K cd_D "_law_in" = true) (k_D : PySem.W.keepIn K (.ref f_D) = true)
   {f_i : Addr} {od_i an_i : Option Addr} {sl_i : Array (Option Value)} {oc_i kV_i dc_i pm_i cd_i ct_i : Value} (a_i : PySem.W.nsIn K mainGlobals "_law_answer" = some (some (.ref f_i))) (l_i : K.lookup f_i = some ⟨oc_i, od_i, .func (PySem.W.fnOf "_law_answer" "_law_answer" (zV s_i) (zT s_i) (zG s_i) .none kV_i dc_i pm_i an_i cd_i ct_i), sl_i⟩) (c_i : PySem.W.codeIn K cd_i "_law_answer" = true) (k_i : PySem.W.keepIn K (.ref f_i) = true)
   {f_C : Addr} {od_C an_C : Option Addr} {sl_C : Array (Option Value)} {oc_C kV_C dc_C pm_C cd_C ct_C : Value} (a_C : PySem.W.nsIn K mainGlobals "_law_due" = some (some (.ref f_C))) (l_C : K.lookup f_C = some ⟨oc_C, od_C, .func (PySem.W.fnOf "_law_due" "_law_due" (zV s_C) (zT s_C) (zG s_C) .none kV_C dc_C pm_C an_C cd_C ct_C), sl_C⟩) (c_C : PySem.W.codeIn K cd_C "_law_due" = true) (k_C : PySem.W.keepIn K (.ref f_C) = true)
   {f_m : Addr} {od_m an_m : Option Addr} {sl_m : Array (Option Value)} {oc_m kV_m dc_m pm_m cd_m ct_m : Value} (a_m : PySem.W.nsIn K mainGlobals "_law_pushed" = some (some (.ref f_m))) (l_m : K.lookup f_m = some ⟨oc_m, od_m, .func (PySem.W.fnOf "_law_pushed" "_law_pushed" (zV s_m) (zT s_m) (zG s_m) .none kV_m dc_m pm_m an_m cd_m ct_m), sl_m⟩) (c_m : PySem.W.codeIn K cd_m "_law_pushed" = true) (k_m : PySem.W.keepIn K (.ref f_m) = true)
   {f_p : Addr} {od_p an_p : Option Addr} {sl_p : Array (Option Value)} {oc_p kV_p dc_p pm_p cd_p ct_p : Value} (a_p : PySem.W.nsIn K mainGlobals "_law_term" = some (some (.ref f_p))) (l_p : K.lookup f_p = some ⟨oc_p, od_p, .func (PySem.W.fnOf "_law_term" "_law_term" (zV s_p) (zT s_p) (zG s_p) .none kV_p dc_p pm_p an_p cd_p ct_p), sl_p⟩) (c_p : PySem.W.codeIn K cd_p "_law_term" = true) (k_p : PySem.W.keepIn K (.ref f_p) = true)
   {f_o : Addr} {od_o an_o : Option Addr} {sl_o : Array (Option Value)} {oc_o kV_o dc_o pm_o cd_o ct_o : Value} (a_o : PySem.W.nsIn K mainGlobals "_law_world" = some (some (.ref f_o))) (l_o : K.lookup f_o = some ⟨oc_o, od_o, .func (PySem.W.fnOf "_law_world" "_law_world" (zV s_o) (zT s_o) (zG s_o) .none kV_o dc_o pm_o an_o cd_o ct_o), sl_o⟩) (c_o : PySem.W.codeIn K cd_o "_law_world" = true) (k_o : PySem.W.keepIn K (.ref f_o) = true)
   {f_w : Addr} {od_w an_w : Option Addr} {sl_w : Array (Option Value)} {oc_w kV_w dc_w pm_w cd_w ct_w : Value} (a_w : PySem.W.nsIn K mainGlobals "_law_copy" = some (some (.ref f_w))) (l_w : K.lookup f_w = some ⟨oc_w, od_w, .func (PySem.W.fnOf "_law_copy" "_law_copy" (zV s_w) (zT s_w) (zG s_w) .none kV_w dc_w pm_w an_w cd_w ct_w), sl_w⟩) (c_w : PySem.W.codeIn K cd_w "_law_copy" = true) (k_w : PySem.W.keepIn K (.ref f_w) = true)
   {f_t : Addr} {od_t an_t : Option Addr} {sl_t : Array (Option Value)} {oc_t kV_t dc_t pm_t cd_t ct_t : Value} (a_t : PySem.W.nsIn K mainGlobals "_law_sets" = some (some (.ref f_t))) (l_t : K.lookup f_t = some ⟨oc_t, od_t, .func (PySem.W.fnOf "_law_sets" "_law_sets" (zV s_t) (zT s_t) (zG s_t) .none kV_t dc_t pm_t an_t cd_t ct_t), sl_t⟩) (c_t : PySem.W.codeIn K cd_t "_law_sets" = true) (k_t : PySem.W.keepIn K (.ref f_t) = true)
   {f_G : Addr} {od_G an_G : Option Addr} {sl_G : Array (Option Value)} {oc_G kV_G dc_G pm_G cd_G ct_G : Value} (a_G : PySem.W.nsIn K mainGlobals "law" = some (some (.ref f_G))) (l_G : K.lookup f_G = some ⟨oc_G, od_G, .func (PySem.W.fnOf "law" "law" (zV s_G) (zT s_G) (zG s_G) .none kV_G dc_G pm_G an_G cd_G ct_G), sl_G⟩) (c_G : PySem.W.codeIn K cd_G "law" = true) (k_G : PySem.W.keepIn K (.ref f_G) = true)
    (z_any : PySem.W.nsIn K mainGlobals "any" = some none)
   {C_ClashError : Addr} (a_ClashError : PySem.W.nsIn K mainGlobals "ClashError" = some (some (.ref C_ClashError)))
   {C_NoText : Addr} (a_NoText : PySem.W.nsIn K mainGlobals "NoText" = some (some (.ref C_NoText)))
   {C_NoName : Addr} (a_NoName : PySem.W.nsIn K mainGlobals "NoName" = some (some (.ref C_NoName)))
   {C_NoRule : Addr} (a_NoRule : PySem.W.nsIn K mainGlobals "NoRule" = some (some (.ref C_NoRule)))
   {C_NoRow : Addr} (a_NoRow : PySem.W.nsIn K mainGlobals "NoRow" = some (some (.ref C_NoRow)))
   {C_NoMiddle : Addr} (a_NoMiddle : PySem.W.nsIn K mainGlobals "NoMiddle" = some (some (.ref C_NoMiddle)))
   {C_TooMuch : Addr} (a_TooMuch : PySem.W.nsIn K mainGlobals "TooMuch" = some (some (.ref C_TooMuch)))
    (z_ValueError : PySem.W.nsIn K mainGlobals "ValueError" = some none)
    (ei_NoName : PySem.W.excIn K C_NoName [.type "ValueError", .type "Exception", .type "BaseException", .type "object"] "ValueError.__new__" = true) (x1_NoName : (PySem.W.clsIn K C_NoName).isSome = true) (x2_NoName : PySem.W.findIn K (.ref C_NoName) "__getattribute__" = some (some (.builtin "BaseException.__getattribute__"))) (x3_NoName : PySem.W.findIn K (.ref C_NoName) "__getattr__" = some none) (x4_NoName : PySem.W.findIn K (.ref C_NoName) "__class__" = some (some (.builtin "object.__class__"))) (x5_NoName : PySem.W.specialIn K (.builtin "object.__class__") "__get__" = some (some (.builtin "getset_descriptor.__get__"))) (x6_NoName : PySem.W.takesIn K (.builtin "object.__class__") = some true) (x7_NoName : PySem.W.mroIn K C_NoName (.type "object") = some true) (x8_NoName : PySem.W.mroIn K C_NoName (.type "BaseException") = some true) (xb_NoName : xSub K C_ClashError (.type "BaseException") = some true) (xt_NoName : xSub K C_NoName (.ref C_ClashError) = some true) (kv_NoName : PySem.W.kitOne K (.ref C_NoName) (.type "ValueError") = some true)
    (ko_NoName_NoText : PySem.W.kitOne K (.ref C_NoName) (.ref C_NoText) = some false)
    (ko_NoName_NoName : PySem.W.kitOne K (.ref C_NoName) (.ref C_NoName) = some true)
    (ko_NoName_NoRule : PySem.W.kitOne K (.ref C_NoName) (.ref C_NoRule) = some false)
    (ko_NoName_NoRow : PySem.W.kitOne K (.ref C_NoName) (.ref C_NoRow) = some false)
    (ko_NoName_NoMiddle : PySem.W.kitOne K (.ref C_NoName) (.ref C_NoMiddle) = some false)
    (ko_NoName_TooMuch : PySem.W.kitOne K (.ref C_NoName) (.ref C_TooMuch) = some false)
   (z_all : PySem.W.nsIn K mainGlobals "all" = some none)
   (z_bool : PySem.W.nsIn K mainGlobals "bool" = some none)
   (z_dict : PySem.W.nsIn K mainGlobals "dict" = some none)
   (z_int : PySem.W.nsIn K mainGlobals "int" = some none)
   (z_isinstance : PySem.W.nsIn K mainGlobals "isinstance" = some none)
   (z_len : PySem.W.nsIn K mainGlobals "len" = some none)
   (z_list : PySem.W.nsIn K mainGlobals "list" = some none)
   (z_max : PySem.W.nsIn K mainGlobals "max" = some none)
   (z_range : PySem.W.nsIn K mainGlobals "range" = some none)
   (z_set : PySem.W.nsIn K mainGlobals "set" = some none)
   (z_sorted : PySem.W.nsIn K mainGlobals "sorted" = some none)
   (z_str : PySem.W.nsIn K mainGlobals "str" = some none)
   (z_sum : PySem.W.nsIn K mainGlobals "sum" = some none)
   (z_tuple : PySem.W.nsIn K mainGlobals "tuple" = some none) :
   ∃ fd : FuncData, (∀ (s : Shared) (v : Value), BindsTo s fd ⟨[v], []⟩ [("script", v)]) /\ ∀ base : Heap, K.In base -> base.Ns mainGlobals mg -> FnOk l.prog w K mg base CX0 65 fa fd ["script"] (spLaw K) := by
 have e := hfa.symm.trans (PySem.W.mg_of X G a_G)
 cases e
 have cl_Floor : Cls K C_Floor := ⟨pg_Floor, hd_Floor, po_Floor, sa_Floor⟩
 have mC_Floor := PySem.W.mg_of X G aC_Floor
 have F_g := zY (st := s_g) l_g c_g k_g
 have b_g := F_g.binds (ps := ["self", "many", "clashes"]) fun _ _ _ _ _ _ us hl => by obtain ⟨u0, u1, u2, rfl⟩ := ln3 hl; rfl
 have t_g : Meth K C_Floor "__init__" f_g := ⟨a_g, i_g, k_g⟩
 have F_b := zY (st := s_b) l_b c_b k_b
 have b_b := F_b.binds (ps := ["self", "sets"]) fun _ _ _ _ _ _ us hl => by obtain ⟨u0, u1, rfl⟩ := ln2 hl; rfl
 have t_b : Meth K C_Floor "common_of" f_b := ⟨a_b, i_b, k_b⟩
 have F_a := zY (st := s_a) l_a c_a k_a
 have b_a := F_a.binds (ps := ["self", "spots"]) fun _ _ _ _ _ _ us hl => by obtain ⟨u0, u1, rfl⟩ := ln2 hl; rfl
 have t_a : Meth K C_Floor "counter_of" f_a := ⟨a_a, i_a, k_a⟩
 have F_c := zY (st := s_c) l_c c_c k_c
 have b_c := F_c.binds (ps := ["self", "sets", "t"]) fun _ _ _ _ _ _ us hl => by obtain ⟨u0, u1, u2, rfl⟩ := ln3 hl; rfl
 have t_c : Meth K C_Floor "value_of" f_c := ⟨a_c, i_c, k_c⟩
 have F_d := zY (st := s_d) l_d c_d k_d
 have b_d := F_d.binds (ps := ["self", "sets", "saying"]) fun _ _ _ _ _ _ us hl => by obtain ⟨u0, u1, u2, rfl⟩ := ln3 hl; rfl
 have t_d : Meth K C_Floor "is_under" f_d := ⟨a_d, i_d, k_d⟩
 have F_B := zY (st := s_B) l_B c_B k_B
 have b_B := F_B.binds (ps := ["numbers"]) fun _ _ _ _ _ _ us hl => by obtain ⟨u0, rfl⟩ := ln1 hl; rfl
 have m_B := PySem.W.mg_of X G a_B
 have F_A := zY (st := s_A) l_A c_A k_A
 have b_A := F_A.binds (ps := ["mask"]) fun _ _ _ _ _ _ us hl => by obtain ⟨u0, rfl⟩ := ln1 hl; rfl
 have m_A := PySem.W.mg_of X G a_A
 have F_q := zY (st := s_q) l_q c_q k_q
 have b_q := F_q.binds (ps := ["world", "names"]) fun _ _ _ _ _ _ us hl => by obtain ⟨u0, u1, rfl⟩ := ln2 hl; rfl
 have m_q := PySem.W.mg_of X G a_q
 have F_E := zY (st := s_E) l_E c_E k_E
 have b_E := F_E.binds (ps := ["world", "t"]) fun _ _ _ _ _ _ us hl => by obtain ⟨u0, u1, rfl⟩ := ln2 hl; rfl
 have m_E := PySem.W.mg_of X G a_E
 have F_F := zY (st := s_F) l_F c_F k_F
 have b_F := F_F.binds (ps := ["world", "saying"]) fun _ _ _ _ _ _ us hl => by obtain ⟨u0, u1, rfl⟩ := ln2 hl; rfl
 have m_F := PySem.W.mg_of X G a_F
 have F_H := zY (st := s_H) l_H c_H k_H
 have b_H := F_H.binds (ps := ["world", "rule"]) fun _ _ _ _ _ _ us hl => by obtain ⟨u0, u1, rfl⟩ := ln2 hl; rfl
 have m_H := PySem.W.mg_of X G a_H
 have F_x := zY (st := s_x) l_x c_x k_x
 have b_x := F_x.binds (ps := ["t"]) fun _ _ _ _ _ _ us hl => by obtain ⟨u0, rfl⟩ := ln1 hl; rfl
 have m_x := PySem.W.mg_of X G a_x
 have F_e := zY (st := s_e) l_e c_e k_e
 have b_e := F_e.binds (ps := ["t", "found"]) fun _ _ _ _ _ _ us hl => by obtain ⟨u0, u1, rfl⟩ := ln2 hl; rfl
 have m_e := PySem.W.mg_of X G a_e
 have F_f := zY (st := s_f) l_f c_f k_f
 have b_f := F_f.binds (ps := ["terms"]) fun _ _ _ _ _ _ us hl => by obtain ⟨u0, rfl⟩ := ln1 hl; rfl
 have m_f := PySem.W.mg_of X G a_f
 have F_y := zY (st := s_y) l_y c_y k_y
 have b_y := F_y.binds (ps := ["t"]) fun _ _ _ _ _ _ us hl => by obtain ⟨u0, rfl⟩ := ln1 hl; rfl
 have m_y := PySem.W.mg_of X G a_y
 have F_u := zY (st := s_u) l_u c_u k_u
 have b_u := F_u.binds (ps := ["book", "saying"]) fun _ _ _ _ _ _ us hl => by obtain ⟨u0, u1, rfl⟩ := ln2 hl; rfl
 have m_u := PySem.W.mg_of X G a_u
 have F_v := zY (st := s_v) l_v c_v k_v
 have b_v := F_v.binds (ps := ["book", "saying"]) fun _ _ _ _ _ _ us hl => by obtain ⟨u0, u1, rfl⟩ := ln2 hl; rfl
 have m_v := PySem.W.mg_of X G a_v
 have F_n := zY (st := s_n) l_n c_n k_n
 have b_n := F_n.binds (ps := ["script", "k"]) fun _ _ _ _ _ _ us hl => by obtain ⟨u0, u1, rfl⟩ := ln2 hl; rfl
 have m_n := PySem.W.mg_of X G a_n
 have F_k := zY (st := s_k) l_k c_k k_k
 have b_k := F_k.binds (ps := ["script", "k", "many"]) fun _ _ _ _ _ _ us hl => by obtain ⟨u0, u1, u2, rfl⟩ := ln3 hl; rfl
 have m_k := PySem.W.mg_of X G a_k
 have F_j := zY (st := s_j) l_j c_j k_j
 have b_j := F_j.binds (ps := ["spell", "many"]) fun _ _ _ _ _ _ us hl => by obtain ⟨u0, u1, rfl⟩ := ln2 hl; rfl
 have m_j := PySem.W.mg_of X G a_j
 have F_r := zY (st := s_r) l_r c_r k_r
 have b_r := F_r.binds (ps := ["many", "pairs"]) fun _ _ _ _ _ _ us hl => by obtain ⟨u0, u1, rfl⟩ := ln2 hl; rfl
 have m_r := PySem.W.mg_of X G a_r
 have F_h := zY (st := s_h) l_h c_h k_h
 have b_h := F_h.binds (ps := ["near", "spots"]) fun _ _ _ _ _ _ us hl => by obtain ⟨u0, u1, rfl⟩ := ln2 hl; rfl
 have m_h := PySem.W.mg_of X G a_h
 have F_s := zY (st := s_s) l_s c_s k_s
 have b_s := F_s.binds (ps := ["cell", "many"]) fun _ _ _ _ _ _ us hl => by obtain ⟨u0, u1, rfl⟩ := ln2 hl; rfl
 have m_s := PySem.W.mg_of X G a_s
 have F_l := zY (st := s_l) l_l c_l k_l
 have b_l := F_l.binds (ps := ["near", "sets", "t"]) fun _ _ _ _ _ _ us hl => by obtain ⟨u0, u1, u2, rfl⟩ := ln3 hl; rfl
 have m_l := PySem.W.mg_of X G a_l
 have F_z := zY (st := s_z) l_z c_z k_z
 have b_z := F_z.binds (ps := ["t", "name"]) fun _ _ _ _ _ _ us hl => by obtain ⟨u0, u1, rfl⟩ := ln2 hl; rfl
 have m_z := PySem.W.mg_of X G a_z
 have F_D := zY (st := s_D) l_D c_D k_D
 have b_D := F_D.binds (ps := ["near", "sets", "saying"]) fun _ _ _ _ _ _ us hl => by obtain ⟨u0, u1, u2, rfl⟩ := ln3 hl; rfl
 have m_D := PySem.W.mg_of X G a_D
 have F_i := zY (st := s_i) l_i c_i k_i
 have b_i := F_i.binds (ps := ["way", "world", "thing"]) fun _ _ _ _ _ _ us hl => by obtain ⟨u0, u1, u2, rfl⟩ := ln3 hl; rfl
 have m_i := PySem.W.mg_of X G a_i
 have F_C := zY (st := s_C) l_C c_C k_C
 have b_C := F_C.binds (ps := ["answer", "refused", "due"]) fun _ _ _ _ _ _ us hl => by obtain ⟨u0, u1, u2, rfl⟩ := ln3 hl; rfl
 have m_C := PySem.W.mg_of X G a_C
 have F_m := zY (st := s_m) l_m c_m k_m
 have b_m := F_m.binds (ps := ["stack", "cell", "names"]) fun _ _ _ _ _ _ us hl => by obtain ⟨u0, u1, u2, rfl⟩ := ln3 hl; rfl
 have m_m := PySem.W.mg_of X G a_m
 have F_p := zY (st := s_p) l_p c_p k_p
 have b_p := F_p.binds (ps := ["script", "k", "many", "names"]) fun _ _ _ _ _ _ us hl => by obtain ⟨u0, u1, u2, u3, rfl⟩ := ln4 hl; rfl
 have m_p := PySem.W.mg_of X G a_p
 have F_o := zY (st := s_o) l_o c_o k_o
 have b_o := F_o.binds (ps := ["script", "k", "names"]) fun _ _ _ _ _ _ us hl => by obtain ⟨u0, u1, u2, rfl⟩ := ln3 hl; rfl
 have m_o := PySem.W.mg_of X G a_o
 have F_w := zY (st := s_w) l_w c_w k_w
 have b_w := F_w.binds (ps := ["world"]) fun _ _ _ _ _ _ us hl => by obtain ⟨u0, rfl⟩ := ln1 hl; rfl
 have m_w := PySem.W.mg_of X G a_w
 have F_t := zY (st := s_t) l_t c_t k_t
 have b_t := F_t.binds (ps := ["world"]) fun _ _ _ _ _ _ us hl => by obtain ⟨u0, rfl⟩ := ln1 hl; rfl
 have m_t := PySem.W.mg_of X G a_t
 have F_G := zY (st := s_G) l_G c_G k_G
 have b_G := F_G.binds (ps := ["script"]) fun _ _ _ _ _ _ us hl => by obtain ⟨u0, rfl⟩ := ln1 hl; rfl
 have m_G := PySem.W.mg_of X G a_G
 have bi : Bi mg := ⟨PySem.W.mg_none_of X G z_len, PySem.W.mg_none_of X G z_range, PySem.W.mg_none_of X G z_isinstance, PySem.W.mg_none_of X G z_max, PySem.W.mg_none_of X G z_sum, PySem.W.mg_none_of X G z_all, PySem.W.mg_none_of X G z_tuple, PySem.W.mg_none_of X G z_list, PySem.W.mg_none_of X G z_sorted, PySem.W.mg_none_of X G z_set, PySem.W.mg_none_of X G z_int, PySem.W.mg_none_of X G z_bool, PySem.W.mg_none_of X G z_str, PySem.W.mg_none_of X G z_dict⟩
 refine ⟨PySem.W.fnOf "law" "law" (zV s_G) (zT s_G) (zG s_G) .none kV_G dc_G pm_G an_G cd_G ct_G, fun s v => .of_eq rfl, fun base Xb Gb => ?_⟩
 have ban : mg "any" = none := PySem.W.mg_none_of X G z_any
 have T : FlC K C_Floor := ⟨cl_Floor, n_Floor_everywhere, n_Floor_clashing⟩
 have m_NoName := PySem.W.mg_of X G a_NoName
 have Er : Errs K mg C_ClashError C_NoName C_NoText C_NoRule C_NoRow C_NoMiddle C_TooMuch := ⟨PySem.W.mg_of X G a_ClashError, xb_NoName, xt_NoName, ⟨x1_NoName, x2_NoName, x3_NoName, x4_NoName, x5_NoName, x6_NoName, x7_NoName, x8_NoName⟩, PySem.W.mg_none_of X G z_ValueError, ⟨_, m_NoName, rfl⟩, ⟨_, PySem.W.mg_of X G a_NoText, rfl⟩, ⟨_, PySem.W.mg_of X G a_NoRule, rfl⟩, ⟨_, PySem.W.mg_of X G a_NoRow, rfl⟩, ⟨_, PySem.W.mg_of X G a_NoMiddle, rfl⟩, ⟨_, PySem.W.mg_of X G a_TooMuch, rfl⟩, kv_NoName, ko_NoName_NoName, ko_NoName_NoText, ko_NoName_NoRule, ko_NoName_NoRow, ko_NoName_NoMiddle, ko_NoName_TooMuch⟩
 have O_NoName := own_mk (x := "NoName") (mg := mg) Xb m_NoName ei_NoName
 have h1 := yH F_B (ok_mask_of (P := l.prog) (w := w) (base := base) bi F_B) b_B m_B
 have h2 := yH F_A (ok_bits_of (P := l.prog) (w := w) (base := base) bi F_A) b_A m_A
 have h3 : HasI l.prog w K mg base 1 C_Floor "Floor" ["self", "many", "clashes"] (spFI C_Floor) := ⟨_, _, ok_finit T F_g, b_g, ⟨mk_Floor, a_g, i_g, kc_Floor⟩, mC_Floor⟩
 have h4 : HasM l.prog w K mg base 1 C_Floor "common_of" ["self", "sets"] (spCo K C_Floor) := ⟨_, _, ok_common T F_b, b_b, t_b⟩
 have h5 : HasM l.prog w K mg base 2 C_Floor "counter_of" ["self", "spots"] (spCn C_Floor) := ⟨_, _, vF T bi h2 h4 F_a, b_a, t_a⟩
 have h6 : HasM l.prog w K mg base 23 C_Floor "value_of" ["self", "sets", "t"] (spVo C_Floor 23) := ⟨_, _, ok_value_of T bi h4 h5 F_c b_c t_c 23, b_c, t_c⟩
 have h6u : HasM l.prog w K mg base 24 C_Floor "is_under" ["self", "sets", "saying"] (spUn C_Floor) := ⟨_, _, ok_is_under T bi h6 F_d, b_d, t_d⟩
 have h7 := yH F_n (ok_draw (P := l.prog) (w := w) (base := base) bi F_n) b_n m_n
 have h9 := yH F_j (ok_clashes (P := l.prog) (w := w) (base := base) bi F_j) b_j m_j
 have h10 := yH F_r (ok_near (P := l.prog) (w := w) (base := base) bi F_r) b_r m_r
 have h11 := yH F_h (ok_lcounter (P := l.prog) (w := w) (base := base) bi F_h) b_h m_h
 have h12 := yH F_s (ok_some (P := l.prog) (w := w) (base := base) bi F_s) b_s m_s
 have h14 := yH F_k (ok_names bi h7 F_k) b_k m_k
 have h15 := yH F_m (ok_pushed (P := l.prog) (w := w) (base := base) bi F_m) b_m m_m
 have h16 := yH F_p (ok_term bi h7 h15 F_p) b_p m_p
 have h17 := yH F_x (ok_parts_of (P := l.prog) (w := w) (base := base) bi F_x) b_x m_x
 have h18 := yH F_e (qX bi h17 F_e b_e m_e 22) b_e m_e
 have h19 := yH F_f (qW bi h18 F_f) b_f m_f
 have h20 := yH F_y (ok_names_of bi h19 F_y) b_y m_y
 have h20t := yH F_u (ok_terms_in (P := l.prog) (w := w) (base := base) bi F_u) b_u m_u
 have h20n := yH F_v (ok_names_in bi h19 h20t F_v) b_v m_v
 have h21 := uE F_q (ok_sets_for (P := l.prog) (w := w) O_NoName PySem.F.excBase_ValueError m_NoName bi h1 F_q) b_q m_q
 have h22 := uE F_E (ok_value T bi h21 h20 h2 h3 h6 F_E) b_E m_E
 have h22h := uE F_F (ok_holds T bi h21 h20n h3 h6u F_F) b_F m_F
 have h22f := uE F_H (ok_fits T bi h21 h20n h3 h6u F_H) b_H m_H
 have h23 := yH F_l (ok_lworth bi h11 F_l b_l m_l 22) b_l m_l
 have h24 := yH F_o (ok_world bi h7 h9 h10 h12 h11 F_o) b_o m_o
 have h25 := yH F_w (ok_copy (P := l.prog) (w := w) (base := base) bi F_w) b_w m_w
 have h26 := yH F_t (ok_sets (P := l.prog) (w := w) (base := base) bi F_t) b_t m_t
 have h27 := yH F_z (ok_has (P := l.prog) (w := w) (base := base) bi ban F_z b_z m_z 22) b_z m_z
 have h28 := yH F_D (ok_in bi h23 F_D) b_D m_D
 have h29 := yH F_i (ok_answer Er bi h22h h22f h22 F_i) b_i m_i
 have h30 := yH F_C (ok_due (P := l.prog) (w := w) (base := base) bi F_C) b_C m_C
 exact ok_law bi h7 h14 h24 h10 h26 h16 h25 h23 h28 h27 h29 h30 F_G
theorem walk {l : PySem.W.OpenLaw} {q : Program} {loose : List Str} {XP : (Str -> Option Value) -> Heap -> Prop} {YP : World -> Heap -> Prop} {d : DefRec} {K : Params -> PySem.W.Frag} (hn : l.most = some 63) (hdf : d.params.defaults = [])
   (hY : ∀ (w : World) (h : Heap), YP w h -> (K w.params).In h)
   (F : ∀ (w : World) (mg : Str -> Option Value) (fa : Addr) (h : Heap), (K w.params).In h -> h.Ns mainGlobals mg -> mg d.name = some (.ref fa) ->
     ∃ fd : FuncData, (∀ (s : Shared) (u : Value), BindsTo s fd ⟨[u], []⟩ [("script", u)]) /\ ∀ base : Heap, (K w.params).In base -> base.Ns mainGlobals mg -> FnOk l.prog w (K w.params) mg base CX0 65 fa fd ["script"] (spLaw (K w.params))) :
   PySem.W.WalkO q loose XP YP l.row.toRowW d [] (fun f vs => PySem.call f vs) :=
 L2.walk_of (n := 63) (k := 65) (x := "script") (CX := fun _ => CX0) (sp := fun w => spLaw (K w.params)) hn (by decide) hdf ⟨rfl, by decide, by decide⟩ hY F (fun _ _ a ns hl _ hS => ⟨a, ns, rfl, hS, hl, fun _ => rfl⟩) fun _ _ _ _ _ z => z
end C
open PySem PySem.W PyProof.Rows
set_option maxRecDepth 100000 in
set_option maxHeartbeats 0 in
theorem PySem.Challenge.cw_clashbook_k25_what_holds_holds : PySem.Challenge.rw_clashbook_k25_what_holds.Holds := by
 w_on; o_law; k_head; (case hw => w_witness2)
 k_fill
 refine C.walk (l := PySem.Challenge.rw_clashbook_k25_what_holds) rfl rfl (fun w h Y => PySem.W.kIn_of Y) ?F
 case F =>
   intro w mg fa h KX G hmg
   refine' C.all_mk KX G hmg ?aC_Floor ?a_g ?i_g ?l_g ?c_g ?k_g ?a_b ?i_b ?l_b ?c_b ?k_b ?a_a ?i_a ?l_a ?c_a ?k_a ?a_c ?i_c ?l_c ?c_c ?k_c ?a_d ?i_d ?l_d ?c_d ?k_d ?pg_Floor ?hd_Floor ?po_Floor ?sa_Floor ?mk_Floor ?kc_Floor ?n_Floor_everywhere ?n_Floor_clashing ?a_B ?l_B ?c_B ?k_B ?a_A ?l_A ?c_A ?k_A ?a_q ?l_q ?c_q ?k_q ?a_E ?l_E ?c_E ?k_E ?a_F ?l_F ?c_F ?k_F ?a_H ?l_H ?c_H ?k_H ?a_x ?l_x ?c_x ?k_x ?a_e ?l_e ?c_e ?k_e ?a_f ?l_f ?c_f ?k_f ?a_y ?l_y ?c_y ?k_y ?a_u ?l_u ?c_u ?k_u ?a_v ?l_v ?c_v ?k_v ?a_n ?l_n ?c_n ?k_n ?a_k ?l_k ?c_k ?k_k ?a_j ?l_j ?c_j ?k_j ?a_r ?l_r ?c_r ?k_r ?a_h ?l_h ?c_h ?k_h ?a_s ?l_s ?c_s ?k_s ?a_l ?l_l ?c_l ?k_l ?a_z ?l_z ?c_z ?k_z ?a_D ?l_D ?c_D ?k_D ?a_i ?l_i ?c_i ?k_i ?a_C ?l_C ?c_C ?k_C ?a_m ?l_m ?c_m ?k_m ?a_p ?l_p ?c_p ?k_p ?a_o ?l_o ?c_o ?k_o ?a_w ?l_w ?c_w ?k_w ?a_t ?l_t ?c_t ?k_t ?a_G ?l_G ?c_G ?k_G ?z_any ?a_ClashError ?a_NoText ?a_NoName ?a_NoRule ?a_NoRow ?a_NoMiddle ?a_TooMuch ?z_ValueError ?ei_NoName ?x1_NoName ?x2_NoName ?x3_NoName ?x4_NoName ?x5_NoName ?x6_NoName ?x7_NoName ?x8_NoName ?xb_NoName ?xt_NoName ?kv_NoName ?ko_NoName_NoText ?ko_NoName_NoName ?ko_NoName_NoRule ?ko_NoName_NoRow ?ko_NoName_NoMiddle ?ko_NoName_TooMuch ?z_all ?z_bool ?z_dict ?z_int ?z_isinstance ?z_len ?z_list ?z_max ?z_range ?z_set ?z_sorted ?z_str ?z_sum ?z_tuple
   (case aC_Floor => k_is); (case a_g => k_is); (case i_g => k_is); (case l_g => k_is)
   (case c_g => k_is); (case k_g => k_is); (case a_b => k_is); (case i_b => k_is)
   (case l_b => k_is); (case c_b => k_is); (case k_b => k_is); (case a_a => k_is)
   (case i_a => k_is); (case l_a => k_is); (case c_a => k_is); (case k_a => k_is)
   (case a_c => k_is); (case i_c => k_is); (case l_c => k_is); (case c_c => k_is)
   (case k_c => k_is); (case a_d => k_is); (case i_d => k_is); (case l_d => k_is)
   (case c_d => k_is); (case k_d => k_is); (case pg_Floor => k_is); (case hd_Floor => k_is)
   (case po_Floor => k_is); (case sa_Floor => k_is); (case mk_Floor => k_is); (case kc_Floor => k_is)
   (case n_Floor_everywhere => k_is); (case n_Floor_clashing => k_is); (case a_B => k_is); (case l_B => k_is)
   (case c_B => k_is); (case k_B => k_is); (case a_A => k_is); (case l_A => k_is)
   (case c_A => k_is); (case k_A => k_is); (case a_q => k_is); (case l_q => k_is)
   (case c_q => k_is); (case k_q => k_is); (case a_E => k_is); (case l_E => k_is)
   (case c_E => k_is); (case k_E => k_is); (case a_F => k_is); (case l_F => k_is)
   (case c_F => k_is); (case k_F => k_is); (case a_H => k_is); (case l_H => k_is)
   (case c_H => k_is); (case k_H => k_is); (case a_x => k_is); (case l_x => k_is)
   (case c_x => k_is); (case k_x => k_is); (case a_e => k_is); (case l_e => k_is)
   (case c_e => k_is); (case k_e => k_is); (case a_f => k_is); (case l_f => k_is)
   (case c_f => k_is); (case k_f => k_is); (case a_y => k_is); (case l_y => k_is)
   (case c_y => k_is); (case k_y => k_is); (case a_u => k_is); (case l_u => k_is)
   (case c_u => k_is); (case k_u => k_is); (case a_v => k_is); (case l_v => k_is)
   (case c_v => k_is); (case k_v => k_is); (case a_n => k_is); (case l_n => k_is)
   (case c_n => k_is); (case k_n => k_is); (case a_k => k_is); (case l_k => k_is)
   (case c_k => k_is); (case k_k => k_is); (case a_j => k_is); (case l_j => k_is)
   (case c_j => k_is); (case k_j => k_is); (case a_r => k_is); (case l_r => k_is)
   (case c_r => k_is); (case k_r => k_is); (case a_h => k_is); (case l_h => k_is)
   (case c_h => k_is); (case k_h => k_is); (case a_s => k_is); (case l_s => k_is)
   (case c_s => k_is); (case k_s => k_is); (case a_l => k_is); (case l_l => k_is)
   (case c_l => k_is); (case k_l => k_is); (case a_z => k_is); (case l_z => k_is)
   (case c_z => k_is); (case k_z => k_is); (case a_D => k_is); (case l_D => k_is)
   (case c_D => k_is); (case k_D => k_is); (case a_i => k_is); (case l_i => k_is)
   (case c_i => k_is); (case k_i => k_is); (case a_C => k_is); (case l_C => k_is)
   (case c_C => k_is); (case k_C => k_is); (case a_m => k_is); (case l_m => k_is)
   (case c_m => k_is); (case k_m => k_is); (case a_p => k_is); (case l_p => k_is)
   (case c_p => k_is); (case k_p => k_is); (case a_o => k_is); (case l_o => k_is)
   (case c_o => k_is); (case k_o => k_is); (case a_w => k_is); (case l_w => k_is)
   (case c_w => k_is); (case k_w => k_is); (case a_t => k_is); (case l_t => k_is)
   (case c_t => k_is); (case k_t => k_is); (case a_G => k_is); (case l_G => k_is)
   (case c_G => k_is); (case k_G => k_is); (case z_any => k_is); (case a_ClashError => k_is)
   (case a_NoText => k_is); (case a_NoName => k_is); (case a_NoRule => k_is); (case a_NoRow => k_is)
   (case a_NoMiddle => k_is); (case a_TooMuch => k_is); (case z_ValueError => k_is); (case ei_NoName => first | k_is | kernel_rfl)
   (case x1_NoName => first | k_is | kernel_rfl); (case x2_NoName => first | k_is | kernel_rfl); (case x3_NoName => first | k_is | kernel_rfl); (case x4_NoName => first | k_is | kernel_rfl)
   (case x5_NoName => first | k_is | kernel_rfl); (case x6_NoName => first | k_is | kernel_rfl); (case x7_NoName => first | k_is | kernel_rfl); (case x8_NoName => first | k_is | kernel_rfl)
   (case xb_NoName => first | k_is | kernel_rfl); (case xt_NoName => first | k_is | kernel_rfl); (case kv_NoName => first | k_is | kernel_rfl); (case ko_NoName_NoText => first | k_is | kernel_rfl)
   (case ko_NoName_NoName => first | k_is | kernel_rfl); (case ko_NoName_NoRule => first | k_is | kernel_rfl); (case ko_NoName_NoRow => first | k_is | kernel_rfl); (case ko_NoName_NoMiddle => first | k_is | kernel_rfl)
   (case ko_NoName_TooMuch => first | k_is | kernel_rfl); (case z_all => k_is); (case z_bool => k_is); (case z_dict => k_is)
   (case z_int => k_is); (case z_isinstance => k_is); (case z_len => k_is); (case z_list => k_is)
   (case z_max => k_is); (case z_range => k_is); (case z_set => k_is); (case z_sorted => k_is)
   (case z_str => k_is); (case z_sum => k_is); (case z_tuple => k_is)
#print axioms PySem.Challenge.cw_clashbook_k25_what_holds_holds
