import PyProof.Rows.All
import Wide.All
import OpenK.AllK
import Wide.FinOn
import Lean
import PyProof.EqAt
import PyProof.EqKinds
import PyProof.TupleCall
import PyProof.FitsReplace
import PyProof.StrLawsChain
import PyProof.IsiH_list
import KE.KDictOf
import PyProof.Rows.Exc
import PyProof.RulesTry
import PyProof.ForAppend
import PyProof.Rows.Tup
import PyProof.CollectWalk
import PyProof.Rows.DictListVals
import PyProof.AutoSeq1
import PyProof.FactsAll.list_3
import KE.KDictSum
import PyProof.Rows.SortStr
import PyProof.Rows.SortWalk
import PyProof.SetKind
import PyProof.Rows.SetObj
import PyProof.DictKinds
import PyProof.DictIter
import PyProof.MakeMany
import PyProof.WalksS
import PyProof.Walks
import PyProof.Seq
import PyProof.TupleIter
import PyProof.FactsAll.set_1
import PyProof.ForAny
import PyProof.Rows.SetFrom
import PyProof.Rows.StrMeet
import PyProof.NeKinds
import PyProof.ZipIter
import KE.BitLaws
import PyProof.Rows.TupAdd
import PySem.SetOps
import PyProof.EnumMake
import PyProof.EnumFor
import PyProof.Rows.EnumRows
import PyProof.Rows.Range3
import PyProof.Rows.BitMore
import PyProof.Rows.RuleM_int
import PyProof.DictRoadsH
import KE.KDictList
import PyProof.DictWalks
import PyProof.AutoListH
import PyProof.FactsAll.list_2
import PyProof.CallType
import PyProof.ListNew
import PyProof.Conv_int_bool
import PyProof.ConsumeWalk
import KE.KSortTup
import PyProof.FString5
import PyProof.DictFindH
import PySem.Challenge.RW_clashbook_k27_whole_world_holds_just_the
namespace PySem.W.Fast
def tw2699015183805102686:=0
def tw18272360051465458452:=0
def tw2757306535333655641:=0
def tw12349018053803793788:=0
def tw3626035058573265851:=0
def tw11508264588560565114:=0
def tw11766839323193377120:=0
def tw1192178349795641696:=0
def tw3214406157790388747:=0
def tw15947334774746737571:=0
end PySem.W.Fast
set_option Elab.async false
set_option linter.all false
set_option maxRecDepth 100000
namespace L2
open PySem PySem.Spec PyProof.Rows
abbrev Key := Sum Int Str
def keyIs : Key -> Value -> Bool
 | .inl k, v => Value.isInt k v
 | .inr x, v => Value.isStrOf x v
def keyH (w : World) : Key -> Int
 | .inl k => hashInt k
 | .inr x => hashStr w x
theorem keyIs_shape : ∀ {k : Key} {v : Value}, keyIs k v = true -> (∃ i t, k = Sum.inl i /\ v = Value.int i t) \/ (∃ x t, k = Sum.inr x /\ v = Value.str x t)
 | .inl i, v, h => by
   obtain ⟨t, e⟩ := Value.isInt_shape (k := i) (v := v) h
   exact .inl ⟨i, t, rfl, e⟩
 | .inr x, v, h => by
   obtain ⟨t, e⟩ := Value.isStrOf_shape (x := x) (v := v) h
   exact .inr ⟨x, t, rfl, e⟩
theorem keyIs_int (i : Int) (t : Tok) : keyIs (.inl i) (.int i t) = true := by simp [keyIs, Value.isInt]
theorem keyIs_str (x : Str) (t : Tok) : keyIs (.inr x) (.str x t) = true := by simp [keyIs, Value.isStrOf]
theorem key_ll (a b : Int) : decide ((Sum.inl a : Key) = Sum.inl b) = (a == b) := by
 by_cases e : a = b
 · subst e; simp
 · have h : ¬ (Sum.inl a : Key) = Sum.inl b := fun q => e (Sum.inl.inj q)
   rw [decide_eq_false h]
   exact (beq_eq_false_iff_ne.mpr e).symm
theorem key_rr (a b : Str) : decide ((Sum.inr a : Key) = Sum.inr b) = decide (a = b) := by
 by_cases e : a = b
 · subst e; simp
 · have h : ¬ (Sum.inr a : Key) = Sum.inr b := fun q => e (Sum.inr.inj q)
   rw [decide_eq_false h, decide_eq_false e]
theorem key_lr (a : Int) (b : Str) : decide ((Sum.inl a : Key) = Sum.inr b) = false := decide_eq_false (fun q => nomatch q)
theorem key_rl (a : Str) (b : Int) : decide ((Sum.inr a : Key) = Sum.inl b) = false := decide_eq_false (fun q => nomatch q)
def yJ (prog : Program) (w : World) : PySem.KeyKind prog w Key where
 is := keyIs
 hash := keyH w
 inj := fun v a b ha hb => by
   rcases keyIs_shape ha with ⟨i, t, rfl, rfl⟩ | ⟨x, t, rfl, rfl⟩
   · rcases keyIs_shape hb with ⟨j, u, rfl, e⟩ | ⟨y, u, rfl, e⟩
     · injection e with e1 _; rw [e1]
     · exact nomatch e
   · rcases keyIs_shape hb with ⟨j, u, rfl, e⟩ | ⟨y, u, rfl, e⟩
     · exact nomatch e
     · injection e with e1 _; rw [e1]
 byValue := fun k v h => by
   rcases keyIs_shape h with ⟨i, t, rfl, rfl⟩ | ⟨x, t, rfl, rfl⟩ <;> rfl
 pyHash := fun hv h => by
   rcases keyIs_shape hv with ⟨i, t, rfl, rfl⟩ | ⟨x, t, rfl, rfl⟩
   · exact wpAny_pyHash_int h
   · exact wpAny_pyHash_str h
 eqBool := fun hu hv h => by
   rcases keyIs_shape hu with ⟨i, t, rfl, rfl⟩ | ⟨x, t, rfl, rfl⟩
   · rcases keyIs_shape hv with ⟨j, u, rfl, rfl⟩ | ⟨y, u, rfl, rfl⟩
     · rw [key_ll] at h; exact wpAny_eqBool_int h
     · rw [key_lr] at h; exact SeqAt.EqAt.int_str i t y u _ _ _ _ h
   · rcases keyIs_shape hv with ⟨j, u, rfl, rfl⟩ | ⟨y, u, rfl, rfl⟩
     · rw [key_rl] at h; exact SeqAt.EqAt.str_int x t j u _ _ _ _ h
     · rw [key_rr] at h; exact wpAny_eqBool_str h
 «strs» := fun k x t v h => by
   rcases keyIs_shape h with ⟨i, u, rfl, e⟩ | ⟨y, u, rfl, e⟩
   · exact nomatch e
   · injection e with e1 _
     subst e1
     cases v <;> rfl
theorem mixKind_int (prog : Program) (w : World) (i : Int) (t : Tok) : (yJ prog w).is (.inl i) (.int i t) = true := keyIs_int i t
theorem uB (prog : Program) (w : World) (x : Str) (t : Tok) : (yJ prog w).is (.inr x) (.str x t) = true := keyIs_str x t
inductive V where
 | non | bl (b : Bool) | int (i : Int) | str (x : Str) | byt (b : Array UInt8) | flt (b : UInt64) | ref (a : Addr) | ty (n : String)
 deriving DecidableEq
def RelV : V -> Value -> Prop
 | .non, u => u = Value.none
 | .bl b, u => u = Value.bool b
 | .int i, u => ∃ t, u = Value.int i t
 | .str x, u => ∃ t, u = Value.str x t
 | .byt b, u => ∃ t, u = Value.bytes b t
 | .flt b, u => ∃ t, u = Value.float b t
 | .ref a, u => u = Value.ref a
 | .ty n, u => u = Value.type n
abbrev Vals : List V -> List Value -> Prop := Paired RelV
theorem Vals.length {xs : List V} {us : List Value} (r : Vals xs us) : xs.length = us.length := Paired.length r
theorem Vals.get : ∀ {xs : List V} {us : List Value} {i : Nat} {x : V}, Vals xs us -> xs[i]? = some x -> ∃ u, us[i]? = some u /\ RelV x u
 | _, _, _, _, .nil, e => by simp at e
 | _, _, 0, _, .cons r _, e => by simp at e; subst e; exact ⟨_, rfl, r⟩
 | _, _, i + 1, x, .cons _ t, e => by
   obtain ⟨u, h1, h2⟩ := Vals.get (i := i) (x := x) t (by simpa using e)
   exact ⟨u, by simpa using h1, h2⟩
theorem Vals.set {x : V} {u : Value} (r : RelV x u) : ∀ {xs : List V} {us : List Value} (i : Nat), Vals xs us -> Vals (xs.set i x) (us.set i u)
 | _, _, _, .nil => .nil
 | _, _, 0, .cons _ t => .cons r t
 | _, _, i + 1, .cons q t => .cons q (Vals.set r i t)
theorem Vals.append : ∀ {xs ys : List V} {us ws : List Value}, Vals xs us -> Vals ys ws -> Vals (xs ++ ys) (us ++ ws)
 | _, _, _, _, .nil, s => s
 | _, _, _, _, .cons r t, s => .cons r (Vals.append t s)
theorem Vals.take : ∀ {xs : List V} {us : List Value} (n : Nat), Vals xs us -> Vals (xs.take n) (us.take n)
 | _, _, 0, _ => .nil
 | _, _, _ + 1, .nil => .nil
 | _, _, n + 1, .cons r t => .cons r (Vals.take n t)
theorem Vals.drop : ∀ {xs : List V} {us : List Value} (n : Nat), Vals xs us -> Vals (xs.drop n) (us.drop n)
 | _, _, 0, r => r
 | _, _, _ + 1, .nil => .nil
 | _, _, n + 1, .cons _ t => Vals.drop n t
def RelO : Option V -> Option Value -> Prop
 | some v, some u => RelV v u
 | none, none => True
 | _, _ => False
def KV {κ : Type} : List (κ × V) -> List (κ × Value) -> Prop := Paired fun (p : κ × V) (q : κ × Value) => p.1 = q.1 /\ RelV p.2 q.2
def kV : Key -> V
 | .inl i => .int i
 | .inr x => .str x
inductive HO where
 | lst (xs : List V)
 | tup (xs : List V)
 | dK (kvs : List (Key × V)) | dT (kvs : List (List Key × V))
 | set (S : Int -> Bool) (n : Nat)
 | ins (C dx : Addr) (fs : List (Str × V))
 | own (x : Addr)
 | xd (fs : List (Str × V))
 | met (f x : Addr)
 | rng (lo hi : Int)
 | frz (o : Obj) (u : HO)
 | tbl (ps : Array Value)
 | ext (φ : Heap -> Prop)
abbrev Hp := Addr -> Option HO
def upd (H : Hp) (a : Addr) (o : HO) : Hp := fun b => if b = a then some o else H b
theorem zB {H : Hp} {a : Addr} {o : HO} : upd H a o a = some o := by unfold upd; rw [if_pos rfl]
theorem zG {H : Hp} {a b : Addr} {o : HO} (h : b ≠ a) : upd H a o b = H b := by unfold upd; rw [if_neg h]
theorem upd_upd {H : Hp} {a : Addr} {o u : HO} : upd (upd H a o) a u = upd H a u := by
 funext b; unfold upd; split <;> rfl
theorem xS {H : Hp} {a b : Addr} {o u : HO} (h : H a = some o) (h' : H b = some u) (d : o ≠ u) : a ≠ b := by
 intro e; subst e; rw [h] at h'; exact d (Option.some.inj h')
theorem xD {H : Hp} {a b : Addr} {o : HO} (h : H a = some o) (h' : H b = none) : a ≠ b := by
 intro e; subst e; rw [h] at h'; cases h'
section
variable (P : Program) (w : World)
def ObjOk (H : Hp) (h : Heap) (a : Addr) : HO -> Prop
 | .lst xs => xs.length <= sizeLine /\ ∃ (its : List Value) (n : Nat), Vals xs its /\ h.get? a = some { cls := .type "list", data := .seq its.toArray n }
 | .tup xs => xs.length <= sizeLine /\ ∃ its : List Value, Vals xs its /\ IsTup h a its.toArray
 | .dK kvs => kvs.length <= sizeLine /\ (a == sysModules) = false /\ ∃ vs, KV kvs vs /\ h.DictOf (yJ P w) a vs
 | .dT kvs => kvs.length <= sizeLine /\ (a == sysModules) = false /\ ∃ xs : List (List Key × Addr × Value),
     Paired (fun (p : List Key × V) (q : List Key × Addr × Value) => p.1 = q.1 /\ H q.2.1 = some (.tup (p.1.map kV)) /\ RelV p.2 q.2.2) kvs xs /\
     ∃ o es ep, h.get? a = some o /\ o.ExactDict /\ o.data = .dict es ep /\ es.toList = xs.map (entryOfKey (tupleKind (yJ P w))) /\ (xs.map (·.1)).Nodup
 | .set S n => h.SetOf (intKind P w) a S n
 | .ins C dx fs => H dx = some (.own a) /\ fs.length <= 1000 /\ dx ≠ a /\ h.get? a = some (PySem.W.instObj C dx) /\
     ∃ mA, h.Ns1 dx mA /\ (∀ f, RelO (fs.lookup f) (mA f)) /\ PySem.Within mA (fs.map (·.1))
 | .own _ => ∃ o, h.get? a = some o
 | .xd fs => ∃ mA, h.Ns1 a mA /\ ∀ f, RelO (fs.lookup f) (mA f)
 | .rng lo hi => ∃ t u v, h.get? a = some { cls := .type "range", data := .fields #[.int lo t, .int hi u, .int 1 v] }
 | .frz o u => h.get? a = some o /\ ObjOk H h a u
 | .tbl ps => h.get? a = some { cls := .none, data := .fields ps }
 | .met f x => h.get? a = some (PySem.W.methodObj (.ref f) (.ref x))
 | .ext φ => φ h /\ (∃ o, h.get? a = some o) /\ ∀ h1 h2 : Heap, φ h1 -> (∀ o, h1.get? a = some o -> h2.get? a = some o) -> φ h2
def HOk (H : Hp) (h : Heap) : Prop := ∀ a o, H a = some o -> ObjOk P w H h a o
end
section
variable {P : Program} {w : World} {H H' : Hp} {h h' : Heap} {a : Addr} {o : HO}
theorem ObjOk.lt (x : ObjOk P w H h a o) : a < h.objs.size := by
 cases o with
 | lst xs => obtain ⟨_, _, _, _, e⟩ := x; exact Heap.lt_size e
 | tup xs => obtain ⟨_, _, _, p⟩ := x; exact p.lt
 | dK kvs => obtain ⟨_, _, _, _, o, _, _, e, _⟩ := x; exact Heap.lt_size e
 | dT kvs => obtain ⟨_, _, _, _, o, _, _, e, _⟩ := x; exact Heap.lt_size e
 | set S n => obtain ⟨o, _, _, _, e, _⟩ := x; exact Heap.lt_size e
 | ins C dx fs => obtain ⟨_, _, _, e, _⟩ := x; exact Heap.lt_size e
 | own y => obtain ⟨_, e⟩ := x; exact Heap.lt_size e
 | xd fs => obtain ⟨_, ⟨_, _, _, e, _⟩, _⟩ := x; exact Heap.lt_size e
 | rng lo hi => obtain ⟨_, _, _, e⟩ := x; exact Heap.lt_size e
 | frz ob u => obtain ⟨e, _⟩ := x; exact Heap.lt_size e
 | tbl ps => exact Heap.lt_size (show h.get? a = some _ from x)
 | met f y => exact Heap.lt_size (show h.get? a = some _ from x)
 | ext φ => obtain ⟨_, ⟨_, e⟩, _⟩ := x; exact Heap.lt_size e
theorem Paired.mapP {α β : Type} {F G : α -> β -> Prop} : ∀ {l₁ : List α} {l₂ : List β}, Paired F l₁ l₂ -> (∀ a b, F a b -> G a b) -> Paired G l₁ l₂
 | _, _, .nil, _ => .nil
 | _, _, .cons r t, f => .cons (f _ _ r) (Paired.mapP t f)
theorem ObjOk.stay (x : ObjOk P w H h a o) (k : ∀ b u, (b = a \/ H b = some (.own a)) -> h.get? b = some u -> h'.get? b = some u)
   (ho : ∀ b, H b = some (.own a) -> H' b = some (.own a)) (ht : ∀ b xs, H b = some (.tup xs) -> H' b = some (.tup xs)) : ObjOk P w H' h' a o := by
 induction o with
 | lst xs => obtain ⟨z, its, n, r, e⟩ := x; exact ⟨z, its, n, r, k _ _ (.inl rfl) e⟩
 | tup xs => obtain ⟨z, its, r, ob, e, c⟩ := x; exact ⟨z, its, r, ob, k _ _ (.inl rfl) e, c⟩
 | dK kvs => obtain ⟨z, y, vs, r, ob, es, ep, e, c⟩ := x; exact ⟨z, y, vs, r, ob, es, ep, k _ _ (.inl rfl) e, c⟩
 | dT kvs =>
   obtain ⟨z, y, xs, r, ob, es, ep, e, c⟩ := x
   exact ⟨z, y, xs, Paired.mapP r fun p q z => ⟨z.1, ht _ _ z.2.1, z.2.2⟩, ob, es, ep, k _ _ (.inl rfl) e, c⟩
 | set S n => obtain ⟨ob, es, ep, t, e, c⟩ := x; exact ⟨ob, es, ep, t, k _ _ (.inl rfl) e, c⟩
 | ins C dx fs =>
   obtain ⟨d, z, ne, e, mA, ⟨od, es, ep, e2, c⟩, r⟩ := x
   exact ⟨ho _ d, z, ne, k _ _ (.inl rfl) e, mA, ⟨od, es, ep, k _ _ (.inr d) e2, c⟩, r⟩
 | own y => obtain ⟨ob, e⟩ := x; exact ⟨ob, k _ _ (.inl rfl) e⟩
 | xd fs => obtain ⟨mA, ⟨od, es, ep, e, c⟩, r⟩ := x; exact ⟨mA, ⟨od, es, ep, k _ _ (.inl rfl) e, c⟩, r⟩
 | rng lo hi => obtain ⟨t, u, v, e⟩ := x; exact ⟨t, u, v, k _ _ (.inl rfl) e⟩
 | frz ob u ih => obtain ⟨e, q⟩ := x; exact ⟨k _ _ (.inl rfl) e, ih q⟩
 | tbl ps =>
   have e : h.get? a = some { cls := .none, data := .fields ps } := x
   show h'.get? a = some { cls := .none, data := .fields ps }
   exact k a _ (.inl rfl) e
 | met f y =>
   have e : h.get? a = some (PySem.W.methodObj (.ref f) (.ref y)) := x
   show h'.get? a = some (PySem.W.methodObj (.ref f) (.ref y))
   exact k a _ (.inl rfl) e
 | ext φ => obtain ⟨p, ⟨o, e⟩, st⟩ := x; exact ⟨st _ _ p fun o q => k _ _ (.inl rfl) q, ⟨o, k _ _ (.inl rfl) e⟩, st⟩
theorem HOk.lt (x : HOk P w H h) (e : H a = some o) : a < h.objs.size := (x a o e).lt
theorem HOk.fresh (x : HOk P w H h) (e : h.objs.size <= a) : H a = none := by
 cases q : H a with
 | none => rfl
 | some u => exact absurd (Nat.lt_of_lt_of_le (x.lt q) e) (Nat.lt_irrefl _)
theorem HOk.kept (x : HOk P w H h) (k : ∀ b u, h.get? b = some u -> h'.get? b = some u) : HOk P w H h' := fun a o e =>
 (x a o e).stay (fun b u _ q => k b u q) (fun _ q => q) fun _ _ q => q
theorem HOk.laid (x : HOk P w H h) (k : ∀ b u, h.get? b = some u -> h'.get? b = some u) (hp : h.objs.size <= a) (new : ObjOk P w (upd H a o) h' a o) : HOk P w (upd H a o) h' := fun b u e => by
 have hn := x.fresh hp
 by_cases hb : b = a
 · subst hb; rw [zB] at e; cases e; exact new
 · rw [zG hb] at e
   exact (x b u e).stay (fun c v _ q => k c v q) (fun c q => by rw [zG (xD q hn)]; exact q) fun c xs q => by rw [zG (xD q hn)]; exact q
end
def Rd (H : Hp) (a : Addr) (u : HO) : Prop := H a = some u \/ ∃ o, H a = some (.frz o u)
theorem Rd.ok {P : Program} {w : World} {H : Hp} {h : Heap} {a : Addr} {u : HO} (r : Rd H a u) (x : HOk P w H h) : ObjOk P w H h a u := by
 rcases r with r | ⟨o, r⟩
 · exact x a u r
 · obtain ⟨_, q⟩ := x a _ r
   exact q
def Mut : Option HO -> Prop
 | some (.lst _) => True
 | some (.dK _) => True
 | some (.dT _) => True
 | some (.set _ _) => True
 | some (.ins _ _ _) => True
 | some (.ext _) => True
 | _ => False
section
variable {P : Program} {w : World} {H : Hp} {h h' : Heap} {x e : Addr} {o' : HO}
theorem HOk.write (ok : HOk P w H h) (mu : Mut (H x)) (he : e = x \/ H e = some (.own x)) (k : ∀ b u, b ≠ e -> h.get? b = some u -> h'.get? b = some u) (heo : ∃ u, h'.get? e = some u)
   (new : ObjOk P w (upd H x o') h' x o') : HOk P w (upd H x o') h' := fun b u q => by
 have nown : ∀ c y, H c = some (.own y) -> c ≠ x := fun c y r z => by subst z; rw [r] at mu; exact mu
 have ntup : ∀ c xs, H c = some (.tup xs) -> c ≠ x := fun c xs r z => by subst z; rw [r] at mu; exact mu
 by_cases hb : b = x
 · subst hb; rw [zB] at q; cases q; exact new
 · rw [zG hb] at q
   by_cases hbe : b = e
   · have q' : H b = some (.own x) := by
       rcases he with z | z
       · exact absurd (hbe.trans z) hb
       · rw [hbe]; exact z
     rw [q] at q'; cases q'
     obtain ⟨v, hv⟩ := heo
     exact ⟨v, by rw [hbe]; exact hv⟩
   · refine (ok b u q).stay (fun c v hc r => k c v ?_ r) (fun c r => by rw [zG (nown c b r)]; exact r) fun c xs r => by rw [zG (ntup c xs r)]; exact r
     rcases hc with rfl | hc
     · exact hbe
     · rintro rfl
       rcases he with z | z
       · exact nown c b hc z
       · rw [hc] at z; cases z; exact hb rfl
end
structure Un (fs ex : List Addr) (H H' : Hp) (h h' : Heap) : Prop where
 keep : ∀ b o, h.get? b = some o -> H b = none -> b ∉ fs -> b ∉ ex -> h'.get? b = some o
 slot : ∀ b o, h.get? b = some o -> H b = none -> b ∈ fs -> b ∉ ex -> ∃ sl, h'.get? b = some { o with slots := sl }
 free : ∀ b o, h.get? b = some o -> H b = none -> b ∉ ex -> H' b = none
 there : ∀ b o, h.get? b = some o -> b ∉ ex -> ∃ o', h'.get? b = some o'
 tups : ∀ b xs, H b = some (.tup xs) -> H' b = some (.tup xs)
 frzs : ∀ b o u, H b = some (.frz o u) -> H' b = some (.frz o u)
 tbls : ∀ b ps, H b = some (.tbl ps) -> ∃ more, H' b = some (.tbl (ps ++ more))
section
variable {fs fs' ex ex' : List Addr} {H H1 H2 : Hp} {h h1 h2 h' : Heap} {a x e : Addr} {o : HO}
theorem Un.any (u : Un fs ex H H1 h h1) {b : Addr} {ob : Obj} (q : h.get? b = some ob) (n : H b = none) (hx : b ∉ ex) : ∃ sl, h1.get? b = some { ob with slots := sl } := by
 by_cases hb : b ∈ fs
 · exact u.slot b ob q n hb hx
 · exact ⟨ob.slots, u.keep b ob q n hb hx⟩
theorem Un.trans (a : Un fs ex H H1 h h1) (b : Un fs ex H1 H2 h1 h2) : Un fs ex H H2 h h2 where
 keep := fun c ob q n hc hx => b.keep c ob (a.keep c ob q n hc hx) (a.free c ob q n hx) hc hx
 slot := fun c ob q n hc hx => by
   obtain ⟨sl, e1⟩ := a.slot c ob q n hc hx
   obtain ⟨sl', e2⟩ := b.slot c _ e1 (a.free c ob q n hx) hc hx
   exact ⟨sl', e2⟩
 free := fun c ob q n hx => by
   obtain ⟨o', e1⟩ := a.there c ob q hx
   exact b.free c o' e1 (a.free c ob q n hx) hx
 there := fun c ob q hx => by
   obtain ⟨o', e1⟩ := a.there c ob q hx
   exact b.there c o' e1 hx
 tups := fun c xs q => b.tups c xs (a.tups c xs q)
 frzs := fun c ob xs q => b.frzs c ob xs (a.frzs c ob xs q)
 tbls := fun c ps q => by
   obtain ⟨m1, e1⟩ := a.tbls c ps q
   obtain ⟨m2, e2⟩ := b.tbls c _ e1
   exact ⟨m1 ++ m2, by rw [e2, Array.append_assoc]⟩
theorem Un.kept (k : ∀ b u, h.get? b = some u -> h'.get? b = some u) : Un fs ex H H h h' :=
 ⟨fun b ob q _ _ _ => k b ob q, fun b ob q _ _ _ => ⟨ob.slots, k b ob q⟩, fun _ _ _ n _ => n, fun b ob q _ => ⟨ob, k b ob q⟩, fun _ _ q => q, fun _ _ _ q => q, fun _ ps q => ⟨#[], by rw [q]; simp⟩⟩
theorem Un.refl : Un fs ex H H h h := Un.kept fun _ _ q => q
theorem Un.laid (k : ∀ b u, h.get? b = some u -> h'.get? b = some u) (hp : h.objs.size <= a) (hn : H a = none) : Un fs ex H (upd H a o) h h' where
 keep := fun b u q _ _ _ => k b u q
 slot := fun b u q _ _ _ => ⟨u.slots, k b u q⟩
 free := fun b u q n _ => by rw [zG (Nat.ne_of_lt (Nat.lt_of_lt_of_le (Heap.lt_size q) hp))]; exact n
 there := fun b u q _ => ⟨u, k b u q⟩
 tups := fun b xs q => by rw [zG (xD q hn)]; exact q
 frzs := fun b u xs q => by rw [zG (xD q hn)]; exact q
 tbls := fun b ps q => ⟨#[], by rw [zG (xD q hn), q]; simp⟩
theorem Un.write (mu : Mut (H x)) (he : e = x \/ H e = some (.own x)) (k : ∀ b u, b ≠ e -> h.get? b = some u -> h'.get? b = some u) (heo : ∃ u, h'.get? e = some u) : Un fs ex H (upd H x o) h h' := by
 have hx : ∀ b, H b = none -> b ≠ x := fun b n z => by subst z; rw [n] at mu; exact mu
 have hb : ∀ b, H b = none -> b ≠ e := fun b n z => by
   subst z
   rcases he with r | r
   · exact hx b n r
   · rw [n] at r; cases r
 have hm : ∀ b u, H b = some u -> ¬ Mut (some u) -> b ≠ x := fun b u q nm z => by subst z; rw [q] at mu; exact nm mu
 refine ⟨fun b u q n _ _ => k b u (hb b n) q, fun b u q n _ _ => ⟨u.slots, k b u (hb b n) q⟩, fun b u q n _ => by rw [zG (hx b n)]; exact n, fun b u q _ => ?_,
   fun b xs q => by rw [zG (hm b _ q fun z => z)]; exact q, fun b u xs q => by rw [zG (hm b _ q fun z => z)]; exact q, fun b ps q => ⟨#[], by rw [zG (hm b _ q fun z => z), q]; simp⟩⟩
 by_cases hbe : b = e
 · subst hbe; exact heo
 · exact ⟨u, k b u hbe q⟩
end
def trk (h : Heap) (H : Hp) : List Addr := (List.range h.objs.size).filter fun a => (H a).isSome
def kE (h : Heap) (H : Hp) : Heap := PySem.W.hideAll h (trk h H)
theorem hidT_size (h : Heap) (H : Hp) : (kE h H).objs.size = h.objs.size := PySem.W.hideAll_size _ _
theorem hidT_get {h : Heap} {H : Hp} {b : Addr} {o : Obj} (e : h.get? b = some o) (n : H b = none) : (kE h H).get? b = some o :=
 PySem.W.hideAll_get _ e fun hm => by
   have q : (H b).isSome = true := (List.mem_filter.mp hm).2
   rw [n] at q; simp at q
theorem of_hidT {h : Heap} {H : Hp} {b : Addr} {o : Obj} (e : (kE h H).get? b = some o) : h.get? b = some o /\ H b = none := by
 have e' : h.get? b = some o := PySem.W.of_hideAll (trk h H) e
 refine ⟨e', ?_⟩
 cases q : H b with
 | none => rfl
 | some x =>
   have hm : b ∈ trk h H := List.mem_filter.mpr ⟨List.mem_range.mpr (Heap.lt_size e'), by simp [q]⟩
   have z : (kE h H).get? b = none := PySem.W.hideAll_none (trk h H) hm
   rw [z] at e; cases e
def allNews (g h : Heap) (L : Addr) : List (Addr × Obj) := (List.range h.objs.size).filterMap fun a => if a = L \/ (g.get? a).isSome = true then none else (h.get? a).map fun o => (a, o)
def rest (g h : Heap) (L d : Addr) : List (Addr × Obj) := (allNews g h L).filter fun p => decide (p.1 ≠ d)
structure Mod (K : PySem.W.Frag) (mg : Str -> Option Value) (base : Heap) : Prop where
 kin : K.In base
 glob : base.Ns mainGlobals mg
 blt : ∃ mb, base.Ns builtinsNs mb /\ ∀ x : Str, x ≠ "__name__" -> mb x = bootBuiltins x
 nolimit : base.NoLimit
structure Cx where
 prog : Program
 w : World
 K : PySem.W.Frag
 mg : Str -> Option Value
 base : Heap
 A : Around
 N : List Str
 s₀ : Shared
 H₀ : Hp
 env : Env
 outer : List Env
 stack : List Env
 ex : List Addr
 fn : Str -> Bool
 calm : Bool
 pn : List (Addr × Obj)
 xe : Value -> Shared -> Prop
def frs (l : List Env) : List Addr := l.filterMap (·.frame)
abbrev Cx.fs (X : Cx) : List Addr := frs X.outer
def Vis (sc : Scope) (x : Str) : Prop := sc.names.lookup x = some .local \/ sc.names.lookup x = some .cell \/ sc.names.lookup x = some .free
def Loc (sc : Scope) (x : Str) : Prop := sc.names.lookup x = some .local \/ sc.names.lookup x = some .cell
def Look (env : Env) (h : Heap) (m : Str -> Option Value) (x : Str) (u : Value) : Prop :=
 (env.kindOf x = some .local /\ m x = some u) \/ ((env.kindOf x = some .cell \/ env.kindOf x = some .free) /\ ∃ c, env.cells.lookup x = some c /\ h.IsCell c (some u))
structure Cx.Ok (X : Cx) : Prop where
 mod : Mod X.K X.mg X.base
 kind : X.env.scope.kind = .function
 glob : X.env.globals = mainGlobals
 blt : X.env.builtins = builtinsNs
 above : X.s₀.heap.objs.size <= X.env.locals
 inj : ∀ x y c, X.env.cells.lookup x = some c -> X.env.cells.lookup y = some c -> x = y
 has : ∀ x, (X.env.kindOf x = some .cell \/ X.env.kindOf x = some .free) -> ∃ c, X.env.cells.lookup x = some c
 cab : ∀ x c, X.fn x = true -> X.env.cells.lookup x = some c -> X.s₀.heap.objs.size <= c
 hd : X.calm = true -> X.A.handled = none
 frames : X.A.frames = some X.stack
 stk : X.stack = X.outer \/ (X.stack = X.env :: X.outer /\ X.env.frame = some X.env.locals)
 exf : ∀ b ∈ X.ex, b ≠ X.env.locals /\ ∀ x c, X.env.cells.lookup x = some c -> c ≠ b
 bs : ∀ b o, X.base.get? b = some o -> X.s₀.heap.get? b = some o /\ X.H₀ b = none
 bsz : X.base.objs.size <= X.s₀.heap.objs.size
 noex : ∀ b o, X.base.get? b = some o -> b ∉ X.ex
 exfs : ∀ b ∈ X.ex, b ∉ X.fs
 funs : X.s₀.heap.FunFrames X.base X.outer
 frf : ∀ b ∈ X.fs, X.H₀ b = none
structure Inv (X : Cx) (pins : List (Addr × Obj)) (σ : List (Option V)) (H : Hp) (s : Shared) : Prop where
 ok : X.Ok
 os : s.os = X.s₀.os
 bare : AllBare s.gens
 base : Un X.fs X.ex X.H₀ H X.s₀.heap s.heap
 loc : ∃ m, s.heap.Ns X.env.locals m /\ ∀ (i : Nat) (x : Str) (v : V), X.N[i]? = some x -> σ[i]? = some (some v) -> Vis X.env.scope x -> ∃ u, RelV v u /\ Look X.env s.heap m x u
 cell : ∀ x c, X.env.cells.lookup x = some c -> ∃ v, s.heap.IsCell c v
 free : H X.env.locals = none
 freeC : ∀ x c, X.env.cells.lookup x = some c -> H c = none
 pin : ∀ p ∈ X.pn ++ pins, s.heap.get? p.1 = some p.2 /\ H p.1 = none /\ p.1 ≠ X.env.locals /\ p.1 ∉ X.fs /\ ∀ v, p.2.data ≠ .cell v
 hok : HOk X.prog X.w H s.heap
 len : σ.length = X.N.length
section
variable {X : Cx} {pins : List (Addr × Obj)} {σ : List (Option V)} {H H' : Hp} {s : Shared} {h' : Heap}
theorem Cx.Ok.nofr (ok : X.Ok) {b : Addr} {o : Obj} (e : X.base.get? b = some o) : b ∉ X.fs := fun hb => by
 have := (ok.funs.mem hb).1
 rw [e] at this; cases this
theorem Inv.bs (I : Inv X pins σ H s) : ∀ b o, X.base.get? b = some o -> s.heap.get? b = some o /\ H b = none := fun b o e =>
 ⟨I.base.keep b o (I.ok.bs b o e).1 (I.ok.bs b o e).2 (I.ok.nofr e) (I.ok.noex b o e), I.base.free b o (I.ok.bs b o e).1 (I.ok.bs b o e).2 (I.ok.noex b o e)⟩
theorem Inv.bk (I : Inv X pins σ H s) : ∀ b o, X.base.get? b = some o -> s.heap.get? b = some o := fun b o e => (I.bs b o e).1
theorem Inv.mod (I : Inv X pins σ H s) : Mod X.K X.mg X.base := I.ok.mod
theorem Inv.kIn (I : Inv X pins σ H s) : X.K.In s.heap := I.ok.mod.kin.keeps I.bk
theorem Inv.lt (I : Inv X pins σ H s) : X.env.locals < s.heap.objs.size := let ⟨_, hn, _⟩ := I.loc; hn.lt
theorem Inv.sz (I : Inv X pins σ H s) : X.s₀.heap.objs.size <= s.heap.objs.size := Nat.le_trans I.ok.above (Nat.le_of_lt I.lt)
theorem Inv.nofs (I : Inv X pins σ H s) {a : Addr} (h : s.heap.objs.size <= a) : a ∉ X.fs := fun hb => by
 obtain ⟨_, o, ho, _⟩ := I.ok.funs.mem hb
 exact absurd (Nat.lt_of_lt_of_le (Heap.lt_size ho) (Nat.le_trans I.sz h)) (Nat.lt_irrefl _)
theorem Inv.cne (I : Inv X pins σ H s) : ∀ x c, X.env.cells.lookup x = some c -> c ≠ X.env.locals := fun x c e z => by
 obtain ⟨v, o, ho, hd⟩ := I.cell x c e
 obtain ⟨m, ⟨o', es, ep, ho', hd', _⟩, _⟩ := I.loc
 rw [z, ho'] at ho; cases ho; rw [hd'] at hd; cases hd
theorem Inv.funs (I : Inv X pins σ H s) : s.heap.FunFrames X.base X.outer := by
 have all : ∀ (l : List Env), (∀ b ∈ frs l, b ∈ X.fs) -> X.s₀.heap.FunFrames X.base l -> s.heap.FunFrames X.base l := by
   intro l
   induction l with
   | nil => intro _ _; trivial
   | cons env r ih =>
     intro hs hl
     obtain ⟨hk, ⟨L, o, hf, hn, ho, hd⟩, hr⟩ := hl
     have hL : L ∈ X.fs := hs L (by unfold frs; rw [List.filterMap_cons, hf]; exact List.mem_cons_self)
     obtain ⟨sl, e⟩ := I.base.slot L o ho (I.ok.frf L hL) hL fun z => I.ok.exfs L z hL
     exact ⟨hk, ⟨L, _, hf, hn, e, hd⟩, ih (fun b hb => hs b (by unfold frs; rw [List.filterMap_cons, hf]; exact List.mem_cons_of_mem _ hb)) hr⟩
 exact all X.outer (fun _ hb => hb) I.ok.funs
theorem Inv.stack (I : Inv X pins σ H s) : s.heap.FunFrames X.base X.stack := by
 rcases I.ok.stk with e | ⟨e, hf⟩
 · rw [e]; exact I.funs
 · rw [e]
   obtain ⟨m, hn, _⟩ := I.loc
   refine .cons (by rw [I.ok.kind]; decide) hf hn ?_ I.funs
   exact Heap.get?_none_of_le (Nat.le_trans I.ok.bsz I.ok.above)
theorem Inv.stkSub (I : Inv X pins σ H s) : ∀ b ∈ frs X.stack, b ∈ X.env.locals :: X.fs := fun b hb => by
 rcases I.ok.stk with e | ⟨e, hf⟩
 · rw [e] at hb; exact List.mem_cons_of_mem _ hb
 · rw [e] at hb
   unfold frs at hb
   rw [List.filterMap_cons, hf] at hb
   exact hb
theorem Inv.stkFree (I : Inv X pins σ H s) : ∀ b ∈ frs X.stack, H b = none := fun b hb => by
 rcases List.mem_cons.mp (I.stkSub b hb) with e | hb
 · rw [e]; exact I.free
 · obtain ⟨_, o, ho, _⟩ := I.ok.funs.mem hb
   exact I.base.free b o ho (I.ok.frf b hb) fun z => I.ok.exfs b z hb
theorem Inv.step {g' : Array GenState} {t' : Nat} {d' : Drawn} {ch : List Addr} (I : Inv X pins σ H s)
   (hch : ∀ b ∈ ch, (b ∈ X.ex \/ X.s₀.heap.objs.size <= b) /\ b ≠ X.env.locals /\ (∀ x c, X.env.cells.lookup x = some c -> c ≠ b) /\ ∀ p ∈ X.pn ++ pins, p.1 ≠ b)
   (keep : ∀ b o, b ≠ X.env.locals -> b ∉ X.fs -> b ∉ ch -> s.heap.get? b = some o -> H b = none -> h'.get? b = some o)
   (slot : ∀ b o, b ≠ X.env.locals -> b ∈ X.fs -> b ∉ ch -> s.heap.get? b = some o -> H b = none -> ∃ sl, h'.get? b = some { o with slots := sl }) (free : ∀ b o, b ∉ ch -> s.heap.get? b = some o -> H b = none -> H' b = none)
   (there : ∀ b o, b ∉ ch -> s.heap.get? b = some o -> ∃ o', h'.get? b = some o')
   (tups : ∀ b xs, H b = some (.tup xs) -> H' b = some (.tup xs)) (frzs : ∀ b o u, H b = some (.frz o u) -> H' b = some (.frz o u)) (tbls : ∀ b ps, H b = some (.tbl ps) -> ∃ more, H' b = some (.tbl (ps ++ more)))
   (ns : ∀ m, s.heap.Ns X.env.locals m -> h'.Ns X.env.locals m) (hok : HOk X.prog X.w H' h') (hg : AllBare g') :
   Inv X pins σ H' { s with heap := h', gens := g', drawn := d', toks := t' } := by
 have neL : ∀ b o, X.s₀.heap.get? b = some o -> b ≠ X.env.locals := fun b o e => Nat.ne_of_lt (Nat.lt_of_lt_of_le (Heap.lt_size e) I.ok.above)
 have neC : ∀ b o, X.s₀.heap.get? b = some o -> b ∉ X.ex -> b ∉ ch := fun b o e hx hb => by
   rcases (hch b hb).1 with z | z
   · exact hx z
   · exact absurd (Nat.lt_of_lt_of_le (Heap.lt_size e) z) (Nat.lt_irrefl _)
 have cellK : ∀ x c, X.env.cells.lookup x = some c -> ∀ v, s.heap.IsCell c v -> h'.IsCell c v := fun x c e v ⟨o, ho, hd⟩ => by
   have nch : c ∉ ch := fun z => (hch c z).2.2.1 x c e rfl
   by_cases hc : c ∈ X.fs
   · obtain ⟨sl, q⟩ := slot c o (I.cne x c e) hc nch ho (I.freeC x c e)
     exact ⟨_, q, hd⟩
   · exact ⟨o, keep c o (I.cne x c e) hc nch ho (I.freeC x c e), hd⟩
 refine ⟨I.ok, I.os, hg, ⟨fun b o e n hb hx => ?_, fun b o e n hb hx => ?_, fun b o e n hx => ?_, fun b o e hx => ?_, fun b xs e => tups b xs (I.base.tups b xs e), fun b o xs e => frzs b o xs (I.base.frzs b o xs e), fun b ps e => ?_⟩, ?_, fun x c e => ?_, ?_, fun x c e => ?_, fun p hp => ?_, hok, I.len⟩
 · exact keep b o (neL b o e) hb (neC b o e hx) (I.base.keep b o e n hb hx) (I.base.free b o e n hx)
 · obtain ⟨sl, e1⟩ := I.base.slot b o e n hb hx
   obtain ⟨sl', e2⟩ := slot b _ (neL b o e) hb (neC b o e hx) e1 (I.base.free b o e n hx)
   exact ⟨sl', e2⟩
 · obtain ⟨o', e1⟩ := I.base.there b o e hx
   exact free b o' (neC b o e hx) e1 (I.base.free b o e n hx)
 · obtain ⟨o', e1⟩ := I.base.there b o e hx
   exact there b o' (neC b o e hx) e1
 · obtain ⟨m1, e1⟩ := I.base.tbls b ps e
   obtain ⟨m2, e2⟩ := tbls b _ e1
   exact ⟨m1 ++ m2, by rw [e2, Array.append_assoc]⟩
 · obtain ⟨m, hn, hl⟩ := I.loc
   refine ⟨m, ns m hn, fun i x v e1 e2 e3 => ?_⟩
   obtain ⟨u, r, l⟩ := hl i x v e1 e2 e3
   refine ⟨u, r, ?_⟩
   rcases l with l | ⟨k, c, e, z⟩
   · exact .inl l
   · exact .inr ⟨k, c, e, cellK x c e _ z⟩
 · obtain ⟨v, z⟩ := I.cell x c e
   exact ⟨v, cellK x c e v z⟩
 · obtain ⟨m, ⟨o, _, _, ho, _⟩, _⟩ := I.loc
   exact free _ o (fun z => (hch _ z).2.1 rfl) ho I.free
 · obtain ⟨v, o, ho, hd⟩ := I.cell x c e
   exact free c o (fun z => (hch c z).2.2.1 x c e rfl) ho (I.freeC x c e)
 · obtain ⟨e, n, ne, nf, d⟩ := I.pin p hp
   have nch : p.1 ∉ ch := fun z => (hch p.1 z).2.2.2 p hp rfl
   exact ⟨keep p.1 p.2 ne nf nch e n, free p.1 p.2 nch e n, ne, nf, d⟩
theorem Inv.un {t' : Nat} (I : Inv X pins σ H s) (u : Un X.fs [] H H' s.heap h') (hok : HOk X.prog X.w H' h') : Inv X pins σ H' { s with heap := h', toks := t' } := by
 obtain ⟨m, ⟨o, es, ep, ho, r⟩, _⟩ := id I.loc
 obtain ⟨sl, hL⟩ := u.any ho I.free (by simp)
 exact I.step (g' := s.gens) (d' := s.drawn) (ch := []) (fun _ z => nomatch z) (fun b o _ hb _ e n => u.keep b o e n hb (by simp)) (fun b o _ hb _ e n => u.slot b o e n hb (by simp)) (fun b o _ e n => u.free b o e n (by simp)) (fun b o _ e => u.there b o e (by simp)) u.tups u.frzs u.tbls (fun m' hm => by
   obtain ⟨o', es', ep', ho', r'⟩ := hm
   rw [ho] at ho'; cases ho'
   exact ⟨_, es', ep', hL, r'⟩) hok I.bare
theorem Inv.call {g' : Array GenState} {t' : Nat} {d' : Drawn} {ch : List Addr} (I : Inv X pins σ H s) (u : Un (frs X.stack) ch H H' s.heap h') (hok : HOk X.prog X.w H' h') (hg : AllBare g')
   (hch : ∀ b ∈ ch, (b ∈ X.ex \/ X.s₀.heap.objs.size <= b) /\ b ≠ X.env.locals /\ (∀ x c, X.env.cells.lookup x = some c -> c ≠ b) /\ ∀ p ∈ X.pn ++ pins, p.1 ≠ b) :
   Inv X pins σ H' { s with heap := h', gens := g', drawn := d', toks := t' } := by
 obtain ⟨m, ⟨o, es, ep, ho, r⟩, _⟩ := id I.loc
 obtain ⟨sl, hL⟩ := u.any ho I.free fun z => (hch _ z).2.1 rfl
 exact I.step (ch := ch) hch (fun b o hL hb hc e n => u.keep b o e n (fun z => (List.mem_cons.mp (I.stkSub b z)).elim hL hb) hc) (fun b o _ _ hc e n => u.any e n hc) (fun b o hc e n => u.free b o e n hc) (fun b o hc e => u.there b o e hc) u.tups u.frzs u.tbls (fun m' hm => by
   obtain ⟨o', es', ep', ho', r'⟩ := hm
   rw [ho] at ho'; cases ho'
   exact ⟨_, es', ep', hL, r'⟩) hok hg
theorem Inv.turned {t' : Nat} {it : Addr} (I : Inv X pins σ H s) (k : ∀ b o, b ≠ it -> s.heap.get? b = some o -> h'.get? b = some o) (hn : H it = none) (hL : it ≠ X.env.locals)
   (h1 : it ∈ X.ex \/ X.s₀.heap.objs.size <= it) (h2 : ∀ x c, X.env.cells.lookup x = some c -> c ≠ it) (h3 : ∀ p ∈ X.pn ++ pins, p.1 ≠ it) : Inv X pins σ H { s with heap := h', toks := t' } := by
 have nit : ∀ b u, H b = some u -> b ≠ it := fun b u e z => by rw [z, hn] at e; cases e
 refine I.step (g' := s.gens) (d' := s.drawn) (ch := [it]) (fun b hb => ?_) (fun b o _ _ hc e _ => k b o (fun z => hc (by simp [z])) e) (fun b o _ _ hc e _ => ⟨o.slots, k b o (fun z => hc (by simp [z])) e⟩) (fun _ _ _ _ n => n)
   (fun b o hc e => ⟨o, k b o (fun z => hc (by simp [z])) e⟩) (fun _ _ e => e) (fun _ _ _ e => e) (fun b ps e => ⟨#[], by rw [e]; simp⟩) (fun m hm => ?_) (fun b u e => ?_) I.bare
 · have e : b = it := by simpa using hb
   subst e
   exact ⟨h1, hL, h2, h3⟩
 · obtain ⟨o, es, ep, ho, r⟩ := hm
   exact ⟨o, es, ep, k _ o (Ne.symm hL) ho, r⟩
 · refine (I.hok b u e).stay (fun c v hc q => k c v ?_ q) (fun _ q => q) fun _ _ q => q
   rcases hc with z | z
   · rw [z]; exact nit b u e
   · exact nit c _ z
theorem Inv.tok (I : Inv X pins σ H s) (t : Nat) : Inv X pins σ H { s with toks := t } := I.un (h' := s.heap) (t' := t) Un.refl I.hok
theorem Inv.kept {t' : Nat} (I : Inv X pins σ H s) (k : ∀ b u, s.heap.get? b = some u -> h'.get? b = some u) : Inv X pins σ H { s with heap := h', toks := t' } := I.un (Un.kept k) (I.hok.kept k)
theorem Inv.laid {a : Addr} {o : HO} {t' : Nat} (I : Inv X pins σ H s) (k : ∀ b u, s.heap.get? b = some u -> h'.get? b = some u) (hp : s.heap.objs.size <= a) (new : ObjOk X.prog X.w (upd H a o) h' a o) :
   Inv X pins σ (upd H a o) { s with heap := h', toks := t' } := I.un (Un.laid k hp (I.hok.fresh hp)) (I.hok.laid k hp new)
theorem Inv.write {x e : Addr} {o : HO} {t' : Nat} (I : Inv X pins σ H s) (mu : Mut (H x)) (he : e = x \/ H e = some (.own x)) (k : ∀ b u, b ≠ e -> s.heap.get? b = some u -> h'.get? b = some u) (heo : ∃ u, h'.get? e = some u)
   (new : ObjOk X.prog X.w (upd H x o) h' x o) : Inv X pins σ (upd H x o) { s with heap := h', toks := t' } := I.un (Un.write mu he k heo) (I.hok.write mu he k heo new)
theorem Inv.pins_of {pins' : List (Addr × Obj)} (I : Inv X pins σ H s) (h : ∀ p ∈ pins', s.heap.get? p.1 = some p.2 /\ H p.1 = none /\ p.1 ≠ X.env.locals /\ p.1 ∉ X.fs /\ ∀ v, p.2.data ≠ .cell v) : Inv X pins' σ H s :=
 ⟨I.ok, I.os, I.bare, I.base, I.loc, I.cell, I.free, I.freeC, fun p hp => (List.mem_append.mp hp).elim (fun z => I.pin p (List.mem_append_left _ z)) (h p), I.hok, I.len⟩
theorem nodup_ix {N : List Str} (hN : N.Nodup) {i j : Nat} {x : Str} (a : N[i]? = some x) (b : N[j]? = some x) : i = j := by
 obtain ⟨h1, e1⟩ := List.getElem?_eq_some_iff.mp a
 obtain ⟨h2, e2⟩ := List.getElem?_eq_some_iff.mp b
 exact (List.getElem_inj hN).mp (e1.trans e2.symm)
theorem vX {M : Model} {A : Around} {E : Value -> Shared -> Prop} {i : Nat} {x : Str} {v : V} {u : Value} {Q : Unit -> Shared -> Prop} (I : Inv X pins σ H s) (hN : X.N.Nodup) (hi : X.N[i]? = some x) (hx : Loc X.env.scope x) (r : RelV v u)
   (h : ∀ s', Inv X pins (σ.set i (some v)) H s' -> (∃ a, Heap.SameBut a s.heap s'.heap /\ (a = X.env.locals \/ X.env.cells.lookup x = some a)) -> Q () s') (hf : X.fn x = true \/ X.env.scope.names.lookup x = some .local := by first | exact .inl rfl | exact .inr rfl | assumption) : wpAny M A (storeName X.env x u) Q E s := by
 obtain ⟨m, hn, hl⟩ := id I.loc
 have hcls : (X.env.scope.kind == .class || (X.env.scope.kind == .module && X.env.locals != X.env.globals)) = false := by rw [I.ok.kind]; rfl
 have hiσ : i < σ.length := by rw [I.len]; exact (List.getElem?_eq_some_iff.mp hi).1
 have cne := I.cne
 have tracked : ∀ {a : Addr} {h' : Heap}, (∃ o, s.heap.get? a = some o /\ H a = none) -> Heap.SameBut a s.heap h' -> HOk X.prog X.w H h' := fun {a h'} ha hs b ob e => by
   obtain ⟨_, _, hfree⟩ := ha
   refine (I.hok b ob e).stay (fun c w' hc q => (hs.2 c ?_).trans q) (fun _ q => q) fun _ _ q => q
   rintro rfl
   rcases hc with rfl | hc
   · rw [hfree] at e; cases e
   · rw [hfree] at hc; cases hc
 rcases hx with hk | hk
 · refine wpAny_storeName_local hk hn (fun h' hn' hs => ?_) hcls
   obtain ⟨oL, _, _, hoL, _⟩ := id hn
   refine h _ ⟨I.ok, I.os, I.bare, ⟨fun b o e n hb hx => ?_, fun b o e n hb hx => ?_, I.base.free, fun b o e hx => ?_, I.base.tups, I.base.frzs, I.base.tbls⟩, ⟨_, hn', fun j y v' e1 e2 e3 => ?_⟩, fun y c e => ?_, I.free, I.freeC, fun p hp => ?_, tracked ⟨oL, hoL, I.free⟩ hs, by simpa using I.len⟩ ⟨_, hs, .inl rfl⟩
   · exact (hs.2 b (Nat.ne_of_lt (Nat.lt_of_lt_of_le (Heap.lt_size e) I.ok.above))).trans (I.base.keep b o e n hb hx)
   · obtain ⟨sl, e1⟩ := I.base.slot b o e n hb hx
     exact ⟨sl, (hs.2 b (Nat.ne_of_lt (Nat.lt_of_lt_of_le (Heap.lt_size e) I.ok.above))).trans e1⟩
   · obtain ⟨o', e1⟩ := I.base.there b o e hx
     exact ⟨o', (hs.2 b (Nat.ne_of_lt (Nat.lt_of_lt_of_le (Heap.lt_size e) I.ok.above))).trans e1⟩
   · by_cases hj : j = i
     · subst hj
       rw [hi] at e1; cases e1
       rw [List.getElem?_set_self hiσ] at e2
       cases e2
       exact ⟨u, r, .inl ⟨hk, by simp⟩⟩
     · rw [List.getElem?_set_ne (Ne.symm hj)] at e2
       obtain ⟨u', r', q⟩ := hl j y v' e1 e2 e3
       refine ⟨u', r', ?_⟩
       rcases q with ⟨k, e⟩ | ⟨k, c, e, z⟩
       · refine .inl ⟨k, ?_⟩
         have : y ≠ x := fun e => hj (nodup_ix hN e1 (e ▸ hi))
         simp [this, e]
       · exact .inr ⟨k, c, e, z.sameBut hs (cne y c e)⟩
   · obtain ⟨w', z⟩ := I.cell y c e
     exact ⟨w', z.sameBut hs (cne y c e)⟩
   · obtain ⟨e, n, ne, nf, d⟩ := I.pin p hp
     exact ⟨(hs.2 p.1 ne).trans e, n, ne, nf, d⟩
 · have hfn : X.fn x = true := by
     rcases hf with z | z
     · exact z
     · rw [z] at hk; cases hk
   obtain ⟨c, hc⟩ := I.ok.has x (.inl hk)
   obtain ⟨w', z⟩ := I.cell x c hc
   refine wpAny_storeName_cell I.ok.kind hk hc z (fun h' hc' hs => ?_)
   obtain ⟨oc, hoc, hocd⟩ := id z
   refine h { s with heap := h' } ⟨I.ok, I.os, I.bare, ⟨fun b o e n hb hx => ?_, fun b o e n hb hx => ?_, I.base.free, fun b o e hx => ?_, I.base.tups, I.base.frzs, I.base.tbls⟩, ⟨m, hn.sameBut hs (Ne.symm (cne x c hc)), fun j y v' e1 e2 e3 => ?_⟩, fun y c' e => ?_, I.free, I.freeC, fun p hp => ?_, tracked ⟨oc, hoc, I.freeC x c hc⟩ hs, by simpa using I.len⟩ ⟨c, hs, .inr hc⟩
   · exact (hs.2 b (Nat.ne_of_lt (Nat.lt_of_lt_of_le (Heap.lt_size e) (I.ok.cab x c hfn hc)))).trans (I.base.keep b o e n hb hx)
   · obtain ⟨sl, e1⟩ := I.base.slot b o e n hb hx
     exact ⟨sl, (hs.2 b (Nat.ne_of_lt (Nat.lt_of_lt_of_le (Heap.lt_size e) (I.ok.cab x c hfn hc)))).trans e1⟩
   · obtain ⟨o', e1⟩ := I.base.there b o e hx
     exact ⟨o', (hs.2 b (Nat.ne_of_lt (Nat.lt_of_lt_of_le (Heap.lt_size e) (I.ok.cab x c hfn hc)))).trans e1⟩
   · by_cases hj : j = i
     · subst hj
       rw [hi] at e1; cases e1
       rw [List.getElem?_set_self hiσ] at e2
       cases e2
       exact ⟨u, r, .inr ⟨.inl hk, c, hc, hc'⟩⟩
     · rw [List.getElem?_set_ne (Ne.symm hj)] at e2
       obtain ⟨u', r', q⟩ := hl j y v' e1 e2 e3
       refine ⟨u', r', ?_⟩
       rcases q with q | ⟨k, c', e, z'⟩
       · exact .inl q
       · refine .inr ⟨k, c', e, z'.sameBut hs ?_⟩
         rintro rfl
         exact hj (nodup_ix hN e1 (I.ok.inj _ _ _ e hc ▸ hi))
   · by_cases hcc : c' = c
     · subst hcc; exact ⟨_, hc'⟩
     · obtain ⟨w2, z2⟩ := I.cell y c' e
       exact ⟨w2, z2.sameBut hs hcc⟩
   · obtain ⟨e, n, ne, nf, d⟩ := I.pin p hp
     refine ⟨(hs.2 p.1 ?_).trans e, n, ne, nf, d⟩
     intro q
     rw [q, hoc] at e
     have q' : oc = p.2 := Option.some.inj e
     exact d w' (by rw [← q']; exact hocd)
theorem uQ {M : Model} {A : Around} {E : Value -> Shared -> Prop} {i : Nat} {x : Str} {v : V} {u : Value} {Q : Unit -> Shared -> Prop} (I : Inv X pins σ H s) (hN : X.N.Nodup) (hi : X.N[i]? = some x) (hx : Loc X.env.scope x) (r : RelV v u)
   (h : ∀ s', Inv X pins (σ.set i (some v)) H s' -> Q () s') (hf : X.fn x = true \/ X.env.scope.names.lookup x = some .local := by first | exact .inl rfl | exact .inr rfl | assumption) : wpAny M A (storeName X.env x u) Q E s :=
 vX I hN hi hx r (fun s' I' _ => h s' I') hf
theorem Inv.call' {s' : Shared} {ch : List Addr} (I : Inv X pins σ H s) (ho : s'.os = s.os) (u : Un (frs X.stack) ch H H' s.heap s'.heap) (hok : HOk X.prog X.w H' s'.heap) (hg : AllBare s'.gens)
   (hch : ∀ b ∈ ch, (b ∈ X.ex \/ X.s₀.heap.objs.size <= b) /\ b ≠ X.env.locals /\ (∀ x c, X.env.cells.lookup x = some c -> c ≠ b) /\ ∀ p ∈ X.pn ++ pins, p.1 ≠ b) : Inv X pins σ H' s' := by
 obtain ⟨h', g', d', t', o'⟩ := s'
 have e : o' = s.os := ho
 subst e
 exact I.call (g' := g') (t' := t') (d' := d') u hok hg hch
end
abbrev XK := Value -> Option Addr -> Hp -> Prop
abbrev St := List (Option V)
abbrev VK := V -> Hp -> Prop
abbrev TE := St -> Hp -> VK -> Prop
abbrev TT := St -> Hp -> (Bool -> Hp -> Prop) -> Prop
abbrev TA := St -> Hp -> (List V -> Hp -> Prop) -> Prop
structure Ends where
 nx : St -> Hp -> Prop
 rt : VK
 bk : St -> Hp -> Prop := fun _ _ => False
 ct : St -> Hp -> Prop := fun _ _ => False
abbrev TS := Ends -> St -> Hp -> Prop
def EP (X : Cx) (pins : List (Addr × Obj)) (σ : St) (Q : VK) (u : Value) (s' : Shared) : Prop := ∃ v H', Inv X pins σ H' s' /\ RelV v u /\ Q v H'
def TP (X : Cx) (pins : List (Addr × Obj)) (σ : St) (Q : Bool -> Hp -> Prop) (b : Bool) (s' : Shared) : Prop := ∃ H', Inv X pins σ H' s' /\ Q b H'
def AP (X : Cx) (pins : List (Addr × Obj)) (σ : St) (Q : List V -> Hp -> Prop) (us : List Value) (s' : Shared) : Prop := ∃ vs H', Inv X pins σ H' s' /\ Vals vs us /\ Q vs H'
def SP (X : Cx) (pins : List (Addr × Obj)) (D : Ends) (f : Flow) (s' : Shared) : Prop :=
 match f with
 | .next => ∃ σ' H', Inv X pins σ' H' s' /\ D.nx σ' H'
 | .brk => ∃ σ' H', Inv X pins σ' H' s' /\ D.bk σ' H'
 | .cont => ∃ σ' H', Inv X pins σ' H' s' /\ D.ct σ' H'
 | .ret u => ∃ v σ' H', Inv X pins σ' H' s' /\ RelV v u /\ D.rt v H'
def PE (X : Cx) (e : Expr) (t : TE) : Prop :=
 ∀ (pins : List (Addr × Obj)) (s : Shared) (σ : St) (H : Hp) (Q : VK), Inv X pins σ H s -> t σ H Q -> wpAny (model X.prog X.w) X.A (eval e X.env) (EP X pins σ Q) X.xe s
def PT (X : Cx) (e : Expr) (t : TT) : Prop :=
 ∀ (pins : List (Addr × Obj)) (s : Shared) (σ : St) (H : Hp) (Q : Bool -> Hp -> Prop), Inv X pins σ H s -> t σ H Q -> wpAny (model X.prog X.w) X.A (isTrue e X.env (eval e X.env)) (TP X pins σ Q) X.xe s
def PW (X : Cx) (e : Expr) (t : TT) : Prop :=
 ∀ (whole : Sem Value) (pins : List (Addr × Obj)) (s : Shared) (σ : St) (H : Hp) (Q : Bool -> Hp -> Prop), Inv X pins σ H s -> t σ H Q -> wpAny (model X.prog X.w) X.A (isTrue e X.env whole) (TP X pins σ Q) X.xe s
theorem PW.pt {X : Cx} {e : Expr} {t : TT} (h : PW X e t) : PT X e t := h _
def PA (X : Cx) (es : List Expr) (t : TA) : Prop :=
 ∀ (pos : Pos) (pins : List (Addr × Obj)) (s : Shared) (σ : St) (H : Hp) (Q : List V -> Hp -> Prop), Inv X pins σ H s -> t σ H Q -> wpAny (model X.prog X.w) X.A (spliced (backTo pos (starEach es X.env))) (AP X pins σ Q) X.xe s
def PS (X : Cx) (st : Stmt) (t : TS) : Prop :=
 ∀ (pins : List (Addr × Obj)) (s : Shared) (σ : St) (H : Hp) (D : Ends), Inv X pins σ H s -> t D σ H -> wpAny (model X.prog X.w) X.A (exec st X.env) (SP X pins D) X.xe s
def PSs (X : Cx) (st : List Stmt) (t : TS) : Prop :=
 ∀ (pins : List (Addr × Obj)) (s : Shared) (σ : St) (H : Hp) (D : Ends), Inv X pins σ H s -> t D σ H -> wpAny (model X.prog X.w) X.A (execs st X.env) (SP X pins D) X.xe s
theorem thn {α : Type} {t : Sem α} {Q Q' : α -> Shared -> Prop} {M : Model} {A : Around} {E : Value -> Shared -> Prop} {s : Shared} (h : wpAny M A t Q E s) (hQ : ∀ a s, Q a s -> Q' a s) : wpAny M A t Q' E s := wpAny_mono h hQ fun _ _ x => x
section
variable {X : Cx}
def tVar (i : Nat) : TE := fun σ H Q => ∃ v, σ[i]? = some (some v) /\ Q v H
def tC (v : V) : TE := fun _ H Q => Q v H
theorem pe_var {i : Nat} {x : Str} {pos : Pos} (hN : X.N[i]? = some x) (hv : Vis X.env.scope x) (hd : (x == ("__debug__" : Str)) = false := by decide) (hcd : (x == ("__classdict__" : Str)) = false := by decide) : PE X (.Name x pos) (tVar i) := by
 intro pins s σ H Q I h
 obtain ⟨v, e, h⟩ := h
 obtain ⟨m, hn, hl⟩ := I.loc
 obtain ⟨u, r, l⟩ := hl i x v hN e hv
 have fin : EP X pins σ Q u s := ⟨v, H, I, r, h⟩
 rcases l with ⟨hk, hm⟩ | ⟨hk, c, hc, hcell⟩
 · exact wpAny_Name (wpAny_loadName_local I.ok.kind hk hn hm fin) hd
 · rcases hk with hk | hk
   · exact wpAny_Name (wpAny_loadName_cell I.ok.kind hk hc hcell fin) hd
   · exact wpAny_Name (wpAny_loadName_free I.ok.kind hk hc hcell fin hcd) hd
theorem zE {i j pos} : PE X (.Constant (.int i) j pos) (tC (.int i)) := fun _ _ _ H _ I h => wpAny_Constant_int ⟨.int i, H, I.tok _, ⟨_, rfl⟩, h⟩
theorem xL {b j pos} : PE X (.Constant (.bool b) j pos) (tC (.bl b)) := fun _ _ _ H _ I h => Constant_bool ⟨.bl b, H, I, rfl, h⟩
theorem pe_non {j pos} : PE X (.Constant .none j pos) (tC .non) := fun _ _ _ H _ I h => Constant_none ⟨.non, H, I, rfl, h⟩
theorem yL {x j pos} : PE X (.Constant (.str x) j pos) (tC (.str x)) := fun _ _ _ H _ I h => Calls.Constant_str ⟨.str x, H, I.tok _, ⟨_, rfl⟩, h⟩
def Gl (X : Cx) (x : Str) : Prop := X.env.kindOf x = some .globalImplicit
theorem ld_glob {E : Value -> Shared -> Prop} {pins : List (Addr × Obj)} {s : Shared} {σ : St} {H : Hp} {x : Str} {u : Value} {pos : Pos} {Q : Value -> Shared -> Prop} (I : Inv X pins σ H s) (hg : Gl X x) (hm : X.mg x = some u) (h : Q u s)
   (hd : (x == ("__debug__" : Str)) = false := by decide) : wpAny (model X.prog X.w) X.A (eval (.Name x pos) X.env) Q E s :=
 Calls.Name_function_global I.ok.kind hg (Calls.loadGlobal_global (by rw [I.ok.glob]; exact I.mod.glob.keeps I.bk) hm h) hd
theorem qW {E : Value -> Shared -> Prop} {pins : List (Addr × Obj)} {s : Shared} {σ : St} {H : Hp} {x : Str} {u : Value} {pos : Pos} {Q : Value -> Shared -> Prop} (I : Inv X pins σ H s) (hg : Gl X x) (hm : X.mg x = none) (hv : bootBuiltins x = some u) (h : Q u s)
   (hn : x ≠ "__name__" := by decide) (hd : (x == ("__debug__" : Str)) = false := by decide) : wpAny (model X.prog X.w) X.A (eval (.Name x pos) X.env) Q E s := by
 obtain ⟨mb, h1, h2⟩ := I.mod.blt
 exact Calls.Name_function_global I.ok.kind hg (Calls.loadGlobal_builtin (by rw [I.ok.glob]; exact I.mod.glob.keeps I.bk) hm (by rw [I.ok.blt]; exact h1.keeps I.bk) ((h2 x hn).trans hv) h) hd
theorem pe_bltn {x : Str} {v : V} {u : Value} {pos : Pos} (hg : Gl X x) (hm : X.mg x = none) (hv : bootBuiltins x = some u) (r : RelV v u) (hn : x ≠ "__name__" := by decide) (hd : (x == ("__debug__" : Str)) = false := by decide) : PE X (.Name x pos) (tC v) :=
 fun _ _ _ H _ I h => qW I hg hm hv ⟨v, H, I, r, h⟩ hn hd
variable {a b : Expr} {ta tb : TE} {pos : Pos}
def PC (X : Cx) (op : CmpOp) (a b : Expr) (t : TE) : Prop :=
 ∀ (pins : List (Addr × Obj)) (s : Shared) (σ : St) (H : Hp) (Q : VK), Inv X pins σ H s -> t σ H Q ->
   wpAny (model X.prog X.w) X.A (eval a X.env) (fun v s₁ => wpAny (model X.prog X.w) X.A (eval b X.env) (fun u s₂ => wpAny (model X.prog X.w) X.A (compareOp op v u) (EP X pins σ Q) X.xe s₂) X.xe s₁) X.xe s
theorem nobehind (b : Expr) {op : CmpOp} (h : op ≠ .In) (h2 : op ≠ .NotIn) : behindInMarks op b = false := by
 have e1 : (op == CmpOp.In) = false := by cases op <;> first | rfl | exact absurd rfl h
 have e2 : (op == CmpOp.NotIn) = false := by cases op <;> first | rfl | exact absurd rfl h2
 cases b <;> simp [behindInMarks, e1, e2]
def tB (t : TE) : TT := fun σ H Q => t σ H fun x H1 => ∃ c, x = .bl c /\ Q c H1
theorem pe_cmp {op : CmpOp} {t : TE} (h : PC X op a b t) (h1 : behindInMarks op b = false := by first | exact nobehind _ (by decide) (by decide) | rfl) : PE X (.Compare a [op] [b] pos) t := fun pins s σ H Q I hw => wpAny_Compare1 (h pins s σ H Q I hw) h1
theorem uT {op : CmpOp} {t : TE} (h : PC X op a b t) (h1 : behindInMarks op b = false := by first | exact nobehind _ (by decide) (by decide) | rfl) : PT X (.Compare a [op] [b] pos) (tB t) := by
 intro pins s σ H Q I hw
 refine wpAny_isTrue_Compare1 (thn (h pins s σ H _ I hw) fun v s1 h1 => thn h1 fun u s2 h2 => thn h2 fun c s3 ⟨x, H1, I1, r1, q1⟩ => ?_) h1
 obtain ⟨d, rfl, q⟩ := q1
 cases r1
 exact wpAny_truthy_bool ⟨H1, I1, q⟩
theorem yU {e : Expr} {t : TE} (h : PE X e t) (he : ∀ whole, isTrue e X.env whole = (do let v ← whole; standAt e.pos; holding [v] (truthy v)) := by intro _; rfl) : PT X e (tB t) := by
 intro pins s σ H Q I hw
 refine isTrue_plain (thn (h pins s σ H _ I hw) fun v s1 ⟨x, H1, I1, r1, q1⟩ => ?_) (he _)
 obtain ⟨d, rfl, q⟩ := q1
 cases r1
 exact wpAny_truthy_bool ⟨H1, I1, q⟩
variable {tA tB' : TT} {rest : List Expr}
def tAnd (t u : TT) : TT := fun σ H Q => t σ H fun c H1 => if c = true then u σ H1 Q else Q false H1
def tOr (t u : TT) : TT := fun σ H Q => t σ H fun c H1 => if c = true then Q true H1 else u σ H1 Q
def tNot (t : TT) : TT := fun σ H Q => t σ H fun c H1 => Q (!c) H1
theorem qM (ha : PT X a tA) : PW X (.BoolOp .And [a] pos) tA := by
 intro wh pins s σ H Q I h
 refine isTrue_and (thn (ha pins s σ H Q I h) fun c s1 e => ?_)
 cases c with
 | true => exact isTrue_and_nil e
 | false => exact e
theorem qE (ha : PT X a tA) : PW X (.BoolOp .Or [a] pos) tA := by
 intro wh pins s σ H Q I h
 refine isTrue_or (thn (ha pins s σ H Q I h) fun c s1 e => ?_)
 cases c with
 | false => exact isTrue_or_nil e
 | true => exact e
theorem uS (ha : PT X a tA) (hb : PW X (.BoolOp .And (b :: rest) pos) tB') : PW X (.BoolOp .And (a :: b :: rest) pos) (tAnd tA tB') := by
 intro wh pins s σ H Q I h
 refine isTrue_and (thn (ha pins s σ H _ I h) fun c s1 ⟨H1, I1, q1⟩ => ?_)
 cases c with
 | true => exact hb wh pins s1 σ H1 Q I1 q1
 | false => exact ⟨H1, I1, q1⟩
theorem xR (ha : PT X a tA) (hb : PW X (.BoolOp .Or (b :: rest) pos) tB') : PW X (.BoolOp .Or (a :: b :: rest) pos) (tOr tA tB') := by
 intro wh pins s σ H Q I h
 refine isTrue_or (thn (ha pins s σ H _ I h) fun c s1 ⟨H1, I1, q1⟩ => ?_)
 cases c with
 | true => exact ⟨H1, I1, q1⟩
 | false => exact hb wh pins s1 σ H1 Q I1 q1
theorem xK (ha : PT X a tA) : PT X (.UnaryOp .Not a pos) (tNot tA) := by
 intro pins s σ H Q I h
 exact isTrue_not (ha pins s σ H (fun c H1 => Q (!c) H1) I h)
def tAndV (ta tb : TE) : TE := fun σ H Q => ta σ H fun x H1 => ∃ c, x = .bl c /\ if c = true then tb σ H1 Q else Q (.bl false) H1
def tOrV (ta tb : TE) : TE := fun σ H Q => ta σ H fun x H1 => ∃ c, x = .bl c /\ if c = true then Q (.bl true) H1 else tb σ H1 Q
def tNotV (ta : TE) : TE := fun σ H Q => ta σ H fun x H1 => ∃ c, x = .bl c /\ Q (.bl (!c)) H1
theorem uV {op} {t : TE} (h : PE X a t) : PE X (.BoolOp op [a] pos) t := fun pins s σ H Q I hw => BoolOp_one (h pins s σ H Q I hw)
theorem qU (ha : PE X a ta) (hb : PE X (.BoolOp .And (b :: rest) pos) tb) : PE X (.BoolOp .And (a :: b :: rest) pos) (tAndV ta tb) := by
 intro pins s σ H Q I h
 refine BoolOp_and (thn (ha pins s σ H _ I h) fun v s1 ⟨x, H1, I1, r1, q1⟩ => ?_)
 obtain ⟨c, rfl, q1⟩ := q1
 cases r1
 refine wpAny_truthy_bool ?_
 cases c with
 | true => exact hb pins s1 σ H1 Q I1 q1
 | false => exact ⟨.bl false, H1, I1, rfl, q1⟩
theorem pe_not (ha : PE X a ta) : PE X (.UnaryOp .Not a pos) (tNotV ta) := by
 intro pins s σ H Q I h
 refine UnaryOp_ (thn (ha pins s σ H _ I h) fun v s1 ⟨x, H1, I1, r1, q1⟩ => ?_)
 obtain ⟨c, rfl, q1⟩ := q1
 cases r1
 exact not_of (wpAny_truthy_bool ⟨.bl (!c), H1, I1, rfl, q1⟩)
def tIf (t : TT) (ta tb : TE) : TE := fun σ H Q => t σ H fun c H1 => if c = true then ta σ H1 Q else tb σ H1 Q
end
def SqL (K : PySem.W.Frag) (H : Hp) (a : Addr) (xs : List V) : Prop :=
 Rd H a (.lst xs) \/
   ∃ (o : Obj) (its : Array Value) (n : Nat), K.lookup a = some o /\ o.cls = .type "list" /\ o.dict = none /\ o.data = .seq its n /\ its.size <= sizeLine /\ Vals xs its.toList
def SqT (K : PySem.W.Frag) (H : Hp) (a : Addr) (xs : List V) : Prop :=
 Rd H a (.tup xs) \/
   ∃ (o : Obj) (its : Array Value) (n : Nat), K.lookup a = some o /\ o.cls = .type "tuple" /\ o.data = .seq its n /\ its.size <= sizeLine /\ Vals xs its.toList
def absV : Value -> Option V
 | .none => some .non
 | .bool b => some (.bl b)
 | .int i _ => some (.int i)
 | .str x _ => some (.str x)
 | .bytes b _ => some (.byt b)
 | .float b _ => some (.flt b)
 | .ref a => some (.ref a)
 | .type n => some (.ty n)
 | _ => none
theorem RelV.abs {x : V} {u : Value} (r : RelV x u) : absV u = some x := by
 cases x with
 | non => cases r; rfl
 | bl _ => cases r; rfl
 | int _ => obtain ⟨t, rfl⟩ := r; rfl
 | str _ => obtain ⟨t, rfl⟩ := r; rfl
 | byt _ => obtain ⟨t, rfl⟩ := r; rfl
 | flt _ => obtain ⟨t, rfl⟩ := r; rfl
 | ref _ => cases r; rfl
 | ty _ => cases r; rfl
theorem RelV.inj {x y : V} {u : Value} (r : RelV x u) (q : RelV y u) : x = y := Option.some.inj (r.abs.symm.trans q.abs)
theorem Vals.inj : ∀ {xs ys : List V} {us : List Value}, Vals xs us -> Vals ys us -> xs = ys
 | _, _, _, .nil, .nil => rfl
 | _, _, _, .cons r t, .cons r' t' => by rw [r.inj r', Vals.inj t t']
section
variable {X : Cx} {pins : List (Addr × Obj)} {σ : St} {H : Hp} {s : Shared} {a : Addr} {xs ys : List V}
theorem SqL.of {K : PySem.W.Frag} (h : H a = some (.lst xs)) : SqL K H a xs := .inl (.inl h)
theorem SqT.of {K : PySem.W.Frag} (h : H a = some (.tup xs)) : SqT K H a xs := .inl (.inl h)
theorem Inv.list (I : Inv X pins σ H s) (h : SqL X.K H a xs) : ∃ its : List Value, Vals xs its /\ PlainL s.heap a its.toArray /\ xs.length <= sizeLine := by
 rcases h with h | ⟨o, its, n, hk, hc, hd, hs, hz, r⟩
 · obtain ⟨z, its, n, r, e⟩ := h.ok I.hok
   exact ⟨its, r, ⟨_, n, e, rfl, rfl, rfl⟩, z⟩
 · refine ⟨its.toList, r, ⟨o, n, I.kIn a o hk, hc, hd, by simpa using hs⟩, ?_⟩
   have e := r.length
   simp only [Array.length_toList] at e
   omega
theorem Inv.tuple (I : Inv X pins σ H s) (h : SqT X.K H a xs) : ∃ its : List Value, Vals xs its /\ IsTup s.heap a its.toArray /\ xs.length <= sizeLine := by
 rcases h with h | ⟨o, its, n, hk, hc, hs, hz, r⟩
 · obtain ⟨z, its, r, p⟩ := h.ok I.hok
   exact ⟨its, r, p, z⟩
 · refine ⟨its.toList, r, ⟨o, I.kIn a o hk, hc, n, by simpa using hs⟩, ?_⟩
   have e := r.length
   simp only [Array.length_toList] at e
   omega
theorem Inv.list_inj (I : Inv X pins σ H s) (h : SqL X.K H a xs) (h' : SqL X.K H a ys) : xs = ys := by
 obtain ⟨its, r, ⟨o, n, e, _, _, d⟩, _⟩ := I.list h
 obtain ⟨its', r', ⟨o', n', e', _, _, d'⟩, _⟩ := I.list h'
 rw [e] at e'; cases e'
 rw [d] at d'
 injection d' with d1 _
 have : its = its' := by simpa using congrArg Array.toList d1
 subst this
 exact r.inj r'
theorem Inv.tuple_inj (I : Inv X pins σ H s) (h : SqT X.K H a xs) (h' : SqT X.K H a ys) : xs = ys := by
 obtain ⟨its, r, ⟨o, e, _, n, d⟩, _⟩ := I.tuple h
 obtain ⟨its', r', ⟨o', e', _, n', d'⟩, _⟩ := I.tuple h'
 rw [e] at e'; cases e'
 rw [d] at d'
 injection d' with d1 _
 have : its = its' := by simpa using congrArg Array.toList d1
 subst this
 exact r.inj r'
end
abbrev Cx.wish (X : Cx) (E : Value -> Shared -> Prop) : Cx := { X with xe := E }
abbrev Cx.nox (X : Cx) : Cx := X.wish fun _ _ => False
theorem Cx.Ok.wish {X : Cx} (ok : X.Ok) (E : Value -> Shared -> Prop) : (X.wish E).Ok :=
 ⟨ok.mod, ok.kind, ok.glob, ok.blt, ok.above, ok.inj, ok.has, ok.cab, ok.hd, ok.frames, ok.stk, ok.exf, ok.bs, ok.bsz, ok.noex, ok.exfs, ok.funs, ok.frf⟩
theorem Cx.Ok.unwish {X : Cx} {E : Value -> Shared -> Prop} (ok : (X.wish E).Ok) : X.Ok :=
 ⟨ok.mod, ok.kind, ok.glob, ok.blt, ok.above, ok.inj, ok.has, ok.cab, ok.hd, ok.frames, ok.stk, ok.exf, ok.bs, ok.bsz, ok.noex, ok.exfs, ok.funs, ok.frf⟩
section
variable {X : Cx} {pins : List (Addr × Obj)} {σ : St} {H : Hp} {s : Shared} {E : Value -> Shared -> Prop}
theorem Inv.wish (I : Inv X pins σ H s) (E : Value -> Shared -> Prop) : Inv (X.wish E) pins σ H s := ⟨I.ok.wish E, I.os, I.bare, I.base, I.loc, I.cell, I.free, I.freeC, I.pin, I.hok, I.len⟩
theorem Inv.unwish (I : Inv (X.wish E) pins σ H s) : Inv X pins σ H s := ⟨I.ok.unwish, I.os, I.bare, I.base, I.loc, I.cell, I.free, I.freeC, I.pin, I.hok, I.len⟩
theorem SP.unwish {D : Ends} {f : Flow} {s' : Shared} (h : SP (X.wish E) pins D f s') : SP X pins D f s' := by
 cases f with
 | next => obtain ⟨σ', H', I, q⟩ := h; exact ⟨σ', H', I.unwish, q⟩
 | brk => obtain ⟨σ', H', I, q⟩ := h; exact ⟨σ', H', I.unwish, q⟩
 | cont => obtain ⟨σ', H', I, q⟩ := h; exact ⟨σ', H', I.unwish, q⟩
 | ret u => obtain ⟨v, σ', H', I, r, q⟩ := h; exact ⟨v, σ', H', I.unwish, r, q⟩
theorem PSs.nox {st : List Stmt} {t : TS} (h : PSs X.nox st t) : PSs X st t := fun pins s σ H D I hw =>
 wpAny_mono (h pins s σ H D (I.wish _) hw) (fun _ _ q => q.unwish) fun _ _ z => False.elim z
end
section
variable {X : Cx} {st : Stmt} {rest : List Stmt} {t u : TS} {e : Expr} {te : TE} {pos : Pos}
def tNext : TS := fun D σ H => D.nx σ H
def tSeq (t u : TS) : TS := fun D σ H => t { D with nx := u D } σ H
theorem pss_nil : PSs X [] tNext := fun _ _ σ H _ I h => wpAny_execs_nil ⟨σ, H, I, h⟩
theorem zC (h1 : PS X st t) (h2 : PSs X rest u) : PSs X (st :: rest) (tSeq t u) := by
 intro pins s σ H D I h
 refine wpAny_execs_cons (thn (h1 pins s σ H { D with nx := u D } I h) fun f s1 q => ?_)
 cases f with
 | next =>
   obtain ⟨σ', H', I', q⟩ := q
   exact h2 pins s1 σ' H' D I' q
 | ret v => exact q
 | brk => exact q
 | cont => exact q
theorem zF (h1 : PS X st t) : PSs X [st] t := by
 intro pins s σ H D I h
 refine wpAny_execs_cons (thn (h1 pins s σ H D I h) fun f s1 q => ?_)
 cases f with
 | next => exact wpAny_execs_nil q
 | ret v => exact q
 | brk => exact q
 | cont => exact q
theorem Inv.quiet {pins : List (Addr × Obj)} {σ : St} {H : Hp} {s : Shared} (I : Inv X pins σ H s) : interactive X.env = false := by simp [interactive, I.ok.kind]
def tDrop (te : TE) : TS := fun D σ H => te σ H fun _ H1 => D.nx σ H1
theorem zV (he : PE X e te) (hs : swapsWith e none pos.line X.env = pure false := by rfl) : PS X (.Expr e pos) (tDrop te) := by
 intro pins s σ H D I h
 exact wpAny_Expr_any (thn (he pins s σ H _ I h) fun v s1 ⟨x, H1, I1, r1, q1⟩ => ⟨σ, H1, I1, q1⟩) I.quiet hs
def tRet (te : TE) : TS := fun D σ H => te σ H D.rt
theorem zZ (he : PE X e te) : PS X (.Return (some e) pos) (tRet te) := by
 intro pins s σ H D I h
 exact wpAny_Return_some (thn (he pins s σ H _ I h) fun v s1 ⟨x, H1, I1, r1, q1⟩ => ⟨x, σ, H1, I1, r1, q1⟩)
def tRetN : TS := fun D _ H => D.rt .non H
theorem ps_retN : PS X (.Return none pos) tRetN := fun _ _ σ H _ I h => wpAny_Return_none ⟨.non, σ, H, I, rfl, h⟩
def tIfS (c : TT) (t u : TS) : TS := fun D σ H => c σ H fun b H1 => if b = true then t D σ H1 else u D σ H1
theorem yP {c : Expr} {a b : List Stmt} {tc : TT} (hc : PT X c tc) (ha : PSs X a t) (hb : PSs X b u) : PS X (.If c a b pos) (tIfS tc t u) := by
 intro pins s σ H D I h
 refine wpAny_If (thn (hc pins s σ H _ I h) fun d s1 ⟨H1, I1, q1⟩ => ?_)
 cases d with
 | true => exact ha pins s1 σ H1 D I1 q1
 | false => exact hb pins s1 σ H1 D I1 q1
end
abbrev TG := V -> St -> Hp -> (St -> Hp -> Prop) -> Prop
abbrev TGs := List V -> St -> Hp -> (St -> Hp -> Prop) -> Prop
def PG (X : Cx) (target : Expr) (t : TG) : Prop :=
 ∀ (pins : List (Addr × Obj)) (s : Shared) (σ : St) (H : Hp) (v : V) (u : Value) (Q : St -> Hp -> Prop), Inv X pins σ H s -> RelV v u -> t v σ H Q ->
   wpAny (model X.prog X.w) X.A (assign target X.env u) (fun _ s' => ∃ σ' H', Inv X pins σ' H' s' /\ Q σ' H') X.xe s
def PGs (X : Cx) (ts : List Expr) (t : TGs) : Prop :=
 ∀ (pins : List (Addr × Obj)) (s : Shared) (σ : St) (H : Hp) (vs : List V) (us : List Value) (Q : St -> Hp -> Prop), Inv X pins σ H s -> Vals vs us -> t vs σ H Q ->
   wpAny (model X.prog X.w) X.A (assignInOrder ((assignEach ts X.env).map (·.2)) us) (fun _ s' => ∃ σ' H', Inv X pins σ' H' s' /\ Q σ' H') X.xe s
abbrev TSet := V -> V -> V -> Hp -> (Hp -> Prop) -> Prop
def PSet (X : Cx) (t : TSet) : Prop :=
 ∀ (pins : List (Addr × Obj)) (s : Shared) (σ : St) (H : Hp) (o i v : V) (ov iv u : Value) (Q : Hp -> Prop), Inv X pins σ H s -> RelV o ov -> RelV i iv -> RelV v u -> t o i v H Q ->
   wpAny (model X.prog X.w) X.A (setItem ov iv u) (fun _ s' => ∃ H', Inv X pins σ H' s' /\ Q H') X.xe s
abbrev TIp := V -> V -> Hp -> VK -> Prop
def PIp (X : Cx) (op : Operator) (t : TIp) : Prop :=
 ∀ (pins : List (Addr × Obj)) (s : Shared) (σ : St) (H : Hp) (x y : V) (v u : Value) (Q : VK), Inv X pins σ H s -> RelV x v -> RelV y u -> t x y H Q ->
   wpAny (model X.prog X.w) X.A (inplaceOp op v u) (EP X pins σ Q) X.xe s
section
variable {X : Cx} {pos : Pos}
def gName (i : Nat) : TG := fun v σ H Q => Q (σ.set i (some v)) H
theorem zJ {i : Nat} {x : Str} (hN : X.N.Nodup) (hi : X.N[i]? = some x) (hx : Loc X.env.scope x) (hf : X.fn x = true \/ X.env.scope.names.lookup x = some .local := by first | exact .inl rfl | exact .inr rfl | assumption) : PG X (.Name x pos) (gName i) := by
 intro pins s σ H v u Q I r h
 exact wpAny_assign_Name (uQ I hN hi hx r (fun s' I' => ⟨_, H, I', h⟩) hf)
def gNil : TGs := fun vs σ H Q => vs = [] /\ Q σ H
def jE (t : TG) (u : TGs) : TGs := fun vs σ H Q => ∃ v r, vs = v :: r /\ t v σ H fun σ' H' => u r σ' H' Q
theorem pgs_nil : PGs X [] gNil := by
 intro pins s σ H vs us Q I r h
 obtain ⟨e, h⟩ := h
 subst e
 cases r
 exact assignInOrder_nil ⟨σ, H, I, h⟩
theorem zX {e : Expr} {es : List Expr} {t : TG} {u : TGs} (h1 : PG X e t) (h2 : PGs X es u)
   (hs : (assignEach (e :: es) X.env).map (·.2) = assign e X.env :: (assignEach es X.env).map (·.2) := by rfl) : PGs X (e :: es) (jE t u) := by
 intro pins s σ H vs us Q I r h
 obtain ⟨v, vr, e1, h⟩ := h
 subst e1
 cases r with
 | cons r rr =>
   rw [hs]
   refine assignInOrder_cons (thn (h1 pins s σ H _ _ _ I r h) fun _ s1 ⟨σ1, H1, I1, q1⟩ => ?_)
   exact h2 pins s1 σ1 H1 _ _ Q I1 rr q1
def qG (K : PySem.W.Frag) (n : Nat) (t : TGs) : TG := fun v σ H Q => ∃ a xs, v = .ref a /\ SqT K H a xs /\ xs.length = n /\ t xs σ H Q
theorem jM {es : List Expr} {k : Nat} {t : TGs} {n : Nat} (hc : X.calm = true) (h : PGs X es t)
   (hn : (assignEach es X.env).length = n := by rfl) (hst : (assignEach es X.env).findIdx? (·.1) = none := by rfl) : PG X (.Tuple es k pos) (qG X.K n t) := by
 intro pins s σ H v u Q I r hw
 obtain ⟨a, xs, e1, hq, hl, hw⟩ := hw
 subst e1
 cases r
 obtain ⟨its, rv, ht, hz⟩ := I.tuple hq
 refine assign_Tuple_tuple (I.ok.hd hc) ht (by simp [hn, ← hl, rv.length]) hst fun h' hx => ?_
 have I1 : Inv X pins σ H { s with heap := h' } := I.kept (t' := s.toks) fun b o e => hx b o (Nat.ne_of_lt (Heap.lt_size e)) e
 exact h pins _ σ H xs _ Q I1 (by simpa using rv) hw
def gSub (to ti : TE) (t : TSet) : TG := fun v σ H Q => to σ H fun o H1 => ti σ H1 fun i H2 => t o i v H2 fun H3 => Q σ H3
theorem pg_sub {o i : Expr} {to ti : TE} {t : TSet} (ho : PE X o to) (hi : PE X i ti) (hs : PSet X t)
   (ha : ∀ v, assign (.Subscript o i pos) X.env v = (do
     let ov ← holding [v] (eval o X.env)
     let iv ← holding [v, ov] (eval i X.env)
     standAt pos
     holding [v, ov, iv] (setItem ov iv v)
     release [v, ov, iv] []) := by intro _; rfl) : PG X (.Subscript o i pos) (gSub to ti t) := by
 intro pins s σ H v u Q I r h
 rw [ha]
 refine wpAny_bind (wpAny_holding (thn (ho pins s σ H _ I h) fun ov s1 ⟨x, H1, I1, r1, q1⟩ => ?_))
 refine wpAny_bind (wpAny_holding (thn (hi pins s1 σ H1 _ I1 q1) fun iv s2 ⟨y, H2, I2, r2, q2⟩ => ?_))
 refine wpAny_bind (wpAny_standAt (wpAny_bind (wpAny_holding (thn (hs pins s2 σ H2 x y v ov iv u _ I2 r1 r2 r q2) fun _ s3 ⟨H3, I3, q3⟩ => ?_))))
 exact wpAny_release ⟨σ, H3, I3, q3⟩
def tAsg (te : TE) (g : TG) : TS := fun D σ H => te σ H fun x H1 => g x σ H1 D.nx
theorem ps_asg {tg e : Expr} {te : TE} {g : TG} (he : PE X e te) (hg : PG X tg g) (hs : swapsWithSole [tg] e pos.line X.env = pure false := by rfl) (hw : swappedStores [tg] e X.env = pure none := by rfl)
   (h1 : (assignEach [tg] X.env).map (·.2) = [assign tg X.env] := by rfl) : PS X (.Assign [tg] e pos) (tAsg te g) := by
 intro pins s σ H D I h
 refine wpAny_Assign_stores (thn (he pins s σ H _ I h) fun v s1 ⟨x, H1, I1, r1, q1⟩ => ?_) hs hw
 rw [h1]
 exact thn (hg pins s1 σ H1 x v _ I1 r1 q1) fun _ s2 q => q
theorem zO {i : Nat} {x : Str} {e : Expr} {te : TE} {pos' : Pos} (hN : X.N.Nodup) (hi : X.N[i]? = some x) (hx : Loc X.env.scope x) (he : PE X e te) (hs : swapsWith e (some (.Name x pos')) pos.line X.env = pure false := by rfl) (hf : X.fn x = true \/ X.env.scope.names.lookup x = some .local := by first | exact .inl rfl | exact .inr rfl | assumption) :
   PS X (.Assign [.Name x pos'] e pos) (tAsg te (gName i)) := by
 intro pins s σ H D I h
 refine wpAny_Assign_Name (thn (he pins s σ H _ I h) fun v s1 ⟨y, H1, I1, r1, q1⟩ => ?_) hs
 exact uQ I1 hN hi hx r1 (fun s2 I2 => ⟨_, H1, I2, q1⟩) hf
def tAug (i : Nat) (te : TE) (ti : TIp) : TS := fun D σ H => ∃ x, σ[i]? = some (some x) /\ te σ H fun y H1 => ti x y H1 fun z H2 => D.nx (σ.set i (some z)) H2
theorem ps_aug {i : Nat} {x : Str} {e : Expr} {te : TE} {op : Operator} {ti : TIp} {pos' : Pos} (hN : X.N.Nodup) (hi : X.N[i]? = some x) (hx : Loc X.env.scope x) (he : PE X e te) (ho : PIp X op ti) (hf : X.fn x = true \/ X.env.scope.names.lookup x = some .local := by first | exact .inl rfl | exact .inr rfl | assumption) :
   PS X (.AugAssign (.Name x pos') op e pos) (tAug i te ti) := by
 intro pins s σ H D I h
 obtain ⟨v, e1, h⟩ := h
 obtain ⟨m, hn, hl⟩ := I.loc
 have vis : Vis X.env.scope x := by rcases hx with k | k; exact .inl k; exact .inr (.inl k)
 obtain ⟨u, r, l⟩ := hl i x v hi e1 vis
 refine wpAny_AugAssign_Name ?_
 have go : wpAny (model X.prog X.w) X.A (eval e X.env) (fun w s₂ => wpAny (model X.prog X.w) X.A (inplaceOp op u w) (fun r s₃ => wpAny (model X.prog X.w) X.A (storeName X.env x r) (fun _ => SP X pins D .next) X.xe s₃) X.xe s₂) X.xe s := by
   refine thn (he pins s σ H _ I h) fun w s1 ⟨y, H1, I1, r1, q1⟩ => ?_
   refine thn (ho pins s1 σ H1 v y u w _ I1 r r1 q1) fun z s2 ⟨zv, H2, I2, r2, q2⟩ => ?_
   exact uQ I2 hN hi hx r2 (fun s3 I3 => ⟨_, H2, I3, q2⟩) hf
 rcases l with ⟨hk, hm⟩ | ⟨hk, c, hc, hcell⟩
 · exact wpAny_loadName_local I.ok.kind hk hn hm go
 · rcases hk with hk | hk
   · exact wpAny_loadName_cell I.ok.kind hk hc hcell go
   · rcases hx with k | k
     · have : X.env.scope.names.lookup x = some .free := hk
       rw [k] at this; cases this
     · have : X.env.scope.names.lookup x = some .free := hk
       rw [k] at this; cases this
def tAugS (to ti te : TE) (tget : V -> V -> Hp -> VK -> Prop) (tip : TIp) (tset : TSet) : TS := fun D σ H => to σ H fun o H1 => ti σ H1 fun i H2 => tget o i H2 fun x H3 => te σ H3 fun y H4 => tip x y H4 fun z H5 => tset o i z H5 fun H6 => D.nx σ H6
def PGet (X : Cx) (t : V -> V -> Hp -> VK -> Prop) : Prop :=
 ∀ (pins : List (Addr × Obj)) (s : Shared) (σ : St) (H : Hp) (o i : V) (ov iv : Value) (Q : VK), Inv X pins σ H s -> RelV o ov -> RelV i iv -> t o i H Q ->
   wpAny (model X.prog X.w) X.A (getItem ov iv) (EP X pins σ Q) X.xe s
theorem ps_augS {o i e : Expr} {to ti te : TE} {tget : V -> V -> Hp -> VK -> Prop} {tip : TIp} {tset : TSet} {op : Operator} {tpos : Pos} (ho : PE X o to) (hi : PE X i ti) (hg : PGet X tget) (he : PE X e te) (hp : PIp X op tip) (hs : PSet X tset)
   (ha : ∀ ov iv new, augStore i ov iv new = (do holding [new, ov, iv] (setItem ov iv new); release [new, ov, iv] []; pure .next) := by intros; rfl) : PS X (.AugAssign (.Subscript o i tpos) op e pos) (tAugS to ti te tget tip tset) := by
 intro pins s σ H D I h
 refine wpAny_AugAssign_SubscriptAny (thn (ho pins s σ H _ I h) fun ov s1 ⟨x1, H1, I1, r1, q1⟩ => ?_) ha
 refine thn (hi pins s1 σ H1 _ I1 q1) fun iv s2 ⟨x2, H2, I2, r2, q2⟩ => ?_
 refine thn (hg pins s2 σ H2 x1 x2 ov iv _ I2 r1 r2 q2) fun old s3 ⟨x3, H3, I3, r3, q3⟩ => ?_
 refine thn (he pins s3 σ H3 _ I3 q3) fun v s4 ⟨x4, H4, I4, r4, q4⟩ => ?_
 refine thn (hp pins s4 σ H4 x3 x4 old v _ I4 r3 r4 q4) fun new s5 ⟨x5, H5, I5, r5, q5⟩ => ?_
 exact thn (hs pins s5 σ H5 x1 x2 x5 ov iv new _ I5 r1 r2 r5 q5) fun _ s6 ⟨H6, I6, q6⟩ => ⟨σ, H6, I6, q6⟩
def ipI (f : Int -> Int -> Int) : TIp := fun x y H Q => ∃ i j, x = .int i /\ y = .int j /\ Q (.int (f i j)) H
theorem ip_add : PIp X .Add (ipI fun i j => i + j) := by
 intro pins s σ H x y v u Q I r1 r2 h
 obtain ⟨i, j, e1, e2, q⟩ := h
 subst e1; subst e2
 obtain ⟨t, rfl⟩ := r1
 obtain ⟨t', rfl⟩ := r2
 exact iadd_int ⟨.int _, H, I.tok _, ⟨_, rfl⟩, q⟩
end
section
variable {X : Cx} {pos : Pos}
def tWhile (c : TT) (tb : TS) : TS := fun D σ H => ∃ W : Nat -> St -> Hp -> Prop, (∃ m, W m σ H) /\ ∀ m σ H, W m σ H ->
 c σ H fun b H1 => if b = true then ∃ N : St -> Hp -> Prop, (∀ σ' H', N σ' H' -> ∃ m', m' < m /\ W m' σ' H') /\ tb { D with nx := N, ct := N, bk := D.nx } σ H1 else D.nx σ H1
theorem ps_while {c : Expr} {body : List Stmt} {tc : TT} {tb : TS} (hp : PassesOwn (model X.prog X.w) X.A X.env X.xe) (hc : PT X c tc) (hb : PSs X body tb) : PS X (.While c body [] pos) (tWhile tc tb) := by
 intro pins s σ H D I h
 obtain ⟨W, ⟨m0, w0⟩, turn⟩ := h
 refine wpAny_While (codeAny_whileLoop (fun n s' => ∃ σ' H', Inv X pins σ' H' s' /\ W n σ' H') ?_ m0 ⟨σ, H, I, w0⟩)
 rintro n s1 ⟨σ1, H1, I1, w1⟩
 refine wpAny_passesOwn hp (thn (hc pins s1 σ1 H1 _ I1 (turn n σ1 H1 w1)) fun b s2 ⟨H2, I2, q2⟩ => ?_)
 cases b with
 | true =>
   obtain ⟨N, hN, q2⟩ := q2
   rw [if_pos rfl]
   refine wpAny_passesOwn hp (thn (hb pins s2 σ1 H2 _ I2 q2) fun f s3 q3 => ?_)
   cases f with
   | next =>
     obtain ⟨σ3, H3, I3, n3⟩ := q3
     obtain ⟨m', hm, w3⟩ := hN σ3 H3 n3
     exact ⟨m', hm, σ3, H3, I3, w3⟩
   | cont =>
     obtain ⟨σ3, H3, I3, n3⟩ := q3
     obtain ⟨m', hm, w3⟩ := hN σ3 H3 n3
     exact ⟨m', hm, σ3, H3, I3, w3⟩
   | brk => exact q3
   | ret v => exact q3
 | false =>
   rw [if_neg Bool.false_ne_true]
   exact wpAny_execs_nil ⟨σ1, H2, I2, q2⟩
end
structure It where
 go : Nat -> Hp -> Prop
 yld : Nat -> Hp -> V -> Hp -> Prop
 stop : Nat -> Hp -> Prop
def vM (X : Cx) (pins : List (Addr × Obj)) (H : Hp) (b : Addr) : Prop :=
 H b = none /\ b ≠ X.env.locals /\ b ∉ X.fs /\ (b ∈ X.ex \/ X.s₀.heap.objs.size <= b) /\ (∀ x c, X.env.cells.lookup x = some c -> c ≠ b) /\ ∀ p ∈ X.pn ++ pins, p.1 ≠ b
theorem Inv.fpOk {X : Cx} {pins : List (Addr × Obj)} {σ : St} {H H' : Hp} {s : Shared} {b : Addr} (I : Inv X pins σ H s) (hb : s.heap.objs.size <= b) (hn : H' b = none) : vM X pins H' b := by
 refine ⟨hn, Nat.ne_of_gt (Nat.lt_of_lt_of_le I.lt hb), I.nofs hb, .inr (Nat.le_trans I.sz hb), fun x c e z => ?_, fun p hp z => ?_⟩
 · obtain ⟨v, q⟩ := I.cell x c e
   exact absurd (Nat.lt_of_lt_of_le q.lt (by rw [z]; exact hb)) (Nat.lt_irrefl _)
 · exact absurd (Nat.lt_of_lt_of_le (Heap.lt_size (I.pin p hp).1) (by rw [z]; exact hb)) (Nat.lt_irrefl _)
structure Turn (P : Program) (w : World) (K : PySem.W.Frag) (tg : Expr) (J : It) (fp : List Addr) (it : Addr) (tn : Nat -> Heap -> Prop) : Prop where
 mem : it ∈ fp
 obj : ∀ i h, tn i h -> ∀ b ∈ fp, ∃ o, h.get? b = some o /\ ∀ v, o.data ≠ .cell v
 keep : ∀ i h h', tn i h -> (∀ b ∈ fp, ∀ o, h.get? b = some o -> h'.get? b = some o) -> tn i h'
 item : ∀ (X : Cx), X.prog = P -> X.w = w -> X.K = K -> X.calm = true -> ∀ (i : Nat) (pins : List (Addr × Obj)) (s : Shared) (σ : St) (H : Hp) (E : Value -> Shared -> Prop), Inv X pins σ H s -> (∀ b ∈ fp, vM X pins H b) -> tn i s.heap -> J.go i H ->
   wpAny (model P w) X.A (pyNext (.ref it)) (fun r s1 => ∃ u, r = some u /\
     wpAny (model P w) X.A (letOwnedTupleGo tg (.ref it) u) (fun _ s2 => ∃ x H', Inv X pins σ H' s2 /\ RelV x u /\ J.yld i H x H' /\ tn (i + 1) s2.heap /\ ∀ b ∈ fp, H' b = none) E s1) E s
 done : ∀ (X : Cx), X.prog = P -> X.w = w -> X.K = K -> X.calm = true -> ∀ (i : Nat) (pins : List (Addr × Obj)) (s : Shared) (σ : St) (H : Hp) (E : Value -> Shared -> Prop), Inv X pins σ H s -> (∀ b ∈ fp, vM X pins H b) -> tn i s.heap -> J.stop i H ->
   wpAny (model P w) X.A (pyNext (.ref it)) (fun r s1 => r = none /\ Inv X pins σ H s1) E s
 self : ∀ (A : Around) (i : Nat) (s : Shared) (Q : Value -> Shared -> Prop) (E : Value -> Shared -> Prop), tn i s.heap -> Q (.ref it) s -> wpAny (model P w) A (pyIter (.ref it)) Q E s
abbrev TI := St -> Hp -> (It -> Hp -> Prop) -> Prop
def PIE (X : Cx) (pins : List (Addr × Obj)) (σ : St) (tg : Expr) (R : It -> Hp -> Prop) (itv : Value) (s2 : Shared) : Prop :=
 ∃ (it : Addr) (fp : List Addr) (tn : Nat -> Heap -> Prop) (J : It) (H' : Hp), itv = .ref it /\ Inv X pins σ H' s2 /\ Turn X.prog X.w X.K tg J fp it tn /\ tn 0 s2.heap /\ (∀ b ∈ fp, vM X pins H' b) /\ R J H'
def PI (X : Cx) (tg iter : Expr) (wi : TI) : Prop :=
 ∀ (pins : List (Addr × Obj)) (s : Shared) (σ : St) (H : Hp) (R : It -> Hp -> Prop), Inv X pins σ H s -> wi σ H R ->
   wpAny (model X.prog X.w) X.A (eval iter X.env) (fun v s1 => wpAny (model X.prog X.w) X.A (pyIter v) (PIE X pins σ tg R) X.xe s1) X.xe s
theorem go_of {M : Model} {A : Around} {E : Value -> Shared -> Prop} {s : Shared} {tg : Expr} {it : Addr} {u : Value} {o : Obj} {n : String} {vs : Array Value} {Q : Unit -> Shared -> Prop} (ho : s.heap.get? it = some o) (hc : o.cls = .type n) (hd : o.data = .fields vs)
   (hn : ["enumerate", "zip", "dict_itemiterator", "dict_reverseitemiterator", "odict_iterator", "itertools.zip_longest", "itertools.pairwise"].contains n = false) (hQ : Q () s) : wpAny M A (letOwnedTupleGo tg (.ref it) u) Q E s := by
 unfold letOwnedTupleGo
 cases tg <;> first
   | exact wpAny_pure hQ
   | (cases u <;> first
       | exact wpAny_pure hQ
       | (refine wpAny_bind (wpAny_load ho ?_)
          rw [hc, hd]
          show wpAny M A (if (["enumerate", "zip", "dict_itemiterator", "dict_reverseitemiterator", "odict_iterator", "itertools.zip_longest", "itertools.pairwise"].contains n && vs[0]? == some (rawInt _)) = true then _ else _) Q E s
          rw [if_neg (by intro h; rw [hn, Bool.false_and] at h; cases h)]
          exact wpAny_pure hQ))
def Itl (K : PySem.W.Frag) (a : Addr) : It :=
 ⟨fun i H => ∃ xs x, SqL K H a xs /\ xs[i]? = some x, fun i H x H' => H' = H /\ ∀ xs, SqL K H a xs -> xs[i]? = some x, fun i H => ∃ xs, SqL K H a xs /\ xs.length <= i⟩
def Itt (K : PySem.W.Frag) (a : Addr) : It :=
 ⟨fun i H => ∃ xs x, SqT K H a xs /\ xs[i]? = some x, fun i H x H' => H' = H /\ ∀ xs, SqT K H a xs -> xs[i]? = some x, fun i H => ∃ xs, SqT K H a xs /\ xs.length <= i⟩
def Itr (lo : Int) (n : Nat) : It := ⟨fun i _ => i < n, fun i H x H' => H' = H /\ x = .int (lo + i), fun i _ => n <= i⟩
theorem turn_list {P : Program} {w : World} {K : PySem.W.Frag} {tg : Expr} (a it : Addr) : Turn P w K tg (Itl K a) [it] it (fun i h => h.IsListIter it a i) where
 mem := by simp
 obj := fun i h st b hb => by
   have e : b = it := by simpa using hb
   subst e
   obtain ⟨o, e, c, d⟩ := st
   exact ⟨o, e, fun v z => by rw [d] at z; cases z⟩
 keep := fun i h h' st k => st.at fun o e => k it (by simp) o e
 item := by
   intro X hP hw hK hc i pins s σ H E I hf st hg
   subst hP hw hK
   obtain ⟨xs, x, hq, hx⟩ := hg
   obtain ⟨its, rv, p, hz⟩ := I.list hq
   obtain ⟨u, hu, ru⟩ := rv.get hx
   obtain ⟨f0, f1, f2, f3, f4, f5⟩ := hf it (by simp)
   refine wpAny_pyNext_list_item st p.isList (x := u) (by simpa using hu) fun h' st' sb => ?_
   have I1 : Inv X pins σ H { s with heap := h' } := I.turned (t' := s.toks) (fun b o hb e => (sb.2 b hb).trans e) f0 f1 f3 f4 f5
   obtain ⟨o, e, c, d⟩ := id st'
   exact ⟨u, rfl, go_of (s := { s with heap := h' }) e c d (by decide) ⟨x, H, I1, ru, ⟨rfl, fun ys hy => by rw [I.list_inj hy hq]; exact hx⟩, st', fun b hb => (hf b hb).1⟩⟩
 done := by
   intro X hP hw hK hc i pins s σ H E I hf st hg
   subst hP hw hK
   obtain ⟨xs, hq, hx⟩ := hg
   obtain ⟨its, rv, p, hz⟩ := I.list hq
   obtain ⟨f0, f1, f2, f3, f4, f5⟩ := hf it (by simp)
   have hl := rv.length
   exact wpAny_pyNext_list_end (I.ok.hd hc) st p.isList (by simp; omega) fun h' eb => ⟨rfl, I.turned (t' := s.toks) (fun b o hb e => eb b o hb e) f0 f1 f3 f4 f5⟩
 self := fun _ _ _ _ _ st h => wpAny_pyIter_listiter st h
theorem turn_tuple {P : Program} {w : World} {K : PySem.W.Frag} {tg : Expr} (a it : Addr) : Turn P w K tg (Itt K a) [it] it (fun i h => h.IsTupleIter it a i) where
 mem := by simp
 obj := fun i h st b hb => by
   have e : b = it := by simpa using hb
   subst e
   obtain ⟨o, e, c, d⟩ := st
   exact ⟨o, e, fun v z => by rw [d] at z; cases z⟩
 keep := fun i h h' st k => st.at fun o e => k it (by simp) o e
 item := by
   intro X hP hw hK hc i pins s σ H E I hf st hg
   subst hP hw hK
   obtain ⟨xs, x, hq, hx⟩ := hg
   obtain ⟨its, rv, p, hz⟩ := I.tuple hq
   obtain ⟨u, hu, ru⟩ := rv.get hx
   obtain ⟨f0, f1, f2, f3, f4, f5⟩ := hf it (by simp)
   refine wpAny_pyNext_tuple_item st (show s.heap.IsTuple a its.toArray from p) (x := u) (by simpa using hu) fun h' st' sb => ?_
   have I1 : Inv X pins σ H { s with heap := h' } := I.turned (t' := s.toks) (fun b o hb e => (sb.2 b hb).trans e) f0 f1 f3 f4 f5
   obtain ⟨o, e, c, d⟩ := id st'
   exact ⟨u, rfl, go_of (s := { s with heap := h' }) e c d (by decide) ⟨x, H, I1, ru, ⟨rfl, fun ys hy => by rw [I.tuple_inj hy hq]; exact hx⟩, st', fun b hb => (hf b hb).1⟩⟩
 done := by
   intro X hP hw hK hc i pins s σ H E I hf st hg
   subst hP hw hK
   obtain ⟨xs, hq, hx⟩ := hg
   obtain ⟨its, rv, p, hz⟩ := I.tuple hq
   obtain ⟨f0, f1, f2, f3, f4, f5⟩ := hf it (by simp)
   have hl := rv.length
   exact wpAny_pyNext_tuple_end (I.ok.hd hc) st (show s.heap.IsTuple a its.toArray from p) (by simp; omega) fun h' eb => ⟨rfl, I.turned (t' := s.toks) (fun b o hb e => eb b o hb e) f0 f1 f3 f4 f5⟩
 self := fun _ _ _ _ _ st h => wpAny_pyIter_tupleiter st h
theorem turn_range {P : Program} {w : World} {K : PySem.W.Frag} {tg : Expr} (it : Addr) (lo : Int) (n : Nat) : Turn P w K tg (Itr lo n) [it] it (fun i h => IsRangeIter h it (lo + (i : Nat) * 1) ((n : Int) - (i : Nat)) 1) where
 mem := by simp
 obj := fun i h st b hb => by
   have e : b = it := by simpa using hb
   subst e
   exact ⟨_, st, fun v z => by
     have z' : Data.fields _ = Data.cell v := z
     cases z'⟩
 keep := fun i h h' st k => k it (by simp) _ st
 item := by
   intro X hP hw hK hc i pins s σ H E I hf st hg
   subst hP hw hK
   obtain ⟨f0, f1, f2, f3, f4, f5⟩ := hf it (by simp)
   have W := Walks.range (prog := X.prog) (w := X.w) (I.ok.hd hc) it lo 1 n
   refine W.item i s _ _ hg st fun v h' tk hv st' kk => ?_
   obtain ⟨t, rfl⟩ := hv
   have I1 : Inv X pins σ H { s with heap := h', toks := tk } := I.turned (fun b o hb e => kk b o (by simpa using hb) e) f0 f1 f3 f4 f5
   refine ⟨_, rfl, go_of (s := { s with heap := h', toks := tk }) (n := "range_iterator") st' rfl rfl (by decide) ⟨.int (lo + i), H, I1, ⟨t, ?_⟩, ⟨rfl, rfl⟩, st', fun b hb => (hf b hb).1⟩⟩
   rw [Int.mul_one]
 done := by
   intro X hP hw hK hc i pins s σ H E I hf st hg
   subst hP hw hK
   obtain ⟨f0, f1, f2, f3, f4, f5⟩ := hf it (by simp)
   exact wpAny_pyNext_range_end (I.ok.hd hc) st (by have : n <= i := hg; omega) fun h' eb => ⟨rfl, I.turned (t' := s.toks) (fun b o hb e => eb b o hb e) f0 f1 f3 f4 f5⟩
 self := fun _ _ _ _ _ st h => wpAny_pyIter_rangeiter st h
section
variable {X : Cx} {tg : Expr}
def iList (K : PySem.W.Frag) (tl : TE) : TI := fun σ H R => tl σ H fun x H1 => ∃ a, x = .ref a /\ (∃ xs, SqL K H1 a xs) /\ R (Itl K a) H1
def iTup (K : PySem.W.Frag) (tl : TE) : TI := fun σ H R => tl σ H fun x H1 => ∃ a, x = .ref a /\ (∃ xs, SqT K H1 a xs) /\ R (Itt K a) H1
theorem yI {l : Expr} {tl : TE} (hl : PE X l tl) : PI X tg l (iList X.K tl) := by
 intro pins s σ H R I h
 refine thn (hl pins s σ H _ I h) fun v s1 ⟨x, H1, I1, r1, q1⟩ => ?_
 obtain ⟨a, e, ⟨xs, hq⟩, q⟩ := q1
 subst e
 cases r1
 obtain ⟨its, rv, p, hz⟩ := I1.list hq
 refine wpAny_pyIter_list p.isList ?_
 refine ⟨s1.heap.objs.size, [s1.heap.objs.size], _, _, H1, rfl, I1.kept (t' := s1.toks) fun b o e => Heap.get?_push_of_some _ e, turn_list a _, ⟨_, Heap.get?_push_size _ rfl, rfl, rfl⟩, fun b hb => ?_, q⟩
 have e : b = s1.heap.objs.size := by simpa using hb
 subst e
 exact I1.fpOk (Nat.le_refl _) (I1.hok.fresh (Nat.le_refl _))
theorem pi_tup {l : Expr} {tl : TE} (hl : PE X l tl) : PI X tg l (iTup X.K tl) := by
 intro pins s σ H R I h
 refine thn (hl pins s σ H _ I h) fun v s1 ⟨x, H1, I1, r1, q1⟩ => ?_
 obtain ⟨a, e, ⟨xs, hq⟩, q⟩ := q1
 subst e
 cases r1
 obtain ⟨its, rv, p, hz⟩ := I1.tuple hq
 refine wpAny_pyIter_tuple (show s1.heap.IsTuple a its.toArray from p) ?_
 refine ⟨s1.heap.objs.size, [s1.heap.objs.size], _, _, H1, rfl, I1.kept (t' := s1.toks) fun b o e => Heap.get?_push_of_some _ e, turn_tuple a _, ⟨_, Heap.get?_push_size _ rfl, rfl, rfl⟩, fun b hb => ?_, q⟩
 have e : b = s1.heap.objs.size := by simpa using hb
 subst e
 exact I1.fpOk (Nat.le_refl _) (I1.hok.fresh (Nat.le_refl _))
theorem range_it {pins : List (Addr × Obj)} {σ : St} {H : Hp} {s : Shared} {R : It -> Hp -> Prop} {E : Value -> Shared -> Prop} {lo hi : Int} {t u v : Tok} {tk : Nat} (I : Inv X pins σ H s) (h1 : -(2 ^ 62) <= lo) (h2 : lo < 2 ^ 62) (h3 : -(2 ^ 62) <= hi) (h4 : hi < 2 ^ 62)
   (q : R (Itr lo (hi - lo).toNat) H) : wpAny (model X.prog X.w) X.A (pyIter (.ref s.heap.objs.size)) (PIE X pins σ tg R) E { s with heap := s.heap.push { cls := .type "range", data := .fields #[.int lo t, .int hi u, .int 1 v] }, toks := tk } := by
 refine wpAny_pyIter_range (IsRange.new ..) (small_one h1 h2 h3 h4) ?_
 have I1 : Inv X pins σ H { s with heap := s.heap.push { cls := .type "range", data := .fields #[.int lo t, .int hi u, .int 1 v] }, toks := tk } := I.kept fun b o e => Heap.get?_push_of_some _ e
 refine ⟨(s.heap.push { cls := .type "range", data := .fields #[.int lo t, .int hi u, .int 1 v] }).objs.size, [(s.heap.push { cls := .type "range", data := .fields #[.int lo t, .int hi u, .int 1 v] }).objs.size], _, _, H, rfl,
   I1.kept (t' := tk) fun b o e => Heap.get?_push_of_some _ e, turn_range _ lo (hi - lo).toNat, ?_, fun b hb => ?_, q⟩
 · have e1 : lo + ((0 : Nat) : Int) * 1 = lo := by simp
   have e2 : (((hi - lo).toNat : Nat) : Int) - ((0 : Nat) : Int) = Builtin.Range.rangeSize lo hi 1 := by rw [rangeSize_one]; split <;> omega
   show IsRangeIter _ _ (lo + ((0 : Nat) : Int) * 1) ((((hi - lo).toNat : Nat) : Int) - ((0 : Nat) : Int)) 1
   rw [e1, e2]
   exact Heap.get?_push_size _ rfl
 · have e : b = (s.heap.push { cls := .type "range", data := .fields #[.int lo t, .int hi u, .int 1 v] }).objs.size := by simpa using hb
   subst e
   exact I1.fpOk (Nat.le_refl _) (I1.hok.fresh (Nat.le_refl _))
def iRng1 (ta : TA) : TI := fun σ H R => ta σ H fun vs H1 => ∃ j : Int, vs = [.int j] /\ -(2 ^ 62) <= j /\ j < 2 ^ 62 /\ R (Itr 0 j.toNat) H1
def iRng2 (ta : TA) : TI := fun σ H R => ta σ H fun vs H1 => ∃ i j : Int, vs = [.int i, .int j] /\ (-(2 ^ 62) <= i /\ i < 2 ^ 62 /\ -(2 ^ 62) <= j /\ j < 2 ^ 62) /\ R (Itr i (j - i).toNat) H1
theorem yO {a : Expr} {ta : TA} {p pos : Pos} (hg : Gl X "range") (hm : X.mg "range" = none) (ha : PA X [a] ta) (hs : starEach [a] X.env = [(false, eval a X.env)] := by rfl) : PI X tg (.Call (.Name "range" p) [a] [] pos) (iRng1 ta) := by
 intro pins s σ H R I h
 refine Call_ (qW I hg hm boot_range (PyProof.Rows.callWith_type1 (thn (ha pos pins s σ H _ I h) fun us s1 ⟨vs, H1, I1, r1, q1⟩ => ?_) hs rfl))
 obtain ⟨j, e, q1, q2, q⟩ := q1
 subst e
 cases r1 with
 | cons r rr =>
   cases rr
   obtain ⟨t, rfl⟩ := r
   exact call_range_1 (range_it I1 (by omega) (by omega) q1 q2 (by simpa using q))
theorem vZ {a b : Expr} {ta : TA} {p pos : Pos} (hg : Gl X "range") (hm : X.mg "range" = none) (ha : PA X [a, b] ta) (hs : starEach [a, b] X.env = [(false, eval a X.env), (false, eval b X.env)] := by rfl) (hs2 : starEach [b] X.env = [(false, eval b X.env)] := by rfl) :
   PI X tg (.Call (.Name "range" p) [a, b] [] pos) (iRng2 ta) := by
 intro pins s σ H R I h
 refine Call_ (qW I hg hm boot_range (PyProof.Rows.callWith_type1 (thn (ha pos pins s σ H _ I h) fun us s1 ⟨vs, H1, I1, r1, q1⟩ => ?_) (by rw [hs, hs2]) (by rw [hs2]; rfl)))
 obtain ⟨i, j, e, ⟨q1, q2, q3, q4⟩, q⟩ := q1
 subst e
 cases r1 with
 | cons r rr =>
   cases rr with
   | cons r' rr =>
     cases rr
     obtain ⟨t, rfl⟩ := r
     obtain ⟨t', rfl⟩ := r'
     exact call_range_2 (range_it I1 q1 q2 q3 q4 q)
def tFor (wi : TI) (g : TG) (tb : TS) : TS := fun D σ H => wi σ H fun J H1 => ∃ W : Nat -> Nat -> St -> Hp -> Prop, (∃ m, W 0 m σ H1) /\ ∀ i m σ H, W i m σ H ->
 (J.stop i H /\ D.nx σ H) \/ (J.go i H /\ ∃ N : St -> Hp -> Prop, (∀ σ' H', N σ' H' -> ∃ m', m' < m /\ W (i + 1) m' σ' H') /\ ∀ x H', J.yld i H x H' -> g x σ H' fun σ2 H2 => tb { D with nx := N, ct := N, bk := D.nx } σ2 H2)
def jG (fp : List Addr) (h : Heap) : List (Addr × Obj) := fp.filterMap fun b => (h.get? b).map fun o => (b, o)
theorem xP {fp : List Addr} {h : Heap} {b : Addr} {o : Obj} (hb : b ∈ fp) (e : h.get? b = some o) : (b, o) ∈ jG fp h := List.mem_filterMap.mpr ⟨b, hb, by rw [e]; rfl⟩
theorem wD {fp : List Addr} {h : Heap} {p : Addr × Obj} (hp : p ∈ jG fp h) : p.1 ∈ fp /\ h.get? p.1 = some p.2 := by
 obtain ⟨b, hb, e⟩ := List.mem_filterMap.mp hp
 cases q : h.get? b with
 | none => rw [q] at e; cases e
 | some o =>
   rw [q] at e
   have e' : (b, o) = p := Option.some.inj e
   subst e'
   exact ⟨hb, q⟩
theorem Inv.pinned {pins : List (Addr × Obj)} {σ : St} {H : Hp} {s : Shared} {fp : List Addr} (I : Inv X pins σ H s) (hf : ∀ b ∈ fp, vM X pins H b) (ho : ∀ b ∈ fp, ∃ o, s.heap.get? b = some o /\ ∀ v, o.data ≠ .cell v) : Inv X (pins ++ jG fp s.heap) σ H s :=
 I.pins_of fun p hp => (List.mem_append.mp hp).elim (fun z => I.pin p (List.mem_append_right _ z)) fun z => by
   obtain ⟨hb, e⟩ := wD z
   obtain ⟨f0, f1, f2, _⟩ := hf p.1 hb
   obtain ⟨o, e', d⟩ := ho p.1 hb
   rw [e] at e'; cases e'
   exact ⟨e, f0, f1, f2, d⟩
theorem Inv.unpinned {pins pl : List (Addr × Obj)} {σ : St} {H : Hp} {s : Shared} (I : Inv X (pins ++ pl) σ H s) : Inv X pins σ H s := I.pins_of fun p hp => I.pin p (List.mem_append_right _ (List.mem_append_left _ hp))
theorem yK {iter : Expr} {body : List Stmt} {wi : TI} {g : TG} {tb : TS} {pos : Pos} (hp : PassesOwn (model X.prog X.w) X.A X.env X.xe) (hc : X.calm = true) (hi : PI X tg iter wi) (hg : PG X tg g) (hb : PSs X body tb)
   (hs : ∀ x, foldedSetIterable iter X.env x = pure x := by intro _; rfl) : PS X (.For tg iter body [] pos) (tFor wi g tb) := by
 intro pins s σ H D I h
 refine wpAny_For (thn (hi pins s σ H _ I h) fun v s1 h1 => thn h1 fun itv s2 h2 => ?_) hs
 obtain ⟨it, fp, tn, J, H2, e, I2, T, st2, f2, W, ⟨m0, w0⟩, turn⟩ := h2
 subst e
 have stat : ∀ {H' : Hp}, (∀ b ∈ fp, H' b = none) -> ∀ b ∈ fp, vM X pins H' b := fun hn b hb => ⟨hn b hb, (f2 b hb).2⟩
 refine codeAny_forLoop_any (fun n s' => ∃ i σ' H', Inv X pins σ' H' s' /\ tn i s'.heap /\ (∀ b ∈ fp, H' b = none) /\ W i n σ' H') ?_ m0 ⟨0, σ, H2, I2, st2, fun b hb => (f2 b hb).1, w0⟩
 rintro n s3 ⟨i, σ3, H3, I3, st3, fr3, w3⟩
 rcases turn i n σ3 H3 w3 with ⟨stop, qn⟩ | ⟨go, N, hN, step⟩
 · refine wpAny_passesOwn hp (thn (T.done X rfl rfl rfl hc i pins s3 σ3 H3 X.xe I3 (stat fr3) st3 stop) fun r s4 ⟨hr, I4⟩ => ?_)
   subst hr
   exact wpAny_execs_nil ⟨σ3, H3, I4, qn⟩
 · refine wpAny_passesOwn hp (thn (T.item X rfl rfl rfl hc i pins s3 σ3 H3 X.xe I3 (stat fr3) st3 go) fun r s4 ⟨u, hr, h4⟩ => ?_)
   subst hr
   refine wpAny_passesOwn hp (thn h4 fun _ s5 ⟨x, H5, I5, r5, y5, st5, fr5⟩ => ?_)
   have I5' := I5.pinned (stat fr5) (T.obj _ _ st5)
   refine wpAny_passesOwn hp (thn (hg _ s5 σ3 H5 x u _ I5' r5 (step x H5 y5)) fun _ s6 ⟨σ6, H6, I6, q6⟩ => ?_)
   refine wpAny_passesOwn hp (thn (hb _ s6 σ6 H6 _ I6 q6) fun f s7 q7 => ?_)
   have again : ∀ {σ7 : St} {H7 : Hp}, Inv X (pins ++ jG fp s5.heap) σ7 H7 s7 -> N σ7 H7 -> ∃ m, m < n /\ ∃ i σ' H', Inv X pins σ' H' s7 /\ tn i s7.heap /\ (∀ b ∈ fp, H' b = none) /\ W i m σ' H' := fun {σ7 H7} I7 n7 => by
     obtain ⟨m', hm, w7⟩ := hN σ7 H7 n7
     refine ⟨m', hm, i + 1, σ7, H7, I7.unpinned, T.keep _ _ _ st5 fun b hb o e => (I7.pin (b, o) (List.mem_append_right _ (List.mem_append_right _ (xP hb e)))).1, fun b hb => ?_, w7⟩
     obtain ⟨o, e, d⟩ := T.obj _ _ st5 b hb
     exact (I7.pin (b, o) (List.mem_append_right _ (List.mem_append_right _ (xP hb e)))).2.1
   cases f with
   | next => obtain ⟨σ7, H7, I7, n7⟩ := q7; exact again I7 n7
   | cont => obtain ⟨σ7, H7, I7, n7⟩ := q7; exact again I7 n7
   | brk => obtain ⟨σ7, H7, I7, q7⟩ := q7; exact ⟨σ7, H7, I7.unpinned, q7⟩
   | ret v => obtain ⟨x7, σ7, H7, I7, r7, q7⟩ := q7; exact ⟨x7, σ7, H7, I7.unpinned, r7, q7⟩
end
theorem for_list {K : PySem.W.Frag} {a : Addr} {xs : List V} {g : TG} {tb : TS} {D : Ends} {σ : St} {H : Hp} (Pv : Nat -> St -> Hp -> Prop) (h0 : Pv 0 σ H) (hl : ∀ i σ H, i <= xs.length -> Pv i σ H -> SqL K H a xs)
   (hs : ∀ i x σ H, xs[i]? = some x -> Pv i σ H -> g x σ H fun σ2 H2 => tb { D with nx := Pv (i + 1), ct := Pv (i + 1), bk := D.nx } σ2 H2) (hd : ∀ σ H, Pv xs.length σ H -> D.nx σ H) :
   ∃ W : Nat -> Nat -> St -> Hp -> Prop, (∃ m, W 0 m σ H) /\ ∀ i m σ H, W i m σ H ->
     ((Itl K a).stop i H /\ D.nx σ H) \/ ((Itl K a).go i H /\ ∃ N : St -> Hp -> Prop, (∀ σ' H', N σ' H' -> ∃ m', m' < m /\ W (i + 1) m' σ' H') /\ ∀ x H', (Itl K a).yld i H x H' -> g x σ H' fun σ2 H2 => tb { D with nx := N, ct := N, bk := D.nx } σ2 H2) := by
 refine ⟨fun i m σ H => m = xs.length - i /\ i <= xs.length /\ Pv i σ H, ⟨xs.length, by simp, Nat.zero_le _, h0⟩, ?_⟩
 rintro i m σ H ⟨rfl, hi, p⟩
 have q := hl i σ H hi p
 by_cases hlt : i < xs.length
 · refine .inr ⟨⟨xs, xs[i], q, by simp [hlt]⟩, Pv (i + 1), fun σ' H' p' => ⟨xs.length - (i + 1), by omega, rfl, hlt, p'⟩, fun x H' y => ?_⟩
   obtain ⟨e, y⟩ := y
   subst e
   exact hs i x σ _ (y xs q) p
 · have e : i = xs.length := by omega
   subst e
   exact .inl ⟨⟨xs, q, Nat.le_refl _⟩, hd σ H p⟩
theorem for_range {lo : Int} {n : Nat} {g : TG} {tb : TS} {D : Ends} {σ : St} {H : Hp} (Pv : Nat -> St -> Hp -> Prop) (h0 : Pv 0 σ H)
   (hs : ∀ i σ H, i < n -> Pv i σ H -> g (.int (lo + i)) σ H fun σ2 H2 => tb { D with nx := Pv (i + 1), ct := Pv (i + 1), bk := D.nx } σ2 H2) (hd : ∀ σ H, Pv n σ H -> D.nx σ H) :
   ∃ W : Nat -> Nat -> St -> Hp -> Prop, (∃ m, W 0 m σ H) /\ ∀ i m σ H, W i m σ H ->
     ((Itr lo n).stop i H /\ D.nx σ H) \/ ((Itr lo n).go i H /\ ∃ N : St -> Hp -> Prop, (∀ σ' H', N σ' H' -> ∃ m', m' < m /\ W (i + 1) m' σ' H') /\ ∀ x H', (Itr lo n).yld i H x H' -> g x σ H' fun σ2 H2 => tb { D with nx := N, ct := N, bk := D.nx } σ2 H2) := by
 refine ⟨fun i m σ H => m = n - i /\ i <= n /\ Pv i σ H, ⟨n, by simp, Nat.zero_le _, h0⟩, ?_⟩
 rintro i m σ H ⟨rfl, hi, p⟩
 by_cases hlt : i < n
 · refine .inr ⟨hlt, Pv (i + 1), fun σ' H' p' => ⟨n - (i + 1), by omega, rfl, hlt, p'⟩, fun x H' y => ?_⟩
   obtain ⟨e, y⟩ := y
   subst e y
   exact hs i σ _ hlt p
 · have e : i = n := by omega
   subst e
   exact .inl ⟨Nat.le_refl _, hd σ H p⟩
abbrev R2 := V -> V -> Hp -> VK -> Prop
def OpR (X : Cx) (f : Value -> Value -> Sem Value) (r : R2) : Prop :=
 ∀ (pins : List (Addr × Obj)) (s : Shared) (σ : St) (H : Hp) (x y : V) (v u : Value) (Q : VK), Inv X pins σ H s -> RelV x v -> RelV y u -> r x y H Q ->
   wpAny (model X.prog X.w) X.A (f v u) (EP X pins σ Q) X.xe s
def UnR (X : Cx) (f : Value -> Sem Value) (r : V -> Hp -> VK -> Prop) : Prop :=
 ∀ (pins : List (Addr × Obj)) (s : Shared) (σ : St) (H : Hp) (x : V) (v : Value) (Q : VK), Inv X pins σ H s -> RelV x v -> r x H Q ->
   wpAny (model X.prog X.w) X.A (f v) (EP X pins σ Q) X.xe s
def jF (X : Cx) (f : Value) (r : List V -> Hp -> VK -> Prop) : Prop :=
 ∀ (pins : List (Addr × Obj)) (s : Shared) (σ : St) (H : Hp) (xs : List V) (us : List Value) (Q : VK), Inv X pins σ H s -> Vals xs us -> r xs H Q ->
   wpAny (model X.prog X.w) X.A (call f us) (EP X pins σ Q) X.xe s
def TruR (X : Cx) (r : V -> Hp -> (Bool -> Hp -> Prop) -> Prop) : Prop :=
 ∀ (pins : List (Addr × Obj)) (s : Shared) (σ : St) (H : Hp) (x : V) (v : Value) (Q : Bool -> Hp -> Prop), Inv X pins σ H s -> RelV x v -> r x H Q ->
   wpAny (model X.prog X.w) X.A (truthy v) (TP X pins σ Q) X.xe s
def tOp (r : R2) (ta tb : TE) : TE := fun σ H Q => ta σ H fun x H1 => tb σ H1 fun y H2 => r x y H2 Q
def tUn (r : V -> Hp -> VK -> Prop) (ta : TE) : TE := fun σ H Q => ta σ H fun x H1 => r x H1 Q
def rI (C : Int -> Int -> Prop) (g : Int -> Int -> V) : R2 := fun x y H Q => ∃ i j, x = .int i /\ y = .int j /\ C i j /\ Q (g i j) H
def rI0 (g : Int -> Int -> V) : R2 := fun x y H Q => ∃ i j, x = .int i /\ y = .int j /\ Q (g i j) H
def rU (g : Int -> V) : V -> Hp -> VK -> Prop := fun x H Q => ∃ i, x = .int i /\ Q (g i) H
section
variable {X : Cx} {a b c : Expr} {ta tb tc : TE} {pos : Pos}
theorem binT (ha : PE X a ta) (hb : PE X b tb) {pins : List (Addr × Obj)} {s : Shared} {σ : St} {H : Hp} {R : V -> V -> Hp -> Prop} (I : Inv X pins σ H s)
   (h : ta σ H fun x H1 => tb σ H1 fun y H2 => R x y H2) {Q : Value -> Shared -> Prop} {f : Value -> Value -> Sem Value}
   (hf : ∀ v u s2 x y H2, Inv X pins σ H2 s2 -> RelV x v -> RelV y u -> R x y H2 -> wpAny (model X.prog X.w) X.A (f v u) Q X.xe s2) :
   wpAny (model X.prog X.w) X.A (eval a X.env) (fun v s₁ => wpAny (model X.prog X.w) X.A (eval b X.env) (fun u s₂ => wpAny (model X.prog X.w) X.A (f v u) Q X.xe s₂) X.xe s₁) X.xe s := by
 refine thn (ha pins s σ H _ I h) fun v s1 ⟨x, H1, I1, r1, q1⟩ => ?_
 refine thn (hb pins s1 σ H1 _ I1 q1) fun u s2 ⟨y, H2, I2, r2, q2⟩ => ?_
 exact hf v u s2 x y H2 I2 r1 r2 q2
theorem zL {op : Operator} {r : R2} (ho : OpR X (binaryOp op) r) (ha : PE X a ta) (hb : PE X b tb) : PE X (.BinOp a op b pos) (tOp r ta tb) := by
 intro pins s σ H Q I h
 exact wpAny_BinOp (binT ha hb I h fun v u s2 x y H2 I2 rx ry q => ho pins s2 σ H2 x y v u Q I2 rx ry q)
theorem pe_un {op : UnaryOp} {r : V -> Hp -> VK -> Prop} (ho : UnR X (unaryOp op) r) (ha : PE X a ta) : PE X (.UnaryOp op a pos) (tUn r ta) := by
 intro pins s σ H Q I h
 exact UnaryOp_ (thn (ha pins s σ H _ I h) fun v s1 ⟨x, H1, I1, r1, q1⟩ => ho pins s1 σ H1 x v Q I1 r1 q1)
theorem opI {f : Value -> Value -> Sem Value} {C : Int -> Int -> Prop} {g : Int -> Int -> Int}
   (rule : ∀ (i j : Int) (t u : Tok) (s : Shared) (Q : Value -> Shared -> Prop) (E : Value -> Shared -> Prop), C i j -> Q (.int (g i j) s.toks) { s with toks := s.toks + 1 } -> wpAny (model X.prog X.w) X.A (f (.int i t) (.int j u)) Q E s) :
   OpR X f (rI C fun i j => .int (g i j)) := by
 intro pins s σ H x y v u Q I rx ry h
 obtain ⟨i, j, rfl, rfl, hc, q⟩ := h
 obtain ⟨t, rfl⟩ := rx
 obtain ⟨t', rfl⟩ := ry
 exact rule i j t t' s _ _ hc ⟨.int (g i j), H, I.tok _, ⟨_, rfl⟩, q⟩
theorem opI0 {f : Value -> Value -> Sem Value} {g : Int -> Int -> Int}
   (rule : ∀ (i j : Int) (t u : Tok) (s : Shared) (Q : Value -> Shared -> Prop) (E : Value -> Shared -> Prop), Q (.int (g i j) s.toks) { s with toks := s.toks + 1 } -> wpAny (model X.prog X.w) X.A (f (.int i t) (.int j u)) Q E s) :
   OpR X f (rI0 fun i j => .int (g i j)) := by
 intro pins s σ H x y v u Q I rx ry h
 obtain ⟨i, j, rfl, rfl, q⟩ := h
 obtain ⟨t, rfl⟩ := rx
 obtain ⟨t', rfl⟩ := ry
 exact rule i j t t' s _ _ ⟨.int (g i j), H, I.tok _, ⟨_, rfl⟩, q⟩
theorem opB0 {f : Value -> Value -> Sem Value} {g : Int -> Int -> Bool}
   (rule : ∀ (i j : Int) (t u : Tok) (s : Shared) (Q : Value -> Shared -> Prop) (E : Value -> Shared -> Prop), Q (.bool (g i j)) s -> wpAny (model X.prog X.w) X.A (f (.int i t) (.int j u)) Q E s) :
   OpR X f (rI0 fun i j => .bl (g i j)) := by
 intro pins s σ H x y v u Q I rx ry h
 obtain ⟨i, j, rfl, rfl, q⟩ := h
 obtain ⟨t, rfl⟩ := rx
 obtain ⟨t', rfl⟩ := ry
 exact rule i j t t' s _ _ ⟨.bl (g i j), H, I, rfl, q⟩
def CDiv (i j : Int) : Prop := 0 < j /\ j < 1073741824
def CPow (i j : Int) : Prop := 0 <= j /\ j <= 1000000 /\ i.natAbs < 2 ^ 64
def CMul (i j : Int) : Prop := (-(2 ^ 64) < i /\ i < 2 ^ 64) \/ (-(2 ^ 64) < j /\ j < 2 ^ 64)
theorem CMul.ok {i j : Int} (h : CMul i j) : IntMulOk i j := by
 rcases h with ⟨h1, h2⟩ | ⟨h1, h2⟩
 · exact .of_left (intBits_le_64 h1 h2)
 · exact .of_right (intBits_le_64 h1 h2)
theorem op_add : OpR X (binaryOp .Add) (rI0 fun i j => .int (i + j)) := opI0 fun _ _ _ _ _ _ _ q => add_int q
theorem op_sub : OpR X (binaryOp .Sub) (rI0 fun i j => .int (i - j)) := opI0 fun _ _ _ _ _ _ _ q => sub_int q
theorem op_mul : OpR X (binaryOp .Mult) (rI CMul fun i j => .int (i * j)) := opI fun _ _ _ _ _ _ _ hc q => mul_int q hc.ok
theorem op_fdiv : OpR X (binaryOp .FloorDiv) (rI CDiv fun i j => .int (i / j)) := opI fun i j _ _ _ _ _ hc q => by
 have h1 : (0 : Int) < j := hc.1
 have h2 : j < 1073741824 := hc.2
 exact floordiv_int (by omega) (by rw [Int.fdiv_eq_ediv_of_nonneg i (by omega)]; exact q) (.inl (PyProof.noPylong_small (by omega)))
theorem op_mod : OpR X (binaryOp .Mod) (rI (fun _ j => 0 < j) fun i j => .int (i % j)) := opI fun i j _ _ _ _ _ hc q => by
 have h1 : (0 : Int) < j := hc
 exact mod_int' (by omega) (by rw [Int.fmod_eq_emod_of_nonneg i (by omega)]; exact q)
theorem op_pow : OpR X (binaryOp .Pow) (rI CPow fun i j => .int (i ^ j.toNat)) := opI fun _ _ _ _ _ _ _ hc q => pow_int_small hc.1 hc.2.1 hc.2.2 q
theorem op_shl : OpR X (binaryOp .LShift) (rI CPow fun i j => .int (i * 2 ^ j.toNat)) := opI fun _ _ _ _ _ _ _ hc q => lshift_int_small hc.1 hc.2.1 hc.2.2 q
theorem op_and : OpR X (binaryOp .BitAnd) (rI0 fun i j => .int (Builtin.bitAnd i j)) := opI0 fun _ _ _ _ _ _ _ q => and_int q
theorem op_xor : OpR X (binaryOp .BitXor) (rI0 fun i j => .int (Builtin.bitXor i j)) := opI0 fun _ _ _ _ _ _ _ q => xor_int q
theorem unI {f : Value -> Sem Value} {g : Int -> Int}
   (rule : ∀ (i : Int) (t : Tok) (s : Shared) (Q : Value -> Shared -> Prop) (E : Value -> Shared -> Prop), Q (.int (g i) s.toks) { s with toks := s.toks + 1 } -> wpAny (model X.prog X.w) X.A (f (.int i t)) Q E s) :
   UnR X f (rU fun i => .int (g i)) := by
 intro pins s σ H x v Q I rx h
 obtain ⟨i, rfl, q⟩ := h
 obtain ⟨t, rfl⟩ := rx
 exact rule i t s _ _ ⟨.int (g i), H, I.tok _, ⟨_, rfl⟩, q⟩
theorem un_neg : UnR X (unaryOp .USub) (rU fun i => .int (-i)) := unI fun _ _ _ _ _ q => neg_int q
theorem un_inv : UnR X (unaryOp .Invert) (rU fun i => .int (Builtin.bitNot i)) := unI fun _ _ _ _ _ q => invert_int q
end
def scal : V -> V -> Bool
 | .non, .non => true | .non, .int _ => true | .int _, .non => true | .non, .bl _ => true | .bl _, .non => true | .non, .str _ => true | .str _, .non => true
 | .int _, .int _ => true | .bl _, .bl _ => true | .str _, .str _ => true | .byt _, .byt _ => true
 | .int _, .str _ => true | .str _, .int _ => true | .bl _, .str _ => true | .str _, .bl _ => true
 | _, _ => false
def rEq : R2 := fun x y H Q => scal x y = true /\ Q (.bl (decide (x = y))) H
def rNe : R2 := fun x y H Q => scal x y = true /\ Q (.bl (!decide (x = y))) H
theorem dec_int {i j : Int} : decide (V.int i = V.int j) = (i == j) := by
 rw [Bool.eq_iff_iff]
 simp
theorem dec_bl {i j : Bool} : decide (V.bl i = V.bl j) = (i == j) := by
 rw [Bool.eq_iff_iff]
 simp
theorem dec_str {i j : Str} : decide (V.str i = V.str j) = (i == j) := by
 rw [Bool.eq_iff_iff]
 simp
theorem dec_byt {i j : Array UInt8} : decide (V.byt i = V.byt j) = (i.toList == j.toList) := by
 rw [Bool.eq_iff_iff]
 cases i
 cases j
 simp
section
variable {X : Cx} {a b c : Expr} {ta tb tc : TE} {pos : Pos}
theorem yB {pins : List (Addr × Obj)} {σ : St} {H : Hp} {s : Shared} {Q : VK} {k k' : Bool} (I : Inv X pins σ H s) (q : Q (.bl k) H) (e : k = k') : EP X pins σ Q (.bool k') s := by
 subst e
 exact ⟨.bl k, H, I, rfl, q⟩
theorem op_eq : OpR X (compareOp .Eq) rEq := by
 intro pins s σ H x y v u Q I rx ry h
 obtain ⟨hs, q⟩ := h
 cases x with
 | non =>
   cases rx
   cases y with
   | non => cases ry; exact PySem.EqNone.eq_none_none (yB I q (by simp))
   | bl j => cases ry; exact PySem.EqNone.eq_none_bool (yB I q (by simp))
   | int j => obtain ⟨t', rfl⟩ := ry; exact PySem.EqNone.eq_none_int (yB I q (by simp))
   | str j => obtain ⟨t', rfl⟩ := ry; exact PySem.EqNone.eq_none_str (yB I q (by simp))
   | _ => exact absurd (show false = true from hs) Bool.false_ne_true
 | bl i =>
   cases rx
   cases y with
   | non => cases ry; exact PySem.EqNone.eq_bool_none (yB I q (by simp))
   | bl j => cases ry; exact eq_bool (yB I q dec_bl)
   | str j => obtain ⟨t', rfl⟩ := ry; exact PySem.EqMixed.eq_bool_str (yB I q (by simp))
   | _ => exact absurd (show false = true from hs) Bool.false_ne_true
 | int i =>
   obtain ⟨t, rfl⟩ := rx
   cases y with
   | non => cases ry; exact PySem.EqNone.eq_int_none (yB I q (by simp))
   | int j => obtain ⟨t', rfl⟩ := ry; exact eq_int (yB I q dec_int)
   | str j => obtain ⟨t', rfl⟩ := ry; exact PySem.EqMixed.eq_int_str (yB I q (by simp))
   | _ => exact absurd (show false = true from hs) Bool.false_ne_true
 | str i =>
   obtain ⟨t, rfl⟩ := rx
   cases y with
   | non => cases ry; exact PySem.EqNone.eq_str_none (yB I q (by simp))
   | bl j => cases ry; exact PySem.EqMixed.eq_str_bool (yB I q (by simp))
   | int j => obtain ⟨t', rfl⟩ := ry; exact PySem.EqMixed.eq_str_int (yB I q (by simp))
   | str j => obtain ⟨t', rfl⟩ := ry; exact eq_str (yB I q dec_str)
   | _ => exact absurd (show false = true from hs) Bool.false_ne_true
 | byt i =>
   obtain ⟨t, rfl⟩ := rx
   cases y with
   | byt j => obtain ⟨t', rfl⟩ := ry; exact PySem.W.eq_bytes (yB I q dec_byt)
   | _ => exact absurd (show false = true from hs) Bool.false_ne_true
 | _ => cases y <;> exact absurd (show false = true from hs) Bool.false_ne_true
theorem op_ne : OpR X (compareOp .NotEq) rNe := by
 intro pins s σ H x y v u Q I rx ry h
 obtain ⟨hs, q⟩ := h
 cases x with
 | non =>
   cases rx
   cases y with
   | non => cases ry; exact PySem.EqNone.ne_none_none (yB I q (by simp))
   | bl j => cases ry; exact PySem.EqNone.ne_none_bool (yB I q (by simp))
   | int j => obtain ⟨t', rfl⟩ := ry; exact PySem.EqNone.ne_none_int (yB I q (by simp))
   | str j => obtain ⟨t', rfl⟩ := ry; exact PySem.EqNone.ne_none_str (yB I q (by simp))
   | _ => exact absurd (show false = true from hs) Bool.false_ne_true
 | bl i =>
   cases rx
   cases y with
   | non => cases ry; exact PySem.EqNone.ne_bool_none (yB I q (by simp))
   | bl j => cases ry; exact ne_bool (yB I q (congrArg not dec_bl))
   | str j => obtain ⟨t', rfl⟩ := ry; exact PySem.EqMixed.ne_bool_str (yB I q (by simp))
   | _ => exact absurd (show false = true from hs) Bool.false_ne_true
 | int i =>
   obtain ⟨t, rfl⟩ := rx
   cases y with
   | non => cases ry; exact PySem.EqNone.ne_int_none (yB I q (by simp))
   | int j => obtain ⟨t', rfl⟩ := ry; exact ne_int (yB I q (congrArg not dec_int))
   | str j => obtain ⟨t', rfl⟩ := ry; exact PySem.EqMixed.ne_int_str (yB I q (by simp))
   | _ => exact absurd (show false = true from hs) Bool.false_ne_true
 | str i =>
   obtain ⟨t, rfl⟩ := rx
   cases y with
   | non => cases ry; exact PySem.EqNone.ne_str_none (yB I q (by simp))
   | bl j => cases ry; exact PySem.EqMixed.ne_str_bool (yB I q (by simp))
   | int j => obtain ⟨t', rfl⟩ := ry; exact PySem.EqMixed.ne_str_int (yB I q (by simp))
   | str j => obtain ⟨t', rfl⟩ := ry; exact ne_str (yB I q (congrArg not dec_str))
   | _ => exact absurd (show false = true from hs) Bool.false_ne_true
 | byt i =>
   obtain ⟨t, rfl⟩ := rx
   cases y with
   | byt j => obtain ⟨t', rfl⟩ := ry; exact PySem.W.ne_bytes (yB I q (congrArg not dec_byt))
   | _ => exact absurd (show false = true from hs) Bool.false_ne_true
 | _ => cases y <;> exact absurd (show false = true from hs) Bool.false_ne_true
theorem op_lt : OpR X (compareOp .Lt) (rI0 fun i j => .bl (decide (i < j))) := opB0 fun _ _ _ _ _ _ _ q => lt_int q
theorem op_le : OpR X (compareOp .LtE) (rI0 fun i j => .bl (decide (i <= j))) := opB0 fun _ _ _ _ _ _ _ q => le_int q
theorem op_gt : OpR X (compareOp .Gt) (rI0 fun i j => .bl (decide (j < i))) := opB0 fun _ _ _ _ _ _ _ q => gt_int q
theorem op_ge : OpR X (compareOp .GtE) (rI0 fun i j => .bl (decide (j <= i))) := opB0 fun _ _ _ _ _ _ _ q => ge_int q
theorem op_isN : OpR X (compareOp .Is) (fun x y H Q => y = .non /\ Q (.bl (decide (x = .non))) H) := by
 intro pins s σ H x y v u Q I rx ry h
 obtain ⟨rfl, q⟩ := h
 cases ry
 refine is_none_gen (yB I q ?_)
 cases x <;> first
   | (cases rx; rfl)
   | (obtain ⟨t, rfl⟩ := rx; rfl)
theorem yD (b : Expr) {op : CmpOp} (h : op ≠ .In := by decide) (h2 : op ≠ .NotIn := by decide) : behindInMarks op b = false := by
 have e1 : (op == CmpOp.In) = false := by cases op <;> first | rfl | exact absurd rfl h
 have e2 : (op == CmpOp.NotIn) = false := by cases op <;> first | rfl | exact absurd rfl h2
 cases b <;> simp [behindInMarks, e1, e2]
theorem jX {op : CmpOp} {r : R2} (ho : OpR X (compareOp op) r) (ha : PE X a ta) (hb : PE X b tb) (hm : behindInMarks op b = false) : PE X (.Compare a [op] [b] pos) (tOp r ta tb) := by
 intro pins s σ H Q I h
 exact wpAny_Compare1 (binT ha hb I h fun v u s2 x y H2 I2 rx ry q => ho pins s2 σ H2 x y v u Q I2 rx ry q) hm
def tTest (t : TE) : TT := fun σ H Q => t σ H fun x H' => ∃ k, x = .bl k /\ Q k H'
theorem zY {op : CmpOp} {r : R2} (ho : OpR X (compareOp op) r) (ha : PE X a ta) (hb : PE X b tb) (hm : behindInMarks op b = false) : PT X (.Compare a [op] [b] pos) (tTest (tOp r ta tb)) := by
 intro pins s σ H Q I h
 refine wpAny_isTrue_Compare1 (thn (ha pins s σ H _ I h) fun v s1 ⟨x, H1, I1, r1, q1⟩ => thn (hb pins s1 σ H1 _ I1 q1) fun u s2 ⟨y, H2, I2, r2, q2⟩ =>
   thn (ho pins s2 σ H2 x y v u _ I2 r1 r2 q2) fun c s3 ⟨z, H3, I3, r3, k, e, q3⟩ => ?_) hm
 subst e
 cases r3
 exact wpAny_truthy_bool ⟨H3, I3, q3⟩
def tChain (r r' : R2) (ta tb tc : TE) : TE := fun σ H Q => ta σ H fun x H1 => tb σ H1 fun y H2 => r x y H2 fun z H3 => ∃ k, z = .bl k /\
 (if k = true then tc σ H3 fun w' H4 => r' y w' H4 Q else Q (.bl false) H3)
theorem pe_chain {op op' : CmpOp} {r r' : R2} (ho : OpR X (compareOp op) r) (ho' : OpR X (compareOp op') r') (ha : PE X a ta) (hb : PE X b tb) (hc : PE X c tc)
   (hm : lastMarks [op, op'] [b, c] = false := by with_unfolding_all rfl) : PE X (.Compare a [op, op'] [b, c] pos) (tChain r r' ta tb tc) := by
 intro pins s σ H Q I h
 refine Compare_chain (thn (ha pins s σ H _ I h) fun v s1 ⟨x, H1, I1, r1, q1⟩ => chain_link (thn (hb pins s1 σ H1 _ I1 q1) fun u s2 ⟨y, H2, I2, r2, q2⟩ =>
   thn (ho pins s2 σ H2 x y v u _ I2 r1 r2 q2) fun d s3 ⟨z, H3, I3, r3, k, e, q3⟩ => ?_)) hm
 subst e
 cases r3
 refine wpAny_truthy_bool ?_
 cases k with
 | false => exact ite_ff ⟨.bl false, H3, I3, rfl, q3⟩
 | true => exact ite_tt (chain_last (thn (hc pins s3 σ H3 _ I3 q3) fun w' s4 ⟨z', H4, I4, r4, q4⟩ => ho' pins s4 σ H4 y z' u w' Q I4 r2 r4 q4))
def TruV (K : PySem.W.Frag) (x : V) (H : Hp) (k : Bool) : Prop :=
 match x with
 | .non => k = false
 | .bl b => k = b
 | .int i => k = (i != 0)
 | .str y => y.length <= sizeLine /\ k = ((y.length : Int) != 0)
 | .byt y => y.size <= sizeLine /\ k = ((y.size : Int) != 0)
 | .ref p => (∃ xs, SqL K H p xs /\ k = !xs.isEmpty) \/ (∃ xs, SqT K H p xs /\ k = !xs.isEmpty) \/ ∃ kvs, H p = some (.dK kvs) /\ k = !kvs.isEmpty
 | _ => False
theorem isEmpty_kv {κ : Type} {kvs : List (κ × V)} {vs : List (κ × Value)} (r : KV kvs vs) : (!vs.isEmpty) = !kvs.isEmpty := by
 cases r <;> rfl
theorem vE {xs : List V} {its : List Value} (r : Vals xs its) : (!its.toArray.isEmpty) = !xs.isEmpty := by
 cases r <;> simp
theorem line63 : (sizeLine : Nat) < 2 ^ 63 := by rw [sizeLine_eq]; decide
theorem tru_ok : TruR X (fun x H Q => ∃ k, TruV X.K x H k /\ Q k H) := by
 intro pins s σ H x v Q I rx h
 obtain ⟨k, e, q⟩ := h
 have hl := line63
 have hs : sizeLine = 16777216 := sizeLine_eq
 cases x with
 | non =>
   cases rx
   have e' : k = false := e
   subst e'
   exact truthy_none ⟨H, I, q⟩
 | bl b =>
   cases rx
   have e' : k = b := e
   subst e'
   exact wpAny_truthy_bool ⟨H, I, q⟩
 | int i =>
   obtain ⟨t, rfl⟩ := rx
   have e' : k = (i != 0) := e
   subst e'
   exact PySem.P.truthy_int ⟨H, I, q⟩
 | str y =>
   obtain ⟨t, rfl⟩ := rx
   obtain ⟨hy, e'⟩ : y.length <= sizeLine /\ k = ((y.length : Int) != 0) := e
   subst e'
   exact PySem.P.truthy_str (by omega) ⟨H, I.tok _, q⟩
 | byt y =>
   obtain ⟨t, rfl⟩ := rx
   obtain ⟨hy, e'⟩ : y.size <= sizeLine /\ k = ((y.size : Int) != 0) := e
   subst e'
   exact PySem.W.truthy_bytes (by omega) ⟨H, I.tok _, q⟩
 | ref p =>
   cases rx
   have e' : (∃ xs, SqL X.K H p xs /\ k = !xs.isEmpty) \/ (∃ xs, SqT X.K H p xs /\ k = !xs.isEmpty) \/ ∃ kvs, H p = some (.dK kvs) /\ k = !kvs.isEmpty := e
   rcases e' with ⟨xs, hx, e'⟩ | ⟨xs, hx, e'⟩ | ⟨kvs, hx, e'⟩
   · subst e'
     obtain ⟨its, r, pl, hz⟩ := I.list hx
     have hlen := r.length
     exact wpAny_truthy_list pl.isList (by simp only [List.size_toArray]; omega) ⟨H, I.tok _, by rw [vE r]; exact q⟩
   · subst e'
     obtain ⟨its, r, pl, hz⟩ := I.tuple hx
     have hlen := r.length
     exact truthy_tuple pl (by simp only [List.size_toArray]; omega) ⟨H, I.tok _, by rw [vE r]; exact q⟩
   · subst e'
     obtain ⟨hz, hS, vs, r, m⟩ : kvs.length <= sizeLine /\ (p == sysModules) = false /\ ∃ vs, KV kvs vs /\ s.heap.DictOf (yJ X.prog X.w) p vs := I.hok p _ hx
     have hlen : kvs.length = vs.length := Paired.length r
     exact wpAny_truthy_dict hS m (by omega) ⟨H, I.tok _, by rw [isEmpty_kv r]; exact q⟩
 | _ => exact (show False from e).elim
theorem pt_truth (ha : PE X a ta) (he : ∀ whole, isTrue a X.env whole = (do let v ← whole; standAt a.pos; holding [v] (truthy v))) :
   PT X a (fun σ H Q => ta σ H fun x H' => ∃ k, TruV X.K x H' k /\ Q k H') := by
 intro pins s σ H Q I h
 exact isTrue_plain (thn (ha pins s σ H _ I h) fun v s1 ⟨x, H1, I1, r1, q1⟩ => tru_ok pins s1 σ H1 x v Q I1 r1 q1) (he _)
theorem op_add_str : OpR X (binaryOp .Add) (fun x y H Q => ∃ i j, x = .str i /\ y = .str j /\ i.length + j.length <= sizeLine /\ Q (.str (i ++ j)) H) := by
 intro pins s σ H x y v u Q I rx ry h
 obtain ⟨i, j, rfl, rfl, hz, q⟩ := h
 obtain ⟨t, rfl⟩ := rx
 obtain ⟨t', rfl⟩ := ry
 exact add_str (fun t' tk => ⟨.str (i ++ j), H, I.tok _, ⟨_, rfl⟩, q⟩) hz
theorem qH {x : V} {us : List Value} (r : Vals [x] us) : ∃ u, us = [u] /\ RelV x u := by
 cases r with
 | cons r1 r2 => cases r2; exact ⟨_, rfl, r1⟩
theorem vals2 {x y : V} {us : List Value} (r : Vals [x, y] us) : ∃ u w', us = [u, w'] /\ RelV x u /\ RelV y w' := by
 cases r with
 | cons r1 r2 =>
   cases r2 with
   | cons r3 r4 => cases r4; exact ⟨_, _, rfl, r1, r3⟩
theorem wL (hc : X.calm = true) : jF X (.builtin "max") (fun xs H Q => ∃ i j, xs = [.int i, .int j] /\ Q (.int (if j > i then j else i)) H) := by
 intro pins s σ H xs us Q I r h
 obtain ⟨i, j, rfl, q⟩ := h
 obtain ⟨u, w', rfl, ⟨t, rfl⟩, ⟨t', rfl⟩⟩ := vals2 r
 refine max_two_ints (I.ok.hd hc) fun h' tk k => ⟨_, H, I.kept k, ?_, q⟩
 by_cases hj : j > i
 · rw [if_pos hj, if_pos hj]; exact ⟨_, rfl⟩
 · rw [if_neg hj, if_neg hj]; exact ⟨_, rfl⟩
theorem wK (hc : X.calm = true) : jF X (.builtin "min") (fun xs H Q => ∃ i j, xs = [.int i, .int j] /\ Q (.int (if j < i then j else i)) H) := by
 intro pins s σ H xs us Q I r h
 obtain ⟨i, j, rfl, q⟩ := h
 obtain ⟨u, w', rfl, ⟨t, rfl⟩, ⟨t', rfl⟩⟩ := vals2 r
 refine min_two_ints (I.ok.hd hc) fun h' tk k => ⟨_, H, I.kept k, ?_, q⟩
 by_cases hj : j < i
 · rw [if_pos hj, if_pos hj]; exact ⟨_, rfl⟩
 · rw [if_neg hj, if_neg hj]; exact ⟨_, rfl⟩
def LenV (K : PySem.W.Frag) (x : V) (H : Hp) (n : Nat) : Prop :=
 match x with
 | .str y => y.length <= sizeLine /\ n = y.length
 | .byt y => y.size <= sizeLine /\ n = y.size
 | .ref p => (∃ xs, SqL K H p xs /\ n = xs.length) \/ ∃ xs, SqT K H p xs /\ n = xs.length
 | _ => False
theorem call_len : jF X (.builtin "len") (fun xs H Q => ∃ x n, xs = [x] /\ LenV X.K x H n /\ Q (.int n) H) := by
 intro pins s σ H xs us Q I r h
 obtain ⟨x, n, rfl, e, q⟩ := h
 obtain ⟨u, rfl, rx⟩ := qH r
 have hl := line63
 have hs : sizeLine = 16777216 := sizeLine_eq
 cases x with
 | str y =>
   obtain ⟨t, rfl⟩ := rx
   obtain ⟨hy, e'⟩ : y.length <= sizeLine /\ n = y.length := e
   subst e'
   exact len_str (by omega) ⟨.int _, H, I.tok _, ⟨_, rfl⟩, q⟩
 | byt y =>
   obtain ⟨t, rfl⟩ := rx
   obtain ⟨hy, e'⟩ : y.size <= sizeLine /\ n = y.size := e
   subst e'
   exact PySem.W.len_bytes (by omega) ⟨.int _, H, I.tok _, ⟨_, rfl⟩, q⟩
 | ref p =>
   cases rx
   have e' : (∃ xs, SqL X.K H p xs /\ n = xs.length) \/ ∃ xs, SqT X.K H p xs /\ n = xs.length := e
   rcases e' with ⟨xs, hx, e'⟩ | ⟨xs, hx, e'⟩
   · subst e'
     obtain ⟨its, r', pl, hz⟩ := I.list hx
     have hlen := r'.length
     exact Calls.call_len_list pl.isList (by simp only [List.size_toArray]; omega) ⟨.int xs.length, H, I.tok _, ⟨_, by simp only [List.size_toArray]; rw [hlen]⟩, q⟩
   · subst e'
     obtain ⟨its, r', pl, hz⟩ := I.tuple hx
     have hlen := r'.length
     exact len_tuple pl (by simp only [List.size_toArray]; omega) ⟨.int xs.length, H, I.tok _, ⟨_, by simp only [List.size_toArray]; rw [hlen]⟩, q⟩
 | _ => exact (show False from e).elim
end
structure ObjM (h : Heap) (x dx C : Addr) (mA : Str -> Option Value) : Prop where
 obj : h.get? x = some (PySem.W.instObj C dx)
 ns : h.Ns1 dx mA
 ne : dx ≠ x
theorem lookIn_ns {h : Heap} {dx : Addr} {mA : Str -> Option Value} (n : h.Ns1 dx mA) : ∃ od, h.get? dx = some od /\ ∀ name, PySem.W.lookIn name od = some (mA name) := by
 obtain ⟨o, es, ep, ho, hd, hk, _, hm⟩ := n
 refine ⟨o, ho, fun name => ?_⟩
 have e := hm name
 unfold nsFind findBy at e
 rw [← Array.find?_toList] at e
 unfold PySem.W.lookIn
 rw [hd]
 dsimp only
 split
 · rename_i y q
   rw [q] at e
   exact congrArg some e
 · rename_i q
   rw [q] at e
   have a : es.toList.any (·.refKey) = false := by
     rw [List.any_eq_false]
     intro y hy
     obtain ⟨z, t, hkey⟩ := hk y (Array.mem_toList_iff.mp hy)
     simp [DictEntry.refKey, hkey]
   have a' : ¬ es.toList.any (·.refKey) = true := by rw [a]; exact Bool.false_ne_true
   rw [if_neg a']
   exact congrArg some e
theorem ObjM.look {h : Heap} {x dx C : Addr} {mA : Str -> Option Value} (I : ObjM h x dx C mA) : ∃ od, PySem.W.InstAt h x (PySem.W.instObj C dx) C (some od) /\ ∀ name, PySem.W.lookIn name od = some (mA name) :=
 let ⟨od, ho, hl⟩ := lookIn_ns I.ns
 ⟨od, ⟨I.obj, rfl, rfl, ho⟩, hl⟩
section
variable {prog : Program} {w : World} {A : Around} {E : Value -> Shared -> Prop} {s : Shared} {K : PySem.W.Frag} {x dx C f : Addr} {mA : Str -> Option Value} {name : Str} {v : Value}
theorem get_map {expr : Bool} {Q : Value -> Shared -> Prop} (X : K.In s.heap) (I : ObjM s.heap x dx C mA) (hg : PySem.W.plainGet K C name = true) (hh : PySem.W.hasDictIn K C = true)
   (ha : PySem.W.findIn K (.ref C) name = some none) (hv : mA name = some v) (hv' : PySem.W.handedIn v = true) (h : Q v { s with toks := s.toks + 1 }) :
   wpAny (model prog w) A (getAttr (.ref x) name expr) Q E s := by
 obtain ⟨od, J, hl⟩ := I.look
 exact PySem.W.get_value X J (PySem.W.plainGet_of hg).1 (PySem.W.findObj_own hh ha rfl (by rw [hl, hv])) hv' h
theorem get_meth {pl : Sem Bool} {Q : Value × List Value -> Shared -> Prop} (X : K.In s.heap) (I : ObjM s.heap x dx C mA) (hg : PySem.W.plainGet K C name = true)
   (hf : PySem.W.findIn K (.ref C) name = some (some (.ref f))) (ht : PySem.W.isFn K (.ref f) = true) (hv : mA name = none) (h : Q (.ref f, [.ref x]) s) :
   wpAny (model prog w) A (getMethod (.ref x) name pl) Q E s := by
 obtain ⟨od, J, hl⟩ := I.look
 exact PySem.W.method_fn X J (PySem.W.plainGet_of hg).1 (PySem.W.plainGet_of hg).2 hf (beq_iff_eq.mp ht) (by show (PySem.W.lookIn name od).map (·.isSome) = some false; rw [hl, hv]; rfl) h
theorem set_map {ns : List Str} {Q : Unit -> Shared -> Prop} (X : K.In s.heap) (I : ObjM s.heap x dx C mA)
   (hs : PySem.W.findIn K (.ref C) "__setattr__" = some (some (.builtin "object.__setattr__"))) (hp : PySem.W.plainOver K C = true) (ht : PySem.W.takerIn K C name = some none) (hh : PySem.W.hasDictIn K C = true)
   (hw : PySem.Within mA ns) (hsz : ns.length <= sizeLine)
   (h : ∀ h', ObjM h' x dx C (fun y => if y = name then some v else mA y) -> Heap.SameBut dx s.heap h' -> Q () { s with heap := h', toks := s.toks + 2 }) :
   wpAny (model prog w) A (setAttr (.ref x) name v) Q E s := by
 obtain ⟨od, J, hl⟩ := I.look
 refine PySem.W.set_plain X J hs (PySem.W.osa_open (s := { s with toks := s.toks + 1 }) (r := none) X J hp ht fun b => ?_)
 obtain ⟨cd, hc, hd'⟩ := PySem.W.any_some hh
 have hx : s.heap.get? x = some ⟨.ref C, some dx, .plain, #[]⟩ := I.obj
 refine wpAny_bind (wpAny_pure (wpAny_bind (wpAny_bind (wpAny_loadPart hx (wpAny_bind (PySem.W.Looks.here (s := { s with toks := s.toks + 1 }) (PySem.W.looks_clsIn X hc) ?_))))))
 rw [hd']
 refine wpAny_pure (a := some dx) (wpAny_bind (wpAny_pure (wpAny_bind ?_)))
 refine wpAny_nsSet1 (s := { s with toks := s.toks + 1 }) I.ns fun h' hn2 hs2 => ?_
 obtain ⟨oD, esD, epD, hoD, hdD, hcD⟩ := hn2.count (PySem.Within.cons name v hw)
 refine wpAny_bind (wpAny_lookBehind hoD (by rw [hdD]; exact pastItsLine_dict (Nat.le_trans hcD (by rw [List.length_cons]; omega))) ?_)
 exact wpAny_pure (h _ ⟨(hs2.2 _ (Ne.symm I.ne)).trans I.obj, hn2, I.ne⟩ hs2)
theorem make_map {R : Result -> Shared -> Prop} {vs : List Value} {kw : List (Str × Value)} (X : K.In s.heap) (hm : PySem.W.makesIn K C = true)
   (hi : PySem.W.findIn K (.ref C) "__init__" = some (some (.ref f))) (hf : PySem.W.typeIn K (.ref f) = some (.type "function"))
   (h : codeAny (model prog w) (A.under (.builtin "type.__call__" ⟨.ref C :: vs, kw⟩)) (.call (.ref f) ⟨.ref (s.heap.objs.size + 1) :: vs, kw⟩) (PySem.W.InitBack (s.heap.objs.size + 1) R)
     { s with heap := (s.heap.push PySem.W.emptyDict).push (PySem.W.instObj C s.heap.objs.size) }) :
   codeAny (model prog w) A (.call (.ref C) ⟨vs, kw⟩) R s := by
 obtain ⟨hh, g, d, t, os⟩ := s
 exact PySem.W.make_core (PySem.W.makes_of X hm) (PySem.W.looks_findIn X hi) (fun self => PySem.W.bind_fn X self hf) (.inl rfl) h
end
def xA (f : Str) (v : V) : List (Str × V) -> List (Str × V)
 | [] => [(f, v)]
 | (g, x) :: r => if g = f then (g, v) :: r else (g, x) :: xA f v r
theorem uC (f g : Str) (v : V) : ∀ fs : List (Str × V), (xA f v fs).lookup g = if g = f then some v else fs.lookup g
 | [] => by
   show List.lookup g [(f, v)] = _
   by_cases h : g = f
   · have hb : (g == f) = true := beq_iff_eq.mpr h
     simp only [List.lookup, hb, if_pos h]
   · have hb : (g == f) = false := beq_eq_false_iff_ne.mpr h
     simp only [List.lookup, hb, if_neg h]
 | (k, x) :: r => by
   have ih := uC f g v r
   rw [show xA f v ((k, x) :: r) = (if k = f then (k, v) :: r else (k, x) :: xA f v r) from rfl]
   by_cases hk : k = f
   · rw [if_pos hk]
     by_cases h : g = k
     · have hb : (g == k) = true := beq_iff_eq.mpr h
       simp only [List.lookup, hb, if_pos (h.trans hk)]
     · have hb : (g == k) = false := beq_eq_false_iff_ne.mpr h
       simp only [List.lookup, hb, if_neg (fun e : g = f => h (e.trans hk.symm))]
   · rw [if_neg hk]
     by_cases h : g = k
     · have hb : (g == k) = true := beq_iff_eq.mpr h
       simp only [List.lookup, hb, if_neg (fun e : g = f => hk (h.symm.trans e))]
     · have hb : (g == k) = false := beq_eq_false_iff_ne.mpr h
       simp only [List.lookup, hb]
       exact ih
theorem qY (f : Str) (v : V) : ∀ fs : List (Str × V), f ∈ (xA f v fs).map (·.1) /\ ∀ g, g ∈ fs.map (·.1) -> g ∈ (xA f v fs).map (·.1)
 | [] => ⟨by simp [xA], fun g h => by simp at h⟩
 | (k, x) :: r => by
   obtain ⟨i1, i2⟩ := qY f v r
   rw [show xA f v ((k, x) :: r) = (if k = f then (k, v) :: r else (k, x) :: xA f v r) from rfl]
   by_cases hk : k = f
   · rw [if_pos hk]
     subst hk
     exact ⟨by simp, fun g h => by simpa using h⟩
   · rw [if_neg hk]
     refine ⟨?_, fun g h => ?_⟩
     · rw [List.map_cons]
       exact List.mem_cons_of_mem _ i1
     · rw [List.map_cons] at h ⊢
       rcases List.mem_cons.mp h with e | e
       · exact List.mem_cons.mpr (.inl e)
       · exact List.mem_cons_of_mem _ (i2 g e)
theorem uD (f : Str) (v : V) : ∀ fs : List (Str × V), (xA f v fs).length <= fs.length + 1
 | [] => by simp [xA]
 | (k, x) :: r => by
   have ih := uD f v r
   rw [show xA f v ((k, x) :: r) = (if k = f then (k, v) :: r else (k, x) :: xA f v r) from rfl]
   by_cases hk : k = f
   · rw [if_pos hk, List.length_cons, List.length_cons]; omega
   · rw [if_neg hk, List.length_cons, List.length_cons]; omega
theorem RelO.some_of {v : V} {o : Option Value} (r : RelO (some v) o) : ∃ u, o = some u /\ RelV v u := by
 cases o with
 | none => exact (show False from r).elim
 | some u => exact ⟨u, rfl, r⟩
theorem RelO.none_of {o : Option Value} (r : RelO none o) : o = none := by
 cases o with
 | none => rfl
 | some u => exact (show False from r).elim
theorem handed_of {v : V} {u : Value} (r : RelV v u) : PySem.W.handedIn u = true := by
 cases v with
 | non => cases (show u = Value.none from r); rfl
 | bl b => cases (show u = Value.bool b from r); rfl
 | int i => obtain ⟨t, e⟩ := (show ∃ t, u = Value.int i t from r); cases e; rfl
 | str x => obtain ⟨t, e⟩ := (show ∃ t, u = Value.str x t from r); cases e; rfl
 | byt b => obtain ⟨t, e⟩ := (show ∃ t, u = Value.bytes b t from r); cases e; rfl
 | flt b => obtain ⟨t, e⟩ := (show ∃ t, u = Value.float b t from r); cases e; rfl
 | ref a => cases (show u = Value.ref a from r); rfl
 | ty n => cases (show u = Value.type n from r); rfl
section
variable {P : Program} {w : World} {H H' : Hp} {h h' : Heap} {a C dx : Addr} {fs fs' : List (Str × V)}
theorem uM (hok : HOk P w H h) (e : H a = some (.ins C dx fs)) : ∃ mA, ObjM h a dx C mA /\ (∀ f, RelO (fs.lookup f) (mA f)) /\ PySem.Within mA (fs.map (·.1)) /\ fs.length <= 1000 /\ H dx = some (.own a) := by
 obtain ⟨d, z, ne, ob, mA, n, r, q⟩ := (show ObjOk P w H h a (.ins C dx fs) from hok a _ e)
 exact ⟨mA, ⟨ob, n, ne⟩, r, q, z, d⟩
end
structure Cls (K : PySem.W.Frag) (C : Addr) : Prop where
 pg : PySem.W.plainGet K C Str.empty = true
 hd : PySem.W.hasDictIn K C = true
 po : PySem.W.plainOver K C = true
 sa : PySem.W.findIn K (.ref C) "__setattr__" = some (some (.builtin "object.__setattr__"))
theorem Cls.get {K : PySem.W.Frag} {C : Addr} (c : Cls K C) (f : Str) : PySem.W.plainGet K C f = true := c.pg
def NoAttr (K : PySem.W.Frag) (C : Addr) (f : Str) : Prop := PySem.W.findIn K (.ref C) f = some none
theorem NoAttr.taker {K : PySem.W.Frag} {C : Addr} {f : Str} (n : NoAttr K C f) : PySem.W.takerIn K C f = some none := by
 unfold PySem.W.takerIn
 rw [show PySem.W.findIn K (.ref C) f = some none from n]
 rfl
structure Con (K : PySem.W.Frag) (C : Addr) (f : Str) (v : V) (u : Value) : Prop where
 at_ : PySem.W.findIn K (.ref C) f = some (some u)
 rel : RelV v u
 get : PySem.W.specialIn K u "__get__" = some none
 cp : PySem.W.copiedNames.contains f = false
structure Meth (K : PySem.W.Frag) (C : Addr) (m : Str) (f : Addr) : Prop where
 at_ : PySem.W.findIn K (.ref C) m = some (some (.ref f))
 fn : PySem.W.isFn K (.ref f) = true
 kp : PySem.W.keepIn K (.ref f) = true
section
variable {X : Cx} {pins : List (Addr × Obj)} {σ : St} {H : Hp} {s : Shared} {a C dx : Addr} {fs : List (Str × V)} {f : Str} {v : V} {A : Around} {E : Value -> Shared -> Prop}
theorem getattr_ok {b : Bool} {Q : Value -> Shared -> Prop} (I : Inv X pins σ H s) (e : H a = some (.ins C dx fs)) (c : Cls X.K C) (n : NoAttr X.K C f) (l : fs.lookup f = some v)
   (h : ∀ u s', Inv X pins σ H s' -> RelV v u -> Q u s') : wpAny (model X.prog X.w) A (getAttr (.ref a) f b) Q E s := by
 obtain ⟨mA, O, r, _, _, _⟩ := uM I.hok e
 obtain ⟨u, hu, ru⟩ := RelO.some_of (v := v) (o := mA f) (by rw [← l]; exact r f)
 exact get_map I.kIn O (c.get f) c.hd n hu (handed_of ru) (h u _ (I.tok _) ru)
theorem getmeth_ok {m : Str} {g : Addr} {pl : Sem Bool} {Q : Value × List Value -> Shared -> Prop} (I : Inv X pins σ H s) (e : H a = some (.ins C dx fs)) (c : Cls X.K C) (k : Meth X.K C m g) (l : fs.lookup m = none)
   (h : Q (.ref g, [.ref a]) s) : wpAny (model X.prog X.w) A (getMethod (.ref a) m pl) Q E s := by
 obtain ⟨mA, O, r, _, _, _⟩ := uM I.hok e
 have hn : mA m = none := RelO.none_of (by rw [← l]; exact r m)
 exact get_meth I.kIn O (c.get m) k.at_ k.fn hn h
theorem setattr_ok {y : V} {u : Value} {Q : Unit -> Shared -> Prop} (I : Inv X pins σ H s) (e : H a = some (.ins C dx fs)) (c : Cls X.K C) (n : NoAttr X.K C f) (hl : fs.length < 1000) (ry : RelV y u)
   (h : ∀ s', Inv X pins σ (upd H a (.ins C dx (xA f y fs))) s' -> Q () s') : wpAny (model X.prog X.w) A (setAttr (.ref a) f u) Q E s := by
 obtain ⟨mA, O, r, wi, _, ho⟩ := uM I.hok e
 have hz : (fs.map (·.1)).length <= sizeLine := by rw [List.length_map, sizeLine_eq]; omega
 refine set_map I.kIn O c.sa c.po n.taker c.hd wi hz fun h' O' sb => h _ ?_
 have hd : ∃ o, h'.get? dx = some o := let ⟨o, _, _, e', _⟩ := O'.ns; ⟨o, e'⟩
 refine I.write (x := a) (e := dx) (by rw [e]; exact True.intro) (.inr ho) (fun b q hb z => (sb.2 b hb).trans z) hd ?_
 refine ⟨by rw [zG O.ne]; exact ho, ?_, O.ne, O'.obj, _, O'.ns, fun g => ?_, fun g hg => ?_⟩
 · have := uD f y fs; omega
 · show RelO ((xA f y fs).lookup g) (if g = f then some u else mA g)
   rw [uC]
   by_cases q : g = f
   · rw [if_pos q, if_pos q]; exact ry
   · rw [if_neg q, if_neg q]; exact r g
 · by_cases q : g = f
   · rw [q]; exact (qY f y fs).1
   · refine (qY f y fs).2 g (wi g fun z => hg ?_)
     show (if g = f then some u else mA g) = none
     rw [if_neg q]; exact z
theorem Inv.made (I : Inv X pins σ H s) : Inv X pins σ (upd (upd H s.heap.objs.size (.own (s.heap.objs.size + 1))) (s.heap.objs.size + 1) (.ins C s.heap.objs.size []))
   { s with heap := (s.heap.push PySem.W.emptyDict).push (PySem.W.instObj C s.heap.objs.size) } := by
 have e1 : (s.heap.push PySem.W.emptyDict).get? s.heap.objs.size = some PySem.W.emptyDict := Heap.get?_push_size s.heap rfl
 have e2 : ((s.heap.push PySem.W.emptyDict).push (PySem.W.instObj C s.heap.objs.size)).get? (s.heap.objs.size + 1) = some (PySem.W.instObj C s.heap.objs.size) := by
   have := Heap.get?_push_size (s.heap.push PySem.W.emptyDict) (o := PySem.W.instObj C s.heap.objs.size) rfl
   rwa [Heap.size_push] at this
 have e3 : (s.heap.push PySem.W.emptyDict).Ns s.heap.objs.size (fun _ => none) := ⟨PySem.W.emptyDict, #[], _, e1, rfl, (fun e he => absurd he (by simp)), fun _ => rfl⟩
 have I1 := I.laid (a := s.heap.objs.size) (o := .own (s.heap.objs.size + 1)) (h' := s.heap.push PySem.W.emptyDict) (t' := s.toks) (fun b u q => Heap.get?_push_of_some _ q) (Nat.le_refl _) ⟨_, e1⟩
 refine I1.laid (a := s.heap.objs.size + 1) (o := .ins C s.heap.objs.size []) (t' := s.toks) (fun b u q => Heap.get?_push_of_some _ q) (Nat.le_of_eq (Heap.size_push _ _)) ?_
 have ne : s.heap.objs.size ≠ s.heap.objs.size + 1 := Nat.ne_of_lt (Nat.lt_succ_self _)
 refine ⟨by rw [zG ne, zB], Nat.zero_le _, ne, e2, fun _ => none, (Heap.Ns1.of_empty e3).at fun o q => Heap.get?_push_of_some _ q, fun _ => True.intro, fun y hy => absurd rfl hy⟩
theorem attr_of {prog : Program} {w : World} {env : Env} {e : Expr} {f : Str} {pos : Pos} {s : Shared} {Q : Value -> Shared -> Prop} (hb : attributeBase e f env (eval e env) = eval e env)
   (h : wpAny (model prog w) A (eval e env) (fun o s₁ => wpAny (model prog w) A (getAttr o f true) Q E s₁) E s) : wpAny (model prog w) A (eval (.Attribute e f pos) env) Q E s :=
 Attribute_any_ h (by rw [arm_eval_Attribute, hb])
end
def qI (K : PySem.W.Frag) (ta : TE) (f : Str) : TE := fun σ H Q => ta σ H fun x H1 => ∃ a C dx fs v, x = .ref a /\ H1 a = some (.ins C dx fs) /\ Cls K C /\ NoAttr K C f /\ fs.lookup f = some v /\ Q v H1
def sFld (K : PySem.W.Frag) (ta tv : TE) (f : Str) : TS := fun D σ H => tv σ H fun y H1 => ta σ H1 fun x H2 => ∃ a C dx fs, x = .ref a /\ H2 a = some (.ins C dx fs) /\ Cls K C /\ NoAttr K C f /\ fs.length < 1000 /\
 D.nx σ (upd H2 a (.ins C dx (xA f y fs)))
section
variable {X : Cx} {o e value : Expr} {f : Str} {pos pos' tpos : Pos} {ta tv : TE}
theorem xC (he : PE X e ta) (hb : attributeBase e f X.env (eval e X.env) = eval e X.env) : PE X (.Attribute e f pos) (qI X.K ta f) := by
 intro pins s σ H Q I h
 refine attr_of hb (thn (he pins s σ H _ I h) fun u s1 ⟨x, H1, I1, rx, a, C, dx, fs, v, ex, ea, c, n, l, q⟩ => ?_)
 subst ex
 obtain rfl : u = Value.ref a := rx
 exact getattr_ok I1 ea c n l fun u' s2 I2 ru => ⟨v, H1, I2, ru, q⟩
theorem wW (ha : PE X o ta) (hv : PE X value tv) (hs : swapsWith value (some (.Attribute o f pos')) pos.line X.env = pure false) : PS X (.Assign [.Attribute o f pos'] value pos) (sFld X.K ta tv f) := by
 intro pins s σ H D I h
 refine plainObj_wpAny_Assign_Attribute (thn (hv pins s σ H _ I h) fun u s1 ⟨y, H1, I1, ry, q⟩ => thn (ha pins s1 σ H1 _ I1 q) fun ov s2 ⟨x, H2, I2, rx, a, C, dx, fs, ex, ea, c, n, l, q2⟩ => ?_) hs
 subst ex
 obtain rfl : ov = Value.ref a := rx
 exact setattr_ok I2 ea c n l ry fun s3 I3 => ⟨σ, _, I3, q2⟩
end
section
variable {X : Cx} {pins : List (Addr × Obj)} {σ : St} {H : Hp} {s : Shared} {A : Around} {E : Value -> Shared -> Prop} {Q : Value -> Shared -> Prop} {c : Value} {b : Bool}
inductive TyOf (K : PySem.W.Frag) (H : Hp) : V -> Value -> Prop where
 | non : TyOf K H .non (.type "NoneType")
 | bl (x : Bool) : TyOf K H (.bl x) (.type "bool")
 | int (i : Int) : TyOf K H (.int i) (.type "int")
 | str (x : Str) : TyOf K H (.str x) (.type "str")
 | flt (x : UInt64) : TyOf K H (.flt x) (.type "float")
 | lst {a : Addr} {xs : List V} (e : H a = some (.lst xs)) : TyOf K H (.ref a) (.type "list")
 | frz {a : Addr} {o : Obj} {xs : List V} (e : H a = some (.frz o (.lst xs))) : TyOf K H (.ref a) (.type "list")
 | tup {a : Addr} {xs : List V} (e : H a = some (.tup xs)) : TyOf K H (.ref a) (.type "tuple")
 | dK {a : Addr} {kvs : List (Key × V)} (e : H a = some (.dK kvs)) : TyOf K H (.ref a) (.type "dict")
 | dT {a : Addr} {kvs : List (List Key × V)} (e : H a = some (.dT kvs)) : TyOf K H (.ref a) (.type "dict")
 | ins {a C dx : Addr} {fs : List (Str × V)} (e : H a = some (.ins C dx fs)) (cl : Cls K C) (ha : PySem.W.findIn K (.ref C) "__class__" = some (some (.builtin "object.__class__")))
     (hn : PySem.W.specialIn K (.builtin "object.__class__") "__get__" = some (some (.builtin "getset_descriptor.__get__"))) (htk : PySem.W.takesIn K (.builtin "object.__class__") = some true)
     (hm : PySem.W.mroIn K C (.type "object") = some true) : TyOf K H (.ref a) (.ref C)
theorem isinst_ok {x : V} {u t : Value} (I : Inv X pins σ H s) (rx : RelV x u) (ty : TyOf X.K H x t) (e : PySem.W.kitOne X.K t c = some b) (h : ∀ tk, Q (.bool b) { s with toks := tk }) :
   wpAny (model X.prog X.w) A (call (.builtin "isinstance") [u, c]) Q E s := by
 cases ty with
 | non => cases (show u = Value.none from rx); exact PySem.W.kia_one PySem.W.kitx_none I.kIn True.intro e (fun z => nomatch z) h
 | bl y => cases (show u = Value.bool y from rx); exact PySem.W.kia_one PySem.W.kitx_bool I.kIn True.intro e (fun z => nomatch z) h
 | int i => obtain ⟨t, q⟩ := (show ∃ t, u = Value.int i t from rx); cases q; exact PySem.W.kia_one PySem.W.kitx_int I.kIn True.intro e (fun z => nomatch z) h
 | str y => obtain ⟨t, q⟩ := (show ∃ t, u = Value.str y t from rx); cases q; exact PySem.W.kia_one PySem.W.kitx_str I.kIn True.intro e (fun z => nomatch z) h
 | flt y => obtain ⟨t, q⟩ := (show ∃ t, u = Value.float y t from rx); cases q; exact PySem.W.kia_one PySem.W.kitx_float I.kIn True.intro e (fun z => nomatch z) h
 | @lst a xs ea =>
   cases (show u = Value.ref a from rx)
   obtain ⟨_, _, n, _, h1⟩ := (show ObjOk X.prog X.w H s.heap a (.lst xs) from I.hok a _ ea)
   exact PySem.W.kia_one PySem.W.kitx_list I.kIn ⟨_, h1, rfl⟩ e (fun z => nomatch z) h
 | @frz a ob xs ea =>
   cases (show u = Value.ref a from rx)
   obtain ⟨_, _, _, n, _, h1⟩ := (show ObjOk X.prog X.w H s.heap a (.frz ob (.lst xs)) from I.hok a _ ea)
   exact PySem.W.kia_one PySem.W.kitx_list I.kIn ⟨_, h1, rfl⟩ e (fun z => nomatch z) h
 | @tup a xs ea =>
   cases (show u = Value.ref a from rx)
   obtain ⟨_, _, _, p⟩ := (show ObjOk X.prog X.w H s.heap a (.tup xs) from I.hok a _ ea)
   obtain ⟨o, h1, h2, _⟩ := p
   exact PySem.W.kia_one PySem.W.kitx_tuple I.kIn ⟨o, h1, h2⟩ e (fun z => nomatch z) h
 | @dK a kvs ea =>
   cases (show u = Value.ref a from rx)
   obtain ⟨_, _, vs, _, p⟩ := (show ObjOk X.prog X.w H s.heap a (.dK kvs) from I.hok a _ ea)
   obtain ⟨o, es, ep, h1, h2, _⟩ := p
   exact PySem.W.kia_one PySem.W.kitx_dict I.kIn ⟨o, h1, h2.1⟩ e (fun z => nomatch z) h
 | @dT a kvs ea =>
   cases (show u = Value.ref a from rx)
   obtain ⟨_, _, xs, _, o, es, ep, h1, h2, _⟩ := (show ObjOk X.prog X.w H s.heap a (.dT kvs) from I.hok a _ ea)
   exact PySem.W.kia_one PySem.W.kitx_dict I.kIn ⟨o, h1, h2.1⟩ e (fun z => nomatch z) h
 | @ins a C dx fs ea cl ha hn htk hm =>
   cases (show u = Value.ref a from rx)
   obtain ⟨mA, O, _⟩ := uM I.hok ea
   obtain ⟨od, J, _⟩ := O.look
   exact PySem.W.kia_one (PySem.W.kitx_own (cl.get _) cl.hd ha hn htk hm) I.kIn J e (fun z => nomatch z) h
end
structure Room (k : Nat) (A : Around) : Prop where
 hd : A.handled = none
 dp : A.depth + 3 * k + 5 < recursionLimit
 un : A.units + 16 * k + 200 < cLine
theorem Room.mono {j k : Nat} {A : Around} (r : Room k A) (h : j <= k) : Room j A := ⟨r.hd, by have := r.dp; omega, by have := r.un; omega⟩
theorem Room.deeper {k : Nat} {A : Around} (r : Room (k + 1) A) (env : Env) : Room k (A.deeper env) :=
 ⟨r.hd, by have := r.dp; show A.depth + 1 + 3 * k + 5 < _; omega, by have := r.un; show A.units + 3 + 16 * k + 200 < _; omega⟩
theorem make_depth {A : Around} {C : Addr} {us : List Value} {kw : List (Str × Value)} : (A.under (.builtin "type.__call__" ⟨.ref C :: us, kw⟩)).depth = A.depth + 1 := by
 first | rfl | simp [Around.under, Code.weight, Code.isCreation, Code.isGuard, Code.isCaller, Code.frames, Code.isFrame, guardIds]
theorem make_units {A : Around} {C : Addr} {us : List Value} {kw : List (Str × Value)} : (A.under (.builtin "type.__call__" ⟨.ref C :: us, kw⟩)).units = A.units + 1 := by
 first | rfl | simp [Around.under, Code.cUnits, Code.frames, Code.isFrame]
theorem Room.make {k : Nat} {A : Around} (r : Room (k + 1) A) (C : Addr) (us : List Value) (kw : List (Str × Value)) : Room k (A.under (.builtin "type.__call__" ⟨.ref C :: us, kw⟩)) :=
 ⟨r.hd, by have := r.dp; rw [make_depth]; omega, by have := r.un; rw [make_units]; omega⟩
theorem Room.depth {k : Nat} {A : Around} (r : Room k A) : A.depth < recursionLimit := by have := r.dp; omega
theorem Room.units {k : Nat} {A : Around} (r : Room k A) : A.units + 64 < cLine := by have := r.un; omega
theorem Room.units0 {k : Nat} {A : Around} (r : Room k A) : A.units < cLine := by have := r.un; omega
def tNil : TA := fun _ H Q => Q [] H
def tCons (ta : TE) (tr : TA) : TA := fun σ H Q => ta σ H fun x H1 => tr σ H1 fun xs H2 => Q (x :: xs) H2
section
variable {X : Cx} {e : Expr} {es : List Expr} {te : TE} {t : TA} {pos : Pos}
theorem pa_nil : PA X [] tNil := fun _ _ _ _ H Q I h => Calls.spliced_nil ⟨[], H, I, .nil, h⟩
theorem zA (ha : PE X e te) (hr : PA X es t) (hs : starEach (e :: es) X.env = (false, eval e X.env) :: starEach es X.env := by rfl) : PA X (e :: es) (tCons te t) := by
 intro pos pins s σ H Q I h
 rw [hs]
 show wpAny _ _ (spliced ((false, eval e X.env) :: backTo pos (starEach es X.env))) _ _ s
 refine Calls.spliced_cons (thn (ha pins s σ H _ I h) fun u s1 ⟨x, H1, I1, r1, q1⟩ => ?_)
 exact thn (hr pos pins s1 σ H1 _ I1 q1) fun us s2 ⟨xs, H2, I2, r2, q2⟩ => ⟨x :: xs, H2, I2, .cons r1 r2, q2⟩
def tTup (t : TA) : TE := fun σ H Q => t σ H fun xs H1 => xs.length <= sizeLine /\ ∀ p, H1 p = none -> Q (.ref p) (upd H1 p (.tup xs))
def tLst (t : TA) : TE := fun σ H Q => t σ H fun xs H1 => xs.length <= sizeLine /\ ∀ p, H1 p = none -> Q (.ref p) (upd H1 p (.lst xs))
theorem yA {x1} (h : PA X es t) : PE X (.Tuple es x1 pos) (tTup t) := by
 intro pins s σ H Q I hq
 refine wpAny_Tuple_spliced (thn (h pos pins s σ H _ I hq) fun us s1 ⟨xs, H1, I1, r, z, q⟩ => ⟨by rw [← r.length]; exact z, ?_⟩)
 have hf : H1 s1.heap.objs.size = none := I1.hok.fresh (Nat.le_refl _)
 refine ⟨.ref s1.heap.objs.size, upd H1 s1.heap.objs.size (.tup xs), I1.laid (t' := s1.toks) (fun b u e => Heap.get?_push_of_some _ e) (Nat.le_refl _) ?_, rfl, q _ hf⟩
 exact ⟨z, us, r, ⟨_, Heap.get?_push_size _ rfl, rfl, _, rfl⟩⟩
theorem yX (h : PA X es t) : PE X (.List es pos) (tLst t) := by
 intro pins s σ H Q I hq
 refine wpAny_List_spliced (thn (h pos pins s σ H _ I hq) fun us s1 ⟨xs, H1, I1, r, z, q⟩ => ⟨by rw [← r.length]; exact z, ?_⟩)
 have hf : H1 s1.heap.objs.size = none := I1.hok.fresh (Nat.le_refl _)
 refine ⟨.ref s1.heap.objs.size, upd H1 s1.heap.objs.size (.lst xs), I1.laid (t' := s1.toks) (fun b u e => Heap.get?_push_of_some _ e) (Nat.le_refl _) ?_, rfl, q _ hf⟩
 exact ⟨z, us, 0, r, Heap.get?_push_size _ rfl⟩
end
abbrev Sp := List V -> Hp -> VK -> XK -> Prop
abbrev CXT := List Env -> Hp -> Shared -> XK -> Value -> Shared -> Prop
structure Env0 (P : Program) (w : World) (K : PySem.W.Frag) (mg : Str -> Option Value) (base : Heap) (A : Around) (outer : List Env) (s : Shared) (H : Hp) : Prop where
 frames : A.frames = some outer
 mod : Mod K mg base
 bs : ∀ b o, base.get? b = some o -> s.heap.get? b = some o /\ H b = none
 bsz : base.objs.size <= s.heap.objs.size
 funs : s.heap.FunFrames base outer
 frf : ∀ b ∈ frs outer, H b = none
 hok : HOk P w H s.heap
 bare : AllBare s.gens
def CE (outer : List Env) (P : Program) (w : World) (H : Hp) (s : Shared) (Q : VK) (u : Value) (s' : Shared) : Prop :=
 ∃ v H', s'.os = s.os /\ AllBare s'.gens /\ Un (frs outer) [] H H' s.heap s'.heap /\ HOk P w H' s'.heap /\ RelV v u /\ Q v H'
def CR (CX : CXT) (outer : List Env) (P : Program) (w : World) (H : Hp) (s : Shared) (Q : VK) (E : XK) (r : Result) (s' : Shared) : Prop :=
 match r with
 | .ok (.ret u) => CE outer P w H s Q u s'
 | .ok _ => False
 | .error e => CX outer H s E e s'
structure FnOk (P : Program) (w : World) (K : PySem.W.Frag) (mg : Str -> Option Value) (base : Heap) (CX : CXT) (k : Nat) (f : Addr) (fd : FuncData) (ps : List Str) (sp : Sp) : Prop where
 len : ∀ vs H Q E, sp vs H Q E -> vs.length = ps.length
 run : ∀ (A : Around) (outer : List Env) (s : Shared) (H : Hp) (args : Args) (us : List Value) (vs : List V) (Q : VK) (E : XK), Room k A -> Env0 P w K mg base A outer s H -> BindsTo s fd args (ps.zip us) -> Vals vs us -> sp vs H Q E ->
   codeAny (model P w) A (.call (.ref f) args) (CR CX outer P w H s Q E) s
theorem Env0.make {P : Program} {w : World} {K : PySem.W.Frag} {mg : Str -> Option Value} {base : Heap} {A : Around} {outer : List Env} {s : Shared} {H : Hp} (e : Env0 P w K mg base A outer s H) (C : Addr) (us : List Value) (kw : List (Str × Value)) :
   Env0 P w K mg base (A.under (.builtin "type.__call__" ⟨.ref C :: us, kw⟩)) outer s H := ⟨by first | exact e.frames | (simpa [Around.under, Code.envs, Code.isFrame, pushEnvs] using e.frames), e.mod, e.bs, e.bsz, e.funs, e.frf, e.hok, e.bare⟩
section
variable {X : Cx} {pins : List (Addr × Obj)} {σ : St} {H : Hp} {s s' : Shared}
theorem Inv.env0 (I : Inv X pins σ H s) : Env0 X.prog X.w X.K X.mg X.base X.A X.stack s H :=
 ⟨I.ok.frames, I.ok.mod, I.bs, Nat.le_trans I.ok.bsz I.sz, I.stack, I.stkFree, I.hok, I.bare⟩
theorem Inv.after {Q : VK} {u : Value} (I : Inv X pins σ H s) (h : CE X.stack X.prog X.w H s Q u s') : EP X pins σ Q u s' := by
 obtain ⟨v, H', os, bare, un, hok, r, q⟩ := h
 obtain ⟨hh, g, d, t, os'⟩ := s'
 obtain rfl : os' = s.os := os
 exact ⟨v, H', I.call (h' := hh) (g' := g) (d' := d) (t' := t) (ch := []) un hok bare (fun b z => absurd z (by simp)), r, q⟩
end
def tCall (sp : Sp) (dvs : List V) (E : XK) (t : TA) : TE := fun σ H Q => t σ H fun vs H1 => sp (vs ++ dvs) H1 Q E
def xI (C : Addr) (m : Str) (sp : Sp) (dvs : List V) (E : XK) (ta : TE) (t : TA) : TE := fun σ H Q => ta σ H fun x H1 => ∃ a dx fs, x = .ref a /\ H1 a = some (.ins C dx fs) /\ fs.lookup m = none /\
 t σ H1 fun vs H2 => sp (x :: (vs ++ dvs)) H2 Q E
def tMake (C : Addr) (sp : Sp) (dvs : List V) (E : XK) (t : TA) : TE := fun σ H Q => t σ H fun vs H1 => ∀ x dx, H1 x = none -> H1 dx = none -> dx ≠ x ->
 sp (.ref x :: (vs ++ dvs)) (upd (upd H1 dx (.own x)) x (.ins C dx [])) (fun v H2 => v = .non /\ Q (.ref x) H2) E
def Binds (K : PySem.W.Frag) (fd : FuncData) (ps : List Str) (ds : List Value) : Prop :=
 ∀ (s : Shared) (us : List Value), K.In s.heap -> (us ++ ds).length = ps.length -> BindsTo s fd ⟨us, []⟩ (ps.zip (us ++ ds))
theorem Binds.all {K : PySem.W.Frag} {fd : FuncData} {ps : List Str} (h : ∀ us : List Value, us.length = ps.length -> bindArgs fd ⟨us, []⟩ = pure (ps.zip us)) : Binds K fd ps [] := fun s us _ hl => by
 rw [List.append_nil] at hl ⊢
 exact .of_eq (h us hl)
def uA (CX : CXT) (X : Cx) (E : XK) : Prop := ∀ (pins : List (Addr × Obj)) (σ : St) (H : Hp) (s : Shared) (e : Value) (s' : Shared), Inv X pins σ H s -> CX X.stack H s E e s' -> X.xe e s'
section
variable {X : Cx} {CX : CXT} {k : Nat} {f C : Addr} {fd : FuncData} {ps : List Str} {sp : Sp} {dvs : List V} {ds : List Value} {E : XK} {x m : Str} {p pos apos : Pos} {e o : Expr} {es : List Expr} {ta : TE} {t : TA}
theorem run_fn {pins : List (Addr × Obj)} {σ : St} {H : Hp} {s : Shared} {Q : VK} {us : List Value} {vs : List V} (F : FnOk X.prog X.w X.K X.mg X.base CX k f fd ps sp) (hr : Room k X.A) (hb : Binds X.K fd ps ds) (hd : Vals dvs ds) (hx : uA CX X E)
   (I : Inv X pins σ H s) (r : Vals vs us) (h : sp (vs ++ dvs) H Q E) : wpAny (model X.prog X.w) X.A (call (.ref f) us) (EP X pins σ Q) X.xe s := by
 have r2 : Vals (vs ++ dvs) (us ++ ds) := r.append hd
 have hl : (us ++ ds).length = ps.length := by rw [← r2.length]; exact F.len _ _ _ _ h
 refine wpAny_call (codeAny_mono (F.run X.A X.stack s H ⟨us, []⟩ (us ++ ds) (vs ++ dvs) Q E hr I.env0 (hb s us I.kIn hl) r2 h) fun r s' hq => ?_)
 cases r with
 | error e => exact hx pins σ H s e s' I hq
 | ok fl =>
   cases fl with
   | ret u => exact I.after hq
   | next => exact False.elim hq
   | brk => exact False.elim hq
   | cont => exact False.elim hq
theorem pe_call (F : FnOk X.prog X.w X.K X.mg X.base CX k f fd ps sp) (hr : Room k X.A) (hg : Gl X x) (hm : X.mg x = some (.ref f)) (hk : PySem.W.keepIn X.K (.ref f) = true) (hb : Binds X.K fd ps ds) (hd : Vals dvs ds) (hx : uA CX X E)
   (ha : PA X (e :: es) t) (hdb : (x == ("__debug__" : Str)) = false := by decide) (he : starEach (e :: es) X.env = (false, eval e X.env) :: starEach es X.env := by rfl) (hpl : (backTo pos (starEach es X.env)).any (·.1) = false := by rfl) :
   PE X (.Call (.Name x p) (e :: es) [] pos) (tCall sp dvs E t) := by
 intro pins s σ H Q I h
 refine wpAny_Call_Name_kw (ld_glob I hg hm ?_ hdb)
 refine PySem.W.callWith_K (h₀ := X.base) I.ok.mod.kin hk (thn (ha pos pins s σ H _ I h) fun us s1 ⟨vs, H1, I1, r, q⟩ => ⟨I1.kIn, ?_⟩) he hpl
 exact run_fn F hr hb hd hx I1 r q
theorem pe_meth {pl : Sem Bool} (he : PE X o ta) (c : Cls X.K C) (hm : Meth X.K C m f) (F : FnOk X.prog X.w X.K X.mg X.base CX k f fd ps sp) (hr : Room k X.A) (hb : Binds X.K fd ps ds) (hd : Vals dvs ds) (hx : uA CX X E) (ha : PA X (e :: es) t)
   (hst : starEach (e :: es) X.env = (false, eval e X.env) :: starEach es X.env := by rfl) (hpl : (backTo pos (starEach es X.env)).any (·.1) = false := by rfl)
   (ht : eval (.Call (.Attribute o m apos) (e :: es) [] pos) X.env = (do
     let ov ← eval o X.env
     standAt apos.atName
     let (f, first) ← holding [ov] (getMethod ov m pl)
     callWith pos f first (backTo pos (starEach (e :: es) X.env)) (backToKw pos (keywordEach [] X.env))) := by rfl) :
   PE X (.Call (.Attribute o m apos) (e :: es) [] pos) (xI C m sp dvs E ta t) := by
 intro pins s σ H Q I h
 refine PySem.W.methodCall_KW (pl := pl) (thn (he pins s σ H _ I h) fun u s1 ⟨x, H1, I1, rx, a, dx, fs, ex, ea, l, q⟩ => ?_) ht
 subst ex
 obtain rfl : u = Value.ref a := rx
 refine getmeth_ok I1 ea c hm l ?_
 refine PySem.W.callWith_K (first := [.ref a]) (h₀ := X.base) I.ok.mod.kin hm.kp (thn (ha pos pins s1 σ H1 _ I1 q) fun us s2 ⟨vs, H2, I2, r, q2⟩ => ⟨I2.kIn, ?_⟩) hst hpl
 exact run_fn (us := .ref a :: us) (vs := .ref a :: vs) F hr hb hd hx I2 (.cons rfl r) q2
structure Mk (K : PySem.W.Frag) (C f : Addr) : Prop where
 makes : PySem.W.makesIn K C = true
 init : PySem.W.findIn K (.ref C) "__init__" = some (some (.ref f))
 fn : PySem.W.isFn K (.ref f) = true
 kp : PySem.W.keepIn K (.ref C) = true
theorem run_make {pins : List (Addr × Obj)} {σ : St} {H : Hp} {s : Shared} {Q : VK} {us : List Value} {vs : List V} (M : Mk X.K C f) (F : FnOk X.prog X.w X.K X.mg X.base CX k f fd ps sp) (hr : Room (k + 1) X.A) (hb : Binds X.K fd ps ds) (hd : Vals dvs ds)
   (hx : uA CX X E) (I : Inv X pins σ H s) (r : Vals vs us)
   (h : ∀ x dx, H x = none -> H dx = none -> dx ≠ x -> sp (.ref x :: (vs ++ dvs)) (upd (upd H dx (.own x)) x (.ins C dx [])) (fun v H2 => v = .non /\ Q (.ref x) H2) E) :
   wpAny (model X.prog X.w) X.A (call (.ref C) us) (EP X pins σ Q) X.xe s := by
 have hq := h (s.heap.objs.size + 1) s.heap.objs.size (I.hok.fresh (Nat.le_succ _)) (I.hok.fresh (Nat.le_refl _)) (Nat.ne_of_lt (Nat.lt_succ_self _))
 have I2 := Inv.made (C := C) I
 have r2 : Vals (V.ref (s.heap.objs.size + 1) :: (vs ++ dvs)) (Value.ref (s.heap.objs.size + 1) :: (us ++ ds)) := .cons rfl (r.append hd)
 have hl : (Value.ref (s.heap.objs.size + 1) :: us ++ ds).length = ps.length := by
   have e := r2.length
   rw [F.len _ _ _ _ hq] at e
   exact e.symm
 refine wpAny_call (make_map (f := f) I.kIn M.makes M.init (beq_iff_eq.mp M.fn) (codeAny_mono (F.run _ X.stack _ _ ⟨Value.ref (s.heap.objs.size + 1) :: us, []⟩ (Value.ref (s.heap.objs.size + 1) :: (us ++ ds)) _ _ E (hr.make C us [])
   (I2.env0.make C us []) (hb _ (Value.ref (s.heap.objs.size + 1) :: us) I2.kIn hl) r2 hq) fun r s' hq' => ?_))
 cases r with
 | error e => exact hx pins σ _ _ e s' I2 hq'
 | ok fl =>
   cases fl with
   | ret u =>
     obtain ⟨v, H', I3, rv, ev, q3⟩ := I2.after hq'
     subst ev
     exact ⟨rv, ⟨V.ref (s.heap.objs.size + 1), H', I3, rfl, q3⟩⟩
   | next => exact False.elim hq'
   | brk => exact False.elim hq'
   | cont => exact False.elim hq'
theorem pe_make (M : Mk X.K C f) (F : FnOk X.prog X.w X.K X.mg X.base CX k f fd ps sp) (hr : Room (k + 1) X.A) (hg : Gl X x) (hm : X.mg x = some (.ref C)) (hb : Binds X.K fd ps ds) (hd : Vals dvs ds) (hx : uA CX X E)
   (ha : PA X (e :: es) t) (hdb : (x == ("__debug__" : Str)) = false := by decide) (he : starEach (e :: es) X.env = (false, eval e X.env) :: starEach es X.env := by rfl) (hpl : (backTo pos (starEach es X.env)).any (·.1) = false := by rfl) :
   PE X (.Call (.Name x p) (e :: es) [] pos) (tMake C sp dvs E t) := by
 intro pins s σ H Q I h
 refine wpAny_Call_Name_kw (ld_glob I hg hm ?_ hdb)
 refine PySem.W.callWith_K (h₀ := X.base) I.ok.mod.kin M.kp (thn (ha pos pins s σ H _ I h) fun us s1 ⟨vs, H1, I1, r, q⟩ => ⟨I1.kIn, ?_⟩) he hpl
 exact run_make M F hr hb hd hx I1 r q
end
section
variable {X : Cx} {CX : CXT} {k : Nat} {f C : Addr} {fd : FuncData} {ps ks : List Str} {sp : Sp} {E : XK} {x m : Str} {p pos apos kpos : Pos} {e o : Expr} {es : List Expr} {kws : List Keyword} {te ta : TE} {t tk : TA} {nm : Option Str}
structure KBinds (K : PySem.W.Frag) (fd : FuncData) (ps ks : List Str) (g : List Value -> List Value -> List Value) (gV : List V -> List V -> List V) : Prop where
 to : ∀ (s : Shared) (us ws : List Value), K.In s.heap -> (g us ws).length = ps.length -> BindsTo s fd ⟨us, ks.zip ws⟩ (ps.zip (g us ws))
 rel : ∀ {vs : List V} {us : List Value} {zs : List V} {ws : List Value}, Vals vs us -> Vals zs ws -> Vals (gV vs zs) (g us ws)
variable {g : List Value -> List Value -> List Value} {gV : List V -> List V -> List V}
end
structure FnScope (N P : List Str) (sc : Scope) : Prop where
 kind : sc.kind = .function
 co : sc.isCoroutine = false
 gen : sc.isGenerator = false
 nd : N.Nodup
 pre : N.take P.length = P
 par : ∀ x ∈ P, sc.names.lookup x = some .local \/ sc.names.lookup x = some .cell
 nofree : ∀ y ∈ sc.names, y.2 ≠ .free
theorem wM {kindOf : Str -> Option NameKind} {x : Str} : ∀ {binds : List (Str × Value)} {m : Str -> Option Value}, (∀ v, (x, v) ∉ binds) -> bindL kindOf binds m x = m x
 | [], _, _ => rfl
 | (n, v) :: r, m, h => by
   unfold bindL
   rw [wM fun w hw => h w (List.mem_cons_of_mem _ hw)]
   split
   · have : x ≠ n := by rintro rfl; exact h v List.mem_cons_self
     simp [this]
   · rfl
theorem wO {kindOf : Str -> Option NameKind} {x : Str} : ∀ {binds : List (Str × Value)} {m : Str -> Option Value}, (∀ v, (x, v) ∉ binds) -> bindC kindOf binds m x = m x
 | [], _, _ => rfl
 | (n, v) :: r, m, h => by
   unfold bindC
   rw [wO fun w hw => h w (List.mem_cons_of_mem _ hw)]
   split
   · rfl
   · have : x ≠ n := by rintro rfl; exact h v List.mem_cons_self
     simp [this]
theorem wN {kindOf : Str -> Option NameKind} {x : Str} {v : Value} : ∀ {P : List Str} {vs : List Value} {i : Nat} {m : Str -> Option Value}, P.Nodup -> P[i]? = some x -> vs[i]? = some v -> kindOf x = some .local ->
   bindL kindOf (P.zip vs) m x = some v
 | [], _, _, _, _, h, _, _ => by simp at h
 | _ :: _, [], _, _, _, _, h, _ => by simp at h
 | p :: P, w :: vs, 0, m, nd, h1, h2, hk => by
   simp at h1 h2; subst h1; subst h2
   show bindL kindOf ((p, w) :: P.zip vs) m p = _
   unfold bindL
   rw [wM fun v hv => (List.nodup_cons.mp nd).1 (List.of_mem_zip hv).1, if_pos hk]
   simp
 | p :: P, w :: vs, i + 1, m, nd, h1, h2, hk => by
   show bindL kindOf ((p, w) :: P.zip vs) m x = _
   unfold bindL
   exact wN (i := i) (List.nodup_cons.mp nd).2 (by simpa using h1) (by simpa using h2) hk
theorem wP {kindOf : Str -> Option NameKind} {x : Str} {v : Value} : ∀ {P : List Str} {vs : List Value} {i : Nat} {m : Str -> Option Value}, P.Nodup -> P[i]? = some x -> vs[i]? = some v -> kindOf x ≠ some .local ->
   bindC kindOf (P.zip vs) m x = some v
 | [], _, _, _, _, h, _, _ => by simp at h
 | _ :: _, [], _, _, _, _, h, _ => by simp at h
 | p :: P, w :: vs, 0, m, nd, h1, h2, hk => by
   simp at h1 h2; subst h1; subst h2
   show bindC kindOf ((p, w) :: P.zip vs) m p = _
   unfold bindC
   rw [wO fun v hv => (List.nodup_cons.mp nd).1 (List.of_mem_zip hv).1, if_neg hk]
   simp
 | p :: P, w :: vs, i + 1, m, nd, h1, h2, hk => by
   show bindC kindOf ((p, w) :: P.zip vs) m x = _
   unfold bindC
   exact wP (i := i) (List.nodup_cons.mp nd).2 (by simpa using h1) (by simpa using h2) hk
def start (N : List Str) (vs : List V) : St := vs.map some ++ List.replicate (N.length - vs.length) none
def vS (CX : CXT) (P : Program) (w : World) (K : PySem.W.Frag) (mg : Str -> Option Value) (base : Heap) (N : List Str) (qual : Str) (scope : Scope) (f : Addr) (cd : Value) (A : Around) (outer : List Env) (s : Shared) (H : Hp) (E : XK) : Cx where
 prog := P
 w := w
 K := K
 mg := mg
 base := base
 A := A.deeper (envOfC qual scope s.heap.objs.size f cd)
 N := N
 s₀ := s
 H₀ := H
 env := envOfC qual scope s.heap.objs.size f cd
 outer := outer
 stack := envOfC qual scope s.heap.objs.size f cd :: outer
 ex := []
 calm := true
 fn := fun _ => true
 pn := []
 xe := fun e s' => wpAny (model P w) (A.deeper (envOfC qual scope s.heap.objs.size f cd)) (leaving (envOfC qual scope s.heap.objs.size f cd) e) (fun _ s'' => CX outer H s E e s'') (fun e' s'' => CX outer H s E e' s'') s'
theorem cell_has {sc : Scope} {n : Nat} {x : Str} (h : sc.names.lookup x = some .cell) : ∃ c, (cellsFrom n sc.names []).lookup x = some c := by
 have q := PySem.W.cellsFrom_some sc.names n [] (.inl h)
 exact Option.isSome_iff_exists.mp q
theorem inv_start {CX : CXT} {P : Program} {w : World} {K : PySem.W.Frag} {mg : Str -> Option Value} {base : Heap} {N ps : List Str} {qual : Str} {scope : Scope} {f : Addr} {cd : Value} {A : Around} {outer : List Env} {s s1 : Shared} {H : Hp} {E : XK} {us : List Value} {vs : List V}
   (S : FnScope N ps scope) (hd : A.handled = none) (e0 : Env0 P w K mg base A outer s H) (hl : vs.length = ps.length) (r : Vals vs us)
   (x : InCallC s s.heap.objs.size (bindL (envOfC qual scope s.heap.objs.size f cd).kindOf (ps.zip us) fun _ => none) (cellsFrom (s.heap.objs.size + 1) scope.names []) (bindC (envOfC qual scope s.heap.objs.size f cd).kindOf (ps.zip us) fun _ => none) s1) :
   Inv (vS CX P w K mg base N qual scope f cd A outer s H E) [] (start N vs) H s1 := by
 have hpl : ps.length <= N.length := by have := congrArg List.length S.pre; rw [List.length_take] at this; omega
 obtain ⟨h1, tk, rfl, hk⟩ := x.done
 have noA : ∀ b : Addr, b ∉ (vS CX P w K mg base N qual scope f cd A outer s H E).ex := fun b z => absurd (show b ∈ ([] : List Addr) from z) (by simp)
 refine ⟨⟨e0.mod, S.kind, rfl, rfl, Nat.le_refl _, fun y z c h1 h2 => ?_, fun y hy => ?_, fun y c _ h => ?_, fun _ => hd, Around.frames_deeper e0.frames, .inr ⟨rfl, rfl⟩, fun b z => absurd z (noA b), e0.bs, e0.bsz, fun b _ _ => noA b, fun b z => absurd z (noA b), e0.funs, e0.frf⟩,
   rfl, e0.bare, Un.kept hk, ⟨_, x.toInCall.ns, fun i y v h1 h2 h3 => ?_⟩, fun y c h => ⟨_, x.cell y c h⟩, e0.hok.fresh (Nat.le_refl _), fun y c h => ?_, fun p hp => absurd (show p ∈ ([] : List (Addr × Obj)) from hp) (by simp), e0.hok.kept hk, ?_⟩
 · exact name_of_addr x.apart (PySem.mem_of_lookup h1) (PySem.mem_of_lookup h2)
 · have hy : scope.names.lookup y = some .cell \/ scope.names.lookup y = some .free := hy
   rcases hy with hy | hy
   · exact cell_has hy
   · exact absurd rfl (S.nofree _ (PySem.mem_of_lookup hy))
 · exact Nat.le_of_lt (x.above y c (PySem.mem_of_lookup h))
 · have hi : i < vs.length := by
     unfold start at h2
     by_cases hi : i < vs.length
     · exact hi
     · rw [List.getElem?_append_right (by simpa using hi)] at h2
       rw [List.getElem?_replicate] at h2
       split at h2 <;> cases h2
   have ha : vs[i]? = some v := by
     unfold start at h2
     rw [List.getElem?_append_left (by simpa using hi), List.getElem?_map] at h2
     cases e : vs[i]? with
     | none => rw [e] at h2; cases h2
     | some a => rw [e] at h2; cases h2; rfl
   obtain ⟨u, hu, rv⟩ := r.get ha
   have hp : ps[i]? = some y := by
     rw [← S.pre, List.getElem?_take_of_lt (by omega)]; exact h1
   have ndP : ps.Nodup := by rw [← S.pre]; exact S.nd.sublist (List.take_sublist _ _)
   refine ⟨u, rv, ?_⟩
   rcases S.par y (List.mem_of_getElem? hp) with k | k
   · exact .inl ⟨k, wN ndP hp hu k⟩
   · obtain ⟨c, e⟩ := cell_has (n := s.heap.objs.size + 1) k
     refine .inr ⟨.inl k, c, e, ?_⟩
     have q := x.cell y c e
     rw [wP ndP hp hu (by show scope.names.lookup y ≠ _; rw [k]; decide)] at q
     exact q
 · exact e0.hok.fresh (Nat.le_of_lt (x.above y c (PySem.mem_of_lookup h)))
 · unfold start
   show _ = N.length
   rw [List.length_append, List.length_map, List.length_replicate]
   omega
theorem fn_of {CX : CXT} {P : Program} {w : World} {K : PySem.W.Frag} {mg : Str -> Option Value} {base : Heap} {k : Nat} {f : Addr} {name qual : Str} {params : Arguments} {body : List Stmt} {scope : Scope} {dV kV doc pm cdv ct oc : Value} {an od : Option Addr}
   {osl : Array (Option Value)} {N ps : List Str} {sp : Sp} (lk : K.lookup f = some ⟨oc, od, .func (PySem.W.fnOf name qual params body scope dV kV doc pm an cdv ct), osl⟩) (hcd : PySem.W.codeIn K cdv qual = true) (S : FnScope N ps scope)
   (len : ∀ vs H Q E, sp vs H Q E -> vs.length = ps.length)
   (hbody : ∀ (A : Around) (outer : List Env) (s : Shared) (H : Hp) (vs : List V) (Q : VK) (E : XK), Room k (A.deeper (envOfC qual scope s.heap.objs.size f cdv)) -> sp vs H Q E ->
     ∃ t, PSs (vS CX P w K mg base N qual scope f cdv A outer s H E) body t /\ t { nx := fun _ H' => Q .non H', rt := Q } (start N vs) H) :
   FnOk P w K mg base CX (k + 1) f (PySem.W.fnOf name qual params body scope dV kV doc pm an cdv ct) ps sp := by
 refine ⟨len, fun A outer s H args us vs Q E hr e0 hb r hsp => ?_⟩
 have hl := len _ _ _ _ hsp
 have KX : K.In s.heap := e0.mod.kin.keeps fun b o e => (e0.bs b o e).1
 have lim : s.heap.NoLimit := e0.mod.nolimit.keeps fun b o e => (e0.bs b o e).1
 have hkind : ∀ y ∈ ps.zip us, scope.names.lookup y.1 = some .local \/ (scope.names.lookup y.1 = some .cell /\ ((cellsFrom (s.heap.objs.size + 1) scope.names []).lookup y.1).isSome = true) := fun ⟨n, v⟩ hy => by
   rcases S.par n (List.of_mem_zip hy).1 with q | q
   · exact .inl q
   · exact .inr ⟨q, PySem.W.cellsFrom_some _ _ _ (.inl q)⟩
 refine codeAny_call_function hr.depth (KX _ _ lk) rfl S.co S.gen rfl (PySem.W.codeRec_of KX hcd) (hb _ _ _ _ ?_)
 refine wpAny_newFunctionEnv_cells S.kind hkind fun env he s1 x => ?_
 subst he
 refine ⟨lim.keeps x.toInCall.keep, codeAny_func ?_⟩
 obtain ⟨t, ht, hq⟩ := hbody A outer s H vs Q E (hr.deeper _) hsp
 have I : Inv (vS CX P w K mg base N qual scope f cdv A outer s H E) [] (start N vs) H s1 := inv_start S hr.hd e0 hl r x
 refine wpAny_mono (ht [] s1 (start N vs) H _ I hq) (fun fl s' hs => ?_) fun e s' hs => hs
 have fin : ∀ {σ' : St} {H' : Hp} {v : V} {u : Value}, Inv (vS CX P w K mg base N qual scope f cdv A outer s H E) [] σ' H' s' -> RelV v u -> Q v H' -> CE outer P w H s Q u s' :=
   fun {σ' H' v u} J rv q => ⟨v, H', J.os, J.bare, J.base, J.hok, rv, q⟩
 cases fl with
 | ret u =>
   obtain ⟨v, σ', H', J, rv, q⟩ := hs
   exact fin J rv q
 | next =>
   obtain ⟨σ', H', J, q⟩ := hs
   exact fin (v := V.non) (u := Value.none) J rfl q
 | brk =>
   obtain ⟨_, _, _, q⟩ := hs
   exact False.elim q
 | cont =>
   obtain ⟨_, _, _, q⟩ := hs
   exact False.elim q
section
variable {X : Cx} {x : Str} {p pos : Pos} {e : Expr} {es : List Expr} {t : TA} {id T : String} {r : List V -> Hp -> VK -> Prop}
def tCB (r : List V -> Hp -> VK -> Prop) (t : TA) : TE := fun σ H Q => t σ H fun vs H1 => r vs H1 Q
theorem zK (hc : jF X (.builtin id) r) (hg : Gl X x) (hm : X.mg x = none) (hv : bootBuiltins x = some (.builtin id)) (ha : PA X (e :: es) t) (hn : x ≠ "__name__" := by decide) (hdb : (x == ("__debug__" : Str)) = false := by decide)
   (he : starEach (e :: es) X.env = (false, eval e X.env) :: starEach es X.env := by rfl) (hpl : (backTo pos (starEach es X.env)).any (·.1) = false := by rfl) : PE X (.Call (.Name x p) (e :: es) [] pos) (tCB r t) := by
 intro pins s σ H Q I h
 refine wpAny_Call_Name_kw (qW I hg hm hv ?_ hn hdb)
 exact PyProof.Rows.callWith_builtin1 (thn (ha pos pins s σ H _ I h) fun us s1 ⟨vs, H1, I1, r1, q1⟩ => hc pins s1 σ H1 vs us Q I1 r1 q1) he hpl
theorem jY (hc : jF X (.type T) r) (hg : Gl X x) (hm : X.mg x = none) (hv : bootBuiltins x = some (.type T)) (ha : PA X (e :: es) t) (hn : x ≠ "__name__" := by decide) (hdb : (x == ("__debug__" : Str)) = false := by decide)
   (he : starEach (e :: es) X.env = (false, eval e X.env) :: starEach es X.env := by rfl) (hpl : (backTo pos (starEach es X.env)).any (·.1) = false := by rfl) : PE X (.Call (.Name x p) (e :: es) [] pos) (tCB r t) := by
 intro pins s σ H Q I h
 refine wpAny_Call_Name_kw (qW I hg hm hv ?_ hn hdb)
 exact PyProof.Rows.callWith_type1 (thn (ha pos pins s σ H _ I h) fun us s1 ⟨vs, H1, I1, r1, q1⟩ => hc pins s1 σ H1 vs us Q I1 r1 q1) he hpl
end
end L2
namespace HT
open PySem PyProof.Rows
def lexLt : List Int -> List Int -> Bool
 | [], [] => false
 | [], _ :: _ => true
 | _ :: _, [] => false
 | x :: xs, y :: ys => if x = y then lexLt xs ys else decide (x < y)
theorem lexLt_cons (x y : Int) (xs ys : List Int) : lexLt (x :: xs) (y :: ys) = if x = y then lexLt xs ys else decide (x < y) := rfl
theorem eqAt_int (A : Around) (s : Shared) (a : Int) (t : Tok) (c : Int) (u : Tok) : ∃ e, SeqAt.EqAt A s (.int a t) (.int c u) e /\ (e = true ↔ a = c) :=
 ⟨(a == c), SeqAt.EqAt.int_int a t c u, by simp⟩
section
open PySem.SeqAt
open PySem.AutoSeq1 (wpAny_loadPart')
open PySem.MeetsSeq PySem.MeetsSeq2 PySem.MeetsSeq3
end
section
variable {prog : Program} {w : World} {A : Around} {E : Value -> Shared -> Prop} {s : Shared}
def sIx (n d : Nat) : Option Int -> Nat
 | none => d
 | some v => if v < 0 then (v + (n : Int)).toNat else min v.toNat n
theorem sIx_none (n d : Nat) : sIx n d none = d := rfl
theorem sIx_nat (n d k : Nat) : sIx n d (some (k : Int)) = min k n := by
 show (if (k : Int) < 0 then ((k : Int) + (n : Int)).toNat else min (k : Int).toNat n) = min k n
 rw [if_neg (by omega), Int.toNat_natCast]
end
end HT
namespace L2
open PySem PySem.Spec PyProof.Rows
abbrev TO := St -> Hp -> (Option Int -> Hp -> Prop) -> Prop
def PO (X : Cx) (e : Option Expr) (t : TO) : Prop :=
 ∀ (pins : List (Addr × Obj)) (s : Shared) (σ : St) (H : Hp) (Q : Option Int -> Hp -> Prop), Inv X pins σ H s -> t σ H Q ->
   wpAny (model X.prog X.w) X.A (evalPart e X.env) (fun u s' => ∃ o H', Inv X pins σ H' s' /\ IsPart u o /\ Q o H') X.xe s
def tNoPart : TO := fun _ H Q => Q none H
def tPart (t : TE) : TO := fun σ H Q => t σ H fun x H1 => ∃ i, x = .int i /\ Q (some i) H1
theorem vF {ns : List Int} : ∀ {us : List Value}, Vals (ns.map V.int) us -> IntsAre us ns := by
 induction ns with
 | nil => intro us r; rw [List.map_nil] at r; cases r; exact .nil
 | cons n ns ih =>
   intro us r
   rw [List.map_cons] at r
   cases r with
   | cons r1 r2 =>
     obtain ⟨t, e⟩ := r1
     subst e
     exact .cons n t (ih r2)
section
variable {X : Cx} {e : Expr} {te : TE} {lo hi : Option Expr} {tl th : TO} {pos p2 : Pos}
theorem po_none : PO X none tNoPart := by
 intro pins s σ H Q I h
 rw [evalPart_none]
 exact wpAny_pure ⟨none, H, I, .none, h⟩
theorem po_some (h : PE X e te) : PO X (some e) (tPart te) := by
 intro pins s σ H Q I hw
 rw [evalPart_some]
 refine thn (h pins s σ H _ I hw) fun u s1 ⟨x, H1, I1, r1, q1⟩ => ?_
 obtain ⟨i, rfl, q⟩ := q1
 obtain ⟨t, rfl⟩ := r1
 exact ⟨some i, H1, I1, .int i t, q⟩
def SlR (X : Cx) (r : V -> Option Int -> Option Int -> Hp -> VK -> Prop) : Prop :=
 ∀ (pins : List (Addr × Obj)) (s : Shared) (σ : St) (H : Hp) (x : V) (v vl vu : Value) (lo hi : Option Int) (sl : Addr) (Q : VK), Inv X pins σ H s -> RelV x v -> s.heap.IsSliceOf sl vl vu .none -> IsPart vl lo -> IsPart vu hi -> r x lo hi H Q ->
   ∃ T id, typeLookup (.type T) "__getitem__" = pure (some (.builtin id)) /\ s.TypeIs v T /\ wpAny (model X.prog X.w) X.A (getItem v (.ref sl)) (EP X pins σ Q) X.xe s
def tSl (r : V -> Option Int -> Option Int -> Hp -> VK -> Prop) (te : TE) (tl th : TO) : TE := fun σ H Q => te σ H fun x H1 => tl σ H1 fun l H2 => th σ H2 fun u H3 => r x l u H3 Q
theorem pe_slice {r : V -> Option Int -> Option Int -> Hp -> VK -> Prop} (hr : SlR X r) (he : PE X e te) (hl : PO X lo tl) (hu : PO X hi th) : PE X (.Subscript e (.Slice lo hi none p2) pos) (tSl r te tl th) := by
 intro pins s σ H Q I h
 refine Subscript_ (thn (he pins s σ H _ I h) fun v s1 ⟨x, H1, I1, r1, q1⟩ => ?_)
 refine wpAny_Slice (thn (hl pins s1 σ H1 _ I1 q1) fun vl s2 ⟨l, H2, I2, pl, q2⟩ => thn (hu pins s2 σ H2 _ I2 q2) fun vu s3 ⟨u, H3, I3, pu, q3⟩ => ?_)
 rw [evalPart_none]
 refine wpAny_pure ?_
 have I4 : Inv X pins σ H3 { s3 with heap := s3.heap.push { cls := .type "slice", data := .fields #[vl, vu, .none] } } := I3.kept (t' := s3.toks) fun b ob q => Heap.get?_push_of_some _ q
 obtain ⟨T, id, hT, ht, hg⟩ := hr pins { s3 with heap := s3.heap.push { cls := .type "slice", data := .fields #[vl, vu, .none] } } σ H3 x v vl vu l u s3.heap.objs.size Q I4 r1 (Heap.IsSliceOf.new ..) pl pu q3
 show wpAny (model X.prog X.w) X.A (subscriptTail e (.Slice lo hi none p2) v (.ref s3.heap.objs.size)) (EP X pins σ Q) X.xe { s3 with heap := s3.heap.push { cls := .type "slice", data := .fields #[vl, vu, .none] } }
 exact tail_any (ops := [.ref s3.heap.objs.size, v]) ht hT hg (by with_unfolding_all rfl)
def cutV (xs : List V) (lo hi : Option Int) : List V := (xs.drop (HT.sIx xs.length 0 lo)).take (HT.sIx xs.length xs.length hi - HT.sIx xs.length 0 lo)
theorem cutV_length (xs : List V) (lo hi : Option Int) : (cutV xs lo hi).length <= xs.length := by
 unfold cutV
 rw [List.length_take, List.length_drop]
 omega
def rSlT (K : PySem.W.Frag) : V -> Option Int -> Option Int -> Hp -> VK -> Prop := fun x lo hi H Q => ∃ a xs, x = .ref a /\ SqT K H a xs /\
 ¬ (HT.sIx xs.length 0 lo = 0 /\ HT.sIx xs.length xs.length hi = xs.length) /\ ∀ p, H p = none -> Q (.ref p) (upd H p (.tup (cutV xs lo hi)))
def rCatT (K : PySem.W.Frag) : R2 := fun x y H Q => ∃ a b xs ys, x = .ref a /\ y = .ref b /\ SqT K H a xs /\ SqT K H b ys /\ xs ≠ [] /\ xs.length + ys.length <= sizeLine /\
 (ys = [] -> Q (.ref a) H) /\ (ys ≠ [] -> ∀ p, H p = none -> Q (.ref p) (upd H p (.tup (xs ++ ys))))
end
def ixN (n : Nat) (i : Int) : Option Nat := if 0 <= i then (if i < n then some i.toNat else none) else if -(n : Int) <= i then some (i + n).toNat else none
def atI {α : Type} (xs : List α) (i : Int) : Option α := (ixN xs.length i).bind fun j => xs[j]?
theorem ixN_seq {n : Nat} {i : Int} {j : Nat} (h : ixN n i = some j) : seqIndex? i n = some j /\ j < n /\ -(n : Int) <= i /\ i < n := by
 unfold ixN at h
 by_cases h0 : 0 <= i
 · rw [if_pos h0] at h
   by_cases h1 : i < n
   · rw [if_pos h1] at h
     have e : i.toNat = j := Option.some.inj h
     exact ⟨by rw [seqIndex_of h0 h1, e], by omega, by omega, h1⟩
   · rw [if_neg h1] at h; cases h
 · rw [if_neg h0] at h
   by_cases h1 : -(n : Int) <= i
   · rw [if_pos h1] at h
     have e : (i + n).toNat = j := Option.some.inj h
     exact ⟨by rw [seqIndex_neg (by omega) h1, e], by omega, h1, by omega⟩
   · rw [if_neg h1] at h; cases h
theorem kK {α : Type} {xs : List α} {i : Int} {v : α} (h : atI xs i = some v) : ∃ j, seqIndex? i xs.length = some j /\ xs[j]? = some v /\ j < xs.length /\ -(xs.length : Int) <= i /\ i < xs.length := by
 unfold atI at h
 cases e : ixN xs.length i with
 | none => rw [e] at h; cases h
 | some j =>
   rw [e] at h
   obtain ⟨h1, h2, h3, h4⟩ := ixN_seq e
   exact ⟨j, h1, h, h2, h3, h4⟩
theorem zU {α : Type} {xs : List α} {j : Nat} {v : α} (h : xs[j]? = some v) : atI xs (j : Int) = some v := by
 have hj : j < xs.length := (List.getElem?_eq_some_iff.mp h).1
 have e : ixN xs.length (j : Int) = some j := by
   unfold ixN
   rw [if_pos (by omega), if_pos (by omega)]; simp
 unfold atI; rw [e]; exact h
def PlainIx (b : Expr) : Prop := ∀ o i, subscripted b false o i = operate [o, i] (getItem o i)
def IxR (X : Cx) (r : R2) : Prop :=
 ∀ (value slice : Expr) (pins : List (Addr × Obj)) (s : Shared) (σ : St) (H : Hp) (x y : V) (v u : Value) (Q : VK), Inv X pins σ H s -> RelV x v -> RelV y u -> r x y H Q ->
   subscripted slice false v u = operate [v, u] (getItem v u) -> wpAny (model X.prog X.w) X.A (subscriptTail value slice v u) (EP X pins σ Q) X.xe s
def MtR (X : Cx) (id : String) (r : V -> List V -> Hp -> VK -> Prop) : Prop :=
 ∀ (pins : List (Addr × Obj)) (s : Shared) (σ : St) (H : Hp) (x : V) (xs : List V) (v : Value) (us : List Value) (Q : VK), Inv X pins σ H s -> RelV x v -> Vals xs us -> r x xs H Q ->
   wpAny (model X.prog X.w) X.A (call (.builtin id) (v :: us)) (EP X pins σ Q) X.xe s
section
variable {X : Cx} {a b : Expr} {ta tb : TE} {pos : Pos}
theorem zN {r : R2} (hr : IxR X r) (ha : PE X a ta) (hb : PE X b tb) (hs : PlainIx b) : PE X (.Subscript a b pos) (tOp r ta tb) := by
 intro pins s σ H Q I h
 exact Subscript_ (binT ha hb I h fun v u s2 x y H2 I2 rx ry q => hr a b pins s2 σ H2 x y v u Q I2 rx ry q (hs _ _))
def rIxL (K : PySem.W.Frag) : R2 := fun x y H Q => ∃ p xs i v, x = .ref p /\ y = .int i /\ SqL K H p xs /\ atI xs i = some v /\ Q v H
def rIxT (K : PySem.W.Frag) : R2 := fun x y H Q => ∃ p xs i v, x = .ref p /\ y = .int i /\ SqT K H p xs /\ atI xs i = some v /\ Q v H
def rIxS : R2 := fun x y H Q => ∃ z i c, x = .str z /\ y = .int i /\ z.length <= sizeLine /\ atI z.cps.toList i = some c /\ Q (.str ⟨#[c]⟩) H
theorem ix_list : IxR X (rIxL X.K) := by
 intro value slice pins s σ H x y v u Q I rx ry h hs
 obtain ⟨p, xs, i, z, rfl, rfl, hq, he, q⟩ := h
 cases rx
 obtain ⟨t, rfl⟩ := ry
 obtain ⟨its, r, pl, hz⟩ := I.list hq
 obtain ⟨j, h1, h2, h3, h4, h5⟩ := kK he
 obtain ⟨w, ew, rw'⟩ := r.get h2
 have hl := r.length
 have hn := line63
 have fin : EP X pins σ Q w s := ⟨z, H, I, rw', q⟩
 by_cases h0 : 0 <= i
 · have hj : i.toNat = j := by
     rw [seqIndex_of h0 h5] at h1
     exact Option.some.inj h1
   exact item_listR pl.isList h0 (by omega) (by rw [hj]; simpa using ew) fin hs
 · have hj : (i + (its.toArray.size : Int)).toNat = j := by
     rw [seqIndex_neg (by omega) h4] at h1
     rw [List.size_toArray, ← hl]
     exact Option.some.inj h1
   exact subscriptTail_builtinR (x := w) pl.isList.typeIs slot_list_getitem.lookup
     (wpAny_getItem_list_neg (Q := fun r s' => r = w /\ EP X pins σ Q r s') pl.isList (by omega) (by rw [List.size_toArray] <;> omega) (by omega) (by rw [hj]; simpa using ew) ⟨rfl, fin⟩) hs
theorem ix_tup : IxR X (rIxT X.K) := by
 intro value slice pins s σ H x y v u Q I rx ry h hs
 obtain ⟨p, xs, i, z, rfl, rfl, hq, he, q⟩ := h
 cases rx
 obtain ⟨t, rfl⟩ := ry
 obtain ⟨its, r, pl, hz⟩ := I.tuple hq
 obtain ⟨j, h1, h2, h3, h4, h5⟩ := kK he
 obtain ⟨w, ew, rw'⟩ := r.get h2
 have hl := r.length
 have hn := line63
 have fin : EP X pins σ Q w s := ⟨z, H, I, rw', q⟩
 exact subscriptTail_builtinR (x := w) pl.typeIs slot_tuple_getitem.lookup
   (getItem_tuple (j := j) (Q := fun r s' => r = w /\ EP X pins σ Q r s') pl (by omega) (by omega) (by rw [List.size_toArray, ← hl]; exact h1) (by simpa using ew) ⟨rfl, fin⟩) hs
theorem ix_str : IxR X rIxS := by
 intro value slice pins s σ H x y v u Q I rx ry h hs
 obtain ⟨z, i, c, rfl, rfl, hz, he, q⟩ := h
 obtain ⟨t, rfl⟩ := rx
 obtain ⟨t', rfl⟩ := ry
 obtain ⟨j, h1, h2, h3, h4, h5⟩ := kK he
 have hl : z.cps.toList.length = z.length := by simp [Str.length]
 rw [hl] at h1 h4 h5
 have hn := line63
 exact tail_any (typeIs_str s z t) slot_str_getitem.lookup (getItem_str (c := c) (by
   have e1 : decide (i < -(2 ^ 63 : Int)) = false := decide_eq_false (by omega)
   have e2 : decide (i ≥ 2 ^ 63) = false := decide_eq_false (by omega)
   rw [e1, e2, Bool.or_false]) (by rw [h1]; simpa using h2) ⟨.str ⟨#[c]⟩, H, I.tok _, ⟨_, rfl⟩, q⟩) hs
theorem mapSeq_set (its : List Value) (n j : Nat) (u : Value) : Obj.mapSeq (·.setIfInBounds j u) { cls := .type "list", data := .seq its.toArray n } = { cls := .type "list", data := .seq (its.set j u).toArray n } := by
 simp [Obj.mapSeq]
theorem Inv.lst {pins : List (Addr × Obj)} {σ : St} {H : Hp} {s : Shared} {p : Addr} {xs : List V} (I : Inv X pins σ H s) (h : H p = some (.lst xs)) :
   ∃ (its : List Value) (n : Nat), Vals xs its /\ s.heap.get? p = some { cls := .type "list", data := .seq its.toArray n } /\ xs.length <= sizeLine := by
 obtain ⟨z, its, n, r, e⟩ := I.hok p _ h
 exact ⟨its, n, r, e, z⟩
theorem Inv.lstUpd {pins : List (Addr × Obj)} {σ : St} {H : Hp} {s : Shared} {p : Addr} {xs ys : List V} {its its' : List Value} {n n' : Nat} {f : Obj -> Obj} (I : Inv X pins σ H s) (h : H p = some (.lst xs))
   (ho : s.heap.get? p = some { cls := .type "list", data := .seq its.toArray n }) (hf : f { cls := .type "list", data := .seq its.toArray n } = { cls := .type "list", data := .seq its'.toArray n' }) (r : Vals ys its') (hz : ys.length <= sizeLine) (t : Nat) :
   Inv X pins σ (upd H p (.lst ys)) { s with heap := s.heap.update p f, toks := t } := by
 have e : (s.heap.update p f).get? p = some { cls := .type "list", data := .seq its'.toArray n' } := by
   rw [Heap.get?_update_self f ho (by rw [hf] <;> rfl), hf]
 refine I.write (x := p) (e := p) (by rw [h]; trivial) (.inl rfl) (fun b u hb q => (Heap.get?_update_other _ _ (Ne.symm hb)).trans q) ⟨_, e⟩ ?_
 exact ⟨hz, its', n', r, e⟩
def rSetL : V -> V -> V -> Hp -> (Hp -> Prop) -> Prop := fun o i v H Q => ∃ p xs k j, o = .ref p /\ i = .int k /\ H p = some (.lst xs) /\ ixN xs.length k = some j /\ Q (upd H p (.lst (xs.set j v)))
theorem set_list : PSet X rSetL := by
 intro pins s σ H o i v ov iv u Q I ro ri rv h
 obtain ⟨p, xs, k, j, rfl, rfl, hp, hj, q⟩ := h
 cases ro
 obtain ⟨t, rfl⟩ := ri
 obtain ⟨its, n, r, ho, hz⟩ := I.lst hp
 obtain ⟨h1, h2, h3, h4⟩ := ixN_seq hj
 have hl := r.length
 have hn := line63
 have I' : Inv X pins σ (upd H p (.lst (xs.set j v))) { s with heap := s.heap.update p (Obj.mapSeq (·.setIfInBounds j u)) } :=
   I.lstUpd hp ho (mapSeq_set its n j u) (r.set rv j) (by rw [List.length_set]; exact hz) s.toks
 by_cases h0 : 0 <= k
 · have hk : k.toNat = j := by
     rw [seqIndex_of h0 h4] at h1
     exact Option.some.inj h1
   exact PySem.W.ki_setAt ho h0 (by omega) (by rw [List.size_toArray, ← hl]; exact h4) (by rw [hk]; exact ⟨_, I', q⟩)
 · have hk : (k + (its.toArray.size : Int)).toNat = j := by
     rw [seqIndex_neg (by omega) h3] at h1
     rw [List.size_toArray, ← hl]
     exact Option.some.inj h1
   exact PySem.W.ki_setBack ho (by omega) (by rw [List.size_toArray, ← hl]; exact h3) (by omega) (by rw [hk]; exact ⟨_, I', q⟩)
theorem wV (lo hi : Option Int) (n : Nat) : (sliceBounds lo hi none n).1 = ((HT.sIx n 0 lo : Nat) : Int) /\ (sliceBounds lo hi none n).2.1 = ((HT.sIx n n hi : Nat) : Int) /\ (sliceBounds lo hi none n).2.2 = 1 := by
 refine ⟨?_, ?_, rfl⟩
 · cases lo with
   | none => simp [sliceBounds, HT.sIx]
   | some i =>
     simp only [sliceBounds, HT.sIx, Option.getD_none, show (1 : Int) > 0 by decide, if_true]
     by_cases h : i < 0
     · simp only [h, if_true] <;> omega
     · simp only [h, if_false] <;> omega
 · cases hi with
   | none => simp [sliceBounds, HT.sIx]
   | some i =>
     simp only [sliceBounds, HT.sIx, Option.getD_none, show (1 : Int) > 0 by decide, if_true]
     by_cases h : i < 0
     · simp only [h, if_true] <;> omega
     · simp only [h, if_false] <;> omega
theorem vP (its : List Value) (lo hi : Option Int) : slicePick its.toArray lo hi none = ((its.drop (HT.sIx its.length 0 lo)).take (HT.sIx its.length its.length hi - HT.sIx its.length 0 lo)).toArray := by
 obtain ⟨h1, h2, h3⟩ := wV lo hi its.toArray.size
 unfold slicePick
 rw [h1, h2, h3]
 simp only [sliceRange_one, pick_run, List.size_toArray] <;> rfl
def rSlL (K : PySem.W.Frag) : V -> Option Int -> Option Int -> Hp -> VK -> Prop := fun x lo hi H Q => ∃ a xs, x = .ref a /\ SqL K H a xs /\ ∀ p, H p = none -> Q (.ref p) (upd H p (.lst (cutV xs lo hi)))
theorem sl_list : SlR X (rSlL X.K) := by
 intro pins s σ H x v vl vu lo hi sl Q I rx hs pl pu h
 obtain ⟨a, xs, rfl, hx, q⟩ := h
 cases rx
 obtain ⟨its, r, ht, hz⟩ := I.list hx
 have hlen := r.length
 refine ⟨"list", _, slot_list_getitem.lookup, ht.isList.typeIs, ?_⟩
 refine wpAny_getItem_list_slice ht.isList hs pl pu .none (by simp) ?_ (by rw [List.size_toArray] <;> omega)
 rw [vP, ← hlen]
 refine ⟨.ref s.heap.objs.size, _, I.laid (t' := s.toks) (o := .lst (cutV xs lo hi)) (fun b ob q => Heap.get?_push_of_some _ q) (Nat.le_refl _) ?_, rfl, q _ (I.hok.fresh (Nat.le_refl _))⟩
 exact ⟨Nat.le_trans (cutV_length xs lo hi) hz, _, 0, (r.drop (HT.sIx xs.length 0 lo)).take (HT.sIx xs.length xs.length hi - HT.sIx xs.length 0 lo), Heap.get?_push_size _ rfl⟩
theorem call_list_of : jF X (.type "list") (fun xs H Q => ∃ p ys, xs = [.ref p] /\ (SqL X.K H p ys \/ SqT X.K H p ys) /\ ∀ l, H l = none -> Q (.ref l) (upd H l (.lst ys))) := by
 intro pins s σ H xs us Q I r h
 obtain ⟨p, ys, rfl, hq, q⟩ := h
 obtain ⟨u, rfl, rx⟩ := qH r
 cases rx
 have fin : ∀ (its : List Value), Vals ys its -> ys.length <= sizeLine -> ∀ (h' : Heap) (c' : Nat), (∀ b o', s.heap.get? b = some o' -> h'.get? b = some o') ->
     h'.get? s.heap.objs.size = some { cls := .type "list", dict := none, data := .seq its.toArray c', slots := #[] } -> EP X pins σ Q (.ref s.heap.objs.size) { s with heap := h' } := fun its r' hz h' c' kp e =>
   ⟨.ref s.heap.objs.size, _, I.laid (t' := s.toks) kp (Nat.le_refl _) (show ObjOk X.prog X.w _ h' _ (.lst ys) from ⟨hz, its, c', r', e⟩), rfl, q _ (I.hok.fresh (Nat.le_refl _))⟩
 rcases hq with hq | hq
 · obtain ⟨its, r', pl, hz⟩ := I.list hq
   have hlen := r'.length
   obtain ⟨o, ho, hc, n, hd⟩ := pl.isList
   exact call_list_seq p (.inl rfl) ho hc hd (fun h' c' kp e => fin its r' hz h' c' kp e) (by simp only [List.size_toArray] <;> omega)
 · obtain ⟨its, r', pl, hz⟩ := I.tuple hq
   have hlen := r'.length
   obtain ⟨o, ho, hc, n, hd⟩ := pl
   exact call_list_seq p (.inr rfl) ho hc hd (fun h' c' kp e => fin its r' hz h' c' kp e) (by simp only [List.size_toArray] <;> omega)
theorem call_tuple_of : jF X (.type "tuple") (fun xs H Q => ∃ p ys, xs = [.ref p] /\ ((SqL X.K H p ys /\ ∀ l, H l = none -> Q (.ref l) (upd H l (.tup ys))) \/ (SqT X.K H p ys /\ Q (.ref p) H))) := by
 intro pins s σ H xs us Q I r h
 obtain ⟨p, ys, rfl, h⟩ := h
 obtain ⟨u, rfl, rx⟩ := qH r
 cases rx
 rcases h with ⟨hq, q⟩ | ⟨hq, q⟩
 · obtain ⟨its, r', pl, hz⟩ := I.list hq
   have hlen := r'.length
   refine call_tuple_list pl.isList (fun h' kp => ?_) (by simp only [List.size_toArray] <;> omega)
   have I1 : Inv X pins σ H { s with heap := h' } := I.kept (t' := s.toks) kp
   have I2 : Inv X pins σ (upd H h'.objs.size (.tup ys)) { s with heap := h'.push { cls := .type "tuple", data := .seq its.toArray } } :=
     I1.laid (t' := s.toks) (fun b o e => Heap.get?_push_of_some _ e) (Nat.le_refl _) (show ObjOk X.prog X.w _ _ _ (.tup ys) from ⟨hz, its, r', IsTup.new _ _⟩)
   exact ⟨.ref h'.objs.size, _, I2, rfl, q _ (I1.hok.fresh (Nat.le_refl _))⟩
 · obtain ⟨its, r', pl, hz⟩ := I.tuple hq
   exact call_tuple_same pl ⟨.ref p, H, I, rfl, q⟩
def tyV (K : PySem.W.Frag) (T : String) (x : V) (H : Hp) : Prop := match x with
 | .str _ => T = "str"
 | .int _ => T = "int"
 | .ref p => (T = "list" /\ ∃ xs, SqL K H p xs) \/ (T = "tuple" /\ ∃ o, K.lookup p = some o /\ o.cls = .type "tuple" /\ o.dict = none) \/
     (T = "dict" /\ ((∃ kvs, H p = some (.dK kvs)) \/ ∃ kvs, H p = some (.dT kvs))) \/ (T = "set" /\ ∃ S n, H p = some (.set S n))
 | _ => False
theorem tyV_is {pins : List (Addr × Obj)} {σ : St} {H : Hp} {s : Shared} {T : String} {x : V} {v : Value} (I : Inv X pins σ H s) (r : RelV x v) (ty : tyV X.K T x H) :
   s.TypeIs v T /\ ∀ a, v = .ref a -> ∃ ob, s.heap.get? a = some ob /\ ob.dict = none := by
 cases x with
 | str z =>
   obtain ⟨t, rfl⟩ := r
   cases (show T = "str" from ty)
   exact ⟨typeIs_str s z t, fun _ e => nomatch e⟩
 | int i =>
   obtain ⟨t, rfl⟩ := r
   cases (show T = "int" from ty)
   exact ⟨typeIs_int s i t, fun _ e => nomatch e⟩
 | ref p =>
   cases r
   rcases ty with ⟨rfl, xs, hq⟩ | ⟨rfl, o, hk, hc, hd⟩ | ⟨rfl, hk⟩ | ⟨rfl, S, n, hk⟩
   · obtain ⟨its, _, pl, _⟩ := I.list hq
     refine ⟨pl.isList.typeIs, fun a e => ?_⟩
     cases e
     obtain ⟨o, n, e, c, hd, _⟩ := pl
     exact ⟨o, e, hd⟩
   · refine ⟨⟨o, I.kIn p o hk, hc⟩, fun a e => ?_⟩
     cases e
     exact ⟨o, I.kIn _ o hk, hd⟩
   · have z : ∃ o, s.heap.get? p = some o /\ o.ExactDict := by
       rcases hk with ⟨kvs, hk⟩ | ⟨kvs, hk⟩
       · obtain ⟨_, _, _, _, o, _, _, e, ex, _⟩ := I.hok p _ hk
         exact ⟨o, e, ex⟩
       · obtain ⟨_, _, _, _, o, _, _, e, ex, _⟩ := I.hok p _ hk
         exact ⟨o, e, ex⟩
     obtain ⟨o, e, ex⟩ := z
     refine ⟨⟨o, e, ex.1⟩, fun a e2 => ?_⟩
     cases e2
     exact ⟨o, e, ex.2.1⟩
   · obtain ⟨o, _, _, _, e, ex, _⟩ := I.hok p _ hk
     refine ⟨⟨o, e, ex.1⟩, fun a e2 => ?_⟩
     cases e2
     exact ⟨o, e, ex.2.1⟩
 | _ => exact False.elim ty
def tBM0 (K : PySem.W.Frag) (T : String) (r : V -> List V -> Hp -> VK -> Prop) (to : TE) : TE := fun σ H Q => to σ H fun x H1 => tyV K T x H1 /\ r x [] H1 Q
def tBM (K : PySem.W.Frag) (T : String) (r : V -> List V -> Hp -> VK -> Prop) (to : TE) (t : TA) : TE := fun σ H Q => to σ H fun x H1 => tyV K T x H1 /\ t σ H1 fun xs H2 => r x xs H2 Q
variable {o e : Expr} {es : List Expr} {to : TE} {t : TA} {name : Str} {apos cpos : Pos} {T id : String} {r : V -> List V -> Hp -> VK -> Prop}
theorem pe_bm0 (pa : PlainAttrs T) (slot : Slot T name id) (hty : typeOf (.builtin id) = pure (.type "method_descriptor")) (hm : MtR X id r) (ho : PE X o to)
   (hbase : attributeBase o name X.env (eval o X.env) = eval o X.env := by rfl) (hline : (apos.endLine == cpos.line) = true := by rfl) : PE X (.Call (.Attribute o name apos) [] [] cpos) (tBM0 X.K T r to) := by
 intro pins s σ H Q I h
 refine wpAny_Call_method0_late hbase hline (thn (ho pins s σ H _ I h) fun v s1 ⟨x, H1, I1, r1, ty, q1⟩ => ?_)
 obtain ⟨h1, h2⟩ := tyV_is I1 r1 ty
 exact ⟨T, id, pa, slot, hty, h1, h2, Calls.callWith_builtin rfl (PySem.evalArgs_none (hm pins s1 σ H1 x [] v [] Q I1 r1 .nil q1))⟩
theorem xQ (pa : PlainAttrs T) (slot : Slot T name id) (hty : typeOf (.builtin id) = pure (.type "method_descriptor")) (hm : MtR X id r) (ho : PE X o to) (ha : PA X (e :: es) t)
   (hbase : attributeBase o name X.env (eval o X.env) = eval o X.env := by rfl)
   (hfew : ((backTo cpos (starEach (e :: es) X.env)).all (fun x => !x.1) && (backToKw cpos (keywordEach [] X.env)).all (fun x => x.1.isSome)
     && decide ((e :: es).length + ([] : List Keyword).length + (if ([] : List Keyword).isEmpty then 0 else 1) < 30)) = true := by rfl)
   (hline : (apos.endLine == cpos.line) = true := by rfl) (hs : starEach (e :: es) X.env = (false, eval e X.env) :: starEach es X.env := by rfl) (hplain : (backTo cpos (starEach es X.env)).any (·.1) = false := by rfl) :
   PE X (.Call (.Attribute o name apos) (e :: es) [] cpos) (tBM X.K T r to t) := by
 intro pins s σ H Q I h
 refine wpAny_Call_method_late hbase hfew hline rfl (thn (ho pins s σ H _ I h) fun v s1 ⟨x, H1, I1, r1, ty, q1⟩ => ?_)
 obtain ⟨h1, h2⟩ := tyV_is I1 r1 ty
 refine ⟨T, id, pa, slot, hty, h1, h2, ?_⟩
 have hA := ha cpos pins s1 σ H1 _ I1 q1
 rw [hs] at hA ⊢
 refine Calls.callWith_builtin (by show (false || (backTo cpos (starEach es X.env)).any (·.1)) = false; rw [hplain] <;> rfl) (Calls.evalArgs_plain ?_)
 exact thn hA fun us s2 ⟨vs, H2, I2, r2, q2⟩ => hm pins s2 σ H2 x vs v us Q I2 r1 r2 q2
end
def MtM (X : Cx) (id : String) (r : V -> List V -> Hp -> VK -> Prop) : Prop :=
 ∀ (pins : List (Addr × Obj)) (s : Shared) (σ : St) (H : Hp) (x : V) (xs : List V) (v : Value) (us : List Value) (Q : VK), Inv X pins σ H s -> RelV x v -> Vals xs us -> r x xs H Q ->
   wpAny (model X.prog X.w) X.A (call (.builtin id) (v :: us)) (EP X pins σ Q) X.xe s
theorem Vals.one : ∀ {x : V} {us : List Value}, Vals [x] us -> ∃ u, us = [u] /\ RelV x u
 | _, _, .cons r .nil => ⟨_, rfl, r⟩
theorem Vals.dropLast {xs : List V} {us : List Value} (h : Vals xs us) : Vals xs.dropLast us.dropLast := by
 induction h with
 | nil => exact .nil
 | cons r t ih =>
   cases t with
   | nil => exact .nil
   | cons q t' => exact .cons r ih
theorem Vals.rep {xs : List V} {us : List Value} (h : Vals xs us) : ∀ k : Nat, Vals (List.replicate k xs).flatten (List.replicate k us).flatten
 | 0 => .nil
 | k + 1 => by
   rw [List.replicate_succ, List.replicate_succ, List.flatten_cons, List.flatten_cons]
   exact Vals.append h (Vals.rep h k)
theorem wJ (its : List Value) : ∀ (k : Nat) (acc : List Value),
   List.foldl (fun x1 x2 => x1 ++ x2) acc.toArray (List.replicate k its.toArray) = (acc ++ (List.replicate k its).flatten).toArray
 | 0, acc => by simp
 | k + 1, acc => by
   have e : acc.toArray ++ its.toArray = (acc ++ its).toArray := by simp
   have e2 : (acc ++ its) ++ (List.replicate k its).flatten = acc ++ (List.replicate (k + 1) its).flatten := by
     rw [List.replicate_succ, List.flatten_cons, List.append_assoc]
   rw [← e2, ← wJ its k (acc ++ its), ← e, List.replicate_succ, List.foldl_cons]
section
variable {X : Cx} {pins : List (Addr × Obj)} {σ : St} {H : Hp} {s : Shared} {l b : Addr} {xs ys zs : List V}
theorem Inv.lset {its its' : List Value} {n : Nat} {f : Array Value -> Array Value} {t' : Nat} (I : Inv X pins σ H s) (hH : H l = some (.lst xs))
   (e : s.heap.get? l = some { cls := .type "list", data := .seq its.toArray n }) (hf : f its.toArray = its'.toArray) (hv : Vals ys its') (hz : ys.length <= sizeLine) :
   Inv X pins σ (upd H l (.lst ys)) { s with heap := s.heap.update l (Obj.mapSeq f), toks := t' } := by
 have q := PySem.IsL.update e f
 rw [hf] at q
 refine I.write (x := l) (e := l) (by rw [hH]; exact trivial) (.inl rfl) (fun b' u hb hu => (Heap.get?_update_other s.heap (Obj.mapSeq f) (Ne.symm hb)).trans hu) ⟨_, q⟩ ?_
 exact ⟨hz, its', _, hv, q⟩
theorem Inv.lnew {its : List Value} {t' : Nat} (I : Inv X pins σ H s) (hv : Vals ys its) (hz : ys.length <= sizeLine) :
   Inv X pins σ (upd H s.heap.objs.size (.lst ys)) { s with heap := s.heap.push { cls := .type "list", data := .seq its.toArray }, toks := t' } :=
 I.laid (fun _ _ q => Heap.get?_push_of_some _ q) (Nat.le_refl _) ⟨hz, its, 0, hv, Heap.get?_push_size _ rfl⟩
theorem Inv.fresh (I : Inv X pins σ H s) : H s.heap.objs.size = none := I.hok.fresh (Nat.le_refl _)
theorem Inv.lstM (I : Inv X pins σ H s) (hH : H l = some (.lst xs)) : xs.length <= sizeLine /\ ∃ (its : List Value) (n : Nat), Vals xs its /\ xs.length = its.length /\ s.heap.get? l = some { cls := .type "list", data := .seq its.toArray n } := by
 obtain ⟨z, its, n, r, e⟩ := I.hok l _ hH
 exact ⟨z, its, n, r, r.length, e⟩
theorem notLongL {n : Nat} (h : n <= sizeLine) : Builtin.List.listTooLong n = false := by
 unfold Builtin.List.listTooLong
 exact decide_eq_false (by omega)
end
section
variable {X : Cx}
def rAppend : V -> List V -> Hp -> VK -> Prop := fun x vs H Q => ∃ l xs y, x = .ref l /\ vs = [y] /\ H l = some (.lst xs) /\ xs.length < sizeLine /\ Q .non (upd H l (.lst (xs ++ [y])))
theorem mt_append : MtM X "list.append" rAppend := by
 intro pins s σ H x vs v us Q I rx rv h
 obtain ⟨l, xs, y, rfl, rfl, hH, hz, q⟩ := h
 cases rx
 obtain ⟨u, rfl, ru⟩ := rv.one
 obtain ⟨z, its, n, r, hl, e⟩ := I.lstM hH
 refine call_meets F.slot_list_append ⟨_, e, rfl⟩ F.entry_list_append (F.args_list_append_2 _ _) (PySem.list_append l its.toArray n u (by rw [List.size_toArray]; omega)) ⟨e, ?_⟩
 refine ⟨.non, _, I.lset (its' := its ++ [u]) hH e (by simp) (r.append (.cons ru .nil)) ?_, rfl, q⟩
 rw [List.length_append, List.length_singleton]
 omega
def rExtend : V -> List V -> Hp -> VK -> Prop := fun x vs H Q => ∃ l b xs zs, x = .ref l /\ vs = [.ref b] /\ H l = some (.lst xs) /\ H b = some (.lst zs) /\ xs.length + zs.length <= sizeLine /\ Q .non (upd H l (.lst (xs ++ zs)))
theorem mt_extend : MtM X "list.extend" rExtend := by
 intro pins s σ H x vs v us Q I rx rv h
 obtain ⟨l, b, xs, zs, rfl, rfl, hH, hB, hz, q⟩ := h
 cases rx
 obtain ⟨u, rfl, ru⟩ := rv.one
 cases ru
 obtain ⟨z, its, n, r, hl, e⟩ := I.lstM hH
 obtain ⟨z2, its2, n2, r2, hl2, e2⟩ := I.lstM hB
 have hsz : its.toArray.size + its2.toArray.size <= sizeLine := by rw [List.size_toArray, List.size_toArray]; omega
 have hlong : ¬ (!its.toArray.isEmpty && Builtin.List.listTooLong (its.toArray.size + its2.toArray.size)) = true := by
   rw [notLongL hsz, Bool.and_false]
   exact Bool.false_ne_true
 refine call_meets F.slot_list_extend ⟨_, e, rfl⟩ F.entry_list_extend (F.args_list_extend_2 _ _)
   (AutoSeq1.list_extend_list_list_0 l its.toArray n b its2.toArray n2 hlong (by rw [List.size_toArray]; omega) (by omega)) ⟨e, e2, ?_⟩
 refine ⟨.non, _, I.lset (its' := its ++ its2) hH e (by simp) (r.append r2) ?_, rfl, q⟩
 rw [List.length_append]
 omega
def rPop : V -> List V -> Hp -> VK -> Prop := fun x vs H Q => ∃ l xs y, x = .ref l /\ vs = [] /\ H l = some (.lst xs) /\ xs[xs.length - 1]? = some y /\ Q y (upd H l (.lst xs.dropLast))
def rCat : R2 := fun x y H Q => ∃ l b xs zs, x = .ref l /\ y = .ref b /\ H l = some (.lst xs) /\ H b = some (.lst zs) /\ xs.length + zs.length <= sizeLine /\ ∀ p, H p = none -> Q (.ref p) (upd H p (.lst (xs ++ zs)))
def rRep : R2 := fun x y H Q => ∃ l k xs, x = .ref l /\ y = .int k /\ H l = some (.lst xs) /\ -(2 ^ 63) <= k /\ k < 2 ^ 63 /\ xs.length * k.toNat <= sizeLine /\
 ∀ p, H p = none -> Q (.ref p) (upd H p (.lst (List.replicate k.toNat xs).flatten))
theorem len_rep {α : Type} (xs : List α) (k : Nat) : (List.replicate k xs).flatten.length = k * xs.length := by
 induction k with
 | zero => simp
 | succ k ih => rw [List.replicate_succ, List.flatten_cons, List.length_append, ih, Nat.succ_mul, Nat.add_comm]
theorem op_rep : OpR X (binaryOp .Mult) rRep := by
 intro pins s σ H x y v u Q I rx ry h
 obtain ⟨l, k, xs, rfl, rfl, hH, h1, h2, hz, q⟩ := h
 cases rx
 obtain ⟨t, rfl⟩ := ry
 obtain ⟨z, its, n, r, hl, e⟩ := I.lstM hH
 have hlen : its.toArray.size * k.toNat <= sizeLine := by rw [List.size_toArray, ← hl]; exact hz
 have hcap : ¬ its.toArray.size * k.toNat > (2 ^ 63 - 1) / 8 := by
   have : (sizeLine : Nat) <= (2 ^ 63 - 1) / 8 := by decide
   omega
 have hfit : ¬ (!Builtin.List.listFitsIndex k) = true := by
   rw [fitsIndex_both h1 h2]
   exact Bool.false_ne_true
 have hlong : ¬ Builtin.List.listTooLong (its.toArray.size * k.toNat) = true := by
   rw [notLongL hlen]
   exact Bool.false_ne_true
 have hnew : List.foldl (fun x1 x2 => x1 ++ x2) #[] (List.replicate (if its.toArray.isEmpty = true then 0 else k.toNat) its.toArray) = (List.replicate k.toNat its).flatten.toArray := by
   have f0 : ∀ m : Nat, List.foldl (fun x1 x2 => x1 ++ x2) #[] (List.replicate m its.toArray) = (List.replicate m its).flatten.toArray := fun m => by
     have := wJ its m []
     rw [List.nil_append] at this
     exact this
   rw [f0]
   cases its with
   | nil => simp
   | cons a r' => rw [if_neg (by simp)]
 refine wpAny_binaryOp_repeat_ref (T := "list") (U := "int") (by decide) ⟨_, e, rfl⟩ (fun s' => typeIs_int s' k t) noFill_list_mul F.fills_int_mul F.slot_int_rmul repeat_list F.slot_int_index.lookup
   (call_meets F.slot_int_rmul (typeIs_int s k t) F.entry_int_rmul (F.args_int_rmul_2 _ _) (int___rmul___int_list k t l its.toArray n)
     ⟨e, rfl, ⟨_, e, rfl⟩, call_meets F.slot_list_mul ⟨_, e, rfl⟩ F.entry_list_mul (F.args_list_mul_2 _ _) (AutoListH.list___mul___list_int_3 l its.toArray n k t hfit hcap hlong) ⟨e, ?_⟩⟩)
 rw [hnew]
 exact ⟨.ref _, _, I.lnew (t' := s.toks) (r.rep k.toNat) (by rw [len_rep, Nat.mul_comm]; exact hz), rfl, q _ I.fresh⟩
end
section
variable {prog : Program} {w : World} {A : Around} {E : Value -> Shared -> Prop} {s : Shared}
end
section
variable {X : Cx}
end
section
variable {κ : Type} [DecidableEq κ]
def yG (kvs : List (κ × V)) (k : κ) : Option V := (kvs.find? fun kv => decide (kv.1 = k)).map (·.2)
def xT (kvs : List (κ × V)) (k : κ) (v : V) : List (κ × V) :=
 if (kvs.any fun kv => decide (kv.1 = k)) = true then kvs.map (fun kv => if kv.1 = k then (kv.1, v) else kv) else kvs ++ [(k, v)]
theorem yR {p : κ × V} {r : List (κ × V)} {k : κ} (e : p.1 = k) : yG (p :: r) k = some p.2 := by simp [yG, List.find?_cons, e]
theorem yS {p : κ × V} {r : List (κ × V)} {k : κ} (e : ¬ p.1 = k) : yG (p :: r) k = yG r k := by simp [yG, List.find?_cons, e]
theorem jP (k : κ) : ∀ kvs : List (κ × V), (kvs.any fun kv => decide (kv.1 = k)) = (yG kvs k).isSome
 | [] => rfl
 | p :: r => by
   rw [List.any_cons]
   by_cases e : p.1 = k
   · simp only [yR e, decide_eq_true e, Bool.true_or, Option.isSome_some]
   · rw [yS e, decide_eq_false e, Bool.false_or]; exact jP k r
theorem valV_map (k j : κ) (y : V) : ∀ kvs : List (κ × V), yG (kvs.map fun kv => if kv.1 = k then (kv.1, y) else kv) j = (yG kvs j).map fun x => if j = k then y else x
 | [] => rfl
 | p :: r => by
   have ih := valV_map k j y r
   rw [List.map_cons]
   by_cases h : p.1 = k
   · rw [if_pos h]
     by_cases e : p.1 = j
     · rw [yR (p := (p.1, y)) e, yR e, Option.map_some, if_pos (e.symm.trans h)]
     · rw [yS (p := (p.1, y)) e, yS e, ih]
   · rw [if_neg h]
     by_cases e : p.1 = j
     · rw [yR (p := p) e, yR e, Option.map_some, if_neg (fun z => h (e.trans z))]
     · rw [yS (p := p) e, yS e, ih]
theorem vW (k j : κ) (y : V) : ∀ kvs : List (κ × V), yG kvs k = none -> yG (kvs ++ [(k, y)]) j = if j = k then some y else yG kvs j
 | [], _ => by
   by_cases e : k = j
   · rw [if_pos e.symm]; exact yR (p := (k, y)) e
   · rw [if_neg (fun z => e z.symm)]; exact yS (p := (k, y)) e
 | p :: r, hn => by
   rw [List.cons_append]
   have hk : ¬ p.1 = k := fun z => by rw [yR z] at hn; cases hn
   rw [yS hk] at hn
   have ih := vW k j y r hn
   by_cases e : p.1 = j
   · rw [yR e, yR e, if_neg (fun z => hk (e.trans z))]
   · rw [yS e, yS e, ih]
theorem valV_put (kvs : List (κ × V)) (k j : κ) (y : V) : yG (xT kvs k y) j = if j = k then some y else yG kvs j := by
 unfold xT
 by_cases a : (kvs.any fun kv => decide (kv.1 = k)) = true
 · rw [if_pos a, valV_map]
   rw [jP] at a
   by_cases e : j = k
   · obtain ⟨x, hx⟩ := Option.isSome_iff_exists.mp a
     rw [if_pos e, e, hx, Option.map_some, if_pos rfl]
   · rw [if_neg e]
     cases yG kvs j with
     | none => rfl
     | some x => rw [Option.map_some, if_neg e]
 · rw [if_neg a]
   refine vW k j y kvs ?_
   rw [jP] at a
   cases q : yG kvs k with
   | none => rfl
   | some x => rw [q] at a; exact (a rfl).elim
theorem jA (kvs : List (κ × V)) (k : κ) (v : V) : (xT kvs k v).length <= kvs.length + 1 := by
 unfold xT
 split
 · rw [List.length_map]; omega
 · rw [List.length_append, List.length_cons, List.length_nil]; omega
theorem putK_new {kvs : List (κ × V)} {k : κ} (v : V) (h : yG kvs k = none) : xT kvs k v = kvs ++ [(k, v)] := by
 unfold xT
 rw [jP, h]
 exact if_neg (by decide)
theorem RelO.isSome_eq {o : Option V} {u : Option Value} (r : RelO o u) : o.isSome = u.isSome := by
 cases o with
 | none => cases u with
   | none => rfl
   | some _ => exact (show False from r).elim
 | some _ => cases u with
   | none => exact (show False from r).elim
   | some _ => rfl
theorem RelO.getD {o : Option V} {u : Option Value} {d : V} {d' : Value} (r : RelO o u) (rd : RelV d d') : RelV (o.getD d) (u.getD d') := by
 cases o with
 | none => cases u with
   | none => exact rd
   | some _ => exact (show False from r).elim
 | some _ => cases u with
   | none => exact (show False from r).elim
   | some _ => exact r
theorem KV.val {kvs : List (κ × V)} {vs : List (κ × Value)} (r : KV kvs vs) (k : κ) : RelO (yG kvs k) (valueAt vs k) := by
 unfold KV at r
 induction r with
 | nil => exact True.intro
 | @cons p q ps qs h t ih =>
   obtain ⟨h1, h2⟩ := h
   by_cases e : p.1 = k
   · have e' : q.1 = k := h1.symm.trans e
     have b : valueAt (q :: qs) k = some q.2 := by simp [valueAt, List.find?_cons, e']
     rw [yR e, b]; exact h2
   · have e' : ¬ q.1 = k := fun z => e (h1.trans z)
     have b : valueAt (q :: qs) k = valueAt qs k := by simp [valueAt, List.find?_cons, e']
     rw [yS e, b]; exact ih
theorem KV.any {kvs : List (κ × V)} {vs : List (κ × Value)} (r : KV kvs vs) (k : κ) : (kvs.any fun kv => decide (kv.1 = k)) = vs.any fun kv => decide (kv.1 = k) := by
 unfold KV at r
 induction r with
 | nil => rfl
 | cons h t ih => rw [List.any_cons, List.any_cons, ih, h.1]
theorem KV.repl {kvs : List (κ × V)} {vs : List (κ × Value)} (r : KV kvs vs) (k : κ) {y : V} {u : Value} (ry : RelV y u) :
   KV (kvs.map fun kv => if kv.1 = k then (kv.1, y) else kv) (vs.map fun kv => if kv.1 = k then (kv.1, u) else kv) := by
 unfold KV at r ⊢
 induction r with
 | nil => exact .nil
 | @cons p q ps qs h t ih =>
   rw [List.map_cons, List.map_cons]
   refine .cons ?_ ih
   obtain ⟨h1, h2⟩ := h
   by_cases e : p.1 = k
   · rw [if_pos e, if_pos (h1.symm.trans e)]; exact ⟨h1, ry⟩
   · rw [if_neg e, if_neg (fun z => e (h1.trans z))]; exact ⟨h1, h2⟩
theorem KV.put {kvs : List (κ × V)} {vs : List (κ × Value)} (r : KV kvs vs) (k : κ) {y : V} {u : Value} (ry : RelV y u) : KV (xT kvs k y) (stored vs k u) := by
 unfold xT stored
 rw [r.any k]
 by_cases e : (vs.any fun kv => decide (kv.1 = k)) = true
 · rw [if_pos e, if_pos e]; exact r.repl k ry
 · rw [if_neg e, if_neg e]; exact Paired.snoc r ⟨rfl, ry⟩
theorem KV.keys {kvs : List (κ × V)} {vs : List (κ × Value)} (r : KV kvs vs) : kvs.map (·.1) = vs.map (·.1) := by
 unfold KV at r
 induction r with
 | nil => rfl
 | cons h t ih => rw [List.map_cons, List.map_cons, ih, h.1]
theorem KV.length {kvs : List (κ × V)} {vs : List (κ × Value)} (r : KV kvs vs) : kvs.length = vs.length := Paired.length r
end
theorem wG {P : Program} {w : World} {k : Key} {u : Value} (r : RelV (kV k) u) : (yJ P w).is k u = true := by
 cases k with
 | inl i => obtain ⟨t, e⟩ := (show ∃ t, u = Value.int i t from r); subst e; exact mixKind_int P w i t
 | inr x => obtain ⟨t, e⟩ := (show ∃ t, u = Value.str x t from r); subst e; exact uB P w x t
theorem wH {P : Program} {w : World} : ∀ {ks : List Key} {us : List Value}, Vals (ks.map kV) us -> ItemsAre (yJ P w) ks us
 | [], _, r => by rw [List.map_nil] at r; cases r; exact .nil
 | k :: ks, _, r => by
   rw [List.map_cons] at r
   cases r with
   | cons h t => exact .cons (wG h) (wH t)
abbrev KT (H : Hp) : List (List Key × V) -> List (List Key × Addr × Value) -> Prop := Paired fun p q => p.1 = q.1 /\ H q.2.1 = some (.tup (p.1.map kV)) /\ RelV p.2 q.2.2
theorem KT.val {H : Hp} {kvs : List (List Key × V)} {xs : List (List Key × Addr × Value)} (r : KT H kvs xs) (k : List Key) : RelO (yG kvs k) ((atKey xs k).map (·.2)) := by
 induction r with
 | nil => exact True.intro
 | @cons p q ps qs h t ih =>
   obtain ⟨h1, _, h2⟩ := h
   by_cases e : p.1 = k
   · have e' : q.1 = k := h1.symm.trans e
     have b : atKey (q :: qs) k = some q.2 := by simp [atKey, List.find?_cons, e']
     rw [yR e, b]; exact h2
   · have e' : ¬ q.1 = k := fun z => e (h1.trans z)
     have b : atKey (q :: qs) k = atKey qs k := by simp [atKey, List.find?_cons, e']
     rw [yS e, b]; exact ih
theorem KT.repl {H : Hp} {kvs : List (List Key × V)} {xs : List (List Key × Addr × Value)} (r : KT H kvs xs) (k : List Key) {y : V} {u : Value} (ry : RelV y u) :
   KT H (kvs.map fun kv => if kv.1 = k then (kv.1, y) else kv) (xs.map (putAt k u)) := by
 induction r with
 | nil => exact .nil
 | @cons p q ps qs h t ih =>
   rw [List.map_cons, List.map_cons]
   refine .cons ?_ ih
   obtain ⟨h1, h2, h3⟩ := h
   unfold putAt
   by_cases e : p.1 = k
   · rw [if_pos e, if_pos (h1.symm.trans e)]; exact ⟨h1, h2, ry⟩
   · rw [if_neg e, if_neg (fun z => e (h1.trans z))]; exact ⟨h1, h2, h3⟩
theorem KT.put {H : Hp} {kvs : List (List Key × V)} {xs : List (List Key × Addr × Value)} (r : KT H kvs xs) (k : List Key) {b : Addr} {y : V} {u : Value} (hb : H b = some (.tup (k.map kV))) (ry : RelV y u) :
   KT H (xT kvs k y) (storedH xs k b u) := by
 have e : (kvs.any fun kv => decide (kv.1 = k)) = (atKey xs k).isSome := by
   rw [jP, (r.val k).isSome_eq, Option.isSome_map]
 unfold xT storedH
 rw [e]
 by_cases q : (atKey xs k).isSome = true
 · rw [if_pos q, if_pos q]; exact r.repl k ry
 · rw [if_neg q, if_neg q]; exact Paired.snoc r ⟨rfl, hb, ry⟩
theorem KT.keeps {H H' : Hp} {kvs : List (List Key × V)} {xs : List (List Key × Addr × Value)} (r : KT H kvs xs) (ht : ∀ b ys, H b = some (.tup ys) -> H' b = some (.tup ys)) : KT H' kvs xs :=
 Paired.mapP r fun _ _ z => ⟨z.1, ht _ _ z.2.1, z.2.2⟩
section
variable {P : Program} {w : World} {H : Hp} {h : Heap} {a : Addr}
theorem rd_of {u : HO} (ok : HOk P w H h) (e : Rd H a u) : ObjOk P w H h a u := e.ok ok
theorem vK {kvs : List (Key × V)} (ok : HOk P w H h) (e : Rd H a (.dK kvs)) : kvs.length <= sizeLine /\ (a == sysModules) = false /\ ∃ vs, KV kvs vs /\ h.DictOf (yJ P w) a vs :=
 show ObjOk P w H h a (.dK kvs) from rd_of ok e
theorem dk_of {kvs : List (Key × V)} (ok : HOk P w H h) (e : H a = some (.dK kvs)) : kvs.length <= sizeLine /\ (a == sysModules) = false /\ ∃ vs, KV kvs vs /\ h.DictOf (yJ P w) a vs := vK ok (.inl e)
theorem jT {ks : List Key} (ok : HOk P w H h) (e : H a = some (.tup (ks.map kV))) : (tupleKind (yJ P w)).is h ks a := by
 obtain ⟨_, its, r, o, h1, h2, n, h3⟩ := (show ObjOk P w H h a (.tup (ks.map kV)) from ok a _ e)
 exact ⟨o, its.toArray, n, h1, h2, h3, by simpa using wH r⟩
theorem vJ {kvs : List (List Key × V)} (ok : HOk P w H h) (e : Rd H a (.dT kvs)) : kvs.length <= sizeLine /\ (a == sysModules) = false /\
   ∃ xs, KT H kvs xs /\ h.DictOfH (tupleKind (yJ P w)) a xs := by
 obtain ⟨z, y, xs, r, o, es, ep, h1, h2, h3, h4, h5⟩ := (show ObjOk P w H h a (.dT kvs) from rd_of ok e)
 refine ⟨z, y, xs, r, o, es, ep, h1, h2, h3, h4, fun x hx => ?_, h5⟩
 have all : ∀ {l : List (List Key × V)} {m : List (List Key × Addr × Value)}, KT H l m -> ∀ x ∈ m, (tupleKind (yJ P w)).is h x.1 x.2.1 := by
   intro l m q
   induction q with
   | nil => intro x hx; exact nomatch hx
   | @cons p q ps qs hq t ih =>
     intro x hx
     rcases List.mem_cons.mp hx with e | hx
     · subst e
       exact jT ok (by rw [← hq.1]; exact hq.2.1)
     · exact ih x hx
 exact all r x hx
theorem dt_of {kvs : List (List Key × V)} (ok : HOk P w H h) (e : H a = some (.dT kvs)) : kvs.length <= sizeLine /\ (a == sysModules) = false /\
   ∃ xs, KT H kvs xs /\ h.DictOfH (tupleKind (yJ P w)) a xs := vJ ok (.inl e)
end
def DGet (H : Hp) (a : Addr) (y : V) (r : Option V) : Prop :=
 (∃ kvs k, Rd H a (.dK kvs) /\ y = kV k /\ r = yG kvs k) \/ ∃ kvs k b, Rd H a (.dT kvs) /\ y = .ref b /\ H b = some (.tup (k.map kV)) /\ r = yG kvs k
def DPut (H : Hp) (a : Addr) (y v : V) (H' : Hp) : Prop :=
 (∃ kvs k, H a = some (.dK kvs) /\ y = kV k /\ kvs.length < sizeLine /\ H' = upd H a (.dK (xT kvs k v))) \/
 ∃ kvs k b, H a = some (.dT kvs) /\ y = .ref b /\ H b = some (.tup (k.map kV)) /\ kvs.length < sizeLine /\ H' = upd H a (.dT (xT kvs k v))
theorem DGet.k {H : Hp} {a : Addr} {kvs : List (Key × V)} {k : Key} (e : H a = some (.dK kvs)) : DGet H a (kV k) (yG kvs k) := .inl ⟨kvs, k, .inl e, rfl, rfl⟩
theorem DGet.t {H : Hp} {a b : Addr} {kvs : List (List Key × V)} {k : List Key} (e : H a = some (.dT kvs)) (eb : H b = some (.tup (k.map kV))) : DGet H a (.ref b) (yG kvs k) := .inr ⟨kvs, k, b, .inl e, rfl, eb, rfl⟩
theorem DPut.k {H : Hp} {a : Addr} {kvs : List (Key × V)} {k : Key} {v : V} (e : H a = some (.dK kvs)) (hl : kvs.length < sizeLine) : DPut H a (kV k) v (upd H a (.dK (xT kvs k v))) := .inl ⟨kvs, k, e, rfl, hl, rfl⟩
theorem DPut.t {H : Hp} {a b : Addr} {kvs : List (List Key × V)} {k : List Key} {v : V} (e : H a = some (.dT kvs)) (eb : H b = some (.tup (k.map kV))) (hl : kvs.length < sizeLine) :
   DPut H a (.ref b) v (upd H a (.dT (xT kvs k v))) := .inr ⟨kvs, k, b, e, rfl, eb, hl, rfl⟩
section
variable {X : Cx} {pins : List (Addr × Obj)} {σ : St} {H : Hp} {s : Shared} {a : Addr} {y v : V} {u r : Value} {o : Option V} {A : Around} {E : Value -> Shared -> Prop}
theorem Inv.big (I : Inv X pins σ H s) : sysModules < s.heap.objs.size := by
 have h : mainGlobals < s.heap.objs.size := (I.mod.glob.keeps I.bk).lt
 exact Nat.lt_trans (by decide) h
theorem d_getItem {Q : Value -> Shared -> Prop} (hu : A.units + 1 < cLine) (I : Inv X pins σ H s) (g : DGet H a y (some v)) (ry : RelV y u) (h : ∀ w' s', Inv X pins σ H s' -> RelV v w' -> Q w' s') :
   wpAny (model X.prog X.w) A (getItem (.ref a) u) Q E s := by
 rcases g with ⟨kvs, k, e, ey, l⟩ | ⟨kvs, k, b, e, ey, eb, l⟩
 · subst ey
   obtain ⟨z, hd, vs, rel, dd⟩ := vK I.hok e
   obtain ⟨w', hw, rw'⟩ := RelO.some_of (v := v) (o := valueAt vs k) (by rw [l]; exact rel.val k)
   exact wpAny_getItem_of (wG ry) dd.mapOf hw (h w' _ (I.tok _) rw')
 · subst ey
   cases (show u = Value.ref b from ry)
   obtain ⟨z, hd, xs, rel, dd⟩ := vJ I.hok e
   obtain ⟨w', hw, rw'⟩ := RelO.some_of (v := v) (o := (atKey xs k).map (·.2)) (by rw [l]; exact rel.val k)
   obtain ⟨p, hp, hp2⟩ := Option.map_eq_some_iff.mp hw
   refine wpAny_getItem_heap (tupleKind_room_in1 hu) (jT I.hok eb) dd hp ?_
   rw [hp2]
   exact h w' _ (I.tok _) rw'
theorem d_in {Q : Value -> Shared -> Prop} (hu : A.units + 1 < cLine) (I : Inv X pins σ H s) (g : DGet H a y o) (ry : RelV y u) (h : ∀ s', Inv X pins σ H s' -> Q (.bool o.isSome) s') :
   wpAny (model X.prog X.w) A (compareOp .In u (.ref a)) Q E s := by
 rcases g with ⟨kvs, k, e, ey, l⟩ | ⟨kvs, k, b, e, ey, eb, l⟩
 · subst ey
   obtain ⟨z, hd, vs, rel, dd⟩ := vK I.hok e
   refine wpAny_in_of (wG ry) hd dd.mapOf ?_
   rw [← (rel.val k).isSome_eq, ← l]
   exact h _ (I.tok _)
 · subst ey
   cases (show u = Value.ref b from ry)
   obtain ⟨z, hd, xs, rel, dd⟩ := vJ I.hok e
   refine wpAny_in_heap (tupleKind_room_in1 hu) (jT I.hok eb) hd dd ?_
   have q := (rel.val k).isSome_eq
   rw [Option.isSome_map] at q
   rw [← q, ← l]
   exact h _ (I.tok _)
theorem d_notIn {Q : Value -> Shared -> Prop} (hu : A.units + 1 < cLine) (I : Inv X pins σ H s) (g : DGet H a y o) (ry : RelV y u) (h : ∀ s', Inv X pins σ H s' -> Q (.bool (!o.isSome)) s') :
   wpAny (model X.prog X.w) A (compareOp .NotIn u (.ref a)) Q E s := by
 rcases g with ⟨kvs, k, e, ey, l⟩ | ⟨kvs, k, b, e, ey, eb, l⟩
 · subst ey
   obtain ⟨z, hd, vs, rel, dd⟩ := vK I.hok e
   refine wpAny_notIn_of (wG ry) hd dd.mapOf ?_
   rw [← (rel.val k).isSome_eq, ← l]
   exact h _ (I.tok _)
 · subst ey
   cases (show u = Value.ref b from ry)
   obtain ⟨z, hd, xs, rel, dd⟩ := vJ I.hok e
   refine wpAny_notIn_heap (tupleKind_room_in1 hu) (jT I.hok eb) hd dd ?_
   have q := (rel.val k).isSome_eq
   rw [Option.isSome_map] at q
   rw [← q, ← l]
   exact h _ (I.tok _)
theorem kG {h' : Heap} {t' : Nat} {ob : HO} (I : Inv X pins σ H s) (mu : Mut (H a)) (hs : Heap.SameBut a s.heap h') (he : ∃ q, h'.get? a = some q) (new : ObjOk X.prog X.w (upd H a ob) h' a ob) :
   Inv X pins σ (upd H a ob) { s with heap := h', toks := t' } :=
 I.write (x := a) (e := a) mu (.inl rfl) (fun b q hb z => (hs.2 b hb).trans z) he new
theorem dk_new {P : Program} {w : World} {H' : Hp} {h' : Heap} {kvs : List (Key × V)} {vs : List (Key × Value)} (z : kvs.length <= sizeLine) (hd : (a == sysModules) = false) (rel : KV kvs vs) (dd : h'.DictOf (yJ P w) a vs) :
   ObjOk P w H' h' a (.dK kvs) := ⟨z, hd, vs, rel, dd⟩
theorem d_setItem {H' : Hp} {Q : Unit -> Shared -> Prop} (hu : A.units + 1 < cLine) (I : Inv X pins σ H s) (g : DPut H a y v H') (ry : RelV y u) (rv : RelV v r) (h : ∀ s', Inv X pins σ H' s' -> Q () s') :
   wpAny (model X.prog X.w) A (setItem (.ref a) u r) Q E s := by
 rcases g with ⟨kvs, k, e, ey, l, eH⟩ | ⟨kvs, k, b, e, ey, eb, l, eH⟩
 · subst ey eH
   obtain ⟨z, hd, vs, rel, dd⟩ := dk_of I.hok e
   have hz : vs.length <= sizeLine := by rw [← rel.length]; exact z
   have hl : (xT kvs k v).length <= sizeLine := by have := jA kvs k v; omega
   refine wpAny_setItem_pairs (hsz := hz) (wG ry) dd fun h' dd' hs => h _ ?_
   have he : ∃ q, h'.get? a = some q := let ⟨q, _, _, hq, _⟩ := dd'; ⟨q, hq⟩
   exact kG I (by rw [e]; exact True.intro) hs he (dk_new hl hd (rel.put k rv) dd')
 · subst ey eH
   cases (show u = Value.ref b from ry)
   obtain ⟨z, hd, xs, rel, dd⟩ := dt_of I.hok e
   have hz : xs.length <= sizeLine := by rw [← Paired.length rel]; exact z
   have hl : (xT kvs k v).length <= sizeLine := by have := jA kvs k v; omega
   refine wpAny_setItem_heap (hsz := hz) (tupleKind_room_in1 hu) (jT I.hok eb) dd fun h' dd' hs => h _ ?_
   obtain ⟨q, es, ep, hq, h2, h3, h4, _, h5⟩ := dd'
   refine kG I (by rw [e]; exact True.intro) hs ⟨q, hq⟩ ⟨hl, hd, _, (rel.put k eb rv).keeps fun c ys ec => ?_, q, es, ep, hq, h2, h3, h4, h5⟩
   rw [zG (xS ec e (fun z => nomatch z))]
   exact ec
end
section
variable {X : Cx} {pins : List (Addr × Obj)} {σ : St} {H : Hp} {s : Shared} {a : Addr} {kvs : List (Key × V)} {k : Key} {u : Value} {A : Around} {E : Value -> Shared -> Prop}
end
def NoSl (i : Expr) : Prop := ∀ ov iv, subscripted i false ov iv = operate [ov, iv] (getItem ov iv)
theorem subD_of {prog : Program} {w : World} {A : Around} {E : Value -> Shared -> Prop} {s : Shared} {env : Env} {value slice : Expr} {pos : Pos} {T id : String} {Q : Value -> Shared -> Prop}
   (hl : typeLookup (.type T) "__getitem__" = pure (some (.builtin id))) (hs : NoSl slice)
   (h : wpAny (model prog w) A (eval value env) (fun o s₁ => wpAny (model prog w) A (eval slice env) (fun i s₂ => s₂.TypeIs o T /\ wpAny (model prog w) A (getItem o i) Q E s₂) E s₁) E s) :
   wpAny (model prog w) A (eval (.Subscript value slice pos) env) Q E s := by
 refine Subscript_ (wpAny_mono h (fun o s₁ h₁ => wpAny_mono h₁ (fun i s₂ h₂ => ?_) fun _ _ x => x) fun _ _ x => x)
 obtain ⟨hT, h₂⟩ := h₂
 unfold subscriptTail
 refine wpAny_bind ?_
 rw [getitemInPython_of_ne hT.not_modules]
 refine wpAny_bind (wpAny_specialOf hT hl ?_)
 have fin : wpAny (model prog w) A (subscripted slice false o i) (fun r s₃ => wpAny (model prog w) A (letTemporaryGo value o r >>= fun _ => pure r) Q E s₃) E s₂ := by
   rw [hs o i]
   exact wpAny_operating (wpAny_mono h₂ (fun r s₃ h₃ => wpAny_bind (wpAny_letTemporaryGo (wpAny_pure h₃))) fun _ _ x => x)
 first
   | exact wpAny_pure (wpAny_bind fin)
   | exact wpAny_bind (wpAny_pure (wpAny_bind fin))
   | exact wpAny_bind fin
theorem dict_typeIs {X : Cx} {pins : List (Addr × Obj)} {σ : St} {H : Hp} {s : Shared} {a : Addr} {y : V} {o : Option V} (I : Inv X pins σ H s) (g : DGet H a y o) : s.TypeIs (.ref a) "dict" := by
 rcases g with ⟨kvs, k, e, _, _⟩ | ⟨kvs, k, b, e, _, _, _⟩
 · obtain ⟨_, _, vs, _, dd⟩ := vK I.hok e
   exact dd.typeIs
 · obtain ⟨_, _, xs, _, dd⟩ := vJ I.hok e
   exact dd.typeIs
def tDGet (td ty : TE) : TE := fun σ H Q => td σ H fun x H1 => ty σ H1 fun y H2 => ∃ a v, x = .ref a /\ DGet H2 a y (some v) /\ Q v H2
def tDIn (ty td : TE) : TE := fun σ H Q => ty σ H fun y H1 => td σ H1 fun x H2 => ∃ a o, x = .ref a /\ DGet H2 a y o /\ Q (.bl o.isSome) H2
def tDNotIn (ty td : TE) : TE := fun σ H Q => ty σ H fun y H1 => td σ H1 fun x H2 => ∃ a o, x = .ref a /\ DGet H2 a y o /\ Q (.bl (!o.isSome)) H2
def sDPut (td ty tv : TE) : TS := fun D σ H => tv σ H fun v H1 => td σ H1 fun x H2 => ty σ H2 fun y H3 => ∃ a H4, x = .ref a /\ DPut H3 a y v H4 /\ D.nx σ H4
section
variable {X : Cx} {o i e value : Expr} {pos pos' tpos : Pos} {td ty tv : TE}
theorem pe_dget (hu : X.A.units + 1 < cLine) (ho : PE X o td) (hi : PE X i ty) (hs : NoSl i) : PE X (.Subscript o i pos) (tDGet td ty) := by
 intro pins s σ H Q I h
 refine subD_of PySem.F.slot_dict_getitem.lookup hs (thn (ho pins s σ H _ I h) fun u s1 ⟨x, H1, I1, rx, q1⟩ => thn (hi pins s1 σ H1 _ I1 q1) fun iv s2 ⟨y, H2, I2, ry, a, v, ex, g, q2⟩ => ?_)
 subst ex
 obtain rfl : u = Value.ref a := rx
 exact ⟨dict_typeIs I2 g, d_getItem hu I2 g ry fun w' s3 I3 rw' => ⟨v, H2, I3, rw', q2⟩⟩
theorem qV (hu : X.A.units + 1 < cLine) (hi : PE X i ty) (ho : PE X o td) : PC X .In i o (tDIn ty td) := by
 intro pins s σ H Q I h
 refine thn (hi pins s σ H _ I h) fun iv s1 ⟨y, H1, I1, ry, q1⟩ => thn (ho pins s1 σ H1 _ I1 q1) fun u s2 ⟨x, H2, I2, rx, a, ov, ex, g, q2⟩ => ?_
 subst ex
 obtain rfl : u = Value.ref a := rx
 exact d_in hu I2 g ry fun s3 I3 => ⟨.bl ov.isSome, H2, I3, rfl, q2⟩
theorem pc_dnotin (hu : X.A.units + 1 < cLine) (hi : PE X i ty) (ho : PE X o td) : PC X .NotIn i o (tDNotIn ty td) := by
 intro pins s σ H Q I h
 refine thn (hi pins s σ H _ I h) fun iv s1 ⟨y, H1, I1, ry, q1⟩ => thn (ho pins s1 σ H1 _ I1 q1) fun u s2 ⟨x, H2, I2, rx, a, ov, ex, g, q2⟩ => ?_
 subst ex
 obtain rfl : u = Value.ref a := rx
 exact d_notIn hu I2 g ry fun s3 I3 => ⟨.bl (!ov.isSome), H2, I3, rfl, q2⟩
theorem wX (hu : X.A.units + 1 < cLine) (ho : PE X o td) (hi : PE X i ty) (hv : PE X value tv) (hs : swapsWith value (some (.Subscript o i pos')) pos.line X.env = pure false) :
   PS X (.Assign [.Subscript o i pos'] value pos) (sDPut td ty tv) := by
 intro pins s σ H D I h
 refine wpAny_Assign_Subscript (thn (hv pins s σ H _ I h) fun r s1 ⟨v, H1, I1, rv, q1⟩ => thn (ho pins s1 σ H1 _ I1 q1) fun u s2 ⟨x, H2, I2, rx, q2⟩ => thn (hi pins s2 σ H2 _ I2 q2) fun iv s3 ⟨y, H3, I3, ry, a, H4, ex, g, q3⟩ => ?_) hs
 subst ex
 obtain rfl : u = Value.ref a := rx
 exact d_setItem hu I3 g ry rv fun s4 I4 => ⟨σ, H4, I4, q3⟩
end
theorem dk_empty {P : Program} {w : World} {H : Hp} (h : Heap) (hb : sysModules < h.objs.size) : ObjOk P w H (h.push { cls := .type "dict", data := .dict #[] }) h.objs.size (.dK []) :=
 ⟨Nat.zero_le _, beq_eq_false_iff_ne.mpr (Ne.symm (Nat.ne_of_lt hb)), [], .nil, Heap.DictOf.new h⟩
theorem dt_empty {P : Program} {w : World} {H : Hp} (h : Heap) (hb : sysModules < h.objs.size) : ObjOk P w H (h.push { cls := .type "dict", data := .dict #[] }) h.objs.size (.dT []) :=
 ⟨Nat.zero_le _, beq_eq_false_iff_ne.mpr (Ne.symm (Nat.ne_of_lt hb)), [], .nil, _, #[], 0, Heap.get?_push_size _ rfl, ⟨rfl, rfl, rfl⟩, rfl, rfl, List.nodup_nil⟩
def tDNewK : TE := fun _ H Q => ∀ p, H p = none -> Q (.ref p) (upd H p (.dK []))
def tDNewT : TE := fun _ H Q => ∀ p, H p = none -> Q (.ref p) (upd H p (.dT []))
section
variable {X : Cx} {pos : Pos}
theorem pe_dnewK : PE X (.Dict [] [] pos) tDNewK := fun pins s σ H Q I h =>
 wpAny_Dict_empty ⟨.ref s.heap.objs.size, _, I.laid (a := s.heap.objs.size) (o := .dK []) (t' := s.toks) (fun _ _ q => Heap.get?_push_of_some _ q) (Nat.le_refl _) (dk_empty s.heap I.big), rfl, h _ (I.hok.fresh (Nat.le_refl _))⟩
theorem pe_dnewT : PE X (.Dict [] [] pos) tDNewT := fun pins s σ H Q I h =>
 wpAny_Dict_empty ⟨.ref s.heap.objs.size, _, I.laid (a := s.heap.objs.size) (o := .dT []) (t' := s.toks) (fun _ _ q => Heap.get?_push_of_some _ q) (Nat.le_refl _) (dt_empty s.heap I.big), rfl, h _ (I.hok.fresh (Nat.le_refl _))⟩
end
def tPairs : List (TE × TE) -> St -> Hp -> (List (V × V) -> Hp -> Prop) -> Prop
 | [], _, H, Q => Q [] H
 | (tk, tv) :: r, σ, H, Q => tk σ H fun x H1 => tv σ H1 fun y H2 => tPairs r σ H2 fun ps H3 => Q ((x, y) :: ps) H3
abbrev VV : List (V × V) -> List (Value × Value) -> Prop := Paired fun p q => RelV p.1 q.1 /\ RelV p.2 q.2
def PPs (X : Cx) (pos : Pos) (keys : List (Option Expr)) (values : List Expr) (trs : List (TE × TE)) : Prop :=
 ∀ (pins : List (Addr × Obj)) (s : Shared) (σ : St) (H : Hp) (Q : List (V × V) -> Hp -> Prop), Inv X pins σ H s -> tPairs trs σ H Q ->
   wpAny (model X.prog X.w) X.A (evalPairs (pairTrees keys values X.env pos)) (fun vs s' => ∃ ps H', Inv X pins σ H' s' /\ VV ps vs /\ Q ps H') X.xe s
def mergeK (kvs more : List (Key × V)) : List (Key × V) := more.foldl (fun acc kv => xT acc kv.1 kv.2) kvs
def tDisp (trs : List (TE × TE)) : TE := fun σ H Q => ∀ p, H p = none -> tPairs trs σ (upd H p (.dK [])) fun ps H2 => H2 p = some (.dK []) /\ ∃ kvs : List (Key × V), ps = kvs.map (fun kv => (kV kv.1, kv.2)) /\ kvs.length <= 15 /\ Q (.ref p) (upd H2 p (.dK (mergeK [] kvs)))
structure M1 (X : Cx) (o : Expr) (m : Str) (apos : Pos) (e : Expr) (cpos : Pos) : Prop where
 base : attributeBase o m X.env (eval o X.env) = eval o X.env
 few : ((backTo cpos (starEach [e] X.env)).all (fun x => !x.1) && (backToKw cpos (keywordEach [] X.env)).all (fun x => x.1.isSome)
   && decide (([e] : List Expr).length + ([] : List Keyword).length + (if ([] : List Keyword).isEmpty then 0 else 1) < 30)) = true
 line : (apos.endLine == cpos.line) = true
 trees : backTo cpos (starEach [e] X.env) = [(false, eval e X.env)]
structure M2 (X : Cx) (o : Expr) (m : Str) (apos : Pos) (e f : Expr) (cpos : Pos) : Prop where
 base : attributeBase o m X.env (eval o X.env) = eval o X.env
 few : ((backTo cpos (starEach [e, f] X.env)).all (fun x => !x.1) && (backToKw cpos (keywordEach [] X.env)).all (fun x => x.1.isSome)
   && decide (([e, f] : List Expr).length + ([] : List Keyword).length + (if ([] : List Keyword).isEmpty then 0 else 1) < 30)) = true
 line : (apos.endLine == cpos.line) = true
 trees : backTo cpos (starEach [e, f] X.env) = [(false, eval e X.env), (false, eval f X.env)]
def IsD (H : Hp) (a : Addr) : Prop := (∃ kvs, Rd H a (.dK kvs)) \/ ∃ kvs, Rd H a (.dT kvs)
theorem isD_at {X : Cx} {pins : List (Addr × Obj)} {σ : St} {H : Hp} {s : Shared} {a : Addr} (I : Inv X pins σ H s) (d : IsD H a) :
   s.TypeIs (.ref a) "dict" /\ (∀ b, Value.ref a = .ref b -> ∃ ob, s.heap.get? b = some ob /\ ob.dict = none) /\ (a == sysModules) = false := by
 rcases d with ⟨kvs, e⟩ | ⟨kvs, e⟩
 · obtain ⟨_, hd, vs, _, dd⟩ := vK I.hok e
   refine ⟨dd.typeIs, fun b q => ?_, hd⟩
   cases q
   obtain ⟨ob, _, _, h1, h2, _⟩ := dd
   exact ⟨ob, h1, h2.2.1⟩
 · obtain ⟨_, hd, xs, _, dd⟩ := vJ I.hok e
   refine ⟨dd.typeIs, fun b q => ?_, hd⟩
   cases q
   obtain ⟨ob, _, _, h1, h2, _⟩ := dd
   exact ⟨ob, h1, h2.2.1⟩
section
variable {X : Cx} {pins : List (Addr × Obj)} {σ : St} {H : Hp} {s : Shared} {a : Addr} {y d : V} {u r : Value} {o : Option V} {A : Around} {E : Value -> Shared -> Prop}
theorem d_get2 {Q : Value -> Shared -> Prop} (hu : A.units + 1 < cLine) (I : Inv X pins σ H s) (g : DGet H a y o) (ry : RelV y u) (rd : RelV d r) (h : ∀ w' s', Inv X pins σ H s' -> RelV (o.getD d) w' -> Q w' s') :
   wpAny (model X.prog X.w) A (call (.builtin "dict.get") [.ref a, u, r]) Q E s := by
 rcases g with ⟨kvs, k, e, ey, l⟩ | ⟨kvs, k, b, e, ey, eb, l⟩
 · subst ey
   obtain ⟨z, hd, vs, rel, dd⟩ := vK I.hok e
   refine call_meetsIn PySem.F.slot_dict_get dd.typeIs PySem.F.entry_dict_get (PySem.F.args_dict_get_3 _ _ _) (meets_dict_get_default (yJ X.prog X.w) a (wG ry) hd r) ⟨_, dd.mapOf, h _ _ (I.tok _) ?_⟩
   rw [l]
   exact (rel.val k).getD rd
 · subst ey
   cases (show u = Value.ref b from ry)
   obtain ⟨z, hd, xs, rel, dd⟩ := vJ I.hok e
   refine call_meetsIn PySem.F.slot_dict_get dd.typeIs PySem.F.entry_dict_get (PySem.F.args_dict_get_3 _ _ _) (meetsH_dict_get_default (tupleKind (yJ X.prog X.w)) a b hd r) ⟨tupleKind_room_in1 hu, k, xs, jT I.hok eb, dd, h _ _ (I.tok _) ?_⟩
   rw [l]
   exact (rel.val k).getD rd
end
def tDGet2 (td ty tx : TE) : TE := fun σ H Q => td σ H fun x H1 => ∃ a, x = .ref a /\ IsD H1 a /\ ty σ H1 fun y H2 => tx σ H2 fun z H3 => ∃ o, DGet H3 a y o /\ Q (o.getD z) H3
section
variable {X : Cx} {o e f : Expr} {apos cpos : Pos} {td ty tx : TE}
theorem pe_dget2 (hu : X.A.units + 1 < cLine) (ho : PE X o td) (he : PE X e ty) (hf : PE X f tx) (m : M2 X o "get" apos e f cpos) : PE X (.Call (.Attribute o "get" apos) [e, f] [] cpos) (tDGet2 td ty tx) := by
 intro pins s σ H Q I h
 refine wpAny_Call_method m.base m.few m.line PySem.F.plainAttrs_dict PySem.F.slot_dict_get PySem.F.type_dict_get (thn (ho pins s σ H _ I h) fun u s1 ⟨x, H1, I1, rx, a, ex, d, q1⟩ => ?_)
 subst ex
 obtain rfl : u = Value.ref a := rx
 obtain ⟨t1, t2, _⟩ := isD_at I1 d
 refine ⟨t1, t2, ?_⟩
 rw [m.trees]
 refine Calls.callWith_builtin rfl (Calls.evalArgs_plain (Calls.spliced_cons (thn (he pins s1 σ H1 _ I1 q1) fun iv s2 ⟨y, H2, I2, ry, q2⟩ =>
   Calls.spliced_cons (thn (hf pins s2 σ H2 _ I2 q2) fun fv s3 ⟨z, H3, I3, rz, ov, g, q3⟩ => Calls.spliced_nil ?_))))
 exact d_get2 hu I3 g ry rz fun w' s4 I4 rw' => ⟨_, H3, I4, rw', q3⟩
end
section
variable {X : Cx} {pins : List (Addr × Obj)} {σ : St} {H : Hp} {s : Shared} {a : Addr} {kvs : List (Key × V)} {A : Around} {E : Value -> Shared -> Prop}
end
section
variable {X : Cx} {pins : List (Addr × Obj)} {σ : St} {H : Hp} {s : Shared} {a : Addr} {y : V} {u : Value} {A : Around} {E : Value -> Shared -> Prop}
end
end L2
namespace Att
open PySem PySem.W PySem.Calls PyProof.Rows
theorem uG {P : Params} {h : Heap} : ∀ (ns : List Int) (vs : List Value), WellAll P h vs (ns.map WData.int) -> IntsAre vs ns := by
 intro ns
 induction ns with
 | nil =>
   intro vs w
   rw [List.map_nil] at w
   cases w
   exact .nil
 | cons n ns ih =>
   intro vs w
   rw [List.map_cons] at w
   cases w with
   | cons a b =>
     cases a
     exact .cons _ _ (ih _ b)
theorem script_of {l : OpenLaw} {n : Nat} (hn : l.most = some n) {P : Params} {h : Heap} {args : List WData} {vals : List Value}
   (hpre : l.row.toRowW.claim.pre args = true) (hwl : WellAll P h vals args) :
   ∃ a vs ns, vals = [Value.ref a] /\ args = [WData.list (ns.map WData.int)] /\ h.get? a = some { cls := .type "list", data := .seq vs.toArray } /\ IntsAre vs ns /\ ns.length <= n := by
 have hsh : WShape.hasAll [] args [.list .int] = true := (pre_splitW hpre).1
 have hc : l.pre.holds [] { args := args } = true := (pre_splitW hpre).2
 obtain ⟨d, r, rfl, h1, h2⟩ := hasAllW_cons hsh
 obtain rfl := hasAllW_nil h2
 obtain ⟨xs, rfl, h3⟩ := hasW_list h1
 obtain ⟨ns, rfl⟩ := items_int h3
 have hlen : ns.length <= n := by
   unfold OpenLaw.pre at hc
   have h4 : (WTm.not (.lt (.lit (.int (n : Int))) (.len (.arg 0)))).holds [] { args := [.list (ns.map .int)] } = true := by
     have h4 := (holds_andW hc).1
     rw [hn] at h4
     exact h4
   have h5 := condW_of h4 (w_not (w_lt w_lit (w_len_list (w_arg rfl))))
   rw [List.length_map] at h5
   refine Nat.le_of_not_lt fun q => ?_
   have q' : (n : Int) < ((ns.length : Nat) : Int) := by omega
   first
     | (rw [decide_eq_true q'] at h5; exact absurd h5 (by decide))
     | (simp at h5; omega)
 cases hwl with
 | cons w1 w2 =>
   cases w2
   cases w1 with
   | list ho hall => exact ⟨_, _, ns, rfl, rfl, ho, uG ns _ hall, hlen⟩
theorem post_true (l : OpenLaw) (args : List WData) : l.row.toRowW.claim.post args (.bool true) args = true :=
 postW_of (r := l.row.toRowW) (X := (true == true))
   (show WShape.has [] (.bool true) .bool = true by first | rfl | decide | simp [WShape.has, WShape.arms, WShape.armsAll])
   (show (WTm.eq .res (.lit (.bool true))).value [] { args := args, res := some (.bool true), after := args } = some (.bool (true == true)) from w_eq_bool (w_res rfl) w_lit) rfl
theorem attach_call {l : OpenLaw} {n : Nat} {q : Program} {loose : List Str} {XP : (Str -> Option Value) -> Heap -> Prop} {YP : World -> Heap -> Prop} {d : DefRec}
   (hn : l.most = some n) (hdf : d.params.defaults = [])
   (call : ∀ (w : World) (s₀ s₁ : Shared) (mg mb : Str -> Option Value) (fa : Addr) (o : Obj) (pm cd doc : Value) (a : Addr) (vs : List Value) (ns : List Int),
     Ground q loose [] XP w s₀ mg mb s₁.heap -> YP w s₁.heap ->
     s₁.heap.get? fa = some o -> o.data = .func (docDef d.name d.params d.body d.scope pm cd doc) -> s₁.heap.CodeRec cd d.name -> mg d.name = some (.ref fa) ->
     s₁.heap.get? a = some { cls := .type "list", data := .seq vs.toArray } -> IntsAre vs ns -> ns.length <= n -> s₁.gens = #[] ->
     codeAny (model l.prog w) callerA (.call (.ref fa) ⟨[.ref a], []⟩) (fun r s' => r = .ok (.ret (.bool true)) /\ OldK s₁.heap s'.heap /\ s'.os = s₁.os /\ AllBare s'.gens) s₁) :
   WalkO q loose XP YP l.row.toRowW d [] (fun f vs => PySem.call f vs) := by
 intro w s₀ s₁ mg mb G Y fa o pm cd doc dV kV ho hd hcd hD hmg hg args vals as hpre hlay hrd hwl hlo
 obtain rfl : dV = .none := Dflts.none hD hdf
 obtain rfl : kV = .none := Dflts.noKw hD
 obtain ⟨a, vs, ns, rfl, rfl, hobj, hints, hlen⟩ := script_of hn hpre hwl
 refine enter_call (codeAny_mono (call w s₀ s₁ mg mb fa o pm cd doc a vs ns G Y ho (fd_plain hd) hcd hmg hobj hints hlen hg) fun r s' hq => ?_)
 obtain ⟨rfl, h2, h3, h4⟩ := hq
 exact ⟨.inl ⟨.bool true, .bool true, [], rfl, fun _ => rfl, .bool true, post_true l _, fun _ => ⟨List.Pairwise.nil, fun _ hm => (nomatch hm)⟩⟩, h2, h3, h4⟩
section
variable {prog : Program} {w : World} {A : Around} {E : Value -> Shared -> Prop} {s : Shared} {K : Frag}
end
end Att
namespace L2
open PySem PySem.Spec PyProof.Rows
theorem vals_ints : ∀ {vs : List Value} {ns : List Int}, IntsAre vs ns -> Vals (ns.map V.int) vs
 | _, _, .nil => .nil
 | _, _, .cons n t h => .cons ⟨t, rfl⟩ (vals_ints h)
def Only (H : Hp) : Prop := ∀ b, H b = none \/ ∃ o xs, H b = some (.frz o (.lst xs))
theorem law_call {P : Program} {w : World} {K : PySem.W.Frag} {mg mb : Str -> Option Value} {CX : CXT} {k : Nat} {fa a : Addr} {fd : FuncData} {x : Str} {sp : Sp} {s₁ : Shared} {vs : List Value} {ns : List Int}
   (KX : K.In s₁.heap) (hns : s₁.heap.Ns mainGlobals mg) (hb : s₁.heap.Ns builtinsNs mb) (hbb : ∀ x : Str, x ≠ "__name__" -> mb x = bootBuiltins x) (hlim : s₁.heap.NoLimit) (hg : s₁.gens = #[])
   (ha : s₁.heap.get? a = some { cls := .type "list", data := .seq vs.toArray }) (hi : IntsAre vs ns) (hl : ns.length <= sizeLine) (hr : Room k callerA)
   (F : ∀ base : Heap, K.In base -> base.Ns mainGlobals mg -> FnOk P w K mg base CX k fa fd [x] sp) (hbind : ∀ (s : Shared) (u : Value), BindsTo s fd ⟨[u], []⟩ [(x, u)])
   (hsp : ∀ H : Hp, Only H -> SqL K H a (ns.map V.int) -> sp [.ref a] H (fun v _ => v = .bl true) fun _ _ _ => False)
   (hCX : ∀ H e s', CX [] H s₁ (fun _ _ _ => False) e s' -> False) :
   codeAny (model P w) callerA (.call (.ref fa) ⟨[.ref a], []⟩) (fun r s' => r = .ok (.ret (.bool true)) /\ OldK s₁.heap s'.heap /\ s'.os = s₁.os /\ AllBare s'.gens) s₁ := by
 have rv := vals_ints hi
 have lenV := hi.length
 have core : ∀ H : Hp, Only H -> SqL K H a (ns.map V.int) -> HOk P w H s₁.heap -> (∀ b, H b ≠ none -> b = a) -> (H a ≠ none -> K.lookup a = none) ->
     codeAny (model P w) callerA (.call (.ref fa) ⟨[.ref a], []⟩) (fun r s' => r = .ok (.ret (.bool true)) /\ OldK s₁.heap s'.heap /\ s'.os = s₁.os /\ AllBare s'.gens) s₁ := by
   intro H hO hS hok hA hK
   have base_of : ∀ {b : Addr} {o : Obj}, s₁.heap.get? b = some o -> H b = none -> (kE s₁.heap H).get? b = some o := fun e n => hidT_get e n
   have noA : ∀ {b : Addr} {o : Obj} {es : Array DictEntry} {ep : Nat}, s₁.heap.get? b = some o -> o.data = .dict es ep -> H b = none := fun {b o es ep} e d => by
     cases q : H b with
     | none => rfl
     | some u =>
       have e' : b = a := hA b (by rw [q]; simp)
       subst e'
       rw [ha] at e; cases e
       have d' : Data.seq vs.toArray _ = Data.dict es ep := d
       cases d'
   have nsK : ∀ {b : Addr} {m : Str -> Option Value}, s₁.heap.Ns b m -> (kE s₁.heap H).Ns b m := fun {b m} ⟨o, es, ep, e, d, r⟩ => ⟨o, es, ep, base_of e (noA e d), d, r⟩
   have hKb : K.In (kE s₁.heap H) := fun b o e => base_of (KX b o e) (by
     cases q : H b with
     | none => rfl
     | some u =>
       have e' : b = a := hA b (by rw [q]; simp)
       subst e'
       rw [hK (by rw [q]; simp)] at e; cases e)
   have hM : Mod K mg (kE s₁.heap H) := ⟨hKb, nsK hns, ⟨mb, nsK hb, hbb⟩, let ⟨mc, h1, h2⟩ := hlim; ⟨mc, nsK h1, h2⟩⟩
   have e0 : Env0 P w K mg (kE s₁.heap H) callerA [] s₁ H := ⟨rfl, hM, fun b o e => of_hidT e, Nat.le_of_eq (hidT_size _ _), trivial, fun b hb => absurd (show b ∈ ([] : List Addr) from hb) (by simp), hok, .of_eq hg⟩
   refine codeAny_mono ((F _ hKb (nsK hns)).run callerA [] s₁ H ⟨[.ref a], []⟩ [.ref a] [.ref a] _ _ hr e0 (hbind s₁ (.ref a)) (.cons rfl .nil) (hsp H hO hS)) fun r s' h => ?_
   cases r with
   | error e => exact (hCX H e s' h).elim
   | ok fl =>
     cases fl with
     | next => exact False.elim h
     | brk => exact False.elim h
     | cont => exact False.elim h
     | ret u =>
       obtain ⟨v, H', os, bare, un, hok', r', q⟩ := h
       have q' : v = .bl true := q
       subst q'
       obtain rfl : u = Value.bool true := r'
       refine ⟨rfl, OldK.of_keep fun b o e => ?_, os, bare⟩
       cases q : H b with
       | none => exact un.keep b o e q (by intro z; exact absurd (show b ∈ ([] : List Addr) from z) (by simp)) (by simp)
       | some u =>
         rcases hO b with z | ⟨ob, xs, z⟩
         · rw [q] at z; cases z
         · have z2 := un.frzs b ob _ z
           obtain ⟨e1, _⟩ := hok b _ z
           obtain ⟨e2, _⟩ := hok' b _ z2
           rw [e] at e1; cases e1
           exact e2
 cases hk : K.lookup a with
 | some o =>
   have e := KX a o hk
   rw [ha] at e
   cases e
   refine core (fun _ => none) (fun _ => .inl rfl) (.inr ⟨_, vs.toArray, _, hk, rfl, rfl, rfl, by rw [List.size_toArray, lenV]; exact hl, by simpa using rv⟩) (fun b u z => by have z' : (none : Option HO) = some u := z; cases z') (fun b z => absurd rfl z) fun z => absurd rfl z
 | none =>
   refine core (fun b => if b = a then some (.frz { cls := .type "list", data := .seq vs.toArray } (.lst (ns.map V.int))) else none) (fun b => ?_) (.inl (.inr ⟨{ cls := .type "list", data := .seq vs.toArray }, if_pos rfl⟩)) (fun b u z => ?_) (fun b z => ?_) fun _ => hk
   · by_cases hb : b = a
     · exact .inr ⟨_, _, if_pos hb⟩
     · exact .inl (if_neg hb)
   · by_cases hb : b = a
     · have z' := (if_pos hb).symm.trans z
       cases z'
       subst hb
       exact ⟨ha, by rw [List.length_map]; exact hl, vs, _, rv, ha⟩
     · have z' := (if_neg hb).symm.trans z
       cases z'
   · by_cases hb : b = a
     · exact hb
     · exact absurd (if_neg hb) z
theorem walk_of {l : PySem.W.OpenLaw} {n k : Nat} {q : Program} {loose : List Str} {XP : (Str -> Option Value) -> Heap -> Prop} {YP : World -> Heap -> Prop} {d : DefRec} {K : Params -> PySem.W.Frag} {CX : World -> CXT} {sp : World -> Sp} {x : Str}
   (hn : l.most = some n) (hn2 : n <= sizeLine) (hdf : d.params.defaults = []) (hr : Room k callerA)
   (hY : ∀ (w : World) (h : Heap), YP w h -> (K w.params).In h)
   (F : ∀ (w : World) (mg : Str -> Option Value) (fa : Addr) (h : Heap), (K w.params).In h -> h.Ns mainGlobals mg -> mg d.name = some (.ref fa) ->
     ∃ fd : FuncData, (∀ (s : Shared) (u : Value), BindsTo s fd ⟨[u], []⟩ [(x, u)]) /\
       ∀ base : Heap, (K w.params).In base -> base.Ns mainGlobals mg -> FnOk l.prog w (K w.params) mg base (CX w) k fa fd [x] (sp w))
   (hsp : ∀ (w : World) (H : Hp) (a : Addr) (ns : List Int), ns.length <= n -> Only H -> SqL (K w.params) H a (ns.map V.int) -> sp w [.ref a] H (fun v _ => v = .bl true) fun _ _ _ => False)
   (hCX : ∀ (w : World) (H : Hp) (s : Shared) (e : Value) (s' : Shared), CX w [] H s (fun _ _ _ => False) e s' -> False) :
   PySem.W.WalkO q loose XP YP l.row.toRowW d [] (fun f vs => PySem.call f vs) := by
 refine Att.attach_call hn hdf fun w s₀ s₁ mg mb fa o pm cd doc a vs ns G Y ho hd hcd hmg hobj hints hlen hg => ?_
 have KX := hY w _ Y
 obtain ⟨fd, hb, hF⟩ := F w mg fa _ KX G.T.g hmg
 exact law_call KX G.T.g G.T.b G.T.builtins G.T.nolimit hg hobj hints (Nat.le_trans hlen hn2) hr hF hb (fun H hO hS => hsp w H a ns hlen hO hS) fun H e s' => hCX w H s₁ e s'
def uN (s : Stmt) (j : Nat) : Stmt := match s with
 | .ClassDef _ _ _ body _ _ _ _ _ _ _ => body.getD j (.Pass ⟨0, 0, 0, 0⟩)
 | _ => .Pass ⟨0, 0, 0, 0⟩
def zT (s : Stmt) : Arguments := match s with
 | .FunctionDef _ a _ _ _ _ _ _ _ _ => a
 | _ => { posonlyargs := [], args := [], vararg := none, kwonlyargs := [], kw_defaults := [], kwarg := none, defaults := [] }
def zS (s : Stmt) : List Stmt := match s with
 | .FunctionDef _ _ b _ _ _ _ _ _ _ => b
 | _ => []
def zH (s : Stmt) : Scope := match s with
 | .FunctionDef _ _ _ _ _ _ sc _ _ _ => sc
 | _ => { kind := .function, names := [], isGenerator := false, isCoroutine := false }
abbrev CX0 : CXT := fun _ _ _ _ _ _ => False
abbrev E0 : XK := fun _ _ _ => False
theorem pass0 {X : Cx} : uA CX0 X E0 := fun _ _ _ _ _ _ _ h => h.elim
structure Fun (K : PySem.W.Frag) (x qual : Str) (st : Stmt) (f : Addr) (fd : FuncData) : Prop where
 ex : ∃ (oc : Value) (od : Option Addr) (kV doc pm : Value) (an : Option Addr) (cdv ct : Value) (osl : Array (Option Value)),
   fd = PySem.W.fnOf x qual (zT st) (zS st) (zH st) .none kV doc pm an cdv ct /\ K.lookup f = some ⟨oc, od, .func fd, osl⟩ /\ PySem.W.codeIn K cdv qual = true
 kp : PySem.W.keepIn K (.ref f) = true
section
variable {P : Program} {w : World} {K : PySem.W.Frag} {mg : Str -> Option Value} {base : Heap}
theorem Fun.ok {x qual : Str} {st : Stmt} {f : Addr} {fd : FuncData} {N ps : List Str} {k : Nat} {sp : Sp} (F : Fun K x qual st f fd) (S : FnScope N ps (zH st)) (len : ∀ vs H Q E, sp vs H Q E -> vs.length = ps.length)
   (hbody : ∀ (cdv : Value) (A : Around) (outer : List Env) (s : Shared) (H : Hp) (vs : List V) (Q : VK) (E : XK), Room k (A.deeper (envOfC qual (zH st) s.heap.objs.size f cdv)) -> sp vs H Q E ->
     ∃ t, PSs (vS CX0 P w K mg base N qual (zH st) f cdv A outer s H E).nox (zS st) t /\ t { nx := fun _ H' => Q .non H', rt := Q } (start N vs) H) : FnOk P w K mg base CX0 (k + 1) f fd ps sp := by
 obtain ⟨oc, od, kV, doc, pm, an, cdv, ct, osl, rfl, lk, hcd⟩ := F.ex
 refine fn_of lk hcd S len fun A outer s H vs Q E hr hsp => ?_
 obtain ⟨t, h, q⟩ := hbody cdv A outer s H vs Q E hr hsp
 exact ⟨t, h.nox, q⟩
theorem Fun.binds {x qual : Str} {st : Stmt} {f : Addr} {fd : FuncData} {ps : List Str} (F : Fun K x qual st f fd)
   (h : ∀ (kV doc pm : Value) (an : Option Addr) (cdv ct : Value) (us : List Value), us.length = ps.length -> bindArgs (PySem.W.fnOf x qual (zT st) (zS st) (zH st) .none kV doc pm an cdv ct) ⟨us, []⟩ = pure (ps.zip us)) : Binds K fd ps [] := by
 obtain ⟨oc, od, kV, doc, pm, an, cdv, ct, osl, rfl, lk, hcd⟩ := F.ex
 exact .all (h kV doc pm an cdv ct)
theorem yF {x qual : Str} {st : Stmt} {f : Addr} {oc : Value} {od an : Option Addr} {osl : Array (Option Value)} {kV doc pm cdv ct : Value} (l : K.lookup f = some ⟨oc, od, .func (PySem.W.fnOf x qual (zT st) (zS st) (zH st) .none kV doc pm an cdv ct), osl⟩)
   (c : PySem.W.codeIn K cdv qual = true) (k : PySem.W.keepIn K (.ref f) = true) : Fun K x qual st f (PySem.W.fnOf x qual (zT st) (zS st) (zH st) .none kV doc pm an cdv ct) := ⟨⟨oc, od, kV, doc, pm, an, cdv, ct, osl, rfl, l, c⟩, k⟩
end
theorem jC {A : Around} {k : Nat} (hr : Room k A) : A.units + 1 < cLine := Nat.lt_of_le_of_lt (Nat.add_le_add_left (by decide : 1 <= 64) _) hr.units
theorem xO {n : Nat} (h : n <= 1000) : n < sizeLine := Nat.lt_of_le_of_lt h (by decide)
section
variable {X : Cx}
theorem pv (i : Nat) {x : Str} {pos : Pos} (hN : X.N[i]? = some x := by rfl) (hv : Vis X.env.scope x := by first | exact Or.inl rfl | exact Or.inr (Or.inl rfl) | exact Or.inr (Or.inr rfl)) (hd : (x == ("__debug__" : Str)) = false := by decide)
   (hcd : (x == ("__classdict__" : Str)) = false := by decide) : PE X (.Name x pos) (tVar i) := pe_var hN hv hd hcd
end
theorem iteF {A B : Prop} (h : B) : if false = true then A else B := by
 rw [if_neg Bool.false_ne_true]
 exact h
theorem iteT {A B : Prop} (h : A) : if true = true then A else B := by
 rw [if_pos rfl]
 exact h
def Same (H H' : Hp) : Prop := ∀ b o, H b = some o -> H' b = some o
theorem Same.refl (H : Hp) : Same H H := fun _ _ h => h
theorem Same.trans {H H1 H2 : Hp} (a : Same H H1) (b : Same H1 H2) : Same H H2 := fun c o h => b c o (a c o h)
theorem Same.free {H H' : Hp} (e : Same H H') {l : Addr} (h : H' l = Option.none) : H l = Option.none := by
 cases q : H l with
 | none => rfl
 | some o =>
   rw [e l o q] at h
   cases h
theorem Same.seq {K : PySem.W.Frag} {H H' : Hp} {a : Addr} {xs : List V} (e : Same H H') (h : SqL K H a xs) : SqL K H' a xs := by
 rcases h with (h | ⟨o, h⟩) | h
 · exact .inl (.inl (e _ _ h))
 · exact .inl (.inr ⟨o, e _ _ h⟩)
 · exact .inr h
section
variable {X : Cx}
end
section
variable {κ : Type} [DecidableEq κ]
end
def xN (env : Env) : List (Str × NameKind) -> List (Str × Addr) -> List (Str × Addr)
 | [], cs => cs
 | (n, k) :: r, cs => if (k == NameKind.free) = true then xN env r ((n, (env.cells.lookup n).getD 0) :: cs) else xN env r cs
theorem qB {scope : Scope} {env : Env} (h : ∀ x ∈ scope.names, x.2 = .free -> ∃ c, env.cells.lookup x.1 = some c) : closureFor scope env = pure (xN env scope.names []) := by
 unfold closureFor
 have go : ∀ (l : List (Str × NameKind)) (cs : List (Str × Addr)), (∀ x ∈ l, x.2 = .free -> ∃ c, env.cells.lookup x.1 = some c) ->
     (forIn l cs fun (x : Str × NameKind) (r : List (Str × Addr)) => (match x with
       | (name, kind) => if (kind == NameKind.free) = true then do let a ← cellOf env name; pure (ForInStep.yield ((name, a) :: r)) else pure (ForInStep.yield r) : Sem (ForInStep (List (Str × Addr))))) = (pure (xN env l cs) : Sem (List (Str × Addr))) := by
   intro l
   induction l with
   | nil => intro cs _; rfl
   | cons x r ih =>
     intro cs hl
     obtain ⟨n, k⟩ := x
     rw [List.forIn_cons]
     by_cases hk : (k == NameKind.free) = true
     · obtain ⟨c, hc⟩ := hl (n, k) List.mem_cons_self (by simpa using hk)
       have e : cellOf env n = pure c := by unfold cellOf; rw [hc]
       simp only [hk, if_true, e, pure_bind]
       rw [ih _ fun y hy => hl y (List.mem_cons_of_mem _ hy)]
       rw [xN, if_pos hk, hc]
       rfl
     · simp only [hk, if_false, Bool.false_eq_true, pure_bind]
       rw [ih _ fun y hy => hl y (List.mem_cons_of_mem _ hy)]
       rw [xN, if_neg hk]
 have q := go scope.names [] h
 simp only [pure_bind, bind_pure] at q ⊢
 exact q
theorem jN {env : Env} {y : Str} {c : Addr} : ∀ (l : List (Str × NameKind)) (cs : List (Str × Addr)), (∀ x ∈ l, x.2 = .free -> ∃ c, env.cells.lookup x.1 = some c) ->
   (∀ z d, cs.lookup z = some d -> env.cells.lookup z = some d) -> (xN env l cs).lookup y = some c -> env.cells.lookup y = some c
 | [], cs, _, hc, e => hc _ _ e
 | (n, k) :: r, cs, h, hc, e => by
   have hr : ∀ x ∈ r, x.2 = .free -> ∃ c, env.cells.lookup x.1 = some c := fun x hx => h x (List.mem_cons_of_mem _ hx)
   by_cases hk : (k == NameKind.free) = true
   · rw [xN, if_pos hk] at e
     refine jN r _ hr (fun z d ez => ?_) e
     obtain ⟨c', hc'⟩ := h (n, k) List.mem_cons_self (by simpa using hk)
     rw [List.lookup_cons] at ez
     cases hz : z == n with
     | true =>
       rw [hz] at ez
       have hz' : z = n := eq_of_beq hz
       subst hz'
       have e2 : (env.cells.lookup z).getD 0 = d := Option.some.inj ez
       have hc'' : env.cells.lookup z = some c' := hc'
       rw [hc''] at e2 ⊢
       exact congrArg some e2
     | false => rw [hz] at ez; exact hc z d ez
   · rw [xN, if_neg hk] at e
     exact jN r cs hr hc e
theorem jZ {env : Env} {y : Str} : ∀ (l : List (Str × NameKind)) (cs : List (Str × Addr)), ((y, NameKind.free) ∈ l \/ ∃ c, cs.lookup y = some c) -> ∃ c, (xN env l cs).lookup y = some c
 | [], cs, h => h.elim (fun z => nomatch z) fun z => z
 | (n, k) :: r, cs, h => by
   by_cases hk : (k == NameKind.free) = true
   · rw [xN, if_pos hk]
     refine jZ r _ ?_
     rcases h with h | ⟨c, h⟩
     · rcases List.mem_cons.mp h with h | h
       · cases h
         exact .inr ⟨_, by rw [List.lookup_cons, beq_self_eq_true]⟩
       · exact .inl h
     · cases hz : y == n with
       | true => exact .inr ⟨_, by rw [List.lookup_cons, hz]⟩
       | false => exact .inr ⟨c, by rw [List.lookup_cons, hz]; exact h⟩
   · rw [xN, if_neg hk]
     refine jZ r _ ?_
     rcases h with h | h
     · rcases List.mem_cons.mp h with h | h
       · cases h
         exact absurd rfl hk
       · exact .inl h
     · exact .inr h
theorem xY {env : Env} : ∀ {names : List (Str × NameKind)} {x : Str} {k' : NameKind},
   (names.map fun (n, k) => if (k == NameKind.free && env.scope.kind == .function && env.kindOf n == some .cell) then (n, NameKind.cell) else (n, k)).lookup x = some k' ->
   names.lookup x = some k' \/ (names.lookup x = some .free /\ k' = .cell)
 | [], _, _, h => by simp at h
 | (n, k) :: r, x, k', h => by
   have ih := @xY env r x k'
   have h : List.lookup x ((if (k == NameKind.free && env.scope.kind == .function && env.kindOf n == some .cell) = true then (n, NameKind.cell) else (n, k)) :: _) = some k' := h
   rw [List.lookup_cons]
   by_cases hc : (k == NameKind.free && env.scope.kind == .function && env.kindOf n == some .cell) = true
   · rw [if_pos hc, List.lookup_cons] at h
     cases hx : x == n with
     | true =>
       rw [hx] at h
       have e1 : NameKind.cell = k' := Option.some.inj h
       simp only [Bool.and_eq_true] at hc
       exact .inr ⟨congrArg some (eq_of_beq hc.1.1), e1.symm⟩
     | false => rw [hx] at h; exact ih h
   · rw [if_neg hc, List.lookup_cons] at h
     cases hx : x == n with
     | true => rw [hx] at h; exact .inl h
     | false => rw [hx] at h; exact ih h
theorem qL {env : Env} : ∀ {names : List (Str × NameKind)} {x : Str}, names.lookup x = some .free ->
   (names.map fun (n, k) => if (k == NameKind.free && env.scope.kind == .function && env.kindOf n == some .cell) then (n, NameKind.cell) else (n, k)).lookup x = some .cell \/
   (names.map fun (n, k) => if (k == NameKind.free && env.scope.kind == .function && env.kindOf n == some .cell) then (n, NameKind.cell) else (n, k)).lookup x = some .free
 | [], _, h => by simp at h
 | (n, k) :: r, x, h => by
   have ih := @qL env r x
   show List.lookup x ((if (k == NameKind.free && env.scope.kind == .function && env.kindOf n == some .cell) = true then (n, NameKind.cell) else (n, k)) :: _) = _ \/ List.lookup x ((if (k == NameKind.free && env.scope.kind == .function && env.kindOf n == some .cell) = true then (n, NameKind.cell) else (n, k)) :: _) = _
   rw [List.lookup_cons] at h
   by_cases hc : (k == NameKind.free && env.scope.kind == .function && env.kindOf n == some .cell) = true
   · rw [if_pos hc, List.lookup_cons]
     cases hx : x == n with
     | true => exact .inl rfl
     | false => rw [hx] at h; exact ih h
   · rw [if_neg hc, List.lookup_cons]
     cases hx : x == n with
     | true => rw [hx] at h; exact .inr h
     | false => rw [hx] at h; exact ih h
structure LcScope (xs ys : List Str) (scope around : Scope) : Prop where
 kind : scope.kind = .function
 nd : (xs ++ ys).Nodup
 own : ∀ x ∈ xs, scope.names.lookup x = some .local
 cap : ∀ y ∈ ys, scope.names.lookup y = some .free /\ (around.names.lookup y = some .cell \/ around.names.lookup y = some .free)
 nocell : ∀ y ∈ scope.names, y.2 ≠ .cell
 names : ∀ y ∈ scope.names, y.2 = .local -> scope.names.lookup y.1 = some .local
 free : ∀ y ∈ scope.names, y.2 = .free -> y.1 ∈ ys
def yM (X : Cx) (xs ys : List Str) (scope : Scope) (C : Addr) (s₀ : Shared) (H₀ : Hp) (fp : List Addr) : Cx where
 prog := X.prog
 w := X.w
 K := X.K
 mg := X.mg
 base := X.base
 A := X.A
 N := xs ++ ys
 s₀ := s₀
 H₀ := H₀
 env := compEnvC scope (xN X.env scope.names []) C X.env
 outer := X.stack
 stack := X.stack
 ex := fp
 fn := fun _ => false
 calm := X.calm
 pn := []
 xe := fun _ _ => False
def kC (xs : List Str) (js : List Nat) (σ : St) : St := xs.map (fun _ => none) ++ js.map fun j => (σ[j]?).join
def LcW (J : It) (n : List Str) (js : List Nat) (g : TG) (tc : Option TT) (te : TE) (σ : St) (H1 : Hp) (Q : VK) : Prop := ∃ W : Nat -> Nat -> List V -> St -> Hp -> Prop, (∃ m, W 0 m [] (kC n js σ) H1) /\ ∀ i m ys σ1 H, W i m ys σ1 H ->
 (J.stop i H /\ ∀ p, H p = none -> Q (.ref p) (upd H p (.lst ys))) \/
 (J.go i H /\ ys.length < sizeLine /\ ∀ x H', J.yld i H x H' -> g x σ1 H' fun σ2 H2 => match tc with
   | none => te σ2 H2 fun y H3 => ∃ m', m' < m /\ W (i + 1) m' (ys ++ [y]) σ2 H3
   | some c => c σ2 H2 fun b H3 => if b = true then te σ2 H3 fun y H4 => ∃ m', m' < m /\ W (i + 1) m' (ys ++ [y]) σ2 H4 else ∃ m', m' < m /\ W (i + 1) m' ys σ2 H3)
def tLC (n : List Str) (js : List Nat) (wi : TI) (g : TG) (tc : Option TT) (te : TE) : TE := fun σ H Q => wi σ H fun J H1 => LcW J n js g tc te σ H1 Q
def PIf (X : Cx) (ifs : List Expr) (tc : Option TT) : Prop := match ifs, tc with
 | [], none => True
 | [c], some t => PT X c t
 | _, _ => False
section
variable {X : Cx} {pins : List (Addr × Obj)} {σ : St} {H : Hp} {s : Shared} {xs ys : List Str} {scope : Scope} {fp : List Addr} {C D : Addr} {js : List Nat}
def Caps (X : Cx) (ys : List Str) (js : List Nat) : Prop := js.length = ys.length /\ ∀ (i : Nat) (y : Str) (j : Nat), ys[i]? = some y -> js[i]? = some j -> X.N[j]? = some y
theorem kJ (I : Inv X pins σ H s) (S : LcScope xs ys scope X.env.scope) : ∀ x ∈ scope.names, x.2 = .free -> ∃ c, X.env.cells.lookup x.1 = some c := fun x hx hf =>
 I.ok.has x.1 ((S.cap x.1 (S.free x hx hf)).2.elim .inl .inr)
theorem clos_look (I : Inv X pins σ H s) (S : LcScope xs ys scope X.env.scope) {y : Str} {c : Addr} (e : (xN X.env scope.names []).lookup y = some c) : X.env.cells.lookup y = some c :=
 jN scope.names [] (kJ I S) (fun _ _ z => nomatch z) e
theorem block_start (I : Inv X pins σ H s) (S : LcScope xs ys scope X.env.scope) (hj : Caps X ys js) (f2 : ∀ b ∈ fp, vM X pins H b) (fo : ∀ b ∈ fp, b < s.heap.objs.size)
   {h₁ : Heap} {m : Str -> Option Value} {tk : Nat} {oD : Obj} (hC : s.heap.objs.size <= C) (hD : s.heap.objs.size <= D) (hDC : D ≠ C) (hn : h₁.Ns C m) (hd : h₁.get? D = some oD) (hdd : ∀ v, oD.data ≠ .cell v)
   (old : ∀ b o, s.heap.get? b = some o -> h₁.get? b = some o) :
   Inv (yM X xs ys scope C s H fp) [(D, oD)] (kC xs js σ) H { s with heap := h₁, toks := tk } := by
 have cl := fun y c => clos_look (y := y) (c := c) I S
 have nC : H C = none := I.hok.fresh hC
 have nD : H D = none := I.hok.fresh hD
 have lt_of : ∀ {b : Addr}, b < s.heap.objs.size -> b ≠ C := fun hb => Nat.ne_of_lt (Nat.lt_of_lt_of_le hb hC)
 have fsub : ∀ b, b ∈ frs X.stack -> b ∈ X.env.locals :: X.fs := I.stkSub
 refine ⟨⟨I.ok.mod, ?_, I.ok.glob, I.ok.blt, hC, fun x y c h1 h2 => I.ok.inj x y c (cl x c h1) (cl y c h2), fun x hx => ?_, (fun x c h => nomatch h), I.ok.hd, I.ok.frames, .inl rfl, fun b hb => ⟨lt_of (fo b hb), fun x c h => (f2 b hb).2.2.2.2.1 x c (cl x c h)⟩, I.bs,
   Nat.le_trans I.ok.bsz I.sz, fun b o e hb => ?_, fun b hb hf => ?_, I.stack, I.stkFree⟩,
   rfl, I.bare, Un.kept old, ⟨m, hn, fun i x v e1 e2 e3 => ?_⟩, fun x c h => ?_, nC, fun x c h => I.freeC x c (cl x c h), fun p hp => ?_, I.hok.kept old, ?_⟩
 · show scope.kind = _
   exact S.kind
 · have hx : (relabel scope X.env).names.lookup x = some .cell \/ (relabel scope X.env).names.lookup x = some .free := hx
   have hm : (x, NameKind.free) ∈ scope.names := by
     rcases hx with hx | hx
     · rcases xY hx with z | z
       · exact absurd rfl (S.nocell _ (PySem.mem_of_lookup z))
       · exact PySem.mem_of_lookup z.1
     · rcases xY hx with z | z
       · exact PySem.mem_of_lookup z
       · exact nomatch z.2
   exact jZ scope.names [] (.inl hm)
 · rcases (f2 b hb).2.2.2.1 with z | z
   · exact I.ok.noex b o e z
   · exact absurd (Nat.lt_of_lt_of_le (Heap.lt_size e) (Nat.le_trans I.ok.bsz z)) (Nat.lt_irrefl _)
 · rcases List.mem_cons.mp (fsub b hf) with z | z
   · exact (f2 b hb).2.1 z
   · exact (f2 b hb).2.2.1 z
 · have e1 : (xs ++ ys)[i]? = some x := e1
   have e2 : (xs.map (fun _ => (none : Option V)) ++ js.map fun j => (σ[j]?).join)[i]? = some (some v) := e2
   by_cases hi : i < xs.length
   · rw [List.getElem?_append_left (by simpa using hi), List.getElem?_map] at e2
     cases q : xs[i]? with
     | none => rw [q] at e2; cases e2
     | some z => rw [q] at e2; cases e2
   · rw [List.getElem?_append_right (by simpa using hi), List.length_map, List.getElem?_map] at e2
     rw [List.getElem?_append_right (by simpa using hi)] at e1
     cases q : js[i - xs.length]? with
     | none => rw [q] at e2; cases e2
     | some j =>
       rw [q] at e2
       have e2' : (σ[j]?).join = some v := Option.some.inj e2
       have hy := hj.2 _ _ _ e1 q
       have hσ : σ[j]? = some (some v) := by
         cases z : σ[j]? with
         | none => rw [z] at e2'; cases e2'
         | some t => rw [z] at e2'; exact congrArg some e2'
       have ym : x ∈ ys := List.mem_of_getElem? e1
       obtain ⟨cf, ca⟩ := S.cap x ym
       obtain ⟨m0, _, hl⟩ := I.loc
       obtain ⟨u, ru, lk⟩ := hl j x v hy hσ (ca.elim (fun z => .inr (.inl z)) fun z => .inr (.inr z))
       refine ⟨u, ru, .inr ⟨?_, ?_⟩⟩
       · exact qL (env := X.env) cf
       · rcases lk with ⟨k, _⟩ | ⟨_, c, ec, zc⟩
         · have k : X.env.scope.names.lookup x = some .local := k
           rcases ca with z | z <;> · rw [k] at z; cases z
         · obtain ⟨c', ec'⟩ := jZ (env := X.env) (y := x) scope.names [] (.inl (PySem.mem_of_lookup cf))
           have e3 := cl x c' ec'
           rw [ec] at e3
           cases e3
           obtain ⟨o, ho, hod⟩ := zc
           exact ⟨_, ec', o, old _ _ ho, hod⟩
 · obtain ⟨v, o, ho, hod⟩ := I.cell x c (cl x c h)
   exact ⟨v, o, old _ _ ho, hod⟩
 · have hp : p ∈ [(D, oD)] := by simpa [yM] using hp
   have e := List.mem_singleton.mp hp
   subst e
   refine ⟨hd, nD, hDC, fun hf => ?_, hdd⟩
   have hf : D ∈ frs X.stack := hf
   obtain ⟨o, ho⟩ : ∃ o, s.heap.get? D = some o := by
     rcases List.mem_cons.mp (fsub D hf) with z | z
     · obtain ⟨m0, ⟨o, _, _, ho, _⟩, _⟩ := I.loc
       have z : D = X.env.locals := z
       exact ⟨o, z ▸ ho⟩
     · exact absurd z (I.nofs hD)
   exact absurd (Heap.lt_size ho) (Nat.not_lt.mpr hD)
 · show (xs.map (fun _ => (none : Option V)) ++ js.map fun j => (σ[j]?).join).length = (xs ++ ys).length
   rw [List.length_append, List.length_append, List.length_map, List.length_map, hj.1]
end
section
variable {X : Cx} {pins : List (Addr × Obj)} {σ : St} {H : Hp} {s : Shared} {xs ys : List Str} {scope : Scope} {js : List Nat} {tg iter elt : Expr} {ifs : List Expr} {pos : Pos} {wi : TI} {g : TG} {tc : Option TT} {te : TE}
theorem vV {α : Type} {M : Model} {A : Around} {t : Sem α} {Q : α -> Shared -> Prop} {E : Value -> Shared -> Prop} {s : Shared} (h : wpAny M A t Q (fun _ _ => False) s) : wpAny M A t Q E s := wpAny_mono h (fun _ _ x => x) fun _ _ z => z.elim
theorem kH {prog : Program} {w : World} {A : Around} {R : Result -> Shared -> Prop} {it acc : Value} {env : Env} (J : Nat -> Shared -> Prop)
   (turn : ∀ n s, J n s -> wpAny (model prog w) A (pyNext it) (fun r s₁ => match r with
     | none => R (.ok .next) s₁
     | some v => wpAny (model prog w) A (letOwnedTupleGo tg it v) (fun _ s₁' => wpAny (model prog w) A (assign tg env v) (fun _ s₂ =>
         wpAny (model prog w) A (forIn ifs true fun c r => if r = true then do let ok ← isTrue c env (eval c env); pure (ForInStep.yield ok) else pure (ForInStep.yield r)) (fun ok s₃ =>
           if ok = true then wpAny (model prog w) A (eval elt env) (fun x s₄ =>
             wpAny (model prog w) A (call (.builtin "list.append") [acc, x]) (fun _ s₅ => ∃ m, m < n /\ J m s₅) (fun _ _ => False) s₄) (fun _ _ => False) s₃
           else ∃ m, m < n /\ J m s₃) (fun _ _ => False) s₂) (fun _ _ => False) s₁') (fun _ _ => False) s₁) (fun _ _ => False) s)
   (n : Nat) (h : J n s) : codeAny (model prog w) A (.compLoop (.ListComp elt [⟨tg, iter, ifs, 0⟩] scope pos) 0 it acc env) R s := by
 refine codeAny_loop rfl J (fun n s hI => ?_) n h
 show wpAny _ A ((compTurn (.ListComp elt [⟨tg, iter, ifs, 0⟩] scope pos) 0 it acc env).onRaise (fun x => do noteFrame x env; theTreesLotGoes x)) _ _ s
 refine wpAny_noted ?_
 rw [compTurn_list]
 refine wpAny_bind (wpAny_standAt (wpAny_bind (vV (thn (turn n s hI) fun r s₁ h₁ => ?_))))
 cases r with
 | none => exact wpAny_pure h₁
 | some v =>
   refine wpAny_bind (vV (thn h₁ fun _ s₁' h₁' => wpAny_bind (vV (thn h₁' fun _ s₂ h₂ => wpAny_bind (vV (thn h₂ fun ok s₃ h₃ => ?_))))))
   cases ok with
   | false => exact wpAny_pure ⟨rfl, h₃⟩
   | true => exact wpAny_bind (wpAny_bind (vV (thn h₃ fun x s₄ h₄ => wpAny_bind (vV (thn h₄ fun _ s₅ h₅ => wpAny_pure (wpAny_pure ⟨rfl, h₅⟩))))))
structure LcEnd (X : Cx) (pins : List (Addr × Obj)) (σ : St) (C : Addr) (H' : Hp) (s' : Shared) : Prop where
 inv : Inv X pins σ H' s'
 ns : ∃ m, s'.heap.Ns C m
 free : H' C = none
 ne : C ≠ X.env.locals
 up : X.s₀.heap.objs.size <= C
 cells : ∀ x c, X.env.cells.lookup x = some c -> c ≠ C
 pin : ∀ p ∈ X.pn ++ pins, p.1 ≠ C
theorem LcEnd.gone {C : Addr} {H' : Hp} {s' : Shared} (L : LcEnd X pins σ C H' s') {h' : Heap} (hs : Heap.SameBut C s'.heap h') : Inv X pins σ H' { s' with heap := h' } :=
 L.inv.turned (t' := s'.toks) (fun b o hb e => hs.extBut b o hb e) L.free L.ne (.inr L.up) L.cells L.pin
theorem lc_core (hc : X.calm = true) (S : LcScope xs ys scope X.env.scope) (hj : Caps X ys js) (hi : PI X tg iter wi)
   (hg : ∀ C s₀ H₀ fp, PG (yM X xs ys scope C s₀ H₀ fp) tg g) (hif : ∀ C s₀ H₀ fp, PIf (yM X xs ys scope C s₀ H₀ fp) ifs tc) (he : ∀ C s₀ H₀ fp, PE (yM X xs ys scope C s₀ H₀ fp) elt te)
   {RR : Value -> Addr -> Result -> Shared -> Prop} {Q : VK} (I : Inv X pins σ H s) (h : tLC xs js wi g tc te σ H Q)
   (fin : ∀ D C H' s', LcEnd X pins σ C H' s' -> Q (.ref D) H' -> RR (.ref D) C (.ok .next) s') :
   wpAny (model X.prog X.w) X.A (eval iter X.env) (fun x s₁ => wpAny (model X.prog X.w) X.A (pyIter x) (fun it s₂ => wpAny (model X.prog X.w) X.A (newList []) (fun acc s₃ =>
     wpAny (model X.prog X.w) X.A (newFunctionEnv scope X.env.globals (xN X.env scope.names []) [] X.env.qual none .none (some X.env)) (fun cenv s₄ =>
       codeAny (model X.prog X.w) X.A (.compStart (.ListComp elt [⟨tg, iter, ifs, 0⟩] scope pos) 0 it acc { cenv with scope := relabel scope X.env }) (RR acc cenv.locals) s₄) X.xe s₃) X.xe s₂) X.xe s₁) X.xe s := by
 refine thn (hi pins s σ H _ I h) fun v s1 h1 => thn h1 fun itv s2 h2 => ?_
 obtain ⟨it, fp, tn, J, H2, e, I2, T, st2, f2, W, ⟨m0, w0⟩, turn⟩ := h2
 subst e
 have fo : ∀ b ∈ fp, b < s2.heap.objs.size := fun b hb => let ⟨o, e, _⟩ := T.obj _ _ st2 b hb; Heap.lt_size e
 refine wpAny_newObj_type (wpAny_newFunctionEnv S.nocell (by intro y hy; simp at hy) (fun h₁ hns₁ hsb₁ => ?_) S.kind)
 dsimp only at hns₁ hsb₁ ⊢
 generalize hH2 : s2.heap.push { cls := .type "list", dict := none, data := .seq ([] : List Value).toArray } = G at hns₁ hsb₁ ⊢
 have hC : G.objs.size = s2.heap.objs.size + 1 := by rw [← hH2, Heap.size_push]
 have hDC : s2.heap.objs.size ≠ G.objs.size := by rw [hC]; exact Nat.ne_of_lt (Nat.lt_succ_self _)
 have hCle : s2.heap.objs.size <= G.objs.size := by rw [hC]; exact Nat.le_succ _
 have below : ∀ b, b < s2.heap.objs.size -> b ≠ G.objs.size /\ b ≠ s2.heap.objs.size := fun b hb => ⟨by rw [hC]; exact Nat.ne_of_lt (Nat.lt_succ_of_lt hb), Nat.ne_of_lt hb⟩
 have old : ∀ b o, s2.heap.get? b = some o -> h₁.get? b = some o := fun b o e => hsb₁.extBut b o (below b (Heap.lt_size e)).1 (Heap.get?_push_of_some _ (hH2 ▸ Heap.get?_push_of_some _ e))
 have hacc : h₁.get? s2.heap.objs.size = some (LCg.lst []) := hsb₁.extBut _ _ hDC (Heap.get?_push_of_some _ (hH2 ▸ Heap.get?_push_size _ rfl))
 have st₁ : tn 0 h₁ := T.keep _ _ _ st2 fun b _ o e => old b o e
 have I3 := block_start (C := G.objs.size) (D := s2.heap.objs.size) (tk := s2.toks + ([] : List (Str × Value)).length) I2 S hj f2 fo hCle (Nat.le_refl _) hDC hns₁ hacc (by intro v hv; cases hv) old
 generalize hX : yM X xs ys scope G.objs.size s2 H2 fp = B at I3
 have pB : B.prog = X.prog := by rw [← hX]; rfl
 have wB : B.w = X.w := by rw [← hX]; rfl
 have kB : B.K = X.K := by rw [← hX]; rfl
 have aB : B.A = X.A := by rw [← hX]; rfl
 have eB : B.env = compEnvC scope (xN X.env scope.names []) G.objs.size X.env := by rw [← hX]; rfl
 have cB : B.calm = true := by rw [← hX]; exact hc
 have xB : B.xe = fun _ _ => False := by rw [← hX]; rfl
 have gB : PG B tg g := by rw [← hX]; exact hg _ _ _ _
 have iB : PIf B ifs tc := by rw [← hX]; exact hif _ _ _ _
 have elB : PE B elt te := by rw [← hX]; exact he _ _ _ _
 have sB : B.s₀ = s2 := by rw [← hX]; rfl
 have hB : B.H₀ = H2 := by rw [← hX]; rfl
 have fB : B.fs = frs X.stack := by rw [← hX]; rfl
 have exB : B.ex = fp := by rw [← hX]; rfl
 have pnB : B.pn = [] := by rw [← hX]; rfl
 have statB : ∀ {H' : Hp} {oD : Obj} {σ' : St} {s' : Shared}, Inv B [(s2.heap.objs.size, oD)] σ' H' s' -> (∀ b ∈ fp, H' b = none) -> ∀ b ∈ fp, vM B [(s2.heap.objs.size, oD)] H' b := fun {H' oD σ' s'} I' hn b hb =>
   ⟨hn b hb, (I'.ok.exf b (exB ▸ hb)).1, I'.ok.exfs b (exB ▸ hb), .inl (exB ▸ hb), (I'.ok.exf b (exB ▸ hb)).2, fun p hp => by
     rw [pnB] at hp
     have e := List.mem_singleton.mp (show p ∈ [(s2.heap.objs.size, oD)] from hp)
     subst e
     exact Nat.ne_of_gt (fo b hb)⟩
 have loop : ∀ s₃ : Shared, s₃ = { s2 with heap := h₁, toks := s2.toks + ([] : List (Str × Value)).length } ->
     codeAny (model X.prog X.w) X.A (.compLoop (.ListComp elt [⟨tg, iter, ifs, 0⟩] scope pos) 0 (.ref it) (.ref s2.heap.objs.size) (compEnvC scope (xN X.env scope.names []) G.objs.size X.env)) (RR (.ref s2.heap.objs.size) G.objs.size) s₃ := by
   rintro s₃ rfl
   refine kH (fun n s' => ∃ i ys its σ1 H', Inv B [(s2.heap.objs.size, LCg.lst its)] σ1 H' s' /\ Vals ys its /\ tn i s'.heap /\ (∀ b ∈ fp, H' b = none) /\ ys.length <= sizeLine /\ W i n ys σ1 H') ?_ m0
     ⟨0, [], [], _, H2, I3, .nil, st₁, fun b hb => (f2 b hb).1, Nat.zero_le _, w0⟩
   rintro n s' ⟨i, ys', its, σ1, H', I', rv, st', fr', hz, w'⟩
   have rl := rv.length
   rcases turn i n ys' σ1 H' w' with ⟨stop, qn⟩ | ⟨go, hz', step⟩
   · have q := T.done B pB wB kB cB i _ s' σ1 H' (fun _ _ => False) I' (statB I' fr') st' stop
     rw [aB] at q
     refine thn q fun r s4 ⟨hr, I4⟩ => ?_
     subst hr
     have pD := (I4.pin (s2.heap.objs.size, LCg.lst its) (List.mem_append_right _ List.mem_cons_self))
     have hDn : H' s2.heap.objs.size = none := pD.2.1
     have ub := I4.base
     rw [fB, exB, hB, sB] at ub
     have neD : ∀ {b : Addr} {o : HO}, H' b = some o -> b ≠ s2.heap.objs.size := fun e z => by rw [z, hDn] at e; cases e
     have upk : ∀ {b : Addr} {o : HO}, H' b = some o -> upd H' s2.heap.objs.size (.lst ys') b = some o := fun e => by rw [zG (neD e)]; exact e
     have u : Un (frs X.stack) fp H2 (upd H' s2.heap.objs.size (.lst ys')) s2.heap s4.heap :=
       ⟨ub.keep, ub.slot, fun b o e n hx => by rw [zG (below b (Heap.lt_size e)).2]; exact ub.free b o e n hx, ub.there, fun b zs e => upk (ub.tups b zs e), fun b o zs e => upk (ub.frzs b o zs e), fun b ps e => let ⟨more, q⟩ := ub.tbls b ps e; ⟨more, upk q⟩⟩
     have hok4 : HOk X.prog X.w H' s4.heap := by have := I4.hok; rw [pB, wB] at this; exact this
     have hok : HOk X.prog X.w (upd H' s2.heap.objs.size (.lst ys')) s4.heap := fun b o e => by
       by_cases hb : b = s2.heap.objs.size
       · subst hb
         rw [zB] at e
         cases e
         exact ⟨hz, its, its.length, rv, pD.1⟩
       · rw [zG hb] at e
         exact (hok4 b o e).stay (fun _ _ _ q => q) (fun _ q => upk q) fun _ _ q => upk q
     have I5 : Inv X pins σ (upd H' s2.heap.objs.size (.lst ys')) s4 := I2.call' (ch := fp) (by rw [I4.os, sB]) u hok I4.bare fun b hb => let f := f2 b hb; ⟨f.2.2.2.1, f.2.1, f.2.2.2.2.1, f.2.2.2.2.2⟩
     refine fin s2.heap.objs.size G.objs.size _ s4 ⟨I5, ?_, ?_, ?_, Nat.le_trans I2.sz hCle, fun x c e z => ?_, fun p hp z => ?_⟩ (qn _ hDn)
     · obtain ⟨m, hn, _⟩ := I4.loc
       rw [eB] at hn
       exact ⟨m, hn⟩
     · have fr := I4.free
       rw [eB] at fr
       rw [zG (Ne.symm hDC)]
       exact fr
     · exact Ne.symm (below _ I2.lt).1
     · obtain ⟨_, o, ho, _⟩ := I2.cell x c e
       exact (below c (Heap.lt_size ho)).1 z
     · exact (below p.1 (Heap.lt_size (I2.pin p hp).1)).1 z
   · have q := T.item B pB wB kB cB i _ s' σ1 H' (fun _ _ => False) I' (statB I' fr') st' go
     rw [aB] at q
     refine thn q fun r s4 ⟨u, hr, h4⟩ => ?_
     subst hr
     refine thn h4 fun _ s5 ⟨x, H5, I5, r5, y5, st5, fr5⟩ => ?_
     have I5' := I5.pinned (statB I5 fr5) (T.obj _ _ st5)
     have q5 := gB _ s5 σ1 H5 x u _ I5' r5 (step x H5 y5)
     rw [pB, wB, aB, eB, xB] at q5
     refine thn q5 fun _ s6 ⟨σ6, H6, I6, q6⟩ => ?_
     have last : ∀ {s7 : Shared} {H7 : Hp}, Inv B ([(s2.heap.objs.size, LCg.lst its)] ++ jG fp s5.heap) σ6 H7 s7 -> (te σ6 H7 fun y H8 => ∃ m', m' < n /\ W (i + 1) m' (ys' ++ [y]) σ6 H8) ->
         wpAny (model X.prog X.w) X.A (eval elt (compEnvC scope (xN X.env scope.names []) G.objs.size X.env)) (fun x s₄ =>
             wpAny (model X.prog X.w) X.A (call (.builtin "list.append") [.ref s2.heap.objs.size, x]) (fun _ s₅ => ∃ m, m < n /\
               ∃ i ys its σ1 H', Inv B [(s2.heap.objs.size, LCg.lst its)] σ1 H' s₅ /\ Vals ys its /\ tn i s₅.heap /\ (∀ b ∈ fp, H' b = none) /\ ys.length <= sizeLine /\ W i m ys σ1 H') (fun _ _ => False) s₄) (fun _ _ => False) s7 := fun {s7 H7} I7 q7 => by
       have q8 := elB _ s7 σ6 H7 _ I7 q7
       rw [pB, wB, aB, eB, xB] at q8
       refine thn q8 fun uy s8 ⟨y, H8, I8, r8, m', hm', w8⟩ => ?_
       have pD := (I8.pin (s2.heap.objs.size, LCg.lst its) (List.mem_append_right _ (List.mem_append_left _ List.mem_cons_self)))
       refine append_at (its := its.toArray) (n := its.length) pD.1 (fun h9 hs9 hd9 => ?_) (by rw [List.size_toArray, ← rl]; exact hz)
       have dropped : Inv B (jG fp s5.heap) σ6 H8 s8 := I8.pins_of fun p hp => I8.pin p (List.mem_append_right _ (List.mem_append_right _ hp))
       have apart : ∀ p ∈ B.pn ++ jG fp s5.heap, p.1 ≠ s2.heap.objs.size := fun p hp => by
         rw [pnB] at hp
         exact Nat.ne_of_lt (fo _ (wD (show p ∈ jG fp s5.heap from hp)).1)
       have I9 : Inv B (jG fp s5.heap) σ6 H8 { s8 with heap := h9 } := dropped.turned (t' := s8.toks) (fun b o hb e => hs9.extBut b o hb e) pD.2.1 pD.2.2.1 (.inr (by rw [sB]; exact Nat.le_refl _)) (fun x c e => by
         intro z
         obtain ⟨v, o, ho, hd⟩ := I8.cell x c e
         rw [z, pD.1] at ho
         cases ho
         cases hd) apart
       have I9' : Inv B [(s2.heap.objs.size, LCg.lst (its ++ [uy]))] σ6 H8 { s8 with heap := h9 } := I9.pins_of fun p hp => by
         have e := List.mem_singleton.mp hp
         subst e
         exact ⟨hd9.trans (congrArg some (LCg.lst_snoc its uy)), pD.2.1, pD.2.2.1, pD.2.2.2.1, by intro v hv; cases hv⟩
       refine ⟨m', hm', i + 1, ys' ++ [y], its ++ [uy], σ6, H8, I9', Vals.append rv (.cons r8 .nil), T.keep _ _ _ st5 fun b hb o e => ?_, fun b hb => ?_, by rw [List.length_append]; exact hz', w8⟩
       · exact (I9.pin (b, o) (List.mem_append_right _ (xP hb e))).1
       · obtain ⟨o, e, d⟩ := T.obj _ _ st5 b hb
         exact (I9.pin (b, o) (List.mem_append_right _ (xP hb e))).2.1
     have again : ∀ {s7 : Shared} {H7 : Hp}, Inv B ([(s2.heap.objs.size, LCg.lst its)] ++ jG fp s5.heap) σ6 H7 s7 -> (∃ m', m' < n /\ W (i + 1) m' ys' σ6 H7) -> ∃ m, m < n /\
         ∃ i ys its σ1 H', Inv B [(s2.heap.objs.size, LCg.lst its)] σ1 H' s7 /\ Vals ys its /\ tn i s7.heap /\ (∀ b ∈ fp, H' b = none) /\ ys.length <= sizeLine /\ W i m ys σ1 H' := fun {s7 H7} I7 ⟨m', hm', w7⟩ => by
       refine ⟨m', hm', i + 1, ys', its, σ6, H7, I7.unpinned, rv, T.keep _ _ _ st5 fun b hb o e => (I7.pin (b, o) (List.mem_append_right _ (List.mem_append_right _ (xP hb e)))).1, fun b hb => ?_, hz, w7⟩
       obtain ⟨o, e, d⟩ := T.obj _ _ st5 b hb
       exact (I7.pin (b, o) (List.mem_append_right _ (List.mem_append_right _ (xP hb e)))).2.1
     match ifs, tc, iB, q6 with
     | [], none, _, q6 =>
       refine wpAny_tests_nil ?_
       rw [if_pos rfl]
       exact last I6 q6
     | [c], some t, iB, q6 =>
       have iB : PT B c t := iB
       have q7 := iB _ s6 σ6 H6 _ I6 q6
       rw [pB, wB, aB, eB, xB] at q7
       refine wpAny_tests_one (thn q7 fun b s7 ⟨H7, I7, q7⟩ => ?_)
       cases b with
       | true => rw [if_pos rfl] at q7 ⊢; exact last I7 q7
       | false => rw [if_neg Bool.false_ne_true] at q7 ⊢; exact again I7 q7
 exact codeAny_compStart_list (loop _ rfl) (T.self _ 0 _ _ _ st₁ (loop _ rfl))
theorem pe_lc (hc : X.calm = true) (S : LcScope xs ys scope X.env.scope) (hj : Caps X ys js) (hi : PI X tg iter wi)
   (hg : ∀ C s₀ H₀ fp, PG (yM X xs ys scope C s₀ H₀ fp) tg g) (hif : ∀ C s₀ H₀ fp, PIf (yM X xs ys scope C s₀ H₀ fp) ifs tc) (he : ∀ C s₀ H₀ fp, PE (yM X xs ys scope C s₀ H₀ fp) elt te)
   (hs : ∀ x, foldedSetIterable iter X.env x = pure x := by intro _; rfl) : PE X (.ListComp elt [⟨tg, iter, ifs, 0⟩] scope pos) (tLC xs js wi g tc te) := by
 intro pins s σ H Q I h
 rw [eval_ListComp]
 refine wpAny_comprehension_free (use := none) rfl hs (qB (kJ I S)) S.kind S.names ?_
 refine lc_core (RR := fun acc C => compPost (model X.prog X.w) X.A X.xe none (EP X pins σ Q) acc C) hc S hj hi hg hif he I h fun D C H' s' L q => ?_
 obtain ⟨m, hn⟩ := L.ns
 exact ⟨m, hn, fun h'' hs'' => ⟨.ref D, H', L.gone hs'', rfl, q⟩⟩
theorem ps_setLC {i : Nat} {x : Str} {p' p : Pos} (hN : X.N.Nodup) (hx : X.N[i]? = some x) (hl : X.env.scope.names.lookup x = some .local) (hc : X.calm = true) (S : LcScope xs ys scope X.env.scope) (hj : Caps X ys js) (hi : PI X tg iter wi)
   (hg : ∀ C s₀ H₀ fp, PG (yM X xs ys scope C s₀ H₀ fp) tg g) (hif : ∀ C s₀ H₀ fp, PIf (yM X xs ys scope C s₀ H₀ fp) ifs tc) (he : ∀ C s₀ H₀ fp, PE (yM X xs ys scope C s₀ H₀ fp) elt te)
   (hsw : swapsWith (.ListComp elt [⟨tg, iter, ifs, 0⟩] scope pos) (some (.Name x p')) p.line X.env = pure true := by rfl)
   (hs : ∀ x, foldedSetIterable iter X.env x = pure x := by intro _; rfl) : PS X (.Assign [.Name x p'] (.ListComp elt [⟨tg, iter, ifs, 0⟩] scope pos) p) (tAsg (tLC xs js wi g tc te) (gName i)) := by
 intro pins s σ H D I h
 rw [exec_Assign_Name_used _ _ _ _ hsw]
 refine wpAny_bind (wpAny_standAt (wpAny_bind ?_))
 show wpAny _ X.A (do let _ ← comprehension (.ListComp elt [⟨tg, iter, ifs, 0⟩] scope pos) scope X.env _ (newList []) false (eval iter X.env) (some (assign (.Name x p') X.env))) _ _ s
 refine wpAny_bind (wpAny_mono (wpAny_comprehension_free (use := some (assign (.Name x p') X.env)) (Q := fun _ s' => SP X pins D .next s') rfl hs (qB (kJ I S)) S.kind S.names ?_) (fun _ s' hq => wpAny_pure (wpAny_pure hq)) fun _ _ e => e)
 refine lc_core (Q := fun v H' => gName i v σ H' D.nx) (RR := fun acc C => compPost (model X.prog X.w) X.A X.xe (some (assign (.Name x p') X.env)) (fun _ s' => SP X pins D .next s') acc C) hc S hj hi hg hif he I h fun A C H' s' L q => ?_
 show wpAny _ X.A (assign (.Name x p') X.env (.ref A)) _ _ _
 refine wpAny_assign_Name (vX (v := .ref A) L.inv hN hx (.inl hl) rfl (fun s'' I'' ⟨a, sb, ha⟩ => ?_) (.inr hl))
 have cne : ∀ {b : Addr}, (b = X.env.locals \/ X.env.cells.lookup x = some b) -> C ≠ b := fun z e => by
   rcases z with z | z
   · exact L.ne (e.trans z)
   · exact L.cells x _ z e.symm
 obtain ⟨m, hn⟩ := L.ns
 refine ⟨m, hn.sameBut sb (cne ha), fun h'' hs'' => ⟨_, _, ?_, q⟩⟩
 exact LcEnd.gone ⟨I'', ⟨m, hn.sameBut sb (cne ha)⟩, L.free, L.ne, L.up, L.cells, L.pin⟩ hs''
end
def Its (x : Str) : It := ⟨fun i _ => i < x.cps.size, fun i H v H' => H' = H /\ ∃ c, x.cps[i]? = some c /\ v = .str ⟨#[c]⟩, fun i _ => x.cps.size <= i⟩
section
variable {X : Cx} {tg : Expr}
def iStr (tl : TE) : TI := fun σ H R => tl σ H fun x H1 => ∃ z, x = .str z /\ R (Its z) H1
end
def rSlS : V -> Option Int -> Option Int -> Hp -> VK -> Prop := fun x lo hi H Q => ∃ z, x = .str z /\ z.length <= sizeLine /\ Q (.str (Txt.slice z lo hi)) H
section
variable {X : Cx}
theorem call_all : jF X (.builtin "all") (fun xs H Q => X.calm = true /\ ∃ (p : Addr) (bs : List Bool), xs = [.ref p] /\ SqL X.K H p (bs.map V.bl) /\ Q (.bl (bs.all id)) H) := by
 intro pins s σ H xs us Q I r h
 obtain ⟨hc, p, bs, rfl, hp, q⟩ := h
 obtain ⟨u, rfl, ru⟩ := qH r
 cases ru
 obtain ⟨its, rv, hl, hz⟩ := I.list hp
 have hlt : p < s.heap.objs.size := by obtain ⟨_, e, _⟩ := hl.isList; exact Heap.lt_size e
 have hlen := rv.length
 rw [List.length_map] at hlen
 refine call_all_walk (wpAny_pyIter_list hl.isList ?_)
 refine ⟨_, _, _, _, _, _, fun i => bs.getD i false, rfl, Walks.list (A := X.A.in1) (I.ok.hd hc) s.heap.objs.size p (Nat.ne_of_lt hlt) its.toArray, ⟨⟨_, Heap.get?_push_size _ rfl, rfl, rfl⟩, hl.isList.push _⟩, fun i v s' Q' E' hv q' => ?_, fun h' tk k => ?_⟩
 · have hv : its[i]? = some v := by simpa using hv
   have hi : i < bs.length := by
     have := (List.getElem?_eq_some_iff.mp hv).1
     omega
   obtain ⟨u', hu', ru'⟩ := rv.get (i := i) (x := .bl bs[i]) (by rw [List.getElem?_map, List.getElem?_eq_getElem hi]; rfl)
   rw [hv] at hu'
   cases hu'
   have e : v = Value.bool bs[i] := ru'
   subst e
   refine wpAny_truthy_bool ?_
   have e2 : bs.getD i false = bs[i] := by rw [List.getD_eq_getElem?_getD, List.getElem?_eq_getElem hi]; rfl
   rw [← e2]
   exact q'
 · refine ⟨.bl (bs.all id), H, ?_, ?_, q⟩
   · exact I.kept (h' := h') (t' := tk) fun b o e => k b o (by intro hm; have := List.mem_singleton.mp hm; exact absurd (this ▸ Heap.lt_size e) (Nat.lt_irrefl _)) (Heap.get?_push_of_some _ e)
   · have e : (List.range its.toArray.size).all (fun i => bs.getD i false) = bs.all id := by
       rw [List.size_toArray, ← hlen]
       rw [Bool.eq_iff_iff, List.all_eq_true, List.all_eq_true]
       constructor
       · intro a b hb
         obtain ⟨i, hi, rfl⟩ := List.getElem_of_mem hb
         have := a i (List.mem_range.mpr hi)
         rw [List.getD_eq_getElem?_getD, List.getElem?_eq_getElem hi] at this
         exact this
       · intro a i hi
         have hi := List.mem_range.mp hi
         rw [List.getD_eq_getElem?_getD, List.getElem?_eq_getElem hi]
         exact a _ (List.getElem_mem hi)
     show Value.bool _ = _
     rw [e]
theorem xF {T : String} : jF X (.builtin "isinstance") (fun xs H Q => ∃ x t b, xs = [x, .ty T] /\ TyOf X.K H x t /\ PySem.W.kitOne X.K t (.type T) = some b /\ Q (.bl b) H) := by
 intro pins s σ H xs us Q I r h
 obtain ⟨x, t, b, rfl, ty, e, q⟩ := h
 obtain ⟨u, w', rfl, ru, rw'⟩ := vals2 r
 cases rw'
 exact isinst_ok I ru ty e fun tk => ⟨.bl b, H, I.tok tk, rfl, q⟩
theorem strsAre_of : ∀ {ys : List Str} {us : List Value}, Vals (ys.map V.str) us -> StrsAre us ys
 | [], us, r => by
   rw [List.map_nil] at r
   cases r
   exact .nil
 | y :: ys, us, r => by
   rw [List.map_cons] at r
   cases r with
   | @cons a b as bs h t =>
     obtain ⟨tk, hb⟩ := (show ∃ tk, b = Value.str y tk from h)
     subst hb
     exact .cons y tk (strsAre_of t)
theorem mt_join : MtR X "str.join" (fun x xs H Q => ∃ (z : Str) (p : Addr) (ys : List Str), x = .str z /\ xs = [.ref p] /\ SqL X.K H p (ys.map V.str) /\ (ys.map (·.length)).sum + ys.length * z.length <= 16777216 /\ Q (.str (Txt.join z ys)) H) := by
 intro pins s σ H x xs v us Q I rx rs h
 obtain ⟨z, p, ys, rfl, rfl, hp, hb, q⟩ := h
 obtain ⟨tz, rfl⟩ := rx
 obtain ⟨u, rfl, ru⟩ := qH rs
 cases ru
 obtain ⟨its, rv, hl, hz⟩ := I.list hp
 exact join_list hl.isList (strsAre_of rv) hb fun t' k => ⟨.str (Txt.join z ys), H, I.tok k, ⟨t', rfl⟩, q⟩
end
structure Has (P : Program) (w : World) (K : PySem.W.Frag) (mg : Str -> Option Value) (base : Heap) (k : Nat) (x : Str) (ps : List Str) (sp : Sp) : Prop where
 ex : ∃ f fd, FnOk P w K mg base CX0 k f fd ps sp /\ Binds K fd ps [] /\ PySem.W.keepIn K (.ref f) = true /\ mg x = some (.ref f)
section
variable {X : Cx} {k : Nat} {x : Str} {ps : List Str} {sp : Sp} {p pos : Pos} {e : Expr} {es : List Expr} {t : TA} {v : V}
theorem zP (h : Has X.prog X.w X.K X.mg X.base k x ps sp) (hr : Room k X.A) (hg : Gl X x) (ha : PA X (e :: es) t) (hdb : (x == ("__debug__" : Str)) = false := by decide)
   (he : starEach (e :: es) X.env = (false, eval e X.env) :: starEach es X.env := by rfl) (hpl : (backTo pos (starEach es X.env)).any (·.1) = false := by rfl) : PE X (.Call (.Name x p) (e :: es) [] pos) (tCall sp [] E0 t) := by
 obtain ⟨f, fd, F, b, kp, m⟩ := h.ex
 exact pe_call F hr hg m kp b .nil pass0 ha hdb he hpl
theorem jQ {T : String} (hm : X.mg x = none) (hv : bootBuiltins x = some (.type T)) (hg : Gl X x) (hn : x ≠ "__name__" := by decide) (hd : (x == ("__debug__" : Str)) = false := by decide) : PE X (.Name x pos) (tC (.ty T)) :=
 pe_bltn hg hm hv rfl hn hd
end
theorem yY {X : Cx} : PIf X [] none := trivial
theorem qO {X : Cx} {c : Expr} {t : TT} (h : PT X c t) : PIf X [c] (some t) := h
def lcOk (xs ys : List Str) (scope around : Scope) : Bool :=
 (scope.kind == .function) && decide (xs ++ ys).Nodup && xs.all (fun x => scope.names.lookup x == some .local) &&
 ys.all (fun y => (scope.names.lookup y == some .free) && ((around.names.lookup y == some .cell) || (around.names.lookup y == some .free))) &&
 scope.names.all (fun y => (y.2 != .cell) && ((y.2 != .local) || (scope.names.lookup y.1 == some .local)) && ((y.2 != .free) || ys.contains y.1))
theorem lcOk.scope {xs ys : List Str} {scope around : Scope} (h : lcOk xs ys scope around = true) : LcScope xs ys scope around := by
 unfold lcOk at h
 simp only [Bool.and_eq_true, beq_iff_eq, decide_eq_true_eq, List.all_eq_true, Bool.or_eq_true, bne_iff_ne, List.contains_iff_mem] at h
 obtain ⟨⟨⟨⟨h1, h2⟩, h3⟩, h4⟩, h5⟩ := h
 exact ⟨h1, h2, h3, h4, fun y hy => (h5 y hy).1.1, fun y hy hl => (h5 y hy).1.2.resolve_left (fun z => z hl), fun y hy hf => (h5 y hy).2.resolve_left (fun z => z hf)⟩
def capOk (N ys : List Str) (js : List Nat) : Bool := (js.length == ys.length) && (ys.zip js).all fun p => N[p.2]? == some p.1
theorem capOk.caps {X : Cx} {ys : List Str} {js : List Nat} (h : capOk X.N ys js = true) : Caps X ys js := by
 unfold capOk at h
 simp only [Bool.and_eq_true, beq_iff_eq, List.all_eq_true] at h
 refine ⟨h.1, fun i y j hy hj => ?_⟩
 refine h.2 (y, j) (List.mem_of_getElem? (i := i) ?_)
 rw [List.getElem?_zip_eq_some]
 exact ⟨hy, hj⟩
section
variable {X : Cx} {xs ys : List Str} {scope : Scope} {js : List Nat} {tg iter elt : Expr} {ifs : List Expr} {pos : Pos} {wi : TI} {g : TG} {tc : Option TT} {te : TE}
theorem yW (xs ys : List Str) (js : List Nat) (hi : PI X tg iter wi)
   (hg : ∀ C s₀ H₀ fp, (xs ++ ys).Nodup -> PG (yM X xs ys scope C s₀ H₀ fp) tg g) (hif : ∀ C s₀ H₀ fp, PIf (yM X xs ys scope C s₀ H₀ fp) ifs tc) (he : ∀ C s₀ H₀ fp, PE (yM X xs ys scope C s₀ H₀ fp) elt te)
   (hc : X.calm = true := by rfl) (S : lcOk xs ys scope X.env.scope = true := by rfl) (hj : capOk X.N ys js = true := by rfl)
   (hs : ∀ x, foldedSetIterable iter X.env x = pure x := by intro _; rfl) : PE X (.ListComp elt [⟨tg, iter, ifs, 0⟩] scope pos) (tLC xs js wi g tc te) :=
 pe_lc hc (lcOk.scope S) (capOk.caps hj) hi (fun C s₀ H₀ fp => hg C s₀ H₀ fp (lcOk.scope S).nd) hif he hs
theorem uI {i : Nat} {x : Str} {p' p : Pos} (xs ys : List Str) (js : List Nat) (hN : X.N.Nodup) (hx : X.N[i]? = some x) (hi : PI X tg iter wi)
   (hg : ∀ C s₀ H₀ fp, (xs ++ ys).Nodup -> PG (yM X xs ys scope C s₀ H₀ fp) tg g) (hif : ∀ C s₀ H₀ fp, PIf (yM X xs ys scope C s₀ H₀ fp) ifs tc) (he : ∀ C s₀ H₀ fp, PE (yM X xs ys scope C s₀ H₀ fp) elt te)
   (hl : X.env.scope.names.lookup x = some .local := by rfl) (hc : X.calm = true := by rfl) (S : lcOk xs ys scope X.env.scope = true := by rfl) (hj : capOk X.N ys js = true := by rfl)
   (hsw : swapsWith (.ListComp elt [⟨tg, iter, ifs, 0⟩] scope pos) (some (.Name x p')) p.line X.env = pure true := by rfl)
   (hs : ∀ x, foldedSetIterable iter X.env x = pure x := by intro _; rfl) : PS X (.Assign [.Name x p'] (.ListComp elt [⟨tg, iter, ifs, 0⟩] scope pos) p) (tAsg (tLC xs js wi g tc te) (gName i)) :=
 ps_setLC hN hx hl hc (lcOk.scope S) (capOk.caps hj) hi (fun C s₀ H₀ fp => hg C s₀ H₀ fp (lcOk.scope S).nd) hif he hsw hs
end
theorem bt_len : bootBuiltins "len" = some (.builtin "len") := by decide +kernel
theorem bt_isinstance : bootBuiltins "isinstance" = some (.builtin "isinstance") := by decide +kernel
theorem bt_max : bootBuiltins "max" = some (.builtin "max") := by decide +kernel
theorem bt_all : bootBuiltins "all" = some (.builtin "all") := by decide +kernel
theorem bt_sorted : bootBuiltins "sorted" = some (.builtin "sorted") := by decide +kernel
theorem bt_tuple : bootBuiltins "tuple" = some (.type "tuple") := by decide +kernel
theorem bt_list : bootBuiltins "list" = some (.type "list") := by decide +kernel
theorem bt_int : bootBuiltins "int" = some (.type "int") := by decide +kernel
theorem bt_bool : bootBuiltins "bool" = some (.type "bool") := by decide +kernel
theorem bt_str : bootBuiltins "str" = some (.type "str") := by decide +kernel
theorem bt_dict : bootBuiltins "dict" = some (.type "dict") := by decide +kernel
theorem cx_K {CX : CXT} {P : Program} {w : World} {K : PySem.W.Frag} {mg : Str -> Option Value} {base : Heap} {N : List Str} {qual : Str} {scope : Scope} {f : Addr} {cd : Value} {A : Around} {outer : List Env} {s : Shared} {H : Hp} {E : XK} : (vS CX P w K mg base N qual scope f cd A outer s H E).K = K := rfl
theorem cx_calm {CX : CXT} {P : Program} {w : World} {K : PySem.W.Frag} {mg : Str -> Option Value} {base : Heap} {N : List Str} {qual : Str} {scope : Scope} {f : Addr} {cd : Value} {A : Around} {outer : List Env} {s : Shared} {H : Hp} {E : XK} : (vS CX P w K mg base N qual scope f cd A outer s H E).calm = true := rfl
theorem bk_calm {X : Cx} {xs ys : List Str} {scope : Scope} {C : Addr} {s₀ : Shared} {H₀ : Hp} {fp : List Addr} : (yM X xs ys scope C s₀ H₀ fp).calm = X.calm := rfl
theorem lenV_str {K : PySem.W.Frag} {y : Str} {H : Hp} {n : Nat} : LenV K (.str y) H n ↔ (y.length <= sizeLine /\ n = y.length) := Iff.rfl
theorem bk_K {X : Cx} {xs ys : List Str} {scope : Scope} {C : Addr} {s₀ : Shared} {H₀ : Hp} {fp : List Addr} : (yM X xs ys scope C s₀ H₀ fp).K = X.K := rfl
theorem lc_by {J : It} {n : Nat} {ns : List Str} {js : List Nat} {g : TG} {te : TE} {σ : St} {H : Hp} {Q : VK} (Pv : Nat -> List V -> St -> Hp -> Prop) (h0 : Pv 0 [] (kC ns js σ) H) (hn : n <= sizeLine) (hl : ∀ i ys σ H, Pv i ys σ H -> ys.length <= i)
   (hgo : ∀ i ys σ H, i < n -> Pv i ys σ H -> J.go i H) (hst : ∀ ys σ H, Pv n ys σ H -> J.stop n H)
   (hs : ∀ i ys σ H x H' (C : V -> St -> Hp -> Prop), i < n -> Pv i ys σ H -> J.yld i H x H' -> (∀ y σ2 H3, Pv (i + 1) (ys ++ [y]) σ2 H3 -> C y σ2 H3) -> g x σ H' fun σ2 H2 => te σ2 H2 fun y H3 => C y σ2 H3)
   (hd : ∀ ys σ H, Pv n ys σ H -> ∀ p, H p = none -> Q (.ref p) (upd H p (.lst ys))) :
   LcW J ns js g none te σ H Q := by
 refine ⟨fun i m ys σ H => i + m = n /\ Pv i ys σ H, ⟨n, by omega, h0⟩, fun i m ys σ H ⟨e, w⟩ => ?_⟩
 by_cases hi : i < n
 · refine .inr ⟨hgo i ys σ H hi w, Nat.lt_of_le_of_lt (hl _ _ _ _ w) (by omega), fun x H' hy => ?_⟩
   exact hs i ys σ H x H' (fun y σ2 H3 => ∃ m', m' < m /\ i + 1 + m' = n /\ Pv (i + 1) (ys ++ [y]) σ2 H3) hi w hy fun y σ2 H3 q => ⟨m - 1, by omega, by omega, q⟩
 · have : i = n := by omega
   subst this
   exact .inl ⟨hst ys σ H w, hd ys σ H w⟩
theorem qR {lo : Int} {n : Nat} {ns : List Str} {js : List Nat} {g : TG} {te : TE} {σ : St} {H : Hp} {Q : VK} (Pv : Nat -> List V -> St -> Hp -> Prop) (h0 : Pv 0 [] (kC ns js σ) H) (hz : n <= sizeLine) (hl : ∀ i ys σ H, Pv i ys σ H -> ys.length <= i)
   (hs : ∀ (i : Nat) ys σ H (C : V -> St -> Hp -> Prop), i < n -> Pv i ys σ H -> (∀ y σ2 H3, Pv (i + 1) (ys ++ [y]) σ2 H3 -> C y σ2 H3) -> g (.int (lo + i)) σ H fun σ2 H2 => te σ2 H2 fun y H3 => C y σ2 H3)
   (hd : ∀ ys σ H, Pv n ys σ H -> ∀ p, H p = none -> Q (.ref p) (upd H p (.lst ys))) :
   LcW (Itr lo n) ns js g none te σ H Q :=
 lc_by (n := n) Pv h0 hz hl (fun _ _ _ _ h _ => h) (fun _ _ _ _ => Nat.le_refl _) (fun i ys σ H x H' C hi w ⟨e, hx⟩ hC => by subst e; subst hx; exact hs i ys σ _ C hi w hC) hd
theorem lc_tup {K : PySem.W.Frag} {a : Addr} {xs : List V} {ns : List Str} {js : List Nat} {g : TG} {te : TE} {σ : St} {H : Hp} {Q : VK} (Pv : Nat -> List V -> St -> Hp -> Prop) (h0 : Pv 0 [] (kC ns js σ) H) (hz : xs.length <= sizeLine) (hl : ∀ i ys σ H, Pv i ys σ H -> ys.length <= i)
   (hK : ∀ i ys σ H, Pv i ys σ H -> SqT K H a xs)
   (hs : ∀ (i : Nat) x ys σ H (C : V -> St -> Hp -> Prop), xs[i]? = some x -> Pv i ys σ H -> (∀ y σ2 H3, Pv (i + 1) (ys ++ [y]) σ2 H3 -> C y σ2 H3) -> g x σ H fun σ2 H2 => te σ2 H2 fun y H3 => C y σ2 H3)
   (hd : ∀ ys σ H, Pv xs.length ys σ H -> ∀ p, H p = none -> Q (.ref p) (upd H p (.lst ys))) :
   LcW (Itt K a) ns js g none te σ H Q :=
 lc_by (n := xs.length) Pv h0 hz hl (fun i ys σ H hi w => ⟨xs, xs[i], hK i ys σ H w, List.getElem?_eq_getElem hi⟩) (fun ys σ H w => ⟨xs, hK _ ys σ H w, Nat.le_refl _⟩)
   (fun i ys σ H x H' C hi w ⟨e, hx⟩ hC => by subst e; exact hs i x ys σ _ C (hx xs (hK i ys σ _ w)) w hC) hd
theorem xU {K : PySem.W.Frag} {a : Addr} {xs : List V} {ns : List Str} {js : List Nat} {g : TG} {te : TE} {σ : St} {H : Hp} {Q : VK} (Pv : Nat -> List V -> St -> Hp -> Prop) (h0 : Pv 0 [] (kC ns js σ) H) (hz : xs.length <= sizeLine) (hl : ∀ i ys σ H, Pv i ys σ H -> ys.length <= i)
   (hK : ∀ i ys σ H, Pv i ys σ H -> SqL K H a xs)
   (hs : ∀ (i : Nat) x ys σ H (C : V -> St -> Hp -> Prop), xs[i]? = some x -> Pv i ys σ H -> (∀ y σ2 H3, Pv (i + 1) (ys ++ [y]) σ2 H3 -> C y σ2 H3) -> g x σ H fun σ2 H2 => te σ2 H2 fun y H3 => C y σ2 H3)
   (hd : ∀ ys σ H, Pv xs.length ys σ H -> ∀ p, H p = none -> Q (.ref p) (upd H p (.lst ys))) :
   LcW (Itl K a) ns js g none te σ H Q :=
 lc_by (n := xs.length) Pv h0 hz hl (fun i ys σ H hi w => ⟨xs, xs[i], hK i ys σ H w, List.getElem?_eq_getElem hi⟩) (fun ys σ H w => ⟨xs, hK _ ys σ H w, Nat.le_refl _⟩)
   (fun i ys σ H x H' C hi w ⟨e, hx⟩ hC => by subst e; exact hs i x ys σ _ C (hx xs (hK i ys σ _ w)) w hC) hd
def ForW (J : It) (g : TG) (tb : TS) (D : Ends) (σ : St) (H : Hp) : Prop := ∃ W : Nat -> Nat -> St -> Hp -> Prop, (∃ m, W 0 m σ H) /\ ∀ i m σ H, W i m σ H ->
 (J.stop i H /\ D.nx σ H) \/ (J.go i H /\ ∃ N : St -> Hp -> Prop, (∀ σ' H', N σ' H' -> ∃ m', m' < m /\ W (i + 1) m' σ' H') /\ ∀ x H', J.yld i H x H' -> g x σ H' fun σ2 H2 => tb { D with nx := N, ct := N, bk := D.nx } σ2 H2)
theorem tFor_eq {wi : TI} {g : TG} {tb : TS} {D : Ends} {σ : St} {H : Hp} : tFor wi g tb D σ H = wi σ H fun J H1 => ForW J g tb D σ H1 := rfl
theorem tLC_eq {n : List Str} {js : List Nat} {wi : TI} {g : TG} {tc : Option TT} {te : TE} {σ : St} {H : Hp} {Q : VK} : tLC n js wi g tc te σ H Q = wi σ H fun J H1 => LcW J n js g tc te σ H1 Q := rfl
theorem xG {K : PySem.W.Frag} {a : Addr} {xs : List V} {g : TG} {tb : TS} {D : Ends} {σ : St} {H : Hp} (Pv : Nat -> St -> Hp -> Prop) (h0 : Pv 0 σ H) (hl : ∀ i σ H, i <= xs.length -> Pv i σ H -> SqL K H a xs)
   (hs : ∀ i x σ H, xs[i]? = some x -> Pv i σ H -> g x σ H fun σ2 H2 => tb { D with nx := Pv (i + 1), ct := Pv (i + 1), bk := D.nx } σ2 H2) (hd : ∀ σ H, Pv xs.length σ H -> D.nx σ H) : ForW (Itl K a) g tb D σ H := for_list Pv h0 hl hs hd
theorem xE {lo : Int} {n : Nat} {g : TG} {tb : TS} {D : Ends} {σ : St} {H : Hp} (Pv : Nat -> St -> Hp -> Prop) (h0 : Pv 0 σ H)
   (hs : ∀ i σ H, i < n -> Pv i σ H -> g (.int (lo + i)) σ H fun σ2 H2 => tb { D with nx := Pv (i + 1), ct := Pv (i + 1), bk := D.nx } σ2 H2) (hd : ∀ σ H, Pv n σ H -> D.nx σ H) : ForW (Itr lo n) g tb D σ H := for_range Pv h0 hs hd
theorem zI {t u : TS} {D : Ends} {σ : St} {H : Hp} (h : ∀ N : St -> Hp -> Prop, (∀ σ H, u D σ H -> N σ H) -> t { D with nx := N } σ H) : tSeq t u D σ H := h (u D) fun _ _ z => z
theorem if_abs {c : TT} {t u : TS} {D : Ends} {σ : St} {H : Hp} (h : ∀ T U : Hp -> Prop, (∀ H1, t D σ H1 -> T H1) -> (∀ H1, u D σ H1 -> U H1) -> c σ H fun b H1 => if b = true then T H1 else U H1) : tIfS c t u D σ H := h (t D σ) (u D σ) (fun _ z => z) fun _ z => z
theorem zW {t u : TS} {D : Ends} {σ : St} {H : Hp} (J : St -> Hp -> Prop) (h1 : ∀ N : St -> Hp -> Prop, (∀ σ H, J σ H -> N σ H) -> t { D with nx := N } σ H) (h2 : ∀ σ H, J σ H -> u D σ H) : tSeq t u D σ H := h1 (u D) h2
structure Bi (mg : Str -> Option Value) : Prop where
 len : mg "len" = none
 range : mg "range" = none
 isinstance : mg "isinstance" = none
 max : mg "max" = none
 sum : mg "sum" = none
 all : mg "all" = none
 tuple : mg "tuple" = none
 list : mg "list" = none
 sorted : mg "sorted" = none
 set : mg "set" = none
 int : mg "int" = none
 bool : mg "bool" = none
 str : mg "str" = none
 dict : mg "dict" = none
theorem yN {P : Program} {w : World} {K : PySem.W.Frag} {mg : Str -> Option Value} {base : Heap} {k : Nat} {x : Str} {ps : List Str} {sp : Sp} {st : Stmt} {f : Addr} {fd : FuncData} (F : Fun K x x st f fd) (ok : FnOk P w K mg base CX0 k f fd ps sp) (b : Binds K fd ps [])
   (m : mg x = some (.ref f)) : Has P w K mg base k x ps sp := ⟨f, fd, ok, b, F.kp, m⟩
inductive Dt where
 | non | bl (b : Bool) | int (i : Int) | str (x : Str) | tup (ds : List Dt) | lst (ds : List Dt)
mutual
def DAt (H : Hp) : Dt -> V -> Prop
 | .non, v => v = .non
 | .bl b, v => v = .bl b
 | .int i, v => v = .int i
 | .str x, v => v = .str x
 | .tup ds, v => ∃ a vs, v = .ref a /\ H a = some (.tup vs) /\ DAts H ds vs
 | .lst ds, v => ∃ a vs, v = .ref a /\ H a = some (.lst vs) /\ DAts H ds vs
def DAts (H : Hp) : List Dt -> List V -> Prop
 | [], vs => vs = []
 | d :: ds, vs => ∃ v r, vs = v :: r /\ DAt H d v /\ DAts H ds r
end
mutual
theorem DAt.same {H H' : Hp} (e : Same H H') : ∀ {d : Dt} {v : V}, DAt H d v -> DAt H' d v
 | .non, _, h => h
 | .bl _, _, h => h
 | .int _, _, h => h
 | .str _, _, h => h
 | .tup ds, v, h => by
   obtain ⟨a, vs, e1, e2, e3⟩ := h
   exact ⟨a, vs, e1, e _ _ e2, DAts.same e e3⟩
 | .lst ds, v, h => by
   obtain ⟨a, vs, e1, e2, e3⟩ := h
   exact ⟨a, vs, e1, e _ _ e2, DAts.same e e3⟩
theorem DAts.same {H H' : Hp} (e : Same H H') : ∀ {ds : List Dt} {vs : List V}, DAts H ds vs -> DAts H' ds vs
 | [], _, h => h
 | d :: ds, vs, h => by
   obtain ⟨v, r, e1, e2, e3⟩ := h
   exact ⟨v, r, e1, DAt.same e e2, DAts.same e e3⟩
end
theorem DAts.length {H : Hp} : ∀ {ds : List Dt} {vs : List V}, DAts H ds vs -> vs.length = ds.length
 | [], vs, h => by
   have h : vs = [] := h
   rw [h]
   rfl
 | d :: ds, vs, h => by
   obtain ⟨v, r, e1, e2, e3⟩ := h
   rw [e1, List.length_cons, List.length_cons, DAts.length e3]
theorem DAts.get {H : Hp} : ∀ {ds : List Dt} {vs : List V} {i : Nat} {d : Dt}, DAts H ds vs -> ds[i]? = some d -> ∃ v, vs[i]? = some v /\ DAt H d v
 | [], vs, i, d, _, e => by simp at e
 | d :: ds, vs, 0, d', h, e => by
   obtain ⟨v, r, e1, e2, e3⟩ := h
   simp at e
   subst e; subst e1
   exact ⟨v, rfl, e2⟩
 | d :: ds, vs, i + 1, d', h, e => by
   obtain ⟨v, r, e1, e2, e3⟩ := h
   subst e1
   simp at e
   obtain ⟨u, h1, h2⟩ := DAts.get e3 e
   exact ⟨u, by simpa using h1, h2⟩
theorem DAts.append {H : Hp} : ∀ {ds es : List Dt} {vs us : List V}, DAts H ds vs -> DAts H es us -> DAts H (ds ++ es) (vs ++ us)
 | [], es, vs, us, h, h' => by
   have h : vs = [] := h
   subst h
   exact h'
 | d :: ds, es, vs, us, h, h' => by
   obtain ⟨v, r, e1, e2, e3⟩ := h
   subst e1
   exact ⟨v, r ++ us, rfl, e2, DAts.append e3 h'⟩
theorem DAts.one {H : Hp} {d : Dt} {v : V} (h : DAt H d v) : DAts H [d] [v] := ⟨v, [], rfl, h, rfl⟩
def DFit : Nat -> Dt -> Prop
 | n + 1, .tup ds => ds.length <= 1000 /\ ∀ d ∈ ds, DFit n d
 | n + 1, .lst ds => ds.length <= 1000 /\ ∀ d ∈ ds, DFit n d
 | 0, .tup _ => False
 | 0, .lst _ => False
 | _, _ => True
inductive Tm where
 | name (x : Str)
 | node (w : Str) (ts : List Tm)
mutual
def toD : Tm -> Dt
 | .name x => .tup [.str "name", .str x]
 | .node w ts => .tup (.str w :: toDs ts)
def toDs : List Tm -> List Dt
 | [] => []
 | t :: ts => toD t :: toDs ts
end
theorem toDs_map : ∀ ts : List Tm, toDs ts = ts.map toD
 | [] => rfl
 | t :: ts => by rw [toDs, toDs_map ts, List.map_cons]
theorem toD_node (w : Str) (ts : List Tm) : toD (.node w ts) = .tup (.str w :: ts.map toD) := by rw [toD, toDs_map]
abbrev TAt (H : Hp) (t : Tm) (v : V) : Prop := DAt H (toD t) v
abbrev TAts (H : Hp) (ts : List Tm) (vs : List V) : Prop := DAts H (ts.map toD) vs
theorem TAt.name {H : Hp} {x : Str} {v : V} (h : TAt H (.name x) v) : ∃ a, v = .ref a /\ H a = some (.tup [.str "name", .str x]) := by
 obtain ⟨a, vs, e1, e2, u, r, e3, e4, e5⟩ := h
 obtain ⟨u2, r2, e6, e7, e8⟩ := e5
 have e4 : u = .str "name" := e4
 have e7 : u2 = .str x := e7
 have e8 : r2 = [] := e8
 subst e3; subst e4; subst e6; subst e7; subst e8
 exact ⟨a, e1, e2⟩
theorem TAt.mkName {H : Hp} {x : Str} {a : Addr} (h : H a = some (.tup [.str "name", .str x])) : TAt H (.name x) (.ref a) :=
 ⟨a, _, rfl, h, _, _, rfl, rfl, _, _, rfl, rfl, rfl⟩
theorem TAt.node {H : Hp} {w : Str} {ts : List Tm} {v : V} (h : TAt H (.node w ts) v) : ∃ a vs, v = .ref a /\ H a = some (.tup (.str w :: vs)) /\ TAts H ts vs := by
 unfold TAt at h
 rw [toD_node] at h
 obtain ⟨a, vs, e1, e2, u, r, e3, e4, e5⟩ := h
 have e4 : u = .str w := e4
 subst e3; subst e4
 exact ⟨a, r, e1, e2, e5⟩
theorem TAt.mkNode {H : Hp} {w : Str} {ts : List Tm} {a : Addr} {vs : List V} (h : H a = some (.tup (.str w :: vs))) (hs : TAts H ts vs) : TAt H (.node w ts) (.ref a) := by
 unfold TAt
 rw [toD_node]
 exact ⟨a, _, rfl, h, _, _, rfl, rfl, hs⟩
structure Nm (x : Str) : Prop where
 pos : 1 <= x.length
 most : x.length <= 8
 low : ∀ c ∈ x.cps.toList, 97 <= c /\ c <= 122
 nn : x ≠ "none"
 na : x ≠ "all"
theorem zD {H : Hp} {p : Addr} (h : H p = none) (o : HO) : Same H (upd H p o) := fun b u q => by rw [zG (xD q h)]; exact q
theorem str_ext {x y : Str} (h : x.cps = y.cps) : x = y := by
 cases x; cases y; cases h; rfl
theorem len_app (p q : Str) : (p ++ q).length = p.length + q.length := by
 show (p.cps ++ q.cps).size = p.cps.size + q.cps.size
 rw [Array.size_append]
theorem cps_app (p q : Str) : (p ++ q).cps.toList = p.cps.toList ++ q.cps.toList := by
 show (p.cps ++ q.cps).toList = _
 rw [Array.toList_append]
theorem zM {n : Nat} (h : n <= 1000) : n <= sizeLine := Nat.le_of_lt (xO h)
theorem TAts.length {H : Hp} {ts : List Tm} {vs : List V} (h : TAts H ts vs) : vs.length = ts.length := by
 have := DAts.length h
 rw [List.length_map] at this
 exact this
def TupSame (H H' : Hp) : Prop := ∀ b xs, H b = some (.tup xs) -> H' b = some (.tup xs)
theorem TupSame.refl (H : Hp) : TupSame H H := fun _ _ h => h
theorem TupSame.trans {H H1 H2 : Hp} (a : TupSame H H1) (b : TupSame H1 H2) : TupSame H H2 := fun c o h => b c o (a c o h)
theorem Same.tups {H H' : Hp} (e : Same H H') : TupSame H H' := fun b xs h => e b _ h
theorem TupSame.upd_lst {H H' : Hp} {a : Addr} {o : HO} {xs : List V} (e : TupSame H H') (h : H' a = some (.lst xs)) : TupSame H (upd H' a o) := fun b ys hb => by
 rw [zG (xS (e _ _ hb) h (by intro z; cases z))]
 exact e _ _ hb
theorem Same.upd {H H1 : Hp} {a : Addr} {o : HO} (e : Same H H1) (h : H a = none) : Same H (upd H1 a o) := fun b u hb => by
 rw [zG (xD hb h)]
 exact e _ _ hb
mutual
theorem TAt.tups {H H' : Hp} (e : TupSame H H') : ∀ {t : Tm} {v : V}, TAt H t v -> TAt H' t v
 | .name x, v, h => by
   obtain ⟨a, e1, h2⟩ := TAt.name h
   subst e1
   exact TAt.mkName (e _ _ h2)
 | .node w ts, v, h => by
   obtain ⟨a, vs, e1, h2, hs⟩ := TAt.node h
   subst e1
   exact TAt.mkNode (e _ _ h2) (TAts.tups e hs)
theorem TAts.tups {H H' : Hp} (e : TupSame H H') : ∀ {ts : List Tm} {vs : List V}, TAts H ts vs -> TAts H' ts vs
 | [], vs, h => h
 | t :: ts, vs, h => by
   obtain ⟨v, r, e1, e2, e3⟩ := h
   exact ⟨v, r, e1, TAt.tups e e2, TAts.tups e e3⟩
end
structure KD (w : World) (K : PySem.W.Frag) (a : Addr) (kvs : List (Key × V)) : Prop where
 dict : ∀ (P : Program) (h : Heap), K.In h -> ∃ vs, KV kvs vs /\ h.DictOf (yJ P w) a vs
def tKGet (w : World) (K : PySem.W.Frag) (td ty : TE) : TE := fun σ H Q => td σ H fun x H1 => ty σ H1 fun y H2 => ∃ a kvs k v, x = .ref a /\ y = kV k /\ KD w K a kvs /\ yG kvs k = some v /\ Q v H2
def entOk (w : World) : List DictEntry -> List (Str × Str) -> Prop
 | [], r => r = []
 | e :: es, r => ∃ x y t u r', r = (x, y) :: r' /\ e.hash = hashStr w x /\ e.key = .str x t /\ e.val = .str y u /\ entOk w es r'
theorem entOk.keys {w : World} {P : Program} : ∀ {es : List DictEntry} {r : List (Str × Str)}, entOk w es r -> ∀ e ∈ es, ∃ k, (yJ P w).is k e.key = true /\ e.hash = (yJ P w).hash k
 | [], _, _, e, he => nomatch he
 | e :: es, r, h, e', he => by
   obtain ⟨x, y, t, u, r', _, h1, h2, _, h4⟩ := h
   rcases List.mem_cons.mp he with rfl | he
   · exact ⟨.inr x, by rw [h2]; exact uB P w x t, h1⟩
   · exact entOk.keys h4 e' he
theorem cx_w {CX : CXT} {P : Program} {w : World} {K : PySem.W.Frag} {mg : Str -> Option Value} {base : Heap} {N : List Str} {qual : Str} {scope : Scope} {f : Addr} {cd : Value} {A : Around} {outer : List Env} {s : Shared} {H : Hp} {E : XK} : (vS CX P w K mg base N qual scope f cd A outer s H E).w = w := rfl
theorem bk_w {X : Cx} {xs ys : List Str} {scope : Scope} {C : Addr} {s₀ : Shared} {H₀ : Hp} {fp : List Addr} : (yM X xs ys scope C s₀ H₀ fp).w = X.w := rfl
theorem xM {K : PySem.W.Frag} {T : String} : PySem.W.kitOne K (.type T) (.type T) = some true := by
 unfold PySem.W.kitOne
 rw [if_pos (by simp)]
def kitF (S T : String) : Bool := !(Value.type S == Value.type T) && PySem.W.kitMeta T && ((PySem.fastBuiltinMro S).map (·.contains (.type T)) == some false)
theorem kit_f {K : PySem.W.Frag} {S T : String} (h : kitF S T = true) : PySem.W.kitOne K (.type S) (.type T) = some false := by
 unfold kitF at h
 simp only [Bool.and_eq_true, Bool.not_eq_true', beq_iff_eq] at h
 unfold PySem.W.kitOne
 rw [if_neg (by rw [h.1.1]; decide)]
 show (if PySem.W.kitMeta T = true then PySem.W.subIn K (.type S) (.type T) else none) = _
 rw [if_pos h.1.2]
 exact h.2
theorem kit_ti {K : PySem.W.Frag} : PySem.W.kitOne K (.type "tuple") (.type "int") = some false := kit_f (by decide +kernel)
theorem kit_ib {K : PySem.W.Frag} : PySem.W.kitOne K (.type "int") (.type "bool") = some false := kit_f (by decide +kernel)
theorem Same.tup {K : PySem.W.Frag} {H H' : Hp} {a : Addr} {xs : List V} (e : Same H H') (h : SqT K H a xs) : SqT K H' a xs := by
 rcases h with (h | ⟨o, h⟩) | h
 · exact .inl (.inl (e _ _ h))
 · exact .inl (.inr ⟨o, e _ _ h⟩)
 · exact .inr h
theorem at0 {α : Type} {x : α} {xs : List α} : atI (x :: xs) 0 = some x := zU (j := 0) (xs := x :: xs) rfl
theorem at1 {α : Type} {x y : α} {xs : List α} : atI (x :: y :: xs) 1 = some y := zU (j := 1) (xs := x :: y :: xs) rfl
def dSay (p : Tm × Tm) : Dt := .tup [toD p.1, toD p.2]
abbrev SAts (H : Hp) (ps : List (Tm × Tm)) (vs : List V) : Prop := DAts H (ps.map dSay) vs
theorem SAts.length {H : Hp} {ps : List (Tm × Tm)} {vs : List V} (h : SAts H ps vs) : vs.length = ps.length := by
 have := DAts.length h
 rw [List.length_map] at this
 exact this
section
variable {X : Cx} (K : PySem.W.Frag)
theorem jU (h : X.K = K := by rfl) : IxR X (rIxL K) := by subst h; exact ix_list
theorem jB (h : X.K = K := by rfl) : IxR X (rIxT K) := by subst h; exact ix_tup
theorem sl_listK (h : X.K = K := by rfl) : SlR X (rSlL K) := by subst h; exact sl_list
theorem call_lenK (h : X.K = K := by rfl) : jF X (.builtin "len") (fun xs H Q => ∃ x n, xs = [x] /\ LenV K x H n /\ Q (.int n) H) := by subst h; exact call_len
end
end L2
namespace L2
open PySem
abbrev Cs := List Nat
def glue (j : Cs) : List Cs -> Cs
 | [] => []
 | [s] => s
 | s :: r :: q => s ++ j ++ glue j (r :: q)
def jAnd : Cs := [32, 38, 32]
def jOr : Cs := [32, 124, 32]
def jOf (w : Str) : Cs := if w = "both" then jAnd else jOr
def wrN (w : Str) (ss : List Cs) : Cs := if w = "not" then 33 :: ss.headD [] else if ss = [] then w.cps.toList else 40 :: (glue (jOf w) ss ++ [41])
mutual
def wr : Tm -> Cs
 | .name x => x.cps.toList
 | .node w ts => wrN w (wrs ts)
def wrs : List Tm -> List Cs
 | [] => []
 | t :: ts => wr t :: wrs ts
end
def qD (j : Cs) : List Cs -> Cs
 | [] => []
 | s :: r => j ++ s ++ qD j r
theorem wI (j : Cs) : ∀ (s : Cs) (r : List Cs), glue j (s :: r) = s ++ qD j r
 | s, [] => by simp [glue, qD]
 | s, a :: r => by
   rw [glue, wI j a r, qD]
   simp
end L2
namespace L2
open PySem
def toS (s : Cs) : Str := ⟨s.toArray⟩
theorem vI (j : Cs) : ∀ (r : List Cs) (acc : Cs), ((r.map toS).foldl (fun acc p => acc ++ (toS j).cps ++ p.cps) acc.toArray) = (acc ++ qD j r).toArray
 | [], acc => by simp [qD]
 | s :: r, acc => by
   rw [List.map_cons, List.foldl_cons]
   have e : acc.toArray ++ (toS j).cps ++ (toS s).cps = (acc ++ j ++ s).toArray := by simp [toS]
   rw [e, vI j r, qD]
   simp
theorem glued_toS (j : Cs) (ss : List Cs) : Builtin.Str.glued (toS j) (ss.map toS) = toS (glue j ss) := by
 cases ss with
 | nil => rfl
 | cons s r =>
   show (⟨(r.map toS).foldl (fun acc p => acc ++ (toS j).cps ++ p.cps) (toS s).cps⟩ : Str) = _
   rw [wI, show (toS s).cps = s.toArray from rfl, vI]
   rfl
end L2
namespace L2
open PySem PySem.Builtin PySem.Builtin.Str PySem.StrLaws
structure Mark (y : Cs) (k m : Nat) : Prop where
 at_ : y[k]? = some m
 once : ∀ j, y[j]? = some m -> j = k
end L2
namespace L2
open PySem PySem.Spec PyProof.Rows PySem.Builtin PySem.Builtin.Str
section
variable {X : Cx}
end
structure HasM (P : Program) (w : World) (K : PySem.W.Frag) (mg : Str -> Option Value) (base : Heap) (k : Nat) (C : Addr) (m : Str) (ps : List Str) (sp : Sp) : Prop where
 ex : ∃ f fd, FnOk P w K mg base CX0 k f fd ps sp /\ Binds K fd ps [] /\ Meth K C m f
structure HasI (P : Program) (w : World) (K : PySem.W.Frag) (mg : Str -> Option Value) (base : Heap) (k : Nat) (C : Addr) (x : Str) (ps : List Str) (sp : Sp) : Prop where
 ex : ∃ f fd, FnOk P w K mg base CX0 k f fd ps sp /\ Binds K fd ps [] /\ Mk K C f /\ mg x = some (.ref C)
section
variable {X : Cx} {k : Nat} {C : Addr} {x m : Str} {ps : List Str} {sp : Sp} {p pos apos : Pos} {e o : Expr} {es : List Expr} {ta : TE} {t : TA}
theorem yC {pl : Sem Bool} (h : HasM X.prog X.w X.K X.mg X.base k C m ps sp) (c : Cls X.K C) (hr : Room k X.A) (he : PE X o ta) (ha : PA X (e :: es) t)
   (hst : starEach (e :: es) X.env = (false, eval e X.env) :: starEach es X.env := by rfl) (hpl : (backTo pos (starEach es X.env)).any (·.1) = false := by rfl)
   (ht : eval (.Call (.Attribute o m apos) (e :: es) [] pos) X.env = (do
     let ov ← eval o X.env
     standAt apos.atName
     let (f, first) ← holding [ov] (getMethod ov m pl)
     callWith pos f first (backTo pos (starEach (e :: es) X.env)) (backToKw pos (keywordEach [] X.env))) := by rfl) :
   PE X (.Call (.Attribute o m apos) (e :: es) [] pos) (xI C m sp [] E0 ta t) := by
 obtain ⟨f, fd, F, b, mm⟩ := h.ex
 exact pe_meth (pl := pl) he c mm F hr b .nil pass0 ha hst hpl ht
theorem pe_makeH (h : HasI X.prog X.w X.K X.mg X.base k C x ps sp) (hr : Room (k + 1) X.A) (hg : Gl X x) (ha : PA X (e :: es) t) (hdb : (x == ("__debug__" : Str)) = false := by decide)
   (he : starEach (e :: es) X.env = (false, eval e X.env) :: starEach es X.env := by rfl) (hpl : (backTo pos (starEach es X.env)).any (·.1) = false := by rfl) :
   PE X (.Call (.Name x p) (e :: es) [] pos) (tMake C sp [] E0 t) := by
 obtain ⟨f, fd, F, b, M, m⟩ := h.ex
 exact pe_make M F hr hg m b .nil pass0 ha hdb he hpl
end
def rdF (x : Cs) (k : Nat) : List (Str × V) := [("text", .str (toS x)), ("at", .int k)]
def RdAt (C : Addr) (H : Hp) (r : Addr) (x : Cs) (k : Nat) : Prop := ∃ dx, H r = some (.ins C dx (rdF x k))
def SameX (r : Addr) (H H' : Hp) : Prop := ∀ b o, H b = some o -> b ≠ r -> H' b = some o
theorem SameX.refl (r : Addr) (H : Hp) : SameX r H H := fun _ _ h _ => h
theorem SameX.trans {r : Addr} {H H1 H2 : Hp} (a : SameX r H H1) (b : SameX r H1 H2) : SameX r H H2 := fun c o h n => b c o (a c o h n) n
theorem Same.x {r : Addr} {H H' : Hp} (a : Same H H') : SameX r H H' := fun c o h _ => a c o h
theorem SameX.upd {r : Addr} {H H1 : Hp} {o : HO} (a : SameX r H H1) : SameX r H (L2.upd H1 r o) := fun c o' h n => by
 rw [zG n]
 exact a c o' h n
theorem SameX.tups {r : Addr} {H H' : Hp} {C : Addr} {x : Cs} {k : Nat} (a : SameX r H H') (h : RdAt C H r x k) : TupSame H H' := fun b xs e => by
 obtain ⟨dx, h⟩ := h
 exact a b _ e (xS e h (by intro z; cases z))
theorem F.lk_list_keys : typeLookup (.type "list") "keys" = pure none := by rw [typeLookup_type, PySem.builtinLookup_eq_fast]; kernel_rfl
theorem F.lk_list_ga : typeLookup (.type "list") "__getattr__" = pure none := by rw [typeLookup_type, PySem.builtinLookup_eq_fast]; kernel_rfl
theorem F.sub_ae : isSubtype (.type "AttributeError") (.type "AttributeError") = pure true := by rw [isSubtype_type]; kernel_rfl
def AeAt (h h' : Heap) (e : Addr) : Prop := (∀ b u, h.get? b = some u -> h'.get? b = some u) /\ ∃ o, h'.get? e = some o /\ o.cls = .type "AttributeError"
section
variable {prog : Program} {w : World} {A : Around} {E : Value -> Shared -> Prop} {s : Shared} {a : Addr} {its : Array Value} {n : Nat} {sl : Array (Option Value)}
theorem raiseAttr {α : Type} {o : Value} {name msg : Str} {Q : α -> Shared -> Prop} (hA : A.handled = none) (hm : msg.length <= sizeLine)
   (hq : ∀ h' t' e, AeAt s.heap h' e -> E (.ref e) { s with heap := h', toks := t' }) : wpAny (model prog w) A (raiseAttrError o name msg : Sem α) Q E s := by
 unfold raiseAttrError
 refine wpAny_bind (wpAny_mkStr (wpAny_bind ?_) hm)
 unfold newExc newTuple
 refine wpAny_bind (wpAny_newObj_type ?_ (by size_fits))
 refine wpAny_bind (m := firstArgMember _ _) (wpAny_of_eq (a := Value.none) (by
   simp only [firstArgMember]
   rw [show ((Manifest.find? "AttributeError").elim false fun t => t.mro.contains "StopIteration" || t.mro.contains "SystemExit") = false by decide +kernel]
   rfl) ?_)
 refine wpAny_newObj_type ?_ (by size_fits)
 refine wpAny_bind (wpAny_mkText ?_)
 refine wpAny_bind ?_
 obtain ⟨h, g, d, t, os⟩ := s
 dsimp only at hq ⊢
 have hk1 : ∀ b u, h.get? b = some u -> (h.push { cls := Value.type "tuple", data := Data.seq #[Value.str msg t] }).get? b = some u := fun b u e => Heap.get?_push_of_some _ e
 generalize h.push { cls := Value.type "tuple", data := Data.seq #[Value.str msg t] } = h1 at hk1 ⊢
 have hE := Heap.get?_push_size h1 (o := { cls := Value.type "AttributeError", data := Data.fields (#[Value.ref h.objs.size, Value.none, Value.none, Value.none, Value.bool false, Value.none] ++ ownMembersOf (Value.type "AttributeError") [Value.str msg t]) }) rfl
 have hk2 : ∀ b u, h1.get? b = some u -> (h1.push { cls := Value.type "AttributeError", data := Data.fields (#[Value.ref h.objs.size, Value.none, Value.none, Value.none, Value.bool false, Value.none] ++ ownMembersOf (Value.type "AttributeError") [Value.str msg t]) }).get? b = some u := fun b u e => Heap.get?_push_of_some _ e
 have hne : ∀ b u, h1.get? b = some u -> b ≠ h1.objs.size := fun b u e => Nat.ne_of_lt (Heap.lt_size e)
 generalize h1.push { cls := Value.type "AttributeError", data := Data.fields (#[Value.ref h.objs.size, Value.none, Value.none, Value.none, Value.bool false, Value.none] ++ ownMembersOf (Value.type "AttributeError") [Value.str msg t]) } = h2 at hE hk2 ⊢
 generalize h1.objs.size = e at hE hne ⊢
 have hT : (⟨h2, g, d, t + 1 + 1, os⟩ : Shared).TypeIs (.ref e) "AttributeError" := ⟨_, hE, rfl⟩
 have f1 := F.sub_ae
 unfold noteAttr
 dsimp only
 refine wpAny_bind ?_
 unfold lacksNameAndObj
 dsimp only
 refine wpAny_bind (wpAny_isInstance hT f1 ?_)
 rw [if_neg (by decide)]
 refine wpAny_bind (wpAny_load hE ?_)
 dsimp only
 rw [if_neg (by simp [ownMembersOf, unsetMember, rawInt]), if_neg (by simp [ownMembersOf, unsetMember, doubtfulMember, rawInt])]
 refine wpAny_pure ?_
 rw [if_pos rfl]
 refine wpAny_bind (wpAny_rule ?_)
 refine wpAny_bind (wpAny_typeOf hT ?_)
 dsimp only
 unfold layMembers
 refine wpAny_bind (wpAny_load hE ?_)
 dsimp only
 refine wpAny_update hE ?_
 refine wpAny_raiseNew_none hA (hq _ _ _ ⟨fun b u hb => ?_, ⟨_, Heap.get?_update_self _ hE (Obj.isFreed_of_fields (Obj.data_mapFields rfl _)), Obj.cls_mapFields _ _⟩⟩)
 exact (Heap.get?_update_other _ _ (Ne.symm (hne b u (hk1 b u hb)))).trans (hk2 b u (hk1 b u hb))
end
section
variable {prog : Program} {w : World} {A : Around} {E : Value -> Shared -> Prop} {h : Heap} {g : Array GenState} {d : Drawn} {t : Nat} {os : OsState} {a : Addr} {its : Array Value} {n : Nat} {sl : Array (Option Value)}
theorem wZ {tk : Tok} {Q : PySem.Fin -> Shared -> Prop} (hA : A.handled = none) (hx : h.get? a = some ⟨.type "list", none, .seq its n, sl⟩)
   (hq : ∀ h' t' e, AeAt h h' e -> E (.ref e) ⟨h', g, d, t', os⟩) :
   wpAny (model prog w) A (Builtin.«object.__getattribute__» ⟨[.ref a, .str "keys" tk], []⟩) Q E ⟨h, g, d, t, os⟩ := by
 have hT : (⟨h, g, d, t, os⟩ : Shared).TypeIs (.ref a) "list" := ⟨_, hx, rfl⟩
 have f4 := F.lk_list_keys
 repeat (any_goals (first | assumption | wp_step))
 exact raiseAttr hA (by decide +kernel) hq
theorem nokeys_call {tk : Tok} {R : Result -> Shared -> Prop} (hA : A.handled = none) (hx : h.get? a = some ⟨.type "list", none, .seq its n, sl⟩)
   (hq : ∀ h' t' e, AeAt h h' e -> R (.error (.ref e)) ⟨h', g, d, t', os⟩) :
   codeAny (model prog w) A (.call (.builtin "list.__getattribute__") ⟨[.ref a, .str "keys" tk], []⟩) R ⟨h, g, d, t, os⟩ :=
 codeAny_call_builtin PySem.F.slot_list_getattribute.plain PySem.F.entry_list_ga (PySem.F.slot_list_getattribute.check _ _ _ _ _ _ _ _ (show (⟨h, g, d, t, os⟩ : Shared).TypeIs (.ref a) "list" from ⟨_, hx, rfl⟩) (PySem.F.args_list_getattribute_2 _ _) (wZ hA hx hq))
theorem nokeys_by {tk : Tok} {Q : Value -> Shared -> Prop} (hA : A.handled = none) (hx : h.get? a = some ⟨.type "list", none, .seq its n, sl⟩)
   (hq : ∀ h' t' e, AeAt h h' e -> E (.ref e) ⟨h', g, d, t', os⟩) : wpAny (model prog w) A (getAttrBy (.ref a) (.str "keys" tk) false) Q E ⟨h, g, d, t, os⟩ := by
 have hT : (⟨h, g, d, t, os⟩ : Shared).TypeIs (.ref a) "list" := ⟨_, hx, rfl⟩
 have f2 := PySem.F.slot_list_getattribute.lookup
 have f3 := PySem.F.slot_list_getattribute.bind (.ref a)
 have f5 := F.lk_list_ga
 have f6 := F.sub_ae
 repeat (any_goals (first | assumption | wp_step))
 refine nokeys_call hA hx fun h' t' e ae => ?_
 have hT2 : (⟨h', g, d, t', os⟩ : Shared).TypeIs (.ref e) "AttributeError" := ae.2
 repeat (any_goals (first | assumption | exact hq _ _ _ ae | wp_step))
theorem nokeys {Q : Option Value -> Shared -> Prop} (hA : A.handled = none) (hx : h.get? a = some ⟨.type "list", none, .seq its n, sl⟩)
   (hq : ∀ h' t', (∀ b u, h.get? b = some u -> h'.get? b = some u) -> Q none ⟨h', g, d, t', os⟩) : wpAny (model prog w) A (getAttr? (.ref a) "keys") Q E ⟨h, g, d, t, os⟩ := by
 unfold getAttr? getAttrBy?
 refine wpAny_bind (wpAny_mkText (wpAny_bind (wpAny_attempt (nokeys_by hA hx fun h' t' e ae => ?_))))
 dsimp only
 have hT2 : (⟨h', g, d, t', os⟩ : Shared).TypeIs (.ref e) "AttributeError" := ae.2
 refine wpAny_bind (wpAny_isInstance hT2 F.sub_ae ?_)
 rw [if_pos rfl]
 exact wpAny_pure (hq _ _ ae.1)
end
theorem F.plain_dul : plainId "dict.update.loop" = true := by decide +kernel
theorem F.entry_dul : entryFor table "dict.update.loop" = some Builtin.«dict.update.loop» := entryFor_of_tree (by kernel_rfl)
section
variable {prog : Program} {w : World} {Kt : Type} [DecidableEq Kt] {knd : KeyKind prog w Kt} {A : Around} {E : Value -> Shared -> Prop} {s : Shared}
end
section
variable {X : Cx}
end
end L2
namespace L2
open PySem PySem.Spec PyProof.Rows PySem.W
section
variable {prog : Program} {w : World} {A : Around} {E : Value -> Shared -> Prop} {s : Shared} {T : String} {r d : Addr} {n : Nat} {P : Nat -> Value -> Prop} {OK : Heap -> Prop}
end
section
variable {X : Cx}
end
section
variable {X : Cx}
end
end L2
namespace L2
open PySem PyProof.Rows
section
variable {prog : Program} {w : World} {A : Around} {E : Value -> Shared -> Prop} {s : Shared}
end
end L2
namespace L2
open PySem PyProof.Rows
section
variable {prog : Program} {w : World} {A : Around} {E : Value -> Shared -> Prop} {s : Shared}
end
end L2
namespace L2
open PySem PyProof.Rows
section
variable {prog : Program} {w : World} {A : Around} {E : Value -> Shared -> Prop} {s : Shared}
end
end L2
namespace L2
open PySem PyProof.Rows
section
variable {prog : Program} {w : World} {A : Around} {R : Result -> Shared -> Prop} {I : Addr} {fp wr : List Addr} {G : Array GenState -> Array GenState -> Prop} {n : Nat} {P : Nat -> Value -> Prop} {St : Nat -> Shared -> Prop}
end
section
variable {prog : Program} {w : World} {A : Around} {E : Value -> Shared -> Prop} {s : Shared}
end
end L2
namespace L2
open PySem PyProof.Rows
section
variable {prog : Program} {w : World} {A : Around} {E : Value -> Shared -> Prop} {s : Shared}
end
end L2
namespace L2
open PySem PySem.Spec PyProof.Rows PySem.SeqAt
mutual
def deq : Dt -> Dt -> Bool
 | .non, .non => true
 | .bl a, .bl b => a == b
 | .int a, .int b => a == b
 | .bl a, .int b => (if a then 1 else 0) == b
 | .int a, .bl b => a == (if b then 1 else 0)
 | .str a, .str b => a == b
 | .tup xs, .tup ys => deqs xs ys
 | .lst xs, .lst ys => deqs xs ys
 | _, _ => false
def deqs : List Dt -> List Dt -> Bool
 | [], [] => true
 | x :: xs, y :: ys => deq x y && deqs xs ys
 | _, _ => false
end
mutual
theorem deq_refl : ∀ d : Dt, deq d d = true
 | .non => rfl
 | .bl a => by simp [deq]
 | .int a => by simp [deq]
 | .str a => by simp [deq]
 | .tup ds => by rw [deq]; exact deqs_refl ds
 | .lst ds => by rw [deq]; exact deqs_refl ds
theorem deqs_refl : ∀ ds : List Dt, deqs ds ds = true
 | [] => rfl
 | d :: ds => by rw [deqs, deq_refl d, deqs_refl ds]; rfl
end
def eat (xs ys : List Dt) (j : Nat) : Bool :=
 match xs[j]?, ys[j]? with
 | some x, some y => deq x y
 | _, _ => false
theorem deqs_all : ∀ xs ys : List Dt, ((List.range (min xs.length ys.length)).all (eat xs ys) && xs.length == ys.length) = deqs xs ys
 | [], [] => rfl
 | [], y :: ys => by simp [deqs]
 | x :: xs, [] => by simp [deqs]
 | x :: xs, y :: ys => by
   rw [deqs, ← deqs_all xs ys, List.length_cons, List.length_cons, Nat.succ_min_succ, List.range_succ_eq_map, List.all_cons, List.all_map]
   have e1 : eat (x :: xs) (y :: ys) 0 = deq x y := rfl
   have e2 : eat (x :: xs) (y :: ys) ∘ Nat.succ = eat xs ys := by funext j; simp [eat]
   rw [e1, e2, Bool.and_assoc]
   congr 2
   rw [Bool.eq_iff_iff]
   simp
mutual
theorem DAt.one_of {H : Hp} : ∀ {d d' : Dt} {v : V}, DAt H d v -> DAt H d' v -> d = d'
 | d, .non, v, h, h' => by have h' : v = .non := h'; subst h'; cases d <;> simp_all [DAt]
 | d, .bl b, v, h, h' => by have h' : v = .bl b := h'; subst h'; cases d <;> simp_all [DAt]
 | d, .int b, v, h, h' => by have h' : v = .int b := h'; subst h'; cases d <;> simp_all [DAt]
 | d, .str b, v, h, h' => by have h' : v = .str b := h'; subst h'; cases d <;> simp_all [DAt]
 | d, .tup ds', v, h, h' => by
   obtain ⟨a, vs, rfl, e2, e3⟩ := h'
   cases d with
   | tup ds =>
     obtain ⟨a', vs', e1', e2', e3'⟩ := h
     cases e1'
     rw [e2] at e2'
     cases e2'
     rw [DAts.one_of e3' e3]
   | lst ds =>
     obtain ⟨a', vs', e1', e2', e3'⟩ := h
     cases e1'
     rw [e2] at e2'
     cases e2'
   | _ => cases h
 | d, .lst ds', v, h, h' => by
   obtain ⟨a, vs, rfl, e2, e3⟩ := h'
   cases d with
   | lst ds =>
     obtain ⟨a', vs', e1', e2', e3'⟩ := h
     cases e1'
     rw [e2] at e2'
     cases e2'
     rw [DAts.one_of e3' e3]
   | tup ds =>
     obtain ⟨a', vs', e1', e2', e3'⟩ := h
     cases e1'
     rw [e2] at e2'
     cases e2'
   | _ => cases h
theorem DAts.one_of {H : Hp} : ∀ {ds ds' : List Dt} {vs : List V}, DAts H ds vs -> DAts H ds' vs -> ds = ds'
 | ds, [], vs, h, h' => by
   have h' : vs = [] := h'
   subst h'
   cases ds with
   | nil => rfl
   | cons d ds => obtain ⟨v, r, e, _⟩ := h; cases e
 | ds, d' :: ds', vs, h, h' => by
   obtain ⟨v, r, rfl, e2, e3⟩ := h'
   cases ds with
   | nil => cases h
   | cons d ds =>
     obtain ⟨v', r', e, e2', e3'⟩ := h
     cases e
     rw [DAt.one_of e2' e2, DAts.one_of e3' e3]
end
section
variable {P : Program} {w : World} {H : Hp} {s : Shared}
theorem DAts.tup_of (ok : HOk P w H s.heap) {a : Addr} {vs : List V} (h : H a = some (.tup vs)) : ∃ its : List Value, Vals vs its /\ s.heap.IsTuple a its.toArray := by
 obtain ⟨z, its, r, p⟩ := ok a _ h
 exact ⟨its, r, p⟩
theorem DAts.lst_of (ok : HOk P w H s.heap) {a : Addr} {vs : List V} (h : H a = some (.lst vs)) : ∃ its : List Value, Vals vs its /\ s.heap.IsList a its.toArray := by
 obtain ⟨z, its, n, r, p⟩ := ok a _ h
 exact ⟨its, r, _, p, rfl, n, rfl⟩
theorem vals_at : ∀ {xs : List V} {us : List Value} {i : Nat} {x : V} {u : Value}, Vals xs us -> xs[i]? = some x -> us[i]? = some u -> RelV x u
 | _, _, _, _, _, .nil, h, _ => by simp at h
 | _, _, 0, _, _, .cons r q, h, h' => by
   simp at h h'
   subst h
   subst h'
   exact r
 | _, _, i + 1, _, _, .cons r q, h, h' => vals_at q (by simpa using h) (by simpa using h')
theorem rc_lists (ok : HOk P w H s.heap) {n : Nat} {A : Around} (ih : ∀ {A : Around} {d d' : Dt} {v v' : V} {u u' : Value}, DAt H d v -> DAt H d' v' -> RelV v u -> RelV v' u' -> DFit n d -> A.units + n < cLine -> EqAt A s u u' (deq d d'))
   {l l' : Addr} {ds ds' : List Dt} {vs vs' : List V} {its its' : List Value} (hs : DAts H ds vs) (hs' : DAts H ds' vs') (rv : Vals vs its) (rv' : Vals vs' its') (hl : s.heap.IsList l its.toArray) (hl' : s.heap.IsList l' its'.toArray)
   (f : ∀ d ∈ ds, DFit n d) (hu : A.units + (n + 1) < cLine) : RcAt A s (.ref l) (.ref l') (deqs ds ds') := by
 have k1 := hs.length
 have k2 := hs'.length
 have k3 := rv.length
 have k4 := rv'.length
 by_cases hz : ds.length = ds'.length
 · have key := RcAt.lists (A := A) (e := eat ds ds') hl hl' (by rw [List.size_toArray, List.size_toArray]; omega) (by omega) fun j h1 h2 => ?_
   · rw [← deqs_all, hz, Nat.min_self, beq_self_eq_true, Bool.and_true]
     rw [List.size_toArray] at key
     rw [show ds'.length = its.length by omega]
     exact key
   · rw [List.size_toArray] at h1 h2
     have hj : j < ds.length := by omega
     have hj' : j < ds'.length := by omega
     obtain ⟨x, x1, x2⟩ := hs.get (List.getElem?_eq_getElem hj)
     obtain ⟨y, y1, y2⟩ := hs'.get (List.getElem?_eq_getElem hj')
     have e1 : eat ds ds' j = deq ds[j] ds'[j] := by unfold eat; rw [List.getElem?_eq_getElem hj, List.getElem?_eq_getElem hj']
     rw [e1]
     refine ih x2 y2 ?_ ?_ (f _ (List.getElem_mem hj)) (by show A.units + 1 + n < cLine; omega)
     · exact vals_at rv x1 (by rw [List.getElem_toArray]; exact List.getElem?_eq_getElem h1)
     · exact vals_at rv' y1 (by rw [List.getElem_toArray]; exact List.getElem?_eq_getElem h2)
 · have hf : deqs ds ds' = false := by rw [← deqs_all, show (ds.length == ds'.length) = false by simpa using hz, Bool.and_false]
   rw [hf]
   exact RcAt.lists_lengths hl hl' (by rw [List.size_toArray, List.size_toArray]; simp; omega) (by omega)
theorem deq_same (ok : HOk P w H s.heap) {A : Around} {d : Dt} {v : V} {u u' : Value} (h : DAt H d v) (r : RelV v u) (r' : RelV v u') : EqAt A s u u' true := by
 cases d with
 | non => have h : v = .non := h; subst h; cases r; cases r'; exact EqAt.same _
 | bl a => have h : v = .bl a := h; subst h; cases r; cases r'; exact EqAt.same _
 | int a =>
   have h : v = .int a := h
   subst h
   obtain ⟨t, rfl⟩ := r
   obtain ⟨t', rfl⟩ := r'
   have := EqAt.int_int (A := A) (s := s) a t a t'
   rwa [beq_self_eq_true] at this
 | str a =>
   have h : v = .str a := h
   subst h
   obtain ⟨t, rfl⟩ := r
   obtain ⟨t', rfl⟩ := r'
   have := EqAt.str_str (A := A) (s := s) a t a t'
   rwa [beq_self_eq_true] at this
 | tup ds => obtain ⟨l, vs, rfl, _⟩ := h; cases r; cases r'; exact EqAt.same _
 | lst ds => obtain ⟨l, vs, rfl, _⟩ := h; cases r; cases r'; exact EqAt.same _
theorem kF (ok : HOk P w H s.heap) {A : Around} {d d' : Dt} {v v' : V} {u u' : Value} (h : DAt H d v) (h' : DAt H d' v') (r : RelV v u) (r' : RelV v' u') (hu : A.units < cLine) (hk : ∀ ds ds', ¬ (d = .tup ds /\ d' = .tup ds') /\ ¬ (d = .lst ds /\ d' = .lst ds')) : EqAt A s u u' (deq d d') := by
 cases d with
 | non =>
   have h : v = .non := h
   subst h
   cases r
   cases d' with
   | non =>
     have h' : v' = .non := h'
     subst h'
     cases r'
     simp only [deq]
     exact EqAt.same _
   | bl b =>
     have h' : v' = .bl b := h'
     subst h'
     cases r'
     simp only [deq]
     exact EqAt.none_bool _
   | int b =>
     have h' : v' = .int b := h'
     subst h'
     obtain ⟨t', rfl⟩ := r'
     simp only [deq]
     exact EqAt.none_int _ _
   | str b =>
     have h' : v' = .str b := h'
     subst h'
     obtain ⟨t', rfl⟩ := r'
     simp only [deq]
     exact EqAt.none_str _ _
   | tup ds' =>
     obtain ⟨l', vs', rfl, e', hs'⟩ := h'
     cases r'
     obtain ⟨its', rv', hl'⟩ := DAts.tup_of ok e'
     simp only [deq]
     exact EqAt.none_tuple hl' hu
   | lst ds' =>
     obtain ⟨l', vs', rfl, e', hs'⟩ := h'
     cases r'
     obtain ⟨its', rv', hl'⟩ := DAts.lst_of ok e'
     simp only [deq]
     exact EqAt.none_list hl' hu
 | bl a =>
   have h : v = .bl a := h
   subst h
   cases r
   cases d' with
   | non =>
     have h' : v' = .non := h'
     subst h'
     cases r'
     simp only [deq]
     exact EqAt.bool_none _
   | bl b =>
     have h' : v' = .bl b := h'
     subst h'
     cases r'
     simp only [deq]
     exact EqAt.bool_bool _ _
   | int b =>
     have h' : v' = .int b := h'
     subst h'
     obtain ⟨t', rfl⟩ := r'
     simp only [deq]
     exact EqAt.bool_int _ _ _
   | str b =>
     have h' : v' = .str b := h'
     subst h'
     obtain ⟨t', rfl⟩ := r'
     simp only [deq]
     exact EqAt.bool_str _ _ _
   | tup ds' =>
     obtain ⟨l', vs', rfl, e', hs'⟩ := h'
     cases r'
     obtain ⟨its', rv', hl'⟩ := DAts.tup_of ok e'
     simp only [deq]
     exact EqAt.bool_tuple _ hl' hu
   | lst ds' =>
     obtain ⟨l', vs', rfl, e', hs'⟩ := h'
     cases r'
     obtain ⟨its', rv', hl'⟩ := DAts.lst_of ok e'
     simp only [deq]
     exact EqAt.bool_list _ hl' hu
 | int a =>
   have h : v = .int a := h
   subst h
   obtain ⟨t, rfl⟩ := r
   cases d' with
   | non =>
     have h' : v' = .non := h'
     subst h'
     cases r'
     simp only [deq]
     exact EqAt.int_none _ _
   | bl b =>
     have h' : v' = .bl b := h'
     subst h'
     cases r'
     simp only [deq]
     exact EqAt.int_bool _ _ _
   | int b =>
     have h' : v' = .int b := h'
     subst h'
     obtain ⟨t', rfl⟩ := r'
     simp only [deq]
     exact EqAt.int_int _ _ _ _
   | str b =>
     have h' : v' = .str b := h'
     subst h'
     obtain ⟨t', rfl⟩ := r'
     simp only [deq]
     exact EqAt.int_str _ _ _ _
   | tup ds' =>
     obtain ⟨l', vs', rfl, e', hs'⟩ := h'
     cases r'
     obtain ⟨its', rv', hl'⟩ := DAts.tup_of ok e'
     simp only [deq]
     exact EqAt.int_tuple _ _ hl' hu
   | lst ds' =>
     obtain ⟨l', vs', rfl, e', hs'⟩ := h'
     cases r'
     obtain ⟨its', rv', hl'⟩ := DAts.lst_of ok e'
     simp only [deq]
     exact EqAt.int_list _ _ hl' hu
 | str a =>
   have h : v = .str a := h
   subst h
   obtain ⟨t, rfl⟩ := r
   cases d' with
   | non =>
     have h' : v' = .non := h'
     subst h'
     cases r'
     simp only [deq]
     exact EqAt.str_none _ _
   | bl b =>
     have h' : v' = .bl b := h'
     subst h'
     cases r'
     simp only [deq]
     exact EqAt.str_bool _ _ _
   | int b =>
     have h' : v' = .int b := h'
     subst h'
     obtain ⟨t', rfl⟩ := r'
     simp only [deq]
     exact EqAt.str_int _ _ _ _
   | str b =>
     have h' : v' = .str b := h'
     subst h'
     obtain ⟨t', rfl⟩ := r'
     simp only [deq]
     exact EqAt.str_str _ _ _ _
   | tup ds' =>
     obtain ⟨l', vs', rfl, e', hs'⟩ := h'
     cases r'
     obtain ⟨its', rv', hl'⟩ := DAts.tup_of ok e'
     simp only [deq]
     exact EqAt.str_tuple _ _ hl' hu
   | lst ds' =>
     obtain ⟨l', vs', rfl, e', hs'⟩ := h'
     cases r'
     obtain ⟨its', rv', hl'⟩ := DAts.lst_of ok e'
     simp only [deq]
     exact EqAt.str_list _ _ hl' hu
 | tup ds =>
   obtain ⟨l, vs, rfl, e, hs⟩ := h
   cases r
   obtain ⟨its, rv, hl⟩ := DAts.tup_of ok e
   cases d' with
   | non =>
     have h' : v' = .non := h'
     subst h'
     cases r'
     simp only [deq]
     exact EqAt.tuple_none hl hu
   | bl b =>
     have h' : v' = .bl b := h'
     subst h'
     cases r'
     simp only [deq]
     exact EqAt.tuple_bool _ hl hu
   | int b =>
     have h' : v' = .int b := h'
     subst h'
     obtain ⟨t', rfl⟩ := r'
     simp only [deq]
     exact EqAt.tuple_int _ _ hl hu
   | str b =>
     have h' : v' = .str b := h'
     subst h'
     obtain ⟨t', rfl⟩ := r'
     simp only [deq]
     exact EqAt.tuple_str _ _ hl hu
   | tup ds' => exact absurd ⟨rfl, rfl⟩ (hk _ _).1
   | lst ds' =>
     obtain ⟨l', vs', rfl, e', hs'⟩ := h'
     cases r'
     obtain ⟨its', rv', hl'⟩ := DAts.lst_of ok e'
     simp only [deq]
     exact EqAt.tuple_list hl hl' hu
 | lst ds =>
   obtain ⟨l, vs, rfl, e, hs⟩ := h
   cases r
   obtain ⟨its, rv, hl⟩ := DAts.lst_of ok e
   cases d' with
   | non =>
     have h' : v' = .non := h'
     subst h'
     cases r'
     simp only [deq]
     exact EqAt.list_none hl hu
   | bl b =>
     have h' : v' = .bl b := h'
     subst h'
     cases r'
     simp only [deq]
     exact EqAt.list_bool _ hl hu
   | int b =>
     have h' : v' = .int b := h'
     subst h'
     obtain ⟨t', rfl⟩ := r'
     simp only [deq]
     exact EqAt.list_int _ _ hl hu
   | str b =>
     have h' : v' = .str b := h'
     subst h'
     obtain ⟨t', rfl⟩ := r'
     simp only [deq]
     exact EqAt.list_str _ _ hl hu
   | tup ds' =>
     obtain ⟨l', vs', rfl, e', hs'⟩ := h'
     cases r'
     obtain ⟨its', rv', hl'⟩ := DAts.tup_of ok e'
     simp only [deq]
     exact EqAt.list_tuple hl hl' hu
   | lst ds' => exact absurd ⟨rfl, rfl⟩ (hk _ _).2
theorem deq_at (ok : HOk P w H s.heap) : ∀ (n : Nat) {A : Around} {d d' : Dt} {v v' : V} {u u' : Value}, DAt H d v -> DAt H d' v' -> RelV v u -> RelV v' u' -> DFit n d -> A.units + n < cLine -> EqAt A s u u' (deq d d') := by
 intro n
 induction n with
 | zero =>
   intro A d d' v v' u u' h h' r r' f hu
   exact kF ok h h' r r' hu fun ds ds' => ⟨fun e => by rw [e.1] at f; exact f, fun e => by rw [e.1] at f; exact f⟩
 | succ n ih =>
   intro A d d' v v' u u' h h' r r' f hu
   by_cases hvv : v = v'
   · subst hvv
     rw [DAt.one_of h h', deq_refl]
     have hd : d = d' := DAt.one_of h h'
     subst hd
     have hx := deq_same ok (A := A) h r r'
     exact hx
   cases d with
   | tup ds =>
     cases d' with
     | tup ds' =>
       obtain ⟨l, vs, rfl, e, hs⟩ := h
       obtain ⟨l', vs', rfl, e', hs'⟩ := h'
       cases r
       cases r'
       obtain ⟨its, rv, hl⟩ := DAts.tup_of ok e
       obtain ⟨its', rv', hl'⟩ := DAts.tup_of ok e'
       have k1 := hs.length
       have k2 := hs'.length
       have k3 := rv.length
       have k4 := rv'.length
       have key := RcAt.tuples (A := A) (e := eat ds ds') hl hl' (by omega) fun j h1 h2 => ?_
       · simp only [deq]
         rw [← deqs_all]
         refine EqAt.of_refs (fun z => hvv (by rw [z])) ?_
         rw [List.size_toArray, List.size_toArray] at key
         rw [← k1, ← k2, k3, k4]
         exact key
       · rw [List.size_toArray] at h1 h2
         have hj : j < ds.length := by omega
         have hj' : j < ds'.length := by omega
         obtain ⟨x, x1, x2⟩ := hs.get (List.getElem?_eq_getElem hj)
         obtain ⟨y, y1, y2⟩ := hs'.get (List.getElem?_eq_getElem hj')
         have e1 : eat ds ds' j = deq ds[j] ds'[j] := by unfold eat; rw [List.getElem?_eq_getElem hj, List.getElem?_eq_getElem hj']
         rw [e1]
         refine ih x2 y2 ?_ ?_ (f.2 _ (List.getElem_mem hj)) (by show A.units + 1 + n < cLine; omega)
         · exact vals_at rv x1 (by rw [List.getElem_toArray]; exact List.getElem?_eq_getElem h1)
         · exact vals_at rv' y1 (by rw [List.getElem_toArray]; exact List.getElem?_eq_getElem h2)
     | _ => exact kF ok h h' r r' (by omega) fun ds ds' => ⟨fun e => (by cases e.2), fun e => (by cases e.1)⟩
   | lst ds =>
     cases d' with
     | lst ds' =>
       obtain ⟨l, vs, rfl, e, hs⟩ := h
       obtain ⟨l', vs', rfl, e', hs'⟩ := h'
       cases r
       cases r'
       obtain ⟨its, rv, hl⟩ := DAts.lst_of ok e
       obtain ⟨its', rv', hl'⟩ := DAts.lst_of ok e'
       simp only [deq]
       exact EqAt.of_refs (fun z => hvv (by rw [z])) (rc_lists ok ih hs hs' rv rv' hl hl' f.2 hu)
     | _ => exact kF ok h h' r r' (by omega) fun ds ds' => ⟨fun e => (by cases e.1), fun e => (by cases e.2)⟩
   | _ => exact kF ok h h' r r' (by omega) fun ds ds' => ⟨fun e => (by cases e.1), fun e => (by cases e.1)⟩
end
section
variable {X : Cx}
end
end L2
namespace L2
open PySem PySem.Spec PyProof.Rows PySem.SeqAt
section
variable {X : Cx}
end
theorem nodup_sub : ∀ {l m : List Str}, l.Nodup -> (∀ x ∈ l, x ∈ m) -> l.length <= m.length
 | [], m, _, _ => Nat.zero_le _
 | x :: l, m, hn, hs => by
   have hx : x ∈ m := hs x List.mem_cons_self
   have hn' := List.nodup_cons.mp hn
   have := nodup_sub (l := l) (m := m.erase x) hn'.2 fun y hy => by
     have hy' := hs y (List.mem_cons_of_mem _ hy)
     have hne : y ≠ x := fun e => hn'.1 (by rw [← e]; exact hy)
     exact (List.mem_erase_of_ne hne).mpr hy'
   rw [List.length_erase_of_mem hx] at this
   have := List.length_pos_of_mem hx
   rw [List.length_cons]
   omega
theorem cx_P {CX : CXT} {P : Program} {w : World} {K : PySem.W.Frag} {mg : Str -> Option Value} {base : Heap} {N : List Str} {qual : Str} {scope : Scope} {f : Addr} {cd : Value} {A : Around} {outer : List Env} {s : Shared} {H : Hp} {E : XK} : (vS CX P w K mg base N qual scope f cd A outer s H E).prog = P := rfl
end L2
local macro_rules | `(tactic| simp! [$ts,*]) => `(tactic| simp only [L2.tSeq, L2.tFor_eq, L2.tLC_eq, L2.iRng1, L2.iRng2, L2.iList, L2.iTup, L2.iStr, L2.tIfS, L2.tRet, L2.tRetN, L2.tNext, L2.tAsg, L2.gName, L2.tVar, L2.tC, L2.tOp, L2.rI0, L2.rI, L2.tTest, L2.tB, L2.rEq, L2.rNe, L2.tCall, L2.tCons, L2.tNil, L2.tCB, L2.tLst, L2.tTup, L2.tAnd, L2.tOr, L2.tNot, L2.tAndV, L2.tOrV, L2.tNotV, L2.tIf, L2.tDrop, L2.tSl, L2.tPart, L2.tNoPart, L2.tChain, L2.tUn, L2.rU, L2.start, L2.cx_K, L2.bk_K, L2.cx_calm, L2.bk_calm, L2.lenV_str, and_assoc, Option.join, List.length_map, List.length_append, decide_eq_true_eq, Bool.false_eq_true, if_false, if_true, Bool.not_true, Bool.not_false, Bool.not_eq_true', decide_eq_false_iff_not, Bool.true_eq_false, List.length_cons, List.length_nil, List.map_cons, List.map_nil, List.replicate, List.cons_append, List.nil_append, List.append_nil, List.getElem?_cons_zero, List.getElem?_cons_succ, List.set_cons_zero, List.set_cons_succ, Nat.reduceSub, Nat.reduceAdd, Option.some.injEq, L2.V.int.injEq, L2.V.str.injEq, L2.V.bl.injEq, L2.V.ref.injEq, List.cons.injEq, and_true, true_and, exists_eq_left', exists_eq_left, exists_and_left, exists_eq_right, exists_const, L2.tBM, L2.tBM0, L2.rAppend, L2.rPop, L2.rIxL, L2.rIxT, L2.rIxS, L2.rSlL, L2.rSlT, L2.rSlS, L2.rCat, L2.rCatT, L2.tKGet, L2.cx_w, L2.bk_w, L2.tDGet, L2.tDisp, L2.tPairs, L2.tDNewK, L2.cx_P, $ts,*])
namespace L2
open PySem PySem.Spec PyProof.Rows PySem.SeqAt
section
variable {P : Program} {w : World} {H : Hp} {s : Shared}
theorem rn_tups (ok : HOk P w H s.heap) {n : Nat} {A : Around} (ih : ∀ {A : Around} {d d' : Dt} {v v' : V} {u u' : Value}, DAt H d v -> DAt H d' v' -> RelV v u -> RelV v' u' -> DFit n d -> A.units + n < cLine -> EqAt A s u u' (deq d d'))
   {l l' : Addr} {ds ds' : List Dt} {vs vs' : List V} {its its' : List Value} (hs : DAts H ds vs) (hs' : DAts H ds' vs') (rv : Vals vs its) (rv' : Vals vs' its') (hl : s.heap.IsTuple l its.toArray) (hl' : s.heap.IsTuple l' its'.toArray)
   (f : ∀ d ∈ ds, DFit n d) (hu : A.units + (n + 1) < cLine) : RcNeAt A s (.ref l) (.ref l') (!deqs ds ds') := by
 have k1 := hs.length
 have k2 := hs'.length
 have k3 := rv.length
 have k4 := rv'.length
 have at_ : ∀ j (h1 : j < its.toArray.size) (h2 : j < its'.toArray.size), EqAt A.in1 s its.toArray[j] its'.toArray[j] (eat ds ds' j) := fun j h1 h2 => by
   rw [List.size_toArray] at h1 h2
   have hj : j < ds.length := by omega
   have hj' : j < ds'.length := by omega
   obtain ⟨x, x1, x2⟩ := hs.get (List.getElem?_eq_getElem hj)
   obtain ⟨y, y1, y2⟩ := hs'.get (List.getElem?_eq_getElem hj')
   have e1 : eat ds ds' j = deq ds[j] ds'[j] := by unfold eat; rw [List.getElem?_eq_getElem hj, List.getElem?_eq_getElem hj']
   rw [e1]
   refine ih x2 y2 ?_ ?_ (f _ (List.getElem_mem hj)) (by show A.units + 1 + n < cLine; omega)
   · exact vals_at rv x1 (by rw [List.getElem_toArray]; exact List.getElem?_eq_getElem h1)
   · exact vals_at rv' y1 (by rw [List.getElem_toArray]; exact List.getElem?_eq_getElem h2)
 have key := RcNeAt.tuples (A := A) (e := eat ds ds') hl hl' (by omega) at_
 rw [List.size_toArray, List.size_toArray] at key
 rw [← deqs_all, ← k1, ← k2, k3, k4]
 exact key
theorem rn_lists (ok : HOk P w H s.heap) {n : Nat} {A : Around} (ih : ∀ {A : Around} {d d' : Dt} {v v' : V} {u u' : Value}, DAt H d v -> DAt H d' v' -> RelV v u -> RelV v' u' -> DFit n d -> A.units + n < cLine -> EqAt A s u u' (deq d d'))
   {l l' : Addr} {ds ds' : List Dt} {vs vs' : List V} {its its' : List Value} (hs : DAts H ds vs) (hs' : DAts H ds' vs') (rv : Vals vs its) (rv' : Vals vs' its') (hl : s.heap.IsList l its.toArray) (hl' : s.heap.IsList l' its'.toArray)
   (f : ∀ d ∈ ds, DFit n d) (hu : A.units + (n + 1) < cLine) : RcNeAt A s (.ref l) (.ref l') (!deqs ds ds') := by
 have k1 := hs.length
 have k2 := hs'.length
 have k3 := rv.length
 have k4 := rv'.length
 have at_ : ∀ j (h1 : j < its.toArray.size) (h2 : j < its'.toArray.size), EqAt A.in1 s its.toArray[j] its'.toArray[j] (eat ds ds' j) := fun j h1 h2 => by
   rw [List.size_toArray] at h1 h2
   have hj : j < ds.length := by omega
   have hj' : j < ds'.length := by omega
   obtain ⟨x, x1, x2⟩ := hs.get (List.getElem?_eq_getElem hj)
   obtain ⟨y, y1, y2⟩ := hs'.get (List.getElem?_eq_getElem hj')
   have e1 : eat ds ds' j = deq ds[j] ds'[j] := by unfold eat; rw [List.getElem?_eq_getElem hj, List.getElem?_eq_getElem hj']
   rw [e1]
   refine ih x2 y2 ?_ ?_ (f _ (List.getElem_mem hj)) (by show A.units + 1 + n < cLine; omega)
   · exact vals_at rv x1 (by rw [List.getElem_toArray]; exact List.getElem?_eq_getElem h1)
   · exact vals_at rv' y1 (by rw [List.getElem_toArray]; exact List.getElem?_eq_getElem h2)
 by_cases hz : ds.length = ds'.length
 · have key := RcNeAt.lists (A := A) (e := eat ds ds') hl hl' (by rw [List.size_toArray, List.size_toArray]; omega) (by omega) at_
   rw [← deqs_all, hz, Nat.min_self, beq_self_eq_true, Bool.and_true]
   rw [List.size_toArray] at key
   rw [show ds'.length = its.length by omega]
   exact key
 · have hf : deqs ds ds' = false := by rw [← deqs_all, show (ds.length == ds'.length) = false by simpa using hz, Bool.and_false]
   rw [hf]
   exact RcNeAt.lists_lengths hl hl' (by rw [List.size_toArray, List.size_toArray]; simp; omega) (by omega)
theorem rn_at (ok : HOk P w H s.heap) {n : Nat} {A : Around} {d d' : Dt} {v v' : V} {u u' : Value} (h : DAt H d v) (h' : DAt H d' v') (r : RelV v u) (r' : RelV v' u') (f : DFit (n + 1) d) (hu : A.units + (n + 1) < cLine) : RcNeAt A s u u' (!deq d d') := by
 have hu0 : A.units < cLine := by omega
 cases d with
 | non =>
   have h : v = .non := h
   subst h
   cases r
   cases d' with
   | non =>
     have h' : v' = .non := h'
     subst h'
     cases r'
     simp only [deq, Bool.not_false, Bool.not_true]
     exact RcNeAt.none_none
   | bl b =>
     have h' : v' = .bl b := h'
     subst h'
     cases r'
     simp only [deq, Bool.not_false, Bool.not_true]
     exact RcNeAt.none_bool _
   | int b =>
     have h' : v' = .int b := h'
     subst h'
     obtain ⟨t', rfl⟩ := r'
     simp only [deq, Bool.not_false, Bool.not_true]
     exact RcNeAt.none_int _ _
   | str b =>
     have h' : v' = .str b := h'
     subst h'
     obtain ⟨t', rfl⟩ := r'
     simp only [deq, Bool.not_false, Bool.not_true]
     exact RcNeAt.none_str _ _
   | tup ds' =>
     obtain ⟨l', vs', rfl, e', hs'⟩ := h'
     cases r'
     obtain ⟨its', rv', hl'⟩ := DAts.tup_of ok e'
     simp only [deq, Bool.not_false, Bool.not_true]
     exact RcNeAt.none_tuple hl' hu0
   | lst ds' =>
     obtain ⟨l', vs', rfl, e', hs'⟩ := h'
     cases r'
     obtain ⟨its', rv', hl'⟩ := DAts.lst_of ok e'
     simp only [deq, Bool.not_false, Bool.not_true]
     exact RcNeAt.none_list hl' hu0
 | bl a =>
   have h : v = .bl a := h
   subst h
   cases r
   cases d' with
   | non =>
     have h' : v' = .non := h'
     subst h'
     cases r'
     simp only [deq, Bool.not_false, Bool.not_true]
     exact RcNeAt.bool_none _
   | bl b =>
     have h' : v' = .bl b := h'
     subst h'
     cases r'
     simp only [deq, Bool.not_false, Bool.not_true]
     exact RcNeAt.bool_bool _ _
   | int b =>
     have h' : v' = .int b := h'
     subst h'
     obtain ⟨t', rfl⟩ := r'
     simp only [deq, Bool.not_false, Bool.not_true]
     exact RcNeAt.bool_int _ _ _
   | str b =>
     have h' : v' = .str b := h'
     subst h'
     obtain ⟨t', rfl⟩ := r'
     simp only [deq, Bool.not_false, Bool.not_true]
     exact RcNeAt.bool_str _ _ _
   | tup ds' =>
     obtain ⟨l', vs', rfl, e', hs'⟩ := h'
     cases r'
     obtain ⟨its', rv', hl'⟩ := DAts.tup_of ok e'
     simp only [deq, Bool.not_false, Bool.not_true]
     exact RcNeAt.bool_tuple _ hl' hu0
   | lst ds' =>
     obtain ⟨l', vs', rfl, e', hs'⟩ := h'
     cases r'
     obtain ⟨its', rv', hl'⟩ := DAts.lst_of ok e'
     simp only [deq, Bool.not_false, Bool.not_true]
     exact RcNeAt.bool_list _ hl' hu0
 | int a =>
   have h : v = .int a := h
   subst h
   obtain ⟨t, rfl⟩ := r
   cases d' with
   | non =>
     have h' : v' = .non := h'
     subst h'
     cases r'
     simp only [deq, Bool.not_false, Bool.not_true]
     exact RcNeAt.int_none _ _
   | bl b =>
     have h' : v' = .bl b := h'
     subst h'
     cases r'
     simp only [deq, Bool.not_false, Bool.not_true]
     exact RcNeAt.int_bool _ _ _
   | int b =>
     have h' : v' = .int b := h'
     subst h'
     obtain ⟨t', rfl⟩ := r'
     simp only [deq, Bool.not_false, Bool.not_true]
     exact RcNeAt.int_int _ _ _ _
   | str b =>
     have h' : v' = .str b := h'
     subst h'
     obtain ⟨t', rfl⟩ := r'
     simp only [deq, Bool.not_false, Bool.not_true]
     exact RcNeAt.int_str _ _ _ _
   | tup ds' =>
     obtain ⟨l', vs', rfl, e', hs'⟩ := h'
     cases r'
     obtain ⟨its', rv', hl'⟩ := DAts.tup_of ok e'
     simp only [deq, Bool.not_false, Bool.not_true]
     exact RcNeAt.int_tuple _ _ hl' hu0
   | lst ds' =>
     obtain ⟨l', vs', rfl, e', hs'⟩ := h'
     cases r'
     obtain ⟨its', rv', hl'⟩ := DAts.lst_of ok e'
     simp only [deq, Bool.not_false, Bool.not_true]
     exact RcNeAt.int_list _ _ hl' hu0
 | str a =>
   have h : v = .str a := h
   subst h
   obtain ⟨t, rfl⟩ := r
   cases d' with
   | non =>
     have h' : v' = .non := h'
     subst h'
     cases r'
     simp only [deq, Bool.not_false, Bool.not_true]
     exact RcNeAt.str_none _ _
   | bl b =>
     have h' : v' = .bl b := h'
     subst h'
     cases r'
     simp only [deq, Bool.not_false, Bool.not_true]
     exact RcNeAt.str_bool _ _ _
   | int b =>
     have h' : v' = .int b := h'
     subst h'
     obtain ⟨t', rfl⟩ := r'
     simp only [deq, Bool.not_false, Bool.not_true]
     exact RcNeAt.str_int _ _ _ _
   | str b =>
     have h' : v' = .str b := h'
     subst h'
     obtain ⟨t', rfl⟩ := r'
     simp only [deq, Bool.not_false, Bool.not_true]
     exact RcNeAt.str_str _ _ _ _
   | tup ds' =>
     obtain ⟨l', vs', rfl, e', hs'⟩ := h'
     cases r'
     obtain ⟨its', rv', hl'⟩ := DAts.tup_of ok e'
     simp only [deq, Bool.not_false, Bool.not_true]
     exact RcNeAt.str_tuple _ _ hl' hu0
   | lst ds' =>
     obtain ⟨l', vs', rfl, e', hs'⟩ := h'
     cases r'
     obtain ⟨its', rv', hl'⟩ := DAts.lst_of ok e'
     simp only [deq, Bool.not_false, Bool.not_true]
     exact RcNeAt.str_list _ _ hl' hu0
 | tup ds =>
   obtain ⟨l, vs, rfl, e, hs⟩ := h
   cases r
   obtain ⟨its, rv, hl⟩ := DAts.tup_of ok e
   cases d' with
   | non =>
     have h' : v' = .non := h'
     subst h'
     cases r'
     simp only [deq, Bool.not_false, Bool.not_true]
     exact RcNeAt.tuple_none hl hu0
   | bl b =>
     have h' : v' = .bl b := h'
     subst h'
     cases r'
     simp only [deq, Bool.not_false, Bool.not_true]
     exact RcNeAt.tuple_bool _ hl hu0
   | int b =>
     have h' : v' = .int b := h'
     subst h'
     obtain ⟨t', rfl⟩ := r'
     simp only [deq, Bool.not_false, Bool.not_true]
     exact RcNeAt.tuple_int _ _ hl hu0
   | str b =>
     have h' : v' = .str b := h'
     subst h'
     obtain ⟨t', rfl⟩ := r'
     simp only [deq, Bool.not_false, Bool.not_true]
     exact RcNeAt.tuple_str _ _ hl hu0
   | tup ds' =>
     obtain ⟨l', vs', rfl, e', hs'⟩ := h'
     cases r'
     obtain ⟨its', rv', hl'⟩ := DAts.tup_of ok e'
     simp only [deq, Bool.not_false, Bool.not_true]
     exact rn_tups ok (deq_at ok n) hs hs' rv rv' hl hl' f.2 hu
   | lst ds' =>
     obtain ⟨l', vs', rfl, e', hs'⟩ := h'
     cases r'
     obtain ⟨its', rv', hl'⟩ := DAts.lst_of ok e'
     simp only [deq, Bool.not_false, Bool.not_true]
     exact RcNeAt.tuple_list hl hl' hu0
 | lst ds =>
   obtain ⟨l, vs, rfl, e, hs⟩ := h
   cases r
   obtain ⟨its, rv, hl⟩ := DAts.lst_of ok e
   cases d' with
   | non =>
     have h' : v' = .non := h'
     subst h'
     cases r'
     simp only [deq, Bool.not_false, Bool.not_true]
     exact RcNeAt.list_none hl hu0
   | bl b =>
     have h' : v' = .bl b := h'
     subst h'
     cases r'
     simp only [deq, Bool.not_false, Bool.not_true]
     exact RcNeAt.list_bool _ hl hu0
   | int b =>
     have h' : v' = .int b := h'
     subst h'
     obtain ⟨t', rfl⟩ := r'
     simp only [deq, Bool.not_false, Bool.not_true]
     exact RcNeAt.list_int _ _ hl hu0
   | str b =>
     have h' : v' = .str b := h'
     subst h'
     obtain ⟨t', rfl⟩ := r'
     simp only [deq, Bool.not_false, Bool.not_true]
     exact RcNeAt.list_str _ _ hl hu0
   | tup ds' =>
     obtain ⟨l', vs', rfl, e', hs'⟩ := h'
     cases r'
     obtain ⟨its', rv', hl'⟩ := DAts.tup_of ok e'
     simp only [deq, Bool.not_false, Bool.not_true]
     exact RcNeAt.list_tuple hl hl' hu0
   | lst ds' =>
     obtain ⟨l', vs', rfl, e', hs'⟩ := h'
     cases r'
     obtain ⟨its', rv', hl'⟩ := DAts.lst_of ok e'
     simp only [deq, Bool.not_false, Bool.not_true]
     exact rn_lists ok (deq_at ok n) hs hs' rv rv' hl hl' f.2 hu
end
section
variable {X : Cx}
def rNeG : R2 := fun x y H Q => ∃ n d d', DAt H d x /\ DAt H d' y /\ DFit (n + 1) d /\ n <= 60 /\ Q (.bl (!deq d d')) H
theorem op_neG (hu : X.A.units + 64 < cLine) : OpR X (compareOp .NotEq) rNeG := by
 intro pins s σ H x y v u Q I rx ry h
 obtain ⟨n, d, d', h1, h2, f, hn, q⟩ := h
 exact rn_at I.hok h1 h2 rx ry f (by omega) X.prog X.w _ _ (yB I q rfl)
def rInG (neg : Bool) : R2 := fun x y H Q => ∃ n d ds, DAt H d x /\ (DAt H (.lst ds) y \/ DAt H (.tup ds) y) /\ (∀ e ∈ ds, DFit n e) /\ n <= 60 /\ Q (.bl (neg ^^ ds.any fun e => deq e d)) H
open Classical in
theorem kD {H : Hp} {its : List Value} {vs : List V} {ds : List Dt} {d : Dt} (hs : DAts H ds vs) (rv : Vals vs its) (e : Value -> Bool) (he : ∀ y, e y = decide (∃ d' v', DAt H d' v' /\ RelV v' y /\ deq d' d = true)) : its.toArray.any e = ds.any fun e => deq e d := by
 rw [List.any_toArray]
 induction ds generalizing vs its with
 | nil =>
   have hs : vs = [] := hs
   subst hs
   cases rv
   rfl
 | cons d0 ds ih =>
   obtain ⟨v, r, rfl, e1, e2⟩ := hs
   cases rv with
   | cons rr rt =>
     rename_i u us
     rw [List.any_cons, List.any_cons, ih e2 rt, he]
     congr 1
     rw [Bool.eq_iff_iff, decide_eq_true_eq]
     constructor
     · rintro ⟨d', v', q1, q2, q3⟩
       have := RelV.inj q2 rr
       subst this
       rw [DAt.one_of e1 q1]
       exact q3
     · intro q
       exact ⟨d0, v, e1, rr, q⟩
open Classical in
theorem in_eq {P : Program} {w : World} {H : Hp} {s : Shared} {A : Around} (ok : HOk P w H s.heap) {its : List Value} {vs : List V} {ds : List Dt} {d : Dt} {x : V} {u : Value} {n : Nat} (hs : DAts H ds vs) (rv : Vals vs its) (hx : DAt H d x) (ru : RelV x u) (f : ∀ e ∈ ds, DFit n e) (hu : A.units + (n + 1) < cLine)
   (y : Value) (hy : y ∈ its.toArray) : EqAt A.in1 s y u (decide (∃ d' v', DAt H d' v' /\ RelV v' y /\ deq d' d = true)) := by
 obtain ⟨j, hj, e⟩ := List.getElem_of_mem (show y ∈ its by simpa using hy)
 have k1 := hs.length
 have k2 := rv.length
 have hjd : j < ds.length := by omega
 obtain ⟨v, v1, v2⟩ := hs.get (List.getElem?_eq_getElem hjd)
 have rr : RelV v y := vals_at rv v1 (by rw [List.getElem?_eq_getElem hj, e])
 have : decide (∃ d' v', DAt H d' v' /\ RelV v' y /\ deq d' d = true) = deq ds[j] d := by
   rw [Bool.eq_iff_iff, decide_eq_true_eq]
   constructor
   · rintro ⟨d', v', q1, q2, q3⟩
     have := RelV.inj q2 rr
     subst this
     rw [DAt.one_of v2 q1]
     exact q3
   · intro q
     exact ⟨_, v, v2, rr, q⟩
 rw [this]
 exact deq_at ok n v2 hx rr ru (f _ (List.getElem_mem hjd)) (by show A.units + 1 + n < cLine; omega)
theorem op_inG (hu : X.A.units + 64 < cLine) : OpR X (compareOp .In) (rInG false) := by
 intro pins s σ H x y v u Q I rx ry h
 obtain ⟨n, d, ds, hx, hy, f, hn, q⟩ := h
 rw [Bool.false_xor] at q
 rcases hy with ⟨l, vs, rfl, e, hs⟩ | ⟨l, vs, rfl, e, hs⟩
 · cases ry
   obtain ⟨its, rv, hl⟩ := DAts.lst_of I.hok e
   refine in_listAt _ hl (in_eq I.hok hs rv hx rx f (by omega)) (yB I q ?_)
   exact (kD hs rv _ fun _ => rfl).symm
 · cases ry
   obtain ⟨its, rv, hl⟩ := DAts.tup_of I.hok e
   refine in_tupleAt _ hl (in_eq I.hok hs rv hx rx f (by omega)) (yB I q ?_)
   exact (kD hs rv _ fun _ => rfl).symm
theorem wC (hu : X.A.units + 64 < cLine) : OpR X (compareOp .NotIn) (rInG true) := by
 intro pins s σ H x y v u Q I rx ry h
 obtain ⟨n, d, ds, hx, hy, f, hn, q⟩ := h
 rw [Bool.true_xor] at q
 rcases hy with ⟨l, vs, rfl, e, hs⟩ | ⟨l, vs, rfl, e, hs⟩
 · cases ry
   obtain ⟨its, rv, hl⟩ := DAts.lst_of I.hok e
   refine notIn_listAt _ hl (in_eq I.hok hs rv hx rx f (by omega)) (yB I q ?_)
   rw [kD hs rv _ fun _ => rfl]
 · cases ry
   obtain ⟨its, rv, hl⟩ := DAts.tup_of I.hok e
   refine notIn_tupleAt _ hl (in_eq I.hok hs rv hx rx f (by omega)) (yB I q ?_)
   rw [kD hs rv _ fun _ => rfl]
end
end L2
namespace L2
open PySem PySem.Spec PyProof.Rows PySem.SeqAt
section
variable {prog : Program} {w : World} {A : Around} {E : Value -> Shared -> Prop} {s : Shared}
structure Apt (z TI TO i1 i2 l1 l2 : Addr) : Prop where
 nd : [z, TI, TO, i1, i2].Nodup
 a1 : l1 ≠ z /\ l1 ≠ TO /\ l1 ≠ i1 /\ l1 ≠ i2
 a2 : l2 ≠ z /\ l2 ≠ TO /\ l2 ≠ i1 /\ l2 ≠ i2
end
section
variable {X : Cx} {pins : List (Addr × Obj)} {σ : St} {H : Hp} {s : Shared} {h' : Heap}
theorem Inv.turnedL {t' : Nat} {ch : List Addr} (I : Inv X pins σ H s) (k : ∀ b o, b ∉ ch -> s.heap.get? b = some o -> h'.get? b = some o) (hf : ∀ b ∈ ch, vM X pins H b) : Inv X pins σ H { s with heap := h', toks := t' } := by
 have nit : ∀ b u, H b = some u -> b ∉ ch := fun b u e z => by rw [(hf b z).1] at e; cases e
 have hL : X.env.locals ∉ ch := fun z => (hf _ z).2.1 rfl
 refine I.step (g' := s.gens) (d' := s.drawn) (ch := ch) (fun b hb => ?_) (fun b o _ _ hc e _ => k b o hc e) (fun b o _ _ hc e _ => ⟨o.slots, k b o hc e⟩) (fun _ _ _ _ n => n) (fun b o hc e => ⟨o, k b o hc e⟩) (fun _ _ e => e) (fun _ _ _ e => e) (fun b ps e => ⟨#[], by rw [e]; simp⟩) (fun m hm => ?_) (fun b u e => ?_) I.bare
 · obtain ⟨f0, f1, f2, f3, f4, f5⟩ := hf b hb
   exact ⟨f3, f1, f4, f5⟩
 · obtain ⟨o, es, ep, ho, r⟩ := hm
   exact ⟨o, es, ep, k _ o hL ho, r⟩
 · refine (I.hok b u e).stay (fun c v hc q => k c v ?_ q) (fun _ q => q) fun _ _ q => q
   rcases hc with z | z
   · rw [z]; exact nit b u e
   · exact nit c _ z
theorem Inv.turnedN {t' : Nat} {ch : List Addr} {p : Addr} {o : HO} (I : Inv X pins σ H s) (k : ∀ b o, b ∉ ch -> s.heap.get? b = some o -> h'.get? b = some o) (hf : ∀ b ∈ ch, vM X pins H b) (hp : s.heap.objs.size <= p) (new : ObjOk X.prog X.w (upd H p o) h' p o) :
   Inv X pins σ (upd H p o) { s with heap := h', toks := t' } := by
 have nit : ∀ b u, H b = some u -> b ∉ ch := fun b u e z => by rw [(hf b z).1] at e; cases e
 have hL : X.env.locals ∉ ch := fun z => (hf _ z).2.1 rfl
 have hn := I.hok.fresh hp
 have nep : ∀ {b : Addr} {u : HO}, H b = some u -> b ≠ p := fun e z => by rw [z, hn] at e; cases e
 refine I.step (g' := s.gens) (d' := s.drawn) (ch := ch) (fun b hb => ?_) (fun b o _ _ hc e _ => k b o hc e) (fun b o _ _ hc e _ => ⟨o.slots, k b o hc e⟩) (fun b u _ e n => ?_) (fun b o hc e => ⟨o, k b o hc e⟩) (fun _ _ e => by rw [zG (nep e)]; exact e) (fun _ _ _ e => by rw [zG (nep e)]; exact e) (fun b ps e => ⟨#[], by rw [zG (nep e), e]; simp⟩) (fun m hm => ?_) (fun b u e => ?_) I.bare
 · obtain ⟨f0, f1, f2, f3, f4, f5⟩ := hf b hb
   exact ⟨f3, f1, f4, f5⟩
 · rw [zG (Nat.ne_of_lt (Nat.lt_of_lt_of_le (Heap.lt_size e) hp))]
   exact n
 · obtain ⟨o, es, ep, ho, r⟩ := hm
   exact ⟨o, es, ep, k _ o hL ho, r⟩
 · by_cases hb : b = p
   · subst hb
     rw [zB] at e
     cases e
     exact new
   · rw [zG hb] at e
     refine (I.hok b u e).stay (fun c v hc q => k c v ?_ q) (fun c q => by rw [zG (nep q)]; exact q) fun c _ q => by rw [zG (nep q)]; exact q
     rcases hc with z | z
     · rw [z]; exact nit b u e
     · exact nit c _ z
end
section
variable {X : Cx}
end
end L2
namespace L2
open PySem PySem.Spec PyProof.Rows PySem.SeqAt
theorem lc_rangeIf {lo : Int} {n : Nat} {ns : List Str} {js : List Nat} {g : TG} {tc : TT} {te : TE} {σ : St} {H : Hp} {Q : VK} (Pv : Nat -> List V -> St -> Hp -> Prop) (h0 : Pv 0 [] (kC ns js σ) H) (hz : n <= sizeLine) (hl : ∀ i ys σ H, Pv i ys σ H -> ys.length <= i)
   (hs : ∀ (i : Nat) ys σ H (C : V -> St -> Hp -> Prop) (D : St -> Hp -> Prop), i < n -> Pv i ys σ H -> (∀ y σ2 H3, Pv (i + 1) (ys ++ [y]) σ2 H3 -> C y σ2 H3) -> (∀ σ2 H3, Pv (i + 1) ys σ2 H3 -> D σ2 H3) ->
     g (.int (lo + i)) σ H fun σ2 H2 => tc σ2 H2 fun b H3 => if b = true then te σ2 H3 fun y H4 => C y σ2 H4 else D σ2 H3)
   (hd : ∀ ys σ H, Pv n ys σ H -> ∀ p, H p = none -> Q (.ref p) (upd H p (.lst ys))) :
   LcW (Itr lo n) ns js g (some tc) te σ H Q := by
 refine ⟨fun i m ys σ H => m = n - i /\ i <= n /\ Pv i ys σ H, ⟨n, by omega, Nat.zero_le _, h0⟩, fun i m ys σ1 H1 ⟨hm, hi, hp⟩ => ?_⟩
 by_cases h : i < n
 · refine .inr ⟨h, ?_, fun x H' ⟨e, hx⟩ => ?_⟩
   · have := hl i ys σ1 H1 hp
     omega
   · subst e
     subst hx
     exact hs i ys σ1 _ _ _ h hp (fun y σ2 H3 q => ⟨n - (i + 1), by omega, rfl, by omega, q⟩) fun σ2 H3 q => ⟨n - (i + 1), by omega, rfl, by omega, q⟩
 · have e : i = n := by omega
   subst e
   exact .inl ⟨Nat.le_refl _, hd ys σ1 H1 hp⟩
end L2
namespace L2
open PySem PySem.Spec PyProof.Rows PySem.SeqAt
inductive Rw where
 | no | nm (x : Str) | bo (i j : Int)
def dRw : Rw -> Dt
 | .no => .tup [.str "none"]
 | .nm x => .tup [.str "name", .str x]
 | .bo i j => .tup [.str "both", .int i, .int j]
abbrev Pr := Int × Int
def dPr (p : Pr) : Dt := .tup [.int p.1, .int p.2]
abbrev yE := List Pr × Pr
def dNR (r : yE) : Dt := .tup [.lst (r.1.map dPr), dPr r.2]
inductive Wt where
 | n (i : Int) | ps (l : List Int)
def dWt : Wt -> Dt
 | .n i => .int i
 | .ps l => .tup (l.map .int)
structure Ln where
 i : Int
 j : Int
 w : Str
 as : List Wt
def vR (w : Str) (as : List Wt) : Dt := .tup (.str w :: as.map dWt)
def dLn (l : Ln) : Dt := .tup [.int l.i, .int l.j, vR l.w l.as]
def vT (b : Int) : Wt -> Bool
 | .n i => decide (0 <= i) && decide (i < b)
 | .ps _ => false
def uW (rows : List Rw) (n : Int) : List Int := if n % 2 = 0 then (match rows[(n / 2).toNat]? with | some (.bo i j) => [i, j] | _ => []) else []
def xX (ls : List Ln) (k : Nat) : Wt -> Option Pr
 | .n i => if 0 <= i /\ i < k then (ls[i.toNat]?).map fun l => (l.i, l.j) else none
 | .ps _ => none
def tn1 (n : Int) : Int := n + 1 - 2 * (n % 2)
def named (w : Str) : Option Int :=
 if w = "same" then some 0 else if w = "edge" then some 0 else if w = "part" then some 0 else if w = "both" then some 2 else if w = "turn" then some 1 else if w = "chain" then some 2 else if w = "clash" then some 1 else none
def yT (rows : List Rw) (i j : Int) (w : Str) (sd : List Pr) : Bool :=
 if w = "same" then i == j
 else if w = "edge" then i == 0 || j == 1
 else if w = "part" then (uW rows i).any fun x => x == j
 else if w = "both" then (match uW rows j with | [a, b] => sd == [(i, a), (i, b)] | _ => false)
 else if w = "turn" then sd == [(tn1 j, tn1 i)]
 else if w = "chain" then (match sd with | [p, q] => p.1 == i && p.2 == q.1 && q.2 == j | _ => false)
 else sd == [(i, tn1 i)]
def qK (rules : List yE) (ls : List Ln) (k : Nat) (l : Ln) : Bool :=
 match l.as with
 | [.n r, .ps ps] => if 0 <= r /\ r < rules.length then (match rules[r.toNat]? with | some q => (l.i, l.j) == q.2 && (ps.map fun p => xX ls k (.n p)) == q.1.map some | none => false) else false
 | _ => false
def xJ (rows : List Rw) (rules : List yE) (ls : List Ln) (k : Nat) (l : Ln) : Bool :=
 if ¬ (0 <= l.i /\ l.i < 2 * rows.length) \/ ¬ (0 <= l.j /\ l.j < 2 * rows.length) then false
 else if l.w = "rule" then qK rules ls k l
 else if named l.w = some (l.as.length : Int) /\ (l.as.all fun a => (xX ls k a).isSome) = true then yT rows l.i l.j l.w (l.as.filterMap (xX ls k))
 else false
theorem xor1 (n : Int) : Builtin.bitXor n 1 = tn1 n := by
 rw [bitXor_and]
 unfold tn1
 rw [bitAnd_m1]
end L2
namespace L2
open PySem PySem.Spec PyProof.Rows PySem.SeqAt
section
variable {prog : Program} {w : World} {A : Around} {E : Value -> Shared -> Prop} {s : Shared}
end
section
variable {X : Cx}
end
end L2
namespace L2
open PySem PySem.Spec PyProof.Rows PySem.SeqAt
section
variable {X : Cx}
end
end L2
namespace L2
open PySem
end L2
namespace L2
open PySem PyProof.Rows
section
variable {prog : Program} {w : World} {A : Around} {E : Value -> Shared -> Prop} {s : Shared}
end
section
variable {prog : Program} {w : World} {A : Around} {R : Result -> Shared -> Prop} {I : Addr} {fp wr : List Addr} {G : Array GenState -> Array GenState -> Prop} {n : Nat} {P : Nat -> Value -> Prop} {St : Nat -> Shared -> Prop}
end
section
variable {prog : Program} {w : World} {A : Around} {E : Value -> Shared -> Prop} {s : Shared}
end
end L2
namespace L2
open PySem PySem.Spec PyProof.Rows PySem.SeqAt PySem.W
section
variable {prog : Program} {w : World} {A : Around} {E : Value -> Shared -> Prop} {s : Shared} {T : String} {r d : Addr} {n : Nat} {P : Nat -> Value -> Prop} {OK : Heap -> Prop}
end
section
variable {X : Cx}
end
end L2
namespace L2
open PySem PySem.Spec PyProof.Rows PySem.SeqAt
def Ite (a : Addr) : It :=
 ⟨fun i H => ∃ xs x, H a = some (.lst xs) /\ xs[i]? = some x,
  fun i H v H' => ∃ p x, v = .ref p /\ H p = none /\ H' = upd H p (.tup [.int i, x]) /\ ∀ xs, H a = some (.lst xs) -> xs[i]? = some x,
  fun i H => ∃ xs, H a = some (.lst xs) /\ xs.length <= i⟩
def Eat (e it l : Addr) (i : Nat) (h : Heap) : Prop := (∃ old, IsEnum h e it i old) /\ h.IsListIter it l i
theorem turn_enum {P : Program} {w : World} {K : PySem.W.Frag} {elts : List Expr} {cx : _} {tp : Pos} (e it l : Addr) (ne : e ≠ it) :
   Turn P w K (.Tuple elts cx tp) (Ite l) [e, it] e (Eat e it l) where
 mem := by simp
 obj := fun i h st b hb => by
   obtain ⟨⟨old, ge⟩, ⟨o2, r2, _, d2⟩⟩ := st
   simp only [List.mem_cons, List.not_mem_nil, or_false] at hb
   rcases hb with rfl | rfl
   · exact ⟨_, ge, fun v e => by cases e⟩
   · exact ⟨_, r2, fun v e => by rw [d2] at e; cases e⟩
 keep := fun i h h' st k => by
   obtain ⟨⟨old, ge⟩, ⟨o2, r2, q2⟩⟩ := st
   exact ⟨⟨old, k _ (by simp) _ ge⟩, ⟨o2, k _ (by simp) _ r2, q2⟩⟩
 item := by
   intro X hP hw hK hc i pins s σ H E I hf st hg
   subst hP hw hK
   obtain ⟨xs, x, ha, hx⟩ := hg
   obtain ⟨its, rv, t1⟩ := DAts.lst_of I.hok ha
   obtain ⟨u, hu, ru⟩ := rv.get hx
   obtain ⟨⟨old, ge⟩, r1⟩ := st
   refine wpAny_pyNext_enum_item ge r1 t1 (by simpa using hu) ne fun h1 b1 b2 b3 b4 b5 => ?_
   refine ⟨_, rfl, wpAny_letOwnedTupleGo_enum (s := { s with heap := h1, toks := s.toks + 1 }) b1 fun h2 g2 s2 => ?_⟩
   have be : e < s.heap.objs.size := Heap.lt_size ge
   have bi : it < s.heap.objs.size := by obtain ⟨_, z, _⟩ := r1; exact Heap.lt_size z
   have keep2 : ∀ b o, b ∉ [e, it] -> s.heap.get? b = some o -> h2.get? b = some o := fun b o hb q => by
     simp only [List.mem_cons, List.not_mem_nil, or_false, not_or] at hb
     exact s2.extBut b o hb.1 (b5 b o hb.1 hb.2 q)
   have hfr : H s.heap.objs.size = none := I.hok.fresh (Nat.le_refl _)
   have gT := s2.extBut _ _ (Nat.ne_of_gt be) b3
   refine ⟨.ref s.heap.objs.size, _, I.turnedN (t' := s.toks + 1) (p := s.heap.objs.size) (o := .tup [.int i, x]) keep2 hf (Nat.le_refl _) ⟨zM (by simp), [.int i s.toks, u], .cons ⟨_, rfl⟩ (.cons ru .nil), ⟨_, gT, rfl, _, rfl⟩⟩, rfl, ⟨_, x, rfl, hfr, rfl, fun xs' e1 => ?_⟩, ?_, fun b hb => ?_⟩
   · rw [ha] at e1
     cases e1
     exact hx
   · obtain ⟨o2, b21, b22⟩ := b2
     exact ⟨⟨_, g2⟩, ⟨o2, s2.extBut _ _ (Ne.symm ne) b21, b22⟩⟩
   · have hb2 : b < s.heap.objs.size := by
       simp only [List.mem_cons, List.not_mem_nil, or_false] at hb
       rcases hb with rfl | rfl
       · exact be
       · exact bi
     rw [zG (Nat.ne_of_lt hb2)]
     exact (hf b hb).1
 done := by
   intro X hP hw hK hc i pins s σ H E I hf st hg
   subst hP hw hK
   obtain ⟨xs, ha, hl⟩ := hg
   obtain ⟨its, rv, t1⟩ := DAts.lst_of I.hok ha
   have k1 := rv.length
   obtain ⟨⟨old, ge⟩, r1⟩ := st
   refine wpAny_pyNext_enum_end (I.ok.hd hc) ge r1 t1 (by simp; omega) fun h1 kk => ⟨rfl, ?_⟩
   refine I.turnedL (ch := [it]) (t' := s.toks) (fun b o hb q => ?_) (fun b hb => hf b (by simp only [List.mem_cons, List.not_mem_nil, or_false] at hb ⊢; exact .inr hb))
   simp only [List.mem_cons, List.not_mem_nil, or_false] at hb
   exact kk b o hb q
 self := fun _ _ _ _ _ st h => by
   obtain ⟨⟨old, ge⟩, _⟩ := st
   exact wpAny_pyIter_enum ge h
section
variable {X : Cx}
def uE (ta : TA) : TI := fun σ H R => ta σ H fun vs H1 => ∃ a xs, vs = [.ref a] /\ H1 a = some (.lst xs) /\ R (Ite a) H1
theorem jL {elts : List Expr} {cx : _} {tp : Pos} {a : Expr} {ta : TA} {p pos : Pos} (hg : Gl X "enumerate") (hm : X.mg "enumerate" = none) (ha : PA X [a] ta) (hs : starEach [a] X.env = [(false, eval a X.env)] := by rfl) :
   PI X (.Tuple elts cx tp) (.Call (.Name "enumerate" p) [a] [] pos) (uE ta) := by
 intro pins s σ H R I h
 refine Call_ (qW I hg hm boot_enumerate (PyProof.Rows.callWith_type1 (thn (ha pos pins s σ H _ I h) fun us s1 ⟨vs, H1, I1, r1, q1⟩ => ?_) (by rw [hs]; rfl) (by rfl)))
 obtain ⟨l1, xs, e, h1, q⟩ := q1
 subst e
 cases r1 with
 | cons r rr =>
   cases rr
   cases r
   obtain ⟨its1, rv1, t1⟩ := DAts.lst_of I1.hok h1
   refine call_enumerate_list t1 fun h' gz g1 _ kk => ?_
   refine wpAny_pyIter_enum (s := { s1 with heap := h' }) gz ?_
   have fr : ∀ b, s1.heap.objs.size <= b -> vM X pins H1 b := fun b hb => I1.fpOk hb (I1.hok.fresh hb)
   refine ⟨_, [s1.heap.objs.size + 1, s1.heap.objs.size], _, _, H1, rfl, I1.kept (t' := s1.toks) kk, turn_enum _ _ l1 (Nat.succ_ne_self _), ⟨⟨_, gz⟩, g1⟩, fun b hb => ?_, q⟩
   simp only [List.mem_cons, List.not_mem_nil, or_false] at hb
   rcases hb with rfl | rfl <;> exact fr _ (by omega)
end
theorem uO {a : Addr} {xs : List V} {g : TG} {tb : TS} {D : Ends} {σ : St} {H : Hp} (Pv : Nat -> St -> Hp -> Prop) (h0 : Pv 0 σ H) (hl : ∀ i σ H, Pv i σ H -> H a = some (.lst xs))
   (hs : ∀ (i : Nat) x σ H p, xs[i]? = some x -> Pv i σ H -> H p = none -> g (.ref p) σ (upd H p (.tup [.int i, x])) fun σ2 H2 => tb { D with nx := Pv (i + 1), ct := Pv (i + 1), bk := D.nx } σ2 H2)
   (hd : ∀ σ H, Pv xs.length σ H -> D.nx σ H) : ForW (Ite a) g tb D σ H := by
 refine ⟨fun i m σ H => m = xs.length - i /\ i <= xs.length /\ Pv i σ H, ⟨_, by rfl, Nat.zero_le _, h0⟩, fun i m σ1 H1 ⟨hm, hi, hp⟩ => ?_⟩
 have k1 := hl i σ1 H1 hp
 by_cases h : i < xs.length
 · refine .inr ⟨⟨xs, _, k1, List.getElem?_eq_getElem h⟩, Pv (i + 1), fun σ' H' q => ⟨_, ?_, rfl, by omega, q⟩, fun v H' ⟨p, x, e1, e2, e3, e4⟩ => ?_⟩
   · omega
   · subst e1
     subst e3
     exact hs i x σ1 H1 p (e4 xs k1) hp e2
 · have e : i = xs.length := by omega
   subst e
   exact .inl ⟨⟨xs, k1, Nat.le_refl _⟩, hd σ1 H1 hp⟩
section
variable {X : Cx} {tg : Expr}
end
theorem qP {X : Cx} {K : PySem.W.Frag} {es : List Expr} {k : Nat} {t : TGs} {n : Nat} {pos : Pos} (hc : X.calm = true) (h : PGs X es t) (hK : X.K = K := by rfl)
   (hn : (assignEach es X.env).length = n := by rfl) (hst : (assignEach es X.env).findIdx? (·.1) = none := by rfl) : PG X (.Tuple es k pos) (qG K n t) := by
 subst hK
 exact jM hc h hn hst
theorem pe_bmK {X : Cx} (K : PySem.W.Frag) {o e : Expr} {es : List Expr} {to : TE} {t : TA} {name : Str} {apos cpos : Pos} {T id : String} {r : V -> List V -> Hp -> VK -> Prop} (pa : PlainAttrs T) (slot : Slot T name id) (hty : typeOf (.builtin id) = pure (.type "method_descriptor")) (hm : MtR X id r) (ho : PE X o to) (ha : PA X (e :: es) t)
   (hK : X.K = K := by rfl) (hbase : attributeBase o name X.env (eval o X.env) = eval o X.env := by rfl)
   (hfew : ((backTo cpos (starEach (e :: es) X.env)).all (fun x => !x.1) && (backToKw cpos (keywordEach [] X.env)).all (fun x => x.1.isSome)
     && decide ((e :: es).length + ([] : List Keyword).length + (if ([] : List Keyword).isEmpty then 0 else 1) < 30)) = true := by rfl)
   (hline : (apos.endLine == cpos.line) = true := by rfl) (hs : starEach (e :: es) X.env = (false, eval e X.env) :: starEach es X.env := by rfl) (hplain : (backTo cpos (starEach es X.env)).any (·.1) = false := by rfl) :
   PE X (.Call (.Attribute o name apos) (e :: es) [] cpos) (tBM K T r to t) := by
 subst hK
 exact xQ pa slot hty hm ho ha hbase hfew hline hs hplain
end L2
namespace L2
theorem odd_part : ∀ n : Nat, 0 < n -> ∃ t m, n = 2 ^ t * (2 * m + 1) := by
 intro n
 induction n using Nat.strongRecOn with
 | _ n ih =>
   intro h
   by_cases ho : n % 2 = 1
   · exact ⟨0, n / 2, by omega⟩
   · obtain ⟨t, m, e⟩ := ih (n / 2) (by omega) (by omega)
     refine ⟨t + 1, m, ?_⟩
     rw [Nat.pow_succ, Nat.mul_assoc, Nat.mul_left_comm, ← e]
     omega
theorem low_bits {n : Nat} (h : 0 < n) : ∃ t, n.testBit t = true /\ (∀ i, i < t -> n.testBit i = false) /\ n - (n &&& (n - 1)) = 2 ^ t /\ ∀ i, (n &&& (n - 1)).testBit i = (n.testBit i && decide (i ≠ t)) := by
 obtain ⟨t, m, e⟩ := odd_part n h
 have e1 : n = 2 ^ t * (2 * m + 1) + 0 := by omega
 have hp : 0 < 2 ^ t := Nat.two_pow_pos t
 have e2 : n - 1 = 2 ^ t * (2 * m) + (2 ^ t - 1) := by
   rw [e, Nat.mul_add, Nat.mul_one]
   omega
 have b1 : ∀ i, n.testBit i = if i < t then false else (2 * m + 1).testBit (i - t) := fun i => by
   rw [e, Nat.testBit_two_pow_mul]
   by_cases hi : i < t
   · rw [if_pos hi, decide_eq_false (by omega), Bool.false_and]
   · rw [if_neg hi, decide_eq_true (by omega), Bool.true_and]
 have b2 : ∀ i, (n - 1).testBit i = if i < t then true else (2 * m).testBit (i - t) := fun i => by
   rw [e2, Nat.testBit_two_pow_mul_add _ (by omega)]
   by_cases hi : i < t
   · rw [if_pos hi, if_pos hi, Nat.testBit_two_pow_sub_one, decide_eq_true hi]
   · rw [if_neg hi, if_neg hi]
 have ev : ∀ j, (2 * m).testBit j = ((2 * m + 1).testBit j && decide (j ≠ 0)) := fun j => by
   cases j with
   | zero => simp
   | succ j =>
     rw [Nat.testBit_succ, Nat.testBit_succ]
     have : (2 * m + 1) / 2 = 2 * m / 2 := by omega
     rw [this]
     simp
 have b3 : ∀ i, (n &&& (n - 1)).testBit i = (n.testBit i && decide (i ≠ t)) := fun i => by
   rw [Nat.testBit_and, b1, b2]
   by_cases hi : i < t
   · rw [if_pos hi, Bool.false_and, Bool.false_and]
   · rw [if_neg hi, if_neg hi, ev]
     have : decide (i - t ≠ 0) = decide (i ≠ t) := by
       rw [decide_eq_decide]
       omega
     rw [this]
     cases (2 * m + 1).testBit (i - t) <;> simp
 have e3 : n &&& (n - 1) = 2 ^ t * (2 * m) := by
   apply Nat.eq_of_testBit_eq
   intro i
   rw [b3, b1, Nat.testBit_two_pow_mul]
   by_cases hi : i < t
   · rw [if_pos hi, show decide (i ≥ t) = false from decide_eq_false (by omega), Bool.false_and, Bool.false_and]
   · rw [if_neg hi, show decide (i ≥ t) = true from decide_eq_true (by omega), Bool.true_and, ev]
     have : decide (i - t ≠ 0) = decide (i ≠ t) := by
       rw [decide_eq_decide]
       omega
     rw [this]
 refine ⟨t, ?_, fun i hi => ?_, ?_, b3⟩
 · rw [b1, if_neg (by omega), Nat.sub_self]
   simp
 · rw [b1, if_pos hi]
 · rw [e3, e, Nat.mul_add, Nat.mul_one]
   omega
def Bits (n : Nat) (xs : List Nat) : Prop := xs.Pairwise (· < ·) /\ ∀ i, n.testBit i = decide (i ∈ xs)
theorem Bits.nil {n : Nat} (h : Bits n []) : n = 0 := Nat.eq_of_testBit_eq fun i => by rw [h.2]; simp
theorem Bits.cons {n x : Nat} {xs : List Nat} (h : Bits n (x :: xs)) : 0 < n /\ n - (n &&& (n - 1)) = 2 ^ x /\ Bits (n &&& (n - 1)) xs := by
 have hx : n.testBit x = true := by rw [h.2]; simp
 have hn : 0 < n := Nat.pos_of_ne_zero fun z => by rw [z] at hx; simp at hx
 obtain ⟨t, t1, t2, t3, t4⟩ := low_bits hn
 have hp := List.pairwise_cons.mp h.1
 have e : t = x := by
   rw [h.2, decide_eq_true_eq] at t1
   rcases List.mem_cons.mp t1 with e | e
   · exact e
   · have := hp.1 t e
     rw [t2 x this] at hx
     cases hx
 subst e
 refine ⟨hn, t3, hp.2, fun i => ?_⟩
 rw [t4, h.2]
 by_cases hi : i = t
 · subst hi
   have : i ∉ xs := fun z => Nat.lt_irrefl _ (hp.1 i z)
   simp [this]
 · simp [hi]
end L2
namespace L2
open PySem PySem.Spec PyProof.Rows PySem.SeqAt
section
variable {X : Cx}
theorem ip_or : PIp X .BitOr (ipI fun i j => Builtin.bitOr i j) := by
 intro pins s σ H x y v u Q I r1 r2 h
 obtain ⟨i, j, e1, e2, q⟩ := h
 subst e1; subst e2
 obtain ⟨t, rfl⟩ := r1
 obtain ⟨t', rfl⟩ := r2
 exact ior_int ⟨.int _, H, I.tok _, ⟨_, rfl⟩, q⟩
theorem ip_xor : PIp X .BitXor (ipI fun i j => Builtin.bitXor i j) := by
 intro pins s σ H x y v u Q I r1 r2 h
 obtain ⟨i, j, e1, e2, q⟩ := h
 subst e1; subst e2
 obtain ⟨t, rfl⟩ := r1
 obtain ⟨t', rfl⟩ := r2
 exact ixor_int ⟨.int _, H, I.tok _, ⟨_, rfl⟩, q⟩
def rGetL : V -> V -> Hp -> VK -> Prop := fun x y H Q => ∃ (p : Addr) (xs : List V) (i : Nat) (v : V), x = .ref p /\ y = .int i /\ H p = some (.lst xs) /\ xs[i]? = some v /\ Q v H
theorem get_list : PGet X rGetL := by
 intro pins s σ H o i ov iv Q I ro ri h
 obtain ⟨p, xs, k, v, rfl, rfl, hp, hk, q⟩ := h
 cases ro
 obtain ⟨t, rfl⟩ := ri
 obtain ⟨its, r, pl, hz⟩ := I.list (SqL.of hp)
 obtain ⟨w, ew, rw'⟩ := r.get hk
 have hl := r.length
 have hkl := (List.getElem?_eq_some_iff.mp hk).1
 have hs := sizeLine_eq
 exact wpAny_getItem_list pl.isList (by omega) (by omega) (by simpa using ew) ⟨v, H, I, rw', q⟩
def rBitLen : V -> List V -> Hp -> VK -> Prop := fun x vs H Q => ∃ i : Int, x = .int i /\ vs = [] /\ Q (.int (Builtin.Int.intBits i)) H
theorem mt_bit_length : MtR X "int.bit_length" rBitLen := by
 intro pins s σ H x xs v us Q I rx rv h
 obtain ⟨i, rfl, rfl, q⟩ := h
 cases rv
 obtain ⟨t, rfl⟩ := rx
 exact call_int_bit_length ⟨.int _, H, I.tok _, ⟨_, rfl⟩, q⟩
end
theorem pe_fldK {X : Cx} (K : PySem.W.Frag) {e : Expr} {f : Str} {pos : Pos} {ta : TE} (he : PE X e ta) (hb : attributeBase e f X.env (eval e X.env) = eval e X.env) (hK : X.K = K := by rfl) : PE X (.Attribute e f pos) (qI K ta f) := by
 subst hK
 exact xC he hb
theorem not_not (x : Int) : Builtin.bitNot (Builtin.bitNot x) = x := by unfold Builtin.bitNot; omega
theorem or_mask (m n : Nat) : Builtin.bitOr (m : Int) (n : Int) = ((m ||| n : Nat) : Int) := by
 unfold Builtin.bitOr
 rw [bitAnd_nn (by unfold Builtin.bitNot; omega) (by unfold Builtin.bitNot; omega), not_not, not_not, not_not]
 simp
theorem and_mask (m n : Nat) : Builtin.bitAnd (m : Int) (n : Int) = ((m &&& n : Nat) : Int) := by
 rw [bitAnd_pp (by omega) (by omega)]
 simp
theorem low_mask {n : Nat} (h : 0 < n) : Builtin.bitAnd (n : Int) (-(n : Int)) = ((n - (n &&& (n - 1)) : Nat) : Int) := by
 rw [bitAnd_pn (by omega) (by omega)]
 have e : (Builtin.bitNot (-(n : Int))).toNat = n - 1 := by unfold Builtin.bitNot; omega
 rw [e, Int.toNat_natCast]
 have := Nat.and_le_left (n := n) (m := n - 1)
 omega
theorem xor_low {n x : Nat} (h : n - (n &&& (n - 1)) = 2 ^ x) (hb : n.testBit x = true) : Builtin.bitXor (n : Int) ((2 ^ x : Nat) : Int) = ((n &&& (n - 1) : Nat) : Int) := by
 rw [bitXor_and, and_mask]
 have e : n &&& 2 ^ x = 2 ^ x := by
   apply Nat.eq_of_testBit_eq
   intro i
   rw [Nat.testBit_and, Nat.testBit_two_pow]
   by_cases hi : x = i
   · subst hi; simp [hb]
   · simp [hi]
 rw [e]
 have := Nat.and_le_left (n := n) (m := n - 1)
 omega
theorem bits_pow (x : Nat) : Builtin.Int.intBits ((2 ^ x : Nat) : Int) = x + 1 := by
 unfold Builtin.Int.intBits
 have hp : 0 < 2 ^ x := Nat.two_pow_pos x
 rw [if_neg (by rw [beq_iff_eq]; omega), Int.natAbs_natCast, Nat.log2_two_pow]
theorem shl_one (x : Nat) : (1 : Int) * 2 ^ (x : Int).toNat = ((2 ^ x : Nat) : Int) := by
 rw [Int.one_mul, Int.toNat_natCast]
 simp
end L2
namespace L2
open PySem PySem.Spec PyProof.Rows PySem.SeqAt
section
variable {prog : Program} {w : World} {K : Type} [DecidableEq K] {knd : HeapKind prog w K} {A : Around} {E : Value -> Shared -> Prop} {s : Shared} {d a : Addr} {k : K} {xs : List (K × Addr × Value)}
theorem sdef_heap {v : Value} {Q : Value -> Shared -> Prop} (hu : knd.room A) (hkey : knd.is s.heap k a) (hm : s.heap.DictOfH knd d xs)
   (h1 : ∀ p, atKey xs k = some p -> Q p.2 { s with toks := s.toks + knd.draws k })
   (h2 : atKey xs k = none -> ∀ h', h'.DictOfH knd d (storedH xs k a v) -> Heap.SameBut d s.heap h' -> Q v { s with heap := h', toks := s.toks + knd.draws k })
   (hsz : xs.length <= sizeLine) : wpAny (model prog w) A (dictSetDefault d (.ref a) v) Q E s := by
 obtain ⟨o, es, ep, ho, hc, hd, he, his, hn⟩ := hm
 unfold dictSetDefault
 try with_reducible refine wpAny_holding ?_
 refine wpAny_bind (knd.pyHash hu hkey ?_)
 refine wpAny_bind (wpAny_dictFind_heap (s := { s with toks := s.toks + knd.draws k }) hu hkey ho hd he his hn ?_ ?_)
 · intro hno
   have hnot : k ∉ xs.map (·.1) := not_mem_keys_of_get hno
   refine wpAny_bind (wpAny_rule (wpAny_bind (wpAny_updateDictKeys (hz := by have e := size_of_entries he; omega) (s := { s with toks := s.toks + knd.draws k }) ho hd (wpAny_pure (h2 (atKey_none_of_get hno) _ ⟨_, _, ep + 1, Heap.get?_update_self _ ho (Obj.isFreed_of_dict (Obj.data_mapDictKeys hd _)),
     hc.mapDictKeys _, Obj.data_mapDictKeys hd _, ?_, ?_, ?_⟩ (Heap.SameBut.update ..))))))
   · rw [storedH_new (atKey_none_of_get hno)]
     simp [he, entryOfKey]
   · rw [storedH_new (atKey_none_of_get hno)]
     intro x hx
     rcases List.mem_append.mp hx with hx | hx
     · exact knd.keeps (his x hx) ho hd (Heap.SameBut.update ..)
     · simp only [List.mem_singleton] at hx
       subst hx
       exact knd.keeps hkey ho hd (Heap.SameBut.update ..)
   · rw [storedH_new (atKey_none_of_get hno)]
     rw [List.map_append, List.nodup_append]
     refine ⟨hn, by simp, ?_⟩
     intro x hx y hy
     simp only [List.map_cons, List.map_nil, List.mem_singleton] at hy
     subst hy
     exact fun e => hnot (e ▸ hx)
 · intro j p hj
   refine wpAny_bind (wpAny_dictEntries (s := { s with toks := s.toks + knd.draws k }) ho hd ?_)
   rw [entry_at he j, hj]
   exact wpAny_bind (wpAny_rule (wpAny_pure (h1 p (atKey_of_get hn hj))))
theorem sdef_meets (hd : (d == sysModules) = false) (dflt : Value) :
   MeetsIn prog w (Builtin.«dict.setdefault» ⟨[.ref d, .ref a, dflt], []⟩) (fun A R s => knd.room A.in1 /\ ∃ k xs, knd.is s.heap k a /\ s.heap.DictOfH knd d xs /\ xs.length <= sizeLine /\
     (∀ p, atKey xs k = some p -> R (.ok (.ret p.2)) { s with toks := s.toks + knd.draws k }) /\
     (atKey xs k = none -> ∀ h', h'.DictOfH knd d (storedH xs k a dflt) -> Heap.SameBut d s.heap h' -> R (.ok (.ret dflt)) { s with heap := h', toks := s.toks + knd.draws k })) :=
 .of_wp fun A R s ⟨hu, k, xs, hkey, hm, hz, h1, h2⟩ => by
   unfold Builtin.«dict.setdefault»
   refine wpAny_bind ?_
   unfold Builtin.Dict.keyAndDefault
   refine wpAny_bind (wpAny_notOrdered_dict hm.typeIs ?_)
   show wpAny _ _ (pure (d, Value.ref a, some dflt)) _ _ s
   refine wpAny_pure ?_
   show wpAny _ _ (if (d == sysModules) = true then _ else (dictSetDefault d (.ref a) dflt >>= _)) _ _ s
   rw [if_neg (by rw [hd]; exact Bool.false_ne_true)]
   exact wpAny_bind (sdef_heap hu hkey hm (fun p hp => wpAny_pure ⟨p.2, rfl, h1 p hp⟩) (fun hn h' hm' hs' => wpAny_pure ⟨dflt, rfl, h2 hn h' hm' hs'⟩) hz)
end
theorem relO_some {v : V} {u : Value} (h : RelO (some v) (some u)) : RelV v u := h
def tSDef (td ty tx : TE) : TE := fun σ H Q => td σ H fun x H1 => ∃ a, x = .ref a /\ IsD H1 a /\ ty σ H1 fun y H2 => tx σ H2 fun z H3 => ∃ (kvs : List (List Key × V)) (k : List Key) (b : Addr), H3 a = some (.dT kvs) /\ y = .ref b /\ H3 b = some (.tup (k.map kV)) /\ kvs.length < sizeLine /\
 (∀ v, yG kvs k = some v -> Q v H3) /\ (yG kvs k = none -> Q z (upd H3 a (.dT (xT kvs k z))))
section
variable {X : Cx} {o e f : Expr} {apos cpos : Pos} {td ty tx : TE}
theorem pe_sdef (hu : X.A.units + 1 < cLine) (ho : PE X o td) (he : PE X e ty) (hf : PE X f tx) (m : M2 X o "setdefault" apos e f cpos) : PE X (.Call (.Attribute o "setdefault" apos) [e, f] [] cpos) (tSDef td ty tx) := by
 intro pins s σ H Q I h
 refine wpAny_Call_method m.base m.few m.line PySem.F.plainAttrs_dict PySem.F.slot_dict_setdefault PySem.F.type_dict_setdefault (thn (ho pins s σ H _ I h) fun u s1 ⟨x, H1, I1, rx, a, ex, d, q1⟩ => ?_)
 subst ex
 obtain rfl : u = Value.ref a := rx
 obtain ⟨t1, t2, _⟩ := isD_at I1 d
 refine ⟨t1, t2, ?_⟩
 rw [m.trees]
 refine Calls.callWith_builtin rfl (Calls.evalArgs_plain (Calls.spliced_cons (thn (he pins s1 σ H1 _ I1 q1) fun iv s2 ⟨y, H2, I2, ry, q2⟩ =>
   Calls.spliced_cons (thn (hf pins s2 σ H2 _ I2 q2) fun fv s3 ⟨z, H3, I3, rz, kvs, k, b, e, ey, eb, l, q3, q4⟩ => Calls.spliced_nil ?_))))
 subst ey
 cases (show iv = Value.ref b from ry)
 obtain ⟨z0, hd, xs, rel, dd⟩ := dt_of I3.hok e
 have hz : xs.length <= sizeLine := by rw [← Paired.length rel]; exact z0
 have hl : (xT kvs k z).length <= sizeLine := by have := jA kvs k z; omega
 refine call_meetsIn PySem.F.slot_dict_setdefault dd.typeIs PySem.F.entry_dict_setdefault (PySem.F.args_dict_setdefault_3 _ _ _) (sdef_meets (knd := tupleKind (yJ X.prog X.w)) hd fv) ⟨tupleKind_room_in1 hu, k, xs, jT I3.hok eb, dd, hz, fun p hp => ?_, fun hn h' dd' hs => ?_⟩
 · have rv := rel.val k
   rw [hp] at rv
   cases hv : yG kvs k with
   | none => rw [hv] at rv; cases rv
   | some v =>
     rw [hv] at rv
     exact ⟨v, H3, I3.tok _, relO_some rv, q3 v hv⟩
 · have rv := rel.val k
   rw [hn] at rv
   have hv : yG kvs k = none := by
     cases hv : yG kvs k with
     | none => rfl
     | some v => rw [hv] at rv; cases rv
   obtain ⟨q, es, ep, hq, h2, h3, h4, _, h5⟩ := dd'
   refine ⟨z, upd H3 a (.dT (xT kvs k z)), kG I3 (by rw [e]; exact True.intro) hs ⟨q, hq⟩ ⟨hl, hd, _, (rel.put k eb rz).keeps fun c ys ec => ?_, q, es, ep, hq, h2, h3, h4, h5⟩, rz, q4 hv⟩
   rw [zG (xS ec e (fun z => nomatch z))]
   exact ec
end
end L2
namespace L2
open PySem PySem.Spec PyProof.Rows PySem.W
section
variable {prog : Program} {w : World} {A : Around} {E : Value -> Shared -> Prop} {s : Shared}
def RawD (h : Heap) (d : Addr) (es : Array DictEntry) (ep : Nat) : Prop := ∃ o, h.get? d = some o /\ o.ExactDict /\ o.data = .dict es ep
theorem RawD.typeIs {d : Addr} {es : Array DictEntry} {ep : Nat} (x : RawD s.heap d es ep) : s.TypeIs (.ref d) "dict" := let ⟨o, ho, hc, _⟩ := x; ⟨o, ho, hc.1⟩
theorem raw_len (d : Addr) (hd : (d == sysModules) = false) : MeetsIn prog w (Builtin.«dict.__len__» ⟨[.ref d], []⟩) (fun _ R s => ∃ es ep, RawD s.heap d es ep /\ R (.ok (.ret (.int es.size s.toks))) { s with toks := s.toks + 1 }) :=
 .of_wp fun A R s ⟨es, ep, hm, h⟩ => by
   obtain ⟨o, a1, a2, a3⟩ := id hm
   show wpAny _ _ (dictSize d >>= _) _ _ s; unfold dictSize
   refine wpAny_bind (wpAny_bind (wpAny_dictEntries a1 a3 (wpAny_pure ?_))); show wpAny _ _ (Builtin.Dict.pendingCount d >>= _) _ _ s
   refine wpAny_bind (wpAny_pendingCount_other hd ?_); refine wpAny_ret_mkInt ?_
   rw [Nat.add_zero]; exact h
end
theorem vals_of : ∀ {ys : List V} {us : List Value}, ys.length = us.length -> (∀ (i : Nat) (y : V) (u : Value), ys[i]? = some y -> us[i]? = some u -> RelV y u) -> Vals ys us
 | [], [], _, _ => .nil
 | [], _ :: _, h, _ => by simp at h
 | _ :: _, [], h, _ => by simp at h
 | y :: ys, u :: us, h, hh => .cons (hh 0 y u rfl rfl) (vals_of (by simpa using h) fun i y' u' h1 h2 => hh (i + 1) y' u' (by simpa using h1) (by simpa using h2))
theorem KT.at {H : Hp} : ∀ {kvs : List (List Key × V)} {xs : List (List Key × Addr × Value)}, KT H kvs xs -> ∀ {i : Nat} {p : List Key × V} {q : List Key × Addr × Value}, kvs[i]? = some p -> xs[i]? = some q -> RelV p.2 q.2.2
 | _, _, .nil, i, p, q, h, _ => by simp at h
 | _, _, .cons hq t, 0, p, q, h1, h2 => by
   simp only [List.getElem?_cons_zero, Option.some.injEq] at h1 h2
   subst h1 h2
   exact hq.2.2
 | _, _, .cons hq t, i + 1, p, q, h1, h2 => KT.at t (by simpa using h1) (by simpa using h2)
section
variable {X : Cx}
theorem call_lenT : jF X (.builtin "len") (fun xs H Q => ∃ a kvs, xs = [V.ref a] /\ H a = some (.dT kvs) /\ Q (.int kvs.length) H) := by
 intro pins s σ H xs us Q I r h
 obtain ⟨a, kvs, rfl, ha, q⟩ := h
 obtain ⟨u, rfl, ru⟩ := qH r
 cases ru
 obtain ⟨hz, lo, xs, kt, oo, es, ep, o1, o2, o3, o4, o5, o6⟩ := dt_of I.hok ha
 have raw : RawD s.heap a es ep := ⟨oo, o1, o2, o3⟩
 have hlen : es.size = kvs.length := by
   rw [← Array.length_toList, o4, List.length_map]
   exact (Paired.length kt).symm
 have hs : sizeLine = 16777216 := sizeLine_eq
 refine call_len_slot (n := (es.size : Int)) raw.typeIs PySem.F.slot_dict_len (fun Q' hq => call_meetsIn PySem.F.slot_dict_len raw.typeIs PySem.F.entry_dict_len (PySem.F.args_dict_len_1 _) (raw_len a lo) ⟨es, ep, raw, hq⟩) (by omega) (by omega) ?_
 rw [hlen]
 exact ⟨.int kvs.length, H, (I.tok _), ⟨_, rfl⟩, q⟩
end
end L2
namespace L2
open PySem PySem.Spec PyProof.Rows PySem.W
section
variable {prog : Program} {w : World} {A : Around} {E : Value -> Shared -> Prop} {s : Shared}
end
section
variable {prog : Program} {w : World} {A : Around} {E : Value -> Shared -> Prop} {s : Shared}
end
section
variable {prog : Program} {w : World} {A : Around} {E : Value -> Shared -> Prop} {s : Shared} {T : String} {J : Addr} {fp wr : List Addr} {n : Nat} {P : Nat -> Value -> Prop} {St : Nat -> Heap -> Prop}
structure ItSrc (prog : Program) (w : World) (T : String) (J : Addr) (fp wr : List Addr) (n : Nat) (P : Nat -> Value -> Prop) (St : Nat -> Heap -> Prop) : Prop where
 walks : ∀ A : Around, A.handled = none -> Walks prog w A J fp wr n P St
 type : ∀ s : Shared, St 0 s.heap -> s.TypeIs (.ref J) T
 nl : (Value.type T == Value.type "list") = false
 nt : (Value.type T == Value.type "tuple") = false
 hint : ∀ (A : Around) (E : Value -> Shared -> Prop) (s : Shared) (Q : Bool -> Shared -> Prop), St 0 s.heap -> Q false s -> wpAny (model prog w) A (Builtin.List.listLengthHint (.ref J)) Q E s
 mem : J ∈ fp
 sub : wr ⊆ fp
end
theorem bt_min : bootBuiltins "min" = some (.builtin "min") := by decide +kernel
section
variable {X : Cx}
theorem call_intB : jF X (.type "int") (fun xs H Q => ∃ b, xs = [.bl b] /\ Q (.int (if b then 1 else 0)) H) := by
 intro pins s σ H xs us Q I r h
 obtain ⟨b, rfl, q⟩ := h
 obtain ⟨u, rfl, ru⟩ := qH r
 have e : u = Value.bool b := ru
 subst e
 exact call_int_bool ⟨.int _, H, I.tok _, ⟨_, rfl⟩, q⟩
theorem mt_joinK (K : PySem.W.Frag) (h : X.K = K := by rfl) : MtR X "str.join" (fun x xs H Q => ∃ (z : Str) (p : Addr) (ys : List Str), x = .str z /\ xs = [.ref p] /\ SqL K H p (ys.map V.str) /\ (ys.map (·.length)).sum + ys.length * z.length <= 16777216 /\ Q (.str (Txt.join z ys)) H) := by subst h; exact mt_join
end
end L2
namespace L2
open PySem PySem.Spec PyProof.Rows PySem.W
section
variable {X : Cx}
theorem pi_listK {tg l : Expr} {tl : TE} (K : PySem.W.Frag) (hl : PE X l tl) (h : X.K = K := by rfl) : PI X tg l (iList K tl) := by subst h; exact yI hl
end
end L2
namespace L2
open PySem PySem.Spec PyProof.Rows PySem.W
def KOk (n : Nat) {α : Type} (P : α -> Prop) : KasT α -> Prop
 | .ret a => P a
 | .ask i j k => i < n /\ j < n /\ i ≠ j /\ ∀ b, KOk n P (k b)
theorem KOk.bind {n : Nat} {α β : Type} {P : α -> Prop} {R : β -> Prop} {f : α -> KasT β} : ∀ {t : KasT α}, KOk n P t -> (∀ a, P a -> KOk n R (f a)) -> KOk n R (t.bind f)
 | .ret a, h, hf => hf a h
 | .ask i j k, h, hf => ⟨h.1, h.2.1, h.2.2.1, fun b => KOk.bind (h.2.2.2 b) hf⟩
theorem KOk.mono {n : Nat} {α : Type} {P R : α -> Prop} (hp : ∀ a, P a -> R a) : ∀ {t : KasT α}, KOk n P t -> KOk n R t
 | .ret a, h => hp a h
 | .ask i j k, h => ⟨h.1, h.2.1, h.2.2.1, fun b => KOk.mono hp (h.2.2.2 b)⟩
def PermN (n : Nat) (p : Array Nat) : Prop := p.toList.Perm (List.range n)
theorem PermN.size {n : Nat} {p : Array Nat} (h : PermN n p) : p.size = n := by
 have := List.Perm.length_eq h
 rwa [Array.length_toList, List.length_range] at this
theorem PermN.of {n : Nat} {p q : Array Nat} (h : PermN n p) (e : q.Perm p) : PermN n q := (Array.perm_iff_toList_perm.mp e).trans h
theorem PermN.rev {n : Nat} {p : Array Nat} (h : PermN n p) (i j : Nat) : PermN n (kas_rev p i j) := h.of (mirror_perm _ _ _ _)
theorem PermN.at {n : Nat} {p : Array Nat} (h : PermN n p) {i : Nat} (hi : i < n) : p.getD i 0 < n := by
 have hs : i < p.size := by rw [h.size]; exact hi
 have e : p.getD i 0 = p[i] := by simp [Array.getD, hs]
 rw [e]
 exact List.mem_range.mp (h.mem_iff.mp (by simp))
theorem PermN.ne {n : Nat} {p : Array Nat} (h : PermN n p) {i j : Nat} (hi : i < n) (hj : j < n) (hij : i ≠ j) : p.getD i 0 ≠ p.getD j 0 := by
 have hs : i < p.size := by rw [h.size]; exact hi
 have hs' : j < p.size := by rw [h.size]; exact hj
 have e : p.getD i 0 = p[i] := by simp [Array.getD, hs]
 have e' : p.getD j 0 = p[j] := by simp [Array.getD, hs']
 rw [e, e']
 have nd : p.toList.Nodup := h.nodup_iff.mpr List.nodup_range
 intro z
 have := List.pairwise_iff_getElem.mp nd
 rcases Nat.lt_or_gt_of_ne hij with l | l
 · exact this i j (by simpa using hs) (by simpa using hs') l (by simpa using z)
 · exact this j i (by simpa using hs') (by simpa using hs) l (by simpa using z.symm)
theorem PermN.ask {n : Nat} {p : Array Nat} (h : PermN n p) {α : Type} {P : α -> Prop} {i j : Nat} {k : Bool -> KasT α} (hi : i < n) (hj : j < n) (hij : i ≠ j) (hk : ∀ b, KOk n P (k b)) : KOk n P (.ask (p.getD i 0) (p.getD j 0) k) := ⟨h.at hi, h.at hj, h.ne hi hj hij, hk⟩
theorem asc_ok {n : Nat} {p : Array Nat} (h : PermN n p) : ∀ (f m : Nat), 1 <= m -> m + f <= n -> KOk n (fun r => m <= r /\ r <= m + f) (kas_asc p f m)
 | 0, m, _, _ => ⟨Nat.le_refl _, Nat.le_refl _⟩
 | f + 1, m, h1, h2 => by
   refine h.ask (by omega) (by omega) (by omega) fun b => ?_
   cases b with
   | true => exact ⟨Nat.le_refl _, by omega⟩
   | false => exact KOk.mono (fun r hr => ⟨by omega, by omega⟩) (asc_ok h f (m + 1) (by omega) (by omega))
theorem desc_ok {n : Nat} : ∀ (f : Nat) (p : Array Nat) (m q : Nat), PermN n p -> 1 <= m -> m + f <= n -> KOk n (fun r => PermN n r.1 /\ m <= r.2.1 /\ r.2.1 <= m + f) (kas_desc f p m q)
 | 0, p, m, q, h, _, _ => ⟨h, Nat.le_refl _, Nat.le_refl _⟩
 | f + 1, p, m, q, h, h1, h2 => by
   have up : ∀ p' q', PermN n p' -> KOk n (fun r => PermN n r.1 /\ m <= r.2.1 /\ r.2.1 <= m + (f + 1)) (kas_desc f p' (m + 1) q') := fun p' q' hp' => KOk.mono (fun r hr => ⟨hr.1, by omega, by omega⟩) (desc_ok f p' (m + 1) q' hp' (by omega) (by omega))
   refine h.ask (by omega) (by omega) (by omega) fun b => ?_
   cases b with
   | true =>
     show KOk n _ (if q > 0 then _ else _)
     split
     · exact up _ _ (h.rev _ _)
     · exact up _ _ h
   | false =>
     refine h.ask (by omega) (by omega) (by omega) fun b => ?_
     cases b with
     | true => exact ⟨h, by show m <= m; omega, by show m <= _; omega⟩
     | false => exact up _ _ h
theorem tail3_ok {n m : Nat} {p : Array Nat} (h : PermN n p) (h1 : 1 <= m) (h2 : m <= n) : KOk n (fun r => PermN n r.2 /\ 1 <= r.1 /\ r.1 <= n) (kas_tail3 m n p) := by
 refine KOk.bind (asc_ok (h.rev _ _) (n - m) m h1 (by omega)) fun a ha => ?_
 exact ⟨h.rev _ _, by show 1 <= a; omega, by show a <= n; omega⟩
theorem uF {n m : Nat} {p : Array Nat} (h : PermN n p) (h1 : 1 <= m) (h2 : m + 1 <= n) : KOk n (fun r => PermN n r.2 /\ 1 <= r.1 /\ r.1 <= n) (kas_descPart m n p) := by
 refine KOk.bind (desc_ok (n - (m + 1)) p (m + 1) 0 h (by omega) (by omega)) fun r hr => ?_
 split
 · exact tail3_ok (hr.1.rev _ _) (by omega) (by omega)
 · exact tail3_ok hr.1 (by omega) (by omega)
theorem count_ok {n : Nat} {p : Array Nat} (h : PermN n p) (hn : 1 <= n) : KOk n (fun r => PermN n r.2 /\ 1 <= r.1 /\ r.1 <= n) (kas_count n p) := by
 refine KOk.bind (asc_ok h (n - 1) 1 (Nat.le_refl _) (by omega)) fun a ha => ?_
 by_cases e : (a == n) = true
 · rw [if_pos e]
   exact ⟨h, by show 1 <= a; omega, by show a <= n; omega⟩
 rw [if_neg e]
 have ne : a ≠ n := fun z => e (by rw [z]; simp)
 by_cases g : a > 1
 · rw [if_pos g]
   refine h.ask (by omega) (by omega) (by omega) fun b => ?_
   cases b with
   | true => exact ⟨h, by show 1 <= a; omega, by show a <= n; omega⟩
   | false => exact uF (h.rev _ _) (by omega) (by omega)
 · rw [if_neg g]
   exact uF h (by omega) (by omega)
theorem uU {n : Nat} {p : Array Nat} (h : PermN n p) {k : Nat} (hk : k < n) : ∀ (f l r : Nat), l <= k -> r <= k -> KOk n (fun x => x <= k) (kas_place p k f l r)
 | 0, l, r, hl, _ => hl
 | f + 1, l, r, hl, hr => by
   show KOk n _ (if l ≥ r then _ else _)
   split
   · exact hl
   · refine h.ask (by omega) (by omega) (by omega) fun b => ?_
     cases b with
     | true => exact uU h hk f l _ hl (by omega)
     | false => exact uU h hk f _ r (by omega) hr
theorem bin_ok {n : Nat} : ∀ (f : Nat) (p : Array Nat) (k : Nat), PermN n p -> k + f <= n -> KOk n (PermN n) (kas_bin f p k)
 | 0, p, k, h, _ => h
 | f + 1, p, k, h, hk => KOk.bind (uU h (by omega) k 0 k (by omega) (by omega)) fun l _ => bin_ok f _ (k + 1) (h.of (bubble_perm _ _ _)) (by omega)
theorem wU {n : Nat} (hn : 1 <= n) : KOk n (PermN n) (kas_sort n) := by
 refine KOk.bind (count_ok (n := n) (p := List.toArray (List.range n)) (List.Perm.refl _) hn) fun r hr => ?_
 split
 · refine bin_ok _ _ _ hr.1 ?_
   have : max r.1 1 = r.1 := by omega
   omega
 · exact hr.1
section
variable {prog : Program} {w : World} {A : Around} {E : Value -> Shared -> Prop} {s : Shared}
theorem perm_out {vs : List Value} {p : Array Nat} (h : PermN vs.length p) : (p.toList.map fun i => vs.getD i Value.none).Perm vs := by
 have h1 : (p.toList.map fun i => vs.getD i Value.none).Perm ((List.range vs.length).map fun i => vs.getD i Value.none) := List.Perm.map _ h
 have e : (List.range vs.length).map (fun i => vs.getD i Value.none) = vs := by
   refine List.ext_getElem (by simp) fun i h1 h2 => ?_
   rw [List.getElem_map, List.getElem_range]
   rw [List.getD_eq_getElem?_getD, List.getElem?_eq_getElem h2]
   rfl
 rwa [e] at h1
end
section
variable {X : Cx}
theorem refs_are : ∀ {as : List Addr} {us : List Value}, Vals (as.map V.ref) us -> us = as.map Value.ref
 | [], _, .nil => rfl
 | a :: as, _, .cons r t => by
   have e : _ = Value.ref a := r
   rw [e, refs_are t]
   rfl
def TupS (H : Hp) (a : Addr) (z : Str) : Prop := ∃ r, H a = some (.tup (.str z :: r))
theorem TupS.raw {P : Program} {w : World} {H : Hp} {h : Heap} {a : Addr} {z : Str} (ok : HOk P w H h) (t : TupS H a z) : ∃ o xs n tk r, h.get? a = some o /\ o.cls = .type "tuple" /\ o.data = .seq xs n /\ xs = (Value.str z tk :: r).toArray := by
 obtain ⟨r, ht⟩ := t
 obtain ⟨_, its, rr, o, h1, h2, n, h3⟩ := (show ObjOk P w H h a (.tup (.str z :: r)) from ok a _ ht)
 cases rr with
 | cons r1 r2 =>
   obtain ⟨tk, rfl⟩ := r1
   exact ⟨o, _, n, tk, _, h1, h2, h3, rfl⟩
theorem kat_of {P : Program} {w : World} {H : Hp} {h h' : Heap} (ok : HOk P w H h) (kp : ∀ b o, h.get? b = some o -> h'.get? b = some o) : ∀ (as : List Addr) (zs : List Str), as.length = zs.length -> (∀ (i : Nat) (a : Addr) (z : Str), as[i]? = some a -> zs[i]? = some z -> TupS H a z) -> ∃ fs, KatTups h' (as.map Value.ref) fs /\ fs.length = as.length /\ ∀ f ∈ fs, ∃ z tk, f = Value.str z tk
 | [], [], _, _ => ⟨[], trivial, rfl, fun _ h => nomatch h⟩
 | [], _ :: _, h, _ => by simp at h
 | _ :: _, [], h, _ => by simp at h
 | a :: as, z :: zs, hl, ht => by
   obtain ⟨fs, h1, h2, h3⟩ := kat_of ok kp as zs (by simpa using hl) fun i a' z' ha hz => ht (i + 1) a' z' (by simpa using ha) (by simpa using hz)
   obtain ⟨o, xs, n, tk, r, g1, g2, g3, g4⟩ := (ht 0 a z rfl rfl).raw ok
   refine ⟨Value.str z tk :: fs, ⟨⟨a, o, xs, n, rfl, kp _ _ g1, g2, g3, by rw [g4]; simp⟩, h1⟩, by simp [h2], fun f hf => ?_⟩
   rcases List.mem_cons.mp hf with e | hf
   · exact ⟨z, tk, e⟩
   · exact h3 f hf
theorem looks_str {M : Model} {h : Heap} {z : Str} {tk : Tok} : Looks M h (typeOf (.str z tk)) (.type "str") := fun A Q E s _ q => wpAny_typeOf (typeIs_str s z tk) q
end
end L2
namespace L2
open PySem PySem.Spec PyProof.Rows PySem.W
section
variable {X : Cx}
end
end L2
namespace L2
open PySem PySem.Spec PyProof.Rows PySem.SeqAt
def SqH (b : Bool) (h : Heap) (l : Addr) (xs : Array Value) : Prop := match b with
 | true => h.IsTuple l xs
 | false => h.IsList l xs
def SqI (b : Bool) (h : Heap) (it l : Addr) (i : Nat) : Prop := match b with
 | true => h.IsTupleIter it l i
 | false => h.IsListIter it l i
theorem SqI.keep {b : Bool} {h h' : Heap} {it l : Addr} {i : Nat} (x : SqI b h it l i) (e : ∀ o, h.get? it = some o -> h'.get? it = some o) : SqI b h' it l i := by
 cases b with
 | true => obtain ⟨o, ho, r⟩ := x; exact ⟨o, e _ ho, r⟩
 | false => obtain ⟨o, ho, r⟩ := x; exact ⟨o, e _ ho, r⟩
theorem SqH.keep {b : Bool} {h h' : Heap} {l : Addr} {xs : Array Value} (x : SqH b h l xs) (e : ∀ o, h.get? l = some o -> h'.get? l = some o) : SqH b h' l xs := by
 cases b with
 | true => obtain ⟨o, ho, r⟩ := x; exact ⟨o, e _ ho, r⟩
 | false => obtain ⟨o, ho, r⟩ := x; exact ⟨o, e _ ho, r⟩
section
variable {prog : Program} {w : World} {A : Around} {E : Value -> Shared -> Prop} {s : Shared} {b1 b2 : Bool}
end
section
variable {X : Cx}
end
end L2
namespace L2
open PySem PySem.Spec PyProof.Rows PySem.W
section
variable {X : Cx}
theorem op_le_str : OpR X (compareOp .LtE) (fun x y H Q => ∃ i j, x = .str i /\ y = .str j /\ Q (.bl (!decide (j.cps.toList < i.cps.toList))) H) := by
 intro pins s σ H x y v u Q I rx ry h
 obtain ⟨i, j, rfl, rfl, q⟩ := h
 obtain ⟨t, rfl⟩ := rx
 obtain ⟨t', rfl⟩ := ry
 exact PySem.P.le_str (yB I q rfl)
end
section
variable {prog : Program} {w : World} {Kt : Type} [DecidableEq Kt] {knd : HeapKind prog w Kt} {A : Around} {E : Value -> Shared -> Prop} {s : Shared}
def DictB (knd : HeapKind prog w Kt) (h : Heap) (d : Addr) (xs : List (Kt × Addr × Value)) : Prop :=
 ∃ o es ep, h.get? d = some o /\ o.ExactDict /\ o.data = .dict es ep /\ es.toList = xs.map (entryOfKey knd) /\ (xs.map (·.1)).Nodup
theorem DictB.full {h : Heap} {d : Addr} {xs : List (Kt × Addr × Value)} (x : DictB knd h d xs) (hk : ∀ y ∈ xs, knd.is h y.1 y.2.1) : h.DictOfH knd d xs := by
 obtain ⟨o, es, ep, h1, h2, h3, h4, h5⟩ := x
 exact ⟨o, es, ep, h1, h2, h3, h4, hk, h5⟩
theorem DictB.of {h : Heap} {d : Addr} {xs : List (Kt × Addr × Value)} (x : h.DictOfH knd d xs) : DictB knd h d xs := by
 obtain ⟨o, es, ep, h1, h2, h3, h4, _, h5⟩ := x
 exact ⟨o, es, ep, h1, h2, h3, h4, h5⟩
theorem DictB.at {h h' : Heap} {d : Addr} {xs : List (Kt × Addr × Value)} (x : DictB knd h d xs) (e : ∀ u, h.get? d = some u -> h'.get? d = some u) : DictB knd h' d xs := by
 obtain ⟨o, es, ep, h1, r⟩ := x
 exact ⟨o, es, ep, e _ h1, r⟩
theorem wR {xs : List (Kt × Addr × Value)} (hn : (xs.map (·.1)).Nodup) {i : Nat} {k : Kt} {a : Addr} {v : Value} (h : xs[i]? = some (k, a, v)) : storedH (xs.take i) k a v = xs.take (i + 1) := by
 obtain ⟨il, ie⟩ := List.getElem?_eq_some_iff.mp h
 have hno : atKey (xs.take i) k = none := by
   unfold atKey
   rw [Option.map_eq_none_iff, List.find?_eq_none]
   intro x hx
   obtain ⟨j, hj, e⟩ := List.getElem_of_mem hx
   rw [List.length_take] at hj
   rw [List.getElem_take] at e
   intro hk
   have hk : x.1 = k := by simpa using hk
   exact List.pairwise_iff_getElem.mp hn j i (by rw [List.length_map]; omega) (by rw [List.length_map]; omega) (by omega) (by simp [e, ie, hk])
 rw [storedH_new hno, List.take_succ_eq_append_getElem il, ie]
theorem pairs_loopH {R : Result -> Shared -> Prop} {d it l : Addr} {its : Array Value} {xs : List (Kt × Addr × Value)} {h0 : Heap} (hu : knd.room A.in1) (hA : A.handled = none) (hdi : d ≠ it) (hl : h0.IsList l its) (hd0 : ∀ u, h0.get? d ≠ some u) (hi0 : ∀ u, h0.get? it ≠ some u)
   (mono : ∀ {h h' : Heap} {k : Kt} {a : Addr}, (∀ b u, h.get? b = some u -> h'.get? b = some u) -> knd.is h k a -> knd.is h' k a)
   (hn : (xs.map (·.1)).Nodup) (hsz : xs.length <= sizeLine) (hlen : its.size = xs.length) (hp : ∀ (i : Nat) (k : Kt) (b : Addr) (v : Value), xs[i]? = some (k, b, v) -> ∃ a : Addr, its[i]? = some (Value.ref a) /\ IsTup h0 a #[.ref b, v] /\ knd.is h0 k b) :
   ∀ (m i : Nat) (t : Tok) (s : Shared), xs.length - i = m -> i <= xs.length -> s.heap.IsListIter it l i -> DictB knd s.heap d (xs.take i) -> (∀ b u, h0.get? b = some u -> s.heap.get? b = some u) ->
   (∀ h' t', (∀ b u, h0.get? b = some u -> h'.get? b = some u) -> DictB knd h' d xs -> R (.ok (.ret .none)) { s with heap := h', toks := t' }) ->
   codeAny (model prog w) A (.builtin "dict.update.loop" ⟨[.ref d, .ref it, .int i t, .none], []⟩) R s := by
 have hall : ∀ x ∈ xs, knd.is h0 x.1 x.2.1 := fun x hx => by
   obtain ⟨i, hi⟩ := List.getElem?_of_mem hx
   obtain ⟨a, _, _, h⟩ := hp i x.1 x.2.1 x.2.2 hi
   exact h
 intro m
 induction m with
 | zero =>
   intro i t s hm hi hit hd hk hR
   have hin : i = xs.length := by omega
   subst hin
   have hl' : s.heap.IsList l its := by obtain ⟨o, ho, r⟩ := hl; exact ⟨o, hk _ _ ho, r⟩
   refine codeAny_builtin F.entry_dul ?_
   rw [Around.under_plainId F.plain_dul _]
   show wpAny _ A.in1 (pyNext (.ref it) >>= _) _ _ s
   refine wpAny_bind (wpAny_pyNext_list_end (A := A.in1) hA hit hl' (by rw [Array.getElem?_eq_none_iff]; omega) fun h' he => ?_)
   rw [List.take_of_length_le (Nat.le_refl _)] at hd
   show wpAny _ A.in1 (Builtin.Dict.addKeywords d [] >>= _) _ _ _
   refine wpAny_bind (wpAny_pure (wpAny_pure (hR h' s.toks (fun b u hb => he b u (fun z => hi0 u (by rw [← z]; exact hb)) (hk b u hb)) (hd.at fun u h => he _ u hdi h))))
 | succ m ih =>
   intro i t s hm hi hit hd hk hR
   have hlt : i < xs.length := by omega
   have hl' : s.heap.IsList l its := by obtain ⟨o, ho, r⟩ := hl; exact ⟨o, hk _ _ ho, r⟩
   obtain ⟨a, ha, ht, hkey⟩ := hp i xs[i].1 xs[i].2.1 xs[i].2.2 (List.getElem?_eq_getElem hlt)
   refine codeAny_builtin F.entry_dul ?_
   rw [Around.under_plainId F.plain_dul _]
   show wpAny _ A.in1 (pyNext (.ref it) >>= _) _ _ s
   refine wpAny_bind (wpAny_pyNext_list_item (A := A.in1) hit hl' ha fun h1 hit1 hs1 => ?_)
   have hk1 : ∀ b u, h0.get? b = some u -> h1.get? b = some u := fun b u hb => (hs1.2 b (fun z => hi0 u (by rw [← z]; exact hb))).trans (hk b u hb)
   have hd1 : DictB knd h1 d (xs.take i) := hd.at fun u h => (hs1.2 d hdi).trans h
   obtain ⟨ot, hot, hct, nt, hdt⟩ := ht
   have hot1 := hk1 _ _ hot
   have hT : ({ s with heap := h1 } : Shared).TypeIs (.ref a) "tuple" := ⟨_, hot1, hct⟩
   refine wpAny_bind (wpAny_holding (wpAny_bind ?_))
   refine wpAny_tryCatch ?_
   unfold Builtin.Dict.pairItems
   refine wpAny_bind (wpAny_typeOf hT ?_)
   rw [if_pos (by decide)]
   refine wpAny_bind (wpAny_seqItems hot1 hdt (wpAny_pure ?_))
   refine wpAny_holding (wpAny_dictSet_heap (xs := xs.take i) hu (mono hk1 hkey) (hd1.full fun y hy => mono hk1 (hall y (List.mem_of_mem_take hy))) (fun h2 hd2 hs2 => ?_) (by rw [List.length_take]; omega))
   rw [wR hn (show xs[i]? = some (xs[i].1, xs[i].2.1, xs[i].2.2) from List.getElem?_eq_getElem hlt)] at hd2
   refine wpAny_pure ⟨plainId_quiet F.plain_dul _, ?_⟩
   have hk2 : ∀ b u, h0.get? b = some u -> h2.get? b = some u := fun b u hb => (hs2.2 b (fun z => hd0 u (by rw [← z]; exact hb))).trans (hk1 b u hb)
   have hit2 : h2.IsListIter it l (i + 1) := by obtain ⟨o, ho, r⟩ := hit1; exact ⟨o, (hs2.2 _ (Ne.symm hdi)).trans ho, r⟩
   exact ih (i + 1) _ { s with heap := h2, toks := s.toks + knd.draws xs[i].1 } (by omega) hlt hit2 (.of hd2) hk2 hR
theorem qZ {l : Addr} {its : Array Value} {xs : List (Kt × Addr × Value)} {Q : Value -> Shared -> Prop} (hu : knd.room A.in1.in1) (hA : A.handled = none) (hl : PlainL s.heap l its) (mono : ∀ {h h' : Heap} {k : Kt} {a : Addr}, (∀ b u, h.get? b = some u -> h'.get? b = some u) -> knd.is h k a -> knd.is h' k a)
   (hn : (xs.map (·.1)).Nodup) (hsz : xs.length <= sizeLine) (hlen : its.size = xs.length) (hp : ∀ (i : Nat) (k : Kt) (b : Addr) (v : Value), xs[i]? = some (k, b, v) -> ∃ a : Addr, its[i]? = some (Value.ref a) /\ IsTup s.heap a #[.ref b, v] /\ knd.is s.heap k b)
   (h : ∀ h' t', (∀ b u, s.heap.get? b = some u -> h'.get? b = some u) -> DictB knd h' s.heap.objs.size xs -> Q (.ref s.heap.objs.size) { s with heap := h', toks := t' }) :
   wpAny (model prog w) A (call (.type "dict") [.ref l]) Q E s := by
 refine callType_codes (Q₁ := fun obj s₁ => obj = .ref s.heap.objs.size /\ s₁ = { s with heap := s.heap.push { cls := .type "dict", data := .dict #[] } }) PySem.F.kt_called_dict (PySem.F.kt_typeCall_dict_1 _) PySem.F.entry_dict_init (kt_code_dict_new _ ⟨rfl, rfl⟩) ?_
 rintro obj s₁ ⟨rfl, rfl⟩
 have hnew : (s.heap.push { cls := .type "dict", data := .dict #[] }).DictOfH knd s.heap.objs.size [] := Heap.DictOfH.new s.heap
 refine ⟨hnew.typeIs, PySem.F.args_dict_init_2 _ _, ?_⟩
 obtain ⟨ol, nl, hol, hlc, hld, hls⟩ := hl
 have hol1 : (s.heap.push { cls := .type "dict", data := .dict #[] }).get? l = some ol := Heap.get?_push_of_some _ hol
 have hT : ({ s with heap := s.heap.push { cls := .type "dict", data := .dict #[] } } : Shared).TypeIs (.ref l) "list" := ⟨_, hol1, hlc⟩
 unfold Builtin.«dict.__init__»
 refine wpAny_bind ?_
 unfold Builtin.Dict.selfAndRest
 refine wpAny_bind (wpAny_notOrdered_dict hnew.typeIs ?_)
 show wpAny _ _ (pure (s.heap.objs.size, [Value.ref l])) _ _ _
 refine wpAny_pure ?_
 show wpAny _ _ (Builtin.Dict.updateFrom "dict.__init__" s.heap.objs.size (.ref l) [] .none) _ _ _
 unfold Builtin.Dict.updateFrom
 refine wpAny_bind (wpAny_typeOf hT ?_)
 rw [if_pos (by decide)]
 have hkd : ∀ b u, s.heap.get? b = some u -> (s.heap.push { cls := .type "dict", data := .dict #[] }).get? b = some u := fun b u e => Heap.get?_push_of_some _ e
 have hd0 : ∀ u, s.heap.get? s.heap.objs.size ≠ some u := fun u z => Nat.lt_irrefl _ (Heap.lt_size z)
 obtain ⟨hp0, g, d, t, os⟩ := s
 dsimp only at *
 generalize hp0.push { cls := .type "dict", data := .dict #[] } = h1 at hnew hol1 hT hkd ⊢
 generalize hp0.objs.size = D at hnew hd0 h ⊢
 obtain ⟨c1, c2, c3, c4⟩ := ol
 dsimp only at hlc hld hls
 subst hlc hld hls
 refine wpAny_bind (nokeys (A := A.in1.in1) hA hol1 fun h2 t2 hk2 => ?_)
 rw [if_pos (by rfl)]
 refine wpAny_bind (wpAny_rule ?_)
 have hl2 : h2.IsList l its := ⟨_, hk2 _ _ hol1, rfl, _, rfl⟩
 refine wpAny_bind (wpAny_pyIter_list hl2 ?_)
 refine wpAny_pure ⟨plainId_quiet F.plain_dul _, ?_⟩
 have hd2 := (DictB.of hnew).at fun u h => hk2 _ u h
 have hit0 : ∀ u, hp0.get? h2.objs.size ≠ some u := fun u z => Nat.lt_irrefl _ (Heap.lt_size (hk2 _ _ (hkd _ _ z)))
 have hDi : D ≠ h2.objs.size := fun z => by
   obtain ⟨o, _, _, ho, _⟩ := hd2
   exact Nat.lt_irrefl _ (by have := Heap.lt_size ho; rw [z] at this; exact this)
 refine pairs_loopH (h0 := hp0) (xs := xs) (A := A.in1) hu hA hDi ⟨_, hol, rfl, _, rfl⟩ hd0 hit0 mono hn hsz hlen hp xs.length 0 _ _ (by omega) (Nat.zero_le _) ⟨_, Heap.get?_push_size _ rfl, rfl, rfl⟩ (hd2.at fun u h => Heap.get?_push_of_some _ h) (fun b u hb => Heap.get?_push_of_some _ (hk2 _ _ (hkd _ _ hb))) fun h' t' hk' hd' => ?_
 exact ⟨rfl, h h' t' hk' hd'⟩
end
theorem tk_mono {P : Program} {w : World} {h h' : Heap} {k : List Key} {a : Addr} (e : ∀ b u, h.get? b = some u -> h'.get? b = some u) (x : (tupleKind (yJ P w)).is h k a) : (tupleKind (yJ P w)).is h' k a := by
 obtain ⟨o, its, n, h1, r⟩ := x
 exact ⟨o, its, n, e _ _ h1, r⟩
theorem wA {H : Hp} {h : Heap} : ∀ (kvs : List (List Key × V)) (as : List Addr), (∀ (i : Nat) (k : List Key) (v : V), kvs[i]? = some (k, v) -> ∃ (a b : Addr) (its : List Value), as[i]? = some a /\ Vals [.ref b, v] its /\ IsTup h a its.toArray /\ H b = some (.tup (k.map kV))) ->
   ∃ xs, KT H kvs xs /\ ∀ (i : Nat) (k : List Key) (b : Addr) (v : Value), xs[i]? = some (k, b, v) -> ∃ a, as[i]? = some a /\ IsTup h a #[.ref b, v] /\ H b = some (.tup (k.map kV))
 | [], as, hk => ⟨[], .nil, fun i k b v e => by simp at e⟩
 | (k, v) :: kvs, as, hk => by
   obtain ⟨a0, b0, its, h1, h2, h3, h4⟩ := hk 0 k v rfl
   cases as with
   | nil => cases h1
   | cons a as =>
   cases h1
   obtain ⟨xs, g1, g2⟩ := wA kvs as fun i k v e => hk (i + 1) k v e
   obtain ⟨u1, u2, rfl, r1, r2⟩ := vals2 h2
   cases r1
   refine ⟨(k, b0, u2) :: xs, .cons ⟨rfl, h4, r2⟩ g1, fun i k' b' v' e => ?_⟩
   cases i with
   | zero => cases e; exact ⟨a0, rfl, h3, h4⟩
   | succ i => exact g2 i k' b' v' e
section
variable {X : Cx}
theorem call_dictPT (hu : X.A.units + 2 < cLine) : jF X (.type "dict") (fun xs H Q => X.calm = true /\ ∃ (p : Addr) (as : List Addr) (kvs : List (List Key × V)), xs = [.ref p] /\ SqL X.K H p (as.map V.ref) /\ as.length = kvs.length /\ (kvs.map (·.1)).Nodup /\
   (∀ (i : Nat) (k : List Key) (v : V), kvs[i]? = some (k, v) -> ∃ a b, as[i]? = some a /\ SqT X.K H a [.ref b, v] /\ H b = some (.tup (k.map kV))) /\ ∀ l, H l = none -> Q (.ref l) (upd H l (.dT kvs))) := by
 intro pins s σ H xs us Q I r h
 obtain ⟨hc, p, as, kvs, rfl, hp, hlen, hn, hk, q⟩ := h
 obtain ⟨u, rfl, ru⟩ := qH r
 cases ru
 obtain ⟨its, rv, hl, hz⟩ := I.list hp
 have hil := rv.length
 rw [List.length_map] at hil hz
 obtain ⟨vs, g1, g2⟩ := wA (H := H) (h := s.heap) kvs as fun i k v e => by
   obtain ⟨a, b, e1, e2, e3⟩ := hk i k v e
   obtain ⟨its, r2, t2, _⟩ := I.tuple e2
   exact ⟨a, b, its, e1, r2, t2, e3⟩
 have hvl : kvs.length = vs.length := Paired.length g1
 have hks : vs.map (·.1) = kvs.map (·.1) := by
   clear hn g2 hvl hk hlen q
   induction g1 with
   | nil => rfl
   | cons h _ ih => rw [List.map_cons, List.map_cons, ih, h.1]
 refine qZ (knd := tupleKind (yJ X.prog X.w)) (xs := vs) (show X.A.in1.in1.units < cLine from ?_) (I.ok.hd hc) hl tk_mono (by rw [hks]; exact hn) (by omega) (by rw [List.size_toArray]; omega) (fun i k b v e => ?_) fun h' t' hk' hd' => ?_
 · exact hu
 · obtain ⟨a, e1, e2, e3⟩ := g2 i k b v e
   obtain ⟨u, h1, h2⟩ := rv.get (i := i) (x := V.ref a) (by rw [List.getElem?_map, e1]; rfl)
   cases h2
   exact ⟨a, by simpa using h1, e2, jT I.hok e3⟩
 · obtain ⟨o, es, ep, d1, d2, d3, d4, d5⟩ := hd'
   have hfr := I.hok.fresh (Nat.le_refl s.heap.objs.size)
   refine ⟨.ref s.heap.objs.size, _, I.laid (a := s.heap.objs.size) (o := .dT kvs) (t' := t') hk' (Nat.le_refl _) ⟨by omega, beq_eq_false_iff_ne.mpr (Ne.symm (Nat.ne_of_lt I.big)), vs, ?_, o, es, ep, d1, d2, d3, d4, d5⟩, rfl, q _ hfr⟩
   exact KT.keeps g1 fun b ys e => by rw [zG (fun z => by rw [z, hfr] at e; cases e)]; exact e
end
end L2
namespace L2
open PySem PySem.Spec PyProof.Rows PySem.W
def jS (lt : Nat -> Nat -> Bool) {α : Type} : KasT α -> α
 | .ret a => a
 | .ask i j k => jS lt (k (lt i j))
theorem KOk.wpL {n : Nat} {α : Type} {P : α -> Prop} {cmp : Nat -> Nat -> (Bool -> Shared -> Prop) -> Shared -> Prop} {I : Shared -> Prop} {lt : Nat -> Nat -> Bool} {Q : α -> Shared -> Prop}
   (hc : ∀ i j C s, I s -> i < n -> j < n -> i ≠ j -> (∀ s', I s' -> C (lt i j) s') -> cmp i j C s) : ∀ {t : KasT α} {s : Shared}, KOk n P t -> (∀ s, P (jS lt t) -> I s -> Q (jS lt t) s) -> I s -> t.kasWp cmp Q s
 | .ret a, s, h, hq, hi => hq s h hi
 | .ask i j k, s, h, hq, hi => hc i j _ s hi h.1 h.2.1 h.2.2.1 fun s' hi' => KOk.wpL hc (h.2.2.2 _) hq hi'
theorem vD {n : Nat} {α : Type} {P : α -> Prop} {lt lt' : Nat -> Nat -> Bool} (h : ∀ i j, i < n -> j < n -> i ≠ j -> lt i j = lt' i j) : ∀ {t : KasT α}, KOk n P t -> jS lt t = jS lt' t
 | .ret a, _ => rfl
 | .ask i j k, g => by
   show jS lt (k (lt i j)) = jS lt' (k (lt' i j))
   rw [h i j g.1 g.2.1 g.2.2.1]
   exact vD h (g.2.2.2 _)
theorem krun_ok {n : Nat} {α : Type} {P : α -> Prop} {lt : Nat -> Nat -> Bool} : ∀ {t : KasT α}, KOk n P t -> P (jS lt t)
 | .ret a, h => h
 | .ask i j k, h => (krun_ok (lt := lt) (h.2.2.2 (lt i j)) : P (jS lt (k (lt i j))))
def lt3 (x y z : Bool) (i j : Nat) : Bool := match i, j with
 | 0, 1 => x | 1, 0 => !x | 0, 2 => y | 2, 0 => !y | 1, 2 => z | 2, 1 => !z | _, _ => false
def vH (n : Nat) (lt : Nat -> Nat -> Bool) (p : Array Nat) : Bool := (List.range n).all fun a => (List.range n).all fun b => !(decide (a < b)) || lt (p.getD a 0) (p.getD b 0)
theorem sort_two : ∀ x y z : Bool, vH 2 (lt3 x y z) (jS (lt3 x y z) (kas_sort 2)) = true := by decide +kernel
theorem sort_three : ∀ x y z : Bool, (x && z && !y) = false -> (!x && !z && y) = false -> vH 3 (lt3 x y z) (jS (lt3 x y z) (kas_sort 3)) = true := by decide +kernel
def OutL (lt : Nat -> Nat -> Bool) (vs out : List Value) : Prop := (vs.length < 2 /\ out = vs) \/ (2 <= vs.length /\ out = (jS lt (kas_sort vs.length)).toList.map fun i => vs.getD i Value.none)
section
variable {prog : Program} {w : World} {A : Around} {E : Value -> Shared -> Prop} {s : Shared}
theorem ord_sort {lt : Nat -> Nat -> Bool} {κ : SortKind} {a : Addr} {vs : List Value} {n : Nat} {P : PySem.Fin -> Shared -> Prop} (ho : s.heap.get? a = some (seqObj "list" vs.toArray n)) (h64 : vs.length < 64)
   (hk : ∀ (s' : Shared) (Q : SortKind -> Shared -> Prop), 2 <= vs.length -> (∀ b o, b ≠ a -> s.heap.get? b = some o -> s'.heap.get? b = some o) -> Q κ s' -> wpAny (model prog w) A (keyKind' vs.toArray) Q E s')
   (hc : ∀ (s' : Shared) (i j : Nat) (C : Bool -> Shared -> Prop), (∀ b o, b ≠ a -> s.heap.get? b = some o -> s'.heap.get? b = some o) -> i < vs.length -> j < vs.length -> i ≠ j -> (∀ tk, C (lt i j) { s' with toks := tk }) -> wpAny (model prog w) A (keyLt' κ (vs.getD i Value.none) (vs.getD j Value.none)) C (fun _ _ => False) s')
   (h : ∀ (out : List Value) (tk : Nat), out.Perm vs -> OutL lt vs out -> P (.done (.ret .none)) { s with heap := sortedHeap s.heap a vs out.toArray, toks := tk }) : wpAny (model prog w) A (Builtin.«list.sort» ⟨[.ref a], []⟩) P E s := by
 rw [list_sort_plain]
 have ha : a < s.heap.objs.size := Heap.lt_size ho
 have hsz : vs.toArray.size = vs.length := by simp
 refine wpAny_bind (listItems_at ho rfl ?_); refine wpAny_bind (listUpdate_at ho rfl ?_ (by rw [hsz, sizeLine_eq]; omega) (Nat.zero_le _))
 obtain ⟨e1, ho1⟩ : ∃ e1, (s.heap.update a (Obj.mapSeq fun _ => #[])).get? a = some (seqObj "list" #[] e1) := ⟨_, get?_update_seq ho (fun _ => #[])⟩
 refine wpAny_bind (seqEpoch_at ho1 rfl ?_); refine wpAny_bind (wpAny_newTuple ?_ (by show vs.length <= _; rw [sizeLine_eq]; omega))
 refine wpAny_bind (wpAny_newList ?_ (Nat.zero_le _)); refine wpAny_holding ?_
 have ho6 : (((s.heap.update a (Obj.mapSeq fun _ => #[])).push (seqObj "tuple" vs.toArray 0)).push (seqObj "list" #[] 0)).get? a = some (seqObj "list" #[] e1) := by
   rw [Heap.get?_push_ne _ _ _ (by rw [size_push', Heap.size_update]; exact Nat.ne_of_lt (Nat.lt_succ_of_lt ha)), Heap.get?_push_ne _ _ _ (by rw [Heap.size_update]; exact Nat.ne_of_lt ha)]; exact ho1
 have keep : ∀ b o, b ≠ a -> s.heap.get? b = some o -> (((s.heap.update a (Obj.mapSeq fun _ => #[])).push (seqObj "tuple" vs.toArray 0)).push (seqObj "list" #[] 0)).get? b = some o := fun b o hb e => Heap.get?_push_of_some _ (Heap.get?_push_of_some _ ((Heap.get?_update_other _ _ (Ne.symm hb)).trans e))
 show wpAny (model prog w) A _ P E { s with heap := ((s.heap.update a (Obj.mapSeq fun _ => #[])).push (seqObj "tuple" vs.toArray 0)).push (seqObj "list" #[] 0) }
 dsimp only
 by_cases h2 : vs.toArray.size < 2
 · rw [if_pos h2, if_pos h2]; refine wpAny_bind (wpAny_pure ?_)
   rw [StateT.run_pure]; refine wpAny_bind (wpAny_pure ?_); dsimp only
   have e : (vs.toArray.zip vs.toArray).map (·.2) = vs.toArray := by
     apply Array.toList_inj.mp
     simp [List.map_snd_zip]
   refine wpAny_bind (seqEpoch_at ho6 rfl ?_)
   refine wpAny_bind (listUpdate_at ho6 rfl ?_ (Nat.zero_le _) (by show ((vs.toArray.zip vs.toArray).map (·.2)).size <= _; rw [e, hsz, sizeLine_eq]; omega))
   simp only [bne_self_eq_false, Bool.false_eq_true, if_false]
   refine wpAny_pure ?_
   show P _ { s with heap := sortedHeap s.heap a vs ((vs.toArray.zip vs.toArray).map (·.2)) }
   rw [e]
   exact h vs s.toks (List.Perm.refl _) (.inl ⟨by omega, rfl⟩)
 · rw [if_neg h2, if_neg h2]
   have h2' : 2 <= vs.length := by omega
   refine wpAny_bind (hk _ _ h2' keep ?_)
   have hwp : (kas_sort vs.length).kasWp (kas_ask prog w A κ vs) (fun p s' => (PermN vs.length p /\ p = jS lt (kas_sort vs.length)) /\ ∃ tk, s' = { s with heap := ((s.heap.update a (Obj.mapSeq fun _ => #[])).push (seqObj "tuple" vs.toArray 0)).push (seqObj "list" #[] 0), toks := tk }) { s with heap := ((s.heap.update a (Obj.mapSeq fun _ => #[])).push (seqObj "tuple" vs.toArray 0)).push (seqObj "list" #[] 0) } := by
     refine KOk.wpL (lt := lt) (I := fun s' => ∃ tk, s' = { s with heap := ((s.heap.update a (Obj.mapSeq fun _ => #[])).push (seqObj "tuple" vs.toArray 0)).push (seqObj "list" #[] 0), toks := tk }) (fun i j C s' hI hi hj hij hC => ?_) (wU (by omega)) (fun s' hp hI => ⟨⟨hp, rfl⟩, hI⟩) ⟨s.toks, rfl⟩
     obtain ⟨tk, rfl⟩ := hI
     exact hc _ i j C keep hi hj hij (fun tk => hC _ ⟨tk, rfl⟩)
   refine wpAny_bind (wpAny_mono (kat_run (Q := fun st' s' => ∃ p : Array Nat, p.size = vs.length /\ arrOf st' = p.map (kas_item (vs.toArray.zip vs.toArray)) /\ failedOf st' = none /\ (PermN vs.length p /\ p = jS lt (kas_sort vs.length)) /\ ∃ tk, s' = { s with heap := ((s.heap.update a (Obj.mapSeq fun _ => #[])).push (seqObj "tuple" vs.toArray 0)).push (seqObj "list" #[] 0), toks := tk }) rfl h2' h64 (fun p st' s' a1 a2 a3 a4 => ⟨p, a1, a2, a3, a4⟩) hwp) ?_ fun _ _ e => e)
   rintro ⟨⟨⟩, st'⟩ s' ⟨p, hp, har, hf, ⟨hpn, hpe⟩, tk, rfl⟩
   dsimp only
   have hout := kat_snds (ks := vs) (vs := vs) rfl har
   have ho7 : (Shared.heap { s with heap := ((s.heap.update a (Obj.mapSeq fun _ => #[])).push (seqObj "tuple" vs.toArray 0)).push (seqObj "list" #[] 0), toks := tk }).get? a = some (seqObj "list" #[] e1) := ho6
   refine wpAny_bind (seqEpoch_at ho7 rfl ?_)
   refine wpAny_bind (listUpdate_at ho7 rfl ?_ (Nat.zero_le _) (by rw [hout, List.size_toArray, List.length_map, Array.length_toList, hp, sizeLine_eq]; omega))
   rw [hf]
   simp only [bne_self_eq_false, Bool.false_eq_true, if_false]
   refine wpAny_pure ?_
   rw [hout]
   exact h _ tk (perm_out hpn) (.inr ⟨h2', by rw [hpe]⟩)
theorem ord_sorted {lt : Nat -> Nat -> Bool} {κ : SortKind} {l : Addr} {vs : List Value} {Q : Value -> Shared -> Prop} (hl : s.heap.IsList l vs.toArray) (h64 : vs.length < 64)
   (hk : ∀ (s' : Shared) (E : Value -> Shared -> Prop) (Q : SortKind -> Shared -> Prop), 2 <= vs.length -> (∀ b o, s.heap.get? b = some o -> s'.heap.get? b = some o) -> Q κ s' -> wpAny (model prog w) A.in1.in1 (keyKind' vs.toArray) Q E s')
   (hc : ∀ (s' : Shared) (i j : Nat) (C : Bool -> Shared -> Prop), (∀ b o, s.heap.get? b = some o -> s'.heap.get? b = some o) -> i < vs.length -> j < vs.length -> i ≠ j -> (∀ tk, C (lt i j) { s' with toks := tk }) -> wpAny (model prog w) A.in1.in1 (keyLt' κ (vs.getD i Value.none) (vs.getD j Value.none)) C (fun _ _ => False) s')
   (h : ∀ (h' : Heap) (tk e : Nat) (out : List Value), out.Perm vs -> OutL lt vs out -> (∀ b o, s.heap.get? b = some o -> h'.get? b = some o) -> h'.get? (s.heap.objs.size + 1) = some (seqObj "list" out.toArray e) -> Q (.ref (s.heap.objs.size + 1)) { s with heap := h', toks := tk }) :
   wpAny (model prog w) A (call (.builtin "sorted") [.ref l]) Q E s := by
 refine Calls.call_function_entry kind_sorted plain_sorted entry_sorted (args_sorted1 _) ?_
 unfold Builtin.«sorted»; refine wpAny_bind (m := checkCount "sorted" 1 1 _) (wpAny_pure ?_)
 refine wpAny_bind (collect_list hl ?_ (by rw [sizeLine_eq]; omega)); refine wpAny_bind (wpAny_newList ?_ (by rw [sizeLine_eq]; omega))
 have hsz : ((s.heap.push (seqObj "list" #[] 0)).update s.heap.objs.size (Obj.mapSeq (· ++ vs.toArray))).objs.size = s.heap.objs.size + 1 := by rw [Heap.size_update, size_push']
 have hoL : (((s.heap.push (seqObj "list" #[] 0)).update s.heap.objs.size (Obj.mapSeq (· ++ vs.toArray))).push (seqObj "list" vs.toArray 0)).get? (s.heap.objs.size + 1) = some (seqObj "list" vs.toArray 0) := by rw [← hsz]; exact Heap.get?_push_size _ rfl
 have keep : ∀ b o, s.heap.get? b = some o -> (((s.heap.push (seqObj "list" #[] 0)).update s.heap.objs.size (Obj.mapSeq (· ++ vs.toArray))).push (seqObj "list" vs.toArray 0)).get? b = some o := fun b o q => by
   have hlt : b < s.heap.objs.size := Heap.lt_size q
   rw [Heap.get?_push_ne _ _ _ (by rw [hsz]; exact Nat.ne_of_lt (Nat.lt_succ_of_lt hlt)), Heap.get?_update_ne _ _ _ _ (Nat.ne_of_lt hlt), Heap.get?_push_ne _ _ _ (Nat.ne_of_lt hlt)]; exact q
 have nb : ∀ {b : Addr} {o : Obj}, s.heap.get? b = some o -> b ≠ s.heap.objs.size + 1 := fun q => Nat.ne_of_lt (Nat.lt_succ_of_lt (Heap.lt_size q))
 show wpAny _ _ _ _ _ { s with heap := ((s.heap.push (seqObj "list" #[] 0)).update s.heap.objs.size (Obj.mapSeq (· ++ vs.toArray))).push (seqObj "list" vs.toArray 0) }
 rw [hsz]
 refine wpAny_bind (wpAny_holding (wpAny_call_entry slot_list_sort ⟨_, hoL, rfl⟩ entry_list_sort (ord_sort (lt := lt) (κ := κ) (A := A.in1.in1) hoL h64 (fun s' Q' h2 kp hq => hk s' _ Q' h2 (fun b o e => kp b o (nb e) (keep b o e)) hq) (fun s' i j C kp hi hj hij hC => hc s' i j C (fun b o e => kp b o (nb e) (keep b o e)) hi hj hij hC) fun out tk hp ho => ⟨_, rfl, ?_⟩) (args_list_sort _)))
 obtain ⟨e, he⟩ := sortedHeap_at (out := out.toArray) hoL
 refine wpAny_pure ⟨_, rfl, h _ tk e out hp ho (fun b o q => ?_) he⟩
 rw [sortedHeap_old (nb q) (Heap.lt_size (keep b o q))]
 exact keep b o q
end
theorem getD_map {as : List Addr} {i : Nat} (h : i < as.length) : (as.map Value.ref).getD i Value.none = .ref (as.getD i 0) := by
 rw [List.getD_eq_getElem?_getD, List.getElem?_map, List.getD_eq_getElem?_getD, List.getElem?_eq_getElem h]
 rfl
theorem ord_names {as as' : List Addr} {zs : List Str} (hl : as.length = zs.length) (h3 : zs.length <= 3) (hnd : zs.Nodup) (ho : OutL (fun i j => decide ((zs.getD i "").cps.toList < (zs.getD j "").cps.toList)) (as.map Value.ref) (as'.map Value.ref)) :
   ∃ zs' : List Str, zs'.Perm zs /\ as'.length = zs'.length /\ (∀ (i : Nat) (a : Addr) (z : Str), as'[i]? = some a -> zs'[i]? = some z -> ∃ j : Nat, as[j]? = some a /\ zs[j]? = some z) /\ zs'.Pairwise (fun x y => x.cps.toList < y.cps.toList) := by
 have inj : ∀ {l m : List Addr}, l.map Value.ref = m.map Value.ref -> l = m := fun h => List.map_inj_right (fun a b e => Value.ref.inj e) |>.mp h
 rcases ho with ⟨h2, e⟩ | ⟨h2, e⟩
 · rw [List.length_map] at h2
   have e := inj e
   subst e
   refine ⟨zs, List.Perm.refl _, hl, fun i a z h1 h2 => ⟨i, h1, h2⟩, ?_⟩
   match zs, (show zs.length < 2 by omega) with
   | [], _ => exact .nil
   | [z], _ => exact List.pairwise_singleton _ _
   | _ :: _ :: _, h => simp at h; omega
 · rw [List.length_map] at h2 e
   have hp : PermN as.length (jS (fun i j => decide ((zs.getD i "").cps.toList < (zs.getD j "").cps.toList)) (kas_sort as.length)) := krun_ok (wU (by omega))
   have tot : ∀ i j, i < zs.length -> j < zs.length -> i ≠ j -> decide ((zs.getD i "").cps.toList < (zs.getD j "").cps.toList) = !decide ((zs.getD j "").cps.toList < (zs.getD i "").cps.toList) := fun i j hi hj hij => by
     have hne : zs[i] ≠ zs[j] := by
       rcases Nat.lt_or_gt_of_ne hij with l | l
       · exact (List.pairwise_iff_getElem.mp hnd) i j hi hj l
       · exact ((List.pairwise_iff_getElem.mp hnd) j i hj hi l).symm
     rw [List.getD_eq_getElem?_getD, List.getD_eq_getElem?_getD, List.getElem?_eq_getElem hi, List.getElem?_eq_getElem hj]
     show decide (zs[i].cps.toList < zs[j].cps.toList) = !decide (zs[j].cps.toList < zs[i].cps.toList)
     by_cases c : zs[i].cps.toList < zs[j].cps.toList
     · rw [decide_eq_true c, decide_eq_false (List.lt_asymm c)]
       rfl
     · rw [decide_eq_false c]
       have : zs[j].cps.toList < zs[i].cps.toList := by
         rcases List.le_iff_lt_or_eq.mp (List.not_lt.mp c) with h | h
         · exact h
         · exact absurd (str_ext (Array.toList_inj.mp h)).symm hne
       rw [decide_eq_true this]
       rfl
   have trs : ∀ i j k, decide ((zs.getD i "").cps.toList < (zs.getD j "").cps.toList) = true -> decide ((zs.getD j "").cps.toList < (zs.getD k "").cps.toList) = true -> decide ((zs.getD i "").cps.toList < (zs.getD k "").cps.toList) = true := fun i j k h1 h2 => decide_eq_true (List.lt_trans (of_decide_eq_true h1) (of_decide_eq_true h2))
   have gl : vH as.length (fun i j => decide ((zs.getD i "").cps.toList < (zs.getD j "").cps.toList)) (jS (fun i j => decide ((zs.getD i "").cps.toList < (zs.getD j "").cps.toList)) (kas_sort as.length)) = true := by
     generalize hLT : (fun i j => decide ((zs.getD i "").cps.toList < (zs.getD j "").cps.toList)) = LT at hp
     have tot' : ∀ i j, i < zs.length -> j < zs.length -> i ≠ j -> LT i j = !LT j i := fun i j => by rw [← hLT]; exact tot i j
     have trs' : ∀ i j k, LT i j = true -> LT j k = true -> LT i k = true := fun i j k => by rw [← hLT]; exact trs i j k
     rw [← hl] at tot'
     clear hLT trs tot e
     have key : ∀ n, n <= 3 -> (∀ i j, i < n -> j < n -> i ≠ j -> LT i j = !LT j i) -> ∀ i j, i < n -> j < n -> i ≠ j -> LT i j = lt3 (LT 0 1) (LT 0 2) (LT 1 2) i j := fun n hn ht i j hi hj hij => by
       rcases (show i = 0 \/ i = 1 \/ i = 2 by omega) with rfl | rfl | rfl <;> rcases (show j = 0 \/ j = 1 \/ j = 2 by omega) with rfl | rfl | rfl
       · exact absurd rfl hij
       · rfl
       · rfl
       · exact ht _ _ hi hj hij
       · exact absurd rfl hij
       · rfl
       · exact ht _ _ hi hj hij
       · exact ht _ _ hi hj hij
       · exact absurd rfl hij
     have cg : ∀ (n : Nat) (q : Array Nat), (∀ i j, i < n -> j < n -> i ≠ j -> LT i j = lt3 (LT 0 1) (LT 0 2) (LT 1 2) i j) -> PermN n q -> vH n (lt3 (LT 0 1) (LT 0 2) (LT 1 2)) q = true -> vH n LT q = true := fun n q h hq hg => by
       unfold vH at hg ⊢
       rw [List.all_eq_true] at hg ⊢
       intro a ha
       have := hg a ha
       rw [List.all_eq_true] at this ⊢
       intro b hb
       have := this b hb
       rw [Bool.or_eq_true] at this ⊢
       rcases this with h1 | h1
       · exact .inl h1
       · by_cases c : a < b
         · right
           rw [h _ _ (hq.at (List.mem_range.mp ha)) (hq.at (List.mem_range.mp hb)) (hq.ne (List.mem_range.mp ha) (List.mem_range.mp hb) (by omega))]
           exact h1
         · left
           simp [c]
     have hk := key as.length (by omega) tot'
     rw [vD hk (wU (by omega))] at hp ⊢
     refine cg _ _ hk hp ?_
     rcases (show as.length = 2 \/ as.length = 3 by omega) with h | h
     · rw [h]; exact sort_two _ _ _
     · rw [h] at tot' ⊢
       refine sort_three _ _ _ ?_ ?_
       · cases h01 : LT 0 1 <;> cases h12 : LT 1 2 <;> cases h02 : LT 0 2 <;> first | rfl | skip
         have := trs' 0 1 2 h01 h12
         rw [h02] at this
         cases this
       · cases h01 : LT 0 1 <;> cases h12 : LT 1 2 <;> cases h02 : LT 0 2 <;> first | rfl | skip
         have a1 := tot' 1 0 (by decide) (by decide) (by decide)
         have a2 := tot' 2 1 (by decide) (by decide) (by decide)
         rw [h01] at a1
         rw [h12] at a2
         have := trs' 2 1 0 a2 a1
         rw [tot' 2 0 (by decide) (by decide) (by decide), h02] at this
         cases this
   generalize jS (fun i j => decide ((zs.getD i "").cps.toList < (zs.getD j "").cps.toList)) (kas_sort as.length) = q at hp gl e
   have hin : ∀ i ∈ q.toList, i < as.length := fun i hi => List.mem_range.mp (hp.mem_iff.mp hi)
   have ea : as' = q.toList.map fun i => as.getD i 0 := inj (by
     rw [e, List.map_map]
     exact List.map_congr_left fun i hi => getD_map (hin i hi))
   have ez : zs = (List.range as.length).map fun i => zs.getD i "" := by
     refine List.ext_getElem (by simp [hl]) fun i h1 h2 => ?_
     rw [List.getElem_map, List.getElem_range, List.getD_eq_getElem?_getD, List.getElem?_eq_getElem h1]
     rfl
   refine ⟨q.toList.map fun i => zs.getD i "", ?_, by rw [ea, List.length_map, List.length_map], fun i a z h1 h2 => ?_, ?_⟩
   · have := List.Perm.map (fun i => zs.getD i "") hp
     rwa [← ez] at this
   · rw [ea, List.getElem?_map] at h1
     rw [List.getElem?_map] at h2
     obtain ⟨j, hj, rfl⟩ := Option.map_eq_some_iff.mp h1
     rw [hj] at h2
     have hz : zs.getD j "" = z := by simpa using h2
     have hj' := hin j (List.mem_of_getElem? hj)
     refine ⟨j, ?_, ?_⟩
     · rw [List.getD_eq_getElem?_getD, List.getElem?_eq_getElem hj']; rfl
     · rw [← hz, List.getD_eq_getElem?_getD, List.getElem?_eq_getElem (by omega)]; rfl
   · rw [List.pairwise_iff_getElem]
     intro a b ha hb hab
     rw [List.length_map] at ha hb
     have hn : q.toList.length = as.length := by have := hp.length_eq; rwa [List.length_range] at this
     unfold vH at gl
     have h1 := List.all_eq_true.mp gl a (List.mem_range.mpr (by omega))
     have h2 := List.all_eq_true.mp h1 b (List.mem_range.mpr (by omega))
     rw [decide_eq_true hab] at h2
     have g : ∀ {c : Nat} (hc : c < q.toList.length), q.getD c 0 = q.toList[c] := fun {c} hc => by
       rw [Array.getD_eq_getD_getElem?, ← Array.getElem?_toList, List.getElem?_eq_getElem hc]; rfl
     rw [g ha, g hb] at h2
     rw [List.getElem_map, List.getElem_map]
     simpa using h2
section
variable {X : Cx}
theorem call_sortedO : jF X (.builtin "sorted") (fun xs H Q => X.calm = true /\ ∃ (p : Addr) (as : List Addr) (zs : List Str), xs = [.ref p] /\ H p = some (.lst (as.map V.ref)) /\ as.length = zs.length /\ zs.length <= 3 /\ zs.Nodup /\ (∀ (i : Nat) (a : Addr) (z : Str), as[i]? = some a -> zs[i]? = some z -> TupS H a z) /\
   ∀ (l : Addr) (as' : List Addr) (zs' : List Str), H l = none -> as'.Perm as -> zs'.Perm zs -> as'.length = zs'.length -> (∀ (i : Nat) (a : Addr) (z : Str), as'[i]? = some a -> zs'[i]? = some z -> ∃ j : Nat, as[j]? = some a /\ zs[j]? = some z) -> zs'.Pairwise (fun x y => x.cps.toList < y.cps.toList) -> Q (.ref l) (upd H l (.lst (as'.map V.ref)))) := by
 intro pins s σ H xs us Q I r h
 obtain ⟨hcalm, p, as, zs, rfl, hp, hl, h64, hnd, ht, q⟩ := h
 obtain ⟨u, rfl, ru⟩ := qH r
 cases ru
 obtain ⟨hz, its, nn, rv, o1⟩ := (show ObjOk X.prog X.w H s.heap p (.lst (as.map V.ref)) from I.hok p _ hp)
 have e := refs_are rv
 subst e
 have hlen : (as.map Value.ref).length = as.length := List.length_map _
 refine ord_sorted (lt := fun i j => decide ((zs.getD i "").cps.toList < (zs.getD j "").cps.toList)) (κ := tuples' true) (vs := as.map Value.ref) ⟨_, o1, rfl, nn, rfl⟩ (by omega) (fun s' E' Q' h2 kp hq => ?_) (fun s' i j C kp hi hj hij hC => ?_) fun h' tk e out hperm hord kp hS => ?_
 · obtain ⟨fs, k1, k2, k3⟩ := kat_of I.hok kp as zs hl ht
   refine kat_kind (T := .type "str") k1 (by omega) (fun v hv => ?_) (by decide) hq
   obtain ⟨z, tk, rfl⟩ := k3 v hv
   exact looks_str
 · rw [hlen] at hi hj
   have gi : (as.map Value.ref).getD i Value.none = .ref as[i] := by rw [List.getD_eq_getElem?_getD, List.getElem?_map, List.getElem?_eq_getElem hi]; rfl
   have gj : (as.map Value.ref).getD j Value.none = .ref as[j] := by rw [List.getD_eq_getElem?_getD, List.getElem?_map, List.getElem?_eq_getElem hj]; rfl
   have hiz : i < zs.length := by omega
   have hjz : j < zs.length := by omega
   obtain ⟨oi, xi, ni, ti, ri, a1, a2, a3, a4⟩ := (ht i as[i] zs[i] (List.getElem?_eq_getElem hi) (List.getElem?_eq_getElem hiz)).raw I.hok
   obtain ⟨oj, xj, nj, tj, rj, b1, b2, b3, b4⟩ := (ht j as[j] zs[j] (List.getElem?_eq_getElem hj) (List.getElem?_eq_getElem hjz)).raw I.hok
   have hne : zs[i] ≠ zs[j] := by
     rcases Nat.lt_or_gt_of_ne hij with l | l
     · exact (List.pairwise_iff_getElem.mp hnd) i j hiz hjz l
     · exact ((List.pairwise_iff_getElem.mp hnd) j i hjz hiz l).symm
   rw [gi, gj]
   subst a4 b4
   refine kat_lt (kp _ _ a1) a3 (kp _ _ b1) b3 ?_
   show KatLex _ _ _ _ _ _ ((Value.str zs[i] ti, Value.str zs[j] tj) :: ri.zip rj) 0 s'
   refine kat_cons (wpAny_eqBool_str ?_)
   rw [decide_eq_false hne]
   refine kat_no ?_
   show wpAny _ _ (oneLt' true _ _) _ _ _
   have hC' := hC s'.toks
   rw [List.getD_eq_getElem?_getD, List.getD_eq_getElem?_getD, List.getElem?_eq_getElem hiz, List.getElem?_eq_getElem hjz] at hC'
   exact oneLt_str hC'
 · obtain ⟨as', e1, e2⟩ : ∃ as' : List Addr, out = as'.map Value.ref /\ as'.Perm as := by
     have : ∀ v ∈ out, ∃ a, v = Value.ref a := fun v hv => by
       obtain ⟨a, _, e⟩ := List.mem_map.mp (hperm.mem_iff.mp hv)
       exact ⟨a, e.symm⟩
     have ho : out = (out.map fun v => match v with | .ref a => a | _ => 0).map Value.ref := by
       rw [List.map_map]
       conv => lhs; rw [← List.map_id out]
       refine List.map_congr_left fun v hv => ?_
       obtain ⟨a, rfl⟩ := this v hv
       rfl
     refine ⟨_, ho, ?_⟩
     have h2 := List.Perm.map (fun v : Value => match v with | .ref a => a | _ => (0 : Addr)) hperm
     rw [List.map_map] at h2
     have h3 : as.map ((fun v : Value => match v with | .ref a => a | _ => (0 : Addr)) ∘ Value.ref) = as := by
       conv => rhs; rw [← List.map_id as]
       rfl
     rwa [h3] at h2
   subst e1
   have hl' := e2.length_eq
   obtain ⟨zs', g2, g3, g4, g5⟩ := ord_names hl h64 hnd hord
   have vals : Vals (as'.map V.ref) (as'.map Value.ref) := vals_of (by simp) fun i y u hy hu => by
     rw [List.getElem?_map] at hy hu
     obtain ⟨a1, g1, rfl⟩ := Option.map_eq_some_iff.mp hy
     obtain ⟨a2, g2, rfl⟩ := Option.map_eq_some_iff.mp hu
     rw [g1] at g2
     cases g2
     rfl
   exact ⟨.ref (s.heap.objs.size + 1), _, I.laid (a := s.heap.objs.size + 1) (o := .lst (as'.map V.ref)) (t' := tk) kp (Nat.le_succ _) ⟨by rw [List.length_map, sizeLine_eq]; omega, _, e, vals, hS⟩, rfl, q _ _ zs' (I.hok.fresh (Nat.le_succ _)) e2 g2 g3 g4 g5⟩
end
end L2
namespace HT
open PySem PyProof.Rows
def lexLe : List Int -> List Int -> Bool
 | [], [] => true
 | [], _ :: _ => true
 | _ :: _, [] => false
 | x :: xs, y :: ys => if x = y then lexLe xs ys else decide (x <= y)
theorem lexLe_cons (x y : Int) (xs ys : List Int) : lexLe (x :: xs) (y :: ys) = if x = y then lexLe xs ys else decide (x <= y) := rfl
theorem lexLe_nil_nil : lexLe [] [] = true := rfl
theorem vB (y : Int) (ys : List Int) : lexLe [] (y :: ys) = true := rfl
theorem vC (x : Int) (xs : List Int) : lexLe (x :: xs) [] = false := rfl
theorem rcLe_int (A : Around) (s : Shared) (a : Int) (t : Tok) (c : Int) (u : Tok) (prog : Program) (w : World) (E : Value -> Shared -> Prop) (Q : Value -> Shared -> Prop) (h : Q (.bool (decide (a <= c))) s) :
   wpAny (model prog w) A (richCompare .LtE (.int a t) (.int c u)) Q E s :=
 (PyProof.Rows.le_int h : wpAny (model prog w) A (compareOp .LtE (.int a t) (.int c u)) Q E s)
section
open PySem.SeqAt
open PySem.AutoSeq1 (wpAny_loadPart')
open PySem.MeetsSeq PySem.MeetsSeq2 PySem.MeetsSeq3
theorem vN (l b : Addr) (items items2 : Array Value) (n n2 : Nat) (dd dd2 : Option Addr) (sl sl2 : Array (Option Value)) (ns ms : List Int) (hi : IntsAre items.toList ns) (hj : IntsAre items2.toList ms) :
   Meets (Builtin.«tuple.__le__» ⟨[.ref l, .ref b], []⟩)
     (fun _ R s => s.heap.get? l = some { cls := .type "tuple", dict := dd, data := .seq items n, slots := sl } /\ s.heap.get? b = some { cls := .type "tuple", dict := dd2, data := .seq items2 n2, slots := sl2 } /\
       R (.ok (.ret (.bool (lexLe ns ms)))) s) :=
 .of_wp fun prog w A R s h => by
   obtain ⟨hp, g, d, tk, os⟩ := s; obtain ⟨hl, hb, h⟩ := h
   have f2 := AutoSeq1.sub_tuple_tuple
   have z1 : items.size = ns.length := by rw [← hi.length]; simp
   have z2 : items2.size = ms.length := by rw [← hj.length]; simp
   wp_walk using wpAny_loadPart' hl, wpAny_loadPart' hb, wpAny_forIn_list _ (fun rest b s' => b.1 = none /\ s' = ⟨hp, g, d, tk, os⟩ /\ ∃ (vs ws : List Value) (ns' ms' : List Int), rest = vs.zip ws /\
     IntsAre vs ns' /\ IntsAre ws ms' /\ ns'.length + items2.size = ms'.length + items.size /\ R (.ok (.ret (.bool (lexLe ns' ms')))) ⟨hp, g, d, tk, os⟩) _
   case turn =>
     rintro ⟨y, x⟩ rest b s' ⟨hb', rfl, vs, ws, ns', ms', hz, hvi, hwi, hlen, hR⟩
     cases hvi with
     | nil => rw [List.zip_nil_left] at hz; cases hz
     | cons a t hvi' =>
       cases hwi with
       | nil => rw [List.zip_nil_right] at hz; cases hz
       | cons c u hwi' =>
         rw [List.zip_cons_cons] at hz
         injection hz with hyx hrest
         injection hyx with hy hx
         subst hy hx
         rw [lexLe_cons] at hR
         simp only [List.length_cons] at hlen
         obtain ⟨e, he, hiff⟩ := eqAt_int A.in1 ⟨hp, g, d, tk, os⟩ a t c u
         refine wpAny_bind (he prog w _ _ ?_)
         cases e with
         | true =>
           rw [if_pos (hiff.mp rfl)] at hR
           wp_walk
           exact ⟨rfl, rfl, _, _, _, _, hrest, hvi', hwi', by omega, hR⟩
         | false =>
           rw [if_neg (fun q => absurd (hiff.mpr q) Bool.false_ne_true)] at hR
           have hri := rcLe_int A.in1 ⟨hp, g, d, tk, os⟩ a t c u prog w
           wp_walk using hri
           exact ⟨_, rfl, by simpa using hR⟩
   case fin =>
     rintro ⟨b1, b2⟩ s' ⟨hb', rfl, vs, ws, ns', ms', hz, hvi, hwi, hlen, hR⟩
     simp only at hb'
     subst hb'
     have hv : lexLe ns' ms' = decide (items.size <= items2.size) := by
       cases hvi with
       | nil =>
         cases hwi with
         | nil =>
           simp only [List.length_nil] at hlen
           rw [lexLe_nil_nil]
           exact (decide_eq_true (by omega)).symm
         | cons c u hw =>
           simp only [List.length_nil, List.length_cons] at hlen
           rw [vB]
           exact (decide_eq_true (by omega)).symm
       | cons a t hv =>
         cases hwi with
         | nil =>
           simp only [List.length_nil, List.length_cons] at hlen
           rw [vC]
           exact (decide_eq_false (by omega)).symm
         | cons c u hw =>
           rw [List.zip_cons_cons] at hz
           cases hz
     rw [hv] at hR
     wp_walk
     exact ⟨_, rfl, by simpa [Builtin.Tuple.tupleCompareSizes] using hR⟩
   case h =>
     exact ⟨rfl, rfl, items.toList, items2.toList, ns, ms, rfl, hi, hj, by omega, h⟩
end
section
variable {prog : Program} {w : World} {A : Around} {E : Value -> Shared -> Prop} {s : Shared}
theorem le_tupInts {l b : Addr} {items items2 : Array Value} {ns ms : List Int} {Q : Value -> Shared -> Prop} (hl : IsTup s.heap l items) (hb : IsTup s.heap b items2) (hi : IntsAre items.toList ns) (hj : IntsAre items2.toList ms)
   (hu : A.units < cLine) (h : Q (.bool (lexLe ns ms)) s) : wpAny (model prog w) A (compareOp .LtE (.ref l) (.ref b)) Q E s := by
 obtain ⟨⟨cls, dd, data, sl⟩, ho, hc, n, hd⟩ := id hl
 obtain ⟨⟨cls2, dd2, data2, sl2⟩, ho2, hc2, n2, hd2⟩ := id hb
 simp only at hc hd hc2 hd2
 subst hc hd hc2 hd2
 exact richCompare_meets_room (op := .LtE) ⟨_, ho, rfl⟩ ⟨_, ho2, rfl⟩ PySem.F.slot_tuple_le PySem.F.entry_tuple_le (PySem.F.args_tuple_le_2 _ _) (vN l b items items2 n n2 dd dd2 sl sl2 ns ms hi hj)
   ⟨ho, ho2, show Value.bool (lexLe ns ms) ≠ Value.notImplemented /\ Q (.bool (lexLe ns ms)) s from ⟨(fun x => nomatch x), h⟩⟩ hu
end
end HT
namespace L2
open PySem PySem.Spec PyProof.Rows PySem.W
section
variable {X : Cx}
def rLeT (K : PySem.W.Frag) : R2 := fun x y H Q => ∃ a b ns ms, x = .ref a /\ y = .ref b /\ SqT K H a (ns.map V.int) /\ SqT K H b (ms.map V.int) /\ Q (.bl (HT.lexLe ns ms)) H
theorem op_leT (K : PySem.W.Frag) (hu : X.A.units < cLine) (h : X.K = K := by rfl) : OpR X (compareOp .LtE) (rLeT K) := by
 subst h
 intro pins s σ H x y v u Q I rx ry h
 obtain ⟨a, b, ns, ms, rfl, rfl, ha, hb, q⟩ := h
 cases rx
 cases ry
 obtain ⟨its, r1, p1, _⟩ := I.tuple ha
 obtain ⟨its2, r2, p2, _⟩ := I.tuple hb
 exact HT.le_tupInts p1 p2 (vF r1) (vF r2) hu ⟨.bl (HT.lexLe ns ms), H, I, rfl, q⟩
theorem le_not_lt : ∀ ns ms : List Int, HT.lexLe ns ms = !HT.lexLt ms ns
 | [], [] => rfl
 | [], _ :: _ => rfl
 | _ :: _, [] => rfl
 | x :: xs, y :: ys => by
   rw [HT.lexLe_cons, HT.lexLt_cons]
   by_cases e : x = y
   · rw [if_pos e, if_pos e.symm]
     exact le_not_lt xs ys
   · rw [if_neg e, if_neg (Ne.symm e), ← decide_not]
     exact decide_eq_decide.mpr (by omega)
end
end L2
set_option maxHeartbeats 8000000
namespace C
open PySem L2
seal PE PT PW PA PS PSs PG PGs PI PPs PO PSet PIf
def top (i : Nat) : Stmt := PySem.Challenge.pw_clashbook_k27_whole_world_holds_just_the.main.body.getD i (.Pass ⟨0, 0, 0, 0⟩)
abbrev s_u : Stmt := top 22
theorem sc_u : FnScope ["script", "k", "cell", "mixed"] ["script", "k"] (zH s_u) := ⟨rfl, rfl, rfl, by decide +kernel, rfl, by decide +kernel, by decide +kernel⟩
abbrev s_r : Stmt := top 24
theorem sc_r : FnScope ["script", "k", "many", "letters", "first", "spell", "row", "j", "size", "at", "names", "n", "word"] ["script", "k", "many"] (zH s_r) := ⟨rfl, rfl, rfl, by decide +kernel, rfl, by decide +kernel, by decide +kernel⟩
theorem p1060 : (0 : Int) < 10 ^ Int.toNat 60 := by show (0 : Int) < 10 ^ 60; simp
theorem at_toNat {α : Type} {xs : List α} {n : Int} {x : α} (h0 : 0 <= n) (h : xs[n.toNat]? = some x) : atI xs n = some x := by
 obtain ⟨m, rfl⟩ : ∃ m : Nat, n = (m : Int) := ⟨n.toNat, by omega⟩
 exact zU (by simpa using h)
theorem idxI (zs : List Int) (k : Int) (h0 : 0 <= k) (h1 : k < zs.length) : ∃ z, atI (zs.map V.int) k = some (.int z) := by
 have hk : k.toNat < zs.length := by omega
 exact ⟨zs[k.toNat], at_toNat h0 (by rw [List.getElem?_map, List.getElem?_eq_getElem hk]; rfl)⟩
def spDr (K : PySem.W.Frag) : Sp := fun vs H Q _ => ∃ (a : Addr) (ns : List Int) (k : Nat), vs = [.ref a, .int k] /\ SqL K H a (ns.map V.int) /\ ns.length <= 63 /\ k <= 100 /\ ∀ z : Int, 0 <= z -> Q (.int z) H
abbrev nV (n : Nat) : V := .int (n : Int)
structure Nms (H : Hp) (p : Addr) (m : Nat) (zs : List Str) : Prop where
 lst : H p = some (.lst (zs.map V.str))
 len : zs.length = m
 nd : zs.Nodup
 nm : ∀ z ∈ zs, Nm z
def spNs (K : PySem.W.Frag) : Sp := fun vs H Q _ => ∃ (a : Addr) (ns : List Int) (k m : Nat), vs = [.ref a, .int k, .int m] /\ SqL K H a (ns.map V.int) /\ ns.length <= 63 /\ k <= 99 /\ 1 <= m /\ m <= 5 /\ ∀ p zs H', Same H H' -> Nms H' p m zs -> Q (.ref p) H'
def wd (rs : List Nat) : Str := ⟨(rs.map (97 + ·)).toArray⟩
theorem jO (rs : List Nat) : (wd rs).length = rs.length := by
 show ((rs.map (97 + ·)).toArray).size = _
 rw [List.size_toArray, List.length_map]
theorem wd_cps (rs : List Nat) : (wd rs).cps.toList = rs.map (97 + ·) := rfl
theorem wd_inj {rs ts : List Nat} (h : wd rs = wd ts) : rs = ts := by
 have h2 : rs.map (97 + ·) = ts.map (97 + ·) := congrArg (fun x : Str => x.cps.toList) h
 clear h
 induction rs generalizing ts with
 | nil => cases ts with
   | nil => rfl
   | cons t ts => simp at h2
 | cons r rs ih => cases ts with
   | nil => simp at h2
   | cons t ts =>
     simp only [List.map_cons, List.cons.injEq] at h2
     rw [ih h2.2, show r = t by omega]
theorem wF (n : Nat) (h : n < 26) : atI ("abcdefghijklmnopqrstuvwxyz" : Str).cps.toList (n : Int) = some (97 + n) := by
 have h2 : ∀ k : Fin 26, ("abcdefghijklmnopqrstuvwxyz" : Str).cps.toList[k.val]? = some (97 + k.val) := by decide +kernel
 exact zU (h2 ⟨n, h⟩)
theorem glue_one : ∀ (rs : List Nat), glue [] (rs.map fun r => [97 + r]) = rs.map (97 + ·)
 | [] => rfl
 | [r] => rfl
 | r :: r' :: rs => by
   have ih := glue_one (r' :: rs)
   show [97 + r] ++ [] ++ glue [] ((r' :: rs).map fun r => [97 + r]) = _
   rw [ih]
   rfl
theorem join_wd (rs : List Nat) : Txt.join "" (rs.map fun r => (⟨#[97 + r]⟩ : Str)) = wd rs := by
 have h := glued_toS [] (rs.map fun r => [97 + r])
 rw [List.map_map, glue_one] at h
 have e : ("" : Str) = toS [] := by decide +kernel
 show Builtin.Str.glued "" _ = _
 rw [e]
 exact h
def wn (rs : List Nat) (sz at' n : Nat) : List Nat := (List.range sz).map fun j => (rs.getD j 0 + (if j = at' then n else 0)) % 26
open Classical in
noncomputable def nmF (qs : List Nat) : Str := if wd qs = "none" \/ wd qs = "all" then wd qs ++ "x" else wd qs
theorem qT (rs : List Nat) (sz at' n : Nat) : (wn rs sz at' n).length = sz := by unfold wn; rw [List.length_map, List.length_range]
theorem nmF_nm {rs : List Nat} {sz at' n : Nat} (hsz : 1 <= sz /\ sz <= 8) : Nm (nmF (wn rs sz at' n)) := by
 have hl := qT rs sz at' n
 have hq : ∀ r ∈ wn rs sz at' n, r < 26 := fun r hr => by
   unfold wn at hr
   obtain ⟨j, _, rfl⟩ := List.mem_map.mp hr
   omega
 generalize wn rs sz at' n = qs at hl hq
 have hw : ∀ c ∈ (wd qs).cps.toList, 97 <= c /\ c <= 122 := fun c hc => by
   rw [wd_cps] at hc
   obtain ⟨r, hr, rfl⟩ := List.mem_map.mp hc
   have := hq r hr
   omega
 unfold nmF
 by_cases h : wd qs = "none" \/ wd qs = "all"
 · rw [if_pos h]
   rcases h with h | h
   · rw [h]; exact ⟨by decide +kernel, by decide +kernel, by decide +kernel, by decide +kernel, by decide +kernel⟩
   · rw [h]; exact ⟨by decide +kernel, by decide +kernel, by decide +kernel, by decide +kernel, by decide +kernel⟩
 · rw [if_neg h]
   exact ⟨by rw [jO]; omega, by rw [jO]; omega, hw, fun e => h (.inl e), fun e => h (.inr e)⟩
theorem app_x {x y : Str} (h : x ++ "x" = y ++ "x") : x = y := by
 have h2 := congrArg (fun z : Str => z.cps.toList) h
 simp only [cps_app] at h2
 have h3 := List.append_cancel_right h2
 exact str_ext (by rw [← Array.toList_inj]; exact h3)
theorem nmF_inj {qs ts : List Nat} (hl : qs.length = ts.length) (h : nmF qs = nmF ts) : qs = ts := by
 have hx : ("x" : Str).length = 1 := by decide +kernel
 unfold nmF at h
 by_cases h1 : wd qs = "none" \/ wd qs = "all" <;> by_cases h2 : wd ts = "none" \/ wd ts = "all"
 · rw [if_pos h1, if_pos h2] at h
   exact wd_inj (app_x h)
 · rw [if_pos h1, if_neg h2] at h
   have := congrArg Str.length h
   rw [len_app, hx, jO, jO] at this
   omega
 · rw [if_neg h1, if_pos h2] at h
   have := congrArg Str.length h
   rw [len_app, hx, jO, jO] at this
   omega
 · rw [if_neg h1, if_neg h2] at h
   exact wd_inj h
theorem nmF_nd {rs : List Nat} {sz at' m : Nat} (hrl : rs.length = 8) (hr : ∀ r ∈ rs, r < 26) (hsz : sz <= 8) (hat : at' < sz) (hm : m <= 5) : ((List.range m).map fun n => nmF (wn rs sz at' n)).Nodup := by
 refine List.pairwise_iff_getElem.mpr fun x y hx hy hxy e => ?_
 rw [List.length_map, List.length_range] at hx hy
 rw [List.getElem_map, List.getElem_map, List.getElem_range, List.getElem_range] at e
 have e2 := nmF_inj (by rw [qT, qT]) e
 have e3 := congrArg (·[at']?) e2
 unfold wn at e3
 simp only [List.getElem?_map, List.getElem?_range hat, Option.map_some, Option.some.injEq, if_true] at e3
 omega
theorem cut_take (xs : List V) (k : Nat) (h : k <= xs.length) : cutV xs none (some (k : Int)) = xs.take k := by
 unfold cutV
 rw [HT.sIx_nat, HT.sIx_none, List.drop_zero, Nat.sub_zero, Nat.min_eq_left h]
section
variable {P : Program} {w : World} {K : PySem.W.Frag} {mg : Str -> Option Value} {base : Heap} {f : Addr} {fd : FuncData}
theorem ok_draw (bi : Bi mg) (F : Fun K "_law_draw" "_law_draw" s_u f fd) : FnOk P w K mg base CX0 1 f fd ["script", "k"] (spDr K) := by
 refine F.ok sc_u (fun vs H Q E h => ?_) (fun cdv A outer s H vs Q E hr h => ?_)
 · obtain ⟨a, ns, k, rfl, _⟩ := h
   rfl
 obtain ⟨a, ns, k, rfl, hS, hl, hk, q⟩ := h
 refine ⟨_, (zC (yP (zY op_eq (zK call_len rfl bi.len bt_len (zA (pv 0) pa_nil)) zE (yD _)) (zF (zZ zE)) pss_nil) (zC (zO (i := 2) sc_u.nd rfl (Or.inl rfl) (zL op_mod (zN ix_list (pv 0) (zL op_mod (pv 1) (zK call_len rfl bi.len bt_len (zA (pv 0) pa_nil))) (fun _ _ => rfl)) (zL op_pow zE zE))) (zC (yP (zY op_lt (pv 1) (zK call_len rfl bi.len bt_len (zA (pv 0) pa_nil)) (yD _)) (zF (zZ (pv 2))) pss_nil) (zC (zO (i := 3) sc_u.nd rfl (Or.inl rfl) (zL op_mod (zL op_add (zL op_add (pv 2) (zL op_mul (zL op_mul zE (pv 1)) (pv 1))) zE) zE)) (zF (zZ (zL op_mod (zL op_mul (pv 3) (pv 3)) zE))))))), ?_⟩
 refine zI fun N hN => ?_
 simp! []
 refine ⟨_, .inl ⟨_, hS, rfl⟩, rfl, ?_⟩
 rw [List.length_map]
 by_cases h0 : ns.length = 0
 · rw [if_pos (by omega)]
   exact q 0 (by omega)
 rw [if_neg (by omega)]
 refine hN _ _ ?_
 clear hN
 refine zI fun N hN => ?_
 simp! []
 have hm0 : 0 <= (k : Int) % (ns.length : Int) := Int.emod_nonneg _ (by omega)
 have hm1 : (k : Int) % (ns.length : Int) < ns.length := Int.emod_lt_of_pos _ (by omega)
 obtain ⟨z, hz⟩ := idxI ns ((k : Int) % (ns.length : Int)) hm0 hm1
 refine ⟨ns.length, .inl ⟨_, hS, by rw [List.length_map]⟩, by omega, _, hS, _, hz, ⟨by decide, by decide, by decide⟩, _, rfl, p1060, hN _ _ ?_⟩
 clear hN
 have hc := Int.emod_nonneg z (b := 10 ^ Int.toNat 60) (Int.ne_of_gt p1060)
 generalize z % 10 ^ Int.toNat 60 = cell at hc
 refine zI fun N hN => ?_
 simp! []
 refine ⟨ns.length, .inl ⟨_, hS, by rw [List.length_map]⟩, ?_⟩
 split
 · exact q cell hc
 refine hN _ _ ?_
 clear hN
 refine zI fun N hN => ?_
 simp! []
 refine ⟨.inl ⟨by decide, by decide⟩, .inl ⟨by omega, by omega⟩, by decide, hN _ _ ?_⟩
 clear hN
 have h1 := Int.emod_nonneg (cell + 7919 * (k : Int) * (k : Int) + 1) (b := 2147483647) (by decide)
 have h2 := Int.emod_lt_of_pos (cell + 7919 * (k : Int) * (k : Int) + 1) (b := 2147483647) (by decide)
 generalize (cell + 7919 * (k : Int) * (k : Int) + 1) % 2147483647 = mixed at h1 h2
 simp! []
 refine ⟨.inl ⟨by omega, by omega⟩, by decide, q _ (Int.emod_nonneg _ (by decide))⟩
theorem ok_names (bi : Bi mg) (h_u : Has P w K mg base 1 "_law_draw" ["script", "k"] (spDr K)) (F : Fun K "_law_names" "_law_names" s_r f fd) : FnOk P w K mg base CX0 2 f fd ["script", "k", "many"] (spNs K) := by
 refine F.ok sc_r (fun vs H Q E h => ?_) (fun cdv A outer s H vs Q E hr h => ?_)
 · obtain ⟨a, ns, k, m, rfl, _⟩ := h
   rfl
 obtain ⟨a, ns, k, m, rfl, hS, hl, hk, h1, h5, q⟩ := h
 refine ⟨_, (zC (zO (i := 3) sc_r.nd rfl (Or.inr rfl) yL) (zC (zO (i := 4) sc_r.nd rfl (Or.inl rfl) (zP h_u (hr.mono (by omega)) rfl (zA (pv 0) (zA (pv 1) pa_nil)))) (zC (zO (i := 5) sc_r.nd rfl (Or.inl rfl) (zL op_mod (zL op_mul (zP h_u (hr.mono (by omega)) rfl (zA (pv 0) (zA (zL op_add (pv 1) zE) pa_nil))) zE) (zL op_pow zE zE))) (zC (zO (i := 6) sc_r.nd rfl (Or.inr rfl) (yX pa_nil)) (zC (yK PassesOwn.never rfl (yO rfl bi.range (zA zE pa_nil)) (zJ (i := 7) sc_r.nd rfl (Or.inl rfl)) (zC (zV (xQ PySem.F.plainAttrs_list PySem.F.slot_list_append PySem.F.type_list_append mt_append (pv 6) (zA (zL op_mod (pv 5) zE) pa_nil))) (zF (zO (i := 5) sc_r.nd rfl (Or.inl rfl) (zL op_fdiv (pv 5) zE))))) (zC (yP (zY op_eq (zL op_mod (pv 4) zE) zE (yD _)) (zC (ps_asg (zL op_add zE (zL op_mod (zN ix_list (pv 6) zE (fun _ _ => rfl)) zE)) (pg_sub (pv 6) zE set_list)) (zF (zZ (yW ["j"] ["letters", "row"] [3, 6] (yO rfl bi.range (zA (pv 2) pa_nil)) (fun _ _ _ _ nd => zJ (i := 0) nd rfl (Or.inl rfl)) (fun _ _ _ _ => yY) (fun _ _ _ _ => (pe_bmK K PySem.F.plainAttrs_str PySem.F.slot_str_join PySem.F.type_str_join (mt_joinK K) yL (zA (by exact (yW ["n"] ["letters"] [1] (pi_listK K (pe_slice (sl_listK K) (pv 2) po_none (po_some (zL op_add (pv 0) zE)))) (fun _ _ _ _ nd => zJ (i := 0) nd rfl (Or.inl rfl)) (fun _ _ _ _ => yY) (fun _ _ _ _ => (zN ix_str (pv 1) (pv 0) (fun _ _ => rfl))))) pa_nil))))))) pss_nil) (zC (zO (i := 8) sc_r.nd rfl (Or.inl rfl) (zL op_add zE (zL op_mod (zL op_fdiv (pv 4) zE) zE))) (zC (zO (i := 9) sc_r.nd rfl (Or.inr rfl) (zL op_mod (zL op_fdiv (pv 4) zE) (pv 8))) (zC (zO (i := 10) sc_r.nd rfl (Or.inl rfl) (yX pa_nil)) (zC (yK PassesOwn.never rfl (yO rfl bi.range (zA (pv 2) pa_nil)) (zJ (i := 11) sc_r.nd rfl (Or.inr rfl)) (zC (zO (i := 12) sc_r.nd rfl (Or.inl rfl) (xQ PySem.F.plainAttrs_str PySem.F.slot_str_join PySem.F.type_str_join mt_join yL (zA (yW ["j"] ["letters", "row", "n", "at"] [3, 6, 11, 9] (yO rfl bi.range (zA (pv 8) pa_nil)) (fun _ _ _ _ nd => zJ (i := 0) nd rfl (Or.inl rfl)) (fun _ _ _ _ => yY) (fun _ _ _ _ => (zN ix_str (pv 1) (zL op_mod (zL op_add (zN (jU K) (pv 2) (pv 0) (fun _ _ => rfl)) (zL op_mul (pv 3) (jY call_intB rfl bi.int bt_int (zA (jX op_eq (pv 0) (pv 4) (yD _)) pa_nil)))) zE) (fun _ _ => rfl)))) pa_nil))) (zC (yP (PW.pt (xR (zY op_eq (pv 12) yL (yD _)) (qE (zY op_eq (pv 12) yL (yD _))))) (zF (zO (i := 12) sc_r.nd rfl (Or.inl rfl) (zL op_add_str (pv 12) yL))) pss_nil) (zF (zV (xQ PySem.F.plainAttrs_list PySem.F.slot_list_append PySem.F.type_list_append mt_append (pv 10) (zA (pv 12) pa_nil))))))) (zF (zZ (pv 10))))))))))))), ?_⟩
 refine zI fun N hN => ?_
 simp! []
 refine hN _ _ ?_
 clear hN
 refine zI fun N hN => ?_
 simp! [spDr]
 refine ⟨ns, k, rfl, hS, hl, by omega, fun fi hfi => hN _ _ ?_⟩
 clear hN
 refine zI fun N hN => ?_
 simp! [spDr]
 refine ⟨ns, k + 1, by omega, hS, hl, by omega, fun z hz => ⟨.inr ⟨by decide, by decide⟩, ⟨by decide, by decide, by decide⟩, by decide, hN _ _ ?_⟩⟩
 clear hN
 have hsp := Int.emod_nonneg (z * 982451653) (b := 26 ^ Int.toNat 8) (by decide)
 generalize z * 982451653 % 26 ^ Int.toNat 8 = sp at hsp
 refine zI fun N hN => ?_
 simp! []
 refine ⟨zM (by decide), fun pr hpr => hN _ _ ?_⟩
 clear hN
 have s1 := zD hpr (.lst [])
 have k1 : upd H pr (.lst []) pr = some (.lst (([] : List Nat).map nV)) := zB
 generalize upd H pr (.lst []) = H1 at s1 k1 ⊢
 refine zW (fun σ H' => ∃ (rs : List Nat) (sp : Int) (o : Option V), Same H H' /\ H' pr = some (.lst (rs.map nV)) /\ rs.length = 8 /\ (∀ r ∈ rs, r < 26) /\ σ = [some (V.ref a), some (V.int k), some (V.int m), some (V.str "abcdefghijklmnopqrstuvwxyz"), some (V.int fi), some (V.int sp), some (V.ref pr), o, none, none, none, none, none]) (fun N hN => ?_) (fun σ H' h => ?_)
 · simp! []
   refine ⟨by decide, by decide, ?_⟩
   refine xE (n := Int.toNat 8) (fun i σ H' => ∃ (rs : List Nat) (sp : Int) (o : Option V), Same H H' /\ H' pr = some (.lst (rs.map nV)) /\ rs.length = i /\ (∀ r ∈ rs, r < 26) /\ 0 <= sp /\ σ = [some (V.ref a), some (V.int k), some (V.int m), some (V.str "abcdefghijklmnopqrstuvwxyz"), some (V.int fi), some (V.int sp), some (V.ref pr), o, none, none, none, none, none]) ⟨[], _, _, s1, k1, rfl, (fun r hr => by cases hr), hsp, rfl⟩ (fun i σ H' hi h => ?_) (fun σ H' h => ?_)
   · obtain ⟨rs, sp, o, s2, k2, hrl, hr26, hs0, rfl⟩ := h
     have hi8 : i < 8 := hi
     simp! []
     have h0 : 0 <= sp % 26 := by omega
     refine ⟨.inl ⟨rfl, _, SqL.of k2⟩, by decide, _, k2, xO (by rw [List.length_map]; omega), ⟨by decide, by decide⟩, s2.upd hpr, rs ++ [(sp % 26).toNat], ?_, by rw [List.length_append, hrl]; rfl, fun r hr => ?_, sp / 26, by omega, rfl, _, rfl⟩
     · rw [zB, List.map_append]
       show some (HO.lst (rs.map nV ++ [V.int (sp % 26)])) = some (HO.lst (rs.map nV ++ [V.int (((sp % 26).toNat : Nat) : Int)]))
       rw [show (((sp % 26).toNat : Nat) : Int) = sp % 26 by omega]
     · rcases List.mem_append.mp hr with hr | hr
       · exact hr26 r hr
       · rw [List.mem_singleton.mp hr]; omega
   · obtain ⟨rs, sp, o, s2, k2, hrl, hr26, hs0, rfl⟩ := h
     exact hN _ _ ⟨rs, _, _, s2, k2, hrl, hr26, rfl⟩
 clear s1 k1
 obtain ⟨rs, sp, o, s1, k1, hrl, hr26, rfl⟩ := h
 refine zI fun N hN => ?_
 simp! [gSub, rSetL]
 refine ⟨by decide, rfl, ?_⟩
 by_cases hf3 : fi % 3 = 0
 · rw [if_pos hf3]
   obtain ⟨r0, rt, rfl⟩ : ∃ r0 rt, rs = r0 :: rt := by
     cases rs with
     | nil => simp at hrl
     | cons r0 rt => exact ⟨r0, rt, rfl⟩
   replace k1 : H' pr = some (.lst (nV r0 :: rt.map nV)) := k1
   refine ⟨_, SqL.of k1, nV r0, at0, _, rfl, by decide, ?_⟩
   obtain ⟨r1, hr1, e1⟩ : ∃ r1 : Nat, (1 <= r1 /\ r1 <= 12) /\ (1 + (r0 : Int) % 12) = (r1 : Int) := ⟨1 + r0 % 12, by omega, by omega⟩
   rw [e1]
   refine ⟨_, k1, 0, by simp [ixN], by omega, by omega, ?_⟩
   show LcW _ _ _ _ _ _ _ (upd H' pr (HO.lst ((r1 :: rt).map nV))) Q
   have hr' : ∀ r ∈ r1 :: rt, r < 26 := fun r hr => by
     rcases List.mem_cons.mp hr with rfl | hr
     · omega
     · exact hr26 r (List.mem_cons_of_mem _ hr)
   have hrl' : (r1 :: rt).length = 8 := hrl
   have s2 := s1.upd (o := .lst ((r1 :: rt).map nV)) hpr
   have k2 : upd H' pr (.lst ((r1 :: rt).map nV)) pr = some (.lst ((r1 :: rt).map nV)) := zB
   generalize upd H' pr (.lst ((r1 :: rt).map nV)) = H2 at s2 k2 ⊢
   clear k1 s1 hrl hr26
   refine qR (n := (m : Int).toNat) (fun i ys σ H3 => Same H2 H3 /\ ys = (List.range i).map (fun j => V.str (wd ((r1 :: rt).take (j + 1)))) /\ ∃ o, σ = [o, some (V.str "abcdefghijklmnopqrstuvwxyz"), some (V.ref pr)]) ⟨Same.refl _, rfl, _, rfl⟩ (zM (by omega)) (fun i ys σ H3 e => ?_) (fun i ys σ H3 C hi e hC => ?_) (fun ys σ H3 e p hp => ?_)
   · rw [e.2.1, List.length_map, List.length_range]
     exact Nat.le_refl _
   · obtain ⟨s3, rfl, o, rfl⟩ := e
     have e0 : (0 : Int) + (i : Int) + 1 = ((i + 1 : Nat) : Int) := by omega
     simp! []
     refine ⟨rfl, _, SqL.of (s3 _ _ k2), fun p1 hp1 => ?_⟩
     rw [e0, cut_take _ _ (by rw [List.length_map]; omega), ← List.map_take]
     have s4 := s3.trans (zD hp1 (.lst (((r1 :: rt).take (i + 1)).map nV)))
     have k4 : upd H3 p1 (.lst (((r1 :: rt).take (i + 1)).map nV)) p1 = some (.lst (((r1 :: rt).take (i + 1)).map nV)) := zB
     generalize upd H3 p1 (.lst (((r1 :: rt).take (i + 1)).map nV)) = H4 at s4 k4 ⊢
     have hq : ∀ r ∈ (r1 :: rt).take (i + 1), r < 26 := fun r hr => hr' r (List.mem_of_mem_take hr)
     have hql : ((r1 :: rt).take (i + 1)).length <= 8 := by rw [List.length_take]; omega
     generalize hqs : (r1 :: rt).take (i + 1) = qs at k4 hq hql ⊢
     refine ⟨⟨_, SqL.of k4⟩, ?_⟩
     refine xU (xs := qs.map nV) (fun k ys σ H5 => H5 = H4 /\ ys = (qs.take k).map (fun r => V.str ⟨#[97 + r]⟩) /\ ∃ o, σ = [o, some (V.str "abcdefghijklmnopqrstuvwxyz")]) ⟨rfl, rfl, _, rfl⟩ (zM (by rw [List.length_map]; omega)) (fun k ys σ H5 e => ?_) (fun k ys σ H5 e => by rw [e.1]; exact SqL.of k4) (fun k x ys σ H5 C' hx e hC' => ?_) (fun ys σ H5 e p hp => ?_)
     · rw [e.2.1, List.length_map, List.length_take]
       exact Nat.min_le_left ..
     · obtain ⟨rfl, rfl, o, rfl⟩ := e
       rw [List.getElem?_map] at hx
       obtain ⟨r, hr, rfl⟩ := Option.map_eq_some_iff.mp hx
       obtain ⟨hkl, hk2⟩ := List.getElem?_eq_some_iff.mp hr
       simp! []
       refine ⟨zM (by decide +kernel), _, wF r (hq r (List.mem_of_getElem? hr)), hC' _ _ _ ⟨rfl, ?_, _, rfl⟩⟩
       rw [List.take_succ_eq_append_getElem hkl, hk2, List.map_append]
       rfl
     · obtain ⟨rfl, rfl, o, rfl⟩ := e
       rw [List.length_map, List.take_of_length_le (Nat.le_refl _)]
       refine ⟨p, rfl, qs.map (fun r => (⟨#[97 + r]⟩ : Str)), SqL.of (by rw [zB, List.map_map]; rfl), ?_, hC _ _ _ ⟨s4.trans (zD hp _), ?_, _, rfl⟩⟩
       · rw [List.map_map]
         have e1 : ((fun x : Str => x.length) ∘ fun r => (⟨#[97 + r]⟩ : Str)) = fun _ => 1 := rfl
         rw [e1, List.length_map]
         have e2 : (qs.map fun _ => 1).sum = qs.length := by
           clear hqs k4 hq hql
           induction qs with
           | nil => rfl
           | cons q qs ih => rw [List.map_cons, List.sum_cons, ih, List.length_cons]; omega
         rw [e2, show (Str.ofString "").length = 0 from rfl]
         omega
       · rw [join_wd, List.range_succ, List.map_append, ← hqs]
         rfl
   · obtain ⟨s3, rfl, o, rfl⟩ := e
     rw [show (m : Int).toNat = m from Int.toNat_natCast _]
     refine q p ((List.range m).map fun j => wd ((r1 :: rt).take (j + 1))) _ ((s2.trans s3).trans (zD hp _)) ⟨by rw [zB, List.map_map]; rfl, by rw [List.length_map, List.length_range], ?_, fun z hz => ?_⟩
     · refine List.pairwise_iff_getElem.mpr fun x y hx hy hxy e => ?_
       rw [List.length_map, List.length_range] at hx hy
       rw [List.getElem_map, List.getElem_map, List.getElem_range, List.getElem_range] at e
       have := congrArg List.length (wd_inj e)
       rw [List.length_take, List.length_take] at this
       omega
     · obtain ⟨j, hj, rfl⟩ := List.mem_map.mp hz
       have hj := List.mem_range.mp hj
       have hlj : (wd ((r1 :: rt).take (j + 1))).length = j + 1 := by rw [jO, List.length_take]; omega
       have h0 : (wd ((r1 :: rt).take (j + 1))).cps.toList[0]? = some (97 + r1) := by rw [wd_cps]; rfl
       refine ⟨by omega, by omega, fun c hc => ?_, fun e => ?_, fun e => ?_⟩
       · rw [wd_cps] at hc
         obtain ⟨r, hr, rfl⟩ := List.mem_map.mp hc
         have := hr' r (List.mem_of_mem_take hr)
         omega
       · rw [e, show ("none" : Str).cps.toList[0]? = some 110 by decide +kernel] at h0
         have := Option.some.inj h0
         omega
       · rw [e, show ("all" : Str).cps.toList[0]? = some 97 by decide +kernel] at h0
         have := Option.some.inj h0
         omega
 rw [if_neg hf3]
 refine hN _ _ ?_
 clear hN
 refine zI fun N hN => ?_
 simp! []
 refine ⟨⟨by decide, by decide⟩, by decide, hN _ _ ?_⟩
 clear hN
 obtain ⟨sz, hsz, esz⟩ : ∃ sz : Nat, (1 <= sz /\ sz <= 8) /\ 1 + fi / 3 % 8 = (sz : Int) := ⟨(1 + fi / 3 % 8).toNat, by omega, by omega⟩
 rw [esz]
 refine zI fun N hN => ?_
 simp! []
 refine ⟨⟨by decide, by decide⟩, by omega, hN _ _ ?_⟩
 clear hN
 have ha0 := Int.emod_nonneg (fi / 24) (b := (sz : Int)) (by omega)
 have ha1 := Int.emod_lt_of_pos (fi / 24) (b := (sz : Int)) (by omega)
 obtain ⟨at', hat, eat⟩ : ∃ at' : Nat, at' < sz /\ fi / 24 % (sz : Int) = (at' : Int) := ⟨(fi / 24 % (sz : Int)).toNat, by omega, by omega⟩
 rw [eat]
 clear ha0 ha1 eat esz
 refine zI fun N hN => ?_
 simp! []
 refine ⟨zM (by decide), fun pn hpn => hN _ _ ?_⟩
 clear hN
 have npn := s1.free hpn
 have nrn : pr ≠ pn := xD k1 hpn
 have s2 := s1.trans (zD hpn (.lst []))
 have k2 : upd H' pn (.lst []) pn = some (.lst (([] : List Str).map V.str)) := zB
 replace k1 := zD hpn (.lst []) _ _ k1
 generalize upd H' pn (.lst []) = H2 at s2 k1 k2 ⊢
 refine zW (fun σ H' => ∃ (o7 o11 o12 : Option V), Same H H' /\ H' pn = some (.lst (((List.range m).map fun n => nmF (wn rs sz at' n)).map V.str)) /\ σ = [some (V.ref a), some (V.int k), some (V.int m), some (V.str "abcdefghijklmnopqrstuvwxyz"), some (V.int fi), some (V.int sp), some (V.ref pr), o7, some (V.int sz), some (V.int at'), some (V.ref pn), o11, o12]) (fun N hN => ?_) (fun σ H' h => ?_)
 · simp! []
   refine ⟨by omega, by omega, ?_⟩
   refine xE (n := (m : Int).toNat) (fun i σ H' => ∃ (o7 o11 o12 : Option V), Same H H' /\ H' pr = some (.lst (rs.map nV)) /\ H' pn = some (.lst (((List.range i).map fun n => nmF (wn rs sz at' n)).map V.str)) /\ σ = [some (V.ref a), some (V.int k), some (V.int m), some (V.str "abcdefghijklmnopqrstuvwxyz"), some (V.int fi), some (V.int sp), some (V.ref pr), o7, some (V.int sz), some (V.int at'), some (V.ref pn), o11, o12]) ⟨_, _, _, s2, k1, k2, rfl⟩ (fun i σ H' hi h => ?_) (fun σ H' h => ?_)
   rotate_left
   · obtain ⟨o7, o11, o12, s3, _, k3, rfl⟩ := h
     rw [show (m : Int).toNat = m from Int.toNat_natCast _] at k3
     exact hN _ _ ⟨_, _, _, s3, k3, rfl⟩
   obtain ⟨o7, o11, o12, s3, kr, k3, rfl⟩ := h
   have e0 : (0 : Int) + (i : Int) = ((i : Nat) : Int) := by omega
   have him : i < m := by omega
   show tSeq _ _ _ _ _
   refine zI fun N hN => ?_
   simp! []
   rw [e0]
   refine ⟨rfl, by omega, by omega, ?_⟩
   refine qR (n := (sz : Int).toNat) (fun j ys σ H5 => H5 = H' /\ ys = ((wn rs sz at' i).take j).map (fun r => V.str ⟨#[97 + r]⟩) /\ ∃ o, σ = [o, some (V.str "abcdefghijklmnopqrstuvwxyz"), some (V.ref pr), some (V.int i), some (V.int at')]) ⟨rfl, rfl, _, rfl⟩ (zM (by omega)) (fun j ys σ H5 e => ?_) (fun j ys σ H5 C' hj e hC' => ?_) (fun ys σ H5 e p hp => ?_)
   · rw [e.2.1, List.length_map, List.length_take]
     exact Nat.min_le_left ..
   · obtain ⟨rfl, rfl, o, rfl⟩ := e
     have e1 : (0 : Int) + (j : Int) = ((j : Nat) : Int) := by omega
     have hj8 : j < rs.length := by omega
     simp! []
     rw [e1]
     refine ⟨_, SqL.of kr, nV rs[j], zU (by rw [List.getElem?_map, List.getElem?_eq_getElem hj8]; rfl), ?_⟩
     have e2 : ((rs[j] : Int) + (i : Int) * (if (j : Int) = (at' : Int) then 1 else 0)) % 26 = (((rs.getD j 0 + (if j = at' then i else 0)) % 26 : Nat) : Int) := by
       rw [List.getD_eq_getElem?_getD, List.getElem?_eq_getElem hj8]
       show ((rs[j] : Int) + (i : Int) * (if (j : Int) = (at' : Int) then 1 else 0)) % 26 = (((rs[j] + (if j = at' then i else 0)) % 26 : Nat) : Int)
       by_cases hja : j = at'
       · rw [if_pos hja, if_pos (by omega)]; omega
       · rw [if_neg hja, if_neg (by omega)]; omega
     refine ⟨rfl, .inl ⟨by omega, by omega⟩, _, rfl, by decide, zM (by decide +kernel), 97 + (rs.getD j 0 + (if j = at' then i else 0)) % 26, ?_, hC' _ _ _ ⟨rfl, ?_, _, rfl⟩⟩
     · rw [e2]
       exact wF _ (by omega)
     · have hjl : j < (wn rs sz at' i).length := by rw [qT]; omega
       rw [List.take_succ_eq_append_getElem hjl, List.map_append]
       have e3 : (wn rs sz at' i)[j] = (rs.getD j 0 + (if j = at' then i else 0)) % 26 := by
         have : (wn rs sz at' i)[j]? = some ((rs.getD j 0 + (if j = at' then i else 0)) % 26) := by
           unfold wn
           rw [List.getElem?_map, List.getElem?_range (by omega)]
           rfl
         rw [List.getElem?_eq_getElem hjl] at this
         exact Option.some.inj this
       rw [e3]
       rfl
   obtain ⟨rfl, rfl, o, rfl⟩ := e
   rw [show (sz : Int).toNat = sz from Int.toNat_natCast _, List.take_of_length_le (by rw [qT]; exact Nat.le_refl _)]
   have hwl := qT rs sz at' i
   refine ⟨p, rfl, (wn rs sz at' i).map (fun r => (⟨#[97 + r]⟩ : Str)), SqL.of (by rw [zB, List.map_map]; rfl), ?_, hN _ _ ?_⟩
   · rw [List.map_map]
     have e1 : ((fun x : Str => x.length) ∘ fun r => (⟨#[97 + r]⟩ : Str)) = fun _ => 1 := rfl
     rw [e1, List.length_map]
     have e2 : ∀ qs : List Nat, (qs.map fun _ => 1).sum = qs.length := fun qs => by
       induction qs with
       | nil => rfl
       | cons q qs ih => rw [List.map_cons, List.sum_cons, ih, List.length_cons]; omega
     rw [e2, show (Str.ofString "").length = 0 from rfl]
     omega
   clear hN
   rw [join_wd]
   have s4 := s3.trans (zD hp (.lst ((wn rs sz at' i).map fun r => V.str ⟨#[97 + r]⟩)))
   replace kr := zD hp (.lst ((wn rs sz at' i).map fun r => V.str ⟨#[97 + r]⟩)) _ _ kr
   replace k3 := zD hp (.lst ((wn rs sz at' i).map fun r => V.str ⟨#[97 + r]⟩)) _ _ k3
   generalize upd H5 p (.lst ((wn rs sz at' i).map fun r => V.str ⟨#[97 + r]⟩)) = H6 at s4 kr k3 ⊢
   refine zW (fun σ H' => H' = H6 /\ σ = [some (V.ref a), some (V.int k), some (V.int m), some (V.str "abcdefghijklmnopqrstuvwxyz"), some (V.int fi), some (V.int sp), some (V.ref pr), o7, some (V.int sz), some (V.int at'), some (V.ref pn), some (V.int i), some (V.str (nmF (wn rs sz at' i)))]) (fun N hN => ?_) (fun σ H' h => ?_)
   · have hx1 : (wd (wn rs sz at' i)).length + (Str.ofString "x").length <= sizeLine := by
       rw [jO, hwl, show (Str.ofString "x").length = 1 by decide +kernel]
       exact zM (by omega)
     simp! []
     unfold nmF at hN
     refine ⟨rfl, ?_⟩
     by_cases c1 : wd (wn rs sz at' i) = "none"
     · rw [if_pos c1]
       rw [if_pos (.inl c1)] at hN
       exact ⟨hx1, hN _ _ ⟨rfl, rfl⟩⟩
     rw [if_neg c1]
     refine ⟨rfl, ?_⟩
     by_cases c2 : wd (wn rs sz at' i) = "all"
     · rw [if_pos c2]
       rw [if_pos (.inr c2)] at hN
       exact ⟨hx1, hN _ _ ⟨rfl, rfl⟩⟩
     rw [if_neg c2]
     rw [if_neg (by rintro (z | z); exact c1 z; exact c2 z)] at hN
     exact hN _ _ ⟨rfl, rfl⟩
   obtain ⟨rfl, rfl⟩ := h
   simp! []
   refine ⟨.inl ⟨rfl, _, SqL.of k3⟩, _, k3, xO (by rw [List.length_map, List.length_map, List.length_range]; omega), s4.upd npn, by rw [zG nrn]; exact kr, ?_, _, rfl⟩
   rw [zB, List.range_succ, List.map_append, List.map_append]
   rfl
 obtain ⟨o7, o11, o12, s3, k3, rfl⟩ := h
 simp! []
 exact q pn _ _ s3 ⟨k3, by rw [List.length_map, List.length_range], nmF_nd hrl hr26 hsz.2 hat h5, fun z hz => by
   obtain ⟨n, _, rfl⟩ := List.mem_map.mp hz
   exact nmF_nm hsz⟩
end
abbrev s_A : Stmt := top 8
theorem sc_A : FnScope ["n"] ["n"] (zH s_A) := ⟨rfl, rfl, rfl, by decide +kernel, rfl, by decide +kernel, by decide +kernel⟩
abbrev s_z : Stmt := top 9
theorem sc_z : FnScope ["n", "bound"] ["n", "bound"] (zH s_z) := ⟨rfl, rfl, rfl, by decide +kernel, rfl, by decide +kernel, by decide +kernel⟩
abbrev jI (H : Hp) (rows : List Rw) (us : List V) : Prop := DAts H (rows.map dRw) us
abbrev vL (H : Hp) (ls : List Ln) (us : List V) : Prop := DAts H (ls.map dLn) us
abbrev WtAts (H : Hp) (as : List Wt) (us : List V) : Prop := DAts H (as.map dWt) us
theorem yZ {α : Type} {H : Hp} {f : α -> Dt} {xs : List α} {us : List V} {i : Nat} {v : V} (h : DAts H (xs.map f) us) (hv : us[i]? = some v) : ∃ x, xs[i]? = some x /\ DAt H (f x) v := by
 have hl := DAts.length h
 rw [List.length_map] at hl
 have hi : i < xs.length := by rw [← hl]; exact (List.getElem?_eq_some_iff.mp hv).1
 obtain ⟨u, h1, h2⟩ := DAts.get (d := f xs[i]) h (by rw [List.getElem?_map, List.getElem?_eq_getElem hi]; rfl)
 rw [hv] at h1
 cases h1
 exact ⟨_, List.getElem?_eq_getElem hi, h2⟩
theorem jH {α : Type} {H : Hp} {f : α -> Dt} {xs : List α} {us : List V} (h : DAts H (xs.map f) us) : us.length = xs.length := by
 have hl := DAts.length h
 rwa [List.length_map] at hl
theorem LnAt.out {H : Hp} {l : Ln} {v : V} (h : DAt H (dLn l) v) : ∃ a b us, v = .ref a /\ H a = some (.tup [.int l.i, .int l.j, .ref b]) /\ H b = some (.tup (.str l.w :: us)) /\ WtAts H l.as us := by
 obtain ⟨a, vs, e1, e2, u1, r1, q1, h1, u2, r2, q2, h2, u3, r3, q3, ⟨b, ws, g1, g2, x, y, g3, g4, g5⟩, h4⟩ := h
 have h1 : u1 = .int l.i := h1
 have h2 : u2 = .int l.j := h2
 have h4 : r3 = [] := h4
 have g4 : x = .str l.w := g4
 subst h4 q3 q2 q1 h1 h2 g1 g3 g4
 exact ⟨a, b, y, e1, e2, g2, g5⟩
theorem RwAt.out {H : Hp} {r : Rw} {v : V} (h : DAt H (dRw r) v) : ∃ a x us, v = .ref a /\ H a = some (.tup (.str x :: us)) /\ (match r with | .no => x = "none" /\ us = [] | .nm y => x = "name" /\ us = [.str y] | .bo i j => x = "both" /\ us = [.int i, .int j]) := by
 cases r with
 | no =>
   obtain ⟨a, vs, e1, e2, u1, r1, q1, h1, h2⟩ := h
   have h1 : u1 = .str "none" := h1
   have h2 : r1 = [] := h2
   subst h2 q1 h1
   exact ⟨a, _, _, e1, e2, rfl, rfl⟩
 | nm y =>
   obtain ⟨a, vs, e1, e2, u1, r1, q1, h1, u2, r2, q2, h2, h3⟩ := h
   have h1 : u1 = .str "name" := h1
   have h2 : u2 = .str y := h2
   have h3 : r2 = [] := h3
   subst h3 q2 q1 h1 h2
   exact ⟨a, _, _, e1, e2, rfl, rfl⟩
 | bo i j =>
   obtain ⟨a, vs, e1, e2, u1, r1, q1, h1, u2, r2, q2, h2, u3, r3, q3, h3, h4⟩ := h
   have h1 : u1 = .str "both" := h1
   have h2 : u2 = .int i := h2
   have h3 : u3 = .int j := h3
   have h4 : r3 = [] := h4
   subst h4 q3 q2 q1 h1 h2 h3
   exact ⟨a, _, _, e1, e2, rfl, rfl⟩
def ptsR : Rw -> List Int
 | .bo i j => [i, j]
 | _ => []
theorem qQ {rows : List Rw} {n : Int} {r : Rw} (h : n % 2 = 0) (hr : rows[(n / 2).toNat]? = some r) : uW rows n = ptsR r := by
 unfold uW
 rw [if_pos h, hr]
 cases r <;> rfl
def isN : Wt -> Bool
 | .n _ => true
 | .ps _ => false
def spWh : Sp := fun vs H Q _ => ∃ (v : V) (x : Wt), vs = [v] /\ DAt H (dWt x) v /\ Q (.bl (isN x)) H
def spBel : Sp := fun vs H Q _ => ∃ (v : V) (x : Wt) (b : Int), vs = [v, .int b] /\ DAt H (dWt x) v /\ Q (.bl (vT b x)) H
section
variable {P : Program} {w : World} {K : PySem.W.Frag} {mg : Str -> Option Value} {base : Heap} {f : Addr} {fd : FuncData}
theorem ok_is_whole (bi : Bi mg) (F : Fun K "is_whole" "is_whole" s_A f fd) : FnOk P w K mg base CX0 1 f fd ["n"] spWh := by
 refine F.ok sc_A (fun vs H Q E h => ?_) (fun cdv A outer s H vs Q E hr h => ?_)
 · obtain ⟨v, x, rfl, _⟩ := h
   rfl
 obtain ⟨v, x, rfl, hv, q⟩ := h
 refine ⟨_, (zF (zZ (qU (zK (xF (T := "int")) rfl bi.isinstance bt_isinstance (zA (pv 0) (zA (jQ bi.int bt_int rfl) pa_nil))) (uV (pe_not (zK (xF (T := "bool")) rfl bi.isinstance bt_isinstance (zA (pv 0) (zA (jQ bi.bool bt_bool rfl) pa_nil)))))))), ?_⟩
 cases x with
 | n i =>
   have e : v = .int i := hv
   subst e
   simp! []
   exact ⟨_, .int i, true, xM, iteT ⟨_, .int i, false, kit_ib, q⟩⟩
 | ps l =>
   obtain ⟨a, us, rfl, ha, hu⟩ := hv
   simp! []
   exact ⟨_, .tup ha, false, kit_ti, iteF q⟩
theorem ok_is_below (bi : Bi mg) (h_A : Has P w K mg base 1 "is_whole" ["n"] spWh) (F : Fun K "is_below" "is_below" s_z f fd) : FnOk P w K mg base CX0 2 f fd ["n", "bound"] spBel := by
 refine F.ok sc_z (fun vs H Q E h => ?_) (fun cdv A outer s H vs Q E hr h => ?_)
 · obtain ⟨v, x, b, rfl, _⟩ := h
   rfl
 obtain ⟨v, x, b, rfl, hv, q⟩ := h
 refine ⟨_, (zF (zZ (qU (zP h_A (hr.mono (by omega)) rfl (zA (pv 0) pa_nil)) (uV (pe_chain op_le op_lt zE (pv 0) (pv 1)))))), ?_⟩
 simp! [spWh]
 refine ⟨x, hv, ?_⟩
 cases x with
 | n i =>
   have e : v = .int i := hv
   subst e
   rw [show isN (.n i) = true from rfl, if_pos rfl]
   have q : Q (.bl (decide (0 <= i) && decide (i < b))) H := q
   refine ⟨i, rfl, ?_⟩
   split
   · rename_i h
     rw [decide_eq_true h, Bool.true_and] at q
     exact ⟨i, rfl, q⟩
   · rename_i h
     rw [decide_eq_false h, Bool.false_and] at q
     exact q
 | ps l =>
   rw [show isN (.ps l) = false from rfl, if_neg Bool.false_ne_true]
   exact q
end
theorem prAt {H : Hp} {p : Pr} {v : V} (h : DAt H (dPr p) v) : ∃ a, v = .ref a /\ H a = some (.tup [.int p.1, .int p.2]) := by
 obtain ⟨a, vs, e1, e2, u1, r1, q1, h1, u2, r2, q2, h2, h3⟩ := h
 have h1 : u1 = .int p.1 := h1
 have h2 : u2 = .int p.2 := h2
 have h3 : r2 = [] := h3
 subst h3 q2 q1 h1 h2
 exact ⟨a, e1, e2⟩
section
variable {P : Program} {w : World} {K : PySem.W.Frag} {mg : Str -> Option Value} {base : Heap} {f : Addr} {fd : FuncData}
end
theorem nrAt {H : Hp} {r : yE} {v : V} (h : DAt H (dNR r) v) : ∃ a l b us, v = .ref a /\ H a = some (.tup [.ref l, .ref b]) /\ H l = some (.lst us) /\ DAts H (r.1.map dPr) us /\ H b = some (.tup [.int r.2.1, .int r.2.2]) := by
 obtain ⟨a, vs, e1, e2, u1, r1, q1, ⟨l, us, g1, g2, g3⟩, u2, r2, q2, h2, h3⟩ := h
 obtain ⟨b, g4, g5⟩ := prAt h2
 have h3 : r2 = [] := h3
 subst h3 q2 q1 g1 g4
 exact ⟨a, l, b, us, e1, e2, g2, g3, g5⟩
theorem rul_eq {rules : List yE} {ls : List Ln} {k : Nat} {l : Ln} {r : Int} {ps : List Int} (h : l.as = [.n r, .ps ps]) : qK rules ls k l = if 0 <= r /\ r < rules.length then (match rules[r.toNat]? with | some q => (l.i, l.j) == q.2 && (ps.map fun p => xX ls k (.n p)) == q.1.map some | none => false) else false := by
 unfold qK
 rw [h] <;> rfl
section
variable {P : Program} {w : World} {K : PySem.W.Frag} {mg : Str -> Option Value} {base : Heap} {f : Addr} {fd : FuncData}
end
section
variable {P : Program} {w : World} {K : PySem.W.Frag} {mg : Str -> Option Value} {base : Heap} {f : Addr} {fd : FuncData}
end
section
variable {P : Program} {w : World} {K : PySem.W.Frag} {mg : Str -> Option Value} {base : Heap} {f : Addr} {fd : FuncData}
end
structure RC where
 o : Addr
 l : Addr
 t : Addr
 ps : List Pr
 q : Pr
def RcOk (H : Hp) (c : RC) : Prop := H c.o = some (.lst [.ref c.l, .ref c.t]) /\ (∃ us, H c.l = some (.lst us) /\ DAts H (c.ps.map dPr) us) /\ H c.t = some (.tup [.int c.q.1, .int c.q.2])
theorem rws_tups {H H' : Hp} (e : TupSame H H') : ∀ {rs : List Rw} {us : List V}, jI H rs us -> jI H' rs us
 | [], us, h => h
 | r :: rs, us, h => by
   obtain ⟨v, q, e1, e2, e3⟩ := h
   refine ⟨v, q, e1, ?_, rws_tups e e3⟩
   obtain ⟨a, x, vs, g1, g2, g3⟩ := RwAt.out e2
   cases r with
   | no => obtain ⟨rfl, rfl⟩ := g3; exact ⟨a, _, g1, e _ _ g2, _, _, rfl, rfl, rfl⟩
   | nm y => obtain ⟨rfl, rfl⟩ := g3; exact ⟨a, _, g1, e _ _ g2, _, _, rfl, rfl, _, _, rfl, rfl, rfl⟩
   | bo i j => obtain ⟨rfl, rfl⟩ := g3; exact ⟨a, _, g1, e _ _ g2, _, _, rfl, rfl, _, _, rfl, rfl, _, _, rfl, rfl, rfl⟩
def RowsIn (rows : List Rw) : Prop := ∀ (k : Nat) (i j : Int), rows[k]? = some (.bo i j) -> (0 <= i /\ i < 2 * (k : Int)) /\ 0 <= j /\ j < 2 * (k : Int)
def RowB (r : Rw) (n : Int) : Prop := ∀ i j, r = .bo i j -> (0 <= i /\ i < n) /\ 0 <= j /\ j < n
theorem RowsIn.put {rows : List Rw} {r : Rw} (h : RowsIn rows) (hr : RowB r (2 * (rows.length : Int))) : RowsIn (rows ++ [r]) := fun k i j hk => by
 by_cases hl : k < rows.length
 · rw [List.getElem?_append_left hl] at hk
   exact h k i j hk
 · have h2 := (List.getElem?_eq_some_iff.mp hk).1
   rw [List.length_append, List.length_singleton] at h2
   have e : k = rows.length := by omega
   subst e
   rw [List.getElem?_append_right (Nat.le_refl _), Nat.sub_self] at hk
   have e : r = .bo i j := by simpa using hk
   exact hr i j e
structure SRI (H : Hp) (pc : Addr) (zs : List V) (i : Nat) (H' : Hp) (ra rb : Addr) (us : List V) (rows : List Rw) (rs : List RC) : Prop where
 same : Same H H'
 na : H ra = none
 nb : H rb = none
 ne : ra ≠ rb
 pk : H' pc = some (.lst zs)
 pn : pc ≠ ra /\ pc ≠ rb /\ ∀ c ∈ rs, pc ≠ c.o /\ pc ≠ c.l
 rw : H' ra = some (.lst us)
 rws : jI H' rows us
 r1 : 1 <= rows.length
 r2 : rows.length <= i + 1
 rbd : RowsIn rows
 ru : H' rb = some (.lst (rs.map fun c => V.ref c.o))
 ok : ∀ c ∈ rs, RcOk H' c
 fr : ∀ c ∈ rs, H c.o = none /\ H c.l = none /\ c.o ≠ ra /\ c.o ≠ rb /\ c.l ≠ ra /\ c.l ≠ rb
 nd : (rs.map RC.l).Nodup
 ol : ∀ c ∈ rs, ∀ c' ∈ rs, c.o ≠ c'.l
 s1 : rs.length <= i
 s2 : ∀ c ∈ rs, c.ps.length <= i
 qb : ∀ c ∈ rs, (0 <= c.q.1 /\ c.q.1 < 2 * (rows.length : Int)) /\ (0 <= c.q.2 /\ c.q.2 < 2 * (rows.length : Int))
theorem fit_rw (n : Nat) (r : Rw) : DFit (n + 1) (dRw r) := by
 cases r with
 | no => exact ⟨by simp, fun d hd => by simp at hd; subst hd; cases n <;> trivial⟩
 | nm x => exact ⟨by simp, fun d hd => by simp at hd; rcases hd with rfl | rfl <;> (cases n <;> trivial)⟩
 | bo i j => exact ⟨by simp, fun d hd => by simp at hd; rcases hd with rfl | rfl | rfl <;> (cases n <;> trivial)⟩
section
variable {P : Program} {w : World} {K : PySem.W.Frag} {mg : Str -> Option Value} {base : Heap} {f : Addr} {fd : FuncData}
end
abbrev s_l : Stmt := uN (top 11) 0
theorem sc_l : FnScope ["self", "many"] ["self", "many"] (zH s_l) := ⟨rfl, rfl, rfl, by decide +kernel, rfl, by decide +kernel, by decide +kernel⟩
abbrev s_a : Stmt := uN (top 11) 1
theorem sc_a : FnScope ["self", "i", "j"] ["self", "i", "j"] (zH s_a) := ⟨rfl, rfl, rfl, by decide +kernel, rfl, by decide +kernel, by decide +kernel⟩
abbrev s_o : Stmt := uN (top 11) 2
theorem sc_o : FnScope ["self", "i", "j"] ["self", "i", "j"] (zH s_o) := ⟨rfl, rfl, rfl, by decide +kernel, rfl, by decide +kernel, by decide +kernel⟩
abbrev s_e : Stmt := uN (top 11) 3
theorem sc_e : FnScope ["self", "i", "j", "why"] ["self", "i", "j", "why"] (zH s_e) := ⟨rfl, rfl, rfl, by decide +kernel, rfl, by decide +kernel, by decide +kernel⟩
abbrev s_C : Stmt := top 6
theorem sc_C : FnScope ["mask", "bits", "rest", "low"] ["mask"] (zH s_C) := ⟨rfl, rfl, rfl, by decide +kernel, rfl, by decide +kernel, by decide +kernel⟩
def spBits : Sp := fun vs H Q _ => ∃ (m : Nat) (xs : List Nat), vs = [.int m] /\ Bits m xs /\ (∀ x ∈ xs, x < 300) /\ ∀ p H', Same H H' -> H p = none -> H' p = some (.lst (xs.map nV)) -> Q (.ref p) H'
theorem bits_len {m : Nat} {xs : List Nat} (h : Bits m xs) (hx : ∀ x ∈ xs, x < 300) : xs.length <= 300 := by
 have : ∀ (xs : List Nat) (b : Nat), xs.Pairwise (· < ·) -> (∀ x ∈ xs, b <= x /\ x < 300) -> xs.length + b <= 300 \/ xs = [] := by
   intro xs
   induction xs with
   | nil => intro b _ _; exact .inr rfl
   | cons x xs ih =>
     intro b hp hb
     have hp' := List.pairwise_cons.mp hp
     have hx := hb x List.mem_cons_self
     rcases ih (x + 1) hp'.2 (fun y hy => ⟨hp'.1 y hy, (hb y (List.mem_cons_of_mem _ hy)).2⟩) with h | h
     · left; rw [List.length_cons]; omega
     · subst h; left; rw [List.length_cons, List.length_nil]; omega
 rcases this xs 0 h.1 (fun x hx' => ⟨Nat.zero_le _, hx x hx'⟩) with h | h
 · omega
 · subst h; simp
section
variable {P : Program} {w : World} {K : PySem.W.Frag} {mg : Str -> Option Value} {base : Heap} {f : Addr} {fd : FuncData}
theorem ok_bits_of (bi : Bi mg) (F : Fun K "bits_of" "bits_of" s_C f fd) : FnOk P w K mg base CX0 1 f fd ["mask"] spBits := by
 refine F.ok sc_C (fun vs H Q E h => ?_) (fun cdv A outer s H vs Q E hr h => ?_)
 · obtain ⟨m, xs, rfl, _⟩ := h
   rfl
 obtain ⟨m, xs, rfl, hb, hx, q⟩ := h
 have hxl := bits_len hb hx
 refine ⟨_, (zC (zO (i := 1) sc_C.nd rfl (Or.inl rfl) (yX pa_nil)) (zC (zO (i := 2) sc_C.nd rfl (Or.inl rfl) (pv 0)) (zC (ps_while PassesOwn.never (pt_truth (pv 2) (fun _ => rfl)) (zC (zO (i := 3) sc_C.nd rfl (Or.inl rfl) (zL op_and (pv 2) (pe_un un_neg (pv 2)))) (zC (zV (xQ PySem.F.plainAttrs_list PySem.F.slot_list_append PySem.F.type_list_append mt_append (pv 1) (zA (zL op_sub (pe_bm0 PySem.F.plainAttrs_int PySem.F.slot_int_bit_length PySem.F.type_int_bit_length mt_bit_length (pv 3)) zE) pa_nil))) (zF (ps_aug (i := 2) sc_C.nd rfl (Or.inl rfl) (pv 3) ip_xor))))) (zF (zZ (pv 1)))))), ?_⟩
 refine zI fun N hN => ?_
 simp! []
 refine ⟨zM (by simp), fun p hp => hN _ _ ?_⟩
 clear hN
 refine zI fun N hN => ?_
 simp! []
 refine hN _ _ ?_
 clear hN
 have s1 := zD hp (.lst [])
 have k1 : upd H p (.lst []) p = some (.lst ((xs.take 0).map nV)) := zB
 generalize upd H p (.lst []) = H1 at s1 k1 ⊢
 refine zW (fun σ H' => ∃ (o1 o2 : Option V), Same H H' /\ H' p = some (.lst (xs.map nV)) /\ σ = [some (V.int m), some (V.ref p), o1, o2]) (fun N hN => ?_) (fun σ H' h => ?_)
 · simp! [tWhile]
   refine ⟨fun k σ H' => ∃ (i r : Nat) (o : Option V), k = xs.length - i /\ i <= xs.length /\ Same H H' /\ H' p = some (.lst ((xs.take i).map nV)) /\ Bits r (xs.drop i) /\ σ = [some (V.int m), some (V.ref p), some (V.int r), o], ⟨_, 0, m, _, rfl, Nat.zero_le _, s1, k1, hb, rfl⟩, fun k σ H' h => ?_⟩
   obtain ⟨i, r, o, rfl, hi, s2, k2, hr', rfl⟩ := h
   simp! []
   refine ⟨_, rfl, ?_⟩
   cases hd : xs.drop i with
   | nil =>
     rw [hd] at hr'
     have e0 := hr'.nil
     subst e0
     rw [if_neg (by decide)]
     have hil : xs.length <= i := by
       have := congrArg List.length hd
       rw [List.length_drop, List.length_nil] at this
       omega
     rw [List.take_of_length_le hil] at k2
     exact hN _ _ ⟨_, _, s2, k2, rfl⟩
   | cons x rest =>
     rw [hd] at hr'
     have hxb : r.testBit x = true := by rw [hr'.2]; simp
     obtain ⟨hr0, hl, hb2⟩ := hr'.cons
     rw [if_pos (by simp; omega)]
     have hil : i < xs.length := by
       have := congrArg List.length hd
       rw [List.length_drop, List.length_cons] at this
       omega
     have hxi : xs[i]? = some x := by
       have := congrArg (·[0]?) hd
       simpa using this
     have hdr : xs.drop (i + 1) = rest := by
       have := congrArg (List.drop 1) hd
       rw [List.drop_drop] at this
       simpa using this
     refine ⟨fun σ' H'' => ∃ (o : Option V), Same H H'' /\ H'' p = some (.lst ((xs.take (i + 1)).map nV)) /\ σ' = [some (V.int m), some (V.ref p), some (V.int ((r &&& (r - 1) : Nat) : Int)), o], fun σ' H'' h => ?_, ?_⟩
     · obtain ⟨o', a1, a2, rfl⟩ := h
       exact ⟨xs.length - (i + 1), by omega, i + 1, rfl, by omega, a1, a2, _, by rw [hdr]; exact hb2, _, rfl⟩
     have elow : Builtin.bitAnd (r : Int) (-(r : Int)) = ((2 ^ x : Nat) : Int) := by rw [low_mask hr0, hl]
     simp! [tAug, ipI, rBitLen]
     rw [elow, bits_pow]
     refine ⟨.inl ⟨rfl, _, SqL.of k2⟩, rfl, _, k2, xO (by rw [List.length_map, List.length_take]; omega), s2.upd hp, ?_, xor_low hl hxb, _, rfl⟩
     have e : (((x + 1 : Nat) : Int) - 1) = (x : Int) := by omega
     obtain ⟨_, ei⟩ := List.getElem?_eq_some_iff.mp hxi
     rw [zB, e, List.take_succ_eq_append_getElem hil, ei, List.map_append]
     rfl
 obtain ⟨o1, o2, s2, k2, rfl⟩ := h
 simp! []
 exact q _ _ s2 hp k2
end
def OW (as : List Wt) : Prop := as.length <= 3 /\ ∀ ps, Wt.ps ps ∈ as -> ps.length <= 300
def zQ (ls : List Ln) (i j : Int) : Bool := ls.any fun l => l.i == i && l.j == j
theorem hasP_iff {ls : List Ln} {i j : Int} : zQ ls i j = true ↔ ∃ (p : Nat) (l : Ln), ls[p]? = some l /\ l.i = i /\ l.j = j := by
 unfold zQ
 rw [List.any_eq_true]
 constructor
 · rintro ⟨l, hl, h⟩
   rw [Bool.and_eq_true, beq_iff_eq, beq_iff_eq] at h
   obtain ⟨p, hp, e⟩ := List.getElem_of_mem hl
   exact ⟨p, l, by rw [List.getElem?_eq_getElem hp, e], h.1, h.2⟩
 · rintro ⟨p, l, hl, h1, h2⟩
   exact ⟨l, List.mem_of_getElem? hl, by rw [h1, h2]; simp⟩
theorem jV (ls t : List Ln) (i j : Int) : zQ (ls ++ t) i j = (zQ ls i j || zQ t i j) := by
 unfold zQ
 rw [List.any_append]
theorem vG (l : Ln) (i j : Int) : zQ [l] i j = (l.i == i && l.j == j) := by
 unfold zQ
 simp
def yQ (i j : Int) : List Key := [.inl i, .inl j]
def plT : List Ln -> Nat -> List (List Key × V)
 | [], _ => []
 | l :: ls, k => (yQ l.i l.j, .int k) :: plT ls (k + 1)
theorem plT_len : ∀ (ls : List Ln) (k : Nat), (plT ls k).length = ls.length
 | [], _ => rfl
 | l :: ls, k => by show (plT ls (k + 1)).length + 1 = _; rw [plT_len ls (k + 1)]; rfl
theorem plT_snoc (l : Ln) : ∀ (ls : List Ln) (k : Nat), plT (ls ++ [l]) k = plT ls k ++ [(yQ l.i l.j, .int ((k + ls.length : Nat) : Int))]
 | [], k => rfl
 | l' :: ls, k => by
   show _ :: plT (ls ++ [l]) (k + 1) = _
   rw [plT_snoc l ls (k + 1), List.length_cons]
   show _ = _ :: _ ++ _
   rw [show k + 1 + ls.length = k + (ls.length + 1) by omega]
   rfl
theorem key2_inj {i j i' j' : Int} (h : yQ i j = yQ i' j') : i = i' /\ j = j' := by
 unfold yQ at h
 injection h with h1 h2
 injection h2 with h2 h3
 exact ⟨Sum.inl.inj h1, Sum.inl.inj h2⟩
theorem uJ {i j : Int} : ∀ (ls : List Ln) (k : Nat), (zQ ls i j = false /\ yG (plT ls k) (yQ i j) = none) \/ ∃ (p : Nat) (l : Ln), ls[p]? = some l /\ l.i = i /\ l.j = j /\ yG (plT ls k) (yQ i j) = some (.int ((k + p : Nat) : Int))
 | [], k => .inl ⟨rfl, rfl⟩
 | l :: ls, k => by
   by_cases h : l.i = i /\ l.j = j
   · refine .inr ⟨0, l, rfl, h.1, h.2, ?_⟩
     show yG ((yQ l.i l.j, V.int k) :: plT ls (k + 1)) (yQ i j) = _
     rw [h.1, h.2, yR rfl]
     rfl
   · have e : yG (plT (l :: ls) k) (yQ i j) = yG (plT ls (k + 1)) (yQ i j) := yS (fun z => h (key2_inj z))
     rcases uJ ls (k + 1) with ⟨h1, h2⟩ | ⟨p, l', h1, h2, h3, h4⟩
     · left
       refine ⟨?_, by rw [e]; exact h2⟩
       show ((l.i == i && l.j == j) || zQ ls i j) = false
       rw [h1, Bool.or_false]
       rw [Bool.eq_false_iff]
       intro z
       rw [Bool.and_eq_true, beq_iff_eq, beq_iff_eq] at z
       exact h z
     · right
       refine ⟨p + 1, l', h1, h2, h3, ?_⟩
       rw [e, h4]
       congr 2
       omega
theorem qN {κ : Type} [DecidableEq κ] {kvs : List (κ × V)} {k : κ} {v : V} (h : yG kvs k = none) : xT kvs k v = kvs ++ [(k, v)] := by
 unfold xT
 rw [if_neg]
 intro z
 obtain ⟨x, hx, hk⟩ := List.any_eq_true.mp z
 unfold yG at h
 rw [Option.map_eq_none_iff, List.find?_eq_none] at h
 exact h x hx hk
theorem said_ext {ls t : List Ln} {k : Nat} (h : k <= ls.length) (x : Wt) : xX (ls ++ t) k x = xX ls k x := by
 cases x with
 | ps l => rfl
 | n i =>
   show (if 0 <= i /\ i < (k : Int) then ((ls ++ t)[i.toNat]?).map fun l => (l.i, l.j) else none) = (if 0 <= i /\ i < (k : Int) then (ls[i.toNat]?).map fun l => (l.i, l.j) else none)
   by_cases hi : 0 <= i /\ i < (k : Int)
   · rw [if_pos hi, if_pos hi, List.getElem?_append_left (by omega)]
   · rw [if_neg hi, if_neg hi]
theorem step_ext {rows : List Rw} {rules : List yE} {ls t : List Ln} {k : Nat} {l : Ln} (h : k <= ls.length) : xJ rows rules (ls ++ t) k l = xJ rows rules ls k l := by
 have e : xX (ls ++ t) k = xX ls k := funext fun x => said_ext h x
 unfold xJ qK
 rw [e]
theorem qJ {rows : List Rw} {rules : List yE} {ls : List Ln} {k : Nat} {l : Ln} (h : xJ rows rules ls k l = true) : (0 <= l.i /\ l.i < 2 * (rows.length : Int)) /\ 0 <= l.j /\ l.j < 2 * (rows.length : Int) := by
 unfold xJ at h
 split at h
 · cases h
 · rename_i hn
   simp only [not_or, Classical.not_not] at hn
   exact hn
structure GOk (rows : List Rw) (rules : List yE) (ls : List Ln) : Prop where
 snd : ∀ (k : Nat) (l : Ln), ls[k]? = some l -> xJ rows rules ls k l = true
 dis : ∀ (a b : Nat) (x y : Ln), ls[a]? = some x -> ls[b]? = some y -> x.i = y.i -> x.j = y.j -> a = b
 siz : ∀ l ∈ ls, OW l.as
theorem GOk.put {rows : List Rw} {rules : List yE} {ls : List Ln} {l : Ln} (h : GOk rows rules ls) (hn : zQ ls l.i l.j = false) (hs : xJ rows rules ls ls.length l = true) (ho : OW l.as) : GOk rows rules (ls ++ [l]) := by
 have no : ∀ (a : Nat) (x : Ln), ls[a]? = some x -> x.i = l.i -> x.j = l.j -> False := fun a x hx h1 h2 => by
   have := hasP_iff.mpr ⟨a, x, hx, h1, h2⟩
   rw [hn] at this
   cases this
 have sp : ∀ (a : Nat) (x : Ln), (ls ++ [l])[a]? = some x -> ls[a]? = some x \/ a = ls.length /\ x = l := fun a x hx => by
   by_cases ha : a < ls.length
   · rw [List.getElem?_append_left ha] at hx
     exact .inl hx
   · have ha2 := (List.getElem?_eq_some_iff.mp hx).1
     rw [List.length_append, List.length_singleton] at ha2
     have e : a = ls.length := by omega
     subst e
     rw [List.getElem?_append_right (Nat.le_refl _), Nat.sub_self] at hx
     cases hx
     exact .inr ⟨rfl, rfl⟩
 refine ⟨fun k x hx => ?_, fun a b x y hx hy h1 h2 => ?_, fun x hx => ?_⟩
 · rcases sp k x hx with hx | ⟨rfl, rfl⟩
   · have hk := (List.getElem?_eq_some_iff.mp hx).1
     rw [step_ext (by omega)]
     exact h.snd k x hx
   · rw [step_ext (Nat.le_refl _)]
     exact hs
 · rcases sp a x hx with hx' | ⟨ea, ex⟩
   · rcases sp b y hy with hy' | ⟨eb, ey⟩
     · exact h.dis a b x y hx' hy' h1 h2
     · rw [ey] at h1 h2
       exact (no a x hx' h1 h2).elim
   · rcases sp b y hy with hy' | ⟨eb, ey⟩
     · rw [ex] at h1 h2
       exact (no b y hy' h1.symm h2.symm).elim
     · rw [ea, eb]
 · rcases List.mem_append.mp hx with hx | hx
   · exact h.siz x hx
   · rw [List.mem_singleton.mp hx]; exact ho
theorem nodup_subI : ∀ {l m : List Int}, l.Nodup -> (∀ x ∈ l, x ∈ m) -> l.length <= m.length
 | [], m, _, _ => Nat.zero_le _
 | x :: l, m, hn, hs => by
   have hx : x ∈ m := hs x List.mem_cons_self
   have hn' := List.nodup_cons.mp hn
   have := nodup_subI (l := l) (m := m.erase x) hn'.2 fun y hy => by
     have hy' := hs y (List.mem_cons_of_mem _ hy)
     have hne : y ≠ x := fun e => hn'.1 (by rw [← e]; exact hy)
     exact (List.mem_erase_of_ne hne).mpr hy'
   rw [List.length_erase_of_mem hx] at this
   have := List.length_pos_of_mem hx
   rw [List.length_cons]
   omega
theorem GOk.len {rows : List Rw} {rules : List yE} {ls : List Ln} (h : GOk rows rules ls) : ls.length <= (2 * rows.length) * (2 * rows.length) := by
 have hr : ∀ l ∈ ls, (0 <= l.i /\ l.i < 2 * (rows.length : Int)) /\ 0 <= l.j /\ l.j < 2 * (rows.length : Int) := fun l hl => by
   obtain ⟨p, hp, e⟩ := List.getElem_of_mem hl
   exact qJ (h.snd p l (by rw [List.getElem?_eq_getElem hp, e]))
 generalize hn : 2 * rows.length = n
 have hn' : 2 * (rows.length : Int) = (n : Int) := by omega
 rw [hn'] at hr
 have := nodup_subI (l := ls.map fun l => l.i * n + l.j) (m := (List.range (n * n)).map fun i : Nat => (i : Int)) ?_ fun x hx => ?_
 · rwa [List.length_map, List.length_map, List.length_range] at this
 · refine List.pairwise_iff_getElem.mpr fun a b ha hb hab e => ?_
   rw [List.length_map] at ha hb
   rw [List.getElem_map, List.getElem_map] at e
   have r1 := hr _ (List.getElem_mem ha)
   have r2 := hr _ (List.getElem_mem hb)
   have hi : ls[a].i = ls[b].i := by
     have e1 : (ls[a].i * n + ls[a].j) / n = ls[a].i := by
       rw [Int.add_comm, Int.add_mul_ediv_right _ _ (by omega), Int.ediv_eq_zero_of_lt r1.2.1 r1.2.2, Int.zero_add]
     have e2 : (ls[b].i * n + ls[b].j) / n = ls[b].i := by
       rw [Int.add_comm, Int.add_mul_ediv_right _ _ (by omega), Int.ediv_eq_zero_of_lt r2.2.1 r2.2.2, Int.zero_add]
     rw [← e1, e, e2]
   have hj : ls[a].j = ls[b].j := by rw [hi] at e; omega
   have := h.dis a b _ _ (List.getElem?_eq_getElem ha) (List.getElem?_eq_getElem hb) hi hj
   omega
 · obtain ⟨l, hl, rfl⟩ := List.mem_map.mp hx
   have r1 := hr l hl
   have b1 : l.i * n + l.j < n * n := by
     have : l.i * n <= (n - 1) * n := Int.mul_le_mul_of_nonneg_right (by omega) (by omega)
     rw [Int.sub_mul, Int.one_mul] at this
     omega
   have b0 : 0 <= l.i * n := Int.mul_nonneg r1.1.1 (by omega)
   rw [List.mem_map]
   exact ⟨(l.i * n + l.j).toNat, by rw [List.mem_range]; omega, by omega⟩
structure MkA (n : Nat) (hp : Nat -> Nat -> Bool) (as : List Nat) : Prop where
 len : as.length = n
 bit : ∀ (a c : Nat), as[a]? = some c -> ∀ b, c.testBit b = hp a b
theorem MkA.put {n a b c : Nat} {hp hp' : Nat -> Nat -> Bool} {as : List Nat} (h : MkA n hp as) (hc : as[a]? = some c) (e : ∀ x y, hp' x y = (hp x y || (x == a && y == b))) : MkA n hp' (as.set a (c ||| 2 ^ b)) := by
 have la := (List.getElem?_eq_some_iff.mp hc).1
 refine ⟨by rw [List.length_set]; exact h.len, fun x d hx y => ?_⟩
 rw [e]
 by_cases ex : a = x
 · subst ex
   rw [List.getElem?_set_self la] at hx
   cases hx
   rw [Nat.testBit_or, h.bit a c hc, Nat.testBit_two_pow]
   simp only [beq_self_eq_true, Bool.true_and]
   congr 1
   rw [Bool.eq_iff_iff, decide_eq_true_eq, beq_iff_eq]
   exact eq_comm
 · rw [List.getElem?_set_ne ex] at hx
   have : (x == a) = false := beq_eq_false_iff_ne.mpr (Ne.symm ex)
   rw [h.bit x d hx, this, Bool.false_and, Bool.or_false]
structure GAd where
 r : Addr
 la : Addr
 pa : Addr
 aa : Addr
 ba : Addr
def grF (g : GAd) : List (Str × V) := [("lines", .ref g.la), ("places", .ref g.pa), ("above", .ref g.aa), ("below", .ref g.ba)]
structure GrC (K : PySem.W.Frag) (C : Addr) : Prop where
 cl : Cls K C
 nL : NoAttr K C "lines"
 nP : NoAttr K C "places"
 nA : NoAttr K C "above"
 nB : NoAttr K C "below"
theorem gr_l (g : GAd) : (grF g).lookup ("lines" : Str) = some (.ref g.la) := by
 unfold grF
 rw [List.lookup_cons, show (("lines" : Str) == "lines") = true by decide +kernel]
theorem gr_p (g : GAd) : (grF g).lookup ("places" : Str) = some (.ref g.pa) := by
 unfold grF
 rw [List.lookup_cons, show (("places" : Str) == "lines") = false by decide +kernel, List.lookup_cons, show (("places" : Str) == "places") = true by decide +kernel]
theorem gr_a (g : GAd) : (grF g).lookup ("above" : Str) = some (.ref g.aa) := by
 unfold grF
 rw [List.lookup_cons, show (("above" : Str) == "lines") = false by decide +kernel, List.lookup_cons, show (("above" : Str) == "places") = false by decide +kernel, List.lookup_cons, show (("above" : Str) == "above") = true by decide +kernel]
theorem gr_b (g : GAd) : (grF g).lookup ("below" : Str) = some (.ref g.ba) := by
 unfold grF
 rw [List.lookup_cons, show (("below" : Str) == "lines") = false by decide +kernel, List.lookup_cons, show (("below" : Str) == "places") = false by decide +kernel, List.lookup_cons, show (("below" : Str) == "above") = false by decide +kernel, List.lookup_cons, show (("below" : Str) == "below") = true by decide +kernel]
theorem jD (g : GAd) {x : Str} (h1 : (x == ("lines" : Str)) = false) (h2 : (x == ("places" : Str)) = false) (h3 : (x == ("above" : Str)) = false) (h4 : (x == ("below" : Str)) = false) : (grF g).lookup x = none := by
 unfold grF
 rw [List.lookup_cons, h1, List.lookup_cons, h2, List.lookup_cons, h3, List.lookup_cons, h4]
 rfl
structure GrAt (C : Addr) (H : Hp) (g : GAd) (rows : List Rw) (rules : List yE) (ls : List Ln) : Prop where
 ins : ∃ dx, H g.r = some (.ins C dx (grF g))
 lin : ∃ ws, H g.la = some (.lst ws) /\ vL H ls ws
 plc : H g.pa = some (.dT (plT ls 0))
 abv : ∃ as, H g.aa = some (.lst (as.map nV)) /\ MkA (2 * rows.length) (fun a b => zQ ls a b) as
 blw : ∃ as, H g.ba = some (.lst (as.map nV)) /\ MkA (2 * rows.length) (fun a b => zQ ls b a) as
 ne : g.la ≠ g.aa /\ g.la ≠ g.ba /\ g.aa ≠ g.ba
 ok : GOk rows rules ls
def SameG (g : GAd) (H H' : Hp) : Prop := ∀ b o, H b = some o -> b ≠ g.la -> b ≠ g.pa -> b ≠ g.aa -> b ≠ g.ba -> H' b = some o
theorem SameG.trans {g : GAd} {H H1 H2 : Hp} (a : SameG g H H1) (b : SameG g H1 H2) : SameG g H H2 := fun c o h n1 n2 n3 n4 => b c o (a c o h n1 n2 n3 n4) n1 n2 n3 n4
theorem Same.g {g : GAd} {H H' : Hp} (a : Same H H') : SameG g H H' := fun c o h _ _ _ _ => a c o h
theorem GrAt.same {C : Addr} {H H' : Hp} {g : GAd} {rows : List Rw} {rules : List yE} {ls : List Ln} (e : Same H H') (h : GrAt C H g rows rules ls) : GrAt C H' g rows rules ls := by
 obtain ⟨⟨dx, h1⟩, ⟨ws, h2, h3⟩, h4, ⟨as, h5, h6⟩, ⟨bs, h7, h8⟩, h9, h10⟩ := h
 exact ⟨⟨dx, e _ _ h1⟩, ⟨ws, e _ _ h2, DAts.same e h3⟩, e _ _ h4, ⟨as, e _ _ h5, h6⟩, ⟨bs, e _ _ h7, h8⟩, h9, h10⟩
theorem GrAt.tups {C : Addr} {H H' : Hp} {g : GAd} {rows : List Rw} {rules : List yE} {ls : List Ln} (h : GrAt C H g rows rules ls) (e : SameG g H H') : TupSame H H' := fun b xs hb => by
 obtain ⟨ws, h2, _⟩ := h.lin
 obtain ⟨as, h5, _⟩ := h.abv
 obtain ⟨bs, h7, _⟩ := h.blw
 exact e b _ hb (xS hb h2 (by intro z; cases z)) (xS hb h.plc (by intro z; cases z)) (xS hb h5 (by intro z; cases z)) (xS hb h7 (by intro z; cases z))
theorem psAt {H : Hp} {ps : List Int} {v : V} (h : DAt H (dWt (.ps ps)) v) : ∃ a, v = .ref a /\ H a = some (.tup (ps.map V.int)) := by
 obtain ⟨a, us, e1, e2, e3⟩ := h
 have go : ∀ {ps : List Int} {us : List V}, DAts H (ps.map Dt.int) us -> us = ps.map V.int := fun {ps} => by
   induction ps with
   | nil => exact fun h => h
   | cons n ns ih =>
     intro us h
     obtain ⟨v, r, e1, e2, e3⟩ := h
     have e2 : v = .int n := e2
     rw [e1, e2, ih e3]
     rfl
 rw [go e3] at e2
 exact ⟨a, e1, e2⟩
theorem atPs {H : Hp} {a : Addr} {ps : List Int} (h : H a = some (.tup (ps.map V.int))) : DAt H (dWt (.ps ps)) (.ref a) := by
 refine ⟨a, _, rfl, h, ?_⟩
 clear h
 induction ps with
 | nil => rfl
 | cons n ns ih => exact ⟨_, _, rfl, rfl, ih⟩
theorem whyAt {H : Hp} {x : Str} {as : List Wt} {v : V} (h : DAt H (vR x as) v) : ∃ a us, v = .ref a /\ H a = some (.tup (.str x :: us)) /\ WtAts H as us := by
 obtain ⟨a, vs, e1, e2, u, r, e3, h1, h2⟩ := h
 have h1 : u = .str x := h1
 subst h1 e3
 exact ⟨a, r, e1, e2, h2⟩
theorem lnAt {H : Hp} {l : Ln} {v : V} (h : DAt H (dLn l) v) : ∃ a u, v = .ref a /\ H a = some (.tup [.int l.i, .int l.j, u]) /\ DAt H (vR l.w l.as) u := by
 obtain ⟨a, vs, e1, e2, u1, r1, rfl, d1, u2, r2, rfl, d2, u3, r3, rfl, d3, d4⟩ := h
 have d1 : u1 = .int l.i := d1
 have d2 : u2 = .int l.j := d2
 have d4 : r3 = [] := d4
 subst d1 d2 d4
 exact ⟨a, u3, e1, e2, d3⟩
theorem atLn {H : Hp} {i j : Int} {x : Str} {as : List Wt} {a : Addr} {u : V} (h : H a = some (.tup [.int i, .int j, u])) (hu : DAt H (vR x as) u) : DAt H (dLn ⟨i, j, x, as⟩) (.ref a) :=
 ⟨a, _, rfl, h, _, _, rfl, rfl, _, _, rfl, rfl, _, _, rfl, hu, rfl⟩
theorem uP {H H' : Hp} (e : TupSame H H') : ∀ {as : List Wt} {us : List V}, WtAts H as us -> WtAts H' as us
 | [], us, h => h
 | .n i :: as, us, h => by
   obtain ⟨v, r, e1, e2, e3⟩ := h
   exact ⟨v, r, e1, e2, uP e e3⟩
 | .ps l :: as, us, h => by
   obtain ⟨v, r, e1, e2, e3⟩ := h
   obtain ⟨a, rfl, g2⟩ := psAt e2
   exact ⟨_, r, e1, atPs (e _ _ g2), uP e e3⟩
theorem why_tups {H H' : Hp} (e : TupSame H H') {x : Str} {as : List Wt} {v : V} (h : DAt H (vR x as) v) : DAt H' (vR x as) v := by
 obtain ⟨b, us, rfl, h3, h4⟩ := whyAt h
 exact ⟨b, _, rfl, e _ _ h3, _, _, rfl, rfl, uP e h4⟩
theorem ln_tups {H H' : Hp} (e : TupSame H H') {l : Ln} {v : V} (h : DAt H (dLn l) v) : DAt H' (dLn l) v := by
 obtain ⟨a, u, rfl, h1, h2⟩ := lnAt h
 exact atLn (e _ _ h1) (why_tups e h2)
theorem jR {H H' : Hp} (e : TupSame H H') : ∀ {ls : List Ln} {us : List V}, vL H ls us -> vL H' ls us
 | [], us, h => h
 | l :: ls, us, h => by
   obtain ⟨v, r, e1, e2, e3⟩ := h
   exact ⟨v, r, e1, ln_tups e e2, jR e e3⟩
theorem uL {n p : Nat} (h : p < n) : ixN n (p : Int) = some p := by
 unfold ixN
 rw [if_pos (by omega), if_pos (by omega), Int.toNat_natCast]
def spLo (C : Addr) : Sp := fun vs H Q _ => ∃ (g : GAd) (rows : List Rw) (rules : List yE) (ls : List Ln) (i j : Int), vs = [.ref g.r, .int i, .int j] /\ GrAt C H g rows rules ls /\ zQ ls i j = true /\ ∀ (p : Nat) (l : Ln) H', Same H H' -> ls[p]? = some l -> l.i = i -> l.j = j -> Q (.int p) H'
def spHs (C : Addr) : Sp := fun vs H Q _ => ∃ (g : GAd) (rows : List Rw) (rules : List yE) (ls : List Ln) (i j : Int), vs = [.ref g.r, .int i, .int j] /\ GrAt C H g rows rules ls /\ ∀ H', Same H H' -> Q (.bl (zQ ls i j)) H'
def GrTo (C : Addr) (H : Hp) (g : GAd) (rows : List Rw) (rules : List yE) (ls : List Ln) (H' : Hp) : Prop := SameG g H H' /\ ∃ t, GrAt C H' g rows rules (ls ++ t)
def GrH (C : Addr) (H : Hp) (g : GAd) (rows : List Rw) (rules : List yE) (ls : List Ln) (R : List Ln -> Prop) (H' : Hp) : Prop := SameG g H H' /\ ∃ t, GrAt C H' g rows rules (ls ++ t) /\ R (ls ++ t)
def vO (C : Addr) : Sp := fun vs H Q _ => ∃ (g : GAd) (rows : List Rw) (rules : List yE) (ls : List Ln) (i j : Nat) (wv : V) (x : Str) (as : List Wt), vs = [.ref g.r, .int i, .int j, wv] /\ GrAt C H g rows rules ls /\ rows.length <= 100 /\ DAt H (vR x as) wv /\ xJ rows rules ls ls.length ⟨i, j, x, as⟩ = true /\ OW as /\ ∀ H', GrH C H g rows rules ls (fun L => zQ L i j = true) H' -> Q .non H'
section
variable {P : Program} {w : World} {K : PySem.W.Frag} {mg : Str -> Option Value} {base : Heap} {f : Addr} {fd : FuncData}
theorem ok_line_of {C : Addr} (T : GrC K C) (F : Fun K "line_of" "Growth.line_of" s_a f fd) : FnOk P w K mg base CX0 1 f fd ["self", "i", "j"] (spLo C) := by
 refine F.ok sc_a (fun vs H Q E h => ?_) (fun cdv A outer s H vs Q E hr h => ?_)
 · obtain ⟨g, rows, rules, ls, i, j, rfl, _⟩ := h
   rfl
 obtain ⟨g, rows, rules, ls, i, j, rfl, hg, hh, q⟩ := h
 obtain ⟨dx, hi⟩ := hg.ins
 refine ⟨_, (zF (zZ (pe_dget (jC hr) (xC (pv 0) rfl) (yA (zA (pv 1) (zA (pv 2) pa_nil))) (fun _ _ => rfl)))), ?_⟩
 simp! [qI]
 refine ⟨C, dx, _, hi, T.cl, T.nP, _, gr_p g, zM (by simp), fun p hp => ?_⟩
 have s1 := zD hp (.tup [.int i, .int j])
 rcases uJ (i := i) (j := j) ls 0 with ⟨h1, _⟩ | ⟨p', l, h1, h2, h3, h4⟩
 · rw [hh] at h1; cases h1
 rw [Nat.zero_add] at h4
 exact ⟨g.pa, rfl, _, .inr ⟨_, yQ i j, p, .inl (s1 _ _ hg.plc), rfl, zB, h4.symm⟩, q p' l _ s1 h1 h2 h3⟩
theorem ok_has {C : Addr} (T : GrC K C) (F : Fun K "has" "Growth.has" s_o f fd) : FnOk P w K mg base CX0 1 f fd ["self", "i", "j"] (spHs C) := by
 refine F.ok sc_o (fun vs H Q E h => ?_) (fun cdv A outer s H vs Q E hr h => ?_)
 · obtain ⟨g, rows, rules, ls, i, j, rfl, _⟩ := h
   rfl
 obtain ⟨g, rows, rules, ls, i, j, rfl, hg, q⟩ := h
 obtain ⟨dx, hi⟩ := hg.ins
 refine ⟨_, (zF (zZ (pe_cmp (qV (jC hr) (yA (zA (pv 1) (zA (pv 2) pa_nil))) (xC (pv 0) rfl)) (by with_unfolding_all rfl)))), ?_⟩
 simp! [qI, tDIn]
 refine ⟨zM (by simp), fun p hp => ?_⟩
 have s1 := zD hp (.tup [.int i, .int j])
 refine ⟨C, dx, _, s1 _ _ hi, T.cl, T.nP, _, gr_p g, g.pa, rfl, _, .inr ⟨_, yQ i j, p, .inl (s1 _ _ hg.plc), rfl, zB, rfl⟩, ?_⟩
 have e : (yG (plT ls 0) (yQ i j)).isSome = zQ ls i j := by
   rcases uJ (i := i) (j := j) ls 0 with ⟨h1, h2⟩ | ⟨p', l, h1, h2, h3, h4⟩
   · rw [h1, h2]; rfl
   · rw [h4, hasP_iff.mpr ⟨p', l, h1, h2, h3⟩]; rfl
 rw [e]
 exact q _ s1
end
section
variable {P : Program} {w : World} {K : PySem.W.Frag} {mg : Str -> Option Value} {base : Heap} {f : Addr} {fd : FuncData}
theorem ok_grow {C : Addr} (T : GrC K C) (bi : Bi mg) (h_o : HasM P w K mg base 1 C "has" ["self", "i", "j"] (spHs C)) (F : Fun K "grow" "Growth.grow" s_e f fd) : FnOk P w K mg base CX0 2 f fd ["self", "i", "j", "why"] (vO C) := by
 refine F.ok sc_e (fun vs H Q E h => ?_) (fun cdv A outer s H vs Q E hr h => ?_)
 · obtain ⟨g, rows, rules, ls, i, j, wv, x, as, rfl, _⟩ := h
   rfl
 obtain ⟨g, rows, rules, ls, i, j, wv, x, as, rfl, hg, h30, hw, hst, how, q⟩ := h
 have cl_Growth := T.cl
 obtain ⟨dx, hi⟩ := hg.ins
 have hlen := hg.ok.len
 have hlen2 : ls.length <= 40000 := by
   have : 2 * rows.length * (2 * rows.length) <= 200 * 200 := Nat.mul_le_mul (by omega) (by omega)
   omega
 obtain ⟨⟨i0, i1⟩, j0, j1⟩ := qJ hst
 have i1 : (i : Int) < 2 * (rows.length : Int) := i1
 have j1 : (j : Int) < 2 * (rows.length : Int) := j1
 refine ⟨_, (zC (yP (yU (yC h_o cl_Growth (hr.mono (by omega)) (pv 0) (zA (pv 1) (zA (pv 2) pa_nil)))) (zF ps_retN) pss_nil) (zC (wX (jC hr) (xC (pv 0) rfl) (yA (zA (pv 1) (zA (pv 2) pa_nil))) (zK call_len rfl bi.len bt_len (zA (xC (pv 0) rfl) pa_nil)) rfl) (zC (zV (xQ PySem.F.plainAttrs_list PySem.F.slot_list_append PySem.F.type_list_append mt_append (xC (pv 0) rfl) (zA (yA (zA (pv 1) (zA (pv 2) (zA (pv 3) pa_nil)))) pa_nil))) (zC (ps_augS (xC (pv 0) rfl) (pv 1) get_list (zL op_shl zE (pv 2)) ip_or set_list) (zF (ps_augS (xC (pv 0) rfl) (pv 2) get_list (zL op_shl zE (pv 1)) ip_or set_list)))))), ?_⟩
 refine zI fun N hN => ?_
 simp! [xI]
 refine ⟨_, _, hi, jD g (by decide +kernel) (by decide +kernel) (by decide +kernel) (by decide +kernel), ?_⟩
 refine ⟨g, rows, rules, ls, i, j, rfl, hg, fun H1 s1 => ⟨_, rfl, ?_⟩⟩
 cases hb : zQ ls i j with
 | true =>
   rw [if_pos rfl]
   exact q _ ⟨Same.g s1, [], by rw [List.append_nil]; exact ⟨hg.same s1, hb⟩⟩
 | false =>
   rw [if_neg Bool.false_ne_true]
   refine hN _ _ ?_
   clear hN
   replace hg := hg.same s1
   replace hi := s1 _ _ hi
   replace hw := DAt.same s1 hw
   have h4' := hg.plc
   obtain ⟨⟨_, _⟩, ⟨ws, h2, h3⟩, h4, ⟨bs, h5, h6⟩, ⟨cs, h7, h8⟩, ⟨n1, n2, n3⟩, h10⟩ := hg
   have hwl := jH h3
   have hpar : g.pa ≠ g.r := xS h4 hi (by intro z; cases z)
   have hlar : g.la ≠ g.r := xS h2 hi (by intro z; cases z)
   have haar : g.aa ≠ g.r := xS h5 hi (by intro z; cases z)
   have hbar : g.ba ≠ g.r := xS h7 hi (by intro z; cases z)
   have hpla : g.pa ≠ g.la := xS h4 h2 (by intro z; cases z)
   have hpaa : g.pa ≠ g.aa := xS h4 h5 (by intro z; cases z)
   have hpba : g.pa ≠ g.ba := xS h4 h7 (by intro z; cases z)
   refine zI fun N hN => ?_
   simp! [qI, sDPut]
   have sz : ∀ {n : Nat}, n <= 40000 -> n < sizeLine := fun h => Nat.lt_of_le_of_lt (m := 100000) (by omega) (by decide)
   refine ⟨C, dx, _, hi, T.cl, T.nL, _, gr_l g, ws.length, .inl ⟨_, SqL.of h2, rfl⟩, C, dx, _, hi, T.cl, T.nP, _, gr_p g, zM (by simp), fun p hp => ?_⟩
   have s2 := zD hp (.tup [.int (i : Int), .int (j : Int)])
   have kp : upd H1 p (.tup [.int (i : Int), .int (j : Int)]) p = some (.tup [.int (i : Int), .int (j : Int)]) := zB
   generalize upd H1 p (.tup [.int (i : Int), .int (j : Int)]) = H2 at s2 kp ⊢
   refine ⟨g.pa, rfl, _, .inr ⟨_, yQ i j, p, s2 _ _ h4, rfl, kp, by rw [plT_len]; exact sz hlen2, rfl⟩, hN _ _ ?_⟩
   clear hN
   have vn : yG (plT ls 0) (yQ i j) = none := by
     rcases uJ (i := i) (j := j) ls 0 with ⟨_, h⟩ | ⟨p', l, g1, g2, g3, _⟩
     · exact h
     · have := hasP_iff.mpr ⟨p', l, g1, g2, g3⟩
       rw [hb] at this
       cases this
   rw [qN vn]
   have ep : plT ls 0 ++ [(yQ i j, V.int (ws.length : Int))] = plT (ls ++ [⟨i, j, x, as⟩]) 0 := by rw [plT_snoc, Nat.zero_add, hwl]
   rw [ep]
   have g3 : SameG g H1 (upd H2 g.pa (.dT (plT (ls ++ [⟨i, j, x, as⟩]) 0))) := fun b o hb _ n _ _ => by rw [zG n]; exact s2 _ _ hb
   have e1 : ∀ {b : Addr} {o : HO}, H1 b = some o -> b ≠ g.pa -> upd H2 g.pa (.dT (plT (ls ++ [⟨i, j, x, as⟩]) 0)) b = some o := fun hb n => by rw [zG n]; exact s2 _ _ hb
   replace hi := e1 hi (Ne.symm hpar)
   replace h2 := e1 h2 (Ne.symm hpla)
   replace h5 := e1 h5 (Ne.symm hpaa)
   replace h7 := e1 h7 (Ne.symm hpba)
   clear e1
   replace h4 : upd H2 g.pa (.dT (plT (ls ++ [⟨i, j, x, as⟩]) 0)) g.pa = some (.dT (plT (ls ++ [⟨i, j, x, as⟩]) 0)) := zB
   have tu : TupSame H1 (upd H2 g.pa (.dT (plT (ls ++ [⟨i, j, x, as⟩]) 0))) := fun b xs hb => by
     have hb2 := s2 _ _ hb
     rw [zG (xS hb h4' (by intro z; cases z))]
     exact hb2
   generalize upd H2 g.pa (.dT (plT (ls ++ [⟨i, j, x, as⟩]) 0)) = H3 at g3 hi h2 h5 h7 h4 tu ⊢
   replace h3 := jR tu h3
   replace hw := why_tups tu hw
   clear kp s2 hp vn ep tu
   refine zI fun N hN => ?_
   simp! [qI]
   refine ⟨C, dx, _, hi, T.cl, T.nL, _, gr_l g, .inl ⟨rfl, _, SqL.of h2⟩, zM (by simp), fun pt hpt => ?_⟩
   have s2 := zD hpt (.tup [.int (i : Int), .int (j : Int), wv])
   have kt : upd H3 pt (.tup [.int (i : Int), .int (j : Int), wv]) pt = some (.tup [.int (i : Int), .int (j : Int), wv]) := zB
   generalize upd H3 pt (.tup [.int (i : Int), .int (j : Int), wv]) = H4 at s2 kt ⊢
   refine ⟨g.la, rfl, _, s2 _ _ h2, sz (by omega), hN _ _ ?_⟩
   clear hN
   have e1 : ∀ {b : Addr} {o : HO}, H3 b = some o -> b ≠ g.la -> upd H4 g.la (.lst (ws ++ [.ref pt])) b = some o := fun hb n => by rw [zG n]; exact s2 _ _ hb
   have g4 : SameG g H3 (upd H4 g.la (.lst (ws ++ [.ref pt]))) := fun b o hb n _ _ _ => e1 hb n
   have tu : TupSame H4 (upd H4 g.la (.lst (ws ++ [.ref pt]))) := (TupSame.refl _).upd_lst (s2 _ _ h2)
   have h3' : vL (upd H4 g.la (.lst (ws ++ [.ref pt]))) (ls ++ [⟨i, j, x, as⟩]) (ws ++ [.ref pt]) := by
     refine jR tu ?_
     unfold vL
     rw [List.map_append]
     exact DAts.append (DAts.same s2 h3) (DAts.one (atLn kt (DAt.same s2 hw)))
   replace hi := e1 hi (Ne.symm hlar)
   replace h4 := e1 h4 hpla
   replace h5 := e1 h5 (Ne.symm n1)
   replace h7 := e1 h7 (Ne.symm n2)
   have h2' : upd H4 g.la (.lst (ws ++ [.ref pt])) g.la = some (.lst (ws ++ [.ref pt])) := zB
   replace g3 := g3.trans g4
   generalize upd H4 g.la (.lst (ws ++ [.ref pt])) = H5 at g3 hi h4 h5 h7 h2' h3' ⊢
   clear e1 g4 tu kt s2 hpt h2 h3 hw
   have li : i < bs.length := by rw [h6.len]; omega
   have lj : j < cs.length := by rw [h8.len]; omega
   have gi := List.getElem?_eq_getElem li
   have gj := List.getElem?_eq_getElem lj
   generalize bs[i] = ci at gi
   generalize cs[j] = cj at gj
   have mset : ∀ (cs : List Nat) (i v : Nat), (cs.map nV).set i (V.int (v : Int)) = (cs.set i v).map nV := fun cs i v => (List.map_set (f := nV) (l := cs) (i := i) (a := v)).symm
   refine zI fun N hN => ?_
   simp! [tAugS, qI, rGetL, ipI, rSetL]
   refine ⟨C, dx, _, hi, T.cl, T.nA, _, gr_a g, g.aa, rfl, _, i, rfl, h5, nV ci, by rw [List.getElem?_map, gi]; rfl, ⟨by omega, by omega, by decide⟩, _, rfl, g.aa, rfl, _, h5, i, uL (by rw [List.length_map]; exact li), hN _ _ ?_⟩
   clear hN
   rw [shl_one j, or_mask, mset]
   have bc : ∀ a b : Nat, (((a : Nat) : Int) == ((b : Nat) : Int)) = (b == a) := fun a b => by
     rw [Bool.eq_iff_iff, beq_iff_eq, beq_iff_eq]
     omega
   have e1 : ∀ {b : Addr} {o : HO}, H5 b = some o -> b ≠ g.aa -> upd H5 g.aa (.lst ((bs.set i (ci ||| 2 ^ j)).map nV)) b = some o := fun hb n => by rw [zG n]; exact hb
   have g4 : SameG g H5 (upd H5 g.aa (.lst ((bs.set i (ci ||| 2 ^ j)).map nV))) := fun b o hb _ _ n _ => e1 hb n
   have tu : TupSame H5 (upd H5 g.aa (.lst ((bs.set i (ci ||| 2 ^ j)).map nV))) := (TupSame.refl _).upd_lst h5
   replace h3' := jR tu h3'
   replace hi := e1 hi (Ne.symm haar)
   replace h4 := e1 h4 hpaa
   replace h2' := e1 h2' n1
   replace h7 := e1 h7 (Ne.symm n3)
   have h5' : upd H5 g.aa (.lst ((bs.set i (ci ||| 2 ^ j)).map nV)) g.aa = some (.lst ((bs.set i (ci ||| 2 ^ j)).map nV)) := zB
   replace g3 := g3.trans g4
   generalize upd H5 g.aa (.lst ((bs.set i (ci ||| 2 ^ j)).map nV)) = H6 at g3 hi h4 h5' h7 h2' h3' ⊢
   clear e1 g4 tu h5
   simp! [tAugS, qI, rGetL, ipI, rSetL]
   refine ⟨C, dx, _, hi, T.cl, T.nB, _, gr_b g, g.ba, rfl, _, j, rfl, h7, nV cj, by rw [List.getElem?_map, gj]; rfl, ⟨by omega, by omega, by decide⟩, _, rfl, g.ba, rfl, _, h7, j, uL (by rw [List.length_map]; exact lj), ?_⟩
   rw [shl_one i, or_mask, mset]
   have e1 : ∀ {b : Addr} {o : HO}, H6 b = some o -> b ≠ g.ba -> upd H6 g.ba (.lst ((cs.set j (cj ||| 2 ^ i)).map nV)) b = some o := fun hb n => by rw [zG n]; exact hb
   have g4 : SameG g H6 (upd H6 g.ba (.lst ((cs.set j (cj ||| 2 ^ i)).map nV))) := fun b o hb _ _ _ n => e1 hb n
   have tu : TupSame H6 (upd H6 g.ba (.lst ((cs.set j (cj ||| 2 ^ i)).map nV))) := (TupSame.refl _).upd_lst h7
   refine q _ ⟨((Same.g s1).trans g3).trans g4, [⟨i, j, x, as⟩], ⟨⟨⟨dx, e1 hi (Ne.symm hbar)⟩, ⟨_, e1 h2' n2, jR tu h3'⟩, e1 h4 hpba, ⟨_, e1 h5' n3, h6.put gi fun a b => ?_⟩, ⟨_, zB, h8.put gj fun a b => ?_⟩, ⟨n1, n2, n3⟩, h10.put hb hst how⟩, by show zQ (ls ++ [⟨i, j, x, as⟩]) i j = true; rw [jV, vG]; simp⟩⟩
   · rw [jV, vG]
     show (zQ ls a b || (((i : Nat) : Int) == ((a : Nat) : Int) && ((j : Nat) : Int) == ((b : Nat) : Int))) = _
     rw [bc, bc]
   · rw [jV, vG]
     show (zQ ls b a || (((i : Nat) : Int) == ((b : Nat) : Int) && ((j : Nat) : Int) == ((a : Nat) : Int))) = _
     rw [bc, bc, Bool.and_comm]
end
theorem rep_zero (m : Nat) : (List.replicate m [V.int 0]).flatten = (List.replicate m 0).map nV := by
 induction m with
 | zero => rfl
 | succ m ih =>
   rw [List.replicate_succ, List.flatten_cons, ih, List.replicate_succ, List.map_cons]
   rfl
theorem mk_nil (n : Nat) (hp : Nat -> Nat -> Bool) (h : ∀ a b, hp a b = false) : MkA n hp (List.replicate n 0) := ⟨List.length_replicate .., fun a c hc b => by
 obtain ⟨_, e⟩ := List.getElem?_eq_some_iff.mp hc
 rw [List.getElem_replicate] at e
 subst e
 rw [h]
 simp⟩
def spGI (C : Addr) : Sp := fun vs H Q _ => ∃ (r dx : Addr) (rows : List Rw) (rules : List yE), vs = [.ref r, .int ((2 * rows.length : Nat) : Int)] /\ H r = some (.ins C dx []) /\ rows.length <= 100 /\ ∀ (g : GAd) H', g.r = r -> SameX r H H' -> H g.la = none -> H g.pa = none -> H g.aa = none -> H g.ba = none -> GrAt C H' g rows rules [] -> Q .non H'
theorem xV {r l : Addr} {H H' : Hp} {o : HO} (e : SameX r H H') (h : H l = none) : SameX r H (upd H' l o) := fun b u hb n => by
 have : b ≠ l := fun z => by rw [z, h] at hb; cases hb
 rw [zG this]
 exact e b u hb n
theorem xW {r l : Addr} {H H' : Hp} (e : SameX r H H') (h : H' l = none) (n : l ≠ r) : H l = none := by
 cases hl : H l with
 | none => rfl
 | some o => have := e l o hl n; rw [h] at this; cases this
section
variable {P : Program} {w : World} {K : PySem.W.Frag} {mg : Str -> Option Value} {base : Heap} {f : Addr} {fd : FuncData}
theorem ok_ginit {C : Addr} (T : GrC K C) (F : Fun K "__init__" "Growth.__init__" s_l f fd) : FnOk P w K mg base CX0 1 f fd ["self", "many"] (spGI C) := by
 refine F.ok sc_l (fun vs H Q E h => ?_) (fun cdv A outer s H vs Q E hr h => ?_)
 · obtain ⟨r, dx, rows, rules, rfl, _⟩ := h
   rfl
 obtain ⟨r, dx, rows, rules, rfl, hr', h30, q⟩ := h
 generalize hn : 2 * rows.length = n at q
 have n60 : n <= 200 := by omega
 have step : ∀ {H' : Hp} {b : Addr} {u : HO}, H' r = some u -> H' b = none -> b ≠ r := fun h1 h2 z => by rw [z, h1] at h2; cases h2
 refine ⟨_, (zC (wW (pv 0) (yX pa_nil) rfl) (zC (wW (pv 0) pe_dnewT rfl) (zC (wW (pv 0) (zL op_rep (yX (zA zE pa_nil)) (pv 1)) rfl) (zF (wW (pv 0) (zL op_rep (yX (zA zE pa_nil)) (pv 1)) rfl))))), ?_⟩
 refine zI fun N hN => ?_
 simp! [sFld]
 refine ⟨zM (by simp), fun la hla => ?_⟩
 have nla := step hr' hla
 refine ⟨C, dx, [], by rw [zG (Ne.symm nla)]; exact hr', T.cl, T.nL, by decide, hN _ _ ?_⟩
 clear hN
 have x1 : SameX r H (upd (upd H la (.lst [])) r (.ins C dx (xA "lines" (.ref la) []))) := SameX.upd (xV (SameX.refl r H) hla)
 have k1 : upd (upd H la (.lst [])) r (.ins C dx (xA "lines" (.ref la) [])) r = some (.ins C dx (xA "lines" (.ref la) [])) := zB
 have l1 : upd (upd H la (.lst [])) r (.ins C dx (xA "lines" (.ref la) [])) la = some (.lst []) := by rw [zG nla]; exact zB
 generalize upd (upd H la (.lst [])) r (.ins C dx (xA "lines" (.ref la) [])) = H1 at x1 k1 l1 ⊢
 refine zI fun N hN => ?_
 simp! [sFld, tDNewT]
 refine fun pa hpa => ?_
 have npa := step k1 hpa
 have hpa0 := xW x1 hpa npa
 refine ⟨C, dx, _, by rw [zG (Ne.symm npa)]; exact k1, T.cl, T.nP, by show 1 < 1000; decide, hN _ _ ?_⟩
 clear hN
 have npl : pa ≠ la := fun z => by rw [z, l1] at hpa; cases hpa
 have x2 : SameX r H (upd (upd H1 pa (.dT [])) r (.ins C dx (xA "places" (.ref pa) (xA "lines" (.ref la) [])))) := SameX.upd (xV x1 hpa0)
 have k2 : upd (upd H1 pa (.dT [])) r (.ins C dx (xA "places" (.ref pa) (xA "lines" (.ref la) []))) r = some (.ins C dx (xA "places" (.ref pa) (xA "lines" (.ref la) []))) := zB
 have l2 : upd (upd H1 pa (.dT [])) r (.ins C dx (xA "places" (.ref pa) (xA "lines" (.ref la) []))) la = some (.lst []) := by rw [zG nla, zG (Ne.symm npl)]; exact l1
 have p2 : upd (upd H1 pa (.dT [])) r (.ins C dx (xA "places" (.ref pa) (xA "lines" (.ref la) []))) pa = some (.dT []) := by rw [zG npa]; exact zB
 generalize upd (upd H1 pa (.dT [])) r (.ins C dx (xA "places" (.ref pa) (xA "lines" (.ref la) []))) = H2 at x2 k2 l2 p2 ⊢
 refine zI fun N hN => ?_
 simp! [sFld, rRep]
 refine ⟨zM (by simp), fun p0 hp0 => ⟨[V.int 0], zB, by omega, by omega, zM (by simp; omega), fun aa haa => ?_⟩⟩
 have np0 := step k2 hp0
 have naa0 : aa ≠ p0 := fun z => by rw [z, zB] at haa; cases haa
 rw [zG naa0] at haa
 have naa := step k2 haa
 refine ⟨C, dx, _, by rw [zG (Ne.symm naa), zG (Ne.symm np0)]; exact k2, T.cl, T.nA, by show 2 < 1000; decide, hN _ _ ?_⟩
 clear hN
 rw [Int.toNat_natCast, rep_zero]
 have nal : aa ≠ la := fun z => by rw [z, l2] at haa; cases haa
 have nap : aa ≠ pa := fun z => by rw [z, p2] at haa; cases haa
 have n0l : p0 ≠ la := fun z => by rw [z, l2] at hp0; cases hp0
 have n0p : p0 ≠ pa := fun z => by rw [z, p2] at hp0; cases hp0
 have haa0 := xW x2 haa naa
 have hp00 := xW x2 hp0 np0
 generalize hfs : xA "above" (V.ref aa) (xA "places" (V.ref pa) (xA "lines" (V.ref la) [])) = fs3
 have x3 : SameX r H (upd (upd (upd H2 p0 (.lst [.int 0])) aa (.lst ((List.replicate n 0).map nV))) r (.ins C dx fs3)) := SameX.upd (xV (xV x2 hp00) haa0)
 have k3 : upd (upd (upd H2 p0 (.lst [.int 0])) aa (.lst ((List.replicate n 0).map nV))) r (.ins C dx fs3) r = some (.ins C dx fs3) := zB
 have l3 : upd (upd (upd H2 p0 (.lst [.int 0])) aa (.lst ((List.replicate n 0).map nV))) r (.ins C dx fs3) la = some (.lst []) := by rw [zG nla, zG (Ne.symm nal), zG (Ne.symm n0l)]; exact l2
 have p3 : upd (upd (upd H2 p0 (.lst [.int 0])) aa (.lst ((List.replicate n 0).map nV))) r (.ins C dx fs3) pa = some (.dT []) := by rw [zG npa, zG (Ne.symm nap), zG (Ne.symm n0p)]; exact p2
 have a3 : upd (upd (upd H2 p0 (.lst [.int 0])) aa (.lst ((List.replicate n 0).map nV))) r (.ins C dx fs3) aa = some (.lst ((List.replicate n 0).map nV)) := by rw [zG naa]; exact zB
 generalize upd (upd (upd H2 p0 (.lst [.int 0])) aa (.lst ((List.replicate n 0).map nV))) r (.ins C dx fs3) = H3 at x3 k3 l3 p3 a3 ⊢
 simp! [sFld, rRep]
 refine ⟨zM (by simp), fun q0 hq0 => ⟨[V.int 0], zB, by omega, by omega, zM (by simp; omega), fun ba hba => ?_⟩⟩
 have nq0 := step k3 hq0
 have nba0 : ba ≠ q0 := fun z => by rw [z, zB] at hba; cases hba
 rw [zG nba0] at hba
 have nba := step k3 hba
 refine ⟨C, dx, _, by rw [zG (Ne.symm nba), zG (Ne.symm nq0)]; exact k3, T.cl, T.nB, by rw [← hfs]; show 3 < 1000; decide, ?_⟩
 rw [Int.toNat_natCast, rep_zero]
 have nbl : ba ≠ la := fun z => by rw [z, l3] at hba; cases hba
 have nbp : ba ≠ pa := fun z => by rw [z, p3] at hba; cases hba
 have nb1 : ba ≠ aa := fun z => by rw [z, a3] at hba; cases hba
 have n1l : q0 ≠ la := fun z => by rw [z, l3] at hq0; cases hq0
 have n1p : q0 ≠ pa := fun z => by rw [z, p3] at hq0; cases hq0
 have n1a : q0 ≠ aa := fun z => by rw [z, a3] at hq0; cases hq0
 have hba0 := xW x3 hba nba
 have hq00 := xW x3 hq0 nq0
 rw [← hfs]
 refine q ⟨r, la, pa, aa, ba⟩ _ rfl (SameX.upd (xV (xV x3 hq00) hba0)) hla hpa0 haa0 hba0 ⟨⟨dx, zB⟩, ⟨[], ?_, rfl⟩, ?_, ⟨_, ?_, mk_nil _ _ fun a b => rfl⟩, ⟨_, ?_, mk_nil _ _ fun a b => rfl⟩, ⟨Ne.symm nal, Ne.symm nbl, Ne.symm nb1⟩, ⟨fun k l h => (by cases h), fun a b x y h => (by cases h), fun l h => (by cases h)⟩⟩
 · show upd _ r _ la = _
   rw [zG nla, zG (Ne.symm nbl), zG (Ne.symm n1l)]; exact l3
 · show upd _ r _ pa = _
   rw [zG npa, zG (Ne.symm nbp), zG (Ne.symm n1p)]; exact p3
 · show upd _ r _ aa = _
   rw [zG naa, zG (Ne.symm nb1), zG (Ne.symm n1a), hn]; exact a3
 · show upd _ r _ ba = _
   rw [zG nba, zB, hn]
end
abbrev s_D : Stmt := top 12
theorem sc_D : FnScope ["growth", "sheet", "n", "k", "row"] ["growth", "sheet"] (zH s_D) := ⟨rfl, rfl, rfl, by decide +kernel, rfl, by decide +kernel, by decide +kernel⟩
abbrev s_g : Stmt := top 13
theorem sc_g : FnScope ["sheet", "boths", "k", "row"] ["sheet"] (zH s_g) := ⟨rfl, rfl, rfl, by decide +kernel, rfl, by decide +kernel, by decide +kernel⟩
abbrev s_d : Stmt := top 14
theorem sc_d : FnScope ["rules", "waiting", "r", "rule", "premise"] ["rules"] (zH s_d) := ⟨rfl, rfl, rfl, by decide +kernel, rfl, by decide +kernel, by decide +kernel⟩
theorem GrTo.then {C : Addr} {H H' H'' : Hp} {g : GAd} {rows : List Rw} {rules : List yE} {ls t : List Ln} (h : SameG g H H') (h' : GrTo C H' g rows rules (ls ++ t) H'') : GrTo C H g rows rules ls H'' := by
 obtain ⟨h1, t', h2⟩ := h'
 exact ⟨h.trans h1, t ++ t', by rw [← List.append_assoc]; exact h2⟩
theorem GrH.to {C : Addr} {H H' : Hp} {g : GAd} {rows : List Rw} {rules : List yE} {ls : List Ln} {R : List Ln -> Prop} (h : GrH C H g rows rules ls R H') : GrTo C H g rows rules ls H' := by
 obtain ⟨h1, t, h2, _⟩ := h
 exact ⟨h1, t, h2⟩
theorem GrH.same {C : Addr} {H H' H'' : Hp} {g : GAd} {rows : List Rw} {rules : List yE} {ls : List Ln} {R : List Ln -> Prop} (h : GrH C H g rows rules ls R H') (e : Same H' H'') : GrH C H g rows rules ls R H'' := by
 obtain ⟨h1, t, h2, h3⟩ := h
 exact ⟨h1.trans (Same.g e), t, h2.same e, h3⟩
theorem GrH.pre {C : Addr} {H H' H'' : Hp} {g : GAd} {rows : List Rw} {rules : List yE} {ls : List Ln} {R : List Ln -> Prop} (e : Same H H') (h : GrH C H' g rows rules ls R H'') : GrH C H g rows rules ls R H'' := by
 obtain ⟨h1, h2⟩ := h
 exact ⟨(Same.g e).trans h1, h2⟩
theorem GrH.refl {C : Addr} {H : Hp} {g : GAd} {rows : List Rw} {rules : List yE} {ls : List Ln} {R : List Ln -> Prop} (h : GrAt C H g rows rules ls) (hR : R ls) : GrH C H g rows rules ls R H := ⟨fun _ _ hb _ _ _ _ => hb, [], by rw [List.append_nil]; exact ⟨h, hR⟩⟩
def Le (ls L : List Ln) : Prop := ∃ t, L = ls ++ t
theorem Le.refl (ls : List Ln) : Le ls ls := ⟨[], (List.append_nil _).symm⟩
theorem Le.trans {a b c : List Ln} (h : Le a b) (h' : Le b c) : Le a c := by
 obtain ⟨t, rfl⟩ := h
 obtain ⟨t', rfl⟩ := h'
 exact ⟨t ++ t', by rw [List.append_assoc]⟩
theorem Le.has {a b : List Ln} (h : Le a b) {i j : Int} (hh : zQ a i j = true) : zQ b i j = true := by
 obtain ⟨t, rfl⟩ := h
 rw [jV, hh, Bool.true_or]
theorem GrH.then {C : Addr} {H H' H'' : Hp} {g : GAd} {rows : List Rw} {rules : List yE} {ls t : List Ln} {R R' : List Ln -> Prop} (h : SameG g H H') (h' : GrH C H' g rows rules (ls ++ t) R H'') (i : ∀ L, Le (ls ++ t) L -> R L -> R' L) : GrH C H g rows rules ls R' H'' := by
 obtain ⟨h1, t', h2, h3⟩ := h'
 rw [List.append_assoc] at h2 h3
 exact ⟨h.trans h1, t ++ t', h2, i _ ⟨t', by rw [List.append_assoc]⟩ h3⟩
def vU (g : GAd) (a : Addr) : Prop := a ≠ g.la /\ a ≠ g.pa /\ a ≠ g.aa /\ a ≠ g.ba
theorem SameG.out {g : GAd} {H H' : Hp} {a : Addr} {o : HO} (e : SameG g H H') (n : vU g a) (h : H a = some o) : H' a = some o := e a o h n.1 n.2.1 n.2.2.1 n.2.2.2
theorem st_plain {rows : List Rw} {rules : List yE} {ls : List Ln} {i j : Nat} {x : Str} (hi : i < 2 * rows.length) (hj : j < 2 * rows.length) (hx : x ≠ "rule") (hn : named x = some 0) (h : yT rows i j x [] = true) : xJ rows rules ls ls.length ⟨i, j, x, []⟩ = true := by
 unfold xJ
 rw [if_neg (by
   intro z
   rcases z with z | z
   · exact z ⟨by show (0 : Int) <= (i : Int); omega, by show (i : Int) < _; omega⟩
   · exact z ⟨by show (0 : Int) <= (j : Int); omega, by show (j : Int) < _; omega⟩), if_neg hx, if_pos ⟨hn, rfl⟩]
 exact h
theorem ow0 : OW [] := ⟨by simp, fun ps h => by cases h⟩
theorem qF {C : Addr} {H H' H2 : Hp} {g : GAd} {rows : List Rw} {rules : List yE} {ls t : List Ln} (hs : SameG g H H') (hg : GrAt C H' g rows rules (ls ++ t)) (h100 : rows.length <= 100) (e : Same H' H2) {i j : Nat} {x : Str} {as : List Wt} {wv : V} (hw : DAt H2 (vR x as) wv) (hst : xJ rows rules (ls ++ t) (ls ++ t).length ⟨i, j, x, as⟩ = true) (ho : OW as) {Q : VK} {E : XK} {R : List Ln -> Prop} (hR : ∀ L, Le (ls ++ t) L -> zQ L i j = true -> R L) (q : ∀ v H3, GrH C H g rows rules ls R H3 -> Q v H3) :
   vO C [.ref g.r, .int i, .int j, wv] H2 Q E :=
 ⟨g, rows, rules, _, i, j, wv, x, as, rfl, hg.same e, h100, hw, hst, ho, fun H3 g3 => q _ _ (GrH.then (hs.trans (Same.g e)) g3 hR)⟩
theorem jW {C : Addr} {H H' : Hp} {g : GAd} {rows : List Rw} {rules : List yE} {ls t : List Ln} (hs : SameG g H H') (hg : GrAt C H' g rows rules (ls ++ t)) (h100 : rows.length <= 100) {i j : Nat} (hi : i < 2 * rows.length) (hj : j < 2 * rows.length) {x : Str} (hx : x ≠ "rule") (hn : named x = some 0) (hst : yT rows i j x [] = true) {p : Addr} (hp : H' p = none) {Q : VK} {E : XK} {R : List Ln -> Prop} (hR : ∀ L, Le (ls ++ t) L -> zQ L i j = true -> R L) (q : ∀ v H2, GrH C H g rows rules ls R H2 -> Q v H2) :
   vO C [.ref g.r, .int i, .int j, .ref p] (upd H' p (.tup [.str x])) Q E :=
 qF hs hg h100 (zD hp _) (x := x) (as := []) ⟨p, _, rfl, zB, _, _, rfl, rfl, rfl⟩ (st_plain hi hj hx hn hst) ow0 hR q
structure Pl (rows : List Rw) (n m : Nat) (L : List Ln) : Prop where
 same : ∀ x : Nat, x < n -> zQ L x x = true
 low : ∀ x : Nat, x < n -> zQ L 0 x = true
 high : ∀ x : Nat, x < n -> zQ L x 1 = true
 part : ∀ (k : Nat) (a b : Int), k < m -> rows[k]? = some (.bo a b) -> zQ L ((2 * k : Nat) : Int) a = true /\ zQ L ((2 * k : Nat) : Int) b = true
theorem Pl.le {rows : List Rw} {n m : Nat} {L L' : List Ln} (h : Pl rows n m L) (e : Le L L') : Pl rows n m L' := ⟨fun x hx => e.has (h.same x hx), fun x hx => e.has (h.low x hx), fun x hx => e.has (h.high x hx), fun k a b hk hr => ⟨e.has (h.part k a b hk hr).1, e.has (h.part k a b hk hr).2⟩⟩
def spBe (C : Addr) : Sp := fun vs H Q _ => ∃ (g : GAd) (sa : Addr) (us : List V) (rows : List Rw) (rules : List yE), vs = [.ref g.r, .ref sa] /\ GrAt C H g rows rules [] /\ rows.length <= 100 /\ H sa = some (.lst us) /\ jI H rows us /\ vU g sa /\ RowsIn rows /\ ∀ H', GrH C H g rows rules [] (Pl rows (2 * rows.length) rows.length) H' -> Q .non H'
section
variable {P : Program} {w : World} {K : PySem.W.Frag} {mg : Str -> Option Value} {base : Heap} {f : Addr} {fd : FuncData}
theorem ok_begin {C : Addr} (T : GrC K C) (bi : Bi mg) (be : mg "enumerate" = none) (h_e : HasM P w K mg base 2 C "grow" ["self", "i", "j", "why"] (vO C)) (F : Fun K "begin" "begin" s_D f fd) : FnOk P w K mg base CX0 3 f fd ["growth", "sheet"] (spBe C) := by
 refine F.ok sc_D (fun vs H Q E h => ?_) (fun cdv A outer s H vs Q E hr h => ?_)
 · obtain ⟨g, sa, us, rows, rules, rfl, _⟩ := h
   rfl
 obtain ⟨g, sa, us, rows, rules, rfl, hg, h100, hsa, hrw, hout, hin, q⟩ := h
 have hul := jH hrw
 have cl_Growth := T.cl
 have lk : (grF g).lookup ("grow" : Str) = none := jD g (by decide +kernel) (by decide +kernel) (by decide +kernel) (by decide +kernel)
 refine ⟨_, (zC (yK PassesOwn.never rfl (yO rfl bi.range (zA (zL op_mul zE (zK call_len rfl bi.len bt_len (zA (pv 1) pa_nil))) pa_nil)) (zJ (i := 2) sc_D.nd rfl (Or.inl rfl)) (zC (zV (yC h_e cl_Growth (hr.mono (by omega)) (pv 0) (zA (pv 2) (zA (pv 2) (zA (yA (zA yL pa_nil)) pa_nil))))) (zC (zV (yC h_e cl_Growth (hr.mono (by omega)) (pv 0) (zA zE (zA (pv 2) (zA (yA (zA yL pa_nil)) pa_nil))))) (zF (zV (yC h_e cl_Growth (hr.mono (by omega)) (pv 0) (zA (pv 2) (zA zE (zA (yA (zA yL pa_nil)) pa_nil))))))))) (zF (yK PassesOwn.never rfl (jL rfl be (zA (pv 1) pa_nil)) (jM rfl (zX (zJ (i := 3) sc_D.nd rfl (Or.inl rfl)) (zX (zJ (i := 4) sc_D.nd rfl (Or.inl rfl)) pgs_nil))) (zF (yP (zY op_eq (zN ix_tup (pv 4) zE (fun _ _ => rfl)) yL (yD _)) (zC (zV (yC h_e cl_Growth (hr.mono (by omega)) (pv 0) (zA (zL op_mul zE (pv 3)) (zA (zN ix_tup (pv 4) zE (fun _ _ => rfl)) (zA (yA (zA yL pa_nil)) pa_nil))))) (zF (zV (yC h_e cl_Growth (hr.mono (by omega)) (pv 0) (zA (zL op_mul zE (pv 3)) (zA (zN ix_tup (pv 4) zE (fun _ _ => rfl)) (zA (yA (zA yL pa_nil)) pa_nil))))))) pss_nil))))), ?_⟩
 refine zW (fun σ H' => ∃ (o1 o2 o3 : Option V), GrH C H g rows rules [] (Pl rows (2 * rows.length) 0) H' /\ σ = [some (V.ref g.r), some (V.ref sa), o1, o2, o3]) (fun N hN => ?_) (fun σ H' h => ?_)
 · simp! []
   refine ⟨us.length, .inl ⟨_, SqL.of hsa, rfl⟩, .inl ⟨by decide, by decide⟩, by omega, by omega, ?_⟩
   refine xE (n := (2 * (us.length : Int)).toNat) (fun i σ H' => ∃ (o1 o2 o3 : Option V), GrH C H g rows rules [] (Pl rows i 0) H' /\ σ = [some (V.ref g.r), some (V.ref sa), o1, o2, o3]) ⟨_, _, _, GrH.refl hg ⟨fun x hx => by omega, fun x hx => by omega, fun x hx => by omega, fun k a b hk => by omega⟩, rfl⟩ (fun i σ H' hi h => ?_) (fun σ H' h => ?_)
   rotate_left
   · rw [show (2 * (us.length : Int)).toNat = 2 * rows.length by omega] at h
     exact hN _ _ h
   obtain ⟨o1, o2, o3, ⟨gs, t, gt, hP⟩, rfl⟩ := h
   have hi' : i < 2 * rows.length := by omega
   have e0 : (0 : Int) + (i : Int) = ((i : Nat) : Int) := by omega
   show tSeq _ _ _ _ _
   refine zI fun N2 hN2 => ?_
   simp! [xI]
   rw [e0]
   obtain ⟨dx, hins⟩ := gt.ins
   refine ⟨_, _, hins, lk, zM (by simp), fun p hp => jW gs gt h100 hi' hi' (x := "same") (by decide) rfl (by unfold yT; rw [if_pos rfl]; simp) hp (R := fun L => Pl rows i 0 L /\ zQ L i i = true) (fun L e h => ⟨hP.le e, h⟩) fun _ H2 g2 => hN2 _ _ ?_⟩
   clear hN2 hins gs gt
   obtain ⟨gs, t, gt, hP, hp1⟩ := g2
   obtain ⟨dx, hins⟩ := gt.ins
   refine zI fun N2 hN2 => ?_
   simp! [xI]
   refine ⟨_, _, hins, lk, zM (by simp), fun p hp => jW (i := 0) gs gt h100 (by omega) hi' (x := "edge") (by decide) rfl (by unfold yT; rw [if_neg (by decide), if_pos rfl]; simp) hp (R := fun L => Pl rows i 0 L /\ zQ L i i = true /\ zQ L 0 i = true) (fun L e h => ⟨hP.le e, e.has hp1, h⟩) fun _ H2 g2 => hN2 _ _ ?_⟩
   clear hN2 hins gs gt
   obtain ⟨gs, t, gt, hP, hp1, hp2⟩ := g2
   obtain ⟨dx, hins⟩ := gt.ins
   simp! [xI]
   refine ⟨_, _, hins, lk, zM (by simp), fun p hp => jW (j := 1) gs gt h100 hi' (by omega) (x := "edge") (by decide) rfl (by unfold yT; rw [if_neg (by decide), if_pos rfl]; simp) hp (R := Pl rows (i + 1) 0) (fun L e h => ?_) fun _ H2 g2 => ?_⟩
   · have c : ∀ {x : Nat}, x < i + 1 -> x < i \/ x = i := fun h => by omega
     have hP' := hP.le e
     exact ⟨fun x hx => (c hx).elim (hP'.same x) fun z => z ▸ e.has hp1, fun x hx => (c hx).elim (hP'.low x) fun z => z ▸ e.has hp2, fun x hx => (c hx).elim (hP'.high x) fun z => z ▸ h, fun k a b hk => by omega⟩
   exact ⟨g2, _, rfl⟩
 obtain ⟨o1, o2, o3, hgt, rfl⟩ := h
 have hsa' := hgt.to.1.out hout hsa
 simp! [uE]
 refine ⟨_, hsa', ?_⟩
 refine uO (xs := us) (fun k σ H' => ∃ (o1 o2 o3 : Option V), GrH C H g rows rules [] (Pl rows (2 * rows.length) k) H' /\ σ = [some (V.ref g.r), some (V.ref sa), o1, o2, o3]) ⟨_, _, _, hgt, rfl⟩ (fun k σ H' h => ?_) (fun k x σ H' p hx h hp => ?_) (fun σ H' h => ?_)
 · obtain ⟨_, _, _, h, _⟩ := h
   exact h.to.1.out hout hsa
 · obtain ⟨o1, o2, o3, hgt, rfl⟩ := h
   have hk : k < rows.length := by rw [← hul]; exact (List.getElem?_eq_some_iff.mp hx).1
   obtain ⟨r, hr1, hr2⟩ := yZ hrw hx
   have tu := hg.tups hgt.to.1
   obtain ⟨xa, x', vs, rfl, hxa, hcase⟩ := RwAt.out hr2
   have hxa0 := hxa
   replace hxa := tu _ _ hxa
   replace hgt := hgt.same (zD hp (.tup [.int k, .ref xa]))
   have hxa' := zD hp (.tup [.int k, .ref xa]) _ _ hxa
   have kp : upd H' p (.tup [.int k, .ref xa]) p = some (.tup [.int k, .ref xa]) := zB
   generalize upd H' p (.tup [.int k, .ref xa]) = H2 at hgt hxa' kp ⊢
   simp! [qG, jE, gNil, xI]
   refine ⟨[.int k, .ref xa], SqT.of kp, rfl, .int k, [.ref xa], rfl, .ref xa, [], rfl, rfl, xa, rfl, _, SqT.of hxa', _, at0, rfl, ?_⟩
   have nob : ∀ {L : List Ln}, (∀ a b, r ≠ .bo a b) -> Pl rows (2 * rows.length) k L -> Pl rows (2 * rows.length) (k + 1) L := fun hno h => ⟨h.same, h.low, h.high, fun m a b hm hr' => by
     rcases Nat.lt_or_eq_of_le (Nat.le_of_lt_succ hm) with z | z
     · exact h.part m a b z hr'
     · subst z; rw [hr1] at hr'; cases hr'; exact absurd rfl (hno a b)⟩
   have weak : ∀ {R R' : List Ln -> Prop} {H'}, (∀ L, R L -> R' L) -> GrH C H g rows rules [] R H' -> GrH C H g rows rules [] R' H' := fun w h => by
     obtain ⟨h1, t, h2, h3⟩ := h
     exact ⟨h1, t, h2, w _ h3⟩
   cases r with
   | no =>
     obtain ⟨rfl, rfl⟩ := hcase
     rw [if_neg (by intro z; exact absurd (V.str.inj z) (by decide +kernel))]
     exact ⟨weak (fun L => nob (fun a b z => by cases z)) hgt, _, rfl⟩
   | nm y =>
     obtain ⟨rfl, rfl⟩ := hcase
     rw [if_neg (by intro z; exact absurd (V.str.inj z) (by decide +kernel))]
     exact ⟨weak (fun L => nob (fun a b z => by cases z)) hgt, _, rfl⟩
   | bo i j =>
     obtain ⟨rfl, rfl⟩ := hcase
     rw [if_pos rfl]
     obtain ⟨⟨b1, b2⟩, b3, b4⟩ := hin k i j hr1
     obtain ⟨a, rfl⟩ : ∃ a : Nat, i = (a : Int) := ⟨i.toNat, by omega⟩
     obtain ⟨b, rfl⟩ : ∃ b : Nat, j = (b : Int) := ⟨j.toNat, by omega⟩
     have e2 : (2 : Int) * (k : Int) = ((2 * k : Nat) : Int) := by omega
     have hpt : uW rows ((2 * k : Nat) : Int) = [(a : Int), (b : Int)] := qQ (r := .bo a b) (by omega) (by rw [show (((2 * k : Nat) : Int) / 2).toNat = k by omega]; exact hr1)
     have hst : ∀ c : Nat, (c = a \/ c = b) -> yT rows ((2 * k : Nat) : Int) c "part" [] = true := fun c hc => by
       unfold yT
       rw [if_neg (by decide), if_neg (by decide), if_pos rfl, hpt]
       rcases hc with rfl | rfl <;> simp
     have at2 : ∀ {a b c : V}, atI [a, b, c] 2 = some c := zU (j := 2) rfl
     obtain ⟨gs, t, gt, hP⟩ := hgt
     obtain ⟨dx, hins⟩ := gt.ins
     refine ⟨_, _, hins, lk, _, rfl, .inl ⟨by decide, by decide⟩, xa, rfl, _, SqT.of hxa', _, at1, zM (by simp), fun p1 hp1 => ?_⟩
     rw [e2]
     refine jW (i := 2 * k) (j := a) gs gt h100 (by omega) (by omega) (x := "part") (by decide) rfl (hst a (.inl rfl)) hp1 (R := fun L => Pl rows (2 * rows.length) k L /\ zQ L ((2 * k : Nat) : Int) a = true) (fun L e h => ⟨hP.le e, h⟩) fun _ H3 g3 => ?_
     have hxa3 := hg.tups g3.1 _ _ hxa0
     obtain ⟨gs, t, gt, hP, hpa⟩ := g3
     obtain ⟨dx, hins⟩ := gt.ins
     refine ⟨_, _, hins, lk, _, rfl, .inl ⟨by decide, by decide⟩, xa, rfl, _, SqT.of hxa3, _, at2, zM (by simp), fun p2 hp2 => ?_⟩
     rw [e2]
     refine jW (i := 2 * k) (j := b) gs gt h100 (by omega) (by omega) (x := "part") (by decide) rfl (hst b (.inr rfl)) hp2 (R := Pl rows (2 * rows.length) (k + 1)) (fun L e h => ?_) fun _ H4 g4 => ⟨g4, _, rfl⟩
     have hP' := hP.le e
     refine ⟨hP'.same, hP'.low, hP'.high, fun m a' b' hm hr' => ?_⟩
     rcases Nat.lt_or_eq_of_le (Nat.le_of_lt_succ hm) with z | z
     · exact hP'.part m a' b' z hr'
     · subst z; rw [hr1] at hr'; cases hr'; exact ⟨e.has hpa, h⟩
 · obtain ⟨_, _, _, h, rfl⟩ := h
   rw [hul] at h
   exact q _ h
end
def Tri (rows : List Rw) (H : Hp) (v : V) : Prop := ∃ (t : Addr) (k : Nat) (a b : Int), v = .ref t /\ H t = some (.tup [.int (2 * (k : Int)), .int a, .int b]) /\ rows[k]? = some (.bo a b)
theorem Tri.tups {rows : List Rw} {H H' : Hp} (e : TupSame H H') {v : V} (h : Tri rows H v) : Tri rows H' v := by
 obtain ⟨t, k, a, b, h1, h2, h3⟩ := h
 exact ⟨t, k, a, b, h1, e _ _ h2, h3⟩
def BoP (rows : List Rw) (H : Hp) (qs : List Addr) (n : Nat) : Prop := ∀ q ∈ qs, ∃ us, H q = some (.lst us) /\ us.length <= n /\ ∀ v ∈ us, Tri rows H v
theorem BoP.same {rows : List Rw} {H H' : Hp} {qs : List Addr} {n : Nat} (e : Same H H') (h : BoP rows H qs n) : BoP rows H' qs n := fun q hq => by
 obtain ⟨us, h1, h2, h3⟩ := h q hq
 exact ⟨us, e _ _ h1, h2, fun v hv => (h3 v hv).tups e.tups⟩
theorem BoP.put {rows : List Rw} {H : Hp} {qs : List Addr} {n : Nat} {q : Addr} {us : List V} {v : V} (h : BoP rows H qs n) (hq : H q = some (.lst us)) (hl : us.length <= n) (hus : ∀ v ∈ us, Tri rows H v) (hv : Tri rows H v) : BoP rows (upd H q (.lst (us ++ [v]))) qs (n + 1) := fun q' hq' => by
 have tu : TupSame H (upd H q (.lst (us ++ [v]))) := (TupSame.refl _).upd_lst hq
 by_cases e : q' = q
 · subst e
   refine ⟨us ++ [v], zB, by simp; omega, fun x hx => ?_⟩
   rcases List.mem_append.mp hx with hx | hx
   · exact (hus x hx).tups tu
   · rw [List.mem_singleton.mp hx]; exact hv.tups tu
 · obtain ⟨us', h1, h2, h3⟩ := h q' hq'
   exact ⟨us', by rw [zG e]; exact h1, by omega, fun x hx => (h3 x hx).tups tu⟩
def InB (H : Hp) (q : Addr) (m : Nat) (a b : Int) : Prop := ∃ (us : List V) (t : Addr), H q = some (.lst us) /\ V.ref t ∈ us /\ H t = some (.tup [.int (2 * (m : Int)), .int a, .int b])
theorem InB.same {H H' : Hp} {q : Addr} {m : Nat} {a b : Int} (e : Same H H') (h : InB H q m a b) : InB H' q m a b := by
 obtain ⟨us, t, h1, h2, h3⟩ := h
 exact ⟨us, t, e _ _ h1, h2, e _ _ h3⟩
theorem InB.upd {H : Hp} {q : Addr} {m : Nat} {a b : Int} (h : InB H q m a b) {q1 : Addr} {us1 : List V} {v : V} (hq : H q1 = some (.lst us1)) : InB (upd H q1 (.lst (us1 ++ [v]))) q m a b := by
 obtain ⟨us, t, h1, h2, h3⟩ := h
 have h3' := (TupSame.refl H).upd_lst (o := .lst (us1 ++ [v])) hq _ _ h3
 by_cases e : q = q1
 · subst e
   rw [hq] at h1
   cases h1
   exact ⟨_, t, zB, List.mem_append_left _ h2, h3'⟩
 · exact ⟨us, t, (zG e).trans h1, h2, h3'⟩
def BoC (rows : List Rw) (H : Hp) (qs : List Addr) (k : Nat) : Prop := ∀ (m : Nat) (a b : Int), m < k -> rows[m]? = some (.bo a b) -> ∀ (x : Nat) (q : Addr), ((x : Int) = a \/ (x : Int) = b) -> qs[x]? = some q -> InB H q m a b
theorem BoC.same {rows : List Rw} {H H' : Hp} {qs : List Addr} {k : Nat} (e : Same H H') (h : BoC rows H qs k) : BoC rows H' qs k := fun m a b hm hr x q hx hq => (h m a b hm hr x q hx hq).same e
theorem BoC.upd {rows : List Rw} {H : Hp} {qs : List Addr} {k : Nat} (h : BoC rows H qs k) {q1 : Addr} {us1 : List V} {v : V} (hq1 : H q1 = some (.lst us1)) : BoC rows (upd H q1 (.lst (us1 ++ [v]))) qs k := fun m a b hm hr x q hx hq => (h m a b hm hr x q hx hq).upd hq1
theorem BoC.succ {rows : List Rw} {H : Hp} {qs : List Addr} {k : Nat} (h : BoC rows H qs k) (hk : ∀ (a b : Int), rows[k]? = some (.bo a b) -> ∀ (x : Nat) (q : Addr), ((x : Int) = a \/ (x : Int) = b) -> qs[x]? = some q -> InB H q k a b) : BoC rows H qs (k + 1) := fun m a b hm hr x q hx hq => by
 rcases Nat.lt_or_eq_of_le (Nat.le_of_lt_succ hm) with z | z
 · exact h m a b z hr x q hx hq
 · subst z
   exact hk a b hr x q hx hq
def spBo : Sp := fun vs H Q _ => ∃ (sa : Addr) (us : List V) (rows : List Rw), vs = [.ref sa] /\ H sa = some (.lst us) /\ jI H rows us /\ rows.length <= 100 /\ RowsIn rows /\ ∀ (p : Addr) (qs : List Addr) (n : Nat) (H' : Hp), Same H H' -> H p = none -> (∀ q ∈ qs, H q = none) -> H' p = some (.lst (qs.map V.ref)) -> qs.length = 2 * rows.length -> BoP rows H' qs n -> BoC rows H' qs rows.length -> Q (.ref p) H'
def WaP (m : Nat) (H0 H : Hp) (kvs : List (List Key × V)) (n : Nat) : Prop := ∀ kv ∈ kvs, ∃ (q : Addr) (ns : List Nat), kv.2 = .ref q /\ H q = some (.lst (ns.map nV)) /\ H0 q = none /\ ns.length <= n /\ ∀ x ∈ ns, x < m
theorem WaP.same {m : Nat} {H0 H H' : Hp} {kvs : List (List Key × V)} {n : Nat} (e : Same H H') (h : WaP m H0 H kvs n) : WaP m H0 H' kvs n := fun kv hkv => by
 obtain ⟨q, ns, h1, h2, h3⟩ := h kv hkv
 exact ⟨q, ns, h1, e _ _ h2, h3⟩
theorem WaP.upd {m : Nat} {H0 H : Hp} {kvs : List (List Key × V)} {n : Nat} {q : Addr} {ns : List Nat} {r : Nat} (h : WaP m H0 H kvs n) (hl : ns.length <= n) (hns : ∀ x ∈ ns, x < m) (hr : r < m) (hq : H0 q = none) : WaP m H0 (upd H q (.lst (ns.map nV ++ [nV r]))) kvs (n + 1) := fun kv hkv => by
 obtain ⟨q', ns', h1, h2, h3, h4, h5⟩ := h kv hkv
 by_cases e : q' = q
 · subst e
   refine ⟨q', ns ++ [r], h1, by rw [zB, List.map_append]; rfl, hq, by simp; omega, fun x hx => ?_⟩
   rcases List.mem_append.mp hx with hx | hx
   · exact hns x hx
   · rw [List.mem_singleton.mp hx]; exact hr
 · exact ⟨q', ns', h1, (zG e).trans h2, h3, by omega, h5⟩
theorem valV_mem {κ : Type} [DecidableEq κ] {kvs : List (κ × V)} {k : κ} {v : V} (h : yG kvs k = some v) : ∃ kv ∈ kvs, kv.2 = v := by
 unfold yG at h
 obtain ⟨x, hx, e⟩ := Option.map_eq_some_iff.mp h
 exact ⟨x, List.mem_of_find?_eq_some hx, e⟩
theorem valV_old {κ : Type} [DecidableEq κ] {kvs t : List (κ × V)} {k : κ} {v : V} (h : yG kvs k = some v) : yG (kvs ++ t) k = some v := by
 unfold yG at h ⊢
 obtain ⟨x, hx, e⟩ := Option.map_eq_some_iff.mp h
 rw [List.find?_append, hx]
 exact congrArg some e
theorem valV_new {κ : Type} [DecidableEq κ] {kvs : List (κ × V)} {k : κ} {v : V} (h : yG kvs k = none) : yG (kvs ++ [(k, v)]) k = some v := by
 unfold yG at h ⊢
 rw [Option.map_eq_none_iff] at h
 rw [List.find?_append, h]
 simp
theorem nV_inj : ∀ {a b : List Nat}, a.map nV = b.map nV -> a = b
 | [], [], _ => rfl
 | [], _ :: _, h => by cases h
 | _ :: _, [], h => by cases h
 | x :: a, y :: b, h => by
   injection h with h1 h2
   have h3 := V.int.inj h1
   have h4 : x = y := by omega
   rw [h4, nV_inj h2]
def WaI (H : Hp) (kvs : List (List Key × V)) (pr : Pr) (r : Nat) : Prop := ∃ (q : Addr) (ns : List Nat), yG kvs (yQ pr.1 pr.2) = some (.ref q) /\ H q = some (.lst (ns.map nV)) /\ r ∈ ns
theorem WaI.same {H H' : Hp} {kvs : List (List Key × V)} {pr : Pr} {r : Nat} (e : Same H H') (h : WaI H kvs pr r) : WaI H' kvs pr r := by
 obtain ⟨q, ns, h1, h2, h3⟩ := h
 exact ⟨q, ns, h1, e _ _ h2, h3⟩
theorem WaI.app {H : Hp} {kvs t : List (List Key × V)} {pr : Pr} {r : Nat} (h : WaI H kvs pr r) : WaI H (kvs ++ t) pr r := by
 obtain ⟨q, ns, h1, h2, h3⟩ := h
 exact ⟨q, ns, valV_old h1, h2, h3⟩
theorem WaI.upd {H : Hp} {kvs : List (List Key × V)} {pr : Pr} {r : Nat} (h : WaI H kvs pr r) {q1 : Addr} {ns1 : List Nat} {x : Nat} (hq : H q1 = some (.lst (ns1.map nV))) : WaI (upd H q1 (.lst (ns1.map nV ++ [nV x]))) kvs pr r := by
 obtain ⟨q, ns, h1, h2, h3⟩ := h
 by_cases e : q = q1
 · subst e
   rw [hq] at h2
   have e2 : ns1 = ns := by
     have := HO.lst.inj (Option.some.inj h2)
     exact nV_inj this
   subst e2
   exact ⟨q, ns1 ++ [x], h1, by rw [zB, List.map_append]; rfl, List.mem_append_left _ h3⟩
 · exact ⟨q, ns, h1, (zG e).trans h2, h3⟩
theorem WaI.dic {H : Hp} {kvs : List (List Key × V)} {pr : Pr} {r : Nat} (h : WaI H kvs pr r) {p : Addr} {kvs0 : List (List Key × V)} {o : HO} (hp : H p = some (.dT kvs0)) : WaI (L2.upd H p o) kvs pr r := by
 obtain ⟨q, ns, h1, h2, h3⟩ := h
 exact ⟨q, ns, h1, (zG (fun z => by rw [z, hp] at h2; cases h2)).trans h2, h3⟩
def WaC (rules : List yE) (H : Hp) (kvs : List (List Key × V)) (k m : Nat) : Prop := ∀ (r : Nat) (q : yE) (x : Nat) (pr : Pr), rules[r]? = some q -> q.1[x]? = some pr -> (r < k \/ r = k /\ x < m) -> WaI H kvs pr r
def spWa : Sp := fun vs H Q _ => ∃ (ra : Addr) (us : List V) (rules : List yE), vs = [.ref ra] /\ H ra = some (.lst us) /\ DAts H (rules.map dNR) us /\ rules.length <= 100 /\ (∀ r ∈ rules, r.1.length <= 100) /\ ∀ (p : Addr) (kvs : List (List Key × V)) (n : Nat) (H' : Hp), Same H H' -> H p = none -> H' p = some (.dT kvs) -> WaP rules.length H H' kvs n -> WaC rules H' kvs rules.length 0 -> Q (.ref p) H'
section
variable {P : Program} {w : World} {K : PySem.W.Frag} {mg : Str -> Option Value} {base : Heap} {f : Addr} {fd : FuncData}
theorem ok_boths (bi : Bi mg) (be : mg "enumerate" = none) (F : Fun K "boths_by_part" "boths_by_part" s_g f fd) : FnOk P w K mg base CX0 1 f fd ["sheet"] spBo := by
 refine F.ok sc_g (fun vs H Q E h => ?_) (fun cdv A outer s H vs Q E hr h => ?_)
 · obtain ⟨sa, us, rows, rfl, _⟩ := h
   rfl
 obtain ⟨sa, us, rows, rfl, hsa, hrw, h100, hin, q⟩ := h
 have hul := jH hrw
 refine ⟨_, (zC (uI (i := 1) ["n"] [] [] sc_g.nd rfl (yO rfl bi.range (zA (zL op_mul zE (zK call_len rfl bi.len bt_len (zA (pv 0) pa_nil))) pa_nil)) (fun _ _ _ _ nd => zJ (i := 0) nd rfl (Or.inl rfl)) (fun _ _ _ _ => yY) (fun _ _ _ _ => (yX pa_nil))) (zC (yK PassesOwn.never rfl (jL rfl be (zA (pv 0) pa_nil)) (jM rfl (zX (zJ (i := 2) sc_g.nd rfl (Or.inl rfl)) (zX (zJ (i := 3) sc_g.nd rfl (Or.inl rfl)) pgs_nil))) (zF (yP (zY op_eq (zN ix_tup (pv 3) zE (fun _ _ => rfl)) yL (yD _)) (zC (zV (xQ PySem.F.plainAttrs_list PySem.F.slot_list_append PySem.F.type_list_append mt_append (zN ix_list (pv 1) (zN ix_tup (pv 3) zE (fun _ _ => rfl)) (fun _ _ => rfl)) (zA (yA (zA (zL op_mul zE (pv 2)) (zA (zN ix_tup (pv 3) zE (fun _ _ => rfl)) (zA (zN ix_tup (pv 3) zE (fun _ _ => rfl)) pa_nil)))) pa_nil))) (zF (zV (xQ PySem.F.plainAttrs_list PySem.F.slot_list_append PySem.F.type_list_append mt_append (zN ix_list (pv 1) (zN ix_tup (pv 3) zE (fun _ _ => rfl)) (fun _ _ => rfl)) (zA (yA (zA (zL op_mul zE (pv 2)) (zA (zN ix_tup (pv 3) zE (fun _ _ => rfl)) (zA (zN ix_tup (pv 3) zE (fun _ _ => rfl)) pa_nil)))) pa_nil))))) pss_nil))) (zF (zZ (pv 1))))), ?_⟩
 refine zI fun N hN => ?_
 simp! []
 refine ⟨us.length, .inl ⟨_, SqL.of hsa, rfl⟩, .inl ⟨by decide, by decide⟩, by omega, by omega, ?_⟩
 refine qR (lo := 0) (n := (2 * (us.length : Int)).toNat) (fun i ys σ H' => Same H H' /\ (∃ qs : List Addr, ys = qs.map V.ref /\ qs.length = i /\ (∀ q ∈ qs, H q = none) /\ BoP rows H' qs 0) /\ ∃ o, σ = [o]) ⟨Same.refl _, ⟨[], rfl, rfl, (fun q z => by cases z), fun q z => by cases z⟩, _, rfl⟩ (zM (by omega)) (fun i ys σ H' e => ?_) (fun i ys σ H' C hi e hC => ?_) (fun ys σ H' e p hp => hN _ _ ?_)
 · obtain ⟨_, ⟨qs, rfl, hl, _⟩, _⟩ := e
   rw [List.length_map]
   omega
 · obtain ⟨es, ⟨qs, rfl, hl, hfr, hbo⟩, o, rfl⟩ := e
   simp! []
   refine ⟨zM (by simp), fun q0 hq0 => hC _ _ _ ⟨es.trans (zD hq0 _), ⟨qs ++ [q0], by rw [List.map_append]; rfl, by simp [hl], fun q hq => ?_, fun q hq => ?_⟩, _, rfl⟩⟩
   · rcases List.mem_append.mp hq with hq | hq
     · exact hfr q hq
     · rw [List.mem_singleton.mp hq]; exact es.free hq0
   · rcases List.mem_append.mp hq with hq | hq
     · exact BoP.same (zD hq0 _) hbo q hq
     · rw [List.mem_singleton.mp hq]
       exact ⟨[], zB, Nat.le_refl _, fun v z => by cases z⟩
 obtain ⟨es, ⟨qs, rfl, hl, hfr, hbo⟩, o, rfl⟩ := e
 clear hN
 have s1 := zD hp (.lst (qs.map V.ref))
 have k1 : upd H' p (.lst (qs.map V.ref)) p = some (.lst (qs.map V.ref)) := zB
 have hp0 := es.free hp
 have hpq : p ∉ qs := fun z => by
   obtain ⟨_, h1, _⟩ := hbo p z
   rw [hp] at h1
   cases h1
 replace hbo := hbo.same s1
 replace es := es.trans s1
 generalize upd H' p (.lst (qs.map V.ref)) = H1 at k1 hbo es ⊢
 have hql : qs.length = 2 * rows.length := by omega
 clear s1 hp hl
 refine zW (fun σ H' => ∃ (o1 o2 : Option V) (n : Nat), Same H H' /\ H' p = some (.lst (qs.map V.ref)) /\ BoP rows H' qs n /\ BoC rows H' qs rows.length /\ σ = [some (V.ref sa), some (V.ref p), o1, o2]) (fun N hN => ?_) (fun σ H' h => ?_)
 · simp! [uE]
   refine ⟨_, es _ _ hsa, ?_⟩
   refine uO (xs := us) (fun k σ H' => ∃ (o1 o2 : Option V), Same H H' /\ H' p = some (.lst (qs.map V.ref)) /\ BoP rows H' qs (2 * k) /\ BoC rows H' qs k /\ σ = [some (V.ref sa), some (V.ref p), o1, o2]) ⟨_, _, es, k1, hbo, (fun m a b hm => by omega), rfl⟩ (fun k σ H' h => ?_) (fun k x σ H' pe hx h hpe => ?_) (fun σ H' h => ?_)
   · obtain ⟨_, _, h, _⟩ := h
     exact h _ _ hsa
   · obtain ⟨o1, o2, s2, k2, hb2, hc2, rfl⟩ := h
     have hk : k < rows.length := by rw [← hul]; exact (List.getElem?_eq_some_iff.mp hx).1
     obtain ⟨r, hr1, hr2⟩ := yZ hrw hx
     obtain ⟨xa, x', vs, rfl, hxa, hcase⟩ := RwAt.out hr2
     have s3 := zD hpe (.tup [.int k, .ref xa])
     have kp : upd H' pe (.tup [.int k, .ref xa]) pe = some (.tup [.int k, .ref xa]) := zB
     generalize upd H' pe (.tup [.int k, .ref xa]) = H2 at s3 kp ⊢
     replace s2 := s2.trans s3
     replace k2 := s3 _ _ k2
     replace hb2 := hb2.same s3
     replace hc2 := hc2.same s3
     replace hxa := s2 _ _ hxa
     clear s3 hpe
     have more : ∀ {a b : Nat}, a <= b -> BoP rows H2 qs a -> BoP rows H2 qs b := fun hab h q hq => by
       obtain ⟨us, h1, h2, h3⟩ := h q hq
       exact ⟨us, h1, by omega, h3⟩
     simp! [qG, jE, gNil]
     refine ⟨[.int k, .ref xa], SqT.of kp, rfl, .int k, [.ref xa], rfl, .ref xa, [], rfl, rfl, xa, rfl, _, SqT.of hxa, _, at0, rfl, ?_⟩
     cases r with
     | no =>
       obtain ⟨rfl, rfl⟩ := hcase
       rw [if_neg (by intro z; exact absurd (V.str.inj z) (by decide +kernel))]
       exact ⟨s2, k2, more (by omega) hb2, hc2.succ (fun a b z => by rw [hr1] at z; cases z), _, rfl⟩
     | nm y =>
       obtain ⟨rfl, rfl⟩ := hcase
       rw [if_neg (by intro z; exact absurd (V.str.inj z) (by decide +kernel))]
       exact ⟨s2, k2, more (by omega) hb2, hc2.succ (fun a b z => by rw [hr1] at z; cases z), _, rfl⟩
     | bo i j =>
       obtain ⟨rfl, rfl⟩ := hcase
       rw [if_pos rfl]
       obtain ⟨⟨b1, b2⟩, b3, b4⟩ := hin k i j hr1
       have hgx : ∀ (x : Int), 0 <= x -> x < 2 * (rows.length : Int) -> ∃ q, q ∈ qs /\ atI (qs.map V.ref) x = some (V.ref q) /\ qs[x.toNat]? = some q := fun x hx0 hx1 => by
         obtain ⟨m, rfl⟩ := Int.eq_ofNat_of_zero_le hx0
         have hm : m < qs.length := by omega
         refine ⟨qs[m], List.getElem_mem hm, ?_⟩
         exact ⟨zU (by rw [List.getElem?_map, List.getElem?_eq_getElem hm]; rfl), by rw [Int.toNat_natCast]; exact List.getElem?_eq_getElem hm⟩
       obtain ⟨q1, hq1, ha1, hx1⟩ := hgx i b1 (by omega)
       obtain ⟨q2, hq2, ha2, hx2⟩ := hgx j b3 (by omega)
       obtain ⟨us1, hu1, hl1, ht1⟩ := hb2 q1 hq1
       refine ⟨_, rfl, _, SqT.of hxa, _, at1, _, _, rfl, SqL.of k2, _, ha1, .inl ⟨rfl, _, SqL.of hu1⟩, _, rfl, .inl ⟨by decide, by decide⟩, _, rfl, _, SqT.of hxa, _, at1, _, rfl, _, SqT.of hxa, _, rfl, zM (by decide), fun t1 ht => ?_⟩
       have s3 := zD ht (.tup [.int (2 * (k : Int)), .int i, .int j])
       have tr : Tri rows (upd H2 t1 (.tup [.int (2 * (k : Int)), .int i, .int j])) (.ref t1) := ⟨t1, k, i, j, rfl, zB, hr1⟩
       have kt1 : upd H2 t1 (.tup [.int (2 * (k : Int)), .int i, .int j]) t1 = some (.tup [.int (2 * (k : Int)), .int i, .int j]) := zB
       generalize upd H2 t1 (.tup [.int (2 * (k : Int)), .int i, .int j]) = H3 at s3 tr kt1 ⊢
       replace k2 := s3 _ _ k2
       replace hxa := s3 _ _ hxa
       replace hu1 := s3 _ _ hu1
       replace ht1 : ∀ v ∈ us1, Tri rows H3 v := fun v hv => (ht1 v hv).tups s3.tups
       replace hb2 := (hb2.same s3).put hu1 hl1 ht1 tr
       replace hc2 := (hc2.same s3).upd (v := .ref t1) hu1
       have in1 : InB (upd H3 q1 (.lst (us1 ++ [V.ref t1]))) q1 k i j := ⟨_, t1, zB, by simp, (TupSame.refl H3).upd_lst hu1 _ _ kt1⟩
       refine ⟨q1, rfl, us1, hu1, xO (by omega), ?_⟩
       replace s2 := (s2.trans s3).upd (o := .lst (us1 ++ [V.ref t1])) (hfr q1 hq1)
       have n1 : xa ≠ q1 := fun z => by rw [z, hu1] at hxa; cases hxa
       have n2 : p ≠ q1 := fun z => hpq (z ▸ hq1)
       replace hxa : upd H3 q1 (.lst (us1 ++ [V.ref t1])) xa = _ := (zG n1).trans hxa
       replace k2 : upd H3 q1 (.lst (us1 ++ [V.ref t1])) p = _ := (zG n2).trans k2
       clear kt1 hu1 hl1 ht1 tr s3 ht more
       generalize upd H3 q1 (.lst (us1 ++ [V.ref t1])) = H4 at s2 hxa k2 hb2 hc2 in1 ⊢
       obtain ⟨us2, hu2, hl2, ht2⟩ := hb2 q2 hq2
       refine ⟨_, rfl, _, SqT.of hxa, _, rfl, _, _, rfl, SqL.of k2, _, ha2, .inl ⟨rfl, _, SqL.of hu2⟩, _, rfl, .inl ⟨by decide, by decide⟩, _, rfl, _, SqT.of hxa, _, at1, _, rfl, _, SqT.of hxa, _, rfl, zM (by decide), fun t1 ht => ?_⟩
       have s3 := zD ht (.tup [.int (2 * (k : Int)), .int i, .int j])
       have tr : Tri rows (upd H4 t1 (.tup [.int (2 * (k : Int)), .int i, .int j])) (.ref t1) := ⟨t1, k, i, j, rfl, zB, hr1⟩
       have kt1 : upd H4 t1 (.tup [.int (2 * (k : Int)), .int i, .int j]) t1 = some (.tup [.int (2 * (k : Int)), .int i, .int j]) := zB
       generalize upd H4 t1 (.tup [.int (2 * (k : Int)), .int i, .int j]) = H5 at s3 tr kt1 ⊢
       replace k2 := s3 _ _ k2
       replace hu2 := s3 _ _ hu2
       replace ht2 : ∀ v ∈ us2, Tri rows H5 v := fun v hv => (ht2 v hv).tups s3.tups
       replace hb2 := (hb2.same s3).put hu2 hl2 ht2 tr
       replace hc2 := (hc2.same s3).upd (v := .ref t1) hu2
       replace in1 := (in1.same s3).upd (v := .ref t1) hu2
       have in2 : InB (upd H5 q2 (.lst (us2 ++ [V.ref t1]))) q2 k i j := ⟨_, t1, zB, by simp, (TupSame.refl H5).upd_lst hu2 _ _ kt1⟩
       have n2 : p ≠ q2 := fun z => hpq (z ▸ hq2)
       refine ⟨q2, rfl, us2, hu2, xO (by omega), (s2.trans s3).upd (hfr q2 hq2), (zG n2).trans k2, hb2, hc2.succ (fun a b z x q' hx hq' => ?_), _, rfl⟩
       rw [hr1] at z
       cases z
       rcases hx with hx | hx
       · rw [← hx, Int.toNat_natCast, hq'] at hx1
         cases hx1
         exact in1
       · rw [← hx, Int.toNat_natCast, hq'] at hx2
         cases hx2
         exact in2
   · obtain ⟨o1, o2, s2, k2, hb2, hc2, rfl⟩ := h
     rw [hul] at hc2
     exact hN _ _ ⟨_, _, _, s2, k2, hb2, hc2, rfl⟩
 obtain ⟨o1, o2, n, s2, k2, hb2, hc2, rfl⟩ := h
 simp! []
 exact q p qs n _ s2 hp0 hfr k2 hql hb2 hc2
theorem qA (bi : Bi mg) (be : mg "enumerate" = none) (F : Fun K "rules_by_premise" "rules_by_premise" s_d f fd) : FnOk P w K mg base CX0 1 f fd ["rules"] spWa := by
 refine F.ok sc_d (fun vs H Q E h => ?_) (fun cdv A outer s H vs Q E hr h => ?_)
 · obtain ⟨ra, us, rules, rfl, _⟩ := h
   rfl
 obtain ⟨ra, us, rules, rfl, hra, hru, h100, hpr, q⟩ := h
 have hul := jH hru
 refine ⟨_, (zC (zO (i := 1) sc_d.nd rfl (Or.inl rfl) pe_dnewT) (zC (yK PassesOwn.never rfl (jL rfl be (zA (pv 0) pa_nil)) (jM rfl (zX (zJ (i := 2) sc_d.nd rfl (Or.inl rfl)) (zX (zJ (i := 3) sc_d.nd rfl (Or.inl rfl)) pgs_nil))) (zF (yK PassesOwn.never rfl (yI (zN ix_tup (pv 3) zE (fun _ _ => rfl))) (zJ (i := 4) sc_d.nd rfl (Or.inl rfl)) (zF (zV (xQ PySem.F.plainAttrs_list PySem.F.slot_list_append PySem.F.type_list_append mt_append (pe_sdef (jC hr) (pv 1) (pv 4) (yX pa_nil) ⟨rfl, rfl, rfl, rfl⟩) (zA (pv 2) pa_nil))))))) (zF (zZ (pv 1))))), ?_⟩
 refine zI fun N hN => ?_
 simp! [tDNewT]
 refine fun p hp => hN _ _ ?_
 clear hN
 have s1 := zD hp (.dT [])
 have k1 : upd H p (.dT []) p = some (.dT []) := zB
 generalize upd H p (.dT []) = H1 at s1 k1 ⊢
 have sz : ∀ {n : Nat}, n <= 40000 -> n < sizeLine := fun h => Nat.lt_of_le_of_lt (m := 100000) (by omega) (by decide)
 refine zW (fun σ H' => ∃ (o1 o2 o3 : Option V) (kvs : List (List Key × V)) (n : Nat), Same H H' /\ H' p = some (.dT kvs) /\ WaP rules.length H H' kvs n /\ WaC rules H' kvs rules.length 0 /\ σ = [some (V.ref ra), some (V.ref p), o1, o2, o3]) (fun N hN => ?_) (fun σ H' h => ?_)
 · simp! [uE]
   refine ⟨_, s1 _ _ hra, ?_⟩
   refine uO (xs := us) (fun k σ H' => ∃ (o1 o2 o3 : Option V) (kvs : List (List Key × V)), Same H H' /\ H' p = some (.dT kvs) /\ kvs.length <= 100 * k /\ WaP rules.length H H' kvs (100 * k) /\ WaC rules H' kvs k 0 /\ σ = [some (V.ref ra), some (V.ref p), o1, o2, o3]) ⟨_, _, _, _, s1, k1, Nat.le_refl _, (fun kv z => by cases z), (fun r q x pr _ _ hz => by omega), rfl⟩ (fun k σ H' h => ?_) (fun k x σ H' pe hx h hpe => ?_) (fun σ H' h => ?_)
   · obtain ⟨_, _, _, _, h, _⟩ := h
     exact h _ _ hra
   · obtain ⟨o1, o2, o3, kvs, s2, k2, hkl, hw2, hc2, rfl⟩ := h
     have hk : k < rules.length := by rw [← hul]; exact (List.getElem?_eq_some_iff.mp hx).1
     obtain ⟨r, hr1, hr2⟩ := yZ hru hx
     have hrl := hpr r (List.mem_of_getElem? hr1)
     obtain ⟨xa, xl, xb, ps, rfl, hxa, hxl, hps, hxb⟩ := nrAt hr2
     have hpl := jH hps
     have s3 := zD hpe (.tup [.int k, .ref xa])
     have kp : upd H' pe (.tup [.int k, .ref xa]) pe = some (.tup [.int k, .ref xa]) := zB
     generalize upd H' pe (.tup [.int k, .ref xa]) = H2 at s3 kp ⊢
     replace s2 := s2.trans s3
     replace k2 := s3 _ _ k2
     replace hw2 := hw2.same s3
     replace hc2 : WaC rules H2 kvs k 0 := fun r q x pr h1 h2 h3 => (hc2 r q x pr h1 h2 h3).same s3
     replace hxa := s2 _ _ hxa
     clear s3 hpe
     simp! [qG, jE, gNil]
     refine ⟨[.int k, .ref xa], SqT.of kp, rfl, .int k, [.ref xa], rfl, .ref xa, [], rfl, rfl, ?_⟩
     have hxl2 := s2 _ _ hxl
     refine ⟨_, rfl, _, SqT.of hxa, _, at0, _, rfl, ⟨_, SqL.of hxl2⟩, ?_⟩
     refine xG (xs := ps) (fun m σ H' => ∃ (o : Option V) (kvs : List (List Key × V)), Same H H' /\ H' p = some (.dT kvs) /\ kvs.length <= 100 * k + m /\ WaP rules.length H H' kvs (100 * k + m) /\ WaC rules H' kvs k m /\ σ = [some (V.ref ra), some (V.ref p), some (V.int k), some (V.ref xa), o]) ⟨_, _, s2, k2, hkl, hw2, hc2, rfl⟩ (fun m σ H' _ h => ?_) (fun m x σ H' hm h => ?_) (fun σ H' h => ?_)
     · obtain ⟨_, _, h, _⟩ := h
       exact SqL.of (h _ _ hxl)
     · obtain ⟨o, kvs, s4, k4, hl4, hw4, hc4, rfl⟩ := h
       have hmp : m < ps.length := (List.getElem?_eq_some_iff.mp hm).1
       obtain ⟨pr, hpm, hpx⟩ := yZ hps hm
       obtain ⟨xp, _, rfl, hxp, _, _, rfl, hv1, _, _, rfl, hv2, hv3⟩ := hpx
       cases hv1
       cases hv2
       cases hv3
       replace hxp := s4 _ _ hxp
       simp! [tSDef, tBM]
       refine ⟨.inr ⟨_, .inl k4⟩, Nat.zero_le _, fun p1 hp1 => ?_⟩
       have n1 : p ≠ p1 := fun z => by rw [z, hp1] at k4; cases k4
       have n2 : xp ≠ p1 := fun z => by rw [z, hp1] at hxp; cases hxp
       have s5 := zD hp1 (.lst [])
       refine ⟨kvs, s5 _ _ k4, [.inl pr.1, .inl pr.2], s5 _ _ hxp, sz (by omega), fun v hv => ?_, fun hv => ?_⟩
       · obtain ⟨kv, hkv, rfl⟩ := valV_mem hv
         obtain ⟨q', ns', h1, h2, h3, h4, h5⟩ := hw4 kv hkv
         have n3 : p ≠ q' := fun z => by rw [z, h2] at k4; cases k4
         rw [h1]
         refine ⟨.inl ⟨rfl, _, SqL.of (s5 _ _ h2)⟩, q', rfl, _, s5 _ _ h2, sz (by rw [List.length_map]; omega), (s4.trans s5).upd h3, _, kvs, (zG n3).trans (s5 _ _ k4), by omega, WaP.upd (hw4.same s5) h4 h5 hk h3, ?_, rfl⟩
         intro r' q0 x pr' g1 g2 g3
         by_cases g4 : r' < k \/ r' = k /\ x < m
         · exact ((hc4 r' q0 x pr' g1 g2 g4).same s5).upd (s5 _ _ h2)
         · obtain ⟨rfl, rfl⟩ : r' = k /\ x = m := by omega
           rw [hr1] at g1
           cases g1
           rw [hpm] at g2
           cases g2
           exact ⟨q', ns' ++ [r'], by rw [← h1]; exact hv, by rw [zB, List.map_append]; rfl, by simp⟩
       · have e1 : upd (upd H' p1 (.lst [])) p (.dT (xT kvs [.inl pr.1, .inl pr.2] (V.ref p1))) p1 = some (.lst []) := (zG n1.symm).trans zB
         refine ⟨.inl ⟨rfl, _, SqL.of e1⟩, [], e1, sz (by simp), ((s4.trans s5).upd hp).upd (s4.free hp1), _, _, (zG n1).trans zB, ?_, ?_, ?_, rfl⟩
         · rw [qN hv, List.length_append, List.length_singleton]; omega
         · refine WaP.upd (ns := []) (n := 100 * k + m) (fun kv hkv => ?_) (Nat.zero_le _) (fun x z => by cases z) hk (s4.free hp1)
           rw [qN hv] at hkv
           rcases List.mem_append.mp hkv with hkv | hkv
           · obtain ⟨q', ns', h1, h2, h3, h4, h5⟩ := hw4 kv hkv
             have n3 : q' ≠ p := fun z => by rw [← z, h2] at k4; cases k4
             exact ⟨q', ns', h1, (zG n3).trans (s5 _ _ h2), h3, h4, h5⟩
           · rw [List.mem_singleton.mp hkv]
             exact ⟨p1, [], rfl, e1, s4.free hp1, Nat.zero_le _, fun x z => by cases z⟩
         · intro r' q0 x pr' g1 g2 g3
           by_cases g4 : r' < k \/ r' = k /\ x < m
           · have w := (((hc4 r' q0 x pr' g1 g2 g4).same s5).dic (s5 _ _ k4) (o := .dT (xT kvs [.inl pr.1, .inl pr.2] (V.ref p1)))).upd (ns1 := []) (x := k) e1
             rw [qN hv] at w ⊢
             exact w.app
           · obtain ⟨rfl, rfl⟩ : r' = k /\ x = m := by omega
             rw [hr1] at g1
             cases g1
             rw [hpm] at g2
             cases g2
             exact ⟨p1, [r'], by rw [qN hv]; exact valV_new hv, by rw [zB]; rfl, by simp⟩
     · obtain ⟨o, kvs, s4, k4, hl4, hw4, hc4, rfl⟩ := h
       refine ⟨s4, _, _, _, _, k4, by omega, fun kv hkv => ?_, fun r' q0 x pr' g1 g2 g3 => hc4 r' q0 x pr' g1 g2 ?_, rfl⟩
       rotate_left
       · rcases Nat.lt_or_eq_of_le (show r' <= k by omega) with z | z
         · exact .inl z
         · refine .inr ⟨z, ?_⟩
           rw [z, hr1] at g1
           cases g1
           rw [hpl]
           exact (List.getElem?_eq_some_iff.mp g2).1
       obtain ⟨q', ns', h1, h2, h3, h4, h5⟩ := hw4 kv hkv
       exact ⟨q', ns', h1, h2, h3, by omega, h5⟩
   · obtain ⟨o1, o2, o3, kvs, s2, k2, _, hw2, hc2, rfl⟩ := h
     rw [hul] at hc2
     exact hN _ _ ⟨_, _, _, _, _, s2, k2, hw2, hc2, rfl⟩
 obtain ⟨o1, o2, o3, kvs, n, s2, k2, hw2, hc2, rfl⟩ := h
 simp! []
 exact q p kvs n _ s2 hp k2 hw2 hc2
end
abbrev s_m : Stmt := top 15
theorem sc_m : FnScope ["growth", "i", "j"] ["growth", "i", "j"] (zH s_m) := ⟨rfl, rfl, rfl, by decide +kernel, rfl, by decide +kernel, by decide +kernel⟩
abbrev s_f : Stmt := top 16
theorem sc_f : FnScope ["growth", "i", "j", "line", "m", "h"] ["growth", "i", "j"] (zH s_f) := ⟨rfl, rfl, rfl, by decide +kernel, rfl, by decide +kernel, by decide +kernel⟩
abbrev s_k : Stmt := top 17
theorem sc_k : FnScope ["growth", "i", "boths", "n", "a", "b"] ["growth", "i", "boths"] (zH s_k) := ⟨rfl, rfl, rfl, by decide +kernel, rfl, by decide +kernel, by decide +kernel⟩
abbrev s_i : Stmt := top 18
theorem sc_i : FnScope ["growth", "i", "j", "n"] ["growth", "i", "j"] (zH s_i) := ⟨rfl, rfl, rfl, by decide +kernel, rfl, by decide +kernel, by decide +kernel⟩
theorem jJ {ls : List Ln} {p : Nat} {l : Ln} (h : ls[p]? = some l) : xX ls ls.length (.n (p : Int)) = some (l.i, l.j) := by
 have hp := (List.getElem?_eq_some_iff.mp h).1
 show (if 0 <= (p : Int) /\ (p : Int) < (ls.length : Int) then (ls[(p : Int).toNat]?).map fun l => (l.i, l.j) else none) = _
 rw [if_pos ⟨by omega, by omega⟩, Int.toNat_natCast, h]
 rfl
theorem wS {rows : List Rw} {rules : List yE} {ls : List Ln} {i j : Nat} {x : Str} {as : List Wt} {prs : List Pr} (hi : i < 2 * rows.length) (hj : j < 2 * rows.length) (hx : x ≠ "rule") (hn : named x = some (as.length : Int)) (hs : as.map (xX ls ls.length) = prs.map some) (h : yT rows i j x prs = true) : xJ rows rules ls ls.length ⟨i, j, x, as⟩ = true := by
 have a1 : (as.all fun a => (xX ls ls.length a).isSome) = true := by
   have : (as.map (xX ls ls.length)).all (fun o => o.isSome) = true := by rw [hs]; simp
   rw [List.all_map] at this
   exact this
 have a2 : as.filterMap (xX ls ls.length) = prs := by
   have : (as.map (xX ls ls.length)).filterMap id = prs := by rw [hs]; simp [List.filterMap_map]
   rw [List.filterMap_map] at this
   exact this
 unfold xJ
 rw [if_neg (by
   intro z
   rcases z with z | z
   · exact z ⟨by show (0 : Int) <= (i : Int); omega, by show (i : Int) < _; omega⟩
   · exact z ⟨by show (0 : Int) <= (j : Int); omega, by show (j : Int) < _; omega⟩), if_neg hx, if_pos ⟨hn, a1⟩, a2]
 exact h
theorem GOk.rng {rows : List Rw} {rules : List yE} {ls : List Ln} (h : GOk rows rules ls) {i j : Nat} (hh : zQ ls i j = true) : i < 2 * rows.length /\ j < 2 * rows.length := by
 obtain ⟨p, l, hl, h1, h2⟩ := hasP_iff.mp hh
 have := qJ (h.snd p l hl)
 omega
def tnN (n : Nat) : Nat := n + 1 - 2 * (n % 2)
theorem qC (n : Nat) : tn1 (n : Int) = ((tnN n : Nat) : Int) := by
 unfold tn1 tnN
 omega
theorem uH (n : Nat) : tnN (tnN n) = n := by
 unfold tnN
 omega
theorem tnN_lt {n m : Nat} (h : n < 2 * m) : tnN n < 2 * m := by
 unfold tnN
 omega
theorem zR {ls t : List Ln} {i j : Int} (h : zQ ls i j = true) : zQ (ls ++ t) i j = true := by
 rw [jV, h, Bool.true_or]
theorem ow_n {as : List Wt} (h : as.length <= 3) (hn : ∀ ps, Wt.ps ps ∈ as -> False) : OW as := ⟨h, fun ps z => (hn ps z).elim⟩
theorem st_turn {rows : List Rw} {rules : List yE} {ls : List Ln} {i j p : Nat} {l : Ln} (hi : i < 2 * rows.length) (hj : j < 2 * rows.length) (hl : ls[p]? = some l) (h1 : l.i = i) (h2 : l.j = j) : xJ rows rules ls ls.length ⟨(tnN j : Nat), (tnN i : Nat), "turn", [.n p]⟩ = true := by
 refine wS (prs := [((i : Int), (j : Int))]) (tnN_lt hj) (tnN_lt hi) (by decide) rfl ?_ ?_
 · show [xX ls ls.length (.n (p : Int))] = _
   rw [jJ hl, h1, h2]
   rfl
 · unfold yT
   rw [if_neg (by decide), if_neg (by decide), if_neg (by decide), if_neg (by decide), if_pos rfl, qC, qC, uH, uH]
   exact beq_self_eq_true _
theorem st_clash {rows : List Rw} {rules : List yE} {ls : List Ln} {i j n p : Nat} {l : Ln} (hi : i < 2 * rows.length) (hn : n < 2 * rows.length) (hj : (j : Int) = tn1 i) (hl : ls[p]? = some l) (h1 : l.i = i) (h2 : l.j = j) : xJ rows rules ls ls.length ⟨i, n, "clash", [.n p]⟩ = true := by
 refine wS (prs := [((i : Int), (j : Int))]) hi hn (by decide) rfl ?_ ?_
 · show [xX ls ls.length (.n (p : Int))] = _
   rw [jJ hl, h1, h2]
   rfl
 · unfold yT
   rw [if_neg (by decide), if_neg (by decide), if_neg (by decide), if_neg (by decide), if_neg (by decide), if_neg (by decide), hj]
   exact beq_self_eq_true _
theorem st_chain {rows : List Rw} {rules : List yE} {ls : List Ln} {i j m p p' : Nat} {l l' : Ln} (hi : i < 2 * rows.length) (hm : m < 2 * rows.length) (hl : ls[p]? = some l) (h1 : l.i = i) (h2 : l.j = j) (hl' : ls[p']? = some l') (h1' : l'.i = j) (h2' : l'.j = m) : xJ rows rules ls ls.length ⟨i, m, "chain", [.n p, .n p']⟩ = true := by
 refine wS (prs := [((i : Int), (j : Int)), ((j : Int), (m : Int))]) hi hm (by decide) rfl ?_ ?_
 · show [xX ls ls.length (.n (p : Int)), xX ls ls.length (.n (p' : Int))] = _
   rw [jJ hl, h1, h2, jJ hl', h1', h2']
   rfl
 · unfold yT
   rw [if_neg (by decide), if_neg (by decide), if_neg (by decide), if_neg (by decide), if_neg (by decide), if_pos rfl]
   simp
theorem st_both {rows : List Rw} {rules : List yE} {ls : List Ln} {i n p p' : Nat} {a b : Int} {l l' : Ln} (hi : i < 2 * rows.length) (hn : n < 2 * rows.length) (hpt : uW rows (n : Int) = [a, b]) (hl : ls[p]? = some l) (h1 : l.i = i) (h2 : l.j = a) (hl' : ls[p']? = some l') (h1' : l'.i = i) (h2' : l'.j = b) : xJ rows rules ls ls.length ⟨i, n, "both", [.n p, .n p']⟩ = true := by
 refine wS (prs := [((i : Int), a), ((i : Int), b)]) hi hn (by decide) rfl ?_ ?_
 · show [xX ls ls.length (.n (p : Int)), xX ls ls.length (.n (p' : Int))] = _
   rw [jJ hl, h1, h2, jJ hl', h1', h2']
   rfl
 · unfold yT
   rw [if_neg (by decide), if_neg (by decide), if_neg (by decide), if_pos rfl, hpt]
   exact beq_self_eq_true _
theorem ow_one {p : Nat} : OW [.n p] := ow_n (by simp) (fun ps z => by simp at z)
theorem ow_two {p q : Nat} : OW [.n p, .n q] := ow_n (by simp) (fun ps z => by simp at z)
theorem why_one {H : Hp} {p : Addr} {x : Str} {n : Nat} : DAt (upd H p (.tup [.str x, .int n])) (vR x [.n n]) (.ref p) := ⟨p, _, rfl, zB, _, _, rfl, rfl, _, _, rfl, rfl, rfl⟩
theorem wQ {H : Hp} {p : Addr} {x : Str} {n m : Nat} : DAt (upd H p (.tup [.str x, .int n, .int m])) (vR x [.n n, .n m]) (.ref p) := ⟨p, _, rfl, zB, _, _, rfl, rfl, _, _, rfl, rfl, _, _, rfl, rfl, rfl⟩
theorem sub_mask : ∀ (n a b : Nat), a <= n -> ∃ d, a = (a &&& b) + d /\ ∀ x, d.testBit x = (a.testBit x && !b.testBit x)
 | 0, a, b, h => by
   have e : a = 0 := by omega
   subst e
   exact ⟨0, by simp, fun x => by simp⟩
 | n + 1, a, b, h => by
   obtain ⟨d, h1, h2⟩ := sub_mask n (a / 2) (b / 2) (by omega)
   have e1 : (a &&& b) / 2 = a / 2 &&& b / 2 := Nat.eq_of_testBit_eq fun i => by
     rw [Nat.testBit_div_two, Nat.testBit_and, Nat.testBit_and, Nat.testBit_div_two, Nat.testBit_div_two]
   have e2 : decide ((a &&& b) % 2 = 1) = (decide (a % 2 = 1) && decide (b % 2 = 1)) := by
     rw [← Nat.testBit_zero, ← Nat.testBit_zero, ← Nat.testBit_zero, Nat.testBit_and]
   rw [← e1] at h1
   refine ⟨2 * d + (if a % 2 = 1 /\ ¬ b % 2 = 1 then 1 else 0), ?_, fun x => ?_⟩
   · have e3 : (a &&& b) % 2 = 1 ↔ (a % 2 = 1 /\ b % 2 = 1) := by
       rw [Bool.eq_iff_iff, decide_eq_true_eq, Bool.and_eq_true, decide_eq_true_eq, decide_eq_true_eq] at e2
       exact e2
     clear e1 e2 h2
     generalize a &&& b = c at h1 e3 ⊢
     split <;> omega
   · cases x with
     | zero =>
       rw [Nat.testBit_zero, Nat.testBit_zero, Nat.testBit_zero]
       by_cases ha : a % 2 = 1 <;> by_cases hb : b % 2 = 1 <;> simp [ha, hb] <;> omega
     | succ x =>
       have ed : (2 * d + (if a % 2 = 1 /\ ¬ b % 2 = 1 then 1 else 0)) / 2 = d := by split <;> omega
       rw [← Nat.testBit_div_two, ed, h2, Nat.testBit_div_two, Nat.testBit_div_two]
theorem wE {a b : Nat} (h : ∀ x, a.testBit x = true -> x < 300) : ∃ (m : Nat) (xs : List Nat), Builtin.bitAnd (a : Int) (Builtin.bitNot (b : Int)) = (m : Int) /\ Bits m xs /\ (∀ x ∈ xs, x < 300 /\ a.testBit x = true) /\ ∀ x, a.testBit x = true -> x ∈ xs \/ b.testBit x = true := by
 obtain ⟨d, h1, h2⟩ := sub_mask a a b (Nat.le_refl _)
 have hd : ∀ x, d.testBit x = true -> a.testBit x = true := fun x hx => by
   rw [h2, Bool.and_eq_true] at hx
   exact hx.1
 refine ⟨d, (List.range 300).filter fun x => d.testBit x, ?_, ⟨List.Pairwise.filter _ List.pairwise_lt_range, fun i => ?_⟩, fun x hx => ?_, fun x hx => ?_⟩
 · unfold Builtin.bitAnd
   rw [not_not, decide_eq_true (show (0 : Int) <= (a : Int) by omega), decide_eq_false (show ¬ (0 : Int) <= Builtin.bitNot (b : Int) by unfold Builtin.bitNot; omega)]
   show (a : Int) - (((a : Int).toNat &&& (b : Int).toNat : Nat) : Int) = _
   rw [Int.toNat_natCast, Int.toNat_natCast]
   omega
 · rw [Bool.eq_iff_iff, decide_eq_true_eq, List.mem_filter, List.mem_range]
   exact ⟨fun z => ⟨h _ (hd _ z), z⟩, fun z => z.2⟩
 · obtain ⟨h3, h4⟩ := List.mem_filter.mp hx
   exact ⟨List.mem_range.mp h3, hd _ h4⟩
 · cases hb : b.testBit x with
   | true => exact .inr rfl
   | false =>
     left
     rw [List.mem_filter, List.mem_range]
     exact ⟨h x hx, by rw [h2, hx, hb]; rfl⟩
theorem GrAt.out {C : Addr} {H : Hp} {g : GAd} {rows : List Rw} {rules : List yE} {ls : List Ln} (h : GrAt C H g rows rules ls) {p : Addr} (hp : H p = none) : vU g p := by
 obtain ⟨ws, h2, _⟩ := h.lin
 obtain ⟨as, h5, _⟩ := h.abv
 obtain ⟨bs, h7, _⟩ := h.blw
 have go : ∀ {a : Addr} {o : HO}, H a = some o -> p ≠ a := fun ha z => by rw [z, ha] at hp; cases hp
 exact ⟨go h2, go h.plc, go h5, go h7⟩
def RTurn (_rows : List Rw) (_ls L : List Ln) (i j : Nat) : Prop := zQ L ((tnN j : Nat) : Int) ((tnN i : Nat) : Int) = true
def RChain (_rows : List Rw) (ls L : List Ln) (i j : Nat) : Prop := (∀ m : Nat, zQ ls j m = true -> zQ L i m = true) /\ ∀ h : Nat, zQ ls h i = true -> zQ L h j = true
def RClash (rows : List Rw) (_ls L : List Ln) (i j : Nat) : Prop := (j : Int) = tn1 i -> ∀ n : Nat, n < 2 * rows.length -> zQ L i n = true
def RBoth (H : Hp) (us : List V) (ls L : List Ln) (i : Nat) : Prop := ∀ (t : Addr) (m : Nat) (a b : Int), V.ref t ∈ us -> H t = some (.tup [.int (2 * (m : Int)), .int a, .int b]) -> zQ ls i a = true -> zQ ls i b = true -> zQ L i ((2 * m : Nat) : Int) = true
def vY (R : List Rw -> List Ln -> List Ln -> Nat -> Nat -> Prop) (C : Addr) : Sp := fun vs H Q _ => ∃ (g : GAd) (rows : List Rw) (rules : List yE) (ls : List Ln) (i j : Nat), vs = [.ref g.r, .int i, .int j] /\ GrAt C H g rows rules ls /\ rows.length <= 100 /\ zQ ls i j = true /\ ∀ H', GrH C H g rows rules ls (fun L => R rows ls L i j) H' -> Q .non H'
def spGB (C : Addr) : Sp := fun vs H Q _ => ∃ (g : GAd) (rows : List Rw) (rules : List yE) (ls : List Ln) (i : Nat) (q : Addr) (us : List V), vs = [.ref g.r, .int i, .ref q] /\ GrAt C H g rows rules ls /\ rows.length <= 100 /\ i < 2 * rows.length /\ H q = some (.lst us) /\ vU g q /\ (∀ v ∈ us, Tri rows H v) /\ RowsIn rows /\ ∀ H', GrH C H g rows rules ls (fun L => RBoth H us ls L i) H' -> Q .non H'
section
variable {P : Program} {w : World} {K : PySem.W.Frag} {mg : Str -> Option Value} {base : Heap} {f : Addr} {fd : FuncData}
theorem ok_turn {C : Addr} (T : GrC K C) (h_a : HasM P w K mg base 1 C "line_of" ["self", "i", "j"] (spLo C)) (h_e : HasM P w K mg base 2 C "grow" ["self", "i", "j", "why"] (vO C)) (F : Fun K "grow_by_turn" "grow_by_turn" s_m f fd) : FnOk P w K mg base CX0 3 f fd ["growth", "i", "j"] (vY RTurn C) := by
 refine F.ok sc_m (fun vs H Q E h => ?_) (fun cdv A outer s H vs Q E hr h => ?_)
 · obtain ⟨g, rows, rules, ls, i, j, rfl, _⟩ := h
   rfl
 obtain ⟨g, rows, rules, ls, i, j, rfl, hg, h100, hh, q⟩ := h
 have cl_Growth := T.cl
 have lk : (grF g).lookup ("grow" : Str) = none := jD g (by decide +kernel) (by decide +kernel) (by decide +kernel) (by decide +kernel)
 have lk2 : (grF g).lookup ("line_of" : Str) = none := jD g (by decide +kernel) (by decide +kernel) (by decide +kernel) (by decide +kernel)
 obtain ⟨dx, hins⟩ := hg.ins
 refine ⟨_, (zF (zV (yC h_e cl_Growth (hr.mono (by omega)) (pv 0) (zA (zL op_xor (pv 2) zE) (zA (zL op_xor (pv 1) zE) (zA (yA (zA yL (zA (yC h_a cl_Growth (hr.mono (by omega)) (pv 0) (zA (pv 1) (zA (pv 2) pa_nil))) pa_nil))) pa_nil)))))), ?_⟩
 simp! [xI]
 obtain ⟨hi, hj⟩ := hg.ok.rng hh
 refine ⟨_, _, hins, lk, _, _, hins, lk2, g, rows, rules, ls, i, j, rfl, hg, hh, fun p l H1 s1 hl h1 h2 => ⟨zM (by decide), fun p1 hp1 => ?_⟩⟩
 rw [xor1, xor1, qC, qC]
 exact qF (t := []) (Same.g s1) (by rw [List.append_nil]; exact hg.same s1) h100 (zD hp1 _) why_one (by rw [List.append_nil]; exact st_turn hi hj hl h1 h2) ow_one (fun L e h => h) fun _ H3 g3 => q _ g3
theorem ok_chain {C : Addr} (T : GrC K C) (bi : Bi mg) (h_C : Has P w K mg base 1 "bits_of" ["mask"] spBits) (h_a : HasM P w K mg base 1 C "line_of" ["self", "i", "j"] (spLo C)) (h_e : HasM P w K mg base 2 C "grow" ["self", "i", "j", "why"] (vO C)) (F : Fun K "grow_by_chain" "grow_by_chain" s_f f fd) : FnOk P w K mg base CX0 3 f fd ["growth", "i", "j"] (vY RChain C) := by
 refine F.ok sc_f (fun vs H Q E h => ?_) (fun cdv A outer s H vs Q E hr h => ?_)
 · obtain ⟨g, rows, rules, ls, i, j, rfl, _⟩ := h
   rfl
 obtain ⟨g, rows, rules, ls, i, j, rfl, hg, h100, hh, q⟩ := h
 have cl_Growth := T.cl
 have lk : (grF g).lookup ("grow" : Str) = none := jD g (by decide +kernel) (by decide +kernel) (by decide +kernel) (by decide +kernel)
 have lk2 : (grF g).lookup ("line_of" : Str) = none := jD g (by decide +kernel) (by decide +kernel) (by decide +kernel) (by decide +kernel)
 obtain ⟨dx, hins⟩ := hg.ins
 refine ⟨_, (zC (zO (i := 3) sc_f.nd rfl (Or.inl rfl) (yC h_a cl_Growth (hr.mono (by omega)) (pv 0) (zA (pv 1) (zA (pv 2) pa_nil)))) (zC (yK PassesOwn.never rfl (yI (zP h_C (hr.mono (by omega)) rfl (zA (zL op_and (zN ix_list (xC (pv 0) rfl) (pv 2) (fun _ _ => rfl)) (pe_un un_inv (zN ix_list (xC (pv 0) rfl) (pv 1) (fun _ _ => rfl)))) pa_nil))) (zJ (i := 4) sc_f.nd rfl (Or.inl rfl)) (zF (zV (yC h_e cl_Growth (hr.mono (by omega)) (pv 0) (zA (pv 1) (zA (pv 4) (zA (yA (zA yL (zA (pv 3) (zA (yC h_a cl_Growth (hr.mono (by omega)) (pv 0) (zA (pv 2) (zA (pv 4) pa_nil))) pa_nil)))) pa_nil))))))) (zF (yK PassesOwn.never rfl (yI (zP h_C (hr.mono (by omega)) rfl (zA (zL op_and (zN ix_list (xC (pv 0) rfl) (pv 1) (fun _ _ => rfl)) (pe_un un_inv (zN ix_list (xC (pv 0) rfl) (pv 2) (fun _ _ => rfl)))) pa_nil))) (zJ (i := 5) sc_f.nd rfl (Or.inl rfl)) (zF (zV (yC h_e cl_Growth (hr.mono (by omega)) (pv 0) (zA (pv 5) (zA (pv 2) (zA (yA (zA yL (zA (yC h_a cl_Growth (hr.mono (by omega)) (pv 0) (zA (pv 5) (zA (pv 1) pa_nil))) (zA (pv 3) pa_nil)))) pa_nil)))))))))), ?_⟩
 refine zI fun N hN => ?_
 simp! [xI]
 obtain ⟨hi, hj⟩ := hg.ok.rng hh
 refine ⟨_, _, hins, lk2, g, rows, rules, ls, i, j, rfl, hg, hh, fun p l H1 s1 hl h1 h2 => hN _ _ ?_⟩
 clear hN
 refine zW (fun σ H' => ∃ (o1 o2 : Option V), GrH C H g rows rules ls (fun L => ∀ m : Nat, zQ ls j m = true -> zQ L i m = true) H' /\ σ = [some (V.ref g.r), some (V.int i), some (V.int j), some (V.int p), o1, o2]) (fun N hN => ?_) (fun σ H' h => ?_)
 · simp! [xI, qI]
   have hg1 := hg.same s1
   obtain ⟨dx, hins⟩ := hg1.ins
   obtain ⟨as, hab, hmk⟩ := hg1.abv
   have hil : i < as.length := by rw [hmk.len]; exact hi
   have hjl : j < as.length := by rw [hmk.len]; exact hj
   have hbit := hmk.bit j as[j] (List.getElem?_eq_getElem hjl)
   have hbx : ∀ x, as[j].testBit x = true -> x < 2 * rows.length := fun x hx => (hg.ok.rng (i := j) (by rw [← hbit x]; exact hx)).2
   obtain ⟨m, xs, em, hbm, hxs, hxa⟩ := wE (b := as[i]) fun x hx => Nat.lt_of_lt_of_le (hbx x hx) (by omega)
   have hat : ∀ {k : Nat} (hk : k < as.length), atI (as.map nV) (k : Int) = some (V.int ((as[k] : Nat) : Int)) := fun {k} hk => zU (by rw [List.getElem?_map, List.getElem?_eq_getElem hk]; rfl)
   refine ⟨_, _, _, hins, T.cl, T.nA, _, gr_a g, _, rfl, _, SqL.of hab, _, hat hjl, _, _, _, hins, T.cl, T.nA, _, gr_a g, _, rfl, _, SqL.of hab, _, hat hil, _, rfl, _, rfl, ?_⟩
   rw [em]
   refine ⟨m, xs, rfl, hbm, fun x hx => (hxs x hx).1, fun pb H2 s2 hpb0 hpb => ?_⟩
   have ho : vU g pb := hg1.out hpb0
   replace s1 := s1.trans s2
   have hg2 := hg.same s1
   refine ⟨_, rfl, ⟨_, SqL.of hpb⟩, ?_⟩
   refine xG (xs := xs.map nV) (fun k σ H' => ∃ (o1 o2 : Option V), GrH C H2 g rows rules ls (fun L => ∀ x ∈ xs.take k, zQ L i x = true) H' /\ σ = [some (V.ref g.r), some (V.int i), some (V.int j), some (V.int p), o1, o2]) ⟨_, _, GrH.refl hg2 (fun x z => by cases z), rfl⟩ (fun k σ H' _ h => ?_) (fun k x σ H' hx h => ?_) (fun σ H' h => ?_)
   · obtain ⟨_, _, h, _⟩ := h
     exact SqL.of (h.to.1.out ho hpb)
   · obtain ⟨o1, o2, ⟨gs, t, gt, hP⟩, rfl⟩ := h
     rw [List.getElem?_map] at hx
     obtain ⟨x', hx', rfl⟩ := Option.map_eq_some_iff.mp hx
     obtain ⟨_, hx2⟩ := hxs x' (List.mem_of_getElem? hx')
     have hjx : zQ ls j x' = true := by rw [← hbit x']; exact hx2
     have hx3 := hbx x' hx2
     obtain ⟨dx, hins⟩ := gt.ins
     simp! [xI]
     refine ⟨_, _, hins, lk, _, _, hins, lk2, g, rows, rules, _, j, x', rfl, gt, zR hjx, fun p' l' H4 s4 hl' h1' h2' => ⟨zM (by decide), fun p1 hp1 => ?_⟩⟩
     refine qF (gs.trans (Same.g s4)) (gt.same s4) h100 (zD hp1 _) wQ (st_chain hi hx3 (by rw [List.getElem?_append_left (List.getElem?_eq_some_iff.mp hl).1]; exact hl) h1 h2 hl' h1' h2') ow_two (fun L e h x hx9 => ?_) fun _ H3 g3 => ⟨g3, _, rfl⟩
     obtain ⟨hkl, hke⟩ := List.getElem?_eq_some_iff.mp hx'
     rw [List.take_succ_eq_append_getElem hkl, hke] at hx9
     rcases List.mem_append.mp hx9 with hx9 | hx9
     · exact e.has (hP x hx9)
     · rw [List.mem_singleton.mp hx9]; exact h
   · obtain ⟨o1, o2, h, rfl⟩ := h
     obtain ⟨h1', t, h2', h3'⟩ := h
     rw [List.length_map, List.take_of_length_le (Nat.le_refl _)] at h3'
     refine hN _ _ ⟨_, _, GrH.pre s1 ⟨h1', t, h2', fun m hm => ?_⟩, rfl⟩
     rw [← hbit m] at hm
     rcases hxa m hm with z | z
     · exact h3' m z
     · rw [hmk.bit i as[i] (List.getElem?_eq_getElem hil)] at z
       exact zR z
 obtain ⟨o1, o2, ⟨gs, t, gt, hP1⟩, rfl⟩ := h
 have hl0 : (ls ++ t)[p]? = some l := by rw [List.getElem?_append_left (List.getElem?_eq_some_iff.mp hl).1]; exact hl
 have hh0 : zQ (ls ++ t) i j = true := zR hh
 simp! [xI, qI]
 obtain ⟨dx, hins⟩ := gt.ins
 obtain ⟨as, hab, hmk⟩ := gt.blw
 have hil : i < as.length := by rw [hmk.len]; exact hi
 have hjl : j < as.length := by rw [hmk.len]; exact hj
 have hbit := hmk.bit i as[i] (List.getElem?_eq_getElem hil)
 have hbx : ∀ x, as[i].testBit x = true -> x < 2 * rows.length := fun x hx => (gt.ok.rng (j := i) (by rw [← hbit x]; exact hx)).1
 obtain ⟨m, xs, em, hbm, hxs, hxa⟩ := wE (b := as[j]) fun x hx => Nat.lt_of_lt_of_le (hbx x hx) (by omega)
 have hat : ∀ {k : Nat} (hk : k < as.length), atI (as.map nV) (k : Int) = some (V.int ((as[k] : Nat) : Int)) := fun {k} hk => zU (by rw [List.getElem?_map, List.getElem?_eq_getElem hk]; rfl)
 refine ⟨_, _, _, hins, T.cl, T.nB, _, gr_b g, _, rfl, _, SqL.of hab, _, hat hil, _, _, _, hins, T.cl, T.nB, _, gr_b g, _, rfl, _, SqL.of hab, _, hat hjl, _, rfl, _, rfl, ?_⟩
 rw [em]
 refine ⟨m, xs, rfl, hbm, fun x hx => (hxs x hx).1, fun pb H2 s2 hpb0 hpb => ?_⟩
 have ho : vU g pb := gt.out hpb0
 have hg2 := gt.same s2
 replace gs := gs.trans (Same.g s2)
 refine ⟨_, rfl, ⟨_, SqL.of hpb⟩, ?_⟩
 refine xG (xs := xs.map nV) (fun k σ H' => ∃ (o1 o2 : Option V), GrH C H2 g rows rules (ls ++ t) (fun L => ∀ x ∈ xs.take k, zQ L x j = true) H' /\ σ = [some (V.ref g.r), some (V.int i), some (V.int j), some (V.int p), o1, o2]) ⟨_, _, GrH.refl hg2 (fun x z => by cases z), rfl⟩ (fun k σ H' _ h => ?_) (fun k x σ H' hx h => ?_) (fun σ H' h => ?_)
 · obtain ⟨_, _, h, _⟩ := h
   exact SqL.of (h.to.1.out ho hpb)
 · obtain ⟨o1, o2, ⟨gs', t', gt', hP⟩, rfl⟩ := h
   rw [List.getElem?_map] at hx
   obtain ⟨x', hx', rfl⟩ := Option.map_eq_some_iff.mp hx
   obtain ⟨_, hx2⟩ := hxs x' (List.mem_of_getElem? hx')
   have hjx : zQ (ls ++ t) x' i = true := by rw [← hbit x']; exact hx2
   have hx3 := hbx x' hx2
   obtain ⟨dx, hins⟩ := gt'.ins
   simp! [xI]
   refine ⟨_, _, hins, lk, _, _, hins, lk2, g, rows, rules, _, x', i, rfl, gt', zR hjx, fun p' l' H4 s4 hl' h1' h2' => ⟨zM (by decide), fun p1 hp1 => ?_⟩⟩
   refine qF (gs'.trans (Same.g s4)) (gt'.same s4) h100 (zD hp1 _) wQ (st_chain hx3 hj hl' h1' h2' (by rw [List.getElem?_append_left (List.getElem?_eq_some_iff.mp hl0).1]; exact hl0) h1 h2) ow_two (fun L e h x hx9 => ?_) fun _ H3 g3 => ⟨g3, _, rfl⟩
   obtain ⟨hkl, hke⟩ := List.getElem?_eq_some_iff.mp hx'
   rw [List.take_succ_eq_append_getElem hkl, hke] at hx9
   rcases List.mem_append.mp hx9 with hx9 | hx9
   · exact e.has (hP x hx9)
   · rw [List.mem_singleton.mp hx9]; exact h
 · obtain ⟨o1, o2, h, rfl⟩ := h
   refine q _ (GrH.then gs h fun L e hL => ⟨fun m hm => e.has (hP1 m hm), fun h0 hh0 => ?_⟩)
   rw [List.length_map, List.take_of_length_le (Nat.le_refl _)] at hL
   have hm : as[i].testBit h0 = true := by rw [hbit h0]; exact zR hh0
   rcases hxa h0 hm with z | z
   · exact hL h0 z
   · rw [hmk.bit j as[j] (List.getElem?_eq_getElem hjl)] at z
     exact e.has z
theorem ok_both {C : Addr} (T : GrC K C) (h_a : HasM P w K mg base 1 C "line_of" ["self", "i", "j"] (spLo C)) (h_o : HasM P w K mg base 1 C "has" ["self", "i", "j"] (spHs C)) (h_e : HasM P w K mg base 2 C "grow" ["self", "i", "j", "why"] (vO C)) (F : Fun K "grow_by_both" "grow_by_both" s_k f fd) : FnOk P w K mg base CX0 3 f fd ["growth", "i", "boths"] (spGB C) := by
 refine F.ok sc_k (fun vs H Q E h => ?_) (fun cdv A outer s H vs Q E hr h => ?_)
 · obtain ⟨g, rows, rules, ls, i, qa, us, rfl, _⟩ := h
   rfl
 obtain ⟨g, rows, rules, ls, i, qa, us, rfl, hg, h100, hi, hqa, hout, htr, hin, q⟩ := h
 have cl_Growth := T.cl
 have lk : (grF g).lookup ("grow" : Str) = none := jD g (by decide +kernel) (by decide +kernel) (by decide +kernel) (by decide +kernel)
 have lk2 : (grF g).lookup ("line_of" : Str) = none := jD g (by decide +kernel) (by decide +kernel) (by decide +kernel) (by decide +kernel)
 have lk3 : (grF g).lookup ("has" : Str) = none := jD g (by decide +kernel) (by decide +kernel) (by decide +kernel) (by decide +kernel)
 refine ⟨_, (zF (yK PassesOwn.never rfl (yI (pv 2)) (jM rfl (zX (zJ (i := 3) sc_k.nd rfl (Or.inl rfl)) (zX (zJ (i := 4) sc_k.nd rfl (Or.inl rfl)) (zX (zJ (i := 5) sc_k.nd rfl (Or.inl rfl)) pgs_nil)))) (zF (yP (PW.pt (uS (yU (yC h_o cl_Growth (hr.mono (by omega)) (pv 0) (zA (pv 1) (zA (pv 4) pa_nil)))) (qM (yU (yC h_o cl_Growth (hr.mono (by omega)) (pv 0) (zA (pv 1) (zA (pv 5) pa_nil))))))) (zF (zV (yC h_e cl_Growth (hr.mono (by omega)) (pv 0) (zA (pv 1) (zA (pv 3) (zA (yA (zA yL (zA (yC h_a cl_Growth (hr.mono (by omega)) (pv 0) (zA (pv 1) (zA (pv 4) pa_nil))) (zA (yC h_a cl_Growth (hr.mono (by omega)) (pv 0) (zA (pv 1) (zA (pv 5) pa_nil))) pa_nil)))) pa_nil)))))) pss_nil)))), ?_⟩
 simp! [xI]
 refine ⟨⟨_, SqL.of hqa⟩, ?_⟩
 refine xG (xs := us) (fun k σ H' => ∃ (o1 o2 o3 : Option V), GrH C H g rows rules ls (fun L => RBoth H (us.take k) ls L i) H' /\ σ = [some (V.ref g.r), some (V.int i), some (V.ref qa), o1, o2, o3]) ⟨_, _, _, GrH.refl hg (fun t m a b z => by cases z), rfl⟩ (fun k σ H' _ h => ?_) (fun k x σ H' hx h => ?_) (fun σ H' h => ?_)
 · obtain ⟨_, _, _, h, _⟩ := h
   exact SqL.of (h.to.1.out hout hqa)
 · obtain ⟨o1, o2, o3, hgt, rfl⟩ := h
   obtain ⟨xa, k', a, b, rfl, hxa, hrk⟩ := htr x (List.mem_of_getElem? hx)
   obtain ⟨⟨b1, b2⟩, b3, b4⟩ := hin k' a b hrk
   have hxa' := hg.tups hgt.to.1 _ _ hxa
   simp! [qG, jE, gNil, xI]
   obtain ⟨gs, t, gt, hP⟩ := hgt
   have nxt : ∀ {L : List Ln}, Le (ls ++ t) L -> (zQ ls i a = true -> zQ ls i b = true -> zQ L i ((2 * k' : Nat) : Int) = true) -> RBoth H (us.take (k + 1)) ls L i := fun {L} e hL t0 m a0 b0 hm ht0 ha0 hb0 => by
     obtain ⟨hkl, hke⟩ := List.getElem?_eq_some_iff.mp hx
     rw [List.take_succ_eq_append_getElem hkl, hke] at hm
     rcases List.mem_append.mp hm with hm | hm
     · exact e.has (hP t0 m a0 b0 hm ht0 ha0 hb0)
     · have e1 := V.ref.inj (List.mem_singleton.mp hm)
       subst e1
       rw [hxa] at ht0
       have e2 := HO.tup.inj (Option.some.inj ht0)
       injection e2 with e3 e4
       injection e4 with e5 e6
       injection e6 with e7 _
       have e3 := V.int.inj e3
       have e5 := V.int.inj e5
       have e7 := V.int.inj e7
       subst e5 e7
       rw [show m = k' by omega]
       exact hL ha0 hb0
   obtain ⟨dx, hins⟩ := gt.ins
   refine ⟨_, SqT.of hxa', rfl, _, _, rfl, _, _, rfl, _, _, rfl, rfl, _, _, hins, lk3, g, rows, rules, _, i, a, rfl, gt, fun H1 s1 => ⟨_, rfl, ?_⟩⟩
   have ge1 : zQ (ls ++ t) i a = false -> GrH C H g rows rules ls (fun L => RBoth H (us.take (k + 1)) ls L i) H1 := fun z => ⟨gs.trans (Same.g s1), t, gt.same s1, nxt (Le.refl _) (fun ha _ => by rw [zR ha] at z; cases z)⟩
   by_cases c1 : zQ (ls ++ t) i a = true
   · rw [if_pos c1]
     replace gs := gs.trans (Same.g s1)
     replace gt := gt.same s1
     obtain ⟨dx, hins⟩ := gt.ins
     refine ⟨_, _, hins, lk3, g, rows, rules, _, i, b, rfl, gt, fun H2 s2 => ⟨_, rfl, ?_⟩⟩
     replace gs := gs.trans (Same.g s2)
     replace gt := gt.same s2
     by_cases c2 : zQ (ls ++ t) i b = true
     · rw [if_pos c2]
       obtain ⟨dx, hins⟩ := gt.ins
       have hk1 : k' < rows.length := (List.getElem?_eq_some_iff.mp hrk).1
       have e2 : (2 : Int) * (k' : Int) = ((2 * k' : Nat) : Int) := by omega
       have hpt : uW rows ((2 * k' : Nat) : Int) = [a, b] := qQ (r := .bo a b) (by omega) (by rw [show (((2 * k' : Nat) : Int) / 2).toNat = k' by omega]; exact hrk)
       refine ⟨_, _, hins, lk, _, _, hins, lk2, g, rows, rules, _, i, a, rfl, gt, c1, fun p l H3 s3 hl h1 h2 => ?_⟩
       replace gs := gs.trans (Same.g s3)
       replace gt := gt.same s3
       obtain ⟨dx, hins⟩ := gt.ins
       refine ⟨_, _, hins, lk2, g, rows, rules, _, i, b, rfl, gt, c2, fun p' l' H4 s4 hl' h1' h2' => ⟨zM (by decide), fun p1 hp1 => ?_⟩⟩
       rw [e2]
       exact qF (gs.trans (Same.g s4)) (gt.same s4) h100 (zD hp1 _) wQ (st_both hi (by omega) hpt hl h1 h2 hl' h1' h2') ow_two (fun L e h => nxt e fun _ _ => h) fun _ H3 g3 => ⟨g3, _, rfl⟩
     · rw [if_neg c2]
       exact ⟨⟨gs, t, gt, nxt (Le.refl _) (fun _ hb => absurd (zR hb) c2)⟩, _, rfl⟩
   · rw [if_neg c1]
     exact ⟨ge1 (Bool.eq_false_iff.mpr c1), _, rfl⟩
 · obtain ⟨_, _, _, h, rfl⟩ := h
   rw [List.take_of_length_le (Nat.le_refl _)] at h
   exact q _ h
theorem ok_clash {C : Addr} (T : GrC K C) (bi : Bi mg) (h_a : HasM P w K mg base 1 C "line_of" ["self", "i", "j"] (spLo C)) (h_e : HasM P w K mg base 2 C "grow" ["self", "i", "j", "why"] (vO C)) (F : Fun K "grow_by_clash" "grow_by_clash" s_i f fd) : FnOk P w K mg base CX0 3 f fd ["growth", "i", "j"] (vY RClash C) := by
 refine F.ok sc_i (fun vs H Q E h => ?_) (fun cdv A outer s H vs Q E hr h => ?_)
 · obtain ⟨g, rows, rules, ls, i, j, rfl, _⟩ := h
   rfl
 obtain ⟨g, rows, rules, ls, i, j, rfl, hg, h100, hh, q⟩ := h
 have cl_Growth := T.cl
 have lk : (grF g).lookup ("grow" : Str) = none := jD g (by decide +kernel) (by decide +kernel) (by decide +kernel) (by decide +kernel)
 have lk2 : (grF g).lookup ("line_of" : Str) = none := jD g (by decide +kernel) (by decide +kernel) (by decide +kernel) (by decide +kernel)
 obtain ⟨dx, hins⟩ := hg.ins
 refine ⟨_, (zF (yP (zY op_eq (pv 2) (zL op_xor (pv 1) zE) (yD _)) (zF (yK PassesOwn.never rfl (yO rfl bi.range (zA (zK call_len rfl bi.len bt_len (zA (xC (pv 0) rfl) pa_nil)) pa_nil)) (zJ (i := 3) sc_i.nd rfl (Or.inl rfl)) (zF (zV (yC h_e cl_Growth (hr.mono (by omega)) (pv 0) (zA (pv 1) (zA (pv 3) (zA (yA (zA yL (zA (yC h_a cl_Growth (hr.mono (by omega)) (pv 0) (zA (pv 1) (zA (pv 2) pa_nil))) pa_nil))) pa_nil)))))))) pss_nil)), ?_⟩
 simp! [xI, qI]
 refine ⟨rfl, ?_⟩
 obtain ⟨hi, hj⟩ := hg.ok.rng hh
 by_cases e : (j : Int) = Builtin.bitXor (i : Int) 1
 · rw [if_pos e]
   rw [xor1] at e
   obtain ⟨as, hab, hmk⟩ := hg.abv
   refine ⟨_, _, _, hins, T.cl, T.nA, _, gr_a g, as.length, .inl ⟨_, SqL.of hab, by simp⟩, by omega, by have := hmk.len; omega, ?_⟩
   refine xE (n := (as.length : Int).toNat) (fun k σ H' => ∃ (o1 : Option V), GrH C H g rows rules ls (fun L => ∀ n : Nat, n < k -> zQ L i n = true) H' /\ σ = [some (V.ref g.r), some (V.int i), some (V.int j), o1]) ⟨_, GrH.refl hg (fun n z => by omega), rfl⟩ (fun k σ H' hk h => ?_) (fun σ H' h => ?_)
   · obtain ⟨o1, ⟨gs, t, gt, hP⟩, rfl⟩ := h
     have hk' : k < 2 * rows.length := by have := hmk.len; omega
     have e0 : (0 : Int) + (k : Int) = ((k : Nat) : Int) := by omega
     obtain ⟨dx, hins⟩ := gt.ins
     simp! [xI]
     rw [e0]
     refine ⟨_, _, hins, lk, _, _, hins, lk2, g, rows, rules, _, i, j, rfl, gt, zR hh, fun p l H1 s1 hl h1 h2 => ⟨zM (by decide), fun p1 hp1 => ?_⟩⟩
     refine qF (gs.trans (Same.g s1)) (gt.same s1) h100 (zD hp1 _) why_one (st_clash hi hk' e hl h1 h2) ow_one (fun L e h n hn => ?_) fun _ H3 g3 => ⟨g3, _, rfl⟩
     rcases Nat.lt_or_eq_of_le (Nat.le_of_lt_succ hn) with z | z
     · exact e.has (hP n z)
     · rw [z]; exact h
   · obtain ⟨_, ⟨h1, t, h2, h3⟩, rfl⟩ := h
     exact q _ ⟨h1, t, h2, fun _ n hn => h3 n (by have := hmk.len; omega)⟩
 · rw [if_neg e]
   exact q _ (GrH.refl hg fun z => absurd (by rw [xor1]; exact z) e)
end
abbrev s_j : Stmt := top 19
theorem sc_j : FnScope ["growth", "rules", "r", "premises", "pair", "lines"] ["growth", "rules", "r"] (zH s_j) := ⟨rfl, rfl, rfl, by decide +kernel, rfl, by decide +kernel, by decide +kernel⟩
theorem st_rule {rows : List Rw} {rules : List yE} {ls : List Ln} {i j r : Nat} {q : yE} {ps : List Int} (hi : i < 2 * rows.length) (hj : j < 2 * rows.length) (hr : rules[r]? = some q) (hq : q.2 = ((i : Int), (j : Int))) (hp : (ps.map fun p => xX ls ls.length (.n p)) = q.1.map some) : xJ rows rules ls ls.length ⟨i, j, "rule", [.n r, .ps ps]⟩ = true := by
 have hrl := (List.getElem?_eq_some_iff.mp hr).1
 unfold xJ
 rw [if_neg (by
   intro z
   rcases z with z | z
   · exact z ⟨by show (0 : Int) <= (i : Int); omega, by show (i : Int) < _; omega⟩
   · exact z ⟨by show (0 : Int) <= (j : Int); omega, by show (j : Int) < _; omega⟩), if_pos rfl, rul_eq rfl, if_pos ⟨by omega, by omega⟩, Int.toNat_natCast, hr]
 show (((i : Int), (j : Int)) == q.2 && _ == _) = true
 rw [hq, hp, Bool.and_eq_true]
 exact ⟨beq_self_eq_true _, beq_self_eq_true _⟩
def InR (rows : List Rw) (q : yE) : Prop := (0 <= q.2.1 /\ q.2.1 < 2 * (rows.length : Int)) /\ (0 <= q.2.2 /\ q.2.2 < 2 * (rows.length : Int))
def RRule (rows : List Rw) (rules : List yE) (ls L : List Ln) (r : Nat) : Prop := ∀ q : yE, rules[r]? = some q -> InR rows q -> (∀ p ∈ q.1, zQ ls p.1 p.2 = true) -> zQ L q.2.1 q.2.2 = true
def spGR (C : Addr) : Sp := fun vs H Q _ => ∃ (g : GAd) (rows : List Rw) (rules : List yE) (ls : List Ln) (ra : Addr) (us : List V) (r : Nat), vs = [.ref g.r, .ref ra, .int r] /\ GrAt C H g rows rules ls /\ rows.length <= 100 /\ H ra = some (.lst us) /\ DAts H (rules.map dNR) us /\ r < rules.length /\ (∀ r ∈ rules, r.1.length <= 100) /\ ∀ H', GrH C H g rows rules ls (fun L => RRule rows rules ls L r) H' -> Q .non H'
section
variable {P : Program} {w : World} {K : PySem.W.Frag} {mg : Str -> Option Value} {base : Heap} {f : Addr} {fd : FuncData}
theorem ok_rule {C : Addr} (T : GrC K C) (bi : Bi mg) (h_z : Has P w K mg base 2 "is_below" ["n", "bound"] spBel) (h_a : HasM P w K mg base 1 C "line_of" ["self", "i", "j"] (spLo C)) (h_o : HasM P w K mg base 1 C "has" ["self", "i", "j"] (spHs C)) (h_e : HasM P w K mg base 2 C "grow" ["self", "i", "j", "why"] (vO C)) (F : Fun K "grow_by_rule" "grow_by_rule" s_j f fd) : FnOk P w K mg base CX0 3 f fd ["growth", "rules", "r"] (spGR C) := by
 refine F.ok sc_j (fun vs H Q E h => ?_) (fun cdv A outer s H vs Q E hr h => ?_)
 · obtain ⟨g, rows, rules, ls, ra, us, r, rfl, _⟩ := h
   rfl
 obtain ⟨g, rows, rules, ls, ra, us, r, rfl, hg, h100, hra, hru, hrl, hpr, q⟩ := h
 have hul := jH hru
 have cl_Growth := T.cl
 have lk : (grF g).lookup ("grow" : Str) = none := jD g (by decide +kernel) (by decide +kernel) (by decide +kernel) (by decide +kernel)
 have lk2 : (grF g).lookup ("line_of" : Str) = none := jD g (by decide +kernel) (by decide +kernel) (by decide +kernel) (by decide +kernel)
 have lk3 : (grF g).lookup ("has" : Str) = none := jD g (by decide +kernel) (by decide +kernel) (by decide +kernel) (by decide +kernel)
 obtain ⟨dx, hins⟩ := hg.ins
 have hr1 : rules[r]? = some rules[r] := List.getElem?_eq_getElem hrl
 have hq1 := hpr _ (List.getElem_mem hrl)
 generalize rules[r] = nr at hr1 hq1
 obtain ⟨rv, hrv, hrd⟩ := DAts.get (d := dNR nr) hru (by rw [List.getElem?_map, hr1]; rfl)
 obtain ⟨xa, xl, xb, ps, rfl, hxa, hxl, hps, hxb⟩ := nrAt hrd
 have hpl := jH hps
 refine ⟨_, (zC (zO (i := 3) sc_j.nd rfl (Or.inl rfl) (zN ix_tup (zN ix_list (pv 1) (pv 2) (fun _ _ => rfl)) zE (fun _ _ => rfl))) (zC (zO (i := 4) sc_j.nd rfl (Or.inl rfl) (zN ix_tup (zN ix_list (pv 1) (pv 2) (fun _ _ => rfl)) zE (fun _ _ => rfl))) (zC (yP (xK (yU (zK call_all rfl bi.all bt_all (zA (yW ["n"] ["growth"] [0] (pi_tup (pv 4)) (fun _ _ _ _ nd => zJ (i := 0) nd rfl (Or.inl rfl)) (fun _ _ _ _ => yY) (fun _ _ _ _ => (zP h_z (hr.mono (by omega)) rfl (zA (pv 0) (zA (zK (call_lenK K) rfl bi.len bt_len (zA (pe_fldK K (pv 1) rfl) pa_nil)) pa_nil))))) pa_nil)))) (zF ps_retN) pss_nil) (zF (yP (yU (zK call_all rfl bi.all bt_all (zA (yW ["i", "j"] ["growth"] [0] (yI (pv 3)) (fun _ _ _ _ nd => qP (K := K) (n := 2) rfl (zX (zJ (i := 0) nd rfl (Or.inl rfl)) (zX (zJ (i := 1) nd rfl (Or.inl rfl)) pgs_nil))) (fun _ _ _ _ => yY) (fun _ _ _ _ => (yC h_o cl_Growth (hr.mono (by omega)) (pv 2) (zA (pv 0) (zA (pv 1) pa_nil))))) pa_nil))) (zC (zO (i := 5) sc_j.nd rfl (Or.inl rfl) (jY call_tuple_of rfl bi.tuple bt_tuple (zA (yW ["i", "j"] ["growth"] [0] (yI (pv 3)) (fun _ _ _ _ nd => qP (K := K) (n := 2) rfl (zX (zJ (i := 0) nd rfl (Or.inl rfl)) (zX (zJ (i := 1) nd rfl (Or.inl rfl)) pgs_nil))) (fun _ _ _ _ => yY) (fun _ _ _ _ => (yC h_a cl_Growth (hr.mono (by omega)) (pv 2) (zA (pv 0) (zA (pv 1) pa_nil))))) pa_nil))) (zF (zV (yC h_e cl_Growth (hr.mono (by omega)) (pv 0) (zA (zN ix_tup (pv 4) zE (fun _ _ => rfl)) (zA (zN ix_tup (pv 4) zE (fun _ _ => rfl)) (zA (yA (zA yL (zA (pv 2) (zA (pv 5) pa_nil)))) pa_nil))))))) pss_nil))))), ?_⟩
 refine zI fun N hN => ?_
 simp! []
 refine ⟨_, SqL.of hra, _, zU hrv, xa, rfl, _, SqT.of hxa, _, at0, hN _ _ ?_⟩
 clear hN
 refine zI fun N hN => ?_
 simp! []
 refine ⟨_, SqL.of hra, _, zU hrv, xa, rfl, _, SqT.of hxa, _, at1, hN _ _ ?_⟩
 clear hN
 obtain ⟨as, hab, hmk⟩ := hg.abv
 have hlen := hmk.len
 refine zI fun N hN => ?_
 simp! []
 refine ⟨⟨_, SqT.of hxb⟩, ?_⟩
 refine lc_tup (xs := [.int nr.2.1, .int nr.2.2]) (fun i ys σ H' => Same H H' /\ ys = (([nr.2.1, nr.2.2].take i).map fun x => vT as.length (.n x)).map V.bl /\ ∃ o, σ = [o, some (V.ref g.r)]) ⟨Same.refl _, rfl, _, rfl⟩ (zM (by simp)) (fun i ys σ H' e => ?_) (fun i ys σ H' e => SqT.of (e.1 _ _ hxb)) (fun i x ys σ H' D hx e hD => ?_) (fun ys σ H' e p hp => ?_)
 · obtain ⟨_, rfl, _⟩ := e
   rw [List.length_map, List.length_map, List.length_take]
   omega
 · obtain ⟨es, rfl, o, rfl⟩ := e
   have hg' := hg.same es
   obtain ⟨dx, hins⟩ := hg'.ins
   have hx' : ∃ n, x = V.int n /\ [nr.2.1, nr.2.2][i]? = some n := by
     match i, hx with
     | 0, hx => cases hx; exact ⟨_, rfl, rfl⟩
     | 1, hx => cases hx; exact ⟨_, rfl, rfl⟩
   obtain ⟨n, rfl, hn⟩ := hx'
   obtain ⟨hil, hn2⟩ := List.getElem?_eq_some_iff.mp hn
   simp! [qI, spBel]
   refine ⟨C, dx, _, hins, T.cl, T.nA, _, gr_a g, as.length, .inl ⟨_, SqL.of (es _ _ hab), by simp⟩, .n n, rfl, hD _ _ _ ⟨es, ?_, _, rfl⟩⟩
   rw [List.take_succ_eq_append_getElem hil, hn2, List.map_append, List.map_append]
   rfl
 obtain ⟨es, rfl, o, rfl⟩ := e
 refine ⟨p, rfl, _, SqL.of zB, ?_⟩
 have s1 := es.trans (zD hp (.lst ((([nr.2.1, nr.2.2].take 2).map fun x => vT as.length (.n x)).map V.bl)))
 change (if ([vT as.length (.n nr.2.1), vT as.length (.n nr.2.2)].all id) = false then Q V.non (upd H' p (.lst ((([nr.2.1, nr.2.2].take 2).map fun x => vT as.length (.n x)).map V.bl))) else N _ (upd H' p (.lst ((([nr.2.1, nr.2.2].take 2).map fun x => vT as.length (.n x)).map V.bl))))
 generalize upd H' p (.lst ((([nr.2.1, nr.2.2].take 2).map fun x => vT as.length (.n x)).map V.bl)) = H1 at s1 ⊢
 clear hp es hins
 have hg1 := hg.same s1
 by_cases hB : (0 <= nr.2.1 /\ nr.2.1 < 2 * (rows.length : Int)) /\ (0 <= nr.2.2 /\ nr.2.2 < 2 * (rows.length : Int))
 case neg =>
   rw [if_pos]
   · exact q _ ((GrH.refl hg (fun q' hq' hr' _ => by rw [hr1] at hq'; cases hq'; exact absurd hr' hB)).same s1)
   · rw [Bool.eq_false_iff]
     intro z
     simp [vT] at z
     exact hB (by omega)
 rw [if_neg (by simp [vT]; omega)]
 refine hN _ _ ?_
 clear hN
 obtain ⟨⟨b1, b2⟩, b3, b4⟩ := hB
 obtain ⟨i, hi⟩ := Int.eq_ofNat_of_zero_le b1
 obtain ⟨j, hj⟩ := Int.eq_ofNat_of_zero_le b3
 have hps1 := DAts.same s1 hps
 have hxl1 := s1 _ _ hxl
 have hxb1 := s1 _ _ hxb
 clear hab hmk hlen
 simp! []
 refine ⟨⟨_, SqL.of hxl1⟩, ?_⟩
 refine xU (xs := ps) (fun k ys σ H' => Same H1 H' /\ ys = ((nr.1.take k).map fun x => zQ ls x.1 x.2).map V.bl /\ ∃ o1 o2, σ = [o1, o2, some (V.ref g.r)]) ⟨Same.refl _, rfl, _, _, rfl⟩ (zM (by omega)) (fun k ys σ H' e => ?_) (fun i ys σ H' e => SqL.of (e.1 _ _ hxl1)) (fun k x ys σ H' D hx e hD => ?_) (fun ys σ H' e p hp => ?_)
 · obtain ⟨_, rfl, _⟩ := e
   rw [List.length_map, List.length_map, List.length_take]
   omega
 · obtain ⟨es, rfl, o1, o2, rfl⟩ := e
   have hg' := hg1.same es
   obtain ⟨dx, hins⟩ := hg'.ins
   obtain ⟨pr, hpk, hpx⟩ := yZ hps1 hx
   obtain ⟨xp, rfl, hxp⟩ := prAt hpx
   replace hxp := es _ _ hxp
   obtain ⟨hkl, hk2⟩ := List.getElem?_eq_some_iff.mp hpk
   simp! [qG, jE, gNil, xI]
   refine ⟨_, SqT.of hxp, rfl, _, _, rfl, _, _, rfl, rfl, _, _, hins, lk3, g, rows, rules, ls, _, _, rfl, hg', fun H3 s3 => hD _ _ _ ⟨es.trans s3, ?_, _, _, rfl⟩⟩
   rw [List.take_succ_eq_append_getElem hkl, hk2, List.map_append, List.map_append]
   rfl
 obtain ⟨es, rfl, o1, o2, rfl⟩ := e
 refine ⟨p, rfl, _, SqL.of zB, ?_⟩
 rw [List.take_of_length_le (by omega)]
 have s2 := es.trans (zD hp (.lst ((nr.1.map fun x => zQ ls x.1 x.2).map V.bl)))
 generalize upd H' p (.lst ((nr.1.map fun x => zQ ls x.1 x.2).map V.bl)) = H2 at s2 ⊢
 clear hp es
 have hg2 := hg1.same s2
 replace hxl1 := s2 _ _ hxl1
 replace hxb1 := s2 _ _ hxb1
 replace hps1 := DAts.same s2 hps1
 by_cases hA : (nr.1.map fun x => zQ ls x.1 x.2).all id = true
 case neg =>
   rw [if_neg hA]
   exact q _ ((GrH.refl hg (fun q' hq' _ hp' => absurd (by rw [hr1] at hq'; cases hq'; rw [List.all_map, List.all_eq_true]; exact fun p hp => hp' p hp) hA)).same (s1.trans s2))
 rw [if_pos hA]
 rw [List.all_map, List.all_eq_true] at hA
 refine ⟨⟨_, SqL.of hxl1⟩, ?_⟩
 refine xU (xs := ps) (fun k ys σ H' => Same H2 H' /\ (∃ ns : List Int, ys = ns.map V.int /\ ns.length = k /\ (ns.map fun p => xX ls ls.length (.n p)) = (nr.1.take k).map some) /\ ∃ o1 o2, σ = [o1, o2, some (V.ref g.r)]) ⟨Same.refl _, ⟨[], rfl, rfl, rfl⟩, _, _, rfl⟩ (zM (by omega)) (fun k ys σ H' e => ?_) (fun i ys σ H' e => SqL.of (e.1 _ _ hxl1)) (fun k x ys σ H' D hx e hD => ?_) (fun ys σ H' e p hp => ?_)
 · obtain ⟨_, ⟨ns, rfl, hl, _⟩, _⟩ := e
   rw [List.length_map]
   omega
 · obtain ⟨es, ⟨ns, rfl, hl, hns⟩, o1, o2, rfl⟩ := e
   have hg' := hg2.same es
   obtain ⟨dx, hins⟩ := hg'.ins
   obtain ⟨pr, hpk, hpx⟩ := yZ hps1 hx
   obtain ⟨xp, rfl, hxp⟩ := prAt hpx
   replace hxp := es _ _ hxp
   obtain ⟨hkl, hk2⟩ := List.getElem?_eq_some_iff.mp hpk
   simp! [qG, jE, gNil, xI]
   refine ⟨_, SqT.of hxp, rfl, _, _, rfl, _, _, rfl, rfl, _, _, hins, lk2, g, rows, rules, ls, _, _, rfl, hg', hA pr (List.mem_of_getElem? hpk), fun p l H3 s3 hl1 h1 h2 => hD _ _ _ ⟨es.trans s3, ⟨ns ++ [(p : Int)], by rw [List.map_append]; rfl, by simp [hl], ?_⟩, _, _, rfl⟩⟩
   rw [List.take_succ_eq_append_getElem hkl, hk2, List.map_append, List.map_append, hns]
   show _ ++ [xX ls ls.length (.n (p : Int))] = _
   rw [jJ hl1, h1, h2]
   rfl
 obtain ⟨es, ⟨ns, rfl, hl, hns⟩, o1, o2, rfl⟩ := e
 rw [List.take_of_length_le (by omega)] at hns
 refine ⟨p, rfl, _, .inl ⟨SqL.of zB, fun l hl' => ?_⟩⟩
 have s3 := (es.trans (zD hp (.lst (ns.map V.int)))).trans (zD hl' (.tup (ns.map V.int)))
 have kl : upd (upd H' p (.lst (ns.map V.int))) l (.tup (ns.map V.int)) l = some (.tup (ns.map V.int)) := zB
 generalize upd (upd H' p (.lst (ns.map V.int))) l (.tup (ns.map V.int)) = H3 at s3 kl ⊢
 replace hxb1 := s3 _ _ hxb1
 have hg3 := hg2.same s3
 obtain ⟨dx, hins⟩ := hg3.ins
 simp! [xI]
 refine ⟨_, _, hins, lk, _, SqT.of hxb1, _, at0, _, SqT.of hxb1, _, at1, zM (by decide), fun p2 hp2 => ?_⟩
 rw [hi, hj]
 refine qF (t := []) (Same.g ((s1.trans s2).trans s3)) (by rw [List.append_nil]; exact hg3) h100 (zD hp2 _) (x := "rule") (as := [.n r, .ps ns]) ⟨p2, _, rfl, zB, _, _, rfl, rfl, _, _, rfl, rfl, _, _, rfl, atPs (zD hp2 _ _ _ kl), rfl⟩ ?_ ⟨by simp, fun ps' h => ?_⟩ (fun L e h q' hq' _ _ => by rw [hr1] at hq'; cases hq'; rw [hi, hj]; exact h) fun _ H4 g4 => q _ g4
 · rw [List.append_nil]
   exact st_rule (by omega) (by omega) hr1 (Prod.ext hi hj) hns
 · simp at h
   subst h
   omega
end
abbrev s_y : Stmt := top 20
theorem sc_y : FnScope ["sheet", "rules", "growth", "boths", "waiting", "r", "k", "i", "j"] ["sheet", "rules"] (zH s_y) := ⟨rfl, rfl, rfl, by decide +kernel, rfl, by decide +kernel, by decide +kernel⟩
theorem Le.back {L L' : List Ln} (e : Le L L') {a : Nat} {l : Ln} (ha : a < L.length) (h : L'[a]? = some l) : L[a]? = some l := by
 obtain ⟨t, rfl⟩ := e
 rw [List.getElem?_append_left ha] at h
 exact h
structure Cl (rows : List Rw) (rules : List yE) (k : Nat) (L : List Ln) : Prop where
 turn : ∀ (a : Nat) (l : Ln) (i j : Nat), a < k -> L[a]? = some l -> l.i = i -> l.j = j -> zQ L ((tnN j : Nat) : Int) ((tnN i : Nat) : Int) = true
 clash : ∀ (a : Nat) (l : Ln) (i j : Nat), a < k -> L[a]? = some l -> l.i = i -> l.j = j -> (j : Int) = tn1 i -> ∀ n : Nat, n < 2 * rows.length -> zQ L i n = true
 chain : ∀ (a b : Nat) (l l' : Ln) (i j m : Nat), a < k -> b < k -> L[a]? = some l -> L[b]? = some l' -> l.i = i -> l.j = j -> l'.i = j -> l'.j = m -> zQ L i m = true
 both : ∀ (a b : Nat) (l l' : Ln) (i n : Nat) (x y : Int), a < k -> b < k -> L[a]? = some l -> L[b]? = some l' -> l.i = i -> l.j = x -> l'.i = i -> l'.j = y -> rows[n]? = some (.bo x y) -> zQ L i ((2 * n : Nat) : Int) = true
 rule : ∀ (r : Nat) (q : yE), rules[r]? = some q -> InR rows q -> (∀ p ∈ q.1, ∃ (a : Nat) (l : Ln), a < k /\ L[a]? = some l /\ l.i = p.1 /\ l.j = p.2) -> zQ L q.2.1 q.2.2 = true
theorem Cl.le {rows : List Rw} {rules : List yE} {k : Nat} {L L' : List Ln} (h : Cl rows rules k L) (hk : k <= L.length) (e : Le L L') : Cl rows rules k L' := by
 have b : ∀ {a : Nat} {l : Ln}, a < k -> L'[a]? = some l -> L[a]? = some l := fun ha hl => e.back (by omega) hl
 refine ⟨fun a l i j ha hl h1 h2 => e.has (h.turn a l i j ha (b ha hl) h1 h2), fun a l i j ha hl h1 h2 h3 n hn => e.has (h.clash a l i j ha (b ha hl) h1 h2 h3 n hn), fun a b' l l' i j m ha hb hl hl' h1 h2 h3 h4 => e.has (h.chain a b' l l' i j m ha hb (b ha hl) (b hb hl') h1 h2 h3 h4),
   fun a b' l l' i n x y ha hb hl hl' h1 h2 h3 h4 hr => e.has (h.both a b' l l' i n x y ha hb (b ha hl) (b hb hl') h1 h2 h3 h4 hr), fun r q hr hi hp => e.has (h.rule r q hr hi fun p hpq => ?_)⟩
 obtain ⟨a, l, ha, hl, h1, h2⟩ := hp p hpq
 exact ⟨a, l, ha, b ha hl, h1, h2⟩
theorem Cl.step {rows : List Rw} {rules : List yE} {k : Nat} {L L' : List Ln} (h : Cl rows rules k L) (e : Le L L') {l0 : Ln} {i j : Nat} (hk : L[k]? = some l0) (hi : l0.i = i) (hj : l0.j = j)
   (h1 : zQ L' ((tnN j : Nat) : Int) ((tnN i : Nat) : Int) = true) (h2 : ∀ m : Nat, zQ L j m = true -> zQ L' i m = true) (h3 : ∀ m : Nat, zQ L m i = true -> zQ L' m j = true)
   (h4 : ∀ (n : Nat) (x y : Int), rows[n]? = some (.bo x y) -> ((j : Int) = x \/ (j : Int) = y) -> zQ L i x = true -> zQ L i y = true -> zQ L' i ((2 * n : Nat) : Int) = true)
   (h5 : (j : Int) = tn1 i -> ∀ n : Nat, n < 2 * rows.length -> zQ L' i n = true)
   (h6 : ∀ (r : Nat) (q : yE), rules[r]? = some q -> InR rows q -> ((i : Int), (j : Int)) ∈ q.1 -> (∀ p ∈ q.1, zQ L p.1 p.2 = true) -> zQ L' q.2.1 q.2.2 = true) : Cl rows rules (k + 1) L' := by
 have hkl := (List.getElem?_eq_some_iff.mp hk).1
 have hc := h.le (by omega) e
 have b : ∀ {a : Nat} {l : Ln}, a < k + 1 -> L'[a]? = some l -> L[a]? = some l := fun ha hl => e.back (by omega) hl
 have z : ∀ {a : Nat}, a < k + 1 -> a < k \/ a = k := fun ha => by omega
 have lz : ∀ {a : Nat} {l : Ln}, a = k -> a < k + 1 -> L'[a]? = some l -> l = l0 := fun ea ha hl => by
   have := b ha hl
   rw [ea, hk] at this
   exact (Option.some.inj this).symm
 have hs : ∀ {a : Nat} {l : Ln}, a < k + 1 -> L'[a]? = some l -> zQ L l.i l.j = true := fun ha hl => hasP_iff.mpr ⟨_, _, b ha hl, rfl, rfl⟩
 refine ⟨fun a l i' j' ha hl g1 g2 => ?_, fun a l i' j' ha hl g1 g2 g3 n hn => ?_, fun a b' l l' i' j' m ha hb hl hl' g1 g2 g3 g4 => ?_, fun a b' l l' i' n x y ha hb hl hl' g1 g2 g3 g4 hr => ?_, fun r q hr hir hp => ?_⟩
 · rcases z ha with za | za
   · exact hc.turn a l i' j' za hl g1 g2
   · have el := lz za ha hl
     subst el
     have ei : i' = i := by omega
     have ej : j' = j := by omega
     rw [ei, ej]
     exact h1
 · rcases z ha with za | za
   · exact hc.clash a l i' j' za hl g1 g2 g3 n hn
   · have el := lz za ha hl
     subst el
     have ei : i' = i := by omega
     have ej : j' = j := by omega
     subst ei ej
     exact h5 g3 n hn
 · rcases z ha with za | za
   · rcases z hb with zb | zb
     · exact hc.chain a b' l l' i' j' m za zb hl hl' g1 g2 g3 g4
     · have el := lz zb hb hl'
       subst el
       have ej : j' = i := by omega
       have em : m = j := by omega
       have := hs ha hl
       rw [g1, g2, ej] at this
       rw [em]
       exact h3 i' this
   · have el := lz za ha hl
     subst el
     have ei : i' = i := by omega
     have ej : j' = j := by omega
     have := hs hb hl'
     rw [g3, g4, ej] at this
     rw [ei]
     exact h2 m this
 · have ha' := hs ha hl
   have hb' := hs hb hl'
   rw [g1, g2] at ha'
   rw [g3, g4] at hb'
   rcases z ha with za | za
   · rcases z hb with zb | zb
     · exact hc.both a b' l l' i' n x y za zb hl hl' g1 g2 g3 g4 hr
     · have el := lz zb hb hl'
       subst el
       have ei : i' = i := by omega
       subst ei
       exact h4 n x y hr (.inr (by omega)) ha' hb'
   · have el := lz za ha hl
     subst el
     have ei : i' = i := by omega
     subst ei
     exact h4 n x y hr (.inl (by omega)) ha' hb'
 · by_cases hall : ∀ p ∈ q.1, ∃ (a : Nat) (l : Ln), a < k /\ L'[a]? = some l /\ l.i = p.1 /\ l.j = p.2
   · exact hc.rule r q hr hir hall
   · refine h6 r q hr hir (Classical.byContradiction fun hno => hall fun p hpq => ?_) fun p hpq => ?_
     · obtain ⟨a, l, ha, hl, g1, g2⟩ := hp p hpq
       rcases z ha with za | za
       · exact ⟨a, l, za, hl, g1, g2⟩
       · have el := lz za ha hl
         subst el
         have ep : p = ((i : Int), (j : Int)) := Prod.ext (by rw [← g1, hi]) (by rw [← g2, hj])
         exact absurd (ep ▸ hpq) hno
     · obtain ⟨a, l, ha, hl, g1, g2⟩ := hp p hpq
       have := hs ha hl
       rw [g1, g2] at this
       exact this
def spClo : Sp := fun vs H Q _ => ∃ (sa ra : Addr) (us vs' : List V) (rows : List Rw) (rules : List yE), vs = [.ref sa, .ref ra] /\ H sa = some (.lst us) /\ jI H rows us /\ H ra = some (.lst vs') /\ DAts H (rules.map dNR) vs' /\ rows.length <= 100 /\ RowsIn rows /\ rules.length <= 100 /\ (∀ r ∈ rules, r.1.length <= 100) /\ ∀ (la : Addr) (ws : List V) (ls : List Ln) H', Same H H' -> H' la = some (.lst ws) -> vL H' ls ws -> GOk rows rules ls -> Pl rows (2 * rows.length) rows.length ls -> Cl rows rules ls.length ls -> Q (.ref la) H'
theorem SameG.same {g : GAd} {H H2 H' : Hp} (s : Same H H2) (e : SameG g H2 H') (h1 : H g.la = none) (h2 : H g.pa = none) (h3 : H g.aa = none) (h4 : H g.ba = none) : Same H H' := fun b o hb => by
 have go : ∀ {a : Addr}, H a = none -> b ≠ a := fun ha z => by rw [z, ha] at hb; cases hb
 exact e b o (s b o hb) (go h1) (go h2) (go h3) (go h4)
section
variable {P : Program} {w : World} {K : PySem.W.Frag} {mg : Str -> Option Value} {base : Heap} {f : Addr} {fd : FuncData}
theorem ok_closing {C : Addr} (T : GrC K C) (bi : Bi mg) (h_l : HasI P w K mg base 1 C "Growth" ["self", "many"] (spGI C)) (h_g : Has P w K mg base 1 "boths_by_part" ["sheet"] spBo) (h_d : Has P w K mg base 1 "rules_by_premise" ["rules"] spWa) (h_D : Has P w K mg base 3 "begin" ["growth", "sheet"] (spBe C)) (h_m : Has P w K mg base 3 "grow_by_turn" ["growth", "i", "j"] (vY RTurn C)) (h_f : Has P w K mg base 3 "grow_by_chain" ["growth", "i", "j"] (vY RChain C)) (h_k : Has P w K mg base 3 "grow_by_both" ["growth", "i", "boths"] (spGB C)) (h_i : Has P w K mg base 3 "grow_by_clash" ["growth", "i", "j"] (vY RClash C)) (h_j : Has P w K mg base 3 "grow_by_rule" ["growth", "rules", "r"] (spGR C)) (F : Fun K "closing" "closing" s_y f fd) : FnOk P w K mg base CX0 4 f fd ["sheet", "rules"] spClo := by
 refine F.ok sc_y (fun vs H Q E h => ?_) (fun cdv A outer s H vs Q E hr h => ?_)
 · obtain ⟨sa, ra, us, vs', rows, rules, rfl, _⟩ := h
   rfl
 obtain ⟨sa, ra, us, vs', rows, rules, rfl, hsa, hrw, hra, hru, h100, hin, hr100, hpr, q⟩ := h
 have hul := jH hrw
 have hvl := jH hru
 have cl_Growth := T.cl
 refine ⟨_, (zC (zO (i := 2) sc_y.nd rfl (Or.inl rfl) (pe_makeH h_l (hr.mono (by omega)) rfl (zA (zL op_mul zE (zK call_len rfl bi.len bt_len (zA (pv 0) pa_nil))) pa_nil))) (zC (zO (i := 3) sc_y.nd rfl (Or.inl rfl) (zP h_g (hr.mono (by omega)) rfl (zA (pv 0) pa_nil))) (zC (zO (i := 4) sc_y.nd rfl (Or.inl rfl) (zP h_d (hr.mono (by omega)) rfl (zA (pv 1) pa_nil))) (zC (zV (zP h_D (hr.mono (by omega)) rfl (zA (pv 2) (zA (pv 0) pa_nil)))) (zC (yK PassesOwn.never rfl (yO rfl bi.range (zA (zK call_len rfl bi.len bt_len (zA (pv 1) pa_nil)) pa_nil)) (zJ (i := 5) sc_y.nd rfl (Or.inl rfl)) (zF (zV (zP h_j (hr.mono (by omega)) rfl (zA (pv 2) (zA (pv 1) (zA (pv 5) pa_nil))))))) (zC (zO (i := 6) sc_y.nd rfl (Or.inl rfl) zE) (zC (ps_while PassesOwn.never (zY op_lt (pv 6) (zK call_len rfl bi.len bt_len (zA (xC (pv 2) rfl) pa_nil)) (yD _)) (zC (zO (i := 7) sc_y.nd rfl (Or.inl rfl) (zN ix_tup (zN ix_list (xC (pv 2) rfl) (pv 6) (fun _ _ => rfl)) zE (fun _ _ => rfl))) (zC (zO (i := 8) sc_y.nd rfl (Or.inl rfl) (zN ix_tup (zN ix_list (xC (pv 2) rfl) (pv 6) (fun _ _ => rfl)) zE (fun _ _ => rfl))) (zC (zV (zP h_m (hr.mono (by omega)) rfl (zA (pv 2) (zA (pv 7) (zA (pv 8) pa_nil))))) (zC (zV (zP h_f (hr.mono (by omega)) rfl (zA (pv 2) (zA (pv 7) (zA (pv 8) pa_nil))))) (zC (zV (zP h_k (hr.mono (by omega)) rfl (zA (pv 2) (zA (pv 7) (zA (zN ix_list (pv 3) (pv 8) (fun _ _ => rfl)) pa_nil))))) (zC (zV (zP h_i (hr.mono (by omega)) rfl (zA (pv 2) (zA (pv 7) (zA (pv 8) pa_nil))))) (zC (yK PassesOwn.never rfl (yI (pe_dget2 (jC hr) (pv 4) (yA (zA (pv 7) (zA (pv 8) pa_nil))) (yX pa_nil) ⟨rfl, rfl, rfl, rfl⟩)) (zJ (i := 5) sc_y.nd rfl (Or.inl rfl)) (zF (zV (zP h_j (hr.mono (by omega)) rfl (zA (pv 2) (zA (pv 1) (zA (pv 5) pa_nil))))))) (zF (ps_aug (i := 6) sc_y.nd rfl (Or.inl rfl) zE ip_add)))))))))) (zF (zZ (xC (pv 2) rfl)))))))))), ?_⟩
 refine zI fun N hN => ?_
 simp! [tMake]
 refine ⟨us.length, .inl ⟨_, SqL.of hsa, rfl⟩, .inl ⟨by decide, by decide⟩, fun x dx hx hdx hne => ?_⟩
 have s1 : Same H (upd (upd H dx (.own x)) x (.ins C dx [])) := ((Same.refl H).upd hdx).upd hx
 have k1 : upd (upd H dx (.own x)) x (.ins C dx []) x = some (.ins C dx []) := zB
 generalize upd (upd H dx (.own x)) x (.ins C dx []) = H1 at s1 k1 ⊢
 have e2 : (2 : Int) * (us.length : Int) = ((2 * rows.length : Nat) : Int) := by rw [hul]; omega
 rw [e2]
 refine ⟨x, dx, rows, rules, rfl, k1, h100, fun g H2 hgr x2 hla hpa haa hba hg => ⟨rfl, hN _ _ ?_⟩⟩
 subst hgr
 clear hN
 have s2 : Same H H2 := fun b o hb => x2 b o (s1 _ _ hb) (fun z => by rw [z, hx] at hb; cases hb)
 replace hla := s1.free hla
 replace hpa := s1.free hpa
 replace haa := s1.free haa
 replace hba := s1.free hba
 have outH : ∀ {a : Addr} {o : HO}, H a = some o -> vU g a := fun {a o} ha => by
   have go : ∀ {b : Addr}, H b = none -> a ≠ b := fun hb z => by rw [z, hb] at ha; cases ha
   exact ⟨go hla, go hpa, go haa, go hba⟩
 clear x2 k1 s1
 refine zI fun N hN => ?_
 simp! []
 refine ⟨sa, us, rows, rfl, s2 _ _ hsa, DAts.same s2 hrw, h100, hin, fun pb qs n H3 s3 hpb0 hqs0 hpb hql hbo hbc => hN _ _ ?_⟩
 clear hN
 have outb := hg.out hpb0
 have outq : ∀ q ∈ qs, vU g q := fun q hq => hg.out (hqs0 q hq)
 replace hg := hg.same s3
 replace s2 := s2.trans s3
 clear s3 hqs0 hpb0
 refine zI fun N hN => ?_
 simp! []
 refine ⟨ra, vs', rules, rfl, s2 _ _ hra, DAts.same s2 hru, hr100, hpr, fun pw kvs n' H4 s4 hpw0 hpw hwa hwc => hN _ _ ?_⟩
 clear hN
 have outw := hg.out hpw0
 have hwa' : ∀ kv ∈ kvs, ∃ (q : Addr) (ns : List Nat), kv.2 = .ref q /\ H4 q = some (.lst (ns.map nV)) /\ vU g q /\ ∀ x ∈ ns, x < rules.length := fun kv hkv => by
   obtain ⟨q', ns', h1, h2, h3, h4, h5⟩ := hwa kv hkv
   exact ⟨q', ns', h1, h2, hg.out h3, h5⟩
 clear hwa
 replace hg := hg.same s4
 replace s2 := s2.trans s4
 replace hpb := s4 _ _ hpb
 replace hbo := hbo.same s4
 replace hbc := hbc.same s4
 clear s4 hpw0
 have SS : ∀ {H'}, SameG g H4 H' -> Same H H' := fun e => SameG.same s2 e hla hpa haa hba
 refine zI fun N hN => ?_
 simp! []
 refine ⟨g, sa, us, rows, rules, rfl, hg, h100, s2 _ _ hsa, DAts.same s2 hrw, outH hsa, hin, fun H5 g5 => hN _ _ ?_⟩
 clear hN
 have np : ∀ {r : Nat} {ls L L' : List Ln}, RRule rows rules ls L r -> Le L L' -> ∀ q : yE, rules[r]? = some q -> InR rows q -> q.1 = [] -> zQ L' q.2.1 q.2.2 = true := fun h e q hq hi h0 => e.has (h q hq hi (fun p hp => by rw [h0] at hp; cases hp))
 refine zW (fun σ H' => ∃ (o1 o2 o3 o4 : Option V), GrH C H4 g rows rules [] (fun L => Pl rows (2 * rows.length) rows.length L /\ Cl rows rules 0 L) H' /\ σ = [some (V.ref sa), some (V.ref ra), some (V.ref g.r), some (V.ref pb), some (V.ref pw), o1, o2, o3, o4]) (fun N hN => ?_) (fun σ H' h => ?_)
 · simp! []
   refine ⟨vs'.length, .inl ⟨_, SqL.of (SS g5.to.1 _ _ hra), rfl⟩, by omega, by omega, ?_⟩
   refine xE (n := (vs'.length : Int).toNat) (fun i σ H' => ∃ (o1 o2 o3 o4 : Option V), GrH C H4 g rows rules [] (fun L => Pl rows (2 * rows.length) rows.length L /\ ∀ r : Nat, r < i -> ∀ q : yE, rules[r]? = some q -> InR rows q -> q.1 = [] -> zQ L q.2.1 q.2.2 = true) H' /\ σ = [some (V.ref sa), some (V.ref ra), some (V.ref g.r), some (V.ref pb), some (V.ref pw), o1, o2, o3, o4]) ⟨_, _, _, _, (by
       obtain ⟨h1, t, h2, h3⟩ := g5
       exact ⟨h1, t, h2, h3, fun r hr => by omega⟩), rfl⟩ (fun i σ H' hi h => ?_) (fun σ H' h => ?_)
   rotate_left
   · obtain ⟨o1, o2, o3, o4, ⟨h1, t, h2, h3, h4⟩, rfl⟩ := h
     refine hN _ _ ⟨_, _, _, _, ⟨h1, t, h2, h3, ⟨fun a l i j ha => by omega, fun a l i j ha => by omega, fun a b l l' i j m ha => by omega, fun a b l l' i n x y ha => by omega, fun r q hr hir hp => ?_⟩⟩, rfl⟩
     refine h4 r (by have := (List.getElem?_eq_some_iff.mp hr).1; omega) q hr hir ?_
     cases hq : q.1 with
     | nil => rfl
     | cons p ps =>
       obtain ⟨a, l, ha, _⟩ := hp p (by rw [hq]; exact List.mem_cons_self)
       omega
   obtain ⟨o1, o2, o3, o4, ⟨gs, t, gt, hP, hR⟩, rfl⟩ := h
   have e0 : (0 : Int) + (i : Int) = ((i : Nat) : Int) := by omega
   simp! []
   rw [e0]
   refine ⟨g, rows, rules, _, ra, vs', i, rfl, gt, h100, SS gs _ _ hra, DAts.same (SS gs) hru, by omega, hpr, fun H6 g6 => ?_⟩
   refine ⟨GrH.then gs g6 (fun L e h => ⟨hP.le e, fun r hr => ?_⟩), _, rfl⟩
   rcases Nat.lt_or_eq_of_le (Nat.le_of_lt_succ hr) with z | z
   · exact fun q hq hi h0 => e.has (hR r z q hq hi h0)
   · rw [z]; exact np h (Le.refl _)
 obtain ⟨o1, o2, o3, o4, ⟨gs, t, gt, hP, hC⟩, rfl⟩ := h
 rw [List.nil_append] at gt hP hC
 refine zI fun N hN => ?_
 simp! []
 refine hN _ _ ?_
 clear hN
 refine zW (fun σ H' => ∃ (o1 o2 o3 o4 : Option V) (t : List Ln), SameG g H4 H' /\ GrAt C H' g rows rules t /\ Pl rows (2 * rows.length) rows.length t /\ Cl rows rules t.length t /\ σ = [some (V.ref sa), some (V.ref ra), some (V.ref g.r), some (V.ref pb), some (V.ref pw), o1, o2, o3, o4]) (fun N hN => ?_) (fun σ H' h => ?_)
 · simp! [tWhile]
   refine ⟨fun m σ H' => ∃ (k : Nat) (t : List Ln) (o1 o3 o4 : Option V), m = (2 * rows.length) * (2 * rows.length) - k /\ k <= t.length /\ SameG g H4 H' /\ GrAt C H' g rows rules t /\ Pl rows (2 * rows.length) rows.length t /\ Cl rows rules k t /\ σ = [some (V.ref sa), some (V.ref ra), some (V.ref g.r), some (V.ref pb), some (V.ref pw), o1, some (V.int k), o3, o4], ⟨_, 0, t, _, _, _, rfl, Nat.zero_le _, gs, gt, hP, hC, rfl⟩, fun m σ H' h => ?_⟩
   clear hP hC
   obtain ⟨k, t, o1, o3, o4, rfl, hk, gs, gt, hP, hC, rfl⟩ := h
   have htl := gt.ok.len
   obtain ⟨dx, hins⟩ := gt.ins
   obtain ⟨ws, hl, hws⟩ := gt.lin
   have hwl := jH hws
   simp! [qI]
   refine ⟨_, _, _, hins, T.cl, T.nL, _, gr_l g, ws.length, .inl ⟨_, SqL.of hl, rfl⟩, ?_⟩
   by_cases hkl : k < t.length
   case neg =>
     rw [if_neg (by omega)]
     rw [show k = t.length by omega] at hC
     exact hN _ _ ⟨_, _, _, _, t, gs, gt, hP, hC, rfl⟩
   rw [if_pos (by omega)]
   have hlk : t[k]? = some t[k] := List.getElem?_eq_getElem hkl
   have hrng := qJ (gt.ok.snd k _ hlk)
   generalize t[k] = l0 at hlk hrng
   obtain ⟨i, hi⟩ : ∃ i : Nat, l0.i = (i : Int) := Int.eq_ofNat_of_zero_le hrng.1.1
   obtain ⟨j, hj⟩ : ∃ j : Nat, l0.j = (j : Int) := Int.eq_ofNat_of_zero_le hrng.2.1
   obtain ⟨v, hv, hvd⟩ := DAts.get (d := dLn l0) hws (by rw [List.getElem?_map, hlk]; rfl)
   obtain ⟨xa, u, rfl, hxa, _⟩ := lnAt hvd
   rw [hi, hj] at hxa hrng
   have hh : zQ t i j = true := hasP_iff.mpr ⟨k, l0, hlk, hi, hj⟩
   refine ⟨fun σ' H'' => ∃ (t' : List Ln) (o1 o3 o4 : Option V), k + 1 <= t'.length /\ SameG g H4 H'' /\ GrAt C H'' g rows rules t' /\ Pl rows (2 * rows.length) rows.length t' /\ Cl rows rules (k + 1) t' /\ σ' = [some (V.ref sa), some (V.ref ra), some (V.ref g.r), some (V.ref pb), some (V.ref pw), o1, some (V.int ((k + 1 : Nat) : Int)), o3, o4], fun σ' H'' h => ?_, ?_⟩
   · obtain ⟨t', o1, o3, o4, h1, h2, h3, h4, h5, rfl⟩ := h
     exact ⟨_, by omega, k + 1, rfl, t', h1, h2, h3, h4, h5, _, _, _, rfl⟩
   refine ⟨_, _, _, hins, T.cl, T.nL, _, gr_l g, _, rfl, _, SqL.of hl, _, zU hv, _, rfl, _, SqT.of hxa, _, at0, ?_⟩
   refine ⟨_, _, _, hins, T.cl, T.nL, _, gr_l g, _, rfl, _, SqL.of hl, _, zU hv, _, rfl, _, SqT.of hxa, _, at1, ?_⟩
   refine ⟨g, rows, rules, t, i, j, rfl, gt, h100, hh, fun H6 g6 => ?_⟩
   obtain ⟨gs6, t6, gt6, rt⟩ := g6
   replace gs := gs.trans gs6
   refine ⟨g, rows, rules, _, i, j, rfl, gt6, h100, zR hh, fun H7 g7 => ?_⟩
   obtain ⟨gs7, t7, gt7, rc⟩ := g7
   replace gs := gs.trans gs7
   have hjl : j < qs.length := by omega
   obtain ⟨us1, hu1, _, ht1⟩ := hbo qs[j] (List.getElem_mem hjl)
   have tu := hg.tups gs
   refine ⟨_, _, rfl, SqL.of (gs.out outb hpb), _, zU (by rw [List.getElem?_map, List.getElem?_eq_getElem hjl]; rfl), ?_⟩
   refine ⟨g, rows, rules, _, i, qs[j], us1, rfl, gt7, h100, by omega, gs.out (outq _ (List.getElem_mem hjl)) hu1, outq _ (List.getElem_mem hjl), fun v hv => (ht1 v hv).tups tu, hin, fun H8 g8 => ?_⟩
   obtain ⟨gs8, t8, gt8, rb⟩ := g8
   replace gs := gs.trans gs8
   refine ⟨g, rows, rules, _, i, j, rfl, gt8, h100, zR (zR (zR hh)), fun H9 g9 => ?_⟩
   obtain ⟨gs9, t9, gt9, rx⟩ := g9
   replace gs := gs.trans gs9
   have hk9 : k + 1 <= ((((t ++ t6) ++ t7) ++ t8) ++ t9).length := by simp only [List.length_append]; omega
   have h1 : zQ ((((t ++ t6) ++ t7) ++ t8) ++ t9) ((tnN j : Nat) : Int) ((tnN i : Nat) : Int) = true := zR (zR (zR rt))
   have h2 : ∀ m : Nat, zQ t j m = true -> zQ ((((t ++ t6) ++ t7) ++ t8) ++ t9) i m = true := fun m hm => zR (zR (rc.1 m (zR hm)))
   have h3 : ∀ m : Nat, zQ t m i = true -> zQ ((((t ++ t6) ++ t7) ++ t8) ++ t9) m j = true := fun m hm => zR (zR (rc.2 m (zR hm)))
   have h4 : ∀ (n : Nat) (x y : Int), rows[n]? = some (.bo x y) -> ((j : Int) = x \/ (j : Int) = y) -> zQ t i x = true -> zQ t i y = true -> zQ ((((t ++ t6) ++ t7) ++ t8) ++ t9) i ((2 * n : Nat) : Int) = true := fun n x y hn hxy hx hy => by
     obtain ⟨us', t', g1, g2, g3⟩ := hbc n x y (List.getElem?_eq_some_iff.mp hn).1 hn j qs[j] hxy (List.getElem?_eq_getElem hjl)
     rw [hu1] at g1
     cases g1
     exact zR (rb t' n x y g2 (tu _ _ g3) (zR (zR hx)) (zR (zR hy)))
   have h5 : (j : Int) = tn1 i -> ∀ n : Nat, n < 2 * rows.length -> zQ ((((t ++ t6) ++ t7) ++ t8) ++ t9) i n = true := rx
   have ett : Le t ((((t ++ t6) ++ t7) ++ t8) ++ t9) := ⟨t6 ++ (t7 ++ (t8 ++ t9)), by simp [List.append_assoc]⟩
   generalize (((t ++ t6) ++ t7) ++ t8) ++ t9 = tt at gt9 hk9 h1 h2 h3 h4 h5 ett
   clear rt rc rb rx
   clear gs6 gt6 gs7 gt7 gs8 gt8 gs9 tu hins hl hws htl gt
   simp! [tDGet2]
   have hpw9 := gs.out outw hpw
   refine ⟨.inr ⟨_, .inl hpw9⟩, zM (by decide), fun p hp => ⟨Nat.zero_le _, fun p1 hp1 => ?_⟩⟩
   have s10 := (zD hp (.tup [V.int i, V.int j])).trans (zD hp1 (.lst []))
   have kp : upd (upd H9 p (.tup [V.int i, V.int j])) p1 (.lst []) p = some (.tup [V.int i, V.int j]) := zD hp1 (.lst []) _ _ zB
   have kp1 : upd (upd H9 p (.tup [V.int i, V.int j])) p1 (.lst []) p1 = some (.lst []) := zB
   have op1 := (gt9.same (zD hp (.tup [V.int i, V.int j]))).out hp1
   generalize upd (upd H9 p (.tup [V.int i, V.int j])) p1 (.lst []) = H10 at s10 kp kp1 ⊢
   have hq : ∃ (q : Addr) (ns : List Nat), (yG kvs (yQ i j)).getD (.ref p1) = .ref q /\ H10 q = some (.lst (ns.map nV)) /\ vU g q /\ (∀ x ∈ ns, x < rules.length) /\ ∀ r, WaI H4 kvs ((i : Int), (j : Int)) r -> r ∈ ns := by
     cases hv : yG kvs (yQ i j) with
     | none => exact ⟨p1, [], rfl, kp1, op1, (fun x z => by cases z), fun r ⟨q, ns, g1, _⟩ => by rw [show yG kvs (yQ (i : Int) (j : Int)) = none from hv] at g1; cases g1⟩
     | some v =>
       obtain ⟨kv, hkv, rfl⟩ := valV_mem hv
       obtain ⟨q', ns', g1, g2, g3, g4⟩ := hwa' kv hkv
       refine ⟨q', ns', g1, s10 _ _ (gs.out g3 g2), g3, g4, fun r ⟨q, ns, w1, w2, w3⟩ => ?_⟩
       rw [show yG kvs (yQ (i : Int) (j : Int)) = some kv.2 from hv, g1] at w1
       have e1 := V.ref.inj (Option.some.inj w1)
       subst e1
       rw [g2] at w2
       rw [nV_inj (HO.lst.inj (Option.some.inj w2))]
       exact w3
   obtain ⟨qa, ns, hqa1, hqa2, hqa3, hqa4, hqa5⟩ := hq
   refine ⟨_, .inr ⟨_, yQ i j, p, .inl (s10 _ _ hpw9), rfl, kp, rfl⟩, qa, hqa1, ⟨_, SqL.of hqa2⟩, ?_⟩
   replace gs := gs.trans (Same.g s10)
   replace gt9 := gt9.same s10
   clear s10 kp kp1 hp hp1 op1 hqa1
   refine xG (xs := ns.map nV) (fun m σ H' => ∃ (o1 : Option V) (t' : List Ln), k + 1 <= t'.length /\ SameG g H4 H' /\ SameG g H10 H' /\ GrAt C H' g rows rules t' /\ Le tt t' /\ (∀ r ∈ ns.take m, ∀ q : yE, rules[r]? = some q -> InR rows q -> (∀ p ∈ q.1, zQ tt p.1 p.2 = true) -> zQ t' q.2.1 q.2.2 = true) /\ σ = [some (V.ref sa), some (V.ref ra), some (V.ref g.r), some (V.ref pb), some (V.ref pw), o1, some (V.int k), some (V.int i), some (V.int j)]) ⟨_, tt, hk9, gs, Same.g (Same.refl _), gt9, Le.refl _, (fun r z => by cases z), rfl⟩ (fun m σ H' _ h => ?_) (fun m x σ H' hx h => ?_) (fun σ H' h => ?_)
   · obtain ⟨_, _, _, _, h, _⟩ := h
     exact SqL.of (h.out hqa3 hqa2)
   · obtain ⟨o1, t', hk', gs', gs2', gt', le', hR, rfl⟩ := h
     rw [List.getElem?_map] at hx
     obtain ⟨x', hx', rfl⟩ := Option.map_eq_some_iff.mp hx
     simp! []
     refine ⟨g, rows, rules, _, ra, vs', x', rfl, gt', h100, SS gs' _ _ hra, DAts.same (SS gs') hru, hqa4 _ (List.mem_of_getElem? hx'), hpr, fun H6 g6 => ?_⟩
     obtain ⟨gs6, t6, gt6, rr⟩ := g6
     refine ⟨_, t' ++ t6, by rw [List.length_append]; omega, gs'.trans gs6, gs2'.trans gs6, gt6, le'.trans ⟨t6, rfl⟩, fun r hr q hq hi0 hp0 => ?_, rfl⟩
     obtain ⟨hkl', hke⟩ := List.getElem?_eq_some_iff.mp hx'
     rw [List.take_succ_eq_append_getElem hkl', hke] at hr
     rcases List.mem_append.mp hr with hr | hr
     · exact zR (hR r hr q hq hi0 hp0)
     · rw [List.mem_singleton.mp hr] at hq
       exact rr q hq hi0 fun p hp => le'.has (hp0 p hp)
   · obtain ⟨o1, t', hk', gs', gs2', gt', le', hR, rfl⟩ := h
     rw [List.length_map, List.take_of_length_le (Nat.le_refl _)] at hR
     have e9 := ett.trans le'
     have hC' : Cl rows rules (k + 1) t' := hC.step e9 hlk hi hj (le'.has h1) (fun m hm => le'.has (h2 m hm)) (fun m hm => le'.has (h3 m hm)) (fun n x y a b c d => le'.has (h4 n x y a b c d)) (fun a n b => le'.has (h5 a n b)) (fun r q hr hir hin' hp => ?_)
     · simp! [tAug, ipI]
       exact ⟨t', hk', gs', gt', hP.le e9, hC', by omega, _, rfl⟩
     · obtain ⟨x, hx⟩ := List.getElem?_of_mem hin'
       exact hR r (hqa5 r (hwc r q x _ hr hx (.inl (List.getElem?_eq_some_iff.mp hr).1))) q hr hir fun p hpq => ett.has (hp p hpq)
 obtain ⟨o1, o2, o3, o4, t, gs, gt, hP, hC, rfl⟩ := h
 obtain ⟨dx, hins⟩ := gt.ins
 obtain ⟨ws, hl, hws⟩ := gt.lin
 simp! [qI]
 exact ⟨_, _, _, hins, T.cl, T.nL, _, gr_l g, q g.la ws t _ (SS gs) hl hws gt.ok hP hC⟩
end
def xH (ps : List (Nat × Nat)) (a b : Nat) : Bool := ps.any fun p => (p.1 == a && p.2 == b) || (p.1 == b && p.2 == a)
theorem clOf_comm (ps : List (Nat × Nat)) (a b : Nat) : xH ps a b = xH ps b a := by
 unfold xH
 congr 1
 funext p
 rw [Bool.or_comm]
theorem clOf_snoc (ps : List (Nat × Nat)) (p : Nat × Nat) (a b : Nat) : xH (ps ++ [p]) a b = (xH ps a b || ((p.1 == a && p.2 == b) || (p.1 == b && p.2 == a))) := by
 unfold xH
 rw [List.any_append]
 simp
def dP2 (p : Nat × Nat) : Dt := .tup [.int p.1, .int p.2]
def Ok2 (m : Nat) (ps : List (Nat × Nat)) : Prop := ∀ p ∈ ps, p.1 < p.2 /\ p.2 < m
theorem p2At {H : Hp} {p : Nat × Nat} {v : V} (h : DAt H (dP2 p) v) : ∃ a, v = .ref a /\ H a = some (.tup [nV p.1, nV p.2]) := by
 obtain ⟨a, vs, e1, e2, u1, r1, q1, h1, u2, r2, q2, h2, h3⟩ := h
 have h1 : u1 = nV p.1 := h1
 have h2 : u2 = nV p.2 := h2
 have h3 : r2 = [] := h3
 subst h3 q2 q1 h1 h2
 exact ⟨a, e1, e2⟩
def cnt (m : Nat) (ps : List (Nat × Nat)) (sp : List Nat) : List Nat := (List.range m).filter fun i => sp.all fun a => xH ps a i
theorem cnt_mem {m : Nat} {ps : List (Nat × Nat)} {sp : List Nat} {i : Nat} : i ∈ cnt m ps sp ↔ i < m /\ (sp.all fun a => xH ps a i) = true := by
 unfold cnt
 rw [List.mem_filter, List.mem_range]
theorem cnt_rise (m : Nat) (ps : List (Nat × Nat)) (sp : List Nat) : (cnt m ps sp).Pairwise (· < ·) := List.Pairwise.filter _ List.pairwise_lt_range
abbrev s_t : Stmt := top 23
theorem sc_t : FnScope ["found"] ["found"] (zH s_t) := ⟨rfl, rfl, rfl, by decide +kernel, rfl, by decide +kernel, by decide +kernel⟩
abbrev s_v : Stmt := top 25
theorem sc_v : FnScope ["many", "pairs", "near", "a", "b"] ["many", "pairs"] (zH s_v) := ⟨rfl, rfl, rfl, by decide +kernel, rfl, by decide +kernel, by decide +kernel⟩
abbrev s_n : Stmt := top 26
theorem sc_n : FnScope ["near", "spots", "found", "spot"] ["near", "spots"] (zH s_n) := ⟨rfl, rfl, rfl, by decide +kernel, rfl, by decide +kernel, by decide +kernel⟩
theorem uX {H H' : Hp} (e : TupSame H H') : ∀ {ps : List (Nat × Nat)} {us : List V}, DAts H (ps.map dP2) us -> DAts H' (ps.map dP2) us
 | [], us, h => h
 | p :: ps, us, h => by
   obtain ⟨v, r, e1, e2, e3⟩ := h
   obtain ⟨a, g1, g2⟩ := p2At e2
   exact ⟨v, r, e1, ⟨a, _, g1, e _ _ g2, _, _, rfl, rfl, _, _, rfl, rfl, rfl⟩, uX e e3⟩
def spWl : Sp := fun vs H Q _ => ∃ i : Int, vs = [.int i] /\ Q (.bl true) H
section
variable {P : Program} {w : World} {K : PySem.W.Frag} {mg : Str -> Option Value} {base : Heap} {f : Addr} {fd : FuncData}
theorem ok_whole (bi : Bi mg) (F : Fun K "_law_whole" "_law_whole" s_t f fd) : FnOk P w K mg base CX0 1 f fd ["found"] spWl := by
 refine F.ok sc_t (fun vs H Q E h => ?_) (fun cdv A outer s H vs Q E hr h => ?_)
 · obtain ⟨i, rfl, _⟩ := h
   rfl
 obtain ⟨i, rfl, q⟩ := h
 refine ⟨_, (zF (zZ (qU (zK (xF (T := "int")) rfl bi.isinstance bt_isinstance (zA (pv 0) (zA (jQ bi.int bt_int rfl) pa_nil))) (uV (pe_not (zK (xF (T := "bool")) rfl bi.isinstance bt_isinstance (zA (pv 0) (zA (jQ bi.bool bt_bool rfl) pa_nil)))))))), ?_⟩
 simp! []
 exact ⟨_, .int i, true, xM, iteT ⟨_, .int i, false, kit_ib, q⟩⟩
end
def jK (m : Nat) (ps : List (Nat × Nat)) (a : Nat) : List V := (List.range m).map fun b => V.bl (xH ps a b)
def NrAt (H : Hp) (p : Addr) (m : Nat) (ps : List (Nat × Nat)) : Prop := ∃ rs : List Addr, H p = some (.lst (rs.map V.ref)) /\ rs.length = m /\ ∀ (a : Nat) (r : Addr), rs[a]? = some r -> H r = some (.lst (jK m ps a))
theorem NrAt.same {H H' : Hp} {p : Addr} {m : Nat} {ps : List (Nat × Nat)} (e : Same H H') (h : NrAt H p m ps) : NrAt H' p m ps := by
 obtain ⟨rs, h1, h2, h3⟩ := h
 exact ⟨rs, e _ _ h1, h2, fun a r hr => e _ _ (h3 a r hr)⟩
theorem row_set {m b : Nat} (f : Nat -> Bool) (hb : b < m) : ((List.range m).map fun j => V.bl (f j)).set b (V.bl true) = (List.range m).map fun j => V.bl (f j || (b == j)) := by
 apply List.ext_getElem?
 intro i
 by_cases hi : b = i
 · subst hi
   rw [List.getElem?_set_self (by rw [List.length_map, List.length_range]; exact hb), List.getElem?_map, List.getElem?_range hb]
   simp
 · rw [List.getElem?_set_ne hi, List.getElem?_map, List.getElem?_map]
   cases h : (List.range m)[i]? with
   | none => rfl
   | some j =>
     have : j = i := by
       have := List.getElem?_eq_some_iff.mp h
       obtain ⟨h1, h2⟩ := this
       rw [List.getElem_range] at h2
       exact h2.symm
     subst this
     have : (b == j) = false := beq_eq_false_iff_ne.mpr hi
     simp [this]
theorem uR {m a b x : Nat} {ps : List (Nat × Nat)} (hab : a ≠ b) : jK m (ps ++ [(a, b)]) x = (List.range m).map fun j => V.bl (if x = a then xH ps a j || (b == j) else if x = b then xH ps b j || (a == j) else xH ps x j) := by
 unfold jK
 refine List.map_congr_left fun j _ => ?_
 rw [clOf_snoc]
 congr 1
 by_cases h1 : x = a
 · subst h1
   rw [if_pos rfl]
   have : (b == x) = false := beq_eq_false_iff_ne.mpr (Ne.symm hab)
   simp [this]
 · rw [if_neg h1]
   have t1 : (a == x) = false := beq_eq_false_iff_ne.mpr (Ne.symm h1)
   by_cases h2 : x = b
   · subst h2
     rw [if_pos rfl]
     simp [t1]
   · rw [if_neg h2]
     have t2 : (b == x) = false := beq_eq_false_iff_ne.mpr (Ne.symm h2)
     simp [t1, t2]
theorem rowB_a {m a b : Nat} {ps : List (Nat × Nat)} (hab : a ≠ b) : jK m (ps ++ [(a, b)]) a = (List.range m).map fun j => V.bl (xH ps a j || (b == j)) := by
 rw [uR hab]
 simp only [if_true]
theorem rowB_b {m a b : Nat} {ps : List (Nat × Nat)} (hab : a ≠ b) : jK m (ps ++ [(a, b)]) b = (List.range m).map fun j => V.bl (xH ps b j || (a == j)) := by
 rw [uR hab]
 simp only [if_neg (Ne.symm hab), if_true]
theorem rowB_o {m a b x : Nat} {ps : List (Nat × Nat)} (hab : a ≠ b) (h1 : x ≠ a) (h2 : x ≠ b) : jK m (ps ++ [(a, b)]) x = jK m ps x := by
 rw [uR hab]
 simp only [if_neg h1, if_neg h2]
 rfl
theorem rep_false (m : Nat) (a : Nat) : (List.replicate m [V.bl false]).flatten = jK m [] a := by
 unfold jK xH
 induction m with
 | zero => rfl
 | succ m ih =>
   rw [List.range_succ, List.map_append, ← ih, List.replicate_succ', List.flatten_append]
   rfl
def spNr : Sp := fun vs H Q _ => ∃ (m : Nat) (pa : Addr) (us : List V) (ps : List (Nat × Nat)), vs = [.int m, .ref pa] /\ m <= 90 /\ H pa = some (.lst us) /\ DAts H (ps.map dP2) us /\ Ok2 m ps /\ ∀ p H', Same H H' -> NrAt H' p m ps -> Q (.ref p) H'
def spLc (K : PySem.W.Frag) : Sp := fun vs H Q _ => ∃ (na sa : Addr) (m : Nat) (ps : List (Nat × Nat)) (sp : List Nat), vs = [.ref na, .ref sa] /\ m <= 90 /\ NrAt H na m ps /\ SqL K H sa (sp.map nV) /\ (∀ x ∈ sp, x < m) /\ sp.length <= 1000 /\ ∀ p H', Same H H' -> H p = none -> H' p = some (.lst ((cnt m ps sp).map nV)) -> Q (.ref p) H'
section
variable {P : Program} {w : World} {K : PySem.W.Frag} {mg : Str -> Option Value} {base : Heap} {f : Addr} {fd : FuncData}
theorem ok_near (bi : Bi mg) (F : Fun K "_law_near" "_law_near" s_v f fd) : FnOk P w K mg base CX0 1 f fd ["many", "pairs"] spNr := by
 refine F.ok sc_v (fun vs H Q E h => ?_) (fun cdv A outer s H vs Q E hr h => ?_)
 · obtain ⟨m, pa, us, ps, rfl, _⟩ := h
   rfl
 obtain ⟨m, pa, us, ps, rfl, hm, hpa, hps, hok, q⟩ := h
 have hul : us.length = ps.length := by have := DAts.length hps; rwa [List.length_map] at this
 refine ⟨_, (zC (uI (i := 2) ["a"] ["many"] [0] sc_v.nd rfl (yO rfl bi.range (zA (pv 0) pa_nil)) (fun _ _ _ _ nd => zJ (i := 0) nd rfl (Or.inl rfl)) (fun _ _ _ _ => yY) (fun _ _ _ _ => (zL op_rep (yX (zA xL pa_nil)) (pv 1)))) (zC (yK PassesOwn.never rfl (yI (pv 1)) (jM rfl (zX (zJ (i := 3) sc_v.nd rfl (Or.inl rfl)) (zX (zJ (i := 4) sc_v.nd rfl (Or.inl rfl)) pgs_nil))) (zC (ps_asg xL (pg_sub (zN ix_list (pv 2) (pv 3) (fun _ _ => rfl)) (pv 4) set_list)) (zF (ps_asg xL (pg_sub (zN ix_list (pv 2) (pv 4) (fun _ _ => rfl)) (pv 3) set_list))))) (zF (zZ (pv 2))))), ?_⟩
 refine zI fun N hN => ?_
 simp! []
 refine ⟨by omega, by omega, ?_⟩
 refine qR (lo := 0) (n := (m : Int).toNat) (fun i ys σ H' => Same H H' /\ (∃ rs : List Addr, ys = rs.map V.ref /\ rs.length = i /\ rs.Nodup /\ (∀ r ∈ rs, H r = none) /\ ∀ r ∈ rs, H' r = some (.lst (jK m [] 0))) /\ ∃ o, σ = [o, some (V.int m)]) ⟨Same.refl _, ⟨[], rfl, rfl, List.nodup_nil, (fun r z => by cases z), fun r z => by cases z⟩, _, rfl⟩ (zM (by omega)) (fun i ys σ H' e => ?_) (fun i ys σ H' C hi e hC => ?_) (fun ys σ H' e p hp => hN _ _ ?_)
 · obtain ⟨_, ⟨rs, rfl, hl, _⟩, _⟩ := e
   rw [List.length_map]
   omega
 · obtain ⟨es, ⟨rs, rfl, hl, hnd, hfr, hrw⟩, o, rfl⟩ := e
   simp! [rRep]
   refine ⟨zM (by simp), fun p0 hp0 => ⟨[V.bl false], zB, by omega, by omega, zM (by simp; omega), fun r hr' => hC _ _ _ ?_⟩⟩
   have s1 := zD hp0 (.lst [V.bl false])
   have s2 := zD hr' (.lst ((List.replicate (m : Int).toNat [V.bl false]).flatten))
   have kr : upd (upd H' p0 (.lst [V.bl false])) r (.lst ((List.replicate (m : Int).toNat [V.bl false]).flatten)) r = some (.lst (jK m [] 0)) := by rw [zB, Int.toNat_natCast, rep_false m 0]
   have hrn : r ∉ rs := fun z => by
     have := s1 _ _ (hrw r z)
     rw [hr'] at this
     cases this
   generalize upd (upd H' p0 (.lst [V.bl false])) r (.lst ((List.replicate (m : Int).toNat [V.bl false]).flatten)) = H2 at s2 kr ⊢
   have ss := s1.trans s2
   refine ⟨es.trans ss, ⟨rs ++ [r], by rw [List.map_append]; rfl, by simp [hl], List.nodup_append.mpr ⟨hnd, by simp, fun x hx y hy e => hrn (by rw [List.mem_singleton.mp hy] at e; rw [← e]; exact hx)⟩, fun x hx => ?_, fun x hx => ?_⟩, _, rfl⟩
   · rcases List.mem_append.mp hx with hx | hx
     · exact hfr x hx
     · rw [List.mem_singleton.mp hx]
       exact (es.trans s1).free hr'
   · rcases List.mem_append.mp hx with hx | hx
     · exact ss _ _ (hrw x hx)
     · rw [List.mem_singleton.mp hx]
       exact kr
 obtain ⟨es, ⟨rs, rfl, hl, hnd, hfr, hrw⟩, o, rfl⟩ := e
 clear hN
 have s1 := zD hp (.lst (rs.map V.ref))
 have k1 : upd H' p (.lst (rs.map V.ref)) p = some (.lst (rs.map V.ref)) := zB
 have hpr : p ∉ rs := fun z => by
   have := hrw p z
   rw [hp] at this
   cases this
 generalize upd H' p (.lst (rs.map V.ref)) = H1 at s1 k1 ⊢
 have s2 := es.trans s1
 have hrl : rs.length = m := by omega
 have hr0 : ∀ (a : Nat) (r : Addr), rs[a]? = some r -> H1 r = some (.lst (jK m [] a)) := fun a r hr' => by
   have := s1 _ _ (hrw r (List.mem_of_getElem? hr'))
   exact this
 clear hrw hl s1
 refine zW (fun σ H' => ∃ (o1 o2 : Option V), Same H H' /\ H' p = some (.lst (rs.map V.ref)) /\ (∀ (a : Nat) (r : Addr), rs[a]? = some r -> H' r = some (.lst (jK m ps a))) /\ σ = [some (V.int m), some (V.ref pa), some (V.ref p), o1, o2]) (fun N hN => ?_) (fun σ H' h => ?_)
 · simp! []
   refine ⟨⟨_, SqL.of (s2 _ _ hpa)⟩, ?_⟩
   refine xG (xs := us) (fun k σ H' => ∃ (o1 o2 : Option V), Same H H' /\ H' p = some (.lst (rs.map V.ref)) /\ (∀ (a : Nat) (r : Addr), rs[a]? = some r -> H' r = some (.lst (jK m (ps.take k) a))) /\ σ = [some (V.int m), some (V.ref pa), some (V.ref p), o1, o2]) ⟨_, _, s2, k1, hr0, rfl⟩ (fun k σ H' _ h => ?_) (fun k x σ H' hx h => ?_) (fun σ H' h => ?_)
   · obtain ⟨o1, o2, h1, _⟩ := h
     exact SqL.of (h1 _ _ hpa)
   · obtain ⟨o1, o2, h1, h2, h3, rfl⟩ := h
     have hk : k < ps.length := by rw [← hul]; exact (List.getElem?_eq_some_iff.mp hx).1
     obtain ⟨v, hv1, hv2⟩ := DAts.get (d := dP2 ps[k]) hps (by rw [List.getElem?_map, List.getElem?_eq_getElem hk]; rfl)
     rw [hx] at hv1
     cases hv1
     have hab := hok _ (List.getElem_mem hk)
     obtain ⟨t, rfl, ht⟩ := p2At hv2
     have ht' := h1 _ _ ht
     have e4 : ps.take (k + 1) = ps.take k ++ [(ps[k].1, ps[k].2)] := by rw [List.take_succ_eq_append_getElem hk]
     rw [e4]
     clear e4
     generalize ps[k].1 = a at ht' hab
     generalize ps[k].2 = b at ht' hab
     generalize ps.take k = qs at h3 ⊢
     have la : a < rs.length := by omega
     have lb : b < rs.length := by omega
     have ga := List.getElem?_eq_getElem la
     have gb := List.getElem?_eq_getElem lb
     have hne : rs[a] ≠ rs[b] := fun z => by
       have := (List.getElem_inj hnd).mp z
       omega
     have ra := h3 a _ ga
     have rb := h3 b _ gb
     have fa := hfr _ (List.getElem_mem la)
     have fb := hfr _ (List.getElem_mem lb)
     have npa : p ≠ rs[a] := fun z => hpr (by rw [z]; exact List.getElem_mem la)
     have npb : p ≠ rs[b] := fun z => hpr (by rw [z]; exact List.getElem_mem lb)
     simp! [qG, jE, gNil, gSub, rSetL]
     refine ⟨[nV a, nV b], SqT.of ht', rfl, nV a, [nV b], rfl, nV b, [], rfl, rfl, ?_⟩
     have rl : ∀ x, (jK m qs x).length = m := fun x => by unfold jK; rw [List.length_map, List.length_range]
     refine ⟨_, _, rfl, SqL.of h2, _, zU (j := a) (by rw [List.getElem?_map, ga]; rfl), rs[a], rfl, _, _, rfl, ra, b, uL (by rw [rl]; omega), _, _, rfl, SqL.of (by rw [zG npa]; exact h2), _, zU (j := b) (by rw [List.getElem?_map, gb]; rfl), rs[b], rfl, _, _, rfl, by rw [zG (Ne.symm hne)]; exact rb, a, uL (by rw [rl]; omega), (h1.upd fa).upd fb, by rw [zG npb, zG npa]; exact h2, fun x r hr' => ?_, _, rfl⟩
     have hab' : a ≠ b := by omega
     have ux : r = rs[x]'(List.getElem?_eq_some_iff.mp hr').1 := (List.getElem?_eq_some_iff.mp hr').2.symm
     have lx := (List.getElem?_eq_some_iff.mp hr').1
     by_cases e1 : x = b
     · subst e1
       rw [ux, zB, rowB_b hab']
       unfold jK
       rw [row_set (fun j => xH qs x j) (by omega)]
     · have n1 : r ≠ rs[b] := fun z => by
         rw [ux] at z
         exact e1 ((List.getElem_inj hnd).mp z)
       rw [zG n1]
       by_cases e2 : x = a
       · subst e2
         rw [ux, zB, rowB_a hab']
         unfold jK
         rw [row_set (fun j => xH qs x j) (by omega)]
       · have n2 : r ≠ rs[a] := fun z => by
           rw [ux] at z
           exact e2 ((List.getElem_inj hnd).mp z)
         rw [zG n2, rowB_o hab' e2 e1]
         exact h3 x r hr'
   · obtain ⟨o1, o2, h1, h2, h3, rfl⟩ := h
     rw [hul, List.take_of_length_le (Nat.le_refl _)] at h3
     exact hN _ _ ⟨_, _, h1, h2, h3, rfl⟩
 obtain ⟨o1, o2, h1, h2, h3, rfl⟩ := h
 simp! []
 exact q p _ h1 ⟨rs, h2, hrl, h3⟩
theorem ok_lcounter (bi : Bi mg) (F : Fun K "_law_counter" "_law_counter" s_n f fd) : FnOk P w K mg base CX0 1 f fd ["near", "spots"] (spLc K) := by
 refine F.ok sc_n (fun vs H Q E h => ?_) (fun cdv A outer s H vs Q E hr h => ?_)
 · obtain ⟨na, sa, m, ps, sp, rfl, _⟩ := h
   rfl
 obtain ⟨na, sa, m, ps, sp, rfl, hm, hnr, hs, hsm, hsl, q⟩ := h
 obtain ⟨rs, hn, hrl, hrw⟩ := hnr
 refine ⟨_, (zC (zO (i := 2) sc_n.nd rfl (Or.inl rfl) (yX pa_nil)) (zC (yK PassesOwn.never rfl (yO rfl bi.range (zA (zK call_len rfl bi.len bt_len (zA (pv 0) pa_nil)) pa_nil)) (zJ (i := 3) sc_n.nd rfl (Or.inr rfl)) (zF (yP (yU (zK call_all rfl bi.all bt_all (zA (yW ["other"] ["near", "spot"] [0, 3] (yI (pv 1)) (fun _ _ _ _ nd => zJ (i := 0) nd rfl (Or.inl rfl)) (fun _ _ _ _ => yY) (fun _ _ _ _ => (zN (jU K) (zN (jU K) (pv 1) (pv 2) (fun _ _ => rfl)) (pv 0) (fun _ _ => rfl)))) pa_nil))) (zF (zV (xQ PySem.F.plainAttrs_list PySem.F.slot_list_append PySem.F.type_list_append mt_append (pv 2) (zA (pv 3) pa_nil)))) pss_nil))) (zF (zZ (pv 2))))), ?_⟩
 refine zI fun N hN => ?_
 simp! []
 refine ⟨zM (by simp), fun p hp => hN _ _ ?_⟩
 clear hN
 have s1 := zD hp (.lst [])
 have k1 : upd H p (.lst []) p = some (.lst []) := zB
 generalize upd H p (.lst []) = H1 at s1 k1 ⊢
 refine zW (fun σ H' => ∃ (o : Option V), Same H H' /\ H' p = some (.lst ((cnt m ps sp).map nV)) /\ σ = [some (V.ref na), some (V.ref sa), some (V.ref p), o]) (fun N hN => ?_) (fun σ H' h => ?_)
 · simp! []
   refine ⟨_, .inl ⟨_, SqL.of (s1 _ _ hn), rfl⟩, by rw [List.length_map]; omega, by rw [List.length_map]; omega, ?_⟩
   rw [List.length_map, hrl]
   refine xE (n := (m : Int).toNat) (fun i σ H' => ∃ (o : Option V), Same H H' /\ H' p = some (.lst (((List.range i).filter fun i => sp.all fun a => xH ps a i).map nV)) /\ σ = [some (V.ref na), some (V.ref sa), some (V.ref p), o]) ⟨_, s1, k1, rfl⟩ (fun i σ H' hi h => ?_) (fun σ H' h => ?_)
   · obtain ⟨o, s2, k2, rfl⟩ := h
     have him : i < m := by omega
     have hir : i < rs.length := by omega
     have e0 : (0 : Int) + (i : Int) = ((i : Nat) : Int) := by omega
     simp! []
     rw [e0]
     refine ⟨⟨_, Same.seq s2 hs⟩, ?_⟩
     refine xU (xs := sp.map nV) (fun k ys σ H'' => H'' = H' /\ ys = ((sp.take k).map fun a => xH ps i a).map V.bl /\ ∃ o, σ = [o, some (V.ref na), some (V.int i)]) ⟨rfl, rfl, _, rfl⟩ (zM (by rw [List.length_map]; omega)) (fun k ys σ H'' e => ?_) (fun k ys σ H'' e => by rw [e.1]; exact Same.seq s2 hs) (fun k x ys σ H'' C hx e hC => ?_) (fun ys σ H'' e p3 hp3 => ?_)
     · obtain ⟨_, rfl, _⟩ := e
       rw [List.length_map, List.length_map, List.length_take]
       omega
     · obtain ⟨rfl, rfl, o, rfl⟩ := e
       rw [List.getElem?_map] at hx
       cases hni : sp[k]? with
       | none => rw [hni] at hx; cases hx
       | some n =>
         rw [hni] at hx
         cases hx
         have hn' := hsm n (List.mem_of_getElem? hni)
         have gr := hrw i _ (List.getElem?_eq_getElem hir)
         simp! []
         refine ⟨_, SqL.of (s2 _ _ hn), _, zU (j := i) (by rw [List.getElem?_map, List.getElem?_eq_getElem hir]; rfl), rs[i], rfl, _, SqL.of (s2 _ _ gr), V.bl (xH ps i n), zU (j := n) ?_, hC _ _ _ ⟨rfl, ?_, _, rfl⟩⟩
         · unfold jK
           rw [List.getElem?_map, List.getElem?_range hn']
           rfl
         · obtain ⟨hi, e⟩ := List.getElem?_eq_some_iff.mp hni
           rw [List.take_succ_eq_append_getElem hi, e, List.map_append, List.map_append]
           rfl
     obtain ⟨rfl, rfl, oo, rfl⟩ := e
     rw [List.length_map, List.take_of_length_le (Nat.le_refl _)]
     have s3 := zD hp3 (.lst ((sp.map fun a => xH ps i a).map V.bl))
     refine ⟨p3, rfl, _, SqL.of zB, ?_⟩
     have ea : ((sp.map fun a => xH ps i a).all id) = (sp.all fun a => xH ps a i) := by
       rw [List.all_map]
       congr 1
       funext a
       exact clOf_comm ps i a
     rw [ea]
     have hfl : ∀ b : Bool, (sp.all fun a => xH ps a i) = b -> (List.range (i + 1)).filter (fun i => sp.all fun a => xH ps a i) = (List.range i).filter (fun i => sp.all fun a => xH ps a i) ++ (if b = true then [i] else []) := fun b hb => by
       rw [List.range_succ, List.filter_append, List.filter_cons, List.filter_nil, hb]
     have hflen : ((List.range i).filter (fun i => sp.all fun a => xH ps a i)).length <= i := by
       have := List.length_filter_le (fun i => sp.all fun a => xH ps a i) (List.range i)
       rwa [List.length_range] at this
     cases hb : (sp.all fun a => xH ps a i) with
     | false =>
       rw [if_neg Bool.false_ne_true]
       refine ⟨s2.trans s3, ?_, _, rfl⟩
       rw [hfl false hb, if_neg Bool.false_ne_true, List.append_nil]
       exact s3 _ _ k2
     | true =>
       rw [if_pos rfl]
       refine ⟨.inl ⟨rfl, _, SqL.of (s3 _ _ k2)⟩, _, s3 _ _ k2, xO (by rw [List.length_map]; omega), (s2.trans s3).upd hp, ?_, _, rfl⟩
       rw [zB, hfl true hb, if_pos rfl, List.map_append]
       rfl
   · obtain ⟨o, s2, k2, rfl⟩ := h
     rw [Int.toNat_natCast] at k2
     exact hN _ _ ⟨_, s2, k2, rfl⟩
 obtain ⟨o, s2, k2, rfl⟩ := h
 simp! []
 exact q p _ s2 hp k2
end
abbrev s_B : Stmt := top 1
theorem sc_B : FnScope ["many", "pairs"] ["many", "pairs"] (zH s_B) := ⟨rfl, rfl, rfl, by decide +kernel, rfl, by decide +kernel, by decide +kernel⟩
abbrev s_s : Stmt := top 2
theorem sc_s : FnScope ["spots", "pairs", "clashes", "a", "i"] ["spots", "pairs"] (zH s_s) := ⟨rfl, rfl, rfl, by decide +kernel, rfl, by decide +kernel, by decide +kernel⟩
abbrev s_q : Stmt := top 3
theorem sc_q : FnScope ["spots", "pairs", "n"] ["spots", "pairs", "n"] (zH s_q) := ⟨rfl, rfl, rfl, by decide +kernel, rfl, by decide +kernel, by decide +kernel⟩
theorem qX {a : Addr} {xs : List V} {ns : List Str} {js : List Nat} {g : TG} {tc : TT} {te : TE} {σ : St} {H : Hp} {Q : VK} (Pv : Nat -> List V -> St -> Hp -> Prop) (h0 : Pv 0 [] (kC ns js σ) H) (hz : xs.length <= sizeLine) (hl : ∀ i ys σ H, Pv i ys σ H -> ys.length <= i)
   (hK : ∀ i ys σ H, Pv i ys σ H -> H a = some (.lst xs))
   (hs : ∀ (i : Nat) x ys σ H p (C : V -> St -> Hp -> Prop) (D : St -> Hp -> Prop), xs[i]? = some x -> Pv i ys σ H -> H p = none -> (∀ y σ2 H3, Pv (i + 1) (ys ++ [y]) σ2 H3 -> C y σ2 H3) -> (∀ σ2 H3, Pv (i + 1) ys σ2 H3 -> D σ2 H3) ->
     g (.ref p) σ (upd H p (.tup [.int i, x])) fun σ2 H2 => tc σ2 H2 fun b H3 => if b = true then te σ2 H3 fun y H4 => C y σ2 H4 else D σ2 H3)
   (hd : ∀ ys σ H, Pv xs.length ys σ H -> ∀ p, H p = none -> Q (.ref p) (upd H p (.lst ys))) :
   LcW (Ite a) ns js g (some tc) te σ H Q := by
 refine ⟨fun i m ys σ H => m = xs.length - i /\ i <= xs.length /\ Pv i ys σ H, ⟨xs.length, by omega, Nat.zero_le _, h0⟩, fun i m ys σ1 H1 ⟨hm, hi, hp⟩ => ?_⟩
 have k1 := hK i ys σ1 H1 hp
 by_cases h : i < xs.length
 · refine .inr ⟨⟨xs, xs[i], k1, List.getElem?_eq_getElem h⟩, ?_, fun x H' ⟨p, y, e1, e2, e3, e4⟩ => ?_⟩
   · have := hl i ys σ1 H1 hp
     omega
   · subst e1
     subst e3
     exact hs i y ys σ1 H1 p _ _ (e4 xs k1) hp e2 (fun y σ2 H3 q => ⟨xs.length - (i + 1), by omega, rfl, by omega, q⟩) fun σ2 H3 q => ⟨xs.length - (i + 1), by omega, rfl, by omega, q⟩
 · have e : i = xs.length := by omega
   subst e
   exact .inl ⟨⟨xs, k1, Nat.le_refl _⟩, hd ys σ1 H1 hp⟩
def plB (ls : List Ln) : List (List Key × V) := ls.map fun l => (yQ l.i l.j, V.bl true)
def rl (ls : List Ln) (i j : Nat) : Bool := zQ ls i j
theorem xZ (ls : List Ln) (i j : Int) : (yG (plB ls) (yQ i j)).isSome = zQ ls i j := by
 induction ls with
 | nil => rfl
 | cons l ls ih =>
   unfold zQ
   rw [List.any_cons]
   by_cases e : yQ l.i l.j = yQ i j
   · have h : yG (plB (l :: ls)) (yQ i j) = some (V.bl true) := yR e
     rw [h]
     have e' : l.i = i /\ l.j = j := by
       unfold yQ at e
       simp only [List.cons.injEq, Sum.inl.injEq, and_true] at e
       exact e
     simp [e'.1, e'.2]
   · have h : yG (plB (l :: ls)) (yQ i j) = yG (plB ls) (yQ i j) := yS e
     rw [h, ih]
     have e' : (l.i == i && l.j == j) = false := by
       rw [Bool.eq_false_iff]
       intro z
       simp only [Bool.and_eq_true, beq_iff_eq] at z
       exact e (by rw [z.1, z.2])
     rw [e', Bool.false_or]
     rfl
theorem dgB {H H' : Hp} {d p : Addr} {ls : List Ln} {i j : Int} (hd : H d = some (.dT (plB ls))) (es : Same H H') (hp : H' p = some (.tup [V.int i, V.int j])) : DGet H' d (.ref p) (yG (plB ls) (yQ i j)) := DGet.t (k := yQ i j) (es _ _ hd) hp
def yH (m : Nat) (R : Nat -> Nat -> Bool) : List Nat := (List.range m).filter fun n => !R n (tnN n)
def yV (sp : List Nat) (R : Nat -> Nat -> Bool) (n : Nat) : List Nat := (List.range sp.length).filter fun a => R (sp.getD a 0) n
def qS (sp : List Nat) (R : Nat -> Nat -> Bool) : List (Nat × Nat) := (List.range sp.length).flatMap fun a => ((List.range sp.length).filter fun b => decide (a < b) && R (sp.getD a 0) (tnN (sp.getD b 0))).map fun b => (a, b)
def spSb : Sp := fun vs H Q _ => ∃ (m : Nat) (d : Addr) (ls : List Ln), vs = [.int m, .ref d] /\ m <= 200 /\ H d = some (.dT (plB ls)) /\ ∀ p H', Same H H' -> H p = none -> H' p = some (.lst ((yH m (rl ls)).map nV)) -> Q (.ref p) H'
def spSu : Sp := fun vs H Q _ => ∃ (sa d : Addr) (sp : List Nat) (ls : List Ln) (n : Nat), vs = [.ref sa, .ref d, .int n] /\ H sa = some (.lst (sp.map nV)) /\ sp.length <= 200 /\ H d = some (.dT (plB ls)) /\ ∀ p H', Same H H' -> H p = none -> H' p = some (.lst ((yV sp (rl ls) n).map nV)) -> Q (.ref p) H'
def spCb : Sp := fun vs H Q _ => ∃ (sa d : Addr) (sp : List Nat) (ls : List Ln), vs = [.ref sa, .ref d] /\ H sa = some (.lst (sp.map nV)) /\ sp.length <= 60 /\ (∀ x ∈ sp, x < 200) /\ H d = some (.dT (plB ls)) /\ ∀ p us H', Same H H' -> H p = none -> H' p = some (.lst us) -> DAts H' ((qS sp (rl ls)).map dP2) us -> Q (.ref p) H'
section
variable {P : Program} {w : World} {K : PySem.W.Frag} {mg : Str -> Option Value} {base : Heap} {f : Addr} {fd : FuncData}
theorem ok_spots_by (bi : Bi mg) (F : Fun K "spots_by" "spots_by" s_B f fd) : FnOk P w K mg base CX0 1 f fd ["many", "pairs"] spSb := by
 refine F.ok sc_B (fun vs H Q E h => ?_) (fun cdv A outer s H vs Q E hr h => ?_)
 · obtain ⟨m, d, ls, rfl, _⟩ := h
   rfl
 obtain ⟨m, d, ls, rfl, hm, hd, q⟩ := h
 refine ⟨_, (zF (zZ (yW ["n"] ["pairs"] [1] (yO rfl bi.range (zA (pv 0) pa_nil)) (fun _ _ _ _ nd => zJ (i := 0) nd rfl (Or.inl rfl)) (fun _ _ _ _ => qO (uT (pc_dnotin (jC hr) (yA (zA (pv 0) (zA (zL op_xor (pv 0) zE) pa_nil))) (pv 1)) (by with_unfolding_all rfl))) (fun _ _ _ _ => (pv 0))))), ?_⟩
 simp! []
 refine ⟨by omega, by omega, ?_⟩
 refine lc_rangeIf (n := (m : Int).toNat) (fun i ys σ H' => Same H H' /\ ys = ((List.range i).filter fun n => !rl ls n (tnN n)).map nV /\ ∃ o, σ = [o, some (V.ref d)]) ⟨Same.refl _, rfl, _, rfl⟩ (zM (by omega)) (fun i ys σ H' e => ?_) (fun i ys σ H' C D hi e hC hD => ?_) (fun ys σ H' e p hp => ?_)
 · obtain ⟨_, rfl, _⟩ := e
   rw [List.length_map]
   exact Nat.le_trans (List.length_filter_le _ _) (by rw [List.length_range]; exact Nat.le_refl _)
 · obtain ⟨es, rfl, o, rfl⟩ := e
   simp! [tDNotIn]
   rw [show (0 : Int) + (i : Int) = (i : Int) by omega, xor1, qC]
   refine ⟨zM (by decide), fun p hp => ⟨_, dgB hd (es.trans (zD hp _)) zB, ?_⟩⟩
   have e2 := es.trans (zD hp (.tup [V.int (i : Int), V.int ((tnN i : Nat) : Int)]))
   rw [show (yG (plB ls) (yQ (i : Int) ((tnN i : Nat) : Int))).isSome = rl ls i (tnN i) from xZ ls _ _]
   cases c : rl ls i (tnN i) with
   | false =>
     rw [if_pos rfl]
     exact hC _ _ _ ⟨e2, by rw [List.range_succ, List.filter_append, List.map_append]; simp [c], _, rfl⟩
   | true =>
     rw [if_neg (by decide)]
     exact hD _ _ ⟨e2, by rw [List.range_succ, List.filter_append, List.map_append]; simp [c], _, rfl⟩
 · obtain ⟨es, rfl, o, rfl⟩ := e
   exact q p _ (es.trans (zD hp _)) (es.free hp) (by rw [zB]; rfl)
theorem uY (bi : Bi mg) (be : mg "enumerate" = none) (F : Fun K "spots_under" "spots_under" s_q f fd) : FnOk P w K mg base CX0 1 f fd ["spots", "pairs", "n"] spSu := by
 refine F.ok sc_q (fun vs H Q E h => ?_) (fun cdv A outer s H vs Q E hr h => ?_)
 · obtain ⟨sa, d, sp, ls, n, rfl, _⟩ := h
   rfl
 obtain ⟨sa, d, sp, ls, n, rfl, hs, hl, hd, q⟩ := h
 refine ⟨_, (zF (zZ (yW ["a", "i"] ["pairs", "n"] [1, 2] (jL rfl be (zA (pv 0) pa_nil)) (fun _ _ _ _ nd => qP (K := K) (n := 2) rfl (zX (zJ (i := 0) nd rfl (Or.inl rfl)) (zX (zJ (i := 1) nd rfl (Or.inl rfl)) pgs_nil))) (fun _ _ _ _ => qO (uT (qV (jC hr) (yA (zA (pv 1) (zA (pv 3) pa_nil))) (pv 2)) (by with_unfolding_all rfl))) (fun _ _ _ _ => (pv 0))))), ?_⟩
 simp! [uE]
 refine ⟨sp.map nV, hs, ?_⟩
 refine qX (xs := sp.map nV) (fun i ys σ H' => Same H H' /\ ys = ((List.range i).filter fun a => rl ls (sp.getD a 0) n).map nV /\ ∃ o1 o2, σ = [o1, o2, some (V.ref d), some (V.int n)]) ⟨Same.refl _, rfl, _, _, rfl⟩ (zM (by rw [List.length_map]; omega)) (fun i ys σ H' e => ?_) (fun i ys σ H' e => e.1 _ _ hs) (fun i x ys σ H' p C D hx e hp hC hD => ?_) (fun ys σ H' e p hp => ?_)
 · obtain ⟨_, rfl, _⟩ := e
   rw [List.length_map]
   exact Nat.le_trans (List.length_filter_le _ _) (by rw [List.length_range]; exact Nat.le_refl _)
 · obtain ⟨es, rfl, o1, o2, rfl⟩ := e
   rw [List.getElem?_map] at hx
   obtain ⟨y, hy, rfl⟩ := Option.map_eq_some_iff.mp hx
   have ey : sp.getD i 0 = y := by rw [List.getD_eq_getElem?_getD, hy]; rfl
   have e1 := es.trans (zD hp (.tup [V.int i, nV y]))
   simp! [qG, jE, gNil, tDIn]
   refine ⟨_, SqT.of zB, rfl, _, _, rfl, _, _, rfl, rfl, ?_⟩
   generalize upd H' p (.tup [V.int i, nV y]) = H1 at e1 ⊢
   refine ⟨zM (by decide), fun p2 hp2 => ⟨_, dgB hd (e1.trans (zD hp2 _)) zB, ?_⟩⟩
   have e2 := e1.trans (zD hp2 (.tup [V.int y, V.int n]))
   rw [show (yG (plB ls) (yQ (y : Int) (n : Int))).isSome = rl ls y n from xZ ls _ _]
   cases c : rl ls y n with
   | true =>
     rw [if_pos rfl]
     exact hC _ _ _ ⟨e2, by rw [List.range_succ, List.filter_append, List.map_append, List.filter_cons, ey, c]; rfl, _, _, rfl⟩
   | false =>
     rw [if_neg (by decide)]
     exact hD _ _ ⟨e2, by rw [List.range_succ, List.filter_append, List.map_append, List.filter_cons, ey, c]; simp, _, _, rfl⟩
 · obtain ⟨es, rfl, _⟩ := e
   exact q p _ (es.trans (zD hp _)) (es.free hp) (by rw [zB, List.length_map]; rfl)
theorem vQ (bi : Bi mg) (be : mg "enumerate" = none) (F : Fun K "clashes_by" "clashes_by" s_s f fd) : FnOk P w K mg base CX0 1 f fd ["spots", "pairs"] spCb := by
 refine F.ok sc_s (fun vs H Q E h => ?_) (fun cdv A outer s H vs Q E hr h => ?_)
 · obtain ⟨sa, d, sp, ls, rfl, _⟩ := h
   rfl
 obtain ⟨sa, d, sp, ls, rfl, hs, hl, hlt, hd, q⟩ := h
 refine ⟨_, (zC (zO (i := 2) sc_s.nd rfl (Or.inl rfl) (yX pa_nil)) (zC (yK PassesOwn.never rfl (jL rfl be (zA (pv 0) pa_nil)) (jM rfl (zX (zJ (i := 3) sc_s.nd rfl (Or.inr rfl)) (zX (zJ (i := 4) sc_s.nd rfl (Or.inr rfl)) pgs_nil))) (zF (zV (xQ PySem.F.plainAttrs_list PySem.F.slot_list_extend PySem.F.type_list_extend mt_extend (pv 2) (zA (yW ["b", "j"] ["a", "pairs", "i"] [3, 1, 4] (jL rfl be (zA (pv 0) pa_nil)) (fun _ _ _ _ nd => qP (K := K) (n := 2) rfl (zX (zJ (i := 0) nd rfl (Or.inl rfl)) (zX (zJ (i := 1) nd rfl (Or.inl rfl)) pgs_nil))) (fun _ _ _ _ => qO (PW.pt (uS (zY op_lt (pv 2) (pv 0) (yD _)) (qM (uT (qV (jC hr) (yA (zA (pv 4) (zA (zL op_xor (pv 1) zE) pa_nil))) (pv 3)) (by with_unfolding_all rfl)))))) (fun _ _ _ _ => (yA (zA (pv 2) (zA (pv 0) pa_nil))))) pa_nil))))) (zF (zZ (pv 2))))), ?_⟩
 refine zI fun N hN => ?_
 simp! []
 refine ⟨zM (by decide), fun p hp => hN _ _ ?_⟩
 clear hN
 have s0 := zD hp (.lst [])
 have k0 : upd H p (.lst []) p = some (.lst []) := zB
 generalize upd H p (.lst []) = H0 at s0 k0 ⊢
 refine zW (fun σ H' => ∃ (us : List V) (o3 o4 : Option V), Same H H' /\ H' p = some (.lst us) /\ DAts H' ((qS sp (rl ls)).map dP2) us /\ σ = [some (V.ref sa), some (V.ref d), some (V.ref p), o3, o4]) (fun N hN => ?_) (fun σ H' h => ?_)
 · simp! [uE]
   refine ⟨sp.map nV, s0 _ _ hs, ?_⟩
   refine uO (xs := sp.map nV) (fun i σ H' => ∃ (us : List V) (o3 o4 : Option V), Same H H' /\ H' p = some (.lst us) /\ DAts H' (((List.range i).flatMap fun a => ((List.range sp.length).filter fun b => decide (a < b) && rl ls (sp.getD a 0) (tnN (sp.getD b 0))).map fun b => (a, b)).map dP2) us /\ us.length <= 60 * i /\ σ = [some (V.ref sa), some (V.ref d), some (V.ref p), o3, o4]) ⟨[], _, _, s0, k0, rfl, Nat.le_refl _, rfl⟩ (fun i σ H' h => by obtain ⟨_, _, _, e, _⟩ := h; exact e _ _ hs) (fun i x σ H' p1 hx h hp1 => ?_) (fun σ H' h => ?_)
   · obtain ⟨us, o3, o4, es, kp, hd1, hul, rfl⟩ := h
     rw [List.getElem?_map] at hx
     obtain ⟨y, hy, rfl⟩ := Option.map_eq_some_iff.mp hx
     have ey : sp.getD i 0 = y := by rw [List.getD_eq_getElem?_getD, hy]; rfl
     have hi := (List.getElem?_eq_some_iff.mp hy).1
     have e1 := zD hp1 (.tup [V.int i, nV y])
     simp! [qG, jE, gNil, uE, rExtend]
     refine ⟨_, SqT.of zB, rfl, _, _, rfl, _, _, rfl, rfl, .inl ⟨rfl, _, SqL.of (e1 _ _ kp)⟩, sp.map nV, (es.trans e1) _ _ hs, ?_⟩
     replace kp := e1 _ _ kp
     replace hd1 := DAts.same e1 hd1
     replace es := es.trans e1
     generalize upd H' p1 (.tup [V.int i, nV y]) = H1 at kp hd1 es ⊢
     refine qX (xs := sp.map nV) (fun j ys σ H2 => Same H1 H2 /\ DAts H2 ((((List.range j).filter fun b => decide (i < b) && rl ls y (tnN (sp.getD b 0))).map fun b => (i, b)).map dP2) ys /\ ys.length <= j /\ ∃ o1 o2, σ = [o1, o2, some (V.int i), some (V.ref d), some (V.int y)]) ⟨Same.refl _, rfl, Nat.le_refl _, _, _, rfl⟩ (zM (by rw [List.length_map]; omega)) (fun j ys σ H2 e => e.2.2.1) (fun j ys σ H2 e => (es.trans e.1) _ _ hs) (fun j x ys σ H2 p2 C D hx e hp2 hC hD => ?_) (fun ys σ H2 e p2 hp2 => ?_)
     · obtain ⟨e2, hys, hyl, o1, o2, rfl⟩ := e
       rw [List.getElem?_map] at hx
       obtain ⟨u, hu, rfl⟩ := Option.map_eq_some_iff.mp hx
       have eu : sp.getD j 0 = u := by rw [List.getD_eq_getElem?_getD, hu]; rfl
       have e3 := e2.trans (zD hp2 (.tup [V.int j, nV u]))
       replace hys := DAts.same (zD hp2 (.tup [V.int j, nV u])) hys
       simp! [qG, jE, gNil, tDIn]
       refine ⟨_, SqT.of zB, rfl, _, _, rfl, _, _, rfl, rfl, ?_⟩
       generalize upd H2 p2 (.tup [V.int j, nV u]) = H3 at e3 hys ⊢
       have no : (decide (i < j) && rl ls y (tnN (sp.getD j 0))) = false -> ∀ H4, Same H3 H4 -> D [some (V.int j), some (V.int u), some (V.int i), some (V.ref d), some (V.int y)] H4 := fun c H4 e4 => hD _ _ ⟨e3.trans e4, by rw [List.range_succ, List.filter_append, List.filter_cons, c]; simpa using DAts.same e4 hys, by omega, _, _, rfl⟩
       refine ⟨_, rfl, ?_⟩
       by_cases c1 : i < j
       · rw [if_pos (by omega)]
         refine ⟨_, rfl, ?_⟩
         rw [xor1, qC]
         refine ⟨zM (by decide), fun p3 hp3 => ⟨_, dgB hd ((es.trans e3).trans (zD hp3 _)) zB, ?_⟩⟩
         have e4 := zD hp3 (.tup [V.int y, V.int ((tnN u : Nat) : Int)])
         rw [show (yG (plB ls) (yQ (y : Int) ((tnN u : Nat) : Int))).isSome = rl ls y (tnN u) from xZ ls _ _]
         cases c : rl ls y (tnN u) with
         | true =>
           rw [if_pos rfl]
           refine ⟨zM (by decide), fun p4 hp4 => hC _ _ _ ⟨(e3.trans e4).trans (zD hp4 _), ?_, by rw [List.length_append]; simp; omega, _, _, rfl⟩⟩
           rw [List.range_succ, List.filter_append, List.filter_cons, eu, c, decide_eq_true c1, List.map_append, List.map_append]
           exact DAts.append (DAts.same (e4.trans (zD hp4 _)) hys) (DAts.one ⟨p4, _, rfl, zB, _, _, rfl, rfl, _, _, rfl, rfl, rfl⟩)
         | false =>
           rw [if_neg (by decide)]
           exact no (by rw [eu, c, Bool.and_false]) _ e4
       · rw [if_neg (by omega)]
         exact no (by rw [decide_eq_false c1, Bool.false_and]) _ (Same.refl _)
     · obtain ⟨e2, hys, hyl, o1, o2, rfl⟩ := e
       rw [List.length_map] at hys hyl
       have kp2 := e2 _ _ kp
       have n2 : p2 ≠ p := fun z => by rw [z, kp2] at hp2; cases hp2
       have e3 := zD hp2 (.lst ys)
       refine ⟨p2, rfl, us, e3 _ _ kp2, ys, zB, Nat.le_trans (m := 1000000) (by omega) (by decide), ?_⟩
       have kp3 := e3 _ _ kp2
       have tsm : TupSame (upd H2 p2 (.lst ys)) (upd (upd H2 p2 (.lst ys)) p (.lst (us ++ ys))) := (TupSame.refl _).upd_lst kp3
       refine ⟨((es.trans e2).trans e3).upd hp, us ++ ys, zB, ?_, by rw [List.length_append]; omega, _, rfl⟩
       rw [List.range_succ, List.flatMap_append, List.map_append]
       refine DAts.append (uX (e2.tups.trans (e3.tups.trans tsm)) hd1) ?_
       rw [List.flatMap_cons, List.flatMap_nil, List.append_nil, ey]
       exact uX (e3.tups.trans tsm) hys
   · obtain ⟨us, o3, o4, es, kp, hd1, _, rfl⟩ := h
     rw [List.length_map] at hd1
     exact hN _ _ ⟨us, _, _, es, kp, hd1, rfl⟩
 obtain ⟨us, o3, o4, es, kp, hd1, rfl⟩ := h
 simp! []
 exact q p us _ es hp kp hd1
end
abbrev s_w : Stmt := top 4
theorem sc_w : FnScope ["sheet", "lines", "pairs", "spots", "names"] ["sheet", "lines"] (zH s_w) := ⟨rfl, rfl, rfl, by decide +kernel, rfl, by decide +kernel, by decide +kernel⟩
theorem hu2_of {A : Around} {k : Nat} (hr : Room k A) : A.units + 2 < cLine := Nat.lt_of_le_of_lt (Nat.add_le_add_left (by decide : 2 <= 64) _) hr.units
theorem perm_map_ex {α β : Type} {f : α -> β} {l' l : List β} (h : l'.Perm l) : ∀ T : List α, l = T.map f -> ∃ T' : List α, T'.Perm T /\ l' = T'.map f := by
 induction h with
 | nil => intro T e; exact ⟨T, List.Perm.refl _, e⟩
 | cons x _ ih =>
   intro T e
   cases T with
   | nil => cases e
   | cons t T1 =>
     rw [List.map_cons] at e
     obtain ⟨e1, e2⟩ := List.cons.inj e
     obtain ⟨T', p, e3⟩ := ih T1 e2
     exact ⟨t :: T', p.cons _, by rw [List.map_cons, e1, e3]⟩
 | swap x y l =>
   intro T e
   cases T with
   | nil => cases e
   | cons t1 T =>
     cases T with
     | nil => cases (List.cons.inj e).2
     | cons t2 T1 =>
       rw [List.map_cons, List.map_cons] at e
       obtain ⟨e1, e2⟩ := List.cons.inj e
       obtain ⟨e2, e3⟩ := List.cons.inj e2
       exact ⟨t2 :: t1 :: T1, List.Perm.swap .., by rw [List.map_cons, List.map_cons, e1, e2, e3]⟩
 | trans _ _ ih1 ih2 =>
   intro T e
   obtain ⟨T1, p1, e1⟩ := ih2 T e
   obtain ⟨T2, p2, e2⟩ := ih1 T1 e1
   exact ⟨T2, p2.trans p1, e2⟩
def nmR (rows : List Rw) (k : Nat) : Option Str := match rows[k]? with | some (.nm x) => some x | _ => none
def nmK (rows : List Rw) : List (Str × Nat) := (List.range rows.length).filterMap fun k => (nmR rows k).map fun x => (x, k)
abbrev Ro := Addr × Str × Addr × List Nat
def TrAt (H : Hp) (m : Nat) (T : List Ro) : Prop := ∀ e ∈ T, H e.1 = some (.tup [.str e.2.1, .ref e.2.2.1]) /\ H e.2.2.1 = some (.lst (e.2.2.2.map nV)) /\ (∀ i ∈ e.2.2.2, i < m) /\ e.2.2.2.Pairwise (· < ·)
theorem TrAt.same {H H' : Hp} {m : Nat} {T : List Ro} (e : Same H H') (h : TrAt H m T) : TrAt H' m T := fun r hr => let ⟨h1, h2, h3⟩ := h r hr; ⟨e _ _ h1, e _ _ h2, h3⟩
structure WoAt (H0 H : Hp) (wa : Addr) (sp : List Nat) (rows : List Rw) (ls : List Ln) (T : List Ro) (ca la : Addr) (us : List V) : Prop where
 tup : H wa = some (.tup [nV sp.length, .ref ca, .ref la])
 cl : H ca = some (.lst us)
 dat : DAts H ((qS sp (rl ls)).map dP2) us
 lst : H la = some (.lst ((T.map (·.1)).map V.ref))
 tr : TrAt H sp.length T
 is : ∀ e ∈ T, ∃ k, (e.2.1, k) ∈ nmK rows /\ e.2.2.2 = yV sp (rl ls) (2 * k)
 perm : (T.map (·.2.1)).Perm ((nmK rows).map (·.1))
 srt : (T.map (·.2.1)).Pairwise (fun x y => x.cps.toList < y.cps.toList)
 nd : (la :: ca :: T.map (·.2.2.1)).Nodup
 fc : H0 ca = none
 fl : H0 la = none
 ft : ∀ e ∈ T, H0 e.2.2.1 = none
def spWo26 : Sp := fun vs H Q _ => ∃ (sa la : Addr) (us ws : List V) (rows : List Rw) (ls : List Ln), vs = [.ref sa, .ref la] /\ H sa = some (.lst us) /\ jI H rows us /\ rows.length <= 30 /\ (nmK rows).length <= 3 /\ ((nmK rows).map (·.1)).Nodup /\ H la = some (.lst ws) /\ vL H ls ws /\ ls.length <= 10000 /\ (ls.map fun l => yQ l.i l.j).Nodup /\
 (zQ ls 1 0 = true -> ∀ H', Same H H' -> Q .non H') /\ (zQ ls 1 0 = false -> ∀ wa T ca ra vs H', Same H H' -> WoAt H H' wa (yH (2 * rows.length) (rl ls)) rows ls T ca ra vs -> Q (.ref wa) H')
section
variable {P : Program} {w : World} {K : PySem.W.Frag} {mg : Str -> Option Value} {base : Heap} {f : Addr} {fd : FuncData}
theorem ok_world_of (bi : Bi mg) (be : mg "enumerate" = none) (h_B : Has P w K mg base 1 "spots_by" ["many", "pairs"] spSb) (h_q : Has P w K mg base 1 "spots_under" ["spots", "pairs", "n"] spSu) (h_s : Has P w K mg base 1 "clashes_by" ["spots", "pairs"] spCb) (F : Fun K "world_of" "world_of" s_w f fd) : FnOk P w K mg base CX0 2 f fd ["sheet", "lines"] spWo26 := by
 refine F.ok sc_w (fun vs H Q E h => ?_) (fun cdv A outer s H vs Q E hr h => ?_)
 · obtain ⟨sa, la, us, ws, rows, ls, rfl, _⟩ := h
   rfl
 obtain ⟨sa, la, us, ws, rows, ls, rfl, hsa, hrw, hrl, hn3, hnn, hla, hls, hll, hkn, qn, qw⟩ := h
 refine ⟨_, (zC (zO (i := 2) sc_w.nd rfl (Or.inr rfl) (jY (call_dictPT (hu2_of hr)) rfl bi.dict bt_dict (zA (yW ["line"] [] [] (yI (pv 1)) (fun _ _ _ _ nd => zJ (i := 0) nd rfl (Or.inl rfl)) (fun _ _ _ _ => yY) (fun _ _ _ _ => (yA (zA (yA (zA (zN (jB K) (pv 0) zE (fun _ _ => rfl)) (zA (zN (jB K) (pv 0) zE (fun _ _ => rfl)) pa_nil))) (zA xL pa_nil))))) pa_nil))) (zC (yP (uT (qV (jC hr) (yA (zA zE (zA zE pa_nil))) (pv 2)) (by with_unfolding_all rfl)) (zF (zZ pe_non)) pss_nil) (zC (zO (i := 3) sc_w.nd rfl (Or.inr rfl) (zP h_B (hr.mono (by omega)) rfl (zA (zL op_mul zE (zK call_len rfl bi.len bt_len (zA (pv 0) pa_nil))) (zA (pv 2) pa_nil)))) (zC (uI (i := 4) ["k", "row"] ["spots", "pairs"] [3, 2] sc_w.nd rfl (jL rfl be (zA (pv 0) pa_nil)) (fun _ _ _ _ nd => qP (K := K) (n := 2) rfl (zX (zJ (i := 0) nd rfl (Or.inl rfl)) (zX (zJ (i := 1) nd rfl (Or.inl rfl)) pgs_nil))) (fun _ _ _ _ => qO (zY op_eq (zN (jB K) (pv 1) zE (fun _ _ => rfl)) yL (yD _))) (fun _ _ _ _ => (yA (zA (zN (jB K) (pv 1) zE (fun _ _ => rfl)) (zA (zP h_q (hr.mono (by omega)) rfl (zA (pv 2) (zA (pv 3) (zA (zL op_mul zE (pv 0)) pa_nil)))) pa_nil))))) (zF (zZ (yA (zA (zK call_len rfl bi.len bt_len (zA (pv 3) pa_nil)) (zA (zP h_s (hr.mono (by omega)) rfl (zA (pv 3) (zA (pv 2) pa_nil))) (zA (zK call_sortedO rfl bi.sorted bt_sorted (zA (pv 4) pa_nil)) pa_nil)))))))))), ?_⟩
 refine zI fun N hN => ?_
 simp! []
 have hwl : ws.length = ls.length := by have := DAts.length hls; rwa [List.length_map] at this
 refine ⟨⟨_, SqL.of hla⟩, ?_⟩
 refine xU (xs := ws) (fun i ys σ H' => Same H H' /\ (∃ as bs : List Addr, ys = as.map V.ref /\ as.length = i /\ bs.length = i /\ ∀ (j : Nat) (a b : Addr) (l : Ln), as[j]? = some a -> bs[j]? = some b -> ls[j]? = some l -> H' a = some (.tup [.ref b, .bl true]) /\ H' b = some (.tup ((yQ l.i l.j).map kV))) /\ ∃ o, σ = [o]) ⟨Same.refl _, ⟨[], [], rfl, rfl, rfl, fun j a b l h => by simp at h⟩, _, rfl⟩ (Nat.le_trans (m := 1000000) (by omega) (by decide)) (fun i ys σ H' e => ?_) (fun i ys σ H' e => SqL.of (e.1 _ _ hla)) (fun i x ys σ H' C hx e hC => ?_) (fun ys σ H' e p hp => ?_)
 · obtain ⟨_, ⟨as, bs, rfl, h1, _⟩, _⟩ := e
   rw [List.length_map, h1]; exact Nat.le_refl _
 · obtain ⟨es, ⟨as, bs, rfl, h1, h2, h3⟩, o, rfl⟩ := e
   obtain ⟨l, hl, hx'⟩ := yZ hls hx
   obtain ⟨a0, b0, us0, rfl, g1, _⟩ := LnAt.out hx'
   replace g1 := es _ _ g1
   simp! []
   refine ⟨_, SqT.of g1, _, at0, _, SqT.of g1, _, zU (j := 1) rfl, zM (by decide), fun b' hb' => ⟨zM (by decide), fun a' ha' => hC _ _ _ ?_⟩⟩
   have e1 := zD hb' (.tup [V.int l.i, V.int l.j])
   have e2 := zD ha' (.tup [V.ref b', V.bl true])
   refine ⟨es.trans (e1.trans e2), ⟨as ++ [a'], bs ++ [b'], by rw [List.map_append]; rfl, by rw [List.length_append, h1]; rfl, by rw [List.length_append, h2]; rfl, fun j a b l' ha hb hl' => ?_⟩, _, rfl⟩
   by_cases hj : j < i
   · rw [List.getElem?_append_left (by omega)] at ha hb
     obtain ⟨k1, k2⟩ := h3 j a b l' ha hb hl'
     exact ⟨(e1.trans e2) _ _ k1, (e1.trans e2) _ _ k2⟩
   · have ej : j = i := by
       have := (List.getElem?_eq_some_iff.mp ha).1
       rw [List.length_append] at this
       simp at this
       omega
     rw [ej, ← h1, List.getElem?_append_right (Nat.le_refl _)] at ha
     rw [ej, ← h2, List.getElem?_append_right (Nat.le_refl _)] at hb
     simp at ha hb
     subst ha hb
     rw [ej, hl] at hl'
     cases hl'
     exact ⟨zB, e2 _ _ zB⟩
 obtain ⟨es, ⟨as, bs, rfl, h1, h2, h3⟩, o, rfl⟩ := e
 have e1 := zD hp (.lst (as.map V.ref))
 refine ⟨p, rfl, as, SqL.of zB, plB ls, by unfold plB; rw [List.length_map]; omega, by unfold plB; rw [List.map_map]; exact hkn, fun i k v hi => ?_, fun d hd => hN _ _ ?_⟩
 · unfold plB at hi
   rw [List.getElem?_map] at hi
   obtain ⟨l, hl, el⟩ := Option.map_eq_some_iff.mp hi
   cases el
   have hil := (List.getElem?_eq_some_iff.mp hl).1
   obtain ⟨k1, k2⟩ := h3 i as[i] bs[i] l (List.getElem?_eq_getElem (by omega)) (List.getElem?_eq_getElem (by omega)) hl
   exact ⟨_, List.getElem?_eq_getElem (by omega), _, SqT.of (e1 _ _ k1), e1 _ _ k2⟩
 clear hN h3
 have s1 := (es.trans e1).trans (zD hd (.dT (plB ls)))
 have kd : upd (upd H' p (.lst (as.map V.ref))) d (.dT (plB ls)) d = some (.dT (plB ls)) := zB
 generalize upd (upd H' p (.lst (as.map V.ref))) d (.dT (plB ls)) = H1 at s1 kd ⊢
 clear es e1 hp hd h1 h2
 refine zI fun N hN => ?_
 simp! [tDIn]
 refine ⟨zM (by decide), fun p hp => ⟨_, dgB kd (zD hp _) zB, ?_⟩⟩
 replace s1 := s1.trans (zD hp (.tup [V.int 1, V.int 0]))
 replace kd := zD hp (.tup [V.int 1, V.int 0]) _ _ kd
 rw [xZ]
 generalize upd H1 p (.tup [V.int 1, V.int 0]) = H2 at s1 kd ⊢
 cases c : zQ ls 1 0 with
 | true =>
   rw [if_pos rfl]
   exact qn c _ s1
 | false =>
 rw [if_neg (by decide)]
 refine hN _ _ ?_
 clear hN qn hp
 have qw := qw c
 refine zI fun N hN => ?_
 simp! []
 have hul : us.length = rows.length := by have := DAts.length hrw; rwa [List.length_map] at this
 refine ⟨us.length, .inl ⟨_, SqL.of (s1 _ _ hsa), rfl⟩, .inl ⟨by decide, by decide⟩, 2 * rows.length, d, ls, by rw [hul]; rfl, by omega, kd, fun ps H3 s3 fps kps => hN _ _ ?_⟩
 clear hN
 replace s1 := s1.trans s3
 replace kd := s3 _ _ kd
 clear fps
 refine zI fun N hN => ?_
 simp! [uE]
 have hm60 : (yH (2 * rows.length) (rl ls)).length <= 60 := Nat.le_trans (List.length_filter_le _ _) (by rw [List.length_range]; omega)
 have hsl : ∀ x ∈ yH (2 * rows.length) (rl ls), x < 200 := fun x hx => by have := List.mem_range.mp (List.mem_filter.mp hx).1; omega
 have hud : ∀ n, (∀ i ∈ yV (yH (2 * rows.length) (rl ls)) (rl ls) n, i < (yH (2 * rows.length) (rl ls)).length) /\ (yV (yH (2 * rows.length) (rl ls)) (rl ls) n).Pairwise (· < ·) := fun n => ⟨fun i hi => List.mem_range.mp (List.mem_filter.mp hi).1, List.Pairwise.filter _ List.pairwise_lt_range⟩
 have e0 : ∀ {q : Nat -> Option (Str × Nat)} {i : Nat}, (List.range (i + 1)).filterMap q = (List.range i).filterMap q ++ (q i).toList := fun {q i} => by
   rw [List.range_succ, List.filterMap_append]
   cases h : q i <;> simp [h]
 generalize yH (2 * rows.length) (rl ls) = sp at kps qw hm60 hsl hud
 refine ⟨us, s1 _ _ hsa, ?_⟩
 refine qX (xs := us) (fun i ys σ H' => Same H3 H' /\ (∃ T : List Ro, ys = (T.map (·.1)).map V.ref /\ T.length <= i /\ TrAt H' sp.length T /\ (T.map fun e => (e.2.1, e.2.2.2)) = ((List.range i).filterMap fun k => (nmR rows k).map fun x => (x, k)).map (fun q => (q.1, yV sp (rl ls) (2 * q.2))) /\ (∀ e ∈ T, H3 e.2.2.1 = none) /\ (T.map (·.2.2.1)).Nodup) /\ ∃ o1 o2, σ = [o1, o2, some (V.ref ps), some (V.ref d)]) ⟨Same.refl _, ⟨[], rfl, Nat.le_refl _, (fun e he => by cases he), rfl, (fun e he => by cases he), .nil⟩, _, _, rfl⟩ (zM (by omega)) (fun i ys σ H' e => ?_) (fun i ys σ H' e => (s1.trans e.1) _ _ hsa) (fun i x ys σ H' p C D hx e hp hC hD => ?_) (fun ys σ H' e p hp => hN _ _ ?_)
 · obtain ⟨_, ⟨T, rfl, h1, _⟩, _⟩ := e
   rw [List.length_map, List.length_map]; exact h1
 · obtain ⟨es, ⟨T, rfl, h1, h2, h3, h4, h5⟩, o1, o2, rfl⟩ := e
   obtain ⟨r, hri, hr1⟩ := yZ hrw hx
   obtain ⟨ra, x, us', rfl, g1, g2⟩ := RwAt.out hr1
   have e1 := zD hp (.tup [V.int i, V.ref ra])
   have g1' := (s1.trans (es.trans e1)) _ _ g1
   replace h2 := h2.same e1
   replace es := es.trans e1
   simp! [qG, jE, gNil]
   refine ⟨_, SqT.of zB, rfl, _, _, rfl, _, _, rfl, rfl, ?_⟩
   generalize upd H' p (.tup [V.int i, V.ref ra]) = H4 at es g1' h2 ⊢
   have no : nmR rows i = none -> D [some (V.int i), some (V.ref ra), some (V.ref ps), some (V.ref d)] H4 := fun hn => hD _ _ ⟨es, ⟨T, rfl, by omega, h2, by rw [e0, hn]; simpa using h3, h4, h5⟩, _, _, rfl⟩
   refine ⟨_, rfl, _, SqT.of g1', _, at0, rfl, ?_⟩
   cases r with
   | no =>
     obtain ⟨rfl, rfl⟩ := g2
     rw [if_neg (by decide)]
     exact no (by unfold nmR; rw [hri])
   | bo i' j' =>
     obtain ⟨rfl, rfl⟩ := g2
     rw [if_neg (by decide)]
     exact no (by unfold nmR; rw [hri])
   | nm y =>
   obtain ⟨rfl, rfl⟩ := g2
   rw [if_pos rfl]
   have hn : nmR rows i = some y := by unfold nmR; rw [hri]
   refine ⟨ra, rfl, _, SqT.of g1', _, at1, _, rfl, .inl ⟨by decide, by decide⟩, ps, d, sp, ls, 2 * i, by rw [show (2 : Int) * (i : Int) = ((2 * i : Nat) : Int) by omega], es _ _ kps, by omega, es _ _ kd, fun pl H5 s5 fpl kpl => ⟨zM (by decide), fun p4 hp4 => hC _ _ _ ?_⟩⟩
   have e5 := zD hp4 (.tup [V.str y, V.ref pl])
   refine ⟨es.trans (s5.trans e5), ⟨T ++ [(p4, y, pl, yV sp (rl ls) (2 * i))], by rw [List.map_append, List.map_append]; rfl, by rw [List.length_append]; simp; omega, fun e he => ?_, ?_, fun e he => ?_, ?_⟩, _, _, rfl⟩
   · rcases List.mem_append.mp he with he | he
     · exact (h2.same (s5.trans e5)) e he
     · rw [List.mem_singleton.mp he]
       exact ⟨zB, e5 _ _ kpl, hud _⟩
   · rw [e0, hn, List.map_append, List.map_append, h3]
     rfl
   · rcases List.mem_append.mp he with he | he
     · exact h4 e he
     · rw [List.mem_singleton.mp he]
       exact es.free fpl
   · rw [List.map_append, List.nodup_append]
     refine ⟨h5, by simp, fun a ha b hb e => ?_⟩
     rw [List.map_cons, List.map_nil, List.mem_singleton] at hb
     obtain ⟨t, ht, rfl⟩ := List.mem_map.mp ha
     have := (h2 t ht).2.1
     rw [e, hb, fpl] at this
     cases this
 clear hN
 obtain ⟨es, ⟨T, rfl, h1, h2, h3, h4, h5⟩, o1, o2, rfl⟩ := e
 have e1 := zD hp (.lst ((T.map (·.1)).map V.ref))
 have k4 : upd H' p (.lst ((T.map (·.1)).map V.ref)) p = some (.lst ((T.map (·.1)).map V.ref)) := zB
 replace h2 := h2.same e1
 replace es := es.trans e1
 generalize upd H' p (.lst ((T.map (·.1)).map V.ref)) = H4 at es k4 h2 ⊢
 rw [hul] at h3
 have h3n : T.map (·.2.1) = (nmK rows).map (·.1) := by
   have := congrArg (List.map Prod.fst) h3
   rwa [List.map_map, List.map_map] at this
 simp! []
 refine ⟨sp.length, .inl ⟨_, SqL.of (es _ _ kps), (List.length_map _).symm⟩, ps, d, sp, ls, rfl, es _ _ kps, hm60, hsl, es _ _ kd, fun ca vs H5 s5 fca kca hdc => ?_⟩
 have h2' := h2.same s5
 refine ⟨T.map (·.1), s5 _ _ k4, T.map (·.2.1), by rw [List.length_map, List.length_map], by rw [h3n, List.length_map]; exact hn3, by rw [h3n]; exact hnn, fun i a z ha hz => ?_, fun l as' zs' hl hpa hpz hal hco hso => ⟨zM (by decide), fun wa hwa => ?_⟩⟩
 · rw [List.getElem?_map] at ha hz
   obtain ⟨t, ht, rfl⟩ := Option.map_eq_some_iff.mp ha
   rw [ht] at hz
   cases hz
   exact ⟨_, (h2' t (List.mem_of_getElem? ht)).1⟩
 obtain ⟨T', hT, rfl⟩ := perm_map_ex hpa T rfl
 have ez : zs' = T'.map (·.2.1) := by
   refine List.ext_getElem? fun i => ?_
   rw [List.getElem?_map]
   rw [List.length_map] at hal
   cases hi : T'[i]? with
   | none =>
     rw [List.getElem?_eq_none_iff] at hi
     rw [Option.map_none, List.getElem?_eq_none_iff]
     omega
   | some t =>
     have hil := (List.getElem?_eq_some_iff.mp hi).1
     have hz : zs'[i]? = some zs'[i] := List.getElem?_eq_getElem (by omega)
     obtain ⟨j, hj1, hj2⟩ := hco i t.1 zs'[i] (by rw [List.getElem?_map, hi]; rfl) hz
     rw [List.getElem?_map] at hj1 hj2
     obtain ⟨u, hu, eu⟩ := Option.map_eq_some_iff.mp hj1
     rw [hu] at hj2
     have a1 := (h2' u (List.mem_of_getElem? hu)).1
     have a2 := (h2' t (hT.mem_iff.mp (List.mem_of_getElem? hi))).1
     rw [eu, a2] at a1
     have : t.2.1 = u.2.1 := by
       have := Option.some.inj a1
       injection this with this
       injection this with this _
       injection this
     rw [hz, Option.map_some, this]
     exact hj2.symm
 subst ez
 have el := zD hl (.lst ((T'.map (·.1)).map V.ref))
 have ew := zD hwa (.tup [V.int sp.length, V.ref ca, V.ref l])
 have elw := el.trans ew
 have hall : Same H4 (upd (upd H5 l (.lst ((T'.map (·.1)).map V.ref))) wa (.tup [V.int sp.length, V.ref ca, V.ref l])) := s5.trans elw
 refine qw wa T' ca l vs _ ((s1.trans es).trans hall) ⟨zB, elw _ _ kca, DAts.same elw hdc, ew _ _ zB, fun e he => (h2.same hall) e (hT.mem_iff.mp he), fun e he => ?_, ?_, hso, ?_, s1.free (es.free fca), s1.free (es.free (s5.free hl)), fun e he => s1.free (h4 e (hT.mem_iff.mp he))⟩
 · have : (e.2.1, e.2.2.2) ∈ T.map fun e => (e.2.1, e.2.2.2) := List.mem_map.mpr ⟨e, hT.mem_iff.mp he, rfl⟩
   rw [h3] at this
   obtain ⟨q, hq, eq⟩ := List.mem_map.mp this
   injection eq with q1 q2
   exact ⟨q.2, by rw [← q1]; exact hq, q2.symm⟩
 · rw [← h3n]
   exact hT.map _
 · have inT : ∀ a ∈ T'.map (·.2.2.1), H4 a ≠ none := fun a ha => by
     obtain ⟨t, ht, rfl⟩ := List.mem_map.mp ha
     rw [(h2 t (hT.mem_iff.mp ht)).2.1]
     exact fun z => by cases z
   refine List.nodup_cons.mpr ⟨fun hm => ?_, List.nodup_cons.mpr ⟨fun hm => inT _ hm fca, (hT.map _).nodup_iff.mpr h5⟩⟩
   rcases List.mem_cons.mp hm with e | hm
   · rw [e, kca] at hl
     cases hl
   · exact inT _ hm (s5.free hl)
end
abbrev s_h : Stmt := top 27
theorem sc_h : FnScope ["world", "most", "last", "pair", "near", "word", "one"] ["world", "most"] (zH s_h) := ⟨rfl, rfl, rfl, by decide +kernel, rfl, by decide +kernel, by decide +kernel⟩
def ltP (p q : Nat × Nat) : Prop := p.1 < q.1 \/ (p.1 = q.1 /\ p.2 < q.2)
theorem nd_leN : ∀ (xs ys : List Nat), xs.Nodup -> (∀ x ∈ xs, x ∈ ys) -> xs.length <= ys.length
 | [], ys, _, _ => Nat.zero_le _
 | x :: xs, ys, hn, hs => by
   obtain ⟨h1, h2⟩ := List.nodup_cons.mp hn
   have hx := hs x List.mem_cons_self
   have a1 := nd_leN xs (ys.erase x) h2 fun y hy => (List.mem_erase_of_ne (fun e => h1 (by rw [← e]; exact hy))).mpr (hs y (List.mem_cons_of_mem _ hy))
   have a2 := List.length_erase_of_mem hx
   have a3 := List.length_pos_of_mem hx
   rw [List.length_cons]
   omega
theorem rise_len {xs : List Nat} {m : Nat} (h : xs.Pairwise (· < ·)) (hm : ∀ x ∈ xs, x < m) : xs.length <= m := by
 have := nd_leN xs (List.range m) (h.imp fun h => Nat.ne_of_lt h) fun x hx => List.mem_range.mpr (hm x hx)
 rwa [List.length_range] at this
theorem nats_fit (n : Nat) (xs : List Nat) (h : xs.length <= 1000) : DFit (n + 1) (.lst (xs.map fun (x : Nat) => Dt.int (x : Int))) := ⟨by rw [List.length_map]; exact h, fun d hd => by obtain ⟨x, _, rfl⟩ := List.mem_map.mp hd; cases n <;> trivial⟩
theorem uK {H : Hp} {a : Addr} {xs : List Nat} (h : H a = some (.lst (xs.map nV))) : DAt H (.lst (xs.map fun (x : Nat) => Dt.int (x : Int))) (.ref a) := by
 refine ⟨a, _, rfl, h, ?_⟩
 clear h
 induction xs with
 | nil => rfl
 | cons x xs ih => exact ⟨_, _, rfl, rfl, ih⟩
theorem ltP_lex {p q : Nat × Nat} (h : ltP p q) : HT.lexLt [(p.1 : Int), p.2] [(q.1 : Int), q.2] = true := by
 rw [HT.lexLt_cons]
 by_cases e : (p.1 : Int) = q.1
 · rw [if_pos e, HT.lexLt_cons, if_neg (by unfold ltP at h; omega)]
   exact decide_eq_true (by unfold ltP at h; omega)
 · rw [if_neg e]
   exact decide_eq_true (by unfold ltP at h; omega)
def spIw26 (K : PySem.W.Frag) : Sp := fun vs H Q _ => ∃ (wa ca la : Addr) (m mo : Nat) (ps : List (Nat × Nat)) (T : List Ro) (us : List V), vs = [.ref wa, .int mo] /\ H wa = some (.tup [nV m, .ref ca, .ref la]) /\ H ca = some (.lst us) /\ DAts H (ps.map dP2) us /\ H la = some (.lst ((T.map (·.1)).map V.ref)) /\ TrAt H m T /\ 1 <= m /\ m <= 60 /\ m <= mo /\ Ok2 m ps /\ ps.Pairwise ltP /\ ps.length <= 5000 /\ T.length <= 10 /\ (T.map (·.2.1)).Pairwise (fun x y => x.cps.toList < y.cps.toList) /\ (∀ e ∈ T, Nm e.2.1) /\ (∀ e ∈ T, cnt m ps (cnt m ps e.2.2.2) = e.2.2.2) /\ ∀ H', Same H H' -> Q (.bl true) H'
section
variable {P : Program} {w : World} {K : PySem.W.Frag} {mg : Str -> Option Value} {base : Heap} {f : Addr} {fd : FuncData}
theorem wY (bi : Bi mg) (h_t : Has P w K mg base 1 "_law_whole" ["found"] spWl) (h_v : Has P w K mg base 1 "_law_near" ["many", "pairs"] spNr) (h_n : Has P w K mg base 1 "_law_counter" ["near", "spots"] (spLc K)) (F : Fun K "_law_is_world" "_law_is_world" s_h f fd) : FnOk P w K mg base CX0 3 f fd ["world", "most"] (spIw26 K) := by
 refine F.ok sc_h (fun vs H Q E h => ?_) (fun cdv A outer s H vs Q E hr h => ?_)
 · obtain ⟨wa, ca, la, m, mo, ps, T, us, rfl, _⟩ := h
   rfl
 obtain ⟨wa, ca, la, m, mo, ps, T, us, rfl, hw, hc, hd, hl, ht, hm1, hm6, hmo, hok, hps, hpl, hT, hso, hnm, hcn, q⟩ := h
 refine ⟨_, (zC (yP (PW.pt (xR (xK (yU (zK (xF (T := "tuple")) rfl bi.isinstance bt_isinstance (zA (pv 0) (zA (jQ bi.tuple bt_tuple rfl) pa_nil))))) (xR (zY op_ne (zK call_len rfl bi.len bt_len (zA (pv 0) pa_nil)) zE (yD _)) (qE (xK (yU (zP h_t (hr.mono (by omega)) rfl (zA (zN ix_tup (pv 0) zE (fun _ _ => rfl)) pa_nil)))))))) (zF (zZ xL)) pss_nil) (zC (yP (PW.pt (xR (zY op_lt (zN ix_tup (pv 0) zE (fun _ _ => rfl)) zE (yD _)) (xR (zY op_gt (zN ix_tup (pv 0) zE (fun _ _ => rfl)) (pv 1) (yD _)) (xR (xK (yU (zK (xF (T := "list")) rfl bi.isinstance bt_isinstance (zA (zN ix_tup (pv 0) zE (fun _ _ => rfl)) (zA (jQ bi.list bt_list rfl) pa_nil))))) (qE (xK (yU (zK (xF (T := "list")) rfl bi.isinstance bt_isinstance (zA (zN ix_tup (pv 0) zE (fun _ _ => rfl)) (zA (jQ bi.list bt_list rfl) pa_nil)))))))))) (zF (zZ xL)) pss_nil) (zC (zO (i := 2) sc_h.nd rfl (Or.inl rfl) (yA (zA zE (zA zE pa_nil)))) (zC (yK PassesOwn.never rfl (yI (zN ix_tup (pv 0) zE (fun _ _ => rfl))) (zJ (i := 3) sc_h.nd rfl (Or.inl rfl)) (zC (yP (PW.pt (xR (xK (yU (zK (xF (T := "tuple")) rfl bi.isinstance bt_isinstance (zA (pv 3) (zA (jQ bi.tuple bt_tuple rfl) pa_nil))))) (xR (zY op_ne (zK call_len rfl bi.len bt_len (zA (pv 3) pa_nil)) zE (yD _)) (xR (xK (yU (zP h_t (hr.mono (by omega)) rfl (zA (zN ix_tup (pv 3) zE (fun _ _ => rfl)) pa_nil)))) (qE (xK (yU (zP h_t (hr.mono (by omega)) rfl (zA (zN ix_tup (pv 3) zE (fun _ _ => rfl)) pa_nil))))))))) (zF (zZ xL)) pss_nil) (zC (yP (PW.pt (xR (zY (op_leT K hr.units0) (pv 3) (pv 2) (yD _)) (xR (zY op_lt (zN ix_tup (pv 3) zE (fun _ _ => rfl)) zE (yD _)) (xR (zY op_ge (zN ix_tup (pv 3) zE (fun _ _ => rfl)) (zN ix_tup (pv 3) zE (fun _ _ => rfl)) (yD _)) (qE (zY op_ge (zN ix_tup (pv 3) zE (fun _ _ => rfl)) (zN ix_tup (pv 0) zE (fun _ _ => rfl)) (yD _))))))) (zF (zZ xL)) pss_nil) (zF (zO (i := 2) sc_h.nd rfl (Or.inl rfl) (pv 3)))))) (zC (zO (i := 4) sc_h.nd rfl (Or.inl rfl) (zP h_v (hr.mono (by omega)) rfl (zA (zN ix_tup (pv 0) zE (fun _ _ => rfl)) (zA (zN ix_tup (pv 0) zE (fun _ _ => rfl)) pa_nil)))) (zC (zO (i := 5) sc_h.nd rfl (Or.inl rfl) yL) (zC (yK PassesOwn.never rfl (yI (zN ix_tup (pv 0) zE (fun _ _ => rfl))) (zJ (i := 6) sc_h.nd rfl (Or.inl rfl)) (zC (yP (PW.pt (xR (xK (yU (zK (xF (T := "tuple")) rfl bi.isinstance bt_isinstance (zA (pv 6) (zA (jQ bi.tuple bt_tuple rfl) pa_nil))))) (xR (zY op_ne (zK call_len rfl bi.len bt_len (zA (pv 6) pa_nil)) zE (yD _)) (xR (xK (yU (zK (xF (T := "str")) rfl bi.isinstance bt_isinstance (zA (zN ix_tup (pv 6) zE (fun _ _ => rfl)) (zA (jQ bi.str bt_str rfl) pa_nil))))) (qE (zY op_le_str (zN ix_tup (pv 6) zE (fun _ _ => rfl)) (pv 5) (yD _))))))) (zF (zZ xL)) pss_nil) (zC (yP (xK (yU (zK (xF (T := "list")) rfl bi.isinstance bt_isinstance (zA (zN ix_tup (pv 6) zE (fun _ _ => rfl)) (zA (jQ bi.list bt_list rfl) pa_nil))))) (zF (zZ xL)) pss_nil) (zC (yP (xK (yU (zK call_all rfl bi.all bt_all (zA (yW ["spot"] ["world"] [0] (yI (zN ix_tup (pv 6) zE (fun _ _ => rfl))) (fun _ _ _ _ nd => zJ (i := 0) nd rfl (Or.inl rfl)) (fun _ _ _ _ => yY) (fun _ _ _ _ => (qU (zP h_t (hr.mono (by omega)) rfl (zA (pv 0) pa_nil)) (qU (jX op_le zE (pv 0) (yD _)) (uV (jX op_lt (pv 0) (zN (jB K) (pv 1) zE (fun _ _ => rfl)) (yD _))))))) pa_nil)))) (zF (zZ xL)) pss_nil) (zC (yP (zY (op_neG hr.units) (zP h_n (hr.mono (by omega)) rfl (zA (pv 4) (zA (zP h_n (hr.mono (by omega)) rfl (zA (pv 4) (zA (zN ix_tup (pv 6) zE (fun _ _ => rfl)) pa_nil))) pa_nil))) (zN ix_tup (pv 6) zE (fun _ _ => rfl)) (yD _)) (zF (zZ xL)) pss_nil) (zF (zO (i := 5) sc_h.nd rfl (Or.inl rfl) (zN ix_tup (pv 6) zE (fun _ _ => rfl))))))))) (zF (zZ xL))))))))), ?_⟩
 have a0 : ∀ {a b c : V}, atI [a, b, c] 0 = some a := zU (j := 0) rfl
 have a1 : ∀ {a b c : V}, atI [a, b, c] 1 = some b := zU (j := 1) rfl
 have a2 : ∀ {a b c : V}, atI [a, b, c] 2 = some c := zU (j := 2) rfl
 refine zI fun N hN => ?_
 simp! []
 refine ⟨_, .tup hw, _, xM, ?_⟩
 rw [if_neg (by decide)]
 refine ⟨3, .inr ⟨_, SqT.of hw, rfl⟩, rfl, ?_⟩
 rw [if_neg (by omega)]
 refine ⟨_, SqT.of hw, _, a0, _, rfl, _, rfl, ?_⟩
 rw [if_neg (by decide)]
 refine hN _ _ ?_
 clear hN
 refine zI fun N hN => ?_
 simp! []
 refine ⟨_, SqT.of hw, _, a0, _, rfl, ?_⟩
 rw [if_neg (by omega)]
 refine ⟨_, SqT.of hw, _, a0, _, rfl, ?_⟩
 rw [if_neg (by omega)]
 refine ⟨_, SqT.of hw, _, a1, _, .lst hc, _, xM, ?_⟩
 rw [if_neg (by decide)]
 refine ⟨_, SqT.of hw, _, a2, _, .lst hl, _, xM, ?_⟩
 rw [if_neg (by decide)]
 refine hN _ _ ?_
 clear hN
 refine zI fun N hN => ?_
 simp! []
 refine ⟨zM (by decide), fun p0 hp0 => hN _ _ ?_⟩
 clear hN
 have s0 := zD hp0 (.tup [V.int 0, V.int 0])
 have k0 : upd H p0 (.tup [V.int 0, V.int 0]) p0 = some (.tup [V.int 0, V.int 0]) := zB
 generalize upd H p0 (.tup [V.int 0, V.int 0]) = H0 at s0 k0 ⊢
 have hul : us.length = ps.length := by have := DAts.length hd; rwa [List.length_map] at this
 refine zW (fun σ H' => ∃ (o2 o3 : Option V), Same H H' /\ σ = [some (V.ref wa), some (V.int mo), o2, o3, none, none, none]) (fun N hN => ?_) (fun σ H' h => ?_)
 · simp! []
   refine ⟨_, SqT.of (s0 _ _ hw), _, a1, ca, rfl, ⟨_, SqL.of (s0 _ _ hc)⟩, ?_⟩
   refine xG (xs := us) (fun i σ H' => ∃ (pl : Addr) (x y : Nat) (o3 : Option V), Same H H' /\ H' pl = some (.tup [nV x, nV y]) /\ (∀ p ∈ ps.drop i, ltP (x, y) p) /\ σ = [some (V.ref wa), some (V.int mo), some (V.ref pl), o3, none, none, none]) ⟨p0, 0, 0, _, s0, k0, fun p hp => ?_, rfl⟩ (fun i σ H' _ h => by obtain ⟨_, _, _, _, e, _⟩ := h; exact SqL.of (e _ _ hc)) (fun i x σ H' hx h => ?_) (fun σ H' h => ?_)
   · have := hok p (List.mem_of_mem_drop hp)
     unfold ltP
     omega
   · obtain ⟨pl, x0, y0, o3, es, kpl, hlt, rfl⟩ := h
     obtain ⟨p, hpi, hx'⟩ := yZ hd hx
     obtain ⟨pa, rfl, hpa⟩ := p2At hx'
     replace hpa := es _ _ hpa
     have hw' := es _ _ hw
     obtain ⟨hil, hie⟩ := List.getElem?_eq_some_iff.mp hpi
     have hdr : ps.drop i = p :: ps.drop (i + 1) := by rw [← hie]; exact List.drop_eq_getElem_cons hil
     have hok' := hok p (List.mem_of_getElem? hpi)
     have hlp := hlt p (by rw [hdr]; exact List.mem_cons_self)
     refine zI fun N hN => ?_
     simp! []
     refine ⟨_, .tup hpa, _, xM, ?_⟩
     rw [if_neg (by decide)]
     refine ⟨2, .inr ⟨_, SqT.of hpa, rfl⟩, rfl, ?_⟩
     rw [if_neg (by omega)]
     refine ⟨_, SqT.of hpa, _, at0, _, rfl, _, rfl, ?_⟩
     rw [if_neg (by decide)]
     refine ⟨_, SqT.of hpa, _, at1, _, rfl, _, rfl, ?_⟩
     rw [if_neg (by decide)]
     refine hN _ _ ?_
     clear hN
     refine zI fun N hN => ?_
     simp! [rLeT]
     refine ⟨[(p.1 : Int), p.2], SqT.of hpa, [(x0 : Int), y0], SqT.of kpl, ?_⟩
     rw [if_neg (by rw [le_not_lt, ltP_lex (p := (x0, y0)) hlp]; decide)]
     refine ⟨_, SqT.of hpa, _, at0, _, rfl, ?_⟩
     rw [if_neg (by omega)]
     refine ⟨_, SqT.of hpa, _, at0, _, SqT.of hpa, _, at1, _, rfl, _, rfl, ?_⟩
     rw [if_neg (by omega)]
     refine ⟨_, SqT.of hpa, _, at1, _, SqT.of hw', _, a0, _, rfl, _, rfl, ?_⟩
     rw [if_neg (by omega)]
     refine hN _ _ ?_
     clear hN
     simp! []
     have hps' : ∀ q ∈ ps.drop (i + 1), ltP p q := fun q hq => by
       have := (List.pairwise_append.mp (by rw [List.take_append_drop]; exact hps : (ps.take i ++ ps.drop i).Pairwise ltP)).2.1
       rw [hdr] at this
       exact List.rel_of_pairwise_cons this hq
     exact ⟨es, pa, p.1, p.2, hpa, hps', rfl, _, rfl⟩
   · obtain ⟨pl, x0, y0, o3, es, kpl, _, rfl⟩ := h
     exact hN _ _ ⟨_, _, es, rfl⟩
 obtain ⟨o2, o3, es, rfl⟩ := h
 refine zI fun N hN => ?_
 simp! []
 refine ⟨_, SqT.of (es _ _ hw), _, a0, _, SqT.of (es _ _ hw), _, a1, m, ca, us, ps, rfl, by omega, es _ _ hc, DAts.same es hd, hok, fun nr H1 s1 hnr => hN _ _ ?_⟩
 clear hN
 replace es := es.trans s1
 refine zI fun N hN => ?_
 simp! []
 refine hN _ _ ?_
 clear hN
 refine zW (fun σ H' => Same H H') (fun N hN => ?_) (fun σ H' h => ?_)
 · simp! []
   refine ⟨_, SqT.of (es _ _ hw), _, a2, la, rfl, ⟨_, SqL.of (es _ _ hl)⟩, ?_⟩
   refine xG (xs := (T.map (·.1)).map V.ref) (fun i σ H' => ∃ (x : Str) (o6 : Option V), Same H1 H' /\ (∀ e ∈ T.drop i, x.cps.toList < e.2.1.cps.toList) /\ σ = [some (V.ref wa), some (V.int mo), o2, o3, some (V.ref nr), some (V.str x), o6]) ⟨"", _, Same.refl _, fun e he => ?_, rfl⟩ (fun i σ H' _ h => by obtain ⟨_, _, e, _⟩ := h; exact SqL.of ((es.trans e) _ _ hl)) (fun i x σ H' hx h => ?_) (fun σ H' h => ?_)
   · have := (hnm e (List.mem_of_mem_drop he)).pos
     rw [show (Str.ofString "").cps.toList = [] from by decide +kernel]
     have h1 : 1 <= e.2.1.cps.toList.length := by simpa [Str.length] using this
     cases hq : e.2.1.cps.toList with
     | nil => rw [hq] at h1; exact absurd h1 (by decide)
     | cons a l => exact List.nil_lt_cons _ _
   · obtain ⟨x0, o6, e1, hlt, rfl⟩ := h
     have e2 := es.trans e1
     rw [List.getElem?_map, List.getElem?_map] at hx
     obtain ⟨ta, hta, rfl⟩ := Option.map_eq_some_iff.mp hx
     obtain ⟨e, hei, rfl⟩ := Option.map_eq_some_iff.mp hta
     obtain ⟨hil, hie⟩ := List.getElem?_eq_some_iff.mp hei
     have hmem := List.mem_of_getElem? hei
     have hdr : T.drop i = e :: T.drop (i + 1) := by rw [← hie]; exact List.drop_eq_getElem_cons hil
     obtain ⟨t1, t2, t3, t4⟩ := (ht.same e2) e hmem
     have hle := hlt e (by rw [hdr]; exact List.mem_cons_self)
     refine zI fun N hN => ?_
     simp! []
     refine ⟨_, .tup t1, _, xM, ?_⟩
     rw [if_neg (by decide)]
     refine ⟨2, .inr ⟨_, SqT.of t1, rfl⟩, rfl, ?_⟩
     rw [if_neg (by omega)]
     refine ⟨_, SqT.of t1, _, at0, _, .str _, _, xM, ?_⟩
     rw [if_neg (by decide)]
     refine ⟨_, SqT.of t1, _, at0, _, rfl, ?_⟩
     rw [if_neg (fun z => z hle)]
     refine hN _ _ ?_
     clear hN
     refine zI fun N hN => ?_
     simp! []
     refine ⟨_, SqT.of t1, _, at1, _, .lst t2, _, xM, ?_⟩
     rw [if_neg (by decide)]
     refine hN _ _ ?_
     clear hN
     refine zI fun N hN => ?_
     simp! []
     refine ⟨_, SqT.of t1, _, at1, _, rfl, ⟨_, SqL.of t2⟩, ?_⟩
     have hel : e.2.2.2.length <= 60 := Nat.le_trans (rise_len t4 t3) hm6
     refine xU (xs := e.2.2.2.map nV) (fun j ys σ H2 => Same H' H2 /\ ys = (List.replicate j true).map V.bl /\ ∃ o, σ = [o, some (V.ref wa)]) ⟨Same.refl _, rfl, _, rfl⟩ (zM (by rw [List.length_map]; omega)) (fun j ys σ H2 h => ?_) (fun j ys σ H2 h => SqL.of (h.1 _ _ t2)) (fun j y ys σ H2 C hy h hC => ?_) (fun ys σ H2 h p hp => ?_)
     · rw [h.2.1, List.length_map, List.length_replicate]; exact Nat.le_refl _
     · obtain ⟨e3, rfl, o, rfl⟩ := h
       rw [List.getElem?_map] at hy
       obtain ⟨z, hz, rfl⟩ := Option.map_eq_some_iff.mp hy
       have hz' := t3 z (List.mem_of_getElem? hz)
       simp! []
       refine ⟨_, rfl, _, rfl, ?_⟩
       rw [if_pos rfl, if_pos (by omega)]
       refine ⟨_, SqT.of ((e2.trans e3) _ _ hw), _, a0, _, rfl, ?_⟩
       rw [decide_eq_true (by omega)]
       exact hC _ _ _ ⟨e3, by rw [List.replicate_succ', List.map_append]; rfl, _, rfl⟩
     obtain ⟨e3, rfl, o, rfl⟩ := h
     refine ⟨p, rfl, _, SqL.of zB, ?_⟩
     have eall : (List.replicate (e.2.2.2.map nV).length true).all id = true := List.all_eq_true.mpr fun x hx => (List.mem_replicate.mp hx).2
     rw [eall, if_neg (by decide)]
     refine hN _ _ ?_
     clear hN
     have e4 := e3.trans (zD hp (.lst ((List.replicate (e.2.2.2.map nV).length true).map V.bl)))
     generalize upd H2 p (.lst ((List.replicate (e.2.2.2.map nV).length true).map V.bl)) = H3 at e4 ⊢
     refine zI fun N hN => ?_
     simp! []
     have hcl : ∀ l : List Nat, (∀ x ∈ cnt m ps l, x < m) /\ (cnt m ps l).length <= 60 := fun l => ⟨fun x hx => (cnt_mem.mp hx).1, Nat.le_trans (rise_len (cnt_rise m ps l) fun x hx => (cnt_mem.mp hx).1) hm6⟩
     refine ⟨_, SqT.of (e4 _ _ t1), _, at1, nr, _, m, ps, e.2.2.2, rfl, by omega, hnr.same (e1.trans e4), SqL.of (e4 _ _ t2), t3, by omega, fun p5 H5 s5 _ k5 => ?_⟩
     refine ⟨nr, p5, m, ps, cnt m ps e.2.2.2, rfl, by omega, hnr.same (e1.trans (e4.trans s5)), SqL.of k5, (hcl _).1, by have := (hcl e.2.2.2).2; omega, fun p6 H6 s6 _ k6 => ?_⟩
     have e6 := e4.trans (s5.trans s6)
     rw [hcn e hmem] at k6
     refine ⟨_, SqT.of (e6 _ _ t1), _, at1, 1, _, _, uK k6, uK (e6 _ _ t2), nats_fit 1 _ (by omega), by decide, _, rfl, ?_⟩
     rw [deq_refl, if_neg (by decide)]
     refine hN _ _ ?_
     clear hN
     simp! []
     refine ⟨_, SqT.of (e6 _ _ t1), _, at0, e1.trans e6, e.2.1, fun e' he' => ?_, rfl, _, rfl⟩
     have hp1 := List.pairwise_map.mp hso
     have := (List.pairwise_append.mp (by rw [List.take_append_drop]; exact hp1 : (T.take i ++ T.drop i).Pairwise _)).2.1
     rw [hdr] at this
     exact List.rel_of_pairwise_cons this he'
   · obtain ⟨x0, o6, e1, _, rfl⟩ := h
     exact hN _ _ (es.trans e1)
 simp! []
 exact q _ h
end
abbrev s_b : Stmt := top 28
theorem sc_b : FnScope ["script", "k", "many", "names", "rows", "sizes", "n", "cell", "row", "size", "one", "other"] ["script", "k", "many", "names"] (zH s_b) := ⟨rfl, rfl, rfl, by decide +kernel, rfl, by decide +kernel, by decide +kernel⟩
abbrev s_c : Stmt := top 29
theorem sc_c : FnScope ["script", "k", "many", "top", "rules", "n", "cell", "pair", "rest", "premises", "j"] ["script", "k", "many", "top"] (zH s_c) := ⟨rfl, rfl, rfl, by decide +kernel, rfl, by decide +kernel, by decide +kernel⟩
structure Ov (H J : Hp) (lg : Addr) (us : List V) : Prop where
 eq : H = upd J lg (.lst us)
 no : J lg = none
theorem Ov.at {H J : Hp} {lg : Addr} {us : List V} (h : Ov H J lg us) : H lg = some (.lst us) := by rw [h.eq]; exact zB
theorem Ov.sub {H J : Hp} {lg : Addr} {us : List V} (h : Ov H J lg us) : Same J H := by rw [h.eq]; exact zD h.no _
theorem Ov.ne {H J : Hp} {lg p : Addr} {us : List V} (h : Ov H J lg us) (hp : H p = none) : p ≠ lg := fun z => by
 rw [z, h.at] at hp
 cases hp
theorem Ov.free {H J : Hp} {lg p : Addr} {us : List V} (h : Ov H J lg us) (hp : H p = none) : J p = none := h.sub.free hp
theorem Ov.new {H J : Hp} {lg p : Addr} {us : List V} (h : Ov H J lg us) (hp : H p = none) (o : HO) : Ov (upd H p o) (upd J p o) lg us := by
 have hne := h.ne hp
 refine ⟨?_, by rw [zG (Ne.symm hne)]; exact h.no⟩
 rw [h.eq]
 funext b
 by_cases h1 : b = p
 · subst h1
   rw [zB, zG hne, zB]
 · rw [zG h1]
   by_cases h2 : b = lg
   · subst h2
     rw [zB, zB]
   · rw [zG h2, zG h2, zG h1]
theorem Ov.set {H J : Hp} {lg : Addr} {us : List V} (h : Ov H J lg us) (vs : List V) : Ov (upd H lg (.lst vs)) J lg vs := ⟨by rw [h.eq, upd_upd], h.no⟩
theorem Ov.mk0 {H : Hp} {lg : Addr} (h : H lg = none) : Ov (upd H lg (.lst [])) H lg [] := ⟨rfl, h⟩
theorem Ov.put {H J : Hp} {lg q : Addr} {us : List V} (h : Ov H J lg us) (hq : q ≠ lg) (o : HO) : Ov (upd H q o) (upd J q o) lg us := by
 refine ⟨?_, by rw [zG (Ne.symm hq)]; exact h.no⟩
 rw [h.eq]
 funext b
 by_cases h1 : b = q
 · subst h1
   rw [zB, zG hq, zB]
 · rw [zG h1]
   by_cases h2 : b = lg
   · subst h2
     rw [zB, zB]
   · rw [zG h2, zG h2, zG h1]
structure Sh26 (zs : List Str) (rows : List Rw) : Prop where
 in_ : RowsIn rows
 nd : rows.Nodup
 nm : ∀ (k : Nat) (x : Str), rows[k]? = some (.nm x) -> x ∈ zs
 one : 2 <= rows.length
 no : rows[0]? = some .no
 few : ∀ k, rows[k]? = some .no -> k = 0
def spDs (K : PySem.W.Frag) : Sp := fun vs H Q _ => ∃ (a na : Addr) (ns : List Int) (k m j : Nat) (zs : List Str), vs = [.ref a, .int k, .int m, .ref na] /\ SqL K H a (ns.map V.int) /\ ns.length <= 63 /\ k <= 50 /\ m <= 10 /\ Nms H na j zs /\ 1 <= j /\ ∀ (p : Addr) (us : List V) (rows : List Rw) H', Same H H' -> H' p = some (.lst us) -> jI H' rows us -> Sh26 zs rows -> rows.length <= m + 2 -> Q (.ref p) H'
def PrB (top : Nat) (ps : List Pr) : Prop := ∀ p ∈ ps, (0 <= p.1 /\ p.1 < (top : Int)) /\ 0 <= p.2 /\ p.2 < (top : Int)
def RuB (top : Nat) (r : yE) : Prop := r.1.length <= 3 /\ (0 <= r.2.1 /\ r.2.1 < (top : Int)) /\ (0 <= r.2.2 /\ r.2.2 < (top : Int)) /\ PrB top r.1
def spDru (K : PySem.W.Frag) : Sp := fun vs H Q _ => ∃ (a : Addr) (ns : List Int) (k m top : Nat), vs = [.ref a, .int k, .int m, .int top] /\ SqL K H a (ns.map V.int) /\ ns.length <= 63 /\ k <= 50 /\ m <= 10 /\ 1 <= top /\ top <= 100 /\ ∀ (p : Addr) (us : List V) (rules : List yE) H', Same H H' -> H' p = some (.lst us) -> DAts H' (rules.map dNR) us -> rules.length <= m -> (∀ r ∈ rules, RuB top r) -> Q (.ref p) H'
section
variable {P : Program} {w : World} {K : PySem.W.Frag} {mg : Str -> Option Value} {base : Heap} {f : Addr} {fd : FuncData}
theorem uZ (bi : Bi mg) (h_u : Has P w K mg base 1 "_law_draw" ["script", "k"] (spDr K)) (F : Fun K "_law_drawn_sheet" "_law_drawn_sheet" s_b f fd) : FnOk P w K mg base CX0 2 f fd ["script", "k", "many", "names"] (spDs K) := by
 refine F.ok sc_b (fun vs H Q E h => ?_) (fun cdv A outer s H vs Q E hr h => ?_)
 · obtain ⟨a, na, ns, k, m, j, zs, rfl, _⟩ := h
   rfl
 obtain ⟨a, na, ns, k, m, j, zs, rfl, hS, hl, hk, hm, hnm, hj, q⟩ := h
 refine ⟨_, (zC (zO (i := 4) sc_b.nd rfl (Or.inl rfl) (yX (zA (yA (zA yL pa_nil)) (zA (yA (zA yL (zA (zN ix_list (pv 3) zE (fun _ _ => rfl)) pa_nil))) pa_nil)))) (zC (zO (i := 5) sc_b.nd rfl (Or.inl rfl) (yX (zA zE (zA zE pa_nil)))) (zC (yK PassesOwn.never rfl (vZ rfl bi.range (zA (pv 1) (zA (zL op_add (pv 1) (pv 2)) pa_nil))) (zJ (i := 6) sc_b.nd rfl (Or.inl rfl)) (zC (zO (i := 7) sc_b.nd rfl (Or.inl rfl) (zP h_u (hr.mono (by omega)) rfl (zA (pv 0) (zA (pv 6) pa_nil)))) (zC (zO (i := 8) sc_b.nd rfl (Or.inl rfl) (yA (zA yL (zA (zN ix_list (pv 3) (zL op_mod (zL op_fdiv (pv 7) zE) (zK call_len rfl bi.len bt_len (zA (pv 3) pa_nil))) (fun _ _ => rfl)) pa_nil)))) (zC (zO (i := 9) sc_b.nd rfl (Or.inl rfl) zE) (zC (yP (PW.pt (xR (zY op_ne (zL op_mod (pv 7) zE) zE (yD _)) (qE (zY (op_inG hr.units) (pv 8) (pv 4) (by with_unfolding_all rfl))))) (zC (zO (i := 10) sc_b.nd rfl (Or.inl rfl) (zL op_mod (zL op_fdiv (pv 7) zE) (zL op_mul zE (zK call_len rfl bi.len bt_len (zA (pv 4) pa_nil))))) (zC (zO (i := 11) sc_b.nd rfl (Or.inl rfl) (zL op_mod (zL op_fdiv (zL op_fdiv (pv 7) zE) (zL op_mul zE (zK call_len rfl bi.len bt_len (zA (pv 4) pa_nil)))) (zL op_mul zE (zK call_len rfl bi.len bt_len (zA (pv 4) pa_nil))))) (zC (zO (i := 8) sc_b.nd rfl (Or.inl rfl) (yA (zA yL (zA (pv 10) (zA (pv 11) pa_nil))))) (zF (zO (i := 9) sc_b.nd rfl (Or.inl rfl) (zL op_add (zN ix_list (pv 5) (zL op_fdiv (pv 10) zE) (fun _ _ => rfl)) (zN ix_list (pv 5) (zL op_fdiv (pv 11) zE) (fun _ _ => rfl)))))))) pss_nil) (zF (yP (PW.pt (uS (zY (wC hr.units) (pv 8) (pv 4) (by with_unfolding_all rfl)) (qM (zY op_le (pv 9) zE (yD _))))) (zC (zV (xQ PySem.F.plainAttrs_list PySem.F.slot_list_append PySem.F.type_list_append mt_append (pv 4) (zA (pv 8) pa_nil))) (zF (zV (xQ PySem.F.plainAttrs_list PySem.F.slot_list_append PySem.F.type_list_append mt_append (pv 5) (zA (pv 9) pa_nil))))) pss_nil))))))) (zF (zZ (pv 4)))))), ?_⟩
 have hzl := hnm.len
 have at0' : atI (zs.map V.str) 0 = some (V.str (zs[0]'(by omega))) := zU (j := 0) (by rw [List.getElem?_map, List.getElem?_eq_getElem (by omega)]; rfl)
 refine zI fun N hN => ?_
 simp! []
 refine ⟨zM (by decide), fun p1 hp1 => ⟨_, SqL.of (zD hp1 _ _ _ hnm.lst), _, at0', zM (by decide), fun p2 hp2 => ⟨zM (by decide), fun pr hpr => hN _ _ ?_⟩⟩⟩
 clear hN
 have z0m : zs[0]'(by omega) ∈ zs := List.getElem_mem _
 generalize zs[0]'(by omega) = z0 at at0' z0m hp2 hpr ⊢
 have e1 := zD hp1 (.tup [V.str "none"])
 have e2 := zD hp2 (.tup [V.str "name", V.str z0])
 have e3 := zD hpr (.lst [V.ref p1, V.ref p2])
 have s0 := (e1.trans e2).trans e3
 have fpr : H pr = none := (e1.trans e2).free hpr
 have kr : upd (upd (upd H p1 (.tup [V.str "none"])) p2 (.tup [V.str "name", V.str z0])) pr (.lst [V.ref p1, V.ref p2]) pr = some (.lst [V.ref p1, V.ref p2]) := zB
 have rw0 : jI (upd (upd (upd H p1 (.tup [V.str "none"])) p2 (.tup [V.str "name", V.str z0])) pr (.lst [V.ref p1, V.ref p2])) [.no, .nm z0] [V.ref p1, V.ref p2] := ⟨_, _, rfl, ⟨p1, _, rfl, (e2.trans e3) _ _ zB, _, _, rfl, rfl, rfl⟩, _, _, rfl, ⟨p2, _, rfl, e3 _ _ zB, _, _, rfl, rfl, _, _, rfl, rfl, rfl⟩, rfl⟩
 generalize upd (upd (upd H p1 (.tup [V.str "none"])) p2 (.tup [V.str "name", V.str z0])) pr (.lst [V.ref p1, V.ref p2]) = H0 at s0 kr rw0 ⊢
 clear e1 e2 e3 hp1 hp2 hpr
 refine zI fun N hN => ?_
 simp! []
 refine ⟨zM (by decide), fun pz hpz => hN _ _ ?_⟩
 clear hN
 have nz : pz ≠ pr := fun e => by rw [e, kr] at hpz; cases hpz
 have e4 := zD hpz (.lst [V.int 1, V.int 1])
 have fpz : H pz = none := s0.free hpz
 have kz : upd H0 pz (.lst [V.int 1, V.int 1]) pz = some (.lst (([1, 1] : List Int).map V.int)) := zB
 replace s0 := s0.trans e4
 replace kr := e4 _ _ kr
 replace rw0 := DAts.same e4 rw0
 generalize upd H0 pz (.lst [V.int 1, V.int 1]) = H1 at s0 kr rw0 kz ⊢
 have sh0 : Sh26 zs [.no, .nm z0] := by
   refine ⟨fun k i j hk => ?_, by simp, fun k x hk => ?_, by simp, rfl, fun k hk => ?_⟩
   · match k with
     | 0 => cases hk
     | 1 => cases hk
     | _ + 2 => cases hk
   · match k with
     | 0 => cases hk
     | 1 => cases hk; exact z0m
     | _ + 2 => cases hk
   · match k with
     | 0 => rfl
     | 1 => cases hk
     | _ + 2 => cases hk
 refine zW (fun σ H' => ∃ (us : List V) (rows : List Rw), Same H H' /\ H' pr = some (.lst us) /\ jI H' rows us /\ Sh26 zs rows /\ rows.length <= m + 2 /\ ∃ r, σ = some (V.ref a) :: some (V.int k) :: some (V.int m) :: some (V.ref na) :: some (V.ref pr) :: r) (fun N hN => ?_) (fun σ H' h => ?_)
 · simp! []
   refine ⟨by omega, by omega, by omega, by omega, ?_⟩
   refine xE (n := ((k : Int) + (m : Int) - (k : Int)).toNat) (fun i σ H' => ∃ (us : List V) (rows : List Rw) (szs : List Int) (o6 o7 o8 o9 o10 o11 : Option V), Same H H' /\ H' pr = some (.lst us) /\ jI H' rows us /\ H' pz = some (.lst (szs.map V.int)) /\ szs.length = rows.length /\ Sh26 zs rows /\ rows.length <= i + 2 /\ σ = [some (V.ref a), some (V.int k), some (V.int m), some (V.ref na), some (V.ref pr), some (V.ref pz), o6, o7, o8, o9, o10, o11]) ⟨_, _, [1, 1], _, _, _, _, _, _, s0, kr, rw0, kz, rfl, sh0, Nat.le_refl _, rfl⟩ (fun i σ H' hi h => ?_) (fun σ H' h => ?_)
   · obtain ⟨us, rows, szs, o6, o7, o8, o9, o10, o11, es, kr, hrw, kz, hsz, hsh, hrl, rfl⟩ := h
     have hul : us.length = rows.length := by have := DAts.length hrw; rwa [List.length_map] at this
     have e0 : (k : Int) + (i : Int) = ((k + i : Nat) : Int) := by omega
     refine zI fun N hN => ?_
     simp! []
     rw [e0]
     refine ⟨a, ns, k + i, rfl, Same.seq es hS, hl, by omega, fun z hz => hN _ _ ?_⟩
     clear hN
     refine zI fun N hN => ?_
     simp! []
     obtain ⟨c, ec, hc⟩ : ∃ c : Nat, z / 3 % (zs.length : Int) = (c : Int) /\ c < zs.length := ⟨(z / 3 % (zs.length : Int)).toNat, by have := Int.emod_nonneg (z / 3) (b := (zs.length : Int)) (by omega); omega, by have := Int.emod_lt_of_pos (z / 3) (b := (zs.length : Int)) (by omega); omega⟩
     have hatc : atI (zs.map V.str) (z / 3 % (zs.length : Int)) = some (V.str zs[c]) := by
       rw [ec]
       exact zU (by rw [List.getElem?_map, List.getElem?_eq_getElem hc]; rfl)
     have hxm : zs[c] ∈ zs := List.getElem_mem hc
     generalize zs[c] = x at hatc hxm
     refine ⟨⟨by decide, by decide⟩, zs.length, .inl ⟨_, SqL.of (es _ _ hnm.lst), (List.length_map _).symm⟩, by omega, _, SqL.of (es _ _ hnm.lst), _, hatc, zM (by decide), fun t1 ht1 => hN _ _ ?_⟩
     clear hN
     have e1 := zD ht1 (.tup [V.str "name", V.str x])
     have k1 : upd H' t1 (.tup [V.str "name", V.str x]) t1 = some (.tup [V.str "name", V.str x]) := zB
     replace kr := e1 _ _ kr
     replace kz := e1 _ _ kz
     replace hrw := DAts.same e1 hrw
     replace es := es.trans e1
     generalize upd H' t1 (.tup [V.str "name", V.str x]) = G at es kr kz hrw k1 ⊢
     have d1 : DAt G (dRw (.nm x)) (.ref t1) := ⟨t1, _, rfl, k1, _, _, rfl, rfl, _, _, rfl, rfl, rfl⟩
     have hfit : ∀ d ∈ rows.map dRw, DFit 2 d := fun d hd => by
       obtain ⟨r, _, rfl⟩ := List.mem_map.mp hd
       exact fit_rw 1 r
     refine zI fun N hN => ?_
     simp! []
     refine hN _ _ ?_
     clear hN
     refine zW (fun σ H' => ∃ (v : V) (r : Rw) (sz : Int) (o10 o11 : Option V), Same G H' /\ DAt H' (dRw r) v /\ RowB r (2 * (rows.length : Int)) /\ r ≠ .no /\ (∀ y, r = .nm y -> y ∈ zs) /\ σ = [some (V.ref a), some (V.int k), some (V.int m), some (V.ref na), some (V.ref pr), some (V.ref pz), some (V.int ((k + i : Nat) : Int)), some (V.int z), some v, some (V.int sz), o10, o11]) (fun N hN => ?_) (fun σ G' h => ?_)
     · have fin1 : N [some (V.ref a), some (V.int k), some (V.int m), some (V.ref na), some (V.ref pr), some (V.ref pz), some (V.int ((k + i : Nat) : Int)), some (V.int z), some (V.ref t1), some (V.int 1), o10, o11] G := hN _ _ ⟨_, .nm x, 1, _, _, Same.refl _, d1, (fun i j h => by cases h), (fun h => by cases h), (fun y h => by cases h; exact hxm), rfl⟩
       refine if_abs fun A B hA hB => ?_
       have fA : A G := hA _ (by
         clear hA hB
         simp! []
         have hL : 2 <= us.length := by have := hsh.one; omega
         have o1a : 0 <= z / 3 % (2 * (us.length : Int)) /\ z / 3 % (2 * (us.length : Int)) < 2 * (us.length : Int) := ⟨Int.emod_nonneg _ (by omega), Int.emod_lt_of_pos _ (by omega)⟩
         have o2a : 0 <= z / 3 / (2 * (us.length : Int)) % (2 * (us.length : Int)) /\ z / 3 / (2 * (us.length : Int)) % (2 * (us.length : Int)) < 2 * (us.length : Int) := ⟨Int.emod_nonneg _ (by omega), Int.emod_lt_of_pos _ (by omega)⟩
         refine ⟨⟨by decide, by decide⟩, us.length, .inl ⟨_, SqL.of kr, rfl⟩, .inl ⟨by decide, by decide⟩, by omega, ⟨by decide, by decide⟩, us.length, .inl ⟨_, SqL.of kr, rfl⟩, .inl ⟨by decide, by decide⟩, ⟨by omega, by omega⟩, us.length, .inl ⟨_, SqL.of kr, rfl⟩, .inl ⟨by decide, by decide⟩, by omega, zM (by decide), fun t2 ht2 => ?_⟩
         generalize z / 3 % (2 * (us.length : Int)) = one at o1a ⊢
         generalize z / 3 / (2 * (us.length : Int)) % (2 * (us.length : Int)) = other at o2a ⊢
         have e2 := zD ht2 (.tup [V.str "both", V.int one, V.int other])
         obtain ⟨s1, hs1⟩ := idxI szs (one / 2) (by omega) (by omega)
         obtain ⟨s2, hs2⟩ := idxI szs (other / 2) (by omega) (by omega)
         refine ⟨⟨by decide, by decide⟩, _, SqL.of (e2 _ _ kz), _, hs1, ⟨by decide, by decide⟩, _, SqL.of (e2 _ _ kz), _, hs2, s1, rfl, s2, rfl, hN _ _ ⟨.ref t2, .bo one other, s1 + s2, _, _, e2, ⟨t2, _, rfl, zB, _, _, rfl, rfl, _, _, rfl, rfl, _, _, rfl, rfl, rfl⟩, (fun i j h => by cases h; omega), (fun h => by cases h), (fun y h => by cases h), rfl⟩⟩)
       have fB : B G := hB _ (by simp! []; exact fin1)
       clear hA hB hN fin1
       simp! [rInG]
       refine ⟨by decide, rfl, ?_⟩
       by_cases c3 : z % 3 = 0
       · rw [if_neg (fun h => h c3)]
         refine ⟨2, dRw (.nm x), d1, rows.map dRw, .inl ⟨pr, us, rfl, kr, hrw⟩, hfit, by decide, ?_⟩
         split
         · exact fA
         · exact fB
       · rw [if_pos c3]
         exact fA
     obtain ⟨v, r, sz, o10', o11', e2, d2, hb, hno, hny, rfl⟩ := h
     have kr2 := e2 _ _ kr
     have kz2 := e2 _ _ kz
     have hrw2 := DAts.same e2 hrw
     have hnx : ((rows.map dRw).any fun e => deq e (dRw r)) = false -> r ∉ rows := fun hf hm => by
       have : ((rows.map dRw).any fun e => deq e (dRw r)) = true := List.any_eq_true.mpr ⟨dRw r, List.mem_map.mpr ⟨r, hm, rfl⟩, deq_refl _⟩
       rw [hf] at this
       cases this
     simp! [rInG]
     refine ⟨2, dRw r, d2, rows.map dRw, .inl ⟨pr, us, rfl, kr2, hrw2⟩, hfit, by decide, ?_⟩
     cases cx : (rows.map dRw).any fun e => deq e (dRw r) with
     | true =>
       rw [if_neg (by decide)]
       exact ⟨es.trans e2, us, kr2, rows, hrw2, szs, kz2, hsz, hsh, by omega, _, rfl⟩
     | false =>
     rw [if_pos (by decide)]
     by_cases c6 : sz <= 60
     · rw [if_pos c6]
       have nz' : pz ≠ pr := nz
       refine ⟨.inl ⟨rfl, _, SqL.of kr2⟩, us, kr2, zM (by omega), .inl ⟨rfl, _, SqL.of (by rw [zG nz']; exact kz2)⟩, szs.map V.int, by rw [zG nz']; exact kz2, zM (by rw [List.length_map]; omega), ((es.trans e2).upd fpr).upd fpz, us ++ [v], by rw [zG (Ne.symm nz'), zB], rows ++ [r], ?_, szs ++ [sz], by rw [zB, List.map_append]; rfl, by rw [List.length_append, List.length_append, hsz]; rfl, ?_, by rw [List.length_append]; simp; omega, _, rfl⟩
       · have ts : TupSame G' (upd (upd G' pr (.lst (us ++ [v]))) pz (.lst (szs.map V.int ++ [V.int sz]))) := ((TupSame.refl _).upd_lst kr2).upd_lst (by rw [zG nz']; exact kz2)
         refine rws_tups ts ?_
         unfold jI
         rw [List.map_append]
         exact DAts.append hrw2 (DAts.one d2)
       · have hl1 := hsh.one
         refine ⟨hsh.in_.put hb, ?_, fun q y hq => ?_, by rw [List.length_append]; omega, by rw [List.getElem?_append_left (by omega)]; exact hsh.no, fun q hq => ?_⟩
         · rw [List.nodup_append]
           refine ⟨hsh.nd, by simp, fun x1 h1 x2 h2 e => ?_⟩
           rw [List.mem_singleton.mp h2] at e
           exact hnx cx (e ▸ h1)
         · by_cases hq' : q < rows.length
           · rw [List.getElem?_append_left hq'] at hq
             exact hsh.nm q y hq
           · have := (List.getElem?_eq_some_iff.mp hq).1
             rw [List.length_append] at this
             simp at this
             rw [show q = rows.length by omega, List.getElem?_append_right (Nat.le_refl _)] at hq
             simp at hq
             exact hny y hq
         · by_cases hq' : q < rows.length
           · rw [List.getElem?_append_left hq'] at hq
             exact hsh.few q hq
           · have := (List.getElem?_eq_some_iff.mp hq).1
             rw [List.length_append] at this
             simp at this
             rw [show q = rows.length by omega, List.getElem?_append_right (Nat.le_refl _)] at hq
             simp at hq
             exact absurd hq hno
     · rw [if_neg c6]
       exact ⟨es.trans e2, us, kr2, rows, hrw2, szs, kz2, hsz, hsh, by omega, _, rfl⟩
   · obtain ⟨us, rows, szs, o6, o7, o8, o9, o10, o11, es, kr, hrw, kz, hsz, hsh, hrl, rfl⟩ := h
     exact hN _ _ ⟨us, rows, es, kr, hrw, hsh, by omega, _, rfl⟩
 obtain ⟨us, rows, es, kr, hrw, hsh, hrl, r, rfl⟩ := h
 simp! []
 exact q pr us rows _ es kr hrw hsh hrl
theorem vA (bi : Bi mg) (h_u : Has P w K mg base 1 "_law_draw" ["script", "k"] (spDr K)) (F : Fun K "_law_drawn_rules" "_law_drawn_rules" s_c f fd) : FnOk P w K mg base CX0 2 f fd ["script", "k", "many", "top"] (spDru K) := by
 refine F.ok sc_c (fun vs H Q E h => ?_) (fun cdv A outer s H vs Q E hr h => ?_)
 · obtain ⟨a, ns, k, m, top, rfl, _⟩ := h
   rfl
 obtain ⟨a, ns, k, m, top, rfl, hS, hl, hk, hm, ht1, ht2, q⟩ := h
 refine ⟨_, (zC (zO (i := 4) sc_c.nd rfl (Or.inl rfl) (yX pa_nil)) (zC (yK PassesOwn.never rfl (vZ rfl bi.range (zA (pv 1) (zA (zL op_add (pv 1) (pv 2)) pa_nil))) (zJ (i := 5) sc_c.nd rfl (Or.inl rfl)) (zC (zO (i := 6) sc_c.nd rfl (Or.inl rfl) (zP h_u (hr.mono (by omega)) rfl (zA (pv 0) (zA (pv 5) pa_nil)))) (zC (zO (i := 7) sc_c.nd rfl (Or.inl rfl) (yA (zA (zL op_mod (pv 6) (pv 3)) (zA (zL op_mod (zL op_fdiv (pv 6) (pv 3)) (pv 3)) pa_nil)))) (zC (zO (i := 8) sc_c.nd rfl (Or.inl rfl) (zL op_fdiv (zL op_mod (zL op_mul (pv 6) zE) (zL op_pow zE zE)) (zL op_pow zE zE))) (zC (zO (i := 9) sc_c.nd rfl (Or.inl rfl) (yX pa_nil)) (zC (yK PassesOwn.never rfl (yO rfl bi.range (zA (zL op_mod (pv 8) zE) pa_nil)) (zJ (i := 10) sc_c.nd rfl (Or.inl rfl)) (zC (zO (i := 8) sc_c.nd rfl (Or.inl rfl) (zL op_fdiv (pv 8) zE)) (zC (zV (xQ PySem.F.plainAttrs_list PySem.F.slot_list_append PySem.F.type_list_append mt_append (pv 9) (zA (yA (zA (zL op_mod (pv 8) (pv 3)) (zA (zL op_mod (zL op_fdiv (pv 8) (pv 3)) (pv 3)) pa_nil))) pa_nil))) (zF (zO (i := 8) sc_c.nd rfl (Or.inl rfl) (zL op_fdiv (zL op_fdiv (pv 8) (pv 3)) (pv 3))))))) (zF (zV (xQ PySem.F.plainAttrs_list PySem.F.slot_list_append PySem.F.type_list_append mt_append (pv 4) (zA (yA (zA (pv 9) (zA (pv 7) pa_nil))) pa_nil)))))))))) (zF (zZ (pv 4))))), ?_⟩
 refine zI fun N hN => ?_
 simp! []
 refine ⟨zM (by decide), fun p hp => hN _ _ ?_⟩
 clear hN
 have ov0 := Ov.mk0 hp
 generalize upd H p (.lst []) = H0 at ov0 ⊢
 have md : ∀ z : Int, 0 <= z % (top : Int) /\ z % (top : Int) < top := fun z => ⟨Int.emod_nonneg _ (by omega), Int.emod_lt_of_pos _ (by omega)⟩
 refine zW (fun σ H' => ∃ (J : Hp) (us : List V) (rules : List yE) (o5 o6 o7 o8 o9 o10 : Option V), Ov H' J p us /\ Same H J /\ DAts J (rules.map dNR) us /\ rules.length <= m /\ (∀ r ∈ rules, RuB top r) /\ σ = [some (V.ref a), some (V.int k), some (V.int m), some (V.int top), some (V.ref p), o5, o6, o7, o8, o9, o10]) (fun N hN => ?_) (fun σ H' h => ?_)
 · simp! []
   refine ⟨by omega, by omega, by omega, by omega, ?_⟩
   refine xE (n := ((k : Int) + (m : Int) - (k : Int)).toNat) (fun i σ H' => ∃ (J : Hp) (us : List V) (rules : List yE) (o5 o6 o7 o8 o9 o10 : Option V), Ov H' J p us /\ Same H J /\ DAts J (rules.map dNR) us /\ rules.length = i /\ (∀ r ∈ rules, RuB top r) /\ σ = [some (V.ref a), some (V.int k), some (V.int m), some (V.int top), some (V.ref p), o5, o6, o7, o8, o9, o10]) ⟨H, [], [], _, _, _, _, _, _, ov0, Same.refl _, rfl, rfl, (fun r hr => by cases hr), rfl⟩ (fun i σ H' hi h => ?_) (fun σ H' h => ?_)
   · obtain ⟨J, us, rules, o5, o6, o7, o8, o9, o10, ov, sJ, hd, hrl, hr', rfl⟩ := h
     have hul : us.length = rules.length := by have := DAts.length hd; rwa [List.length_map] at this
     have e0 : (k : Int) + (i : Int) = ((k + i : Nat) : Int) := by omega
     refine zI fun N hN => ?_
     simp! []
     rw [e0]
     refine ⟨a, ns, k + i, rfl, Same.seq (sJ.trans ov.sub) hS, hl, by omega, fun z hz => hN _ _ ?_⟩
     clear hN
     refine zI fun N hN => ?_
     simp! []
     refine ⟨by omega, ⟨by omega, by omega⟩, by omega, zM (by decide), fun tp htp => hN _ _ ?_⟩
     clear hN
     have ov1 := ov.new htp (.tup [V.int (z % top), V.int (z / top % top)])
     have sJ1 := zD (ov.free htp) (.tup [V.int (z % top), V.int (z / top % top)])
     have kt : upd J tp (.tup [V.int (z % top), V.int (z / top % top)]) tp = some (.tup [V.int (z % top), V.int (z / top % top)]) := zB
     generalize upd J tp (.tup [V.int (z % top), V.int (z / top % top)]) = J1 at ov1 sJ1 kt
     generalize upd H' tp (.tup [V.int (z % top), V.int (z / top % top)]) = H1 at ov1 ⊢
     refine zI fun N hN => ?_
     simp! []
     refine ⟨.inr ⟨by decide, by decide⟩, ⟨by decide, by decide, by decide⟩, by show (0 : Int) < 2 ^ 61; decide, ⟨by decide, by decide, by decide⟩, ⟨by show (0 : Int) < 2 ^ 20; decide, by show (2 : Int) ^ 20 < 1073741824; decide⟩, hN _ _ ?_⟩
     clear hN
     have hr1 : 0 <= z * 982451653 % 2 ^ Int.toNat 61 / 2 ^ Int.toNat 20 := Int.ediv_nonneg (Int.emod_nonneg _ (by show (2 : Int) ^ 61 ≠ 0; decide)) (by show (0 : Int) <= 2 ^ 20; decide)
     generalize z * 982451653 % 2 ^ Int.toNat 61 / 2 ^ Int.toNat 20 = r1 at hr1 ⊢
     refine zI fun N hN => ?_
     simp! []
     refine ⟨zM (by decide), fun pa hpa => hN _ _ ?_⟩
     clear hN
     have npa : pa ≠ p := ov1.ne hpa
     have ov2 := ov1.new hpa (.lst [])
     have ov3 := Ov.mk0 (ov1.free hpa)
     generalize upd J1 pa (.lst []) = J2 at ov2 ov3
     generalize upd H1 pa (.lst []) = H2 at ov2 ⊢
     refine zW (fun σ H' => ∃ (J' J1' : Hp) (vs : List V) (prs : List Pr) (o8 o10 : Option V), Ov H' J' p us /\ Ov J' J1' pa vs /\ Same J1 J1' /\ DAts J1' (prs.map dPr) vs /\ prs.length <= 3 /\ PrB top prs /\ σ = [some (V.ref a), some (V.int k), some (V.int m), some (V.int top), some (V.ref p), some (V.int ((k + i : Nat) : Int)), some (V.int z), some (V.ref tp), o8, some (V.ref pa), o10]) (fun N hN => ?_) (fun σ H' h => ?_)
     · simp! []
       refine ⟨by decide, by omega, by omega, ?_⟩
       refine xE (n := (r1 % 3).toNat) (fun jj σ H' => ∃ (J' J1' : Hp) (vs : List V) (prs : List Pr) (r : Int) (o10 : Option V), 0 <= r /\ Ov H' J' p us /\ Ov J' J1' pa vs /\ Same J1 J1' /\ DAts J1' (prs.map dPr) vs /\ prs.length = jj /\ PrB top prs /\ σ = [some (V.ref a), some (V.int k), some (V.int m), some (V.int top), some (V.ref p), some (V.int ((k + i : Nat) : Int)), some (V.int z), some (V.ref tp), some (V.int r), some (V.ref pa), o10]) ⟨J2, J1, [], [], r1, _, hr1, ov2, ov3, Same.refl _, rfl, rfl, (fun p hp => by cases hp), rfl⟩ (fun jj σ H' hjj h => ?_) (fun σ H' h => ?_)
       · obtain ⟨J', J1', vs, prs, r, o10, hr2, ovA, ovB, sA, hps, hpl, hpb, rfl⟩ := h
         have hvl : vs.length = prs.length := by have := DAts.length hps; rwa [List.length_map] at this
         refine zI fun N hN => ?_
         simp! []
         refine ⟨⟨by decide, by decide⟩, hN _ _ ?_⟩
         clear hN
         have hr3 : 0 <= r / 3 := by omega
         generalize r / 3 = r3 at hr3 ⊢
         refine zI fun N hN => ?_
         simp! []
         have kpa : H' pa = some (.lst vs) := by rw [ovA.eq, zG npa]; exact ovB.at
         refine ⟨.inl ⟨rfl, _, SqL.of kpa⟩, by omega, ⟨by omega, by omega⟩, by omega, zM (by decide), fun t ht => ⟨vs, zD ht _ _ _ kpa, zM (by omega), hN _ _ ?_⟩⟩
         clear hN
         have oA := ovA.new ht (.tup [V.int (r3 % top), V.int (r3 / top % top)])
         have oB := ovB.new (ovA.free ht) (.tup [V.int (r3 % top), V.int (r3 / top % top)])
         have fB := ovB.free (ovA.free ht)
         have sB := zD fB (.tup [V.int (r3 % top), V.int (r3 / top % top)])
         have kB : upd J1' t (.tup [V.int (r3 % top), V.int (r3 / top % top)]) t = some (.tup [V.int (r3 % top), V.int (r3 / top % top)]) := zB
         have oA2 := oA.put npa (.lst (vs ++ [V.ref t]))
         have oB2 := oB.set (vs ++ [V.ref t])
         simp! []
         refine ⟨⟨by omega, by omega⟩, ⟨by omega, by omega⟩, ?_⟩
         have hr4 : 0 <= r3 / top / top := Int.ediv_nonneg (Int.ediv_nonneg hr3 (by omega)) (by omega)
         exact ⟨_, _, vs ++ [V.ref t], prs ++ [(r3 % top, r3 / top % top)], _, hr4, oA2, oB2, sA.trans sB, by rw [List.map_append]; exact DAts.append (DAts.same sB hps) (DAts.one ⟨t, _, rfl, kB, _, _, rfl, rfl, _, _, rfl, rfl, rfl⟩), by rw [List.length_append, hpl]; rfl, (fun p hp => by rcases List.mem_append.mp hp with hp | hp; exact hpb p hp; rw [List.mem_singleton.mp hp]; exact ⟨md _, md _⟩), rfl, _, rfl⟩
       · obtain ⟨J', J1', vs, prs, r, o10, hr2, ovA, ovB, sA, hps, hpl, hpb, rfl⟩ := h
         exact hN _ _ ⟨J', J1', vs, prs, _, _, ovA, ovB, sA, hps, by omega, hpb, rfl⟩
     obtain ⟨J', J1', vs, prs, o8', o10', ovA, ovB, sA, hps, hpl, hpb, rfl⟩ := h
     simp! []
     refine ⟨.inl ⟨rfl, _, SqL.of ovA.at⟩, zM (by decide), fun t ht => ⟨us, zD ht _ _ _ ovA.at, zM (by omega), ?_⟩⟩
     have oA := (ovA.new ht (.tup [V.ref pa, V.ref tp])).set (us ++ [V.ref t])
     have s1 := zD (ovA.free ht) (.tup [V.ref pa, V.ref tp])
     have sB := ovB.sub.trans s1
     have sall := (sJ.trans sJ1).trans (sA.trans sB)
     refine ⟨_, _, oA, sall, rules ++ [(prs, (z % top, z / top % top))], ?_, by rw [List.length_append, hrl]; rfl, fun r hr => ?_, _, rfl⟩
     · rw [List.map_append]
       exact DAts.append (DAts.same (sJ1.trans (sA.trans sB)) hd) (DAts.one ⟨t, _, rfl, zB, _, _, rfl, ⟨pa, vs, rfl, s1 _ _ ovB.at, DAts.same sB hps⟩, _, _, rfl, ⟨tp, _, rfl, (sA.trans sB) _ _ kt, _, _, rfl, rfl, _, _, rfl, rfl, rfl⟩, rfl⟩)
     · rcases List.mem_append.mp hr with hr | hr
       · exact hr' r hr
       · rw [List.mem_singleton.mp hr]
         exact ⟨hpl, md z, md _, hpb⟩
   · obtain ⟨J, us, rules, o5, o6, o7, o8, o9, o10, ov, sJ, hd, hrl, hr', rfl⟩ := h
     exact hN _ _ ⟨J, us, rules, _, _, _, _, _, _, ov, sJ, hd, by omega, hr', rfl⟩
 obtain ⟨J, us, rules, o5, o6, o7, o8, o9, o10, ov, sJ, hd, hrl, hr', rfl⟩ := h
 simp! []
 exact q p us rules _ (sJ.trans ov.sub) ov.at (DAts.same ov.sub hd) hrl hr'
end
structure Rl (M : Nat) (R : Nat -> Nat -> Bool) : Prop where
 refl : ∀ x, x < M -> R x x = true
 turn : ∀ i j, R i j = true -> R (tnN j) (tnN i) = true
 trans : ∀ i j k, R i j = true -> R j k = true -> R i k = true
 all : ∀ i n, R i (tnN i) = true -> n < M -> R i n = true
 ev : ∃ h, M = 2 * h
theorem Rl.of {rows : List Rw} {rules : List yE} {ls : List Ln} (hp : Pl rows (2 * rows.length) rows.length ls) (hc : Cl rows rules ls.length ls) : Rl (2 * rows.length) (rl ls) := by
 have lt : ∀ {p : Nat} {l : Ln}, ls[p]? = some l -> p < ls.length := fun h => (List.getElem?_eq_some_iff.mp h).1
 refine ⟨fun x hx => hp.same x hx, fun i j h => ?_, fun i j k h1 h2 => ?_, fun i n h hn => ?_, _, rfl⟩
 · obtain ⟨p, l, g1, g2, g3⟩ := hasP_iff.mp h
   exact hc.turn p l i j (lt g1) g1 g2 g3
 · obtain ⟨p, l, g1, g2, g3⟩ := hasP_iff.mp h1
   obtain ⟨p', l', g1', g2', g3'⟩ := hasP_iff.mp h2
   exact hc.chain p p' l l' i j k (lt g1) (lt g1') g1 g1' g2 g3 g2' g3'
 · obtain ⟨p, l, g1, g2, g3⟩ := hasP_iff.mp h
   exact hc.clash p l i (tnN i) (lt g1) g1 g2 g3 (qC i).symm n hn
section
variable {M : Nat} {R : Nat -> Nat -> Bool}
theorem Rl.sym (h : Rl M R) {i j : Nat} (g : R i (tnN j) = true) : R j (tnN i) = true := by
 have := h.turn _ _ g
 rwa [uH] at this
theorem Rl.lt (h : Rl M R) {n : Nat} (hn : n < M) : tnN n < M := by
 obtain ⟨k, hk⟩ := h.ev
 rw [hk] at hn ⊢
 exact tnN_lt hn
theorem spt_mem {x : Nat} : x ∈ yH M R ↔ x < M /\ R x (tnN x) = false := by
 unfold yH
 rw [List.mem_filter, List.mem_range]
 simp
theorem wT {a : Nat} (ha : a < (yH M R).length) : (yH M R).getD a 0 ∈ yH M R := by
 rw [List.getD_eq_getElem?_getD, List.getElem?_eq_getElem ha]
 exact List.getElem_mem ha
theorem und_mem {sp : List Nat} {n a : Nat} : a ∈ yV sp R n ↔ a < sp.length /\ R (sp.getD a 0) n = true := by
 unfold yV
 rw [List.mem_filter, List.mem_range]
theorem cls_mem {sp : List Nat} {p : Nat × Nat} : p ∈ qS sp R ↔ p.1 < sp.length /\ p.2 < sp.length /\ p.1 < p.2 /\ R (sp.getD p.1 0) (tnN (sp.getD p.2 0)) = true := by
 unfold qS
 rw [List.mem_flatMap]
 constructor
 · rintro ⟨a, ha, hp⟩
   obtain ⟨b, hb, rfl⟩ := List.mem_map.mp hp
   rw [List.mem_filter, List.mem_range] at hb
   simp only [Bool.and_eq_true, decide_eq_true_eq] at hb
   exact ⟨List.mem_range.mp ha, hb.1, hb.2.1, hb.2.2⟩
 · rintro ⟨h1, h2, h3, h4⟩
   refine ⟨p.1, List.mem_range.mpr h1, List.mem_map.mpr ⟨p.2, ?_, rfl⟩⟩
   rw [List.mem_filter, List.mem_range]
   simp only [Bool.and_eq_true, decide_eq_true_eq]
   exact ⟨h2, h3, h4⟩
theorem clOf_iff {ps : List (Nat × Nat)} {a b : Nat} : xH ps a b = true ↔ (a, b) ∈ ps \/ (b, a) ∈ ps := by
 unfold xH
 rw [List.any_eq_true]
 constructor
 · rintro ⟨p, hp, h⟩
   simp only [Bool.or_eq_true, Bool.and_eq_true, beq_iff_eq] at h
   rcases h with ⟨h1, h2⟩ | ⟨h1, h2⟩
   · exact .inl (by rw [← h1, ← h2]; exact hp)
   · exact .inr (by rw [← h1, ← h2]; exact hp)
 · rintro (h | h)
   · exact ⟨_, h, by simp⟩
   · exact ⟨_, h, by simp⟩
theorem cl_is (h : Rl M R) {a b : Nat} (ha : a < (yH M R).length) (hb : b < (yH M R).length) : xH (qS (yH M R) R) a b = R ((yH M R).getD a 0) (tnN ((yH M R).getD b 0)) := by
 rw [Bool.eq_iff_iff, clOf_iff, cls_mem, cls_mem]
 constructor
 · rintro (⟨_, _, _, g⟩ | ⟨_, _, _, g⟩)
   · exact g
   · exact h.sym g
 · intro g
   rcases Nat.lt_trichotomy a b with l | e | l
   · exact .inl ⟨ha, hb, l, g⟩
   · subst e
     have := (spt_mem.mp (wT ha)).2
     rw [this] at g
     cases g
   · exact .inr ⟨hb, ha, l, h.sym g⟩
theorem kI (h : Rl M R) {n : Nat} (hn : n < M) : cnt (yH M R).length (qS (yH M R) R) (yV (yH M R) R n) = yV (yH M R) R (tnN n) := by
 unfold cnt
 show _ = (List.range (yH M R).length).filter fun a => R ((yH M R).getD a 0) (tnN n)
 refine List.filter_congr fun i hi => ?_
 have hi := List.mem_range.mp hi
 have hsi := spt_mem.mp (wT hi)
 rw [Bool.eq_iff_iff, List.all_eq_true]
 constructor
 · intro g
   by_cases c : R n (tnN n) = true
   · exact h.sym (h.all n _ c (h.lt hsi.1))
   · have hm : n ∈ yH M R := spt_mem.mpr ⟨hn, Bool.eq_false_iff.mpr c⟩
     obtain ⟨a, ha⟩ := List.getElem?_of_mem hm
     have ea : (yH M R).getD a 0 = n := by rw [List.getD_eq_getElem?_getD, ha]; rfl
     have hal := (List.getElem?_eq_some_iff.mp ha).1
     have := g a (und_mem.mpr ⟨hal, by rw [ea]; exact h.refl n hn⟩)
     rw [cl_is h hal hi, ea] at this
     exact h.sym this
 · intro g a ha
   obtain ⟨hal, hr⟩ := und_mem.mp ha
   rw [cl_is h hal hi]
   exact h.sym (h.trans _ _ _ g (h.turn _ _ hr))
theorem cnt_full (h : Rl M R) {n : Nat} (hn : n < M) : cnt (yH M R).length (qS (yH M R) R) (cnt (yH M R).length (qS (yH M R) R) (yV (yH M R) R n)) = yV (yH M R) R n := by
 rw [kI h hn, kI h (h.lt hn), uH]
theorem cls_ok (sp : List Nat) : Ok2 sp.length (qS sp R) := fun p hp => let ⟨_, h2, h3, _⟩ := cls_mem.mp hp; ⟨h3, h2⟩
theorem cls_sort (sp : List Nat) : (qS sp R).Pairwise ltP := by
 unfold qS
 rw [List.pairwise_flatMap]
 refine ⟨fun a _ => ?_, ?_⟩
 · rw [List.pairwise_map]
   exact (List.Pairwise.filter _ List.pairwise_lt_range).imp fun h => .inr ⟨rfl, h⟩
 · refine List.pairwise_lt_range.imp fun {a b} h x hx y hy => ?_
   obtain ⟨_, _, rfl⟩ := List.mem_map.mp hx
   obtain ⟨_, _, rfl⟩ := List.mem_map.mp hy
   exact .inl h
theorem flat_len {α β : Type} (f : α -> List β) (n : Nat) : ∀ xs : List α, (∀ x ∈ xs, (f x).length <= n) -> (xs.flatMap f).length <= xs.length * n
 | [], _ => by simp
 | x :: xs, h => by
   have a1 := flat_len f n xs fun y hy => h y (List.mem_cons_of_mem _ hy)
   have a2 := h x List.mem_cons_self
   rw [List.flatMap_cons, List.length_append, List.length_cons, Nat.add_mul, Nat.one_mul]
   omega
theorem cls_len (sp : List Nat) : (qS sp R).length <= sp.length * sp.length := by
 have := flat_len (fun a => ((List.range sp.length).filter fun b => decide (a < b) && R (sp.getD a 0) (tnN (sp.getD b 0))).map fun b => (a, b)) sp.length (List.range sp.length) fun x _ => by
   rw [List.length_map]
   exact Nat.le_trans (List.length_filter_le _ _) (by rw [List.length_range]; exact Nat.le_refl _)
 rw [List.length_range] at this
 exact this
theorem spt_len : (yH M R).length <= M := Nat.le_trans (List.length_filter_le _ _) (by rw [List.length_range]; exact Nat.le_refl _)
theorem spt_one (hM : 2 <= M) (h : R 1 0 = false) : 1 <= (yH M R).length := List.length_pos_of_mem (spt_mem.mpr ⟨by omega, h⟩ : 1 ∈ yH M R)
end
theorem kA {rows : List Rw} {x : Str} {k : Nat} (h : (x, k) ∈ nmK rows) : rows[k]? = some (.nm x) /\ k < rows.length := by
 unfold nmK at h
 obtain ⟨q, hq, e⟩ := List.mem_filterMap.mp h
 unfold nmR at e
 split at e
 · rename_i y hy
   cases e
   exact ⟨hy, List.mem_range.mp hq⟩
 · cases e
theorem Sh26.names {zs : List Str} {rows : List Rw} (h : Sh26 zs rows) : ((nmK rows).map (·.1)).Nodup /\ ∀ x ∈ (nmK rows).map (·.1), x ∈ zs := by
 have sub : ∀ x ∈ (nmK rows).map (·.1), x ∈ zs := fun x hx => by
   obtain ⟨q, hq, rfl⟩ := List.mem_map.mp hx
   exact h.nm q.2 q.1 (kA hq).1
 refine ⟨?_, sub⟩
 unfold nmK
 rw [List.map_filterMap]
 have : ∀ n, n <= rows.length -> ((List.range n).filterMap fun k => ((nmR rows k).map fun x => (x, k)).map (·.1)).Nodup /\ ∀ y ∈ (List.range n).filterMap fun k => ((nmR rows k).map fun x => (x, k)).map (·.1), ∃ k, k < n /\ rows[k]? = some (.nm y) := by
   intro n
   induction n with
   | zero => exact fun _ => ⟨.nil, fun y hy => by cases hy⟩
   | succ n ih =>
     intro hn
     obtain ⟨i1, i2⟩ := ih (by omega)
     rw [List.range_succ, List.filterMap_append]
     have hcase : (∃ y, nmR rows n = some y /\ rows[n]? = some (.nm y)) \/ nmR rows n = none := by
       unfold nmR
       split
       · rename_i y hy
         exact .inl ⟨y, rfl, hy⟩
       · exact .inr rfl
     rcases hcase with ⟨y, e1, e2⟩ | e1
     · have e3 : [n].filterMap (fun k => ((nmR rows k).map fun x => (x, k)).map (·.1)) = [y] := by simp [e1]
       rw [e3]
       refine ⟨?_, fun z hz => ?_⟩
       · rw [List.nodup_append]
         refine ⟨i1, by simp, fun a ha b hb e => ?_⟩
         rw [List.mem_singleton.mp hb] at e
         obtain ⟨k, hk1, hk2⟩ := i2 a ha
         rw [e] at hk2
         have := (List.getElem?_inj (show k < rows.length by omega) h.nd).mp (hk2.trans e2.symm)
         omega
       · rcases List.mem_append.mp hz with hz | hz
         · obtain ⟨k, h1, h2⟩ := i2 z hz
           exact ⟨k, by omega, h2⟩
         · rw [List.mem_singleton.mp hz]
           exact ⟨n, by omega, e2⟩
     · have e3 : [n].filterMap (fun k => ((nmR rows k).map fun x => (x, k)).map (·.1)) = [] := by simp [e1]
       rw [e3, List.append_nil]
       exact ⟨i1, fun z hz => let ⟨k, h1, h2⟩ := i2 z hz; ⟨k, by omega, h2⟩⟩
 exact (this rows.length (Nat.le_refl _)).1
abbrev s_p : Stmt := top 30
theorem sc_p : FnScope ["world", "sheet", "near", "sets", "name", "spots", "values", "row"] ["world", "sheet"] (zH s_p) := ⟨rfl, rfl, rfl, by decide +kernel, rfl, by decide +kernel, by decide +kernel⟩
abbrev s_x : Stmt := top 31
theorem sc_x : FnScope ["values", "pair"] ["values", "pair"] (zH s_x) := ⟨rfl, rfl, rfl, by decide +kernel, rfl, by decide +kernel, by decide +kernel⟩
theorem lc_listIfT {K : PySem.W.Frag} {a : Addr} {xs : List V} {ns : List Str} {js : List Nat} {g : TG} {tc : TT} {te : TE} {σ : St} {H : Hp} {Q : VK} (Pv : Nat -> List V -> St -> Hp -> Prop) (h0 : Pv 0 [] (kC ns js σ) H) (hz : xs.length <= sizeLine) (hl : ∀ i ys σ H, Pv i ys σ H -> ys.length <= i)
   (hK : ∀ i ys σ H, Pv i ys σ H -> SqL K H a xs)
   (hs : ∀ (i : Nat) x ys σ H (C : V -> St -> Hp -> Prop) (D : St -> Hp -> Prop), xs[i]? = some x -> Pv i ys σ H -> (∀ y σ2 H3, Pv (i + 1) (ys ++ [y]) σ2 H3 -> C y σ2 H3) -> (∀ σ2 H3, Pv (i + 1) ys σ2 H3 -> D σ2 H3) ->
     g x σ H fun σ2 H2 => tc σ2 H2 fun b H3 => if b = true then te σ2 H3 fun y H4 => C y σ2 H4 else D σ2 H3)
   (hd : ∀ ys σ H, Pv xs.length ys σ H -> ∀ p, H p = none -> Q (.ref p) (upd H p (.lst ys))) :
   LcW (Itl K a) ns js g (some tc) te σ H Q := by
 refine ⟨fun i m ys σ H => m = xs.length - i /\ i <= xs.length /\ Pv i ys σ H, ⟨xs.length, by omega, Nat.zero_le _, h0⟩, fun i m ys σ1 H1 ⟨hm, hi, hp⟩ => ?_⟩
 by_cases h : i < xs.length
 · refine .inr ⟨⟨xs, xs[i], hK i ys σ1 H1 hp, List.getElem?_eq_getElem h⟩, ?_, fun x H' ⟨e, hx⟩ => ?_⟩
   · have := hl i ys σ1 H1 hp
     omega
   · subst e
     exact hs i x ys σ1 _ _ _ (hx xs (hK i ys σ1 _ hp)) hp (fun y σ2 H3 q => ⟨xs.length - (i + 1), by omega, rfl, by omega, q⟩) fun σ2 H3 q => ⟨xs.length - (i + 1), by omega, rfl, by omega, q⟩
 · have e : i = xs.length := by omega
   subst e
   exact .inl ⟨⟨xs, hK _ ys σ1 H1 hp, Nat.le_refl _⟩, hd ys σ1 H1 hp⟩
section
variable {M : Nat} {R : Nat -> Nat -> Bool}
theorem und_zero (h : Rl M R) (low : ∀ x, x < M -> R 0 x = true) : yV (yH M R) R 0 = [] := by
 unfold yV
 refine List.filter_eq_nil_iff.mpr fun a ha hr => ?_
 obtain ⟨h1, h2⟩ := spt_mem.mp (wT (List.mem_range.mp ha))
 have := h.trans _ _ _ hr (low _ (h.lt h1))
 rw [h2] at this
 cases this
theorem und_both {sp : List Nat} (h : Rl M R) {i j n : Nat} (hi : R n i = true) (hj : R n j = true) (hb : ∀ x, R x i = true -> R x j = true -> R x n = true) : (yV sp R i).filter (fun a => decide (a ∈ yV sp R j)) = yV sp R n := by
 unfold yV
 rw [List.filter_filter]
 refine List.filter_congr fun a ha => ?_
 have hal := List.mem_range.mp ha
 rw [Bool.eq_iff_iff, Bool.and_eq_true, decide_eq_true_eq]
 constructor
 · rintro ⟨h1, h2⟩
   exact hb _ h2 (und_mem.mp h1).2
 · intro g
   exact ⟨und_mem.mpr ⟨hal, h.trans _ _ _ g hj⟩, h.trans _ _ _ g hi⟩
theorem und_under (h : Rl M R) {i j : Nat} (hi : i < M) (hj : j < M) : ((yV (yH M R) R i).all fun a => decide (a ∈ yV (yH M R) R j)) = R i j := by
 rw [Bool.eq_iff_iff, List.all_eq_true]
 constructor
 · intro g
   by_cases c : R i (tnN i) = true
   · exact h.all i j c hj
   · have hm : i ∈ yH M R := spt_mem.mpr ⟨hi, Bool.eq_false_iff.mpr c⟩
     obtain ⟨a, ha⟩ := List.getElem?_of_mem hm
     have ea : (yH M R).getD a 0 = i := by rw [List.getD_eq_getElem?_getD, ha]; rfl
     have hal := (List.getElem?_eq_some_iff.mp ha).1
     have := g a (und_mem.mpr ⟨hal, by rw [ea]; exact h.refl i hi⟩)
     have := (und_mem.mp (of_decide_eq_true this)).2
     rwa [ea] at this
 · intro g a ha
   obtain ⟨h1, h2⟩ := und_mem.mp ha
   exact decide_eq_true (und_mem.mpr ⟨h1, h.trans _ _ _ h2 g⟩)
end
theorem nat_in (xs : List Nat) (a : Nat) : ((xs.map fun (x : Nat) => Dt.int (x : Int)).any fun e => deq e (.int (a : Int))) = decide (a ∈ xs) := by
 rw [Bool.eq_iff_iff, List.any_eq_true, decide_eq_true_eq]
 constructor
 · rintro ⟨d, hd, h⟩
   obtain ⟨x, hx, rfl⟩ := List.mem_map.mp hd
   have : (x : Int) = (a : Int) := by simpa [deq] using h
   rw [show a = x by omega]
   exact hx
 · intro h
   exact ⟨.int (a : Int), List.mem_map.mpr ⟨a, h, rfl⟩, deq_refl _⟩
theorem Ov.ext {H J H' : Hp} {lg : Addr} {us : List V} (h : Ov H J lg us) (e : Same H H') : ∃ J', Ov H' J' lg us /\ Same J J' := by
 refine ⟨fun b => if b = lg then none else H' b, ⟨?_, if_pos rfl⟩, fun b o hb => ?_⟩
 · funext b
   by_cases hb : b = lg
   · subst hb
     rw [zB]
     exact e _ _ h.at
   · rw [zG hb]
     exact (if_neg hb).symm
 · have hne : b ≠ lg := fun z => by rw [z, h.no] at hb; cases hb
   show (if b = lg then none else H' b) = some o
   rw [if_neg hne]
   exact e _ _ (h.sub _ _ hb)
theorem ro_inj {T : List Ro} (h : (T.map (·.2.1)).Pairwise (fun x y => x.cps.toList < y.cps.toList)) {e e' : Ro} (he : e ∈ T) (he' : e' ∈ T) (hn : e.2.1 = e'.2.1) : e = e' := by
 obtain ⟨i, hi⟩ := List.getElem?_of_mem he
 obtain ⟨j, hj⟩ := List.getElem?_of_mem he'
 obtain ⟨hil, hie⟩ := List.getElem?_eq_some_iff.mp hi
 obtain ⟨hjl, hje⟩ := List.getElem?_eq_some_iff.mp hj
 have hp := List.pairwise_iff_getElem.mp (List.pairwise_map.mp h)
 rcases Nat.lt_trichotomy i j with l | l | l
 · have := hp i j hil hjl l
   rw [hie, hje, hn] at this
   exact absurd this (List.lt_irrefl _)
 · subst l
   rw [← hie, ← hje]
 · have := hp j i hjl hil l
   rw [hie, hje, hn] at this
   exact absurd this (List.lt_irrefl _)
def VlAt (H : Hp) (sp : List Nat) (R : Nat -> Nat -> Bool) (n : Nat) (vs : List V) : Prop := ∃ as : List Addr, vs = as.map V.ref /\ as.length = n /\ ∀ (i : Nat) (a : Addr), as[i]? = some a -> H a = some (.lst ((yV sp R i).map nV))
theorem VlAt.same {H H' : Hp} {sp : List Nat} {R : Nat -> Nat -> Bool} {n : Nat} {vs : List V} (h : VlAt H sp R n vs) (e : Same H H') : VlAt H' sp R n vs := by
 obtain ⟨as, h1, h2, h3⟩ := h
 exact ⟨as, h1, h2, fun i a ha => e _ _ (h3 i a ha)⟩
theorem VlAt.snoc {H : Hp} {sp : List Nat} {R : Nat -> Nat -> Bool} {n : Nat} {vs : List V} (h : VlAt H sp R n vs) {a : Addr} (ha : H a = some (.lst ((yV sp R n).map nV))) : VlAt H sp R (n + 1) (vs ++ [.ref a]) := by
 obtain ⟨as, rfl, h2, h3⟩ := h
 refine ⟨as ++ [a], by rw [List.map_append]; rfl, by rw [List.length_append, h2]; rfl, fun i b hb => ?_⟩
 by_cases hi : i < as.length
 · rw [List.getElem?_append_left hi] at hb
   exact h3 i b hb
 · have := (List.getElem?_eq_some_iff.mp hb).1
   rw [List.length_append] at this
   simp at this
   rw [show i = as.length by omega, List.getElem?_append_right (Nat.le_refl _)] at hb
   simp at hb
   subst hb
   rw [show i = n by omega]
   exact ha
def spLi : Sp := fun vs H Q _ => ∃ (va pa : Addr) (us : List V) (rows : List Rw) (ls : List Ln) (i j : Int), vs = [.ref va, .ref pa] /\ H va = some (.lst us) /\ VlAt H (yH (2 * rows.length) (rl ls)) (rl ls) (2 * rows.length) us /\ H pa = some (.tup [.int i, .int j]) /\ rows.length <= 30 /\ (0 <= i /\ i < 2 * (rows.length : Int)) /\ (0 <= j /\ j < 2 * (rows.length : Int)) /\ Rl (2 * rows.length) (rl ls) /\ ∀ H', Same H H' -> Q (.bl (zQ ls i j)) H'
def spLv : Sp := fun vs H Q _ => ∃ (wa sa : Addr) (us : List V) (rows : List Rw) (rules : List yE) (ls : List Ln) (T : List Ro) (ca ra : Addr) (vw : List V) (J0 : Hp), vs = [.ref wa, .ref sa] /\ H sa = some (.lst us) /\ jI H rows us /\ rows.length <= 30 /\ 1 <= rows.length /\ rows.Nodup /\ RowsIn rows /\ (∀ k, rows[k]? = some .no -> k = 0) /\ Pl rows (2 * rows.length) rows.length ls /\ Cl rows rules ls.length ls /\ WoAt J0 H wa (yH (2 * rows.length) (rl ls)) rows ls T ca ra vw /\ ∀ p us' H', Same H H' -> H' p = some (.lst us') -> VlAt H' (yH (2 * rows.length) (rl ls)) (rl ls) (2 * rows.length) us' -> Q (.ref p) H'
section
variable {P : Program} {w : World} {K : PySem.W.Frag} {mg : Str -> Option Value} {base : Heap} {f : Addr} {fd : FuncData}
theorem ok_lies (bi : Bi mg) (F : Fun K "_law_lies" "_law_lies" s_x f fd) : FnOk P w K mg base CX0 1 f fd ["values", "pair"] spLi := by
 refine F.ok sc_x (fun vs H Q E h => ?_) (fun cdv A outer s H vs Q E hr h => ?_)
 · obtain ⟨va, pa, us, rows, ls, i, j, rfl, _⟩ := h
   rfl
 obtain ⟨va, pa, us, rows, ls, i, j, rfl, hva, hv, hpa, hrl, hi, hj, hR, q⟩ := h
 refine ⟨_, (zF (zZ (zK call_all rfl bi.all bt_all (zA (yW ["spot"] ["values", "pair"] [0, 1] (yI (zN ix_list (pv 0) (zN ix_tup (pv 1) zE (fun _ _ => rfl)) (fun _ _ => rfl))) (fun _ _ _ _ nd => zJ (i := 0) nd rfl (Or.inl rfl)) (fun _ _ _ _ => yY) (fun _ _ _ _ => (jX (op_inG hr.units) (pv 0) (zN (jU K) (pv 1) (zN (jB K) (pv 2) zE (fun _ _ => rfl)) (fun _ _ => rfl)) (by with_unfolding_all rfl)))) pa_nil)))), ?_⟩
 obtain ⟨i, rfl⟩ : ∃ m : Nat, i = (m : Int) := ⟨i.toNat, by omega⟩
 obtain ⟨j, rfl⟩ : ∃ m : Nat, j = (m : Int) := ⟨j.toNat, by omega⟩
 obtain ⟨as, rfl, hal, has⟩ := hv
 have gi : atI (as.map V.ref) (i : Int) = some (V.ref (as[i]'(by omega))) := zU (by rw [List.getElem?_map, List.getElem?_eq_getElem (by omega)]; rfl)
 have gj : atI (as.map V.ref) (j : Int) = some (V.ref (as[j]'(by omega))) := zU (by rw [List.getElem?_map, List.getElem?_eq_getElem (by omega)]; rfl)
 have ki := has i _ (List.getElem?_eq_getElem (by omega))
 have kj := has j _ (List.getElem?_eq_getElem (by omega))
 generalize as[i]'(by omega) = ai at gi ki
 generalize as[j]'(by omega) = aj at gj kj
 simp! []
 refine ⟨_, SqT.of hpa, _, at0, _, _, rfl, SqL.of hva, _, gi, ai, rfl, ⟨_, SqL.of ki⟩, ?_⟩
 have hsl := spt_len (M := 2 * rows.length) (R := rl ls)
 have hul : ∀ n, (yV (yH (2 * rows.length) (rl ls)) (rl ls) n).length <= 60 := fun n => Nat.le_trans (List.length_filter_le _ _) (by rw [List.length_range]; omega)
 have hq : Q (.bl (zQ ls (i : Int) (j : Int))) = Q (.bl ((yV (yH (2 * rows.length) (rl ls)) (rl ls) i).all fun a => decide (a ∈ yV (yH (2 * rows.length) (rl ls)) (rl ls) j))) := by
   rw [und_under hR (by omega) (by omega)]
   rfl
 generalize yH (2 * rows.length) (rl ls) = sp at ki kj has hul hq
 refine xU (xs := (yV sp (rl ls) i).map nV) (fun n ys σ H' => Same H H' /\ ys = (((yV sp (rl ls) i).take n).map fun a => decide (a ∈ yV sp (rl ls) j)).map V.bl /\ ∃ o, σ = [o, some (V.ref va), some (V.ref pa)]) ⟨Same.refl _, rfl, _, rfl⟩ (zM (by rw [List.length_map]; have := hul i; omega)) (fun n ys σ H' e => ?_) (fun n ys σ H' e => SqL.of (e.1 _ _ ki)) (fun n x ys σ H' C hx e hC => ?_) (fun ys σ H' e p hp => ?_)
 · rw [e.2.1, List.length_map, List.length_map, List.length_take]; omega
 · obtain ⟨es, rfl, o, rfl⟩ := e
   rw [List.getElem?_map] at hx
   obtain ⟨y, hy, rfl⟩ := Option.map_eq_some_iff.mp hx
   obtain ⟨hil, hie⟩ := List.getElem?_eq_some_iff.mp hy
   simp! [rInG]
   refine ⟨_, SqT.of (es _ _ hpa), _, at1, _, _, rfl, SqL.of (es _ _ hva), _, gj, 1, .int y, rfl, _, .inl (uK (es _ _ kj)), (fun e he => by obtain ⟨_, _, rfl⟩ := List.mem_map.mp he; trivial), by decide, ?_⟩
   rw [nat_in, Bool.false_xor]
   refine hC _ _ _ ⟨es, ?_, _, rfl⟩
   rw [List.take_succ_eq_append_getElem hil, hie, List.map_append, List.map_append]
   rfl
 obtain ⟨es, rfl, o, rfl⟩ := e
 rw [List.length_map, List.take_of_length_le (Nat.le_refl _)]
 refine ⟨p, rfl, _, SqL.of zB, ?_⟩
 have := q _ (es.trans (zD hp (.lst (((yV sp (rl ls) i).map fun a => decide (a ∈ yV sp (rl ls) j)).map V.bl))))
 rw [hq] at this
 rw [List.all_map]
 exact this
theorem ok_values (bi : Bi mg) (h_v : Has P w K mg base 1 "_law_near" ["many", "pairs"] spNr) (h_n : Has P w K mg base 1 "_law_counter" ["near", "spots"] (spLc K)) (F : Fun K "_law_values" "_law_values" s_p f fd) : FnOk P w K mg base CX0 2 f fd ["world", "sheet"] spLv := by
 refine F.ok sc_p (fun vs H Q E h => ?_) (fun cdv A outer s H vs Q E hr h => ?_)
 · obtain ⟨wa, sa, us, rows, rules, ls, T, ca, ra, vw, J0, rfl, _⟩ := h
   rfl
 obtain ⟨wa, sa, us, rows, rules, ls, T, ca, ra, vw, J0, rfl, hsa, hrw, hrl, hr1, hnd, hin, hno, hpl, hcl, hw, q⟩ := h
 refine ⟨_, (zC (zO (i := 2) sc_p.nd rfl (Or.inl rfl) (zP h_v (hr.mono (by omega)) rfl (zA (zN ix_tup (pv 0) zE (fun _ _ => rfl)) (zA (zN ix_tup (pv 0) zE (fun _ _ => rfl)) pa_nil)))) (zC (zO (i := 3) sc_p.nd rfl (Or.inl rfl) pe_dnewK) (zC (yK PassesOwn.never rfl (yI (zN ix_tup (pv 0) zE (fun _ _ => rfl))) (jM rfl (zX (zJ (i := 4) sc_p.nd rfl (Or.inl rfl)) (zX (zJ (i := 5) sc_p.nd rfl (Or.inl rfl)) pgs_nil))) (zF (wX (jC hr) (pv 3) (pv 4) (pv 5) rfl))) (zC (zO (i := 6) sc_p.nd rfl (Or.inr rfl) (yX pa_nil)) (zC (yK PassesOwn.never rfl (yI (pv 1)) (zJ (i := 7) sc_p.nd rfl (Or.inr rfl)) (zC (zO (i := 5) sc_p.nd rfl (Or.inl rfl) (yX pa_nil)) (zC (yP (zY op_eq (zN ix_tup (pv 7) zE (fun _ _ => rfl)) yL (yD _)) (zF (zO (i := 5) sc_p.nd rfl (Or.inl rfl) (jY call_list_of rfl bi.list bt_list (zA (pe_dget (jC hr) (pv 3) (zN ix_tup (pv 7) zE (fun _ _ => rfl)) (fun _ _ => rfl)) pa_nil)))) pss_nil) (zC (yP (zY op_eq (zN ix_tup (pv 7) zE (fun _ _ => rfl)) yL (yD _)) (zF (uI (i := 5) ["spot"] ["values", "row"] [6, 7] sc_p.nd rfl (yI (zN ix_list (pv 6) (zN ix_tup (pv 7) zE (fun _ _ => rfl)) (fun _ _ => rfl))) (fun _ _ _ _ nd => zJ (i := 0) nd rfl (Or.inl rfl)) (fun _ _ _ _ => qO (zY (op_inG hr.units) (pv 0) (zN (jU K) (pv 1) (zN (jB K) (pv 2) zE (fun _ _ => rfl)) (fun _ _ => rfl)) (by with_unfolding_all rfl))) (fun _ _ _ _ => (pv 0)))) pss_nil) (zC (zV (xQ PySem.F.plainAttrs_list PySem.F.slot_list_append PySem.F.type_list_append mt_append (pv 6) (zA (pv 5) pa_nil))) (zF (zV (xQ PySem.F.plainAttrs_list PySem.F.slot_list_append PySem.F.type_list_append mt_append (pv 6) (zA (zP h_n (hr.mono (by omega)) rfl (zA (pv 2) (zA (pv 5) pa_nil))) pa_nil))))))))) (zF (zZ (pv 6)))))))), ?_⟩
 have hR := Rl.of hpl hcl
 have a2 : ∀ {a b c : V}, atI [a, b, c] 2 = some c := zU (j := 2) rfl
 have a1 : ∀ {a b c : V}, atI [a, b, c] 1 = some b := zU (j := 1) rfl
 have a0 : ∀ {a b c : V}, atI [a, b, c] 0 = some a := zU (j := 0) rfl
 have hsl := spt_len (M := 2 * rows.length) (R := rl ls)
 have hul : us.length = rows.length := by have := DAts.length hrw; rwa [List.length_map] at this
 refine zI fun N hN => ?_
 simp! []
 refine ⟨_, SqT.of hw.tup, _, a0, _, SqT.of hw.tup, _, a1, _, ca, vw, _, rfl, by omega, hw.cl, hw.dat, cls_ok _, fun nr H1 s1 hnr => hN _ _ ?_⟩
 clear hN
 refine zI fun N hN => ?_
 simp! []
 refine fun d hd => hN _ _ ?_
 clear hN
 have e1 := zD hd (.dK [])
 have fd : H d = none := s1.free hd
 have kd : upd H1 d (.dK []) d = some (.dK []) := zB
 have hnr1 := hnr.same e1
 generalize upd H1 d (.dK []) = H2 at e1 kd hnr1 ⊢
 refine zW (fun σ H' => ∃ (kvs : List (Key × V)) (o4 o5 : Option V), Same H1 H' /\ H' d = some (.dK kvs) /\ (∀ e ∈ T, yG kvs (.inr e.2.1) = some (.ref e.2.2.1)) /\ σ = [some (V.ref wa), some (V.ref sa), some (V.ref nr), some (V.ref d), o4, o5, none, none]) (fun N hN => ?_) (fun σ H' h => ?_)
 · simp! []
   refine ⟨_, SqT.of ((s1.trans e1) _ _ hw.tup), _, a2, ra, rfl, ⟨_, SqL.of ((s1.trans e1) _ _ hw.lst)⟩, ?_⟩
   refine xG (xs := (T.map (·.1)).map V.ref) (fun i σ H' => ∃ (kvs : List (Key × V)) (o4 o5 : Option V), Same H1 H' /\ H' d = some (.dK kvs) /\ kvs.length <= i /\ (∀ e ∈ T.take i, yG kvs (.inr e.2.1) = some (.ref e.2.2.1)) /\ σ = [some (V.ref wa), some (V.ref sa), some (V.ref nr), some (V.ref d), o4, o5, none, none]) ⟨[], _, _, e1, kd, Nat.le_refl _, (fun e he => by cases he), rfl⟩ (fun i σ H' _ h => by obtain ⟨_, _, _, e, _⟩ := h; exact SqL.of ((s1.trans e) _ _ hw.lst)) (fun i x σ H' hx h => ?_) (fun σ H' h => ?_)
   · obtain ⟨kvs, o4, o5, es, kd, hkl, hkv, rfl⟩ := h
     rw [List.getElem?_map, List.getElem?_map] at hx
     obtain ⟨ta, hta, rfl⟩ := Option.map_eq_some_iff.mp hx
     obtain ⟨e, hei, rfl⟩ := Option.map_eq_some_iff.mp hta
     obtain ⟨hil, hie⟩ := List.getElem?_eq_some_iff.mp hei
     have hmem := List.mem_of_getElem? hei
     have t1 := (s1.trans es) _ _ (hw.tr e hmem).1
     simp! [qG, jE, gNil, sDPut]
     have hTl : T.length <= 30 := by
       have h1 := hw.perm.length_eq
       rw [List.length_map, List.length_map] at h1
       have : (nmK rows).length <= rows.length := Nat.le_trans (List.length_filterMap_le _ _) (by rw [List.length_range]; exact Nat.le_refl _)
       omega
     refine ⟨_, SqT.of t1, rfl, _, _, rfl, _, _, rfl, rfl, _, DPut.k (k := .inr e.2.1) kd (zM (by omega)), es.upd hd, _, zB, Nat.le_trans (jA _ _ _) (by omega), fun e' he' => ?_, _, rfl⟩
     rw [valV_put]
     by_cases ce : e'.2.1 = e.2.1
     · rw [if_pos (by rw [ce])]
       rw [ro_inj hw.srt (List.mem_of_mem_take he') hmem ce]
     · rw [if_neg (fun z => ce (Sum.inr.inj z))]
       refine hkv e' ?_
       rw [List.take_succ_eq_append_getElem hil, hie] at he'
       rcases List.mem_append.mp he' with h | h
       · exact h
       · rw [List.mem_singleton.mp h] at ce
         exact absurd rfl ce
   · obtain ⟨kvs, o4, o5, es, kd, hkl, hkv, rfl⟩ := h
     rw [List.take_of_length_le (by rw [List.length_map, List.length_map]; exact Nat.le_refl _)] at hkv
     exact hN _ _ ⟨kvs, _, _, es, kd, hkv, rfl⟩
 obtain ⟨kvs, o4, o5, es, kd, hkv, rfl⟩ := h
 refine zI fun N hN => ?_
 simp! []
 refine ⟨zM (by decide), fun pv hpv => hN _ _ ?_⟩
 clear hN
 have ov0 := Ov.mk0 hpv
 generalize upd H' pv (.lst []) = H3 at ov0 ⊢
 refine zW (fun σ H' => ∃ (J : Hp) (vs : List V), Ov H' J pv vs /\ Same H J /\ VlAt J (yH (2 * rows.length) (rl ls)) (rl ls) (2 * rows.length) vs /\ ∃ o5 o7, σ = [some (V.ref wa), some (V.ref sa), some (V.ref nr), some (V.ref d), o4, o5, some (V.ref pv), o7]) (fun N hN => ?_) (fun σ H' h => ?_)
 · simp! []
   have sB : Same H H' := s1.trans es
   refine ⟨⟨_, SqL.of (ov0.sub _ _ (sB _ _ hsa))⟩, ?_⟩
   refine xG (xs := us) (fun i σ Hc => ∃ (J : Hp) (vs : List V), Ov Hc J pv vs /\ Same H' J /\ VlAt J (yH (2 * rows.length) (rl ls)) (rl ls) (2 * i) vs /\ ∃ o5 o7, σ = [some (V.ref wa), some (V.ref sa), some (V.ref nr), some (V.ref d), o4, o5, some (V.ref pv), o7]) ⟨H', [], ov0, Same.refl _, ⟨[], rfl, rfl, fun i a h => by simp at h⟩, _, _, rfl⟩ (fun i σ Hc _ h => by obtain ⟨J, vs, ov, sJ, _⟩ := h; exact SqL.of ((sB.trans (sJ.trans ov.sub)) _ _ hsa)) (fun i x σ Hc hx h => ?_) (fun σ Hc h => ?_)
   · obtain ⟨J, vs, ov, sJ, hv, o5', o7', rfl⟩ := h
     obtain ⟨r, hri, hx'⟩ := yZ hrw hx
     obtain ⟨rx, x, us', rfl, g1, g2⟩ := RwAt.out hx'
     have hil := (List.getElem?_eq_some_iff.mp hri).1
     have gJ := (sB.trans sJ) _ _ g1
     refine zI fun N hN => ?_
     simp! []
     refine ⟨zM (by decide), fun l0 hl0 => hN _ _ ?_⟩
     clear hN
     have ov1 := ov.new hl0 (.lst [])
     have e1 := zD (ov.free hl0) (.lst [])
     have k0 : upd J l0 (.lst []) l0 = some (.lst []) := zB
     generalize upd J l0 (.lst []) = J1 at ov1 e1 k0
     generalize upd Hc l0 (.lst []) = Hd at ov1 ⊢
     refine zW (fun σ He => ∃ (J2 : Hp) (pl : Addr) (ws : List Nat), Ov He J2 pv vs /\ Same J1 J2 /\ J2 pl = some (.lst (ws.map nV)) /\ (∀ y, r = .nm y -> ws = yV (yH (2 * rows.length) (rl ls)) (rl ls) (2 * i)) /\ (r = .no -> ws = []) /\ σ = [some (V.ref wa), some (V.ref sa), some (V.ref nr), some (V.ref d), o4, some (V.ref pl), some (V.ref pv), some (V.ref rx)]) (fun N hN => ?_) (fun σ He h => ?_)
     · simp! []
       refine ⟨_, SqT.of ((e1.trans ov1.sub) _ _ gJ), _, at0, rfl, ?_⟩
       have hkd : Hd d = some (.dK kvs) := (sJ.trans (e1.trans ov1.sub)) _ _ kd
       have gHd := (e1.trans ov1.sub) _ _ gJ
       cases r with
       | no =>
         obtain ⟨rfl, rfl⟩ := g2
         rw [if_neg (by decide)]
         exact hN _ _ ⟨J1, l0, [], ov1, Same.refl _, k0, (fun y hy => by cases hy), fun _ => rfl, rfl⟩
       | bo i' j' =>
         obtain ⟨rfl, rfl⟩ := g2
         rw [if_neg (by decide)]
         exact hN _ _ ⟨J1, l0, [], ov1, Same.refl _, k0, (fun y hy => by cases hy), fun _ => rfl, rfl⟩
       | nm y =>
         obtain ⟨rfl, rfl⟩ := g2
         rw [if_pos rfl]
         have hm : (y, i) ∈ nmK rows := List.mem_filterMap.mpr ⟨i, List.mem_range.mpr hil, by unfold nmR; rw [hri]; rfl⟩
         obtain ⟨e, he, hey⟩ : ∃ e ∈ T, e.2.1 = y := by
           have := hw.perm.symm.subset (List.mem_map.mpr ⟨(y, i), hm, rfl⟩)
           obtain ⟨e, he, h⟩ := List.mem_map.mp this
           exact ⟨e, he, h⟩
         obtain ⟨k, hk, heq⟩ := hw.is e he
         obtain ⟨hk1, hk2⟩ := kA hk
         have hki : k = i := (List.getElem?_inj hk2 hnd).mp (by rw [hk1, hri, hey])
         have hd1 := hkv e he
         rw [hey] at hd1
         have hl1 := (sB.trans (sJ.trans (e1.trans ov1.sub))) _ _ (hw.tr e he).2.1
         rw [heq, hki] at hl1
         refine ⟨_, SqT.of gHd, _, at1, _, hd1 ▸ DGet.k (k := .inr y) hkd, _, rfl, _, .inl (SqL.of hl1), fun l hl => hN _ _ ⟨_, l, _, ov1.new hl _, zD (ov1.free hl) _, zB, fun _ _ => rfl, (fun h => by cases h), rfl⟩⟩
     obtain ⟨J2, pl, ws, ov2, e2, kp2, hnm, hnn, rfl⟩ := h
     have sK : Same H' J2 := sJ.trans (e1.trans e2)
     have hvJ := hv.same (e1.trans e2)
     have g3 := (e1.trans e2) _ _ gJ
     have hun : ∀ n, (yV (yH (2 * rows.length) (rl ls)) (rl ls) n).length <= 60 := fun n => Nat.le_trans (List.length_filter_le _ _) (by rw [List.length_range]; omega)
     refine zW (fun σ He => ∃ (J3 : Hp) (pl : Addr), Ov He J3 pv vs /\ Same J2 J3 /\ J3 pl = some (.lst ((yV (yH (2 * rows.length) (rl ls)) (rl ls) (2 * i)).map nV)) /\ σ = [some (V.ref wa), some (V.ref sa), some (V.ref nr), some (V.ref d), o4, some (V.ref pl), some (V.ref pv), some (V.ref rx)]) (fun N hN => ?_) (fun σ Hf h => ?_)
     · simp! []
       refine ⟨_, SqT.of (ov2.sub _ _ g3), _, at0, rfl, ?_⟩
       cases r with
       | no =>
         obtain ⟨rfl, rfl⟩ := g2
         rw [if_neg (by decide)]
         refine hN _ _ ⟨J2, pl, ov2, Same.refl _, ?_, rfl⟩
         rw [hno i hri, und_zero hR (fun x hx => hpl.low x hx), kp2, hnn rfl]
       | nm y =>
         obtain ⟨rfl, rfl⟩ := g2
         rw [if_neg (by decide)]
         refine hN _ _ ⟨J2, pl, ov2, Same.refl _, ?_, rfl⟩
         rw [kp2, hnm y rfl]
       | bo i' j' =>
         obtain ⟨rfl, rfl⟩ := g2
         rw [if_pos rfl]
         obtain ⟨⟨ia, ib⟩, ja, jb⟩ := hin i i' j' hri
         obtain ⟨i', rfl⟩ : ∃ m : Nat, i' = (m : Int) := ⟨i'.toNat, by omega⟩
         obtain ⟨j', rfl⟩ : ∃ m : Nat, j' = (m : Int) := ⟨j'.toNat, by omega⟩
         obtain ⟨as, rfl, hal, has⟩ := hvJ
         have gi : atI (as.map V.ref) (i' : Int) = some (V.ref (as[i']'(by omega))) := zU (by rw [List.getElem?_map, List.getElem?_eq_getElem (by omega)]; rfl)
         have gj : atI (as.map V.ref) (j' : Int) = some (V.ref (as[j']'(by omega))) := zU (by rw [List.getElem?_map, List.getElem?_eq_getElem (by omega)]; rfl)
         have ki := has i' _ (List.getElem?_eq_getElem (by omega))
         have kj := has j' _ (List.getElem?_eq_getElem (by omega))
         generalize as[i']'(by omega) = ai at gi ki
         generalize as[j']'(by omega) = aj at gj kj
         have hbo := und_both (sp := yH (2 * rows.length) (rl ls)) hR (hpl.part i _ _ hil hri).1 (hpl.part i _ _ hil hri).2 (fun x hx hy => by
           obtain ⟨a, l, hl1, hl2, hl3⟩ := hasP_iff.mp hx
           obtain ⟨b, l', hb1, hb2, hb3⟩ := hasP_iff.mp hy
           exact hcl.both a b l l' x i _ _ (List.getElem?_eq_some_iff.mp hl1).1 (List.getElem?_eq_some_iff.mp hb1).1 hl1 hb1 hl2 hl3 hb2 hb3 hri)
         have hui := hun i'
         generalize yH (2 * rows.length) (rl ls) = sp at ki kj has hui hbo hN
         refine ⟨_, SqT.of (ov2.sub _ _ g3), _, at1, _, _, rfl, SqL.of ov2.at, _, gi, ai, rfl, ⟨_, SqL.of (ov2.sub _ _ ki)⟩, ?_⟩
         refine lc_listIfT (xs := (yV sp (rl ls) i').map nV) (fun n ys σ Hx => Same He Hx /\ ys = (((yV sp (rl ls) i').take n).filter fun a => decide (a ∈ yV sp (rl ls) j')).map nV /\ ∃ o, σ = [o, some (V.ref pv), some (V.ref rx)]) ⟨Same.refl _, rfl, _, rfl⟩ (zM (by rw [List.length_map]; omega)) (fun n ys σ Hx e => ?_) (fun n ys σ Hx e => SqL.of ((ov2.sub.trans e.1) _ _ ki)) (fun n x ys σ Hx C D hx e hC hD => ?_) (fun ys σ Hx e p hp => ?_)
         · rw [e.2.1, List.length_map]
           exact Nat.le_trans (List.length_filter_le _ _) (by rw [List.length_take]; omega)
         · obtain ⟨ex, rfl, o, rfl⟩ := e
           rw [List.getElem?_map] at hx
           obtain ⟨y, hy, rfl⟩ := Option.map_eq_some_iff.mp hx
           obtain ⟨hyl, hye⟩ := List.getElem?_eq_some_iff.mp hy
           simp! [rInG]
           refine ⟨_, SqT.of ((ov2.sub.trans ex) _ _ g3), _, zU (j := 2) rfl, _, _, rfl, SqL.of (ex _ _ ov2.at), _, gj, 1, .int y, rfl, _, .inl (uK ((ov2.sub.trans ex) _ _ kj)), (fun e he => by obtain ⟨_, _, rfl⟩ := List.mem_map.mp he; trivial), by decide, ?_⟩
           rw [nat_in, Bool.false_xor]
           have ht := List.take_succ_eq_append_getElem hyl
           by_cases hc : y ∈ yV sp (rl ls) j'
           · rw [if_pos (decide_eq_true hc)]
             refine hC _ _ _ ⟨ex, ?_, _, rfl⟩
             rw [ht, hye, List.filter_append, List.map_append]
             simp [hc, nV]
           · rw [if_neg (by simp [hc])]
             refine hD _ _ ⟨ex, ?_, _, rfl⟩
             rw [ht, hye, List.filter_append, List.map_append]
             simp [hc]
         obtain ⟨ex, rfl, o, rfl⟩ := e
         rw [List.length_map, List.take_of_length_le (Nat.le_refl _), hbo]
         obtain ⟨J3, ov3, s3⟩ := ov2.ext ex
         exact hN _ _ ⟨_, p, ov3.new hp _, s3.trans (zD (ov3.free hp) _), zB, rfl⟩
     obtain ⟨J3, pl3, ov3, s3, kp3, rfl⟩ := h
     have hvl : vs.length = 2 * i := by
       obtain ⟨as, rfl, hal, _⟩ := hv
       rw [List.length_map, hal]
     refine zI fun N hN => ?_
     simp! []
     refine ⟨.inl ⟨rfl, _, SqL.of ov3.at⟩, _, ov3.at, zM (by omega), hN _ _ ?_⟩
     clear hN
     have ov4 := ov3.set (vs ++ [.ref pl3])
     have hv4 := ((hv.same (e1.trans e2)).same s3).snoc kp3
     generalize upd Hf pv (.lst (vs ++ [.ref pl3])) = Hg at ov4 ⊢
     have sG : Same H' Hg := (sK.trans s3).trans ov4.sub
     have hnr4 := hnr.same (es.trans sG)
     simp! []
     refine ⟨.inl ⟨rfl, _, SqL.of ov4.at⟩, nr, pl3, _, _, yV (yH (2 * rows.length) (rl ls)) (rl ls) (2 * i), rfl, by omega, hnr4, SqL.of (ov4.sub _ _ kp3), (fun x hx => (und_mem.mp hx).1), by have := hun (2 * i); omega, fun p Hi si hp kp => ?_⟩
     obtain ⟨J5, ov5, s5⟩ := ov4.ext si
     have kp5 : J5 p = some (.lst ((yV (yH (2 * rows.length) (rl ls)) (rl ls) (2 * i + 1)).map nV)) := by
       have hne : p ≠ pv := fun z => by rw [z, ov4.at] at hp; cases hp
       rw [ov5.eq, zG hne] at kp
       rw [kp, kI hR (by omega), show tnN (2 * i) = 2 * i + 1 by unfold tnN; omega]
     refine ⟨_, ov5.at, zM (by rw [List.length_append, hvl]; simp; omega), ?_⟩
     exact ⟨J5, _, ov5.set _, (sK.trans s3).trans s5, (hv4.same s5).snoc kp5, _, rfl⟩
   · obtain ⟨J, vs, ov, sJ, hv, o5', o7', rfl⟩ := h
     rw [hul] at hv
     exact hN _ _ ⟨J, vs, ov, sB.trans sJ, hv, _, _, rfl⟩
 obtain ⟨J, vs, ov, sJ, hv, o5, o7, rfl⟩ := h
 simp! []
 exact q pv vs _ (sJ.trans ov.sub) ov.at (hv.same ov.sub)
end
abbrev s_E : Stmt := top 32
theorem sc_E : FnScope ["script", "names", "many", "sheet", "top", "rules", "lines", "under", "line", "found", "row", "values", "i", "j", "premises", "pair"] ["script"] (zH s_E) := ⟨rfl, rfl, rfl, by decide +kernel, rfl, by decide +kernel, by decide +kernel⟩
theorem GOk.keys {rows : List Rw} {rules : List yE} {ls : List Ln} (h : GOk rows rules ls) : (ls.map fun l => yQ l.i l.j).Nodup := by
 rw [List.Nodup, List.pairwise_map, List.pairwise_iff_getElem]
 intro a b ha hb hab e
 unfold yQ at e
 simp only [List.cons.injEq, Sum.inl.injEq, and_true] at e
 have := h.dis a b ls[a] ls[b] (List.getElem?_eq_getElem ha) (List.getElem?_eq_getElem hb) e.1 e.2
 omega
theorem GOk.new {rows : List Rw} {rules : List yE} {ls : List Ln} (h : GOk rows rules ls) {i : Nat} {l : Ln} (hi : ls[i]? = some l) : yG (plB (ls.take i)) (yQ l.i l.j) = none := by
 have h1 := xZ (ls.take i) l.i l.j
 have h2 : zQ (ls.take i) l.i l.j = false := by
   cases c : zQ (ls.take i) l.i l.j with
   | false => rfl
   | true =>
     obtain ⟨p, l', hp, e1, e2⟩ := hasP_iff.mp c
     have hpi : p < i := by have := (List.getElem?_eq_some_iff.mp hp).1; rw [List.length_take] at this; omega
     rw [List.getElem?_take_of_lt hpi] at hp
     have := h.dis p i l' l hp hi e1 e2
     omega
 rw [h2] at h1
 cases c : yG (plB (ls.take i)) (yQ l.i l.j) with
 | none => rfl
 | some v => rw [c] at h1; cases h1
theorem pairs_all {ls : List Ln} {M : Nat} (ha : ∀ i j : Nat, i < M -> j < M -> zQ ls i j = true) : M * M <= ls.length := by
 have hn : ((List.range (M * M)).map fun n : Nat => (n : Int)).Nodup := List.pairwise_map.mpr (List.Pairwise.imp (fun hne e => hne (by omega)) List.nodup_range)
 have := nodup_subI (m := ls.map fun l => l.i * (M : Int) + l.j) hn (fun x hx => by
   obtain ⟨n, hn, rfl⟩ := List.mem_map.mp hx
   have hn := List.mem_range.mp hn
   have hM : 0 < M := by
     cases M with
     | zero => simp at hn
     | succ k => omega
   obtain ⟨p, l, hp, e1, e2⟩ := hasP_iff.mp (ha (n / M) (n % M) (Nat.div_lt_of_lt_mul hn) (Nat.mod_lt _ hM))
   refine List.mem_map.mpr ⟨l, List.mem_of_getElem? hp, ?_⟩
   have h := Nat.div_add_mod n M
   rw [e1, e2, ← Int.natCast_mul, ← Int.natCast_add, Nat.mul_comm, h])
 rwa [List.length_map, List.length_range, List.length_map] at this
theorem strs_at {H : Hp} {a : Addr} {xs : List Str} (h : H a = some (.lst (xs.map V.str))) : DAt H (.lst (xs.map fun x => Dt.str x)) (.ref a) := by
 refine ⟨a, _, rfl, h, ?_⟩
 clear h
 induction xs with
 | nil => rfl
 | cons x xs ih => exact ⟨_, _, rfl, rfl, ih⟩
theorem str_in (xs : List Str) (a : Str) : ((xs.map fun x => Dt.str x).any fun e => deq e (.str a)) = decide (a ∈ xs) := by
 rw [Bool.eq_iff_iff, List.any_eq_true, decide_eq_true_eq]
 constructor
 · rintro ⟨d, hd, h⟩
   obtain ⟨x, hx, rfl⟩ := List.mem_map.mp hd
   have : x = a := by simpa [deq] using h
   rw [← this]
   exact hx
 · intro h
   exact ⟨.str a, List.mem_map.mpr ⟨a, h, rfl⟩, deq_refl _⟩
theorem WoAt.same {H0 H H' : Hp} {wa : Addr} {sp : List Nat} {rows : List Rw} {ls : List Ln} {T : List Ro} {ca la : Addr} {us : List V} (h : WoAt H0 H wa sp rows ls T ca la us) (e : Same H H') : WoAt H0 H' wa sp rows ls T ca la us :=
 ⟨e _ _ h.tup, e _ _ h.cl, DAts.same e h.dat, e _ _ h.lst, h.tr.same e, h.is, h.perm, h.srt, h.nd, h.fc, h.fl, h.ft⟩
def spLaw (K : PySem.W.Frag) : Sp := fun vs H Q _ => ∃ (a : Addr) (ns : List Int), vs = [.ref a] /\ SqL K H a (ns.map V.int) /\ ns.length <= 63 /\ ∀ H', Q (.bl true) H'
section
variable {P : Program} {w : World} {K : PySem.W.Frag} {mg : Str -> Option Value} {base : Heap} {f : Addr} {fd : FuncData}
theorem ok_law (bi : Bi mg) (bmn : mg "min" = none) (h_u : Has P w K mg base 1 "_law_draw" ["script", "k"] (spDr K)) (h_r : Has P w K mg base 2 "_law_names" ["script", "k", "many"] (spNs K)) (h_b : Has P w K mg base 2 "_law_drawn_sheet" ["script", "k", "many", "names"] (spDs K)) (h_c : Has P w K mg base 2 "_law_drawn_rules" ["script", "k", "many", "top"] (spDru K)) (h_y : Has P w K mg base 4 "closing" ["sheet", "rules"] spClo) (h_w : Has P w K mg base 2 "world_of" ["sheet", "lines"] spWo26) (h_h : Has P w K mg base 3 "_law_is_world" ["world", "most"] (spIw26 K)) (h_p : Has P w K mg base 2 "_law_values" ["world", "sheet"] spLv) (h_x : Has P w K mg base 1 "_law_lies" ["values", "pair"] spLi)
   (F : Fun K "law" "law" s_E f fd) : FnOk P w K mg base CX0 65 f fd ["script"] (spLaw K) := by
 refine F.ok sc_E (fun vs H Q E h => ?_) (fun cdv A outer s H vs Q E hr h => ?_)
 · obtain ⟨a, ns, rfl, _⟩ := h
   rfl
 obtain ⟨a, ns, rfl, hS, hl, q⟩ := h
 refine ⟨_, (zC (zO (i := 1) sc_E.nd rfl (Or.inl rfl) (zP h_r (hr.mono (by omega)) rfl (zA (pv 0) (zA zE (zA (zL op_add zE (zL op_mod (zP h_u (hr.mono (by omega)) rfl (zA (pv 0) (zA zE pa_nil))) zE)) pa_nil))))) (zC (zO (i := 2) sc_E.nd rfl (Or.inl rfl) (zK (wL rfl) rfl bi.max bt_max (zA zE (zA (zK (wK rfl) rfl bmn bt_min (zA zE (zA (zL op_fdiv (zL op_sub (zK call_len rfl bi.len bt_len (zA (pv 0) pa_nil)) zE) zE) pa_nil))) pa_nil)))) (zC (zO (i := 3) sc_E.nd rfl (Or.inl rfl) (zP h_b (hr.mono (by omega)) rfl (zA (pv 0) (zA zE (zA (pv 2) (zA (pv 1) pa_nil)))))) (zC (zO (i := 4) sc_E.nd rfl (Or.inl rfl) (zL op_mul zE (zK call_len rfl bi.len bt_len (zA (pv 3) pa_nil)))) (zC (zO (i := 5) sc_E.nd rfl (Or.inl rfl) (zP h_c (hr.mono (by omega)) rfl (zA (pv 0) (zA (zL op_add zE (pv 2)) (zA (zK (wK rfl) rfl bmn bt_min (zA zE (zA (zK (wL rfl) rfl bi.max bt_max (zA zE (zA (zL op_sub (zL op_sub (zK call_len rfl bi.len bt_len (zA (pv 0) pa_nil)) zE) (pv 2)) pa_nil))) pa_nil))) (zA (pv 4) pa_nil)))))) (zC (zO (i := 6) sc_E.nd rfl (Or.inl rfl) (zP h_y (hr.mono (by omega)) rfl (zA (pv 3) (zA (pv 5) pa_nil)))) (zC (zO (i := 7) sc_E.nd rfl (Or.inl rfl) pe_dnewT) (zC (yK PassesOwn.never rfl (yI (pv 6)) (zJ (i := 8) sc_E.nd rfl (Or.inl rfl)) (zF (wX (jC hr) (pv 7) (yA (zA (zN ix_tup (pv 8) zE (fun _ _ => rfl)) (zA (zN ix_tup (pv 8) zE (fun _ _ => rfl)) pa_nil))) xL rfl))) (zC (zO (i := 9) sc_E.nd rfl (Or.inl rfl) (zP h_w (hr.mono (by omega)) rfl (zA (pv 3) (zA (pv 6) pa_nil)))) (zC (yP (uT (qV (jC hr) (yA (zA zE (zA zE pa_nil))) (pv 7)) (by with_unfolding_all rfl)) (zF (zZ (qU (jX op_isN (pv 9) pe_non (yD _)) (uV (jX op_eq (zK call_lenT rfl bi.len bt_len (zA (pv 7) pa_nil)) (zL op_mul (pv 4) (pv 4)) (yD _)))))) pss_nil) (zC (yP (xK (yU (zP h_h (hr.mono (by omega)) rfl (zA (pv 9) (zA (pv 4) pa_nil))))) (zF (zZ xL)) pss_nil) (zC (yK PassesOwn.never rfl (yI (pv 3)) (zJ (i := 10) sc_E.nd rfl (Or.inl rfl)) (zF (yP (PW.pt (uS (zY op_eq (zN ix_tup (pv 10) zE (fun _ _ => rfl)) yL (yD _)) (qM (zY (wC hr.units) (zN ix_tup (pv 10) zE (fun _ _ => rfl)) (yW ["one"] [] [] (yI (zN ix_tup (pv 9) zE (fun _ _ => rfl))) (fun _ _ _ _ nd => zJ (i := 0) nd rfl (Or.inl rfl)) (fun _ _ _ _ => yY) (fun _ _ _ _ => (zN (jB K) (pv 0) zE (fun _ _ => rfl)))) (by with_unfolding_all rfl))))) (zF (zZ xL)) pss_nil))) (zC (zO (i := 11) sc_E.nd rfl (Or.inr rfl) (zP h_p (hr.mono (by omega)) rfl (zA (pv 9) (zA (pv 3) pa_nil)))) (zC (yK PassesOwn.never rfl (yO rfl bi.range (zA (pv 4) pa_nil)) (zJ (i := 12) sc_E.nd rfl (Or.inl rfl)) (zF (yK PassesOwn.never rfl (yO rfl bi.range (zA (pv 4) pa_nil)) (zJ (i := 13) sc_E.nd rfl (Or.inl rfl)) (zF (yP (zY op_ne (zP h_x (hr.mono (by omega)) rfl (zA (pv 11) (zA (yA (zA (pv 12) (zA (pv 13) pa_nil))) pa_nil))) (pe_cmp (qV (jC hr) (yA (zA (pv 12) (zA (pv 13) pa_nil))) (pv 7)) (by with_unfolding_all rfl)) (yD _)) (zF (zZ xL)) pss_nil))))) (zC (yK PassesOwn.never rfl (yI (pv 5)) (jM rfl (zX (zJ (i := 14) sc_E.nd rfl (Or.inl rfl)) (zX (zJ (i := 15) sc_E.nd rfl (Or.inl rfl)) pgs_nil))) (zF (yP (PW.pt (uS (yU (zK call_all rfl bi.all bt_all (zA (yW ["one"] ["values"] [11] (yI (pv 14)) (fun _ _ _ _ nd => zJ (i := 0) nd rfl (Or.inl rfl)) (fun _ _ _ _ => yY) (fun _ _ _ _ => (zP h_x (hr.mono (by omega)) rfl (zA (pv 1) (zA (pv 0) pa_nil))))) pa_nil))) (qM (xK (yU (zP h_x (hr.mono (by omega)) rfl (zA (pv 11) (zA (pv 15) pa_nil)))))))) (zF (zZ xL)) pss_nil))) (zF (zZ xL))))))))))))))))), ?_⟩
 refine zI fun N hN => ?_
 simp! []
 refine ⟨a, ns, 2, rfl, hS, hl, by omega, fun fi hfi => ⟨fi, rfl, by decide, ?_⟩⟩
 obtain ⟨m, hm1, hm3, em⟩ : ∃ m : Nat, 1 <= m /\ m <= 3 /\ 1 + fi % 3 = (m : Int) := ⟨(1 + fi % 3).toNat, by omega, by omega, by omega⟩
 rw [em]
 refine ⟨a, ns, 0, m, rfl, hS, hl, by omega, hm1, by omega, fun pn zs H1 s1 hnm => hN _ _ ?_⟩
 clear hN
 replace hS := Same.seq s1 hS
 refine zI fun N hN => ?_
 simp! []
 obtain ⟨mn, hmn4, hmn6, emn⟩ : ∃ mn : Nat, 4 <= mn /\ mn <= 6 /\ (if (if ((ns.length : Int) - 3) / 2 < 6 then ((ns.length : Int) - 3) / 2 else 6) > 4 then (if ((ns.length : Int) - 3) / 2 < 6 then ((ns.length : Int) - 3) / 2 else 6) else 4) = (mn : Int) := by
   generalize ((ns.length : Int) - 3) / 2 = z
   refine ⟨(if (if z < 6 then z else 6) > 4 then (if z < 6 then z else 6) else 4).toNat, ?_, ?_, ?_⟩ <;> (repeat' split) <;> omega
 refine ⟨_, .inl ⟨_, hS, rfl⟩, ⟨by decide, by decide⟩, ?_⟩
 rw [List.length_map, emn]
 refine hN _ _ ?_
 clear hN
 refine zI fun N hN => ?_
 simp! []
 refine ⟨a, pn, ns, 3, mn, m, zs, rfl, hS, hl, by omega, by omega, hnm, hm1, fun ps us rows H2 s2 ks hrw hsh hrl => hN _ _ ?_⟩
 clear hN
 replace hS := Same.seq s2 hS
 have hul : us.length = rows.length := by have := DAts.length hrw; rwa [List.length_map] at this
 have hr2 := hsh.one
 refine zI fun N hN => ?_
 simp! []
 refine ⟨us.length, .inl ⟨_, SqL.of ks, rfl⟩, .inl ⟨by decide, by decide⟩, hN _ _ ?_⟩
 clear hN
 rw [hul, show (2 : Int) * (rows.length : Int) = ((2 * rows.length : Nat) : Int) by omega]
 refine zI fun N hN => ?_
 simp! []
 obtain ⟨m4, hm4, em4⟩ : ∃ m4 : Nat, m4 <= 4 /\ (if (if (ns.length : Int) - 3 - (mn : Int) > 0 then (ns.length : Int) - 3 - (mn : Int) else 0) < 4 then (if (ns.length : Int) - 3 - (mn : Int) > 0 then (ns.length : Int) - 3 - (mn : Int) else 0) else 4) = (m4 : Int) := by
   generalize (ns.length : Int) - 3 - (mn : Int) = z
   refine ⟨(if (if z > 0 then z else 0) < 4 then (if z > 0 then z else 0) else 4).toNat, ?_, ?_⟩ <;> (repeat' split) <;> omega
 refine ⟨_, .inl ⟨_, hS, rfl⟩, ?_⟩
 rw [List.length_map, em4, show (3 : Int) + (mn : Int) = ((3 + mn : Nat) : Int) by omega]
 refine ⟨a, ns, 3 + mn, m4, 2 * rows.length, rfl, hS, hl, by omega, by omega, by omega, by omega, fun pu vs rules H3 s3 ku hru hrul hrok => hN _ _ ?_⟩
 clear hN
 refine zI fun N hN => ?_
 simp! []
 refine ⟨ps, pu, us, vs, rows, rules, rfl, s3 _ _ ks, DAts.same s3 hrw, ku, hru, by omega, hsh.in_, by omega, fun r hr => Nat.le_trans (hrok r hr).1 (by decide), fun la ws ls H4 s4 kla hls hgo hpl hcl => hN _ _ ?_⟩
 clear hN
 replace ks := (s3.trans s4) _ _ ks
 replace hrw := DAts.same (s3.trans s4) hrw
 replace ku := s4 _ _ ku
 replace hru := DAts.same s4 hru
 clear s1 s2 s3 s4 hS
 have hR := Rl.of hpl hcl
 have hll : ls.length <= 324 := Nat.le_trans hgo.len (Nat.mul_le_mul (m₁ := 2 * rows.length) (m₂ := 18) (n₁ := 2 * rows.length) (n₂ := 18) (by omega) (by omega))
 have hwl : ws.length = ls.length := by have := DAts.length hls; rwa [List.length_map] at this
 obtain ⟨hnn, hnz⟩ := hsh.names
 have hn3 : (nmK rows).length <= 3 := by
   have := nodup_sub hnn hnz
   rw [List.length_map, hnm.len] at this
   omega
 refine zI fun N hN => ?_
 simp! []
 refine fun d hd => hN _ _ ?_
 clear hN
 have e1 := zD hd (.dT [])
 have kd : upd H4 d (.dT []) d = some (.dT []) := zB
 generalize upd H4 d (.dT []) = H5 at e1 kd ⊢
 refine zW (fun σ H' => ∃ (o8 : Option V), Same H4 H' /\ H' d = some (.dT (plB ls)) /\ σ = [some (V.ref a), some (V.ref pn), some (V.int (mn : Int)), some (V.ref ps), some (V.int ((2 * rows.length : Nat) : Int)), some (V.ref pu), some (V.ref la), some (V.ref d), o8, none, none, none, none, none, none, none]) (fun N hN => ?_) (fun σ H' h => ?_)
 · simp! []
   refine ⟨⟨_, SqL.of (e1 _ _ kla)⟩, ?_⟩
   refine xG (xs := ws) (fun i σ H' => ∃ (o8 : Option V), Same H4 H' /\ H' d = some (.dT (plB (ls.take i))) /\ σ = [some (V.ref a), some (V.ref pn), some (V.int (mn : Int)), some (V.ref ps), some (V.int ((2 * rows.length : Nat) : Int)), some (V.ref pu), some (V.ref la), some (V.ref d), o8, none, none, none, none, none, none, none]) ⟨_, e1, kd, rfl⟩ (fun i σ H' _ h => by obtain ⟨_, e, _⟩ := h; exact SqL.of (e _ _ kla)) (fun i x σ H' hx h => ?_) (fun σ H' h => ?_)
   · obtain ⟨o8, es, kd, rfl⟩ := h
     obtain ⟨l, hli, hx'⟩ := yZ hls hx
     obtain ⟨a0, b0, us0, rfl, g1, _⟩ := LnAt.out hx'
     replace g1 := es _ _ g1
     obtain ⟨hil, hie⟩ := List.getElem?_eq_some_iff.mp hli
     have htk : ls.take (i + 1) = ls.take i ++ [l] := by rw [List.take_succ_eq_append_getElem hil, hie]
     have at1' : ∀ {a b c : V}, atI [a, b, c] 1 = some b := zU (j := 1) rfl
     simp! [sDPut]
     refine ⟨_, SqT.of g1, _, at0, _, SqT.of g1, _, at1', zM (by decide), fun p hp => ⟨_, DPut.t (k := yQ l.i l.j) (zD hp _ _ _ kd) zB (zM (by unfold plB; rw [List.length_map, List.length_take]; omega)), (es.trans (zD hp _)).upd hd, ?_, _, rfl⟩⟩
     rw [zB, putK_new _ (hgo.new hli), htk]
     unfold plB
     rw [List.map_append]
     rfl
   · obtain ⟨o8, es, kd, rfl⟩ := h
     rw [List.take_of_length_le (by omega)] at kd
     exact hN _ _ ⟨_, es, kd, rfl⟩
 obtain ⟨o8, es, kd, rfl⟩ := h
 clear e1 hd
 replace ks := es _ _ ks
 replace hrw := DAts.same es hrw
 replace kla := es _ _ kla
 replace hls := DAts.same es hls
 replace ku := es _ _ ku
 replace hru := DAts.same es hru
 clear es
 have iw : ∀ {J0 J : Hp} {wa ca ra : Addr} {T : List Ro} {vs : List V} {Q : VK} {E : XK}, zQ ls 1 0 = false -> WoAt J0 J wa (yH (2 * rows.length) (rl ls)) rows ls T ca ra vs -> (∀ H', Same J H' -> Q (.bl true) H') -> spIw26 K [.ref wa, .int ((2 * rows.length : Nat) : Int)] J Q E := fun {J0 J wa ca ra T vs Q E} c hw hq => by
   have hT : T.length = (nmK rows).length := by have := hw.perm.length_eq; rwa [List.length_map, List.length_map] at this
   have hsl := spt_len (M := 2 * rows.length) (R := rl ls)
   have hcl := cls_len (R := rl ls) (yH (2 * rows.length) (rl ls))
   refine ⟨wa, ca, ra, (yH (2 * rows.length) (rl ls)).length, 2 * rows.length, qS (yH (2 * rows.length) (rl ls)) (rl ls), T, vs, rfl, hw.tup, hw.cl, hw.dat, hw.lst, hw.tr, spt_one (by omega) c, by omega, hsl, cls_ok _, cls_sort _, Nat.le_trans hcl (Nat.le_trans (Nat.mul_le_mul (m₂ := 18) (n₂ := 18) (by omega) (by omega)) (by decide)), by omega, hw.srt, fun e he => hnm.nm _ (hnz _ ?_), fun e he => ?_, hq⟩
   · obtain ⟨k, hk, _⟩ := hw.is e he
     exact List.mem_map.mpr ⟨_, hk, rfl⟩
   · obtain ⟨k, hk, e2⟩ := hw.is e he
     rw [e2]
     exact cnt_full hR (by have := (kA hk).2; omega)
 refine zI fun N hN => ?_
 simp! []
 refine ⟨ps, la, us, ws, rows, ls, rfl, ks, hrw, by omega, hn3, hnn, kla, hls, by omega, hgo.keys, fun c H7 s7 => hN _ _ ?_, fun c wa T ca ra vw H7 s7 hw => hN _ _ ?_⟩
 · clear hN
   refine zI fun N hN => ?_
   simp! [tDIn]
   refine ⟨zM (by decide), fun p hp => ⟨_, dgB kd (s7.trans (zD hp _)) zB, ?_⟩⟩
   rw [xZ, c, if_pos rfl]
   refine ⟨_, (s7.trans (zD hp _)) _ _ kd, .inl ⟨by omega, by omega⟩, rfl, ?_⟩
   have h1 := pairs_all (ls := ls) (M := 2 * rows.length) (fun i j hi hj => by
     have hi1 : rl ls i 1 = true := hpl.high i hi
     have h10 : rl ls 1 0 = true := c
     have h0j : rl ls 0 j = true := hpl.low j hj
     exact hR.trans _ _ _ (hR.trans _ _ _ hi1 h10) h0j)
   have h2 := hgo.len
   have h3 : ls.length = 2 * rows.length * (2 * rows.length) := by omega
   rw [decide_eq_true (by unfold plB; rw [List.length_map, h3, Int.natCast_mul])]
   exact q _
 clear hN
 refine zI fun N hN => ?_
 simp! [tDIn]
 refine ⟨zM (by decide), fun p hp => ⟨_, dgB kd (s7.trans (zD hp _)) zB, ?_⟩⟩
 rw [xZ, c, if_neg (by decide)]
 refine hN _ _ ?_
 clear hN
 have e8 := zD hp (.tup [V.int 1, V.int 0])
 generalize upd H7 p (.tup [V.int 1, V.int 0]) = H8 at e8 ⊢
 clear hp
 replace hw := hw.same e8
 replace s7 := s7.trans e8
 clear e8
 refine zI fun N hN => ?_
 simp! []
 refine iw c hw fun H9 s9 => ⟨_, rfl, ?_⟩
 rw [if_neg (by decide)]
 refine hN _ _ ?_
 clear hN
 replace hw := hw.same s9
 replace s7 := s7.trans s9
 clear s9
 have a2 : ∀ {a b c : V}, atI [a, b, c] 2 = some c := zU (j := 2) rfl
 have hT : T.length <= 3 := by have := hw.perm.length_eq; rw [List.length_map, List.length_map] at this; omega
 replace ks := s7 _ _ ks
 replace hrw := DAts.same s7 hrw
 replace ku := s7 _ _ ku
 replace hru := DAts.same s7 hru
 replace kd := s7 _ _ kd
 clear s7 kla hls
 refine zW (fun σ H' => ∃ (o10 : Option V), Same H9 H' /\ σ = [some (V.ref a), some (V.ref pn), some (V.int (mn : Int)), some (V.ref ps), some (V.int ((2 * rows.length : Nat) : Int)), some (V.ref pu), some (V.ref la), some (V.ref d), o8, some (V.ref wa), o10, none, none, none, none, none]) (fun N hN => ?_) (fun σ H' h => ?_)
 · simp! []
   refine ⟨⟨_, SqL.of ks⟩, ?_⟩
   refine xG (xs := us) (fun i σ H' => ∃ (o10 : Option V), Same H9 H' /\ σ = [some (V.ref a), some (V.ref pn), some (V.int (mn : Int)), some (V.ref ps), some (V.int ((2 * rows.length : Nat) : Int)), some (V.ref pu), some (V.ref la), some (V.ref d), o8, some (V.ref wa), o10, none, none, none, none, none]) ⟨_, Same.refl _, rfl⟩ (fun i σ H' _ h => by obtain ⟨_, e, _⟩ := h; exact SqL.of (e _ _ ks)) (fun i x σ H' hx h => ?_) (fun σ H' h => hN _ _ h)
   obtain ⟨o10, es, rfl⟩ := h
   obtain ⟨r, hri, hr1⟩ := yZ hrw hx
   obtain ⟨rx, x, us', rfl, g1, g2⟩ := RwAt.out hr1
   have hil := (List.getElem?_eq_some_iff.mp hri).1
   replace g1 := es _ _ g1
   simp! [rInG]
   refine ⟨_, SqT.of g1, _, at0, rfl, ?_⟩
   cases r with
   | no =>
     obtain ⟨rfl, rfl⟩ := g2
     rw [if_neg (by decide)]
     exact ⟨es, _, rfl⟩
   | bo i' j' =>
     obtain ⟨rfl, rfl⟩ := g2
     rw [if_neg (by decide)]
     exact ⟨es, _, rfl⟩
   | nm y =>
     obtain ⟨rfl, rfl⟩ := g2
     rw [if_pos rfl]
     have hm : (y, i) ∈ nmK rows := List.mem_filterMap.mpr ⟨i, List.mem_range.mpr hil, by unfold nmR; rw [hri]; rfl⟩
     have hmem : y ∈ T.map (·.2.1) := hw.perm.symm.subset (List.mem_map.mpr ⟨(y, i), hm, rfl⟩)
     refine ⟨_, SqT.of g1, _, at1, _, SqT.of (es _ _ hw.tup), _, a2, ra, rfl, ⟨_, SqL.of (es _ _ hw.lst)⟩, ?_⟩
     refine xU (xs := (T.map (·.1)).map V.ref) (fun i ys σ H2 => Same H' H2 /\ ys = ((T.take i).map (·.2.1)).map V.str /\ ∃ o, σ = [o]) ⟨Same.refl _, rfl, _, rfl⟩ (zM (by rw [List.length_map, List.length_map]; omega)) (fun i ys σ H' e => ?_) (fun i ys σ H2 e => SqL.of ((es.trans e.1) _ _ hw.lst)) (fun i x ys σ H2 C hx e hC => ?_) (fun ys σ H2 e p hp => ?_)
     · rw [e.2.1, List.length_map, List.length_map, List.length_take]; omega
     · obtain ⟨e2, rfl, o, rfl⟩ := e
       rw [List.getElem?_map, List.getElem?_map] at hx
       obtain ⟨ta, hta, rfl⟩ := Option.map_eq_some_iff.mp hx
       obtain ⟨e, hei, rfl⟩ := Option.map_eq_some_iff.mp hta
       obtain ⟨hil, hie⟩ := List.getElem?_eq_some_iff.mp hei
       have t1 := (es.trans e2) _ _ (hw.tr e (List.mem_of_getElem? hei)).1
       simp! []
       refine ⟨_, SqT.of t1, _, at0, hC _ _ _ ⟨e2, ?_, _, rfl⟩⟩
       rw [List.take_succ_eq_append_getElem hil, hie, List.map_append, List.map_append]
       rfl
     obtain ⟨e2, rfl, o, rfl⟩ := e
     rw [List.take_of_length_le (by rw [List.length_map, List.length_map]; exact Nat.le_refl _)]
     refine ⟨1, .str y, rfl, _, .inl (strs_at zB), (fun e he => by obtain ⟨_, _, rfl⟩ := List.mem_map.mp he; trivial), by decide, ?_⟩
     rw [str_in, decide_eq_true hmem]
     rw [if_neg (by decide)]
     exact ⟨es.trans (e2.trans (zD hp _)), _, rfl⟩
 obtain ⟨o10, es, rfl⟩ := h
 replace ks := es _ _ ks
 replace hrw := DAts.same es hrw
 replace ku := es _ _ ku
 replace hru := DAts.same es hru
 replace kd := es _ _ kd
 replace hw := hw.same es
 clear es
 refine zI fun N hN => ?_
 simp! []
 refine ⟨wa, ps, us, rows, rules, ls, T, ca, ra, vw, _, rfl, ks, hrw, by omega, by omega, hsh.nd, hsh.in_, hsh.few, hpl, hcl, hw, fun pv us' H10 s10 kv hv => hN _ _ ?_⟩
 clear hN
 replace ku := s10 _ _ ku
 replace hru := DAts.same s10 hru
 replace kd := s10 _ _ kd
 clear s10 ks hrw hw
 have li : ∀ {J : Hp} {pa : Addr} {i j : Int} {Q : VK} {E : XK}, Same H10 J -> J pa = some (.tup [.int i, .int j]) -> (0 <= i /\ i < 2 * (rows.length : Int)) -> (0 <= j /\ j < 2 * (rows.length : Int)) -> (∀ H', Same J H' -> Q (.bl (zQ ls i j)) H') -> spLi [.ref pv, .ref pa] J Q E := fun {J pa i j Q E} e hp hi hj hq => ⟨pv, pa, us', rows, ls, i, j, rfl, e _ _ kv, hv.same e, hp, by omega, hi, hj, hR, hq⟩
 refine zW (fun σ H' => ∃ (o12 o13 : Option V), Same H10 H' /\ σ = [some (V.ref a), some (V.ref pn), some (V.int (mn : Int)), some (V.ref ps), some (V.int ((2 * rows.length : Nat) : Int)), some (V.ref pu), some (V.ref la), some (V.ref d), o8, some (V.ref wa), o10, some (V.ref pv), o12, o13, none, none]) (fun N hN => ?_) (fun σ H' h => ?_)
 · simp! []
   refine ⟨by omega, by omega, ?_⟩
   refine xE (n := ((2 * rows.length : Nat) : Int).toNat) (fun i σ H' => ∃ (o12 o13 : Option V), Same H10 H' /\ σ = [some (V.ref a), some (V.ref pn), some (V.int (mn : Int)), some (V.ref ps), some (V.int ((2 * rows.length : Nat) : Int)), some (V.ref pu), some (V.ref la), some (V.ref d), o8, some (V.ref wa), o10, some (V.ref pv), o12, o13, none, none]) ⟨_, _, Same.refl _, rfl⟩ (fun i σ H' hi h => ?_) (fun σ H' h => hN _ _ h)
   obtain ⟨o12, o13, es, rfl⟩ := h
   simp! []
   rw [show (0 : Int) + (i : Int) = (i : Int) by omega]
   refine ⟨by omega, by omega, ?_⟩
   refine xE (n := ((2 * rows.length : Nat) : Int).toNat) (fun j σ H' => ∃ (o13 : Option V), Same H10 H' /\ σ = [some (V.ref a), some (V.ref pn), some (V.int (mn : Int)), some (V.ref ps), some (V.int ((2 * rows.length : Nat) : Int)), some (V.ref pu), some (V.ref la), some (V.ref d), o8, some (V.ref wa), o10, some (V.ref pv), some (V.int (i : Int)), o13, none, none]) ⟨_, es, rfl⟩ (fun j σ H' hj h => ?_) (fun σ H' h => ?_)
   · obtain ⟨o13, es, rfl⟩ := h
     simp! [tDIn]
     rw [show (0 : Int) + (j : Int) = (j : Int) by omega]
     refine ⟨zM (by decide), fun p hp => li (es.trans (zD hp _)) zB ⟨by omega, by omega⟩ ⟨by omega, by omega⟩ fun H11 s11 => ⟨zM (by decide), fun p2 hp2 => ⟨_, dgB kd ((es.trans (zD hp _)).trans (s11.trans (zD hp2 _))) zB, ?_⟩⟩⟩
     rw [xZ]
     refine ⟨rfl, ?_⟩
     rw [if_neg (fun z => z rfl)]
     exact ⟨(es.trans (zD hp _)).trans (s11.trans (zD hp2 _)), _, rfl⟩
   · obtain ⟨o13, es, rfl⟩ := h
     exact ⟨es, _, _, rfl⟩
 obtain ⟨o12, o13, es, rfl⟩ := h
 replace ku := es _ _ ku
 replace hru := DAts.same es hru
 refine zW (fun σ H' => True) (fun N hN => ?_) (fun σ H' h => ?_)
 · simp! []
   refine ⟨⟨_, SqL.of ku⟩, ?_⟩
   refine xG (xs := vs) (fun i σ Hc => ∃ (o14 o15 : Option V), Same H' Hc /\ σ = [some (V.ref a), some (V.ref pn), some (V.int (mn : Int)), some (V.ref ps), some (V.int ((2 * rows.length : Nat) : Int)), some (V.ref pu), some (V.ref la), some (V.ref d), o8, some (V.ref wa), o10, some (V.ref pv), o12, o13, o14, o15]) ⟨_, _, Same.refl _, rfl⟩ (fun i σ Hc _ h => by obtain ⟨_, _, e, _⟩ := h; exact SqL.of (e _ _ ku)) (fun i x σ Hc hx h => ?_) (fun σ Hc h => hN _ _ trivial)
   obtain ⟨o14, o15, e1, rfl⟩ := h
   obtain ⟨r, hr1, hr2⟩ := yZ hru hx
   obtain ⟨rx, pa, tp, vps, rfl, g1, g2, hps, g3⟩ := nrAt hr2
   have hrb := hrok r (List.mem_of_getElem? hr1)
   have hpl' : vps.length = r.1.length := by have := DAts.length hps; rwa [List.length_map] at this
   have hp3 := hrb.1
   simp! [qG, jE, gNil]
   refine ⟨_, SqT.of (e1 _ _ g1), rfl, _, _, rfl, _, _, rfl, rfl, pa, rfl, ⟨_, SqL.of (e1 _ _ g2)⟩, ?_⟩
   refine xU (xs := vps) (fun n ys σ H2 => Same Hc H2 /\ ys = ((r.1.take n).map fun p => zQ ls p.1 p.2).map V.bl /\ ∃ o, σ = [o, some (V.ref pv)]) ⟨Same.refl _, rfl, _, rfl⟩ (zM (by omega)) (fun n ys σ H2 e => ?_) (fun n ys σ H2 e => SqL.of ((e1.trans e.1) _ _ g2)) (fun n x ys σ H2 C hx e hC => ?_) (fun ys σ H2 e p hp => ?_)
   · rw [e.2.1, List.length_map, List.length_map, List.length_take]; omega
   · obtain ⟨e2, rfl, o, rfl⟩ := e
     obtain ⟨pr, hpm, hpx⟩ := yZ hps hx
     obtain ⟨hil, hie⟩ := List.getElem?_eq_some_iff.mp hpm
     obtain ⟨xp, _, rfl, hxp, _, _, rfl, hv1, _, _, rfl, hv2, hv3⟩ := hpx
     cases hv1
     cases hv2
     cases hv3
     have hb := hrb.2.2.2 pr (List.mem_of_getElem? hpm)
     simp! []
     refine li (es.trans (e1.trans e2)) ((e1.trans e2) _ _ hxp) ⟨hb.1.1, by omega⟩ ⟨hb.2.1, by omega⟩ fun H3 s3 => hC _ _ _ ⟨e2.trans s3, ?_, _, rfl⟩
     rw [List.take_succ_eq_append_getElem hil, hie, List.map_append, List.map_append]
     rfl
   obtain ⟨e2, rfl, o, rfl⟩ := e
   rw [List.take_of_length_le (by omega)]
   have e3 := e2.trans (zD hp (.lst ((r.1.map fun p => zQ ls p.1 p.2).map V.bl)))
   refine ⟨p, rfl, _, SqL.of zB, ?_⟩
   generalize upd H2 p (.lst ((r.1.map fun p => zQ ls p.1 p.2).map V.bl)) = H3 at e3 ⊢
   by_cases hall : ((r.1.map fun p => zQ ls p.1 p.2).all id) = true
   · rw [if_pos hall]
     refine li (es.trans (e1.trans e3)) ((e1.trans e3) _ _ g3) ⟨hrb.2.1.1, by have := hrb.2.1.2; omega⟩ ⟨hrb.2.2.1.1, by have := hrb.2.2.1.2; omega⟩ fun H4 s4 => ⟨_, rfl, ?_⟩
     have hh : zQ ls r.2.1 r.2.2 = true := hcl.rule i r hr1 ⟨⟨hrb.2.1.1, by have := hrb.2.1.2; omega⟩, hrb.2.2.1.1, by have := hrb.2.2.1.2; omega⟩ (fun p hp => by
       have := List.all_eq_true.mp hall _ (List.mem_map.mpr ⟨p, hp, rfl⟩)
       obtain ⟨a, l, h1, h2, h3⟩ := hasP_iff.mp this
       exact ⟨a, l, (List.getElem?_eq_some_iff.mp h1).1, h1, h2, h3⟩)
     rw [hh, if_neg (by decide)]
     exact ⟨e1.trans (e3.trans s4), _, rfl⟩
   · rw [if_neg hall]
     exact ⟨e1.trans e3, _, rfl⟩
 simp! []
 exact q _
end
theorem ln0 {us : List Value} (h : us.length = 0) : us = [] := List.length_eq_zero_iff.mp h
theorem lnS {us : List Value} {n : Nat} (h : us.length = n + 1) : ∃ (u : Value) (r : List Value), us = u :: r /\ r.length = n := by
 cases us with
 | nil => cases h
 | cons u r => exact ⟨u, r, rfl, Nat.succ.inj h⟩
theorem ln1 {us : List Value} (h : us.length = 1) : ∃ a, us = [a] := by
 obtain ⟨a, r, rfl, g⟩ := lnS h
 cases ln0 g
 exact ⟨a, rfl⟩
theorem ln2 {us : List Value} (h : us.length = 2) : ∃ a b, us = [a, b] := by
 obtain ⟨a, r, rfl, g⟩ := lnS h
 obtain ⟨b, rfl⟩ := ln1 g
 exact ⟨a, b, rfl⟩
theorem ln3 {us : List Value} (h : us.length = 3) : ∃ a b c, us = [a, b, c] := by
 obtain ⟨a, r, rfl, g⟩ := lnS h
 obtain ⟨b, c, rfl⟩ := ln2 g
 exact ⟨a, b, c, rfl⟩
theorem ln4 {us : List Value} (h : us.length = 4) : ∃ a b c d, us = [a, b, c, d] := by
 obtain ⟨a, r, rfl, g⟩ := lnS h
 obtain ⟨b, c, d, rfl⟩ := ln3 g
 exact ⟨a, b, c, d, rfl⟩
theorem all_mk {l : PySem.W.OpenLaw} {w : World} {K : PySem.W.Frag} {h : Heap} {mg : Str -> Option Value} {fa : Addr} (X : K.In h) (G : h.Ns mainGlobals mg) (hfa : mg "law" = some (.ref fa))
   {C_Growth : Addr} (aC_Growth : PySem.W.nsIn K mainGlobals "Growth" = some (some (.ref C_Growth)))
   {f_l : Addr} {od_l an_l : Option Addr} {sl_l : Array (Option Value)} {oc_l kV_l dc_l pm_l cd_l ct_l : Value} (a_l : PySem.W.findIn K (.ref C_Growth) "__init__" = some (some (.ref f_l))) (i_l : PySem.W.isFn K (.ref f_l) = true) (l_l : K.lookup f_l = some ⟨oc_l, od_l, .func (PySem.W.fnOf "__init__" "Growth.__init__" (zT s_l) (zS s_l) (zH s_l) .none kV_l dc_l pm_l an_l cd_l ct_l), sl_l⟩) (c_l : PySem.W.codeIn K cd_l "Growth.__init__" = true) (k_l : PySem.W.keepIn K (.ref f_l) = true)
   {f_a : Addr} {od_a an_a : Option Addr} {sl_a : Array (Option Value)} {oc_a kV_a dc_a pm_a cd_a ct_a : Value} (a_a : PySem.W.findIn K (.ref C_Growth) "line_of" = some (some (.ref f_a))) (i_a : PySem.W.isFn K (.ref f_a) = true) (l_a : K.lookup f_a = some ⟨oc_a, od_a, .func (PySem.W.fnOf "line_of" "Growth.line_of" (zT s_a) (zS s_a) (zH s_a) .none kV_a dc_a pm_a an_a cd_a ct_a), sl_a⟩) (c_a : PySem.W.codeIn K cd_a "Growth.line_of" = true) (k_a : PySem.W.keepIn K (.ref f_a) = true)
   {f_o : Addr} {od_o an_o : Option Addr} {sl_o : Array (Option Value)} {oc_o kV_o dc_o pm_o cd_o ct_o : Value} (a_o : PySem.W.findIn K (.ref C_Growth) "has" = some (some (.ref f_o))) (i_o : PySem.W.isFn K (.ref f_o) = true) (l_o : K.lookup f_o = some ⟨oc_o, od_o, .func (PySem.W.fnOf "has" "Growth.has" (zT s_o) (zS s_o) (zH s_o) .none kV_o dc_o pm_o an_o cd_o ct_o), sl_o⟩) (c_o : PySem.W.codeIn K cd_o "Growth.has" = true) (k_o : PySem.W.keepIn K (.ref f_o) = true)
   {f_e : Addr} {od_e an_e : Option Addr} {sl_e : Array (Option Value)} {oc_e kV_e dc_e pm_e cd_e ct_e : Value} (a_e : PySem.W.findIn K (.ref C_Growth) "grow" = some (some (.ref f_e))) (i_e : PySem.W.isFn K (.ref f_e) = true) (l_e : K.lookup f_e = some ⟨oc_e, od_e, .func (PySem.W.fnOf "grow" "Growth.grow" (zT s_e) (zS s_e) (zH s_e) .none kV_e dc_e pm_e an_e cd_e ct_e), sl_e⟩) (c_e : PySem.W.codeIn K cd_e "Growth.grow" = true) (k_e : PySem.W.keepIn K (.ref f_e) = true)
   (pg_Growth : PySem.W.plainGet K C_Growth Str.empty = true) (hd_Growth : PySem.W.hasDictIn K C_Growth = true) (po_Growth : PySem.W.plainOver K C_Growth = true) (sa_Growth : PySem.W.findIn K (.ref C_Growth) "__setattr__" = some (some (.builtin "object.__setattr__"))) (mk_Growth : PySem.W.makesIn K C_Growth = true) (kc_Growth : PySem.W.keepIn K (.ref C_Growth) = true) (n_Growth_lines : PySem.W.findIn K (.ref C_Growth) "lines" = some none) (n_Growth_places : PySem.W.findIn K (.ref C_Growth) "places" = some none) (n_Growth_above : PySem.W.findIn K (.ref C_Growth) "above" = some none) (n_Growth_below : PySem.W.findIn K (.ref C_Growth) "below" = some none)
   {f_B : Addr} {od_B an_B : Option Addr} {sl_B : Array (Option Value)} {oc_B kV_B dc_B pm_B cd_B ct_B : Value} (a_B : PySem.W.nsIn K mainGlobals "spots_by" = some (some (.ref f_B))) (l_B : K.lookup f_B = some ⟨oc_B, od_B, .func (PySem.W.fnOf "spots_by" "spots_by" (zT s_B) (zS s_B) (zH s_B) .none kV_B dc_B pm_B an_B cd_B ct_B), sl_B⟩) (c_B : PySem.W.codeIn K cd_B "spots_by" = true) (k_B : PySem.W.keepIn K (.ref f_B) = true)
   {f_s : Addr} {od_s an_s : Option Addr} {sl_s : Array (Option Value)} {oc_s kV_s dc_s pm_s cd_s ct_s : Value} (a_s : PySem.W.nsIn K mainGlobals "clashes_by" = some (some (.ref f_s))) (l_s : K.lookup f_s = some ⟨oc_s, od_s, .func (PySem.W.fnOf "clashes_by" "clashes_by" (zT s_s) (zS s_s) (zH s_s) .none kV_s dc_s pm_s an_s cd_s ct_s), sl_s⟩) (c_s : PySem.W.codeIn K cd_s "clashes_by" = true) (k_s : PySem.W.keepIn K (.ref f_s) = true)
   {f_q : Addr} {od_q an_q : Option Addr} {sl_q : Array (Option Value)} {oc_q kV_q dc_q pm_q cd_q ct_q : Value} (a_q : PySem.W.nsIn K mainGlobals "spots_under" = some (some (.ref f_q))) (l_q : K.lookup f_q = some ⟨oc_q, od_q, .func (PySem.W.fnOf "spots_under" "spots_under" (zT s_q) (zS s_q) (zH s_q) .none kV_q dc_q pm_q an_q cd_q ct_q), sl_q⟩) (c_q : PySem.W.codeIn K cd_q "spots_under" = true) (k_q : PySem.W.keepIn K (.ref f_q) = true)
   {f_w : Addr} {od_w an_w : Option Addr} {sl_w : Array (Option Value)} {oc_w kV_w dc_w pm_w cd_w ct_w : Value} (a_w : PySem.W.nsIn K mainGlobals "world_of" = some (some (.ref f_w))) (l_w : K.lookup f_w = some ⟨oc_w, od_w, .func (PySem.W.fnOf "world_of" "world_of" (zT s_w) (zS s_w) (zH s_w) .none kV_w dc_w pm_w an_w cd_w ct_w), sl_w⟩) (c_w : PySem.W.codeIn K cd_w "world_of" = true) (k_w : PySem.W.keepIn K (.ref f_w) = true)
   {f_A : Addr} {od_A an_A : Option Addr} {sl_A : Array (Option Value)} {oc_A kV_A dc_A pm_A cd_A ct_A : Value} (a_A : PySem.W.nsIn K mainGlobals "is_whole" = some (some (.ref f_A))) (l_A : K.lookup f_A = some ⟨oc_A, od_A, .func (PySem.W.fnOf "is_whole" "is_whole" (zT s_A) (zS s_A) (zH s_A) .none kV_A dc_A pm_A an_A cd_A ct_A), sl_A⟩) (c_A : PySem.W.codeIn K cd_A "is_whole" = true) (k_A : PySem.W.keepIn K (.ref f_A) = true)
   {f_z : Addr} {od_z an_z : Option Addr} {sl_z : Array (Option Value)} {oc_z kV_z dc_z pm_z cd_z ct_z : Value} (a_z : PySem.W.nsIn K mainGlobals "is_below" = some (some (.ref f_z))) (l_z : K.lookup f_z = some ⟨oc_z, od_z, .func (PySem.W.fnOf "is_below" "is_below" (zT s_z) (zS s_z) (zH s_z) .none kV_z dc_z pm_z an_z cd_z ct_z), sl_z⟩) (c_z : PySem.W.codeIn K cd_z "is_below" = true) (k_z : PySem.W.keepIn K (.ref f_z) = true)
   {f_C : Addr} {od_C an_C : Option Addr} {sl_C : Array (Option Value)} {oc_C kV_C dc_C pm_C cd_C ct_C : Value} (a_C : PySem.W.nsIn K mainGlobals "bits_of" = some (some (.ref f_C))) (l_C : K.lookup f_C = some ⟨oc_C, od_C, .func (PySem.W.fnOf "bits_of" "bits_of" (zT s_C) (zS s_C) (zH s_C) .none kV_C dc_C pm_C an_C cd_C ct_C), sl_C⟩) (c_C : PySem.W.codeIn K cd_C "bits_of" = true) (k_C : PySem.W.keepIn K (.ref f_C) = true)
   {f_D : Addr} {od_D an_D : Option Addr} {sl_D : Array (Option Value)} {oc_D kV_D dc_D pm_D cd_D ct_D : Value} (a_D : PySem.W.nsIn K mainGlobals "begin" = some (some (.ref f_D))) (l_D : K.lookup f_D = some ⟨oc_D, od_D, .func (PySem.W.fnOf "begin" "begin" (zT s_D) (zS s_D) (zH s_D) .none kV_D dc_D pm_D an_D cd_D ct_D), sl_D⟩) (c_D : PySem.W.codeIn K cd_D "begin" = true) (k_D : PySem.W.keepIn K (.ref f_D) = true)
   {f_g : Addr} {od_g an_g : Option Addr} {sl_g : Array (Option Value)} {oc_g kV_g dc_g pm_g cd_g ct_g : Value} (a_g : PySem.W.nsIn K mainGlobals "boths_by_part" = some (some (.ref f_g))) (l_g : K.lookup f_g = some ⟨oc_g, od_g, .func (PySem.W.fnOf "boths_by_part" "boths_by_part" (zT s_g) (zS s_g) (zH s_g) .none kV_g dc_g pm_g an_g cd_g ct_g), sl_g⟩) (c_g : PySem.W.codeIn K cd_g "boths_by_part" = true) (k_g : PySem.W.keepIn K (.ref f_g) = true)
   {f_d : Addr} {od_d an_d : Option Addr} {sl_d : Array (Option Value)} {oc_d kV_d dc_d pm_d cd_d ct_d : Value} (a_d : PySem.W.nsIn K mainGlobals "rules_by_premise" = some (some (.ref f_d))) (l_d : K.lookup f_d = some ⟨oc_d, od_d, .func (PySem.W.fnOf "rules_by_premise" "rules_by_premise" (zT s_d) (zS s_d) (zH s_d) .none kV_d dc_d pm_d an_d cd_d ct_d), sl_d⟩) (c_d : PySem.W.codeIn K cd_d "rules_by_premise" = true) (k_d : PySem.W.keepIn K (.ref f_d) = true)
   {f_m : Addr} {od_m an_m : Option Addr} {sl_m : Array (Option Value)} {oc_m kV_m dc_m pm_m cd_m ct_m : Value} (a_m : PySem.W.nsIn K mainGlobals "grow_by_turn" = some (some (.ref f_m))) (l_m : K.lookup f_m = some ⟨oc_m, od_m, .func (PySem.W.fnOf "grow_by_turn" "grow_by_turn" (zT s_m) (zS s_m) (zH s_m) .none kV_m dc_m pm_m an_m cd_m ct_m), sl_m⟩) (c_m : PySem.W.codeIn K cd_m "grow_by_turn" = true) (k_m : PySem.W.keepIn K (.ref f_m) = true)
   {f_f : Addr} {od_f an_f : Option Addr} {sl_f : Array (Option Value)} {oc_f kV_f dc_f pm_f cd_f ct_f : Value} (a_f : PySem.W.nsIn K mainGlobals "grow_by_chain" = some (some (.ref f_f))) (l_f : K.lookup f_f = some ⟨oc_f, od_f, .func (PySem.W.fnOf "grow_by_chain" "grow_by_chain" (zT s_f) (zS s_f) (zH s_f) .none kV_f dc_f pm_f an_f cd_f ct_f), sl_f⟩) (c_f : PySem.W.codeIn K cd_f "grow_by_chain" = true) (k_f : PySem.W.keepIn K (.ref f_f) = true)
   {f_k : Addr} {od_k an_k : Option Addr} {sl_k : Array (Option Value)} {oc_k kV_k dc_k pm_k cd_k ct_k : Value} (a_k : PySem.W.nsIn K mainGlobals "grow_by_both" = some (some (.ref f_k))) (l_k : K.lookup f_k = some ⟨oc_k, od_k, .func (PySem.W.fnOf "grow_by_both" "grow_by_both" (zT s_k) (zS s_k) (zH s_k) .none kV_k dc_k pm_k an_k cd_k ct_k), sl_k⟩) (c_k : PySem.W.codeIn K cd_k "grow_by_both" = true) (k_k : PySem.W.keepIn K (.ref f_k) = true)
   {f_i : Addr} {od_i an_i : Option Addr} {sl_i : Array (Option Value)} {oc_i kV_i dc_i pm_i cd_i ct_i : Value} (a_i : PySem.W.nsIn K mainGlobals "grow_by_clash" = some (some (.ref f_i))) (l_i : K.lookup f_i = some ⟨oc_i, od_i, .func (PySem.W.fnOf "grow_by_clash" "grow_by_clash" (zT s_i) (zS s_i) (zH s_i) .none kV_i dc_i pm_i an_i cd_i ct_i), sl_i⟩) (c_i : PySem.W.codeIn K cd_i "grow_by_clash" = true) (k_i : PySem.W.keepIn K (.ref f_i) = true)
   {f_j : Addr} {od_j an_j : Option Addr} {sl_j : Array (Option Value)} {oc_j kV_j dc_j pm_j cd_j ct_j : Value} (a_j : PySem.W.nsIn K mainGlobals "grow_by_rule" = some (some (.ref f_j))) (l_j : K.lookup f_j = some ⟨oc_j, od_j, .func (PySem.W.fnOf "grow_by_rule" "grow_by_rule" (zT s_j) (zS s_j) (zH s_j) .none kV_j dc_j pm_j an_j cd_j ct_j), sl_j⟩) (c_j : PySem.W.codeIn K cd_j "grow_by_rule" = true) (k_j : PySem.W.keepIn K (.ref f_j) = true)
   {f_y : Addr} {od_y an_y : Option Addr} {sl_y : Array (Option Value)} {oc_y kV_y dc_y pm_y cd_y ct_y : Value} (a_y : PySem.W.nsIn K mainGlobals "closing" = some (some (.ref f_y))) (l_y : K.lookup f_y = some ⟨oc_y, od_y, .func (PySem.W.fnOf "closing" "closing" (zT s_y) (zS s_y) (zH s_y) .none kV_y dc_y pm_y an_y cd_y ct_y), sl_y⟩) (c_y : PySem.W.codeIn K cd_y "closing" = true) (k_y : PySem.W.keepIn K (.ref f_y) = true)
   {f_u : Addr} {od_u an_u : Option Addr} {sl_u : Array (Option Value)} {oc_u kV_u dc_u pm_u cd_u ct_u : Value} (a_u : PySem.W.nsIn K mainGlobals "_law_draw" = some (some (.ref f_u))) (l_u : K.lookup f_u = some ⟨oc_u, od_u, .func (PySem.W.fnOf "_law_draw" "_law_draw" (zT s_u) (zS s_u) (zH s_u) .none kV_u dc_u pm_u an_u cd_u ct_u), sl_u⟩) (c_u : PySem.W.codeIn K cd_u "_law_draw" = true) (k_u : PySem.W.keepIn K (.ref f_u) = true)
   {f_t : Addr} {od_t an_t : Option Addr} {sl_t : Array (Option Value)} {oc_t kV_t dc_t pm_t cd_t ct_t : Value} (a_t : PySem.W.nsIn K mainGlobals "_law_whole" = some (some (.ref f_t))) (l_t : K.lookup f_t = some ⟨oc_t, od_t, .func (PySem.W.fnOf "_law_whole" "_law_whole" (zT s_t) (zS s_t) (zH s_t) .none kV_t dc_t pm_t an_t cd_t ct_t), sl_t⟩) (c_t : PySem.W.codeIn K cd_t "_law_whole" = true) (k_t : PySem.W.keepIn K (.ref f_t) = true)
   {f_r : Addr} {od_r an_r : Option Addr} {sl_r : Array (Option Value)} {oc_r kV_r dc_r pm_r cd_r ct_r : Value} (a_r : PySem.W.nsIn K mainGlobals "_law_names" = some (some (.ref f_r))) (l_r : K.lookup f_r = some ⟨oc_r, od_r, .func (PySem.W.fnOf "_law_names" "_law_names" (zT s_r) (zS s_r) (zH s_r) .none kV_r dc_r pm_r an_r cd_r ct_r), sl_r⟩) (c_r : PySem.W.codeIn K cd_r "_law_names" = true) (k_r : PySem.W.keepIn K (.ref f_r) = true)
   {f_v : Addr} {od_v an_v : Option Addr} {sl_v : Array (Option Value)} {oc_v kV_v dc_v pm_v cd_v ct_v : Value} (a_v : PySem.W.nsIn K mainGlobals "_law_near" = some (some (.ref f_v))) (l_v : K.lookup f_v = some ⟨oc_v, od_v, .func (PySem.W.fnOf "_law_near" "_law_near" (zT s_v) (zS s_v) (zH s_v) .none kV_v dc_v pm_v an_v cd_v ct_v), sl_v⟩) (c_v : PySem.W.codeIn K cd_v "_law_near" = true) (k_v : PySem.W.keepIn K (.ref f_v) = true)
   {f_n : Addr} {od_n an_n : Option Addr} {sl_n : Array (Option Value)} {oc_n kV_n dc_n pm_n cd_n ct_n : Value} (a_n : PySem.W.nsIn K mainGlobals "_law_counter" = some (some (.ref f_n))) (l_n : K.lookup f_n = some ⟨oc_n, od_n, .func (PySem.W.fnOf "_law_counter" "_law_counter" (zT s_n) (zS s_n) (zH s_n) .none kV_n dc_n pm_n an_n cd_n ct_n), sl_n⟩) (c_n : PySem.W.codeIn K cd_n "_law_counter" = true) (k_n : PySem.W.keepIn K (.ref f_n) = true)
   {f_h : Addr} {od_h an_h : Option Addr} {sl_h : Array (Option Value)} {oc_h kV_h dc_h pm_h cd_h ct_h : Value} (a_h : PySem.W.nsIn K mainGlobals "_law_is_world" = some (some (.ref f_h))) (l_h : K.lookup f_h = some ⟨oc_h, od_h, .func (PySem.W.fnOf "_law_is_world" "_law_is_world" (zT s_h) (zS s_h) (zH s_h) .none kV_h dc_h pm_h an_h cd_h ct_h), sl_h⟩) (c_h : PySem.W.codeIn K cd_h "_law_is_world" = true) (k_h : PySem.W.keepIn K (.ref f_h) = true)
   {f_b : Addr} {od_b an_b : Option Addr} {sl_b : Array (Option Value)} {oc_b kV_b dc_b pm_b cd_b ct_b : Value} (a_b : PySem.W.nsIn K mainGlobals "_law_drawn_sheet" = some (some (.ref f_b))) (l_b : K.lookup f_b = some ⟨oc_b, od_b, .func (PySem.W.fnOf "_law_drawn_sheet" "_law_drawn_sheet" (zT s_b) (zS s_b) (zH s_b) .none kV_b dc_b pm_b an_b cd_b ct_b), sl_b⟩) (c_b : PySem.W.codeIn K cd_b "_law_drawn_sheet" = true) (k_b : PySem.W.keepIn K (.ref f_b) = true)
   {f_c : Addr} {od_c an_c : Option Addr} {sl_c : Array (Option Value)} {oc_c kV_c dc_c pm_c cd_c ct_c : Value} (a_c : PySem.W.nsIn K mainGlobals "_law_drawn_rules" = some (some (.ref f_c))) (l_c : K.lookup f_c = some ⟨oc_c, od_c, .func (PySem.W.fnOf "_law_drawn_rules" "_law_drawn_rules" (zT s_c) (zS s_c) (zH s_c) .none kV_c dc_c pm_c an_c cd_c ct_c), sl_c⟩) (c_c : PySem.W.codeIn K cd_c "_law_drawn_rules" = true) (k_c : PySem.W.keepIn K (.ref f_c) = true)
   {f_p : Addr} {od_p an_p : Option Addr} {sl_p : Array (Option Value)} {oc_p kV_p dc_p pm_p cd_p ct_p : Value} (a_p : PySem.W.nsIn K mainGlobals "_law_values" = some (some (.ref f_p))) (l_p : K.lookup f_p = some ⟨oc_p, od_p, .func (PySem.W.fnOf "_law_values" "_law_values" (zT s_p) (zS s_p) (zH s_p) .none kV_p dc_p pm_p an_p cd_p ct_p), sl_p⟩) (c_p : PySem.W.codeIn K cd_p "_law_values" = true) (k_p : PySem.W.keepIn K (.ref f_p) = true)
   {f_x : Addr} {od_x an_x : Option Addr} {sl_x : Array (Option Value)} {oc_x kV_x dc_x pm_x cd_x ct_x : Value} (a_x : PySem.W.nsIn K mainGlobals "_law_lies" = some (some (.ref f_x))) (l_x : K.lookup f_x = some ⟨oc_x, od_x, .func (PySem.W.fnOf "_law_lies" "_law_lies" (zT s_x) (zS s_x) (zH s_x) .none kV_x dc_x pm_x an_x cd_x ct_x), sl_x⟩) (c_x : PySem.W.codeIn K cd_x "_law_lies" = true) (k_x : PySem.W.keepIn K (.ref f_x) = true)
   {f_E : Addr} {od_E an_E : Option Addr} {sl_E : Array (Option Value)} {oc_E kV_E dc_E pm_E cd_E ct_E : Value} (a_E : PySem.W.nsIn K mainGlobals "law" = some (some (.ref f_E))) (l_E : K.lookup f_E = some ⟨oc_E, od_E, .func (PySem.W.fnOf "law" "law" (zT s_E) (zS s_E) (zH s_E) .none kV_E dc_E pm_E an_E cd_E ct_E), sl_E⟩) (c_E : PySem.W.codeIn K cd_E "law" = true) (k_E : PySem.W.keepIn K (.ref f_E) = true)
    (z_enumerate : PySem.W.nsIn K mainGlobals "enumerate" = some none)
    (z_min : PySem.W.nsIn K mainGlobals "min" = some none)
   (z_all : PySem.W.nsIn K mainGlobals "all" = some none)
   (z_bool : PySem.W.nsIn K mainGlobals "bool" = some none)
   (z_dict : PySem.W.nsIn K mainGlobals "dict" = some none)
   (z_int : PySem.W.nsIn K mainGlobals "int" = some none)
   (z_isinstance : PySem.W.nsIn K mainGlobals "isinstance" = some none)
   (z_len : PySem.W.nsIn K mainGlobals "len" = some none)
   (z_list : PySem.W.nsIn K mainGlobals "list" = some none)
   (z_max : PySem.W.nsIn K mainGlobals "max" = some none)
   (z_range : PySem.W.nsIn K mainGlobals "range" = some none)
   (z_set : PySem.W.nsIn K mainGlobals "set" = some none)
   (z_sorted : PySem.W.nsIn K mainGlobals "sorted" = some none)
   (z_str : PySem.W.nsIn K mainGlobals "str" = some none)
   (z_sum : PySem.W.nsIn K mainGlobals "sum" = some none)
   (z_tuple : PySem.W.nsIn K mainGlobals "tuple" = some none) :
   ∃ fd : FuncData, (∀ (s : Shared) (v : Value), BindsTo s fd ⟨[v], []⟩ [("script", v)]) /\ ∀ base : Heap, K.In base -> base.Ns mainGlobals mg -> FnOk l.prog w K mg base CX0 65 fa fd ["script"] (spLaw K) := by
 have e := hfa.symm.trans (PySem.W.mg_of X G a_E)
 cases e
 have cl_Growth : Cls K C_Growth := ⟨pg_Growth, hd_Growth, po_Growth, sa_Growth⟩
 have mC_Growth := PySem.W.mg_of X G aC_Growth
 have F_l := yF (st := s_l) l_l c_l k_l
 have b_l := F_l.binds (ps := ["self", "many"]) fun _ _ _ _ _ _ us hl => by obtain ⟨u0, u1, rfl⟩ := ln2 hl; rfl
 have t_l : Meth K C_Growth "__init__" f_l := ⟨a_l, i_l, k_l⟩
 have F_a := yF (st := s_a) l_a c_a k_a
 have b_a := F_a.binds (ps := ["self", "i", "j"]) fun _ _ _ _ _ _ us hl => by obtain ⟨u0, u1, u2, rfl⟩ := ln3 hl; rfl
 have t_a : Meth K C_Growth "line_of" f_a := ⟨a_a, i_a, k_a⟩
 have F_o := yF (st := s_o) l_o c_o k_o
 have b_o := F_o.binds (ps := ["self", "i", "j"]) fun _ _ _ _ _ _ us hl => by obtain ⟨u0, u1, u2, rfl⟩ := ln3 hl; rfl
 have t_o : Meth K C_Growth "has" f_o := ⟨a_o, i_o, k_o⟩
 have F_e := yF (st := s_e) l_e c_e k_e
 have b_e := F_e.binds (ps := ["self", "i", "j", "why"]) fun _ _ _ _ _ _ us hl => by obtain ⟨u0, u1, u2, u3, rfl⟩ := ln4 hl; rfl
 have t_e : Meth K C_Growth "grow" f_e := ⟨a_e, i_e, k_e⟩
 have F_B := yF (st := s_B) l_B c_B k_B
 have b_B := F_B.binds (ps := ["many", "pairs"]) fun _ _ _ _ _ _ us hl => by obtain ⟨u0, u1, rfl⟩ := ln2 hl; rfl
 have m_B := PySem.W.mg_of X G a_B
 have F_s := yF (st := s_s) l_s c_s k_s
 have b_s := F_s.binds (ps := ["spots", "pairs"]) fun _ _ _ _ _ _ us hl => by obtain ⟨u0, u1, rfl⟩ := ln2 hl; rfl
 have m_s := PySem.W.mg_of X G a_s
 have F_q := yF (st := s_q) l_q c_q k_q
 have b_q := F_q.binds (ps := ["spots", "pairs", "n"]) fun _ _ _ _ _ _ us hl => by obtain ⟨u0, u1, u2, rfl⟩ := ln3 hl; rfl
 have m_q := PySem.W.mg_of X G a_q
 have F_w := yF (st := s_w) l_w c_w k_w
 have b_w := F_w.binds (ps := ["sheet", "lines"]) fun _ _ _ _ _ _ us hl => by obtain ⟨u0, u1, rfl⟩ := ln2 hl; rfl
 have m_w := PySem.W.mg_of X G a_w
 have F_A := yF (st := s_A) l_A c_A k_A
 have b_A := F_A.binds (ps := ["n"]) fun _ _ _ _ _ _ us hl => by obtain ⟨u0, rfl⟩ := ln1 hl; rfl
 have m_A := PySem.W.mg_of X G a_A
 have F_z := yF (st := s_z) l_z c_z k_z
 have b_z := F_z.binds (ps := ["n", "bound"]) fun _ _ _ _ _ _ us hl => by obtain ⟨u0, u1, rfl⟩ := ln2 hl; rfl
 have m_z := PySem.W.mg_of X G a_z
 have F_C := yF (st := s_C) l_C c_C k_C
 have b_C := F_C.binds (ps := ["mask"]) fun _ _ _ _ _ _ us hl => by obtain ⟨u0, rfl⟩ := ln1 hl; rfl
 have m_C := PySem.W.mg_of X G a_C
 have F_D := yF (st := s_D) l_D c_D k_D
 have b_D := F_D.binds (ps := ["growth", "sheet"]) fun _ _ _ _ _ _ us hl => by obtain ⟨u0, u1, rfl⟩ := ln2 hl; rfl
 have m_D := PySem.W.mg_of X G a_D
 have F_g := yF (st := s_g) l_g c_g k_g
 have b_g := F_g.binds (ps := ["sheet"]) fun _ _ _ _ _ _ us hl => by obtain ⟨u0, rfl⟩ := ln1 hl; rfl
 have m_g := PySem.W.mg_of X G a_g
 have F_d := yF (st := s_d) l_d c_d k_d
 have b_d := F_d.binds (ps := ["rules"]) fun _ _ _ _ _ _ us hl => by obtain ⟨u0, rfl⟩ := ln1 hl; rfl
 have m_d := PySem.W.mg_of X G a_d
 have F_m := yF (st := s_m) l_m c_m k_m
 have b_m := F_m.binds (ps := ["growth", "i", "j"]) fun _ _ _ _ _ _ us hl => by obtain ⟨u0, u1, u2, rfl⟩ := ln3 hl; rfl
 have m_m := PySem.W.mg_of X G a_m
 have F_f := yF (st := s_f) l_f c_f k_f
 have b_f := F_f.binds (ps := ["growth", "i", "j"]) fun _ _ _ _ _ _ us hl => by obtain ⟨u0, u1, u2, rfl⟩ := ln3 hl; rfl
 have m_f := PySem.W.mg_of X G a_f
 have F_k := yF (st := s_k) l_k c_k k_k
 have b_k := F_k.binds (ps := ["growth", "i", "boths"]) fun _ _ _ _ _ _ us hl => by obtain ⟨u0, u1, u2, rfl⟩ := ln3 hl; rfl
 have m_k := PySem.W.mg_of X G a_k
 have F_i := yF (st := s_i) l_i c_i k_i
 have b_i := F_i.binds (ps := ["growth", "i", "j"]) fun _ _ _ _ _ _ us hl => by obtain ⟨u0, u1, u2, rfl⟩ := ln3 hl; rfl
 have m_i := PySem.W.mg_of X G a_i
 have F_j := yF (st := s_j) l_j c_j k_j
 have b_j := F_j.binds (ps := ["growth", "rules", "r"]) fun _ _ _ _ _ _ us hl => by obtain ⟨u0, u1, u2, rfl⟩ := ln3 hl; rfl
 have m_j := PySem.W.mg_of X G a_j
 have F_y := yF (st := s_y) l_y c_y k_y
 have b_y := F_y.binds (ps := ["sheet", "rules"]) fun _ _ _ _ _ _ us hl => by obtain ⟨u0, u1, rfl⟩ := ln2 hl; rfl
 have m_y := PySem.W.mg_of X G a_y
 have F_u := yF (st := s_u) l_u c_u k_u
 have b_u := F_u.binds (ps := ["script", "k"]) fun _ _ _ _ _ _ us hl => by obtain ⟨u0, u1, rfl⟩ := ln2 hl; rfl
 have m_u := PySem.W.mg_of X G a_u
 have F_t := yF (st := s_t) l_t c_t k_t
 have b_t := F_t.binds (ps := ["found"]) fun _ _ _ _ _ _ us hl => by obtain ⟨u0, rfl⟩ := ln1 hl; rfl
 have m_t := PySem.W.mg_of X G a_t
 have F_r := yF (st := s_r) l_r c_r k_r
 have b_r := F_r.binds (ps := ["script", "k", "many"]) fun _ _ _ _ _ _ us hl => by obtain ⟨u0, u1, u2, rfl⟩ := ln3 hl; rfl
 have m_r := PySem.W.mg_of X G a_r
 have F_v := yF (st := s_v) l_v c_v k_v
 have b_v := F_v.binds (ps := ["many", "pairs"]) fun _ _ _ _ _ _ us hl => by obtain ⟨u0, u1, rfl⟩ := ln2 hl; rfl
 have m_v := PySem.W.mg_of X G a_v
 have F_n := yF (st := s_n) l_n c_n k_n
 have b_n := F_n.binds (ps := ["near", "spots"]) fun _ _ _ _ _ _ us hl => by obtain ⟨u0, u1, rfl⟩ := ln2 hl; rfl
 have m_n := PySem.W.mg_of X G a_n
 have F_h := yF (st := s_h) l_h c_h k_h
 have b_h := F_h.binds (ps := ["world", "most"]) fun _ _ _ _ _ _ us hl => by obtain ⟨u0, u1, rfl⟩ := ln2 hl; rfl
 have m_h := PySem.W.mg_of X G a_h
 have F_b := yF (st := s_b) l_b c_b k_b
 have b_b := F_b.binds (ps := ["script", "k", "many", "names"]) fun _ _ _ _ _ _ us hl => by obtain ⟨u0, u1, u2, u3, rfl⟩ := ln4 hl; rfl
 have m_b := PySem.W.mg_of X G a_b
 have F_c := yF (st := s_c) l_c c_c k_c
 have b_c := F_c.binds (ps := ["script", "k", "many", "top"]) fun _ _ _ _ _ _ us hl => by obtain ⟨u0, u1, u2, u3, rfl⟩ := ln4 hl; rfl
 have m_c := PySem.W.mg_of X G a_c
 have F_p := yF (st := s_p) l_p c_p k_p
 have b_p := F_p.binds (ps := ["world", "sheet"]) fun _ _ _ _ _ _ us hl => by obtain ⟨u0, u1, rfl⟩ := ln2 hl; rfl
 have m_p := PySem.W.mg_of X G a_p
 have F_x := yF (st := s_x) l_x c_x k_x
 have b_x := F_x.binds (ps := ["values", "pair"]) fun _ _ _ _ _ _ us hl => by obtain ⟨u0, u1, rfl⟩ := ln2 hl; rfl
 have m_x := PySem.W.mg_of X G a_x
 have F_E := yF (st := s_E) l_E c_E k_E
 have b_E := F_E.binds (ps := ["script"]) fun _ _ _ _ _ _ us hl => by obtain ⟨u0, rfl⟩ := ln1 hl; rfl
 have m_E := PySem.W.mg_of X G a_E
 have bi : Bi mg := ⟨PySem.W.mg_none_of X G z_len, PySem.W.mg_none_of X G z_range, PySem.W.mg_none_of X G z_isinstance, PySem.W.mg_none_of X G z_max, PySem.W.mg_none_of X G z_sum, PySem.W.mg_none_of X G z_all, PySem.W.mg_none_of X G z_tuple, PySem.W.mg_none_of X G z_list, PySem.W.mg_none_of X G z_sorted, PySem.W.mg_none_of X G z_set, PySem.W.mg_none_of X G z_int, PySem.W.mg_none_of X G z_bool, PySem.W.mg_none_of X G z_str, PySem.W.mg_none_of X G z_dict⟩
 refine ⟨PySem.W.fnOf "law" "law" (zT s_E) (zS s_E) (zH s_E) .none kV_E dc_E pm_E an_E cd_E ct_E, fun s v => .of_eq rfl, fun base _ _ => ?_⟩
 have be : mg "enumerate" = none := PySem.W.mg_none_of X G z_enumerate
 have bmn : mg "min" = none := PySem.W.mg_none_of X G z_min
 have T : GrC K C_Growth := ⟨cl_Growth, n_Growth_lines, n_Growth_places, n_Growth_above, n_Growth_below⟩
 have h0 := yN F_A (ok_is_whole (P := l.prog) (w := w) (base := base) bi F_A) b_A m_A
 have h1 := yN F_z (ok_is_below bi h0 F_z) b_z m_z
 have h2 := yN F_C (ok_bits_of (P := l.prog) (w := w) (base := base) bi F_C) b_C m_C
 have g0 : HasI l.prog w K mg base 1 C_Growth "Growth" ["self", "many"] (spGI C_Growth) := ⟨_, _, ok_ginit T F_l, b_l, ⟨mk_Growth, a_l, i_l, kc_Growth⟩, mC_Growth⟩
 have g1 : HasM l.prog w K mg base 1 C_Growth "line_of" ["self", "i", "j"] (spLo C_Growth) := ⟨_, _, ok_line_of T F_a, b_a, t_a⟩
 have g2 : HasM l.prog w K mg base 1 C_Growth "has" ["self", "i", "j"] (spHs C_Growth) := ⟨_, _, ok_has T F_o, b_o, t_o⟩
 have g3 : HasM l.prog w K mg base 2 C_Growth "grow" ["self", "i", "j", "why"] (vO C_Growth) := ⟨_, _, ok_grow T bi g2 F_e, b_e, t_e⟩
 have c1 := yN F_D (ok_begin T bi be g3 F_D) b_D m_D
 have c2 := yN F_g (ok_boths (P := l.prog) (w := w) (base := base) bi be F_g) b_g m_g
 have c3 := yN F_d (qA (P := l.prog) (w := w) (base := base) bi be F_d) b_d m_d
 have c4 := yN F_m (ok_turn T g1 g3 F_m) b_m m_m
 have c5 := yN F_f (ok_chain T bi h2 g1 g3 F_f) b_f m_f
 have c6 := yN F_k (ok_both T g1 g2 g3 F_k) b_k m_k
 have c7 := yN F_i (ok_clash T bi g1 g3 F_i) b_i m_i
 have c8 := yN F_j (ok_rule T bi h1 g1 g2 g3 F_j) b_j m_j
 have c9 := yN F_y (ok_closing T bi g0 c2 c3 c1 c4 c5 c6 c7 c8 F_y) b_y m_y
 have w1 := yN F_u (ok_draw (P := l.prog) (w := w) (base := base) bi F_u) b_u m_u
 have w2 := yN F_r (ok_names bi w1 F_r) b_r m_r
 have w3 := yN F_t (ok_whole (P := l.prog) (w := w) (base := base) bi F_t) b_t m_t
 have w4 := yN F_v (ok_near (P := l.prog) (w := w) (base := base) bi F_v) b_v m_v
 have w5 := yN F_n (ok_lcounter (P := l.prog) (w := w) (base := base) bi F_n) b_n m_n
 have w6 := yN F_h (wY bi w3 w4 w5 F_h) b_h m_h
 have w7 := yN F_b (uZ bi w1 F_b) b_b m_b
 have w8 := yN F_c (vA bi w1 F_c) b_c m_c
 have v1 := yN F_B (ok_spots_by (P := l.prog) (w := w) (base := base) bi F_B) b_B m_B
 have v2 := yN F_q (uY (P := l.prog) (w := w) (base := base) bi be F_q) b_q m_q
 have v3 := yN F_s (vQ (P := l.prog) (w := w) (base := base) bi be F_s) b_s m_s
 have v4 := yN F_w (ok_world_of bi be v1 v2 v3 F_w) b_w m_w
 have v5 := yN F_p (ok_values bi w4 w5 F_p) b_p m_p
 have v6 := yN F_x (ok_lies (P := l.prog) (w := w) (base := base) bi F_x) b_x m_x
 exact ok_law bi bmn w1 w2 w7 w8 c9 v4 w6 v5 v6 F_E
theorem walk {l : PySem.W.OpenLaw} {q : Program} {loose : List Str} {XP : (Str -> Option Value) -> Heap -> Prop} {YP : World -> Heap -> Prop} {d : DefRec} {K : Params -> PySem.W.Frag} (hn : l.most = some 63) (hdf : d.params.defaults = [])
   (hY : ∀ (w : World) (h : Heap), YP w h -> (K w.params).In h)
   (F : ∀ (w : World) (mg : Str -> Option Value) (fa : Addr) (h : Heap), (K w.params).In h -> h.Ns mainGlobals mg -> mg d.name = some (.ref fa) ->
     ∃ fd : FuncData, (∀ (s : Shared) (u : Value), BindsTo s fd ⟨[u], []⟩ [("script", u)]) /\ ∀ base : Heap, (K w.params).In base -> base.Ns mainGlobals mg -> FnOk l.prog w (K w.params) mg base CX0 65 fa fd ["script"] (spLaw (K w.params))) :
   PySem.W.WalkO q loose XP YP l.row.toRowW d [] (fun f vs => PySem.call f vs) :=
 L2.walk_of (n := 63) (k := 65) (x := "script") (CX := fun _ => CX0) (sp := fun w => spLaw (K w.params)) hn (by decide) hdf ⟨rfl, by decide, by decide⟩ hY F (fun _ _ a ns hl _ hS => ⟨a, ns, rfl, hS, hl, fun _ => rfl⟩) fun _ _ _ _ _ z => z
end C
open PySem PySem.W PyProof.Rows
set_option maxRecDepth 100000 in
set_option maxHeartbeats 0 in
theorem PySem.Challenge.cw_clashbook_k27_whole_world_holds_just_the_holds : PySem.Challenge.rw_clashbook_k27_whole_world_holds_just_the.Holds := by
 w_on; o_law; k_head; (case hw => w_witness2)
 k_fill
 refine C.walk (l := PySem.Challenge.rw_clashbook_k27_whole_world_holds_just_the) rfl rfl (fun w h Y => PySem.W.kIn_of Y) ?F
 case F =>
   intro w mg fa h KX G hmg
   refine' C.all_mk KX G hmg ?aC_Growth ?a_l ?i_l ?l_l ?c_l ?k_l ?a_a ?i_a ?l_a ?c_a ?k_a ?a_o ?i_o ?l_o ?c_o ?k_o ?a_e ?i_e ?l_e ?c_e ?k_e ?pg_Growth ?hd_Growth ?po_Growth ?sa_Growth ?mk_Growth ?kc_Growth ?n_Growth_lines ?n_Growth_places ?n_Growth_above ?n_Growth_below ?a_B ?l_B ?c_B ?k_B ?a_s ?l_s ?c_s ?k_s ?a_q ?l_q ?c_q ?k_q ?a_w ?l_w ?c_w ?k_w ?a_A ?l_A ?c_A ?k_A ?a_z ?l_z ?c_z ?k_z ?a_C ?l_C ?c_C ?k_C ?a_D ?l_D ?c_D ?k_D ?a_g ?l_g ?c_g ?k_g ?a_d ?l_d ?c_d ?k_d ?a_m ?l_m ?c_m ?k_m ?a_f ?l_f ?c_f ?k_f ?a_k ?l_k ?c_k ?k_k ?a_i ?l_i ?c_i ?k_i ?a_j ?l_j ?c_j ?k_j ?a_y ?l_y ?c_y ?k_y ?a_u ?l_u ?c_u ?k_u ?a_t ?l_t ?c_t ?k_t ?a_r ?l_r ?c_r ?k_r ?a_v ?l_v ?c_v ?k_v ?a_n ?l_n ?c_n ?k_n ?a_h ?l_h ?c_h ?k_h ?a_b ?l_b ?c_b ?k_b ?a_c ?l_c ?c_c ?k_c ?a_p ?l_p ?c_p ?k_p ?a_x ?l_x ?c_x ?k_x ?a_E ?l_E ?c_E ?k_E ?z_enumerate ?z_min ?z_all ?z_bool ?z_dict ?z_int ?z_isinstance ?z_len ?z_list ?z_max ?z_range ?z_set ?z_sorted ?z_str ?z_sum ?z_tuple
   (case aC_Growth => k_is); (case a_l => k_is); (case i_l => k_is); (case l_l => k_is)
   (case c_l => k_is); (case k_l => k_is); (case a_a => k_is); (case i_a => k_is)
   (case l_a => k_is); (case c_a => k_is); (case k_a => k_is); (case a_o => k_is)
   (case i_o => k_is); (case l_o => k_is); (case c_o => k_is); (case k_o => k_is)
   (case a_e => k_is); (case i_e => k_is); (case l_e => k_is); (case c_e => k_is)
   (case k_e => k_is); (case pg_Growth => k_is); (case hd_Growth => k_is); (case po_Growth => k_is)
   (case sa_Growth => k_is); (case mk_Growth => k_is); (case kc_Growth => k_is); (case n_Growth_lines => k_is)
   (case n_Growth_places => k_is); (case n_Growth_above => k_is); (case n_Growth_below => k_is); (case a_B => k_is)
   (case l_B => k_is); (case c_B => k_is); (case k_B => k_is); (case a_s => k_is)
   (case l_s => k_is); (case c_s => k_is); (case k_s => k_is); (case a_q => k_is)
   (case l_q => k_is); (case c_q => k_is); (case k_q => k_is); (case a_w => k_is)
   (case l_w => k_is); (case c_w => k_is); (case k_w => k_is); (case a_A => k_is)
   (case l_A => k_is); (case c_A => k_is); (case k_A => k_is); (case a_z => k_is)
   (case l_z => k_is); (case c_z => k_is); (case k_z => k_is); (case a_C => k_is)
   (case l_C => k_is); (case c_C => k_is); (case k_C => k_is); (case a_D => k_is)
   (case l_D => k_is); (case c_D => k_is); (case k_D => k_is); (case a_g => k_is)
   (case l_g => k_is); (case c_g => k_is); (case k_g => k_is); (case a_d => k_is)
   (case l_d => k_is); (case c_d => k_is); (case k_d => k_is); (case a_m => k_is)
   (case l_m => k_is); (case c_m => k_is); (case k_m => k_is); (case a_f => k_is)
   (case l_f => k_is); (case c_f => k_is); (case k_f => k_is); (case a_k => k_is)
   (case l_k => k_is); (case c_k => k_is); (case k_k => k_is); (case a_i => k_is)
   (case l_i => k_is); (case c_i => k_is); (case k_i => k_is); (case a_j => k_is)
   (case l_j => k_is); (case c_j => k_is); (case k_j => k_is); (case a_y => k_is)
   (case l_y => k_is); (case c_y => k_is); (case k_y => k_is); (case a_u => k_is)
   (case l_u => k_is); (case c_u => k_is); (case k_u => k_is); (case a_t => k_is)
   (case l_t => k_is); (case c_t => k_is); (case k_t => k_is); (case a_r => k_is)
   (case l_r => k_is); (case c_r => k_is); (case k_r => k_is); (case a_v => k_is)
   (case l_v => k_is); (case c_v => k_is); (case k_v => k_is); (case a_n => k_is)
   (case l_n => k_is); (case c_n => k_is); (case k_n => k_is); (case a_h => k_is)
   (case l_h => k_is); (case c_h => k_is); (case k_h => k_is); (case a_b => k_is)
   (case l_b => k_is); (case c_b => k_is); (case k_b => k_is); (case a_c => k_is)
   (case l_c => k_is); (case c_c => k_is); (case k_c => k_is); (case a_p => k_is)
   (case l_p => k_is); (case c_p => k_is); (case k_p => k_is); (case a_x => k_is)
   (case l_x => k_is); (case c_x => k_is); (case k_x => k_is); (case a_E => k_is)
   (case l_E => k_is); (case c_E => k_is); (case k_E => k_is); (case z_enumerate => k_is)
   (case z_min => k_is); (case z_all => k_is); (case z_bool => k_is); (case z_dict => k_is)
   (case z_int => k_is); (case z_isinstance => k_is); (case z_len => k_is); (case z_list => k_is)
   (case z_max => k_is); (case z_range => k_is); (case z_set => k_is); (case z_sorted => k_is)
   (case z_str => k_is); (case z_sum => k_is); (case z_tuple => k_is)
#print axioms PySem.Challenge.cw_clashbook_k27_whole_world_holds_just_the_holds
